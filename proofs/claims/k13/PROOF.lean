import PyProof.Rows.All
import Wide.All
import OpenK.AllK
import Wide.FinOn
import HandS.ForMost
import HandS.More
import HandS.IsInst
import HandS.Defaults
import HandS.Wide
import HandS.Flow
import HandS.Walk
import HandS.Evl
import HandS.RaiseMore
import HandS.FStr
import HandS.Star
import HandS.StrMore
import HandS.TupAny
import HandS.MakeKw
import HandS.Style
import KE.LtData
import KE.IntTextLaws
import KE.IntTextText
import KE.KIntText
import PySem.Challenge.RW_spinemarks_k13_order_of_two
set_option Elab.async false
set_option linter.all false
set_option maxRecDepth 100000
set_option maxHeartbeats 4000000
set_option pp.maxSteps 400
set_option pp.deepTerms false


namespace My
open PySem PySem.Spec PyProof.Rows L2 Evl
def top (i : Nat) : Stmt := PySem.Challenge.pw_spinemarks_k13_order_of_two.main.body.getD i (.Pass ⟨0, 0, 0, 0⟩)
abbrev s_order : Stmt := top 11
theorem sc_order : FnScope ["one", "other"] ["one", "other"] (defScope s_order) := ⟨rfl, rfl, rfl, by decide +kernel, rfl, by decide +kernel, by decide +kernel⟩
abbrev s_is_number : Stmt := top 14
theorem sc_is_number : FnScope ["thing"] ["thing"] (defScope s_is_number) := ⟨rfl, rfl, rfl, by decide +kernel, rfl, by decide +kernel, by decide +kernel⟩
abbrev s_is_whole : Stmt := top 15
theorem sc_is_whole : FnScope ["thing", "low", "high"] ["thing", "low", "high"] (defScope s_is_whole) := ⟨rfl, rfl, rfl, by decide +kernel, rfl, by decide +kernel, by decide +kernel⟩
abbrev s_is_figures : Stmt := top 16
theorem sc_is_figures : FnScope ["text"] ["text"] (defScope s_is_figures) := ⟨rfl, rfl, rfl, by decide +kernel, rfl, by decide +kernel, by decide +kernel⟩
abbrev s_is_letters : Stmt := top 17
theorem sc_is_letters : FnScope ["thing", "most"] ["thing", "most"] (defScope s_is_letters) := ⟨rfl, rfl, rfl, by decide +kernel, rfl, by decide +kernel, by decide +kernel⟩
abbrev s_is_points : Stmt := top 18
theorem sc_is_points : FnScope ["thing"] ["thing"] (defScope s_is_points) := ⟨rfl, rfl, rfl, by decide +kernel, rfl, by decide +kernel, by decide +kernel⟩
abbrev s_is_maker : Stmt := top 19
theorem sc_is_maker : FnScope ["thing"] ["thing"] (defScope s_is_maker) := ⟨rfl, rfl, rfl, by decide +kernel, rfl, by decide +kernel, by decide +kernel⟩
abbrev s_is_ended : Stmt := top 20
theorem sc_is_ended : FnScope ["text"] ["text"] (defScope s_is_ended) := ⟨rfl, rfl, rfl, by decide +kernel, rfl, by decide +kernel, by decide +kernel⟩
abbrev s_Mark_init : Stmt := inClass (top 22) 0
theorem sc_Mark_init : FnScope ["self", "letters", "number", "points", "makers", "year", "copy", "kept"] ["self", "letters", "number", "points", "makers", "year", "copy"] (defScope s_Mark_init) := ⟨rfl, rfl, rfl, by decide +kernel, rfl, by decide +kernel, by decide +kernel⟩
abbrev s_Mark_eq : Stmt := inClass (top 22) 1
theorem sc_Mark_eq : FnScope ["self", "other"] ["self", "other"] (defScope s_Mark_eq) := ⟨rfl, rfl, rfl, by decide +kernel, rfl, by decide +kernel, by decide +kernel⟩
abbrev s_Mark_str : Stmt := inClass (top 22) 2
theorem sc_Mark_str : FnScope ["self"] ["self"] (defScope s_Mark_str) := ⟨rfl, rfl, rfl, by decide +kernel, rfl, by decide +kernel, by decide +kernel⟩
abbrev s_Mark_repr : Stmt := inClass (top 22) 3
theorem sc_Mark_repr : FnScope ["self"] ["self"] (defScope s_Mark_repr) := ⟨rfl, rfl, rfl, by decide +kernel, rfl, by decide +kernel, by decide +kernel⟩
abbrev s_Mark_len : Stmt := inClass (top 22) 4
theorem sc_Mark_len : FnScope ["self"] ["self"] (defScope s_Mark_len) := ⟨rfl, rfl, rfl, by decide +kernel, rfl, by decide +kernel, by decide +kernel⟩
abbrev s_Mark_letters : Stmt := inClass (top 22) 5
theorem sc_Mark_letters : FnScope ["self"] ["self"] (defScope s_Mark_letters) := ⟨rfl, rfl, rfl, by decide +kernel, rfl, by decide +kernel, by decide +kernel⟩
abbrev s_Mark_number : Stmt := inClass (top 22) 6
theorem sc_Mark_number : FnScope ["self"] ["self"] (defScope s_Mark_number) := ⟨rfl, rfl, rfl, by decide +kernel, rfl, by decide +kernel, by decide +kernel⟩
abbrev s_Mark_points : Stmt := inClass (top 22) 7
theorem sc_Mark_points : FnScope ["self"] ["self"] (defScope s_Mark_points) := ⟨rfl, rfl, rfl, by decide +kernel, rfl, by decide +kernel, by decide +kernel⟩
abbrev s_Mark_makers : Stmt := inClass (top 22) 8
theorem sc_Mark_makers : FnScope ["self"] ["self"] (defScope s_Mark_makers) := ⟨rfl, rfl, rfl, by decide +kernel, rfl, by decide +kernel, by decide +kernel⟩
abbrev s_Mark_year : Stmt := inClass (top 22) 9
theorem sc_Mark_year : FnScope ["self"] ["self"] (defScope s_Mark_year) := ⟨rfl, rfl, rfl, by decide +kernel, rfl, by decide +kernel, by decide +kernel⟩
abbrev s_Mark_copy_number : Stmt := inClass (top 22) 10
theorem sc_Mark_copy_number : FnScope ["self"] ["self"] (defScope s_Mark_copy_number) := ⟨rfl, rfl, rfl, by decide +kernel, rfl, by decide +kernel, by decide +kernel⟩
abbrev s_Mark_parts : Stmt := inClass (top 22) 11
theorem sc_Mark_parts : FnScope ["self"] ["self"] (defScope s_Mark_parts) := ⟨rfl, rfl, rfl, by decide +kernel, rfl, by decide +kernel, by decide +kernel⟩
abbrev s_Mark_key : Stmt := inClass (top 22) 12
theorem sc_Mark_key : FnScope ["self", "letters", "number", "points", "makers", "year", "copy"] ["self"] (defScope s_Mark_key) := ⟨rfl, rfl, rfl, by decide +kernel, rfl, by decide +kernel, by decide +kernel⟩
abbrev s_Mark_ahead : Stmt := inClass (top 22) 13
theorem sc_Mark_ahead : FnScope ["self", "other"] ["self", "other"] (defScope s_Mark_ahead) := ⟨rfl, rfl, rfl, by decide +kernel, rfl, by decide +kernel, by decide +kernel⟩
abbrev s_Mark_head : Stmt := inClass (top 22) 14
theorem sc_Mark_head : FnScope ["self", "letters", "number", "points", "_"] ["self"] (defScope s_Mark_head) := ⟨rfl, rfl, rfl, by decide +kernel, rfl, by decide +kernel, by decide +kernel⟩
abbrev s_Mark_book : Stmt := inClass (top 22) 15
theorem sc_Mark_book : FnScope ["self"] ["self"] (defScope s_Mark_book) := ⟨rfl, rfl, rfl, by decide +kernel, rfl, by decide +kernel, by decide +kernel⟩
abbrev s_Mark_with_year : Stmt := inClass (top 22) 16
theorem sc_Mark_with_year : FnScope ["self", "year"] ["self", "year"] (defScope s_Mark_with_year) := ⟨rfl, rfl, rfl, by decide +kernel, rfl, by decide +kernel, by decide +kernel⟩
abbrev s_Mark_with_copy : Stmt := inClass (top 22) 17
theorem sc_Mark_with_copy : FnScope ["self", "copy"] ["self", "copy"] (defScope s_Mark_with_copy) := ⟨rfl, rfl, rfl, by decide +kernel, rfl, by decide +kernel, by decide +kernel⟩
abbrev s_Mark_same_book : Stmt := inClass (top 22) 18
theorem sc_Mark_same_book : FnScope ["self", "other"] ["self", "other"] (defScope s_Mark_same_book) := ⟨rfl, rfl, rfl, by decide +kernel, rfl, by decide +kernel, by decide +kernel⟩
abbrev s_kept_makers : Stmt := top 23
theorem sc_kept_makers : FnScope ["makers", "maker"] ["makers"] (defScope s_kept_makers) := ⟨rfl, rfl, rfl, by decide +kernel, rfl, by decide +kernel, by decide +kernel⟩
abbrev s_text_of : Stmt := top 24
theorem sc_text_of : FnScope ["parts", "letters", "number", "points", "makers", "year", "copy", "head", "words"] ["parts"] (defScope s_text_of) := ⟨rfl, rfl, rfl, by decide +kernel, rfl, by decide +kernel, by decide +kernel⟩
abbrev s_l_pool : Stmt := top 26
theorem sc_l_pool : FnScope ["_law_cell", "_law_number", "_law_k", "_law_mix"] ["_law_cell"] (defScope s_l_pool) := ⟨rfl, rfl, rfl, by decide +kernel, rfl, by decide +kernel, by decide +kernel⟩
abbrev s_l_take : Stmt := top 27
theorem sc_l_take : FnScope ["_law_pool_here", "_law_size", "_law_found"] ["_law_pool_here", "_law_size"] (defScope s_l_take) := ⟨rfl, rfl, rfl, by decide +kernel, rfl, by decide +kernel, by decide +kernel⟩
abbrev s_l_figures : Stmt := top 28
theorem sc_l_figures : FnScope ["_law_pool_here", "_law_most", "_law_signs", "_law_k"] ["_law_pool_here", "_law_most"] (defScope s_l_figures) := ⟨rfl, rfl, rfl, by decide +kernel, rfl, by decide +kernel, by decide +kernel⟩
abbrev s_l_maker : Stmt := top 29
theorem sc_l_maker : FnScope ["_law_pool_here", "_law_most", "_law_letter"] ["_law_pool_here", "_law_most"] (defScope s_l_maker) := ⟨rfl, rfl, rfl, by decide +kernel, rfl, by decide +kernel, by decide +kernel⟩
abbrev s_l_parts : Stmt := top 30
theorem sc_l_parts : FnScope ["_law_pool_here", "_law_most", "_law_letters", "_law_k", "_law_number", "_law_tens", "_law_hands", "_law_age", "_law_twin"] ["_law_pool_here"] (defScope s_l_parts) := ⟨rfl, rfl, rfl, by decide +kernel, rfl, by decide +kernel, by decide +kernel⟩
abbrev s_l_near_word : Stmt := top 31
theorem sc_l_near_word : FnScope ["_law_word", "_law_pool_here", "_law_more", "_law_kept"] ["_law_word", "_law_pool_here"] (defScope s_l_near_word) := ⟨rfl, rfl, rfl, by decide +kernel, rfl, by decide +kernel, by decide +kernel⟩
abbrev s_l_near_makers : Stmt := top 32
theorem sc_l_near_makers : FnScope ["_law_hands", "_law_pool_here", "_law_way", "_law_kept", "_law_maker_here"] ["_law_hands", "_law_pool_here"] (defScope s_l_near_makers) := ⟨rfl, rfl, rfl, by decide +kernel, rfl, by decide +kernel, by decide +kernel⟩
abbrev s_l_near_year : Stmt := top 33
theorem sc_l_near_year : FnScope ["_law_age", "_law_pool_here", "_law_way"] ["_law_age", "_law_pool_here"] (defScope s_l_near_year) := ⟨rfl, rfl, rfl, by decide +kernel, rfl, by decide +kernel, by decide +kernel⟩
abbrev s_l_near_copy : Stmt := top 34
theorem sc_l_near_copy : FnScope ["_law_twin", "_law_pool_here", "_law_digits"] ["_law_twin", "_law_pool_here"] (defScope s_l_near_copy) := ⟨rfl, rfl, rfl, by decide +kernel, rfl, by decide +kernel, by decide +kernel⟩
abbrev s_l_near : Stmt := top 35
theorem sc_l_near : FnScope ["_law_parts_here", "_law_at", "_law_pool_here", "_law_tail", "_law_row"] ["_law_parts_here", "_law_at", "_law_pool_here"] (defScope s_l_near) := ⟨rfl, rfl, rfl, by decide +kernel, rfl, by decide +kernel, by decide +kernel⟩
abbrev s_l_mark : Stmt := top 36
theorem sc_l_mark : FnScope ["_law_parts_here"] ["_law_parts_here"] (defScope s_l_mark) := ⟨rfl, rfl, rfl, by decide +kernel, rfl, by decide +kernel, by decide +kernel⟩
abbrev s_l_key : Stmt := top 37
theorem sc_l_key : FnScope ["_law_parts_here", "_law_age", "_law_twin"] ["_law_parts_here"] (defScope s_l_key) := ⟨rfl, rfl, rfl, by decide +kernel, rfl, by decide +kernel, by decide +kernel⟩
abbrev s_l_order : Stmt := top 38
theorem sc_l_order : FnScope ["_law_fore", "_law_mate"] ["_law_fore", "_law_mate"] (defScope s_l_order) := ⟨rfl, rfl, rfl, by decide +kernel, rfl, by decide +kernel, by decide +kernel⟩
abbrev s_l_whole : Stmt := top 39
theorem sc_l_whole : FnScope ["_law_found"] ["_law_found"] (defScope s_l_whole) := ⟨rfl, rfl, rfl, by decide +kernel, rfl, by decide +kernel, by decide +kernel⟩
abbrev s_l_both_ways : Stmt := top 40
theorem sc_l_both_ways : FnScope ["_law_fore", "_law_mate", "_law_due", "_law_there", "_law_back"] ["_law_fore", "_law_mate"] (defScope s_l_both_ways) := ⟨rfl, rfl, rfl, by decide +kernel, rfl, by decide +kernel, by decide +kernel⟩
abbrev s_law : Stmt := top 41
theorem sc_law : FnScope ["_law_script", "_law_elder", "_law_cell", "_law_pool_here", "_law_at", "_law_fore", "_law_mate", "_law_row"] ["_law_script"] (defScope s_law) := ⟨rfl, rfl, rfl, by decide +kernel, rfl, by decide +kernel, by decide +kernel⟩
/-- where the defs and classes stand -/
structure Adr where
  (a_order a_is_number a_is_whole a_is_figures a_is_letters a_is_points a_is_maker a_is_ended a_Mark_init a_Mark_eq a_Mark_str a_Mark_repr a_Mark_len a_Mark_letters a_Mark_number a_Mark_points a_Mark_makers a_Mark_year a_Mark_copy_number a_Mark_parts a_Mark_key a_Mark_ahead a_Mark_head a_Mark_book a_Mark_with_year a_Mark_with_copy a_Mark_same_book a_kept_makers a_text_of a_l_pool a_l_take a_l_figures a_l_maker a_l_parts a_l_near_word a_l_near_makers a_l_near_year a_l_near_copy a_l_near a_l_mark a_l_key a_l_order a_l_whole a_l_both_ways a_law : Addr)
  (d_order d_is_number d_is_whole d_is_figures d_is_letters d_is_points d_is_maker d_is_ended d_Mark_init d_Mark_eq d_Mark_str d_Mark_repr d_Mark_len d_Mark_letters d_Mark_number d_Mark_points d_Mark_makers d_Mark_year d_Mark_copy_number d_Mark_parts d_Mark_key d_Mark_ahead d_Mark_head d_Mark_book d_Mark_with_year d_Mark_with_copy d_Mark_same_book d_kept_makers d_text_of d_l_pool d_l_take d_l_figures d_l_maker d_l_parts d_l_near_word d_l_near_makers d_l_near_year d_l_near_copy d_l_near d_l_mark d_l_key d_l_order d_l_whole d_l_both_ways d_law : FuncData)
  (C_Mark : Addr)
/-- what the top has written -/
structure Txt (K : PySem.W.Frag) (mg : Str → Option Value) (Z : Adr) : Prop where
  F_order : Fun K "order" "order" s_order Z.a_order Z.d_order
  g_order : mg "order" = some (.ref Z.a_order)
  b_order : Binds K Z.d_order ["one", "other"] []
  F_is_number : Fun K "is_number" "is_number" s_is_number Z.a_is_number Z.d_is_number
  g_is_number : mg "is_number" = some (.ref Z.a_is_number)
  b_is_number : Binds K Z.d_is_number ["thing"] []
  F_is_whole : FunD K "is_whole" "is_whole" (defArgs s_is_whole) (defBody s_is_whole) (defScope s_is_whole) [.non] [] Z.a_is_whole Z.d_is_whole
  g_is_whole : mg "is_whole" = some (.ref Z.a_is_whole)
  b_is_whole : Binds K Z.d_is_whole ["thing", "low", "high"] []
  b_is_whole_2 : ∃ ds, Vals [.non] ds ∧ Binds K Z.d_is_whole ["thing", "low", "high"] ds
  F_is_figures : Fun K "is_figures" "is_figures" s_is_figures Z.a_is_figures Z.d_is_figures
  g_is_figures : mg "is_figures" = some (.ref Z.a_is_figures)
  b_is_figures : Binds K Z.d_is_figures ["text"] []
  F_is_letters : Fun K "is_letters" "is_letters" s_is_letters Z.a_is_letters Z.d_is_letters
  g_is_letters : mg "is_letters" = some (.ref Z.a_is_letters)
  b_is_letters : Binds K Z.d_is_letters ["thing", "most"] []
  F_is_points : Fun K "is_points" "is_points" s_is_points Z.a_is_points Z.d_is_points
  g_is_points : mg "is_points" = some (.ref Z.a_is_points)
  b_is_points : Binds K Z.d_is_points ["thing"] []
  F_is_maker : Fun K "is_maker" "is_maker" s_is_maker Z.a_is_maker Z.d_is_maker
  g_is_maker : mg "is_maker" = some (.ref Z.a_is_maker)
  b_is_maker : Binds K Z.d_is_maker ["thing"] []
  F_is_ended : Fun K "_is_ended" "_is_ended" s_is_ended Z.a_is_ended Z.d_is_ended
  g_is_ended : mg "_is_ended" = some (.ref Z.a_is_ended)
  b_is_ended : Binds K Z.d_is_ended ["text"] []
  F_Mark_init : FunD K "__init__" "Mark.__init__" (defArgs s_Mark_init) (defBody s_Mark_init) (defScope s_Mark_init) [.str Str.empty, .non, .non, .non] [] Z.a_Mark_init Z.d_Mark_init
  b_Mark_init : Binds K Z.d_Mark_init ["self", "letters", "number", "points", "makers", "year", "copy"] []
  b_Mark_init_k3_points_makers_year_copy : ∃ its : List Value, KBn K Z.d_Mark_init ["self", "letters", "number", "points", "makers", "year", "copy"] 3 ["points", "makers", "year", "copy"] (fun us ws => us ++ (ws.drop 0).take 1 ++ (ws.drop 1).take 1 ++ (ws.drop 2).take 1 ++ (ws.drop 3).take 1) (fun vs zs => vs ++ (zs.drop 0).take 1 ++ (zs.drop 1).take 1 ++ (zs.drop 2).take 1 ++ (zs.drop 3).take 1)
  b_Mark_init_4 : ∃ ds, Vals [.non, .non, .non] ds ∧ Binds K Z.d_Mark_init ["self", "letters", "number", "points", "makers", "year", "copy"] ds
  F_Mark_eq : Fun K "__eq__" "Mark.__eq__" s_Mark_eq Z.a_Mark_eq Z.d_Mark_eq
  m_Mark_eq : Meth K Z.C_Mark "__eq__" Z.a_Mark_eq
  b_Mark_eq : Binds K Z.d_Mark_eq ["self", "other"] []
  F_Mark_str : Fun K "__str__" "Mark.__str__" s_Mark_str Z.a_Mark_str Z.d_Mark_str
  m_Mark_str : Meth K Z.C_Mark "__str__" Z.a_Mark_str
  b_Mark_str : Binds K Z.d_Mark_str ["self"] []
  F_Mark_repr : Fun K "__repr__" "Mark.__repr__" s_Mark_repr Z.a_Mark_repr Z.d_Mark_repr
  m_Mark_repr : Meth K Z.C_Mark "__repr__" Z.a_Mark_repr
  b_Mark_repr : Binds K Z.d_Mark_repr ["self"] []
  F_Mark_len : Fun K "__len__" "Mark.__len__" s_Mark_len Z.a_Mark_len Z.d_Mark_len
  m_Mark_len : Meth K Z.C_Mark "__len__" Z.a_Mark_len
  b_Mark_len : Binds K Z.d_Mark_len ["self"] []
  F_Mark_letters : Fun K "letters" "Mark.letters" s_Mark_letters Z.a_Mark_letters Z.d_Mark_letters
  m_Mark_letters : Meth K Z.C_Mark "letters" Z.a_Mark_letters
  b_Mark_letters : Binds K Z.d_Mark_letters ["self"] []
  F_Mark_number : Fun K "number" "Mark.number" s_Mark_number Z.a_Mark_number Z.d_Mark_number
  m_Mark_number : Meth K Z.C_Mark "number" Z.a_Mark_number
  b_Mark_number : Binds K Z.d_Mark_number ["self"] []
  F_Mark_points : Fun K "points" "Mark.points" s_Mark_points Z.a_Mark_points Z.d_Mark_points
  m_Mark_points : Meth K Z.C_Mark "points" Z.a_Mark_points
  b_Mark_points : Binds K Z.d_Mark_points ["self"] []
  F_Mark_makers : Fun K "makers" "Mark.makers" s_Mark_makers Z.a_Mark_makers Z.d_Mark_makers
  m_Mark_makers : Meth K Z.C_Mark "makers" Z.a_Mark_makers
  b_Mark_makers : Binds K Z.d_Mark_makers ["self"] []
  F_Mark_year : Fun K "year" "Mark.year" s_Mark_year Z.a_Mark_year Z.d_Mark_year
  m_Mark_year : Meth K Z.C_Mark "year" Z.a_Mark_year
  b_Mark_year : Binds K Z.d_Mark_year ["self"] []
  F_Mark_copy_number : Fun K "copy_number" "Mark.copy_number" s_Mark_copy_number Z.a_Mark_copy_number Z.d_Mark_copy_number
  m_Mark_copy_number : Meth K Z.C_Mark "copy_number" Z.a_Mark_copy_number
  b_Mark_copy_number : Binds K Z.d_Mark_copy_number ["self"] []
  F_Mark_parts : Fun K "parts" "Mark.parts" s_Mark_parts Z.a_Mark_parts Z.d_Mark_parts
  m_Mark_parts : Meth K Z.C_Mark "parts" Z.a_Mark_parts
  b_Mark_parts : Binds K Z.d_Mark_parts ["self"] []
  F_Mark_key : Fun K "key" "Mark.key" s_Mark_key Z.a_Mark_key Z.d_Mark_key
  m_Mark_key : Meth K Z.C_Mark "key" Z.a_Mark_key
  b_Mark_key : Binds K Z.d_Mark_key ["self"] []
  F_Mark_ahead : Fun K "ahead" "Mark.ahead" s_Mark_ahead Z.a_Mark_ahead Z.d_Mark_ahead
  m_Mark_ahead : Meth K Z.C_Mark "ahead" Z.a_Mark_ahead
  b_Mark_ahead : Binds K Z.d_Mark_ahead ["self", "other"] []
  F_Mark_head : Fun K "head" "Mark.head" s_Mark_head Z.a_Mark_head Z.d_Mark_head
  m_Mark_head : Meth K Z.C_Mark "head" Z.a_Mark_head
  b_Mark_head : Binds K Z.d_Mark_head ["self"] []
  F_Mark_book : Fun K "book" "Mark.book" s_Mark_book Z.a_Mark_book Z.d_Mark_book
  m_Mark_book : Meth K Z.C_Mark "book" Z.a_Mark_book
  b_Mark_book : Binds K Z.d_Mark_book ["self"] []
  F_Mark_with_year : FunD K "with_year" "Mark.with_year" (defArgs s_Mark_with_year) (defBody s_Mark_with_year) (defScope s_Mark_with_year) [.non] [] Z.a_Mark_with_year Z.d_Mark_with_year
  m_Mark_with_year : Meth K Z.C_Mark "with_year" Z.a_Mark_with_year
  b_Mark_with_year : Binds K Z.d_Mark_with_year ["self", "year"] []
  F_Mark_with_copy : FunD K "with_copy" "Mark.with_copy" (defArgs s_Mark_with_copy) (defBody s_Mark_with_copy) (defScope s_Mark_with_copy) [.non] [] Z.a_Mark_with_copy Z.d_Mark_with_copy
  m_Mark_with_copy : Meth K Z.C_Mark "with_copy" Z.a_Mark_with_copy
  b_Mark_with_copy : Binds K Z.d_Mark_with_copy ["self", "copy"] []
  F_Mark_same_book : Fun K "same_book" "Mark.same_book" s_Mark_same_book Z.a_Mark_same_book Z.d_Mark_same_book
  m_Mark_same_book : Meth K Z.C_Mark "same_book" Z.a_Mark_same_book
  b_Mark_same_book : Binds K Z.d_Mark_same_book ["self", "other"] []
  F_kept_makers : Fun K "_kept_makers" "_kept_makers" s_kept_makers Z.a_kept_makers Z.d_kept_makers
  g_kept_makers : mg "_kept_makers" = some (.ref Z.a_kept_makers)
  b_kept_makers : Binds K Z.d_kept_makers ["makers"] []
  F_text_of : Fun K "_text_of" "_text_of" s_text_of Z.a_text_of Z.d_text_of
  g_text_of : mg "_text_of" = some (.ref Z.a_text_of)
  b_text_of : Binds K Z.d_text_of ["parts"] []
  F_l_pool : Fun K "_law_pool" "_law_pool" s_l_pool Z.a_l_pool Z.d_l_pool
  g_l_pool : mg "_law_pool" = some (.ref Z.a_l_pool)
  b_l_pool : Binds K Z.d_l_pool ["_law_cell"] []
  F_l_take : Fun K "_law_take" "_law_take" s_l_take Z.a_l_take Z.d_l_take
  g_l_take : mg "_law_take" = some (.ref Z.a_l_take)
  b_l_take : Binds K Z.d_l_take ["_law_pool_here", "_law_size"] []
  F_l_figures : Fun K "_law_figures" "_law_figures" s_l_figures Z.a_l_figures Z.d_l_figures
  g_l_figures : mg "_law_figures" = some (.ref Z.a_l_figures)
  b_l_figures : Binds K Z.d_l_figures ["_law_pool_here", "_law_most"] []
  F_l_maker : Fun K "_law_maker" "_law_maker" s_l_maker Z.a_l_maker Z.d_l_maker
  g_l_maker : mg "_law_maker" = some (.ref Z.a_l_maker)
  b_l_maker : Binds K Z.d_l_maker ["_law_pool_here", "_law_most"] []
  F_l_parts : Fun K "_law_parts" "_law_parts" s_l_parts Z.a_l_parts Z.d_l_parts
  g_l_parts : mg "_law_parts" = some (.ref Z.a_l_parts)
  b_l_parts : Binds K Z.d_l_parts ["_law_pool_here"] []
  F_l_near_word : Fun K "_law_near_word" "_law_near_word" s_l_near_word Z.a_l_near_word Z.d_l_near_word
  g_l_near_word : mg "_law_near_word" = some (.ref Z.a_l_near_word)
  b_l_near_word : Binds K Z.d_l_near_word ["_law_word", "_law_pool_here"] []
  F_l_near_makers : Fun K "_law_near_makers" "_law_near_makers" s_l_near_makers Z.a_l_near_makers Z.d_l_near_makers
  g_l_near_makers : mg "_law_near_makers" = some (.ref Z.a_l_near_makers)
  b_l_near_makers : Binds K Z.d_l_near_makers ["_law_hands", "_law_pool_here"] []
  F_l_near_year : Fun K "_law_near_year" "_law_near_year" s_l_near_year Z.a_l_near_year Z.d_l_near_year
  g_l_near_year : mg "_law_near_year" = some (.ref Z.a_l_near_year)
  b_l_near_year : Binds K Z.d_l_near_year ["_law_age", "_law_pool_here"] []
  F_l_near_copy : Fun K "_law_near_copy" "_law_near_copy" s_l_near_copy Z.a_l_near_copy Z.d_l_near_copy
  g_l_near_copy : mg "_law_near_copy" = some (.ref Z.a_l_near_copy)
  b_l_near_copy : Binds K Z.d_l_near_copy ["_law_twin", "_law_pool_here"] []
  F_l_near : Fun K "_law_near" "_law_near" s_l_near Z.a_l_near Z.d_l_near
  g_l_near : mg "_law_near" = some (.ref Z.a_l_near)
  b_l_near : Binds K Z.d_l_near ["_law_parts_here", "_law_at", "_law_pool_here"] []
  F_l_mark : Fun K "_law_mark" "_law_mark" s_l_mark Z.a_l_mark Z.d_l_mark
  g_l_mark : mg "_law_mark" = some (.ref Z.a_l_mark)
  b_l_mark : Binds K Z.d_l_mark ["_law_parts_here"] []
  F_l_key : Fun K "_law_key" "_law_key" s_l_key Z.a_l_key Z.d_l_key
  g_l_key : mg "_law_key" = some (.ref Z.a_l_key)
  b_l_key : Binds K Z.d_l_key ["_law_parts_here"] []
  F_l_order : Fun K "_law_order" "_law_order" s_l_order Z.a_l_order Z.d_l_order
  g_l_order : mg "_law_order" = some (.ref Z.a_l_order)
  b_l_order : Binds K Z.d_l_order ["_law_fore", "_law_mate"] []
  F_l_whole : Fun K "_law_whole" "_law_whole" s_l_whole Z.a_l_whole Z.d_l_whole
  g_l_whole : mg "_law_whole" = some (.ref Z.a_l_whole)
  b_l_whole : Binds K Z.d_l_whole ["_law_found"] []
  F_l_both_ways : Fun K "_law_both_ways" "_law_both_ways" s_l_both_ways Z.a_l_both_ways Z.d_l_both_ways
  g_l_both_ways : mg "_law_both_ways" = some (.ref Z.a_l_both_ways)
  b_l_both_ways : Binds K Z.d_l_both_ways ["_law_fore", "_law_mate"] []
  F_law : Fun K "law" "law" s_law Z.a_law Z.d_law
  g_law : mg "law" = some (.ref Z.a_law)
  b_law : Binds K Z.d_law ["_law_script"] []
  g_Mark : mg "Mark" = some (.ref Z.C_Mark)
  cl_Mark : Cls K Z.C_Mark
  M_Mark : Mk K Z.C_Mark Z.a_Mark_init
  t1_Mark : PySem.W.findIn K (.ref Z.C_Mark) "__class__" = some (some (.builtin "object.__class__"))
  t4_Mark : PySem.W.mroIn K Z.C_Mark (.type "object") = some true
  t2_Mark : PySem.W.specialIn K (.builtin "object.__class__") "__get__" = some (some (.builtin "getset_descriptor.__get__"))
  t3_Mark : PySem.W.takesIn K (.builtin "object.__class__") = some true
  na_Mark_parts : NoAttr K Z.C_Mark "_parts"
  na_Mark_text : NoAttr K Z.C_Mark "_text"
  n_len : mg "len" = none
  n_isinstance : mg "isinstance" = none
  n_range : mg "range" = none
  n_max : mg "max" = none
  n_int : mg "int" = none
  n_bool : mg "bool" = none
  n_str : mg "str" = none
  n_list : mg "list" = none
  n_tuple : mg "tuple" = none
  c_SMALL : ∃ t, mg "SMALL" = some (.str "abcdefghijklmnopqrstuvwxyz" t)
theorem vals_dt : ∀ {vs : List V} {us : List Value} (n : Nat), Vals vs us → Vals ((vs.drop n).take 1) ((us.drop n).take 1)
  | _, _, n, .nil => by cases n <;> exact .nil
  | _, _, 0, .cons h r => .cons h .nil
  | _, _, n + 1, .cons h r => vals_dt n r
/-- what makes a list that may change -/
def tMut (t : TE) : TE := t
theorem peM {X : Cx} {e : Expr} {te : TE} (h : PE X e te) : PE X e (tMut te) := h
/-! rules by name -/
def qAddS : R2 := fun x y H Q => ∃ i j, x = .str i ∧ y = .str j ∧ i.length + j.length ≤ sizeLine ∧ Q (.str (i ++ j)) H
theorem op_addS {X : Cx} : OpR X (binaryOp .Add) qAddS := op_add_str
def qLenS : List V → Hp → VK → Prop := fun xs H Q => ∃ z, xs = [.str z] ∧ z.length ≤ sizeLine ∧ Q (.int z.length) H
theorem call_lenS {X : Cx} : CallR X (.builtin "len") qLenS := call_len_str
def qStrI : List V → Hp → VK → Prop := fun xs H Q => ∃ i : Int, xs = [.int i] ∧ i.natAbs.log2 < 1920 ∧ Q (.str (toString i)) H
theorem call_strI {X : Cx} : CallR X (.type "str") qStrI := call_str_int
def qStrS : List V → Hp → VK → Prop := fun xs H Q => ∃ a, xs = [.str a] ∧ Q (.str a) H
theorem call_strS {X : Cx} : CallR X (.type "str") qStrS := SkE.call_str_str
def qInt1 : List V → Hp → VK → Prop := fun xs H Q => (∃ i, xs = [.int i] ∧ Q (.int i) H) ∨ ∃ k, xs = [.bl k] ∧ Q (.int (if k then 1 else 0)) H
theorem call_intq {X : Cx} : CallR X (.type "int") qInt1 := call_int1
def qIntS : List V → Hp → VK → Prop := fun xs H Q => ∃ a n, xs = [.str a] ∧ PySem.intText? a = some n ∧ a.length ≤ 640 ∧ Q (.int n) H
theorem call_intS {X : Cx} : CallR X (.type "int") qIntS := call_int_str
def qMax2 : List V → Hp → VK → Prop := fun xs H Q => ∃ i j, xs = [.int i, .int j] ∧ Q (.int (if j > i then j else i)) H
theorem call_maxq {X : Cx} (hc : X.calm = true) : CallR X (.builtin "max") qMax2 := call_max2 hc
def qMin2 : List V → Hp → VK → Prop := fun xs H Q => ∃ i j, xs = [.int i, .int j] ∧ Q (.int (if j < i then j else i)) H
theorem call_minq {X : Cx} (hc : X.calm = true) : CallR X (.builtin "min") qMin2 := call_min2 hc
def qLtS : R2 := fun x y H Q => ∃ i j, x = .str i ∧ y = .str j ∧ Q (.bl (decide (i.cps.toList < j.cps.toList))) H
theorem op_ltS {X : Cx} : OpR X (compareOp .Lt) qLtS := op_lt_str
def qInS : R2 := fun x y H Q => ∃ (c : Nat) (z : Str), x = .str ⟨#[c]⟩ ∧ y = .str z ∧ Q (.bl (decide (c ∈ z.cps.toList))) H
theorem op_inq {X : Cx} : OpR X (compareOp .In) qInS := op_in_sign
def qNotInS : R2 := fun x y H Q => ∃ (c : Nat) (z : Str), x = .str ⟨#[c]⟩ ∧ y = .str z ∧ Q (.bl (!decide (c ∈ z.cps.toList))) H
theorem op_notInq {X : Cx} : OpR X (compareOp .NotIn) qNotInS := op_notIn_sign
def qIsN : R2 := fun x y H Q => y = .non ∧ Q (.bl (decide (x = .non))) H
theorem op_isNq {X : Cx} : OpR X (compareOp .Is) qIsN := op_isN
def qNotN : R2 := fun x y H Q => y = .non ∧ Q (.bl (!decide (x = .non))) H
theorem op_notNq {X : Cx} : OpR X (compareOp .IsNot) qNotN := op_notN
def tJoinS (ts : List TE) : TE := fun σ H Q => tJs ts Str.empty σ H fun out H1 => Q (.str out) H1
theorem pe_joinedq {X : Cx} {v1 v2 : Expr} {rest : List Expr} {ts : List TE} {pos : Pos} (h : PJ X (v1 :: v2 :: rest) ts) : PE X (.JoinedStr (v1 :: v2 :: rest) pos) (tJoinS ts) := pe_joined h
def tTru (K : PySem.W.Frag) (ta : TE) : TT := fun σ H Q => ta σ H fun x H' => ∃ k, TruV K x H' k ∧ Q k H'
theorem pt_truthq {X : Cx} {a : Expr} {ta : TE} (ha : PE X a ta) (he : ∀ whole, isTrue a X.env whole = (do let v ← whole; standAt a.pos; holding [v] (truthy v))) : PT X a (tTru X.K ta) := pt_truth ha he
/-! rules with the written part told by name (for what stands within a comprehension) -/
section
variable (K : PySem.W.Frag) {X : Cx}
theorem ixL (hK : X.K = K := by rfl) : IxR X (rIxL K) := by subst hK; exact ix_list
theorem ixT (hK : X.K = K := by rfl) : IxR X (rIxT K) := by subst hK; exact ix_tup
theorem slL (hK : X.K = K := by rfl) : SlR X (rSlL K) := by subst hK; exact sl_list
theorem lenQ (hK : X.K = K := by rfl) : CallR X (.builtin "len") (rLenS K) := by subst hK; exact call_len_seq
theorem sumK (hc : X.calm = true) (hK : X.K = K := by rfl) : CallR X (.builtin "sum") (rSum K) := by subst hK; exact cr_sum hc
theorem isiK (hK : X.K = K := by rfl) : CallR X (.builtin "isinstance") (rIsi K) := by subst hK; exact call_isi
theorem isiTK (hK : X.K = K := by rfl) : CallR X (.builtin "isinstance") (rIsiT K) := by subst hK; exact call_isiT
theorem listK (hK : X.K = K := by rfl) : CallR X (.type "list") (rListS K) := by subst hK; exact call_list_of
def rTupOf (K : PySem.W.Frag) : List V → Hp → VK → Prop := fun xs H Q => ∃ p ys, xs = [.ref p] ∧ ((SqL K H p ys ∧ ∀ l, H l = none → Q (.ref l) (upd H l (.tup ys))) ∨ (SqT K H p ys ∧ Q (.ref p) H))
theorem tupK (hK : X.K = K := by rfl) : CallR X (.type "tuple") (rTupOf K) := by subst hK; exact call_tuple_of
theorem inQ (hK : X.K = K := by rfl) : OpR X (compareOp .In) (rIn K false) := by subst hK; exact op_in_seq
theorem notInQ (hK : X.K = K := by rfl) : OpR X (compareOp .NotIn) (rIn K true) := by subst hK; exact op_notIn_seq
theorem eqDK (hu : X.A.units + 64 < cLine) (hK : X.K = K := by rfl) : OpR X (compareOp .Eq) (rEqD K) := by subst hK; exact op_eqD hu
theorem neDK (hu : X.A.units + 64 < cLine) (hK : X.K = K := by rfl) : OpR X (compareOp .NotEq) (rNeD K) := by subst hK; exact op_neD hu
theorem fldK {e : Expr} {f : Str} {pos : Pos} {ta : TE} (he : PE X e ta) (hb : attributeBase e f X.env (eval e X.env) = eval e X.env) (hK : X.K = K := by rfl) : PE X (.Attribute e f pos) (tFld K ta f) := by subst hK; exact pe_fld he hb
theorem bmK {o e : Expr} {es : List Expr} {to : TE} {t : TA} {name : Str} {apos cpos : Pos} {T id : String} {r : V → List V → Hp → VK → Prop} (pa : PlainAttrs T) (slot : Slot T name id) (hty : typeOf (.builtin id) = pure (.type "method_descriptor")) (hm : MtR X id r) (ho : PE X o to) (ha : PA X (e :: es) t)
    (hK : X.K = K := by rfl) (hbase : attributeBase o name X.env (eval o X.env) = eval o X.env := by rfl)
    (hfew : ((backTo cpos (starEach (e :: es) X.env)).all (fun x => !x.1) && (backToKw cpos (keywordEach [] X.env)).all (fun x => x.1.isSome)
      && decide ((e :: es).length + ([] : List Keyword).length + (if ([] : List Keyword).isEmpty then 0 else 1) < 30)) = true := by rfl)
    (hline : (apos.endLine == cpos.line) = true := by rfl) (hs : starEach (e :: es) X.env = (false, eval e X.env) :: starEach es X.env := by rfl) (hplain : (backTo cpos (starEach es X.env)).any (·.1) = false := by rfl) :
    PE X (.Call (.Attribute o name apos) (e :: es) [] cpos) (tBM K T r to t) := by subst hK; exact pe_bm pa slot hty hm ho ha hbase hfew hline hs hplain
def rJoin (K : PySem.W.Frag) : V → List V → Hp → VK → Prop := fun x xs H Q => ∃ a p, ∃ ys : List Str, x = .str a ∧ xs = [.ref p] ∧ (SqL K H p (ys.map V.str) ∨ SqT K H p (ys.map V.str)) ∧
      (ys.map (·.length)).sum + ys.length * a.length ≤ 16777216 ∧ Q (.str (Txt.join a ys)) H
theorem joinK {o e : Expr} {to te : TE} {apos pos : Pos} (ho : PE X o to) (he : PE X e te) (hK : X.K = K := by rfl) (hs : starEach [e] X.env = [(false, eval e X.env)] := by rfl) (hbase : attributeBase o "join" X.env (eval o X.env) = eval o X.env := by rfl) (hline : (apos.endLine == pos.line) = true := by rfl) :
    PE X (.Call (.Attribute o "join" apos) [e] [] pos) (tM1 (rJoin K) to te) := by subst hK; exact pe_join ho he hs hbase hline
end
/-! ### words of mine, over HandS and Evl -/
section
variable {K : PySem.W.Frag} {σ : L2.St} {H H' : Hp} {ta tb te tv : TE} {t u : TT} {x y z v : V} {D : Ends} {tz tu : TS}
abbrev ii (xs : List Int) : List V := xs.map V.int
theorem ip_mulI {X : Cx} : PIp X .Mult (fun x y H Q => ∃ i j, x = .int i ∧ y = .int j ∧ CMul i j ∧ Q (.int (i * j)) H) := iop_mul
theorem et_yes : EvT tYes σ H true := fun H1 _ _ q => q H1 (Ex.refl H1)
theorem ev_sumN {ns : List Int} (h : EvL ta σ H (ii ns)) : Ev (tCB (rSum K) (tCons ta tNil)) σ H (.int ns.sum) := fun H1 e Q q =>
  h H1 e _ fun p H2 _ e2 h2 => ⟨p, ns, rfl, sq_of h2, q H2 e2⟩
theorem ev_sum {p : Addr} {ns : List Int} (h : Ev ta σ H (.ref p)) (hS : SqL K H p (ii ns)) : Ev (tCB (rSum K) (tCons ta tNil)) σ H (.int ns.sum) := fun H1 e Q q =>
  h H1 e _ fun H2 e2 => ⟨p, ns, rfl, ex_l (e.trans e2) hS, q H2 e2⟩
theorem given_all {n : Nat} {f : Nat → V} : given n (fun _ => true) f = (List.range n).map f := by
  unfold given
  rw [List.filter_eq_self.mpr (fun _ _ => rfl)]
/-- self.f = e -/
theorem q_fld {a C dx : Addr} {fs : List (Str × V)} {f : Str} (hv : Ev tv σ H v) (ha : Ev ta σ H (.ref a)) (ho : H a = some (.ins C dx fs)) (hc : Cls K C) (hn : NoAttr K C f) (hl : fs.length < 1000)
    (k : ∀ H1, Ex H H1 → tz D σ (upd H1 a (.ins C dx (putF f v fs)))) : tSeq (sFld K ta tv f) tz D σ H :=
  hv H (Ex.refl H) _ fun H1 e1 => ha H1 e1 _ fun H2 e2 => ⟨a, C, dx, fs, rfl, e2 _ _ (e1 _ _ ho), hc, hn, hl, k H2 (e1.trans e2)⟩
theorem q_fldL {a C dx : Addr} {fs : List (Str × V)} {f : Str} {xs : List V} (hv : EvL tv σ H xs) (ha : Ev ta σ H (.ref a)) (ho : H a = some (.ins C dx fs)) (hc : Cls K C) (hn : NoAttr K C f) (hl : fs.length < 1000)
    (k : ∀ p H1, H p = none → Ex H H1 → H1 p = some (.lst xs) → tz D σ (upd H1 a (.ins C dx (putF f (.ref p) fs)))) : tSeq (sFld K ta tv f) tz D σ H :=
  hv H (Ex.refl H) _ fun p H1 hp e1 h1 => ha H1 e1 _ fun H2 e2 => ⟨a, C, dx, fs, rfl, e2 _ _ (e1 _ _ ho), hc, hn, hl, k p H2 hp (e1.trans e2) (e2 _ _ h1)⟩
theorem s_fld {a C dx : Addr} {fs : List (Str × V)} {f : Str} (hv : Ev tv σ H v) (ha : Ev ta σ H (.ref a)) (ho : H a = some (.ins C dx fs)) (hc : Cls K C) (hn : NoAttr K C f) (hl : fs.length < 1000)
    (k : ∀ H1, Ex H H1 → D.nx σ (upd H1 a (.ins C dx (putF f v fs)))) : sFld K ta tv f D σ H :=
  hv H (Ex.refl H) _ fun H1 e1 => ha H1 e1 _ fun H2 e2 => ⟨a, C, dx, fs, rfl, e2 _ _ (e1 _ _ ho), hc, hn, hl, k H2 (e1.trans e2)⟩
theorem ev_fld {a C dx : Addr} {fs : List (Str × V)} {f : Str} (ha : Ev ta σ H (.ref a)) (ho : H a = some (.ins C dx fs)) (hc : Cls K C) (hn : NoAttr K C f) (hl : fs.lookup f = some v) : Ev (tFld K ta f) σ H v :=
  fun H1 e Q q => ha H1 e _ fun H2 e2 => ⟨a, C, dx, fs, v, rfl, e2 _ _ (e _ _ ho), hc, hn, hl, q H2 e2⟩
/-- a value of one of the kinds that is an int, a truth or none of both -/
def isI : V → Bool | .int _ => true | .bl _ => true | _ => false
def isB : V → Bool | .bl _ => true | _ => false
def KnI (K : PySem.W.Frag) (H : Hp) (x : V) : Prop := ∃ t, TyX K H x t ∧ PySem.W.kitOne K t (.type "bool") = some (isB x) ∧ PySem.W.kitOne K t (.type "int") = some (isI x)
theorem kni_int {i : Int} : KnI K H (.int i) := ⟨_, .base (.int i), kit_ty (r := false) (by decide +kernel), kit_ty (r := true) (by decide +kernel)⟩
theorem kni_bl {b : Bool} : KnI K H (.bl b) := ⟨_, .base (.bl b), kit_ty (r := true) (by decide +kernel), kit_ty (r := true) (by decide +kernel)⟩
theorem kni_non : KnI K H .non := ⟨_, .base .non, kit_ty (r := false) (by decide +kernel), kit_ty (r := false) (by decide +kernel)⟩
theorem kni_str {s : Str} : KnI K H (.str s) := ⟨_, .base (.str s), kit_ty (r := false) (by decide +kernel), kit_ty (r := false) (by decide +kernel)⟩
def oi : Option Int → V | none => .non | some i => .int i
def whole (x : V) (lo : Int) (hi : Option Int) : Bool := match x with
  | .int i => decide (lo ≤ i) && (match hi with | none => true | some h => decide (i ≤ h))
  | _ => false
theorem cut_take (xs : List V) (n : Nat) : cutV xs none (some (n : Int)) = xs.take n := by
  unfold cutV
  rw [HT.sIx_none, HT.sIx_nat]
  show (xs.drop 0).take (min n xs.length - 0) = xs.take n
  rw [List.drop_zero, Nat.sub_zero]
  by_cases h : n ≤ xs.length
  · rw [Nat.min_eq_left h]
  · rw [Nat.min_eq_right (by omega), List.take_length, List.take_of_length_le (by omega)]
theorem ii_get {xs : List Int} {j : Nat} (h : j < xs.length) : (ii xs)[j]? = some (.int (xs.getD j 0)) := by
  rw [List.getElem?_map, List.getElem?_eq_getElem h, List.getD_eq_getElem?_getD, List.getElem?_eq_getElem h]
  rfl
theorem ii_len (xs : List Int) : (ii xs).length = xs.length := List.length_map ..
theorem ii_of {xs : List Int} {j : Nat} {y : V} (h : (ii xs)[j]? = some y) : ∃ z, xs[j]? = some z ∧ y = .int z := by
  rw [List.getElem?_map] at h
  cases e : xs[j]? with
  | none => rw [e] at h; cases h
  | some z => rw [e] at h; exact ⟨z, rfl, (Option.some.inj h).symm⟩
end
/-! what is known and never changes (kb), beside what may change -/
theorem grow {kb H H1 : Hp} {p : Addr} {o : HO} (e : Ex kb H) (hp : H p = none) (e1 : Ex H H1) (h1 : H1 p = some o) : Ex (upd kb p o) H1 := fun b u q => by
  by_cases hb : b = p
  · subst hb
    rw [upd_same] at q
    cases q
    exact h1
  · rw [upd_ne hb] at q
    exact e1 b u (e b u q)
theorem kb_new {kb H : Hp} {p : Addr} {o : HO} (e : Ex kb H) (hp : H p = none) : Ex kb (upd kb p o) := Ex.new (fresh_back e hp)
theorem kb_none {kb H : Hp} {p x : Addr} {o u : HO} (hx : kb x = none) (h : H x = some u) (hp : H p = none) : upd kb p o x = none := by
  rw [upd_ne (ne_of_none h hp)]
  exact hx
theorem rep_flat {α : Type} (n : Nat) (x : α) : (List.replicate n [x]).flatten = List.replicate n x := by
  induction n with
  | zero => rfl
  | succ n ih => rw [List.replicate_succ, List.flatten_cons, ih]; rfl

theorem ii_map {n : Nat} {f : Nat → Int} : ii ((List.range n).map f) = (List.range n).map (fun l => V.int (f l)) := List.map_map ..
/-- kb: what is known and stays; mt: what may change, as it stands -/
structure ST (kb H : Hp) (mt : List (Addr × HO)) : Prop where
  e : Ex kb H
  m : ∀ p ∈ mt, kb p.1 = none ∧ H p.1 = some p.2
  d : mt.Pairwise fun p q => p.1 ≠ q.1
section
variable {kb H H1 : Hp} {mt : List (Addr × HO)} {p a b c : Addr} {o o1 o2 o3 u : HO}
theorem ST.ext (s : ST kb H mt) (e : Ex H H1) : ST kb H1 mt := ⟨s.e.trans e, fun p hp => ⟨(s.m p hp).1, e _ _ (s.m p hp).2⟩, s.d⟩
theorem ST.new (s : ST kb H mt) (hp : H p = none) (e : Ex H H1) (h1 : H1 p = some o) : ST (upd kb p o) H1 mt :=
  ⟨grow s.e hp e h1, fun q hq => ⟨kb_none (s.m q hq).1 (s.m q hq).2 hp, e _ _ (s.m q hq).2⟩, s.d⟩
theorem ST.kb_ex (s : ST kb H mt) (hp : H p = none) : Ex kb (upd kb p o) := kb_new s.e hp
theorem ST.newM (s : ST kb H mt) (hp : H p = none) (e : Ex H H1) (h1 : H1 p = some o) : ST kb H1 ((p, o) :: mt) :=
  ⟨s.e.trans e, fun q hq => by
    rcases List.mem_cons.mp hq with rfl | hq
    · exact ⟨fresh_back s.e hp, h1⟩
    · exact ⟨(s.m q hq).1, e _ _ (s.m q hq).2⟩, List.pairwise_cons.mpr ⟨fun q hq => (ne_of_none (s.m q hq).2 hp).symm, s.d⟩⟩
theorem ST.set (s : ST kb H ((a, o) :: mt)) : ST kb (upd H a u) ((a, u) :: mt) :=
  ⟨Ex.mut s.e (s.m _ List.mem_cons_self).1, fun q hq => by
    rcases List.mem_cons.mp hq with rfl | hq
    · exact ⟨(s.m (a, o) List.mem_cons_self).1, upd_same⟩
    · exact ⟨(s.m q (List.mem_cons_of_mem _ hq)).1, by rw [upd_ne ((List.pairwise_cons.mp s.d).1 q hq).symm]; exact (s.m q (List.mem_cons_of_mem _ hq)).2⟩, by
    have z := List.pairwise_cons.mp s.d
    exact List.pairwise_cons.mpr ⟨z.1, z.2⟩⟩
theorem ST.perm {mt' : List (Addr × HO)} (s : ST kb H mt) (h : mt.Perm mt') : ST kb H mt' := ⟨s.e, fun p hp => s.m p (h.mem_iff.mpr hp), s.d.perm h fun z => z.symm⟩
theorem ST.set2 {x : Addr × HO} (s : ST kb H (x :: (a, o) :: mt)) : ST kb (upd H a u) (x :: (a, u) :: mt) := ((s.perm (List.Perm.swap ..)).set).perm (List.Perm.swap ..)
theorem ST.set3 {x y : Addr × HO} (s : ST kb H (x :: y :: (a, o) :: mt)) : ST kb (upd H a u) (x :: y :: (a, u) :: mt) :=
  ((s.perm ((List.Perm.cons x (List.Perm.swap ..)).trans (List.Perm.swap ..))).set).perm ((List.Perm.swap ..).trans (List.Perm.cons x (List.Perm.swap ..)))
theorem ST.at1 (s : ST kb H ((a, o) :: mt)) : H a = some o := (s.m (a, o) List.mem_cons_self).2
theorem ST.at2 {x : Addr × HO} (s : ST kb H (x :: (a, o) :: mt)) : H a = some o := (s.m (a, o) (List.mem_cons_of_mem _ List.mem_cons_self)).2
theorem ST.at3 {x y : Addr × HO} (s : ST kb H (x :: y :: (a, o) :: mt)) : H a = some o := (s.m (a, o) (List.mem_cons_of_mem _ (List.mem_cons_of_mem _ List.mem_cons_self))).2
theorem ST.l {K : PySem.W.Frag} {xs : List V} (s : ST kb H mt) (h : kb a = some (.lst xs)) : SqL K H a xs := sq_of (s.e _ _ h)
/-- a mutable thing is laid down: it stays as it is from here on -/
theorem ST.fix (s : ST kb H ((a, o) :: mt)) : ST (upd kb a o) H mt :=
  ⟨fun b w q => by
    by_cases hb : b = a
    · subst hb; rw [upd_same] at q; cases q; exact s.at1
    · rw [upd_ne hb] at q; exact s.e b w q, fun q hq => ⟨by
      rw [upd_ne ((List.pairwise_cons.mp s.d).1 q hq).symm]
      exact (s.m q (List.mem_cons_of_mem _ hq)).1, (s.m q (List.mem_cons_of_mem _ hq)).2⟩, (List.pairwise_cons.mp s.d).2⟩
end
section
variable {K : PySem.W.Frag} {σ : L2.St} {H H' : Hp} {ta tb te tv : TE} {v : V} {D : Ends} {tz : TS}
theorem st_fldv {a C dx : Addr} {fs fs' : List (Str × V)} {f : Str} {kb : Hp} {mt : List (Addr × HO)} (s : ST kb H ((a, .ins C dx fs) :: mt)) (hv : Ev tv σ H v) (ha : Ev ta σ H (.ref a)) (hc : Cls K C) (hn : NoAttr K C f) (hl : fs.length < 1000) (hf : putF f v fs = fs')
    (k : ∀ H1, ST kb H1 ((a, .ins C dx fs') :: mt) → tz D σ H1) : tSeq (sFld K ta tv f) tz D σ H := by
  subst hf
  exact q_fld hv ha s.at1 hc hn hl fun H1 e1 => k _ (s.ext e1).set
theorem st_fldl {a C dx : Addr} {fs : List (Str × V)} {f : Str} {xs : List V} {kb : Hp} {mt : List (Addr × HO)} (s : ST kb H ((a, .ins C dx fs) :: mt)) (hv : EvL tv σ H xs) (ha : Ev ta σ H (.ref a)) (hc : Cls K C) (hn : NoAttr K C f) (hl : fs.length < 1000)
    (k : ∀ p H1, Ex kb (upd kb p (.lst xs)) → ST (upd kb p (.lst xs)) H1 ((a, .ins C dx (putF f (.ref p) fs)) :: mt) → tz D σ H1) : tSeq (sFld K ta tv f) tz D σ H :=
  q_fldL hv ha s.at1 hc hn hl fun p H1 hp e1 h1 => k p _ (s.kb_ex hp) (s.new hp e1 h1).set
theorem st_fldm {a C dx : Addr} {fs : List (Str × V)} {f : Str} {xs : List V} {kb : Hp} {mt : List (Addr × HO)} (s : ST kb H ((a, .ins C dx fs) :: mt)) (hv : EvL tv σ H xs) (ha : Ev ta σ H (.ref a)) (hc : Cls K C) (hn : NoAttr K C f) (hl : fs.length < 1000)
    (k : ∀ p H1, ST kb H1 ((p, .lst xs) :: (a, .ins C dx (putF f (.ref p) fs)) :: mt) → tz D σ H1) : tSeq (sFld K ta tv f) tz D σ H :=
  q_fldL hv ha s.at1 hc hn hl fun p H1 hp e1 h1 => k p _ (s.newM hp e1 h1).set2
/-- xs.insert(0, a new list) -/
def rIns : V → List V → Hp → VK → Prop := fun x vs H Q => ∃ (l : Addr) (xs : List V) (i : Int) (y : V), x = .ref l ∧ vs = [.int i, y] ∧ H l = some (.lst xs) ∧ xs.length < sizeLine ∧ 0 ≤ i ∧ i < 2 ^ 63 ∧ Q .non (upd H l (.lst (xs.take i.toNat ++ [y] ++ xs.drop i.toNat)))
theorem q_ins0L {l : Addr} {xs ys : List V} (hl : H l = some (.lst xs)) (ha : Ev ta σ H (.ref l)) (h : EvL te σ H ys) (hz : xs.length < 100000) (k : ∀ p H1, H p = none → Ex H H1 → H1 p = some (.lst ys) → tz D σ (upd H1 l (.lst (.ref p :: xs)))) :
    tSeq (tDrop (tBM K "list" rIns ta (tCons (tC (.int 0)) (tCons te tNil)))) tz D σ H := ha H (Ex.refl H) _ fun H1 e1 =>
  ⟨Or.inl ⟨rfl, xs, sq_of (e1 l _ hl)⟩, h H1 e1 _ fun p H2 hp e2 h2 => ⟨l, xs, 0, .ref p, rfl, rfl, e2 l _ (e1 l _ hl), sz_lt hz, Int.le_refl 0, by decide, k p H2 (fresh_back e1 hp) (e1.trans e2) h2⟩⟩
end
theorem lk_head {f : Str} {v : V} {fs : List (Str × V)} : List.lookup f ((f, v) :: fs) = some v := by simp [List.lookup]
theorem lk_tail {f g : Str} {v : V} {fs : List (Str × V)} (h : (f == g) = false) : List.lookup f ((g, v) :: fs) = List.lookup f fs := by simp [List.lookup, h]
section
variable {X : Cx} {x : Str} {pos : Pos}
theorem pe_gi {i : Int} (hg : Gl X x) (h : ∃ t, X.mg x = some (.int i t)) (hd : (x == ("__debug__" : Str)) = false := by decide) : PE X (.Name x pos) (tC (.int i)) := by
  obtain ⟨t, h⟩ := h
  exact pe_glob hg h ⟨t, rfl⟩ (hd := hd)
theorem pe_gs {i : Str} (hg : Gl X x) (h : ∃ t, X.mg x = some (.str i t)) (hd : (x == ("__debug__" : Str)) = false := by decide) : PE X (.Name x pos) (tC (.str i)) := by
  obtain ⟨t, h⟩ := h
  exact pe_glob hg h ⟨t, rfl⟩ (hd := hd)
end
section
variable {K : PySem.W.Frag} {σ : L2.St} {H H' : Hp} {ta tb te tv : TE} {v : V} {D : Ends} {tz : TS} {tr : TA} {xs ys vs dvs : List V}
theorem s_ins0L {l : Addr} {xs ys : List V} (hl : H l = some (.lst xs)) (ha : Ev ta σ H (.ref l)) (h : EvL te σ H ys) (hz : xs.length < 100000) (k : ∀ p H1, H p = none → Ex H H1 → H1 p = some (.lst ys) → D.nx σ (upd H1 l (.lst (.ref p :: xs)))) :
    tDrop (tBM K "list" rIns ta (tCons (tC (.int 0)) (tCons te tNil))) D σ H := ha H (Ex.refl H) _ fun H1 e1 =>
  ⟨Or.inl ⟨rfl, xs, sq_of (e1 l _ hl)⟩, h H1 e1 _ fun p H2 hp e2 h2 => ⟨l, xs, 0, .ref p, rfl, rfl, e2 l _ (e1 l _ hl), sz_lt hz, Int.le_refl 0, by decide, k p H2 (fresh_back e1 hp) (e1.trans e2) h2⟩⟩
/-- [z] * n, a list and a list -/
theorem el_rep {z : V} {n : Nat} (ha : Ev ta σ H z) (hb : Ev tb σ H (.int (n : Int))) (hn : n ≤ 100000) : EvL (tOp rRep (tLst (tCons ta tNil)) tb) σ H (List.replicate n z) := fun H1 e Q q =>
  el_lst (ea_cons ha ea_nil) (by show 1 ≤ 100000; decide) H1 e _ fun p H2 hp e2 h2 => hb H2 (e.trans e2) _ fun H3 e3 =>
    ⟨p, (n : Int), [z], rfl, rfl, e3 _ _ h2, by omega, by omega, by show 1 * _ ≤ _; rw [Nat.one_mul, Int.toNat_natCast]; exact sz_of hn, fun r hr => by
      rw [Int.toNat_natCast, rep_flat]
      exact q r _ (fresh_back (e2.trans e3) hr) ((e2.trans e3).trans (Ex.new hr)) upd_same⟩
theorem el_cat (ha : EvL ta σ H xs) (hb : ∀ H1, Ex H H1 → EvL tb σ H1 ys) (hz : xs.length + ys.length ≤ 100000) : EvL (tOp rCat ta tb) σ H (xs ++ ys) := fun H1 e Q q =>
  ha H1 e _ fun p H2 hp e2 h2 => hb H2 (e.trans e2) H2 (Ex.refl H2) _ fun r H3 hr e3 h3 => ⟨p, r, xs, ys, rfl, rfl, e3 _ _ h2, h3, sz_of hz, fun t ht =>
    q t _ (fresh_back (e2.trans e3) ht) ((e2.trans e3).trans (Ex.new ht)) upd_same⟩
theorem el_cat1 {a : Addr} (ha : Ev ta σ H (.ref a)) (hA : H a = some (.lst xs)) (hb : EvL tb σ H ys) (hz : xs.length + ys.length ≤ 100000) : EvL (tOp rCat ta tb) σ H (xs ++ ys) := fun H1 e Q q =>
  ha H1 e _ fun H2 e2 => hb H2 (e.trans e2) _ fun r H3 hr e3 h3 => ⟨a, r, xs, ys, rfl, rfl, ((e.trans e2).trans e3) _ _ hA, h3, sz_of hz, fun t ht =>
    q t _ (fresh_back (e2.trans e3) ht) ((e2.trans e3).trans (Ex.new ht)) upd_same⟩
theorem el_slN {tl th : TO} {lo hi : Option Int} (h : EvL te σ H xs) (h1 : EvO tl σ H lo) (h2 : EvO th σ H hi) : EvL (tSl (rSlL K) te tl th) σ H (cutV xs lo hi) := fun H1 e _ q =>
  h H1 e _ fun a H2 ha e2 hx => h1 H2 (e.trans e2) _ fun H3 e3 => h2 H3 ((e.trans e2).trans e3) _ fun H4 e4 =>
    ⟨a, xs, rfl, sq_of (e4 _ _ (e3 _ _ hx)), fun p hp => q p _ (fresh_back ((e2.trans e3).trans e4) hp) (((e2.trans e3).trans e4).trans (Ex.new hp)) upd_same⟩
/-- a call whose first argument is a new list -/
theorem el_callL {sp : Sp} {E : XK} (h : EvL te σ H xs) (hr : EvA tr σ H vs) (hs : ∀ p H1, Ex H H1 → H1 p = some (.lst xs) → SpL sp (.ref p :: vs ++ dvs) H1 ys) : EvL (tCall sp dvs E (tCons te tr)) σ H ys := fun H1 e Q q =>
  h H1 e _ fun p H2 hp e2 h2 => hr H2 (e.trans e2) _ fun H3 e3 => hs p H3 ((e.trans e2).trans e3) (e3 _ _ h2) H3 (Ex.refl H3) Q (fun r H4 hr e4 h4 => q r H4 (fresh_back (e2.trans e3) hr) ((e2.trans e3).trans e4) h4) E
theorem el_callLL {sp : Sp} {E : XK} {zs : List V} (h : EvL te σ H xs) (hb : ∀ H1, Ex H H1 → EvL tb σ H1 zs) (hr : EvA tr σ H vs) (hs : ∀ p r H1, Ex H H1 → H1 p = some (.lst xs) → H1 r = some (.lst zs) → SpL sp (.ref p :: .ref r :: vs ++ dvs) H1 ys) : EvL (tCall sp dvs E (tCons te (tCons tb tr))) σ H ys := fun H1 e Q q =>
  h H1 e _ fun p H2 hp e2 h2 => hb H2 (e.trans e2) H2 (Ex.refl H2) _ fun r H3 hr' e3 h3 => hr H3 ((e.trans e2).trans e3) _ fun H4 e4 => hs p r H4 (((e.trans e2).trans e3).trans e4) (e4 _ _ (e3 _ _ h2)) (e4 _ _ h3) H4 (Ex.refl H4) Q
    (fun t H5 ht e5 h5 => q t H5 (fresh_back ((e2.trans e3).trans e4) ht) (((e2.trans e3).trans e4).trans e5) h5) E
end

/-! ### further rules of mine -/
section
variable {X : Cx}
theorem PI.or {tg e : Expr} {w1 w2 : TI} (h1 : PI X tg e w1) (h2 : PI X tg e w2) : PI X tg e (fun σ H R => w1 σ H R ∨ w2 σ H R) :=
  ⟨fun pins s σ H R I h => h.elim (fun h => h1.run pins s σ H R I h) (fun h => h2.run pins s σ H R I h)⟩
/-- a < b of data that are alike -/
def rLtD (K : PySem.W.Frag) : R2 := fun x y H Q => ∃ d e, Dp K H x d ∧ Dp K H y e ∧ PySem.W.alike d e = true ∧ d ≠ .none ∧ d.depth ≤ 60 ∧ Q (.bl (PySem.W.dataLt d e)) H
theorem op_ltD (K : PySem.W.Frag) (hu : X.A.units + 64 < cLine) (hK : X.K = K := by rfl) : OpR X (compareOp .Lt) (rLtD K) := by
  subst hK
  intro pins s σ H x y v u Q I rx ry h
  obtain ⟨d, e, hd, he, ha, hn, hdp, q⟩ := h
  obtain ⟨as, r1⟩ := Dp.reads I d x v hd rx
  obtain ⟨bs, r2⟩ := Dp.reads I e y u he ry
  show wpAny _ _ (richCompare .Lt v u) _ _ _
  exact PySem.W.rcLt_alike d e X.A s v u as bs r1 r2 ha hn (by omega) _ _ _ _ ⟨.bl _, H, I, rfl, q⟩
/-- a == b by the own __eq__ of the class of both -/
def rEqOwn (C : Addr) (sp : Sp) (E : XK) : R2 := fun x y H Q => ∃ a b dx dy fs gs, x = .ref a ∧ y = .ref b ∧ H a = some (.ins C dx fs) ∧ H b = some (.ins C dy gs) ∧ sp [.ref a, .ref b] H (fun v H' => (∃ k, v = .bl k) ∧ Q v H') E
theorem op_eqOwn {CX : CXT} {C f : Addr} {fd : FuncData} {ps : List Str} {sp : Sp} {E : XK} {n : Nat} (F : FnOk X.prog X.w X.K X.mg X.base CX n f fd ps sp) (hr : Room n X.A) (M : Meth X.K C "__eq__" f) (hb : Binds X.K fd ps []) (hx : Passes CX X E) :
    OpR X (compareOp .Eq) (rEqOwn C sp E) := by
  intro pins s σ H x y v u Q I rx ry h
  obtain ⟨a, b, dx, dy, fs, gs, rfl, rfl, ha, hb', hsp⟩ := h
  cases rx
  cases ry
  obtain ⟨mA, J, _⟩ := ins_get I.hok ha
  obtain ⟨mB, J', _⟩ := ins_get I.hok hb'
  obtain ⟨od, J, _⟩ := J.look
  obtain ⟨od', J', _⟩ := J'.look
  obtain ⟨m, hF⟩ := I.fr
  show wpAny _ _ (richCompare .Eq _ _) _ _ _
  refine PySem.W.cmp_K (op := .Eq) (tb := .ref C) hr.units0 hF I.ok.mod.kin J J'.type (by simp [PySem.W.notFirst]) M.at_ M.fn ?_
  have hl := F.len _ _ _ _ hsp
  have r2 : Vals [V.ref a, V.ref b] [Value.ref a, Value.ref b] := .cons rfl (.cons rfl .nil)
  refine wpAny_call (codeAny_mono (F.run X.A X.stack s H ⟨[.ref a, .ref b], []⟩ [.ref a, .ref b] [.ref a, .ref b] _ E hr I.env0 (by
    have := hb s [.ref a, .ref b] I.kIn (by simpa using hl)
    simpa using this) r2 hsp) fun r s' hq => ?_)
  cases r with
  | error e => exact hx pins σ H s e s' I hq
  | ok fl =>
    cases fl with
    | ret w =>
      obtain ⟨z, H', I', rz, ⟨k, ez⟩, q⟩ := I.after hq
      subst ez
      cases rz
      exact ⟨.bl k, H', I', rfl, q⟩
    | next => exact False.elim hq
    | brk => exact False.elim hq
    | cont => exact False.elim hq
theorem kit_self {K : PySem.W.Frag} {C : Addr} : PySem.W.kitOne K (.ref C) (.ref C) = some true := by
  unfold PySem.W.kitOne
  rw [if_pos (by simp)]
theorem tup0 {pos : Pos} {c : Nat} : PE X (.Tuple [] c pos) (tTup tNil) := pe_tup pa_nil
end
section
variable (K : PySem.W.Frag) {X : Cx}
def rAllK (K : PySem.W.Frag) : List V → Hp → VK → Prop := rAll K
theorem allK (hc : X.calm = true) (hK : X.K = K := by rfl) : CallR X (.builtin "all") (rAll K) := by subst hK; exact cr_all hc
end
section
variable {K : PySem.W.Frag} {σ : L2.St} {H H' : Hp} {ta tb te tv : TE} {t u : TT} {x y z v : V} {D : Ends} {tz tu : TS}
/-- a value that is a text or none -/
def isS : V → Bool | .str _ => true | _ => false
def KnS (K : PySem.W.Frag) (H : Hp) (x : V) : Prop := ∃ t, TyX K H x t ∧ PySem.W.kitOne K t (.type "str") = some (isS x)
theorem kns_str {s : Str} : KnS K H (.str s) := ⟨_, .base (.str s), kit_ty (r := true) (by decide +kernel)⟩
theorem kns_int {i : Int} : KnS K H (.int i) := ⟨_, .base (.int i), kit_ty (r := false) (by decide +kernel)⟩
theorem ev_isi {c : V} {tt u : Value} {b : Bool} (ha : Ev ta σ H x) (hb : Ev tb σ H c) (k : ClsV c u) (ht : ∀ H1, Ex H H1 → TyX K H1 x tt) (e : PySem.W.kitOne K tt u = some b) : Ev (tCB (rIsi K) (tCons ta (tCons tb tNil))) σ H (.bl b) :=
  fun H1 e1 Q q => ha H1 e1 _ fun H2 e2 => hb H2 (e1.trans e2) _ fun H3 e3 => ⟨x, c, tt, u, b, rfl, k, ht H3 ((e1.trans e2).trans e3), e, q H3 (e2.trans e3)⟩
theorem tyx_ex {tt : Value} (h : TyX K H x tt) (e : Ex H H') : TyX K H' x tt := by
  cases h with
  | base b =>
    cases b with
    | non => exact .base .non
    | bl x => exact .base (.bl x)
    | int i => exact .base (.int i)
    | str x => exact .base (.str x)
    | flt x => exact .base (.flt x)
    | lst h => exact .base (.lst (e _ _ h))
    | frz h => exact .base (.frz (e _ _ h))
    | tup h => exact .base (.tup (e _ _ h))
    | dK h => exact .base (.dK (e _ _ h))
    | dT h => exact .base (.dT (e _ _ h))
    | ins h a b c d f => exact .base (.ins (e _ _ h) a b c d f)
  | byt b => exact .byt b
  | set h => exact .set (e _ _ h)
  | kList h c => exact .kList h c
  | kTuple h c => exact .kTuple h c
  | kDict h c => exact .kDict h c
  | fTuple h => exact .fTuple (e _ _ h)
  | fDict h => exact .fDict (e _ _ h)
theorem kns_ex (h : KnS K H x) (e : Ex H H') : KnS K H' x := let ⟨t, h1, h2⟩ := h; ⟨t, tyx_ex h1 e, h2⟩
theorem kni_ex (h : KnI K H x) (e : Ex H H') : KnI K H' x := let ⟨t, h1, h2⟩ := h; ⟨t, tyx_ex h1 e, h2⟩
theorem ev_chain {r r' : R2} {k : Bool} {w : V} {tc : TE} {b2 : Bool} (ha : Ev ta σ H x) (hb : Ev tb σ H y) (hr : RV r x y H (.bl k)) (hc : k = true → Ev tc σ H w) (hr' : k = true → RV r' y w H (.bl b2)) : Ev (tChain r r' ta tb tc) σ H (.bl (k && b2)) := fun H1 e Q q =>
  ha H1 e _ fun H2 e2 => hb H2 (e.trans e2) _ fun H3 e3 => hr H3 ((e.trans e2).trans e3) _ fun H4 e4 => ⟨k, rfl, by
    cases k with
    | true =>
      rw [if_pos rfl]
      exact hc rfl H4 (((e.trans e2).trans e3).trans e4) _ fun H5 e5 => hr' rfl H5 ((((e.trans e2).trans e3).trans e4).trans e5) Q fun H6 e6 => q H6 ((((e2.trans e3).trans e4).trans e5).trans e6)
    | false =>
      rw [if_neg Bool.false_ne_true]
      exact q H4 ((e2.trans e3).trans e4)⟩
theorem ev_lenS {s : Str} (ha : Ev ta σ H (.str s)) (hz : s.length ≤ 100000) : Ev (tCB (fun xs H Q => ∃ z, xs = [.str z] ∧ z.length ≤ sizeLine ∧ Q (.int z.length) H) (tCons ta tNil)) σ H (.int (s.length : Int)) := fun H1 e Q q =>
  ha H1 e _ fun H2 e2 => ⟨s, rfl, sz_of hz, q H2 e2⟩
theorem ev_m1 {r : V → List V → Hp → VK → Prop} {s : Str} {w : V} (ha : Ev ta σ H (.str s)) (hb : Ev tb σ H y) (hr : ∀ H1, Ex H H1 → ∀ Q : VK, (∀ H2, Ex H1 H2 → Q w H2) → r (.str s) [y] H1 Q) : Ev (tM1 r ta tb) σ H w := fun H1 e Q q =>
  ha H1 e _ fun H2 e2 => ⟨⟨s, rfl⟩, hb H2 (e.trans e2) _ fun H3 e3 => hr H3 ((e.trans e2).trans e3) Q fun H4 e4 => q H4 ((e2.trans e3).trans e4)⟩
theorem ev_slS {tl th : TO} {s : Str} {lo hi : Option Int} (h : Ev te σ H (.str s)) (h1 : EvO tl σ H lo) (h2 : EvO th σ H hi) (hz : s.length ≤ 100000) : Ev (tSl rSlS te tl th) σ H (.str (cutS s lo hi)) := fun H1 e _ q =>
  h H1 e _ fun H2 e2 => h1 H2 (e.trans e2) _ fun H3 e3 => h2 H3 ((e.trans e2).trans e3) _ fun H4 e4 => ⟨s, rfl, sz_of hz, q H4 ((e2.trans e3).trans e4)⟩
theorem rv_neS {a b : Str} : RV rNe (.str a) (.str b) H (.bl (!decide (a = b))) := fun H1 _ _ q => ⟨rfl, by
  have : decide (V.str a = V.str b) = decide (a = b) := by
    by_cases h : a = b
    · rw [h, decide_eq_true rfl, decide_eq_true rfl]
    · rw [decide_eq_false h, decide_eq_false (fun z => h (V.str.inj z))]
  rw [this]
  exact q H1 (Ex.refl H1)⟩
theorem rv_eqS {a b : Str} : RV rEq (.str a) (.str b) H (.bl (decide (a = b))) := fun H1 _ _ q => ⟨rfl, by
  have : decide (V.str a = V.str b) = decide (a = b) := by
    by_cases h : a = b
    · rw [h, decide_eq_true rfl, decide_eq_true rfl]
    · rw [decide_eq_false h, decide_eq_false (fun z => h (V.str.inj z))]
  rw [this]
  exact q H1 (Ex.refl H1)⟩
end
section
variable {X : Cx} {CX : CXT} {k : Nat} {f C : Addr} {fd : FuncData} {ps : List Str} {sp : Sp} {E : XK} {x : Str} {p pos : Pos} {e : Expr} {es : List Expr} {t : TA} {dvs : List V} {te : TE}
theorem pe_callD (F : FnOk X.prog X.w X.K X.mg X.base CX k f fd ps sp) (hr : Room k X.A) (hg : Gl X x) (hm : X.mg x = some (.ref f)) (hk : PySem.W.keepIn X.K (.ref f) = true) (hbd : ∃ ds, Vals dvs ds ∧ Binds X.K fd ps ds) (hx : Passes CX X E)
    (ha : PA X (e :: es) t) (hdb : (x == ("__debug__" : Str)) = false := by decide) (he : starEach (e :: es) X.env = (false, eval e X.env) :: starEach es X.env := by rfl) (hpl : (backTo pos (starEach es X.env)).any (·.1) = false := by rfl) :
    PE X (.Call (.Name x p) (e :: es) [] pos) (tCall sp dvs E t) := by
  obtain ⟨ds, hd, hb⟩ := hbd
  exact pe_call F hr hg hm hk hb hd hx ha hdb he hpl
theorem pe_makeD (M : Mk X.K C f) (F : FnOk X.prog X.w X.K X.mg X.base CX k f fd ps sp) (hr : Room (k + 1) X.A) (hg : Gl X x) (hm : X.mg x = some (.ref C)) (hbd : ∃ ds, Vals dvs ds ∧ Binds X.K fd ps ds) (hx : Passes CX X E)
    (ha : PA X (e :: es) t) (hdb : (x == ("__debug__" : Str)) = false := by decide) (he : starEach (e :: es) X.env = (false, eval e X.env) :: starEach es X.env := by rfl) (hpl : (backTo pos (starEach es X.env)).any (·.1) = false := by rfl) :
    PE X (.Call (.Name x p) (e :: es) [] pos) (tMake C sp dvs E t) := by
  obtain ⟨ds, hd, hb⟩ := hbd
  exact pe_make M F hr hg hm hb hd hx ha hdb he hpl
theorem starK (K : PySem.W.Frag) (he : PE X e te) (hr : PA X es t) (hK : X.K = K := by rfl) (hs : starEach (.Starred e p :: es) X.env = (true, eval e X.env) :: starEach es X.env := by rfl) : PA X (.Starred e p :: es) (StX.tStar K te t) := by
  subst hK
  exact StX.pa_star he hr hs
end
section
variable {K : PySem.W.Frag} {σ : L2.St} {H H' : Hp} {ta tb te tv : TE} {t u : TT} {x y z v : V} {D : Ends} {tz tu : TS} {tr : TA}
theorem ea_star {a : Addr} {xs vs : List V} (h : Ev te σ H (.ref a)) (hx : SqT K H a xs) (hr : EvA tr σ H vs) : EvA (StX.tStar K te tr) σ H (xs ++ vs) := fun H1 e _ q =>
  h H1 e _ fun H2 e2 => ⟨a, xs, rfl, .inl (ex_t (e.trans e2) hx), hr H2 (e.trans e2) _ fun H3 e3 => q H3 (e2.trans e3)⟩
theorem et_truth {b : Bool} (h : Ev te σ H x) (ht : ∀ H1, Ex H H1 → TruV K x H1 b) : EvT (fun σ H Q => te σ H fun x H' => ∃ k, TruV K x H' k ∧ Q k H') σ H b := fun H1 e _ q =>
  h H1 e _ fun H2 e2 => ⟨b, ht H2 (e.trans e2), q H2 e2⟩
theorem ev_orT {b : Bool} (h : Ev ta σ H x) (ht : ∀ H1, Ex H H1 → TruV K x H1 b) (hb : b = false → Ev tb σ H y) (hv : v = if b = true then x else y) : Ev (tOrT K ta tb) σ H v := fun H1 e Q q =>
  h H1 e _ fun H2 e2 => ⟨b, ht H2 (e.trans e2), by
    subst hv
    cases b with
    | true =>
      rw [if_pos rfl]
      exact q H2 e2
    | false =>
      rw [if_neg Bool.false_ne_true]
      exact hb rfl H2 (e.trans e2) Q fun H3 e3 => q H3 (e2.trans e3)⟩
/-- the parts of an f-string, by their texts -/
inductive EvJ (σ : L2.St) (H : Hp) : List TE → List Str → Prop where
  | nil : EvJ σ H [] []
  | cons {t : TE} {ts : List TE} {s : Str} {ss : List Str} (h : Ev t σ H (.str s)) (r : EvJ σ H ts ss) : EvJ σ H (t :: ts) (s :: ss)
theorem ev_tJs {ts : List TE} {ss : List Str} (h : EvJ σ H ts ss) : ∀ (acc : Str) (H1 : Hp), Ex H H1 → acc.length + (ss.map (·.length)).sum ≤ 100000 → ∀ Q : Str → Hp → Prop, (∀ H2, Ex H1 H2 → Q (ss.foldl (· ++ ·) acc) H2) → tJs ts acc σ H1 Q := by
  induction h with
  | nil => intro acc H1 e hz Q q; exact q H1 (Ex.refl _)
  | @cons t ts s ss h r ih =>
    intro acc H1 e hz Q q
    have hl : (acc ++ s).length = acc.length + s.length := by
      show (acc.cps ++ s.cps).size = _
      rw [Array.size_append]
      rfl
    rw [List.map_cons, List.sum_cons] at hz
    exact h H1 e _ fun H2 e2 => ⟨s, rfl, sz_of (by omega), ih (acc ++ s) H2 (e.trans e2) (by omega) Q fun H3 e3 => q H3 (e2.trans e3)⟩
theorem ev_joined {ts : List TE} {ss : List Str} (h : EvJ σ H ts ss) (hz : (ss.map (·.length)).sum ≤ 90000) : Ev (fun σ H Q => tJs ts Str.empty σ H fun out H1 => Q (.str out) H1) σ H (.str (ss.foldl (· ++ ·) Str.empty)) := fun H1 e Q q =>
  ev_tJs h Str.empty H1 e (by show (#[] : Array Nat).size + _ ≤ _; simp only [List.size_toArray, List.length_nil]; omega) _ q
theorem ev_fmtS {s : Str} (h : Ev te σ H (.str s)) (hz : s.length ≤ 100000) : Ev (tFmt te) σ H (.str s) := fun H1 e Q q => h H1 e _ fun H2 e2 => .inl ⟨s, rfl, sz_of hz, q H2 e2⟩
theorem ev_fmtI {i : Int} (h : Ev te σ H (.int i)) (hz : i.natAbs.log2 < 1920) : Ev (tFmt te) σ H (.str (toString i)) := fun H1 e Q q => h H1 e _ fun H2 e2 => .inr ⟨i, rfl, hz, q H2 e2⟩
theorem ev_strI {i : Int} (h : Ev te σ H (.int i)) (hz : i.natAbs.log2 < 1920) : Ev (tCB (fun xs H Q => ∃ i : Int, xs = [.int i] ∧ i.natAbs.log2 < 1920 ∧ Q (.str (toString i)) H) (tCons te tNil)) σ H (.str (toString i)) := fun H1 e Q q =>
  h H1 e _ fun H2 e2 => ⟨i, rfl, hz, q H2 e2⟩
theorem int_len {a : Int} (h : a.natAbs.log2 < 1920) : (Str.ofString (toString a)).length ≤ 1921 := by
  have e := int_text_length_le (k := 1920) (by decide) h
  rw [PySem.ofString_length]
  omega
end
section
variable {K : PySem.W.Frag} {σ : L2.St} {H : Hp} {ta tv : TE} {D : Ends} {tz : TS}
theorem q_fldU {a C dx : Addr} {fs : List (Str × V)} {f : Str} {xs : List V} (hv : EvU tv σ H xs) (ha : Ev ta σ H (.ref a)) (ho : H a = some (.ins C dx fs)) (hc : Cls K C) (hn : NoAttr K C f) (hl : fs.length < 1000)
    (k : ∀ p H1, H p = none → Ex H H1 → H1 p = some (.tup xs) → tz D σ (upd H1 a (.ins C dx (putF f (.ref p) fs)))) : tSeq (sFld K ta tv f) tz D σ H :=
  hv H (Ex.refl H) _ fun p H1 hp e1 h1 => ha H1 e1 _ fun H2 e2 => ⟨a, C, dx, fs, rfl, e2 _ _ (e1 _ _ ho), hc, hn, hl, k p H2 hp (e1.trans e2) (e2 _ _ h1)⟩
end

/-! ### texts, sign by sign -/
abbrev sg (s : Str) : List Nat := s.cps.toList
theorem str_ext {a b : Str} (h : sg a = sg b) : a = b := by
  cases a; cases b
  exact congrArg Str.mk (Array.ext' h)
theorem sg_app (a b : Str) : sg (a ++ b) = sg a ++ sg b := PySem.W.KAf.app_list a b
theorem sg_len (s : Str) : (sg s).length = s.length := Array.length_toList
theorem len_app (a b : Str) : (a ++ b).length = a.length + b.length := by
  rw [← sg_len, sg_app, List.length_append, sg_len, sg_len]
theorem ends0 (s : Str) (c : Nat) : Txt.endswith (s ++ ⟨#[c]⟩) "0" = decide (c = 48) := by
  have h0 : ("0" : Str).length = 1 := by decide +kernel
  rw [PySem.W.KAf.ends_right (by rw [h0]; show 1 ≤ 1; decide)]
  unfold Txt.endswith
  rw [StrLaws.subAt_eq, h0]
  show (decide (0 + 1 ≤ 1) && ([c].take 1 == ("0" : Str).cps.toList)) = _
  rw [show ("0" : Str).cps.toList = [48] by decide +kernel]
  by_cases h : c = 48
  · subst h; decide
  · rw [decide_eq_false h]
    simp [h]
theorem sg_cutTo (s : Str) (k : Nat) : sg (cutS s none (some (k : Int))) = (sg s).take k := by
  show (List.toArray _).toList = _
  rw [show HT.sIx s.length 0 none = 0 from rfl, HT.sIx_nat, List.drop_zero, Nat.sub_zero]
  have hl : s.cps.toList.length = s.length := Array.length_toList
  have hl2 : (sg s).length = s.length := Array.length_toList
  by_cases h : k ≤ s.length
  · rw [Nat.min_eq_left h]
  · rw [Nat.min_eq_right (by omega), List.take_of_length_le (by omega), List.take_of_length_le (by omega)]
theorem sg_cutFrom1 (s : Str) : sg (cutS s (some 1) none) = (sg s).drop 1 := by
  show (List.toArray _).toList = _
  rw [show HT.sIx s.length 0 (some 1) = min 1 s.length from HT.sIx_nat _ _ 1, show HT.sIx s.length s.length none = s.length from rfl]
  have hl : s.cps.toList.length = s.length := Array.length_toList
  have hl2 : (sg s).length = s.length := Array.length_toList
  by_cases h : 1 ≤ s.length
  · rw [Nat.min_eq_left h, List.take_of_length_le (by rw [List.length_drop]; omega)]
  · rw [Nat.min_eq_right (by omega), List.drop_of_length_le (by omega), List.drop_of_length_le (by omega)]
    simp
/-! ### the kinds of texts and numbers -/
def allIn (t s : Str) : Bool := t.cps.toList.all fun c => decide (c ∈ s.cps.toList)
abbrev sFIG : Str := "0123456789"
abbrev sABC : Str := "abcdefghijklmnopqrstuvwxyz"
def figuresOk (t : Str) : Bool := !decide (t = ("" : Str)) && allIn t sFIG
def lettersOk (s : Str) (most : Int) : Bool := decide (1 ≤ (s.length : Int)) && decide ((s.length : Int) ≤ most) && allIn s sABC
def endedOk (t : Str) : Bool := figuresOk t && !Txt.endswith t "0"
def pointsOk (t : Str) : Bool := decide (t = ("" : Str)) || endedOk t
def makerOk (t : Str) : Bool := lettersOk (cutS t none (some 1)) 1 && endedOk (cutS t (some 1) none)
section
variable {P : Program} {w : World} {K : PySem.W.Frag} {mg : Str → Option Value} {base : Heap} {Z : Adr}
def spNum (K : PySem.W.Frag) : Sp := fun vs H Q _ => ∃ x, vs = [x] ∧ KnI K H x ∧ RetV (.bl (isI x && !isB x)) H Q
theorem ok_is_number (T : Txt K mg Z) : FnOk P w K mg base CX0 1 Z.a_is_number Z.d_is_number ["thing"] (spNum K) := by
  refine T.F_is_number.ok sc_is_number (fun vs H Q E h => ?_) (fun cdv A outer s H vs Q E hr h => ?_)
  · obtain ⟨x, rfl, _⟩ := h; rfl
  · obtain ⟨x, rfl, ⟨t, ht, hb, hi'⟩, k⟩ := h
    refine ⟨_, (pss_one (ps_ret (pe_and (pe_callB (isiK K) (by rfl) T.n_isinstance (by decide +kernel) (pa_cons (pv 0) (pa_cons (pe_bltn (v := .ty "int") (by rfl) T.n_int (by decide +kernel) rfl) pa_nil))) (pe_one (pe_not (pe_callB (isiK K) (by rfl) T.n_isinstance (by decide +kernel) (pa_cons (pv 0) (pa_cons (pe_bltn (v := .ty "bool") (by rfl) T.n_bool (by decide +kernel) rfl) pa_nil)))))))), ?_⟩
    exact s_ret (ev_andV (ev_isi (ev_var rfl) ev_c (.ty _) (fun _ e => tyx_ex ht e) hi') fun _ => ev_notV (ev_isi (ev_var rfl) ev_c (.ty _) (fun _ e => tyx_ex ht e) hb)) k
theorem num_int {x : V} (h : (isI x && !isB x) = true) : ∃ i, x = .int i := by
  cases x <;> first | exact ⟨_, rfl⟩ | exact Bool.noConfusion h
theorem sp_num {x : V} {H : Hp} (hx : KnI K H x) : SpV (spNum K) [x] H (.bl (isI x && !isB x)) := fun H1 e Q q E => ⟨x, rfl, kni_ex hx e, q⟩
theorem rv_isN {x : V} {H : Hp} : RV (fun x y H Q => y = .non ∧ Q (.bl (decide (x = .non))) H) x .non H (.bl (decide (x = .non))) := fun H1 e Q q => ⟨rfl, q H1 (Ex.refl _)⟩
def spWhole (K : PySem.W.Frag) : Sp := fun vs H Q _ => ∃ x lo hi, vs = [x, .int lo, oi hi] ∧ KnI K H x ∧ RetV (.bl (whole x lo hi)) H Q
theorem ok_is_whole (T : Txt K mg Z) : FnOk P w K mg base CX0 2 Z.a_is_whole Z.d_is_whole ["thing", "low", "high"] (spWhole K) := by
  refine T.F_is_whole.ok sc_is_whole (fun vs H Q E h => ?_) (fun cdv A outer s H vs Q E hr h => ?_)
  · obtain ⟨x, lo, hi, rfl, _⟩ := h; rfl
  · obtain ⟨x, lo, hi, rfl, hx, k⟩ := h
    refine ⟨_, (pss_one (ps_ret (pe_and (pe_call (ok_is_number T) (hr.mono (by decide)) rfl T.g_is_number T.F_is_number.kp T.b_is_number .nil pass0 (pa_cons (pv 0) pa_nil)) (pe_and (pe_cmpR op_le (pv 1) (pv 0) (nomark _)) (pe_one (pe_or (pe_cmpR op_isNq (pv 2) pe_non (nomark _)) (pe_one (pe_cmpR op_le (pv 0) (pv 2) (nomark _))))))))), ?_⟩
    cases hn : (isI x && !isB x) with
    | false =>
      have : whole x lo hi = false := by cases x <;> first | rfl | cases hn
      rw [this] at k
      exact s_ret (v := .bl false) (ev_is (ev_andV (a := false) (b := true) (ev_is (ev_call (ea_cons (ev_var rfl) ea_nil) (sp_num hx)) (by rw [hn])) (fun z => nomatch z)) rfl) k
    | true =>
      obtain ⟨i, rfl⟩ := num_int hn
      cases hi with
      | none => exact s_ret (v := .bl (whole (.int i) lo none)) (ev_is (ev_andV (a := true) (ev_is (ev_call (ea_cons (ev_var rfl) ea_nil) (sp_num hx)) (by rw [hn])) (fun _ => ev_andV (ev_op (ev_var rfl) (ev_var rfl) rv_I0) fun _ => ev_orV (a := true) (b := true) (ev_op (ev_var rfl) ev_c rv_isN) (fun z => nomatch z))) rfl) k
      | some h => exact s_ret (v := .bl (whole (.int i) lo (some h))) (ev_is (ev_andV (a := true) (ev_is (ev_call (ea_cons (ev_var rfl) ea_nil) (sp_num hx)) (by rw [hn])) (fun _ => ev_andV (ev_op (ev_var rfl) (ev_var rfl) rv_I0) fun _ => ev_orV (a := false) (ev_op (ev_var rfl) ev_c rv_isN) (fun _ => ev_op (ev_var rfl) (ev_var rfl) rv_I0))) rfl) k
theorem sp_whole {x : V} {lo : Int} {hi : Option Int} {H : Hp} (hx : KnI K H x) : SpV (spWhole K) [x, .int lo, oi hi] H (.bl (whole x lo hi)) := fun H1 e Q q E => ⟨x, lo, hi, rfl, kni_ex hx e, q⟩
theorem asc_dig : ∀ c, c < 128 → Unicode.isDigit c = decide (c ∈ sg sFIG) := by decide +kernel
theorem asc_alp : ∀ c, c < 128 → (Unicode.isAlpha c && !(Unicode.isUpper c || Unicode.isTitle c)) = decide (c ∈ sg sABC) := by decide +kernel
theorem asc_low : ∀ c, c < 128 → c ∈ sg sABC → Unicode.isLower c = true := by decide +kernel
theorem asc_abc : ∀ c ∈ sg sABC, c < 128 := by decide +kernel
theorem asc_fig : ∀ c ∈ sg sFIG, c < 128 := by decide +kernel
theorem tx_all {t : Str} {p : Nat → Bool} : t.cps.all p = (sg t).all p := Array.all_toList.symm
theorem tx_any {t : Str} {p : Nat → Bool} : t.cps.any p = (sg t).any p := Array.any_toList.symm
theorem ne_empty {t : Str} : (t = ("" : Str)) ↔ t.length = 0 := by
  constructor
  · intro h; rw [h]; decide +kernel
  · intro h
    refine str_ext ?_
    rw [show sg ("" : Str) = [] by decide +kernel]
    exact List.eq_nil_of_length_eq_zero (by rw [sg_len]; exact h)
theorem fig_eq (t : Str) : (Txt.isascii t && Txt.isdigit t) = figuresOk t := by
  unfold Txt.isascii Txt.isdigit figuresOk allIn
  rw [tx_all, tx_all, Bool.eq_iff_iff]
  simp only [Bool.and_eq_true, List.all_eq_true, decide_eq_true_eq, Bool.not_eq_true', decide_eq_false_iff_not, ne_empty]
  constructor
  · rintro ⟨h1, h2, h3⟩
    exact ⟨by omega, fun c hc => by have := asc_dig c (h1 c hc); rw [h3 c hc] at this; exact of_decide_eq_true this.symm⟩
  · rintro ⟨h1, h2⟩
    exact ⟨fun c hc => asc_fig c (h2 c hc), by omega, fun c hc => by rw [asc_dig c (asc_fig c (h2 c hc))]; exact decide_eq_true (h2 c hc)⟩
theorem let_eq (t : Str) (most : Int) : (decide ((t.length : Int) ≤ most) && (Txt.isascii t && (Txt.isalpha t && Txt.islower t))) = lettersOk t most := by
  unfold Txt.isascii Txt.isalpha Txt.islower lettersOk allIn
  rw [tx_all, tx_all, tx_any, tx_any, Bool.eq_iff_iff]
  simp only [Bool.and_eq_true, List.all_eq_true, List.any_eq_true, decide_eq_true_eq, Bool.not_eq_true', List.any_eq_false]
  have key : ∀ c, c < 128 → Unicode.isAlpha c = true → (¬ (Unicode.isUpper c || Unicode.isTitle c) = true ↔ c ∈ sg sABC) := fun c h1 h2 => by
    have := asc_alp c h1
    rw [h2, Bool.true_and] at this
    constructor
    · intro h
      rw [Bool.not_eq_true] at h
      rw [h] at this
      exact of_decide_eq_true this.symm
    · intro h h'
      rw [h', decide_eq_true h] at this
      cases this
  have alp : ∀ c ∈ sg sABC, Unicode.isAlpha c = true := fun c hc => by
    have := asc_alp c (asc_abc c hc)
    rw [decide_eq_true hc, Bool.and_eq_true] at this
    exact this.1
  constructor
  · rintro ⟨h0, h1, ⟨h2, h3⟩, _, h5⟩
    exact ⟨⟨by omega, h0⟩, fun c hc => (key c (h1 c hc) (h3 c hc)).mp (h5 c hc)⟩
  · rintro ⟨⟨h1, h0⟩, h2⟩
    have hne : 0 < (sg t).length := by rw [sg_len]; omega
    have m0 := List.getElem_mem hne
    exact ⟨h0, fun c hc => asc_abc c (h2 c hc), ⟨by omega, fun c hc => alp c (h2 c hc)⟩, ⟨_, m0, asc_low _ (asc_abc _ (h2 _ m0)) (h2 _ m0)⟩, fun c hc => (key c (asc_abc c (h2 c hc)) (alp c (h2 c hc))).mpr (h2 c hc)⟩
theorem ev_m0 {σ : L2.St} {H : Hp} {ta : TE} {r : V → List V → Hp → VK → Prop} {s : Str} {z : V} (ha : Ev ta σ H (.str s)) (hr : ∀ H1, Ex H H1 → ∀ Q : VK, (∀ H2, Ex H1 H2 → Q z H2) → r (.str s) [] H1 Q) : Ev (tM0 r ta) σ H z := fun H1 e Q q =>
  ha H1 e _ fun H2 e2 => ⟨⟨s, rfl⟩, hr H2 (e.trans e2) Q fun H3 e3 => q H3 (e2.trans e3)⟩
def qTxt (g : Str → Bool) : V → List V → Hp → VK → Prop := fun x xs H Q => ∃ a, x = .str a ∧ xs = [] ∧ True ∧ Q (.bl (g a)) H
theorem mt_isasciiQ {X : Cx} : MtR X "str.isascii" (qTxt Txt.isascii) := mt_isascii
theorem mt_isdigitQ {X : Cx} : MtR X "str.isdigit" (qTxt Txt.isdigit) := mt_isdigit
theorem mt_isalphaQ {X : Cx} : MtR X "str.isalpha" (qTxt Txt.isalpha) := mt_isalpha
theorem mt_islowerQ {X : Cx} : MtR X "str.islower" (qTxt Txt.islower) := mt_islower
theorem ev_txt {σ : L2.St} {H : Hp} {ta : TE} {g : Str → Bool} {s : Str} (ha : Ev ta σ H (.str s)) : Ev (tM0 (qTxt g) ta) σ H (.bl (g s)) :=
  ev_m0 ha fun H1 e Q q => ⟨s, rfl, rfl, trivial, q H1 (Ex.refl _)⟩
def spFig : Sp := fun vs H Q _ => ∃ t, vs = [.str t] ∧ t.length ≤ 90000 ∧ RetV (.bl (figuresOk t)) H Q
theorem ok_is_figures (T : Txt K mg Z) : FnOk P w K mg base CX0 1 Z.a_is_figures Z.d_is_figures ["text"] spFig := by
  refine T.F_is_figures.ok sc_is_figures (fun vs H Q E h => ?_) (fun cdv A outer s H vs Q E hr h => ?_)
  · obtain ⟨t, rfl, _⟩ := h; rfl
  · obtain ⟨t, rfl, hz, k⟩ := h
    refine ⟨_, (pss_one (ps_ret (pe_and (pe_m0 PySem.F.slot_str_isascii PySem.F.type_str_isascii mt_isasciiQ (pv 0)) (pe_one (pe_m0 PySem.F.slot_str_isdigit PySem.F.type_str_isdigit mt_isdigitQ (pv 0)))))), ?_⟩
    exact s_ret (ev_is (ev_andV (ev_txt (g := Txt.isascii) (ev_var rfl)) (fun _ => ev_txt (g := Txt.isdigit) (ev_var rfl))) (by rw [fig_eq])) k
theorem sp_fig {t : Str} {H : Hp} (hz : t.length ≤ 90000) : SpV spFig [.str t] H (.bl (figuresOk t)) := fun H1 e Q q E => ⟨t, rfl, hz, q⟩
/-- what holds of texts alone -/
def onS (f : Str → Bool) : V → Bool | .str t => f t | _ => false
def SzV (x : V) : Prop := ∀ t, x = .str t → t.length ≤ 90000
theorem onS_no {f : Str → Bool} {x : V} (h : isS x = false) : onS f x = false := by cases x <;> first | rfl | cases h
theorem isS_str {x : V} (h : isS x = true) : ∃ t, x = .str t := by cases x <;> first | exact ⟨_, rfl⟩ | cases h
theorem sz_str {t : Str} (hz : t.length ≤ 90000) : SzV (.str t) := fun u e => by cases e; exact hz
/-- isinstance(x, str) and what holds of texts -/
theorem ev_onS {σ : L2.St} {H : Hp} {ta tb tc : TE} {f : Str → Bool} {x : V} (ha : Ev ta σ H x) (hb : Ev tb σ H (.ty "str")) (hx : KnS K H x) (hc : ∀ t, x = .str t → Ev tc σ H (.bl (f t))) : Ev (tAndV (tCB (rIsi K) (tCons ta (tCons tb tNil))) tc) σ H (.bl (onS f x)) := by
  obtain ⟨t, h1, h2⟩ := hx
  cases h : isS x with
  | false => exact ev_is (ev_andV (a := false) (b := true) (ev_isi ha hb (.ty _) (fun _ e => tyx_ex h1 e) (by rw [h2, h])) (fun z => nomatch z)) (by rw [onS_no h]; rfl)
  | true =>
    obtain ⟨u, rfl⟩ := isS_str h
    exact ev_is (ev_andV (a := true) (ev_isi ha hb (.ty _) (fun _ e => tyx_ex h1 e) h2) (fun _ => hc u rfl)) rfl
def spLetters (K : PySem.W.Frag) : Sp := fun vs H Q _ => ∃ x most, vs = [x, .int most] ∧ KnS K H x ∧ SzV x ∧ RetV (.bl (onS (fun t => lettersOk t most) x)) H Q
theorem ok_is_letters (T : Txt K mg Z) : FnOk P w K mg base CX0 1 Z.a_is_letters Z.d_is_letters ["thing", "most"] (spLetters K) := by
  refine T.F_is_letters.ok sc_is_letters (fun vs H Q E h => ?_) (fun cdv A outer s H vs Q E hr h => ?_)
  · obtain ⟨t, most, rfl, _⟩ := h; rfl
  · obtain ⟨x, most, rfl, hx, hz, k⟩ := h
    refine ⟨_, (pss_one (ps_ret (pe_and (pe_callB (isiK K) (by rfl) T.n_isinstance (by decide +kernel) (pa_cons (pv 0) (pa_cons (pe_bltn (v := .ty "str") (by rfl) T.n_str (by decide +kernel) rfl) pa_nil))) (pe_and (pe_cmpR op_le (pe_callB (call_lenS) (by rfl) T.n_len (by decide +kernel) (pa_cons (pv 0) pa_nil)) (pv 1) (nomark _)) (pe_and (pe_m0 PySem.F.slot_str_isascii PySem.F.type_str_isascii mt_isasciiQ (pv 0)) (pe_and (pe_m0 PySem.F.slot_str_isalpha PySem.F.type_str_isalpha mt_isalphaQ (pv 0)) (pe_one (pe_m0 PySem.F.slot_str_islower PySem.F.type_str_islower mt_islowerQ (pv 0))))))))), ?_⟩
    refine s_ret (ev_onS (f := fun t => lettersOk t most) (ev_var rfl) ev_c hx fun t e => ?_) k
    subst e
    have := hz _ rfl
    exact ev_is (ev_andV (ev_op (ev_lenS (ev_var rfl) (by omega)) (ev_var rfl) rv_I0) (fun _ => ev_andV (ev_txt (g := Txt.isascii) (ev_var rfl)) (fun _ => ev_andV (ev_txt (g := Txt.isalpha) (ev_var rfl)) (fun _ => ev_txt (g := Txt.islower) (ev_var rfl))))) (by rw [let_eq])
theorem sp_lettersV {x : V} {most : Int} {H : Hp} (hx : KnS K H x) (hz : SzV x) : SpV (spLetters K) [x, .int most] H (.bl (onS (fun t => lettersOk t most) x)) := fun H1 e Q q E => ⟨x, most, rfl, kns_ex hx e, hz, q⟩
theorem sp_letters {t : Str} {most : Int} {H : Hp} (hz : t.length ≤ 90000) : SpV (spLetters K) [.str t, .int most] H (.bl (lettersOk t most)) := sp_lettersV kns_str (sz_str hz)
theorem cutS_len (z : Str) (lo hi : Option Int) : (cutS z lo hi).length ≤ z.length := by
  show (List.toArray _).size ≤ z.cps.size
  rw [List.size_toArray, List.length_take, List.length_drop, Array.length_toList]
  omega
theorem fig_ne {t : Str} (h : figuresOk t = true) : 1 ≤ t.length := by
  unfold figuresOk at h
  rw [Bool.and_eq_true, Bool.not_eq_true', decide_eq_false_iff_not, ne_empty] at h
  omega
theorem last_of {t : Str} (h : 1 ≤ t.length) : ∃ c, atI (sg t) (-1) = some c ∧ (decide ((⟨#[c]⟩ : Str) = "0")) = Txt.endswith t "0" := by
  have hne : sg t ≠ [] := fun e => by rw [← sg_len, e] at h; simp at h
  have e := List.dropLast_concat_getLast hne
  refine ⟨(sg t).getLast hne, ?_, ?_⟩
  · unfold atI ixN
    rw [if_neg (by omega), if_pos (by rw [sg_len]; omega)]
    show (sg t)[_]? = _
    rw [List.getElem?_eq_getElem (by rw [sg_len]; omega), List.getLast_eq_getElem]
    congr 2
    rw [sg_len]; omega
  · have h2 : t = (⟨(sg t).dropLast.toArray⟩ : Str) ++ ⟨#[(sg t).getLast hne]⟩ := str_ext (by rw [sg_app]; exact e.symm)
    generalize (sg t).getLast hne = c at h2
    rw [h2, ends0]
    by_cases h : c = 48
    · subst h; decide +kernel
    · rw [decide_eq_false h, decide_eq_false]
      intro z
      have := congrArg sg z
      rw [show sg ("0" : Str) = [48] by decide +kernel] at this
      exact h (List.cons.inj this).1
theorem ev_ixS {σ : L2.St} {H : Hp} {ta tb : TE} {t : Str} {i : Int} {c : Nat} (ha : Ev ta σ H (.str t)) (hb : Ev tb σ H (.int i)) (hz : t.length ≤ 100000) (hc : atI (sg t) i = some c) : Ev (tOp rIxS ta tb) σ H (.str ⟨#[c]⟩) :=
  ev_op ha hb fun H1 e Q q => ⟨t, i, c, rfl, rfl, sz_of hz, hc, q H1 (Ex.refl _)⟩
def spEnded : Sp := fun vs H Q _ => ∃ t, vs = [.str t] ∧ t.length ≤ 90000 ∧ RetV (.bl (endedOk t)) H Q
theorem ok_is_ended (T : Txt K mg Z) : FnOk P w K mg base CX0 2 Z.a_is_ended Z.d_is_ended ["text"] spEnded := by
  refine T.F_is_ended.ok sc_is_ended (fun vs H Q E h => ?_) (fun cdv A outer s H vs Q E hr h => ?_)
  · obtain ⟨t, rfl, _⟩ := h; rfl
  · obtain ⟨t, rfl, hz, k⟩ := h
    refine ⟨_, (pss_one (ps_ret (pe_and (pe_call (ok_is_figures T) (hr.mono (by decide)) rfl T.g_is_figures T.F_is_figures.kp T.b_is_figures .nil pass0 (pa_cons (pv 0) pa_nil)) (pe_one (pe_cmpR op_ne (pe_ix ix_str (pv 0) (pe_un un_neg pe_int) (fun _ _ => rfl)) pe_str (nomark _)))))), ?_⟩
    cases hf : figuresOk t with
    | false =>
      have : endedOk t = false := by unfold endedOk; rw [hf]; rfl
      rw [this] at k
      exact s_ret (ev_is (ev_andV (a := false) (b := true) (ev_is (ev_call (ea_cons (ev_var rfl) ea_nil) (sp_fig hz)) (by rw [hf])) (fun z => nomatch z)) rfl) k
    | true =>
      obtain ⟨c, h1, h2⟩ := last_of (fig_ne hf)
      have : endedOk t = (true && !decide ((⟨#[c]⟩ : Str) = "0")) := by unfold endedOk; rw [hf, h2]
      rw [this] at k
      exact s_ret (ev_andV (a := true) (ev_is (ev_call (ea_cons (ev_var rfl) ea_nil) (sp_fig hz)) (by rw [hf])) fun _ => ev_op (ev_ixS (i := -1) (ev_var rfl) (ev_un (x := .int 1) ev_c (fun H1 e Q q => ⟨_, rfl, q H1 (Ex.refl _)⟩)) (by omega) h1) ev_c rv_neS) k
theorem sp_ended {t : Str} {H : Hp} (hz : t.length ≤ 90000) : SpV spEnded [.str t] H (.bl (endedOk t)) := fun H1 e Q q E => ⟨t, rfl, hz, q⟩
def spPoints (K : PySem.W.Frag) : Sp := fun vs H Q _ => ∃ x, vs = [x] ∧ KnS K H x ∧ SzV x ∧ RetV (.bl (onS pointsOk x)) H Q
theorem ok_is_points (T : Txt K mg Z) : FnOk P w K mg base CX0 3 Z.a_is_points Z.d_is_points ["thing"] (spPoints K) := by
  refine T.F_is_points.ok sc_is_points (fun vs H Q E h => ?_) (fun cdv A outer s H vs Q E hr h => ?_)
  · obtain ⟨t, rfl, _⟩ := h; rfl
  · obtain ⟨x, rfl, hx, hz, k⟩ := h
    refine ⟨_, (pss_one (ps_ret (pe_and (pe_callB (isiK K) (by rfl) T.n_isinstance (by decide +kernel) (pa_cons (pv 0) (pa_cons (pe_bltn (v := .ty "str") (by rfl) T.n_str (by decide +kernel) rfl) pa_nil))) (pe_one (pe_or (pe_cmpR op_eq (pv 0) pe_str (nomark _)) (pe_one (pe_call (ok_is_ended T) (hr.mono (by decide)) rfl T.g_is_ended T.F_is_ended.kp T.b_is_ended .nil pass0 (pa_cons (pv 0) pa_nil)))))))), ?_⟩
    refine s_ret (ev_onS (f := pointsOk) (ev_var rfl) ev_c hx fun t e => ?_) k
    subst e
    exact ev_orV (ev_op (ev_var rfl) ev_c rv_eqS) (fun _ => ev_call (ea_cons (ev_var rfl) ea_nil) (sp_ended (hz _ rfl)))
theorem sp_pointsV {x : V} {H : Hp} (hx : KnS K H x) (hz : SzV x) : SpV (spPoints K) [x] H (.bl (onS pointsOk x)) := fun H1 e Q q E => ⟨x, rfl, kns_ex hx e, hz, q⟩
theorem sp_points {t : Str} {H : Hp} (hz : t.length ≤ 90000) : SpV (spPoints K) [.str t] H (.bl (pointsOk t)) := sp_pointsV kns_str (sz_str hz)
theorem maker_eq1 {t : Str} (h : t.length ≤ 1) : makerOk t = false := by
  have e : (cutS t (some 1) none) = ("" : Str) := ne_empty.mpr (by rw [← sg_len, sg_cutFrom1, List.length_drop, sg_len]; omega)
  unfold makerOk
  rw [e, show endedOk ("" : Str) = false by decide +kernel, Bool.and_false]
theorem maker_eq2 {t : Str} {c : Nat} (h : (sg t)[0]? = some c) : makerOk t = (decide (c ∈ sg sABC) && endedOk (cutS t (some 1) none)) := by
  have e : sg (cutS t none (some 1)) = [c] := by
    rw [show (1 : Int) = ((1 : Nat) : Int) from rfl, sg_cutTo]
    cases hs : sg t with
    | nil => rw [hs] at h; cases h
    | cons a l => rw [hs] at h; cases h; rfl
  have e2 : cutS t none (some 1) = (⟨#[c]⟩ : Str) := str_ext e
  unfold makerOk
  congr 1
  rw [e2]
  unfold lettersOk allIn
  show (decide ((1 : Int) ≤ 1) && decide ((1 : Int) ≤ 1) && ([c].all fun c => decide (c ∈ sABC.cps.toList))) = _
  simp
def spMaker (K : PySem.W.Frag) : Sp := fun vs H Q _ => ∃ x, vs = [x] ∧ KnS K H x ∧ SzV x ∧ RetV (.bl (onS makerOk x)) H Q
theorem ok_is_maker (T : Txt K mg Z) : FnOk P w K mg base CX0 3 Z.a_is_maker Z.d_is_maker ["thing"] (spMaker K) := by
  refine T.F_is_maker.ok sc_is_maker (fun vs H Q E h => ?_) (fun cdv A outer s H vs Q E hr h => ?_)
  · obtain ⟨t, rfl, _⟩ := h; rfl
  · obtain ⟨x, rfl, hx, hz, k⟩ := h
    refine ⟨_, (pss_one (ps_ret (pe_and (pe_callB (isiK K) (by rfl) T.n_isinstance (by decide +kernel) (pa_cons (pv 0) (pa_cons (pe_bltn (v := .ty "str") (by rfl) T.n_str (by decide +kernel) rfl) pa_nil))) (pe_and (pe_cmpR op_gt (pe_callB (call_lenS) (by rfl) T.n_len (by decide +kernel) (pa_cons (pv 0) pa_nil)) pe_int (nomark _)) (pe_and (pe_cmpR op_inq (pe_ix ix_str (pv 0) pe_int (fun _ _ => rfl)) (pe_gs rfl T.c_SMALL) (by rfl)) (pe_one (pe_call (ok_is_ended T) (hr.mono (by decide)) rfl T.g_is_ended T.F_is_ended.kp T.b_is_ended .nil pass0 (pa_cons (pe_slice sl_str (pv 0) (po_some pe_int) po_none) pa_nil)))))))), ?_⟩
    refine s_ret (ev_onS (f := makerOk) (ev_var rfl) ev_c hx fun t e => ?_) k
    subst e
    have hz := hz _ rfl
    have l2 := cutS_len t (some 1) none
    by_cases hl : t.length ≤ 1
    · exact ev_is (ev_andV (a := false) (b := true) (ev_is (ev_op (ev_lenS (ev_var rfl) (by omega)) ev_c rv_I0) (by rw [decide_eq_false (by omega)])) (fun z => nomatch z)) (by rw [maker_eq1 hl]; rfl)
    · have hlt : 0 < (sg t).length := by rw [sg_len]; omega
      have h0 := List.getElem?_eq_getElem hlt
      have h1 : atI (sg t) 0 = some (sg t)[0] := by unfold atI ixN; rw [if_pos (Int.le_refl 0), if_pos (by omega)]; exact h0
      rw [maker_eq2 h0]
      refine ev_is (ev_andV (a := true) (ev_is (ev_op (ev_lenS (ev_var rfl) (by omega)) ev_c rv_I0) (by rw [decide_eq_true (by omega)])) (fun _ => ev_andV (ev_op (ev_ixS (ev_var rfl) ev_c (by omega) h1) ev_c (z := .bl (decide ((sg t)[0] ∈ sg sABC))) (fun H1 e Q q => ⟨_, _, rfl, rfl, q H1 (Ex.refl _)⟩)) (fun _ => ev_call (ea_cons (ev_slS (ev_var rfl) (eo_some ev_c) eo_none (by omega)) ea_nil) (sp_ended (by omega))))) rfl
theorem sp_makerV {x : V} {H : Hp} (hx : KnS K H x) (hz : SzV x) : SpV (spMaker K) [x] H (.bl (onS makerOk x)) := fun H1 e Q q E => ⟨x, rfl, kns_ex hx e, hz, q⟩
theorem sp_maker {t : Str} {H : Hp} (hz : t.length ≤ 90000) : SpV (spMaker K) [.str t] H (.bl (makerOk t)) := sp_makerV kns_str (sz_str hz)
end

/-! ### marks -/
structure MK where
  lt : Str
  num : Int
  pts : Str
  mks : List Str
  yr : Option Int
  cp : Option Int
structure MK.Ok (m : MK) : Prop where
  l : lettersOk m.lt 3 = true
  n : 1 ≤ m.num ∧ m.num ≤ 9999
  p : pointsOk m.pts = true
  pz : m.pts.length ≤ 1000
  k : m.mks.length ≤ 3
  ks : ∀ s ∈ m.mks, makerOk s = true ∧ s.length ≤ 1000
  y : ∀ y, m.yr = some y → 1000 ≤ y ∧ y ≤ 2999
  c : ∀ c, m.cp = some c → 2 ≤ c ∧ c.natAbs.log2 < 1920
def MK.head (m : MK) : Str := (if m.pts = ("" : Str) then [m.lt, (toString m.num : String)] else [m.lt, (toString m.num : String), ".", m.pts]).foldl (· ++ ·) Str.empty
def MK.words (m : MK) : List Str := (m.head :: m.mks) ++ (match m.yr with | none => [] | some y => [(toString y : String)]) ++ (match m.cp with | none => [] | some c => [([("c." : Str), ((toString c : String) : Str)]).foldl (· ++ ·) Str.empty])
def MK.text (m : MK) : Str := Txt.join " " m.words
def MK.tup (m : MK) (ma : Addr) : List V := [.str m.lt, .int m.num, .str m.pts, .ref ma, oi m.yr, oi m.cp]
theorem log2_small {a : Int} (h : 0 ≤ a ∧ a ≤ 9999) : a.natAbs.log2 < 1920 := by
  have h1 : a.natAbs < 2 ^ 14 := by omega
  exact Nat.lt_of_lt_of_le (PySem.Flt.log2_lt_of (by decide) h1) (by decide)
section
variable {P : Program} {w : World} {K : PySem.W.Frag} {mg : Str → Option Value} {base : Heap} {Z : Adr}
theorem letters_len {s : Str} {n : Int} (h : lettersOk s n = true) : (s.length : Int) ≤ n := by
  unfold lettersOk at h
  rw [Bool.and_eq_true, Bool.and_eq_true] at h
  exact of_decide_eq_true h.1.2
theorem fold_len (ss : List Str) : ∀ acc : Str, (ss.foldl (· ++ ·) acc).length = acc.length + (ss.map (·.length)).sum := by
  induction ss with
  | nil => intro acc; show acc.length = acc.length + 0; rw [Nat.add_zero]
  | cons s ss ih =>
    intro acc
    rw [List.foldl_cons, ih, List.map_cons, List.sum_cons]
    have hl : (acc ++ s).length = acc.length + s.length := by
      show (acc.cps ++ s.cps).size = _
      rw [Array.size_append]
      rfl
    rw [hl, Nat.add_assoc]
theorem head_len {m : MK} (ok : m.Ok) : m.head.length ≤ 5000 := by
  have h1 := letters_len ok.l
  have h2 := int_len (log2_small ⟨by have := ok.n; omega, ok.n.2⟩ : m.num.natAbs.log2 < 1920)
  have h3 := ok.pz
  have h0 : (Str.empty).length = 0 := rfl
  have hp : (("." : Str)).length = 1 := by decide +kernel
  unfold MK.head
  rw [fold_len, h0]
  by_cases e : m.pts = ("" : Str)
  · rw [if_pos e]
    simp only [List.map_cons, List.map_nil, List.sum_cons, List.sum_nil]
    omega
  · rw [if_neg e]
    simp only [List.map_cons, List.map_nil, List.sum_cons, List.sum_nil, hp]
    omega
def spTextOf (K : PySem.W.Frag) : Sp := fun vs H Q _ => ∃ (pa ma : Addr) (m : MK), vs = [.ref pa] ∧ SqT K H pa (m.tup ma) ∧ SqT K H ma (m.mks.map V.str) ∧ m.Ok ∧ RetV (.str m.text) H Q
theorem ok_text_of (T : Txt K mg Z) : FnOk P w K mg base CX0 1 Z.a_text_of Z.d_text_of ["parts"] (spTextOf K) := by
  refine T.F_text_of.ok sc_text_of (fun vs H Q E h => ?_) (fun cdv A outer s H vs Q E hr h => ?_)
  · obtain ⟨_, _, _, rfl, _⟩ := h; rfl
  · obtain ⟨pa, ma, m, rfl, hpa, hma, ok, k⟩ := h
    refine ⟨_, (pss_cons (ps_asg (pv 0) (pg_tup rfl (pgs_cons (pg_name (i := 1) sc_text_of.nd rfl (.inl rfl)) (pgs_cons (pg_name (i := 2) sc_text_of.nd rfl (.inl rfl)) (pgs_cons (pg_name (i := 3) sc_text_of.nd rfl (.inl rfl)) (pgs_cons (pg_name (i := 4) sc_text_of.nd rfl (.inl rfl)) (pgs_cons (pg_name (i := 5) sc_text_of.nd rfl (.inl rfl)) (pgs_cons (pg_name (i := 6) sc_text_of.nd rfl (.inl rfl)) pgs_nil))))))))
      (pss_cons (ps_set (i := 7) sc_text_of.nd rfl (.inl rfl) (pe_ifExp (pt_truthq (pv 3) (by intro _; rfl)) (pe_joinedq (.cons (pe_fmt (pv 1)) (.cons (pe_fmt (pv 2)) (.cons pe_str (.cons (pe_fmt (pv 3)) .nil))))) (pe_joinedq (.cons (pe_fmt (pv 1)) (.cons (pe_fmt (pv 2)) .nil)))))
      (pss_cons (ps_set (i := 8) sc_text_of.nd rfl (.inl rfl) (pe_lst (pa_cons (pv 7) (starK K (pv 4) pa_nil))))
      (pss_cons (ps_if (pt_cmpR op_notNq (pv 5) pe_non (nomark _)) (pss_one (ps_expr (bmK K PySem.F.plainAttrs_list PySem.F.slot_list_append PySem.F.type_list_append mt_append (pv 8) (pa_cons (pe_callTy (call_strI) (by rfl) T.n_str (by decide +kernel) (pa_cons (pv 5) pa_nil)) pa_nil)))) pss_nil)
      (pss_cons (ps_if (pt_cmpR op_notNq (pv 6) pe_non (nomark _)) (pss_one (ps_expr (bmK K PySem.F.plainAttrs_list PySem.F.slot_list_append PySem.F.type_list_append mt_append (pv 8) (pa_cons (pe_joinedq (.cons pe_str (.cons (pe_fmt (pv 6)) .nil))) pa_nil)))) pss_nil)
      (pss_one (ps_ret (joinK K pe_str (pv 8))))))))), ?_⟩
    refine ⟨_, rfl, pa, _, rfl, hpa, rfl, _, _, rfl, _, _, rfl, _, _, rfl, _, _, rfl, _, _, rfl, _, _, rfl, rfl, ?_⟩
    have h1 := letters_len ok.l
    have hn := (log2_small ⟨by have := ok.n; omega, ok.n.2⟩ : m.num.natAbs.log2 < 1920)
    have h2 := int_len hn
    have h3 := ok.pz
    have hp : (("." : Str)).length = 1 := by decide +kernel
    have hcl : (("c." : Str)).length = 2 := by decide +kernel
    have hhl := head_len ok
    have e0 : m.pts = ("" : Str) ↔ ((m.pts.length : Int) != 0) = false := by
      constructor
      · intro e; rw [e]; decide +kernel
      · intro e
        have hz : m.pts.cps.size = 0 := by
          have : (m.pts.length : Int) = 0 := by simpa using e
          have h' : (m.pts.cps.size : Int) = 0 := this
          omega
        have hq : m.pts.cps = #[] := Array.eq_empty_of_size_eq_zero hz
        have : m.pts = ⟨#[]⟩ := by cases hm : m.pts with | mk c => rw [hm] at hq; exact congrArg Str.mk hq
        rw [this]
        decide +kernel
    dsimp only
    refine q_asg (v := .str m.head) ?_ fun H1 e1 => ?_
    refine ev_if (b := ((m.pts.length : Int) != 0)) ?_ (fun hb => ?_) (fun hb => ?_)
    · refine et_truth (K := K) (x := .str m.pts) ?_ ?_
      · exact ev_var rfl
      · exact fun H1 _ => ⟨sz_of (by omega), rfl⟩
    · have hne : ¬ m.pts = ("" : Str) := fun e => by rw [e0.mp e] at hb; cases hb
      have hh : m.head = ([m.lt, (toString m.num : String), ".", m.pts] : List Str).foldl (· ++ ·) Str.empty := by unfold MK.head; rw [if_neg hne]
      rw [hh]
      refine ev_joined (.cons (ev_fmtS (ev_var rfl) (by omega)) (.cons (ev_fmtI (ev_var rfl) hn) (.cons ev_c (.cons (ev_fmtS (ev_var rfl) (by omega)) .nil)))) ?_
      simp only [List.map_cons, List.map_nil, List.sum_cons, List.sum_nil, hp]
      omega
    · have he : m.pts = ("" : Str) := e0.mpr hb
      have hh : m.head = ([m.lt, (toString m.num : String)] : List Str).foldl (· ++ ·) Str.empty := by unfold MK.head; rw [if_pos he]
      rw [hh]
      refine ev_joined (.cons (ev_fmtS (ev_var rfl) (by omega)) (.cons (ev_fmtI (ev_var rfl) hn) .nil)) ?_
      simp only [List.map_cons, List.map_nil, List.sum_cons, List.sum_nil]
      omega
    · have hk := ok.k
      refine q_asgL (xs := .str m.head :: (m.mks.map V.str ++ [])) (el_lst (ea_cons (ev_var rfl) (ea_star (ev_var rfl) (ex_t e1 hma) ea_nil)) (by simp only [List.length_cons, List.length_append, List.length_map, List.length_nil]; omega)) fun p H2 hp2 e2 h2 => ?_
      rw [List.append_nil] at h2
      -- the year
      have hwl : ∀ s ∈ (m.head :: m.mks), s.length ≤ 5000 := fun s hs => by
        rcases List.mem_cons.mp hs with rfl | hs
        · exact hhl
        · have := (ok.ks s hs).2; omega
      have key : ∀ (ws : List Str) (H3 : Hp) (D : Ends) (σ : L2.St), D.rt = Q → σ[8]? = some (some (.ref p)) → Ex H H3 → H3 p = some (.lst (ws.map V.str)) → ws.length ≤ 6 → (∀ s ∈ ws, s.length ≤ 5000) → ws = m.words → tRet (tM1 (rJoin K) (tC (.str " ")) (tVar 8)) D σ H3 := by
        intro ws H3 D σ hD hσ e3 h3 hl hs hw
        have hsum : (ws.map (·.length)).sum ≤ 6 * 5000 := by
          have : ∀ (l : List Str), (∀ s ∈ l, s.length ≤ 5000) → (l.map (·.length)).sum ≤ l.length * 5000 := fun l => by
            induction l with
            | nil => intro _; simp
            | cons a l ih =>
              intro h
              have h1 := h a List.mem_cons_self
              have h2 := ih fun s hs => h s (List.mem_cons_of_mem _ hs)
              rw [List.map_cons, List.sum_cons, List.length_cons]
              omega
          have q := this ws hs
          omega
        have hb : ((" " : Str)).length = 1 := by decide +kernel
        refine ⟨⟨_, rfl⟩, _, hσ, _, p, ws, rfl, rfl, .inl (sq_of h3), ?_, ?_⟩
        · rw [hb]; omega
        · show D.rt (.str (Txt.join " " ws)) H3
          rw [hD, hw]
          exact k H3 e3
      have step2 : ∀ (ws : List Str) (H3 : Hp), Ex H H3 → H3 p = some (.lst (ws.map V.str)) → ws.length ≤ 5 → (∀ s ∈ ws, s.length ≤ 5000) → ws ++ (match m.cp with | none => [] | some c => [([("c." : Str), ((toString c : String) : Str)]).foldl (· ++ ·) Str.empty]) = m.words →
          ∀ {tz : TS}, (∀ (ws : List Str) (H3 : Hp), Ex H H3 → H3 p = some (.lst (ws.map V.str)) → ws.length ≤ 6 → (∀ s ∈ ws, s.length ≤ 5000) → ws = m.words → tz { nx := fun _ H' => Q .non H', rt := Q } [some (.ref pa), some (.str m.lt), some (.int m.num), some (.str m.pts), some (.ref ma), some (oi m.yr), some (oi m.cp), some (.str m.head), some (.ref p)] H3) →
          tSeq (tIfS (tTest (tOp (fun x y H Q => y = .non ∧ Q (.bl (!decide (x = .non))) H) (tVar 6) (tC .non))) (tDrop (tBM K "list" rAppend (tVar 8) (tCons (fun σ H Q => tJs [tC (.str "c."), tFmt (tVar 6)] Str.empty σ H fun out H1 => Q (.str out) H1) tNil))) tNext) tz
            { nx := fun _ H' => Q .non H', rt := Q } [some (.ref pa), some (.str m.lt), some (.int m.num), some (.str m.pts), some (.ref ma), some (oi m.yr), some (oi m.cp), some (.str m.head), some (.ref p)] H3 := by
        intro ws H3 e3 h3 hl hs hw tz kk
        cases hc : m.cp with
        | none =>
          rw [hc] at hw
          refine q_when (b := false) (et_test (ev_op (ev_var rfl) ev_c fun H1 e Q q => ⟨rfl, q H1 (Ex.refl _)⟩)) (fun h => nomatch h) fun _ H4 e4 => ?_
          rw [← hc]
          exact kk ws H4 (e3.trans e4) (e4 _ _ h3) (by omega) hs (by rw [← hw]; simp)
        | some c =>
          rw [hc] at hw
          have hcn := (ok.c c hc).2
          have hcl2 := int_len hcn
          refine q_when (b := true) (et_test (ev_op (ev_var rfl) ev_c fun H1 e Q q => ⟨rfl, q H1 (Ex.refl _)⟩)) (fun _ H4 e4 => ?_) fun h => nomatch h
          refine s_app (e4 _ _ h3) (ev_var rfl) (ev_joined (.cons ev_c (.cons (ev_fmtI (ev_var rfl) hcn) .nil)) (by simp only [List.map_cons, List.map_nil, List.sum_cons, List.sum_nil, hcl]; omega)) (by rw [List.length_map]; omega) fun H5 e5 => ?_
          show tz _ _ _
          rw [← hc]
          refine kk (ws ++ [([("c." : Str), ((toString c : String) : Str)]).foldl (· ++ ·) Str.empty]) _ (Ex.mut ((e3.trans e4).trans e5) (fresh_back e1 hp2)) (by rw [upd_same, List.map_append]; rfl) (by rw [List.length_append]; simp only [List.length_cons, List.length_nil]; omega) (fun s hs' => ?_) hw
          rcases List.mem_append.mp hs' with h | h
          · exact hs s h
          · rw [List.mem_singleton.mp h, fold_len]
            simp only [List.map_cons, List.map_nil, List.sum_cons, List.sum_nil, hcl]
            have : (Str.empty).length = 0 := rfl
            omega
      have fin : ∀ (ws : List Str) (H3 : Hp), Ex H H3 → H3 p = some (.lst (ws.map V.str)) → ws.length ≤ 6 → (∀ s ∈ ws, s.length ≤ 5000) → ws = m.words → tRet (tM1 (rJoin K) (tC (.str " ")) (tVar 8)) { nx := fun _ H' => Q .non H', rt := Q } [some (.ref pa), some (.str m.lt), some (.int m.num), some (.str m.pts), some (.ref ma), some (oi m.yr), some (oi m.cp), some (.str m.head), some (.ref p)] H3 :=
        fun ws H3 e3 h3 hl hs hw => key ws H3 _ _ rfl rfl e3 h3 hl hs hw
      cases hy : m.yr with
      | none =>
        refine q_when (b := false) (et_test (ev_op (ev_var rfl) ev_c fun H1 e Q q => ⟨rfl, q H1 (Ex.refl _)⟩)) (fun h => nomatch h) fun _ H4 e4 => ?_
        rw [← hy]
        exact step2 (m.head :: m.mks) H4 ((e1.trans e2).trans e4) (e4 _ _ h2) (by rw [List.length_cons]; omega) hwl (by unfold MK.words; rw [hy, List.append_nil]) fin
      | some y =>
        have hyn := (log2_small ⟨by have := ok.y y hy; omega, by have := ok.y y hy; omega⟩ : y.natAbs.log2 < 1920)
        have hyl := int_len hyn
        refine q_when (b := true) (et_test (ev_op (ev_var rfl) ev_c fun H1 e Q q => ⟨rfl, q H1 (Ex.refl _)⟩)) (fun _ H4 e4 => ?_) fun h => nomatch h
        refine s_app (xs := (m.head :: m.mks).map V.str) (e4 _ _ h2) (ev_var rfl) (ev_strI (ev_var rfl) hyn) (by rw [List.length_map, List.length_cons]; omega) fun H5 e5 => ?_
        show tSeq _ _ _ _ _
        rw [← hy]
        refine step2 ((m.head :: m.mks) ++ [((toString y : String) : Str)]) _ (Ex.mut (((e1.trans e2).trans e4).trans e5) (fresh_back e1 hp2)) (by rw [upd_same, List.map_append]; rfl) (by rw [List.length_append]; simp only [List.length_cons, List.length_nil]; omega) (fun s hs' => ?_) (by unfold MK.words; rw [hy]) fin
        rcases List.mem_append.mp hs' with h | h
        · exact hwl s h
        · rw [List.mem_singleton.mp h]; omega
/-- the makers as they are handed in: none, a list or a tuple of texts -/
def MkIn (H : Hp) (mk : V) (ks : List Str) : Prop := (mk = .non ∧ ks = []) ∨ ∃ a, mk = .ref a ∧ (H a = some (.lst (ks.map V.str)) ∨ H a = some (.tup (ks.map V.str)))
theorem MkIn.ex {H H' : Hp} {mk : V} {ks : List Str} (h : MkIn H mk ks) (e : Ex H H') : MkIn H' mk ks := by
  rcases h with h | ⟨a, h1, h2 | h2⟩
  · exact .inl h
  · exact .inr ⟨a, h1, .inl (e _ _ h2)⟩
  · exact .inr ⟨a, h1, .inr (e _ _ h2)⟩
def spKept : Sp := fun vs H Q _ => ∃ (mk : V) (ks : List Str), vs = [mk] ∧ MkIn H mk ks ∧ ks.length ≤ 3 ∧ (∀ s ∈ ks, makerOk s = true ∧ s.length ≤ 1000) ∧ ∀ p H2, Ex H H2 → H2 p = some (.tup (ks.map V.str)) → Q (.ref p) H2
theorem kit_lt {t : String} (h : t = "list" ∨ t = "tuple") : PySem.W.kitAny K (.type t) [.type "list", .type "tuple"] = some true := by
  rcases h with rfl | rfl
  · exact kitAny_cons (kit_ty (r := true) (by decide +kernel)) (fun h => nomatch h) (fun _ => rfl)
  · exact kitAny_cons (kit_ty (r := false) (by decide +kernel)) (fun _ => kitAny_cons (kit_ty (r := true) (by decide +kernel)) (fun h => nomatch h) (fun _ => rfl)) (fun h => nomatch h)
theorem ok_kept_makers (T : Txt K mg Z) : FnOk P w K mg base CX0 5 Z.a_kept_makers Z.d_kept_makers ["makers"] spKept := by
  refine T.F_kept_makers.ok sc_kept_makers (fun vs H Q E h => ?_) (fun cdv A outer s H vs Q E hr h => ?_)
  · obtain ⟨_, _, rfl, _⟩ := h; rfl
  · obtain ⟨mk, ks, rfl, hm, hl, hk, k⟩ := h
    refine ⟨_, (pss_cons (ps_if (pt_cmpR op_isNq (pv 0) pe_non (nomark _)) (pss_one (ps_ret tup0)) pss_nil)
      (pss_cons (ps_if (PW.pt (pw_or (pt_not (pt_val (pe_callB (isiTK K) (by rfl) T.n_isinstance (by decide +kernel) (pa_cons (pv 0) (pa_cons (pe_tup (pa_cons (pe_bltn (v := .ty "list") (by rfl) T.n_list (by decide +kernel) rfl) (pa_cons (pe_bltn (v := .ty "tuple") (by rfl) T.n_tuple (by decide +kernel) rfl) pa_nil))) pa_nil))))) (pw_or1 (pt_cmpR op_gt (pe_callB (lenQ K) (by rfl) T.n_len (by decide +kernel) (pa_cons (pv 0) pa_nil)) pe_int (nomark _))))) (pss_one ps_never) pss_nil)
      (pss_cons (ps_for PassesOwn.never rfl (PI.or (pi_list (pv 0)) (pi_tup (pv 0))) (pg_name (i := 1) sc_kept_makers.nd rfl (.inl rfl)) (pss_one (ps_if (pt_not (pt_val (pe_call (ok_is_maker T) (hr.mono (by decide)) rfl T.g_is_maker T.F_is_maker.kp T.b_is_maker .nil pass0 (pa_cons (pv 1) pa_nil)))) (pss_one ps_never) pss_nil)))
      (pss_one (ps_ret (pe_callTy (tupK K) (by rfl) T.n_tuple (by decide +kernel) (pa_cons (pv 0) pa_nil))))))), ?_⟩
    rcases hm with ⟨rfl, rfl⟩ | ⟨a, rfl, hm⟩
    · refine q_when (b := true) (et_test (ev_op (ev_var rfl) ev_c fun H1 e Q q => ⟨rfl, q H1 (Ex.refl _)⟩)) (fun _ H1 e1 => ?_) fun h => nomatch h
      exact ⟨Nat.zero_le _, fun p hp => k p _ (e1.trans (Ex.new hp)) upd_same⟩
    · refine q_when (b := false) (et_test (ev_op (ev_var rfl) ev_c fun H1 e Q q => ⟨rfl, q H1 (Ex.refl _)⟩)) (fun h => nomatch h) fun _ H1 e1 => ?_
      have hm1 : H1 a = some (.lst (ks.map V.str)) ∨ H1 a = some (.tup (ks.map V.str)) := hm.imp (e1 _ _) (e1 _ _)
      -- isinstance, len
      have go : ∀ H2, Ex H H2 → (H2 a = some (.lst (ks.map V.str)) ∨ H2 a = some (.tup (ks.map V.str))) → ∀ {tz : TS} {D : Ends}, (∀ H3, Ex H H3 → (H3 a = some (.lst (ks.map V.str)) ∨ H3 a = some (.tup (ks.map V.str))) → tz D [some (.ref a), none] H3) →
          tSeq (tIfS (tOr (tNot (tB (tCB (rIsiT K) (tCons (tVar 0) (tCons (tTup (tCons (tC (.ty "list")) (tCons (tC (.ty "tuple")) tNil))) tNil))))) (tTest (tOp (rI0 fun i j => .bl (decide (j < i))) (tCB (rLenS K) (tCons (tVar 0) tNil)) (tC (.int 3))))) tNever tNext) tz D [some (.ref a), none] H2 := by
        intro H2 e2 h2 tz D kk
        refine ⟨_, rfl, by show 2 ≤ sizeLine; decide, fun p hp => ?_⟩
        have e3 : Ex H (upd H2 p (.tup [.ty "list", .ty "tuple"])) := e2.trans (Ex.new hp)
        have h3 : upd H2 p (.tup [.ty "list", .ty "tuple"]) a = some (.lst (ks.map V.str)) ∨ upd H2 p (.tup [.ty "list", .ty "tuple"]) a = some (.tup (ks.map V.str)) :=
          h2.imp (fun h => by rw [upd_ne (ne_of_none h hp)]; exact h) (fun h => by rw [upd_ne (ne_of_none h hp)]; exact h)
        have ty : ∃ t, (t = "list" ∨ t = "tuple") ∧ TyX K (upd H2 p (.tup [.ty "list", .ty "tuple"])) (.ref a) (.type t) := by
          rcases h3 with h | h
          · exact ⟨"list", .inl rfl, .base (.lst h)⟩
          · exact ⟨"tuple", .inr rfl, .base (.tup h)⟩
        obtain ⟨t, ht, hty⟩ := ty
        refine ⟨_, p, [.ty "list", .ty "tuple"], _, [.type "list", .type "tuple"], true, rfl, upd_same, .cons (.ty _) (.cons (.ty _) .nil), hty, kit_lt ht, true, rfl, iteF ?_⟩
        refine ⟨_, rfl, a, ks.map V.str, rfl, h3.imp (fun h => sq_of h) (fun h => st_of h), _, _, rfl, rfl, _, rfl, ?_⟩
        rw [List.length_map, decide_eq_false (by omega)]
        exact iteF (kk _ e3 h3)
      refine go H1 e1 hm1 fun H2 e2 h2 => ?_
      -- the loop
      have body : ∀ (i : Nat) (x : V) (σ' : L2.St) (H3 : Hp) (D : Ends), (ks.map V.str)[i]? = some x → (∃ v, σ' = [some (.ref a), v]) → (∀ H4, Ex H3 H4 → ∃ v, D.nx [some (.ref a), v] H4) → True := fun _ _ _ _ _ _ _ _ => trivial
      have hP : ∀ (i : Nat) (x : V) (v : Option V) (H3 : Hp) (D : Ends), (ks.map V.str)[i]? = some x → (∀ H4, Ex H3 H4 → D.nx [some (.ref a), some x] H4) → tIfS (tNot (tB (tCall (spMaker K) [] E0 (tCons (tVar 1) tNil)))) tNever tNext D [some (.ref a), some x] H3 := by
        intro i x v H3 D hx kk
        rw [List.getElem?_map] at hx
        cases e : ks[i]? with
        | none => rw [e] at hx; cases hx
        | some s =>
          rw [e] at hx
          cases hx
          have hs := hk s (List.mem_of_getElem? e)
          refine s_when (b := false) (et_not (a := true) (et_B (ev_is (ev_call (ea_cons (ev_var rfl) ea_nil) (sp_maker (t := s) (by omega))) (by rw [hs.1])))) (fun h => nomatch h) fun _ H4 e4 => kk H4 e4
      rcases h2 with h2 | h2
      · refine .inl ⟨_, rfl, a, rfl, ⟨_, sq_of h2⟩, for_list (K := K) (a := a) (xs := ks.map V.str) (fun i σ H' => (∃ v, σ = [some (.ref a), v]) ∧ Ex H H' ∧ H' a = some (.lst (ks.map V.str))) ⟨⟨none, rfl⟩, e2, h2⟩ (fun i σ H' _ h => sq_of h.2.2) ?_ ?_⟩
        · rintro i x σ H' hi ⟨⟨v, rfl⟩, e3, h3⟩
          exact hP i x v H' _ hi fun H4 e4 => ⟨⟨_, rfl⟩, e3.trans e4, e4 _ _ h3⟩
        · rintro σ H' ⟨⟨v, rfl⟩, e3, h3⟩
          exact ⟨_, rfl, a, _, rfl, .inl ⟨sq_of h3, fun l hl => k l _ (e3.trans (Ex.new hl)) upd_same⟩⟩
      · refine .inr ⟨_, rfl, a, rfl, ⟨_, st_of h2⟩, for_tup (K := K) (a := a) (xs := ks.map V.str) (fun i σ H' => (∃ v, σ = [some (.ref a), v]) ∧ Ex H H' ∧ H' a = some (.tup (ks.map V.str))) ⟨⟨none, rfl⟩, e2, h2⟩ (fun i σ H' _ h => st_of h.2.2) ?_ ?_⟩
        · rintro i x σ H' hi ⟨⟨v, rfl⟩, e3, h3⟩
          exact hP i x v H' _ hi fun H4 e4 => ⟨⟨_, rfl⟩, e3.trans e4, e4 _ _ h3⟩
        · rintro σ H' ⟨⟨v, rfl⟩, e3, h3⟩
          exact ⟨_, rfl, a, _, rfl, .inr ⟨st_of h3, k a H' e3 h3⟩⟩
/-- a mark stands at x -/
def MarkAt (C : Addr) (H : Hp) (x : Addr) (m : MK) : Prop := ∃ dx pa ma, H x = some (.ins C dx [("_parts", .ref pa), ("_text", .str m.text)]) ∧ H pa = some (.tup (m.tup ma)) ∧ H ma = some (.tup (m.mks.map V.str))
theorem MarkAt.ex {C : Addr} {H H' : Hp} {x : Addr} {m : MK} (h : MarkAt C H x m) (e : Ex H H') : MarkAt C H' x m := by
  obtain ⟨dx, pa, ma, h1, h2, h3⟩ := h
  exact ⟨dx, pa, ma, e _ _ h1, e _ _ h2, e _ _ h3⟩
theorem whole_yes {i lo : Int} {hi : Option Int} (h1 : lo ≤ i) (h2 : ∀ h, hi = some h → i ≤ h) : whole (.int i) lo hi = true := by
  show (decide (lo ≤ i) && _) = true
  rw [decide_eq_true h1, Bool.true_and]
  cases hi with
  | none => rfl
  | some h => exact decide_eq_true (h2 h rfl)
def spMark (C : Addr) : Sp := fun vs H Q _ => ∃ (H0 : Hp) (x dx : Addr) (m : MK) (mk : V), vs = [.ref x, .str m.lt, .int m.num, .str m.pts, mk, oi m.yr, oi m.cp] ∧ m.Ok ∧ Ex H0 H ∧ H0 x = none ∧ H x = some (.ins C dx []) ∧ MkIn H mk m.mks ∧ ∀ H', Ex H0 H' → MarkAt C H' x m → Q .non H'

theorem ok_Mark_init (T : Txt K mg Z) : FnOk P w K mg base CX0 6 Z.a_Mark_init Z.d_Mark_init ["self", "letters", "number", "points", "makers", "year", "copy"] (spMark Z.C_Mark) := by
  refine T.F_Mark_init.ok sc_Mark_init (fun vs H Q E h => ?_) (fun cdv A outer s H vs Q E hr h => ?_)
  · obtain ⟨_, _, _, _, _, rfl, _⟩ := h; rfl
  · obtain ⟨H0, x, dx, m, mk, rfl, ok, e0, hx0, hx, hmk, k⟩ := h
    refine ⟨_, (pss_cons (ps_if (pt_not (pt_val (pe_call (ok_is_letters T) (hr.mono (by decide)) rfl T.g_is_letters T.F_is_letters.kp T.b_is_letters .nil pass0 (pa_cons (pv 1) (pa_cons pe_int pa_nil))))) (pss_one ps_never) pss_nil)
      (pss_cons (ps_if (pt_not (pt_val (pe_call (ok_is_whole T) (hr.mono (by decide)) rfl T.g_is_whole T.F_is_whole.kp T.b_is_whole .nil pass0 (pa_cons (pv 2) (pa_cons pe_int (pa_cons pe_int pa_nil)))))) (pss_one ps_never) pss_nil)
      (pss_cons (ps_if (pt_not (pt_val (pe_call (ok_is_points T) (hr.mono (by decide)) rfl T.g_is_points T.F_is_points.kp T.b_is_points .nil pass0 (pa_cons (pv 3) pa_nil)))) (pss_one ps_never) pss_nil)
      (pss_cons (ps_set (i := 7) sc_Mark_init.nd rfl (.inl rfl) (pe_call (ok_kept_makers T) (hr.mono (by decide)) rfl T.g_kept_makers T.F_kept_makers.kp T.b_kept_makers .nil pass0 (pa_cons (pv 4) pa_nil)))
      (pss_cons (ps_if (PW.pt (pw_and (pt_cmpR op_notNq (pv 5) pe_non (nomark _)) (pw_and1 (pt_not (pt_val (pe_call (ok_is_whole T) (hr.mono (by decide)) rfl T.g_is_whole T.F_is_whole.kp T.b_is_whole .nil pass0 (pa_cons (pv 5) (pa_cons pe_int (pa_cons pe_int pa_nil))))))))) (pss_one ps_never) pss_nil)
      (pss_cons (ps_if (PW.pt (pw_and (pt_cmpR op_notNq (pv 6) pe_non (nomark _)) (pw_and1 (pt_not (pt_val (pe_callD (ok_is_whole T) (hr.mono (by decide)) rfl T.g_is_whole T.F_is_whole.kp T.b_is_whole_2 pass0 (pa_cons (pv 6) (pa_cons pe_int pa_nil)))))))) (pss_one ps_never) pss_nil)
      (pss_cons (ps_fld (pv 0) (pe_tup (pa_cons (pv 1) (pa_cons (pv 2) (pa_cons (pv 3) (pa_cons (pv 7) (pa_cons (pv 5) (pa_cons (pv 6) pa_nil))))))) rfl)
      (pss_one (ps_fld (pv 0) (pe_call (ok_text_of T) (hr.mono (by decide)) rfl T.g_text_of T.F_text_of.kp T.b_text_of .nil pass0 (pa_cons (fldK K (pv 0) rfl) pa_nil)) rfl))))))))), ?_⟩
    have hll := letters_len ok.l
    refine q_when (b := false) (et_not (a := true) (et_B (ev_is (ev_call (ea_cons (ev_var rfl) (ea_cons ev_c ea_nil)) (sp_letters (by omega))) (by rw [ok.l])))) (fun h => nomatch h) fun _ H1 e1 => ?_
    refine q_when (b := false) (et_not (a := true) (et_B (ev_is (ev_call (ea_cons (ev_var rfl) (ea_cons ev_c (ea_cons ev_c ea_nil))) (sp_whole (hi := some 9999) kni_int)) (by rw [whole_yes ok.n.1 (fun h q => by cases q; exact ok.n.2)])))) (fun h => nomatch h) fun _ H2 e2 => ?_
    refine q_when (b := false) (et_not (a := true) (et_B (ev_is (ev_call (ea_cons (ev_var rfl) ea_nil) (sp_points (by have := ok.pz; omega))) (by rw [ok.p])))) (fun h => nomatch h) fun _ H3 e3 => ?_
    have e03 := ((e0.trans e1).trans e2).trans e3
    have hx3 := e3 _ _ (e2 _ _ (e1 _ _ hx))
    refine ⟨_, rfl, mk, m.mks, rfl, ((hmk.ex e1).ex e2).ex e3, ok.k, ok.ks, fun ma H4 e4 h4 => ?_⟩
    have e04 := e03.trans e4
    have hx4 := e4 _ _ hx3
    dsimp only [gName]
    -- the year
    refine q_when (b := false) ?_ (fun h => nomatch h) fun _ H5 e5 => ?_
    · cases hy : m.yr with
      | none => exact et_and (a := false) (b := false) (et_test (ev_op (ev_var rfl) ev_c fun H1 e Q q => ⟨rfl, q H1 (Ex.refl _)⟩)) (fun h => nomatch h)
      | some y => exact et_and (a := true) (b := false) (et_test (ev_op (ev_var rfl) ev_c fun H1 e Q q => ⟨rfl, q H1 (Ex.refl _)⟩)) (fun _ => et_not (a := true) (et_B (ev_is (ev_call (ea_cons (ev_var rfl) (ea_cons ev_c (ea_cons ev_c ea_nil))) (sp_whole (x := .int y) (hi := some 2999) kni_int)) (by rw [whole_yes (ok.y y hy).1 (fun h q => by cases q; exact (ok.y y hy).2)]))))
    refine q_when (b := false) ?_ (fun h => nomatch h) fun _ H6 e6 => ?_
    · cases hc : m.cp with
      | none => exact et_and (a := false) (b := false) (et_test (ev_op (ev_var rfl) ev_c fun H1 e Q q => ⟨rfl, q H1 (Ex.refl _)⟩)) (fun h => nomatch h)
      | some c => exact et_and (a := true) (b := false) (et_test (ev_op (ev_var rfl) ev_c fun H1 e Q q => ⟨rfl, q H1 (Ex.refl _)⟩)) (fun _ => et_not (a := true) (et_B (ev_is (ev_call (ea_cons (ev_var rfl) (ea_cons ev_c ea_nil)) (sp_whole (x := .int c) (hi := none) kni_int)) (by rw [whole_yes (hi := none) (ok.c c hc).1 (fun h q => nomatch q)]))))
    have s6 : ST H0 H6 [(x, .ins Z.C_Mark dx [])] := ⟨(e04.trans e5).trans e6, fun p hp => by
      rcases List.mem_singleton.mp hp with rfl
      exact ⟨hx0, e6 _ _ (e5 _ _ hx4)⟩, List.pairwise_singleton ..⟩
    have h6 := e6 _ _ (e5 _ _ h4)
    -- the parts
    refine q_fldU (xs := m.tup ma) (eu_tup (ea_cons (ev_var rfl) (ea_cons (ev_var rfl) (ea_cons (ev_var rfl) (ea_cons (ev_var rfl) (ea_cons (ev_var rfl) (ea_cons (ev_var rfl) ea_nil)))))) (by show 6 ≤ 100000; decide)) (ev_var rfl) s6.at1 T.cl_Mark T.na_Mark_parts (by simp) fun pa H7 hpa e7 h7 => ?_
    have s7 := s6.ext e7
    have nx : x ≠ pa := ne_of_none s6.at1 hpa
    have nm : ma ≠ x := ne_of h6 s6.at1 (by intro z; cases z)
    have f7 : putF "_parts" (.ref pa) [] = [(("_parts" : Str), V.ref pa)] := by kernel_rfl
    rw [f7]
    have s8 := s7.set (u := .ins Z.C_Mark dx [(("_parts" : Str), V.ref pa)])
    have h8 : upd H7 x (.ins Z.C_Mark dx [(("_parts" : Str), V.ref pa)]) pa = some (.tup (m.tup ma)) := by rw [upd_ne nx.symm]; exact h7
    have h9 : upd H7 x (.ins Z.C_Mark dx [(("_parts" : Str), V.ref pa)]) ma = some (.tup (m.mks.map V.str)) := by rw [upd_ne nm]; exact e7 _ _ h6
    refine s_fld (v := .str m.text) (ev_call (ea_cons (ev_fld (ev_var rfl) s8.at1 T.cl_Mark T.na_Mark_parts (by kernel_rfl)) ea_nil) (fun H1 e Q q E => ⟨pa, ma, m, rfl, st_of (e _ _ h8), st_of (e _ _ h9), ok, q⟩)) (ev_var rfl) s8.at1 T.cl_Mark T.na_Mark_text (by simp) fun H9 e9 => ?_
    have f9 : putF "_text" (.str m.text) [(("_parts" : Str), V.ref pa)] = [(("_parts" : Str), V.ref pa), ("_text", .str m.text)] := by kernel_rfl
    rw [f9]
    have s9 := (s8.ext e9).set (u := .ins Z.C_Mark dx [(("_parts" : Str), V.ref pa), ("_text", .str m.text)])
    exact k _ s9.e ⟨dx, pa, ma, upd_same, by rw [upd_ne nx.symm]; exact e9 _ _ h8, by rw [upd_ne nm]; exact e9 _ _ h9⟩

/-! what a mark tells -/
def oD : Option Int → PyData
  | none => .none
  | some i => .int i
def MK.data (m : MK) : PyData := .tuple [.str m.lt, .int m.num, .str m.pts, .tuple (m.mks.map PyData.str), oD m.yr, oD m.cp]
def MK.kdata (m : MK) : PyData := .tuple [.str m.lt, .int m.num, .str m.pts, .tuple (m.mks.map PyData.str), .int (m.yr.getD 0), .int (m.cp.getD 0)]
def MK.ktup (m : MK) (ma : Addr) : List V := [.str m.lt, .int m.num, .str m.pts, .ref ma, .int (m.yr.getD 0), .int (m.cp.getD 0)]
theorem dp_strs {H : Hp} : ∀ ks : List Str, DpAll K H (ks.map V.str) (ks.map PyData.str)
  | [] => .nil
  | s :: ks => .cons (.str s) (dp_strs ks)
theorem dp_oi {H : Hp} (o : Option Int) : Dp K H (oi o) (oD o) := by
  cases o with
  | none => exact .non
  | some y => exact .int y
theorem dp_data {H : Hp} {pa ma : Addr} {m : MK} (h1 : H pa = some (.tup (m.tup ma))) (h2 : H ma = some (.tup (m.mks.map V.str))) : Dp K H (.ref pa) m.data :=
  .tup (st_of h1) (.cons (.str _) (.cons (.int _) (.cons (.str _) (.cons (.tup (st_of h2) (dp_strs _)) (.cons (dp_oi _) (.cons (dp_oi _) .nil))))))
theorem dp_kdata {H : Hp} {pa ma : Addr} {m : MK} (h1 : H pa = some (.tup (m.ktup ma))) (h2 : H ma = some (.tup (m.mks.map V.str))) : Dp K H (.ref pa) m.kdata :=
  .tup (st_of h1) (.cons (.str _) (.cons (.int _) (.cons (.str _) (.cons (.tup (st_of h2) (dp_strs _)) (.cons (.int _) (.cons (.int _) .nil))))))
theorem depth_strs : ∀ ks : List Str, PyData.depthAll (ks.map PyData.str) = 0
  | [] => by simp [PyData.depthAll]
  | s :: ks => by simp [PyData.depthAll, PyData.depth, depth_strs ks]
theorem alike_strs : ∀ ks js : List Str, PySem.W.alikeAll (ks.map PyData.str) (js.map PyData.str) = true
  | [], _ => by simp [PySem.W.alikeAll]
  | _ :: _, [] => by simp [PySem.W.alikeAll]
  | s :: ks, t :: js => by simp [PySem.W.alikeAll, PySem.W.alike, alike_strs ks js]
theorem kalike (m n : MK) : PySem.W.alike m.kdata n.kdata = true := by
  unfold MK.kdata
  simp [PySem.W.alike, PySem.W.alikeAll, alike_strs]
theorem kdepth (m : MK) : m.kdata.depth ≤ 60 := by
  unfold MK.kdata
  simp [PyData.depth, PyData.depthAll, depth_strs]
def strsOk (m : MK) : Prop := PyData.strOk m.lt = true ∧ PyData.strOk m.pts = true ∧ ∀ s ∈ m.mks, PyData.strOk s = true
theorem lay_strs : ∀ ks : List Str, (∀ s ∈ ks, PyData.strOk s = true) → PyData.canLayAll0 (ks.map PyData.str) = true
  | [], _ => by simp [PyData.canLayAll0]
  | s :: ks, h => by simp [PyData.canLayAll0, PyData.canLay0, h s List.mem_cons_self, lay_strs ks fun t ht => h t (List.mem_cons_of_mem _ ht)]
end


section
variable {P : Program} {w : World} {K : PySem.W.Frag} {mg : Str → Option Value} {base : Heap} {Z : Adr}
def spKey (C : Addr) : Sp := fun vs H Q _ => ∃ x m, vs = [.ref x] ∧ MarkAt C H x m ∧ ∀ p ma H2, Ex H H2 → H2 p = some (.tup (m.ktup ma)) → H2 ma = some (.tup (m.mks.map V.str)) → Q (.ref p) H2
theorem or0 {te : TE} {σ : L2.St} {H : Hp} {o : Option Int} (h : Ev te σ H (oi o)) (hz : ∀ i, o = some i → i ≠ 0) : Ev (tOrT K te (tC (.int 0))) σ H (.int (o.getD 0)) := by
  cases o with
  | none => exact ev_orT (b := false) h (fun _ _ => rfl) (fun _ => ev_c) rfl
  | some i => exact ev_orT (b := true) (y := .int 0) h (fun _ _ => by show true = (i != 0); have := hz i rfl; simp [this]) (fun z => nomatch z) rfl
theorem ok_Mark_key (T : Txt K mg Z) : FnOk P w K mg base CX0 1 Z.a_Mark_key Z.d_Mark_key ["self"] (fun vs H Q E => ∃ x m, (vs = [.ref x] ∧ MarkAt Z.C_Mark H x m ∧ m.Ok) ∧ ∀ p ma H2, Ex H H2 → H2 p = some (.tup (m.ktup ma)) → H2 ma = some (.tup (m.mks.map V.str)) → Q (.ref p) H2) := by
  refine T.F_Mark_key.ok sc_Mark_key (fun vs H Q E h => ?_) (fun cdv A outer s H vs Q E hr h => ?_)
  · obtain ⟨_, _, ⟨rfl, _⟩, _⟩ := h; rfl
  · obtain ⟨x, m, ⟨rfl, ⟨dx, pa, ma, h1, h2, h3⟩, ok⟩, k⟩ := h
    refine ⟨_, (pss_cons (ps_asg (fldK K (pv 0) rfl) (pg_tup rfl (pgs_cons (pg_name (i := 1) sc_Mark_key.nd rfl (.inl rfl)) (pgs_cons (pg_name (i := 2) sc_Mark_key.nd rfl (.inl rfl)) (pgs_cons (pg_name (i := 3) sc_Mark_key.nd rfl (.inl rfl)) (pgs_cons (pg_name (i := 4) sc_Mark_key.nd rfl (.inl rfl)) (pgs_cons (pg_name (i := 5) sc_Mark_key.nd rfl (.inl rfl)) (pgs_cons (pg_name (i := 6) sc_Mark_key.nd rfl (.inl rfl)) pgs_nil))))))))
      (pss_one (ps_ret (pe_tup (pa_cons (pv 1) (pa_cons (pv 2) (pa_cons (pv 3) (pa_cons (pv 4) (pa_cons (pe_orT (pv 5) (pe_one pe_int)) (pa_cons (pe_orT (pv 6) (pe_one pe_int)) pa_nil)))))))))), ?_⟩
    refine ⟨_, rfl, x, Z.C_Mark, dx, _, _, rfl, h1, T.cl_Mark, T.na_Mark_parts, by kernel_rfl, pa, _, rfl, st_of h2, rfl, _, _, rfl, _, _, rfl, _, _, rfl, _, _, rfl, _, _, rfl, _, _, rfl, rfl, ?_⟩
    dsimp only [gName, gNil]
    exact s_retU (xs := m.ktup ma) (eu_tup (ea_cons (ev_var rfl) (ea_cons (ev_var rfl) (ea_cons (ev_var rfl) (ea_cons (ev_var rfl) (ea_cons (or0 (ev_var rfl) (fun i hi => by have := ok.y i hi; omega)) (ea_cons (or0 (ev_var rfl) (fun i hi => by have := (ok.c i hi).1; omega)) ea_nil)))))) (by show 6 ≤ 100000; decide)) fun p H1 hp e1 hh => k p ma H1 e1 hh (e1 _ _ h3)
def spAhead (C : Addr) : Sp := fun vs H Q _ => ∃ x y m n, vs = [.ref x, .ref y] ∧ MarkAt C H x m ∧ MarkAt C H y n ∧ m.Ok ∧ n.Ok ∧ RetV (.bl (PySem.W.dataLt m.kdata n.kdata)) H Q
theorem noattr_key {dx pa : Addr} {s : Str} : List.lookup ("key" : Str) [(("_parts" : Str), V.ref pa), ("_text", .str s)] = none := by kernel_rfl
theorem ok_Mark_ahead (T : Txt K mg Z) : FnOk P w K mg base CX0 2 Z.a_Mark_ahead Z.d_Mark_ahead ["self", "other"] (spAhead Z.C_Mark) := by
  refine T.F_Mark_ahead.ok sc_Mark_ahead (fun vs H Q E h => ?_) (fun cdv A outer s H vs Q E hr h => ?_)
  · obtain ⟨_, _, _, _, rfl, _⟩ := h; rfl
  · obtain ⟨x, y, m, n, rfl, hm, hn, okm, okn, k⟩ := h
    refine ⟨_, (pss_one (ps_ret (pe_cmpR (op_ltD K hr.units) (pe_meth0 (pv 0) T.cl_Mark T.m_Mark_key (ok_Mark_key T) (hr.mono (by decide)) T.b_Mark_key .nil pass0) (pe_meth0 (pv 1) T.cl_Mark T.m_Mark_key (ok_Mark_key T) (hr.mono (by decide)) T.b_Mark_key .nil pass0) (nomark _)))), ?_⟩
    obtain ⟨dx, pa, ma, h1, h2, h3⟩ := id hm
    refine ⟨_, rfl, x, dx, _, rfl, h1, by kernel_rfl, x, m, ⟨rfl, hm, okm⟩, fun p ka H2 e2 hp hka => ?_⟩
    obtain ⟨dy, pb, mb, g1, g2, g3⟩ := hn.ex e2
    refine ⟨_, rfl, y, dy, _, rfl, g1, by kernel_rfl, y, n, ⟨rfl, ⟨dy, pb, mb, g1, g2, g3⟩, okn⟩, fun q kb H3 e3 hq hkb => ?_⟩
    exact ⟨m.kdata, n.kdata, dp_kdata (e3 _ _ hp) (e3 _ _ hka), dp_kdata hq hkb, kalike m n, (fun z => by unfold MK.kdata at z; cases z), kdepth m, k H3 (e2.trans e3)⟩
end

/-! ### equal marks, the order of two -/
theorem eqvAll_strs : ∀ ks js : List Str, PyData.eqvAll (ks.map PyData.str) (js.map PyData.str) = decide (ks = js)
  | [], [] => by simp [PyData.eqvAll]
  | [], _ :: _ => by simp [PyData.eqvAll]
  | _ :: _, [] => by simp [PyData.eqvAll]
  | s :: ks, t :: js => by
    rw [List.map_cons, List.map_cons, PyData.eqvAll, eqvAll_strs ks js, PyData.eqv]
    by_cases h1 : s = t
    · by_cases h2 : ks = js
      · simp [h1, h2]
      · simp [h1, h2]
    · simp [h1]
def kE (m n : MK) : Bool := decide (m.lt = n.lt) && (decide (m.num = n.num) && (decide (m.pts = n.pts) && (decide (m.mks = n.mks) && (decide (m.yr.getD 0 = n.yr.getD 0) && decide (m.cp.getD 0 = n.cp.getD 0)))))
theorem beq_dec {α : Type} [DecidableEq α] (a b : α) : (a == b) = decide (a = b) := by
  by_cases h : a = b
  · subst h; simp
  · simp [h]
theorem eqv_k (m n : MK) : PyData.eqv m.kdata n.kdata = kE m n := by
  unfold MK.kdata kE
  simp only [PyData.eqv, PyData.eqvAll, eqvAll_strs, beq_dec, Bool.and_true]
theorem eqv_oi (o o' : Option Int) : (∀ i, o = some i → i ≠ 0) → (∀ i, o' = some i → i ≠ 0) →
    PyData.eqv (oD o) (oD o') = decide (o.getD 0 = o'.getD 0) := by
  intro h h'
  cases o with
  | none =>
    cases o' with
    | none => simp [oD, PyData.eqv]
    | some j =>
      have := h' j rfl
      simp only [oD, PyData.eqv, Option.getD]
      exact (decide_eq_false (fun e => this e.symm)).symm
  | some i =>
    have := h i rfl
    cases o' with
    | none =>
      simp only [oD, PyData.eqv, Option.getD]
      exact (decide_eq_false this).symm
    | some j => simp only [oD, PyData.eqv, Option.getD, beq_dec]
theorem eqv_d {m n : MK} (okm : m.Ok) (okn : n.Ok) : PyData.eqv m.data n.data = kE m n := by
  unfold MK.data kE
  simp only [PyData.eqvAll, PyData.eqv, eqvAll_strs, beq_dec, Bool.and_true]
  rw [eqv_oi m.yr n.yr (fun i h => by have := okm.y i h; omega) (fun i h => by have := okn.y i h; omega), eqv_oi m.cp n.cp (fun i h => by have := (okm.c i h).1; omega) (fun i h => by have := (okn.c i h).1; omega)]
theorem kE_symm (m n : MK) : kE m n = kE n m := by
  unfold kE
  simp only [eq_comm]
theorem kE_iff (m n : MK) : kE m n = true ↔ m.kdata = n.kdata := by
  unfold kE MK.kdata
  simp only [Bool.and_eq_true, decide_eq_true_eq, PyData.tuple.injEq, List.cons.injEq, PyData.str.injEq, PyData.int.injEq, and_true]
  constructor
  · rintro ⟨h1, h2, h3, h4, h5, h6⟩
    exact ⟨h1, h2, h3, by rw [h4], h5, h6⟩
  · rintro ⟨h1, h2, h3, h4, h5, h6⟩
    have inj : ∀ ks js : List Str, ks.map PyData.str = js.map PyData.str → ks = js := fun ks => by
      induction ks with
      | nil => intro js h; cases js with | nil => rfl | cons _ _ => cases h
      | cons k ks ih =>
        intro js h
        cases js with
        | nil => cases h
        | cons j js =>
          rw [List.map_cons, List.map_cons] at h
          injection h with a b
          injection a with a
          rw [a, ih js b]
    exact ⟨h1, h2, h3, inj _ _ h4, h5, h6⟩
theorem toks_strs : ∀ (ks js : List Str) (A B : List (Int ⊕ List Nat)), PySem.W.keyToksAll (ks.map PyData.str) ++ A = PySem.W.keyToksAll (js.map PyData.str) ++ B → ks = js ∧ A = B
  | [], [], A, B, h => by
    simp only [List.map_nil, PySem.W.keyToksAll, List.cons_append, List.nil_append, List.cons.injEq, true_and] at h
    exact ⟨rfl, h⟩
  | [], _ :: _, A, B, h => by simp [PySem.W.keyToksAll] at h
  | _ :: _, [], A, B, h => by simp [PySem.W.keyToksAll] at h
  | s :: ks, t :: js, A, B, h => by
    simp only [List.map_cons, PySem.W.keyToksAll, PySem.W.keyToks, List.cons_append, List.nil_append, List.append_assoc, List.cons.injEq, true_and, Sum.inr.injEq] at h
    obtain ⟨h1, h2⟩ := h
    obtain ⟨e1, e2⟩ := toks_strs ks js A B h2
    exact ⟨by rw [PySem.W.str_of_cps h1, e1], e2⟩
theorem toks_inj {m n : MK} (h : PySem.W.keyToks m.kdata = PySem.W.keyToks n.kdata) : kE m n = true := by
  unfold MK.kdata at h
  simp only [PySem.W.keyToks, PySem.W.keyToksAll, List.cons_append, List.nil_append, List.cons.injEq, true_and, Sum.inr.injEq, Sum.inl.injEq] at h
  obtain ⟨h1, h2, h3, h4⟩ := h
  obtain ⟨e1, e2⟩ := toks_strs _ _ _ _ h4
  simp only [List.cons.injEq, true_and, Sum.inl.injEq] at e2
  unfold kE
  rw [PySem.W.str_of_cps h1, h2, PySem.W.str_of_cps h3, e1, e2.1, e2.2.1]
  simp
theorem lt_flip {m n : MK} (h : kE m n = false) : PySem.W.dataLt n.kdata m.kdata = !PySem.W.dataLt m.kdata n.kdata := by
  unfold PySem.W.dataLt
  cases h1 : PyProof.Rows.lexLt itemOrd (PySem.W.keyToks m.kdata) (PySem.W.keyToks n.kdata) with
  | true =>
    cases h2 : PyProof.Rows.lexLt itemOrd (PySem.W.keyToks n.kdata) (PySem.W.keyToks m.kdata) with
    | true =>
      have := PyProof.Rows.lex_trans _ _ _ h1 h2
      rw [PyProof.Rows.lex_irrefl] at this
      cases this
    | false => rfl
  | false =>
    cases h2 : PyProof.Rows.lexLt itemOrd (PySem.W.keyToks n.kdata) (PySem.W.keyToks m.kdata) with
    | true => rfl
    | false =>
      have := toks_inj (PyProof.Rows.lex_total _ _ h1 h2)
      rw [h] at this
      cases this
theorem lt_same {m n : MK} (h : kE m n = true) : PySem.W.dataLt m.kdata n.kdata = false := by
  rw [(kE_iff m n).mp h]
  exact PyProof.Rows.lex_irrefl _
def ordI (m n : MK) : Int := if kE m n = true then 0 else if PySem.W.dataLt m.kdata n.kdata = true then -1 else 1
theorem ordI_flip (m n : MK) : ordI n m = -ordI m n := by
  unfold ordI
  rw [kE_symm n m]
  cases h : kE m n with
  | true => rfl
  | false =>
    rw [if_neg Bool.false_ne_true, if_neg Bool.false_ne_true, lt_flip h]
    cases PySem.W.dataLt m.kdata n.kdata <;> rfl
theorem strOk_of {t s : Str} (h : allIn t s = true) (hs : s.cps.toList.all (fun c => decide (c < 0x110000)) = true) : PyData.strOk t = true := by
  unfold PyData.strOk
  rw [← Array.all_toList]
  refine List.all_eq_true.mpr fun c hc => ?_
  have h1 := List.all_eq_true.mp h c hc
  exact List.all_eq_true.mp hs c (of_decide_eq_true h1)
theorem strOk_cut {t : Str} (h1 : PyData.strOk (cutS t none (some 1)) = true) (h2 : PyData.strOk (cutS t (some 1) none) = true) : PyData.strOk t = true := by
  unfold PyData.strOk at *
  rw [← Array.all_toList] at *
  refine List.all_eq_true.mpr fun c hc => ?_
  have e1 : (cutS t none (some 1)).cps.toList = t.cps.toList.take 1 := by
    show (List.toArray _).toList = _
    rw [show HT.sIx t.length 0 none = 0 from rfl, show HT.sIx t.length t.length (some 1) = min 1 t.length from HT.sIx_nat _ _ 1, List.drop_zero]
    show List.take (min 1 t.length - 0) _ = _
    have hl : t.cps.toList.length = t.length := Array.length_toList
    rw [Nat.sub_zero]
    by_cases h : 1 ≤ t.length
    · rw [Nat.min_eq_left h]
    · rw [Nat.min_eq_right (by omega), List.take_of_length_le (by omega), List.take_of_length_le (by omega)]
  have e2 : (cutS t (some 1) none).cps.toList = t.cps.toList.drop 1 := by
    show (List.toArray _).toList = _
    have hl : t.cps.toList.length = t.length := Array.length_toList
    rw [show HT.sIx t.length 0 (some 1) = min 1 t.length from HT.sIx_nat _ _ 1, show HT.sIx t.length t.length none = t.length from rfl]
    by_cases h : 1 ≤ t.length
    · rw [Nat.min_eq_left h, List.take_of_length_le (by rw [List.length_drop]; omega)]
    · rw [Nat.min_eq_right (by omega), List.drop_of_length_le (by omega), List.drop_of_length_le (by omega)]
      simp
  rw [e1] at h1
  rw [e2] at h2
  rw [← List.take_append_drop 1 t.cps.toList] at hc
  rcases List.mem_append.mp hc with h | h
  · exact List.all_eq_true.mp h1 c h
  · exact List.all_eq_true.mp h2 c h
theorem abc_ok : sABC.cps.toList.all (fun c => decide (c < 0x110000)) = true := by decide +kernel
theorem fig_ok : sFIG.cps.toList.all (fun c => decide (c < 0x110000)) = true := by decide +kernel
theorem letters_in {s : Str} {n : Int} (h : lettersOk s n = true) : allIn s sABC = true := by
  unfold lettersOk at h
  rw [Bool.and_eq_true] at h
  exact h.2
theorem ended_in {s : Str} (h : endedOk s = true) : allIn s sFIG = true := by
  unfold endedOk figuresOk at h
  rw [Bool.and_eq_true, Bool.and_eq_true] at h
  exact h.1.2
theorem points_str {s : Str} (h : pointsOk s = true) : PyData.strOk s = true := by
  unfold pointsOk at h
  rw [Bool.or_eq_true] at h
  rcases h with h | h
  · rw [of_decide_eq_true h]; decide +kernel
  · exact strOk_of (ended_in h) fig_ok
theorem maker_str {s : Str} (h : makerOk s = true) : PyData.strOk s = true := by
  unfold makerOk at h
  rw [Bool.and_eq_true] at h
  exact strOk_cut (strOk_of (letters_in h.1) abc_ok) (strOk_of (ended_in h.2) fig_ok)
theorem shaped_ok {m : MK} (ok : m.Ok) : SeqAt.shaped m.data = true := by
  unfold SeqAt.shaped
  rw [Bool.and_eq_true]
  refine ⟨?_, decide_eq_true ?_⟩
  · unfold MK.data
    have h1 := strOk_of (letters_in ok.l) abc_ok
    have h2 := points_str ok.p
    have h3 := lay_strs m.mks fun s hs => maker_str (ok.ks s hs).1
    simp only [PyData.canLay0, PyData.canLayAll0, h1, h2, h3, Bool.true_and]
    cases m.yr <;> cases m.cp <;> rfl
  · unfold MK.data
    simp only [PyData.depth, PyData.depthAll, depth_strs]
    cases m.yr <;> cases m.cp <;> simp [oD, PyData.depth]

section
variable {P : Program} {w : World} {K : PySem.W.Frag} {mg : Str → Option Value} {base : Heap} {Z : Adr}
def spMEq (C : Addr) : Sp := fun vs H Q _ => ∃ x y m n, vs = [.ref x, .ref y] ∧ MarkAt C H x m ∧ MarkAt C H y n ∧ m.Ok ∧ n.Ok ∧ RetV (.bl (kE m n)) H Q
theorem ok_Mark_eq (T : Txt K mg Z) : FnOk P w K mg base CX0 1 Z.a_Mark_eq Z.d_Mark_eq ["self", "other"] (spMEq Z.C_Mark) := by
  refine T.F_Mark_eq.ok sc_Mark_eq (fun vs H Q E h => ?_) (fun cdv A outer s H vs Q E hr h => ?_)
  · obtain ⟨_, _, _, _, rfl, _⟩ := h; rfl
  · obtain ⟨x, y, m, n, rfl, hm, hn, okm, okn, k⟩ := h
    refine ⟨_, (pss_one (ps_ret (pe_and (pe_callB (isiK K) (by rfl) T.n_isinstance (by decide +kernel) (pa_cons (pv 1) (pa_cons (pe_glob (v := .ref Z.C_Mark) rfl T.g_Mark rfl) pa_nil))) (pe_one (pe_cmpR (eqDK K hr.units) (fldK K (pv 0) rfl) (fldK K (pv 1) rfl) (nomark _)))))), ?_⟩
    obtain ⟨dx, pa, ma, h1, h2, h3⟩ := hm
    obtain ⟨dy, pb, mb, g1, g2, g3⟩ := hn
    refine ⟨_, rfl, _, _, _, _, true, rfl, .own Z.C_Mark, .base (.ins g1 T.cl_Mark T.t1_Mark T.t2_Mark T.t3_Mark T.t4_Mark), kit_self, true, rfl, iteT ?_⟩
    refine ⟨_, rfl, x, Z.C_Mark, dx, _, _, rfl, h1, T.cl_Mark, T.na_Mark_parts, by kernel_rfl, _, rfl, y, Z.C_Mark, dy, _, _, rfl, g1, T.cl_Mark, T.na_Mark_parts, by kernel_rfl, m.data, n.data, dp_data h2 h3, dp_data g2 g3, shaped_ok okm, shaped_ok okn, ?_⟩
    rw [eqv_d okm okn]
    exact k H (Ex.refl _)
end

section
variable {P : Program} {w : World} {K : PySem.W.Frag} {mg : Str → Option Value} {base : Heap} {Z : Adr}
def spOrder (C : Addr) : Sp := fun vs H Q _ => ∃ x y m n, vs = [.ref x, .ref y] ∧ MarkAt C H x m ∧ MarkAt C H y n ∧ m.Ok ∧ n.Ok ∧ RetV (.int (ordI m n)) H Q
theorem ok_order (T : Txt K mg Z) : FnOk P w K mg base CX0 3 Z.a_order Z.d_order ["one", "other"] (spOrder Z.C_Mark) := by
  refine T.F_order.ok sc_order (fun vs H Q E h => ?_) (fun cdv A outer s H vs Q E hr h => ?_)
  · obtain ⟨_, _, _, _, rfl, _⟩ := h; rfl
  · obtain ⟨x, y, m, n, rfl, hm, hn, okm, okn, k⟩ := h
    refine ⟨_, (pss_cons (ps_if (pt_cmpR (op_eqOwn (ok_Mark_eq T) (hr.mono (by decide)) T.m_Mark_eq T.b_Mark_eq pass0) (pv 0) (pv 1) (nomark _)) (pss_one (ps_ret pe_int)) pss_nil)
      (pss_one (ps_ret (pe_ifExp (pt_val (pe_meth (pv 0) T.cl_Mark T.m_Mark_ahead (ok_Mark_ahead T) (hr.mono (by decide)) T.b_Mark_ahead .nil pass0 (pa_cons (pv 1) pa_nil))) (pe_un un_neg pe_int) pe_int)))), ?_⟩
    obtain ⟨dx, pa, ma, h1, h2, h3⟩ := id hm
    obtain ⟨dy, pb, mb, g1, g2, g3⟩ := id hn
    refine ⟨_, rfl, _, rfl, x, y, dx, dy, _, _, rfl, rfl, h1, g1, x, y, m, n, rfl, hm, hn, okm, okn, fun H2 e2 => ⟨⟨_, rfl⟩, _, rfl, ?_⟩⟩
    cases he : kE m n with
    | true =>
      refine iteT ?_
      have : ordI m n = 0 := by unfold ordI; rw [if_pos he]
      rw [this] at k
      exact k H2 e2
    | false =>
      refine iteF ?_
      have e1 : ordI m n = if PySem.W.dataLt m.kdata n.kdata = true then -1 else 1 := by unfold ordI; rw [he, if_neg Bool.false_ne_true]
      obtain ⟨dx, pa, ma, h1, h2, h3⟩ := hm.ex e2
      refine ⟨_, rfl, x, dx, _, rfl, h1, by kernel_rfl, _, rfl, x, y, m, n, rfl, hm.ex e2, hn.ex e2, okm, okn, fun H3 e3 => ⟨_, rfl, ?_⟩⟩
      cases hl : PySem.W.dataLt m.kdata n.kdata with
      | true =>
        rw [hl, if_pos rfl] at e1
        refine iteT ⟨1, rfl, ?_⟩
        have := k H3 (e2.trans e3)
        rw [e1] at this
        exact this
      | false =>
        rw [hl, if_neg Bool.false_ne_true] at e1
        refine iteF ?_
        have := k H3 (e2.trans e3)
        rw [e1] at this
        exact this
end

/-! ### texts, sign by sign -/
theorem allIn_iff {t s : Str} : allIn t s = true ↔ ∀ c ∈ sg t, c ∈ sg s := by
  unfold allIn
  rw [List.all_eq_true]
  exact ⟨fun h c hc => of_decide_eq_true (h c hc), fun h c hc => decide_eq_true (h c hc)⟩
def FigS (s : Str) : Prop := ∀ c ∈ sg s, c ∈ sg sFIG
theorem fig_app {a b : Str} (h1 : FigS a) (h2 : FigS b) : FigS (a ++ b) := fun c hc => by
  rw [sg_app] at hc
  rcases List.mem_append.mp hc with h | h
  · exact h1 c h
  · exact h2 c h
theorem fig_one {c : Nat} (h : c ∈ sg sFIG) : FigS ⟨#[c]⟩ := fun d hd => by
  have : d = c := by simpa [sg] using hd
  rw [this]; exact h
theorem app_ne {s : Str} {c : Nat} : ¬ (s ++ (⟨#[c]⟩ : Str) = ("" : Str)) := fun h => by
  have := congrArg sg h
  rw [sg_app, show sg ("" : Str) = [] by decide +kernel] at this
  simp [sg] at this
theorem fig_endOk {s : Str} {c : Nat} (h : FigS s) (hc : c ∈ sg sFIG) (h0 : c ≠ 48) : endedOk (s ++ ⟨#[c]⟩) = true := by
  unfold endedOk figuresOk
  rw [decide_eq_false app_ne, allIn_iff.mpr (fig_app h (fig_one hc)), ends0, decide_eq_false h0]
  rfl
theorem ended_fig {s : Str} (h : endedOk s = true) : FigS s := by
  unfold endedOk figuresOk at h
  rw [Bool.and_eq_true, Bool.and_eq_true] at h
  exact allIn_iff.mp h.1.2
theorem fig_nil : FigS ("" : Str) := fun c hc => by
  rw [show sg ("" : Str) = [] by decide +kernel] at hc
  cases hc
theorem points_fig {s : Str} (h : pointsOk s = true) : FigS s := by
  unfold pointsOk at h
  rw [Bool.or_eq_true] at h
  rcases h with h | h
  · rw [of_decide_eq_true h]; exact fig_nil
  · exact ended_fig h
theorem fig_cut {s : Str} (h : FigS s) (k : Nat) : FigS (cutS s none (some (k : Int))) := fun c hc => by
  rw [sg_cutTo] at hc
  exact h c (List.mem_of_mem_take hc)
theorem len_cut (s : Str) (k : Nat) : (cutS s none (some (k : Int))).length ≤ k := by
  rw [← sg_len, sg_cutTo, List.length_take]
  omega
theorem sg_strip (s : Str) : ∃ hi : Nat, hi ≤ s.length ∧ sg (Txt.rstripChars s "0") = (sg s).take hi ∧ (hi = 0 ∨ ∃ c, (sg s)[hi - 1]? = some c ∧ c ≠ 48) := by
  refine ⟨stripHi ("0" : Str).cps.contains true s 0, ?_, ?_, ?_⟩
  · exact (hi_facts _ s 0 (Nat.zero_le _)).2.1
  · show sg (Txt.stripBy _ false true s) = _
    rw [stripBy_eq]
    show (Array.extract _ _ _).toList = _
    rw [Array.toList_extract, List.extract_eq_take_drop]
    rfl
  · obtain ⟨_, h2, _, h⟩ := hi_facts ("0" : Str).cps.contains s 0 (Nat.zero_le _)
    generalize stripHi ("0" : Str).cps.contains true s 0 = hi at h h2
    by_cases hz : hi = 0
    · exact .inl hz
    · refine .inr ?_
      have hlt : hi - 1 < (sg s).length := by rw [sg_len]; omega
      refine ⟨(sg s)[hi - 1], List.getElem?_eq_getElem hlt, fun e => ?_⟩
      rcases h with h | h
      · exact hz h
      · rw [← getD_list, List.getD_eq_getElem?_getD, List.getElem?_eq_getElem hlt, Option.getD_some, e] at h
        exact absurd h (by decide +kernel)
theorem strip_ok {s : Str} (h : FigS s) : pointsOk (Txt.rstripChars s "0") = true ∧ (Txt.rstripChars s "0").length ≤ s.length := by
  obtain ⟨hi, h1, h2, h3⟩ := sg_strip s
  refine ⟨?_, ?_⟩
  · rcases h3 with h3 | ⟨c, hc, h0⟩
    · rw [h3, List.take_zero] at h2
      have : Txt.rstripChars s "0" = ("" : Str) := str_ext (by rw [h2]; decide +kernel)
      rw [this]; decide +kernel
    · have hlt := (List.getElem?_eq_some_iff.mp hc).1
      have hp : 0 < hi ∨ hi = 0 := by omega
      rcases hp with hp | hp
      · have e : Txt.rstripChars s "0" = (⟨((sg s).take (hi - 1)).toArray⟩ : Str) ++ ⟨#[c]⟩ := str_ext (by
          rw [h2, sg_app]
          show _ = (sg s).take (hi - 1) ++ [c]
          have : hi = (hi - 1) + 1 := by omega
          rw [this, List.take_add_one, Nat.add_sub_cancel, hc]
          rfl)
        rw [e]
        unfold pointsOk
        rw [fig_endOk (fun d hd => h d (List.mem_of_mem_take (by exact hd))) (h c (List.mem_of_getElem? hc)) h0, Bool.or_true]
      · rw [hp, List.take_zero] at h2
        have : Txt.rstripChars s "0" = ("" : Str) := str_ext (by rw [h2]; decide +kernel)
        rw [this]; decide +kernel
  · rw [← sg_len, h2, List.length_take, sg_len]
    omega
theorem points_ended {s : Str} (h : pointsOk s = true) (hn : s ≠ ("" : Str)) : endedOk s = true := by
  unfold pointsOk at h
  rw [decide_eq_false hn, Bool.false_or] at h
  exact h
theorem maker_ok {c : Nat} {s : Str} (hc : c ∈ sg sABC) (hs : endedOk s = true) : makerOk (⟨#[c]⟩ ++ s) = true := by
  have e1 : cutS (⟨#[c]⟩ ++ s) none (some 1) = ⟨#[c]⟩ := str_ext (by
    rw [show (some (1 : Int)) = some ((1 : Nat) : Int) from rfl, sg_cutTo, sg_app]
    rfl)
  have e2 : cutS (⟨#[c]⟩ ++ s) (some 1) none = s := str_ext (by
    rw [sg_cutFrom1, sg_app]
    rfl)
  unfold makerOk
  rw [e1, e2, hs, Bool.and_true]
  unfold lettersOk
  have : allIn ⟨#[c]⟩ sABC = true := allIn_iff.mpr fun d hd => by
    have : d = c := by simpa [sg] using hd
    rw [this]; exact hc
  rw [this]
  rfl
theorem maker_tail {s : Str} (h : makerOk s = true) : endedOk (cutS s (some 1) none) = true ∧ ∃ c, (sg s)[0]? = some c ∧ c ∈ sg sABC := by
  unfold makerOk lettersOk at h
  simp only [Bool.and_eq_true] at h
  obtain ⟨⟨⟨h1, _⟩, h3⟩, h4⟩ := h
  refine ⟨h4, ?_⟩
  have h1 := of_decide_eq_true h1
  have e := sg_cutTo s 1
  rw [show (some ((1 : Nat) : Int)) = some (1 : Int) from rfl] at e
  have hl : (sg s).take 1 ≠ [] := fun z => by
    rw [z] at e
    have := sg_len (cutS s none (some 1))
    rw [e] at this
    rw [← this] at h1
    simp at h1
  cases hs : sg s with
  | nil => rw [hs] at hl; exact absurd rfl hl
  | cons c cs =>
    refine ⟨c, rfl, allIn_iff.mp h3 c ?_⟩
    rw [e, hs]
    exact List.mem_cons_self
theorem lets_app {a : Str} {c : Nat} {n : Int} (h : (a.length : Int) + 1 ≤ n) (ha : ∀ d ∈ sg a, d ∈ sg sABC) (hc : c ∈ sg sABC) : lettersOk (a ++ ⟨#[c]⟩) n = true := by
  have hl : (a ++ (⟨#[c]⟩ : Str)).length = a.length + 1 := len_app _ _
  unfold lettersOk
  rw [hl, decide_eq_true (by omega), decide_eq_true (by omega), allIn_iff.mpr fun d hd => ?_]
  · rfl
  · rw [sg_app] at hd
    rcases List.mem_append.mp hd with h | h
    · exact ha d h
    · have : d = c := by simpa [sg] using h
      rw [this]; exact hc
theorem lets_cut {s : Str} {n : Int} (h : lettersOk s n = true) (k : Nat) : ∀ d ∈ sg (cutS s none (some (k : Int))), d ∈ sg sABC := fun d hd => by
  unfold lettersOk at h
  rw [Bool.and_eq_true] at h
  rw [sg_cutTo] at hd
  exact allIn_iff.mp h.2 d (List.mem_of_mem_take hd)
/-! numbers as texts -/
theorem fig_dig {c : Nat} : c ∈ sg sFIG ↔ 48 ≤ c ∧ c ≤ 57 := by
  rw [show sg sFIG = [48, 49, 50, 51, 52, 53, 54, 55, 56, 57] by decide +kernel]
  simp only [List.mem_cons, List.not_mem_nil, or_false]
  omega
theorem intText_fig {s : Str} (h : FigS s) (hn : sg s ≠ []) (hl : s.length ≤ 640) : PySem.intText? s = some ((PySem.NumText.digitsVal (sg s) : Nat) : Int) :=
  PySem.intText_digits (fun c hc => fig_dig.mp (h c hc)) hn (by omega)
theorem digitsVal_lt : ∀ (n : Nat) (cs : List Nat), cs.length = n → (∀ c ∈ cs, 48 ≤ c ∧ c ≤ 57) → PySem.NumText.digitsVal cs < 10 ^ n
  | 0, cs, hl, _ => by
    rw [List.length_eq_zero_iff.mp hl]
    decide
  | n + 1, cs, hl, h => by
    have hne : cs ≠ [] := fun z => by rw [z] at hl; cases hl
    have e := List.dropLast_concat_getLast hne
    rw [← e, PySem.NumText.digitsVal_snoc]
    have ih := digitsVal_lt n cs.dropLast (by rw [List.length_dropLast, hl]; rfl) fun c hc => h c ((List.dropLast_sublist cs).subset hc)
    have := h _ (List.getLast_mem hne)
    rw [Nat.pow_succ]
    omega
theorem num_fig {i : Int} (h : 0 ≤ i) : FigS (toString i : String) := fun c hc => by
  obtain ⟨m, rfl⟩ : ∃ m : Nat, i = (m : Int) := ⟨i.toNat, by omega⟩
  have e := PySem.W.KIN.signs_num m
  have hc' : c ∈ (PySem.Str.ofString (toString ((m : Nat) : Int))).cps.toList := hc
  rw [e] at hc'
  obtain ⟨x, hx, rfl⟩ := List.mem_map.mp hc'
  rw [fig_dig]
  have := Nat.isDigit_of_mem_toDigits (b := 10) (by decide) (by decide) hx
  simp [Char.isDigit] at this
  exact ⟨by have := this.1; exact this, by have := this.2; exact this⟩

def IsBox (o : HO) : Prop := ∃ n : Int, o = .lst [.int n]
/-! ### draws from a thing that changes (IsBox: what it may be) -/
def SB (kb H : Hp) (b : Addr) (mt : List (Addr × HO)) : Prop := ∃ o : HO, IsBox o ∧ ST kb H ((b, o) :: mt)
section
variable {kb kb' H H1 : Hp} {b p : Addr} {mt : List (Addr × HO)} {o u : HO}
theorem SB.io (s : SB kb H b mt) : IsBox s.choose := s.choose_spec.1
theorem SB.e (s : SB kb H b mt) : Ex kb H := s.choose_spec.2.e
theorem SB.ext (s : SB kb H b mt) (e : Ex H H1) : SB kb H1 b mt := ⟨_, s.io, s.choose_spec.2.ext e⟩
theorem SB.new (s : SB kb H b mt) (hp : H p = none) (e : Ex H H1) (h1 : H1 p = some o) : SB (upd kb p o) H1 b mt := ⟨_, s.io, s.choose_spec.2.new hp e h1⟩
theorem SB.kbx (s : SB kb H b mt) (hp : H p = none) : Ex kb (upd kb p o) := s.choose_spec.2.kb_ex hp
theorem SB.newM (s : SB kb H b mt) (hp : H p = none) (e : Ex H H1) (h1 : H1 p = some o) : SB kb H1 b ((p, o) :: mt) :=
  ⟨_, s.io, (s.choose_spec.2.newM hp e h1).perm (List.Perm.swap ..)⟩
theorem SB.less (s : SB kb' H b mt) (e : Ex kb kb') : SB kb H b mt :=
  ⟨_, s.io, e.trans s.choose_spec.2.e, fun q hq => ⟨fresh_back e (s.choose_spec.2.m q hq).1, (s.choose_spec.2.m q hq).2⟩, s.choose_spec.2.d⟩
theorem SB.at2 {a : Addr} (s : SB kb H b ((a, o) :: mt)) : H a = some o := s.choose_spec.2.at2
theorem SB.set2 {a : Addr} (s : SB kb H b ((a, o) :: mt)) : SB kb (upd H a u) b ((a, u) :: mt) := ⟨_, s.io, s.choose_spec.2.set2⟩
theorem SB.fix {a : Addr} (s : SB kb H b ((a, o) :: mt)) : SB (upd kb a o) H b mt := ⟨_, s.io, (s.choose_spec.2.perm (List.Perm.swap ..)).fix⟩
theorem SB.fixx {a : Addr} (s : SB kb H b ((a, o) :: mt)) : Ex kb (upd kb a o) := Ex.new (s.choose_spec.2.m (a, o) (List.mem_cons_of_mem _ List.mem_cons_self)).1
theorem sb_of (io : IsBox o) (hb : H b = none) (e : Ex H H1) (h : H1 b = some o) : SB H H1 b [] :=
  ⟨o, io, e, fun q hq => by
    rcases List.mem_singleton.mp hq with rfl
    exact ⟨hb, h⟩, List.pairwise_singleton ..⟩
theorem SB.drop {x : Addr × HO} (s : SB kb H b (x :: mt)) : SB kb H b mt := by
  obtain ⟨n, io, s⟩ := s
  refine ⟨n, io, s.e, fun q hq => s.m q ?_, ?_⟩
  · rcases List.mem_cons.mp hq with rfl | h
    · exact List.mem_cons_self
    · exact List.mem_cons_of_mem _ (List.mem_cons_of_mem _ h)
  · have d := List.pairwise_cons.mp s.d
    exact List.pairwise_cons.mpr ⟨fun q hq => d.1 q (List.mem_cons_of_mem _ hq), (List.pairwise_cons.mp d.2).2⟩
end
def spTake : Sp := fun vs H Q _ => ∃ (b : Addr) (k : Int) (kb : Hp) (mt : List (Addr × HO)), vs = [.ref b, .int k] ∧ 0 < k ∧ k.natAbs.log2 < 9000 ∧ SB kb H b mt ∧ ∀ (r : Int) H', 0 ≤ r → r < k → SB kb H' b mt → Q (.int r) H'
section
variable {K : PySem.W.Frag} {σ : L2.St} {kb H : Hp} {b : Addr} {mt : List (Addr × HO)} {Q : VK} {ta tb te : TE} {tl : TA} {r : R2} {v : V} {D : Ends} {tz tu tw : TS} {t : TT}
/-! the steps, one at a time -/
theorem q_asgP {i : Nat} (h : te σ H (fun x H1 => tz D (σ.set i (some x)) H1)) : tSeq (tAsg te (gName i)) tz D σ H := h
theorem s_asgP {i : Nat} (h : te σ H (fun x H1 => D.nx (σ.set i (some x)) H1)) : tAsg te (gName i) D σ H := h
theorem s_asgE {g : TG} (h : te σ H fun x H1 => g x σ H1 D.nx) : tAsg te g D σ H := h
theorem s_retP (h : te σ H D.rt) : tRet te D σ H := h
theorem opP (h : ta σ H fun x H1 => tb σ H1 fun y H2 => r x y H2 Q) : tOp r ta tb σ H Q := h
theorem opcP (h : tb σ H fun y H2 => r v y H2 Q) : tOp r (tC v) tb σ H Q := h
theorem q_ifP (h : t σ H fun c H1 => if c = true then tu { D with nx := tz D } σ H1 else tw { D with nx := tz D } σ H1) : tSeq (tIfS t tu tw) tz D σ H := h
theorem s_ifP (h : t σ H fun c H1 => if c = true then tu D σ H1 else tw D σ H1) : tIfS t tu tw D σ H := h
theorem tk {i : Nat} {n : Int} (hσ : σ[i]? = some (some (.ref b))) (h0 : 0 < n) (hl : n.natAbs.log2 < 9000) (sb : SB kb H b mt) (k : ∀ (r : Int) H', 0 ≤ r → r < n → SB kb H' b mt → Q (.int r) H') :
    tCall spTake [] E0 (tCons (tVar i) (tCons (tC (.int n)) tNil)) σ H Q := ⟨_, hσ, b, n, kb, mt, rfl, h0, hl, sb, k⟩
theorem tkE {i : Nat} {n : Int} (hσ : σ[i]? = some (some (.ref b))) (he : Ev te σ H (.int n)) (h0 : 0 < n) (hl : n.natAbs.log2 < 9000) (sb : SB kb H b mt) (k : ∀ (r : Int) H', 0 ≤ r → r < n → SB kb H' b mt → Q (.int r) H') :
    tCall spTake [] E0 (tCons (tVar i) (tCons te tNil)) σ H Q := ⟨_, hσ, he H (Ex.refl H) _ fun H1 e1 => ⟨b, n, kb, mt, rfl, h0, hl, sb.ext e1, k⟩⟩
theorem atI_in {α : Type} {xs : List α} {r : Int} (h0 : 0 ≤ r) (h1 : r < xs.length) : ∃ x, atI xs r = some x ∧ x ∈ xs := by
  obtain ⟨n, rfl⟩ : ∃ n : Nat, r = (n : Int) := ⟨r.toNat, by omega⟩
  have hn : n < xs.length := by omega
  exact ⟨xs[n], atI_nat (List.getElem?_eq_getElem hn), List.getElem_mem hn⟩
/-- a sign of a text that is written, by a draw -/
theorem pick {i : Nat} {s : Str} {n : Int} (hσ : σ[i]? = some (some (.ref b))) (hn : ((sg s).length : Int) = n) (h0 : 0 < n) (hl : n.natAbs.log2 < 9000) (hz : s.length ≤ 100000) (sb : SB kb H b mt) (k : ∀ c H', c ∈ sg s → SB kb H' b mt → Q (.str ⟨#[c]⟩) H') :
    tOp rIxS (tC (.str s)) (tCall spTake [] E0 (tCons (tVar i) (tCons (tC (.int n)) tNil))) σ H Q :=
  opcP (tk hσ h0 hl sb fun r H' h1 h2 s' => by
    obtain ⟨c, hc, hm⟩ := atI_in (xs := sg s) h1 (by omega)
    exact ⟨s, r, c, rfl, rfl, sz_of hz, hc, k c H' hm s'⟩)
/-- a number of a list that is written, by a draw -/
theorem table {i : Nat} {xs : List Int} {n : Int} (hσ : σ[i]? = some (some (.ref b))) (hn : (xs.length : Int) = n) (h0 : 0 < n) (hl : n.natAbs.log2 < 9000) (hx : EvA tl σ H (ii xs)) (hz : xs.length ≤ 100000) (sb : SB kb H b mt) (k : ∀ x H', x ∈ xs → SB kb H' b mt → Q (.int x) H') :
    tOp (rIxL K) (tLst tl) (tCall spTake [] E0 (tCons (tVar i) (tCons (tC (.int n)) tNil))) σ H Q :=
  el_lst hx (by rw [ii_len]; exact hz) H (Ex.refl H) _ fun p H1 hp e1 h1 => tk hσ h0 hl (sb.new hp e1 h1) fun r H2 g1 g2 s2 => by
    obtain ⟨x, hc, hm⟩ := atI_in (xs := xs) g1 (by omega)
    obtain ⟨m, rfl⟩ : ∃ m : Nat, r = (m : Int) := ⟨r.toNat, by omega⟩
    have hlt : m < xs.length := by omega
    refine ⟨p, ii xs, (m : Int), .int (xs.getD m 0), rfl, rfl, sq_of (s2.e _ _ upd_same), atI_nat (ii_get hlt), k _ H2 ?_ (s2.less (sb.kbx hp))⟩
    rw [List.getD_eq_getElem?_getD, List.getElem?_eq_getElem hlt]
    exact List.getElem_mem hlt
theorem dec_int {i j : Int} : decide (V.int i = V.int j) = decide (i = j) := by
  by_cases h : i = j
  · rw [h, decide_eq_true rfl, decide_eq_true rfl]
  · rw [decide_eq_false h, decide_eq_false (fun z => h (V.int.inj z))]
/-- if a draw is so -/
theorem ifTk {i : Nat} {n m : Int} (hσ : σ[i]? = some (some (.ref b))) (h0 : 0 < n) (hl : n.natAbs.log2 < 9000) (sb : SB kb H b mt) (k1 : ∀ H', SB kb H' b mt → tu D σ H') (k2 : ∀ H', SB kb H' b mt → tw D σ H') :
    tIfS (tTest (tOp rEq (tCall spTake [] E0 (tCons (tVar i) (tCons (tC (.int n)) tNil))) (tC (.int m)))) tu tw D σ H :=
  tk hσ h0 hl sb fun r H' h1 h2 s' => ⟨rfl, _, rfl, by
    rw [dec_int]
    by_cases h : r = m
    · rw [decide_eq_true h]; exact k1 H' s'
    · rw [decide_eq_false h]; exact k2 H' s'⟩
end
theorem log_small {k : Int} (h0 : 0 ≤ k) (h : k < 2 ^ 200) : k.natAbs.log2 < 9000 := by
  have h1 : k.natAbs < 2 ^ 200 := by omega
  exact Nat.lt_of_lt_of_le (PySem.Flt.log2_lt_of (by decide) h1) (by decide)
theorem len_one {c : Nat} : (⟨#[c]⟩ : Str).length = 1 := rfl
theorem fig_of9 {c : Nat} (h : c ∈ sg ("123456789" : Str)) : c ∈ sg sFIG ∧ c ≠ 48 := by
  rw [show sg ("123456789" : Str) = [49, 50, 51, 52, 53, 54, 55, 56, 57] by decide +kernel] at h
  rw [fig_dig]
  simp only [List.mem_cons, List.not_mem_nil, or_false] at h
  omega

/-! ### the pool: a list of one number -/
section
variable {P : Program} {w : World} {K : PySem.W.Frag} {mg : Str → Option Value} {base : Heap} {Z : Adr}
theorem ok_l_take (T : Txt K mg Z) : FnOk P w K mg base CX0 1 Z.a_l_take Z.d_l_take ["_law_pool_here", "_law_size"] spTake := by
  refine T.F_l_take.ok sc_l_take (fun vs H Q E h => ?_) (fun cdv A outer s H vs Q E hr h => ?_)
  · obtain ⟨_, _, _, _, rfl, _⟩ := h; rfl
  · obtain ⟨b, k, kb, mt, rfl, h0, hl, ⟨_, ⟨n, rfl⟩, s⟩, kk⟩ := h
    refine ⟨_, (pss_cons (ps_set (i := 2) sc_l_take.nd rfl (.inl rfl) (pe_op op_modN (pe_ix (ixL K) (pv 0) pe_int (fun _ _ => rfl)) (pv 1)))
      (pss_cons (ps_asg (pe_op op_fdivW (pe_ix (ixL K) (pv 0) pe_int (fun _ _ => rfl)) (pv 1)) (pg_sub (pv 0) pe_int set_list))
      (pss_one (ps_ret (pv 2))))), ?_⟩
    refine q_asg (v := .int (n.fmod k)) (ev_op (ev_op (ev_var rfl) ev_c (rv_ixL (sq_of s.at1) rfl)) (ev_var rfl) (rv_I (by show k ≠ 0; omega))) fun H1 e1 => ?_
    refine q_setL (j := 0) (v := .int (n / k)) (s.ext e1).at1 (ev_op (ev_op (ev_var rfl) ev_c (rv_ixL (sq_of (s.ext e1).at1) rfl)) (ev_var rfl) (rv_I ⟨h0, hl⟩)) (ev_var rfl) ev_c (by simp) fun H2 e2 => ?_
    refine s_ret (v := .int (n.fmod k)) (ev_var rfl) fun H3 e3 => kk _ _ (Int.fmod_nonneg_of_pos _ h0) (Int.fmod_lt_of_pos _ h0) ⟨_, ⟨n / k, rfl⟩, ?_⟩
    exact (((s.ext e1).ext e2).set (u := .lst [.int (n / k)])).ext e3
end
def spFigures : Sp := fun vs H Q _ => ∃ (b : Addr) (most : Int) (kb : Hp) (mt : List (Addr × HO)), vs = [.ref b, .int most] ∧ 0 < most ∧ most ≤ 1000 ∧ SB kb H b mt ∧ ∀ s H', endedOk s = true → (s.length : Int) ≤ most → SB kb H' b mt → Q (.str s) H'
def spMakerD : Sp := fun vs H Q _ => ∃ (b : Addr) (most : Int) (kb : Hp) (mt : List (Addr × HO)), vs = [.ref b, .int most] ∧ 0 < most ∧ most ≤ 900 ∧ SB kb H b mt ∧ ∀ s H', makerOk s = true → (s.length : Int) ≤ most + 1 → SB kb H' b mt → Q (.str s) H'
section
variable {P : Program} {w : World} {K : PySem.W.Frag} {mg : Str → Option Value} {base : Heap} {Z : Adr}
theorem ok_l_figures (T : Txt K mg Z) : FnOk P w K mg base CX0 2 Z.a_l_figures Z.d_l_figures ["_law_pool_here", "_law_most"] spFigures := by
  refine T.F_l_figures.ok sc_l_figures (fun vs H Q E h => ?_) (fun cdv A outer s H vs Q E hr h => ?_)
  · obtain ⟨_, _, _, _, rfl, _⟩ := h; rfl
  · obtain ⟨b, most, kb, mt, rfl, h0, hm, sb, kk⟩ := h
    refine ⟨_, (pss_cons (ps_set (i := 2) sc_l_figures.nd rfl (.inl rfl) pe_str)
      (pss_cons (ps_for PassesOwn.never rfl (pi_range1 rfl T.n_range (pa_cons (pe_call (ok_l_take T) (hr.mono (by decide)) rfl T.g_l_take T.F_l_take.kp T.b_l_take .nil pass0 (pa_cons (pv 0) (pa_cons (pv 1) pa_nil))) pa_nil)) (pg_name (i := 3) sc_l_figures.nd rfl (.inl rfl)) (pss_one (ps_set (i := 2) sc_l_figures.nd rfl (.inl rfl) (pe_op op_addS (pv 2) (pe_ix ix_str pe_str (pe_call (ok_l_take T) (hr.mono (by decide)) rfl T.g_l_take T.F_l_take.kp T.b_l_take .nil pass0 (pa_cons (pv 0) (pa_cons pe_int pa_nil))) (fun _ _ => rfl))))))
      (pss_one (ps_ret (pe_op op_addS (pv 2) (pe_ix ix_str pe_str (pe_call (ok_l_take T) (hr.mono (by decide)) rfl T.g_l_take T.F_l_take.kp T.b_l_take .nil pass0 (pa_cons (pv 0) (pa_cons pe_int pa_nil))) (fun _ _ => rfl))))))), ?_⟩
    refine q_asg (v := .str "") ev_c fun H1 e1 => ?_
    refine ⟨_, rfl, _, rfl, b, most, kb, mt, rfl, h0, log_small (by omega) (by omega), sb.ext e1, fun r H2 g1 g2 s2 => ⟨r, rfl, by omega, by omega, ?_⟩⟩
    refine for_range (lo := 0) (n := r.toNat) (fun i σ H' => ∃ (s : Str) (v : Option V), σ = [some (.ref b), some (.int most), some (.str s), v] ∧ FigS s ∧ s.length = i ∧ SB kb H' b mt) ⟨_, none, rfl, fig_nil, by decide +kernel, s2⟩ ?_ ?_
    · rintro i σ H3 hi ⟨s, v, rfl, hf, hl, s3⟩
      refine s_asgP (opP ⟨_, rfl, ?_⟩)
      refine pick (s := "0123456789") rfl (by decide +kernel) (by decide) (by decide +kernel) (by decide +kernel) s3 fun c H4 hc s4 => ?_
      refine ⟨s, ⟨#[c]⟩, rfl, rfl, sz_of (by rw [len_one]; omega), _, _, rfl, fig_app hf (fig_one hc), ?_, s4⟩
      rw [len_app, len_one, hl]
    · rintro σ H3 ⟨s, v, rfl, hf, hl, s3⟩
      dsimp only
      refine s_retP (opP ?_)
      refine ⟨_, rfl, ?_⟩
      refine pick (s := "123456789") rfl (by decide +kernel) (by decide) (by decide +kernel) (by decide +kernel) s3 fun c H4 hc s4 => ?_
      refine ⟨s, ⟨#[c]⟩, rfl, rfl, sz_of (by rw [len_one]; omega), kk _ _ (fig_endOk hf (fig_of9 hc).1 (fig_of9 hc).2) ?_ s4⟩
      rw [len_app, len_one, hl]
      omega
theorem ok_l_maker (T : Txt K mg Z) : FnOk P w K mg base CX0 3 Z.a_l_maker Z.d_l_maker ["_law_pool_here", "_law_most"] spMakerD := by
  refine T.F_l_maker.ok sc_l_maker (fun vs H Q E h => ?_) (fun cdv A outer s H vs Q E hr h => ?_)
  · obtain ⟨_, _, _, _, rfl, _⟩ := h; rfl
  · obtain ⟨b, most, kb, mt, rfl, h0, hm, sb, kk⟩ := h
    refine ⟨_, (pss_cons (ps_set (i := 2) sc_l_maker.nd rfl (.inl rfl) (pe_ix ix_str pe_str (pe_call (ok_l_take T) (hr.mono (by decide)) rfl T.g_l_take T.F_l_take.kp T.b_l_take .nil pass0 (pa_cons (pv 0) (pa_cons pe_int pa_nil))) (fun _ _ => rfl)))
      (pss_cons (ps_if (pt_cmpR op_eq (pe_call (ok_l_take T) (hr.mono (by decide)) rfl T.g_l_take T.F_l_take.kp T.b_l_take .nil pass0 (pa_cons (pv 0) (pa_cons pe_int pa_nil))) pe_int (nomark _)) (pss_one (ps_set (i := 2) sc_l_maker.nd rfl (.inl rfl) (pe_ix ix_str pe_str (pe_call (ok_l_take T) (hr.mono (by decide)) rfl T.g_l_take T.F_l_take.kp T.b_l_take .nil pass0 (pa_cons (pv 0) (pa_cons pe_int pa_nil))) (fun _ _ => rfl)))) pss_nil)
      (pss_one (ps_ret (pe_op op_addS (pv 2) (pe_call (ok_l_figures T) (hr.mono (by decide)) rfl T.g_l_figures T.F_l_figures.kp T.b_l_figures .nil pass0 (pa_cons (pv 0) (pa_cons (pv 1) pa_nil)))))))), ?_⟩
    refine q_asgP (pick (s := "abcdefghijklmnopqrstuvwxyz") rfl (by decide +kernel) (by decide) (by decide +kernel) (by decide +kernel) sb fun c H1 hc s1 => ?_)
    have fin : ∀ (c : Nat) H2, c ∈ sg sABC → SB kb H2 b mt → (tRet (tOp (fun x y H Q => ∃ i j, x = .str i ∧ y = .str j ∧ i.length + j.length ≤ sizeLine ∧ Q (.str (i ++ j)) H) (tVar 2) (tCall spFigures [] E0 (tCons (tVar 0) (tCons (tVar 1) tNil)))) : TS) ⟨fun _ _ => False, Q, fun _ _ => False, fun _ _ => False⟩ [some (.ref b), some (.int most), some (.str ⟨#[c]⟩)] H2 := fun c H2 hc s2 =>
      ⟨_, rfl, _, rfl, _, rfl, b, most, kb, mt, rfl, h0, by omega, s2, fun s H3 h1 h2 s3 => ⟨⟨#[c]⟩, s, rfl, rfl, sz_of (by rw [len_one]; omega), kk _ _ (maker_ok hc h1) (by rw [len_app, len_one]; omega) s3⟩⟩
    refine ifTk (n := 2) (m := 1) rfl (by decide) (by decide +kernel) s1 (fun H2 s2 => ?_) (fun H2 s2 => ?_)
    · refine s_asgP (pick (s := "abcd") rfl (by decide +kernel) (by decide) (by decide +kernel) (by decide +kernel) s2 fun d H3 hd s3 => ?_)
      refine fin d H3 ?_ s3
      rw [show sg ("abcd" : Str) = [97, 98, 99, 100] by decide +kernel] at hd
      rw [show sg sABC = [97, 98, 99, 100, 101, 102, 103, 104, 105, 106, 107, 108, 109, 110, 111, 112, 113, 114, 115, 116, 117, 118, 119, 120, 121, 122] by decide +kernel]
      simp only [List.mem_cons, List.not_mem_nil, or_false] at hd ⊢
      omega
    · exact fin c H2 hc s2
end

/-! ### the parts that a law draws -/
def RowAt (H : Hp) (p : Addr) (m : MK) : Prop := ∃ ma, H p = some (.lst (m.tup ma)) ∧ H ma = some (.lst (m.mks.map V.str))
theorem RowAt.ex {H H' : Hp} {p : Addr} {m : MK} (h : RowAt H p m) (e : Ex H H') : RowAt H' p m := by
  obtain ⟨ma, h1, h2⟩ := h
  exact ⟨ma, e _ _ h1, e _ _ h2⟩
def MK.Small (m : MK) : Prop := m.pts.length ≤ 50 ∧ ∀ s ∈ m.mks, s.length ≤ 50
def spParts : Sp := fun vs H Q _ => ∃ (b : Addr) (kb : Hp) (mt : List (Addr × HO)), vs = [.ref b] ∧ SB kb H b mt ∧ ∀ p m kb' H', Ex kb kb' → RowAt kb' p m → m.Ok → m.Small → SB kb' H' b mt → Q (.ref p) H'
section
variable {K : PySem.W.Frag}
theorem ixRow {H : Hp} {σ : L2.St} {p : Addr} {m : MK} {ma : Addr} {i : Nat} (j : Nat) {v : V} (hσ : σ[i]? = some (some (.ref p))) (hp : H p = some (.lst (m.tup ma))) (h : (m.tup ma)[j]? = some v) : Ev (tOp (rIxL K) (tVar i) (tC (.int (j : Int)))) σ H v :=
  ev_op (ev_var hσ) ev_c (rv_ixL (sq_of hp) (atI_nat h))
end
def spMarkD (C : Addr) : Sp := fun vs H Q _ => ∃ p m, vs = [.ref p] ∧ RowAt H p m ∧ m.Ok ∧ ∀ x H', Ex H H' → MarkAt C H' x m → Q (.ref x) H'

/-! ### the pool's parts -/
section
variable {P : Program} {w : World} {K : PySem.W.Frag} {mg : Str → Option Value} {base : Heap} {Z : Adr}
theorem ok_l_parts (T : Txt K mg Z) : FnOk P w K mg base CX0 4 Z.a_l_parts Z.d_l_parts ["_law_pool_here"] spParts := by
  refine T.F_l_parts.ok sc_l_parts (fun vs H Q E h => ?_) (fun cdv A outer s H vs Q E hr h => ?_)
  · obtain ⟨_, _, _, rfl, _⟩ := h; rfl
  · obtain ⟨b, kb, mt, rfl, sb, kk⟩ := h
    refine ⟨_, (pss_cons (ps_set (i := 1) sc_l_parts.nd rfl (.inl rfl) (pe_ix (ixL K) (pe_lst (pa_cons pe_int (pa_cons pe_int (pa_cons pe_int (pa_cons pe_int (pa_cons pe_int (pa_cons pe_int (pa_cons pe_int (pa_cons pe_int pa_nil))))))))) (pe_call (ok_l_take T) (hr.mono (by decide)) rfl T.g_l_take T.F_l_take.kp T.b_l_take .nil pass0 (pa_cons (pv 0) (pa_cons pe_int pa_nil))) (fun _ _ => rfl)))
      (pss_cons (ps_set (i := 2) sc_l_parts.nd rfl (.inl rfl) pe_str)
      (pss_cons (ps_for PassesOwn.never rfl (pi_range1 rfl T.n_range (pa_cons (pe_op op_add pe_int (pe_call (ok_l_take T) (hr.mono (by decide)) rfl T.g_l_take T.F_l_take.kp T.b_l_take .nil pass0 (pa_cons (pv 0) (pa_cons pe_int pa_nil)))) pa_nil)) (pg_name (i := 3) sc_l_parts.nd rfl (.inl rfl)) (pss_one (ps_set (i := 2) sc_l_parts.nd rfl (.inl rfl) (pe_op op_addS (pv 2) (pe_ix ix_str pe_str (pe_call (ok_l_take T) (hr.mono (by decide)) rfl T.g_l_take T.F_l_take.kp T.b_l_take .nil pass0 (pa_cons (pv 0) (pa_cons pe_int pa_nil))) (fun _ _ => rfl))))))
      (pss_cons (ps_set (i := 4) sc_l_parts.nd rfl (.inl rfl) (pe_op op_add pe_int (pe_call (ok_l_take T) (hr.mono (by decide)) rfl T.g_l_take T.F_l_take.kp T.b_l_take .nil pass0 (pa_cons (pv 0) (pa_cons (pe_ix (ixL K) (pe_lst (pa_cons pe_int (pa_cons pe_int (pa_cons pe_int (pa_cons pe_int pa_nil))))) (pe_call (ok_l_take T) (hr.mono (by decide)) rfl T.g_l_take T.F_l_take.kp T.b_l_take .nil pass0 (pa_cons (pv 0) (pa_cons pe_int pa_nil))) (fun _ _ => rfl)) pa_nil)))))
      (pss_cons (ps_set (i := 5) sc_l_parts.nd rfl (.inl rfl) pe_str)
      (pss_cut (ps_if (pt_cmpR op_eq (pe_call (ok_l_take T) (hr.mono (by decide)) rfl T.g_l_take T.F_l_take.kp T.b_l_take .nil pass0 (pa_cons (pv 0) (pa_cons pe_int pa_nil))) pe_int (nomark _)) (pss_one (ps_set (i := 5) sc_l_parts.nd rfl (.inl rfl) (pe_call (ok_l_figures T) (hr.mono (by decide)) rfl T.g_l_figures T.F_l_figures.kp T.b_l_figures .nil pass0 (pa_cons (pv 0) (pa_cons (pv 1) pa_nil))))) pss_nil)
      (pss_cons (ps_set (i := 6) sc_l_parts.nd rfl (.inl rfl) (pe_lst pa_nil))
      (pss_cons (ps_for PassesOwn.never rfl (pi_range1 rfl T.n_range (pa_cons (pe_call (ok_l_take T) (hr.mono (by decide)) rfl T.g_l_take T.F_l_take.kp T.b_l_take .nil pass0 (pa_cons (pv 0) (pa_cons pe_int pa_nil))) pa_nil)) (pg_name (i := 3) sc_l_parts.nd rfl (.inl rfl)) (pss_one (ps_expr (bmK K PySem.F.plainAttrs_list PySem.F.slot_list_append PySem.F.type_list_append mt_append (pv 6) (pa_cons (pe_call (ok_l_maker T) (hr.mono (by decide)) rfl T.g_l_maker T.F_l_maker.kp T.b_l_maker .nil pass0 (pa_cons (pv 0) (pa_cons (pv 1) pa_nil))) pa_nil)))))
      (pss_cons (ps_set (i := 7) sc_l_parts.nd rfl (.inl rfl) pe_non)
      (pss_cut (ps_if (pt_cmpR op_eq (pe_call (ok_l_take T) (hr.mono (by decide)) rfl T.g_l_take T.F_l_take.kp T.b_l_take .nil pass0 (pa_cons (pv 0) (pa_cons pe_int pa_nil))) pe_int (nomark _)) (pss_one (ps_set (i := 7) sc_l_parts.nd rfl (.inl rfl) (pe_op op_add pe_int (pe_call (ok_l_take T) (hr.mono (by decide)) rfl T.g_l_take T.F_l_take.kp T.b_l_take .nil pass0 (pa_cons (pv 0) (pa_cons pe_int pa_nil)))))) pss_nil)
      (pss_cons (ps_set (i := 8) sc_l_parts.nd rfl (.inl rfl) pe_non)
      (pss_cut (ps_if (pt_cmpR op_eq (pe_call (ok_l_take T) (hr.mono (by decide)) rfl T.g_l_take T.F_l_take.kp T.b_l_take .nil pass0 (pa_cons (pv 0) (pa_cons pe_int pa_nil))) pe_int (nomark _)) (pss_one (ps_set (i := 8) sc_l_parts.nd rfl (.inl rfl) (pe_op op_add pe_int (pe_call (ok_l_take T) (hr.mono (by decide)) rfl T.g_l_take T.F_l_take.kp T.b_l_take .nil pass0 (pa_cons (pv 0) (pa_cons (pe_ix (ixL K) (pe_lst (pa_cons pe_int (pa_cons pe_int (pa_cons pe_int (pa_cons (pe_op op_pow pe_int pe_int) pa_nil))))) (pe_call (ok_l_take T) (hr.mono (by decide)) rfl T.g_l_take T.F_l_take.kp T.b_l_take .nil pass0 (pa_cons (pv 0) (pa_cons pe_int pa_nil))) (fun _ _ => rfl)) pa_nil)))))) pss_nil)
      (pss_one (ps_ret (pe_lst (pa_cons (pv 2) (pa_cons (pv 4) (pa_cons (pv 5) (pa_cons (pv 6) (pa_cons (pv 7) (pa_cons (pv 8) pa_nil))))))))))))))))))))), ?_⟩
    refine q_asgP (table (xs := [2, 3, 5, 2, 9, 3, 2, 40]) rfl rfl (by decide) (by decide +kernel) (ea_cons ev_c (ea_cons ev_c (ea_cons ev_c (ea_cons ev_c (ea_cons ev_c (ea_cons ev_c (ea_cons ev_c (ea_cons ev_c ea_nil)))))))) (by simp) sb fun most H1 hmost s1 => ?_)
    have hm : 2 ≤ most ∧ most ≤ 40 := by
      simp only [List.mem_cons, List.not_mem_nil, or_false] at hmost
      omega
    refine q_asg (v := .str "") ev_c fun H2 e2 => ?_
    refine ⟨_, rfl, b, 3, kb, mt, rfl, by decide, by decide +kernel, s1.ext e2, fun r H3 g1 g2 s3 => ⟨1, r, rfl, rfl, 1 + r, rfl, by omega, by omega, ?_⟩⟩
    refine for_range (lo := 0) (n := (1 + r).toNat) (fun i σ H' => ∃ (s : Str) (v : Option V), σ = [some (.ref b), some (.int most), some (.str s), v, none, none, none, none, none] ∧ (∀ d ∈ sg s, d ∈ sg sABC) ∧ s.length = i ∧ SB kb H' b mt) ⟨_, none, rfl, (fun d hd => by rw [show sg ("" : Str) = [] by decide +kernel] at hd; cases hd), by decide +kernel, s3⟩ ?_ ?_
    · rintro i σ H4 hi ⟨s, v, rfl, hf, hl, s4⟩
      refine s_asgP (opP ⟨_, rfl, ?_⟩)
      refine pick (s := "abcdefghijklmnopqrstuvwxyz") rfl (by decide +kernel) (by decide) (by decide +kernel) (by decide +kernel) s4 fun c H5 hc s5 => ?_
      refine ⟨s, ⟨#[c]⟩, rfl, rfl, sz_of (by rw [len_one]; omega), _, _, rfl, fun d hd => ?_, ?_, s5⟩
      · rw [sg_app] at hd
        rcases List.mem_append.mp hd with h | h
        · exact hf d h
        · have : d = c := by simpa [sg] using h
          rw [this]; exact hc
      · rw [len_app, len_one, hl]
    · rintro σ H4 ⟨lt, v, rfl, hf, hl, s4⟩
      have hlt : lettersOk lt 3 = true := by
        unfold lettersOk
        rw [decide_eq_true (by omega), decide_eq_true (by omega), allIn_iff.mpr hf]
        rfl
      dsimp only
      refine q_asgP (opcP ?_)
      refine ⟨_, rfl, table (xs := [9, 99, 999, 9999]) rfl rfl (by decide) (by decide +kernel) (ea_cons ev_c (ea_cons ev_c (ea_cons ev_c (ea_cons ev_c ea_nil)))) (by simp) s4 fun x H5 hx s5 => ?_⟩
      have hx' : 9 ≤ x ∧ x ≤ 9999 := by
        simp only [List.mem_cons, List.not_mem_nil, or_false] at hx
        omega
      refine ⟨b, x, kb, mt, rfl, by omega, log_small (by omega) (by omega), s5, fun r2 H6 g3 g4 s6 => ⟨1, r2, rfl, rfl, ?_⟩⟩
      refine q_asg (v := .str "") ev_c fun H7 e7 => ?_
      refine q_cut (M := fun σ' H' => ∃ t : Str, σ' = [some (.ref b), some (.int most), some (.str lt), v, some (.int (1 + r2)), some (.str t), none, none, none] ∧ pointsOk t = true ∧ t.length ≤ 50 ∧ SB kb H' b mt)
        (ifTk (n := 2) (m := 1) rfl (by decide) (by decide +kernel) (s6.ext e7) (fun H8 s8 => ?_) (fun H8 s8 => ?_)) ?_
      · refine s_asgP ?_
        refine ⟨_, rfl, _, rfl, b, most, kb, mt, rfl, by omega, by omega, s8, fun t H9 h1 h2 s9 => ⟨t, rfl, ?_, by omega, s9⟩⟩
        unfold pointsOk
        rw [h1, Bool.or_true]
      · exact ⟨"", rfl, by decide +kernel, by decide +kernel, s8⟩
      rintro σ' H8 ⟨pts, rfl, hp0, hpl, s8⟩
      refine q_asgL (xs := []) (el_lst ea_nil (by simp)) fun ha H9 hha e9 h9 => ?_
      have s9 := s8.newM hha e9 h9
      refine ⟨_, rfl, b, 4, kb, _, rfl, by decide, by decide +kernel, s9, fun r3 H10 g5 g6 s10 => ⟨r3, rfl, by omega, by omega, ?_⟩⟩
      refine for_range (lo := 0) (n := r3.toNat) (fun i σ H' => ∃ (ks : List Str) (v : Option V), σ = [some (.ref b), some (.int most), some (.str lt), v, some (.int (1 + r2)), some (.str pts), some (.ref ha), none, none] ∧ ks.length = i ∧ (∀ s ∈ ks, makerOk s = true ∧ s.length ≤ 50) ∧ SB kb H' b ((ha, .lst (ks.map V.str)) :: mt)) ⟨[], v, rfl, rfl, (fun s hs => by cases hs), s10⟩ ?_ ?_
      · rintro i σ H11 hi ⟨ks, v, rfl, hl, hks, s11⟩
        refine ⟨_, rfl, Or.inl ⟨rfl, _, sq_of s11.at2⟩, _, rfl, _, rfl, b, most, kb, _, rfl, by omega, by omega, s11, fun t H12 h1 h2 s12 => ⟨ha, ks.map V.str, .str t, rfl, rfl, s12.at2, sz_lt (by rw [List.length_map]; omega), ?_⟩⟩
        refine ⟨ks ++ [t], _, rfl, by rw [List.length_append, hl]; rfl, fun s hs => ?_, ?_⟩
        · rcases List.mem_append.mp hs with h | h
          · exact hks s h
          · rw [List.mem_singleton.mp h]; exact ⟨h1, by omega⟩
        · rw [List.map_append]
          exact s12.set2
      · rintro σ H11 ⟨ks, v, rfl, hl, hks, s11⟩
        dsimp only
        refine q_asg (v := .non) ev_c fun H12 e12 => ?_
        refine q_cut (M := fun σ' H' => ∃ y : Option Int, σ' = [some (.ref b), some (.int most), some (.str lt), v, some (.int (1 + r2)), some (.str pts), some (.ref ha), some (oi y), none] ∧ (∀ i, y = some i → 1000 ≤ i ∧ i ≤ 2999) ∧ SB kb H' b ((ha, .lst (ks.map V.str)) :: mt))
          (ifTk (n := 2) (m := 1) rfl (by decide) (by decide +kernel) (s11.ext e12) (fun H13 s13 => ?_) (fun H13 s13 => ?_)) ?_
        · refine s_asgP (opcP ?_)
          exact tk rfl (by decide) (by decide +kernel) s13 fun r H14 h1 h2 s14 => ⟨1000, r, rfl, rfl, some (1000 + r), rfl, (fun i hi => by cases hi; omega), s14⟩
        · exact ⟨none, rfl, (fun i hi => by cases hi), s13⟩
        rintro σ' H13 ⟨yr, rfl, hy, s13⟩
        refine q_asg (v := .non) ev_c fun H14 e14 => ?_
        refine q_cut (M := fun σ' H' => ∃ c : Option Int, σ' = [some (.ref b), some (.int most), some (.str lt), v, some (.int (1 + r2)), some (.str pts), some (.ref ha), some (oi yr), some (oi c)] ∧ (∀ i, c = some i → 2 ≤ i ∧ i.natAbs.log2 < 1920) ∧ SB kb H' b ((ha, .lst (ks.map V.str)) :: mt))
          (ifTk (n := 2) (m := 1) rfl (by decide) (by decide +kernel) (s13.ext e14) (fun H15 s15 => ?_) (fun H15 s15 => ?_)) ?_
        · refine s_asgP (opcP ?_)
          refine ⟨_, rfl, table (xs := [8, 98, 998, 10 ^ (29 : Int).toNat]) rfl rfl (by decide) (by decide +kernel) (ea_cons ev_c (ea_cons ev_c (ea_cons ev_c (ea_cons (ev_op ev_c ev_c (rv_I ⟨by decide, by decide, by decide⟩)) ea_nil)))) (by simp) s15 fun x H5 hx s5 => ?_⟩
          have hx' : 8 ≤ x ∧ x ≤ 10 ^ 29 := by
            simp only [List.mem_cons, List.not_mem_nil, or_false] at hx
            rcases hx with rfl | rfl | rfl | rfl <;> decide
          refine ⟨b, x, kb, _, rfl, by omega, log_small (by omega) (by omega), s5, fun r2 H6 g3 g4 s6 => ⟨2, r2, rfl, rfl, some (2 + r2), rfl, (fun i hi => ?_), s6⟩⟩
          cases hi
          have h1 : (2 + r2).natAbs < 2 ^ 100 := by omega
          exact ⟨by omega, Nat.lt_of_lt_of_le (PySem.Flt.log2_lt_of (by decide) h1) (by decide)⟩
        · exact ⟨none, rfl, (fun i hi => by cases hi), s15⟩
        rintro σ' H15 ⟨cp, rfl, hc, s15⟩
        have s16 := s15.fix
        refine s_retL (xs := [.str lt, .int (1 + r2), .str pts, .ref ha, oi yr, oi cp]) (el_lst (ea_cons (ev_var rfl) (ea_cons (ev_var rfl) (ea_cons (ev_var rfl) (ea_cons (ev_var rfl) (ea_cons (ev_var rfl) (ea_cons (ev_var rfl) ea_nil)))))) (by simp)) fun p H16 hp e16 h16 => ?_
        refine kk p ⟨lt, 1 + r2, pts, ks, yr, cp⟩ _ H16 (s15.fixx.trans (s16.kbx hp)) ⟨ha, upd_same, ?_⟩ ⟨hlt, ⟨show (1 : Int) ≤ 1 + r2 by omega, show 1 + r2 ≤ 9999 by omega⟩, hp0, show pts.length ≤ 1000 by omega, show ks.length ≤ 3 by omega, fun s hs => ⟨(hks s hs).1, by have := (hks s hs).2; omega⟩, hy, hc⟩ ⟨hpl, fun s hs => (hks s hs).2⟩ (s16.new hp e16 h16)
        rw [upd_ne (ne_of_none s15.at2 hp)]
        exact upd_same
def spNearWord : Sp := fun vs H Q _ => ∃ (t : Str) (b : Addr) (kb : Hp) (mt : List (Addr × HO)), vs = [.str t, .ref b] ∧ FigS t ∧ t.length ≤ 1000 ∧ SB kb H b mt ∧ ∀ s H', pointsOk s = true → (s.length ≤ t.length ∨ s.length ≤ 40) → SB kb H' b mt → Q (.str s) H'
theorem ok_l_near_word (T : Txt K mg Z) : FnOk P w K mg base CX0 2 Z.a_l_near_word Z.d_l_near_word ["_law_word", "_law_pool_here"] spNearWord := by
  refine T.F_l_near_word.ok sc_l_near_word (fun vs H Q E h => ?_) (fun cdv A outer s H vs Q E hr h => ?_)
  · obtain ⟨_, _, _, _, rfl, _⟩ := h; rfl
  · obtain ⟨t, b, kb, mt, rfl, hf, ht, sb, kk⟩ := h
    refine ⟨_, (pss_cons (ps_set (i := 2) sc_l_near_word.nd rfl (.inl rfl) (pe_call (ok_l_take T) (hr.mono (by decide)) rfl T.g_l_take T.F_l_take.kp T.b_l_take .nil pass0 (pa_cons (pv 1) (pa_cons pe_int pa_nil))))
      (pss_cons (ps_set (i := 3) sc_l_near_word.nd rfl (.inl rfl) (pe_slice sl_str (pv 0) po_none (po_some (pe_call (ok_l_take T) (hr.mono (by decide)) rfl T.g_l_take T.F_l_take.kp T.b_l_take .nil pass0 (pa_cons (pv 1) (pa_cons (pe_op op_add (pe_callB (call_lenS) (by rfl) T.n_len (by decide +kernel) (pa_cons (pv 0) pa_nil)) pe_int) pa_nil))))))
      (pss_cut (ps_if (PW.pt (pw_and (pt_cmpR op_eq (pv 2) pe_int (nomark _)) (pw_and1 (pt_cmpR op_lt (pe_callB (call_lenS) (by rfl) T.n_len (by decide +kernel) (pa_cons (pv 3) pa_nil)) pe_int (nomark _))))) (pss_one (ps_set (i := 3) sc_l_near_word.nd rfl (.inl rfl) (pe_op op_addS (pv 3) (pe_ix ix_str pe_str (pe_call (ok_l_take T) (hr.mono (by decide)) rfl T.g_l_take T.F_l_take.kp T.b_l_take .nil pass0 (pa_cons (pv 1) (pa_cons pe_int pa_nil))) (fun _ _ => rfl))))) pss_nil)
      (pss_one (ps_ret (bmK K PySem.F.plainAttrs_str PySem.F.slot_str_rstrip PySem.F.type_str_rstrip mt_rstripChars (pv 3) (pa_cons pe_str pa_nil))))))), ?_⟩
    refine q_asgP (tk rfl (by decide) (by decide +kernel) sb fun more H1 g1 g2 s1 => ?_)
    refine q_asgP ?_
    refine ⟨_, rfl, tkE (n := (t.length : Int) + 1) rfl (ev_op (ev_lenS (ev_var rfl) (by omega)) ev_c rv_I0) (by omega) (log_small (by omega) (by omega)) s1 fun r H2 g3 g4 s2 => ⟨r, rfl, t, rfl, sz_of (by omega), ?_⟩⟩
    obtain ⟨k, rfl⟩ : ∃ k : Nat, r = (k : Int) := ⟨r.toNat, by omega⟩
    have hcl := cutS_len t none (some (k : Int))
    refine q_cut (M := fun σ' H' => ∃ s : Str, σ' = [some (.str t), some (.ref b), some (.int more), some (.str s)] ∧ FigS s ∧ (s.length ≤ t.length ∨ s.length ≤ 40) ∧ SB kb H' b mt)
      (s_when (b := decide (more = 1) && decide (((cutS t none (some (k : Int))).length : Int) < 40)) (et_and (et_is (et_test (ev_op (ev_var rfl) ev_c (rv_eq rfl))) dec_int) (fun _ => et_test (ev_op (ev_lenS (ev_var rfl) (by omega)) ev_c rv_I0))) (fun hb H3 e3 => ?_) (fun _ H3 e3 => ⟨_, rfl, fig_cut hf k, .inl hcl, s2.ext e3⟩)) ?_
    · rw [Bool.and_eq_true] at hb
      have hb := of_decide_eq_true hb.2
      refine s_asgP (opP ?_)
      refine ⟨_, rfl, ?_⟩
      refine pick (s := "0123456789") rfl (by decide +kernel) (by decide) (by decide +kernel) (by decide +kernel) (s2.ext e3) fun c H4 hc s4 => ?_
      refine ⟨_, ⟨#[c]⟩, rfl, rfl, sz_of (by rw [len_one]; omega), _, rfl, fig_app (fig_cut hf k) (fig_one hc), .inr ?_, s4⟩
      rw [len_app, len_one]
      omega
    · rintro σ' H3 ⟨s, rfl, hs, hl, s3⟩
      obtain ⟨h1, h2⟩ := strip_ok hs
      refine s_retP ?_
      refine ⟨_, rfl, rfl, s, "0", rfl, rfl, sz_of (by omega), kk _ _ h1 (by omega) s3⟩
def spNearYear : Sp := fun vs H Q _ => ∃ (y : Option Int) (b : Addr) (kb : Hp) (mt : List (Addr × HO)), vs = [oi y, .ref b] ∧ (∀ i, y = some i → 1000 ≤ i ∧ i ≤ 2999) ∧ SB kb H b mt ∧ ∀ z H', (∀ i, z = some i → 1000 ≤ i ∧ i ≤ 2999) → SB kb H' b mt → Q (oi z) H'
theorem ok_l_near_year (T : Txt K mg Z) : FnOk P w K mg base CX0 2 Z.a_l_near_year Z.d_l_near_year ["_law_age", "_law_pool_here"] spNearYear := by
  refine T.F_l_near_year.ok sc_l_near_year (fun vs H Q E h => ?_) (fun cdv A outer s H vs Q E hr h => ?_)
  · obtain ⟨_, _, _, _, rfl, _⟩ := h; rfl
  · obtain ⟨y, b, kb, mt, rfl, hy, sb, kk⟩ := h
    refine ⟨_, (pss_cons (ps_set (i := 2) sc_l_near_year.nd rfl (.inl rfl) (pe_call (ok_l_take T) (hr.mono (by decide)) rfl T.g_l_take T.F_l_take.kp T.b_l_take .nil pass0 (pa_cons (pv 1) (pa_cons pe_int pa_nil))))
      (pss_cons (ps_if (pt_cmpR op_eq (pv 2) pe_int (nomark _)) (pss_one (ps_ret pe_non)) pss_nil)
      (pss_cons (ps_if (PW.pt (pw_or (pt_cmpR op_eq (pv 2) pe_int (nomark _)) (pw_or1 (pt_cmpR op_isNq (pv 0) pe_non (nomark _))))) (pss_one (ps_ret (pe_op op_add pe_int (pe_call (ok_l_take T) (hr.mono (by decide)) rfl T.g_l_take T.F_l_take.kp T.b_l_take .nil pass0 (pa_cons (pv 1) (pa_cons pe_int pa_nil)))))) pss_nil)
      (pss_one (ps_ret (pe_op op_add (pe_op op_mul (pe_op op_fdiv (pv 0) pe_int) pe_int) (pe_call (ok_l_take T) (hr.mono (by decide)) rfl T.g_l_take T.F_l_take.kp T.b_l_take .nil pass0 (pa_cons (pv 1) (pa_cons pe_int pa_nil))))))))), ?_⟩
    refine q_asgP (tk rfl (by decide) (by decide +kernel) sb fun way H1 g1 g2 s1 => ?_)
    refine q_when (b := decide (way = 0)) (et_is (et_test (ev_op (ev_var rfl) ev_c (rv_eq rfl))) dec_int) (fun _ H2 e2 => ?_) (fun hw H2 e2 => ?_)
    · exact s_ret (v := .non) ev_c fun H3 e3 => kk none _ (fun i h => nomatch h) ((s1.ext e2).ext e3)
    · refine q_when (b := decide (way = 1) || decide (oi y = .non)) (et_or (et_is (et_test (ev_op (ev_var rfl) ev_c (rv_eq rfl))) dec_int) (fun _ => et_test (ev_op (ev_var rfl) ev_c fun H1 e Q q => ⟨rfl, q H1 (Ex.refl _)⟩))) (fun _ H3 e3 => ?_) (fun hn H3 e3 => ?_)
      · refine s_retP (opcP ?_)
        exact tk rfl (by decide) (by decide +kernel) ((s1.ext e2).ext e3) fun r H4 h1 h2 s4 => ⟨1000, r, rfl, rfl, kk (some (1000 + r)) _ (fun i hi => by cases hi; omega) s4⟩
      · cases y with
        | none => rw [show decide (oi none = V.non) = true from decide_eq_true rfl, Bool.or_true] at hn; cases hn
        | some i =>
          have hi := hy i rfl
          refine s_retP (opP ?_)
          refine ev_op (z := .int (i / 10 * 10)) (ev_op (z := .int (i / 10)) (ev_var rfl) ev_c (rv_I ⟨by decide, by decide⟩)) ev_c (rv_I (.inr ⟨by decide, by decide⟩)) _ (Ex.refl _) _ fun H4 e4 => ?_
          exact tk rfl (by decide) (by decide +kernel) (((s1.ext e2).ext e3).ext e4) fun r H5 h1 h2 s5 => ⟨_, r, rfl, rfl, kk (some (i / 10 * 10 + r)) _ (fun j hj => by cases hj; omega) s5⟩
end

/-! ### a mark near another one -/
theorem lead (n : Nat) : 1 ≤ n → ∃ c cs, (Nat.toDigits 10 n).map Char.toNat = c :: cs ∧ 49 ≤ c ∧ c ≤ 57 := by
  induction n using Nat.strongRecOn with
  | ind n ih =>
    intro h
    by_cases hn : n < 10
    · rw [Nat.toDigits_of_lt_base hn]
      have : ∀ k : Nat, k < 10 → 1 ≤ k → 49 ≤ (Nat.digitChar k).toNat ∧ (Nat.digitChar k).toNat ≤ 57 := by decide
      exact ⟨_, [], rfl, this n hn h⟩
    · rw [Nat.toDigits_of_base_le (by decide) (by omega), List.map_append]
      obtain ⟨c, cs, e, h1⟩ := ih (n / 10) (by omega) (by omega)
      rw [e]
      exact ⟨c, cs ++ _, rfl, h1⟩
theorem num_lead {i : Int} (h : 1 ≤ i) : ∃ c cs, sg (toString i : String) = c :: cs ∧ 49 ≤ c := by
  obtain ⟨m, rfl⟩ : ∃ m : Nat, i = (m : Int) := ⟨i.toNat, by omega⟩
  obtain ⟨c, cs, e, h1, _⟩ := lead m (by omega)
  exact ⟨c, cs, (PySem.W.KIN.signs_num m).trans e, h1⟩
def KsOk (ks : List Str) : Prop := ks.length ≤ 3 ∧ ∀ s ∈ ks, makerOk s = true ∧ s.length ≤ 1000
def spNearMakers : Sp := fun vs H Q _ => ∃ (a : Addr) (ks : List Str) (b : Addr) (kb : Hp) (mt : List (Addr × HO)), vs = [.ref a, .ref b] ∧ kb a = some (.lst (ks.map V.str)) ∧ KsOk ks ∧ SB kb H b mt ∧
  ∀ p js kb' H', Ex kb kb' → kb' p = some (.lst (js.map V.str)) → KsOk js → SB kb' H' b mt → Q (.ref p) H'
section
variable {P : Program} {w : World} {K : PySem.W.Frag} {mg : Str → Option Value} {base : Heap} {Z : Adr}
theorem ok_l_near_makers (T : Txt K mg Z) : FnOk P w K mg base CX0 4 Z.a_l_near_makers Z.d_l_near_makers ["_law_hands", "_law_pool_here"] spNearMakers := by
  refine T.F_l_near_makers.ok sc_l_near_makers (fun vs H Q E h => ?_) (fun cdv A outer s H vs Q E hr h => ?_)
  · obtain ⟨_, _, _, _, _, rfl, _⟩ := h; rfl
  · obtain ⟨a, ks, b, kb, mt, rfl, ha, hk, sb, kk⟩ := h
    refine ⟨_, (pss_cons (ps_set (i := 2) sc_l_near_makers.nd rfl (.inl rfl) (pe_call (ok_l_take T) (hr.mono (by decide)) rfl T.g_l_take T.F_l_take.kp T.b_l_take .nil pass0 (pa_cons (pv 1) (pa_cons pe_int pa_nil))))
      (pss_cons (ps_set (i := 3) sc_l_near_makers.nd rfl (.inl rfl) (pe_slice (slL K) (pv 0) po_none (po_some (pe_call (ok_l_take T) (hr.mono (by decide)) rfl T.g_l_take T.F_l_take.kp T.b_l_take .nil pass0 (pa_cons (pv 1) (pa_cons pe_int pa_nil))))))
      (pss_cons (ps_if (pt_cmpR op_eq (pv 2) pe_int (nomark _)) (pss_one (ps_ret (pv 3))) pss_nil)
      (pss_cons (ps_if (pt_cmpR op_lt (pe_callB (lenQ K) (by rfl) T.n_len (by decide +kernel) (pa_cons (pv 3) pa_nil)) (pe_callB (lenQ K) (by rfl) T.n_len (by decide +kernel) (pa_cons (pv 0) pa_nil)) (nomark _)) (pss_cons (ps_set (i := 4) sc_l_near_makers.nd rfl (.inl rfl) (pe_ix (ixL K) (pv 0) (pe_callB (lenQ K) (by rfl) T.n_len (by decide +kernel) (pa_cons (pv 3) pa_nil)) (fun _ _ => rfl)))
      (pss_one (ps_ret (pe_op op_cat (pv 3) (pe_lst (pa_cons (pe_op op_addS (pe_ix ix_str (pv 4) pe_int (fun _ _ => rfl)) (pe_orT (pe_call (ok_l_near_word T) (hr.mono (by decide)) rfl T.g_l_near_word T.F_l_near_word.kp T.b_l_near_word .nil pass0 (pa_cons (pe_slice sl_str (pv 4) (po_some pe_int) po_none) (pa_cons (pv 1) pa_nil))) (pe_one pe_str))) pa_nil)))))) pss_nil)
      (pss_cons (ps_if (pt_cmpR op_lt (pe_callB (lenQ K) (by rfl) T.n_len (by decide +kernel) (pa_cons (pv 3) pa_nil)) pe_int (nomark _)) (pss_one (ps_ret (pe_op op_cat (pv 3) (pe_lst (pa_cons (pe_call (ok_l_maker T) (hr.mono (by decide)) rfl T.g_l_maker T.F_l_maker.kp T.b_l_maker .nil pass0 (pa_cons (pv 1) (pa_cons pe_int pa_nil))) pa_nil))))) pss_nil)
      (pss_one (ps_ret (pv 3)))))))), ?_⟩
    refine q_asgP (tk rfl (by decide) (by decide +kernel) sb fun way H1 g1 g2 s1 => ?_)
    refine q_asgP ?_
    refine ⟨_, rfl, _, rfl, b, 4, kb, mt, rfl, by decide, by decide +kernel, s1, fun r H2 g3 g4 s2 => ⟨r, rfl, a, _, rfl, sq_of (s2.e _ _ ha), fun p hp => ?_⟩⟩
    obtain ⟨k, rfl⟩ : ∃ k : Nat, r = (k : Int) := ⟨r.toNat, by omega⟩
    rw [cut_take, ← List.map_take]
    have s3 := s2.new hp (Ex.new hp) (upd_same (o := .lst ((ks.take k).map V.str)))
    have e3 := s2.kbx hp (o := .lst ((ks.take k).map V.str))
    generalize upd H2 p (.lst ((ks.take k).map V.str)) = H3 at s3 ⊢
    have hk3 : KsOk (ks.take k) := ⟨by rw [List.length_take]; have := hk.1; omega, fun s hs => hk.2 s (List.mem_of_mem_take hs)⟩
    have hp3 : upd kb p (.lst ((ks.take k).map V.str)) p = some (.lst ((ks.take k).map V.str)) := upd_same
    have ha3 := e3 _ _ ha
    generalize upd kb p (.lst ((ks.take k).map V.str)) = kb3 at s3 e3 hp3 ha3
    have lenE : ∀ H', SB kb3 H' b mt → ∀ v, Ev (tCB (rLenS K) (tCons (tVar 3) tNil)) [some (.ref a), some (.ref b), some (.int way), some (.ref p), v] H' (.int ((ks.take k).length : Int)) := fun H' s' v =>
      ev_is (ev_len (ev_var rfl) (sq_of (s'.e _ _ hp3))) (by rw [List.length_map])
    refine q_when (b := decide (way = 0)) (et_is (et_test (ev_op (ev_var rfl) ev_c (rv_eq rfl))) dec_int) (fun _ H4 e4 => ?_) (fun hw H4 e4 => ?_)
    · exact s_ret (v := .ref p) (ev_var rfl) fun H5 e5 => kk p _ kb3 _ e3 hp3 hk3 ((s3.ext e4).ext e5)
    have s4 := s3.ext e4
    refine q_when (b := decide (((ks.take k).length : Int) < (ks.length : Int))) (et_test (ev_op (lenE _ s4 _) (ev_is (ev_len (ev_var rfl) (sq_of (s4.e _ _ ha3))) (by rw [List.length_map])) rv_I0)) (fun hl H5 e5 => ?_) (fun hl H5 e5 => ?_)
    · have hl := of_decide_eq_true hl
      have s5 := s4.ext e5
      have hlt : (ks.take k).length < ks.length := by omega
      have hget : (ks.map V.str)[(ks.take k).length]? = some (.str (ks[(ks.take k).length]'hlt)) := by rw [List.getElem?_map, List.getElem?_eq_getElem hlt]; rfl
      obtain ⟨hmo, hml⟩ := hk.2 _ (List.getElem_mem hlt)
      generalize ks[(ks.take k).length]'hlt = t at hget hmo hml
      refine q_asg (v := .str t) (ev_op (ev_var rfl) (lenE _ s5 _) (rv_ixL (sq_of (s5.e _ _ ha3)) (atI_nat hget))) fun H6 e6 => ?_
      have s6 := s5.ext e6
      obtain ⟨ht, c, hc, hca⟩ := maker_tail hmo
      have hcl : (cutS t (some 1) none).length + 1 ≤ t.length := by
        have h0 := (List.getElem?_eq_some_iff.mp hc).1
        rw [sg_len] at h0
        rw [← sg_len, sg_cutFrom1, List.length_drop, sg_len]
        omega
      refine s_retP (opP ?_)
      refine ⟨_, rfl, ?_⟩
      have fin : ∀ (s : Str) H', endedOk s = true → s.length ≤ 999 → SB kb3 H' b mt → (∃ i j, V.str ⟨#[c]⟩ = .str i ∧ V.str s = .str j ∧ i.length + j.length ≤ sizeLine ∧ (tNil : TA) [some (.ref a), some (.ref b), some (.int way), some (.ref p), some (.str t)] H' fun vs H2 => (V.str (i ++ j) :: vs).length ≤ sizeLine ∧ ∀ q, H2 q = none → rCat (.ref p) (.ref q) (upd H2 q (.lst (V.str (i ++ j) :: vs))) Q) := by
        intro s H' h1 h2 s'
        refine ⟨_, _, rfl, rfl, sz_of (by rw [len_one]; omega), sz_of (by simp), fun q hq => ?_⟩
        have s7 := s'.new hq (Ex.new hq) (upd_same (o := .lst [V.str ((⟨#[c]⟩ : Str) ++ s)]))
        refine ⟨p, q, (ks.take k).map V.str, [.str ((⟨#[c]⟩ : Str) ++ s)], rfl, rfl, s7.e _ _ (s'.kbx hq _ _ hp3), upd_same, sz_of (by rw [List.length_map, List.length_take]; have := hk.1; simp; omega), fun z hz => ?_⟩
        have s8 := s7.new hz (Ex.new hz) (upd_same (o := .lst ((ks.take k).map V.str ++ [.str ((⟨#[c]⟩ : Str) ++ s)])))
        refine kk z (ks.take k ++ [(⟨#[c]⟩ : Str) ++ s]) _ _ ((e3.trans (s'.kbx hq)).trans (s7.kbx hz)) ?_ ?_ s8
        · rw [List.map_append]; exact upd_same
        · refine ⟨by rw [List.length_append, List.length_singleton]; have := hk.1; omega, fun x hx => ?_⟩
          rcases List.mem_append.mp hx with h | h
          · exact hk3.2 x h
          · rw [List.mem_singleton.mp h]
            exact ⟨maker_ok hca h1, by rw [len_app, len_one]; omega⟩
      refine ev_op (z := .str ⟨#[c]⟩) (ev_var rfl) ev_c (rv_ixS (by omega) (show atI (sg t) 0 = some c from atI_nat (j := 0) hc)) _ (Ex.refl _) _ fun H7 e7 => ?_
      refine ⟨_, rfl, 1, rfl, t, rfl, sz_of (by omega), _, rfl, cutS t (some 1) none, b, kb3, mt, rfl, ended_fig ht, by omega, s6.ext e7, fun s H8 h1 h2 s8 => ⟨_, ⟨sz_of (by omega), rfl⟩, ?_⟩⟩
      by_cases hz : s = ("" : Str)
      · subst hz
        rw [show (((("" : Str).length : Nat) : Int) != 0) = false by decide +kernel, if_neg Bool.false_ne_true]
        exact fin "1" H8 (by decide +kernel) (by decide +kernel) s8
      · have : ((s.length : Int) != 0) = true := by
          have : s.length ≠ 0 := fun z => hz (str_ext (by
            have hh := sg_len s
            rw [z] at hh
            rw [List.length_eq_zero_iff.mp hh]
            decide +kernel))
          simp
          omega
        rw [this, if_pos rfl]
        exact fin s H8 (points_ended h1 hz) (by omega) s8
    · have s5 := s4.ext e5
      refine q_when (b := decide (((ks.take k).length : Int) < 3)) (et_test (ev_op (lenE _ s5 _) ev_c rv_I0)) (fun hl2 H6 e6 => ?_) (fun _ H6 e6 => ?_)
      · have hl2 := of_decide_eq_true hl2
        refine s_retP (opP ?_)
        refine ⟨_, rfl, _, rfl, b, 2, kb3, mt, rfl, by decide, by decide, s5.ext e6, fun s H7 h1 h2 s7 => ⟨sz_of (by simp), fun q hq => ?_⟩⟩
        have s8 := s7.new hq (Ex.new hq) (upd_same (o := .lst [V.str s]))
        refine ⟨p, q, (ks.take k).map V.str, [.str s], rfl, rfl, s8.e _ _ (s7.kbx hq _ _ hp3), upd_same, sz_of (by rw [List.length_map]; simp; omega), fun z hz => ?_⟩
        have s9 := s8.new hz (Ex.new hz) (upd_same (o := .lst ((ks.take k).map V.str ++ [.str s])))
        refine kk z (ks.take k ++ [s]) _ _ ((e3.trans (s7.kbx hq)).trans (s8.kbx hz)) ?_ ?_ s9
        · rw [List.map_append]; exact upd_same
        · refine ⟨by rw [List.length_append, List.length_singleton]; omega, fun x hx => ?_⟩
          rcases List.mem_append.mp hx with h | h
          · exact hk3.2 x h
          · rw [List.mem_singleton.mp h]; exact ⟨h1, by omega⟩
      · exact s_ret (v := .ref p) (ev_var rfl) fun H7 e7 => kk p _ kb3 _ e3 hp3 hk3 ((s5.ext e6).ext e7)
def CpOk (z : Option Int) : Prop := ∀ i, z = some i → 2 ≤ i ∧ i.natAbs.log2 < 1920
def spNearCopy : Sp := fun vs H Q _ => ∃ (y : Option Int) (b : Addr) (kb : Hp) (mt : List (Addr × HO)), vs = [oi y, .ref b] ∧ CpOk y ∧ SB kb H b mt ∧ ∀ z H', CpOk z → SB kb H' b mt → Q (oi z) H'
theorem ok_l_near_copy (T : Txt K mg Z) : FnOk P w K mg base CX0 2 Z.a_l_near_copy Z.d_l_near_copy ["_law_twin", "_law_pool_here"] spNearCopy := by
  refine T.F_l_near_copy.ok sc_l_near_copy (fun vs H Q E h => ?_) (fun cdv A outer s H vs Q E hr h => ?_)
  · obtain ⟨_, _, _, _, rfl, _⟩ := h; rfl
  · obtain ⟨y, b, kb, mt, rfl, hy, sb, kk⟩ := h
    refine ⟨_, (pss_cons (ps_if (pt_cmpR op_eq (pe_call (ok_l_take T) (hr.mono (by decide)) rfl T.g_l_take T.F_l_take.kp T.b_l_take .nil pass0 (pa_cons (pv 1) (pa_cons pe_int pa_nil))) pe_int (nomark _)) (pss_one (ps_ret pe_non)) pss_nil)
      (pss_cons (ps_set (i := 2) sc_l_near_copy.nd rfl (.inl rfl) (pe_callTy (call_strI) (by rfl) T.n_str (by decide +kernel) (pa_cons (pe_ifExp (pt_cmpR op_isNq (pv 0) pe_non (nomark _)) pe_int (pv 0)) pa_nil)))
      (pss_one (ps_ret (pe_callB (call_maxq rfl) (by rfl) T.n_max (by decide +kernel) (pa_cons pe_int (pa_cons (pe_callTy (call_intS) (by rfl) T.n_int (by decide +kernel) (pa_cons (pe_op op_addS (pe_slice sl_str (pv 2) po_none (po_some (pe_op op_add pe_int (pe_call (ok_l_take T) (hr.mono (by decide)) rfl T.g_l_take T.F_l_take.kp T.b_l_take .nil pass0 (pa_cons (pv 1) (pa_cons pe_int pa_nil)))))) (pe_ix ix_str pe_str (pe_call (ok_l_take T) (hr.mono (by decide)) rfl T.g_l_take T.F_l_take.kp T.b_l_take .nil pass0 (pa_cons (pv 1) (pa_cons pe_int pa_nil))) (fun _ _ => rfl))) pa_nil)) pa_nil))))))), ?_⟩
    refine ifTk (D := { nx := _, rt := _, bk := _, ct := _ }) (n := 4) (m := 0) rfl (by decide) (by decide +kernel) sb (fun H1 s1 => ?_) (fun H1 s1 => ?_)
    · exact s_ret (v := .non) ev_c fun H2 e2 => kk none _ (fun i h => nomatch h) (s1.ext e2)
    have hi : ∃ i : Int, 2 ≤ i ∧ i.natAbs.log2 < 1920 ∧ ∀ H', Ev (tIf (tTest (tOp (fun x y H Q => y = .non ∧ Q (.bl (decide (x = .non))) H) (tVar 0) (tC .non))) (tC (.int 2)) (tVar 0)) [some (oi y), some (.ref b), none] H' (.int i) := by
      cases y with
      | none => exact ⟨2, by decide, by decide +kernel, fun H' => ev_if (b := true) (et_test (ev_op (ev_var rfl) ev_c fun H1 e Q q => ⟨rfl, q H1 (Ex.refl _)⟩)) (fun _ => ev_c) (fun h => nomatch h)⟩
      | some i => exact ⟨i, (hy i rfl).1, (hy i rfl).2, fun H' => ev_if (b := false) (et_test (ev_op (ev_var rfl) ev_c fun H1 e Q q => ⟨rfl, q H1 (Ex.refl _)⟩)) (fun h => nomatch h) (fun _ => ev_var rfl)⟩
    obtain ⟨i, h2, hlg, hE⟩ := hi
    show tSeq _ _ _ _ H1
    refine q_asg (v := .str (toString i : String)) (ev_strI (hE H1) hlg) fun H2 e2 => ?_
    have hlen := int_len hlg
    refine s_retP ?_
    refine ⟨_, rfl, _, rfl, b, 29, kb, mt, rfl, by decide, by decide +kernel, s1.ext e2, fun r H3 g1 g2 s3 => ⟨1, r, rfl, rfl, 1 + r, rfl, (toString i : String), rfl, sz_of (Nat.le_trans hlen (by decide)), ?_⟩⟩
    obtain ⟨k, hk⟩ : ∃ k : Nat, 1 + r = ((k + 1 : Nat) : Int) := ⟨r.toNat, by omega⟩
    rw [hk]
    have hc1 := len_cut (toString i : String) (k + 1)
    have hc2 := fig_cut (num_fig (i := i) (by omega)) (k + 1)
    generalize cutS (toString i : String) none (some ((k + 1 : Nat) : Int)) = d at hc1 hc2
    refine pick (s := "0123456789") rfl (by decide +kernel) (by decide) (by decide +kernel) (by decide +kernel) s3 fun c H4 hc s4 => ?_
    have hl : (d ++ (⟨#[c]⟩ : Str)).length ≤ 31 := by rw [len_app, len_one]; omega
    have hf := fig_app hc2 (fig_one hc)
    refine ⟨_, _, rfl, rfl, sz_of (by rw [len_one]; omega), d ++ ⟨#[c]⟩, _, rfl, intText_fig hf (by rw [sg_app]; simp [sg]) (by omega), by omega, 2, _, rfl, ?_⟩
    have hv := digitsVal_lt _ _ rfl (fun x hx => fig_dig.mp (hf x hx))
    have hv2 : PySem.NumText.digitsVal (sg (d ++ ⟨#[c]⟩)) < 10 ^ 31 := Nat.lt_of_lt_of_le hv (Nat.pow_le_pow_right (by decide) (by rw [sg_len]; exact hl))
    generalize PySem.NumText.digitsVal (sg (d ++ ⟨#[c]⟩)) = v at hv2
    refine kk (some (if (v : Int) > 2 then (v : Int) else 2)) H4 (fun j hj => ?_) s4
    cases hj
    have h1 : (if (v : Int) > 2 then (v : Int) else 2).natAbs < 2 ^ 110 := by split <;> omega
    exact ⟨by split <;> omega, Nat.lt_of_lt_of_le (PySem.Flt.log2_lt_of (by decide) h1) (by decide)⟩
end

theorem mix {m1 m2 : MK} (o1 : m1.Ok) (o2 : m2.Ok) (a1 a2 : Addr) (k : Nat) (hk : k < 6) : ∃ (m3 : MK) (a3 : Addr), m3.Ok ∧ cutV (m1.tup a1) none (some ((k + 1 : Nat) : Int)) ++ cutV (m2.tup a2) (some ((k + 1 : Nat) : Int)) none = m3.tup a3 ∧ ((a3 = a1 ∧ m3.mks = m1.mks) ∨ (a3 = a2 ∧ m3.mks = m2.mks)) := by
  match k, hk with
  | 0, _ => exact ⟨⟨m1.lt, m2.num, m2.pts, m2.mks, m2.yr, m2.cp⟩, a2, ⟨o1.l, o2.n, o2.p, o2.pz, o2.k, o2.ks, o2.y, o2.c⟩, rfl, .inr ⟨rfl, rfl⟩⟩
  | 1, _ => exact ⟨⟨m1.lt, m1.num, m2.pts, m2.mks, m2.yr, m2.cp⟩, a2, ⟨o1.l, o1.n, o2.p, o2.pz, o2.k, o2.ks, o2.y, o2.c⟩, rfl, .inr ⟨rfl, rfl⟩⟩
  | 2, _ => exact ⟨⟨m1.lt, m1.num, m1.pts, m2.mks, m2.yr, m2.cp⟩, a2, ⟨o1.l, o1.n, o1.p, o1.pz, o2.k, o2.ks, o2.y, o2.c⟩, rfl, .inr ⟨rfl, rfl⟩⟩
  | 3, _ => exact ⟨⟨m1.lt, m1.num, m1.pts, m1.mks, m2.yr, m2.cp⟩, a1, ⟨o1.l, o1.n, o1.p, o1.pz, o1.k, o1.ks, o2.y, o2.c⟩, rfl, .inl ⟨rfl, rfl⟩⟩
  | 4, _ => exact ⟨⟨m1.lt, m1.num, m1.pts, m1.mks, m1.yr, m2.cp⟩, a1, ⟨o1.l, o1.n, o1.p, o1.pz, o1.k, o1.ks, o1.y, o2.c⟩, rfl, .inl ⟨rfl, rfl⟩⟩
  | 5, _ => exact ⟨⟨m1.lt, m1.num, m1.pts, m1.mks, m1.yr, m1.cp⟩, a1, ⟨o1.l, o1.n, o1.p, o1.pz, o1.k, o1.ks, o1.y, o1.c⟩, rfl, .inl ⟨rfl, rfl⟩⟩
def spNear : Sp := fun vs H Q _ => ∃ (p : Addr) (k : Nat) (b : Addr) (m : MK) (kb : Hp) (mt : List (Addr × HO)), vs = [.ref p, .int (k : Int), .ref b] ∧ k < 6 ∧ RowAt kb p m ∧ m.Ok ∧ SB kb H b mt ∧
  ∀ q m' kb' H', Ex kb kb' → RowAt kb' q m' → m'.Ok → SB kb' H' b mt → Q (.ref q) H'
section
variable {P : Program} {w : World} {K : PySem.W.Frag} {mg : Str → Option Value} {base : Heap} {Z : Adr}
theorem set_row {σ : L2.St} {kb H : Hp} {b row : Addr} {mt : List (Addr × HO)} {xs : List V} {j : Nat} {v : V} {N : L2.St → Hp → Prop} (hσ : σ[4]? = some (some (.ref row))) (s : SB kb H b ((row, .lst xs) :: mt)) (hj : j < xs.length)
    (k : SB kb (upd H row (.lst (xs.set j v))) b ((row, .lst (xs.set j v)) :: mt) → N σ (upd H row (.lst (xs.set j v)))) : gSub (tVar 4) (tC (.int (j : Int))) rSetL v σ H N :=
  ⟨_, hσ, row, xs, (j : Int), j, rfl, rfl, s.at2, ixN_nat hj, k s.set2⟩
theorem ok_l_near (T : Txt K mg Z) : FnOk P w K mg base CX0 5 Z.a_l_near Z.d_l_near ["_law_parts_here", "_law_at", "_law_pool_here"] spNear := by
  refine T.F_l_near.ok sc_l_near (fun vs H Q E h => ?_) (fun cdv A outer s H vs Q E hr h => ?_)
  · obtain ⟨_, _, _, _, _, _, rfl, _⟩ := h; rfl
  · obtain ⟨p, at_, b, m, kb, mt, rfl, hat, ⟨ma, hp, hma⟩, ok, sb, kk⟩ := h
    refine ⟨_, (pss_cons (ps_set (i := 3) sc_l_near.nd rfl (.inl rfl) (pe_call (ok_l_take T) (hr.mono (by decide)) rfl T.g_l_take T.F_l_take.kp T.b_l_take .nil pass0 (pa_cons (pv 2) (pa_cons pe_int pa_nil))))
      (pss_cons (ps_set (i := 4) sc_l_near.nd rfl (.inl rfl) (pe_lst (pa_cons (pe_ix (ixL K) (pv 0) pe_int (fun _ _ => rfl)) (pa_cons (pe_ix (ixL K) (pv 0) pe_int (fun _ _ => rfl)) (pa_cons (pe_ix (ixL K) (pv 0) pe_int (fun _ _ => rfl)) (pa_cons (pe_callTy (listK K) (by rfl) T.n_list (by decide +kernel) (pa_cons (pe_ix (ixL K) (pv 0) pe_int (fun _ _ => rfl)) pa_nil)) (pa_cons (pe_ix (ixL K) (pv 0) pe_int (fun _ _ => rfl)) (pa_cons (pe_ix (ixL K) (pv 0) pe_int (fun _ _ => rfl)) pa_nil))))))))
      (pss_cut (ps_if (pt_cmpR op_eq (pv 1) pe_int (nomark _)) (pss_one (ps_asg (pe_op op_addS (pe_slice sl_str (pe_ix (ixL K) (pv 0) pe_int (fun _ _ => rfl)) po_none (po_some (pe_call (ok_l_take T) (hr.mono (by decide)) rfl T.g_l_take T.F_l_take.kp T.b_l_take .nil pass0 (pa_cons (pv 2) (pa_cons pe_int pa_nil))))) (pe_ix ix_str pe_str (pe_call (ok_l_take T) (hr.mono (by decide)) rfl T.g_l_take T.F_l_take.kp T.b_l_take .nil pass0 (pa_cons (pv 2) (pa_cons pe_int pa_nil))) (fun _ _ => rfl))) (pg_sub (pv 4) pe_int set_list))) pss_nil)
      (pss_cut (ps_if (pt_cmpR op_eq (pv 1) pe_int (nomark _)) (pss_one (ps_asg (pe_callTy (call_intS) (by rfl) T.n_int (by decide +kernel) (pa_cons (pe_slice sl_str (pe_op op_addS (pe_slice sl_str (pe_callTy (call_strI) (by rfl) T.n_str (by decide +kernel) (pa_cons (pe_ix (ixL K) (pv 0) pe_int (fun _ _ => rfl)) pa_nil)) po_none (po_some (pe_op op_add pe_int (pe_call (ok_l_take T) (hr.mono (by decide)) rfl T.g_l_take T.F_l_take.kp T.b_l_take .nil pass0 (pa_cons (pv 2) (pa_cons pe_int pa_nil)))))) (pe_ix ix_str pe_str (pe_call (ok_l_take T) (hr.mono (by decide)) rfl T.g_l_take T.F_l_take.kp T.b_l_take .nil pass0 (pa_cons (pv 2) (pa_cons pe_int pa_nil))) (fun _ _ => rfl))) po_none (po_some pe_int)) pa_nil)) (pg_sub (pv 4) pe_int set_list))) pss_nil)
      (pss_cut (ps_if (pt_cmpR op_eq (pv 1) pe_int (nomark _)) (pss_one (ps_asg (pe_call (ok_l_near_word T) (hr.mono (by decide)) rfl T.g_l_near_word T.F_l_near_word.kp T.b_l_near_word .nil pass0 (pa_cons (pe_ix (ixL K) (pv 0) pe_int (fun _ _ => rfl)) (pa_cons (pv 2) pa_nil))) (pg_sub (pv 4) pe_int set_list))) pss_nil)
      (pss_cut (ps_if (pt_cmpR op_eq (pv 1) pe_int (nomark _)) (pss_one (ps_asg (pe_call (ok_l_near_makers T) (hr.mono (by decide)) rfl T.g_l_near_makers T.F_l_near_makers.kp T.b_l_near_makers .nil pass0 (pa_cons (pe_ix (ixL K) (pv 0) pe_int (fun _ _ => rfl)) (pa_cons (pv 2) pa_nil))) (pg_sub (pv 4) pe_int set_list))) pss_nil)
      (pss_cut (ps_if (pt_cmpR op_eq (pv 1) pe_int (nomark _)) (pss_one (ps_asg (pe_call (ok_l_near_year T) (hr.mono (by decide)) rfl T.g_l_near_year T.F_l_near_year.kp T.b_l_near_year .nil pass0 (pa_cons (pe_ix (ixL K) (pv 0) pe_int (fun _ _ => rfl)) (pa_cons (pv 2) pa_nil))) (pg_sub (pv 4) pe_int set_list))) pss_nil)
      (pss_cut (ps_if (pt_cmpR op_eq (pv 1) pe_int (nomark _)) (pss_one (ps_asg (pe_call (ok_l_near_copy T) (hr.mono (by decide)) rfl T.g_l_near_copy T.F_l_near_copy.kp T.b_l_near_copy .nil pass0 (pa_cons (pe_ix (ixL K) (pv 0) pe_int (fun _ _ => rfl)) (pa_cons (pv 2) pa_nil))) (pg_sub (pv 4) pe_int set_list))) pss_nil)
      (pss_cut (ps_if (pt_cmpR op_eq (pv 3) pe_int (nomark _)) (pss_one (ps_ret (pe_op op_cat (pe_slice (slL K) (pv 4) po_none (po_some (pe_op op_add (pv 1) pe_int))) (pe_slice (slL K) (pe_call (ok_l_parts T) (hr.mono (by decide)) rfl T.g_l_parts T.F_l_parts.kp T.b_l_parts .nil pass0 (pa_cons (pv 2) pa_nil)) (po_some (pe_op op_add (pv 1) pe_int)) po_none)))) pss_nil)
      (pss_one (ps_ret (pv 4)))))))))))), ?_⟩
    refine q_asgP (tk rfl (by decide) (by decide +kernel) sb fun tail H1 g1 g2 s1 => ?_)
    have ix : ∀ (kb' : Hp) {H' : Hp} {x1 x2 x3 x4 : Option V} {mt' : List (Addr × HO)} (j : Nat) {v : V}, Ex kb kb' → SB kb' H' b mt' → (m.tup ma)[j]? = some v → Ev (tOp (rIxL K) (tVar 0) (tC (.int (j : Int)))) [some (.ref p), x1, x2, x3, x4] H' v := fun kb' H' x1 x2 x3 x4 mt' j v e s h =>
      ev_op (ev_var rfl) ev_c (rv_ixL (sq_of (s.e _ _ (e _ _ hp))) (atI_nat h))
    refine q_asgP ?_
    refine ix kb 0 (Ex.refl _) s1 rfl _ (Ex.refl _) _ fun H2 e2 => ?_
    have s2 := s1.ext e2
    refine ix kb 1 (Ex.refl _) s2 rfl _ (Ex.refl _) _ fun H3 e3 => ?_
    have s3 := s2.ext e3
    refine ix kb 2 (Ex.refl _) s3 rfl _ (Ex.refl _) _ fun H4 e4 => ?_
    have s4 := s3.ext e4
    refine ix kb 3 (Ex.refl _) s4 (v := .ref ma) rfl _ (Ex.refl _) _ fun H5 e5 => ?_
    have s5 := s4.ext e5
    refine ⟨ma, _, rfl, Or.inl (sq_of (s5.e _ _ hma)), fun mb hmb => ?_⟩
    have s6 := s5.new hmb (Ex.new hmb) (upd_same (o := .lst (m.mks.map V.str)))
    have e6 := s5.kbx hmb (o := .lst (m.mks.map V.str))
    have h6 : upd kb mb (.lst (m.mks.map V.str)) mb = some (.lst (m.mks.map V.str)) := upd_same
    generalize upd kb mb (.lst (m.mks.map V.str)) = kb6 at s6 e6 h6
    refine ix kb6 4 e6 s6 rfl _ (Ex.refl _) _ fun H7 e7 => ?_
    have s7 := s6.ext e7
    refine ix kb6 5 e6 s7 rfl _ (Ex.refl _) _ fun H8 e8 => ?_
    have s8 := s7.ext e8
    refine ⟨sz_of (by simp), fun row hrow => ?_⟩
    have s9 := s8.newM hrow (Ex.new hrow) (upd_same (o := .lst (m.tup mb)))
    show tCut _ _ _ _ (upd H8 row (.lst (m.tup mb)))
    generalize upd H8 row (.lst (m.tup mb)) = H9 at s9
    have eqE : ∀ (j : Nat) (H' : Hp), EvT (tTest (tOp rEq (tVar 1) (tC (.int (j : Int))))) [some (.ref p), some (.int (at_ : Int)), some (.ref b), some (.int tail), some (.ref row)] H' (decide ((at_ : Int) = (j : Int))) := fun j H' => et_is (et_test (ev_op (ev_var rfl) ev_c (rv_eq rfl))) dec_int
    have tkR : ∀ {n : Int} {kb' H' : Hp} {mt' : List (Addr × HO)} {Q : VK}, 0 < n → n < 10000 → SB kb' H' b mt' → (∀ (r : Int) H', 0 ≤ r → r < n → SB kb' H' b mt' → Q (.int r) H') → tCall spTake [] E0 (tCons (tVar 2) (tCons (tC (.int n)) tNil)) [some (.ref p), some (.int (at_ : Int)), some (.ref b), some (.int tail), some (.ref row)] H' Q := fun h1 h2 s k => tk rfl h1 (log_small (by omega) (by omega)) s k
    let N : L2.St → Hp → Prop := fun σ' H' => ∃ (m' : MK) (ma' : Addr) (kb' : Hp), σ' = [some (.ref p), some (.int (at_ : Int)), some (.ref b), some (.int tail), some (.ref row)] ∧ Ex kb kb' ∧ m'.Ok ∧ kb' ma' = some (.lst (m'.mks.map V.str)) ∧ SB kb' H' b ((row, .lst (m'.tup ma')) :: mt)
    -- the letters
    refine q_cut (M := N) (s_when (eqE 0 _) (fun _ H10 e10 => ?_) (fun _ H10 e10 => ⟨m, mb, kb6, rfl, e6, ok, h6, s9.ext e10⟩)) ?_
    · have s10 := s9.ext e10
      refine opP (ix kb6 0 e6 s10 (v := .str m.lt) rfl _ (Ex.refl _) _ fun H11 e11 => ?_)
      have hll := letters_len ok.l
      refine ⟨_, rfl, b, 3, kb6, _, rfl, by decide, by decide +kernel, s10.ext e11, fun r H12 h1 h2 s12 => ⟨r, rfl, m.lt, rfl, sz_of (by omega), ?_⟩⟩
      obtain ⟨k, rfl⟩ : ∃ k : Nat, r = (k : Int) := ⟨r.toNat, by omega⟩
      refine pick (s := "abcdefghijklmnopqrstuvwxyz") rfl (by decide +kernel) (by decide) (by decide +kernel) (by decide +kernel) s12 fun c H13 hc s13 => ?_
      have hcl := len_cut m.lt k
      refine ⟨_, _, rfl, rfl, sz_of (by rw [len_one]; omega), set_row (j := 0) rfl s13 (by simp [MK.tup]) fun s14 => ?_⟩
      exact ⟨{ m with lt := cutS m.lt none (some (k : Int)) ++ ⟨#[c]⟩ }, mb, kb6, rfl, e6, ⟨lets_app (by omega) (lets_cut ok.l k) hc, ok.n, ok.p, ok.pz, ok.k, ok.ks, ok.y, ok.c⟩, h6, s14⟩
    rintro σ' H10 ⟨m1, ma1, kb1, rfl, e1, ok1, hm1, s10⟩
    -- the number
    refine q_cut (M := N) (s_when (eqE 1 _) (fun _ H11 e11 => ?_) (fun _ H11 e11 => ⟨m1, ma1, kb1, rfl, e1, ok1, hm1, s10.ext e11⟩)) ?_
    · have s11 := s10.ext e11
      refine s_asgE ?_
      refine ix kb1 1 e1 s11 (v := .int m.num) rfl _ (Ex.refl _) _ fun H12 e12 => ?_
      have hlg : m.num.natAbs.log2 < 1920 := log2_small ⟨by have := ok.n; omega, ok.n.2⟩
      have hlen := int_len hlg
      refine ⟨m.num, rfl, hlg, _, rfl, b, 4, kb1, _, rfl, by decide, by decide +kernel, s11.ext e12, fun r H13 h1 h2 s13 => ⟨1, r, rfl, rfl, 1 + r, rfl, (toString m.num : String), rfl, sz_of (Nat.le_trans hlen (by decide)), ?_⟩⟩
      obtain ⟨k, hk⟩ : ∃ k : Nat, 1 + r = ((k + 1 : Nat) : Int) := ⟨r.toNat, by omega⟩
      rw [hk]
      refine pick (s := "0123456789") rfl (by decide +kernel) (by decide) (by decide +kernel) (by decide +kernel) s13 fun c H14 hc s14 => ?_
      have hc1 := len_cut (toString m.num : String) (k + 1)
      have hf := fig_app (fig_cut (num_fig (i := m.num) (by have := ok.n; omega)) (k + 1)) (fig_one hc)
      have hd : ∃ d ds, sg (cutS (toString m.num : String) none (some ((k + 1 : Nat) : Int)) ++ (⟨#[c]⟩ : Str)) = d :: ds ∧ 49 ≤ d := by
        obtain ⟨d, ds, e, h9⟩ := num_lead ok.n.1
        refine ⟨d, ds.take k ++ [c], ?_, h9⟩
        rw [sg_app, sg_cutTo, e]
        rfl
      have hl : (cutS (toString m.num : String) none (some ((k + 1 : Nat) : Int)) ++ (⟨#[c]⟩ : Str)).length ≤ 31 := by rw [len_app, len_one]; omega
      refine ⟨_, _, rfl, rfl, sz_of (by rw [len_one]; omega), _, rfl, _, rfl, sz_of (by omega), ?_⟩
      generalize cutS (toString m.num : String) none (some ((k + 1 : Nat) : Int)) ++ (⟨#[c]⟩ : Str) = t at hf hd hl
      have hf4 := fig_cut hf 4
      have hl4 := len_cut t 4
      obtain ⟨d, ds, hd, h9⟩ := hd
      have hd4 : sg (cutS t none (some ((4 : Nat) : Int))) = d :: ds.take 3 := by rw [sg_cutTo, hd]; rfl
      have hv := digitsVal_lt _ _ rfl (fun x hx => fig_dig.mp (hf4 x hx))
      have hv2 : PySem.NumText.digitsVal (sg (cutS t none (some ((4 : Nat) : Int)))) < 10 ^ 4 := Nat.lt_of_lt_of_le hv (Nat.pow_le_pow_right (by decide) (by rw [sg_len]; exact hl4))
      have hv3 : 0 < PySem.NumText.digitsVal (sg (cutS t none (some ((4 : Nat) : Int)))) := by rw [hd4]; exact PySem.NumText.digitsVal_pos h9
      have hit := intText_fig hf4 (by rw [hd4]; simp) (by omega)
      clear hv
      generalize PySem.NumText.digitsVal (sg (cutS t none (some ((4 : Nat) : Int)))) = dv at hit hv2 hv3
      refine ⟨cutS t none (some ((4 : Nat) : Int)), _, rfl, hit, by omega, set_row (j := 1) rfl s14 (by simp [MK.tup]) fun s15 => ?_⟩
      exact ⟨{ m1 with num := (dv : Int) }, ma1, kb1, rfl, e1, ⟨ok1.l, ⟨show (1 : Int) ≤ (dv : Int) by omega, show (dv : Int) ≤ 9999 by omega⟩, ok1.p, ok1.pz, ok1.k, ok1.ks, ok1.y, ok1.c⟩, hm1, s15⟩
    rintro σ' H11 ⟨m2, ma2, kb2, rfl, e2', ok2, hm2, s11⟩
    -- the points
    refine q_cut (M := N) (s_when (eqE 2 _) (fun _ H12 e12 => ?_) (fun _ H12 e12 => ⟨m2, ma2, kb2, rfl, e2', ok2, hm2, s11.ext e12⟩)) ?_
    · have s12 := s11.ext e12
      refine s_asgE ?_
      refine ix kb2 2 e2' s12 (v := .str m.pts) rfl _ (Ex.refl _) _ fun H13 e13 => ?_
      refine ⟨_, rfl, m.pts, b, kb2, _, rfl, points_fig ok.p, ok.pz, s12.ext e13, fun t H14 h1 h2 s14 => set_row (j := 2) rfl s14 (by simp [MK.tup]) fun s15 => ?_⟩
      exact ⟨{ m2 with pts := t }, ma2, kb2, rfl, e2', ⟨ok2.l, ok2.n, h1, show t.length ≤ 1000 by have := ok.pz; omega, ok2.k, ok2.ks, ok2.y, ok2.c⟩, hm2, s15⟩
    rintro σ' H12 ⟨m3, ma3, kb3, rfl, e3', ok3, hm3, s12⟩
    -- the makers
    refine q_cut (M := N) (s_when (eqE 3 _) (fun _ H13 e13 => ?_) (fun _ H13 e13 => ⟨m3, ma3, kb3, rfl, e3', ok3, hm3, s12.ext e13⟩)) ?_
    · have s13 := s12.ext e13
      refine s_asgE ?_
      refine ix kb3 3 e3' s13 (v := .ref ma) rfl _ (Ex.refl _) _ fun H14 e14 => ?_
      refine ⟨_, rfl, ma, m.mks, b, kb3, _, rfl, e3' _ _ hma, ⟨ok.k, ok.ks⟩, s13.ext e14, fun q js kb4 H15 e4 h1 h2 s15 => set_row (j := 3) rfl s15 (by simp [MK.tup]) fun s16 => ?_⟩
      exact ⟨{ m3 with mks := js }, q, kb4, rfl, e3'.trans e4, ⟨ok3.l, ok3.n, ok3.p, ok3.pz, h2.1, h2.2, ok3.y, ok3.c⟩, h1, s16⟩
    rintro σ' H13 ⟨m4, ma4, kb4, rfl, e4', ok4, hm4, s13⟩
    -- the year
    refine q_cut (M := N) (s_when (eqE 4 _) (fun _ H14 e14 => ?_) (fun _ H14 e14 => ⟨m4, ma4, kb4, rfl, e4', ok4, hm4, s13.ext e14⟩)) ?_
    · have s14 := s13.ext e14
      refine s_asgE ?_
      refine ix kb4 4 e4' s14 (v := oi m.yr) rfl _ (Ex.refl _) _ fun H15 e15 => ?_
      refine ⟨_, rfl, m.yr, b, kb4, _, rfl, ok.y, s14.ext e15, fun z H16 h1 s16 => set_row (j := 4) rfl s16 (by simp [MK.tup]) fun s17 => ?_⟩
      exact ⟨{ m4 with yr := z }, ma4, kb4, rfl, e4', ⟨ok4.l, ok4.n, ok4.p, ok4.pz, ok4.k, ok4.ks, h1, ok4.c⟩, hm4, s17⟩
    rintro σ' H14 ⟨m5, ma5, kb5, rfl, e5', ok5, hm5, s14⟩
    -- the copy
    refine q_cut (M := N) (s_when (eqE 5 _) (fun _ H15 e15 => ?_) (fun _ H15 e15 => ⟨m5, ma5, kb5, rfl, e5', ok5, hm5, s14.ext e15⟩)) ?_
    · have s15 := s14.ext e15
      refine s_asgE ?_
      refine ix kb5 5 e5' s15 (v := oi m.cp) rfl _ (Ex.refl _) _ fun H16 e16 => ?_
      refine ⟨_, rfl, m.cp, b, kb5, _, rfl, ok.c, s15.ext e16, fun z H17 h1 s17 => set_row (j := 5) rfl s17 (by simp [MK.tup]) fun s18 => ?_⟩
      exact ⟨{ m5 with cp := z }, ma5, kb5, rfl, e5', ⟨ok5.l, ok5.n, ok5.p, ok5.pz, ok5.k, ok5.ks, ok5.y, h1⟩, hm5, s18⟩
    rintro σ' H15 ⟨m6, ma6, kb7, rfl, e6', ok6, hm6, s15⟩
    -- what follows
    refine q_cut (M := N) (s_when (b := decide (tail = 1)) (et_is (et_test (ev_op (ev_var rfl) ev_c (rv_eq rfl))) dec_int) (fun _ H16 e16 => ?_) (fun _ H16 e16 => ⟨m6, ma6, kb7, rfl, e6', ok6, hm6, s15.ext e16⟩)) ?_
    · have s16 := s15.ext e16
      refine s_retP (opP ?_)
      have at1 : ∀ H', Ev (tOp (rI0 fun i j => .int (i + j)) (tVar 1) (tC (.int 1))) [some (.ref p), some (.int (at_ : Int)), some (.ref b), some (.int tail), some (.ref row)] H' (.int ((at_ + 1 : Nat) : Int)) := fun H' => ev_op (ev_var rfl) ev_c rv_I0
      refine el_sl (a := row) (xs := m6.tup ma6) (ev_var rfl) eo_none (eo_some (at1 _)) (sq_of s16.at2) _ (Ex.refl _) _ fun q1 H17 hq1 e17 h17 => ?_
      have s17 := s16.new hq1 e17 h17
      have x17 := s16.kbx hq1 (o := .lst (cutV (m6.tup ma6) none (some ((at_ + 1 : Nat) : Int))))
      refine ⟨_, rfl, b, _, _, rfl, s17, fun p2 n kb8 H18 e18 ⟨na, hp2, hna⟩ okn _ s18 => ?_⟩
      refine (eo_some (at1 H18)) _ (Ex.refl _) _ fun H19 e19 => ?_
      have s19 := s18.ext e19
      refine ⟨p2, n.tup na, rfl, sq_of (s19.e _ _ hp2), fun q2 hq2 => ?_⟩
      have s20 := s19.new hq2 (Ex.new hq2) (upd_same (o := .lst (cutV (n.tup na) (some ((at_ + 1 : Nat) : Int)) none)))
      have x20 := s19.kbx hq2 (o := .lst (cutV (n.tup na) (some ((at_ + 1 : Nat) : Int)) none))
      obtain ⟨m9, a9, ok9, e9', h9⟩ := mix ok6 okn ma6 na at_ hat
      refine ⟨q1, q2, _, _, rfl, rfl, s20.e _ _ (x20 _ _ (e18 _ _ upd_same)), upd_same, sz_of ?_, fun q3 hq3 => ?_⟩
      · rw [← List.length_append, e9']; show 6 ≤ 100000; decide
      rw [e9'] at *
      have s21 := s20.new hq3 (Ex.new hq3) (upd_same (o := .lst (m9.tup a9)))
      have x21 := s20.kbx hq3 (o := .lst (m9.tup a9))
      have xx := (((e6'.trans x17).trans e18).trans x20).trans x21
      refine kk q3 m9 _ _ xx ⟨a9, upd_same, ?_⟩ ok9 s21.drop
      rcases h9 with ⟨rfl, hh⟩ | ⟨rfl, hh⟩
      · rw [hh]; exact x21 _ _ (x20 _ _ (e18 _ _ (x17 _ _ hm6)))
      · rw [hh]; exact x21 _ _ (x20 _ _ hna)
    rintro σ' H16 ⟨m8, ma8, kb8, rfl, e8', ok8, hm8, s16⟩
    refine s_ret (v := .ref row) (ev_var rfl) fun H17 e17 => ?_
    have s17 := (s16.ext e17).fix
    exact kk row m8 _ _ (e8'.trans (s16.ext e17).fixx) ⟨ma8, upd_same, (s16.ext e17).fixx _ _ hm8⟩ ok8 s17
end

/-! ### a pool made, a mark made of drawn parts, the law's own key and order -/
def spPool : Sp := fun vs H Q _ => ∃ c : Int, vs = [.int c] ∧ ∀ p n H2, H p = none → Ex H H2 → H2 p = some (.lst [.int n]) → Q (.ref p) H2
section
variable {P : Program} {w : World} {K : PySem.W.Frag} {mg : Str → Option Value} {base : Heap} {Z : Adr}
theorem ok_l_pool (T : Txt K mg Z) : FnOk P w K mg base CX0 1 Z.a_l_pool Z.d_l_pool ["_law_cell"] spPool := by
  refine T.F_l_pool.ok sc_l_pool (fun vs H Q E h => ?_) (fun cdv A outer s H vs Q E hr h => ?_)
  · obtain ⟨_, rfl, _⟩ := h; rfl
  · obtain ⟨c, rfl, kk⟩ := h
    refine ⟨_, (pss_cons (ps_if (pt_cmpR op_ge (pv 0) (pe_op op_pow pe_int pe_int) (nomark _)) (pss_one (ps_ret (pe_lst (pa_cons (pv 0) pa_nil)))) pss_nil)
      (pss_cons (ps_set (i := 1) sc_l_pool.nd rfl (.inl rfl) pe_int)
      (pss_cons (ps_for PassesOwn.never rfl (pi_range1 rfl T.n_range (pa_cons pe_int pa_nil)) (pg_name (i := 2) sc_l_pool.nd rfl (.inl rfl)) (pss_cons (ps_set (i := 3) sc_l_pool.nd rfl (.inl rfl) (pe_op op_mod (pe_op op_pow (pe_op op_add (pe_op op_add (pe_op op_mul (pe_op op_mod (pv 0) pe_int) pe_int) (pe_op op_mul pe_int (pv 2))) pe_int) pe_int) pe_int))
      (pss_one (ps_set (i := 1) sc_l_pool.nd rfl (.inl rfl) (pe_op op_add (pe_op op_mul (pv 1) pe_int) (pe_op op_mod (pe_op op_pow (pe_op op_add (pe_op op_mul (pv 3) pe_int) (pv 2)) pe_int) pe_int))))))
      (pss_one (ps_ret (pe_lst (pa_cons (pv 1) pa_nil))))))), ?_⟩
    refine q_when (b := decide ((10 : Int) ^ (18 : Int).toNat ≤ c)) (et_test (ev_op (ev_var rfl) (ev_op ev_c ev_c (rv_I ⟨by decide, by decide, by decide⟩)) rv_I0)) (fun _ H1 e1 => ?_) (fun _ H1 e1 => ?_)
    · exact s_retL (xs := [.int c]) (el_lst (ea_cons (ev_var rfl) ea_nil) (by simp)) fun p H2 hp e2 h2 => kk p c H2 (fresh_back e1 hp) (e1.trans e2) h2
    refine q_asg (v := .int 0) ev_c fun H2 e2 => ?_
    refine q_forR1 (n := 9) (ea_cons ev_c ea_nil) ⟨by decide, by decide⟩ (fun i σ H' => ∃ (x : Int) (v v2 : Option V), σ = [some (.int c), some (.int x), v, v2] ∧ Ex H H') (fun H3 e3 => ⟨0, none, none, rfl, (e1.trans e2).trans e3⟩) ?_ ?_
    · rintro i σ H3 hi ⟨x, v, v2, rfl, e3⟩
      have hb : ((c % 2147483647) * 69621 + 7919 * (i : Int) + 11).natAbs < 2 ^ 64 := by omega
      refine q_asg (v := .int (((c % 2147483647) * 69621 + 7919 * (i : Int) + 11) ^ (5 : Int).toNat % 2147483647)) (ev_op (ev_op (ev_op (ev_op (ev_op (ev_op (ev_var rfl) ev_c (rv_I (by show (0 : Int) < 2147483647; decide))) ev_c (rv_I (.inr ⟨by decide, by decide⟩))) (ev_op ev_c (ev_var rfl) (rv_I (.inl ⟨by decide, by decide⟩))) rv_I0) ev_c rv_I0) ev_c (rv_I ⟨by decide, by decide, hb⟩)) ev_c (rv_I (by show (0 : Int) < 2147483647; decide))) fun H4 e4 => ?_
      have hm : 0 ≤ ((c % 2147483647) * 69621 + 7919 * (i : Int) + 11) ^ (5 : Int).toNat % 2147483647 ∧ ((c % 2147483647) * 69621 + 7919 * (i : Int) + 11) ^ (5 : Int).toNat % 2147483647 < 2147483647 := ⟨Int.emod_nonneg _ (by decide), Int.emod_lt_of_pos _ (by decide)⟩
      generalize ((c % 2147483647) * 69621 + 7919 * (i : Int) + 11) ^ (5 : Int).toNat % 2147483647 = mx at hm ⊢
      have hb2 : (mx * 48271 + (i : Int)).natAbs < 2 ^ 64 := by omega
      exact s_asg (v := .int (x * 2147483629 + (mx * 48271 + (i : Int)) ^ (5 : Int).toNat % 2147483629)) (ev_op (ev_op (ev_var rfl) ev_c (rv_I (.inr ⟨by decide, by decide⟩))) (ev_op (ev_op (ev_op (ev_op (ev_var rfl) ev_c (rv_I (.inr ⟨by decide, by decide⟩))) (ev_var rfl) rv_I0) ev_c (rv_I ⟨by decide, by decide, hb2⟩)) ev_c (rv_I (by show (0 : Int) < 2147483629; decide))) rv_I0) fun H5 e5 => ⟨_, _, _, rfl, (e3.trans e4).trans e5⟩
    · rintro σ H3 ⟨x, v, v2, rfl, e3⟩
      exact s_retL (xs := [.int x]) (el_lst (ea_cons (ev_var rfl) ea_nil) (by simp)) fun p H4 hp e4 h4 => kk p x H4 (fresh_back e3 hp) (e3.trans e4) h4
theorem ok_l_mark (T : Txt K mg Z) : FnOk P w K mg base CX0 8 Z.a_l_mark Z.d_l_mark ["_law_parts_here"] (spMarkD Z.C_Mark) := by
  refine T.F_l_mark.ok sc_l_mark (fun vs H Q E h => ?_) (fun cdv A outer s H vs Q E hr h => ?_)
  · obtain ⟨_, _, rfl, _⟩ := h; rfl
  · obtain ⟨p, m, rfl, ⟨ma, hp, hma⟩, ok, kk⟩ := h
    refine ⟨_, (pss_one (ps_ret (pe_makeN T.M_Mark (ok_Mark_init T) (hr.mono (by decide)) rfl T.g_Mark T.b_Mark_init_k3_points_makers_year_copy.choose_spec pass0 (pa_cons (pe_ix (ixL K) (pv 0) pe_int (fun _ _ => rfl)) (pa_cons (pe_ix (ixL K) (pv 0) pe_int (fun _ _ => rfl)) pa_nil)) (pk_cons (pe_ix (ixL K) (pv 0) pe_int (fun _ _ => rfl)) (pk_cons (pe_callTy (listK K) (by rfl) T.n_list (by decide +kernel) (pa_cons (pe_ix (ixL K) (pv 0) pe_int (fun _ _ => rfl)) pa_nil)) (pk_cons (pe_ix (ixL K) (pv 0) pe_int (fun _ _ => rfl)) (pk_cons (pe_ix (ixL K) (pv 0) pe_int (fun _ _ => rfl)) pk_nil))))))), ?_⟩
    refine s_retP ?_
    refine ixRow 0 rfl hp (v := .str m.lt) rfl _ (Ex.refl _) _ fun H1 e1 => ?_
    refine ixRow 1 rfl (e1 _ _ hp) (v := .int m.num) rfl _ (Ex.refl _) _ fun H2 e2 => ?_
    have x2 := e1.trans e2
    refine ixRow 2 rfl (x2 _ _ hp) (v := .str m.pts) rfl _ (Ex.refl _) _ fun H3 e3 => ?_
    have x3 := x2.trans e3
    refine ixRow 3 rfl (x3 _ _ hp) (v := .ref ma) rfl _ (Ex.refl _) _ fun H4 e4 => ?_
    have x4 := x3.trans e4
    refine ⟨ma, _, rfl, Or.inl (sq_of (x4 _ _ hma)), fun mb hmb => ?_⟩
    have x5 := x4.trans (Ex.new hmb (o := .lst (m.mks.map V.str)))
    have h5 : upd H4 mb (.lst (m.mks.map V.str)) mb = some (.lst (m.mks.map V.str)) := upd_same
    generalize upd H4 mb (.lst (m.mks.map V.str)) = H5 at x5 h5 ⊢
    refine ixRow 4 rfl (x5 _ _ hp) (v := oi m.yr) rfl _ (Ex.refl _) _ fun H6 e6 => ?_
    have x6 := x5.trans e6
    refine ixRow 5 rfl (x6 _ _ hp) (v := oi m.cp) rfl _ (Ex.refl _) _ fun H7 e7 => ?_
    have x7 := x6.trans e7
    refine ⟨rfl, rfl, fun x dx hx hdx hne => ?_⟩
    have hxd : upd H7 dx (.own x) x = none := by rw [upd_ne hne.symm]; exact hx
    have e8 : Ex H7 (upd (upd H7 dx (.own x)) x (.ins Z.C_Mark dx [])) := (Ex.new hdx).trans (Ex.new hxd)
    refine ⟨H7, x, dx, m, .ref mb, rfl, ok, e8, hx, upd_same, ?_, fun H' e' h' => ⟨rfl, kk x H' (x7.trans e') h'⟩⟩
    exact Or.inr ⟨mb, rfl, .inl (e8 _ _ (e7 _ _ (e6 _ _ h5)))⟩
def spKeyD : Sp := fun vs H Q _ => ∃ p m, vs = [.ref p] ∧ RowAt H p m ∧ ∀ q ma H', Ex H H' → H' q = some (.tup (m.ktup ma)) → H' ma = some (.tup (m.mks.map V.str)) → Q (.ref q) H'
theorem ev_get0 {te : TE} {σ : L2.St} {H : Hp} {y : Option Int} (h : Ev te σ H (oi y)) : Ev (tIf (tTest (tOp (fun x y H Q => y = .non ∧ Q (.bl (decide (x = .non))) H) te (tC .non))) (tC (.int 0)) te) σ H (.int (y.getD 0)) := by
  cases y with
  | none => exact ev_if (b := true) (et_test (ev_op h ev_c fun H1 e Q q => ⟨rfl, q H1 (Ex.refl _)⟩)) (fun _ => ev_c) (fun h => nomatch h)
  | some i => exact ev_if (b := false) (et_test (ev_op h ev_c fun H1 e Q q => ⟨rfl, q H1 (Ex.refl _)⟩)) (fun h => nomatch h) (fun _ => h)
theorem ok_l_key (T : Txt K mg Z) : FnOk P w K mg base CX0 1 Z.a_l_key Z.d_l_key ["_law_parts_here"] spKeyD := by
  refine T.F_l_key.ok sc_l_key (fun vs H Q E h => ?_) (fun cdv A outer s H vs Q E hr h => ?_)
  · obtain ⟨_, _, rfl, _⟩ := h; rfl
  · obtain ⟨p, m, rfl, ⟨ma, hp, hma⟩, kk⟩ := h
    refine ⟨_, (pss_cons (ps_set (i := 1) sc_l_key.nd rfl (.inl rfl) (pe_ifExp (pt_cmpR op_isNq (pe_ix (ixL K) (pv 0) pe_int (fun _ _ => rfl)) pe_non (nomark _)) pe_int (pe_ix (ixL K) (pv 0) pe_int (fun _ _ => rfl))))
      (pss_cons (ps_set (i := 2) sc_l_key.nd rfl (.inl rfl) (pe_ifExp (pt_cmpR op_isNq (pe_ix (ixL K) (pv 0) pe_int (fun _ _ => rfl)) pe_non (nomark _)) pe_int (pe_ix (ixL K) (pv 0) pe_int (fun _ _ => rfl))))
      (pss_one (ps_ret (pe_tup (pa_cons (pe_ix (ixL K) (pv 0) pe_int (fun _ _ => rfl)) (pa_cons (pe_ix (ixL K) (pv 0) pe_int (fun _ _ => rfl)) (pa_cons (pe_ix (ixL K) (pv 0) pe_int (fun _ _ => rfl)) (pa_cons (pe_callTy (tupK K) (by rfl) T.n_tuple (by decide +kernel) (pa_cons (pe_ix (ixL K) (pv 0) pe_int (fun _ _ => rfl)) pa_nil)) (pa_cons (pv 1) (pa_cons (pv 2) pa_nil))))))))))), ?_⟩
    refine q_asg (v := .int (m.yr.getD 0)) (ev_get0 (ixRow 4 rfl hp rfl)) fun H1 e1 => ?_
    refine q_asg (v := .int (m.cp.getD 0)) (ev_get0 (ixRow 5 rfl (e1 _ _ hp) rfl)) fun H2 e2 => ?_
    have x2 := e1.trans e2
    refine s_retP ?_
    refine ixRow 0 rfl (x2 _ _ hp) (v := .str m.lt) rfl _ (Ex.refl _) _ fun H3 e3 => ?_
    have x3 := x2.trans e3
    refine ixRow 1 rfl (x3 _ _ hp) (v := .int m.num) rfl _ (Ex.refl _) _ fun H4 e4 => ?_
    have x4 := x3.trans e4
    refine ixRow 2 rfl (x4 _ _ hp) (v := .str m.pts) rfl _ (Ex.refl _) _ fun H5 e5 => ?_
    have x5 := x4.trans e5
    refine ixRow 3 rfl (x5 _ _ hp) (v := .ref ma) rfl _ (Ex.refl _) _ fun H6 e6 => ?_
    have x6 := x5.trans e6
    refine ⟨ma, m.mks.map V.str, rfl, Or.inl ⟨sq_of (x6 _ _ hma), fun mb hmb => ⟨_, rfl, _, rfl, sz_of (by simp), fun q hq => ?_⟩⟩⟩
    have x7 := x6.trans (Ex.new hmb (o := .tup (m.mks.map V.str)))
    refine kk q mb _ (x7.trans (Ex.new hq)) upd_same ?_
    rw [upd_ne (ne_of_none upd_same hq)]
    exact upd_same
theorem kshaped_ok {m : MK} (ok : m.Ok) : SeqAt.shaped m.kdata = true := by
  unfold SeqAt.shaped
  rw [Bool.and_eq_true]
  refine ⟨?_, decide_eq_true ?_⟩
  · unfold MK.kdata
    have h1 := strOk_of (letters_in ok.l) abc_ok
    have h2 := points_str ok.p
    have h3 := lay_strs m.mks fun s hs => maker_str (ok.ks s hs).1
    simp only [PyData.canLay0, PyData.canLayAll0, h1, h2, h3, Bool.true_and]
  · exact Nat.le_trans (kdepth m) (by decide)
def spOrderD : Sp := fun vs H Q _ => ∃ p q m n, vs = [.ref p, .ref q] ∧ RowAt H p m ∧ RowAt H q n ∧ m.Ok ∧ n.Ok ∧ RetV (.int (ordI m n)) H Q
theorem ok_l_order (T : Txt K mg Z) : FnOk P w K mg base CX0 2 Z.a_l_order Z.d_l_order ["_law_fore", "_law_mate"] spOrderD := by
  refine T.F_l_order.ok sc_l_order (fun vs H Q E h => ?_) (fun cdv A outer s H vs Q E hr h => ?_)
  · obtain ⟨_, _, _, _, rfl, _⟩ := h; rfl
  · obtain ⟨p, q, m, n, rfl, hm, hn, okm, okn, k⟩ := h
    refine ⟨_, (pss_cons (ps_if (pt_cmpR (eqDK K hr.units) (pe_call (ok_l_key T) (hr.mono (by decide)) rfl T.g_l_key T.F_l_key.kp T.b_l_key .nil pass0 (pa_cons (pv 0) pa_nil)) (pe_call (ok_l_key T) (hr.mono (by decide)) rfl T.g_l_key T.F_l_key.kp T.b_l_key .nil pass0 (pa_cons (pv 1) pa_nil)) (nomark _)) (pss_one (ps_ret pe_int)) pss_nil)
      (pss_one (ps_ret (pe_ifExp (pt_cmpR (op_ltD K hr.units) (pe_call (ok_l_key T) (hr.mono (by decide)) rfl T.g_l_key T.F_l_key.kp T.b_l_key .nil pass0 (pa_cons (pv 0) pa_nil)) (pe_call (ok_l_key T) (hr.mono (by decide)) rfl T.g_l_key T.F_l_key.kp T.b_l_key .nil pass0 (pa_cons (pv 1) pa_nil)) (nomark _)) (pe_un un_neg pe_int) pe_int)))), ?_⟩
    refine ⟨_, rfl, p, m, rfl, hm, fun a ma H1 e1 h1 h2 => ⟨_, rfl, q, n, rfl, hn.ex e1, fun c mc H2 e2 g1 g2 => ⟨m.kdata, n.kdata, dp_kdata (e2 _ _ h1) (e2 _ _ h2), dp_kdata g1 g2, kshaped_ok okm, kshaped_ok okn, _, rfl, ?_⟩⟩⟩
    rw [eqv_k]
    have x2 := e1.trans e2
    cases he : kE m n with
    | true =>
      have : ordI m n = 0 := by unfold ordI; rw [if_pos he]
      rw [this] at k
      exact s_ret (v := .int 0) ev_c fun H3 e3 => k H3 (x2.trans e3)
    | false =>
      have e0 : ordI m n = if PySem.W.dataLt m.kdata n.kdata = true then -1 else 1 := by unfold ordI; rw [he, if_neg Bool.false_ne_true]
      refine iteF ?_
      unfold tNext
      dsimp only
      refine s_retP ?_
      refine ⟨_, rfl, p, m, rfl, hm.ex x2, fun a ma H3 e3 h1 h2 => ⟨_, rfl, q, n, rfl, hn.ex (x2.trans e3), fun c mc H4 e4 g1 g2 => ⟨m.kdata, n.kdata, dp_kdata (e4 _ _ h1) (e4 _ _ h2), dp_kdata g1 g2, kalike m n, (fun z => by unfold MK.kdata at z; cases z), kdepth m, _, rfl, ?_⟩⟩⟩
      cases hl : PySem.W.dataLt m.kdata n.kdata with
      | true =>
        rw [hl, if_pos rfl] at e0
        rw [e0] at k
        exact ⟨1, rfl, k H4 ((x2.trans e3).trans e4)⟩
      | false =>
        rw [hl, if_neg Bool.false_ne_true] at e0
        rw [e0] at k
        exact k H4 ((x2.trans e3).trans e4)
def spWholeD : Sp := fun vs H Q _ => ∃ i : Int, vs = [.int i] ∧ RetV (.bl true) H Q
theorem ok_l_whole (T : Txt K mg Z) : FnOk P w K mg base CX0 1 Z.a_l_whole Z.d_l_whole ["_law_found"] spWholeD := by
  refine T.F_l_whole.ok sc_l_whole (fun vs H Q E h => ?_) (fun cdv A outer s H vs Q E hr h => ?_)
  · obtain ⟨_, rfl, _⟩ := h; rfl
  · obtain ⟨i, rfl, k⟩ := h
    refine ⟨_, (pss_one (ps_ret (pe_and (pe_callB (isiK K) (by rfl) T.n_isinstance (by decide +kernel) (pa_cons (pv 0) (pa_cons (pe_bltn (v := .ty "int") (by rfl) T.n_int (by decide +kernel) rfl) pa_nil))) (pe_one (pe_not (pe_callB (isiK K) (by rfl) T.n_isinstance (by decide +kernel) (pa_cons (pv 0) (pa_cons (pe_bltn (v := .ty "bool") (by rfl) T.n_bool (by decide +kernel) rfl) pa_nil)))))))), ?_⟩
    exact s_ret (v := .bl true) (ev_andV (a := true) (b := true) (ev_isi (ev_var rfl) ev_c (.ty _) (fun _ _ => .base (.int i)) (kit_ty (r := true) (by decide +kernel))) (fun _ => ev_notV (a := false) (ev_isi (ev_var rfl) ev_c (.ty _) (fun _ _ => .base (.int i)) (kit_ty (r := false) (by decide +kernel))))) k
end

/-! ### both ways round, the law -/
def spBoth : Sp := fun vs H Q _ => ∃ p q m n, vs = [.ref p, .ref q] ∧ RowAt H p m ∧ RowAt H q n ∧ m.Ok ∧ n.Ok ∧ RetV (.bl true) H Q
section
variable {P : Program} {w : World} {K : PySem.W.Frag} {mg : Str → Option Value} {base : Heap} {Z : Adr}
theorem ok_l_both_ways (T : Txt K mg Z) : FnOk P w K mg base CX0 9 Z.a_l_both_ways Z.d_l_both_ways ["_law_fore", "_law_mate"] spBoth := by
  refine T.F_l_both_ways.ok sc_l_both_ways (fun vs H Q E h => ?_) (fun cdv A outer s H vs Q E hr h => ?_)
  · obtain ⟨_, _, _, _, rfl, _⟩ := h; rfl
  · obtain ⟨p, q, m, n, rfl, hm, hn, okm, okn, k⟩ := h
    refine ⟨_, (pss_cons (ps_set (i := 2) sc_l_both_ways.nd rfl (.inl rfl) (pe_call (ok_l_order T) (hr.mono (by decide)) rfl T.g_l_order T.F_l_order.kp T.b_l_order .nil pass0 (pa_cons (pv 0) (pa_cons (pv 1) pa_nil))))
      (pss_cons (ps_set (i := 3) sc_l_both_ways.nd rfl (.inl rfl) (pe_call (ok_order T) (hr.mono (by decide)) rfl T.g_order T.F_order.kp T.b_order .nil pass0 (pa_cons (pe_call (ok_l_mark T) (hr.mono (by decide)) rfl T.g_l_mark T.F_l_mark.kp T.b_l_mark .nil pass0 (pa_cons (pv 0) pa_nil)) (pa_cons (pe_call (ok_l_mark T) (hr.mono (by decide)) rfl T.g_l_mark T.F_l_mark.kp T.b_l_mark .nil pass0 (pa_cons (pv 1) pa_nil)) pa_nil))))
      (pss_cons (ps_set (i := 4) sc_l_both_ways.nd rfl (.inl rfl) (pe_call (ok_order T) (hr.mono (by decide)) rfl T.g_order T.F_order.kp T.b_order .nil pass0 (pa_cons (pe_call (ok_l_mark T) (hr.mono (by decide)) rfl T.g_l_mark T.F_l_mark.kp T.b_l_mark .nil pass0 (pa_cons (pv 1) pa_nil)) (pa_cons (pe_call (ok_l_mark T) (hr.mono (by decide)) rfl T.g_l_mark T.F_l_mark.kp T.b_l_mark .nil pass0 (pa_cons (pv 0) pa_nil)) pa_nil))))
      (pss_one (ps_ret (pe_and (pe_call (ok_l_whole T) (hr.mono (by decide)) rfl T.g_l_whole T.F_l_whole.kp T.b_l_whole .nil pass0 (pa_cons (pv 3) pa_nil)) (pe_and (pe_call (ok_l_whole T) (hr.mono (by decide)) rfl T.g_l_whole T.F_l_whole.kp T.b_l_whole .nil pass0 (pa_cons (pv 4) pa_nil)) (pe_and (pe_cmpR op_eq (pv 3) (pv 2) (nomark _)) (pe_one (pe_cmpR op_eq (pv 4) (pe_un un_neg (pv 2)) (nomark _))))))))))), ?_⟩
    refine q_asgP ?_
    refine ⟨_, rfl, _, rfl, p, q, m, n, rfl, hm, hn, okm, okn, fun H1 e1 => ?_⟩
    refine q_asgP ?_
    refine ⟨_, rfl, p, m, rfl, hm.ex e1, okm, fun x H2 e2 hx => ⟨_, rfl, q, n, rfl, hn.ex (e1.trans e2), okn, fun y H3 e3 hy => ⟨x, y, m, n, rfl, hx.ex e3, hy, okm, okn, fun H4 e4 => ?_⟩⟩⟩
    have x4 := ((e1.trans e2).trans e3).trans e4
    refine q_asgP ?_
    refine ⟨_, rfl, q, n, rfl, hn.ex x4, okn, fun x H5 e5 hx => ⟨_, rfl, p, m, rfl, hm.ex (x4.trans e5), okm, fun y H6 e6 hy => ⟨x, y, n, m, rfl, hx.ex e6, hy, okn, okm, fun H7 e7 => ?_⟩⟩⟩
    have x7 := ((x4.trans e5).trans e6).trans e7
    have wh : ∀ {i : Int} {H'}, SpV spWholeD [.int i] H' (.bl true) := fun {i H'} H1 e Q q E => ⟨i, rfl, q⟩
    refine s_ret (v := .bl true) (ev_andV (a := true) (b := true) (ev_call (ea_cons (ev_var rfl) ea_nil) wh) fun _ => ev_andV (a := true) (b := true) (ev_call (ea_cons (ev_var rfl) ea_nil) wh) fun _ => ev_andV (a := true) (b := true) (ev_is (ev_op (ev_var rfl) (ev_var rfl) (rv_eq rfl)) (by rw [decide_eq_true rfl])) fun _ =>
      ev_is (ev_op (y := .int (-ordI m n)) (ev_var rfl) (ev_un (ev_var rfl) ru_neg) (rv_eq rfl)) (by rw [ordI_flip m n, decide_eq_true rfl])) fun H8 e8 => k H8 (x7.trans e8)
def mk0 : MK := ⟨"a", 1, "", [], none, none⟩
theorem mk0_ok : mk0.Ok := ⟨by decide +kernel, ⟨by decide, by decide⟩, by decide +kernel, by decide +kernel, by decide, (fun s hs => by cases hs), (fun y h => by cases h), (fun y h => by cases h)⟩
theorem row0 {σ : L2.St} {H : Hp} {Q : VK} (k : ∀ p H', Ex H H' → RowAt H' p mk0 → Q (.ref p) H') :
    tLst (tCons (tC (.str "a")) (tCons (tC (.int 1)) (tCons (tC (.str "")) (tCons (tLst tNil) (tCons (tC .non) (tCons (tC .non) tNil)))))) σ H Q :=
  ⟨sz_of (by simp), fun a ha => ⟨sz_of (by simp), fun p hp => k p _ ((Ex.new ha).trans (Ex.new hp)) ⟨a, upd_same, by rw [upd_ne (ne_of_none upd_same hp)]; exact upd_same⟩⟩⟩
def spLaw (K : PySem.W.Frag) : Sp := fun vs H Q _ => ∃ (a : Addr) (ns : List Int), vs = [.ref a] ∧ SqL K H a (ns.map V.int) ∧ ns.length ≤ 63 ∧ ∀ H', Q (.bl true) H'
theorem ok_law (T : Txt K mg Z) : FnOk P w K mg base CX0 10 Z.a_law Z.d_law ["_law_script"] (spLaw K) := by
  refine T.F_law.ok sc_law (fun vs H Q E h => ?_) (fun cdv A outer' s H vs Q E hr h => ?_)
  · obtain ⟨a, ns, rfl, _⟩ := h; rfl
  · obtain ⟨a, ns, rfl, hS, hlen, k⟩ := h
    refine ⟨_, (pss_cons (ps_set (i := 1) sc_law.nd rfl (.inl rfl) (pe_lst (pa_cons pe_str (pa_cons pe_int (pa_cons pe_str (pa_cons (pe_lst pa_nil) (pa_cons pe_non (pa_cons pe_non pa_nil))))))))
      (pss_cons (ps_for PassesOwn.never rfl (pi_list (pe_op op_cat (pe_slice (slL K) (pv 0) po_none (po_some pe_int)) (pe_lst (pa_cons pe_int pa_nil)))) (pg_name (i := 2) sc_law.nd rfl (.inl rfl)) (pss_cons (ps_set (i := 3) sc_law.nd rfl (.inl rfl) (pe_call (ok_l_pool T) (hr.mono (by decide)) rfl T.g_l_pool T.F_l_pool.kp T.b_l_pool .nil pass0 (pa_cons (pv 2) pa_nil)))
      (pss_cons (ps_set (i := 4) sc_law.nd rfl (.inl rfl) (pe_call (ok_l_take T) (hr.mono (by decide)) rfl T.g_l_take T.F_l_take.kp T.b_l_take .nil pass0 (pa_cons (pv 3) (pa_cons pe_int pa_nil))))
      (pss_cons (ps_set (i := 5) sc_law.nd rfl (.inl rfl) (pe_call (ok_l_parts T) (hr.mono (by decide)) rfl T.g_l_parts T.F_l_parts.kp T.b_l_parts .nil pass0 (pa_cons (pv 3) pa_nil)))
      (pss_cons (ps_set (i := 6) sc_law.nd rfl (.inl rfl) (pe_call (ok_l_near T) (hr.mono (by decide)) rfl T.g_l_near T.F_l_near.kp T.b_l_near .nil pass0 (pa_cons (pv 5) (pa_cons (pv 4) (pa_cons (pv 3) pa_nil)))))
      (pss_cons (ps_for PassesOwn.never rfl (pi_list (pe_lst (pa_cons (pv 6) (pa_cons (pv 1) (pa_cons (pv 5) (pa_cons (pe_lst (pa_cons pe_str (pa_cons pe_int (pa_cons pe_str (pa_cons (pe_lst pa_nil) (pa_cons pe_non (pa_cons pe_non pa_nil))))))) pa_nil)))))) (pg_name (i := 7) sc_law.nd rfl (.inl rfl)) (pss_one (ps_if (pt_not (pt_val (pe_call (ok_l_both_ways T) (hr.mono (by decide)) rfl T.g_l_both_ways T.F_l_both_ways.kp T.b_l_both_ways .nil pass0 (pa_cons (pv 5) (pa_cons (pv 7) pa_nil))))) (pss_one (ps_ret pe_bl)) pss_nil)))
      (pss_one (ps_set (i := 1) sc_law.nd rfl (.inl rfl) (pv 6)))))))))
      (pss_one (ps_ret pe_bl)))), ?_⟩
    refine q_asgP (row0 fun p0 H1 e1 h1 => ?_)
    have hx : cutV (ii ns) none (some 63) ++ [V.int 7] = ii (ns.take 63 ++ [7]) := by
      rw [show (some (63 : Int)) = some ((63 : Nat) : Int) from rfl, cut_take]
      show _ = List.map V.int _
      rw [List.map_append, List.map_take]
      rfl
    refine q_forNLn (xs := ii (ns.take 63 ++ [7])) (fun H2 e2 Q' q' => el_cat (xs := cutV (ii ns) none (some 63)) (ys := [.int 7]) (el_sl (ev_var rfl) eo_none (eo_some ev_c) (ex_l e1 hS)) (fun H3 e3 => el_lst (ea_cons ev_c ea_nil) (by simp)) (by rw [← List.length_append, hx, ii_len, List.length_append, List.length_take]; simp; omega) H2 e2 Q' (by rw [hx]; exact q'))
      (fun q i σ H' => ∃ (e : Addr) (m : MK) (s2 s3 s4 s5 s6 s7 : Option V), σ = [some (.ref a), some (.ref e), s2, s3, s4, s5, s6, s7] ∧ RowAt H' e m ∧ m.Ok ∧ H' q = some (.lst (ii (ns.take 63 ++ [7])))) (fun q H2 hq e2 h2 => ⟨p0, mk0, none, none, none, none, none, none, rfl, h1.ex e2, mk0_ok, h2⟩) (fun q i σ H' _ ⟨_, _, _, _, _, _, _, _, _, _, _, h⟩ => sq_of h) ?_ ?_
    · rintro q i x σ H2 hi ⟨el, me, s2, s3, s4, s5, s6, s7, rfl, hel, oke, hq⟩
      obtain ⟨c, _, rfl⟩ := ii_of hi
      refine q_asgP ?_
      refine ⟨_, rfl, c, rfl, fun b n H3 hb e3 h3 => ?_⟩
      have sb := sb_of ⟨_, rfl⟩ hb e3 h3
      refine q_asgP (tk (n := 6) rfl (by decide) (by decide +kernel) sb fun r H4 g1 g2 sb => ?_)
      obtain ⟨kat, rfl⟩ : ∃ k : Nat, r = (k : Int) := ⟨r.toNat, by omega⟩
      refine q_asgP ?_
      refine ⟨_, rfl, b, H2, [], rfl, sb, fun p m kb1 H5 e5 hp okp _ sb => ?_⟩
      refine q_asgP ?_
      refine ⟨_, rfl, _, rfl, _, rfl, p, kat, b, m, kb1, [], rfl, by omega, hp, okp, sb, fun u mu kb2 H6 e6 hu oku sb => ?_⟩
      have k6 := sb.e
      have hp6 := (hp.ex e6).ex k6
      have hu6 := hu.ex k6
      have hel6 := ((hel.ex e5).ex e6).ex k6
      have hq6 := k6 _ _ (e6 _ _ (e5 _ _ hq))
      refine ⟨_, rfl, _, rfl, _, rfl, row0 fun w0 H7 e7 h7 => ⟨sz_of (by simp), fun l hl => ?_⟩⟩
      have e8 : Ex H7 (upd H7 l (.lst [.ref u, .ref el, .ref p, .ref w0])) := Ex.new hl
      have h8 : upd H7 l (.lst [.ref u, .ref el, .ref p, .ref w0]) l = some (.lst [.ref u, .ref el, .ref p, .ref w0]) := upd_same
      generalize upd H7 l (.lst [.ref u, .ref el, .ref p, .ref w0]) = H8 at e8 h8 ⊢
      have x8 := e7.trans e8
      refine ⟨l, rfl, ⟨_, sq_of h8⟩, for_list (K := K) (a := l) (xs := [.ref u, .ref el, .ref p, .ref w0]) (fun i σ H' => ∃ s7, σ = [some (.ref a), some (.ref el), some (.int c), some (.ref b), some (.int (kat : Int)), some (.ref p), some (.ref u), s7] ∧ Ex H8 H') ⟨_, rfl, Ex.refl _⟩ (fun i σ H' _ ⟨_, _, h⟩ => sq_of (h _ _ h8)) ?_ ?_⟩
      · rintro j z σ H9 hj ⟨s7, rfl, e9⟩
        have hz : ∃ z0 mz, z = .ref z0 ∧ RowAt H9 z0 mz ∧ mz.Ok := by
          have x9 := x8.trans e9
          match j, hj with
          | 0, hj => exact ⟨u, mu, (Option.some.inj hj).symm, hu6.ex x9, oku⟩
          | 1, hj => exact ⟨el, me, (Option.some.inj hj).symm, hel6.ex x9, oke⟩
          | 2, hj => exact ⟨p, m, (Option.some.inj hj).symm, hp6.ex x9, okp⟩
          | 3, hj => exact ⟨w0, mk0, (Option.some.inj hj).symm, (h7.ex e8).ex e9, mk0_ok⟩
          | n + 4, hj => simp at hj
        obtain ⟨z0, mz, rfl, hz, okz⟩ := hz
        refine s_when (b := false) (et_not (a := true) (et_B (ev_call (ea_cons (ev_var rfl) (ea_cons (ev_var rfl) ea_nil)) fun H10 e10 Q' q' E' => ⟨p, z0, m, mz, rfl, (hp6.ex (x8.trans e9)).ex e10, hz.ex e10, okp, okz, q'⟩))) (fun h => nomatch h) fun _ H10 e10 => ⟨_, rfl, e9.trans e10⟩
      · rintro σ H9 ⟨s7, rfl, e9⟩
        dsimp only
        refine s_asg (v := .ref u) (ev_var rfl) fun H10 e10 => ?_
        exact ⟨u, mu, _, _, _, _, _, _, rfl, hu6.ex ((x8.trans e9).trans e10), oku, e10 _ _ (e9 _ _ (x8 _ _ hq6))⟩
    · rintro q σ H2 ⟨el, me, s2, s3, s4, s5, s6, s7, rfl, hel, oke, hq⟩
      exact s_ret ev_c fun H3 e3 => k H3
end

/-! ### what the top has written, the head -/
theorem all_mk {l : PySem.W.OpenLaw} {w : World} {K : PySem.W.Frag} {h : Heap} {mg : Str → Option Value} {fa : Addr} (X : K.In h) (G : h.Ns mainGlobals mg) (hfa : mg "law" = some (.ref fa))
    {C_Mark : Addr}
    {f_order : Addr} {od_order an_order : Option Addr} {sl_order : Array (Option Value)} {oc_order kV_order dc_order pm_order cd_order ct_order : Value}
    {f_is_number : Addr} {od_is_number an_is_number : Option Addr} {sl_is_number : Array (Option Value)} {oc_is_number kV_is_number dc_is_number pm_is_number cd_is_number ct_is_number : Value}
    {f_is_whole : Addr} {od_is_whole an_is_whole : Option Addr} {sl_is_whole : Array (Option Value)} {oc_is_whole kV_is_whole dc_is_whole pm_is_whole cd_is_whole ct_is_whole : Value}
    {dT_is_whole : Addr} {do_is_whole : Obj} {dn_is_whole : Nat} {dus_is_whole : List Value}
    {f_is_figures : Addr} {od_is_figures an_is_figures : Option Addr} {sl_is_figures : Array (Option Value)} {oc_is_figures kV_is_figures dc_is_figures pm_is_figures cd_is_figures ct_is_figures : Value}
    {f_is_letters : Addr} {od_is_letters an_is_letters : Option Addr} {sl_is_letters : Array (Option Value)} {oc_is_letters kV_is_letters dc_is_letters pm_is_letters cd_is_letters ct_is_letters : Value}
    {f_is_points : Addr} {od_is_points an_is_points : Option Addr} {sl_is_points : Array (Option Value)} {oc_is_points kV_is_points dc_is_points pm_is_points cd_is_points ct_is_points : Value}
    {f_is_maker : Addr} {od_is_maker an_is_maker : Option Addr} {sl_is_maker : Array (Option Value)} {oc_is_maker kV_is_maker dc_is_maker pm_is_maker cd_is_maker ct_is_maker : Value}
    {f_is_ended : Addr} {od_is_ended an_is_ended : Option Addr} {sl_is_ended : Array (Option Value)} {oc_is_ended kV_is_ended dc_is_ended pm_is_ended cd_is_ended ct_is_ended : Value}
    {f_Mark_init : Addr} {od_Mark_init an_Mark_init : Option Addr} {sl_Mark_init : Array (Option Value)} {oc_Mark_init kV_Mark_init dc_Mark_init pm_Mark_init cd_Mark_init ct_Mark_init : Value}
    {dT_Mark_init : Addr} {do_Mark_init : Obj} {dn_Mark_init : Nat} {dus_Mark_init : List Value}
    {f_Mark_eq : Addr} {od_Mark_eq an_Mark_eq : Option Addr} {sl_Mark_eq : Array (Option Value)} {oc_Mark_eq kV_Mark_eq dc_Mark_eq pm_Mark_eq cd_Mark_eq ct_Mark_eq : Value}
    {f_Mark_str : Addr} {od_Mark_str an_Mark_str : Option Addr} {sl_Mark_str : Array (Option Value)} {oc_Mark_str kV_Mark_str dc_Mark_str pm_Mark_str cd_Mark_str ct_Mark_str : Value}
    {f_Mark_repr : Addr} {od_Mark_repr an_Mark_repr : Option Addr} {sl_Mark_repr : Array (Option Value)} {oc_Mark_repr kV_Mark_repr dc_Mark_repr pm_Mark_repr cd_Mark_repr ct_Mark_repr : Value}
    {f_Mark_len : Addr} {od_Mark_len an_Mark_len : Option Addr} {sl_Mark_len : Array (Option Value)} {oc_Mark_len kV_Mark_len dc_Mark_len pm_Mark_len cd_Mark_len ct_Mark_len : Value}
    {f_Mark_letters : Addr} {od_Mark_letters an_Mark_letters : Option Addr} {sl_Mark_letters : Array (Option Value)} {oc_Mark_letters kV_Mark_letters dc_Mark_letters pm_Mark_letters cd_Mark_letters ct_Mark_letters : Value}
    {f_Mark_number : Addr} {od_Mark_number an_Mark_number : Option Addr} {sl_Mark_number : Array (Option Value)} {oc_Mark_number kV_Mark_number dc_Mark_number pm_Mark_number cd_Mark_number ct_Mark_number : Value}
    {f_Mark_points : Addr} {od_Mark_points an_Mark_points : Option Addr} {sl_Mark_points : Array (Option Value)} {oc_Mark_points kV_Mark_points dc_Mark_points pm_Mark_points cd_Mark_points ct_Mark_points : Value}
    {f_Mark_makers : Addr} {od_Mark_makers an_Mark_makers : Option Addr} {sl_Mark_makers : Array (Option Value)} {oc_Mark_makers kV_Mark_makers dc_Mark_makers pm_Mark_makers cd_Mark_makers ct_Mark_makers : Value}
    {f_Mark_year : Addr} {od_Mark_year an_Mark_year : Option Addr} {sl_Mark_year : Array (Option Value)} {oc_Mark_year kV_Mark_year dc_Mark_year pm_Mark_year cd_Mark_year ct_Mark_year : Value}
    {f_Mark_copy_number : Addr} {od_Mark_copy_number an_Mark_copy_number : Option Addr} {sl_Mark_copy_number : Array (Option Value)} {oc_Mark_copy_number kV_Mark_copy_number dc_Mark_copy_number pm_Mark_copy_number cd_Mark_copy_number ct_Mark_copy_number : Value}
    {f_Mark_parts : Addr} {od_Mark_parts an_Mark_parts : Option Addr} {sl_Mark_parts : Array (Option Value)} {oc_Mark_parts kV_Mark_parts dc_Mark_parts pm_Mark_parts cd_Mark_parts ct_Mark_parts : Value}
    {f_Mark_key : Addr} {od_Mark_key an_Mark_key : Option Addr} {sl_Mark_key : Array (Option Value)} {oc_Mark_key kV_Mark_key dc_Mark_key pm_Mark_key cd_Mark_key ct_Mark_key : Value}
    {f_Mark_ahead : Addr} {od_Mark_ahead an_Mark_ahead : Option Addr} {sl_Mark_ahead : Array (Option Value)} {oc_Mark_ahead kV_Mark_ahead dc_Mark_ahead pm_Mark_ahead cd_Mark_ahead ct_Mark_ahead : Value}
    {f_Mark_head : Addr} {od_Mark_head an_Mark_head : Option Addr} {sl_Mark_head : Array (Option Value)} {oc_Mark_head kV_Mark_head dc_Mark_head pm_Mark_head cd_Mark_head ct_Mark_head : Value}
    {f_Mark_book : Addr} {od_Mark_book an_Mark_book : Option Addr} {sl_Mark_book : Array (Option Value)} {oc_Mark_book kV_Mark_book dc_Mark_book pm_Mark_book cd_Mark_book ct_Mark_book : Value}
    {f_Mark_with_year : Addr} {od_Mark_with_year an_Mark_with_year : Option Addr} {sl_Mark_with_year : Array (Option Value)} {oc_Mark_with_year kV_Mark_with_year dc_Mark_with_year pm_Mark_with_year cd_Mark_with_year ct_Mark_with_year : Value}
    {dT_Mark_with_year : Addr} {do_Mark_with_year : Obj} {dn_Mark_with_year : Nat} {dus_Mark_with_year : List Value}
    {f_Mark_with_copy : Addr} {od_Mark_with_copy an_Mark_with_copy : Option Addr} {sl_Mark_with_copy : Array (Option Value)} {oc_Mark_with_copy kV_Mark_with_copy dc_Mark_with_copy pm_Mark_with_copy cd_Mark_with_copy ct_Mark_with_copy : Value}
    {dT_Mark_with_copy : Addr} {do_Mark_with_copy : Obj} {dn_Mark_with_copy : Nat} {dus_Mark_with_copy : List Value}
    {f_Mark_same_book : Addr} {od_Mark_same_book an_Mark_same_book : Option Addr} {sl_Mark_same_book : Array (Option Value)} {oc_Mark_same_book kV_Mark_same_book dc_Mark_same_book pm_Mark_same_book cd_Mark_same_book ct_Mark_same_book : Value}
    {f_kept_makers : Addr} {od_kept_makers an_kept_makers : Option Addr} {sl_kept_makers : Array (Option Value)} {oc_kept_makers kV_kept_makers dc_kept_makers pm_kept_makers cd_kept_makers ct_kept_makers : Value}
    {f_text_of : Addr} {od_text_of an_text_of : Option Addr} {sl_text_of : Array (Option Value)} {oc_text_of kV_text_of dc_text_of pm_text_of cd_text_of ct_text_of : Value}
    {f_l_pool : Addr} {od_l_pool an_l_pool : Option Addr} {sl_l_pool : Array (Option Value)} {oc_l_pool kV_l_pool dc_l_pool pm_l_pool cd_l_pool ct_l_pool : Value}
    {f_l_take : Addr} {od_l_take an_l_take : Option Addr} {sl_l_take : Array (Option Value)} {oc_l_take kV_l_take dc_l_take pm_l_take cd_l_take ct_l_take : Value}
    {f_l_figures : Addr} {od_l_figures an_l_figures : Option Addr} {sl_l_figures : Array (Option Value)} {oc_l_figures kV_l_figures dc_l_figures pm_l_figures cd_l_figures ct_l_figures : Value}
    {f_l_maker : Addr} {od_l_maker an_l_maker : Option Addr} {sl_l_maker : Array (Option Value)} {oc_l_maker kV_l_maker dc_l_maker pm_l_maker cd_l_maker ct_l_maker : Value}
    {f_l_parts : Addr} {od_l_parts an_l_parts : Option Addr} {sl_l_parts : Array (Option Value)} {oc_l_parts kV_l_parts dc_l_parts pm_l_parts cd_l_parts ct_l_parts : Value}
    {f_l_near_word : Addr} {od_l_near_word an_l_near_word : Option Addr} {sl_l_near_word : Array (Option Value)} {oc_l_near_word kV_l_near_word dc_l_near_word pm_l_near_word cd_l_near_word ct_l_near_word : Value}
    {f_l_near_makers : Addr} {od_l_near_makers an_l_near_makers : Option Addr} {sl_l_near_makers : Array (Option Value)} {oc_l_near_makers kV_l_near_makers dc_l_near_makers pm_l_near_makers cd_l_near_makers ct_l_near_makers : Value}
    {f_l_near_year : Addr} {od_l_near_year an_l_near_year : Option Addr} {sl_l_near_year : Array (Option Value)} {oc_l_near_year kV_l_near_year dc_l_near_year pm_l_near_year cd_l_near_year ct_l_near_year : Value}
    {f_l_near_copy : Addr} {od_l_near_copy an_l_near_copy : Option Addr} {sl_l_near_copy : Array (Option Value)} {oc_l_near_copy kV_l_near_copy dc_l_near_copy pm_l_near_copy cd_l_near_copy ct_l_near_copy : Value}
    {f_l_near : Addr} {od_l_near an_l_near : Option Addr} {sl_l_near : Array (Option Value)} {oc_l_near kV_l_near dc_l_near pm_l_near cd_l_near ct_l_near : Value}
    {f_l_mark : Addr} {od_l_mark an_l_mark : Option Addr} {sl_l_mark : Array (Option Value)} {oc_l_mark kV_l_mark dc_l_mark pm_l_mark cd_l_mark ct_l_mark : Value}
    {f_l_key : Addr} {od_l_key an_l_key : Option Addr} {sl_l_key : Array (Option Value)} {oc_l_key kV_l_key dc_l_key pm_l_key cd_l_key ct_l_key : Value}
    {f_l_order : Addr} {od_l_order an_l_order : Option Addr} {sl_l_order : Array (Option Value)} {oc_l_order kV_l_order dc_l_order pm_l_order cd_l_order ct_l_order : Value}
    {f_l_whole : Addr} {od_l_whole an_l_whole : Option Addr} {sl_l_whole : Array (Option Value)} {oc_l_whole kV_l_whole dc_l_whole pm_l_whole cd_l_whole ct_l_whole : Value}
    {f_l_both_ways : Addr} {od_l_both_ways an_l_both_ways : Option Addr} {sl_l_both_ways : Array (Option Value)} {oc_l_both_ways kV_l_both_ways dc_l_both_ways pm_l_both_ways cd_l_both_ways ct_l_both_ways : Value}
    {f_law : Addr} {od_law an_law : Option Addr} {sl_law : Array (Option Value)} {oc_law kV_law dc_law pm_law cd_law ct_law : Value}
    {tk_SMALL : Tok}
    (aC_Mark : PySem.W.nsIn K mainGlobals "Mark" = some (some (.ref C_Mark)))
    (pg_Mark : PySem.W.plainGet K C_Mark Str.empty = true)
    (hd_Mark : PySem.W.hasDictIn K C_Mark = true)
    (po_Mark : PySem.W.plainOver K C_Mark = true)
    (sa_Mark : PySem.W.findIn K (.ref C_Mark) "__setattr__" = some (some (.builtin "object.__setattr__")))
    (mk_Mark : PySem.W.makesIn K C_Mark = true)
    (kc_Mark : PySem.W.keepIn K (.ref C_Mark) = true)
    (t1_Mark : PySem.W.findIn K (.ref C_Mark) "__class__" = some (some (.builtin "object.__class__")))
    (t4_Mark : PySem.W.mroIn K C_Mark (.type "object") = some true)
    (t2_Mark : PySem.W.specialIn K (.builtin "object.__class__") "__get__" = some (some (.builtin "getset_descriptor.__get__")))
    (t3_Mark : PySem.W.takesIn K (.builtin "object.__class__") = some true)
    (na_Mark_parts : PySem.W.findIn K (.ref C_Mark) "_parts" = some none)
    (na_Mark_text : PySem.W.findIn K (.ref C_Mark) "_text" = some none)
    (a_order : PySem.W.nsIn K mainGlobals "order" = some (some (.ref f_order)))
    (l_order : K.lookup f_order = some ⟨oc_order, od_order, .func (PySem.W.fnOf "order" "order" (defArgs s_order) (defBody s_order) (defScope s_order) .none kV_order dc_order pm_order an_order cd_order ct_order), sl_order⟩)
    (c_order : PySem.W.codeIn K cd_order "order" = true)
    (k_order : PySem.W.keepIn K (.ref f_order) = true)
    (a_is_number : PySem.W.nsIn K mainGlobals "is_number" = some (some (.ref f_is_number)))
    (l_is_number : K.lookup f_is_number = some ⟨oc_is_number, od_is_number, .func (PySem.W.fnOf "is_number" "is_number" (defArgs s_is_number) (defBody s_is_number) (defScope s_is_number) .none kV_is_number dc_is_number pm_is_number an_is_number cd_is_number ct_is_number), sl_is_number⟩)
    (c_is_number : PySem.W.codeIn K cd_is_number "is_number" = true)
    (k_is_number : PySem.W.keepIn K (.ref f_is_number) = true)
    (a_is_whole : PySem.W.nsIn K mainGlobals "is_whole" = some (some (.ref f_is_whole)))
    (l_is_whole : K.lookup f_is_whole = some ⟨oc_is_whole, od_is_whole, .func (PySem.W.fnOf "is_whole" "is_whole" (defArgs s_is_whole) (defBody s_is_whole) (defScope s_is_whole) (.ref dT_is_whole) kV_is_whole dc_is_whole pm_is_whole an_is_whole cd_is_whole ct_is_whole), sl_is_whole⟩)
    (c_is_whole : PySem.W.codeIn K cd_is_whole "is_whole" = true)
    (k_is_whole : PySem.W.keepIn K (.ref f_is_whole) = true)
    (e_is_whole : K.lookup dT_is_whole = some do_is_whole)
    (x_is_whole : do_is_whole.data = .seq dus_is_whole.toArray dn_is_whole)
    (v_is_whole : Vals [.non] dus_is_whole)
    (a_is_figures : PySem.W.nsIn K mainGlobals "is_figures" = some (some (.ref f_is_figures)))
    (l_is_figures : K.lookup f_is_figures = some ⟨oc_is_figures, od_is_figures, .func (PySem.W.fnOf "is_figures" "is_figures" (defArgs s_is_figures) (defBody s_is_figures) (defScope s_is_figures) .none kV_is_figures dc_is_figures pm_is_figures an_is_figures cd_is_figures ct_is_figures), sl_is_figures⟩)
    (c_is_figures : PySem.W.codeIn K cd_is_figures "is_figures" = true)
    (k_is_figures : PySem.W.keepIn K (.ref f_is_figures) = true)
    (a_is_letters : PySem.W.nsIn K mainGlobals "is_letters" = some (some (.ref f_is_letters)))
    (l_is_letters : K.lookup f_is_letters = some ⟨oc_is_letters, od_is_letters, .func (PySem.W.fnOf "is_letters" "is_letters" (defArgs s_is_letters) (defBody s_is_letters) (defScope s_is_letters) .none kV_is_letters dc_is_letters pm_is_letters an_is_letters cd_is_letters ct_is_letters), sl_is_letters⟩)
    (c_is_letters : PySem.W.codeIn K cd_is_letters "is_letters" = true)
    (k_is_letters : PySem.W.keepIn K (.ref f_is_letters) = true)
    (a_is_points : PySem.W.nsIn K mainGlobals "is_points" = some (some (.ref f_is_points)))
    (l_is_points : K.lookup f_is_points = some ⟨oc_is_points, od_is_points, .func (PySem.W.fnOf "is_points" "is_points" (defArgs s_is_points) (defBody s_is_points) (defScope s_is_points) .none kV_is_points dc_is_points pm_is_points an_is_points cd_is_points ct_is_points), sl_is_points⟩)
    (c_is_points : PySem.W.codeIn K cd_is_points "is_points" = true)
    (k_is_points : PySem.W.keepIn K (.ref f_is_points) = true)
    (a_is_maker : PySem.W.nsIn K mainGlobals "is_maker" = some (some (.ref f_is_maker)))
    (l_is_maker : K.lookup f_is_maker = some ⟨oc_is_maker, od_is_maker, .func (PySem.W.fnOf "is_maker" "is_maker" (defArgs s_is_maker) (defBody s_is_maker) (defScope s_is_maker) .none kV_is_maker dc_is_maker pm_is_maker an_is_maker cd_is_maker ct_is_maker), sl_is_maker⟩)
    (c_is_maker : PySem.W.codeIn K cd_is_maker "is_maker" = true)
    (k_is_maker : PySem.W.keepIn K (.ref f_is_maker) = true)
    (a_is_ended : PySem.W.nsIn K mainGlobals "_is_ended" = some (some (.ref f_is_ended)))
    (l_is_ended : K.lookup f_is_ended = some ⟨oc_is_ended, od_is_ended, .func (PySem.W.fnOf "_is_ended" "_is_ended" (defArgs s_is_ended) (defBody s_is_ended) (defScope s_is_ended) .none kV_is_ended dc_is_ended pm_is_ended an_is_ended cd_is_ended ct_is_ended), sl_is_ended⟩)
    (c_is_ended : PySem.W.codeIn K cd_is_ended "_is_ended" = true)
    (k_is_ended : PySem.W.keepIn K (.ref f_is_ended) = true)
    (a_Mark_init : PySem.W.findIn K (.ref C_Mark) "__init__" = some (some (.ref f_Mark_init)))
    (i_Mark_init : PySem.W.isFn K (.ref f_Mark_init) = true)
    (l_Mark_init : K.lookup f_Mark_init = some ⟨oc_Mark_init, od_Mark_init, .func (PySem.W.fnOf "__init__" "Mark.__init__" (defArgs s_Mark_init) (defBody s_Mark_init) (defScope s_Mark_init) (.ref dT_Mark_init) kV_Mark_init dc_Mark_init pm_Mark_init an_Mark_init cd_Mark_init ct_Mark_init), sl_Mark_init⟩)
    (c_Mark_init : PySem.W.codeIn K cd_Mark_init "Mark.__init__" = true)
    (k_Mark_init : PySem.W.keepIn K (.ref f_Mark_init) = true)
    (e_Mark_init : K.lookup dT_Mark_init = some do_Mark_init)
    (x_Mark_init : do_Mark_init.data = .seq dus_Mark_init.toArray dn_Mark_init)
    (v_Mark_init : Vals [.str Str.empty, .non, .non, .non] dus_Mark_init)
    (a_Mark_eq : PySem.W.findIn K (.ref C_Mark) "__eq__" = some (some (.ref f_Mark_eq)))
    (i_Mark_eq : PySem.W.isFn K (.ref f_Mark_eq) = true)
    (l_Mark_eq : K.lookup f_Mark_eq = some ⟨oc_Mark_eq, od_Mark_eq, .func (PySem.W.fnOf "__eq__" "Mark.__eq__" (defArgs s_Mark_eq) (defBody s_Mark_eq) (defScope s_Mark_eq) .none kV_Mark_eq dc_Mark_eq pm_Mark_eq an_Mark_eq cd_Mark_eq ct_Mark_eq), sl_Mark_eq⟩)
    (c_Mark_eq : PySem.W.codeIn K cd_Mark_eq "Mark.__eq__" = true)
    (k_Mark_eq : PySem.W.keepIn K (.ref f_Mark_eq) = true)
    (a_Mark_str : PySem.W.findIn K (.ref C_Mark) "__str__" = some (some (.ref f_Mark_str)))
    (i_Mark_str : PySem.W.isFn K (.ref f_Mark_str) = true)
    (l_Mark_str : K.lookup f_Mark_str = some ⟨oc_Mark_str, od_Mark_str, .func (PySem.W.fnOf "__str__" "Mark.__str__" (defArgs s_Mark_str) (defBody s_Mark_str) (defScope s_Mark_str) .none kV_Mark_str dc_Mark_str pm_Mark_str an_Mark_str cd_Mark_str ct_Mark_str), sl_Mark_str⟩)
    (c_Mark_str : PySem.W.codeIn K cd_Mark_str "Mark.__str__" = true)
    (k_Mark_str : PySem.W.keepIn K (.ref f_Mark_str) = true)
    (a_Mark_repr : PySem.W.findIn K (.ref C_Mark) "__repr__" = some (some (.ref f_Mark_repr)))
    (i_Mark_repr : PySem.W.isFn K (.ref f_Mark_repr) = true)
    (l_Mark_repr : K.lookup f_Mark_repr = some ⟨oc_Mark_repr, od_Mark_repr, .func (PySem.W.fnOf "__repr__" "Mark.__repr__" (defArgs s_Mark_repr) (defBody s_Mark_repr) (defScope s_Mark_repr) .none kV_Mark_repr dc_Mark_repr pm_Mark_repr an_Mark_repr cd_Mark_repr ct_Mark_repr), sl_Mark_repr⟩)
    (c_Mark_repr : PySem.W.codeIn K cd_Mark_repr "Mark.__repr__" = true)
    (k_Mark_repr : PySem.W.keepIn K (.ref f_Mark_repr) = true)
    (a_Mark_len : PySem.W.findIn K (.ref C_Mark) "__len__" = some (some (.ref f_Mark_len)))
    (i_Mark_len : PySem.W.isFn K (.ref f_Mark_len) = true)
    (l_Mark_len : K.lookup f_Mark_len = some ⟨oc_Mark_len, od_Mark_len, .func (PySem.W.fnOf "__len__" "Mark.__len__" (defArgs s_Mark_len) (defBody s_Mark_len) (defScope s_Mark_len) .none kV_Mark_len dc_Mark_len pm_Mark_len an_Mark_len cd_Mark_len ct_Mark_len), sl_Mark_len⟩)
    (c_Mark_len : PySem.W.codeIn K cd_Mark_len "Mark.__len__" = true)
    (k_Mark_len : PySem.W.keepIn K (.ref f_Mark_len) = true)
    (a_Mark_letters : PySem.W.findIn K (.ref C_Mark) "letters" = some (some (.ref f_Mark_letters)))
    (i_Mark_letters : PySem.W.isFn K (.ref f_Mark_letters) = true)
    (l_Mark_letters : K.lookup f_Mark_letters = some ⟨oc_Mark_letters, od_Mark_letters, .func (PySem.W.fnOf "letters" "Mark.letters" (defArgs s_Mark_letters) (defBody s_Mark_letters) (defScope s_Mark_letters) .none kV_Mark_letters dc_Mark_letters pm_Mark_letters an_Mark_letters cd_Mark_letters ct_Mark_letters), sl_Mark_letters⟩)
    (c_Mark_letters : PySem.W.codeIn K cd_Mark_letters "Mark.letters" = true)
    (k_Mark_letters : PySem.W.keepIn K (.ref f_Mark_letters) = true)
    (a_Mark_number : PySem.W.findIn K (.ref C_Mark) "number" = some (some (.ref f_Mark_number)))
    (i_Mark_number : PySem.W.isFn K (.ref f_Mark_number) = true)
    (l_Mark_number : K.lookup f_Mark_number = some ⟨oc_Mark_number, od_Mark_number, .func (PySem.W.fnOf "number" "Mark.number" (defArgs s_Mark_number) (defBody s_Mark_number) (defScope s_Mark_number) .none kV_Mark_number dc_Mark_number pm_Mark_number an_Mark_number cd_Mark_number ct_Mark_number), sl_Mark_number⟩)
    (c_Mark_number : PySem.W.codeIn K cd_Mark_number "Mark.number" = true)
    (k_Mark_number : PySem.W.keepIn K (.ref f_Mark_number) = true)
    (a_Mark_points : PySem.W.findIn K (.ref C_Mark) "points" = some (some (.ref f_Mark_points)))
    (i_Mark_points : PySem.W.isFn K (.ref f_Mark_points) = true)
    (l_Mark_points : K.lookup f_Mark_points = some ⟨oc_Mark_points, od_Mark_points, .func (PySem.W.fnOf "points" "Mark.points" (defArgs s_Mark_points) (defBody s_Mark_points) (defScope s_Mark_points) .none kV_Mark_points dc_Mark_points pm_Mark_points an_Mark_points cd_Mark_points ct_Mark_points), sl_Mark_points⟩)
    (c_Mark_points : PySem.W.codeIn K cd_Mark_points "Mark.points" = true)
    (k_Mark_points : PySem.W.keepIn K (.ref f_Mark_points) = true)
    (a_Mark_makers : PySem.W.findIn K (.ref C_Mark) "makers" = some (some (.ref f_Mark_makers)))
    (i_Mark_makers : PySem.W.isFn K (.ref f_Mark_makers) = true)
    (l_Mark_makers : K.lookup f_Mark_makers = some ⟨oc_Mark_makers, od_Mark_makers, .func (PySem.W.fnOf "makers" "Mark.makers" (defArgs s_Mark_makers) (defBody s_Mark_makers) (defScope s_Mark_makers) .none kV_Mark_makers dc_Mark_makers pm_Mark_makers an_Mark_makers cd_Mark_makers ct_Mark_makers), sl_Mark_makers⟩)
    (c_Mark_makers : PySem.W.codeIn K cd_Mark_makers "Mark.makers" = true)
    (k_Mark_makers : PySem.W.keepIn K (.ref f_Mark_makers) = true)
    (a_Mark_year : PySem.W.findIn K (.ref C_Mark) "year" = some (some (.ref f_Mark_year)))
    (i_Mark_year : PySem.W.isFn K (.ref f_Mark_year) = true)
    (l_Mark_year : K.lookup f_Mark_year = some ⟨oc_Mark_year, od_Mark_year, .func (PySem.W.fnOf "year" "Mark.year" (defArgs s_Mark_year) (defBody s_Mark_year) (defScope s_Mark_year) .none kV_Mark_year dc_Mark_year pm_Mark_year an_Mark_year cd_Mark_year ct_Mark_year), sl_Mark_year⟩)
    (c_Mark_year : PySem.W.codeIn K cd_Mark_year "Mark.year" = true)
    (k_Mark_year : PySem.W.keepIn K (.ref f_Mark_year) = true)
    (a_Mark_copy_number : PySem.W.findIn K (.ref C_Mark) "copy_number" = some (some (.ref f_Mark_copy_number)))
    (i_Mark_copy_number : PySem.W.isFn K (.ref f_Mark_copy_number) = true)
    (l_Mark_copy_number : K.lookup f_Mark_copy_number = some ⟨oc_Mark_copy_number, od_Mark_copy_number, .func (PySem.W.fnOf "copy_number" "Mark.copy_number" (defArgs s_Mark_copy_number) (defBody s_Mark_copy_number) (defScope s_Mark_copy_number) .none kV_Mark_copy_number dc_Mark_copy_number pm_Mark_copy_number an_Mark_copy_number cd_Mark_copy_number ct_Mark_copy_number), sl_Mark_copy_number⟩)
    (c_Mark_copy_number : PySem.W.codeIn K cd_Mark_copy_number "Mark.copy_number" = true)
    (k_Mark_copy_number : PySem.W.keepIn K (.ref f_Mark_copy_number) = true)
    (a_Mark_parts : PySem.W.findIn K (.ref C_Mark) "parts" = some (some (.ref f_Mark_parts)))
    (i_Mark_parts : PySem.W.isFn K (.ref f_Mark_parts) = true)
    (l_Mark_parts : K.lookup f_Mark_parts = some ⟨oc_Mark_parts, od_Mark_parts, .func (PySem.W.fnOf "parts" "Mark.parts" (defArgs s_Mark_parts) (defBody s_Mark_parts) (defScope s_Mark_parts) .none kV_Mark_parts dc_Mark_parts pm_Mark_parts an_Mark_parts cd_Mark_parts ct_Mark_parts), sl_Mark_parts⟩)
    (c_Mark_parts : PySem.W.codeIn K cd_Mark_parts "Mark.parts" = true)
    (k_Mark_parts : PySem.W.keepIn K (.ref f_Mark_parts) = true)
    (a_Mark_key : PySem.W.findIn K (.ref C_Mark) "key" = some (some (.ref f_Mark_key)))
    (i_Mark_key : PySem.W.isFn K (.ref f_Mark_key) = true)
    (l_Mark_key : K.lookup f_Mark_key = some ⟨oc_Mark_key, od_Mark_key, .func (PySem.W.fnOf "key" "Mark.key" (defArgs s_Mark_key) (defBody s_Mark_key) (defScope s_Mark_key) .none kV_Mark_key dc_Mark_key pm_Mark_key an_Mark_key cd_Mark_key ct_Mark_key), sl_Mark_key⟩)
    (c_Mark_key : PySem.W.codeIn K cd_Mark_key "Mark.key" = true)
    (k_Mark_key : PySem.W.keepIn K (.ref f_Mark_key) = true)
    (a_Mark_ahead : PySem.W.findIn K (.ref C_Mark) "ahead" = some (some (.ref f_Mark_ahead)))
    (i_Mark_ahead : PySem.W.isFn K (.ref f_Mark_ahead) = true)
    (l_Mark_ahead : K.lookup f_Mark_ahead = some ⟨oc_Mark_ahead, od_Mark_ahead, .func (PySem.W.fnOf "ahead" "Mark.ahead" (defArgs s_Mark_ahead) (defBody s_Mark_ahead) (defScope s_Mark_ahead) .none kV_Mark_ahead dc_Mark_ahead pm_Mark_ahead an_Mark_ahead cd_Mark_ahead ct_Mark_ahead), sl_Mark_ahead⟩)
    (c_Mark_ahead : PySem.W.codeIn K cd_Mark_ahead "Mark.ahead" = true)
    (k_Mark_ahead : PySem.W.keepIn K (.ref f_Mark_ahead) = true)
    (a_Mark_head : PySem.W.findIn K (.ref C_Mark) "head" = some (some (.ref f_Mark_head)))
    (i_Mark_head : PySem.W.isFn K (.ref f_Mark_head) = true)
    (l_Mark_head : K.lookup f_Mark_head = some ⟨oc_Mark_head, od_Mark_head, .func (PySem.W.fnOf "head" "Mark.head" (defArgs s_Mark_head) (defBody s_Mark_head) (defScope s_Mark_head) .none kV_Mark_head dc_Mark_head pm_Mark_head an_Mark_head cd_Mark_head ct_Mark_head), sl_Mark_head⟩)
    (c_Mark_head : PySem.W.codeIn K cd_Mark_head "Mark.head" = true)
    (k_Mark_head : PySem.W.keepIn K (.ref f_Mark_head) = true)
    (a_Mark_book : PySem.W.findIn K (.ref C_Mark) "book" = some (some (.ref f_Mark_book)))
    (i_Mark_book : PySem.W.isFn K (.ref f_Mark_book) = true)
    (l_Mark_book : K.lookup f_Mark_book = some ⟨oc_Mark_book, od_Mark_book, .func (PySem.W.fnOf "book" "Mark.book" (defArgs s_Mark_book) (defBody s_Mark_book) (defScope s_Mark_book) .none kV_Mark_book dc_Mark_book pm_Mark_book an_Mark_book cd_Mark_book ct_Mark_book), sl_Mark_book⟩)
    (c_Mark_book : PySem.W.codeIn K cd_Mark_book "Mark.book" = true)
    (k_Mark_book : PySem.W.keepIn K (.ref f_Mark_book) = true)
    (a_Mark_with_year : PySem.W.findIn K (.ref C_Mark) "with_year" = some (some (.ref f_Mark_with_year)))
    (i_Mark_with_year : PySem.W.isFn K (.ref f_Mark_with_year) = true)
    (l_Mark_with_year : K.lookup f_Mark_with_year = some ⟨oc_Mark_with_year, od_Mark_with_year, .func (PySem.W.fnOf "with_year" "Mark.with_year" (defArgs s_Mark_with_year) (defBody s_Mark_with_year) (defScope s_Mark_with_year) (.ref dT_Mark_with_year) kV_Mark_with_year dc_Mark_with_year pm_Mark_with_year an_Mark_with_year cd_Mark_with_year ct_Mark_with_year), sl_Mark_with_year⟩)
    (c_Mark_with_year : PySem.W.codeIn K cd_Mark_with_year "Mark.with_year" = true)
    (k_Mark_with_year : PySem.W.keepIn K (.ref f_Mark_with_year) = true)
    (e_Mark_with_year : K.lookup dT_Mark_with_year = some do_Mark_with_year)
    (x_Mark_with_year : do_Mark_with_year.data = .seq dus_Mark_with_year.toArray dn_Mark_with_year)
    (v_Mark_with_year : Vals [.non] dus_Mark_with_year)
    (a_Mark_with_copy : PySem.W.findIn K (.ref C_Mark) "with_copy" = some (some (.ref f_Mark_with_copy)))
    (i_Mark_with_copy : PySem.W.isFn K (.ref f_Mark_with_copy) = true)
    (l_Mark_with_copy : K.lookup f_Mark_with_copy = some ⟨oc_Mark_with_copy, od_Mark_with_copy, .func (PySem.W.fnOf "with_copy" "Mark.with_copy" (defArgs s_Mark_with_copy) (defBody s_Mark_with_copy) (defScope s_Mark_with_copy) (.ref dT_Mark_with_copy) kV_Mark_with_copy dc_Mark_with_copy pm_Mark_with_copy an_Mark_with_copy cd_Mark_with_copy ct_Mark_with_copy), sl_Mark_with_copy⟩)
    (c_Mark_with_copy : PySem.W.codeIn K cd_Mark_with_copy "Mark.with_copy" = true)
    (k_Mark_with_copy : PySem.W.keepIn K (.ref f_Mark_with_copy) = true)
    (e_Mark_with_copy : K.lookup dT_Mark_with_copy = some do_Mark_with_copy)
    (x_Mark_with_copy : do_Mark_with_copy.data = .seq dus_Mark_with_copy.toArray dn_Mark_with_copy)
    (v_Mark_with_copy : Vals [.non] dus_Mark_with_copy)
    (a_Mark_same_book : PySem.W.findIn K (.ref C_Mark) "same_book" = some (some (.ref f_Mark_same_book)))
    (i_Mark_same_book : PySem.W.isFn K (.ref f_Mark_same_book) = true)
    (l_Mark_same_book : K.lookup f_Mark_same_book = some ⟨oc_Mark_same_book, od_Mark_same_book, .func (PySem.W.fnOf "same_book" "Mark.same_book" (defArgs s_Mark_same_book) (defBody s_Mark_same_book) (defScope s_Mark_same_book) .none kV_Mark_same_book dc_Mark_same_book pm_Mark_same_book an_Mark_same_book cd_Mark_same_book ct_Mark_same_book), sl_Mark_same_book⟩)
    (c_Mark_same_book : PySem.W.codeIn K cd_Mark_same_book "Mark.same_book" = true)
    (k_Mark_same_book : PySem.W.keepIn K (.ref f_Mark_same_book) = true)
    (a_kept_makers : PySem.W.nsIn K mainGlobals "_kept_makers" = some (some (.ref f_kept_makers)))
    (l_kept_makers : K.lookup f_kept_makers = some ⟨oc_kept_makers, od_kept_makers, .func (PySem.W.fnOf "_kept_makers" "_kept_makers" (defArgs s_kept_makers) (defBody s_kept_makers) (defScope s_kept_makers) .none kV_kept_makers dc_kept_makers pm_kept_makers an_kept_makers cd_kept_makers ct_kept_makers), sl_kept_makers⟩)
    (c_kept_makers : PySem.W.codeIn K cd_kept_makers "_kept_makers" = true)
    (k_kept_makers : PySem.W.keepIn K (.ref f_kept_makers) = true)
    (a_text_of : PySem.W.nsIn K mainGlobals "_text_of" = some (some (.ref f_text_of)))
    (l_text_of : K.lookup f_text_of = some ⟨oc_text_of, od_text_of, .func (PySem.W.fnOf "_text_of" "_text_of" (defArgs s_text_of) (defBody s_text_of) (defScope s_text_of) .none kV_text_of dc_text_of pm_text_of an_text_of cd_text_of ct_text_of), sl_text_of⟩)
    (c_text_of : PySem.W.codeIn K cd_text_of "_text_of" = true)
    (k_text_of : PySem.W.keepIn K (.ref f_text_of) = true)
    (a_l_pool : PySem.W.nsIn K mainGlobals "_law_pool" = some (some (.ref f_l_pool)))
    (l_l_pool : K.lookup f_l_pool = some ⟨oc_l_pool, od_l_pool, .func (PySem.W.fnOf "_law_pool" "_law_pool" (defArgs s_l_pool) (defBody s_l_pool) (defScope s_l_pool) .none kV_l_pool dc_l_pool pm_l_pool an_l_pool cd_l_pool ct_l_pool), sl_l_pool⟩)
    (c_l_pool : PySem.W.codeIn K cd_l_pool "_law_pool" = true)
    (k_l_pool : PySem.W.keepIn K (.ref f_l_pool) = true)
    (a_l_take : PySem.W.nsIn K mainGlobals "_law_take" = some (some (.ref f_l_take)))
    (l_l_take : K.lookup f_l_take = some ⟨oc_l_take, od_l_take, .func (PySem.W.fnOf "_law_take" "_law_take" (defArgs s_l_take) (defBody s_l_take) (defScope s_l_take) .none kV_l_take dc_l_take pm_l_take an_l_take cd_l_take ct_l_take), sl_l_take⟩)
    (c_l_take : PySem.W.codeIn K cd_l_take "_law_take" = true)
    (k_l_take : PySem.W.keepIn K (.ref f_l_take) = true)
    (a_l_figures : PySem.W.nsIn K mainGlobals "_law_figures" = some (some (.ref f_l_figures)))
    (l_l_figures : K.lookup f_l_figures = some ⟨oc_l_figures, od_l_figures, .func (PySem.W.fnOf "_law_figures" "_law_figures" (defArgs s_l_figures) (defBody s_l_figures) (defScope s_l_figures) .none kV_l_figures dc_l_figures pm_l_figures an_l_figures cd_l_figures ct_l_figures), sl_l_figures⟩)
    (c_l_figures : PySem.W.codeIn K cd_l_figures "_law_figures" = true)
    (k_l_figures : PySem.W.keepIn K (.ref f_l_figures) = true)
    (a_l_maker : PySem.W.nsIn K mainGlobals "_law_maker" = some (some (.ref f_l_maker)))
    (l_l_maker : K.lookup f_l_maker = some ⟨oc_l_maker, od_l_maker, .func (PySem.W.fnOf "_law_maker" "_law_maker" (defArgs s_l_maker) (defBody s_l_maker) (defScope s_l_maker) .none kV_l_maker dc_l_maker pm_l_maker an_l_maker cd_l_maker ct_l_maker), sl_l_maker⟩)
    (c_l_maker : PySem.W.codeIn K cd_l_maker "_law_maker" = true)
    (k_l_maker : PySem.W.keepIn K (.ref f_l_maker) = true)
    (a_l_parts : PySem.W.nsIn K mainGlobals "_law_parts" = some (some (.ref f_l_parts)))
    (l_l_parts : K.lookup f_l_parts = some ⟨oc_l_parts, od_l_parts, .func (PySem.W.fnOf "_law_parts" "_law_parts" (defArgs s_l_parts) (defBody s_l_parts) (defScope s_l_parts) .none kV_l_parts dc_l_parts pm_l_parts an_l_parts cd_l_parts ct_l_parts), sl_l_parts⟩)
    (c_l_parts : PySem.W.codeIn K cd_l_parts "_law_parts" = true)
    (k_l_parts : PySem.W.keepIn K (.ref f_l_parts) = true)
    (a_l_near_word : PySem.W.nsIn K mainGlobals "_law_near_word" = some (some (.ref f_l_near_word)))
    (l_l_near_word : K.lookup f_l_near_word = some ⟨oc_l_near_word, od_l_near_word, .func (PySem.W.fnOf "_law_near_word" "_law_near_word" (defArgs s_l_near_word) (defBody s_l_near_word) (defScope s_l_near_word) .none kV_l_near_word dc_l_near_word pm_l_near_word an_l_near_word cd_l_near_word ct_l_near_word), sl_l_near_word⟩)
    (c_l_near_word : PySem.W.codeIn K cd_l_near_word "_law_near_word" = true)
    (k_l_near_word : PySem.W.keepIn K (.ref f_l_near_word) = true)
    (a_l_near_makers : PySem.W.nsIn K mainGlobals "_law_near_makers" = some (some (.ref f_l_near_makers)))
    (l_l_near_makers : K.lookup f_l_near_makers = some ⟨oc_l_near_makers, od_l_near_makers, .func (PySem.W.fnOf "_law_near_makers" "_law_near_makers" (defArgs s_l_near_makers) (defBody s_l_near_makers) (defScope s_l_near_makers) .none kV_l_near_makers dc_l_near_makers pm_l_near_makers an_l_near_makers cd_l_near_makers ct_l_near_makers), sl_l_near_makers⟩)
    (c_l_near_makers : PySem.W.codeIn K cd_l_near_makers "_law_near_makers" = true)
    (k_l_near_makers : PySem.W.keepIn K (.ref f_l_near_makers) = true)
    (a_l_near_year : PySem.W.nsIn K mainGlobals "_law_near_year" = some (some (.ref f_l_near_year)))
    (l_l_near_year : K.lookup f_l_near_year = some ⟨oc_l_near_year, od_l_near_year, .func (PySem.W.fnOf "_law_near_year" "_law_near_year" (defArgs s_l_near_year) (defBody s_l_near_year) (defScope s_l_near_year) .none kV_l_near_year dc_l_near_year pm_l_near_year an_l_near_year cd_l_near_year ct_l_near_year), sl_l_near_year⟩)
    (c_l_near_year : PySem.W.codeIn K cd_l_near_year "_law_near_year" = true)
    (k_l_near_year : PySem.W.keepIn K (.ref f_l_near_year) = true)
    (a_l_near_copy : PySem.W.nsIn K mainGlobals "_law_near_copy" = some (some (.ref f_l_near_copy)))
    (l_l_near_copy : K.lookup f_l_near_copy = some ⟨oc_l_near_copy, od_l_near_copy, .func (PySem.W.fnOf "_law_near_copy" "_law_near_copy" (defArgs s_l_near_copy) (defBody s_l_near_copy) (defScope s_l_near_copy) .none kV_l_near_copy dc_l_near_copy pm_l_near_copy an_l_near_copy cd_l_near_copy ct_l_near_copy), sl_l_near_copy⟩)
    (c_l_near_copy : PySem.W.codeIn K cd_l_near_copy "_law_near_copy" = true)
    (k_l_near_copy : PySem.W.keepIn K (.ref f_l_near_copy) = true)
    (a_l_near : PySem.W.nsIn K mainGlobals "_law_near" = some (some (.ref f_l_near)))
    (l_l_near : K.lookup f_l_near = some ⟨oc_l_near, od_l_near, .func (PySem.W.fnOf "_law_near" "_law_near" (defArgs s_l_near) (defBody s_l_near) (defScope s_l_near) .none kV_l_near dc_l_near pm_l_near an_l_near cd_l_near ct_l_near), sl_l_near⟩)
    (c_l_near : PySem.W.codeIn K cd_l_near "_law_near" = true)
    (k_l_near : PySem.W.keepIn K (.ref f_l_near) = true)
    (a_l_mark : PySem.W.nsIn K mainGlobals "_law_mark" = some (some (.ref f_l_mark)))
    (l_l_mark : K.lookup f_l_mark = some ⟨oc_l_mark, od_l_mark, .func (PySem.W.fnOf "_law_mark" "_law_mark" (defArgs s_l_mark) (defBody s_l_mark) (defScope s_l_mark) .none kV_l_mark dc_l_mark pm_l_mark an_l_mark cd_l_mark ct_l_mark), sl_l_mark⟩)
    (c_l_mark : PySem.W.codeIn K cd_l_mark "_law_mark" = true)
    (k_l_mark : PySem.W.keepIn K (.ref f_l_mark) = true)
    (a_l_key : PySem.W.nsIn K mainGlobals "_law_key" = some (some (.ref f_l_key)))
    (l_l_key : K.lookup f_l_key = some ⟨oc_l_key, od_l_key, .func (PySem.W.fnOf "_law_key" "_law_key" (defArgs s_l_key) (defBody s_l_key) (defScope s_l_key) .none kV_l_key dc_l_key pm_l_key an_l_key cd_l_key ct_l_key), sl_l_key⟩)
    (c_l_key : PySem.W.codeIn K cd_l_key "_law_key" = true)
    (k_l_key : PySem.W.keepIn K (.ref f_l_key) = true)
    (a_l_order : PySem.W.nsIn K mainGlobals "_law_order" = some (some (.ref f_l_order)))
    (l_l_order : K.lookup f_l_order = some ⟨oc_l_order, od_l_order, .func (PySem.W.fnOf "_law_order" "_law_order" (defArgs s_l_order) (defBody s_l_order) (defScope s_l_order) .none kV_l_order dc_l_order pm_l_order an_l_order cd_l_order ct_l_order), sl_l_order⟩)
    (c_l_order : PySem.W.codeIn K cd_l_order "_law_order" = true)
    (k_l_order : PySem.W.keepIn K (.ref f_l_order) = true)
    (a_l_whole : PySem.W.nsIn K mainGlobals "_law_whole" = some (some (.ref f_l_whole)))
    (l_l_whole : K.lookup f_l_whole = some ⟨oc_l_whole, od_l_whole, .func (PySem.W.fnOf "_law_whole" "_law_whole" (defArgs s_l_whole) (defBody s_l_whole) (defScope s_l_whole) .none kV_l_whole dc_l_whole pm_l_whole an_l_whole cd_l_whole ct_l_whole), sl_l_whole⟩)
    (c_l_whole : PySem.W.codeIn K cd_l_whole "_law_whole" = true)
    (k_l_whole : PySem.W.keepIn K (.ref f_l_whole) = true)
    (a_l_both_ways : PySem.W.nsIn K mainGlobals "_law_both_ways" = some (some (.ref f_l_both_ways)))
    (l_l_both_ways : K.lookup f_l_both_ways = some ⟨oc_l_both_ways, od_l_both_ways, .func (PySem.W.fnOf "_law_both_ways" "_law_both_ways" (defArgs s_l_both_ways) (defBody s_l_both_ways) (defScope s_l_both_ways) .none kV_l_both_ways dc_l_both_ways pm_l_both_ways an_l_both_ways cd_l_both_ways ct_l_both_ways), sl_l_both_ways⟩)
    (c_l_both_ways : PySem.W.codeIn K cd_l_both_ways "_law_both_ways" = true)
    (k_l_both_ways : PySem.W.keepIn K (.ref f_l_both_ways) = true)
    (a_law : PySem.W.nsIn K mainGlobals "law" = some (some (.ref f_law)))
    (l_law : K.lookup f_law = some ⟨oc_law, od_law, .func (PySem.W.fnOf "law" "law" (defArgs s_law) (defBody s_law) (defScope s_law) .none kV_law dc_law pm_law an_law cd_law ct_law), sl_law⟩)
    (c_law : PySem.W.codeIn K cd_law "law" = true)
    (k_law : PySem.W.keepIn K (.ref f_law) = true)
    (z_len : PySem.W.nsIn K mainGlobals "len" = some none)
    (z_isinstance : PySem.W.nsIn K mainGlobals "isinstance" = some none)
    (z_range : PySem.W.nsIn K mainGlobals "range" = some none)
    (z_max : PySem.W.nsIn K mainGlobals "max" = some none)
    (z_int : PySem.W.nsIn K mainGlobals "int" = some none)
    (z_bool : PySem.W.nsIn K mainGlobals "bool" = some none)
    (z_str : PySem.W.nsIn K mainGlobals "str" = some none)
    (z_list : PySem.W.nsIn K mainGlobals "list" = some none)
    (z_tuple : PySem.W.nsIn K mainGlobals "tuple" = some none)
    (q_SMALL : PySem.W.nsIn K mainGlobals "SMALL" = some (some (.str "abcdefghijklmnopqrstuvwxyz" tk_SMALL)))
    : ∃ fd : FuncData, (∀ (s : Shared) (v : Value), BindsTo s fd ⟨[v], []⟩ [("_law_script", v)]) ∧ ∀ base : Heap, K.In base → base.Ns mainGlobals mg → FnOk l.prog w K mg base CX0 10 fa fd ["_law_script"] (spLaw K) := by
  have e := hfa.symm.trans (PySem.W.mg_of X G a_law)
  cases e
  have F_order := fun_mk (st := s_order) l_order c_order k_order
  have b_order := F_order.binds (ps := ["one", "other"]) fun _ _ _ _ _ _ us hl => match us, hl with | [_, _], _ => rfl
  have F_is_number := fun_mk (st := s_is_number) l_is_number c_is_number k_is_number
  have b_is_number := F_is_number.binds (ps := ["thing"]) fun _ _ _ _ _ _ us hl => match us, hl with | [_], _ => rfl
  have F_is_whole : FunD K "is_whole" "is_whole" (defArgs s_is_whole) (defBody s_is_whole) (defScope s_is_whole) [.non] [] f_is_whole (PySem.W.fnOf "is_whole" "is_whole" (defArgs s_is_whole) (defBody s_is_whole) (defScope s_is_whole) (.ref dT_is_whole) kV_is_whole dc_is_whole pm_is_whole an_is_whole cd_is_whole ct_is_whole) := ⟨⟨oc_is_whole, od_is_whole, _, kV_is_whole, dc_is_whole, pm_is_whole, an_is_whole, cd_is_whole, ct_is_whole, sl_is_whole, rfl, l_is_whole, c_is_whole, .inr ⟨by simp, dT_is_whole, do_is_whole, dus_is_whole, dn_is_whole, rfl, e_is_whole, x_is_whole, v_is_whole⟩, .inl rfl⟩, k_is_whole⟩
  have b_is_wholee : ∃ ds, Vals [] ds ∧ Binds K (PySem.W.fnOf "is_whole" "is_whole" (defArgs s_is_whole) (defBody s_is_whole) (defScope s_is_whole) (.ref dT_is_whole) kV_is_whole dc_is_whole pm_is_whole an_is_whole cd_is_whole ct_is_whole) ["thing", "low", "high"] ds := F_is_whole.binds1 3 1 (by simp) (by rfl) fun _ _ _ _ _ _ _ us its hu hi => match us, its, hu, hi with | [_, _, _], [_], _, _ => ⟨_, rfl, rfl⟩
  have b_is_whole : Binds K (PySem.W.fnOf "is_whole" "is_whole" (defArgs s_is_whole) (defBody s_is_whole) (defScope s_is_whole) (.ref dT_is_whole) kV_is_whole dc_is_whole pm_is_whole an_is_whole cd_is_whole ct_is_whole) ["thing", "low", "high"] [] := by
    obtain ⟨ds, r, b⟩ := b_is_wholee
    cases r
    exact b
  have b_is_whole_2e : ∃ ds, Vals [.non] ds ∧ Binds K (PySem.W.fnOf "is_whole" "is_whole" (defArgs s_is_whole) (defBody s_is_whole) (defScope s_is_whole) (.ref dT_is_whole) kV_is_whole dc_is_whole pm_is_whole an_is_whole cd_is_whole ct_is_whole) ["thing", "low", "high"] ds := F_is_whole.binds1 2 0 (by simp) (by rfl) fun _ _ _ _ _ _ _ us its hu hi => match us, its, hu, hi with | [_, _], [_], _, _ => ⟨_, rfl, rfl⟩
  have F_is_figures := fun_mk (st := s_is_figures) l_is_figures c_is_figures k_is_figures
  have b_is_figures := F_is_figures.binds (ps := ["text"]) fun _ _ _ _ _ _ us hl => match us, hl with | [_], _ => rfl
  have F_is_letters := fun_mk (st := s_is_letters) l_is_letters c_is_letters k_is_letters
  have b_is_letters := F_is_letters.binds (ps := ["thing", "most"]) fun _ _ _ _ _ _ us hl => match us, hl with | [_, _], _ => rfl
  have F_is_points := fun_mk (st := s_is_points) l_is_points c_is_points k_is_points
  have b_is_points := F_is_points.binds (ps := ["thing"]) fun _ _ _ _ _ _ us hl => match us, hl with | [_], _ => rfl
  have F_is_maker := fun_mk (st := s_is_maker) l_is_maker c_is_maker k_is_maker
  have b_is_maker := F_is_maker.binds (ps := ["thing"]) fun _ _ _ _ _ _ us hl => match us, hl with | [_], _ => rfl
  have F_is_ended := fun_mk (st := s_is_ended) l_is_ended c_is_ended k_is_ended
  have b_is_ended := F_is_ended.binds (ps := ["text"]) fun _ _ _ _ _ _ us hl => match us, hl with | [_], _ => rfl
  have F_Mark_init : FunD K "__init__" "Mark.__init__" (defArgs s_Mark_init) (defBody s_Mark_init) (defScope s_Mark_init) [.str Str.empty, .non, .non, .non] [] f_Mark_init (PySem.W.fnOf "__init__" "Mark.__init__" (defArgs s_Mark_init) (defBody s_Mark_init) (defScope s_Mark_init) (.ref dT_Mark_init) kV_Mark_init dc_Mark_init pm_Mark_init an_Mark_init cd_Mark_init ct_Mark_init) := ⟨⟨oc_Mark_init, od_Mark_init, _, kV_Mark_init, dc_Mark_init, pm_Mark_init, an_Mark_init, cd_Mark_init, ct_Mark_init, sl_Mark_init, rfl, l_Mark_init, c_Mark_init, .inr ⟨by simp, dT_Mark_init, do_Mark_init, dus_Mark_init, dn_Mark_init, rfl, e_Mark_init, x_Mark_init, v_Mark_init⟩, .inl rfl⟩, k_Mark_init⟩
  have b_Mark_inite : ∃ ds, Vals [] ds ∧ Binds K (PySem.W.fnOf "__init__" "Mark.__init__" (defArgs s_Mark_init) (defBody s_Mark_init) (defScope s_Mark_init) (.ref dT_Mark_init) kV_Mark_init dc_Mark_init pm_Mark_init an_Mark_init cd_Mark_init ct_Mark_init) ["self", "letters", "number", "points", "makers", "year", "copy"] ds := F_Mark_init.binds1 7 4 (by simp) (by rfl) fun _ _ _ _ _ _ _ us its hu hi => match us, its, hu, hi with | [_, _, _, _, _, _, _], [_, _, _, _], _, _ => ⟨_, rfl, rfl⟩
  have b_Mark_init_k3_points_makers_year_copyf : ∃ its : List Value, KBn K (PySem.W.fnOf "__init__" "Mark.__init__" (defArgs s_Mark_init) (defBody s_Mark_init) (defScope s_Mark_init) (.ref dT_Mark_init) kV_Mark_init dc_Mark_init pm_Mark_init an_Mark_init cd_Mark_init ct_Mark_init) ["self", "letters", "number", "points", "makers", "year", "copy"] 3 ["points", "makers", "year", "copy"] (fun us ws => us ++ (ws.drop 0).take 1 ++ (ws.drop 1).take 1 ++ (ws.drop 2).take 1 ++ (ws.drop 3).take 1) (fun vs zs => vs ++ (zs.drop 0).take 1 ++ (zs.drop 1).take 1 ++ (zs.drop 2).take 1 ++ (zs.drop 3).take 1) := F_Mark_init.kbindsD 3 ["points", "makers", "year", "copy"] (fun us its ws => us ++ (ws.drop 0).take 1 ++ (ws.drop 1).take 1 ++ (ws.drop 2).take 1 ++ (ws.drop 3).take 1) (by simp) (fun r1 r2 r3 => ((((r1).append (vals_dt 0 r3)).append (vals_dt 1 r3)).append (vals_dt 2 r3)).append (vals_dt 3 r3)) fun _ _ _ _ _ _ _ us its ws hu hi hw => match us, its, ws, hu, hi, hw with | [_, _, _], [_, _, _, _], [_, _, _, _], _, _, _ => ⟨_, rfl, rfl⟩
  have b_Mark_init : Binds K (PySem.W.fnOf "__init__" "Mark.__init__" (defArgs s_Mark_init) (defBody s_Mark_init) (defScope s_Mark_init) (.ref dT_Mark_init) kV_Mark_init dc_Mark_init pm_Mark_init an_Mark_init cd_Mark_init ct_Mark_init) ["self", "letters", "number", "points", "makers", "year", "copy"] [] := by
    obtain ⟨ds, r, b⟩ := b_Mark_inite
    cases r
    exact b
  have b_Mark_init_4e : ∃ ds, Vals [.non, .non, .non] ds ∧ Binds K (PySem.W.fnOf "__init__" "Mark.__init__" (defArgs s_Mark_init) (defBody s_Mark_init) (defScope s_Mark_init) (.ref dT_Mark_init) kV_Mark_init dc_Mark_init pm_Mark_init an_Mark_init cd_Mark_init ct_Mark_init) ["self", "letters", "number", "points", "makers", "year", "copy"] ds := F_Mark_init.binds1 4 1 (by simp) (by rfl) fun _ _ _ _ _ _ _ us its hu hi => match us, its, hu, hi with | [_, _, _, _], [_, _, _, _], _, _ => ⟨_, rfl, rfl⟩
  have F_Mark_eq := fun_mk (st := s_Mark_eq) l_Mark_eq c_Mark_eq k_Mark_eq
  have b_Mark_eq := F_Mark_eq.binds (ps := ["self", "other"]) fun _ _ _ _ _ _ us hl => match us, hl with | [_, _], _ => rfl
  have F_Mark_str := fun_mk (st := s_Mark_str) l_Mark_str c_Mark_str k_Mark_str
  have b_Mark_str := F_Mark_str.binds (ps := ["self"]) fun _ _ _ _ _ _ us hl => match us, hl with | [_], _ => rfl
  have F_Mark_repr := fun_mk (st := s_Mark_repr) l_Mark_repr c_Mark_repr k_Mark_repr
  have b_Mark_repr := F_Mark_repr.binds (ps := ["self"]) fun _ _ _ _ _ _ us hl => match us, hl with | [_], _ => rfl
  have F_Mark_len := fun_mk (st := s_Mark_len) l_Mark_len c_Mark_len k_Mark_len
  have b_Mark_len := F_Mark_len.binds (ps := ["self"]) fun _ _ _ _ _ _ us hl => match us, hl with | [_], _ => rfl
  have F_Mark_letters := fun_mk (st := s_Mark_letters) l_Mark_letters c_Mark_letters k_Mark_letters
  have b_Mark_letters := F_Mark_letters.binds (ps := ["self"]) fun _ _ _ _ _ _ us hl => match us, hl with | [_], _ => rfl
  have F_Mark_number := fun_mk (st := s_Mark_number) l_Mark_number c_Mark_number k_Mark_number
  have b_Mark_number := F_Mark_number.binds (ps := ["self"]) fun _ _ _ _ _ _ us hl => match us, hl with | [_], _ => rfl
  have F_Mark_points := fun_mk (st := s_Mark_points) l_Mark_points c_Mark_points k_Mark_points
  have b_Mark_points := F_Mark_points.binds (ps := ["self"]) fun _ _ _ _ _ _ us hl => match us, hl with | [_], _ => rfl
  have F_Mark_makers := fun_mk (st := s_Mark_makers) l_Mark_makers c_Mark_makers k_Mark_makers
  have b_Mark_makers := F_Mark_makers.binds (ps := ["self"]) fun _ _ _ _ _ _ us hl => match us, hl with | [_], _ => rfl
  have F_Mark_year := fun_mk (st := s_Mark_year) l_Mark_year c_Mark_year k_Mark_year
  have b_Mark_year := F_Mark_year.binds (ps := ["self"]) fun _ _ _ _ _ _ us hl => match us, hl with | [_], _ => rfl
  have F_Mark_copy_number := fun_mk (st := s_Mark_copy_number) l_Mark_copy_number c_Mark_copy_number k_Mark_copy_number
  have b_Mark_copy_number := F_Mark_copy_number.binds (ps := ["self"]) fun _ _ _ _ _ _ us hl => match us, hl with | [_], _ => rfl
  have F_Mark_parts := fun_mk (st := s_Mark_parts) l_Mark_parts c_Mark_parts k_Mark_parts
  have b_Mark_parts := F_Mark_parts.binds (ps := ["self"]) fun _ _ _ _ _ _ us hl => match us, hl with | [_], _ => rfl
  have F_Mark_key := fun_mk (st := s_Mark_key) l_Mark_key c_Mark_key k_Mark_key
  have b_Mark_key := F_Mark_key.binds (ps := ["self"]) fun _ _ _ _ _ _ us hl => match us, hl with | [_], _ => rfl
  have F_Mark_ahead := fun_mk (st := s_Mark_ahead) l_Mark_ahead c_Mark_ahead k_Mark_ahead
  have b_Mark_ahead := F_Mark_ahead.binds (ps := ["self", "other"]) fun _ _ _ _ _ _ us hl => match us, hl with | [_, _], _ => rfl
  have F_Mark_head := fun_mk (st := s_Mark_head) l_Mark_head c_Mark_head k_Mark_head
  have b_Mark_head := F_Mark_head.binds (ps := ["self"]) fun _ _ _ _ _ _ us hl => match us, hl with | [_], _ => rfl
  have F_Mark_book := fun_mk (st := s_Mark_book) l_Mark_book c_Mark_book k_Mark_book
  have b_Mark_book := F_Mark_book.binds (ps := ["self"]) fun _ _ _ _ _ _ us hl => match us, hl with | [_], _ => rfl
  have F_Mark_with_year : FunD K "with_year" "Mark.with_year" (defArgs s_Mark_with_year) (defBody s_Mark_with_year) (defScope s_Mark_with_year) [.non] [] f_Mark_with_year (PySem.W.fnOf "with_year" "Mark.with_year" (defArgs s_Mark_with_year) (defBody s_Mark_with_year) (defScope s_Mark_with_year) (.ref dT_Mark_with_year) kV_Mark_with_year dc_Mark_with_year pm_Mark_with_year an_Mark_with_year cd_Mark_with_year ct_Mark_with_year) := ⟨⟨oc_Mark_with_year, od_Mark_with_year, _, kV_Mark_with_year, dc_Mark_with_year, pm_Mark_with_year, an_Mark_with_year, cd_Mark_with_year, ct_Mark_with_year, sl_Mark_with_year, rfl, l_Mark_with_year, c_Mark_with_year, .inr ⟨by simp, dT_Mark_with_year, do_Mark_with_year, dus_Mark_with_year, dn_Mark_with_year, rfl, e_Mark_with_year, x_Mark_with_year, v_Mark_with_year⟩, .inl rfl⟩, k_Mark_with_year⟩
  have b_Mark_with_yeare : ∃ ds, Vals [] ds ∧ Binds K (PySem.W.fnOf "with_year" "Mark.with_year" (defArgs s_Mark_with_year) (defBody s_Mark_with_year) (defScope s_Mark_with_year) (.ref dT_Mark_with_year) kV_Mark_with_year dc_Mark_with_year pm_Mark_with_year an_Mark_with_year cd_Mark_with_year ct_Mark_with_year) ["self", "year"] ds := F_Mark_with_year.binds1 2 1 (by simp) (by rfl) fun _ _ _ _ _ _ _ us its hu hi => match us, its, hu, hi with | [_, _], [_], _, _ => ⟨_, rfl, rfl⟩
  have b_Mark_with_year : Binds K (PySem.W.fnOf "with_year" "Mark.with_year" (defArgs s_Mark_with_year) (defBody s_Mark_with_year) (defScope s_Mark_with_year) (.ref dT_Mark_with_year) kV_Mark_with_year dc_Mark_with_year pm_Mark_with_year an_Mark_with_year cd_Mark_with_year ct_Mark_with_year) ["self", "year"] [] := by
    obtain ⟨ds, r, b⟩ := b_Mark_with_yeare
    cases r
    exact b
  have F_Mark_with_copy : FunD K "with_copy" "Mark.with_copy" (defArgs s_Mark_with_copy) (defBody s_Mark_with_copy) (defScope s_Mark_with_copy) [.non] [] f_Mark_with_copy (PySem.W.fnOf "with_copy" "Mark.with_copy" (defArgs s_Mark_with_copy) (defBody s_Mark_with_copy) (defScope s_Mark_with_copy) (.ref dT_Mark_with_copy) kV_Mark_with_copy dc_Mark_with_copy pm_Mark_with_copy an_Mark_with_copy cd_Mark_with_copy ct_Mark_with_copy) := ⟨⟨oc_Mark_with_copy, od_Mark_with_copy, _, kV_Mark_with_copy, dc_Mark_with_copy, pm_Mark_with_copy, an_Mark_with_copy, cd_Mark_with_copy, ct_Mark_with_copy, sl_Mark_with_copy, rfl, l_Mark_with_copy, c_Mark_with_copy, .inr ⟨by simp, dT_Mark_with_copy, do_Mark_with_copy, dus_Mark_with_copy, dn_Mark_with_copy, rfl, e_Mark_with_copy, x_Mark_with_copy, v_Mark_with_copy⟩, .inl rfl⟩, k_Mark_with_copy⟩
  have b_Mark_with_copye : ∃ ds, Vals [] ds ∧ Binds K (PySem.W.fnOf "with_copy" "Mark.with_copy" (defArgs s_Mark_with_copy) (defBody s_Mark_with_copy) (defScope s_Mark_with_copy) (.ref dT_Mark_with_copy) kV_Mark_with_copy dc_Mark_with_copy pm_Mark_with_copy an_Mark_with_copy cd_Mark_with_copy ct_Mark_with_copy) ["self", "copy"] ds := F_Mark_with_copy.binds1 2 1 (by simp) (by rfl) fun _ _ _ _ _ _ _ us its hu hi => match us, its, hu, hi with | [_, _], [_], _, _ => ⟨_, rfl, rfl⟩
  have b_Mark_with_copy : Binds K (PySem.W.fnOf "with_copy" "Mark.with_copy" (defArgs s_Mark_with_copy) (defBody s_Mark_with_copy) (defScope s_Mark_with_copy) (.ref dT_Mark_with_copy) kV_Mark_with_copy dc_Mark_with_copy pm_Mark_with_copy an_Mark_with_copy cd_Mark_with_copy ct_Mark_with_copy) ["self", "copy"] [] := by
    obtain ⟨ds, r, b⟩ := b_Mark_with_copye
    cases r
    exact b
  have F_Mark_same_book := fun_mk (st := s_Mark_same_book) l_Mark_same_book c_Mark_same_book k_Mark_same_book
  have b_Mark_same_book := F_Mark_same_book.binds (ps := ["self", "other"]) fun _ _ _ _ _ _ us hl => match us, hl with | [_, _], _ => rfl
  have F_kept_makers := fun_mk (st := s_kept_makers) l_kept_makers c_kept_makers k_kept_makers
  have b_kept_makers := F_kept_makers.binds (ps := ["makers"]) fun _ _ _ _ _ _ us hl => match us, hl with | [_], _ => rfl
  have F_text_of := fun_mk (st := s_text_of) l_text_of c_text_of k_text_of
  have b_text_of := F_text_of.binds (ps := ["parts"]) fun _ _ _ _ _ _ us hl => match us, hl with | [_], _ => rfl
  have F_l_pool := fun_mk (st := s_l_pool) l_l_pool c_l_pool k_l_pool
  have b_l_pool := F_l_pool.binds (ps := ["_law_cell"]) fun _ _ _ _ _ _ us hl => match us, hl with | [_], _ => rfl
  have F_l_take := fun_mk (st := s_l_take) l_l_take c_l_take k_l_take
  have b_l_take := F_l_take.binds (ps := ["_law_pool_here", "_law_size"]) fun _ _ _ _ _ _ us hl => match us, hl with | [_, _], _ => rfl
  have F_l_figures := fun_mk (st := s_l_figures) l_l_figures c_l_figures k_l_figures
  have b_l_figures := F_l_figures.binds (ps := ["_law_pool_here", "_law_most"]) fun _ _ _ _ _ _ us hl => match us, hl with | [_, _], _ => rfl
  have F_l_maker := fun_mk (st := s_l_maker) l_l_maker c_l_maker k_l_maker
  have b_l_maker := F_l_maker.binds (ps := ["_law_pool_here", "_law_most"]) fun _ _ _ _ _ _ us hl => match us, hl with | [_, _], _ => rfl
  have F_l_parts := fun_mk (st := s_l_parts) l_l_parts c_l_parts k_l_parts
  have b_l_parts := F_l_parts.binds (ps := ["_law_pool_here"]) fun _ _ _ _ _ _ us hl => match us, hl with | [_], _ => rfl
  have F_l_near_word := fun_mk (st := s_l_near_word) l_l_near_word c_l_near_word k_l_near_word
  have b_l_near_word := F_l_near_word.binds (ps := ["_law_word", "_law_pool_here"]) fun _ _ _ _ _ _ us hl => match us, hl with | [_, _], _ => rfl
  have F_l_near_makers := fun_mk (st := s_l_near_makers) l_l_near_makers c_l_near_makers k_l_near_makers
  have b_l_near_makers := F_l_near_makers.binds (ps := ["_law_hands", "_law_pool_here"]) fun _ _ _ _ _ _ us hl => match us, hl with | [_, _], _ => rfl
  have F_l_near_year := fun_mk (st := s_l_near_year) l_l_near_year c_l_near_year k_l_near_year
  have b_l_near_year := F_l_near_year.binds (ps := ["_law_age", "_law_pool_here"]) fun _ _ _ _ _ _ us hl => match us, hl with | [_, _], _ => rfl
  have F_l_near_copy := fun_mk (st := s_l_near_copy) l_l_near_copy c_l_near_copy k_l_near_copy
  have b_l_near_copy := F_l_near_copy.binds (ps := ["_law_twin", "_law_pool_here"]) fun _ _ _ _ _ _ us hl => match us, hl with | [_, _], _ => rfl
  have F_l_near := fun_mk (st := s_l_near) l_l_near c_l_near k_l_near
  have b_l_near := F_l_near.binds (ps := ["_law_parts_here", "_law_at", "_law_pool_here"]) fun _ _ _ _ _ _ us hl => match us, hl with | [_, _, _], _ => rfl
  have F_l_mark := fun_mk (st := s_l_mark) l_l_mark c_l_mark k_l_mark
  have b_l_mark := F_l_mark.binds (ps := ["_law_parts_here"]) fun _ _ _ _ _ _ us hl => match us, hl with | [_], _ => rfl
  have F_l_key := fun_mk (st := s_l_key) l_l_key c_l_key k_l_key
  have b_l_key := F_l_key.binds (ps := ["_law_parts_here"]) fun _ _ _ _ _ _ us hl => match us, hl with | [_], _ => rfl
  have F_l_order := fun_mk (st := s_l_order) l_l_order c_l_order k_l_order
  have b_l_order := F_l_order.binds (ps := ["_law_fore", "_law_mate"]) fun _ _ _ _ _ _ us hl => match us, hl with | [_, _], _ => rfl
  have F_l_whole := fun_mk (st := s_l_whole) l_l_whole c_l_whole k_l_whole
  have b_l_whole := F_l_whole.binds (ps := ["_law_found"]) fun _ _ _ _ _ _ us hl => match us, hl with | [_], _ => rfl
  have F_l_both_ways := fun_mk (st := s_l_both_ways) l_l_both_ways c_l_both_ways k_l_both_ways
  have b_l_both_ways := F_l_both_ways.binds (ps := ["_law_fore", "_law_mate"]) fun _ _ _ _ _ _ us hl => match us, hl with | [_, _], _ => rfl
  have F_law := fun_mk (st := s_law) l_law c_law k_law
  have b_law := F_law.binds (ps := ["_law_script"]) fun _ _ _ _ _ _ us hl => match us, hl with | [_], _ => rfl
  have T : Txt K mg { a_order := f_order, a_is_number := f_is_number, a_is_whole := f_is_whole, a_is_figures := f_is_figures, a_is_letters := f_is_letters, a_is_points := f_is_points, a_is_maker := f_is_maker, a_is_ended := f_is_ended, a_Mark_init := f_Mark_init, a_Mark_eq := f_Mark_eq, a_Mark_str := f_Mark_str, a_Mark_repr := f_Mark_repr, a_Mark_len := f_Mark_len, a_Mark_letters := f_Mark_letters, a_Mark_number := f_Mark_number, a_Mark_points := f_Mark_points, a_Mark_makers := f_Mark_makers, a_Mark_year := f_Mark_year, a_Mark_copy_number := f_Mark_copy_number, a_Mark_parts := f_Mark_parts, a_Mark_key := f_Mark_key, a_Mark_ahead := f_Mark_ahead, a_Mark_head := f_Mark_head, a_Mark_book := f_Mark_book, a_Mark_with_year := f_Mark_with_year, a_Mark_with_copy := f_Mark_with_copy, a_Mark_same_book := f_Mark_same_book, a_kept_makers := f_kept_makers, a_text_of := f_text_of, a_l_pool := f_l_pool, a_l_take := f_l_take, a_l_figures := f_l_figures, a_l_maker := f_l_maker, a_l_parts := f_l_parts, a_l_near_word := f_l_near_word, a_l_near_makers := f_l_near_makers, a_l_near_year := f_l_near_year, a_l_near_copy := f_l_near_copy, a_l_near := f_l_near, a_l_mark := f_l_mark, a_l_key := f_l_key, a_l_order := f_l_order, a_l_whole := f_l_whole, a_l_both_ways := f_l_both_ways, a_law := fa, d_order := _, d_is_number := _, d_is_whole := _, d_is_figures := _, d_is_letters := _, d_is_points := _, d_is_maker := _, d_is_ended := _, d_Mark_init := _, d_Mark_eq := _, d_Mark_str := _, d_Mark_repr := _, d_Mark_len := _, d_Mark_letters := _, d_Mark_number := _, d_Mark_points := _, d_Mark_makers := _, d_Mark_year := _, d_Mark_copy_number := _, d_Mark_parts := _, d_Mark_key := _, d_Mark_ahead := _, d_Mark_head := _, d_Mark_book := _, d_Mark_with_year := _, d_Mark_with_copy := _, d_Mark_same_book := _, d_kept_makers := _, d_text_of := _, d_l_pool := _, d_l_take := _, d_l_figures := _, d_l_maker := _, d_l_parts := _, d_l_near_word := _, d_l_near_makers := _, d_l_near_year := _, d_l_near_copy := _, d_l_near := _, d_l_mark := _, d_l_key := _, d_l_order := _, d_l_whole := _, d_l_both_ways := _, d_law := _, C_Mark := C_Mark } :=
    { F_order := F_order,
      g_order := PySem.W.mg_of X G a_order,
      b_order := b_order,
      F_is_number := F_is_number,
      g_is_number := PySem.W.mg_of X G a_is_number,
      b_is_number := b_is_number,
      F_is_whole := F_is_whole,
      g_is_whole := PySem.W.mg_of X G a_is_whole,
      b_is_whole := b_is_whole,
      b_is_whole_2 := b_is_whole_2e,
      F_is_figures := F_is_figures,
      g_is_figures := PySem.W.mg_of X G a_is_figures,
      b_is_figures := b_is_figures,
      F_is_letters := F_is_letters,
      g_is_letters := PySem.W.mg_of X G a_is_letters,
      b_is_letters := b_is_letters,
      F_is_points := F_is_points,
      g_is_points := PySem.W.mg_of X G a_is_points,
      b_is_points := b_is_points,
      F_is_maker := F_is_maker,
      g_is_maker := PySem.W.mg_of X G a_is_maker,
      b_is_maker := b_is_maker,
      F_is_ended := F_is_ended,
      g_is_ended := PySem.W.mg_of X G a_is_ended,
      b_is_ended := b_is_ended,
      F_Mark_init := F_Mark_init,
      b_Mark_init := b_Mark_init,
      b_Mark_init_k3_points_makers_year_copy := b_Mark_init_k3_points_makers_year_copyf,
      b_Mark_init_4 := b_Mark_init_4e,
      F_Mark_eq := F_Mark_eq,
      m_Mark_eq := ⟨a_Mark_eq, i_Mark_eq, k_Mark_eq⟩,
      b_Mark_eq := b_Mark_eq,
      F_Mark_str := F_Mark_str,
      m_Mark_str := ⟨a_Mark_str, i_Mark_str, k_Mark_str⟩,
      b_Mark_str := b_Mark_str,
      F_Mark_repr := F_Mark_repr,
      m_Mark_repr := ⟨a_Mark_repr, i_Mark_repr, k_Mark_repr⟩,
      b_Mark_repr := b_Mark_repr,
      F_Mark_len := F_Mark_len,
      m_Mark_len := ⟨a_Mark_len, i_Mark_len, k_Mark_len⟩,
      b_Mark_len := b_Mark_len,
      F_Mark_letters := F_Mark_letters,
      m_Mark_letters := ⟨a_Mark_letters, i_Mark_letters, k_Mark_letters⟩,
      b_Mark_letters := b_Mark_letters,
      F_Mark_number := F_Mark_number,
      m_Mark_number := ⟨a_Mark_number, i_Mark_number, k_Mark_number⟩,
      b_Mark_number := b_Mark_number,
      F_Mark_points := F_Mark_points,
      m_Mark_points := ⟨a_Mark_points, i_Mark_points, k_Mark_points⟩,
      b_Mark_points := b_Mark_points,
      F_Mark_makers := F_Mark_makers,
      m_Mark_makers := ⟨a_Mark_makers, i_Mark_makers, k_Mark_makers⟩,
      b_Mark_makers := b_Mark_makers,
      F_Mark_year := F_Mark_year,
      m_Mark_year := ⟨a_Mark_year, i_Mark_year, k_Mark_year⟩,
      b_Mark_year := b_Mark_year,
      F_Mark_copy_number := F_Mark_copy_number,
      m_Mark_copy_number := ⟨a_Mark_copy_number, i_Mark_copy_number, k_Mark_copy_number⟩,
      b_Mark_copy_number := b_Mark_copy_number,
      F_Mark_parts := F_Mark_parts,
      m_Mark_parts := ⟨a_Mark_parts, i_Mark_parts, k_Mark_parts⟩,
      b_Mark_parts := b_Mark_parts,
      F_Mark_key := F_Mark_key,
      m_Mark_key := ⟨a_Mark_key, i_Mark_key, k_Mark_key⟩,
      b_Mark_key := b_Mark_key,
      F_Mark_ahead := F_Mark_ahead,
      m_Mark_ahead := ⟨a_Mark_ahead, i_Mark_ahead, k_Mark_ahead⟩,
      b_Mark_ahead := b_Mark_ahead,
      F_Mark_head := F_Mark_head,
      m_Mark_head := ⟨a_Mark_head, i_Mark_head, k_Mark_head⟩,
      b_Mark_head := b_Mark_head,
      F_Mark_book := F_Mark_book,
      m_Mark_book := ⟨a_Mark_book, i_Mark_book, k_Mark_book⟩,
      b_Mark_book := b_Mark_book,
      F_Mark_with_year := F_Mark_with_year,
      m_Mark_with_year := ⟨a_Mark_with_year, i_Mark_with_year, k_Mark_with_year⟩,
      b_Mark_with_year := b_Mark_with_year,
      F_Mark_with_copy := F_Mark_with_copy,
      m_Mark_with_copy := ⟨a_Mark_with_copy, i_Mark_with_copy, k_Mark_with_copy⟩,
      b_Mark_with_copy := b_Mark_with_copy,
      F_Mark_same_book := F_Mark_same_book,
      m_Mark_same_book := ⟨a_Mark_same_book, i_Mark_same_book, k_Mark_same_book⟩,
      b_Mark_same_book := b_Mark_same_book,
      F_kept_makers := F_kept_makers,
      g_kept_makers := PySem.W.mg_of X G a_kept_makers,
      b_kept_makers := b_kept_makers,
      F_text_of := F_text_of,
      g_text_of := PySem.W.mg_of X G a_text_of,
      b_text_of := b_text_of,
      F_l_pool := F_l_pool,
      g_l_pool := PySem.W.mg_of X G a_l_pool,
      b_l_pool := b_l_pool,
      F_l_take := F_l_take,
      g_l_take := PySem.W.mg_of X G a_l_take,
      b_l_take := b_l_take,
      F_l_figures := F_l_figures,
      g_l_figures := PySem.W.mg_of X G a_l_figures,
      b_l_figures := b_l_figures,
      F_l_maker := F_l_maker,
      g_l_maker := PySem.W.mg_of X G a_l_maker,
      b_l_maker := b_l_maker,
      F_l_parts := F_l_parts,
      g_l_parts := PySem.W.mg_of X G a_l_parts,
      b_l_parts := b_l_parts,
      F_l_near_word := F_l_near_word,
      g_l_near_word := PySem.W.mg_of X G a_l_near_word,
      b_l_near_word := b_l_near_word,
      F_l_near_makers := F_l_near_makers,
      g_l_near_makers := PySem.W.mg_of X G a_l_near_makers,
      b_l_near_makers := b_l_near_makers,
      F_l_near_year := F_l_near_year,
      g_l_near_year := PySem.W.mg_of X G a_l_near_year,
      b_l_near_year := b_l_near_year,
      F_l_near_copy := F_l_near_copy,
      g_l_near_copy := PySem.W.mg_of X G a_l_near_copy,
      b_l_near_copy := b_l_near_copy,
      F_l_near := F_l_near,
      g_l_near := PySem.W.mg_of X G a_l_near,
      b_l_near := b_l_near,
      F_l_mark := F_l_mark,
      g_l_mark := PySem.W.mg_of X G a_l_mark,
      b_l_mark := b_l_mark,
      F_l_key := F_l_key,
      g_l_key := PySem.W.mg_of X G a_l_key,
      b_l_key := b_l_key,
      F_l_order := F_l_order,
      g_l_order := PySem.W.mg_of X G a_l_order,
      b_l_order := b_l_order,
      F_l_whole := F_l_whole,
      g_l_whole := PySem.W.mg_of X G a_l_whole,
      b_l_whole := b_l_whole,
      F_l_both_ways := F_l_both_ways,
      g_l_both_ways := PySem.W.mg_of X G a_l_both_ways,
      b_l_both_ways := b_l_both_ways,
      F_law := F_law,
      g_law := PySem.W.mg_of X G a_law,
      b_law := b_law,
      g_Mark := PySem.W.mg_of X G aC_Mark,
      cl_Mark := ⟨pg_Mark, hd_Mark, po_Mark, sa_Mark⟩,
      M_Mark := ⟨mk_Mark, a_Mark_init, i_Mark_init, kc_Mark⟩,
      t1_Mark := t1_Mark,
      t2_Mark := t2_Mark,
      t3_Mark := t3_Mark,
      t4_Mark := t4_Mark,
      na_Mark_parts := na_Mark_parts,
      na_Mark_text := na_Mark_text,
      n_len := PySem.W.mg_none_of X G z_len,
      n_isinstance := PySem.W.mg_none_of X G z_isinstance,
      n_range := PySem.W.mg_none_of X G z_range,
      n_max := PySem.W.mg_none_of X G z_max,
      n_int := PySem.W.mg_none_of X G z_int,
      n_bool := PySem.W.mg_none_of X G z_bool,
      n_str := PySem.W.mg_none_of X G z_str,
      n_list := PySem.W.mg_none_of X G z_list,
      n_tuple := PySem.W.mg_none_of X G z_tuple,
      c_SMALL := ⟨_, PySem.W.mg_of X G q_SMALL⟩ }
  exact ⟨PySem.W.fnOf "law" "law" (defArgs s_law) (defBody s_law) (defScope s_law) .none kV_law dc_law pm_law an_law cd_law ct_law, fun s v => .of_eq rfl, fun base _ _ => ok_law T⟩
theorem walk {l : PySem.W.OpenLaw} {q : Program} {loose : List Str} {XP : (Str → Option Value) → Heap → Prop} {YP : World → Heap → Prop} {d : DefRec} {K : Params → PySem.W.Frag} (hn : l.most = some 63) (hdf : d.params.defaults = [])
    (hY : ∀ (w : World) (h : Heap), YP w h → (K w.params).In h)
    (F : ∀ (w : World) (mg : Str → Option Value) (fa : Addr) (h : Heap), (K w.params).In h → h.Ns mainGlobals mg → mg d.name = some (.ref fa) →
      ∃ fd : FuncData, (∀ (s : Shared) (u : Value), BindsTo s fd ⟨[u], []⟩ [("_law_script", u)]) ∧ ∀ base : Heap, (K w.params).In base → base.Ns mainGlobals mg → FnOk l.prog w (K w.params) mg base CX0 10 fa fd ["_law_script"] (spLaw (K w.params))) :
    PySem.W.WalkO q loose XP YP l.row.toRowW d [] (fun f vs => PySem.call f vs) :=
  L2.walk_of (n := 63) (k := 10) (x := "_law_script") (CX := fun _ => CX0) (sp := fun w => spLaw (K w.params)) hn (by decide) hdf ⟨rfl, by decide, by decide⟩ hY F (fun _ _ a ns hl _ hS => ⟨a, ns, rfl, hS, hl, fun _ => rfl⟩) fun _ _ _ _ _ z => z
end My
open PySem PySem.W PyProof.Rows in
set_option maxRecDepth 100000 in
set_option maxHeartbeats 0 in
theorem PySem.Challenge.cw_spinemarks_k13_order_of_two_holds : PySem.Challenge.rw_spinemarks_k13_order_of_two.Holds := by
  w_on; o_law; k_head; (case hw => w_witness2)
  k_fill
  refine My.walk (l := PySem.Challenge.rw_spinemarks_k13_order_of_two) rfl rfl (fun w h Y => PySem.W.kIn_of Y) ?F
  case F =>
    intro w mg fa h KX G hmg
    refine' My.all_mk KX G hmg ?aC_Mark ?pg_Mark ?hd_Mark ?po_Mark ?sa_Mark ?mk_Mark ?kc_Mark ?t1_Mark ?t4_Mark ?t2_Mark ?t3_Mark ?na_Mark_parts ?na_Mark_text ?a_order ?l_order ?c_order ?k_order ?a_is_number ?l_is_number ?c_is_number ?k_is_number ?a_is_whole ?l_is_whole ?c_is_whole ?k_is_whole ?e_is_whole ?x_is_whole ?v_is_whole ?a_is_figures ?l_is_figures ?c_is_figures ?k_is_figures ?a_is_letters ?l_is_letters ?c_is_letters ?k_is_letters ?a_is_points ?l_is_points ?c_is_points ?k_is_points ?a_is_maker ?l_is_maker ?c_is_maker ?k_is_maker ?a_is_ended ?l_is_ended ?c_is_ended ?k_is_ended ?a_Mark_init ?i_Mark_init ?l_Mark_init ?c_Mark_init ?k_Mark_init ?e_Mark_init ?x_Mark_init ?v_Mark_init ?a_Mark_eq ?i_Mark_eq ?l_Mark_eq ?c_Mark_eq ?k_Mark_eq ?a_Mark_str ?i_Mark_str ?l_Mark_str ?c_Mark_str ?k_Mark_str ?a_Mark_repr ?i_Mark_repr ?l_Mark_repr ?c_Mark_repr ?k_Mark_repr ?a_Mark_len ?i_Mark_len ?l_Mark_len ?c_Mark_len ?k_Mark_len ?a_Mark_letters ?i_Mark_letters ?l_Mark_letters ?c_Mark_letters ?k_Mark_letters ?a_Mark_number ?i_Mark_number ?l_Mark_number ?c_Mark_number ?k_Mark_number ?a_Mark_points ?i_Mark_points ?l_Mark_points ?c_Mark_points ?k_Mark_points ?a_Mark_makers ?i_Mark_makers ?l_Mark_makers ?c_Mark_makers ?k_Mark_makers ?a_Mark_year ?i_Mark_year ?l_Mark_year ?c_Mark_year ?k_Mark_year ?a_Mark_copy_number ?i_Mark_copy_number ?l_Mark_copy_number ?c_Mark_copy_number ?k_Mark_copy_number ?a_Mark_parts ?i_Mark_parts ?l_Mark_parts ?c_Mark_parts ?k_Mark_parts ?a_Mark_key ?i_Mark_key ?l_Mark_key ?c_Mark_key ?k_Mark_key ?a_Mark_ahead ?i_Mark_ahead ?l_Mark_ahead ?c_Mark_ahead ?k_Mark_ahead ?a_Mark_head ?i_Mark_head ?l_Mark_head ?c_Mark_head ?k_Mark_head ?a_Mark_book ?i_Mark_book ?l_Mark_book ?c_Mark_book ?k_Mark_book ?a_Mark_with_year ?i_Mark_with_year ?l_Mark_with_year ?c_Mark_with_year ?k_Mark_with_year ?e_Mark_with_year ?x_Mark_with_year ?v_Mark_with_year ?a_Mark_with_copy ?i_Mark_with_copy ?l_Mark_with_copy ?c_Mark_with_copy ?k_Mark_with_copy ?e_Mark_with_copy ?x_Mark_with_copy ?v_Mark_with_copy ?a_Mark_same_book ?i_Mark_same_book ?l_Mark_same_book ?c_Mark_same_book ?k_Mark_same_book ?a_kept_makers ?l_kept_makers ?c_kept_makers ?k_kept_makers ?a_text_of ?l_text_of ?c_text_of ?k_text_of ?a_l_pool ?l_l_pool ?c_l_pool ?k_l_pool ?a_l_take ?l_l_take ?c_l_take ?k_l_take ?a_l_figures ?l_l_figures ?c_l_figures ?k_l_figures ?a_l_maker ?l_l_maker ?c_l_maker ?k_l_maker ?a_l_parts ?l_l_parts ?c_l_parts ?k_l_parts ?a_l_near_word ?l_l_near_word ?c_l_near_word ?k_l_near_word ?a_l_near_makers ?l_l_near_makers ?c_l_near_makers ?k_l_near_makers ?a_l_near_year ?l_l_near_year ?c_l_near_year ?k_l_near_year ?a_l_near_copy ?l_l_near_copy ?c_l_near_copy ?k_l_near_copy ?a_l_near ?l_l_near ?c_l_near ?k_l_near ?a_l_mark ?l_l_mark ?c_l_mark ?k_l_mark ?a_l_key ?l_l_key ?c_l_key ?k_l_key ?a_l_order ?l_l_order ?c_l_order ?k_l_order ?a_l_whole ?l_l_whole ?c_l_whole ?k_l_whole ?a_l_both_ways ?l_l_both_ways ?c_l_both_ways ?k_l_both_ways ?a_law ?l_law ?c_law ?k_law ?z_len ?z_isinstance ?z_range ?z_max ?z_int ?z_bool ?z_str ?z_list ?z_tuple ?q_SMALL
    (case aC_Mark => k_is)
    (case pg_Mark => k_is)
    (case hd_Mark => k_is)
    (case po_Mark => k_is)
    (case sa_Mark => k_is)
    (case mk_Mark => k_is)
    (case kc_Mark => k_is)
    (case t1_Mark => k_is)
    (case t4_Mark => k_is)
    (case t2_Mark => k_is)
    (case t3_Mark => k_is)
    (case na_Mark_parts => k_is)
    (case na_Mark_text => k_is)
    (case a_order => k_is)
    (case l_order => k_is)
    (case c_order => k_is)
    (case k_order => k_is)
    (case a_is_number => k_is)
    (case l_is_number => k_is)
    (case c_is_number => k_is)
    (case k_is_number => k_is)
    (case a_is_whole => k_is)
    (case l_is_whole => k_is)
    (case c_is_whole => k_is)
    (case k_is_whole => k_is)
    (case e_is_whole => k_is)
    (case x_is_whole => first | rfl | k_is)
    (case v_is_whole => first | (repeat (first | exact .nil | refine .cons ?_ ?_ | rfl | exact ⟨_, rfl⟩)))
    (case a_is_figures => k_is)
    (case l_is_figures => k_is)
    (case c_is_figures => k_is)
    (case k_is_figures => k_is)
    (case a_is_letters => k_is)
    (case l_is_letters => k_is)
    (case c_is_letters => k_is)
    (case k_is_letters => k_is)
    (case a_is_points => k_is)
    (case l_is_points => k_is)
    (case c_is_points => k_is)
    (case k_is_points => k_is)
    (case a_is_maker => k_is)
    (case l_is_maker => k_is)
    (case c_is_maker => k_is)
    (case k_is_maker => k_is)
    (case a_is_ended => k_is)
    (case l_is_ended => k_is)
    (case c_is_ended => k_is)
    (case k_is_ended => k_is)
    (case a_Mark_init => k_is)
    (case i_Mark_init => k_is)
    (case l_Mark_init => k_is)
    (case c_Mark_init => k_is)
    (case k_Mark_init => k_is)
    (case e_Mark_init => k_is)
    (case x_Mark_init => first | rfl | k_is)
    (case v_Mark_init => first | (repeat (first | exact .nil | refine .cons ?_ ?_ | rfl | exact ⟨_, rfl⟩)))
    (case a_Mark_eq => k_is)
    (case i_Mark_eq => k_is)
    (case l_Mark_eq => k_is)
    (case c_Mark_eq => k_is)
    (case k_Mark_eq => k_is)
    (case a_Mark_str => k_is)
    (case i_Mark_str => k_is)
    (case l_Mark_str => k_is)
    (case c_Mark_str => k_is)
    (case k_Mark_str => k_is)
    (case a_Mark_repr => k_is)
    (case i_Mark_repr => k_is)
    (case l_Mark_repr => k_is)
    (case c_Mark_repr => k_is)
    (case k_Mark_repr => k_is)
    (case a_Mark_len => k_is)
    (case i_Mark_len => k_is)
    (case l_Mark_len => k_is)
    (case c_Mark_len => k_is)
    (case k_Mark_len => k_is)
    (case a_Mark_letters => k_is)
    (case i_Mark_letters => k_is)
    (case l_Mark_letters => k_is)
    (case c_Mark_letters => k_is)
    (case k_Mark_letters => k_is)
    (case a_Mark_number => k_is)
    (case i_Mark_number => k_is)
    (case l_Mark_number => k_is)
    (case c_Mark_number => k_is)
    (case k_Mark_number => k_is)
    (case a_Mark_points => k_is)
    (case i_Mark_points => k_is)
    (case l_Mark_points => k_is)
    (case c_Mark_points => k_is)
    (case k_Mark_points => k_is)
    (case a_Mark_makers => k_is)
    (case i_Mark_makers => k_is)
    (case l_Mark_makers => k_is)
    (case c_Mark_makers => k_is)
    (case k_Mark_makers => k_is)
    (case a_Mark_year => k_is)
    (case i_Mark_year => k_is)
    (case l_Mark_year => k_is)
    (case c_Mark_year => k_is)
    (case k_Mark_year => k_is)
    (case a_Mark_copy_number => k_is)
    (case i_Mark_copy_number => k_is)
    (case l_Mark_copy_number => k_is)
    (case c_Mark_copy_number => k_is)
    (case k_Mark_copy_number => k_is)
    (case a_Mark_parts => k_is)
    (case i_Mark_parts => k_is)
    (case l_Mark_parts => k_is)
    (case c_Mark_parts => k_is)
    (case k_Mark_parts => k_is)
    (case a_Mark_key => k_is)
    (case i_Mark_key => k_is)
    (case l_Mark_key => k_is)
    (case c_Mark_key => k_is)
    (case k_Mark_key => k_is)
    (case a_Mark_ahead => k_is)
    (case i_Mark_ahead => k_is)
    (case l_Mark_ahead => k_is)
    (case c_Mark_ahead => k_is)
    (case k_Mark_ahead => k_is)
    (case a_Mark_head => k_is)
    (case i_Mark_head => k_is)
    (case l_Mark_head => k_is)
    (case c_Mark_head => k_is)
    (case k_Mark_head => k_is)
    (case a_Mark_book => k_is)
    (case i_Mark_book => k_is)
    (case l_Mark_book => k_is)
    (case c_Mark_book => k_is)
    (case k_Mark_book => k_is)
    (case a_Mark_with_year => k_is)
    (case i_Mark_with_year => k_is)
    (case l_Mark_with_year => k_is)
    (case c_Mark_with_year => k_is)
    (case k_Mark_with_year => k_is)
    (case e_Mark_with_year => k_is)
    (case x_Mark_with_year => first | rfl | k_is)
    (case v_Mark_with_year => first | (repeat (first | exact .nil | refine .cons ?_ ?_ | rfl | exact ⟨_, rfl⟩)))
    (case a_Mark_with_copy => k_is)
    (case i_Mark_with_copy => k_is)
    (case l_Mark_with_copy => k_is)
    (case c_Mark_with_copy => k_is)
    (case k_Mark_with_copy => k_is)
    (case e_Mark_with_copy => k_is)
    (case x_Mark_with_copy => first | rfl | k_is)
    (case v_Mark_with_copy => first | (repeat (first | exact .nil | refine .cons ?_ ?_ | rfl | exact ⟨_, rfl⟩)))
    (case a_Mark_same_book => k_is)
    (case i_Mark_same_book => k_is)
    (case l_Mark_same_book => k_is)
    (case c_Mark_same_book => k_is)
    (case k_Mark_same_book => k_is)
    (case a_kept_makers => k_is)
    (case l_kept_makers => k_is)
    (case c_kept_makers => k_is)
    (case k_kept_makers => k_is)
    (case a_text_of => k_is)
    (case l_text_of => k_is)
    (case c_text_of => k_is)
    (case k_text_of => k_is)
    (case a_l_pool => k_is)
    (case l_l_pool => k_is)
    (case c_l_pool => k_is)
    (case k_l_pool => k_is)
    (case a_l_take => k_is)
    (case l_l_take => k_is)
    (case c_l_take => k_is)
    (case k_l_take => k_is)
    (case a_l_figures => k_is)
    (case l_l_figures => k_is)
    (case c_l_figures => k_is)
    (case k_l_figures => k_is)
    (case a_l_maker => k_is)
    (case l_l_maker => k_is)
    (case c_l_maker => k_is)
    (case k_l_maker => k_is)
    (case a_l_parts => k_is)
    (case l_l_parts => k_is)
    (case c_l_parts => k_is)
    (case k_l_parts => k_is)
    (case a_l_near_word => k_is)
    (case l_l_near_word => k_is)
    (case c_l_near_word => k_is)
    (case k_l_near_word => k_is)
    (case a_l_near_makers => k_is)
    (case l_l_near_makers => k_is)
    (case c_l_near_makers => k_is)
    (case k_l_near_makers => k_is)
    (case a_l_near_year => k_is)
    (case l_l_near_year => k_is)
    (case c_l_near_year => k_is)
    (case k_l_near_year => k_is)
    (case a_l_near_copy => k_is)
    (case l_l_near_copy => k_is)
    (case c_l_near_copy => k_is)
    (case k_l_near_copy => k_is)
    (case a_l_near => k_is)
    (case l_l_near => k_is)
    (case c_l_near => k_is)
    (case k_l_near => k_is)
    (case a_l_mark => k_is)
    (case l_l_mark => k_is)
    (case c_l_mark => k_is)
    (case k_l_mark => k_is)
    (case a_l_key => k_is)
    (case l_l_key => k_is)
    (case c_l_key => k_is)
    (case k_l_key => k_is)
    (case a_l_order => k_is)
    (case l_l_order => k_is)
    (case c_l_order => k_is)
    (case k_l_order => k_is)
    (case a_l_whole => k_is)
    (case l_l_whole => k_is)
    (case c_l_whole => k_is)
    (case k_l_whole => k_is)
    (case a_l_both_ways => k_is)
    (case l_l_both_ways => k_is)
    (case c_l_both_ways => k_is)
    (case k_l_both_ways => k_is)
    (case a_law => k_is)
    (case l_law => k_is)
    (case c_law => k_is)
    (case k_law => k_is)
    (case z_len => k_is)
    (case z_isinstance => k_is)
    (case z_range => k_is)
    (case z_max => k_is)
    (case z_int => k_is)
    (case z_bool => k_is)
    (case z_str => k_is)
    (case z_list => k_is)
    (case z_tuple => k_is)
    (case q_SMALL => k_is)
