import PyProof.Rows.All
import Wide.All
import OpenK.AllK
import Wide.FinOn
import HandS.ForMost
import HandS.More
import HandS.IsInst
import HandS.Defaults
import HandS.Wide
import HandS.Flow
import HandS.Walk
import HandS.Evl
import HandS.FStr
import HandS.Star
import HandS.StrMore
import HandS.TupAny
import HandS.MakeKw
import HandS.MakeKwOnly
import HandS.Style
import HandS.RaiseMore
import KE.LtData
import KE.IntTextLaws
import KE.IntTextText
import KE.KIntText
import KE.KUnpackStar
import HandS.IterVal
import KE.GoesMore
import KE.GoesZip
import KE.GoesEnum
import KE.SortKeyHeap
import KE.DataCmp
import HandS.Keys
import HandS.SortKw
import HandS.Small
import HandS.ExcInit
import HandS.WordsExc
import HandS.ExcField
import HandS.ExcIs
import HandS.TryMany
import HandS.CallSlots
import HandS.ForExc
import HandS.ExcInitHot
import PySem.Challenge.RW_spinemarks_k18_filed
set_option Elab.async false
set_option linter.all false
set_option maxRecDepth 100000
set_option maxHeartbeats 4000000
set_option pp.maxSteps 400
set_option pp.deepTerms false


namespace My
open PySem PySem.Spec PyProof.Rows L2 Evl
def top (i : Nat) : Stmt := PySem.Challenge.pw_spinemarks_k18_filed.main.body.getD i (.Pass ⟨0, 0, 0, 0⟩)
abbrev s_NoLetters_init : Stmt := inClass (top 3) 0
theorem sc_NoLetters_init : FnScope ["self", "found"] ["self", "found"] (defScope s_NoLetters_init) := ⟨rfl, rfl, rfl, by decide +kernel, rfl, by decide +kernel, by decide +kernel⟩
abbrev s_NoNumber_init : Stmt := inClass (top 4) 0
theorem sc_NoNumber_init : FnScope ["self", "found"] ["self", "found"] (defScope s_NoNumber_init) := ⟨rfl, rfl, rfl, by decide +kernel, rfl, by decide +kernel, by decide +kernel⟩
abbrev s_NoPoints_init : Stmt := inClass (top 5) 0
theorem sc_NoPoints_init : FnScope ["self", "found"] ["self", "found"] (defScope s_NoPoints_init) := ⟨rfl, rfl, rfl, by decide +kernel, rfl, by decide +kernel, by decide +kernel⟩
abbrev s_NoMakers_init : Stmt := inClass (top 6) 0
theorem sc_NoMakers_init : FnScope ["self", "found"] ["self", "found"] (defScope s_NoMakers_init) := ⟨rfl, rfl, rfl, by decide +kernel, rfl, by decide +kernel, by decide +kernel⟩
abbrev s_NoMaker_init : Stmt := inClass (top 7) 0
theorem sc_NoMaker_init : FnScope ["self", "found"] ["self", "found"] (defScope s_NoMaker_init) := ⟨rfl, rfl, rfl, by decide +kernel, rfl, by decide +kernel, by decide +kernel⟩
abbrev s_NoYear_init : Stmt := inClass (top 8) 0
theorem sc_NoYear_init : FnScope ["self", "found"] ["self", "found"] (defScope s_NoYear_init) := ⟨rfl, rfl, rfl, by decide +kernel, rfl, by decide +kernel, by decide +kernel⟩
abbrev s_NoCopy_init : Stmt := inClass (top 9) 0
theorem sc_NoCopy_init : FnScope ["self", "found"] ["self", "found"] (defScope s_NoCopy_init) := ⟨rfl, rfl, rfl, by decide +kernel, rfl, by decide +kernel, by decide +kernel⟩
abbrev s_NoText_init : Stmt := inClass (top 10) 0
theorem sc_NoText_init : FnScope ["self", "found"] ["self", "found"] (defScope s_NoText_init) := ⟨rfl, rfl, rfl, by decide +kernel, rfl, by decide +kernel, by decide +kernel⟩
abbrev s_is_number : Stmt := top 14
theorem sc_is_number : FnScope ["thing"] ["thing"] (defScope s_is_number) := ⟨rfl, rfl, rfl, by decide +kernel, rfl, by decide +kernel, by decide +kernel⟩
abbrev s_is_whole : Stmt := top 15
theorem sc_is_whole : FnScope ["thing", "low", "high"] ["thing", "low", "high"] (defScope s_is_whole) := ⟨rfl, rfl, rfl, by decide +kernel, rfl, by decide +kernel, by decide +kernel⟩
abbrev s_is_figures : Stmt := top 16
theorem sc_is_figures : FnScope ["text"] ["text"] (defScope s_is_figures) := ⟨rfl, rfl, rfl, by decide +kernel, rfl, by decide +kernel, by decide +kernel⟩
abbrev s_is_letters : Stmt := top 17
theorem sc_is_letters : FnScope ["thing", "most"] ["thing", "most"] (defScope s_is_letters) := ⟨rfl, rfl, rfl, by decide +kernel, rfl, by decide +kernel, by decide +kernel⟩
abbrev s_is_points : Stmt := top 18
theorem sc_is_points : FnScope ["thing"] ["thing"] (defScope s_is_points) := ⟨rfl, rfl, rfl, by decide +kernel, rfl, by decide +kernel, by decide +kernel⟩
abbrev s_is_maker : Stmt := top 19
theorem sc_is_maker : FnScope ["thing"] ["thing"] (defScope s_is_maker) := ⟨rfl, rfl, rfl, by decide +kernel, rfl, by decide +kernel, by decide +kernel⟩
abbrev s_is_ended : Stmt := top 20
theorem sc_is_ended : FnScope ["text"] ["text"] (defScope s_is_ended) := ⟨rfl, rfl, rfl, by decide +kernel, rfl, by decide +kernel, by decide +kernel⟩
abbrev s_Mark_init : Stmt := inClass (top 22) 0
theorem sc_Mark_init : FnScope ["self", "letters", "number", "points", "makers", "year", "copy", "kept"] ["self", "letters", "number", "points", "makers", "year", "copy"] (defScope s_Mark_init) := ⟨rfl, rfl, rfl, by decide +kernel, rfl, by decide +kernel, by decide +kernel⟩
abbrev s_Mark_eq : Stmt := inClass (top 22) 1
theorem sc_Mark_eq : FnScope ["self", "other"] ["self", "other"] (defScope s_Mark_eq) := ⟨rfl, rfl, rfl, by decide +kernel, rfl, by decide +kernel, by decide +kernel⟩
abbrev s_Mark_str : Stmt := inClass (top 22) 2
theorem sc_Mark_str : FnScope ["self"] ["self"] (defScope s_Mark_str) := ⟨rfl, rfl, rfl, by decide +kernel, rfl, by decide +kernel, by decide +kernel⟩
abbrev s_Mark_repr : Stmt := inClass (top 22) 3
theorem sc_Mark_repr : FnScope ["self"] ["self"] (defScope s_Mark_repr) := ⟨rfl, rfl, rfl, by decide +kernel, rfl, by decide +kernel, by decide +kernel⟩
abbrev s_Mark_len : Stmt := inClass (top 22) 4
theorem sc_Mark_len : FnScope ["self"] ["self"] (defScope s_Mark_len) := ⟨rfl, rfl, rfl, by decide +kernel, rfl, by decide +kernel, by decide +kernel⟩
abbrev s_Mark_letters : Stmt := inClass (top 22) 5
theorem sc_Mark_letters : FnScope ["self"] ["self"] (defScope s_Mark_letters) := ⟨rfl, rfl, rfl, by decide +kernel, rfl, by decide +kernel, by decide +kernel⟩
abbrev s_Mark_number : Stmt := inClass (top 22) 6
theorem sc_Mark_number : FnScope ["self"] ["self"] (defScope s_Mark_number) := ⟨rfl, rfl, rfl, by decide +kernel, rfl, by decide +kernel, by decide +kernel⟩
abbrev s_Mark_points : Stmt := inClass (top 22) 7
theorem sc_Mark_points : FnScope ["self"] ["self"] (defScope s_Mark_points) := ⟨rfl, rfl, rfl, by decide +kernel, rfl, by decide +kernel, by decide +kernel⟩
abbrev s_Mark_makers : Stmt := inClass (top 22) 8
theorem sc_Mark_makers : FnScope ["self"] ["self"] (defScope s_Mark_makers) := ⟨rfl, rfl, rfl, by decide +kernel, rfl, by decide +kernel, by decide +kernel⟩
abbrev s_Mark_year : Stmt := inClass (top 22) 9
theorem sc_Mark_year : FnScope ["self"] ["self"] (defScope s_Mark_year) := ⟨rfl, rfl, rfl, by decide +kernel, rfl, by decide +kernel, by decide +kernel⟩
abbrev s_Mark_copy_number : Stmt := inClass (top 22) 10
theorem sc_Mark_copy_number : FnScope ["self"] ["self"] (defScope s_Mark_copy_number) := ⟨rfl, rfl, rfl, by decide +kernel, rfl, by decide +kernel, by decide +kernel⟩
abbrev s_Mark_parts : Stmt := inClass (top 22) 11
theorem sc_Mark_parts : FnScope ["self"] ["self"] (defScope s_Mark_parts) := ⟨rfl, rfl, rfl, by decide +kernel, rfl, by decide +kernel, by decide +kernel⟩
abbrev s_Mark_key : Stmt := inClass (top 22) 12
theorem sc_Mark_key : FnScope ["self"] ["self"] (defScope s_Mark_key) := ⟨rfl, rfl, rfl, by decide +kernel, rfl, by decide +kernel, by decide +kernel⟩
abbrev s_Mark_ahead : Stmt := inClass (top 22) 13
theorem sc_Mark_ahead : FnScope ["self", "other"] ["self", "other"] (defScope s_Mark_ahead) := ⟨rfl, rfl, rfl, by decide +kernel, rfl, by decide +kernel, by decide +kernel⟩
abbrev s_Mark_head : Stmt := inClass (top 22) 14
theorem sc_Mark_head : FnScope ["self", "letters", "number", "points", "_"] ["self"] (defScope s_Mark_head) := ⟨rfl, rfl, rfl, by decide +kernel, rfl, by decide +kernel, by decide +kernel⟩
abbrev s_Mark_book : Stmt := inClass (top 22) 15
theorem sc_Mark_book : FnScope ["self"] ["self"] (defScope s_Mark_book) := ⟨rfl, rfl, rfl, by decide +kernel, rfl, by decide +kernel, by decide +kernel⟩
abbrev s_Mark_with_year : Stmt := inClass (top 22) 16
theorem sc_Mark_with_year : FnScope ["self", "year"] ["self", "year"] (defScope s_Mark_with_year) := ⟨rfl, rfl, rfl, by decide +kernel, rfl, by decide +kernel, by decide +kernel⟩
abbrev s_Mark_with_copy : Stmt := inClass (top 22) 17
theorem sc_Mark_with_copy : FnScope ["self", "copy"] ["self", "copy"] (defScope s_Mark_with_copy) := ⟨rfl, rfl, rfl, by decide +kernel, rfl, by decide +kernel, by decide +kernel⟩
abbrev s_Mark_same_book : Stmt := inClass (top 22) 18
theorem sc_Mark_same_book : FnScope ["self", "other"] ["self", "other"] (defScope s_Mark_same_book) := ⟨rfl, rfl, rfl, by decide +kernel, rfl, by decide +kernel, by decide +kernel⟩
abbrev s_kept_makers : Stmt := top 23
theorem sc_kept_makers : FnScope ["makers", "maker"] ["makers"] (defScope s_kept_makers) := ⟨rfl, rfl, rfl, by decide +kernel, rfl, by decide +kernel, by decide +kernel⟩
abbrev s_text_of : Stmt := top 24
theorem sc_text_of : FnScope ["parts", "letters", "number", "points", "makers", "year", "copy", "head", "words"] ["parts"] (defScope s_text_of) := ⟨rfl, rfl, rfl, by decide +kernel, rfl, by decide +kernel, by decide +kernel⟩
abbrev s_filed : Stmt := top 28
theorem sc_filed : FnScope ["mark", "letters", "number", "points", "makers", "year", "copy", "head", "dated"] ["mark"] (defScope s_filed) := ⟨rfl, rfl, rfl, by decide +kernel, rfl, by decide +kernel, by decide +kernel⟩
abbrev s_unfiled : Stmt := top 29
theorem sc_unfiled : FnScope ["text"] ["text"] (defScope s_unfiled) := ⟨rfl, rfl, rfl, by decide +kernel, rfl, by decide +kernel, by decide +kernel⟩
abbrev s_filed_copy : Stmt := top 30
theorem sc_filed_copy : FnScope ["copy", "figures"] ["copy"] (defScope s_filed_copy) := ⟨rfl, rfl, rfl, by decide +kernel, rfl, by decide +kernel, by decide +kernel⟩
abbrev s_filed_count : Stmt := top 31
theorem sc_filed_count : FnScope ["figures"] ["figures"] (defScope s_filed_count) := ⟨rfl, rfl, rfl, by decide +kernel, rfl, by decide +kernel, by decide +kernel⟩
abbrev s_mark_of : Stmt := top 32
theorem sc_mark_of : FnScope ["text", "number", "points", "words", "makers", "last", "year", "copy"] ["text"] (defScope s_mark_of) := ⟨rfl, rfl, rfl, by decide +kernel, rfl, by decide +kernel, by decide +kernel⟩
abbrev s_copy_of : Stmt := top 33
theorem sc_copy_of : FnScope ["text", "figures"] ["text"] (defScope s_copy_of) := ⟨rfl, rfl, rfl, by decide +kernel, rfl, by decide +kernel, by decide +kernel⟩
abbrev s_l_pool : Stmt := top 35
theorem sc_l_pool : FnScope ["_law_cell", "_law_number", "_law_k", "_law_mix"] ["_law_cell"] (defScope s_l_pool) := ⟨rfl, rfl, rfl, by decide +kernel, rfl, by decide +kernel, by decide +kernel⟩
abbrev s_l_take : Stmt := top 36
theorem sc_l_take : FnScope ["_law_pool_here", "_law_size", "_law_found"] ["_law_pool_here", "_law_size"] (defScope s_l_take) := ⟨rfl, rfl, rfl, by decide +kernel, rfl, by decide +kernel, by decide +kernel⟩
abbrev s_l_figures : Stmt := top 37
theorem sc_l_figures : FnScope ["_law_pool_here", "_law_most", "_law_signs", "_law_k"] ["_law_pool_here", "_law_most"] (defScope s_l_figures) := ⟨rfl, rfl, rfl, by decide +kernel, rfl, by decide +kernel, by decide +kernel⟩
abbrev s_l_maker : Stmt := top 38
theorem sc_l_maker : FnScope ["_law_pool_here", "_law_most", "_law_letter"] ["_law_pool_here", "_law_most"] (defScope s_l_maker) := ⟨rfl, rfl, rfl, by decide +kernel, rfl, by decide +kernel, by decide +kernel⟩
abbrev s_l_parts : Stmt := top 39
theorem sc_l_parts : FnScope ["_law_pool_here", "_law_most", "_law_letters_here", "_law_k", "_law_number", "_law_tens", "_law_hands", "_law_age", "_law_twin"] ["_law_pool_here"] (defScope s_l_parts) := ⟨rfl, rfl, rfl, by decide +kernel, rfl, by decide +kernel, by decide +kernel⟩
abbrev s_l_near_word : Stmt := top 40
theorem sc_l_near_word : FnScope ["_law_word", "_law_pool_here", "_law_more", "_law_kept"] ["_law_word", "_law_pool_here"] (defScope s_l_near_word) := ⟨rfl, rfl, rfl, by decide +kernel, rfl, by decide +kernel, by decide +kernel⟩
abbrev s_l_near_makers : Stmt := top 41
theorem sc_l_near_makers : FnScope ["_law_hands", "_law_pool_here", "_law_way", "_law_kept", "_law_maker_here"] ["_law_hands", "_law_pool_here"] (defScope s_l_near_makers) := ⟨rfl, rfl, rfl, by decide +kernel, rfl, by decide +kernel, by decide +kernel⟩
abbrev s_l_near_year : Stmt := top 42
theorem sc_l_near_year : FnScope ["_law_age", "_law_pool_here", "_law_way"] ["_law_age", "_law_pool_here"] (defScope s_l_near_year) := ⟨rfl, rfl, rfl, by decide +kernel, rfl, by decide +kernel, by decide +kernel⟩
abbrev s_l_near_copy : Stmt := top 43
theorem sc_l_near_copy : FnScope ["_law_twin", "_law_pool_here", "_law_digits"] ["_law_twin", "_law_pool_here"] (defScope s_l_near_copy) := ⟨rfl, rfl, rfl, by decide +kernel, rfl, by decide +kernel, by decide +kernel⟩
abbrev s_l_near : Stmt := top 44
theorem sc_l_near : FnScope ["_law_parts_here", "_law_at", "_law_pool_here", "_law_tail", "_law_row"] ["_law_parts_here", "_law_at", "_law_pool_here"] (defScope s_l_near) := ⟨rfl, rfl, rfl, by decide +kernel, rfl, by decide +kernel, by decide +kernel⟩
abbrev s_l_mark : Stmt := top 45
theorem sc_l_mark : FnScope ["_law_parts_here"] ["_law_parts_here"] (defScope s_l_mark) := ⟨rfl, rfl, rfl, by decide +kernel, rfl, by decide +kernel, by decide +kernel⟩
abbrev s_l_key : Stmt := top 46
theorem sc_l_key : FnScope ["_law_parts_here", "_law_age", "_law_twin"] ["_law_parts_here"] (defScope s_l_key) := ⟨rfl, rfl, rfl, by decide +kernel, rfl, by decide +kernel, by decide +kernel⟩
abbrev s_l_filed : Stmt := top 48
theorem sc_l_filed : FnScope ["_law_parts_here", "_law_signs", "_law_maker_here", "_law_digits"] ["_law_parts_here"] (defScope s_l_filed) := ⟨rfl, rfl, rfl, by decide +kernel, rfl, by decide +kernel, by decide +kernel⟩
abbrev s_l_value : Stmt := top 49
theorem sc_l_value : FnScope ["_law_signs", "_law_sign_here"] ["_law_signs"] (defScope s_l_value) := ⟨rfl, rfl, rfl, by decide +kernel, rfl, by decide +kernel, by decide +kernel⟩
abbrev s_l_ending : Stmt := top 50
theorem sc_l_ending : FnScope ["_law_signs"] ["_law_signs"] (defScope s_l_ending) := ⟨rfl, rfl, rfl, by decide +kernel, rfl, by decide +kernel, by decide +kernel⟩
abbrev s_l_letters : Stmt := top 51
theorem sc_l_letters : FnScope ["_law_signs", "_law_word", "_law_sign_here"] ["_law_signs"] (defScope s_l_letters) := ⟨rfl, rfl, rfl, by decide +kernel, rfl, by decide +kernel, by decide +kernel⟩
abbrev s_l_read : Stmt := top 52
theorem sc_l_read : FnScope ["_law_signs", "_law_words", "_law_last", "_law_word", "_law_age", "_law_count", "_law_twin"] ["_law_signs"] (defScope s_l_read) := ⟨rfl, rfl, rfl, by decide +kernel, rfl, by decide +kernel, by decide +kernel⟩
abbrev s_l_sign : Stmt := top 53
theorem sc_l_sign : FnScope ["_law_pool_here", "_law_signs"] ["_law_pool_here"] (defScope s_l_sign) := ⟨rfl, rfl, rfl, by decide +kernel, rfl, by decide +kernel, by decide +kernel⟩
abbrev s_l_spoilt : Stmt := top 54
theorem sc_l_spoilt : FnScope ["_law_signs", "_law_way", "_law_place", "_law_sign_here", "_law_at", "_law_pair"] ["_law_signs", "_law_way", "_law_place", "_law_sign_here"] (defScope s_l_spoilt) := ⟨rfl, rfl, rfl, by decide +kernel, rfl, by decide +kernel, by decide +kernel⟩
abbrev s_l_refused : Stmt := top 55
theorem sc_l_refused : FnScope ["_law_thing", "e"] ["_law_thing"] (defScope s_l_refused) := ⟨rfl, rfl, rfl, by decide +kernel, rfl, by decide +kernel, by decide +kernel⟩
abbrev s_l_back : Stmt := top 56
theorem sc_l_back : FnScope ["_law_signs", "_law_parts_here", "_law_told", "_law_due"] ["_law_signs"] (defScope s_l_back) := ⟨rfl, rfl, rfl, by decide +kernel, rfl, by decide +kernel, by decide +kernel⟩
abbrev s_l_two : Stmt := top 57
theorem sc_l_two : FnScope ["_law_fore", "_law_mate", "_law_mine", "_law_theirs"] ["_law_fore", "_law_mate"] (defScope s_l_two) := ⟨rfl, rfl, rfl, by decide +kernel, rfl, by decide +kernel, by decide +kernel⟩
abbrev s_l_great : Stmt := top 58
theorem sc_l_great : FnScope ["_law_letters_here", "_law_more", "_law_number", "_law_digits", "_law_ahead", "_law_longer", "_law_many", "_law_signs", "_law_told"] ["_law_letters_here", "_law_more", "_law_number"] (defScope s_l_great) := ⟨rfl, rfl, rfl, by decide +kernel, rfl, by decide +kernel, by decide +kernel⟩
abbrev s_law : Stmt := top 59
theorem sc_law : FnScope ["_law_script", "_law_cell", "_law_pool_here", "_law_way", "_law_place", "_law_sign_here", "_law_at", "_law_fore", "_law_mate", "_law_signs", "_law_some", "_law_thing"] ["_law_script"] (defScope s_law) := ⟨rfl, rfl, rfl, by decide +kernel, rfl, by decide +kernel, by decide +kernel⟩
/-- where the defs and classes stand -/
structure Adr where
  (a_NoLetters_init a_NoNumber_init a_NoPoints_init a_NoMakers_init a_NoMaker_init a_NoYear_init a_NoCopy_init a_NoText_init a_is_number a_is_whole a_is_figures a_is_letters a_is_points a_is_maker a_is_ended a_Mark_init a_Mark_eq a_Mark_str a_Mark_repr a_Mark_len a_Mark_letters a_Mark_number a_Mark_points a_Mark_makers a_Mark_year a_Mark_copy_number a_Mark_parts a_Mark_key a_Mark_ahead a_Mark_head a_Mark_book a_Mark_with_year a_Mark_with_copy a_Mark_same_book a_kept_makers a_text_of a_filed a_unfiled a_filed_copy a_filed_count a_mark_of a_copy_of a_l_pool a_l_take a_l_figures a_l_maker a_l_parts a_l_near_word a_l_near_makers a_l_near_year a_l_near_copy a_l_near a_l_mark a_l_key a_l_filed a_l_value a_l_ending a_l_letters a_l_read a_l_sign a_l_spoilt a_l_refused a_l_back a_l_two a_l_great a_law : Addr)
  (d_NoLetters_init d_NoNumber_init d_NoPoints_init d_NoMakers_init d_NoMaker_init d_NoYear_init d_NoCopy_init d_NoText_init d_is_number d_is_whole d_is_figures d_is_letters d_is_points d_is_maker d_is_ended d_Mark_init d_Mark_eq d_Mark_str d_Mark_repr d_Mark_len d_Mark_letters d_Mark_number d_Mark_points d_Mark_makers d_Mark_year d_Mark_copy_number d_Mark_parts d_Mark_key d_Mark_ahead d_Mark_head d_Mark_book d_Mark_with_year d_Mark_with_copy d_Mark_same_book d_kept_makers d_text_of d_filed d_unfiled d_filed_copy d_filed_count d_mark_of d_copy_of d_l_pool d_l_take d_l_figures d_l_maker d_l_parts d_l_near_word d_l_near_makers d_l_near_year d_l_near_copy d_l_near d_l_mark d_l_key d_l_filed d_l_value d_l_ending d_l_letters d_l_read d_l_sign d_l_spoilt d_l_refused d_l_back d_l_two d_l_great d_law : FuncData)
  (C_Mark C_NoLetters C_NoNumber C_NoPoints C_NoMakers C_NoMaker C_NoYear C_NoCopy C_NoText C_MarkError C_Alike : Addr)
/-- what the top has written -/
structure Txt (K : PySem.W.Frag) (mg : Str → Option Value) (Z : Adr) : Prop where
  F_NoLetters_init : Fun K "__init__" "NoLetters.__init__" s_NoLetters_init Z.a_NoLetters_init Z.d_NoLetters_init
  b_NoLetters_init : Binds K Z.d_NoLetters_init ["self", "found"] []
  F_NoNumber_init : Fun K "__init__" "NoNumber.__init__" s_NoNumber_init Z.a_NoNumber_init Z.d_NoNumber_init
  b_NoNumber_init : Binds K Z.d_NoNumber_init ["self", "found"] []
  F_NoPoints_init : Fun K "__init__" "NoPoints.__init__" s_NoPoints_init Z.a_NoPoints_init Z.d_NoPoints_init
  b_NoPoints_init : Binds K Z.d_NoPoints_init ["self", "found"] []
  F_NoMakers_init : Fun K "__init__" "NoMakers.__init__" s_NoMakers_init Z.a_NoMakers_init Z.d_NoMakers_init
  b_NoMakers_init : Binds K Z.d_NoMakers_init ["self", "found"] []
  F_NoMaker_init : Fun K "__init__" "NoMaker.__init__" s_NoMaker_init Z.a_NoMaker_init Z.d_NoMaker_init
  b_NoMaker_init : Binds K Z.d_NoMaker_init ["self", "found"] []
  F_NoYear_init : Fun K "__init__" "NoYear.__init__" s_NoYear_init Z.a_NoYear_init Z.d_NoYear_init
  b_NoYear_init : Binds K Z.d_NoYear_init ["self", "found"] []
  F_NoCopy_init : Fun K "__init__" "NoCopy.__init__" s_NoCopy_init Z.a_NoCopy_init Z.d_NoCopy_init
  b_NoCopy_init : Binds K Z.d_NoCopy_init ["self", "found"] []
  F_NoText_init : Fun K "__init__" "NoText.__init__" s_NoText_init Z.a_NoText_init Z.d_NoText_init
  b_NoText_init : Binds K Z.d_NoText_init ["self", "found"] []
  F_is_number : Fun K "is_number" "is_number" s_is_number Z.a_is_number Z.d_is_number
  g_is_number : mg "is_number" = some (.ref Z.a_is_number)
  b_is_number : Binds K Z.d_is_number ["thing"] []
  F_is_whole : FunD K "is_whole" "is_whole" (defArgs s_is_whole) (defBody s_is_whole) (defScope s_is_whole) [.non] [] Z.a_is_whole Z.d_is_whole
  g_is_whole : mg "is_whole" = some (.ref Z.a_is_whole)
  b_is_whole : Binds K Z.d_is_whole ["thing", "low", "high"] []
  b_is_whole_2 : ∃ ds, Vals [.non] ds ∧ Binds K Z.d_is_whole ["thing", "low", "high"] ds
  F_is_figures : Fun K "is_figures" "is_figures" s_is_figures Z.a_is_figures Z.d_is_figures
  g_is_figures : mg "is_figures" = some (.ref Z.a_is_figures)
  b_is_figures : Binds K Z.d_is_figures ["text"] []
  F_is_letters : Fun K "is_letters" "is_letters" s_is_letters Z.a_is_letters Z.d_is_letters
  g_is_letters : mg "is_letters" = some (.ref Z.a_is_letters)
  b_is_letters : Binds K Z.d_is_letters ["thing", "most"] []
  F_is_points : Fun K "is_points" "is_points" s_is_points Z.a_is_points Z.d_is_points
  g_is_points : mg "is_points" = some (.ref Z.a_is_points)
  b_is_points : Binds K Z.d_is_points ["thing"] []
  F_is_maker : Fun K "is_maker" "is_maker" s_is_maker Z.a_is_maker Z.d_is_maker
  g_is_maker : mg "is_maker" = some (.ref Z.a_is_maker)
  b_is_maker : Binds K Z.d_is_maker ["thing"] []
  F_is_ended : Fun K "_is_ended" "_is_ended" s_is_ended Z.a_is_ended Z.d_is_ended
  g_is_ended : mg "_is_ended" = some (.ref Z.a_is_ended)
  b_is_ended : Binds K Z.d_is_ended ["text"] []
  F_Mark_init : FunD K "__init__" "Mark.__init__" (defArgs s_Mark_init) (defBody s_Mark_init) (defScope s_Mark_init) [.str Str.empty, .non, .non, .non] [] Z.a_Mark_init Z.d_Mark_init
  b_Mark_init : Binds K Z.d_Mark_init ["self", "letters", "number", "points", "makers", "year", "copy"] []
  b_Mark_init_k3_points_makers_year_copy : ∃ its : List Value, KBn K Z.d_Mark_init ["self", "letters", "number", "points", "makers", "year", "copy"] 3 ["points", "makers", "year", "copy"] (fun us ws => us ++ (ws.drop 0).take 1 ++ (ws.drop 1).take 1 ++ (ws.drop 2).take 1 ++ (ws.drop 3).take 1) (fun vs zs => vs ++ (zs.drop 0).take 1 ++ (zs.drop 1).take 1 ++ (zs.drop 2).take 1 ++ (zs.drop 3).take 1)
  b_Mark_init_3 : ∃ ds, Vals [.str Str.empty, .non, .non, .non] ds ∧ Binds K Z.d_Mark_init ["self", "letters", "number", "points", "makers", "year", "copy"] ds
  b_Mark_init_4 : ∃ ds, Vals [.non, .non, .non] ds ∧ Binds K Z.d_Mark_init ["self", "letters", "number", "points", "makers", "year", "copy"] ds
  F_Mark_eq : Fun K "__eq__" "Mark.__eq__" s_Mark_eq Z.a_Mark_eq Z.d_Mark_eq
  m_Mark_eq : Meth K Z.C_Mark "__eq__" Z.a_Mark_eq
  b_Mark_eq : Binds K Z.d_Mark_eq ["self", "other"] []
  F_Mark_str : Fun K "__str__" "Mark.__str__" s_Mark_str Z.a_Mark_str Z.d_Mark_str
  m_Mark_str : Meth K Z.C_Mark "__str__" Z.a_Mark_str
  b_Mark_str : Binds K Z.d_Mark_str ["self"] []
  F_Mark_repr : Fun K "__repr__" "Mark.__repr__" s_Mark_repr Z.a_Mark_repr Z.d_Mark_repr
  m_Mark_repr : Meth K Z.C_Mark "__repr__" Z.a_Mark_repr
  b_Mark_repr : Binds K Z.d_Mark_repr ["self"] []
  F_Mark_len : Fun K "__len__" "Mark.__len__" s_Mark_len Z.a_Mark_len Z.d_Mark_len
  m_Mark_len : Meth K Z.C_Mark "__len__" Z.a_Mark_len
  b_Mark_len : Binds K Z.d_Mark_len ["self"] []
  F_Mark_letters : Fun K "letters" "Mark.letters" s_Mark_letters Z.a_Mark_letters Z.d_Mark_letters
  m_Mark_letters : Meth K Z.C_Mark "letters" Z.a_Mark_letters
  b_Mark_letters : Binds K Z.d_Mark_letters ["self"] []
  F_Mark_number : Fun K "number" "Mark.number" s_Mark_number Z.a_Mark_number Z.d_Mark_number
  m_Mark_number : Meth K Z.C_Mark "number" Z.a_Mark_number
  b_Mark_number : Binds K Z.d_Mark_number ["self"] []
  F_Mark_points : Fun K "points" "Mark.points" s_Mark_points Z.a_Mark_points Z.d_Mark_points
  m_Mark_points : Meth K Z.C_Mark "points" Z.a_Mark_points
  b_Mark_points : Binds K Z.d_Mark_points ["self"] []
  F_Mark_makers : Fun K "makers" "Mark.makers" s_Mark_makers Z.a_Mark_makers Z.d_Mark_makers
  m_Mark_makers : Meth K Z.C_Mark "makers" Z.a_Mark_makers
  b_Mark_makers : Binds K Z.d_Mark_makers ["self"] []
  F_Mark_year : Fun K "year" "Mark.year" s_Mark_year Z.a_Mark_year Z.d_Mark_year
  m_Mark_year : Meth K Z.C_Mark "year" Z.a_Mark_year
  b_Mark_year : Binds K Z.d_Mark_year ["self"] []
  F_Mark_copy_number : Fun K "copy_number" "Mark.copy_number" s_Mark_copy_number Z.a_Mark_copy_number Z.d_Mark_copy_number
  m_Mark_copy_number : Meth K Z.C_Mark "copy_number" Z.a_Mark_copy_number
  b_Mark_copy_number : Binds K Z.d_Mark_copy_number ["self"] []
  F_Mark_parts : Fun K "parts" "Mark.parts" s_Mark_parts Z.a_Mark_parts Z.d_Mark_parts
  m_Mark_parts : Meth K Z.C_Mark "parts" Z.a_Mark_parts
  b_Mark_parts : Binds K Z.d_Mark_parts ["self"] []
  F_Mark_key : Fun K "key" "Mark.key" s_Mark_key Z.a_Mark_key Z.d_Mark_key
  m_Mark_key : Meth K Z.C_Mark "key" Z.a_Mark_key
  b_Mark_key : Binds K Z.d_Mark_key ["self"] []
  F_Mark_ahead : Fun K "ahead" "Mark.ahead" s_Mark_ahead Z.a_Mark_ahead Z.d_Mark_ahead
  m_Mark_ahead : Meth K Z.C_Mark "ahead" Z.a_Mark_ahead
  b_Mark_ahead : Binds K Z.d_Mark_ahead ["self", "other"] []
  F_Mark_head : Fun K "head" "Mark.head" s_Mark_head Z.a_Mark_head Z.d_Mark_head
  m_Mark_head : Meth K Z.C_Mark "head" Z.a_Mark_head
  b_Mark_head : Binds K Z.d_Mark_head ["self"] []
  F_Mark_book : Fun K "book" "Mark.book" s_Mark_book Z.a_Mark_book Z.d_Mark_book
  m_Mark_book : Meth K Z.C_Mark "book" Z.a_Mark_book
  b_Mark_book : Binds K Z.d_Mark_book ["self"] []
  F_Mark_with_year : FunD K "with_year" "Mark.with_year" (defArgs s_Mark_with_year) (defBody s_Mark_with_year) (defScope s_Mark_with_year) [.non] [] Z.a_Mark_with_year Z.d_Mark_with_year
  m_Mark_with_year : Meth K Z.C_Mark "with_year" Z.a_Mark_with_year
  b_Mark_with_year : Binds K Z.d_Mark_with_year ["self", "year"] []
  F_Mark_with_copy : FunD K "with_copy" "Mark.with_copy" (defArgs s_Mark_with_copy) (defBody s_Mark_with_copy) (defScope s_Mark_with_copy) [.non] [] Z.a_Mark_with_copy Z.d_Mark_with_copy
  m_Mark_with_copy : Meth K Z.C_Mark "with_copy" Z.a_Mark_with_copy
  b_Mark_with_copy : Binds K Z.d_Mark_with_copy ["self", "copy"] []
  F_Mark_same_book : Fun K "same_book" "Mark.same_book" s_Mark_same_book Z.a_Mark_same_book Z.d_Mark_same_book
  m_Mark_same_book : Meth K Z.C_Mark "same_book" Z.a_Mark_same_book
  b_Mark_same_book : Binds K Z.d_Mark_same_book ["self", "other"] []
  F_kept_makers : Fun K "_kept_makers" "_kept_makers" s_kept_makers Z.a_kept_makers Z.d_kept_makers
  g_kept_makers : mg "_kept_makers" = some (.ref Z.a_kept_makers)
  b_kept_makers : Binds K Z.d_kept_makers ["makers"] []
  F_text_of : Fun K "_text_of" "_text_of" s_text_of Z.a_text_of Z.d_text_of
  g_text_of : mg "_text_of" = some (.ref Z.a_text_of)
  b_text_of : Binds K Z.d_text_of ["parts"] []
  F_filed : Fun K "filed" "filed" s_filed Z.a_filed Z.d_filed
  g_filed : mg "filed" = some (.ref Z.a_filed)
  b_filed : Binds K Z.d_filed ["mark"] []
  F_unfiled : Fun K "unfiled" "unfiled" s_unfiled Z.a_unfiled Z.d_unfiled
  g_unfiled : mg "unfiled" = some (.ref Z.a_unfiled)
  b_unfiled : Binds K Z.d_unfiled ["text"] []
  F_filed_copy : Fun K "_filed_copy" "_filed_copy" s_filed_copy Z.a_filed_copy Z.d_filed_copy
  g_filed_copy : mg "_filed_copy" = some (.ref Z.a_filed_copy)
  b_filed_copy : Binds K Z.d_filed_copy ["copy"] []
  F_filed_count : Fun K "_filed_count" "_filed_count" s_filed_count Z.a_filed_count Z.d_filed_count
  g_filed_count : mg "_filed_count" = some (.ref Z.a_filed_count)
  b_filed_count : Binds K Z.d_filed_count ["figures"] []
  F_mark_of : Fun K "_mark_of" "_mark_of" s_mark_of Z.a_mark_of Z.d_mark_of
  g_mark_of : mg "_mark_of" = some (.ref Z.a_mark_of)
  b_mark_of : Binds K Z.d_mark_of ["text"] []
  F_copy_of : Fun K "_copy_of" "_copy_of" s_copy_of Z.a_copy_of Z.d_copy_of
  g_copy_of : mg "_copy_of" = some (.ref Z.a_copy_of)
  b_copy_of : Binds K Z.d_copy_of ["text"] []
  F_l_pool : Fun K "_law_pool" "_law_pool" s_l_pool Z.a_l_pool Z.d_l_pool
  g_l_pool : mg "_law_pool" = some (.ref Z.a_l_pool)
  b_l_pool : Binds K Z.d_l_pool ["_law_cell"] []
  F_l_take : Fun K "_law_take" "_law_take" s_l_take Z.a_l_take Z.d_l_take
  g_l_take : mg "_law_take" = some (.ref Z.a_l_take)
  b_l_take : Binds K Z.d_l_take ["_law_pool_here", "_law_size"] []
  F_l_figures : Fun K "_law_figures" "_law_figures" s_l_figures Z.a_l_figures Z.d_l_figures
  g_l_figures : mg "_law_figures" = some (.ref Z.a_l_figures)
  b_l_figures : Binds K Z.d_l_figures ["_law_pool_here", "_law_most"] []
  F_l_maker : Fun K "_law_maker" "_law_maker" s_l_maker Z.a_l_maker Z.d_l_maker
  g_l_maker : mg "_law_maker" = some (.ref Z.a_l_maker)
  b_l_maker : Binds K Z.d_l_maker ["_law_pool_here", "_law_most"] []
  F_l_parts : Fun K "_law_parts" "_law_parts" s_l_parts Z.a_l_parts Z.d_l_parts
  g_l_parts : mg "_law_parts" = some (.ref Z.a_l_parts)
  b_l_parts : Binds K Z.d_l_parts ["_law_pool_here"] []
  F_l_near_word : Fun K "_law_near_word" "_law_near_word" s_l_near_word Z.a_l_near_word Z.d_l_near_word
  g_l_near_word : mg "_law_near_word" = some (.ref Z.a_l_near_word)
  b_l_near_word : Binds K Z.d_l_near_word ["_law_word", "_law_pool_here"] []
  F_l_near_makers : Fun K "_law_near_makers" "_law_near_makers" s_l_near_makers Z.a_l_near_makers Z.d_l_near_makers
  g_l_near_makers : mg "_law_near_makers" = some (.ref Z.a_l_near_makers)
  b_l_near_makers : Binds K Z.d_l_near_makers ["_law_hands", "_law_pool_here"] []
  F_l_near_year : Fun K "_law_near_year" "_law_near_year" s_l_near_year Z.a_l_near_year Z.d_l_near_year
  g_l_near_year : mg "_law_near_year" = some (.ref Z.a_l_near_year)
  b_l_near_year : Binds K Z.d_l_near_year ["_law_age", "_law_pool_here"] []
  F_l_near_copy : Fun K "_law_near_copy" "_law_near_copy" s_l_near_copy Z.a_l_near_copy Z.d_l_near_copy
  g_l_near_copy : mg "_law_near_copy" = some (.ref Z.a_l_near_copy)
  b_l_near_copy : Binds K Z.d_l_near_copy ["_law_twin", "_law_pool_here"] []
  F_l_near : Fun K "_law_near" "_law_near" s_l_near Z.a_l_near Z.d_l_near
  g_l_near : mg "_law_near" = some (.ref Z.a_l_near)
  b_l_near : Binds K Z.d_l_near ["_law_parts_here", "_law_at", "_law_pool_here"] []
  F_l_mark : Fun K "_law_mark" "_law_mark" s_l_mark Z.a_l_mark Z.d_l_mark
  g_l_mark : mg "_law_mark" = some (.ref Z.a_l_mark)
  b_l_mark : Binds K Z.d_l_mark ["_law_parts_here"] []
  F_l_key : Fun K "_law_key" "_law_key" s_l_key Z.a_l_key Z.d_l_key
  g_l_key : mg "_law_key" = some (.ref Z.a_l_key)
  b_l_key : Binds K Z.d_l_key ["_law_parts_here"] []
  F_l_filed : Fun K "_law_filed" "_law_filed" s_l_filed Z.a_l_filed Z.d_l_filed
  g_l_filed : mg "_law_filed" = some (.ref Z.a_l_filed)
  b_l_filed : Binds K Z.d_l_filed ["_law_parts_here"] []
  F_l_value : Fun K "_law_value" "_law_value" s_l_value Z.a_l_value Z.d_l_value
  g_l_value : mg "_law_value" = some (.ref Z.a_l_value)
  b_l_value : Binds K Z.d_l_value ["_law_signs"] []
  F_l_ending : Fun K "_law_ending" "_law_ending" s_l_ending Z.a_l_ending Z.d_l_ending
  g_l_ending : mg "_law_ending" = some (.ref Z.a_l_ending)
  b_l_ending : Binds K Z.d_l_ending ["_law_signs"] []
  F_l_letters : Fun K "_law_letters" "_law_letters" s_l_letters Z.a_l_letters Z.d_l_letters
  g_l_letters : mg "_law_letters" = some (.ref Z.a_l_letters)
  b_l_letters : Binds K Z.d_l_letters ["_law_signs"] []
  F_l_read : Fun K "_law_read" "_law_read" s_l_read Z.a_l_read Z.d_l_read
  g_l_read : mg "_law_read" = some (.ref Z.a_l_read)
  b_l_read : Binds K Z.d_l_read ["_law_signs"] []
  F_l_sign : Fun K "_law_sign" "_law_sign" s_l_sign Z.a_l_sign Z.d_l_sign
  g_l_sign : mg "_law_sign" = some (.ref Z.a_l_sign)
  b_l_sign : Binds K Z.d_l_sign ["_law_pool_here"] []
  F_l_spoilt : Fun K "_law_spoilt" "_law_spoilt" s_l_spoilt Z.a_l_spoilt Z.d_l_spoilt
  g_l_spoilt : mg "_law_spoilt" = some (.ref Z.a_l_spoilt)
  b_l_spoilt : Binds K Z.d_l_spoilt ["_law_signs", "_law_way", "_law_place", "_law_sign_here"] []
  F_l_refused : Fun K "_law_refused" "_law_refused" s_l_refused Z.a_l_refused Z.d_l_refused
  g_l_refused : mg "_law_refused" = some (.ref Z.a_l_refused)
  b_l_refused : Binds K Z.d_l_refused ["_law_thing"] []
  F_l_back : Fun K "_law_back" "_law_back" s_l_back Z.a_l_back Z.d_l_back
  g_l_back : mg "_law_back" = some (.ref Z.a_l_back)
  b_l_back : Binds K Z.d_l_back ["_law_signs"] []
  F_l_two : Fun K "_law_two" "_law_two" s_l_two Z.a_l_two Z.d_l_two
  g_l_two : mg "_law_two" = some (.ref Z.a_l_two)
  b_l_two : Binds K Z.d_l_two ["_law_fore", "_law_mate"] []
  F_l_great : Fun K "_law_great" "_law_great" s_l_great Z.a_l_great Z.d_l_great
  g_l_great : mg "_law_great" = some (.ref Z.a_l_great)
  b_l_great : Binds K Z.d_l_great ["_law_letters_here", "_law_more", "_law_number"] []
  F_law : Fun K "law" "law" s_law Z.a_law Z.d_law
  g_law : mg "law" = some (.ref Z.a_law)
  b_law : Binds K Z.d_law ["_law_script"] []
  g_Mark : mg "Mark" = some (.ref Z.C_Mark)
  cl_Mark : Cls K Z.C_Mark
  M_Mark : Mk K Z.C_Mark Z.a_Mark_init
  t1_Mark : PySem.W.findIn K (.ref Z.C_Mark) "__class__" = some (some (.builtin "object.__class__"))
  t4_Mark : PySem.W.mroIn K Z.C_Mark (.type "object") = some true
  t2_Mark : PySem.W.specialIn K (.builtin "object.__class__") "__get__" = some (some (.builtin "getset_descriptor.__get__"))
  t3_Mark : PySem.W.takesIn K (.builtin "object.__class__") = some true
  ne_Mark : PySem.W.findIn K (.ref Z.C_Mark) "__ne__" = some (some (.builtin "object.__ne__"))
  ki_Mark : ((PySem.W.clsIn K Z.C_Mark).isSome && PySem.W.typeIn K (.ref Z.C_Mark) == some (.type "type")) = true
  na_Mark_parts : NoAttr K Z.C_Mark "_parts"
  na_Mark_text : NoAttr K Z.C_Mark "_text"
  g_NoLetters : mg "NoLetters" = some (.ref Z.C_NoLetters)
  ox_NoLetters : OexC K Z.C_NoLetters
  i_NoLetters : PySem.W.findIn K (.ref Z.C_NoLetters) "__init__" = some (some (.ref Z.a_NoLetters_init))
  ti_NoLetters : PySem.W.typeIn K (.ref Z.a_NoLetters_init) = some (.type "function")
  no_NoLetters : PySem.W.findIn K (.ref Z.C_NoLetters) "found" = some none
  xf_NoLetters : XfC K Z.C_NoLetters
  ec_NoLetters : ExcC K Z.C_NoLetters
  g_NoNumber : mg "NoNumber" = some (.ref Z.C_NoNumber)
  ox_NoNumber : OexC K Z.C_NoNumber
  i_NoNumber : PySem.W.findIn K (.ref Z.C_NoNumber) "__init__" = some (some (.ref Z.a_NoNumber_init))
  ti_NoNumber : PySem.W.typeIn K (.ref Z.a_NoNumber_init) = some (.type "function")
  no_NoNumber : PySem.W.findIn K (.ref Z.C_NoNumber) "found" = some none
  xf_NoNumber : XfC K Z.C_NoNumber
  ec_NoNumber : ExcC K Z.C_NoNumber
  g_NoPoints : mg "NoPoints" = some (.ref Z.C_NoPoints)
  ox_NoPoints : OexC K Z.C_NoPoints
  i_NoPoints : PySem.W.findIn K (.ref Z.C_NoPoints) "__init__" = some (some (.ref Z.a_NoPoints_init))
  ti_NoPoints : PySem.W.typeIn K (.ref Z.a_NoPoints_init) = some (.type "function")
  no_NoPoints : PySem.W.findIn K (.ref Z.C_NoPoints) "found" = some none
  xf_NoPoints : XfC K Z.C_NoPoints
  ec_NoPoints : ExcC K Z.C_NoPoints
  g_NoMakers : mg "NoMakers" = some (.ref Z.C_NoMakers)
  ox_NoMakers : OexC K Z.C_NoMakers
  i_NoMakers : PySem.W.findIn K (.ref Z.C_NoMakers) "__init__" = some (some (.ref Z.a_NoMakers_init))
  ti_NoMakers : PySem.W.typeIn K (.ref Z.a_NoMakers_init) = some (.type "function")
  no_NoMakers : PySem.W.findIn K (.ref Z.C_NoMakers) "found" = some none
  xf_NoMakers : XfC K Z.C_NoMakers
  ec_NoMakers : ExcC K Z.C_NoMakers
  g_NoMaker : mg "NoMaker" = some (.ref Z.C_NoMaker)
  ox_NoMaker : OexC K Z.C_NoMaker
  i_NoMaker : PySem.W.findIn K (.ref Z.C_NoMaker) "__init__" = some (some (.ref Z.a_NoMaker_init))
  ti_NoMaker : PySem.W.typeIn K (.ref Z.a_NoMaker_init) = some (.type "function")
  no_NoMaker : PySem.W.findIn K (.ref Z.C_NoMaker) "found" = some none
  xf_NoMaker : XfC K Z.C_NoMaker
  ec_NoMaker : ExcC K Z.C_NoMaker
  g_NoYear : mg "NoYear" = some (.ref Z.C_NoYear)
  ox_NoYear : OexC K Z.C_NoYear
  i_NoYear : PySem.W.findIn K (.ref Z.C_NoYear) "__init__" = some (some (.ref Z.a_NoYear_init))
  ti_NoYear : PySem.W.typeIn K (.ref Z.a_NoYear_init) = some (.type "function")
  no_NoYear : PySem.W.findIn K (.ref Z.C_NoYear) "found" = some none
  xf_NoYear : XfC K Z.C_NoYear
  ec_NoYear : ExcC K Z.C_NoYear
  g_NoCopy : mg "NoCopy" = some (.ref Z.C_NoCopy)
  ox_NoCopy : OexC K Z.C_NoCopy
  i_NoCopy : PySem.W.findIn K (.ref Z.C_NoCopy) "__init__" = some (some (.ref Z.a_NoCopy_init))
  ti_NoCopy : PySem.W.typeIn K (.ref Z.a_NoCopy_init) = some (.type "function")
  no_NoCopy : PySem.W.findIn K (.ref Z.C_NoCopy) "found" = some none
  xf_NoCopy : XfC K Z.C_NoCopy
  ec_NoCopy : ExcC K Z.C_NoCopy
  g_NoText : mg "NoText" = some (.ref Z.C_NoText)
  ox_NoText : OexC K Z.C_NoText
  i_NoText : PySem.W.findIn K (.ref Z.C_NoText) "__init__" = some (some (.ref Z.a_NoText_init))
  ti_NoText : PySem.W.typeIn K (.ref Z.a_NoText_init) = some (.type "function")
  no_NoText : PySem.W.findIn K (.ref Z.C_NoText) "found" = some none
  xf_NoText : XfC K Z.C_NoText
  ec_NoText : ExcC K Z.C_NoText
  g_MarkError : mg "MarkError" = some (.ref Z.C_MarkError)
  b1_MarkError : PySem.W.specialIn K (.ref Z.C_MarkError) "__getattribute__" = some (some (.builtin "type.__getattribute__"))
  b2_MarkError : PySem.W.typeIn K (.ref Z.C_MarkError) = some (.type "type")
  b3_MarkError : PySem.W.readsIn K Z.C_MarkError (.type "type") = true
  b4_MarkError : PySem.W.findCls K (.ref Z.C_MarkError) (.type "type") "__init__" = some (.val (.builtin "ValueError.__init__"))
  g_Alike : mg "Alike" = some (.ref Z.C_Alike)
  em_NoLetters_MarkError : PySem.W.exmOne K (.ref Z.C_NoLetters) (.ref Z.C_MarkError) = some true
  kt_NoLetters_MarkError : PySem.W.kitOne K (.ref Z.C_NoLetters) (.ref Z.C_MarkError) = some true
  em_NoNumber_MarkError : PySem.W.exmOne K (.ref Z.C_NoNumber) (.ref Z.C_MarkError) = some true
  kt_NoNumber_MarkError : PySem.W.kitOne K (.ref Z.C_NoNumber) (.ref Z.C_MarkError) = some true
  em_NoPoints_MarkError : PySem.W.exmOne K (.ref Z.C_NoPoints) (.ref Z.C_MarkError) = some true
  kt_NoPoints_MarkError : PySem.W.kitOne K (.ref Z.C_NoPoints) (.ref Z.C_MarkError) = some true
  em_NoMakers_MarkError : PySem.W.exmOne K (.ref Z.C_NoMakers) (.ref Z.C_MarkError) = some true
  kt_NoMakers_MarkError : PySem.W.kitOne K (.ref Z.C_NoMakers) (.ref Z.C_MarkError) = some true
  em_NoMaker_MarkError : PySem.W.exmOne K (.ref Z.C_NoMaker) (.ref Z.C_MarkError) = some true
  kt_NoMaker_MarkError : PySem.W.kitOne K (.ref Z.C_NoMaker) (.ref Z.C_MarkError) = some true
  em_NoYear_MarkError : PySem.W.exmOne K (.ref Z.C_NoYear) (.ref Z.C_MarkError) = some true
  kt_NoYear_MarkError : PySem.W.kitOne K (.ref Z.C_NoYear) (.ref Z.C_MarkError) = some true
  em_NoCopy_MarkError : PySem.W.exmOne K (.ref Z.C_NoCopy) (.ref Z.C_MarkError) = some true
  kt_NoCopy_MarkError : PySem.W.kitOne K (.ref Z.C_NoCopy) (.ref Z.C_MarkError) = some true
  em_NoText_MarkError : PySem.W.exmOne K (.ref Z.C_NoText) (.ref Z.C_MarkError) = some true
  kt_NoText_MarkError : PySem.W.kitOne K (.ref Z.C_NoText) (.ref Z.C_MarkError) = some true
  em_NoLetters_NoText : PySem.W.exmOne K (.ref Z.C_NoLetters) (.ref Z.C_NoText) = some false
  kt_NoLetters_NoText : PySem.W.kitOne K (.ref Z.C_NoLetters) (.ref Z.C_NoText) = some false
  em_NoNumber_NoText : PySem.W.exmOne K (.ref Z.C_NoNumber) (.ref Z.C_NoText) = some false
  kt_NoNumber_NoText : PySem.W.kitOne K (.ref Z.C_NoNumber) (.ref Z.C_NoText) = some false
  em_NoPoints_NoText : PySem.W.exmOne K (.ref Z.C_NoPoints) (.ref Z.C_NoText) = some false
  kt_NoPoints_NoText : PySem.W.kitOne K (.ref Z.C_NoPoints) (.ref Z.C_NoText) = some false
  em_NoMakers_NoText : PySem.W.exmOne K (.ref Z.C_NoMakers) (.ref Z.C_NoText) = some false
  kt_NoMakers_NoText : PySem.W.kitOne K (.ref Z.C_NoMakers) (.ref Z.C_NoText) = some false
  em_NoMaker_NoText : PySem.W.exmOne K (.ref Z.C_NoMaker) (.ref Z.C_NoText) = some false
  kt_NoMaker_NoText : PySem.W.kitOne K (.ref Z.C_NoMaker) (.ref Z.C_NoText) = some false
  em_NoYear_NoText : PySem.W.exmOne K (.ref Z.C_NoYear) (.ref Z.C_NoText) = some false
  kt_NoYear_NoText : PySem.W.kitOne K (.ref Z.C_NoYear) (.ref Z.C_NoText) = some false
  em_NoCopy_NoText : PySem.W.exmOne K (.ref Z.C_NoCopy) (.ref Z.C_NoText) = some false
  kt_NoCopy_NoText : PySem.W.kitOne K (.ref Z.C_NoCopy) (.ref Z.C_NoText) = some false
  em_NoText_NoText : PySem.W.exmOne K (.ref Z.C_NoText) (.ref Z.C_NoText) = some true
  kt_NoText_NoText : PySem.W.kitOne K (.ref Z.C_NoText) (.ref Z.C_NoText) = some true
  em_NoLetters_Alike : PySem.W.exmOne K (.ref Z.C_NoLetters) (.ref Z.C_Alike) = some false
  kt_NoLetters_Alike : PySem.W.kitOne K (.ref Z.C_NoLetters) (.ref Z.C_Alike) = some false
  em_NoNumber_Alike : PySem.W.exmOne K (.ref Z.C_NoNumber) (.ref Z.C_Alike) = some false
  kt_NoNumber_Alike : PySem.W.kitOne K (.ref Z.C_NoNumber) (.ref Z.C_Alike) = some false
  em_NoPoints_Alike : PySem.W.exmOne K (.ref Z.C_NoPoints) (.ref Z.C_Alike) = some false
  kt_NoPoints_Alike : PySem.W.kitOne K (.ref Z.C_NoPoints) (.ref Z.C_Alike) = some false
  em_NoMakers_Alike : PySem.W.exmOne K (.ref Z.C_NoMakers) (.ref Z.C_Alike) = some false
  kt_NoMakers_Alike : PySem.W.kitOne K (.ref Z.C_NoMakers) (.ref Z.C_Alike) = some false
  em_NoMaker_Alike : PySem.W.exmOne K (.ref Z.C_NoMaker) (.ref Z.C_Alike) = some false
  kt_NoMaker_Alike : PySem.W.kitOne K (.ref Z.C_NoMaker) (.ref Z.C_Alike) = some false
  em_NoYear_Alike : PySem.W.exmOne K (.ref Z.C_NoYear) (.ref Z.C_Alike) = some false
  kt_NoYear_Alike : PySem.W.kitOne K (.ref Z.C_NoYear) (.ref Z.C_Alike) = some false
  em_NoCopy_Alike : PySem.W.exmOne K (.ref Z.C_NoCopy) (.ref Z.C_Alike) = some false
  kt_NoCopy_Alike : PySem.W.kitOne K (.ref Z.C_NoCopy) (.ref Z.C_Alike) = some false
  em_NoText_Alike : PySem.W.exmOne K (.ref Z.C_NoText) (.ref Z.C_Alike) = some false
  kt_NoText_Alike : PySem.W.kitOne K (.ref Z.C_NoText) (.ref Z.C_Alike) = some false
  ks_Mark_str : PySem.W.kitOne K (.ref Z.C_Mark) (.type "str") = some false
  n_len : mg "len" = none
  n_isinstance : mg "isinstance" = none
  n_range : mg "range" = none
  n_max : mg "max" = none
  n_int : mg "int" = none
  n_bool : mg "bool" = none
  n_str : mg "str" = none
  n_list : mg "list" = none
  n_tuple : mg "tuple" = none
  n_all : mg "all" = none
  c_SMALL : ∃ t, mg "SMALL" = some (.str "abcdefghijklmnopqrstuvwxyz" t)
  c_NO_YEAR : ∃ t, mg "NO_YEAR" = some (.str "0000" t)
  c_NO_COPY : ∃ t, mg "NO_COPY" = some (.str "00" t)
theorem vals_dt : ∀ {vs : List V} {us : List Value} (n : Nat), Vals vs us → Vals ((vs.drop n).take 1) ((us.drop n).take 1)
  | _, _, n, .nil => by cases n <;> exact .nil
  | _, _, 0, .cons h r => .cons h .nil
  | _, _, n + 1, .cons h r => vals_dt n r
/-- what makes a list that may change -/
def tMut (t : TE) : TE := t
theorem peM {X : Cx} {e : Expr} {te : TE} (h : PE X e te) : PE X e (tMut te) := h
/-! rules by name -/
def qAddS : R2 := fun x y H Q => ∃ i j, x = .str i ∧ y = .str j ∧ i.length + j.length ≤ sizeLine ∧ Q (.str (i ++ j)) H
theorem op_addS {X : Cx} : OpR X (binaryOp .Add) qAddS := op_add_str
def qLenS : List V → Hp → VK → Prop := fun xs H Q => ∃ z, xs = [.str z] ∧ z.length ≤ sizeLine ∧ Q (.int z.length) H
theorem call_lenS {X : Cx} : CallR X (.builtin "len") qLenS := call_len_str
def qStrI : List V → Hp → VK → Prop := fun xs H Q => ∃ i : Int, xs = [.int i] ∧ i.natAbs.log2 < 1920 ∧ Q (.str (toString i)) H
theorem call_strI {X : Cx} : CallR X (.type "str") qStrI := call_str_int
def qStrS : List V → Hp → VK → Prop := fun xs H Q => ∃ a, xs = [.str a] ∧ Q (.str a) H
theorem call_strS {X : Cx} : CallR X (.type "str") qStrS := SkE.call_str_str
def qInt1 : List V → Hp → VK → Prop := fun xs H Q => (∃ i, xs = [.int i] ∧ Q (.int i) H) ∨ ∃ k, xs = [.bl k] ∧ Q (.int (if k then 1 else 0)) H
theorem call_intq {X : Cx} : CallR X (.type "int") qInt1 := call_int1
def qIntS : List V → Hp → VK → Prop := fun xs H Q => ∃ a n, xs = [.str a] ∧ PySem.intText? a = some n ∧ a.length ≤ 640 ∧ Q (.int n) H
theorem call_intS {X : Cx} : CallR X (.type "int") qIntS := call_int_str
def qMax2 : List V → Hp → VK → Prop := fun xs H Q => ∃ i j, xs = [.int i, .int j] ∧ Q (.int (if j > i then j else i)) H
theorem call_maxq {X : Cx} (hc : X.calm = true) : CallR X (.builtin "max") qMax2 := call_max2 hc
def qMin2 : List V → Hp → VK → Prop := fun xs H Q => ∃ i j, xs = [.int i, .int j] ∧ Q (.int (if j < i then j else i)) H
theorem call_minq {X : Cx} (hc : X.calm = true) : CallR X (.builtin "min") qMin2 := call_min2 hc
def qLtS : R2 := fun x y H Q => ∃ i j, x = .str i ∧ y = .str j ∧ Q (.bl (decide (i.cps.toList < j.cps.toList))) H
theorem op_ltS {X : Cx} : OpR X (compareOp .Lt) qLtS := op_lt_str
def qInS : R2 := fun x y H Q => ∃ (c : Nat) (z : Str), x = .str ⟨#[c]⟩ ∧ y = .str z ∧ Q (.bl (decide (c ∈ z.cps.toList))) H
theorem op_inq {X : Cx} : OpR X (compareOp .In) qInS := op_in_sign
def qNotInS : R2 := fun x y H Q => ∃ (c : Nat) (z : Str), x = .str ⟨#[c]⟩ ∧ y = .str z ∧ Q (.bl (!decide (c ∈ z.cps.toList))) H
theorem op_notInq {X : Cx} : OpR X (compareOp .NotIn) qNotInS := op_notIn_sign
def qIsN : R2 := fun x y H Q => y = .non ∧ Q (.bl (decide (x = .non))) H
theorem op_isNq {X : Cx} : OpR X (compareOp .Is) qIsN := op_isN
def qNotN : R2 := fun x y H Q => y = .non ∧ Q (.bl (!decide (x = .non))) H
theorem op_notNq {X : Cx} : OpR X (compareOp .IsNot) qNotN := op_notN
def tJoinS (ts : List TE) : TE := fun σ H Q => tJs ts Str.empty σ H fun out H1 => Q (.str out) H1
theorem pe_joinedq {X : Cx} {v1 v2 : Expr} {rest : List Expr} {ts : List TE} {pos : Pos} (h : PJ X (v1 :: v2 :: rest) ts) : PE X (.JoinedStr (v1 :: v2 :: rest) pos) (tJoinS ts) := pe_joined h
def tTru (K : PySem.W.Frag) (ta : TE) : TT := fun σ H Q => ta σ H fun x H' => ∃ k, TruV K x H' k ∧ Q k H'
theorem pt_truthq {X : Cx} {a : Expr} {ta : TE} (ha : PE X a ta) (he : ∀ whole, isTrue a X.env whole = (do let v ← whole; standAt a.pos; holding [v] (truthy v))) : PT X a (tTru X.K ta) := pt_truth ha he
/-! rules with the written part told by name (for what stands within a comprehension) -/
section
variable (K : PySem.W.Frag) {X : Cx}
theorem ixL (hK : X.K = K := by rfl) : IxR X (rIxL K) := by subst hK; exact ix_list
theorem ixT (hK : X.K = K := by rfl) : IxR X (rIxT K) := by subst hK; exact ix_tup
theorem slL (hK : X.K = K := by rfl) : SlR X (rSlL K) := by subst hK; exact sl_list
theorem lenQ (hK : X.K = K := by rfl) : CallR X (.builtin "len") (rLenS K) := by subst hK; exact call_len_seq
theorem sumK (hc : X.calm = true) (hK : X.K = K := by rfl) : CallR X (.builtin "sum") (rSum K) := by subst hK; exact cr_sum hc
theorem isiK (hK : X.K = K := by rfl) : CallR X (.builtin "isinstance") (rIsi K) := by subst hK; exact call_isi
theorem isiTK (hK : X.K = K := by rfl) : CallR X (.builtin "isinstance") (rIsiT K) := by subst hK; exact call_isiT
theorem listK (hK : X.K = K := by rfl) : CallR X (.type "list") (rListS K) := by subst hK; exact call_list_of
def rTupOf (K : PySem.W.Frag) : List V → Hp → VK → Prop := fun xs H Q => ∃ p ys, xs = [.ref p] ∧ ((SqL K H p ys ∧ ∀ l, H l = none → Q (.ref l) (upd H l (.tup ys))) ∨ (SqT K H p ys ∧ Q (.ref p) H))
theorem tupK (hK : X.K = K := by rfl) : CallR X (.type "tuple") (rTupOf K) := by subst hK; exact call_tuple_of
theorem inQ (hK : X.K = K := by rfl) : OpR X (compareOp .In) (rIn K false) := by subst hK; exact op_in_seq
theorem notInQ (hK : X.K = K := by rfl) : OpR X (compareOp .NotIn) (rIn K true) := by subst hK; exact op_notIn_seq
theorem eqDK (hu : X.A.units + 64 < cLine) (hK : X.K = K := by rfl) : OpR X (compareOp .Eq) (rEqD K) := by subst hK; exact op_eqD hu
theorem neDK (hu : X.A.units + 64 < cLine) (hK : X.K = K := by rfl) : OpR X (compareOp .NotEq) (rNeD K) := by subst hK; exact op_neD hu
theorem fldK {e : Expr} {f : Str} {pos : Pos} {ta : TE} (he : PE X e ta) (hb : attributeBase e f X.env (eval e X.env) = eval e X.env) (hK : X.K = K := by rfl) : PE X (.Attribute e f pos) (tFld K ta f) := by subst hK; exact pe_fld he hb
theorem bmK {o e : Expr} {es : List Expr} {to : TE} {t : TA} {name : Str} {apos cpos : Pos} {T id : String} {r : V → List V → Hp → VK → Prop} (pa : PlainAttrs T) (slot : Slot T name id) (hty : typeOf (.builtin id) = pure (.type "method_descriptor")) (hm : MtR X id r) (ho : PE X o to) (ha : PA X (e :: es) t)
    (hK : X.K = K := by rfl) (hbase : attributeBase o name X.env (eval o X.env) = eval o X.env := by rfl)
    (hfew : ((backTo cpos (starEach (e :: es) X.env)).all (fun x => !x.1) && (backToKw cpos (keywordEach [] X.env)).all (fun x => x.1.isSome)
      && decide ((e :: es).length + ([] : List Keyword).length + (if ([] : List Keyword).isEmpty then 0 else 1) < 30)) = true := by rfl)
    (hline : (apos.endLine == cpos.line) = true := by rfl) (hs : starEach (e :: es) X.env = (false, eval e X.env) :: starEach es X.env := by rfl) (hplain : (backTo cpos (starEach es X.env)).any (·.1) = false := by rfl) :
    PE X (.Call (.Attribute o name apos) (e :: es) [] cpos) (tBM K T r to t) := by subst hK; exact pe_bm pa slot hty hm ho ha hbase hfew hline hs hplain
def rJoin (K : PySem.W.Frag) : V → List V → Hp → VK → Prop := fun x xs H Q => ∃ a p, ∃ ys : List Str, x = .str a ∧ xs = [.ref p] ∧ (SqL K H p (ys.map V.str) ∨ SqT K H p (ys.map V.str)) ∧
      (ys.map (·.length)).sum + ys.length * a.length ≤ 16777216 ∧ Q (.str (Txt.join a ys)) H
theorem joinK {o e : Expr} {to te : TE} {apos pos : Pos} (ho : PE X o to) (he : PE X e te) (hK : X.K = K := by rfl) (hs : starEach [e] X.env = [(false, eval e X.env)] := by rfl) (hbase : attributeBase o "join" X.env (eval o X.env) = eval o X.env := by rfl) (hline : (apos.endLine == pos.line) = true := by rfl) :
    PE X (.Call (.Attribute o "join" apos) [e] [] pos) (tM1 (rJoin K) to te) := by subst hK; exact pe_join ho he hs hbase hline
end
/-! ### words of mine, over HandS and Evl -/
section
variable {K : PySem.W.Frag} {σ : L2.St} {H H' : Hp} {ta tb te tv : TE} {t u : TT} {x y z v : V} {D : Ends} {tz tu : TS}
abbrev ii (xs : List Int) : List V := xs.map V.int
theorem ip_mulI {X : Cx} : PIp X .Mult (fun x y H Q => ∃ i j, x = .int i ∧ y = .int j ∧ CMul i j ∧ Q (.int (i * j)) H) := iop_mul
theorem et_yes : EvT tYes σ H true := fun H1 _ _ q => q H1 (Ex.refl H1)
theorem ev_sumN {ns : List Int} (h : EvL ta σ H (ii ns)) : Ev (tCB (rSum K) (tCons ta tNil)) σ H (.int ns.sum) := fun H1 e Q q =>
  h H1 e _ fun p H2 _ e2 h2 => ⟨p, ns, rfl, sq_of h2, q H2 e2⟩
theorem ev_sum {p : Addr} {ns : List Int} (h : Ev ta σ H (.ref p)) (hS : SqL K H p (ii ns)) : Ev (tCB (rSum K) (tCons ta tNil)) σ H (.int ns.sum) := fun H1 e Q q =>
  h H1 e _ fun H2 e2 => ⟨p, ns, rfl, ex_l (e.trans e2) hS, q H2 e2⟩
theorem given_all {n : Nat} {f : Nat → V} : given n (fun _ => true) f = (List.range n).map f := by
  unfold given
  rw [List.filter_eq_self.mpr (fun _ _ => rfl)]
/-- self.f = e -/
theorem q_fld {a C dx : Addr} {fs : List (Str × V)} {f : Str} (hv : Ev tv σ H v) (ha : Ev ta σ H (.ref a)) (ho : H a = some (.ins C dx fs)) (hc : Cls K C) (hn : NoAttr K C f) (hl : fs.length < 1000)
    (k : ∀ H1, Ex H H1 → tz D σ (upd H1 a (.ins C dx (putF f v fs)))) : tSeq (sFld K ta tv f) tz D σ H :=
  hv H (Ex.refl H) _ fun H1 e1 => ha H1 e1 _ fun H2 e2 => ⟨a, C, dx, fs, rfl, e2 _ _ (e1 _ _ ho), hc, hn, hl, k H2 (e1.trans e2)⟩
theorem q_fldL {a C dx : Addr} {fs : List (Str × V)} {f : Str} {xs : List V} (hv : EvL tv σ H xs) (ha : Ev ta σ H (.ref a)) (ho : H a = some (.ins C dx fs)) (hc : Cls K C) (hn : NoAttr K C f) (hl : fs.length < 1000)
    (k : ∀ p H1, H p = none → Ex H H1 → H1 p = some (.lst xs) → tz D σ (upd H1 a (.ins C dx (putF f (.ref p) fs)))) : tSeq (sFld K ta tv f) tz D σ H :=
  hv H (Ex.refl H) _ fun p H1 hp e1 h1 => ha H1 e1 _ fun H2 e2 => ⟨a, C, dx, fs, rfl, e2 _ _ (e1 _ _ ho), hc, hn, hl, k p H2 hp (e1.trans e2) (e2 _ _ h1)⟩
theorem s_fld {a C dx : Addr} {fs : List (Str × V)} {f : Str} (hv : Ev tv σ H v) (ha : Ev ta σ H (.ref a)) (ho : H a = some (.ins C dx fs)) (hc : Cls K C) (hn : NoAttr K C f) (hl : fs.length < 1000)
    (k : ∀ H1, Ex H H1 → D.nx σ (upd H1 a (.ins C dx (putF f v fs)))) : sFld K ta tv f D σ H :=
  hv H (Ex.refl H) _ fun H1 e1 => ha H1 e1 _ fun H2 e2 => ⟨a, C, dx, fs, rfl, e2 _ _ (e1 _ _ ho), hc, hn, hl, k H2 (e1.trans e2)⟩
theorem ev_fld {a C dx : Addr} {fs : List (Str × V)} {f : Str} (ha : Ev ta σ H (.ref a)) (ho : H a = some (.ins C dx fs)) (hc : Cls K C) (hn : NoAttr K C f) (hl : fs.lookup f = some v) : Ev (tFld K ta f) σ H v :=
  fun H1 e Q q => ha H1 e _ fun H2 e2 => ⟨a, C, dx, fs, v, rfl, e2 _ _ (e _ _ ho), hc, hn, hl, q H2 e2⟩
/-- a value of one of the kinds that is an int, a truth or none of both -/
def isI : V → Bool | .int _ => true | .bl _ => true | _ => false
def isB : V → Bool | .bl _ => true | _ => false
def KnI (K : PySem.W.Frag) (H : Hp) (x : V) : Prop := ∃ t, TyX K H x t ∧ PySem.W.kitOne K t (.type "bool") = some (isB x) ∧ PySem.W.kitOne K t (.type "int") = some (isI x)
theorem kni_int {i : Int} : KnI K H (.int i) := ⟨_, .base (.int i), kit_ty (r := false) (by decide +kernel), kit_ty (r := true) (by decide +kernel)⟩
theorem kni_bl {b : Bool} : KnI K H (.bl b) := ⟨_, .base (.bl b), kit_ty (r := true) (by decide +kernel), kit_ty (r := true) (by decide +kernel)⟩
theorem kni_non : KnI K H .non := ⟨_, .base .non, kit_ty (r := false) (by decide +kernel), kit_ty (r := false) (by decide +kernel)⟩
theorem kni_str {s : Str} : KnI K H (.str s) := ⟨_, .base (.str s), kit_ty (r := false) (by decide +kernel), kit_ty (r := false) (by decide +kernel)⟩
def oi : Option Int → V | none => .non | some i => .int i
def whole (x : V) (lo : Int) (hi : Option Int) : Bool := match x with
  | .int i => decide (lo ≤ i) && (match hi with | none => true | some h => decide (i ≤ h))
  | _ => false
theorem cut_take (xs : List V) (n : Nat) : cutV xs none (some (n : Int)) = xs.take n := by
  unfold cutV
  rw [HT.sIx_none, HT.sIx_nat]
  show (xs.drop 0).take (min n xs.length - 0) = xs.take n
  rw [List.drop_zero, Nat.sub_zero]
  by_cases h : n ≤ xs.length
  · rw [Nat.min_eq_left h]
  · rw [Nat.min_eq_right (by omega), List.take_length, List.take_of_length_le (by omega)]
theorem ii_get {xs : List Int} {j : Nat} (h : j < xs.length) : (ii xs)[j]? = some (.int (xs.getD j 0)) := by
  rw [List.getElem?_map, List.getElem?_eq_getElem h, List.getD_eq_getElem?_getD, List.getElem?_eq_getElem h]
  rfl
theorem ii_len (xs : List Int) : (ii xs).length = xs.length := List.length_map ..
theorem ii_of {xs : List Int} {j : Nat} {y : V} (h : (ii xs)[j]? = some y) : ∃ z, xs[j]? = some z ∧ y = .int z := by
  rw [List.getElem?_map] at h
  cases e : xs[j]? with
  | none => rw [e] at h; cases h
  | some z => rw [e] at h; exact ⟨z, rfl, (Option.some.inj h).symm⟩
end
/-! what is known and never changes (kb), beside what may change -/
theorem grow {kb H H1 : Hp} {p : Addr} {o : HO} (e : Ex kb H) (hp : H p = none) (e1 : Ex H H1) (h1 : H1 p = some o) : Ex (upd kb p o) H1 := fun b u q => by
  by_cases hb : b = p
  · subst hb
    rw [upd_same] at q
    cases q
    exact h1
  · rw [upd_ne hb] at q
    exact e1 b u (e b u q)
theorem kb_new {kb H : Hp} {p : Addr} {o : HO} (e : Ex kb H) (hp : H p = none) : Ex kb (upd kb p o) := Ex.new (fresh_back e hp)
theorem kb_none {kb H : Hp} {p x : Addr} {o u : HO} (hx : kb x = none) (h : H x = some u) (hp : H p = none) : upd kb p o x = none := by
  rw [upd_ne (ne_of_none h hp)]
  exact hx
theorem rep_flat {α : Type} (n : Nat) (x : α) : (List.replicate n [x]).flatten = List.replicate n x := by
  induction n with
  | zero => rfl
  | succ n ih => rw [List.replicate_succ, List.flatten_cons, ih]; rfl

theorem ii_map {n : Nat} {f : Nat → Int} : ii ((List.range n).map f) = (List.range n).map (fun l => V.int (f l)) := List.map_map ..
/-- kb: what is known and stays; mt: what may change, as it stands -/
structure ST (kb H : Hp) (mt : List (Addr × HO)) : Prop where
  e : Ex kb H
  m : ∀ p ∈ mt, kb p.1 = none ∧ H p.1 = some p.2
  d : mt.Pairwise fun p q => p.1 ≠ q.1
section
variable {kb H H1 : Hp} {mt : List (Addr × HO)} {p a b c : Addr} {o o1 o2 o3 u : HO}
theorem ST.ext (s : ST kb H mt) (e : Ex H H1) : ST kb H1 mt := ⟨s.e.trans e, fun p hp => ⟨(s.m p hp).1, e _ _ (s.m p hp).2⟩, s.d⟩
theorem ST.new (s : ST kb H mt) (hp : H p = none) (e : Ex H H1) (h1 : H1 p = some o) : ST (upd kb p o) H1 mt :=
  ⟨grow s.e hp e h1, fun q hq => ⟨kb_none (s.m q hq).1 (s.m q hq).2 hp, e _ _ (s.m q hq).2⟩, s.d⟩
theorem ST.kb_ex (s : ST kb H mt) (hp : H p = none) : Ex kb (upd kb p o) := kb_new s.e hp
theorem ST.newM (s : ST kb H mt) (hp : H p = none) (e : Ex H H1) (h1 : H1 p = some o) : ST kb H1 ((p, o) :: mt) :=
  ⟨s.e.trans e, fun q hq => by
    rcases List.mem_cons.mp hq with rfl | hq
    · exact ⟨fresh_back s.e hp, h1⟩
    · exact ⟨(s.m q hq).1, e _ _ (s.m q hq).2⟩, List.pairwise_cons.mpr ⟨fun q hq => (ne_of_none (s.m q hq).2 hp).symm, s.d⟩⟩
theorem ST.set (s : ST kb H ((a, o) :: mt)) : ST kb (upd H a u) ((a, u) :: mt) :=
  ⟨Ex.mut s.e (s.m _ List.mem_cons_self).1, fun q hq => by
    rcases List.mem_cons.mp hq with rfl | hq
    · exact ⟨(s.m (a, o) List.mem_cons_self).1, upd_same⟩
    · exact ⟨(s.m q (List.mem_cons_of_mem _ hq)).1, by rw [upd_ne ((List.pairwise_cons.mp s.d).1 q hq).symm]; exact (s.m q (List.mem_cons_of_mem _ hq)).2⟩, by
    have z := List.pairwise_cons.mp s.d
    exact List.pairwise_cons.mpr ⟨z.1, z.2⟩⟩
theorem ST.perm {mt' : List (Addr × HO)} (s : ST kb H mt) (h : mt.Perm mt') : ST kb H mt' := ⟨s.e, fun p hp => s.m p (h.mem_iff.mpr hp), s.d.perm h fun z => z.symm⟩
theorem ST.set2 {x : Addr × HO} (s : ST kb H (x :: (a, o) :: mt)) : ST kb (upd H a u) (x :: (a, u) :: mt) := ((s.perm (List.Perm.swap ..)).set).perm (List.Perm.swap ..)
theorem ST.set3 {x y : Addr × HO} (s : ST kb H (x :: y :: (a, o) :: mt)) : ST kb (upd H a u) (x :: y :: (a, u) :: mt) :=
  ((s.perm ((List.Perm.cons x (List.Perm.swap ..)).trans (List.Perm.swap ..))).set).perm ((List.Perm.swap ..).trans (List.Perm.cons x (List.Perm.swap ..)))
theorem ST.at1 (s : ST kb H ((a, o) :: mt)) : H a = some o := (s.m (a, o) List.mem_cons_self).2
theorem ST.at2 {x : Addr × HO} (s : ST kb H (x :: (a, o) :: mt)) : H a = some o := (s.m (a, o) (List.mem_cons_of_mem _ List.mem_cons_self)).2
theorem ST.at3 {x y : Addr × HO} (s : ST kb H (x :: y :: (a, o) :: mt)) : H a = some o := (s.m (a, o) (List.mem_cons_of_mem _ (List.mem_cons_of_mem _ List.mem_cons_self))).2
theorem ST.l {K : PySem.W.Frag} {xs : List V} (s : ST kb H mt) (h : kb a = some (.lst xs)) : SqL K H a xs := sq_of (s.e _ _ h)
/-- a mutable thing is laid down: it stays as it is from here on -/
theorem ST.fix (s : ST kb H ((a, o) :: mt)) : ST (upd kb a o) H mt :=
  ⟨fun b w q => by
    by_cases hb : b = a
    · subst hb; rw [upd_same] at q; cases q; exact s.at1
    · rw [upd_ne hb] at q; exact s.e b w q, fun q hq => ⟨by
      rw [upd_ne ((List.pairwise_cons.mp s.d).1 q hq).symm]
      exact (s.m q (List.mem_cons_of_mem _ hq)).1, (s.m q (List.mem_cons_of_mem _ hq)).2⟩, (List.pairwise_cons.mp s.d).2⟩
end
section
variable {K : PySem.W.Frag} {σ : L2.St} {H H' : Hp} {ta tb te tv : TE} {v : V} {D : Ends} {tz : TS}
theorem st_fldv {a C dx : Addr} {fs fs' : List (Str × V)} {f : Str} {kb : Hp} {mt : List (Addr × HO)} (s : ST kb H ((a, .ins C dx fs) :: mt)) (hv : Ev tv σ H v) (ha : Ev ta σ H (.ref a)) (hc : Cls K C) (hn : NoAttr K C f) (hl : fs.length < 1000) (hf : putF f v fs = fs')
    (k : ∀ H1, ST kb H1 ((a, .ins C dx fs') :: mt) → tz D σ H1) : tSeq (sFld K ta tv f) tz D σ H := by
  subst hf
  exact q_fld hv ha s.at1 hc hn hl fun H1 e1 => k _ (s.ext e1).set
theorem st_fldl {a C dx : Addr} {fs : List (Str × V)} {f : Str} {xs : List V} {kb : Hp} {mt : List (Addr × HO)} (s : ST kb H ((a, .ins C dx fs) :: mt)) (hv : EvL tv σ H xs) (ha : Ev ta σ H (.ref a)) (hc : Cls K C) (hn : NoAttr K C f) (hl : fs.length < 1000)
    (k : ∀ p H1, Ex kb (upd kb p (.lst xs)) → ST (upd kb p (.lst xs)) H1 ((a, .ins C dx (putF f (.ref p) fs)) :: mt) → tz D σ H1) : tSeq (sFld K ta tv f) tz D σ H :=
  q_fldL hv ha s.at1 hc hn hl fun p H1 hp e1 h1 => k p _ (s.kb_ex hp) (s.new hp e1 h1).set
theorem st_fldm {a C dx : Addr} {fs : List (Str × V)} {f : Str} {xs : List V} {kb : Hp} {mt : List (Addr × HO)} (s : ST kb H ((a, .ins C dx fs) :: mt)) (hv : EvL tv σ H xs) (ha : Ev ta σ H (.ref a)) (hc : Cls K C) (hn : NoAttr K C f) (hl : fs.length < 1000)
    (k : ∀ p H1, ST kb H1 ((p, .lst xs) :: (a, .ins C dx (putF f (.ref p) fs)) :: mt) → tz D σ H1) : tSeq (sFld K ta tv f) tz D σ H :=
  q_fldL hv ha s.at1 hc hn hl fun p H1 hp e1 h1 => k p _ (s.newM hp e1 h1).set2
/-- xs.insert(0, a new list) -/
def rIns : V → List V → Hp → VK → Prop := fun x vs H Q => ∃ (l : Addr) (xs : List V) (i : Int) (y : V), x = .ref l ∧ vs = [.int i, y] ∧ H l = some (.lst xs) ∧ xs.length < sizeLine ∧ 0 ≤ i ∧ i < 2 ^ 63 ∧ Q .non (upd H l (.lst (xs.take i.toNat ++ [y] ++ xs.drop i.toNat)))
theorem q_ins0L {l : Addr} {xs ys : List V} (hl : H l = some (.lst xs)) (ha : Ev ta σ H (.ref l)) (h : EvL te σ H ys) (hz : xs.length < 100000) (k : ∀ p H1, H p = none → Ex H H1 → H1 p = some (.lst ys) → tz D σ (upd H1 l (.lst (.ref p :: xs)))) :
    tSeq (tDrop (tBM K "list" rIns ta (tCons (tC (.int 0)) (tCons te tNil)))) tz D σ H := ha H (Ex.refl H) _ fun H1 e1 =>
  ⟨Or.inl ⟨rfl, xs, sq_of (e1 l _ hl)⟩, h H1 e1 _ fun p H2 hp e2 h2 => ⟨l, xs, 0, .ref p, rfl, rfl, e2 l _ (e1 l _ hl), sz_lt hz, Int.le_refl 0, by decide, k p H2 (fresh_back e1 hp) (e1.trans e2) h2⟩⟩
end
theorem lk_head {f : Str} {v : V} {fs : List (Str × V)} : List.lookup f ((f, v) :: fs) = some v := by simp [List.lookup]
theorem lk_tail {f g : Str} {v : V} {fs : List (Str × V)} (h : (f == g) = false) : List.lookup f ((g, v) :: fs) = List.lookup f fs := by simp [List.lookup, h]
section
variable {X : Cx} {x : Str} {pos : Pos}
theorem pe_gi {i : Int} (hg : Gl X x) (h : ∃ t, X.mg x = some (.int i t)) (hd : (x == ("__debug__" : Str)) = false := by decide) : PE X (.Name x pos) (tC (.int i)) := by
  obtain ⟨t, h⟩ := h
  exact pe_glob hg h ⟨t, rfl⟩ (hd := hd)
theorem pe_gs {i : Str} (hg : Gl X x) (h : ∃ t, X.mg x = some (.str i t)) (hd : (x == ("__debug__" : Str)) = false := by decide) : PE X (.Name x pos) (tC (.str i)) := by
  obtain ⟨t, h⟩ := h
  exact pe_glob hg h ⟨t, rfl⟩ (hd := hd)
end
section
variable {K : PySem.W.Frag} {σ : L2.St} {H H' : Hp} {ta tb te tv : TE} {v : V} {D : Ends} {tz : TS} {tr : TA} {xs ys vs dvs : List V}
theorem s_ins0L {l : Addr} {xs ys : List V} (hl : H l = some (.lst xs)) (ha : Ev ta σ H (.ref l)) (h : EvL te σ H ys) (hz : xs.length < 100000) (k : ∀ p H1, H p = none → Ex H H1 → H1 p = some (.lst ys) → D.nx σ (upd H1 l (.lst (.ref p :: xs)))) :
    tDrop (tBM K "list" rIns ta (tCons (tC (.int 0)) (tCons te tNil))) D σ H := ha H (Ex.refl H) _ fun H1 e1 =>
  ⟨Or.inl ⟨rfl, xs, sq_of (e1 l _ hl)⟩, h H1 e1 _ fun p H2 hp e2 h2 => ⟨l, xs, 0, .ref p, rfl, rfl, e2 l _ (e1 l _ hl), sz_lt hz, Int.le_refl 0, by decide, k p H2 (fresh_back e1 hp) (e1.trans e2) h2⟩⟩
/-- [z] * n, a list and a list -/
theorem el_rep {z : V} {n : Nat} (ha : Ev ta σ H z) (hb : Ev tb σ H (.int (n : Int))) (hn : n ≤ 100000) : EvL (tOp rRep (tLst (tCons ta tNil)) tb) σ H (List.replicate n z) := fun H1 e Q q =>
  el_lst (ea_cons ha ea_nil) (by show 1 ≤ 100000; decide) H1 e _ fun p H2 hp e2 h2 => hb H2 (e.trans e2) _ fun H3 e3 =>
    ⟨p, (n : Int), [z], rfl, rfl, e3 _ _ h2, by omega, by omega, by show 1 * _ ≤ _; rw [Nat.one_mul, Int.toNat_natCast]; exact sz_of hn, fun r hr => by
      rw [Int.toNat_natCast, rep_flat]
      exact q r _ (fresh_back (e2.trans e3) hr) ((e2.trans e3).trans (Ex.new hr)) upd_same⟩
theorem el_cat (ha : EvL ta σ H xs) (hb : ∀ H1, Ex H H1 → EvL tb σ H1 ys) (hz : xs.length + ys.length ≤ 100000) : EvL (tOp rCat ta tb) σ H (xs ++ ys) := fun H1 e Q q =>
  ha H1 e _ fun p H2 hp e2 h2 => hb H2 (e.trans e2) H2 (Ex.refl H2) _ fun r H3 hr e3 h3 => ⟨p, r, xs, ys, rfl, rfl, e3 _ _ h2, h3, sz_of hz, fun t ht =>
    q t _ (fresh_back (e2.trans e3) ht) ((e2.trans e3).trans (Ex.new ht)) upd_same⟩
theorem el_cat1 {a : Addr} (ha : Ev ta σ H (.ref a)) (hA : H a = some (.lst xs)) (hb : EvL tb σ H ys) (hz : xs.length + ys.length ≤ 100000) : EvL (tOp rCat ta tb) σ H (xs ++ ys) := fun H1 e Q q =>
  ha H1 e _ fun H2 e2 => hb H2 (e.trans e2) _ fun r H3 hr e3 h3 => ⟨a, r, xs, ys, rfl, rfl, ((e.trans e2).trans e3) _ _ hA, h3, sz_of hz, fun t ht =>
    q t _ (fresh_back (e2.trans e3) ht) ((e2.trans e3).trans (Ex.new ht)) upd_same⟩
theorem el_slN {tl th : TO} {lo hi : Option Int} (h : EvL te σ H xs) (h1 : EvO tl σ H lo) (h2 : EvO th σ H hi) : EvL (tSl (rSlL K) te tl th) σ H (cutV xs lo hi) := fun H1 e _ q =>
  h H1 e _ fun a H2 ha e2 hx => h1 H2 (e.trans e2) _ fun H3 e3 => h2 H3 ((e.trans e2).trans e3) _ fun H4 e4 =>
    ⟨a, xs, rfl, sq_of (e4 _ _ (e3 _ _ hx)), fun p hp => q p _ (fresh_back ((e2.trans e3).trans e4) hp) (((e2.trans e3).trans e4).trans (Ex.new hp)) upd_same⟩
/-- a call whose first argument is a new list -/
theorem el_callL {sp : Sp} {E : XK} (h : EvL te σ H xs) (hr : EvA tr σ H vs) (hs : ∀ p H1, Ex H H1 → H1 p = some (.lst xs) → SpL sp (.ref p :: vs ++ dvs) H1 ys) : EvL (tCall sp dvs E (tCons te tr)) σ H ys := fun H1 e Q q =>
  h H1 e _ fun p H2 hp e2 h2 => hr H2 (e.trans e2) _ fun H3 e3 => hs p H3 ((e.trans e2).trans e3) (e3 _ _ h2) H3 (Ex.refl H3) Q (fun r H4 hr e4 h4 => q r H4 (fresh_back (e2.trans e3) hr) ((e2.trans e3).trans e4) h4) E
theorem el_callLL {sp : Sp} {E : XK} {zs : List V} (h : EvL te σ H xs) (hb : ∀ H1, Ex H H1 → EvL tb σ H1 zs) (hr : EvA tr σ H vs) (hs : ∀ p r H1, Ex H H1 → H1 p = some (.lst xs) → H1 r = some (.lst zs) → SpL sp (.ref p :: .ref r :: vs ++ dvs) H1 ys) : EvL (tCall sp dvs E (tCons te (tCons tb tr))) σ H ys := fun H1 e Q q =>
  h H1 e _ fun p H2 hp e2 h2 => hb H2 (e.trans e2) H2 (Ex.refl H2) _ fun r H3 hr' e3 h3 => hr H3 ((e.trans e2).trans e3) _ fun H4 e4 => hs p r H4 (((e.trans e2).trans e3).trans e4) (e4 _ _ (e3 _ _ h2)) (e4 _ _ h3) H4 (Ex.refl H4) Q
    (fun t H5 ht e5 h5 => q t H5 (fresh_back ((e2.trans e3).trans e4) ht) (((e2.trans e3).trans e4).trans e5) h5) E
end

/-! ### further rules of mine -/
section
variable {X : Cx}
theorem PI.or {tg e : Expr} {w1 w2 : TI} (h1 : PI X tg e w1) (h2 : PI X tg e w2) : PI X tg e (fun σ H R => w1 σ H R ∨ w2 σ H R) :=
  ⟨fun pins s σ H R I h => h.elim (fun h => h1.run pins s σ H R I h) (fun h => h2.run pins s σ H R I h)⟩
/-- a < b of data that are alike -/
def rLtD (K : PySem.W.Frag) : R2 := fun x y H Q => ∃ d e, Dp K H x d ∧ Dp K H y e ∧ PySem.W.alike d e = true ∧ d ≠ .none ∧ d.depth ≤ 60 ∧ Q (.bl (PySem.W.dataLt d e)) H
theorem op_ltD (K : PySem.W.Frag) (hu : X.A.units + 64 < cLine) (hK : X.K = K := by rfl) : OpR X (compareOp .Lt) (rLtD K) := by
  subst hK
  intro pins s σ H x y v u Q I rx ry h
  obtain ⟨d, e, hd, he, ha, hn, hdp, q⟩ := h
  obtain ⟨as, r1⟩ := Dp.reads I d x v hd rx
  obtain ⟨bs, r2⟩ := Dp.reads I e y u he ry
  show wpAny _ _ (richCompare .Lt v u) _ _ _
  exact PySem.W.rcLt_alike d e X.A s v u as bs r1 r2 ha hn (by omega) _ _ _ _ ⟨.bl _, H, I, rfl, q⟩
/-- a == b by the own __eq__ of the class of both -/
def rEqOwn (C : Addr) (sp : Sp) (E : XK) : R2 := fun x y H Q => ∃ a b dx dy fs gs, x = .ref a ∧ y = .ref b ∧ H a = some (.ins C dx fs) ∧ H b = some (.ins C dy gs) ∧ sp [.ref a, .ref b] H (fun v H' => (∃ k, v = .bl k) ∧ Q v H') E
theorem op_eqOwn {CX : CXT} {C f : Addr} {fd : FuncData} {ps : List Str} {sp : Sp} {E : XK} {n : Nat} (F : FnOk X.prog X.w X.K X.mg X.base CX n f fd ps sp) (hr : Room n X.A) (M : Meth X.K C "__eq__" f) (hb : Binds X.K fd ps []) (hx : Passes CX X E) :
    OpR X (compareOp .Eq) (rEqOwn C sp E) := by
  intro pins s σ H x y v u Q I rx ry h
  obtain ⟨a, b, dx, dy, fs, gs, rfl, rfl, ha, hb', hsp⟩ := h
  cases rx
  cases ry
  obtain ⟨mA, J, _⟩ := ins_get I.hok ha
  obtain ⟨mB, J', _⟩ := ins_get I.hok hb'
  obtain ⟨od, J, _⟩ := J.look
  obtain ⟨od', J', _⟩ := J'.look
  obtain ⟨m, hF⟩ := I.fr
  show wpAny _ _ (richCompare .Eq _ _) _ _ _
  refine PySem.W.cmp_K (op := .Eq) (tb := .ref C) hr.units0 hF I.ok.mod.kin J J'.type (by simp [PySem.W.notFirst]) M.at_ M.fn ?_
  have hl := F.len _ _ _ _ hsp
  have r2 : Vals [V.ref a, V.ref b] [Value.ref a, Value.ref b] := .cons rfl (.cons rfl .nil)
  refine wpAny_call (codeAny_mono (F.run X.A X.stack s H ⟨[.ref a, .ref b], []⟩ [.ref a, .ref b] [.ref a, .ref b] _ E hr I.env0 (by
    have := hb s [.ref a, .ref b] I.kIn (by simpa using hl)
    simpa using this) r2 hsp) fun r s' hq => ?_)
  cases r with
  | error e => exact hx pins σ H s e s' I hq
  | ok fl =>
    cases fl with
    | ret w =>
      obtain ⟨z, H', I', rz, ⟨k, ez⟩, q⟩ := I.after hq
      subst ez
      cases rz
      exact ⟨.bl k, H', I', rfl, q⟩
    | next => exact False.elim hq
    | brk => exact False.elim hq
    | cont => exact False.elim hq
theorem kit_self {K : PySem.W.Frag} {C : Addr} : PySem.W.kitOne K (.ref C) (.ref C) = some true := by
  unfold PySem.W.kitOne
  rw [if_pos (by simp)]
theorem tup0 {pos : Pos} {c : Nat} : PE X (.Tuple [] c pos) (tTup tNil) := pe_tup pa_nil
end
section
variable (K : PySem.W.Frag) {X : Cx}
def rAllK (K : PySem.W.Frag) : List V → Hp → VK → Prop := rAll K
theorem allK (hc : X.calm = true) (hK : X.K = K := by rfl) : CallR X (.builtin "all") (rAll K) := by subst hK; exact cr_all hc
end
section
variable {K : PySem.W.Frag} {σ : L2.St} {H H' : Hp} {ta tb te tv : TE} {t u : TT} {x y z v : V} {D : Ends} {tz tu : TS}
/-- a value that is a text or none -/
def isS : V → Bool | .str _ => true | _ => false
def KnS (K : PySem.W.Frag) (H : Hp) (x : V) : Prop := ∃ t, TyX K H x t ∧ PySem.W.kitOne K t (.type "str") = some (isS x)
theorem kns_str {s : Str} : KnS K H (.str s) := ⟨_, .base (.str s), kit_ty (r := true) (by decide +kernel)⟩
theorem kns_int {i : Int} : KnS K H (.int i) := ⟨_, .base (.int i), kit_ty (r := false) (by decide +kernel)⟩
theorem ev_isi {c : V} {tt u : Value} {b : Bool} (ha : Ev ta σ H x) (hb : Ev tb σ H c) (k : ClsV c u) (ht : ∀ H1, Ex H H1 → TyX K H1 x tt) (e : PySem.W.kitOne K tt u = some b) : Ev (tCB (rIsi K) (tCons ta (tCons tb tNil))) σ H (.bl b) :=
  fun H1 e1 Q q => ha H1 e1 _ fun H2 e2 => hb H2 (e1.trans e2) _ fun H3 e3 => ⟨x, c, tt, u, b, rfl, k, ht H3 ((e1.trans e2).trans e3), e, q H3 (e2.trans e3)⟩
theorem tyx_ex {tt : Value} (h : TyX K H x tt) (e : Ex H H') : TyX K H' x tt := by
  cases h with
  | base b =>
    cases b with
    | non => exact .base .non
    | bl x => exact .base (.bl x)
    | int i => exact .base (.int i)
    | str x => exact .base (.str x)
    | flt x => exact .base (.flt x)
    | lst h => exact .base (.lst (e _ _ h))
    | frz h => exact .base (.frz (e _ _ h))
    | tup h => exact .base (.tup (e _ _ h))
    | dK h => exact .base (.dK (e _ _ h))
    | dT h => exact .base (.dT (e _ _ h))
    | ins h a b c d f => exact .base (.ins (e _ _ h) a b c d f)
  | byt b => exact .byt b
  | set h => exact .set (e _ _ h)
  | kList h c => exact .kList h c
  | kTuple h c => exact .kTuple h c
  | kDict h c => exact .kDict h c
  | fTuple h => exact .fTuple (e _ _ h)
  | fDict h => exact .fDict (e _ _ h)
theorem kns_ex (h : KnS K H x) (e : Ex H H') : KnS K H' x := let ⟨t, h1, h2⟩ := h; ⟨t, tyx_ex h1 e, h2⟩
theorem kni_ex (h : KnI K H x) (e : Ex H H') : KnI K H' x := let ⟨t, h1, h2⟩ := h; ⟨t, tyx_ex h1 e, h2⟩
theorem ev_chain {r r' : R2} {k : Bool} {w : V} {tc : TE} {b2 : Bool} (ha : Ev ta σ H x) (hb : Ev tb σ H y) (hr : RV r x y H (.bl k)) (hc : k = true → Ev tc σ H w) (hr' : k = true → RV r' y w H (.bl b2)) : Ev (tChain r r' ta tb tc) σ H (.bl (k && b2)) := fun H1 e Q q =>
  ha H1 e _ fun H2 e2 => hb H2 (e.trans e2) _ fun H3 e3 => hr H3 ((e.trans e2).trans e3) _ fun H4 e4 => ⟨k, rfl, by
    cases k with
    | true =>
      rw [if_pos rfl]
      exact hc rfl H4 (((e.trans e2).trans e3).trans e4) _ fun H5 e5 => hr' rfl H5 ((((e.trans e2).trans e3).trans e4).trans e5) Q fun H6 e6 => q H6 ((((e2.trans e3).trans e4).trans e5).trans e6)
    | false =>
      rw [if_neg Bool.false_ne_true]
      exact q H4 ((e2.trans e3).trans e4)⟩
theorem ev_lenS {s : Str} (ha : Ev ta σ H (.str s)) (hz : s.length ≤ 100000) : Ev (tCB (fun xs H Q => ∃ z, xs = [.str z] ∧ z.length ≤ sizeLine ∧ Q (.int z.length) H) (tCons ta tNil)) σ H (.int (s.length : Int)) := fun H1 e Q q =>
  ha H1 e _ fun H2 e2 => ⟨s, rfl, sz_of hz, q H2 e2⟩
theorem ev_m1 {r : V → List V → Hp → VK → Prop} {s : Str} {w : V} (ha : Ev ta σ H (.str s)) (hb : Ev tb σ H y) (hr : ∀ H1, Ex H H1 → ∀ Q : VK, (∀ H2, Ex H1 H2 → Q w H2) → r (.str s) [y] H1 Q) : Ev (tM1 r ta tb) σ H w := fun H1 e Q q =>
  ha H1 e _ fun H2 e2 => ⟨⟨s, rfl⟩, hb H2 (e.trans e2) _ fun H3 e3 => hr H3 ((e.trans e2).trans e3) Q fun H4 e4 => q H4 ((e2.trans e3).trans e4)⟩
theorem ev_slS {tl th : TO} {s : Str} {lo hi : Option Int} (h : Ev te σ H (.str s)) (h1 : EvO tl σ H lo) (h2 : EvO th σ H hi) (hz : s.length ≤ 100000) : Ev (tSl rSlS te tl th) σ H (.str (cutS s lo hi)) := fun H1 e _ q =>
  h H1 e _ fun H2 e2 => h1 H2 (e.trans e2) _ fun H3 e3 => h2 H3 ((e.trans e2).trans e3) _ fun H4 e4 => ⟨s, rfl, sz_of hz, q H4 ((e2.trans e3).trans e4)⟩
theorem rv_neS {a b : Str} : RV rNe (.str a) (.str b) H (.bl (!decide (a = b))) := fun H1 _ _ q => ⟨rfl, by
  have : decide (V.str a = V.str b) = decide (a = b) := by
    by_cases h : a = b
    · rw [h, decide_eq_true rfl, decide_eq_true rfl]
    · rw [decide_eq_false h, decide_eq_false (fun z => h (V.str.inj z))]
  rw [this]
  exact q H1 (Ex.refl H1)⟩
theorem rv_eqS {a b : Str} : RV rEq (.str a) (.str b) H (.bl (decide (a = b))) := fun H1 _ _ q => ⟨rfl, by
  have : decide (V.str a = V.str b) = decide (a = b) := by
    by_cases h : a = b
    · rw [h, decide_eq_true rfl, decide_eq_true rfl]
    · rw [decide_eq_false h, decide_eq_false (fun z => h (V.str.inj z))]
  rw [this]
  exact q H1 (Ex.refl H1)⟩
end
section
variable {X : Cx} {CX : CXT} {k : Nat} {f C : Addr} {fd : FuncData} {ps : List Str} {sp : Sp} {E : XK} {x : Str} {p pos : Pos} {e : Expr} {es : List Expr} {t : TA} {dvs : List V} {te : TE}
theorem pe_callD (F : FnOk X.prog X.w X.K X.mg X.base CX k f fd ps sp) (hr : Room k X.A) (hg : Gl X x) (hm : X.mg x = some (.ref f)) (hk : PySem.W.keepIn X.K (.ref f) = true) (hbd : ∃ ds, Vals dvs ds ∧ Binds X.K fd ps ds) (hx : Passes CX X E)
    (ha : PA X (e :: es) t) (hdb : (x == ("__debug__" : Str)) = false := by decide) (he : starEach (e :: es) X.env = (false, eval e X.env) :: starEach es X.env := by rfl) (hpl : (backTo pos (starEach es X.env)).any (·.1) = false := by rfl) :
    PE X (.Call (.Name x p) (e :: es) [] pos) (tCall sp dvs E t) := by
  obtain ⟨ds, hd, hb⟩ := hbd
  exact pe_call F hr hg hm hk hb hd hx ha hdb he hpl
theorem pe_makeD (M : Mk X.K C f) (F : FnOk X.prog X.w X.K X.mg X.base CX k f fd ps sp) (hr : Room (k + 1) X.A) (hg : Gl X x) (hm : X.mg x = some (.ref C)) (hbd : ∃ ds, Vals dvs ds ∧ Binds X.K fd ps ds) (hx : Passes CX X E)
    (ha : PA X (e :: es) t) (hdb : (x == ("__debug__" : Str)) = false := by decide) (he : starEach (e :: es) X.env = (false, eval e X.env) :: starEach es X.env := by rfl) (hpl : (backTo pos (starEach es X.env)).any (·.1) = false := by rfl) :
    PE X (.Call (.Name x p) (e :: es) [] pos) (tMake C sp dvs E t) := by
  obtain ⟨ds, hd, hb⟩ := hbd
  exact pe_make M F hr hg hm hb hd hx ha hdb he hpl
theorem starK (K : PySem.W.Frag) (he : PE X e te) (hr : PA X es t) (hK : X.K = K := by rfl) (hs : starEach (.Starred e p :: es) X.env = (true, eval e X.env) :: starEach es X.env := by rfl) : PA X (.Starred e p :: es) (StX.tStar K te t) := by
  subst hK
  exact StX.pa_star he hr hs
end
section
variable {K : PySem.W.Frag} {σ : L2.St} {H H' : Hp} {ta tb te tv : TE} {t u : TT} {x y z v : V} {D : Ends} {tz tu : TS} {tr : TA}
theorem ea_star {a : Addr} {xs vs : List V} (h : Ev te σ H (.ref a)) (hx : SqT K H a xs) (hr : EvA tr σ H vs) : EvA (StX.tStar K te tr) σ H (xs ++ vs) := fun H1 e _ q =>
  h H1 e _ fun H2 e2 => ⟨a, xs, rfl, .inl (ex_t (e.trans e2) hx), hr H2 (e.trans e2) _ fun H3 e3 => q H3 (e2.trans e3)⟩
theorem et_truth {b : Bool} (h : Ev te σ H x) (ht : ∀ H1, Ex H H1 → TruV K x H1 b) : EvT (fun σ H Q => te σ H fun x H' => ∃ k, TruV K x H' k ∧ Q k H') σ H b := fun H1 e _ q =>
  h H1 e _ fun H2 e2 => ⟨b, ht H2 (e.trans e2), q H2 e2⟩
theorem ev_orT {b : Bool} (h : Ev ta σ H x) (ht : ∀ H1, Ex H H1 → TruV K x H1 b) (hb : b = false → Ev tb σ H y) (hv : v = if b = true then x else y) : Ev (tOrT K ta tb) σ H v := fun H1 e Q q =>
  h H1 e _ fun H2 e2 => ⟨b, ht H2 (e.trans e2), by
    subst hv
    cases b with
    | true =>
      rw [if_pos rfl]
      exact q H2 e2
    | false =>
      rw [if_neg Bool.false_ne_true]
      exact hb rfl H2 (e.trans e2) Q fun H3 e3 => q H3 (e2.trans e3)⟩
/-- the parts of an f-string, by their texts -/
inductive EvJ (σ : L2.St) (H : Hp) : List TE → List Str → Prop where
  | nil : EvJ σ H [] []
  | cons {t : TE} {ts : List TE} {s : Str} {ss : List Str} (h : Ev t σ H (.str s)) (r : EvJ σ H ts ss) : EvJ σ H (t :: ts) (s :: ss)
theorem ev_tJs {ts : List TE} {ss : List Str} (h : EvJ σ H ts ss) : ∀ (acc : Str) (H1 : Hp), Ex H H1 → acc.length + (ss.map (·.length)).sum ≤ 100000 → ∀ Q : Str → Hp → Prop, (∀ H2, Ex H1 H2 → Q (ss.foldl (· ++ ·) acc) H2) → tJs ts acc σ H1 Q := by
  induction h with
  | nil => intro acc H1 e hz Q q; exact q H1 (Ex.refl _)
  | @cons t ts s ss h r ih =>
    intro acc H1 e hz Q q
    have hl : (acc ++ s).length = acc.length + s.length := by
      show (acc.cps ++ s.cps).size = _
      rw [Array.size_append]
      rfl
    rw [List.map_cons, List.sum_cons] at hz
    exact h H1 e _ fun H2 e2 => ⟨s, rfl, sz_of (by omega), ih (acc ++ s) H2 (e.trans e2) (by omega) Q fun H3 e3 => q H3 (e2.trans e3)⟩
theorem ev_joined {ts : List TE} {ss : List Str} (h : EvJ σ H ts ss) (hz : (ss.map (·.length)).sum ≤ 90000) : Ev (fun σ H Q => tJs ts Str.empty σ H fun out H1 => Q (.str out) H1) σ H (.str (ss.foldl (· ++ ·) Str.empty)) := fun H1 e Q q =>
  ev_tJs h Str.empty H1 e (by show (#[] : Array Nat).size + _ ≤ _; simp only [List.size_toArray, List.length_nil]; omega) _ q
theorem ev_fmtS {s : Str} (h : Ev te σ H (.str s)) (hz : s.length ≤ 100000) : Ev (tFmt te) σ H (.str s) := fun H1 e Q q => h H1 e _ fun H2 e2 => .inl ⟨s, rfl, sz_of hz, q H2 e2⟩
theorem ev_fmtI {i : Int} (h : Ev te σ H (.int i)) (hz : i.natAbs.log2 < 1920) : Ev (tFmt te) σ H (.str (toString i)) := fun H1 e Q q => h H1 e _ fun H2 e2 => .inr ⟨i, rfl, hz, q H2 e2⟩
theorem ev_strI {i : Int} (h : Ev te σ H (.int i)) (hz : i.natAbs.log2 < 1920) : Ev (tCB (fun xs H Q => ∃ i : Int, xs = [.int i] ∧ i.natAbs.log2 < 1920 ∧ Q (.str (toString i)) H) (tCons te tNil)) σ H (.str (toString i)) := fun H1 e Q q =>
  h H1 e _ fun H2 e2 => ⟨i, rfl, hz, q H2 e2⟩
theorem int_len {a : Int} (h : a.natAbs.log2 < 1920) : (Str.ofString (toString a)).length ≤ 1921 := by
  have e := int_text_length_le (k := 1920) (by decide) h
  rw [PySem.ofString_length]
  omega
end
section
variable {K : PySem.W.Frag} {σ : L2.St} {H : Hp} {ta tv : TE} {D : Ends} {tz : TS}
theorem q_fldU {a C dx : Addr} {fs : List (Str × V)} {f : Str} {xs : List V} (hv : EvU tv σ H xs) (ha : Ev ta σ H (.ref a)) (ho : H a = some (.ins C dx fs)) (hc : Cls K C) (hn : NoAttr K C f) (hl : fs.length < 1000)
    (k : ∀ p H1, H p = none → Ex H H1 → H1 p = some (.tup xs) → tz D σ (upd H1 a (.ins C dx (putF f (.ref p) fs)))) : tSeq (sFld K ta tv f) tz D σ H :=
  hv H (Ex.refl H) _ fun p H1 hp e1 h1 => ha H1 e1 _ fun H2 e2 => ⟨a, C, dx, fs, rfl, e2 _ _ (e1 _ _ ho), hc, hn, hl, k p H2 hp (e1.trans e2) (e2 _ _ h1)⟩
end

/-! ### a def that is called where no repr runs -/
structure FnG (P : Program) (w : World) (K : PySem.W.Frag) (mg : Str → Option Value) (base : Heap) (k : Nat) (f : Addr) (fd : FuncData) (ps : List Str) (sp : Sp) : Prop where
  len : ∀ vs H Q E, sp vs H Q E → vs.length = ps.length
  run : ∀ (A : Around) (out : List Env) (t : Shared) (H : Hp) (ar : Args) (us : List Value) (vs : List V) (Q : VK) (E : XK), A.guards = some [] → Room k A → Env0 P w K mg base A out t H → BindsTo t fd ar (ps.zip us) → Vals vs us →
    sp vs H Q E → codeAny (model P w) A (.call (.ref f) ar) (CR CX0 out P w H t Q E) t
section
variable {P : Program} {w : World} {K : PySem.W.Frag} {mg : Str → Option Value} {base : Heap} {k : Nat} {f : Addr} {fd : FuncData} {x qual : Str} {st : Stmt} {N ps : List Str} {sp : Sp}
theorem okG (F : Fun K x qual st f fd) (S : FnScope N ps (defScope st)) (len : ∀ vs H Q E, sp vs H Q E → vs.length = ps.length)
    (body : ∀ (cv : Value) (A : Around) (out : List Env) (t : Shared) (H : Hp) (vs : List V) (Q : VK) (E : XK), A.guards = some [] → Room k (A.deeper (envOfC qual (defScope st) t.heap.objs.size f cv)) → sp vs H Q E →
      ∃ u, PSs (cxOf CX0 P w K mg base N qual (defScope st) f cv A out t H E).nox (defBody st) u ∧ u { nx := fun _ H' => Q .non H', rt := Q } (start N vs) H) : FnG P w K mg base (k + 1) f fd ps sp := by
  obtain ⟨oc, od, kV, doc, pm, an, ct, cv, osl, rfl, look, code⟩ := F.ex
  refine ⟨len, fun A out t H ar us vs Q E gd room en bd rel hsp => ?_⟩
  have many := len vs H Q E hsp
  have stay := fun b o (q : base.get? b = some o) => (en.bs b o q).1
  have written := en.mod.kin.keeps stay
  have kinds : ∀ y ∈ ps.zip us, (defScope st).names.lookup y.1 = some .local ∨ ((defScope st).names.lookup y.1 = some .cell ∧ ((cellsFrom (t.heap.objs.size + 1) (defScope st).names []).lookup y.1).isSome = true) := by
    rintro ⟨n, z⟩ hy
    cases S.par n (List.of_mem_zip hy).1 with
    | inl q => exact Or.inl q
    | inr q => exact Or.inr ⟨q, PySem.W.cellsFrom_some _ _ _ (Or.inl q)⟩
  apply codeAny_call_function room.depth (written _ _ look) rfl S.co S.gen rfl (PySem.W.codeRec_of written code) (bd _ _ _ _ ?_)
  apply wpAny_newFunctionEnv_cells S.kind kinds
  rintro _ rfl t1 inside
  refine ⟨(en.mod.nolimit.keeps stay).keeps inside.toInCall.keep, codeAny_func ?_⟩
  obtain ⟨u, hu, go⟩ := body _ A out t H vs Q E gd (room.deeper _) hsp
  have inv := inv_start (CX := CX0) (E := E) S room.hd en many rel inside
  refine wpAny_mono (hu.nox.run [] t1 (start N vs) H _ inv go) (fun fl t2 hs => ?_) fun e t2 hs => hs
  match fl, hs with
  | .ret z, ⟨v, σ', H', J, rv, q⟩ => exact ⟨v, H', J.os, J.bare, J.base, J.hok, rv, q⟩
  | .next, ⟨σ', H', J, q⟩ => exact ⟨V.non, H', J.os, J.bare, J.base, J.hok, rfl, q⟩
  | .brk, ⟨_, _, _, q⟩ => exact q.elim
  | .cont, ⟨_, _, _, q⟩ => exact q.elim
end
section
variable {X : Cx}
/-- repr(x) of what shows as data -/
def rRepr (K : PySem.W.Frag) : List V → Hp → VK → Prop := fun xs H Q => ∃ v d, xs = [v] ∧ Dp K H v d ∧ d.showable = true ∧ d.hasDict = false ∧ d.depth ≤ 60 ∧ d.shown.length ≤ 90000 ∧ Q (.str d.shown) H
end
section
variable {P : Program} {w : World} {K : PySem.W.Frag} {mg mb : Str → Option Value} {k : Nat} {fa a : Addr} {fd : FuncData} {x : Str} {sp : Sp} {t : Shared} {vs : List Value} {ns : List Int}
/-- the law's call, from its promise where no repr runs -/
theorem law_callG (kin : K.In t.heap) (nm : t.heap.Ns mainGlobals mg) (nb : t.heap.Ns builtinsNs mb) (bb : ∀ x : Str, x ≠ "__name__" → mb x = bootBuiltins x) (nl : t.heap.NoLimit) (gg : t.gens = #[])
    (at_ : t.heap.get? a = some { cls := .type "list", data := .seq vs.toArray }) (its : IntsAre vs ns) (few : ns.length ≤ sizeLine) (room : Room k callerA)
    (F : ∀ base : Heap, K.In base → base.Ns mainGlobals mg → FnG P w K mg base k fa fd [x] sp) (bd : ∀ (s : Shared) (u : Value), BindsTo s fd ⟨[u], []⟩ [(x, u)])
    (hsp : ∀ H : Hp, Only H → SqL K H a (ns.map V.int) → sp [.ref a] H (fun v _ => v = .bl true) fun _ _ _ => False) :
    codeAny (model P w) callerA (.call (.ref fa) ⟨[.ref a], []⟩) (fun r s' => r = .ok (.ret (.bool true)) ∧ OldK t.heap s'.heap ∧ s'.os = t.os ∧ AllBare s'.gens) t := by
  have rel := vals_ints its
  have size := its.length
  -- a heap H of which at most the script is known
  suffices go : ∀ H : Hp, Only H → SqL K H a (ns.map V.int) → HOk P w H t.heap → (∀ b, H b ≠ none → b = a ∧ K.lookup a = none) →
      codeAny (model P w) callerA (.call (.ref fa) ⟨[.ref a], []⟩) (fun r s' => r = .ok (.ret (.bool true)) ∧ OldK t.heap s'.heap ∧ s'.os = t.os ∧ AllBare s'.gens) t by
    cases own : K.lookup a with
    | some o =>
      obtain rfl := Option.some.inj ((kin a o own).symm.trans at_)
      refine go (fun _ => none) (fun _ => Or.inl rfl) (Or.inr ⟨_, vs.toArray, _, own, rfl, rfl, rfl, ?_, ?_⟩) (fun b u z => nomatch z) (fun b z => absurd rfl z)
      · rw [List.size_toArray, size]; exact few
      · simpa using rel
    | none =>
      let one : Hp := fun b => if b = a then some (.frz { cls := .type "list", data := .seq vs.toArray } (.lst (ns.map V.int))) else none
      have here : one a = some (.frz { cls := .type "list", data := .seq vs.toArray } (.lst (ns.map V.int))) := if_pos rfl
      have there : ∀ b, b ≠ a → one b = none := fun b h => if_neg h
      refine go one (fun b => ?_) (Or.inl (Or.inr ⟨_, here⟩)) (fun b u z => ?_) (fun b z => ⟨Classical.byContradiction fun h => z (there b h), own⟩)
      · by_cases h : b = a
        · subst h; exact Or.inr ⟨_, _, here⟩
        · exact Or.inl (there b h)
      · by_cases h : b = a
        · subst h
          cases here.symm.trans z
          exact ⟨at_, by rw [List.length_map]; exact few, vs, _, rel, at_⟩
        · rw [there b h] at z
          cases z
  intro H only hS hok mine
  have free : ∀ {b : Addr} {o : Obj}, t.heap.get? b = some o → (b = a → K.lookup a = none → False) → H b = none := fun {b o} q no => by
    cases e : H b with
    | none => rfl
    | some u =>
      obtain ⟨h1, h2⟩ := mine b (by rw [e]; simp)
      exact (no h1 h2).elim
  have inK : K.In (hidT t.heap H) := fun b o q => hidT_get (kin b o q) (free (kin b o q) fun h1 h2 => by rw [h1, h2] at q; cases q)
  have ns' : ∀ {b : Addr} {m : Str → Option Value}, t.heap.Ns b m → (hidT t.heap H).Ns b m := by
    rintro b m ⟨o, es, ep, q, d, r⟩
    refine ⟨o, es, ep, hidT_get q (free q fun h1 _ => ?_), d, r⟩
    subst h1
    cases at_.symm.trans q
    cases d
  have md : Mod K mg (hidT t.heap H) := by
    obtain ⟨mc, l1, l2⟩ := nl
    exact ⟨inK, ns' nm, ⟨mb, ns' nb, bb⟩, ⟨mc, ns' l1, l2⟩⟩
  have en : Env0 P w K mg (hidT t.heap H) callerA [] t H := ⟨rfl, md, fun b o q => of_hidT q, Nat.le_of_eq (hidT_size _ _), trivial, fun b z => absurd (show b ∈ ([] : List Addr) from z) List.not_mem_nil, hok, .of_eq gg⟩
  have run := (F _ inK (ns' nm)).run callerA [] t H ⟨[.ref a], []⟩ [.ref a] [.ref a] _ _ rfl room en (bd t (.ref a)) (.cons rfl .nil) (hsp H only hS)
  refine codeAny_mono run fun r s' h => ?_
  match r, h with
  | .error e, h => exact h.elim
  | .ok .next, h => exact h.elim
  | .ok .brk, h => exact h.elim
  | .ok .cont, h => exact h.elim
  | .ok (.ret u), ⟨v, H', os, bare, un, hok', rv, q⟩ =>
    obtain rfl : v = .bl true := q
    obtain rfl : u = Value.bool true := rv
    refine ⟨rfl, OldK.of_keep fun b o q => ?_, os, bare⟩
    rcases only b with z | ⟨ob, xs, z⟩
    · exact un.keep b o q z (fun z => absurd (show b ∈ ([] : List Addr) from z) List.not_mem_nil) (by simp)
    · have e1 := (hok b _ z).1
      have e2 := (hok' b _ (un.frzs b ob _ z)).1
      cases q.symm.trans e1
      exact e2
end
theorem walkG {l : PySem.W.OpenLaw} {n k : Nat} {q : Program} {loose : List Str} {XP : (Str → Option Value) → Heap → Prop} {YP : World → Heap → Prop} {d : DefRec} {K : Params → PySem.W.Frag} {sp : World → Sp} {x : Str}
    (hn : l.most = some n) (few : n ≤ sizeLine) (hd : d.params.defaults = []) (room : Room k callerA) (hY : ∀ (w : World) (h : Heap), YP w h → (K w.params).In h)
    (F : ∀ (w : World) (mg : Str → Option Value) (fa : Addr) (h : Heap), (K w.params).In h → h.Ns mainGlobals mg → mg d.name = some (.ref fa) →
      ∃ fd : FuncData, (∀ (s : Shared) (u : Value), BindsTo s fd ⟨[u], []⟩ [(x, u)]) ∧ ∀ base : Heap, (K w.params).In base → base.Ns mainGlobals mg → FnG l.prog w (K w.params) mg base k fa fd [x] (sp w))
    (hsp : ∀ (w : World) (H : Hp) (a : Addr) (ns : List Int), ns.length ≤ n → Only H → SqL (K w.params) H a (ns.map V.int) → sp w [.ref a] H (fun v _ => v = .bl true) fun _ _ _ => False) :
    PySem.W.WalkO q loose XP YP l.row.toRowW d [] (fun f vs => PySem.call f vs) := by
  refine Att.attach_call hn hd ?_
  intro w _ t mg mb fa _ _ _ _ a vs ns G Y _ _ _ named at_ its many gens
  obtain ⟨fd, bd, FF⟩ := F w mg fa _ (hY w _ Y) G.T.g named
  exact law_callG (hY w _ Y) G.T.g G.T.b G.T.builtins G.T.nolimit gens at_ its (Nat.le_trans many few) room FF bd fun H only hS => hsp w H a ns many only hS
section
variable {X : Cx}
theorem call_reprD (gd : X.A.guards = some []) (room : X.A.units + 64 < cLine) : CallR X (.builtin "repr") (fun xs H Q => ∃ a d, xs = [.ref a] ∧ Dp X.K H (.ref a) d ∧ d.showable = true ∧ d.hasDict = false ∧ d.depth ≤ 60 ∧ d.shown.length ≤ 100000 ∧ Q (.str d.shown) H) := by
  intro pins s σ H xs us Q I r h
  obtain ⟨a, d, rfl, hd, hs, nd, dp, sz, q⟩ := h
  obtain ⟨u, rfl, ru⟩ := vals1 r
  obtain rfl : u = Value.ref a := ru
  obtain ⟨as, rd⟩ := Dp.reads I d (.ref a) (.ref a) hd rfl
  exact repr_of_reads' rd hs (fun h => by rw [nd] at h; cases h) gd (by omega) (fun b o h => h) (fun h' z tk kept => ⟨.str d.shown, H, I.kept kept, ⟨z, rfl⟩, q⟩) (sz_of sz)
end
section
variable {X : Cx} {CX : CXT} {k : Nat} {f : Addr} {fd : FuncData} {ps : List Str} {sp : Sp} {E : XK} {dvs : List V} {ds : List Value} {x : Str} {p pos : Pos} {e : Expr} {es : List Expr} {t : TA}
theorem run_fnG {pins : List (Addr × Obj)} {σ : L2.St} {H : Hp} {s : Shared} {Q : VK} {us : List Value} {vs : List V} (F : FnG X.prog X.w X.K X.mg X.base k f fd ps sp) (gd : X.A.guards = some []) (hr : Room k X.A) (hb : Binds X.K fd ps ds) (hd : Vals dvs ds) (hx : Passes CX0 X E)
    (I : Inv X pins σ H s) (r : Vals vs us) (h : sp (vs ++ dvs) H Q E) : wpAny (model X.prog X.w) X.A (call (.ref f) us) (EP X pins σ Q) X.xe s := by
  have r2 : Vals (vs ++ dvs) (us ++ ds) := r.append hd
  have hl : (us ++ ds).length = ps.length := by rw [← r2.length]; exact F.len _ _ _ _ h
  refine wpAny_call (codeAny_mono (F.run X.A X.stack s H ⟨us, []⟩ (us ++ ds) (vs ++ dvs) Q E gd hr I.env0 (hb s us I.kIn hl) r2 h) fun r s' hq => ?_)
  cases r with
  | error e => exact hx pins σ H s e s' I hq
  | ok fl =>
    cases fl with
    | ret u => exact I.after hq
    | next => exact False.elim hq
    | brk => exact False.elim hq
    | cont => exact False.elim hq
theorem pe_callG (F : FnG X.prog X.w X.K X.mg X.base k f fd ps sp) (gd : X.A.guards = some []) (hr : Room k X.A) (hg : Gl X x) (hm : X.mg x = some (.ref f)) (hk : PySem.W.keepIn X.K (.ref f) = true) (hb : Binds X.K fd ps ds) (hd : Vals dvs ds) (hx : Passes CX0 X E)
    (ha : PA X (e :: es) t) (hdb : (x == ("__debug__" : Str)) = false := by decide) (he : starEach (e :: es) X.env = (false, eval e X.env) :: starEach es X.env := by rfl) (hpl : (backTo pos (starEach es X.env)).any (·.1) = false := by rfl) :
    PE X (.Call (.Name x p) (e :: es) [] pos) (tCall sp dvs E t) := by
  refine ⟨fun pins s σ H Q I h => ?_⟩
  refine wpAny_Call_Name_kw (ld_glob I hg hm ?_ hdb)
  refine PySem.W.callWith_K (h₀ := X.base) I.ok.mod.kin hk (thn (ha.run pos pins s σ H _ I h) fun us s1 ⟨vs, H1, I1, r, q⟩ => ⟨I1.kIn, ?_⟩) he hpl
  exact run_fnG F gd hr hb hd hx I1 r q
end
section
variable {X : Cx}
def qRepr (K : PySem.W.Frag) : List V → Hp → VK → Prop := fun xs H Q => ∃ a d, xs = [.ref a] ∧ Dp K H (.ref a) d ∧ d.showable = true ∧ d.hasDict = false ∧ d.depth ≤ 60 ∧ d.shown.length ≤ sizeLine ∧ Q (.str d.shown) H
theorem reprK (K : PySem.W.Frag) (gd : X.A.guards = some []) (room : X.A.units + 64 < cLine) (hK : X.K = K := by rfl) : CallR X (.builtin "repr") (qRepr K) := by
  subst hK
  intro pins s σ H xs us Q I r h
  obtain ⟨a, d, rfl, hd, hs, nd, dp, sz, q⟩ := h
  obtain ⟨u, rfl, ru⟩ := vals1 r
  obtain rfl : u = Value.ref a := ru
  obtain ⟨as, rd⟩ := Dp.reads I d (.ref a) (.ref a) hd rfl
  exact repr_of_reads' rd hs (fun h => by rw [nd] at h; cases h) gd (by omega) (fun b o h => h) (fun h' z tk kept => ⟨.str d.shown, H, I.kept kept, ⟨z, rfl⟩, q⟩) sz
end

/-! ### texts, sign by sign -/
abbrev sg (s : Str) : List Nat := s.cps.toList
theorem str_ext {a b : Str} (h : sg a = sg b) : a = b := by
  cases a; cases b
  exact congrArg Str.mk (Array.ext' h)
theorem sg_app (a b : Str) : sg (a ++ b) = sg a ++ sg b := PySem.W.KAf.app_list a b
theorem sg_len (s : Str) : (sg s).length = s.length := Array.length_toList
theorem len_app (a b : Str) : (a ++ b).length = a.length + b.length := by
  rw [← sg_len, sg_app, List.length_append, sg_len, sg_len]
theorem ends0 (s : Str) (c : Nat) : Txt.endswith (s ++ ⟨#[c]⟩) "0" = decide (c = 48) := by
  have h0 : ("0" : Str).length = 1 := by decide +kernel
  rw [PySem.W.KAf.ends_right (by rw [h0]; show 1 ≤ 1; decide)]
  unfold Txt.endswith
  rw [StrLaws.subAt_eq, h0]
  show (decide (0 + 1 ≤ 1) && ([c].take 1 == ("0" : Str).cps.toList)) = _
  rw [show ("0" : Str).cps.toList = [48] by decide +kernel]
  by_cases h : c = 48
  · subst h; decide
  · rw [decide_eq_false h]
    simp [h]
theorem sg_cutTo (s : Str) (k : Nat) : sg (cutS s none (some (k : Int))) = (sg s).take k := by
  show (List.toArray _).toList = _
  rw [show HT.sIx s.length 0 none = 0 from rfl, HT.sIx_nat, List.drop_zero, Nat.sub_zero]
  have hl : s.cps.toList.length = s.length := Array.length_toList
  have hl2 : (sg s).length = s.length := Array.length_toList
  by_cases h : k ≤ s.length
  · rw [Nat.min_eq_left h]
  · rw [Nat.min_eq_right (by omega), List.take_of_length_le (by omega), List.take_of_length_le (by omega)]
theorem sg_cutFrom1 (s : Str) : sg (cutS s (some 1) none) = (sg s).drop 1 := by
  show (List.toArray _).toList = _
  rw [show HT.sIx s.length 0 (some 1) = min 1 s.length from HT.sIx_nat _ _ 1, show HT.sIx s.length s.length none = s.length from rfl]
  have hl : s.cps.toList.length = s.length := Array.length_toList
  have hl2 : (sg s).length = s.length := Array.length_toList
  by_cases h : 1 ≤ s.length
  · rw [Nat.min_eq_left h, List.take_of_length_le (by rw [List.length_drop]; omega)]
  · rw [Nat.min_eq_right (by omega), List.drop_of_length_le (by omega), List.drop_of_length_le (by omega)]
    simp
/-! ### the kinds of texts and numbers -/
def allIn (t s : Str) : Bool := t.cps.toList.all fun c => decide (c ∈ s.cps.toList)
abbrev sFIG : Str := "0123456789"
abbrev sABC : Str := "abcdefghijklmnopqrstuvwxyz"
def figuresOk (t : Str) : Bool := !decide (t = ("" : Str)) && allIn t sFIG
def lettersOk (s : Str) (most : Int) : Bool := decide (1 ≤ (s.length : Int)) && decide ((s.length : Int) ≤ most) && allIn s sABC
def endedOk (t : Str) : Bool := figuresOk t && !Txt.endswith t "0"
def pointsOk (t : Str) : Bool := decide (t = ("" : Str)) || endedOk t
def makerOk (t : Str) : Bool := lettersOk (cutS t none (some 1)) 1 && endedOk (cutS t (some 1) none)
section
variable {P : Program} {w : World} {K : PySem.W.Frag} {mg : Str → Option Value} {base : Heap} {Z : Adr}
def spNum (K : PySem.W.Frag) : Sp := fun vs H Q _ => ∃ x, vs = [x] ∧ KnI K H x ∧ RetV (.bl (isI x && !isB x)) H Q
theorem ok_is_number (T : Txt K mg Z) : FnOk P w K mg base CX0 1 Z.a_is_number Z.d_is_number ["thing"] (spNum K) := by
  refine T.F_is_number.ok sc_is_number (fun vs H Q E h => ?_) (fun cdv A outer s H vs Q E hr h => ?_)
  · obtain ⟨x, rfl, _⟩ := h; rfl
  · obtain ⟨x, rfl, ⟨t, ht, hb, hi'⟩, k⟩ := h
    refine ⟨_, (pss_one (ps_ret (pe_and (pe_callB (isiK K) (by rfl) T.n_isinstance (by decide +kernel) (pa_cons (pv 0) (pa_cons (pe_bltn (v := .ty "int") (by rfl) T.n_int (by decide +kernel) rfl) pa_nil))) (pe_one (pe_not (pe_callB (isiK K) (by rfl) T.n_isinstance (by decide +kernel) (pa_cons (pv 0) (pa_cons (pe_bltn (v := .ty "bool") (by rfl) T.n_bool (by decide +kernel) rfl) pa_nil)))))))), ?_⟩
    exact s_ret (ev_andV (ev_isi (ev_var rfl) ev_c (.ty _) (fun _ e => tyx_ex ht e) hi') fun _ => ev_notV (ev_isi (ev_var rfl) ev_c (.ty _) (fun _ e => tyx_ex ht e) hb)) k
theorem num_int {x : V} (h : (isI x && !isB x) = true) : ∃ i, x = .int i := by
  cases x <;> first | exact ⟨_, rfl⟩ | exact Bool.noConfusion h
theorem sp_num {x : V} {H : Hp} (hx : KnI K H x) : SpV (spNum K) [x] H (.bl (isI x && !isB x)) := fun H1 e Q q E => ⟨x, rfl, kni_ex hx e, q⟩
theorem rv_isN {x : V} {H : Hp} : RV (fun x y H Q => y = .non ∧ Q (.bl (decide (x = .non))) H) x .non H (.bl (decide (x = .non))) := fun H1 e Q q => ⟨rfl, q H1 (Ex.refl _)⟩
def spWhole (K : PySem.W.Frag) : Sp := fun vs H Q _ => ∃ x lo hi, vs = [x, .int lo, oi hi] ∧ KnI K H x ∧ RetV (.bl (whole x lo hi)) H Q
theorem ok_is_whole (T : Txt K mg Z) : FnOk P w K mg base CX0 2 Z.a_is_whole Z.d_is_whole ["thing", "low", "high"] (spWhole K) := by
  refine T.F_is_whole.ok sc_is_whole (fun vs H Q E h => ?_) (fun cdv A outer s H vs Q E hr h => ?_)
  · obtain ⟨x, lo, hi, rfl, _⟩ := h; rfl
  · obtain ⟨x, lo, hi, rfl, hx, k⟩ := h
    refine ⟨_, (pss_one (ps_ret (pe_and (pe_call (ok_is_number T) (hr.mono (by decide)) rfl T.g_is_number T.F_is_number.kp T.b_is_number .nil pass0 (pa_cons (pv 0) pa_nil)) (pe_and (pe_cmpR op_le (pv 1) (pv 0) (nomark _)) (pe_one (pe_or (pe_cmpR op_isNq (pv 2) pe_non (nomark _)) (pe_one (pe_cmpR op_le (pv 0) (pv 2) (nomark _))))))))), ?_⟩
    cases hn : (isI x && !isB x) with
    | false =>
      have : whole x lo hi = false := by cases x <;> first | rfl | cases hn
      rw [this] at k
      exact s_ret (v := .bl false) (ev_is (ev_andV (a := false) (b := true) (ev_is (ev_call (ea_cons (ev_var rfl) ea_nil) (sp_num hx)) (by rw [hn])) (fun z => nomatch z)) rfl) k
    | true =>
      obtain ⟨i, rfl⟩ := num_int hn
      cases hi with
      | none => exact s_ret (v := .bl (whole (.int i) lo none)) (ev_is (ev_andV (a := true) (ev_is (ev_call (ea_cons (ev_var rfl) ea_nil) (sp_num hx)) (by rw [hn])) (fun _ => ev_andV (ev_op (ev_var rfl) (ev_var rfl) rv_I0) fun _ => ev_orV (a := true) (b := true) (ev_op (ev_var rfl) ev_c rv_isN) (fun z => nomatch z))) rfl) k
      | some h => exact s_ret (v := .bl (whole (.int i) lo (some h))) (ev_is (ev_andV (a := true) (ev_is (ev_call (ea_cons (ev_var rfl) ea_nil) (sp_num hx)) (by rw [hn])) (fun _ => ev_andV (ev_op (ev_var rfl) (ev_var rfl) rv_I0) fun _ => ev_orV (a := false) (ev_op (ev_var rfl) ev_c rv_isN) (fun _ => ev_op (ev_var rfl) (ev_var rfl) rv_I0))) rfl) k
theorem sp_whole {x : V} {lo : Int} {hi : Option Int} {H : Hp} (hx : KnI K H x) : SpV (spWhole K) [x, .int lo, oi hi] H (.bl (whole x lo hi)) := fun H1 e Q q E => ⟨x, lo, hi, rfl, kni_ex hx e, q⟩
theorem asc_dig : ∀ c, c < 128 → Unicode.isDigit c = decide (c ∈ sg sFIG) := by decide +kernel
theorem asc_alp : ∀ c, c < 128 → (Unicode.isAlpha c && !(Unicode.isUpper c || Unicode.isTitle c)) = decide (c ∈ sg sABC) := by decide +kernel
theorem asc_low : ∀ c, c < 128 → c ∈ sg sABC → Unicode.isLower c = true := by decide +kernel
theorem asc_abc : ∀ c ∈ sg sABC, c < 128 := by decide +kernel
theorem asc_fig : ∀ c ∈ sg sFIG, c < 128 := by decide +kernel
theorem tx_all {t : Str} {p : Nat → Bool} : t.cps.all p = (sg t).all p := Array.all_toList.symm
theorem tx_any {t : Str} {p : Nat → Bool} : t.cps.any p = (sg t).any p := Array.any_toList.symm
theorem ne_empty {t : Str} : (t = ("" : Str)) ↔ t.length = 0 := by
  constructor
  · intro h; rw [h]; decide +kernel
  · intro h
    refine str_ext ?_
    rw [show sg ("" : Str) = [] by decide +kernel]
    exact List.eq_nil_of_length_eq_zero (by rw [sg_len]; exact h)
theorem fig_eq (t : Str) : (Txt.isascii t && Txt.isdigit t) = figuresOk t := by
  unfold Txt.isascii Txt.isdigit figuresOk allIn
  rw [tx_all, tx_all, Bool.eq_iff_iff]
  simp only [Bool.and_eq_true, List.all_eq_true, decide_eq_true_eq, Bool.not_eq_true', decide_eq_false_iff_not, ne_empty]
  constructor
  · rintro ⟨h1, h2, h3⟩
    exact ⟨by omega, fun c hc => by have := asc_dig c (h1 c hc); rw [h3 c hc] at this; exact of_decide_eq_true this.symm⟩
  · rintro ⟨h1, h2⟩
    exact ⟨fun c hc => asc_fig c (h2 c hc), by omega, fun c hc => by rw [asc_dig c (asc_fig c (h2 c hc))]; exact decide_eq_true (h2 c hc)⟩
theorem let_eq (t : Str) (most : Int) : (decide ((t.length : Int) ≤ most) && (Txt.isascii t && (Txt.isalpha t && Txt.islower t))) = lettersOk t most := by
  unfold Txt.isascii Txt.isalpha Txt.islower lettersOk allIn
  rw [tx_all, tx_all, tx_any, tx_any, Bool.eq_iff_iff]
  simp only [Bool.and_eq_true, List.all_eq_true, List.any_eq_true, decide_eq_true_eq, Bool.not_eq_true', List.any_eq_false]
  have key : ∀ c, c < 128 → Unicode.isAlpha c = true → (¬ (Unicode.isUpper c || Unicode.isTitle c) = true ↔ c ∈ sg sABC) := fun c h1 h2 => by
    have := asc_alp c h1
    rw [h2, Bool.true_and] at this
    constructor
    · intro h
      rw [Bool.not_eq_true] at h
      rw [h] at this
      exact of_decide_eq_true this.symm
    · intro h h'
      rw [h', decide_eq_true h] at this
      cases this
  have alp : ∀ c ∈ sg sABC, Unicode.isAlpha c = true := fun c hc => by
    have := asc_alp c (asc_abc c hc)
    rw [decide_eq_true hc, Bool.and_eq_true] at this
    exact this.1
  constructor
  · rintro ⟨h0, h1, ⟨h2, h3⟩, _, h5⟩
    exact ⟨⟨by omega, h0⟩, fun c hc => (key c (h1 c hc) (h3 c hc)).mp (h5 c hc)⟩
  · rintro ⟨⟨h1, h0⟩, h2⟩
    have hne : 0 < (sg t).length := by rw [sg_len]; omega
    have m0 := List.getElem_mem hne
    exact ⟨h0, fun c hc => asc_abc c (h2 c hc), ⟨by omega, fun c hc => alp c (h2 c hc)⟩, ⟨_, m0, asc_low _ (asc_abc _ (h2 _ m0)) (h2 _ m0)⟩, fun c hc => (key c (asc_abc c (h2 c hc)) (alp c (h2 c hc))).mpr (h2 c hc)⟩
theorem ev_m0 {σ : L2.St} {H : Hp} {ta : TE} {r : V → List V → Hp → VK → Prop} {s : Str} {z : V} (ha : Ev ta σ H (.str s)) (hr : ∀ H1, Ex H H1 → ∀ Q : VK, (∀ H2, Ex H1 H2 → Q z H2) → r (.str s) [] H1 Q) : Ev (tM0 r ta) σ H z := fun H1 e Q q =>
  ha H1 e _ fun H2 e2 => ⟨⟨s, rfl⟩, hr H2 (e.trans e2) Q fun H3 e3 => q H3 (e2.trans e3)⟩
def qTxt (g : Str → Bool) : V → List V → Hp → VK → Prop := fun x xs H Q => ∃ a, x = .str a ∧ xs = [] ∧ True ∧ Q (.bl (g a)) H
theorem mt_isasciiQ {X : Cx} : MtR X "str.isascii" (qTxt Txt.isascii) := mt_isascii
theorem mt_isdigitQ {X : Cx} : MtR X "str.isdigit" (qTxt Txt.isdigit) := mt_isdigit
theorem mt_isalphaQ {X : Cx} : MtR X "str.isalpha" (qTxt Txt.isalpha) := mt_isalpha
theorem mt_islowerQ {X : Cx} : MtR X "str.islower" (qTxt Txt.islower) := mt_islower
theorem ev_txt {σ : L2.St} {H : Hp} {ta : TE} {g : Str → Bool} {s : Str} (ha : Ev ta σ H (.str s)) : Ev (tM0 (qTxt g) ta) σ H (.bl (g s)) :=
  ev_m0 ha fun H1 e Q q => ⟨s, rfl, rfl, trivial, q H1 (Ex.refl _)⟩
def spFig : Sp := fun vs H Q _ => ∃ t, vs = [.str t] ∧ t.length ≤ 90000 ∧ RetV (.bl (figuresOk t)) H Q
theorem ok_is_figures (T : Txt K mg Z) : FnOk P w K mg base CX0 1 Z.a_is_figures Z.d_is_figures ["text"] spFig := by
  refine T.F_is_figures.ok sc_is_figures (fun vs H Q E h => ?_) (fun cdv A outer s H vs Q E hr h => ?_)
  · obtain ⟨t, rfl, _⟩ := h; rfl
  · obtain ⟨t, rfl, hz, k⟩ := h
    refine ⟨_, (pss_one (ps_ret (pe_and (pe_m0 PySem.F.slot_str_isascii PySem.F.type_str_isascii mt_isasciiQ (pv 0)) (pe_one (pe_m0 PySem.F.slot_str_isdigit PySem.F.type_str_isdigit mt_isdigitQ (pv 0)))))), ?_⟩
    exact s_ret (ev_is (ev_andV (ev_txt (g := Txt.isascii) (ev_var rfl)) (fun _ => ev_txt (g := Txt.isdigit) (ev_var rfl))) (by rw [fig_eq])) k
theorem sp_fig {t : Str} {H : Hp} (hz : t.length ≤ 90000) : SpV spFig [.str t] H (.bl (figuresOk t)) := fun H1 e Q q E => ⟨t, rfl, hz, q⟩
/-- what holds of texts alone -/
def onS (f : Str → Bool) : V → Bool | .str t => f t | _ => false
def SzV (x : V) : Prop := ∀ t, x = .str t → t.length ≤ 90000
theorem onS_no {f : Str → Bool} {x : V} (h : isS x = false) : onS f x = false := by cases x <;> first | rfl | cases h
theorem isS_str {x : V} (h : isS x = true) : ∃ t, x = .str t := by cases x <;> first | exact ⟨_, rfl⟩ | cases h
theorem sz_str {t : Str} (hz : t.length ≤ 90000) : SzV (.str t) := fun u e => by cases e; exact hz
/-- isinstance(x, str) and what holds of texts -/
theorem ev_onS {σ : L2.St} {H : Hp} {ta tb tc : TE} {f : Str → Bool} {x : V} (ha : Ev ta σ H x) (hb : Ev tb σ H (.ty "str")) (hx : KnS K H x) (hc : ∀ t, x = .str t → Ev tc σ H (.bl (f t))) : Ev (tAndV (tCB (rIsi K) (tCons ta (tCons tb tNil))) tc) σ H (.bl (onS f x)) := by
  obtain ⟨t, h1, h2⟩ := hx
  cases h : isS x with
  | false => exact ev_is (ev_andV (a := false) (b := true) (ev_isi ha hb (.ty _) (fun _ e => tyx_ex h1 e) (by rw [h2, h])) (fun z => nomatch z)) (by rw [onS_no h]; rfl)
  | true =>
    obtain ⟨u, rfl⟩ := isS_str h
    exact ev_is (ev_andV (a := true) (ev_isi ha hb (.ty _) (fun _ e => tyx_ex h1 e) h2) (fun _ => hc u rfl)) rfl
def spLetters (K : PySem.W.Frag) : Sp := fun vs H Q _ => ∃ x most, vs = [x, .int most] ∧ KnS K H x ∧ SzV x ∧ RetV (.bl (onS (fun t => lettersOk t most) x)) H Q
theorem ok_is_letters (T : Txt K mg Z) : FnOk P w K mg base CX0 1 Z.a_is_letters Z.d_is_letters ["thing", "most"] (spLetters K) := by
  refine T.F_is_letters.ok sc_is_letters (fun vs H Q E h => ?_) (fun cdv A outer s H vs Q E hr h => ?_)
  · obtain ⟨t, most, rfl, _⟩ := h; rfl
  · obtain ⟨x, most, rfl, hx, hz, k⟩ := h
    refine ⟨_, (pss_one (ps_ret (pe_and (pe_callB (isiK K) (by rfl) T.n_isinstance (by decide +kernel) (pa_cons (pv 0) (pa_cons (pe_bltn (v := .ty "str") (by rfl) T.n_str (by decide +kernel) rfl) pa_nil))) (pe_and (pe_cmpR op_le (pe_callB (call_lenS) (by rfl) T.n_len (by decide +kernel) (pa_cons (pv 0) pa_nil)) (pv 1) (nomark _)) (pe_and (pe_m0 PySem.F.slot_str_isascii PySem.F.type_str_isascii mt_isasciiQ (pv 0)) (pe_and (pe_m0 PySem.F.slot_str_isalpha PySem.F.type_str_isalpha mt_isalphaQ (pv 0)) (pe_one (pe_m0 PySem.F.slot_str_islower PySem.F.type_str_islower mt_islowerQ (pv 0))))))))), ?_⟩
    refine s_ret (ev_onS (f := fun t => lettersOk t most) (ev_var rfl) ev_c hx fun t e => ?_) k
    subst e
    have := hz _ rfl
    exact ev_is (ev_andV (ev_op (ev_lenS (ev_var rfl) (by omega)) (ev_var rfl) rv_I0) (fun _ => ev_andV (ev_txt (g := Txt.isascii) (ev_var rfl)) (fun _ => ev_andV (ev_txt (g := Txt.isalpha) (ev_var rfl)) (fun _ => ev_txt (g := Txt.islower) (ev_var rfl))))) (by rw [let_eq])
theorem sp_lettersV {x : V} {most : Int} {H : Hp} (hx : KnS K H x) (hz : SzV x) : SpV (spLetters K) [x, .int most] H (.bl (onS (fun t => lettersOk t most) x)) := fun H1 e Q q E => ⟨x, most, rfl, kns_ex hx e, hz, q⟩
theorem sp_letters {t : Str} {most : Int} {H : Hp} (hz : t.length ≤ 90000) : SpV (spLetters K) [.str t, .int most] H (.bl (lettersOk t most)) := sp_lettersV kns_str (sz_str hz)
theorem cutS_len (z : Str) (lo hi : Option Int) : (cutS z lo hi).length ≤ z.length := by
  show (List.toArray _).size ≤ z.cps.size
  rw [List.size_toArray, List.length_take, List.length_drop, Array.length_toList]
  omega
theorem fig_ne {t : Str} (h : figuresOk t = true) : 1 ≤ t.length := by
  unfold figuresOk at h
  rw [Bool.and_eq_true, Bool.not_eq_true', decide_eq_false_iff_not, ne_empty] at h
  omega
theorem last_of {t : Str} (h : 1 ≤ t.length) : ∃ c, atI (sg t) (-1) = some c ∧ (decide ((⟨#[c]⟩ : Str) = "0")) = Txt.endswith t "0" := by
  have hne : sg t ≠ [] := fun e => by rw [← sg_len, e] at h; simp at h
  have e := List.dropLast_concat_getLast hne
  refine ⟨(sg t).getLast hne, ?_, ?_⟩
  · unfold atI ixN
    rw [if_neg (by omega), if_pos (by rw [sg_len]; omega)]
    show (sg t)[_]? = _
    rw [List.getElem?_eq_getElem (by rw [sg_len]; omega), List.getLast_eq_getElem]
    congr 2
    rw [sg_len]; omega
  · have h2 : t = (⟨(sg t).dropLast.toArray⟩ : Str) ++ ⟨#[(sg t).getLast hne]⟩ := str_ext (by rw [sg_app]; exact e.symm)
    generalize (sg t).getLast hne = c at h2
    rw [h2, ends0]
    by_cases h : c = 48
    · subst h; decide +kernel
    · rw [decide_eq_false h, decide_eq_false]
      intro z
      have := congrArg sg z
      rw [show sg ("0" : Str) = [48] by decide +kernel] at this
      exact h (List.cons.inj this).1
theorem ev_ixS {σ : L2.St} {H : Hp} {ta tb : TE} {t : Str} {i : Int} {c : Nat} (ha : Ev ta σ H (.str t)) (hb : Ev tb σ H (.int i)) (hz : t.length ≤ 100000) (hc : atI (sg t) i = some c) : Ev (tOp rIxS ta tb) σ H (.str ⟨#[c]⟩) :=
  ev_op ha hb fun H1 e Q q => ⟨t, i, c, rfl, rfl, sz_of hz, hc, q H1 (Ex.refl _)⟩
def spEnded : Sp := fun vs H Q _ => ∃ t, vs = [.str t] ∧ t.length ≤ 90000 ∧ RetV (.bl (endedOk t)) H Q
theorem ok_is_ended (T : Txt K mg Z) : FnOk P w K mg base CX0 2 Z.a_is_ended Z.d_is_ended ["text"] spEnded := by
  refine T.F_is_ended.ok sc_is_ended (fun vs H Q E h => ?_) (fun cdv A outer s H vs Q E hr h => ?_)
  · obtain ⟨t, rfl, _⟩ := h; rfl
  · obtain ⟨t, rfl, hz, k⟩ := h
    refine ⟨_, (pss_one (ps_ret (pe_and (pe_call (ok_is_figures T) (hr.mono (by decide)) rfl T.g_is_figures T.F_is_figures.kp T.b_is_figures .nil pass0 (pa_cons (pv 0) pa_nil)) (pe_one (pe_cmpR op_ne (pe_ix ix_str (pv 0) (pe_un un_neg pe_int) (fun _ _ => rfl)) pe_str (nomark _)))))), ?_⟩
    cases hf : figuresOk t with
    | false =>
      have : endedOk t = false := by unfold endedOk; rw [hf]; rfl
      rw [this] at k
      exact s_ret (ev_is (ev_andV (a := false) (b := true) (ev_is (ev_call (ea_cons (ev_var rfl) ea_nil) (sp_fig hz)) (by rw [hf])) (fun z => nomatch z)) rfl) k
    | true =>
      obtain ⟨c, h1, h2⟩ := last_of (fig_ne hf)
      have : endedOk t = (true && !decide ((⟨#[c]⟩ : Str) = "0")) := by unfold endedOk; rw [hf, h2]
      rw [this] at k
      exact s_ret (ev_andV (a := true) (ev_is (ev_call (ea_cons (ev_var rfl) ea_nil) (sp_fig hz)) (by rw [hf])) fun _ => ev_op (ev_ixS (i := -1) (ev_var rfl) (ev_un (x := .int 1) ev_c (fun H1 e Q q => ⟨_, rfl, q H1 (Ex.refl _)⟩)) (by omega) h1) ev_c rv_neS) k
theorem sp_ended {t : Str} {H : Hp} (hz : t.length ≤ 90000) : SpV spEnded [.str t] H (.bl (endedOk t)) := fun H1 e Q q E => ⟨t, rfl, hz, q⟩
def spPoints (K : PySem.W.Frag) : Sp := fun vs H Q _ => ∃ x, vs = [x] ∧ KnS K H x ∧ SzV x ∧ RetV (.bl (onS pointsOk x)) H Q
theorem ok_is_points (T : Txt K mg Z) : FnOk P w K mg base CX0 3 Z.a_is_points Z.d_is_points ["thing"] (spPoints K) := by
  refine T.F_is_points.ok sc_is_points (fun vs H Q E h => ?_) (fun cdv A outer s H vs Q E hr h => ?_)
  · obtain ⟨t, rfl, _⟩ := h; rfl
  · obtain ⟨x, rfl, hx, hz, k⟩ := h
    refine ⟨_, (pss_one (ps_ret (pe_and (pe_callB (isiK K) (by rfl) T.n_isinstance (by decide +kernel) (pa_cons (pv 0) (pa_cons (pe_bltn (v := .ty "str") (by rfl) T.n_str (by decide +kernel) rfl) pa_nil))) (pe_one (pe_or (pe_cmpR op_eq (pv 0) pe_str (nomark _)) (pe_one (pe_call (ok_is_ended T) (hr.mono (by decide)) rfl T.g_is_ended T.F_is_ended.kp T.b_is_ended .nil pass0 (pa_cons (pv 0) pa_nil)))))))), ?_⟩
    refine s_ret (ev_onS (f := pointsOk) (ev_var rfl) ev_c hx fun t e => ?_) k
    subst e
    exact ev_orV (ev_op (ev_var rfl) ev_c rv_eqS) (fun _ => ev_call (ea_cons (ev_var rfl) ea_nil) (sp_ended (hz _ rfl)))
theorem sp_pointsV {x : V} {H : Hp} (hx : KnS K H x) (hz : SzV x) : SpV (spPoints K) [x] H (.bl (onS pointsOk x)) := fun H1 e Q q E => ⟨x, rfl, kns_ex hx e, hz, q⟩
theorem sp_points {t : Str} {H : Hp} (hz : t.length ≤ 90000) : SpV (spPoints K) [.str t] H (.bl (pointsOk t)) := sp_pointsV kns_str (sz_str hz)
theorem maker_eq1 {t : Str} (h : t.length ≤ 1) : makerOk t = false := by
  have e : (cutS t (some 1) none) = ("" : Str) := ne_empty.mpr (by rw [← sg_len, sg_cutFrom1, List.length_drop, sg_len]; omega)
  unfold makerOk
  rw [e, show endedOk ("" : Str) = false by decide +kernel, Bool.and_false]
theorem maker_eq2 {t : Str} {c : Nat} (h : (sg t)[0]? = some c) : makerOk t = (decide (c ∈ sg sABC) && endedOk (cutS t (some 1) none)) := by
  have e : sg (cutS t none (some 1)) = [c] := by
    rw [show (1 : Int) = ((1 : Nat) : Int) from rfl, sg_cutTo]
    cases hs : sg t with
    | nil => rw [hs] at h; cases h
    | cons a l => rw [hs] at h; cases h; rfl
  have e2 : cutS t none (some 1) = (⟨#[c]⟩ : Str) := str_ext e
  unfold makerOk
  congr 1
  rw [e2]
  unfold lettersOk allIn
  show (decide ((1 : Int) ≤ 1) && decide ((1 : Int) ≤ 1) && ([c].all fun c => decide (c ∈ sABC.cps.toList))) = _
  simp
def spMaker (K : PySem.W.Frag) : Sp := fun vs H Q _ => ∃ x, vs = [x] ∧ KnS K H x ∧ SzV x ∧ RetV (.bl (onS makerOk x)) H Q
theorem ok_is_maker (T : Txt K mg Z) : FnOk P w K mg base CX0 3 Z.a_is_maker Z.d_is_maker ["thing"] (spMaker K) := by
  refine T.F_is_maker.ok sc_is_maker (fun vs H Q E h => ?_) (fun cdv A outer s H vs Q E hr h => ?_)
  · obtain ⟨t, rfl, _⟩ := h; rfl
  · obtain ⟨x, rfl, hx, hz, k⟩ := h
    refine ⟨_, (pss_one (ps_ret (pe_and (pe_callB (isiK K) (by rfl) T.n_isinstance (by decide +kernel) (pa_cons (pv 0) (pa_cons (pe_bltn (v := .ty "str") (by rfl) T.n_str (by decide +kernel) rfl) pa_nil))) (pe_and (pe_cmpR op_gt (pe_callB (call_lenS) (by rfl) T.n_len (by decide +kernel) (pa_cons (pv 0) pa_nil)) pe_int (nomark _)) (pe_and (pe_cmpR op_inq (pe_ix ix_str (pv 0) pe_int (fun _ _ => rfl)) (pe_gs rfl T.c_SMALL) (by rfl)) (pe_one (pe_call (ok_is_ended T) (hr.mono (by decide)) rfl T.g_is_ended T.F_is_ended.kp T.b_is_ended .nil pass0 (pa_cons (pe_slice sl_str (pv 0) (po_some pe_int) po_none) pa_nil)))))))), ?_⟩
    refine s_ret (ev_onS (f := makerOk) (ev_var rfl) ev_c hx fun t e => ?_) k
    subst e
    have hz := hz _ rfl
    have l2 := cutS_len t (some 1) none
    by_cases hl : t.length ≤ 1
    · exact ev_is (ev_andV (a := false) (b := true) (ev_is (ev_op (ev_lenS (ev_var rfl) (by omega)) ev_c rv_I0) (by rw [decide_eq_false (by omega)])) (fun z => nomatch z)) (by rw [maker_eq1 hl]; rfl)
    · have hlt : 0 < (sg t).length := by rw [sg_len]; omega
      have h0 := List.getElem?_eq_getElem hlt
      have h1 : atI (sg t) 0 = some (sg t)[0] := by unfold atI ixN; rw [if_pos (Int.le_refl 0), if_pos (by omega)]; exact h0
      rw [maker_eq2 h0]
      refine ev_is (ev_andV (a := true) (ev_is (ev_op (ev_lenS (ev_var rfl) (by omega)) ev_c rv_I0) (by rw [decide_eq_true (by omega)])) (fun _ => ev_andV (ev_op (ev_ixS (ev_var rfl) ev_c (by omega) h1) ev_c (z := .bl (decide ((sg t)[0] ∈ sg sABC))) (fun H1 e Q q => ⟨_, _, rfl, rfl, q H1 (Ex.refl _)⟩)) (fun _ => ev_call (ea_cons (ev_slS (ev_var rfl) (eo_some ev_c) eo_none (by omega)) ea_nil) (sp_ended (by omega))))) rfl
theorem sp_makerV {x : V} {H : Hp} (hx : KnS K H x) (hz : SzV x) : SpV (spMaker K) [x] H (.bl (onS makerOk x)) := fun H1 e Q q E => ⟨x, rfl, kns_ex hx e, hz, q⟩
theorem sp_maker {t : Str} {H : Hp} (hz : t.length ≤ 90000) : SpV (spMaker K) [.str t] H (.bl (makerOk t)) := sp_makerV kns_str (sz_str hz)
end

theorem kit_rt {K : PySem.W.Frag} {C : Addr} {T : String} {b : Bool} (h : PySem.W.kitMeta T = true) (s : PySem.W.subIn K (.ref C) (.type T) = some b) : PySem.W.kitOne K (.ref C) (.type T) = some b := by
  unfold PySem.W.kitOne PySem.W.kitCls
  rw [if_neg (fun z => by cases z)]
  show (if PySem.W.kitMeta T = true then PySem.W.subIn K (.ref C) (.type T) else none) = some b
  rw [if_pos h]
  exact s

/-! ### own refusals: made, let through calls, caught by several clauses, asked -/
section
variable {X : Cx} {W : WX} {E : XK}
theorem passE (tk : Takes X (fun c d _ H => E c d H)) : Passes (L2.CX X.prog X.w) X E := fun pins σ H s e s' I c => passAt tk σ pins H s e s' I c
end
section
variable {X : Cx} {CX : CXT} {k n : Nat} {f C : Addr} {fd : FuncData} {ps ks : List Str} {sp : Sp} {E : L2.St → XK} {m x : Str} {p p1 p2 pos apos : Pos} {e o : Expr} {es : List Expr} {kws : List Keyword} {ta : TE} {t tk : TA} {dvs : List V} {ds : List Value} {g : List Value → List Value → List Value} {gV : List V → List V → List V}
/-- o.m(a, ..), what it lets out told by the slots -/
def tMethS (C : Addr) (m : Str) (sp : Sp) (dvs : List V) (E : L2.St → XK) (ta : TE) (t : TA) : TE := fun σ H Q => ta σ H fun x H1 => ∃ a dx fs, x = .ref a ∧ H1 a = some (.ins C dx fs) ∧ fs.lookup m = none ∧ t σ H1 fun vs H2 => sp (x :: (vs ++ dvs)) H2 Q (E σ)
theorem pe_methS {pl : Sem Bool} (he : PE X o ta) (c : Cls X.K C) (hm : Meth X.K C m f) (F : FnOk X.prog X.w X.K X.mg X.base CX k f fd ps sp) (hr : Room k X.A) (hbd : ∃ ds, Vals dvs ds ∧ Binds X.K fd ps ds) (hx : ∀ σ, PassesAt CX X σ (E σ)) (ha : PA X (e :: es) t)
    (hst : starEach (e :: es) X.env = (false, eval e X.env) :: starEach es X.env := by rfl) (hpl : (backTo pos (starEach es X.env)).any (·.1) = false := by rfl)
    (ht : eval (.Call (.Attribute o m apos) (e :: es) [] pos) X.env = (do
      let ov ← eval o X.env
      standAt apos.atName
      let (f, first) ← holding [ov] (getMethod ov m pl)
      callWith pos f first (backTo pos (starEach (e :: es) X.env)) (backToKw pos (keywordEach [] X.env))) := by rfl) :
    PE X (.Call (.Attribute o m apos) (e :: es) [] pos) (tMethS C m sp dvs E ta t) := by
  obtain ⟨ds, hd, hb⟩ := hbd
  refine ⟨fun pins s σ H Q I h => PySem.W.methodCall_KW (pl := pl) (thn (he.run pins s σ H _ I h) fun u s1 hh => ?_) ht⟩
  obtain ⟨x, H1, I1, rx, a, dx, fs, ex, ea, l, q⟩ := hh
  cases ex
  cases rx
  refine getmeth_ok I1 ea c hm l (PySem.W.callWith_K (first := [.ref a]) (h₀ := X.base) I.ok.mod.kin hm.kp (thn (ha.run pos pins s1 σ H1 _ I1 q) fun us s2 hh => ?_) hst hpl)
  obtain ⟨vs, H2, I2, r, q2⟩ := hh
  exact ⟨I2.kIn, run_fnSD (us := .ref a :: us) (vs := .ref a :: vs) F hr hb hd (hx σ) I2 (.cons rfl r) q2⟩
/-- o.m(k = a, ..) -/
def tMethSK (C : Addr) (m : Str) (sp : Sp) (n' : Nat) (gV : List V → List V → List V) (E : L2.St → XK) (ta : TE) (tk : TA) : TE := fun σ H Q => ta σ H fun x H1 => ∃ a dx fs, x = .ref a ∧ H1 a = some (.ins C dx fs) ∧ fs.lookup m = none ∧ tk σ H1 fun zs H2 => zs.length = n' ∧ sp (gV [x] zs) H2 Q (E σ)
theorem pe_methSK {pl : Sem Bool} (he : PE X o ta) (c : Cls X.K C) (hm : Meth X.K C m f) (F : FnOk X.prog X.w X.K X.mg X.base CX k f fd ps sp) (hr : Room k X.A) (hb : KBn X.K fd ps 1 ks g gV) (hx : ∀ σ, PassesAt CX X σ (E σ)) (hkw : PK X kws tk)
    (hall : (backToKw pos (keywordEach kws X.env)).all (·.1.isSome) = true := by rfl) (hks : (backToKw pos (keywordEach kws X.env)).filterMap (·.1) = ks := by rfl)
    (hpl : ((backTo pos (starEach [] X.env)).any (·.1) || (backToKw pos (keywordEach kws X.env)).any (·.1.isNone)) = false := by rfl)
    (ht : eval (.Call (.Attribute o m apos) [] kws pos) X.env = (do
      let ov ← eval o X.env
      standAt apos.atName
      let (f, first) ← holding [ov] (getMethod ov m pl)
      callWith pos f first (backTo pos (starEach [] X.env)) (backToKw pos (keywordEach kws X.env))) := by rfl) :
    PE X (.Call (.Attribute o m apos) [] kws pos) (tMethSK C m sp ks.length gV E ta tk) := by
  refine ⟨fun pins s σ H Q I h => PySem.W.methodCall_KW (pl := pl) (thn (he.run pins s σ H _ I h) fun u s1 hh => ?_) ht⟩
  obtain ⟨x, H1, I1, rx, a, dx, fs, ex, ea, l, q⟩ := hh
  cases ex
  cases rx
  refine getmeth_ok I1 ea c hm l (PySem.W.callWith_KW0 (first := [.ref a]) (h₀ := X.base) I.ok.mod.kin hm.kp hall (thn (hkw.run pos pins s1 σ H1 _ I1 q) fun ws s2 hh => ?_) hpl)
  obtain ⟨zs, H2, I2, rz, l2, q2⟩ := hh
  refine ⟨I2.kIn, ?_⟩
  rw [hks]
  have r1 : Vals [V.ref a] [Value.ref a] := .cons rfl .nil
  have e2 : ws.length = ks.length := rz.length.symm.trans l2
  have hb' := hb.to s2 [Value.ref a] ws I2.kIn rfl e2
  refine wpAny_call (codeAny_mono (F.run X.A X.stack s2 H2 _ _ _ Q (E σ) hr I2.env0 hb' (hb.rel r1 rz) q2) fun r s' hq => ?_)
  cases r with
  | error er => exact hx σ pins H2 s2 er s' I2 hq
  | ok fl =>
    cases fl with
    | ret u => exact I2.after hq
    | next => exact False.elim hq
    | brk => exact False.elim hq
    | cont => exact False.elim hq
/-- B.__init__(self, ..), B an own class over ValueError without an __init__ of its own -/
theorem pe_baseinit {pl : Sem Bool} (hg : Gl X x) (hm : X.mg x = some (.ref C)) (h1 : PySem.W.specialIn X.K (.ref C) "__getattribute__" = some (some (.builtin "type.__getattribute__"))) (h2 : PySem.W.typeIn X.K (.ref C) = some (.type "type")) (h3 : PySem.W.readsIn X.K C (.type "type") = true)
    (h4 : PySem.W.findCls X.K (.ref C) (.type "type") "__init__" = some (.val (.builtin "ValueError.__init__"))) (ha : PA X (e :: es) t) (hdb : (x == ("__debug__" : Str)) = false := by decide)
    (hc : eval (.Call (.Attribute (.Name x p1) "__init__" p2) (e :: es) [] pos) X.env = (do
      let ov ← eval (.Name x p1) X.env
      standAt p2.atName
      let (f, first) ← holding [ov] (getMethod ov "__init__" pl)
      callWith pos f first (backTo pos (starEach (e :: es) X.env)) (backToKw pos (keywordEach [] X.env))) := by rfl)
    (he : starEach (e :: es) X.env = (false, eval e X.env) :: starEach es X.env := by rfl) (hpl : (backTo pos (starEach es X.env)).any (·.1) = false := by rfl) :
    PE X (.Call (.Attribute (.Name x p1) "__init__" p2) (e :: es) [] pos) (tVeI X.K t) := by
  refine ⟨fun pins s σ H Q I h => PySem.W.methodCall_KW (ld_glob I hg hm ?_ hdb) hc⟩
  obtain ⟨m, fr⟩ := I.fr
  refine PySem.W.method_of_cls fr I.ok.mod.kin h1 (PySem.W.cls_val fr I.ok.mod.kin h2 h3 h4 (by decide +kernel) ?_)
  refine PyProof.Rows.callWith_method1 (thn (ha.run pos pins _ σ H _ (I.tok _) h) fun us s1 hh => ?_) he hpl
  obtain ⟨vs, H1, I1, r1, a, C', ws, ev, hl, T, ea, q⟩ := hh
  cases ev
  cases r1 with
  | @cons _ u0 _ ur ra rw' =>
    cases ra
    exact oinit_ok T I1 ea (by rw [← Paired.length rw']; exact Nat.le_trans hl (by rw [sizeLine_eq]; decide)) fun s' J => ⟨.non, H1, J, rfl, q⟩
end

/-! ### try with several clauses, each with or without a name -/
abbrev Cl := Value × Option Nat × (Addr → Value → Option Addr → TS)
/-- the ends of a suite behind which the name's slot is empty again -/
def Ends.clr (D : Ends) (i : Nat) : Ends := { nx := fun σ' H' => D.nx (σ'.set i none) H', rt := D.rt, bk := fun σ' H' => D.bk (σ'.set i none) H', ct := fun σ' H' => D.ct (σ'.set i none) H' }
def wCl (K : PySem.W.Frag) (Wout : WX) (D : Ends) : List Cl → WX
  | [] => Wout
  | (c, none, ts) :: r => fun cls d σ H => ∃ b, PySem.W.exmOne K cls c = some b ∧ (b = true → ∀ a, H a = none → ts a cls d D σ H) ∧ (b = false → wCl K Wout D r cls d σ H)
  | (c, some i, ts) :: r => fun cls d σ H => ∃ b, PySem.W.exmOne K cls c = some b ∧ (b = true → ∀ a, H a = none → ts a cls d (Ends.clr D i) (σ.set i (some (.ref a))) H) ∧ (b = false → wCl K Wout D r cls d σ H)
inductive ClsOk (X : Cx) : List ExceptHandler → List Cl → Prop
  | nil : ClsOk X [] []
  | bare {x : Str} {c : Value} {ts : Addr → Value → Option Addr → TS} {b₀ : Stmt} {su : List Stmt} {np p' : Pos} {hs : List ExceptHandler} {l : List Cl} (hc : Names X x c)
      (hsu : ∀ (a : Addr) (oe : Obj) (cls : Value) (d : Option Addr) (pn : List (Addr × Obj)), Zc cls d oe → (∃ vs, oe.data = .fields vs) → PSs (X.suite a ((a, oe) :: pn)) (b₀ :: su) (ts a cls d)) (r : ClsOk X hs l) :
      ClsOk X (.ExceptHandler (some (.Name x np)) none (b₀ :: su) p' :: hs) ((c, none, ts) :: l)
  | named {x n : Str} {i : Nat} {c : Value} {ts : Addr → Value → Option Addr → TS} {b₀ : Stmt} {su : List Stmt} {np p' : Pos} {hs : List ExceptHandler} {l : List Cl} (hi : X.N[i]? = some n) (hln : X.env.kindOf n = some .local) (hc : Names X x c)
      (hsu : ∀ (a : Addr) (oe : Obj) (cls : Value) (d : Option Addr) (pn : List (Addr × Obj)), Zc cls d oe → (∃ vs, oe.data = .fields vs) → PSs (X.suite a ((a, oe) :: pn)) (b₀ :: su) (ts a cls d)) (r : ClsOk X hs l) :
      ClsOk X (.ExceptHandler (some (.Name x np)) (some n) (b₀ :: su) p' :: hs) ((c, some i, ts) :: l)
section
variable {X : Cx} {body : List Stmt} {h₀ : ExceptHandler} {hds : List ExceptHandler} {l : List Cl} {pos : Pos} {tb : WX → TS} {Wout : WX}
theorem ps_tryA (hs : X.stack = X.env :: X.outer) (hf : X.env.frame = some X.env.locals) (hN : X.N.Nodup) (tk : Takes X Wout)
    (hb : ∀ (W : WX) (pn : List (Addr × Obj)) (xe : Value → Shared → Prop), Takes (X.tr pn xe) W → PassesOwn (model X.prog X.w) X.A X.env xe → PSs (X.tr pn xe) body (tb W))
    (hh : ClsOk X (h₀ :: hds) l) : PS X (.Try body (h₀ :: hds) [] [] pos) (fun D σ H => tb (wCl X.K Wout D l) D σ H) := by
  refine ⟨fun pins s σ H D I h => ?_⟩
  have ok := I.ok
  have fr0 : X.A.frames = some (X.env :: X.outer) := by rw [ok.frames, hs]
  refine wpAny_Try_except (wpAny_mono ((hb (wCl X.K Wout D l) (X.pn ++ pins) (fun e s₁ => wpAny (model X.prog X.w) X.A (noteFrame e X.env) (fun _ s₂ => wpAny (model X.prog X.w) X.A (setFlight e none) (fun _ s₃ =>
    wpAny (model X.prog X.w) X.A (handleBy e X.env (h₀ :: hds)) (SP X pins D) X.xe s₃) X.xe s₂) X.xe s₁) (fun u s' xx => ?_) PassesOwn.looking).run [] s σ H D (I.toTry _) h) (fun f s1 hsp => ?_) (fun e s1 he => he))
  · obtain ⟨a, B, sI, pins', σ', H', cls, d, rfl, J', nb, up, sky, na, os, ag, w⟩ := xx
    have J : Inv X pins σ' H' sI := J'.ofTry ok
    have sky1 : Sky B (X.env :: X.outer) a (Zc cls d) X.env.locals s'.heap := hs ▸ sky
    refine Sky.land Zc.steady fr0 hf sky1 fun h3 fl3 up3 => ?_
    have J3 : Inv X pins σ' H' { s' with heap := h3 } := J.landed nb fl3.1 (up.trans up3) os ag
    obtain ⟨oe3, vs3, he3, hz3, hd3⟩ := fl3.there
    have nfr : a ∉ frs (X.env :: X.outer) := fun hm => by
      obtain ⟨_, o', e', hnf⟩ := fl3.2.2.1.mem hm
      rw [he3] at e'
      cases e'
      exact hnf _ hd3
    have nL : a ≠ X.env.locals := fun z => nfr (List.mem_filterMap.mpr ⟨X.env, List.mem_cons_self, by rw [hf, z]⟩)
    have nF : a ∉ X.fs := fun hm => by
      obtain ⟨e, he, q⟩ := List.mem_filterMap.mp hm
      exact nfr (List.mem_filterMap.mpr ⟨e, List.mem_cons_of_mem _ he, q⟩)
    have S3 := J3.suite he3 hd3 na nL nF
    have look : ∀ {x : Str} {np : Pos} {c : Value} {Q : Value → Shared → Prop} {E : Value → Shared → Prop}, Names X x c → Q c { s' with heap := h3 } → wpAny (model X.prog X.w) (X.A.mark (some (.ref a))) (eval (.Name x np) X.env) Q E { s' with heap := h3 } := fun hc q => by
      obtain ⟨hg, hdbg, hm | ⟨hm, hv, hnn⟩⟩ := hc
      · exact ld_glob (X := X.suite a ((a, oe3) :: (X.pn ++ pins))) S3 hg hm q hdbg
      · exact ld_blt (X := X.suite a ((a, oe3) :: (X.pn ++ pins))) S3 hg hm hv q hnn hdbg
    have LT : PySem.W.Looks (model X.prog X.w) h3 (typeOf (.ref a)) cls := fun A Q E s k q => wpAny_typeOf_ref (k _ _ he3) (by rw [hz3.1]; exact q)
    have go : ∀ {hs' : List ExceptHandler} {l' : List Cl}, ClsOk X hs' l' → wCl X.K Wout D l' cls d σ' H' →
        wpAny (model X.prog X.w) X.A (handleBy (.ref a) X.env hs') (SP X pins D) X.xe { s' with heap := h3 } := by
      intro hs' l' hk
      induction hk with
      | nil =>
        intro w
        refine wpAny_handleBy_nil ?_
        obtain ⟨k1, k2, k3, oe, vs, T, oT, ts', he, hz, hd, h1, hr⟩ := id fl3
        unfold PySem.passOn
        refine wpAny_bind (wpAny_field he hd h1 ?_)
        rw [if_neg (show ¬ ((Value.ref T == Value.none) = true) from by simp)]
        have fin : wpAny (model X.prog X.w) X.A (setFlight (.ref a) X.env.frame) (fun _ s4 => wpAny (model X.prog X.w) X.A (throw (.ref a) : Sem Flow) (SP X pins D) X.xe s4) X.xe { s' with heap := h3 } := by
          rw [hf]
          exact HandSPX.setFlight_upZ fl3 fun h4 hh4 up4 => wpAny_throw (tk _ _ ⟨a, B, sI, pins, σ', H', cls, d, rfl, J, nb, (up.trans up3).trans up4, .inr (.inr (by rw [hs]; exact hh4)), na, os, ag, w⟩)
        first
          | exact wpAny_bind (wpAny_pure (wpAny_bind fin))
          | exact wpAny_bind fin
      | @bare x c ts b₀ su np p' hs2 l2 hc hsu r ih =>
        intro w
        obtain ⟨b, hb1, hyes, hno⟩ := w
        refine wpAny_handleBy_cons (codeAny_handlers_test (look hc ((PySem.W.exm_one (M := model X.prog X.w) (J3.kIn) LT hb1).here ?_))) (by intro q; cases q)
        cases b with
        | false => exact ih (hno rfl)
        | true =>
          refine codeAny_handlers_suite (HandSPX.lands_againZ fl3 fun h4 fl4 up4 => ?_)
          have J4 : Inv X pins σ' H' { s' with heap := h4 } := J.landed nb fl4.1 ((up.trans up3).trans up4) os ag
          obtain ⟨oe4, vs4, he4, hz4, hd4⟩ := fl4.there
          refine wpAny_mono ((hsu a oe4 cls d (X.pn ++ pins) hz4 ⟨_, hd4⟩).run [] _ _ H' _ (J4.suite he4 hd4 na nL nF) (hyes rfl a na)) (fun f s6 hsp => ?_) (fun _ _ z => False.elim z)
          cases f with
          | ret u => obtain ⟨v6, σ6, H6, S6, r6, q6⟩ := hsp; exact ⟨_, _, _, S6.unsuite ok, r6, q6⟩
          | next => obtain ⟨σ6, H6, S6, q6⟩ := hsp; exact ⟨_, _, S6.unsuite ok, q6⟩
          | brk => obtain ⟨σ6, H6, S6, q6⟩ := hsp; exact ⟨_, _, S6.unsuite ok, q6⟩
          | cont => obtain ⟨σ6, H6, S6, q6⟩ := hsp; exact ⟨_, _, S6.unsuite ok, q6⟩
      | @named x n i c ts b₀ su np p' hs2 l2 hi hln hc hsu r ih =>
        intro w
        obtain ⟨b, hb1, hyes, hno⟩ := w
        refine wpAny_handleBy_cons (codeAny_handlers_test (look hc ((PySem.W.exm_one (M := model X.prog X.w) (J3.kIn) LT hb1).here ?_))) (by intro q; cases q)
        cases b with
        | false => exact ih (hno rfl)
        | true =>
          refine codeAny_handlers_suite_as (HandSPX.lands_againZ fl3 fun h4 fl4 up4 => ?_)
          have J4 : Inv X pins σ' H' { s' with heap := h4 } := J.landed nb fl4.1 ((up.trans up3).trans up4) os ag
          obtain ⟨oe4, vs4, he4, hz4, hd4⟩ := fl4.there
          refine store_ok (X := X.suite a ((a, oe4) :: (X.pn ++ pins))) (v := .ref a) (J4.suite he4 hd4 na nL nF) hN hi (.inl hln) rfl (fun s5 S5 => ?_) (.inr hln)
          refine wpAny_mono ((hsu a oe4 cls d (X.pn ++ pins) hz4 ⟨_, hd4⟩).run [] s5 _ H' _ S5 (hyes rfl a na)) (fun f s6 hsp => ?_) (fun _ _ z => False.elim z)
          have end_ : ∀ {σ6 : L2.St} {H6 : Hp} {Q : Shared → Prop}, Inv (X.suite a ((a, oe4) :: (X.pn ++ pins))) [] σ6 H6 s6 → (∀ s7, Inv X pins (σ6.set i none) H6 s7 → Q s7) →
              wpAny (model X.prog X.w) X.A (do bindName X.env n .none; unbindBehindTheSuite X.env n p') (fun _ s7 => Q s7) X.xe s6 := fun S6 hq => gone_ok (S6.unsuite ok) hN hi hln hq
          cases f with
          | ret u => obtain ⟨v6, σ6, H6, S6, r6, q6⟩ := hsp; exact end_ S6 fun s7 J7 => ⟨_, _, _, J7, r6, q6⟩
          | next => obtain ⟨σ6, H6, S6, q6⟩ := hsp; exact end_ S6 fun s7 J7 => ⟨_, _, J7, q6⟩
          | brk => obtain ⟨σ6, H6, S6, q6⟩ := hsp; exact end_ S6 fun s7 J7 => ⟨_, _, J7, q6⟩
          | cont => obtain ⟨σ6, H6, S6, q6⟩ := hsp; exact end_ S6 fun s7 J7 => ⟨_, _, J7, q6⟩
    exact go hh w
  · cases f with
    | ret u => obtain ⟨v, σ', H', J', r, q⟩ := hsp; exact ⟨v, σ', H', J'.ofTry ok, r, q⟩
    | next => obtain ⟨σ', H', J', q⟩ := hsp; exact wpAny_execs_nil ⟨σ', H', J'.ofTry ok, q⟩
    | brk => obtain ⟨σ', H', J', q⟩ := hsp; exact ⟨σ', H', J'.ofTry ok, q⟩
    | cont => obtain ⟨σ', H', J', q⟩ := hsp; exact ⟨σ', H', J'.ofTry ok, q⟩
end
/-! the exception that a suite holds, with its dict: its class -/
namespace ExD
open PySem.W
section
variable {prog : Program} {w : World} {A : Around} {E : Value → Shared → Prop} {s : Shared} {K : PySem.W.Frag} {x D : Addr} {ox : Obj} {od : Option Obj}
theorem cls_some {C : Addr} (h : hasDictIn K C = true) : (clsIn K C).isSome = true := by
  obtain ⟨cd, hc, _⟩ := any_some h
  rw [hc]; rfl
theorem get_cls {Q : Option Value → Shared → Prop} (T : ExcC K D) (X : K.In s.heap) (I : InstAt s.heap x ox D od) (hf : findObj K D od "__class__" = some (.bind (.builtin "getset_descriptor.__get__") (.builtin "object.__class__")))
    (h : Q (some (.ref D)) { s with toks := s.toks + 1 }) : wpAny (model prog w) A (getAttr? (.ref x) "__class__") Q E s := by
  obtain ⟨hp, g, d, t, os⟩ := s
  have own : (Value.builtin "BaseException.__getattribute__" == Value.builtin "object.__getattribute__") = false := by decide +kernel
  have inst : Looks (model prog w) hp (isInstance (.ref x) (.type "BaseException")) true := (I.type (M := model prog w)).andThen (looks_subIn X T.hs)
  unfold getAttr? getAttrBy? getAttrBy
  refine wpAny_bind (wpAny_mkText (wpAny_bind (wpAny_attempt (wpAny_holding (wpAny_bind ((I.type (M := model prog w)).at (wpAny_bind ((looks_findIn (M := model prog w) X T.hg).at ?_))))))))
  show wpAny _ _ (ite ((onTheHeap (Value.ref D) && (Value.builtin "BaseException.__getattribute__" == Value.builtin "object.__getattribute__")) = true) _ _) _ _ _
  rw [if_neg (by rw [own]; simp)]
  unfold getAttrByItsOwn hookBefore
  refine wpAny_bind ?_
  rw [if_pos (show onTheHeap (Value.ref D) = true from rfl)]
  refine (looks_findIn (M := model prog w) X T.hk).at (wpAny_bind (wpAny_attempt (wpAny_holding ?_)))
  unfold callGetattribute
  rw [if_neg (show ¬ ((false && onTheHeap (Value.builtin "BaseException.__getattribute__")) = true) from Bool.false_ne_true)]
  unfold boundAndCalled
  rw [PySem.F.excAttr_ValueError.ga.bind (.ref x)]
  refine wpAny_bind (wpAny_pure ?_)
  refine wpAny_call (codeAny_call_builtin PySem.F.excAttr_ValueError.ga.plain PySem.F.entry_bexc_ga (@check_slot (model prog w) _ _ ⟨hp, g, d, t + 1, os⟩ "BaseException.__getattribute__" "BaseException" "__getattribute__" (.ref x) [.str "__class__" t] [] _ (by decide +kernel) (by decide +kernel) inst (PySem.F.args_bexc_ga (.ref x) (.str "__class__" t)) ?_))
  unfold Builtin.«object.__getattribute__»
  refine wpAny_bind (wpAny_of_eq (a := ((Value.ref x : Value), [Value.str "__class__" t])) (by first | rfl | (simp only [slotArgs]; rfl)) (wpAny_bind (wpAny_pure (wpAny_bind ((I.type (M := model prog w)).at (wpAny_bind ((looks_find (M := model prog w) X I hf).at ?_)))))))
  refine wpAny_bind (wpAny_holding (wpAny_call (class_get (s := ⟨hp, g, d, t + 1, os⟩) (ox := ox) (od := od) X I T.hm (wpAny_pure ?_))))
  show wpAny _ _ (handedOut (.ref D)) _ _ _
  rw [handedOut_of (v := .ref D) rfl]
  first
    | exact wpAny_pure (wpAny_pure h)
    | exact wpAny_pure h
    | exact wpAny_pure (wpAny_bind (wpAny_pure (wpAny_pure h)))
theorem kitx (T : ExcC K D) (o : Obj) : KitX K (.ref x) (.ref D) (fun h => InstAt h x ox D (some o)) := by
  have hc := cls_some T.hd
  obtain ⟨cd, hcd⟩ := Option.isSome_iff_exists.mp hc
  unfold clsIn at hcd
  split at hcd
  · rename_i c' d' cd' sl' ho
    exact
      { ty := fun _ _ _ I => I.type
        it := fun _ _ X _ A' Q' E' s' k q => wpAny_bind (wpAny_loadPart (k _ _ (X _ _ ho)) (wpAny_pure q))
        ne := fun h tp dd its n sl X htp => Bool.eq_false_iff.mpr fun q => by
          obtain rfl : D = tp := Value.ref.inj (beq_iff_eq.mp q)
          cases (X _ _ ho).symm.trans htp
        ca := fun X I k => get_cls T X I (findObj_data hc T.ha T.hn T.ht) k }
  · cases hcd
end
end ExD

section
variable {X : Cx} {a : Addr} {oe : Obj} {cls : Value} {d : Option Addr} {pn : List (Addr × Obj)}
/-- isinstance(e, c), e with a dict -/
def rIsX (K : PySem.W.Frag) (a : Addr) (cls : Value) (d : Option Addr) : List V → Hp → VK → Prop := fun xs H Q => ∃ (D : Addr) (c : V) (cv : Value) (b : Bool) (dd : Addr) (fs : List (Str × V)), xs = [.ref a, c] ∧ cls = .ref D ∧ ExcC K D ∧ d = some dd ∧ H dd = some (.xd fs) ∧ (∀ u, RelV c u → u = cv) ∧ PySem.W.kitOne K (.ref D) cv = some b ∧ Q (.bl b) H
theorem call_isX (hz : Zc cls d oe) (hf : ∃ vs, oe.data = .fields vs) : CallR (X.suite a ((a, oe) :: pn)) (.builtin "isinstance") (rIsX X.K a cls d) := by
  intro pins s σ H xs us Q I r h
  obtain ⟨D, c, cv, b, dd, fs, rfl, ec, C, ed, ea, hcv, e, q⟩ := h
  subst ec
  subst ed
  cases r with
  | cons rx rr =>
    cases rr with
    | cons rt rr =>
      cases rr
      cases rx
      have ecv := hcv _ rt
      subst ecv
      obtain ⟨hget, _⟩ := I.pin (a, oe) (List.mem_append.mpr (.inl List.mem_cons_self))
      obtain ⟨vs, hv⟩ := hf
      obtain ⟨mA, hns, _⟩ := (show ObjOk X.prog X.w H s.heap dd (.xd fs) from I.hok dd _ ea)
      obtain ⟨od, ho, _⟩ := lookIn_ns hns
      have J : PySem.W.InstAt s.heap a oe D (some od) := ⟨hget, hz.1, by unfold PySem.W.notCls; rw [hv] <;> rfl, by rw [hz.2]; exact ho⟩
      exact PySem.W.kia_one (ExD.kitx C od) I.kIn J e (fun z => nomatch z) fun tk => ⟨.bl b, H, I.kept (t' := tk) fun _ _ z => z, rfl, q⟩
end

/-! ### exceptions let out whose context is None, and one raised where such a one is handled -/
section
variable {X : Cx} {E : XK}
theorem passLN : Passes (L2N.CX X.prog X.w) X E0 := fun _ _ _ _ _ _ _ c => by
  obtain ⟨a, B, H', cl, dd, c1, c2, c3, c4, c5, c6, c7, no⟩ := c
  exact no.elim
theorem passEN (tk : L2N.Takes X (fun c d _ H => E c d H)) : Passes (L2N.CX X.prog X.w) X E := fun pins σ H s e s' I c => L2N.passAt tk σ pins H s e s' I c
end
section
variable {P : Program} {w : World} {K : PySem.W.Frag} {mg : Str → Option Value} {base : Heap} {qn x : Str} {st : Stmt} {f : Addr} {fd : FuncData} {N ps : List Str} {k : Nat} {sp : Sp}
theorem okXN (F : Fun K x qn st f fd) (S : FnScope N ps (defScope st)) (len : ∀ vs H Q E, sp vs H Q E → vs.length = ps.length)
    (go : ∀ (cv : Value) (A : Around) (out : List Env) (s : Shared) (H : Hp) (vs : List V) (Q : VK) (E : XK), Room k (A.deeper (envOfC qn (defScope st) s.heap.objs.size f cv)) → sp vs H Q E →
      ∃ t, PSs (cxOf (L2N.CX P w) P w K mg base N qn (defScope st) f cv A out s H E) (defBody st) t ∧ t { nx := fun _ H' => Q .non H', rt := Q } (start N vs) H) : FnOk P w K mg base (L2N.CX P w) (k + 1) f fd ps sp := by
  obtain ⟨_, _, _, _, _, _, _, _, _, rfl, l1, l2⟩ := F.ex
  exact fn_of l1 l2 S len fun A out s H vs Q E hr h => go _ A out s H vs Q E hr h
theorem okHot (F : Fun K x qn st f fd) (S : FnScope N ps (defScope st)) (len : ∀ vs H Q E, sp vs H Q E → vs.length = ps.length)
    (go : ∀ (cv : Value) (A : Around) (out : List Env) (s : Shared) (H : Hp) (vs : List V) (Q : VK) (E : XK) (p : Addr × Obj), L2H.RoomH k (A.deeper (envOfC qn (defScope st) s.heap.objs.size f cv)) → sp vs H Q E →
      ∃ t, PSs (L2H.cxH CX0 P w K mg base N qn (defScope st) f cv A out s H E p) (defBody st) t ∧ t { nx := fun _ H' => Q .non H', rt := Q } (start N vs) H) : L2H.FnH P w K mg base CX0 (k + 1) f fd ps sp := by
  obtain ⟨_, _, _, _, _, _, _, _, _, rfl, l1, l2⟩ := F.ex
  exact L2H.fn_ofH l1 l2 S len fun A out s H vs Q E p _ hr h => go _ A out s H vs Q E p hr h
end
section
variable {X : Cx} {CX : CXT} {x : Str} {e : Expr} {es : List Expr} {ta : TA} {p pos : Pos} {C fI : Addr} {k : Nat} {fd : FuncData} {ps : List Str} {sp : Sp} {ds : List Value} {dvs : List V}
/-- C(e, ..) where nothing is handled: what is made has its six fields, no context -/
theorem pmk5_oex (T : OexC X.K C) (iC : PySem.W.findIn X.K (.ref C) "__init__" = some (some (.ref fI))) (tI : PySem.W.typeIn X.K (.ref fI) = some (.type "function")) (F1 : FnOk X.prog X.w X.K X.mg X.base CX k fI fd ps sp) (hr : Room (k + 1) X.A) (hb : Binds X.K fd ps ds)
    (hd : Vals dvs ds) (hx : Passes CX X (fun _ _ _ => False)) (hg : Gl X x) (hm : X.mg x = some (.ref C)) (ha : PA X (e :: es) ta) (hdb : (x == ("__debug__" : Str)) = false := by decide) (he : starEach (e :: es) X.env = (false, eval e X.env) :: starEach es X.env := by rfl)
    (hpl : (backTo pos (starEach es X.env)).any (·.1) = false := by rfl) : L2H.PMk5 X (.Call (.Name x p) (e :: es) [] pos) (tMkO C sp dvs ta) := by
  intro pins s σ H Q I h
  obtain ⟨_, _, _, _, bm, _, _, _, _, _, _, _, _, _, _, hC, hbm⟩ := T.cls
  refine wpAny_Call_Name_kw (ld_glob I hg hm (PySem.W.callWith_K (h₀ := X.base) I.ok.mod.kin T.kC (thn (ha.run pos pins s σ H _ I h) fun us s1 q0 => ?_) he hpl) hdb)
  obtain ⟨vs, H1, I1, r1, hz, q1⟩ := q0
  refine ⟨I1.kIn, (show wpAny _ _ (call (.ref C) us) _ _ _ from ?_)⟩
  obtain ⟨hp, g, dr, tk, os⟩ := s1
  obtain ⟨a, ha1⟩ : ∃ a, a = hp.objs.size + 1 := ⟨_, rfl⟩
  have hsz : hp.objs.size ≤ a := by omega
  have hq := q1 a (I1.hok.fresh hsz)
  obtain ⟨h3, eh3⟩ : ∃ h3, h3 = (hp.push (PySem.W.kdv_tup us)).push (PySem.HandSPX.excO C hp.objs.size) := ⟨_, rfl⟩
  have kk : ∀ b o, hp.get? b = some o → h3.get? b = some o := fun b o e => by rw [eh3]; exact Heap.get?_push_of_some _ (Heap.get?_push_of_some _ e)
  have hget : h3.get? a = some (PySem.HandSPX.excO C hp.objs.size) := by rw [eh3, ha1]; heap_get
  have I2 : Inv X pins σ (upd H1 a (exo a C none)) ⟨h3, g, dr, tk, os⟩ := I1.laid (t' := tk) kk hsz (exo_ok hget)
  have r2 : Vals (V.ref a :: (vs ++ dvs)) (Value.ref a :: (us ++ ds)) := .cons rfl (r1.append hd)
  have hl : (Value.ref a :: us ++ ds).length = ps.length := r2.length.symm.trans (F1.len _ _ _ _ hq)
  have run := F1.run _ X.stack _ _ ⟨Value.ref a :: us, []⟩ (Value.ref a :: (us ++ ds)) _ _ (fun _ _ _ => False) (hr.make C us []) (I2.env0.make C us []) (hb _ (Value.ref a :: us) I2.kIn hl) r2 hq
  rw [eh3, ha1] at run
  refine wpAny_call (PySem.HandSPX.call_own F.excBase_ValueError (fun Y => PySem.HandSPX.refsVE_contains Y bm hbm) (I1.kIn _ _ hC) (PySem.W.looks_findIn I1.kIn iC) (fun self => PySem.W.bind_fn I1.kIn self tI) (by rw [← Paired.length r1, sizeLine_eq]; omega) (codeAny_mono run fun r s' w => ?_))
  rw [← ha1, ← eh3] at w
  match r, w with
  | .error er, w => exact hx pins σ _ _ er s' I2 w
  | .ok .next, w => exact w.elim
  | .ok .brk, w => exact w.elim
  | .ok .cont, w => exact w.elim
  | .ok (.ret u), ⟨v, H2, os2, bare2, un2, hok2, rv, ev, d, fs, ea, ed, hd1, q2⟩ =>
    subst ev
    obtain ⟨h2, g2, d2, t2, os'⟩ := s'
    obtain ⟨t0, G, J, kG, ge, hoe, na⟩ := mk_end0 (d2 := d2) (t2 := t2) I1 hsz kk un2 hok2 os2 bare2 ea ed hd1
    rw [← ha1]
    refine ⟨rv, ⟨a, _, _, ⟨G, g2, d2, t2, os'⟩, _, .ref C, some d, rfl, J, kG, ge, hoe, ⟨rfl, rfl, fun vs hv => by cases hv; rfl⟩, rfl, rfl, na, rfl, bare2, raises_own T.exC T.tyC, q2⟩, fun b ob ws eb gb db => ?_⟩
    cases eb
    have z := hoe.symm.trans gb
    cases z
    cases db
    show (4 : Nat) < 6
    decide
end

/-! ### an own refusal's __init__, made, let out -/
section
variable {P : Program} {w : World} {K : PySem.W.Frag} {mg : Str → Option Value} {base : Heap} {Z : Adr}
def spXi (C : Addr) (f : Str) : Sp := fun vs H Q _ => ∃ (a : Addr) (v : V), vs = [.ref a, v] ∧ H a = some (exo a C none) ∧ ∀ d, H d = none → d ≠ a → Q .non (upd (upd H d (exd d [(f, v)])) a (exo a C (some d)))
theorem mkO_use {C : Addr} {f : Str} {v : V} {ta : TA} {σ : L2.St} {H : Hp} {Q : XK} (h : EvA ta σ H [v]) (k : ∀ H1, Ex H H1 → ∀ d, H1 d = none → Q (.ref C) (some d) (upd H1 d (.xd [(f, v)]))) : tMkO C (spXi C f) [] ta σ H Q :=
  h H (Ex.refl H) _ fun H1 e1 => ⟨(by show 1 ≤ 1000; decide), fun a ha => ⟨a, v, rfl, upd_same, fun d hd hda => by
    have hd1 : H1 d = none := by rw [upd_ne hda] at hd; exact hd
    refine ⟨rfl, d, [(f, v)], upd_same, by rw [upd_ne hda]; exact upd_same, hd1, ?_⟩
    have e : upd (del (upd (upd (upd H1 a (exo a C none)) d (exd d [(f, v)])) a (exo a C (some d))) a) d (.xd [(f, v)]) = upd H1 d (.xd [(f, v)]) := by
      funext b
      by_cases hb : b = d
      · subst hb; rw [upd_same, upd_same]
      · rw [upd_ne hb, upd_ne hb]
        by_cases hba : b = a
        · subst hba; rw [del_same, ha]
        · rw [del_ne hba, upd_ne hba, upd_ne hb, upd_ne hba]
    rw [e]
    exact k H1 e1 d hd1⟩⟩
end

section
variable {P : Program} {w : World} {K : PySem.W.Frag} {mg : Str → Option Value} {base : Heap} {Z : Adr}
theorem ok_NoText_init (T : Txt K mg Z) : FnOk P w K mg base CX0 1 Z.a_NoText_init Z.d_NoText_init ["self", "found"] (spXi Z.C_NoText "found") := by
  refine T.F_NoText_init.ok sc_NoText_init (fun vs H Q E h => ?_) (fun cdv A outer s H vs Q E hr h => ?_)
  · obtain ⟨_, _, rfl, _⟩ := h; rfl
  · obtain ⟨a, v, rfl, ha, k⟩ := h
    refine ⟨_, (pss_cons (ps_expr (pe_baseinit rfl T.g_MarkError T.b1_MarkError T.b2_MarkError T.b3_MarkError T.b4_MarkError (pa_cons (pv 0) (pa_cons pe_str pa_nil))))
      (pss_one (ps_ost (pv 0) (pv 1)))), ?_⟩
    exact ⟨_, rfl, a, Z.C_NoText, _, rfl, (by show 1 ≤ 1000; decide), T.ox_NoText, ha, _, rfl, _, rfl, a, Z.C_NoText, rfl, T.ox_NoText, T.no_NoText, .inl ⟨ha, fun d hd hda => k d hd hda⟩⟩
end

/-! ### the refusals of a mark's parts, made -/
section
variable {P : Program} {w : World} {K : PySem.W.Frag} {mg : Str → Option Value} {base : Heap} {Z : Adr}
theorem ok_NoLetters_init (T : Txt K mg Z) : FnOk P w K mg base CX0 1 Z.a_NoLetters_init Z.d_NoLetters_init ["self", "found"] (spXi Z.C_NoLetters "found") := by
  refine T.F_NoLetters_init.ok sc_NoLetters_init (fun vs H Q E h => ?_) (fun cdv A outer s H vs Q E hr h => ?_)
  · obtain ⟨_, _, rfl, _⟩ := h; rfl
  · obtain ⟨a, v, rfl, ha, k⟩ := h
    refine ⟨_, (pss_cons (ps_expr (pe_baseinit rfl T.g_MarkError T.b1_MarkError T.b2_MarkError T.b3_MarkError T.b4_MarkError (pa_cons (pv 0) (pa_cons pe_str pa_nil))))
      (pss_one (ps_ost (pv 0) (pv 1)))), ?_⟩
    exact ⟨_, rfl, a, Z.C_NoLetters, _, rfl, (by show 1 ≤ 1000; decide), T.ox_NoLetters, ha, _, rfl, _, rfl, a, Z.C_NoLetters, rfl, T.ox_NoLetters, T.no_NoLetters, .inl ⟨ha, fun d hd hda => k d hd hda⟩⟩
theorem ok_NoNumber_init (T : Txt K mg Z) : FnOk P w K mg base CX0 1 Z.a_NoNumber_init Z.d_NoNumber_init ["self", "found"] (spXi Z.C_NoNumber "found") := by
  refine T.F_NoNumber_init.ok sc_NoNumber_init (fun vs H Q E h => ?_) (fun cdv A outer s H vs Q E hr h => ?_)
  · obtain ⟨_, _, rfl, _⟩ := h; rfl
  · obtain ⟨a, v, rfl, ha, k⟩ := h
    refine ⟨_, (pss_cons (ps_expr (pe_baseinit rfl T.g_MarkError T.b1_MarkError T.b2_MarkError T.b3_MarkError T.b4_MarkError (pa_cons (pv 0) (pa_cons pe_str pa_nil))))
      (pss_one (ps_ost (pv 0) (pv 1)))), ?_⟩
    exact ⟨_, rfl, a, Z.C_NoNumber, _, rfl, (by show 1 ≤ 1000; decide), T.ox_NoNumber, ha, _, rfl, _, rfl, a, Z.C_NoNumber, rfl, T.ox_NoNumber, T.no_NoNumber, .inl ⟨ha, fun d hd hda => k d hd hda⟩⟩
theorem ok_NoPoints_init (T : Txt K mg Z) : FnOk P w K mg base CX0 1 Z.a_NoPoints_init Z.d_NoPoints_init ["self", "found"] (spXi Z.C_NoPoints "found") := by
  refine T.F_NoPoints_init.ok sc_NoPoints_init (fun vs H Q E h => ?_) (fun cdv A outer s H vs Q E hr h => ?_)
  · obtain ⟨_, _, rfl, _⟩ := h; rfl
  · obtain ⟨a, v, rfl, ha, k⟩ := h
    refine ⟨_, (pss_cons (ps_expr (pe_baseinit rfl T.g_MarkError T.b1_MarkError T.b2_MarkError T.b3_MarkError T.b4_MarkError (pa_cons (pv 0) (pa_cons pe_str pa_nil))))
      (pss_one (ps_ost (pv 0) (pv 1)))), ?_⟩
    exact ⟨_, rfl, a, Z.C_NoPoints, _, rfl, (by show 1 ≤ 1000; decide), T.ox_NoPoints, ha, _, rfl, _, rfl, a, Z.C_NoPoints, rfl, T.ox_NoPoints, T.no_NoPoints, .inl ⟨ha, fun d hd hda => k d hd hda⟩⟩
theorem ok_NoMakers_init (T : Txt K mg Z) : FnOk P w K mg base CX0 1 Z.a_NoMakers_init Z.d_NoMakers_init ["self", "found"] (spXi Z.C_NoMakers "found") := by
  refine T.F_NoMakers_init.ok sc_NoMakers_init (fun vs H Q E h => ?_) (fun cdv A outer s H vs Q E hr h => ?_)
  · obtain ⟨_, _, rfl, _⟩ := h; rfl
  · obtain ⟨a, v, rfl, ha, k⟩ := h
    refine ⟨_, (pss_cons (ps_expr (pe_baseinit rfl T.g_MarkError T.b1_MarkError T.b2_MarkError T.b3_MarkError T.b4_MarkError (pa_cons (pv 0) (pa_cons pe_str pa_nil))))
      (pss_one (ps_ost (pv 0) (pv 1)))), ?_⟩
    exact ⟨_, rfl, a, Z.C_NoMakers, _, rfl, (by show 1 ≤ 1000; decide), T.ox_NoMakers, ha, _, rfl, _, rfl, a, Z.C_NoMakers, rfl, T.ox_NoMakers, T.no_NoMakers, .inl ⟨ha, fun d hd hda => k d hd hda⟩⟩
theorem ok_NoMaker_init (T : Txt K mg Z) : FnOk P w K mg base CX0 1 Z.a_NoMaker_init Z.d_NoMaker_init ["self", "found"] (spXi Z.C_NoMaker "found") := by
  refine T.F_NoMaker_init.ok sc_NoMaker_init (fun vs H Q E h => ?_) (fun cdv A outer s H vs Q E hr h => ?_)
  · obtain ⟨_, _, rfl, _⟩ := h; rfl
  · obtain ⟨a, v, rfl, ha, k⟩ := h
    refine ⟨_, (pss_cons (ps_expr (pe_baseinit rfl T.g_MarkError T.b1_MarkError T.b2_MarkError T.b3_MarkError T.b4_MarkError (pa_cons (pv 0) (pa_cons pe_str pa_nil))))
      (pss_one (ps_ost (pv 0) (pv 1)))), ?_⟩
    exact ⟨_, rfl, a, Z.C_NoMaker, _, rfl, (by show 1 ≤ 1000; decide), T.ox_NoMaker, ha, _, rfl, _, rfl, a, Z.C_NoMaker, rfl, T.ox_NoMaker, T.no_NoMaker, .inl ⟨ha, fun d hd hda => k d hd hda⟩⟩
theorem ok_NoYear_init (T : Txt K mg Z) : FnOk P w K mg base CX0 1 Z.a_NoYear_init Z.d_NoYear_init ["self", "found"] (spXi Z.C_NoYear "found") := by
  refine T.F_NoYear_init.ok sc_NoYear_init (fun vs H Q E h => ?_) (fun cdv A outer s H vs Q E hr h => ?_)
  · obtain ⟨_, _, rfl, _⟩ := h; rfl
  · obtain ⟨a, v, rfl, ha, k⟩ := h
    refine ⟨_, (pss_cons (ps_expr (pe_baseinit rfl T.g_MarkError T.b1_MarkError T.b2_MarkError T.b3_MarkError T.b4_MarkError (pa_cons (pv 0) (pa_cons pe_str pa_nil))))
      (pss_one (ps_ost (pv 0) (pv 1)))), ?_⟩
    exact ⟨_, rfl, a, Z.C_NoYear, _, rfl, (by show 1 ≤ 1000; decide), T.ox_NoYear, ha, _, rfl, _, rfl, a, Z.C_NoYear, rfl, T.ox_NoYear, T.no_NoYear, .inl ⟨ha, fun d hd hda => k d hd hda⟩⟩
theorem ok_NoCopy_init (T : Txt K mg Z) : FnOk P w K mg base CX0 1 Z.a_NoCopy_init Z.d_NoCopy_init ["self", "found"] (spXi Z.C_NoCopy "found") := by
  refine T.F_NoCopy_init.ok sc_NoCopy_init (fun vs H Q E h => ?_) (fun cdv A outer s H vs Q E hr h => ?_)
  · obtain ⟨_, _, rfl, _⟩ := h; rfl
  · obtain ⟨a, v, rfl, ha, k⟩ := h
    refine ⟨_, (pss_cons (ps_expr (pe_baseinit rfl T.g_MarkError T.b1_MarkError T.b2_MarkError T.b3_MarkError T.b4_MarkError (pa_cons (pv 0) (pa_cons pe_str pa_nil))))
      (pss_one (ps_ost (pv 0) (pv 1)))), ?_⟩
    exact ⟨_, rfl, a, Z.C_NoCopy, _, rfl, (by show 1 ≤ 1000; decide), T.ox_NoCopy, ha, _, rfl, _, rfl, a, Z.C_NoCopy, rfl, T.ox_NoCopy, T.no_NoCopy, .inl ⟨ha, fun d hd hda => k d hd hda⟩⟩
theorem okH_NoText_init (T : Txt K mg Z) : L2H.FnH P w K mg base CX0 1 Z.a_NoText_init Z.d_NoText_init ["self", "found"] (spXi Z.C_NoText "found") := by
  refine okHot T.F_NoText_init sc_NoText_init (fun vs H Q E h => ?_) (fun cdv A outer s H vs Q E p hr h => ?_)
  · obtain ⟨_, _, rfl, _⟩ := h; rfl
  · obtain ⟨a, v, rfl, ha, k⟩ := h
    refine ⟨_, (pss_cons (ps_expr (pe_baseinit rfl T.g_MarkError T.b1_MarkError T.b2_MarkError T.b3_MarkError T.b4_MarkError (pa_cons (pv 0) (pa_cons pe_str pa_nil))))
      (pss_one (ps_ost (pv 0) (pv 1)))), ?_⟩
    exact ⟨_, rfl, a, Z.C_NoText, _, rfl, (by show 1 ≤ 1000; decide), T.ox_NoText, ha, _, rfl, _, rfl, a, Z.C_NoText, rfl, T.ox_NoText, T.no_NoText, .inl ⟨ha, fun d hd hda => k d hd hda⟩⟩
end

/-! ### marks -/
structure MK where
  lt : Str
  num : Int
  pts : Str
  mks : List Str
  yr : Option Int
  cp : Option Int
structure MK.Ok (m : MK) : Prop where
  l : lettersOk m.lt 3 = true
  n : 1 ≤ m.num ∧ m.num ≤ 9999
  p : pointsOk m.pts = true
  pz : m.pts.length ≤ 1000
  k : m.mks.length ≤ 3
  ks : ∀ s ∈ m.mks, makerOk s = true ∧ s.length ≤ 1000
  y : ∀ y, m.yr = some y → 1000 ≤ y ∧ y ≤ 2999
  c : ∀ c, m.cp = some c → 2 ≤ c ∧ c.natAbs.log2 < 1920
def MK.head (m : MK) : Str := (if m.pts = ("" : Str) then [m.lt, (toString m.num : String)] else [m.lt, (toString m.num : String), ".", m.pts]).foldl (· ++ ·) Str.empty
def MK.words (m : MK) : List Str := (m.head :: m.mks) ++ (match m.yr with | none => [] | some y => [(toString y : String)]) ++ (match m.cp with | none => [] | some c => [([("c." : Str), ((toString c : String) : Str)]).foldl (· ++ ·) Str.empty])
def MK.text (m : MK) : Str := Txt.join " " m.words
def MK.tup (m : MK) (ma : Addr) : List V := [.str m.lt, .int m.num, .str m.pts, .ref ma, oi m.yr, oi m.cp]
theorem log2_small {a : Int} (h : 0 ≤ a ∧ a ≤ 9999) : a.natAbs.log2 < 1920 := by
  have h1 : a.natAbs < 2 ^ 14 := by omega
  exact Nat.lt_of_lt_of_le (PySem.Flt.log2_lt_of (by decide) h1) (by decide)
section
variable {P : Program} {w : World} {K : PySem.W.Frag} {mg : Str → Option Value} {base : Heap} {Z : Adr}
theorem letters_len {s : Str} {n : Int} (h : lettersOk s n = true) : (s.length : Int) ≤ n := by
  unfold lettersOk at h
  rw [Bool.and_eq_true, Bool.and_eq_true] at h
  exact of_decide_eq_true h.1.2
theorem fold_len (ss : List Str) : ∀ acc : Str, (ss.foldl (· ++ ·) acc).length = acc.length + (ss.map (·.length)).sum := by
  induction ss with
  | nil => intro acc; show acc.length = acc.length + 0; rw [Nat.add_zero]
  | cons s ss ih =>
    intro acc
    rw [List.foldl_cons, ih, List.map_cons, List.sum_cons]
    have hl : (acc ++ s).length = acc.length + s.length := by
      show (acc.cps ++ s.cps).size = _
      rw [Array.size_append]
      rfl
    rw [hl, Nat.add_assoc]
theorem head_len {m : MK} (ok : m.Ok) : m.head.length ≤ 5000 := by
  have h1 := letters_len ok.l
  have h2 := int_len (log2_small ⟨by have := ok.n; omega, ok.n.2⟩ : m.num.natAbs.log2 < 1920)
  have h3 := ok.pz
  have h0 : (Str.empty).length = 0 := rfl
  have hp : (("." : Str)).length = 1 := by decide +kernel
  unfold MK.head
  rw [fold_len, h0]
  by_cases e : m.pts = ("" : Str)
  · rw [if_pos e]
    simp only [List.map_cons, List.map_nil, List.sum_cons, List.sum_nil]
    omega
  · rw [if_neg e]
    simp only [List.map_cons, List.map_nil, List.sum_cons, List.sum_nil, hp]
    omega
def spTextOf (K : PySem.W.Frag) : Sp := fun vs H Q _ => ∃ (pa ma : Addr) (m : MK), vs = [.ref pa] ∧ SqT K H pa (m.tup ma) ∧ SqT K H ma (m.mks.map V.str) ∧ m.Ok ∧ RetV (.str m.text) H Q
theorem ok_text_of (T : Txt K mg Z) : FnOk P w K mg base CX0 1 Z.a_text_of Z.d_text_of ["parts"] (spTextOf K) := by
  refine T.F_text_of.ok sc_text_of (fun vs H Q E h => ?_) (fun cdv A outer s H vs Q E hr h => ?_)
  · obtain ⟨_, _, _, rfl, _⟩ := h; rfl
  · obtain ⟨pa, ma, m, rfl, hpa, hma, ok, k⟩ := h
    refine ⟨_, (pss_cons (ps_asg (pv 0) (pg_tup rfl (pgs_cons (pg_name (i := 1) sc_text_of.nd rfl (.inl rfl)) (pgs_cons (pg_name (i := 2) sc_text_of.nd rfl (.inl rfl)) (pgs_cons (pg_name (i := 3) sc_text_of.nd rfl (.inl rfl)) (pgs_cons (pg_name (i := 4) sc_text_of.nd rfl (.inl rfl)) (pgs_cons (pg_name (i := 5) sc_text_of.nd rfl (.inl rfl)) (pgs_cons (pg_name (i := 6) sc_text_of.nd rfl (.inl rfl)) pgs_nil))))))))
      (pss_cons (ps_set (i := 7) sc_text_of.nd rfl (.inl rfl) (pe_ifExp (pt_truthq (pv 3) (by intro _; rfl)) (pe_joinedq (.cons (pe_fmt (pv 1)) (.cons (pe_fmt (pv 2)) (.cons pe_str (.cons (pe_fmt (pv 3)) .nil))))) (pe_joinedq (.cons (pe_fmt (pv 1)) (.cons (pe_fmt (pv 2)) .nil)))))
      (pss_cons (ps_set (i := 8) sc_text_of.nd rfl (.inl rfl) (peM (pe_lst (pa_cons (pv 7) (starK K (pv 4) pa_nil)))))
      (pss_cons (ps_if (pt_cmpR op_notNq (pv 5) pe_non (nomark _)) (pss_one (ps_expr (bmK K PySem.F.plainAttrs_list PySem.F.slot_list_append PySem.F.type_list_append mt_append (pv 8) (pa_cons (pe_callTy (call_strI) (by rfl) T.n_str (by decide +kernel) (pa_cons (pv 5) pa_nil)) pa_nil)))) pss_nil)
      (pss_cons (ps_if (pt_cmpR op_notNq (pv 6) pe_non (nomark _)) (pss_one (ps_expr (bmK K PySem.F.plainAttrs_list PySem.F.slot_list_append PySem.F.type_list_append mt_append (pv 8) (pa_cons (pe_joinedq (.cons pe_str (.cons (pe_fmt (pv 6)) .nil))) pa_nil)))) pss_nil)
      (pss_one (ps_ret (joinK K pe_str (pv 8))))))))), ?_⟩
    refine ⟨_, rfl, pa, _, rfl, hpa, rfl, _, _, rfl, _, _, rfl, _, _, rfl, _, _, rfl, _, _, rfl, _, _, rfl, rfl, ?_⟩
    have h1 := letters_len ok.l
    have hn := (log2_small ⟨by have := ok.n; omega, ok.n.2⟩ : m.num.natAbs.log2 < 1920)
    have h2 := int_len hn
    have h3 := ok.pz
    have hp : (("." : Str)).length = 1 := by decide +kernel
    have hcl : (("c." : Str)).length = 2 := by decide +kernel
    have hhl := head_len ok
    have e0 : m.pts = ("" : Str) ↔ ((m.pts.length : Int) != 0) = false := by
      constructor
      · intro e; rw [e]; decide +kernel
      · intro e
        have hz : m.pts.cps.size = 0 := by
          have : (m.pts.length : Int) = 0 := by simpa using e
          have h' : (m.pts.cps.size : Int) = 0 := this
          omega
        have hq : m.pts.cps = #[] := Array.eq_empty_of_size_eq_zero hz
        have : m.pts = ⟨#[]⟩ := by cases hm : m.pts with | mk c => rw [hm] at hq; exact congrArg Str.mk hq
        rw [this]
        decide +kernel
    dsimp only
    refine q_asg (v := .str m.head) ?_ fun H1 e1 => ?_
    refine ev_if (b := ((m.pts.length : Int) != 0)) ?_ (fun hb => ?_) (fun hb => ?_)
    · refine et_truth (K := K) (x := .str m.pts) ?_ ?_
      · exact ev_var rfl
      · exact fun H1 _ => ⟨sz_of (by omega), rfl⟩
    · have hne : ¬ m.pts = ("" : Str) := fun e => by rw [e0.mp e] at hb; cases hb
      have hh : m.head = ([m.lt, (toString m.num : String), ".", m.pts] : List Str).foldl (· ++ ·) Str.empty := by unfold MK.head; rw [if_neg hne]
      rw [hh]
      refine ev_joined (.cons (ev_fmtS (ev_var rfl) (by omega)) (.cons (ev_fmtI (ev_var rfl) hn) (.cons ev_c (.cons (ev_fmtS (ev_var rfl) (by omega)) .nil)))) ?_
      simp only [List.map_cons, List.map_nil, List.sum_cons, List.sum_nil, hp]
      omega
    · have he : m.pts = ("" : Str) := e0.mpr hb
      have hh : m.head = ([m.lt, (toString m.num : String)] : List Str).foldl (· ++ ·) Str.empty := by unfold MK.head; rw [if_pos he]
      rw [hh]
      refine ev_joined (.cons (ev_fmtS (ev_var rfl) (by omega)) (.cons (ev_fmtI (ev_var rfl) hn) .nil)) ?_
      simp only [List.map_cons, List.map_nil, List.sum_cons, List.sum_nil]
      omega
    · have hk := ok.k
      refine q_asgL (xs := .str m.head :: (m.mks.map V.str ++ [])) (el_lst (ea_cons (ev_var rfl) (ea_star (ev_var rfl) (ex_t e1 hma) ea_nil)) (by simp only [List.length_cons, List.length_append, List.length_map, List.length_nil]; omega)) fun p H2 hp2 e2 h2 => ?_
      rw [List.append_nil] at h2
      -- the year
      have hwl : ∀ s ∈ (m.head :: m.mks), s.length ≤ 5000 := fun s hs => by
        rcases List.mem_cons.mp hs with rfl | hs
        · exact hhl
        · have := (ok.ks s hs).2; omega
      have key : ∀ (ws : List Str) (H3 : Hp) (D : Ends) (σ : L2.St), D.rt = Q → σ[8]? = some (some (.ref p)) → Ex H H3 → H3 p = some (.lst (ws.map V.str)) → ws.length ≤ 6 → (∀ s ∈ ws, s.length ≤ 5000) → ws = m.words → tRet (tM1 (rJoin K) (tC (.str " ")) (tVar 8)) D σ H3 := by
        intro ws H3 D σ hD hσ e3 h3 hl hs hw
        have hsum : (ws.map (·.length)).sum ≤ 6 * 5000 := by
          have : ∀ (l : List Str), (∀ s ∈ l, s.length ≤ 5000) → (l.map (·.length)).sum ≤ l.length * 5000 := fun l => by
            induction l with
            | nil => intro _; simp
            | cons a l ih =>
              intro h
              have h1 := h a List.mem_cons_self
              have h2 := ih fun s hs => h s (List.mem_cons_of_mem _ hs)
              rw [List.map_cons, List.sum_cons, List.length_cons]
              omega
          have q := this ws hs
          omega
        have hb : ((" " : Str)).length = 1 := by decide +kernel
        refine ⟨⟨_, rfl⟩, _, hσ, _, p, ws, rfl, rfl, .inl (sq_of h3), ?_, ?_⟩
        · rw [hb]; omega
        · show D.rt (.str (Txt.join " " ws)) H3
          rw [hD, hw]
          exact k H3 e3
      have step2 : ∀ (ws : List Str) (H3 : Hp), Ex H H3 → H3 p = some (.lst (ws.map V.str)) → ws.length ≤ 5 → (∀ s ∈ ws, s.length ≤ 5000) → ws ++ (match m.cp with | none => [] | some c => [([("c." : Str), ((toString c : String) : Str)]).foldl (· ++ ·) Str.empty]) = m.words →
          ∀ {tz : TS}, (∀ (ws : List Str) (H3 : Hp), Ex H H3 → H3 p = some (.lst (ws.map V.str)) → ws.length ≤ 6 → (∀ s ∈ ws, s.length ≤ 5000) → ws = m.words → tz { nx := fun _ H' => Q .non H', rt := Q } [some (.ref pa), some (.str m.lt), some (.int m.num), some (.str m.pts), some (.ref ma), some (oi m.yr), some (oi m.cp), some (.str m.head), some (.ref p)] H3) →
          tSeq (tIfS (tTest (tOp (fun x y H Q => y = .non ∧ Q (.bl (!decide (x = .non))) H) (tVar 6) (tC .non))) (tDrop (tBM K "list" rAppend (tVar 8) (tCons (fun σ H Q => tJs [tC (.str "c."), tFmt (tVar 6)] Str.empty σ H fun out H1 => Q (.str out) H1) tNil))) tNext) tz
            { nx := fun _ H' => Q .non H', rt := Q } [some (.ref pa), some (.str m.lt), some (.int m.num), some (.str m.pts), some (.ref ma), some (oi m.yr), some (oi m.cp), some (.str m.head), some (.ref p)] H3 := by
        intro ws H3 e3 h3 hl hs hw tz kk
        cases hc : m.cp with
        | none =>
          rw [hc] at hw
          refine q_when (b := false) (et_test (ev_op (ev_var rfl) ev_c fun H1 e Q q => ⟨rfl, q H1 (Ex.refl _)⟩)) (fun h => nomatch h) fun _ H4 e4 => ?_
          rw [← hc]
          exact kk ws H4 (e3.trans e4) (e4 _ _ h3) (by omega) hs (by rw [← hw]; simp)
        | some c =>
          rw [hc] at hw
          have hcn := (ok.c c hc).2
          have hcl2 := int_len hcn
          refine q_when (b := true) (et_test (ev_op (ev_var rfl) ev_c fun H1 e Q q => ⟨rfl, q H1 (Ex.refl _)⟩)) (fun _ H4 e4 => ?_) fun h => nomatch h
          refine s_app (e4 _ _ h3) (ev_var rfl) (ev_joined (.cons ev_c (.cons (ev_fmtI (ev_var rfl) hcn) .nil)) (by simp only [List.map_cons, List.map_nil, List.sum_cons, List.sum_nil, hcl]; omega)) (by rw [List.length_map]; omega) fun H5 e5 => ?_
          show tz _ _ _
          rw [← hc]
          refine kk (ws ++ [([("c." : Str), ((toString c : String) : Str)]).foldl (· ++ ·) Str.empty]) _ (Ex.mut ((e3.trans e4).trans e5) (fresh_back e1 hp2)) (by rw [upd_same, List.map_append]; rfl) (by rw [List.length_append]; simp only [List.length_cons, List.length_nil]; omega) (fun s hs' => ?_) hw
          rcases List.mem_append.mp hs' with h | h
          · exact hs s h
          · rw [List.mem_singleton.mp h, fold_len]
            simp only [List.map_cons, List.map_nil, List.sum_cons, List.sum_nil, hcl]
            have : (Str.empty).length = 0 := rfl
            omega
      have fin : ∀ (ws : List Str) (H3 : Hp), Ex H H3 → H3 p = some (.lst (ws.map V.str)) → ws.length ≤ 6 → (∀ s ∈ ws, s.length ≤ 5000) → ws = m.words → tRet (tM1 (rJoin K) (tC (.str " ")) (tVar 8)) { nx := fun _ H' => Q .non H', rt := Q } [some (.ref pa), some (.str m.lt), some (.int m.num), some (.str m.pts), some (.ref ma), some (oi m.yr), some (oi m.cp), some (.str m.head), some (.ref p)] H3 :=
        fun ws H3 e3 h3 hl hs hw => key ws H3 _ _ rfl rfl e3 h3 hl hs hw
      cases hy : m.yr with
      | none =>
        refine q_when (b := false) (et_test (ev_op (ev_var rfl) ev_c fun H1 e Q q => ⟨rfl, q H1 (Ex.refl _)⟩)) (fun h => nomatch h) fun _ H4 e4 => ?_
        rw [← hy]
        exact step2 (m.head :: m.mks) H4 ((e1.trans e2).trans e4) (e4 _ _ h2) (by rw [List.length_cons]; omega) hwl (by unfold MK.words; rw [hy, List.append_nil]) fin
      | some y =>
        have hyn := (log2_small ⟨by have := ok.y y hy; omega, by have := ok.y y hy; omega⟩ : y.natAbs.log2 < 1920)
        have hyl := int_len hyn
        refine q_when (b := true) (et_test (ev_op (ev_var rfl) ev_c fun H1 e Q q => ⟨rfl, q H1 (Ex.refl _)⟩)) (fun _ H4 e4 => ?_) fun h => nomatch h
        refine s_app (xs := (m.head :: m.mks).map V.str) (e4 _ _ h2) (ev_var rfl) (ev_strI (ev_var rfl) hyn) (by rw [List.length_map, List.length_cons]; omega) fun H5 e5 => ?_
        show tSeq _ _ _ _ _
        rw [← hy]
        refine step2 ((m.head :: m.mks) ++ [((toString y : String) : Str)]) _ (Ex.mut (((e1.trans e2).trans e4).trans e5) (fresh_back e1 hp2)) (by rw [upd_same, List.map_append]; rfl) (by rw [List.length_append]; simp only [List.length_cons, List.length_nil]; omega) (fun s hs' => ?_) (by unfold MK.words; rw [hy]) fin
        rcases List.mem_append.mp hs' with h | h
        · exact hwl s h
        · rw [List.mem_singleton.mp h]; omega
/-- the makers as they are handed in: none, a list or a tuple of texts -/
def MkIn (H : Hp) (mk : V) (ks : List Str) : Prop := (mk = .non ∧ ks = []) ∨ ∃ a, mk = .ref a ∧ (H a = some (.lst (ks.map V.str)) ∨ H a = some (.tup (ks.map V.str)))
theorem MkIn.ex {H H' : Hp} {mk : V} {ks : List Str} (h : MkIn H mk ks) (e : Ex H H') : MkIn H' mk ks := by
  rcases h with h | ⟨a, h1, h2 | h2⟩
  · exact .inl h
  · exact .inr ⟨a, h1, .inl (e _ _ h2)⟩
  · exact .inr ⟨a, h1, .inr (e _ _ h2)⟩
theorem kit_lt {t : String} (h : t = "list" ∨ t = "tuple") : PySem.W.kitAny K (.type t) [.type "list", .type "tuple"] = some true := by
  rcases h with rfl | rfl
  · exact kitAny_cons (kit_ty (r := true) (by decide +kernel)) (fun h => nomatch h) (fun _ => rfl)
  · exact kitAny_cons (kit_ty (r := false) (by decide +kernel)) (fun _ => kitAny_cons (kit_ty (r := true) (by decide +kernel)) (fun h => nomatch h) (fun _ => rfl)) (fun h => nomatch h)

/-- a mark stands at x -/
def MarkAt (C : Addr) (H : Hp) (x : Addr) (m : MK) : Prop := ∃ dx pa ma, H x = some (.ins C dx [("_parts", .ref pa), ("_text", .str m.text)]) ∧ H pa = some (.tup (m.tup ma)) ∧ H ma = some (.tup (m.mks.map V.str))
theorem MarkAt.ex {C : Addr} {H H' : Hp} {x : Addr} {m : MK} (h : MarkAt C H x m) (e : Ex H H') : MarkAt C H' x m := by
  obtain ⟨dx, pa, ma, h1, h2, h3⟩ := h
  exact ⟨dx, pa, ma, e _ _ h1, e _ _ h2, e _ _ h3⟩
theorem whole_yes {i lo : Int} {hi : Option Int} (h1 : lo ≤ i) (h2 : ∀ h, hi = some h → i ≤ h) : whole (.int i) lo hi = true := by
  show (decide (lo ≤ i) && _) = true
  rw [decide_eq_true h1, Bool.true_and]
  cases hi with
  | none => rfl
  | some h => exact decide_eq_true (h2 h rfl)
def spMark (C : Addr) : Sp := fun vs H Q _ => ∃ (H0 : Hp) (x dx : Addr) (m : MK) (mk : V), vs = [.ref x, .str m.lt, .int m.num, .str m.pts, mk, oi m.yr, oi m.cp] ∧ m.Ok ∧ Ex H0 H ∧ H0 x = none ∧ H x = some (.ins C dx []) ∧ MkIn H mk m.mks ∧ ∀ H', Ex H0 H' → MarkAt C H' x m → Q .non H'

/-! ### a mark made of any parts of the right kinds, or refused -/
/-- what a refusal of v lets out: its class, its dict -/
def LetsOut (H : Hp) (C : Addr) (v : V) (E : XK) : Prop := ∀ H1, Ex H H1 → ∀ d, H1 d = none → E (.ref C) (some d) (upd H1 d (.xd [("found", v)]))
/-- any of these classes, of whatever was found -/
def LetsAny (H : Hp) (Cs : List Addr) (E : XK) : Prop := ∀ c ∈ Cs, ∀ v, LetsOut H c v E
theorem LetsAny.ex {H H1 : Hp} {Cs : List Addr} {E : XK} (h : LetsAny H Cs E) (e : Ex H H1) : LetsAny H1 Cs E := fun c hc v H2 e2 d hd => h c hc v H2 (e.trans e2) d hd
theorem mkA {C : Addr} {Cs : List Addr} {v : V} {ta : TA} {σ : L2.St} {H : Hp} {E : XK} (L : LetsAny H Cs E) (hc : C ∈ Cs) (h : EvA ta σ H [v]) : tMkO C (spXi C "found") [] ta σ H E := mkO_use h fun H1 e1 d hd => L C hc v H1 e1 d hd
theorem whole_iff {i lo hi : Int} : whole (.int i) lo (some hi) = (decide (lo ≤ i) && decide (i ≤ hi)) := rfl
theorem whole_iffN {i lo : Int} : whole (.int i) lo none = (decide (lo ≤ i) && true) := rfl
def spKeptA (Cs : List Addr) : Sp := fun vs H Q E => ∃ (mk : V) (ks : List Str), vs = [mk] ∧ MkIn H mk ks ∧ ks.length ≤ 1000 ∧ (∀ s ∈ ks, s.length ≤ 1000) ∧ (ks.length ≤ 3 → ks.all makerOk = true → ∀ p H2, Ex H H2 → H2 p = some (.tup (ks.map V.str)) → Q (.ref p) H2) ∧ (¬ (ks.length ≤ 3 ∧ ks.all makerOk = true) → LetsAny H Cs E)
abbrev cMks (Z : Adr) : List Addr := [Z.C_NoMakers, Z.C_NoMaker]
abbrev cAll (Z : Adr) : List Addr := [Z.C_NoLetters, Z.C_NoNumber, Z.C_NoPoints, Z.C_NoMakers, Z.C_NoMaker, Z.C_NoYear, Z.C_NoCopy, Z.C_NoText]
theorem ok_kept_makers (T : Txt K mg Z) : FnOk P w K mg base (L2N.CX P w) 5 Z.a_kept_makers Z.d_kept_makers ["makers"] (spKeptA (cMks Z)) := by
  refine okXN T.F_kept_makers sc_kept_makers (fun vs H Q E h => ?_) (fun cdv A outer s H vs Q E hr h => ?_)
  · obtain ⟨_, _, rfl, _⟩ := h; rfl
  · obtain ⟨mk, ks, rfl, hm, hl, hz, k, hE⟩ := h
    refine ⟨_, (pss_cons (ps_if (pt_cmpR op_isNq (pv 0) pe_non (nomark _)) (pss_one (ps_ret tup0)) pss_nil)
      (pss_cons (ps_if (PW.pt (pw_or (pt_not (pt_val (pe_callB (isiTK K) (by rfl) T.n_isinstance (by decide +kernel) (pa_cons (pv 0) (pa_cons (pe_tup (pa_cons (pe_bltn (v := .ty "list") (by rfl) T.n_list (by decide +kernel) rfl) (pa_cons (pe_bltn (v := .ty "tuple") (by rfl) T.n_tuple (by decide +kernel) rfl) pa_nil))) pa_nil))))) (pw_or1 (pt_cmpR op_gt (pe_callB (lenQ K) (by rfl) T.n_len (by decide +kernel) (pa_cons (pv 0) pa_nil)) pe_int (nomark _))))) (pss_one (L2N.ps_raise rfl (L2N.takes_of rfl rfl rfl rfl) (L2H.PMk5.pmk (pmk5_oex T.ox_NoMakers T.i_NoMakers T.ti_NoMakers (ok_NoMakers_init T) (hr.mono (by decide)) T.b_NoMakers_init .nil pass0 rfl T.g_NoMakers (pa_cons (pv 0) pa_nil))))) pss_nil)
      (pss_cons (ps_for (passes_of rfl) rfl (PI.or (pi_list (pv 0)) (pi_tup (pv 0))) (pg_name (i := 1) sc_kept_makers.nd rfl (.inl rfl)) (pss_one (ps_if (pt_not (pt_val (pe_call (ok_is_maker T) (hr.mono (by decide)) rfl T.g_is_maker T.F_is_maker.kp T.b_is_maker .nil pass0 (pa_cons (pv 1) pa_nil)))) (pss_one (L2N.ps_raise rfl (L2N.takes_of rfl rfl rfl rfl) (L2H.PMk5.pmk (pmk5_oex T.ox_NoMaker T.i_NoMaker T.ti_NoMaker (ok_NoMaker_init T) (hr.mono (by decide)) T.b_NoMaker_init .nil pass0 rfl T.g_NoMaker (pa_cons (pv 1) pa_nil))))) pss_nil)))
      (pss_one (ps_ret (pe_callTy (tupK K) (by rfl) T.n_tuple (by decide +kernel) (pa_cons (pv 0) pa_nil))))))), ?_⟩
    rcases hm with ⟨rfl, rfl⟩ | ⟨a, rfl, hm⟩
    · refine q_when (b := true) (et_test (ev_op (ev_var rfl) ev_c fun H1 e Q q => ⟨rfl, q H1 (Ex.refl _)⟩)) (fun _ H1 e1 => ?_) fun h => nomatch h
      exact ⟨Nat.zero_le _, fun p hp => k (Nat.zero_le _) rfl p _ (e1.trans (Ex.new hp)) upd_same⟩
    · refine q_when (b := false) (et_test (ev_op (ev_var rfl) ev_c fun H1 e Q q => ⟨rfl, q H1 (Ex.refl _)⟩)) (fun h => nomatch h) fun _ H1 e1 => ?_
      have hm1 : H1 a = some (.lst (ks.map V.str)) ∨ H1 a = some (.tup (ks.map V.str)) := hm.imp (e1 _ _) (e1 _ _)
      have go : ∀ H2, Ex H H2 → (H2 a = some (.lst (ks.map V.str)) ∨ H2 a = some (.tup (ks.map V.str))) → ∀ {tr tz : TS} {D : Ends}, (3 < ks.length → ∀ H3, Ex H H3 → tr D [some (.ref a), none] H3) → (ks.length ≤ 3 → ∀ H3, Ex H H3 → (H3 a = some (.lst (ks.map V.str)) ∨ H3 a = some (.tup (ks.map V.str))) → tz D [some (.ref a), none] H3) →
          (∀ H3, tr { D with nx := tz D } [some (.ref a), none] H3 = tr D [some (.ref a), none] H3) →
          tSeq (tIfS (tOr (tNot (tB (tCB (rIsiT K) (tCons (tVar 0) (tCons (tTup (tCons (tC (.ty "list")) (tCons (tC (.ty "tuple")) tNil))) tNil))))) (tTest (tOp (rI0 fun i j => .bl (decide (j < i))) (tCB (rLenS K) (tCons (tVar 0) tNil)) (tC (.int 3))))) tr tNext) tz D [some (.ref a), none] H2 := by
        intro H2 e2 h2 tr tz D kr kk eD
        refine ⟨_, rfl, by show 2 ≤ sizeLine; decide, fun p hp => ?_⟩
        have e3 : Ex H (upd H2 p (.tup [.ty "list", .ty "tuple"])) := e2.trans (Ex.new hp)
        have h3 : upd H2 p (.tup [.ty "list", .ty "tuple"]) a = some (.lst (ks.map V.str)) ∨ upd H2 p (.tup [.ty "list", .ty "tuple"]) a = some (.tup (ks.map V.str)) :=
          h2.imp (fun h => by rw [upd_ne (ne_of_none h hp)]; exact h) (fun h => by rw [upd_ne (ne_of_none h hp)]; exact h)
        have ty : ∃ t, (t = "list" ∨ t = "tuple") ∧ L2.TyX K (upd H2 p (.tup [.ty "list", .ty "tuple"])) (.ref a) (.type t) := by
          rcases h3 with h | h
          · exact ⟨"list", .inl rfl, .base (.lst h)⟩
          · exact ⟨"tuple", .inr rfl, .base (.tup h)⟩
        obtain ⟨t, ht, hty⟩ := ty
        refine ⟨_, p, [.ty "list", .ty "tuple"], _, [.type "list", .type "tuple"], true, rfl, upd_same, .cons (.ty _) (.cons (.ty _) .nil), hty, kit_lt ht, true, rfl, iteF ?_⟩
        refine ⟨_, rfl, a, ks.map V.str, rfl, h3.imp (fun h => sq_of h) (fun h => st_of h), _, _, rfl, rfl, _, rfl, ?_⟩
        rw [List.length_map]
        by_cases h4 : 3 < ks.length
        · rw [decide_eq_true (by omega)]
          refine iteT ?_
          rw [eD]
          exact kr h4 _ e3
        · rw [decide_eq_false (by omega)]
          exact iteF (kk (by omega) _ e3 h3)
      refine go H1 e1 hm1 (fun h4 H2 e2 => ?_) (fun h4 H2 e2 h2 => ?_) (fun _ => rfl)
      · exact mkA (hE (fun z => by omega) |>.ex e2) List.mem_cons_self (ea_cons (ev_var rfl) ea_nil)
      have hP : ∀ (s0 : Str) (H3 : Hp) (D : Ends) (tr : TS), s0 ∈ ks → (makerOk s0 = false → ∀ H4, Ex H3 H4 → tr D [some (.ref a), some (.str s0)] H4) → (makerOk s0 = true → ∀ H4, Ex H3 H4 → D.nx [some (.ref a), some (.str s0)] H4) → tIfS (tNot (tB (tCall (spMaker K) [] E0 (tCons (tVar 1) tNil)))) tr tNext D [some (.ref a), some (.str s0)] H3 := by
        intro s0 H3 D tr hm0 k0 k1
        have hsz := hz s0 hm0
        cases hk : makerOk s0 with
        | true => exact s_when (b := false) (et_not (a := true) (et_B (ev_is (ev_call (ea_cons (ev_var rfl) ea_nil) (sp_maker (t := s0) (by omega))) (by rw [hk])))) (fun h => nomatch h) fun _ H4 e4 => k1 hk H4 e4
        | false => exact s_when (b := true) (et_not (a := false) (et_B (ev_is (ev_call (ea_cons (ev_var rfl) ea_nil) (sp_maker (t := s0) (by omega))) (by rw [hk])))) (fun _ H4 e4 => k0 hk H4 e4) fun h => nomatch h
      have all1 : ∀ {i : Nat} {s : Str}, ks[i]? = some s → (ks.take i).all makerOk = true → makerOk s = true → (ks.take (i + 1)).all makerOk = true := fun {i s} hi h hs => by
        rw [List.take_add_one, hi, List.all_append, h]
        show (true && [s].all makerOk) = true
        rw [Bool.true_and, List.all_cons, hs]
        rfl
      have no : ∀ {i : Nat} {s : Str}, ks[i]? = some s → makerOk s = false → ¬ (ks.length ≤ 3 ∧ ks.all makerOk = true) := fun {i s} hi hs h => by
        have := List.all_eq_true.mp h.2 s (List.mem_of_getElem? hi)
        rw [hs] at this
        cases this
      rcases h2 with h2 | h2
      · refine .inl ⟨_, rfl, a, rfl, ⟨_, sq_of h2⟩, for_list (K := K) (a := a) (xs := ks.map V.str) (fun i σ H' => (∃ v, σ = [some (.ref a), v]) ∧ Ex H H' ∧ (ks.take i).all makerOk = true ∧ H' a = some (.lst (ks.map V.str))) ⟨⟨none, rfl⟩, e2, rfl, h2⟩ (fun i σ H' _ h => sq_of h.2.2.2) ?_ ?_⟩
        · rintro i x σ H' hi ⟨⟨v, rfl⟩, e3, al, h3⟩
          rw [List.getElem?_map] at hi
          obtain ⟨s0, hs0, rfl⟩ := Option.map_eq_some_iff.mp hi
          dsimp only [gName]
          refine hP s0 H' _ _ (List.mem_of_getElem? hs0) (fun hk H4 e4 => ?_) (fun hk H4 e4 => ?_)
          · exact mkA ((hE (no hs0 hk)).ex (e3.trans e4)) (List.mem_cons_of_mem _ List.mem_cons_self) (ea_cons (ev_var rfl) ea_nil)
          · exact ⟨⟨_, rfl⟩, e3.trans e4, all1 hs0 al hk, e4 _ _ h3⟩
        · rintro σ H' ⟨⟨v, rfl⟩, e3, al, h3⟩
          rw [List.length_map, List.take_length] at al
          exact ⟨_, rfl, a, _, rfl, .inl ⟨sq_of h3, fun l hl => k h4 al l _ (e3.trans (Ex.new hl)) upd_same⟩⟩
      · refine .inr ⟨_, rfl, a, rfl, ⟨_, st_of h2⟩, for_tup (K := K) (a := a) (xs := ks.map V.str) (fun i σ H' => (∃ v, σ = [some (.ref a), v]) ∧ Ex H H' ∧ (ks.take i).all makerOk = true ∧ H' a = some (.tup (ks.map V.str))) ⟨⟨none, rfl⟩, e2, rfl, h2⟩ (fun i σ H' _ h => st_of h.2.2.2) ?_ ?_⟩
        · rintro i x σ H' hi ⟨⟨v, rfl⟩, e3, al, h3⟩
          rw [List.getElem?_map] at hi
          obtain ⟨s0, hs0, rfl⟩ := Option.map_eq_some_iff.mp hi
          dsimp only [gName]
          refine hP s0 H' _ _ (List.mem_of_getElem? hs0) (fun hk H4 e4 => ?_) (fun hk H4 e4 => ?_)
          · exact mkA ((hE (no hs0 hk)).ex (e3.trans e4)) (List.mem_cons_of_mem _ List.mem_cons_self) (ea_cons (ev_var rfl) ea_nil)
          · exact ⟨⟨_, rfl⟩, e3.trans e4, all1 hs0 al hk, e4 _ _ h3⟩
        · rintro σ H' ⟨⟨v, rfl⟩, e3, al, h3⟩
          rw [List.length_map, List.take_length] at al
          exact ⟨_, rfl, a, _, rfl, .inr ⟨st_of h3, k h4 al a H' e3 h3⟩⟩
def spMarkA (C : Addr) (Cs : List Addr) : Sp := fun vs H Q E => ∃ (H0 : Hp) (x dx : Addr) (m : MK) (mk : V), vs = [.ref x, .str m.lt, .int m.num, .str m.pts, mk, oi m.yr, oi m.cp] ∧ (m.lt.length ≤ 1000 ∧ m.pts.length ≤ 1000 ∧ m.mks.length ≤ 1000 ∧ (∀ s ∈ m.mks, s.length ≤ 1000) ∧ ∀ c, m.cp = some c → c.natAbs.log2 < 1920) ∧ Ex H0 H ∧ H0 x = none ∧ H x = some (.ins C dx []) ∧ MkIn H mk m.mks ∧
  (m.Ok → ∀ H', Ex H0 H' → MarkAt C H' x m → Q .non H') ∧ (¬ m.Ok → LetsAny H Cs E)
theorem ok_Mark_init (T : Txt K mg Z) : FnOk P w K mg base (L2N.CX P w) 6 Z.a_Mark_init Z.d_Mark_init ["self", "letters", "number", "points", "makers", "year", "copy"] (spMarkA Z.C_Mark (cAll Z)) := by
  refine T.F_Mark_init.ok sc_Mark_init (fun vs H Q E h => ?_) (fun cdv A outer s H vs Q E hr h => ?_)
  · obtain ⟨_, _, _, _, _, rfl, _⟩ := h; rfl
  · obtain ⟨H0, x, dx, m, mk, rfl, ⟨z1, z2, z3, z4, z5⟩, e0, hx0, hx, hmk, k, kE⟩ := h
    refine ⟨_, (pss_cons (ps_if (pt_not (pt_val (pe_call (ok_is_letters T) (hr.mono (by decide)) rfl T.g_is_letters T.F_is_letters.kp T.b_is_letters .nil pass0 (pa_cons (pv 1) (pa_cons pe_int pa_nil))))) (pss_one (L2N.ps_raise rfl (L2N.takes_of rfl rfl rfl rfl) (L2H.PMk5.pmk (pmk5_oex T.ox_NoLetters T.i_NoLetters T.ti_NoLetters (ok_NoLetters_init T) (hr.mono (by decide)) T.b_NoLetters_init .nil pass0 rfl T.g_NoLetters (pa_cons (pv 1) pa_nil))))) pss_nil)
      (pss_cons (ps_if (pt_not (pt_val (pe_call (ok_is_whole T) (hr.mono (by decide)) rfl T.g_is_whole T.F_is_whole.kp T.b_is_whole .nil pass0 (pa_cons (pv 2) (pa_cons pe_int (pa_cons pe_int pa_nil)))))) (pss_one (L2N.ps_raise rfl (L2N.takes_of rfl rfl rfl rfl) (L2H.PMk5.pmk (pmk5_oex T.ox_NoNumber T.i_NoNumber T.ti_NoNumber (ok_NoNumber_init T) (hr.mono (by decide)) T.b_NoNumber_init .nil pass0 rfl T.g_NoNumber (pa_cons (pv 2) pa_nil))))) pss_nil)
      (pss_cons (ps_if (pt_not (pt_val (pe_call (ok_is_points T) (hr.mono (by decide)) rfl T.g_is_points T.F_is_points.kp T.b_is_points .nil pass0 (pa_cons (pv 3) pa_nil)))) (pss_one (L2N.ps_raise rfl (L2N.takes_of rfl rfl rfl rfl) (L2H.PMk5.pmk (pmk5_oex T.ox_NoPoints T.i_NoPoints T.ti_NoPoints (ok_NoPoints_init T) (hr.mono (by decide)) T.b_NoPoints_init .nil pass0 rfl T.g_NoPoints (pa_cons (pv 3) pa_nil))))) pss_nil)
      (pss_cons (ps_set (i := 7) sc_Mark_init.nd rfl (.inl rfl) (pe_call (ok_kept_makers T) (hr.mono (by decide)) rfl T.g_kept_makers T.F_kept_makers.kp T.b_kept_makers .nil (passEN (L2N.takes_of rfl rfl rfl rfl)) (pa_cons (pv 4) pa_nil)))
      (pss_cons (ps_if (PW.pt (pw_and (pt_cmpR op_notNq (pv 5) pe_non (nomark _)) (pw_and1 (pt_not (pt_val (pe_call (ok_is_whole T) (hr.mono (by decide)) rfl T.g_is_whole T.F_is_whole.kp T.b_is_whole .nil pass0 (pa_cons (pv 5) (pa_cons pe_int (pa_cons pe_int pa_nil))))))))) (pss_one (L2N.ps_raise rfl (L2N.takes_of rfl rfl rfl rfl) (L2H.PMk5.pmk (pmk5_oex T.ox_NoYear T.i_NoYear T.ti_NoYear (ok_NoYear_init T) (hr.mono (by decide)) T.b_NoYear_init .nil pass0 rfl T.g_NoYear (pa_cons (pv 5) pa_nil))))) pss_nil)
      (pss_cons (ps_if (PW.pt (pw_and (pt_cmpR op_notNq (pv 6) pe_non (nomark _)) (pw_and1 (pt_not (pt_val (pe_callD (ok_is_whole T) (hr.mono (by decide)) rfl T.g_is_whole T.F_is_whole.kp T.b_is_whole_2 pass0 (pa_cons (pv 6) (pa_cons pe_int pa_nil)))))))) (pss_one (L2N.ps_raise rfl (L2N.takes_of rfl rfl rfl rfl) (L2H.PMk5.pmk (pmk5_oex T.ox_NoCopy T.i_NoCopy T.ti_NoCopy (ok_NoCopy_init T) (hr.mono (by decide)) T.b_NoCopy_init .nil pass0 rfl T.g_NoCopy (pa_cons (pv 6) pa_nil))))) pss_nil)
      (pss_cons (ps_fld (pv 0) (pe_tup (pa_cons (pv 1) (pa_cons (pv 2) (pa_cons (pv 3) (pa_cons (pv 7) (pa_cons (pv 5) (pa_cons (pv 6) pa_nil))))))) rfl)
      (pss_one (ps_fld (pv 0) (pe_call (ok_text_of T) (hr.mono (by decide)) rfl T.g_text_of T.F_text_of.kp T.b_text_of .nil pass0 (pa_cons (fldK K (pv 0) rfl) pa_nil)) rfl))))))))), ?_⟩
    cases hl : lettersOk m.lt 3 with
    | false =>
      refine q_when (b := true) (et_not (a := false) (et_B (ev_is (ev_call (ea_cons (ev_var rfl) (ea_cons ev_c ea_nil)) (sp_letters (by omega))) (by rw [hl])))) (fun _ H1 e1 => ?_) (fun h => nomatch h)
      exact mkA ((kE fun ok => by rw [ok.l] at hl; cases hl).ex e1) (by simp) (ea_cons (ev_var rfl) ea_nil)
    | true =>
    refine q_when (b := false) (et_not (a := true) (et_B (ev_is (ev_call (ea_cons (ev_var rfl) (ea_cons ev_c ea_nil)) (sp_letters (by omega))) (by rw [hl])))) (fun h => nomatch h) fun _ H1 e1 => ?_
    cases hn : whole (.int m.num) 1 (some 9999) with
    | false =>
      refine q_when (b := true) (et_not (a := false) (et_B (ev_is (ev_call (ea_cons (ev_var rfl) (ea_cons ev_c (ea_cons ev_c ea_nil))) (sp_whole (hi := some 9999) kni_int)) (by rw [hn])))) (fun _ H2 e2 => ?_) (fun h => nomatch h)
      exact mkA ((kE fun ok => by rw [whole_yes ok.n.1 (fun h q => by cases q; exact ok.n.2)] at hn; cases hn).ex (e1.trans e2)) (by simp) (ea_cons (ev_var rfl) ea_nil)
    | true =>
    refine q_when (b := false) (et_not (a := true) (et_B (ev_is (ev_call (ea_cons (ev_var rfl) (ea_cons ev_c (ea_cons ev_c ea_nil))) (sp_whole (hi := some 9999) kni_int)) (by rw [hn])))) (fun h => nomatch h) fun _ H2 e2 => ?_
    cases hp : pointsOk m.pts with
    | false =>
      refine q_when (b := true) (et_not (a := false) (et_B (ev_is (ev_call (ea_cons (ev_var rfl) ea_nil) (sp_points (by omega))) (by rw [hp])))) (fun _ H3 e3 => ?_) (fun h => nomatch h)
      exact mkA ((kE fun ok => by rw [ok.p] at hp; cases hp).ex ((e1.trans e2).trans e3)) (by simp) (ea_cons (ev_var rfl) ea_nil)
    | true =>
    refine q_when (b := false) (et_not (a := true) (et_B (ev_is (ev_call (ea_cons (ev_var rfl) ea_nil) (sp_points (by omega))) (by rw [hp])))) (fun h => nomatch h) fun _ H3 e3 => ?_
    have eH3 := (e1.trans e2).trans e3
    have e03 := e0.trans eH3
    have hx3 := eH3 _ _ hx
    refine ⟨_, rfl, mk, m.mks, rfl, hmk.ex eH3, z3, z4, fun hk hks ma H4 e4 h4 => ?_, fun hno => fun c hc => (kE fun ok => hno ⟨ok.k, List.all_eq_true.mpr fun s hs => (ok.ks s hs).1⟩).ex eH3 c (by
      rcases List.mem_cons.mp hc with rfl | hc
      · simp
      · rcases List.mem_cons.mp hc with rfl | hc
        · simp
        · cases hc)⟩
    have e04 := e03.trans e4
    have hx4 := e4 _ _ hx3
    dsimp only [gName]
    have eH4 : Ex H H4 := eH3.trans e4
    have hnn : 1 ≤ m.num ∧ m.num ≤ 9999 := by
      rw [whole_iff, Bool.and_eq_true, decide_eq_true_eq, decide_eq_true_eq] at hn
      exact hn
    -- the year
    by_cases hY : ∀ y, m.yr = some y → 1000 ≤ y ∧ y ≤ 2999
    rotate_left
    · obtain ⟨y, hy⟩ : ∃ y, m.yr = some y := by
        cases hy : m.yr with
        | none => exact absurd (fun y h => by rw [hy] at h; cases h) hY
        | some y => exact ⟨y, rfl⟩
      have hw : whole (.int y) 1000 (some 2999) = false := by
        cases hw : whole (.int y) 1000 (some 2999) with
        | false => rfl
        | true =>
          rw [whole_iff, Bool.and_eq_true, decide_eq_true_eq, decide_eq_true_eq] at hw
          exact absurd (fun y' h => by rw [hy] at h; cases h; exact hw) hY
      have kE' := (kE fun ok => hY ok.y).ex eH4
      rw [hy]
      refine q_when (b := true) (et_and (a := true) (b := true) (et_test (ev_op (ev_var rfl) ev_c fun H1 e Q q => ⟨rfl, q H1 (Ex.refl _)⟩)) (fun _ => et_not (a := false) (et_B (ev_is (ev_call (ea_cons (ev_var rfl) (ea_cons ev_c (ea_cons ev_c ea_nil))) (sp_whole (x := .int y) (hi := some 2999) kni_int)) (by rw [hw]))))) (fun _ H5 e5 => ?_) (fun h => nomatch h)
      exact mkA (kE'.ex e5) (by simp) (ea_cons (ev_var rfl) ea_nil)
    refine q_when (b := false) ?_ (fun h => nomatch h) fun _ H5 e5 => ?_
    · cases hy : m.yr with
      | none => exact et_and (a := false) (b := false) (et_test (ev_op (ev_var rfl) ev_c fun H1 e Q q => ⟨rfl, q H1 (Ex.refl _)⟩)) (fun h => nomatch h)
      | some y => exact et_and (a := true) (b := false) (et_test (ev_op (ev_var rfl) ev_c fun H1 e Q q => ⟨rfl, q H1 (Ex.refl _)⟩)) (fun _ => et_not (a := true) (et_B (ev_is (ev_call (ea_cons (ev_var rfl) (ea_cons ev_c (ea_cons ev_c ea_nil))) (sp_whole (x := .int y) (hi := some 2999) kni_int)) (by rw [whole_yes (hY y hy).1 (fun h q => by cases q; exact (hY y hy).2)]))))
    -- the copy
    by_cases hC : ∀ c, m.cp = some c → 2 ≤ c
    rotate_left
    · obtain ⟨c, hc⟩ : ∃ c, m.cp = some c := by
        cases hc : m.cp with
        | none => exact absurd (fun y h => by rw [hc] at h; cases h) hC
        | some y => exact ⟨y, rfl⟩
      have hw : whole (.int c) 2 none = false := by
        cases hw : whole (.int c) 2 none with
        | false => rfl
        | true =>
          rw [whole_iffN, Bool.and_true, decide_eq_true_eq] at hw
          exact absurd (fun y' h => by rw [hc] at h; cases h; exact hw) hC
      have kE' := (kE fun ok => hC fun c h => (ok.c c h).1).ex eH4
      rw [hc]
      refine q_when (b := true) (et_and (a := true) (b := true) (et_test (ev_op (ev_var rfl) ev_c fun H1 e Q q => ⟨rfl, q H1 (Ex.refl _)⟩)) (fun _ => et_not (a := false) (et_B (ev_is (ev_call (ea_cons (ev_var rfl) (ea_cons ev_c ea_nil)) (sp_whole (x := .int c) (hi := none) kni_int)) (by rw [hw]))))) (fun _ H6 e6 => ?_) (fun h => nomatch h)
      exact mkA (kE'.ex (e5.trans e6)) (by simp) (ea_cons (ev_var rfl) ea_nil)
    refine q_when (b := false) ?_ (fun h => nomatch h) fun _ H6 e6 => ?_
    · cases hc : m.cp with
      | none => exact et_and (a := false) (b := false) (et_test (ev_op (ev_var rfl) ev_c fun H1 e Q q => ⟨rfl, q H1 (Ex.refl _)⟩)) (fun h => nomatch h)
      | some c => exact et_and (a := true) (b := false) (et_test (ev_op (ev_var rfl) ev_c fun H1 e Q q => ⟨rfl, q H1 (Ex.refl _)⟩)) (fun _ => et_not (a := true) (et_B (ev_is (ev_call (ea_cons (ev_var rfl) (ea_cons ev_c ea_nil)) (sp_whole (x := .int c) (hi := none) kni_int)) (by rw [whole_yes (hi := none) (hC c hc) (fun h q => nomatch q)]))))
    have ok : m.Ok := ⟨hl, hnn, hp, z2, hk, fun s hs => ⟨List.all_eq_true.mp hks s hs, z4 s hs⟩, hY, fun c hc => ⟨hC c hc, z5 c hc⟩⟩
    have s6 : ST H0 H6 [(x, .ins Z.C_Mark dx [])] := ⟨(e04.trans e5).trans e6, fun p hp => by
      rcases List.mem_singleton.mp hp with rfl
      exact ⟨hx0, e6 _ _ (e5 _ _ hx4)⟩, List.pairwise_singleton ..⟩
    have h6 := e6 _ _ (e5 _ _ h4)
    -- the parts
    refine q_fldU (xs := m.tup ma) (eu_tup (ea_cons (ev_var rfl) (ea_cons (ev_var rfl) (ea_cons (ev_var rfl) (ea_cons (ev_var rfl) (ea_cons (ev_var rfl) (ea_cons (ev_var rfl) ea_nil)))))) (by show 6 ≤ 100000; decide)) (ev_var rfl) s6.at1 T.cl_Mark T.na_Mark_parts (by simp) fun pa H7 hpa e7 h7 => ?_
    have s7 := s6.ext e7
    have nx : x ≠ pa := ne_of_none s6.at1 hpa
    have nm : ma ≠ x := ne_of h6 s6.at1 (by intro z; cases z)
    have f7 : putF "_parts" (.ref pa) [] = [(("_parts" : Str), V.ref pa)] := by kernel_rfl
    rw [f7]
    have s8 := s7.set (u := .ins Z.C_Mark dx [(("_parts" : Str), V.ref pa)])
    have h8 : upd H7 x (.ins Z.C_Mark dx [(("_parts" : Str), V.ref pa)]) pa = some (.tup (m.tup ma)) := by rw [upd_ne nx.symm]; exact h7
    have h9 : upd H7 x (.ins Z.C_Mark dx [(("_parts" : Str), V.ref pa)]) ma = some (.tup (m.mks.map V.str)) := by rw [upd_ne nm]; exact e7 _ _ h6
    refine s_fld (v := .str m.text) (ev_call (ea_cons (ev_fld (ev_var rfl) s8.at1 T.cl_Mark T.na_Mark_parts (by kernel_rfl)) ea_nil) (fun H1 e Q q E => ⟨pa, ma, m, rfl, st_of (e _ _ h8), st_of (e _ _ h9), ok, q⟩)) (ev_var rfl) s8.at1 T.cl_Mark T.na_Mark_text (by simp) fun H9 e9 => ?_
    have f9 : putF "_text" (.str m.text) [(("_parts" : Str), V.ref pa)] = [(("_parts" : Str), V.ref pa), ("_text", .str m.text)] := by kernel_rfl
    rw [f9]
    have s9 := (s8.ext e9).set (u := .ins Z.C_Mark dx [(("_parts" : Str), V.ref pa), ("_text", .str m.text)])
    exact k ok _ s9.e ⟨dx, pa, ma, upd_same, by rw [upd_ne nx.symm]; exact e9 _ _ h8, by rw [upd_ne nm]; exact e9 _ _ h9⟩

/-! what a mark tells -/
def oD : Option Int → PyData
  | none => .none
  | some i => .int i
def MK.data (m : MK) : PyData := .tuple [.str m.lt, .int m.num, .str m.pts, .tuple (m.mks.map PyData.str), oD m.yr, oD m.cp]
def MK.kdata (m : MK) : PyData := .tuple [.str m.lt, .int m.num, .str m.pts, .tuple (m.mks.map PyData.str), .int (m.yr.getD 0), .int (m.cp.getD 0)]
def MK.ktup (m : MK) (ma : Addr) : List V := [.str m.lt, .int m.num, .str m.pts, .ref ma, .int (m.yr.getD 0), .int (m.cp.getD 0)]
theorem dp_strs {H : Hp} : ∀ ks : List Str, DpAll K H (ks.map V.str) (ks.map PyData.str)
  | [] => .nil
  | s :: ks => .cons (.str s) (dp_strs ks)
theorem dp_oi {H : Hp} (o : Option Int) : Dp K H (oi o) (oD o) := by
  cases o with
  | none => exact .non
  | some y => exact .int y
theorem dp_data {H : Hp} {pa ma : Addr} {m : MK} (h1 : H pa = some (.tup (m.tup ma))) (h2 : H ma = some (.tup (m.mks.map V.str))) : Dp K H (.ref pa) m.data :=
  .tup (st_of h1) (.cons (.str _) (.cons (.int _) (.cons (.str _) (.cons (.tup (st_of h2) (dp_strs _)) (.cons (dp_oi _) (.cons (dp_oi _) .nil))))))
theorem dp_kdata {H : Hp} {pa ma : Addr} {m : MK} (h1 : H pa = some (.tup (m.ktup ma))) (h2 : H ma = some (.tup (m.mks.map V.str))) : Dp K H (.ref pa) m.kdata :=
  .tup (st_of h1) (.cons (.str _) (.cons (.int _) (.cons (.str _) (.cons (.tup (st_of h2) (dp_strs _)) (.cons (.int _) (.cons (.int _) .nil))))))
theorem depth_strs : ∀ ks : List Str, PyData.depthAll (ks.map PyData.str) = 0
  | [] => by simp [PyData.depthAll]
  | s :: ks => by simp [PyData.depthAll, PyData.depth, depth_strs ks]
theorem alike_strs : ∀ ks js : List Str, PySem.W.alikeAll (ks.map PyData.str) (js.map PyData.str) = true
  | [], _ => by simp [PySem.W.alikeAll]
  | _ :: _, [] => by simp [PySem.W.alikeAll]
  | s :: ks, t :: js => by simp [PySem.W.alikeAll, PySem.W.alike, alike_strs ks js]
theorem kalike (m n : MK) : PySem.W.alike m.kdata n.kdata = true := by
  unfold MK.kdata
  simp [PySem.W.alike, PySem.W.alikeAll, alike_strs]
theorem kdepth (m : MK) : m.kdata.depth ≤ 60 := by
  unfold MK.kdata
  simp [PyData.depth, PyData.depthAll, depth_strs]
def strsOk (m : MK) : Prop := PyData.strOk m.lt = true ∧ PyData.strOk m.pts = true ∧ ∀ s ∈ m.mks, PyData.strOk s = true
theorem lay_strs : ∀ ks : List Str, (∀ s ∈ ks, PyData.strOk s = true) → PyData.canLayAll0 (ks.map PyData.str) = true
  | [], _ => by simp [PyData.canLayAll0]
  | s :: ks, h => by simp [PyData.canLayAll0, PyData.canLay0, h s List.mem_cons_self, lay_strs ks fun t ht => h t (List.mem_cons_of_mem _ ht)]
end

/-! ### equal marks, the order of two -/
theorem eqvAll_strs : ∀ ks js : List Str, PyData.eqvAll (ks.map PyData.str) (js.map PyData.str) = decide (ks = js)
  | [], [] => by simp [PyData.eqvAll]
  | [], _ :: _ => by simp [PyData.eqvAll]
  | _ :: _, [] => by simp [PyData.eqvAll]
  | s :: ks, t :: js => by
    rw [List.map_cons, List.map_cons, PyData.eqvAll, eqvAll_strs ks js, PyData.eqv]
    by_cases h1 : s = t
    · by_cases h2 : ks = js
      · simp [h1, h2]
      · simp [h1, h2]
    · simp [h1]
def kE (m n : MK) : Bool := decide (m.lt = n.lt) && (decide (m.num = n.num) && (decide (m.pts = n.pts) && (decide (m.mks = n.mks) && (decide (m.yr.getD 0 = n.yr.getD 0) && decide (m.cp.getD 0 = n.cp.getD 0)))))
theorem beq_dec {α : Type} [DecidableEq α] (a b : α) : (a == b) = decide (a = b) := by
  by_cases h : a = b
  · subst h; simp
  · simp [h]
theorem eqv_k (m n : MK) : PyData.eqv m.kdata n.kdata = kE m n := by
  unfold MK.kdata kE
  simp only [PyData.eqv, PyData.eqvAll, eqvAll_strs, beq_dec, Bool.and_true]
theorem eqv_oi (o o' : Option Int) : (∀ i, o = some i → i ≠ 0) → (∀ i, o' = some i → i ≠ 0) →
    PyData.eqv (oD o) (oD o') = decide (o.getD 0 = o'.getD 0) := by
  intro h h'
  cases o with
  | none =>
    cases o' with
    | none => simp [oD, PyData.eqv]
    | some j =>
      have := h' j rfl
      simp only [oD, PyData.eqv, Option.getD]
      exact (decide_eq_false (fun e => this e.symm)).symm
  | some i =>
    have := h i rfl
    cases o' with
    | none =>
      simp only [oD, PyData.eqv, Option.getD]
      exact (decide_eq_false this).symm
    | some j => simp only [oD, PyData.eqv, Option.getD, beq_dec]
theorem eqv_d {m n : MK} (okm : m.Ok) (okn : n.Ok) : PyData.eqv m.data n.data = kE m n := by
  unfold MK.data kE
  simp only [PyData.eqvAll, PyData.eqv, eqvAll_strs, beq_dec, Bool.and_true]
  rw [eqv_oi m.yr n.yr (fun i h => by have := okm.y i h; omega) (fun i h => by have := okn.y i h; omega), eqv_oi m.cp n.cp (fun i h => by have := (okm.c i h).1; omega) (fun i h => by have := (okn.c i h).1; omega)]
theorem kE_symm (m n : MK) : kE m n = kE n m := by
  unfold kE
  simp only [eq_comm]
theorem kE_iff (m n : MK) : kE m n = true ↔ m.kdata = n.kdata := by
  unfold kE MK.kdata
  simp only [Bool.and_eq_true, decide_eq_true_eq, PyData.tuple.injEq, List.cons.injEq, PyData.str.injEq, PyData.int.injEq, and_true]
  constructor
  · rintro ⟨h1, h2, h3, h4, h5, h6⟩
    exact ⟨h1, h2, h3, by rw [h4], h5, h6⟩
  · rintro ⟨h1, h2, h3, h4, h5, h6⟩
    have inj : ∀ ks js : List Str, ks.map PyData.str = js.map PyData.str → ks = js := fun ks => by
      induction ks with
      | nil => intro js h; cases js with | nil => rfl | cons _ _ => cases h
      | cons k ks ih =>
        intro js h
        cases js with
        | nil => cases h
        | cons j js =>
          rw [List.map_cons, List.map_cons] at h
          injection h with a b
          injection a with a
          rw [a, ih js b]
    exact ⟨h1, h2, h3, inj _ _ h4, h5, h6⟩
theorem toks_strs : ∀ (ks js : List Str) (A B : List (Int ⊕ List Nat)), PySem.W.keyToksAll (ks.map PyData.str) ++ A = PySem.W.keyToksAll (js.map PyData.str) ++ B → ks = js ∧ A = B
  | [], [], A, B, h => by
    simp only [List.map_nil, PySem.W.keyToksAll, List.cons_append, List.nil_append, List.cons.injEq, true_and] at h
    exact ⟨rfl, h⟩
  | [], _ :: _, A, B, h => by simp [PySem.W.keyToksAll] at h
  | _ :: _, [], A, B, h => by simp [PySem.W.keyToksAll] at h
  | s :: ks, t :: js, A, B, h => by
    simp only [List.map_cons, PySem.W.keyToksAll, PySem.W.keyToks, List.cons_append, List.nil_append, List.append_assoc, List.cons.injEq, true_and, Sum.inr.injEq] at h
    obtain ⟨h1, h2⟩ := h
    obtain ⟨e1, e2⟩ := toks_strs ks js A B h2
    exact ⟨by rw [PySem.W.str_of_cps h1, e1], e2⟩
theorem toks_inj {m n : MK} (h : PySem.W.keyToks m.kdata = PySem.W.keyToks n.kdata) : kE m n = true := by
  unfold MK.kdata at h
  simp only [PySem.W.keyToks, PySem.W.keyToksAll, List.cons_append, List.nil_append, List.cons.injEq, true_and, Sum.inr.injEq, Sum.inl.injEq] at h
  obtain ⟨h1, h2, h3, h4⟩ := h
  obtain ⟨e1, e2⟩ := toks_strs _ _ _ _ h4
  simp only [List.cons.injEq, true_and, Sum.inl.injEq] at e2
  unfold kE
  rw [PySem.W.str_of_cps h1, h2, PySem.W.str_of_cps h3, e1, e2.1, e2.2.1]
  simp
theorem lt_flip {m n : MK} (h : kE m n = false) : PySem.W.dataLt n.kdata m.kdata = !PySem.W.dataLt m.kdata n.kdata := by
  unfold PySem.W.dataLt
  cases h1 : PyProof.Rows.lexLt itemOrd (PySem.W.keyToks m.kdata) (PySem.W.keyToks n.kdata) with
  | true =>
    cases h2 : PyProof.Rows.lexLt itemOrd (PySem.W.keyToks n.kdata) (PySem.W.keyToks m.kdata) with
    | true =>
      have := PyProof.Rows.lex_trans _ _ _ h1 h2
      rw [PyProof.Rows.lex_irrefl] at this
      cases this
    | false => rfl
  | false =>
    cases h2 : PyProof.Rows.lexLt itemOrd (PySem.W.keyToks n.kdata) (PySem.W.keyToks m.kdata) with
    | true => rfl
    | false =>
      have := toks_inj (PyProof.Rows.lex_total _ _ h1 h2)
      rw [h] at this
      cases this
theorem lt_same {m n : MK} (h : kE m n = true) : PySem.W.dataLt m.kdata n.kdata = false := by
  rw [(kE_iff m n).mp h]
  exact PyProof.Rows.lex_irrefl _
def ordI (m n : MK) : Int := if kE m n = true then 0 else if PySem.W.dataLt m.kdata n.kdata = true then -1 else 1
theorem ordI_flip (m n : MK) : ordI n m = -ordI m n := by
  unfold ordI
  rw [kE_symm n m]
  cases h : kE m n with
  | true => rfl
  | false =>
    rw [if_neg Bool.false_ne_true, if_neg Bool.false_ne_true, lt_flip h]
    cases PySem.W.dataLt m.kdata n.kdata <;> rfl
theorem strOk_of {t s : Str} (h : allIn t s = true) (hs : s.cps.toList.all (fun c => decide (c < 0x110000)) = true) : PyData.strOk t = true := by
  unfold PyData.strOk
  rw [← Array.all_toList]
  refine List.all_eq_true.mpr fun c hc => ?_
  have h1 := List.all_eq_true.mp h c hc
  exact List.all_eq_true.mp hs c (of_decide_eq_true h1)
theorem strOk_cut {t : Str} (h1 : PyData.strOk (cutS t none (some 1)) = true) (h2 : PyData.strOk (cutS t (some 1) none) = true) : PyData.strOk t = true := by
  unfold PyData.strOk at *
  rw [← Array.all_toList] at *
  refine List.all_eq_true.mpr fun c hc => ?_
  have e1 : (cutS t none (some 1)).cps.toList = t.cps.toList.take 1 := by
    show (List.toArray _).toList = _
    rw [show HT.sIx t.length 0 none = 0 from rfl, show HT.sIx t.length t.length (some 1) = min 1 t.length from HT.sIx_nat _ _ 1, List.drop_zero]
    show List.take (min 1 t.length - 0) _ = _
    have hl : t.cps.toList.length = t.length := Array.length_toList
    rw [Nat.sub_zero]
    by_cases h : 1 ≤ t.length
    · rw [Nat.min_eq_left h]
    · rw [Nat.min_eq_right (by omega), List.take_of_length_le (by omega), List.take_of_length_le (by omega)]
  have e2 : (cutS t (some 1) none).cps.toList = t.cps.toList.drop 1 := by
    show (List.toArray _).toList = _
    have hl : t.cps.toList.length = t.length := Array.length_toList
    rw [show HT.sIx t.length 0 (some 1) = min 1 t.length from HT.sIx_nat _ _ 1, show HT.sIx t.length t.length none = t.length from rfl]
    by_cases h : 1 ≤ t.length
    · rw [Nat.min_eq_left h, List.take_of_length_le (by rw [List.length_drop]; omega)]
    · rw [Nat.min_eq_right (by omega), List.drop_of_length_le (by omega), List.drop_of_length_le (by omega)]
      simp
  rw [e1] at h1
  rw [e2] at h2
  rw [← List.take_append_drop 1 t.cps.toList] at hc
  rcases List.mem_append.mp hc with h | h
  · exact List.all_eq_true.mp h1 c h
  · exact List.all_eq_true.mp h2 c h
theorem abc_ok : sABC.cps.toList.all (fun c => decide (c < 0x110000)) = true := by decide +kernel
theorem fig_ok : sFIG.cps.toList.all (fun c => decide (c < 0x110000)) = true := by decide +kernel
theorem letters_in {s : Str} {n : Int} (h : lettersOk s n = true) : allIn s sABC = true := by
  unfold lettersOk at h
  rw [Bool.and_eq_true] at h
  exact h.2
theorem ended_in {s : Str} (h : endedOk s = true) : allIn s sFIG = true := by
  unfold endedOk figuresOk at h
  rw [Bool.and_eq_true, Bool.and_eq_true] at h
  exact h.1.2
theorem points_str {s : Str} (h : pointsOk s = true) : PyData.strOk s = true := by
  unfold pointsOk at h
  rw [Bool.or_eq_true] at h
  rcases h with h | h
  · rw [of_decide_eq_true h]; decide +kernel
  · exact strOk_of (ended_in h) fig_ok
theorem maker_str {s : Str} (h : makerOk s = true) : PyData.strOk s = true := by
  unfold makerOk at h
  rw [Bool.and_eq_true] at h
  exact strOk_cut (strOk_of (letters_in h.1) abc_ok) (strOk_of (ended_in h.2) fig_ok)
theorem shaped_ok {m : MK} (ok : m.Ok) : SeqAt.shaped m.data = true := by
  unfold SeqAt.shaped
  rw [Bool.and_eq_true]
  refine ⟨?_, decide_eq_true ?_⟩
  · unfold MK.data
    have h1 := strOk_of (letters_in ok.l) abc_ok
    have h2 := points_str ok.p
    have h3 := lay_strs m.mks fun s hs => maker_str (ok.ks s hs).1
    simp only [PyData.canLay0, PyData.canLayAll0, h1, h2, h3, Bool.true_and]
    cases m.yr <;> cases m.cp <;> rfl
  · unfold MK.data
    simp only [PyData.depth, PyData.depthAll, depth_strs]
    cases m.yr <;> cases m.cp <;> simp [oD, PyData.depth]

/-! ### texts, sign by sign -/
theorem allIn_iff {t s : Str} : allIn t s = true ↔ ∀ c ∈ sg t, c ∈ sg s := by
  unfold allIn
  rw [List.all_eq_true]
  exact ⟨fun h c hc => of_decide_eq_true (h c hc), fun h c hc => decide_eq_true (h c hc)⟩
def FigS (s : Str) : Prop := ∀ c ∈ sg s, c ∈ sg sFIG
theorem fig_app {a b : Str} (h1 : FigS a) (h2 : FigS b) : FigS (a ++ b) := fun c hc => by
  rw [sg_app] at hc
  rcases List.mem_append.mp hc with h | h
  · exact h1 c h
  · exact h2 c h
theorem fig_one {c : Nat} (h : c ∈ sg sFIG) : FigS ⟨#[c]⟩ := fun d hd => by
  have : d = c := by simpa [sg] using hd
  rw [this]; exact h
theorem app_ne {s : Str} {c : Nat} : ¬ (s ++ (⟨#[c]⟩ : Str) = ("" : Str)) := fun h => by
  have := congrArg sg h
  rw [sg_app, show sg ("" : Str) = [] by decide +kernel] at this
  simp [sg] at this
theorem fig_endOk {s : Str} {c : Nat} (h : FigS s) (hc : c ∈ sg sFIG) (h0 : c ≠ 48) : endedOk (s ++ ⟨#[c]⟩) = true := by
  unfold endedOk figuresOk
  rw [decide_eq_false app_ne, allIn_iff.mpr (fig_app h (fig_one hc)), ends0, decide_eq_false h0]
  rfl
theorem ended_fig {s : Str} (h : endedOk s = true) : FigS s := by
  unfold endedOk figuresOk at h
  rw [Bool.and_eq_true, Bool.and_eq_true] at h
  exact allIn_iff.mp h.1.2
theorem fig_nil : FigS ("" : Str) := fun c hc => by
  rw [show sg ("" : Str) = [] by decide +kernel] at hc
  cases hc
theorem points_fig {s : Str} (h : pointsOk s = true) : FigS s := by
  unfold pointsOk at h
  rw [Bool.or_eq_true] at h
  rcases h with h | h
  · rw [of_decide_eq_true h]; exact fig_nil
  · exact ended_fig h
theorem fig_cut {s : Str} (h : FigS s) (k : Nat) : FigS (cutS s none (some (k : Int))) := fun c hc => by
  rw [sg_cutTo] at hc
  exact h c (List.mem_of_mem_take hc)
theorem len_cut (s : Str) (k : Nat) : (cutS s none (some (k : Int))).length ≤ k := by
  rw [← sg_len, sg_cutTo, List.length_take]
  omega
theorem sg_strip (s : Str) : ∃ hi : Nat, hi ≤ s.length ∧ sg (Txt.rstripChars s "0") = (sg s).take hi ∧ (hi = 0 ∨ ∃ c, (sg s)[hi - 1]? = some c ∧ c ≠ 48) := by
  refine ⟨stripHi ("0" : Str).cps.contains true s 0, ?_, ?_, ?_⟩
  · exact (hi_facts _ s 0 (Nat.zero_le _)).2.1
  · show sg (Txt.stripBy _ false true s) = _
    rw [stripBy_eq]
    show (Array.extract _ _ _).toList = _
    rw [Array.toList_extract, List.extract_eq_take_drop]
    rfl
  · obtain ⟨_, h2, _, h⟩ := hi_facts ("0" : Str).cps.contains s 0 (Nat.zero_le _)
    generalize stripHi ("0" : Str).cps.contains true s 0 = hi at h h2
    by_cases hz : hi = 0
    · exact .inl hz
    · refine .inr ?_
      have hlt : hi - 1 < (sg s).length := by rw [sg_len]; omega
      refine ⟨(sg s)[hi - 1], List.getElem?_eq_getElem hlt, fun e => ?_⟩
      rcases h with h | h
      · exact hz h
      · rw [← getD_list, List.getD_eq_getElem?_getD, List.getElem?_eq_getElem hlt, Option.getD_some, e] at h
        exact absurd h (by decide +kernel)
theorem strip_ok {s : Str} (h : FigS s) : pointsOk (Txt.rstripChars s "0") = true ∧ (Txt.rstripChars s "0").length ≤ s.length := by
  obtain ⟨hi, h1, h2, h3⟩ := sg_strip s
  refine ⟨?_, ?_⟩
  · rcases h3 with h3 | ⟨c, hc, h0⟩
    · rw [h3, List.take_zero] at h2
      have : Txt.rstripChars s "0" = ("" : Str) := str_ext (by rw [h2]; decide +kernel)
      rw [this]; decide +kernel
    · have hlt := (List.getElem?_eq_some_iff.mp hc).1
      have hp : 0 < hi ∨ hi = 0 := by omega
      rcases hp with hp | hp
      · have e : Txt.rstripChars s "0" = (⟨((sg s).take (hi - 1)).toArray⟩ : Str) ++ ⟨#[c]⟩ := str_ext (by
          rw [h2, sg_app]
          show _ = (sg s).take (hi - 1) ++ [c]
          have : hi = (hi - 1) + 1 := by omega
          rw [this, List.take_add_one, Nat.add_sub_cancel, hc]
          rfl)
        rw [e]
        unfold pointsOk
        rw [fig_endOk (fun d hd => h d (List.mem_of_mem_take (by exact hd))) (h c (List.mem_of_getElem? hc)) h0, Bool.or_true]
      · rw [hp, List.take_zero] at h2
        have : Txt.rstripChars s "0" = ("" : Str) := str_ext (by rw [h2]; decide +kernel)
        rw [this]; decide +kernel
  · rw [← sg_len, h2, List.length_take, sg_len]
    omega
theorem points_ended {s : Str} (h : pointsOk s = true) (hn : s ≠ ("" : Str)) : endedOk s = true := by
  unfold pointsOk at h
  rw [decide_eq_false hn, Bool.false_or] at h
  exact h
theorem maker_ok {c : Nat} {s : Str} (hc : c ∈ sg sABC) (hs : endedOk s = true) : makerOk (⟨#[c]⟩ ++ s) = true := by
  have e1 : cutS (⟨#[c]⟩ ++ s) none (some 1) = ⟨#[c]⟩ := str_ext (by
    rw [show (some (1 : Int)) = some ((1 : Nat) : Int) from rfl, sg_cutTo, sg_app]
    rfl)
  have e2 : cutS (⟨#[c]⟩ ++ s) (some 1) none = s := str_ext (by
    rw [sg_cutFrom1, sg_app]
    rfl)
  unfold makerOk
  rw [e1, e2, hs, Bool.and_true]
  unfold lettersOk
  have : allIn ⟨#[c]⟩ sABC = true := allIn_iff.mpr fun d hd => by
    have : d = c := by simpa [sg] using hd
    rw [this]; exact hc
  rw [this]
  rfl
theorem maker_tail {s : Str} (h : makerOk s = true) : endedOk (cutS s (some 1) none) = true ∧ ∃ c, (sg s)[0]? = some c ∧ c ∈ sg sABC := by
  unfold makerOk lettersOk at h
  simp only [Bool.and_eq_true] at h
  obtain ⟨⟨⟨h1, _⟩, h3⟩, h4⟩ := h
  refine ⟨h4, ?_⟩
  have h1 := of_decide_eq_true h1
  have e := sg_cutTo s 1
  rw [show (some ((1 : Nat) : Int)) = some (1 : Int) from rfl] at e
  have hl : (sg s).take 1 ≠ [] := fun z => by
    rw [z] at e
    have := sg_len (cutS s none (some 1))
    rw [e] at this
    rw [← this] at h1
    simp at h1
  cases hs : sg s with
  | nil => rw [hs] at hl; exact absurd rfl hl
  | cons c cs =>
    refine ⟨c, rfl, allIn_iff.mp h3 c ?_⟩
    rw [e, hs]
    exact List.mem_cons_self
theorem lets_app {a : Str} {c : Nat} {n : Int} (h : (a.length : Int) + 1 ≤ n) (ha : ∀ d ∈ sg a, d ∈ sg sABC) (hc : c ∈ sg sABC) : lettersOk (a ++ ⟨#[c]⟩) n = true := by
  have hl : (a ++ (⟨#[c]⟩ : Str)).length = a.length + 1 := len_app _ _
  unfold lettersOk
  rw [hl, decide_eq_true (by omega), decide_eq_true (by omega), allIn_iff.mpr fun d hd => ?_]
  · rfl
  · rw [sg_app] at hd
    rcases List.mem_append.mp hd with h | h
    · exact ha d h
    · have : d = c := by simpa [sg] using h
      rw [this]; exact hc
theorem lets_cut {s : Str} {n : Int} (h : lettersOk s n = true) (k : Nat) : ∀ d ∈ sg (cutS s none (some (k : Int))), d ∈ sg sABC := fun d hd => by
  unfold lettersOk at h
  rw [Bool.and_eq_true] at h
  rw [sg_cutTo] at hd
  exact allIn_iff.mp h.2 d (List.mem_of_mem_take hd)
/-! numbers as texts -/
theorem fig_dig {c : Nat} : c ∈ sg sFIG ↔ 48 ≤ c ∧ c ≤ 57 := by
  rw [show sg sFIG = [48, 49, 50, 51, 52, 53, 54, 55, 56, 57] by decide +kernel]
  simp only [List.mem_cons, List.not_mem_nil, or_false]
  omega
theorem intText_fig {s : Str} (h : FigS s) (hn : sg s ≠ []) (hl : s.length ≤ 640) : PySem.intText? s = some ((PySem.NumText.digitsVal (sg s) : Nat) : Int) :=
  PySem.intText_digits (fun c hc => fig_dig.mp (h c hc)) hn (by omega)
theorem digitsVal_lt : ∀ (n : Nat) (cs : List Nat), cs.length = n → (∀ c ∈ cs, 48 ≤ c ∧ c ≤ 57) → PySem.NumText.digitsVal cs < 10 ^ n
  | 0, cs, hl, _ => by
    rw [List.length_eq_zero_iff.mp hl]
    decide
  | n + 1, cs, hl, h => by
    have hne : cs ≠ [] := fun z => by rw [z] at hl; cases hl
    have e := List.dropLast_concat_getLast hne
    rw [← e, PySem.NumText.digitsVal_snoc]
    have ih := digitsVal_lt n cs.dropLast (by rw [List.length_dropLast, hl]; rfl) fun c hc => h c ((List.dropLast_sublist cs).subset hc)
    have := h _ (List.getLast_mem hne)
    rw [Nat.pow_succ]
    omega
theorem num_fig {i : Int} (h : 0 ≤ i) : FigS (toString i : String) := fun c hc => by
  obtain ⟨m, rfl⟩ : ∃ m : Nat, i = (m : Int) := ⟨i.toNat, by omega⟩
  have e := PySem.W.KIN.signs_num m
  have hc' : c ∈ (PySem.Str.ofString (toString ((m : Nat) : Int))).cps.toList := hc
  rw [e] at hc'
  obtain ⟨x, hx, rfl⟩ := List.mem_map.mp hc'
  rw [fig_dig]
  have := Nat.isDigit_of_mem_toDigits (b := 10) (by decide) (by decide) hx
  simp [Char.isDigit] at this
  exact ⟨by have := this.1; exact this, by have := this.2; exact this⟩

def IsBox (o : HO) : Prop := ∃ n : Int, o = .lst [.int n]
/-! ### draws from a thing that changes (IsBox: what it may be) -/
def SB (kb H : Hp) (b : Addr) (mt : List (Addr × HO)) : Prop := ∃ o : HO, IsBox o ∧ ST kb H ((b, o) :: mt)
section
variable {kb kb' H H1 : Hp} {b p : Addr} {mt : List (Addr × HO)} {o u : HO}
theorem SB.io (s : SB kb H b mt) : IsBox s.choose := s.choose_spec.1
theorem SB.e (s : SB kb H b mt) : Ex kb H := s.choose_spec.2.e
theorem SB.ext (s : SB kb H b mt) (e : Ex H H1) : SB kb H1 b mt := ⟨_, s.io, s.choose_spec.2.ext e⟩
theorem SB.new (s : SB kb H b mt) (hp : H p = none) (e : Ex H H1) (h1 : H1 p = some o) : SB (upd kb p o) H1 b mt := ⟨_, s.io, s.choose_spec.2.new hp e h1⟩
theorem SB.kbx (s : SB kb H b mt) (hp : H p = none) : Ex kb (upd kb p o) := s.choose_spec.2.kb_ex hp
theorem SB.newM (s : SB kb H b mt) (hp : H p = none) (e : Ex H H1) (h1 : H1 p = some o) : SB kb H1 b ((p, o) :: mt) :=
  ⟨_, s.io, (s.choose_spec.2.newM hp e h1).perm (List.Perm.swap ..)⟩
theorem SB.less (s : SB kb' H b mt) (e : Ex kb kb') : SB kb H b mt :=
  ⟨_, s.io, e.trans s.choose_spec.2.e, fun q hq => ⟨fresh_back e (s.choose_spec.2.m q hq).1, (s.choose_spec.2.m q hq).2⟩, s.choose_spec.2.d⟩
theorem SB.at2 {a : Addr} (s : SB kb H b ((a, o) :: mt)) : H a = some o := s.choose_spec.2.at2
theorem SB.set2 {a : Addr} (s : SB kb H b ((a, o) :: mt)) : SB kb (upd H a u) b ((a, u) :: mt) := ⟨_, s.io, s.choose_spec.2.set2⟩
theorem SB.fix {a : Addr} (s : SB kb H b ((a, o) :: mt)) : SB (upd kb a o) H b mt := ⟨_, s.io, (s.choose_spec.2.perm (List.Perm.swap ..)).fix⟩
theorem SB.fixx {a : Addr} (s : SB kb H b ((a, o) :: mt)) : Ex kb (upd kb a o) := Ex.new (s.choose_spec.2.m (a, o) (List.mem_cons_of_mem _ List.mem_cons_self)).1
theorem sb_of (io : IsBox o) (hb : H b = none) (e : Ex H H1) (h : H1 b = some o) : SB H H1 b [] :=
  ⟨o, io, e, fun q hq => by
    rcases List.mem_singleton.mp hq with rfl
    exact ⟨hb, h⟩, List.pairwise_singleton ..⟩
theorem SB.drop {x : Addr × HO} (s : SB kb H b (x :: mt)) : SB kb H b mt := by
  obtain ⟨n, io, s⟩ := s
  refine ⟨n, io, s.e, fun q hq => s.m q ?_, ?_⟩
  · rcases List.mem_cons.mp hq with rfl | h
    · exact List.mem_cons_self
    · exact List.mem_cons_of_mem _ (List.mem_cons_of_mem _ h)
  · have d := List.pairwise_cons.mp s.d
    exact List.pairwise_cons.mpr ⟨fun q hq => d.1 q (List.mem_cons_of_mem _ hq), (List.pairwise_cons.mp d.2).2⟩
end
def spTake : Sp := fun vs H Q _ => ∃ (b : Addr) (k : Int) (kb : Hp) (mt : List (Addr × HO)), vs = [.ref b, .int k] ∧ 0 < k ∧ k.natAbs.log2 < 9000 ∧ SB kb H b mt ∧ ∀ (r : Int) H', 0 ≤ r → r < k → SB kb H' b mt → Q (.int r) H'
section
variable {K : PySem.W.Frag} {σ : L2.St} {kb H : Hp} {b : Addr} {mt : List (Addr × HO)} {Q : VK} {ta tb te : TE} {tl : TA} {r : R2} {v : V} {D : Ends} {tz tu tw : TS} {t : TT}
/-! the steps, one at a time -/
theorem q_asgP {i : Nat} (h : te σ H (fun x H1 => tz D (σ.set i (some x)) H1)) : tSeq (tAsg te (gName i)) tz D σ H := h
theorem s_asgP {i : Nat} (h : te σ H (fun x H1 => D.nx (σ.set i (some x)) H1)) : tAsg te (gName i) D σ H := h
theorem s_asgE {g : TG} (h : te σ H fun x H1 => g x σ H1 D.nx) : tAsg te g D σ H := h
theorem s_retP (h : te σ H D.rt) : tRet te D σ H := h
theorem opP (h : ta σ H fun x H1 => tb σ H1 fun y H2 => r x y H2 Q) : tOp r ta tb σ H Q := h
theorem opcP (h : tb σ H fun y H2 => r v y H2 Q) : tOp r (tC v) tb σ H Q := h
theorem q_ifP (h : t σ H fun c H1 => if c = true then tu { D with nx := tz D } σ H1 else tw { D with nx := tz D } σ H1) : tSeq (tIfS t tu tw) tz D σ H := h
theorem s_ifP (h : t σ H fun c H1 => if c = true then tu D σ H1 else tw D σ H1) : tIfS t tu tw D σ H := h
theorem tk {i : Nat} {n : Int} (hσ : σ[i]? = some (some (.ref b))) (h0 : 0 < n) (hl : n.natAbs.log2 < 9000) (sb : SB kb H b mt) (k : ∀ (r : Int) H', 0 ≤ r → r < n → SB kb H' b mt → Q (.int r) H') :
    tCall spTake [] E0 (tCons (tVar i) (tCons (tC (.int n)) tNil)) σ H Q := ⟨_, hσ, b, n, kb, mt, rfl, h0, hl, sb, k⟩
theorem tkE {i : Nat} {n : Int} (hσ : σ[i]? = some (some (.ref b))) (he : Ev te σ H (.int n)) (h0 : 0 < n) (hl : n.natAbs.log2 < 9000) (sb : SB kb H b mt) (k : ∀ (r : Int) H', 0 ≤ r → r < n → SB kb H' b mt → Q (.int r) H') :
    tCall spTake [] E0 (tCons (tVar i) (tCons te tNil)) σ H Q := ⟨_, hσ, he H (Ex.refl H) _ fun H1 e1 => ⟨b, n, kb, mt, rfl, h0, hl, sb.ext e1, k⟩⟩
theorem atI_in {α : Type} {xs : List α} {r : Int} (h0 : 0 ≤ r) (h1 : r < xs.length) : ∃ x, atI xs r = some x ∧ x ∈ xs := by
  obtain ⟨n, rfl⟩ : ∃ n : Nat, r = (n : Int) := ⟨r.toNat, by omega⟩
  have hn : n < xs.length := by omega
  exact ⟨xs[n], atI_nat (List.getElem?_eq_getElem hn), List.getElem_mem hn⟩
/-- a sign of a text that is written, by a draw -/
theorem pick {i : Nat} {s : Str} {n : Int} (hσ : σ[i]? = some (some (.ref b))) (hn : ((sg s).length : Int) = n) (h0 : 0 < n) (hl : n.natAbs.log2 < 9000) (hz : s.length ≤ 100000) (sb : SB kb H b mt) (k : ∀ c H', c ∈ sg s → SB kb H' b mt → Q (.str ⟨#[c]⟩) H') :
    tOp rIxS (tC (.str s)) (tCall spTake [] E0 (tCons (tVar i) (tCons (tC (.int n)) tNil))) σ H Q :=
  opcP (tk hσ h0 hl sb fun r H' h1 h2 s' => by
    obtain ⟨c, hc, hm⟩ := atI_in (xs := sg s) h1 (by omega)
    exact ⟨s, r, c, rfl, rfl, sz_of hz, hc, k c H' hm s'⟩)
/-- a number of a list that is written, by a draw -/
theorem table {i : Nat} {xs : List Int} {n : Int} (hσ : σ[i]? = some (some (.ref b))) (hn : (xs.length : Int) = n) (h0 : 0 < n) (hl : n.natAbs.log2 < 9000) (hx : EvA tl σ H (ii xs)) (hz : xs.length ≤ 100000) (sb : SB kb H b mt) (k : ∀ x H', x ∈ xs → SB kb H' b mt → Q (.int x) H') :
    tOp (rIxL K) (tLst tl) (tCall spTake [] E0 (tCons (tVar i) (tCons (tC (.int n)) tNil))) σ H Q :=
  el_lst hx (by rw [ii_len]; exact hz) H (Ex.refl H) _ fun p H1 hp e1 h1 => tk hσ h0 hl (sb.new hp e1 h1) fun r H2 g1 g2 s2 => by
    obtain ⟨x, hc, hm⟩ := atI_in (xs := xs) g1 (by omega)
    obtain ⟨m, rfl⟩ : ∃ m : Nat, r = (m : Int) := ⟨r.toNat, by omega⟩
    have hlt : m < xs.length := by omega
    refine ⟨p, ii xs, (m : Int), .int (xs.getD m 0), rfl, rfl, sq_of (s2.e _ _ upd_same), atI_nat (ii_get hlt), k _ H2 ?_ (s2.less (sb.kbx hp))⟩
    rw [List.getD_eq_getElem?_getD, List.getElem?_eq_getElem hlt]
    exact List.getElem_mem hlt
theorem dec_int {i j : Int} : decide (V.int i = V.int j) = decide (i = j) := by
  by_cases h : i = j
  · rw [h, decide_eq_true rfl, decide_eq_true rfl]
  · rw [decide_eq_false h, decide_eq_false (fun z => h (V.int.inj z))]
/-- if a draw is so -/
theorem ifTk {i : Nat} {n m : Int} (hσ : σ[i]? = some (some (.ref b))) (h0 : 0 < n) (hl : n.natAbs.log2 < 9000) (sb : SB kb H b mt) (k1 : ∀ H', SB kb H' b mt → tu D σ H') (k2 : ∀ H', SB kb H' b mt → tw D σ H') :
    tIfS (tTest (tOp rEq (tCall spTake [] E0 (tCons (tVar i) (tCons (tC (.int n)) tNil))) (tC (.int m)))) tu tw D σ H :=
  tk hσ h0 hl sb fun r H' h1 h2 s' => ⟨rfl, _, rfl, by
    rw [dec_int]
    by_cases h : r = m
    · rw [decide_eq_true h]; exact k1 H' s'
    · rw [decide_eq_false h]; exact k2 H' s'⟩
end
theorem log_small {k : Int} (h0 : 0 ≤ k) (h : k < 2 ^ 200) : k.natAbs.log2 < 9000 := by
  have h1 : k.natAbs < 2 ^ 200 := by omega
  exact Nat.lt_of_lt_of_le (PySem.Flt.log2_lt_of (by decide) h1) (by decide)
theorem len_one {c : Nat} : (⟨#[c]⟩ : Str).length = 1 := rfl
theorem fig_of9 {c : Nat} (h : c ∈ sg ("123456789" : Str)) : c ∈ sg sFIG ∧ c ≠ 48 := by
  rw [show sg ("123456789" : Str) = [49, 50, 51, 52, 53, 54, 55, 56, 57] by decide +kernel] at h
  rw [fig_dig]
  simp only [List.mem_cons, List.not_mem_nil, or_false] at h
  omega

/-! ### the box: two numbers and a count -/
abbrev one (c : Nat) : Str := ⟨#[c]⟩
theorem join_sg : ∀ ts : List Str, sg (Str.join "" ts) = (ts.map sg).flatten
  | [] => by decide +kernel
  | [x] => by
    show sg x = _
    simp
  | x :: y :: r => by
    show sg (x ++ "" ++ Str.join "" (y :: r)) = _
    rw [sg_app, sg_app, join_sg (y :: r), show sg ("" : Str) = [] by decide +kernel, List.append_nil]
    rfl
theorem tjoin_sg (ts : List Str) : sg (Txt.join "" ts) = (ts.map sg).flatten := by
  unfold Txt.join
  rw [StrLaws.glued_eq_join]
  exact join_sg ts
theorem flat_ones : ∀ cs : List Nat, ((cs.map one).map sg).flatten = cs
  | [] => rfl
  | c :: cs => by
    rw [List.map_cons, List.map_cons, List.flatten_cons, flat_ones cs]
    rfl
theorem join_ones (cs : List Nat) : sg (Txt.join "" (cs.map one)) = cs := by
  rw [tjoin_sg, flat_ones]
theorem sum_ones : ∀ cs : List Nat, ((cs.map one).map (·.length)).sum = cs.length
  | [] => rfl
  | c :: cs => by
    rw [List.map_cons, List.map_cons, List.sum_cons, sum_ones cs, List.length_cons]
    show 1 + _ = _
    omega
theorem str_dig {r : Int} (h0 : 0 ≤ r) (h1 : r < 10) : ∃ c, (Str.ofString (toString r)) = one c ∧ c ∈ sg sFIG ∧ (1 ≤ r → c ≠ 48) := by
  obtain ⟨n, rfl⟩ : ∃ n : Nat, r = (n : Int) := ⟨r.toNat, by omega⟩
  have h : ∀ n : Nat, n < 10 → Str.ofString (toString (n : Int)) = one (48 + n) := by decide +kernel
  exact ⟨48 + n, h n (by omega), fig_dig.mpr (by omega), fun _ => by omega⟩

/-! ### deep values, and what is known of the heap: facts that stay (Φ), cells that may change (mt) -/
inductive W where
  | i (n : Int) | b (c : Bool) | n | s (t : Str) | l (ws : List W) | t (ws : List W) | m (x : MK) | q (ns : List Int)
def W.o : Option Int → W
  | none => .n
  | some z => .i z
mutual
inductive Rep (K : PySem.W.Frag) (C : Addr) (kb : Hp) : V → W → Prop
  | i (n : Int) : Rep K C kb (.int n) (.i n)
  | b (c : Bool) : Rep K C kb (.bl c) (.b c)
  | n : Rep K C kb .non .n
  | s (t : Str) : Rep K C kb (.str t) (.s t)
  | l {p : Addr} {vs : List V} {ws : List W} (h : kb p = some (.lst vs)) (r : RepL K C kb vs ws) : Rep K C kb (.ref p) (.l ws)
  | t {p : Addr} {vs : List V} {ws : List W} (h : kb p = some (.tup vs)) (r : RepL K C kb vs ws) : Rep K C kb (.ref p) (.t ws)
  | m {x : Addr} {k : MK} (h : MarkAt C kb x k) (ok : k.Ok) : Rep K C kb (.ref x) (.m k)
  | q {p : Addr} {ns : List Int} (h : SqL K kb p (ns.map V.int)) : Rep K C kb (.ref p) (.q ns)
inductive RepL (K : PySem.W.Frag) (C : Addr) (kb : Hp) : List V → List W → Prop
  | nil : RepL K C kb [] []
  | cons {v : V} {w : W} {vs : List V} {ws : List W} (h : Rep K C kb v w) (r : RepL K C kb vs ws) : RepL K C kb (v :: vs) (w :: ws)
end
section
variable {K : PySem.W.Frag} {C : Addr} {kb kb' H H1 : Hp} {v : V} {w : W} {vs us : List V} {ws xs : List W} {Φ Ψ : List (V × W)} {mt nt : List (Addr × (HO → Prop))} {p a : Addr}
theorem Rep.ex (e : Ex kb kb') (h : Rep K C kb v w) : Rep K C kb' v w :=
  Rep.rec (motive_1 := fun v w _ => Rep K C kb' v w) (motive_2 := fun vs ws _ => RepL K C kb' vs ws) (fun n => .i n) (fun c => .b c) .n (fun t => .s t) (fun h _ r => .l (e _ _ h) r) (fun h _ r => .t (e _ _ h) r) (fun h ok => .m (h.ex e) ok) (fun h => .q (ex_l e h)) .nil (fun _ _ h r => .cons h r) h
theorem RepL.ex (e : Ex kb kb') (h : RepL K C kb vs ws) : RepL K C kb' vs ws :=
  RepL.rec (motive_1 := fun v w _ => Rep K C kb' v w) (motive_2 := fun vs ws _ => RepL K C kb' vs ws) (fun n => .i n) (fun c => .b c) .n (fun t => .s t) (fun h _ r => .l (e _ _ h) r) (fun h _ r => .t (e _ _ h) r) (fun h ok => .m (h.ex e) ok) (fun h => .q (ex_l e h)) .nil (fun _ _ h r => .cons h r) h
/-- known of a value: what it is by itself, or by the facts -/
inductive Kn (Φ : List (V × W)) : V → W → Prop
  | i (n : Int) : Kn Φ (.int n) (.i n)
  | b (c : Bool) : Kn Φ (.bl c) (.b c)
  | n : Kn Φ .non .n
  | s (t : Str) : Kn Φ (.str t) (.s t)
  | o (z : Option Int) : Kn Φ (oi z) (W.o z)
  | f {v : V} {w : W} (h : (v, w) ∈ Φ) : Kn Φ v w
inductive KnL (Φ : List (V × W)) : List V → List W → Prop
  | nil : KnL Φ [] []
  | cons {v : V} {w : W} {vs : List V} {ws : List W} (h : Kn Φ v w) (r : KnL Φ vs ws) : KnL Φ (v :: vs) (w :: ws)
  | is {α : Type} (ns : List α) (f : α → V) (g : α → W) (h : ∀ x ∈ ns, Kn Φ (f x) (g x)) : KnL Φ (ns.map f) (ns.map g)
  | app {vs us : List V} {ws xs : List W} (h : KnL Φ vs ws) (r : KnL Φ us xs) : KnL Φ (vs ++ us) (ws ++ xs)
theorem Kn.mono (hs : ∀ q ∈ Φ, q ∈ Ψ) (h : Kn Φ v w) : Kn Ψ v w := by
  cases h with
  | i n => exact .i n
  | b c => exact .b c
  | n => exact .n
  | s t => exact .s t
  | o z => exact .o z
  | f h => exact .f (hs _ h)
theorem KnL.mono (hs : ∀ q ∈ Φ, q ∈ Ψ) (h : KnL Φ vs ws) : KnL Ψ vs ws := by
  induction h with
  | nil => exact .nil
  | cons h r ih => exact .cons (h.mono hs) ih
  | is ns f g h => exact .is ns f g fun x hx => (h x hx).mono hs
  | app h r ih1 ih2 => exact .app ih1 ih2
theorem RepL.map {α : Type} (f : α → V) (g : α → W) : ∀ ns : List α, (∀ x ∈ ns, Rep K C kb (f x) (g x)) → RepL K C kb (ns.map f) (ns.map g)
  | [], _ => .nil
  | x :: ns, h => .cons (h x List.mem_cons_self) (RepL.map f g ns fun y hy => h y (List.mem_cons_of_mem _ hy))
theorem RepL.app : ∀ {vs : List V} {ws : List W}, RepL K C kb vs ws → RepL K C kb us xs → RepL K C kb (vs ++ us) (ws ++ xs)
  | _, _, .nil, r => r
  | _, _, .cons h q, r => .cons h (RepL.app q r)
theorem RepL.len : ∀ {vs : List V} {ws : List W}, RepL K C kb vs ws → vs.length = ws.length
  | _, _, .nil => rfl
  | _, _, .cons h q => congrArg (· + 1) (RepL.len q)
theorem RepL.get : ∀ {vs : List V} {ws : List W} (j : Nat) (w : W), RepL K C kb vs ws → ws[j]? = some w → ∃ v, vs[j]? = some v ∧ Rep K C kb v w
  | _, _, j, w, .nil, h => by simp at h
  | _, _, 0, w, .cons h q, e => ⟨_, rfl, by cases e; exact h⟩
  | _, _, j + 1, w, .cons (vs := vs) (ws := ws) h q, e => RepL.get (vs := vs) (ws := ws) j w q e
/-- no tuple: what may change -/
def NT (o : HO) : Prop := ∀ xs, o ≠ .tup xs
theorem nt_l {xs : List V} : NT (.lst xs) := fun _ h => nomatch h
structure S (K : PySem.W.Frag) (C : Addr) (H : Hp) (Φ : List (V × W)) (mt : List (Addr × (HO → Prop))) : Prop where
  kb : ∃ kb, Ex kb H ∧ (∀ q ∈ Φ, Rep K C kb q.1 q.2) ∧ ∀ q ∈ mt, kb q.1 = none ∧ ∃ o, H q.1 = some o ∧ q.2 o ∧ NT o
  d : mt.Pairwise fun q r => q.1 ≠ r.1
theorem Kn.rep (F : ∀ q ∈ Φ, Rep K C kb q.1 q.2) (h : Kn Φ v w) : Rep K C kb v w := by
  cases h with
  | i n => exact .i n
  | b c => exact .b c
  | n => exact .n
  | s t => exact .s t
  | o z => cases z with
    | none => exact (Rep.n : Rep K C kb .non .n)
    | some i => exact (Rep.i i : Rep K C kb (.int i) (.i i))
  | f h => exact F _ h
theorem KnL.rep (F : ∀ q ∈ Φ, Rep K C kb q.1 q.2) (h : KnL Φ vs ws) : RepL K C kb vs ws := by
  induction h with
  | nil => exact .nil
  | cons h r ih => exact .cons (h.rep F) ih
  | is ns f g h => exact RepL.map f g ns fun x hx => (h x hx).rep F
  | app h r ih1 ih2 => exact ih1.app ih2
theorem S.ext (s : S K C H Φ mt) (e : Ex H H1) : S K C H1 Φ mt := by
  obtain ⟨⟨kb, h1, h2, h3⟩, d⟩ := s
  exact ⟨⟨kb, h1.trans e, h2, fun q hq => ⟨(h3 q hq).1, by obtain ⟨o, h4, h5⟩ := (h3 q hq).2; exact ⟨o, e _ _ h4, h5⟩⟩⟩, d⟩
theorem S.to (s : S K C H Φ mt) (h : ∀ q ∈ Ψ, q ∈ Φ) (h' : nt.Sublist mt) : S K C H Ψ nt := by
  obtain ⟨⟨kb, h1, h2, h3⟩, d⟩ := s
  exact ⟨⟨kb, h1, fun q hq => h2 q (h q hq), fun q hq => h3 q (h'.subset hq)⟩, d.sublist h'⟩
theorem S.rep (s : S K C H Φ mt) (h : Kn Φ v w) : Rep K C H v w := by
  obtain ⟨⟨kb, h1, h2, h3⟩, d⟩ := s
  exact (h.rep h2).ex h1
theorem S.repL (s : S K C H Φ mt) (h : KnL Φ vs ws) : RepL K C H vs ws := by
  obtain ⟨⟨kb, h1, h2, h3⟩, d⟩ := s
  exact (h.rep h2).ex h1
/-- a new thing that stays -/
theorem S.addO {o : HO} (s : S K C H Φ mt) (hp : H p = none) (e : Ex H H1) (h1 : H1 p = some o) (hr : ∀ kb, kb p = some o → (∀ q ∈ Φ, Rep K C kb q.1 q.2) → Rep K C kb (.ref p) w) : S K C H1 ((.ref p, w) :: Φ) mt := by
  obtain ⟨⟨kb, g1, g2, g3⟩, d⟩ := s
  have ek : Ex kb (upd kb p o) := Ex.new (fresh_back g1 hp)
  refine ⟨⟨upd kb p o, grow g1 hp e h1, fun q hq => ?_, fun q hq => ?_⟩, d⟩
  · rcases List.mem_cons.mp hq with rfl | hq
    · exact hr _ upd_same fun q hq => (g2 q hq).ex ek
    · exact (g2 q hq).ex ek
  · obtain ⟨n, o, h4, h5⟩ := g3 q hq
    exact ⟨kb_none n h4 hp, o, e _ _ h4, h5⟩
theorem S.addL (s : S K C H Φ mt) (hp : H p = none) (e : Ex H H1) (h1 : H1 p = some (.lst vs)) (k : KnL Φ vs ws) : S K C H1 ((.ref p, .l ws) :: Φ) mt :=
  s.addO hp e h1 fun kb h F => .l h (k.rep F)
theorem S.addT (s : S K C H Φ mt) (hp : H p = none) (e : Ex H H1) (h1 : H1 p = some (.tup vs)) (k : KnL Φ vs ws) : S K C H1 ((.ref p, .t ws) :: Φ) mt :=
  s.addO hp e h1 fun kb h F => .t h (k.rep F)
/-- a new thing that may change -/
theorem S.addM {o : HO} {P : HO → Prop} (s : S K C H Φ mt) (hp : H p = none) (e : Ex H H1) (h1 : H1 p = some o) (hP : P o) (nt : NT o := by exact nt_l) : S K C H1 Φ ((p, P) :: mt) := by
  obtain ⟨⟨kb, g1, g2, g3⟩, d⟩ := s
  refine ⟨⟨kb, g1.trans e, g2, fun q hq => ?_⟩, List.pairwise_cons.mpr ⟨fun q hq => ?_, d⟩⟩
  · rcases List.mem_cons.mp hq with rfl | hq
    · exact ⟨fresh_back g1 hp, o, h1, hP, nt⟩
    · obtain ⟨n, o, h4, h5⟩ := g3 q hq
      exact ⟨n, o, e _ _ h4, h5⟩
  · obtain ⟨n, o, h4, h5⟩ := g3 q hq
    exact (ne_of_none h4 hp).symm
inductive SetM (a : Addr) (P : HO → Prop) : List (Addr × (HO → Prop)) → List (Addr × (HO → Prop)) → Prop
  | hd {Q : HO → Prop} {mt : List (Addr × (HO → Prop))} : SetM a P ((a, Q) :: mt) ((a, P) :: mt)
  | tl {x : Addr × (HO → Prop)} {mt nt : List (Addr × (HO → Prop))} (h : SetM a P mt nt) : SetM a P (x :: mt) (x :: nt)
theorem SetM.map {P : HO → Prop} (h : SetM a P mt nt) : mt.map (·.1) = nt.map (·.1) := by
  induction h with
  | hd => rfl
  | tl h ih => rw [List.map_cons, List.map_cons, ih]
theorem SetM.has {P : HO → Prop} (h : SetM a P mt nt) : ∃ R, (a, R) ∈ mt := by
  induction h with
  | hd => exact ⟨_, List.mem_cons_self⟩
  | tl h ih => obtain ⟨R, h⟩ := ih; exact ⟨R, List.mem_cons_of_mem _ h⟩
theorem SetM.mem {P : HO → Prop} (h : SetM a P mt nt) (d : mt.Pairwise fun q r => q.1 ≠ r.1) : ∀ q ∈ nt, q = (a, P) ∨ (q ∈ mt ∧ q.1 ≠ a) := by
  induction h with
  | hd =>
    intro q hq
    rcases List.mem_cons.mp hq with h | h
    · exact .inl h
    · exact .inr ⟨List.mem_cons_of_mem _ h, ((List.pairwise_cons.mp d).1 q h).symm⟩
  | tl h ih =>
    intro q hq
    have z := List.pairwise_cons.mp d
    rcases List.mem_cons.mp hq with e | e
    · subst e
      obtain ⟨R, hR⟩ := h.has
      exact .inr ⟨List.mem_cons_self, z.1 _ hR⟩
    · exact (ih z.2 q e).imp id fun w => ⟨List.mem_cons_of_mem _ w.1, w.2⟩
theorem pw_map : ∀ mt : List (Addr × (HO → Prop)), mt.Pairwise (fun q r => q.1 ≠ r.1) ↔ (mt.map (·.1)).Pairwise (· ≠ ·) := fun mt => by rw [List.pairwise_map]
theorem S.set {o : HO} {P : HO → Prop} (s : S K C H Φ mt) (h : SetM a P mt nt) (hP : P o) (nt' : NT o := by exact nt_l) : S K C (upd H a o) Φ nt := by
  obtain ⟨⟨kb, g1, g2, g3⟩, d⟩ := s
  have d' : nt.Pairwise fun q r => q.1 ≠ r.1 := by rw [pw_map] at d ⊢; rw [← h.map]; exact d
  obtain ⟨R, hR⟩ := h.has
  refine ⟨⟨kb, Ex.mut g1 (g3 _ hR).1, g2, fun q hq => ?_⟩, d'⟩
  rcases h.mem d q hq with rfl | ⟨h, ha⟩
  · exact ⟨(g3 _ hR).1, o, upd_same, hP, nt'⟩
  · obtain ⟨n, o, h4, h5⟩ := g3 q h
    exact ⟨n, o, by rw [upd_ne ha]; exact h4, h5⟩
/-- a cell is laid down: it stays from here on -/
inductive RmM (a : Addr) (P : HO → Prop) : List (Addr × (HO → Prop)) → List (Addr × (HO → Prop)) → Prop
  | hd {mt : List (Addr × (HO → Prop))} : RmM a P ((a, P) :: mt) mt
  | tl {x : Addr × (HO → Prop)} {mt nt : List (Addr × (HO → Prop))} (h : RmM a P mt nt) : RmM a P (x :: mt) (x :: nt)
theorem RmM.sub {P : HO → Prop} (h : RmM a P mt nt) : nt.Sublist mt := by
  induction h with
  | hd => exact List.sublist_cons_self ..
  | tl h ih => exact ih.cons_cons _
theorem RmM.has {P : HO → Prop} (h : RmM a P mt nt) : (a, P) ∈ mt := by
  induction h with
  | hd => exact List.mem_cons_self
  | tl h ih => exact List.mem_cons_of_mem _ ih
theorem RmM.ne {P : HO → Prop} (h : RmM a P mt nt) (d : mt.Pairwise fun q r => q.1 ≠ r.1) : ∀ q ∈ nt, q.1 ≠ a := by
  induction h with
  | hd => intro q hq; exact ((List.pairwise_cons.mp d).1 q hq).symm
  | tl h ih =>
    intro q hq
    have z := List.pairwise_cons.mp d
    rcases List.mem_cons.mp hq with rfl | hq
    · exact z.1 _ h.has
    · exact ih z.2 q hq
theorem S.fixO {o : HO} (s : S K C H Φ mt) (h : RmM a (Eq o) mt nt) (hr : ∀ kb, kb a = some o → (∀ q ∈ Φ, Rep K C kb q.1 q.2) → Rep K C kb (.ref a) w) : S K C H ((.ref a, w) :: Φ) nt := by
  obtain ⟨⟨kb, g1, g2, g3⟩, d⟩ := s
  obtain ⟨n, o', h4, rfl, _⟩ := g3 _ h.has
  have ek : Ex kb (upd kb a o) := Ex.new n
  refine ⟨⟨upd kb a o, fun b u q => ?_, fun q hq => ?_, fun q hq => ?_⟩, d.sublist h.sub⟩
  · by_cases hb : b = a
    · subst hb; rw [upd_same] at q; cases q; exact h4
    · rw [upd_ne hb] at q; exact g1 b u q
  · rcases List.mem_cons.mp hq with rfl | hq
    · exact hr _ upd_same fun q hq => (g2 q hq).ex ek
    · exact (g2 q hq).ex ek
  · obtain ⟨n1, o1, h5, h6⟩ := g3 q (h.sub.subset hq)
    exact ⟨by rw [upd_ne (h.ne d q hq)]; exact n1, o1, h5, h6⟩
theorem S.fixL (s : S K C H Φ mt) (h : RmM a (Eq (.lst vs)) mt nt) (k : KnL Φ vs ws) : S K C H ((.ref a, .l ws) :: Φ) nt :=
  s.fixO h fun kb h F => .l h (k.rep F)
theorem S.at {o : HO} (s : S K C H Φ mt) (h : (a, Eq o) ∈ mt) : H a = some o := by
  obtain ⟨⟨kb, g1, g2, g3⟩, d⟩ := s
  obtain ⟨n, o', h4, rfl, _⟩ := g3 _ h
  exact h4
theorem S.box {P : HO → Prop} (s : S K C H Φ mt) (h : (a, P) ∈ mt) : ∃ o, H a = some o ∧ P o := by
  obtain ⟨⟨kb, g1, g2, g3⟩, d⟩ := s
  obtain ⟨n, o, h4, h5, _⟩ := g3 _ h
  exact ⟨o, h4, h5⟩
end
section
variable {K : PySem.W.Frag} {C : Addr} {H : Hp} {Φ : List (V × W)} {mt nt : List (Addr × (HO → Prop))} {a : Addr} {P : HO → Prop}
theorem S.perm (s : S K C H Φ mt) (h : mt.Perm nt) : S K C H Φ nt := by
  obtain ⟨⟨kb, h1, h2, h3⟩, d⟩ := s
  exact ⟨⟨kb, h1, h2, fun q hq => h3 q (h.mem_iff.mpr hq)⟩, d.perm h fun z => z.symm⟩
/-- one cell told first -/
theorem S.front (s : S K C H Φ mt) (h : (a, P) ∈ mt) : ∃ nt, S K C H Φ ((a, P) :: nt) ∧ ∀ H' Ψ, S K C H' Ψ ((a, P) :: nt) → S K C H' Ψ mt := by
  obtain ⟨m1, m2, rfl⟩ := List.append_of_mem h
  exact ⟨m1 ++ m2, s.perm List.perm_middle, fun H' Ψ z => z.perm List.perm_middle.symm⟩
theorem S.sharp (s : S K C H Φ ((a, P) :: mt)) : ∃ o, P o ∧ S K C H Φ ((a, Eq o) :: mt) := by
  obtain ⟨⟨kb, h1, h2, h3⟩, d⟩ := s
  obtain ⟨n, o, h4, h5, h6⟩ := h3 _ List.mem_cons_self
  refine ⟨o, h5, ⟨kb, h1, h2, fun q hq => ?_⟩, ?_⟩
  · rcases List.mem_cons.mp hq with rfl | hq
    · exact ⟨n, o, h4, rfl, h6⟩
    · exact h3 q (List.mem_cons_of_mem _ hq)
  · have z := List.pairwise_cons.mp d
    exact List.pairwise_cons.mpr ⟨fun q hq => z.1 q hq, z.2⟩
theorem S.blur {o : HO} (s : S K C H Φ ((a, Eq o) :: mt)) (hP : P o) : S K C H Φ ((a, P) :: mt) := by
  obtain ⟨⟨kb, h1, h2, h3⟩, d⟩ := s
  obtain ⟨n, o, h4, rfl, h6⟩ := h3 _ List.mem_cons_self
  refine ⟨⟨kb, h1, h2, fun q hq => ?_⟩, ?_⟩
  · rcases List.mem_cons.mp hq with rfl | hq
    · exact ⟨n, _, h4, hP, h6⟩
    · exact h3 q (List.mem_cons_of_mem _ hq)
  · have z := List.pairwise_cons.mp d
    exact List.pairwise_cons.mpr ⟨fun q hq => z.1 q hq, z.2⟩
/-- a new mark -/
theorem S.addMark {x : Addr} {m : MK} {H1 : Hp} (s : S K C H Φ mt) (hx : H x = none) (e : Ex H H1) (h : MarkAt C H1 x m) (ok : m.Ok) : S K C H1 ((.ref x, .m m) :: Φ) mt := by
  obtain ⟨⟨kb, g1, g2, g3⟩, d⟩ := s
  obtain ⟨dx, pa, ma, h1, h2, h3⟩ := h
  have g := g1.trans e
  refine ⟨⟨fun b => if b = x ∨ b = pa ∨ b = ma then H1 b else kb b, fun b o hb => ?_, fun q hq => ?_, fun q hq => ?_⟩, d⟩
  · dsimp only at hb
    split at hb
    · exact hb
    · exact g b o hb
  · have ek : Ex kb fun b => if b = x ∨ b = pa ∨ b = ma then H1 b else kb b := fun b o hb => by
      dsimp only
      split
      · exact g b o hb
      · exact hb
    rcases List.mem_cons.mp hq with rfl | hq
    · exact .m ⟨dx, pa, ma, (if_pos (.inl rfl)).trans h1, (if_pos (.inr (.inl rfl))).trans h2, (if_pos (.inr (.inr rfl))).trans h3⟩ ok
    · exact (g2 q hq).ex ek
  · obtain ⟨n, o, h4, h5, h6⟩ := g3 q hq
    refine ⟨?_, o, e _ _ h4, h5, h6⟩
    dsimp only
    rw [if_neg ?_]
    · exact n
    · rintro (hz | hz | hz)
      · rw [hz, hx] at h4; cases h4
      · have := e _ _ h4; rw [hz, h2] at this; cases this; exact h6 _ rfl
      · have := e _ _ h4; rw [hz, h3] at this; cases this; exact h6 _ rfl
end

/-! ### steps without side conditions, found by the class search -/
class St1 (G : Prop) (G' : outParam Prop) : Prop where
  h : G' → G
class Stp (G : Prop) (G' : outParam Prop) : Prop where
  h : G' → G
instance (priority := low) {G : Prop} : Stp G G := ⟨id⟩
instance {G G1 G2 : Prop} [a : St1 G G1] [b : Stp G1 G2] : Stp G G2 := ⟨fun h => a.h (b.h h)⟩
theorem st_go {G G1 G2 : Prop} [a : St1 G G1] [b : Stp G1 G2] (h : G2) : G := a.h (b.h h)
class At {α : Type} (xs : List (Option α)) (i : Nat) (v : outParam α) : Prop where
  h : xs[i]? = some (some v)
instance {α : Type} {v : α} {xs : List (Option α)} : At (some v :: xs) 0 v := ⟨rfl⟩
instance {α : Type} {x : Option α} {v : α} {xs : List (Option α)} {i : Nat} [q : At xs i v] : At (x :: xs) (i + 1) v := ⟨by rw [List.getElem?_cons_succ]; exact q.h⟩
/-! ### steps, each with what is wanted told by itself -/
class SetAt {α : Type} (xs : List α) (j : Nat) (v : α) (ys : outParam (List α)) : Prop where
  h : xs.set j v = ys
instance {α : Type} {x v : α} {xs : List α} : SetAt (x :: xs) 0 v (v :: xs) := ⟨rfl⟩
instance {α : Type} {x v : α} {xs ys : List α} {j : Nat} [q : SetAt xs j v ys] : SetAt (x :: xs) (j + 1) v (x :: ys) := ⟨by rw [List.set_cons_succ, q.h]⟩
class Wp (σ : L2.St) (vs : List Nat) (σ0 : outParam L2.St) : Prop where
  h : wipe σ vs = σ0
instance {σ : L2.St} : Wp σ [] σ := ⟨rfl⟩
instance {σ σ1 σ0 : L2.St} {v : Nat} {vs : List Nat} [q : Wp σ vs σ1] [r : SetAt σ1 v none σ0] : Wp σ (v :: vs) σ0 := ⟨by show (wipe σ vs).set v none = σ0; rw [q.h, r.h]⟩
class Ix (i : Int) (j : outParam Nat) : Prop where
  h : i = (j : Int)
instance : Ix 0 0 := ⟨rfl⟩
instance : Ix 1 1 := ⟨rfl⟩
instance : Ix 2 2 := ⟨rfl⟩
instance : Ix 3 3 := ⟨rfl⟩
instance : Ix 4 4 := ⟨rfl⟩
instance : Ix 5 5 := ⟨rfl⟩
instance : Ix 6 6 := ⟨rfl⟩
instance : Ix 7 7 := ⟨rfl⟩
instance {j : Nat} : Ix (j : Int) j := ⟨rfl⟩
section
variable {K : PySem.W.Frag} {C : Addr} {σ : L2.St} {H : Hp} {Φ : List (V × W)} {mt nt : List (Addr × (HO → Prop))} {Q : VK} {D : Ends} {tz tu tw : TS} {ta tb tc te to : TE} {t u : TT} {tl tr tk : TA} {r r' : R2} {v x y z : V} {vs us xs : List V} {ws : List W} {w : W} {g : TG} {p a : Addr}
theorem g_seqA {i : Nat} (h : te σ H fun x H1 => tz D (σ.set i (some x)) H1) : tSeq (tAsg te (gName i)) tz D σ H := h
instance {i : Nat} : St1 (tSeq (tAsg te (gName i)) tz D σ H) (te σ H fun x H1 => tz D (σ.set i (some x)) H1) := ⟨g_seqA⟩
theorem g_asgA {i : Nat} (h : te σ H fun x H1 => D.nx (σ.set i (some x)) H1) : tAsg te (gName i) D σ H := h
instance {i : Nat} : St1 (tAsg te (gName i) D σ H) (te σ H fun x H1 => D.nx (σ.set i (some x)) H1) := ⟨g_asgA⟩
theorem g_seqG (h : te σ H fun x H1 => g x σ H1 (tz D)) : tSeq (tAsg te g) tz D σ H := h
instance (priority := low) : St1 (tSeq (tAsg te g) tz D σ H) (te σ H fun x H1 => g x σ H1 (tz D)) := ⟨g_seqG⟩
theorem g_asgG (h : te σ H fun x H1 => g x σ H1 D.nx) : tAsg te g D σ H := h
instance (priority := low) : St1 (tAsg te g D σ H) (te σ H fun x H1 => g x σ H1 D.nx) := ⟨g_asgG⟩
theorem g_seqI (h : t σ H fun c H1 => if c = true then tu { D with nx := tz D } σ H1 else tw { D with nx := tz D } σ H1) : tSeq (tIfS t tu tw) tz D σ H := h
instance : St1 (tSeq (tIfS t tu tw) tz D σ H) (t σ H fun c H1 => if c = true then tu { D with nx := tz D } σ H1 else tw { D with nx := tz D } σ H1) := ⟨g_seqI⟩
theorem g_if (h : t σ H fun c H1 => if c = true then tu D σ H1 else tw D σ H1) : tIfS t tu tw D σ H := h
instance : St1 (tIfS t tu tw D σ H) (t σ H fun c H1 => if c = true then tu D σ H1 else tw D σ H1) := ⟨g_if⟩
theorem g_seqD (h : te σ H fun _ H1 => tz D σ H1) : tSeq (tDrop te) tz D σ H := h
instance : St1 (tSeq (tDrop te) tz D σ H) (te σ H fun _ H1 => tz D σ H1) := ⟨g_seqD⟩
theorem g_drop (h : te σ H fun _ H1 => D.nx σ H1) : tDrop te D σ H := h
instance : St1 (tDrop te D σ H) (te σ H fun _ H1 => D.nx σ H1) := ⟨g_drop⟩
theorem g_ret (h : te σ H D.rt) : tRet te D σ H := h
instance : St1 (tRet te D σ H) (te σ H D.rt) := ⟨g_ret⟩
theorem g_next (h : D.nx σ H) : tNext D σ H := h
instance : St1 (tNext D σ H) (D.nx σ H) := ⟨g_next⟩
theorem g_c (h : Q v H) : tC v σ H Q := h
instance : St1 (tC v σ H Q) (Q v H) := ⟨g_c⟩
theorem g_var {i : Nat} (hσ : σ[i]? = some (some v)) (h : Q v H) : tVar i σ H Q := ⟨v, hσ, h⟩
instance {i : Nat} [q : At σ i v] : St1 (tVar i σ H Q) (Q v H) := ⟨fun h => g_var q.h h⟩
theorem g_op (h : ta σ H fun x H1 => tb σ H1 fun y H2 => r x y H2 Q) : tOp r ta tb σ H Q := h
instance : St1 (tOp r ta tb σ H Q) (ta σ H fun x H1 => tb σ H1 fun y H2 => r x y H2 Q) := ⟨g_op⟩
theorem g_un {r : V → Hp → VK → Prop} (h : ta σ H fun x H1 => r x H1 Q) : tUn r ta σ H Q := h
instance {r : V → Hp → VK → Prop} : St1 (tUn r ta σ H Q) (ta σ H fun x H1 => r x H1 Q) := ⟨g_un⟩
theorem g_ifE (h : t σ H fun c H1 => if c = true then ta σ H1 Q else tb σ H1 Q) : tIf t ta tb σ H Q := h
instance : St1 (tIf t ta tb σ H Q) (t σ H fun c H1 => if c = true then ta σ H1 Q else tb σ H1 Q) := ⟨g_ifE⟩
theorem g_test {Q : Bool → Hp → Prop} (h : te σ H fun x H' => ∃ k, x = .bl k ∧ Q k H') : tTest te σ H Q := h
instance {Q : Bool → Hp → Prop} : St1 (tTest te σ H Q) (te σ H fun x H' => ∃ k, x = .bl k ∧ Q k H') := ⟨g_test⟩
theorem g_tB {Q : Bool → Hp → Prop} (h : te σ H fun x H' => ∃ k, x = .bl k ∧ Q k H') : tB te σ H Q := h
instance {Q : Bool → Hp → Prop} : St1 (tB te σ H Q) (te σ H fun x H' => ∃ k, x = .bl k ∧ Q k H') := ⟨g_tB⟩
theorem g_tNot {Q : Bool → Hp → Prop} (h : t σ H fun c H1 => Q (!c) H1) : tNot t σ H Q := h
instance {Q : Bool → Hp → Prop} : St1 (tNot t σ H Q) (t σ H fun c H1 => Q (!c) H1) := ⟨g_tNot⟩
theorem g_tAnd {Q : Bool → Hp → Prop} (h : t σ H fun c H1 => if c = true then u σ H1 Q else Q false H1) : tAnd t u σ H Q := h
instance {Q : Bool → Hp → Prop} : St1 (tAnd t u σ H Q) (t σ H fun c H1 => if c = true then u σ H1 Q else Q false H1) := ⟨g_tAnd⟩
theorem g_tOr {Q : Bool → Hp → Prop} (h : t σ H fun c H1 => if c = true then Q true H1 else u σ H1 Q) : tOr t u σ H Q := h
instance {Q : Bool → Hp → Prop} : St1 (tOr t u σ H Q) (t σ H fun c H1 => if c = true then Q true H1 else u σ H1 Q) := ⟨g_tOr⟩
theorem g_andV (h : ta σ H fun x H1 => ∃ c, x = .bl c ∧ if c = true then tb σ H1 Q else Q (.bl false) H1) : tAndV ta tb σ H Q := h
instance : St1 (tAndV ta tb σ H Q) (ta σ H fun x H1 => ∃ c, x = .bl c ∧ if c = true then tb σ H1 Q else Q (.bl false) H1) := ⟨g_andV⟩
theorem g_orV (h : ta σ H fun x H1 => ∃ c, x = .bl c ∧ if c = true then Q (.bl true) H1 else tb σ H1 Q) : tOrV ta tb σ H Q := h
instance : St1 (tOrV ta tb σ H Q) (ta σ H fun x H1 => ∃ c, x = .bl c ∧ if c = true then Q (.bl true) H1 else tb σ H1 Q) := ⟨g_orV⟩
theorem g_notV (h : ta σ H fun x H1 => ∃ c, x = .bl c ∧ Q (.bl (!c)) H1) : tNotV ta σ H Q := h
instance : St1 (tNotV ta σ H Q) (ta σ H fun x H1 => ∃ c, x = .bl c ∧ Q (.bl (!c)) H1) := ⟨g_notV⟩
theorem g_sl {rs : V → Option Int → Option Int → Hp → VK → Prop} {t1 t2 : TO} (h : te σ H fun x H1 => t1 σ H1 fun l H2 => t2 σ H2 fun u H3 => rs x l u H3 Q) : tSl rs te t1 t2 σ H Q := h
instance {rs : V → Option Int → Option Int → Hp → VK → Prop} {t1 t2 : TO} : St1 (tSl rs te t1 t2 σ H Q) (te σ H fun x H1 => t1 σ H1 fun l H2 => t2 σ H2 fun u H3 => rs x l u H3 Q) := ⟨g_sl⟩
theorem g_noPart {Q : Option Int → Hp → Prop} (h : Q none H) : tNoPart σ H Q := h
instance {Q : Option Int → Hp → Prop} : St1 (tNoPart σ H Q) (Q none H) := ⟨g_noPart⟩
theorem g_part {Q : Option Int → Hp → Prop} (h : te σ H fun x H1 => ∃ i, x = .int i ∧ Q (some i) H1) : tPart te σ H Q := h
instance {Q : Option Int → Hp → Prop} : St1 (tPart te σ H Q) (te σ H fun x H1 => ∃ i, x = .int i ∧ Q (some i) H1) := ⟨g_part⟩
theorem g_cb {r : List V → Hp → VK → Prop} (h : tl σ H fun vs H1 => r vs H1 Q) : tCB r tl σ H Q := h
instance {r : List V → Hp → VK → Prop} : St1 (tCB r tl σ H Q) (tl σ H fun vs H1 => r vs H1 Q) := ⟨g_cb⟩
theorem g_call {sp : Sp} {dvs : List V} {E : XK} (h : tl σ H fun vs H1 => sp (vs ++ dvs) H1 Q E) : tCall sp dvs E tl σ H Q := h
theorem g_call0 {sp : Sp} {E : XK} (h : tl σ H fun vs H1 => sp vs H1 Q E) : tCall sp [] E tl σ H Q := by
  unfold tCall
  simpa only [List.append_nil] using h
instance {sp : Sp} {E : XK} : St1 (tCall sp [] E tl σ H Q) (tl σ H fun vs H1 => sp vs H1 Q E) := ⟨g_call0⟩
theorem g_cons {Q : List V → Hp → Prop} (h : te σ H fun x H1 => tr σ H1 fun xs H2 => Q (x :: xs) H2) : tCons te tr σ H Q := h
instance {Q : List V → Hp → Prop} : St1 (tCons te tr σ H Q) (te σ H fun x H1 => tr σ H1 fun xs H2 => Q (x :: xs) H2) := ⟨g_cons⟩
theorem g_nil {Q : List V → Hp → Prop} (h : Q [] H) : tNil σ H Q := h
instance {Q : List V → Hp → Prop} : St1 (tNil σ H Q) (Q [] H) := ⟨g_nil⟩
theorem g_m1 {r : V → List V → Hp → VK → Prop} (h : to σ H fun x H1 => (∃ a, x = .str a) ∧ te σ H1 fun y H2 => r x [y] H2 Q) : tM1 r to te σ H Q := h
instance {r : V → List V → Hp → VK → Prop} : St1 (tM1 r to te σ H Q) (to σ H fun x H1 => (∃ a, x = .str a) ∧ te σ H1 fun y H2 => r x [y] H2 Q) := ⟨g_m1⟩
def TyW (K : PySem.W.Frag) (T : String) (x : V) (H : Hp) (P : Prop) : Prop := tyV K T x H ∧ P
theorem g_bm {T : String} {r : V → List V → Hp → VK → Prop} (h : to σ H fun x H1 => TyW K T x H1 (tl σ H1 fun xs H2 => r x xs H2 Q)) : tBM K T r to tl σ H Q := h
instance {T : String} {r : V → List V → Hp → VK → Prop} : St1 (tBM K T r to tl σ H Q) (to σ H fun x H1 => TyW K T x H1 (tl σ H1 fun xs H2 => r x xs H2 Q)) := ⟨g_bm⟩
theorem g_fmt (h : te σ H fun x H1 => (∃ y : Str, x = .str y ∧ y.length ≤ sizeLine ∧ Q (.str y) H1) ∨ ∃ i : Int, x = .int i ∧ i.natAbs.log2 < 1920 ∧ Q (.str (toString i)) H1) : tFmt te σ H Q := h
def NewM (xs : List V) (H : Hp) (Q : VK) : Prop := xs.length ≤ sizeLine ∧ ∀ p, H p = none → Q (.ref p) (upd H p (.lst xs))
def NewL (xs : List V) (H : Hp) (Q : VK) : Prop := xs.length ≤ sizeLine ∧ ∀ p, H p = none → Q (.ref p) (upd H p (.lst xs))
def NewT (xs : List V) (H : Hp) (Q : VK) : Prop := xs.length ≤ sizeLine ∧ ∀ p, H p = none → Q (.ref p) (upd H p (.tup xs))
/-- lists that may change -/
def tLstM (t : TA) : TE := tLst t
theorem g_lst (h : tl σ H fun xs H1 => NewL xs H1 Q) : tLst tl σ H Q := h
instance : St1 (tLst tl σ H Q) (tl σ H fun xs H1 => NewL xs H1 Q) := ⟨g_lst⟩
theorem g_tup (h : tl σ H fun xs H1 => NewT xs H1 Q) : tTup tl σ H Q := h
instance : St1 (tTup tl σ H Q) (tl σ H fun xs H1 => NewT xs H1 Q) := ⟨g_tup⟩
theorem g_newL (s : S K C H Φ mt) (kn : KnL Φ xs ws) (hz : xs.length ≤ 100000) (k : ∀ p H1, S K C H1 ((.ref p, .l ws) :: Φ) mt → Q (.ref p) H1) : NewL xs H Q :=
  ⟨sz_of hz, fun p hp => k p _ (s.addL hp (Ex.new hp) upd_same kn)⟩
theorem g_newT (s : S K C H Φ mt) (kn : KnL Φ xs ws) (hz : xs.length ≤ 100000) (k : ∀ p H1, S K C H1 ((.ref p, .t ws) :: Φ) mt → Q (.ref p) H1) : NewT xs H Q :=
  ⟨sz_of hz, fun p hp => k p _ (s.addT hp (Ex.new hp) upd_same kn)⟩
theorem g_newM (s : S K C H Φ mt) (hz : xs.length ≤ 100000) (k : ∀ p H1, S K C H1 Φ ((p, Eq (.lst xs)) :: mt) → Q (.ref p) H1) : NewL xs H Q :=
  ⟨sz_of hz, fun p hp => k p _ (s.addM hp (Ex.new hp) upd_same rfl)⟩
/-! what a test tells -/
theorem g_exB {P : Bool → Prop} {b : Bool} (h : P b) : ∃ k, V.bl b = V.bl k ∧ P k := ⟨b, rfl, h⟩
instance {P : Bool → Prop} {b : Bool} : St1 (∃ k, V.bl b = V.bl k ∧ P k) (P b) := ⟨g_exB⟩
theorem g_exI {P : Int → Prop} {i : Int} (h : P i) : ∃ k, V.int i = V.int k ∧ P k := ⟨i, rfl, h⟩
instance {P : Int → Prop} {i : Int} : St1 (∃ k, V.int i = V.int k ∧ P k) (P i) := ⟨g_exI⟩
theorem g_exS {P : Str → Prop} {i : Str} (h : P i) : ∃ k, V.str i = V.str k ∧ P k := ⟨i, rfl, h⟩
instance {P : Str → Prop} {i : Str} : St1 (∃ k, V.str i = V.str k ∧ P k) (P i) := ⟨g_exS⟩
theorem g_strA {s : Str} {P : Prop} (h : P) : (∃ a, V.str s = .str a) ∧ P := ⟨⟨s, rfl⟩, h⟩
instance {s : Str} {P : Prop} : St1 ((∃ a, V.str s = .str a) ∧ P) (P) := ⟨g_strA⟩
theorem g_rfl {P : Prop} {v : V} (h : P) : v = v ∧ P := ⟨rfl, h⟩
instance {P : Prop} {v : V} : St1 (v = v ∧ P) (P) := ⟨g_rfl⟩
variable {A B : Prop} {b : Bool}
theorem g_iteT (h : A) : if true = true then A else B := by rw [if_pos rfl]; exact h
instance : St1 (if true = true then A else B) (A) := ⟨g_iteT⟩
theorem g_iteF (h : B) : if false = true then A else B := by rw [if_neg Bool.false_ne_true]; exact h
instance : St1 (if false = true then A else B) (B) := ⟨g_iteF⟩
theorem g_iteD {P : Prop} {i : Decidable P} (h1 : P → A) (h2 : ¬P → B) : if decide P = true then A else B := by
  by_cases h : P
  · rw [decide_eq_true h]; exact g_iteT (h1 h)
  · rw [decide_eq_false h]; exact g_iteF (h2 h)
theorem g_iteN (h : if b = true then B else A) : if (!b) = true then A else B := by cases b <;> exact h
instance : St1 (if (!b) = true then A else B) (if b = true then B else A) := ⟨g_iteN⟩
theorem g_iteB (h1 : b = true → A) (h2 : b = false → B) : if b = true then A else B := by
  cases b
  · exact g_iteF (h2 rfl)
  · exact g_iteT (h1 rfl)
theorem g_iteVI {m n : Int} (h1 : m = n → A) (h2 : ¬ m = n → B) : if decide (V.int m = V.int n) = true then A else B :=
  g_iteD (fun h => h1 (V.int.inj h)) fun h => h2 fun e => h (e ▸ rfl)
theorem g_iteVS {m n : Str} (h1 : m = n → A) (h2 : ¬ m = n → B) : if decide (V.str m = V.str n) = true then A else B :=
  g_iteD (fun h => h1 (V.str.inj h)) fun h => h2 fun e => h (e ▸ rfl)
theorem g_iteON {o : Option Int} (h1 : o = none → A) (h2 : ∀ i, o = some i → B) : if decide (oi o = .non) = true then A else B := by
  cases o with
  | none => exact g_iteD (fun _ => h1 rfl) fun h => (h rfl).elim
  | some i => exact g_iteD (fun h => nomatch h) fun _ => h2 i rfl
theorem g_iteIN {i : Int} (h : B) : if decide (V.int i = .non) = true then A else B := g_iteD (fun h => nomatch h) fun _ => h
instance {i : Int} : St1 (if decide (V.int i = .non) = true then A else B) (B) := ⟨g_iteIN⟩
theorem g_iteSN {i : Str} (h : B) : if decide (V.str i = .non) = true then A else B := g_iteD (fun h => nomatch h) fun _ => h
instance {i : Str} : St1 (if decide (V.str i = .non) = true then A else B) (B) := ⟨g_iteSN⟩
theorem g_iteRN {i : Addr} (h : B) : if decide (V.ref i = .non) = true then A else B := g_iteD (fun h => nomatch h) fun _ => h
instance {i : Addr} : St1 (if decide (V.ref i = .non) = true then A else B) (B) := ⟨g_iteRN⟩
theorem g_iteNN (h : A) : if decide (V.non = .non) = true then A else B := g_iteD (fun _ => h) fun h => (h rfl).elim
instance : St1 (if decide (V.non = .non) = true then A else B) (A) := ⟨g_iteNN⟩
/-! reading -/
theorem rep_strs : ∀ {vs : List V} {ks : List Str}, RepL K C H vs (ks.map W.s) → vs = ks.map V.str
  | [], [], _ => rfl
  | v :: vs, k :: ks, .cons h r => by cases h; rw [rep_strs r]; rfl
theorem g_ixLI {ns : List Int} {i : Int} (s : S K C H Φ mt) (h : (.ref p, .l (ns.map W.i)) ∈ Φ) (h0 : 0 ≤ i) (h1 : i < ns.length) (k : ∀ n, atI ns i = some n → n ∈ ns → Q (.int n) H) : rIxL K (.ref p) (.int i) H Q := by
  obtain ⟨j, rfl⟩ : ∃ j : Nat, i = (j : Int) := ⟨i.toNat, by omega⟩
  have hj : j < ns.length := by omega
  cases s.rep (.f h) with
  | l hq hr =>
    obtain ⟨v, hv, r⟩ := hr.get j (.i (ns[j]'hj)) (by rw [List.getElem?_map, List.getElem?_eq_getElem hj]; rfl)
    cases r
    exact ⟨p, _, _, _, rfl, rfl, sq_of hq, atI_nat hv, k _ (atI_nat (List.getElem?_eq_getElem hj)) (List.getElem_mem hj)⟩
theorem g_ixLS {ns : List Str} {i : Int} (s : S K C H Φ mt) (h : (.ref p, .l (ns.map W.s)) ∈ Φ) (h0 : 0 ≤ i) (h1 : i < ns.length) (k : ∀ n, atI ns i = some n → n ∈ ns → Q (.str n) H) : rIxL K (.ref p) (.int i) H Q := by
  obtain ⟨j, rfl⟩ : ∃ j : Nat, i = (j : Int) := ⟨i.toNat, by omega⟩
  have hj : j < ns.length := by omega
  cases s.rep (.f h) with
  | l hq hr =>
    obtain ⟨v, hv, r⟩ := hr.get j (.s (ns[j]'hj)) (by rw [List.getElem?_map, List.getElem?_eq_getElem hj]; rfl)
    cases r
    exact ⟨p, _, _, _, rfl, rfl, sq_of hq, atI_nat hv, k _ (atI_nat (List.getElem?_eq_getElem hj)) (List.getElem_mem hj)⟩
theorem rep_o {o : Option Int} (h : Rep K C H v (W.o o)) : v = oi o := by
  cases o with
  | none => change Rep K C H v .n at h; cases h; rfl
  | some i => change Rep K C H v (.i i) at h; cases h; rfl
theorem g_ixLO {ns : List (Option Int)} {i : Int} (s : S K C H Φ mt) (h : (.ref p, .l (ns.map W.o)) ∈ Φ) (h0 : 0 ≤ i) (h1 : i < ns.length) (k : ∀ n, atI ns i = some n → n ∈ ns → Q (oi n) H) : rIxL K (.ref p) (.int i) H Q := by
  obtain ⟨j, rfl⟩ : ∃ j : Nat, i = (j : Int) := ⟨i.toNat, by omega⟩
  have hj : j < ns.length := by omega
  cases s.rep (.f h) with
  | l hq hr =>
    obtain ⟨v, hv, r⟩ := hr.get j (W.o (ns[j]'hj)) (by rw [List.getElem?_map, List.getElem?_eq_getElem hj]; rfl)
    obtain rfl := rep_o r
    exact ⟨p, _, _, _, rfl, rfl, sq_of hq, atI_nat hv, k _ (atI_nat (List.getElem?_eq_getElem hj)) (List.getElem_mem hj)⟩
/-- a value and what stands for it, where it has no parts -/
class Sc (w : W) (v : outParam V) : Prop where
  h : ∀ (K : PySem.W.Frag) (C : Addr) (H : Hp) (u : V), Rep K C H u w → u = v
instance {n : Int} : Sc (.i n) (.int n) := ⟨fun _ _ _ _ r => by cases r; rfl⟩
instance {n : Str} : Sc (.s n) (.str n) := ⟨fun _ _ _ _ r => by cases r; rfl⟩
instance {n : Bool} : Sc (.b n) (.bl n) := ⟨fun _ _ _ _ r => by cases r; rfl⟩
instance : Sc .n .non := ⟨fun _ _ _ _ r => by cases r; rfl⟩
instance {n : Option Int} : Sc (W.o n) (oi n) := ⟨fun _ _ _ _ r => rep_o r⟩
theorem S.grow (s : S K C H Φ mt) (h : (.ref p, .l ws) ∈ Φ) (j : Nat) (e : ws[j]? = some w) : ∃ vs v, SqL K H p vs ∧ vs[j]? = some v ∧ S K C H ((v, w) :: Φ) mt := by
  obtain ⟨⟨kb, h1, h2, h3⟩, d⟩ := s
  cases hh : h2 _ h with
  | l hq hr =>
    obtain ⟨v, hv, r⟩ := hr.get j w e
    exact ⟨_, v, sq_of (h1 _ _ hq), hv, ⟨kb, h1, fun q hq => by rcases List.mem_cons.mp hq with rfl | hq; exact r; exact h2 q hq, h3⟩, d⟩
theorem S.growT (s : S K C H Φ mt) (h : (.ref p, .t ws) ∈ Φ) (j : Nat) (e : ws[j]? = some w) : ∃ vs v, SqT K H p vs ∧ vs[j]? = some v ∧ S K C H ((v, w) :: Φ) mt := by
  obtain ⟨⟨kb, h1, h2, h3⟩, d⟩ := s
  cases hh : h2 _ h with
  | t hq hr =>
    obtain ⟨v, hv, r⟩ := hr.get j w e
    exact ⟨_, v, st_of (h1 _ _ hq), hv, ⟨kb, h1, fun q hq => by rcases List.mem_cons.mp hq with rfl | hq; exact r; exact h2 q hq, h3⟩, d⟩
theorem atI_of {α : Type} {xs : List α} {i : Int} {x : α} (e : atI xs i = some x) : ∃ j, ixN xs.length i = some j ∧ xs[j]? = some x := by
  unfold atI at e
  cases h : ixN xs.length i with
  | none => rw [h] at e; cases e
  | some j => rw [h] at e; exact ⟨j, rfl, e⟩
theorem atI_mk {α : Type} {xs : List α} {i : Int} {x : α} {j : Nat} (h : ixN xs.length i = some j) (e : xs[j]? = some x) : atI xs i = some x := by
  unfold atI
  rw [h]
  exact e
/-- an item of a list whose items are told, by a written number -/
theorem S.growA {i : Int} (s : S K C H Φ mt) (h : (.ref p, .l ws) ∈ Φ) (e : atI ws i = some w) : ∃ vs v, SqL K H p vs ∧ atI vs i = some v ∧ S K C H ((v, w) :: Φ) mt := by
  obtain ⟨j, h1, h2⟩ := atI_of e
  obtain ⟨⟨kb, g1, g2, g3⟩, d⟩ := s
  cases hh : g2 _ h with
  | l hq hr =>
    obtain ⟨v, hv, r⟩ := hr.get j w h2
    exact ⟨_, v, sq_of (g1 _ _ hq), atI_mk (by rw [hr.len]; exact h1) hv, ⟨kb, g1, fun q hq => by rcases List.mem_cons.mp hq with rfl | hq; exact r; exact g2 q hq, g3⟩, d⟩
theorem S.growTA {i : Int} (s : S K C H Φ mt) (h : (.ref p, .t ws) ∈ Φ) (e : atI ws i = some w) : ∃ vs v, SqT K H p vs ∧ atI vs i = some v ∧ S K C H ((v, w) :: Φ) mt := by
  obtain ⟨j, h1, h2⟩ := atI_of e
  obtain ⟨⟨kb, g1, g2, g3⟩, d⟩ := s
  cases hh : g2 _ h with
  | t hq hr =>
    obtain ⟨v, hv, r⟩ := hr.get j w h2
    exact ⟨_, v, st_of (g1 _ _ hq), atI_mk (by rw [hr.len]; exact h1) hv, ⟨kb, g1, fun q hq => by rcases List.mem_cons.mp hq with rfl | hq; exact r; exact g2 q hq, g3⟩, d⟩
theorem g_ixL {i : Int} (s : S K C H Φ mt) (h : (.ref p, .l ws) ∈ Φ) (e : atI ws i = some w) (sc : Sc w v) (k : Q v H) : rIxL K (.ref p) (.int i) H Q := by
  obtain ⟨vs, u, h1, h2, h3⟩ := s.growA h e
  have := sc.h K C H u (h3.rep (.f List.mem_cons_self))
  subst this
  exact ⟨p, vs, _, _, rfl, rfl, h1, h2, k⟩
def IsRef (w : W) : Prop := (∃ us, w = .l us) ∨ (∃ us, w = .t us) ∨ ∃ m, w = .m m
theorem isL {ws : List W} : IsRef (.l ws) := .inl ⟨_, rfl⟩
theorem isT {ws : List W} : IsRef (.t ws) := .inr (.inl ⟨_, rfl⟩)
theorem isM {m : MK} : IsRef (.m m) := .inr (.inr ⟨_, rfl⟩)
theorem isRef_of {u : V} (hw : IsRef w) (r : Rep K C H u w) : ∃ q, u = .ref q := by
  rcases hw with ⟨us, rfl⟩ | ⟨us, rfl⟩ | ⟨m, rfl⟩ <;> cases r <;> exact ⟨_, rfl⟩
theorem g_ixLr {i : Int} (s : S K C H Φ mt) (h : (.ref p, .l ws) ∈ Φ) (e : atI ws i = some w) (hw : IsRef w) (k : ∀ q, S K C H ((.ref q, w) :: Φ) mt → Q (.ref q) H) : rIxL K (.ref p) (.int i) H Q := by
  obtain ⟨vs, u, h1, h2, h3⟩ := s.growA h e
  obtain ⟨q, rfl⟩ := isRef_of hw (h3.rep (.f List.mem_cons_self))
  exact ⟨p, vs, _, _, rfl, rfl, h1, h2, k q h3⟩
theorem g_ixT {i : Int} (s : S K C H Φ mt) (h : (.ref p, .t ws) ∈ Φ) (e : atI ws i = some w) (sc : Sc w v) (k : Q v H) : rIxT K (.ref p) (.int i) H Q := by
  obtain ⟨vs, u, h1, h2, h3⟩ := s.growTA h e
  have := sc.h K C H u (h3.rep (.f List.mem_cons_self))
  subst this
  exact ⟨p, vs, _, _, rfl, rfl, h1, h2, k⟩
theorem g_ixTr {i : Int} (s : S K C H Φ mt) (h : (.ref p, .t ws) ∈ Φ) (e : atI ws i = some w) (hw : IsRef w) (k : ∀ q, S K C H ((.ref q, w) :: Φ) mt → Q (.ref q) H) : rIxT K (.ref p) (.int i) H Q := by
  obtain ⟨vs, u, h1, h2, h3⟩ := s.growTA h e
  obtain ⟨q, rfl⟩ := isRef_of hw (h3.rep (.f List.mem_cons_self))
  exact ⟨p, vs, _, _, rfl, rfl, h1, h2, k q h3⟩
/-- an item of a cell -/
theorem g_ixM {i : Int} (s : S K C H Φ mt) (h : (p, Eq (.lst vs)) ∈ mt) (e : atI vs i = some v) (k : Q v H) : rIxL K (.ref p) (.int i) H Q :=
  ⟨p, vs, _, _, rfl, rfl, sq_of (s.at h), e, k⟩
/-- a sign of a text -/
theorem g_ixS {t : Str} {i : Int} (hz : t.length ≤ 100000) (h0 : 0 ≤ i) (h1 : i < t.length) (k : ∀ c, atI (sg t) i = some c → c ∈ sg t → Q (.str ⟨#[c]⟩) H) : rIxS (.str t) (.int i) H Q := by
  obtain ⟨c, hc, hm⟩ := atI_in (xs := sg t) h0 (by rw [sg_len]; exact h1)
  exact ⟨t, i, c, rfl, rfl, sz_of hz, hc, k c hc hm⟩
class SL (t : Str) (n : outParam Nat) : Prop where
  h : t.length = n
instance : SL "abcdefghijklmnopqrstuvwxyz" 26 := ⟨by decide +kernel⟩
instance : SL "0123456789" 10 := ⟨by decide +kernel⟩
instance : SL "123456789" 9 := ⟨by decide +kernel⟩
instance : SL "abcd" 4 := ⟨by decide +kernel⟩
/-- a sign of a text that is written -/
theorem g_ixSn {t : Str} {i : Int} {n : Nat} (l : SL t n) (hz : n ≤ 100000) (h0 : 0 ≤ i) (h1 : i < n) (k : ∀ c, atI (sg t) i = some c → c ∈ sg t → Q (.str (one c)) H) : rIxS (.str t) (.int i) H Q :=
  g_ixS (by rw [l.h]; exact hz) h0 (by rw [l.h]; exact h1) k
/-- lists that are told item by item, as what they hold -/
class AsI (ws : List W) (ns : outParam (List Int)) : Prop where
  h : ws = ns.map W.i
instance : AsI [] [] := ⟨rfl⟩
instance {n : Int} {ws : List W} {ns : List Int} [q : AsI ws ns] : AsI (.i n :: ws) (n :: ns) := ⟨by rw [q.h]; rfl⟩
class AsO (ws : List W) (ns : outParam (List (Option Int))) : Prop where
  h : ws = ns.map W.o
instance : AsO [] [] := ⟨rfl⟩
instance {n : Int} {ws : List W} {ns : List (Option Int)} [q : AsO ws ns] : AsO (.i n :: ws) (some n :: ns) := ⟨by rw [q.h]; rfl⟩
instance {ws : List W} {ns : List (Option Int)} [q : AsO ws ns] : AsO (.n :: ws) (none :: ns) := ⟨by rw [q.h]; rfl⟩
instance {o : Option Int} {ws : List W} {ns : List (Option Int)} [q : AsO ws ns] : AsO (W.o o :: ws) (o :: ns) := ⟨by rw [q.h]; rfl⟩
class AsS (ws : List W) (ns : outParam (List Str)) : Prop where
  h : ws = ns.map W.s
instance : AsS [] [] := ⟨rfl⟩
instance {n : Str} {ws : List W} {ns : List Str} [q : AsS ws ns] : AsS (.s n :: ws) (n :: ns) := ⟨by rw [q.h]; rfl⟩
theorem g_ixAI {i : Int} {ns : List Int} (s : S K C H Φ mt) (h : (.ref p, .l ws) ∈ Φ) (q : AsI ws ns) (h0 : 0 ≤ i) (h1 : i < ns.length) (k : ∀ n, n ∈ ns → Q (.int n) H) : rIxL K (.ref p) (.int i) H Q :=
  g_ixLI (ns := ns) s (by rw [← q.h]; exact h) h0 h1 fun n _ hn => k n hn
theorem g_ixAO {i : Int} {ns : List (Option Int)} (s : S K C H Φ mt) (h : (.ref p, .l ws) ∈ Φ) (q : AsO ws ns) (h0 : 0 ≤ i) (h1 : i < ns.length) (k : ∀ n, n ∈ ns → Q (oi n) H) : rIxL K (.ref p) (.int i) H Q :=
  g_ixLO (ns := ns) s (by rw [← q.h]; exact h) h0 h1 fun n _ hn => k n hn
theorem g_ixAS {i : Int} {ns : List Str} (s : S K C H Φ mt) (h : (.ref p, .l ws) ∈ Φ) (q : AsS ws ns) (h0 : 0 ≤ i) (h1 : i < ns.length) (k : ∀ n, n ∈ ns → Q (.str n) H) : rIxL K (.ref p) (.int i) H Q :=
  g_ixLS (ns := ns) s (by rw [← q.h]; exact h) h0 h1 fun n _ hn => k n hn
/-! len, slices, sums of lists -/
theorem g_lenL (s : S K C H Φ mt) (h : (.ref p, .l ws) ∈ Φ) (k : Q (.int (ws.length : Int)) H) : rLenS K [.ref p] H Q := by
  cases s.rep (.f h) with
  | l hq hr => exact ⟨p, _, rfl, .inl (sq_of hq), by rw [hr.len]; exact k⟩
theorem g_lenT (s : S K C H Φ mt) (h : (.ref p, .t ws) ∈ Φ) (k : Q (.int (ws.length : Int)) H) : rLenS K [.ref p] H Q := by
  cases s.rep (.f h) with
  | t hq hr => exact ⟨p, _, rfl, .inr (st_of hq), by rw [hr.len]; exact k⟩
theorem g_lenM (s : S K C H Φ mt) (h : (p, Eq (.lst vs)) ∈ mt) (k : Q (.int (vs.length : Int)) H) : rLenS K [.ref p] H Q :=
  ⟨p, vs, rfl, .inl (sq_of (s.at h)), k⟩
theorem knl_zip : ∀ {vs : List V} {ws : List W} {Ψ : List (V × W)}, vs.length = ws.length → KnL (vs.zip ws ++ Ψ) vs ws
  | [], [], _, _ => .nil
  | v :: vs, w :: ws, Ψ, h => .cons (.f List.mem_cons_self) (KnL.mono (fun q hq => List.mem_cons_of_mem _ hq) (knl_zip (Nat.succ.inj h)))
  | [], _ :: _, _, h => nomatch h
  | _ :: _, [], _, h => nomatch h
theorem repL_zip {kb : Hp} : ∀ {vs : List V} {ws : List W}, RepL K C kb vs ws → ∀ q ∈ vs.zip ws, Rep K C kb q.1 q.2
  | _, _, .nil => fun q hq => by cases hq
  | _, _, .cons (v := v) (w := w) (vs := vs) (ws := ws) h r => fun q hq => by
    rcases List.mem_cons.mp (show q ∈ (v, w) :: vs.zip ws from hq) with rfl | hq
    · exact h
    · exact repL_zip r q hq
/-- a list whose items are told, its items known one by one -/
theorem S.openH (s : S K C H Φ mt) (h : (.ref p, .l ws) ∈ Φ) : ∃ vs, H p = some (.lst vs) ∧ vs.length = ws.length ∧ S K C H (vs.zip ws ++ Φ) mt := by
  obtain ⟨⟨kb, h1, h2, h3⟩, d⟩ := s
  cases h2 _ h with
  | l hq hr => exact ⟨_, h1 _ _ hq, hr.len, ⟨kb, h1, fun q hq => (List.mem_append.mp hq).elim (repL_zip hr q) (h2 q), h3⟩, d⟩
theorem S.open (s : S K C H Φ mt) (h : (.ref p, .l ws) ∈ Φ) : ∃ vs, SqL K H p vs ∧ vs.length = ws.length ∧ S K C H (vs.zip ws ++ Φ) mt := by
  obtain ⟨vs, h1, h2, h3⟩ := s.openH h
  exact ⟨vs, sq_of h1, h2, h3⟩
theorem S.openT (s : S K C H Φ mt) (h : (.ref p, .t ws) ∈ Φ) : ∃ vs, SqT K H p vs ∧ vs.length = ws.length ∧ S K C H (vs.zip ws ++ Φ) mt := by
  obtain ⟨⟨kb, h1, h2, h3⟩, d⟩ := s
  cases h2 _ h with
  | t hq hr => exact ⟨_, st_of (h1 _ _ hq), hr.len, ⟨kb, h1, fun q hq => (List.mem_append.mp hq).elim (repL_zip hr q) (h2 q), h3⟩, d⟩
theorem mem3 {x : V × W} {q : V × W} {A : List (V × W)} (h : q ∈ x :: Φ) : q ∈ x :: (A ++ Φ) := by
  rcases List.mem_cons.mp h with rfl | h
  · exact List.mem_cons_self
  · exact List.mem_cons_of_mem _ (List.mem_append_right _ h)
/-- list(..), told as it is -/
theorem g_listL (s : S K C H Φ mt) (h : (.ref p, .l ws) ∈ Φ) (k : ∀ q H', S K C H' ((.ref q, .l ws) :: Φ) mt → Q (.ref q) H') : rListS K [.ref p] H Q := by
  obtain ⟨vs, h1, h2, s'⟩ := s.open h
  exact ⟨p, vs, rfl, .inl h1, fun q hn => k q _ ((s'.addL hn (Ex.new hn) upd_same (knl_zip h2)).to (fun q hq => mem3 hq) (List.Sublist.refl _))⟩
theorem g_listT (s : S K C H Φ mt) (h : (.ref p, .t ws) ∈ Φ) (k : ∀ q H', S K C H' ((.ref q, .l ws) :: Φ) mt → Q (.ref q) H') : rListS K [.ref p] H Q := by
  obtain ⟨vs, h1, h2, s'⟩ := s.openT h
  exact ⟨p, vs, rfl, .inr h1, fun q hn => k q _ ((s'.addL hn (Ex.new hn) upd_same (knl_zip h2)).to (fun q hq => mem3 hq) (List.Sublist.refl _))⟩
/-- list(..), as a cell, of texts or of things told one by one -/
theorem g_listMS {ks : List Str} (s : S K C H Φ mt) (h : (.ref p, .l (ks.map W.s)) ∈ Φ) (k : ∀ q H', S K C H' Φ ((q, Eq (.lst (ks.map V.str))) :: mt) → Q (.ref q) H') : rListS K [.ref p] H Q := by
  obtain ⟨vs, h1, h2, s'⟩ := s.open h
  have hr := s'.repL (knl_zip h2)
  obtain rfl := rep_strs hr
  exact ⟨p, _, rfl, .inl h1, fun q hn => k q _ (s.addM hn (Ex.new hn) upd_same rfl)⟩
theorem g_tupOfS (s : S K C H Φ mt) (h : (.ref p, .l ws) ∈ Φ) (k : ∀ q H', S K C H' ((.ref q, .t ws) :: Φ) mt → Q (.ref q) H') : rTupOf K [.ref p] H Q := by
  obtain ⟨vs, h1, h2, s'⟩ := s.open h
  exact ⟨p, vs, rfl, .inl ⟨h1, fun q hn => k q _ ((s'.addT hn (Ex.new hn) upd_same (knl_zip h2)).to (fun q hq => mem3 hq) (List.Sublist.refl _))⟩⟩
theorem g_add {i j : Int} (k : Q (.int (i + j)) H) : rAdd (.int i) (.int j) H Q := ⟨i, j, rfl, rfl, k⟩
instance {i j : Int} : St1 (rAdd (.int i) (.int j) H Q) (Q (.int (i + j)) H) := ⟨g_add⟩
theorem g_rI0 {f : Int → Int → V} {i j : Int} (k : Q (f i j) H) : rI0 f (.int i) (.int j) H Q := ⟨i, j, rfl, rfl, k⟩
instance {f : Int → Int → V} {i j : Int} : St1 (rI0 f (.int i) (.int j) H Q) (Q (f i j) H) := ⟨g_rI0⟩
theorem g_rI {c : Int → Int → Prop} {f : Int → Int → V} {i j : Int} (h : c i j) (k : Q (f i j) H) : rI c f (.int i) (.int j) H Q := ⟨i, j, rfl, rfl, h, k⟩
theorem g_rMod {f : Int → Int → V} {i j : Int} (h : 0 < j) (k : Q (f i j) H) : rI (fun _ j => 0 < j) f (.int i) (.int j) H Q := ⟨i, j, rfl, rfl, h, k⟩
theorem g_rModN {f : Int → Int → V} {i j : Int} (h : j ≠ 0) (k : Q (f i j) H) : rI (fun _ j => j ≠ 0) f (.int i) (.int j) H Q := ⟨i, j, rfl, rfl, h, k⟩
theorem g_rDiv {f : Int → Int → V} {i j : Int} (h : 0 < j) (h1 : j < 1073741824) (k : Q (f i j) H) : rI CDiv f (.int i) (.int j) H Q := ⟨i, j, rfl, rfl, ⟨h, h1⟩, k⟩
theorem g_rDivW {f : Int → Int → V} {i j : Int} (h : 0 < j) (h1 : j.natAbs.log2 < 9000) (k : Q (f i j) H) : rI CDivW f (.int i) (.int j) H Q := ⟨i, j, rfl, rfl, ⟨h, h1⟩, k⟩
theorem g_rPow {f : Int → Int → V} {i j : Int} (h : 0 ≤ j) (h1 : j ≤ 1000000) (h2 : -18446744073709551616 < i) (h3 : i < 18446744073709551616) (k : Q (f i j) H) : rI CPow f (.int i) (.int j) H Q := ⟨i, j, rfl, rfl, ⟨h, h1, by omega⟩, k⟩
theorem g_rMul {f : Int → Int → V} {i j : Int} (h : -18446744073709551616 < i) (h1 : i < 18446744073709551616) (k : Q (f i j) H) : rI CMul f (.int i) (.int j) H Q := ⟨i, j, rfl, rfl, .inl ⟨h, h1⟩, k⟩
theorem g_rMulR {f : Int → Int → V} {i j : Int} (h : -18446744073709551616 < j) (h1 : j < 18446744073709551616) (k : Q (f i j) H) : rI CMul f (.int i) (.int j) H Q := ⟨i, j, rfl, rfl, .inr ⟨h, h1⟩, k⟩
theorem g_rEq (h : scal x y = true) (k : Q (.bl (decide (x = y))) H) : rEq x y H Q := ⟨h, k⟩
theorem g_rNe (h : scal x y = true) (k : Q (.bl (!decide (x = y))) H) : rNe x y H Q := ⟨h, k⟩
theorem g_rU {f : Int → V} {i : Int} (k : Q (f i) H) : rU f (.int i) H Q := ⟨i, rfl, k⟩
instance {f : Int → V} {i : Int} : St1 (rU f (.int i) H Q) (Q (f i) H) := ⟨g_rU⟩
theorem g_strAdd {i j : Str} (hz : i.length + j.length ≤ 100000) (k : Q (.str (i ++ j)) H) : qAddS (.str i) (.str j) H Q := ⟨i, j, rfl, rfl, sz_of hz, k⟩
theorem g_strI {i : Int} (h : i.natAbs.log2 < 1920) (k : (Str.ofString (toString i)).length ≤ 1921 → Q (.str (toString i)) H) : qStrI [.int i] H Q := ⟨i, rfl, h, k (int_len h)⟩
theorem g_strS {t : Str} (k : Q (.str t) H) : qStrS [.str t] H Q := ⟨t, rfl, k⟩
instance {t : Str} : St1 (qStrS [.str t] H Q) (Q (.str t) H) := ⟨g_strS⟩
theorem g_lenS {t : Str} (h : t.length ≤ 100000) (k : Q (.int (t.length : Int)) H) : qLenS [.str t] H Q := ⟨t, rfl, sz_of h, k⟩
theorem g_int1 {i : Int} (k : Q (.int i) H) : qInt1 [.int i] H Q := .inl ⟨i, rfl, k⟩
instance {i : Int} : St1 (qInt1 [.int i] H Q) (Q (.int i) H) := ⟨g_int1⟩
theorem g_intB {b : Bool} (k : Q (.int (if b then 1 else 0)) H) : qInt1 [.bl b] H Q := .inr ⟨b, rfl, k⟩
theorem g_max2 {i j : Int} (k : Q (.int (if j > i then j else i)) H) : qMax2 [.int i, .int j] H Q := ⟨i, j, rfl, k⟩
instance {i j : Int} : St1 (qMax2 [.int i, .int j] H Q) (Q (.int (if j > i then j else i)) H) := ⟨g_max2⟩
theorem g_min2 {i j : Int} (k : Q (.int (if j < i then j else i)) H) : qMin2 [.int i, .int j] H Q := ⟨i, j, rfl, k⟩
instance {i j : Int} : St1 (qMin2 [.int i, .int j] H Q) (Q (.int (if j < i then j else i)) H) := ⟨g_min2⟩
theorem g_ltS {i j : Str} (k : Q (.bl (decide (i.cps.toList < j.cps.toList))) H) : qLtS (.str i) (.str j) H Q := ⟨i, j, rfl, rfl, k⟩
instance {i j : Str} : St1 (qLtS (.str i) (.str j) H Q) (Q (.bl (decide (i.cps.toList < j.cps.toList))) H) := ⟨g_ltS⟩
theorem g_inS {c : Nat} {t : Str} (k : Q (.bl (decide (c ∈ sg t))) H) : qInS (.str ⟨#[c]⟩) (.str t) H Q := ⟨c, t, rfl, rfl, k⟩
instance {c : Nat} {t : Str} : St1 (qInS (.str ⟨#[c]⟩) (.str t) H Q) (Q (.bl (decide (c ∈ sg t))) H) := ⟨g_inS⟩
theorem g_notInS {c : Nat} {t : Str} (k : Q (.bl (!decide (c ∈ sg t))) H) : qNotInS (.str ⟨#[c]⟩) (.str t) H Q := ⟨c, t, rfl, rfl, k⟩
instance {c : Nat} {t : Str} : St1 (qNotInS (.str ⟨#[c]⟩) (.str t) H Q) (Q (.bl (!decide (c ∈ sg t))) H) := ⟨g_notInS⟩
theorem g_isN (k : Q (.bl (decide (x = .non))) H) : qIsN x .non H Q := ⟨rfl, k⟩
instance : St1 (qIsN x .non H Q) (Q (.bl (decide (x = .non))) H) := ⟨g_isN⟩
theorem g_notN (k : Q (.bl (!decide (x = .non))) H) : qNotN x .non H Q := ⟨rfl, k⟩
instance : St1 (qNotN x .non H Q) (Q (.bl (!decide (x = .non))) H) := ⟨g_notN⟩
theorem g_joinS {ts : List TE} (h : tJs ts Str.empty σ H fun out H1 => Q (.str out) H1) : tJoinS ts σ H Q := h
instance {ts : List TE} : St1 (tJoinS ts σ H Q) (tJs ts Str.empty σ H fun out H1 => Q (.str out) H1) := ⟨g_joinS⟩
theorem g_truS {t : Str} {Q : Bool → Hp → Prop} (ht : te σ H fun x H' => ∃ k, TruV K x H' k ∧ Q k H') : tTru K te σ H Q := ht
/-! methods that change a cell -/
theorem g_tyM {P : Prop} (s : S K C H Φ mt) (h : (p, Eq (.lst vs)) ∈ mt) (k : P) : TyW K "list" (.ref p) H P := ⟨.inl ⟨rfl, vs, sq_of (s.at h)⟩, k⟩
theorem g_tyL {P : Prop} (s : S K C H Φ mt) (h : (.ref p, .l ws) ∈ Φ) (k : P) : TyW K "list" (.ref p) H P := by
  cases s.rep (.f h) with
  | l hq hr => exact ⟨.inl ⟨rfl, _, sq_of hq⟩, k⟩
theorem g_append (s : S K C H Φ mt) (h : (p, Eq (.lst vs)) ∈ mt) (hz : vs.length < 100000) (hs : SetM p (Eq (.lst (vs ++ [v]))) mt nt) (k : ∀ H', S K C H' Φ nt → Q .non H') : rAppend (.ref p) [v] H Q :=
  ⟨p, vs, v, rfl, rfl, s.at h, sz_lt hz, k _ (s.set hs rfl)⟩
theorem g_setL {R : Hp → Prop} {i : Int} {j : Nat} (s : S K C H Φ mt) (h : (p, Eq (.lst vs)) ∈ mt) (hi : Ix i j) (hj : j < vs.length) (hv : SetAt vs j v us) (hs : SetM p (Eq (.lst us)) mt nt) (k : ∀ H', S K C H' Φ nt → R H') : rSetL (.ref p) (.int i) v H R := by
  obtain rfl := hi.h
  have e := hv.h
  subst e
  exact ⟨p, vs, j, j, rfl, rfl, s.at h, ixN_nat hj, k _ (s.set hs rfl)⟩
theorem g_gName {i : Nat} {N : L2.St → Hp → Prop} (h : N (σ.set i (some v)) H) : gName i v σ H N := h
instance {i : Nat} {N : L2.St → Hp → Prop} : St1 (gName i v σ H N) (N (σ.set i (some v)) H) := ⟨g_gName⟩
theorem g_gSub {ti : TE} {ts : TSet} {N : L2.St → Hp → Prop} (h : to σ H fun o H1 => ti σ H1 fun i H2 => ts o i v H2 fun H3 => N σ H3) : gSub to ti ts v σ H N := h
instance {ti : TE} {ts : TSet} {N : L2.St → Hp → Prop} : St1 (gSub to ti ts v σ H N) (to σ H fun o H1 => ti σ H1 fun i H2 => ts o i v H2 fun H3 => N σ H3) := ⟨g_gSub⟩
end

instance (priority := high) {A B : Prop} {x : V} {i : Decidable (x = x)} : St1 (if decide (x = x) = true then A else B) A := ⟨fun h => by rw [if_pos (decide_eq_true rfl)]; exact h⟩
instance (priority := high) {A B : Prop} : St1 (if decide (oi none = .non) = true then A else B) A := ⟨fun h => (if_pos (decide_eq_true (rfl : oi none = V.non))).mpr h⟩
instance (priority := high) {A B : Prop} {i : Int} : St1 (if decide (oi (some i) = .non) = true then A else B) B := ⟨fun h => (if_neg (fun z => nomatch (of_decide_eq_true z : oi (some i) = V.non))).mpr h⟩
instance (priority := high) {f : Int → Int → V} {i : Int} {y : V} {H : Hp} {Q : VK} : St1 (rI0 f (oi (some i)) y H Q) (rI0 f (.int i) y H Q) := ⟨fun h => h⟩
instance (priority := high) {f : Int → Int → V} {c : Int → Int → Prop} {i : Int} {y : V} {H : Hp} {Q : VK} : St1 (rI c f (oi (some i)) y H Q) (rI c f (.int i) y H Q) := ⟨fun h => h⟩
/-! a slot that was set, in its place -/
section
variable {σ σ' : L2.St} {i : Nat} {v : Option V} {H : Hp} {D : Ends} {ta tz tb tc : TS} {te : TE} {tt : TT} {g : TG} {wi : TI}
instance (priority := high) [q : SetAt σ i v σ'] : St1 (tSeq ta tz D (σ.set i v) H) (tSeq ta tz D σ' H) := ⟨fun h => by rw [q.h]; exact h⟩
instance (priority := high) [q : SetAt σ i v σ'] : St1 (tRet te D (σ.set i v) H) (tRet te D σ' H) := ⟨fun h => by rw [q.h]; exact h⟩
instance (priority := high) [q : SetAt σ i v σ'] : St1 (tAsg te g D (σ.set i v) H) (tAsg te g D σ' H) := ⟨fun h => by rw [q.h]; exact h⟩
instance (priority := high) [q : SetAt σ i v σ'] : St1 (tDrop te D (σ.set i v) H) (tDrop te D σ' H) := ⟨fun h => by rw [q.h]; exact h⟩
instance (priority := high) [q : SetAt σ i v σ'] : St1 (tIfS tt ta tz D (σ.set i v) H) (tIfS tt ta tz D σ' H) := ⟨fun h => by rw [q.h]; exact h⟩
instance (priority := high) [q : SetAt σ i v σ'] : St1 (tFor wi g tb D (σ.set i v) H) (tFor wi g tb D σ' H) := ⟨fun h => by rw [q.h]; exact h⟩
end

/-! ### loops -/
section
variable {K : PySem.W.Frag} {C : Addr} {σ σ0 : L2.St} {H : Hp} {Φ Ψ : List (V × W)} {mt nt : List (Addr × (HO → Prop))} {Q : VK} {D : Ends} {tz tb : TS} {te : TE} {tt : TT} {tl : TA} {v : V} {ws : List W} {w : W} {g : TG} {a p : Addr} {wi : TI} {J : It} {i n : Nat} {lo : Int} {vs : List Nat}
def LcW (J : It) (g : TG) (tt : TT) (te : TE) (vs : List Nat) (σ : L2.St) (H1 : Hp) (Q : VK) : Prop := ∀ D, H1 D = none → ∃ W : Nat → Nat → Hp → Prop, (∃ m, W 0 m (upd H1 D (.lst []))) ∧ ∀ i m H, W i m H →
  (J.stop i H ∧ Q (.ref D) H) ∨ (J.go i H ∧ ∃ Nx : Hp → Prop, (∀ H', Nx H' → ∃ m', m' < m ∧ W (i + 1) m' H') ∧ ∀ x H', J.yld i H x H' → g x (wipe σ vs) H' fun σ2 H2 => wipe σ2 vs = wipe σ vs ∧ tt σ2 H2 fun b H3 =>
    if b = true then te σ2 H3 fun y H4 => ∃ acc, H4 D = some (.lst acc) ∧ acc.length < sizeLine ∧ Nx (upd H4 D (.lst (acc ++ [y]))) else Nx H3)
theorem g_lc (h : wi σ H fun J H1 => LcW J g tt te vs σ H1 Q) : tLc wi g tt te vs σ H Q := h
instance : St1 (tLc wi g tt te vs σ H Q) (wi σ H fun J H1 => LcW J g tt te vs σ H1 Q) := ⟨g_lc⟩
def ForW (J : It) (g : TG) (tb : TS) (D : Ends) (σ : L2.St) (H : Hp) : Prop := ∃ W : Nat → Nat → L2.St → Hp → Prop, (∃ m, W 0 m σ H) ∧ ∀ i m σ H, W i m σ H →
  (J.stop i H ∧ D.nx σ H) ∨ (J.go i H ∧ ∃ N : L2.St → Hp → Prop, (∀ σ' H', N σ' H' → ∃ m', m' < m ∧ W (i + 1) m' σ' H') ∧ ∀ x H', J.yld i H x H' → g x σ H' fun σ2 H2 => tb { D with nx := N, ct := N, bk := D.nx } σ2 H2)
theorem g_for (h : wi σ H fun J H1 => ForW J g tb D σ H1) : tFor wi g tb D σ H := h
instance : St1 (tFor wi g tb D σ H) (wi σ H fun J H1 => ForW J g tb D σ H1) := ⟨g_for⟩
theorem g_seqF (h : wi σ H fun J H1 => ForW J g tb { D with nx := tz D } σ H1) : tSeq (tFor wi g tb) tz D σ H := h
instance : St1 (tSeq (tFor wi g tb) tz D σ H) (wi σ H fun J H1 => ForW J g tb { D with nx := tz D } σ H1) := ⟨g_seqF⟩
def Rng (vs : List V) (H : Hp) (R : It → Hp → Prop) : Prop := ∃ j : Int, vs = [.int j] ∧ -(2 ^ 62) ≤ j ∧ j < 2 ^ 62 ∧ R (Itr 0 j.toNat) H
def Rng2 (vs : List V) (H : Hp) (R : It → Hp → Prop) : Prop := ∃ i j : Int, vs = [.int i, .int j] ∧ (-(2 ^ 62) ≤ i ∧ i < 2 ^ 62 ∧ -(2 ^ 62) ≤ j ∧ j < 2 ^ 62) ∧ R (Itr i (j - i).toNat) H
theorem g_rng1 {R : It → Hp → Prop} (h : tl σ H fun vs H1 => Rng vs H1 R) : iRng1 tl σ H R := h
instance {R : It → Hp → Prop} : St1 (iRng1 tl σ H R) (tl σ H fun vs H1 => Rng vs H1 R) := ⟨g_rng1⟩
theorem g_rng2 {R : It → Hp → Prop} (h : tl σ H fun vs H1 => Rng2 vs H1 R) : iRng2 tl σ H R := h
instance {R : It → Hp → Prop} : St1 (iRng2 tl σ H R) (tl σ H fun vs H1 => Rng2 vs H1 R) := ⟨g_rng2⟩
theorem g_rngI {R : It → Hp → Prop} {j : Int} (h1 : -4611686018427387904 ≤ j) (h2 : j < 4611686018427387904) (h : R (Itr 0 j.toNat) H) : Rng [.int j] H R := ⟨j, rfl, h1, h2, h⟩
theorem g_rngII {R : It → Hp → Prop} {i j : Int} (h1 : -4611686018427387904 ≤ j) (h2 : j < 4611686018427387904) (h3 : -4611686018427387904 ≤ i) (h4 : i < 4611686018427387904) (h : R (Itr i (j - i).toNat) H) : Rng2 [.int i, .int j] H R := ⟨i, j, rfl, ⟨h3, h4, h1, h2⟩, h⟩
def Wlk (K : PySem.W.Frag) (x : V) (H : Hp) (R : It → Hp → Prop) : Prop := ∃ a, x = .ref a ∧ (∃ xs, SqL K H a xs) ∧ R (Itl K a) H
def WlkT (K : PySem.W.Frag) (x : V) (H : Hp) (R : It → Hp → Prop) : Prop := ∃ a, x = .ref a ∧ (∃ xs, SqT K H a xs) ∧ R (Itt K a) H
theorem g_wlk {R : It → Hp → Prop} (h : te σ H fun x H1 => Wlk K x H1 R) : iList K te σ H R := h
instance {R : It → Hp → Prop} : St1 (iList K te σ H R) (te σ H fun x H1 => Wlk K x H1 R) := ⟨g_wlk⟩
theorem g_wlkT {R : It → Hp → Prop} (h : te σ H fun x H1 => WlkT K x H1 R) : iTup K te σ H R := h
instance {R : It → Hp → Prop} : St1 (iTup K te σ H R) (te σ H fun x H1 => WlkT K x H1 R) := ⟨g_wlkT⟩
theorem g_wlkL {R : It → Hp → Prop} (s : S K C H Φ mt) (m : (.ref a, .l ws) ∈ Φ) (h : R (Itl K a) H) : Wlk K (.ref a) H R := by
  cases s.rep (.f m) with
  | l hq _ => exact ⟨a, rfl, ⟨_, sq_of hq⟩, h⟩
theorem g_wlkU {R : It → Hp → Prop} (s : S K C H Φ mt) (m : (.ref a, .t ws) ∈ Φ) (h : R (Itt K a) H) : WlkT K (.ref a) H R := by
  cases s.rep (.f m) with
  | t hq _ => exact ⟨a, rfl, ⟨_, st_of hq⟩, h⟩
theorem mem_snoc {α : Type} {P : Nat → α → Prop} {xs : List α} {x : α} (h : ∀ j x, xs[j]? = some x → P j x) (hx : P xs.length x) : ∀ j y, (xs ++ [x])[j]? = some y → P j y := fun j y e => by
  by_cases hj : j < xs.length
  · rw [List.getElem?_append_left hj] at e; exact h j y e
  · by_cases hj2 : j = xs.length
    · subst hj2; rw [List.getElem?_concat_length] at e; cases e; exact hx
    · rw [List.getElem?_eq_none (by rw [List.length_append]; simp; omega)] at e; cases e
/-- [.. for _ in range(..)], of things without parts -/
theorem g_lcR {α : Type} (enc : α → V) (encW : α → W) (P : Nat → α → Prop) {σ1 : V → L2.St} (kn : ∀ Ψ x, Kn Ψ (enc x) (encW x)) (s : S K C H Φ mt) (hn : n < 100000) (hw : Wp σ vs σ0) (hs : ∀ x, SetAt σ0 i (some x) (σ1 x)) (hw2 : ∀ x, Wp (σ1 x) vs σ0)
    (body : ∀ (j : Nat) X H', j < n → S K C H' Φ (X :: mt) → ∀ N : VK, (∀ x H'', P j x → S K C H'' Φ (X :: mt) → N (enc x) H'') → te (σ1 (.int (lo + j))) H' N)
    (k : ∀ D (xs : List α) H', xs.length = n → (∀ j x, xs[j]? = some x → P j x) → S K C H' ((.ref D, .l (xs.map encW)) :: Φ) mt → Q (.ref D) H') : LcW (Itr lo n) (gName i) tYes te vs σ H Q := by
  have hw := hw.h
  subst hw
  intro D hD
  refine lc_range (fun j H' => ∃ xs : List α, xs.length = j ∧ (∀ j x, xs[j]? = some x → P j x) ∧ S K C H' Φ ((D, Eq (.lst (xs.map enc))) :: mt)) ⟨[], rfl, fun j x h => by simp at h, s.addM hD (Ex.new hD) upd_same rfl⟩ ?_ ?_
  · rintro j H1 hj ⟨xs, hl, hP, s1⟩
    unfold gName
    rw [(hs (V.int (lo + j))).h]
    refine ⟨(hw2 _).h, ?_⟩
    dsimp only [tYes]
    rw [if_pos rfl]
    refine body j _ H1 hj s1 _ fun x H2 hx s2 => ⟨_, s2.at List.mem_cons_self, sz_lt (by rw [List.length_map]; omega), xs ++ [x], by rw [List.length_append, hl]; rfl, mem_snoc hP (by rw [hl]; exact hx), ?_⟩
    rw [List.map_append]
    exact s2.set .hd rfl
  · rintro H1 ⟨xs, hl, hP, s1⟩
    exact k D xs H1 hl hP (s1.fixL .hd (.is xs enc encW fun x _ => kn _ x))
theorem rep_map {β : Type} {encB : β → V} {encBW : β → W} (knB : ∀ K C H v x, Rep K C H v (encBW x) → v = encB x) {H : Hp} : ∀ (ks : List β) {us : List V}, RepL K C H us (ks.map encBW) → us = ks.map encB
  | [], us, r => by cases r; rfl
  | x :: ks, us, r => by
    cases r with
    | cons h r => rw [knB _ _ _ _ _ h, rep_map knB ks r]; rfl
/-- the same over a list of things without parts -/
theorem g_lcL {α β : Type} (enc : α → V) (encW : α → W) (encB : β → V) (encBW : β → W) (ks : List β) (P : Nat → α → Prop) {σ1 : V → L2.St} (kn : ∀ Ψ x, Kn Ψ (enc x) (encW x)) (knB : ∀ K C H v x, Rep K C H v (encBW x) → v = encB x) (s : S K C H Φ mt) (ha : (.ref a, .l (ks.map encBW)) ∈ Φ) (hn : ks.length < 100000) (hw : Wp σ vs σ0) (hs : ∀ x, SetAt σ0 i (some x) (σ1 x)) (hw2 : ∀ x, Wp (σ1 x) vs σ0)
    (body : ∀ (j : Nat) (y : β) X H', ks[j]? = some y → S K C H' Φ (X :: mt) → ∀ N : VK, (∀ x H'', P j x → S K C H'' Φ (X :: mt) → N (enc x) H'') → te (σ1 (encB y)) H' N)
    (k : ∀ D (xs : List α) H', xs.length = ks.length → (∀ j x, xs[j]? = some x → P j x) → S K C H' ((.ref D, .l (xs.map encW)) :: Φ) mt → Q (.ref D) H') : LcW (Itl K a) (gName i) tYes te vs σ H Q := by
  have hw := hw.h
  subst hw
  intro D hD
  have hL : ∀ {H' Φ' mt'}, S K C H' Φ' mt' → (V.ref a, W.l (ks.map encBW)) ∈ Φ' → SqL K H' a (ks.map encB) := fun s' m => by
    cases s'.rep (.f m) with
    | l hq hr =>
      rw [rep_map knB _ hr] at hq
      exact sq_of hq
  refine (show ∃ W : Nat → Nat → Hp → Prop, _ from lc_list (K := K) (a := a) (xs := ks.map encB) (fun j H' => ∃ xs : List α, xs.length = j ∧ (∀ j x, xs[j]? = some x → P j x) ∧ S K C H' Φ ((D, Eq (.lst (xs.map enc))) :: mt)) ⟨[], rfl, fun j x h => by simp at h, s.addM hD (Ex.new hD) upd_same rfl⟩ (fun j H' _ ⟨_, _, _, s'⟩ => hL s' ha) ?_ ?_)
  · rintro j x H1 hj ⟨xs, hl, hP, s1⟩
    rw [List.getElem?_map] at hj
    cases hy : ks[j]? with
    | none => rw [hy] at hj; cases hj
    | some y =>
      rw [hy] at hj
      cases hj
      unfold gName
      rw [(hs (encB y)).h]
      refine ⟨(hw2 _).h, ?_⟩
      dsimp only [tYes]
      rw [if_pos rfl]
      have hjl : j < ks.length := (List.getElem?_eq_some_iff.mp hy).1
      refine body j y _ H1 hy s1 _ fun x H2 hx s2 => ⟨_, s2.at List.mem_cons_self, sz_lt (by rw [List.length_map]; omega), xs ++ [x], by rw [List.length_append, hl]; rfl, mem_snoc hP (by rw [hl]; exact hx), ?_⟩
      rw [List.map_append]
      exact s2.set .hd rfl
  · rintro H1 ⟨xs, hl, hP, s1⟩
    exact k D xs H1 (by rw [hl, List.length_map]) hP (s1.fixL .hd (.is xs enc encW fun x _ => kn _ x))
/-! for -/
theorem g_forR (Pv : Nat → L2.St → Hp → Prop) (h0 : Pv 0 σ H)
    (hs : ∀ j σ' H', j < n → Pv j σ' H' → tb { D with nx := Pv (j + 1), ct := Pv (j + 1), bk := D.nx } (σ'.set i (some (.int (lo + j)))) H') (hd : ∀ σ' H', Pv n σ' H' → D.nx σ' H') : ForW (Itr lo n) (gName i) tb D σ H :=
  for_range Pv h0 hs hd
theorem g_forL (Pv : Nat → L2.St → Hp → Prop) (h0 : Pv 0 σ H) (hl : ∀ j σ' H', Pv j σ' H' → ∃ Φ' mt', S K C H' Φ' mt' ∧ (.ref a, .l ws) ∈ Φ')
    (hs : ∀ j w v σ' H', ws[j]? = some w → Pv j σ' H' → (∀ Φ' mt', S K C H' Φ' mt' → (.ref a, .l ws) ∈ Φ' → S K C H' ((v, w) :: Φ') mt') → tb { D with nx := Pv (j + 1), ct := Pv (j + 1), bk := D.nx } (σ'.set i (some v)) H')
    (hd : ∀ σ' H', Pv ws.length σ' H' → D.nx σ' H') : ForW (Itl K a) (gName i) tb D σ H := by
  refine ⟨fun j m σ H => m = ws.length - j ∧ j ≤ ws.length ∧ Pv j σ H, ⟨ws.length, by simp, Nat.zero_le _, h0⟩, ?_⟩
  rintro j m σ' H' ⟨rfl, hi, p⟩
  obtain ⟨Φ', mt', s', m'⟩ := hl j σ' H' p
  by_cases hlt : j < ws.length
  · obtain ⟨vs, v, h1, h2, h3⟩ := s'.grow m' j (List.getElem?_eq_getElem hlt)
    refine .inr ⟨⟨vs, v, h1, h2⟩, Pv (j + 1), fun σ2 H2 p' => ⟨ws.length - (j + 1), by omega, rfl, hlt, p'⟩, fun x H2 y => ?_⟩
    obtain ⟨e, y⟩ := y
    subst e
    refine hs j _ x σ' _ (List.getElem?_eq_getElem hlt) p fun Φ2 mt2 s2 m2 => ?_
    obtain ⟨vs2, v2, g1, g2, g3⟩ := s2.grow m2 j (List.getElem?_eq_getElem hlt)
    have := y vs2 g1
    rw [g2] at this
    cases this
    exact g3
  · have e : j = ws.length := by omega
    subst e
    obtain ⟨vs, hv, hlen, _⟩ := s'.open m'
    exact .inl ⟨⟨vs, hv, by omega⟩, hd _ _ p⟩
end

/-! ### more steps: lists put together, cut, made to change; marks made and asked -/
section
variable {K : PySem.W.Frag} {C : Addr} {σ : L2.St} {H H1 : Hp} {Φ : List (V × W)} {mt nt : List (Addr × (HO → Prop))} {Q : VK} {D : Ends} {tz tu tw : TS} {ta tb tc te to : TE} {t u : TT} {tl tr tk : TA} {v x y z : V} {vs us xs : List V} {ws ws' : List W} {w : W} {p a q : Addr}
class AppW (ws xs : List W) (zs : outParam (List W)) : Prop where
  h : ws ++ xs = zs
instance {ws xs : List W} : AppW ws xs (ws ++ xs) := ⟨rfl⟩
instance {xs : List W} : AppW [] xs xs := ⟨rfl⟩
instance {w : W} {ws xs zs : List W} [q : AppW ws xs zs] : AppW (w :: ws) xs (w :: zs) := ⟨by rw [List.cons_append, q.h]⟩
instance {ks : List Str} {xs : List W} {js : List Str} [q : AsS xs js] : AppW (ks.map W.s) xs ((ks ++ js).map W.s) := ⟨by rw [q.h, List.map_append]⟩
instance {ks js : List Str} : AppW (ks.map W.s) (js.map W.s) ((ks ++ js).map W.s) := ⟨by rw [List.map_append]⟩
instance {ks : List Int} {xs : List W} {js : List Int} [q : AsI xs js] : AppW (ks.map W.i) xs ((ks ++ js).map W.i) := ⟨by rw [q.h, List.map_append]⟩
instance {w : Str} {ks : List Str} : AppW [.s w] (ks.map W.s) ((w :: ks).map W.s) := ⟨rfl⟩
class TakeW (ws : List W) (n : Nat) (us : outParam (List W)) : Prop where
  h : ws.take n = us
instance {ws : List W} {n : Nat} : TakeW ws n (ws.take n) := ⟨rfl⟩
instance {n : Nat} : TakeW [] n [] := ⟨by cases n <;> rfl⟩
instance {ws : List W} : TakeW ws 0 [] := ⟨rfl⟩
instance {w : W} {ws us : List W} {n : Nat} [q : TakeW ws n us] : TakeW (w :: ws) (n + 1) (w :: us) := ⟨by rw [List.take_succ_cons, q.h]⟩
instance {α : Type} {ks : List α} {f : α → W} {n : Nat} : TakeW (ks.map f) n ((ks.take n).map f) := ⟨by rw [List.map_take]⟩
class DropW (ws : List W) (n : Nat) (us : outParam (List W)) : Prop where
  h : ws.drop n = us
instance {ws : List W} {n : Nat} : DropW ws n (ws.drop n) := ⟨rfl⟩
instance {n : Nat} : DropW [] n [] := ⟨by cases n <;> rfl⟩
instance {ws : List W} : DropW ws 0 ws := ⟨rfl⟩
instance {w : W} {ws us : List W} {n : Nat} [q : DropW ws n us] : DropW (w :: ws) (n + 1) us := ⟨by rw [List.drop_succ_cons, q.h]⟩
instance {α : Type} {ks : List α} {f : α → W} {n : Nat} : DropW (ks.map f) n ((ks.drop n).map f) := ⟨by rw [List.map_drop]⟩
theorem KnL.take : ∀ {vs : List V} {ws : List W} (n : Nat), vs.length = ws.length → KnL (vs.zip ws ++ Φ) (vs.take n) (ws.take n)
  | [], [], n, _ => by cases n <;> exact .nil
  | v :: vs, w :: ws, 0, _ => .nil
  | v :: vs, w :: ws, n + 1, h => .cons (.f List.mem_cons_self) (KnL.mono (fun q hq => List.mem_cons_of_mem _ hq) (KnL.take n (Nat.succ.inj h)))
  | [], _ :: _, _, h => nomatch h
  | _ :: _, [], _, h => nomatch h
theorem KnL.drop : ∀ {vs : List V} {ws : List W} (n : Nat), vs.length = ws.length → KnL (vs.zip ws ++ Φ) (vs.drop n) (ws.drop n)
  | [], [], n, _ => by cases n <;> exact .nil
  | v :: vs, w :: ws, 0, h => knl_zip h
  | v :: vs, w :: ws, n + 1, h => KnL.mono (fun q hq => List.mem_cons_of_mem _ hq) (KnL.drop n (Nat.succ.inj h))
  | [], _ :: _, _, h => nomatch h
  | _ :: _, [], _, h => nomatch h
theorem zip_sub {A : List (V × W)} : ∀ r ∈ Φ, r ∈ A ++ Φ := fun r hr => List.mem_append_right _ hr
theorem g_cat (s : S K C H Φ mt) (h1 : (.ref p, .l ws) ∈ Φ) (h2 : (.ref q, .l ws') ∈ Φ) (hz : ws.length + ws'.length ≤ 100000) {zs : List W} (ap : AppW ws ws' zs) (k : ∀ r H', S K C H' ((.ref r, .l zs) :: Φ) mt → Q (.ref r) H') : rCat (.ref p) (.ref q) H Q := by
  obtain ⟨vs, g1, g2, s1⟩ := s.openH h1
  obtain ⟨us, g3, g4, s2⟩ := s1.openH (zip_sub _ h2)
  refine ⟨p, q, vs, us, rfl, rfl, g1, g3, sz_of (by omega), fun r hr => k r _ ?_⟩
  have kn : KnL (us.zip ws' ++ (vs.zip ws ++ Φ)) (vs ++ us) zs := by
    rw [← ap.h]
    exact .app (KnL.mono zip_sub (knl_zip g2)) (knl_zip g4)
  exact (s2.addL hr (Ex.new hr) upd_same kn).to (fun z hz => by
    rcases List.mem_cons.mp hz with rfl | hz
    · exact List.mem_cons_self
    · exact List.mem_cons_of_mem _ (List.mem_append_right _ (List.mem_append_right _ hz))) (List.Sublist.refl _)
theorem cutV_to {vs : List V} (n : Nat) : cutV vs none (some (n : Int)) = vs.take n := by
  unfold cutV
  rw [HT.sIx_none, HT.sIx_nat, List.drop_zero, Nat.sub_zero]
  by_cases h : n ≤ vs.length
  · rw [Nat.min_eq_left h]
  · rw [Nat.min_eq_right (by omega), List.take_of_length_le (Nat.le_refl _), List.take_of_length_le (by omega)]
theorem cutV_from {vs : List V} (n : Nat) : cutV vs (some (n : Int)) none = vs.drop n := by
  unfold cutV
  rw [HT.sIx_none, HT.sIx_nat]
  by_cases h : n ≤ vs.length
  · rw [Nat.min_eq_left h, List.take_of_length_le (by rw [List.length_drop]; omega)]
  · rw [Nat.min_eq_right (by omega), List.drop_of_length_le (Nat.le_refl _), List.drop_of_length_le (by omega)]; simp
theorem g_slTo {i : Int} {n : Nat} (s : S K C H Φ mt) (h : (.ref p, .l ws) ∈ Φ) (hi : Ix i n) {us : List W} (tk : TakeW ws n us) (k : ∀ r H', S K C H' ((.ref r, .l us) :: Φ) mt → Q (.ref r) H') : rSlL K (.ref p) none (some i) H Q := by
  obtain ⟨vs, g1, g2, s1⟩ := s.open h
  obtain rfl := hi.h
  refine ⟨p, vs, rfl, g1, fun r hr => k r _ ?_⟩
  rw [cutV_to]
  exact (s1.addL hr (Ex.new hr) upd_same (by rw [← tk.h]; exact KnL.take n g2)).to (fun z hz => mem3 hz) (List.Sublist.refl _)
theorem g_slFrom {i : Int} {n : Nat} (s : S K C H Φ mt) (h : (.ref p, .l ws) ∈ Φ) (hi : Ix i n) {us : List W} (tk : DropW ws n us) (k : ∀ r H', S K C H' ((.ref r, .l us) :: Φ) mt → Q (.ref r) H') : rSlL K (.ref p) (some i) none H Q := by
  obtain ⟨vs, g1, g2, s1⟩ := s.open h
  obtain rfl := hi.h
  refine ⟨p, vs, rfl, g1, fun r hr => k r _ ?_⟩
  rw [cutV_from]
  exact (s1.addL hr (Ex.new hr) upd_same (by rw [← tk.h]; exact KnL.drop n g2)).to (fun z hz => mem3 hz) (List.Sublist.refl _)
theorem g_slS {t : Str} {lo hi : Option Int} (hz : t.length ≤ 100000) (k : Q (.str (cutS t lo hi)) H) : rSlS (.str t) lo hi H Q := ⟨t, rfl, sz_of hz, k⟩
/-! lists that may change -/
theorem g_mLst (h : tl σ H fun xs H1 => NewM xs H1 Q) : tMut (tLst tl) σ H Q := h
instance : St1 (tMut (tLst tl) σ H Q) (tl σ H fun xs H1 => NewM xs H1 Q) := ⟨g_mLst⟩
theorem g_newMM (s : S K C H Φ mt) (hz : xs.length ≤ 100000) (k : ∀ p H1, S K C H1 Φ ((p, Eq (.lst xs)) :: mt) → Q (.ref p) H1) : NewM xs H Q :=
  ⟨sz_of hz, fun p hp => k p _ (s.addM hp (Ex.new hp) upd_same rfl)⟩
instance {sp : Sp} {dvs : List V} {E : XK} : St1 (tMut (tCall sp dvs E tl) σ H Q) (tCall sp dvs E tl σ H Q) := ⟨fun h => h⟩
def rCatM : R2 := rCat
theorem g_mCat (h : ta σ H fun x H1 => tb σ H1 fun y H2 => rCatM x y H2 Q) : tMut (tOp rCat ta tb) σ H Q := h
instance : St1 (tMut (tOp rCat ta tb) σ H Q) (ta σ H fun x H1 => tb σ H1 fun y H2 => rCatM x y H2 Q) := ⟨g_mCat⟩
/-- the items that a list of items told stands for -/
class Vs (ws : List W) (vs : outParam (List V)) : Prop where
  h : ∀ (K : PySem.W.Frag) (C : Addr) (H : Hp) (us : List V), RepL K C H us ws → us = vs
instance : Vs [] [] := ⟨fun _ _ _ _ r => by cases r; rfl⟩
instance {w : W} {v : V} {ws : List W} {vs : List V} [a : Sc w v] [b : Vs ws vs] : Vs (w :: ws) (v :: vs) := ⟨fun K C H us r => by cases r with | cons h r => rw [a.h K C H _ h, b.h K C H _ r]⟩
instance {ks : List Str} : Vs (ks.map W.s) (ks.map V.str) := ⟨fun K C H us r => rep_strs r⟩
instance {ks : List Int} : Vs (ks.map W.i) (ks.map V.int) := ⟨fun K C H us r => rep_map (fun K C H v x r => by cases r; rfl) ks r⟩
theorem g_catM (s : S K C H Φ mt) (h1 : (.ref p, .l ws) ∈ Φ) (h2 : (.ref q, .l ws') ∈ Φ) (hz : ws.length + ws'.length ≤ 100000) {zs : List W} (ap : AppW ws ws' zs) (hv : Vs zs vs) (k : ∀ r H', S K C H' Φ ((r, Eq (.lst vs)) :: mt) → Q (.ref r) H') : rCatM (.ref p) (.ref q) H Q := by
  obtain ⟨vs1, g1, g2, s1⟩ := s.openH h1
  obtain ⟨us, g3, g4, s2⟩ := s1.openH (zip_sub _ h2)
  refine ⟨p, q, vs1, us, rfl, rfl, g1, g3, sz_of (by omega), fun r hr => k r _ ?_⟩
  have kn : KnL (us.zip ws' ++ (vs1.zip ws ++ Φ)) (vs1 ++ us) zs := by
    rw [← ap.h]
    exact .app (KnL.mono zip_sub (knl_zip g2)) (knl_zip g4)
  have := hv.h K C H _ (s2.repL kn)
  subst this
  exact s.addM hr (Ex.new hr) upd_same rfl
def rListM (K : PySem.W.Frag) : List V → Hp → VK → Prop := rListS K
theorem g_mList (h : tl σ H fun vs H1 => rListM K vs H1 Q) : tMut (tCB (rListS K) tl) σ H Q := h
instance : St1 (tMut (tCB (rListS K) tl) σ H Q) (tl σ H fun vs H1 => rListM K vs H1 Q) := ⟨g_mList⟩
theorem g_listM (s : S K C H Φ mt) (h : (.ref p, .l ws) ∈ Φ) (hv : Vs ws vs) (k : ∀ q H', S K C H' Φ ((q, Eq (.lst vs)) :: mt) → Q (.ref q) H') : rListM K [.ref p] H Q := by
  obtain ⟨us, h1, h2, s'⟩ := s.open h
  have := hv.h K C H _ (s'.repL (knl_zip h2))
  subst this
  exact ⟨p, _, rfl, .inl h1, fun q hn => k q _ (s.addM hn (Ex.new hn) upd_same rfl)⟩
/-- a cell, handed on: told as it stands, from here on it stays -/
theorem S.freeze (s : S K C H Φ mt) (h : RmM a (Eq (.lst vs)) mt nt) (kn : KnL Φ vs ws) : S K C H ((.ref a, .l ws) :: Φ) nt := s.fixL h kn
theorem g_joinM {ks : List Str} {c : Str} (s : S K C H Φ mt) (h : (p, Eq (.lst (ks.map V.str))) ∈ mt) (hz : (ks.map (·.length)).sum + ks.length * c.length ≤ 16777216) (k : Q (.str (Txt.join c ks)) H) : rJoin K (.str c) [.ref p] H Q :=
  ⟨c, p, ks, rfl, rfl, .inl (sq_of (s.at h)), hz, k⟩
theorem g_appendS {ks : List Str} {y : Str} (s : S K C H Φ mt) (h : (p, Eq (.lst (ks.map V.str))) ∈ mt) (hz : ks.length < 100000) (hs : SetM p (Eq (.lst ((ks ++ [y]).map V.str))) mt nt) (k : ∀ H', S K C H' Φ nt → Q .non H') : rAppend (.ref p) [.str y] H Q :=
  g_append s h (by rw [List.length_map]; exact hz) (by rw [show ks.map V.str ++ [V.str y] = (ks ++ [y]).map V.str by rw [List.map_append]; rfl]; exact hs) k
theorem g_setLS {R : Hp → Prop} {ks : List Str} {y : Str} {i : Int} {j : Nat} (s : S K C H Φ mt) (h : (p, Eq (.lst (ks.map V.str))) ∈ mt) (hi : Ix i j) (hj : j < ks.length) (hs : SetM p (Eq (.lst ((ks.set j y).map V.str))) mt nt) (k : ∀ H', S K C H' Φ nt → R H') : rSetL (.ref p) (.int i) (.str y) H R := by
  obtain rfl := hi.h
  exact ⟨p, _, j, j, rfl, rfl, s.at h, ixN_nat (by rw [List.length_map]; exact hj), k _ (s.set hs (by rw [List.map_set]))⟩
theorem sum_le {ks : List Str} {n : Nat} (h : ∀ k ∈ ks, k.length ≤ n) : (ks.map (·.length)).sum ≤ ks.length * n := by
  induction ks with
  | nil => simp
  | cons a l ih =>
    have h1 := h a List.mem_cons_self
    have h2 := ih fun s hs => h s (List.mem_cons_of_mem _ hs)
    rw [List.map_cons, List.sum_cons, List.length_cons, Nat.succ_mul]
    omega
/-! int of a truth -/
theorem g_intNS {m n : Str} (h1 : m = n → Q (.int 0) H) (h2 : ¬ m = n → Q (.int 1) H) : qInt1 [.bl (!decide (V.str m = V.str n))] H Q := by
  refine g_intB ?_
  by_cases h : m = n
  · rw [decide_eq_true (h ▸ rfl)]; exact h1 h
  · rw [decide_eq_false (fun e => h (V.str.inj e))]; exact h2 h
theorem g_intD {P : Prop} {i : Decidable P} (h1 : P → Q (.int 1) H) (h2 : ¬ P → Q (.int 0) H) : qInt1 [.bl (decide P)] H Q := by
  refine g_intB ?_
  by_cases h : P
  · rw [decide_eq_true h]; exact h1 h
  · rw [decide_eq_false h]; exact h2 h
/-! f-strings -/
theorem g_jNil {acc : Str} {R : Str → Hp → Prop} (h : R acc H) : tJs [] acc σ H R := h
theorem g_jCons {ts : List TE} {acc : Str} {R : Str → Hp → Prop} (h : te σ H fun x H1 => ∃ y : Str, x = .str y ∧ (acc ++ y).length ≤ sizeLine ∧ tJs ts (acc ++ y) σ H1 R) : tJs (te :: ts) acc σ H R := h
end
/-! ### marks -/
class OiV (v : V) (o : outParam (Option Int)) : Prop where
  h : v = oi o
instance : OiV .non none := ⟨rfl⟩
instance {i : Int} : OiV (.int i) (some i) := ⟨rfl⟩
instance {o : Option Int} : OiV (oi o) o := ⟨rfl⟩
section
variable {K : PySem.W.Frag} {C : Addr} {σ : L2.St} {H H1 : Hp} {Φ : List (V × W)} {mt nt : List (Addr × (HO → Prop))} {Q : VK} {ta te : TE} {tl tr tk : TA} {v x y z v4 v5 mk : V} {vs us xs dvs : List V} {p a q : Addr} {sp : Sp} {E : XK} {lt pts : Str} {num : Int} {ks : List Str} {yr cp : Option Int} {n n' : Nat} {gV : List V → List V → List V}
def MakeW (C : Addr) (sp : Sp) (E : XK) (g : V → List V) (H1 : Hp) (Q : VK) : Prop := ∀ x dx, H1 x = none → H1 dx = none → dx ≠ x → sp (g (.ref x)) (upd (upd H1 dx (.own x)) x (.ins C dx [])) (fun v H2 => v = .non ∧ Q (.ref x) H2) E
theorem g_make (h : tl σ H fun vs H1 => MakeW C sp E (fun x => x :: (vs ++ dvs)) H1 Q) : tMake C sp dvs E tl σ H Q := h
instance : St1 (tMake C sp dvs E tl σ H Q) (tl σ H fun vs H1 => MakeW C sp E (fun x => x :: (vs ++ dvs)) H1 Q) := ⟨g_make⟩
def MakeN (C : Addr) (n n' : Nat) (sp : Sp) (gV : List V → List V → List V) (E : XK) (vs zs : List V) (H2 : Hp) (Q : VK) : Prop := vs.length = n ∧ zs.length = n' ∧ MakeW C sp E (fun x => gV (x :: vs) zs) H2 Q
theorem g_makeN (h : tl σ H fun vs H1 => tk σ H1 fun zs H2 => MakeN C n n' sp gV E vs zs H2 Q) : tMakeN C n n' sp gV E tl tk σ H Q := h
instance : St1 (tMakeN C n n' sp gV E tl tk σ H Q) (tl σ H fun vs H1 => tk σ H1 fun zs H2 => MakeN C n n' sp gV E vs zs H2 Q) := ⟨g_makeN⟩
theorem g_makeK (h : tl σ H fun vs H1 => tk σ H1 fun zs H2 => MakeN C n n' sp gV E vs zs H2 Q) : tMakeK C n n' sp gV E tl tk σ H Q := h
instance : St1 (tMakeK C n n' sp gV E tl tk σ H Q) (tl σ H fun vs H1 => tk σ H1 fun zs H2 => MakeN C n n' sp gV E vs zs H2 Q) := ⟨g_makeK⟩
theorem g_mkN (h1 : vs.length = n) (h2 : xs.length = n') (h : MakeW C sp E (fun x => gV (x :: vs) xs) H Q) : MakeN C n n' sp gV E vs xs H Q := ⟨h1, h2, h⟩
theorem mkin_l (s : S K C H Φ mt) (h : (.ref a, .l (ks.map W.s)) ∈ Φ) : MkIn H (.ref a) ks := by
  obtain ⟨vs, h1, h2, s'⟩ := s.openH h
  obtain rfl := rep_strs (s'.repL (knl_zip h2))
  exact .inr ⟨a, rfl, .inl h1⟩
theorem mkin_l0 (s : S K C H Φ mt) (h : (.ref a, .l []) ∈ Φ) : MkIn H (.ref a) [] := mkin_l (ks := []) s h
theorem mkin_t (s : S K C H Φ mt) (h : (.ref a, .t (ks.map W.s)) ∈ Φ) : MkIn H (.ref a) ks := by
  obtain ⟨⟨kb, g1, g2, g3⟩, d⟩ := s
  cases g2 _ h with
  | t hq hr => obtain rfl := rep_strs hr; exact .inr ⟨a, rfl, .inr (g1 _ _ hq)⟩
theorem mkin_m (s : S K C H Φ mt) (h : (a, Eq (.lst (ks.map V.str))) ∈ mt) : MkIn H (.ref a) ks := .inr ⟨a, rfl, .inl (s.at h)⟩
theorem mkin_n : MkIn H .non [] := .inl ⟨rfl, rfl⟩
theorem g_mark {g : V → List V} (s : S K C H Φ mt) (hv : ∀ x, g x = [x, .str lt, .int num, .str pts, mk, v4, v5]) (c4 : OiV v4 yr) (c5 : OiV v5 cp) (hm : MkIn H mk ks) (ok : (⟨lt, num, pts, ks, yr, cp⟩ : MK).Ok)
    (k : ∀ x H', S K C H' ((.ref x, .m ⟨lt, num, pts, ks, yr, cp⟩) :: Φ) mt → Q (.ref x) H') : MakeW C (spMark C) E g H Q := by
  intro x dx hx hdx hne
  rw [hv, c4.h, c5.h]
  have e1 : Ex H (upd (upd H dx (.own x)) x (.ins C dx [])) := (Ex.new hdx).trans (Ex.new (by rw [upd_ne hne.symm]; exact hx))
  exact ⟨H, x, dx, ⟨lt, num, pts, ks, yr, cp⟩, mk, rfl, ok, e1, hx, upd_same, hm.ex e1, fun H' e h => ⟨rfl, k x H' (s.addMark hx e h ok)⟩⟩
/-! methods of marks -/
def MethW (C : Addr) (m : Str) (sp : Sp) (dvs : List V) (E : XK) (t : TA) (σ : L2.St) (Q : VK) (x : V) (H1 : Hp) : Prop := ∃ a dx fs, x = .ref a ∧ H1 a = some (.ins C dx fs) ∧ fs.lookup m = none ∧ t σ H1 fun vs H2 => sp (x :: (vs ++ dvs)) H2 Q E
theorem g_meth {m : Str} (h : ta σ H fun x H1 => MethW C m sp dvs E tl σ Q x H1) : tMeth C m sp dvs E ta tl σ H Q := h
instance {m : Str} : St1 (tMeth C m sp dvs E ta tl σ H Q) (ta σ H fun x H1 => MethW C m sp dvs E tl σ Q x H1) := ⟨g_meth⟩
theorem g_methM {m : Str} {k : MK} (s : S K C H Φ mt) (h : (.ref a, .m k) ∈ Φ) (hm : m ≠ "_parts") (hm2 : m ≠ "_text") (q : tl σ H fun vs H2 => sp (.ref a :: (vs ++ dvs)) H2 Q E) : MethW C m sp dvs E tl σ Q (.ref a) H := by
  cases s.rep (.f h) with
  | m ha ok =>
    obtain ⟨dx, pa, ma, h1, h2, h3⟩ := ha
    exact ⟨a, dx, _, rfl, h1, by rw [lk_tail (beq_eq_false_iff_ne.mpr hm), lk_tail (beq_eq_false_iff_ne.mpr hm2)]; rfl, q⟩
theorem S.mark {k : MK} (s : S K C H Φ mt) (h : (.ref a, .m k) ∈ Φ) : MarkAt C H a k ∧ k.Ok := by
  cases s.rep (.f h) with
  | m ha ok => exact ⟨ha, ok⟩
end

/-! ### what values are as data: compared, shown -/
mutual
def W.data : W → PyData
  | .i k => .int k
  | .b k => .bool k
  | .n => .none
  | .s k => .str k
  | .l ks => .list (W.datas ks)
  | .t ks => .tuple (W.datas ks)
  | .m _ => .none
  | .q _ => .none
def W.datas : List W → List PyData
  | [] => []
  | x :: xs => x.data :: W.datas xs
end
mutual
def W.plain : W → Bool
  | .m _ => false
  | .q _ => false
  | .l ks => W.plains ks
  | .t ks => W.plains ks
  | .i _ => true
  | .b _ => true
  | .n => true
  | .s _ => true
def W.plains : List W → Bool
  | [] => true
  | x :: xs => x.plain && W.plains xs
end
theorem rep_dp {K : PySem.W.Frag} {C : Addr} {H : Hp} {v : V} {w : W} (r : Rep K C H v w) : w.plain = true → Dp K H v w.data :=
  Rep.rec (motive_1 := fun v w _ => w.plain = true → Dp K H v w.data) (motive_2 := fun vs ws _ => W.plains ws = true → DpAll K H vs (W.datas ws))
    (fun n _ => by simp only [W.data]; exact .int n) (fun c _ => by simp only [W.data]; exact .bl c) (fun _ => by simp only [W.data]; exact .non) (fun t _ => by simp only [W.data]; exact .str t)
    (fun h r ih p => by simp only [W.data]; exact .lst (sq_of h) (ih (by simpa only [W.plain] using p))) (fun h r ih p => by simp only [W.data]; exact .tup (st_of h) (ih (by simpa only [W.plain] using p)))
    (fun _ _ p => by simp [W.plain] at p) (fun _ p => by simp [W.plain] at p) (fun _ => by simp only [W.datas]; exact .nil)
    (fun h r ih1 ih2 p => by simp only [W.plains, Bool.and_eq_true] at p; simp only [W.datas]; exact .cons (ih1 p.1) (ih2 p.2)) r
class SOk (t : Str) : Prop where
  h : PyData.strOk t = true
  l : t.length ≤ 60000
class SOkL (ks : List Str) : Prop where
  h : ∀ k ∈ ks, PyData.strOk k = true ∧ k.length ≤ 2000
  l : ks.length ≤ 100
class IOk (n : Int) : Prop where
  h : n.natAbs.log2 < 1920
class OOk (o : Option Int) : Prop where
  h : ∀ n, o = some n → n.natAbs.log2 < 1920
/-- a value that shows, and compares: d its depth, z how long it shows -/
class Ly (w : W) (d z : outParam Nat) : Prop where
  p : w.plain = true
  c : w.data.canLay0 = true
  d1 : w.data.depth ≤ d
  s : w.data.showable = true
  n1 : w.data.hasDict = false
  z1 : w.data.shown.length ≤ z
class LyL (ws : List W) (d z n : outParam Nat) : Prop where
  p : W.plains ws = true
  c : PyData.canLayAll0 (W.datas ws) = true
  d1 : PyData.depthAll (W.datas ws) ≤ d
  s : PyData.showableAll (W.datas ws) = true
  n1 : PyData.hasDictAll (W.datas ws) = false
  z1 : ((PyData.shownAll (W.datas ws)).map (·.length)).sum ≤ z
  e : (PyData.shownAll (W.datas ws)).length ≤ n
theorem shown_strL {t : Str} (h : PyData.strOk t = true) : (reprText t).length ≤ 10 * t.length + 2 := by
  have := StrLaws.reprText_len t fun c hc => by
    unfold PyData.strOk at h
    rw [Array.all_eq_true_iff_forall_mem] at h
    have := h c (by simpa using hc)
    simp at this
    omega
  omega
theorem shown_str {t : Str} [q : SOk t] : (reprText t).length ≤ 600002 := by
  have := shown_strL q.h
  have := q.l
  omega
theorem shown_int' {n : Int} (h : n.natAbs.log2 < 1920) : (Str.ofString (toString n)).length ≤ 1921 := int_len h
instance {t : Str} [q : SOk t] : Ly (.s t) 0 600002 := ⟨rfl, by simp only [W.data, PyData.canLay0, q.h], by simp only [W.data, PyData.depth, Nat.le_refl], by simp only [W.data, PyData.showable], by simp only [W.data, PyData.hasDict], by simp only [W.data, PyData.shown]; exact shown_str⟩
instance {n : Int} [q : IOk n] : Ly (.i n) 0 1921 := ⟨rfl, by simp only [W.data, PyData.canLay0], by simp only [W.data, PyData.depth, Nat.le_refl], by simp only [W.data, PyData.showable, q.h, decide_true], by simp only [W.data, PyData.hasDict], by simp only [W.data, PyData.shown]; exact shown_int' q.h⟩
instance : Ly .n 0 4 := ⟨rfl, by simp only [W.data, PyData.canLay0], by simp only [W.data, PyData.depth, Nat.le_refl], by simp only [W.data, PyData.showable], by simp only [W.data, PyData.hasDict], by simp only [W.data, PyData.shown]; decide +kernel⟩
instance {b : Bool} : Ly (.b b) 0 5 := ⟨rfl, by simp only [W.data, PyData.canLay0], by simp only [W.data, PyData.depth, Nat.le_refl], by simp only [W.data, PyData.showable], by simp only [W.data, PyData.hasDict], by simp only [W.data, PyData.shown]; cases b <;> decide +kernel⟩
instance {o : Option Int} [q : OOk o] : Ly (W.o o) 0 1921 := by
  cases o with
  | none => exact ⟨rfl, by simp only [W.o, W.data, PyData.canLay0], by simp only [W.o, W.data, PyData.depth, Nat.le_refl], by simp only [W.o, W.data, PyData.showable], by simp only [W.o, W.data, PyData.hasDict], by simp only [W.o, W.data, PyData.shown]; decide +kernel⟩
  | some n => exact ⟨rfl, by simp only [W.o, W.data, PyData.canLay0], by simp only [W.o, W.data, PyData.depth, Nat.le_refl], by simp only [W.o, W.data, PyData.showable, q.h n rfl, decide_true], by simp only [W.o, W.data, PyData.hasDict], by simp only [W.o, W.data, PyData.shown]; exact shown_int' (q.h n rfl)⟩
instance : LyL [] 0 0 0 := ⟨rfl, by simp only [W.datas, PyData.canLayAll0], by simp [W.datas, PyData.depthAll], by simp only [W.datas, PyData.showableAll], by simp only [W.datas, PyData.hasDictAll], by simp [W.datas, PyData.shownAll], by simp [W.datas, PyData.shownAll]⟩
instance {w : W} {ws : List W} {d e z y n : Nat} [a : Ly w d z] [b : LyL ws e y n] : LyL (w :: ws) (max d e) (z + y) (n + 1) := ⟨by simp only [W.plains, a.p, b.p, Bool.and_self], by simp only [W.datas, PyData.canLayAll0, a.c, b.c, Bool.and_self], by simp only [W.datas, PyData.depthAll]; have := a.d1; have := b.d1; omega, by simp only [W.datas, PyData.showableAll, a.s, b.s, Bool.and_self], by simp only [W.datas, PyData.hasDictAll, a.n1, b.n1, Bool.or_self],
  by simp only [W.datas, PyData.shownAll, List.map_cons, List.sum_cons]; have := a.z1; have := b.z1; omega, by simp only [W.datas, PyData.shownAll, List.length_cons]; have := b.e; omega⟩
theorem datas_strs : ∀ ks : List Str, W.datas (ks.map W.s) = ks.map PyData.str
  | [] => rfl
  | k :: ks => by simp only [List.map_cons, W.datas, W.data, datas_strs ks]
theorem plains_strs : ∀ ks : List Str, W.plains (ks.map W.s) = true
  | [] => rfl
  | k :: ks => by simp only [List.map_cons, W.plains, W.plain, plains_strs ks, Bool.and_self]
theorem strs_all : ∀ ks : List Str, (∀ k ∈ ks, PyData.strOk k = true ∧ k.length ≤ 2000) → PyData.showableAll (ks.map PyData.str) = true ∧ PyData.hasDictAll (ks.map PyData.str) = false ∧ ((PyData.shownAll (ks.map PyData.str)).map (·.length)).sum ≤ ks.length * 20002 ∧ (PyData.shownAll (ks.map PyData.str)).length = ks.length
  | [], _ => by simp [PyData.showableAll, PyData.hasDictAll, PyData.shownAll]
  | k :: ks, h => by
    obtain ⟨h1, h2, h3, h4⟩ := strs_all ks fun j hj => h j (List.mem_cons_of_mem _ hj)
    have := h k List.mem_cons_self
    have h5 := shown_strL this.1
    have h6 := this.2
    refine ⟨by simp only [List.map_cons, PyData.showableAll, PyData.showable, h1, Bool.and_self], by simp only [List.map_cons, PyData.hasDictAll, PyData.hasDict, h2, Bool.or_self], ?_, by simp only [List.map_cons, PyData.shownAll, List.length_cons, h4]⟩
    simp only [List.map_cons, PyData.shownAll, PyData.shown, List.sum_cons, List.length_cons]
    omega
instance {ks : List Str} [q : SOkL ks] : LyL (ks.map W.s) 0 2000200 100 := by
  obtain ⟨h1, h2, h3, h4⟩ := strs_all ks q.h
  have hl := q.l
  exact ⟨plains_strs ks, by rw [datas_strs]; exact lay_strs ks fun s hs => (q.h s hs).1, by rw [datas_strs, depth_strs]; exact Nat.le_refl 0, by rw [datas_strs]; exact h1, by rw [datas_strs]; exact h2, by rw [datas_strs]; omega, by rw [datas_strs, h4]; exact hl⟩
instance {ws : List W} {d z n : Nat} [a : LyL ws d z n] : Ly (.l ws) (d + 1) (z + 2 * n + 3) := ⟨by simp only [W.plain, a.p], by simp only [W.data, PyData.canLay0, a.c], by simp only [W.data, PyData.depth]; have := a.d1; omega, by simp only [W.data, PyData.showable, a.s], by simp only [W.data, PyData.hasDict, a.n1],
  by simp only [W.data, PyData.shown]; have := listText_len_le (PyData.shownAll (W.datas ws)); have := a.z1; have := a.e; omega⟩
instance {ws : List W} {d z n : Nat} [a : LyL ws d z n] : Ly (.t ws) (d + 1) (z + 2 * n + 3) := ⟨by simp only [W.plain, a.p], by simp only [W.data, PyData.canLay0, a.c], by simp only [W.data, PyData.depth]; have := a.d1; omega, by simp only [W.data, PyData.showable, a.s], by simp only [W.data, PyData.hasDict, a.n1],
  by simp only [W.data, PyData.shown]; have := tupleText_len_le (PyData.shownAll (W.datas ws)); have := a.z1; have := a.e; omega⟩
instance : SOk "" := ⟨by decide +kernel, by decide +kernel⟩
section
variable {K : PySem.W.Frag} {C : Addr} {H : Hp} {Φ : List (V × W)} {mt nt : List (Addr × (HO → Prop))} {Q : VK} {x y v : V} {w w' : W} {d e z z' : Nat} {ks : List Str} {p : Addr}
inductive KnM (Φ : List (V × W)) (mt : List (Addr × (HO → Prop))) : V → W → Prop
  | k {v : V} {w : W} (h : Kn Φ v w) : KnM Φ mt v w
  | c {p : Addr} {ks : List Str} (h : (p, Eq (.lst (ks.map V.str))) ∈ mt) : KnM Φ mt (.ref p) (.l (ks.map W.s))
theorem S.repM (s : S K C H Φ mt) (h : KnM Φ mt v w) : Rep K C H v w := by
  cases h with
  | k h => exact s.rep h
  | c h => exact .l (s.at h) (RepL.map V.str W.s _ fun x _ => .s x)
theorem g_eqD (s : S K C H Φ mt) (h1 : KnM Φ mt x w) (h2 : KnM Φ mt y w') (l1 : Ly w d z) (l2 : Ly w' e z') (hd : d ≤ 64) (he : e ≤ 64) (k : Q (.bl (PyData.eqv w.data w'.data)) H) : rEqD K x y H Q :=
  ⟨_, _, rep_dp (s.repM h1) l1.p, rep_dp (s.repM h2) l2.p, by unfold SeqAt.shaped; rw [l1.c, decide_eq_true (Nat.le_trans l1.d1 hd)]; rfl, by unfold SeqAt.shaped; rw [l2.c, decide_eq_true (Nat.le_trans l2.d1 he)]; rfl, k⟩
theorem g_neD (s : S K C H Φ mt) (h1 : KnM Φ mt x w) (h2 : KnM Φ mt y w') (l1 : Ly w d z) (l2 : Ly w' e z') (hd : d ≤ 64) (he : e ≤ 64) (k : Q (.bl (!PyData.eqv w.data w'.data)) H) : rNeD K x y H Q :=
  ⟨_, _, rep_dp (s.repM h1) l1.p, rep_dp (s.repM h2) l2.p, by unfold SeqAt.shaped; rw [l1.c, decide_eq_true (Nat.le_trans l1.d1 hd)]; rfl, by unfold SeqAt.shaped; rw [l2.c, decide_eq_true (Nat.le_trans l2.d1 he)]; rfl, k⟩
theorem g_eqD0 (s : S K C H Φ mt) (h1 : KnM Φ mt x w) (h2 : KnM Φ mt y w) (l1 : Ly w d z) (hd : d ≤ 64) (k : Q (.bl true) H) : rEqD K x y H Q :=
  g_eqD s h1 h2 l1 l1 hd hd (by rw [SeqAt.eqv_refl _ l1.c]; exact k)
theorem g_neD0 (s : S K C H Φ mt) (h1 : KnM Φ mt x w) (h2 : KnM Φ mt y w) (l1 : Ly w d z) (hd : d ≤ 64) (k : Q (.bl false) H) : rNeD K x y H Q :=
  g_neD s h1 h2 l1 l1 hd hd (by rw [SeqAt.eqv_refl _ l1.c]; exact k)
theorem g_repr (s : S K C H Φ mt) (h1 : KnM Φ mt (.ref p) w) (l1 : Ly w d z) (hd : d ≤ 60) (hz : z ≤ 16000000) (k : w.data.shown.length ≤ z → Q (.str w.data.shown) H) : qRepr K [.ref p] H Q :=
  ⟨p, _, rfl, rep_dp (s.repM h1) l1.p, l1.s, l1.n1, Nat.le_trans l1.d1 hd, Nat.le_trans (Nat.le_trans l1.z1 hz) (by decide), k l1.z1⟩
theorem g_tupOfM (s : S K C H Φ mt) (h : (p, Eq (.lst (ks.map V.str))) ∈ mt) (k : ∀ q H', S K C H' ((.ref q, .t (ks.map W.s)) :: Φ) mt → Q (.ref q) H') : rTupOf K [.ref p] H Q :=
  ⟨p, _, rfl, .inl ⟨sq_of (s.at h), fun q hn => k q _ (s.addT hn (Ex.new hn) upd_same (.is _ V.str W.s fun x _ => .s x))⟩⟩
end

/-! ### == and != of an own __eq__, with anything -/
section
open PySem.W PyProof.Rows
variable {prog : Program} {w : World} {A : Around} {E : Value → Shared → Prop} {s : Shared} {K : PySem.W.Frag} {x C f L : Addr} {ox : Obj} {od : Option Obj} {b tb : Value} {h₀ : Heap} {m : Str → Option Value}
theorem ifBound_objNe {M : Model} {args : List Value} {Q : Option Value → Shared → Prop} (X : K.In s.heap) (I : PySem.W.InstAt s.heap x ox C od) (hs : PySem.W.findIn K (.ref C) "__ne__" = some (some (.builtin "object.__ne__")))
    (h : wpAny M A (call (.builtin "object.__ne__") (.ref x :: args)) (fun v => Q (some v)) E s) : wpAny M A (callSpecialIfBound? (.ref x) "__ne__" args) Q E s := by
  simp only [callSpecialIfBound?, bindSpecialIfBound?]
  refine wpAny_holding (wpAny_bind (wpAny_bind (wpAny_bind (I.type.here ((PySem.W.looks_findIn X hs).here ?_)))))
  refine wpAny_bind (wpAny_askSetting (wpAny_ite ?_))
  have fin : wpAny M A (call (.builtin "object.__ne__") ([.ref x] ++ args) >>= fun v => pure (some v)) Q E s := wpAny_bind (wpAny_mono h (fun v s' h' => wpAny_pure h') fun _ _ h' => h')
  split
  · exact wpAny_bind (wpAny_of_eq (F.cmp_object.ne.bind _) (wpAny_pure (by exact fin)))
  · exact wpAny_tryCatch (wpAny_bind (wpAny_of_eq (F.cmp_object.ne.bind _) (wpAny_pure (by exact fin))))
theorem entry_ne {Q : Fin → Shared → Prop} (hu : A.units < cLine) (X : K.In s.heap) (I : PySem.W.InstAt s.heap x ox C od) (he : PySem.W.findIn K (.ref C) "__eq__" = some (some (.ref f))) (hf : PySem.W.isFn K (.ref f) = true)
    (hcall : wpAny (model prog w) A (call (.ref f) [.ref x, b]) (fun v s' => ∃ k, v = .bool k ∧ Q (.done (.ret (.bool (!k)))) s') E s) :
    wpAny (model prog w) A (Builtin.«object.__ne__» ⟨[.ref x, b], []⟩) Q E s := by
  unfold Builtin.«object.__ne__»
  repeat (first
    | with_reducible refine wpAny_cRoomFor hu ?_
    | (refine wpAny_bind (m := callSpecialIfBound? (.ref x) (Str.ofString "__eq__") [b])
        (PySem.W.ifBound_K X I he hf (wpAny_mono hcall (fun r s' hr => by
          obtain ⟨b, rfl, hq⟩ := hr
          repeat (first | exact hq | exact wpAny_pure hq | exact wpAny_truthy_bool hq | (refine wpAny_bind (m := truthy (.bool _)) (wpAny_truthy_bool ?_)) | wp_step)) fun _ _ e => e)))
    | wp_step)
theorem ne_K {Q : Value → Shared → Prop} (hu : A.units + 1 < cLine) (F' : PyProof.Rows.Fr h₀ L s.heap m) (X₀ : K.In h₀) (I : PySem.W.InstAt s.heap x ox C od) (hb : PySem.W.Looks (model prog w) s.heap (typeOf b) tb) (hn : PySem.W.notFirst K C tb = true)
    (hm : PySem.W.mroIn K C (.type "object") = some true) (hs : PySem.W.findIn K (.ref C) "__ne__" = some (some (.builtin "object.__ne__"))) (he : PySem.W.findIn K (.ref C) "__eq__" = some (some (.ref f))) (hf : PySem.W.isFn K (.ref f) = true)
    (h : wpAny (model prog w) A.in1 (call (.ref f) [.ref x, b]) (fun v s' => ∃ k, v = .bool k ∧ Q (.bool (!k)) s') E s) : wpAny (model prog w) A (richCompare .NotEq (.ref x) b) Q E s := by
  have X := X₀.keeps F'.keep
  have one : wpAny (model prog w) A (tryCompare (.ref x) "__ne__" b) (fun r s' => ∃ v, r = some v ∧ Q v s') E s := by
    unfold tryCompare
    refine wpAny_bind (ifBound_objNe X I hs (wpAny_call (codeAny_call_builtin F.cmp_object.ne.plain F.cmpEntry_ne (PySem.W.check_slot F.cmpKind_ne F.cmpSplit_ne (I.type.andThen (PySem.W.looks_mroIn X hm)) (F.cmpArgs_ne _ _)
      (entry_ne (A := A.in1) hu X I he hf (wpAny_mono h (fun v s' hv => ?_) fun _ _ e => e))))))
    obtain ⟨k, rfl, hq⟩ := hv
    first | exact ⟨k, rfl, wpAny_pure ⟨_, rfl, hq⟩⟩ | exact ⟨k, rfl, ⟨_, rfl, hq⟩⟩
  unfold richCompare
  simp only [oneThing_ref, cmpInfo_NotEq]
  refine wpAny_holding (wpAny_bind (wpAny_cRoomFor (Nat.lt_of_succ_lt hu) ?_))
  refine wpAny_bind (I.type.here (wpAny_bind (hb.here ?_)))
  split
  · rename_i q
    have e : PySem.W.subIn K tb (.ref C) = some false := by
      rcases Bool.or_eq_true_iff.mp hn with e | e
      · rw [beq_iff_eq.mp e] at q; simp at q
      · exact beq_iff_eq.mp e
    refine wpAny_bind ((PySem.W.looks_subIn X e).here ?_)
    simp only [Bool.false_eq_true, if_false]
    refine wpAny_bind (m := tryCompare (.ref x) _ b) (wpAny_mono one (fun r s' z => ?_) fun _ _ e => e)
    obtain ⟨v, rfl, hq⟩ := z
    exact wpAny_pure hq
  · refine wpAny_bind (wpAny_pure ?_)
    simp only [Bool.false_eq_true, if_false]
    refine wpAny_bind (m := tryCompare (.ref x) _ b) (wpAny_mono one (fun r s' z => ?_) fun _ _ e => e)
    obtain ⟨v, rfl, hq⟩ := z
    exact wpAny_pure hq
/-- the kinds of things of the model that are no instances -/
inductive KdT (H : Hp) : V → String → Prop where
  | non : KdT H .non "NoneType"
  | bl (k : Bool) : KdT H (.bl k) "bool"
  | int (i : Int) : KdT H (.int i) "int"
  | str (t : Str) : KdT H (.str t) "str"
  | lst {a : Addr} {xs : List V} (e : H a = some (.lst xs)) : KdT H (.ref a) "list"
  | tup {a : Addr} {xs : List V} (e : H a = some (.tup xs)) : KdT H (.ref a) "tuple"
  | dK {a : Addr} {kvs : List (Key × V)} (e : H a = some (.dK kvs)) : KdT H (.ref a) "dict"
theorem looks_is {v : Value} {T : String} (h : s.TypeIs v T) : PySem.W.Looks (model prog w) s.heap (typeOf v) (.type T) := by
  cases v with
  | ref a => obtain ⟨o, ho, hc⟩ := h; exact fun A Q E s k q => wpAny_typeOf_ref (k _ _ ho) (by rw [hc]; exact q)
  | _ => exact PySem.W.Looks.of_pure h
theorem KdT.sub {H : Hp} {y : V} {T : String} (k : KdT H y T) : PySem.W.subIn K (.type T) (.ref C) = some false := by
  have go : ∀ l, fastBuiltinMro T = some l → (l.contains (.ref C)) = false → PySem.W.subIn K (.type T) (.ref C) = some false := fun l e h => by
    show (fastBuiltinMro T).map (·.contains (.ref C)) = some false
    rw [e, Option.map_some, h]
  cases k
  · exact go _ (by decide +kernel : fastBuiltinMro "NoneType" = some [.type "NoneType", .type "object"]) (by simp)
  · exact go _ (by decide +kernel : fastBuiltinMro "bool" = some [.type "bool", .type "int", .type "object"]) (by simp)
  · exact go _ (by decide +kernel : fastBuiltinMro "int" = some [.type "int", .type "object"]) (by simp)
  · exact go _ (by decide +kernel : fastBuiltinMro "str" = some [.type "str", .type "object"]) (by simp)
  · exact go _ (by decide +kernel : fastBuiltinMro "list" = some [.type "list", .type "object"]) (by simp)
  · exact go _ (by decide +kernel : fastBuiltinMro "tuple" = some [.type "tuple", .type "object"]) (by simp)
  · exact go _ (by decide +kernel : fastBuiltinMro "dict" = some [.type "dict", .type "object"]) (by simp)
theorem KdT.is {X : Cx} {pins : List (Addr × Obj)} {σ : L2.St} {H : Hp} {y : V} {u : Value} {T : String} (k : KdT H y T) (I : Inv X pins σ H s) (r : RelV y u) : s.TypeIs u T := by
  cases k with
  | non => cases (show u = Value.none from r); rfl
  | bl k => cases (show u = Value.bool k from r); rfl
  | int i => obtain ⟨t, rfl⟩ := (show ∃ t, u = Value.int i t from r); exact typeIs_int s i t
  | str i => obtain ⟨t, rfl⟩ := (show ∃ t, u = Value.str i t from r); exact typeIs_str s i t
  | @lst a xs e =>
    cases (show u = Value.ref a from r)
    obtain ⟨_, _, n, _, h1⟩ := (show ObjOk X.prog X.w H s.heap a (.lst xs) from I.hok a _ e)
    exact ⟨_, h1, rfl⟩
  | @tup a xs e =>
    cases (show u = Value.ref a from r)
    obtain ⟨_, _, _, o, h1, h2, _⟩ := (show ObjOk X.prog X.w H s.heap a (.tup xs) from I.hok a _ e)
    exact ⟨o, h1, h2⟩
  | @dK a xs e =>
    cases (show u = Value.ref a from r)
    obtain ⟨_, _, vs, _, o, es, ep, h1, h2, _⟩ := (show ObjOk X.prog X.w H s.heap a (.dK xs) from I.hok a _ e)
    exact ⟨o, h1, h2.1⟩
end
section
variable {X : Cx}
def KdV (C : Addr) (H : Hp) (y : V) : Prop := (∃ T, KdT H y T) ∨ ∃ b dy gs, y = .ref b ∧ H b = some (.ins C dy gs)
def rEqW (C : Addr) (sp : Sp) (E : XK) : R2 := fun x y H Q => ∃ a dx fs, x = .ref a ∧ H a = some (.ins C dx fs) ∧ KdV C H y ∧ sp [.ref a, y] H (fun v H' => (∃ k, v = .bl k) ∧ Q v H') E
def rNeW (C : Addr) (sp : Sp) (E : XK) : R2 := fun x y H Q => ∃ a dx fs, x = .ref a ∧ H a = some (.ins C dx fs) ∧ KdV C H y ∧ sp [.ref a, y] H (fun v H' => ∃ k, v = .bl k ∧ Q (.bl (!k)) H') E
theorem KdV.looks {C : Addr} {H : Hp} {y : V} {u : Value} {pins : List (Addr × Obj)} {σ : L2.St} {s : Shared} (k : KdV C H y) (I : Inv X pins σ H s) (r : RelV y u) : ∃ tb, PySem.W.Looks (model X.prog X.w) s.heap (typeOf u) tb ∧ PySem.W.notFirst X.K C tb = true := by
  rcases k with ⟨T, k⟩ | ⟨b, dy, gs, rfl, hb⟩
  · exact ⟨_, looks_is (k.is I r), by unfold PySem.W.notFirst; rw [k.sub]; simp⟩
  · cases r
    obtain ⟨mB, J', _⟩ := ins_get I.hok hb
    obtain ⟨od', J', _⟩ := J'.look
    exact ⟨_, J'.type, by simp [PySem.W.notFirst]⟩
theorem op_eqW {CX : CXT} {C f : Addr} {fd : FuncData} {ps : List Str} {sp : Sp} {E : XK} {n : Nat} (F : FnOk X.prog X.w X.K X.mg X.base CX n f fd ps sp) (hr : Room n X.A) (M : Meth X.K C "__eq__" f) (hb : Binds X.K fd ps []) (hx : Passes CX X E) :
    OpR X (compareOp .Eq) (rEqW C sp E) := by
  intro pins s σ H x y v u Q I rx ry h
  obtain ⟨a, dx, fs, rfl, ha, hk, hsp⟩ := h
  obtain ⟨tb, L2, hn⟩ := hk.looks I ry
  cases rx
  obtain ⟨mA, J, _⟩ := ins_get I.hok ha
  obtain ⟨od, J, _⟩ := J.look
  obtain ⟨m, hF⟩ := I.fr
  show wpAny _ _ (richCompare .Eq _ _) _ _ _
  refine PySem.W.cmp_K (op := .Eq) (tb := tb) hr.units0 hF I.ok.mod.kin J L2 hn M.at_ M.fn ?_
  have hl := F.len _ _ _ _ hsp
  have r2 : Vals [V.ref a, y] [Value.ref a, u] := .cons rfl (.cons ry .nil)
  refine wpAny_call (codeAny_mono (F.run X.A X.stack s H ⟨[.ref a, u], []⟩ [.ref a, u] [.ref a, y] _ E hr I.env0 (by
    have := hb s [.ref a, u] I.kIn (by simpa using hl)
    simpa using this) r2 hsp) fun r s' hq => ?_)
  cases r with
  | error e => exact hx pins σ H s e s' I hq
  | ok fl =>
    cases fl with
    | ret w =>
      obtain ⟨z, H', I', rz, ⟨k, ez⟩, q⟩ := I.after hq
      subst ez
      cases rz
      exact ⟨.bl k, H', I', rfl, q⟩
    | next => exact False.elim hq
    | brk => exact False.elim hq
    | cont => exact False.elim hq
theorem op_neW {CX : CXT} {C f : Addr} {fd : FuncData} {ps : List Str} {sp : Sp} {E : XK} {n : Nat} (F : FnOk X.prog X.w X.K X.mg X.base CX n f fd ps sp) (hr : Room (n + 1) X.A) (M : Meth X.K C "__eq__" f) (hm : PySem.W.mroIn X.K C (.type "object") = some true) (hs : PySem.W.findIn X.K (.ref C) "__ne__" = some (some (.builtin "object.__ne__"))) (hb : Binds X.K fd ps []) (hx : Passes CX X E) :
    OpR X (compareOp .NotEq) (rNeW C sp E) := by
  intro pins s σ H x y v u Q I rx ry h
  obtain ⟨a, dx, fs, rfl, ha, hk, hsp⟩ := h
  obtain ⟨tb, L2, hn⟩ := hk.looks I ry
  cases rx
  obtain ⟨mA, J, _⟩ := ins_get I.hok ha
  obtain ⟨od, J, _⟩ := J.look
  obtain ⟨m, hF⟩ := I.fr
  show wpAny _ _ (richCompare .NotEq _ _) _ _ _
  refine ne_K (tb := tb) hr.in1.units0 hF I.ok.mod.kin J L2 hn hm hs M.at_ M.fn ?_
  have hl := F.len _ _ _ _ hsp
  have r2 : Vals [V.ref a, y] [Value.ref a, u] := .cons rfl (.cons ry .nil)
  refine wpAny_call (codeAny_mono (F.run X.A.in1 X.stack s H ⟨[.ref a, u], []⟩ [.ref a, u] [.ref a, y] _ E hr.in1 I.env0.in1 (by
    have := hb s [.ref a, u] I.kIn (by simpa using hl)
    simpa using this) r2 hsp) fun r s' hq => ?_)
  cases r with
  | error e => exact hx pins σ H s e s' I hq
  | ok fl =>
    cases fl with
    | ret w =>
      obtain ⟨z, H', I', rz, k, ez, q⟩ := I.after hq
      subst ez
      cases rz
      exact ⟨k, rfl, .bl (!k), H', I', rfl, q⟩
    | next => exact False.elim hq
    | brk => exact False.elim hq
    | cont => exact False.elim hq
end
section
open PySem.W
variable {X : Cx}
def rStrOwn (C : Addr) (sp : Sp) (E : XK) : List V → Hp → VK → Prop := fun xs H Q => ∃ a dx fs, xs = [.ref a] ∧ H a = some (.ins C dx fs) ∧ sp [.ref a] H (fun v H' => (∃ t, v = .str t) ∧ Q v H') E
def rReprOwn (C : Addr) (sp : Sp) (E : XK) : List V → Hp → VK → Prop := rStrOwn C sp E
def rLenOwn (C : Addr) (sp : Sp) (E : XK) : List V → Hp → VK → Prop := fun xs H Q => ∃ a dx fs, xs = [.ref a] ∧ H a = some (.ins C dx fs) ∧ sp [.ref a] H (fun v H' => ∃ n : Int, v = .int n ∧ 0 ≤ n ∧ n < 2 ^ 63 ∧ Q v H') E
theorem call_strOwn {CX : CXT} {C f : Addr} {fd : FuncData} {ps : List Str} {sp : Sp} {E : XK} {n : Nat} (F : FnOk X.prog X.w X.K X.mg X.base CX n f fd ps sp) (hr : Room (n + 2) X.A) (M : Meth X.K C "__str__" f) (hb : Binds X.K fd ps []) (hx : Passes CX X E) : CallR X (.type "str") (rStrOwn C sp E) := by
  intro pins s σ H xs us Q I r h
  obtain ⟨a, dx, fs, rfl, ha, hsp⟩ := h
  obtain ⟨u, rfl, ru⟩ := vals1 r
  obtain rfl : u = Value.ref a := ru
  obtain ⟨mA, J, _⟩ := ins_get I.hok ha
  obtain ⟨od, J, _⟩ := J.look
  obtain ⟨m, hF⟩ := I.fr
  have hr1 : Room (n + 1) X.A.in1 := hr.in1
  have hr2 : Room n X.A.in1.in1 := hr1.in1
  have hl := F.len _ _ _ _ hsp
  have r2 : Vals [V.ref a] [Value.ref a] := .cons rfl .nil
  refine PySem.W.kso_call hr2.units0 I.kIn J M.at_ M.fn ?_
  refine wpAny_call (codeAny_mono (F.run X.A.in1.in1 X.stack s H ⟨[.ref a], []⟩ [.ref a] [.ref a] _ E hr2 I.env0.in1.in1 (by
    have := hb s [.ref a] I.kIn (by simpa using hl)
    simpa using this) r2 hsp) fun r s' hq => ?_)
  cases r with
  | error e => exact hx pins σ H s e s' I hq
  | ok fl =>
    cases fl with
    | ret w =>
      obtain ⟨z, H', I', rz, ⟨k, ez⟩, q⟩ := I.after hq
      subst ez
      obtain ⟨t, rfl⟩ := (show ∃ t, w = Value.str k t from rz)
      exact ⟨.str k, H', I', ⟨t, rfl⟩, q⟩
    | next => exact False.elim hq
    | brk => exact False.elim hq
    | cont => exact False.elim hq
theorem call_reprOwn {CX : CXT} {C f : Addr} {fd : FuncData} {ps : List Str} {sp : Sp} {E : XK} {n : Nat} (F : FnOk X.prog X.w X.K X.mg X.base CX n f fd ps sp) (hr : Room (n + 2) X.A) (M : Meth X.K C "__repr__" f) (hb : Binds X.K fd ps []) (hx : Passes CX X E) : CallR X (.builtin "repr") (rReprOwn C sp E) := by
  intro pins s σ H xs us Q I r h
  obtain ⟨a, dx, fs, rfl, ha, hsp⟩ := h
  obtain ⟨u, rfl, ru⟩ := vals1 r
  obtain rfl : u = Value.ref a := ru
  obtain ⟨mA, J, _⟩ := ins_get I.hok ha
  obtain ⟨od, J, _⟩ := J.look
  obtain ⟨m, hF⟩ := I.fr
  have hr1 : Room (n + 1) X.A.in1 := hr.in1
  have hr2 : Room n X.A.in1.in1 := hr1.in1
  have hl := F.len _ _ _ _ hsp
  have r2 : Vals [V.ref a] [Value.ref a] := .cons rfl .nil
  refine PySem.W.repr_K hr1.units0 hF I.ok.mod.kin J M.at_ M.fn ?_
  refine wpAny_call (codeAny_mono (F.run X.A.in1 X.stack s H ⟨[.ref a], []⟩ [.ref a] [.ref a] _ E (hr1.mono (by omega)) I.env0.in1 (by
    have := hb s [.ref a] I.kIn (by simpa using hl)
    simpa using this) r2 hsp) fun r s' hq => ?_)
  cases r with
  | error e => exact hx pins σ H s e s' I hq
  | ok fl =>
    cases fl with
    | ret w =>
      obtain ⟨z, H', I', rz, ⟨k, ez⟩, q⟩ := I.after hq
      subst ez
      obtain ⟨t, rfl⟩ := (show ∃ t, w = Value.str k t from rz)
      exact ⟨.str k, H', I', ⟨t, rfl⟩, q⟩
    | next => exact False.elim hq
    | brk => exact False.elim hq
    | cont => exact False.elim hq
theorem call_lenOwn {CX : CXT} {C f : Addr} {fd : FuncData} {ps : List Str} {sp : Sp} {E : XK} {n : Nat} (F : FnOk X.prog X.w X.K X.mg X.base CX n f fd ps sp) (hr : Room (n + 2) X.A) (M : Meth X.K C "__len__" f) (hb : Binds X.K fd ps []) (hx : Passes CX X E) : CallR X (.builtin "len") (rLenOwn C sp E) := by
  intro pins s σ H xs us Q I r h
  obtain ⟨a, dx, fs, rfl, ha, hsp⟩ := h
  obtain ⟨u, rfl, ru⟩ := vals1 r
  obtain rfl : u = Value.ref a := ru
  obtain ⟨mA, J, _⟩ := ins_get I.hok ha
  obtain ⟨od, J, _⟩ := J.look
  obtain ⟨m, hF⟩ := I.fr
  have hr1 : Room (n + 1) X.A.in1 := hr.in1
  have hr2 : Room n X.A.in1.in1 := hr1.in1
  have hl := F.len _ _ _ _ hsp
  have r2 : Vals [V.ref a] [Value.ref a] := .cons rfl .nil
  refine PySem.W.len_K hF I.ok.mod.kin J M.at_ M.fn ?_
  refine wpAny_call (codeAny_mono (F.run X.A.in1 X.stack s H ⟨[.ref a], []⟩ [.ref a] [.ref a] _ E (hr1.mono (by omega)) I.env0.in1 (by
    have := hb s [.ref a] I.kIn (by simpa using hl)
    simpa using this) r2 hsp) fun r s' hq => ?_)
  cases r with
  | error e => exact hx pins σ H s e s' I hq
  | ok fl =>
    cases fl with
    | ret w =>
      obtain ⟨z, H', I', rz, k, ez, h0, h1, q⟩ := I.after hq
      subst ez
      obtain ⟨t, rfl⟩ := (show ∃ t, w = Value.int k t from rz)
      obtain ⟨hh, g, d, t', os'⟩ := s'
      exact ⟨⟨h0, h1⟩, .int k, H', I'.tok _, ⟨_, rfl⟩, q⟩
    | next => exact False.elim hq
    | brk => exact False.elim hq
    | cont => exact False.elim hq
end

theorem len_l0 : (Str.ofString "").length = 0 := by decide +kernel
theorem len_l1 : (Str.ofString ".").length = 1 := by decide +kernel
theorem len_l2 : (Str.ofString "c.").length = 2 := by decide +kernel
theorem len_l3 : (Str.ofString " ").length = 1 := by decide +kernel
theorem len_l4 : (Str.ofString "<").length = 1 := by decide +kernel
theorem len_l5 : (Str.ofString ">").length = 1 := by decide +kernel
theorem log_s {a : Int} (h1 : -1606938044258990275541962092341162602522202993782792835301376 < a) (h2 : a < 1606938044258990275541962092341162602522202993782792835301376) : a.natAbs.log2 < 1920 := by
  have h : a.natAbs < 2 ^ 200 := by omega
  exact Nat.lt_of_lt_of_le (PySem.Flt.log2_lt_of (by decide) h) (by decide)
theorem sub_skip {Φ Ψ : List (V × W)} {x : V × W} (h : ∀ q ∈ Ψ, q ∈ Φ) : ∀ q ∈ Ψ, q ∈ x :: Φ := fun q hq => List.mem_cons_of_mem _ (h q hq)
theorem sub_cons {Φ Ψ : List (V × W)} {x : V × W} (h0 : x ∈ Φ) (h : ∀ q ∈ Ψ, q ∈ Φ) : ∀ q ∈ x :: Ψ, q ∈ Φ := fun q hq => by
  rcases List.mem_cons.mp hq with rfl | hq
  · exact h0
  · exact h q hq
theorem g_norm {tz : TS} {D : Ends} {σ σ' : L2.St} {i : Nat} {v : Option V} {H : Hp} (e : SetAt σ i v σ') (h : tz D σ' H) : tz D (σ.set i v) H := by rw [e.h]; exact h
local macro_rules | `(tactic| tb_rel) => `(tactic| with_reducible (first | assumption | exact List.mem_cons_self | (apply List.mem_cons_of_mem; tb_rel)))
local macro_rules | `(tactic| kt_at_in) => `(tactic| with_reducible (first | exact KnL.nil | exact Kn.i _ | exact Kn.s _ | exact Kn.n | exact Kn.b _ | exact Kn.o _ | (apply Kn.f; tb_rel) | (apply KnL.cons; kt_at_in; kt_at_in) | exact KnL.is _ V.str W.s (fun _ _ => Kn.s _) | exact KnL.is _ V.int W.i (fun _ _ => Kn.i _)))
local macro_rules | `(tactic| kt_at_item) => `(tactic| with_reducible (first | exact SetM.hd | (apply SetM.tl; kt_at_item)))
local macro_rules | `(tactic| kt_at_method) => `(tactic| with_reducible (first | exact RmM.hd | (apply RmM.tl; kt_at_method)))
local macro_rules | `(tactic| kt_at_method) => `(tactic| with_reducible (first | exact mkin_n | (apply mkin_m; assumption; tb_rel) | (apply mkin_l; assumption; tb_rel) | (apply mkin_t; assumption; tb_rel) | (apply mkin_l0; assumption; tb_rel)))
local macro_rules | `(tactic| kt_at_notin) => `(tactic| with_reducible (first | exact (fun _ h => h) | (refine sub_cons ?_ ?_; (focus (tb_rel)); kt_at_notin) | (refine sub_skip ?_; kt_at_notin)))
local macro_rules | `(tactic| kt_eqs) => `(tactic| with_reducible (first | exact List.Sublist.refl _ | exact List.nil_sublist _ | (refine List.Sublist.cons_cons _ ?_; kt_eqs) | (refine List.Sublist.cons _ ?_; kt_eqs)))
/-- the state, as it is wanted -/
local macro_rules | `(tactic| kt_ors) => `(tactic| first | with_reducible assumption | (refine S.to (by with_reducible assumption) ?_ ?_; (focus (kt_at_notin)); (focus (kt_eqs))))
local macro_rules | `(tactic| kcf_m) => `(tactic| first | with_reducible assumption | (with_reducible exact log_s (by omega) (by omega)) | omega | (with_unfolding_all decide) | (simp only [List.length_cons, List.length_nil, List.length_map, List.length_append, len_one, len_app, len_l0, len_l1, len_l2, len_l3, len_l4, len_l5]; done) | (simp only [List.length_cons, List.length_nil, List.length_map, List.length_append, len_one, len_app, len_l0, len_l1, len_l2, len_l3, len_l4, len_l5]; omega))
/-- one step: what stands at the head -/
local macro_rules | `(tactic| kt_at_get) => `(tactic| with_reducible first
  | refine st_go ?_
  | ((show ite _ _ _); first
    | (apply g_iteVI <;> intro _)
    | (apply g_iteVS <;> intro _)
    | (apply g_iteON <;> intros)
    | (apply g_iteD <;> intro _)
    | (apply g_iteB <;> intro _))
  | ((show rIxL _ _ _ _ _); first
    | (apply g_ixL; (focus (assumption)); (focus (tb_rel)); (focus (with_unfolding_all rfl)); (focus (infer_instance)))
    | (apply g_ixM; (focus (assumption)); (focus (tb_rel)); (focus (with_unfolding_all rfl)))
    | (apply g_ixLr; (focus (assumption)); (focus (tb_rel)); (focus (with_unfolding_all rfl)); (focus (first | exact isL | exact isT | exact isM)); intro _ _)
    | (apply g_ixAI; (focus (assumption)); (focus (tb_rel)); (focus (infer_instance)); (focus (kcf_m)); (focus (kcf_m)); intro _ h; simp only [List.mem_cons, List.not_mem_nil, or_false] at h)
    | (apply g_ixAO; (focus (assumption)); (focus (tb_rel)); (focus (infer_instance)); (focus (kcf_m)); (focus (kcf_m)); intro _ _)
    | (apply g_ixAS; (focus (assumption)); (focus (tb_rel)); (focus (infer_instance)); (focus (kcf_m)); (focus (kcf_m)); intro _ _)
    | (apply g_ixLI; (focus (assumption)); (focus (tb_rel)); (focus (kcf_m)); (focus (kcf_m)); intro _ _ _)
    | (apply g_ixLS; (focus (assumption)); (focus (tb_rel)); (focus (kcf_m)); (focus (kcf_m)); intro _ _ _))
  | ((show rIxT _ _ _ _ _); first
    | (apply g_ixT; (focus (assumption)); (focus (tb_rel)); (focus (with_unfolding_all rfl)); (focus (infer_instance)))
    | (apply g_ixTr; (focus (assumption)); (focus (tb_rel)); (focus (with_unfolding_all rfl)); (focus (first | exact isL | exact isT | exact isM)); intro _ _))
  | (apply g_ixSn; (focus (infer_instance)); (focus (kcf_m)); (focus (kcf_m)); (focus (kcf_m)); intro _ _ _)
  | (apply g_ixS; (focus (kcf_m)); (focus (kcf_m)); (focus (kcf_m)); intro _ _ _)
  | (apply g_newL; (focus (assumption)); (focus (kt_at_in)); (focus (kcf_m)); intro _ _ _)
  | (apply g_newT; (focus (assumption)); (focus (kt_at_in)); (focus (kcf_m)); intro _ _ _)
  | ((show rI _ _ _ _ _ _); first
    | (apply g_rMod; (focus (kcf_m)))
    | (apply g_rModN; (focus (kcf_m)))
    | (apply g_rDiv; (focus (kcf_m)); (focus (kcf_m)))
    | (apply g_rDivW; (focus (kcf_m)); (focus (kcf_m)))
    | (apply g_rPow; (focus (kcf_m)); (focus (kcf_m)); (focus (omega)); (focus (omega)))
    | (apply g_rMul; (focus (omega)); (focus (omega)))
    | (apply g_rMulR; (focus (omega)); (focus (omega))))
  | (apply g_rEq; (focus (with_unfolding_all exact rfl)))
  | (apply g_rNe; (focus (with_unfolding_all exact rfl)))
  | (apply g_rU)
  | (apply g_strAdd; (focus (kcf_m)))
  | (apply g_strI; (focus (kcf_m)); intro _)
  | (apply g_lenS; (focus (kcf_m)))
  | (apply g_intNS <;> intro _)
  | (apply g_intD <;> intro _)
  | (apply g_lenL; (focus (assumption)); (focus (tb_rel)))
  | (apply g_lenT; (focus (assumption)); (focus (tb_rel)))
  | (apply g_lenM; (focus (assumption)); (focus (tb_rel)))
  | (apply g_listL; (focus (assumption)); (focus (tb_rel)); intro _ _ _)
  | (apply g_listT; (focus (assumption)); (focus (tb_rel)); intro _ _ _)
  | (apply g_tupOfS; (focus (assumption)); (focus (tb_rel)); intro _ _ _)
  | (apply g_tyM; (focus (assumption)); (focus (tb_rel)))
  | (apply g_appendS; (focus (assumption)); (focus (tb_rel)); (focus (kcf_m)); (focus (kt_at_item)); intro _ _)
  | (apply g_append; (focus (assumption)); (focus (tb_rel)); (focus (kcf_m)); (focus (kt_at_item)); intro _ _)
  | (apply g_setLS; (focus (assumption)); (focus (tb_rel)); (focus (infer_instance)); (focus (kcf_m)); (focus (kt_at_item)); intro _ _)
  | (apply g_setL; (focus (assumption)); (focus (tb_rel)); (focus (infer_instance)); (focus (kcf_m)); (focus (infer_instance)); (focus (kt_at_item)); intro _ _)
  | (apply g_cat; (focus (assumption)); (focus (tb_rel)); (focus (tb_rel)); (focus (kcf_m)); (focus (infer_instance)); intro _ _ _)
  | (apply g_slTo; (focus (assumption)); (focus (tb_rel)); (focus (infer_instance)); (focus (infer_instance)); intro _ _ _)
  | (apply g_slFrom; (focus (assumption)); (focus (tb_rel)); (focus (infer_instance)); (focus (infer_instance)); intro _ _ _)
  | (apply g_slS; (focus (kcf_m)))
  | (apply g_eqD0; (focus (assumption)); (focus (first | (apply KnM.k; kt_at_in) | (apply KnM.c; tb_rel))); (focus (first | (apply KnM.k; kt_at_in) | (apply KnM.c; tb_rel))); (focus (infer_instance)); (focus (kcf_m)))
  | (apply g_neD0; (focus (assumption)); (focus (first | (apply KnM.k; kt_at_in) | (apply KnM.c; tb_rel))); (focus (first | (apply KnM.k; kt_at_in) | (apply KnM.c; tb_rel))); (focus (infer_instance)); (focus (kcf_m)))
  | (apply g_eqD; (focus (assumption)); (focus (first | (apply KnM.k; kt_at_in) | (apply KnM.c; tb_rel))); (focus (first | (apply KnM.k; kt_at_in) | (apply KnM.c; tb_rel))); (focus (infer_instance)); (focus (infer_instance)); (focus (kcf_m)); (focus (kcf_m)))
  | (apply g_neD; (focus (assumption)); (focus (first | (apply KnM.k; kt_at_in) | (apply KnM.c; tb_rel))); (focus (first | (apply KnM.k; kt_at_in) | (apply KnM.c; tb_rel))); (focus (infer_instance)); (focus (infer_instance)); (focus (kcf_m)); (focus (kcf_m)))
  | (apply g_repr; (focus (assumption)); (focus (first | (apply KnM.k; kt_at_in) | (apply KnM.c; tb_rel))); (focus (infer_instance)); (focus (kcf_m)); (focus (kcf_m)); intro _)
  | (apply g_tupOfM; (focus (assumption)); (focus (tb_rel)); intro _ _ _)
  | (apply g_mkN; (focus (with_unfolding_all rfl)); (focus (with_unfolding_all rfl)))
  | (apply g_mark; (focus (assumption)); (focus (intro _; with_unfolding_all rfl)); (focus (infer_instance)); (focus (infer_instance)); (focus (kt_at_method)); (focus (assumption)); intro _ _ _)
  | (apply g_methM; (focus (assumption)); (focus (tb_rel)); (focus (decide +kernel)); (focus (decide +kernel)))
  | (apply g_newMM; (focus (assumption)); (focus (kcf_m)); intro _ _ _)
  | (apply g_catM; (focus (assumption)); (focus (tb_rel)); (focus (tb_rel)); (focus (kcf_m)); (focus (infer_instance)); (focus (infer_instance)); intro _ _ _)
  | (apply g_listM; (focus (assumption)); (focus (tb_rel)); (focus (infer_instance)); intro _ _ _)
  | (apply g_rngI; (focus (kcf_m)); (focus (kcf_m)))
  | (apply g_rngII; (focus (kcf_m)); (focus (kcf_m)); (focus (kcf_m)); (focus (kcf_m)))
  | (apply g_wlkL; (focus (assumption)); (focus (tb_rel)))
  | refine g_wlkU (by assumption) (by tb_rel) ?_
  | (apply g_norm; (focus (infer_instance))))
local macro_rules | `(tactic| kxt_pos) => `(tactic| simp only [L2.start, L2.cxOf, List.map_cons, List.map_nil, List.length_cons, List.length_nil, Nat.zero_add, Nat.reduceAdd, Nat.reduceSub, List.reduceReplicate, List.replicate_zero, List.cons_append, List.nil_append, List.append_nil])
local macro_rules | `(tactic| kopn_word) => `(tactic| repeat' (first | kt_at_get | kt_len | fail "go"))

/-! ### loops over lists that are told item by item: gone through turn by turn -/
section
variable {K : PySem.W.Frag} {C : Addr} {σ σ0 : L2.St} {H : Hp} {Φ : List (V × W)} {mt nt : List (Addr × (HO → Prop))} {Q : VK} {D : Ends} {tb : TS} {te : TE} {tt : TT} {v y : V} {ws rest : List W} {w : W} {g : TG} {a p : Addr} {vs : List Nat} {acc us : List V} {accW : List W}
def ForIt (K : PySem.W.Frag) (C a : Addr) (ws : List W) (g : TG) (tb : TS) (D : Ends) : List W → L2.St → Hp → Prop
  | [], σ, H => ∃ Φ mt, S K C H Φ mt ∧ (.ref a, .l ws) ∈ Φ ∧ D.nx σ H
  | w :: rest, σ, H => ∃ Φ mt, S K C H Φ mt ∧ (.ref a, .l ws) ∈ Φ ∧ ∀ v, S K C H ((v, w) :: Φ) mt → g v σ H fun σ2 H2 => tb { D with nx := ForIt K C a ws g tb D rest, ct := ForIt K C a ws g tb D rest, bk := D.nx } σ2 H2
class Expl (ws : List W) : Prop where
  h : True
instance : Expl [] := ⟨trivial⟩
instance {w : W} {ws : List W} [Expl ws] : Expl (w :: ws) := ⟨trivial⟩
theorem g_forU (_ : S K C H Φ mt) (_ : (.ref a, .l ws) ∈ Φ) (_ : Expl ws) (h : ForIt K C a ws g tb D ws σ H) : ForW (Itl K a) g tb D σ H := by
  refine ⟨fun j m σ H => m = ws.length - j ∧ j ≤ ws.length ∧ ForIt K C a ws g tb D (ws.drop j) σ H, ⟨ws.length, by simp, Nat.zero_le _, h⟩, ?_⟩
  rintro j m σ' H' ⟨rfl, hi, p⟩
  by_cases hlt : j < ws.length
  · rw [List.drop_eq_getElem_cons hlt] at p
    obtain ⟨Φ', mt', s', m', p⟩ := p
    obtain ⟨vs, v, h1, h2, h3⟩ := s'.grow m' j (List.getElem?_eq_getElem hlt)
    refine .inr ⟨⟨vs, v, h1, h2⟩, ForIt K C a ws g tb D (ws.drop (j + 1)), fun σ2 H2 p' => ⟨ws.length - (j + 1), by omega, rfl, hlt, p'⟩, fun x H2 y => ?_⟩
    obtain ⟨e, y⟩ := y
    subst e
    obtain ⟨vs2, v2, g1, g2, g3⟩ := s'.grow m' j (List.getElem?_eq_getElem hlt)
    have := y vs2 g1
    rw [g2] at this
    cases this
    exact p _ g3
  · have e : j = ws.length := by omega
    subst e
    rw [List.drop_length] at p
    obtain ⟨Φ', mt', s', m', p⟩ := p
    obtain ⟨vs, hv, hlen, _⟩ := s'.open m'
    exact .inl ⟨⟨vs, hv, by omega⟩, p⟩
theorem fi_nil (s : S K C H Φ mt) (h : (.ref a, .l ws) ∈ Φ) (k : D.nx σ H) : ForIt K C a ws g tb D [] σ H := ⟨Φ, mt, s, h, k⟩
theorem fi_sc (s : S K C H Φ mt) (h : (.ref a, .l ws) ∈ Φ) (sc : Sc w v) (k : g v σ H fun σ2 H2 => tb { D with nx := ForIt K C a ws g tb D rest, ct := ForIt K C a ws g tb D rest, bk := D.nx } σ2 H2) : ForIt K C a ws g tb D (w :: rest) σ H :=
  ⟨Φ, mt, s, h, fun u s' => by
    have := sc.h K C H u (s'.rep (.f List.mem_cons_self))
    subst this
    exact k⟩
theorem fi_ref (s : S K C H Φ mt) (h : (.ref a, .l ws) ∈ Φ) (hw : IsRef w) (k : ∀ q, S K C H ((.ref q, w) :: Φ) mt → g (.ref q) σ H fun σ2 H2 => tb { D with nx := ForIt K C a ws g tb D rest, ct := ForIt K C a ws g tb D rest, bk := D.nx } σ2 H2) : ForIt K C a ws g tb D (w :: rest) σ H :=
  ⟨Φ, mt, s, h, fun u s' => by
    obtain ⟨q, rfl⟩ := isRef_of hw (s'.rep (.f List.mem_cons_self))
    exact k q s'⟩
/-- targets of several names, from a tuple that is told -/
def TI (K : PySem.W.Frag) (C : Addr) (H : Hp) (Φ : List (V × W)) (mt : List (Addr × (HO → Prop))) (ws : List W) (t : TGs) (σ : L2.St) (N : L2.St → Hp → Prop) : Prop := ∀ xs : List V, xs.length = ws.length → S K C H (xs.zip ws ++ Φ) mt → t xs σ H N
theorem g_tupT {n : Nat} {t : TGs} {N : L2.St → Hp → Prop} (s : S K C H Φ mt) (h : (.ref a, .t ws) ∈ Φ) (hn : ws.length = n) (k : TI K C H Φ mt ws t σ N) : gTup K n t (.ref a) σ H N := by
  obtain ⟨xs, h1, h2, s'⟩ := s.openT h
  exact ⟨a, xs, rfl, h1, h2.trans hn, k xs h2 s'⟩
theorem ti_nil {N : L2.St → Hp → Prop} (k : S K C H Φ mt → N σ H) : TI K C H Φ mt [] gNil σ N := fun xs hl s => by
  cases xs with
  | nil => exact ⟨rfl, k s⟩
  | cons => cases hl
theorem ti_any {i : Nat} {u : TGs} {N : L2.St → Hp → Prop} (k : ∀ v, S K C H ((v, w) :: Φ) mt → TI K C H ((v, w) :: Φ) mt ws u (σ.set i (some v)) N) : TI K C H Φ mt (w :: ws) (gCons (gName i) u) σ N := fun xs hl s => by
  cases xs with
  | nil => cases hl
  | cons x xs =>
    have s1 : S K C H (xs.zip ws ++ ((x, w) :: Φ)) mt := s.to (fun q hq => by
      rcases List.mem_append.mp hq with h | h
      · exact List.mem_cons_of_mem _ (List.mem_append_left _ h)
      · rcases List.mem_cons.mp h with rfl | h
        · exact List.mem_cons_self
        · exact List.mem_cons_of_mem _ (List.mem_append_right _ h)) (List.Sublist.refl _)
    exact ⟨x, xs, rfl, k x (s1.to (fun q hq => List.mem_append_right _ hq) (List.Sublist.refl _)) xs (Nat.succ.inj hl) s1⟩
theorem ti_sc {i : Nat} {u : TGs} {N : L2.St → Hp → Prop} (sc : Sc w v) (k : TI K C H Φ mt ws u (σ.set i (some v)) N) : TI K C H Φ mt (w :: ws) (gCons (gName i) u) σ N := fun xs hl s => by
  cases xs with
  | nil => cases hl
  | cons x xs =>
    have := sc.h K C H x (s.rep (.f List.mem_cons_self))
    subst this
    exact ⟨_, xs, rfl, k xs (Nat.succ.inj hl) (s.to (fun q hq => List.mem_cons_of_mem _ hq) (List.Sublist.refl _))⟩
theorem ti_ref {i : Nat} {u : TGs} {N : L2.St → Hp → Prop} (hw : IsRef w) (k : ∀ q, TI K C H ((.ref q, w) :: Φ) mt ws u (σ.set i (some (.ref q))) N) : TI K C H Φ mt (w :: ws) (gCons (gName i) u) σ N :=
  ti_any fun v s => by
    obtain ⟨q, rfl⟩ := isRef_of hw (s.rep (.f List.mem_cons_self))
    exact k q
/-- [.. for .. in .. if ..] -/
def LcApp (D : Addr) (y : V) (N : Hp → Prop) (H4 : Hp) : Prop := ∃ acc, H4 D = some (.lst acc) ∧ acc.length < sizeLine ∧ N (upd H4 D (.lst (acc ++ [y])))
def LcIt (K : PySem.W.Frag) (C a : Addr) (ws : List W) (g : TG) (tt : TT) (te : TE) (σ0 : L2.St) (vs : List Nat) (D : Addr) (Q : VK) : List W → Hp → Prop
  | [], H => ∃ Φ mt, S K C H Φ mt ∧ (.ref a, .l ws) ∈ Φ ∧ Q (.ref D) H
  | w :: rest, H => ∃ Φ mt, S K C H Φ mt ∧ (.ref a, .l ws) ∈ Φ ∧ ∀ v, S K C H ((v, w) :: Φ) mt → g v σ0 H fun σ2 H2 => wipe σ2 vs = σ0 ∧ tt σ2 H2 fun b H3 => if b = true then te σ2 H3 fun y H4 => LcApp D y (LcIt K C a ws g tt te σ0 vs D Q rest) H4 else LcIt K C a ws g tt te σ0 vs D Q rest H3
theorem g_lcU (hw : Wp σ vs σ0) (s : S K C H Φ mt) (_ : (.ref a, .l ws) ∈ Φ) (_ : Expl ws) (h : ∀ D H1, S K C H1 Φ ((D, Eq (.lst [])) :: mt) → LcIt K C a ws g tt te σ0 vs D Q ws H1) : LcW (Itl K a) g tt te vs σ H Q := by
  have hw := hw.h
  subst hw
  intro D hD
  have h0 := h D _ (s.addM hD (Ex.new hD) upd_same rfl)
  refine ⟨fun j m H => m = ws.length - j ∧ j ≤ ws.length ∧ LcIt K C a ws g tt te (wipe σ vs) vs D Q (ws.drop j) H, ⟨ws.length, by simp, Nat.zero_le _, h0⟩, ?_⟩
  rintro j m H' ⟨rfl, hi, p⟩
  by_cases hlt : j < ws.length
  · rw [List.drop_eq_getElem_cons hlt] at p
    obtain ⟨Φ', mt', s', m', p⟩ := p
    obtain ⟨us, v, h1, h2, h3⟩ := s'.grow m' j (List.getElem?_eq_getElem hlt)
    refine .inr ⟨⟨us, v, h1, h2⟩, LcIt K C a ws g tt te (wipe σ vs) vs D Q (ws.drop (j + 1)), fun H2 p' => ⟨ws.length - (j + 1), by omega, rfl, hlt, p'⟩, fun x H2 y => ?_⟩
    obtain ⟨e, y⟩ := y
    subst e
    obtain ⟨vs2, v2, g1, g2, g3⟩ := s'.grow m' j (List.getElem?_eq_getElem hlt)
    have := y vs2 g1
    rw [g2] at this
    cases this
    exact p _ g3
  · have e : j = ws.length := by omega
    subst e
    rw [List.drop_length] at p
    obtain ⟨Φ', mt', s', m', p⟩ := p
    obtain ⟨us, hv, hlen, _⟩ := s'.open m'
    exact .inl ⟨⟨us, hv, by omega⟩, p⟩
theorem li_nil (s : S K C H Φ mt) (h : (.ref a, .l ws) ∈ Φ) {D : Addr} (hr : RmM D (Eq (.lst acc)) mt nt) (kn : KnL Φ acc accW) (k : S K C H ((.ref D, .l accW) :: Φ) nt → Q (.ref D) H) : LcIt K C a ws g tt te σ0 vs D Q [] H := ⟨Φ, mt, s, h, k (s.fixL hr kn)⟩
theorem li_sc {D : Addr} (s : S K C H Φ mt) (h : (.ref a, .l ws) ∈ Φ) (sc : Sc w v) (k : g v σ0 H fun σ2 H2 => wipe σ2 vs = σ0 ∧ tt σ2 H2 fun b H3 => if b = true then te σ2 H3 fun y H4 => LcApp D y (LcIt K C a ws g tt te σ0 vs D Q rest) H4 else LcIt K C a ws g tt te σ0 vs D Q rest H3) : LcIt K C a ws g tt te σ0 vs D Q (w :: rest) H :=
  ⟨Φ, mt, s, h, fun u s' => by
    have := sc.h K C H u (s'.rep (.f List.mem_cons_self))
    subst this
    exact k⟩
theorem li_ref {D : Addr} (s : S K C H Φ mt) (h : (.ref a, .l ws) ∈ Φ) (hw : IsRef w) (k : ∀ q, S K C H ((.ref q, w) :: Φ) mt → g (.ref q) σ0 H fun σ2 H2 => wipe σ2 vs = σ0 ∧ tt σ2 H2 fun b H3 => if b = true then te σ2 H3 fun y H4 => LcApp D y (LcIt K C a ws g tt te σ0 vs D Q rest) H4 else LcIt K C a ws g tt te σ0 vs D Q rest H3) : LcIt K C a ws g tt te σ0 vs D Q (w :: rest) H :=
  ⟨Φ, mt, s, h, fun u s' => by
    obtain ⟨q, rfl⟩ := isRef_of hw (s'.rep (.f List.mem_cons_self))
    exact k q s'⟩
theorem g_lcApp {D : Addr} {N : Hp → Prop} (s : S K C H Φ mt) (h : (D, Eq (.lst acc)) ∈ mt) (hz : acc.length ≤ 90000) (hs : SetM D (Eq (.lst (acc ++ [y]))) mt nt) (k : ∀ H', S K C H' Φ nt → N H') : LcApp D y N H :=
  ⟨acc, s.at h, sz_lt (by omega), k _ (s.set hs rfl)⟩
theorem g_wp {P : Prop} (hw : Wp σ vs σ0) (k : P) : wipe σ vs = σ0 ∧ P := ⟨hw.h, k⟩
/-! cells of texts, by open places -/
theorem g_ixMS {ks : List Str} {i : Int} (s : S K C H Φ mt) (h : (p, Eq (.lst (ks.map V.str))) ∈ mt) (h0 : 0 ≤ i) (h1 : i < ks.length) (k : ∀ y, atI ks i = some y → y ∈ ks → Q (.str y) H) : rIxL K (.ref p) (.int i) H Q := by
  obtain ⟨j, rfl⟩ : ∃ j : Nat, i = (j : Int) := ⟨i.toNat, by omega⟩
  have hj : j < ks.length := by omega
  exact ⟨p, _, _, _, rfl, rfl, sq_of (s.at h), atI_nat (by rw [List.getElem?_map, List.getElem?_eq_getElem hj]; rfl), k _ (atI_nat (List.getElem?_eq_getElem hj)) (List.getElem_mem hj)⟩
theorem g_slToM {ks : List Str} {i : Int} {n : Nat} (s : S K C H Φ mt) (h : (p, Eq (.lst (ks.map V.str))) ∈ mt) (hi : Ix i n) (k : ∀ r H', S K C H' ((.ref r, .l ((ks.take n).map W.s)) :: Φ) mt → Q (.ref r) H') : rSlL K (.ref p) none (some i) H Q := by
  obtain rfl := hi.h
  refine ⟨p, _, rfl, sq_of (s.at h), fun r hr => k r _ ?_⟩
  rw [cutV_to, ← List.map_take]
  exact s.addL hr (Ex.new hr) upd_same (.is _ V.str W.s fun x _ => .s x)
theorem g_lenMS {ks : List Str} (s : S K C H Φ mt) (h : (p, Eq (.lst (ks.map V.str))) ∈ mt) (k : Q (.int (ks.length : Int)) H) : rLenS K [.ref p] H Q :=
  g_lenM s h (by rw [List.length_map]; exact k)
theorem S.fixIn {q : Addr} {X : HO → Prop} {ks : List Str} {Ψ : List (V × W)} (s : S K C H Ψ ((p, X) :: (q, Eq (.lst (ks.map V.str))) :: mt)) (hs : ∀ z ∈ Φ, z ∈ Ψ) : S K C H ((.ref q, .l (ks.map W.s)) :: Φ) ((p, X) :: mt) :=
  (s.fixL (.tl .hd) (.is ks V.str W.s fun x _ => .s x)).to (fun z hz => by
    rcases List.mem_cons.mp hz with rfl | hz
    · exact List.mem_cons_self
    · exact List.mem_cons_of_mem _ (hs z hz)) (List.Sublist.refl _)
theorem eqv_none {mks : List Str} (h : (W.l (mks.map W.s)).data.eqv (W.l []).data = true) : mks = [] := by
  simp only [W.data, W.datas, datas_strs, PyData.eqv] at h
  cases mks with
  | nil => rfl
  | cons k ks => simp [PyData.eqvAll] at h
theorem ne_len {mks : List Str} (h : PyData.eqv (W.l (mks.map W.s)).data (W.l []).data = false) : 0 < mks.length := by
  cases mks with
  | nil => simp [W.data, W.datas, PyData.eqv, PyData.eqvAll] at h
  | cons => simp
/-! the script -/
theorem S.start {ns : List Int} (h : SqL K H a (ns.map V.int)) : S K C H [(.ref a, .q ns)] [] :=
  ⟨⟨H, Ex.refl _, fun q hq => by rw [List.mem_singleton.mp hq]; exact .q h, fun q hq => by cases hq⟩, List.Pairwise.nil⟩
theorem g_lenQ {ns : List Int} (s : S K C H Φ mt) (h : (.ref p, .q ns) ∈ Φ) (k : Q (.int (ns.length : Int)) H) : rLenS K [.ref p] H Q := by
  cases s.rep (.f h) with
  | q hq => exact ⟨p, _, rfl, .inl hq, by rw [List.length_map]; exact k⟩
theorem g_ixQ {ns : List Int} {i : Int} (s : S K C H Φ mt) (h : (.ref p, .q ns) ∈ Φ) (h0 : 0 ≤ i) (h1 : i < ns.length) (k : ∀ n, n ∈ ns → Q (.int n) H) : rIxL K (.ref p) (.int i) H Q := by
  obtain ⟨j, rfl⟩ : ∃ j : Nat, i = (j : Int) := ⟨i.toNat, by omega⟩
  have hj : j < ns.length := by omega
  cases s.rep (.f h) with
  | q hq => exact ⟨p, _, _, _, rfl, rfl, hq, atI_nat (by rw [List.getElem?_map, List.getElem?_eq_getElem hj]; rfl), k _ (List.getElem_mem hj)⟩
/-- a row, as a list that may change -/
theorem S.openRow {lt pts : Str} {num : Int} {w4 w5 w6 : W} (s : S K C H Φ mt) (h : (.ref p, .l [.s lt, .i num, .s pts, w4, w5, w6]) ∈ Φ) {v5 v6 : V} (h4 : IsRef w4) (h5 : Sc w5 v5) (h6 : Sc w6 v6) : ∃ ma, SqL K H p [.str lt, .int num, .str pts, .ref ma, v5, v6] ∧ S K C H ((.ref ma, w4) :: Φ) mt := by
  obtain ⟨⟨kb, g1, g2, g3⟩, d⟩ := s
  cases g2 _ h with
  | l hq hr =>
    cases hr with | cons r1 hr => cases hr with | cons r2 hr => cases hr with | cons r3 hr => cases hr with | cons r4 hr => cases hr with | cons r5 hr => cases hr with | cons r6 hr => cases hr with | nil =>
      cases r1; cases r2; cases r3
      obtain ⟨ma, rfl⟩ := isRef_of h4 r4
      have e5 := h5.h K C _ _ r5
      have e6 := h6.h K C _ _ r6
      subst e5; subst e6
      refine ⟨ma, sq_of (g1 _ _ hq), ⟨kb, g1, fun q hq => ?_, g3⟩, d⟩
      rcases List.mem_cons.mp hq with rfl | hq
      · exact r4
      · exact g2 q hq
theorem g_listRow {lt pts : Str} {num : Int} {w4 w5 w6 : W} {v5 v6 : V} (s : S K C H Φ mt) (h : (.ref p, .l [.s lt, .i num, .s pts, w4, w5, w6]) ∈ Φ) (h4 : IsRef w4) (h5 : Sc w5 v5) (h6 : Sc w6 v6) (k : ∀ q ma H', S K C H' ((.ref ma, w4) :: Φ) ((q, Eq (.lst [.str lt, .int num, .str pts, .ref ma, v5, v6])) :: mt) → Q (.ref q) H') : rListM K [.ref p] H Q := by
  obtain ⟨ma, h1, s'⟩ := s.openRow h h4 h5 h6
  exact ⟨p, _, rfl, .inl h1, fun q hn => k q ma _ (s'.addM hn (Ex.new hn) upd_same rfl)⟩
end
section
variable {K : PySem.W.Frag} {C : Addr} {σ σ' : L2.St} {H : Hp} {Φ : List (V × W)} {mt : List (Addr × (HO → Prop))} {ws : List W} {t : TGs} {N : L2.St → Hp → Prop} {i : Nat} {v : Option V} {te : TE} {Q : VK} {tt : TT} {R : Bool → Hp → Prop}
instance (priority := high) {vs : List Nat} {σ0 : L2.St} [q : SetAt σ i v σ'] [r : Wp σ' vs σ0] : St1 (wipe (σ.set i v) vs = σ0 ∧ tt (σ.set i v) H R) (tt σ' H R) := ⟨fun h => by rw [q.h]; exact ⟨r.h, h⟩⟩
instance {P : Prop} {vs : List Nat} {σ0 : L2.St} [r : Wp σ vs σ0] : St1 (wipe σ vs = σ0 ∧ P) P := ⟨fun h => ⟨r.h, h⟩⟩
instance (priority := high) [q : SetAt σ i v σ'] : St1 (TI K C H Φ mt ws t (σ.set i v) N) (TI K C H Φ mt ws t σ' N) := ⟨fun h => by rw [q.h]; exact h⟩
end
local macro_rules | `(tactic| kt_at_in) => `(tactic| with_reducible (first | exact KnL.nil | exact Kn.i _ | exact Kn.s _ | exact Kn.n | exact Kn.b _ | exact Kn.o _ | (apply Kn.f; tb_rel) | (apply KnL.cons; kt_at_in; kt_at_in) | exact KnL.is _ V.str W.s (fun _ _ => Kn.s _) | exact KnL.is _ V.int W.i (fun _ _ => Kn.i _)))
local macro_rules | `(tactic| kt_at_get) => `(tactic| with_reducible first
  | refine st_go ?_
  | ((show ForW _ _ _ _ _ _); apply g_forU; (focus (assumption)); (focus (tb_rel)); (focus (infer_instance)))
  | ((show LcW _ _ _ _ _ _ _ _); apply g_lcU; (focus (infer_instance)); (focus (assumption)); (focus (tb_rel)); (focus (infer_instance)); intro _ _ _)
  | ((show ForIt _ _ _ _ _ _ _ _ _ _); first
    | (apply fi_nil; (focus (assumption)); (focus (tb_rel)))
    | (apply fi_sc; (focus (assumption)); (focus (tb_rel)); (focus (infer_instance)))
    | (apply fi_ref; (focus (assumption)); (focus (tb_rel)); (focus (first | exact isL | exact isT | exact isM)); intro _ _))
  | ((show LcIt _ _ _ _ _ _ _ _ _ _ _ _ _); first
    | (apply li_nil; (focus (assumption)); (focus (tb_rel)); (focus (kt_at_method)); (focus (kt_at_in)); intro _)
    | (apply li_sc; (focus (assumption)); (focus (tb_rel)); (focus (infer_instance)))
    | (apply li_ref; (focus (assumption)); (focus (tb_rel)); (focus (first | exact isL | exact isT | exact isM)); intro _ _))
  | ((show LcApp _ _ _ _); apply g_lcApp; (focus (assumption)); (focus (tb_rel)); (focus (kcf_m)); (focus (kt_at_item)); intro _ _)
  | ((show rIxL _ _ _ _ _); apply g_ixMS; (focus (assumption)); (focus (tb_rel)); (focus (kcf_m)); (focus (kcf_m)); intro _ _ _)
  | ((show rSlL _ _ _ _ _ _); apply g_slToM; (focus (assumption)); (focus (tb_rel)); (focus (infer_instance)); intro _ _ _)
  | ((show rLenS _ _ _ _); apply g_lenMS; (focus (assumption)); (focus (tb_rel)))
  | ((show rLenS _ _ _ _); apply g_lenQ; (focus (assumption)); (focus (tb_rel)))
  | ((show rIxL _ _ _ _ _); apply g_ixQ; (focus (assumption)); (focus (tb_rel)); (focus (kcf_m)); (focus (kcf_m)); intro _ _)
  | ((show gTup _ _ _ _ _ _ _); apply g_tupT; (focus (assumption)); (focus (tb_rel)); (focus (with_unfolding_all exact rfl)))
  | ((show TI _ _ _ _ _ _ _ _ _); first
    | (apply ti_nil; intro _)
    | (apply ti_sc; (focus (infer_instance)))
    | (apply ti_ref; (focus (first | exact isL | exact isT | exact isM)); intro _))
  | ((show rListM _ _ _ _); apply g_listRow; (focus (assumption)); (focus (tb_rel)); (focus (first | exact isL | exact isT | exact isM)); (focus (infer_instance)); (focus (infer_instance)); intro _ _ _ _))


theorem words_len {m : MK} (ok : m.Ok) : m.words.length ≤ 6 ∧ ∀ s ∈ m.words, s.length ≤ 5000 := by
  have hk := ok.k
  have hh := head_len ok
  have e0 : (Str.empty).length = 0 := rfl
  have hcl : (("c." : Str)).length = 2 := by decide +kernel
  have hm : ∀ s ∈ m.mks, s.length ≤ 5000 := fun s h => by have := (ok.ks s h).2; omega
  have hy : ∀ y, m.yr = some y → (Str.ofString (toString y)).length ≤ 1921 := fun y h => int_len (log_s (by have := ok.y y h; omega) (by have := ok.y y h; omega))
  have hc : ∀ y, m.cp = some y → (Str.ofString (toString y)).length ≤ 1921 := fun y h => int_len (ok.c y h).2
  unfold MK.words
  constructor
  · cases m.yr <;> cases m.cp <;> simp only [List.length_append, List.length_cons, List.length_nil] <;> omega
  · intro s hs
    simp only [List.mem_append, List.mem_cons] at hs
    rcases hs with ((rfl | hs) | hs) | hs
    · exact hh
    · exact hm s hs
    · cases h : m.yr with
      | none => rw [h] at hs; cases hs
      | some y => rw [h] at hs; rw [List.mem_singleton.mp hs]; have := hy y h; omega
    · cases h : m.cp with
      | none => rw [h] at hs; cases hs
      | some y =>
        rw [h] at hs
        rw [List.mem_singleton.mp hs, fold_len]
        simp only [List.map_cons, List.map_nil, List.sum_cons, List.sum_nil, hcl, e0]
        have := hc y h
        omega
theorem text_len {m : MK} (ok : m.Ok) : m.text.length ≤ 50000 := by
  obtain ⟨h1, h2⟩ := words_len ok
  have h3 := StrLaws.join_length_le " " m.words
  have h4 := sum_le h2
  have hb : ((" " : Str)).length = 1 := by decide +kernel
  have e : m.text = Str.join " " m.words := StrLaws.glued_eq_join _ _
  rw [hb] at h3
  rw [e]
  have : m.words.length * 5000 ≤ 6 * 5000 := Nat.mul_le_mul_right _ h1
  omega
theorem strOk_iff {t : Str} : PyData.strOk t = true ↔ ∀ c ∈ sg t, c < 0x110000 := by
  unfold PyData.strOk
  rw [← Array.all_toList, List.all_eq_true]
  exact ⟨fun h c hc => of_decide_eq_true (h c hc), fun h c hc => decide_eq_true (h c hc)⟩
theorem strOk_app {a b : Str} (h1 : PyData.strOk a = true) (h2 : PyData.strOk b = true) : PyData.strOk (a ++ b) = true := by
  rw [strOk_iff] at *
  intro c hc
  rw [sg_app] at hc
  exact (List.mem_append.mp hc).elim (h1 c) (h2 c)
theorem strOk_lit (s : String) : PyData.strOk (Str.ofString s) = true := by
  rw [strOk_iff, PySem.Str.ofString_eq_toList]
  intro c hc
  have hc : c ∈ s.toList.map Char.toNat := by simpa using hc
  obtain ⟨d, _, rfl⟩ := List.mem_map.mp hc
  have := d.valid
  rcases this with h | ⟨_, h⟩
  · exact Nat.lt_of_lt_of_le h (by decide)
  · exact h
theorem strOk_join {sep : Str} (hs : PyData.strOk sep = true) : ∀ {ws : List Str}, (∀ w ∈ ws, PyData.strOk w = true) → PyData.strOk (Str.join sep ws) = true
  | [], _ => by show PyData.strOk Str.empty = true; decide +kernel
  | [x], h => h x List.mem_cons_self
  | x :: y :: r, h => strOk_app (strOk_app (h x List.mem_cons_self) hs) (strOk_join hs fun w hw => h w (List.mem_cons_of_mem _ hw))
theorem text_ok {m : MK} (ok : m.Ok) : PyData.strOk m.text = true := by
  have e : m.text = Str.join " " m.words := StrLaws.glued_eq_join _ _
  rw [e]
  refine strOk_join (strOk_lit " ") fun s hs => ?_
  have hl := strOk_of (letters_in ok.l) abc_ok
  have hp := points_str ok.p
  have he : PyData.strOk Str.empty = true := by decide +kernel
  have hh : PyData.strOk m.head = true := by
    unfold MK.head
    by_cases h : m.pts = ("" : Str)
    · rw [if_pos h]; exact strOk_app (strOk_app he hl) (strOk_lit _)
    · rw [if_neg h]; exact strOk_app (strOk_app (strOk_app (strOk_app he hl) (strOk_lit _)) (strOk_lit _)) hp
  unfold MK.words at hs
  simp only [List.mem_append, List.mem_cons] at hs
  rcases hs with ((rfl | hs) | hs) | hs
  · exact hh
  · exact maker_str (ok.ks s hs).1
  · cases h : m.yr with
    | none => rw [h] at hs; cases hs
    | some y => rw [h] at hs; rw [List.mem_singleton.mp hs]; exact strOk_lit _
  · cases h : m.cp with
    | none => rw [h] at hs; cases hs
    | some y => rw [h] at hs; rw [List.mem_singleton.mp hs]; exact strOk_app (strOk_app he (strOk_lit _)) (strOk_lit _)
theorem sok_l {t : Str} (h : lettersOk t 3 = true) : SOk t := ⟨strOk_of (letters_in h) abc_ok, by have := letters_len h; omega⟩
theorem sok_p {t : Str} (h : pointsOk t = true) (hl : t.length ≤ 1000) : SOk t := ⟨points_str h, by omega⟩
theorem sok_k {m : MK} (ok : m.Ok) : SOkL m.mks := ⟨fun k h => ⟨maker_str (ok.ks k h).1, by have := (ok.ks k h).2; omega⟩, by have := ok.k; omega⟩
theorem iok_n {m : MK} (ok : m.Ok) : IOk m.num := ⟨log_s (by have := ok.n; omega) (by have := ok.n; omega)⟩
theorem ook_y {m : MK} (ok : m.Ok) : OOk m.yr := ⟨fun n h => log_s (by have := ok.y n h; omega) (by have := ok.y n h; omega)⟩
theorem ook_c {m : MK} (ok : m.Ok) : OOk m.cp := ⟨fun n h => (ok.c n h).2⟩
theorem sok_t {m : MK} (ok : m.Ok) : SOk m.text := ⟨text_ok ok, Nat.le_trans (text_len ok) (by decide)⟩
/-! f-strings, part by part -/
section
variable {K : PySem.W.Frag} {C : Addr} {σ : L2.St} {H : Hp} {te : TE} {ts : List TE} {Q : VK} {R : Str → Hp → Prop} {acc y : Str} {i : Int}
theorem e_app {s : Str} : Str.empty ++ s = s := str_ext (by rw [sg_app]; rfl)
def JW (ts : List TE) (acc : Str) (R : Str → Hp → Prop) (σ : L2.St) (x : V) (H1 : Hp) : Prop := ∃ y : Str, x = .str y ∧ (acc ++ y).length ≤ sizeLine ∧ tJs ts (acc ++ y) σ H1 R
theorem g_jNilR (h : R acc H) : tJs [] acc σ H R := h
instance : St1 (tJs [] acc σ H R) (R acc H) := ⟨g_jNilR⟩
theorem g_jConsR (h : te σ H fun x H1 => JW ts acc R σ x H1) : tJs (te :: ts) acc σ H R := h
instance : St1 (tJs (te :: ts) acc σ H R) (te σ H fun x H1 => JW ts acc R σ x H1) := ⟨g_jConsR⟩
theorem g_jw0 (hz : y.length ≤ 100000) (h : tJs ts y σ H R) : JW ts Str.empty R σ (.str y) H := ⟨y, rfl, by rw [e_app]; exact sz_of hz, by rw [e_app]; exact h⟩
theorem g_jw (hz : (acc ++ y).length ≤ 100000) (h : tJs ts (acc ++ y) σ H R) : JW ts acc R σ (.str y) H := ⟨y, rfl, sz_of hz, h⟩
def FmtW (x : V) (H1 : Hp) (Q : VK) : Prop := (∃ s : Str, x = .str s ∧ s.length ≤ sizeLine ∧ Q (.str s) H1) ∨ ∃ i : Int, x = .int i ∧ i.natAbs.log2 < 1920 ∧ Q (.str (toString i)) H1
theorem g_fmtW (h : te σ H fun x H1 => FmtW x H1 Q) : tFmt te σ H Q := h
instance : St1 (tFmt te σ H Q) (te σ H fun x H1 => FmtW x H1 Q) := ⟨g_fmtW⟩
theorem g_fmtS (hz : y.length ≤ 100000) (k : Q (.str y) H) : FmtW (.str y) H Q := .inl ⟨y, rfl, sz_of hz, k⟩
theorem g_fmtI (hz : i.natAbs.log2 < 1920) (k : (Str.ofString (toString i)).length ≤ 1921 → Q (.str (toString i)) H) : FmtW (.int i) H Q := .inr ⟨i, rfl, hz, k (int_len hz)⟩
end
local macro_rules | `(tactic| kt_at_get) => `(tactic| with_reducible first
  | (apply g_jw0; (focus (kcf_m)))
  | (apply g_jw; (focus (kcf_m)))
  | (apply g_fmtS; (focus (kcf_m)))
  | (apply g_fmtI; (focus (kcf_m)); intro _))
abbrev MK.row (m : MK) : W := .l [.s m.lt, .i m.num, .s m.pts, .l (m.mks.map W.s), W.o m.yr, W.o m.cp]
/-! ### methods of marks, by facts -/
section
variable {K : PySem.W.Frag} {C : Addr} {σ : L2.St} {H H1 : Hp} {Φ : List (V × W)} {mt nt : List (Addr × (HO → Prop))} {Q : VK} {ta te : TE} {tl tr tk : TA} {v x y z : V} {vs us xs dvs : List V} {p a q : Addr} {sp : Sp} {E : XK} {m n : MK} {w : W}
def W.isq : W → Bool
  | .q _ => true
  | _ => false
def FldW (K : PySem.W.Frag) (f : Str) (x : V) (H1 : Hp) (Q : VK) : Prop := ∃ a C dx fs v, x = .ref a ∧ H1 a = some (.ins C dx fs) ∧ Cls K C ∧ NoAttr K C f ∧ fs.lookup f = some v ∧ Q v H1
theorem g_fld {f : Str} (h : ta σ H fun x H1 => FldW K f x H1 Q) : tFld K ta f σ H Q := h
instance {f : Str} : St1 (tFld K ta f σ H Q) (ta σ H fun x H1 => FldW K f x H1 Q) := ⟨g_fld⟩
theorem S.openM (s : S K C H Φ mt) (h : (.ref a, .m m) ∈ Φ) : ∃ dx pa ma, H a = some (.ins C dx [("_parts", .ref pa), ("_text", .str m.text)]) ∧ S K C H ((.ref pa, .t [.s m.lt, .i m.num, .s m.pts, .t (m.mks.map W.s), W.o m.yr, W.o m.cp]) :: (.ref ma, .t (m.mks.map W.s)) :: Φ) mt := by
  obtain ⟨⟨kb, h1, h2, h3⟩, d⟩ := s
  cases h2 _ h with
  | m hm ok =>
    obtain ⟨dx, pa, ma, g1, g2, g3⟩ := hm
    have r1 : Rep K C kb (.ref ma) (.t (m.mks.map W.s)) := .t g3 (RepL.map V.str W.s _ fun x _ => .s x)
    have ro : ∀ o : Option Int, Rep K C kb (oi o) (W.o o) := fun o => by cases o; exact .n; exact .i _
    have r2 : Rep K C kb (.ref pa) (.t [.s m.lt, .i m.num, .s m.pts, .t (m.mks.map W.s), W.o m.yr, W.o m.cp]) := .t g2 (.cons (.s _) (.cons (.i _) (.cons (.s _) (.cons r1 (.cons (ro _) (.cons (ro _) .nil))))))
    refine ⟨dx, pa, ma, h1 _ _ g1, ⟨kb, h1, fun q hq => ?_, h3⟩, d⟩
    rcases List.mem_cons.mp hq with rfl | hq
    · exact r2
    · rcases List.mem_cons.mp hq with rfl | hq
      · exact r1
      · exact h2 q hq
theorem g_fldText (s : S K C H Φ mt) (h : (.ref a, .m m) ∈ Φ) (hc : Cls K C) (hn : NoAttr K C "_text") (k : Q (.str m.text) H) : FldW K "_text" (.ref a) H Q := by
  obtain ⟨dx, pa, ma, h1, _⟩ := s.openM h
  exact ⟨a, C, dx, _, _, rfl, h1, hc, hn, by kernel_rfl, k⟩
theorem g_fldParts (s : S K C H Φ mt) (h : (.ref a, .m m) ∈ Φ) (hc : Cls K C) (hn : NoAttr K C "_parts") (k : ∀ p, S K C H ((.ref p, .t [.s m.lt, .i m.num, .s m.pts, .t (m.mks.map W.s), W.o m.yr, W.o m.cp]) :: Φ) mt → Q (.ref p) H) : FldW K "_parts" (.ref a) H Q := by
  obtain ⟨dx, pa, ma, h1, s'⟩ := s.openM h
  exact ⟨a, C, dx, _, _, rfl, h1, hc, hn, by kernel_rfl, k _ (s'.to (fun q hq => by
    rcases List.mem_cons.mp hq with rfl | hq
    · exact List.mem_cons_self
    · exact List.mem_cons_of_mem _ (List.mem_cons_of_mem _ hq)) (List.Sublist.refl _))⟩
theorem S.insM (s : S K C H Φ mt) (h : (.ref a, .m m) ∈ Φ) : ∃ dx fs, H a = some (.ins C dx fs) := by
  obtain ⟨dx, pa, ma, h1, _⟩ := s.openM h
  exact ⟨_, _, h1⟩
def spGet (K : PySem.W.Frag) (C : Addr) (f : MK → V) : Sp := fun vs H Q _ => ∃ x m Φ mt, vs = [.ref x] ∧ (.ref x, .m m) ∈ Φ ∧ S K C H Φ mt ∧ ∀ H', S K C H' Φ mt → Q (f m) H'
def spGetT (K : PySem.W.Frag) (C : Addr) (f : MK → List W) : Sp := fun vs H Q _ => ∃ x m Φ mt, vs = [.ref x] ∧ (.ref x, .m m) ∈ Φ ∧ S K C H Φ mt ∧ ∀ p H', S K C H' ((.ref p, .t (f m)) :: Φ) mt → Q (.ref p) H'
theorem use_get {f : MK → V} (s : S K C H Φ mt) (h : (.ref a, .m m) ∈ Φ) (k : ∀ H', S K C H' Φ mt → Q (f m) H') : spGet K C f [.ref a] H Q E := ⟨a, m, Φ, mt, rfl, h, s, k⟩
theorem use_getT {f : MK → List W} (s : S K C H Φ mt) (h : (.ref a, .m m) ∈ Φ) (k : ∀ p H', S K C H' ((.ref p, .t (f m)) :: Φ) mt → Q (.ref p) H') : spGetT K C f [.ref a] H Q E := ⟨a, m, Φ, mt, rfl, h, s, k⟩
theorem g_methN {mn : Str} (s : S K C H Φ mt) (h : (.ref a, .m m) ∈ Φ) (h1 : mn ≠ "_parts") (h2 : mn ≠ "_text") (q : tl σ H fun vs H2 => sp (.ref a :: vs) H2 Q E) : MethW C mn sp [] E tl σ Q (.ref a) H :=
  g_methM s h h1 h2 (by simpa only [List.append_nil] using q)
theorem g_meth0 {mn : Str} {f : MK → V} (s : S K C H Φ mt) (h : (.ref a, .m m) ∈ Φ) (h1 : mn ≠ "_parts") (h2 : mn ≠ "_text") (k : ∀ H', S K C H' Φ mt → Q (f m) H') : MethW C mn (spGet K C f) [] E tNil σ Q (.ref a) H :=
  g_methM s h h1 h2 (use_get (E := E) s h k)
theorem g_methT {mn : Str} {f : MK → List W} (s : S K C H Φ mt) (h : (.ref a, .m m) ∈ Φ) (h1 : mn ≠ "_parts") (h2 : mn ≠ "_text") (k : ∀ p H', S K C H' ((.ref p, .t (f m)) :: Φ) mt → Q (.ref p) H') : MethW C mn (spGetT K C f) [] E tNil σ Q (.ref a) H :=
  g_methM s h h1 h2 (use_getT (E := E) s h k)
theorem g_strOwn {f : MK → V} (s : S K C H Φ mt) (h : (.ref a, .m m) ∈ Φ) (hf : ∃ t, f m = .str t) (k : ∀ H', S K C H' Φ mt → Q (f m) H') : rStrOwn C (spGet K C f) E [.ref a] H Q := by
  obtain ⟨dx, fs, h1⟩ := s.insM h
  exact ⟨a, dx, fs, rfl, h1, use_get s h fun H' s' => ⟨hf, k H' s'⟩⟩
theorem g_reprOwn {f : MK → V} (s : S K C H Φ mt) (h : (.ref a, .m m) ∈ Φ) (hf : ∃ t, f m = .str t) (k : ∀ H', S K C H' Φ mt → Q (f m) H') : rReprOwn C (spGet K C f) E [.ref a] H Q := g_strOwn s h hf k
theorem g_lenOwn {f : MK → V} {n : Nat} (s : S K C H Φ mt) (h : (.ref a, .m m) ∈ Φ) (hf : f m = .int n) (hz : n < 100000) (k : ∀ H', S K C H' Φ mt → Q (.int n) H') : rLenOwn C (spGet K C f) E [.ref a] H Q := by
  obtain ⟨dx, fs, h1⟩ := s.insM h
  exact ⟨a, dx, fs, rfl, h1, use_get s h fun H' s' => ⟨n, hf, by omega, by omega, by rw [hf]; exact k H' s'⟩⟩
theorem kE_self (m : MK) : kE m m = true := by unfold kE; simp
instance {m : MK} {A B : Prop} : St1 (if kE m m = true then A else B) A := ⟨fun h => by rw [if_pos (kE_self m)]; exact h⟩
theorem dec_vint {a b : Int} : decide (V.int a = V.int b) = decide (a = b) := by
  by_cases h : a = b
  · rw [h, decide_eq_true rfl, decide_eq_true rfl]
  · rw [decide_eq_false h, decide_eq_false (fun z => h (V.int.inj z))]
theorem kE_comm (m n : MK) : kE m n = kE n m := by
  unfold kE
  simp only [eq_comm]
theorem eqv_strs : ∀ ks js : List Str, PyData.eqvAll (ks.map PyData.str) (js.map PyData.str) = decide (ks = js)
  | [], [] => by simp [PyData.eqvAll]
  | [], _ :: _ => by simp [PyData.eqvAll]
  | _ :: _, [] => by simp [PyData.eqvAll]
  | k :: ks, j :: js => by
    simp only [List.map_cons, PyData.eqvAll, PyData.eqv, eqv_strs ks js, List.cons.injEq]
    by_cases h : k = j <;> simp [h]
theorem eqv_o {o p : Option Int} (h1 : ∀ i, o = some i → i ≠ 0) (h2 : ∀ i, p = some i → i ≠ 0) : PyData.eqv (W.o o).data (W.o p).data = decide (o.getD 0 = p.getD 0) := by
  cases o with
  | none => cases p with
    | none => simp [W.o, W.data, PyData.eqv]
    | some j => have := h2 j rfl; simp [W.o, W.data, PyData.eqv]; exact fun h => this h.symm
  | some i => cases p with
    | none => have := h1 i rfl; simp [W.o, W.data, PyData.eqv, this]
    | some j => simp [W.o, W.data, PyData.eqv]; rw [Bool.eq_iff_iff]; simp
theorem eqv_row {m n : MK} (okm : m.Ok) (okn : n.Ok) : PyData.eqv m.row.data n.row.data = kE m n := by
  unfold MK.row kE
  simp only [W.data, W.datas, datas_strs, PyData.eqv, PyData.eqvAll, eqv_strs, Bool.and_true]
  rw [eqv_o (fun i h => by have := okm.y i h; omega) (fun i h => by have := okn.y i h; omega), eqv_o (fun i h => by have := (okm.c i h).1; omega) (fun i h => by have := (okn.c i h).1; omega)]
  rw [Bool.eq_iff_iff]
  simp only [Bool.and_eq_true, decide_eq_true_eq, beq_iff_eq]
theorem row_ly {m : MK} (ok : m.Ok) : ∃ d z, Ly m.row d z ∧ d ≤ 3 := by
  have i1 : SOk m.lt := sok_l ok.l
  have i2 : SOk m.pts := sok_p ok.p ok.pz
  have i3 : SOkL m.mks := sok_k ok
  have i4 : IOk m.num := iok_n ok
  have i5 : OOk m.yr := ook_y ok
  have i6 : OOk m.cp := ook_c ok
  exact ⟨_, _, (inferInstance : Ly (.l [.s m.lt, .i m.num, .s m.pts, .l (m.mks.map W.s), W.o m.yr, W.o m.cp]) _ _), by decide⟩
theorem g_eqRow (s : S K C H Φ mt) (h1 : (x, m.row) ∈ Φ) (h2 : (y, n.row) ∈ Φ) (okm : m.Ok) (okn : n.Ok) (k : Q (.bl (kE m n)) H) : rEqD K x y H Q := by
  obtain ⟨d, z, l1, h3⟩ := row_ly okm
  obtain ⟨e, z', l2, h4⟩ := row_ly okn
  refine g_eqD s (.k (.f h1)) (.k (.f h2)) l1 l2 (by omega) (by omega) ?_
  rw [eqv_row okm okn]
  exact k
theorem g_neRow (s : S K C H Φ mt) (h1 : (x, m.row) ∈ Φ) (h2 : (y, n.row) ∈ Φ) (okm : m.Ok) (okn : n.Ok) (k : Q (.bl (!kE m n)) H) : rNeD K x y H Q := by
  obtain ⟨d, z, l1, h3⟩ := row_ly okm
  obtain ⟨e, z', l2, h4⟩ := row_ly okn
  refine g_neD s (.k (.f h1)) (.k (.f h2)) l1 l2 (by omega) (by omega) ?_
  rw [eqv_row okm okn]
  exact k
/-- a mark held against anything -/
def eqMW (m : MK) : W → Bool
  | .m n => kE m n
  | _ => false
def spEqS (K : PySem.W.Frag) (C : Addr) : Sp := fun vs H Q _ => ∃ x y m w Φ mt, vs = [.ref x, y] ∧ (.ref x, .m m) ∈ Φ ∧ KnM Φ mt y w ∧ w.isq = false ∧ S K C H Φ mt ∧ ∀ H', S K C H' Φ mt → Q (.bl (eqMW m w)) H'
theorem kdv_of (r : Rep K C H y w) (hq : w.isq = false) : KdV C H y := by
  cases r with
  | i n => exact .inl ⟨_, .int n⟩
  | b c => exact .inl ⟨_, .bl c⟩
  | n => exact .inl ⟨_, .non⟩
  | s t => exact .inl ⟨_, .str t⟩
  | l h _ => exact .inl ⟨_, .lst h⟩
  | t h _ => exact .inl ⟨_, .tup h⟩
  | m h _ => obtain ⟨dx, pa, ma, h1, _⟩ := h; exact .inr ⟨_, _, _, rfl, h1⟩
  | q _ => cases hq
theorem g_eqW (s : S K C H Φ mt) (h : (.ref a, .m m) ∈ Φ) (h2 : KnM Φ mt y w) (hq : w.isq = false) (k : ∀ H', S K C H' Φ mt → Q (.bl (eqMW m w)) H') : rEqW C (spEqS K C) E (.ref a) y H Q := by
  obtain ⟨dx, fs, h1⟩ := s.insM h
  exact ⟨a, dx, fs, rfl, h1, kdv_of (s.repM h2) hq, a, y, m, w, Φ, mt, rfl, h, h2, hq, s, fun H' s' => ⟨⟨_, rfl⟩, k H' s'⟩⟩
theorem g_neW (s : S K C H Φ mt) (h : (.ref a, .m m) ∈ Φ) (h2 : KnM Φ mt y w) (hq : w.isq = false) (k : ∀ H', S K C H' Φ mt → Q (.bl (!eqMW m w)) H') : rNeW C (spEqS K C) E (.ref a) y H Q := by
  obtain ⟨dx, fs, h1⟩ := s.insM h
  exact ⟨a, dx, fs, rfl, h1, kdv_of (s.repM h2) hq, a, y, m, w, Φ, mt, rfl, h, h2, hq, s, fun H' s' => ⟨_, rfl, k H' s'⟩⟩
theorem KdT.tyx {T : String} (k : KdT H y T) : TyX K H y (.type T) := by
  cases k with
  | non => exact .base .non
  | bl k => exact .base (.bl k)
  | int i => exact .base (.int i)
  | str t => exact .base (.str t)
  | lst e => exact .base (.lst e)
  | tup e => exact .base (.tup e)
  | dK e => exact .base (.dK e)
theorem KdT.notC {T : String} (k : KdT H y T) (ki : ((PySem.W.clsIn K C).isSome && PySem.W.typeIn K (.ref C) == some (.type "type")) = true) : PySem.W.kitOne K (.type T) (.ref C) = some false := by
  unfold PySem.W.kitOne PySem.W.kitCls
  rw [if_neg (by simp)]
  show (if _ then _ else _) = _
  rw [if_pos ki]
  exact k.sub
end
section
variable {P : Program} {w : World} {K : PySem.W.Frag} {mg : Str → Option Value} {base : Heap} {Z : Adr} {C : Addr}
theorem ok_Mark_eq (T : Txt K mg Z) : FnOk P w K mg base CX0 1 Z.a_Mark_eq Z.d_Mark_eq ["self", "other"] (spEqS K Z.C_Mark) := by
  refine T.F_Mark_eq.ok sc_Mark_eq (fun vs H Q E h => ?_) (fun cdv A outer s H vs Q E hr h => ?_)
  · obtain ⟨_, _, _, _, _, _, rfl, _⟩ := h; rfl
  · obtain ⟨x, y, m, w, Φ, mt, rfl, hx, hy, hq, s, kk⟩ := h
    refine ⟨_, (pss_one (ps_ret (pe_and (pe_callB (isiK K) (by rfl) T.n_isinstance (by decide +kernel) (pa_cons (pv 1) (pa_cons (pe_glob (v := .ref Z.C_Mark) rfl T.g_Mark rfl) pa_nil))) (pe_one (pe_cmpR (eqDK K hr.units) (fldK K (pv 0) rfl) (fldK K (pv 1) rfl) (nomark _)))))), ?_⟩
    have no : ∀ {T1 : String}, KdT H y T1 → eqMW m w = false → tRet (tAndV (tCB (rIsi K) (tCons (tVar 1) (tCons (tC (.ref Z.C_Mark)) tNil))) (tOp (rEqD K) (tFld K (tVar 0) "_parts") (tFld K (tVar 1) "_parts"))) { nx := fun _ H' => Q .non H', rt := Q } [some (.ref x), some y] H := fun k e =>
      ⟨_, rfl, _, _, _, _, false, rfl, .own Z.C_Mark, k.tyx, k.notC T.ki_Mark, false, rfl, iteF (by have := kk H s; rw [e] at this; exact this)⟩
    have r := s.repM hy
    cases hw : w with
    | m n =>
      subst hw
      obtain ⟨⟨dx, pa, ma, h1, h2, h3⟩, okm⟩ := s.mark hx
      cases r with
      | m hn okn =>
        obtain ⟨dy, pb, mb, g1, g2, g3⟩ := hn
        refine ⟨_, rfl, _, _, _, _, true, rfl, .own Z.C_Mark, .base (.ins g1 T.cl_Mark T.t1_Mark T.t2_Mark T.t3_Mark T.t4_Mark), kit_self, true, rfl, iteT ?_⟩
        refine ⟨_, rfl, x, Z.C_Mark, dx, _, _, rfl, h1, T.cl_Mark, T.na_Mark_parts, by kernel_rfl, _, rfl, _, Z.C_Mark, dy, _, _, rfl, g1, T.cl_Mark, T.na_Mark_parts, by kernel_rfl, m.data, n.data, dp_data h2 h3, dp_data g2 g3, shaped_ok okm, shaped_ok okn, ?_⟩
        rw [eqv_d okm okn]
        exact kk H s
    | q _ => rw [hw] at hq; cases hq
    | i _ => subst hw; cases r; exact no (.int _) rfl
    | b _ => subst hw; cases r; exact no (.bl _) rfl
    | n => subst hw; cases r; exact no .non rfl
    | s _ => subst hw; cases r; exact no (.str _) rfl
    | l _ => subst hw; cases r with | l h _ => exact no (.lst h) rfl
    | t _ => subst hw; cases r with | t h _ => exact no (.tup h) rfl
end
local macro_rules | `(tactic| kt_at_get) => `(tactic| with_reducible first
  | (apply g_fldText; (focus (assumption)); (focus (tb_rel)); (focus (assumption)); (focus (assumption)))
  | (apply g_fldParts; (focus (assumption)); (focus (tb_rel)); (focus (assumption)); (focus (assumption)); intro _ _)
  | (apply g_meth0; (focus (assumption)); (focus (tb_rel)); (focus (decide +kernel)); (focus (decide +kernel)); intro _ _; try dsimp only)
  | (apply g_methT; (focus (assumption)); (focus (tb_rel)); (focus (decide +kernel)); (focus (decide +kernel)); intro _ _ _; try dsimp only)
  | ((show MethW _ _ _ _ _ _ _ _ _ _); apply g_methN; (focus (assumption)); (focus (tb_rel)); (focus (decide +kernel)); (focus (decide +kernel)))
  | (apply g_strOwn; (focus (assumption)); (focus (tb_rel)); (focus (exact ⟨_, rfl⟩)); intro _ _; try dsimp only)
  | (apply g_reprOwn; (focus (assumption)); (focus (tb_rel)); (focus (exact ⟨_, rfl⟩)); intro _ _; try dsimp only)
  | (apply g_lenOwn; (focus (assumption)); (focus (tb_rel)); (focus (exact rfl)); (focus (kcf_m)); intro _ _; try dsimp only)
  | ((show rEqD _ _ _ _ _); apply g_eqRow; (focus (assumption)); (focus (tb_rel)); (focus (tb_rel)); (focus (assumption)); (focus (assumption)))
  | ((show rNeD _ _ _ _ _); apply g_neRow; (focus (assumption)); (focus (tb_rel)); (focus (tb_rel)); (focus (assumption)); (focus (assumption)))
  | (apply g_eqW; (focus (assumption)); (focus (tb_rel)); (focus (first | (apply KnM.k; kt_at_in) | (apply KnM.c; tb_rel))); (focus (with_unfolding_all exact rfl)); intro _ _; try simp only [eqMW, MK.row, kE_self])
  | (apply g_neW; (focus (assumption)); (focus (tb_rel)); (focus (first | (apply KnM.k; kt_at_in) | (apply KnM.c; tb_rel))); (focus (with_unfolding_all exact rfl)); intro _ _; try simp only [eqMW, MK.row, kE_self]))
section
variable {P : Program} {w : World} {K : PySem.W.Frag} {mg : Str → Option Value} {base : Heap} {Z : Adr} {C : Addr}
theorem ok_Mark_letters (T : Txt K mg Z) : FnOk P w K mg base CX0 1 Z.a_Mark_letters Z.d_Mark_letters ["self"] (spGet K Z.C_Mark (fun m => .str m.lt)) := by
  refine T.F_Mark_letters.ok sc_Mark_letters (fun vs H Q E h => ?_) (fun cdv A outer s H vs Q E hr h => ?_)
  · obtain ⟨_, _, _, _, rfl, _⟩ := h; rfl
  · obtain ⟨x, m, Φ, mt, rfl, hx, s, kk⟩ := h
    refine ⟨_, (pss_one (ps_ret (pe_ix (ixT K) (fldK K (pv 0) rfl) pe_int (fun _ _ => rfl)))), ?_⟩
    have hc := T.cl_Mark
    have hn1 := T.na_Mark_parts
    have hn2 := T.na_Mark_text
    kxt_pos
    kopn_word
    exact kk _ (by kt_ors)
theorem ok_Mark_number (T : Txt K mg Z) : FnOk P w K mg base CX0 1 Z.a_Mark_number Z.d_Mark_number ["self"] (spGet K Z.C_Mark (fun m => .int m.num)) := by
  refine T.F_Mark_number.ok sc_Mark_number (fun vs H Q E h => ?_) (fun cdv A outer s H vs Q E hr h => ?_)
  · obtain ⟨_, _, _, _, rfl, _⟩ := h; rfl
  · obtain ⟨x, m, Φ, mt, rfl, hx, s, kk⟩ := h
    refine ⟨_, (pss_one (ps_ret (pe_ix (ixT K) (fldK K (pv 0) rfl) pe_int (fun _ _ => rfl)))), ?_⟩
    have hc := T.cl_Mark
    have hn1 := T.na_Mark_parts
    have hn2 := T.na_Mark_text
    kxt_pos
    kopn_word
    exact kk _ (by kt_ors)
theorem ok_Mark_points (T : Txt K mg Z) : FnOk P w K mg base CX0 1 Z.a_Mark_points Z.d_Mark_points ["self"] (spGet K Z.C_Mark (fun m => .str m.pts)) := by
  refine T.F_Mark_points.ok sc_Mark_points (fun vs H Q E h => ?_) (fun cdv A outer s H vs Q E hr h => ?_)
  · obtain ⟨_, _, _, _, rfl, _⟩ := h; rfl
  · obtain ⟨x, m, Φ, mt, rfl, hx, s, kk⟩ := h
    refine ⟨_, (pss_one (ps_ret (pe_ix (ixT K) (fldK K (pv 0) rfl) pe_int (fun _ _ => rfl)))), ?_⟩
    have hc := T.cl_Mark
    have hn1 := T.na_Mark_parts
    have hn2 := T.na_Mark_text
    kxt_pos
    kopn_word
    exact kk _ (by kt_ors)
theorem ok_Mark_makers (T : Txt K mg Z) : FnOk P w K mg base CX0 1 Z.a_Mark_makers Z.d_Mark_makers ["self"] (spGetT K Z.C_Mark (fun m => m.mks.map W.s)) := by
  refine T.F_Mark_makers.ok sc_Mark_makers (fun vs H Q E h => ?_) (fun cdv A outer s H vs Q E hr h => ?_)
  · obtain ⟨_, _, _, _, rfl, _⟩ := h; rfl
  · obtain ⟨x, m, Φ, mt, rfl, hx, s, kk⟩ := h
    refine ⟨_, (pss_one (ps_ret (pe_ix (ixT K) (fldK K (pv 0) rfl) pe_int (fun _ _ => rfl)))), ?_⟩
    have hc := T.cl_Mark
    have hn1 := T.na_Mark_parts
    have hn2 := T.na_Mark_text
    kxt_pos
    kopn_word
    exact kk _ _ (by kt_ors)
theorem ok_Mark_year (T : Txt K mg Z) : FnOk P w K mg base CX0 1 Z.a_Mark_year Z.d_Mark_year ["self"] (spGet K Z.C_Mark (fun m => oi m.yr)) := by
  refine T.F_Mark_year.ok sc_Mark_year (fun vs H Q E h => ?_) (fun cdv A outer s H vs Q E hr h => ?_)
  · obtain ⟨_, _, _, _, rfl, _⟩ := h; rfl
  · obtain ⟨x, m, Φ, mt, rfl, hx, s, kk⟩ := h
    refine ⟨_, (pss_one (ps_ret (pe_ix (ixT K) (fldK K (pv 0) rfl) pe_int (fun _ _ => rfl)))), ?_⟩
    have hc := T.cl_Mark
    have hn1 := T.na_Mark_parts
    have hn2 := T.na_Mark_text
    kxt_pos
    kopn_word
    exact kk _ (by kt_ors)
theorem ok_Mark_copy_number (T : Txt K mg Z) : FnOk P w K mg base CX0 1 Z.a_Mark_copy_number Z.d_Mark_copy_number ["self"] (spGet K Z.C_Mark (fun m => oi m.cp)) := by
  refine T.F_Mark_copy_number.ok sc_Mark_copy_number (fun vs H Q E h => ?_) (fun cdv A outer s H vs Q E hr h => ?_)
  · obtain ⟨_, _, _, _, rfl, _⟩ := h; rfl
  · obtain ⟨x, m, Φ, mt, rfl, hx, s, kk⟩ := h
    refine ⟨_, (pss_one (ps_ret (pe_ix (ixT K) (fldK K (pv 0) rfl) pe_int (fun _ _ => rfl)))), ?_⟩
    have hc := T.cl_Mark
    have hn1 := T.na_Mark_parts
    have hn2 := T.na_Mark_text
    kxt_pos
    kopn_word
    exact kk _ (by kt_ors)
theorem ok_Mark_parts (T : Txt K mg Z) : FnOk P w K mg base CX0 1 Z.a_Mark_parts Z.d_Mark_parts ["self"] (spGetT K Z.C_Mark (fun m => [.s m.lt, .i m.num, .s m.pts, .t (m.mks.map W.s), W.o m.yr, W.o m.cp])) := by
  refine T.F_Mark_parts.ok sc_Mark_parts (fun vs H Q E h => ?_) (fun cdv A outer s H vs Q E hr h => ?_)
  · obtain ⟨_, _, _, _, rfl, _⟩ := h; rfl
  · obtain ⟨x, m, Φ, mt, rfl, hx, s, kk⟩ := h
    refine ⟨_, (pss_one (ps_ret (fldK K (pv 0) rfl))), ?_⟩
    have hc := T.cl_Mark
    have hn1 := T.na_Mark_parts
    have hn2 := T.na_Mark_text
    kxt_pos
    kopn_word
    exact kk _ _ (by kt_ors)
theorem ok_Mark_str (T : Txt K mg Z) : FnOk P w K mg base CX0 1 Z.a_Mark_str Z.d_Mark_str ["self"] (spGet K Z.C_Mark (fun m => .str m.text)) := by
  refine T.F_Mark_str.ok sc_Mark_str (fun vs H Q E h => ?_) (fun cdv A outer s H vs Q E hr h => ?_)
  · obtain ⟨_, _, _, _, rfl, _⟩ := h; rfl
  · obtain ⟨x, m, Φ, mt, rfl, hx, s, kk⟩ := h
    refine ⟨_, (pss_one (ps_ret (pe_callTy (call_strS) (by rfl) T.n_str (by decide +kernel) (pa_cons (fldK K (pv 0) rfl) pa_nil)))), ?_⟩
    have hc := T.cl_Mark
    have hn1 := T.na_Mark_parts
    have hn2 := T.na_Mark_text
    have hz : m.text.length ≤ 50000 := text_len (s.mark hx).2
    kxt_pos
    kopn_word
    exact kk _ (by kt_ors)
theorem ok_Mark_repr (T : Txt K mg Z) : FnOk P w K mg base CX0 1 Z.a_Mark_repr Z.d_Mark_repr ["self"] (spGet K Z.C_Mark (fun m => .str (("<" : Str) ++ m.text ++ (">" : Str)))) := by
  refine T.F_Mark_repr.ok sc_Mark_repr (fun vs H Q E h => ?_) (fun cdv A outer s H vs Q E hr h => ?_)
  · obtain ⟨_, _, _, _, rfl, _⟩ := h; rfl
  · obtain ⟨x, m, Φ, mt, rfl, hx, s, kk⟩ := h
    refine ⟨_, (pss_one (ps_ret (pe_joinedq (.cons pe_str (.cons (pe_fmt (fldK K (pv 0) rfl)) (.cons pe_str .nil)))))), ?_⟩
    have hc := T.cl_Mark
    have hn1 := T.na_Mark_parts
    have hn2 := T.na_Mark_text
    have hz : m.text.length ≤ 50000 := text_len (s.mark hx).2
    kxt_pos
    kopn_word
    exact kk _ (by kt_ors)
theorem ok_Mark_len (T : Txt K mg Z) : FnOk P w K mg base CX0 1 Z.a_Mark_len Z.d_Mark_len ["self"] (spGet K Z.C_Mark (fun m => .int (m.text.length : Int))) := by
  refine T.F_Mark_len.ok sc_Mark_len (fun vs H Q E h => ?_) (fun cdv A outer s H vs Q E hr h => ?_)
  · obtain ⟨_, _, _, _, rfl, _⟩ := h; rfl
  · obtain ⟨x, m, Φ, mt, rfl, hx, s, kk⟩ := h
    refine ⟨_, (pss_one (ps_ret (pe_callB (call_lenS) (by rfl) T.n_len (by decide +kernel) (pa_cons (fldK K (pv 0) rfl) pa_nil)))), ?_⟩
    have hc := T.cl_Mark
    have hn1 := T.na_Mark_parts
    have hn2 := T.na_Mark_text
    have hz : m.text.length ≤ 50000 := text_len (s.mark hx).2
    kxt_pos
    kopn_word
    exact kk _ (by kt_ors)
end

/-! ### marks made of any parts, over facts -/
section
variable {K : PySem.W.Frag} {C : Addr} {Cs : List Addr} {σ : L2.St} {H H1 : Hp} {Φ : List (V × W)} {mt nt : List (Addr × (HO → Prop))} {Q : VK} {E : XK} {v v4 v5 mk : V} {lt pts : Str} {num : Int} {ks : List Str} {yr cp : Option Int}
theorem g_markA {g : V → List V} (s : S K C H Φ mt) (hv : ∀ x, g x = [x, .str lt, .int num, .str pts, mk, v4, v5]) (c4 : OiV v4 yr) (c5 : OiV v5 cp) (hm : MkIn H mk ks) (ok : (⟨lt, num, pts, ks, yr, cp⟩ : MK).Ok)
    (k : ∀ x H', S K C H' ((.ref x, .m ⟨lt, num, pts, ks, yr, cp⟩) :: Φ) mt → Q (.ref x) H') : MakeW C (spMarkA C Cs) E g H Q := by
  intro x dx hx hdx hne
  rw [hv, c4.h, c5.h]
  have e1 : Ex H (upd (upd H dx (.own x)) x (.ins C dx [])) := (Ex.new hdx).trans (Ex.new (by rw [upd_ne hne.symm]; exact hx))
  have hl := letters_len ok.l
  exact ⟨H, x, dx, ⟨lt, num, pts, ks, yr, cp⟩, mk, rfl, ⟨by omega, ok.pz, Nat.le_trans ok.k (by decide), fun s hs => (ok.ks s hs).2, fun c hc => (ok.c c hc).2⟩, e1, hx, upd_same, hm.ex e1, fun _ H' e h => ⟨rfl, k x H' (s.addMark hx e h ok)⟩, fun no => absurd ok no⟩
/-- what any of these classes lets out in a state -/
def OutA (K : PySem.W.Frag) (C : Addr) (Φ : List (V × W)) (mt : List (Addr × (HO → Prop))) (Cs : List Addr) (E : XK) : Prop := ∀ c ∈ Cs, ∀ v H' d, S K C H' Φ mt → H' d = some (.xd [("found", v)]) → E (.ref c) (some d) H'
theorem OutA.any (s : S K C H Φ mt) (h : OutA K C Φ mt Cs E) : LetsAny H Cs E := fun c hc v H1 e d hd => h c hc v _ d (s.ext (e.trans (Ex.new hd))) upd_same
theorem g_markB {g : V → List V} (s : S K C H Φ mt) (hv : ∀ x, g x = [x, .str lt, .int num, .str pts, mk, v4, v5]) (c4 : OiV v4 yr) (c5 : OiV v5 cp) (hm : MkIn H mk ks) (hz : lt.length ≤ 1000 ∧ pts.length ≤ 1000 ∧ ks.length ≤ 1000 ∧ (∀ s ∈ ks, s.length ≤ 1000) ∧ ∀ c, cp = some c → c.natAbs.log2 < 1920)
    (k : (⟨lt, num, pts, ks, yr, cp⟩ : MK).Ok → ∀ x H', S K C H' ((.ref x, .m ⟨lt, num, pts, ks, yr, cp⟩) :: Φ) mt → Q (.ref x) H') (kE : ¬ (⟨lt, num, pts, ks, yr, cp⟩ : MK).Ok → LetsAny H Cs E) : MakeW C (spMarkA C Cs) E g H Q := by
  intro x dx hx hdx hne
  rw [hv, c4.h, c5.h]
  have e1 : Ex H (upd (upd H dx (.own x)) x (.ins C dx [])) := (Ex.new hdx).trans (Ex.new (by rw [upd_ne hne.symm]; exact hx))
  exact ⟨H, x, dx, ⟨lt, num, pts, ks, yr, cp⟩, mk, rfl, hz, e1, hx, upd_same, hm.ex e1, fun ok H' e h => ⟨rfl, k ok x H' (s.addMark hx e h ok)⟩, fun no => (kE no).ex e1⟩
end
local macro_rules | `(tactic| kt_at_get) => `(tactic| with_reducible first
  | (apply g_markA; (focus (assumption)); (focus (intro _; with_unfolding_all rfl)); (focus (infer_instance)); (focus (infer_instance)); (focus (kt_at_method)); (focus (assumption)); intro _ _ _))

/-! ### draws of the pool -/
def spTakeS (K : PySem.W.Frag) (C : Addr) : Sp := fun vs H Q _ => ∃ (b : Addr) (k : Int) (Φ : List (V × W)) (mt : List (Addr × (HO → Prop))), vs = [.ref b, .int k] ∧ 0 < k ∧ k < 1606938044258990275541962092341162602522202993782792835301376 ∧ (b, IsBox) ∈ mt ∧ S K C H Φ mt ∧ ∀ (r : Int) H', 0 ≤ r → r < k → S K C H' Φ mt → Q (.int r) H'
def spPoolS (K : PySem.W.Frag) (C : Addr) : Sp := fun vs H Q _ => ∃ (c : Int) (Φ : List (V × W)) (mt : List (Addr × (HO → Prop))), vs = [.int c] ∧ S K C H Φ mt ∧ ∀ p H', S K C H' Φ ((p, IsBox) :: mt) → Q (.ref p) H'
section
variable {K : PySem.W.Frag} {C : Addr} {σ : L2.St} {H : Hp} {Φ : List (V × W)} {mt : List (Addr × (HO → Prop))} {Q : VK} {b : Addr} {k : Int} {E : XK}
theorem use_take (s : S K C H Φ mt) (hb : (b, IsBox) ∈ mt) (h0 : 0 < k) (h1 : k < 1606938044258990275541962092341162602522202993782792835301376) (q : ∀ (r : Int) H', 0 ≤ r → r < k → S K C H' Φ mt → Q (.int r) H') : spTakeS K C [.ref b, .int k] H Q E := ⟨b, k, Φ, mt, rfl, h0, h1, hb, s, q⟩
theorem use_pool {c : Int} (s : S K C H Φ mt) (q : ∀ p H', S K C H' Φ ((p, IsBox) :: mt) → Q (.ref p) H') : spPoolS K C [.int c] H Q E := ⟨c, Φ, mt, rfl, s, q⟩
end
section
variable {P : Program} {w : World} {K : PySem.W.Frag} {mg : Str → Option Value} {base : Heap} {Z : Adr} {C : Addr}
theorem ok_l_take (T : Txt K mg Z) : FnOk P w K mg base CX0 1 Z.a_l_take Z.d_l_take ["_law_pool_here", "_law_size"] (spTakeS K Z.C_Mark) := by
  refine T.F_l_take.ok sc_l_take (fun vs H Q E h => ?_) (fun cdv A outer s H vs Q E hr h => ?_)
  · obtain ⟨_, _, _, _, rfl, _⟩ := h; rfl
  · obtain ⟨b, k, Φ, mt, rfl, h0, hl, hb, s, kk⟩ := h
    refine ⟨_, (pss_cons (ps_set (i := 2) sc_l_take.nd rfl (.inl rfl) (pe_op op_modN (pe_ix (ixL K) (pv 0) pe_int (fun _ _ => rfl)) (pv 1)))
      (pss_cons (ps_asg (pe_op op_fdivW (pe_ix (ixL K) (pv 0) pe_int (fun _ _ => rfl)) (pv 1)) (pg_sub (pv 0) pe_int set_list))
      (pss_one (ps_ret (pv 2))))), ?_⟩
    obtain ⟨nt, s, back⟩ := s.front hb
    obtain ⟨_, ⟨a, rfl⟩, s⟩ := s.sharp
    have hk : k.natAbs.log2 < 9000 := log_small (by omega) hl
    have hk0 : k ≠ 0 := by omega
    kxt_pos
    kopn_word
    rename_i H2 s2
    exact kk _ _ (Int.fmod_nonneg_of_pos _ h0) (Int.fmod_lt_of_pos _ h0) (back _ _ (s2.blur ⟨_, rfl⟩))
theorem ok_l_pool (T : Txt K mg Z) : FnOk P w K mg base CX0 1 Z.a_l_pool Z.d_l_pool ["_law_cell"] (spPoolS K Z.C_Mark) := by
  refine T.F_l_pool.ok sc_l_pool (fun vs H Q E h => ?_) (fun cdv A outer s H vs Q E hr h => ?_)
  · obtain ⟨_, _, _, rfl, _⟩ := h; rfl
  · obtain ⟨c, Φ, mt, rfl, s, kk⟩ := h
    refine ⟨_, (pss_cons (ps_if (pt_cmpR op_ge (pv 0) (pe_op op_pow pe_int pe_int) (nomark _)) (pss_one (ps_ret (peM (pe_lst (pa_cons (pv 0) pa_nil))))) pss_nil)
      (pss_cons (ps_set (i := 1) sc_l_pool.nd rfl (.inl rfl) pe_int)
      (pss_cons (ps_for PassesOwn.never rfl (pi_range1 rfl T.n_range (pa_cons pe_int pa_nil)) (pg_name (i := 2) sc_l_pool.nd rfl (.inl rfl)) (pss_cons (ps_set (i := 3) sc_l_pool.nd rfl (.inl rfl) (pe_op op_mod (pe_op op_pow (pe_op op_add (pe_op op_add (pe_op op_mul (pe_op op_mod (pv 0) pe_int) pe_int) (pe_op op_mul pe_int (pv 2))) pe_int) pe_int) pe_int))
      (pss_one (ps_set (i := 1) sc_l_pool.nd rfl (.inl rfl) (pe_op op_add (pe_op op_mul (pv 1) pe_int) (pe_op op_mod (pe_op op_pow (pe_op op_add (pe_op op_mul (pv 3) pe_int) (pv 2)) pe_int) pe_int))))))
      (pss_one (ps_ret (peM (pe_lst (pa_cons (pv 1) pa_nil)))))))), ?_⟩
    kxt_pos
    kopn_word
    · rename_i p H1 s1
      exact kk _ _ (s1.blur ⟨_, rfl⟩)
    · refine g_forR (fun i σ' H' => ∃ (x : Int) (v2 v3 : Option V), σ' = [some (.int c), some (.int x), v2, v3] ∧ S K Z.C_Mark H' Φ mt) ⟨_, _, _, rfl, by assumption⟩ (fun i σ' H' hi g => ?_) (fun σ' H' g => ?_)
      · obtain ⟨x, v2, v3, rfl, s1⟩ := g
        have hi : i < 9 := hi
        kopn_word
        exact ⟨_, _, _, rfl, by kt_ors⟩
      · obtain ⟨x, v2, v3, rfl, s1⟩ := g
        kopn_word
        rename_i p H1 s2
        exact kk _ _ (s2.blur ⟨_, rfl⟩)
end
def spFigP (K : PySem.W.Frag) (C : Addr) : Sp := fun vs H Q _ => ∃ (b : Addr) (k : Int) (Φ : List (V × W)) (mt : List (Addr × (HO → Prop))), vs = [.ref b, .int k] ∧ 0 < k ∧ k ≤ 1000 ∧ (b, IsBox) ∈ mt ∧ S K C H Φ mt ∧ ∀ (t : Str) H', endedOk t = true → (t.length : Int) ≤ k → S K C H' Φ mt → Q (.str t) H'
def spMakP (K : PySem.W.Frag) (C : Addr) : Sp := fun vs H Q _ => ∃ (b : Addr) (k : Int) (Φ : List (V × W)) (mt : List (Addr × (HO → Prop))), vs = [.ref b, .int k] ∧ 0 < k ∧ k ≤ 1000 ∧ (b, IsBox) ∈ mt ∧ S K C H Φ mt ∧ ∀ (t : Str) H', makerOk t = true → (t.length : Int) ≤ k + 1 → S K C H' Φ mt → Q (.str t) H'
section
variable {K : PySem.W.Frag} {C : Addr} {σ : L2.St} {H : Hp} {Φ : List (V × W)} {mt : List (Addr × (HO → Prop))} {Q : VK} {b : Addr} {k : Int} {E : XK}
theorem use_figP (s : S K C H Φ mt) (hb : (b, IsBox) ∈ mt) (h0 : 0 < k) (h1 : k ≤ 1000) (q : ∀ (t : Str) H', endedOk t = true → (t.length : Int) ≤ k → S K C H' Φ mt → Q (.str t) H') : spFigP K C [.ref b, .int k] H Q E := ⟨b, k, Φ, mt, rfl, h0, h1, hb, s, q⟩
theorem use_makP (s : S K C H Φ mt) (hb : (b, IsBox) ∈ mt) (h0 : 0 < k) (h1 : k ≤ 1000) (q : ∀ (t : Str) H', makerOk t = true → (t.length : Int) ≤ k + 1 → S K C H' Φ mt → Q (.str t) H') : spMakP K C [.ref b, .int k] H Q E := ⟨b, k, Φ, mt, rfl, h0, h1, hb, s, q⟩
end
local macro_rules | `(tactic| kt_len) => `(tactic| with_reducible first
  | (apply use_take; (focus (assumption)); (focus (tb_rel)); (focus (kcf_m)); (focus (kcf_m)); intro _ _ _ _ _)
  | (apply use_figP; (focus (assumption)); (focus (tb_rel)); (focus (kcf_m)); (focus (kcf_m)); intro _ _ _ _ _))
section
variable {P : Program} {w : World} {K : PySem.W.Frag} {mg : Str → Option Value} {base : Heap} {Z : Adr} {C : Addr}
theorem ok_l_figures (T : Txt K mg Z) : FnOk P w K mg base CX0 2 Z.a_l_figures Z.d_l_figures ["_law_pool_here", "_law_most"] (spFigP K Z.C_Mark) := by
  refine T.F_l_figures.ok sc_l_figures (fun vs H Q E h => ?_) (fun cdv A outer s H vs Q E hr h => ?_)
  · obtain ⟨_, _, _, _, rfl, _⟩ := h; rfl
  · obtain ⟨b, k, Φ, mt, rfl, h0, hl, hb, s, kk⟩ := h
    refine ⟨_, (pss_cons (ps_set (i := 2) sc_l_figures.nd rfl (.inl rfl) pe_str)
      (pss_cons (ps_for PassesOwn.never rfl (pi_range1 rfl T.n_range (pa_cons (pe_call (ok_l_take T) (hr.mono (by decide)) rfl T.g_l_take T.F_l_take.kp T.b_l_take .nil pass0 (pa_cons (pv 0) (pa_cons (pv 1) pa_nil))) pa_nil)) (pg_name (i := 3) sc_l_figures.nd rfl (.inl rfl)) (pss_one (ps_set (i := 2) sc_l_figures.nd rfl (.inl rfl) (pe_op op_addS (pv 2) (pe_ix ix_str pe_str (pe_call (ok_l_take T) (hr.mono (by decide)) rfl T.g_l_take T.F_l_take.kp T.b_l_take .nil pass0 (pa_cons (pv 0) (pa_cons pe_int pa_nil))) (fun _ _ => rfl))))))
      (pss_one (ps_ret (pe_op op_addS (pv 2) (pe_ix ix_str pe_str (pe_call (ok_l_take T) (hr.mono (by decide)) rfl T.g_l_take T.F_l_take.kp T.b_l_take .nil pass0 (pa_cons (pv 0) (pa_cons pe_int pa_nil))) (fun _ _ => rfl))))))), ?_⟩
    kxt_pos
    kopn_word
    rename_i r H1 r0 r1 s1
    refine g_forR (fun i σ' H' => ∃ (t : Str) (v : Option V), σ' = [some (.ref b), some (.int k), some (.str t), v] ∧ FigS t ∧ t.length = i ∧ S K Z.C_Mark H' Φ mt) ⟨_, _, rfl, fig_nil, by decide +kernel, s1⟩ (fun i σ' H' hi g => ?_) (fun σ' H' g => ?_)
    · obtain ⟨t, v, rfl, hf, ht, s2⟩ := g
      have hi : i < 1000 := by omega
      kopn_word
      rename_i c hc hcm
      exact ⟨_, _, rfl, fig_app hf (fig_one hcm), by rw [len_app, len_one, ht], by kt_ors⟩
    · obtain ⟨t, v, rfl, hf, ht, s2⟩ := g
      have hz : t.length ≤ 1000 := by omega
      kopn_word
      rename_i c hc hcm
      exact kk _ _ (fig_endOk hf (fig_of9 hcm).1 (fig_of9 hcm).2) (by rw [len_app, len_one, ht]; omega) (by kt_ors)
theorem ok_l_maker (T : Txt K mg Z) : FnOk P w K mg base CX0 3 Z.a_l_maker Z.d_l_maker ["_law_pool_here", "_law_most"] (spMakP K Z.C_Mark) := by
  refine T.F_l_maker.ok sc_l_maker (fun vs H Q E h => ?_) (fun cdv A outer s H vs Q E hr h => ?_)
  · obtain ⟨_, _, _, _, rfl, _⟩ := h; rfl
  · obtain ⟨b, k, Φ, mt, rfl, h0, hl, hb, s, kk⟩ := h
    refine ⟨_, (pss_cons (ps_set (i := 2) sc_l_maker.nd rfl (.inl rfl) (pe_ix ix_str pe_str (pe_call (ok_l_take T) (hr.mono (by decide)) rfl T.g_l_take T.F_l_take.kp T.b_l_take .nil pass0 (pa_cons (pv 0) (pa_cons pe_int pa_nil))) (fun _ _ => rfl)))
      (pss_cons (ps_if (pt_cmpR op_eq (pe_call (ok_l_take T) (hr.mono (by decide)) rfl T.g_l_take T.F_l_take.kp T.b_l_take .nil pass0 (pa_cons (pv 0) (pa_cons pe_int pa_nil))) pe_int (nomark _)) (pss_one (ps_set (i := 2) sc_l_maker.nd rfl (.inl rfl) (pe_ix ix_str pe_str (pe_call (ok_l_take T) (hr.mono (by decide)) rfl T.g_l_take T.F_l_take.kp T.b_l_take .nil pass0 (pa_cons (pv 0) (pa_cons pe_int pa_nil))) (fun _ _ => rfl)))) pss_nil)
      (pss_one (ps_ret (pe_op op_addS (pv 2) (pe_call (ok_l_figures T) (hr.mono (by decide)) rfl T.g_l_figures T.F_l_figures.kp T.b_l_figures .nil pass0 (pa_cons (pv 0) (pa_cons (pv 1) pa_nil)))))))), ?_⟩
    have abcd : ∀ c ∈ sg (Str.ofString "abcd"), c ∈ sg sABC := by decide +kernel
    kxt_pos
    kopn_word
    · exact kk _ _ (maker_ok (abcd _ (by assumption)) (by assumption)) (by rw [len_app, len_one]; omega) (by kt_ors)
    · exact kk _ _ (maker_ok (by assumption) (by assumption)) (by rw [len_app, len_one]; omega) (by kt_ors)
end

def MK.Small (m : MK) : Prop := m.pts.length ≤ 50 ∧ (∀ s ∈ m.mks, s.length ≤ 50) ∧ ∀ c, m.cp = some c → c < 10000000000000000000000000000000
/-! ### the pool's parts -/
def spParS (K : PySem.W.Frag) (C : Addr) : Sp := fun vs H Q _ => ∃ (b : Addr) (Φ : List (V × W)) (mt : List (Addr × (HO → Prop))), vs = [.ref b] ∧ (b, IsBox) ∈ mt ∧ S K C H Φ mt ∧ ∀ p ma (m : MK) H', m.Ok → m.Small → S K C H' ((.ref ma, .l (m.mks.map W.s)) :: Φ) ((p, Eq (.lst [.str m.lt, .int m.num, .str m.pts, .ref ma, oi m.yr, oi m.cp])) :: mt) → Q (.ref p) H'
section
variable {K : PySem.W.Frag} {C : Addr} {σ : L2.St} {H : Hp} {Φ : List (V × W)} {mt : List (Addr × (HO → Prop))} {Q : VK} {b : Addr} {E : XK}
theorem S.fixRow {p ma : Addr} {lt pts : Str} {num : Int} {yr cp : Option Int} {ks : List Str} (s : S K C H ((.ref ma, .l (ks.map W.s)) :: Φ) ((p, Eq (.lst [.str lt, .int num, .str pts, .ref ma, oi yr, oi cp])) :: mt)) : S K C H ((.ref p, MK.row ⟨lt, num, pts, ks, yr, cp⟩) :: Φ) mt :=
  (s.fixL .hd (.cons (.s _) (.cons (.i _) (.cons (.s _) (.cons (.f List.mem_cons_self) (.cons (.o _) (.cons (.o _) .nil))))))).to (fun z hz => by
    rcases List.mem_cons.mp hz with rfl | hz
    · exact List.mem_cons_self
    · exact List.mem_cons_of_mem _ (List.mem_cons_of_mem _ hz)) (List.Sublist.refl _)
theorem use_par (s : S K C H Φ mt) (hb : (b, IsBox) ∈ mt) (q : ∀ p (m : MK) H', m.Ok → m.Small → S K C H' ((.ref p, m.row) :: Φ) mt → Q (.ref p) H') : spParS K C [.ref b] H Q E := ⟨b, Φ, mt, rfl, hb, s, fun p _ m H' ok sm s' => q p m H' ok sm s'.fixRow⟩
theorem use_parM (s : S K C H Φ mt) (hb : (b, IsBox) ∈ mt) (q : ∀ p ma (m : MK) H', m.Ok → m.Small → S K C H' ((.ref ma, .l (m.mks.map W.s)) :: Φ) ((p, Eq (.lst [.str m.lt, .int m.num, .str m.pts, .ref ma, oi m.yr, oi m.cp])) :: mt) → Q (.ref p) H') : spParS K C [.ref b] H Q E := ⟨b, Φ, mt, rfl, hb, s, q⟩
end
local macro_rules | `(tactic| kt_len) => `(tactic| with_reducible first
  | (apply use_take; (focus (assumption)); (focus (tb_rel)); (focus (kcf_m)); (focus (kcf_m)); intro _ _ _ _ _)
  | (apply use_figP; (focus (assumption)); (focus (tb_rel)); (focus (kcf_m)); (focus (kcf_m)); intro _ _ _ _ _)
  | (apply use_makP; (focus (assumption)); (focus (tb_rel)); (focus (kcf_m)); (focus (kcf_m)); intro _ _ _ _ _))
section
variable {P : Program} {w : World} {K : PySem.W.Frag} {mg : Str → Option Value} {base : Heap} {Z : Adr} {C : Addr}
theorem ok_l_parts (T : Txt K mg Z) : FnOk P w K mg base CX0 4 Z.a_l_parts Z.d_l_parts ["_law_pool_here"] (spParS K Z.C_Mark) := by
  refine T.F_l_parts.ok sc_l_parts (fun vs H Q E h => ?_) (fun cdv A outer s H vs Q E hr h => ?_)
  · obtain ⟨_, _, _, rfl, _⟩ := h; rfl
  · obtain ⟨b, Φ, mt, rfl, hb, s, kk⟩ := h
    refine ⟨_, (pss_cons (ps_set (i := 1) sc_l_parts.nd rfl (.inl rfl) (pe_ix (ixL K) (pe_lst (pa_cons pe_int (pa_cons pe_int (pa_cons pe_int (pa_cons pe_int (pa_cons pe_int (pa_cons pe_int (pa_cons pe_int (pa_cons pe_int pa_nil))))))))) (pe_call (ok_l_take T) (hr.mono (by decide)) rfl T.g_l_take T.F_l_take.kp T.b_l_take .nil pass0 (pa_cons (pv 0) (pa_cons pe_int pa_nil))) (fun _ _ => rfl)))
      (pss_cons (ps_set (i := 2) sc_l_parts.nd rfl (.inl rfl) pe_str)
      (pss_cons (ps_for PassesOwn.never rfl (pi_range1 rfl T.n_range (pa_cons (pe_op op_add pe_int (pe_call (ok_l_take T) (hr.mono (by decide)) rfl T.g_l_take T.F_l_take.kp T.b_l_take .nil pass0 (pa_cons (pv 0) (pa_cons pe_int pa_nil)))) pa_nil)) (pg_name (i := 3) sc_l_parts.nd rfl (.inl rfl)) (pss_one (ps_set (i := 2) sc_l_parts.nd rfl (.inl rfl) (pe_op op_addS (pv 2) (pe_ix ix_str pe_str (pe_call (ok_l_take T) (hr.mono (by decide)) rfl T.g_l_take T.F_l_take.kp T.b_l_take .nil pass0 (pa_cons (pv 0) (pa_cons pe_int pa_nil))) (fun _ _ => rfl))))))
      (pss_cons (ps_set (i := 4) sc_l_parts.nd rfl (.inl rfl) (pe_op op_add pe_int (pe_call (ok_l_take T) (hr.mono (by decide)) rfl T.g_l_take T.F_l_take.kp T.b_l_take .nil pass0 (pa_cons (pv 0) (pa_cons (pe_ix (ixL K) (pe_lst (pa_cons pe_int (pa_cons pe_int (pa_cons pe_int (pa_cons pe_int pa_nil))))) (pe_call (ok_l_take T) (hr.mono (by decide)) rfl T.g_l_take T.F_l_take.kp T.b_l_take .nil pass0 (pa_cons (pv 0) (pa_cons pe_int pa_nil))) (fun _ _ => rfl)) pa_nil)))))
      (pss_cons (ps_set (i := 5) sc_l_parts.nd rfl (.inl rfl) pe_str)
      (pss_cut (ps_if (pt_cmpR op_eq (pe_call (ok_l_take T) (hr.mono (by decide)) rfl T.g_l_take T.F_l_take.kp T.b_l_take .nil pass0 (pa_cons (pv 0) (pa_cons pe_int pa_nil))) pe_int (nomark _)) (pss_one (ps_set (i := 5) sc_l_parts.nd rfl (.inl rfl) (pe_call (ok_l_figures T) (hr.mono (by decide)) rfl T.g_l_figures T.F_l_figures.kp T.b_l_figures .nil pass0 (pa_cons (pv 0) (pa_cons (pv 1) pa_nil))))) pss_nil)
      (pss_cons (ps_set (i := 6) sc_l_parts.nd rfl (.inl rfl) (peM (pe_lst pa_nil)))
      (pss_cons (ps_for PassesOwn.never rfl (pi_range1 rfl T.n_range (pa_cons (pe_call (ok_l_take T) (hr.mono (by decide)) rfl T.g_l_take T.F_l_take.kp T.b_l_take .nil pass0 (pa_cons (pv 0) (pa_cons pe_int pa_nil))) pa_nil)) (pg_name (i := 3) sc_l_parts.nd rfl (.inl rfl)) (pss_one (ps_expr (bmK K PySem.F.plainAttrs_list PySem.F.slot_list_append PySem.F.type_list_append mt_append (pv 6) (pa_cons (pe_call (ok_l_maker T) (hr.mono (by decide)) rfl T.g_l_maker T.F_l_maker.kp T.b_l_maker .nil pass0 (pa_cons (pv 0) (pa_cons (pv 1) pa_nil))) pa_nil)))))
      (pss_cons (ps_set (i := 7) sc_l_parts.nd rfl (.inl rfl) pe_non)
      (pss_cut (ps_if (pt_cmpR op_eq (pe_call (ok_l_take T) (hr.mono (by decide)) rfl T.g_l_take T.F_l_take.kp T.b_l_take .nil pass0 (pa_cons (pv 0) (pa_cons pe_int pa_nil))) pe_int (nomark _)) (pss_one (ps_set (i := 7) sc_l_parts.nd rfl (.inl rfl) (pe_op op_add pe_int (pe_call (ok_l_take T) (hr.mono (by decide)) rfl T.g_l_take T.F_l_take.kp T.b_l_take .nil pass0 (pa_cons (pv 0) (pa_cons pe_int pa_nil)))))) pss_nil)
      (pss_cons (ps_set (i := 8) sc_l_parts.nd rfl (.inl rfl) pe_non)
      (pss_cut (ps_if (pt_cmpR op_eq (pe_call (ok_l_take T) (hr.mono (by decide)) rfl T.g_l_take T.F_l_take.kp T.b_l_take .nil pass0 (pa_cons (pv 0) (pa_cons pe_int pa_nil))) pe_int (nomark _)) (pss_one (ps_set (i := 8) sc_l_parts.nd rfl (.inl rfl) (pe_op op_add pe_int (pe_call (ok_l_take T) (hr.mono (by decide)) rfl T.g_l_take T.F_l_take.kp T.b_l_take .nil pass0 (pa_cons (pv 0) (pa_cons (pe_ix (ixL K) (pe_lst (pa_cons pe_int (pa_cons pe_int (pa_cons pe_int (pa_cons (pe_op op_pow pe_int pe_int) pa_nil))))) (pe_call (ok_l_take T) (hr.mono (by decide)) rfl T.g_l_take T.F_l_take.kp T.b_l_take .nil pass0 (pa_cons (pv 0) (pa_cons pe_int pa_nil))) (fun _ _ => rfl)) pa_nil)))))) pss_nil)
      (pss_one (ps_ret (peM (pe_lst (pa_cons (pv 2) (pa_cons (pv 4) (pa_cons (pv 5) (pa_cons (pv 6) (pa_cons (pv 7) (pa_cons (pv 8) pa_nil)))))))))))))))))))))), ?_⟩
    kxt_pos
    kopn_word
    rename_i p0 H0 sp0 r0 H1 r00 r01 s1 most hmost r2 H2 r20 r21 s2
    have hm : 2 ≤ most ∧ most ≤ 40 := by omega
    have s3 : S K Z.C_Mark H2 Φ mt := by kt_ors
    clear s1 s2 sp0 s hmost
    refine g_forR (fun i σ' H' => ∃ (t : Str) (v : Option V), σ' = [some (.ref b), some (.int most), some (.str t), v, none, none, none, none, none] ∧ (∀ d ∈ sg t, d ∈ sg sABC) ∧ t.length = i ∧ S K Z.C_Mark H' Φ mt) ⟨_, _, rfl, (fun d hd => by rw [show sg (Str.ofString "") = [] by decide +kernel] at hd; cases hd), by decide +kernel, s3⟩ (fun i σ' H' hi g => ?_) (fun σ' H' g => ?_)
    · obtain ⟨t, v, rfl, hf, ht, s4⟩ := g
      have hi : i < 10 := by omega
      kopn_word
      rename_i c hc hcm
      refine ⟨_, _, rfl, fun d hd => ?_, by rw [len_app, len_one, ht], by kt_ors⟩
      rw [sg_app] at hd
      rcases List.mem_append.mp hd with h | h
      · exact hf d h
      · have : d = c := by simpa [sg] using h
        rw [this]; exact hcm
    · obtain ⟨lt, v, rfl, hf, hl, s4⟩ := g
      have hlt : lettersOk lt 3 = true := by
        unfold lettersOk
        rw [decide_eq_true (by omega), decide_eq_true (by omega), allIn_iff.mpr hf]
        rfl
      kopn_word
      rename_i p1 H3 s5 r3 H4 r30 r31 s6 x hx r4 H5 r40 r41 s7
      have hnum : 1 ≤ 1 + r4 ∧ 1 + r4 ≤ 9999 := by omega
      generalize 1 + r4 = num at hnum ⊢
      have s8 : S K Z.C_Mark H5 Φ mt := by kt_ors
      clear s5 s6 s7 s4 hx
      refine ⟨fun σ' H' => ∃ t : Str, σ' = [some (.ref b), some (.int most), some (.str lt), v, some (.int num), some (.str t), none, none, none] ∧ pointsOk t = true ∧ t.length ≤ 50 ∧ S K Z.C_Mark H' Φ mt, ?_, ?_⟩
      · kopn_word
        · refine ⟨_, rfl, ?_, by omega, by kt_ors⟩
          unfold pointsOk
          rw [show endedOk _ = true by assumption, Bool.or_true]
        · exact ⟨_, rfl, by decide +kernel, by decide +kernel, by kt_ors⟩
      rintro σ6 H6 ⟨pts, rfl, hp0, hpl, s9⟩
      kopn_word
      rename_i ha H7 s10 r5 H8 r50 r51 s11
      refine g_forR (fun i σ' H' => ∃ (ks : List Str) (v : Option V), σ' = [some (.ref b), some (.int most), some (.str lt), v, some (.int num), some (.str pts), some (.ref ha), none, none] ∧ ks.length = i ∧ (∀ s ∈ ks, makerOk s = true ∧ s.length ≤ 50) ∧ S K Z.C_Mark H' Φ ((ha, Eq (.lst (ks.map V.str))) :: mt)) ⟨[], _, rfl, rfl, (fun s hs => by cases hs), s11⟩ (fun i σ' H' hi g => ?_) (fun σ' H' g => ?_)
      · obtain ⟨ks, v, rfl, hkl, hks, s12⟩ := g
        have hi : i < 10 := by omega
        kopn_word
        rename_i t H9 h1 h2 s13 H10 s14
        refine ⟨ks ++ [t], _, rfl, by rw [List.length_append, hkl]; rfl, fun s hs => ?_, s14⟩
        rcases List.mem_append.mp hs with h | h
        · exact hks s h
        · rw [List.mem_singleton.mp h]; exact ⟨h1, by omega⟩
      · obtain ⟨ks, v, rfl, hkl, hks, s12⟩ := g
        have hk3 : ks.length ≤ 3 := by omega
        kopn_word
        refine ⟨fun σ' H' => ∃ yr : Option Int, σ' = [some (.ref b), some (.int most), some (.str lt), v, some (.int num), some (.str pts), some (.ref ha), some (oi yr), none] ∧ (∀ i, yr = some i → 1000 ≤ i ∧ i ≤ 2999) ∧ S K Z.C_Mark H' Φ ((ha, Eq (.lst (ks.map V.str))) :: mt), ?_, ?_⟩
        · kopn_word
          · rename_i r6 H9 r60 r61 s13
            exact ⟨some (1000 + r6), rfl, (fun i h => by cases h; omega), by kt_ors⟩
          · exact ⟨none, rfl, (fun i h => nomatch h), by kt_ors⟩
        rintro σ7 H9 ⟨yr, rfl, hyr, s13⟩
        kopn_word
        refine ⟨fun σ' H' => ∃ cp : Option Int, σ' = [some (.ref b), some (.int most), some (.str lt), v, some (.int num), some (.str pts), some (.ref ha), some (oi yr), some (oi cp)] ∧ (∀ i, cp = some i → 2 ≤ i ∧ i < 1000000000000000000000000000000) ∧ S K Z.C_Mark H' Φ ((ha, Eq (.lst (ks.map V.str))) :: mt), ?_, ?_⟩
        · kopn_word
          · rename_i r7 H11 r70 r71 s15 _ p9 H12 s16 r9 H13 r90 r91 s17 x hx
            rw [show (10 : Int) ^ Int.toNat 29 = 100000000000000000000000000000 by decide] at hx
            refine use_take s17 (by tb_rel) (by omega) (by omega) fun r8 H14 r80 r81 s18 => ?_
            kopn_word
            exact ⟨some (2 + r8), rfl, (fun i h => by cases h; omega), by kt_ors⟩
          · exact ⟨none, rfl, (fun i h => nomatch h), by kt_ors⟩
        rintro σ8 H10 ⟨cp, rfl, hcp, s14⟩
        kopn_word
        rename_i p H11 s15
        refine kk p ha ⟨lt, num, pts, ks, yr, cp⟩ H11 ⟨hlt, hnum, hp0, show pts.length ≤ 1000 by omega, hk3, fun s h => ⟨(hks s h).1, by have := (hks s h).2; omega⟩, hyr, fun i h => ⟨(hcp i h).1, by have := hcp i h; exact log_s (by omega) (by omega)⟩⟩ ⟨hpl, fun s h => (hks s h).2, fun c h => Int.lt_trans (hcp c h).2 (by decide)⟩ ?_
        exact s15.fixL (.tl .hd) (.is ks V.str W.s fun x _ => .s x)
end

/-! ### a mark near another one -/
class LenLe (t : Str) (n : outParam Nat) : Prop where
  h : t.length ≤ n
theorem cut_le (t : Str) (lo hi : Option Int) : (cutS t lo hi).length ≤ t.length := by
  rw [← sg_len]
  show (List.toArray _).toList.length ≤ _
  have hl : t.cps.toList.length = t.length := Array.length_toList
  have h1 : ∀ (l : List Nat) (i j : Nat), ((l.drop i).take j).length ≤ l.length := fun l i j => by rw [List.length_take, List.length_drop]; omega
  have := h1 t.cps.toList (HT.sIx t.length 0 lo) (HT.sIx t.length t.length hi - HT.sIx t.length 0 lo)
  rw [hl] at this
  exact this
instance {t : Str} {n : Nat} {lo hi : Option Int} [q : LenLe t n] : LenLe (cutS t lo hi) n := ⟨Nat.le_trans (cut_le t lo hi) q.h⟩
instance {a b : Str} {n m : Nat} [p : LenLe a n] [q : LenLe b m] : LenLe (a ++ b) (n + m) := ⟨by rw [len_app]; have := p.h; have := q.h; omega⟩
instance {c : Nat} : LenLe (⟨#[c]⟩ : Str) 1 := ⟨Nat.le_refl 1⟩
local macro_rules | `(tactic| kcf_m) => `(tactic| first | (apply Nat.le_trans (Nat.add_le_add LenLe.h LenLe.h); decide) | (apply Nat.le_trans LenLe.h; decide))

theorem fig_cutS {w : Str} (h : FigS w) (lo hi : Option Int) : FigS (cutS w lo hi) := fun c hc => h c (by
  have : ∀ (l : List Nat) (i j : Nat), c ∈ (l.drop i).take j → c ∈ l := fun l i j h => List.mem_of_mem_drop (List.mem_of_mem_take h)
  exact this _ _ _ (show c ∈ (List.toArray _).toList from hc))
theorem cut_leN (t : Str) (lo hi : Option Int) : (cutS t lo hi).length ≤ t.length := by
  rw [← sg_len]
  show (List.toArray _).toList.length ≤ _
  have hl : t.cps.toList.length = t.length := Array.length_toList
  have h1 : ∀ (l : List Nat) (i j : Nat), ((l.drop i).take j).length ≤ l.length := fun l i j => by rw [List.length_take, List.length_drop]; omega
  have := h1 t.cps.toList (HT.sIx t.length 0 lo) (HT.sIx t.length t.length hi - HT.sIx t.length 0 lo)
  rw [hl] at this
  exact this
def spNwP (K : PySem.W.Frag) (C : Addr) : Sp := fun vs H Q _ => ∃ (t : Str) (b : Addr) (Φ : List (V × W)) (mt : List (Addr × (HO → Prop))), vs = [.str t, .ref b] ∧ FigS t ∧ t.length ≤ 50 ∧ (b, IsBox) ∈ mt ∧ S K C H Φ mt ∧ ∀ (u : Str) H', pointsOk u = true → u.length ≤ max t.length 40 → S K C H' Φ mt → Q (.str u) H'
def spNyP (K : PySem.W.Frag) (C : Addr) : Sp := fun vs H Q _ => ∃ (y : Option Int) (b : Addr) (Φ : List (V × W)) (mt : List (Addr × (HO → Prop))), vs = [oi y, .ref b] ∧ (∀ i, y = some i → 1000 ≤ i ∧ i ≤ 2999) ∧ (b, IsBox) ∈ mt ∧ S K C H Φ mt ∧ ∀ (z : Option Int) H', (∀ i, z = some i → 1000 ≤ i ∧ i ≤ 2999) → S K C H' Φ mt → Q (oi z) H'
def spNcP (K : PySem.W.Frag) (C : Addr) : Sp := fun vs H Q _ => ∃ (y : Option Int) (b : Addr) (Φ : List (V × W)) (mt : List (Addr × (HO → Prop))), vs = [oi y, .ref b] ∧ (∀ i, y = some i → 2 ≤ i ∧ i.natAbs.log2 < 1920) ∧ (b, IsBox) ∈ mt ∧ S K C H Φ mt ∧ ∀ (z : Option Int) H', (∀ i, z = some i → (2 ≤ i ∧ i.natAbs.log2 < 1920) ∧ i < 10000000000000000000000000000000) → S K C H' Φ mt → Q (oi z) H'
section
variable {K : PySem.W.Frag} {C : Addr} {σ : L2.St} {H : Hp} {Φ : List (V × W)} {mt : List (Addr × (HO → Prop))} {Q : VK} {b : Addr} {E : XK} {t : Str} {y : Option Int}
theorem use_nw (s : S K C H Φ mt) (hb : (b, IsBox) ∈ mt) (hf : FigS t) (hz : t.length ≤ 50) (q : ∀ (u : Str) H', pointsOk u = true → u.length ≤ max t.length 40 → S K C H' Φ mt → Q (.str u) H') : spNwP K C [.str t, .ref b] H Q E := ⟨t, b, Φ, mt, rfl, hf, hz, hb, s, q⟩
end
local macro_rules | `(tactic| kt_len) => `(tactic| with_reducible first
  | (apply use_take; (focus (assumption)); (focus (tb_rel)); (focus (kcf_m)); (focus (kcf_m)); intro _ _ _ _ _))
section
variable {P : Program} {w : World} {K : PySem.W.Frag} {mg : Str → Option Value} {base : Heap} {Z : Adr} {C : Addr}
theorem ok_l_near_word (T : Txt K mg Z) : FnOk P w K mg base CX0 2 Z.a_l_near_word Z.d_l_near_word ["_law_word", "_law_pool_here"] (spNwP K Z.C_Mark) := by
  refine T.F_l_near_word.ok sc_l_near_word (fun vs H Q E h => ?_) (fun cdv A outer s H vs Q E hr h => ?_)
  · obtain ⟨_, _, _, _, rfl, _⟩ := h; rfl
  · obtain ⟨t, b, Φ, mt, rfl, hf, hz, hb, s, kk⟩ := h
    refine ⟨_, (pss_cons (ps_set (i := 2) sc_l_near_word.nd rfl (.inl rfl) (pe_call (ok_l_take T) (hr.mono (by decide)) rfl T.g_l_take T.F_l_take.kp T.b_l_take .nil pass0 (pa_cons (pv 1) (pa_cons pe_int pa_nil))))
      (pss_cons (ps_set (i := 3) sc_l_near_word.nd rfl (.inl rfl) (pe_slice sl_str (pv 0) po_none (po_some (pe_call (ok_l_take T) (hr.mono (by decide)) rfl T.g_l_take T.F_l_take.kp T.b_l_take .nil pass0 (pa_cons (pv 1) (pa_cons (pe_op op_add (pe_callB (call_lenS) (by rfl) T.n_len (by decide +kernel) (pa_cons (pv 0) pa_nil)) pe_int) pa_nil))))))
      (pss_cons (ps_if (PW.pt (pw_and (pt_cmpR op_eq (pv 2) pe_int (nomark _)) (pw_and1 (pt_cmpR op_lt (pe_callB (call_lenS) (by rfl) T.n_len (by decide +kernel) (pa_cons (pv 3) pa_nil)) pe_int (nomark _))))) (pss_one (ps_set (i := 3) sc_l_near_word.nd rfl (.inl rfl) (pe_op op_addS (pv 3) (pe_ix ix_str pe_str (pe_call (ok_l_take T) (hr.mono (by decide)) rfl T.g_l_take T.F_l_take.kp T.b_l_take .nil pass0 (pa_cons (pv 1) (pa_cons pe_int pa_nil))) (fun _ _ => rfl))))) pss_nil)
      (pss_one (ps_ret (bmK K PySem.F.plainAttrs_str PySem.F.slot_str_rstrip PySem.F.type_str_rstrip mt_rstripChars (pv 3) (pa_cons pe_str pa_nil))))))), ?_⟩
    have hcl : ∀ lo hi, (cutS t lo hi).length ≤ 50 := fun lo hi => Nat.le_trans (cut_leN _ _ _) hz
    have hcf : ∀ lo hi, FigS (cutS t lo hi) := fun lo hi => fig_cutS hf lo hi
    have i0 : LenLe t 50 := ⟨hz⟩
    kxt_pos
    kopn_word
    · rename_i r1 H1 _ _ s1 r2 H2 _ _ s2 _ hlt r3 H3 _ _ s3 c hc hcm
      have hz2 : (cutS t none (some r2) ++ one c).length ≤ 40 := by rw [len_app, len_one]; omega
      obtain ⟨g1, g2⟩ := strip_ok (fig_app (hcf none (some r2)) (fig_one hcm))
      refine ⟨rfl, ?_⟩
      kopn_word
      refine ⟨_, _, rfl, rfl, sz_of (by omega), ?_⟩
      exact kk _ _ g1 (Nat.le_trans (Nat.le_trans g2 hz2) (Nat.le_max_right _ _)) (by kt_ors)
    all_goals
      refine ⟨rfl, ?_⟩
      kopn_word
      refine ⟨_, _, rfl, rfl, sz_of (Nat.le_trans (hcl _ _) (by decide)), ?_⟩
      exact kk _ _ (strip_ok (hcf _ _)).1 (Nat.le_trans (Nat.le_trans (strip_ok (hcf _ _)).2 (cut_leN _ _ _)) (Nat.le_max_left _ _)) (by kt_ors)
theorem ok_l_near_year (T : Txt K mg Z) : FnOk P w K mg base CX0 2 Z.a_l_near_year Z.d_l_near_year ["_law_age", "_law_pool_here"] (spNyP K Z.C_Mark) := by
  refine T.F_l_near_year.ok sc_l_near_year (fun vs H Q E h => ?_) (fun cdv A outer s H vs Q E hr h => ?_)
  · obtain ⟨_, _, _, _, rfl, _⟩ := h; rfl
  · obtain ⟨y, b, Φ, mt, rfl, hy, hb, s, kk⟩ := h
    refine ⟨_, (pss_cons (ps_set (i := 2) sc_l_near_year.nd rfl (.inl rfl) (pe_call (ok_l_take T) (hr.mono (by decide)) rfl T.g_l_take T.F_l_take.kp T.b_l_take .nil pass0 (pa_cons (pv 1) (pa_cons pe_int pa_nil))))
      (pss_cons (ps_if (pt_cmpR op_eq (pv 2) pe_int (nomark _)) (pss_one (ps_ret pe_non)) pss_nil)
      (pss_cons (ps_if (PW.pt (pw_or (pt_cmpR op_eq (pv 2) pe_int (nomark _)) (pw_or1 (pt_cmpR op_isNq (pv 0) pe_non (nomark _))))) (pss_one (ps_ret (pe_op op_add pe_int (pe_call (ok_l_take T) (hr.mono (by decide)) rfl T.g_l_take T.F_l_take.kp T.b_l_take .nil pass0 (pa_cons (pv 1) (pa_cons pe_int pa_nil)))))) pss_nil)
      (pss_one (ps_ret (pe_op op_add (pe_op op_mul (pe_op op_fdiv (pv 0) pe_int) pe_int) (pe_call (ok_l_take T) (hr.mono (by decide)) rfl T.g_l_take T.F_l_take.kp T.b_l_take .nil pass0 (pa_cons (pv 1) (pa_cons pe_int pa_nil))))))))), ?_⟩
    kxt_pos
    cases y with
    | none =>
      show tSeq _ _ _ [some .non, some (.ref b), none] H
      kopn_word
      all_goals first
        | (refine kk none _ (fun i h => nomatch h) (by kt_ors); done)
        | exact kk (some _) _ (fun i h => by cases h; omega) (by kt_ors)
    | some i =>
      have hi := hy i rfl
      show tSeq _ _ _ [some (.int i), some (.ref b), none] H
      kopn_word
      all_goals first
        | (refine kk none _ (fun i h => nomatch h) (by kt_ors); done)
        | exact kk (some _) _ (fun i h => by cases h; omega) (by kt_ors)
theorem cut_toP (t : Str) {i : Int} (h0 : 0 ≤ i) : ((cutS t none (some i)).length : Int) ≤ i := by
  obtain ⟨j, rfl⟩ : ∃ j : Nat, i = (j : Int) := ⟨i.toNat, by omega⟩
  have := len_cut t j
  omega
/-- a number of some figures of a text and one more -/
theorem cut_num {t : Str} (hf : FigS t) {r : Int} {c : Nat} (hr : 0 ≤ r ∧ r < 29) (hc : c ∈ sg sFIG) : ∃ v : Nat, PySem.intText? (cutS t none (some (1 + r)) ++ one c) = some (v : Int) ∧ (cutS t none (some (1 + r)) ++ one c).length ≤ 640 ∧ v < 10 ^ 31 := by
  have h1 := cut_toP t (i := 1 + r) (by omega)
  have hf2 := fig_app (fig_cutS hf none (some (1 + r))) (fig_one hc)
  have hl : (cutS t none (some (1 + r)) ++ one c).length ≤ 31 := by rw [len_app, len_one]; omega
  have hv := digitsVal_lt _ _ rfl (fun x hx => fig_dig.mp (hf2 x hx))
  refine ⟨_, intText_fig hf2 (by rw [sg_app]; simp) (Nat.le_trans hl (by decide)), Nat.le_trans hl (by decide), Nat.lt_of_lt_of_le hv (Nat.pow_le_pow_right (by decide) (by rw [sg_len]; exact hl))⟩
theorem max_ok {v : Nat} (h : v < 10 ^ 31) : (2 ≤ (if (v : Int) > 2 then (v : Int) else 2) ∧ (if (v : Int) > 2 then (v : Int) else 2).natAbs.log2 < 1920) ∧ (if (v : Int) > 2 then (v : Int) else 2) < 10000000000000000000000000000000 := by
  have h1 : (if (v : Int) > 2 then (v : Int) else 2).natAbs < 2 ^ 110 := by split <;> omega
  exact ⟨⟨by split <;> omega, Nat.lt_of_lt_of_le (PySem.Flt.log2_lt_of (by decide) h1) (by decide)⟩, by split <;> omega⟩
theorem ok_l_near_copy (T : Txt K mg Z) : FnOk P w K mg base CX0 2 Z.a_l_near_copy Z.d_l_near_copy ["_law_twin", "_law_pool_here"] (spNcP K Z.C_Mark) := by
  refine T.F_l_near_copy.ok sc_l_near_copy (fun vs H Q E h => ?_) (fun cdv A outer s H vs Q E hr h => ?_)
  · obtain ⟨_, _, _, _, rfl, _⟩ := h; rfl
  · obtain ⟨y, b, Φ, mt, rfl, hy, hb, s, kk⟩ := h
    refine ⟨_, (pss_cons (ps_if (pt_cmpR op_eq (pe_call (ok_l_take T) (hr.mono (by decide)) rfl T.g_l_take T.F_l_take.kp T.b_l_take .nil pass0 (pa_cons (pv 1) (pa_cons pe_int pa_nil))) pe_int (nomark _)) (pss_one (ps_ret pe_non)) pss_nil)
      (pss_cons (ps_set (i := 2) sc_l_near_copy.nd rfl (.inl rfl) (pe_callTy (call_strI) (by rfl) T.n_str (by decide +kernel) (pa_cons (pe_ifExp (pt_cmpR op_isNq (pv 0) pe_non (nomark _)) pe_int (pv 0)) pa_nil)))
      (pss_one (ps_ret (pe_callB (call_maxq rfl) (by rfl) T.n_max (by decide +kernel) (pa_cons pe_int (pa_cons (pe_callTy (call_intS) (by rfl) T.n_int (by decide +kernel) (pa_cons (pe_op op_addS (pe_slice sl_str (pv 2) po_none (po_some (pe_op op_add pe_int (pe_call (ok_l_take T) (hr.mono (by decide)) rfl T.g_l_take T.F_l_take.kp T.b_l_take .nil pass0 (pa_cons (pv 1) (pa_cons pe_int pa_nil)))))) (pe_ix ix_str pe_str (pe_call (ok_l_take T) (hr.mono (by decide)) rfl T.g_l_take T.F_l_take.kp T.b_l_take .nil pass0 (pa_cons (pv 1) (pa_cons pe_int pa_nil))) (fun _ _ => rfl))) pa_nil)) pa_nil))))))), ?_⟩
    kxt_pos
    cases y with
    | none =>
      show tSeq _ _ _ [some .non, some (.ref b), none] H
      kopn_word
      · exact kk none _ (fun i h => nomatch h) (by kt_ors)
      · rename_i hs r1 H1 hr0 hr1 s1 r3 H3 _ _ s3 c hc hcm
        obtain ⟨v, e1, e2, e3⟩ := cut_num (t := Str.ofString (toString (2 : Int))) (num_fig (by omega)) ⟨hr0, hr1⟩ hcm
        have e4 := e2
        rw [len_app] at e4
        refine ⟨_, _, rfl, rfl, sz_of (by omega), ?_⟩
        kopn_word
        refine ⟨_, v, rfl, e1, e2, ?_⟩
        kopn_word
        exact kk (some _) _ (fun i h => by cases h; exact max_ok e3) (by kt_ors)
    | some i =>
      obtain ⟨hi, hl⟩ := hy i rfl
      show tSeq _ _ _ [some (.int i), some (.ref b), none] H
      kopn_word
      · exact kk none _ (fun i h => nomatch h) (by kt_ors)
      · rename_i hs r1 H1 hr0 hr1 s1 r3 H3 _ _ s3 c hc hcm
        obtain ⟨v, e1, e2, e3⟩ := cut_num (t := Str.ofString (toString (i : Int))) (num_fig (by omega)) ⟨hr0, hr1⟩ hcm
        have e4 := e2
        rw [len_app] at e4
        refine ⟨_, _, rfl, rfl, sz_of (by omega), ?_⟩
        kopn_word
        refine ⟨_, v, rfl, e1, e2, ?_⟩
        kopn_word
        exact kk (some _) _ (fun i h => by cases h; exact max_ok e3) (by kt_ors)
end
def KsOk (ks : List Str) : Prop := ks.length ≤ 3 ∧ ∀ s ∈ ks, makerOk s = true ∧ s.length ≤ 50
def spNmP (K : PySem.W.Frag) (C : Addr) : Sp := fun vs H Q _ => ∃ (a b : Addr) (ks : List Str) (Φ : List (V × W)) (mt : List (Addr × (HO → Prop))), vs = [.ref a, .ref b] ∧ (.ref a, .l (ks.map W.s)) ∈ Φ ∧ KsOk ks ∧ (b, IsBox) ∈ mt ∧ S K C H Φ mt ∧ ∀ p js H', KsOk js → S K C H' ((.ref p, .l (js.map W.s)) :: Φ) mt → Q (.ref p) H'
def OrP (K : PySem.W.Frag) (tb : TE) (σ : L2.St) (Q : VK) (x : V) (H2 : Hp) : Prop := ∃ b, TruV K x H2 b ∧ if b = true then Q x H2 else tb σ H2 Q
instance {K : PySem.W.Frag} {σ : L2.St} {H : Hp} {Q : VK} {ta tb : TE} : St1 (tOrT K ta tb σ H Q) (ta σ H fun x H1 => OrP K tb σ Q x H1) := ⟨fun h => h⟩
theorem g_orS {K : PySem.W.Frag} {σ : L2.St} {H : Hp} {Q : VK} {x y : Str} (hz : x.length ≤ 100000) (h1 : x.length = 0 → Q (.str y) H) (h2 : 0 < x.length → Q (.str x) H) : OrP K (tC (.str y)) σ Q (.str x) H := by
  by_cases h : x.length = 0
  · exact ⟨false, ⟨sz_of hz, by rw [h]; rfl⟩, h1 h⟩
  · exact ⟨true, ⟨sz_of hz, by simp; exact fun z => h z⟩, h2 (by omega)⟩
local macro_rules | `(tactic| kt_len) => `(tactic| with_reducible first
  | (apply use_take; (focus (assumption)); (focus (tb_rel)); (focus (kcf_m)); (focus (kcf_m)); intro _ _ _ _ _)
  | (apply use_nw; (focus (assumption)); (focus (tb_rel)); (focus (assumption)); (focus (assumption)); intro _ _ _ _ _)
  | (apply use_makP; (focus (assumption)); (focus (tb_rel)); (focus (kcf_m)); (focus (kcf_m)); intro _ _ _ _ _))
section
variable {P : Program} {w : World} {K : PySem.W.Frag} {mg : Str → Option Value} {base : Heap} {Z : Adr} {C : Addr}
theorem ok_l_near_makers (T : Txt K mg Z) : FnOk P w K mg base CX0 4 Z.a_l_near_makers Z.d_l_near_makers ["_law_hands", "_law_pool_here"] (spNmP K Z.C_Mark) := by
  refine T.F_l_near_makers.ok sc_l_near_makers (fun vs H Q E h => ?_) (fun cdv A outer s H vs Q E hr h => ?_)
  · obtain ⟨_, _, _, _, _, rfl, _⟩ := h; rfl
  · obtain ⟨a, b, ks, Φ, mt, rfl, ha, hk, hb, s, kk⟩ := h
    refine ⟨_, (pss_cons (ps_set (i := 2) sc_l_near_makers.nd rfl (.inl rfl) (pe_call (ok_l_take T) (hr.mono (by decide)) rfl T.g_l_take T.F_l_take.kp T.b_l_take .nil pass0 (pa_cons (pv 1) (pa_cons pe_int pa_nil))))
      (pss_cons (ps_set (i := 3) sc_l_near_makers.nd rfl (.inl rfl) (pe_slice (slL K) (pv 0) po_none (po_some (pe_call (ok_l_take T) (hr.mono (by decide)) rfl T.g_l_take T.F_l_take.kp T.b_l_take .nil pass0 (pa_cons (pv 1) (pa_cons pe_int pa_nil))))))
      (pss_cons (ps_if (pt_cmpR op_eq (pv 2) pe_int (nomark _)) (pss_one (ps_ret (pv 3))) pss_nil)
      (pss_cons (ps_if (pt_cmpR op_lt (pe_callB (lenQ K) (by rfl) T.n_len (by decide +kernel) (pa_cons (pv 3) pa_nil)) (pe_callB (lenQ K) (by rfl) T.n_len (by decide +kernel) (pa_cons (pv 0) pa_nil)) (nomark _)) (pss_cons (ps_set (i := 4) sc_l_near_makers.nd rfl (.inl rfl) (pe_ix (ixL K) (pv 0) (pe_callB (lenQ K) (by rfl) T.n_len (by decide +kernel) (pa_cons (pv 3) pa_nil)) (fun _ _ => rfl)))
      (pss_one (ps_ret (pe_op op_cat (pv 3) (pe_lst (pa_cons (pe_op op_addS (pe_ix ix_str (pv 4) pe_int (fun _ _ => rfl)) (pe_orT (pe_call (ok_l_near_word T) (hr.mono (by decide)) rfl T.g_l_near_word T.F_l_near_word.kp T.b_l_near_word .nil pass0 (pa_cons (pe_slice sl_str (pv 4) (po_some pe_int) po_none) (pa_cons (pv 1) pa_nil))) (pe_one pe_str))) pa_nil)))))) pss_nil)
      (pss_cons (ps_if (pt_cmpR op_lt (pe_callB (lenQ K) (by rfl) T.n_len (by decide +kernel) (pa_cons (pv 3) pa_nil)) pe_int (nomark _)) (pss_one (ps_ret (pe_op op_cat (pv 3) (pe_lst (pa_cons (pe_call (ok_l_maker T) (hr.mono (by decide)) rfl T.g_l_maker T.F_l_maker.kp T.b_l_maker .nil pass0 (pa_cons (pv 1) (pa_cons pe_int pa_nil))) pa_nil))))) pss_nil)
      (pss_one (ps_ret (pv 3)))))))), ?_⟩
    have hk1 := hk.1
    kxt_pos
    kopn_word
    rename_i way H1 w0 w1 s1 r H2 r0 r1 s2
    obtain ⟨n, rfl⟩ : ∃ n : Nat, r = (n : Int) := ⟨r.toNat, by omega⟩
    have hkt : KsOk (ks.take n) := ⟨by rw [List.length_take]; omega, fun s hs => hk.2 s (List.mem_of_mem_take hs)⟩
    have hkl : (ks.take n).length = min n ks.length := List.length_take
    kopn_word
    · exact kk _ (ks.take n) _ hkt (by kt_ors)
    · rename_i p3 H3 s3 _ hlt
      rw [List.length_map] at hlt ⊢
      rw [List.length_map] at hlt
      refine g_ixLS s3 (by tb_rel) (by omega) (by omega) fun y _ hy => ?_
      obtain ⟨hy1, hy2⟩ := hk.2 y hy
      obtain ⟨g1, c, g2, g3⟩ := maker_tail hy1
      have i0 : LenLe y 50 := ⟨hy2⟩
      have hy0 : 0 < y.length := by rw [← sg_len]; exact (List.getElem?_eq_some_iff.mp g2).1
      have hyf : FigS (cutS y (some 1) none) := ended_fig g1
      have hyl : (cutS y (some 1) none).length ≤ 49 := by
        rw [← sg_len, sg_cutFrom1, List.length_drop, sg_len]; omega
      have hyl5 : (cutS y (some 1) none).length ≤ 50 := by omega
      kopn_word
      rename_i c' hc' hcm u H5 hu1 hu2 s5
      have hcc : c' = c := by
        have := atI_nat g2
        have e : atI (sg y) ((0 : Nat) : Int) = some c' := hc'
        rw [this] at e
        exact (Option.some.inj e).symm
      subst hcc
      have fin : ∀ (x : Str) H', endedOk x = true → x.length ≤ 49 → S K Z.C_Mark H' ((V.ref p3, W.l (List.map W.s (List.take n ks))) :: Φ) mt → KsOk (ks.take n ++ [one c' ++ x]) := fun x H' h1 h2 _ => ⟨by rw [List.length_append, List.length_singleton]; omega, fun s hs => by
        rcases List.mem_append.mp hs with h | h
        · exact hkt.2 s h
        · rw [List.mem_singleton.mp h]; exact ⟨maker_ok g3 h1, by rw [len_app, len_one]; omega⟩⟩
      refine g_orS (by omega) (fun h0 => ?_) (fun h1 => ?_)
      · kopn_word
        refine ⟨_, _, rfl, rfl, sz_of (show (one c').length + (Str.ofString "1").length ≤ 100000 by rw [len_one]; decide +kernel), ?_⟩
        kopn_word
        exact kk _ (ks.take n ++ [one c' ++ Str.ofString "1"]) _ (fin (Str.ofString "1") _ (by decide +kernel) (by decide +kernel) s5) (by kt_ors)
      · have hu3 : u.length ≤ 49 := by omega
        have hue : endedOk u = true := points_ended hu1 (fun z => by rw [z] at h1; exact absurd h1 (by decide +kernel))
        kopn_word
        exact kk _ _ _ (fin _ _ hue hu3 s5) (by kt_ors)
    · rename_i p3 H3 s3 _ _ hlt t H4 h1 h2 s4 p4 H5 s5 p5 H6 s6
      exact kk _ (ks.take n ++ [t]) _ ⟨by rw [List.length_append, List.length_singleton]; rw [List.length_map] at hlt; omega, fun s hs => by
        rcases List.mem_append.mp hs with h | h
        · exact hkt.2 s h
        · rw [List.mem_singleton.mp h]; exact ⟨h1, by omega⟩⟩ (by kt_ors)
    · exact kk _ (ks.take n) _ hkt (by kt_ors)
end
theorem lead (n : Nat) : 1 ≤ n → ∃ c cs, (Nat.toDigits 10 n).map Char.toNat = c :: cs ∧ 49 ≤ c ∧ c ≤ 57 := by
  induction n using Nat.strongRecOn with
  | ind n ih =>
    intro h
    by_cases hn : n < 10
    · rw [Nat.toDigits_of_lt_base hn]
      have : ∀ k : Nat, k < 10 → 1 ≤ k → 49 ≤ (Nat.digitChar k).toNat ∧ (Nat.digitChar k).toNat ≤ 57 := by decide
      exact ⟨_, [], rfl, this n hn h⟩
    · rw [Nat.toDigits_of_base_le (by decide) (by omega), List.map_append]
      obtain ⟨c, cs, e, h1⟩ := ih (n / 10) (by omega) (by omega)
      rw [e]
      exact ⟨c, cs ++ _, rfl, h1⟩
theorem num_lead {i : Int} (h : 1 ≤ i) : ∃ c cs, sg (toString i : String) = c :: cs ∧ 49 ≤ c := by
  obtain ⟨m, rfl⟩ : ∃ m : Nat, i = (m : Int) := ⟨i.toNat, by omega⟩
  obtain ⟨c, cs, e, h1, _⟩ := lead m (by omega)
  exact ⟨c, cs, (PySem.W.KIN.signs_num m).trans e, h1⟩
theorem S.re {K : PySem.W.Frag} {C : Addr} {H : Hp} {Φ : List (V × W)} {mt : List (Addr × (HO → Prop))} {v : V} {w w' : W} (s : S K C H Φ mt) (h : (v, w) ∈ Φ) (e : w = w') : S K C H ((v, w') :: Φ) mt := by
  subst e
  exact s.to (fun z hz => by
    rcases List.mem_cons.mp hz with rfl | hz
    · exact h
    · exact hz) (List.Sublist.refl _)
def mix (m n : MK) (j : Nat) : MK := ⟨if 0 < j then m.lt else n.lt, if 1 < j then m.num else n.num, if 2 < j then m.pts else n.pts, if 3 < j then m.mks else n.mks, if 4 < j then m.yr else n.yr, if 5 < j then m.cp else n.cp⟩
theorem mix_ok {m n : MK} (a : m.Ok) (b : n.Ok) (j : Nat) : (mix m n j).Ok := by
  constructor
  · show lettersOk (mix m n j).lt 3 = true
    unfold mix; dsimp only; split
    · exact a.l
    · exact b.l
  · show 1 ≤ (mix m n j).num ∧ (mix m n j).num ≤ 9999
    unfold mix; dsimp only; split
    · exact a.n
    · exact b.n
  · show pointsOk (mix m n j).pts = true
    unfold mix; dsimp only; split
    · exact a.p
    · exact b.p
  · show (mix m n j).pts.length ≤ 1000
    unfold mix; dsimp only; split
    · exact a.pz
    · exact b.pz
  · show (mix m n j).mks.length ≤ 3
    unfold mix; dsimp only; split
    · exact a.k
    · exact b.k
  · show ∀ s ∈ (mix m n j).mks, _
    unfold mix; dsimp only; split
    · exact a.ks
    · exact b.ks
  · show ∀ s, (mix m n j).yr = some s → _
    unfold mix; dsimp only; split
    · exact a.y
    · exact b.y
  · show ∀ s, (mix m n j).cp = some s → _
    unfold mix; dsimp only; split
    · exact a.c
    · exact b.c
theorem mix_row (m n : MK) {j : Nat} (hj : j < 7) : W.l (([.s m.lt, .i m.num, .s m.pts, .l (m.mks.map W.s), W.o m.yr, W.o m.cp] : List W).take j ++ ([.s n.lt, .i n.num, .s n.pts, .l (n.mks.map W.s), W.o n.yr, W.o n.cp] : List W).drop j) = (mix m n j).row := by
  have : j = 0 ∨ j = 1 ∨ j = 2 ∨ j = 3 ∨ j = 4 ∨ j = 5 ∨ j = 6 := by omega
  rcases this with rfl | rfl | rfl | rfl | rfl | rfl | rfl <;> rfl
theorem mix_small {m n : MK} (a : m.Small) (b : n.Small) (j : Nat) : (mix m n j).Small := by
  refine ⟨?_, ?_, ?_⟩
  · show (mix m n j).pts.length ≤ 50
    unfold mix; dsimp only; split
    · exact a.1
    · exact b.1
  · show ∀ s ∈ (mix m n j).mks, _
    unfold mix; dsimp only; split
    · exact a.2.1
    · exact b.2.1
  · show ∀ c, (mix m n j).cp = some c → _
    unfold mix; dsimp only; split
    · exact a.2.2
    · exact b.2.2

def spNeP (K : PySem.W.Frag) (C : Addr) : Sp := fun vs H Q _ => ∃ (p b : Addr) (k : Nat) (m : MK) (Φ : List (V × W)) (mt : List (Addr × (HO → Prop))), vs = [.ref p, .int (k : Int), .ref b] ∧ k < 6 ∧ (.ref p, m.row) ∈ Φ ∧ m.Ok ∧ m.Small ∧ (b, IsBox) ∈ mt ∧ S K C H Φ mt ∧ ∀ q (m' : MK) H', m'.Ok → m'.Small → S K C H' ((.ref q, m'.row) :: Φ) mt → Q (.ref q) H'
section
variable {K : PySem.W.Frag} {C : Addr} {σ : L2.St} {H : Hp} {Φ : List (V × W)} {mt : List (Addr × (HO → Prop))} {Q : VK} {a b p : Addr} {E : XK} {ks : List Str} {y : Option Int} {m : MK}
theorem use_nm (s : S K C H Φ mt) (ha : (.ref a, .l (ks.map W.s)) ∈ Φ) (hb : (b, IsBox) ∈ mt) (hk : KsOk ks) (q : ∀ p js H', KsOk js → S K C H' ((.ref p, .l (js.map W.s)) :: Φ) mt → Q (.ref p) H') : spNmP K C [.ref a, .ref b] H Q E := ⟨a, b, ks, Φ, mt, rfl, ha, hk, hb, s, q⟩
theorem use_ny (s : S K C H Φ mt) (hb : (b, IsBox) ∈ mt) (hy : ∀ i, y = some i → 1000 ≤ i ∧ i ≤ 2999) (q : ∀ (z : Option Int) H', (∀ i, z = some i → 1000 ≤ i ∧ i ≤ 2999) → S K C H' Φ mt → Q (oi z) H') : spNyP K C [oi y, .ref b] H Q E := ⟨y, b, Φ, mt, rfl, hy, hb, s, q⟩
theorem use_nc (s : S K C H Φ mt) (hb : (b, IsBox) ∈ mt) (hy : ∀ i, y = some i → 2 ≤ i ∧ i.natAbs.log2 < 1920) (q : ∀ (z : Option Int) H', (∀ i, z = some i → (2 ≤ i ∧ i.natAbs.log2 < 1920) ∧ i < 10000000000000000000000000000000) → S K C H' Φ mt → Q (oi z) H') : spNcP K C [oi y, .ref b] H Q E := ⟨y, b, Φ, mt, rfl, hy, hb, s, q⟩
theorem use_ne (s : S K C H Φ mt) {k : Nat} (hp : (.ref p, m.row) ∈ Φ) (hb : (b, IsBox) ∈ mt) (hk : k < 6) (ok : m.Ok) (sm : m.Small) (q : ∀ q (m' : MK) H', m'.Ok → m'.Small → S K C H' ((.ref q, m'.row) :: Φ) mt → Q (.ref q) H') : spNeP K C [.ref p, .int (k : Int), .ref b] H Q E := ⟨p, b, k, m, Φ, mt, rfl, hk, hp, ok, sm, hb, s, q⟩
end
local macro_rules | `(tactic| kt_len) => `(tactic| with_reducible first
  | (apply use_nm; (focus (assumption)); (focus (tb_rel)); (focus (tb_rel)); (focus (assumption)); intro _ _ _ _ _)
  | (apply use_ny; (focus (assumption)); (focus (tb_rel)); (focus (assumption)); intro _ _ _ _)
  | (apply use_nc; (focus (assumption)); (focus (tb_rel)); (focus (assumption)); intro _ _ _ _))
section
variable {P : Program} {w : World} {K : PySem.W.Frag} {mg : Str → Option Value} {base : Heap} {Z : Adr} {C : Addr}
theorem ok_l_near (T : Txt K mg Z) : FnOk P w K mg base CX0 5 Z.a_l_near Z.d_l_near ["_law_parts_here", "_law_at", "_law_pool_here"] (spNeP K Z.C_Mark) := by
  refine T.F_l_near.ok sc_l_near (fun vs H Q E h => ?_) (fun cdv A outer s H vs Q E hr h => ?_)
  · obtain ⟨_, _, _, _, _, _, rfl, _⟩ := h; rfl
  · obtain ⟨p, b, k, m, Φ, mt, rfl, hk, hp, ok, sm, hb, s, kk⟩ := h
    refine ⟨_, (pss_cons (ps_set (i := 3) sc_l_near.nd rfl (.inl rfl) (pe_call (ok_l_take T) (hr.mono (by decide)) rfl T.g_l_take T.F_l_take.kp T.b_l_take .nil pass0 (pa_cons (pv 2) (pa_cons pe_int pa_nil))))
      (pss_cons (ps_set (i := 4) sc_l_near.nd rfl (.inl rfl) (peM (pe_lst (pa_cons (pe_ix (ixL K) (pv 0) pe_int (fun _ _ => rfl)) (pa_cons (pe_ix (ixL K) (pv 0) pe_int (fun _ _ => rfl)) (pa_cons (pe_ix (ixL K) (pv 0) pe_int (fun _ _ => rfl)) (pa_cons (pe_callTy (listK K) (by rfl) T.n_list (by decide +kernel) (pa_cons (pe_ix (ixL K) (pv 0) pe_int (fun _ _ => rfl)) pa_nil)) (pa_cons (pe_ix (ixL K) (pv 0) pe_int (fun _ _ => rfl)) (pa_cons (pe_ix (ixL K) (pv 0) pe_int (fun _ _ => rfl)) pa_nil)))))))))
      (pss_cut (ps_if (pt_cmpR op_eq (pv 1) pe_int (nomark _)) (pss_one (ps_asg (pe_op op_addS (pe_slice sl_str (pe_ix (ixL K) (pv 0) pe_int (fun _ _ => rfl)) po_none (po_some (pe_call (ok_l_take T) (hr.mono (by decide)) rfl T.g_l_take T.F_l_take.kp T.b_l_take .nil pass0 (pa_cons (pv 2) (pa_cons pe_int pa_nil))))) (pe_ix ix_str pe_str (pe_call (ok_l_take T) (hr.mono (by decide)) rfl T.g_l_take T.F_l_take.kp T.b_l_take .nil pass0 (pa_cons (pv 2) (pa_cons pe_int pa_nil))) (fun _ _ => rfl))) (pg_sub (pv 4) pe_int set_list))) pss_nil)
      (pss_cut (ps_if (pt_cmpR op_eq (pv 1) pe_int (nomark _)) (pss_one (ps_asg (pe_callTy (call_intS) (by rfl) T.n_int (by decide +kernel) (pa_cons (pe_slice sl_str (pe_op op_addS (pe_slice sl_str (pe_callTy (call_strI) (by rfl) T.n_str (by decide +kernel) (pa_cons (pe_ix (ixL K) (pv 0) pe_int (fun _ _ => rfl)) pa_nil)) po_none (po_some (pe_op op_add pe_int (pe_call (ok_l_take T) (hr.mono (by decide)) rfl T.g_l_take T.F_l_take.kp T.b_l_take .nil pass0 (pa_cons (pv 2) (pa_cons pe_int pa_nil)))))) (pe_ix ix_str pe_str (pe_call (ok_l_take T) (hr.mono (by decide)) rfl T.g_l_take T.F_l_take.kp T.b_l_take .nil pass0 (pa_cons (pv 2) (pa_cons pe_int pa_nil))) (fun _ _ => rfl))) po_none (po_some pe_int)) pa_nil)) (pg_sub (pv 4) pe_int set_list))) pss_nil)
      (pss_cut (ps_if (pt_cmpR op_eq (pv 1) pe_int (nomark _)) (pss_one (ps_asg (pe_call (ok_l_near_word T) (hr.mono (by decide)) rfl T.g_l_near_word T.F_l_near_word.kp T.b_l_near_word .nil pass0 (pa_cons (pe_ix (ixL K) (pv 0) pe_int (fun _ _ => rfl)) (pa_cons (pv 2) pa_nil))) (pg_sub (pv 4) pe_int set_list))) pss_nil)
      (pss_cut (ps_if (pt_cmpR op_eq (pv 1) pe_int (nomark _)) (pss_one (ps_asg (pe_call (ok_l_near_makers T) (hr.mono (by decide)) rfl T.g_l_near_makers T.F_l_near_makers.kp T.b_l_near_makers .nil pass0 (pa_cons (pe_ix (ixL K) (pv 0) pe_int (fun _ _ => rfl)) (pa_cons (pv 2) pa_nil))) (pg_sub (pv 4) pe_int set_list))) pss_nil)
      (pss_cut (ps_if (pt_cmpR op_eq (pv 1) pe_int (nomark _)) (pss_one (ps_asg (pe_call (ok_l_near_year T) (hr.mono (by decide)) rfl T.g_l_near_year T.F_l_near_year.kp T.b_l_near_year .nil pass0 (pa_cons (pe_ix (ixL K) (pv 0) pe_int (fun _ _ => rfl)) (pa_cons (pv 2) pa_nil))) (pg_sub (pv 4) pe_int set_list))) pss_nil)
      (pss_cut (ps_if (pt_cmpR op_eq (pv 1) pe_int (nomark _)) (pss_one (ps_asg (pe_call (ok_l_near_copy T) (hr.mono (by decide)) rfl T.g_l_near_copy T.F_l_near_copy.kp T.b_l_near_copy .nil pass0 (pa_cons (pe_ix (ixL K) (pv 0) pe_int (fun _ _ => rfl)) (pa_cons (pv 2) pa_nil))) (pg_sub (pv 4) pe_int set_list))) pss_nil)
      (pss_cut (ps_if (pt_cmpR op_eq (pv 3) pe_int (nomark _)) (pss_one (ps_ret (pe_op op_cat (pe_slice (slL K) (pv 4) po_none (po_some (pe_op op_add (pv 1) pe_int))) (pe_slice (slL K) (pe_call (ok_l_parts T) (hr.mono (by decide)) rfl T.g_l_parts T.F_l_parts.kp T.b_l_parts .nil pass0 (pa_cons (pv 2) pa_nil)) (po_some (pe_op op_add (pv 1) pe_int)) po_none)))) pss_nil)
      (pss_one (ps_ret (pv 4)))))))))))), ?_⟩
    have hp' := hp
    unfold MK.row at hp
    have hks : KsOk m.mks := ⟨ok.k, fun s h => ⟨(ok.ks s h).1, sm.2.1 s h⟩⟩
    have hpf : FigS m.pts := points_fig ok.p
    have hpz : m.pts.length ≤ 50 := sm.1
    have hyr := ok.y
    have hcp := ok.c
    have hll : (m.lt.length : Int) ≤ 3 := letters_len ok.l
    have hlg : m.num.natAbs.log2 < 1920 := log2_small ⟨by have := ok.n; omega, ok.n.2⟩
    kxt_pos
    kopn_word
    rename_i tl H1 tl0 tl1 s1 q1 s2 q2 H2 s3 row H3 s4
    have s5 : S K Z.C_Mark H3 ((V.ref q2, W.l (List.map W.s m.mks)) :: Φ) ((row, Eq (HO.lst [V.str m.lt, V.int m.num, V.str m.pts, V.ref q2, oi m.yr, oi m.cp])) :: mt) := by kt_ors
    clear s1 s2 s3 s4 s
    refine ⟨fun σ' H' => ∃ (q2 : Addr) (n : MK), σ' = [some (.ref p), some (.int (k : Int)), some (.ref b), some (.int tl), some (.ref row)] ∧ n.Ok ∧ n.Small ∧ S K Z.C_Mark H' ((.ref q2, .l (n.mks.map W.s)) :: Φ) ((row, Eq (.lst [.str n.lt, .int n.num, .str n.pts, .ref q2, oi n.yr, oi n.cp])) :: mt), ?_, ?_⟩
    · kopn_word
      · rename_i r H4 r0 r1 s6 r2 H5 r20 r21 s7 c hc hcm
        have hcl := cut_toP m.lt r0
        refine ⟨_, _, rfl, rfl, sz_of (by rw [len_one]; omega), ?_⟩
        kopn_word
        rename_i H6 s8
        obtain ⟨n, rfl⟩ : ∃ n : Nat, r = (n : Int) := ⟨r.toNat, by omega⟩
        exact ⟨q2, { m with lt := cutS m.lt none (some (n : Int)) ++ one c }, rfl, ⟨lets_app (by omega) (lets_cut ok.l n) hcm, ok.n, ok.p, ok.pz, ok.k, ok.ks, ok.y, ok.c⟩, sm, s8⟩
      · exact ⟨q2, m, rfl, ok, sm, by kt_ors⟩
    clear s5
    rintro σ5 H5 ⟨q2, n, rfl, ok2, sm2, s5⟩
    kopn_word
    refine ⟨fun σ' H' => ∃ (q2 : Addr) (n : MK), σ' = [some (.ref p), some (.int (k : Int)), some (.ref b), some (.int tl), some (.ref row)] ∧ n.Ok ∧ n.Small ∧ S K Z.C_Mark H' ((.ref q2, .l (n.mks.map W.s)) :: Φ) ((row, Eq (.lst [.str n.lt, .int n.num, .str n.pts, .ref q2, oi n.yr, oi n.cp])) :: mt), ?_, ?_⟩
    · kopn_word
      · rename_i hlen r H4 r0 r1 s6 r2 H15 r20 r21 s7 c hc hcm
        have hcn := cut_toP (Str.ofString (toString m.num)) (i := 1 + r) (by omega)
        refine ⟨_, _, rfl, rfl, sz_of (by rw [len_one]; omega), ?_⟩
        have hf := fig_app (fig_cutS (num_fig (i := m.num) (by have := ok.n; omega)) none (some (1 + r))) (fig_one hcm)
        have hd : ∃ d ds, sg (cutS (Str.ofString (toString m.num)) none (some (1 + r)) ++ one c) = d :: ds ∧ 49 ≤ d := by
          obtain ⟨d, ds, e, h9⟩ := num_lead ok.n.1
          obtain ⟨j, hj⟩ : ∃ j : Nat, 1 + r = ((j + 1 : Nat) : Int) := ⟨r.toNat, by omega⟩
          rw [hj]
          refine ⟨d, ds.take j ++ [c], ?_, h9⟩
          rw [sg_app, sg_cutTo, e]
          rfl
        have hl : (cutS (Str.ofString (toString m.num)) none (some (1 + r)) ++ one c).length ≤ 31 := by rw [len_app, len_one]; omega
        generalize cutS (Str.ofString (toString m.num)) none (some (1 + r)) ++ one c = t at hf hd hl
        have hf4 := fig_cut hf 4
        have hl4 := len_cut t 4
        obtain ⟨d, ds, hd, h9⟩ := hd
        have hd4 : sg (cutS t none (some ((4 : Nat) : Int))) = d :: ds.take 3 := by rw [sg_cutTo, hd]; rfl
        have hv := digitsVal_lt _ _ rfl (fun x hx => fig_dig.mp (hf4 x hx))
        have hv2 : PySem.NumText.digitsVal (sg (cutS t none (some ((4 : Nat) : Int)))) < 10 ^ 4 := Nat.lt_of_lt_of_le hv (Nat.pow_le_pow_right (by decide) (by rw [sg_len]; exact hl4))
        have hv3 : 0 < PySem.NumText.digitsVal (sg (cutS t none (some ((4 : Nat) : Int)))) := by rw [hd4]; exact PySem.NumText.digitsVal_pos h9
        have hit := intText_fig hf4 (by rw [hd4]; simp) (by omega)
        clear hv
        have i9 : LenLe t 31 := ⟨hl⟩
        kopn_word
        refine ⟨_, _, rfl, hit, Nat.le_trans hl4 (by decide), ?_⟩
        generalize PySem.NumText.digitsVal (sg (cutS t none (some ((4 : Nat) : Int)))) = dv at hit hv2 hv3 ⊢
        kopn_word
        rename_i H16 s8
        exact ⟨q2, { n with num := (dv : Int) }, rfl, ⟨ok2.l, ⟨show (1 : Int) ≤ (dv : Int) by omega, show (dv : Int) ≤ 9999 by omega⟩, ok2.p, ok2.pz, ok2.k, ok2.ks, ok2.y, ok2.c⟩, sm2, s8⟩
      · exact ⟨q2, n, rfl, ok2, sm2, by kt_ors⟩
    clear s5
    rintro σ6 H6 ⟨q2, n, rfl, ok2, sm2, s5⟩
    kopn_word
    refine ⟨fun σ' H' => ∃ (q2 : Addr) (n : MK), σ' = [some (.ref p), some (.int (k : Int)), some (.ref b), some (.int tl), some (.ref row)] ∧ n.Ok ∧ n.Small ∧ S K Z.C_Mark H' ((.ref q2, .l (n.mks.map W.s)) :: Φ) ((row, Eq (.lst [.str n.lt, .int n.num, .str n.pts, .ref q2, oi n.yr, oi n.cp])) :: mt), ?_, ?_⟩
    · kopn_word
      · rename_i u H15 hu1 hu2 s6 H16 s7
        exact ⟨q2, { n with pts := u }, rfl, ⟨ok2.l, ok2.n, hu1, show u.length ≤ 1000 by omega, ok2.k, ok2.ks, ok2.y, ok2.c⟩, ⟨show u.length ≤ 50 by omega, sm2.2⟩, s7⟩
      · exact ⟨q2, n, rfl, ok2, sm2, by kt_ors⟩
    clear s5
    rintro σ7 H7 ⟨q2, n, rfl, ok2, sm2, s5⟩
    kopn_word
    refine ⟨fun σ' H' => ∃ (q2 : Addr) (n : MK), σ' = [some (.ref p), some (.int (k : Int)), some (.ref b), some (.int tl), some (.ref row)] ∧ n.Ok ∧ n.Small ∧ S K Z.C_Mark H' ((.ref q2, .l (n.mks.map W.s)) :: Φ) ((row, Eq (.lst [.str n.lt, .int n.num, .str n.pts, .ref q2, oi n.yr, oi n.cp])) :: mt), ?_, ?_⟩
    · kopn_word
      · rename_i q3 s6 q4 js H15 hjs s7 H16 s8
        exact ⟨q4, { n with mks := js }, rfl, ⟨ok2.l, ok2.n, ok2.p, ok2.pz, hjs.1, fun s h => ⟨(hjs.2 s h).1, by have := (hjs.2 s h).2; omega⟩, ok2.y, ok2.c⟩, ⟨sm2.1, fun s h => (hjs.2 s h).2, sm2.2.2⟩, by kt_ors⟩
      · exact ⟨q2, n, rfl, ok2, sm2, by kt_ors⟩
    clear s5
    rintro σ8 H8 ⟨q2, n, rfl, ok2, sm2, s5⟩
    kopn_word
    refine ⟨fun σ' H' => ∃ (q2 : Addr) (n : MK), σ' = [some (.ref p), some (.int (k : Int)), some (.ref b), some (.int tl), some (.ref row)] ∧ n.Ok ∧ n.Small ∧ S K Z.C_Mark H' ((.ref q2, .l (n.mks.map W.s)) :: Φ) ((row, Eq (.lst [.str n.lt, .int n.num, .str n.pts, .ref q2, oi n.yr, oi n.cp])) :: mt), ?_, ?_⟩
    · kopn_word
      · rename_i z H15 hz s6 H16 s7
        exact ⟨q2, { n with yr := z }, rfl, ⟨ok2.l, ok2.n, ok2.p, ok2.pz, ok2.k, ok2.ks, hz, ok2.c⟩, sm2, s7⟩
      · exact ⟨q2, n, rfl, ok2, sm2, by kt_ors⟩
    clear s5
    rintro σ9 H9 ⟨q2, n, rfl, ok2, sm2, s5⟩
    kopn_word
    refine ⟨fun σ' H' => ∃ (q2 : Addr) (n : MK), σ' = [some (.ref p), some (.int (k : Int)), some (.ref b), some (.int tl), some (.ref row)] ∧ n.Ok ∧ n.Small ∧ S K Z.C_Mark H' ((.ref q2, .l (n.mks.map W.s)) :: Φ) ((row, Eq (.lst [.str n.lt, .int n.num, .str n.pts, .ref q2, oi n.yr, oi n.cp])) :: mt), ?_, ?_⟩
    · kopn_word
      · rename_i z H15 hz s6 H16 s7
        exact ⟨q2, { n with cp := z }, rfl, ⟨ok2.l, ok2.n, ok2.p, ok2.pz, ok2.k, ok2.ks, ok2.y, fun c h => (hz c h).1⟩, ⟨sm2.1, sm2.2.1, fun c h => (hz c h).2⟩, s7⟩
      · exact ⟨q2, n, rfl, ok2, sm2, by kt_ors⟩
    clear s5
    rintro σ10 H10 ⟨q2, n, rfl, ok2, sm2, s5⟩
    have s6 : S K Z.C_Mark H10 ((.ref row, n.row) :: Φ) mt := s5.fixRow
    clear s5
    refine ⟨fun σ' H' => σ' = [some (.ref p), some (.int (k : Int)), some (.ref b), some (.int tl), some (.ref row)] ∧ S K Z.C_Mark H' ((.ref row, n.row) :: Φ) mt, ?_, ?_⟩
    · kopn_word
      · show rSlL K (V.ref row) none (some ((k + 1 : Nat) : Int)) _ _
        unfold MK.row at s6
        refine g_slTo s6 List.mem_cons_self inferInstance inferInstance fun r3 H11 s7 => ?_
        kopn_word
        refine use_par s7 (by tb_rel) fun p4 m4 H12 ok4 sm4 s8 => ?_
        unfold MK.row at s8
        kopn_word
        show rSlL K (V.ref p4) (some ((k + 1 : Nat) : Int)) none _ _
        refine g_slFrom s8 List.mem_cons_self inferInstance inferInstance fun r5 H13 s9 => ?_
        refine g_cat s9 (List.mem_cons_of_mem _ (List.mem_cons_of_mem _ List.mem_cons_self)) List.mem_cons_self (by rw [List.length_cons, List.length_take, List.length_drop]; simp only [List.length_cons, List.length_nil]; omega) inferInstance fun po H14 s11 => ?_
        have s10 := s11.re List.mem_cons_self (mix_row n m4 (j := k + 1) (by omega))
        exact kk _ (mix n m4 (k + 1)) _ (mix_ok ok2 ok4 _) (mix_small sm2 sm4 _) (by kt_ors)
      · exact ⟨rfl, by kt_ors⟩
    rintro σ11 H11 ⟨rfl, s7⟩
    kopn_word
    exact kk _ n _ ok2 sm2 (by kt_ors)
end

/-! ### a mark's text, and the mark -/
theorem sg_e : sg ("" : Str) = [] := by decide +kernel
theorem sg_e2 : sg Str.empty = [] := rfl
theorem head_sg (m : MK) : sg m.head = sg m.lt ++ (sg (toString m.num : String) ++ if m.pts = ("" : Str) then [] else 46 :: sg m.pts) := by
  unfold MK.head
  by_cases h : m.pts = ("" : Str)
  · rw [if_pos h, if_pos h]
    simp only [List.foldl_cons, List.foldl_nil, sg_app, sg_e2, List.nil_append, List.append_nil]
  · rw [if_neg h, if_neg h]
    simp only [List.foldl_cons, List.foldl_nil, sg_app, sg_e2, List.nil_append, List.append_assoc]
    rfl
theorem join_blank : ∀ (w : Str) (ws : List Str), sg (Str.join " " (w :: ws)) = sg w ++ (ws.map fun x => 32 :: sg x).flatten
  | w, [] => by
    show sg w = _
    simp
  | w, x :: ws => by
    show sg (w ++ " " ++ Str.join " " (x :: ws)) = _
    rw [sg_app, sg_app, join_blank x ws, show sg (" " : Str) = [32] by decide +kernel]
    simp
def yrL : Option Int → List Str
  | none => []
  | some y => [((toString y : String) : Str)]
def cpL : Option Int → List Str
  | none => []
  | some c => [([("c." : Str), ((toString c : String) : Str)]).foldl (· ++ ·) Str.empty]
theorem words_eq (m : MK) : m.words = m.head :: (m.mks ++ yrL m.yr ++ cpL m.cp) := by
  unfold MK.words
  obtain ⟨lt, num, pts, mks, yr, cp⟩ := m
  cases yr <;> cases cp <;> rfl
theorem text_sg (m : MK) : sg m.text = sg m.head ++ ((m.mks ++ yrL m.yr ++ cpL m.cp).map fun x => 32 :: sg x).flatten := by
  unfold MK.text Txt.join
  rw [StrLaws.glued_eq_join, words_eq]
  exact join_blank _ _

/-- a text, and behind it each word with a blank ahead -/
def bl (ws : List Str) : List Nat := (ws.map fun x => 32 :: sg x).flatten
theorem bl_snoc (ws : List Str) (x : Str) : bl (ws ++ [x]) = bl ws ++ 32 :: sg x := by unfold bl; simp
theorem bl_len : ∀ {ws : List Str} {n : Nat}, (∀ s ∈ ws, s.length ≤ n) → (bl ws).length ≤ ws.length * (n + 1)
  | [], _, _ => by simp [bl]
  | x :: ws, n, h => by
    have h1 := h x List.mem_cons_self
    have h2 := bl_len (ws := ws) fun s hs => h s (List.mem_cons_of_mem _ hs)
    unfold bl at h2 ⊢
    rw [List.map_cons, List.flatten_cons, List.length_append, List.length_cons, List.length_cons, sg_len, Nat.add_mul]
    omega
def spTxtS (K : PySem.W.Frag) (C : Addr) : Sp := fun vs H Q _ => ∃ (p : Addr) (m : MK) (Φ : List (V × W)) (mt : List (Addr × (HO → Prop))), vs = [.ref p] ∧ (.ref p, m.row) ∈ Φ ∧ m.Ok ∧ S K C H Φ mt ∧ ∀ H', S K C H' Φ mt → Q (.str m.text) H'
def spMrkS (K : PySem.W.Frag) (C : Addr) : Sp := fun vs H Q _ => ∃ p m Φ mt, vs = [.ref p] ∧ (.ref p, m.row) ∈ Φ ∧ m.Ok ∧ S K C H Φ mt ∧ ∀ x H', S K C H' ((.ref x, .m m) :: Φ) mt → Q (.ref x) H'
section
variable {K : PySem.W.Frag} {C : Addr} {σ : L2.St} {H : Hp} {Φ : List (V × W)} {mt : List (Addr × (HO → Prop))} {Q : VK} {b p q x : Addr} {E : XK} {m n : MK}
theorem use_mrk (s : S K C H Φ mt) (h : (.ref p, m.row) ∈ Φ) (ok : m.Ok) (k : ∀ x H', S K C H' ((.ref x, .m m) :: Φ) mt → Q (.ref x) H') : spMrkS K C [.ref p] H Q E := ⟨p, m, Φ, mt, rfl, h, ok, s, k⟩
theorem use_txt (s : S K C H Φ mt) (h : (.ref p, m.row) ∈ Φ) (ok : m.Ok) (k : ∀ H', S K C H' Φ mt → Q (.str m.text) H') : spTxtS K C [.ref p] H Q E := ⟨p, m, Φ, mt, rfl, h, ok, s, k⟩
end
section
variable {P : Program} {w : World} {K : PySem.W.Frag} {mg : Str → Option Value} {base : Heap} {Z : Adr} {C : Addr}
theorem ok_l_mark (T : Txt K mg Z) : FnOk P w K mg base CX0 8 Z.a_l_mark Z.d_l_mark ["_law_parts_here"] (spMrkS K Z.C_Mark) := by
  refine T.F_l_mark.ok sc_l_mark (fun vs H Q E h => ?_) (fun cdv A outer s H vs Q E hr h => ?_)
  · obtain ⟨_, _, _, _, rfl, _⟩ := h; rfl
  · obtain ⟨p, m, Φ, mt, rfl, hp, ok, s, kk⟩ := h
    refine ⟨_, (pss_one (ps_ret (pe_makeN T.M_Mark (ok_Mark_init T) (hr.mono (by decide)) rfl T.g_Mark T.b_Mark_init_k3_points_makers_year_copy.choose_spec passLN (pa_cons (pe_ix (ixL K) (pv 0) pe_int (fun _ _ => rfl)) (pa_cons (pe_ix (ixL K) (pv 0) pe_int (fun _ _ => rfl)) pa_nil)) (pk_cons (pe_ix (ixL K) (pv 0) pe_int (fun _ _ => rfl)) (pk_cons (pe_callTy (listK K) (by rfl) T.n_list (by decide +kernel) (pa_cons (pe_ix (ixL K) (pv 0) pe_int (fun _ _ => rfl)) pa_nil)) (pk_cons (pe_ix (ixL K) (pv 0) pe_int (fun _ _ => rfl)) (pk_cons (pe_ix (ixL K) (pv 0) pe_int (fun _ _ => rfl)) pk_nil))))))), ?_⟩
    obtain ⟨lt, num, pts, mks, yr, cp⟩ := m
    change (V.ref p, W.l [.s lt, .i num, .s pts, .l (mks.map W.s), W.o yr, W.o cp]) ∈ Φ at hp
    have hk : mks.length ≤ 3 := ok.k
    kxt_pos
    kopn_word
    exact kk _ _ (by kt_ors)
end

/-! ### the law's own order of texts and numbers, part by part -/
def sgnI (a b : Int) : Int := (if b < a then 1 else 0) - (if a < b then 1 else 0)
def cmpL : List Nat → List Nat → Int
  | [], [] => 0
  | [], _ :: _ => -1
  | _ :: _, [] => 1
  | a :: as, b :: bs => if a = b then cmpL as bs else if a < b then -1 else 1
theorem cmpL_at : ∀ (i : Nat) (as bs : List Nat) (a b : Nat), as.take i = bs.take i → as[i]? = some a → bs[i]? = some b → a ≠ b → cmpL as bs = if a < b then -1 else 1
  | _, [], _, _, _, _, ha, _, _ => by simp at ha
  | _, _ :: _, [], _, _, _, _, hb, _ => by simp at hb
  | 0, x :: as, y :: bs, a, b, _, ha, hb, hne => by
    simp only [List.getElem?_cons_zero, Option.some.injEq] at ha hb
    subst ha hb
    show (if x = y then cmpL as bs else if x < y then -1 else 1) = _
    rw [if_neg hne]
  | i + 1, x :: as, y :: bs, a, b, ht, ha, hb, hne => by
    simp only [List.take_succ_cons, List.cons.injEq] at ht
    simp only [List.getElem?_cons_succ] at ha hb
    show (if x = y then cmpL as bs else if x < y then -1 else 1) = _
    rw [if_pos ht.1]
    exact cmpL_at i as bs a b ht.2 ha hb hne
theorem cmpL_end : ∀ (as bs : List Nat) (n : Nat), as.length ≤ n ∨ bs.length ≤ n → as.take n = bs.take n → cmpL as bs = sgnI as.length bs.length
  | [], [], _, _, _ => by decide
  | [], y :: bs, n, hn, h => by
    unfold sgnI cmpL
    simp only [List.length_nil, List.length_cons]
    rw [if_neg (by omega), if_pos (by omega)]
    rfl
  | x :: as, [], n, hn, h => by
    unfold sgnI cmpL
    simp only [List.length_nil, List.length_cons]
    rw [if_pos (by omega), if_neg (by omega)]
    rfl
  | x :: as, y :: bs, 0, hn, h => by simp at hn
  | x :: as, y :: bs, n + 1, hn, h => by
    simp only [List.take_succ_cons, List.cons.injEq] at h
    simp only [List.length_cons] at hn ⊢
    show (if x = y then cmpL as bs else if x < y then -1 else 1) = _
    rw [if_pos h.1, cmpL_end as bs n (by omega) h.2]
    unfold sgnI
    by_cases h1 : (bs.length : Int) < as.length
    · rw [if_pos h1, if_neg (by omega), if_pos (by omega), if_neg (by omega)]
    · by_cases h2 : (as.length : Int) < bs.length
      · rw [if_neg h1, if_pos h2, if_neg (by omega), if_pos (by omega)]
      · rw [if_neg h1, if_neg h2, if_neg (by omega), if_neg (by omega)]
abbrev sDOM : Str := "0123456789abcdefghijklmnopqrstuvwxyz"
def DomS (s : Str) : Prop := ∀ c ∈ sg s, c ∈ sg sDOM
def idx (c : Nat) : Int := if c < 58 then (c : Int) - 48 else (c : Int) - 87
theorem find_idx : ∀ c ∈ sg sDOM, Txt.find sDOM (one c) = idx c ∧ ((48 ≤ c ∧ c ≤ 57) ∨ (97 ≤ c ∧ c ≤ 122)) := by decide +kernel
theorem idx_lt {a b : Nat} (ha : a ∈ sg sDOM) (hb : b ∈ sg sDOM) : decide (Txt.find sDOM (one a) < Txt.find sDOM (one b)) = decide (a < b) := by
  rw [(find_idx a ha).1, (find_idx b hb).1]
  have h1 := (find_idx a ha).2
  have h2 := (find_idx b hb).2
  unfold idx
  by_cases h : a < b
  · rw [decide_eq_true h]
    refine decide_eq_true ?_
    split <;> split <;> omega
  · rw [decide_eq_false h]
    refine decide_eq_false ?_
    split <;> split <;> omega
def spSigns : Sp := fun vs H Q _ => ∃ a b : Str, vs = [.str a, .str b] ∧ DomS a ∧ DomS b ∧ a.length ≤ 5000 ∧ b.length ≤ 5000 ∧ RetV (.int (cmpL (sg a) (sg b))) H Q
def spNums : Sp := fun vs H Q _ => ∃ a b : Option Int, vs = [oi a, oi b] ∧ RetV (.int (sgnI (a.getD 0) (b.getD 0))) H Q
section
variable {P : Program} {w : World} {K : PySem.W.Frag} {mg : Str → Option Value} {base : Heap} {Z : Adr}
theorem ev_int1 {σ : L2.St} {H : Hp} {te : TE} {k : Bool} (h : Ev te σ H (.bl k)) : Ev (tCB (fun xs H Q => (∃ i, xs = [.int i] ∧ Q (.int i) H) ∨ ∃ k, xs = [.bl k] ∧ Q (.int (if k then 1 else 0)) H) (tCons te tNil)) σ H (.int (if k then 1 else 0)) :=
  ev_cb (ea_cons h ea_nil) fun H1 e Q q => .inr ⟨k, rfl, q H1 (Ex.refl _)⟩
theorem ev_get0L {te : TE} {σ : L2.St} {H : Hp} {y : Option Int} (h : ∀ H', Ex H H' → Ev te σ H' (oi y)) : Ev (tOp (rIxL K) (tLst (tCons te (tCons (tC (.int 0)) tNil))) (tCB (fun xs H Q => (∃ i, xs = [.int i] ∧ Q (.int i) H) ∨ ∃ k, xs = [.bl k] ∧ Q (.int (if k then 1 else 0)) H) (tCons (tOp (fun x y H Q => y = .non ∧ Q (.bl (decide (x = .non))) H) te (tC .non)) tNil))) σ H (.int (y.getD 0)) := by
  refine ev_opL1 (xs := [oi y, .int 0]) (el_lst (ea_cons (h H (Ex.refl _)) (ea_cons ev_c ea_nil)) (by simp)) (fun H4 e4 => ev_int1 (k := decide (oi y = .non)) (ev_op (h H4 e4) ev_c fun H1 e Q q => ⟨rfl, q H1 (Ex.refl _)⟩)) (fun p H4 hp e4 => rv_ixL (sq_of hp) ?_)
  cases y with
  | none => rfl
  | some i => rfl
end

/-! ### makers, all parts; the same order as that of the keys -/
def nz (f g : Int) : Int := if f = 0 then g else f
def cmpM : List Str → List Str → Int
  | [], [] => 0
  | [], _ :: _ => -1
  | _ :: _, [] => 1
  | a :: as, b :: bs => nz (cmpL (sg a) (sg b)) (cmpM as bs)
def ordL (m n : MK) : Int := nz (cmpL (sg m.lt) (sg n.lt)) (nz (sgnI m.num n.num) (nz (cmpL (sg m.pts) (sg n.pts)) (nz (cmpM m.mks n.mks) (nz (sgnI (m.yr.getD 0) (n.yr.getD 0)) (nz (sgnI (m.cp.getD 0) (n.cp.getD 0)) 0)))))
abbrev TK := List (Int ⊕ List Nat)
def Cmp (f : Int) (A B : TK) : Prop := (f < 0 → lexLt itemOrd A B = true) ∧ (0 < f → lexLt itemOrd B A = true)
theorem cmp_same {f : Int} {A B : TK} {x : Int ⊕ List Nat} (h : Cmp f A B) : Cmp f (x :: A) (x :: B) :=
  ⟨fun hf => (lex_self (O := itemOrd) x A B).trans (h.1 hf), fun hf => (lex_self (O := itemOrd) x B A).trans (h.2 hf)⟩
theorem cmp_nz {f g : Int} {A B : TK} {x y : Int ⊕ List Nat} (h0 : f = 0 → x = y) (hl : f < 0 → itemLt x y = true) (hg : 0 < f → itemLt y x = true) (h : Cmp g A B) : Cmp (nz f g) (x :: A) (y :: B) := by
  have ne : ∀ {u v : Int ⊕ List Nat}, itemLt u v = true → u ≠ v := fun {u v} hh e => by
    subst e
    rw [show itemLt u u = false from itemOrd.irrefl u] at hh
    cases hh
  unfold nz
  by_cases hf : f = 0
  · rw [if_pos hf, h0 hf]
    exact cmp_same h
  · rw [if_neg hf]
    exact ⟨fun h1 => (lex_diff (O := itemOrd) (ne (hl h1))).trans (hl h1), fun h1 => (lex_diff (O := itemOrd) (ne (hg h1))).trans (hg h1)⟩
theorem cmpL_lt : ∀ as bs : List Nat, (cmpL as bs < 0 → as < bs) ∧ (0 < cmpL as bs → bs < as) ∧ (cmpL as bs = 0 → as = bs)
  | [], [] => ⟨fun h => by simp [cmpL] at h, fun h => by simp [cmpL] at h, fun _ => rfl⟩
  | [], b :: bs => ⟨fun _ => List.nil_lt_cons b bs, fun h => by simp [cmpL] at h, fun h => by simp [cmpL] at h⟩
  | a :: as, [] => ⟨fun h => by simp [cmpL] at h, fun _ => List.nil_lt_cons a as, fun h => by simp [cmpL] at h⟩
  | a :: as, b :: bs => by
    have ih := cmpL_lt as bs
    have e : cmpL (a :: as) (b :: bs) = if a = b then cmpL as bs else if a < b then -1 else 1 := rfl
    rw [e]
    by_cases h : a = b
    · subst h
      rw [if_pos rfl]
      exact ⟨fun h => List.cons_lt_cons_iff.mpr (.inr ⟨rfl, ih.1 h⟩), fun h => List.cons_lt_cons_iff.mpr (.inr ⟨rfl, ih.2.1 h⟩), fun h => by rw [ih.2.2 h]⟩
    · rw [if_neg h]
      by_cases h2 : a < b
      · rw [if_pos h2]
        exact ⟨fun _ => List.cons_lt_cons_iff.mpr (.inl h2), fun h => by omega, fun h => by omega⟩
      · rw [if_neg h2]
        exact ⟨fun h => by omega, fun _ => List.cons_lt_cons_iff.mpr (.inl (by omega)), fun h => by omega⟩
theorem sgnI_lt (a b : Int) : (sgnI a b < 0 → a < b) ∧ (0 < sgnI a b → b < a) ∧ (sgnI a b = 0 → a = b) := by
  unfold sgnI
  refine ⟨fun h => ?_, fun h => ?_, fun h => ?_⟩ <;> split at h <;> split at h <;> omega
theorem cmp_str {g : Int} {A B : TK} (a b : Str) (h : Cmp g A B) : Cmp (nz (cmpL (sg a) (sg b)) g) (.inr (sg a) :: A) (.inr (sg b) :: B) := by
  obtain ⟨h1, h2, h3⟩ := cmpL_lt (sg a) (sg b)
  exact cmp_nz (fun z => by rw [h3 z]) (fun z => decide_eq_true (h1 z)) (fun z => decide_eq_true (h2 z)) h
theorem cmp_int {g : Int} {A B : TK} (a b : Int) (h : Cmp g A B) : Cmp (nz (sgnI a b) g) (.inl a :: A) (.inl b :: B) := by
  obtain ⟨h1, h2, h3⟩ := sgnI_lt a b
  exact cmp_nz (fun z => by rw [h3 z]) (fun z => decide_eq_true (h1 z)) (fun z => decide_eq_true (h2 z)) h
theorem nz_assoc (f g h : Int) : nz (nz f g) h = nz f (nz g h) := by
  unfold nz
  by_cases h1 : f = 0
  · rw [if_pos h1, if_pos h1]
  · rw [if_neg h1, if_neg h1, if_neg h1]
theorem cmp_mks {g : Int} {A B : TK} (h : Cmp g A B) : ∀ ks js : List Str, Cmp (nz (cmpM ks js) g) (PySem.W.keyToksAll (ks.map PyData.str) ++ A) (PySem.W.keyToksAll (js.map PyData.str) ++ B)
  | [], [] => by
    simp only [List.map_nil, PySem.W.keyToksAll]
    exact cmp_same h
  | [], t :: js => by
    simp only [List.map_nil, List.map_cons, PySem.W.keyToksAll]
    exact ⟨fun _ => lex_diff (O := itemOrd) (x := .inl 0) (y := .inl 1) (by simp), fun z => by unfold cmpM nz at z; simp at z⟩
  | s :: ks, [] => by
    simp only [List.map_nil, List.map_cons, PySem.W.keyToksAll]
    exact ⟨fun z => by unfold cmpM nz at z; simp at z, fun _ => lex_diff (O := itemOrd) (x := .inl 0) (y := .inl 1) (by simp)⟩
  | s :: ks, t :: js => by
    have ih := cmp_mks h ks js
    simp only [List.map_cons, PySem.W.keyToksAll, PySem.W.keyToks, List.cons_append, List.nil_append]
    show Cmp (nz (nz (cmpL (sg s) (sg t)) (cmpM ks js)) g) _ _
    rw [nz_assoc]
    exact cmp_same (cmp_str s t ih)
theorem cmp_key (m n : MK) : Cmp (ordL m n) (PySem.W.keyToks m.kdata) (PySem.W.keyToks n.kdata) := by
  unfold MK.kdata ordL
  simp only [PySem.W.keyToks, PySem.W.keyToksAll, List.cons_append, List.nil_append]
  have h0 : Cmp 0 [.inl 0] [.inl 0] := ⟨fun z => by simp at z, fun z => by simp at z⟩
  exact cmp_same (cmp_str _ _ (cmp_same (cmp_int _ _ (cmp_same (cmp_str _ _ (cmp_same (cmp_mks (cmp_same (cmp_int _ _ (cmp_same (cmp_int _ _ h0)))) _ _)))))))
theorem nz_zero {f g : Int} (h : nz f g = 0) : f = 0 ∧ g = 0 := by
  unfold nz at h
  by_cases h1 : f = 0
  · rw [if_pos h1] at h; exact ⟨h1, h⟩
  · rw [if_neg h1] at h; exact absurd h h1
theorem cmpM_zero : ∀ ks js : List Str, cmpM ks js = 0 → ks = js
  | [], [], _ => rfl
  | [], _ :: _, h => by simp [cmpM] at h
  | _ :: _, [], h => by simp [cmpM] at h
  | s :: ks, t :: js, h => by
    obtain ⟨h1, h2⟩ := nz_zero (show nz (cmpL (sg s) (sg t)) (cmpM ks js) = 0 from h)
    rw [str_ext ((cmpL_lt _ _).2.2 h1), cmpM_zero ks js h2]
theorem ordL_zero {m n : MK} (h : ordL m n = 0) : kE m n = true := by
  unfold ordL at h
  obtain ⟨h1, h⟩ := nz_zero h
  obtain ⟨h2, h⟩ := nz_zero h
  obtain ⟨h3, h⟩ := nz_zero h
  obtain ⟨h4, h⟩ := nz_zero h
  obtain ⟨h5, h⟩ := nz_zero h
  obtain ⟨h6, h⟩ := nz_zero h
  unfold kE
  rw [str_ext ((cmpL_lt _ _).2.2 h1), (sgnI_lt _ _).2.2 h2, str_ext ((cmpL_lt _ _).2.2 h3), cmpM_zero _ _ h4, (sgnI_lt _ _).2.2 h5, (sgnI_lt _ _).2.2 h6]
  simp
theorem ordL_lt (m n : MK) : decide (ordL m n < 0) = PySem.W.dataLt m.kdata n.kdata ∧ decide (0 < ordL m n) = PySem.W.dataLt n.kdata m.kdata ∧ decide (ordL m n = 0) = kE m n := by
  obtain ⟨c1, c2⟩ := cmp_key m n
  have asy : ∀ {a b : MK}, PySem.W.dataLt a.kdata b.kdata = true → PySem.W.dataLt b.kdata a.kdata = false := fun {a b} h => by
    cases h2 : PySem.W.dataLt b.kdata a.kdata with
    | false => rfl
    | true =>
      have := lex_trans _ _ _ h h2
      rw [lex_irrefl] at this
      cases this
  have nk : ∀ {a b : MK}, PySem.W.dataLt a.kdata b.kdata = true → kE a b = false := fun {a b} h => by
    cases h2 : kE a b with
    | false => rfl
    | true =>
      rw [lt_same h2] at h
      cases h
  rcases Int.lt_trichotomy (ordL m n) 0 with h | h | h
  · have hl : PySem.W.dataLt m.kdata n.kdata = true := c1 h
    rw [hl, asy hl, nk hl]
    exact ⟨decide_eq_true h, decide_eq_false (by omega), decide_eq_false (by omega)⟩
  · have hk := ordL_zero h
    rw [lt_same hk, lt_same (by rw [kE_symm]; exact hk), hk]
    exact ⟨decide_eq_false (by omega), decide_eq_false (by omega), decide_eq_true h⟩
  · have hl : PySem.W.dataLt n.kdata m.kdata = true := c2 h
    rw [hl, asy hl, kE_symm, nk hl]
    exact ⟨decide_eq_false (by omega), decide_eq_true h, decide_eq_false (by omega)⟩

/-! ### text[::-1] -/
theorem pick_rev (z : Str) : ((Builtin.Str.strSliceIndices none none (-1) z.length).filterMap (z.cps[·]?)).toArray = (sg z).reverse.toArray := by
  have e : Builtin.Str.strSliceIndices none none (-1) z.length = sliceRange ((z.length : Int) - 1) (-1) (-1) := rfl
  rw [e, PySem.W.krv_sliceRange, PySem.W.krv_range, List.filterMap_reverse]
  exact congrArg (fun l : List Nat => l.reverse.toArray) (PySem.W.krv_all z.cps)
def tRevS (te : TE) : TE := fun σ H Q => te σ H fun x H1 => ∃ z : Str, x = .str z ∧ z.length ≤ sizeLine ∧ Q (.str ⟨(sg z).reverse.toArray⟩) H1
theorem pe_revS {X : Cx} {e : Expr} {te : TE} {k : Nat} {p1 p2 p3 pos : Pos} (he : PE X e te) : PE X (.Subscript e (.Slice none none (some (.UnaryOp .USub (.Constant (.int 1) k p1) p2)) p3) pos) (tRevS te) := by
  refine ⟨fun pins s σ H Q I h => ?_⟩
  refine Subscript_ (thn (he.run pins s σ H _ I h) fun v s1 ⟨x, H1, I1, r1, q1⟩ => ?_)
  obtain ⟨z, ex, hz, q⟩ := q1
  subst ex
  obtain ⟨t, rfl⟩ := r1
  have hst : PO X (some (.UnaryOp .USub (.Constant (.int 1) k p1) p2)) (tPart (tUn (rU fun i => .int (-i)) (tC (.int 1)))) := po_some (pe_un un_neg pe_int)
  refine wpAny_Slice (thn (po_none.run pins s1 σ H1 (fun o H2 => o = none ∧ H2 = H1) I1 ⟨rfl, rfl⟩) fun vl s2 ⟨l, H2, I2, pl, el, e2⟩ => ?_)
  subst el e2
  refine thn (po_none.run pins s2 σ H2 (fun o H3 => o = none ∧ H3 = H2) I2 ⟨rfl, rfl⟩) fun vu s3 ⟨u, H3, I3, pu, eu, e3⟩ => ?_
  subst eu e3
  refine thn (hst.run pins s3 σ H3 (fun o H4 => o = some (-1) ∧ H4 = H3) I3 ⟨1, rfl, -1, rfl, rfl, rfl⟩) fun vs s4 ⟨o, H4, I4, ps, eo, e4⟩ => ?_
  subst eo e4
  have I5 : Inv X pins σ H4 { s4 with heap := s4.heap.push { cls := .type "slice", data := .fields #[vl, vu, vs] } } := I4.kept (t' := s4.toks) fun b ob q => Heap.get?_push_of_some _ q
  obtain ⟨l0, rfl, el⟩ := IsPart.raw pl
  obtain ⟨u0, rfl, eu⟩ := IsPart.raw pu
  obtain ⟨s0, rfl, es⟩ := IsPart.raw ps
  cases l0 with
  | some p => cases el
  | none =>
    cases u0 with
    | some p => cases eu
    | none =>
      show wpAny (model X.prog X.w) X.A (subscriptTail e (.Slice none none (some (.UnaryOp .USub (.Constant (.int 1) k p1) p2)) p3) (.str z t) (.ref s4.heap.objs.size)) (EP X pins σ Q) X.xe { s4 with heap := s4.heap.push { cls := .type "slice", data := .fields #[partValue none, partValue none, partValue s0] } }
      refine tail_any (ops := [.str z t, .ref s4.heap.objs.size]) (typeIs_str _ z t) F.slot_str_getitem.lookup ?_ (by with_unfolding_all rfl)
      refine wpAny_getItem_str_slice (l := none) (u := none) (st := s0) ⟨_, Heap.get?_push_size _ rfl, rfl, rfl⟩ (by rw [es]; rfl) ?_
      have hne : ¬ (((s0.map (·.1)).getD 1 == 1 && (slicePicked z none none s0).length == z.length) = true) := by rw [es]; simp
      unfold sliceMade
      rw [if_neg hne]
      have hp : ((slicePicked z none none s0).filterMap (z.cps[·]?)).toArray = (sg z).reverse.toArray := by
        unfold slicePicked
        rw [es]
        exact pick_rev z
      rw [hp]
      refine ⟨?_, .str _, H4, I5.tok _, ⟨_, rfl⟩, q⟩
      show (List.toArray _).size ≤ _
      rw [List.size_toArray, List.length_reverse, sg_len]
      exact hz
def RevW (x : V) (H1 : Hp) (Q : VK) : Prop := ∃ z : Str, x = .str z ∧ z.length ≤ sizeLine ∧ Q (.str ⟨(sg z).reverse.toArray⟩) H1
instance {te : TE} {σ : L2.St} {H : Hp} {Q : VK} : St1 (tRevS te σ H Q) (te σ H fun x H1 => RevW x H1 Q) := ⟨fun h => h⟩
theorem g_revS {z : Str} {H1 : Hp} {Q : VK} (hz : z.length ≤ 100000) (k : Q (.str ⟨(sg z).reverse.toArray⟩) H1) : RevW (.str z) H1 Q := ⟨z, rfl, sz_of hz, k⟩
theorem sg_mk (cs : List Nat) : sg (⟨cs.toArray⟩ : Str) = cs := rfl

theorem sg_subS (x : Str) (a b : Nat) : sg (Builtin.Str.strSub x a b) = ((sg x).take b).drop a := by
  show (Array.extract _ _ _).toList = _
  rw [Array.toList_extract, List.extract_eq_take_drop, List.drop_take]
/-! ### what is left of a text without the last signs of one kind -/
def stripE (c : Nat) (cs : List Nat) : List Nat := (cs.reverse.dropWhile (· == c)).reverse
theorem stripE_nil (c : Nat) : stripE c [] = [] := rfl
theorem stripE_eq (c : Nat) (ds : List Nat) : stripE c (ds ++ [c]) = stripE c ds := by
  unfold stripE
  rw [List.reverse_append, List.reverse_singleton, List.singleton_append, List.dropWhile_cons_of_pos (by simp)]
theorem stripE_ne {c d : Nat} (ds : List Nat) (h : d ≠ c) : stripE c (ds ++ [d]) = ds ++ [d] := by
  unfold stripE
  rw [List.reverse_append, List.reverse_singleton, List.singleton_append, List.dropWhile_cons_of_neg (by simpa using h)]
  simp
theorem snoc_cases (cs : List Nat) : cs = [] ∨ ∃ ds d, cs = ds ++ [d] := by
  rcases List.eq_nil_or_concat cs with h | ⟨ds, d, h⟩
  · exact .inl h
  · exact .inr ⟨ds, d, by rw [h]; simp⟩
theorem stripE_split (c : Nat) (cs : List Nat) : ∃ k, cs = stripE c cs ++ List.replicate k c ∧ (stripE c cs = [] ∨ ∃ ds d, stripE c cs = ds ++ [d] ∧ d ≠ c) := by
  induction h : cs.length generalizing cs with
  | zero =>
    obtain rfl := List.eq_nil_of_length_eq_zero h
    exact ⟨0, rfl, .inl rfl⟩
  | succ n ih =>
    rcases snoc_cases cs with rfl | ⟨ds, d, rfl⟩
    · cases h
    · by_cases hd : d = c
      · subst hd
        obtain ⟨k, h1, h2⟩ := ih ds (by simpa using h)
        refine ⟨k + 1, ?_, ?_⟩
        · rw [stripE_eq, List.replicate_succ', ← List.append_assoc, ← h1]
        · rw [stripE_eq]; exact h2
      · exact ⟨0, by rw [stripE_ne ds hd]; simp, .inr ⟨ds, d, stripE_ne ds hd, hd⟩⟩
theorem sg_rstrip (s : Str) (c : Nat) : sg (Txt.rstripChars s (one c)) = stripE c (sg s) := by
  show sg (Txt.stripBy _ false true s) = _
  rw [PyProof.Rows.stripBy_eq, sg_subS]
  simp only [stripLo, stripHi, if_true, Bool.false_eq_true, if_false, List.drop_zero]
  have e : ((one c).cps.contains) = (fun d => d == c) := by
    funext d
    simp [one, Array.contains, eq_comm]
  unfold stripE
  rw [e]
  show (sg s).take (s.length - ((sg s).reverse.takeWhile fun d => d == c).length) = _
  have h := List.takeWhile_append_dropWhile (p := fun d => d == c) (l := (sg s).reverse)
  have h2 : (sg s) = ((sg s).reverse.dropWhile fun d => d == c).reverse ++ ((sg s).reverse.takeWhile fun d => d == c).reverse := by
    rw [← List.reverse_append, h, List.reverse_reverse]
  have h3 : s.length = ((sg s).reverse.dropWhile fun d => d == c).length + ((sg s).reverse.takeWhile fun d => d == c).length := by
    rw [← sg_len, h2]
    simp
  clear h
  generalize ((sg s).reverse.dropWhile fun d => d == c) = A at h2 h3 ⊢
  generalize ((sg s).reverse.takeWhile fun d => d == c) = B at h2 h3 ⊢
  rw [h3, Nat.add_sub_cancel, h2]
  exact List.take_left' (List.length_reverse ..)
theorem len_cutQ (t : Str) (lo hi : Option Int) : (cutS t lo hi).length = min (HT.sIx t.length t.length hi - HT.sIx t.length 0 lo) (t.length - HT.sIx t.length 0 lo) := by
  unfold cutS
  show (List.toArray _).size = _
  rw [List.size_toArray, List.length_take, List.length_drop]
  rfl

/-! ### filed texts compare as the marks do -/
theorem cmpL_cons (a b : Nat) (as bs : List Nat) : cmpL (a :: as) (b :: bs) = if a = b then cmpL as bs else if a < b then -1 else 1 := rfl
theorem nz_of {f g : Int} (h : f ≠ 0) : nz f g = f := by unfold nz; rw [if_neg h]
theorem nz_0 (g : Int) : nz 0 g = g := by unfold nz; rw [if_pos rfl]
theorem cmpL_nil_cons (b : Nat) (bs : List Nat) : cmpL [] (b :: bs) = -1 := rfl
theorem cmpL_cons_nil (a : Nat) (as : List Nat) : cmpL (a :: as) [] = 1 := rfl
theorem cmpL_self : ∀ a : List Nat, cmpL a a = 0
  | [] => rfl
  | x :: xs => by rw [cmpL_cons, if_pos rfl, cmpL_self xs]
theorem cmp_app : ∀ (a b : List Nat), a.length = b.length → ∀ x y, cmpL (a ++ x) (b ++ y) = nz (cmpL a b) (cmpL x y)
  | [], [], _, x, y => by rw [cmpL_self, nz_0]; rfl
  | [], _ :: _, h, _, _ => by cases h
  | _ :: _, [], h, _, _ => by cases h
  | c :: a, d :: b, h, x, y => by
    have ih := cmp_app a b (by simpa using h) x y
    rw [List.cons_append, List.cons_append, cmpL_cons, cmpL_cons]
    by_cases e : c = d
    · rw [if_pos e, if_pos e, ih]
    · rw [if_neg e, if_neg e]
      by_cases h2 : c < d
      · rw [if_pos h2, nz_of (by decide)]
      · rw [if_neg h2, nz_of (by decide)]
/-- both go on behind a sign that is ahead of all of theirs -/
theorem cmp_end (c : Nat) : ∀ (a b : List Nat), (∀ d ∈ a, c < d) → (∀ d ∈ b, c < d) → ∀ x y, cmpL (a ++ c :: x) (b ++ c :: y) = nz (cmpL a b) (cmpL x y)
  | [], [], _, _, x, y => by rw [cmpL_self, nz_0, List.nil_append, List.nil_append, cmpL_cons, if_pos rfl]
  | [], d :: b, _, h, x, y => by
    have := h d List.mem_cons_self
    rw [List.nil_append, List.cons_append, cmpL_cons, cmpL_nil_cons, if_neg (by omega), if_pos this, nz_of (by decide)]
  | d :: a, [], h, _, x, y => by
    have := h d List.mem_cons_self
    rw [List.nil_append, List.cons_append, cmpL_cons, cmpL_cons_nil, if_neg (by omega), if_neg (by omega), nz_of (by decide)]
  | d :: a, e :: b, h, h', x, y => by
    have ih := cmp_end c a b (fun z hz => h z (List.mem_cons_of_mem _ hz)) (fun z hz => h' z (List.mem_cons_of_mem _ hz)) x y
    rw [List.cons_append, List.cons_append, cmpL_cons, cmpL_cons]
    by_cases e1 : d = e
    · rw [if_pos e1, if_pos e1, ih]
    · rw [if_neg e1, if_neg e1]
      by_cases h2 : d < e
      · rw [if_pos h2, nz_of (by decide)]
      · rw [if_neg h2, nz_of (by decide)]
/-- both made as long with such signs -/
theorem cmp_pad (c : Nat) : ∀ (a b : List Nat) (j k : Nat), (∀ d ∈ a, c < d) → (∀ d ∈ b, c < d) → a.length + j = b.length + k → cmpL (a ++ List.replicate j c) (b ++ List.replicate k c) = cmpL a b
  | [], [], j, k, _, _, h => by
    have : j = k := by simpa using h
    rw [this, cmpL_self]
    rfl
  | [], d :: b, j, k, _, hb, h => by
    have := hb d List.mem_cons_self
    obtain ⟨i, rfl⟩ : ∃ i, j = i + 1 := ⟨j - 1, by simp at h; omega⟩
    rw [List.nil_append, List.replicate_succ, List.cons_append, cmpL_cons, if_neg (by omega), if_pos this]
    rfl
  | d :: a, [], j, k, ha, _, h => by
    have := ha d List.mem_cons_self
    obtain ⟨i, rfl⟩ : ∃ i, k = i + 1 := ⟨k - 1, by simp at h; omega⟩
    rw [List.nil_append, List.replicate_succ, List.cons_append, cmpL_cons, if_neg (by omega), if_neg (by omega)]
    rfl
  | d :: a, e :: b, j, k, ha, hb, h => by
    have ih := cmp_pad c a b j k (fun z hz => ha z (List.mem_cons_of_mem _ hz)) (fun z hz => hb z (List.mem_cons_of_mem _ hz)) (by simp at h; omega)
    rw [List.cons_append, List.cons_append, cmpL_cons, cmpL_cons, ih]
open PySem.NumText in
theorem dv_foldl (cs : List Nat) : ∀ a : Nat, cs.foldl (fun acc c => acc * 10 + (c - 48)) a = a * 10 ^ cs.length + digitsVal cs := by
  induction cs with
  | nil => intro a; simp [digitsVal]
  | cons c cs ih =>
    intro a
    have h0 : digitsVal (c :: cs) = cs.foldl (fun acc c => acc * 10 + (c - 48)) (0 * 10 + (c - 48)) := rfl
    rw [h0, List.foldl_cons, ih, ih, List.length_cons, Nat.pow_succ]
    rw [Nat.add_mul, Nat.mul_assoc, Nat.mul_comm 10 (10 ^ cs.length)]
    simp
    omega
open PySem.NumText in
theorem dv_cons (c : Nat) (cs : List Nat) : digitsVal (c :: cs) = (c - 48) * 10 ^ cs.length + digitsVal cs := by
  have h0 : digitsVal (c :: cs) = cs.foldl (fun acc c => acc * 10 + (c - 48)) (0 * 10 + (c - 48)) := rfl
  rw [h0, dv_foldl]
  simp
theorem sgnI_eq {a b : Int} (h : a = b) : sgnI a b = 0 := by unfold sgnI; rw [if_neg (by omega), if_neg (by omega)]; rfl
theorem sgnI_lt' {a b : Int} (h : a < b) : sgnI a b = -1 := by unfold sgnI; rw [if_neg (by omega), if_pos h]; rfl
theorem sgnI_gt' {a b : Int} (h : b < a) : sgnI a b = 1 := by unfold sgnI; rw [if_pos h, if_neg (by omega)]; rfl
/-- as many figures compare as their numbers -/
theorem cmp_figs : ∀ (a b : List Nat), (∀ c ∈ a, 48 ≤ c ∧ c ≤ 57) → (∀ c ∈ b, 48 ≤ c ∧ c ≤ 57) → a.length = b.length → cmpL a b = sgnI ((PySem.NumText.digitsVal a : Nat) : Int) ((PySem.NumText.digitsVal b : Nat) : Int)
  | [], [], _, _, _ => rfl
  | [], _ :: _, _, _, h => by cases h
  | _ :: _, [], _, _, h => by cases h
  | c :: a, d :: b, ha, hb, h => by
    have hl : a.length = b.length := by simpa using h
    have ih := cmp_figs a b (fun z hz => ha z (List.mem_cons_of_mem _ hz)) (fun z hz => hb z (List.mem_cons_of_mem _ hz)) hl
    have hc := ha c List.mem_cons_self
    have hd := hb d List.mem_cons_self
    have l1 := digitsVal_lt _ a rfl fun z hz => ha z (List.mem_cons_of_mem _ hz)
    have l2 := digitsVal_lt _ b rfl fun z hz => hb z (List.mem_cons_of_mem _ hz)
    rw [cmpL_cons, dv_cons, dv_cons, hl]
    rw [hl] at l1
    by_cases e : c = d
    · subst e
      rw [if_pos rfl, ih]
      unfold sgnI
      simp only [Int.natCast_add]
      split <;> split <;> split <;> split <;> first | rfl | omega
    · rw [if_neg e]
      by_cases h2 : c < d
      · rw [if_pos h2]
        have : (c - 48 + 1) * 10 ^ b.length ≤ (d - 48) * 10 ^ b.length := Nat.mul_le_mul_right _ (by omega)
        rw [Nat.add_mul] at this
        exact (sgnI_lt' (by omega)).symm
      · rw [if_neg h2]
        have : (d - 48 + 1) * 10 ^ b.length ≤ (c - 48) * 10 ^ b.length := Nat.mul_le_mul_right _ (by omega)
        rw [Nat.add_mul] at this
        exact (sgnI_gt' (by omega)).symm
theorem dig_len : ∀ (k n : Nat), n < 10 ^ (k + 1) → (Nat.toDigits 10 n).length ≤ k + 1
  | 0, n, h => by rw [Nat.toDigits_of_lt_base (by simpa using h)]; exact Nat.le_refl _
  | k + 1, n, h => by
    by_cases hn : n < 10
    · rw [Nat.toDigits_of_lt_base hn]
      exact Nat.succ_le_succ (Nat.zero_le _)
    · rw [Nat.toDigits_of_base_le (by decide) (by omega), List.length_append]
      have := dig_len k (n / 10) (by rw [Nat.pow_succ] at h; omega)
      exact Nat.succ_le_succ this
def dg (i : Int) : List Nat := sg (Str.ofString (toString i))
theorem dg_nat (n : Nat) : dg (n : Int) = (Nat.toDigits 10 n).map Char.toNat := PySem.W.KIN.signs_num n
theorem dg_fig {i : Int} (h : 0 ≤ i) : ∀ c ∈ dg i, 48 ≤ c ∧ c ≤ 57 := fun c hc => fig_dig.mp (num_fig h c hc)
theorem dg_val {i : Int} (h : 0 ≤ i) : ((PySem.NumText.digitsVal (dg i) : Nat) : Int) = i := by
  obtain ⟨n, rfl⟩ : ∃ n : Nat, i = (n : Int) := ⟨i.toNat, by omega⟩
  rw [dg_nat, PySem.W.KIN.val_back]
theorem dg_len {i : Int} (k : Nat) (h0 : 0 ≤ i) (h : i < 10 ^ (k + 1)) : (dg i).length ≤ k + 1 := by
  obtain ⟨n, rfl⟩ : ∃ n : Nat, i = (n : Int) := ⟨i.toNat, by omega⟩
  rw [dg_nat, List.length_map]
  exact dig_len k n (by exact_mod_cast h)
theorem dg_lead {i : Int} (h : 1 ≤ i) : ∃ c cs, dg i = c :: cs ∧ 49 ≤ c := by
  obtain ⟨n, rfl⟩ : ∃ n : Nat, i = (n : Int) := ⟨i.toNat, by omega⟩
  obtain ⟨c, cs, e, h1, _⟩ := lead n (by omega)
  exact ⟨c, cs, (dg_nat n).trans e, h1⟩
theorem dv_zeros (cs : List Nat) : ∀ k, PySem.NumText.digitsVal (List.replicate k 48 ++ cs) = PySem.NumText.digitsVal cs
  | 0 => rfl
  | k + 1 => by rw [List.replicate_succ, List.cons_append, PySem.NumText.digitsVal_zero, dv_zeros cs k]
def padz (n : Nat) (i : Int) : List Nat := List.replicate (n - (dg i).length) 48 ++ dg i
theorem padz_len {n : Nat} {i : Int} (h : (dg i).length ≤ n) : (padz n i).length = n := by
  unfold padz
  rw [List.length_append, List.length_replicate]
  omega
theorem padz_fig {n : Nat} {i : Int} (h : 0 ≤ i) : ∀ c ∈ padz n i, 48 ≤ c ∧ c ≤ 57 := fun c hc => by
  rcases List.mem_append.mp hc with hc | hc
  · rw [List.eq_of_mem_replicate hc]; omega
  · exact dg_fig h c hc
theorem padz_val {n : Nat} {i : Int} (h : 0 ≤ i) : ((PySem.NumText.digitsVal (padz n i) : Nat) : Int) = i := by
  unfold padz
  rw [dv_zeros, dg_val h]
theorem cmp_padz {n : Nat} {i j : Int} (hi : 0 ≤ i) (hj : 0 ≤ j) (li : (dg i).length ≤ n) (lj : (dg j).length ≤ n) : cmpL (padz n i) (padz n j) = sgnI i j := by
  rw [cmp_figs _ _ (padz_fig hi) (padz_fig hj) (by rw [padz_len li, padz_len lj]), padz_val hi, padz_val hj]
def pad3 (cs : List Nat) : List Nat := cs ++ List.replicate (3 - cs.length) 32
def mkl (ks : List Str) : List Nat := (ks.map fun k => sg k ++ [32]).flatten
def yr4 : Option Int → List Nat
  | none => [48, 48, 48, 48]
  | some y => dg y
def cpd : Option Int → List Nat
  | none => [48, 48]
  | some c => padz 2 ((dg c).length : Nat) ++ dg c
def fil (m : MK) : List Nat := pad3 (sg m.lt) ++ (padz 4 m.num ++ (sg m.pts ++ 32 :: (mkl m.mks ++ (yr4 m.yr ++ cpd m.cp))))
def MkW (k : Str) : Prop := (∃ c r, sg k = c :: r ∧ 97 ≤ c) ∧ ∀ d ∈ sg k, 32 < d
theorem mkl_cons (k : Str) (ks : List Str) (u : List Nat) : mkl (k :: ks) ++ u = sg k ++ 32 :: (mkl ks ++ u) := by
  unfold mkl
  rw [List.map_cons, List.flatten_cons, List.append_assoc, List.append_assoc]
  rfl
theorem cmp_mkl : ∀ (ks js : List Str), (∀ k ∈ ks, MkW k) → (∀ k ∈ js, MkW k) → ∀ (u v : List Nat), (∃ c r, u = c :: r ∧ c ≤ 57) → (∃ c r, v = c :: r ∧ c ≤ 57) → cmpL (mkl ks ++ u) (mkl js ++ v) = nz (cmpM ks js) (cmpL u v)
  | [], [], _, _, u, v, _, _ => by show cmpL u v = nz 0 _; rw [nz_0]
  | [], j :: js, _, hj, u, v, ⟨c, r, e, h⟩, _ => by
    obtain ⟨⟨d, q, e2, h2⟩, _⟩ := hj j List.mem_cons_self
    rw [mkl_cons, e2, e]
    show cmpL (c :: r) (d :: _) = nz (-1) _
    rw [cmpL_cons, if_neg (by omega), if_pos (by omega), nz_of (by decide)]
  | k :: ks, [], hk, _, u, v, _, ⟨c, r, e, h⟩ => by
    obtain ⟨⟨d, q, e2, h2⟩, _⟩ := hk k List.mem_cons_self
    rw [mkl_cons, e2, e]
    show cmpL (d :: _) (c :: r) = nz 1 _
    rw [cmpL_cons, if_neg (by omega), if_neg (by omega), nz_of (by decide)]
  | k :: ks, j :: js, hk, hj, u, v, hu, hv => by
    have ih := cmp_mkl ks js (fun z hz => hk z (List.mem_cons_of_mem _ hz)) (fun z hz => hj z (List.mem_cons_of_mem _ hz)) u v hu hv
    rw [mkl_cons, mkl_cons, cmp_end 32 _ _ (hk k List.mem_cons_self).2 (hj j List.mem_cons_self).2, ih]
    show _ = nz (nz _ _) _
    rw [nz_assoc]
theorem yr4_fig {o : Option Int} (h : ∀ y, o = some y → 1000 ≤ y ∧ y ≤ 2999) : (∀ c ∈ yr4 o, 48 ≤ c ∧ c ≤ 57) ∧ (yr4 o).length = 4 ∧ ((PySem.NumText.digitsVal (yr4 o) : Nat) : Int) = o.getD 0 := by
  cases o with
  | none => exact ⟨by decide, rfl, rfl⟩
  | some y =>
    have hy := h y rfl
    refine ⟨dg_fig (by omega), ?_, dg_val (by omega)⟩
    have h1 := dg_len 3 (i := y) (by omega) (by omega)
    have h2 : ¬ (dg y).length ≤ 3 := fun hl => by
      have := digitsVal_lt _ (dg y) rfl (dg_fig (by omega))
      have h3 := dg_val (i := y) (by omega)
      have h4 : (10 : Nat) ^ (dg y).length ≤ 10 ^ 3 := Nat.pow_le_pow_right (by decide) hl
      omega
    show (dg y).length = 4
    omega
theorem dg_low {c : Int} (h : 1 ≤ c) : 1 ≤ (dg c).length ∧ (10 : Int) ^ ((dg c).length - 1) ≤ c ∧ c < 10 ^ (dg c).length := by
  obtain ⟨x, xs, e, hx⟩ := dg_lead h
  have hv := dg_val (i := c) (by omega)
  have hl := digitsVal_lt _ (dg c) rfl (dg_fig (by omega))
  refine ⟨by rw [e]; simp, ?_, ?_⟩
  · rw [e, dv_cons] at hv
    rw [e, List.length_cons, Nat.add_sub_cancel]
    have : 1 * 10 ^ xs.length ≤ (x - 48) * 10 ^ xs.length := Nat.mul_le_mul_right _ (by omega)
    have h2 : ((10 ^ xs.length : Nat) : Int) ≤ c := by omega
    exact_mod_cast h2
  · have h2 : c < ((10 ^ (dg c).length : Nat) : Int) := by omega
    exact_mod_cast h2
theorem dg_longer {c d : Int} (hc : 1 ≤ c) (hd : 1 ≤ d) (h : (dg c).length < (dg d).length) : c < d := by
  obtain ⟨_, _, h1⟩ := dg_low hc
  obtain ⟨h2, h3, _⟩ := dg_low hd
  have : (10 : Int) ^ (dg c).length ≤ 10 ^ ((dg d).length - 1) := by
    have h9 : (10 : Nat) ^ (dg c).length ≤ 10 ^ ((dg d).length - 1) := Nat.pow_le_pow_right (by decide) (by omega)
    exact_mod_cast h9
  omega
/-- a copy of at most 99 figures -/
def C99 (o : Option Int) : Prop := ∀ c, o = some c → 2 ≤ c ∧ (dg c).length ≤ 99
theorem len2 {n : Nat} (h : n ≤ 99) : (dg (n : Int)).length ≤ 2 := dg_len 1 (by omega) (by omega)
theorem cmp_cpd {o o' : Option Int} (h : C99 o) (h' : C99 o') : cmpL (cpd o) (cpd o') = sgnI (o.getD 0) (o'.getD 0) := by
  have z2 : cpd none = padz 2 ((0 : Nat) : Int) ++ [] := by decide +kernel
  cases o with
  | none =>
    cases o' with
    | none => decide +kernel
    | some d =>
      obtain ⟨h1, h2⟩ := h' d rfl
      have := (dg_low (c := d) (by omega)).1
      rw [z2]
      show cmpL _ (padz 2 ((dg d).length : Nat) ++ dg d) = sgnI 0 d
      rw [cmp_app _ _ (by rw [padz_len (len2 (by decide)), padz_len (len2 h2)]), cmp_padz (by omega) (by omega) (len2 (by decide)) (len2 h2), sgnI_lt' (by omega), nz_of (by decide), sgnI_lt' (by omega)]
  | some c =>
    obtain ⟨g1, g2⟩ := h c rfl
    have gl := (dg_low (c := c) (by omega)).1
    cases o' with
    | none =>
      rw [z2]
      show cmpL (padz 2 ((dg c).length : Nat) ++ dg c) _ = sgnI c 0
      rw [cmp_app _ _ (by rw [padz_len (len2 g2), padz_len (len2 (by decide))]), cmp_padz (by omega) (by omega) (len2 g2) (len2 (by decide)), sgnI_gt' (by omega), nz_of (by decide), sgnI_gt' (by omega)]
    | some d =>
      obtain ⟨h1, h2⟩ := h' d rfl
      show cmpL (padz 2 ((dg c).length : Nat) ++ dg c) (padz 2 ((dg d).length : Nat) ++ dg d) = sgnI c d
      rw [cmp_app _ _ (by rw [padz_len (len2 g2), padz_len (len2 h2)]), cmp_padz (by omega) (by omega) (len2 g2) (len2 h2)]
      rcases Nat.lt_trichotomy (dg c).length (dg d).length with hl | hl | hl
      · rw [sgnI_lt' (by omega), nz_of (by decide), sgnI_lt' (dg_longer (by omega) (by omega) hl)]
      · rw [sgnI_eq (by omega), nz_0, cmp_figs _ _ (dg_fig (by omega)) (dg_fig (by omega)) hl, dg_val (by omega), dg_val (by omega)]
      · rw [sgnI_gt' (by omega), nz_of (by decide), sgnI_gt' (dg_longer (by omega) (by omega) hl)]
theorem maker_w {k : Str} (h : makerOk k = true) : MkW k := by
  obtain ⟨he, c, hc, hca⟩ := maker_tail h
  have hcr := (show ∀ c ∈ sg sABC, 97 ≤ c ∧ c ≤ 122 by decide +kernel) c hca
  cases e : sg k with
  | nil => rw [e] at hc; cases hc
  | cons x xs =>
    rw [e] at hc
    cases hc
    refine ⟨⟨_, xs, e, hcr.1⟩, fun d hd => ?_⟩
    rw [e] at hd
    rcases List.mem_cons.mp hd with rfl | hd
    · omega
    · have : d ∈ sg (cutS k (some 1) none) := by rw [sg_cutFrom1, e]; exact hd
      have := fig_dig.mp (ended_fig he d this)
      omega
theorem cmp_fil {m n : MK} (okm : m.Ok) (okn : n.Ok) (cm : C99 m.cp) (cn : C99 n.cp) : cmpL (fil m) (fil n) = ordL m n := by
  have letr : ∀ {k : MK}, k.Ok → (∀ d ∈ sg k.lt, 32 < d) ∧ (sg k.lt).length ≤ 3 := fun {k} ok => by
    refine ⟨fun d hd => ?_, by have := letters_len ok.l; rw [sg_len]; omega⟩
    have := (show ∀ c ∈ sg sABC, 97 ≤ c ∧ c ≤ 122 by decide +kernel) d (allIn_iff.mp (letters_in ok.l) d hd)
    omega
  have numl : ∀ {k : MK}, k.Ok → (dg k.num).length ≤ 4 := fun {k} ok => dg_len 3 (by have := ok.n.1; omega) (by have := ok.n.2; omega)
  have ptsl : ∀ {k : MK}, k.Ok → ∀ d ∈ sg k.pts, 32 < d := fun {k} ok d hd => by
    have := fig_dig.mp (points_fig ok.p d hd)
    omega
  have yrh : ∀ {k : MK} (u : List Nat), k.Ok → ∃ c r, yr4 k.yr ++ u = c :: r ∧ c ≤ 57 := fun {k} u ok => by
    obtain ⟨f1, f2, _⟩ := yr4_fig ok.y
    cases e : yr4 k.yr with
    | nil => rw [e] at f2; cases f2
    | cons c r => exact ⟨c, r ++ u, rfl, (f1 c (by rw [e]; exact List.mem_cons_self)).2⟩
  obtain ⟨l1, l2⟩ := letr okm
  obtain ⟨l3, l4⟩ := letr okn
  obtain ⟨y1, y2, y3⟩ := yr4_fig okm.y
  obtain ⟨y4, y5, y6⟩ := yr4_fig okn.y
  have p3 : (pad3 (sg m.lt)).length = (pad3 (sg n.lt)).length := by unfold pad3; rw [List.length_append, List.length_append, List.length_replicate, List.length_replicate]; omega
  have p4 : cmpL (pad3 (sg m.lt)) (pad3 (sg n.lt)) = cmpL (sg m.lt) (sg n.lt) := cmp_pad 32 _ _ _ _ l1 l3 (by omega)
  unfold fil ordL
  rw [cmp_app _ _ p3, p4, cmp_app _ _ (by rw [padz_len (numl okm), padz_len (numl okn)]), cmp_padz (by have := okm.n.1; omega) (by have := okn.n.1; omega) (numl okm) (numl okn), cmp_end 32 _ _ (ptsl okm) (ptsl okn),
    cmp_mkl _ _ (fun k hk => maker_w (okm.ks k hk).1) (fun k hk => maker_w (okn.ks k hk).1) _ _ (yrh _ okm) (yrh _ okn), cmp_app _ _ (by rw [y2, y5]), cmp_figs _ _ y1 y4 (by rw [y2, y5]), y3, y6, cmp_cpd cm cn]
  have nz1 : ∀ x : Int, nz x 0 = x := fun x => by unfold nz; split <;> simp_all
  rw [nz1]

/-! ### filed texts, made -/
def qZfill : V → List V → Hp → VK → Prop := fun x xs H Q => ∃ (a : Str) (i : Int), x = .str a ∧ xs = [.int i] ∧ PadOk i = true ∧ Q (.str (Txt.zfill a i)) H
theorem mt_zfillQ {X : Cx} : MtR X "str.zfill" qZfill := mt_zfill
def qLjust : V → List V → Hp → VK → Prop := fun x xs H Q => ∃ (a : Str) (i : Int), x = .str a ∧ xs = [.int i] ∧ PadOk i = true ∧ Q (.str (Txt.ljust a i)) H
theorem mt_ljustQ {X : Cx} : MtR X "str.ljust" qLjust := mt_ljust
def filT (m : MK) : Str := ⟨(fil m).toArray⟩
def cpT (o : Option Int) : Str := ⟨(cpd o).toArray⟩
def cnT (n : Nat) : Str := ⟨(padz 2 (n : Int)).toArray⟩
theorem sg_zfill {x : Str} (h : ∀ c, (sg x)[0]? = some c → c ≠ 43 ∧ c ≠ 45) (n : Nat) : sg (Txt.zfill x (n : Int)) = List.replicate (n - (sg x).length) 48 ++ sg x := by
  unfold Txt.zfill
  have hl := sg_len x
  split
  · rename_i h1
    rw [show n - (sg x).length = 0 by omega]
    rfl
  · rename_i h1
    have e : zfilled x ((n : Int).toNat - x.length) = Builtin.Str.padded x ((n : Int).toNat - x.length) 0 48 := by
      unfold zfilled
      have h' : ∀ c, x.cps[0]? = some c → c ≠ 43 ∧ c ≠ 45 := fun c hc => h c (by rw [← hc]; simp [sg])
      split
      · rename_i e; exact absurd rfl (h' _ e).1
      · rename_i e; exact absurd rfl (h' _ e).2
      · rfl
    rw [e, Int.toNat_natCast, hl]
    show (Array.replicate _ 48 ++ x.cps ++ Array.replicate 0 48).toList = _
    simp [sg]
theorem sg_ljust (x : Str) (n : Nat) : sg (Txt.ljust x (n : Int)) = sg x ++ List.replicate (n - (sg x).length) 32 := by
  unfold Txt.ljust
  have hl := sg_len x
  split
  · rename_i h1
    rw [show n - (sg x).length = 0 by omega]
    simp
  · rename_i h1
    rw [Int.toNat_natCast, hl]
    show (Array.replicate 0 32 ++ x.cps ++ Array.replicate _ 32).toList = _
    simp [sg]
theorem zfill_dg {i : Int} (h : 0 ≤ i) (n : Nat) : sg (Txt.zfill (Str.ofString (toString i)) (n : Int)) = padz n i := by
  rw [sg_zfill]
  · rfl
  · intro c hc
    have := dg_fig h c (List.mem_of_getElem? hc)
    omega
theorem sg_cutAt (x : Str) (k : Nat) : sg (cutS x (some (k : Int)) none) = (sg x).drop k := by
  show (List.toArray _).toList = _
  unfold HT.sIx
  dsimp only
  rw [if_neg (by omega)]
  show ((sg x).drop _).take _ = _
  rw [Int.toNat_natCast]
  by_cases h : k ≤ x.length
  · rw [Nat.min_eq_left h, List.take_of_length_le (by rw [List.length_drop, sg_len]; omega)]
  · rw [Nat.min_eq_right (by omega), List.drop_of_length_le (by rw [sg_len]; omega), List.drop_of_length_le (by rw [sg_len]; omega)]
    simp
theorem drop_rep (c : Nat) : ∀ (n k : Nat), (List.replicate n c).drop k = List.replicate (n - k) c := fun n k => by simp
theorem pad_law (lt : Str) (h : lt.length ≤ 3) : lt ++ cutS (Str.ofString "   ") (some (lt.length : Int)) none = (⟨(pad3 (sg lt)).toArray⟩ : Str) := str_ext (by
  rw [sg_app, sg_cutAt, show sg (Str.ofString "   ") = List.replicate 3 32 by decide +kernel, drop_rep, ← sg_len]
  rfl)
theorem num_law (i : Int) (h : 0 ≤ i) : sg (cutS (Str.ofString "0000") (some ((Str.ofString (toString i)).length : Int)) none) ++ sg (Str.ofString (toString i)) = padz 4 i := by
  rw [sg_cutAt, show sg (Str.ofString "0000") = List.replicate 4 48 by decide +kernel, drop_rep, ← sg_len]
  rfl
theorem cnt_law (i : Int) (h : 0 ≤ i) : sg (cutS (Str.ofString "00") (some ((Str.ofString (toString i)).length : Int)) none) ++ sg (Str.ofString (toString i)) = padz 2 i := by
  rw [sg_cutAt, show sg (Str.ofString "00") = List.replicate 2 48 by decide +kernel, drop_rep, ← sg_len]
  rfl
theorem g_cut {a b : TS} {D : Ends} {σ : L2.St} {H : Hp} (h : a { D with nx := b D } σ H) : tCut a b D σ H := ⟨b D, h, fun _ _ h => h⟩
theorem fil_eq (m : MK) : sg (filT m) = pad3 (sg m.lt) ++ (padz 4 m.num ++ (sg m.pts ++ [32])) ++ mkl m.mks ++ yr4 m.yr ++ cpd m.cp := by
  show fil m = _
  unfold fil
  simp
theorem words_fil (x : Str) : ∀ mks : List Str, ((mks ++ [x]).map fun k => 32 :: sg k).flatten = 32 :: (mkl mks ++ sg x)
  | [] => by simp [mkl]
  | k :: mks => by
    have ih := words_fil x mks
    rw [List.cons_append, List.map_cons, List.flatten_cons, ih]
    simp [mkl]
theorem join_fil {m : MK} {h x : Str} (hh : sg h = pad3 (sg m.lt) ++ padz 4 m.num ++ sg m.pts) (hx : sg x = yr4 m.yr ++ cpd m.cp) : Txt.join " " (h :: (m.mks ++ [x])) = filT m := str_ext (by
  rw [fil_eq]
  unfold Txt.join
  rw [StrLaws.glued_eq_join, join_blank, words_fil, hh, hx]
  simp)
def spFct (K : PySem.W.Frag) (C : Addr) : Sp := fun vs H Q _ => ∃ (t : Str) (Φ : List (V × W)) (mt : List (Addr × (HO → Prop))), vs = [.str t] ∧ t.length ≤ 2000 ∧ S K C H Φ mt ∧ ∀ H', S K C H' Φ mt → Q (.str (cnT t.length)) H'
def spFcp (K : PySem.W.Frag) (C : Addr) : Sp := fun vs H Q _ => ∃ (o : Option Int) (Φ : List (V × W)) (mt : List (Addr × (HO → Prop))), vs = [oi o] ∧ (∀ c, o = some c → 2 ≤ c ∧ c.natAbs.log2 < 1920) ∧ S K C H Φ mt ∧ ∀ H', S K C H' Φ mt → Q (.str (cpT o)) H'
def spFld (K : PySem.W.Frag) (C : Addr) : Sp := fun vs H Q _ => ∃ (x : Addr) (m : MK) (Φ : List (V × W)) (mt : List (Addr × (HO → Prop))), vs = [.ref x] ∧ (.ref x, .m m) ∈ Φ ∧ S K C H Φ mt ∧ ∀ H', S K C H' Φ mt → Q (.str (filT m)) H'
def spFlL (K : PySem.W.Frag) (C : Addr) : Sp := fun vs H Q _ => ∃ (p : Addr) (m : MK) (Φ : List (V × W)) (mt : List (Addr × (HO → Prop))), vs = [.ref p] ∧ (.ref p, m.row) ∈ Φ ∧ m.Ok ∧ S K C H Φ mt ∧ ∀ H', S K C H' Φ mt → Q (.str (filT m)) H'
section
variable {K : PySem.W.Frag} {C : Addr} {H : Hp} {Φ : List (V × W)} {mt : List (Addr × (HO → Prop))} {Q : VK} {x p : Addr} {E : XK} {t : Str} {o : Option Int} {m : MK}
theorem cnT_len {n : Nat} (h : n ≤ 2000) : (cnT n).length ≤ 10 := by
  show (List.toArray _).size ≤ 10
  rw [List.size_toArray]
  have := dg_len 3 (i := (n : Int)) (by omega) (by omega)
  unfold padz
  rw [List.length_append, List.length_replicate]
  omega
theorem cpT_some (c : Int) : cnT (Str.ofString (toString c)).length ++ Str.ofString (toString c) = cpT (some c) := str_ext (by
  rw [sg_app]
  show padz 2 ((Str.ofString (toString c)).length : Nat) ++ dg c = padz 2 ((dg c).length : Nat) ++ dg c
  rw [show (dg c).length = (Str.ofString (toString c)).length from sg_len _])
theorem use_fct (s : S K C H Φ mt) (h : t.length ≤ 2000) (k : ∀ H', S K C H' Φ mt → Q (.str (cnT t.length)) H') : spFct K C [.str t] H Q E := ⟨t, Φ, mt, rfl, h, s, k⟩
theorem use_fcp (s : S K C H Φ mt) (h : ∀ c, o = some c → 2 ≤ c ∧ c.natAbs.log2 < 1920) (k : ∀ H', S K C H' Φ mt → Q (.str (cpT o)) H') : spFcp K C [oi o] H Q E := ⟨o, Φ, mt, rfl, h, s, k⟩
theorem use_fld (s : S K C H Φ mt) (h : (.ref x, .m m) ∈ Φ) (k : ∀ H', S K C H' Φ mt → Q (.str (filT m)) H') : spFld K C [.ref x] H Q E := ⟨x, m, Φ, mt, rfl, h, s, k⟩
theorem use_flL (s : S K C H Φ mt) (h : (.ref p, m.row) ∈ Φ) (ok : m.Ok) (k : ∀ H', S K C H' Φ mt → Q (.str (filT m)) H') : spFlL K C [.ref p] H Q E := ⟨p, m, Φ, mt, rfl, h, ok, s, k⟩
theorem pad_ok {n : Nat} (h : n ≤ 300) : PadOk (n : Int) = true := by
  have : ∀ k : Nat, k < 301 → PadOk (k : Int) = true := by decide +kernel
  exact this n (by omega)
theorem g_zfillD {i : Int} {n : Nat} (h : 0 ≤ i) (hn : n ≤ 300) (k : Q (.str ⟨(padz n i).toArray⟩) H) : qZfill (.str (Str.ofString (toString i))) [.int (n : Int)] H Q := by
  refine ⟨_, _, rfl, rfl, pad_ok hn, ?_⟩
  rw [show Txt.zfill (Str.ofString (toString i)) (n : Int) = (⟨(padz n i).toArray⟩ : Str) from str_ext (zfill_dg h n)]
  exact k
theorem g_tyS {P : Prop} {u : Str} (k : P) : TyW K "str" (.str u) H P := ⟨rfl, k⟩
theorem g_ljust3 {l : Str} (k : Q (.str ⟨(sg l ++ List.replicate (3 - (sg l).length) 32).toArray⟩) H) : qLjust (.str l) [.int (3 : Int)] H Q := by
  refine ⟨_, _, rfl, rfl, pad_ok (n := 3) (by decide), ?_⟩
  rw [show Txt.ljust l (3 : Int) = (⟨(sg l ++ List.replicate (3 - (sg l).length) 32).toArray⟩ : Str) from str_ext (sg_ljust l 3)]
  exact k
theorem g_zfill4 {i : Int} (h : 0 ≤ i) (k : Q (.str ⟨(padz 4 i).toArray⟩) H) : qZfill (.str (Str.ofString (toString i))) [.int (4 : Int)] H Q := g_zfillD (n := 4) h (by decide) k
theorem g_zfill2 {i : Int} (h : 0 ≤ i) (k : Q (.str ⟨(padz 2 i).toArray⟩) H) : qZfill (.str (Str.ofString (toString i))) [.int (2 : Int)] H Q := g_zfillD (n := 2) h (by decide) k
theorem g_starS {ks : List Str} {tr : TA} {te : TE} {σ : L2.St} {Q : List V → Hp → Prop} (s : S K C H Φ mt) (h : (.ref p, .t (ks.map W.s)) ∈ Φ) (k : tr σ H fun vs H2 => Q (ks.map V.str ++ vs) H2) : StX.tStar K (fun _ H Q => Q (.ref p) H) tr σ H Q := by
  obtain ⟨vs, h1, h2, s'⟩ := s.openT h
  obtain rfl := rep_strs (s'.repL (knl_zip h2))
  exact ⟨p, _, rfl, .inl h1, k⟩
theorem cpT_len (h : ∀ c, o = some c → 2 ≤ c ∧ c.natAbs.log2 < 1920) : (cpT o).length ≤ 2000 := by
  cases o with
  | none => decide +kernel
  | some c =>
    have h1 := int_len (h c rfl).2
    have h2 := cnT_len (n := (Str.ofString (toString c)).length) (by omega)
    rw [← cpT_some, len_app]
    omega
theorem sum_lenS {b : Nat} : ∀ {ks : List Str}, (∀ k ∈ ks, k.length ≤ b) → (ks.map (·.length)).sum ≤ ks.length * b
  | [], _ => by simp
  | k :: ks, h => by
    have h1 := h k List.mem_cons_self
    have h2 := sum_lenS (ks := ks) fun x hx => h x (List.mem_cons_of_mem _ hx)
    rw [List.map_cons, List.sum_cons, List.length_cons, Nat.succ_mul]
    omega
theorem fil_szz {h x : Str} {mks : List Str} (hh : h.length ≤ 1010) (hx : x.length ≤ 6000) (hk : ∀ k ∈ mks, k.length ≤ 1000) (h3 : mks.length ≤ 3) : ((h :: (mks ++ [x])).map (·.length)).sum + (h :: (mks ++ [x])).length * (Str.ofString " ").length ≤ 16777216 := by
  have h1 := sum_lenS hk
  have h2 : mks.length * 1000 ≤ 3000 := by omega
  rw [show (Str.ofString " ").length = 1 by decide +kernel]
  simp
  omega
theorem knl_fil {h x : Str} {mks : List Str} : KnL Φ (V.str h :: (mks.map V.str ++ [V.str x])) ((h :: (mks ++ [x])).map W.s) := by
  rw [show V.str h :: (mks.map V.str ++ [V.str x]) = (h :: (mks ++ [x])).map V.str by simp]
  exact KnL.is _ V.str W.s (fun _ _ => Kn.s _)
theorem g_starB {ks : List Str} {F : List V → Prop} (s : S K C H Φ mt) (h : (.ref p, .t (ks.map W.s)) ∈ Φ) (k : F (ks.map V.str)) : ∃ q xs, V.ref p = .ref q ∧ (SqT K H q xs ∨ SqL K H q xs) ∧ F xs := by
  obtain ⟨vs, h1, h2, s'⟩ := s.openT h
  obtain rfl := rep_strs (s'.repL (knl_zip h2))
  exact ⟨p, _, rfl, .inl h1, k⟩
theorem g_joinL {ks : List Str} {c : Str} (s : S K C H Φ mt) (h : (.ref p, .l (ks.map W.s)) ∈ Φ) (hz : (ks.map (·.length)).sum + ks.length * c.length ≤ 16777216) (k : Q (.str (Txt.join c ks)) H) : rJoin K (.str c) [.ref p] H Q := by
  obtain ⟨vs, h1, h2, s'⟩ := s.open h
  obtain rfl := rep_strs (s'.repL (knl_zip h2))
  exact ⟨c, p, ks, rfl, rfl, .inl h1, hz, k⟩
end
local macro_rules | `(tactic| kt_at_get) => `(tactic| with_reducible first
  | refine st_go ?_
  | (apply g_tyS)
  | (apply g_ljust3)
  | (apply g_zfill4; (focus (omega)))
  | (apply g_zfill2; (focus (omega))))
local macro_rules | `(tactic| kt_len) => `(tactic| with_reducible first
  | (apply use_fct; (focus (assumption)); (focus (first | omega | assumption)); intro _ _))
section
variable {P : Program} {w : World} {K : PySem.W.Frag} {mg : Str → Option Value} {base : Heap} {Z : Adr} {C : Addr}
theorem ok_filed_count (T : Txt K mg Z) : FnOk P w K mg base CX0 1 Z.a_filed_count Z.d_filed_count ["figures"] (spFct K Z.C_Mark) := by
  refine T.F_filed_count.ok sc_filed_count (fun vs H Q E h => ?_) (fun cdv A outer s H vs Q E hr h => ?_)
  · obtain ⟨_, _, _, rfl, _⟩ := h; rfl
  · obtain ⟨t, Φ, mt, rfl, hz, s, kk⟩ := h
    refine ⟨_, (pss_one (ps_ret (bmK K PySem.F.plainAttrs_str PySem.F.slot_str_zfill PySem.F.type_str_zfill mt_zfillQ (pe_callTy (call_strI) (by rfl) T.n_str (by decide +kernel) (pa_cons (pe_callB (call_lenS) (by rfl) T.n_len (by decide +kernel) (pa_cons (pv 0) pa_nil)) pa_nil)) (pa_cons pe_int pa_nil)))), ?_⟩
    have hl : ((t.length : Int)).natAbs.log2 < 1920 := log_s (by omega) (by omega)
    kxt_pos
    kopn_word
    exact kk _ s
theorem ok_filed_copy (T : Txt K mg Z) : FnOk P w K mg base CX0 2 Z.a_filed_copy Z.d_filed_copy ["copy"] (spFcp K Z.C_Mark) := by
  refine T.F_filed_copy.ok sc_filed_copy (fun vs H Q E h => ?_) (fun cdv A outer s H vs Q E hr h => ?_)
  · obtain ⟨_, _, _, rfl, _⟩ := h; rfl
  · obtain ⟨o, Φ, mt, rfl, ho, s, kk⟩ := h
    refine ⟨_, (pss_cons (ps_if (pt_cmpR op_isNq (pv 0) pe_non (nomark _)) (pss_one (ps_ret (pe_gs rfl T.c_NO_COPY))) pss_nil)
      (pss_cons (ps_set (i := 1) sc_filed_copy.nd rfl (.inl rfl) (pe_callTy (call_strI) (by rfl) T.n_str (by decide +kernel) (pa_cons (pv 0) pa_nil)))
      (pss_one (ps_ret (pe_op op_addS (pe_call (ok_filed_count T) (hr.mono (by decide)) rfl T.g_filed_count T.F_filed_count.kp T.b_filed_count .nil pass0 (pa_cons (pv 1) pa_nil)) (pv 1)))))), ?_⟩
    kxt_pos
    cases o with
    | none =>
      have e : cpT none = Str.ofString "00" := by decide +kernel
      rw [e] at kk
      kopn_word
      exact kk _ s
    | some c =>
      obtain ⟨h1, h2⟩ := ho c rfl
      show tSeq _ _ _ [some (.int c), none] H
      kopn_word
      rename_i hl H2 s2
      have := cnT_len (show (Str.ofString (toString c)).length ≤ 2000 by omega)
      kopn_word
      rw [cpT_some]
      exact kk _ s2
theorem ok_l_filed (T : Txt K mg Z) : FnOk P w K mg base CX0 2 Z.a_l_filed Z.d_l_filed ["_law_parts_here"] (spFlL K Z.C_Mark) := by
  refine T.F_l_filed.ok sc_l_filed (fun vs H Q E h => ?_) (fun cdv A outer s H vs Q E hr h => ?_)
  · obtain ⟨_, _, _, _, rfl, _⟩ := h; rfl
  · obtain ⟨p, m, Φ, mt, rfl, hp, ok, s, kk⟩ := h
    refine ⟨_, (pss_cons (ps_set (i := 1) sc_l_filed.nd rfl (.inl rfl) (pe_op op_addS (pe_ix (ixL K) (pv 0) pe_int (fun _ _ => rfl)) (pe_slice sl_str pe_str (po_some (pe_callB (call_lenS) (by rfl) T.n_len (by decide +kernel) (pa_cons (pe_ix (ixL K) (pv 0) pe_int (fun _ _ => rfl)) pa_nil))) po_none)))
      (pss_cons (ps_set (i := 1) sc_l_filed.nd rfl (.inl rfl) (pe_op op_addS (pe_op op_addS (pe_op op_addS (pe_op op_addS (pv 1) (pe_slice sl_str pe_str (po_some (pe_callB (call_lenS) (by rfl) T.n_len (by decide +kernel) (pa_cons (pe_callTy (call_strI) (by rfl) T.n_str (by decide +kernel) (pa_cons (pe_ix (ixL K) (pv 0) pe_int (fun _ _ => rfl)) pa_nil)) pa_nil))) po_none)) (pe_callTy (call_strI) (by rfl) T.n_str (by decide +kernel) (pa_cons (pe_ix (ixL K) (pv 0) pe_int (fun _ _ => rfl)) pa_nil))) (pe_ix (ixL K) (pv 0) pe_int (fun _ _ => rfl))) pe_str))
      (pss_cons (ps_for PassesOwn.never rfl (pi_list (pe_ix (ixL K) (pv 0) pe_int (fun _ _ => rfl))) (pg_name (i := 2) sc_l_filed.nd rfl (.inl rfl)) (pss_one (ps_set (i := 1) sc_l_filed.nd rfl (.inl rfl) (pe_op op_addS (pe_op op_addS (pv 1) (pv 2)) pe_str))))
      (pss_cons (ps_set (i := 1) sc_l_filed.nd rfl (.inl rfl) (pe_op op_addS (pv 1) (pe_ifExp (pt_cmpR op_isNq (pe_ix (ixL K) (pv 0) pe_int (fun _ _ => rfl)) pe_non (nomark _)) pe_str (pe_callTy (call_strI) (by rfl) T.n_str (by decide +kernel) (pa_cons (pe_ix (ixL K) (pv 0) pe_int (fun _ _ => rfl)) pa_nil)))))
      (pss_cut (ps_if (pt_cmpR op_isNq (pe_ix (ixL K) (pv 0) pe_int (fun _ _ => rfl)) pe_non (nomark _)) (pss_one (ps_ret (pe_op op_addS (pv 1) pe_str))) pss_nil)
      (pss_cons (ps_set (i := 3) sc_l_filed.nd rfl (.inl rfl) (pe_callTy (call_strI) (by rfl) T.n_str (by decide +kernel) (pa_cons (pe_ix (ixL K) (pv 0) pe_int (fun _ _ => rfl)) pa_nil)))
      (pss_one (ps_ret (pe_op op_addS (pe_op op_addS (pe_op op_addS (pv 1) (pe_slice sl_str pe_str (po_some (pe_callB (call_lenS) (by rfl) T.n_len (by decide +kernel) (pa_cons (pe_callTy (call_strI) (by rfl) T.n_str (by decide +kernel) (pa_cons (pe_callB (call_lenS) (by rfl) T.n_len (by decide +kernel) (pa_cons (pv 3) pa_nil)) pa_nil)) pa_nil))) po_none)) (pe_callTy (call_strI) (by rfl) T.n_str (by decide +kernel) (pa_cons (pe_callB (call_lenS) (by rfl) T.n_len (by decide +kernel) (pa_cons (pv 3) pa_nil)) pa_nil))) (pv 3)))))))))), ?_⟩
    obtain ⟨lt, num, pts, mks, yr, cp⟩ := m
    change (V.ref p, W.l [.s lt, .i num, .s pts, .l (mks.map W.s), W.o yr, W.o cp]) ∈ Φ at hp
    have hk : mks.length ≤ 3 := ok.k
    have hl : (lt.length : Int) ≤ 3 := letters_len ok.l
    have hpz : pts.length ≤ 1000 := ok.pz
    have hn : 1 ≤ num ∧ num ≤ 9999 := ok.n
    have hks : ∀ k ∈ mks, k.length ≤ 5000 := fun k h => by have := (ok.ks k h).2; omega
    have hy : ∀ y, yr = some y → y.natAbs.log2 < 1920 := fun y h => log_s (by have := (ok.y y h).1; omega) (by have := (ok.y y h).2; omega)
    have hc : ∀ y, cp = some y → y.natAbs.log2 < 1920 := fun y h => (ok.c y h).2
    have e3 := pad_law lt (by omega)
    have e4 := num_law num (by omega)
    have l3 : (cutS (Str.ofString "   ") (some (lt.length : Int)) none).length ≤ 3 := Nat.le_trans (cut_leN _ _ _) (by decide +kernel)
    have l4 : (cutS (Str.ofString "0000") (some ((Str.ofString (toString num)).length : Int)) none).length ≤ 4 := Nat.le_trans (cut_leN _ _ _) (by decide +kernel)
    have ln : (Str.ofString (toString num)).length ≤ 4 := by rw [← sg_len]; exact dg_len 3 (by omega) (by omega)
    have lb : (Str.ofString " ").length = 1 := by decide +kernel
    have l0 : (Str.ofString "0000").length = 4 := by decide +kernel
    have l1 : (Str.ofString "00").length = 2 := by decide +kernel
    kxt_pos
    kopn_word
    rename_i q s1
    have hb : sg (lt ++ cutS (Str.ofString "   ") (some (lt.length : Int)) none ++ cutS (Str.ofString "0000") (some ((Str.ofString (toString num)).length : Int)) none ++ Str.ofString (toString num) ++ pts ++ Str.ofString " ") = pad3 (sg lt) ++ (padz 4 num ++ (sg pts ++ [32])) := by
      rw [e3, sg_app, sg_app, sg_app, sg_app, show sg (Str.ofString " ") = [32] by decide +kernel, List.append_assoc, List.append_assoc, List.append_assoc, ← e4, List.append_assoc]
    have hbl : (lt ++ cutS (Str.ofString "   ") (some (lt.length : Int)) none ++ cutS (Str.ofString "0000") (some ((Str.ofString (toString num)).length : Int)) none ++ Str.ofString (toString num) ++ pts ++ Str.ofString " ").length ≤ 2000 := by
      rw [len_app, len_app, len_app, len_app, len_app]
      omega
    generalize lt ++ cutS (Str.ofString "   ") (some (lt.length : Int)) none ++ cutS (Str.ofString "0000") (some ((Str.ofString (toString num)).length : Int)) none ++ Str.ofString (toString num) ++ pts ++ Str.ofString " " = u0 at hb hbl
    refine g_forL (K := K) (C := Z.C_Mark) (ws := mks.map W.s) (fun j σ' H' => ∃ (u : Str) (v : Option V), σ' = [some (.ref p), some (.str u), v, none] ∧ sg u = pad3 (sg lt) ++ (padz 4 num ++ (sg pts ++ [32])) ++ mkl (mks.take j) ∧ u.length ≤ 2000 + j * 5001 ∧ S K Z.C_Mark H' ((V.ref q, W.l (mks.map W.s)) :: Φ) mt) ⟨u0, _, rfl, by rw [hb]; simp [mkl], by omega, s1⟩ (fun j σ' H' g => by obtain ⟨_, _, _, _, _, s3⟩ := g; exact ⟨_, _, s3, List.mem_cons_self⟩) (fun j w v σ' H' hj g gr => ?_) (fun σ' H' g => ?_)
    · obtain ⟨u, v0, rfl, hu, hul, s3⟩ := g
      have s5 := gr _ _ s3 List.mem_cons_self
      rw [List.getElem?_map] at hj
      obtain ⟨k, hkj, rfl⟩ := Option.map_eq_some_iff.mp hj
      have hkm := List.mem_of_getElem? hkj
      have hkl := hks k hkm
      have hj3 : j < 3 := by have := (List.getElem?_eq_some_iff.mp hkj).1; omega
      obtain rfl : v = .str k := by cases s5.rep (.f List.mem_cons_self) with | s => rfl
      clear s5 gr hj
      have hul2 : u.length ≤ 20000 := by omega
      have hlk : (u ++ k).length ≤ 30000 := by rw [len_app]; omega
      kopn_word
      refine ⟨_, _, rfl, ?_, by rw [len_app, len_app, lb]; omega, by kt_ors⟩
      rw [sg_app, sg_app, hu, List.take_succ, hkj, show sg (Str.ofString " ") = [32] by decide +kernel]
      simp [mkl]
    · obtain ⟨u, v0, rfl, hu, hul, s3⟩ := g
      rw [List.length_map] at hu hul
      rw [List.take_length] at hu
      have hul2 : u.length ≤ 20000 := by omega
      cases yr with
      | none =>
        kopn_word
        have hu2 : sg (u ++ Str.ofString "0000") = pad3 (sg lt) ++ (padz 4 num ++ (sg pts ++ [32])) ++ mkl mks ++ yr4 none := by rw [sg_app, hu]; rfl
        have hu2l : (u ++ Str.ofString "0000").length ≤ 20010 := by rw [len_app, l0]; omega
        generalize u ++ Str.ofString "0000" = u2 at hu2 hu2l
        refine g_cut ?_
        cases cp with
        | none =>
          kopn_word
          rw [show u2 ++ Str.ofString "00" = filT _ from (str_ext (by rw [sg_app, hu2]; simp [fil_eq, cpd, show sg (Str.ofString "00") = [48, 48] by decide +kernel]) : u2 ++ Str.ofString "00" = filT ⟨lt, num, pts, mks, none, none⟩)]
          exact kk _ (by kt_ors)
        | some c =>
          have hcl := hc c rfl
          kopn_word
          refine g_strI hcl fun hdl => ?_
          have hdz : ((Str.ofString (toString c)).length : Int).natAbs.log2 < 1920 := log_s (by omega) (by omega)
          have hdn : (Str.ofString (toString ((Str.ofString (toString c)).length : Int))).length ≤ 4 := by rw [← sg_len]; exact dg_len 3 (by omega) (by omega)
          have hd2 : (cutS (Str.ofString "00") (some ((Str.ofString (toString ((Str.ofString (toString c)).length : Int))).length : Int)) none).length ≤ 2 := Nat.le_trans (cut_leN _ _ _) (by decide +kernel)
          kopn_word
          rw [show u2 ++ cutS (Str.ofString "00") (some ((Str.ofString (toString ((Str.ofString (toString c)).length : Int))).length : Int)) none ++ Str.ofString (toString ((Str.ofString (toString c)).length : Int)) ++ Str.ofString (toString c) = filT ⟨lt, num, pts, mks, none, some c⟩ from str_ext (by
            rw [sg_app, sg_app, sg_app, hu2, List.append_assoc (_ ++ _) (sg (cutS _ _ _)), cnt_law _ (by omega)]
            simp [fil_eq, cpd, sg_len, dg]
            rfl)]
          exact kk _ (by kt_ors)
      | some y =>
        kopn_word
        refine g_strI (hy y rfl) fun hyl => ?_
        kopn_word
        have hu2 : sg (u ++ Str.ofString (toString y)) = pad3 (sg lt) ++ (padz 4 num ++ (sg pts ++ [32])) ++ mkl mks ++ yr4 (some y) := by rw [sg_app, hu]; rfl
        have hu2l : (u ++ Str.ofString (toString y)).length ≤ 22010 := by rw [len_app]; omega
        generalize u ++ Str.ofString (toString y) = u2 at hu2 hu2l
        refine g_cut ?_
        cases cp with
        | none =>
          kopn_word
          rw [show u2 ++ Str.ofString "00" = filT _ from (str_ext (by rw [sg_app, hu2]; simp [fil_eq, cpd, show sg (Str.ofString "00") = [48, 48] by decide +kernel]) : u2 ++ Str.ofString "00" = filT ⟨lt, num, pts, mks, some y, none⟩)]
          exact kk _ (by kt_ors)
        | some c =>
          have hcl := hc c rfl
          kopn_word
          refine g_strI hcl fun hdl => ?_
          have hdz : ((Str.ofString (toString c)).length : Int).natAbs.log2 < 1920 := log_s (by omega) (by omega)
          have hdn : (Str.ofString (toString ((Str.ofString (toString c)).length : Int))).length ≤ 4 := by rw [← sg_len]; exact dg_len 3 (by omega) (by omega)
          have hd2 : (cutS (Str.ofString "00") (some ((Str.ofString (toString ((Str.ofString (toString c)).length : Int))).length : Int)) none).length ≤ 2 := Nat.le_trans (cut_leN _ _ _) (by decide +kernel)
          kopn_word
          rw [show u2 ++ cutS (Str.ofString "00") (some ((Str.ofString (toString ((Str.ofString (toString c)).length : Int))).length : Int)) none ++ Str.ofString (toString ((Str.ofString (toString c)).length : Int)) ++ Str.ofString (toString c) = filT ⟨lt, num, pts, mks, some y, some c⟩ from str_ext (by
            rw [sg_app, sg_app, sg_app, hu2, List.append_assoc (_ ++ _) (sg (cutS _ _ _)), cnt_law _ (by omega)]
            simp [fil_eq, cpd, sg_len, dg]
            rfl)]
          exact kk _ (by kt_ors)
theorem ok_filed (T : Txt K mg Z) : FnOk P w K mg base CX0 3 Z.a_filed Z.d_filed ["mark"] (spFld K Z.C_Mark) := by
  refine T.F_filed.ok sc_filed (fun vs H Q E h => ?_) (fun cdv A outer s H vs Q E hr h => ?_)
  · obtain ⟨_, _, _, _, rfl, _⟩ := h; rfl
  · obtain ⟨x, m, Φ, mt, rfl, hx, s, kk⟩ := h
    refine ⟨_, (pss_cons (ps_asg (pe_meth0 (pv 0) T.cl_Mark T.m_Mark_parts (ok_Mark_parts T) (hr.mono (by decide)) T.b_Mark_parts .nil pass0) (pg_tup rfl (pgs_cons (pg_name (i := 1) sc_filed.nd rfl (.inl rfl)) (pgs_cons (pg_name (i := 2) sc_filed.nd rfl (.inl rfl)) (pgs_cons (pg_name (i := 3) sc_filed.nd rfl (.inl rfl)) (pgs_cons (pg_name (i := 4) sc_filed.nd rfl (.inl rfl)) (pgs_cons (pg_name (i := 5) sc_filed.nd rfl (.inl rfl)) (pgs_cons (pg_name (i := 6) sc_filed.nd rfl (.inl rfl)) pgs_nil))))))))
      (pss_cons (ps_set (i := 7) sc_filed.nd rfl (.inl rfl) (pe_op op_addS (pe_op op_addS (bmK K PySem.F.plainAttrs_str PySem.F.slot_str_ljust PySem.F.type_str_ljust mt_ljustQ (pv 1) (pa_cons pe_int pa_nil)) (bmK K PySem.F.plainAttrs_str PySem.F.slot_str_zfill PySem.F.type_str_zfill mt_zfillQ (pe_callTy (call_strI) (by rfl) T.n_str (by decide +kernel) (pa_cons (pv 2) pa_nil)) (pa_cons pe_int pa_nil))) (pv 3)))
      (pss_cons (ps_set (i := 8) sc_filed.nd rfl (.inl rfl) (pe_ifExp (pt_cmpR op_isNq (pv 5) pe_non (nomark _)) (pe_gs rfl T.c_NO_YEAR) (pe_callTy (call_strI) (by rfl) T.n_str (by decide +kernel) (pa_cons (pv 5) pa_nil))))
      (pss_one (ps_ret (joinK K pe_str (pe_lst (pa_cons (pv 7) (starK K (pv 4) (pa_cons (pe_op op_addS (pv 8) (pe_call (ok_filed_copy T) (hr.mono (by decide)) rfl T.g_filed_copy T.F_filed_copy.kp T.b_filed_copy .nil pass0 (pa_cons (pv 6) pa_nil))) pa_nil)))))))))), ?_⟩
    have ok := (s.mark hx).2
    have hn := ok.n
    have hnl : m.num.natAbs.log2 < 1920 := log_s (by omega) (by omega)
    have hl3 : (m.lt.length : Int) ≤ 3 := letters_len ok.l
    have hpz : m.pts.length ≤ 1000 := ok.pz
    have hks : ∀ k ∈ m.mks, k.length ≤ 1000 := fun k h => (ok.ks k h).2
    have hk3 : m.mks.length ≤ 3 := ok.k
    have la : (⟨(sg m.lt ++ List.replicate (3 - (sg m.lt).length) 32).toArray⟩ : Str).length ≤ 3 := by
      show (List.toArray _).size ≤ 3
      rw [List.size_toArray, List.length_append, List.length_replicate, sg_len]
      omega
    have lz : (⟨(padz 4 m.num).toArray⟩ : Str).length ≤ 4 := by
      show (List.toArray _).size ≤ 4
      rw [List.size_toArray, padz_len (dg_len 3 (by omega) (by omega))]
      exact Nat.le_refl _
    have hh : sg ((⟨(sg m.lt ++ List.replicate (3 - (sg m.lt).length) 32).toArray⟩ : Str) ++ (⟨(padz 4 m.num).toArray⟩ : Str) ++ m.pts) = pad3 (sg m.lt) ++ padz 4 m.num ++ sg m.pts := by rw [sg_app, sg_app]; rfl
    have hy : ∀ y, m.yr = some y → y.natAbs.log2 < 1920 := fun y h => log_s (by have := (ok.y y h).1; omega) (by have := (ok.y y h).2; omega)
    have hc : ∀ y, m.cp = some y → 2 ≤ y ∧ y.natAbs.log2 < 1920 := fun y h => ok.c y h
    have h4 : (Str.ofString "0000").length = 4 := by decide +kernel
    have hcl := cpT_len hc
    have hH : ((⟨(sg m.lt ++ List.replicate (3 - (sg m.lt).length) 32).toArray⟩ : Str) ++ (⟨(padz 4 m.num).toArray⟩ : Str) ++ m.pts).length ≤ 1010 := by rw [len_app, len_app]; omega
    kxt_pos
    kopn_word
    · rename_i s2 _ hyn
      generalize (⟨(sg m.lt ++ List.replicate (3 - (sg m.lt).length) 32).toArray⟩ : Str) ++ (⟨(padz 4 m.num).toArray⟩ : Str) ++ m.pts = h at hh hH ⊢
      unfold StX.tStar
      kopn_word
      refine g_starB s2 List.mem_cons_self ?_
      kopn_word
      refine use_fcp s2 hc fun H3 s3 => ?_
      kopn_word
      refine g_newL s3 knl_fil (by simp; omega) fun r H4 s4 => ?_
      refine g_joinL s4 List.mem_cons_self (fil_szz hH (by rw [len_app]; omega) hks hk3) ?_
      rw [join_fil hh (by rw [sg_app]; rw [hyn]; rfl)]
      exact kk _ (by kt_ors)
    · rename_i s2 _ y hyy
      generalize (⟨(sg m.lt ++ List.replicate (3 - (sg m.lt).length) 32).toArray⟩ : Str) ++ (⟨(padz 4 m.num).toArray⟩ : Str) ++ m.pts = h at hh hH ⊢
      rw [hyy]
      refine g_strI (hy y hyy) fun hyl => ?_
      unfold StX.tStar
      kopn_word
      refine g_starB s2 List.mem_cons_self ?_
      kopn_word
      refine use_fcp s2 hc fun H3 s3 => ?_
      kopn_word
      refine g_newL s3 knl_fil (by simp; omega) fun r H4 s4 => ?_
      refine g_joinL s4 List.mem_cons_self (fil_szz hH (by rw [len_app]; omega) hks hk3) ?_
      rw [join_fil hh (by rw [sg_app]; rw [hyy]; rfl)]
      exact kk _ (by kt_ors)
end

/-! ### the law's reading of a filed text: its small pieces -/
def valI (s : Str) : Int := if figuresOk s then ((PySem.NumText.digitsVal (sg s) : Nat) : Int) else -1
def spVal (K : PySem.W.Frag) (C : Addr) : Sp := fun vs H Q _ => ∃ (t : Str) (Φ : List (V × W)) (mt : List (Addr × (HO → Prop))), vs = [.str t] ∧ t.length ≤ 600 ∧ S K C H Φ mt ∧ ∀ H', S K C H' Φ mt → Q (.int (valI t)) H'
def spEnd (K : PySem.W.Frag) (C : Addr) : Sp := fun vs H Q _ => ∃ (t : Str) (Φ : List (V × W)) (mt : List (Addr × (HO → Prop))), vs = [.str t] ∧ t.length ≤ 600 ∧ S K C H Φ mt ∧ ∀ H', S K C H' Φ mt → Q (.bl (endedOk t)) H'
def spSign (K : PySem.W.Frag) (C : Addr) : Sp := fun vs H Q _ => ∃ (b : Addr) (Φ : List (V × W)) (mt : List (Addr × (HO → Prop))), vs = [.ref b] ∧ (b, IsBox) ∈ mt ∧ S K C H Φ mt ∧ ∀ c H', S K C H' Φ mt → Q (.str (one c)) H'
def spSpl (K : PySem.W.Frag) (C : Addr) : Sp := fun vs H Q _ => ∃ (t : Str) (i j : Int) (x : Str) (Φ : List (V × W)) (mt : List (Addr × (HO → Prop))), vs = [.str t, .int i, .int j, .str x] ∧ t.length ≤ 90000 ∧ x.length = 1 ∧ 0 ≤ j ∧ S K C H Φ mt ∧ ∀ (u : Str) H', u.length ≤ t.length + 1 → S K C H' Φ mt → Q (.str u) H'
theorem len_c1 (t : Str) {k : Int} (h : 0 ≤ k) (h2 : k ≤ t.length) : ((cutS t none (some k)).length : Int) = k := by
  rw [len_cutQ]
  unfold HT.sIx
  dsimp only
  rw [if_neg (by omega)]
  omega
theorem len_c2 (t : Str) {k : Int} (h : 0 ≤ k) : ((cutS t (some k) none).length : Int) = max 0 ((t.length : Int) - k) := by
  rw [len_cutQ]
  unfold HT.sIx
  dsimp only
  rw [if_neg (by omega)]
  omega
theorem len_c3 (t : Str) {k : Int} (h : 0 ≤ k) : ((cutS t (some k) (some (k + 2))).length : Int) ≤ min 2 (max 0 ((t.length : Int) - k)) := by
  rw [len_cutQ]
  unfold HT.sIx
  dsimp only
  rw [if_neg (by omega), if_neg (by omega)]
  omega
def rsT (t : Str) : Str := Txt.rstripChars t (Str.ofString " ")
def letL (t : Str) : Bool := decide ((t.length : Int) = 3) && lettersOk (rsT t) 3
def spLetL (K : PySem.W.Frag) (C : Addr) : Sp := fun vs H Q _ => ∃ (t : Str) (Φ : List (V × W)) (mt : List (Addr × (HO → Prop))), vs = [.str t] ∧ t.length ≤ 600 ∧ S K C H Φ mt ∧ ∀ H', S K C H' Φ mt → Q (.bl (letL t)) H'
theorem sg_rsT (t : Str) : sg (rsT t) = stripE 32 (sg t) := by
  unfold rsT
  rw [show Str.ofString " " = one 32 by decide +kernel, sg_rstrip]
theorem strip_len (t : Str) : (rsT t).length ≤ t.length := by
  obtain ⟨k, e1, e2⟩ := stripE_split 32 (sg t)
  have h3 : (rsT t).length = (stripE 32 (sg t)).length := by rw [← sg_rsT, sg_len]
  have := congrArg List.length e1
  rw [List.length_append, sg_len] at this
  omega
section
variable {K : PySem.W.Frag} {C : Addr} {H : Hp} {Φ : List (V × W)} {mt : List (Addr × (HO → Prop))} {Q : VK} {x : Str} {p : Addr} {E : XK} {t : Str} {σ σ0 : L2.St} {i : Nat} {vs : List Nat} {te : TE}
theorem g_lcSB {σ1 : V → L2.St} (f : Nat → Bool) (s : S K C H Φ mt) (hz : x.length < 100000) (hw : Wp σ vs σ0) (hs : ∀ v, SetAt σ0 i (some v) (σ1 v)) (hw2 : ∀ v, Wp (σ1 v) vs σ0)
    (body : ∀ c X H', c ∈ sg x → S K C H' Φ (X :: mt) → ∀ N : VK, (∀ H'', S K C H'' Φ (X :: mt) → N (.bl (f c)) H'') → te (σ1 (.str (one c))) H' N)
    (k : ∀ D H', S K C H' ((.ref D, .l (((sg x).map f).map W.b)) :: Φ) mt → Q (.ref D) H') : LcW (Its x) (gName i) tYes te vs σ H Q := by
  have hw := hw.h
  subst hw
  intro D hD
  have hzz : (sg x).length = x.cps.size := Array.length_toList
  have hx : (sg x).length = x.length := sg_len x
  refine ⟨fun j m H' => m = x.cps.size - j ∧ j ≤ x.cps.size ∧ S K C H' Φ ((D, Eq (.lst ((((sg x).take j).map f).map V.bl))) :: mt), ⟨_, rfl, Nat.zero_le _, by rw [List.take_zero]; exact s.addM hD (Ex.new hD) upd_same rfl⟩, ?_⟩
  rintro j m H1 ⟨rfl, hi, s1⟩
  by_cases hlt : j < x.cps.size
  · refine .inr ⟨hlt, fun H' => S K C H' Φ ((D, Eq (.lst ((((sg x).take (j + 1)).map f).map V.bl))) :: mt), fun H' p' => ⟨x.cps.size - (j + 1), by omega, rfl, hlt, p'⟩, fun v H' y => ?_⟩
    obtain ⟨e, c, hc, rfl⟩ := y
    subst e
    have hcj : (sg x)[j]? = some c := by rw [Array.getElem?_toList]; exact hc
    have ht : (sg x).take (j + 1) = (sg x).take j ++ [c] := by rw [List.take_add_one, hcj]; rfl
    have hl : ((((sg x).take j).map f).map V.bl).length ≤ j := by
      rw [List.length_map, List.length_map, List.length_take]
      omega
    unfold gName
    rw [(hs (V.str (⟨#[c]⟩ : Str))).h]
    refine ⟨(hw2 _).h, ?_⟩
    show te _ _ _
    refine body c _ _ (List.mem_of_getElem? hcj) s1 _ fun H2 s2 => ?_
    refine ⟨_, s2.at List.mem_cons_self, sz_lt (by omega), ?_⟩
    rw [ht, List.map_append, List.map_append]
    exact s2.set .hd rfl
  · have e : (sg x).take j = sg x := List.take_of_length_le (by omega)
    rw [e] at s1
    exact .inl ⟨by show x.cps.size ≤ _; omega, k D H1 (s1.fixL .hd (.is _ V.bl W.b fun c _ => .b _))⟩
instance {R : L2.It → Hp → Prop} : St1 (iStr te σ H R) (te σ H fun v H1 => ∃ x, v = .str x ∧ R (Its x) H1) := ⟨fun h => h⟩
theorem S.sqBls {bs : List Bool} (s : S K C H Φ mt) (h : (.ref p, .l (bs.map W.b)) ∈ Φ) : SqL K H p (bs.map V.bl) := by
  cases s.rep (.f h) with
  | l hq hr =>
    have e : ∀ {vs : List V} {bs : List Bool}, RepL K C H vs (bs.map W.b) → vs = bs.map V.bl := fun {vs} {bs} => by
      intro hr
      induction bs generalizing vs with
      | nil => cases hr; rfl
      | cons b bs ih =>
        cases hr with
        | cons h hr =>
          cases h
          rw [ih hr]
          rfl
    obtain rfl := e hr
    exact sq_of hq
theorem g_all {bs : List Bool} (s : S K C H Φ mt) (h : (.ref p, .l (bs.map W.b)) ∈ Φ) (k : Q (.bl (bs.all id)) H) : rAll K [.ref p] H Q := ⟨p, bs, rfl, s.sqBls h, k⟩
theorem all_figs (t : Str) : (((sg t).map fun c => decide (c ∈ sg sFIG)).all id) = allIn t sFIG := by
  unfold allIn
  rw [List.all_map]
  rfl
theorem g_ixE (hz : t.length ≤ 90000) (h : 1 ≤ t.length) (k : ∀ c, (decide ((⟨#[c]⟩ : Str) = "0")) = Txt.endswith t "0" → Q (.str ⟨#[c]⟩) H) : rIxS (.str t) (.int (-1)) H Q := by
  obtain ⟨c, hc, he⟩ := last_of h
  exact ⟨t, -1, c, rfl, rfl, sz_of (by omega), hc, k c he⟩
theorem valI_pos : 0 ≤ valI t ↔ figuresOk t = true := by
  unfold valI
  cases h : figuresOk t with
  | false => rw [if_neg (by decide)]; constructor <;> intro h <;> first | omega | cases h
  | true => rw [if_pos rfl]; constructor <;> intro h <;> first | rfl | omega
theorem fig_len (h : figuresOk t = true) : 1 ≤ t.length := by
  have e : ¬ t = ("" : Str) := by
    intro e
    subst e
    exact absurd h (by decide +kernel)
  rcases Nat.eq_zero_or_pos t.length with h0 | h0
  · exact absurd (str_ext (List.eq_nil_of_length_eq_zero (by rw [sg_len]; exact h0))) e
  · exact h0
theorem use_val (s : S K C H Φ mt) (h : t.length ≤ 600) (k : ∀ H', S K C H' Φ mt → Q (.int (valI t)) H') : spVal K C [.str t] H Q E := ⟨t, Φ, mt, rfl, h, s, k⟩
theorem use_end (s : S K C H Φ mt) (h : t.length ≤ 600) (k : ∀ H', S K C H' Φ mt → Q (.bl (endedOk t)) H') : spEnd K C [.str t] H Q E := ⟨t, Φ, mt, rfl, h, s, k⟩
theorem use_letL (s : S K C H Φ mt) (h : t.length ≤ 600) (k : ∀ H', S K C H' Φ mt → Q (.bl (letL t)) H') : spLetL K C [.str t] H Q E := ⟨t, Φ, mt, rfl, h, s, k⟩
end
instance : SL "0123456789 abc" 14 := ⟨by decide +kernel⟩
instance : SL " !\"#$&'()*+,-./0123456789:;<=>?@ABCDEFGHIJKLMNOPQRSTUVWXYZ[\\]^_`abcdefghijklmnopqrstuvwxyz{|}~\n" 95 := ⟨by decide +kernel⟩
section
variable {P : Program} {w : World} {K : PySem.W.Frag} {mg : Str → Option Value} {base : Heap} {Z : Adr} {C : Addr}
theorem ok_l_value (T : Txt K mg Z) : FnOk P w K mg base CX0 1 Z.a_l_value Z.d_l_value ["_law_signs"] (spVal K Z.C_Mark) := by
  refine T.F_l_value.ok sc_l_value (fun vs H Q E h => ?_) (fun cdv A outer s H vs Q E hr h => ?_)
  · obtain ⟨_, _, _, rfl, _⟩ := h; rfl
  · obtain ⟨t, Φ, mt, rfl, hz, s, kk⟩ := h
    refine ⟨_, (pss_cut (ps_if (PW.pt (pw_or (pt_cmpR op_eq (pv 0) pe_str (nomark _)) (pw_or1 (pt_not (pt_val (pe_callB (allK K rfl) (by rfl) T.n_all (by decide +kernel) (pa_cons (pe_lc (own := [("_law_sign_here", 1)]) (g := gName 1) (tt := tYes) rfl sc_l_value.nd (pi_str (pv 0)) (blkOk_by (own := [("_law_sign_here", 1)]) (N := ["_law_signs", "_law_sign_here"]) (sc := defScope s_l_value) (by decide +kernel)) (fun _ _ _ _ _ => (pg_name (i := 1) sc_l_value.nd rfl (.inl rfl))) (fun _ _ _ _ _ => pts_nil) (fun _ _ _ _ _ => (pe_cmpR op_inq (pv 1) pe_str (by rfl)))) pa_nil))))))) (pss_one (ps_ret (pe_un un_neg pe_int))) pss_nil)
      (pss_one (ps_ret (pe_callTy (call_intS) (by rfl) T.n_int (by decide +kernel) (pa_cons (pv 0) pa_nil))))), ?_⟩
    kxt_pos
    refine g_cut ?_
    kopn_word
    · rename_i e0
      rw [e0] at kk
      exact kk H s
    · rename_i e0
      refine g_lcSB (fun c => decide (c ∈ sg sFIG)) s (by omega) (by infer_instance) (fun _ => by infer_instance) (fun _ => by infer_instance) (fun c X H1 hc s5 N hN => ?_) (fun D H1 s5 => ?_)
      · kopn_word
        exact hN _ s5
      · kopn_word
        refine g_all s5 List.mem_cons_self ?_
        rw [all_figs]
        have e1 : figuresOk t = allIn t sFIG := by unfold figuresOk; rw [decide_eq_false e0]; rfl
        cases hf : allIn t sFIG with
        | false =>
          kopn_word
          have e : valI t = -1 := by unfold valI; rw [e1, hf]; rfl
          rw [e] at kk
          exact kk _ (by kt_ors)
        | true =>
          have hF : FigS t := allIn_iff.mp hf
          have e : valI t = ((PySem.NumText.digitsVal (sg t) : Nat) : Int) := by unfold valI; rw [e1, hf]; rfl
          rw [e] at kk
          kopn_word
          refine ⟨_, _, rfl, intText_fig hF ?_ (by omega), by omega, kk _ (by kt_ors)⟩
          intro h
          exact e0 (str_ext (by rw [h]; rfl))
theorem ok_l_ending (T : Txt K mg Z) : FnOk P w K mg base CX0 2 Z.a_l_ending Z.d_l_ending ["_law_signs"] (spEnd K Z.C_Mark) := by
  refine T.F_l_ending.ok sc_l_ending (fun vs H Q E h => ?_) (fun cdv A outer s H vs Q E hr h => ?_)
  · obtain ⟨_, _, _, rfl, _⟩ := h; rfl
  · obtain ⟨t, Φ, mt, rfl, hz, s, kk⟩ := h
    refine ⟨_, (pss_one (ps_ret (pe_and (pe_cmpR op_ge (pe_call (ok_l_value T) (hr.mono (by decide)) rfl T.g_l_value T.F_l_value.kp T.b_l_value .nil pass0 (pa_cons (pv 0) pa_nil)) pe_int (nomark _)) (pe_one (pe_cmpR op_ne (pe_ix ix_str (pv 0) (pe_un un_neg pe_int) (fun _ _ => rfl)) pe_str (nomark _)))))), ?_⟩
    kxt_pos
    kopn_word
    refine use_val s hz fun H2 s2 => ?_
    kopn_word
    · rename_i h0
      have hf := valI_pos.mp h0
      refine g_ixE (by omega) (fig_len hf) fun c hc => ?_
      kopn_word
      have e : endedOk t = !decide (V.str (⟨#[c]⟩ : Str) = V.str (Str.ofString "0")) := by
        unfold endedOk
        rw [hf, ← hc, show decide (V.str (⟨#[c]⟩ : Str) = V.str (Str.ofString "0")) = decide ((⟨#[c]⟩ : Str) = "0") from by simp]
        rfl
      rw [e] at kk
      exact kk _ (by kt_ors)
    · rename_i h0
      have hf : figuresOk t = false := Bool.eq_false_iff.mpr fun h => h0 (valI_pos.mpr h)
      have e : endedOk t = false := by unfold endedOk; rw [hf]; rfl
      rw [e] at kk
      exact kk _ (by kt_ors)
theorem ok_l_letters (T : Txt K mg Z) : FnOk P w K mg base CX0 1 Z.a_l_letters Z.d_l_letters ["_law_signs"] (spLetL K Z.C_Mark) := by
  refine T.F_l_letters.ok sc_l_letters (fun vs H Q E h => ?_) (fun cdv A outer s H vs Q E hr h => ?_)
  · obtain ⟨_, _, _, rfl, _⟩ := h; rfl
  · obtain ⟨t, Φ, mt, rfl, hz, s, kk⟩ := h
    refine ⟨_, (pss_cons (ps_set (i := 1) sc_l_letters.nd rfl (.inl rfl) (bmK K PySem.F.plainAttrs_str PySem.F.slot_str_rstrip PySem.F.type_str_rstrip mt_rstripChars (pv 0) (pa_cons pe_str pa_nil)))
      (pss_one (ps_ret (pe_and (pe_cmpR op_eq (pe_callB (call_lenS) (by rfl) T.n_len (by decide +kernel) (pa_cons (pv 0) pa_nil)) pe_int (nomark _)) (pe_and (pe_cmpR op_ne (pv 1) pe_str (nomark _)) (pe_one (pe_callB (allK K rfl) (by rfl) T.n_all (by decide +kernel) (pa_cons (pe_lc (own := [("_law_sign_here", 2)]) (g := gName 2) (tt := tYes) rfl sc_l_letters.nd (pi_str (pv 1)) (blkOk_by (own := [("_law_sign_here", 2)]) (N := ["_law_signs", "_law_word", "_law_sign_here"]) (sc := defScope s_l_letters) (by decide +kernel)) (fun _ _ _ _ _ => (pg_name (i := 2) sc_l_letters.nd rfl (.inl rfl))) (fun _ _ _ _ _ => pts_nil) (fun _ _ _ _ _ => (pe_cmpR op_inq (pv 2) pe_str (by rfl)))) pa_nil)))))))), ?_⟩
    kxt_pos
    kopn_word
    refine ⟨t, _, rfl, rfl, sz_of (by omega), ?_⟩
    have hb : sg (Txt.rstripChars t (Str.ofString " ")) = stripE 32 (sg t) := by rw [show Str.ofString " " = one 32 by decide +kernel, sg_rstrip]
    have hul : (Txt.rstripChars t (Str.ofString " ")).length ≤ t.length := strip_len t
    change ∀ H', _ → Q (.bl (decide ((t.length : Int) = 3) && lettersOk (Txt.rstripChars t (Str.ofString " ")) 3)) H' at kk
    generalize Txt.rstripChars t (Str.ofString " ") = u at hb hul kk
    kopn_word
    · rename_i h3 h0
      have e : lettersOk u 3 = false := by rw [h0]; decide +kernel
      rw [e, Bool.and_false] at kk
      exact kk _ s
    · rename_i h3 h0
      refine g_lcSB (fun c => decide (c ∈ sg sABC)) s (by omega) (by infer_instance) (fun _ => by infer_instance) (fun _ => by infer_instance) (fun c X H1 hc s5 N hN => ?_) (fun D H1 s5 => ?_)
      · kopn_word
        exact hN _ s5
      · kopn_word
        refine g_all s5 List.mem_cons_self ?_
        have hne : 1 ≤ u.length := by
          rcases Nat.eq_zero_or_pos u.length with h1 | h1
          · exact absurd (str_ext (List.eq_nil_of_length_eq_zero (by rw [sg_len]; exact h1))) h0
          · exact h1
        have e : (decide ((t.length : Int) = 3) && lettersOk u 3) = ((sg u).map fun c => decide (c ∈ sg sABC)).all id := by
          unfold lettersOk
          rw [decide_eq_true h3, decide_eq_true (by omega), decide_eq_true (by omega), List.all_map]
          rfl
        rw [e] at kk
        exact kk _ (by kt_ors)
    · rename_i h3
      rw [decide_eq_false h3, Bool.false_and] at kk
      exact kk _ s
theorem ok_l_sign (T : Txt K mg Z) : FnOk P w K mg base CX0 3 Z.a_l_sign Z.d_l_sign ["_law_pool_here"] (spSign K Z.C_Mark) := by
  refine T.F_l_sign.ok sc_l_sign (fun vs H Q E h => ?_) (fun cdv A outer s H vs Q E hr h => ?_)
  · obtain ⟨_, _, _, rfl, _⟩ := h; rfl
  · obtain ⟨b, Φ, mt, rfl, hb, s, kk⟩ := h
    refine ⟨_, (pss_cons (ps_set (i := 1) sc_l_sign.nd rfl (.inl rfl) pe_str)
      (pss_cons (ps_if (pt_cmpR op_eq (pe_call (ok_l_take T) (hr.mono (by decide)) rfl T.g_l_take T.F_l_take.kp T.b_l_take .nil pass0 (pa_cons (pv 0) (pa_cons pe_int pa_nil))) pe_int (nomark _)) (pss_one (ps_ret (pe_ix ix_str pe_str (pe_call (ok_l_take T) (hr.mono (by decide)) rfl T.g_l_take T.F_l_take.kp T.b_l_take .nil pass0 (pa_cons (pv 0) (pa_cons pe_int pa_nil))) (fun _ _ => rfl)))) pss_nil)
      (pss_one (ps_ret (pe_ix ix_str (pv 1) (pe_call (ok_l_take T) (hr.mono (by decide)) rfl T.g_l_take T.F_l_take.kp T.b_l_take .nil pass0 (pa_cons (pv 0) (pa_cons pe_int pa_nil))) (fun _ _ => rfl)))))), ?_⟩
    kxt_pos
    kopn_word
    all_goals exact kk _ _ (by kt_ors)
theorem ok_l_spoilt (T : Txt K mg Z) : FnOk P w K mg base CX0 1 Z.a_l_spoilt Z.d_l_spoilt ["_law_signs", "_law_way", "_law_place", "_law_sign_here"] (spSpl K Z.C_Mark) := by
  refine T.F_l_spoilt.ok sc_l_spoilt (fun vs H Q E h => ?_) (fun cdv A outer s H vs Q E hr h => ?_)
  · obtain ⟨_, _, _, _, _, _, rfl, _⟩ := h; rfl
  · obtain ⟨t, i, j, x, Φ, mt, rfl, hz, hx, hj, s, kk⟩ := h
    refine ⟨_, (pss_cons (ps_set (i := 4) sc_l_spoilt.nd rfl (.inl rfl) (pe_op op_modN (pv 2) (pe_op op_add (pe_callB (call_lenS) (by rfl) T.n_len (by decide +kernel) (pa_cons (pv 0) pa_nil)) pe_int)))
      (pss_cons (ps_if (pt_cmpR op_eq (pv 1) pe_int (nomark _)) (pss_one (ps_ret (pe_op op_addS (pe_op op_addS (pe_slice sl_str (pv 0) po_none (po_some (pv 4))) (pv 3)) (pe_slice sl_str (pv 0) (po_some (pv 4)) po_none)))) pss_nil)
      (pss_cons (ps_if (pt_cmpR op_eq (pv 1) pe_int (nomark _)) (pss_one (ps_ret (pe_op op_addS (pe_slice sl_str (pv 0) po_none (po_some (pv 4))) (pe_slice sl_str (pv 0) (po_some (pe_op op_add (pv 4) pe_int)) po_none)))) pss_nil)
      (pss_cons (ps_if (pt_cmpR op_eq (pv 1) pe_int (nomark _)) (pss_one (ps_ret (pe_op op_addS (pe_op op_addS (pe_slice sl_str (pv 0) po_none (po_some (pv 4))) (pv 3)) (pe_slice sl_str (pv 0) (po_some (pe_op op_add (pv 4) pe_int)) po_none)))) pss_nil)
      (pss_cons (ps_if (pt_cmpR op_eq (pv 1) pe_int (nomark _)) (pss_cons (ps_set (i := 5) sc_l_spoilt.nd rfl (.inl rfl) (pe_slice sl_str (pv 0) (po_some (pv 4)) (po_some (pe_op op_add (pv 4) pe_int))))
      (pss_one (ps_ret (pe_op op_addS (pe_op op_addS (pe_slice sl_str (pv 0) po_none (po_some (pv 4))) (pe_revS (pv 5))) (pe_slice sl_str (pv 0) (po_some (pe_op op_add (pv 4) pe_int)) po_none))))) pss_nil)
      (pss_one (ps_ret (pe_slice sl_str (pv 0) po_none (po_some (pv 4)))))))))), ?_⟩
    have hk0 : 0 ≤ j.fmod ((t.length : Int) + 1) := Int.fmod_nonneg_of_pos _ (by omega)
    have hk1 : j.fmod ((t.length : Int) + 1) < (t.length : Int) + 1 := Int.fmod_lt_of_pos _ (by omega)
    kxt_pos
    kopn_word
    all_goals generalize j.fmod ((t.length : Int) + 1) = k at hk0 hk1 ⊢
    all_goals have a1 := len_c1 t hk0 (by omega)
    all_goals have a2 := len_c2 t hk0
    all_goals have a3 := len_c2 t (k := k + 1) (by omega)
    all_goals have a4 := len_c2 t (k := k + 2) (by omega)
    all_goals have a5 := len_c3 t hk0
    · refine g_strAdd (by omega) ?_
      kopn_word
      exact kk _ _ (by rw [len_app, len_app]; omega) s
    · refine g_strAdd (by omega) ?_
      exact kk _ _ (by rw [len_app]; omega) s
    · refine g_strAdd (by omega) ?_
      kopn_word
      exact kk _ _ (by rw [len_app, len_app]; omega) s
    · have a6 : (⟨(sg (cutS t (some k) (some (k + 2)))).reverse.toArray⟩ : Str).length = (cutS t (some k) (some (k + 2))).length := by
        rw [← sg_len, ← sg_len]
        exact List.length_reverse ..
      refine g_revS (by omega) ?_
      refine g_strAdd (by omega) ?_
      kopn_word
      exact kk _ _ (by rw [len_app, len_app]; omega) s
    · exact kk _ _ (by omega) s
end

/-! ### texts cut at one sign -/
section
open PySem.Builtin.Str PySem.StrLaws
def posn (c : Nat) (cs : List Nat) (a n : Nat) : List Nat := (List.range' a n).filter fun i => decide (cs[i]? = some c)
theorem occ_go (x : Str) (c L : Nat) : ∀ (n a : Nat) (arr : Array Nat) (free : Nat), free ≤ a → (forIn (List.range' a n) (arr, free) (occBody x ⟨#[c]⟩ x.length L)).run.fst.toList = arr.toList ++ (posn c (sg x) a n).take (L - arr.size)
  | 0, a, arr, free, _ => by simp [posn]
  | n + 1, a, arr, free, hf => by
    rw [List.range'_succ, List.forIn_cons]
    have hone := subAt_one x c a
    unfold posn
    rw [List.range'_succ]
    by_cases hc : (sg x)[a]? = some c
    · obtain ⟨h1, h2⟩ := hone.mpr hc
      rw [List.filter_cons_of_pos (by simpa using hc)]
      by_cases hL : arr.size < L
      · unfold occBody
        rw [if_pos ⟨⟨⟨hL, hf⟩, h1⟩, h2⟩]
        have ih := occ_go x c L n (a + 1) (arr.push a) (a + (⟨#[c]⟩ : Str).length) (Nat.le_refl _)
        have e : L - arr.size = (L - (arr.push a).size) + 1 := by rw [Array.size_push]; omega
        rw [e, List.take_succ_cons]
        refine ih.trans ?_
        rw [Array.toList_push, List.append_assoc]
        rfl
      · unfold occBody
        rw [if_neg (fun z => hL z.1.1.1)]
        have ih := occ_go x c L n (a + 1) arr free (by omega)
        refine ih.trans ?_
        rw [show L - arr.size = 0 by omega, List.take_zero, List.take_zero]
    · rw [List.filter_cons_of_neg (by simpa using hc)]
      unfold occBody
      rw [if_neg (fun z => hc (hone.mp ⟨z.1.2, z.2⟩))]
      exact occ_go x c L n (a + 1) arr free (by omega)
theorem occ_one (x : Str) (c L : Nat) : occurrences x ⟨#[c]⟩ 0 x.length L = (posn c (sg x) 0 (x.length + 1)).take L := by
  rw [occ_eq, occ_go x c L _ 0 #[] 0 (Nat.le_refl _)]
  simp
theorem posn_mem {c : Nat} {cs : List Nat} {a n i : Nat} : i ∈ posn c cs a n ↔ (a ≤ i ∧ i < a + n) ∧ cs[i]? = some c := by
  unfold posn
  rw [List.mem_filter, List.mem_range'_1, decide_eq_true_eq]
theorem posn_lt (c : Nat) (cs : List Nat) (a n : Nat) : (posn c cs a n).Pairwise (· < ·) := (List.pairwise_lt_range' (s := a) (n := n)).filter _
theorem posn_len (c : Nat) (cs : List Nat) (a n : Nat) : (posn c cs a n).length ≤ n := by
  have := List.length_filter_le (fun i => decide (cs[i]? = some c)) (List.range' a n)
  rw [List.length_range'] at this
  exact this
theorem sg_sub (x : Str) (a b : Nat) : sg (strSub x a b) = ((sg x).take b).drop a := by
  show (Array.extract _ _ _).toList = _
  rw [Array.toList_extract, List.extract_eq_take_drop, List.drop_take]
/-- no part between the cuts has the sign -/
theorem part_free {x : Str} {c : Nat} : ∀ w ∈ partsBetween x (posn c (sg x) 0 (x.length + 1)) 1, c ∉ sg w := by
  intro w hw hc
  unfold partsBetween at hw
  obtain ⟨⟨i, j⟩, hz, rfl⟩ := List.mem_map.mp hw
  obtain ⟨k, hk⟩ := List.mem_iff_getElem?.mp hz
  have hl := posn_lt c (sg x) 0 (x.length + 1)
  have hmem : ∀ t, t ∈ posn c (sg x) 0 (x.length + 1) ↔ (0 ≤ t ∧ t < 0 + (x.length + 1)) ∧ (sg x)[t]? = some c := fun t => posn_mem
  generalize posn c (sg x) 0 (x.length + 1) = cuts at hk hl hmem
  rw [List.getElem?_zip_eq_some] at hk
  obtain ⟨k1, k2⟩ := hk
  rw [sg_sub] at hc
  obtain ⟨t, ht⟩ := List.mem_iff_getElem?.mp hc
  rw [List.getElem?_drop, List.getElem?_take] at ht
  split at ht
  · rename_i hlt
    have hin : i + t ∈ cuts := (hmem _).mpr ⟨⟨Nat.zero_le _, by
      have := (List.getElem?_eq_some_iff.mp ht).1
      rw [sg_len] at this
      omega⟩, ht⟩
    obtain ⟨u, hu⟩ := List.mem_iff_getElem?.mp hin
    have hul := (List.getElem?_eq_some_iff.mp hu).1
    have hord : ∀ a b va vb, cuts[a]? = some va → cuts[b]? = some vb → a < b → va < vb := fun a b va vb ha hb hab => by
      obtain ⟨la, ea⟩ := List.getElem?_eq_some_iff.mp ha
      obtain ⟨lb, eb⟩ := List.getElem?_eq_some_iff.mp hb
      have := List.pairwise_iff_getElem.mp hl a b la lb hab
      omega
    rcases Nat.lt_or_ge u k with h | h
    · -- start is behind the cut k - 1
      obtain ⟨k', rfl⟩ : ∃ k', k = k' + 1 := ⟨k - 1, by omega⟩
      rw [List.getElem?_cons_succ, List.getElem?_map] at k1
      cases e : cuts[k']? with
      | none => rw [e] at k1; cases k1
      | some v =>
        rw [e] at k1
        have ei : v + 1 = i := by simpa using k1
        rcases Nat.lt_or_ge u k' with h2 | h2
        · have := hord u k' _ _ hu e h2
          omega
        · have : u = k' := by omega
          rw [this, e] at hu
          have := Option.some.inj hu
          omega
    · have hkl : k < cuts.length := by omega
      rw [List.getElem?_append_left hkl] at k2
      rcases Nat.lt_or_ge k u with h2 | h2
      · have := hord k u _ _ k2 hu h2
        omega
      · have : u = k := by omega
        rw [this, k2] at hu
        have := Option.some.inj hu
        omega
  · cases ht
theorem app_uniq {c : Nat} : ∀ {as bs xs ys : List Nat}, c ∉ as → c ∉ bs → (xs = [] ∨ ∃ r, xs = c :: r) → (ys = [] ∨ ∃ r, ys = c :: r) → as ++ xs = bs ++ ys → as = bs ∧ xs = ys
  | [], [], xs, ys, _, _, _, _, h => ⟨rfl, h⟩
  | [], b :: bs, xs, ys, _, hb, hx, _, h => by
    rcases hx with rfl | ⟨r, rfl⟩
    · cases h
    · rw [List.nil_append, List.cons_append] at h
      have := (List.cons.inj h).1
      subst this
      exact (hb List.mem_cons_self).elim
  | a :: as, [], xs, ys, ha, _, _, hy, h => by
    rcases hy with rfl | ⟨r, rfl⟩
    · cases h
    · rw [List.nil_append, List.cons_append] at h
      have := (List.cons.inj h).1
      subst this
      exact (ha List.mem_cons_self).elim
  | a :: as, b :: bs, xs, ys, ha, hb, hx, hy, h => by
    rw [List.cons_append, List.cons_append] at h
    obtain ⟨h1, h2⟩ := List.cons.inj h
    obtain ⟨h3, h4⟩ := app_uniq (fun z => ha (List.mem_cons_of_mem _ z)) (fun z => hb (List.mem_cons_of_mem _ z)) hx hy h2
    exact ⟨by rw [h1, h3], h4⟩
theorem flat_blank : ∀ ws : List Str, (ws.map fun x => 32 :: sg x).flatten = [] ∨ ∃ r, (ws.map fun x => 32 :: sg x).flatten = 32 :: r
  | [] => .inl rfl
  | w :: ws => .inr ⟨_, rfl⟩
theorem flat_uniq : ∀ {ws vs : List Str}, (∀ w ∈ ws, 32 ∉ sg w) → (∀ w ∈ vs, 32 ∉ sg w) → (ws.map fun x => 32 :: sg x).flatten = (vs.map fun x => 32 :: sg x).flatten → ws = vs
  | [], [], _, _, _ => rfl
  | [], v :: vs, _, _, h => by cases h
  | w :: ws, [], _, _, h => by cases h
  | w :: ws, v :: vs, hw, hv, h => by
    rw [List.map_cons, List.map_cons, List.flatten_cons, List.flatten_cons, List.cons_append, List.cons_append] at h
    obtain ⟨h1, h2⟩ := app_uniq (hw w List.mem_cons_self) (hv v List.mem_cons_self) (flat_blank ws) (flat_blank vs) (List.cons.inj h).2
    rw [str_ext h1, flat_uniq (fun x hx => hw x (List.mem_cons_of_mem _ hx)) (fun x hx => hv x (List.mem_cons_of_mem _ hx)) h2]
theorem join_uniq {w v : Str} {ws vs : List Str} (hw : ∀ x ∈ w :: ws, 32 ∉ sg x) (hv : ∀ x ∈ v :: vs, 32 ∉ sg x) (h : Str.join " " (w :: ws) = Str.join " " (v :: vs)) : w :: ws = v :: vs := by
  have h' := congrArg sg h
  rw [join_blank, join_blank] at h'
  obtain ⟨h1, h2⟩ := app_uniq (hw w List.mem_cons_self) (hv v List.mem_cons_self) (flat_blank ws) (flat_blank vs) h'
  rw [str_ext h1, flat_uniq (fun x hx => hw x (List.mem_cons_of_mem _ hx)) (fun x hx => hv x (List.mem_cons_of_mem _ hx)) h2]
/-- a joined text, split -/
theorem split_join {w : Str} {ws : List Str} (hw : ∀ x ∈ w :: ws, 32 ∉ sg x) : Txt.split (Str.join " " (w :: ws)) " " = w :: ws := by
  generalize hx : Str.join " " (w :: ws) = x
  have hb : (" " : Str) = ⟨#[32]⟩ := by decide +kernel
  have hp : (posn 32 (sg x) 0 (x.length + 1)).take (x.length + 1) = posn 32 (sg x) 0 (x.length + 1) := List.take_of_length_le (posn_len ..)
  have hall : Txt.split x " " = partsBetween x (posn 32 (sg x) 0 (x.length + 1)) 1 := by
    unfold Txt.split
    rw [hb, occ_one, hp]
    by_cases h0 : posn 32 (sg x) 0 (x.length + 1) = []
    · rw [h0]
      have e : partsBetween x [] 1 = [x] := by
        unfold partsBetween
        show [strSub x 0 x.length] = [x]
        rw [show strSub x 0 x.length = x from str_ext (by rw [sg_sub, List.drop_zero, ← sg_len, List.take_length])]
      rw [e]
      split <;> rfl
    · have hne : (posn 32 (sg x) 0 (x.length + 1)).isEmpty = false := by
        cases hq : posn 32 (sg x) 0 (x.length + 1) with
        | nil => exact (h0 hq).elim
        | cons => rfl
      have hk : (decide (x.length < (⟨#[32]⟩ : Str).length) || decide (Builtin.Str.strKind x < Builtin.Str.strKind ⟨#[32]⟩)) = false := by
        obtain ⟨i, hi⟩ := List.exists_mem_of_ne_nil _ h0
        have h2 := (posn_mem.mp hi).2
        have h3 := (List.getElem?_eq_some_iff.mp h2).1
        rw [sg_len] at h3
        have h4 : 1 ≤ Builtin.Str.strKind x := by unfold Builtin.Str.strKind; split; exact Nat.le_refl _; split <;> decide
        have h5 : Builtin.Str.strKind ⟨#[32]⟩ = 1 := by decide +kernel
        have h6 : (⟨#[32]⟩ : Str).length = 1 := rfl
        rw [h5, h6, decide_eq_false (by omega), decide_eq_false (by omega)]
        rfl
      rw [hk, hne]
      rfl
  rw [hall]
  have hg := glued_between_self x ⟨#[32]⟩ (x.length + 1)
  rw [occ_one, hp] at hg
  have hl1 : (⟨#[32]⟩ : Str).length = 1 := rfl
  rw [hl1, StrLaws.glued_eq_join, ← hb] at hg
  have hfree := @part_free x 32
  cases hq : partsBetween x (posn 32 (sg x) 0 (x.length + 1)) 1 with
  | nil =>
    have := length_partsBetween x (posn 32 (sg x) 0 (x.length + 1)) 1
    rw [hq] at this
    simp at this
  | cons v vs =>
    rw [hq] at hg hfree
    exact join_uniq hfree hw (hg.trans hx.symm)
end

/-! ### any text split at its blanks -/
theorem split_any (x : Str) : ∃ (w : Str) (ws : List Str), Txt.split x " " = w :: ws ∧ (∀ y ∈ w :: ws, 32 ∉ sg y) ∧ sg x = sg w ++ (ws.map fun x => 32 :: sg x).flatten := by
  have key : ∀ cs : List Nat, ∃ (w : Str) (ws : List Str), (∀ y ∈ w :: ws, 32 ∉ sg y) ∧ cs = sg w ++ (ws.map fun x => 32 :: sg x).flatten := by
    intro cs
    induction cs with
    | nil =>
      refine ⟨Str.empty, [], fun y hy => ?_, rfl⟩
      rw [List.mem_singleton.mp hy]
      intro z
      cases z
    | cons c cs ih =>
      obtain ⟨w, ws, h1, h2⟩ := ih
      by_cases hc : c = 32
      · subst hc
        refine ⟨Str.empty, w :: ws, fun y hy => ?_, ?_⟩
        · rcases List.mem_cons.mp hy with rfl | hy
          · exact fun z => by cases z
          · exact h1 y hy
        · rw [h2]; rfl
      · refine ⟨(⟨(c :: sg w).toArray⟩ : Str), ws, fun y hy => ?_, ?_⟩
        · rcases List.mem_cons.mp hy with rfl | hy
          · intro z
            rcases List.mem_cons.mp z with z | z
            · exact hc z.symm
            · exact h1 w List.mem_cons_self z
          · exact h1 y (List.mem_cons_of_mem _ hy)
        · rw [h2]; rfl
  obtain ⟨w, ws, h1, h2⟩ := key (sg x)
  have hx : x = Str.join " " (w :: ws) := str_ext (by rw [join_blank]; exact h2)
  exact ⟨w, ws, by rw [hx]; exact split_join h1, h1, h2⟩

/-! ### the law's reading of a filed text -/
def qSplit : V → List V → Hp → VK → Prop := fun x xs H Q => ∃ a b, x = .str a ∧ xs = [.str b] ∧ (b.length == 0) = false ∧ a.length + 2 ≤ sizeLine ∧ rNewStrs (Txt.split a b) H Q
theorem mt_splitQ : MtR X "str.split" qSplit := mt_split
section
variable {K : PySem.W.Frag} {C : Addr} {H : Hp} {Φ : List (V × W)} {mt : List (Addr × (HO → Prop))} {Q : VK} {t : Str} {E : XK}
theorem g_splitQ {a b : Str} (s : S K C H Φ mt) (hz : a.length ≤ 90000) (hb : (b.length == 0) = false) (q : ∀ p H', S K C H' ((.ref p, .l ((Txt.split a b).map W.s)) :: Φ) mt → Q (.ref p) H') : qSplit (.str a) [.str b] H Q :=
  ⟨a, b, rfl, rfl, hb, by rw [sizeLine_eq]; omega, fun p hp => q p _ (s.addL hp (Ex.new hp) upd_same (.is _ V.str W.s fun x _ => .s x))⟩
end
instance {r r' : R2} {ta tb tc : TE} {σ : L2.St} {H : Hp} {Q : VK} : St1 (tChain r r' ta tb tc σ H Q) (ta σ H fun x H1 => tb σ H1 fun y H2 => r x y H2 fun z H3 => ∃ k, z = .bl k ∧ if k = true then tc σ H3 fun w' H4 => r' y w' H4 Q else Q (.bl false) H3) := ⟨fun h => h⟩
def t3 (t : Str) : Str := cutS t none (some 3)
def t37 (t : Str) : Str := cutS t (some 3) (some 7)
def l4 (l : Str) : Str := cutS l none (some 4)
def l46 (l : Str) : Str := cutS l (some 4) (some 6)
def l6 (l : Str) : Str := cutS l (some 6) none
/-- the last word: year and copy, or none -/
def lastR (l : Str) : Option (Option Int × Option Int) :=
  if l.length < 6 ∨ valI (l46 l) ≠ (l.length : Int) - 6 ∨ valI (l46 l) < 0 then none
  else if valI (l4 l) ≠ 0 ∧ ¬ (1000 ≤ valI (l4 l) ∧ valI (l4 l) ≤ 2999) then none
  else if 0 < valI (l46 l) ∧ ((sg l)[6]? = some 48 ∨ valI (l6 l) < 2) then none
  else some (if valI (l4 l) = 0 then none else some (valI (l4 l)), if 0 < valI (l46 l) then some (valI (l6 l)) else none)
/-- the mark that is filed so, by the law's reading -/
def rdS (t : Str) : Option MK :=
  if letL (t3 t) = false ∨ ((t37 t).length : Int) ≠ 4 ∨ valI (t37 t) < 1 then none
  else match Txt.split (cutS t (some 7) none) (Str.ofString " ") with
  | [] => none
  | w :: ws => if ws.length < 1 ∨ 4 < ws.length ∨ pointsOk w = false ∨ ws.dropLast.all makerOk = false then none
    else (lastR (ws.getLast?.getD w)).map fun p => ⟨rsT (t3 t), valI (t37 t), w, ws.dropLast, p.1, p.2⟩
theorem rd_b {t w : Str} {ws : List Str} (h : ¬ (letL (t3 t) = false ∨ ((t37 t).length : Int) ≠ 4 ∨ valI (t37 t) < 1)) (hs : Txt.split (cutS t (some 7) none) (Str.ofString " ") = w :: ws) :
    rdS t = if ws.length < 1 ∨ 4 < ws.length ∨ pointsOk w = false ∨ ws.dropLast.all makerOk = false then none
    else (lastR (ws.getLast?.getD w)).map fun p => ⟨rsT (t3 t), valI (t37 t), w, ws.dropLast, p.1, p.2⟩ := by
  unfold rdS
  rw [if_neg h, hs]
section
variable {K : PySem.W.Frag} {C : Addr} {H : Hp} {Φ : List (V × W)} {mt : List (Addr × (HO → Prop))} {Q : VK} {p : Addr} {w : Str} {ws : List Str}
theorem ats_last : atI ((w :: ws).map W.s) (-1) = some (W.s (ws.getLast?.getD w)) := by
  rcases List.eq_nil_or_concat ws with rfl | ⟨ds, d, rfl⟩
  · exact atI_last [] (W.s w)
  · rw [List.concat_eq_append, List.getLast?_append, show (w :: (ds ++ [d])).map W.s = (w :: ds).map W.s ++ [W.s d] by simp, atI_last]
    rfl
theorem cutV_1m {v : V} {vs : List V} : cutV (v :: vs) (some 1) (some (-1)) = vs.dropLast := by
  have e : cutV (v :: vs) (some 1) (some (-1)) = ((v :: vs).drop (min 1 (vs.length + 1))).take ((-1 + ((vs.length + 1 : Nat) : Int)).toNat - min 1 (vs.length + 1)) := rfl
  rw [e, show min 1 (vs.length + 1) = 1 by omega, show (-1 + ((vs.length + 1 : Nat) : Int)).toNat - 1 = vs.length - 1 by omega, List.drop_succ_cons, List.drop_zero, List.dropLast_eq_take]
theorem at_head {α : Type} {x : α} {xs : List α} {y : α} (h : atI (x :: xs) 0 = some y) : y = x := by
  have e : atI (x :: xs) ((0 : Nat) : Int) = some x := atI_nat rfl
  exact Option.some.inj (h.symm.trans e)
theorem word_len {x y : Str} (h : sg x = sg w ++ (ws.map fun x => 32 :: sg x).flatten) (hy : y ∈ w :: ws) : y.length ≤ x.length := by
  have key : ∀ ws : List Str, y ∈ ws → y.length ≤ (ws.map fun x => 32 :: sg x).flatten.length := by
    intro ws
    induction ws with
    | nil => intro h; cases h
    | cons z ws ih =>
      intro h
      rw [List.map_cons, List.flatten_cons, List.length_append, List.length_cons, sg_len]
      rcases List.mem_cons.mp h with rfl | h
      · omega
      · have := ih h; omega
  rw [← sg_len x, h, List.length_append, sg_len]
  rcases List.mem_cons.mp hy with rfl | hy
  · omega
  · have := key ws hy; omega
theorem all_no {k : Str} {ks : List Str} (h : k ∈ ks) (e : makerOk k = false) : ks.all makerOk = false := by
  rw [List.all_eq_false]
  exact ⟨k, h, by rw [e]; decide⟩
theorem at_nil {xs : List Nat} {y : Nat} (h : atI xs 0 = some y) : xs[0]? = some y := by
  cases xs with
  | nil => cases h
  | cons x xs => rw [at_head h]; rfl
theorem at_six {xs : List Nat} {y : Nat} (h : atI xs 6 = some y) (h6 : 6 < xs.length) : xs[6]? = some y := by
  have e : atI xs ((6 : Nat) : Int) = some xs[6] := atI_nat (List.getElem?_eq_getElem h6)
  rw [List.getElem?_eq_getElem h6]
  exact (h.symm.trans e).symm
theorem one0 {c : Nat} (h : (⟨#[c]⟩ : Str) = Str.ofString "0") : c = 48 := by
  have e : [c] = [48] := (congrArg sg h).trans (by decide +kernel)
  exact List.cons.inj e |>.1
theorem fig_fs {x : Str} (h : figuresOk x = true) : FigS x := by
  unfold figuresOk at h
  rw [Bool.and_eq_true] at h
  exact allIn_iff.mp h.2
theorem g_intV {x : Str} (h : 0 ≤ valI x) (hl : x.length ≤ 600) (k : Q (.int (valI x)) H) : qIntS [.str x] H Q := by
  have hf := valI_pos.mp h
  have e : valI x = ((PySem.NumText.digitsVal (sg x) : Nat) : Int) := by unfold valI; rw [if_pos hf]
  rw [e] at k
  refine ⟨_, _, rfl, intText_fig (fig_fs hf) ?_ (by omega), by omega, k⟩
  intro z
  have := fig_len hf
  rw [← sg_len, z] at this
  exact absurd this (by decide)
theorem last_in (ws : List Str) : ws.getLast?.getD w ∈ w :: ws := by
  cases h : ws.getLast? with
  | none => exact List.mem_cons_self
  | some x => exact List.mem_cons_of_mem _ (List.mem_of_getLast? h)
theorem pts_end {x : Str} (h : ¬ x = Str.ofString "") : pointsOk x = endedOk x := by
  unfold pointsOk
  rw [decide_eq_false h, Bool.false_or]
theorem g_slIn (s : S K C H Φ mt) (h : (.ref p, .l ((w :: ws).map W.s)) ∈ Φ) (k : ∀ r H', S K C H' ((.ref r, .l (ws.dropLast.map W.s)) :: Φ) mt → Q (.ref r) H') : rSlL K (.ref p) (some 1) (some (-1)) H Q := by
  obtain ⟨vs, h1, h2, s1⟩ := s.open h
  obtain rfl := rep_strs (s1.repL (knl_zip h2))
  refine ⟨p, _, rfl, h1, fun r hr => k r _ ?_⟩
  rw [List.map_cons, cutV_1m, ← List.map_dropLast]
  exact s.addL hr (Ex.new hr) upd_same (.is _ V.str W.s fun x _ => .s x)
end
theorem lr_a {l : Str} (h : l.length < 6 ∨ valI (l46 l) ≠ (l.length : Int) - 6 ∨ valI (l46 l) < 0) : lastR l = none := if_pos h
theorem lr_b {l : Str} (h : ¬ (l.length < 6 ∨ valI (l46 l) ≠ (l.length : Int) - 6 ∨ valI (l46 l) < 0)) (h2 : valI (l4 l) ≠ 0 ∧ ¬ (1000 ≤ valI (l4 l) ∧ valI (l4 l) ≤ 2999)) : lastR l = none := by
  unfold lastR
  rw [if_neg h, if_pos h2]
theorem lr_c {l : Str} (h : ¬ (l.length < 6 ∨ valI (l46 l) ≠ (l.length : Int) - 6 ∨ valI (l46 l) < 0)) (h2 : ¬ (valI (l4 l) ≠ 0 ∧ ¬ (1000 ≤ valI (l4 l) ∧ valI (l4 l) ≤ 2999))) (h3 : 0 < valI (l46 l) ∧ ((sg l)[6]? = some 48 ∨ valI (l6 l) < 2)) : lastR l = none := by
  unfold lastR
  rw [if_neg h, if_neg h2, if_pos h3]
theorem lr_d {l : Str} (h : ¬ (l.length < 6 ∨ valI (l46 l) ≠ (l.length : Int) - 6 ∨ valI (l46 l) < 0)) (h2 : ¬ (valI (l4 l) ≠ 0 ∧ ¬ (1000 ≤ valI (l4 l) ∧ valI (l4 l) ≤ 2999))) (h3 : ¬ (0 < valI (l46 l) ∧ ((sg l)[6]? = some 48 ∨ valI (l6 l) < 2))) : lastR l = some (if valI (l4 l) = 0 then none else some (valI (l4 l)), if 0 < valI (l46 l) then some (valI (l6 l)) else none) := by
  unfold lastR
  rw [if_neg h, if_neg h2, if_neg h3]
def spRdL (K : PySem.W.Frag) (C : Addr) : Sp := fun vs H Q _ => ∃ (t : Str) (Φ : List (V × W)) (mt : List (Addr × (HO → Prop))), vs = [.str t] ∧ t.length ≤ 600 ∧ S K C H Φ mt ∧ (∀ H', rdS t = none → S K C H' Φ mt → Q .non H') ∧ ∀ m p H', rdS t = some m → S K C H' ((.ref p, m.row) :: Φ) mt → Q (.ref p) H'
section
variable {P : Program} {w : World} {K : PySem.W.Frag} {mg : Str → Option Value} {base : Heap} {Z : Adr} {C : Addr}
theorem ok_l_read (T : Txt K mg Z) : FnOk P w K mg base CX0 3 Z.a_l_read Z.d_l_read ["_law_signs"] (spRdL K Z.C_Mark) := by
  refine T.F_l_read.ok sc_l_read (fun vs H Q E h => ?_) (fun cdv A outer s H vs Q E hr h => ?_)
  · obtain ⟨_, _, _, rfl, _⟩ := h; rfl
  · obtain ⟨t, Φ, mt, rfl, hz, s, k0, k1⟩ := h
    refine ⟨_, (pss_cut (ps_if (PW.pt (pw_or (pt_not (pt_val (pe_call (ok_l_letters T) (hr.mono (by decide)) rfl T.g_l_letters T.F_l_letters.kp T.b_l_letters .nil pass0 (pa_cons (pe_slice sl_str (pv 0) po_none (po_some pe_int)) pa_nil)))) (pw_or (pt_cmpR op_ne (pe_callB (call_lenS) (by rfl) T.n_len (by decide +kernel) (pa_cons (pe_slice sl_str (pv 0) (po_some pe_int) (po_some pe_int)) pa_nil)) pe_int (nomark _)) (pw_or1 (pt_cmpR op_lt (pe_call (ok_l_value T) (hr.mono (by decide)) rfl T.g_l_value T.F_l_value.kp T.b_l_value .nil pass0 (pa_cons (pe_slice sl_str (pv 0) (po_some pe_int) (po_some pe_int)) pa_nil)) pe_int (nomark _)))))) (pss_one (ps_ret pe_non)) pss_nil)
      (pss_cons (ps_set (i := 1) sc_l_read.nd rfl (.inl rfl) (bmK K PySem.F.plainAttrs_str PySem.F.slot_str_split PySem.F.type_str_split mt_splitQ (pe_slice sl_str (pv 0) (po_some pe_int) po_none) (pa_cons pe_str pa_nil)))
      (pss_cons (ps_set (i := 2) sc_l_read.nd rfl (.inl rfl) (pe_ix (ixL K) (pv 1) (pe_un un_neg pe_int) (fun _ _ => rfl)))
      (pss_cut (ps_if (PW.pt (pw_or (pt_cmpR op_lt (pe_callB (lenQ K) (by rfl) T.n_len (by decide +kernel) (pa_cons (pv 1) pa_nil)) pe_int (nomark _)) (pw_or (pt_cmpR op_gt (pe_callB (lenQ K) (by rfl) T.n_len (by decide +kernel) (pa_cons (pv 1) pa_nil)) pe_int (nomark _)) (pw_or1 (PW.pt (pw_and (pt_cmpR op_ne (pe_ix (ixL K) (pv 1) pe_int (fun _ _ => rfl)) pe_str (nomark _)) (pw_and1 (pt_not (pt_val (pe_call (ok_l_ending T) (hr.mono (by decide)) rfl T.g_l_ending T.F_l_ending.kp T.b_l_ending .nil pass0 (pa_cons (pe_ix (ixL K) (pv 1) pe_int (fun _ _ => rfl)) pa_nil))))))))))) (pss_one (ps_ret pe_non)) pss_nil)
      (pss_cons (ps_for PassesOwn.never rfl (pi_list (pe_slice (slL K) (pv 1) (po_some pe_int) (po_some (pe_un un_neg pe_int)))) (pg_name (i := 3) sc_l_read.nd rfl (.inl rfl)) (pss_one (ps_if (PW.pt (pw_or (pt_cmpR op_eq (pv 3) pe_str (nomark _)) (pw_or (pt_cmpR op_notInq (pe_ix ix_str (pv 3) pe_int (fun _ _ => rfl)) pe_str (by rfl)) (pw_or1 (pt_not (pt_val (pe_call (ok_l_ending T) (hr.mono (by decide)) rfl T.g_l_ending T.F_l_ending.kp T.b_l_ending .nil pass0 (pa_cons (pe_slice sl_str (pv 3) (po_some pe_int) po_none) pa_nil)))))))) (pss_one (ps_ret pe_non)) pss_nil)))
      (pss_cons (ps_set (i := 4) sc_l_read.nd rfl (.inl rfl) (pe_call (ok_l_value T) (hr.mono (by decide)) rfl T.g_l_value T.F_l_value.kp T.b_l_value .nil pass0 (pa_cons (pe_slice sl_str (pv 2) po_none (po_some pe_int)) pa_nil)))
      (pss_cons (ps_set (i := 5) sc_l_read.nd rfl (.inl rfl) (pe_call (ok_l_value T) (hr.mono (by decide)) rfl T.g_l_value T.F_l_value.kp T.b_l_value .nil pass0 (pa_cons (pe_slice sl_str (pv 2) (po_some pe_int) (po_some pe_int)) pa_nil)))
      (pss_cut (ps_if (PW.pt (pw_or (pt_cmpR op_lt (pe_callB (call_lenS) (by rfl) T.n_len (by decide +kernel) (pa_cons (pv 2) pa_nil)) pe_int (nomark _)) (pw_or (pt_cmpR op_ne (pv 5) (pe_op op_sub (pe_callB (call_lenS) (by rfl) T.n_len (by decide +kernel) (pa_cons (pv 2) pa_nil)) pe_int) (nomark _)) (pw_or1 (pt_cmpR op_lt (pv 5) pe_int (nomark _)))))) (pss_one (ps_ret pe_non)) pss_nil)
      (pss_cut (ps_if (PW.pt (pw_and (pt_cmpR op_ne (pv 4) pe_int (nomark _)) (pw_and1 (pt_not (pt_chain op_le op_le pe_int (pv 4) pe_int))))) (pss_one (ps_ret pe_non)) pss_nil)
      (pss_cons (ps_set (i := 6) sc_l_read.nd rfl (.inl rfl) pe_non)
      (pss_cut (ps_if (pt_cmpR op_gt (pv 5) pe_int (nomark _)) (pss_cons (ps_set (i := 6) sc_l_read.nd rfl (.inl rfl) (pe_call (ok_l_value T) (hr.mono (by decide)) rfl T.g_l_value T.F_l_value.kp T.b_l_value .nil pass0 (pa_cons (pe_slice sl_str (pv 2) (po_some pe_int) po_none) pa_nil)))
      (pss_one (ps_if (PW.pt (pw_or (pt_cmpR op_eq (pe_ix ix_str (pv 2) pe_int (fun _ _ => rfl)) pe_str (nomark _)) (pw_or1 (pt_cmpR op_lt (pv 6) pe_int (nomark _))))) (pss_one (ps_ret pe_non)) pss_nil))) pss_nil)
      (pss_cut (ps_if (pt_cmpR op_eq (pv 4) pe_int (nomark _)) (pss_one (ps_set (i := 4) sc_l_read.nd rfl (.inl rfl) pe_non)) pss_nil)
      (pss_one (ps_ret (pe_lst (pa_cons (bmK K PySem.F.plainAttrs_str PySem.F.slot_str_rstrip PySem.F.type_str_rstrip mt_rstripChars (pe_slice sl_str (pv 0) po_none (po_some pe_int)) (pa_cons pe_str pa_nil)) (pa_cons (pe_callTy (call_intS) (by rfl) T.n_int (by decide +kernel) (pa_cons (pe_slice sl_str (pv 0) (po_some pe_int) (po_some pe_int)) pa_nil)) (pa_cons (pe_ix (ixL K) (pv 1) pe_int (fun _ _ => rfl)) (pa_cons (pe_slice (slL K) (pv 1) (po_some pe_int) (po_some (pe_un un_neg pe_int))) (pa_cons (pv 4) (pa_cons (pv 6) pa_nil))))))))))))))))))))), ?_⟩
    have hl3 : (cutS t none (some 3)).length ≤ 600 := Nat.le_trans (cut_leN _ _ _) hz
    have hl37 : (cutS t (some 3) (some 7)).length ≤ 600 := Nat.le_trans (cut_leN _ _ _) hz
    have hl7 : (cutS t (some 7) none).length ≤ 600 := Nat.le_trans (cut_leN _ _ _) hz
    obtain ⟨w0, ws, hsp, hw, hsg⟩ := split_any (cutS t (some 7) none)
    have hbl : ((Str.ofString " ").length == 0) = false := by decide +kernel
    kxt_pos
    refine g_cut ?_
    kopn_word
    refine use_letL s hl3 fun H1 s1 => ?_
    cases h1 : letL (cutS t none (some 3)) with
    | false =>
      kopn_word
      exact k0 _ (if_pos (.inl h1)) s1
    | true =>
      kopn_word
      rotate_left
      · rename_i h2
        exact k0 _ (if_pos (.inr (.inl h2))) s1
      rename_i h2
      refine use_val s1 hl37 fun H2 s2 => ?_
      kopn_word
      · rename_i h3
        exact k0 _ (if_pos (.inr (.inr h3))) s2
      rename_i h3
      have hA : ¬ (letL (t3 t) = false ∨ ((t37 t).length : Int) ≠ 4 ∨ valI (t37 t) < 1) := by
        rintro (h | h | h)
        · exact absurd (h1.symm.trans h) (by decide)
        · exact h h2
        · exact h3 h
      have hB := rd_b hA hsp
      rw [hB] at k0 k1
      refine g_splitQ s2 (by omega) hbl fun q H3 s3 => ?_
      rw [hsp] at s3
      kopn_word
      refine g_ixL s3 List.mem_cons_self ats_last inferInstance ?_
      have hlw : ∀ y ∈ w0 :: ws, y.length ≤ 600 := fun y hy => Nat.le_trans (word_len hsg hy) hl7
      have hll : ((w0 :: ws).map W.s).length = ws.length + 1 := by rw [List.length_map, List.length_cons]
      refine ⟨fun σ' H' => σ' = [some (.str t), some (.ref q), some (.str (ws.getLast?.getD w0)), none, none, none, none] ∧ pointsOk w0 = true ∧ 1 ≤ ws.length ∧ ws.length ≤ 4 ∧ S K Z.C_Mark H' ((V.ref q, W.l ((w0 :: ws).map W.s)) :: Φ) mt, ?_, ?_⟩
      · kopn_word
        · rename_i h4
          rw [hll] at h4
          exact k0 _ (if_pos (.inl (by omega))) (by kt_ors)
        · rename_i h4 h5
          rw [hll] at h5
          exact k0 _ (if_pos (.inr (.inl (by omega)))) (by kt_ors)
        · rename_i h4 h5 n hn _ he
          rw [hll] at h4 h5
          obtain rfl := at_head hn
          exact ⟨rfl, by rw [he]; decide +kernel, by omega, by omega, s3⟩
        · rename_i h4 h5 n1 hn1 _ he n2 hn2 _
          rw [hll] at h4 h5
          obtain rfl := at_head hn1
          obtain rfl := at_head hn2
          refine use_end s3 (hlw _ List.mem_cons_self) fun H4 s4 => ?_
          cases hp : endedOk n2 with
          | false =>
            kopn_word
            exact k0 _ (if_pos (.inr (.inr (.inl (by rw [pts_end he, hp]))))) (by kt_ors)
          | true =>
            kopn_word
            exact ⟨rfl, by rw [pts_end he, hp], by omega, by omega, s4⟩
      · rintro σ' H4 ⟨rfl, hp, hn1, hn4, s4⟩
        kopn_word
        refine g_slIn s4 List.mem_cons_self fun r H5 s5 => ?_
        kopn_word
        refine g_forL (K := K) (C := Z.C_Mark) (ws := ws.dropLast.map W.s) (fun j σ' H' => ∃ v : Option V, σ' = [some (.str t), some (.ref q), some (.str (ws.getLast?.getD w0)), v, none, none, none] ∧ (ws.dropLast.take j).all makerOk = true ∧ S K Z.C_Mark H' ((V.ref r, W.l (ws.dropLast.map W.s)) :: (V.ref q, W.l ((w0 :: ws).map W.s)) :: Φ) mt) ⟨_, rfl, rfl, s5⟩ (fun j σ' H' g => by obtain ⟨_, _, _, s6⟩ := g; exact ⟨_, _, s6, List.mem_cons_self⟩) (fun j w v σ' H' hj g gr => ?_) (fun σ' H' g => ?_)
        · obtain ⟨v0, rfl, hall, s6⟩ := g
          have s7 := gr _ _ s6 List.mem_cons_self
          rw [List.getElem?_map] at hj
          obtain ⟨k, hkj, rfl⟩ := Option.map_eq_some_iff.mp hj
          obtain rfl : v = .str k := by cases s7.rep (.f List.mem_cons_self) with | s => rfl
          clear s7 gr hj
          have hkm : k ∈ ws.dropLast := List.mem_of_getElem? hkj
          have hkl : k.length ≤ 600 := hlw _ (List.mem_cons_of_mem _ (List.dropLast_subset _ hkm))
          have hk1l : (cutS k (some 1) none).length ≤ 600 := Nat.le_trans (cut_leN _ _ _) hkl
          have fail : makerOk k = false → ∀ H', S K Z.C_Mark H' Φ mt → Q .non H' := fun h H' s' => k0 _ (if_pos (.inr (.inr (.inr (all_no hkm h))))) s'
          by_cases he : k = Str.ofString ""
          · subst he
            kopn_word
            all_goals exact fail (by decide +kernel) _ (by kt_ors)
          · have hk0 : 0 < k.length := by
              rcases Nat.eq_zero_or_pos k.length with h1 | h1
              · exact absurd (str_ext (List.eq_nil_of_length_eq_zero (by rw [sg_len]; exact h1))) he
              · exact h1
            have hk0' : (0 : Int) < k.length := by omega
            kopn_word
            · rename_i h
              exact absurd h he
            · rename_i c hc _ hA
              have hc0 := at_nil hc
              refine use_end s6 hk1l fun H6 s8 => ?_
              cases hp : endedOk (cutS k (some 1) none) with
              | false =>
                kopn_word
                exact fail (by rw [maker_eq2 hc0, hp, Bool.and_false]) _ (by kt_ors)
              | true =>
                have hmk : makerOk k = true := by rw [maker_eq2 hc0, hp, Bool.and_true]; exact decide_eq_true hA
                kopn_word
                refine ⟨_, rfl, ?_, by kt_ors⟩
                rw [List.take_add_one, hkj, List.all_append, hall]
                show (true && [k].all makerOk) = true
                rw [Bool.true_and, List.all_cons, hmk]
                rfl
            · rename_i c hc _ hA
              have hc0 := at_nil hc
              exact fail (by rw [maker_eq2 hc0, decide_eq_false hA, Bool.false_and]) _ (by kt_ors)
        · obtain ⟨v0, rfl, hall, s6⟩ := g
          rw [List.length_map, List.take_length] at hall
          have hC : ¬ (ws.length < 1 ∨ 4 < ws.length ∨ pointsOk w0 = false ∨ ws.dropLast.all makerOk = false) := by
            rintro (h | h | h | h)
            · omega
            · omega
            · exact absurd (hp.symm.trans h) (by decide)
            · exact absurd (hall.symm.trans h) (by decide)
          rw [if_neg hC] at k0 k1
          have hll6 : (ws.getLast?.getD w0).length ≤ 600 := hlw _ (last_in ws)
          generalize ws.getLast?.getD w0 = l at k0 k1 hll6 ⊢
          have q4 : (cutS l none (some 4)).length ≤ 600 := Nat.le_trans (cut_leN _ _ _) hll6
          have q46 : (cutS l (some 4) (some 6)).length ≤ 600 := Nat.le_trans (cut_leN _ _ _) hll6
          have q6 : (cutS l (some 6) none).length ≤ 600 := Nat.le_trans (cut_leN _ _ _) hll6
          kopn_word
          refine use_val s6 q4 fun H7 s7 => ?_
          kopn_word
          refine use_val s7 q46 fun H8 s8 => ?_
          kopn_word
          refine g_cut ?_
          kopn_word
          · exact k0 _ (by rw [lr_a (.inl (by omega))]; rfl) (by kt_ors)
          · rename_i h5 h6 h7
            exact k0 _ (by rw [lr_a (.inr (.inr h7))]; rfl) (by kt_ors)
          rotate_left
          · rename_i h5 h6
            exact k0 _ (by rw [lr_a (.inr (.inl h6))]; rfl) (by kt_ors)
          rename_i h5 h6 h7
          have hA2 : ¬ (l.length < 6 ∨ valI (l46 l) ≠ (l.length : Int) - 6 ∨ valI (l46 l) < 0) := by
            rintro (h | h | h)
            · omega
            · exact h h6
            · exact h7 h
          refine ⟨fun σ' H' => σ' = [some (V.str t), some (V.ref q), some (V.str l), v0, some (V.int (valI (cutS l none (some 4)))), some (V.int (valI (cutS l (some 4) (some 6)))), none] ∧ ¬ (valI (l4 l) ≠ 0 ∧ ¬ (1000 ≤ valI (l4 l) ∧ valI (l4 l) ≤ 2999)) ∧ S K Z.C_Mark H' ((V.ref r, W.l (ws.dropLast.map W.s)) :: (V.ref q, W.l ((w0 :: ws).map W.s)) :: Φ) mt, ?_, ?_⟩
          · have z : valI (l4 l) = valI (cutS l none (some 4)) := rfl
            kopn_word
            all_goals first
              | exact ⟨rfl, by rw [z]; omega, by kt_ors⟩
              | exact k0 _ (by rw [lr_b hA2 (by rw [z]; omega)]; rfl) (by kt_ors)
          · rintro σ' H9 ⟨rfl, hB2, s9⟩
            refine ⟨fun σ' H' => σ' = [some (V.str t), some (V.ref q), some (V.str l), v0, some (V.int (valI (cutS l none (some 4)))), some (V.int (valI (cutS l (some 4) (some 6)))), some (oi (if 0 < valI (l46 l) then some (valI (l6 l)) else none))] ∧ ¬ (0 < valI (l46 l) ∧ ((sg l)[6]? = some 48 ∨ valI (l6 l) < 2)) ∧ S K Z.C_Mark H' ((V.ref r, W.l (ws.dropLast.map W.s)) :: (V.ref q, W.l ((w0 :: ws).map W.s)) :: Φ) mt, ?_, ?_⟩
            · kopn_word
              · rename_i h8
                have h9 : (6 : Int) < l.length := by omega
                refine use_val s9 q6 fun Ha sa => ?_
                kopn_word
                · rename_i c hc _ he
                  have e6 : (sg l)[6]? = some 48 := by rw [at_six hc (by rw [sg_len]; omega), one0 he]
                  exact k0 _ (by rw [lr_c hA2 hB2 ⟨h8, .inl e6⟩]; rfl) (by kt_ors)
                · rename_i c hc _ he h10
                  exact k0 _ (by rw [lr_c hA2 hB2 ⟨h8, .inr h10⟩]; rfl) (by kt_ors)
                · rename_i c hc _ he h10
                  refine ⟨by rw [show (if 0 < valI (l46 l) then some (valI (l6 l)) else none) = some (valI (l6 l)) from if_pos h8]; rfl, fun h => ?_, by kt_ors⟩
                  rcases h.2 with h | h
                  · have e := (at_six hc (by rw [sg_len]; omega)).symm.trans h
                    exact he (by rw [Option.some.inj e]; decide +kernel)
                  · exact h10 h
              · rename_i h8
                exact ⟨by rw [show (if 0 < valI (l46 l) then some (valI (l6 l)) else none) = none from if_neg h8]; rfl, fun h => h8 h.1, s9⟩
            · rintro σ' Hb ⟨rfl, hC2, sb⟩
              refine ⟨fun σ' H' => σ' = [some (V.str t), some (V.ref q), some (V.str l), v0, some (oi (if valI (l4 l) = 0 then none else some (valI (l4 l)))), some (V.int (valI (cutS l (some 4) (some 6)))), some (oi (if 0 < valI (l46 l) then some (valI (l6 l)) else none))] ∧ S K Z.C_Mark H' ((V.ref r, W.l (ws.dropLast.map W.s)) :: (V.ref q, W.l ((w0 :: ws).map W.s)) :: Φ) mt, ?_, ?_⟩
              · kopn_word
                · rename_i h8
                  exact ⟨by rw [show (if valI (l4 l) = 0 then none else some (valI (l4 l))) = none from if_pos h8]; rfl, sb⟩
                · rename_i h8
                  exact ⟨by rw [show (if valI (l4 l) = 0 then none else some (valI (l4 l))) = some (valI (l4 l)) from if_neg h8]; rfl, sb⟩
              · rintro σ' Hc ⟨rfl, sc⟩
                have hR := lr_d hA2 hB2 hC2
                generalize (if valI (l4 l) = 0 then none else some (valI (l4 l))) = y at hR ⊢
                generalize (if 0 < valI (l46 l) then some (valI (l6 l)) else none) = c at hR ⊢
                kopn_word
                refine ⟨_, _, rfl, rfl, sz_of (by omega), ?_⟩
                kopn_word
                refine g_intV (by omega) hl37 ?_
                kopn_word
                rename_i n hn _
                obtain rfl := at_head hn
                refine g_slIn sc (List.mem_cons_of_mem _ List.mem_cons_self) fun p H10 sd => ?_
                kopn_word
                rename_i pr H11 se
                refine k1 ⟨rsT (t3 t), valI (t37 t), n, ws.dropLast, y, c⟩ pr _ (by rw [hR]; rfl) (se.to (fun z hz => ?_) (List.Sublist.refl _))
                rcases List.mem_cons.mp hz with rfl | hz
                · exact List.mem_cons_self
                · exact List.mem_cons_of_mem _ (List.mem_cons_of_mem _ (List.mem_cons_of_mem _ (List.mem_cons_of_mem _ hz)))
end
section
variable {K : PySem.W.Frag} {C : Addr} {H : Hp} {Φ : List (V × W)} {mt : List (Addr × (HO → Prop))} {Q : VK} {t : Str} {E : XK}
theorem use_rdL (s : S K C H Φ mt) (h : t.length ≤ 600) (k0 : ∀ H', rdS t = none → S K C H' Φ mt → Q .non H') (k1 : ∀ m p H', rdS t = some m → S K C H' ((.ref p, m.row) :: Φ) mt → Q (.ref p) H') : spRdL K C [.str t] H Q E := ⟨t, Φ, mt, rfl, h, s, k0, k1⟩
end

/-! ### what is filed is read again -/
theorem val_padz {i : Int} (h0 : 0 ≤ i) (n : Nat) : ((PySem.NumText.digitsVal (padz n i) : Nat) : Int) = i := by
  unfold padz
  rw [dv_zeros, dg_val h0]
theorem fig_padz {i : Int} (h0 : 0 ≤ i) (n : Nat) : ∀ c ∈ padz n i, c ∈ sg sFIG := fun c hc => by
  unfold padz at hc
  rcases List.mem_append.mp hc with h | h
  · rw [(List.mem_replicate.mp h).2]; decide +kernel
  · exact num_fig h0 c h
theorem valI_fig {x : Str} (hf : ∀ c ∈ sg x, c ∈ sg sFIG) (hn : sg x ≠ []) : valI x = ((PySem.NumText.digitsVal (sg x) : Nat) : Int) := by
  have h : figuresOk x = true := by
    unfold figuresOk
    rw [Bool.and_eq_true]
    refine ⟨?_, allIn_iff.mpr hf⟩
    rw [decide_eq_false (fun e => hn (by rw [e]; rfl))]
    rfl
  unfold valI
  rw [if_pos h]
theorem valI_padz {x : Str} {i : Int} {n : Nat} (h : sg x = padz n i) (h0 : 0 ≤ i) (hn : 1 ≤ n) : valI x = i := by
  rw [valI_fig (by rw [h]; exact fig_padz h0 n), h, val_padz h0]
  rw [h]
  intro z
  have := congrArg List.length z
  unfold padz at this
  rw [List.length_append, List.length_replicate, List.length_nil] at this
  omega
theorem sg_cutM (x : Str) (a b : Nat) : sg (cutS x (some (a : Int)) (some (b : Int))) = ((sg x).drop a).take (b - a) := by
  show (List.toArray _).toList = _
  unfold HT.sIx
  dsimp only
  rw [if_neg (by omega), if_neg (by omega)]
  show ((sg x).drop _).take _ = _
  rw [Int.toNat_natCast, Int.toNat_natCast]
  by_cases h : a ≤ x.length
  · rw [show min a x.length = a by omega]
    by_cases h2 : b ≤ x.length
    · rw [show min b x.length = b by omega]
    · rw [show min b x.length = x.length by omega, List.take_of_length_le (by rw [List.length_drop, sg_len]; exact Nat.le_refl _), List.take_of_length_le (by rw [List.length_drop, sg_len]; omega)]
  · rw [show min a x.length = x.length by omega, List.drop_of_length_le (by rw [sg_len]; exact Nat.le_refl _), List.drop_of_length_le (by rw [sg_len]; omega)]
    simp
/-- the last word of a filed text is read as it was -/
theorem y4_len {yr : Option Int} (h : ∀ y, yr = some y → 1000 ≤ y ∧ y ≤ 2999) : (yr4 yr).length = 4 := by
  cases yr with
  | none => rfl
  | some y =>
    obtain ⟨h1, h2⟩ := h y rfl
    have a := dg_len 3 (i := y) (by omega) (by omega)
    have b := (dg_low (c := y) (by omega)).2.2
    show (dg y).length = 4
    rcases Nat.lt_or_ge (dg y).length 4 with hlt | hge
    · have : (10 : Int) ^ (dg y).length ≤ 1000 := by
        have : (dg y).length = 0 ∨ (dg y).length = 1 ∨ (dg y).length = 2 ∨ (dg y).length = 3 := by omega
        rcases this with e | e | e | e <;> rw [e] <;> decide
      omega
    · omega
theorem y4_val {yr : Option Int} {x : Str} (h : ∀ y, yr = some y → 1000 ≤ y ∧ y ≤ 2999) (e : sg x = yr4 yr) : valI x = yr.getD 0 := by
  cases yr with
  | none => exact valI_padz (n := 4) (i := 0) (e.trans (by decide +kernel)) (by omega) (by omega)
  | some y =>
    obtain ⟨h1, h2⟩ := h y rfl
    refine valI_padz (n := 1) (i := y) (e.trans ?_) (by omega) (by omega)
    unfold padz
    have : 1 ≤ (dg y).length := (dg_low (c := y) (by omega)).1
    rw [show 1 - (dg y).length = 0 by omega]
    rfl
theorem lastR_fil {l : Str} {yr cp : Option Int} (hy : ∀ y, yr = some y → 1000 ≤ y ∧ y ≤ 2999) (hc : C99 cp) (e : sg l = yr4 yr ++ cpd cp) : lastR l = some (yr, cp) := by
  have hl4 := y4_len hy
  have e4 : sg (l4 l) = yr4 yr := by
    show sg (cutS l none (some ((4 : Nat) : Int))) = _
    rw [sg_cutTo, e, ← hl4, List.take_left]
  have e46 : sg (l46 l) = (cpd cp).take 2 := by
    show sg (cutS l (some ((4 : Nat) : Int)) (some ((6 : Nat) : Int))) = _
    rw [sg_cutM, e, ← hl4, List.drop_left]
    rw [hl4]
  have e6 : sg (l6 l) = (cpd cp).drop 2 := by
    show sg (cutS l (some ((6 : Nat) : Int)) none) = _
    rw [sg_cutAt, e, show (6 : Nat) = (yr4 yr).length + 2 by omega, List.drop_append]
    simp
  have v4 := y4_val hy e4
  have hl : l.length = 4 + (cpd cp).length := by rw [← sg_len, e, List.length_append, hl4]
  have hB : ¬ (valI (l4 l) ≠ 0 ∧ ¬ (1000 ≤ valI (l4 l) ∧ valI (l4 l) ≤ 2999)) := by
    rw [v4]
    cases yr with
    | none => exact fun h => h.1 rfl
    | some y => exact fun h => h.2 (hy y rfl)
  have hY : (if valI (l4 l) = 0 then none else some (valI (l4 l))) = yr := by
    rw [v4]
    cases yr with
    | none => rfl
    | some y =>
      have := hy y rfl
      rw [if_neg (by show ¬ y = 0; omega)]
      rfl
  cases cp with
  | none =>
    have v46 : valI (l46 l) = 0 := valI_padz (n := 2) (i := 0) (e46.trans (by decide +kernel)) (by omega) (by omega)
    have hl6 : l.length = 6 := hl
    rw [lr_d (by rw [v46]; omega) hB (by rw [v46]; omega), hY, v46, if_neg (by omega)]
  | some c =>
    obtain ⟨h2, h99⟩ := hc c rfl
    have hp2 := padz_len (n := 2) (len2 h99)
    have hcl : (cpd (some c)).length = 2 + (dg c).length := by
      show (padz 2 ((dg c).length : Nat) ++ dg c).length = _
      rw [List.length_append, hp2]
    have v46 : valI (l46 l) = ((dg c).length : Int) := valI_padz (n := 2) (e46.trans (by show (padz 2 ((dg c).length : Nat) ++ dg c).take 2 = _; exact List.take_left' hp2)) (by omega) (by omega)
    have d6 : sg (l6 l) = dg c := e6.trans (by show (padz 2 ((dg c).length : Nat) ++ dg c).drop 2 = _; exact List.drop_left' hp2)
    have hd1 : 1 ≤ (dg c).length := (dg_low (c := c) (by omega)).1
    have v6 : valI (l6 l) = c := valI_padz (n := 1) (d6.trans (by unfold padz; rw [show 1 - (dg c).length = 0 by omega]; rfl)) (by omega) (by omega)
    obtain ⟨d, ds, ed, hd⟩ := dg_lead (i := c) (by omega)
    have s6 : (sg l)[6]? = some d := by
      have := congrArg (·[0]?) d6
      rw [ed] at this
      have e0 : sg (l6 l) = (sg l).drop 6 := by
        show sg (cutS l (some ((6 : Nat) : Int)) none) = _
        rw [sg_cutAt]
      rw [e0] at this
      simpa using this
    rw [lr_d (by rw [v46]; omega) hB (by rw [v46, v6, s6]; rintro ⟨_, h | h⟩ <;> first | (have := Option.some.inj h; omega) | omega), hY, v46, v6, if_pos (by omega)]
theorem stripE_reps (c : Nat) (ds : List Nat) : ∀ k, stripE c (ds ++ List.replicate k c) = stripE c ds
  | 0 => by rw [List.replicate_zero, List.append_nil]
  | k + 1 => by rw [List.replicate_succ', ← List.append_assoc, stripE_eq, stripE_reps c ds k]
theorem lt_32 {m : MK} (ok : m.Ok) : ∀ d ∈ sg m.lt, 32 < d := fun d hd => by
  have := (show ∀ c ∈ sg sABC, 97 ≤ c ∧ c ≤ 122 by decide +kernel) d (allIn_iff.mp (letters_in ok.l) d hd)
  omega
theorem last_fig {yr cp : Option Int} (hy : ∀ y, yr = some y → 1000 ≤ y ∧ y ≤ 2999) (hc : C99 cp) : 32 ∉ yr4 yr ++ cpd cp := by
  intro h
  have k : ∀ {i : Int}, 0 ≤ i → 32 ∉ dg i := fun h0 h => by have := (dg_fig h0 32 h).1; omega
  rcases List.mem_append.mp h with h | h
  · cases yr with
    | none => exact absurd h (by decide)
    | some y => exact k (by have := hy y rfl; omega) h
  · cases cp with
    | none => exact absurd h (by decide)
    | some c =>
      have h' : 32 ∈ padz 2 ((dg c).length : Nat) ++ dg c := h
      rcases List.mem_append.mp h' with h | h
      · unfold padz at h
        rcases List.mem_append.mp h with h | h
        · have := (List.mem_replicate.mp h).2; omega
        · exact k (by omega) h
      · exact k (by have := (hc c rfl).1; omega) h
theorem rdS_fil {m : MK} (ok : m.Ok) (hc : C99 m.cp) : rdS (filT m) = some m := by
  have e0 : sg (filT m) = pad3 (sg m.lt) ++ (padz 4 m.num ++ (sg m.pts ++ 32 :: (mkl m.mks ++ (yr4 m.yr ++ cpd m.cp)))) := rfl
  have hl3 : (sg m.lt).length ≤ 3 := by have := letters_len ok.l; rw [sg_len]; omega
  have hp3 : (pad3 (sg m.lt)).length = 3 := by
    unfold pad3
    rw [List.length_append, List.length_replicate]
    omega
  have hn := ok.n
  have hp4 : (padz 4 m.num).length = 4 := padz_len (dg_len 3 (by omega) (by omega))
  have a3 : sg (t3 (filT m)) = pad3 (sg m.lt) := by
    show sg (cutS _ none (some ((3 : Nat) : Int))) = _
    rw [sg_cutTo, e0]
    exact List.take_left' hp3
  have a37 : sg (t37 (filT m)) = padz 4 m.num := by
    show sg (cutS _ (some ((3 : Nat) : Int)) (some ((7 : Nat) : Int))) = _
    rw [sg_cutM, e0, List.drop_left' hp3]
    exact List.take_left' hp4
  have a7 : sg (cutS (filT m) (some 7) none) = sg m.pts ++ 32 :: (mkl m.mks ++ (yr4 m.yr ++ cpd m.cp)) := by
    show sg (cutS _ (some ((7 : Nat) : Int)) none) = _
    rw [sg_cutAt, e0, ← List.append_assoc]
    exact List.drop_left' (by rw [List.length_append, hp3, hp4])
  have hr : rsT (t3 (filT m)) = m.lt := str_ext (by
    rw [sg_rsT, a3]
    unfold pad3
    rw [stripE_reps]
    rcases snoc_cases (sg m.lt) with h | ⟨ds, d, h⟩
    · rw [h]; rfl
    · rw [h]
      refine stripE_ne ds fun z => ?_
      have := lt_32 ok d (by rw [h]; simp)
      omega)
  have hL : letL (t3 (filT m)) = true := by
    unfold letL
    rw [hr, ok.l, Bool.and_true]
    refine decide_eq_true ?_
    rw [← sg_len, a3, hp3]
    rfl
  have hN : valI (t37 (filT m)) = m.num := valI_padz (n := 4) a37 (by omega) (by omega)
  have hA : ¬ (letL (t3 (filT m)) = false ∨ ((t37 (filT m)).length : Int) ≠ 4 ∨ valI (t37 (filT m)) < 1) := by
    rw [hL, hN, ← sg_len, a37, hp4]
    rintro (h | h | h)
    · cases h
    · exact h rfl
    · omega
  let x : Str := ⟨(yr4 m.yr ++ cpd m.cp).toArray⟩
  have hx : sg x = yr4 m.yr ++ cpd m.cp := rfl
  have hj : cutS (filT m) (some 7) none = Str.join " " (m.pts :: (m.mks ++ [x])) := str_ext (by
    rw [a7, join_blank, words_fil, hx])
  have hs : Txt.split (cutS (filT m) (some 7) none) (Str.ofString " ") = m.pts :: (m.mks ++ [x]) := by
    rw [hj]
    refine split_join fun y hy => ?_
    rcases List.mem_cons.mp hy with rfl | hy
    · intro h
      have := fig_dig.mp (points_fig ok.p 32 h)
      omega
    · rcases List.mem_append.mp hy with hy | hy
      · intro h
        have := (maker_w (ok.ks y hy).1).2 32 h
        omega
      · rw [List.mem_singleton.mp hy, hx]
        exact last_fig ok.y hc
  rw [rd_b hA hs, if_neg, List.getLast?_append, List.dropLast_concat, hr, hN]
  · show (lastR x).map _ = _
    rw [lastR_fil ok.y hc hx]
    rfl
  · rw [List.dropLast_concat, List.length_append, List.length_singleton, ok.p]
    have := ok.k
    rintro (h | h | h | h)
    · omega
    · omega
    · cases h
    · rw [List.all_eq_true.mpr fun k hk => (ok.ks k hk).1] at h
      cases h
theorem dv_bound : ∀ cs : List Nat, (∀ c ∈ cs, 48 ≤ c ∧ c ≤ 57) → PySem.NumText.digitsVal cs < 10 ^ cs.length
  | [], _ => by decide
  | c :: cs, h => by
    have h1 := h c List.mem_cons_self
    have h2 := dv_bound cs fun d hd => h d (List.mem_cons_of_mem _ hd)
    rw [dv_cons, List.length_cons, Nat.pow_succ]
    have : (c - 48) * 10 ^ cs.length ≤ 9 * 10 ^ cs.length := Nat.mul_le_mul_right _ (by omega)
    omega
theorem padz_figs {i : Int} (h0 : 0 ≤ i) (n : Nat) : ∀ c ∈ padz n i, 48 ≤ c ∧ c ≤ 57 := fun c hc => fig_dig.mp (fig_padz h0 n c hc)
/-- figures are those of their number, filled up -/
theorem padz_back {cs : List Nat} (h : ∀ c ∈ cs, 48 ≤ c ∧ c ≤ 57) (hn : cs ≠ []) : cs = padz cs.length ((PySem.NumText.digitsVal cs : Nat) : Int) := by
  have hb := dv_bound cs h
  have hl : 1 ≤ cs.length := by
    cases cs with
    | nil => exact absurd rfl hn
    | cons c cs => rw [List.length_cons]; omega
  have hlen : (dg ((PySem.NumText.digitsVal cs : Nat) : Int)).length ≤ cs.length := by
    have := dg_len (cs.length - 1) (i := ((PySem.NumText.digitsVal cs : Nat) : Int)) (by omega) (by rw [show cs.length - 1 + 1 = cs.length by omega]; exact_mod_cast hb)
    omega
  have e := cmp_figs cs (padz cs.length ((PySem.NumText.digitsVal cs : Nat) : Int)) h (padz_figs (by omega) _) (padz_len hlen).symm
  rw [val_padz (by omega)] at e
  refine (cmpL_lt _ _).2.2 (e.trans ?_)
  unfold sgnI
  simp
theorem valI_inv {x : Str} (h : 0 ≤ valI x) : sg x = padz x.length (valI x) ∧ sg x ≠ [] := by
  have hf := valI_pos.mp h
  have hn : sg x ≠ [] := fun z => by
    have := fig_len hf
    rw [← sg_len, z] at this
    exact absurd this (by decide)
  refine ⟨?_, hn⟩
  have e := padz_back (fun c hc => fig_dig.mp (fig_fs hf c hc)) hn
  rw [sg_len] at e
  rw [valI_fig (fig_fs hf) hn]
  exact e
/-- a number without a 0 ahead -/
theorem dg_back {x : Str} {d : Nat} {ds : List Nat} (h : 0 ≤ valI x) (e : sg x = d :: ds) (hd : d ≠ 48) : sg x = dg (valI x) := by
  have h1 := (valI_inv h).1
  unfold padz at h1
  cases hk : x.length - (dg (valI x)).length with
  | zero => rw [hk] at h1; exact h1
  | succ k =>
    rw [hk, e, List.replicate_succ, List.cons_append] at h1
    exact absurd (List.cons.inj h1).1 hd
theorem lastR_inv {l : Str} {yr cp : Option Int} (hl : l.length ≤ 600) (h : lastR l = some (yr, cp)) : (∀ y, yr = some y → 1000 ≤ y ∧ y ≤ 2999) ∧ C99 cp ∧ sg l = yr4 yr ++ cpd cp := by
  by_cases hA : l.length < 6 ∨ valI (l46 l) ≠ (l.length : Int) - 6 ∨ valI (l46 l) < 0
  · rw [lr_a hA] at h; cases h
  by_cases hB : valI (l4 l) ≠ 0 ∧ ¬ (1000 ≤ valI (l4 l) ∧ valI (l4 l) ≤ 2999)
  · rw [lr_b hA hB] at h; cases h
  by_cases hC : 0 < valI (l46 l) ∧ ((sg l)[6]? = some 48 ∨ valI (l6 l) < 2)
  · rw [lr_c hA hB hC] at h; cases h
  rw [lr_d hA hB hC] at h
  obtain ⟨rfl, rfl⟩ := Prod.mk.inj (Option.some.inj h)
  have g4 : sg (l4 l) = (sg l).take 4 := by
    show sg (cutS l none (some ((4 : Nat) : Int))) = _
    rw [sg_cutTo]
  have g46 : sg (l46 l) = ((sg l).drop 4).take 2 := by
    show sg (cutS l (some ((4 : Nat) : Int)) (some ((6 : Nat) : Int))) = _
    rw [sg_cutM]
  have g6 : sg (l6 l) = (sg l).drop 6 := by
    show sg (cutS l (some ((6 : Nat) : Int)) none) = _
    rw [sg_cutAt]
  have n4 : (l4 l).length = 4 := by rw [← sg_len, g4, List.length_take, sg_len]; omega
  have n46 : (l46 l).length = 2 := by rw [← sg_len, g46, List.length_take, List.length_drop, sg_len]; omega
  have n6 : (l6 l).length = l.length - 6 := by rw [← sg_len, g6, List.length_drop, sg_len]
  have split : sg l = sg (l4 l) ++ (sg (l46 l) ++ sg (l6 l)) := by
    rw [g4, g46, g6]
    have : (sg l).drop 6 = ((sg l).drop 4).drop 2 := by rw [List.drop_drop]
    rw [this, List.take_append_drop, List.take_append_drop]
  have i4 := (valI_inv (x := l4 l) (by omega)).1
  have i46 := (valI_inv (x := l46 l) (by omega)).1
  rw [n4] at i4
  rw [n46] at i46
  have hy : ∀ y, (if valI (l4 l) = 0 then none else some (valI (l4 l))) = some y → 1000 ≤ y ∧ y ≤ 2999 := fun y e => by
    split at e
    · cases e
    · rw [← Option.some.inj e]; omega
  have y4 : sg (l4 l) = yr4 (if valI (l4 l) = 0 then none else some (valI (l4 l))) := by
    rw [i4]
    by_cases h0 : valI (l4 l) = 0
    · rw [if_pos h0, h0]; decide +kernel
    · rw [if_neg h0]
      show _ = dg _
      have := (yr4_fig (o := some (valI (l4 l))) (fun y e => by rw [← Option.some.inj e]; omega)).2.1
      have e : (dg (valI (l4 l))).length = 4 := this
      unfold padz
      rw [e]
      rfl
  have c99 : valI (l46 l) < 100 := by
    have hf := valI_pos.mp (show 0 ≤ valI (l46 l) by omega)
    have hb := dv_bound (sg (l46 l)) (fun c hc => fig_dig.mp (fig_fs hf c hc))
    rw [sg_len, n46] at hb
    rw [valI_fig (fig_fs hf) (valI_inv (x := l46 l) (by omega)).2]
    have : PySem.NumText.digitsVal (sg (l46 l)) < 100 := hb
    omega
  have d6 : 0 < valI (l46 l) → sg (l6 l) = dg (valI (l6 l)) := fun hp => by
    have h2 : ¬ (valI (l6 l) < 2) := fun h => hC ⟨hp, .inr h⟩
    have hne := (valI_inv (x := l6 l) (by omega)).2
    cases e : sg (l6 l) with
    | nil => exact absurd e hne
    | cons d ds =>
      rw [← e]
      refine dg_back (by omega) e fun hd => hC ⟨hp, .inl ?_⟩
      have := congrArg (·[0]?) (g6.symm.trans e)
      rw [hd] at this
      simpa using this
  refine ⟨hy, ?_, ?_⟩
  · intro c e
    split at e
    · rename_i hp
      have hcc := Option.some.inj e
      have h2 : ¬ (valI (l6 l) < 2) := fun h => hC ⟨hp, .inr h⟩
      refine ⟨by omega, ?_⟩
      rw [← hcc, ← d6 hp, sg_len, n6]
      omega
    · cases e
  · rw [split, y4]
    congr 1
    by_cases hp : 0 < valI (l46 l)
    · rw [if_pos hp]
      show _ = padz 2 ((dg (valI (l6 l))).length : Nat) ++ dg (valI (l6 l))
      rw [← d6 hp, sg_len, n6, show (((l.length - 6 : Nat)) : Int) = valI (l46 l) by omega, ← i46]
    · rw [if_neg hp]
      have h0 : valI (l46 l) = 0 := by omega
      rw [i46, h0, List.eq_nil_of_length_eq_zero (show (sg (l6 l)).length = 0 by rw [sg_len, n6]; omega)]
      decide +kernel
theorem rdS_inv {t : Str} {m : MK} (ht : t.length ≤ 600) (h : rdS t = some m) : m.Ok ∧ C99 m.cp ∧ t = filT m := by
  by_cases hA : letL (t3 t) = false ∨ ((t37 t).length : Int) ≠ 4 ∨ valI (t37 t) < 1
  · unfold rdS at h
    rw [if_pos hA] at h
    cases h
  obtain ⟨w, ws, hsp, hw, hsg⟩ := split_any (cutS t (some 7) none)
  rw [rd_b hA hsp] at h
  by_cases hC : ws.length < 1 ∨ 4 < ws.length ∨ pointsOk w = false ∨ ws.dropLast.all makerOk = false
  · rw [if_pos hC] at h
    cases h
  rw [if_neg hC] at h
  obtain ⟨⟨y, c⟩, hl, rfl⟩ := Option.map_eq_some_iff.mp h
  have hl7 : (cutS t (some 7) none).length ≤ 600 := Nat.le_trans (cut_leN _ _ _) ht
  have hlw : ∀ y ∈ w :: ws, y.length ≤ 600 := fun y hy => Nat.le_trans (word_len hsg hy) hl7
  obtain ⟨iy, ic, il⟩ := lastR_inv (hlw _ (last_in ws)) hl
  have hL : letL (t3 t) = true := by
    cases e : letL (t3 t) with
    | true => rfl
    | false => exact absurd (.inl e) hA
  have h37 : (t37 t).length = 4 := by
    rcases Nat.decEq (t37 t).length 4 with e | e
    · exact absurd (.inr (.inl (by omega))) hA
    · exact e
  have hv : 1 ≤ valI (t37 t) := by
    rcases Int.lt_or_le (valI (t37 t)) 1 with e | e
    · exact absurd (.inr (.inr e)) hA
    · exact e
  have hlo := hL
  unfold letL at hlo
  rw [Bool.and_eq_true] at hlo
  have h3 := of_decide_eq_true hlo.1
  have a3 : sg (t3 t) = pad3 (sg (rsT (t3 t))) := by
    obtain ⟨k, e1, _⟩ := stripE_split 32 (sg (t3 t))
    rw [← sg_rsT] at e1
    have := congrArg List.length e1
    rw [List.length_append, List.length_replicate, sg_len, sg_len] at this
    unfold pad3
    rw [sg_len, show 3 - (rsT (t3 t)).length = k by omega]
    exact e1
  have i37 := (valI_inv (x := t37 t) (by omega)).1
  rw [h37] at i37
  have b37 : valI (t37 t) ≤ 9999 := by
    have hf := valI_pos.mp (show 0 ≤ valI (t37 t) by omega)
    have hb := dv_bound (sg (t37 t)) (fun c hc => fig_dig.mp (fig_fs hf c hc))
    rw [sg_len, h37] at hb
    rw [valI_fig (fig_fs hf) (valI_inv (x := t37 t) (by omega)).2]
    have : PySem.NumText.digitsVal (sg (t37 t)) < 10000 := hb
    omega
  have hp : pointsOk w = true := by
    cases e : pointsOk w with
    | true => rfl
    | false => exact absurd (.inr (.inr (.inl e))) hC
  have hm : ws.dropLast.all makerOk = true := by
    cases e : ws.dropLast.all makerOk with
    | true => rfl
    | false => exact absurd (.inr (.inr (.inr e))) hC
  have g3 : sg (t3 t) = (sg t).take 3 := by
    show sg (cutS t none (some ((3 : Nat) : Int))) = _
    rw [sg_cutTo]
  have g37 : sg (t37 t) = ((sg t).drop 3).take 4 := by
    show sg (cutS t (some ((3 : Nat) : Int)) (some ((7 : Nat) : Int))) = _
    rw [sg_cutM]
  have g7 : sg (cutS t (some 7) none) = (sg t).drop 7 := by
    show sg (cutS t (some ((7 : Nat) : Int)) none) = _
    rw [sg_cutAt]
  rcases List.eq_nil_or_concat ws with rfl | ⟨ds, x, rfl⟩
  · exact absurd (.inl (by decide)) hC
  rw [List.concat_eq_append] at *
  rw [List.getLast?_append] at il hl
  rw [List.dropLast_concat] at hm ⊢
  have il' : sg x = yr4 y ++ cpd c := il
  refine ⟨⟨hlo.2, ⟨hv, b37⟩, hp, Nat.le_trans (hlw _ List.mem_cons_self) (by omega), ?_, fun s hs => ⟨List.all_eq_true.mp hm s hs, Nat.le_trans (hlw _ (List.mem_cons_of_mem _ (List.mem_append_left _ hs))) (by omega)⟩, iy, fun k e => ⟨(ic k e).1, ?_⟩⟩, ic, ?_⟩
  · show ds.length ≤ 3
    rw [List.length_append, List.length_singleton] at hC
    omega
  · have h2 := ic k e
    have h4 := (dg_low (c := k) (by omega)).2.2
    have h5 : (10 : Int) ^ (dg k).length ≤ 10 ^ 99 := by exact_mod_cast Nat.pow_le_pow_right (show 0 < 10 by decide) h2.2
    have h6 : k.natAbs < 2 ^ 1920 := by
      have : (10 : Int) ^ 99 ≤ 2 ^ 1920 := by decide +kernel
      have h7 : k < 2 ^ 1920 := Int.lt_of_lt_of_le h4 (Int.le_trans h5 this)
      have h8 : (k.natAbs : Int) = k := by omega
      exact_mod_cast h8 ▸ h7
    exact (Nat.log2_lt (by omega)).mpr h6
  · refine str_ext ?_
    show sg t = pad3 (sg (rsT (t3 t))) ++ (padz 4 (valI (t37 t)) ++ (sg w ++ 32 :: (mkl ds ++ (yr4 y ++ cpd c))))
    rw [← a3, ← i37, ← il']
    rw [words_fil] at hsg
    rw [← hsg, g3, g37, g7]
    have e7 : (sg t).drop 7 = ((sg t).drop 3).drop 4 := by rw [List.drop_drop]
    rw [e7, List.take_append_drop, List.take_append_drop]

/-! ### two filed texts beside two keys -/
theorem cmp_dec (as bs : List Nat) : decide (as < bs) = decide (cmpL as bs < 0) ∧ decide (as = bs) = decide (cmpL as bs = 0) := by
  have ne : ∀ {u v : List Nat}, u < v → u ≠ v := fun {u v} h e => by
    subst e
    exact absurd h (List.lt_irrefl u)
  obtain ⟨h1, h2, h3⟩ := cmpL_lt as bs
  rcases Int.lt_trichotomy (cmpL as bs) 0 with h | h | h
  · have k := h1 h
    rw [decide_eq_true k, decide_eq_true h, decide_eq_false (ne k), decide_eq_false (by omega)]
    exact ⟨rfl, rfl⟩
  · have k := h3 h
    subst k
    rw [decide_eq_false (List.lt_irrefl as), decide_eq_false (by omega), decide_eq_true rfl, decide_eq_true h]
    exact ⟨rfl, rfl⟩
  · have k := h2 h
    rw [decide_eq_false (fun z => absurd (List.lt_trans z k) (List.lt_irrefl as)), decide_eq_false (by omega), decide_eq_false (fun z => ne k z.symm), decide_eq_false (by omega)]
    exact ⟨rfl, rfl⟩
theorem fil_lt {m n : MK} (okm : m.Ok) (okn : n.Ok) (cm : C99 m.cp) (cn : C99 n.cp) : decide ((filT m).cps.toList < (filT n).cps.toList) = PySem.W.dataLt m.kdata n.kdata := by
  show decide (fil m < fil n) = _
  rw [(cmp_dec _ _).1, cmp_fil okm okn cm cn, (ordL_lt m n).1]
theorem fil_same {m n : MK} (okm : m.Ok) (okn : n.Ok) (cm : C99 m.cp) (cn : C99 n.cp) : decide (filT m = filT n) = kE m n := by
  have e : decide (filT m = filT n) = decide (fil m = fil n) := by
    by_cases h : fil m = fil n
    · rw [decide_eq_true h, decide_eq_true (show filT m = filT n from congrArg (fun l : List Nat => (⟨l.toArray⟩ : Str)) h)]
    · rw [decide_eq_false h, decide_eq_false (fun z => h (congrArg sg z))]
  rw [e, (cmp_dec _ _).2, cmp_fil okm okn cm cn, (ordL_lt m n).2.2]

/-! ### the program's reading, to be walked with what is let out -/
def qStarts : V → List V → Hp → VK → Prop := fun x xs H Q => ∃ a b, x = .str a ∧ xs = [.str b] ∧ Q (.bl (Txt.startswith a b)) H
theorem mt_startswithQ {X : Cx} : MtR X "str.startswith" qStarts := mt_startswith
def cpOf (t : Str) : Option (Option Int) :=
  if t = Str.ofString "00" then some none
  else
    let u := cutS t (some 2) none
    if figuresOk u && !Txt.startswith u "0" && decide (cutS t none (some 2) = cnT u.length) then some (some ((PySem.NumText.digitsVal (sg u) : Nat) : Int)) else none
theorem cp_no {t : Str} (h : ¬ t = Str.ofString "00") (h2 : (figuresOk (cutS t (some 2) none) && !Txt.startswith (cutS t (some 2) none) "0" && decide (cutS t none (some 2) = cnT (cutS t (some 2) none).length)) = false) : cpOf t = none := by
  unfold cpOf
  rw [if_neg h]
  show (if (_ : Bool) = true then _ else none) = none
  rw [h2]
  rfl
theorem cp_yes {t : Str} (h : ¬ t = Str.ofString "00") (h2 : (figuresOk (cutS t (some 2) none) && !Txt.startswith (cutS t (some 2) none) "0" && decide (cutS t none (some 2) = cnT (cutS t (some 2) none).length)) = true) : cpOf t = some (some ((PySem.NumText.digitsVal (sg (cutS t (some 2) none)) : Nat) : Int)) := by
  unfold cpOf
  rw [if_neg h]
  show (if (_ : Bool) = true then _ else none) = _
  rw [h2]
  rfl
def spCof (K : PySem.W.Frag) (C : Addr) (Cs : List Addr) : Sp := fun vs H Q E => ∃ (t : Str) (Φ : List (V × W)) (mt : List (Addr × (HO → Prop))), vs = [.str t] ∧ t.length ≤ 600 ∧ S K C H Φ mt ∧ (∀ o H', cpOf t = some o → S K C H' Φ mt → Q (oi o) H') ∧ (cpOf t = none → OutA K C Φ mt Cs E)
section
variable {P : Program} {w : World} {K : PySem.W.Frag} {mg : Str → Option Value} {base : Heap} {Z : Adr} {C : Addr}
theorem ok_copy_of (T : Txt K mg Z) : FnOk P w K mg base (L2N.CX P w) 3 Z.a_copy_of Z.d_copy_of ["text"] (spCof K Z.C_Mark (cAll Z)) := by
  refine okXN T.F_copy_of sc_copy_of (fun vs H Q E h => ?_) (fun cdv A outer s H vs Q E hr h => ?_)
  · obtain ⟨_, _, _, rfl, _⟩ := h; rfl
  · obtain ⟨t, Φ, mt, rfl, hz, s, kk, kE⟩ := h
    refine ⟨_, (pss_cons (ps_if (pt_cmpR op_eq (pv 0) (pe_gs rfl T.c_NO_COPY) (nomark _)) (pss_one (ps_ret pe_non)) pss_nil)
      (pss_cons (ps_set (i := 1) sc_copy_of.nd rfl (.inl rfl) (pe_slice sl_str (pv 0) (po_some pe_int) po_none))
      (pss_cons (ps_if (PW.pt (pw_or (pt_not (pt_val (pe_call (ok_is_figures T) (hr.mono (by decide)) rfl T.g_is_figures T.F_is_figures.kp T.b_is_figures .nil pass0 (pa_cons (pv 1) pa_nil)))) (pw_or (pt_val (pe_m1 PySem.F.slot_str_startswith PySem.F.type_str_startswith mt_startswithQ (pv 1) pe_str)) (pw_or1 (pt_cmpR op_ne (pe_slice sl_str (pv 0) po_none (po_some pe_int)) (pe_call (ok_filed_count T) (hr.mono (by decide)) rfl T.g_filed_count T.F_filed_count.kp T.b_filed_count .nil pass0 (pa_cons (pv 1) pa_nil)) (nomark _)))))) (pss_one (L2N.ps_raise rfl (L2N.takes_of rfl rfl rfl rfl) (L2H.PMk5.pmk (pmk5_oex T.ox_NoText T.i_NoText T.ti_NoText (ok_NoText_init T) (hr.mono (by decide)) T.b_NoText_init .nil pass0 rfl T.g_NoText (pa_cons (pv 0) pa_nil))))) pss_nil)
      (pss_one (ps_ret (pe_callTy (call_intS) (by rfl) T.n_int (by decide +kernel) (pa_cons (pv 1) pa_nil))))))), ?_⟩
    have hz2 : (cutS t (some 2) none).length ≤ 600 := Nat.le_trans (cut_leN _ _ _) hz
    kxt_pos
    kopn_word
    · rename_i h
      exact kk none _ (if_pos h) s
    · rename_i h
      refine ⟨_, rfl, Nat.le_trans hz2 (by decide), fun H1 e1 => ?_⟩
      have s1 := s.ext e1
      have out : cpOf t = none → ∀ H', S K Z.C_Mark H' Φ mt → LetsAny H' (cAll Z) E := fun h H' s' => (kE h).any s'
      cases hf : figuresOk (cutS t (some 2) none) with
      | false =>
        kopn_word
        exact mkA (out (cp_no h (by rw [hf]; rfl)) _ s1) (by simp) (ea_cons (ev_var rfl) ea_nil)
      | true =>
        kopn_word
        refine ⟨_, _, rfl, rfl, ?_⟩
        cases hs : Txt.startswith (cutS t (some 2) none) (Str.ofString "0") with
        | true =>
          kopn_word
          exact mkA (out (cp_no h (by rw [hf, hs]; rfl)) _ s1) (by simp) (ea_cons (ev_var rfl) ea_nil)
        | false =>
          kopn_word
          · rename_i H2 s2 he
            have hv : valI (cutS t (some 2) none) = ((PySem.NumText.digitsVal (sg (cutS t (some 2) none)) : Nat) : Int) := by unfold valI; rw [if_pos hf]
            refine g_intV (by rw [hv]; omega) hz2 ?_
            rw [hv]
            exact kk (some _) _ (cp_yes h (by rw [hf, hs, decide_eq_true he]; rfl)) s2
          · rename_i H2 s2 he
            exact mkA (out (cp_no h (by rw [hf, hs, decide_eq_false he]; rfl)) _ s2) (by simp) (ea_cons (ev_var rfl) ea_nil)
end

/-! ### the program's reading, as a function, beside the law's -/
theorem starts0 (t : Str) : Txt.startswith t (Str.ofString "0") = decide ((sg t)[0]? = some 48) := by
  have h0 : (Str.ofString "0").length = 1 := by decide +kernel
  unfold Txt.startswith
  rw [StrLaws.subAt_eq, h0]
  show (decide (0 + 1 ≤ t.length) && ((sg t).take 1 == (Str.ofString "0").cps.toList)) = _
  rw [show (Str.ofString "0").cps.toList = [48] by decide +kernel, ← sg_len]
  cases sg t with
  | nil => decide
  | cons c cs =>
    show (decide (0 + 1 ≤ cs.length + 1) && ([c] == [48])) = decide (some c = some 48)
    rw [decide_eq_true (by omega), Bool.true_and]
    by_cases h : c = 48
    · subst h; decide
    · rw [decide_eq_false (fun e => h (Option.some.inj e))]
      simp [h]
abbrev l4x (l : Str) : Str := cutS l (some 4) none
def lastP (l : Str) : Option (Option Int × Option Int) :=
  if figuresOk (l4 l) = false then none
  else (cpOf (l4x l)).map fun c => (if l4 l = Str.ofString "0000" then none else some (valI (l4 l)), c)
theorem sg_0000 : sg (Str.ofString "0000") = [48, 48, 48, 48] := by decide +kernel
theorem sg_00 : sg (Str.ofString "00") = [48, 48] := by decide +kernel
theorem val_sg {x : Str} (h : figuresOk x = true) : valI x = ((PySem.NumText.digitsVal (sg x) : Nat) : Int) := by unfold valI; rw [if_pos h]
theorem cpOf_fil {x : Str} {cp : Option Int} (hc : C99 cp) (e : sg x = cpd cp) : cpOf x = some cp := by
  cases cp with
  | none =>
    have : x = Str.ofString "00" := str_ext (e.trans sg_00.symm)
    unfold cpOf
    rw [if_pos this]
  | some c =>
    obtain ⟨h2, h99⟩ := hc c rfl
    have hp2 := padz_len (n := 2) (len2 h99)
    have hd1 : 1 ≤ (dg c).length := (dg_low (c := c) (by omega)).1
    have e' : sg x = padz 2 ((dg c).length : Nat) ++ dg c := e
    have eu : sg (cutS x (some 2) none) = dg c := by
      show sg (cutS x (some ((2 : Nat) : Int)) none) = _
      rw [sg_cutAt, e', List.drop_left' hp2]
    have et : sg (cutS x none (some 2)) = padz 2 ((dg c).length : Nat) := by
      show sg (cutS x none (some ((2 : Nat) : Int))) = _
      rw [sg_cutTo, e', List.take_left' hp2]
    have hn : ¬ x = Str.ofString "00" := fun z => by
      have := congrArg List.length (e'.symm.trans ((congrArg sg z).trans sg_00))
      rw [List.length_append, hp2] at this
      simp only [List.length_cons, List.length_nil] at this
      omega
    have hv : valI (cutS x (some 2) none) = c := valI_padz (n := 1) (eu.trans (by unfold padz; rw [show 1 - (dg c).length = 0 by omega]; rfl)) (by omega) (by omega)
    have hf : figuresOk (cutS x (some 2) none) = true := valI_pos.mp (by omega)
    obtain ⟨d, ds, ed, hd⟩ := dg_lead (i := c) (by omega)
    have hs : Txt.startswith (cutS x (some 2) none) (Str.ofString "0") = false := by
      rw [starts0, eu, ed]
      exact decide_eq_false fun z => by have : d = 48 := Option.some.inj z; omega
    have ht : cutS x none (some 2) = cnT (cutS x (some 2) none).length := str_ext (by
      rw [et, ← sg_len (cutS x (some 2) none), eu]
      rfl)
    rw [cp_yes hn (by rw [hf, hs, decide_eq_true ht]; rfl), ← val_sg hf, hv]
theorem lastP_fil {l : Str} {yr cp : Option Int} (hy : ∀ y, yr = some y → 1000 ≤ y ∧ y ≤ 2999) (hc : C99 cp) (e : sg l = yr4 yr ++ cpd cp) : lastP l = some (yr, cp) := by
  have hl4 := y4_len hy
  have e4 : sg (l4 l) = yr4 yr := by
    show sg (cutS l none (some ((4 : Nat) : Int))) = _
    rw [sg_cutTo, e, ← hl4, List.take_left]
  have e4x : sg (l4x l) = cpd cp := by
    show sg (cutS l (some ((4 : Nat) : Int)) none) = _
    rw [sg_cutAt, e, ← hl4, List.drop_left]
  have v4 := y4_val hy e4
  have hf : figuresOk (l4 l) = true := valI_pos.mp (by
    rw [v4]
    cases yr with
    | none => decide
    | some y => have := hy y rfl; show 0 ≤ y; omega)
  unfold lastP
  rw [hf, if_neg (by decide), cpOf_fil hc e4x]
  show some _ = some _
  congr 2
  cases yr with
  | none => rw [if_pos (str_ext (e4.trans sg_0000.symm))]
  | some y =>
    have := hy y rfl
    rw [if_neg (fun z => by
      have v0 : valI (l4 l) = 0 := by rw [z]; decide +kernel
      rw [v4] at v0
      have : y = 0 := v0
      omega), v4]
    rfl
theorem padz_big {n : Nat} (h : 100 ≤ n) : 3 ≤ (padz 2 (n : Int)).length := by
  have hl : 3 ≤ (dg (n : Int)).length := by
    have a := (dg_low (c := (n : Int)) (by omega)).2.2
    rcases Nat.lt_or_ge (dg (n : Int)).length 3 with hlt | hge
    · have : (10 : Int) ^ (dg (n : Int)).length ≤ 100 := by
        have : (dg (n : Int)).length = 0 ∨ (dg (n : Int)).length = 1 ∨ (dg (n : Int)).length = 2 := by omega
        rcases this with e | e | e <;> rw [e] <;> decide
      omega
    · exact hge
  unfold padz
  rw [List.length_append]
  omega
/-- a copy as it is written, read: its signs -/
theorem cpOf_inv {x : Str} {cp : Option Int} (h : cpOf x = some cp) (h2 : ∀ c, cp = some c → 2 ≤ c) : C99 cp ∧ sg x = cpd cp := by
  by_cases hx : x = Str.ofString "00"
  · have : cpOf x = some none := if_pos hx
    rw [this] at h
    obtain rfl := Option.some.inj h
    exact ⟨(fun c e => nomatch e), by rw [hx, sg_00]; rfl⟩
  cases hb : (figuresOk (cutS x (some 2) none) && !Txt.startswith (cutS x (some 2) none) "0" && decide (cutS x none (some 2) = cnT (cutS x (some 2) none).length)) with
  | false => rw [cp_no hx hb] at h; cases h
  | true =>
    rw [cp_yes hx hb] at h
    obtain rfl := Option.some.inj h
    rw [Bool.and_eq_true, Bool.and_eq_true, decide_eq_true_eq] at hb
    obtain ⟨⟨hf, hs⟩, ht⟩ := hb
    rw [← val_sg hf] at h2 ⊢
    have eu : sg (cutS x (some 2) none) = (sg x).drop 2 := by
      show sg (cutS x (some ((2 : Nat) : Int)) none) = _
      rw [sg_cutAt]
    have et : sg (cutS x none (some 2)) = (sg x).take 2 := by
      show sg (cutS x none (some ((2 : Nat) : Int))) = _
      rw [sg_cutTo]
    have hv : 0 ≤ valI (cutS x (some 2) none) := valI_pos.mpr hf
    have hne := (valI_inv hv).2
    have hd : sg (cutS x (some 2) none) = dg (valI (cutS x (some 2) none)) := by
      cases e : sg (cutS x (some 2) none) with
      | nil => exact absurd e hne
      | cons d ds =>
        rw [← e]
        refine dg_back hv e fun z => ?_
        have : Txt.startswith (cutS x (some 2) none) (Str.ofString "0") = true := by
          rw [starts0, e, z]
          rfl
        rw [show Txt.startswith (cutS x (some 2) none) "0" = true from this] at hs
        cases hs
    have hlen : (cutS x (some 2) none).length ≤ 99 := by
      rcases Nat.lt_or_ge (cutS x (some 2) none).length 100 with h | h
      · omega
      · have h3 := padz_big h
        have := congrArg (fun z : Str => (sg z).length) ht
        have e2 : (sg (cutS x none (some 2))).length ≤ 2 := by rw [et, List.length_take]; omega
        have e3 : (sg (cnT (cutS x (some 2) none).length)).length = (padz 2 ((cutS x (some 2) none).length : Int)).length := rfl
        have e4 : (sg (cutS x none (some 2))).length = (sg (cnT (cutS x (some 2) none).length)).length := this
        omega
    refine ⟨fun c e => ⟨h2 c e, by rw [← Option.some.inj e, ← hd, sg_len]; exact hlen⟩, ?_⟩
    show sg x = padz 2 ((dg (valI (cutS x (some 2) none))).length : Nat) ++ dg (valI (cutS x (some 2) none))
    rw [← hd, sg_len]
    have e5 : sg (cutS x none (some 2)) = padz 2 ((cutS x (some 2) none).length : Nat) := by rw [ht]; rfl
    rw [← e5, et, eu, List.take_append_drop]
theorem lastP_inv {l : Str} {yr cp : Option Int} (h : lastP l = some (yr, cp)) (hy : ∀ y, yr = some y → 1000 ≤ y ∧ y ≤ 2999) (h2 : ∀ c, cp = some c → 2 ≤ c) : C99 cp ∧ sg l = yr4 yr ++ cpd cp := by
  unfold lastP at h
  cases hf : figuresOk (l4 l) with
  | false => rw [if_pos hf] at h; cases h
  | true =>
    rw [hf, if_neg (by decide)] at h
    obtain ⟨c, hc, e⟩ := Option.map_eq_some_iff.mp h
    obtain ⟨ey, ec⟩ := Prod.mk.inj e
    subst ec
    obtain ⟨h99, ex⟩ := cpOf_inv hc h2
    refine ⟨h99, ?_⟩
    have g4 : sg (l4 l) = (sg l).take 4 := by
      show sg (cutS l none (some ((4 : Nat) : Int))) = _
      rw [sg_cutTo]
    have g4x : sg (l4x l) = (sg l).drop 4 := by
      show sg (cutS l (some ((4 : Nat) : Int)) none) = _
      rw [sg_cutAt]
    have hne : sg (l4x l) ≠ [] := by
      rw [ex]
      cases c with
      | none => exact fun z => nomatch z
      | some c =>
        intro z
        have hd1 : 1 ≤ (dg c).length := (dg_low (c := c) (by have := h2 c rfl; omega)).1
        have := congrArg List.length (show padz 2 ((dg c).length : Nat) ++ dg c = [] from z)
        rw [List.length_append, List.length_nil] at this
        omega
    have n4 : (l4 l).length = 4 := by
      rw [← sg_len, g4, List.length_take]
      have : 0 < ((sg l).drop 4).length := by rw [← g4x]; exact List.length_pos_iff.mpr hne
      rw [List.length_drop] at this
      omega
    have i4 := (valI_inv (x := l4 l) (valI_pos.mpr hf)).1
    rw [n4] at i4
    rw [← List.take_append_drop 4 (sg l), ← g4, ← g4x, ex]
    congr 1
    by_cases hz : l4 l = Str.ofString "0000"
    · rw [if_pos hz] at ey
      rw [← ey, hz, sg_0000]
      rfl
    · rw [if_neg hz] at ey
      have hyy := hy _ ey.symm
      rw [← ey, i4]
      show _ = dg _
      have e := (yr4_fig (o := some (valI (l4 l))) (fun y e => by rw [← Option.some.inj e]; omega)).2.1
      have e : (dg (valI (l4 l))).length = 4 := e
      unfold padz
      rw [e]
      rfl
/-- what the program's reading makes a mark of -/
def mofS (t : Str) : Option MK :=
  match Txt.split (cutS t (some 7) none) (Str.ofString " ") with
  | [] => none
  | w :: ws => if figuresOk (t37 t) = false ∨ ws.length < 1 then none
    else (lastP (ws.getLast?.getD w)).map fun p => ⟨rsT (t3 t), valI (t37 t), w, ws.dropLast, p.1, p.2⟩
theorem mof_b {t w : Str} {ws : List Str} (hs : Txt.split (cutS t (some 7) none) (Str.ofString " ") = w :: ws) :
    mofS t = if figuresOk (t37 t) = false ∨ ws.length < 1 then none else (lastP (ws.getLast?.getD w)).map fun p => ⟨rsT (t3 t), valI (t37 t), w, ws.dropLast, p.1, p.2⟩ := by
  unfold mofS
  rw [hs]
theorem rd_mof {t : Str} {m : MK} (ht : t.length ≤ 600) : rdS t = some m ↔ mofS t = some m ∧ m.Ok := by
  obtain ⟨w, ws, hsp, hw, hsg⟩ := split_any (cutS t (some 7) none)
  have hl7 : (cutS t (some 7) none).length ≤ 600 := Nat.le_trans (cut_leN _ _ _) ht
  have hlw : ∀ y ∈ w :: ws, y.length ≤ 600 := fun y hy => Nat.le_trans (word_len hsg hy) hl7
  constructor
  · intro h
    refine ⟨?_, (rdS_inv ht h).1⟩
    by_cases hA : letL (t3 t) = false ∨ ((t37 t).length : Int) ≠ 4 ∨ valI (t37 t) < 1
    · unfold rdS at h
      rw [if_pos hA] at h
      cases h
    rw [rd_b hA hsp] at h
    by_cases hC : ws.length < 1 ∨ 4 < ws.length ∨ pointsOk w = false ∨ ws.dropLast.all makerOk = false
    · rw [if_pos hC] at h
      cases h
    rw [if_neg hC] at h
    obtain ⟨⟨y, c⟩, hl, rfl⟩ := Option.map_eq_some_iff.mp h
    obtain ⟨iy, ic, il⟩ := lastR_inv (hlw _ (last_in ws)) hl
    have hv : 0 ≤ valI (t37 t) := by
      rcases Int.lt_or_le (valI (t37 t)) 1 with e | e
      · exact absurd (.inr (.inr e)) hA
      · omega
    rw [mof_b hsp, if_neg, lastP_fil iy ic il]
    · rfl
    · rintro (h | h)
      · rw [valI_pos.mp hv] at h; cases h
      · exact hC (.inl h)
  · rintro ⟨h, ok⟩
    rw [mof_b hsp] at h
    by_cases hA : figuresOk (t37 t) = false ∨ ws.length < 1
    · rw [if_pos hA] at h; cases h
    rw [if_neg hA] at h
    obtain ⟨⟨y, c⟩, hl, rfl⟩ := Option.map_eq_some_iff.mp h
    obtain ⟨h99, il⟩ := lastP_inv hl ok.y fun c e => (ok.c c e).1
    have hws : 1 ≤ ws.length := by
      rcases Nat.lt_or_ge ws.length 1 with e | e
      · exact absurd (.inr e) hA
      · exact e
    have h8 : 8 ≤ t.length := by
      have g7 : sg (cutS t (some 7) none) = (sg t).drop 7 := by
        show sg (cutS t (some ((7 : Nat) : Int)) none) = _
        rw [sg_cutAt]
      have e := congrArg List.length (g7.symm.trans hsg)
      rw [List.length_drop, List.length_append, sg_len] at e
      have : 1 ≤ (ws.map fun x => 32 :: sg x).flatten.length := by
        cases ws with
        | nil => exact absurd hws (by decide)
        | cons a as =>
          rw [List.map_cons, List.flatten_cons, List.length_append, List.length_cons]
          omega
      omega
    have g3 : sg (t3 t) = (sg t).take 3 := by
      show sg (cutS t none (some ((3 : Nat) : Int))) = _
      rw [sg_cutTo]
    have g37 : sg (t37 t) = ((sg t).drop 3).take 4 := by
      show sg (cutS t (some ((3 : Nat) : Int)) (some ((7 : Nat) : Int))) = _
      rw [sg_cutM]
    have n3 : (t3 t).length = 3 := by rw [← sg_len, g3, List.length_take, sg_len]; omega
    have n37 : (t37 t).length = 4 := by rw [← sg_len, g37, List.length_take, List.length_drop, sg_len]; omega
    have hL : letL (t3 t) = true := by
      unfold letL
      rw [show lettersOk (rsT (t3 t)) 3 = true from ok.l, Bool.and_true]
      exact decide_eq_true (by omega)
    have hn : 1 ≤ valI (t37 t) := ok.n.1
    rw [rd_b (by
      rintro (h | h | h)
      · rw [hL] at h; cases h
      · omega
      · omega) hsp, if_neg, lastR_fil ok.y h99 il]
    · rfl
    · have hk : ws.dropLast.length ≤ 3 := ok.k
      rw [List.length_dropLast] at hk
      rintro (h | h | h | h)
      · omega
      · omega
      · rw [show pointsOk w = true from ok.p] at h; cases h
      · rw [List.all_eq_true.mpr fun k hk => (ok.ks k hk).1] at h; cases h

section
variable {X : Cx} {pos p : Pos}
theorem pgs_star {e : Expr} {es : List Expr} {t : TG} {u : TGs} (h1 : PG X e t) (h2 : PGs X es u)
    (hs : (assignEach (.Starred e p :: es) X.env).map (·.2) = assign e X.env :: (assignEach es X.env).map (·.2) := by rfl) : PGs X (.Starred e p :: es) (gCons t u) := by
  refine ⟨fun pins s σ H vs us Q I r h => ?_⟩
  obtain ⟨v, vr, e1, h⟩ := h
  subst e1
  cases r with
  | cons r rr =>
    rw [hs]
    refine assignInOrder_cons (thn (h1.run pins s σ H _ _ _ I r h) fun _ s1 ⟨σ1, H1, I1, q1⟩ => ?_)
    exact h2.run pins s1 σ1 H1 _ _ Q I1 rr q1
/-- (a, .., *b) = a list -/
def gTupStar (K : PySem.W.Frag) (n : Nat) (t : TGs) : TG := fun v σ H Q => ∃ a xs, v = .ref a ∧ SqL K H a xs ∧ n ≤ xs.length + 1 ∧ xs.length ≤ 16000 ∧ 0 < n ∧ ∀ d, H d = none → t (xs.take (n - 1) ++ [.ref d]) σ (upd H d (.lst (xs.drop (n - 1)))) Q
theorem vals_take {vs : List V} {us : List Value} (r : Vals vs us) : ∀ n, Vals (vs.take n) (us.take n) := by
  induction r with
  | nil => intro n; rw [List.take_nil, List.take_nil]; exact .nil
  | cons h r ih =>
    intro n
    cases n with
    | zero => exact .nil
    | succ n => exact .cons h (ih n)
theorem vals_drop {vs : List V} {us : List Value} (r : Vals vs us) : ∀ n, Vals (vs.drop n) (us.drop n) := by
  induction r with
  | nil => intro n; rw [List.drop_nil, List.drop_nil]; exact .nil
  | cons h r ih =>
    intro n
    cases n with
    | zero => exact .cons h r
    | succ n => exact ih n
theorem pg_tupStar {es : List Expr} {k n : Nat} {t : TGs} (hc : X.calm = true) (h : PGs X es t)
    (hn : (assignEach es X.env).length = n := by rfl) (hst : (assignEach es X.env).findIdx? (·.1) = some (n - 1) := by rfl) : PG X (.Tuple es k pos) (gTupStar X.K n t) := by
  refine ⟨fun pins s σ H v u Q I r hw => ?_⟩
  obtain ⟨a, xs, rfl, hq, hl, hz, h0, hw⟩ := hw
  cases r
  obtain ⟨its, rv, hl', hsz⟩ := I.list hq
  have hlen : its.length = xs.length := rv.length.symm
  have hh := I.ok.hd hc
  obtain ⟨o9, n9, ho9, hc9, _, hd9⟩ := hl'
  have hlt : a ≠ s.heap.objs.size := Nat.ne_of_lt (Heap.lt_size ho9)
  rw [assign_Tuple]
  refine wpAny_bind (wpAny_standAt ?_)
  unfold unpack
  rw [hn, hst]
  refine wpAny_bind (wpAny_holding ?_)
  unfold unpackItems
  refine wpAny_bind ?_
  unfold notIterableAtAll
  have hl2 : s.heap.IsList a its.toArray := ⟨o9, ho9, hc9, n9, hd9⟩
  refine wpAny_bind (wpAny_specialOf hl2.typeIs PySem.F.slot_list_iter.lookup ?_)
  refine wpAny_pure ?_
  simp only [Bool.false_eq_true, if_false]
  refine wpAny_bind (wpAny_holding (wpAny_pyIter_list hl2 ?_))
  refine wpAny_bind (wpAny_holding (PySem.W.kun_draw hlt (n - 1) 0 _ _ ⟨_, Heap.get?_push_size _ rfl, rfl, rfl⟩ (hl2.push _) (by simp; omega) fun h₁ hit₁ hs₁ => ?_))
  have hl₁ : h₁.IsList a its.toArray := (hl2.push _).extBut hs₁.extBut hlt
  rw [Nat.zero_add] at hit₁
  have hit₁' := hit₁
  obtain ⟨oi, hoi, _⟩ := hit₁'
  have hl₁' := hl₁
  obtain ⟨ol, hol, _⟩ := hl₁'
  rw [List.drop_zero]
  have hfl : (its.toArray.toList.take (n - 1)).length = n - 1 := by rw [List.length_take]; simp; omega
  rw [if_neg (show ¬ ((its.toArray.toList.take (n - 1)).length < n - 1) by rw [hfl]; omega)]
  refine wpAny_bind (wpAny_holding (PySem.W.kun_collect (s := { s with heap := h₁ }) (T := "list_iterator") (.inr (.inr (.inl rfl))) (Walks.list (A := X.A.in1) hh s.heap.objs.size a hlt its.toArray) (fun j u st => st.1.typeIs) (k := n - 1) (by simp; omega) ⟨hit₁, hl₁⟩ (Heap.lt_size hoi) (Heap.lt_size hol) (fun h₂ tk hk => ?_) (by rw [sizeLine_eq]; simp; omega)))
  show wpAny _ _ (if (its.toArray.toList.drop (n - 1)).length < n - 1 - (n - 1) then _ else _) _ _ _
  rw [if_neg (by omega)]
  show wpAny _ _ (newList ((its.toArray.toList.drop (n - 1)).take ((its.toArray.toList.drop (n - 1)).length - (n - 1 - (n - 1)))) >>= fun d => pure (its.toArray.toList.take (n - 1) ++ [d] ++ (its.toArray.toList.drop (n - 1)).drop ((its.toArray.toList.drop (n - 1)).length - (n - 1 - (n - 1))))) _ _ _
  have e1 : (its.toArray.toList.drop (n - 1)).take ((its.toArray.toList.drop (n - 1)).length - (n - 1 - (n - 1))) = its.drop (n - 1) := by
    rw [show its.toArray.toList = its by simp, Nat.sub_self, Nat.sub_zero, List.take_length]
  have e2 : (its.toArray.toList.drop (n - 1)).drop ((its.toArray.toList.drop (n - 1)).length - (n - 1 - (n - 1))) = [] := by
    rw [show its.toArray.toList = its by simp, Nat.sub_self, Nat.sub_zero, List.drop_length]
  rw [e1, e2]
  have I1 : Inv X pins σ H { s with heap := h₂, toks := tk } := I.kept (t' := tk) fun b o e => hk b o (Nat.ne_of_lt (Heap.lt_size e)) (hs₁.extBut b o (Nat.ne_of_lt (Heap.lt_size e)) (Heap.get?_push_of_some _ e))
  refine wpAny_bind (wpAny_newList ?_ )
  refine wpAny_pure ?_
  have hf : H h₂.objs.size = none := I1.hok.fresh (Nat.le_refl _)
  have I2 : Inv X pins σ (upd H h₂.objs.size (.lst (xs.drop (n - 1)))) { s with heap := h₂.push { cls := .type "list", data := .seq (its.drop (n - 1)).toArray }, toks := tk } :=
    I1.laid (t' := tk) (fun b u e => Heap.get?_push_of_some _ e) (Nat.le_refl _) ⟨by rw [List.length_drop, sizeLine_eq]; omega, its.drop (n - 1), 0, vals_drop rv _, Heap.get?_push_size _ rfl⟩
  exact h.run pins _ σ _ _ _ Q I2 (by simpa using ((vals_take rv (n - 1)).append (Paired.cons (show RelV (.ref h₂.objs.size) (.ref h₂.objs.size) from rfl) .nil))) (hw _ hf)

/-- (a, .., *b, .., c) = a list, the star at i -/
def gTupStarI (K : PySem.W.Frag) (n i : Nat) (t : TGs) : TG := fun v σ H Q => ∃ a xs, v = .ref a ∧ SqL K H a xs ∧ n ≤ xs.length + 1 ∧ xs.length ≤ 16000 ∧ i < n ∧
  ∀ d, H d = none → t (xs.take i ++ (.ref d :: (xs.drop i).drop ((xs.drop i).length - (n - 1 - i)))) σ (upd H d (.lst ((xs.drop i).take ((xs.drop i).length - (n - 1 - i))))) Q
theorem pg_tupStarI {es : List Expr} {k n i : Nat} {t : TGs} (hc : X.calm = true) (h : PGs X es t)
    (hn : (assignEach es X.env).length = n := by rfl) (hst : (assignEach es X.env).findIdx? (·.1) = some i := by rfl) : PG X (.Tuple es k pos) (gTupStarI X.K n i t) := by
  refine ⟨fun pins s σ H v u Q I r hw => ?_⟩
  obtain ⟨a, xs, rfl, hq, hl, hz, h0, hw⟩ := hw
  cases r
  obtain ⟨its, rv, hl', hsz⟩ := I.list hq
  have hlen : its.length = xs.length := rv.length.symm
  have hh := I.ok.hd hc
  obtain ⟨o9, n9, ho9, hc9, _, hd9⟩ := hl'
  have hlt : a ≠ s.heap.objs.size := Nat.ne_of_lt (Heap.lt_size ho9)
  rw [assign_Tuple]
  refine wpAny_bind (wpAny_standAt ?_)
  unfold unpack
  rw [hn, hst]
  refine wpAny_bind (wpAny_holding ?_)
  unfold unpackItems
  refine wpAny_bind ?_
  unfold notIterableAtAll
  have hl2 : s.heap.IsList a its.toArray := ⟨o9, ho9, hc9, n9, hd9⟩
  refine wpAny_bind (wpAny_specialOf hl2.typeIs PySem.F.slot_list_iter.lookup ?_)
  refine wpAny_pure ?_
  simp only [Bool.false_eq_true, if_false]
  refine wpAny_bind (wpAny_holding (wpAny_pyIter_list hl2 ?_))
  refine wpAny_bind (wpAny_holding (PySem.W.kun_draw hlt i 0 _ _ ⟨_, Heap.get?_push_size _ rfl, rfl, rfl⟩ (hl2.push _) (by simp; omega) fun h₁ hit₁ hs₁ => ?_))
  have hl₁ : h₁.IsList a its.toArray := (hl2.push _).extBut hs₁.extBut hlt
  rw [Nat.zero_add] at hit₁
  have hit₁' := hit₁
  obtain ⟨oi, hoi, _⟩ := hit₁'
  have hl₁' := hl₁
  obtain ⟨ol, hol, _⟩ := hl₁'
  rw [List.drop_zero]
  have hfl : (its.toArray.toList.take i).length = i := by rw [List.length_take]; simp; omega
  rw [if_neg (show ¬ ((its.toArray.toList.take i).length < i) by rw [hfl]; omega)]
  refine wpAny_bind (wpAny_holding (PySem.W.kun_collect (s := { s with heap := h₁ }) (T := "list_iterator") (.inr (.inr (.inl rfl))) (Walks.list (A := X.A.in1) hh s.heap.objs.size a hlt its.toArray) (fun j u st => st.1.typeIs) (k := i) (by simp; omega) ⟨hit₁, hl₁⟩ (Heap.lt_size hoi) (Heap.lt_size hol) (fun h₂ tk hk => ?_) (by rw [sizeLine_eq]; simp; omega)))
  have ei : its.toArray.toList = its := by simp
  rw [ei]
  have hdl : (its.drop i).length = its.length - i := List.length_drop
  show wpAny _ _ (if (its.drop i).length < n - 1 - i then _ else _) _ _ _
  rw [if_neg (by rw [hdl]; omega)]
  show wpAny _ _ (newList ((its.drop i).take ((its.drop i).length - (n - 1 - i))) >>= fun d => pure (its.take i ++ [d] ++ (its.drop i).drop ((its.drop i).length - (n - 1 - i)))) _ _ _
  have I1 : Inv X pins σ H { s with heap := h₂, toks := tk } := I.kept (t' := tk) fun b o e => hk b o (Nat.ne_of_lt (Heap.lt_size e)) (hs₁.extBut b o (Nat.ne_of_lt (Heap.lt_size e)) (Heap.get?_push_of_some _ e))
  refine wpAny_bind (wpAny_newList ?_ )
  refine wpAny_pure ?_
  have hf : H h₂.objs.size = none := I1.hok.fresh (Nat.le_refl _)
  have hld : (xs.drop i).length = (its.drop i).length := by rw [List.length_drop, List.length_drop, hlen]
  rw [hld] at hw
  obtain ⟨c, hcc⟩ : ∃ c, c = (its.drop i).length - (n - 1 - i) := ⟨_, rfl⟩
  rw [← hcc] at hw ⊢
  have I2 : Inv X pins σ (upd H h₂.objs.size (.lst ((xs.drop i).take c))) { s with heap := h₂.push { cls := .type "list", data := .seq ((its.drop i).take c).toArray }, toks := tk } :=
    I1.laid (t' := tk) (fun b u e => Heap.get?_push_of_some _ e) (Nat.le_refl _) ⟨by rw [List.length_take, List.length_drop, sizeLine_eq]; omega, (its.drop i).take c, 0, vals_take (vals_drop rv _) _, Heap.get?_push_size _ rfl⟩
  refine h.run pins _ σ _ _ _ Q I2 ?_ (hw _ hf)
  rw [List.append_assoc]
  exact (vals_take rv i).append (Paired.cons (show RelV (.ref h₂.objs.size) (.ref h₂.objs.size) from rfl) (vals_drop (vals_drop rv i) c))

end

/-! ### the program's reading, walked -/
theorem cp_nn {x : Str} {c : Int} (h : cpOf x = some (some c)) : 0 ≤ c := by
  by_cases hx : x = Str.ofString "00"
  · rw [show cpOf x = some none from if_pos hx] at h
    cases h
  cases hb : (figuresOk (cutS x (some 2) none) && !Txt.startswith (cutS x (some 2) none) "0" && decide (cutS x none (some 2) = cnT (cutS x (some 2) none).length)) with
  | false => rw [cp_no hx hb] at h; cases h
  | true =>
    rw [cp_yes hx hb] at h
    rw [← Option.some.inj (Option.some.inj h)]
    omega
theorem cp_small {x : Str} {o : Option Int} (h : cpOf x = some o) : ∀ c, o = some c → c.natAbs.log2 < 1920 := fun c e => by
  subst e
  rcases Int.lt_or_le c 2 with h2 | h2
  · exact log2_small ⟨cp_nn h, by omega⟩
  · have h3 := (cpOf_inv h fun d e => by rw [← Option.some.inj e]; exact h2).1 c rfl
    have h4 := (dg_low (c := c) (by omega)).2.2
    have h5 : (10 : Int) ^ (dg c).length ≤ 10 ^ 99 := by exact_mod_cast Nat.pow_le_pow_right (show 0 < 10 by decide) h3.2
    have h6 : c.natAbs < 2 ^ 1920 := by
      have : (10 : Int) ^ 99 ≤ 2 ^ 1920 := by decide +kernel
      have h7 : (c.natAbs : Int) < 2 ^ 1920 := by omega
      exact_mod_cast h7
    exact PySem.Flt.log2_lt_of (by decide) h6
theorem lp_a {l : Str} (h : figuresOk (l4 l) = false) : lastP l = none := if_pos h
theorem lp_b {l : Str} (h : figuresOk (l4 l) = true) : lastP l = (cpOf (l4x l)).map fun c => (if l4 l = Str.ofString "0000" then none else some (valI (l4 l)), c) := by
  unfold lastP
  rw [h, if_neg (by decide)]
def spMof (K : PySem.W.Frag) (C : Addr) (Cs : List Addr) : Sp := fun vs H Q E => ∃ (t : Str) (Φ : List (V × W)) (mt : List (Addr × (HO → Prop))), vs = [.str t] ∧ t.length ≤ 600 ∧ S K C H Φ mt ∧ (∀ m x H', rdS t = some m → S K C H' ((.ref x, .m m) :: Φ) mt → Q (.ref x) H') ∧ (rdS t = none → OutA K C Φ mt Cs E)
section
variable {K : PySem.W.Frag} {C : Addr} {Cs : List Addr} {H : Hp} {Φ : List (V × W)} {mt : List (Addr × (HO → Prop))} {Q : VK} {E : XK} {t : Str}
theorem g_tupStar1 {σ : L2.St} {p : Addr} {w : Str} {ws : List Str} {tt : TGs} {N : L2.St → Hp → Prop} (s : S K C H Φ mt) (h : (.ref p, .l ((w :: ws).map W.s)) ∈ Φ) (hz : ws.length ≤ 15000) (q : ∀ d H', S K C H' ((.ref d, .l (ws.map W.s)) :: Φ) mt → tt [.str w, .ref d] σ H' N) : gTupStar K 2 tt (.ref p) σ H N := by
  cases s.rep (.f h) with
  | l hq hr =>
    have e := rep_strs hr
    subst e
    exact ⟨p, _, rfl, sq_of hq, by simp, by simp; omega, by decide, fun d hd => q d _ (s.addL hd (Ex.new hd) upd_same (.is ws V.str W.s fun x _ => .s x))⟩
theorem g_starTup {σ : L2.St} {p : Addr} {w : Str} {ws : List Str} {tt : TGs} {N : L2.St → Hp → Prop} (s : S K C H Φ mt) (h : (.ref p, .l (ws.map W.s)) ∈ Φ) (hn : 1 ≤ ws.length) (hz : ws.length ≤ 15000)
    (q : ∀ d H', S K C H' ((.ref d, .l (ws.dropLast.map W.s)) :: Φ) mt → tt [.ref d, .str (ws.getLast?.getD w)] σ H' N) : gTupStarI K 2 0 tt (.ref p) σ H N := by
  cases s.rep (.f h) with
  | l hq hr =>
    have e := rep_strs hr
    subst e
    rcases List.eq_nil_or_concat ws with rfl | ⟨ds, x, rfl⟩
    · exact absurd hn (by decide)
    rw [List.concat_eq_append] at *
    rw [List.dropLast_concat, List.getLast?_append] at q
    refine ⟨p, _, rfl, sq_of hq, by simp, by simp at hz ⊢; omega, by decide, fun d hd => ?_⟩
    rw [List.drop_zero, List.take_zero, List.nil_append, List.map_append, List.length_append, List.map_singleton, List.length_singleton, show (ds.map V.str).length + 1 - (2 - 1 - 0) = (ds.map V.str).length by omega, List.take_left, List.drop_left]
    exact q d _ (s.addL hd (Ex.new hd) upd_same (.is ds V.str W.s fun x _ => .s x))
theorem g_truL {σ : L2.St} {i : Nat} {p : Addr} {ws : List Str} {N : Bool → Hp → Prop} (hv : σ[i]? = some (some (.ref p))) (s : S K C H Φ mt) (h : (.ref p, .l (ws.map W.s)) ∈ Φ) (q : N (!ws.isEmpty) H) : tTru K (tVar i) σ H N := by
  cases s.rep (.f h) with
  | l hq hr =>
    have e := rep_strs hr
    subst e
    exact ⟨_, hv, !ws.isEmpty, .inl ⟨_, sq_of hq, by cases ws <;> rfl⟩, q⟩
theorem use_cof (s : S K C H Φ mt) (h : t.length ≤ 600) (kE : cpOf t = none → OutA K C Φ mt Cs E) (k : ∀ o H', cpOf t = some o → S K C H' Φ mt → Q (oi o) H') : spCof K C Cs [.str t] H Q E := ⟨t, Φ, mt, rfl, h, s, k, kE⟩
end
section
variable {P : Program} {w : World} {K : PySem.W.Frag} {mg : Str → Option Value} {base : Heap} {Z : Adr} {C : Addr}
theorem ok_mark_of (T : Txt K mg Z) : FnOk P w K mg base (L2N.CX P w) 9 Z.a_mark_of Z.d_mark_of ["text"] (spMof K Z.C_Mark (cAll Z)) := by
  refine okXN T.F_mark_of sc_mark_of (fun vs H Q E h => ?_) (fun cdv A outer s H vs Q E hr h => ?_)
  · obtain ⟨_, _, _, rfl, _⟩ := h; rfl
  · obtain ⟨t, Φ, mt, rfl, hz, s, kk, kE⟩ := h
    refine ⟨_, (pss_cons (ps_set (i := 1) sc_mark_of.nd rfl (.inl rfl) (pe_slice sl_str (pv 0) (po_some pe_int) (po_some pe_int)))
      (pss_cons (ps_asg (bmK K PySem.F.plainAttrs_str PySem.F.slot_str_split PySem.F.type_str_split mt_splitQ (pe_slice sl_str (pv 0) (po_some pe_int) po_none) (pa_cons pe_str pa_nil)) (pg_tupStar (n := 2) rfl (pgs_cons (pg_name (i := 2) sc_mark_of.nd rfl (.inl rfl)) (pgs_star (pg_name (i := 3) sc_mark_of.nd rfl (.inl rfl)) pgs_nil))))
      (pss_cons (ps_if (PW.pt (pw_or (pt_not (pt_val (pe_call (ok_is_figures T) (hr.mono (by decide)) rfl T.g_is_figures T.F_is_figures.kp T.b_is_figures .nil pass0 (pa_cons (pv 1) pa_nil)))) (pw_or1 (pt_not (pt_truthq (pv 3) (by intro _; rfl)))))) (pss_one (L2N.ps_raise rfl (L2N.takes_of rfl rfl rfl rfl) (L2H.PMk5.pmk (pmk5_oex T.ox_NoText T.i_NoText T.ti_NoText (ok_NoText_init T) (hr.mono (by decide)) T.b_NoText_init .nil pass0 rfl T.g_NoText (pa_cons (pv 0) pa_nil))))) pss_nil)
      (pss_cons (ps_asg (pv 3) (pg_tupStarI (n := 2) (i := 0) rfl (pgs_star (pg_name (i := 4) sc_mark_of.nd rfl (.inl rfl)) (pgs_cons (pg_name (i := 5) sc_mark_of.nd rfl (.inl rfl)) pgs_nil))))
      (pss_cons (ps_set (i := 6) sc_mark_of.nd rfl (.inl rfl) (pe_slice sl_str (pv 5) po_none (po_some pe_int)))
      (pss_cons (ps_if (pt_not (pt_val (pe_call (ok_is_figures T) (hr.mono (by decide)) rfl T.g_is_figures T.F_is_figures.kp T.b_is_figures .nil pass0 (pa_cons (pv 6) pa_nil)))) (pss_one (L2N.ps_raise rfl (L2N.takes_of rfl rfl rfl rfl) (L2H.PMk5.pmk (pmk5_oex T.ox_NoText T.i_NoText T.ti_NoText (ok_NoText_init T) (hr.mono (by decide)) T.b_NoText_init .nil pass0 rfl T.g_NoText (pa_cons (pv 0) pa_nil))))) pss_nil)
      (pss_cons (ps_set (i := 7) sc_mark_of.nd rfl (.inl rfl) (pe_call (ok_copy_of T) (hr.mono (by decide)) rfl T.g_copy_of T.F_copy_of.kp T.b_copy_of .nil (passEN (L2N.takes_of rfl rfl rfl rfl)) (pa_cons (pe_slice sl_str (pv 5) (po_some pe_int) po_none) pa_nil)))
      (pss_one (ps_ret (pe_make T.M_Mark (ok_Mark_init T) (hr.mono (by decide)) rfl T.g_Mark T.b_Mark_init .nil (passEN (L2N.takes_of rfl rfl rfl rfl)) (pa_cons (bmK K PySem.F.plainAttrs_str PySem.F.slot_str_rstrip PySem.F.type_str_rstrip mt_rstripChars (pe_slice sl_str (pv 0) po_none (po_some pe_int)) (pa_cons pe_str pa_nil)) (pa_cons (pe_callTy (call_intS) (by rfl) T.n_int (by decide +kernel) (pa_cons (pv 1) pa_nil)) (pa_cons (pv 2) (pa_cons (pv 4) (pa_cons (pe_ifExp (pt_cmpR op_eq (pv 6) (pe_gs rfl T.c_NO_YEAR) (nomark _)) pe_non (pe_callTy (call_intS) (by rfl) T.n_int (by decide +kernel) (pa_cons (pv 6) pa_nil))) (pa_cons (pv 7) pa_nil)))))))))))))))), ?_⟩
    obtain ⟨w0, ws, hsp, hw, hsg⟩ := split_any (cutS t (some 7) none)
    have hl3 : (cutS t none (some 3)).length ≤ 600 := Nat.le_trans (cut_leN _ _ _) hz
    have hl37 : (cutS t (some 3) (some 7)).length ≤ 600 := Nat.le_trans (cut_leN _ _ _) hz
    have hl7 : (cutS t (some 7) none).length ≤ 600 := Nat.le_trans (cut_leN _ _ _) hz
    have hbl : ((Str.ofString " ").length == 0) = false := by decide +kernel
    kxt_pos
    kopn_word
    refine g_splitQ s (by omega) hbl fun q H3 s3 => ?_
    rw [hsp] at s3
    kopn_word
    have hwn : ws.length ≤ 600 := by
      have key : ∀ ws : List Str, ws.length ≤ (ws.map fun x => 32 :: sg x).flatten.length := by
        intro ws
        induction ws with
        | nil => exact Nat.le_refl _
        | cons z ws ih =>
          rw [List.map_cons, List.flatten_cons, List.length_append, List.length_cons, List.length_cons]
          omega
      have e := congrArg List.length hsg
      rw [sg_len, List.length_append] at e
      have := key ws
      omega
    have hlw : ∀ y ∈ w0 :: ws, y.length ≤ 600 := fun y hy => Nat.le_trans (word_len hsg hy) hl7
    have hB := mof_b hsp
    have bad : mofS t = none → ∀ H', S K Z.C_Mark H' Φ mt → LetsAny H' (cAll Z) E := fun h H' s' => (kE (by
      cases hr : rdS t with
      | none => rfl
      | some m => rw [((rd_mof hz).mp hr).1] at h; cases h)).any s'
    have bad2 : ∀ m, mofS t = some m → ¬ m.Ok → ∀ H', S K Z.C_Mark H' Φ mt → LetsAny H' (cAll Z) E := fun m h ho H' s' => (kE (by
      cases hr : rdS t with
      | none => rfl
      | some m' =>
        have e := (rd_mof hz).mp hr
        rw [h] at e
        exact absurd (Option.some.inj e.1 ▸ e.2) ho)).any s'
    have badO : mofS t = none → OutA K Z.C_Mark Φ mt (cAll Z) E := fun h => kE (by
      cases hr : rdS t with
      | none => rfl
      | some m => rw [((rd_mof hz).mp hr).1] at h; cases h)
    refine g_tupStar1 s3 List.mem_cons_self (by omega) fun d H4 s4 => ?_
    refine ⟨_, _, rfl, _, _, rfl, rfl, ?_⟩
    dsimp only [gName, List.set]
    kopn_word
    refine ⟨_, rfl, Nat.le_trans hl37 (by decide), fun H5 e5 => ?_⟩
    have s5 := s4.ext e5
    cases hf : figuresOk (cutS t (some 3) (some 7)) with
    | false =>
      kopn_word
      exact mkA (bad (by rw [hB, if_pos (.inl hf)]) _ (by kt_ors)) (by simp) (ea_cons (ev_var rfl) ea_nil)
    | true =>
      kopn_word
      refine g_truL rfl s5 List.mem_cons_self ?_
      rcases Nat.lt_or_ge ws.length 1 with h0 | h1
      · have e0 : ws.isEmpty = true := by cases ws with
          | nil => rfl
          | cons a as => rw [List.length_cons] at h0; omega
        rw [e0]
        kopn_word
        exact mkA (bad (by rw [hB, if_pos (.inr h0)]) _ (by kt_ors)) (by simp) (ea_cons (ev_var rfl) ea_nil)
      have e0 : ws.isEmpty = false := by cases ws with
        | nil => exact absurd h1 (by decide)
        | cons a as => rfl
      rw [e0]
      rw [if_neg (show ¬ (figuresOk (t37 t) = false ∨ ws.length < 1) from fun h => h.elim (fun h => by rw [show figuresOk (t37 t) = true from hf] at h; cases h) (fun h => by omega))] at hB
      kopn_word
      refine g_starTup (w := w0) s5 List.mem_cons_self h1 (by omega) fun d2 H6 s6 => ?_
      refine ⟨_, _, rfl, _, _, rfl, rfl, ?_⟩
      dsimp only [gName, List.set]
      have hll6 : (ws.getLast?.getD w0).length ≤ 600 := hlw _ (last_in ws)
      generalize ws.getLast?.getD w0 = l at hB hll6 ⊢
      have q4 : (cutS l none (some 4)).length ≤ 600 := Nat.le_trans (cut_leN _ _ _) hll6
      have q4x : (cutS l (some 4) none).length ≤ 600 := Nat.le_trans (cut_leN _ _ _) hll6
      kopn_word
      refine ⟨_, rfl, Nat.le_trans q4 (by decide), fun H7 e7 => ?_⟩
      have s7 := s6.ext e7
      cases hf4 : figuresOk (cutS l none (some 4)) with
      | false =>
        kopn_word
        exact mkA (bad (by rw [hB, lp_a hf4]; rfl) _ (by kt_ors)) (by simp) (ea_cons (ev_var rfl) ea_nil)
      | true =>
        kopn_word
        refine use_cof s7 q4x (fun h => ?_) fun o H8 ho s8 => ?_
        · exact fun c hc v H' d' s' hd => badO (by rw [hB, lp_b hf4, show cpOf (l4x l) = none from h]; rfl) c hc v H' d' (s'.to (fun z hz => List.mem_cons_of_mem _ (List.mem_cons_of_mem _ (List.mem_cons_of_mem _ hz))) (List.Sublist.refl _)) hd
        · dsimp only [List.set]
          have hsz : (rsT (t3 t)).length ≤ 1000 ∧ w0.length ≤ 1000 ∧ ws.dropLast.length ≤ 1000 ∧ (∀ s ∈ ws.dropLast, s.length ≤ 1000) ∧ ∀ c, o = some c → c.natAbs.log2 < 1920 := by
            refine ⟨?_, Nat.le_trans (hlw _ List.mem_cons_self) (by omega), by rw [List.length_dropLast]; omega, fun s hs => Nat.le_trans (hlw _ (List.mem_cons_of_mem _ (List.dropLast_subset _ hs))) (by omega), cp_small ho⟩
            obtain ⟨k, e1, _⟩ := stripE_split 32 (sg (t3 t))
            rw [← sg_rsT] at e1
            have e2 := congrArg List.length e1
            rw [List.length_append, sg_len, sg_len] at e2
            have : (t3 t).length ≤ 600 := hl3
            omega
          have mk : ∀ (y : Option Int) (v4 : V), (if l4 l = Str.ofString "0000" then none else some (valI (l4 l))) = y → OiV v4 y → MakeW Z.C_Mark (spMarkA Z.C_Mark (cAll Z)) E (fun x => [x, .str (rsT (t3 t)), .int (valI (t37 t)), .str w0, .ref d2, v4, oi o]) H8 Q := fun y v4 hy hv => by
            have hm : mofS t = some ⟨rsT (t3 t), valI (t37 t), w0, ws.dropLast, y, o⟩ := by
              rw [hB, lp_b hf4, show cpOf (l4x l) = some o from ho, hy]
              rfl
            apply g_markB s8 (lt := rsT (t3 t)) (num := valI (t37 t)) (pts := w0) (ks := ws.dropLast) (yr := y) (cp := o)
            · intro _; rfl
            · exact hv
            · infer_instance
            · kt_at_method
            · exact hsz
            · exact fun ok x H' s' => kk _ _ _ ((rd_mof hz).mpr ⟨hm, ok⟩) (by kt_ors)
            · exact fun no => bad2 _ hm no _ (by kt_ors)
          kopn_word
          refine ⟨_, _, rfl, rfl, sz_of (by omega), ?_⟩
          kopn_word
          refine g_intV (valI_pos.mpr hf) hl37 ?_
          kopn_word
          · rename_i hy
            exact mk none _ (if_pos hy) inferInstance
          · rename_i hy
            refine g_intV (valI_pos.mpr hf4) q4 ?_
            kopn_word
            exact mk (some (valI (l4 l))) _ (if_neg hy) inferInstance
end

/-! ### caught -/
section
variable {K : PySem.W.Frag} {σ : L2.St} {H : Hp} {te : TE} {a C D c dd : Addr} {f : Str} {fs : List (Str × V)} {v : V} {b : Bool}
theorem ev_xf (h : Ev te σ H (.ref a)) (hd : H dd = some (.xd fs)) (hl : fs.lookup f = some v) : Ev (tXf a (.ref C) (some dd) C f te) σ H v := fun H1 e Q q => h H1 e _ fun H2 e2 => ⟨rfl, rfl, dd, fs, v, rfl, (e.trans e2) _ _ hd, hl, q H2 e2⟩
theorem rc_isX (T : ExcC K D) (hd : H dd = some (.xd fs)) (h : PySem.W.kitOne K (.ref D) (.ref c) = some b) : RC (rIsX K a (.ref D) (some dd)) [.ref a, .ref c] H (.bl b) := fun H1 e Q q =>
  ⟨D, .ref c, .ref c, b, dd, fs, rfl, rfl, T, rfl, e _ _ hd, fun _ r => by cases r; rfl, h, q H1 (Ex.refl _)⟩
end

/-! ### a def that lets nothing out, called in an except suite; == there -/
theorem _root_.L2H.RoomH.units {k : Nat} {A : Around} (r : L2H.RoomH k A) : A.units + 64 < cLine := by have := r.un; omega
theorem _root_.L2H.RoomH.units0 {k : Nat} {A : Around} (r : L2H.RoomH k A) : A.units < cLine := by have := r.un; omega
structure FnP (P : Program) (w : World) (K : PySem.W.Frag) (mg : Str → Option Value) (base : Heap) (k : Nat) (f : Addr) (fd : FuncData) (ps : List Str) (sp : Sp) : Prop where
  len : ∀ vs H Q E, sp vs H Q E → vs.length = ps.length
  go : ∀ (A : Around) (o : List Env) (t : Shared) (H : Hp) (ar : Args) (us : List Value) (vs : List V) (Q : VK) (E : XK) (p : Addr × Obj), L2H.RoomH k A → L2H.PinOk o H t p → Env0 P w K mg base A o t H → BindsTo t fd ar (ps.zip us) → Vals vs us → sp vs H Q E → codeAny (model P w) A (.call (.ref f) ar) (CR CX0 o P w H t Q E) t
section
variable {P : Program} {w : World} {K : PySem.W.Frag} {mg : Str → Option Value} {base : Heap} {k : Nat} {f : Addr} {fd : FuncData} {x qn : Str} {st : Stmt} {N ps : List Str} {sp : Sp}
theorem okP (F : Fun K x qn st f fd) (S : FnScope N ps (defScope st)) (len : ∀ vs H Q E, sp vs H Q E → vs.length = ps.length)
    (body : ∀ (cv : Value) (A : Around) (o : List Env) (t : Shared) (H : Hp) (vs : List V) (Q : VK) (E : XK) (p : Addr × Obj), L2H.RoomH k (A.deeper (envOfC qn (defScope st) t.heap.objs.size f cv)) → sp vs H Q E →
      ∃ u, PSs (L2H.cxH CX0 P w K mg base N qn (defScope st) f cv A o t H E p) (defBody st) u ∧ u { nx := fun _ H' => Q .non H', rt := Q } (start N vs) H) : FnP P w K mg base (k + 1) f fd ps sp := by
  obtain ⟨oc, od, kV, doc, pm, an, cv, ct, osl, rfl, look, code⟩ := F.ex
  refine ⟨len, fun A o t H ar us vs Q E p room pin en bd rel hsp => ?_⟩
  have stay := fun b ob (q : base.get? b = some ob) => (en.bs b ob q).1
  have written := en.mod.kin.keeps stay
  have kinds : ∀ y ∈ ps.zip us, (defScope st).names.lookup y.1 = some .local ∨ ((defScope st).names.lookup y.1 = some .cell ∧ ((cellsFrom (t.heap.objs.size + 1) (defScope st).names []).lookup y.1).isSome = true) := by
    rintro ⟨n, z⟩ hy
    cases S.par n (List.of_mem_zip hy).1 with
    | inl q => exact Or.inl q
    | inr q => exact Or.inr ⟨q, PySem.W.cellsFrom_some _ _ _ (Or.inl q)⟩
  apply codeAny_call_function room.depth (written _ _ look) rfl S.co S.gen rfl (PySem.W.codeRec_of written code) (bd _ _ _ _ ?_)
  apply wpAny_newFunctionEnv_cells S.kind kinds
  rintro _ rfl t1 inside
  refine ⟨(en.mod.nolimit.keeps stay).keeps inside.toInCall.keep, codeAny_func ?_⟩
  obtain ⟨u, hu, g⟩ := body _ A o t H vs Q E p (room.deeper _) hsp
  have inv := L2H.inv_startH (CX := CX0) (E := E) S pin en (len vs H Q E hsp) rel inside
  refine wpAny_mono (hu.run [] t1 (start N vs) H _ inv g) (fun fl t2 hs => ?_) fun e t2 hs => hs
  match fl, hs with
  | .ret z, ⟨v, σ', H', J, rv, q⟩ => exact ⟨v, H', J.os, J.bare, J.base, J.hok, rv, q⟩
  | .next, ⟨σ', H', J, q⟩ => exact ⟨V.non, H', J.os, J.bare, J.base, J.hok, rfl, q⟩
  | .brk, ⟨_, _, _, q⟩ => exact q.elim
  | .cont, ⟨_, _, _, q⟩ => exact q.elim
end
def rOr (R1 R2 : R2) : L2.R2 := fun x y H Q => R1 x y H Q ∨ R2 x y H Q
section
variable {X : Cx}
theorem op_or {f : Value → Value → Sem Value} {R1 R2 : L2.R2} (h1 : OpR X f R1) (h2 : OpR X f R2) : OpR X f (rOr R1 R2) := fun pins s σ H x y v u Q I rx ry h => h.elim (h1 pins s σ H x y v u Q I rx ry) (h2 pins s σ H x y v u Q I rx ry)
theorem op_eqP {C f : Addr} {fd : FuncData} {ps : List Str} {sp : Sp} {n : Nat} (F : FnP X.prog X.w X.K X.mg X.base n f fd ps sp) (hr : L2H.RoomH n X.A) (M : Meth X.K C "__eq__" f) (hb : Binds X.K fd ps []) (hp : ∃ p, p ∈ X.pn) :
    OpR X (compareOp .Eq) (rEqW C sp E0) := by
  intro pins s σ H x y v u Q I rx ry h
  obtain ⟨a, dx, fs, rfl, ha, hk, hsp⟩ := h
  obtain ⟨tb, L2', hn⟩ := hk.looks I ry
  obtain ⟨p, hpn⟩ := hp
  cases rx
  obtain ⟨mA, J, _⟩ := ins_get I.hok ha
  obtain ⟨od, J, _⟩ := J.look
  obtain ⟨m, hF⟩ := I.fr
  refine (show wpAny _ _ (richCompare .Eq _ _) _ _ _ from PySem.W.cmp_K (op := .Eq) (tb := tb) hr.units0 hF I.ok.mod.kin J L2' hn M.at_ M.fn ?_)
  have hl := F.len _ _ _ _ hsp
  have P1 := I.pin p (List.mem_append_left _ hpn)
  have pin : L2H.PinOk X.stack H s p := ⟨P1.1, P1.2.1, fun z => (List.mem_cons.mp (I.stkSub p.1 z)).elim P1.2.2.1 P1.2.2.2.1, P1.2.2.2.2⟩
  have b2 := hb s [.ref a, u] I.kIn (by simpa using hl)
  rw [List.append_nil] at b2
  refine wpAny_call (codeAny_mono (F.go X.A X.stack s H ⟨[.ref a, u], []⟩ [.ref a, u] [.ref a, y] _ E0 p hr pin I.env0 b2 (.cons rfl (.cons ry .nil)) hsp) fun r s' hq => ?_)
  match r, hq with
  | .error e, hq => exact hq.elim
  | .ok .next, hq => exact False.elim hq
  | .ok .brk, hq => exact False.elim hq
  | .ok .cont, hq => exact False.elim hq
  | .ok (.ret w), hq =>
    obtain ⟨z, H', I', rz, ⟨k, ez⟩, q⟩ := I.after hq
    subst ez
    cases rz
    exact ⟨.bl k, H', I', rfl, q⟩
theorem op_anyP (K : PySem.W.Frag) {C f : Addr} {fd : FuncData} {ps : List Str} {sp : Sp} {n : Nat} (F : FnP X.prog X.w X.K X.mg X.base n f fd ps sp) (hr : L2H.RoomH n X.A) (M : Meth X.K C "__eq__" f) (hb : Binds X.K fd ps []) (hp : ∃ p, p ∈ X.pn) (hK : X.K = K := by rfl) :
    OpR X (compareOp .Eq) (rOr rEq (rOr (rEqD K) (rEqW C sp E0))) := by
  subst hK
  exact op_or op_eq (op_or (op_eqD hr.units) (op_eqP F hr M hb hp))
end
section
variable {P : Program} {w : World} {K : PySem.W.Frag} {mg : Str → Option Value} {base : Heap} {Z : Adr} {C : Addr}
/-- as spEqS, of the same heap -/
def spEqH (K : PySem.W.Frag) (C : Addr) : Sp := fun vs H Q _ => ∃ (x : Addr) (y : V) (m : MK) (w : W) (Φ : List (V × W)) (mt : List (Addr × (HO → Prop))), vs = [.ref x, y] ∧ (.ref x, .m m) ∈ Φ ∧ KnM Φ mt y w ∧ w.isq = false ∧ S K C H Φ mt ∧ Q (.bl (eqMW m w)) H
theorem g_eqH {H : Hp} {Φ : List (V × W)} {mt : List (Addr × (HO → Prop))} {Q : VK} {E : XK} {a : Addr} {m : MK} {y : V} {w : W} (s : S K C H Φ mt) (h : (.ref a, .m m) ∈ Φ) (h2 : KnM Φ mt y w) (hq : w.isq = false) (k : Q (.bl (eqMW m w)) H) : rEqW C (spEqH K C) E (.ref a) y H Q := by
  obtain ⟨dx, fs, h1⟩ := s.insM h
  exact ⟨a, dx, fs, rfl, h1, kdv_of (s.repM h2) hq, a, y, m, w, Φ, mt, rfl, h, h2, hq, s, ⟨_, rfl⟩, k⟩
theorem okP_Mark_eq (T : Txt K mg Z) : FnP P w K mg base 1 Z.a_Mark_eq Z.d_Mark_eq ["self", "other"] (spEqH K Z.C_Mark) := by
  refine okP T.F_Mark_eq sc_Mark_eq (fun vs H Q E h => ?_) (fun cdv A outer s H vs Q E p hr h => ?_)
  · obtain ⟨_, _, _, _, _, _, rfl, _⟩ := h; rfl
  · obtain ⟨x, y, m, w, Φ, mt, rfl, hx, hy, hq, s, kk⟩ := h
    refine ⟨_, (pss_one (ps_ret (pe_and (pe_callB (isiK K) (by rfl) T.n_isinstance (by decide +kernel) (pa_cons (pv 1) (pa_cons (pe_glob (v := .ref Z.C_Mark) rfl T.g_Mark rfl) pa_nil))) (pe_one (pe_cmpR (eqDK K hr.units) (fldK K (pv 0) rfl) (fldK K (pv 1) rfl) (nomark _)))))), ?_⟩
    have no : ∀ {T1 : String}, KdT H y T1 → eqMW m w = false → tRet (tAndV (tCB (rIsi K) (tCons (tVar 1) (tCons (tC (.ref Z.C_Mark)) tNil))) (tOp (rEqD K) (tFld K (tVar 0) "_parts") (tFld K (tVar 1) "_parts"))) { nx := fun _ H' => Q .non H', rt := Q } [some (.ref x), some y] H := fun k e =>
      ⟨_, rfl, _, _, _, _, false, rfl, .own Z.C_Mark, k.tyx, k.notC T.ki_Mark, false, rfl, iteF (by rw [e] at kk; exact kk)⟩
    have r := s.repM hy
    cases hw : w with
    | m n =>
      subst hw
      obtain ⟨⟨dx, pa, ma, h1, h2, h3⟩, okm⟩ := s.mark hx
      cases r with
      | m hn okn =>
        obtain ⟨dy, pb, mb, g1, g2, g3⟩ := hn
        refine ⟨_, rfl, _, _, _, _, true, rfl, .own Z.C_Mark, .base (.ins g1 T.cl_Mark T.t1_Mark T.t2_Mark T.t3_Mark T.t4_Mark), kit_self, true, rfl, iteT ?_⟩
        refine ⟨_, rfl, x, Z.C_Mark, dx, _, _, rfl, h1, T.cl_Mark, T.na_Mark_parts, by kernel_rfl, _, rfl, _, Z.C_Mark, dy, _, _, rfl, g1, T.cl_Mark, T.na_Mark_parts, by kernel_rfl, m.data, n.data, dp_data h2 h3, dp_data g2 g3, shaped_ok okm, shaped_ok okn, ?_⟩
        rw [eqv_d okm okn]
        exact kk
    | q _ => rw [hw] at hq; cases hq
    | i _ => subst hw; cases r; exact no (.int _) rfl
    | b _ => subst hw; cases r; exact no (.bl _) rfl
    | n => subst hw; cases r; exact no .non rfl
    | s _ => subst hw; cases r; exact no (.str _) rfl
    | l _ => subst hw; cases r with | l h _ => exact no (.lst h) rfl
    | t _ => subst hw; cases r with | t h _ => exact no (.tup h) rfl
end

/-! ### unfiled, of texts and of what is none -/
def NS (K : PySem.W.Frag) (C : Addr) (Φ : List (V × W)) (mt : List (Addr × (HO → Prop))) (v : V) : Prop := ∀ H, S K C H Φ mt → ∃ ty, TyX K H v ty ∧ PySem.W.kitOne K ty (.type "str") = some false
def OutX (K : PySem.W.Frag) (C : Addr) (Φ : List (V × W)) (mt : List (Addr × (HO → Prop))) (CT : Addr) (v : V) (E : XK) : Prop := ∀ H' d, S K C H' Φ mt → H' d = some (.xd [("found", v)]) → E (.ref CT) (some d) H'
def spUnf (K : PySem.W.Frag) (C CT : Addr) : Sp := fun vs H Q E => ∃ (v : V) (Φ : List (V × W)) (mt : List (Addr × (HO → Prop))), vs = [v] ∧ S K C H Φ mt ∧
  ((∃ t, v = .str t ∧ t.length ≤ 600 ∧ (∀ m x H', rdS t = some m → S K C H' ((.ref x, .m m) :: Φ) mt → Q (.ref x) H') ∧ (rdS t = none → OutX K C Φ mt CT v E)) ∨ (NS K C Φ mt v ∧ OutX K C Φ mt CT v E))
section
variable {K : PySem.W.Frag} {C CM : Addr} {σ : L2.St} {H : Hp} {Φ : List (V × W)} {mt : List (Addr × (HO → Prop))} {Q : VK} {E : XK} {tt : TT} {te : TE} {t : Str} {Cs : List Addr}
theorem isi_str {K : PySem.W.Frag} {H : Hp} {Q : VK} {u : Str} {b : Bool} (h : PySem.W.kitOne K (.type "str") (.type "str") = some b) (k : Q (.bl b) H) : rIsi K [.str u, .ty "str"] H Q := ⟨_, _, _, _, b, rfl, .ty _, .base (.str u), h, k⟩

instance {sp : Sp} {E : L2.St → XK} {ta : TA} {σ : L2.St} {H : Hp} {Q : VK} : St1 (tCallS sp E ta σ H Q) (ta σ H fun vs H1 => sp vs H1 Q (E σ)) := ⟨fun h => h⟩
theorem g_raise {x : Str} {v : V} {i : Nat} (hv : σ[i]? = some (some v)) (s : S K C H Φ mt) (k : ∀ d H', H' d = some (.xd [(x, v)]) → S K C H' Φ mt → E (.ref CM) (some d) H') : tMkO CM (spXi CM x) [] (tCons (tVar i) tNil) σ H E :=
  mkO_use (ea_cons (ev_var hv) ea_nil) fun H1 e d hd => k d _ upd_same ((s.ext e).ext (Ex.new hd))
theorem use_mof (s : S K C H Φ mt) (h : t.length ≤ 600) (kE : rdS t = none → OutA K C Φ mt Cs E) (k : ∀ m x H', rdS t = some m → S K C H' ((.ref x, .m m) :: Φ) mt → Q (.ref x) H') : spMof K C Cs [.str t] H Q E := ⟨t, Φ, mt, rfl, h, s, k, kE⟩
end
local macro_rules | `(tactic| kt_at_get) => `(tactic| with_reducible first
  | refine st_go ?_
  | (apply isi_str; (focus (exact kit_ty (r := true) (by decide +kernel))))
  | (apply g_tyS))
section
variable {P : Program} {w : World} {K : PySem.W.Frag} {mg : Str → Option Value} {base : Heap} {Z : Adr} {C : Addr}
theorem em_all (T : Txt K mg Z) : ∀ c ∈ cAll Z, PySem.W.exmOne K (.ref c) (.ref Z.C_MarkError) = some true := fun c hc => by
  simp only [List.mem_cons, List.not_mem_nil, or_false] at hc
  rcases hc with rfl | rfl | rfl | rfl | rfl | rfl | rfl | rfl
  · exact T.em_NoLetters_MarkError
  · exact T.em_NoNumber_MarkError
  · exact T.em_NoPoints_MarkError
  · exact T.em_NoMakers_MarkError
  · exact T.em_NoMaker_MarkError
  · exact T.em_NoYear_MarkError
  · exact T.em_NoCopy_MarkError
  · exact T.em_NoText_MarkError
theorem ok_unfiled (T : Txt K mg Z) : FnOk P w K mg base (L2.CX P w) 10 Z.a_unfiled Z.d_unfiled ["text"] (spUnf K Z.C_Mark Z.C_NoText) := by
  refine T.F_unfiled.okX sc_unfiled (fun vs H Q E h => ?_) (fun cdv A outer s H vs Q E hr h => ?_)
  · obtain ⟨_, _, _, rfl, _⟩ := h; rfl
  · obtain ⟨v, Φ, mt, rfl, s, hh⟩ := h
    refine ⟨_, (pss_cons (ps_if (pt_not (pt_val (pe_callB (isiK K) (by rfl) T.n_isinstance (by decide +kernel) (pa_cons (pv 0) (pa_cons (pe_bltn (v := .ty "str") (by rfl) T.n_str (by decide +kernel) rfl) pa_nil))))) (pss_one (ps_raise rfl (takes_of rfl rfl rfl rfl) (pmk_oex T.ox_NoText T.i_NoText T.ti_NoText (ok_NoText_init T) (hr.mono (by decide)) T.b_NoText_init .nil pass0 rfl T.g_NoText (pa_cons (pv 0) pa_nil)))) pss_nil)
      (pss_one (L2H.ps_try_onlyX rfl rfl ⟨rfl, by decide, .inl T.g_MarkError⟩ (L2H.passesAt_of rfl) (takes_of rfl rfl rfl rfl) (fun W pn xe tk tkp _ => (pss_one (ps_ret (pe_callS (ok_mark_of T) (hr.mono (by decide)) rfl T.g_mark_of T.F_mark_of.kp T.b_mark_of (fun σ => L2N.passAt tk σ) (pa_cons (pv 0) pa_nil)))))
      (fun a oe cls d pn hz hf tkS hot => (pss_one (L2H.ps_raiseHN hot tkS (L2H.pmk5_oexH T.ox_NoText T.i_NoText T.ti_NoText (okH_NoText_init T) (L2H.roomH_mark (hr.mono (by decide)) _) hot T.b_NoText_init pass0 rfl T.g_NoText (pa_cons (pv 0) pa_nil)))))))), ?_⟩
    rcases hh with ⟨t, rfl, hz, kk, kE⟩ | ⟨hn, kE⟩
    · kxt_pos
      kopn_word
      show spMof K Z.C_Mark (cAll Z) [.str t] H _ _
      refine use_mof s hz (fun h => ?_) kk
      exact fun c hc v H' d s' hd => ⟨true, em_all T c hc, fun _ a ha => g_raise rfl s' fun d2 H2 h2 s2 => kE h _ _ s2 h2, fun z => nomatch z⟩
    · kxt_pos
      kopn_word
      obtain ⟨ty, h1, h2⟩ := hn H s
      refine ⟨_, _, _, _, false, rfl, .ty _, h1, h2, ?_⟩
      kopn_word
      exact g_raise rfl s fun d2 H2 h2 s2 => kE _ _ s2 h2
inductive Tk (K : PySem.W.Frag) (C : Addr) (Φ : List (V × W)) (mt : List (Addr × (HO → Prop))) : V → Prop
  | t {t : Str} (h1 : t.length ≤ 600) (h : rdS t = none) : Tk K C Φ mt (.str t)
  | c {v : V} (ns : NS K C Φ mt v) (h : scal v v = true) : Tk K C Φ mt v
  | d {v : V} {w : W} {d z : Nat} (ns : NS K C Φ mt v) (h : KnM Φ mt v w) (l : Ly w d z) (hd : d ≤ 64) : Tk K C Φ mt v
  | m {x : Addr} {m : MK} (ns : NS K C Φ mt (.ref x)) (h : (.ref x, .m m) ∈ Φ) : Tk K C Φ mt (.ref x)
def spRefu (K : PySem.W.Frag) (C : Addr) : Sp := fun vs H Q _ => ∃ (v : V) (Φ : List (V × W)) (mt : List (Addr × (HO → Prop))), vs = [v] ∧ S K C H Φ mt ∧ Tk K C Φ mt v ∧ ∀ H', S K C H' Φ mt → Q (.bl true) H'
theorem ok_l_refused (T : Txt K mg Z) : FnOk P w K mg base CX0 11 Z.a_l_refused Z.d_l_refused ["_law_thing"] (spRefu K Z.C_Mark) := by
  refine T.F_l_refused.ok sc_l_refused (fun vs H Q E h => ?_) (fun cdv A outer s H vs Q E hr h => ?_)
  · obtain ⟨_, _, _, rfl, _⟩ := h; rfl
  · obtain ⟨v, Φ, mt, rfl, s, hh, kk⟩ := h
    refine ⟨_, (pss_cons (ps_tryA rfl rfl sc_l_refused.nd takes0 (fun W pn xe tk _ => (pss_one (ps_expr (pe_callS (ok_unfiled T) (hr.mono (by decide)) rfl T.g_unfiled T.F_unfiled.kp T.b_unfiled (fun σ => passAt tk σ) (pa_cons (pv 0) pa_nil)))))
      (.named (i := 1) rfl rfl ⟨rfl, by decide, .inl T.g_NoText⟩ (fun a oe cls d pn hz hf => (pss_one (ps_ret (pe_and (pe_cmpR (op_anyP K (okP_Mark_eq T) (L2H.roomH_mark (hr.mono (by decide)) _) T.m_Mark_eq T.b_Mark_eq ⟨_, List.mem_cons_self⟩) (pe_xf T.xf_NoText T.no_NoText hz hf (pv 1)) (pv 0) (nomark _)) (pe_and (pe_callB (call_isX hz hf) (by rfl) T.n_isinstance (by decide +kernel) (pa_cons (pv 1) (pa_cons (pe_glob (v := .ref Z.C_MarkError) rfl T.g_MarkError rfl) pa_nil))) (pe_one (pe_not (pe_callB (call_isX hz hf) (by rfl) T.n_isinstance (by decide +kernel) (pa_cons (pv 1) (pa_cons (pe_glob (v := .ref Z.C_Alike) rfl T.g_Alike rfl) pa_nil))))))))))
      .nil))
      (pss_one (ps_ret pe_bl))), ?_⟩
    kxt_pos
    kopn_word
    show tDrop _ _ _ _
    kopn_word
    have key : ∀ {W : XK} {Q' : VK}, OutX K Z.C_Mark Φ mt Z.C_NoText v W → spUnf K Z.C_Mark Z.C_NoText [v] H Q' W := fun hW => by
      refine ⟨v, Φ, mt, rfl, s, ?_⟩
      cases hh with
      | t h1 h => exact .inl ⟨_, rfl, h1, (fun m x H' e => by rw [h] at e; cases e), fun _ => hW⟩
      | c ns h => exact .inr ⟨ns, hW⟩
      | d ns h l hd => exact .inr ⟨ns, hW⟩
      | m ns h => exact .inr ⟨ns, hW⟩
    refine key fun H' d s' hd => ?_
    refine ⟨true, T.em_NoText_NoText, fun _ a ha => ?_, fun h => nomatch h⟩
    have e0 : ∀ {H2 : Hp} {R : VK}, S K Z.C_Mark H2 Φ mt → R (.bl true) H2 → rOr rEq (rOr (rEqD K) (rEqW Z.C_Mark (spEqH K Z.C_Mark) E0)) v v H2 R := fun {H2 R} s2 k => by
      cases hh with
      | t h1 h => exact .inl ⟨rfl, by rw [decide_eq_true rfl]; exact k⟩
      | c ns h => exact .inl ⟨h, by rw [decide_eq_true rfl]; exact k⟩
      | d ns h l hd => exact .inr (.inl (g_eqD0 s2 h h l hd k))
      | @m x m ns h => exact .inr (.inr (g_eqH s2 h (.k (.f h)) rfl (by
          rw [show eqMW m (.m m) = kE m m from rfl, kE_self]
          exact k)))
    dsimp only [List.set]
    kopn_word
    refine ev_xf (v := v) (fs := [("found", v)]) (ev_var rfl) hd (by kernel_rfl) _ (Ex.refl _) _ fun H2 e2 => ?_
    refine ⟨_, rfl, ?_⟩
    refine e0 (s'.ext e2) ?_
    kopn_word
    have hd2 := e2 _ _ hd
    refine rc_isX T.ec_NoText hd2 T.kt_NoText_MarkError _ (Ex.refl _) _ fun H3 e3 => ?_
    kopn_word
    refine rc_isX T.ec_NoText (e3 _ _ hd2) T.kt_NoText_Alike _ (Ex.refl _) _ fun H4 e4 => ?_
    kopn_word
    exact kk _ (s'.ext ((e2.trans e3).trans e4))
end

/-! ### the law's own questions of a text -/
def spBack (K : PySem.W.Frag) (C : Addr) : Sp := fun vs H Q _ => ∃ (t : Str) (Φ : List (V × W)) (mt : List (Addr × (HO → Prop))), vs = [.str t] ∧ t.length ≤ 600 ∧ S K C H Φ mt ∧ ∀ H', S K C H' Φ mt → Q (.bl true) H'
section
variable {K : PySem.W.Frag} {C CT : Addr} {H : Hp} {Φ : List (V × W)} {mt : List (Addr × (HO → Prop))} {Q : VK} {E : XK} {t : Str} {v : V}
def IsiM (K : PySem.W.Frag) (C : Addr) : Prop := ∀ (H : Hp) (x dx : Addr) (fs : List (Str × V)), H x = some (.ins C dx fs) → TyX K H (.ref x) (.ref C)
theorem g_isiM {x : Addr} {m : MK} (s : S K C H Φ mt) (hI : IsiM K C) (h : (.ref x, .m m) ∈ Φ) (k : Q (.bl true) H) : rIsi K [.ref x, .ref C] H Q := by
  obtain ⟨dx, _, h1⟩ := s.insM h
  exact ⟨_, _, _, _, true, rfl, .own C, hI H x dx _ h1, kit_self, k⟩
theorem use_back (s : S K C H Φ mt) (h : t.length ≤ 600) (k : ∀ H', S K C H' Φ mt → Q (.bl true) H') : spBack K C [.str t] H Q E := ⟨t, Φ, mt, rfl, h, s, k⟩
theorem use_refu (s : S K C H Φ mt) (h : Tk K C Φ mt v) (k : ∀ H', S K C H' Φ mt → Q (.bl true) H') : spRefu K C [v] H Q E := ⟨v, Φ, mt, rfl, s, h, k⟩
theorem use_unf {m : MK} (s : S K C H Φ mt) (h : t.length ≤ 600) (hr : rdS t = some m) (k : ∀ x H', S K C H' ((.ref x, .m m) :: Φ) mt → Q (.ref x) H') : spUnf K C CT [.str t] H Q E :=
  ⟨.str t, Φ, mt, rfl, s, .inl ⟨t, rfl, h, (fun m' x H' e s' => by rw [hr] at e; obtain rfl := Option.some.inj e; exact k x H' s'), fun e => by rw [hr] at e; cases e⟩⟩
end
local macro_rules | `(tactic| kt_at_get) => `(tactic| with_reducible first
  | (apply g_isiM; (focus (assumption)); (focus (assumption)); (focus (tb_rel))))
local macro_rules | `(tactic| kt_len) => `(tactic| with_reducible first
  | (apply use_fld; (focus (assumption)); (focus (tb_rel)); intro _ _)
  | (apply use_flL; (focus (assumption)); (focus (tb_rel)); (focus (assumption)); intro _ _))
section
variable {P : Program} {w : World} {K : PySem.W.Frag} {mg : Str → Option Value} {base : Heap} {Z : Adr} {C : Addr}
theorem ok_l_back (T : Txt K mg Z) : FnOk P w K mg base CX0 12 Z.a_l_back Z.d_l_back ["_law_signs"] (spBack K Z.C_Mark) := by
  refine T.F_l_back.ok sc_l_back (fun vs H Q E h => ?_) (fun cdv A outer s H vs Q E hr h => ?_)
  · obtain ⟨_, _, _, rfl, _⟩ := h; rfl
  · obtain ⟨t, Φ, mt, rfl, hz, s, kk⟩ := h
    refine ⟨_, (pss_cons (ps_set (i := 1) sc_l_back.nd rfl (.inl rfl) (pe_call (ok_l_read T) (hr.mono (by decide)) rfl T.g_l_read T.F_l_read.kp T.b_l_read .nil pass0 (pa_cons (pv 0) pa_nil)))
      (pss_cons (ps_if (pt_cmpR op_isNq (pv 1) pe_non (nomark _)) (pss_one (ps_ret (pe_call (ok_l_refused T) (hr.mono (by decide)) rfl T.g_l_refused T.F_l_refused.kp T.b_l_refused .nil pass0 (pa_cons (pv 0) pa_nil)))) pss_nil)
      (pss_cons (ps_set (i := 2) sc_l_back.nd rfl (.inl rfl) (pe_call (ok_unfiled T) (hr.mono (by decide)) rfl T.g_unfiled T.F_unfiled.kp T.b_unfiled .nil passL (pa_cons (pv 0) pa_nil)))
      (pss_cons (ps_set (i := 3) sc_l_back.nd rfl (.inl rfl) (pe_tup (pa_cons (pe_ix (ixL K) (pv 1) pe_int (fun _ _ => rfl)) (pa_cons (pe_ix (ixL K) (pv 1) pe_int (fun _ _ => rfl)) (pa_cons (pe_ix (ixL K) (pv 1) pe_int (fun _ _ => rfl)) (pa_cons (pe_callTy (tupK K) (by rfl) T.n_tuple (by decide +kernel) (pa_cons (pe_ix (ixL K) (pv 1) pe_int (fun _ _ => rfl)) pa_nil)) (pa_cons (pe_ix (ixL K) (pv 1) pe_int (fun _ _ => rfl)) (pa_cons (pe_ix (ixL K) (pv 1) pe_int (fun _ _ => rfl)) pa_nil))))))))
      (pss_one (ps_ret (pe_and (pe_callB (isiK K) (by rfl) T.n_isinstance (by decide +kernel) (pa_cons (pv 2) (pa_cons (pe_glob (v := .ref Z.C_Mark) rfl T.g_Mark rfl) pa_nil))) (pe_and (pe_cmpR (eqDK K hr.units) (pe_meth0 (pv 2) T.cl_Mark T.m_Mark_parts (ok_Mark_parts T) (hr.mono (by decide)) T.b_Mark_parts .nil pass0) (pv 3) (nomark _)) (pe_one (pe_cmpR op_eq (pe_call (ok_filed T) (hr.mono (by decide)) rfl T.g_filed T.F_filed.kp T.b_filed .nil pass0 (pa_cons (pv 2) pa_nil)) (pv 0) (nomark _))))))))))), ?_⟩
    kxt_pos
    kopn_word
    refine use_rdL s hz (fun H1 hn s1 => ?_) (fun m p H1 hm s1 => ?_)
    · kopn_word
      refine use_refu s1 (.t hz hn) fun H2 s2 => ?_
      kopn_word
      exact kk _ s2
    · obtain ⟨ok, h99, ht⟩ := rdS_inv hz hm
      have i1 : SOk m.lt := sok_l ok.l
      have i2 : SOk m.pts := sok_p ok.p ok.pz
      have i3 : SOkL m.mks := sok_k ok
      have i4 : IOk m.num := iok_n ok
      have i5 : OOk m.yr := ook_y ok
      have i6 : OOk m.cp := ook_c ok
      have hI : IsiM K Z.C_Mark := fun _ _ _ _ e => .base (.ins e T.cl_Mark T.t1_Mark T.t2_Mark T.t3_Mark T.t4_Mark)
      have hc := T.cl_Mark
      have hn1 := T.na_Mark_parts
      have hn2 := T.na_Mark_text
      kopn_word
      refine use_unf s1 hz hm fun x H2 s2 => ?_
      change S K Z.C_Mark H2 ((.ref x, .m m) :: (V.ref p, W.l [.s m.lt, .i m.num, .s m.pts, .l (m.mks.map W.s), W.o m.yr, W.o m.cp]) :: Φ) mt at s2
      kopn_word
      show Q (.bl (decide (V.str (filT m) = V.str t))) _
      rw [ht, decide_eq_true rfl]
      exact kk _ (by kt_ors)
end

/-! ### which mark is ahead, keys -/
def spAheadS (K : PySem.W.Frag) (C : Addr) : Sp := fun vs H Q E => ∃ x y m n Φ mt, vs = [.ref x, .ref y] ∧ (.ref x, .m m) ∈ Φ ∧ (.ref y, .m n) ∈ Φ ∧ S K C H Φ mt ∧ ∀ H', S K C H' Φ mt → Q (.bl (PySem.W.dataLt m.kdata n.kdata)) H'
abbrev MK.krow (m : MK) : W := .t [.s m.lt, .i m.num, .s m.pts, .t (m.mks.map W.s), .i (m.yr.getD 0), .i (m.cp.getD 0)]
def spKeyS (K : PySem.W.Frag) (C : Addr) : Sp := fun vs H Q _ => ∃ x m Φ mt, vs = [.ref x] ∧ (.ref x, .m m) ∈ Φ ∧ S K C H Φ mt ∧ ∀ p H', S K C H' ((.ref p, m.krow) :: Φ) mt → Q (.ref p) H'
section
variable {K : PySem.W.Frag} {C : Addr} {σ : L2.St} {H : Hp} {Φ : List (V × W)} {mt : List (Addr × (HO → Prop))} {Q : VK} {a b : Addr} {E : XK} {m n : MK} {x y : V} {ta tb : TE}
theorem use_ahe (s : S K C H Φ mt) (h : (.ref a, .m m) ∈ Φ) (h2 : (.ref b, .m n) ∈ Φ) (q : ∀ H', S K C H' Φ mt → Q (.bl (PySem.W.dataLt m.kdata n.kdata)) H') : spAheadS K C [.ref a, .ref b] H Q E := ⟨a, b, m, n, Φ, mt, rfl, h, h2, s, q⟩
theorem use_key (s : S K C H Φ mt) (h : (.ref a, .m m) ∈ Φ) (q : ∀ p H', S K C H' ((.ref p, m.krow) :: Φ) mt → Q (.ref p) H') : spKeyS K C [.ref a] H Q E := ⟨a, m, Φ, mt, rfl, h, s, q⟩
def OrW (K : PySem.W.Frag) (tb : TE) (σ : L2.St) (Q : VK) (x : V) (H2 : Hp) : Prop := ∃ b, TruV K x H2 b ∧ if b = true then Q x H2 else tb σ H2 Q
theorem g_orT (h : ta σ H fun x H2 => OrW K tb σ Q x H2) : tOrT K ta tb σ H Q := h
instance : St1 (tOrT K ta tb σ H Q) (ta σ H fun x H2 => OrW K tb σ Q x H2) := ⟨g_orT⟩
/-- a number or none, or 0 -/
theorem g_orO {o : Option Int} (h : ∀ i, o = some i → i ≠ 0) (k : Q (.int (o.getD 0)) H) : OrW K (tC (.int 0)) σ Q (oi o) H := by
  cases o with
  | none => exact ⟨false, rfl, k⟩
  | some i => exact ⟨true, by show true = (i != 0); have := h i rfl; simp [this], k⟩
theorem kshaped_ok {m : MK} (ok : m.Ok) : SeqAt.shaped m.kdata = true := by
  unfold SeqAt.shaped
  rw [Bool.and_eq_true]
  refine ⟨?_, decide_eq_true ?_⟩
  · unfold MK.kdata
    have h1 := strOk_of (letters_in ok.l) abc_ok
    have h2 := points_str ok.p
    have h3 := lay_strs m.mks fun s hs => maker_str (ok.ks s hs).1
    simp only [PyData.canLay0, PyData.canLayAll0, h1, h2, h3, Bool.true_and]
  · exact Nat.le_trans (kdepth m) (by decide)
theorem rep_krow {H : Hp} (m : MK) {p : Addr} (r : Rep K C H (.ref p) m.krow) : Dp K H (.ref p) m.kdata := by
  have := rep_dp r (by unfold MK.krow; simp only [W.plain, W.plains, plains_strs, Bool.and_self])
  unfold MK.krow at this
  unfold MK.kdata
  simpa only [W.data, W.datas, datas_strs] using this
theorem g_ltK (s : S K C H Φ mt) (h : (.ref a, m.krow) ∈ Φ) (h2 : (.ref b, n.krow) ∈ Φ) (k : Q (.bl (PySem.W.dataLt m.kdata n.kdata)) H) : rLtD K (.ref a) (.ref b) H Q :=
  ⟨m.kdata, n.kdata, rep_krow m (s.rep (.f h)), rep_krow n (s.rep (.f h2)), kalike m n, (fun z => by unfold MK.kdata at z; cases z), kdepth m, k⟩
theorem g_eqK (s : S K C H Φ mt) (h : (.ref a, m.krow) ∈ Φ) (h2 : (.ref b, n.krow) ∈ Φ) (okm : m.Ok) (okn : n.Ok) (k : Q (.bl (kE m n)) H) : rEqD K (.ref a) (.ref b) H Q :=
  ⟨m.kdata, n.kdata, rep_krow m (s.rep (.f h)), rep_krow n (s.rep (.f h2)), kshaped_ok okm, kshaped_ok okn, by rw [eqv_k]; exact k⟩
theorem g_neK (s : S K C H Φ mt) (h : (.ref a, m.krow) ∈ Φ) (h2 : (.ref b, n.krow) ∈ Φ) (okm : m.Ok) (okn : n.Ok) (k : Q (.bl (!kE m n)) H) : rNeD K (.ref a) (.ref b) H Q :=
  ⟨m.kdata, n.kdata, rep_krow m (s.rep (.f h)), rep_krow n (s.rep (.f h2)), kshaped_ok okm, kshaped_ok okn, by rw [eqv_k]; exact k⟩
/-- isinstance of a tuple, a list, with a kind -/
theorem g_isiT {T : String} {r : Bool} {ws : List W} (s : S K C H Φ mt) (h : (.ref a, .t ws) ∈ Φ) (e : PySem.W.kitOne K (.type "tuple") (.type T) = some r) (k : Q (.bl r) H) : rIsi K [.ref a, .ty T] H Q := by
  cases s.rep (.f h) with
  | t hq _ => exact ⟨_, _, _, _, r, rfl, .ty _, .base (.tup hq), e, k⟩
end
local macro_rules | `(tactic| kt_at_get) => `(tactic| with_reducible first
  | refine st_go ?_
  | ((show OrW _ _ _ _ _ _); apply g_orO; (focus (assumption)))
  | ((show rLtD _ _ _ _ _); apply g_ltK; (focus (assumption)); (focus (tb_rel)); (focus (tb_rel)))
  | ((show rEqD _ _ _ _ _); apply g_eqK; (focus (assumption)); (focus (tb_rel)); (focus (tb_rel)); (focus (assumption)); (focus (assumption)))
  | ((show rNeD _ _ _ _ _); apply g_neK; (focus (assumption)); (focus (tb_rel)); (focus (tb_rel)); (focus (assumption)); (focus (assumption)))
  | ((show rIsi _ _ _ _); apply g_isiT; (focus (assumption)); (focus (tb_rel)); (focus (exact kit_ty (r := true) (by decide +kernel)))))
section
variable {P : Program} {w : World} {K : PySem.W.Frag} {mg : Str → Option Value} {base : Heap} {Z : Adr} {C : Addr}
end
local macro_rules | `(tactic| kt_len) => `(tactic| with_reducible first
  | (apply use_key; (focus (assumption)); (focus (tb_rel)); intro _ _ _))
section
variable {P : Program} {w : World} {K : PySem.W.Frag} {mg : Str → Option Value} {base : Heap} {Z : Adr} {C : Addr}
end

/-! ### the law's keys -/
def spLky (K : PySem.W.Frag) (C : Addr) : Sp := fun vs H Q _ => ∃ (p : Addr) (m : MK) (Φ : List (V × W)) (mt : List (Addr × (HO → Prop))), vs = [.ref p] ∧ (.ref p, m.row) ∈ Φ ∧ S K C H Φ mt ∧ ∀ q H', S K C H' ((.ref q, m.krow) :: Φ) mt → Q (.ref q) H'
section
variable {K : PySem.W.Frag} {C : Addr} {H : Hp} {Φ : List (V × W)} {mt : List (Addr × (HO → Prop))} {Q : VK} {p : Addr} {E : XK} {m : MK}
theorem use_lky (s : S K C H Φ mt) (h : (.ref p, m.row) ∈ Φ) (q : ∀ q H', S K C H' ((.ref q, m.krow) :: Φ) mt → Q (.ref q) H') : spLky K C [.ref p] H Q E := ⟨p, m, Φ, mt, rfl, h, s, q⟩
end
section
variable {P : Program} {w : World} {K : PySem.W.Frag} {mg : Str → Option Value} {base : Heap} {Z : Adr} {C : Addr}
theorem ok_l_key (T : Txt K mg Z) : FnOk P w K mg base CX0 2 Z.a_l_key Z.d_l_key ["_law_parts_here"] (spLky K Z.C_Mark) := by
  refine T.F_l_key.ok sc_l_key (fun vs H Q E h => ?_) (fun cdv A outer s H vs Q E hr h => ?_)
  · obtain ⟨_, _, _, _, rfl, _⟩ := h; rfl
  · obtain ⟨p, m, Φ, mt, rfl, hp, s, kk⟩ := h
    refine ⟨_, (pss_cons (ps_set (i := 1) sc_l_key.nd rfl (.inl rfl) (pe_ifExp (pt_cmpR op_isNq (pe_ix (ixL K) (pv 0) pe_int (fun _ _ => rfl)) pe_non (nomark _)) pe_int (pe_ix (ixL K) (pv 0) pe_int (fun _ _ => rfl))))
      (pss_cons (ps_set (i := 2) sc_l_key.nd rfl (.inl rfl) (pe_ifExp (pt_cmpR op_isNq (pe_ix (ixL K) (pv 0) pe_int (fun _ _ => rfl)) pe_non (nomark _)) pe_int (pe_ix (ixL K) (pv 0) pe_int (fun _ _ => rfl))))
      (pss_one (ps_ret (pe_tup (pa_cons (pe_ix (ixL K) (pv 0) pe_int (fun _ _ => rfl)) (pa_cons (pe_ix (ixL K) (pv 0) pe_int (fun _ _ => rfl)) (pa_cons (pe_ix (ixL K) (pv 0) pe_int (fun _ _ => rfl)) (pa_cons (pe_callTy (tupK K) (by rfl) T.n_tuple (by decide +kernel) (pa_cons (pe_ix (ixL K) (pv 0) pe_int (fun _ _ => rfl)) pa_nil)) (pa_cons (pv 1) (pa_cons (pv 2) pa_nil))))))))))), ?_⟩
    obtain ⟨lt, num, pts, mks, yr, cp⟩ := m
    change (V.ref p, W.l [.s lt, .i num, .s pts, .l (mks.map W.s), W.o yr, W.o cp]) ∈ Φ at hp
    kxt_pos
    cases yr with
    | none =>
      cases cp with
      | none =>
        change ∀ q H', S K Z.C_Mark H' ((V.ref q, W.t [W.s lt, W.i num, W.s pts, W.t (mks.map W.s), W.i 0, W.i 0]) :: Φ) mt → Q (V.ref q) H' at kk
        kopn_word
        exact kk _ _ (by kt_ors)
      | some c =>
        change ∀ q H', S K Z.C_Mark H' ((V.ref q, W.t [W.s lt, W.i num, W.s pts, W.t (mks.map W.s), W.i 0, W.o (some c)]) :: Φ) mt → Q (V.ref q) H' at kk
        kopn_word
        exact kk _ _ (by kt_ors)
    | some y =>
      cases cp with
      | none =>
        change ∀ q H', S K Z.C_Mark H' ((V.ref q, W.t [W.s lt, W.i num, W.s pts, W.t (mks.map W.s), W.o (some y), W.i 0]) :: Φ) mt → Q (V.ref q) H' at kk
        kopn_word
        exact kk _ _ (by kt_ors)
      | some c =>
        change ∀ q H', S K Z.C_Mark H' ((V.ref q, W.t [W.s lt, W.i num, W.s pts, W.t (mks.map W.s), W.o (some y), W.o (some c)]) :: Φ) mt → Q (V.ref q) H' at kk
        kopn_word
        exact kk _ _ (by kt_ors)
end

/-! ### two marks -/
theorem small99 {m : MK} (ok : m.Ok) (sm : m.Small) : C99 m.cp := fun c h => ⟨(ok.c c h).1, by
  have h1 := sm.2.2 c h
  have h2 := (ok.c c h).1
  exact Nat.le_trans (dg_len 30 (by omega) (by omega)) (by decide)⟩
theorem mkl_len {ks : List Str} (h : ∀ s ∈ ks, s.length ≤ 50) : (mkl ks).length ≤ ks.length * 51 := by
  induction ks with
  | nil => exact Nat.le_refl _
  | cons k ks ih =>
    have h1 := ih fun s hs => h s (List.mem_cons_of_mem _ hs)
    have h2 := h k List.mem_cons_self
    unfold mkl at h1 ⊢
    rw [List.map_cons, List.flatten_cons, List.length_append, List.length_append, List.length_singleton, sg_len, List.length_cons, Nat.succ_mul]
    omega
theorem filT_len {m : MK} (ok : m.Ok) (sm : m.Small) : (filT m).length ≤ 270 := by
  rw [← sg_len, fil_eq]
  have h1 := letters_len ok.l
  have h2 : (pad3 (sg m.lt)).length ≤ 3 := by
    unfold pad3
    rw [List.length_append, List.length_replicate, sg_len]
    omega
  have h3 : (padz 4 m.num).length = 4 := padz_len (dg_len 3 (by have := ok.n; omega) (by have := ok.n; omega))
  have h4 := sm.1
  have h5 := mkl_len sm.2.1
  have h6 := ok.k
  have h7 := y4_len ok.y
  have h8 : (cpd m.cp).length ≤ 40 := by
    cases hc : m.cp with
    | none => decide
    | some c =>
      have h99 := small99 ok sm c hc
      have a := dg_len (i := c) 30 (by have := (ok.c c hc).1; omega) (by have := sm.2.2 c hc; omega)
      show (padz 2 ((dg c).length : Nat) ++ dg c).length ≤ 40
      rw [List.length_append, padz_len (len2 h99.2)]
      omega
  simp only [List.length_append, List.length_singleton, sg_len, h3, h7]
  omega
def spTwo (K : PySem.W.Frag) (C : Addr) : Sp := fun vs H Q _ => ∃ (p q : Addr) (m n : MK) (Φ : List (V × W)) (mt : List (Addr × (HO → Prop))), vs = [.ref p, .ref q] ∧ (.ref p, m.row) ∈ Φ ∧ (.ref q, n.row) ∈ Φ ∧ m.Ok ∧ n.Ok ∧ m.Small ∧ n.Small ∧ S K C H Φ mt ∧ ∀ H', S K C H' Φ mt → Q (.bl true) H'
section
variable {K : PySem.W.Frag} {C : Addr} {H : Hp} {Φ : List (V × W)} {mt : List (Addr × (HO → Prop))} {Q : VK} {E : XK} {p q : Addr} {m n : MK}
theorem use_two (s : S K C H Φ mt) (h1 : (.ref p, m.row) ∈ Φ) (h2 : (.ref q, n.row) ∈ Φ) (o1 : m.Ok) (o2 : n.Ok) (s1 : m.Small) (s2 : n.Small) (k : ∀ H', S K C H' Φ mt → Q (.bl true) H') : spTwo K C [.ref p, .ref q] H Q E := ⟨p, q, m, n, Φ, mt, rfl, h1, h2, o1, o2, s1, s2, s, k⟩
end
local macro_rules | `(tactic| kt_len) => `(tactic| with_reducible first
  | (apply use_lky; (focus (assumption)); (focus (tb_rel)); intro _ _ _)
  | (apply use_mrk; (focus (assumption)); (focus (tb_rel)); (focus (assumption)); intro _ _ _)
  | (apply use_back; (focus (assumption)); (focus (assumption)); intro _ _))
section
variable {P : Program} {w : World} {K : PySem.W.Frag} {mg : Str → Option Value} {base : Heap} {Z : Adr} {C : Addr}
theorem ok_l_two (T : Txt K mg Z) : FnOk P w K mg base CX0 13 Z.a_l_two Z.d_l_two ["_law_fore", "_law_mate"] (spTwo K Z.C_Mark) := by
  refine T.F_l_two.ok sc_l_two (fun vs H Q E h => ?_) (fun cdv A outer s H vs Q E hr h => ?_)
  · obtain ⟨_, _, _, _, _, _, rfl, _⟩ := h; rfl
  · obtain ⟨p, q, m, n, Φ, mt, rfl, hp, hq, okm, okn, sm, sn, s, kk⟩ := h
    refine ⟨_, (pss_cons (ps_set (i := 2) sc_l_two.nd rfl (.inl rfl) (pe_call (ok_filed T) (hr.mono (by decide)) rfl T.g_filed T.F_filed.kp T.b_filed .nil pass0 (pa_cons (pe_call (ok_l_mark T) (hr.mono (by decide)) rfl T.g_l_mark T.F_l_mark.kp T.b_l_mark .nil pass0 (pa_cons (pv 0) pa_nil)) pa_nil)))
      (pss_cons (ps_set (i := 3) sc_l_two.nd rfl (.inl rfl) (pe_call (ok_filed T) (hr.mono (by decide)) rfl T.g_filed T.F_filed.kp T.b_filed .nil pass0 (pa_cons (pe_call (ok_l_mark T) (hr.mono (by decide)) rfl T.g_l_mark T.F_l_mark.kp T.b_l_mark .nil pass0 (pa_cons (pv 1) pa_nil)) pa_nil)))
      (pss_cons (ps_if (PW.pt (pw_or (pt_not (pt_val (pe_callB (isiK K) (by rfl) T.n_isinstance (by decide +kernel) (pa_cons (pv 2) (pa_cons (pe_bltn (v := .ty "str") (by rfl) T.n_str (by decide +kernel) rfl) pa_nil))))) (pw_or (pt_cmpR op_ne (pv 2) (pe_call (ok_l_filed T) (hr.mono (by decide)) rfl T.g_l_filed T.F_l_filed.kp T.b_l_filed .nil pass0 (pa_cons (pv 0) pa_nil)) (nomark _)) (pw_or1 (pt_cmpR op_ne (pv 3) (pe_call (ok_l_filed T) (hr.mono (by decide)) rfl T.g_l_filed T.F_l_filed.kp T.b_l_filed .nil pass0 (pa_cons (pv 1) pa_nil)) (nomark _)))))) (pss_one (ps_ret pe_bl)) pss_nil)
      (pss_cons (ps_if (PW.pt (pw_or (pt_cmpR op_ne (pe_cmpR op_ltS (pv 2) (pv 3) (nomark _)) (pe_cmpR (op_ltD K hr.units) (pe_call (ok_l_key T) (hr.mono (by decide)) rfl T.g_l_key T.F_l_key.kp T.b_l_key .nil pass0 (pa_cons (pv 0) pa_nil)) (pe_call (ok_l_key T) (hr.mono (by decide)) rfl T.g_l_key T.F_l_key.kp T.b_l_key .nil pass0 (pa_cons (pv 1) pa_nil)) (nomark _)) (nomark _)) (pw_or1 (pt_not (pt_val (pe_call (ok_l_back T) (hr.mono (by decide)) rfl T.g_l_back T.F_l_back.kp T.b_l_back .nil pass0 (pa_cons (pv 3) pa_nil))))))) (pss_one (ps_ret pe_bl)) pss_nil)
      (pss_one (ps_ret (pe_and (pe_cmpR op_eq (pe_cmpR op_eq (pv 2) (pv 3) (nomark _)) (pe_cmpR (eqDK K hr.units) (pe_call (ok_l_key T) (hr.mono (by decide)) rfl T.g_l_key T.F_l_key.kp T.b_l_key .nil pass0 (pa_cons (pv 0) pa_nil)) (pe_call (ok_l_key T) (hr.mono (by decide)) rfl T.g_l_key T.F_l_key.kp T.b_l_key .nil pass0 (pa_cons (pv 1) pa_nil)) (nomark _)) (nomark _)) (pe_one (pe_call (ok_l_back T) (hr.mono (by decide)) rfl T.g_l_back T.F_l_back.kp T.b_l_back .nil pass0 (pa_cons (pv 2) pa_nil)))))))))), ?_⟩
    have cm := small99 okm sm
    have cn := small99 okn sn
    have zm : (filT m).length ≤ 600 := Nat.le_trans (filT_len okm sm) (by decide)
    have zn : (filT n).length ≤ 600 := Nat.le_trans (filT_len okn sn) (by decide)
    have hlt : V.bl (decide ((filT m).cps.toList < (filT n).cps.toList)) = V.bl (PySem.W.dataLt m.kdata n.kdata) := congrArg V.bl (fil_lt okm okn cm cn)
    have heq : V.bl (decide (V.str (filT m) = V.str (filT n))) = V.bl (kE m n) := congrArg V.bl ((decide_eq_decide.mpr ⟨V.str.inj, congrArg V.str⟩).trans (fil_same okm okn cm cn))
    kxt_pos
    kopn_word
    all_goals first
      | exact kk _ (by kt_ors)
      | (rename_i h; exact (h hlt).elim)
      | (rename_i h; exact (h heq).elim)
      | (rename_i h _ _; exact (h hlt).elim)
      | (rename_i h _ _; exact (h heq).elim)
end

section
variable {X : Cx}
def qRepS : R2 := fun x y H Q => ∃ (t : Str) (n : Int), x = .str t ∧ y = .int n ∧ PySem.MulOk t n ∧ Q (.str (PySem.Txt.mul t n)) H
theorem op_repS : OpR X (binaryOp .Mult) qRepS := by
  intro pins s σ H x y v u Q I rx ry h
  obtain ⟨t, n, rfl, rfl, h1, q⟩ := h
  obtain ⟨tk, rfl⟩ := rx
  obtain ⟨tk2, rfl⟩ := ry
  exact PySem.SB.mul h1 fun t' k => ⟨.str (PySem.Txt.mul t n), H, I.tok _, ⟨_, rfl⟩, q⟩

end
/-! ### great copies -/
theorem dg_exact {i : Int} (k : Nat) (h1 : (10 : Int) ^ k ≤ i) (h2 : i < 10 ^ (k + 1)) : (dg i).length = k + 1 := by
  have hp : (0 : Int) < 10 ^ k := Int.pow_pos (by decide)
  have a := dg_len k (i := i) (by omega) h2
  have b := (dg_low (c := i) (by omega)).2.2
  rcases Nat.lt_or_ge (dg i).length (k + 1) with h | h
  · have c : (10 : Int) ^ (dg i).length ≤ 10 ^ k := by exact_mod_cast Nat.pow_le_pow_right (show 0 < 10 by decide) (show (dg i).length ≤ k by omega)
    omega
  · omega
structure Big (D : Str) : Prop where
  f : FigS D
  l : D.length = 99
  c : ∃ d ds, sg D = d :: ds ∧ 49 ≤ d
theorem mul_ok {t : Str} {n : Int} (h1 : n ≤ 1000) (h2 : -100000 ≤ n) (hz : n < 1 ∨ t.length ≤ 1000) : PySem.MulOk t n := by
  refine ⟨?_, fun h _ => ?_, fun h _ => ?_⟩
  · rw [decide_eq_false (show ¬ n < -(2 ^ 63 : Int) by omega), decide_eq_false (show ¬ n ≥ 2 ^ 63 by omega)]
    rfl
  · have hl : t.length ≤ 1000 := hz.resolve_left h
    intro hc
    have h3 : (t.length : Int) * n ≤ 1000 * 1000 := Int.mul_le_mul (by omega) h1 (by omega) (by decide)
    have h4 : (t.length : Int) ≤ (2 ^ 63 - 1) / n := (Int.le_ediv_iff_mul_le (by omega)).mpr (by omega)
    omega
  · have hl : t.length ≤ 1000 := hz.resolve_left h
    have h3 : t.length * n.toNat ≤ 1000 * 1000 := Nat.mul_le_mul hl (by omega)
    exact decide_eq_false (by rw [sizeLine_eq]; omega)
theorem big_of {i j : Int} (h1 : 10000000000000000000000000000000000000000000000000 ≤ i) (h2 : i < 100000000000000000000000000000000000000000000000000) (h3 : 1000000000000000000000000000000000000000000000000 ≤ j) (h4 : j < 10000000000000000000000000000000000000000000000000) : Big (Str.ofString (toString i) ++ Str.ofString (toString j)) := by
  have a : (dg i).length = 50 := dg_exact 49 h1 h2
  have b : (dg j).length = 49 := dg_exact 48 h3 h4
  obtain ⟨d, ds, e, hd⟩ := dg_lead (i := i) (by omega)
  exact ⟨fig_app (num_fig (by omega)) (num_fig (by omega)), by rw [len_app, ← sg_len, ← sg_len]; show (dg i).length + (dg j).length = 99; omega, d, ds ++ dg j, by rw [sg_app]; show dg i ++ dg j = _; rw [e]; rfl, hd⟩
abbrev ah9 : List Nat := [48, 48, 48, 49, 32, 48, 48, 48, 48]
theorem sg_ah {l : Str} : sg (l ++ cutS (Str.ofString "   ") (some (l.length : Int)) none ++ Str.ofString "0001 0000") = pad3 (sg l) ++ ah9 := by
  rw [sg_app, sg_app, sg_cutAt, show sg (Str.ofString "0001 0000") = ah9 by decide +kernel, show sg (Str.ofString "   ") = List.replicate 3 32 by decide +kernel, drop_rep, ← sg_len]
  rfl
theorem pad3_len {l : Str} (h : lettersOk l 3 = true) : (pad3 (sg l)).length = 3 := by
  have := letters_len h
  unfold pad3
  rw [List.length_append, List.length_replicate, sg_len]
  omega
theorem rd_last {t w : Str} {ws : List Str} (hs : Txt.split (cutS t (some 7) none) (Str.ofString " ") = w :: ws) (h : lastR (ws.getLast?.getD w) = none) : rdS t = none := by
  by_cases hA : letL (t3 t) = false ∨ ((t37 t).length : Int) ≠ 4 ∨ valI (t37 t) < 1
  · unfold rdS
    rw [if_pos hA]
  · rw [rd_b hA hs, h]
    split <;> rfl
theorem great_no {l X N L : Str} (hl : lettersOk l 3 = true) (hX : sg X = pad3 (sg l) ++ ah9) (hN : ∃ n, sg N = [49, 48, n] ∧ n ≠ 32) (hf : FigS L) (h1 : 100 ≤ L.length) : rdS (X ++ N ++ L) = none := by
  obtain ⟨n, hN, hn⟩ := hN
  let x : Str := ⟨([48, 48, 48, 48] ++ (sg N ++ sg L)).toArray⟩
  have hx : sg x = [48, 48, 48, 48] ++ (sg N ++ sg L) := rfl
  have a7 : sg (cutS (X ++ N ++ L) (some 7) none) = 32 :: sg x := by
    show sg (cutS _ (some ((7 : Nat) : Int)) none) = _
    rw [sg_cutAt, sg_app, sg_app, hX, hx, List.append_assoc, List.append_assoc, show (7 : Nat) = (pad3 (sg l)).length + 4 by rw [pad3_len hl], List.drop_append]
    rw [List.drop_of_length_le (by omega)]
    simp
  have hj : cutS (X ++ N ++ L) (some 7) none = Str.join " " ([Str.ofString "", x]) := str_ext (by
    rw [a7, join_blank]
    show _ = sg (Str.ofString "") ++ _
    rw [show sg (Str.ofString "") = [] by decide +kernel]
    simp)
  have hs : Txt.split (cutS (X ++ N ++ L) (some 7) none) (Str.ofString " ") = [Str.ofString "", x] := by
    rw [hj]
    refine split_join fun y hy => ?_
    rcases List.mem_cons.mp hy with rfl | hy
    · rw [show sg (Str.ofString "") = [] by decide +kernel]
      exact List.not_mem_nil
    · rw [List.mem_singleton.mp hy, hx]
      intro h
      rcases List.mem_append.mp h with h | h
      · exact absurd h (by decide)
      · rcases List.mem_append.mp h with h | h
        · rw [hN] at h
          simp at h
          exact hn h.symm
        · have := fig_dig.mp (hf 32 h)
          omega
  refine rd_last hs ?_
  show lastR x = none
  have e46 : sg (l46 x) = [49, 48] := by
    show sg (cutS x (some ((4 : Nat) : Int)) (some ((6 : Nat) : Int))) = _
    rw [sg_cutM, hx, hN]
    rfl
  have v46 : valI (l46 x) = 10 := valI_padz (n := 2) (i := 10) (e46.trans (by decide +kernel)) (by omega) (by omega)
  have hlen : x.length = 7 + L.length := by
    rw [← sg_len, hx, List.length_append, List.length_append, hN, sg_len]
    simp only [List.length_cons, List.length_nil]
    omega
  exact lr_a (.inr (.inl (by rw [v46, hlen]; omega)))
def gM (l D : Str) (n : Nat) : MK := ⟨l, 1, Str.ofString "", [], none, some (valI (cutS D none (some (n : Int))))⟩
theorem great_yes {l X D : Str} {n : Nat} (hl : lettersOk l 3 = true) (hX : sg X = pad3 (sg l) ++ ah9) (hD : Big D) (h1 : 31 ≤ n) (h2 : n ≤ 99) : (gM l D n).Ok ∧ C99 (gM l D n).cp ∧ X ++ Str.ofString (toString (n : Int)) ++ cutS D none (some (n : Int)) = filT (gM l D n) := by
  obtain ⟨hf, hlD, d, ds, hd, h49⟩ := hD
  have e1 : sg (cutS D none (some (n : Int))) = (sg D).take n := sg_cutTo _ _
  have e2 : sg (cutS D none (some (n : Int))) = d :: ds.take (n - 1) := by
    rw [e1, hd, show n = (n - 1) + 1 by omega]
    rfl
  have fc : FigS (cutS D none (some (n : Int))) := fun c hc => hf c (by rw [e1] at hc; exact List.mem_of_mem_take hc)
  have hv0 : 0 ≤ valI (cutS D none (some (n : Int))) := by
    rw [valI_fig fc (by rw [e2]; exact fun z => nomatch z)]
    omega
  have hdg : sg (cutS D none (some (n : Int))) = dg (valI (cutS D none (some (n : Int)))) := dg_back hv0 e2 (by omega)
  have hlen : (dg (valI (cutS D none (some (n : Int))))).length = n := by
    rw [← hdg, e1, List.length_take, sg_len]
    omega
  have hv2 : 2 ≤ valI (cutS D none (some (n : Int))) := by
    rcases Int.lt_or_le (valI (cutS D none (some (n : Int)))) 2 with h | h
    · have := dg_len 0 hv0 (by omega)
      omega
    · exact h
  have h99 : C99 (gM l D n).cp := fun c e => by
    rw [← Option.some.inj e]
    exact ⟨hv2, by omega⟩
  refine ⟨⟨hl, ⟨show (1 : Int) ≤ 1 by decide, show (1 : Int) ≤ 9999 by decide⟩, show pointsOk (Str.ofString "") = true by decide +kernel, show (Str.ofString "").length ≤ 1000 by decide +kernel, Nat.zero_le _, (fun s h => nomatch h), (fun y h => nomatch h), fun c e => ⟨(h99 c e).1, ?_⟩⟩, h99, ?_⟩
  · have h3 := h99 c e
    have h4 := (dg_low (c := c) (by omega)).2.2
    have h5 : (10 : Int) ^ (dg c).length ≤ 10 ^ 99 := by exact_mod_cast Nat.pow_le_pow_right (show 0 < 10 by decide) h3.2
    have h6 : c.natAbs < 2 ^ 1920 := by
      have : (10 : Int) ^ 99 ≤ 2 ^ 1920 := by decide +kernel
      have h7 : c < 2 ^ 1920 := Int.lt_of_lt_of_le h4 (Int.le_trans h5 this)
      have h8 : (c.natAbs : Int) = c := by omega
      exact_mod_cast h8 ▸ h7
    exact (Nat.log2_lt (by omega)).mpr h6
  · refine str_ext ?_
    rw [sg_app, sg_app, hX]
    show _ = pad3 (sg l) ++ (padz 4 1 ++ (sg (Str.ofString "") ++ 32 :: ([] ++ ([48, 48, 48, 48] ++ (padz 2 ((dg (valI (cutS D none (some (n : Int))))).length : Nat) ++ dg (valI (cutS D none (some (n : Int)))))))))
    have hn2 : padz 2 (n : Int) = dg (n : Int) := by
      have := dg_exact 1 (i := (n : Int)) (by omega) (by omega)
      unfold padz
      rw [this]
      rfl
    rw [hlen, ← hdg, hn2, show padz 4 1 = [48, 48, 48, 49] by decide +kernel, show sg (Str.ofString "") = [] by decide +kernel]
    show _ ++ dg (n : Int) ++ _ = _
    simp
def spGreat (K : PySem.W.Frag) (C : Addr) : Sp := fun vs H Q _ => ∃ (l : Str) (i j : Int) (Φ : List (V × W)) (mt : List (Addr × (HO → Prop))), vs = [.str l, .int i, .int j] ∧ lettersOk l 3 = true ∧ (0 ≤ i ∧ i ≤ 2) ∧ (0 ≤ j ∧ j < 10000000000000000000000000000000000000000000000000) ∧ S K C H Φ mt ∧ ∀ H', S K C H' Φ mt → Q (.bl true) H'
section
variable {P : Program} {w : World} {K : PySem.W.Frag} {mg : Str → Option Value} {base : Heap} {Z : Adr} {C : Addr}
theorem ok_l_great (T : Txt K mg Z) : FnOk P w K mg base CX0 13 Z.a_l_great Z.d_l_great ["_law_letters_here", "_law_more", "_law_number"] (spGreat K Z.C_Mark) := by
  refine T.F_l_great.ok sc_l_great (fun vs H Q E h => ?_) (fun cdv A outer s H vs Q E hr h => ?_)
  · obtain ⟨_, _, _, _, _, rfl, _⟩ := h; rfl
  · obtain ⟨l, i, j, Φ, mt, rfl, hl, hi, hj, s, kk⟩ := h
    refine ⟨_, (pss_cons (ps_set (i := 3) sc_l_great.nd rfl (.inl rfl) (pe_op op_addS (pe_callTy (call_strI) (by rfl) T.n_str (by decide +kernel) (pa_cons (pe_op op_add (pe_op op_pow pe_int pe_int) (pv 2)) pa_nil)) (pe_callTy (call_strI) (by rfl) T.n_str (by decide +kernel) (pa_cons (pe_op op_add (pe_op op_pow pe_int pe_int) (pe_op op_modN (pv 2) (pe_op op_pow pe_int pe_int))) pa_nil))))
      (pss_cons (ps_set (i := 4) sc_l_great.nd rfl (.inl rfl) (pe_op op_addS (pe_op op_addS (pv 0) (pe_slice sl_str pe_str (po_some (pe_callB (call_lenS) (by rfl) T.n_len (by decide +kernel) (pa_cons (pv 0) pa_nil))) po_none)) pe_str))
      (pss_cons (ps_if (pt_cmpR op_gt (pv 1) pe_int (nomark _)) (pss_cons (ps_set (i := 5) sc_l_great.nd rfl (.inl rfl) (pe_op op_addS (pv 3) (pe_op op_repS pe_str (pv 1))))
      (pss_one (ps_ret (pe_call (ok_l_refused T) (hr.mono (by decide)) rfl T.g_l_refused T.F_l_refused.kp T.b_l_refused .nil pass0 (pa_cons (pe_op op_addS (pe_op op_addS (pv 4) (pe_callTy (call_strI) (by rfl) T.n_str (by decide +kernel) (pa_cons (pe_callB (call_lenS) (by rfl) T.n_len (by decide +kernel) (pa_cons (pv 5) pa_nil)) pa_nil))) (pv 5)) pa_nil))))) pss_nil)
      (pss_cons (ps_for PassesOwn.never rfl (pi_list (pe_lst (pa_cons (pe_op op_add pe_int (pe_op op_mod (pv 2) pe_int)) (pa_cons pe_int pa_nil)))) (pg_name (i := 6) sc_l_great.nd rfl (.inl rfl)) (pss_cons (ps_set (i := 7) sc_l_great.nd rfl (.inl rfl) (pe_op op_addS (pe_op op_addS (pv 4) (pe_callTy (call_strI) (by rfl) T.n_str (by decide +kernel) (pa_cons (pv 6) pa_nil))) (pe_slice sl_str (pv 3) po_none (po_some (pv 6)))))
      (pss_cons (ps_set (i := 8) sc_l_great.nd rfl (.inl rfl) (pe_call (ok_unfiled T) (hr.mono (by decide)) rfl T.g_unfiled T.F_unfiled.kp T.b_unfiled .nil passL (pa_cons (pv 7) pa_nil)))
      (pss_one (ps_if (PW.pt (pw_or (pt_not (pt_val (pe_callB (isiK K) (by rfl) T.n_isinstance (by decide +kernel) (pa_cons (pv 8) (pa_cons (pe_glob (v := .ref Z.C_Mark) rfl T.g_Mark rfl) pa_nil))))) (pw_or (pt_cmpR op_ne (pe_meth0 (pv 8) T.cl_Mark T.m_Mark_copy_number (ok_Mark_copy_number T) (hr.mono (by decide)) T.b_Mark_copy_number .nil pass0) (pe_callTy (call_intS) (by rfl) T.n_int (by decide +kernel) (pa_cons (pe_slice sl_str (pv 3) po_none (po_some (pv 6))) pa_nil)) (nomark _)) (pw_or1 (pt_cmpR op_ne (pe_call (ok_filed T) (hr.mono (by decide)) rfl T.g_filed T.F_filed.kp T.b_filed .nil pass0 (pa_cons (pv 8) pa_nil)) (pv 7) (nomark _)))))) (pss_one (ps_ret pe_bl)) pss_nil)))))
      (pss_one (ps_ret pe_bl)))))), ?_⟩
    have e49 : (10 : Int) ^ Int.toNat 49 = 10000000000000000000000000000000000000000000000000 := by decide +kernel
    have e48 : (10 : Int) ^ Int.toNat 48 = 1000000000000000000000000000000000000000000000000 := by decide +kernel
    have hB : 0 ≤ j.fmod 1000000000000000000000000000000000000000000000000 ∧ j.fmod 1000000000000000000000000000000000000000000000000 < 1000000000000000000000000000000000000000000000000 := ⟨Int.fmod_nonneg_of_pos j (by decide), Int.fmod_lt_of_pos j (by decide)⟩
    have hlA : (10000000000000000000000000000000000000000000000000 + j).natAbs.log2 < 1920 := log_s (by omega) (by omega)
    have hlB : (1000000000000000000000000000000000000000000000000 + j.fmod 1000000000000000000000000000000000000000000000000).natAbs.log2 < 1920 := log_s (by omega) (by omega)
    kxt_pos
    kopn_word
    rw [e49]
    rw [e48]
    kopn_word
    have hD := big_of (i := 10000000000000000000000000000000000000000000000000 + j) (j := 1000000000000000000000000000000000000000000000000 + j.fmod 1000000000000000000000000000000000000000000000000) (by omega) (by omega) (by omega) (by omega)
    have hDl := hD.l
    refine ⟨_, _, rfl, rfl, sz_of (by rw [← len_app]; omega), ?_⟩
    generalize Str.ofString (toString (10000000000000000000000000000000000000000000000000 + j)) ++ Str.ofString (toString (1000000000000000000000000000000000000000000000000 + j.fmod 1000000000000000000000000000000000000000000000000)) = D at hD hDl ⊢
    have hX := sg_ah (l := l)
    have hll := letters_len hl
    have hc3 : (cutS (Str.ofString "   ") (some (l.length : Int)) none).length ≤ 3 := Nat.le_trans (cut_leN _ _ _) (by decide +kernel)
    have h9 : (Str.ofString "0001 0000").length = 9 := by decide +kernel
    dsimp only [List.set]
    have hXl : (l ++ cutS (Str.ofString "   ") (some (l.length : Int)) none ++ Str.ofString "0001 0000").length ≤ 15 := by rw [len_app, len_app]; omega
    kopn_word
    all_goals generalize l ++ cutS (Str.ofString "   ") (some (l.length : Int)) none ++ Str.ofString "0001 0000" = X at hX hXl ⊢
    · have h7 : FigS (PySem.Txt.mul (Str.ofString "7") i) ∧ 1 ≤ (PySem.Txt.mul (Str.ofString "7") i).length ∧ (PySem.Txt.mul (Str.ofString "7") i).length ≤ 2 := by
        rcases (show i = 1 ∨ i = 2 by omega) with rfl | rfl
        · rw [show PySem.Txt.mul (Str.ofString "7") 1 = Str.ofString "7" by decide +kernel]
          exact ⟨fig_fs (by decide +kernel), by decide +kernel, by decide +kernel⟩
        · rw [show PySem.Txt.mul (Str.ofString "7") 2 = Str.ofString "77" by decide +kernel]
          exact ⟨fig_fs (by decide +kernel), by decide +kernel, by decide +kernel⟩
      refine ⟨_, _, rfl, rfl, mul_ok (by omega) (by omega) (.inr (by decide +kernel)), ?_⟩
      generalize PySem.Txt.mul (Str.ofString "7") i = S7 at h7 ⊢
      obtain ⟨h71, h72, h73⟩ := h7
      refine ⟨_, _, rfl, rfl, sz_of (by omega), ?_⟩
      have hLf : FigS (D ++ S7) := fig_app hD.f h71
      have hLl : (D ++ S7).length = 100 ∨ (D ++ S7).length = 101 := by rw [len_app]; omega
      generalize D ++ S7 = L at hLf hLl ⊢
      have hN : ∃ n, sg (Str.ofString (toString (L.length : Int))) = [49, 48, n] ∧ n ≠ 32 := by
        rcases hLl with h | h <;> rw [h]
        · exact ⟨48, by decide +kernel, by decide⟩
        · exact ⟨49, by decide +kernel, by decide⟩
      have hlg : ((L.length : Int)).natAbs.log2 < 1920 := log_s (by omega) (by omega)
      have hNl : (Str.ofString (toString (L.length : Int))).length ≤ 1921 := int_len hlg
      dsimp only [List.set]
      kopn_word
      rcases hLl with h | h
      all_goals
        refine use_refu s (.t (by rw [len_app, len_app]; have : (Str.ofString (toString (L.length : Int))).length ≤ 3 := (by rw [h]; decide +kernel); omega) (great_no hl hX hN hLf (by omega))) fun H2 s2 => ?_
        kopn_word
        exact kk _ s2
    · have hjm : 0 ≤ j % 69 ∧ j % 69 < 69 := ⟨Int.emod_nonneg _ (by decide), Int.emod_lt_of_pos _ (by decide)⟩
      obtain ⟨n, hn⟩ : ∃ n : Nat, 31 + j % 69 = (n : Int) := ⟨(31 + j % 69).toNat, by omega⟩
      have hn1 : 31 ≤ n ∧ n ≤ 99 := by omega
      rename_i p0 H0 s0 z0
      rw [hn] at s0 z0 ⊢
      obtain ⟨okm, h99, e⟩ := great_yes hl hX hD hn1.1 hn1.2
      have hnl : (Str.ofString (toString (n : Int))).length ≤ 2 := by
        rw [← sg_len]
        exact dg_len 1 (by omega) (by omega)
      have hcl : (cutS D none (some (n : Int))).length ≤ 99 := Nat.le_trans (cut_leN _ _ _) (by omega)
      refine ⟨_, _, rfl, rfl, sz_of (by rw [len_app]; omega), ?_⟩
      have hfl : (filT (gM l D n)).length ≤ 600 := by rw [← e, len_app, len_app]; omega
      rw [e]
      have hI : IsiM K Z.C_Mark := fun _ _ _ _ e => .base (.ins e T.cl_Mark T.t1_Mark T.t2_Mark T.t3_Mark T.t4_Mark)
      have hc := T.cl_Mark
      have hna := T.na_Mark_parts
      have hnb := T.na_Mark_text
      have hfn : figuresOk (cutS D none (some (n : Int))) = true := by
        have h2 := (okm.c _ rfl).1
        exact valI_pos.mp (by show 0 ≤ valI (cutS D none (some (n : Int))); omega)
      kopn_word
      refine use_unf s0 hfl (rdS_fil okm h99) fun x H2 s2 => ?_
      kopn_word
      refine g_intV (valI_pos.mpr hfn) (by omega) ?_
      refine ⟨rfl, ?_⟩
      rw [show decide (oi (gM l D n).cp = V.int (valI (cutS D none (some (n : Int))))) = true from decide_eq_true rfl]
      kopn_word
      rename_i H5 s5 z5
      obtain ⟨okm, h99, e⟩ := great_yes (n := 99) hl hX hD (by decide) (by decide)
      replace e : X ++ Str.ofString (toString (99 : Int)) ++ cutS D none (some (99 : Int)) = filT (gM l D 99) := e
      have hnl : (Str.ofString (toString (99 : Int))).length ≤ 2 := by decide +kernel
      have hcl : (cutS D none (some (99 : Int))).length ≤ 99 := Nat.le_trans (cut_leN _ _ _) (by omega)
      refine ⟨_, _, rfl, rfl, sz_of (by rw [len_app]; omega), ?_⟩
      have hfl : (filT (gM l D 99)).length ≤ 600 := by rw [← e, len_app, len_app]; omega
      rw [e]
      have hfn : figuresOk (cutS D none (some (99 : Int))) = true := by
        have h2 := (okm.c _ rfl).1
        exact valI_pos.mp (by show 0 ≤ valI (cutS D none (some ((99 : Nat) : Int))); omega)
      kopn_word
      refine use_unf s5 hfl (rdS_fil okm h99) fun x H2 s2 => ?_
      kopn_word
      refine g_intV (valI_pos.mpr hfn) (by omega) ?_
      refine ⟨rfl, ?_⟩
      rw [show decide (oi (gM l D 99).cp = V.int (valI (cutS D none (some (99 : Int))))) = true from decide_eq_true rfl]
      kopn_word
      exact kk _ (by kt_ors)
end

theorem kit_ne {K : PySem.W.Frag} {A B : Addr} {b : Bool} (nq : (Value.ref A == Value.ref B) = false) (hd : PySem.W.hasDictIn K B = true) (te : PySem.W.typeIn K (.ref B) = some (.type "type")) (su : PySem.W.subIn K (.ref A) (.ref B) = some b) : PySem.W.kitOne K (.ref A) (.ref B) = some b := by
  obtain ⟨cd, hc, _⟩ := PySem.W.any_some hd
  have e2 : ((PySem.W.clsIn K B).isSome && PySem.W.typeIn K (.ref B) == some (.type "type")) = true := by rw [hc, te] <;> rfl
  unfold PySem.W.kitOne
  rw [if_neg (by rw [nq]; exact Bool.false_ne_true)]
  show (if ((PySem.W.clsIn K B).isSome && PySem.W.typeIn K (.ref B) == some (.type "type")) = true then PySem.W.subIn K (.ref A) (.ref B) else none) = some b
  rw [if_pos e2]
  exact su

/-! ### the law -/
def spLaw (K : PySem.W.Frag) : Sp := fun vs H Q _ => ∃ (a : Addr) (ns : List Int), vs = [.ref a] ∧ SqL K H a (ns.map V.int) ∧ ns.length ≤ 63 ∧ ∀ H', Q (.bl true) H'
section
variable {K : PySem.W.Frag} {C : Addr} {H : Hp} {Φ : List (V × W)} {mt : List (Addr × (HO → Prop))} {Q : VK} {E : XK} {p : Addr} {m : MK} {t x : Str} {i j : Int} {b : Addr}
theorem g_slQ {ns : List Int} {n : Nat} (s : S K C H Φ mt) (h : (.ref p, .q ns) ∈ Φ) (k : ∀ r H', S K C H' ((.ref r, .l ((ns.take n).map W.i)) :: Φ) mt → Q (.ref r) H') : rSlL K (.ref p) none (some (n : Int)) H Q := by
  cases s.rep (.f h) with
  | q hq =>
    refine ⟨p, _, rfl, hq, fun r hr => k r _ ?_⟩
    rw [cutV_to, ← List.map_take]
    exact s.addL hr (Ex.new hr) upd_same (.is _ V.int W.i fun x _ => .i x)
theorem use_neI {r : Int} (s : S K C H Φ mt) (hp : (.ref p, m.row) ∈ Φ) (hb : (b, IsBox) ∈ mt) (h0 : 0 ≤ r) (h6 : r < 6) (ok : m.Ok) (sm : m.Small) (q : ∀ q (m' : MK) H', m'.Ok → m'.Small → S K C H' ((.ref q, m'.row) :: Φ) mt → Q (.ref q) H') : spNeP K C [.ref p, .int r, .ref b] H Q E := by
  obtain ⟨k, rfl⟩ : ∃ k : Nat, r = (k : Int) := ⟨r.toNat, by omega⟩
  exact use_ne s hp hb (by omega) ok sm q
theorem use_sgn (s : S K C H Φ mt) (hb : (b, IsBox) ∈ mt) (q : ∀ (c : Nat) H', S K C H' Φ mt → Q (.str (one c)) H') : spSign K C [.ref b] H Q E := ⟨b, Φ, mt, rfl, hb, s, q⟩
theorem use_spl {c : Nat} (s : S K C H Φ mt) (h : t.length ≤ 90000) (hj : 0 ≤ j) (k : ∀ (u : Str) H', u.length ≤ t.length + 1 → S K C H' Φ mt → Q (.str u) H') : spSpl K C [.str t, .int i, .int j, .str (one c)] H Q E := ⟨t, i, j, one c, Φ, mt, rfl, h, len_one, hj, s, k⟩
theorem use_grt {l : Str} (s : S K C H Φ mt) (hl : lettersOk l 3 = true) (hi : 0 ≤ i) (hi2 : i < 3) (hj : 0 ≤ j) (hj2 : j < 10000000000000000000000000000000000000000000000000) (k : ∀ H', S K C H' Φ mt → Q (.bl true) H') : spGreat K C [.str l, .int i, .int j] H Q E := ⟨l, i, j, Φ, mt, rfl, hl, ⟨hi, by omega⟩, ⟨hj, hj2⟩, s, k⟩
theorem fil_90 (ok : m.Ok) (sm : m.Small) : (filT m).length ≤ 90000 := Nat.le_trans (filT_len ok sm) (by decide)
theorem cut_to (u : Str) (n : Nat) : (cutS u none (some (n : Int))).length ≤ n := by
  rw [← sg_len, sg_cutTo, List.length_take]
  omega
theorem cut_90 {u : Str} : (cutS u none (some (230 : Int))).length ≤ 90000 := Nat.le_trans (cut_to u 230) (by decide)
theorem cut_240 {u : Str} : (cutS u none (some (240 : Int))).length ≤ 600 := Nat.le_trans (cut_to u 240) (by decide)
theorem cut_231 {u s : Str} (h : u.length ≤ (cutS s none (some (230 : Int))).length + 1) : u.length ≤ 600 := by
  have := cut_to s 230
  have e : (cutS s none (some (230 : Int))).length ≤ 230 := this
  omega
theorem spl_z {u : Str} (h : u.length ≤ (filT m).length + 1) (ok : m.Ok) (sm : m.Small) : u.length ≤ 100000 := by
  have := filT_len ok sm
  omega
theorem mQ_ok : (⟨Str.ofString "q", 1, Str.empty, [], none, none⟩ : MK).Ok := ⟨by decide +kernel, by decide, by decide +kernel, by decide +kernel, by decide, (fun _ h => nomatch h), (fun _ h => nomatch h), (fun _ h => nomatch h)⟩
theorem g_tYesI {σ : L2.St} {A B : Hp → Prop} (h : A H) : tYes σ H (fun b H3 => if b = true then A H3 else B H3) := h
theorem tk_n : Tk K C Φ mt .non := .c (fun H _ => ⟨_, .base .non, kit_ty (r := false) (by decide +kernel)⟩) rfl
theorem tk_b {k : Bool} : Tk K C Φ mt (.bl k) := .c (fun H _ => ⟨_, .base (.bl k), kit_ty (r := false) (by decide +kernel)⟩) rfl
theorem tk_i : Tk K C Φ mt (.int i) := .c (fun H _ => ⟨_, .base (.int i), kit_ty (r := false) (by decide +kernel)⟩) rfl
theorem tk_s {t : Str} (h : t.length ≤ 600 ∧ (rdS t).isNone = true) : Tk K C Φ mt (.str t) := .t h.1 (by
  have := h.2
  cases hr : rdS t with
  | none => rfl
  | some m => rw [hr] at this; cases this)
theorem ns_l {ws : List W} (h : (.ref p, .l ws) ∈ Φ) : NS K C Φ mt (.ref p) := fun H s => by
  have r := s.rep (.f h)
  cases r with | l h1 _ => exact ⟨_, .base (.lst h1), kit_ty (r := false) (by decide +kernel)⟩
theorem ns_t {ws : List W} (h : (.ref p, .t ws) ∈ Φ) : NS K C Φ mt (.ref p) := fun H s => by
  have r := s.rep (.f h)
  cases r with | t h1 _ => exact ⟨_, .base (.tup h1), kit_ty (r := false) (by decide +kernel)⟩
theorem tk_l0 (h : (.ref p, .l []) ∈ Φ) : Tk K C Φ mt (.ref p) := .d (ns_l h) (.k (.f h)) (inferInstance : Ly (.l []) _ _) (by decide)
theorem tk_t0 (h : (.ref p, .t []) ∈ Φ) : Tk K C Φ mt (.ref p) := .d (ns_t h) (.k (.f h)) (inferInstance : Ly (.t []) _ _) (by decide)
theorem tk_l1 (h : (.ref p, .l [.s (Str.ofString "q  0001 000000")]) ∈ Φ) : Tk K C Φ mt (.ref p) :=
  haveI : SOk (Str.ofString "q  0001 000000") := ⟨by decide +kernel, by decide +kernel⟩
  .d (ns_l h) (.k (.f h)) (inferInstance : Ly (.l [.s (Str.ofString "q  0001 000000")]) _ _) (by decide)
theorem tk_m {x : Addr} (hI : IsiM K C) (hs : PySem.W.kitOne K (.ref C) (.type "str") = some false) (h : (.ref x, .m m) ∈ Φ) : Tk K C Φ mt (.ref x) := .m (fun H s => by
  obtain ⟨dx, _, h1⟩ := s.insM h
  exact ⟨_, hI H x dx _ h1, hs⟩) h
theorem li_nil16 {a : Addr} {D : Addr} {ws : List W} {g : TG} {tt : TT} {te : TE} {σ0 : L2.St} {vs : List Nat} (s : S K C H Φ ((D, Eq (HO.lst ([] ++ [V.bl true] ++ [V.bl true] ++ [V.bl true] ++ [V.bl true] ++ [V.bl true] ++ [V.bl true] ++ [V.bl true] ++ [V.bl true] ++ [V.bl true] ++ [V.bl true] ++ [V.bl true] ++ [V.bl true] ++ [V.bl true] ++ [V.bl true] ++ [V.bl true] ++ [V.bl true]))) :: mt)) (h : (.ref a, .l ws) ∈ Φ) (k : S K C H ((.ref D, .l [W.b true, W.b true, W.b true, W.b true, W.b true, W.b true, W.b true, W.b true, W.b true, W.b true, W.b true, W.b true, W.b true, W.b true, W.b true, W.b true]) :: Φ) mt → Q (.ref D) H) : LcIt K C a ws g tt te σ0 vs D Q [] H := by
  have s2 : S K C H Φ ((D, Eq (HO.lst [V.bl true, V.bl true, V.bl true, V.bl true, V.bl true, V.bl true, V.bl true, V.bl true, V.bl true, V.bl true, V.bl true, V.bl true, V.bl true, V.bl true, V.bl true, V.bl true])) :: mt) := s
  exact li_nil s2 h .hd (.cons (.b _) (.cons (.b _) (.cons (.b _) (.cons (.b _) (.cons (.b _) (.cons (.b _) (.cons (.b _) (.cons (.b _) (.cons (.b _) (.cons (.b _) (.cons (.b _) (.cons (.b _) (.cons (.b _) (.cons (.b _) (.cons (.b _) (.cons (.b _) .nil)))))))))))))))) k
theorem lt_49 {r : Int} (h : r < 10 ^ Int.toNat 49) : r < 10000000000000000000000000000000000000000000000000 := by
  have e : (10 : Int) ^ Int.toNat 49 = 10000000000000000000000000000000000000000000000000 := by decide +kernel
  rw [e] at h
  exact h
theorem use_take49 (s : S K C H Φ mt) (hb : (b, IsBox) ∈ mt) (q : ∀ (r : Int) H', 0 ≤ r → r < 10000000000000000000000000000000000000000000000000 → S K C H' Φ mt → Q (.int r) H') : spTakeS K C [.ref b, .int (10 ^ Int.toNat 49)] H Q E := by
  have e : (10 : Int) ^ Int.toNat 49 = 10000000000000000000000000000000000000000000000000 := by decide +kernel
  rw [e]
  exact use_take s hb (by decide) (by decide) q
end
local macro_rules | `(tactic| kcf_m) => `(tactic| first
  | (apply spl_z; (focus (assumption)); (focus (assumption)); (focus (assumption))))
local macro_rules | `(tactic| kt_at_get) => `(tactic| with_reducible first
  | refine st_go ?_
  | (apply g_tYesI; try dsimp only [List.set_cons_succ, List.set_cons_zero])
  | (apply li_nil16; (focus (assumption)); (focus (tb_rel)); intro _))
local macro_rules | `(tactic| kt_len) => `(tactic| with_reducible first
  | (apply use_pool; (focus (assumption)); intro _ _ _)
  | (apply use_take; (focus (assumption)); (focus (tb_rel)); (focus (kcf_m)); (focus (kcf_m)); intro _ _ _ _ _)
  | (apply use_take49; (focus (assumption)); (focus (tb_rel)); intro _ _ _ _ _)
  | (apply use_spl; (focus (assumption)); (focus (first | (apply fil_90; (focus (assumption)); (focus (assumption))) | (apply cut_90))); (focus (assumption)); intro _ _ _ _)
  | (apply use_back; (focus (assumption)); (focus (first | assumption | (apply cut_240) | (apply cut_231; assumption))); intro _ _)
  | (apply use_grt; (focus (assumption)); (focus (apply MK.Ok.l; assumption)); (focus (assumption)); (focus (assumption)); (focus (assumption)); (focus (first | assumption | (apply lt_49; assumption))); intro _ _)
  | (apply use_refu; (focus (assumption)); (focus (first | (exact tk_n) | (exact tk_b) | (exact tk_i) | (apply tk_s; decide +kernel) | (apply tk_l0; tb_rel) | (apply tk_t0; tb_rel) | (apply tk_l1; tb_rel) | (apply tk_m; (focus (assumption)); (focus (assumption)); (focus (tb_rel))))); intro _ _)
  | (apply use_sgn; (focus (assumption)); (focus (tb_rel)); intro _ _ _)
  | (apply use_par; (focus (assumption)); (focus (tb_rel)); intro _ _ _ _ _ _)
  | (apply use_neI; (focus (assumption)); (focus (tb_rel)); (focus (tb_rel)); (focus (omega)); (focus (omega)); (focus (assumption)); (focus (assumption)); intro _ _ _ _ _ _)
  | (apply use_two; (focus (assumption)); (focus (tb_rel)); (focus (tb_rel)); (focus (assumption)); (focus (assumption)); (focus (assumption)); (focus (assumption)); intro _ _))
section
variable {P : Program} {w : World} {K : PySem.W.Frag} {mg : Str → Option Value} {base : Heap} {Z : Adr} {C : Addr}
theorem ok_law (T : Txt K mg Z) : FnOk P w K mg base CX0 14 Z.a_law Z.d_law ["_law_script"] (spLaw K) := by
  refine T.F_law.ok sc_law (fun vs H Q E h => ?_) (fun cdv A outer' s H vs Q E hr h => ?_)
  · obtain ⟨a, ns, rfl, _⟩ := h; rfl
  · obtain ⟨a, ns, rfl, hS, hlen, kk⟩ := h
    refine ⟨_, (pss_cons (ps_for PassesOwn.never rfl (pi_list (pe_op op_cat (pe_slice (slL K) (pv 0) po_none (po_some pe_int)) (pe_lst (pa_cons pe_int pa_nil)))) (pg_name (i := 1) sc_law.nd rfl (.inl rfl)) (pss_cons (ps_set (i := 2) sc_law.nd rfl (.inl rfl) (pe_call (ok_l_pool T) (hr.mono (by decide)) rfl T.g_l_pool T.F_l_pool.kp T.b_l_pool .nil pass0 (pa_cons (pv 1) pa_nil)))
      (pss_cons (ps_set (i := 3) sc_law.nd rfl (.inl rfl) (pe_call (ok_l_take T) (hr.mono (by decide)) rfl T.g_l_take T.F_l_take.kp T.b_l_take .nil pass0 (pa_cons (pv 2) (pa_cons pe_int pa_nil))))
      (pss_cons (ps_set (i := 4) sc_law.nd rfl (.inl rfl) (pe_call (ok_l_take T) (hr.mono (by decide)) rfl T.g_l_take T.F_l_take.kp T.b_l_take .nil pass0 (pa_cons (pv 2) (pa_cons pe_int pa_nil))))
      (pss_cons (ps_set (i := 5) sc_law.nd rfl (.inl rfl) (pe_call (ok_l_sign T) (hr.mono (by decide)) rfl T.g_l_sign T.F_l_sign.kp T.b_l_sign .nil pass0 (pa_cons (pv 2) pa_nil)))
      (pss_cons (ps_set (i := 6) sc_law.nd rfl (.inl rfl) (pe_call (ok_l_take T) (hr.mono (by decide)) rfl T.g_l_take T.F_l_take.kp T.b_l_take .nil pass0 (pa_cons (pv 2) (pa_cons pe_int pa_nil))))
      (pss_cons (ps_set (i := 7) sc_law.nd rfl (.inl rfl) (pe_call (ok_l_parts T) (hr.mono (by decide)) rfl T.g_l_parts T.F_l_parts.kp T.b_l_parts .nil pass0 (pa_cons (pv 2) pa_nil)))
      (pss_cons (ps_set (i := 8) sc_law.nd rfl (.inl rfl) (pe_call (ok_l_near T) (hr.mono (by decide)) rfl T.g_l_near T.F_l_near.kp T.b_l_near .nil pass0 (pa_cons (pv 7) (pa_cons (pv 6) (pa_cons (pv 2) pa_nil)))))
      (pss_cons (ps_if (PW.pt (pw_or (pt_not (pt_val (pe_call (ok_l_two T) (hr.mono (by decide)) rfl T.g_l_two T.F_l_two.kp T.b_l_two .nil pass0 (pa_cons (pv 7) (pa_cons (pv 8) pa_nil))))) (pw_or1 (pt_not (pt_val (pe_call (ok_l_back T) (hr.mono (by decide)) rfl T.g_l_back T.F_l_back.kp T.b_l_back .nil pass0 (pa_cons (pe_slice sl_str (pe_call (ok_l_spoilt T) (hr.mono (by decide)) rfl T.g_l_spoilt T.F_l_spoilt.kp T.b_l_spoilt .nil pass0 (pa_cons (pe_call (ok_l_filed T) (hr.mono (by decide)) rfl T.g_l_filed T.F_l_filed.kp T.b_l_filed .nil pass0 (pa_cons (pv 7) pa_nil)) (pa_cons (pv 3) (pa_cons (pv 4) (pa_cons (pv 5) pa_nil))))) po_none (po_some pe_int)) pa_nil))))))) (pss_one (ps_ret pe_bl)) pss_nil)
      (pss_cons (ps_if (pt_not (pt_val (pe_call (ok_l_great T) (hr.mono (by decide)) rfl T.g_l_great T.F_l_great.kp T.b_l_great .nil pass0 (pa_cons (pe_ix (ixL K) (pv 7) pe_int (fun _ _ => rfl)) (pa_cons (pe_call (ok_l_take T) (hr.mono (by decide)) rfl T.g_l_take T.F_l_take.kp T.b_l_take .nil pass0 (pa_cons (pv 2) (pa_cons pe_int pa_nil))) (pa_cons (pe_call (ok_l_take T) (hr.mono (by decide)) rfl T.g_l_take T.F_l_take.kp T.b_l_take .nil pass0 (pa_cons (pv 2) (pa_cons (pe_op op_pow pe_int pe_int) pa_nil))) pa_nil)))))) (pss_one (ps_ret pe_bl)) pss_nil)
      (pss_cons (ps_set (i := 9) sc_law.nd rfl (.inl rfl) (pe_slice sl_str (pe_call (ok_l_spoilt T) (hr.mono (by decide)) rfl T.g_l_spoilt T.F_l_spoilt.kp T.b_l_spoilt .nil pass0 (pa_cons (pe_call (ok_l_filed T) (hr.mono (by decide)) rfl T.g_l_filed T.F_l_filed.kp T.b_l_filed .nil pass0 (pa_cons (pv 7) pa_nil)) (pa_cons (pv 3) (pa_cons (pv 4) (pa_cons (pv 5) pa_nil))))) po_none (po_some pe_int)))
      (pss_one (ps_if (pt_not (pt_val (pe_call (ok_l_back T) (hr.mono (by decide)) rfl T.g_l_back T.F_l_back.kp T.b_l_back .nil pass0 (pa_cons (pe_call (ok_l_spoilt T) (hr.mono (by decide)) rfl T.g_l_spoilt T.F_l_spoilt.kp T.b_l_spoilt .nil pass0 (pa_cons (pv 9) (pa_cons (pe_call (ok_l_take T) (hr.mono (by decide)) rfl T.g_l_take T.F_l_take.kp T.b_l_take .nil pass0 (pa_cons (pv 2) (pa_cons pe_int pa_nil))) (pa_cons (pe_call (ok_l_take T) (hr.mono (by decide)) rfl T.g_l_take T.F_l_take.kp T.b_l_take .nil pass0 (pa_cons (pv 2) (pa_cons pe_int pa_nil))) (pa_cons (pe_call (ok_l_sign T) (hr.mono (by decide)) rfl T.g_l_sign T.F_l_sign.kp T.b_l_sign .nil pass0 (pa_cons (pv 2) pa_nil)) pa_nil))))) pa_nil)))) (pss_one (ps_ret pe_bl)) pss_nil)))))))))))))
      (pss_cons (ps_set (i := 10) sc_law.nd rfl (.inl rfl) (pe_lst (pa_cons pe_non (pa_cons pe_bl (pa_cons pe_int (pa_cons pe_int (pa_cons pe_str (pa_cons pe_str (pa_cons pe_str (pa_cons (pe_lst pa_nil) (pa_cons tup0 (pa_cons (pe_makeD T.M_Mark (ok_Mark_init T) (hr.mono (by decide)) rfl T.g_Mark T.b_Mark_init_3 passLN (pa_cons pe_str (pa_cons pe_int pa_nil))) (pa_cons (pe_lst (pa_cons pe_str pa_nil)) pa_nil)))))))))))))
      (pss_cons (ps_set (i := 10) sc_law.nd rfl (.inl rfl) (pe_op op_cat (pv 10) (pe_lst (pa_cons pe_str (pa_cons pe_str (pa_cons pe_str (pa_cons pe_str (pa_cons pe_str pa_nil))))))))
      (pss_one (ps_ret (pe_and (pe_callB (allK K rfl) (by rfl) T.n_all (by decide +kernel) (pa_cons (pe_lc (own := [("_law_thing", 11)]) (g := gName 11) (tt := tYes) rfl sc_law.nd (pi_list (pv 10)) (blkOk_by (own := [("_law_thing", 11)]) (N := ["_law_script", "_law_cell", "_law_pool_here", "_law_way", "_law_place", "_law_sign_here", "_law_at", "_law_fore", "_law_mate", "_law_signs", "_law_some", "_law_thing"]) (sc := defScope s_law) (by decide +kernel)) (fun _ _ _ _ _ => (pg_name (i := 11) sc_law.nd rfl (.inl rfl))) (fun _ _ _ _ _ => pts_nil) (fun _ _ _ _ _ => (pe_call (ok_l_refused T) (hr.mono (by decide)) rfl T.g_l_refused T.F_l_refused.kp T.b_l_refused .nil pass0 (pa_cons (pv 11) pa_nil)))) pa_nil)) (pe_one (pe_call (ok_l_back T) (hr.mono (by decide)) rfl T.g_l_back T.F_l_back.kp T.b_l_back .nil pass0 (pa_cons pe_str pa_nil))))))))), ?_⟩
    have okq := mQ_ok
    have hI : IsiM K Z.C_Mark := fun _ _ _ _ e => .base (.ins e T.cl_Mark T.t1_Mark T.t2_Mark T.t3_Mark T.t4_Mark)
    have hks := T.ks_Mark_str
    have s := S.start (C := Z.C_Mark) hS
    kxt_pos
    kopn_word
    refine g_slQ (n := 24) s List.mem_cons_self fun r1 H1 s1 => ?_
    kopn_word
    rename_i r2 H2 s2
    refine g_cat s2 (List.mem_cons_of_mem _ List.mem_cons_self) List.mem_cons_self (by rw [List.length_map, List.length_take]; simp only [List.length_cons, List.length_nil]; omega) inferInstance fun r3 H3 s3 => ?_
    kopn_word
    refine g_forL (fun j σ' H' => ∃ v1 v2 v3 v4 v5 v6 v7 v8 v9 v10 v11 : Option V, σ' = [some (.ref a), v1, v2, v3, v4, v5, v6, v7, v8, v9, v10, v11] ∧ S K Z.C_Mark H' [(.ref r3, .l ((ns.take 24 ++ [(5 : Int)]).map W.i))] []) ⟨_, _, _, _, _, _, _, _, _, _, _, rfl, by kt_ors⟩ (fun j σ' H' g => by obtain ⟨_, _, _, _, _, _, _, _, _, _, _, _, s4⟩ := g; exact ⟨_, _, s4, List.mem_cons_self⟩) (fun j w v σ' H' hj g gr => ?_) (fun σ' H' g => ?_)
    · obtain ⟨v1, v2, v3, v4, v5, v6, v7, v8, v9, v10, v11, rfl, s4⟩ := g
      have s5 := gr _ _ s4 List.mem_cons_self
      obtain ⟨n, rfl⟩ : ∃ n, v = .int n := by
        rw [List.getElem?_map] at hj
        obtain ⟨x, hx, rfl⟩ := Option.map_eq_some_iff.mp hj
        cases s5.rep (.f List.mem_cons_self) with | i => exact ⟨_, rfl⟩
      clear s5 gr hj
      kopn_word
      exact ⟨_, _, _, _, _, _, _, _, _, _, _, rfl, by kt_ors⟩
    · obtain ⟨v1, v2, v3, v4, v5, v6, v7, v8, v9, v10, v11, rfl, s4⟩ := g
      have hql : (Str.ofString "q  0001 000000").length ≤ 600 := by decide +kernel
      kopn_word
      rename_i D9 H9 s9
      refine g_all (bs := List.replicate 16 true) s9 List.mem_cons_self ?_
      rw [show (List.replicate 16 true).all id = true by decide]
      kopn_word
      exact kk _
end

/-! ### what the top has written, the head -/
theorem all_mk {l : PySem.W.OpenLaw} {w : World} {K : PySem.W.Frag} {h : Heap} {mg : Str → Option Value} {fa : Addr} (X : K.In h) (G : h.Ns mainGlobals mg) (hfa : mg "law" = some (.ref fa))
    {C_Mark : Addr}
    {C_NoLetters : Addr}
    {C_NoNumber : Addr}
    {C_NoPoints : Addr}
    {C_NoMakers : Addr}
    {C_NoMaker : Addr}
    {C_NoYear : Addr}
    {C_NoCopy : Addr}
    {C_NoText : Addr}
    {C_MarkError : Addr}
    {C_Alike : Addr}
    {f_NoLetters_init : Addr} {od_NoLetters_init an_NoLetters_init : Option Addr} {sl_NoLetters_init : Array (Option Value)} {oc_NoLetters_init kV_NoLetters_init dc_NoLetters_init pm_NoLetters_init cd_NoLetters_init ct_NoLetters_init : Value}
    {f_NoNumber_init : Addr} {od_NoNumber_init an_NoNumber_init : Option Addr} {sl_NoNumber_init : Array (Option Value)} {oc_NoNumber_init kV_NoNumber_init dc_NoNumber_init pm_NoNumber_init cd_NoNumber_init ct_NoNumber_init : Value}
    {f_NoPoints_init : Addr} {od_NoPoints_init an_NoPoints_init : Option Addr} {sl_NoPoints_init : Array (Option Value)} {oc_NoPoints_init kV_NoPoints_init dc_NoPoints_init pm_NoPoints_init cd_NoPoints_init ct_NoPoints_init : Value}
    {f_NoMakers_init : Addr} {od_NoMakers_init an_NoMakers_init : Option Addr} {sl_NoMakers_init : Array (Option Value)} {oc_NoMakers_init kV_NoMakers_init dc_NoMakers_init pm_NoMakers_init cd_NoMakers_init ct_NoMakers_init : Value}
    {f_NoMaker_init : Addr} {od_NoMaker_init an_NoMaker_init : Option Addr} {sl_NoMaker_init : Array (Option Value)} {oc_NoMaker_init kV_NoMaker_init dc_NoMaker_init pm_NoMaker_init cd_NoMaker_init ct_NoMaker_init : Value}
    {f_NoYear_init : Addr} {od_NoYear_init an_NoYear_init : Option Addr} {sl_NoYear_init : Array (Option Value)} {oc_NoYear_init kV_NoYear_init dc_NoYear_init pm_NoYear_init cd_NoYear_init ct_NoYear_init : Value}
    {f_NoCopy_init : Addr} {od_NoCopy_init an_NoCopy_init : Option Addr} {sl_NoCopy_init : Array (Option Value)} {oc_NoCopy_init kV_NoCopy_init dc_NoCopy_init pm_NoCopy_init cd_NoCopy_init ct_NoCopy_init : Value}
    {f_NoText_init : Addr} {od_NoText_init an_NoText_init : Option Addr} {sl_NoText_init : Array (Option Value)} {oc_NoText_init kV_NoText_init dc_NoText_init pm_NoText_init cd_NoText_init ct_NoText_init : Value}
    {f_is_number : Addr} {od_is_number an_is_number : Option Addr} {sl_is_number : Array (Option Value)} {oc_is_number kV_is_number dc_is_number pm_is_number cd_is_number ct_is_number : Value}
    {f_is_whole : Addr} {od_is_whole an_is_whole : Option Addr} {sl_is_whole : Array (Option Value)} {oc_is_whole kV_is_whole dc_is_whole pm_is_whole cd_is_whole ct_is_whole : Value}
    {dT_is_whole : Addr} {do_is_whole : Obj} {dn_is_whole : Nat} {dus_is_whole : List Value}
    {f_is_figures : Addr} {od_is_figures an_is_figures : Option Addr} {sl_is_figures : Array (Option Value)} {oc_is_figures kV_is_figures dc_is_figures pm_is_figures cd_is_figures ct_is_figures : Value}
    {f_is_letters : Addr} {od_is_letters an_is_letters : Option Addr} {sl_is_letters : Array (Option Value)} {oc_is_letters kV_is_letters dc_is_letters pm_is_letters cd_is_letters ct_is_letters : Value}
    {f_is_points : Addr} {od_is_points an_is_points : Option Addr} {sl_is_points : Array (Option Value)} {oc_is_points kV_is_points dc_is_points pm_is_points cd_is_points ct_is_points : Value}
    {f_is_maker : Addr} {od_is_maker an_is_maker : Option Addr} {sl_is_maker : Array (Option Value)} {oc_is_maker kV_is_maker dc_is_maker pm_is_maker cd_is_maker ct_is_maker : Value}
    {f_is_ended : Addr} {od_is_ended an_is_ended : Option Addr} {sl_is_ended : Array (Option Value)} {oc_is_ended kV_is_ended dc_is_ended pm_is_ended cd_is_ended ct_is_ended : Value}
    {f_Mark_init : Addr} {od_Mark_init an_Mark_init : Option Addr} {sl_Mark_init : Array (Option Value)} {oc_Mark_init kV_Mark_init dc_Mark_init pm_Mark_init cd_Mark_init ct_Mark_init : Value}
    {dT_Mark_init : Addr} {do_Mark_init : Obj} {dn_Mark_init : Nat} {dus_Mark_init : List Value}
    {f_Mark_eq : Addr} {od_Mark_eq an_Mark_eq : Option Addr} {sl_Mark_eq : Array (Option Value)} {oc_Mark_eq kV_Mark_eq dc_Mark_eq pm_Mark_eq cd_Mark_eq ct_Mark_eq : Value}
    {f_Mark_str : Addr} {od_Mark_str an_Mark_str : Option Addr} {sl_Mark_str : Array (Option Value)} {oc_Mark_str kV_Mark_str dc_Mark_str pm_Mark_str cd_Mark_str ct_Mark_str : Value}
    {f_Mark_repr : Addr} {od_Mark_repr an_Mark_repr : Option Addr} {sl_Mark_repr : Array (Option Value)} {oc_Mark_repr kV_Mark_repr dc_Mark_repr pm_Mark_repr cd_Mark_repr ct_Mark_repr : Value}
    {f_Mark_len : Addr} {od_Mark_len an_Mark_len : Option Addr} {sl_Mark_len : Array (Option Value)} {oc_Mark_len kV_Mark_len dc_Mark_len pm_Mark_len cd_Mark_len ct_Mark_len : Value}
    {f_Mark_letters : Addr} {od_Mark_letters an_Mark_letters : Option Addr} {sl_Mark_letters : Array (Option Value)} {oc_Mark_letters kV_Mark_letters dc_Mark_letters pm_Mark_letters cd_Mark_letters ct_Mark_letters : Value}
    {f_Mark_number : Addr} {od_Mark_number an_Mark_number : Option Addr} {sl_Mark_number : Array (Option Value)} {oc_Mark_number kV_Mark_number dc_Mark_number pm_Mark_number cd_Mark_number ct_Mark_number : Value}
    {f_Mark_points : Addr} {od_Mark_points an_Mark_points : Option Addr} {sl_Mark_points : Array (Option Value)} {oc_Mark_points kV_Mark_points dc_Mark_points pm_Mark_points cd_Mark_points ct_Mark_points : Value}
    {f_Mark_makers : Addr} {od_Mark_makers an_Mark_makers : Option Addr} {sl_Mark_makers : Array (Option Value)} {oc_Mark_makers kV_Mark_makers dc_Mark_makers pm_Mark_makers cd_Mark_makers ct_Mark_makers : Value}
    {f_Mark_year : Addr} {od_Mark_year an_Mark_year : Option Addr} {sl_Mark_year : Array (Option Value)} {oc_Mark_year kV_Mark_year dc_Mark_year pm_Mark_year cd_Mark_year ct_Mark_year : Value}
    {f_Mark_copy_number : Addr} {od_Mark_copy_number an_Mark_copy_number : Option Addr} {sl_Mark_copy_number : Array (Option Value)} {oc_Mark_copy_number kV_Mark_copy_number dc_Mark_copy_number pm_Mark_copy_number cd_Mark_copy_number ct_Mark_copy_number : Value}
    {f_Mark_parts : Addr} {od_Mark_parts an_Mark_parts : Option Addr} {sl_Mark_parts : Array (Option Value)} {oc_Mark_parts kV_Mark_parts dc_Mark_parts pm_Mark_parts cd_Mark_parts ct_Mark_parts : Value}
    {f_Mark_key : Addr} {od_Mark_key an_Mark_key : Option Addr} {sl_Mark_key : Array (Option Value)} {oc_Mark_key kV_Mark_key dc_Mark_key pm_Mark_key cd_Mark_key ct_Mark_key : Value}
    {f_Mark_ahead : Addr} {od_Mark_ahead an_Mark_ahead : Option Addr} {sl_Mark_ahead : Array (Option Value)} {oc_Mark_ahead kV_Mark_ahead dc_Mark_ahead pm_Mark_ahead cd_Mark_ahead ct_Mark_ahead : Value}
    {f_Mark_head : Addr} {od_Mark_head an_Mark_head : Option Addr} {sl_Mark_head : Array (Option Value)} {oc_Mark_head kV_Mark_head dc_Mark_head pm_Mark_head cd_Mark_head ct_Mark_head : Value}
    {f_Mark_book : Addr} {od_Mark_book an_Mark_book : Option Addr} {sl_Mark_book : Array (Option Value)} {oc_Mark_book kV_Mark_book dc_Mark_book pm_Mark_book cd_Mark_book ct_Mark_book : Value}
    {f_Mark_with_year : Addr} {od_Mark_with_year an_Mark_with_year : Option Addr} {sl_Mark_with_year : Array (Option Value)} {oc_Mark_with_year kV_Mark_with_year dc_Mark_with_year pm_Mark_with_year cd_Mark_with_year ct_Mark_with_year : Value}
    {dT_Mark_with_year : Addr} {do_Mark_with_year : Obj} {dn_Mark_with_year : Nat} {dus_Mark_with_year : List Value}
    {f_Mark_with_copy : Addr} {od_Mark_with_copy an_Mark_with_copy : Option Addr} {sl_Mark_with_copy : Array (Option Value)} {oc_Mark_with_copy kV_Mark_with_copy dc_Mark_with_copy pm_Mark_with_copy cd_Mark_with_copy ct_Mark_with_copy : Value}
    {dT_Mark_with_copy : Addr} {do_Mark_with_copy : Obj} {dn_Mark_with_copy : Nat} {dus_Mark_with_copy : List Value}
    {f_Mark_same_book : Addr} {od_Mark_same_book an_Mark_same_book : Option Addr} {sl_Mark_same_book : Array (Option Value)} {oc_Mark_same_book kV_Mark_same_book dc_Mark_same_book pm_Mark_same_book cd_Mark_same_book ct_Mark_same_book : Value}
    {f_kept_makers : Addr} {od_kept_makers an_kept_makers : Option Addr} {sl_kept_makers : Array (Option Value)} {oc_kept_makers kV_kept_makers dc_kept_makers pm_kept_makers cd_kept_makers ct_kept_makers : Value}
    {f_text_of : Addr} {od_text_of an_text_of : Option Addr} {sl_text_of : Array (Option Value)} {oc_text_of kV_text_of dc_text_of pm_text_of cd_text_of ct_text_of : Value}
    {f_filed : Addr} {od_filed an_filed : Option Addr} {sl_filed : Array (Option Value)} {oc_filed kV_filed dc_filed pm_filed cd_filed ct_filed : Value}
    {f_unfiled : Addr} {od_unfiled an_unfiled : Option Addr} {sl_unfiled : Array (Option Value)} {oc_unfiled kV_unfiled dc_unfiled pm_unfiled cd_unfiled ct_unfiled : Value}
    {f_filed_copy : Addr} {od_filed_copy an_filed_copy : Option Addr} {sl_filed_copy : Array (Option Value)} {oc_filed_copy kV_filed_copy dc_filed_copy pm_filed_copy cd_filed_copy ct_filed_copy : Value}
    {f_filed_count : Addr} {od_filed_count an_filed_count : Option Addr} {sl_filed_count : Array (Option Value)} {oc_filed_count kV_filed_count dc_filed_count pm_filed_count cd_filed_count ct_filed_count : Value}
    {f_mark_of : Addr} {od_mark_of an_mark_of : Option Addr} {sl_mark_of : Array (Option Value)} {oc_mark_of kV_mark_of dc_mark_of pm_mark_of cd_mark_of ct_mark_of : Value}
    {f_copy_of : Addr} {od_copy_of an_copy_of : Option Addr} {sl_copy_of : Array (Option Value)} {oc_copy_of kV_copy_of dc_copy_of pm_copy_of cd_copy_of ct_copy_of : Value}
    {f_l_pool : Addr} {od_l_pool an_l_pool : Option Addr} {sl_l_pool : Array (Option Value)} {oc_l_pool kV_l_pool dc_l_pool pm_l_pool cd_l_pool ct_l_pool : Value}
    {f_l_take : Addr} {od_l_take an_l_take : Option Addr} {sl_l_take : Array (Option Value)} {oc_l_take kV_l_take dc_l_take pm_l_take cd_l_take ct_l_take : Value}
    {f_l_figures : Addr} {od_l_figures an_l_figures : Option Addr} {sl_l_figures : Array (Option Value)} {oc_l_figures kV_l_figures dc_l_figures pm_l_figures cd_l_figures ct_l_figures : Value}
    {f_l_maker : Addr} {od_l_maker an_l_maker : Option Addr} {sl_l_maker : Array (Option Value)} {oc_l_maker kV_l_maker dc_l_maker pm_l_maker cd_l_maker ct_l_maker : Value}
    {f_l_parts : Addr} {od_l_parts an_l_parts : Option Addr} {sl_l_parts : Array (Option Value)} {oc_l_parts kV_l_parts dc_l_parts pm_l_parts cd_l_parts ct_l_parts : Value}
    {f_l_near_word : Addr} {od_l_near_word an_l_near_word : Option Addr} {sl_l_near_word : Array (Option Value)} {oc_l_near_word kV_l_near_word dc_l_near_word pm_l_near_word cd_l_near_word ct_l_near_word : Value}
    {f_l_near_makers : Addr} {od_l_near_makers an_l_near_makers : Option Addr} {sl_l_near_makers : Array (Option Value)} {oc_l_near_makers kV_l_near_makers dc_l_near_makers pm_l_near_makers cd_l_near_makers ct_l_near_makers : Value}
    {f_l_near_year : Addr} {od_l_near_year an_l_near_year : Option Addr} {sl_l_near_year : Array (Option Value)} {oc_l_near_year kV_l_near_year dc_l_near_year pm_l_near_year cd_l_near_year ct_l_near_year : Value}
    {f_l_near_copy : Addr} {od_l_near_copy an_l_near_copy : Option Addr} {sl_l_near_copy : Array (Option Value)} {oc_l_near_copy kV_l_near_copy dc_l_near_copy pm_l_near_copy cd_l_near_copy ct_l_near_copy : Value}
    {f_l_near : Addr} {od_l_near an_l_near : Option Addr} {sl_l_near : Array (Option Value)} {oc_l_near kV_l_near dc_l_near pm_l_near cd_l_near ct_l_near : Value}
    {f_l_mark : Addr} {od_l_mark an_l_mark : Option Addr} {sl_l_mark : Array (Option Value)} {oc_l_mark kV_l_mark dc_l_mark pm_l_mark cd_l_mark ct_l_mark : Value}
    {f_l_key : Addr} {od_l_key an_l_key : Option Addr} {sl_l_key : Array (Option Value)} {oc_l_key kV_l_key dc_l_key pm_l_key cd_l_key ct_l_key : Value}
    {f_l_filed : Addr} {od_l_filed an_l_filed : Option Addr} {sl_l_filed : Array (Option Value)} {oc_l_filed kV_l_filed dc_l_filed pm_l_filed cd_l_filed ct_l_filed : Value}
    {f_l_value : Addr} {od_l_value an_l_value : Option Addr} {sl_l_value : Array (Option Value)} {oc_l_value kV_l_value dc_l_value pm_l_value cd_l_value ct_l_value : Value}
    {f_l_ending : Addr} {od_l_ending an_l_ending : Option Addr} {sl_l_ending : Array (Option Value)} {oc_l_ending kV_l_ending dc_l_ending pm_l_ending cd_l_ending ct_l_ending : Value}
    {f_l_letters : Addr} {od_l_letters an_l_letters : Option Addr} {sl_l_letters : Array (Option Value)} {oc_l_letters kV_l_letters dc_l_letters pm_l_letters cd_l_letters ct_l_letters : Value}
    {f_l_read : Addr} {od_l_read an_l_read : Option Addr} {sl_l_read : Array (Option Value)} {oc_l_read kV_l_read dc_l_read pm_l_read cd_l_read ct_l_read : Value}
    {f_l_sign : Addr} {od_l_sign an_l_sign : Option Addr} {sl_l_sign : Array (Option Value)} {oc_l_sign kV_l_sign dc_l_sign pm_l_sign cd_l_sign ct_l_sign : Value}
    {f_l_spoilt : Addr} {od_l_spoilt an_l_spoilt : Option Addr} {sl_l_spoilt : Array (Option Value)} {oc_l_spoilt kV_l_spoilt dc_l_spoilt pm_l_spoilt cd_l_spoilt ct_l_spoilt : Value}
    {f_l_refused : Addr} {od_l_refused an_l_refused : Option Addr} {sl_l_refused : Array (Option Value)} {oc_l_refused kV_l_refused dc_l_refused pm_l_refused cd_l_refused ct_l_refused : Value}
    {f_l_back : Addr} {od_l_back an_l_back : Option Addr} {sl_l_back : Array (Option Value)} {oc_l_back kV_l_back dc_l_back pm_l_back cd_l_back ct_l_back : Value}
    {f_l_two : Addr} {od_l_two an_l_two : Option Addr} {sl_l_two : Array (Option Value)} {oc_l_two kV_l_two dc_l_two pm_l_two cd_l_two ct_l_two : Value}
    {f_l_great : Addr} {od_l_great an_l_great : Option Addr} {sl_l_great : Array (Option Value)} {oc_l_great kV_l_great dc_l_great pm_l_great cd_l_great ct_l_great : Value}
    {f_law : Addr} {od_law an_law : Option Addr} {sl_law : Array (Option Value)} {oc_law kV_law dc_law pm_law cd_law ct_law : Value}
    {xn_NoLetters xq_NoLetters : Str} {xN_NoLetters : Addr} {xb_NoLetters xm_NoLetters : List Value} {xs_NoLetters : List Str} {xu_NoLetters : List Value} {xa_NoLetters : Bool} {xc_NoLetters : Option Bool} {xd_NoLetters : Option Addr} {x0_NoLetters x1_NoLetters x2_NoLetters x3_NoLetters x5_NoLetters : Option Value}
    {xn_NoNumber xq_NoNumber : Str} {xN_NoNumber : Addr} {xb_NoNumber xm_NoNumber : List Value} {xs_NoNumber : List Str} {xu_NoNumber : List Value} {xa_NoNumber : Bool} {xc_NoNumber : Option Bool} {xd_NoNumber : Option Addr} {x0_NoNumber x1_NoNumber x2_NoNumber x3_NoNumber x5_NoNumber : Option Value}
    {xn_NoPoints xq_NoPoints : Str} {xN_NoPoints : Addr} {xb_NoPoints xm_NoPoints : List Value} {xs_NoPoints : List Str} {xu_NoPoints : List Value} {xa_NoPoints : Bool} {xc_NoPoints : Option Bool} {xd_NoPoints : Option Addr} {x0_NoPoints x1_NoPoints x2_NoPoints x3_NoPoints x5_NoPoints : Option Value}
    {xn_NoMakers xq_NoMakers : Str} {xN_NoMakers : Addr} {xb_NoMakers xm_NoMakers : List Value} {xs_NoMakers : List Str} {xu_NoMakers : List Value} {xa_NoMakers : Bool} {xc_NoMakers : Option Bool} {xd_NoMakers : Option Addr} {x0_NoMakers x1_NoMakers x2_NoMakers x3_NoMakers x5_NoMakers : Option Value}
    {xn_NoMaker xq_NoMaker : Str} {xN_NoMaker : Addr} {xb_NoMaker xm_NoMaker : List Value} {xs_NoMaker : List Str} {xu_NoMaker : List Value} {xa_NoMaker : Bool} {xc_NoMaker : Option Bool} {xd_NoMaker : Option Addr} {x0_NoMaker x1_NoMaker x2_NoMaker x3_NoMaker x5_NoMaker : Option Value}
    {xn_NoYear xq_NoYear : Str} {xN_NoYear : Addr} {xb_NoYear xm_NoYear : List Value} {xs_NoYear : List Str} {xu_NoYear : List Value} {xa_NoYear : Bool} {xc_NoYear : Option Bool} {xd_NoYear : Option Addr} {x0_NoYear x1_NoYear x2_NoYear x3_NoYear x5_NoYear : Option Value}
    {xn_NoCopy xq_NoCopy : Str} {xN_NoCopy : Addr} {xb_NoCopy xm_NoCopy : List Value} {xs_NoCopy : List Str} {xu_NoCopy : List Value} {xa_NoCopy : Bool} {xc_NoCopy : Option Bool} {xd_NoCopy : Option Addr} {x0_NoCopy x1_NoCopy x2_NoCopy x3_NoCopy x5_NoCopy : Option Value}
    {xn_NoText xq_NoText : Str} {xN_NoText : Addr} {xb_NoText xm_NoText : List Value} {xs_NoText : List Str} {xu_NoText : List Value} {xa_NoText : Bool} {xc_NoText : Option Bool} {xd_NoText : Option Addr} {x0_NoText x1_NoText x2_NoText x3_NoText x5_NoText : Option Value}
    {tk_SMALL : Tok}
    {tk_NO_YEAR : Tok}
    {tk_NO_COPY : Tok}
    (aC_Mark : PySem.W.nsIn K mainGlobals "Mark" = some (some (.ref C_Mark)))
    (pg_Mark : PySem.W.plainGet K C_Mark Str.empty = true)
    (hd_Mark : PySem.W.hasDictIn K C_Mark = true)
    (po_Mark : PySem.W.plainOver K C_Mark = true)
    (sa_Mark : PySem.W.findIn K (.ref C_Mark) "__setattr__" = some (some (.builtin "object.__setattr__")))
    (mk_Mark : PySem.W.makesIn K C_Mark = true)
    (kc_Mark : PySem.W.keepIn K (.ref C_Mark) = true)
    (t1_Mark : PySem.W.findIn K (.ref C_Mark) "__class__" = some (some (.builtin "object.__class__")))
    (t4_Mark : PySem.W.mroIn K C_Mark (.type "object") = some true)
    (t2_Mark : PySem.W.specialIn K (.builtin "object.__class__") "__get__" = some (some (.builtin "getset_descriptor.__get__")))
    (t3_Mark : PySem.W.takesIn K (.builtin "object.__class__") = some true)
    (ne_Mark : PySem.W.findIn K (.ref C_Mark) "__ne__" = some (some (.builtin "object.__ne__")))
    (ic_Mark : PySem.W.isClsIn K C_Mark = true)
    (ty_Mark : PySem.W.typeIn K (.ref C_Mark) = some (.type "type"))
    (na_Mark_parts : PySem.W.findIn K (.ref C_Mark) "_parts" = some none)
    (na_Mark_text : PySem.W.findIn K (.ref C_Mark) "_text" = some none)
    (a_NoLetters_init : PySem.W.findIn K (.ref C_NoLetters) "__init__" = some (some (.ref f_NoLetters_init)))
    (i_NoLetters_init : PySem.W.isFn K (.ref f_NoLetters_init) = true)
    (l_NoLetters_init : K.lookup f_NoLetters_init = some ⟨oc_NoLetters_init, od_NoLetters_init, .func (PySem.W.fnOf "__init__" "NoLetters.__init__" (defArgs s_NoLetters_init) (defBody s_NoLetters_init) (defScope s_NoLetters_init) .none kV_NoLetters_init dc_NoLetters_init pm_NoLetters_init an_NoLetters_init cd_NoLetters_init ct_NoLetters_init), sl_NoLetters_init⟩)
    (c_NoLetters_init : PySem.W.codeIn K cd_NoLetters_init "NoLetters.__init__" = true)
    (k_NoLetters_init : PySem.W.keepIn K (.ref f_NoLetters_init) = true)
    (a_NoNumber_init : PySem.W.findIn K (.ref C_NoNumber) "__init__" = some (some (.ref f_NoNumber_init)))
    (i_NoNumber_init : PySem.W.isFn K (.ref f_NoNumber_init) = true)
    (l_NoNumber_init : K.lookup f_NoNumber_init = some ⟨oc_NoNumber_init, od_NoNumber_init, .func (PySem.W.fnOf "__init__" "NoNumber.__init__" (defArgs s_NoNumber_init) (defBody s_NoNumber_init) (defScope s_NoNumber_init) .none kV_NoNumber_init dc_NoNumber_init pm_NoNumber_init an_NoNumber_init cd_NoNumber_init ct_NoNumber_init), sl_NoNumber_init⟩)
    (c_NoNumber_init : PySem.W.codeIn K cd_NoNumber_init "NoNumber.__init__" = true)
    (k_NoNumber_init : PySem.W.keepIn K (.ref f_NoNumber_init) = true)
    (a_NoPoints_init : PySem.W.findIn K (.ref C_NoPoints) "__init__" = some (some (.ref f_NoPoints_init)))
    (i_NoPoints_init : PySem.W.isFn K (.ref f_NoPoints_init) = true)
    (l_NoPoints_init : K.lookup f_NoPoints_init = some ⟨oc_NoPoints_init, od_NoPoints_init, .func (PySem.W.fnOf "__init__" "NoPoints.__init__" (defArgs s_NoPoints_init) (defBody s_NoPoints_init) (defScope s_NoPoints_init) .none kV_NoPoints_init dc_NoPoints_init pm_NoPoints_init an_NoPoints_init cd_NoPoints_init ct_NoPoints_init), sl_NoPoints_init⟩)
    (c_NoPoints_init : PySem.W.codeIn K cd_NoPoints_init "NoPoints.__init__" = true)
    (k_NoPoints_init : PySem.W.keepIn K (.ref f_NoPoints_init) = true)
    (a_NoMakers_init : PySem.W.findIn K (.ref C_NoMakers) "__init__" = some (some (.ref f_NoMakers_init)))
    (i_NoMakers_init : PySem.W.isFn K (.ref f_NoMakers_init) = true)
    (l_NoMakers_init : K.lookup f_NoMakers_init = some ⟨oc_NoMakers_init, od_NoMakers_init, .func (PySem.W.fnOf "__init__" "NoMakers.__init__" (defArgs s_NoMakers_init) (defBody s_NoMakers_init) (defScope s_NoMakers_init) .none kV_NoMakers_init dc_NoMakers_init pm_NoMakers_init an_NoMakers_init cd_NoMakers_init ct_NoMakers_init), sl_NoMakers_init⟩)
    (c_NoMakers_init : PySem.W.codeIn K cd_NoMakers_init "NoMakers.__init__" = true)
    (k_NoMakers_init : PySem.W.keepIn K (.ref f_NoMakers_init) = true)
    (a_NoMaker_init : PySem.W.findIn K (.ref C_NoMaker) "__init__" = some (some (.ref f_NoMaker_init)))
    (i_NoMaker_init : PySem.W.isFn K (.ref f_NoMaker_init) = true)
    (l_NoMaker_init : K.lookup f_NoMaker_init = some ⟨oc_NoMaker_init, od_NoMaker_init, .func (PySem.W.fnOf "__init__" "NoMaker.__init__" (defArgs s_NoMaker_init) (defBody s_NoMaker_init) (defScope s_NoMaker_init) .none kV_NoMaker_init dc_NoMaker_init pm_NoMaker_init an_NoMaker_init cd_NoMaker_init ct_NoMaker_init), sl_NoMaker_init⟩)
    (c_NoMaker_init : PySem.W.codeIn K cd_NoMaker_init "NoMaker.__init__" = true)
    (k_NoMaker_init : PySem.W.keepIn K (.ref f_NoMaker_init) = true)
    (a_NoYear_init : PySem.W.findIn K (.ref C_NoYear) "__init__" = some (some (.ref f_NoYear_init)))
    (i_NoYear_init : PySem.W.isFn K (.ref f_NoYear_init) = true)
    (l_NoYear_init : K.lookup f_NoYear_init = some ⟨oc_NoYear_init, od_NoYear_init, .func (PySem.W.fnOf "__init__" "NoYear.__init__" (defArgs s_NoYear_init) (defBody s_NoYear_init) (defScope s_NoYear_init) .none kV_NoYear_init dc_NoYear_init pm_NoYear_init an_NoYear_init cd_NoYear_init ct_NoYear_init), sl_NoYear_init⟩)
    (c_NoYear_init : PySem.W.codeIn K cd_NoYear_init "NoYear.__init__" = true)
    (k_NoYear_init : PySem.W.keepIn K (.ref f_NoYear_init) = true)
    (a_NoCopy_init : PySem.W.findIn K (.ref C_NoCopy) "__init__" = some (some (.ref f_NoCopy_init)))
    (i_NoCopy_init : PySem.W.isFn K (.ref f_NoCopy_init) = true)
    (l_NoCopy_init : K.lookup f_NoCopy_init = some ⟨oc_NoCopy_init, od_NoCopy_init, .func (PySem.W.fnOf "__init__" "NoCopy.__init__" (defArgs s_NoCopy_init) (defBody s_NoCopy_init) (defScope s_NoCopy_init) .none kV_NoCopy_init dc_NoCopy_init pm_NoCopy_init an_NoCopy_init cd_NoCopy_init ct_NoCopy_init), sl_NoCopy_init⟩)
    (c_NoCopy_init : PySem.W.codeIn K cd_NoCopy_init "NoCopy.__init__" = true)
    (k_NoCopy_init : PySem.W.keepIn K (.ref f_NoCopy_init) = true)
    (a_NoText_init : PySem.W.findIn K (.ref C_NoText) "__init__" = some (some (.ref f_NoText_init)))
    (i_NoText_init : PySem.W.isFn K (.ref f_NoText_init) = true)
    (l_NoText_init : K.lookup f_NoText_init = some ⟨oc_NoText_init, od_NoText_init, .func (PySem.W.fnOf "__init__" "NoText.__init__" (defArgs s_NoText_init) (defBody s_NoText_init) (defScope s_NoText_init) .none kV_NoText_init dc_NoText_init pm_NoText_init an_NoText_init cd_NoText_init ct_NoText_init), sl_NoText_init⟩)
    (c_NoText_init : PySem.W.codeIn K cd_NoText_init "NoText.__init__" = true)
    (k_NoText_init : PySem.W.keepIn K (.ref f_NoText_init) = true)
    (a_is_number : PySem.W.nsIn K mainGlobals "is_number" = some (some (.ref f_is_number)))
    (l_is_number : K.lookup f_is_number = some ⟨oc_is_number, od_is_number, .func (PySem.W.fnOf "is_number" "is_number" (defArgs s_is_number) (defBody s_is_number) (defScope s_is_number) .none kV_is_number dc_is_number pm_is_number an_is_number cd_is_number ct_is_number), sl_is_number⟩)
    (c_is_number : PySem.W.codeIn K cd_is_number "is_number" = true)
    (k_is_number : PySem.W.keepIn K (.ref f_is_number) = true)
    (a_is_whole : PySem.W.nsIn K mainGlobals "is_whole" = some (some (.ref f_is_whole)))
    (l_is_whole : K.lookup f_is_whole = some ⟨oc_is_whole, od_is_whole, .func (PySem.W.fnOf "is_whole" "is_whole" (defArgs s_is_whole) (defBody s_is_whole) (defScope s_is_whole) (.ref dT_is_whole) kV_is_whole dc_is_whole pm_is_whole an_is_whole cd_is_whole ct_is_whole), sl_is_whole⟩)
    (c_is_whole : PySem.W.codeIn K cd_is_whole "is_whole" = true)
    (k_is_whole : PySem.W.keepIn K (.ref f_is_whole) = true)
    (e_is_whole : K.lookup dT_is_whole = some do_is_whole)
    (x_is_whole : do_is_whole.data = .seq dus_is_whole.toArray dn_is_whole)
    (v_is_whole : Vals [.non] dus_is_whole)
    (a_is_figures : PySem.W.nsIn K mainGlobals "is_figures" = some (some (.ref f_is_figures)))
    (l_is_figures : K.lookup f_is_figures = some ⟨oc_is_figures, od_is_figures, .func (PySem.W.fnOf "is_figures" "is_figures" (defArgs s_is_figures) (defBody s_is_figures) (defScope s_is_figures) .none kV_is_figures dc_is_figures pm_is_figures an_is_figures cd_is_figures ct_is_figures), sl_is_figures⟩)
    (c_is_figures : PySem.W.codeIn K cd_is_figures "is_figures" = true)
    (k_is_figures : PySem.W.keepIn K (.ref f_is_figures) = true)
    (a_is_letters : PySem.W.nsIn K mainGlobals "is_letters" = some (some (.ref f_is_letters)))
    (l_is_letters : K.lookup f_is_letters = some ⟨oc_is_letters, od_is_letters, .func (PySem.W.fnOf "is_letters" "is_letters" (defArgs s_is_letters) (defBody s_is_letters) (defScope s_is_letters) .none kV_is_letters dc_is_letters pm_is_letters an_is_letters cd_is_letters ct_is_letters), sl_is_letters⟩)
    (c_is_letters : PySem.W.codeIn K cd_is_letters "is_letters" = true)
    (k_is_letters : PySem.W.keepIn K (.ref f_is_letters) = true)
    (a_is_points : PySem.W.nsIn K mainGlobals "is_points" = some (some (.ref f_is_points)))
    (l_is_points : K.lookup f_is_points = some ⟨oc_is_points, od_is_points, .func (PySem.W.fnOf "is_points" "is_points" (defArgs s_is_points) (defBody s_is_points) (defScope s_is_points) .none kV_is_points dc_is_points pm_is_points an_is_points cd_is_points ct_is_points), sl_is_points⟩)
    (c_is_points : PySem.W.codeIn K cd_is_points "is_points" = true)
    (k_is_points : PySem.W.keepIn K (.ref f_is_points) = true)
    (a_is_maker : PySem.W.nsIn K mainGlobals "is_maker" = some (some (.ref f_is_maker)))
    (l_is_maker : K.lookup f_is_maker = some ⟨oc_is_maker, od_is_maker, .func (PySem.W.fnOf "is_maker" "is_maker" (defArgs s_is_maker) (defBody s_is_maker) (defScope s_is_maker) .none kV_is_maker dc_is_maker pm_is_maker an_is_maker cd_is_maker ct_is_maker), sl_is_maker⟩)
    (c_is_maker : PySem.W.codeIn K cd_is_maker "is_maker" = true)
    (k_is_maker : PySem.W.keepIn K (.ref f_is_maker) = true)
    (a_is_ended : PySem.W.nsIn K mainGlobals "_is_ended" = some (some (.ref f_is_ended)))
    (l_is_ended : K.lookup f_is_ended = some ⟨oc_is_ended, od_is_ended, .func (PySem.W.fnOf "_is_ended" "_is_ended" (defArgs s_is_ended) (defBody s_is_ended) (defScope s_is_ended) .none kV_is_ended dc_is_ended pm_is_ended an_is_ended cd_is_ended ct_is_ended), sl_is_ended⟩)
    (c_is_ended : PySem.W.codeIn K cd_is_ended "_is_ended" = true)
    (k_is_ended : PySem.W.keepIn K (.ref f_is_ended) = true)
    (a_Mark_init : PySem.W.findIn K (.ref C_Mark) "__init__" = some (some (.ref f_Mark_init)))
    (i_Mark_init : PySem.W.isFn K (.ref f_Mark_init) = true)
    (l_Mark_init : K.lookup f_Mark_init = some ⟨oc_Mark_init, od_Mark_init, .func (PySem.W.fnOf "__init__" "Mark.__init__" (defArgs s_Mark_init) (defBody s_Mark_init) (defScope s_Mark_init) (.ref dT_Mark_init) kV_Mark_init dc_Mark_init pm_Mark_init an_Mark_init cd_Mark_init ct_Mark_init), sl_Mark_init⟩)
    (c_Mark_init : PySem.W.codeIn K cd_Mark_init "Mark.__init__" = true)
    (k_Mark_init : PySem.W.keepIn K (.ref f_Mark_init) = true)
    (e_Mark_init : K.lookup dT_Mark_init = some do_Mark_init)
    (x_Mark_init : do_Mark_init.data = .seq dus_Mark_init.toArray dn_Mark_init)
    (v_Mark_init : Vals [.str Str.empty, .non, .non, .non] dus_Mark_init)
    (a_Mark_eq : PySem.W.findIn K (.ref C_Mark) "__eq__" = some (some (.ref f_Mark_eq)))
    (i_Mark_eq : PySem.W.isFn K (.ref f_Mark_eq) = true)
    (l_Mark_eq : K.lookup f_Mark_eq = some ⟨oc_Mark_eq, od_Mark_eq, .func (PySem.W.fnOf "__eq__" "Mark.__eq__" (defArgs s_Mark_eq) (defBody s_Mark_eq) (defScope s_Mark_eq) .none kV_Mark_eq dc_Mark_eq pm_Mark_eq an_Mark_eq cd_Mark_eq ct_Mark_eq), sl_Mark_eq⟩)
    (c_Mark_eq : PySem.W.codeIn K cd_Mark_eq "Mark.__eq__" = true)
    (k_Mark_eq : PySem.W.keepIn K (.ref f_Mark_eq) = true)
    (a_Mark_str : PySem.W.findIn K (.ref C_Mark) "__str__" = some (some (.ref f_Mark_str)))
    (i_Mark_str : PySem.W.isFn K (.ref f_Mark_str) = true)
    (l_Mark_str : K.lookup f_Mark_str = some ⟨oc_Mark_str, od_Mark_str, .func (PySem.W.fnOf "__str__" "Mark.__str__" (defArgs s_Mark_str) (defBody s_Mark_str) (defScope s_Mark_str) .none kV_Mark_str dc_Mark_str pm_Mark_str an_Mark_str cd_Mark_str ct_Mark_str), sl_Mark_str⟩)
    (c_Mark_str : PySem.W.codeIn K cd_Mark_str "Mark.__str__" = true)
    (k_Mark_str : PySem.W.keepIn K (.ref f_Mark_str) = true)
    (a_Mark_repr : PySem.W.findIn K (.ref C_Mark) "__repr__" = some (some (.ref f_Mark_repr)))
    (i_Mark_repr : PySem.W.isFn K (.ref f_Mark_repr) = true)
    (l_Mark_repr : K.lookup f_Mark_repr = some ⟨oc_Mark_repr, od_Mark_repr, .func (PySem.W.fnOf "__repr__" "Mark.__repr__" (defArgs s_Mark_repr) (defBody s_Mark_repr) (defScope s_Mark_repr) .none kV_Mark_repr dc_Mark_repr pm_Mark_repr an_Mark_repr cd_Mark_repr ct_Mark_repr), sl_Mark_repr⟩)
    (c_Mark_repr : PySem.W.codeIn K cd_Mark_repr "Mark.__repr__" = true)
    (k_Mark_repr : PySem.W.keepIn K (.ref f_Mark_repr) = true)
    (a_Mark_len : PySem.W.findIn K (.ref C_Mark) "__len__" = some (some (.ref f_Mark_len)))
    (i_Mark_len : PySem.W.isFn K (.ref f_Mark_len) = true)
    (l_Mark_len : K.lookup f_Mark_len = some ⟨oc_Mark_len, od_Mark_len, .func (PySem.W.fnOf "__len__" "Mark.__len__" (defArgs s_Mark_len) (defBody s_Mark_len) (defScope s_Mark_len) .none kV_Mark_len dc_Mark_len pm_Mark_len an_Mark_len cd_Mark_len ct_Mark_len), sl_Mark_len⟩)
    (c_Mark_len : PySem.W.codeIn K cd_Mark_len "Mark.__len__" = true)
    (k_Mark_len : PySem.W.keepIn K (.ref f_Mark_len) = true)
    (a_Mark_letters : PySem.W.findIn K (.ref C_Mark) "letters" = some (some (.ref f_Mark_letters)))
    (i_Mark_letters : PySem.W.isFn K (.ref f_Mark_letters) = true)
    (l_Mark_letters : K.lookup f_Mark_letters = some ⟨oc_Mark_letters, od_Mark_letters, .func (PySem.W.fnOf "letters" "Mark.letters" (defArgs s_Mark_letters) (defBody s_Mark_letters) (defScope s_Mark_letters) .none kV_Mark_letters dc_Mark_letters pm_Mark_letters an_Mark_letters cd_Mark_letters ct_Mark_letters), sl_Mark_letters⟩)
    (c_Mark_letters : PySem.W.codeIn K cd_Mark_letters "Mark.letters" = true)
    (k_Mark_letters : PySem.W.keepIn K (.ref f_Mark_letters) = true)
    (a_Mark_number : PySem.W.findIn K (.ref C_Mark) "number" = some (some (.ref f_Mark_number)))
    (i_Mark_number : PySem.W.isFn K (.ref f_Mark_number) = true)
    (l_Mark_number : K.lookup f_Mark_number = some ⟨oc_Mark_number, od_Mark_number, .func (PySem.W.fnOf "number" "Mark.number" (defArgs s_Mark_number) (defBody s_Mark_number) (defScope s_Mark_number) .none kV_Mark_number dc_Mark_number pm_Mark_number an_Mark_number cd_Mark_number ct_Mark_number), sl_Mark_number⟩)
    (c_Mark_number : PySem.W.codeIn K cd_Mark_number "Mark.number" = true)
    (k_Mark_number : PySem.W.keepIn K (.ref f_Mark_number) = true)
    (a_Mark_points : PySem.W.findIn K (.ref C_Mark) "points" = some (some (.ref f_Mark_points)))
    (i_Mark_points : PySem.W.isFn K (.ref f_Mark_points) = true)
    (l_Mark_points : K.lookup f_Mark_points = some ⟨oc_Mark_points, od_Mark_points, .func (PySem.W.fnOf "points" "Mark.points" (defArgs s_Mark_points) (defBody s_Mark_points) (defScope s_Mark_points) .none kV_Mark_points dc_Mark_points pm_Mark_points an_Mark_points cd_Mark_points ct_Mark_points), sl_Mark_points⟩)
    (c_Mark_points : PySem.W.codeIn K cd_Mark_points "Mark.points" = true)
    (k_Mark_points : PySem.W.keepIn K (.ref f_Mark_points) = true)
    (a_Mark_makers : PySem.W.findIn K (.ref C_Mark) "makers" = some (some (.ref f_Mark_makers)))
    (i_Mark_makers : PySem.W.isFn K (.ref f_Mark_makers) = true)
    (l_Mark_makers : K.lookup f_Mark_makers = some ⟨oc_Mark_makers, od_Mark_makers, .func (PySem.W.fnOf "makers" "Mark.makers" (defArgs s_Mark_makers) (defBody s_Mark_makers) (defScope s_Mark_makers) .none kV_Mark_makers dc_Mark_makers pm_Mark_makers an_Mark_makers cd_Mark_makers ct_Mark_makers), sl_Mark_makers⟩)
    (c_Mark_makers : PySem.W.codeIn K cd_Mark_makers "Mark.makers" = true)
    (k_Mark_makers : PySem.W.keepIn K (.ref f_Mark_makers) = true)
    (a_Mark_year : PySem.W.findIn K (.ref C_Mark) "year" = some (some (.ref f_Mark_year)))
    (i_Mark_year : PySem.W.isFn K (.ref f_Mark_year) = true)
    (l_Mark_year : K.lookup f_Mark_year = some ⟨oc_Mark_year, od_Mark_year, .func (PySem.W.fnOf "year" "Mark.year" (defArgs s_Mark_year) (defBody s_Mark_year) (defScope s_Mark_year) .none kV_Mark_year dc_Mark_year pm_Mark_year an_Mark_year cd_Mark_year ct_Mark_year), sl_Mark_year⟩)
    (c_Mark_year : PySem.W.codeIn K cd_Mark_year "Mark.year" = true)
    (k_Mark_year : PySem.W.keepIn K (.ref f_Mark_year) = true)
    (a_Mark_copy_number : PySem.W.findIn K (.ref C_Mark) "copy_number" = some (some (.ref f_Mark_copy_number)))
    (i_Mark_copy_number : PySem.W.isFn K (.ref f_Mark_copy_number) = true)
    (l_Mark_copy_number : K.lookup f_Mark_copy_number = some ⟨oc_Mark_copy_number, od_Mark_copy_number, .func (PySem.W.fnOf "copy_number" "Mark.copy_number" (defArgs s_Mark_copy_number) (defBody s_Mark_copy_number) (defScope s_Mark_copy_number) .none kV_Mark_copy_number dc_Mark_copy_number pm_Mark_copy_number an_Mark_copy_number cd_Mark_copy_number ct_Mark_copy_number), sl_Mark_copy_number⟩)
    (c_Mark_copy_number : PySem.W.codeIn K cd_Mark_copy_number "Mark.copy_number" = true)
    (k_Mark_copy_number : PySem.W.keepIn K (.ref f_Mark_copy_number) = true)
    (a_Mark_parts : PySem.W.findIn K (.ref C_Mark) "parts" = some (some (.ref f_Mark_parts)))
    (i_Mark_parts : PySem.W.isFn K (.ref f_Mark_parts) = true)
    (l_Mark_parts : K.lookup f_Mark_parts = some ⟨oc_Mark_parts, od_Mark_parts, .func (PySem.W.fnOf "parts" "Mark.parts" (defArgs s_Mark_parts) (defBody s_Mark_parts) (defScope s_Mark_parts) .none kV_Mark_parts dc_Mark_parts pm_Mark_parts an_Mark_parts cd_Mark_parts ct_Mark_parts), sl_Mark_parts⟩)
    (c_Mark_parts : PySem.W.codeIn K cd_Mark_parts "Mark.parts" = true)
    (k_Mark_parts : PySem.W.keepIn K (.ref f_Mark_parts) = true)
    (a_Mark_key : PySem.W.findIn K (.ref C_Mark) "key" = some (some (.ref f_Mark_key)))
    (i_Mark_key : PySem.W.isFn K (.ref f_Mark_key) = true)
    (l_Mark_key : K.lookup f_Mark_key = some ⟨oc_Mark_key, od_Mark_key, .func (PySem.W.fnOf "key" "Mark.key" (defArgs s_Mark_key) (defBody s_Mark_key) (defScope s_Mark_key) .none kV_Mark_key dc_Mark_key pm_Mark_key an_Mark_key cd_Mark_key ct_Mark_key), sl_Mark_key⟩)
    (c_Mark_key : PySem.W.codeIn K cd_Mark_key "Mark.key" = true)
    (k_Mark_key : PySem.W.keepIn K (.ref f_Mark_key) = true)
    (a_Mark_ahead : PySem.W.findIn K (.ref C_Mark) "ahead" = some (some (.ref f_Mark_ahead)))
    (i_Mark_ahead : PySem.W.isFn K (.ref f_Mark_ahead) = true)
    (l_Mark_ahead : K.lookup f_Mark_ahead = some ⟨oc_Mark_ahead, od_Mark_ahead, .func (PySem.W.fnOf "ahead" "Mark.ahead" (defArgs s_Mark_ahead) (defBody s_Mark_ahead) (defScope s_Mark_ahead) .none kV_Mark_ahead dc_Mark_ahead pm_Mark_ahead an_Mark_ahead cd_Mark_ahead ct_Mark_ahead), sl_Mark_ahead⟩)
    (c_Mark_ahead : PySem.W.codeIn K cd_Mark_ahead "Mark.ahead" = true)
    (k_Mark_ahead : PySem.W.keepIn K (.ref f_Mark_ahead) = true)
    (a_Mark_head : PySem.W.findIn K (.ref C_Mark) "head" = some (some (.ref f_Mark_head)))
    (i_Mark_head : PySem.W.isFn K (.ref f_Mark_head) = true)
    (l_Mark_head : K.lookup f_Mark_head = some ⟨oc_Mark_head, od_Mark_head, .func (PySem.W.fnOf "head" "Mark.head" (defArgs s_Mark_head) (defBody s_Mark_head) (defScope s_Mark_head) .none kV_Mark_head dc_Mark_head pm_Mark_head an_Mark_head cd_Mark_head ct_Mark_head), sl_Mark_head⟩)
    (c_Mark_head : PySem.W.codeIn K cd_Mark_head "Mark.head" = true)
    (k_Mark_head : PySem.W.keepIn K (.ref f_Mark_head) = true)
    (a_Mark_book : PySem.W.findIn K (.ref C_Mark) "book" = some (some (.ref f_Mark_book)))
    (i_Mark_book : PySem.W.isFn K (.ref f_Mark_book) = true)
    (l_Mark_book : K.lookup f_Mark_book = some ⟨oc_Mark_book, od_Mark_book, .func (PySem.W.fnOf "book" "Mark.book" (defArgs s_Mark_book) (defBody s_Mark_book) (defScope s_Mark_book) .none kV_Mark_book dc_Mark_book pm_Mark_book an_Mark_book cd_Mark_book ct_Mark_book), sl_Mark_book⟩)
    (c_Mark_book : PySem.W.codeIn K cd_Mark_book "Mark.book" = true)
    (k_Mark_book : PySem.W.keepIn K (.ref f_Mark_book) = true)
    (a_Mark_with_year : PySem.W.findIn K (.ref C_Mark) "with_year" = some (some (.ref f_Mark_with_year)))
    (i_Mark_with_year : PySem.W.isFn K (.ref f_Mark_with_year) = true)
    (l_Mark_with_year : K.lookup f_Mark_with_year = some ⟨oc_Mark_with_year, od_Mark_with_year, .func (PySem.W.fnOf "with_year" "Mark.with_year" (defArgs s_Mark_with_year) (defBody s_Mark_with_year) (defScope s_Mark_with_year) (.ref dT_Mark_with_year) kV_Mark_with_year dc_Mark_with_year pm_Mark_with_year an_Mark_with_year cd_Mark_with_year ct_Mark_with_year), sl_Mark_with_year⟩)
    (c_Mark_with_year : PySem.W.codeIn K cd_Mark_with_year "Mark.with_year" = true)
    (k_Mark_with_year : PySem.W.keepIn K (.ref f_Mark_with_year) = true)
    (e_Mark_with_year : K.lookup dT_Mark_with_year = some do_Mark_with_year)
    (x_Mark_with_year : do_Mark_with_year.data = .seq dus_Mark_with_year.toArray dn_Mark_with_year)
    (v_Mark_with_year : Vals [.non] dus_Mark_with_year)
    (a_Mark_with_copy : PySem.W.findIn K (.ref C_Mark) "with_copy" = some (some (.ref f_Mark_with_copy)))
    (i_Mark_with_copy : PySem.W.isFn K (.ref f_Mark_with_copy) = true)
    (l_Mark_with_copy : K.lookup f_Mark_with_copy = some ⟨oc_Mark_with_copy, od_Mark_with_copy, .func (PySem.W.fnOf "with_copy" "Mark.with_copy" (defArgs s_Mark_with_copy) (defBody s_Mark_with_copy) (defScope s_Mark_with_copy) (.ref dT_Mark_with_copy) kV_Mark_with_copy dc_Mark_with_copy pm_Mark_with_copy an_Mark_with_copy cd_Mark_with_copy ct_Mark_with_copy), sl_Mark_with_copy⟩)
    (c_Mark_with_copy : PySem.W.codeIn K cd_Mark_with_copy "Mark.with_copy" = true)
    (k_Mark_with_copy : PySem.W.keepIn K (.ref f_Mark_with_copy) = true)
    (e_Mark_with_copy : K.lookup dT_Mark_with_copy = some do_Mark_with_copy)
    (x_Mark_with_copy : do_Mark_with_copy.data = .seq dus_Mark_with_copy.toArray dn_Mark_with_copy)
    (v_Mark_with_copy : Vals [.non] dus_Mark_with_copy)
    (a_Mark_same_book : PySem.W.findIn K (.ref C_Mark) "same_book" = some (some (.ref f_Mark_same_book)))
    (i_Mark_same_book : PySem.W.isFn K (.ref f_Mark_same_book) = true)
    (l_Mark_same_book : K.lookup f_Mark_same_book = some ⟨oc_Mark_same_book, od_Mark_same_book, .func (PySem.W.fnOf "same_book" "Mark.same_book" (defArgs s_Mark_same_book) (defBody s_Mark_same_book) (defScope s_Mark_same_book) .none kV_Mark_same_book dc_Mark_same_book pm_Mark_same_book an_Mark_same_book cd_Mark_same_book ct_Mark_same_book), sl_Mark_same_book⟩)
    (c_Mark_same_book : PySem.W.codeIn K cd_Mark_same_book "Mark.same_book" = true)
    (k_Mark_same_book : PySem.W.keepIn K (.ref f_Mark_same_book) = true)
    (a_kept_makers : PySem.W.nsIn K mainGlobals "_kept_makers" = some (some (.ref f_kept_makers)))
    (l_kept_makers : K.lookup f_kept_makers = some ⟨oc_kept_makers, od_kept_makers, .func (PySem.W.fnOf "_kept_makers" "_kept_makers" (defArgs s_kept_makers) (defBody s_kept_makers) (defScope s_kept_makers) .none kV_kept_makers dc_kept_makers pm_kept_makers an_kept_makers cd_kept_makers ct_kept_makers), sl_kept_makers⟩)
    (c_kept_makers : PySem.W.codeIn K cd_kept_makers "_kept_makers" = true)
    (k_kept_makers : PySem.W.keepIn K (.ref f_kept_makers) = true)
    (a_text_of : PySem.W.nsIn K mainGlobals "_text_of" = some (some (.ref f_text_of)))
    (l_text_of : K.lookup f_text_of = some ⟨oc_text_of, od_text_of, .func (PySem.W.fnOf "_text_of" "_text_of" (defArgs s_text_of) (defBody s_text_of) (defScope s_text_of) .none kV_text_of dc_text_of pm_text_of an_text_of cd_text_of ct_text_of), sl_text_of⟩)
    (c_text_of : PySem.W.codeIn K cd_text_of "_text_of" = true)
    (k_text_of : PySem.W.keepIn K (.ref f_text_of) = true)
    (a_filed : PySem.W.nsIn K mainGlobals "filed" = some (some (.ref f_filed)))
    (l_filed : K.lookup f_filed = some ⟨oc_filed, od_filed, .func (PySem.W.fnOf "filed" "filed" (defArgs s_filed) (defBody s_filed) (defScope s_filed) .none kV_filed dc_filed pm_filed an_filed cd_filed ct_filed), sl_filed⟩)
    (c_filed : PySem.W.codeIn K cd_filed "filed" = true)
    (k_filed : PySem.W.keepIn K (.ref f_filed) = true)
    (a_unfiled : PySem.W.nsIn K mainGlobals "unfiled" = some (some (.ref f_unfiled)))
    (l_unfiled : K.lookup f_unfiled = some ⟨oc_unfiled, od_unfiled, .func (PySem.W.fnOf "unfiled" "unfiled" (defArgs s_unfiled) (defBody s_unfiled) (defScope s_unfiled) .none kV_unfiled dc_unfiled pm_unfiled an_unfiled cd_unfiled ct_unfiled), sl_unfiled⟩)
    (c_unfiled : PySem.W.codeIn K cd_unfiled "unfiled" = true)
    (k_unfiled : PySem.W.keepIn K (.ref f_unfiled) = true)
    (a_filed_copy : PySem.W.nsIn K mainGlobals "_filed_copy" = some (some (.ref f_filed_copy)))
    (l_filed_copy : K.lookup f_filed_copy = some ⟨oc_filed_copy, od_filed_copy, .func (PySem.W.fnOf "_filed_copy" "_filed_copy" (defArgs s_filed_copy) (defBody s_filed_copy) (defScope s_filed_copy) .none kV_filed_copy dc_filed_copy pm_filed_copy an_filed_copy cd_filed_copy ct_filed_copy), sl_filed_copy⟩)
    (c_filed_copy : PySem.W.codeIn K cd_filed_copy "_filed_copy" = true)
    (k_filed_copy : PySem.W.keepIn K (.ref f_filed_copy) = true)
    (a_filed_count : PySem.W.nsIn K mainGlobals "_filed_count" = some (some (.ref f_filed_count)))
    (l_filed_count : K.lookup f_filed_count = some ⟨oc_filed_count, od_filed_count, .func (PySem.W.fnOf "_filed_count" "_filed_count" (defArgs s_filed_count) (defBody s_filed_count) (defScope s_filed_count) .none kV_filed_count dc_filed_count pm_filed_count an_filed_count cd_filed_count ct_filed_count), sl_filed_count⟩)
    (c_filed_count : PySem.W.codeIn K cd_filed_count "_filed_count" = true)
    (k_filed_count : PySem.W.keepIn K (.ref f_filed_count) = true)
    (a_mark_of : PySem.W.nsIn K mainGlobals "_mark_of" = some (some (.ref f_mark_of)))
    (l_mark_of : K.lookup f_mark_of = some ⟨oc_mark_of, od_mark_of, .func (PySem.W.fnOf "_mark_of" "_mark_of" (defArgs s_mark_of) (defBody s_mark_of) (defScope s_mark_of) .none kV_mark_of dc_mark_of pm_mark_of an_mark_of cd_mark_of ct_mark_of), sl_mark_of⟩)
    (c_mark_of : PySem.W.codeIn K cd_mark_of "_mark_of" = true)
    (k_mark_of : PySem.W.keepIn K (.ref f_mark_of) = true)
    (a_copy_of : PySem.W.nsIn K mainGlobals "_copy_of" = some (some (.ref f_copy_of)))
    (l_copy_of : K.lookup f_copy_of = some ⟨oc_copy_of, od_copy_of, .func (PySem.W.fnOf "_copy_of" "_copy_of" (defArgs s_copy_of) (defBody s_copy_of) (defScope s_copy_of) .none kV_copy_of dc_copy_of pm_copy_of an_copy_of cd_copy_of ct_copy_of), sl_copy_of⟩)
    (c_copy_of : PySem.W.codeIn K cd_copy_of "_copy_of" = true)
    (k_copy_of : PySem.W.keepIn K (.ref f_copy_of) = true)
    (a_l_pool : PySem.W.nsIn K mainGlobals "_law_pool" = some (some (.ref f_l_pool)))
    (l_l_pool : K.lookup f_l_pool = some ⟨oc_l_pool, od_l_pool, .func (PySem.W.fnOf "_law_pool" "_law_pool" (defArgs s_l_pool) (defBody s_l_pool) (defScope s_l_pool) .none kV_l_pool dc_l_pool pm_l_pool an_l_pool cd_l_pool ct_l_pool), sl_l_pool⟩)
    (c_l_pool : PySem.W.codeIn K cd_l_pool "_law_pool" = true)
    (k_l_pool : PySem.W.keepIn K (.ref f_l_pool) = true)
    (a_l_take : PySem.W.nsIn K mainGlobals "_law_take" = some (some (.ref f_l_take)))
    (l_l_take : K.lookup f_l_take = some ⟨oc_l_take, od_l_take, .func (PySem.W.fnOf "_law_take" "_law_take" (defArgs s_l_take) (defBody s_l_take) (defScope s_l_take) .none kV_l_take dc_l_take pm_l_take an_l_take cd_l_take ct_l_take), sl_l_take⟩)
    (c_l_take : PySem.W.codeIn K cd_l_take "_law_take" = true)
    (k_l_take : PySem.W.keepIn K (.ref f_l_take) = true)
    (a_l_figures : PySem.W.nsIn K mainGlobals "_law_figures" = some (some (.ref f_l_figures)))
    (l_l_figures : K.lookup f_l_figures = some ⟨oc_l_figures, od_l_figures, .func (PySem.W.fnOf "_law_figures" "_law_figures" (defArgs s_l_figures) (defBody s_l_figures) (defScope s_l_figures) .none kV_l_figures dc_l_figures pm_l_figures an_l_figures cd_l_figures ct_l_figures), sl_l_figures⟩)
    (c_l_figures : PySem.W.codeIn K cd_l_figures "_law_figures" = true)
    (k_l_figures : PySem.W.keepIn K (.ref f_l_figures) = true)
    (a_l_maker : PySem.W.nsIn K mainGlobals "_law_maker" = some (some (.ref f_l_maker)))
    (l_l_maker : K.lookup f_l_maker = some ⟨oc_l_maker, od_l_maker, .func (PySem.W.fnOf "_law_maker" "_law_maker" (defArgs s_l_maker) (defBody s_l_maker) (defScope s_l_maker) .none kV_l_maker dc_l_maker pm_l_maker an_l_maker cd_l_maker ct_l_maker), sl_l_maker⟩)
    (c_l_maker : PySem.W.codeIn K cd_l_maker "_law_maker" = true)
    (k_l_maker : PySem.W.keepIn K (.ref f_l_maker) = true)
    (a_l_parts : PySem.W.nsIn K mainGlobals "_law_parts" = some (some (.ref f_l_parts)))
    (l_l_parts : K.lookup f_l_parts = some ⟨oc_l_parts, od_l_parts, .func (PySem.W.fnOf "_law_parts" "_law_parts" (defArgs s_l_parts) (defBody s_l_parts) (defScope s_l_parts) .none kV_l_parts dc_l_parts pm_l_parts an_l_parts cd_l_parts ct_l_parts), sl_l_parts⟩)
    (c_l_parts : PySem.W.codeIn K cd_l_parts "_law_parts" = true)
    (k_l_parts : PySem.W.keepIn K (.ref f_l_parts) = true)
    (a_l_near_word : PySem.W.nsIn K mainGlobals "_law_near_word" = some (some (.ref f_l_near_word)))
    (l_l_near_word : K.lookup f_l_near_word = some ⟨oc_l_near_word, od_l_near_word, .func (PySem.W.fnOf "_law_near_word" "_law_near_word" (defArgs s_l_near_word) (defBody s_l_near_word) (defScope s_l_near_word) .none kV_l_near_word dc_l_near_word pm_l_near_word an_l_near_word cd_l_near_word ct_l_near_word), sl_l_near_word⟩)
    (c_l_near_word : PySem.W.codeIn K cd_l_near_word "_law_near_word" = true)
    (k_l_near_word : PySem.W.keepIn K (.ref f_l_near_word) = true)
    (a_l_near_makers : PySem.W.nsIn K mainGlobals "_law_near_makers" = some (some (.ref f_l_near_makers)))
    (l_l_near_makers : K.lookup f_l_near_makers = some ⟨oc_l_near_makers, od_l_near_makers, .func (PySem.W.fnOf "_law_near_makers" "_law_near_makers" (defArgs s_l_near_makers) (defBody s_l_near_makers) (defScope s_l_near_makers) .none kV_l_near_makers dc_l_near_makers pm_l_near_makers an_l_near_makers cd_l_near_makers ct_l_near_makers), sl_l_near_makers⟩)
    (c_l_near_makers : PySem.W.codeIn K cd_l_near_makers "_law_near_makers" = true)
    (k_l_near_makers : PySem.W.keepIn K (.ref f_l_near_makers) = true)
    (a_l_near_year : PySem.W.nsIn K mainGlobals "_law_near_year" = some (some (.ref f_l_near_year)))
    (l_l_near_year : K.lookup f_l_near_year = some ⟨oc_l_near_year, od_l_near_year, .func (PySem.W.fnOf "_law_near_year" "_law_near_year" (defArgs s_l_near_year) (defBody s_l_near_year) (defScope s_l_near_year) .none kV_l_near_year dc_l_near_year pm_l_near_year an_l_near_year cd_l_near_year ct_l_near_year), sl_l_near_year⟩)
    (c_l_near_year : PySem.W.codeIn K cd_l_near_year "_law_near_year" = true)
    (k_l_near_year : PySem.W.keepIn K (.ref f_l_near_year) = true)
    (a_l_near_copy : PySem.W.nsIn K mainGlobals "_law_near_copy" = some (some (.ref f_l_near_copy)))
    (l_l_near_copy : K.lookup f_l_near_copy = some ⟨oc_l_near_copy, od_l_near_copy, .func (PySem.W.fnOf "_law_near_copy" "_law_near_copy" (defArgs s_l_near_copy) (defBody s_l_near_copy) (defScope s_l_near_copy) .none kV_l_near_copy dc_l_near_copy pm_l_near_copy an_l_near_copy cd_l_near_copy ct_l_near_copy), sl_l_near_copy⟩)
    (c_l_near_copy : PySem.W.codeIn K cd_l_near_copy "_law_near_copy" = true)
    (k_l_near_copy : PySem.W.keepIn K (.ref f_l_near_copy) = true)
    (a_l_near : PySem.W.nsIn K mainGlobals "_law_near" = some (some (.ref f_l_near)))
    (l_l_near : K.lookup f_l_near = some ⟨oc_l_near, od_l_near, .func (PySem.W.fnOf "_law_near" "_law_near" (defArgs s_l_near) (defBody s_l_near) (defScope s_l_near) .none kV_l_near dc_l_near pm_l_near an_l_near cd_l_near ct_l_near), sl_l_near⟩)
    (c_l_near : PySem.W.codeIn K cd_l_near "_law_near" = true)
    (k_l_near : PySem.W.keepIn K (.ref f_l_near) = true)
    (a_l_mark : PySem.W.nsIn K mainGlobals "_law_mark" = some (some (.ref f_l_mark)))
    (l_l_mark : K.lookup f_l_mark = some ⟨oc_l_mark, od_l_mark, .func (PySem.W.fnOf "_law_mark" "_law_mark" (defArgs s_l_mark) (defBody s_l_mark) (defScope s_l_mark) .none kV_l_mark dc_l_mark pm_l_mark an_l_mark cd_l_mark ct_l_mark), sl_l_mark⟩)
    (c_l_mark : PySem.W.codeIn K cd_l_mark "_law_mark" = true)
    (k_l_mark : PySem.W.keepIn K (.ref f_l_mark) = true)
    (a_l_key : PySem.W.nsIn K mainGlobals "_law_key" = some (some (.ref f_l_key)))
    (l_l_key : K.lookup f_l_key = some ⟨oc_l_key, od_l_key, .func (PySem.W.fnOf "_law_key" "_law_key" (defArgs s_l_key) (defBody s_l_key) (defScope s_l_key) .none kV_l_key dc_l_key pm_l_key an_l_key cd_l_key ct_l_key), sl_l_key⟩)
    (c_l_key : PySem.W.codeIn K cd_l_key "_law_key" = true)
    (k_l_key : PySem.W.keepIn K (.ref f_l_key) = true)
    (a_l_filed : PySem.W.nsIn K mainGlobals "_law_filed" = some (some (.ref f_l_filed)))
    (l_l_filed : K.lookup f_l_filed = some ⟨oc_l_filed, od_l_filed, .func (PySem.W.fnOf "_law_filed" "_law_filed" (defArgs s_l_filed) (defBody s_l_filed) (defScope s_l_filed) .none kV_l_filed dc_l_filed pm_l_filed an_l_filed cd_l_filed ct_l_filed), sl_l_filed⟩)
    (c_l_filed : PySem.W.codeIn K cd_l_filed "_law_filed" = true)
    (k_l_filed : PySem.W.keepIn K (.ref f_l_filed) = true)
    (a_l_value : PySem.W.nsIn K mainGlobals "_law_value" = some (some (.ref f_l_value)))
    (l_l_value : K.lookup f_l_value = some ⟨oc_l_value, od_l_value, .func (PySem.W.fnOf "_law_value" "_law_value" (defArgs s_l_value) (defBody s_l_value) (defScope s_l_value) .none kV_l_value dc_l_value pm_l_value an_l_value cd_l_value ct_l_value), sl_l_value⟩)
    (c_l_value : PySem.W.codeIn K cd_l_value "_law_value" = true)
    (k_l_value : PySem.W.keepIn K (.ref f_l_value) = true)
    (a_l_ending : PySem.W.nsIn K mainGlobals "_law_ending" = some (some (.ref f_l_ending)))
    (l_l_ending : K.lookup f_l_ending = some ⟨oc_l_ending, od_l_ending, .func (PySem.W.fnOf "_law_ending" "_law_ending" (defArgs s_l_ending) (defBody s_l_ending) (defScope s_l_ending) .none kV_l_ending dc_l_ending pm_l_ending an_l_ending cd_l_ending ct_l_ending), sl_l_ending⟩)
    (c_l_ending : PySem.W.codeIn K cd_l_ending "_law_ending" = true)
    (k_l_ending : PySem.W.keepIn K (.ref f_l_ending) = true)
    (a_l_letters : PySem.W.nsIn K mainGlobals "_law_letters" = some (some (.ref f_l_letters)))
    (l_l_letters : K.lookup f_l_letters = some ⟨oc_l_letters, od_l_letters, .func (PySem.W.fnOf "_law_letters" "_law_letters" (defArgs s_l_letters) (defBody s_l_letters) (defScope s_l_letters) .none kV_l_letters dc_l_letters pm_l_letters an_l_letters cd_l_letters ct_l_letters), sl_l_letters⟩)
    (c_l_letters : PySem.W.codeIn K cd_l_letters "_law_letters" = true)
    (k_l_letters : PySem.W.keepIn K (.ref f_l_letters) = true)
    (a_l_read : PySem.W.nsIn K mainGlobals "_law_read" = some (some (.ref f_l_read)))
    (l_l_read : K.lookup f_l_read = some ⟨oc_l_read, od_l_read, .func (PySem.W.fnOf "_law_read" "_law_read" (defArgs s_l_read) (defBody s_l_read) (defScope s_l_read) .none kV_l_read dc_l_read pm_l_read an_l_read cd_l_read ct_l_read), sl_l_read⟩)
    (c_l_read : PySem.W.codeIn K cd_l_read "_law_read" = true)
    (k_l_read : PySem.W.keepIn K (.ref f_l_read) = true)
    (a_l_sign : PySem.W.nsIn K mainGlobals "_law_sign" = some (some (.ref f_l_sign)))
    (l_l_sign : K.lookup f_l_sign = some ⟨oc_l_sign, od_l_sign, .func (PySem.W.fnOf "_law_sign" "_law_sign" (defArgs s_l_sign) (defBody s_l_sign) (defScope s_l_sign) .none kV_l_sign dc_l_sign pm_l_sign an_l_sign cd_l_sign ct_l_sign), sl_l_sign⟩)
    (c_l_sign : PySem.W.codeIn K cd_l_sign "_law_sign" = true)
    (k_l_sign : PySem.W.keepIn K (.ref f_l_sign) = true)
    (a_l_spoilt : PySem.W.nsIn K mainGlobals "_law_spoilt" = some (some (.ref f_l_spoilt)))
    (l_l_spoilt : K.lookup f_l_spoilt = some ⟨oc_l_spoilt, od_l_spoilt, .func (PySem.W.fnOf "_law_spoilt" "_law_spoilt" (defArgs s_l_spoilt) (defBody s_l_spoilt) (defScope s_l_spoilt) .none kV_l_spoilt dc_l_spoilt pm_l_spoilt an_l_spoilt cd_l_spoilt ct_l_spoilt), sl_l_spoilt⟩)
    (c_l_spoilt : PySem.W.codeIn K cd_l_spoilt "_law_spoilt" = true)
    (k_l_spoilt : PySem.W.keepIn K (.ref f_l_spoilt) = true)
    (a_l_refused : PySem.W.nsIn K mainGlobals "_law_refused" = some (some (.ref f_l_refused)))
    (l_l_refused : K.lookup f_l_refused = some ⟨oc_l_refused, od_l_refused, .func (PySem.W.fnOf "_law_refused" "_law_refused" (defArgs s_l_refused) (defBody s_l_refused) (defScope s_l_refused) .none kV_l_refused dc_l_refused pm_l_refused an_l_refused cd_l_refused ct_l_refused), sl_l_refused⟩)
    (c_l_refused : PySem.W.codeIn K cd_l_refused "_law_refused" = true)
    (k_l_refused : PySem.W.keepIn K (.ref f_l_refused) = true)
    (a_l_back : PySem.W.nsIn K mainGlobals "_law_back" = some (some (.ref f_l_back)))
    (l_l_back : K.lookup f_l_back = some ⟨oc_l_back, od_l_back, .func (PySem.W.fnOf "_law_back" "_law_back" (defArgs s_l_back) (defBody s_l_back) (defScope s_l_back) .none kV_l_back dc_l_back pm_l_back an_l_back cd_l_back ct_l_back), sl_l_back⟩)
    (c_l_back : PySem.W.codeIn K cd_l_back "_law_back" = true)
    (k_l_back : PySem.W.keepIn K (.ref f_l_back) = true)
    (a_l_two : PySem.W.nsIn K mainGlobals "_law_two" = some (some (.ref f_l_two)))
    (l_l_two : K.lookup f_l_two = some ⟨oc_l_two, od_l_two, .func (PySem.W.fnOf "_law_two" "_law_two" (defArgs s_l_two) (defBody s_l_two) (defScope s_l_two) .none kV_l_two dc_l_two pm_l_two an_l_two cd_l_two ct_l_two), sl_l_two⟩)
    (c_l_two : PySem.W.codeIn K cd_l_two "_law_two" = true)
    (k_l_two : PySem.W.keepIn K (.ref f_l_two) = true)
    (a_l_great : PySem.W.nsIn K mainGlobals "_law_great" = some (some (.ref f_l_great)))
    (l_l_great : K.lookup f_l_great = some ⟨oc_l_great, od_l_great, .func (PySem.W.fnOf "_law_great" "_law_great" (defArgs s_l_great) (defBody s_l_great) (defScope s_l_great) .none kV_l_great dc_l_great pm_l_great an_l_great cd_l_great ct_l_great), sl_l_great⟩)
    (c_l_great : PySem.W.codeIn K cd_l_great "_law_great" = true)
    (k_l_great : PySem.W.keepIn K (.ref f_l_great) = true)
    (a_law : PySem.W.nsIn K mainGlobals "law" = some (some (.ref f_law)))
    (l_law : K.lookup f_law = some ⟨oc_law, od_law, .func (PySem.W.fnOf "law" "law" (defArgs s_law) (defBody s_law) (defScope s_law) .none kV_law dc_law pm_law an_law cd_law ct_law), sl_law⟩)
    (c_law : PySem.W.codeIn K cd_law "law" = true)
    (k_law : PySem.W.keepIn K (.ref f_law) = true)
    (aC_NoLetters : PySem.W.nsIn K mainGlobals "NoLetters" = some (some (.ref C_NoLetters)))
    (xl_NoLetters : K.lookup C_NoLetters = some (excClassObj xn_NoLetters xq_NoLetters C_NoLetters xN_NoLetters xb_NoLetters xm_NoLetters true xs_NoLetters xu_NoLetters xa_NoLetters xc_NoLetters xd_NoLetters x0_NoLetters x1_NoLetters x2_NoLetters x3_NoLetters x5_NoLetters "ValueError.__new__"))
    (xr_NoLetters : PySem.HandSPX.refsVE xm_NoLetters = true)
    (sa_NoLetters : PySem.W.findIn K (.ref C_NoLetters) "__setattr__" = some (some (.builtin "object.__setattr__")))
    (eC_NoLetters : PySem.W.subIn K (.ref C_NoLetters) (.type "BaseException") = some true)
    (ty_NoLetters : PySem.W.typeIn K (.ref C_NoLetters) = some (.type "type"))
    (kc_NoLetters : PySem.W.keepIn K (.ref C_NoLetters) = true)
    (no_NoLetters : PySem.W.findIn K (.ref C_NoLetters) "found" = some none)
    (ga_NoLetters : PySem.W.findIn K (.ref C_NoLetters) "__getattribute__" = some (some (.builtin "BaseException.__getattribute__")))
    (gg_NoLetters : PySem.W.findIn K (.ref C_NoLetters) "__getattr__" = some none)
    (hd_NoLetters : PySem.W.hasDictIn K C_NoLetters = true)
    (t1_NoLetters : PySem.W.findIn K (.ref C_NoLetters) "__class__" = some (some (.builtin "object.__class__")))
    (t2_NoLetters : PySem.W.specialIn K (.builtin "object.__class__") "__get__" = some (some (.builtin "getset_descriptor.__get__")))
    (t3_NoLetters : PySem.W.takesIn K (.builtin "object.__class__") = some true)
    (t4_NoLetters : PySem.W.mroIn K C_NoLetters (.type "object") = some true)
    (ti_NoLetters : PySem.W.typeIn K (.ref f_NoLetters_init) = some (.type "function"))
    (aC_NoNumber : PySem.W.nsIn K mainGlobals "NoNumber" = some (some (.ref C_NoNumber)))
    (xl_NoNumber : K.lookup C_NoNumber = some (excClassObj xn_NoNumber xq_NoNumber C_NoNumber xN_NoNumber xb_NoNumber xm_NoNumber true xs_NoNumber xu_NoNumber xa_NoNumber xc_NoNumber xd_NoNumber x0_NoNumber x1_NoNumber x2_NoNumber x3_NoNumber x5_NoNumber "ValueError.__new__"))
    (xr_NoNumber : PySem.HandSPX.refsVE xm_NoNumber = true)
    (sa_NoNumber : PySem.W.findIn K (.ref C_NoNumber) "__setattr__" = some (some (.builtin "object.__setattr__")))
    (eC_NoNumber : PySem.W.subIn K (.ref C_NoNumber) (.type "BaseException") = some true)
    (ty_NoNumber : PySem.W.typeIn K (.ref C_NoNumber) = some (.type "type"))
    (kc_NoNumber : PySem.W.keepIn K (.ref C_NoNumber) = true)
    (no_NoNumber : PySem.W.findIn K (.ref C_NoNumber) "found" = some none)
    (ga_NoNumber : PySem.W.findIn K (.ref C_NoNumber) "__getattribute__" = some (some (.builtin "BaseException.__getattribute__")))
    (gg_NoNumber : PySem.W.findIn K (.ref C_NoNumber) "__getattr__" = some none)
    (hd_NoNumber : PySem.W.hasDictIn K C_NoNumber = true)
    (t1_NoNumber : PySem.W.findIn K (.ref C_NoNumber) "__class__" = some (some (.builtin "object.__class__")))
    (t2_NoNumber : PySem.W.specialIn K (.builtin "object.__class__") "__get__" = some (some (.builtin "getset_descriptor.__get__")))
    (t3_NoNumber : PySem.W.takesIn K (.builtin "object.__class__") = some true)
    (t4_NoNumber : PySem.W.mroIn K C_NoNumber (.type "object") = some true)
    (ti_NoNumber : PySem.W.typeIn K (.ref f_NoNumber_init) = some (.type "function"))
    (aC_NoPoints : PySem.W.nsIn K mainGlobals "NoPoints" = some (some (.ref C_NoPoints)))
    (xl_NoPoints : K.lookup C_NoPoints = some (excClassObj xn_NoPoints xq_NoPoints C_NoPoints xN_NoPoints xb_NoPoints xm_NoPoints true xs_NoPoints xu_NoPoints xa_NoPoints xc_NoPoints xd_NoPoints x0_NoPoints x1_NoPoints x2_NoPoints x3_NoPoints x5_NoPoints "ValueError.__new__"))
    (xr_NoPoints : PySem.HandSPX.refsVE xm_NoPoints = true)
    (sa_NoPoints : PySem.W.findIn K (.ref C_NoPoints) "__setattr__" = some (some (.builtin "object.__setattr__")))
    (eC_NoPoints : PySem.W.subIn K (.ref C_NoPoints) (.type "BaseException") = some true)
    (ty_NoPoints : PySem.W.typeIn K (.ref C_NoPoints) = some (.type "type"))
    (kc_NoPoints : PySem.W.keepIn K (.ref C_NoPoints) = true)
    (no_NoPoints : PySem.W.findIn K (.ref C_NoPoints) "found" = some none)
    (ga_NoPoints : PySem.W.findIn K (.ref C_NoPoints) "__getattribute__" = some (some (.builtin "BaseException.__getattribute__")))
    (gg_NoPoints : PySem.W.findIn K (.ref C_NoPoints) "__getattr__" = some none)
    (hd_NoPoints : PySem.W.hasDictIn K C_NoPoints = true)
    (t1_NoPoints : PySem.W.findIn K (.ref C_NoPoints) "__class__" = some (some (.builtin "object.__class__")))
    (t2_NoPoints : PySem.W.specialIn K (.builtin "object.__class__") "__get__" = some (some (.builtin "getset_descriptor.__get__")))
    (t3_NoPoints : PySem.W.takesIn K (.builtin "object.__class__") = some true)
    (t4_NoPoints : PySem.W.mroIn K C_NoPoints (.type "object") = some true)
    (ti_NoPoints : PySem.W.typeIn K (.ref f_NoPoints_init) = some (.type "function"))
    (aC_NoMakers : PySem.W.nsIn K mainGlobals "NoMakers" = some (some (.ref C_NoMakers)))
    (xl_NoMakers : K.lookup C_NoMakers = some (excClassObj xn_NoMakers xq_NoMakers C_NoMakers xN_NoMakers xb_NoMakers xm_NoMakers true xs_NoMakers xu_NoMakers xa_NoMakers xc_NoMakers xd_NoMakers x0_NoMakers x1_NoMakers x2_NoMakers x3_NoMakers x5_NoMakers "ValueError.__new__"))
    (xr_NoMakers : PySem.HandSPX.refsVE xm_NoMakers = true)
    (sa_NoMakers : PySem.W.findIn K (.ref C_NoMakers) "__setattr__" = some (some (.builtin "object.__setattr__")))
    (eC_NoMakers : PySem.W.subIn K (.ref C_NoMakers) (.type "BaseException") = some true)
    (ty_NoMakers : PySem.W.typeIn K (.ref C_NoMakers) = some (.type "type"))
    (kc_NoMakers : PySem.W.keepIn K (.ref C_NoMakers) = true)
    (no_NoMakers : PySem.W.findIn K (.ref C_NoMakers) "found" = some none)
    (ga_NoMakers : PySem.W.findIn K (.ref C_NoMakers) "__getattribute__" = some (some (.builtin "BaseException.__getattribute__")))
    (gg_NoMakers : PySem.W.findIn K (.ref C_NoMakers) "__getattr__" = some none)
    (hd_NoMakers : PySem.W.hasDictIn K C_NoMakers = true)
    (t1_NoMakers : PySem.W.findIn K (.ref C_NoMakers) "__class__" = some (some (.builtin "object.__class__")))
    (t2_NoMakers : PySem.W.specialIn K (.builtin "object.__class__") "__get__" = some (some (.builtin "getset_descriptor.__get__")))
    (t3_NoMakers : PySem.W.takesIn K (.builtin "object.__class__") = some true)
    (t4_NoMakers : PySem.W.mroIn K C_NoMakers (.type "object") = some true)
    (ti_NoMakers : PySem.W.typeIn K (.ref f_NoMakers_init) = some (.type "function"))
    (aC_NoMaker : PySem.W.nsIn K mainGlobals "NoMaker" = some (some (.ref C_NoMaker)))
    (xl_NoMaker : K.lookup C_NoMaker = some (excClassObj xn_NoMaker xq_NoMaker C_NoMaker xN_NoMaker xb_NoMaker xm_NoMaker true xs_NoMaker xu_NoMaker xa_NoMaker xc_NoMaker xd_NoMaker x0_NoMaker x1_NoMaker x2_NoMaker x3_NoMaker x5_NoMaker "ValueError.__new__"))
    (xr_NoMaker : PySem.HandSPX.refsVE xm_NoMaker = true)
    (sa_NoMaker : PySem.W.findIn K (.ref C_NoMaker) "__setattr__" = some (some (.builtin "object.__setattr__")))
    (eC_NoMaker : PySem.W.subIn K (.ref C_NoMaker) (.type "BaseException") = some true)
    (ty_NoMaker : PySem.W.typeIn K (.ref C_NoMaker) = some (.type "type"))
    (kc_NoMaker : PySem.W.keepIn K (.ref C_NoMaker) = true)
    (no_NoMaker : PySem.W.findIn K (.ref C_NoMaker) "found" = some none)
    (ga_NoMaker : PySem.W.findIn K (.ref C_NoMaker) "__getattribute__" = some (some (.builtin "BaseException.__getattribute__")))
    (gg_NoMaker : PySem.W.findIn K (.ref C_NoMaker) "__getattr__" = some none)
    (hd_NoMaker : PySem.W.hasDictIn K C_NoMaker = true)
    (t1_NoMaker : PySem.W.findIn K (.ref C_NoMaker) "__class__" = some (some (.builtin "object.__class__")))
    (t2_NoMaker : PySem.W.specialIn K (.builtin "object.__class__") "__get__" = some (some (.builtin "getset_descriptor.__get__")))
    (t3_NoMaker : PySem.W.takesIn K (.builtin "object.__class__") = some true)
    (t4_NoMaker : PySem.W.mroIn K C_NoMaker (.type "object") = some true)
    (ti_NoMaker : PySem.W.typeIn K (.ref f_NoMaker_init) = some (.type "function"))
    (aC_NoYear : PySem.W.nsIn K mainGlobals "NoYear" = some (some (.ref C_NoYear)))
    (xl_NoYear : K.lookup C_NoYear = some (excClassObj xn_NoYear xq_NoYear C_NoYear xN_NoYear xb_NoYear xm_NoYear true xs_NoYear xu_NoYear xa_NoYear xc_NoYear xd_NoYear x0_NoYear x1_NoYear x2_NoYear x3_NoYear x5_NoYear "ValueError.__new__"))
    (xr_NoYear : PySem.HandSPX.refsVE xm_NoYear = true)
    (sa_NoYear : PySem.W.findIn K (.ref C_NoYear) "__setattr__" = some (some (.builtin "object.__setattr__")))
    (eC_NoYear : PySem.W.subIn K (.ref C_NoYear) (.type "BaseException") = some true)
    (ty_NoYear : PySem.W.typeIn K (.ref C_NoYear) = some (.type "type"))
    (kc_NoYear : PySem.W.keepIn K (.ref C_NoYear) = true)
    (no_NoYear : PySem.W.findIn K (.ref C_NoYear) "found" = some none)
    (ga_NoYear : PySem.W.findIn K (.ref C_NoYear) "__getattribute__" = some (some (.builtin "BaseException.__getattribute__")))
    (gg_NoYear : PySem.W.findIn K (.ref C_NoYear) "__getattr__" = some none)
    (hd_NoYear : PySem.W.hasDictIn K C_NoYear = true)
    (t1_NoYear : PySem.W.findIn K (.ref C_NoYear) "__class__" = some (some (.builtin "object.__class__")))
    (t2_NoYear : PySem.W.specialIn K (.builtin "object.__class__") "__get__" = some (some (.builtin "getset_descriptor.__get__")))
    (t3_NoYear : PySem.W.takesIn K (.builtin "object.__class__") = some true)
    (t4_NoYear : PySem.W.mroIn K C_NoYear (.type "object") = some true)
    (ti_NoYear : PySem.W.typeIn K (.ref f_NoYear_init) = some (.type "function"))
    (aC_NoCopy : PySem.W.nsIn K mainGlobals "NoCopy" = some (some (.ref C_NoCopy)))
    (xl_NoCopy : K.lookup C_NoCopy = some (excClassObj xn_NoCopy xq_NoCopy C_NoCopy xN_NoCopy xb_NoCopy xm_NoCopy true xs_NoCopy xu_NoCopy xa_NoCopy xc_NoCopy xd_NoCopy x0_NoCopy x1_NoCopy x2_NoCopy x3_NoCopy x5_NoCopy "ValueError.__new__"))
    (xr_NoCopy : PySem.HandSPX.refsVE xm_NoCopy = true)
    (sa_NoCopy : PySem.W.findIn K (.ref C_NoCopy) "__setattr__" = some (some (.builtin "object.__setattr__")))
    (eC_NoCopy : PySem.W.subIn K (.ref C_NoCopy) (.type "BaseException") = some true)
    (ty_NoCopy : PySem.W.typeIn K (.ref C_NoCopy) = some (.type "type"))
    (kc_NoCopy : PySem.W.keepIn K (.ref C_NoCopy) = true)
    (no_NoCopy : PySem.W.findIn K (.ref C_NoCopy) "found" = some none)
    (ga_NoCopy : PySem.W.findIn K (.ref C_NoCopy) "__getattribute__" = some (some (.builtin "BaseException.__getattribute__")))
    (gg_NoCopy : PySem.W.findIn K (.ref C_NoCopy) "__getattr__" = some none)
    (hd_NoCopy : PySem.W.hasDictIn K C_NoCopy = true)
    (t1_NoCopy : PySem.W.findIn K (.ref C_NoCopy) "__class__" = some (some (.builtin "object.__class__")))
    (t2_NoCopy : PySem.W.specialIn K (.builtin "object.__class__") "__get__" = some (some (.builtin "getset_descriptor.__get__")))
    (t3_NoCopy : PySem.W.takesIn K (.builtin "object.__class__") = some true)
    (t4_NoCopy : PySem.W.mroIn K C_NoCopy (.type "object") = some true)
    (ti_NoCopy : PySem.W.typeIn K (.ref f_NoCopy_init) = some (.type "function"))
    (aC_NoText : PySem.W.nsIn K mainGlobals "NoText" = some (some (.ref C_NoText)))
    (xl_NoText : K.lookup C_NoText = some (excClassObj xn_NoText xq_NoText C_NoText xN_NoText xb_NoText xm_NoText true xs_NoText xu_NoText xa_NoText xc_NoText xd_NoText x0_NoText x1_NoText x2_NoText x3_NoText x5_NoText "ValueError.__new__"))
    (xr_NoText : PySem.HandSPX.refsVE xm_NoText = true)
    (sa_NoText : PySem.W.findIn K (.ref C_NoText) "__setattr__" = some (some (.builtin "object.__setattr__")))
    (eC_NoText : PySem.W.subIn K (.ref C_NoText) (.type "BaseException") = some true)
    (ty_NoText : PySem.W.typeIn K (.ref C_NoText) = some (.type "type"))
    (kc_NoText : PySem.W.keepIn K (.ref C_NoText) = true)
    (no_NoText : PySem.W.findIn K (.ref C_NoText) "found" = some none)
    (ga_NoText : PySem.W.findIn K (.ref C_NoText) "__getattribute__" = some (some (.builtin "BaseException.__getattribute__")))
    (gg_NoText : PySem.W.findIn K (.ref C_NoText) "__getattr__" = some none)
    (hd_NoText : PySem.W.hasDictIn K C_NoText = true)
    (t1_NoText : PySem.W.findIn K (.ref C_NoText) "__class__" = some (some (.builtin "object.__class__")))
    (t2_NoText : PySem.W.specialIn K (.builtin "object.__class__") "__get__" = some (some (.builtin "getset_descriptor.__get__")))
    (t3_NoText : PySem.W.takesIn K (.builtin "object.__class__") = some true)
    (t4_NoText : PySem.W.mroIn K C_NoText (.type "object") = some true)
    (ti_NoText : PySem.W.typeIn K (.ref f_NoText_init) = some (.type "function"))
    (aC_MarkError : PySem.W.nsIn K mainGlobals "MarkError" = some (some (.ref C_MarkError)))
    (b1_MarkError : PySem.W.specialIn K (.ref C_MarkError) "__getattribute__" = some (some (.builtin "type.__getattribute__")))
    (b2_MarkError : PySem.W.typeIn K (.ref C_MarkError) = some (.type "type"))
    (b3_MarkError : PySem.W.readsIn K C_MarkError (.type "type") = true)
    (b4_MarkError : PySem.W.findCls K (.ref C_MarkError) (.type "type") "__init__" = some (.val (.builtin "ValueError.__init__")))
    (eC_MarkError : PySem.W.subIn K (.ref C_MarkError) (.type "BaseException") = some true)
    (hd_MarkError : PySem.W.hasDictIn K C_MarkError = true)
    (su_NoLetters_MarkError : PySem.W.subIn K (.ref C_NoLetters) (.ref C_MarkError) = some true)
    (nq_NoLetters_MarkError : (Value.ref C_NoLetters == Value.ref C_MarkError) = false)
    (su_NoNumber_MarkError : PySem.W.subIn K (.ref C_NoNumber) (.ref C_MarkError) = some true)
    (nq_NoNumber_MarkError : (Value.ref C_NoNumber == Value.ref C_MarkError) = false)
    (su_NoPoints_MarkError : PySem.W.subIn K (.ref C_NoPoints) (.ref C_MarkError) = some true)
    (nq_NoPoints_MarkError : (Value.ref C_NoPoints == Value.ref C_MarkError) = false)
    (su_NoMakers_MarkError : PySem.W.subIn K (.ref C_NoMakers) (.ref C_MarkError) = some true)
    (nq_NoMakers_MarkError : (Value.ref C_NoMakers == Value.ref C_MarkError) = false)
    (su_NoMaker_MarkError : PySem.W.subIn K (.ref C_NoMaker) (.ref C_MarkError) = some true)
    (nq_NoMaker_MarkError : (Value.ref C_NoMaker == Value.ref C_MarkError) = false)
    (su_NoYear_MarkError : PySem.W.subIn K (.ref C_NoYear) (.ref C_MarkError) = some true)
    (nq_NoYear_MarkError : (Value.ref C_NoYear == Value.ref C_MarkError) = false)
    (su_NoCopy_MarkError : PySem.W.subIn K (.ref C_NoCopy) (.ref C_MarkError) = some true)
    (nq_NoCopy_MarkError : (Value.ref C_NoCopy == Value.ref C_MarkError) = false)
    (su_NoText_MarkError : PySem.W.subIn K (.ref C_NoText) (.ref C_MarkError) = some true)
    (nq_NoText_MarkError : (Value.ref C_NoText == Value.ref C_MarkError) = false)
    (su_NoLetters_NoText : PySem.W.subIn K (.ref C_NoLetters) (.ref C_NoText) = some false)
    (nq_NoLetters_NoText : (Value.ref C_NoLetters == Value.ref C_NoText) = false)
    (su_NoNumber_NoText : PySem.W.subIn K (.ref C_NoNumber) (.ref C_NoText) = some false)
    (nq_NoNumber_NoText : (Value.ref C_NoNumber == Value.ref C_NoText) = false)
    (su_NoPoints_NoText : PySem.W.subIn K (.ref C_NoPoints) (.ref C_NoText) = some false)
    (nq_NoPoints_NoText : (Value.ref C_NoPoints == Value.ref C_NoText) = false)
    (su_NoMakers_NoText : PySem.W.subIn K (.ref C_NoMakers) (.ref C_NoText) = some false)
    (nq_NoMakers_NoText : (Value.ref C_NoMakers == Value.ref C_NoText) = false)
    (su_NoMaker_NoText : PySem.W.subIn K (.ref C_NoMaker) (.ref C_NoText) = some false)
    (nq_NoMaker_NoText : (Value.ref C_NoMaker == Value.ref C_NoText) = false)
    (su_NoYear_NoText : PySem.W.subIn K (.ref C_NoYear) (.ref C_NoText) = some false)
    (nq_NoYear_NoText : (Value.ref C_NoYear == Value.ref C_NoText) = false)
    (su_NoCopy_NoText : PySem.W.subIn K (.ref C_NoCopy) (.ref C_NoText) = some false)
    (nq_NoCopy_NoText : (Value.ref C_NoCopy == Value.ref C_NoText) = false)
    (su_NoText_NoText : PySem.W.subIn K (.ref C_NoText) (.ref C_NoText) = some true)
    (su_NoLetters_Alike : PySem.W.subIn K (.ref C_NoLetters) (.ref C_Alike) = some false)
    (nq_NoLetters_Alike : (Value.ref C_NoLetters == Value.ref C_Alike) = false)
    (su_NoNumber_Alike : PySem.W.subIn K (.ref C_NoNumber) (.ref C_Alike) = some false)
    (nq_NoNumber_Alike : (Value.ref C_NoNumber == Value.ref C_Alike) = false)
    (su_NoPoints_Alike : PySem.W.subIn K (.ref C_NoPoints) (.ref C_Alike) = some false)
    (nq_NoPoints_Alike : (Value.ref C_NoPoints == Value.ref C_Alike) = false)
    (su_NoMakers_Alike : PySem.W.subIn K (.ref C_NoMakers) (.ref C_Alike) = some false)
    (nq_NoMakers_Alike : (Value.ref C_NoMakers == Value.ref C_Alike) = false)
    (su_NoMaker_Alike : PySem.W.subIn K (.ref C_NoMaker) (.ref C_Alike) = some false)
    (nq_NoMaker_Alike : (Value.ref C_NoMaker == Value.ref C_Alike) = false)
    (su_NoYear_Alike : PySem.W.subIn K (.ref C_NoYear) (.ref C_Alike) = some false)
    (nq_NoYear_Alike : (Value.ref C_NoYear == Value.ref C_Alike) = false)
    (su_NoCopy_Alike : PySem.W.subIn K (.ref C_NoCopy) (.ref C_Alike) = some false)
    (nq_NoCopy_Alike : (Value.ref C_NoCopy == Value.ref C_Alike) = false)
    (su_NoText_Alike : PySem.W.subIn K (.ref C_NoText) (.ref C_Alike) = some false)
    (nq_NoText_Alike : (Value.ref C_NoText == Value.ref C_Alike) = false)
    (ks_Mark_str : PySem.W.subIn K (.ref C_Mark) (.type "str") = some false)
    (z_len : PySem.W.nsIn K mainGlobals "len" = some none)
    (z_isinstance : PySem.W.nsIn K mainGlobals "isinstance" = some none)
    (z_range : PySem.W.nsIn K mainGlobals "range" = some none)
    (z_max : PySem.W.nsIn K mainGlobals "max" = some none)
    (z_int : PySem.W.nsIn K mainGlobals "int" = some none)
    (z_bool : PySem.W.nsIn K mainGlobals "bool" = some none)
    (z_str : PySem.W.nsIn K mainGlobals "str" = some none)
    (z_list : PySem.W.nsIn K mainGlobals "list" = some none)
    (z_tuple : PySem.W.nsIn K mainGlobals "tuple" = some none)
    (z_all : PySem.W.nsIn K mainGlobals "all" = some none)
    (q_SMALL : PySem.W.nsIn K mainGlobals "SMALL" = some (some (.str "abcdefghijklmnopqrstuvwxyz" tk_SMALL)))
    (q_NO_YEAR : PySem.W.nsIn K mainGlobals "NO_YEAR" = some (some (.str "0000" tk_NO_YEAR)))
    (q_NO_COPY : PySem.W.nsIn K mainGlobals "NO_COPY" = some (some (.str "00" tk_NO_COPY)))
    (aC_Alike : PySem.W.nsIn K mainGlobals "Alike" = some (some (.ref C_Alike)))
    (ty_Alike : PySem.W.typeIn K (.ref C_Alike) = some (.type "type"))
    (eC_Alike : PySem.W.subIn K (.ref C_Alike) (.type "BaseException") = some true)
    (hd_Alike : PySem.W.hasDictIn K C_Alike = true)
    : ∃ fd : FuncData, (∀ (s : Shared) (v : Value), BindsTo s fd ⟨[v], []⟩ [("_law_script", v)]) ∧ ∀ base : Heap, K.In base → base.Ns mainGlobals mg → FnOk l.prog w K mg base CX0 14 fa fd ["_law_script"] (spLaw K) := by
  have e := hfa.symm.trans (PySem.W.mg_of X G a_law)
  cases e
  have F_NoLetters_init := fun_mk (st := s_NoLetters_init) l_NoLetters_init c_NoLetters_init k_NoLetters_init
  have b_NoLetters_init := F_NoLetters_init.binds (ps := ["self", "found"]) fun _ _ _ _ _ _ us hl => match us, hl with | [_, _], _ => rfl
  have F_NoNumber_init := fun_mk (st := s_NoNumber_init) l_NoNumber_init c_NoNumber_init k_NoNumber_init
  have b_NoNumber_init := F_NoNumber_init.binds (ps := ["self", "found"]) fun _ _ _ _ _ _ us hl => match us, hl with | [_, _], _ => rfl
  have F_NoPoints_init := fun_mk (st := s_NoPoints_init) l_NoPoints_init c_NoPoints_init k_NoPoints_init
  have b_NoPoints_init := F_NoPoints_init.binds (ps := ["self", "found"]) fun _ _ _ _ _ _ us hl => match us, hl with | [_, _], _ => rfl
  have F_NoMakers_init := fun_mk (st := s_NoMakers_init) l_NoMakers_init c_NoMakers_init k_NoMakers_init
  have b_NoMakers_init := F_NoMakers_init.binds (ps := ["self", "found"]) fun _ _ _ _ _ _ us hl => match us, hl with | [_, _], _ => rfl
  have F_NoMaker_init := fun_mk (st := s_NoMaker_init) l_NoMaker_init c_NoMaker_init k_NoMaker_init
  have b_NoMaker_init := F_NoMaker_init.binds (ps := ["self", "found"]) fun _ _ _ _ _ _ us hl => match us, hl with | [_, _], _ => rfl
  have F_NoYear_init := fun_mk (st := s_NoYear_init) l_NoYear_init c_NoYear_init k_NoYear_init
  have b_NoYear_init := F_NoYear_init.binds (ps := ["self", "found"]) fun _ _ _ _ _ _ us hl => match us, hl with | [_, _], _ => rfl
  have F_NoCopy_init := fun_mk (st := s_NoCopy_init) l_NoCopy_init c_NoCopy_init k_NoCopy_init
  have b_NoCopy_init := F_NoCopy_init.binds (ps := ["self", "found"]) fun _ _ _ _ _ _ us hl => match us, hl with | [_, _], _ => rfl
  have F_NoText_init := fun_mk (st := s_NoText_init) l_NoText_init c_NoText_init k_NoText_init
  have b_NoText_init := F_NoText_init.binds (ps := ["self", "found"]) fun _ _ _ _ _ _ us hl => match us, hl with | [_, _], _ => rfl
  have F_is_number := fun_mk (st := s_is_number) l_is_number c_is_number k_is_number
  have b_is_number := F_is_number.binds (ps := ["thing"]) fun _ _ _ _ _ _ us hl => match us, hl with | [_], _ => rfl
  have F_is_whole : FunD K "is_whole" "is_whole" (defArgs s_is_whole) (defBody s_is_whole) (defScope s_is_whole) [.non] [] f_is_whole (PySem.W.fnOf "is_whole" "is_whole" (defArgs s_is_whole) (defBody s_is_whole) (defScope s_is_whole) (.ref dT_is_whole) kV_is_whole dc_is_whole pm_is_whole an_is_whole cd_is_whole ct_is_whole) := ⟨⟨oc_is_whole, od_is_whole, _, kV_is_whole, dc_is_whole, pm_is_whole, an_is_whole, cd_is_whole, ct_is_whole, sl_is_whole, rfl, l_is_whole, c_is_whole, .inr ⟨by simp, dT_is_whole, do_is_whole, dus_is_whole, dn_is_whole, rfl, e_is_whole, x_is_whole, v_is_whole⟩, .inl rfl⟩, k_is_whole⟩
  have b_is_wholee : ∃ ds, Vals [] ds ∧ Binds K (PySem.W.fnOf "is_whole" "is_whole" (defArgs s_is_whole) (defBody s_is_whole) (defScope s_is_whole) (.ref dT_is_whole) kV_is_whole dc_is_whole pm_is_whole an_is_whole cd_is_whole ct_is_whole) ["thing", "low", "high"] ds := F_is_whole.binds1 3 1 (by simp) (by rfl) fun _ _ _ _ _ _ _ us its hu hi => match us, its, hu, hi with | [_, _, _], [_], _, _ => ⟨_, rfl, rfl⟩
  have b_is_whole : Binds K (PySem.W.fnOf "is_whole" "is_whole" (defArgs s_is_whole) (defBody s_is_whole) (defScope s_is_whole) (.ref dT_is_whole) kV_is_whole dc_is_whole pm_is_whole an_is_whole cd_is_whole ct_is_whole) ["thing", "low", "high"] [] := by
    obtain ⟨ds, r, b⟩ := b_is_wholee
    cases r
    exact b
  have b_is_whole_2e : ∃ ds, Vals [.non] ds ∧ Binds K (PySem.W.fnOf "is_whole" "is_whole" (defArgs s_is_whole) (defBody s_is_whole) (defScope s_is_whole) (.ref dT_is_whole) kV_is_whole dc_is_whole pm_is_whole an_is_whole cd_is_whole ct_is_whole) ["thing", "low", "high"] ds := F_is_whole.binds1 2 0 (by simp) (by rfl) fun _ _ _ _ _ _ _ us its hu hi => match us, its, hu, hi with | [_, _], [_], _, _ => ⟨_, rfl, rfl⟩
  have F_is_figures := fun_mk (st := s_is_figures) l_is_figures c_is_figures k_is_figures
  have b_is_figures := F_is_figures.binds (ps := ["text"]) fun _ _ _ _ _ _ us hl => match us, hl with | [_], _ => rfl
  have F_is_letters := fun_mk (st := s_is_letters) l_is_letters c_is_letters k_is_letters
  have b_is_letters := F_is_letters.binds (ps := ["thing", "most"]) fun _ _ _ _ _ _ us hl => match us, hl with | [_, _], _ => rfl
  have F_is_points := fun_mk (st := s_is_points) l_is_points c_is_points k_is_points
  have b_is_points := F_is_points.binds (ps := ["thing"]) fun _ _ _ _ _ _ us hl => match us, hl with | [_], _ => rfl
  have F_is_maker := fun_mk (st := s_is_maker) l_is_maker c_is_maker k_is_maker
  have b_is_maker := F_is_maker.binds (ps := ["thing"]) fun _ _ _ _ _ _ us hl => match us, hl with | [_], _ => rfl
  have F_is_ended := fun_mk (st := s_is_ended) l_is_ended c_is_ended k_is_ended
  have b_is_ended := F_is_ended.binds (ps := ["text"]) fun _ _ _ _ _ _ us hl => match us, hl with | [_], _ => rfl
  have F_Mark_init : FunD K "__init__" "Mark.__init__" (defArgs s_Mark_init) (defBody s_Mark_init) (defScope s_Mark_init) [.str Str.empty, .non, .non, .non] [] f_Mark_init (PySem.W.fnOf "__init__" "Mark.__init__" (defArgs s_Mark_init) (defBody s_Mark_init) (defScope s_Mark_init) (.ref dT_Mark_init) kV_Mark_init dc_Mark_init pm_Mark_init an_Mark_init cd_Mark_init ct_Mark_init) := ⟨⟨oc_Mark_init, od_Mark_init, _, kV_Mark_init, dc_Mark_init, pm_Mark_init, an_Mark_init, cd_Mark_init, ct_Mark_init, sl_Mark_init, rfl, l_Mark_init, c_Mark_init, .inr ⟨by simp, dT_Mark_init, do_Mark_init, dus_Mark_init, dn_Mark_init, rfl, e_Mark_init, x_Mark_init, v_Mark_init⟩, .inl rfl⟩, k_Mark_init⟩
  have b_Mark_inite : ∃ ds, Vals [] ds ∧ Binds K (PySem.W.fnOf "__init__" "Mark.__init__" (defArgs s_Mark_init) (defBody s_Mark_init) (defScope s_Mark_init) (.ref dT_Mark_init) kV_Mark_init dc_Mark_init pm_Mark_init an_Mark_init cd_Mark_init ct_Mark_init) ["self", "letters", "number", "points", "makers", "year", "copy"] ds := F_Mark_init.binds1 7 4 (by simp) (by rfl) fun _ _ _ _ _ _ _ us its hu hi => match us, its, hu, hi with | [_, _, _, _, _, _, _], [_, _, _, _], _, _ => ⟨_, rfl, rfl⟩
  have b_Mark_init_k3_points_makers_year_copyf : ∃ its : List Value, KBn K (PySem.W.fnOf "__init__" "Mark.__init__" (defArgs s_Mark_init) (defBody s_Mark_init) (defScope s_Mark_init) (.ref dT_Mark_init) kV_Mark_init dc_Mark_init pm_Mark_init an_Mark_init cd_Mark_init ct_Mark_init) ["self", "letters", "number", "points", "makers", "year", "copy"] 3 ["points", "makers", "year", "copy"] (fun us ws => us ++ (ws.drop 0).take 1 ++ (ws.drop 1).take 1 ++ (ws.drop 2).take 1 ++ (ws.drop 3).take 1) (fun vs zs => vs ++ (zs.drop 0).take 1 ++ (zs.drop 1).take 1 ++ (zs.drop 2).take 1 ++ (zs.drop 3).take 1) := F_Mark_init.kbindsD 3 ["points", "makers", "year", "copy"] (fun us its ws => us ++ (ws.drop 0).take 1 ++ (ws.drop 1).take 1 ++ (ws.drop 2).take 1 ++ (ws.drop 3).take 1) (by simp) (fun r1 r2 r3 => ((((r1).append (vals_dt 0 r3)).append (vals_dt 1 r3)).append (vals_dt 2 r3)).append (vals_dt 3 r3)) fun _ _ _ _ _ _ _ us its ws hu hi hw => match us, its, ws, hu, hi, hw with | [_, _, _], [_, _, _, _], [_, _, _, _], _, _, _ => ⟨_, rfl, rfl⟩
  have b_Mark_init : Binds K (PySem.W.fnOf "__init__" "Mark.__init__" (defArgs s_Mark_init) (defBody s_Mark_init) (defScope s_Mark_init) (.ref dT_Mark_init) kV_Mark_init dc_Mark_init pm_Mark_init an_Mark_init cd_Mark_init ct_Mark_init) ["self", "letters", "number", "points", "makers", "year", "copy"] [] := by
    obtain ⟨ds, r, b⟩ := b_Mark_inite
    cases r
    exact b
  have b_Mark_init_3e : ∃ ds, Vals [.str Str.empty, .non, .non, .non] ds ∧ Binds K (PySem.W.fnOf "__init__" "Mark.__init__" (defArgs s_Mark_init) (defBody s_Mark_init) (defScope s_Mark_init) (.ref dT_Mark_init) kV_Mark_init dc_Mark_init pm_Mark_init an_Mark_init cd_Mark_init ct_Mark_init) ["self", "letters", "number", "points", "makers", "year", "copy"] ds := F_Mark_init.binds1 3 0 (by simp) (by rfl) fun _ _ _ _ _ _ _ us its hu hi => match us, its, hu, hi with | [_, _, _], [_, _, _, _], _, _ => ⟨_, rfl, rfl⟩
  have b_Mark_init_4e : ∃ ds, Vals [.non, .non, .non] ds ∧ Binds K (PySem.W.fnOf "__init__" "Mark.__init__" (defArgs s_Mark_init) (defBody s_Mark_init) (defScope s_Mark_init) (.ref dT_Mark_init) kV_Mark_init dc_Mark_init pm_Mark_init an_Mark_init cd_Mark_init ct_Mark_init) ["self", "letters", "number", "points", "makers", "year", "copy"] ds := F_Mark_init.binds1 4 1 (by simp) (by rfl) fun _ _ _ _ _ _ _ us its hu hi => match us, its, hu, hi with | [_, _, _, _], [_, _, _, _], _, _ => ⟨_, rfl, rfl⟩
  have F_Mark_eq := fun_mk (st := s_Mark_eq) l_Mark_eq c_Mark_eq k_Mark_eq
  have b_Mark_eq := F_Mark_eq.binds (ps := ["self", "other"]) fun _ _ _ _ _ _ us hl => match us, hl with | [_, _], _ => rfl
  have F_Mark_str := fun_mk (st := s_Mark_str) l_Mark_str c_Mark_str k_Mark_str
  have b_Mark_str := F_Mark_str.binds (ps := ["self"]) fun _ _ _ _ _ _ us hl => match us, hl with | [_], _ => rfl
  have F_Mark_repr := fun_mk (st := s_Mark_repr) l_Mark_repr c_Mark_repr k_Mark_repr
  have b_Mark_repr := F_Mark_repr.binds (ps := ["self"]) fun _ _ _ _ _ _ us hl => match us, hl with | [_], _ => rfl
  have F_Mark_len := fun_mk (st := s_Mark_len) l_Mark_len c_Mark_len k_Mark_len
  have b_Mark_len := F_Mark_len.binds (ps := ["self"]) fun _ _ _ _ _ _ us hl => match us, hl with | [_], _ => rfl
  have F_Mark_letters := fun_mk (st := s_Mark_letters) l_Mark_letters c_Mark_letters k_Mark_letters
  have b_Mark_letters := F_Mark_letters.binds (ps := ["self"]) fun _ _ _ _ _ _ us hl => match us, hl with | [_], _ => rfl
  have F_Mark_number := fun_mk (st := s_Mark_number) l_Mark_number c_Mark_number k_Mark_number
  have b_Mark_number := F_Mark_number.binds (ps := ["self"]) fun _ _ _ _ _ _ us hl => match us, hl with | [_], _ => rfl
  have F_Mark_points := fun_mk (st := s_Mark_points) l_Mark_points c_Mark_points k_Mark_points
  have b_Mark_points := F_Mark_points.binds (ps := ["self"]) fun _ _ _ _ _ _ us hl => match us, hl with | [_], _ => rfl
  have F_Mark_makers := fun_mk (st := s_Mark_makers) l_Mark_makers c_Mark_makers k_Mark_makers
  have b_Mark_makers := F_Mark_makers.binds (ps := ["self"]) fun _ _ _ _ _ _ us hl => match us, hl with | [_], _ => rfl
  have F_Mark_year := fun_mk (st := s_Mark_year) l_Mark_year c_Mark_year k_Mark_year
  have b_Mark_year := F_Mark_year.binds (ps := ["self"]) fun _ _ _ _ _ _ us hl => match us, hl with | [_], _ => rfl
  have F_Mark_copy_number := fun_mk (st := s_Mark_copy_number) l_Mark_copy_number c_Mark_copy_number k_Mark_copy_number
  have b_Mark_copy_number := F_Mark_copy_number.binds (ps := ["self"]) fun _ _ _ _ _ _ us hl => match us, hl with | [_], _ => rfl
  have F_Mark_parts := fun_mk (st := s_Mark_parts) l_Mark_parts c_Mark_parts k_Mark_parts
  have b_Mark_parts := F_Mark_parts.binds (ps := ["self"]) fun _ _ _ _ _ _ us hl => match us, hl with | [_], _ => rfl
  have F_Mark_key := fun_mk (st := s_Mark_key) l_Mark_key c_Mark_key k_Mark_key
  have b_Mark_key := F_Mark_key.binds (ps := ["self"]) fun _ _ _ _ _ _ us hl => match us, hl with | [_], _ => rfl
  have F_Mark_ahead := fun_mk (st := s_Mark_ahead) l_Mark_ahead c_Mark_ahead k_Mark_ahead
  have b_Mark_ahead := F_Mark_ahead.binds (ps := ["self", "other"]) fun _ _ _ _ _ _ us hl => match us, hl with | [_, _], _ => rfl
  have F_Mark_head := fun_mk (st := s_Mark_head) l_Mark_head c_Mark_head k_Mark_head
  have b_Mark_head := F_Mark_head.binds (ps := ["self"]) fun _ _ _ _ _ _ us hl => match us, hl with | [_], _ => rfl
  have F_Mark_book := fun_mk (st := s_Mark_book) l_Mark_book c_Mark_book k_Mark_book
  have b_Mark_book := F_Mark_book.binds (ps := ["self"]) fun _ _ _ _ _ _ us hl => match us, hl with | [_], _ => rfl
  have F_Mark_with_year : FunD K "with_year" "Mark.with_year" (defArgs s_Mark_with_year) (defBody s_Mark_with_year) (defScope s_Mark_with_year) [.non] [] f_Mark_with_year (PySem.W.fnOf "with_year" "Mark.with_year" (defArgs s_Mark_with_year) (defBody s_Mark_with_year) (defScope s_Mark_with_year) (.ref dT_Mark_with_year) kV_Mark_with_year dc_Mark_with_year pm_Mark_with_year an_Mark_with_year cd_Mark_with_year ct_Mark_with_year) := ⟨⟨oc_Mark_with_year, od_Mark_with_year, _, kV_Mark_with_year, dc_Mark_with_year, pm_Mark_with_year, an_Mark_with_year, cd_Mark_with_year, ct_Mark_with_year, sl_Mark_with_year, rfl, l_Mark_with_year, c_Mark_with_year, .inr ⟨by simp, dT_Mark_with_year, do_Mark_with_year, dus_Mark_with_year, dn_Mark_with_year, rfl, e_Mark_with_year, x_Mark_with_year, v_Mark_with_year⟩, .inl rfl⟩, k_Mark_with_year⟩
  have b_Mark_with_yeare : ∃ ds, Vals [] ds ∧ Binds K (PySem.W.fnOf "with_year" "Mark.with_year" (defArgs s_Mark_with_year) (defBody s_Mark_with_year) (defScope s_Mark_with_year) (.ref dT_Mark_with_year) kV_Mark_with_year dc_Mark_with_year pm_Mark_with_year an_Mark_with_year cd_Mark_with_year ct_Mark_with_year) ["self", "year"] ds := F_Mark_with_year.binds1 2 1 (by simp) (by rfl) fun _ _ _ _ _ _ _ us its hu hi => match us, its, hu, hi with | [_, _], [_], _, _ => ⟨_, rfl, rfl⟩
  have b_Mark_with_year : Binds K (PySem.W.fnOf "with_year" "Mark.with_year" (defArgs s_Mark_with_year) (defBody s_Mark_with_year) (defScope s_Mark_with_year) (.ref dT_Mark_with_year) kV_Mark_with_year dc_Mark_with_year pm_Mark_with_year an_Mark_with_year cd_Mark_with_year ct_Mark_with_year) ["self", "year"] [] := by
    obtain ⟨ds, r, b⟩ := b_Mark_with_yeare
    cases r
    exact b
  have F_Mark_with_copy : FunD K "with_copy" "Mark.with_copy" (defArgs s_Mark_with_copy) (defBody s_Mark_with_copy) (defScope s_Mark_with_copy) [.non] [] f_Mark_with_copy (PySem.W.fnOf "with_copy" "Mark.with_copy" (defArgs s_Mark_with_copy) (defBody s_Mark_with_copy) (defScope s_Mark_with_copy) (.ref dT_Mark_with_copy) kV_Mark_with_copy dc_Mark_with_copy pm_Mark_with_copy an_Mark_with_copy cd_Mark_with_copy ct_Mark_with_copy) := ⟨⟨oc_Mark_with_copy, od_Mark_with_copy, _, kV_Mark_with_copy, dc_Mark_with_copy, pm_Mark_with_copy, an_Mark_with_copy, cd_Mark_with_copy, ct_Mark_with_copy, sl_Mark_with_copy, rfl, l_Mark_with_copy, c_Mark_with_copy, .inr ⟨by simp, dT_Mark_with_copy, do_Mark_with_copy, dus_Mark_with_copy, dn_Mark_with_copy, rfl, e_Mark_with_copy, x_Mark_with_copy, v_Mark_with_copy⟩, .inl rfl⟩, k_Mark_with_copy⟩
  have b_Mark_with_copye : ∃ ds, Vals [] ds ∧ Binds K (PySem.W.fnOf "with_copy" "Mark.with_copy" (defArgs s_Mark_with_copy) (defBody s_Mark_with_copy) (defScope s_Mark_with_copy) (.ref dT_Mark_with_copy) kV_Mark_with_copy dc_Mark_with_copy pm_Mark_with_copy an_Mark_with_copy cd_Mark_with_copy ct_Mark_with_copy) ["self", "copy"] ds := F_Mark_with_copy.binds1 2 1 (by simp) (by rfl) fun _ _ _ _ _ _ _ us its hu hi => match us, its, hu, hi with | [_, _], [_], _, _ => ⟨_, rfl, rfl⟩
  have b_Mark_with_copy : Binds K (PySem.W.fnOf "with_copy" "Mark.with_copy" (defArgs s_Mark_with_copy) (defBody s_Mark_with_copy) (defScope s_Mark_with_copy) (.ref dT_Mark_with_copy) kV_Mark_with_copy dc_Mark_with_copy pm_Mark_with_copy an_Mark_with_copy cd_Mark_with_copy ct_Mark_with_copy) ["self", "copy"] [] := by
    obtain ⟨ds, r, b⟩ := b_Mark_with_copye
    cases r
    exact b
  have F_Mark_same_book := fun_mk (st := s_Mark_same_book) l_Mark_same_book c_Mark_same_book k_Mark_same_book
  have b_Mark_same_book := F_Mark_same_book.binds (ps := ["self", "other"]) fun _ _ _ _ _ _ us hl => match us, hl with | [_, _], _ => rfl
  have F_kept_makers := fun_mk (st := s_kept_makers) l_kept_makers c_kept_makers k_kept_makers
  have b_kept_makers := F_kept_makers.binds (ps := ["makers"]) fun _ _ _ _ _ _ us hl => match us, hl with | [_], _ => rfl
  have F_text_of := fun_mk (st := s_text_of) l_text_of c_text_of k_text_of
  have b_text_of := F_text_of.binds (ps := ["parts"]) fun _ _ _ _ _ _ us hl => match us, hl with | [_], _ => rfl
  have F_filed := fun_mk (st := s_filed) l_filed c_filed k_filed
  have b_filed := F_filed.binds (ps := ["mark"]) fun _ _ _ _ _ _ us hl => match us, hl with | [_], _ => rfl
  have F_unfiled := fun_mk (st := s_unfiled) l_unfiled c_unfiled k_unfiled
  have b_unfiled := F_unfiled.binds (ps := ["text"]) fun _ _ _ _ _ _ us hl => match us, hl with | [_], _ => rfl
  have F_filed_copy := fun_mk (st := s_filed_copy) l_filed_copy c_filed_copy k_filed_copy
  have b_filed_copy := F_filed_copy.binds (ps := ["copy"]) fun _ _ _ _ _ _ us hl => match us, hl with | [_], _ => rfl
  have F_filed_count := fun_mk (st := s_filed_count) l_filed_count c_filed_count k_filed_count
  have b_filed_count := F_filed_count.binds (ps := ["figures"]) fun _ _ _ _ _ _ us hl => match us, hl with | [_], _ => rfl
  have F_mark_of := fun_mk (st := s_mark_of) l_mark_of c_mark_of k_mark_of
  have b_mark_of := F_mark_of.binds (ps := ["text"]) fun _ _ _ _ _ _ us hl => match us, hl with | [_], _ => rfl
  have F_copy_of := fun_mk (st := s_copy_of) l_copy_of c_copy_of k_copy_of
  have b_copy_of := F_copy_of.binds (ps := ["text"]) fun _ _ _ _ _ _ us hl => match us, hl with | [_], _ => rfl
  have F_l_pool := fun_mk (st := s_l_pool) l_l_pool c_l_pool k_l_pool
  have b_l_pool := F_l_pool.binds (ps := ["_law_cell"]) fun _ _ _ _ _ _ us hl => match us, hl with | [_], _ => rfl
  have F_l_take := fun_mk (st := s_l_take) l_l_take c_l_take k_l_take
  have b_l_take := F_l_take.binds (ps := ["_law_pool_here", "_law_size"]) fun _ _ _ _ _ _ us hl => match us, hl with | [_, _], _ => rfl
  have F_l_figures := fun_mk (st := s_l_figures) l_l_figures c_l_figures k_l_figures
  have b_l_figures := F_l_figures.binds (ps := ["_law_pool_here", "_law_most"]) fun _ _ _ _ _ _ us hl => match us, hl with | [_, _], _ => rfl
  have F_l_maker := fun_mk (st := s_l_maker) l_l_maker c_l_maker k_l_maker
  have b_l_maker := F_l_maker.binds (ps := ["_law_pool_here", "_law_most"]) fun _ _ _ _ _ _ us hl => match us, hl with | [_, _], _ => rfl
  have F_l_parts := fun_mk (st := s_l_parts) l_l_parts c_l_parts k_l_parts
  have b_l_parts := F_l_parts.binds (ps := ["_law_pool_here"]) fun _ _ _ _ _ _ us hl => match us, hl with | [_], _ => rfl
  have F_l_near_word := fun_mk (st := s_l_near_word) l_l_near_word c_l_near_word k_l_near_word
  have b_l_near_word := F_l_near_word.binds (ps := ["_law_word", "_law_pool_here"]) fun _ _ _ _ _ _ us hl => match us, hl with | [_, _], _ => rfl
  have F_l_near_makers := fun_mk (st := s_l_near_makers) l_l_near_makers c_l_near_makers k_l_near_makers
  have b_l_near_makers := F_l_near_makers.binds (ps := ["_law_hands", "_law_pool_here"]) fun _ _ _ _ _ _ us hl => match us, hl with | [_, _], _ => rfl
  have F_l_near_year := fun_mk (st := s_l_near_year) l_l_near_year c_l_near_year k_l_near_year
  have b_l_near_year := F_l_near_year.binds (ps := ["_law_age", "_law_pool_here"]) fun _ _ _ _ _ _ us hl => match us, hl with | [_, _], _ => rfl
  have F_l_near_copy := fun_mk (st := s_l_near_copy) l_l_near_copy c_l_near_copy k_l_near_copy
  have b_l_near_copy := F_l_near_copy.binds (ps := ["_law_twin", "_law_pool_here"]) fun _ _ _ _ _ _ us hl => match us, hl with | [_, _], _ => rfl
  have F_l_near := fun_mk (st := s_l_near) l_l_near c_l_near k_l_near
  have b_l_near := F_l_near.binds (ps := ["_law_parts_here", "_law_at", "_law_pool_here"]) fun _ _ _ _ _ _ us hl => match us, hl with | [_, _, _], _ => rfl
  have F_l_mark := fun_mk (st := s_l_mark) l_l_mark c_l_mark k_l_mark
  have b_l_mark := F_l_mark.binds (ps := ["_law_parts_here"]) fun _ _ _ _ _ _ us hl => match us, hl with | [_], _ => rfl
  have F_l_key := fun_mk (st := s_l_key) l_l_key c_l_key k_l_key
  have b_l_key := F_l_key.binds (ps := ["_law_parts_here"]) fun _ _ _ _ _ _ us hl => match us, hl with | [_], _ => rfl
  have F_l_filed := fun_mk (st := s_l_filed) l_l_filed c_l_filed k_l_filed
  have b_l_filed := F_l_filed.binds (ps := ["_law_parts_here"]) fun _ _ _ _ _ _ us hl => match us, hl with | [_], _ => rfl
  have F_l_value := fun_mk (st := s_l_value) l_l_value c_l_value k_l_value
  have b_l_value := F_l_value.binds (ps := ["_law_signs"]) fun _ _ _ _ _ _ us hl => match us, hl with | [_], _ => rfl
  have F_l_ending := fun_mk (st := s_l_ending) l_l_ending c_l_ending k_l_ending
  have b_l_ending := F_l_ending.binds (ps := ["_law_signs"]) fun _ _ _ _ _ _ us hl => match us, hl with | [_], _ => rfl
  have F_l_letters := fun_mk (st := s_l_letters) l_l_letters c_l_letters k_l_letters
  have b_l_letters := F_l_letters.binds (ps := ["_law_signs"]) fun _ _ _ _ _ _ us hl => match us, hl with | [_], _ => rfl
  have F_l_read := fun_mk (st := s_l_read) l_l_read c_l_read k_l_read
  have b_l_read := F_l_read.binds (ps := ["_law_signs"]) fun _ _ _ _ _ _ us hl => match us, hl with | [_], _ => rfl
  have F_l_sign := fun_mk (st := s_l_sign) l_l_sign c_l_sign k_l_sign
  have b_l_sign := F_l_sign.binds (ps := ["_law_pool_here"]) fun _ _ _ _ _ _ us hl => match us, hl with | [_], _ => rfl
  have F_l_spoilt := fun_mk (st := s_l_spoilt) l_l_spoilt c_l_spoilt k_l_spoilt
  have b_l_spoilt := F_l_spoilt.binds (ps := ["_law_signs", "_law_way", "_law_place", "_law_sign_here"]) fun _ _ _ _ _ _ us hl => match us, hl with | [_, _, _, _], _ => rfl
  have F_l_refused := fun_mk (st := s_l_refused) l_l_refused c_l_refused k_l_refused
  have b_l_refused := F_l_refused.binds (ps := ["_law_thing"]) fun _ _ _ _ _ _ us hl => match us, hl with | [_], _ => rfl
  have F_l_back := fun_mk (st := s_l_back) l_l_back c_l_back k_l_back
  have b_l_back := F_l_back.binds (ps := ["_law_signs"]) fun _ _ _ _ _ _ us hl => match us, hl with | [_], _ => rfl
  have F_l_two := fun_mk (st := s_l_two) l_l_two c_l_two k_l_two
  have b_l_two := F_l_two.binds (ps := ["_law_fore", "_law_mate"]) fun _ _ _ _ _ _ us hl => match us, hl with | [_, _], _ => rfl
  have F_l_great := fun_mk (st := s_l_great) l_l_great c_l_great k_l_great
  have b_l_great := F_l_great.binds (ps := ["_law_letters_here", "_law_more", "_law_number"]) fun _ _ _ _ _ _ us hl => match us, hl with | [_, _, _], _ => rfl
  have F_law := fun_mk (st := s_law) l_law c_law k_law
  have b_law := F_law.binds (ps := ["_law_script"]) fun _ _ _ _ _ _ us hl => match us, hl with | [_], _ => rfl
  have T : Txt K mg { a_NoLetters_init := f_NoLetters_init, a_NoNumber_init := f_NoNumber_init, a_NoPoints_init := f_NoPoints_init, a_NoMakers_init := f_NoMakers_init, a_NoMaker_init := f_NoMaker_init, a_NoYear_init := f_NoYear_init, a_NoCopy_init := f_NoCopy_init, a_NoText_init := f_NoText_init, a_is_number := f_is_number, a_is_whole := f_is_whole, a_is_figures := f_is_figures, a_is_letters := f_is_letters, a_is_points := f_is_points, a_is_maker := f_is_maker, a_is_ended := f_is_ended, a_Mark_init := f_Mark_init, a_Mark_eq := f_Mark_eq, a_Mark_str := f_Mark_str, a_Mark_repr := f_Mark_repr, a_Mark_len := f_Mark_len, a_Mark_letters := f_Mark_letters, a_Mark_number := f_Mark_number, a_Mark_points := f_Mark_points, a_Mark_makers := f_Mark_makers, a_Mark_year := f_Mark_year, a_Mark_copy_number := f_Mark_copy_number, a_Mark_parts := f_Mark_parts, a_Mark_key := f_Mark_key, a_Mark_ahead := f_Mark_ahead, a_Mark_head := f_Mark_head, a_Mark_book := f_Mark_book, a_Mark_with_year := f_Mark_with_year, a_Mark_with_copy := f_Mark_with_copy, a_Mark_same_book := f_Mark_same_book, a_kept_makers := f_kept_makers, a_text_of := f_text_of, a_filed := f_filed, a_unfiled := f_unfiled, a_filed_copy := f_filed_copy, a_filed_count := f_filed_count, a_mark_of := f_mark_of, a_copy_of := f_copy_of, a_l_pool := f_l_pool, a_l_take := f_l_take, a_l_figures := f_l_figures, a_l_maker := f_l_maker, a_l_parts := f_l_parts, a_l_near_word := f_l_near_word, a_l_near_makers := f_l_near_makers, a_l_near_year := f_l_near_year, a_l_near_copy := f_l_near_copy, a_l_near := f_l_near, a_l_mark := f_l_mark, a_l_key := f_l_key, a_l_filed := f_l_filed, a_l_value := f_l_value, a_l_ending := f_l_ending, a_l_letters := f_l_letters, a_l_read := f_l_read, a_l_sign := f_l_sign, a_l_spoilt := f_l_spoilt, a_l_refused := f_l_refused, a_l_back := f_l_back, a_l_two := f_l_two, a_l_great := f_l_great, a_law := fa, d_NoLetters_init := _, d_NoNumber_init := _, d_NoPoints_init := _, d_NoMakers_init := _, d_NoMaker_init := _, d_NoYear_init := _, d_NoCopy_init := _, d_NoText_init := _, d_is_number := _, d_is_whole := _, d_is_figures := _, d_is_letters := _, d_is_points := _, d_is_maker := _, d_is_ended := _, d_Mark_init := _, d_Mark_eq := _, d_Mark_str := _, d_Mark_repr := _, d_Mark_len := _, d_Mark_letters := _, d_Mark_number := _, d_Mark_points := _, d_Mark_makers := _, d_Mark_year := _, d_Mark_copy_number := _, d_Mark_parts := _, d_Mark_key := _, d_Mark_ahead := _, d_Mark_head := _, d_Mark_book := _, d_Mark_with_year := _, d_Mark_with_copy := _, d_Mark_same_book := _, d_kept_makers := _, d_text_of := _, d_filed := _, d_unfiled := _, d_filed_copy := _, d_filed_count := _, d_mark_of := _, d_copy_of := _, d_l_pool := _, d_l_take := _, d_l_figures := _, d_l_maker := _, d_l_parts := _, d_l_near_word := _, d_l_near_makers := _, d_l_near_year := _, d_l_near_copy := _, d_l_near := _, d_l_mark := _, d_l_key := _, d_l_filed := _, d_l_value := _, d_l_ending := _, d_l_letters := _, d_l_read := _, d_l_sign := _, d_l_spoilt := _, d_l_refused := _, d_l_back := _, d_l_two := _, d_l_great := _, d_law := _, C_Mark := C_Mark, C_NoLetters := C_NoLetters, C_NoNumber := C_NoNumber, C_NoPoints := C_NoPoints, C_NoMakers := C_NoMakers, C_NoMaker := C_NoMaker, C_NoYear := C_NoYear, C_NoCopy := C_NoCopy, C_NoText := C_NoText, C_MarkError := C_MarkError, C_Alike := C_Alike } :=
    { F_NoLetters_init := F_NoLetters_init,
      b_NoLetters_init := b_NoLetters_init,
      F_NoNumber_init := F_NoNumber_init,
      b_NoNumber_init := b_NoNumber_init,
      F_NoPoints_init := F_NoPoints_init,
      b_NoPoints_init := b_NoPoints_init,
      F_NoMakers_init := F_NoMakers_init,
      b_NoMakers_init := b_NoMakers_init,
      F_NoMaker_init := F_NoMaker_init,
      b_NoMaker_init := b_NoMaker_init,
      F_NoYear_init := F_NoYear_init,
      b_NoYear_init := b_NoYear_init,
      F_NoCopy_init := F_NoCopy_init,
      b_NoCopy_init := b_NoCopy_init,
      F_NoText_init := F_NoText_init,
      b_NoText_init := b_NoText_init,
      F_is_number := F_is_number,
      g_is_number := PySem.W.mg_of X G a_is_number,
      b_is_number := b_is_number,
      F_is_whole := F_is_whole,
      g_is_whole := PySem.W.mg_of X G a_is_whole,
      b_is_whole := b_is_whole,
      b_is_whole_2 := b_is_whole_2e,
      F_is_figures := F_is_figures,
      g_is_figures := PySem.W.mg_of X G a_is_figures,
      b_is_figures := b_is_figures,
      F_is_letters := F_is_letters,
      g_is_letters := PySem.W.mg_of X G a_is_letters,
      b_is_letters := b_is_letters,
      F_is_points := F_is_points,
      g_is_points := PySem.W.mg_of X G a_is_points,
      b_is_points := b_is_points,
      F_is_maker := F_is_maker,
      g_is_maker := PySem.W.mg_of X G a_is_maker,
      b_is_maker := b_is_maker,
      F_is_ended := F_is_ended,
      g_is_ended := PySem.W.mg_of X G a_is_ended,
      b_is_ended := b_is_ended,
      F_Mark_init := F_Mark_init,
      b_Mark_init := b_Mark_init,
      b_Mark_init_k3_points_makers_year_copy := b_Mark_init_k3_points_makers_year_copyf,
      b_Mark_init_3 := b_Mark_init_3e,
      b_Mark_init_4 := b_Mark_init_4e,
      F_Mark_eq := F_Mark_eq,
      m_Mark_eq := ⟨a_Mark_eq, i_Mark_eq, k_Mark_eq⟩,
      b_Mark_eq := b_Mark_eq,
      F_Mark_str := F_Mark_str,
      m_Mark_str := ⟨a_Mark_str, i_Mark_str, k_Mark_str⟩,
      b_Mark_str := b_Mark_str,
      F_Mark_repr := F_Mark_repr,
      m_Mark_repr := ⟨a_Mark_repr, i_Mark_repr, k_Mark_repr⟩,
      b_Mark_repr := b_Mark_repr,
      F_Mark_len := F_Mark_len,
      m_Mark_len := ⟨a_Mark_len, i_Mark_len, k_Mark_len⟩,
      b_Mark_len := b_Mark_len,
      F_Mark_letters := F_Mark_letters,
      m_Mark_letters := ⟨a_Mark_letters, i_Mark_letters, k_Mark_letters⟩,
      b_Mark_letters := b_Mark_letters,
      F_Mark_number := F_Mark_number,
      m_Mark_number := ⟨a_Mark_number, i_Mark_number, k_Mark_number⟩,
      b_Mark_number := b_Mark_number,
      F_Mark_points := F_Mark_points,
      m_Mark_points := ⟨a_Mark_points, i_Mark_points, k_Mark_points⟩,
      b_Mark_points := b_Mark_points,
      F_Mark_makers := F_Mark_makers,
      m_Mark_makers := ⟨a_Mark_makers, i_Mark_makers, k_Mark_makers⟩,
      b_Mark_makers := b_Mark_makers,
      F_Mark_year := F_Mark_year,
      m_Mark_year := ⟨a_Mark_year, i_Mark_year, k_Mark_year⟩,
      b_Mark_year := b_Mark_year,
      F_Mark_copy_number := F_Mark_copy_number,
      m_Mark_copy_number := ⟨a_Mark_copy_number, i_Mark_copy_number, k_Mark_copy_number⟩,
      b_Mark_copy_number := b_Mark_copy_number,
      F_Mark_parts := F_Mark_parts,
      m_Mark_parts := ⟨a_Mark_parts, i_Mark_parts, k_Mark_parts⟩,
      b_Mark_parts := b_Mark_parts,
      F_Mark_key := F_Mark_key,
      m_Mark_key := ⟨a_Mark_key, i_Mark_key, k_Mark_key⟩,
      b_Mark_key := b_Mark_key,
      F_Mark_ahead := F_Mark_ahead,
      m_Mark_ahead := ⟨a_Mark_ahead, i_Mark_ahead, k_Mark_ahead⟩,
      b_Mark_ahead := b_Mark_ahead,
      F_Mark_head := F_Mark_head,
      m_Mark_head := ⟨a_Mark_head, i_Mark_head, k_Mark_head⟩,
      b_Mark_head := b_Mark_head,
      F_Mark_book := F_Mark_book,
      m_Mark_book := ⟨a_Mark_book, i_Mark_book, k_Mark_book⟩,
      b_Mark_book := b_Mark_book,
      F_Mark_with_year := F_Mark_with_year,
      m_Mark_with_year := ⟨a_Mark_with_year, i_Mark_with_year, k_Mark_with_year⟩,
      b_Mark_with_year := b_Mark_with_year,
      F_Mark_with_copy := F_Mark_with_copy,
      m_Mark_with_copy := ⟨a_Mark_with_copy, i_Mark_with_copy, k_Mark_with_copy⟩,
      b_Mark_with_copy := b_Mark_with_copy,
      F_Mark_same_book := F_Mark_same_book,
      m_Mark_same_book := ⟨a_Mark_same_book, i_Mark_same_book, k_Mark_same_book⟩,
      b_Mark_same_book := b_Mark_same_book,
      F_kept_makers := F_kept_makers,
      g_kept_makers := PySem.W.mg_of X G a_kept_makers,
      b_kept_makers := b_kept_makers,
      F_text_of := F_text_of,
      g_text_of := PySem.W.mg_of X G a_text_of,
      b_text_of := b_text_of,
      F_filed := F_filed,
      g_filed := PySem.W.mg_of X G a_filed,
      b_filed := b_filed,
      F_unfiled := F_unfiled,
      g_unfiled := PySem.W.mg_of X G a_unfiled,
      b_unfiled := b_unfiled,
      F_filed_copy := F_filed_copy,
      g_filed_copy := PySem.W.mg_of X G a_filed_copy,
      b_filed_copy := b_filed_copy,
      F_filed_count := F_filed_count,
      g_filed_count := PySem.W.mg_of X G a_filed_count,
      b_filed_count := b_filed_count,
      F_mark_of := F_mark_of,
      g_mark_of := PySem.W.mg_of X G a_mark_of,
      b_mark_of := b_mark_of,
      F_copy_of := F_copy_of,
      g_copy_of := PySem.W.mg_of X G a_copy_of,
      b_copy_of := b_copy_of,
      F_l_pool := F_l_pool,
      g_l_pool := PySem.W.mg_of X G a_l_pool,
      b_l_pool := b_l_pool,
      F_l_take := F_l_take,
      g_l_take := PySem.W.mg_of X G a_l_take,
      b_l_take := b_l_take,
      F_l_figures := F_l_figures,
      g_l_figures := PySem.W.mg_of X G a_l_figures,
      b_l_figures := b_l_figures,
      F_l_maker := F_l_maker,
      g_l_maker := PySem.W.mg_of X G a_l_maker,
      b_l_maker := b_l_maker,
      F_l_parts := F_l_parts,
      g_l_parts := PySem.W.mg_of X G a_l_parts,
      b_l_parts := b_l_parts,
      F_l_near_word := F_l_near_word,
      g_l_near_word := PySem.W.mg_of X G a_l_near_word,
      b_l_near_word := b_l_near_word,
      F_l_near_makers := F_l_near_makers,
      g_l_near_makers := PySem.W.mg_of X G a_l_near_makers,
      b_l_near_makers := b_l_near_makers,
      F_l_near_year := F_l_near_year,
      g_l_near_year := PySem.W.mg_of X G a_l_near_year,
      b_l_near_year := b_l_near_year,
      F_l_near_copy := F_l_near_copy,
      g_l_near_copy := PySem.W.mg_of X G a_l_near_copy,
      b_l_near_copy := b_l_near_copy,
      F_l_near := F_l_near,
      g_l_near := PySem.W.mg_of X G a_l_near,
      b_l_near := b_l_near,
      F_l_mark := F_l_mark,
      g_l_mark := PySem.W.mg_of X G a_l_mark,
      b_l_mark := b_l_mark,
      F_l_key := F_l_key,
      g_l_key := PySem.W.mg_of X G a_l_key,
      b_l_key := b_l_key,
      F_l_filed := F_l_filed,
      g_l_filed := PySem.W.mg_of X G a_l_filed,
      b_l_filed := b_l_filed,
      F_l_value := F_l_value,
      g_l_value := PySem.W.mg_of X G a_l_value,
      b_l_value := b_l_value,
      F_l_ending := F_l_ending,
      g_l_ending := PySem.W.mg_of X G a_l_ending,
      b_l_ending := b_l_ending,
      F_l_letters := F_l_letters,
      g_l_letters := PySem.W.mg_of X G a_l_letters,
      b_l_letters := b_l_letters,
      F_l_read := F_l_read,
      g_l_read := PySem.W.mg_of X G a_l_read,
      b_l_read := b_l_read,
      F_l_sign := F_l_sign,
      g_l_sign := PySem.W.mg_of X G a_l_sign,
      b_l_sign := b_l_sign,
      F_l_spoilt := F_l_spoilt,
      g_l_spoilt := PySem.W.mg_of X G a_l_spoilt,
      b_l_spoilt := b_l_spoilt,
      F_l_refused := F_l_refused,
      g_l_refused := PySem.W.mg_of X G a_l_refused,
      b_l_refused := b_l_refused,
      F_l_back := F_l_back,
      g_l_back := PySem.W.mg_of X G a_l_back,
      b_l_back := b_l_back,
      F_l_two := F_l_two,
      g_l_two := PySem.W.mg_of X G a_l_two,
      b_l_two := b_l_two,
      F_l_great := F_l_great,
      g_l_great := PySem.W.mg_of X G a_l_great,
      b_l_great := b_l_great,
      F_law := F_law,
      g_law := PySem.W.mg_of X G a_law,
      b_law := b_law,
      g_Mark := PySem.W.mg_of X G aC_Mark,
      cl_Mark := ⟨pg_Mark, hd_Mark, po_Mark, sa_Mark⟩,
      M_Mark := ⟨mk_Mark, a_Mark_init, i_Mark_init, kc_Mark⟩,
      t1_Mark := t1_Mark,
      t2_Mark := t2_Mark,
      t3_Mark := t3_Mark,
      t4_Mark := t4_Mark,
      ne_Mark := ne_Mark,
      ki_Mark := by rw [show (PySem.W.clsIn K C_Mark).isSome = true from ic_Mark, ty_Mark]; rfl,
      na_Mark_parts := na_Mark_parts,
      na_Mark_text := na_Mark_text,
      g_NoLetters := PySem.W.mg_of X G aC_NoLetters,
      ox_NoLetters := ⟨⟨_, _, _, _, _, _, _, _, _, _, _, _, _, _, _, xl_NoLetters, xr_NoLetters⟩, sa_NoLetters, eC_NoLetters, ty_NoLetters, kc_NoLetters⟩,
      i_NoLetters := a_NoLetters_init,
      ti_NoLetters := ti_NoLetters,
      no_NoLetters := no_NoLetters,
      xf_NoLetters := ⟨ga_NoLetters, gg_NoLetters, eC_NoLetters, hd_NoLetters⟩,
      ec_NoLetters := ⟨ga_NoLetters, gg_NoLetters, eC_NoLetters, hd_NoLetters, t1_NoLetters, t2_NoLetters, t3_NoLetters, t4_NoLetters⟩,
      g_NoNumber := PySem.W.mg_of X G aC_NoNumber,
      ox_NoNumber := ⟨⟨_, _, _, _, _, _, _, _, _, _, _, _, _, _, _, xl_NoNumber, xr_NoNumber⟩, sa_NoNumber, eC_NoNumber, ty_NoNumber, kc_NoNumber⟩,
      i_NoNumber := a_NoNumber_init,
      ti_NoNumber := ti_NoNumber,
      no_NoNumber := no_NoNumber,
      xf_NoNumber := ⟨ga_NoNumber, gg_NoNumber, eC_NoNumber, hd_NoNumber⟩,
      ec_NoNumber := ⟨ga_NoNumber, gg_NoNumber, eC_NoNumber, hd_NoNumber, t1_NoNumber, t2_NoNumber, t3_NoNumber, t4_NoNumber⟩,
      g_NoPoints := PySem.W.mg_of X G aC_NoPoints,
      ox_NoPoints := ⟨⟨_, _, _, _, _, _, _, _, _, _, _, _, _, _, _, xl_NoPoints, xr_NoPoints⟩, sa_NoPoints, eC_NoPoints, ty_NoPoints, kc_NoPoints⟩,
      i_NoPoints := a_NoPoints_init,
      ti_NoPoints := ti_NoPoints,
      no_NoPoints := no_NoPoints,
      xf_NoPoints := ⟨ga_NoPoints, gg_NoPoints, eC_NoPoints, hd_NoPoints⟩,
      ec_NoPoints := ⟨ga_NoPoints, gg_NoPoints, eC_NoPoints, hd_NoPoints, t1_NoPoints, t2_NoPoints, t3_NoPoints, t4_NoPoints⟩,
      g_NoMakers := PySem.W.mg_of X G aC_NoMakers,
      ox_NoMakers := ⟨⟨_, _, _, _, _, _, _, _, _, _, _, _, _, _, _, xl_NoMakers, xr_NoMakers⟩, sa_NoMakers, eC_NoMakers, ty_NoMakers, kc_NoMakers⟩,
      i_NoMakers := a_NoMakers_init,
      ti_NoMakers := ti_NoMakers,
      no_NoMakers := no_NoMakers,
      xf_NoMakers := ⟨ga_NoMakers, gg_NoMakers, eC_NoMakers, hd_NoMakers⟩,
      ec_NoMakers := ⟨ga_NoMakers, gg_NoMakers, eC_NoMakers, hd_NoMakers, t1_NoMakers, t2_NoMakers, t3_NoMakers, t4_NoMakers⟩,
      g_NoMaker := PySem.W.mg_of X G aC_NoMaker,
      ox_NoMaker := ⟨⟨_, _, _, _, _, _, _, _, _, _, _, _, _, _, _, xl_NoMaker, xr_NoMaker⟩, sa_NoMaker, eC_NoMaker, ty_NoMaker, kc_NoMaker⟩,
      i_NoMaker := a_NoMaker_init,
      ti_NoMaker := ti_NoMaker,
      no_NoMaker := no_NoMaker,
      xf_NoMaker := ⟨ga_NoMaker, gg_NoMaker, eC_NoMaker, hd_NoMaker⟩,
      ec_NoMaker := ⟨ga_NoMaker, gg_NoMaker, eC_NoMaker, hd_NoMaker, t1_NoMaker, t2_NoMaker, t3_NoMaker, t4_NoMaker⟩,
      g_NoYear := PySem.W.mg_of X G aC_NoYear,
      ox_NoYear := ⟨⟨_, _, _, _, _, _, _, _, _, _, _, _, _, _, _, xl_NoYear, xr_NoYear⟩, sa_NoYear, eC_NoYear, ty_NoYear, kc_NoYear⟩,
      i_NoYear := a_NoYear_init,
      ti_NoYear := ti_NoYear,
      no_NoYear := no_NoYear,
      xf_NoYear := ⟨ga_NoYear, gg_NoYear, eC_NoYear, hd_NoYear⟩,
      ec_NoYear := ⟨ga_NoYear, gg_NoYear, eC_NoYear, hd_NoYear, t1_NoYear, t2_NoYear, t3_NoYear, t4_NoYear⟩,
      g_NoCopy := PySem.W.mg_of X G aC_NoCopy,
      ox_NoCopy := ⟨⟨_, _, _, _, _, _, _, _, _, _, _, _, _, _, _, xl_NoCopy, xr_NoCopy⟩, sa_NoCopy, eC_NoCopy, ty_NoCopy, kc_NoCopy⟩,
      i_NoCopy := a_NoCopy_init,
      ti_NoCopy := ti_NoCopy,
      no_NoCopy := no_NoCopy,
      xf_NoCopy := ⟨ga_NoCopy, gg_NoCopy, eC_NoCopy, hd_NoCopy⟩,
      ec_NoCopy := ⟨ga_NoCopy, gg_NoCopy, eC_NoCopy, hd_NoCopy, t1_NoCopy, t2_NoCopy, t3_NoCopy, t4_NoCopy⟩,
      g_NoText := PySem.W.mg_of X G aC_NoText,
      ox_NoText := ⟨⟨_, _, _, _, _, _, _, _, _, _, _, _, _, _, _, xl_NoText, xr_NoText⟩, sa_NoText, eC_NoText, ty_NoText, kc_NoText⟩,
      i_NoText := a_NoText_init,
      ti_NoText := ti_NoText,
      no_NoText := no_NoText,
      xf_NoText := ⟨ga_NoText, gg_NoText, eC_NoText, hd_NoText⟩,
      ec_NoText := ⟨ga_NoText, gg_NoText, eC_NoText, hd_NoText, t1_NoText, t2_NoText, t3_NoText, t4_NoText⟩,
      g_MarkError := PySem.W.mg_of X G aC_MarkError,
      b1_MarkError := b1_MarkError,
      b2_MarkError := b2_MarkError,
      b3_MarkError := b3_MarkError,
      b4_MarkError := b4_MarkError,
      g_Alike := PySem.W.mg_of X G aC_Alike,
      em_NoLetters_MarkError := PySem.W.exm_ref eC_MarkError hd_MarkError b2_MarkError su_NoLetters_MarkError,
      kt_NoLetters_MarkError := kit_ne nq_NoLetters_MarkError hd_MarkError b2_MarkError su_NoLetters_MarkError,
      em_NoNumber_MarkError := PySem.W.exm_ref eC_MarkError hd_MarkError b2_MarkError su_NoNumber_MarkError,
      kt_NoNumber_MarkError := kit_ne nq_NoNumber_MarkError hd_MarkError b2_MarkError su_NoNumber_MarkError,
      em_NoPoints_MarkError := PySem.W.exm_ref eC_MarkError hd_MarkError b2_MarkError su_NoPoints_MarkError,
      kt_NoPoints_MarkError := kit_ne nq_NoPoints_MarkError hd_MarkError b2_MarkError su_NoPoints_MarkError,
      em_NoMakers_MarkError := PySem.W.exm_ref eC_MarkError hd_MarkError b2_MarkError su_NoMakers_MarkError,
      kt_NoMakers_MarkError := kit_ne nq_NoMakers_MarkError hd_MarkError b2_MarkError su_NoMakers_MarkError,
      em_NoMaker_MarkError := PySem.W.exm_ref eC_MarkError hd_MarkError b2_MarkError su_NoMaker_MarkError,
      kt_NoMaker_MarkError := kit_ne nq_NoMaker_MarkError hd_MarkError b2_MarkError su_NoMaker_MarkError,
      em_NoYear_MarkError := PySem.W.exm_ref eC_MarkError hd_MarkError b2_MarkError su_NoYear_MarkError,
      kt_NoYear_MarkError := kit_ne nq_NoYear_MarkError hd_MarkError b2_MarkError su_NoYear_MarkError,
      em_NoCopy_MarkError := PySem.W.exm_ref eC_MarkError hd_MarkError b2_MarkError su_NoCopy_MarkError,
      kt_NoCopy_MarkError := kit_ne nq_NoCopy_MarkError hd_MarkError b2_MarkError su_NoCopy_MarkError,
      em_NoText_MarkError := PySem.W.exm_ref eC_MarkError hd_MarkError b2_MarkError su_NoText_MarkError,
      kt_NoText_MarkError := kit_ne nq_NoText_MarkError hd_MarkError b2_MarkError su_NoText_MarkError,
      em_NoLetters_NoText := PySem.W.exm_ref eC_NoText hd_NoText ty_NoText su_NoLetters_NoText,
      kt_NoLetters_NoText := kit_ne nq_NoLetters_NoText hd_NoText ty_NoText su_NoLetters_NoText,
      em_NoNumber_NoText := PySem.W.exm_ref eC_NoText hd_NoText ty_NoText su_NoNumber_NoText,
      kt_NoNumber_NoText := kit_ne nq_NoNumber_NoText hd_NoText ty_NoText su_NoNumber_NoText,
      em_NoPoints_NoText := PySem.W.exm_ref eC_NoText hd_NoText ty_NoText su_NoPoints_NoText,
      kt_NoPoints_NoText := kit_ne nq_NoPoints_NoText hd_NoText ty_NoText su_NoPoints_NoText,
      em_NoMakers_NoText := PySem.W.exm_ref eC_NoText hd_NoText ty_NoText su_NoMakers_NoText,
      kt_NoMakers_NoText := kit_ne nq_NoMakers_NoText hd_NoText ty_NoText su_NoMakers_NoText,
      em_NoMaker_NoText := PySem.W.exm_ref eC_NoText hd_NoText ty_NoText su_NoMaker_NoText,
      kt_NoMaker_NoText := kit_ne nq_NoMaker_NoText hd_NoText ty_NoText su_NoMaker_NoText,
      em_NoYear_NoText := PySem.W.exm_ref eC_NoText hd_NoText ty_NoText su_NoYear_NoText,
      kt_NoYear_NoText := kit_ne nq_NoYear_NoText hd_NoText ty_NoText su_NoYear_NoText,
      em_NoCopy_NoText := PySem.W.exm_ref eC_NoText hd_NoText ty_NoText su_NoCopy_NoText,
      kt_NoCopy_NoText := kit_ne nq_NoCopy_NoText hd_NoText ty_NoText su_NoCopy_NoText,
      em_NoText_NoText := PySem.W.exm_ref eC_NoText hd_NoText ty_NoText su_NoText_NoText,
      kt_NoText_NoText := kit_self,
      em_NoLetters_Alike := PySem.W.exm_ref eC_Alike hd_Alike ty_Alike su_NoLetters_Alike,
      kt_NoLetters_Alike := kit_ne nq_NoLetters_Alike hd_Alike ty_Alike su_NoLetters_Alike,
      em_NoNumber_Alike := PySem.W.exm_ref eC_Alike hd_Alike ty_Alike su_NoNumber_Alike,
      kt_NoNumber_Alike := kit_ne nq_NoNumber_Alike hd_Alike ty_Alike su_NoNumber_Alike,
      em_NoPoints_Alike := PySem.W.exm_ref eC_Alike hd_Alike ty_Alike su_NoPoints_Alike,
      kt_NoPoints_Alike := kit_ne nq_NoPoints_Alike hd_Alike ty_Alike su_NoPoints_Alike,
      em_NoMakers_Alike := PySem.W.exm_ref eC_Alike hd_Alike ty_Alike su_NoMakers_Alike,
      kt_NoMakers_Alike := kit_ne nq_NoMakers_Alike hd_Alike ty_Alike su_NoMakers_Alike,
      em_NoMaker_Alike := PySem.W.exm_ref eC_Alike hd_Alike ty_Alike su_NoMaker_Alike,
      kt_NoMaker_Alike := kit_ne nq_NoMaker_Alike hd_Alike ty_Alike su_NoMaker_Alike,
      em_NoYear_Alike := PySem.W.exm_ref eC_Alike hd_Alike ty_Alike su_NoYear_Alike,
      kt_NoYear_Alike := kit_ne nq_NoYear_Alike hd_Alike ty_Alike su_NoYear_Alike,
      em_NoCopy_Alike := PySem.W.exm_ref eC_Alike hd_Alike ty_Alike su_NoCopy_Alike,
      kt_NoCopy_Alike := kit_ne nq_NoCopy_Alike hd_Alike ty_Alike su_NoCopy_Alike,
      em_NoText_Alike := PySem.W.exm_ref eC_Alike hd_Alike ty_Alike su_NoText_Alike,
      kt_NoText_Alike := kit_ne nq_NoText_Alike hd_Alike ty_Alike su_NoText_Alike,
      ks_Mark_str := kit_rt (by decide +kernel) ks_Mark_str,
      n_len := PySem.W.mg_none_of X G z_len,
      n_isinstance := PySem.W.mg_none_of X G z_isinstance,
      n_range := PySem.W.mg_none_of X G z_range,
      n_max := PySem.W.mg_none_of X G z_max,
      n_int := PySem.W.mg_none_of X G z_int,
      n_bool := PySem.W.mg_none_of X G z_bool,
      n_str := PySem.W.mg_none_of X G z_str,
      n_list := PySem.W.mg_none_of X G z_list,
      n_tuple := PySem.W.mg_none_of X G z_tuple,
      n_all := PySem.W.mg_none_of X G z_all,
      c_SMALL := ⟨_, PySem.W.mg_of X G q_SMALL⟩,
      c_NO_YEAR := ⟨_, PySem.W.mg_of X G q_NO_YEAR⟩,
      c_NO_COPY := ⟨_, PySem.W.mg_of X G q_NO_COPY⟩ }
  exact ⟨PySem.W.fnOf "law" "law" (defArgs s_law) (defBody s_law) (defScope s_law) .none kV_law dc_law pm_law an_law cd_law ct_law, fun s v => .of_eq rfl, fun base _ _ => ok_law T⟩
theorem walk {l : PySem.W.OpenLaw} {q : Program} {loose : List Str} {XP : (Str → Option Value) → Heap → Prop} {YP : World → Heap → Prop} {d : DefRec} {K : Params → PySem.W.Frag} (hn : l.most = some 63) (hdf : d.params.defaults = [])
    (hY : ∀ (w : World) (h : Heap), YP w h → (K w.params).In h)
    (F : ∀ (w : World) (mg : Str → Option Value) (fa : Addr) (h : Heap), (K w.params).In h → h.Ns mainGlobals mg → mg d.name = some (.ref fa) →
      ∃ fd : FuncData, (∀ (s : Shared) (u : Value), BindsTo s fd ⟨[u], []⟩ [("_law_script", u)]) ∧ ∀ base : Heap, (K w.params).In base → base.Ns mainGlobals mg → FnOk l.prog w (K w.params) mg base CX0 14 fa fd ["_law_script"] (spLaw (K w.params))) :
    PySem.W.WalkO q loose XP YP l.row.toRowW d [] (fun f vs => PySem.call f vs) :=
  L2.walk_of (n := 63) (k := 14) (x := "_law_script") (CX := fun _ => CX0) (sp := fun w => spLaw (K w.params)) hn (by decide) hdf ⟨rfl, by decide, by decide⟩ hY F (fun _ _ a ns hl _ hS => ⟨a, ns, rfl, hS, hl, fun _ => rfl⟩) fun _ _ _ _ _ z => z
end My
open PySem PySem.W PyProof.Rows in
set_option maxRecDepth 100000 in
set_option maxHeartbeats 0 in
set_option pp.maxSteps 40 in
theorem PySem.Challenge.cw_spinemarks_k18_filed_holds : PySem.Challenge.rw_spinemarks_k18_filed.Holds := by
  w_on; o_law; k_head; (case hw => w_witness2)
  k_fill
  refine My.walk (l := PySem.Challenge.rw_spinemarks_k18_filed) rfl rfl (fun w h Y => PySem.W.kIn_of Y) ?F
  case F =>
    intro w mg fa h KX G hmg
    refine' My.all_mk KX G hmg ?aC_Mark ?pg_Mark ?hd_Mark ?po_Mark ?sa_Mark ?mk_Mark ?kc_Mark ?t1_Mark ?t4_Mark ?t2_Mark ?t3_Mark ?ne_Mark ?ic_Mark ?ty_Mark ?na_Mark_parts ?na_Mark_text ?a_NoLetters_init ?i_NoLetters_init ?l_NoLetters_init ?c_NoLetters_init ?k_NoLetters_init ?a_NoNumber_init ?i_NoNumber_init ?l_NoNumber_init ?c_NoNumber_init ?k_NoNumber_init ?a_NoPoints_init ?i_NoPoints_init ?l_NoPoints_init ?c_NoPoints_init ?k_NoPoints_init ?a_NoMakers_init ?i_NoMakers_init ?l_NoMakers_init ?c_NoMakers_init ?k_NoMakers_init ?a_NoMaker_init ?i_NoMaker_init ?l_NoMaker_init ?c_NoMaker_init ?k_NoMaker_init ?a_NoYear_init ?i_NoYear_init ?l_NoYear_init ?c_NoYear_init ?k_NoYear_init ?a_NoCopy_init ?i_NoCopy_init ?l_NoCopy_init ?c_NoCopy_init ?k_NoCopy_init ?a_NoText_init ?i_NoText_init ?l_NoText_init ?c_NoText_init ?k_NoText_init ?a_is_number ?l_is_number ?c_is_number ?k_is_number ?a_is_whole ?l_is_whole ?c_is_whole ?k_is_whole ?e_is_whole ?x_is_whole ?v_is_whole ?a_is_figures ?l_is_figures ?c_is_figures ?k_is_figures ?a_is_letters ?l_is_letters ?c_is_letters ?k_is_letters ?a_is_points ?l_is_points ?c_is_points ?k_is_points ?a_is_maker ?l_is_maker ?c_is_maker ?k_is_maker ?a_is_ended ?l_is_ended ?c_is_ended ?k_is_ended ?a_Mark_init ?i_Mark_init ?l_Mark_init ?c_Mark_init ?k_Mark_init ?e_Mark_init ?x_Mark_init ?v_Mark_init ?a_Mark_eq ?i_Mark_eq ?l_Mark_eq ?c_Mark_eq ?k_Mark_eq ?a_Mark_str ?i_Mark_str ?l_Mark_str ?c_Mark_str ?k_Mark_str ?a_Mark_repr ?i_Mark_repr ?l_Mark_repr ?c_Mark_repr ?k_Mark_repr ?a_Mark_len ?i_Mark_len ?l_Mark_len ?c_Mark_len ?k_Mark_len ?a_Mark_letters ?i_Mark_letters ?l_Mark_letters ?c_Mark_letters ?k_Mark_letters ?a_Mark_number ?i_Mark_number ?l_Mark_number ?c_Mark_number ?k_Mark_number ?a_Mark_points ?i_Mark_points ?l_Mark_points ?c_Mark_points ?k_Mark_points ?a_Mark_makers ?i_Mark_makers ?l_Mark_makers ?c_Mark_makers ?k_Mark_makers ?a_Mark_year ?i_Mark_year ?l_Mark_year ?c_Mark_year ?k_Mark_year ?a_Mark_copy_number ?i_Mark_copy_number ?l_Mark_copy_number ?c_Mark_copy_number ?k_Mark_copy_number ?a_Mark_parts ?i_Mark_parts ?l_Mark_parts ?c_Mark_parts ?k_Mark_parts ?a_Mark_key ?i_Mark_key ?l_Mark_key ?c_Mark_key ?k_Mark_key ?a_Mark_ahead ?i_Mark_ahead ?l_Mark_ahead ?c_Mark_ahead ?k_Mark_ahead ?a_Mark_head ?i_Mark_head ?l_Mark_head ?c_Mark_head ?k_Mark_head ?a_Mark_book ?i_Mark_book ?l_Mark_book ?c_Mark_book ?k_Mark_book ?a_Mark_with_year ?i_Mark_with_year ?l_Mark_with_year ?c_Mark_with_year ?k_Mark_with_year ?e_Mark_with_year ?x_Mark_with_year ?v_Mark_with_year ?a_Mark_with_copy ?i_Mark_with_copy ?l_Mark_with_copy ?c_Mark_with_copy ?k_Mark_with_copy ?e_Mark_with_copy ?x_Mark_with_copy ?v_Mark_with_copy ?a_Mark_same_book ?i_Mark_same_book ?l_Mark_same_book ?c_Mark_same_book ?k_Mark_same_book ?a_kept_makers ?l_kept_makers ?c_kept_makers ?k_kept_makers ?a_text_of ?l_text_of ?c_text_of ?k_text_of ?a_filed ?l_filed ?c_filed ?k_filed ?a_unfiled ?l_unfiled ?c_unfiled ?k_unfiled ?a_filed_copy ?l_filed_copy ?c_filed_copy ?k_filed_copy ?a_filed_count ?l_filed_count ?c_filed_count ?k_filed_count ?a_mark_of ?l_mark_of ?c_mark_of ?k_mark_of ?a_copy_of ?l_copy_of ?c_copy_of ?k_copy_of ?a_l_pool ?l_l_pool ?c_l_pool ?k_l_pool ?a_l_take ?l_l_take ?c_l_take ?k_l_take ?a_l_figures ?l_l_figures ?c_l_figures ?k_l_figures ?a_l_maker ?l_l_maker ?c_l_maker ?k_l_maker ?a_l_parts ?l_l_parts ?c_l_parts ?k_l_parts ?a_l_near_word ?l_l_near_word ?c_l_near_word ?k_l_near_word ?a_l_near_makers ?l_l_near_makers ?c_l_near_makers ?k_l_near_makers ?a_l_near_year ?l_l_near_year ?c_l_near_year ?k_l_near_year ?a_l_near_copy ?l_l_near_copy ?c_l_near_copy ?k_l_near_copy ?a_l_near ?l_l_near ?c_l_near ?k_l_near ?a_l_mark ?l_l_mark ?c_l_mark ?k_l_mark ?a_l_key ?l_l_key ?c_l_key ?k_l_key ?a_l_filed ?l_l_filed ?c_l_filed ?k_l_filed ?a_l_value ?l_l_value ?c_l_value ?k_l_value ?a_l_ending ?l_l_ending ?c_l_ending ?k_l_ending ?a_l_letters ?l_l_letters ?c_l_letters ?k_l_letters ?a_l_read ?l_l_read ?c_l_read ?k_l_read ?a_l_sign ?l_l_sign ?c_l_sign ?k_l_sign ?a_l_spoilt ?l_l_spoilt ?c_l_spoilt ?k_l_spoilt ?a_l_refused ?l_l_refused ?c_l_refused ?k_l_refused ?a_l_back ?l_l_back ?c_l_back ?k_l_back ?a_l_two ?l_l_two ?c_l_two ?k_l_two ?a_l_great ?l_l_great ?c_l_great ?k_l_great ?a_law ?l_law ?c_law ?k_law ?aC_NoLetters ?xl_NoLetters ?xr_NoLetters ?sa_NoLetters ?eC_NoLetters ?ty_NoLetters ?kc_NoLetters ?no_NoLetters ?ga_NoLetters ?gg_NoLetters ?hd_NoLetters ?t1_NoLetters ?t2_NoLetters ?t3_NoLetters ?t4_NoLetters ?ti_NoLetters ?aC_NoNumber ?xl_NoNumber ?xr_NoNumber ?sa_NoNumber ?eC_NoNumber ?ty_NoNumber ?kc_NoNumber ?no_NoNumber ?ga_NoNumber ?gg_NoNumber ?hd_NoNumber ?t1_NoNumber ?t2_NoNumber ?t3_NoNumber ?t4_NoNumber ?ti_NoNumber ?aC_NoPoints ?xl_NoPoints ?xr_NoPoints ?sa_NoPoints ?eC_NoPoints ?ty_NoPoints ?kc_NoPoints ?no_NoPoints ?ga_NoPoints ?gg_NoPoints ?hd_NoPoints ?t1_NoPoints ?t2_NoPoints ?t3_NoPoints ?t4_NoPoints ?ti_NoPoints ?aC_NoMakers ?xl_NoMakers ?xr_NoMakers ?sa_NoMakers ?eC_NoMakers ?ty_NoMakers ?kc_NoMakers ?no_NoMakers ?ga_NoMakers ?gg_NoMakers ?hd_NoMakers ?t1_NoMakers ?t2_NoMakers ?t3_NoMakers ?t4_NoMakers ?ti_NoMakers ?aC_NoMaker ?xl_NoMaker ?xr_NoMaker ?sa_NoMaker ?eC_NoMaker ?ty_NoMaker ?kc_NoMaker ?no_NoMaker ?ga_NoMaker ?gg_NoMaker ?hd_NoMaker ?t1_NoMaker ?t2_NoMaker ?t3_NoMaker ?t4_NoMaker ?ti_NoMaker ?aC_NoYear ?xl_NoYear ?xr_NoYear ?sa_NoYear ?eC_NoYear ?ty_NoYear ?kc_NoYear ?no_NoYear ?ga_NoYear ?gg_NoYear ?hd_NoYear ?t1_NoYear ?t2_NoYear ?t3_NoYear ?t4_NoYear ?ti_NoYear ?aC_NoCopy ?xl_NoCopy ?xr_NoCopy ?sa_NoCopy ?eC_NoCopy ?ty_NoCopy ?kc_NoCopy ?no_NoCopy ?ga_NoCopy ?gg_NoCopy ?hd_NoCopy ?t1_NoCopy ?t2_NoCopy ?t3_NoCopy ?t4_NoCopy ?ti_NoCopy ?aC_NoText ?xl_NoText ?xr_NoText ?sa_NoText ?eC_NoText ?ty_NoText ?kc_NoText ?no_NoText ?ga_NoText ?gg_NoText ?hd_NoText ?t1_NoText ?t2_NoText ?t3_NoText ?t4_NoText ?ti_NoText ?aC_MarkError ?b1_MarkError ?b2_MarkError ?b3_MarkError ?b4_MarkError ?eC_MarkError ?hd_MarkError ?su_NoLetters_MarkError ?nq_NoLetters_MarkError ?su_NoNumber_MarkError ?nq_NoNumber_MarkError ?su_NoPoints_MarkError ?nq_NoPoints_MarkError ?su_NoMakers_MarkError ?nq_NoMakers_MarkError ?su_NoMaker_MarkError ?nq_NoMaker_MarkError ?su_NoYear_MarkError ?nq_NoYear_MarkError ?su_NoCopy_MarkError ?nq_NoCopy_MarkError ?su_NoText_MarkError ?nq_NoText_MarkError ?su_NoLetters_NoText ?nq_NoLetters_NoText ?su_NoNumber_NoText ?nq_NoNumber_NoText ?su_NoPoints_NoText ?nq_NoPoints_NoText ?su_NoMakers_NoText ?nq_NoMakers_NoText ?su_NoMaker_NoText ?nq_NoMaker_NoText ?su_NoYear_NoText ?nq_NoYear_NoText ?su_NoCopy_NoText ?nq_NoCopy_NoText ?su_NoText_NoText ?su_NoLetters_Alike ?nq_NoLetters_Alike ?su_NoNumber_Alike ?nq_NoNumber_Alike ?su_NoPoints_Alike ?nq_NoPoints_Alike ?su_NoMakers_Alike ?nq_NoMakers_Alike ?su_NoMaker_Alike ?nq_NoMaker_Alike ?su_NoYear_Alike ?nq_NoYear_Alike ?su_NoCopy_Alike ?nq_NoCopy_Alike ?su_NoText_Alike ?nq_NoText_Alike ?ks_Mark_str ?z_len ?z_isinstance ?z_range ?z_max ?z_int ?z_bool ?z_str ?z_list ?z_tuple ?z_all ?q_SMALL ?q_NO_YEAR ?q_NO_COPY ?aC_Alike ?ty_Alike ?eC_Alike ?hd_Alike
    (case aC_Mark => k_is)
    (case aC_NoLetters => k_is)
    (case aC_NoNumber => k_is)
    (case aC_NoPoints => k_is)
    (case aC_NoMakers => k_is)
    (case aC_NoMaker => k_is)
    (case aC_NoYear => k_is)
    (case aC_NoCopy => k_is)
    (case aC_NoText => k_is)
    (case aC_MarkError => k_is)
    (case aC_Alike => k_is)
    (case pg_Mark => k_is)
    (case hd_Mark => k_is)
    (case po_Mark => k_is)
    (case sa_Mark => k_is)
    (case mk_Mark => k_is)
    (case kc_Mark => k_is)
    (case t1_Mark => k_is)
    (case t4_Mark => k_is)
    (case t2_Mark => k_is)
    (case t3_Mark => k_is)
    (case ne_Mark => k_is)
    (case ic_Mark => k_is)
    (case ty_Mark => k_is)
    (case na_Mark_parts => k_is)
    (case na_Mark_text => k_is)
    (case a_NoLetters_init => k_is)
    (case i_NoLetters_init => k_is)
    (case l_NoLetters_init => k_is)
    (case c_NoLetters_init => k_is)
    (case k_NoLetters_init => k_is)
    (case a_NoNumber_init => k_is)
    (case i_NoNumber_init => k_is)
    (case l_NoNumber_init => k_is)
    (case c_NoNumber_init => k_is)
    (case k_NoNumber_init => k_is)
    (case a_NoPoints_init => k_is)
    (case i_NoPoints_init => k_is)
    (case l_NoPoints_init => k_is)
    (case c_NoPoints_init => k_is)
    (case k_NoPoints_init => k_is)
    (case a_NoMakers_init => k_is)
    (case i_NoMakers_init => k_is)
    (case l_NoMakers_init => k_is)
    (case c_NoMakers_init => k_is)
    (case k_NoMakers_init => k_is)
    (case a_NoMaker_init => k_is)
    (case i_NoMaker_init => k_is)
    (case l_NoMaker_init => k_is)
    (case c_NoMaker_init => k_is)
    (case k_NoMaker_init => k_is)
    (case a_NoYear_init => k_is)
    (case i_NoYear_init => k_is)
    (case l_NoYear_init => k_is)
    (case c_NoYear_init => k_is)
    (case k_NoYear_init => k_is)
    (case a_NoCopy_init => k_is)
    (case i_NoCopy_init => k_is)
    (case l_NoCopy_init => k_is)
    (case c_NoCopy_init => k_is)
    (case k_NoCopy_init => k_is)
    (case a_NoText_init => k_is)
    (case i_NoText_init => k_is)
    (case l_NoText_init => k_is)
    (case c_NoText_init => k_is)
    (case k_NoText_init => k_is)
    (case a_is_number => k_is)
    (case l_is_number => k_is)
    (case c_is_number => k_is)
    (case k_is_number => k_is)
    (case a_is_whole => k_is)
    (case l_is_whole => k_is)
    (case c_is_whole => k_is)
    (case k_is_whole => k_is)
    (case e_is_whole => k_is)
    (case x_is_whole => first | rfl | k_is)
    (case v_is_whole => first | (repeat (first | exact .nil | refine .cons ?_ ?_ | rfl | exact ⟨_, rfl⟩)))
    (case a_is_figures => k_is)
    (case l_is_figures => k_is)
    (case c_is_figures => k_is)
    (case k_is_figures => k_is)
    (case a_is_letters => k_is)
    (case l_is_letters => k_is)
    (case c_is_letters => k_is)
    (case k_is_letters => k_is)
    (case a_is_points => k_is)
    (case l_is_points => k_is)
    (case c_is_points => k_is)
    (case k_is_points => k_is)
    (case a_is_maker => k_is)
    (case l_is_maker => k_is)
    (case c_is_maker => k_is)
    (case k_is_maker => k_is)
    (case a_is_ended => k_is)
    (case l_is_ended => k_is)
    (case c_is_ended => k_is)
    (case k_is_ended => k_is)
    (case a_Mark_init => k_is)
    (case i_Mark_init => k_is)
    (case l_Mark_init => k_is)
    (case c_Mark_init => k_is)
    (case k_Mark_init => k_is)
    (case e_Mark_init => k_is)
    (case x_Mark_init => first | rfl | k_is)
    (case v_Mark_init => first | (repeat (first | exact .nil | refine .cons ?_ ?_ | rfl | exact ⟨_, rfl⟩)))
    (case a_Mark_eq => k_is)
    (case i_Mark_eq => k_is)
    (case l_Mark_eq => k_is)
    (case c_Mark_eq => k_is)
    (case k_Mark_eq => k_is)
    (case a_Mark_str => k_is)
    (case i_Mark_str => k_is)
    (case l_Mark_str => k_is)
    (case c_Mark_str => k_is)
    (case k_Mark_str => k_is)
    (case a_Mark_repr => k_is)
    (case i_Mark_repr => k_is)
    (case l_Mark_repr => k_is)
    (case c_Mark_repr => k_is)
    (case k_Mark_repr => k_is)
    (case a_Mark_len => k_is)
    (case i_Mark_len => k_is)
    (case l_Mark_len => k_is)
    (case c_Mark_len => k_is)
    (case k_Mark_len => k_is)
    (case a_Mark_letters => k_is)
    (case i_Mark_letters => k_is)
    (case l_Mark_letters => k_is)
    (case c_Mark_letters => k_is)
    (case k_Mark_letters => k_is)
    (case a_Mark_number => k_is)
    (case i_Mark_number => k_is)
    (case l_Mark_number => k_is)
    (case c_Mark_number => k_is)
    (case k_Mark_number => k_is)
    (case a_Mark_points => k_is)
    (case i_Mark_points => k_is)
    (case l_Mark_points => k_is)
    (case c_Mark_points => k_is)
    (case k_Mark_points => k_is)
    (case a_Mark_makers => k_is)
    (case i_Mark_makers => k_is)
    (case l_Mark_makers => k_is)
    (case c_Mark_makers => k_is)
    (case k_Mark_makers => k_is)
    (case a_Mark_year => k_is)
    (case i_Mark_year => k_is)
    (case l_Mark_year => k_is)
    (case c_Mark_year => k_is)
    (case k_Mark_year => k_is)
    (case a_Mark_copy_number => k_is)
    (case i_Mark_copy_number => k_is)
    (case l_Mark_copy_number => k_is)
    (case c_Mark_copy_number => k_is)
    (case k_Mark_copy_number => k_is)
    (case a_Mark_parts => k_is)
    (case i_Mark_parts => k_is)
    (case l_Mark_parts => k_is)
    (case c_Mark_parts => k_is)
    (case k_Mark_parts => k_is)
    (case a_Mark_key => k_is)
    (case i_Mark_key => k_is)
    (case l_Mark_key => k_is)
    (case c_Mark_key => k_is)
    (case k_Mark_key => k_is)
    (case a_Mark_ahead => k_is)
    (case i_Mark_ahead => k_is)
    (case l_Mark_ahead => k_is)
    (case c_Mark_ahead => k_is)
    (case k_Mark_ahead => k_is)
    (case a_Mark_head => k_is)
    (case i_Mark_head => k_is)
    (case l_Mark_head => k_is)
    (case c_Mark_head => k_is)
    (case k_Mark_head => k_is)
    (case a_Mark_book => k_is)
    (case i_Mark_book => k_is)
    (case l_Mark_book => k_is)
    (case c_Mark_book => k_is)
    (case k_Mark_book => k_is)
    (case a_Mark_with_year => k_is)
    (case i_Mark_with_year => k_is)
    (case l_Mark_with_year => k_is)
    (case c_Mark_with_year => k_is)
    (case k_Mark_with_year => k_is)
    (case e_Mark_with_year => k_is)
    (case x_Mark_with_year => first | rfl | k_is)
    (case v_Mark_with_year => first | (repeat (first | exact .nil | refine .cons ?_ ?_ | rfl | exact ⟨_, rfl⟩)))
    (case a_Mark_with_copy => k_is)
    (case i_Mark_with_copy => k_is)
    (case l_Mark_with_copy => k_is)
    (case c_Mark_with_copy => k_is)
    (case k_Mark_with_copy => k_is)
    (case e_Mark_with_copy => k_is)
    (case x_Mark_with_copy => first | rfl | k_is)
    (case v_Mark_with_copy => first | (repeat (first | exact .nil | refine .cons ?_ ?_ | rfl | exact ⟨_, rfl⟩)))
    (case a_Mark_same_book => k_is)
    (case i_Mark_same_book => k_is)
    (case l_Mark_same_book => k_is)
    (case c_Mark_same_book => k_is)
    (case k_Mark_same_book => k_is)
    (case a_kept_makers => k_is)
    (case l_kept_makers => k_is)
    (case c_kept_makers => k_is)
    (case k_kept_makers => k_is)
    (case a_text_of => k_is)
    (case l_text_of => k_is)
    (case c_text_of => k_is)
    (case k_text_of => k_is)
    (case a_filed => k_is)
    (case l_filed => k_is)
    (case c_filed => k_is)
    (case k_filed => k_is)
    (case a_unfiled => k_is)
    (case l_unfiled => k_is)
    (case c_unfiled => k_is)
    (case k_unfiled => k_is)
    (case a_filed_copy => k_is)
    (case l_filed_copy => k_is)
    (case c_filed_copy => k_is)
    (case k_filed_copy => k_is)
    (case a_filed_count => k_is)
    (case l_filed_count => k_is)
    (case c_filed_count => k_is)
    (case k_filed_count => k_is)
    (case a_mark_of => k_is)
    (case l_mark_of => k_is)
    (case c_mark_of => k_is)
    (case k_mark_of => k_is)
    (case a_copy_of => k_is)
    (case l_copy_of => k_is)
    (case c_copy_of => k_is)
    (case k_copy_of => k_is)
    (case a_l_pool => k_is)
    (case l_l_pool => k_is)
    (case c_l_pool => k_is)
    (case k_l_pool => k_is)
    (case a_l_take => k_is)
    (case l_l_take => k_is)
    (case c_l_take => k_is)
    (case k_l_take => k_is)
    (case a_l_figures => k_is)
    (case l_l_figures => k_is)
    (case c_l_figures => k_is)
    (case k_l_figures => k_is)
    (case a_l_maker => k_is)
    (case l_l_maker => k_is)
    (case c_l_maker => k_is)
    (case k_l_maker => k_is)
    (case a_l_parts => k_is)
    (case l_l_parts => k_is)
    (case c_l_parts => k_is)
    (case k_l_parts => k_is)
    (case a_l_near_word => k_is)
    (case l_l_near_word => k_is)
    (case c_l_near_word => k_is)
    (case k_l_near_word => k_is)
    (case a_l_near_makers => k_is)
    (case l_l_near_makers => k_is)
    (case c_l_near_makers => k_is)
    (case k_l_near_makers => k_is)
    (case a_l_near_year => k_is)
    (case l_l_near_year => k_is)
    (case c_l_near_year => k_is)
    (case k_l_near_year => k_is)
    (case a_l_near_copy => k_is)
    (case l_l_near_copy => k_is)
    (case c_l_near_copy => k_is)
    (case k_l_near_copy => k_is)
    (case a_l_near => k_is)
    (case l_l_near => k_is)
    (case c_l_near => k_is)
    (case k_l_near => k_is)
    (case a_l_mark => k_is)
    (case l_l_mark => k_is)
    (case c_l_mark => k_is)
    (case k_l_mark => k_is)
    (case a_l_key => k_is)
    (case l_l_key => k_is)
    (case c_l_key => k_is)
    (case k_l_key => k_is)
    (case a_l_filed => k_is)
    (case l_l_filed => k_is)
    (case c_l_filed => k_is)
    (case k_l_filed => k_is)
    (case a_l_value => k_is)
    (case l_l_value => k_is)
    (case c_l_value => k_is)
    (case k_l_value => k_is)
    (case a_l_ending => k_is)
    (case l_l_ending => k_is)
    (case c_l_ending => k_is)
    (case k_l_ending => k_is)
    (case a_l_letters => k_is)
    (case l_l_letters => k_is)
    (case c_l_letters => k_is)
    (case k_l_letters => k_is)
    (case a_l_read => k_is)
    (case l_l_read => k_is)
    (case c_l_read => k_is)
    (case k_l_read => k_is)
    (case a_l_sign => k_is)
    (case l_l_sign => k_is)
    (case c_l_sign => k_is)
    (case k_l_sign => k_is)
    (case a_l_spoilt => k_is)
    (case l_l_spoilt => k_is)
    (case c_l_spoilt => k_is)
    (case k_l_spoilt => k_is)
    (case a_l_refused => k_is)
    (case l_l_refused => k_is)
    (case c_l_refused => k_is)
    (case k_l_refused => k_is)
    (case a_l_back => k_is)
    (case l_l_back => k_is)
    (case c_l_back => k_is)
    (case k_l_back => k_is)
    (case a_l_two => k_is)
    (case l_l_two => k_is)
    (case c_l_two => k_is)
    (case k_l_two => k_is)
    (case a_l_great => k_is)
    (case l_l_great => k_is)
    (case c_l_great => k_is)
    (case k_l_great => k_is)
    (case a_law => k_is)
    (case l_law => k_is)
    (case c_law => k_is)
    (case k_law => k_is)
    (case xl_NoLetters => k_is)
    (case xr_NoLetters => first | decide +kernel | rfl)
    (case sa_NoLetters => k_is)
    (case eC_NoLetters => k_is)
    (case ty_NoLetters => k_is)
    (case kc_NoLetters => k_is)
    (case no_NoLetters => k_is)
    (case ga_NoLetters => k_is)
    (case gg_NoLetters => k_is)
    (case hd_NoLetters => k_is)
    (case t1_NoLetters => k_is)
    (case t2_NoLetters => k_is)
    (case t3_NoLetters => k_is)
    (case t4_NoLetters => k_is)
    (case ti_NoLetters => k_is)
    (case xl_NoNumber => k_is)
    (case xr_NoNumber => first | decide +kernel | rfl)
    (case sa_NoNumber => k_is)
    (case eC_NoNumber => k_is)
    (case ty_NoNumber => k_is)
    (case kc_NoNumber => k_is)
    (case no_NoNumber => k_is)
    (case ga_NoNumber => k_is)
    (case gg_NoNumber => k_is)
    (case hd_NoNumber => k_is)
    (case t1_NoNumber => k_is)
    (case t2_NoNumber => k_is)
    (case t3_NoNumber => k_is)
    (case t4_NoNumber => k_is)
    (case ti_NoNumber => k_is)
    (case xl_NoPoints => k_is)
    (case xr_NoPoints => first | decide +kernel | rfl)
    (case sa_NoPoints => k_is)
    (case eC_NoPoints => k_is)
    (case ty_NoPoints => k_is)
    (case kc_NoPoints => k_is)
    (case no_NoPoints => k_is)
    (case ga_NoPoints => k_is)
    (case gg_NoPoints => k_is)
    (case hd_NoPoints => k_is)
    (case t1_NoPoints => k_is)
    (case t2_NoPoints => k_is)
    (case t3_NoPoints => k_is)
    (case t4_NoPoints => k_is)
    (case ti_NoPoints => k_is)
    (case xl_NoMakers => k_is)
    (case xr_NoMakers => first | decide +kernel | rfl)
    (case sa_NoMakers => k_is)
    (case eC_NoMakers => k_is)
    (case ty_NoMakers => k_is)
    (case kc_NoMakers => k_is)
    (case no_NoMakers => k_is)
    (case ga_NoMakers => k_is)
    (case gg_NoMakers => k_is)
    (case hd_NoMakers => k_is)
    (case t1_NoMakers => k_is)
    (case t2_NoMakers => k_is)
    (case t3_NoMakers => k_is)
    (case t4_NoMakers => k_is)
    (case ti_NoMakers => k_is)
    (case xl_NoMaker => k_is)
    (case xr_NoMaker => first | decide +kernel | rfl)
    (case sa_NoMaker => k_is)
    (case eC_NoMaker => k_is)
    (case ty_NoMaker => k_is)
    (case kc_NoMaker => k_is)
    (case no_NoMaker => k_is)
    (case ga_NoMaker => k_is)
    (case gg_NoMaker => k_is)
    (case hd_NoMaker => k_is)
    (case t1_NoMaker => k_is)
    (case t2_NoMaker => k_is)
    (case t3_NoMaker => k_is)
    (case t4_NoMaker => k_is)
    (case ti_NoMaker => k_is)
    (case xl_NoYear => k_is)
    (case xr_NoYear => first | decide +kernel | rfl)
    (case sa_NoYear => k_is)
    (case eC_NoYear => k_is)
    (case ty_NoYear => k_is)
    (case kc_NoYear => k_is)
    (case no_NoYear => k_is)
    (case ga_NoYear => k_is)
    (case gg_NoYear => k_is)
    (case hd_NoYear => k_is)
    (case t1_NoYear => k_is)
    (case t2_NoYear => k_is)
    (case t3_NoYear => k_is)
    (case t4_NoYear => k_is)
    (case ti_NoYear => k_is)
    (case xl_NoCopy => k_is)
    (case xr_NoCopy => first | decide +kernel | rfl)
    (case sa_NoCopy => k_is)
    (case eC_NoCopy => k_is)
    (case ty_NoCopy => k_is)
    (case kc_NoCopy => k_is)
    (case no_NoCopy => k_is)
    (case ga_NoCopy => k_is)
    (case gg_NoCopy => k_is)
    (case hd_NoCopy => k_is)
    (case t1_NoCopy => k_is)
    (case t2_NoCopy => k_is)
    (case t3_NoCopy => k_is)
    (case t4_NoCopy => k_is)
    (case ti_NoCopy => k_is)
    (case xl_NoText => k_is)
    (case xr_NoText => first | decide +kernel | rfl)
    (case sa_NoText => k_is)
    (case eC_NoText => k_is)
    (case ty_NoText => k_is)
    (case kc_NoText => k_is)
    (case no_NoText => k_is)
    (case ga_NoText => k_is)
    (case gg_NoText => k_is)
    (case hd_NoText => k_is)
    (case t1_NoText => k_is)
    (case t2_NoText => k_is)
    (case t3_NoText => k_is)
    (case t4_NoText => k_is)
    (case ti_NoText => k_is)
    (case b1_MarkError => k_is)
    (case b2_MarkError => k_is)
    (case b3_MarkError => k_is)
    (case b4_MarkError => k_is)
    (case eC_MarkError => k_is)
    (case hd_MarkError => k_is)
    (case su_NoLetters_MarkError => k_is)
    (case nq_NoLetters_MarkError => decide +kernel)
    (case su_NoNumber_MarkError => k_is)
    (case nq_NoNumber_MarkError => decide +kernel)
    (case su_NoPoints_MarkError => k_is)
    (case nq_NoPoints_MarkError => decide +kernel)
    (case su_NoMakers_MarkError => k_is)
    (case nq_NoMakers_MarkError => decide +kernel)
    (case su_NoMaker_MarkError => k_is)
    (case nq_NoMaker_MarkError => decide +kernel)
    (case su_NoYear_MarkError => k_is)
    (case nq_NoYear_MarkError => decide +kernel)
    (case su_NoCopy_MarkError => k_is)
    (case nq_NoCopy_MarkError => decide +kernel)
    (case su_NoText_MarkError => k_is)
    (case nq_NoText_MarkError => decide +kernel)
    (case su_NoLetters_NoText => k_is)
    (case nq_NoLetters_NoText => decide +kernel)
    (case su_NoNumber_NoText => k_is)
    (case nq_NoNumber_NoText => decide +kernel)
    (case su_NoPoints_NoText => k_is)
    (case nq_NoPoints_NoText => decide +kernel)
    (case su_NoMakers_NoText => k_is)
    (case nq_NoMakers_NoText => decide +kernel)
    (case su_NoMaker_NoText => k_is)
    (case nq_NoMaker_NoText => decide +kernel)
    (case su_NoYear_NoText => k_is)
    (case nq_NoYear_NoText => decide +kernel)
    (case su_NoCopy_NoText => k_is)
    (case nq_NoCopy_NoText => decide +kernel)
    (case su_NoText_NoText => k_is)
    (case su_NoLetters_Alike => k_is)
    (case nq_NoLetters_Alike => decide +kernel)
    (case su_NoNumber_Alike => k_is)
    (case nq_NoNumber_Alike => decide +kernel)
    (case su_NoPoints_Alike => k_is)
    (case nq_NoPoints_Alike => decide +kernel)
    (case su_NoMakers_Alike => k_is)
    (case nq_NoMakers_Alike => decide +kernel)
    (case su_NoMaker_Alike => k_is)
    (case nq_NoMaker_Alike => decide +kernel)
    (case su_NoYear_Alike => k_is)
    (case nq_NoYear_Alike => decide +kernel)
    (case su_NoCopy_Alike => k_is)
    (case nq_NoCopy_Alike => decide +kernel)
    (case su_NoText_Alike => k_is)
    (case nq_NoText_Alike => decide +kernel)
    (case ks_Mark_str => k_is)
    (case z_len => k_is)
    (case z_isinstance => k_is)
    (case z_range => k_is)
    (case z_max => k_is)
    (case z_int => k_is)
    (case z_bool => k_is)
    (case z_str => k_is)
    (case z_list => k_is)
    (case z_tuple => k_is)
    (case z_all => k_is)
    (case q_SMALL => k_is)
    (case q_NO_YEAR => k_is)
    (case q_NO_COPY => k_is)
    (case ty_Alike => k_is)
    (case eC_Alike => k_is)
    (case hd_Alike => k_is)
