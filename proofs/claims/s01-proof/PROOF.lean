import PyProof.Rows.All
import Wide.All
import OpenK.AllK
import Wide.FinOn
import Open.SpecLaws
import KE.OsHead
import KE.OsGo
import KE.KDictList
import HandS.ForSpec
import HandS.ForMost
import HandS.Evl
import HandS.Walk
import HandS.IsInst
import HandS.Conv
import HandS.Replace
import HandS.ReplaceDef
import HandS.ReplaceLit
import HandS.TupLe
import KE.RegKIsAll
import HandS.ReplaceList
import KE.KDictCopyH
import HandS.DictTup
import PySem.Challenge.RW_leastpieces_s01_answers
set_option Elab.async false
set_option linter.unusedVariables false
set_option maxRecDepth 100000
set_option maxHeartbeats 4000000
namespace LP
open PySem PySem.Spec PyProof.Rows L2
def top (i : Nat) : Stmt := PySem.Challenge.pw_leastpieces_s01_answers.main.body.getD i (.Pass ⟨0, 0, 0, 0⟩)
abbrev s_joined_pairs : Stmt := top 1
abbrev N_joined_pairs : List Str := ["pieces", "goal_count", "pairs", "first", "second", "piece"]
theorem sc_joined_pairs : FnScope N_joined_pairs ["pieces", "goal_count"] (defScope s_joined_pairs) := ⟨rfl, rfl, rfl, by decide +kernel, rfl, by decide +kernel, by decide +kernel⟩
abbrev s_are_apart : Stmt := top 2
abbrev N_are_apart : List Str := ["pairs", "goals", "pair"]
theorem sc_are_apart : FnScope N_are_apart ["pairs", "goals"] (defScope s_are_apart) := ⟨rfl, rfl, rfl, by decide +kernel, rfl, by decide +kernel, by decide +kernel⟩
abbrev s_goals_by_number : Stmt := top 3
abbrev N_goals_by_number : List Str := ["number", "goal_count", "goal"]
theorem sc_goals_by_number : FnScope N_goals_by_number ["number", "goal_count"] (defScope s_goals_by_number) := ⟨rfl, rfl, rfl, by decide +kernel, rfl, by decide +kernel, by decide +kernel⟩
abbrev s_greatest_apart : Stmt := top 4
abbrev N_greatest_apart : List Str := ["pieces", "goal_count", "pairs", "greatest", "number", "goals"]
theorem sc_greatest_apart : FnScope N_greatest_apart ["pieces", "goal_count"] (defScope s_greatest_apart) := ⟨rfl, rfl, rfl, by decide +kernel, rfl, by decide +kernel, by decide +kernel⟩
abbrev s_is_within_margins : Stmt := top 6
abbrev N_is_within_margins : List Str := ["margins", "letters", "gap", "behind"]
theorem sc_is_within_margins : FnScope N_is_within_margins ["margins", "letters", "gap"] (defScope s_is_within_margins) := ⟨rfl, rfl, rfl, by decide +kernel, rfl, by decide +kernel, by decide +kernel⟩
abbrev s_fits : Stmt := top 7
abbrev N_fits : List Str := ["piece", "letters", "place", "end"]
theorem sc_fits : FnScope N_fits ["piece", "letters", "place"] (defScope s_fits) := ⟨rfl, rfl, rfl, by decide +kernel, rfl, by decide +kernel, by decide +kernel⟩
abbrev s_parted_gaps : Stmt := top 8
abbrev N_parted_gaps : List Str := ["margins", "piece", "letters", "gaps", "place", "gap"]
theorem sc_parted_gaps : FnScope N_parted_gaps ["margins", "piece", "letters"] (defScope s_parted_gaps) := ⟨rfl, rfl, rfl, by decide +kernel, rfl, by decide +kernel, by decide +kernel⟩
abbrev s_Goal___init__ : Stmt := inClass (top 10) 0
abbrev N_Goal___init__ : List Str := ["self", "word", "gap"]
theorem sc_Goal___init__ : FnScope N_Goal___init__ ["self", "word", "gap"] (defScope s_Goal___init__) := ⟨rfl, rfl, rfl, by decide +kernel, rfl, by decide +kernel, by decide +kernel⟩
abbrev s_Piece___init__ : Stmt := inClass (top 11) 0
abbrev N_Piece___init__ : List Str := ["self", "letters", "before", "first_point", "last_point"]
theorem sc_Piece___init__ : FnScope N_Piece___init__ ["self", "letters", "before", "first_point", "last_point"] (defScope s_Piece___init__) := ⟨rfl, rfl, rfl, by decide +kernel, rfl, by decide +kernel, by decide +kernel⟩
abbrev s_goals_of : Stmt := top 12
abbrev N_goals_of : List Str := ["listed", "goals", "number", "word", "gap"]
theorem sc_goals_of : FnScope N_goals_of ["listed"] (defScope s_goals_of) := ⟨rfl, rfl, rfl, by decide +kernel, rfl, by decide +kernel, by decide +kernel⟩
abbrev s_pointed_pieces : Stmt := top 13
abbrev N_pointed_pieces : List Str := ["letters", "gap", "place", "length", "end", "first_points", "last_points", "pieces", "last_point", "first_point"]
theorem sc_pointed_pieces : FnScope N_pointed_pieces ["letters", "gap", "place", "length"] (defScope s_pointed_pieces) := ⟨rfl, rfl, rfl, by decide +kernel, rfl, by decide +kernel, by decide +kernel⟩
abbrev s_pieces_around : Stmt := top 14
abbrev N_pieces_around : List Str := ["letters", "gap", "longest", "pieces", "length", "place"]
theorem sc_pieces_around : FnScope N_pieces_around ["letters", "gap", "longest"] (defScope s_pieces_around) := ⟨rfl, rfl, rfl, by decide +kernel, rfl, by decide +kernel, by decide +kernel⟩
abbrev s_is_good : Stmt := top 15
abbrev N_is_good : List Str := ["listed", "piece", "word", "gap"]
theorem sc_is_good : FnScope N_is_good ["listed", "piece"] (defScope s_is_good) := ⟨rfl, rfl, rfl, by decide +kernel, rfl, by decide +kernel, by decide +kernel⟩
abbrev s_covered_goals : Stmt := top 16
abbrev N_covered_goals : List Str := ["listed", "goals", "piece", "parted", "word", "number", "goal"]
theorem sc_covered_goals : FnScope N_covered_goals ["listed", "goals", "piece"] (defScope s_covered_goals) := ⟨rfl, rfl, rfl, by decide +kernel, rfl, by decide +kernel, by decide +kernel⟩
abbrev s_family_up_to : Stmt := top 17
abbrev N_family_up_to : List Str := ["listed", "longest", "goals", "seen", "pieces", "goal", "piece"]
theorem sc_family_up_to : FnScope N_family_up_to ["listed", "longest"] (defScope s_family_up_to) := ⟨rfl, rfl, rfl, by decide +kernel, rfl, by decide +kernel, by decide +kernel⟩
abbrev s_used_pieces : Stmt := top 18
abbrev N_used_pieces : List Str := ["pieces", "best", "number", "piece", "covered"]
theorem sc_used_pieces : FnScope N_used_pieces ["pieces"] (defScope s_used_pieces) := ⟨rfl, rfl, rfl, by decide +kernel, rfl, by decide +kernel, by decide +kernel⟩
abbrev s_first_uncovered : Stmt := top 19
abbrev N_first_uncovered : List Str := ["goals", "pieces", "number", "piece"]
theorem sc_first_uncovered : FnScope N_first_uncovered ["goals", "pieces"] (defScope s_first_uncovered) := ⟨rfl, rfl, rfl, by decide +kernel, rfl, by decide +kernel, by decide +kernel⟩
abbrev s_is_exact : Stmt := top 20
abbrev N_is_exact : List Str := ["goals", "pieces"]
theorem sc_is_exact : FnScope N_is_exact ["goals", "pieces"] (defScope s_is_exact) := ⟨rfl, rfl, rfl, by decide +kernel, rfl, by decide +kernel, by decide +kernel⟩
abbrev s_Choice___init__ : Stmt := inClass (top 24) 0
abbrev N_Choice___init__ : List Str := ["self", "numbers", "size"]
theorem sc_Choice___init__ : FnScope N_Choice___init__ ["self", "numbers", "size"] (defScope s_Choice___init__) := ⟨rfl, rfl, rfl, by decide +kernel, rfl, by decide +kernel, by decide +kernel⟩
abbrev s_Choice_rank : Stmt := inClass (top 24) 1
abbrev N_Choice_rank : List Str := ["self", "kind"]
theorem sc_Choice_rank : FnScope N_Choice_rank ["self", "kind"] (defScope s_Choice_rank) := ⟨rfl, rfl, rfl, by decide +kernel, rfl, by decide +kernel, by decide +kernel⟩
abbrev s_goal_bits : Stmt := top 25
abbrev N_goal_bits : List Str := ["goals", "bits", "goal"]
theorem sc_goal_bits : FnScope N_goal_bits ["goals"] (defScope s_goal_bits) := ⟨rfl, rfl, rfl, by decide +kernel, rfl, by decide +kernel, by decide +kernel⟩
abbrev s_lowest_uncovered : Stmt := top 26
abbrev N_lowest_uncovered : List Str := ["covered", "goal"]
theorem sc_lowest_uncovered : FnScope N_lowest_uncovered ["covered"] (defScope s_lowest_uncovered) := ⟨rfl, rfl, rfl, by decide +kernel, rfl, by decide +kernel, by decide +kernel⟩
abbrev s_used_by_goal : Stmt := top 27
abbrev N_used_by_goal : List Str := ["pieces", "goal_count", "by_goal", "number", "goal"]
theorem sc_used_by_goal : FnScope N_used_by_goal ["pieces", "goal_count"] (defScope s_used_by_goal) := ⟨rfl, rfl, rfl, by decide +kernel, rfl, by decide +kernel, by decide +kernel⟩
abbrev s_least_choice : Stmt := top 28
abbrev N_least_choice : List Str := ["choices", "kind", "least", "choice"]
theorem sc_least_choice : FnScope N_least_choice ["choices", "kind"] (defScope s_least_choice) := ⟨rfl, rfl, rfl, by decide +kernel, rfl, by decide +kernel, by decide +kernel⟩
abbrev s_least_set : Stmt := top 29
abbrev N_least_set : List Str := ["pieces", "goal_count", "kind", "used", "everything", "least", "covered", "choices", "number", "rest"]
theorem sc_least_set : FnScope N_least_set ["pieces", "goal_count", "kind"] (defScope s_least_set) := ⟨rfl, rfl, rfl, by decide +kernel, rfl, by decide +kernel, by decide +kernel⟩
abbrev s_most_covering : Stmt := top 30
abbrev N_most_covering : List Str := ["pieces", "covered", "most", "found", "number", "piece", "more", "goal"]
theorem sc_most_covering : FnScope N_most_covering ["pieces", "covered"] (defScope s_most_covering) := ⟨rfl, rfl, rfl, by decide +kernel, rfl, by decide +kernel, by decide +kernel⟩
abbrev s_greedy_set : Stmt := top 31
abbrev N_greedy_set : List Str := ["pieces", "so_far", "choice", "number", "goal"]
theorem sc_greedy_set : FnScope N_greedy_set ["pieces"] (defScope s_greedy_set) := ⟨rfl, rfl, rfl, by decide +kernel, rfl, by decide +kernel, by decide +kernel⟩
abbrev s_is_margin : Stmt := top 37
abbrev N_is_margin : List Str := ["chunk"]
theorem sc_is_margin : FnScope N_is_margin ["chunk"] (defScope s_is_margin) := ⟨rfl, rfl, rfl, by decide +kernel, rfl, by decide +kernel, by decide +kernel⟩
abbrev s_word_letters : Stmt := top 38
abbrev N_word_letters : List Str := ["chunk"]
theorem sc_word_letters : FnScope N_word_letters ["chunk"] (defScope s_word_letters) := ⟨rfl, rfl, rfl, by decide +kernel, rfl, by decide +kernel, by decide +kernel⟩
abbrev s_is_word : Stmt := top 39
abbrev N_is_word : List Str := ["chunk", "part", "count"]
theorem sc_is_word : FnScope N_is_word ["chunk"] (defScope s_is_word) := ⟨rfl, rfl, rfl, by decide +kernel, rfl, by decide +kernel, by decide +kernel⟩
abbrev s_word_breaks : Stmt := top 40
abbrev N_word_breaks : List Str := ["chunk", "breaks", "letters", "sign"]
theorem sc_word_breaks : FnScope N_word_breaks ["chunk"] (defScope s_word_breaks) := ⟨rfl, rfl, rfl, by decide +kernel, rfl, by decide +kernel, by decide +kernel⟩
abbrev s_without_points : Stmt := top 41
abbrev N_without_points : List Str := ["chunk", "body"]
theorem sc_without_points : FnScope N_without_points ["chunk"] (defScope s_without_points) := ⟨rfl, rfl, rfl, by decide +kernel, rfl, by decide +kernel, by decide +kernel⟩
abbrev s_without_digits : Stmt := top 42
abbrev N_without_digits : List Str := ["chunk", "sign"]
theorem sc_without_digits : FnScope N_without_digits ["chunk"] (defScope s_without_digits) := ⟨rfl, rfl, rfl, by decide +kernel, rfl, by decide +kernel, by decide +kernel⟩
abbrev s_has_digits_side_by_side : Stmt := top 43
abbrev N_has_digits_side_by_side : List Str := ["body", "place"]
theorem sc_has_digits_side_by_side : FnScope N_has_digits_side_by_side ["body"] (defScope s_has_digits_side_by_side) := ⟨rfl, rfl, rfl, by decide +kernel, rfl, by decide +kernel, by decide +kernel⟩
abbrev s_is_pattern : Stmt := top 44
abbrev N_is_pattern : List Str := ["chunk", "body", "letters"]
theorem sc_is_pattern : FnScope N_is_pattern ["chunk"] (defScope s_is_pattern) := ⟨rfl, rfl, rfl, by decide +kernel, rfl, by decide +kernel, by decide +kernel⟩
abbrev s_Token___init__ : Stmt := inClass (top 52) 0
abbrev N_Token___init__ : List Str := ["self", "text", "place"]
theorem sc_Token___init__ : FnScope N_Token___init__ ["self", "text", "place"] (defScope s_Token___init__) := ⟨rfl, rfl, rfl, by decide +kernel, rfl, by decide +kernel, by decide +kernel⟩
abbrev s_Token_is_chunk : Stmt := inClass (top 52) 1
abbrev N_Token_is_chunk : List Str := ["self"]
theorem sc_Token_is_chunk : FnScope N_Token_is_chunk ["self"] (defScope s_Token_is_chunk) := ⟨rfl, rfl, rfl, by decide +kernel, rfl, by decide +kernel, by decide +kernel⟩
abbrev s_is_blank : Stmt := top 53
abbrev N_is_blank : List Str := ["byte"]
theorem sc_is_blank : FnScope N_is_blank ["byte"] (defScope s_is_blank) := ⟨rfl, rfl, rfl, by decide +kernel, rfl, by decide +kernel, by decide +kernel⟩
abbrev s_chunk_sign : Stmt := top 54
abbrev N_chunk_sign : List Str := ["byte"]
theorem sc_chunk_sign : FnScope N_chunk_sign ["byte"] (defScope s_chunk_sign) := ⟨rfl, rfl, rfl, by decide +kernel, rfl, by decide +kernel, by decide +kernel⟩
abbrev s_remark_end : Stmt := top 55
abbrev N_remark_end : List Str := ["text", "place"]
theorem sc_remark_end : FnScope N_remark_end ["text", "place"] (defScope s_remark_end) := ⟨rfl, rfl, rfl, by decide +kernel, rfl, by decide +kernel, by decide +kernel⟩
abbrev s_skip_blanks : Stmt := top 56
abbrev N_skip_blanks : List Str := ["text", "place"]
theorem sc_skip_blanks : FnScope N_skip_blanks ["text", "place"] (defScope s_skip_blanks) := ⟨rfl, rfl, rfl, by decide +kernel, rfl, by decide +kernel, by decide +kernel⟩
abbrev s_chunk_at : Stmt := top 57
abbrev N_chunk_at : List Str := ["text", "place", "signs"]
theorem sc_chunk_at : FnScope N_chunk_at ["text", "place"] (defScope s_chunk_at) := ⟨rfl, rfl, rfl, by decide +kernel, rfl, by decide +kernel, by decide +kernel⟩
abbrev s_token_at : Stmt := top 58
abbrev N_token_at : List Str := ["text", "place", "chunk"]
theorem sc_token_at : FnScope N_token_at ["text", "place"] (defScope s_token_at) := ⟨rfl, rfl, rfl, by decide +kernel, rfl, by decide +kernel, by decide +kernel⟩
abbrev s_read_tokens : Stmt := top 59
abbrev N_read_tokens : List Str := ["text", "token", "tokens"]
theorem sc_read_tokens : FnScope N_read_tokens ["text"] (defScope s_read_tokens) := ⟨rfl, rfl, rfl, by decide +kernel, rfl, by decide +kernel, by decide +kernel⟩
abbrev s_Fault___init__ : Stmt := inClass (top 71) 0
abbrev N_Fault___init__ : List Str := ["self", "code", "place"]
theorem sc_Fault___init__ : FnScope N_Fault___init__ ["self", "code", "place"] (defScope s_Fault___init__) := ⟨rfl, rfl, rfl, by decide +kernel, rfl, by decide +kernel, by decide +kernel⟩
abbrev s_Word___init__ : Stmt := inClass (top 72) 0
abbrev N_Word___init__ : List Str := ["self", "chunk"]
theorem sc_Word___init__ : FnScope N_Word___init__ ["self", "chunk"] (defScope s_Word___init__) := ⟨rfl, rfl, rfl, by decide +kernel, rfl, by decide +kernel, by decide +kernel⟩
abbrev s_Listed___init__ : Stmt := inClass (top 73) 0
abbrev N_Listed___init__ : List Str := ["self"]
theorem sc_Listed___init__ : FnScope N_Listed___init__ ["self"] (defScope s_Listed___init__) := ⟨rfl, rfl, rfl, by decide +kernel, rfl, by decide +kernel, by decide +kernel⟩
abbrev s_ListReader___init__ : Stmt := inClass (top 74) 0
abbrev N_ListReader___init__ : List Str := ["self"]
theorem sc_ListReader___init__ : FnScope N_ListReader___init__ ["self"] (defScope s_ListReader___init__) := ⟨rfl, rfl, rfl, by decide +kernel, rfl, by decide +kernel, by decide +kernel⟩
abbrev s_ListReader_take : Stmt := inClass (top 74) 1
abbrev N_ListReader_take : List Str := ["self", "token"]
theorem sc_ListReader_take : FnScope N_ListReader_take ["self", "token"] (defScope s_ListReader_take) := ⟨rfl, rfl, rfl, by decide +kernel, rfl, by decide +kernel, by decide +kernel⟩
abbrev s_ListReader_take_start : Stmt := inClass (top 74) 2
abbrev N_ListReader_take_start : List Str := ["self", "token"]
theorem sc_ListReader_take_start : FnScope N_ListReader_take_start ["self", "token"] (defScope s_ListReader_take_start) := ⟨rfl, rfl, rfl, by decide +kernel, rfl, by decide +kernel, by decide +kernel⟩
abbrev s_ListReader_take_margin : Stmt := inClass (top 74) 3
abbrev N_ListReader_take_margin : List Str := ["self", "chunk"]
theorem sc_ListReader_take_margin : FnScope N_ListReader_take_margin ["self", "chunk"] (defScope s_ListReader_take_margin) := ⟨rfl, rfl, rfl, by decide +kernel, rfl, by decide +kernel, by decide +kernel⟩
abbrev s_ListReader_take_sign : Stmt := inClass (top 74) 4
abbrev N_ListReader_take_sign : List Str := ["self", "token"]
theorem sc_ListReader_take_sign : FnScope N_ListReader_take_sign ["self", "token"] (defScope s_ListReader_take_sign) := ⟨rfl, rfl, rfl, by decide +kernel, rfl, by decide +kernel, by decide +kernel⟩
abbrev s_ListReader_take_entry : Stmt := inClass (top 74) 5
abbrev N_ListReader_take_entry : List Str := ["self", "token"]
theorem sc_ListReader_take_entry : FnScope N_ListReader_take_entry ["self", "token"] (defScope s_ListReader_take_entry) := ⟨rfl, rfl, rfl, by decide +kernel, rfl, by decide +kernel, by decide +kernel⟩
abbrev s_ListReader_begin_entry : Stmt := inClass (top 74) 6
abbrev N_ListReader_begin_entry : List Str := ["self", "kind", "has_room"]
theorem sc_ListReader_begin_entry : FnScope N_ListReader_begin_entry ["self", "kind", "has_room"] (defScope s_ListReader_begin_entry) := ⟨rfl, rfl, rfl, by decide +kernel, rfl, by decide +kernel, by decide +kernel⟩
abbrev s_ListReader_take_word : Stmt := inClass (top 74) 7
abbrev N_ListReader_take_word : List Str := ["self", "chunk", "word"]
theorem sc_ListReader_take_word : FnScope N_ListReader_take_word ["self", "chunk"] (defScope s_ListReader_take_word) := ⟨rfl, rfl, rfl, by decide +kernel, rfl, by decide +kernel, by decide +kernel⟩
abbrev s_ListReader_take_pattern : Stmt := inClass (top 74) 8
abbrev N_ListReader_take_pattern : List Str := ["self", "chunk", "pattern"]
theorem sc_ListReader_take_pattern : FnScope N_ListReader_take_pattern ["self", "chunk"] (defScope s_ListReader_take_pattern) := ⟨rfl, rfl, rfl, by decide +kernel, rfl, by decide +kernel, by decide +kernel⟩
abbrev s_read_list : Stmt := top 75
abbrev N_read_list : List Str := ["text", "tokens", "reader", "token", "code"]
theorem sc_read_list : FnScope N_read_list ["text"] (defScope s_read_list) := ⟨rfl, rfl, rfl, by decide +kernel, rfl, by decide +kernel, by decide +kernel⟩
abbrev s_is_piece : Stmt := top 80
abbrev N_is_piece : List Str := ["pieces", "number"]
theorem sc_is_piece : FnScope N_is_piece ["pieces", "number"] (defScope s_is_piece) := ⟨rfl, rfl, rfl, by decide +kernel, rfl, by decide +kernel, by decide +kernel⟩
abbrev s_told_choice : Stmt := top 81
abbrev N_told_choice : List Str := ["choice"]
theorem sc_told_choice : FnScope N_told_choice ["choice"] (defScope s_told_choice) := ⟨rfl, rfl, rfl, by decide +kernel, rfl, by decide +kernel, by decide +kernel⟩
abbrev s_Holder___init__ : Stmt := inClass (top 82) 0
abbrev N_Holder___init__ : List Str := ["self"]
theorem sc_Holder___init__ : FnScope N_Holder___init__ ["self"] (defScope s_Holder___init__) := ⟨rfl, rfl, rfl, by decide +kernel, rfl, by decide +kernel, by decide +kernel⟩
abbrev s_Holder_load : Stmt := inClass (top 82) 1
abbrev N_Holder_load : List Str := ["self", "text", "reading"]
theorem sc_Holder_load : FnScope N_Holder_load ["self", "text"] (defScope s_Holder_load) := ⟨rfl, rfl, rfl, by decide +kernel, rfl, by decide +kernel, by decide +kernel⟩
abbrev s_Holder_goals : Stmt := inClass (top 82) 2
abbrev N_Holder_goals : List Str := ["self", "goals", "answer", "goal"]
theorem sc_Holder_goals : FnScope N_Holder_goals ["self"] (defScope s_Holder_goals) := ⟨rfl, rfl, rfl, by decide +kernel, rfl, by decide +kernel, by decide +kernel⟩
abbrev s_Holder_family : Stmt := inClass (top 82) 3
abbrev N_Holder_family : List Str := ["self", "longest", "refused", "pieces"]
theorem sc_Holder_family : FnScope N_Holder_family ["self", "longest"] (defScope s_Holder_family) := ⟨rfl, rfl, rfl, by decide +kernel, rfl, by decide +kernel, by decide +kernel⟩
abbrev s_Holder_piece : Stmt := inClass (top 82) 4
abbrev N_Holder_piece : List Str := ["self", "longest", "number", "refused", "pieces", "chunk", "covered", "sign"]
theorem sc_Holder_piece : FnScope N_Holder_piece ["self", "longest", "number"] (defScope s_Holder_piece) := ⟨rfl, rfl, rfl, by decide +kernel, rfl, by decide +kernel, by decide +kernel⟩
abbrev s_Holder_least : Stmt := inClass (top 82) 5
abbrev N_Holder_least : List Str := ["self", "longest", "kind", "refused", "goals", "pieces"]
theorem sc_Holder_least : FnScope N_Holder_least ["self", "longest", "kind"] (defScope s_Holder_least) := ⟨rfl, rfl, rfl, by decide +kernel, rfl, by decide +kernel, by decide +kernel⟩
abbrev s_Holder_greedy : Stmt := inClass (top 82) 6
abbrev N_Holder_greedy : List Str := ["self", "longest", "refused", "pieces"]
theorem sc_Holder_greedy : FnScope N_Holder_greedy ["self", "longest"] (defScope s_Holder_greedy) := ⟨rfl, rfl, rfl, by decide +kernel, rfl, by decide +kernel, by decide +kernel⟩
abbrev s_Holder_bound : Stmt := inClass (top 82) 7
abbrev N_Holder_bound : List Str := ["self", "longest", "refused", "goals", "apart"]
theorem sc_Holder_bound : FnScope N_Holder_bound ["self", "longest"] (defScope s_Holder_bound) := ⟨rfl, rfl, rfl, by decide +kernel, rfl, by decide +kernel, by decide +kernel⟩
abbrev s_Holder_check : Stmt := inClass (top 82) 8
abbrev N_Holder_check : List Str := ["self", "longest", "numbers", "refused", "pieces", "chosen", "number"]
theorem sc_Holder_check : FnScope N_Holder_check ["self", "longest", "numbers"] (defScope s_Holder_check) := ⟨rfl, rfl, rfl, by decide +kernel, rfl, by decide +kernel, by decide +kernel⟩
abbrev s_Holder_refusal : Stmt := inClass (top 82) 9
abbrev N_Holder_refusal : List Str := ["self", "longest"]
theorem sc_Holder_refusal : FnScope N_Holder_refusal ["self", "longest"] (defScope s_Holder_refusal) := ⟨rfl, rfl, rfl, by decide +kernel, rfl, by decide +kernel, by decide +kernel⟩
abbrev s_Holder_uncovered : Stmt := inClass (top 82) 10
abbrev N_Holder_uncovered : List Str := ["self", "pieces", "goals", "number"]
theorem sc_Holder_uncovered : FnScope N_Holder_uncovered ["self", "pieces"] (defScope s_Holder_uncovered) := ⟨rfl, rfl, rfl, by decide +kernel, rfl, by decide +kernel, by decide +kernel⟩
abbrev s_call_end : Stmt := top 93
abbrev N_call_end : List Str := ["calls", "start", "call"]
theorem sc_call_end : FnScope N_call_end ["calls", "start"] (defScope s_call_end) := ⟨rfl, rfl, rfl, by decide +kernel, rfl, by decide +kernel, by decide +kernel⟩
abbrev s_answer_call : Stmt := top 94
abbrev N_answer_call : List Str := ["holder", "call"]
theorem sc_answer_call : FnScope N_answer_call ["holder", "call"] (defScope s_answer_call) := ⟨rfl, rfl, rfl, by decide +kernel, rfl, by decide +kernel, by decide +kernel⟩
abbrev s_answers : Stmt := top 95
abbrev N_answers : List Str := ["calls", "holder", "told", "start", "end", "answer"]
theorem sc_answers : FnScope N_answers ["calls"] (defScope s_answers) := ⟨rfl, rfl, rfl, by decide +kernel, rfl, by decide +kernel, by decide +kernel⟩
/-- what isinstance needs of two classes, the first the one asked for -/
structure IsoF (K : PySem.W.Frag) (F L : Addr) : Prop where
  ff : PySem.W.kitOne K (.ref F) (.ref F) = some true
  lf : PySem.W.kitOne K (.ref L) (.ref F) = some false
  aF : PySem.W.findIn K (.ref F) "__class__" = some (some (.builtin "object.__class__"))
  aL : PySem.W.findIn K (.ref L) "__class__" = some (some (.builtin "object.__class__"))
  mF : PySem.W.mroIn K F (.type "object") = some true
  mL : PySem.W.mroIn K L (.type "object") = some true
  sp : PySem.W.specialIn K (.builtin "object.__class__") "__get__" = some (some (.builtin "getset_descriptor.__get__"))
  tk : PySem.W.takesIn K (.builtin "object.__class__") = some true
structure TX (K : PySem.W.Frag) (mg : Str → Option Value) where
  f_joined_pairs : Addr
  d_joined_pairs : FuncData
  m_joined_pairs : mg "joined_pairs" = some (.ref f_joined_pairs)
  F_joined_pairs : Fun K "joined_pairs" "joined_pairs" s_joined_pairs f_joined_pairs d_joined_pairs
  b_joined_pairs : Binds K d_joined_pairs ["pieces", "goal_count"] []
  f_are_apart : Addr
  d_are_apart : FuncData
  m_are_apart : mg "are_apart" = some (.ref f_are_apart)
  F_are_apart : Fun K "are_apart" "are_apart" s_are_apart f_are_apart d_are_apart
  b_are_apart : Binds K d_are_apart ["pairs", "goals"] []
  f_goals_by_number : Addr
  d_goals_by_number : FuncData
  m_goals_by_number : mg "goals_by_number" = some (.ref f_goals_by_number)
  F_goals_by_number : Fun K "goals_by_number" "goals_by_number" s_goals_by_number f_goals_by_number d_goals_by_number
  b_goals_by_number : Binds K d_goals_by_number ["number", "goal_count"] []
  f_greatest_apart : Addr
  d_greatest_apart : FuncData
  m_greatest_apart : mg "greatest_apart" = some (.ref f_greatest_apart)
  F_greatest_apart : Fun K "greatest_apart" "greatest_apart" s_greatest_apart f_greatest_apart d_greatest_apart
  b_greatest_apart : Binds K d_greatest_apart ["pieces", "goal_count"] []
  f_is_within_margins : Addr
  d_is_within_margins : FuncData
  m_is_within_margins : mg "is_within_margins" = some (.ref f_is_within_margins)
  F_is_within_margins : Fun K "is_within_margins" "is_within_margins" s_is_within_margins f_is_within_margins d_is_within_margins
  b_is_within_margins : Binds K d_is_within_margins ["margins", "letters", "gap"] []
  f_fits : Addr
  d_fits : FuncData
  m_fits : mg "fits" = some (.ref f_fits)
  F_fits : Fun K "fits" "fits" s_fits f_fits d_fits
  b_fits : Binds K d_fits ["piece", "letters", "place"] []
  f_parted_gaps : Addr
  d_parted_gaps : FuncData
  m_parted_gaps : mg "parted_gaps" = some (.ref f_parted_gaps)
  F_parted_gaps : Fun K "parted_gaps" "parted_gaps" s_parted_gaps f_parted_gaps d_parted_gaps
  b_parted_gaps : Binds K d_parted_gaps ["margins", "piece", "letters"] []
  f_goals_of : Addr
  d_goals_of : FuncData
  m_goals_of : mg "goals_of" = some (.ref f_goals_of)
  F_goals_of : Fun K "goals_of" "goals_of" s_goals_of f_goals_of d_goals_of
  b_goals_of : Binds K d_goals_of ["listed"] []
  f_pointed_pieces : Addr
  d_pointed_pieces : FuncData
  m_pointed_pieces : mg "pointed_pieces" = some (.ref f_pointed_pieces)
  F_pointed_pieces : Fun K "pointed_pieces" "pointed_pieces" s_pointed_pieces f_pointed_pieces d_pointed_pieces
  b_pointed_pieces : Binds K d_pointed_pieces ["letters", "gap", "place", "length"] []
  f_pieces_around : Addr
  d_pieces_around : FuncData
  m_pieces_around : mg "pieces_around" = some (.ref f_pieces_around)
  F_pieces_around : Fun K "pieces_around" "pieces_around" s_pieces_around f_pieces_around d_pieces_around
  b_pieces_around : Binds K d_pieces_around ["letters", "gap", "longest"] []
  f_is_good : Addr
  d_is_good : FuncData
  m_is_good : mg "is_good" = some (.ref f_is_good)
  F_is_good : Fun K "is_good" "is_good" s_is_good f_is_good d_is_good
  b_is_good : Binds K d_is_good ["listed", "piece"] []
  f_covered_goals : Addr
  d_covered_goals : FuncData
  m_covered_goals : mg "covered_goals" = some (.ref f_covered_goals)
  F_covered_goals : Fun K "covered_goals" "covered_goals" s_covered_goals f_covered_goals d_covered_goals
  b_covered_goals : Binds K d_covered_goals ["listed", "goals", "piece"] []
  f_family_up_to : Addr
  d_family_up_to : FuncData
  m_family_up_to : mg "family_up_to" = some (.ref f_family_up_to)
  F_family_up_to : Fun K "family_up_to" "family_up_to" s_family_up_to f_family_up_to d_family_up_to
  b_family_up_to : Binds K d_family_up_to ["listed", "longest"] []
  f_used_pieces : Addr
  d_used_pieces : FuncData
  m_used_pieces : mg "used_pieces" = some (.ref f_used_pieces)
  F_used_pieces : Fun K "used_pieces" "used_pieces" s_used_pieces f_used_pieces d_used_pieces
  b_used_pieces : Binds K d_used_pieces ["pieces"] []
  f_first_uncovered : Addr
  d_first_uncovered : FuncData
  m_first_uncovered : mg "first_uncovered" = some (.ref f_first_uncovered)
  F_first_uncovered : Fun K "first_uncovered" "first_uncovered" s_first_uncovered f_first_uncovered d_first_uncovered
  b_first_uncovered : Binds K d_first_uncovered ["goals", "pieces"] []
  f_is_exact : Addr
  d_is_exact : FuncData
  m_is_exact : mg "is_exact" = some (.ref f_is_exact)
  F_is_exact : Fun K "is_exact" "is_exact" s_is_exact f_is_exact d_is_exact
  b_is_exact : Binds K d_is_exact ["goals", "pieces"] []
  f_goal_bits : Addr
  d_goal_bits : FuncData
  m_goal_bits : mg "goal_bits" = some (.ref f_goal_bits)
  F_goal_bits : Fun K "goal_bits" "goal_bits" s_goal_bits f_goal_bits d_goal_bits
  b_goal_bits : Binds K d_goal_bits ["goals"] []
  f_lowest_uncovered : Addr
  d_lowest_uncovered : FuncData
  m_lowest_uncovered : mg "lowest_uncovered" = some (.ref f_lowest_uncovered)
  F_lowest_uncovered : Fun K "lowest_uncovered" "lowest_uncovered" s_lowest_uncovered f_lowest_uncovered d_lowest_uncovered
  b_lowest_uncovered : Binds K d_lowest_uncovered ["covered"] []
  f_used_by_goal : Addr
  d_used_by_goal : FuncData
  m_used_by_goal : mg "used_by_goal" = some (.ref f_used_by_goal)
  F_used_by_goal : Fun K "used_by_goal" "used_by_goal" s_used_by_goal f_used_by_goal d_used_by_goal
  b_used_by_goal : Binds K d_used_by_goal ["pieces", "goal_count"] []
  f_least_choice : Addr
  d_least_choice : FuncData
  m_least_choice : mg "least_choice" = some (.ref f_least_choice)
  F_least_choice : Fun K "least_choice" "least_choice" s_least_choice f_least_choice d_least_choice
  b_least_choice : Binds K d_least_choice ["choices", "kind"] []
  f_least_set : Addr
  d_least_set : FuncData
  m_least_set : mg "least_set" = some (.ref f_least_set)
  F_least_set : Fun K "least_set" "least_set" s_least_set f_least_set d_least_set
  b_least_set : Binds K d_least_set ["pieces", "goal_count", "kind"] []
  f_most_covering : Addr
  d_most_covering : FuncData
  m_most_covering : mg "most_covering" = some (.ref f_most_covering)
  F_most_covering : Fun K "most_covering" "most_covering" s_most_covering f_most_covering d_most_covering
  b_most_covering : Binds K d_most_covering ["pieces", "covered"] []
  f_greedy_set : Addr
  d_greedy_set : FuncData
  m_greedy_set : mg "greedy_set" = some (.ref f_greedy_set)
  F_greedy_set : Fun K "greedy_set" "greedy_set" s_greedy_set f_greedy_set d_greedy_set
  b_greedy_set : Binds K d_greedy_set ["pieces"] []
  f_is_margin : Addr
  d_is_margin : FuncData
  m_is_margin : mg "is_margin" = some (.ref f_is_margin)
  F_is_margin : Fun K "is_margin" "is_margin" s_is_margin f_is_margin d_is_margin
  b_is_margin : Binds K d_is_margin ["chunk"] []
  f_word_letters : Addr
  d_word_letters : FuncData
  m_word_letters : mg "word_letters" = some (.ref f_word_letters)
  F_word_letters : Fun K "word_letters" "word_letters" s_word_letters f_word_letters d_word_letters
  b_word_letters : Binds K d_word_letters ["chunk"] []
  f_is_word : Addr
  d_is_word : FuncData
  m_is_word : mg "is_word" = some (.ref f_is_word)
  F_is_word : Fun K "is_word" "is_word" s_is_word f_is_word d_is_word
  b_is_word : Binds K d_is_word ["chunk"] []
  f_word_breaks : Addr
  d_word_breaks : FuncData
  m_word_breaks : mg "word_breaks" = some (.ref f_word_breaks)
  F_word_breaks : Fun K "word_breaks" "word_breaks" s_word_breaks f_word_breaks d_word_breaks
  b_word_breaks : Binds K d_word_breaks ["chunk"] []
  f_without_points : Addr
  d_without_points : FuncData
  m_without_points : mg "without_points" = some (.ref f_without_points)
  F_without_points : Fun K "without_points" "without_points" s_without_points f_without_points d_without_points
  b_without_points : Binds K d_without_points ["chunk"] []
  f_without_digits : Addr
  d_without_digits : FuncData
  m_without_digits : mg "without_digits" = some (.ref f_without_digits)
  F_without_digits : Fun K "without_digits" "without_digits" s_without_digits f_without_digits d_without_digits
  b_without_digits : Binds K d_without_digits ["chunk"] []
  f_has_digits_side_by_side : Addr
  d_has_digits_side_by_side : FuncData
  m_has_digits_side_by_side : mg "has_digits_side_by_side" = some (.ref f_has_digits_side_by_side)
  F_has_digits_side_by_side : Fun K "has_digits_side_by_side" "has_digits_side_by_side" s_has_digits_side_by_side f_has_digits_side_by_side d_has_digits_side_by_side
  b_has_digits_side_by_side : Binds K d_has_digits_side_by_side ["body"] []
  f_is_pattern : Addr
  d_is_pattern : FuncData
  m_is_pattern : mg "is_pattern" = some (.ref f_is_pattern)
  F_is_pattern : Fun K "is_pattern" "is_pattern" s_is_pattern f_is_pattern d_is_pattern
  b_is_pattern : Binds K d_is_pattern ["chunk"] []
  f_is_blank : Addr
  d_is_blank : FuncData
  m_is_blank : mg "is_blank" = some (.ref f_is_blank)
  F_is_blank : Fun K "is_blank" "is_blank" s_is_blank f_is_blank d_is_blank
  b_is_blank : Binds K d_is_blank ["byte"] []
  f_chunk_sign : Addr
  d_chunk_sign : FuncData
  m_chunk_sign : mg "chunk_sign" = some (.ref f_chunk_sign)
  F_chunk_sign : Fun K "chunk_sign" "chunk_sign" s_chunk_sign f_chunk_sign d_chunk_sign
  b_chunk_sign : Binds K d_chunk_sign ["byte"] []
  f_remark_end : Addr
  d_remark_end : FuncData
  m_remark_end : mg "remark_end" = some (.ref f_remark_end)
  F_remark_end : Fun K "remark_end" "remark_end" s_remark_end f_remark_end d_remark_end
  b_remark_end : Binds K d_remark_end ["text", "place"] []
  f_skip_blanks : Addr
  d_skip_blanks : FuncData
  m_skip_blanks : mg "skip_blanks" = some (.ref f_skip_blanks)
  F_skip_blanks : Fun K "skip_blanks" "skip_blanks" s_skip_blanks f_skip_blanks d_skip_blanks
  b_skip_blanks : Binds K d_skip_blanks ["text", "place"] []
  f_chunk_at : Addr
  d_chunk_at : FuncData
  m_chunk_at : mg "chunk_at" = some (.ref f_chunk_at)
  F_chunk_at : Fun K "chunk_at" "chunk_at" s_chunk_at f_chunk_at d_chunk_at
  b_chunk_at : Binds K d_chunk_at ["text", "place"] []
  f_token_at : Addr
  d_token_at : FuncData
  m_token_at : mg "token_at" = some (.ref f_token_at)
  F_token_at : Fun K "token_at" "token_at" s_token_at f_token_at d_token_at
  b_token_at : Binds K d_token_at ["text", "place"] []
  f_read_tokens : Addr
  d_read_tokens : FuncData
  m_read_tokens : mg "read_tokens" = some (.ref f_read_tokens)
  F_read_tokens : Fun K "read_tokens" "read_tokens" s_read_tokens f_read_tokens d_read_tokens
  b_read_tokens : Binds K d_read_tokens ["text"] []
  f_read_list : Addr
  d_read_list : FuncData
  m_read_list : mg "read_list" = some (.ref f_read_list)
  F_read_list : Fun K "read_list" "read_list" s_read_list f_read_list d_read_list
  b_read_list : Binds K d_read_list ["text"] []
  f_is_piece : Addr
  d_is_piece : FuncData
  m_is_piece : mg "is_piece" = some (.ref f_is_piece)
  F_is_piece : Fun K "is_piece" "is_piece" s_is_piece f_is_piece d_is_piece
  b_is_piece : Binds K d_is_piece ["pieces", "number"] []
  f_told_choice : Addr
  d_told_choice : FuncData
  m_told_choice : mg "told_choice" = some (.ref f_told_choice)
  F_told_choice : Fun K "told_choice" "told_choice" s_told_choice f_told_choice d_told_choice
  b_told_choice : Binds K d_told_choice ["choice"] []
  f_call_end : Addr
  d_call_end : FuncData
  m_call_end : mg "call_end" = some (.ref f_call_end)
  F_call_end : Fun K "call_end" "call_end" s_call_end f_call_end d_call_end
  b_call_end : Binds K d_call_end ["calls", "start"] []
  f_answer_call : Addr
  d_answer_call : FuncData
  m_answer_call : mg "answer_call" = some (.ref f_answer_call)
  F_answer_call : Fun K "answer_call" "answer_call" s_answer_call f_answer_call d_answer_call
  b_answer_call : Binds K d_answer_call ["holder", "call"] []
  f_answers : Addr
  d_answers : FuncData
  m_answers : mg "answers" = some (.ref f_answers)
  F_answers : Fun K "answers" "answers" s_answers f_answers d_answers
  b_answers : Binds K d_answers ["calls"] []
  C_Goal : Addr
  m_Goal : mg "Goal" = some (.ref C_Goal)
  cl_Goal : Cls K C_Goal
  n_Goal_word : NoAttr K C_Goal "word"
  n_Goal_gap : NoAttr K C_Goal "gap"
  f_Goal___init__ : Addr
  d_Goal___init__ : FuncData
  F_Goal___init__ : Fun K "__init__" "Goal.__init__" s_Goal___init__ f_Goal___init__ d_Goal___init__
  b_Goal___init__ : Binds K d_Goal___init__ ["self", "word", "gap"] []
  M_Goal : Mk K C_Goal f_Goal___init__
  C_Piece : Addr
  m_Piece : mg "Piece" = some (.ref C_Piece)
  cl_Piece : Cls K C_Piece
  n_Piece_letters : NoAttr K C_Piece "letters"
  n_Piece_before : NoAttr K C_Piece "before"
  n_Piece_first_point : NoAttr K C_Piece "first_point"
  n_Piece_last_point : NoAttr K C_Piece "last_point"
  n_Piece_chunk : NoAttr K C_Piece "chunk"
  n_Piece_covered : NoAttr K C_Piece "covered"
  f_Piece___init__ : Addr
  d_Piece___init__ : FuncData
  F_Piece___init__ : Fun K "__init__" "Piece.__init__" s_Piece___init__ f_Piece___init__ d_Piece___init__
  b_Piece___init__ : Binds K d_Piece___init__ ["self", "letters", "before", "first_point", "last_point"] []
  M_Piece : Mk K C_Piece f_Piece___init__
  C_Choice : Addr
  m_Choice : mg "Choice" = some (.ref C_Choice)
  cl_Choice : Cls K C_Choice
  n_Choice_numbers : NoAttr K C_Choice "numbers"
  n_Choice_size : NoAttr K C_Choice "size"
  f_Choice___init__ : Addr
  d_Choice___init__ : FuncData
  F_Choice___init__ : Fun K "__init__" "Choice.__init__" s_Choice___init__ f_Choice___init__ d_Choice___init__
  b_Choice___init__ : Binds K d_Choice___init__ ["self", "numbers", "size"] []
  M_Choice : Mk K C_Choice f_Choice___init__
  f_Choice_rank : Addr
  d_Choice_rank : FuncData
  F_Choice_rank : Fun K "rank" "Choice.rank" s_Choice_rank f_Choice_rank d_Choice_rank
  b_Choice_rank : Binds K d_Choice_rank ["self", "kind"] []
  mm_Choice_rank : Meth K C_Choice "rank" f_Choice_rank
  C_Token : Addr
  m_Token : mg "Token" = some (.ref C_Token)
  cl_Token : Cls K C_Token
  n_Token_text : NoAttr K C_Token "text"
  n_Token_place : NoAttr K C_Token "place"
  f_Token___init__ : Addr
  d_Token___init__ : FuncData
  F_Token___init__ : Fun K "__init__" "Token.__init__" s_Token___init__ f_Token___init__ d_Token___init__
  b_Token___init__ : Binds K d_Token___init__ ["self", "text", "place"] []
  M_Token : Mk K C_Token f_Token___init__
  f_Token_is_chunk : Addr
  d_Token_is_chunk : FuncData
  F_Token_is_chunk : Fun K "is_chunk" "Token.is_chunk" s_Token_is_chunk f_Token_is_chunk d_Token_is_chunk
  b_Token_is_chunk : Binds K d_Token_is_chunk ["self"] []
  mm_Token_is_chunk : Meth K C_Token "is_chunk" f_Token_is_chunk
  C_Fault : Addr
  m_Fault : mg "Fault" = some (.ref C_Fault)
  cl_Fault : Cls K C_Fault
  n_Fault_code : NoAttr K C_Fault "code"
  n_Fault_place : NoAttr K C_Fault "place"
  f_Fault___init__ : Addr
  d_Fault___init__ : FuncData
  F_Fault___init__ : Fun K "__init__" "Fault.__init__" s_Fault___init__ f_Fault___init__ d_Fault___init__
  b_Fault___init__ : Binds K d_Fault___init__ ["self", "code", "place"] []
  M_Fault : Mk K C_Fault f_Fault___init__
  C_Word : Addr
  m_Word : mg "Word" = some (.ref C_Word)
  cl_Word : Cls K C_Word
  n_Word_letters : NoAttr K C_Word "letters"
  n_Word_breaks : NoAttr K C_Word "breaks"
  f_Word___init__ : Addr
  d_Word___init__ : FuncData
  F_Word___init__ : Fun K "__init__" "Word.__init__" s_Word___init__ f_Word___init__ d_Word___init__
  b_Word___init__ : Binds K d_Word___init__ ["self", "chunk"] []
  M_Word : Mk K C_Word f_Word___init__
  C_Listed : Addr
  m_Listed : mg "Listed" = some (.ref C_Listed)
  cl_Listed : Cls K C_Listed
  n_Listed_margins : NoAttr K C_Listed "margins"
  n_Listed_words : NoAttr K C_Listed "words"
  n_Listed_patterns : NoAttr K C_Listed "patterns"
  f_Listed___init__ : Addr
  d_Listed___init__ : FuncData
  F_Listed___init__ : Fun K "__init__" "Listed.__init__" s_Listed___init__ f_Listed___init__ d_Listed___init__
  b_Listed___init__ : Binds K d_Listed___init__ ["self"] []
  M_Listed : Mk K C_Listed f_Listed___init__
  C_ListReader : Addr
  m_ListReader : mg "ListReader" = some (.ref C_ListReader)
  cl_ListReader : Cls K C_ListReader
  n_ListReader_listed : NoAttr K C_ListReader "listed"
  n_ListReader_awaited : NoAttr K C_ListReader "awaited"
  f_ListReader___init__ : Addr
  d_ListReader___init__ : FuncData
  F_ListReader___init__ : Fun K "__init__" "ListReader.__init__" s_ListReader___init__ f_ListReader___init__ d_ListReader___init__
  b_ListReader___init__ : Binds K d_ListReader___init__ ["self"] []
  M_ListReader : Mk K C_ListReader f_ListReader___init__
  f_ListReader_take : Addr
  d_ListReader_take : FuncData
  F_ListReader_take : Fun K "take" "ListReader.take" s_ListReader_take f_ListReader_take d_ListReader_take
  b_ListReader_take : Binds K d_ListReader_take ["self", "token"] []
  mm_ListReader_take : Meth K C_ListReader "take" f_ListReader_take
  f_ListReader_take_start : Addr
  d_ListReader_take_start : FuncData
  F_ListReader_take_start : Fun K "take_start" "ListReader.take_start" s_ListReader_take_start f_ListReader_take_start d_ListReader_take_start
  b_ListReader_take_start : Binds K d_ListReader_take_start ["self", "token"] []
  mm_ListReader_take_start : Meth K C_ListReader "take_start" f_ListReader_take_start
  f_ListReader_take_margin : Addr
  d_ListReader_take_margin : FuncData
  F_ListReader_take_margin : Fun K "take_margin" "ListReader.take_margin" s_ListReader_take_margin f_ListReader_take_margin d_ListReader_take_margin
  b_ListReader_take_margin : Binds K d_ListReader_take_margin ["self", "chunk"] []
  mm_ListReader_take_margin : Meth K C_ListReader "take_margin" f_ListReader_take_margin
  f_ListReader_take_sign : Addr
  d_ListReader_take_sign : FuncData
  F_ListReader_take_sign : Fun K "take_sign" "ListReader.take_sign" s_ListReader_take_sign f_ListReader_take_sign d_ListReader_take_sign
  b_ListReader_take_sign : Binds K d_ListReader_take_sign ["self", "token"] []
  mm_ListReader_take_sign : Meth K C_ListReader "take_sign" f_ListReader_take_sign
  f_ListReader_take_entry : Addr
  d_ListReader_take_entry : FuncData
  F_ListReader_take_entry : Fun K "take_entry" "ListReader.take_entry" s_ListReader_take_entry f_ListReader_take_entry d_ListReader_take_entry
  b_ListReader_take_entry : Binds K d_ListReader_take_entry ["self", "token"] []
  mm_ListReader_take_entry : Meth K C_ListReader "take_entry" f_ListReader_take_entry
  f_ListReader_begin_entry : Addr
  d_ListReader_begin_entry : FuncData
  F_ListReader_begin_entry : Fun K "begin_entry" "ListReader.begin_entry" s_ListReader_begin_entry f_ListReader_begin_entry d_ListReader_begin_entry
  b_ListReader_begin_entry : Binds K d_ListReader_begin_entry ["self", "kind", "has_room"] []
  mm_ListReader_begin_entry : Meth K C_ListReader "begin_entry" f_ListReader_begin_entry
  f_ListReader_take_word : Addr
  d_ListReader_take_word : FuncData
  F_ListReader_take_word : Fun K "take_word" "ListReader.take_word" s_ListReader_take_word f_ListReader_take_word d_ListReader_take_word
  b_ListReader_take_word : Binds K d_ListReader_take_word ["self", "chunk"] []
  mm_ListReader_take_word : Meth K C_ListReader "take_word" f_ListReader_take_word
  f_ListReader_take_pattern : Addr
  d_ListReader_take_pattern : FuncData
  F_ListReader_take_pattern : Fun K "take_pattern" "ListReader.take_pattern" s_ListReader_take_pattern f_ListReader_take_pattern d_ListReader_take_pattern
  b_ListReader_take_pattern : Binds K d_ListReader_take_pattern ["self", "chunk"] []
  mm_ListReader_take_pattern : Meth K C_ListReader "take_pattern" f_ListReader_take_pattern
  C_Holder : Addr
  m_Holder : mg "Holder" = some (.ref C_Holder)
  cl_Holder : Cls K C_Holder
  n_Holder_listed : NoAttr K C_Holder "listed"
  f_Holder___init__ : Addr
  d_Holder___init__ : FuncData
  F_Holder___init__ : Fun K "__init__" "Holder.__init__" s_Holder___init__ f_Holder___init__ d_Holder___init__
  b_Holder___init__ : Binds K d_Holder___init__ ["self"] []
  M_Holder : Mk K C_Holder f_Holder___init__
  f_Holder_load : Addr
  d_Holder_load : FuncData
  F_Holder_load : Fun K "load" "Holder.load" s_Holder_load f_Holder_load d_Holder_load
  b_Holder_load : Binds K d_Holder_load ["self", "text"] []
  mm_Holder_load : Meth K C_Holder "load" f_Holder_load
  f_Holder_goals : Addr
  d_Holder_goals : FuncData
  F_Holder_goals : Fun K "goals" "Holder.goals" s_Holder_goals f_Holder_goals d_Holder_goals
  b_Holder_goals : Binds K d_Holder_goals ["self"] []
  mm_Holder_goals : Meth K C_Holder "goals" f_Holder_goals
  f_Holder_family : Addr
  d_Holder_family : FuncData
  F_Holder_family : Fun K "family" "Holder.family" s_Holder_family f_Holder_family d_Holder_family
  b_Holder_family : Binds K d_Holder_family ["self", "longest"] []
  mm_Holder_family : Meth K C_Holder "family" f_Holder_family
  f_Holder_piece : Addr
  d_Holder_piece : FuncData
  F_Holder_piece : Fun K "piece" "Holder.piece" s_Holder_piece f_Holder_piece d_Holder_piece
  b_Holder_piece : Binds K d_Holder_piece ["self", "longest", "number"] []
  mm_Holder_piece : Meth K C_Holder "piece" f_Holder_piece
  f_Holder_least : Addr
  d_Holder_least : FuncData
  F_Holder_least : Fun K "least" "Holder.least" s_Holder_least f_Holder_least d_Holder_least
  b_Holder_least : Binds K d_Holder_least ["self", "longest", "kind"] []
  mm_Holder_least : Meth K C_Holder "least" f_Holder_least
  f_Holder_greedy : Addr
  d_Holder_greedy : FuncData
  F_Holder_greedy : Fun K "greedy" "Holder.greedy" s_Holder_greedy f_Holder_greedy d_Holder_greedy
  b_Holder_greedy : Binds K d_Holder_greedy ["self", "longest"] []
  mm_Holder_greedy : Meth K C_Holder "greedy" f_Holder_greedy
  f_Holder_bound : Addr
  d_Holder_bound : FuncData
  F_Holder_bound : Fun K "bound" "Holder.bound" s_Holder_bound f_Holder_bound d_Holder_bound
  b_Holder_bound : Binds K d_Holder_bound ["self", "longest"] []
  mm_Holder_bound : Meth K C_Holder "bound" f_Holder_bound
  f_Holder_check : Addr
  d_Holder_check : FuncData
  F_Holder_check : Fun K "check" "Holder.check" s_Holder_check f_Holder_check d_Holder_check
  b_Holder_check : Binds K d_Holder_check ["self", "longest", "numbers"] []
  mm_Holder_check : Meth K C_Holder "check" f_Holder_check
  f_Holder_refusal : Addr
  d_Holder_refusal : FuncData
  F_Holder_refusal : Fun K "refusal" "Holder.refusal" s_Holder_refusal f_Holder_refusal d_Holder_refusal
  b_Holder_refusal : Binds K d_Holder_refusal ["self", "longest"] []
  mm_Holder_refusal : Meth K C_Holder "refusal" f_Holder_refusal
  f_Holder_uncovered : Addr
  d_Holder_uncovered : FuncData
  F_Holder_uncovered : Fun K "uncovered" "Holder.uncovered" s_Holder_uncovered f_Holder_uncovered d_Holder_uncovered
  b_Holder_uncovered : Binds K d_Holder_uncovered ["self", "pieces"] []
  mm_Holder_uncovered : Meth K C_Holder "uncovered" f_Holder_uncovered
  t_FEWEST_PIECES : Tok
  c_FEWEST_PIECES : mg "FEWEST_PIECES" = some (.int 0 t_FEWEST_PIECES)
  t_FEWEST_BYTES : Tok
  c_FEWEST_BYTES : mg "FEWEST_BYTES" = some (.int 1 t_FEWEST_BYTES)
  t_MOST_MARGIN : Tok
  c_MOST_MARGIN : mg "MOST_MARGIN" = some (.int 5 t_MOST_MARGIN)
  t_LEAST_WORD_LETTERS : Tok
  c_LEAST_WORD_LETTERS : mg "LEAST_WORD_LETTERS" = some (.int 2 t_LEAST_WORD_LETTERS)
  t_MOST_WORD_LETTERS : Tok
  c_MOST_WORD_LETTERS : mg "MOST_WORD_LETTERS" = some (.int 16 t_MOST_WORD_LETTERS)
  t_MOST_PATTERN_LETTERS : Tok
  c_MOST_PATTERN_LETTERS : mg "MOST_PATTERN_LETTERS" = some (.int 6 t_MOST_PATTERN_LETTERS)
  t_LETTERS : Tok
  c_LETTERS : mg "LETTERS" = some (.str "abcdefghijklmnopqrstuvwxyz" t_LETTERS)
  t_DIGITS : Tok
  c_DIGITS : mg "DIGITS" = some (.str "0123456789" t_DIGITS)
  t_MOST_CHUNK_BYTES : Tok
  c_MOST_CHUNK_BYTES : mg "MOST_CHUNK_BYTES" = some (.int 40 t_MOST_CHUNK_BYTES)
  t_SIGN : Tok
  c_SIGN : mg "SIGN" = some (.str ";" t_SIGN)
  t_END : Tok
  c_END : mg "END" = some (.str "" t_END)
  t_NO_TOKEN : Tok
  c_NO_TOKEN : mg "NO_TOKEN" = some (.str "?" t_NO_TOKEN)
  t_MOST_BYTES : Tok
  c_MOST_BYTES : mg "MOST_BYTES" = some (.int 4096 t_MOST_BYTES)
  t_MOST_WORDS : Tok
  c_MOST_WORDS : mg "MOST_WORDS" = some (.int 24 t_MOST_WORDS)
  t_MOST_PATTERNS : Tok
  c_MOST_PATTERNS : mg "MOST_PATTERNS" = some (.int 40 t_MOST_PATTERNS)
  t_NO_FAULT : Tok
  c_NO_FAULT : mg "NO_FAULT" = some (.int 0 t_NO_FAULT)
  t_FAULT_TOO_LONG : Tok
  c_FAULT_TOO_LONG : mg "FAULT_TOO_LONG" = some (.int 1 t_FAULT_TOO_LONG)
  t_FAULT_NO_TOKEN : Tok
  c_FAULT_NO_TOKEN : mg "FAULT_NO_TOKEN" = some (.int 2 t_FAULT_NO_TOKEN)
  t_FAULT_NOT_ALLOWED : Tok
  c_FAULT_NOT_ALLOWED : mg "FAULT_NOT_ALLOWED" = some (.int 3 t_FAULT_NOT_ALLOWED)
  t_FAULT_TOO_MANY : Tok
  c_FAULT_TOO_MANY : mg "FAULT_TOO_MANY" = some (.int 4 t_FAULT_TOO_MANY)
  t_FAULT_TWICE : Tok
  c_FAULT_TWICE : mg "FAULT_TWICE" = some (.int 5 t_FAULT_TWICE)
  t_FAULT_NOT_AS_TOLD : Tok
  c_FAULT_NOT_AS_TOLD : mg "FAULT_NOT_AS_TOLD" = some (.int 7 t_FAULT_NOT_AS_TOLD)
  t_NOT_REFUSED : Tok
  c_NOT_REFUSED : mg "NOT_REFUSED" = some (.int 0 t_NOT_REFUSED)
  t_MOST_LENGTH : Tok
  c_MOST_LENGTH : mg "MOST_LENGTH" = some (.int 4 t_MOST_LENGTH)
  t_MOST_GOALS : Tok
  c_MOST_GOALS : mg "MOST_GOALS" = some (.int 9 t_MOST_GOALS)
  t_LOAD : Tok
  c_LOAD : mg "LOAD" = some (.int 0 t_LOAD)
  t_GOALS : Tok
  c_GOALS : mg "GOALS" = some (.int 1 t_GOALS)
  t_FAMILY : Tok
  c_FAMILY : mg "FAMILY" = some (.int 2 t_FAMILY)
  t_PIECE : Tok
  c_PIECE : mg "PIECE" = some (.int 3 t_PIECE)
  t_LEAST : Tok
  c_LEAST : mg "LEAST" = some (.int 4 t_LEAST)
  t_GREEDY : Tok
  c_GREEDY : mg "GREEDY" = some (.int 5 t_GREEDY)
  t_BOUND : Tok
  c_BOUND : mg "BOUND" = some (.int 6 t_BOUND)
  t_CHECK : Tok
  c_CHECK : mg "CHECK" = some (.int 7 t_CHECK)
  n_len : mg "len" = none
  n_any : mg "any" = none
  n_all : mg "all" = none
  n_range : mg "range" = none
  n_tuple : mg "tuple" = none
  n_list : mg "list" = none
  n_ord : mg "ord" = none
  n_int : mg "int" = none
  n_enumerate : mg "enumerate" = none
  n_isinstance : mg "isinstance" = none
  iso : IsoF K C_Fault C_Listed
end LP
namespace LP
open PySem PySem.Spec PyProof.Rows L2 Evl
/-! ### what a reading gives, over a heap that may grow -/
abbrev Nx (D : Ends) (σ : L2.St) (H : Hp) : Prop := ∀ H1, Ex H H1 → D.nx σ H1
def Go (t : TS) (D : Ends) (σ : L2.St) (H : Hp) : Prop := ∀ H1, Ex H H1 → t D σ H1
/-- it gives some value of which R tells: the heap at its start, the value, the heap at its end -/
def EvR (te : TE) (σ : L2.St) (H : Hp) (R : Hp → V → Hp → Prop) : Prop := ∀ H1, Ex H H1 → ∀ Q : VK, (∀ v H2, Ex H1 H2 → R H1 v H2 → Q v H2) → te σ H1 Q
def RetR (R : Hp → V → Hp → Prop) (H : Hp) (Q : VK) : Prop := ∀ v H2, Ex H H2 → R H v H2 → Q v H2
/-- a new list of xs -/
def NewL (xs : List V) : Hp → V → Hp → Prop := fun H v H2 => ∃ p, v = .ref p ∧ H p = none ∧ H2 p = some (.lst xs)
section
variable {K : PySem.W.Frag} {σ : L2.St} {H H' : Hp} {ta tb te tx : TE} {t u : TT} {x y z v : V} {D : Ends} {tu tw tz : TS} {R : Hp → V → Hp → Prop}
theorem EvR.mono (e : Ex H H') (h : EvR te σ H R) : EvR te σ H' R := fun H1 a Q q => h H1 (e.trans a) Q q
theorem Go.mono (e : Ex H H') (h : Go tu D σ H) : Go tu D σ H' := fun H1 a => h H1 (e.trans a)
theorem Go.at (h : Go tu D σ H) : tu D σ H := h H (Ex.refl H)
theorem EvL.r {xs : List V} (h : EvL te σ H xs) : EvR te σ H (NewL xs) := fun H1 e Q q => h H1 e Q fun p H2 hp e2 h2 => q _ H2 e2 ⟨p, rfl, hp, h2⟩
theorem EvR.l {xs : List V} (h : EvR te σ H (NewL xs)) : EvL te σ H xs := fun H1 e Q q => h H1 e Q fun v H2 e2 ⟨p, ev, hp, h2⟩ => by
  subst ev
  exact q p H2 hp e2 h2
theorem RetL.r {xs : List V} {Q : VK} (h : RetL xs H Q) : RetR (NewL xs) H Q := fun v H2 e ⟨p, ev, hp, h2⟩ => by
  subst ev
  exact h p H2 hp e h2
theorem Ev.r (h : Ev te σ H v) : EvR te σ H (fun _ w _ => w = v) := fun H1 e Q q => h H1 e Q fun H2 e2 => q v H2 e2 rfl
theorem EvR.weaken {R' : Hp → V → Hp → Prop} (h : EvR te σ H R) (k : ∀ H1 v H2, Ex H H1 → Ex H1 H2 → R H1 v H2 → R' H1 v H2) : EvR te σ H R' := fun H1 e Q q => h H1 e Q fun v H2 e2 r => q v H2 e2 (k H1 v H2 e e2 r)
/-! statements -/
theorem go_seq (h : Go tu { D with nx := tz D } σ H) : Go (tSeq tu tz) D σ H := h
theorem go_asg {i : Nat} (h : Ev te σ H v) (k : Nx D (σ.set i (some v)) H) : Go (tAsg te (gName i)) D σ H := fun H1 e => h H1 e _ fun H2 e2 => k H2 (e.trans e2)
theorem gq_asg {i : Nat} (h : Ev te σ H v) (k : Go tz D (σ.set i (some v)) H) : Go (tSeq (tAsg te (gName i)) tz) D σ H := fun H1 e => h H1 e _ fun H2 e2 => k H2 (e.trans e2)
theorem go_asgR {i : Nat} (h : EvR te σ H R) (k : ∀ v H1 H2, Ex H H1 → Ex H1 H2 → R H1 v H2 → D.nx (σ.set i (some v)) H2) : Go (tAsg te (gName i)) D σ H := fun H1 e => h H1 e _ fun v H2 e2 r => k v H1 H2 e e2 r
theorem gq_asgR {i : Nat} (h : EvR te σ H R) (k : ∀ v H1 H2, Ex H H1 → Ex H1 H2 → R H1 v H2 → Go tz D (σ.set i (some v)) H2) : Go (tSeq (tAsg te (gName i)) tz) D σ H := fun H1 e => h H1 e _ fun v H2 e2 r => k v H1 H2 e e2 r H2 (Ex.refl H2)
theorem gq_asgL {i : Nat} {xs : List V} (h : EvL te σ H xs) (k : ∀ p H1, H p = none → Ex H H1 → H1 p = some (.lst xs) → Go tz D (σ.set i (some (.ref p))) H1) : Go (tSeq (tAsg te (gName i)) tz) D σ H := fun H1 e => h H1 e _ fun p H2 hp e2 h2 => k p H2 (fresh_back e hp) (e.trans e2) h2 H2 (Ex.refl H2)
theorem go_ret (h : Ev te σ H v) (k : RetV v H D.rt) : Go (tRet te) D σ H := fun H1 e => h H1 e _ fun H2 e2 => k H2 (e.trans e2)
theorem go_retR (h : EvR te σ H R) (k : ∀ v H1 H2, Ex H H1 → Ex H1 H2 → R H1 v H2 → D.rt v H2) : Go (tRet te) D σ H := fun H1 e => h H1 e _ fun v H2 e2 r => k v H1 H2 e e2 r
theorem go_retL {xs : List V} (h : EvL te σ H xs) (k : RetL xs H D.rt) : Go (tRet te) D σ H := fun H1 e => h H1 e _ fun p H2 hp e2 h2 => k p H2 (fresh_back e hp) (e.trans e2) h2
theorem go_next (k : Nx D σ H) : Go tNext D σ H := k
theorem go_if {b : Bool} (h : EvT t σ H b) (h1 : b = true → Go tu D σ H) (h2 : b = false → Go tw D σ H) : Go (tIfS t tu tw) D σ H := fun H1 e => h H1 e _ fun H2 e2 => by
  cases b with
  | true =>
    show tu D σ H2
    exact h1 rfl H2 (e.trans e2)
  | false =>
    show tw D σ H2
    exact h2 rfl H2 (e.trans e2)
/-- if c: it leaves (or sets), then the rest -/
theorem gq_if {b : Bool} (h : EvT t σ H b) (h1 : b = true → Go tu { D with nx := tz D } σ H) (h2 : b = false → Go tw { D with nx := tz D } σ H) : Go (tSeq (tIfS t tu tw) tz) D σ H := go_if (D := { D with nx := tz D }) h h1 h2
theorem gq_when {b : Bool} (h : EvT t σ H b) (h1 : b = true → Go tu { D with nx := tz D } σ H) (h2 : b = false → Go tz D σ H) : Go (tSeq (tIfS t tu tNext) tz) D σ H := go_if (D := { D with nx := tz D }) h h1 h2
theorem go_drop (h : Ev te σ H v) (k : Nx D σ H) : Go (tDrop te) D σ H := fun H1 e => h H1 e _ fun H2 e2 => k H2 (e.trans e2)
theorem go_aug {i : Nat} {f : Int → Int → Int} {a b : Int} (hx : σ[i]? = some (some (.int a))) (h : Ev te σ H (.int b)) (k : Nx D (σ.set i (some (.int (f a b)))) H) : Go (tAug i te (ipI f)) D σ H := fun H1 e =>
  ⟨.int a, hx, h H1 e _ fun H2 e2 => ⟨a, b, rfl, rfl, k H2 (e.trans e2)⟩⟩
theorem go_app {l : Addr} {xs : List V} (hl : H l = some (.lst xs)) (ha : Ev ta σ H (.ref l)) (h : Ev te σ H v) (hz : xs.length < 100000) (k : ∀ H1, Ex H H1 → D.nx σ (upd H1 l (.lst (xs ++ [v])))) :
    Go (tDrop (tBM K "list" rAppend ta (tCons te tNil))) D σ H := fun H1 e => s_app (e l _ hl) (ha.mono e) (h.mono e) hz fun H2 e2 => k H2 (e.trans e2)
theorem gq_app {l : Addr} {xs : List V} (hl : H l = some (.lst xs)) (ha : Ev ta σ H (.ref l)) (h : Ev te σ H v) (hz : xs.length < 100000) (k : ∀ H1, Ex H H1 → Go tz D σ (upd H1 l (.lst (xs ++ [v])))) :
    Go (tSeq (tDrop (tBM K "list" rAppend ta (tCons te tNil))) tz) D σ H := fun H1 e => q_app (e l _ hl) (ha.mono e) (h.mono e) hz fun H2 e2 => k H2 (e.trans e2) _ (Ex.refl _)
/-- xs.append of what R tells -/
theorem go_appR {l : Addr} {xs : List V} (hl : H l = some (.lst xs)) (ha : Ev ta σ H (.ref l)) (h : EvR te σ H R) (hz : xs.length < 100000) (k : ∀ v H1 H2, Ex H H1 → Ex H1 H2 → R H1 v H2 → D.nx σ (upd H2 l (.lst (xs ++ [v])))) :
    Go (tDrop (tBM K "list" rAppend ta (tCons te tNil))) D σ H := fun H1 e => ha H1 e _ fun H2 e2 =>
  ⟨Or.inl ⟨rfl, xs, sq_of (e2 l _ (e l _ hl))⟩, h H2 (e.trans e2) _ fun v H3 e3 r => ⟨l, xs, v, rfl, rfl, e3 l _ (e2 l _ (e l _ hl)), sz_lt hz, k v H2 H3 (e.trans e2) e3 r⟩⟩
/-! loops -/
theorem go_forL {a : Addr} {xs : List V} {tl : TE} {j : Nat} (h : Ev tl σ H (.ref a)) (Pv : Nat → L2.St → Hp → Prop) (hx : ∀ i σ' H', i ≤ xs.length → Pv i σ' H' → SqL K H' a xs) (h0 : ∀ H1, Ex H H1 → Pv 0 σ H1)
    (hs : ∀ i x σ' H', xs[i]? = some x → Pv i σ' H' → Go tu { D with nx := Pv (i + 1), ct := Pv (i + 1), bk := D.nx } (σ'.set j (some x)) H') (hd : ∀ σ' H', Pv xs.length σ' H' → D.nx σ' H') : Go (tFor (iList K tl) (gName j) tu) D σ H :=
  fun H1 e => h H1 e _ fun H2 e2 => ⟨a, rfl, ⟨xs, hx 0 σ H2 (Nat.zero_le _) (h0 H2 (e.trans e2))⟩, for_list Pv (h0 H2 (e.trans e2)) hx (fun i x σ' H' hi p => hs i x σ' H' hi p H' (Ex.refl H')) hd⟩
theorem gq_forL {a : Addr} {xs : List V} {tl : TE} {j : Nat} (h : Ev tl σ H (.ref a)) (Pv : Nat → L2.St → Hp → Prop) (hx : ∀ i σ' H', i ≤ xs.length → Pv i σ' H' → SqL K H' a xs) (h0 : ∀ H1, Ex H H1 → Pv 0 σ H1)
    (hs : ∀ i x σ' H', xs[i]? = some x → Pv i σ' H' → Go tu { D with nx := Pv (i + 1), ct := Pv (i + 1), bk := tz D } (σ'.set j (some x)) H') (hd : ∀ σ' H', Pv xs.length σ' H' → Go tz D σ' H') : Go (tSeq (tFor (iList K tl) (gName j) tu) tz) D σ H :=
  go_forL (D := { D with nx := tz D }) h Pv hx h0 hs fun σ' H' p => hd σ' H' p H' (Ex.refl H')
/-- over a list that the iterable makes -/
theorem gq_forR {tl : TE} {j : Nat} (R : Hp → V → Hp → Prop) (h : EvR tl σ H R) (k : ∀ v H1 H2, Ex H H1 → Ex H1 H2 → R H1 v H2 → ∃ (a : Addr) (xs : List V) (Pv : Nat → L2.St → Hp → Prop), v = .ref a ∧ Pv 0 σ H2 ∧ (∀ i σ' H', i ≤ xs.length → Pv i σ' H' → SqL K H' a xs) ∧
    (∀ i x σ' H', xs[i]? = some x → Pv i σ' H' → Go tu { D with nx := Pv (i + 1), ct := Pv (i + 1), bk := tz D } (σ'.set j (some x)) H') ∧ ∀ σ' H', Pv xs.length σ' H' → Go tz D σ' H') : Go (tSeq (tFor (iList K tl) (gName j) tu) tz) D σ H :=
  fun H1 e => h H1 e _ fun v H2 e2 r => by
    obtain ⟨a, xs, Pv, ev, h0, hx, hs, hd⟩ := k v H1 H2 e e2 r
    subst ev
    exact ⟨a, rfl, ⟨xs, hx 0 σ H2 (Nat.zero_le _) h0⟩, for_list Pv h0 hx (fun i x σ' H' hi p => hs i x σ' H' hi p H' (Ex.refl H')) fun σ' H' p => hd σ' H' p H' (Ex.refl H')⟩
theorem go_forR {tl : TE} {j : Nat} (R : Hp → V → Hp → Prop) (h : EvR tl σ H R) (k : ∀ v H1 H2, Ex H H1 → Ex H1 H2 → R H1 v H2 → ∃ (a : Addr) (xs : List V) (Pv : Nat → L2.St → Hp → Prop), v = .ref a ∧ Pv 0 σ H2 ∧ (∀ i σ' H', i ≤ xs.length → Pv i σ' H' → SqL K H' a xs) ∧
    (∀ i x σ' H', xs[i]? = some x → Pv i σ' H' → Go tu { D with nx := Pv (i + 1), ct := Pv (i + 1), bk := D.nx } (σ'.set j (some x)) H') ∧ ∀ σ' H', Pv xs.length σ' H' → D.nx σ' H') : Go (tFor (iList K tl) (gName j) tu) D σ H :=
  fun H1 e => h H1 e _ fun v H2 e2 r => by
    obtain ⟨a, xs, Pv, ev, h0, hx, hs, hd⟩ := k v H1 H2 e e2 r
    subst ev
    exact ⟨a, rfl, ⟨xs, hx 0 σ H2 (Nat.zero_le _) h0⟩, for_list Pv h0 hx (fun i x σ' H' hi p => hs i x σ' H' hi p H' (Ex.refl H')) hd⟩
/-- for j in range(n) -/
theorem go_forR1 {ta : TA} {j : Nat} {n : Int} (h : EvA ta σ H [.int n]) (hn : -100000 ≤ n ∧ n ≤ 100000) (Pv : Nat → L2.St → Hp → Prop) (h0 : ∀ H1, Ex H H1 → Pv 0 σ H1)
    (hs : ∀ (i : Nat) σ' H', (i : Int) < n → Pv i σ' H' → Go tu { D with nx := Pv (i + 1), ct := Pv (i + 1), bk := D.nx } (σ'.set j (some (.int (i : Int)))) H') (hd : ∀ σ' H', Pv n.toNat σ' H' → D.nx σ' H') : Go (tFor (iRng1 ta) (gName j) tu) D σ H :=
  fun H1 e => h H1 e _ fun H2 e2 => ⟨n, rfl, by omega, by omega, for_range (lo := 0) (n := n.toNat) Pv (h0 H2 (e.trans e2)) (fun i σ' H' hi p => by
    have e0 : (0 : Int) + (i : Int) = (i : Int) := Int.zero_add _
    show tu { D with nx := Pv (i + 1), ct := Pv (i + 1), bk := D.nx } (σ'.set j (some (.int ((0 : Int) + (i : Int))))) H'
    rw [e0]
    exact hs i σ' H' (by omega) p H' (Ex.refl H')) hd⟩
theorem gq_forR1 {ta : TA} {j : Nat} {n : Int} (h : EvA ta σ H [.int n]) (hn : -100000 ≤ n ∧ n ≤ 100000) (Pv : Nat → L2.St → Hp → Prop) (h0 : ∀ H1, Ex H H1 → Pv 0 σ H1)
    (hs : ∀ (i : Nat) σ' H', (i : Int) < n → Pv i σ' H' → Go tu { D with nx := Pv (i + 1), ct := Pv (i + 1), bk := tz D } (σ'.set j (some (.int (i : Int)))) H') (hd : ∀ σ' H', Pv n.toNat σ' H' → Go tz D σ' H') : Go (tSeq (tFor (iRng1 ta) (gName j) tu) tz) D σ H :=
  go_forR1 (D := { D with nx := tz D }) h hn Pv h0 hs fun σ' H' p => hd σ' H' p H' (Ex.refl H')
/-- for j in range(lo, n) -/
theorem go_forR2 {ta : TA} {j : Nat} {lo n : Int} (h : EvA ta σ H [.int lo, .int n]) (hn : -100000 ≤ lo ∧ lo ≤ 100000 ∧ -100000 ≤ n ∧ n ≤ 100000) (Pv : Nat → L2.St → Hp → Prop) (h0 : ∀ H1, Ex H H1 → Pv 0 σ H1)
    (hs : ∀ (i : Nat) σ' H', lo + (i : Int) < n → Pv i σ' H' → Go tu { D with nx := Pv (i + 1), ct := Pv (i + 1), bk := D.nx } (σ'.set j (some (.int (lo + (i : Int))))) H') (hd : ∀ σ' H', Pv (n - lo).toNat σ' H' → D.nx σ' H') : Go (tFor (iRng2 ta) (gName j) tu) D σ H :=
  fun H1 e => h H1 e _ fun H2 e2 => ⟨lo, n, rfl, ⟨by omega, by omega, by omega, by omega⟩, for_range (lo := lo) (n := (n - lo).toNat) Pv (h0 H2 (e.trans e2)) (fun i σ' H' hi p => hs i σ' H' (by omega) p H' (Ex.refl H')) hd⟩
theorem gq_forR2 {ta : TA} {j : Nat} {lo n : Int} (h : EvA ta σ H [.int lo, .int n]) (hn : -100000 ≤ lo ∧ lo ≤ 100000 ∧ -100000 ≤ n ∧ n ≤ 100000) (Pv : Nat → L2.St → Hp → Prop) (h0 : ∀ H1, Ex H H1 → Pv 0 σ H1)
    (hs : ∀ (i : Nat) σ' H', lo + (i : Int) < n → Pv i σ' H' → Go tu { D with nx := Pv (i + 1), ct := Pv (i + 1), bk := tz D } (σ'.set j (some (.int (lo + (i : Int))))) H') (hd : ∀ σ' H', Pv (n - lo).toNat σ' H' → Go tz D σ' H') : Go (tSeq (tFor (iRng2 ta) (gName j) tu) tz) D σ H :=
  go_forR2 (D := { D with nx := tz D }) h hn Pv h0 hs fun σ' H' p => hd σ' H' p H' (Ex.refl H')
/-- for i, x in enumerate(xs): the pair is a new tuple on the way -/
theorem go_forE {ta : TA} {i1 i2 : Nat} {a : Addr} {xs : List V} (h : EvA ta σ H [.ref a]) (Pv : Nat → L2.St → Hp → Prop) (hx : ∀ i σ' H', i ≤ xs.length → Pv i σ' H' → SqL K H' a xs) (h0 : ∀ H1, Ex H H1 → Pv 0 σ H1)
    (hs : ∀ i x σ' H' H2, xs[i]? = some x → Pv i σ' H' → Ex H' H2 → Go tu { D with nx := Pv (i + 1), ct := Pv (i + 1), bk := D.nx } ((σ'.set i1 (some (.int (i : Nat)))).set i2 (some x)) H2) (hd : ∀ σ' H', Pv xs.length σ' H' → D.nx σ' H') :
    Go (tFor (iEnum K ta) (gTup K 2 (gCons (gName i1) (gCons (gName i2) gNil))) tu) D σ H :=
  fun H1 e => h H1 e _ fun H2 e2 => ⟨a, xs, rfl, hx 0 σ H2 (Nat.zero_le _) (h0 H2 (e.trans e2)), for_it walk_enum Pv (h0 H2 (e.trans e2)) (fun i σ' H' hi p => hx i σ' H' hi p)
    (fun i x σ' H' H'' hi p y => by
      obtain ⟨T, x1, x2, rfl, nT, rfl, e1, e3⟩ := y
      cases e1
      refine ⟨T, [.int (i : Nat), x2], rfl, SqT.of upd_same, rfl, .int (i : Nat), [x2], rfl, x2, [], rfl, rfl, ?_⟩
      exact hs i x2 σ' H' _ e3 p (Ex.new nT) _ (Ex.refl _)) hd⟩
theorem gq_forE {ta : TA} {i1 i2 : Nat} {a : Addr} {xs : List V} (h : EvA ta σ H [.ref a]) (Pv : Nat → L2.St → Hp → Prop) (hx : ∀ i σ' H', i ≤ xs.length → Pv i σ' H' → SqL K H' a xs) (h0 : ∀ H1, Ex H H1 → Pv 0 σ H1)
    (hs : ∀ i x σ' H' H2, xs[i]? = some x → Pv i σ' H' → Ex H' H2 → Go tu { D with nx := Pv (i + 1), ct := Pv (i + 1), bk := tz D } ((σ'.set i1 (some (.int (i : Nat)))).set i2 (some x)) H2) (hd : ∀ σ' H', Pv xs.length σ' H' → Go tz D σ' H') :
    Go (tSeq (tFor (iEnum K ta) (gTup K 2 (gCons (gName i1) (gCons (gName i2) gNil))) tu) tz) D σ H :=
  go_forE (D := { D with nx := tz D }) h Pv hx h0 hs fun σ' H' p => hd σ' H' p H' (Ex.refl H')
/-- a text, sign by sign -/
theorem gq_forS {tl : TE} {j : Nat} {s : Str} (h : Ev tl σ H (.str s)) (Pv : Nat → L2.St → Hp → Prop) (h0 : ∀ H1, Ex H H1 → Pv 0 σ H1)
    (hs : ∀ i c σ' H', s.cps[i]? = some c → Pv i σ' H' → Go tu { D with nx := Pv (i + 1), ct := Pv (i + 1), bk := tz D } (σ'.set j (some (.str ⟨#[c]⟩))) H') (hd : ∀ σ' H', Pv s.cps.size σ' H' → Go tz D σ' H') : Go (tSeq (tFor (iStr tl) (gName j) tu) tz) D σ H :=
  fun H1 e => h H1 e _ fun H2 e2 => ⟨s, rfl, for_it (D := { D with nx := tz D }) walk_str Pv (h0 H2 (e.trans e2)) (fun _ _ _ _ _ => trivial)
    (fun i x σ' H' H'' hi p y => by
      obtain ⟨rfl, c, hc, rfl⟩ := y
      exact hs i c σ' H'' hc p H'' (Ex.refl _)) fun σ' H' p => hd σ' H' p H' (Ex.refl H')⟩
theorem go_while (W : Nat → L2.St → Hp → Prop) (m0 : Nat) (h0 : ∀ H1, Ex H H1 → W m0 σ H1)
    (hs : ∀ m σ' H', W m σ' H' → ∃ b, EvT t σ' H' b ∧ (b = true → Go tu { D with nx := fun σ2 H2 => ∃ m', m' < m ∧ W m' σ2 H2, ct := fun σ2 H2 => ∃ m', m' < m ∧ W m' σ2 H2, bk := D.nx } σ' H') ∧ (b = false → Nx D σ' H')) : Go (tWhile t tu) D σ H :=
  fun H1 e => s_while W m0 (h0 H1 e) fun m σ' H' w => by
    obtain ⟨b, h1, h2, h3⟩ := hs m σ' H' w
    exact ⟨b, h1, fun hb H2 e2 => ⟨_, fun _ _ n => n, h2 hb H2 e2⟩, h3⟩
theorem gq_while (W : Nat → L2.St → Hp → Prop) (m0 : Nat) (h0 : ∀ H1, Ex H H1 → W m0 σ H1)
    (hs : ∀ m σ' H', W m σ' H' → ∃ b, EvT t σ' H' b ∧ (b = true → Go tu { D with nx := fun σ2 H2 => ∃ m', m' < m ∧ W m' σ2 H2, ct := fun σ2 H2 => ∃ m', m' < m ∧ W m' σ2 H2, bk := tz D } σ' H') ∧ (b = false → Go tz D σ' H')) : Go (tSeq (tWhile t tu) tz) D σ H :=
  go_while (D := { D with nx := tz D }) W m0 h0 hs
/-! expressions -/
def FldAt (K : PySem.W.Frag) (H : Hp) (a : Addr) (f : Str) (v : V) : Prop := ∃ C dx fs, H a = some (.ins C dx fs) ∧ Cls K C ∧ NoAttr K C f ∧ fs.lookup f = some v
theorem FldAt.mono {a : Addr} {f : Str} (e : Ex H H') (h : FldAt K H a f v) : FldAt K H' a f v := let ⟨C, dx, fs, h1, h2⟩ := h; ⟨C, dx, fs, e a _ h1, h2⟩
theorem ev_fld {a : Addr} {f : Str} (h : Ev ta σ H (.ref a)) (hf : FldAt K H a f v) : Ev (tFld K ta f) σ H v := fun H1 e Q q => h H1 e _ fun H2 e2 => by
  obtain ⟨C, dx, fs, h1, h2, h3, h4⟩ := hf
  exact ⟨a, C, dx, fs, v, rfl, e2 a _ (e a _ h1), h2, h3, h4, q H2 e2⟩
theorem ev_slS {tl th : TO} {s : Str} {lo hi : Option Int} (h : Ev te σ H (.str s)) (h1 : EvO tl σ H lo) (h2 : EvO th σ H hi) (hz : s.length ≤ sizeLine) : Ev (tSl rSlS te tl th) σ H (.str (cutS s lo hi)) := fun H1 e _ q =>
  h H1 e _ fun H2 e2 => h1 H2 (e.trans e2) _ fun H3 e3 => h2 H3 ((e.trans e2).trans e3) _ fun H4 e4 => ⟨s, rfl, hz, q H4 ((e2.trans e3).trans e4)⟩
theorem ev_m0 {r : V → List V → Hp → VK → Prop} {a : Str} (h : Ev ta σ H (.str a)) (hr : ∀ H Q, Q z H → r (.str a) [] H Q) : Ev (tM0 r ta) σ H z := fun H1 e _ q => h H1 e _ fun H2 e2 => ⟨⟨a, rfl⟩, hr H2 _ (q H2 e2)⟩
theorem ev_m1 {r : V → List V → Hp → VK → Prop} {a : Str} (h : Ev ta σ H (.str a)) (hb : Ev tb σ H y) (hr : ∀ H Q, Q z H → r (.str a) [y] H Q) : Ev (tM1 r ta tb) σ H z := fun H1 e _ q =>
  h H1 e _ fun H2 e2 => ⟨⟨a, rfl⟩, hb H2 (e.trans e2) _ fun H3 e3 => hr H3 _ (q H3 (e2.trans e3))⟩
/-- a built-in by its values, the heap as it is -/
theorem ev_cbv {r : List V → Hp → VK → Prop} {tr : TA} {vs : List V} (h : EvA tr σ H vs) (hr : ∀ H1, Ex H H1 → ∀ Q : VK, Q z H1 → r vs H1 Q) : Ev (tCB r tr) σ H z := fun H1 e _ q => h H1 e _ fun H2 e2 => hr H2 (e.trans e2) _ (q H2 e2)
/-- the same of one argument that is told by R -/
theorem ev_cbR {r : List V → Hp → VK → Prop} (h : EvR ta σ H R) (hr : ∀ v H1 H2, Ex H H1 → Ex H1 H2 → R H1 v H2 → ∀ Q : VK, (∀ H3, Ex H2 H3 → Q z H3) → r [v] H2 Q) : Ev (tCB r (tCons ta tNil)) σ H z := fun H1 e _ q => h H1 e _ fun v H2 e2 r2 => hr v H1 H2 e e2 r2 _ fun H3 e3 => q H3 (e2.trans e3)
theorem ev_callV {sp : Sp} {dvs vs : List V} {E : XK} {tr : TA} (h : EvA tr σ H vs) (hs : ∀ H1, Ex H H1 → ∀ Q E, RetV z H1 Q → sp (vs ++ dvs) H1 Q E) : Ev (tCall sp dvs E tr) σ H z := fun H1 e Q q => h H1 e _ fun H2 e2 => hs H2 (e.trans e2) Q E fun H3 e3 => q H3 (e2.trans e3)
theorem evr_call {sp : Sp} {dvs vs : List V} {E : XK} {tr : TA} (h : EvA tr σ H vs) (hs : ∀ H1, Ex H H1 → ∀ Q E, RetR R H1 Q → sp (vs ++ dvs) H1 Q E) (hb : ∀ H1 H2 v H3, Ex H1 H2 → R H2 v H3 → R H1 v H3) : EvR (tCall sp dvs E tr) σ H R := fun H1 e Q q =>
  h H1 e _ fun H2 e2 => hs H2 (e.trans e2) Q E fun v H3 e3 r => q v H3 (e2.trans e3) (hb H1 H2 v H3 e2 r)
theorem elc_call {sp : Sp} {dvs vs xs : List V} {E : XK} {tr : TA} (h : EvA tr σ H vs) (hs : ∀ H1, Ex H H1 → ∀ Q E, RetL xs H1 Q → sp (vs ++ dvs) H1 Q E) : EvL (tCall sp dvs E tr) σ H xs := fun H1 e Q q =>
  h H1 e _ fun H2 e2 => hs H2 (e.trans e2) Q E fun p H3 hp e3 h3 => q p H3 (fresh_back e2 hp) (e2.trans e3) h3
theorem NewL.back {xs : List V} {H1 H2 H3 : Hp} (e : Ex H1 H2) (h : NewL xs H2 v H3) : NewL xs H1 v H3 := let ⟨p, h1, h2, h3⟩ := h; ⟨p, h1, fresh_back e h2, h3⟩
/-- a new instance: at p, with the fields fs -/
def NewI (C : Addr) (fs : List (Str × V)) : Hp → V → Hp → Prop := fun H v H2 => ∃ p dx, v = .ref p ∧ H p = none ∧ H2 p = some (.ins C dx fs)
theorem NewI.back {C : Addr} {fs : List (Str × V)} {H1 H2 H3 : Hp} (e : Ex H1 H2) (h : NewI C fs H2 v H3) : NewI C fs H1 v H3 := let ⟨p, dx, h1, h2, h3⟩ := h; ⟨p, dx, h1, fresh_back e h2, h3⟩
/-- the promise of an __init__ that only sets fields: args -> fields -/
def spSet (C : Addr) (n : Nat) (F : List V → List (Str × V)) : Sp := fun vs H Q _ => ∃ p dx args, vs = .ref p :: args ∧ args.length = n ∧ H p = some (.ins C dx []) ∧ ∀ H' : Hp, H' p = some (.ins C dx (F args)) → (∀ b o, H b = some o → b ≠ p → H' b = some o) → Q .non H'
theorem evr_make {C : Addr} {n : Nat} {F : List V → List (Str × V)} {E : XK} {tr : TA} {vs : List V} (h : EvA tr σ H vs) (hn : vs.length = n) : EvR (tMake C (spSet C n F) [] E tr) σ H (NewI C (F vs)) := fun H1 e Q q =>
  h H1 e _ fun H2 e2 => fun p dx hp hd hne => by
    refine ⟨p, dx, vs, by rw [List.append_nil], hn, upd_same, fun H' h' k => ⟨rfl, ?_⟩⟩
    have ex : Ex H2 H' := fun b o hb => k b o (by rw [upd_ne (ne_of_none hb hp), upd_ne (ne_of_none hb hd)]; exact hb) (ne_of_none hb hp)
    exact q _ H' (e2.trans ex) ⟨p, dx, rfl, fresh_back e2 hp, h'⟩
end
/-! the written part by its own name: for what stands within a comprehension -/
section
variable {X : Cx} {K : PySem.W.Frag} {e : Expr} {f : Str} {pos : Pos} {ta : TE}
theorem pe_fldK (hK : X.K = K) (he : PE X e ta) (hb : attributeBase e f X.env (eval e X.env) = eval e X.env) : PE X (.Attribute e f pos) (tFld K ta f) := by
  subst hK
  exact pe_fld he hb
theorem ix_listK (hK : X.K = K) : IxR X (rIxL K) := by
  subst hK
  exact ix_list
theorem op_in_seqK (hK : X.K = K) : OpR X (compareOp .In) (rIn K false) := by
  subst hK
  exact op_in_seq
theorem op_notIn_seqK (hK : X.K = K) : OpR X (compareOp .NotIn) (rIn K true) := by
  subst hK
  exact op_notIn_seq
theorem pg_tupK {es : List Expr} {k : Nat} {t : TGs} {n : Nat} (hK : X.K = K) (hc : X.calm = true) (h : PGs X es t) (hn : (assignEach es X.env).length = n := by rfl) (hst : (assignEach es X.env).findIdx? (·.1) = none := by rfl) : PG X (.Tuple es k pos) (gTup K n t) := by
  subst hK
  exact pg_tup hc h hn hst
end
/-! ### lists of things that stand in the heap -/
structure At2 {α : Type} (R : Addr → α → Prop) (as : List Addr) (xs : List α) : Prop where
  len : as.length = xs.length
  at_ : ∀ (i : Nat) a x, as[i]? = some a → xs[i]? = some x → R a x
section
variable {α β : Type} {R S : Addr → α → Prop} {as bs : List Addr} {xs ys : List α}
theorem At2.nil : At2 R [] [] := ⟨rfl, fun i a x h => by simp at h⟩
theorem At2.mono (h : At2 R as xs) (k : ∀ a x, R a x → S a x) : At2 S as xs := ⟨h.len, fun i a x h1 h2 => k a x (h.at_ i a x h1 h2)⟩
theorem At2.append (h : At2 R as xs) (g : At2 R bs ys) : At2 R (as ++ bs) (xs ++ ys) := by
  refine ⟨by rw [List.length_append, List.length_append, h.len, g.len], fun i a x h1 h2 => ?_⟩
  by_cases c : i < as.length
  · rw [List.getElem?_append_left c] at h1
    rw [List.getElem?_append_left (by rw [← h.len]; exact c)] at h2
    exact h.at_ i a x h1 h2
  · rw [List.getElem?_append_right (Nat.le_of_not_lt c)] at h1
    rw [List.getElem?_append_right (by rw [← h.len]; exact Nat.le_of_not_lt c), ← h.len] at h2
    exact g.at_ _ a x h1 h2
theorem At2.snoc {a : Addr} {x : α} (h : At2 R as xs) (g : R a x) : At2 R (as ++ [a]) (xs ++ [x]) := h.append ⟨rfl, fun i b y h1 h2 => by
  match i, h1, h2 with
  | 0, h1, h2 =>
    cases h1
    cases h2
    exact g
  | i + 1, h1, h2 => simp at h1⟩
theorem At2.item (h : At2 R as xs) {i : Nat} {y : V} (hy : (as.map V.ref)[i]? = some y) : ∃ a x, as[i]? = some a ∧ xs[i]? = some x ∧ y = .ref a ∧ R a x := by
  rw [List.getElem?_map] at hy
  cases e : as[i]? with
  | none =>
    rw [e] at hy
    cases hy
  | some a =>
    rw [e] at hy
    cases hy
    obtain ⟨h1, e1⟩ := List.getElem?_eq_some_iff.mp e
    have h2 : xs[i]? = some (xs[i]'(by rw [← h.len]; exact h1)) := List.getElem?_eq_getElem _
    exact ⟨a, _, rfl, h2, rfl, h.at_ i a _ e h2⟩
theorem At2.get (h : At2 R as xs) {i : Nat} {x : α} (hx : xs[i]? = some x) : ∃ a, as[i]? = some a ∧ (as.map V.ref)[i]? = some (.ref a) ∧ R a x := by
  obtain ⟨h1, e1⟩ := List.getElem?_eq_some_iff.mp hx
  have h2 : as[i]? = some (as[i]'(by rw [h.len]; exact h1)) := List.getElem?_eq_getElem _
  refine ⟨_, h2, ?_, h.at_ i _ _ h2 hx⟩
  rw [List.getElem?_map, h2] <;> rfl
end
theorem map_item {α : Type} {f : α → V} {xs : List α} {i : Nat} {y : V} (h : (xs.map f)[i]? = some y) : ∃ x, xs[i]? = some x ∧ y = f x := by
  rw [List.getElem?_map] at h
  cases e : xs[i]? with
  | none =>
    rw [e] at h
    cases h
  | some x =>
    rw [e] at h
    cases h
    exact ⟨x, rfl, rfl⟩
theorem take_next {α : Type} {l : List α} {i : Nat} {x : α} (h : l[i]? = some x) : l.take (i + 1) = l.take i ++ [x] := by
  rw [List.take_add_one, h] <;> rfl
/-- a list of things at l -/
def LsAt {α : Type} (R : Hp → Addr → α → Prop) (H : Hp) (l : Addr) (xs : List α) : Prop := ∃ as : List Addr, H l = some (.lst (as.map V.ref)) ∧ At2 (R H) as xs
theorem LsAt.mono {α : Type} {R : Hp → Addr → α → Prop} (hR : ∀ H H' a x, Ex H H' → R H a x → R H' a x) {H H' : Hp} {l : Addr} {xs : List α} (e : Ex H H') (h : LsAt R H l xs) : LsAt R H' l xs :=
  let ⟨as, h1, h2⟩ := h; ⟨as, e l _ h1, h2.mono fun a x => hR H H' a x e⟩
end LP
namespace LP
open PySem PySem.Spec PyProof.Rows L2 Evl
theorem lk0 {k : Str} {v : V} {r : List (Str × V)} : List.lookup k ((k, v) :: r) = some v := by
  have e : (k == k) = true := beq_self_eq_true k
  simp only [List.lookup, e]
theorem lkS {k g : Str} {v x : V} {r : List (Str × V)} (h : (k == g) = false) (h2 : List.lookup k r = some v) : List.lookup k ((g, x) :: r) = some v := by
  simp only [List.lookup, h]
  exact h2
theorem lkN {k g : Str} {x : V} {r : List (Str × V)} (h : (k == g) = false) (h2 : List.lookup k r = none) : List.lookup k ((g, x) :: r) = none := by
  simp only [List.lookup, h]
  exact h2
theorem put0 {f : Str} {v x : V} {r : List (Str × V)} : putF f v ((f, x) :: r) = (f, v) :: r := if_pos rfl
theorem putS {f g : Str} {v x : V} {r r' : List (Str × V)} (h : ¬ g = f) (h2 : putF f v r = r') : putF f v ((g, x) :: r) = (g, x) :: r' := (if_neg h).trans (congrArg _ h2)
section
variable {P : Program} {w : World} {K : PySem.W.Frag} {mg : Str → Option Value} {base : Heap} {T : TX K mg} {H H' : Hp} {a : Addr}
abbrev R_Goal (v0 v1 : V) : List (Str × V) := [("word", v0), ("gap", v1)]
def I_Goal (T : TX K mg) (H : Hp) (a : Addr) (v0 v1 : V) : Prop := ∃ dx, H a = some (.ins T.C_Goal dx (R_Goal v0 v1))
theorem I_Goal.mono {v0 v1 : V} (e : Ex H H') (h : I_Goal T H a v0 v1) : I_Goal T H' a v0 v1 := let ⟨dx, h⟩ := h; ⟨dx, e a _ h⟩
theorem I_Goal.word {v0 v1 : V} (h : I_Goal T H a v0 v1) : FldAt K H a "word" v0 := let ⟨dx, h⟩ := h; ⟨_, dx, _, h, T.cl_Goal, T.n_Goal_word, lk0⟩
theorem put_Goal_word {v0 v1 y : V} : putF "word" y (R_Goal v0 v1) = R_Goal y v1 := put0
theorem new_Goal_word {v0 : V} : putF "word" v0 ([] : List (Str × V)) = ([("word", v0)] : List (Str × V)) := rfl
theorem I_Goal.gap {v0 v1 : V} (h : I_Goal T H a v0 v1) : FldAt K H a "gap" v1 := let ⟨dx, h⟩ := h; ⟨_, dx, _, h, T.cl_Goal, T.n_Goal_gap, lkS (by decide +kernel) (lk0)⟩
theorem put_Goal_gap {v0 v1 y : V} : putF "gap" y (R_Goal v0 v1) = R_Goal v0 y := putS (by decide +kernel) (put0)
theorem new_Goal_gap {v0 v1 : V} : putF "gap" v1 ([("word", v0)] : List (Str × V)) = ([("word", v0), ("gap", v1)] : List (Str × V)) := putS (by decide +kernel) (rfl)
abbrev R_Piece (v0 v1 v2 v3 v4 v5 : V) : List (Str × V) := [("letters", v0), ("before", v1), ("first_point", v2), ("last_point", v3), ("chunk", v4), ("covered", v5)]
def I_Piece (T : TX K mg) (H : Hp) (a : Addr) (v0 v1 v2 v3 v4 v5 : V) : Prop := ∃ dx, H a = some (.ins T.C_Piece dx (R_Piece v0 v1 v2 v3 v4 v5))
theorem I_Piece.mono {v0 v1 v2 v3 v4 v5 : V} (e : Ex H H') (h : I_Piece T H a v0 v1 v2 v3 v4 v5) : I_Piece T H' a v0 v1 v2 v3 v4 v5 := let ⟨dx, h⟩ := h; ⟨dx, e a _ h⟩
theorem I_Piece.letters {v0 v1 v2 v3 v4 v5 : V} (h : I_Piece T H a v0 v1 v2 v3 v4 v5) : FldAt K H a "letters" v0 := let ⟨dx, h⟩ := h; ⟨_, dx, _, h, T.cl_Piece, T.n_Piece_letters, lk0⟩
theorem put_Piece_letters {v0 v1 v2 v3 v4 v5 y : V} : putF "letters" y (R_Piece v0 v1 v2 v3 v4 v5) = R_Piece y v1 v2 v3 v4 v5 := put0
theorem new_Piece_letters {v0 : V} : putF "letters" v0 ([] : List (Str × V)) = ([("letters", v0)] : List (Str × V)) := rfl
theorem I_Piece.before {v0 v1 v2 v3 v4 v5 : V} (h : I_Piece T H a v0 v1 v2 v3 v4 v5) : FldAt K H a "before" v1 := let ⟨dx, h⟩ := h; ⟨_, dx, _, h, T.cl_Piece, T.n_Piece_before, lkS (by decide +kernel) (lk0)⟩
theorem put_Piece_before {v0 v1 v2 v3 v4 v5 y : V} : putF "before" y (R_Piece v0 v1 v2 v3 v4 v5) = R_Piece v0 y v2 v3 v4 v5 := putS (by decide +kernel) (put0)
theorem new_Piece_before {v0 v1 : V} : putF "before" v1 ([("letters", v0)] : List (Str × V)) = ([("letters", v0), ("before", v1)] : List (Str × V)) := putS (by decide +kernel) (rfl)
theorem I_Piece.first_point {v0 v1 v2 v3 v4 v5 : V} (h : I_Piece T H a v0 v1 v2 v3 v4 v5) : FldAt K H a "first_point" v2 := let ⟨dx, h⟩ := h; ⟨_, dx, _, h, T.cl_Piece, T.n_Piece_first_point, lkS (by decide +kernel) (lkS (by decide +kernel) (lk0))⟩
theorem put_Piece_first_point {v0 v1 v2 v3 v4 v5 y : V} : putF "first_point" y (R_Piece v0 v1 v2 v3 v4 v5) = R_Piece v0 v1 y v3 v4 v5 := putS (by decide +kernel) (putS (by decide +kernel) (put0))
theorem new_Piece_first_point {v0 v1 v2 : V} : putF "first_point" v2 ([("letters", v0), ("before", v1)] : List (Str × V)) = ([("letters", v0), ("before", v1), ("first_point", v2)] : List (Str × V)) := putS (by decide +kernel) (putS (by decide +kernel) (rfl))
theorem I_Piece.last_point {v0 v1 v2 v3 v4 v5 : V} (h : I_Piece T H a v0 v1 v2 v3 v4 v5) : FldAt K H a "last_point" v3 := let ⟨dx, h⟩ := h; ⟨_, dx, _, h, T.cl_Piece, T.n_Piece_last_point, lkS (by decide +kernel) (lkS (by decide +kernel) (lkS (by decide +kernel) (lk0)))⟩
theorem put_Piece_last_point {v0 v1 v2 v3 v4 v5 y : V} : putF "last_point" y (R_Piece v0 v1 v2 v3 v4 v5) = R_Piece v0 v1 v2 y v4 v5 := putS (by decide +kernel) (putS (by decide +kernel) (putS (by decide +kernel) (put0)))
theorem new_Piece_last_point {v0 v1 v2 v3 : V} : putF "last_point" v3 ([("letters", v0), ("before", v1), ("first_point", v2)] : List (Str × V)) = ([("letters", v0), ("before", v1), ("first_point", v2), ("last_point", v3)] : List (Str × V)) := putS (by decide +kernel) (putS (by decide +kernel) (putS (by decide +kernel) (rfl)))
theorem I_Piece.chunk {v0 v1 v2 v3 v4 v5 : V} (h : I_Piece T H a v0 v1 v2 v3 v4 v5) : FldAt K H a "chunk" v4 := let ⟨dx, h⟩ := h; ⟨_, dx, _, h, T.cl_Piece, T.n_Piece_chunk, lkS (by decide +kernel) (lkS (by decide +kernel) (lkS (by decide +kernel) (lkS (by decide +kernel) (lk0))))⟩
theorem put_Piece_chunk {v0 v1 v2 v3 v4 v5 y : V} : putF "chunk" y (R_Piece v0 v1 v2 v3 v4 v5) = R_Piece v0 v1 v2 v3 y v5 := putS (by decide +kernel) (putS (by decide +kernel) (putS (by decide +kernel) (putS (by decide +kernel) (put0))))
theorem new_Piece_chunk {v0 v1 v2 v3 v4 : V} : putF "chunk" v4 ([("letters", v0), ("before", v1), ("first_point", v2), ("last_point", v3)] : List (Str × V)) = ([("letters", v0), ("before", v1), ("first_point", v2), ("last_point", v3), ("chunk", v4)] : List (Str × V)) := putS (by decide +kernel) (putS (by decide +kernel) (putS (by decide +kernel) (putS (by decide +kernel) (rfl))))
theorem I_Piece.covered {v0 v1 v2 v3 v4 v5 : V} (h : I_Piece T H a v0 v1 v2 v3 v4 v5) : FldAt K H a "covered" v5 := let ⟨dx, h⟩ := h; ⟨_, dx, _, h, T.cl_Piece, T.n_Piece_covered, lkS (by decide +kernel) (lkS (by decide +kernel) (lkS (by decide +kernel) (lkS (by decide +kernel) (lkS (by decide +kernel) (lk0)))))⟩
theorem put_Piece_covered {v0 v1 v2 v3 v4 v5 y : V} : putF "covered" y (R_Piece v0 v1 v2 v3 v4 v5) = R_Piece v0 v1 v2 v3 v4 y := putS (by decide +kernel) (putS (by decide +kernel) (putS (by decide +kernel) (putS (by decide +kernel) (putS (by decide +kernel) (put0)))))
theorem new_Piece_covered {v0 v1 v2 v3 v4 v5 : V} : putF "covered" v5 ([("letters", v0), ("before", v1), ("first_point", v2), ("last_point", v3), ("chunk", v4)] : List (Str × V)) = ([("letters", v0), ("before", v1), ("first_point", v2), ("last_point", v3), ("chunk", v4), ("covered", v5)] : List (Str × V)) := putS (by decide +kernel) (putS (by decide +kernel) (putS (by decide +kernel) (putS (by decide +kernel) (putS (by decide +kernel) (rfl)))))
abbrev R_Choice (v0 v1 : V) : List (Str × V) := [("numbers", v0), ("size", v1)]
def I_Choice (T : TX K mg) (H : Hp) (a : Addr) (v0 v1 : V) : Prop := ∃ dx, H a = some (.ins T.C_Choice dx (R_Choice v0 v1))
theorem I_Choice.mono {v0 v1 : V} (e : Ex H H') (h : I_Choice T H a v0 v1) : I_Choice T H' a v0 v1 := let ⟨dx, h⟩ := h; ⟨dx, e a _ h⟩
theorem I_Choice.numbers {v0 v1 : V} (h : I_Choice T H a v0 v1) : FldAt K H a "numbers" v0 := let ⟨dx, h⟩ := h; ⟨_, dx, _, h, T.cl_Choice, T.n_Choice_numbers, lk0⟩
theorem put_Choice_numbers {v0 v1 y : V} : putF "numbers" y (R_Choice v0 v1) = R_Choice y v1 := put0
theorem new_Choice_numbers {v0 : V} : putF "numbers" v0 ([] : List (Str × V)) = ([("numbers", v0)] : List (Str × V)) := rfl
theorem I_Choice.size {v0 v1 : V} (h : I_Choice T H a v0 v1) : FldAt K H a "size" v1 := let ⟨dx, h⟩ := h; ⟨_, dx, _, h, T.cl_Choice, T.n_Choice_size, lkS (by decide +kernel) (lk0)⟩
theorem put_Choice_size {v0 v1 y : V} : putF "size" y (R_Choice v0 v1) = R_Choice v0 y := putS (by decide +kernel) (put0)
theorem new_Choice_size {v0 v1 : V} : putF "size" v1 ([("numbers", v0)] : List (Str × V)) = ([("numbers", v0), ("size", v1)] : List (Str × V)) := putS (by decide +kernel) (rfl)
theorem no_Choice_rank {v0 v1 : V} : List.lookup ("rank" : Str) (R_Choice v0 v1) = none := lkN (by decide +kernel) (lkN (by decide +kernel) (rfl))
abbrev R_Token (v0 v1 : V) : List (Str × V) := [("text", v0), ("place", v1)]
def I_Token (T : TX K mg) (H : Hp) (a : Addr) (v0 v1 : V) : Prop := ∃ dx, H a = some (.ins T.C_Token dx (R_Token v0 v1))
theorem I_Token.mono {v0 v1 : V} (e : Ex H H') (h : I_Token T H a v0 v1) : I_Token T H' a v0 v1 := let ⟨dx, h⟩ := h; ⟨dx, e a _ h⟩
theorem I_Token.text {v0 v1 : V} (h : I_Token T H a v0 v1) : FldAt K H a "text" v0 := let ⟨dx, h⟩ := h; ⟨_, dx, _, h, T.cl_Token, T.n_Token_text, lk0⟩
theorem put_Token_text {v0 v1 y : V} : putF "text" y (R_Token v0 v1) = R_Token y v1 := put0
theorem new_Token_text {v0 : V} : putF "text" v0 ([] : List (Str × V)) = ([("text", v0)] : List (Str × V)) := rfl
theorem I_Token.place {v0 v1 : V} (h : I_Token T H a v0 v1) : FldAt K H a "place" v1 := let ⟨dx, h⟩ := h; ⟨_, dx, _, h, T.cl_Token, T.n_Token_place, lkS (by decide +kernel) (lk0)⟩
theorem put_Token_place {v0 v1 y : V} : putF "place" y (R_Token v0 v1) = R_Token v0 y := putS (by decide +kernel) (put0)
theorem new_Token_place {v0 v1 : V} : putF "place" v1 ([("text", v0)] : List (Str × V)) = ([("text", v0), ("place", v1)] : List (Str × V)) := putS (by decide +kernel) (rfl)
theorem no_Token_is_chunk {v0 v1 : V} : List.lookup ("is_chunk" : Str) (R_Token v0 v1) = none := lkN (by decide +kernel) (lkN (by decide +kernel) (rfl))
abbrev R_Fault (v0 v1 : V) : List (Str × V) := [("code", v0), ("place", v1)]
def I_Fault (T : TX K mg) (H : Hp) (a : Addr) (v0 v1 : V) : Prop := ∃ dx, H a = some (.ins T.C_Fault dx (R_Fault v0 v1))
theorem I_Fault.mono {v0 v1 : V} (e : Ex H H') (h : I_Fault T H a v0 v1) : I_Fault T H' a v0 v1 := let ⟨dx, h⟩ := h; ⟨dx, e a _ h⟩
theorem I_Fault.code {v0 v1 : V} (h : I_Fault T H a v0 v1) : FldAt K H a "code" v0 := let ⟨dx, h⟩ := h; ⟨_, dx, _, h, T.cl_Fault, T.n_Fault_code, lk0⟩
theorem put_Fault_code {v0 v1 y : V} : putF "code" y (R_Fault v0 v1) = R_Fault y v1 := put0
theorem new_Fault_code {v0 : V} : putF "code" v0 ([] : List (Str × V)) = ([("code", v0)] : List (Str × V)) := rfl
theorem I_Fault.place {v0 v1 : V} (h : I_Fault T H a v0 v1) : FldAt K H a "place" v1 := let ⟨dx, h⟩ := h; ⟨_, dx, _, h, T.cl_Fault, T.n_Fault_place, lkS (by decide +kernel) (lk0)⟩
theorem put_Fault_place {v0 v1 y : V} : putF "place" y (R_Fault v0 v1) = R_Fault v0 y := putS (by decide +kernel) (put0)
theorem new_Fault_place {v0 v1 : V} : putF "place" v1 ([("code", v0)] : List (Str × V)) = ([("code", v0), ("place", v1)] : List (Str × V)) := putS (by decide +kernel) (rfl)
abbrev R_Word (v0 v1 : V) : List (Str × V) := [("letters", v0), ("breaks", v1)]
def I_Word (T : TX K mg) (H : Hp) (a : Addr) (v0 v1 : V) : Prop := ∃ dx, H a = some (.ins T.C_Word dx (R_Word v0 v1))
theorem I_Word.mono {v0 v1 : V} (e : Ex H H') (h : I_Word T H a v0 v1) : I_Word T H' a v0 v1 := let ⟨dx, h⟩ := h; ⟨dx, e a _ h⟩
theorem I_Word.letters {v0 v1 : V} (h : I_Word T H a v0 v1) : FldAt K H a "letters" v0 := let ⟨dx, h⟩ := h; ⟨_, dx, _, h, T.cl_Word, T.n_Word_letters, lk0⟩
theorem put_Word_letters {v0 v1 y : V} : putF "letters" y (R_Word v0 v1) = R_Word y v1 := put0
theorem new_Word_letters {v0 : V} : putF "letters" v0 ([] : List (Str × V)) = ([("letters", v0)] : List (Str × V)) := rfl
theorem I_Word.breaks {v0 v1 : V} (h : I_Word T H a v0 v1) : FldAt K H a "breaks" v1 := let ⟨dx, h⟩ := h; ⟨_, dx, _, h, T.cl_Word, T.n_Word_breaks, lkS (by decide +kernel) (lk0)⟩
theorem put_Word_breaks {v0 v1 y : V} : putF "breaks" y (R_Word v0 v1) = R_Word v0 y := putS (by decide +kernel) (put0)
theorem new_Word_breaks {v0 v1 : V} : putF "breaks" v1 ([("letters", v0)] : List (Str × V)) = ([("letters", v0), ("breaks", v1)] : List (Str × V)) := putS (by decide +kernel) (rfl)
abbrev R_Listed (v0 v1 v2 : V) : List (Str × V) := [("margins", v0), ("words", v1), ("patterns", v2)]
def I_Listed (T : TX K mg) (H : Hp) (a : Addr) (v0 v1 v2 : V) : Prop := ∃ dx, H a = some (.ins T.C_Listed dx (R_Listed v0 v1 v2))
theorem I_Listed.mono {v0 v1 v2 : V} (e : Ex H H') (h : I_Listed T H a v0 v1 v2) : I_Listed T H' a v0 v1 v2 := let ⟨dx, h⟩ := h; ⟨dx, e a _ h⟩
theorem I_Listed.margins {v0 v1 v2 : V} (h : I_Listed T H a v0 v1 v2) : FldAt K H a "margins" v0 := let ⟨dx, h⟩ := h; ⟨_, dx, _, h, T.cl_Listed, T.n_Listed_margins, lk0⟩
theorem put_Listed_margins {v0 v1 v2 y : V} : putF "margins" y (R_Listed v0 v1 v2) = R_Listed y v1 v2 := put0
theorem new_Listed_margins {v0 : V} : putF "margins" v0 ([] : List (Str × V)) = ([("margins", v0)] : List (Str × V)) := rfl
theorem I_Listed.words {v0 v1 v2 : V} (h : I_Listed T H a v0 v1 v2) : FldAt K H a "words" v1 := let ⟨dx, h⟩ := h; ⟨_, dx, _, h, T.cl_Listed, T.n_Listed_words, lkS (by decide +kernel) (lk0)⟩
theorem put_Listed_words {v0 v1 v2 y : V} : putF "words" y (R_Listed v0 v1 v2) = R_Listed v0 y v2 := putS (by decide +kernel) (put0)
theorem new_Listed_words {v0 v1 : V} : putF "words" v1 ([("margins", v0)] : List (Str × V)) = ([("margins", v0), ("words", v1)] : List (Str × V)) := putS (by decide +kernel) (rfl)
theorem I_Listed.patterns {v0 v1 v2 : V} (h : I_Listed T H a v0 v1 v2) : FldAt K H a "patterns" v2 := let ⟨dx, h⟩ := h; ⟨_, dx, _, h, T.cl_Listed, T.n_Listed_patterns, lkS (by decide +kernel) (lkS (by decide +kernel) (lk0))⟩
theorem put_Listed_patterns {v0 v1 v2 y : V} : putF "patterns" y (R_Listed v0 v1 v2) = R_Listed v0 v1 y := putS (by decide +kernel) (putS (by decide +kernel) (put0))
theorem new_Listed_patterns {v0 v1 v2 : V} : putF "patterns" v2 ([("margins", v0), ("words", v1)] : List (Str × V)) = ([("margins", v0), ("words", v1), ("patterns", v2)] : List (Str × V)) := putS (by decide +kernel) (putS (by decide +kernel) (rfl))
abbrev R_ListReader (v0 v1 : V) : List (Str × V) := [("listed", v0), ("awaited", v1)]
def I_ListReader (T : TX K mg) (H : Hp) (a : Addr) (v0 v1 : V) : Prop := ∃ dx, H a = some (.ins T.C_ListReader dx (R_ListReader v0 v1))
theorem I_ListReader.mono {v0 v1 : V} (e : Ex H H') (h : I_ListReader T H a v0 v1) : I_ListReader T H' a v0 v1 := let ⟨dx, h⟩ := h; ⟨dx, e a _ h⟩
theorem I_ListReader.listed {v0 v1 : V} (h : I_ListReader T H a v0 v1) : FldAt K H a "listed" v0 := let ⟨dx, h⟩ := h; ⟨_, dx, _, h, T.cl_ListReader, T.n_ListReader_listed, lk0⟩
theorem put_ListReader_listed {v0 v1 y : V} : putF "listed" y (R_ListReader v0 v1) = R_ListReader y v1 := put0
theorem new_ListReader_listed {v0 : V} : putF "listed" v0 ([] : List (Str × V)) = ([("listed", v0)] : List (Str × V)) := rfl
theorem I_ListReader.awaited {v0 v1 : V} (h : I_ListReader T H a v0 v1) : FldAt K H a "awaited" v1 := let ⟨dx, h⟩ := h; ⟨_, dx, _, h, T.cl_ListReader, T.n_ListReader_awaited, lkS (by decide +kernel) (lk0)⟩
theorem put_ListReader_awaited {v0 v1 y : V} : putF "awaited" y (R_ListReader v0 v1) = R_ListReader v0 y := putS (by decide +kernel) (put0)
theorem new_ListReader_awaited {v0 v1 : V} : putF "awaited" v1 ([("listed", v0)] : List (Str × V)) = ([("listed", v0), ("awaited", v1)] : List (Str × V)) := putS (by decide +kernel) (rfl)
theorem no_ListReader_take {v0 v1 : V} : List.lookup ("take" : Str) (R_ListReader v0 v1) = none := lkN (by decide +kernel) (lkN (by decide +kernel) (rfl))
theorem no_ListReader_take_start {v0 v1 : V} : List.lookup ("take_start" : Str) (R_ListReader v0 v1) = none := lkN (by decide +kernel) (lkN (by decide +kernel) (rfl))
theorem no_ListReader_take_margin {v0 v1 : V} : List.lookup ("take_margin" : Str) (R_ListReader v0 v1) = none := lkN (by decide +kernel) (lkN (by decide +kernel) (rfl))
theorem no_ListReader_take_sign {v0 v1 : V} : List.lookup ("take_sign" : Str) (R_ListReader v0 v1) = none := lkN (by decide +kernel) (lkN (by decide +kernel) (rfl))
theorem no_ListReader_take_entry {v0 v1 : V} : List.lookup ("take_entry" : Str) (R_ListReader v0 v1) = none := lkN (by decide +kernel) (lkN (by decide +kernel) (rfl))
theorem no_ListReader_begin_entry {v0 v1 : V} : List.lookup ("begin_entry" : Str) (R_ListReader v0 v1) = none := lkN (by decide +kernel) (lkN (by decide +kernel) (rfl))
theorem no_ListReader_take_word {v0 v1 : V} : List.lookup ("take_word" : Str) (R_ListReader v0 v1) = none := lkN (by decide +kernel) (lkN (by decide +kernel) (rfl))
theorem no_ListReader_take_pattern {v0 v1 : V} : List.lookup ("take_pattern" : Str) (R_ListReader v0 v1) = none := lkN (by decide +kernel) (lkN (by decide +kernel) (rfl))
abbrev R_Holder (v0 : V) : List (Str × V) := [("listed", v0)]
def I_Holder (T : TX K mg) (H : Hp) (a : Addr) (v0 : V) : Prop := ∃ dx, H a = some (.ins T.C_Holder dx (R_Holder v0))
theorem I_Holder.mono {v0 : V} (e : Ex H H') (h : I_Holder T H a v0) : I_Holder T H' a v0 := let ⟨dx, h⟩ := h; ⟨dx, e a _ h⟩
theorem I_Holder.listed {v0 : V} (h : I_Holder T H a v0) : FldAt K H a "listed" v0 := let ⟨dx, h⟩ := h; ⟨_, dx, _, h, T.cl_Holder, T.n_Holder_listed, lk0⟩
theorem put_Holder_listed {v0 y : V} : putF "listed" y (R_Holder v0) = R_Holder y := put0
theorem new_Holder_listed {v0 : V} : putF "listed" v0 ([] : List (Str × V)) = ([("listed", v0)] : List (Str × V)) := rfl
theorem no_Holder_load {v0 : V} : List.lookup ("load" : Str) (R_Holder v0) = none := lkN (by decide +kernel) (rfl)
theorem no_Holder_goals {v0 : V} : List.lookup ("goals" : Str) (R_Holder v0) = none := lkN (by decide +kernel) (rfl)
theorem no_Holder_family {v0 : V} : List.lookup ("family" : Str) (R_Holder v0) = none := lkN (by decide +kernel) (rfl)
theorem no_Holder_piece {v0 : V} : List.lookup ("piece" : Str) (R_Holder v0) = none := lkN (by decide +kernel) (rfl)
theorem no_Holder_least {v0 : V} : List.lookup ("least" : Str) (R_Holder v0) = none := lkN (by decide +kernel) (rfl)
theorem no_Holder_greedy {v0 : V} : List.lookup ("greedy" : Str) (R_Holder v0) = none := lkN (by decide +kernel) (rfl)
theorem no_Holder_bound {v0 : V} : List.lookup ("bound" : Str) (R_Holder v0) = none := lkN (by decide +kernel) (rfl)
theorem no_Holder_check {v0 : V} : List.lookup ("check" : Str) (R_Holder v0) = none := lkN (by decide +kernel) (rfl)
theorem no_Holder_refusal {v0 : V} : List.lookup ("refusal" : Str) (R_Holder v0) = none := lkN (by decide +kernel) (rfl)
theorem no_Holder_uncovered {v0 : V} : List.lookup ("uncovered" : Str) (R_Holder v0) = none := lkN (by decide +kernel) (rfl)
def F_Goal : List V → List (Str × V)
  | [x, y] => R_Goal x y
  | _ => []
theorem ok_Goal___init__ (T : TX K mg) : FnOk P w K mg base CX0 1 T.f_Goal___init__ T.d_Goal___init__ ["self", "word", "gap"] (spSet T.C_Goal 2 F_Goal) := by
  refine T.F_Goal___init__.ok sc_Goal___init__ (fun vs H Q E h => ?_) (fun cdv A outer s H vs Q E hr h => ?_)
  · obtain ⟨p, dx, args, rfl, hl, _⟩ := h
    show args.length + 1 = 3
    omega
  · obtain ⟨p, dx, args, rfl, hl, hp, k⟩ := h
    obtain ⟨x, y, rfl⟩ : ∃ x y, args = [x, y] := by
      match args, hl with
      | [x, y], _ => exact ⟨x, y, rfl⟩
    refine ⟨_, (pss_cons (ps_fld (pv 0) (pv 1) rfl)
    (pss_one (ps_fld (pv 0) (pv 2) rfl))), ?_⟩
    refine ⟨_, rfl, _, rfl, p, T.C_Goal, dx, _, rfl, hp, T.cl_Goal, T.n_Goal_word, (by show 0 < 1000; decide), ?_⟩
    refine ⟨_, rfl, _, rfl, p, T.C_Goal, dx, _, rfl, upd_same, T.cl_Goal, T.n_Goal_gap, (by rw [new_Goal_word]; show 1 < 1000; decide), ?_⟩
    refine k _ ?_ fun b o hb hne => ?_
    · rw [upd_same, new_Goal_word, new_Goal_gap] <;> rfl
    · rw [upd_ne hne, upd_ne hne]
      exact hb
def F_Choice : List V → List (Str × V)
  | [x, y] => R_Choice x y
  | _ => []
theorem ok_Choice___init__ (T : TX K mg) : FnOk P w K mg base CX0 1 T.f_Choice___init__ T.d_Choice___init__ ["self", "numbers", "size"] (spSet T.C_Choice 2 F_Choice) := by
  refine T.F_Choice___init__.ok sc_Choice___init__ (fun vs H Q E h => ?_) (fun cdv A outer s H vs Q E hr h => ?_)
  · obtain ⟨p, dx, args, rfl, hl, _⟩ := h
    show args.length + 1 = 3
    omega
  · obtain ⟨p, dx, args, rfl, hl, hp, k⟩ := h
    obtain ⟨x, y, rfl⟩ : ∃ x y, args = [x, y] := by
      match args, hl with
      | [x, y], _ => exact ⟨x, y, rfl⟩
    refine ⟨_, (pss_cons (ps_fld (pv 0) (pv 1) rfl)
    (pss_one (ps_fld (pv 0) (pv 2) rfl))), ?_⟩
    refine ⟨_, rfl, _, rfl, p, T.C_Choice, dx, _, rfl, hp, T.cl_Choice, T.n_Choice_numbers, (by show 0 < 1000; decide), ?_⟩
    refine ⟨_, rfl, _, rfl, p, T.C_Choice, dx, _, rfl, upd_same, T.cl_Choice, T.n_Choice_size, (by rw [new_Choice_numbers]; show 1 < 1000; decide), ?_⟩
    refine k _ ?_ fun b o hb hne => ?_
    · rw [upd_same, new_Choice_numbers, new_Choice_size] <;> rfl
    · rw [upd_ne hne, upd_ne hne]
      exact hb
def F_Token : List V → List (Str × V)
  | [x, y] => R_Token x y
  | _ => []
theorem ok_Token___init__ (T : TX K mg) : FnOk P w K mg base CX0 1 T.f_Token___init__ T.d_Token___init__ ["self", "text", "place"] (spSet T.C_Token 2 F_Token) := by
  refine T.F_Token___init__.ok sc_Token___init__ (fun vs H Q E h => ?_) (fun cdv A outer s H vs Q E hr h => ?_)
  · obtain ⟨p, dx, args, rfl, hl, _⟩ := h
    show args.length + 1 = 3
    omega
  · obtain ⟨p, dx, args, rfl, hl, hp, k⟩ := h
    obtain ⟨x, y, rfl⟩ : ∃ x y, args = [x, y] := by
      match args, hl with
      | [x, y], _ => exact ⟨x, y, rfl⟩
    refine ⟨_, (pss_cons (ps_fld (pv 0) (pv 1) rfl)
    (pss_one (ps_fld (pv 0) (pv 2) rfl))), ?_⟩
    refine ⟨_, rfl, _, rfl, p, T.C_Token, dx, _, rfl, hp, T.cl_Token, T.n_Token_text, (by show 0 < 1000; decide), ?_⟩
    refine ⟨_, rfl, _, rfl, p, T.C_Token, dx, _, rfl, upd_same, T.cl_Token, T.n_Token_place, (by rw [new_Token_text]; show 1 < 1000; decide), ?_⟩
    refine k _ ?_ fun b o hb hne => ?_
    · rw [upd_same, new_Token_text, new_Token_place] <;> rfl
    · rw [upd_ne hne, upd_ne hne]
      exact hb
def F_Fault : List V → List (Str × V)
  | [x, y] => R_Fault x y
  | _ => []
theorem ok_Fault___init__ (T : TX K mg) : FnOk P w K mg base CX0 1 T.f_Fault___init__ T.d_Fault___init__ ["self", "code", "place"] (spSet T.C_Fault 2 F_Fault) := by
  refine T.F_Fault___init__.ok sc_Fault___init__ (fun vs H Q E h => ?_) (fun cdv A outer s H vs Q E hr h => ?_)
  · obtain ⟨p, dx, args, rfl, hl, _⟩ := h
    show args.length + 1 = 3
    omega
  · obtain ⟨p, dx, args, rfl, hl, hp, k⟩ := h
    obtain ⟨x, y, rfl⟩ : ∃ x y, args = [x, y] := by
      match args, hl with
      | [x, y], _ => exact ⟨x, y, rfl⟩
    refine ⟨_, (pss_cons (ps_fld (pv 0) (pv 1) rfl)
    (pss_one (ps_fld (pv 0) (pv 2) rfl))), ?_⟩
    refine ⟨_, rfl, _, rfl, p, T.C_Fault, dx, _, rfl, hp, T.cl_Fault, T.n_Fault_code, (by show 0 < 1000; decide), ?_⟩
    refine ⟨_, rfl, _, rfl, p, T.C_Fault, dx, _, rfl, upd_same, T.cl_Fault, T.n_Fault_place, (by rw [new_Fault_code]; show 1 < 1000; decide), ?_⟩
    refine k _ ?_ fun b o hb hne => ?_
    · rw [upd_same, new_Fault_code, new_Fault_place] <;> rfl
    · rw [upd_ne hne, upd_ne hne]
      exact hb
end
end LP
namespace LP
open PySem PySem.Spec PyProof.Rows L2 Evl
open TL (tl tl_append spl pre spl_hit spl_miss pre_of_head split_spl kind_ok)
open VahypBase (Bytes isLetter isDigit inChunk)
/-- the text of some bytes -/
def S (b : Bytes) : Str := ⟨(b.map UInt8.toNat).toArray⟩
theorem S_tl (b : Bytes) : tl (S b) = b.map UInt8.toNat := rfl
theorem S_len (b : Bytes) : (S b).length = b.length := by
  show (b.map UInt8.toNat).toArray.size = b.length
  rw [List.size_toArray, List.length_map]
theorem str_ext {a b : Str} (h : tl a = tl b) : a = b := by
  cases a
  cases b
  congr 1
  exact Array.toList_inj.mp h
theorem toNat_map_inj : ∀ {a b : Bytes}, a.map UInt8.toNat = b.map UInt8.toNat → a = b
  | [], [], _ => rfl
  | [], _ :: _, h => by cases h
  | _ :: _, [], h => by cases h
  | x :: a, y :: b, h => by
    have h1 := (List.cons.inj h).1
    have h2 := toNat_map_inj (List.cons.inj h).2
    rw [h2, UInt8.toNat_inj.mp h1]
theorem S_inj {a b : Bytes} (h : S a = S b) : a = b := toNat_map_inj (congrArg tl h)
theorem S_eq (a b : Bytes) : decide (V.str (S a) = V.str (S b)) = (a == b) := by
  by_cases c : a = b
  · rw [c]
    simp
  · rw [decide_eq_false (fun q => c (S_inj (V.str.inj q)))]
    exact (beq_eq_false_iff_ne.mpr c).symm
theorem S_app (a b : Bytes) : S a ++ S b = S (a ++ b) := str_ext (by rw [tl_append, S_tl, S_tl, S_tl, List.map_append])
theorem S_at (b : Bytes) (i : Nat) : (S b).cps[i]? = (b[i]?).map UInt8.toNat := by
  show (b.map UInt8.toNat).toArray[i]? = _
  rw [List.getElem?_toArray, List.getElem?_map]
theorem S_atI (b : Bytes) (i : Nat) : atI (S b).cps.toList (i : Int) = (b[i]?).map UInt8.toNat := by
  show atI (b.map UInt8.toNat) (i : Int) = _
  unfold atI ixN
  rw [if_pos (by omega)]
  by_cases h : i < b.length
  · rw [if_pos (by rw [List.length_map]; omega)]
    simp
  · rw [if_neg (by rw [List.length_map]; omega), List.getElem?_eq_none (by omega)] <;> rfl
theorem S_one (c : UInt8) : S [c] = ⟨#[c.toNat]⟩ := rfl
theorem S_cut (b : Bytes) (i j : Nat) (h : i ≤ j) : cutS (S b) (some (i : Int)) (some (j : Int)) = S ((b.drop i).take (j - i)) := by
  refine str_ext ?_
  show (((b.map UInt8.toNat).drop (HT.sIx (S b).length 0 (some (i : Int)))).take _) = _
  rw [HT.sIx_nat, HT.sIx_nat, S_len, S_tl, List.map_take, List.map_drop]
  by_cases c : i ≤ b.length
  · rw [Nat.min_eq_left c]
    by_cases d : j ≤ b.length
    · rw [Nat.min_eq_left d]
    · rw [Nat.min_eq_right (by omega), List.take_of_length_le (by simp), List.take_of_length_le (by simp; omega)]
  · have e1 : List.drop (min i b.length) (List.map UInt8.toNat b) = [] := List.drop_of_length_le (by rw [List.length_map]; omega)
    have e2 : List.drop i (List.map UInt8.toNat b) = [] := List.drop_of_length_le (by rw [List.length_map]; omega)
    rw [e1, e2]
    simp
theorem S_to (b : Bytes) (j : Nat) : cutS (S b) none (some (j : Int)) = S (b.take j) := by
  refine str_ext ?_
  show (((b.map UInt8.toNat).drop (HT.sIx (S b).length 0 none)).take _) = _
  rw [HT.sIx_nat, HT.sIx_none, S_len, S_tl, List.map_take]
  by_cases d : j ≤ b.length
  · rw [Nat.min_eq_left d] <;> rfl
  · rw [Nat.min_eq_right (by omega), List.take_of_length_le (by simp), List.take_of_length_le (by simp; omega)] <;> rfl
theorem S_from (b : Bytes) (i : Nat) : cutS (S b) (some (i : Int)) none = S (b.drop i) := by
  refine str_ext ?_
  show (((b.map UInt8.toNat).drop (HT.sIx (S b).length 0 (some (i : Int)))).take _) = _
  rw [HT.sIx_nat, HT.sIx_none, S_len, S_tl, List.map_drop]
  by_cases c : i ≤ b.length
  · rw [Nat.min_eq_left c, List.take_of_length_le (by simp)]
  · rw [Nat.min_eq_right (by omega), List.drop_of_length_le (by simp), List.drop_of_length_le (by simp; omega)]
    simp
/-- all but the last sign -/
theorem S_but (b : Bytes) : cutS (S b) none (some (-1)) = S b.dropLast := by
  refine str_ext ?_
  show (((b.map UInt8.toNat).drop (HT.sIx (S b).length 0 none)).take (HT.sIx (S b).length (S b).length (some (-1)) - HT.sIx (S b).length 0 none)) = _
  rw [HT.sIx_none, S_len, S_tl, List.dropLast_eq_take, List.map_take, List.drop_zero, Nat.sub_zero]
  congr 1
  show (if (-1 : Int) < 0 then ((-1 : Int) + (b.length : Int)).toNat else min (-1 : Int).toNat b.length) = b.length - 1
  rw [if_pos (by decide)]
  omega
theorem alpha_all : ∀ n : Nat, n < 256 → (inChunk (UInt8.ofNat n) = true → Unicode.isAlpha n = isLetter (UInt8.ofNat n)) := by decide +kernel
theorem digit_all : ∀ n : Nat, n < 256 → (inChunk (UInt8.ofNat n) = true → Unicode.isDigit n = isDigit (UInt8.ofNat n)) := by decide +kernel
theorem alpha_of {c : UInt8} (h : inChunk c = true) : Unicode.isAlpha c.toNat = isLetter c := by
  have h1 := alpha_all c.toNat (UInt8.toNat_lt c)
  rw [UInt8.ofNat_toNat] at h1
  exact h1 h
theorem digit_of {c : UInt8} (h : inChunk c = true) : Unicode.isDigit c.toNat = isDigit c := by
  have h1 := digit_all c.toNat (UInt8.toNat_lt c)
  rw [UInt8.ofNat_toNat] at h1
  exact h1 h
def Chk (b : Bytes) : Prop := ∀ c ∈ b, inChunk c = true
theorem all_map {f : Nat → Bool} {g : UInt8 → Bool} : ∀ {b : Bytes}, (∀ c ∈ b, f c.toNat = g c) → (b.map UInt8.toNat).all f = b.all g
  | [], _ => rfl
  | x :: b, h => by
    rw [List.map_cons, List.all_cons, List.all_cons, h x (List.mem_cons_self ..), all_map fun c hc => h c (List.mem_cons_of_mem _ hc)]
theorem S_alpha {b : Bytes} (h : Chk b) : Txt.isalpha (S b) = (!b.isEmpty && b.all isLetter) := by
  unfold Txt.isalpha
  rw [S_len]
  have e : (S b).cps.all Unicode.isAlpha = b.all isLetter := by
    rw [← Array.all_toList]
    exact all_map fun c hc => alpha_of (h c hc)
  rw [e]
  cases b <;> simp
theorem S_digit {b : Bytes} (h : Chk b) : Txt.isdigit (S b) = (!b.isEmpty && b.all isDigit) := by
  unfold Txt.isdigit
  rw [S_len]
  have e : (S b).cps.all Unicode.isDigit = b.all isDigit := by
    rw [← Array.all_toList]
    exact all_map fun c hc => digit_of (h c hc)
  rw [e]
  cases b <;> simp
/-- the parts between the bytes 45 -/
def partsB : Bytes → List Bytes
  | [] => [[]]
  | c :: r => if c = 45 then [] :: partsB r else match partsB r with
    | p :: ps => (c :: p) :: ps
    | [] => [[c]]
theorem partsB_ne (b : Bytes) : partsB b ≠ [] := by
  cases b with
  | nil => simp [partsB]
  | cons c r =>
    unfold partsB
    split
    · simp
    · split <;> simp
def glue (acc : List Nat) : List (List Nat) → List (List Nat)
  | p :: ps => (acc ++ p) :: ps
  | [] => [acc]
theorem spl_parts : ∀ (b : Bytes) (acc : List Nat), spl [45] 0 acc (b.map UInt8.toNat) = glue acc ((partsB b).map fun p => p.map UInt8.toNat)
  | [], acc => by
    show [acc] = [acc ++ []]
    rw [List.append_nil]
  | c :: r, acc => by
    rw [List.map_cons]
    by_cases h : c = 45
    · subst h
      rw [spl_hit (S := [45]) (by rfl)]
      show acc :: spl [45] 0 [] (r.map UInt8.toNat) = glue acc ((partsB (45 :: r)).map fun p => p.map UInt8.toNat)
      rw [spl_parts r []]
      have e : partsB (45 :: r) = [] :: partsB r := by
        conv => lhs; unfold partsB
        rw [if_pos rfl]
      rw [e]
      cases h2 : partsB r with
      | nil => exact absurd h2 (partsB_ne r)
      | cons p ps =>
        simp [glue]
    · have hn : ¬ c.toNat = 45 := fun q => h (UInt8.toNat_inj.mp q)
      rw [spl_miss (S := [45]) (pre_of_head [] (r.map UInt8.toNat) hn), spl_parts r]
      have e : partsB (c :: r) = match partsB r with
        | p :: ps => (c :: p) :: ps
        | [] => [[c]] := by
        conv => lhs; unfold partsB
        rw [if_neg h]
      rw [e]
      cases h2 : partsB r with
      | nil => exact absurd h2 (partsB_ne r)
      | cons p ps =>
        simp [glue]
theorem S_lit45 : ("-" : Str) = S [45] := by decide +kernel
theorem S_lit46 : ("." : Str) = S [46] := by decide +kernel
theorem S_lit48 : ("0" : Str) = S [48] := by decide +kernel
theorem S_lit49 : ("1" : Str) = S [49] := by decide +kernel
theorem S_lit0 : ("" : Str) = S [] := by decide +kernel
theorem S_lit59 : (";" : Str) = S [59] := by decide +kernel
theorem S_lit63 : ("?" : Str) = S [63] := by decide +kernel
theorem S_margins : ("margins" : Str) = S (VahypBase.word "margins") := by decide +kernel
theorem S_word : ("word" : Str) = S (VahypBase.word "word") := by decide +kernel
theorem S_pattern : ("pattern" : Str) = S (VahypBase.word "pattern") := by decide +kernel
theorem map_tl_inj : ∀ {a b : List Str}, a.map tl = b.map tl → a = b
  | [], [], _ => rfl
  | [], _ :: _, h => by cases h
  | _ :: _, [], h => by cases h
  | x :: a, y :: b, h => by
    rw [str_ext (List.cons.inj h).1, map_tl_inj (List.cons.inj h).2]
theorem S_split (b : Bytes) : Txt.split (S b) "-" = (partsB b).map S := by
  have hy : tl ("-" : Str) = [45] := by decide +kernel
  refine map_tl_inj ?_
  rw [split_spl (S b) "-" (by rw [hy]; simp) (kind_ok (by decide +kernel)), hy, S_tl, spl_parts b []]
  cases h2 : partsB b with
  | nil => exact absurd h2 (partsB_ne b)
  | cons p ps =>
    simp [glue, S_tl]
theorem S_head (b : Bytes) : Txt.startswith (S b) "." = (b.head? == some 46) := by
  unfold Txt.startswith
  rw [PySem.StrLaws.subAt_eq, S_len]
  have hy : ("." : Str).cps.toList = [46] := by decide +kernel
  have hl : ("." : Str).length = 1 := by decide +kernel
  rw [hy, hl]
  cases b with
  | nil => rfl
  | cons c r =>
    show (decide (0 + 1 ≤ r.length + 1) && ([c.toNat] == [46])) = (some c == some 46)
    rw [decide_eq_true (by omega), Bool.true_and]
    by_cases h : c = 46
    · rw [h] <;> rfl
    · have hn : ¬ c.toNat = 46 := fun q => h (UInt8.toNat_inj.mp q)
      rw [beq_eq_false_iff_ne.mpr (by simpa using hn), beq_eq_false_iff_ne.mpr (by simpa using h)]
theorem S_last (b : Bytes) : Txt.endswith (S b) "." = (b.getLast? == some 46) := by
  unfold Txt.endswith
  rw [PySem.StrLaws.subAt_eq, S_len]
  have hy : ("." : Str).cps.toList = [46] := by decide +kernel
  have hl : ("." : Str).length = 1 := by decide +kernel
  rw [hy, hl]
  cases hb : b.getLast? with
  | none =>
    have e : b = [] := List.getLast?_eq_none_iff.mp hb
    subst e
    rfl
  | some c =>
    obtain ⟨a, ea⟩ := List.getLast?_eq_some_iff.mp hb
    subst ea
    have e2 : List.take 1 (List.drop ((a ++ [c]).length - 1) (S (a ++ [c])).cps.toList) = [c.toNat] := by
      show List.take 1 (List.drop ((a ++ [c]).length - 1) ((a ++ [c]).map UInt8.toNat)) = [c.toNat]
      rw [List.map_append, List.drop_append]
      have e4 : List.drop ((a ++ [c]).length - 1) (List.map UInt8.toNat a) = [] := List.drop_of_length_le (by simp)
      rw [e4]
      simp
    rw [e2]
    have e3 : decide (0 + 1 ≤ (a ++ [c]).length) = true := by
      rw [decide_eq_true]
      simp
    rw [e3, Bool.true_and]
    by_cases h : c = 46
    · rw [h] <;> rfl
    · have hn : ¬ c.toNat = 46 := fun q => h (UInt8.toNat_inj.mp q)
      rw [beq_eq_false_iff_ne.mpr (by simpa using hn), beq_eq_false_iff_ne.mpr (by simpa using h)]
theorem mem_nat {c : UInt8} {b : Bytes} : c.toNat ∈ b.map UInt8.toNat ↔ c ∈ b := by
  rw [List.mem_map]
  exact ⟨fun ⟨x, hx, e⟩ => by rw [← UInt8.toNat_inj.mp e]; exact hx, fun h => ⟨c, h, rfl⟩⟩
theorem S_has (c : UInt8) (b : Bytes) : decide (c.toNat ∈ (S b).cps.toList) = b.contains c := by
  show decide (c.toNat ∈ b.map UInt8.toNat) = _
  rw [Bool.eq_iff_iff, decide_eq_true_eq, List.contains_iff_mem]
  exact mem_nat
theorem S_repl (b : Bytes) : Txt.replace (S b) "-" "" = S (b.filter (· != 45)) := by
  refine str_ext ?_
  have hy : ("-" : Str).cps.toList = [45] := by decide +kernel
  have hz : ("" : Str).cps.toList = [] := by decide +kernel
  show (Txt.replace (S b) "-" "").cps.toList = _
  rw [PySem.StrLaws.replace_list (by decide +kernel), hy, hz, S_tl]
  show PySem.StrLaws.replL [45] [] (b.map UInt8.toNat) = _
  induction b with
  | nil => rfl
  | cons c r ih =>
    rw [List.map_cons]
    by_cases h : c = 45
    · subst h
      rw [PySem.StrLaws.replL_hit (by simp) (by rfl)]
      show PySem.StrLaws.replL [45] [] (r.map UInt8.toNat) = _
      rw [ih, List.filter_cons, if_neg (by decide)]
    · have hn : ¬ c.toNat = 45 := fun q => h (UInt8.toNat_inj.mp q)
      rw [PySem.StrLaws.replL_miss (by simpa using hn), ih, List.filter_cons, if_pos (by simpa using h), List.map_cons]
theorem S_join (l : List Bytes) : Txt.join "" (l.map S) = S l.flatten := by
  refine str_ext ?_
  rw [TL.join_eq, TL.tl_join]
  have hz : tl ("" : Str) = [] := by decide +kernel
  rw [hz, S_tl, List.map_map]
  induction l with
  | nil => rfl
  | cons x r ih =>
    rw [List.flatten_cons, List.map_append, ← ih, List.map_cons]
    cases r with
    | nil => simp [TL.joinL, S_tl]
    | cons y r => simp [TL.joinL, S_tl]
theorem int_all : ∀ n : Nat, n < 58 → 48 ≤ n → PySem.intText? ⟨#[n]⟩ = some ((n - 48 : Nat) : Int) := by decide +kernel
theorem S_int {c : UInt8} (h : isDigit c = true) : PySem.intText? (S [c]) = some ((c.toNat - 48 : Nat) : Int) := by
  have h2 : 48 ≤ c.toNat ∧ c.toNat ≤ 57 := of_decide_eq_true h
  exact int_all c.toNat (by omega) h2.1
end LP
namespace LP
open PySem PySem.Spec PyProof.Rows L2 Evl
open VahypBase (Bytes isLetter isDigit inChunk)
/-! ## what stands in the heap -/
abbrev nl (l : List Nat) : List V := l.map fun (n : Nat) => V.int (n : Int)
theorem nl_flat (l : List Nat) : (nl l).all flatV = true := by
  rw [List.all_eq_true]
  intro x hx
  obtain ⟨n, _, rfl⟩ := List.mem_map.mp hx
  rfl
theorem nl_in (n : Nat) (l : List Nat) : inV (.int (n : Int)) (nl l) = l.contains n := by
  unfold inV
  rw [List.any_map, Bool.eq_iff_iff, List.any_eq_true, List.contains_iff_mem]
  constructor
  · rintro ⟨m, hm, e⟩
    have e1 : ((m : Int) == (n : Int)) = true := e
    have e2 : (m : Int) = (n : Int) := eq_of_beq e1
    have e3 : m = n := by omega
    rw [← e3]
    exact hm
  · intro h
    exact ⟨n, h, (show ((n : Int) == (n : Int)) = true from beq_self_eq_true _)⟩
/-- a pattern with one digit 1: its letters, how many stand before the digit, its points -/
structure MP where
  x : Bytes
  b : Nat
  f : Bool
  h : Bool
deriving DecidableEq
def ptB (f : Bool) : Bytes := if f = true then [46] else []
def showM (q : MP) : Bytes := ptB q.f ++ q.x.take q.b ++ [49] ++ q.x.drop q.b ++ ptB q.h
def fitsM (q : MP) (x : Bytes) (o : Nat) : Bool := ((x.drop o).take q.x.length == q.x) && ((!q.f || o == 0) && (!q.h || o + q.x.length == x.length))
def inM (l r n g : Int) : Bool := decide (1 ≤ g) && (decide (1 ≤ n - g) && (decide (l ≤ g) && decide (r ≤ n - g)))
def okM (l r : Nat) (q : MP) (x : Bytes) (o : Nat) : Bool := fitsM q x o && inM (l : Nat) (r : Nat) (x.length : Nat) ((o + q.b : Nat) : Int)
/-- the gaps at which a piece parts letters -/
def partM (l r : Nat) (q : MP) (x : Bytes) : List Nat := ((List.range (x.length + 1 - q.x.length)).filter (okM l r q x)).map fun o => o + q.b
section
variable {P : Program} {w : World} {K : PySem.W.Frag} {mg : Str → Option Value} {base : Heap} {H H' : Hp}
/-- a piece's object; cv: where its covered goals stand -/
def Pc (T : TX K mg) (H : Hp) (a : Addr) (q : MP) (cv : Addr) : Prop := I_Piece T H a (.str (S q.x)) (.int (q.b : Nat)) (.str (S (ptB q.f))) (.str (S (ptB q.h))) (.str (S (showM q))) (.ref cv)
theorem Pc.mono {T : TX K mg} {a : Addr} {q : MP} {cv : Addr} (e : Ex H H') (h : Pc T H a q cv) : Pc T H' a q cv := I_Piece.mono e h
def WdAt (T : TX K mg) (H : Hp) (a : Addr) (w : Vahypa.Word) : Prop := ∃ lb, I_Word T H a (.str (S w.x)) (.ref lb) ∧ H lb = some (.lst (nl w.cuts))
theorem WdAt.mono {T : TX K mg} {a : Addr} {w : Vahypa.Word} (e : Ex H H') (h : WdAt T H a w) : WdAt T H' a w := let ⟨lb, h1, h2⟩ := h; ⟨lb, h1.mono e, e _ _ h2⟩
def LdAt (T : TX K mg) (H : Hp) (a : Addr) (s : Vahypa.Lst) : Prop := ∃ lm lw lp, ∃ pb : List Bytes, I_Listed T H a (.ref lm) (.ref lw) (.ref lp) ∧ H lm = some (.lst [.int (s.l : Nat), .int (s.r : Nat)]) ∧ LsAt (WdAt T) H lw s.words ∧
  H lp = some (.lst (pb.map fun b => V.str (S b))) ∧ pb.length = s.pats.length
theorem LdAt.mono {T : TX K mg} {a : Addr} {s : Vahypa.Lst} (e : Ex H H') (h : LdAt T H a s) : LdAt T H' a s :=
  let ⟨lm, lw, lp, pb, h1, h2, h3, h4, h5⟩ := h; ⟨lm, lw, lp, pb, h1.mono e, e _ _ h2, LsAt.mono (R := WdAt T) (fun _ _ _ _ e h => WdAt.mono e h) e h3, e _ _ h4, h5⟩
def GoAt (T : TX K mg) (H : Hp) (a : Addr) (g : Vahypc.Goal) : Prop := I_Goal T H a (.int (g.w : Nat)) (.int (g.g : Nat))
theorem GoAt.mono {T : TX K mg} {a : Addr} {g : Vahypc.Goal} (e : Ex H H') (h : GoAt T H a g) : GoAt T H' a g := I_Goal.mono e h
/-- a list as it may be held -/
structure WF (s : Vahypa.Lst) : Prop where
  few : s.words.length ≤ 24
  fewp : s.pats.length ≤ 40
  le : s.l ≤ 5
  re : s.r ≤ 5
  len : ∀ w ∈ s.words, 2 ≤ w.x.length ∧ w.x.length ≤ 16
  cuts : ∀ w ∈ s.words, ∀ g ∈ w.cuts, 1 ≤ g ∧ g < w.x.length
  fewc : ∀ w ∈ s.words, w.cuts.length ≤ 16
  lets : ∀ w ∈ s.words, ∀ c ∈ w.x, isLetter c = true
/-! ## is_within_margins -/
def sp_is_within_margins : Sp := fun vs H Q _ => ∃ (m : Addr) (x : Str) (l r g : Int), vs = [.ref m, .str x, .int g] ∧ H m = some (.lst [.int l, .int r]) ∧ x.length ≤ 1000 ∧ RetV (.bl (inM l r x.length g)) H Q
theorem ok_is_within_margins (T : TX K mg) : FnOk P w K mg base CX0 1 T.f_is_within_margins T.d_is_within_margins ["margins", "letters", "gap"] (sp_is_within_margins) := by
  refine T.F_is_within_margins.ok sc_is_within_margins (fun vs H Q E h => ?_) (fun cdv A outer s0 H vs Q E hr h => ?_)
  · obtain ⟨m, x, l, r, g, rfl, hm, hx, k⟩ := h
    rfl
  obtain ⟨m, x, l, r, g, rfl, hm, hx, k⟩ := h
  refine ⟨_, (pss_cons (ps_set (i := 3) (sc_is_within_margins).nd rfl (Or.inl rfl) (pe_op op_sub (pe_callB call_len_str (by rfl) T.n_len PySem.boot_len (pa_cons (pv 1) pa_nil)) (pv 2)))
    (pss_one (ps_ret (pe_and (pe_cmpR op_ge (pv 2) pe_int (nomark _)) (pe_and (pe_cmpR op_ge (pv 3) pe_int (nomark _)) (pe_and (pe_cmpR op_ge (pv 2) (pe_ix ix_list (pv 0) pe_int (fun _ _ => rfl)) (nomark _)) (pe_one (pe_cmpR op_ge (pv 3) (pe_ix ix_list (pv 0) pe_int (fun _ _ => rfl)) (nomark _))))))))), Go.at ?_⟩
  refine gq_asg (ev_op (ev_cbv (ea_cons (ev_var rfl) ea_nil) fun H1 e Q q => ⟨x, rfl, sz_of (by omega), q⟩) (ev_var rfl) rv_I0) ?_
  refine go_ret (v := .bl (inM l r x.length g)) ?_ k
  refine ev_andV (ev_op (ev_var rfl) ev_c rv_I0) fun _ => ev_andV (ev_op (ev_var rfl) ev_c rv_I0) fun _ => ev_andV (ev_op (ev_var rfl) (ev_op (ev_var rfl) ev_c (rv_ixL (sq_of hm) (atI_nat (j := 0) rfl))) rv_I0) fun _ => ev_op (ev_var rfl) (ev_op (ev_var rfl) ev_c (rv_ixL (sq_of hm) (atI_nat (j := 1) rfl))) rv_I0
/-! ## fits -/
def sp_fits (T : TX K mg) : Sp := fun vs H Q _ => ∃ (a : Addr) (q : MP) (cv : Addr) (x : Bytes) (o : Nat), vs = [.ref a, .str (S x), .int (o : Nat)] ∧ Pc T H a q cv ∧ x.length ≤ 1000 ∧ q.x.length ≤ 1000 ∧ RetV (.bl (fitsM q x o)) H Q
theorem len_int {n m : Nat} : ((n : Int) + (m : Int)) = ((n + m : Nat) : Int) := by omega
theorem ok_fits (T : TX K mg) : FnOk P w K mg base CX0 1 T.f_fits T.d_fits ["piece", "letters", "place"] (sp_fits T) := by
  refine T.F_fits.ok sc_fits (fun vs H Q E h => ?_) (fun cdv A outer s0 H vs Q E hr h => ?_)
  · obtain ⟨a, q, cv, x, o, rfl, hp, hx, hqx, k⟩ := h
    rfl
  obtain ⟨a, q, cv, x, o, rfl, hp, hx, hqx, k⟩ := h
  refine ⟨_, (pss_cons (ps_set (i := 3) (sc_fits).nd rfl (Or.inl rfl) (pe_op op_add (pv 2) (pe_callB call_len_str (by rfl) T.n_len PySem.boot_len (pa_cons (pe_fld (pv 0) rfl) pa_nil))))
    (pss_cons (ps_if (pt_cmpR op_ne (pe_slice sl_str (pv 1) (po_some (pv 2)) (po_some (pv 3))) (pe_fld (pv 0) rfl) (nomark _)) (pss_one (ps_ret pe_bl)) pss_nil)
    (pss_cons (ps_if (PW.pt (pw_and (pt_cmpR op_ne (pe_fld (pv 0) rfl) pe_str (nomark _)) (pw_and1 (pt_cmpR op_ne (pv 2) pe_int (nomark _))))) (pss_one (ps_ret pe_bl)) pss_nil)
    (pss_one (ps_ret (pe_or (pe_cmpR op_eq (pe_fld (pv 0) rfl) pe_str (nomark _)) (pe_one (pe_cmpR op_eq (pv 3) (pe_callB call_len_str (by rfl) T.n_len PySem.boot_len (pa_cons (pv 1) pa_nil)) (nomark _))))))))), Go.at ?_⟩
  refine gq_asg (v := .int ((o + q.x.length : Nat) : Int)) (ev_is (ev_op (ev_var rfl) (ev_cbv (ea_cons (ev_fld (ev_var rfl) hp.letters) ea_nil) fun H1 e Q q' => ⟨_, rfl, sz_of (by rw [S_len]; omega), q'⟩) rv_I0) (by rw [S_len, len_int])) ?_
  refine gq_when (b := !((x.drop o).take q.x.length == q.x)) (et_is (et_test (ev_op (ev_slS (ev_var rfl) (eo_some (ev_var rfl)) (eo_some (ev_var rfl)) (sz_of (by rw [S_len]; omega))) (ev_fld (ev_var rfl) hp.letters) (rv_ne rfl))) ?_) (fun hb => ?_) fun hb => ?_
  · rw [S_cut _ _ _ (by omega), S_eq]
    congr 3
    omega
  · refine go_ret ev_c ?_
    have e : fitsM q x o = false := by
      have hb2 : ((x.drop o).take q.x.length == q.x) = false := by simpa using hb
      unfold fitsM
      rw [hb2, Bool.false_and]
    rw [e] at k
    exact k
  · have hb1 : ((x.drop o).take q.x.length == q.x) = true := by simpa using hb
    refine gq_when (b := q.f && !(o == 0)) (et_and (et_is (et_test (ev_op (ev_fld (ev_var rfl) hp.first_point) ev_c (rv_ne rfl))) (b := q.f) ?_) fun _ => et_is (et_test (ev_op (ev_var rfl) ev_c (rv_ne rfl))) ?_) (fun hc => ?_) fun hc => ?_
    · rw [S_lit0, S_eq]
      cases q.f <;> rfl
    · congr 1
      rw [dec_int, Bool.eq_iff_iff]
      simp
    · refine go_ret ev_c ?_
      have e : fitsM q x o = false := by
        unfold fitsM
        rw [Bool.and_eq_true] at hc
        have hc2 : (o == 0) = false := by simpa using hc.2
        rw [hc.1, hc2]
        simp
      rw [e] at k
      exact k
    · have hc1 : (!q.f || o == 0) = true := by
        cases h1 : q.f <;> cases h2 : (o == 0) <;> simp [h1, h2] at hc ⊢
      have e : fitsM q x o = (!q.h || o + q.x.length == x.length) := by
        unfold fitsM
        rw [hb1, hc1, Bool.true_and, Bool.true_and]
      rw [e] at k
      refine go_ret ?_ k
      refine ev_orV (ev_is (ev_op (ev_fld (ev_var rfl) hp.last_point) ev_c (rv_eq rfl)) ?_) fun _ => ev_is (ev_op (ev_var rfl) (ev_cbv (ea_cons (ev_var rfl) ea_nil) fun H1 e Q q' => ⟨_, rfl, sz_of (by rw [S_len]; omega), q'⟩) (rv_eq rfl)) ?_
      · rw [S_lit0, S_eq]
        cases q.h <;> rfl
      · rw [S_len, dec_int]
        congr 1
        rw [Bool.eq_iff_iff]
        simp
        omega
/-! ## parted_gaps -/
def sp_parted_gaps (T : TX K mg) : Sp := fun vs H Q _ => ∃ (m a cv : Addr) (q : MP) (l r : Nat) (x : Bytes), vs = [.ref m, .ref a, .str (S x)] ∧ H m = some (.lst [.int (l : Nat), .int (r : Nat)]) ∧ Pc T H a q cv ∧ x.length ≤ 1000 ∧ q.x.length ≤ 1000 ∧ RetL (nl (partM l r q x)) H Q
theorem ok_parted_gaps (T : TX K mg) : FnOk P w K mg base CX0 2 T.f_parted_gaps T.d_parted_gaps ["margins", "piece", "letters"] (sp_parted_gaps T) := by
  refine T.F_parted_gaps.ok sc_parted_gaps (fun vs H Q E h => ?_) (fun cdv A outer s0 H vs Q E hr h => ?_)
  · obtain ⟨m, a, cv, q, l, r, x, rfl, hm, hp, hx, hqx, k⟩ := h
    rfl
  obtain ⟨m, a, cv, q, l, r, x, rfl, hm, hp, hx, hqx, k⟩ := h
  refine ⟨_, (pss_cons (ps_set (i := 3) (sc_parted_gaps).nd rfl (Or.inl rfl) (pe_lst pa_nil))
    (pss_cons (ps_for PassesOwn.never rfl (pi_range1 (by rfl) T.n_range (pa_cons (pe_op op_add (pe_op op_sub (pe_callB call_len_str (by rfl) T.n_len PySem.boot_len (pa_cons (pv 2) pa_nil)) (pe_callB call_len_str (by rfl) T.n_len PySem.boot_len (pa_cons (pe_fld (pv 1) rfl) pa_nil))) pe_int) pa_nil)) (pg_name (i := 4) (sc_parted_gaps).nd rfl (Or.inl rfl)) (pss_cons (ps_set (i := 5) (sc_parted_gaps).nd rfl (Or.inl rfl) (pe_op op_add (pv 4) (pe_fld (pv 1) rfl)))
    (pss_one (ps_if (PW.pt (pw_and (pt_val (pe_call (ok_fits T) (hr.mono (by decide)) (by rfl) T.m_fits T.F_fits.kp T.b_fits .nil pass0 (pa_cons (pv 1) (pa_cons (pv 2) (pa_cons (pv 4) pa_nil))))) (pw_and1 (pt_val (pe_call (ok_is_within_margins T) (hr.mono (by decide)) (by rfl) T.m_is_within_margins T.F_is_within_margins.kp T.b_is_within_margins .nil pass0 (pa_cons (pv 0) (pa_cons (pv 2) (pa_cons (pv 5) pa_nil)))))))) (pss_one (ps_expr (pe_bm PySem.F.plainAttrs_list PySem.F.slot_list_append PySem.F.type_list_append mt_append (pv 3) (pa_cons (pv 5) pa_nil)))) pss_nil))))
    (pss_one (ps_ret (pv 3))))), Go.at ?_⟩
  refine gq_asgL (el_lst ea_nil (by decide)) fun g H1 ng e1 hg => ?_
  have hm1 := e1 _ _ hm
  have hp1 := hp.mono e1
  let f : Nat → Bool := okM l r q x
  let v : Nat → V := fun o => V.int ((o + q.b : Nat) : Int)
  refine gq_forR1 (n := (x.length : Int) - q.x.length + 1) (ea_cons (ev_is (ev_op (ev_op (ev_cbv (ea_cons (ev_var rfl) ea_nil) fun H1 e Q q' => ⟨_, rfl, sz_of (by rw [S_len]; omega), q'⟩) (ev_cbv (ea_cons (ev_fld (ev_var rfl) hp1.letters) ea_nil) fun H1 e Q q' => ⟨_, rfl, sz_of (by rw [S_len]; omega), q'⟩) rv_I0) ev_c rv_I0) (by rw [S_len, S_len])) ea_nil) (by omega)
    (fun i σ' H' => ∃ y1 y2, σ' = [some (.ref m), some (.ref a), some (.str (S x)), some (.ref g), y1, y2] ∧ Ex H H' ∧ H' g = some (.lst (given i f v))) (fun H2 e2 => ⟨none, none, rfl, e1.trans e2, e2 _ _ hg⟩) ?_ ?_
  · rintro i σ' H' hi ⟨y1, y2, rfl, eH, hG⟩
    refine gq_asg (v := v i) (ev_is (ev_op (ev_var rfl) (ev_fld (ev_var rfl) (hp.mono eH).before) rv_I0) (by show V.int _ = V.int _; rw [len_int])) ?_
    have hlen : (given i f v).length < 100000 := by
      have := given_len i f v
      omega
    refine go_if (b := f i) (et_and (et_B (ev_callV (ea_cons (ev_var rfl) (ea_cons (ev_var rfl) (ea_cons (ev_var rfl) ea_nil))) fun H1 e Q E k => ⟨a, q, cv, x, i, rfl, (hp.mono eH).mono e, hx, hqx, k⟩))
      fun _ => et_B (ev_callV (ea_cons (ev_var rfl) (ea_cons (ev_var rfl) (ea_cons (ev_var rfl) ea_nil))) fun H1 e Q E k => ⟨m, S x, l, r, _, rfl, (eH.trans e) _ _ hm, by rw [S_len]; exact hx, by rw [S_len]; exact k⟩)) (fun hb => ?_) fun hb => ?_
    · refine go_app hG (ev_var rfl) (ev_var rfl) hlen fun H2 e2 => ⟨_, _, rfl, Ex.mut (eH.trans e2) ng, ?_⟩
      rw [given_yes hb]
      exact upd_same
    · exact go_next fun H2 e2 => ⟨_, _, rfl, eH.trans e2, by rw [given_no hb]; exact e2 _ _ hG⟩
  · rintro σ' H' ⟨y1, y2, rfl, eH, hG⟩
    refine go_ret (ev_var rfl) fun H2 e2 => k g H2 ng (eH.trans e2) ?_
    have e : given ((x.length : Int) - q.x.length + 1).toNat f v = nl (partM l r q x) := by
      have e2 : ((x.length : Int) - q.x.length + 1).toNat = x.length + 1 - q.x.length := by omega
      unfold given partM nl
      rw [List.map_map, e2]
      rfl
    rw [e] at hG
    exact e2 _ _ hG
end
end LP
namespace LP
open PySem PySem.Spec PyProof.Rows L2 Evl
open VahypBase (Bytes isLetter isDigit inChunk)
section
variable {K : PySem.W.Frag} {σ : L2.St} {H H' : Hp} {ta tb te tx tl : TE} {t u : TT} {x y z v : V} {D : Ends} {tu tw tz : TS} {R : Hp → V → Hp → Prop}
theorem go_fld {tv : TE} {a C dx : Addr} {fs fs' : List (Str × V)} {f : Str} (hv : Ev tv σ H y) (ha : Ev ta σ H (.ref a)) (ho : H a = some (.ins C dx fs)) (hc : Cls K C) (hn : NoAttr K C f) (hl : fs.length < 1000) (hp : putF f y fs = fs')
    (k : ∀ H1, Ex H H1 → D.nx σ (upd H1 a (.ins C dx fs'))) : Go (sFld K ta tv f) D σ H := fun H1 e => hv H1 e _ fun H2 e2 => ha H2 (e.trans e2) _ fun H3 e3 => ⟨a, C, dx, fs, rfl, e3 _ _ (e2 _ _ (e _ _ ho)), hc, hn, hl, by rw [hp]; exact k H3 ((e.trans e2).trans e3)⟩
theorem gq_fld {tv : TE} {a C dx : Addr} {fs fs' : List (Str × V)} {f : Str} (hv : Ev tv σ H y) (ha : Ev ta σ H (.ref a)) (ho : H a = some (.ins C dx fs)) (hc : Cls K C) (hn : NoAttr K C f) (hl : fs.length < 1000) (hp : putF f y fs = fs')
    (k : ∀ H1, Ex H H1 → Go tz D σ (upd H1 a (.ins C dx fs'))) : Go (tSeq (sFld K ta tv f) tz) D σ H := go_fld (D := { D with nx := tz D }) hv ha ho hc hn hl hp fun H1 e => k H1 e _ (Ex.refl _)
/-- o.f = a value of which R tells -/
theorem go_fldR {tv : TE} {a C dx : Addr} {fs : List (Str × V)} {f : Str} (hv : EvR tv σ H R) (ha : Ev ta σ H (.ref a)) (ho : H a = some (.ins C dx fs)) (hc : Cls K C) (hn : NoAttr K C f) (hl : fs.length < 1000)
    (k : ∀ y H1 H2 H3, Ex H H1 → Ex H1 H2 → R H1 y H2 → Ex H2 H3 → D.nx σ (upd H3 a (.ins C dx (putF f y fs)))) : Go (sFld K ta tv f) D σ H := fun H1 e => hv H1 e _ fun y H2 e2 r => ha H2 (e.trans e2) _ fun H3 e3 => ⟨a, C, dx, fs, rfl, e3 _ _ (e2 _ _ (e _ _ ho)), hc, hn, hl, k y H1 H2 H3 e e2 r e3⟩
theorem gq_fldR {tv : TE} {a C dx : Addr} {fs : List (Str × V)} {f : Str} (hv : EvR tv σ H R) (ha : Ev ta σ H (.ref a)) (ho : H a = some (.ins C dx fs)) (hc : Cls K C) (hn : NoAttr K C f) (hl : fs.length < 1000)
    (k : ∀ y H1 H2 H3, Ex H H1 → Ex H1 H2 → R H1 y H2 → Ex H2 H3 → Go tz D σ (upd H3 a (.ins C dx (putF f y fs)))) : Go (tSeq (sFld K ta tv f) tz) D σ H := go_fldR (D := { D with nx := tz D }) hv ha ho hc hn hl fun y H1 H2 H3 e e2 r e3 => k y H1 H2 H3 e e2 r e3 _ (Ex.refl _)
theorem el_if {b : Bool} {xs : List V} (h : EvT t σ H b) (h1 : b = true → EvL ta σ H xs) (h2 : b = false → EvL tb σ H xs) : EvL (tIf t ta tb) σ H xs := fun H1 e Q q => h H1 e _ fun H2 e2 => by
  cases b with
  | true =>
    show ta σ H2 Q
    exact h1 rfl H2 (e.trans e2) Q fun p H3 hp e3 h3 => q p H3 (fresh_back e2 hp) (e2.trans e3) h3
  | false =>
    show tb σ H2 Q
    exact h2 rfl H2 (e.trans e2) Q fun p H3 hp e3 h3 => q p H3 (fresh_back e2 hp) (e2.trans e3) h3
theorem et_yes : EvT tYes σ H true := fun H1 e Q q => q H1 (Ex.refl H1)
/-- xs.extend of a list that is made on the way -/
theorem go_extR {l : Addr} {xs : List V} (hl : H l = some (.lst xs)) (ha : Ev ta σ H (.ref l)) (h : EvR te σ H R) (k : ∀ v H1 H2, Ex H H1 → Ex H1 H2 → R H1 v H2 → ∃ (b : Addr) (zs : List V), v = .ref b ∧ H2 b = some (.lst zs) ∧ xs.length + zs.length ≤ 100000 ∧ D.nx σ (upd H2 l (.lst (xs ++ zs)))) :
    Go (tDrop (tBM K "list" rExtend ta (tCons te tNil))) D σ H := fun H1 e => ha H1 e _ fun H2 e2 =>
  ⟨Or.inl ⟨rfl, xs, sq_of (e2 l _ (e l _ hl))⟩, h H2 (e.trans e2) _ fun v H3 e3 r => by
    obtain ⟨b, zs, rfl, h1, h2, h3⟩ := k v H2 H3 (e.trans e2) e3 r
    exact ⟨l, b, xs, zs, rfl, rfl, e3 _ _ (e2 _ _ (e _ _ hl)), h1, sz_of h2, h3⟩⟩
end
theorem zip_at {α : Type} {l : List α} {i : Nat} {x : α} (h : l[i]? = some x) : l.zipIdx[i]? = some (x, i) := by
  rw [List.getElem?_zipIdx, h]
  simp
section
variable {P : Program} {w : World} {K : PySem.W.Frag} {mg : Str → Option Value} {base : Heap} {H H' : Hp}
/-! ## goals_of -/
def gOf (s : Vahypa.Lst) (wi : Vahypa.Word × Nat) : List Vahypc.Goal := (wi.1.cuts.filter fun g => inM (s.l : Nat) (s.r : Nat) (wi.1.x.length : Nat) (g : Nat)).map fun g => ⟨wi.2, g⟩
def goalsM (s : Vahypa.Lst) : List Vahypc.Goal := s.words.zipIdx.flatMap (gOf s)
def sp_goals_of (T : TX K mg) : Sp := fun vs H Q _ => ∃ (a : Addr) (s : Vahypa.Lst), vs = [.ref a] ∧ LdAt T H a s ∧ WF s ∧ RetR (fun H0 v H2 => ∃ p, v = .ref p ∧ H0 p = none ∧ LsAt (GoAt T) H2 p (goalsM s)) H Q
theorem gOf_len {s : Vahypa.Lst} (W : WF s) {wi : Vahypa.Word × Nat} (h : wi.1 ∈ s.words) : (gOf s wi).length ≤ 16 := by
  unfold gOf
  rw [List.length_map]
  exact Nat.le_trans (List.length_filter_le _ _) (W.fewc _ h)
theorem flat_len {α β : Type} {f : α → List β} {n : Nat} : ∀ {l : List α}, (∀ x ∈ l, (f x).length ≤ n) → (l.flatMap f).length ≤ l.length * n
  | [], _ => by simp
  | x :: l, h => by
    rw [List.flatMap_cons, List.length_append, List.length_cons, Nat.succ_mul]
    have h1 := h x (List.mem_cons_self ..)
    have h2 := flat_len (f := f) (n := n) (l := l) fun y hy => h y (List.mem_cons_of_mem _ hy)
    omega
theorem mem_zip {α : Type} {l : List α} {p : α × Nat} (h : p ∈ l.zipIdx) : p.1 ∈ l := by
  obtain ⟨x, i⟩ := p
  have h2 := List.mem_zipIdx_iff_getElem?.mp h
  simp at h2
  exact List.mem_of_getElem? h2
theorem goals_len {s : Vahypa.Lst} (W : WF s) (n : Nat) : ((s.words.zipIdx.take n).flatMap (gOf s)).length ≤ 384 := by
  refine Nat.le_trans (flat_len (n := 16) fun x hx => gOf_len W (mem_zip (List.mem_of_mem_take hx))) ?_
  have h1 : (s.words.zipIdx.take n).length ≤ s.words.length := by
    rw [List.length_take, List.length_zipIdx]
    omega
  have := W.few
  omega
theorem ok_goals_of (T : TX K mg) : FnOk P w K mg base CX0 3 T.f_goals_of T.d_goals_of ["listed"] (sp_goals_of T) := by
  refine T.F_goals_of.ok sc_goals_of (fun vs H Q E h => ?_) (fun cdv A outer s0 H vs Q E hr h => ?_)
  · obtain ⟨a, s, rfl, hL, W, k⟩ := h
    rfl
  obtain ⟨a, s, rfl, hL, W, k⟩ := h
  refine ⟨_, (pss_cons (ps_set (i := 1) (sc_goals_of).nd rfl (Or.inl rfl) (pe_lst pa_nil))
    (pss_cons (ps_for PassesOwn.never rfl (pi_enum (by rfl) T.n_enumerate (pa_cons (pe_fld (pv 0) rfl) pa_nil)) (pg_tup (by rfl) (pgs_cons (pg_name (i := 2) (sc_goals_of).nd rfl (Or.inl rfl)) (pgs_cons (pg_name (i := 3) (sc_goals_of).nd rfl (Or.inl rfl)) pgs_nil))) (pss_one (ps_for PassesOwn.never rfl (pi_list (pe_fld (pv 3) rfl)) (pg_name (i := 4) (sc_goals_of).nd rfl (Or.inl rfl)) (pss_one (ps_if (pt_val (pe_call (ok_is_within_margins T) (hr.mono (by decide)) (by rfl) T.m_is_within_margins T.F_is_within_margins.kp T.b_is_within_margins .nil pass0 (pa_cons (pe_fld (pv 0) rfl) (pa_cons (pe_fld (pv 3) rfl) (pa_cons (pv 4) pa_nil))))) (pss_one (ps_expr (pe_bm PySem.F.plainAttrs_list PySem.F.slot_list_append PySem.F.type_list_append mt_append (pv 1) (pa_cons (pe_make T.M_Goal (ok_Goal___init__ T) (hr.mono (by decide)) (by rfl) T.m_Goal T.b_Goal___init__ .nil pass0 (pa_cons (pv 2) (pa_cons (pv 4) pa_nil))) pa_nil)))) pss_nil)))))
    (pss_one (ps_ret (pv 1))))), Go.at ?_⟩
  refine gq_asgL (el_lst ea_nil (by decide)) fun g H1 ng e1 hg => ?_
  obtain ⟨lm, lw, lp, pb, hI, hm, ⟨ws, hw, hW⟩, hpb, hpl⟩ := hL
  refine gq_forE (a := lw) (xs := ws.map V.ref) (ea_cons (ev_fld (ev_var rfl) (hI.mono e1).words) ea_nil)
    (fun i σ' H' => ∃ y2 y3 y4, σ' = [some (.ref a), some (.ref g), y2, y3, y4] ∧ Ex H H' ∧ LsAt (GoAt T) H' g ((s.words.zipIdx.take i).flatMap (gOf s))) (fun i σ' H' hi ⟨_, _, _, _, eH, _⟩ => sq_of (eH _ _ hw)) (fun H2 e2 => ⟨none, none, none, rfl, e1.trans e2, [], e2 _ _ hg, .nil⟩) ?_ ?_
  · rintro i x σ' H' H2 hi ⟨y2, y3, y4, rfl, eH, hG⟩ e2
    obtain ⟨wa, wd, hwa, hwd, rfl, hWd⟩ := hW.item hi
    have eH2 := eH.trans e2
    obtain ⟨lb, hIw0, hlb0⟩ := hWd
    have hIw := hIw0.mono eH2
    have hlb := eH2 _ _ hlb0
    have hmem : wd ∈ s.words := List.mem_of_getElem? hwd
    have hx16 := W.len _ hmem
    have hz : s.words.zipIdx[i]? = some (wd, i) := zip_at hwd
    refine go_forL (a := lb) (xs := nl wd.cuts) (ev_fld (ev_var rfl) hIw.breaks)
      (fun j σ' H' => ∃ y4, σ' = [some (.ref a), some (.ref g), some (.int (i : Nat)), some (.ref wa), y4] ∧ Ex H H' ∧ H' lb = some (.lst (nl wd.cuts)) ∧ LsAt (GoAt T) H' g ((s.words.zipIdx.take i).flatMap (gOf s) ++ ((wd.cuts.take j).filter fun g => inM (s.l : Nat) (s.r : Nat) (wd.x.length : Nat) (g : Nat)).map fun g => ⟨i, g⟩))
      (fun j σ' H' hj ⟨_, _, _, h, _⟩ => sq_of h) (fun H3 e3 => ⟨_, rfl, eH2.trans e3, e3 _ _ hlb, by rw [List.take_zero]; simpa using LsAt.mono (R := GoAt T) (fun _ _ _ _ e h => GoAt.mono e h) (e2.trans e3) hG⟩) ?_ ?_
    · rintro j x σ' H3 hj ⟨y5, rfl, eH3, hlb3, ⟨as, hgl, hA⟩⟩
      obtain ⟨c, hc, rfl⟩ := map_item hj
      have hI3 := hI.mono eH3
      have hIw3 := hIw0.mono eH3
      refine go_if (et_B (ev_callV (ea_cons (ev_fld (ev_var rfl) hI3.margins) (ea_cons (ev_fld (ev_var rfl) hIw3.letters) (ea_cons (ev_var rfl) ea_nil))) fun H4 e4 Q E k => ⟨lm, _, _, _, _, rfl, (eH3.trans e4) _ _ hm, by rw [S_len]; omega, k⟩)) (fun hb => ?_) fun hb => ?_
      · rw [S_len] at hb
        have hlen := goals_len W i
        have hlen2 : (((wd.cuts.take j).filter fun g => inM (s.l : Nat) (s.r : Nat) (wd.x.length : Nat) (g : Nat)).map fun g => (⟨i, g⟩ : Vahypc.Goal)).length ≤ 16 := by
          rw [List.length_map]
          refine Nat.le_trans (List.length_filter_le _ _) ?_
          rw [List.length_take]
          have := W.fewc _ hmem
          omega
        have hasl := hA.len
        rw [List.length_append] at hasl
        refine go_appR hgl (ev_var rfl) (evr_make (ea_cons (ev_var rfl) (ea_cons (ev_var rfl) ea_nil)) rfl) (by rw [List.length_map]; omega) fun v H4 H5 e4 e5 ⟨p, dx, hv, hp, hpI⟩ => ?_
        subst hv
        have e35 := e4.trans e5
        have hpg : p ≠ g := fun q => by
          rw [q, e4 _ _ hgl] at hp
          cases hp
        refine ⟨_, rfl, Ex.mut (eH3.trans e35) ng, by rw [upd_ne (ne_of_none hlb0 ng)]; exact e35 _ _ hlb3, as ++ [p], ?_, ?_⟩
        · rw [upd_same, List.map_append] <;> rfl
        · rw [take_next hc, List.filter_append, List.map_append, ← List.append_assoc, List.filter_cons, if_pos hb]
          have stay : ∀ b x, GoAt T H3 b x → GoAt T (upd H5 g (.lst (as.map V.ref ++ [V.ref p]))) b x := fun b x ⟨d, hd⟩ => ⟨d, by rw [upd_ne (ne_of (e35 _ _ hd) (e35 _ _ hgl) (by intro q; cases q))]; exact e35 _ _ hd⟩
          refine (hA.mono stay).snoc ⟨dx, ?_⟩
          rw [upd_ne hpg]
          exact hpI
      · rw [S_len] at hb
        refine go_next fun H4 e4 => ⟨_, rfl, eH3.trans e4, e4 _ _ hlb3, ?_⟩
        rw [take_next hc, List.filter_append, List.filter_cons, if_neg (by rw [hb]; decide), List.filter_nil, List.append_nil]
        exact LsAt.mono (R := GoAt T) (fun _ _ _ _ e h => GoAt.mono e h) e4 ⟨as, hgl, hA⟩
    · rintro σ' H3 ⟨y4, rfl, eH3, _, hG3⟩
      refine ⟨_, _, _, rfl, eH3, ?_⟩
      rw [take_next hz, List.flatMap_append]
      have e : List.take (nl wd.cuts).length wd.cuts = wd.cuts := List.take_of_length_le (by rw [List.length_map]; exact Nat.le_refl _)
      rw [e] at hG3
      simpa [gOf] using hG3
  · rintro σ' H3 ⟨y2, y3, y4, rfl, eH3, hG3⟩
    refine go_ret (ev_var rfl) fun H4 e4 => k _ H4 (eH3.trans e4) ⟨g, rfl, ng, ?_⟩
    have e : List.take (ws.map V.ref).length s.words.zipIdx = s.words.zipIdx := List.take_of_length_le (by rw [List.length_map, List.length_zipIdx, hW.len]; exact Nat.le_refl _)
    rw [e] at hG3
    exact LsAt.mono (R := GoAt T) (fun _ _ _ _ e h => GoAt.mono e h) e4 hG3
end
end LP
namespace LP
open PySem PySem.Spec PyProof.Rows L2 Evl
open VahypBase (Bytes isLetter isDigit inChunk)
section
variable {K : PySem.W.Frag} {σ : L2.St} {H H' : Hp} {ta tb te tx tl : TE} {t u : TT} {x y z v : V} {D : Ends} {tu tw tz : TS} {R : Hp → V → Hp → Prop}
theorem ev_addS {a b c : Bytes} (ha : Ev ta σ H (.str (S a))) (hb : Ev tb σ H (.str (S b))) (hz : a.length + b.length ≤ 100000) (hc : a ++ b = c) : Ev (tOp (fun x y H Q => ∃ i j, x = .str i ∧ y = .str j ∧ i.length + j.length ≤ sizeLine ∧ Q (.str (i ++ j)) H) ta tb) σ H (.str (S c)) :=
  ev_op ha hb fun H1 e Q q => ⟨_, _, rfl, rfl, by rw [S_len, S_len]; exact sz_of hz, by rw [S_app, hc]; exact q H1 (Ex.refl _)⟩
/-- a new instance by an __init__ of any promise -/
theorem evr_mk {C : Addr} {sp : Sp} {E : XK} {tr : TA} {vs : List V} (h : EvA tr σ H vs) (hb : ∀ H1 H2 v H3, Ex H1 H2 → R H2 v H3 → R H1 v H3)
    (hs : ∀ H1 p dx, Ex H H1 → H1 p = none → H1 dx = none → dx ≠ p → ∀ (Q : VK), (∀ H2, Ex H1 H2 → R H1 (.ref p) H2 → Q .non H2) → sp (.ref p :: (vs ++ [])) (upd (upd H1 dx (.own p)) p (.ins C dx [])) Q E) : EvR (tMake C sp [] E tr) σ H R := fun H1 e Q q =>
  h H1 e _ fun H2 e2 => fun p dx hp hd hne => hs H2 p dx (e.trans e2) hp hd hne _ fun H3 e3 r => ⟨rfl, q _ H3 (e2.trans e3) (hb H1 H2 _ H3 e2 r)⟩
end
theorem ex_new {H1 H' : Hp} {p dx C : Addr} (hp : H1 p = none) (hd : H1 dx = none) (k : ∀ b o, (upd (upd H1 dx (.own p)) p (.ins C dx [])) b = some o → b ≠ p → H' b = some o) : Ex H1 H' := fun b o hb =>
  k b o (by rw [upd_ne (ne_of_none hb hp), upd_ne (ne_of_none hb hd)]; exact hb) (ne_of_none hb hp)
section
variable {P : Program} {w : World} {K : PySem.W.Frag} {mg : Str → Option Value} {base : Heap} {H H' : Hp}
/-! ## Piece -/
def sp_Piece___init__ (T : TX K mg) : Sp := fun vs H Q _ => ∃ (p dx : Addr) (q : MP), vs = [.ref p, .str (S q.x), .int (q.b : Nat), .str (S (ptB q.f)), .str (S (ptB q.h))] ∧ H p = some (.ins T.C_Piece dx []) ∧ q.x.length ≤ 1000 ∧
  ∀ (H' : Hp) (c : Addr), Pc T H' p q c → H c = none → H' c = some (.lst []) → (∀ b o, H b = some o → b ≠ p → H' b = some o) → Q .non H'
theorem ptB_len (f : Bool) : (ptB f).length ≤ 1 := by cases f <;> decide
theorem ok_Piece___init__ (T : TX K mg) : FnOk P w K mg base CX0 1 T.f_Piece___init__ T.d_Piece___init__ ["self", "letters", "before", "first_point", "last_point"] (sp_Piece___init__ T) := by
  refine T.F_Piece___init__.ok sc_Piece___init__ (fun vs H Q E h => ?_) (fun cdv A outer s0 H vs Q E hr h => ?_)
  · obtain ⟨p, dx, q, rfl, hp, hx, k⟩ := h
    rfl
  obtain ⟨p, dx, q, rfl, hp, hx, k⟩ := h
  refine ⟨_, (pss_cons (ps_fld (pv 0) (pv 1) rfl)
    (pss_cons (ps_fld (pv 0) (pv 2) rfl)
    (pss_cons (ps_fld (pv 0) (pv 3) rfl)
    (pss_cons (ps_fld (pv 0) (pv 4) rfl)
    (pss_cons (ps_fld (pv 0) (pe_op op_add_str (pe_op op_add_str (pe_op op_add_str (pe_op op_add_str (pv 3) (pe_slice sl_str (pv 1) po_none (po_some (pv 2)))) pe_str) (pe_slice sl_str (pv 1) (po_some (pv 2)) po_none)) (pv 4)) rfl)
    (pss_one (ps_fld (pv 0) (pe_lst pa_nil) rfl))))))), Go.at ?_⟩
  have h1 := ptB_len q.f
  have h2 := ptB_len q.h
  refine gq_fld (ev_var rfl) (ev_var rfl) hp T.cl_Piece T.n_Piece_letters (by show 0 < 1000; decide) new_Piece_letters fun H1 e1 => ?_
  refine gq_fld (ev_var rfl) (ev_var rfl) upd_same T.cl_Piece T.n_Piece_before (by show 1 < 1000; decide) new_Piece_before fun H2 e2 => ?_
  refine gq_fld (ev_var rfl) (ev_var rfl) upd_same T.cl_Piece T.n_Piece_first_point (by show 2 < 1000; decide) new_Piece_first_point fun H3 e3 => ?_
  refine gq_fld (ev_var rfl) (ev_var rfl) upd_same T.cl_Piece T.n_Piece_last_point (by show 3 < 1000; decide) new_Piece_last_point fun H4 e4 => ?_
  refine gq_fld (y := .str (S (showM q))) ?_ (ev_var rfl) upd_same T.cl_Piece T.n_Piece_chunk (by show 4 < 1000; decide) new_Piece_chunk fun H5 e5 => ?_
  · refine ev_addS (a := ptB q.f ++ q.x.take q.b ++ [49] ++ q.x.drop q.b) (ev_addS (a := ptB q.f ++ q.x.take q.b ++ [49]) (ev_addS (a := ptB q.f ++ q.x.take q.b) (b := [49]) (ev_addS (a := ptB q.f) (b := q.x.take q.b) (ev_var rfl) (ev_is (ev_slS (ev_var rfl) eo_none (eo_some (ev_var rfl)) (sz_of (by rw [S_len]; omega))) (by rw [S_to])) ?_ rfl) (ev_is ev_c (by rw [S_lit49])) ?_ rfl)
      (ev_is (ev_slS (ev_var rfl) (eo_some (ev_var rfl)) eo_none (sz_of (by rw [S_len]; omega))) (by rw [S_from])) ?_ rfl) (ev_var rfl) ?_ rfl
    · rw [List.length_take]
      omega
    · rw [List.length_append, List.length_take]
      simp
      omega
    · simp only [List.length_append, List.length_take, List.length_drop, List.length_cons, List.length_nil]
      omega
    · simp only [List.length_append, List.length_take, List.length_drop, List.length_cons, List.length_nil]
      omega
  · refine go_fldR (EvL.r (el_lst ea_nil (by decide))) (ev_var rfl) upd_same T.cl_Piece T.n_Piece_covered (by show 5 < 1000; decide) fun y H6 H7 H8 e6 e7 ⟨c, hy, hc, hcl⟩ e8 => ?_
    subst hy
    -- what was there before, but for p
    have stay : ∀ b o, H b = some o → b ≠ p → H6 b = some o := fun b o hb hne => by
      refine e6 b o ?_
      rw [upd_ne hne]
      refine e5 b o ?_
      rw [upd_ne hne]
      refine e4 b o ?_
      rw [upd_ne hne]
      refine e3 b o ?_
      rw [upd_ne hne]
      refine e2 b o ?_
      rw [upd_ne hne]
      exact e1 b o hb
    have hcp : c ≠ p := fun z => by
      rw [z, e6 _ _ upd_same] at hc
      cases hc
    refine k _ c ⟨dx, ?_⟩ ?_ ?_ fun b o hb hne => ?_
    · rw [upd_same, new_Piece_covered]
    · cases hz : H c with
      | none => rfl
      | some o =>
        rw [stay c o hz hcp] at hc
        cases hc
    · rw [upd_ne hcp]
      exact e8 _ _ hcl
    · rw [upd_ne hne]
      exact e8 _ _ (e7 _ _ (stay b o hb hne))
/-- Piece(..): at p, its covered list new at c -/
def NewP (T : TX K mg) (q : MP) : Hp → V → Hp → Prop := fun H v H2 => ∃ p c, v = .ref p ∧ H p = none ∧ H c = none ∧ Pc T H2 p q c ∧ H2 c = some (.lst [])
theorem evr_Piece {σ : L2.St} {E : XK} {tr : TA} {T : TX K mg} {q : MP} (h : EvA tr σ H [.str (S q.x), .int (q.b : Nat), .str (S (ptB q.f)), .str (S (ptB q.h))]) (hq : q.x.length ≤ 1000) : EvR (tMake T.C_Piece (sp_Piece___init__ T) [] E tr) σ H (NewP T q) := by
  refine evr_mk h (fun H1 H2 v H3 e ⟨p, c, h1, h2, h3, h4⟩ => ⟨p, c, h1, fresh_back e h2, fresh_back e h3, h4⟩) fun H1 p dx e hp hd hne Q q' => ?_
  refine ⟨p, dx, q, rfl, upd_same, hq, fun H' c hP hc hcl k => ?_⟩
  have hcp : c ≠ p := fun z => by
    rw [z, upd_same] at hc
    cases hc
  have hcd : c ≠ dx := fun z => by
    rw [z, upd_ne hne, upd_same] at hc
    cases hc
  rw [upd_ne hcp, upd_ne hcd] at hc
  exact q' H' (ex_new hp hd k) ⟨p, c, rfl, hp, hc, hP, hcl⟩
/-! ## pointed_pieces -/
def ptL (b : Bool) : List Bool := if b = true then [false, true] else [false]
def pointedM (x : Bytes) (g o n : Nat) : List MP := (ptL (o + n == x.length)).flatMap fun h => (ptL (o == 0)).map fun f => ⟨(x.drop o).take n, g - o, f, h⟩
/-- a list of pieces at l, none of which H0 knows -/
def Ps (T : TX K mg) (H0 H : Hp) (l : Addr) (qs : List MP) : Prop := ∃ as : List Addr, H l = some (.lst (as.map V.ref)) ∧ At2 (fun a q => ∃ c, Pc T H a q c) as qs ∧ ∀ a ∈ as, H0 a = none
def sp_pointed_pieces (T : TX K mg) : Sp := fun vs H Q _ => ∃ (x : Bytes) (g o n : Nat), vs = [.str (S x), .int (g : Nat), .int (o : Nat), .int (n : Nat)] ∧ x.length ≤ 1000 ∧ o ≤ g ∧ RetR (fun H0 v H2 => ∃ p, v = .ref p ∧ H0 p = none ∧ Ps T H0 H2 p (pointedM x g o n)) H Q
abbrev ptV (l : List Bool) : List V := l.map fun f => V.str (S (ptB f))
theorem ptL_len (b : Bool) : (ptL b).length ≤ 2 := by cases b <;> decide
theorem el_pts {σ : L2.St} {t : TT} {b : Bool} (h : EvT t σ H b) : EvL (tIf t (tLst (tCons (tC (.str "")) (tCons (tC (.str ".")) tNil))) (tLst (tCons (tC (.str "")) tNil))) σ H (ptV (ptL b)) := by
  have e1 : V.str ("" : Str) = V.str (S (ptB false)) := by rw [S_lit0] <;> rfl
  have e2 : V.str ("." : Str) = V.str (S (ptB true)) := by rw [S_lit46] <;> rfl
  rw [e1, e2]
  refine el_if h (fun hb => ?_) fun hb => ?_
  · subst hb
    exact el_lst (ea_cons ev_c (ea_cons ev_c ea_nil)) (by decide)
  · subst hb
    exact el_lst (ea_cons ev_c ea_nil) (by decide)
theorem Ps.snoc {T : TX K mg} {H0 H1 H2 : Hp} {l p c : Addr} {qs : List MP} {q : MP} (h : Ps T H0 H1 l qs) (e : Ex H1 H2) (e0 : Ex H0 H1) (hp : H1 p = none) (hP : Pc T H2 p q c) (as : List Addr) (has : H1 l = some (.lst (as.map V.ref))) :
    Ps T H0 (upd H2 l (.lst (as.map V.ref ++ [V.ref p]))) l (qs ++ [q]) := by
  obtain ⟨as', h1, h2, h3⟩ := h
  rw [has] at h1
  have ea : as = as' := by
    have h4 : as.map V.ref = as'.map V.ref := by
      injection h1 with h1
      injection h1
    exact List.map_inj_right (fun a b z => by cases z; rfl) |>.mp h4
  subst ea
  have hpl : p ≠ l := fun z => by
    rw [z, has] at hp
    cases hp
  have stay : ∀ b x, (∃ c, Pc T H1 b x c) → ∃ c, Pc T (upd H2 l (.lst (as.map V.ref ++ [V.ref p]))) b x c := fun b x ⟨c, d, hd⟩ => ⟨c, d, by rw [upd_ne (ne_of (e _ _ hd) (e _ _ has) (by intro z; cases z))]; exact e _ _ hd⟩
  refine ⟨as ++ [p], by rw [upd_same, List.map_append] <;> rfl, (h2.mono stay).snoc ⟨c, ?_⟩, fun a ha => ?_⟩
  · obtain ⟨d, hd⟩ := hP
    exact ⟨d, by rw [upd_ne hpl]; exact hd⟩
  · rcases List.mem_append.mp ha with h | h
    · exact h3 a h
    · rw [List.mem_singleton.mp h]
      exact fresh_back e0 hp
theorem Ps.mono {T : TX K mg} {H0 H1 H2 : Hp} {l : Addr} {qs : List MP} (h : Ps T H0 H1 l qs) (e : Ex H1 H2) : Ps T H0 H2 l qs := let ⟨as, h1, h2, h3⟩ := h; ⟨as, e _ _ h1, h2.mono fun a q ⟨c, hc⟩ => ⟨c, hc.mono e⟩, h3⟩
theorem ok_pointed_pieces (T : TX K mg) : FnOk P w K mg base CX0 3 T.f_pointed_pieces T.d_pointed_pieces ["letters", "gap", "place", "length"] (sp_pointed_pieces T) := by
  refine T.F_pointed_pieces.ok sc_pointed_pieces (fun vs H Q E h => ?_) (fun cdv A outer s0 H vs Q E hr h => ?_)
  · obtain ⟨x, g, o, n, rfl, hx, hog, k⟩ := h
    rfl
  obtain ⟨x, g, o, n, rfl, hx, hog, k⟩ := h
  refine ⟨_, (pss_cons (ps_set (i := 4) (sc_pointed_pieces).nd rfl (Or.inl rfl) (pe_op op_add (pv 2) (pv 3)))
    (pss_cons (ps_set (i := 5) (sc_pointed_pieces).nd rfl (Or.inl rfl) (pe_ifExp (pt_cmpR op_eq (pv 2) pe_int (nomark _)) (pe_lst (pa_cons pe_str (pa_cons pe_str pa_nil))) (pe_lst (pa_cons pe_str pa_nil))))
    (pss_cons (ps_set (i := 6) (sc_pointed_pieces).nd rfl (Or.inl rfl) (pe_ifExp (pt_cmpR op_eq (pv 4) (pe_callB call_len_str (by rfl) T.n_len PySem.boot_len (pa_cons (pv 0) pa_nil)) (nomark _)) (pe_lst (pa_cons pe_str (pa_cons pe_str pa_nil))) (pe_lst (pa_cons pe_str pa_nil))))
    (pss_cons (ps_set (i := 7) (sc_pointed_pieces).nd rfl (Or.inl rfl) (pe_lst pa_nil))
    (pss_cons (ps_for PassesOwn.never rfl (pi_list (pv 6)) (pg_name (i := 8) (sc_pointed_pieces).nd rfl (Or.inl rfl)) (pss_one (ps_for PassesOwn.never rfl (pi_list (pv 5)) (pg_name (i := 9) (sc_pointed_pieces).nd rfl (Or.inl rfl)) (pss_one (ps_expr (pe_bm PySem.F.plainAttrs_list PySem.F.slot_list_append PySem.F.type_list_append mt_append (pv 7) (pa_cons (pe_make T.M_Piece (ok_Piece___init__ T) (hr.mono (by decide)) (by rfl) T.m_Piece T.b_Piece___init__ .nil pass0 (pa_cons (pe_slice sl_str (pv 0) (po_some (pv 2)) (po_some (pv 4))) (pa_cons (pe_op op_sub (pv 1) (pv 2)) (pa_cons (pv 9) (pa_cons (pv 8) pa_nil))))) pa_nil)))))))
    (pss_one (ps_ret (pv 7)))))))), Go.at ?_⟩
  refine gq_asg (v := .int ((o + n : Nat) : Int)) (ev_is (ev_op (ev_var rfl) (ev_var rfl) rv_I0) (by rw [len_int])) ?_
  refine gq_asgL (xs := ptV (ptL (o == 0))) (el_pts (et_is (et_test (ev_op (ev_var rfl) ev_c (rv_eq rfl))) (by rw [dec_int, Bool.eq_iff_iff]; simp))) fun lf H1 nf e1 hf => ?_
  refine gq_asgL (xs := ptV (ptL (o + n == x.length))) (el_pts (et_is (et_test (ev_op (ev_var rfl) (ev_cbv (ea_cons (ev_var rfl) ea_nil) fun H1 e Q q' => ⟨_, rfl, sz_of (by rw [S_len]; omega), q'⟩) (rv_eq rfl))) (by rw [S_len, dec_int, Bool.eq_iff_iff]; simp; omega))) fun ll H2 nl2 e2 hl => ?_
  refine gq_asgL (el_lst ea_nil (by decide)) fun p H3 np e3 hp => ?_
  have e13 : Ex H H3 := e1.trans (e2.trans e3)
  have npH : H p = none := fresh_back (e1.trans e2) np
  let fs := ptL (o == 0)
  let hs := ptL (o + n == x.length)
  let row : Bool → List MP := fun h => fs.map fun f => ⟨(x.drop o).take n, g - o, f, h⟩
  have rowl : ∀ h, (row h).length ≤ 2 := fun h => by
    show (fs.map _).length ≤ 2
    rw [List.length_map]
    exact ptL_len _
  have hsl : hs.length ≤ 2 := ptL_len _
  refine gq_forL (a := ll) (xs := ptV hs) (ev_var rfl) (fun i σ' H' => ∃ y1 y2, σ' = [some (.str (S x)), some (.int (g : Nat)), some (.int (o : Nat)), some (.int (n : Nat)), some (.int ((o + n : Nat) : Int)), some (.ref lf), some (.ref ll), some (.ref p), y1, y2] ∧ Ex H H' ∧ H' lf = some (.lst (ptV fs)) ∧ H' ll = some (.lst (ptV hs)) ∧ Ps T H H' p ((hs.take i).flatMap row))
    (fun i σ' H' hi ⟨_, _, _, _, _, h, _⟩ => sq_of h) (fun H4 e4 => ⟨none, none, rfl, e13.trans e4, e4 _ _ (e3 _ _ (e2 _ _ hf)), e4 _ _ (e3 _ _ hl), [], e4 _ _ hp, .nil, fun a ha => by simp at ha⟩) ?_ ?_
  · rintro i y σ' H' hi ⟨y1, y2, rfl, eH, hf', hl', hPs⟩
    obtain ⟨hb, hhb, rfl⟩ := map_item hi
    refine go_forL (a := lf) (xs := ptV fs) (ev_var rfl) (fun j σ' H' => ∃ y2, σ' = [some (.str (S x)), some (.int (g : Nat)), some (.int (o : Nat)), some (.int (n : Nat)), some (.int ((o + n : Nat) : Int)), some (.ref lf), some (.ref ll), some (.ref p), some (.str (S (ptB hb))), y2] ∧ Ex H H' ∧ H' lf = some (.lst (ptV fs)) ∧ H' ll = some (.lst (ptV hs)) ∧ Ps T H H' p ((hs.take i).flatMap row ++ (row hb).take j))
      (fun i σ' H' hi ⟨_, _, _, h, _⟩ => sq_of h) (fun H4 e4 => ⟨_, rfl, eH.trans e4, e4 _ _ hf', e4 _ _ hl', by rw [List.take_zero, List.append_nil]; exact hPs.mono e4⟩) ?_ ?_
    · rintro j z σ' H3 hj ⟨y3, rfl, eH3, hf3, hl3, hPs3⟩
      obtain ⟨fb, hfb, rfl⟩ := map_item hj
      have hrow : (row hb)[j]? = some ⟨(x.drop o).take n, g - o, fb, hb⟩ := by
        show (fs.map _)[j]? = _
        rw [List.getElem?_map, hfb] <;> rfl
      obtain ⟨as, has, hA, hN⟩ := hPs3
      have hlen : (as.map V.ref).length < 100000 := by
        have h1 := flat_len (f := row) (n := 2) (l := hs.take i) fun z _ => rowl z
        have h2 : (hs.take i).length ≤ 2 := by
          rw [List.length_take]
          omega
        have h3 : ((row hb).take j).length ≤ 2 := by
          have := rowl hb
          rw [List.length_take]
          omega
        rw [List.length_map, hA.len, List.length_append]
        omega
      refine go_appR has (ev_var rfl) (evr_Piece (T := T) (q := ⟨(x.drop o).take n, g - o, fb, hb⟩) (ea_cons (ev_is (ev_slS (ev_var rfl) (eo_some (ev_var rfl)) (eo_some (ev_var rfl)) (sz_of (by rw [S_len]; omega))) ?_) (ea_cons (ev_is (ev_op (ev_var rfl) (ev_var rfl) rv_I0) ?_) (ea_cons (ev_var rfl) (ea_cons (ev_var rfl) ea_nil)))) ?_) hlen fun v H4 H5 e4 e5 ⟨a, c, hv, ha, hc, hP, hcl⟩ => ?_
      · rw [S_cut _ _ _ (by omega)]
        congr 4
        omega
      · show V.int ((g : Int) - (o : Int)) = V.int ((g - o : Nat) : Int)
        congr 1
        omega
      · show ((x.drop o).take n).length ≤ 1000
        rw [List.length_take, List.length_drop]
        omega
      · subst hv
        refine ⟨_, rfl, Ex.mut (eH3.trans (e4.trans e5)) npH, ?_, ?_, ?_⟩
        · rw [upd_ne (ne_of_none (e2 _ _ hf) np)]
          exact e5 _ _ (e4 _ _ hf3)
        · rw [upd_ne (ne_of_none hl np)]
          exact e5 _ _ (e4 _ _ hl3)
        · rw [take_next hrow, ← List.append_assoc]
          exact Ps.snoc (T := T) (H0 := H) (H1 := H4) (H2 := H5) (Ps.mono ⟨as, has, hA, hN⟩ e4) e5 (eH3.trans e4) ha hP as (e4 _ _ has)
    · rintro σ' H3 ⟨y3, rfl, eH3, hf3, hl3, hPs3⟩
      refine ⟨_, _, rfl, eH3, hf3, hl3, ?_⟩
      rw [take_next hhb, List.flatMap_append]
      have e : List.take (ptV fs).length (row hb) = row hb := List.take_of_length_le (by show (fs.map _).length ≤ _; rw [List.length_map, List.length_map]; exact Nat.le_refl _)
      rw [e] at hPs3
      simpa using hPs3
  · rintro σ' H3 ⟨y1, y2, rfl, eH3, _, _, hPs3⟩
    refine go_ret (ev_var rfl) fun H4 e4 => k _ H4 (eH3.trans e4) ⟨p, rfl, npH, ?_⟩
    have e : List.take (ptV hs).length hs = hs := List.take_of_length_le (by rw [List.length_map]; exact Nat.le_refl _)
    rw [e] at hPs3
    exact hPs3.mono e4
end
end LP
namespace LP
open PySem PySem.Spec PyProof.Rows L2 Evl
open VahypBase (Bytes isLetter isDigit inChunk)
theorem range_at {n i : Nat} (h : i < n) : (List.range n)[i]? = some i := by
  rw [List.getElem?_range h]
theorem take_range {n i : Nat} (h : i ≤ n) : (List.range n).take i = List.range i := by
  rw [List.take_range, Nat.min_eq_left h]
theorem flat_succ {β : Type} (f : Nat → List β) (i : Nat) : (List.range (i + 1)).flatMap f = (List.range i).flatMap f ++ f i := by
  rw [List.range_succ, List.flatMap_append]
  simp
section
variable {P : Program} {w : World} {K : PySem.W.Frag} {mg : Str → Option Value} {base : Heap} {H H' : Hp}
/-! ## pieces_around -/
def placeM (x : Bytes) (g n o : Nat) : List MP := if o ≤ g ∧ g ≤ o + n then pointedM x g o n else []
def lengthM (x : Bytes) (g k : Nat) : List MP := (List.range (x.length - k)).flatMap (placeM x g (1 + k))
def aroundM (x : Bytes) (g m : Nat) : List MP := (List.range m).flatMap (lengthM x g)
theorem pointedM_len (x : Bytes) (g o n : Nat) : (pointedM x g o n).length ≤ 4 := by
  unfold pointedM
  have h := flat_len (f := fun h => (ptL (o == 0)).map fun f => (⟨(x.drop o).take n, g - o, f, h⟩ : MP)) (n := 2) (l := ptL (o + n == x.length)) fun h _ => by
    rw [List.length_map]
    exact ptL_len _
  have := ptL_len (o + n == x.length)
  omega
theorem placeM_len (x : Bytes) (g n o : Nat) : (placeM x g n o).length ≤ 4 := by
  unfold placeM
  split
  · exact pointedM_len x g o n
  · exact Nat.zero_le _
theorem places_len (x : Bytes) (g n i : Nat) : ((List.range i).flatMap (placeM x g n)).length ≤ i * 4 := by
  have h := flat_len (f := placeM x g n) (n := 4) (l := List.range i) fun o _ => placeM_len x g n o
  rw [List.length_range] at h
  exact h
theorem lengths_len (x : Bytes) (hx : x.length ≤ 16) (g i : Nat) : ((List.range i).flatMap (lengthM x g)).length ≤ i * 64 := by
  have h := flat_len (f := lengthM x g) (n := 64) (l := List.range i) fun k _ => by
    have := places_len x g (1 + k) (x.length - k)
    unfold lengthM
    omega
  rw [List.length_range] at h
  exact h
def sp_pieces_around (T : TX K mg) : Sp := fun vs H Q _ => ∃ (x : Bytes) (g m : Nat), vs = [.str (S x), .int (g : Nat), .int (m : Nat)] ∧ x.length ≤ 16 ∧ m ≤ 4 ∧ RetR (fun H0 v H2 => ∃ p, v = .ref p ∧ H0 p = none ∧ Ps T H0 H2 p (aroundM x g m)) H Q
theorem Ps.app {T : TX K mg} {H0 H1 H2 : Hp} {l b : Addr} {qs rs : List MP} (h : Ps T H0 H1 l qs) (e : Ex H1 H2) (e0 : Ex H0 H1) (hl : H0 l = none) (g : Ps T H1 H2 b rs) {as bs : List Addr} (has : H2 l = some (.lst (as.map V.ref))) (hbs : H2 b = some (.lst (bs.map V.ref))) :
    Ps T H0 (upd H2 l (.lst (as.map V.ref ++ bs.map V.ref))) l (qs ++ rs) := by
  obtain ⟨as', h1, h2, h3⟩ := h
  obtain ⟨bs', g1, g2, g3⟩ := g
  have inj : ∀ {u v : List Addr}, u.map V.ref = v.map V.ref → u = v := fun z => List.map_inj_right (fun a b z => by cases z; rfl) |>.mp z
  have ea : as = as' := by
    have q := has.symm.trans (e _ _ h1)
    injection q with q
    injection q with q
    exact inj q
  have eb : bs = bs' := by
    have q := hbs.symm.trans g1
    injection q with q
    injection q with q
    exact inj q
  subst ea eb
  have stay : ∀ a x, (∃ c, Pc T H2 a x c) → ∃ c, Pc T (upd H2 l (.lst (as.map V.ref ++ bs.map V.ref))) a x c := fun a x ⟨c, d, hd⟩ => ⟨c, d, by rw [upd_ne (ne_of hd has (by intro z; cases z))]; exact hd⟩
  refine ⟨as ++ bs, by rw [upd_same, List.map_append] <;> rfl, ((h2.mono fun a x ⟨c, hc⟩ => ⟨c, Pc.mono e hc⟩).mono stay).append (g2.mono stay), fun a ha => ?_⟩
  rcases List.mem_append.mp ha with h | h
  · exact h3 a h
  · exact fresh_back e0 (g3 a h)
theorem ok_pieces_around (T : TX K mg) : FnOk P w K mg base CX0 4 T.f_pieces_around T.d_pieces_around ["letters", "gap", "longest"] (sp_pieces_around T) := by
  refine T.F_pieces_around.ok sc_pieces_around (fun vs H Q E h => ?_) (fun cdv A outer s0 H vs Q E hr h => ?_)
  · obtain ⟨x, g, m, rfl, hx, hm, k⟩ := h
    rfl
  obtain ⟨x, g, m, rfl, hx, hm, k⟩ := h
  refine ⟨_, (pss_cons (ps_set (i := 3) (sc_pieces_around).nd rfl (Or.inl rfl) (pe_lst pa_nil))
    (pss_cons (ps_for PassesOwn.never rfl (pi_range2 (by rfl) T.n_range (pa_cons pe_int (pa_cons (pe_op op_add (pv 2) pe_int) pa_nil))) (pg_name (i := 4) (sc_pieces_around).nd rfl (Or.inl rfl)) (pss_one (ps_for PassesOwn.never rfl (pi_range1 (by rfl) T.n_range (pa_cons (pe_op op_add (pe_op op_sub (pe_callB call_len_str (by rfl) T.n_len PySem.boot_len (pa_cons (pv 0) pa_nil)) (pv 4)) pe_int) pa_nil)) (pg_name (i := 5) (sc_pieces_around).nd rfl (Or.inl rfl)) (pss_one (ps_if (PW.pt (pw_and (pt_cmpR op_le (pv 5) (pv 1) (nomark _)) (pw_and1 (pt_cmpR op_le (pv 1) (pe_op op_add (pv 5) (pv 4)) (nomark _))))) (pss_one (ps_expr (pe_bm PySem.F.plainAttrs_list PySem.F.slot_list_extend PySem.F.type_list_extend mt_extend (pv 3) (pa_cons (pe_call (ok_pointed_pieces T) (hr.mono (by decide)) (by rfl) T.m_pointed_pieces T.F_pointed_pieces.kp T.b_pointed_pieces .nil pass0 (pa_cons (pv 0) (pa_cons (pv 1) (pa_cons (pv 5) (pa_cons (pv 4) pa_nil))))) pa_nil)))) pss_nil)))))
    (pss_one (ps_ret (pv 3))))), Go.at ?_⟩
  refine gq_asgL (el_lst ea_nil (by decide)) fun p H1 np e1 hp => ?_
  refine gq_forR2 (lo := 1) (n := (m : Int) + 1) (ea_cons ev_c (ea_cons (ev_op (ev_var rfl) ev_c rv_I0) ea_nil)) (by omega)
    (fun i σ' H' => ∃ y1 y2, σ' = [some (.str (S x)), some (.int (g : Nat)), some (.int (m : Nat)), some (.ref p), y1, y2] ∧ Ex H H' ∧ Ps T H H' p ((List.range i).flatMap (lengthM x g))) (fun H4 e4 => ⟨none, none, rfl, e1.trans e4, [], e4 _ _ hp, .nil, fun a ha => by simp at ha⟩) ?_ ?_
  · rintro i σ' H' hi ⟨y1, y2, rfl, eH, hPs⟩
    have hi4 : i < 4 := by omega
    refine go_forR1 (n := (x.length : Int) - (1 + (i : Int)) + 1) (ea_cons (ev_is (ev_op (ev_op (ev_cbv (ea_cons (ev_var rfl) ea_nil) fun H1 e Q q' => ⟨_, rfl, sz_of (by rw [S_len]; omega), q'⟩) (ev_var rfl) rv_I0) ev_c rv_I0) (by rw [S_len])) ea_nil) (by omega)
      (fun j σ' H' => ∃ y2, σ' = [some (.str (S x)), some (.int (g : Nat)), some (.int (m : Nat)), some (.ref p), some (.int (1 + (i : Int))), y2] ∧ Ex H H' ∧ Ps T H H' p ((List.range i).flatMap (lengthM x g) ++ (List.range j).flatMap (placeM x g (1 + i))))
      (fun H4 e4 => ⟨_, rfl, eH.trans e4, by simpa using hPs.mono e4⟩) ?_ ?_
    · rintro j σ' H3 hj ⟨y3, rfl, eH3, hPs3⟩
      refine go_if (b := decide (j ≤ g) && decide (g ≤ j + (1 + i))) (et_and (et_is (et_test (ev_op (ev_var rfl) (ev_var rfl) rv_I0)) (decide_eq_decide.mpr (by omega))) fun _ => et_is (et_test (ev_op (ev_var rfl) (ev_op (ev_var rfl) (ev_var rfl) rv_I0) rv_I0)) (decide_eq_decide.mpr (by omega))) (fun hb => ?_) fun hb => ?_
      · have hb2 : j ≤ g ∧ g ≤ j + (1 + i) := by simpa using hb
        obtain ⟨as, has, hA, hN⟩ := hPs3
        refine go_extR has (ev_var rfl) (evr_call (R := fun H0 v H2 => ∃ p, v = .ref p ∧ H0 p = none ∧ Ps T H0 H2 p (pointedM x g j (1 + i))) (ea_cons (ev_var rfl) (ea_cons (ev_var rfl) (ea_cons (ev_var rfl) (ea_cons (ev_var rfl) ea_nil)))) (fun H4 e4 Q E k => ⟨x, g, j, 1 + i, ?_, by omega, hb2.1, k⟩) ?_) fun v H4 H5 e4 e5 ⟨b, hv, hb0, bs, hbs, hB, hBN⟩ => ?_
        · show [V.str (S x), V.int (g : Int), V.int (j : Int), V.int (1 + (i : Int))] = [V.str (S x), V.int (g : Int), V.int (j : Int), V.int ((1 + i : Nat) : Int)]
          have : (1 + (i : Int)) = ((1 + i : Nat) : Int) := by omega
          rw [this]
        · rintro H1 H2 v H3 e ⟨p, h1, h2, as, h3, h4, h5⟩
          exact ⟨p, h1, fresh_back e h2, as, h3, h4, fun a ha => fresh_back e (h5 a ha)⟩
        · subst hv
          have h1 := lengths_len x hx g i
          have h2 := places_len x g (1 + i) j
          have h3 := pointedM_len x g j (1 + i)
          have hal := hA.len
          have hbl := hB.len
          rw [List.length_append] at hal
          refine ⟨b, bs.map V.ref, rfl, hbs, by rw [List.length_map, List.length_map]; omega, _, rfl, Ex.mut (eH3.trans (e4.trans e5)) np, ?_⟩
          rw [flat_succ, ← List.append_assoc]
          have e : placeM x g (1 + i) j = pointedM x g j (1 + i) := if_pos hb2
          rw [e]
          exact Ps.app (T := T) (H0 := H) (H1 := H4) (H2 := H5) (Ps.mono ⟨as, has, hA, hN⟩ e4) e5 (eH3.trans e4) np ⟨bs, hbs, hB, hBN⟩ (e5 _ _ (e4 _ _ has)) hbs
      · have hb2 : ¬ (j ≤ g ∧ g ≤ j + (1 + i)) := by simpa using hb
        refine go_next fun H4 e4 => ⟨_, rfl, eH3.trans e4, ?_⟩
        have e : placeM x g (1 + i) j = [] := if_neg hb2
        rw [flat_succ, e, List.append_nil]
        exact hPs3.mono e4
    · rintro σ' H3 ⟨y3, rfl, eH3, hPs3⟩
      refine ⟨_, _, rfl, eH3, ?_⟩
      have e : ((x.length : Int) - (1 + (i : Int)) + 1).toNat = x.length - i := by omega
      rw [e] at hPs3
      rw [flat_succ]
      exact hPs3
  · rintro σ' H3 ⟨y1, y2, rfl, eH3, hPs3⟩
    refine go_ret (ev_var rfl) fun H4 e4 => k _ H4 (eH3.trans e4) ⟨p, rfl, np, ?_⟩
    have e : ((m : Int) + 1 - 1).toNat = m := by omega
    rw [e] at hPs3
    exact hPs3.mono e4
end
end LP
namespace LP
open PySem PySem.Spec PyProof.Rows L2 Evl
open VahypBase (Bytes isLetter isDigit inChunk)
section
variable {P : Program} {w : World} {K : PySem.W.Frag} {mg : Str → Option Value} {base : Heap} {H H' : Hp}
/-! ## is_good -/
def goodM (s : Vahypa.Lst) (q : MP) : Bool := s.words.all fun w => (partM s.l s.r q w.x).all fun g => w.cuts.contains g
def sp_is_good (T : TX K mg) : Sp := fun vs H Q _ => ∃ (a p cv : Addr) (s : Vahypa.Lst) (q : MP), vs = [.ref a, .ref p] ∧ LdAt T H a s ∧ WF s ∧ Pc T H p q cv ∧ q.x.length ≤ 1000 ∧ RetV (.bl (goodM s q)) H Q
theorem all_take {α : Type} {f : α → Bool} {l : List α} {i : Nat} {x : α} (h : l[i]? = some x) (ht : (l.take i).all f = true) (hx : f x = true) : (l.take (i + 1)).all f = true := by
  rw [take_next h, List.all_append, ht]
  simp [hx]
theorem all_false {α : Type} {f : α → Bool} {l : List α} {i : Nat} {x : α} (h : l[i]? = some x) (hx : f x = false) : l.all f = false := by
  rw [List.all_eq_false]
  exact ⟨x, List.mem_of_getElem? h, by rw [hx]; decide⟩
theorem ok_is_good (T : TX K mg) : FnOk P w K mg base CX0 3 T.f_is_good T.d_is_good ["listed", "piece"] (sp_is_good T) := by
  refine T.F_is_good.ok sc_is_good (fun vs H Q E h => ?_) (fun cdv A outer s0 H vs Q E hr h => ?_)
  · obtain ⟨a, p, cv, s, q, rfl, hL, W, hp, hq, k⟩ := h
    rfl
  obtain ⟨a, p, cv, s, q, rfl, hL, W, hp, hq, k⟩ := h
  refine ⟨_, (pss_cons (ps_for PassesOwn.never rfl (pi_list (pe_fld (pv 0) rfl)) (pg_name (i := 2) (sc_is_good).nd rfl (Or.inl rfl)) (pss_one (ps_for PassesOwn.never rfl (pi_list (pe_call (ok_parted_gaps T) (hr.mono (by decide)) (by rfl) T.m_parted_gaps T.F_parted_gaps.kp T.b_parted_gaps .nil pass0 (pa_cons (pe_fld (pv 0) rfl) (pa_cons (pv 1) (pa_cons (pe_fld (pv 2) rfl) pa_nil))))) (pg_name (i := 3) (sc_is_good).nd rfl (Or.inl rfl)) (pss_one (ps_if (pt_cmpR op_notIn_seq (pv 3) (pe_fld (pv 2) rfl) (by rfl)) (pss_one (ps_ret pe_bl)) pss_nil)))))
    (pss_one (ps_ret pe_bl))), Go.at ?_⟩
  obtain ⟨lm, lw, lp, pb, hI, hm, ⟨ws, hw, hW⟩, hpb, hpl⟩ := hL
  let f : Vahypa.Word → Bool := fun w => (partM s.l s.r q w.x).all fun g => w.cuts.contains g
  refine gq_forL (a := lw) (xs := ws.map V.ref) (ev_fld (ev_var rfl) hI.words) (fun i σ' H' => ∃ y1 y2, σ' = [some (.ref a), some (.ref p), y1, y2] ∧ Ex H H' ∧ (s.words.take i).all f = true)
    (fun i σ' H' hi ⟨_, _, _, eH, _⟩ => sq_of (eH _ _ hw)) (fun H1 e1 => ⟨none, none, rfl, e1, by simp⟩) ?_ ?_
  · rintro i x σ' H' hi ⟨y1, y2, rfl, eH, hall⟩
    obtain ⟨wa, wd, hwa, hwd, rfl, lb, hIw, hlb⟩ := hW.item hi
    have hmem : wd ∈ s.words := List.mem_of_getElem? hwd
    have hx16 := W.len _ hmem
    refine go_forR (NewL (nl (partM s.l s.r q wd.x))) (EvL.r (elc_call (ea_cons (ev_fld (ev_var rfl) (hI.mono eH).margins) (ea_cons (ev_var rfl) (ea_cons (ev_fld (ev_var rfl) (hIw.mono eH).letters) ea_nil))) fun H1 e Q E k => ⟨lm, p, cv, q, s.l, s.r, wd.x, rfl, (eH.trans e) _ _ hm, hp.mono (eH.trans e), by omega, hq, k⟩)) fun v H1 H2 e1 e2 ⟨l, hv, hl0, hl⟩ => ?_
    have eH2 := eH.trans (e1.trans e2)
    refine ⟨l, nl (partM s.l s.r q wd.x), fun j σ' H' => ∃ y2, σ' = [some (.ref a), some (.ref p), some (.ref wa), y2] ∧ Ex H2 H' ∧ ((partM s.l s.r q wd.x).take j).all (fun g => wd.cuts.contains g) = true, hv, ⟨_, rfl, Ex.refl _, by simp⟩, fun j σ' H' hj ⟨_, _, e, _⟩ => sq_of (e _ _ hl), ?_, ?_⟩
    · rintro j y σ' H3 hj ⟨y2, rfl, eH3, hall3⟩
      obtain ⟨g, hg, rfl⟩ := map_item hj
      have e03 := eH2.trans eH3
      refine go_if (b := !wd.cuts.contains g) (et_is (et_test (ev_op (ev_var rfl) (ev_fld (ev_var rfl) (hIw.mono e03).breaks) (rv_niL (sq_of (e03 _ _ hlb)) rfl (nl_flat _)))) (by rw [nl_in])) (fun hb => ?_) fun hb => ?_
      · refine go_ret ev_c fun H4 e4 => ?_
        have hg2 : wd.cuts.contains g = false := by simpa using hb
        have hfw : f wd = false := all_false hg hg2
        have e : goodM s q = false := all_false hwd hfw
        rw [e] at k
        exact k H4 (e03.trans e4)
      · have hg2 : wd.cuts.contains g = true := by simpa using hb
        exact go_next fun H4 e4 => ⟨_, rfl, eH3.trans e4, all_take hg hall3 hg2⟩
    · rintro σ' H3 ⟨y2, rfl, eH3, hall3⟩
      have e : List.take (nl (partM s.l s.r q wd.x)).length (partM s.l s.r q wd.x) = partM s.l s.r q wd.x := List.take_of_length_le (by rw [List.length_map]; exact Nat.le_refl _)
      rw [e] at hall3
      exact ⟨_, _, rfl, eH2.trans eH3, all_take hwd hall hall3⟩
  · rintro σ' H3 ⟨y1, y2, rfl, eH3, hall⟩
    have e : List.take (ws.map V.ref).length s.words = s.words := List.take_of_length_le (by rw [List.length_map, hW.len]; exact Nat.le_refl _)
    rw [e] at hall
    have e2 : goodM s q = true := hall
    rw [e2] at k
    exact go_ret ev_c fun H4 e4 => k H4 (eH3.trans e4)
/-! ## covered_goals -/
def wordM (s : Vahypa.Lst) (i : Nat) : Bytes := ((s.words[i]?).map fun w => w.x).getD []
def covB (s : Vahypa.Lst) (gs : List Vahypc.Goal) (q : MP) (i : Nat) : Bool := match gs[i]? with
  | some g => (partM s.l s.r q (wordM s g.w)).contains g.g
  | none => false
def covM (s : Vahypa.Lst) (gs : List Vahypc.Goal) (q : MP) : List Nat := (List.range gs.length).filter (covB s gs q)
def sp_covered_goals (T : TX K mg) : Sp := fun vs H Q _ => ∃ (a l p cv : Addr) (s : Vahypa.Lst) (gs : List Vahypc.Goal) (q : MP), vs = [.ref a, .ref l, .ref p] ∧ LdAt T H a s ∧ WF s ∧ LsAt (GoAt T) H l gs ∧ gs.length ≤ 1000 ∧ (∀ g ∈ gs, g.w < s.words.length) ∧ Pc T H p q cv ∧ q.x.length ≤ 1000 ∧ RetL (nl (covM s gs q)) H Q
/-- a list at p whose items are lists of xss -/
def LLAt (H : Hp) (p : Addr) (xss : List (List Nat)) : Prop := LsAt (fun H a xs => H a = some (.lst (nl xs))) H p xss
/-- [.. for i, g in enumerate(gs) if ..] of whole numbers -/
theorem el_lcE {K : PySem.W.Frag} {σ : L2.St} {H : Hp} {ta : TA} {te : TE} {t : TT} {i1 i2 : Nat} {a : Addr} {xs : List V} (f : Nat → Bool) (v : Nat → V) (h : EvA ta σ H [.ref a]) (hx : SqL K H a xs) (hz : xs.length ≤ 40000) {vs : List Nat}
    (hw : ∀ x y, wipe (((wipe σ vs).set i1 (some x)).set i2 (some y)) vs = wipe σ vs)
    (ht : ∀ (i : Nat) (x : V) H1, Ex H H1 → xs[i]? = some x → EvT t (((wipe σ vs).set i1 (some (.int (i : Nat)))).set i2 (some x)) H1 (f i)) (he : ∀ (i : Nat) (x : V) H1, Ex H H1 → xs[i]? = some x → f i = true → Ev te (((wipe σ vs).set i1 (some (.int (i : Nat)))).set i2 (some x)) H1 (v i)) :
    EvL (tLc (iEnum K ta) (gTup K 2 (gCons (gName i1) (gCons (gName i2) gNil))) t te vs) σ H (given xs.length f v) := fun H0 e Q q => h H0 e _ fun H1 e1 => ⟨a, xs, rfl, ex_l (e.trans e1) hx, fun Dl hD =>
  lc_it walk_enum (Cw H1 f v Dl) ⟨hD, Ex.new hD, upd_same⟩ (fun i H' _ p => ex_l ((e.trans e1).trans p.2.1) hx)
    (fun i x H' H'' hi p y => by
      obtain ⟨Tt, x1, x2, rfl, nT, rfl, e2, e3⟩ := y
      cases e2
      refine ⟨Tt, [.int (i : Nat), x2], rfl, SqT.of upd_same, rfl, .int (i : Nat), [x2], rfl, x2, [], rfl, rfl, hw _ _, ?_⟩
      have p' : Cw H1 f v Dl i (upd H' Tt (.tup [.int (i : Nat), x2])) := ⟨p.1, p.2.1.trans (Ex.new nT), by rw [upd_ne (ne_of_none p.2.2 nT)]; exact p.2.2⟩
      exact cw_turn p' (by omega) (ht i x2 H1 (e.trans e1) e3) (fun hf => he i x2 H1 (e.trans e1) e3 hf))
    (fun H' p => q Dl H' (fresh_back e1 p.1) (e1.trans p.2.1) p.2.2)⟩
/-- [f(x) for x in xs], each item a new list -/
theorem evr_lcLL {K : PySem.W.Frag} {σ : L2.St} {H : Hp} {tl te : TE} {j : Nat} {a : Addr} {xs : List V} (ys : List (List Nat)) (hl : ys.length = xs.length) (h : Ev tl σ H (.ref a)) (hx : SqL K H a xs) (hz : xs.length ≤ 40000) {vs : List Nat} (hw : ∀ x, wipe ((wipe σ vs).set j (some x)) vs = wipe σ vs)
    (he : ∀ (i : Nat) (x : V) y H1, Ex H H1 → xs[i]? = some x → ys[i]? = some y → EvL te ((wipe σ vs).set j (some x)) H1 (nl y)) : EvR (tLc (iList K tl) (gName j) tYes te vs) σ H (fun H0 v H2 => ∃ p, v = .ref p ∧ H0 p = none ∧ LLAt H2 p ys) := fun H0 e Q q => h H0 e _ fun H1 e1 => ⟨a, rfl, ⟨xs, ex_l (e.trans e1) hx⟩, fun Dl hD =>
  lc_list (xs := xs) (fun i H' => Ex H1 H' ∧ LLAt H' Dl (ys.take i)) ⟨Ex.new hD, [], upd_same, .nil⟩ (fun i H' _ p => ex_l ((e.trans e1).trans p.1) hx)
    (fun i x H' hi ⟨eH, as, has, hA⟩ => by
      have hi2 : i < ys.length := by
        have := (List.getElem?_eq_some_iff.mp hi).1
        omega
      have hy : ys[i]? = some ys[i] := List.getElem?_eq_getElem hi2
      refine ⟨hw x, ?_⟩
      refine he i x _ H' ((e.trans e1).trans eH) hi hy H' (Ex.refl _) _ fun p H3 hp e3 h3 => ⟨as.map V.ref, e3 _ _ has, sz_lt (by rw [List.length_map, hA.len, List.length_take]; omega), Ex.mut (eH.trans e3) hD, as ++ [p], ?_, ?_⟩
      · rw [upd_same, List.map_append] <;> rfl
      · rw [take_next hy]
        have hpD : p ≠ Dl := fun z => by
          rw [z, has] at hp
          cases hp
        have hzl : ∀ b z, H' b = some (.lst (nl z)) → b ∈ as → (upd H3 Dl (.lst (as.map V.ref ++ [V.ref p]))) b = some (.lst (nl z)) := fun b z hb _ => by
          have hbD : b ≠ Dl := fun q => by
            rw [q, has] at hb
            cases as with
            | nil => simp at *
            | cons u v =>
              injection hb with hb
              injection hb with hb
              cases z with
              | nil => cases hb
              | cons z1 z2 => cases hb
          rw [upd_ne hbD]
          exact e3 _ _ hb
        have hA' : At2 (fun b z => (upd H3 Dl (.lst (as.map V.ref ++ [V.ref p]))) b = some (.lst (nl z))) as (ys.take i) := ⟨hA.len, fun m b z h1 h2 => hzl b z (hA.at_ m b z h1 h2) (List.mem_of_getElem? h1)⟩
        refine hA'.snoc ?_
        rw [upd_ne hpD]
        exact h3)
    (fun H' ⟨eH, hL⟩ => q _ H' (e1.trans eH) ⟨Dl, rfl, fresh_back e1 hD, by
      have e2 : ys.take xs.length = ys := List.take_of_length_le (by omega)
      rw [e2] at hL
      exact hL⟩)⟩
theorem Go.bind {te : TE} {σ : L2.St} {D : Ends} {g : TG} {R : Hp → V → Hp → Prop} (h : EvR te σ H R) (k : ∀ v H1 H2, Ex H H1 → Ex H1 H2 → R H1 v H2 → g v σ H2 D.nx) : Go (tAsg te g) D σ H := fun H1 e => h H1 e _ fun v H2 e2 r => k v H1 H2 e e2 r
theorem ok_covered_goals (T : TX K mg) : FnOk P w K mg base CX0 3 T.f_covered_goals T.d_covered_goals ["listed", "goals", "piece"] (sp_covered_goals T) := by
  refine T.F_covered_goals.ok sc_covered_goals (fun vs H Q E h => ?_) (fun cdv A outer s0 H vs Q E hr h => ?_)
  · obtain ⟨a, l, p, cv, s, gs, q, rfl, hL, W, ⟨ga, hga, hG⟩, hgl, hgw, hp, hq, k⟩ := h
    rfl
  obtain ⟨a, l, p, cv, s, gs, q, rfl, hL, W, ⟨ga, hga, hG⟩, hgl, hgw, hp, hq, k⟩ := h
  refine ⟨_, (pss_cons (ps_set (i := 3) (sc_covered_goals).nd rfl (Or.inr rfl) (pe_lc (own := [("word", 4)]) (by rfl) (sc_covered_goals).nd (pi_list (pe_fld (pv 0) rfl)) (blkOk_by (own := [("word", 4)]) (N := N_covered_goals) (sc := defScope s_covered_goals) (by decide +kernel)) (fun _ _ _ _ _ => (pg_name (i := 4) (sc_covered_goals).nd rfl (Or.inl rfl))) (fun _ _ _ _ _ => pts_nil) (fun _ _ _ _ _ => (pe_call (ok_parted_gaps T) (hr.mono (by decide)) (by rfl) T.m_parted_gaps T.F_parted_gaps.kp T.b_parted_gaps .nil pass0 (pa_cons (pe_fldK (K := K) rfl (pv 0) rfl) (pa_cons (pv 2) (pa_cons (pe_fldK (K := K) rfl (pv 4) rfl) pa_nil)))))))
    (pss_one (ps_ret (pe_lc (own := [("number", 5), ("goal", 6)]) (by rfl) (sc_covered_goals).nd (pi_enum (by rfl) T.n_enumerate (pa_cons (pv 1) pa_nil)) (blkOk_by (own := [("number", 5), ("goal", 6)]) (N := N_covered_goals) (sc := defScope s_covered_goals) (by decide +kernel)) (fun _ _ _ _ _ => (pg_tupK (n := 2) (K := K) rfl rfl (pgs_cons (pg_name (i := 5) (sc_covered_goals).nd rfl (Or.inl rfl)) (pgs_cons (pg_name (i := 6) (sc_covered_goals).nd rfl (Or.inl rfl)) pgs_nil)))) (fun _ _ _ _ _ => pts_one (pt_cmpR (op_in_seqK (K := K) rfl) (pe_fldK (K := K) rfl (pv 6) rfl) (pe_ix (ix_listK (K := K) rfl) (pv 3) (pe_fldK (K := K) rfl (pv 6) rfl) (fun _ _ => rfl)) (by rfl))) (fun _ _ _ _ _ => (pv 5)))))), Go.at ?_⟩
  obtain ⟨lm, lw, lp, pb, hI, hm, ⟨ws, hw, hW⟩, hpb, hpl⟩ := hL
  let ys := s.words.map fun w => partM s.l s.r q w.x
  refine gq_asgR (evr_lcLL ys (by show (s.words.map _).length = _; rw [List.length_map, List.length_map, hW.len]) (ev_fld (ev_var rfl) hI.words) (sq_of hw) (by rw [List.length_map, hW.len]; have := W.few; omega) (fun x => rfl) fun i x y H1 e1 hi hy => ?_) fun v H1 H2 e1 e2 ⟨pt, hv, hpt, hLL⟩ => ?_
  · obtain ⟨wa, wd, hwa, hwd, rfl, lb, hIw, hlb⟩ := hW.item hi
    have hmem : wd ∈ s.words := List.mem_of_getElem? hwd
    have hx16 := W.len _ hmem
    have hyy : y = partM s.l s.r q wd.x := by
      have h1 : (s.words.map fun w => partM s.l s.r q w.x)[i]? = some (partM s.l s.r q wd.x) := by
        rw [List.getElem?_map, hwd] <;> rfl
      exact Option.some.inj (hy.symm.trans h1)
    subst hyy
    exact elc_call (ea_cons (ev_fld (ev_var rfl) (hI.mono e1).margins) (ea_cons (ev_var rfl) (ea_cons (ev_fld (ev_var rfl) (hIw.mono e1).letters) ea_nil))) fun H2 e Q E k => ⟨lm, p, cv, q, s.l, s.r, wd.x, rfl, (e1.trans e) _ _ hm, hp.mono (e1.trans e), by omega, hq, k⟩
  · subst hv
    have eH2 := e1.trans e2
    have hcov : given (ga.map V.ref).length (covB s gs q) (fun i => V.int (i : Nat)) = nl (covM s gs q) := by
      rw [List.length_map, hG.len] <;> rfl
    refine go_retL (xs := nl (covM s gs q)) ?_ fun pp H3 h1 h2 h3 => k pp H3 (fresh_back eH2 h1) (eH2.trans h2) h3
    rw [← hcov]
    obtain ⟨as, has, hA⟩ := hLL
    refine el_lcE (a := l) (xs := ga.map V.ref) (covB s gs q) (fun i => V.int (i : Nat)) (ea_cons (ev_var rfl) ea_nil) (sq_of (eH2 _ _ hga)) (by rw [List.length_map, hG.len]; omega) (fun x y => rfl) (fun i x H4 e4 hi => ?_) fun i x H4 e4 hi hf => ev_var rfl
    obtain ⟨g1, gd, hg1, hgd, rfl, hGo⟩ := hG.item hi
    have e04 := eH2.trans e4
    have hGo4 := hGo.mono e04
    have hww := hgw _ (List.mem_of_getElem? hgd)
    have hys : ys[gd.w]? = some (partM s.l s.r q (wordM s gd.w)) := by
      show (s.words.map _)[gd.w]? = _
      rw [List.getElem?_map, List.getElem?_eq_getElem hww]
      unfold wordM
      rw [List.getElem?_eq_getElem hww] <;> rfl
    obtain ⟨pa, hpa, hpav, hpal⟩ := hA.get hys
    refine et_is (et_test (ev_op (ev_fld (ev_var rfl) hGo4.gap) (ev_op (ev_var rfl) (ev_fld (ev_var rfl) hGo4.word) (rv_ixL (sq_of (e4 _ _ has)) (atI_nat hpav))) (rv_isL (sq_of (e4 _ _ hpal)) rfl (nl_flat _)))) ?_
    rw [nl_in]
    unfold covB
    rw [hgd]
end
end LP
namespace LP
open PySem PySem.Spec PyProof.Rows L2 Evl
open VahypBase (Bytes isLetter isDigit inChunk)
section
variable {K : PySem.W.Frag} {σ : L2.St} {H H' : Hp} {ta tb td ty tv tl : TE} {t u : TT} {x y z v : V} {D : Ends} {tu tw tz : TS} {R : Hp → V → Hp → Prop}
theorem ev_dnotin {d : Addr} {kvs : List (Key × V)} {k : Key} (hy : Ev ty σ H (kV k)) (hd : Ev td σ H (.ref d)) (h : H d = some (.dK kvs)) : Ev (tDNotIn ty td) σ H (.bl (!(valV kvs k).isSome)) := fun H1 e Q q => hy H1 e _ fun H2 e2 => hd H2 (e.trans e2) _ fun H3 e3 => ⟨d, _, rfl, DGet.k (e3 _ _ (e2 _ _ (e _ _ h))), q H3 (e2.trans e3)⟩
theorem ev_dget {d : Addr} {kvs : List (Key × V)} {k : Key} (hd : Ev td σ H (.ref d)) (hy : Ev ty σ H (kV k)) (h : H d = some (.dK kvs)) (hv : valV kvs k = some v) : Ev (tDGet td ty) σ H v := fun H1 e Q q => hd H1 e _ fun H2 e2 => hy H2 (e.trans e2) _ fun H3 e3 => ⟨d, _, rfl, by
  rw [← hv]
  exact DGet.k (e3 _ _ (e2 _ _ (e _ _ h))), q H3 (e2.trans e3)⟩
theorem go_dput {d : Addr} {kvs : List (Key × V)} {k : Key} (hv : Ev tv σ H v) (hd : Ev td σ H (.ref d)) (hy : Ev ty σ H (kV k)) (h : H d = some (.dK kvs)) (hl : kvs.length < 100000) (q : ∀ H1, Ex H H1 → D.nx σ (upd H1 d (.dK (putK kvs k v)))) : Go (sDPut td ty tv) D σ H := fun H1 e => hv H1 e _ fun H2 e2 => hd H2 (e.trans e2) _ fun H3 e3 => hy H3 ((e.trans e2).trans e3) _ fun H4 e4 =>
  ⟨d, _, rfl, DPut.k (e4 _ _ (e3 _ _ (e2 _ _ (e _ _ h)))) (sz_lt hl), q H4 (((e.trans e2).trans e3).trans e4)⟩
theorem gq_dput {d : Addr} {kvs : List (Key × V)} {k : Key} (hv : Ev tv σ H v) (hd : Ev td σ H (.ref d)) (hy : Ev ty σ H (kV k)) (h : H d = some (.dK kvs)) (hl : kvs.length < 100000) (q : ∀ H1, Ex H H1 → Go tz D σ (upd H1 d (.dK (putK kvs k v)))) : Go (tSeq (sDPut td ty tv) tz) D σ H := go_dput (D := { D with nx := tz D }) hv hd hy h hl fun H1 e => q H1 e _ (Ex.refl _)
/-- a new dict -/
def NewD : Hp → V → Hp → Prop := fun H v H2 => ∃ p, v = .ref p ∧ H p = none ∧ H2 p = some (.dK [])
theorem evr_dnew : EvR tDNewK σ H NewD := fun H1 e Q q p hp => q _ _ (Ex.new hp) ⟨p, rfl, hp, upd_same⟩
def NewDT : Hp → V → Hp → Prop := fun H v H2 => ∃ p, v = .ref p ∧ H p = none ∧ H2 p = some (.dT [])
theorem evr_dnewT : EvR tDNewT σ H NewDT := fun H1 e Q q p hp => q _ _ (Ex.new hp) ⟨p, rfl, hp, upd_same⟩
end
/-- the texts seen -/
def seenK (l : List Bytes) : List (Key × V) := l.map fun b => (Sum.inr (S b), V.bl true)
theorem seen_val (l : List Bytes) (b : Bytes) : (valV (seenK l) (Sum.inr (S b))).isSome = l.contains b := by
  rw [← valV_any, Bool.eq_iff_iff, List.any_eq_true, List.contains_iff_mem]
  constructor
  · rintro ⟨p, hp, e⟩
    obtain ⟨c, hc, rfl⟩ := List.mem_map.mp hp
    have e1 : (Sum.inr (S c) : Key) = Sum.inr (S b) := of_decide_eq_true e
    rw [← S_inj (Sum.inr.inj e1)]
    exact hc
  · intro h
    exact ⟨(Sum.inr (S b), V.bl true), List.mem_map.mpr ⟨b, h, rfl⟩, decide_eq_true rfl⟩
theorem seen_put (l : List Bytes) (b : Bytes) (h : l.contains b = false) : putK (seenK l) (Sum.inr (S b)) (.bl true) = seenK (l ++ [b]) := by
  have e : valV (seenK l) (Sum.inr (S b)) = none := by
    have h1 := seen_val l b
    rw [h] at h1
    cases hv : valV (seenK l) (Sum.inr (S b)) with
    | none => rfl
    | some x =>
      rw [hv] at h1
      cases h1
  rw [putK_new _ e]
  unfold seenK
  rw [List.map_append] <;> rfl
/-! ## family_up_to -/
def stepM (s : Vahypa.Lst) (st : List Bytes × List MP) (q : MP) : List Bytes × List MP := if st.1.contains (showM q) = true then st else (st.1 ++ [showM q], if goodM s q = true then st.2 ++ [q] else st.2)
def goalPs (s : Vahypa.Lst) (m : Nat) (g : Vahypc.Goal) : List MP := aroundM (wordM s g.w) g.g m
def famS (s : Vahypa.Lst) (l : List MP) : List Bytes × List MP := l.foldl (stepM s) ([], [])
def famM (s : Vahypa.Lst) (m : Nat) : List MP := (famS s ((goalsM s).flatMap (goalPs s m))).2
theorem famS_snoc (s : Vahypa.Lst) (l : List MP) (q : MP) : famS s (l ++ [q]) = stepM s (famS s l) q := by
  unfold famS
  rw [List.foldl_append] <;> rfl
theorem famS_len (s : Vahypa.Lst) (l : List MP) : (famS s l).1.length ≤ l.length ∧ (famS s l).2.length ≤ l.length := by
  unfold famS
  suffices h : ∀ (l : List MP) (st : List Bytes × List MP), (l.foldl (stepM s) st).1.length ≤ st.1.length + l.length ∧ (l.foldl (stepM s) st).2.length ≤ st.2.length + l.length by
    have := h l ([], [])
    simpa using this
  intro l
  induction l with
  | nil => intro st; exact ⟨Nat.le_refl _, Nat.le_refl _⟩
  | cons q r ih =>
    intro st
    have h1 := ih (stepM s st q)
    have h2 : (stepM s st q).1.length ≤ st.1.length + 1 ∧ (stepM s st q).2.length ≤ st.2.length + 1 := by
      unfold stepM
      split
      · omega
      · constructor
        · simp
        · show (if goodM s q = true then st.2 ++ [q] else st.2).length ≤ _
          split
          · simp
          · omega
    rw [List.foldl_cons, List.length_cons]
    omega
theorem famS_seen (s : Vahypa.Lst) (l : List MP) : ∀ q ∈ (famS s l).2, (famS s l).1.contains (showM q) = true := by
  unfold famS
  suffices h : ∀ (l : List MP) (st : List Bytes × List MP), (∀ q ∈ st.2, st.1.contains (showM q) = true) → ∀ q ∈ (l.foldl (stepM s) st).2, (l.foldl (stepM s) st).1.contains (showM q) = true from h l ([], []) (fun q hq => by simp at hq)
  intro l
  induction l with
  | nil => intro st h; exact h
  | cons q r ih =>
    intro st h
    refine ih _ ?_
    unfold stepM
    by_cases c : st.1.contains (showM q) = true
    · rw [if_pos c]
      exact h
    · rw [if_neg c]
      intro p hp
      show (st.1 ++ [showM q]).contains (showM p) = true
      have hp' : p ∈ (if goodM s q = true then st.2 ++ [q] else st.2) := hp
      have old : p ∈ st.2 → (st.1 ++ [showM q]).contains (showM p) = true := fun z => by
        have := h p z
        rw [List.contains_iff_mem] at this ⊢
        exact List.mem_append_left _ this
      split at hp'
      · rcases List.mem_append.mp hp' with z | z
        · exact old z
        · rw [List.mem_singleton.mp z, List.contains_iff_mem]
          exact List.mem_append_right _ (List.mem_singleton.mpr rfl)
      · exact old hp'
theorem aroundM_len (x : Bytes) (hx : x.length ≤ 16) (g m : Nat) (hm : m ≤ 4) : (aroundM x g m).length ≤ 256 := by
  have := lengths_len x hx g m
  unfold aroundM
  omega
section
variable {P : Program} {w : World} {K : PySem.W.Frag} {mg : Str → Option Value} {base : Heap} {H H' : Hp}
/-- a piece with its covered goals -/
def PcC (T : TX K mg) (H : Hp) (a : Addr) (p : MP × List Nat) : Prop := ∃ cv, Pc T H a p.1 cv ∧ H cv = some (.lst (nl p.2))
theorem PcC.mono {T : TX K mg} {a : Addr} {p : MP × List Nat} (e : Ex H H') (h : PcC T H a p) : PcC T H' a p := let ⟨c, h1, h2⟩ := h; ⟨c, h1.mono e, e _ _ h2⟩
def pcsM (s : Vahypa.Lst) (m : Nat) : List (MP × List Nat) := (famM s m).map fun q => (q, covM s (goalsM s) q)
def sp_family_up_to (T : TX K mg) : Sp := fun vs H Q _ => ∃ (a : Addr) (s : Vahypa.Lst) (m : Nat), vs = [.ref a, .int (m : Nat)] ∧ LdAt T H a s ∧ WF s ∧ (goalsM s).length ≤ 9 ∧ m ≤ 4 ∧ RetR (fun H0 v H2 => ∃ p, v = .ref p ∧ H0 p = none ∧ LsAt (PcC T) H2 p (pcsM s m)) H Q
/-- the pieces taken so far stand at l, each with its covered goals, its list another than l -/
def FsAt (T : TX K mg) (H : Hp) (l : Addr) (f : MP → List Nat) (qs : List MP) : Prop := LsAt (fun H a q => ∃ cv, cv ≠ l ∧ Pc T H a q cv ∧ H cv = some (.lst (nl (f q)))) H l qs
theorem FsAt.mono {T : TX K mg} {l : Addr} {f : MP → List Nat} {qs : List MP} (e : Ex H H') (h : FsAt T H l f qs) : FsAt T H' l f qs := let ⟨as, h1, h2⟩ := h; ⟨as, e _ _ h1, h2.mono fun a q ⟨c, h3, h4, h5⟩ => ⟨c, h3, h4.mono e, e _ _ h5⟩⟩
theorem str_ne {a b : Bytes} (h : a ≠ b) : V.str (S a) ≠ V.str (S b) := fun q => h (S_inj (V.str.inj q))
theorem goal_word {s : Vahypa.Lst} {g : Vahypc.Goal} (h : g ∈ goalsM s) : g.w < s.words.length := by
  unfold goalsM at h
  obtain ⟨p, hp, hg⟩ := List.mem_flatMap.mp h
  obtain ⟨x, i⟩ := p
  have h2 := List.mem_zipIdx_iff_getElem?.mp hp
  simp at h2
  unfold gOf at hg
  obtain ⟨g', _, rfl⟩ := List.mem_map.mp hg
  exact (List.getElem?_eq_some_iff.mp h2).1
theorem gap_le {s : Vahypa.Lst} (W : WF s) {g : Vahypc.Goal} (h : g ∈ goalsM s) : ∀ w, s.words[g.w]? = some w → w.x.length ≤ 16 := fun w hw => (W.len _ (List.mem_of_getElem? hw)).2
theorem around_x {x : Bytes} {g m : Nat} (hx : x.length ≤ 16) : ∀ q ∈ aroundM x g m, q.x.length ≤ 1000 := by
  intro q hq
  unfold aroundM at hq
  obtain ⟨k, _, h2⟩ := List.mem_flatMap.mp hq
  unfold lengthM at h2
  obtain ⟨o, _, h3⟩ := List.mem_flatMap.mp h2
  unfold placeM at h3
  split at h3
  · unfold pointedM at h3
    obtain ⟨h, _, h4⟩ := List.mem_flatMap.mp h3
    obtain ⟨f, _, rfl⟩ := List.mem_map.mp h4
    show ((x.drop o).take (1 + k)).length ≤ 1000
    rw [List.length_take, List.length_drop]
    omega
  · simp at h3
theorem ok_family_up_to (T : TX K mg) : FnOk P w K mg base CX0 5 T.f_family_up_to T.d_family_up_to ["listed", "longest"] (sp_family_up_to T) := by
  refine T.F_family_up_to.ok sc_family_up_to (fun vs H Q E h => ?_) (fun cdv A outer s0 H vs Q E hr h => ?_)
  · obtain ⟨a, s, m, rfl, hL, W, hg9, hm4, k⟩ := h
    rfl
  obtain ⟨a, s, m, rfl, hL, W, hg9, hm4, k⟩ := h
  refine ⟨_, (pss_cons (ps_set (i := 2) (sc_family_up_to).nd rfl (Or.inl rfl) (pe_call (ok_goals_of T) (hr.mono (by decide)) (by rfl) T.m_goals_of T.F_goals_of.kp T.b_goals_of .nil pass0 (pa_cons (pv 0) pa_nil)))
    (pss_cons (ps_set (i := 3) (sc_family_up_to).nd rfl (Or.inl rfl) pe_dnewK)
    (pss_cons (ps_set (i := 4) (sc_family_up_to).nd rfl (Or.inl rfl) (pe_lst pa_nil))
    (pss_cons (ps_for PassesOwn.never rfl (pi_list (pv 2)) (pg_name (i := 5) (sc_family_up_to).nd rfl (Or.inl rfl)) (pss_one (ps_for PassesOwn.never rfl (pi_list (pe_call (ok_pieces_around T) (hr.mono (by decide)) (by rfl) T.m_pieces_around T.F_pieces_around.kp T.b_pieces_around .nil pass0 (pa_cons (pe_fld (pe_ix ix_list (pe_fld (pv 0) rfl) (pe_fld (pv 5) rfl) (fun _ _ => rfl)) rfl) (pa_cons (pe_fld (pv 5) rfl) (pa_cons (pv 1) pa_nil))))) (pg_name (i := 6) (sc_family_up_to).nd rfl (Or.inl rfl)) (pss_one (ps_if (pt_cmp (pc_dnotin (hu_of hr) (pe_fld (pv 6) rfl) (pv 3)) rfl) (pss_cons (ps_dput (hu_of hr) (pv 3) (pe_fld (pv 6) rfl) pe_bl rfl)
    (pss_one (ps_if (pt_val (pe_call (ok_is_good T) (hr.mono (by decide)) (by rfl) T.m_is_good T.F_is_good.kp T.b_is_good .nil pass0 (pa_cons (pv 0) (pa_cons (pv 6) pa_nil)))) (pss_cons (ps_fld (pv 6) (pe_call (ok_covered_goals T) (hr.mono (by decide)) (by rfl) T.m_covered_goals T.F_covered_goals.kp T.b_covered_goals .nil pass0 (pa_cons (pv 0) (pa_cons (pv 2) (pa_cons (pv 6) pa_nil)))) rfl)
    (pss_one (ps_expr (pe_bm PySem.F.plainAttrs_list PySem.F.slot_list_append PySem.F.type_list_append mt_append (pv 4) (pa_cons (pv 6) pa_nil))))) pss_nil))) pss_nil)))))
    (pss_one (ps_ret (pv 4))))))), Go.at ?_⟩
  let gs := goalsM s
  refine gq_asgR (R := fun H0 v H2 => ∃ p, v = .ref p ∧ H0 p = none ∧ LsAt (GoAt T) H2 p gs) (evr_call (ea_cons (ev_var rfl) ea_nil) (fun H1 e Q E k => ⟨a, s, rfl, hL.mono e, W, k⟩) fun H1 H2 v H3 e ⟨p, h1, h2, h3⟩ => ⟨p, h1, fresh_back e h2, h3⟩) fun v H1 B e1 e2 ⟨lg, hv, _, ga, hga, hG⟩ => ?_
  subst hv
  have eB := e1.trans e2
  refine gq_asgR evr_dnew fun v B1 B2 f1 f2 ⟨d, hv, hd0, hd⟩ => ?_
  subst hv
  have hdB : B d = none := fresh_back f1 hd0
  refine gq_asgL (el_lst ea_nil (by decide)) fun l B3 hl0 f3 hl => ?_
  have f23 : Ex B B3 := f1.trans (f2.trans f3)
  have hlB : B l = none := fresh_back (f1.trans f2) hl0
  have hdl : d ≠ l := ne_of_none hd hl0
  have hLB := hL.mono eB
  obtain ⟨lm, lw, lp, pb, hI, hmm, ⟨ws, hw, hW⟩, hpb, hpl⟩ := hLB
  let F := goalPs s m
  let cf := covM s gs
  let St (l0 : List MP) (H' : Hp) : Prop := Ex B H' ∧ H' d = some (.dK (seenK (famS s l0).1)) ∧ FsAt T H' l cf (famS s l0).2
  have St.mono : ∀ {l0 : List MP} {H1 H2 : Hp}, St l0 H1 → Ex H1 H2 → St l0 H2 := fun h e => ⟨h.1.trans e, e _ _ h.2.1, FsAt.mono e h.2.2⟩
  have hgl : ∀ i, ((gs.take i).flatMap F).length ≤ 2304 := fun i => by
    have h1 := flat_len (f := F) (n := 256) (l := gs.take i) fun g hg => by
      have hg2 := List.mem_of_mem_take hg
      have hlt := goal_word hg2
      have h3 : (wordM s g.w).length ≤ 16 := by
        unfold wordM
        rw [List.getElem?_eq_getElem hlt]
        exact gap_le W hg2 _ (List.getElem?_eq_getElem hlt)
      exact aroundM_len _ h3 _ _ hm4
    have h2 : (gs.take i).length ≤ 9 := by
      rw [List.length_take]
      have : gs.length ≤ 9 := hg9
      omega
    have h4 : (gs.take i).length * 256 ≤ 9 * 256 := Nat.mul_le_mul_right _ h2
    omega
  refine gq_forL (a := lg) (xs := ga.map V.ref) (ev_var rfl) (fun i σ' H' => ∃ y1 y2, σ' = [some (.ref a), some (.int (m : Nat)), some (.ref lg), some (.ref d), some (.ref l), y1, y2] ∧ St ((gs.take i).flatMap F) H')
    (fun i σ' H' hi ⟨_, _, _, h, _⟩ => sq_of (h _ _ hga)) (fun H4 e4 => ⟨none, none, rfl, f23.trans e4, e4 _ _ (f3 _ _ hd), [], e4 _ _ hl, .nil⟩) ?_ ?_
  · rintro i x σ' H' hi ⟨y1, y2, rfl, hSt⟩
    obtain ⟨g1, gd, hg1, hgd, rfl, hGo⟩ := hG.item hi
    have hgm : gd ∈ gs := List.mem_of_getElem? hgd
    have hlt := goal_word hgm
    have hwd : s.words[gd.w]? = some s.words[gd.w] := List.getElem?_eq_getElem hlt
    have hwx : wordM s gd.w = s.words[gd.w].x := by
      unfold wordM
      rw [hwd] <;> rfl
    have hx16 : s.words[gd.w].x.length ≤ 16 := gap_le W hgm _ hwd
    obtain ⟨wa, hwa, hwav, lb, hIw, hlb⟩ := hW.get hwd
    have eBH := hSt.1
    refine go_forR (fun H0 v H2 => ∃ p, v = .ref p ∧ H0 p = none ∧ Ps T H0 H2 p (F gd)) (evr_call (ea_cons (ev_fld (ev_op (ev_fld (ev_var rfl) (hI.mono eBH).words) (ev_fld (ev_var rfl) (hGo.mono eBH).word) (rv_ixL (sq_of (eBH _ _ hw)) (atI_nat hwav))) (hIw.mono eBH).letters) (ea_cons (ev_fld (ev_var rfl) (hGo.mono eBH).gap) (ea_cons (ev_var rfl) ea_nil)))
      (fun H1 e Q E k => ⟨s.words[gd.w].x, gd.g, m, rfl, hx16, hm4, by rw [← hwx]; exact k⟩) fun H1 H2 v H3 e ⟨p, h1, h2, as, h3, h4, h5⟩ => ⟨p, h1, fresh_back e h2, as, h3, h4, fun a ha => fresh_back e (h5 a ha)⟩) fun v H1 H2 e3 e4 ⟨lq, hv, hlq0, as, has, hA, hN⟩ => ?_
    have hSt2 : St ((gs.take i).flatMap F) H2 := St.mono hSt (e3.trans e4)
    have hdq : d ≠ lq := ne_of_none (e3 _ _ hSt.2.1) hlq0
    have hllq : l ≠ lq := by
      obtain ⟨_, z, _⟩ := hSt.2.2
      exact ne_of_none (e3 _ _ z) hlq0
    refine ⟨lq, as.map V.ref, fun j σ' H' => ∃ y2, σ' = [some (.ref a), some (.int (m : Nat)), some (.ref lg), some (.ref d), some (.ref l), some (.ref g1), y2] ∧ H' lq = some (.lst (as.map V.ref)) ∧ At2 (fun a q => ∃ c, Pc T H' a q c) as (F gd) ∧ St ((gs.take i).flatMap F ++ (F gd).take j) H', hv, ⟨_, rfl, has, hA, by rw [List.take_zero, List.append_nil]; exact hSt2⟩,
      fun j σ' H' hj ⟨_, _, h, _⟩ => sq_of h, ?_, ?_⟩
    · rintro j x σ' H3 hj ⟨y3, rfl, hlq, hA3, hSt3⟩
      obtain ⟨pa, q, hpa, hq, rfl, pc, hP⟩ := hA3.item hj
      have hqm : q ∈ F gd := List.mem_of_getElem? hq
      have hqx : q.x.length ≤ 1000 := around_x (by rw [hwx]; exact hx16) q hqm
      have hpaN : H1 pa = none := hN pa (List.mem_of_getElem? hpa)
      have hpaB : B pa = none := fresh_back (hSt.1.trans e3) hpaN
      let l0 := (gs.take i).flatMap F ++ (F gd).take j
      have hl0 : (famS s l0).1.length < 100000 ∧ (famS s l0).2.length < 100000 := by
        have h1 := famS_len s l0
        have h2 := hgl i
        have h3 : ((F gd).take j).length ≤ 256 := by
          have := aroundM_len (wordM s gd.w) (by rw [hwx]; exact hx16) gd.g m hm4
          rw [List.length_take]
          exact Nat.le_trans (Nat.min_le_right _ _) this
        have h4 : l0.length = ((gs.take i).flatMap F).length + ((F gd).take j).length := List.length_append
        omega
      have enext : famS s ((gs.take i).flatMap F ++ (F gd).take (j + 1)) = stepM s (famS s l0) q := by
        rw [take_next hq, ← List.append_assoc, famS_snoc]
      have eB3 := hSt3.1
      refine go_if (b := !((famS s l0).1.contains (showM q))) (et_is (et_B (ev_dnotin (k := Sum.inr (S (showM q))) (ev_fld (ev_var rfl) hP.chunk) (ev_var rfl) hSt3.2.1)) (by rw [seen_val])) (fun hb => ?_) fun hb => ?_
      · have hns : (famS s l0).1.contains (showM q) = false := by simpa using hb
        refine gq_dput (k := Sum.inr (S (showM q))) ev_c (ev_var rfl) (ev_fld (ev_var rfl) hP.chunk) hSt3.2.1 (by unfold seenK; rw [List.length_map]; exact hl0.1) fun H4 e5 => ?_
        rw [seen_put _ _ hns]
        -- the heap with the text seen
        let G := upd H4 d (.dK (seenK ((famS s l0).1 ++ [showM q])))
        have eBG : Ex B G := Ex.mut (eB3.trans e5) hdB
        have keepP : ∀ b x c, Pc T H3 b x c → Pc T G b x c := fun b x c ⟨dx, h⟩ => ⟨dx, by
          show (upd H4 d _) b = _
          rw [upd_ne (ne_of (e5 _ _ h) (e5 _ _ hSt3.2.1) (by intro z; cases z))]
          exact e5 _ _ h⟩
        have keepL : ∀ b xs, H3 b = some (.lst xs) → G b = some (.lst xs) := fun b xs h => by
          show (upd H4 d _) b = _
          rw [upd_ne (ne_of (e5 _ _ h) (e5 _ _ hSt3.2.1) (by intro z; cases z))]
          exact e5 _ _ h
        have hFG : FsAt T G l cf (famS s l0).2 := by
          obtain ⟨fs, h1, h2⟩ := hSt3.2.2
          exact ⟨fs, keepL _ _ h1, h2.mono fun b x ⟨c, h3, h4, h5⟩ => ⟨c, h3, keepP b x c h4, keepL _ _ h5⟩⟩
        have hAG : At2 (fun a q => ∃ c, Pc T G a q c) as (F gd) := hA3.mono fun b x ⟨c, h⟩ => ⟨c, keepP b x c h⟩
        have hGd : G d = some (.dK (seenK ((famS s l0).1 ++ [showM q]))) := upd_same
        have hPG := keepP _ _ _ hP
        refine go_if (b := goodM s q) (et_B (ev_callV (ea_cons (ev_var rfl) (ea_cons (ev_var rfl) ea_nil)) fun H5 e Q E k => ⟨a, pa, pc, s, q, rfl, (hL.mono eB).mono (eBG.trans e), W, hPG.mono e, hqx, k⟩)) (fun hgood => ?_) fun hgood => ?_
        · obtain ⟨pdx, hpI⟩ := hPG
          refine gq_fldR (EvL.r (xs := nl (cf q)) (elc_call (ea_cons (ev_var rfl) (ea_cons (ev_var rfl) (ea_cons (ev_var rfl) ea_nil))) fun H5 e Q E k => ⟨a, lg, pa, pc, s, gs, q, rfl, (hL.mono eB).mono (eBG.trans e), W, LsAt.mono (R := GoAt T) (fun _ _ _ _ e h => GoAt.mono e h) (eBG.trans e) ⟨ga, hga, hG⟩, by have : gs.length ≤ 9 := hg9; omega, fun g hg => goal_word hg, Pc.mono e ⟨pdx, hpI⟩, hqx, k⟩))
            (ev_var rfl) hpI T.cl_Piece T.n_Piece_covered (by show 6 < 1000; decide) fun y H5 H6 H7 e6 e7 ⟨nc, hy, hnc, hncl⟩ e8 => ?_
          subst hy
          rw [put_Piece_covered]
          -- the heap with the covered goals told
          let I := upd H7 pa (.ins T.C_Piece pdx (R_Piece (.str (S q.x)) (.int (q.b : Nat)) (.str (S (ptB q.f))) (.str (S (ptB q.h))) (.str (S (showM q))) (.ref nc)))
          have e67 : Ex G H7 := e6.trans (e7.trans e8)
          have eBI : Ex B I := Ex.mut (eBG.trans e67) hpaB
          have hnpa : nc ≠ pa := fun z => by
            rw [z, e6 _ _ hpI] at hnc
            cases hnc
          have hncl' : nc ≠ l := fun z => by
            obtain ⟨_, h, _⟩ := hFG
            rw [z, e6 _ _ h] at hnc
            cases hnc
          have keepL2 : ∀ b xs, G b = some (.lst xs) → I b = some (.lst xs) := fun b xs h => by
            show (upd H7 pa _) b = _
            rw [upd_ne (ne_of h hpI (by intro z; cases z))]
            exact e67 _ _ h
          have keepP2 : ∀ b x c, Pc T G b x c → showM x ≠ showM q → Pc T I b x c := fun b x c ⟨dx, h⟩ hne => ⟨dx, by
            show (upd H7 pa _) b = _
            rw [upd_ne (ne_of h hpI (by
              intro z
              injection z with z1 z2 z3
              injection z3 with z4 z5
              injection z5 with z5 z6
              injection z6 with z6 z7
              injection z7 with z7 z8
              injection z8 with z8 z9
              exact str_ne hne (Prod.mk.inj z8).2))]
            exact e67 _ _ h⟩
          have hPI : Pc T I pa q nc := ⟨pdx, upd_same⟩
          have hncI : I nc = some (.lst (nl (cf q))) := by
            show (upd H7 pa _) nc = _
            rw [upd_ne hnpa]
            exact e8 _ _ hncl
          have hId : I d = some (.dK (seenK ((famS s l0).1 ++ [showM q]))) := by
            show (upd H7 pa _) d = _
            rw [upd_ne (ne_of hGd hpI (by intro z; cases z))]
            exact e67 _ _ hGd
          have hFI : FsAt T I l cf (famS s l0).2 := by
            obtain ⟨fs, h1, h2⟩ := hFG
            refine ⟨fs, keepL2 _ _ h1, h2.len, fun i b x hb hx => ?_⟩
            obtain ⟨c, h3, h4, h5⟩ := h2.at_ i b x hb hx
            have hsx := famS_seen s l0 x (List.mem_of_getElem? hx)
            exact ⟨c, h3, keepP2 b x c h4 (fun z => by rw [z, hns] at hsx; cases hsx), keepL2 _ _ h5⟩
          have hAI : At2 (fun a q => ∃ c, Pc T I a q c) as (F gd) := by
            refine ⟨hAG.len, fun i b x hb hx => ?_⟩
            obtain ⟨c, h4⟩ := hAG.at_ i b x hb hx
            by_cases hbp : b = pa
            · rw [hbp] at h4 ⊢
              obtain ⟨dx, h4⟩ := h4
              have h5 := h4.symm.trans hpI
              injection h5 with h5
              injection h5 with z1 z2 z3
              exact ⟨nc, dx, by
                show (upd H7 pa _) pa = _
                rw [upd_same]
                injection z3 with y1 y2
                injection y2 with y2 y3
                injection y3 with y3 y4
                injection y4 with y4 y5
                injection y5 with y5 y6
                have w1 := (Prod.mk.inj y1).2
                have w2 := (Prod.mk.inj y2).2
                have w3 := (Prod.mk.inj y3).2
                have w4 := (Prod.mk.inj y4).2
                have w5 := (Prod.mk.inj y5).2
                rw [w1, w2, w3, w4, w5, z2]⟩
            · obtain ⟨dx, h4⟩ := h4
              exact ⟨c, dx, by
                show (upd H7 pa _) b = _
                rw [upd_ne hbp]
                exact e67 _ _ h4⟩
          have hlqI : I lq = some (.lst (as.map V.ref)) := keepL2 _ _ (keepL _ _ hlq)
          obtain ⟨fs, hfs, hFA⟩ := hFI
          refine go_app hfs (ev_var rfl) (ev_var rfl) (by rw [List.length_map, hFA.len]; exact hl0.2) fun H8 e9 => ⟨_, rfl, ?_, ?_, Ex.mut (eBI.trans e9) hlB, ?_, ?_⟩
          · rw [upd_ne hllq.symm]
            exact e9 _ _ hlqI
          · exact hAI.mono fun b x ⟨c, dx, h⟩ => ⟨c, dx, by rw [upd_ne (ne_of h hfs (by intro z; cases z))]; exact e9 _ _ h⟩
          · rw [upd_ne hdl, enext]
            unfold stepM
            rw [if_neg (by rw [hns]; decide)]
            exact e9 _ _ hId
          · rw [enext]
            unfold stepM
            rw [if_neg (by rw [hns]; decide)]
            show FsAt T _ l cf (if goodM s q = true then _ else _)
            rw [if_pos hgood]
            have hmap : At2 (fun a q => ∃ cv, cv ≠ l ∧ Pc T (upd H8 l (.lst (fs.map V.ref ++ [V.ref pa]))) a q cv ∧ (upd H8 l (.lst (fs.map V.ref ++ [V.ref pa]))) cv = some (.lst (nl (cf q)))) fs (famS s l0).2 := hFA.mono (by
              rintro b x ⟨c, h3, ⟨dx, h4⟩, h5⟩
              refine ⟨c, h3, ⟨dx, ?_⟩, ?_⟩
              · rw [upd_ne (ne_of h4 hfs (by intro z; cases z))]
                exact e9 _ _ h4
              · rw [upd_ne h3]
                exact e9 _ _ h5)
            refine ⟨fs ++ [pa], by rw [upd_same, List.map_append] <;> rfl, hmap.snoc ⟨nc, hncl', ⟨pdx, ?_⟩, ?_⟩⟩
            · rw [upd_ne (ne_of (show I pa = _ from upd_same) hfs (by intro z; cases z))]
              exact e9 _ _ upd_same
            · rw [upd_ne hncl']
              exact e9 _ _ hncI
        · refine go_next fun H5 e6 => ⟨_, rfl, e6 _ _ (keepL _ _ hlq), hAG.mono fun b x ⟨c, h⟩ => ⟨c, h.mono e6⟩, eBG.trans e6, ?_, ?_⟩
          · rw [enext]
            unfold stepM
            rw [if_neg (by rw [hns]; decide)]
            exact e6 _ _ hGd
          · rw [enext]
            unfold stepM
            rw [if_neg (by rw [hns]; decide)]
            show FsAt T _ l cf (if goodM s q = true then _ else _)
            rw [if_neg (by rw [hgood]; decide)]
            exact hFG.mono e6
      · have hse : (famS s l0).1.contains (showM q) = true := by simpa using hb
        refine go_next fun H4 e5 => ⟨_, rfl, e5 _ _ hlq, hA3.mono fun b x ⟨c, h⟩ => ⟨c, h.mono e5⟩, ?_⟩
        have e6 : famS s ((gs.take i).flatMap F ++ (F gd).take (j + 1)) = famS s l0 := by
          rw [enext]
          unfold stepM
          rw [if_pos hse]
        show Ex B H4 ∧ H4 d = some (.dK (seenK (famS s _).1)) ∧ FsAt T H4 l cf (famS s _).2
        rw [e6]
        exact St.mono hSt3 e5
    · rintro σ' H3 ⟨y3, rfl, hlq, hA3, hSt3⟩
      refine ⟨_, _, rfl, ?_⟩
      rw [take_next hgd, List.flatMap_append]
      have e : List.take (as.map V.ref).length (F gd) = F gd := List.take_of_length_le (by rw [List.length_map, hA.len]; exact Nat.le_refl _)
      rw [e] at hSt3
      simpa using hSt3
  · rintro σ' H3 ⟨y1, y2, rfl, hSt3⟩
    have e : List.take (ga.map V.ref).length gs = gs := List.take_of_length_le (by rw [List.length_map, hG.len]; exact Nat.le_refl _)
    rw [e] at hSt3
    refine go_ret (ev_var rfl) fun H4 e4 => k _ H4 (eB.trans (hSt3.1.trans e4)) ⟨l, rfl, fresh_back eB hlB, ?_⟩
    obtain ⟨fs, h1, h2⟩ := hSt3.2.2
    refine ⟨fs, e4 _ _ h1, by rw [h2.len]; exact (List.length_map _).symm, fun i b p hb hp => ?_⟩
    have hp2 : ((famM s m).map fun q => (q, covM s (goalsM s) q))[i]? = some p := hp
    rw [List.getElem?_map] at hp2
    cases hq : (famM s m)[i]? with
    | none =>
      rw [hq] at hp2
      cases hp2
    | some q =>
      rw [hq] at hp2
      cases hp2
      obtain ⟨c, _, h4, h5⟩ := h2.at_ i b q hb hq
      exact ⟨c, h4.mono e4, e4 _ _ h5⟩
end
end LP
namespace LP
open PySem PySem.Spec PyProof.Rows L2 Evl
open VahypBase (Bytes isLetter isDigit inChunk)
/-- item by item of a list -/
def byAt {α : Type} (ps : List α) (f : α → V) (i : Nat) : V := match ps[i]? with
  | some p => f p
  | none => .non
theorem given_all {α : Type} (ps : List α) (f : α → V) : given ps.length (fun _ => true) (byAt ps f) = ps.map f := by
  unfold given
  have e : (List.range ps.length).filter (fun _ => true) = List.range ps.length := List.filter_eq_self.mpr fun _ _ => rfl
  rw [e]
  refine List.ext_getElem? fun i => ?_
  rw [List.getElem?_map, List.getElem?_map]
  by_cases h : i < ps.length
  · rw [List.getElem?_range h, List.getElem?_eq_getElem h]
    show some (byAt ps f i) = some (f ps[i])
    unfold byAt
    rw [List.getElem?_eq_getElem h]
  · rw [List.getElem?_eq_none (by rw [List.length_range]; omega), List.getElem?_eq_none (by omega)] <;> rfl
section
variable {K : PySem.W.Frag} {σ : L2.St} {H H' : Hp} {ta tb td ty tv tl te : TE} {t u : TT} {x y z v : V} {D : Ends} {tu tw tz : TS}
/-- [f(x) for x in things] -/
theorem el_lcP {α : Type} {R : Hp → Addr → α → Prop} (hR : ∀ H H' a x, Ex H H' → R H a x → R H' a x) {j : Nat} {l : Addr} {ps : List α} (f : α → V) (h : Ev tl σ H (.ref l)) (hl : LsAt R H l ps) (hz : ps.length ≤ 40000) {vs : List Nat} (hw : ∀ x, wipe ((wipe σ vs).set j (some x)) vs = wipe σ vs)
    (he : ∀ (a : Addr) (p : α) H1, Ex H H1 → p ∈ ps → R H1 a p → Ev te ((wipe σ vs).set j (some (.ref a))) H1 (f p)) : EvL (tLc (iList K tl) (gName j) tYes te vs) σ H (ps.map f) := by
  obtain ⟨as, h1, h2⟩ := hl
  have e := el_lcL (K := K) (te := te) (t := tYes) (j := j) (vs := vs) (fun _ => true) (byAt ps f) h (sq_of h1) (by rw [List.length_map, h2.len]; exact hz) hw (fun _ _ _ _ _ => et_yes) fun i x H1 e1 hi _ => by
    obtain ⟨a, p, ha, hp, rfl, r⟩ := h2.item hi
    have e2 : byAt ps f i = f p := by
      unfold byAt
      rw [hp]
    rw [e2]
    exact he a p H1 e1 (List.mem_of_getElem? hp) (hR _ _ _ _ e1 r)
  rw [List.length_map, h2.len, given_all] at e
  exact e
/-- any([..]), all([..]) of truth values made on the way -/
theorem ev_any {bs : List Bool} {vs : List V} (h : EvL te σ H vs) (e : vs = bs.map V.bl) : Ev (tCB (rAny K) (tCons te tNil)) σ H (.bl (bs.any id)) := fun H1 e1 Q q => h H1 e1 _ fun p H2 hp e2 h2 => ⟨p, bs, rfl, by rw [← e]; exact sq_of h2, q H2 e2⟩
theorem ev_all {bs : List Bool} {vs : List V} (h : EvL te σ H vs) (e : vs = bs.map V.bl) : Ev (tCB (rAll K) (tCons te tNil)) σ H (.bl (bs.all id)) := fun H1 e1 Q q => h H1 e1 _ fun p H2 hp e2 h2 => ⟨p, bs, rfl, by rw [← e]; exact sq_of h2, q H2 e2⟩
theorem ev_lenS {l : Addr} {xs : List V} (h : Ev te σ H (.ref l)) (hl : H l = some (.lst xs)) : Ev (tCB (fun xs H Q => ∃ p ys, xs = [.ref p] ∧ (SqL K H p ys ∨ SqT K H p ys) ∧ Q (.int ys.length) H) (tCons te tNil)) σ H (.int (xs.length : Nat)) :=
  ev_cbv (ea_cons h ea_nil) fun H1 e Q q => ⟨l, xs, rfl, .inl (sq_of (e _ _ hl)), q⟩
theorem ev_lenT {s : Str} (h : Ev te σ H (.str s)) (hz : s.length ≤ 100000) : Ev (tCB (fun xs H Q => ∃ z, xs = [.str z] ∧ z.length ≤ sizeLine ∧ Q (.int z.length) H) (tCons te tNil)) σ H (.int (s.length : Nat)) :=
  ev_cbv (ea_cons h ea_nil) fun H1 e Q q => ⟨s, rfl, sz_of hz, q⟩
end
section
variable {P : Program} {w : World} {K : PySem.W.Frag} {mg : Str → Option Value} {base : Heap} {H H' : Hp}
/-! ## first_uncovered, is_exact -/
def covd (ps : List (MP × List Nat)) (k : Nat) : Bool := ps.any fun p => p.2.contains k
def firstM (n : Nat) (ps : List (MP × List Nat)) : Option Nat := (List.range n).find? fun k => !covd ps k
def optI : Option Nat → Int
  | some k => (k : Int)
  | none => -1
def sp_first_uncovered (T : TX K mg) : Sp := fun vs H Q _ => ∃ (l p : Addr) (xs : List V) (ps : List (MP × List Nat)), vs = [.ref l, .ref p] ∧ H l = some (.lst xs) ∧ xs.length ≤ 1000 ∧ LsAt (PcC T) H p ps ∧ ps.length ≤ 40000 ∧ RetV (.int (optI (firstM xs.length ps))) H Q
theorem LsAt.monoP {T : TX K mg} {l : Addr} {ps : List (MP × List Nat)} (e : Ex H H') (h : LsAt (PcC T) H l ps) : LsAt (PcC T) H' l ps := LsAt.mono (R := PcC T) (fun _ _ _ _ e h => PcC.mono e h) e h
theorem find_range {f : Nat → Bool} {n i : Nat} (hi : i < n) (h : ∀ k, k < i → f k = false) (hf : f i = true) : (List.range n).find? f = some i := by
  rw [List.find?_range_eq_some]
  exact ⟨hf, List.mem_range.mpr hi, fun j hj => by rw [h j hj]; rfl⟩
theorem ok_first_uncovered (T : TX K mg) : FnOk P w K mg base CX0 1 T.f_first_uncovered T.d_first_uncovered ["goals", "pieces"] (sp_first_uncovered T) := by
  refine T.F_first_uncovered.ok sc_first_uncovered (fun vs H Q E h => ?_) (fun cdv A outer s0 H vs Q E hr h => ?_)
  · obtain ⟨l, p, xs, ps, rfl, hl, hxs, hP, hps, k⟩ := h
    rfl
  obtain ⟨l, p, xs, ps, rfl, hl, hxs, hP, hps, k⟩ := h
  refine ⟨_, (pss_cons (ps_for PassesOwn.never rfl (pi_range1 (by rfl) T.n_range (pa_cons (pe_callB call_len_seq (by rfl) T.n_len PySem.boot_len (pa_cons (pv 0) pa_nil)) pa_nil)) (pg_name (i := 2) (sc_first_uncovered).nd rfl (Or.inr rfl)) (pss_one (ps_if (pt_not (pt_val (pe_callB (cr_any rfl) (by rfl) T.n_any (by decide +kernel) (pa_cons (pe_lc (own := [("piece", 3)]) (by rfl) (sc_first_uncovered).nd (pi_list (pv 1)) (blkOk_by (own := [("piece", 3)]) (N := N_first_uncovered) (sc := defScope s_first_uncovered) (by decide +kernel)) (fun _ _ _ _ _ => (pg_name (i := 3) (sc_first_uncovered).nd rfl (Or.inl rfl))) (fun _ _ _ _ _ => pts_nil) (fun _ _ _ _ _ => (pe_cmpR (op_in_seqK (K := K) rfl) (pv 2) (pe_fldK (K := K) rfl (pv 3) rfl) (by rfl)))) pa_nil)))) (pss_one (ps_ret (pv 2))) pss_nil)))
    (pss_one (ps_ret (pe_un un_neg pe_int)))), Go.at ?_⟩
  refine gq_forR1 (n := (xs.length : Nat)) (ea_cons (ev_lenS (ev_var rfl) hl) ea_nil) (by omega) (fun i σ' H' => ∃ y1, σ' = [some (.ref l), some (.ref p), y1, none] ∧ Ex H H' ∧ ∀ k, k < i → covd ps k = true) (fun H1 e1 => ⟨none, rfl, e1, fun k hk => by omega⟩) ?_ ?_
  · rintro i σ' H' hi ⟨y1, rfl, eH, hall⟩
    refine go_if (b := !covd ps i) (et_not (et_is (et_B (ev_any (bs := ps.map fun p => p.2.contains i) (el_lcP (R := PcC T) (fun _ _ _ _ e h => PcC.mono e h) (fun p => V.bl (p.2.contains i)) (ev_var rfl) (hP.monoP eH) hps (fun x => rfl) fun a q H1 e1 _ hq => ?_) (by rw [List.map_map] <;> rfl))) (by rw [List.any_map] <;> rfl))) (fun hb => ?_) fun hb => ?_
    · obtain ⟨cv, hI, hcv⟩ := hq
      exact ev_is (ev_op (ev_var rfl) (ev_fld (ev_var rfl) hI.covered) (rv_isL (sq_of hcv) rfl (nl_flat _))) (by rw [nl_in])
    · have hb2 : covd ps i = false := by simpa using hb
      refine go_ret (ev_var rfl) fun H1 e1 => ?_
      have e : firstM xs.length ps = some i := find_range (by omega) (fun k hk => by rw [hall k hk] <;> rfl) (by rw [hb2] <;> rfl)
      rw [e] at k
      exact k H1 (eH.trans e1)
    · have hb2 : covd ps i = true := by simpa using hb
      refine go_next fun H1 e1 => ⟨_, rfl, eH.trans e1, fun k hk => ?_⟩
      by_cases c : k = i
      · rw [c]
        exact hb2
      · exact hall k (by omega)
  · rintro σ' H' ⟨y1, rfl, eH, hall⟩
    refine go_ret (ev_un ev_c ru_neg) fun H1 e1 => ?_
    have e : firstM xs.length ps = none := by
      unfold firstM
      rw [List.find?_range_eq_none]
      intro k hk
      rw [hall k (by omega)]
      rfl
    rw [e] at k
    exact k H1 (eH.trans e1)
def sp_is_exact (T : TX K mg) : Sp := fun vs H Q _ => ∃ (l p : Addr) (xs : List V) (ps : List (MP × List Nat)), vs = [.ref l, .ref p] ∧ H l = some (.lst xs) ∧ xs.length ≤ 1000 ∧ LsAt (PcC T) H p ps ∧ ps.length ≤ 40000 ∧ RetV (.bl (firstM xs.length ps).isNone) H Q
theorem ok_is_exact (T : TX K mg) : FnOk P w K mg base CX0 2 T.f_is_exact T.d_is_exact ["goals", "pieces"] (sp_is_exact T) := by
  refine T.F_is_exact.ok sc_is_exact (fun vs H Q E h => ?_) (fun cdv A outer s0 H vs Q E hr h => ?_)
  · obtain ⟨l, p, xs, ps, rfl, hl, hxs, hP, hps, k⟩ := h
    rfl
  obtain ⟨l, p, xs, ps, rfl, hl, hxs, hP, hps, k⟩ := h
  refine ⟨_, (pss_one (ps_ret (pe_cmpR op_eq (pe_call (ok_first_uncovered T) (hr.mono (by decide)) (by rfl) T.m_first_uncovered T.F_first_uncovered.kp T.b_first_uncovered .nil pass0 (pa_cons (pv 0) (pa_cons (pv 1) pa_nil))) (pe_un un_neg pe_int) (nomark _)))), Go.at ?_⟩
  refine go_ret (ev_is (ev_op (ev_callV (z := .int (optI (firstM xs.length ps))) (ea_cons (ev_var rfl) (ea_cons (ev_var rfl) ea_nil)) fun H1 e Q E k => ⟨l, p, xs, ps, rfl, e _ _ hl, hxs, hP.monoP e, hps, k⟩) (ev_un ev_c ru_neg) (rv_eq rfl)) ?_) k
  rw [dec_int]
  congr 1
  cases firstM xs.length ps with
  | none => rfl
  | some n =>
    show (((n : Nat) : Int) == -1) = false
    rw [beq_eq_false_iff_ne]
    omega
/-! ## apart -/
def joinM (n : Nat) (ps : List (MP × List Nat)) : List (Nat × Nat) := (List.range n).flatMap fun a => ((List.range (n - (a + 1))).map fun d => (a, a + 1 + d)).filter fun q => ps.any fun p => p.2.contains q.1 && p.2.contains q.2
end
end LP
namespace LP
open PySem PySem.Spec PyProof.Rows L2 Evl
open VahypBase (Bytes isLetter isDigit inChunk)
section
variable {P : Program} {w : World} {K : PySem.W.Frag} {mg : Str → Option Value} {base : Heap} {H H' : Hp}
def PrAt (H : Hp) (a : Addr) (q : Nat × Nat) : Prop := H a = some (.tup [.int (q.1 : Nat), .int (q.2 : Nat)])
theorem PrAt.mono {a : Addr} {q : Nat × Nat} (e : Ex H H') (h : PrAt H a q) : PrAt H' a q := e _ _ h
theorem LsAt.monoQ {l : Addr} {qs : List (Nat × Nat)} (e : Ex H H') (h : LsAt PrAt H l qs) : LsAt PrAt H' l qs := LsAt.mono (R := PrAt) (fun _ _ _ _ e h => PrAt.mono e h) e h
def bothM (ps : List (MP × List Nat)) (q : Nat × Nat) : Bool := ps.any fun p => p.2.contains q.1 && p.2.contains q.2
def rowJ (n : Nat) (ps : List (MP × List Nat)) (a : Nat) : List (Nat × Nat) := ((List.range (n - (a + 1))).map fun d => (a, a + 1 + d)).filter (bothM ps)
def joinP (n : Nat) (ps : List (MP × List Nat)) : List (Nat × Nat) := (List.range n).flatMap (rowJ n ps)
def sp_joined_pairs (T : TX K mg) : Sp := fun vs H Q _ => ∃ (p : Addr) (n : Nat) (ps : List (MP × List Nat)), vs = [.ref p, .int (n : Nat)] ∧ n ≤ 9 ∧ LsAt (PcC T) H p ps ∧ ps.length ≤ 40000 ∧ RetR (fun H0 v H2 => ∃ l, v = .ref l ∧ H0 l = none ∧ LsAt PrAt H2 l (joinP n ps)) H Q
theorem rowJ_len (n : Nat) (ps : List (MP × List Nat)) (a : Nat) : (rowJ n ps a).length ≤ n := by
  unfold rowJ
  refine Nat.le_trans (List.length_filter_le _ _) ?_
  rw [List.length_map, List.length_range]
  omega
theorem row_succ (n : Nat) (ps : List (MP × List Nat)) (a j : Nat) : ((List.range (j + 1)).map fun d => (a, a + 1 + d)).filter (bothM ps) = ((List.range j).map fun d => (a, a + 1 + d)).filter (bothM ps) ++ (if bothM ps (a, a + 1 + j) = true then [(a, a + 1 + j)] else []) := by
  rw [List.range_succ, List.map_append, List.filter_append, List.map_cons, List.map_nil, List.filter_cons, List.filter_nil]
theorem ok_joined_pairs (T : TX K mg) : FnOk P w K mg base CX0 1 T.f_joined_pairs T.d_joined_pairs ["pieces", "goal_count"] (sp_joined_pairs T) := by
  refine T.F_joined_pairs.ok sc_joined_pairs (fun vs H Q E h => ?_) (fun cdv A outer s0 H vs Q E hr h => ?_)
  · obtain ⟨p, n, ps, rfl, hn, hP, hps, k⟩ := h
    rfl
  obtain ⟨p, n, ps, rfl, hn, hP, hps, k⟩ := h
  refine ⟨_, (pss_cons (ps_set (i := 2) (sc_joined_pairs).nd rfl (Or.inl rfl) (pe_lst pa_nil))
    (pss_cons (ps_for PassesOwn.never rfl (pi_range1 (by rfl) T.n_range (pa_cons (pv 1) pa_nil)) (pg_name (i := 3) (sc_joined_pairs).nd rfl (Or.inr rfl)) (pss_one (ps_for PassesOwn.never rfl (pi_range2 (by rfl) T.n_range (pa_cons (pe_op op_add (pv 3) pe_int) (pa_cons (pv 1) pa_nil))) (pg_name (i := 4) (sc_joined_pairs).nd rfl (Or.inr rfl)) (pss_one (ps_if (pt_val (pe_callB (cr_any rfl) (by rfl) T.n_any (by decide +kernel) (pa_cons (pe_lc (own := [("piece", 5)]) (by rfl) (sc_joined_pairs).nd (pi_list (pv 0)) (blkOk_by (own := [("piece", 5)]) (N := N_joined_pairs) (sc := defScope s_joined_pairs) (by decide +kernel)) (fun _ _ _ _ _ => (pg_name (i := 5) (sc_joined_pairs).nd rfl (Or.inl rfl))) (fun _ _ _ _ _ => pts_nil) (fun _ _ _ _ _ => (pe_and (pe_cmpR (op_in_seqK (K := K) rfl) (pv 3) (pe_fldK (K := K) rfl (pv 5) rfl) (by rfl)) (pe_one (pe_cmpR (op_in_seqK (K := K) rfl) (pv 4) (pe_fldK (K := K) rfl (pv 5) rfl) (by rfl)))))) pa_nil))) (pss_one (ps_expr (pe_bm PySem.F.plainAttrs_list PySem.F.slot_list_append PySem.F.type_list_append mt_append (pv 2) (pa_cons (pe_tup (pa_cons (pv 3) (pa_cons (pv 4) pa_nil))) pa_nil)))) pss_nil)))))
    (pss_one (ps_ret (pv 2))))), Go.at ?_⟩
  refine gq_asgL (el_lst ea_nil (by decide)) fun l H1 nl1 e1 hl => ?_
  refine gq_forR1 (n := (n : Nat)) (ea_cons (ev_var rfl) ea_nil) (by omega) (fun i σ' H' => ∃ y1 y2, σ' = [some (.ref p), some (.int (n : Nat)), some (.ref l), y1, y2, none] ∧ Ex H H' ∧ LsAt PrAt H' l ((List.range i).flatMap (rowJ n ps))) (fun H2 e2 => ⟨none, none, rfl, e1.trans e2, [], e2 _ _ hl, .nil⟩) ?_ ?_
  · rintro i σ' H' hi ⟨y1, y2, rfl, eH, hL⟩
    have hi9 : i < 9 := by omega
    refine go_forR2 (lo := (i : Int) + 1) (n := (n : Nat)) (ea_cons (ev_op (ev_var rfl) ev_c rv_I0) (ea_cons (ev_var rfl) ea_nil)) (by omega) (fun j σ' H' => ∃ y2, σ' = [some (.ref p), some (.int (n : Nat)), some (.ref l), some (.int (i : Nat)), y2, none] ∧ Ex H H' ∧ LsAt PrAt H' l ((List.range i).flatMap (rowJ n ps) ++ ((List.range j).map fun d => (i, i + 1 + d)).filter (bothM ps)))
      (fun H2 e2 => ⟨_, rfl, eH.trans e2, by simpa using LsAt.monoQ e2 hL⟩) ?_ ?_
    · rintro j σ' H3 hj ⟨y3, rfl, eH3, hL3⟩
      have ej : (i : Int) + 1 + (j : Int) = ((i + 1 + j : Nat) : Int) := by omega
      rw [ej]
      refine go_if (b := bothM ps (i, i + 1 + j)) (et_is (et_B (ev_any (bs := ps.map fun p => p.2.contains i && p.2.contains (i + 1 + j)) (el_lcP (R := PcC T) (fun _ _ _ _ e h => PcC.mono e h) (fun p => V.bl (p.2.contains i && p.2.contains (i + 1 + j))) (ev_var rfl) (hP.monoP eH3) hps (fun x => rfl) fun a q H1 e1 _ hq => ?_) (by rw [List.map_map] <;> rfl))) (by rw [List.any_map] <;> rfl)) (fun hb => ?_) fun hb => ?_
      · obtain ⟨cv, hI, hcv⟩ := hq
        exact ev_andV (ev_is (ev_op (ev_var rfl) (ev_fld (ev_var rfl) hI.covered) (rv_isL (sq_of hcv) rfl (nl_flat _))) (by rw [nl_in])) fun _ => ev_is (ev_op (ev_var rfl) (ev_fld (ev_var rfl) hI.covered) (rv_isL (sq_of hcv) rfl (nl_flat _))) (by rw [nl_in])
      · obtain ⟨as, has, hA⟩ := hL3
        have hlen : (as.map V.ref).length < 100000 := by
          have h1 := flat_len (f := rowJ n ps) (n := n) (l := List.range i) fun a _ => rowJ_len n ps a
          rw [List.length_range] at h1
          have h2 : i * n ≤ 9 * 9 := Nat.mul_le_mul (by omega) hn
          have h3 : (((List.range j).map fun d => (i, i + 1 + d)).filter (bothM ps)).length ≤ j := by
            refine Nat.le_trans (List.length_filter_le _ _) ?_
            rw [List.length_map, List.length_range]
            exact Nat.le_refl _
          rw [List.length_map, hA.len, List.length_append]
          omega
        refine go_appR (R := fun H0 v H2 => ∃ t, v = .ref t ∧ H0 t = none ∧ PrAt H2 t (i, i + 1 + j)) has (ev_var rfl) (fun H4 e4 Q q => eu_tup (vs := [.int (i : Nat), .int ((i + 1 + j : Nat) : Int)]) (ea_cons (ev_var rfl) (ea_cons (ev_var rfl) ea_nil)) (by show 2 ≤ 100000; decide) H4 e4 Q fun t H5 ht e5 h5 => q _ H5 e5 ⟨t, rfl, ht, h5⟩) hlen fun v H4 H5 e4 e5 ⟨t, hv, ht, hT⟩ => ?_
        subst hv
        have htl : t ≠ l := fun z => by
          rw [z, e4 _ _ has] at ht
          cases ht
        refine ⟨_, rfl, Ex.mut (eH3.trans (e4.trans e5)) nl1, as ++ [t], by rw [upd_same, List.map_append] <;> rfl, ?_⟩
        rw [row_succ n, if_pos hb, ← List.append_assoc]
        refine (hA.mono fun b x h => ?_).snoc ?_
        · show (upd H5 l _) b = _
          rw [upd_ne (ne_of h has (by intro z; cases z))]
          exact e5 _ _ (e4 _ _ h)
        · show (upd H5 l _) t = _
          rw [upd_ne htl]
          exact hT
      · refine go_next fun H4 e4 => ⟨_, rfl, eH3.trans e4, ?_⟩
        rw [row_succ n, if_neg (by rw [hb]; decide), List.append_nil]
        exact LsAt.monoQ e4 hL3
    · rintro σ' H3 ⟨y3, rfl, eH3, hL3⟩
      refine ⟨_, _, rfl, eH3, ?_⟩
      have e : ((n : Int) - ((i : Int) + 1)).toNat = n - (i + 1) := by omega
      rw [e] at hL3
      rw [flat_succ]
      exact hL3
  · rintro σ' H3 ⟨y1, y2, rfl, eH3, hL3⟩
    refine go_ret (ev_var rfl) fun H4 e4 => k _ H4 (eH3.trans e4) ⟨l, rfl, nl1, ?_⟩
    rw [Int.toNat_natCast] at hL3
    exact LsAt.monoQ e4 hL3
def apartM (qs : List (Nat × Nat)) (gs : List Nat) : Bool := qs.all fun q => !(gs.contains q.1 && gs.contains q.2)
def sp_are_apart : Sp := fun vs H Q _ => ∃ (l g : Addr) (qs : List (Nat × Nat)) (gs : List Nat), vs = [.ref l, .ref g] ∧ LsAt PrAt H l qs ∧ H g = some (.lst (nl gs)) ∧ RetV (.bl (apartM qs gs)) H Q
theorem ok_are_apart (T : TX K mg) : FnOk P w K mg base CX0 1 T.f_are_apart T.d_are_apart ["pairs", "goals"] (sp_are_apart) := by
  refine T.F_are_apart.ok sc_are_apart (fun vs H Q E h => ?_) (fun cdv A outer s0 H vs Q E hr h => ?_)
  · obtain ⟨l, g, qs, gs, rfl, ⟨as, has, hA⟩, hg, k⟩ := h
    rfl
  obtain ⟨l, g, qs, gs, rfl, ⟨as, has, hA⟩, hg, k⟩ := h
  refine ⟨_, (pss_cons (ps_for PassesOwn.never rfl (pi_list (pv 0)) (pg_name (i := 2) (sc_are_apart).nd rfl (Or.inl rfl)) (pss_one (ps_if (PW.pt (pw_and (pt_cmpR op_in_seq (pe_ix ix_tup (pv 2) pe_int (fun _ _ => rfl)) (pv 1) (by rfl)) (pw_and1 (pt_cmpR op_in_seq (pe_ix ix_tup (pv 2) pe_int (fun _ _ => rfl)) (pv 1) (by rfl))))) (pss_one (ps_ret pe_bl)) pss_nil)))
    (pss_one (ps_ret pe_bl))), Go.at ?_⟩
  refine gq_forL (a := l) (xs := as.map V.ref) (ev_var rfl) (fun i σ' H' => ∃ y1, σ' = [some (.ref l), some (.ref g), y1] ∧ Ex H H' ∧ (qs.take i).all (fun q => !(gs.contains q.1 && gs.contains q.2)) = true) (fun i σ' H' hi ⟨_, _, eH, _⟩ => sq_of (eH _ _ has)) (fun H1 e1 => ⟨none, rfl, e1, by simp⟩) ?_ ?_
  · rintro i x σ' H' hi ⟨y1, rfl, eH, hall⟩
    obtain ⟨t, q, ht, hq, rfl, hT⟩ := hA.item hi
    have hT' : H' t = some (.tup [.int (q.1 : Nat), .int (q.2 : Nat)]) := eH _ _ hT
    have hg' := eH _ _ hg
    refine go_if (b := gs.contains q.1 && gs.contains q.2) (et_and (et_is (et_test (ev_op (ev_op (ev_var rfl) ev_c (rv_ixT (st_of hT') (atI_nat (j := 0) rfl))) (ev_var rfl) (rv_isL (sq_of hg') rfl (nl_flat _)))) (by rw [nl_in])) fun _ => et_is (et_test (ev_op (ev_op (ev_var rfl) ev_c (rv_ixT (st_of hT') (atI_nat (j := 1) rfl))) (ev_var rfl) (rv_isL (sq_of hg') rfl (nl_flat _)))) (by rw [nl_in])) (fun hb => ?_) fun hb => ?_
    · refine go_ret ev_c fun H4 e4 => ?_
      have e : apartM qs gs = false := all_false hq (by rw [hb] <;> rfl)
      rw [e] at k
      exact k H4 (eH.trans e4)
    · exact go_next fun H4 e4 => ⟨_, rfl, eH.trans e4, all_take hq hall (by rw [hb] <;> rfl)⟩
  · rintro σ' H3 ⟨y1, rfl, eH3, hall⟩
    have e : List.take (as.map V.ref).length qs = qs := List.take_of_length_le (by rw [List.length_map, hA.len]; exact Nat.le_refl _)
    rw [e] at hall
    have e2 : apartM qs gs = true := hall
    rw [e2] at k
    exact go_ret ev_c fun H4 e4 => k H4 (eH3.trans e4)
def bitM (m k : Nat) : Bool := m / 2 ^ k % 2 == 1
def byNum (m n : Nat) : List Nat := (List.range n).filter fun g => bitM m (n - 1 - g)
def sp_goals_by_number : Sp := fun vs H Q _ => ∃ (m n : Nat), vs = [.int (m : Nat), .int (n : Nat)] ∧ n ≤ 1000 ∧ RetL (nl (byNum m n)) H Q
theorem and_one (m : Nat) : Builtin.bitAnd ((m : Nat) : Int) 1 = ((m % 2 : Nat) : Int) := by
  rw [PyProof.Rows.bitAnd_pp (by omega) (by decide), Int.toNat_natCast]
  show ((m &&& 1 : Nat) : Int) = _
  rw [Nat.and_one_is_mod]
theorem shr_nat (m k : Nat) : ((m : Nat) : Int) / 2 ^ k = ((m / 2 ^ k : Nat) : Int) := by
  rw [Int.natCast_ediv, Int.natCast_pow] <;> rfl
theorem bit_dec (m k : Nat) : decide (V.int ((m / 2 ^ k % 2 : Nat) : Int) = V.int 1) = bitM m k := by
  rw [dec_int]
  unfold bitM
  rw [Bool.eq_iff_iff, beq_iff_eq, beq_iff_eq]
  omega
theorem ok_goals_by_number (T : TX K mg) : FnOk P w K mg base CX0 1 T.f_goals_by_number T.d_goals_by_number ["number", "goal_count"] (sp_goals_by_number) := by
  refine T.F_goals_by_number.ok sc_goals_by_number (fun vs H Q E h => ?_) (fun cdv A outer s0 H vs Q E hr h => ?_)
  · obtain ⟨m, n, rfl, hn, k⟩ := h
    rfl
  obtain ⟨m, n, rfl, hn, k⟩ := h
  refine ⟨_, (pss_one (ps_ret (pe_lc (own := [("goal", 2)]) (by rfl) (sc_goals_by_number).nd (pi_range1 (by rfl) T.n_range (pa_cons (pv 1) pa_nil)) (blkOk_by (own := [("goal", 2)]) (N := N_goals_by_number) (sc := defScope s_goals_by_number) (by decide +kernel)) (fun _ _ _ _ _ => (pg_name (i := 2) (sc_goals_by_number).nd rfl (Or.inl rfl))) (fun _ _ _ _ _ => pts_one (pt_cmpR op_eq (pe_op op_and (pe_op op_shr (pv 0) (pe_op op_sub (pe_op op_sub (pv 1) pe_int) (pv 2))) pe_int) pe_int (nomark _))) (fun _ _ _ _ _ => (pv 2))))), Go.at ?_⟩
  refine go_retL (xs := nl (byNum m n)) ?_ k
  have e : given ((n : Int)).toNat (fun g => bitM m (n - 1 - g)) (fun g => V.int (g : Nat)) = nl (byNum m n) := by
    rw [Int.toNat_natCast] <;> rfl
  rw [← e]
  refine el_lcR1 (fun g => bitM m (n - 1 - g)) (fun g => V.int (g : Nat)) (ea_cons (ev_var rfl) ea_nil) (by omega) (fun x => rfl) (fun i H1 e1 hi => ?_) fun i H1 e1 hi _ => ev_var rfl
  refine et_is (et_test (ev_op (ev_op (ev_op (ev_var rfl) (ev_op (ev_op (ev_var rfl) ev_c rv_I0) (ev_var rfl) rv_I0) (rv_I (by show (0 : Int) ≤ (n : Int) - 1 - (i : Int); omega))) ev_c rv_I0) ev_c (rv_eq rfl))) ?_
  have e2 : ((n : Int) - 1 - (i : Int)).toNat = n - 1 - i := by omega
  show decide (V.int (Builtin.bitAnd (((m : Nat) : Int) / 2 ^ ((n : Int) - 1 - (i : Int)).toNat) 1) = V.int 1) = bitM m (n - 1 - i)
  rw [e2, shr_nat, and_one, bit_dec]
def pickM (n : Nat) (qs : List (Nat × Nat)) (b : List Nat) (m : Nat) : List Nat := if (decide (b.length < (byNum m n).length) && apartM qs (byNum m n)) = true then byNum m n else b
def greatM (n : Nat) (ps : List (MP × List Nat)) : List Nat := (List.range (2 ^ n)).foldl (pickM n (joinP n ps)) []
def sp_greatest_apart (T : TX K mg) : Sp := fun vs H Q _ => ∃ (p : Addr) (n : Nat) (ps : List (MP × List Nat)), vs = [.ref p, .int (n : Nat)] ∧ n ≤ 9 ∧ LsAt (PcC T) H p ps ∧ ps.length ≤ 40000 ∧ RetL (nl (greatM n ps)) H Q
theorem pow9 {n : Nat} (h : n ≤ 9) : 2 ^ n ≤ 512 := Nat.le_trans (Nat.pow_le_pow_right (by decide) h) (by decide)
theorem ok_greatest_apart (T : TX K mg) : FnOk P w K mg base CX0 2 T.f_greatest_apart T.d_greatest_apart ["pieces", "goal_count"] (sp_greatest_apart T) := by
  refine T.F_greatest_apart.ok sc_greatest_apart (fun vs H Q E h => ?_) (fun cdv A outer s0 H vs Q E hr h => ?_)
  · obtain ⟨p, n, ps, rfl, hn, hP, hps, k⟩ := h
    rfl
  obtain ⟨p, n, ps, rfl, hn, hP, hps, k⟩ := h
  refine ⟨_, (pss_cons (ps_set (i := 2) (sc_greatest_apart).nd rfl (Or.inl rfl) (pe_call (ok_joined_pairs T) (hr.mono (by decide)) (by rfl) T.m_joined_pairs T.F_joined_pairs.kp T.b_joined_pairs .nil pass0 (pa_cons (pv 0) (pa_cons (pv 1) pa_nil))))
    (pss_cons (ps_set (i := 3) (sc_greatest_apart).nd rfl (Or.inl rfl) (pe_lst pa_nil))
    (pss_cons (ps_for PassesOwn.never rfl (pi_range1 (by rfl) T.n_range (pa_cons (pe_op op_shl pe_int (pv 1)) pa_nil)) (pg_name (i := 4) (sc_greatest_apart).nd rfl (Or.inl rfl)) (pss_cons (ps_set (i := 5) (sc_greatest_apart).nd rfl (Or.inl rfl) (pe_call (ok_goals_by_number T) (hr.mono (by decide)) (by rfl) T.m_goals_by_number T.F_goals_by_number.kp T.b_goals_by_number .nil pass0 (pa_cons (pv 4) (pa_cons (pv 1) pa_nil))))
    (pss_one (ps_if (PW.pt (pw_and (pt_cmpR op_gt (pe_callB call_len_seq (by rfl) T.n_len PySem.boot_len (pa_cons (pv 5) pa_nil)) (pe_callB call_len_seq (by rfl) T.n_len PySem.boot_len (pa_cons (pv 3) pa_nil)) (nomark _)) (pw_and1 (pt_val (pe_call (ok_are_apart T) (hr.mono (by decide)) (by rfl) T.m_are_apart T.F_are_apart.kp T.b_are_apart .nil pass0 (pa_cons (pv 2) (pa_cons (pv 5) pa_nil))))))) (pss_one (ps_set (i := 3) (sc_greatest_apart).nd rfl (Or.inl rfl) (pv 5))) pss_nil))))
    (pss_one (ps_ret (pv 3)))))), Go.at ?_⟩
  refine gq_asgR (R := fun H0 v H2 => ∃ l, v = .ref l ∧ H0 l = none ∧ LsAt PrAt H2 l (joinP n ps)) (evr_call (ea_cons (ev_var rfl) (ea_cons (ev_var rfl) ea_nil)) (fun H1 e Q E k => ⟨p, n, ps, rfl, hn, hP.monoP e, hps, k⟩) fun H1 H2 v H3 e ⟨l, h1, h2, h3⟩ => ⟨l, h1, fresh_back e h2, h3⟩) fun v H1 H2 e1 e2 ⟨lq, hv, hlq, hQ⟩ => ?_
  subst hv
  have e12 := e1.trans e2
  refine gq_asgL (el_lst ea_nil (by decide)) fun gr H3 ng e3 hg => ?_
  have hng : H gr = none := fresh_back e12 ng
  have hp9 := pow9 hn
  refine gq_forR1 (n := (2 ^ n : Nat)) (ea_cons (ev_is (ev_op ev_c (ev_var rfl) (rv_I (by show (0 : Int) ≤ (n : Int) ∧ (n : Int) ≤ 1000000 ∧ _; exact ⟨by omega, by omega, by decide⟩))) (by
      show V.int (1 * 2 ^ ((n : Nat) : Int).toNat) = V.int ((2 ^ n : Nat) : Int)
      rw [Int.toNat_natCast, Int.one_mul, Int.natCast_pow] <;> rfl)) ea_nil) ⟨Int.le_trans (by decide) (Int.natCast_nonneg _), Int.ofNat_le.mpr (Nat.le_trans hp9 (by decide))⟩
    (fun i σ' H' => ∃ g y1 y2, σ' = [some (.ref p), some (.int (n : Nat)), some (.ref lq), some (.ref g), y1, y2] ∧ Ex H2 H' ∧ H g = none ∧ H' g = some (.lst (nl ((List.range i).foldl (pickM n (joinP n ps)) [])))) (fun H4 e4 => ⟨gr, none, none, rfl, e3.trans e4, hng, e4 _ _ hg⟩) ?_ ?_
  · rintro i σ' H' hi ⟨g, y1, y2, rfl, eH, hgn, hgl⟩
    refine gq_asgL (xs := nl (byNum i n)) (elc_call (ea_cons (ev_var rfl) (ea_cons (ev_var rfl) ea_nil)) fun H1 e Q E k => ⟨i, n, rfl, by omega, k⟩) fun g2 H4 ng2 e4 hg2 => ?_
    have hb2 : ((List.range (i + 1)).foldl (pickM n (joinP n ps)) []) = pickM n (joinP n ps) ((List.range i).foldl (pickM n (joinP n ps)) []) i := by
      rw [List.range_succ, List.foldl_append] <;> rfl
    refine go_if (b := decide (((List.range i).foldl (pickM n (joinP n ps)) []).length < (byNum i n).length) && apartM (joinP n ps) (byNum i n)) (et_and (et_is (et_test (ev_op (ev_lenS (ev_var rfl) hg2) (ev_lenS (ev_var rfl) (e4 _ _ hgl)) rv_I0)) ?_) fun _ => et_B (ev_callV (ea_cons (ev_var rfl) (ea_cons (ev_var rfl) ea_nil)) fun H1 e Q E k => ⟨lq, g2, _, _, rfl, LsAt.monoQ (eH.trans (e4.trans e)) hQ, e _ _ hg2, k⟩)) (fun hb => ?_) fun hb => ?_
    · rw [List.length_map, List.length_map]
      exact decide_eq_decide.mpr (by omega)
    · refine go_asg (ev_var rfl) fun H5 e5 => ⟨g2, _, _, rfl, eH.trans (e4.trans e5), fresh_back (e12.trans eH) ng2, ?_⟩
      have e : pickM n (joinP n ps) ((List.range i).foldl (pickM n (joinP n ps)) []) i = byNum i n := if_pos hb
      rw [hb2, e]
      exact e5 _ _ hg2
    · refine go_next fun H5 e5 => ⟨g, _, _, rfl, eH.trans (e4.trans e5), hgn, ?_⟩
      have e : pickM n (joinP n ps) ((List.range i).foldl (pickM n (joinP n ps)) []) i = (List.range i).foldl (pickM n (joinP n ps)) [] := if_neg (by rw [hb]; decide)
      rw [hb2, e]
      exact e5 _ _ (e4 _ _ hgl)
  · rintro σ' H3 ⟨g, y1, y2, rfl, eH, hgn, hgl⟩
    refine go_ret (ev_var rfl) fun H4 e4 => k g H4 hgn (e12.trans (eH.trans e4)) ?_
    rw [Int.toNat_natCast] at hgl
    exact e4 _ _ hgl
end
end LP
namespace LP
open PySem PySem.Spec PyProof.Rows L2 Evl
open VahypBase (Bytes isLetter isDigit inChunk)
theorem ip_or {X : Cx} : PIp X .BitOr (ipI fun i j => Builtin.bitOr i j) := by
  rintro pins s σ H x y v u Q I r1 r2 ⟨i, j, rfl, rfl, q⟩
  obtain ⟨t1, rfl⟩ := r1
  obtain ⟨t2, rfl⟩ := r2
  exact ior_int ⟨.int _, H, I.tok _, ⟨_, rfl⟩, q⟩
section
variable {K : PySem.W.Frag} {σ : L2.St} {H H' : Hp} {ta tb td ty tv tl te : TE} {t u : TT} {x y z v : V} {D : Ends} {tu tw tz : TS} {R : Hp → V → Hp → Prop}
/-- a method of an instance -/
theorem evr_meth {C a dx : Addr} {fs : List (Str × V)} {m : Str} {sp : Sp} {dvs vs : List V} {E : XK} {tr : TA} (ho : Ev ta σ H (.ref a)) (hi : H a = some (.ins C dx fs)) (hm : fs.lookup m = none) (h : EvA tr σ H vs) (hs : ∀ H1, Ex H H1 → ∀ Q E, RetR R H1 Q → sp (.ref a :: (vs ++ dvs)) H1 Q E) (hb : ∀ H1 H2 v H3, Ex H1 H2 → R H2 v H3 → R H1 v H3) : EvR (tMeth C m sp dvs E ta tr) σ H R := fun H1 e Q q =>
  ho H1 e _ fun H2 e2 => ⟨a, dx, fs, rfl, e2 _ _ (e _ _ hi), hm, h H2 (e.trans e2) _ fun H3 e3 => hs H3 ((e.trans e2).trans e3) Q E fun v H4 e4 r => q v H4 ((e2.trans e3).trans e4) (hb H1 H3 v H4 (e2.trans e3) r)⟩
theorem ev_meth {C a dx : Addr} {fs : List (Str × V)} {m : Str} {sp : Sp} {dvs vs : List V} {E : XK} {tr : TA} (ho : Ev ta σ H (.ref a)) (hi : H a = some (.ins C dx fs)) (hm : fs.lookup m = none) (h : EvA tr σ H vs) (hs : ∀ H1, Ex H H1 → ∀ Q E, RetV z H1 Q → sp (.ref a :: (vs ++ dvs)) H1 Q E) : Ev (tMeth C m sp dvs E ta tr) σ H z := fun H1 e Q q =>
  ho H1 e _ fun H2 e2 => ⟨a, dx, fs, rfl, e2 _ _ (e _ _ hi), hm, h H2 (e.trans e2) _ fun H3 e3 => hs H3 ((e.trans e2).trans e3) Q E fun H4 e4 => q H4 ((e2.trans e3).trans e4)⟩
/-- two tuples of whole numbers, made on the way, compared -/
theorem ev_ltR {as bs : List Int} (ha : EvR ta σ H (fun _ v H2 => ∃ t, v = .ref t ∧ H2 t = some (.tup (as.map V.int)))) (hb : EvR tb σ H (fun _ v H2 => ∃ t, v = .ref t ∧ H2 t = some (.tup (bs.map V.int)))) : Ev (tOp (rLtT K) ta tb) σ H (.bl (HT.lexLt as bs)) := fun H1 e Q q =>
  ha H1 e _ fun v H2 e2 ⟨t1, hv, h1⟩ => hb H2 (e.trans e2) _ fun w H3 e3 ⟨t2, hw, h2⟩ => ⟨t1, t2, as, bs, hv, hw, st_of (e3 _ _ h1), st_of h2, q H3 (e2.trans e3)⟩
end
section
variable {P : Program} {w : World} {K : PySem.W.Frag} {mg : Str → Option Value} {base : Heap} {H H' : Hp}
/-! ## Choice -/
def ChAt (T : TX K mg) (H : Hp) (a : Addr) (c : Vahypc.Choice) : Prop := ∃ ln, I_Choice T H a (.ref ln) (.int (c.bytes : Nat)) ∧ H ln = some (.lst (nl c.ks))
theorem ChAt.mono {T : TX K mg} {a : Addr} {c : Vahypc.Choice} (e : Ex H H') (h : ChAt T H a c) : ChAt T H' a c := let ⟨l, h1, h2⟩ := h; ⟨l, h1.mono e, e _ _ h2⟩
def rankM (kind : Int) (c : Vahypc.Choice) : List Int := if kind = 0 then [(c.ks.length : Nat), (c.bytes : Nat)] else [(c.bytes : Nat), (c.ks.length : Nat)]
def sp_Choice_rank (T : TX K mg) : Sp := fun vs H Q _ => ∃ (a : Addr) (c : Vahypc.Choice) (kind : Int), vs = [.ref a, .int kind] ∧ ChAt T H a c ∧ RetR (fun H0 v H2 => ∃ t, v = .ref t ∧ H2 t = some (.tup ((rankM kind c).map V.int))) H Q
theorem evr_tup {σ : L2.St} {tr : TA} {vs : List V} (h : EvA tr σ H vs) (hl : vs.length ≤ 100000) : EvR (tTup tr) σ H (fun _ v H2 => ∃ t, v = .ref t ∧ H2 t = some (.tup vs)) := fun H1 e Q q => eu_tup h hl H1 e Q fun p H2 _ e2 h2 => q _ H2 e2 ⟨p, rfl, h2⟩
theorem ok_Choice_rank (T : TX K mg) : FnOk P w K mg base CX0 1 T.f_Choice_rank T.d_Choice_rank ["self", "kind"] (sp_Choice_rank T) := by
  refine T.F_Choice_rank.ok sc_Choice_rank (fun vs H Q E h => ?_) (fun cdv A outer s0 H vs Q E hr h => ?_)
  · obtain ⟨a, c, kind, rfl, ⟨ln, hI, hln⟩, k⟩ := h
    rfl
  obtain ⟨a, c, kind, rfl, ⟨ln, hI, hln⟩, k⟩ := h
  refine ⟨_, (pss_cons (ps_if (pt_cmpR op_eq (pv 1) (pe_glob (v := .int 0) (by rfl) T.c_FEWEST_PIECES ⟨_, rfl⟩) (nomark _)) (pss_one (ps_ret (pe_tup (pa_cons (pe_callB call_len_seq (by rfl) T.n_len PySem.boot_len (pa_cons (pe_fld (pv 0) rfl) pa_nil)) (pa_cons (pe_fld (pv 0) rfl) pa_nil))))) pss_nil)
    (pss_one (ps_ret (pe_tup (pa_cons (pe_fld (pv 0) rfl) (pa_cons (pe_callB call_len_seq (by rfl) T.n_len PySem.boot_len (pa_cons (pe_fld (pv 0) rfl) pa_nil)) pa_nil)))))), Go.at ?_⟩
  refine gq_when (b := decide (kind = 0)) (et_is (et_test (ev_op (ev_var rfl) ev_c (rv_eq rfl))) (by rw [dec_int, Bool.eq_iff_iff]; simp)) (fun hb => ?_) fun hb => ?_
  · have hk : kind = 0 := of_decide_eq_true hb
    refine go_retR (evr_tup (ea_cons (ev_lenS (ev_fld (ev_var rfl) hI.numbers) hln) (ea_cons (ev_fld (ev_var rfl) hI.size) ea_nil)) (by show 2 ≤ 100000; decide)) fun v H1 H2 e1 e2 ⟨t, hv, ht⟩ => k v H2 (e1.trans e2) ⟨t, hv, ?_⟩
    unfold rankM
    rw [if_pos hk, ht, List.length_map] <;> rfl
  · have hk : ¬ kind = 0 := of_decide_eq_false hb
    refine go_retR (evr_tup (ea_cons (ev_fld (ev_var rfl) hI.size) (ea_cons (ev_lenS (ev_fld (ev_var rfl) hI.numbers) hln) ea_nil)) (by show 2 ≤ 100000; decide)) fun v H1 H2 e1 e2 ⟨t, hv, ht⟩ => k v H2 (e1.trans e2) ⟨t, hv, ?_⟩
    unfold rankM
    rw [if_neg hk, ht, List.length_map] <;> rfl
def betterM (kind : Int) (a b : Vahypc.Choice) : Bool := HT.lexLt (rankM kind a) (rankM kind b)
def lcStep (kind : Int) (b c : Vahypc.Choice) : Vahypc.Choice := if betterM kind c b = true then c else b
def lcM (kind : Int) (c : Vahypc.Choice) (l : List Vahypc.Choice) : Vahypc.Choice := l.foldl (lcStep kind) c
def sp_least_choice (T : TX K mg) : Sp := fun vs H Q _ => ∃ (l : Addr) (c : Vahypc.Choice) (cs : List Vahypc.Choice) (kind : Int), vs = [.ref l, .int kind] ∧ LsAt (ChAt T) H l (c :: cs) ∧ RetR (fun _ v H2 => ∃ a, v = .ref a ∧ ChAt T H2 a (lcM kind c (c :: cs))) H Q
theorem ok_least_choice (T : TX K mg) : FnOk P w K mg base CX0 2 T.f_least_choice T.d_least_choice ["choices", "kind"] (sp_least_choice T) := by
  refine T.F_least_choice.ok sc_least_choice (fun vs H Q E h => ?_) (fun cdv A outer s0 H vs Q E hr h => ?_)
  · obtain ⟨l, c, cs, kind, rfl, ⟨as, has, hA⟩, k⟩ := h
    rfl
  obtain ⟨l, c, cs, kind, rfl, ⟨as, has, hA⟩, k⟩ := h
  refine ⟨_, (pss_cons (ps_set (i := 2) (sc_least_choice).nd rfl (Or.inl rfl) (pe_ix ix_list (pv 0) pe_int (fun _ _ => rfl)))
    (pss_cons (ps_for PassesOwn.never rfl (pi_list (pv 0)) (pg_name (i := 3) (sc_least_choice).nd rfl (Or.inl rfl)) (pss_one (ps_if (pt_cmpR (op_ltT hr.units0) (pe_meth (pv 3) T.cl_Choice T.mm_Choice_rank (ok_Choice_rank T) (hr.mono (by decide)) T.b_Choice_rank .nil pass0 (pa_cons (pv 1) pa_nil)) (pe_meth (pv 2) T.cl_Choice T.mm_Choice_rank (ok_Choice_rank T) (hr.mono (by decide)) T.b_Choice_rank .nil pass0 (pa_cons (pv 1) pa_nil)) (nomark _)) (pss_one (ps_set (i := 2) (sc_least_choice).nd rfl (Or.inl rfl) (pv 3))) pss_nil)))
    (pss_one (ps_ret (pv 2))))), Go.at ?_⟩
  obtain ⟨a0, ha0, hv0, hc0⟩ := hA.get (i := 0) (x := c) rfl
  refine gq_asg (ev_op (ev_var rfl) ev_c (rv_ixL (sq_of has) (atI_nat (j := 0) hv0))) ?_
  refine gq_forL (a := l) (xs := as.map V.ref) (ev_var rfl) (fun i σ' H' => ∃ a y1, σ' = [some (.ref l), some (.int kind), some (.ref a), y1] ∧ Ex H H' ∧ ChAt T H a (((c :: cs).take i).foldl (lcStep kind) c)) (fun i σ' H' hi ⟨_, _, _, eH, _⟩ => sq_of (eH _ _ has)) (fun H1 e1 => ⟨a0, none, rfl, e1, hc0⟩) ?_ ?_
  · rintro i x σ' H' hi ⟨a, y1, rfl, eH, hb⟩
    obtain ⟨a2, c2, ha2, hc2, rfl, hC2⟩ := hA.item hi
    obtain ⟨l2, ⟨d2, hI2⟩, hl2⟩ := hC2.mono eH
    obtain ⟨l1, ⟨d1, hI1⟩, hl1⟩ := hb.mono eH
    have hnext : ((c :: cs).take (i + 1)).foldl (lcStep kind) c = lcStep kind (((c :: cs).take i).foldl (lcStep kind) c) c2 := by
      rw [take_next hc2, List.foldl_append] <;> rfl
    refine go_if (b := betterM kind c2 (((c :: cs).take i).foldl (lcStep kind) c)) (et_test (ev_ltR (evr_meth (ev_var rfl) hI2 no_Choice_rank (ea_cons (ev_var rfl) ea_nil) (fun H1 e Q E k => ⟨a2, c2, kind, rfl, hC2.mono (eH.trans e), k⟩) fun _ _ _ _ _ r => r) (evr_meth (ev_var rfl) hI1 no_Choice_rank (ea_cons (ev_var rfl) ea_nil) (fun H1 e Q E k => ⟨a, _, kind, rfl, hb.mono (eH.trans e), k⟩) fun _ _ _ _ _ r => r))) (fun hh => ?_) fun hh => ?_
    · refine go_asg (ev_var rfl) fun H5 e5 => ⟨a2, _, rfl, eH.trans e5, ?_⟩
      have e : lcStep kind (((c :: cs).take i).foldl (lcStep kind) c) c2 = c2 := if_pos hh
      rw [hnext, e]
      exact hC2
    · refine go_next fun H5 e5 => ⟨a, _, rfl, eH.trans e5, ?_⟩
      have e : lcStep kind (((c :: cs).take i).foldl (lcStep kind) c) c2 = ((c :: cs).take i).foldl (lcStep kind) c := if_neg (by rw [hh]; decide)
      rw [hnext, e]
      exact hb
  · rintro σ' H3 ⟨a, y1, rfl, eH, hb⟩
    have e : List.take (as.map V.ref).length (c :: cs) = c :: cs := List.take_of_length_le (by rw [List.length_map, hA.len]; exact Nat.le_refl _)
    rw [e] at hb
    exact go_ret (ev_var rfl) fun H4 e4 => k _ H4 (eH.trans e4) ⟨a, rfl, hb.mono (eH.trans e4)⟩
/-! ## goal_bits, lowest_uncovered -/
def bitsM (gs : List Nat) : Nat := gs.foldl (fun b g => b ||| 2 ^ g) 0
def sp_goal_bits : Sp := fun vs H Q _ => ∃ (l : Addr) (gs : List Nat), vs = [.ref l] ∧ H l = some (.lst (nl gs)) ∧ (∀ g ∈ gs, g ≤ 1000) ∧ RetV (.int (bitsM gs : Nat)) H Q
theorem or_nat (a b : Nat) : Builtin.bitOr ((a : Nat) : Int) ((b : Nat) : Int) = ((a ||| b : Nat) : Int) := by
  rw [Bits.bitOr_pp (by omega) (by omega), Int.toNat_natCast, Int.toNat_natCast]
theorem ok_goal_bits (T : TX K mg) : FnOk P w K mg base CX0 1 T.f_goal_bits T.d_goal_bits ["goals"] (sp_goal_bits) := by
  refine T.F_goal_bits.ok sc_goal_bits (fun vs H Q E h => ?_) (fun cdv A outer s0 H vs Q E hr h => ?_)
  · obtain ⟨l, gs, rfl, hl, hgs, k⟩ := h
    rfl
  obtain ⟨l, gs, rfl, hl, hgs, k⟩ := h
  refine ⟨_, (pss_cons (ps_set (i := 1) (sc_goal_bits).nd rfl (Or.inl rfl) pe_int)
    (pss_cons (ps_for PassesOwn.never rfl (pi_list (pv 0)) (pg_name (i := 2) (sc_goal_bits).nd rfl (Or.inl rfl)) (pss_one (ps_aug (i := 1) (sc_goal_bits).nd rfl (Or.inl rfl) (pe_op op_shl pe_int (pv 2)) ip_or)))
    (pss_one (ps_ret (pv 1))))), Go.at ?_⟩
  refine gq_asg ev_c ?_
  refine gq_forL (a := l) (xs := nl gs) (ev_var rfl) (fun i σ' H' => ∃ y1, σ' = [some (.ref l), some (.int (bitsM (gs.take i) : Nat)), y1] ∧ Ex H H') (fun i σ' H' hi ⟨_, _, eH⟩ => sq_of (eH _ _ hl)) (fun H1 e1 => ⟨none, rfl, e1⟩) ?_ ?_
  · rintro i x σ' H' hi ⟨y1, rfl, eH⟩
    obtain ⟨g, hg, rfl⟩ := map_item hi
    have hg1 := hgs g (List.mem_of_getElem? hg)
    refine go_aug (b := ((2 ^ g : Nat) : Int)) rfl (ev_is (ev_op ev_c (ev_var rfl) (rv_I (by show (0 : Int) ≤ (g : Int) ∧ (g : Int) ≤ 1000000 ∧ _; exact ⟨by omega, by omega, by decide⟩))) (by
      show V.int (1 * 2 ^ ((g : Nat) : Int).toNat) = V.int ((2 ^ g : Nat) : Int)
      rw [Int.toNat_natCast, Int.one_mul, Int.natCast_pow] <;> rfl)) fun H2 e2 => ⟨some (.int (g : Nat)), ?_, eH.trans e2⟩
    have e : bitsM (gs.take (i + 1)) = bitsM (gs.take i) ||| 2 ^ g := by
      unfold bitsM
      rw [take_next hg, List.foldl_append] <;> rfl
    rw [e, or_nat] <;> rfl
  · rintro σ' H3 ⟨y1, rfl, eH⟩
    have e : List.take (nl gs).length gs = gs := List.take_of_length_le (by rw [List.length_map]; exact Nat.le_refl _)
    rw [e]
    exact go_ret (ev_var rfl) fun H4 e4 => k H4 (eH.trans e4)
/-- the lowest place without a bit: at most so many looks -/
def lowF : Nat → Nat → Nat → Nat
  | 0, m, g => g
  | f + 1, m, g => if bitM m g = true then lowF f m (g + 1) else g
def sp_lowest_uncovered : Sp := fun vs H Q _ => ∃ (m f : Nat), vs = [.int (m : Nat)] ∧ m < 2 ^ f ∧ RetV (.int (lowF f m 0 : Nat)) H Q
theorem bit_high {m g : Nat} (h : m < 2 ^ g) : bitM m g = false := by
  unfold bitM
  rw [Nat.div_eq_of_lt h] <;> rfl
theorem ok_lowest_uncovered (T : TX K mg) : FnOk P w K mg base CX0 1 T.f_lowest_uncovered T.d_lowest_uncovered ["covered"] (sp_lowest_uncovered) := by
  refine T.F_lowest_uncovered.ok sc_lowest_uncovered (fun vs H Q E h => ?_) (fun cdv A outer s0 H vs Q E hr h => ?_)
  · obtain ⟨m, f, rfl, hm, k⟩ := h
    rfl
  obtain ⟨m, f, rfl, hm, k⟩ := h
  refine ⟨_, (pss_cons (ps_set (i := 1) (sc_lowest_uncovered).nd rfl (Or.inl rfl) pe_int)
    (pss_cons (ps_while PassesOwn.never (pt_cmpR op_eq (pe_op op_and (pe_op op_shr (pv 0) (pv 1)) pe_int) pe_int (nomark _)) (pss_one (ps_aug (i := 1) (sc_lowest_uncovered).nd rfl (Or.inl rfl) pe_int ip_add)))
    (pss_one (ps_ret (pv 1))))), Go.at ?_⟩
  refine gq_asg ev_c ?_
  refine gq_while (fun n σ' H' => ∃ g, σ' = [some (.int (m : Nat)), some (.int (g : Nat))] ∧ Ex H H' ∧ g + n = f ∧ lowF n m g = lowF f m 0) f (fun H1 e1 => ⟨0, rfl, e1, by omega, rfl⟩) ?_
  rintro n σ' H' ⟨g, rfl, eH, hg, hlow⟩
  refine ⟨bitM m g, et_is (et_test (ev_op (ev_op (ev_op (ev_var rfl) (ev_var rfl) (rv_I (by show (0 : Int) ≤ (g : Int); omega))) ev_c rv_I0) ev_c (rv_eq rfl))) ?_, fun hb => ?_, fun hb => ?_⟩
  · show decide (V.int (Builtin.bitAnd (((m : Nat) : Int) / 2 ^ ((g : Nat) : Int).toNat) 1) = V.int 1) = bitM m g
    rw [Int.toNat_natCast, shr_nat, and_one, bit_dec]
  · cases n with
    | zero =>
      have e : g = f := by omega
      subst e
      rw [bit_high hm] at hb
      cases hb
    | succ n =>
      refine go_aug (b := 1) rfl ev_c fun H2 e2 => ⟨n, by omega, g + 1, rfl, eH.trans e2, by omega, ?_⟩
      rw [← hlow]
      show _ = (if bitM m g = true then lowF n m (g + 1) else g)
      rw [if_pos hb]
  · have e : lowF n m g = g := by
      cases n with
      | zero => rfl
      | succ n =>
        show (if bitM m g = true then lowF n m (g + 1) else g) = g
        rw [if_neg (by rw [hb]; decide)]
    rw [e] at hlow
    rw [← hlow] at k
    exact go_ret (ev_var rfl) fun H4 e4 => k H4 (eH.trans e4)
end
end LP
namespace LP
open PySem PySem.Spec PyProof.Rows L2 Evl
def tVals (te : TE) : TE := fun σ H Q => te σ H fun x H1 => ∃ d kvs, x = .ref d ∧ H1 d = some (.dT kvs) ∧ ∀ p, H1 p = none → Q (.ref p) (upd H1 p (.lst (kvs.map (·.2))))
theorem paired_at {α β : Type} {F : α → β → Prop} {xs : List α} {ys : List β} (p : Paired F xs ys) : ∀ {i : Nat} {x : α}, xs[i]? = some x → ∃ y, ys[i]? = some y ∧ F x y := by
  induction p with
  | nil =>
    intro i x h
    cases h
  | cons h t ih =>
    intro i x hx
    cases i with
    | zero =>
      cases hx
      exact ⟨_, rfl, h⟩
    | succ i => exact ih hx
theorem pe_listVals {X : Cx} {e : Expr} {te : TE} {p apos cpos pos : Pos} (hc : X.calm = true) (he : PE X e te) (hg : Gl X "list") (hm : X.mg "list" = none) (hv : bootBuiltins "list" = some (.type "list")) (hbase : attributeBase e "values" X.env (eval e X.env) = eval e X.env := by rfl) (hline : (apos.endLine == cpos.line) = true := by rfl)
    (hs : starEach [.Call (.Attribute e "values" apos) [] [] cpos] X.env = (false, eval (.Call (.Attribute e "values" apos) [] [] cpos) X.env) :: starEach [] X.env := by rfl) :
    PE X (.Call (.Name "list" p) [.Call (.Attribute e "values" apos) [] [] cpos] [] pos) (tVals te) := by
  refine ⟨fun pins s σ H Q I hq => ?_⟩
  refine wpAny_Call_Name_kw (ld_blt I hg hm hv ?_)
  refine PyProof.Rows.callWith_type1 ?_ hs rfl
  rw [hs]
  show wpAny _ _ (spliced ((false, eval (.Call (.Attribute e "values" apos) [] [] cpos) X.env) :: backTo pos (starEach [] X.env))) _ _ s
  refine Calls.spliced_cons ?_
  refine wpAny_Call_method (T := "dict") (id := "dict.values") hbase rfl hline F.plainAttrs_dict F.slot_dict_values F.type_dict_values (thn (he.run pins s σ H _ I hq) fun u s1 ⟨x, H1, I1, rx, d, kvs, ex, hd, q⟩ => ?_)
  subst ex
  obtain rfl : u = Value.ref d := rx
  obtain ⟨hz, hs0, xs, pr, o, es, ep, ho, hx, hdt, hes, hnd⟩ := (show ObjOk X.prog X.w H1 s1.heap d (.dT kvs) from I1.hok d _ hd)
  have hraw : s1.heap.DictRaw d es ep := ⟨o, ho, hx, hdt⟩
  have l1 : es.size = xs.length := size_of_entries hes
  have l2 : kvs.length = xs.length := Paired.length pr
  have I2 : Inv X pins σ H1 { s1 with heap := s1.heap.push { cls := .type "dict_values", data := .fields #[.ref d] } } := I1.kept (t' := s1.toks) fun b ob q => Heap.get?_push_of_some _ q
  refine ⟨⟨o, ho, hx.1⟩, (fun b hb => by
    injection hb with hb
    subst hb
    exact ⟨o, ho, hx.2.1⟩), ?_⟩
  show wpAny _ _ (callWith cpos (.builtin "dict.values") [.ref d] [] []) _ X.xe s1
  refine method_meetsIn F.slot_dict_values F.entry_dict_values rfl (PySem.evalArgs_none ⟨rfl, ⟨o, ho, hx.1⟩, F.args_dict_values_1 _, _, PySem.meets_dict_values_raw d hs0, ⟨es, ep, hraw⟩, ?_⟩)
  refine Calls.spliced_nil ?_
  refine PySem.W.kdl_call (PySem.KdlSrc.rawValues (es := es) (ep := ep)) (I1.ok.hd hc) ⟨⟨_, Heap.get?_push_size _ rfl, rfl, rfl⟩, hraw.push _⟩ (by omega) fun h' tk acc c kp e it => ?_
  refine ⟨.ref _, upd H1 _ (.lst (kvs.map (·.2))), I2.laid (t' := tk) kp (Nat.le_refl _) (show ObjOk X.prog X.w _ _ _ (.lst (kvs.map (·.2))) from ⟨?_, acc.toList, c, ?_, ?_⟩), rfl, q _ (I2.hok.fresh (Nat.le_refl _))⟩
  · rw [List.length_map]
    exact hz
  · refine vals_of_at (by
      have h1 : acc.toList.length = es.size := by
        rw [Array.length_toList]
        exact it.1
      rw [List.length_map, h1, l1, l2]) fun j x w h1 h2 => ?_
    obtain ⟨hi, hw⟩ := it.2 j w (by rw [← Array.getElem?_toList]; exact h2)
    rw [List.getElem?_map] at h1
    cases hk : kvs[j]? with
    | none =>
      rw [hk] at h1
      cases h1
    | some pk =>
      rw [hk] at h1
      have h1 : pk.2 = x := Option.some.inj h1
      obtain ⟨y, hy, hrel⟩ := paired_at pr hk
      have he2 := entry_at hes j
      rw [Array.getElem?_eq_getElem hi, hy] at he2
      have he3 := Option.some.inj he2
      rw [hw, he3, ← h1]
      exact hrel.2.2
  · rw [Array.toArray_toList]
    exact e
end LP
namespace LP
open PySem PySem.Spec PyProof.Rows L2 Evl
open VahypBase (Bytes isLetter isDigit inChunk)
/-! ## used_pieces: the dict by covers -/
def keyL (c : List Nat) : List Key := c.map fun (n : Nat) => Sum.inl (n : Int)
theorem keyL_v (c : List Nat) : (keyL c).map kV = nl c := by
  unfold keyL
  rw [List.map_map] <;> rfl
theorem keyL_inj : ∀ {a b : List Nat}, keyL a = keyL b → a = b
  | [], [], _ => rfl
  | [], _ :: _, h => by cases h
  | _ :: _, [], h => by cases h
  | x :: a, y :: b, h => by
    have h1 := Sum.inl.inj (List.cons.inj h).1
    rw [keyL_inj (List.cons.inj h).2, Int.ofNat_inj.mp h1]
def uK (us : List (List Nat × Nat)) : List (List Key × V) := us.map fun p => (keyL p.1, V.int (p.2 : Nat))
def findU (us : List (List Nat × Nat)) (c : List Nat) : Option Nat := (us.find? fun p => decide (p.1 = c)).map (·.2)
def putU (us : List (List Nat × Nat)) (c : List Nat) (n : Nat) : List (List Nat × Nat) := if (us.any fun p => decide (p.1 = c)) = true then us.map (fun p => if p.1 = c then (p.1, n) else p) else us ++ [(c, n)]
theorem key_dec (a c : List Nat) : decide (keyL a = keyL c) = decide (a = c) := by
  rw [decide_eq_decide]
  exact ⟨keyL_inj, fun h => by rw [h]⟩
theorem uK_val : ∀ (us : List (List Nat × Nat)) (c : List Nat), valV (uK us) (keyL c) = (findU us c).map fun k => V.int (k : Nat)
  | [], c => rfl
  | p :: us, c => by
    by_cases h : p.1 = c
    · have e1 : valV (uK (p :: us)) (keyL c) = some (V.int (p.2 : Nat)) := valV_pos (p := (keyL p.1, V.int (p.2 : Nat))) (by rw [h])
      rw [e1]
      unfold findU
      rw [List.find?_cons_of_pos (by rw [h]; exact decide_eq_true rfl)] <;> rfl
    · have e1 : valV (uK (p :: us)) (keyL c) = valV (uK us) (keyL c) := valV_neg (p := (keyL p.1, V.int (p.2 : Nat))) fun z => h (keyL_inj z)
      rw [e1, uK_val us c]
      unfold findU
      rw [List.find?_cons_of_neg (by rw [decide_eq_false h]; decide)]
theorem uK_put (us : List (List Nat × Nat)) (c : List Nat) (n : Nat) : putK (uK us) (keyL c) (.int (n : Nat)) = uK (putU us c n) := by
  have e1 : ((uK us).any fun kv => decide (kv.1 = keyL c)) = us.any fun p => decide (p.1 = c) := by
    unfold uK
    rw [List.any_map]
    refine congrArg (fun f => List.any us f) ?_
    funext p
    exact key_dec p.1 c
  unfold putK putU
  rw [e1]
  by_cases h : (us.any fun p => decide (p.1 = c)) = true
  · rw [if_pos h, if_pos h]
    unfold uK
    rw [List.map_map, List.map_map]
    refine List.map_congr_left fun p _ => ?_
    show (if keyL p.1 = keyL c then (keyL p.1, V.int (n : Nat)) else (keyL p.1, V.int (p.2 : Nat))) = (keyL (if p.1 = c then (p.1, n) else p).1, V.int ((if p.1 = c then (p.1, n) else p).2 : Nat))
    by_cases g : p.1 = c
    · rw [if_pos (by rw [g]), if_pos g]
    · rw [if_neg (fun z => g (keyL_inj z)), if_neg g]
  · rw [if_neg h, if_neg h]
    unfold uK
    rw [List.map_append] <;> rfl
def lnOf (ps : List (MP × List Nat)) (k : Nat) : Nat := match ps[k]? with
  | some p => (showM p.1).length
  | none => 0
def better1 (ps : List (MP × List Nat)) (us : List (List Nat × Nat)) (c : List Nat) (n : Nat) : Bool := match findU us c with
  | none => true
  | some k => decide (lnOf ps n < lnOf ps k)
def stepU (ps : List (MP × List Nat)) (us : List (List Nat × Nat)) (p : (MP × List Nat) × Nat) : List (List Nat × Nat) := if better1 ps us p.1.2 p.2 = true then putU us p.1.2 p.2 else us
def upU (ps : List (MP × List Nat)) (i : Nat) : List (List Nat × Nat) := (ps.zipIdx.take i).foldl (stepU ps) []
def usedU (ps : List (MP × List Nat)) : List (List Nat × Nat) := ps.zipIdx.foldl (stepU ps) []
def usedM (ps : List (MP × List Nat)) : List Nat := (usedU ps).map (·.2)
theorem putU_in {us : List (List Nat × Nat)} {c : List Nat} {n : Nat} : ∀ p ∈ putU us c n, p = (c, n) ∨ p ∈ us := by
  intro p hp
  unfold putU at hp
  split at hp
  · obtain ⟨q, hq, rfl⟩ := List.mem_map.mp hp
    by_cases g : q.1 = c
    · rw [if_pos g, g]
      exact .inl rfl
    · rw [if_neg g]
      exact .inr hq
  · rcases List.mem_append.mp hp with h | h
    · exact .inr h
    · exact .inl (List.mem_singleton.mp h)
theorem putU_len (us : List (List Nat × Nat)) (c : List Nat) (n : Nat) : (putU us c n).length ≤ us.length + 1 := by
  unfold putU
  split
  · rw [List.length_map]
    omega
  · rw [List.length_append] <;> exact Nat.le_refl _
theorem upU_succ (ps : List (MP × List Nat)) {i : Nat} {p : MP × List Nat} (h : ps[i]? = some p) : upU ps (i + 1) = stepU ps (upU ps i) (p, i) := by
  unfold upU
  rw [take_next (zip_at h), List.foldl_append] <;> rfl
theorem upU_ok (ps : List (MP × List Nat)) : ∀ i, i ≤ ps.length → (upU ps i).length ≤ i ∧ ∀ q ∈ upU ps i, q.2 < i ∧ ∃ p, ps[q.2]? = some p ∧ p.2 = q.1
  | 0, _ => by
    unfold upU
    simp
  | i + 1, hi => by
    obtain ⟨h1, h2⟩ := upU_ok ps i (by omega)
    have hp : ps[i]? = some ps[i] := List.getElem?_eq_getElem (by omega)
    rw [upU_succ ps hp]
    unfold stepU
    split
    · refine ⟨Nat.le_trans (putU_len _ _ _) (by omega), fun q hq => ?_⟩
      rcases putU_in q hq with h | h
      · subst h
        exact ⟨Nat.lt_succ_self _, _, hp, rfl⟩
      · obtain ⟨g1, g2⟩ := h2 q h
        exact ⟨by omega, g2⟩
    · refine ⟨by omega, fun q hq => ?_⟩
      obtain ⟨g1, g2⟩ := h2 q hq
      exact ⟨by omega, g2⟩
theorem upU_all (ps : List (MP × List Nat)) : upU ps ps.length = usedU ps := by
  unfold upU usedU
  rw [List.take_of_length_le (by rw [List.length_zipIdx]; exact Nat.le_refl _)]
theorem findU_in {us : List (List Nat × Nat)} {c : List Nat} {k : Nat} (h : findU us c = some k) : (c, k) ∈ us := by
  unfold findU at h
  cases e : us.find? fun p => decide (p.1 = c) with
  | none =>
    rw [e] at h
    cases h
  | some p =>
    rw [e] at h
    have h1 := List.mem_of_find?_eq_some e
    have h2 : p.1 = c := by
      have h4 := List.find?_some e
      exact of_decide_eq_true h4
    have h3 : p.2 = k := Option.some.inj h
    rw [← h2, ← h3]
    exact h1
section
variable {K : PySem.W.Frag} {σ : L2.St} {H H' : Hp} {ta tb td ty tv tl te : TE} {t u : TT} {x y z v : V} {D : Ends} {tu tw tz : TS} {R : Hp → V → Hp → Prop}
theorem ev_dnotinT {d b : Addr} {kvs : List (List Key × V)} {k : List Key} (hy : Ev ty σ H (.ref b)) (hb : H b = some (.tup (k.map kV))) (hd : Ev td σ H (.ref d)) (h : H d = some (.dT kvs)) : Ev (tDNotIn ty td) σ H (.bl (!(valV kvs k).isSome)) := fun H1 e Q q => hy H1 e _ fun H2 e2 => hd H2 (e.trans e2) _ fun H3 e3 =>
  ⟨d, _, rfl, DGet.t (e3 _ _ (e2 _ _ (e _ _ h))) (e3 _ _ (e2 _ _ (e _ _ hb))), q H3 (e2.trans e3)⟩
theorem ev_dgetT {d b : Addr} {kvs : List (List Key × V)} {k : List Key} (hd : Ev td σ H (.ref d)) (hy : Ev ty σ H (.ref b)) (hb : H b = some (.tup (k.map kV))) (h : H d = some (.dT kvs)) (hv : valV kvs k = some v) : Ev (tDGet td ty) σ H v := fun H1 e Q q => hd H1 e _ fun H2 e2 => hy H2 (e.trans e2) _ fun H3 e3 => ⟨d, _, rfl, by
  rw [← hv]
  exact DGet.t (e3 _ _ (e2 _ _ (e _ _ h))) (e3 _ _ (e2 _ _ (e _ _ hb))), q H3 (e2.trans e3)⟩
theorem go_dputT {d b : Addr} {kvs : List (List Key × V)} {k : List Key} (hv : Ev tv σ H v) (hd : Ev td σ H (.ref d)) (hy : Ev ty σ H (.ref b)) (hb : H b = some (.tup (k.map kV))) (h : H d = some (.dT kvs)) (hl : kvs.length < 100000) (q : ∀ H1, Ex H H1 → D.nx σ (upd H1 d (.dT (putK kvs k v)))) : Go (sDPut td ty tv) D σ H := fun H1 e => hv H1 e _ fun H2 e2 => hd H2 (e.trans e2) _ fun H3 e3 => hy H3 ((e.trans e2).trans e3) _ fun H4 e4 =>
  ⟨d, _, rfl, DPut.t (e4 _ _ (e3 _ _ (e2 _ _ (e _ _ h)))) (e4 _ _ (e3 _ _ (e2 _ _ (e _ _ hb)))) (sz_lt hl), q H4 (((e.trans e2).trans e3).trans e4)⟩
theorem el_vals {d : Addr} {kvs : List (List Key × V)} (hd : Ev td σ H (.ref d)) (h : H d = some (.dT kvs)) : EvL (tVals td) σ H (kvs.map (·.2)) := fun H1 e Q q => hd H1 e _ fun H2 e2 => ⟨d, kvs, rfl, e2 _ _ (e _ _ h), fun p hp => q p _ (fresh_back e2 hp) (e2.trans (Ex.new hp)) upd_same⟩
/-- tuple(xs) of a list -/
theorem evr_tupL {l : Addr} {xs : List V} (h : Ev te σ H (.ref l)) (hl : H l = some (.lst xs)) : EvR (tCB (fun xs H Q => ∃ p ys, xs = [.ref p] ∧ ((SqL K H p ys ∧ ∀ l, H l = none → Q (.ref l) (upd H l (.tup ys))) ∨ (SqT K H p ys ∧ Q (.ref p) H))) (tCons te tNil)) σ H (fun H0 v H2 => ∃ t, v = .ref t ∧ H0 t = none ∧ H2 t = some (.tup xs)) := fun H1 e Q q =>
  h H1 e _ fun H2 e2 => ⟨l, xs, rfl, .inl ⟨sq_of (e2 _ _ (e _ _ hl)), fun t ht => q _ _ (e2.trans (Ex.new ht)) ⟨t, rfl, fresh_back e2 ht, upd_same⟩⟩⟩
end
section
variable {P : Program} {w : World} {K : PySem.W.Frag} {mg : Str → Option Value} {base : Heap} {H H' : Hp}
def sp_used_pieces (T : TX K mg) : Sp := fun vs H Q _ => ∃ (p : Addr) (ps : List (MP × List Nat)), vs = [.ref p] ∧ LsAt (PcC T) H p ps ∧ ps.length ≤ 40000 ∧ (∀ q ∈ ps, (showM q.1).length ≤ 1000) ∧ RetL (nl (usedM ps)) H Q
theorem ok_used_pieces (T : TX K mg) : FnOk P w K mg base CX0 1 T.f_used_pieces T.d_used_pieces ["pieces"] (sp_used_pieces T) := by
  refine T.F_used_pieces.ok sc_used_pieces (fun vs H Q E h => ?_) (fun cdv A outer s0 H vs Q E hr h => ?_)
  · obtain ⟨p, ps, rfl, hP, hps, hsh, k⟩ := h
    rfl
  obtain ⟨p, ps, rfl, hP, hps, hsh, k⟩ := h
  refine ⟨_, (pss_cons (ps_set (i := 1) (sc_used_pieces).nd rfl (Or.inl rfl) pe_dnewT)
    (pss_cons (ps_for PassesOwn.never rfl (pi_enum (by rfl) T.n_enumerate (pa_cons (pv 0) pa_nil)) (pg_tup (by rfl) (pgs_cons (pg_name (i := 2) (sc_used_pieces).nd rfl (Or.inl rfl)) (pgs_cons (pg_name (i := 3) (sc_used_pieces).nd rfl (Or.inl rfl)) pgs_nil))) (pss_cons (ps_set (i := 4) (sc_used_pieces).nd rfl (Or.inl rfl) (pe_callTy call_tuple_of (by rfl) T.n_tuple (by decide +kernel) (pa_cons (pe_fld (pv 3) rfl) pa_nil)))
    (pss_one (ps_if (PW.pt (pw_or (pt_cmp (pc_dnotin (hu_of hr) (pv 4) (pv 1)) rfl) (pw_or1 (pt_cmpR op_lt (pe_callB call_len_str (by rfl) T.n_len PySem.boot_len (pa_cons (pe_fld (pv 3) rfl) pa_nil)) (pe_callB call_len_str (by rfl) T.n_len PySem.boot_len (pa_cons (pe_fld (pe_ix ix_list (pv 0) (pe_dget (hu_of hr) (pv 1) (pv 4) (fun _ _ => rfl)) (fun _ _ => rfl)) rfl) pa_nil)) (nomark _))))) (pss_one (ps_dput (hu_of hr) (pv 1) (pv 4) (pv 2) rfl)) pss_nil))))
    (pss_one (ps_ret (pe_listVals rfl (pv 1) (by rfl) T.n_list (by decide +kernel)))))), Go.at ?_⟩
  refine gq_asgR evr_dnewT fun v B1 B2 f1 f2 ⟨d, hv, hd0, hd⟩ => ?_
  subst hv
  have hdH : H d = none := fresh_back f1 hd0
  obtain ⟨as, has, hA⟩ := hP
  refine gq_forE (a := p) (xs := as.map V.ref) (ea_cons (ev_var rfl) ea_nil) (fun i σ' H' => ∃ y2 y3 y4, σ' = [some (.ref p), some (.ref d), y2, y3, y4] ∧ Ex H H' ∧ H' d = some (.dT (uK (upU ps i)))) (fun i σ' H' hi ⟨_, _, _, _, eH, _⟩ => sq_of (eH _ _ has)) (fun H2 e2 => ⟨none, none, none, rfl, f1.trans (f2.trans e2), e2 _ _ hd⟩) ?_ ?_
  · rintro i x σ' H' H2 hi ⟨y2, y3, y4, rfl, eH, hdd⟩ e2
    obtain ⟨a, q, ha, hq, rfl, cv, hI, hcv⟩ := hA.item hi
    have hi2 : i < ps.length := (List.getElem?_eq_some_iff.mp hq).1
    obtain ⟨hul, huo⟩ := upU_ok ps i (by omega)
    have eH2 := eH.trans e2
    refine gq_asgR (evr_tupL (ev_fld (ev_var rfl) (hI.mono eH2).covered) (eH2 _ _ hcv)) fun v H3 H4 e3 e4 ⟨t, hv, ht0, ht⟩ => ?_
    subst hv
    have e24 := e3.trans e4
    have eH4 := eH2.trans e24
    have hdd4 := e24 _ _ (e2 _ _ hdd)
    have ht2 : H4 t = some (.tup ((keyL q.2).map kV)) := by
      rw [keyL_v]
      exact ht
    have hlq : lnOf ps i = (showM q.1).length := by
      unfold lnOf
      rw [hq]
    refine go_if (b := better1 ps (upU ps i) q.2 i) ?_ (fun hb => ?_) fun hb => ?_
    · cases hf : findU (upU ps i) q.2 with
      | none =>
        have e : better1 ps (upU ps i) q.2 i = (true || false) := by
          unfold better1
          rw [hf] <;> rfl
        rw [e]
        refine et_or (et_is (et_B (ev_dnotinT (ev_var rfl) ht2 (ev_var rfl) hdd4)) ?_) fun z => by cases z
        rw [uK_val, hf] <;> rfl
      | some m =>
        have e : better1 ps (upU ps i) q.2 i = (false || decide (lnOf ps i < lnOf ps m)) := by
          unfold better1
          rw [hf] <;> rfl
        rw [e]
        obtain ⟨hm, pm, hpm, hpm2⟩ := huo _ (findU_in hf)
        obtain ⟨am, ham, hamv, cvm, hIm, hcvm⟩ := hA.get hpm
        have hlm : lnOf ps m = (showM pm.1).length := by
          unfold lnOf
          rw [hpm]
        have s1 := hsh q (List.mem_of_getElem? hq)
        have s2 := hsh pm (List.mem_of_getElem? hpm)
        refine et_or (et_is (et_B (ev_dnotinT (ev_var rfl) ht2 (ev_var rfl) hdd4)) ?_) fun _ => et_is (et_test (ev_op (ev_lenT (ev_fld (ev_var rfl) (hI.mono eH4).chunk) (by rw [S_len]; omega)) (ev_lenT (ev_fld (ev_op (ev_var rfl) (ev_dgetT (ev_var rfl) (ev_var rfl) ht2 hdd4 (v := .int (m : Nat)) (by rw [uK_val, hf] <;> rfl)) (rv_ixL (sq_of (eH4 _ _ has)) (atI_nat hamv))) (hIm.mono eH4).chunk) (by rw [S_len]; omega)) rv_I0)) ?_
        · rw [uK_val, hf] <;> rfl
        · rw [S_len, S_len, hlq, hlm]
          exact decide_eq_decide.mpr (by omega)
    · refine go_dputT (ev_var rfl) (ev_var rfl) (ev_var rfl) ht2 hdd4 (by unfold uK; rw [List.length_map]; omega) fun H5 e5 => ⟨_, _, _, rfl, Ex.mut (eH4.trans e5) hdH, ?_⟩
      have e : stepU ps (upU ps i) (q, i) = putU (upU ps i) q.2 i := if_pos hb
      rw [upd_same, upU_succ ps hq, e, uK_put]
    · refine go_next fun H5 e5 => ⟨_, _, _, rfl, eH4.trans e5, ?_⟩
      have e : stepU ps (upU ps i) (q, i) = upU ps i := if_neg (by rw [hb]; decide)
      rw [upU_succ ps hq, e]
      exact e5 _ _ hdd4
  · rintro σ' H3 ⟨y2, y3, y4, rfl, eH, hdd⟩
    rw [List.length_map, hA.len, upU_all] at hdd
    have e := el_vals (td := tVar 1) (σ := [some (.ref p), some (.ref d), y2, y3, y4]) (ev_var rfl) hdd
    have e2 : (uK (usedU ps)).map (·.2) = nl (usedM ps) := by
      unfold uK usedM nl
      rw [List.map_map, List.map_map] <;> rfl
    rw [e2] at e
    exact go_retL e fun pp H4 h1 h2 h3 => k pp H4 (fresh_back eH h1) (eH.trans h2) h3
end
end LP
namespace LP
open PySem PySem.Spec PyProof.Rows L2 Evl
open VahypBase (Bytes isLetter isDigit inChunk)
section
variable {K : PySem.W.Frag} {σ : L2.St} {H H' : Hp} {ta tb td ty tv tl te : TE} {t u : TT} {x y z v : V} {D : Ends} {tu tw tz : TS} {R : Hp → V → Hp → Prop}
/-- [[] for i in range(n)]: new lists, no two alike -/
def NewLs (n : Nat) : Hp → V → Hp → Prop := fun H0 v H2 => ∃ p, ∃ as : List Addr, v = .ref p ∧ H0 p = none ∧ H2 p = some (.lst (as.map V.ref)) ∧ as.length = n ∧ as.Nodup ∧ p ∉ as ∧ ∀ a ∈ as, H0 a = none ∧ H2 a = some (.lst [])
theorem evr_lcNew {tr : TA} {j n : Nat} (h : EvA tr σ H [.int (n : Nat)]) (hn : n ≤ 40000) {vs : List Nat} (hw : ∀ x, wipe ((wipe σ vs).set j (some x)) vs = wipe σ vs) : EvR (tLc (iRng1 tr) (gName j) tYes (tLst tNil) vs) σ H (NewLs n) := fun H0 e Q q => h H0 e _ fun H1 e1 => ⟨(n : Int), rfl, by omega, by omega, fun Dl hD => by
  rw [Int.toNat_natCast]
  refine lc_range (lo := 0) (n := n) (fun i H' => Ex H1 H' ∧ ∃ as : List Addr, H' Dl = some (.lst (as.map V.ref)) ∧ as.length = i ∧ as.Nodup ∧ Dl ∉ as ∧ ∀ a ∈ as, H1 a = none ∧ H' a = some (.lst [])) ⟨Ex.new hD, [], upd_same, rfl, List.nodup_nil, by simp, fun a ha => by simp at ha⟩ (fun i H' hi ⟨eH, as, has, hl, hnd, hDa, hA⟩ => ⟨hw _, by show 0 ≤ sizeLine; decide, fun p hp => ⟨as.map V.ref, ?_, sz_lt (by rw [List.length_map]; omega), Ex.mut (eH.trans (Ex.new hp)) hD, as ++ [p], ?_, ?_, ?_, ?_, ?_⟩⟩) fun H' ⟨eH, as, has, hl, hnd, hDa, hA⟩ => q _ H' (e1.trans eH) ⟨Dl, as, rfl, fresh_back e1 hD, has, hl, hnd, hDa, fun a ha => ⟨fresh_back e1 (hA a ha).1, (hA a ha).2⟩⟩
  · rw [upd_ne (ne_of_none has hp)]
    exact has
  · rw [upd_same, List.map_append] <;> rfl
  · rw [List.length_append, hl] <;> rfl
  · rw [List.nodup_append]
    refine ⟨hnd, by simp, fun a ha b hb => ?_⟩
    rw [List.mem_singleton.mp hb]
    exact ne_of_none (hA a ha).2 hp
  · intro hm
    rcases List.mem_append.mp hm with h | h
    · exact hDa h
    · exact ne_of_none has hp (List.mem_singleton.mp h)
  · intro a ha
    rcases List.mem_append.mp ha with h | h
    · refine ⟨(hA a h).1, ?_⟩
      rw [upd_ne (fun z => hDa (by rw [← z]; exact h)), upd_ne (ne_of_none (hA a h).2 hp)]
      exact (hA a h).2
    · rw [List.mem_singleton.mp h]
      refine ⟨fresh_back eH hp, ?_⟩
      rw [upd_ne (ne_of_none has hp).symm, upd_same]⟩
/-- d[k] = a value of which R tells -/
theorem go_dputR {d : Addr} {kvs : List (Key × V)} {k : Key} (hv : EvR tv σ H R) (hd : Ev td σ H (.ref d)) (hy : Ev ty σ H (kV k)) (h : H d = some (.dK kvs)) (hl : kvs.length < 100000) (q : ∀ v H1 H2 H3, Ex H H1 → Ex H1 H2 → R H1 v H2 → Ex H2 H3 → D.nx σ (upd H3 d (.dK (putK kvs k v)))) : Go (sDPut td ty tv) D σ H := fun H1 e => hv H1 e _ fun v H2 e2 r => hd H2 (e.trans e2) _ fun H3 e3 => hy H3 ((e.trans e2).trans e3) _ fun H4 e4 =>
  ⟨d, _, rfl, DPut.k (e4 _ _ (e3 _ _ (e2 _ _ (e _ _ h)))) (sz_lt hl), q v H1 H2 H4 e e2 r (e3.trans e4)⟩
/-- xs + ys, the left one made on the way -/
theorem el_cat {b : Addr} {xs ys : List V} (ha : EvL ta σ H xs) (hb : Ev tb σ H (.ref b)) (h : H b = some (.lst ys)) (hz : xs.length + ys.length ≤ 100000) : EvL (tOp rCat ta tb) σ H (xs ++ ys) := fun H1 e Q q => ha H1 e _ fun l H2 hl e2 h2 => hb H2 (e.trans e2) _ fun H3 e3 =>
  ⟨l, b, xs, ys, rfl, rfl, e3 _ _ h2, e3 _ _ (e2 _ _ (e _ _ h)), sz_of hz, fun p hp => q p _ (fresh_back (e2.trans e3) hp) ((e2.trans e3).trans (Ex.new hp)) upd_same⟩
theorem el_catLL {xs ys : List V} (ha : EvL ta σ H xs) (hb : EvL tb σ H ys) (hz : xs.length + ys.length ≤ 100000) : EvL (tOp rCat ta tb) σ H (xs ++ ys) := fun H1 e Q q => ha H1 e _ fun l H2 hl e2 h2 => hb H2 (e.trans e2) _ fun b H3 hb3 e3 h3 =>
  ⟨l, b, xs, ys, rfl, rfl, e3 _ _ h2, h3, sz_of hz, fun p hp => q p _ (fresh_back (e2.trans e3) hp) ((e2.trans e3).trans (Ex.new hp)) upd_same⟩
/-- for j in range(i, -1, -1) -/
theorem go_forDown {tr : TA} {j : Nat} {i : Int} (h : EvA tr σ H [.int i, .int (-1), .int (-1)]) (hi : -1 ≤ i ∧ i ≤ 100000) (Pv : Nat → L2.St → Hp → Prop) (h0 : ∀ H1, Ex H H1 → Pv 0 σ H1)
    (hs : ∀ (k : Nat) σ' H', (k : Int) ≤ i → Pv k σ' H' → Go tu { D with nx := Pv (k + 1), ct := Pv (k + 1), bk := D.nx } (σ'.set j (some (.int (i - (k : Int))))) H') (hd : ∀ σ' H', Pv (i + 1).toNat σ' H' → D.nx σ' H') : Go (tFor (iRng3 tr) (gName j) tu) D σ H :=
  fun H1 e => h H1 e _ fun H2 e2 => ⟨i, -1, -1, (i - (-1)).toNat, rfl, RgC.neg (by omega) (by omega) (by decide) (by decide), for_it walk_rangeC Pv (h0 H2 (e.trans e2)) (fun _ _ _ _ _ => trivial) (fun k x σ' H' H'' hk p y => by
    obtain ⟨rfl, rfl⟩ := y
    have ek : i + (k : Nat) * (-1) = i - (k : Int) := by omega
    show tu _ (σ'.set j (some (.int (i + (k : Nat) * (-1))))) H''
    rw [ek]
    exact hs k σ' H'' (by omega) p H'' (Ex.refl _)) fun σ' H' p => hd σ' H' (by
      have e3 : (i - (-1)).toNat = (i + 1).toNat := by omega
      rw [e3] at p
      exact p)⟩
theorem gq_forDown {tr : TA} {j : Nat} {i : Int} (h : EvA tr σ H [.int i, .int (-1), .int (-1)]) (hi : -1 ≤ i ∧ i ≤ 100000) (Pv : Nat → L2.St → Hp → Prop) (h0 : ∀ H1, Ex H H1 → Pv 0 σ H1)
    (hs : ∀ (k : Nat) σ' H', (k : Int) ≤ i → Pv k σ' H' → Go tu { D with nx := Pv (k + 1), ct := Pv (k + 1), bk := tz D } (σ'.set j (some (.int (i - (k : Int))))) H') (hd : ∀ σ' H', Pv (i + 1).toNat σ' H' → Go tz D σ' H') : Go (tSeq (tFor (iRng3 tr) (gName j) tu) tz) D σ H :=
  go_forDown (D := { D with nx := tz D }) h hi Pv h0 hs fun σ' H' p => hd σ' H' p H' (Ex.refl H')
end
section
variable {P : Program} {w : World} {K : PySem.W.Frag} {mg : Str → Option Value} {base : Heap} {H H' : Hp}
/-- a new Choice, its list new too -/
def NewCh (T : TX K mg) (c : Vahypc.Choice) : Hp → V → Hp → Prop := fun H0 v H2 => ∃ a ln, v = .ref a ∧ H0 a = none ∧ H0 ln = none ∧ I_Choice T H2 a (.ref ln) (.int (c.bytes : Nat)) ∧ H2 ln = some (.lst (nl c.ks))
theorem evr_ChoiceN {σ : L2.St} {E : XK} {te tz : TE} {T : TX K mg} {ks : List Nat} {n : Nat} (h : EvL te σ H (nl ks)) (hz : Ev tz σ H (.int (n : Nat))) : EvR (tMake T.C_Choice (spSet T.C_Choice 2 F_Choice) [] E (tCons te (tCons tz tNil))) σ H (NewCh T ⟨n, ks⟩) := fun H1 e Q q =>
  h H1 e _ fun l H2 hl e2 h2 => hz H2 (e.trans e2) _ fun H3 e3 => fun p dx hp hd hne => by
    refine ⟨p, dx, [.ref l, .int (n : Nat)], rfl, rfl, upd_same, fun H' h' k => ⟨rfl, ?_⟩⟩
    have ex : Ex H3 H' := ex_new hp hd k
    exact q _ H' ((e2.trans e3).trans ex) ⟨p, l, rfl, fresh_back (e2.trans e3) hp, hl, ⟨dx, h'⟩, ex _ _ (e3 _ _ h2)⟩
theorem evr_Choice {σ : L2.St} {E : XK} {te tz : TE} {T : TX K mg} {ks : List Nat} {n : Nat} (h : EvL te σ H (nl ks)) (hz : Ev tz σ H (.int (n : Nat))) : EvR (tMake T.C_Choice (spSet T.C_Choice 2 F_Choice) [] E (tCons te (tCons tz tNil))) σ H (fun _ v H2 => ∃ a, v = .ref a ∧ ChAt T H2 a ⟨n, ks⟩) :=
  (evr_ChoiceN h hz).weaken fun H1 v H2 e e2 ⟨a, ln, h1, _, _, h3, h4⟩ => ⟨a, h1, ln, h3, h4⟩
theorem evr_disp1 {σ : L2.St} {tk tv : TE} {T : TX K mg} {k : Int} {c : Vahypc.Choice} (hk : Ev tk σ H (.int k)) (hv : EvR tv σ H (fun _ v H2 => ∃ a, v = .ref a ∧ ChAt T H2 a c)) : EvR (tDisp [(tk, tv)]) σ H (fun H0 v H2 => ∃ p a, v = .ref p ∧ H0 p = none ∧ H2 p = some (.dK [(Sum.inl k, .ref a)]) ∧ ChAt T H2 a c) := fun H1 e Q q p hp => by
  have e1 : Ex H1 (upd H1 p (.dK [])) := Ex.new hp
  refine hk _ (e.trans e1) _ fun H2 e2 => hv H2 ((e.trans e1).trans e2) _ fun y H3 e3 ⟨a, hy, l, ⟨dx, h1⟩, h2⟩ => ?_
  subst hy
  have hpd : H3 p = some (.dK []) := e3 _ _ (e2 _ _ upd_same)
  refine ⟨hpd, [(Sum.inl k, .ref a)], rfl, by show 1 ≤ 15; decide, q _ _ (Ex.mut ((e1.trans e2).trans e3) hp) ⟨p, a, rfl, hp, upd_same, l, ⟨dx, ?_⟩, ?_⟩⟩
  · rw [upd_ne (ne_of h1 hpd (by intro z; cases z))]
    exact h1
  · rw [upd_ne (ne_of h2 hpd (by intro z; cases z))]
    exact h2
/-! ## used_by_goal -/
def covOf (ps : List (MP × List Nat)) (k : Nat) : List Nat := match ps[k]? with
  | some p => p.2
  | none => []
def addRow (k : Nat) (rows : List (List Nat)) (g : Nat) : List (List Nat) := rows.modify g (· ++ [k])
def addAll (ps : List (MP × List Nat)) (rows : List (List Nat)) (k : Nat) : List (List Nat) := (covOf ps k).foldl (addRow k) rows
def usedBy (n : Nat) (ps : List (MP × List Nat)) : List (List Nat) := (usedM ps).foldl (addAll ps) (List.replicate n [])
def RowsAt (H : Hp) (p : Addr) (as : List Addr) (rows : List (List Nat)) : Prop := H p = some (.lst (as.map V.ref)) ∧ as.Nodup ∧ p ∉ as ∧ At2 (fun a xs => H a = some (.lst (nl xs))) as rows
/-- the pieces as the sets are made of them -/
structure PsOk (n : Nat) (ps : List (MP × List Nat)) : Prop where
  few : ps.length ≤ 4000
  n9 : n ≤ 9
  cov : ∀ p ∈ ps, p.2.length ≤ 9 ∧ ∀ g ∈ p.2, g < n
  sh : ∀ p ∈ ps, (showM p.1).length ≤ 1000
def sp_used_by_goal (T : TX K mg) : Sp := fun vs H Q _ => ∃ (p : Addr) (n : Nat) (ps : List (MP × List Nat)), vs = [.ref p, .int (n : Nat)] ∧ LsAt (PcC T) H p ps ∧ PsOk n ps ∧ RetR (fun H0 v H2 => ∃ l, v = .ref l ∧ H0 l = none ∧ LLAt H2 l (usedBy n ps)) H Q
theorem usedM_at (ps : List (MP × List Nat)) : ∀ k ∈ usedM ps, ∃ p, ps[k]? = some p := by
  intro k hk
  unfold usedM at hk
  obtain ⟨q, hq, rfl⟩ := List.mem_map.mp hk
  rw [← upU_all] at hq
  obtain ⟨_, p, hp, _⟩ := (upU_ok ps ps.length (Nat.le_refl _)).2 q hq
  exact ⟨p, hp⟩
theorem usedM_len (ps : List (MP × List Nat)) : (usedM ps).length ≤ ps.length := by
  unfold usedM
  rw [List.length_map, ← upU_all]
  exact (upU_ok ps ps.length (Nat.le_refl _)).1
theorem addRow_len {rows : List (List Nat)} {b g k : Nat} (h : ∀ r ∈ rows, r.length ≤ b) : ∀ r ∈ addRow k rows g, r.length ≤ b + 1 := by
  intro r hr
  unfold addRow at hr
  obtain ⟨i, hi⟩ := List.getElem?_of_mem hr
  rw [List.getElem?_modify] at hi
  cases e : rows[i]? with
  | none =>
    rw [e] at hi
    cases hi
  | some x =>
    rw [e] at hi
    have hx := h x (List.mem_of_getElem? e)
    have hi2 : (if g = i then x ++ [k] else x) = r := Option.some.inj hi
    rw [← hi2]
    split
    · rw [List.length_append]
      show x.length + 1 ≤ b + 1
      omega
    · omega
theorem rows_add {H1 : Hp} {p : Addr} {as : List Addr} {rows : List (List Nat)} {g k : Nat} {a : Addr} {xs : List Nat} (h : RowsAt H1 p as rows) (ha : as[g]? = some a) (hx : rows[g]? = some xs) : RowsAt (upd H1 a (.lst (nl xs ++ [.int (k : Nat)]))) p as (addRow k rows g) := by
  obtain ⟨h1, h2, h3, h4⟩ := h
  have hpa : p ≠ a := fun z => h3 (by rw [z]; exact List.mem_of_getElem? ha)
  refine ⟨by rw [upd_ne hpa]; exact h1, h2, h3, by unfold addRow; rw [List.length_modify]; exact h4.len, fun i b r hb hr => ?_⟩
  unfold addRow at hr
  rw [List.getElem?_modify] at hr
  by_cases c : g = i
  · subst c
    rw [ha] at hb
    cases hb
    rw [hx] at hr
    have hr2 : xs ++ [k] = r := by simpa using hr
    rw [upd_same, ← hr2]
    unfold nl
    rw [List.map_append] <;> rfl
  · have hba : b ≠ a := fun z => c (nd_ix h2 ha (by rw [← z]; exact hb))
    rw [upd_ne hba]
    have hr2 : rows[i]? = some r := by
      cases e : rows[i]? with
      | none =>
        rw [e] at hr
        cases hr
      | some x =>
        rw [e] at hr
        simpa [c] using hr
    exact h4.at_ i b r hb hr2
theorem ok_used_by_goal (T : TX K mg) : FnOk P w K mg base CX0 2 T.f_used_by_goal T.d_used_by_goal ["pieces", "goal_count"] (sp_used_by_goal T) := by
  refine T.F_used_by_goal.ok sc_used_by_goal (fun vs H Q E h => ?_) (fun cdv A outer s0 H vs Q E hr h => ?_)
  · obtain ⟨p, n, ps, rfl, hP, ok, k⟩ := h
    rfl
  obtain ⟨p, n, ps, rfl, hP, ok, k⟩ := h
  refine ⟨_, (pss_cons (ps_setLc (i := 2) (own := [("goal", 4)]) (by rfl) (sc_used_by_goal).nd rfl rfl (sw_true rfl rfl rfl (by decide +kernel)) (pi_range1 (by rfl) T.n_range (pa_cons (pv 1) pa_nil)) (blkOk_by (own := [("goal", 4)]) (N := N_used_by_goal) (sc := defScope s_used_by_goal) (by decide +kernel)) (fun _ _ _ _ _ => (pg_name (i := 4) (sc_used_by_goal).nd rfl (Or.inl rfl))) (fun _ _ _ _ _ => pts_nil) (fun _ _ _ _ _ => (pe_lst pa_nil)))
    (pss_cons (ps_for PassesOwn.never rfl (pi_list (pe_call (ok_used_pieces T) (hr.mono (by decide)) (by rfl) T.m_used_pieces T.F_used_pieces.kp T.b_used_pieces .nil pass0 (pa_cons (pv 0) pa_nil))) (pg_name (i := 3) (sc_used_by_goal).nd rfl (Or.inl rfl)) (pss_one (ps_for PassesOwn.never rfl (pi_list (pe_fld (pe_ix ix_list (pv 0) (pv 3) (fun _ _ => rfl)) rfl)) (pg_name (i := 4) (sc_used_by_goal).nd rfl (Or.inl rfl)) (pss_one (ps_expr (pe_bm PySem.F.plainAttrs_list PySem.F.slot_list_append PySem.F.type_list_append mt_append (pe_ix ix_list (pv 2) (pv 4) (fun _ _ => rfl)) (pa_cons (pv 3) pa_nil)))))))
    (pss_one (ps_ret (pv 2))))), Go.at ?_⟩
  have hn9 := ok.n9
  have hfew := ok.few
  refine gq_asgR (evr_lcNew (n := n) (ea_cons (ev_var rfl) ea_nil) (by omega) (fun x => rfl)) fun v H1 H2 e1 e2 ⟨l, as, hv, hl0, hl, hal, hnd, hla, hA⟩ => ?_
  subst hv
  have e12 := e1.trans e2
  have hlH : H l = none := fresh_back e1 hl0
  have hAH : ∀ a ∈ as, H a = none := fun a ha => fresh_back e1 (hA a ha).1
  have hP2 := hP.monoP e12
  have h0 : RowsAt H2 l as (List.replicate n []) := ⟨hl, hnd, hla, by rw [hal, List.length_replicate], fun i a x hi hx => by
    have hx2 : x = [] := List.eq_of_mem_replicate (List.mem_of_getElem? hx)
    rw [hx2]
    exact (hA a (List.mem_of_getElem? hi)).2⟩
  let up (i : Nat) := ((usedM ps).take i).foldl (addAll ps) (List.replicate n [])
  refine gq_forR (NewL (nl (usedM ps))) (EvL.r (elc_call (ea_cons (ev_var rfl) ea_nil) fun H3 e Q E k => ⟨p, ps, rfl, hP2.monoP e, by omega, ok.sh, k⟩)) fun v H3 H4 e3 e4 ⟨lu, hv, hlu0, hlu⟩ => ?_
  have e24 := e3.trans e4
  have hul := usedM_len ps
  have luA : lu ∉ as := fun z => by
    have := e3 _ _ (hA lu z).2
    rw [hlu0] at this
    cases this
  have stay0 : ∀ {Ha Hb : Hp} {rows}, Ex Ha Hb → RowsAt Ha l as rows → RowsAt Hb l as rows := fun e h => ⟨e _ _ h.1, h.2.1, h.2.2.1, h.2.2.2.mono fun a x h => e _ _ h⟩
  refine ⟨lu, nl (usedM ps), fun i σ' H' => ∃ y3 y4, σ' = [some (.ref p), some (.int (n : Nat)), some (.ref l), y3, y4] ∧ Ex H H' ∧ H' lu = some (.lst (nl (usedM ps))) ∧ RowsAt H' l as (up i) ∧ ∀ r ∈ up i, r.length ≤ i * 9, hv, ⟨none, none, rfl, e12.trans e24, hlu, stay0 e24 h0, fun r hr => by rw [List.eq_of_mem_replicate hr]; exact Nat.zero_le _⟩, fun i σ' H' hi ⟨_, _, _, _, h, _⟩ => sq_of h, ?_, ?_⟩
  · rintro i x σ' H5 hi ⟨y3, y4, rfl, eH, hlu5, hR, hlen⟩
    obtain ⟨num, hnum, rfl⟩ := map_item hi
    obtain ⟨q, hq⟩ := usedM_at ps num (List.mem_of_getElem? hnum)
    obtain ⟨pas, hpas, hPA⟩ := hP
    obtain ⟨pa, hpa, hpav, cv, hI, hcv⟩ := hPA.get hq
    have hqm := List.mem_of_getElem? hq
    obtain ⟨hc9, hcn⟩ := ok.cov q hqm
    have hcov : covOf ps num = q.2 := by
      unfold covOf
      rw [hq]
    have hi2 : i < (usedM ps).length := (List.getElem?_eq_some_iff.mp hnum).1
    have cvA : cv ∉ as := fun z => by
      have := hAH cv z
      rw [hcv] at this
      cases this
    refine go_forL (a := cv) (xs := nl q.2) (ev_fld (ev_op (ev_var rfl) (ev_var rfl) (rv_ixL (sq_of (eH _ _ hpas)) (atI_nat hpav))) (hI.mono eH).covered)
      (fun j σ' H' => ∃ y4, σ' = [some (.ref p), some (.int (n : Nat)), some (.ref l), some (.int (num : Nat)), y4] ∧ Ex H H' ∧ H' lu = some (.lst (nl (usedM ps))) ∧ RowsAt H' l as ((q.2.take j).foldl (addRow num) (up i)) ∧ ∀ r ∈ (q.2.take j).foldl (addRow num) (up i), r.length ≤ i * 9 + j) (fun j σ' H' hj ⟨_, _, e, _⟩ => sq_of (e _ _ hcv))
      (fun H6 e6 => ⟨_, rfl, eH.trans e6, e6 _ _ hlu5, stay0 e6 hR, fun r hr => hlen r hr⟩) ?_ ?_
    · rintro j y σ' H6 hj ⟨y5, rfl, eH6, hlu6, hR6, hlen6⟩
      obtain ⟨g, hg, rfl⟩ := map_item hj
      have hgn : g < n := hcn g (List.mem_of_getElem? hg)
      have hj9 : j < q.2.length := (List.getElem?_eq_some_iff.mp hg).1
      have hga : as[g]? = some (as[g]'(by omega)) := List.getElem?_eq_getElem _
      have hrl : ((q.2.take j).foldl (addRow num) (up i)).length = n := by rw [← hR6.2.2.2.len, hal]
      have hgr : ((q.2.take j).foldl (addRow num) (up i))[g]? = some (((q.2.take j).foldl (addRow num) (up i))[g]'(by omega)) := List.getElem?_eq_getElem _
      have hgl := hR6.2.2.2.at_ g _ _ hga hgr
      have hgb := hlen6 _ (List.mem_of_getElem? hgr)
      have hgm := List.mem_of_getElem? hga
      refine go_app hgl (ev_op (ev_var rfl) (ev_var rfl) (rv_ixL (sq_of hR6.1) (atI_nat (by rw [List.getElem?_map, hga] <;> rfl)))) (ev_var rfl) (by rw [List.length_map]; omega) fun H7 e7 => ⟨_, rfl, Ex.mut (eH6.trans e7) (hAH _ hgm), ?_, ?_, ?_⟩
      · rw [upd_ne (fun z => luA (by rw [z]; exact hgm))]
        exact e7 _ _ hlu6
      · rw [take_next hg, List.foldl_append]
        exact rows_add (stay0 e7 hR6) hga hgr
      · rw [take_next hg, List.foldl_append]
        exact addRow_len hlen6
    · rintro σ' H6 ⟨y5, rfl, eH6, hlu6, hR6, hlen6⟩
      have e : List.take (nl q.2).length q.2 = q.2 := List.take_of_length_le (by rw [List.length_map]; exact Nat.le_refl _)
      rw [e] at hR6 hlen6
      have eup : up (i + 1) = q.2.foldl (addRow num) (up i) := by
        show ((usedM ps).take (i + 1)).foldl (addAll ps) (List.replicate n []) = _
        rw [take_next hnum, List.foldl_append, ← hcov] <;> rfl
      refine ⟨_, _, rfl, eH6, hlu6, by rw [eup]; exact hR6, fun r hr => ?_⟩
      rw [eup] at hr
      have h1 := hlen6 r hr
      rw [List.length_map] at h1
      omega
  · rintro σ' H5 ⟨y3, y4, rfl, eH, hlu5, hR, hlen⟩
    have e : up (nl (usedM ps)).length = usedBy n ps := by
      show ((usedM ps).take (nl (usedM ps)).length).foldl (addAll ps) (List.replicate n []) = _
      rw [List.take_of_length_le (by rw [List.length_map]; exact Nat.le_refl _)] <;> rfl
    rw [e] at hR
    exact go_ret (ev_var rfl) fun H6 e6 => k _ H6 (eH.trans e6) ⟨l, rfl, hlH, as, e6 _ _ hR.1, hR.2.2.2.mono fun a x h => e6 _ _ h⟩
end
end LP
namespace LP
open PySem PySem.Spec PyProof.Rows L2 Evl
open VahypBase (Bytes isLetter isDigit inChunk)
/-! ## least_set: the table from all covered down -/
def bitsOf (ps : List (MP × List Nat)) (k : Nat) : Nat := bitsM (covOf ps k)
def candM (ps : List (MP × List Nat)) (m : Nat) (l : List Vahypc.Choice) (k : Nat) : Vahypc.Choice :=
  let r := (l[(m ||| bitsOf ps k) - m - 1]?).getD ⟨0, []⟩
  ⟨lnOf ps k + r.bytes, k :: r.ks⟩
def pickC (kind : Int) : List Vahypc.Choice → Vahypc.Choice
  | [] => ⟨0, []⟩
  | c :: cs => lcM kind c (c :: cs)
def dpRow (ps : List (MP × List Nat)) (used : List (List Nat)) (kind : Int) (n m : Nat) (l : List Vahypc.Choice) : Vahypc.Choice := pickC kind (((used[lowF n m 0]?).getD []).map (candM ps m l))
/-- the table behind so many turns -/
def dpT (ps : List (MP × List Nat)) (used : List (List Nat)) (kind : Int) (n : Nat) : Nat → List Vahypc.Choice
  | 0 => [⟨0, []⟩]
  | i + 1 => dpRow ps used kind n (2 ^ n - 2 - i) (dpT ps used kind n i) :: dpT ps used kind n i
def leastM (ps : List (MP × List Nat)) (kind : Int) (n : Nat) : Vahypc.Choice := ((dpT ps (usedBy n ps) kind n (2 ^ n - 1))[0]?).getD ⟨0, []⟩
theorem dpT_len (ps : List (MP × List Nat)) (used : List (List Nat)) (kind : Int) (n : Nat) : ∀ i, (dpT ps used kind n i).length = i + 1
  | 0 => rfl
  | i + 1 => by
    show (dpT ps used kind n i).length + 1 = _
    rw [dpT_len ps used kind n i]
/-- what is asked of the rows: each has a piece; what stands there covers the row's goal -/
structure RowsOk (n : Nat) (ps : List (MP × List Nat)) (rows : List (List Nat)) : Prop where
  len : rows.length = n
  ne : ∀ r ∈ rows, r ≠ []
  few : ∀ r ∈ rows, r.length ≤ 40000
  mem : ∀ (g : Nat) r, rows[g]? = some r → ∀ k ∈ r, g ∈ covOf ps k ∧ ∃ p, ps[k]? = some p
theorem testBit_bits : ∀ (gs : List Nat) (b j : Nat), (gs.foldl (fun b g => b ||| 2 ^ g) b).testBit j = (b.testBit j || gs.contains j)
  | [], b, j => by simp
  | g :: gs, b, j => by
    rw [List.foldl_cons, testBit_bits gs, Nat.testBit_or, Nat.testBit_two_pow]
    simp only [List.contains_cons]
    by_cases h : g = j
    · subst h
      simp
    · have h2 : (j == g) = false := beq_eq_false_iff_ne.mpr (fun z => h z.symm)
      simp [h, h2]
theorem bitsM_test (gs : List Nat) (j : Nat) : (bitsM gs).testBit j = gs.contains j := by
  unfold bitsM
  rw [testBit_bits]
  simp
theorem bitM_test (m j : Nat) : bitM m j = m.testBit j := by
  unfold bitM
  rw [Nat.testBit_eq_decide_div_mod_eq, Bool.eq_iff_iff, beq_iff_eq, decide_eq_true_eq]
theorem bits_lt {n : Nat} {gs : List Nat} (h : ∀ g ∈ gs, g < n) : bitsM gs < 2 ^ n := by
  refine Nat.lt_pow_two_of_testBit _ fun j hj => ?_
  rw [bitsM_test]
  cases e : gs.contains j with
  | false => rfl
  | true =>
    have := h j (List.contains_iff_mem.mp e)
    omega
theorem or_lt {n a b : Nat} (ha : a < 2 ^ n) (hb : b < 2 ^ n) : a ||| b < 2 ^ n := Nat.or_lt_two_pow ha hb
/-- a new bit makes it greater -/
theorem or_gt {m b j : Nat} (hm : m.testBit j = false) (hb : b.testBit j = true) : m < m ||| b := by
  have h1 : m ≤ m ||| b := Nat.left_le_or
  rcases Nat.lt_or_ge m (m ||| b) with h | h
  · exact h
  · have e : m ||| b = m := Nat.le_antisymm h h1
    have h2 : (m ||| b).testBit j = true := by rw [Nat.testBit_or, hb, Bool.or_true]
    rw [e, hm] at h2
    cases h2
theorem lowF_spec : ∀ (f m g : Nat), m < 2 ^ (g + f) → bitM m (lowF f m g) = false ∧ (∀ j, g ≤ j → j < lowF f m g → bitM m j = true) ∧ g ≤ lowF f m g ∧ lowF f m g ≤ g + f
  | 0, m, g, h => ⟨bit_high (by rw [Nat.add_zero] at h; exact h), fun j h1 h2 => by have : lowF 0 m g = g := rfl; omega, Nat.le_refl _, Nat.le_refl _⟩
  | f + 1, m, g, h => by
    show bitM m (if bitM m g = true then lowF f m (g + 1) else g) = false ∧ (∀ j, g ≤ j → j < (if bitM m g = true then lowF f m (g + 1) else g) → bitM m j = true) ∧ g ≤ (if bitM m g = true then lowF f m (g + 1) else g) ∧ (if bitM m g = true then lowF f m (g + 1) else g) ≤ g + (f + 1)
    by_cases c : bitM m g = true
    · rw [if_pos c]
      obtain ⟨h1, h2, h3, h4⟩ := lowF_spec f m (g + 1) (by rw [show g + 1 + f = g + (f + 1) by omega]; exact h)
      refine ⟨h1, fun j j1 j2 => ?_, by omega, by omega⟩
      by_cases e : j = g
      · rw [e]
        exact c
      · exact h2 j (by omega) j2
    · rw [if_neg c]
      exact ⟨Bool.eq_false_iff.mpr c, fun j h1 h2 => by omega, Nat.le_refl _, by omega⟩
/-- not all covered: the lowest place is a goal's -/
theorem low_goal {n m : Nat} (h : m < 2 ^ n - 1) : lowF n m 0 < n := by
  obtain ⟨h1, h2, h3, h4⟩ := lowF_spec n m 0 (by simp; omega)
  rcases Nat.lt_or_ge (lowF n m 0) n with c | c
  · exact c
  · have e : lowF n m 0 = n := by omega
    have all : ∀ j, j < n → m.testBit j = true := fun j hj => by
      rw [← bitM_test]
      exact h2 j (Nat.zero_le _) (by omega)
    have e2 : m = 2 ^ n - 1 := by
      refine Nat.eq_of_testBit_eq fun j => ?_
      rw [Nat.testBit_two_pow_sub_one]
      by_cases hj : j < n
      · rw [all j hj, decide_eq_true hj]
      · rw [decide_eq_false hj]
        exact Nat.testBit_lt_two_pow (Nat.lt_of_lt_of_le (by omega : m < 2 ^ n) (Nat.pow_le_pow_right (by decide) (by omega)))
    omega
theorem lcM_mem (kind : Int) : ∀ (l : List Vahypc.Choice) (c : Vahypc.Choice), lcM kind c l = c ∨ lcM kind c l ∈ l
  | [], c => .inl rfl
  | d :: l, c => by
    show lcM kind (lcStep kind c d) l = c ∨ lcM kind (lcStep kind c d) l ∈ d :: l
    rcases lcM_mem kind l (lcStep kind c d) with h | h
    · rw [h]
      unfold lcStep
      split
      · exact .inr (List.mem_cons_self ..)
      · exact .inl rfl
    · exact .inr (List.mem_cons_of_mem _ h)
theorem pickC_mem (kind : Int) (l : List Vahypc.Choice) (h : l ≠ []) : pickC kind l ∈ l := by
  cases l with
  | nil => exact absurd rfl h
  | cons c cs =>
    show lcM kind c (c :: cs) ∈ c :: cs
    rcases lcM_mem kind (c :: cs) c with h | h
    · rw [h]
      exact List.mem_cons_self ..
    · exact h
theorem pickC_len (kind : Int) (l : List Vahypc.Choice) (b : Nat) (h : ∀ c ∈ l, c.ks.length ≤ b) : (pickC kind l).ks.length ≤ b := by
  cases l with
  | nil => exact Nat.zero_le _
  | cons c cs => exact h _ (pickC_mem kind (c :: cs) (by simp))
theorem dpT_ks (ps : List (MP × List Nat)) (used : List (List Nat)) (kind : Int) (n : Nat) : ∀ i, ∀ c ∈ dpT ps used kind n i, c.ks.length ≤ i
  | 0 => fun c hc => by
    rw [List.mem_singleton.mp hc]
    exact Nat.le_refl _
  | i + 1 => fun c hc => by
    have ih := dpT_ks ps used kind n i
    rcases List.mem_cons.mp hc with h | h
    · rw [h]
      refine pickC_len kind _ _ fun d hd => ?_
      obtain ⟨k, _, rfl⟩ := List.mem_map.mp hd
      show (((dpT ps used kind n i)[(2 ^ n - 2 - i ||| bitsOf ps k) - (2 ^ n - 2 - i) - 1]?).getD ⟨0, []⟩).ks.length + 1 ≤ i + 1
      cases e : (dpT ps used kind n i)[(2 ^ n - 2 - i ||| bitsOf ps k) - (2 ^ n - 2 - i) - 1]? with
      | none => exact Nat.succ_le_succ (Nat.zero_le _)
      | some x => exact Nat.succ_le_succ (ih x (List.mem_of_getElem? e))
    · exact Nat.le_succ_of_le (ih c h)
section
variable {P : Program} {w : World} {K : PySem.W.Frag} {mg : Str → Option Value} {base : Heap} {H H' : Hp}
def sp_least_set (T : TX K mg) : Sp := fun vs H Q _ => ∃ (p : Addr) (n : Nat) (ps : List (MP × List Nat)) (kind : Int), vs = [.ref p, .int (n : Nat), .int kind] ∧ LsAt (PcC T) H p ps ∧ PsOk n ps ∧ RowsOk n ps (usedBy n ps) ∧ RetR (fun _ v H2 => ∃ a, v = .ref a ∧ ChAt T H2 a (leastM ps kind n)) H Q
theorem LsAt.monoC {T : TX K mg} {l : Addr} {cs : List Vahypc.Choice} (e : Ex H H') (h : LsAt (ChAt T) H l cs) : LsAt (ChAt T) H' l cs := LsAt.mono (R := ChAt T) (fun _ _ _ _ e h => ChAt.mono e h) e h
theorem LLAt.mono {l : Addr} {cs : List (List Nat)} (e : Ex H H') (h : LLAt H l cs) : LLAt H' l cs := LsAt.mono (R := fun H a xs => H a = some (.lst (nl xs))) (fun _ _ _ _ e h => e _ _ h) e h
theorem ok_least_set (T : TX K mg) : FnOk P w K mg base CX0 3 T.f_least_set T.d_least_set ["pieces", "goal_count", "kind"] (sp_least_set T) := by
  refine T.F_least_set.ok sc_least_set (fun vs H Q E h => ?_) (fun cdv A outer s0 H vs Q E hr h => ?_)
  · obtain ⟨p, n, ps, kind, rfl, hP, ok, rk, k⟩ := h
    rfl
  obtain ⟨p, n, ps, kind, rfl, hP, ok, rk, k⟩ := h
  refine ⟨_, (pss_cons (ps_set (i := 3) (sc_least_set).nd rfl (Or.inl rfl) (pe_call (ok_used_by_goal T) (hr.mono (by decide)) (by rfl) T.m_used_by_goal T.F_used_by_goal.kp T.b_used_by_goal .nil pass0 (pa_cons (pv 0) (pa_cons (pv 1) pa_nil))))
    (pss_cons (ps_set (i := 4) (sc_least_set).nd rfl (Or.inl rfl) (pe_op op_sub (pe_op op_shl pe_int (pv 1)) pe_int))
    (pss_cons (ps_set (i := 5) (sc_least_set).nd rfl (Or.inl rfl) (pe_disp (pps_cons (pv 4) (pe_make T.M_Choice (ok_Choice___init__ T) (hr.mono (by decide)) (by rfl) T.m_Choice T.b_Choice___init__ .nil pass0 (pa_cons (pe_lst pa_nil) (pa_cons pe_int pa_nil))) pps_nil) (by rfl) (by rfl) (fun z => by cases z) (by decide)))
    (pss_cons (ps_for PassesOwn.never rfl (pi_range3 (by rfl) T.n_range (pa_cons (pe_op op_sub (pv 4) pe_int) (pa_cons (pe_un un_neg pe_int) (pa_cons (pe_un un_neg pe_int) pa_nil)))) (pg_name (i := 6) (sc_least_set).nd rfl (Or.inl rfl)) (pss_cons (ps_set (i := 7) (sc_least_set).nd rfl (Or.inl rfl) (pe_lst pa_nil))
    (pss_cons (ps_for PassesOwn.never rfl (pi_list (pe_ix ix_list (pv 3) (pe_call (ok_lowest_uncovered T) (hr.mono (by decide)) (by rfl) T.m_lowest_uncovered T.F_lowest_uncovered.kp T.b_lowest_uncovered .nil pass0 (pa_cons (pv 6) pa_nil)) (fun _ _ => rfl))) (pg_name (i := 8) (sc_least_set).nd rfl (Or.inl rfl)) (pss_cons (ps_set (i := 9) (sc_least_set).nd rfl (Or.inl rfl) (pe_dget (hu_of hr) (pv 5) (pe_op op_or (pv 6) (pe_call (ok_goal_bits T) (hr.mono (by decide)) (by rfl) T.m_goal_bits T.F_goal_bits.kp T.b_goal_bits .nil pass0 (pa_cons (pe_fld (pe_ix ix_list (pv 0) (pv 8) (fun _ _ => rfl)) rfl) pa_nil))) (fun _ _ => rfl)))
    (pss_one (ps_expr (pe_bm PySem.F.plainAttrs_list PySem.F.slot_list_append PySem.F.type_list_append mt_append (pv 7) (pa_cons (pe_make T.M_Choice (ok_Choice___init__ T) (hr.mono (by decide)) (by rfl) T.m_Choice T.b_Choice___init__ .nil pass0 (pa_cons (pe_op op_cat (pe_lst (pa_cons (pv 8) pa_nil)) (pe_fld (pv 9) rfl)) (pa_cons (pe_op op_add (pe_callB call_len_str (by rfl) T.n_len PySem.boot_len (pa_cons (pe_fld (pe_ix ix_list (pv 0) (pv 8) (fun _ _ => rfl)) rfl) pa_nil)) (pe_fld (pv 9) rfl)) pa_nil))) pa_nil))))))
    (pss_one (ps_dput (hu_of hr) (pv 5) (pv 6) (pe_call (ok_least_choice T) (hr.mono (by decide)) (by rfl) T.m_least_choice T.F_least_choice.kp T.b_least_choice .nil pass0 (pa_cons (pv 7) (pa_cons (pv 2) pa_nil))) rfl)))))
    (pss_one (ps_ret (pe_dget (hu_of hr) (pv 5) pe_int (fun _ _ => rfl)))))))), Go.at ?_⟩
  have hn9 := ok.n9
  have hp9 := pow9 hn9
  have hp1 : 1 ≤ 2 ^ n := Nat.one_le_two_pow
  let E0 := 2 ^ n - 1
  refine gq_asgR (R := fun H0 v H2 => ∃ l, v = .ref l ∧ H0 l = none ∧ LLAt H2 l (usedBy n ps)) (evr_call (ea_cons (ev_var rfl) (ea_cons (ev_var rfl) ea_nil)) (fun H1 e Q E k => ⟨p, n, ps, rfl, hP.monoP e, ok, k⟩) fun H1 H2 v H3 e ⟨l, h1, h2, h3⟩ => ⟨l, h1, fresh_back e h2, h3⟩) fun v H1 H2 e1 e2 ⟨lu, hv, hlu0, hU⟩ => ?_
  subst hv
  have e12 := e1.trans e2
  have hP2 := hP.monoP e12
  obtain ⟨pas, hpas, hPA⟩ := hP2
  obtain ⟨uas, huas, hUA⟩ := hU
  refine gq_asg (v := .int (E0 : Nat)) (ev_is (ev_op (ev_op ev_c (ev_var rfl) (rv_I (by show (0 : Int) ≤ (n : Int) ∧ (n : Int) ≤ 1000000 ∧ _; exact ⟨by omega, by omega, by decide⟩))) ev_c rv_I0) ?_) ?_
  · show V.int (1 * 2 ^ ((n : Nat) : Int).toNat - 1) = V.int ((2 ^ n - 1 : Nat) : Int)
    rw [Int.toNat_natCast, Int.one_mul, Int.natCast_sub hp1, Int.natCast_pow] <;> rfl
  refine gq_asgR (evr_disp1 (T := T) (c := ⟨0, []⟩) (ev_var rfl) (evr_Choice (ks := []) (n := 0) (el_lst ea_nil (by decide)) ev_c)) fun v B1 B2 f1 f2 ⟨d, a0, hv, hd0, hd, hC0⟩ => ?_
  subst hv
  have hdB : H2 d = none := fresh_back f1 hd0
  have f12 := f1.trans f2
  let tab := dpT ps (usedBy n ps) kind n
  let TabAt (i : Nat) (H' : Hp) : Prop := ∃ kvs : List (Key × V), H' d = some (.dK kvs) ∧ kvs.length ≤ i + 1 ∧ ∀ c, E0 - i ≤ c → c ≤ E0 → ∃ a ch, valV kvs (Sum.inl (c : Nat)) = some (.ref a) ∧ (tab i)[c - (E0 - i)]? = some ch ∧ ChAt T H' a ch
  have TabAt.mono : ∀ {i : Nat} {Ha Hb : Hp}, TabAt i Ha → Ex Ha Hb → TabAt i Hb := by
    rintro i Ha Hb ⟨kvs, h1, h2, h3⟩ e
    refine ⟨kvs, e _ _ h1, h2, fun c c1 c2 => ?_⟩
    obtain ⟨a, ch, g1, g2, g3⟩ := h3 c c1 c2
    exact ⟨a, ch, g1, g2, g3.mono e⟩
  have hT0 : TabAt 0 B2 := ⟨_, hd, by show 1 ≤ 1; omega, fun c c1 c2 => by
    have ec : c = E0 := by omega
    subst ec
    refine ⟨a0, ⟨0, []⟩, valV_pos rfl, ?_, hC0⟩
    show ([⟨0, []⟩] : List Vahypc.Choice)[E0 - (E0 - 0)]? = _
    have e0 : E0 - (E0 - 0) = 0 := by omega
    rw [e0] <;> rfl⟩
  refine gq_forDown (i := (E0 : Int) - 1) (ea_cons (ev_op (ev_var rfl) ev_c rv_I0) (ea_cons (ev_un ev_c ru_neg) (ea_cons (ev_un ev_c ru_neg) ea_nil))) (by omega) (fun i σ' H' => ∃ y1 y2 y3 y4, σ' = [some (.ref p), some (.int (n : Nat)), some (.int kind), some (.ref lu), some (.int (E0 : Nat)), some (.ref d), y1, y2, y3, y4] ∧ Ex H2 H' ∧ TabAt i H') (fun H3 e3 => ⟨none, none, none, none, rfl, f12.trans e3, TabAt.mono hT0 e3⟩) ?_ ?_
  · rintro i σ' H' hi ⟨y1, y2, y3, y4, rfl, eH, hTab⟩
    let m := E0 - 1 - i
    have em : (E0 : Int) - 1 - (i : Int) = ((m : Nat) : Int) := by omega
    rw [em]
    have hmE : m < E0 := by omega
    have hm2 : m < 2 ^ n := by omega
    have hlow := low_goal (n := n) (m := m) hmE
    obtain ⟨hlb, _, _, _⟩ := lowF_spec n m 0 (by simpa using hm2)
    have hrow : (usedBy n ps)[lowF n m 0]? = some ((usedBy n ps)[lowF n m 0]'(by rw [rk.len]; exact hlow)) := List.getElem?_eq_getElem _
    generalize hr0 : (usedBy n ps)[lowF n m 0]'(by rw [rk.len]; exact hlow) = row at hrow
    obtain ⟨ra, hra, hrav, hral⟩ := hUA.get hrow
    have hrowm := List.mem_of_getElem? hrow
    refine gq_asgL (el_lst ea_nil (by decide)) fun lc H3 nlc e3 hlc => ?_
    have eH3 := eH.trans e3
    have hlcB : H2 lc = none := fresh_back eH nlc
    let ChN : Hp → Addr → Vahypc.Choice → Prop := fun H' a c => ∃ ln, ln ≠ lc ∧ I_Choice T H' a (.ref ln) (.int (c.bytes : Nat)) ∧ H' ln = some (.lst (nl c.ks))
    have ChN.mono : ∀ {Ha Hb : Hp} {a c}, Ex Ha Hb → ChN Ha a c → ChN Hb a c := by
      rintro Ha Hb a c e ⟨l, h0, h1, h2⟩
      exact ⟨l, h0, h1.mono e, e _ _ h2⟩
    have htabk := dpT_ks ps (usedBy n ps) kind n i
    refine gq_forL (a := ra) (xs := nl row) (ev_op (ev_var rfl) (ev_callV (z := .int (lowF n m 0 : Nat)) (ea_cons (ev_var rfl) ea_nil) fun H4 e Q E k => ⟨m, n, rfl, hm2, k⟩) (rv_ixL (sq_of (eH3 _ _ huas)) (atI_nat hrav)))
      (fun j σ' H'' => ∃ y3 y4, σ' = [some (.ref p), some (.int (n : Nat)), some (.int kind), some (.ref lu), some (.int (E0 : Nat)), some (.ref d), some (.int (m : Nat)), some (.ref lc), y3, y4] ∧ Ex H' H'' ∧ LsAt ChN H'' lc ((row.take j).map (candM ps m (tab i)))) (fun j σ' H'' hj ⟨_, _, _, e, _⟩ => sq_of (e _ _ (eH _ _ hral)))
      (fun H4 e4 => ⟨y3, y4, rfl, e3.trans e4, [], e4 _ _ hlc, .nil⟩) ?_ ?_
    · rintro j x σ' H4 hj ⟨z3, z4, rfl, eH4', hLs⟩
      have eH4 := eH.trans eH4'
      obtain ⟨num, hnum, rfl⟩ := map_item hj
      obtain ⟨hgc, q, hq⟩ := rk.mem _ row hrow num (List.mem_of_getElem? hnum)
      obtain ⟨pa, hpa, hpav, cv, hI, hcv⟩ := hPA.get hq
      have hcov : covOf ps num = q.2 := by
        unfold covOf
        rw [hq]
      obtain ⟨hc9, hcn⟩ := ok.cov q (List.mem_of_getElem? hq)
      have hbits : bitsOf ps num < 2 ^ n := by
        unfold bitsOf
        rw [hcov]
        exact bits_lt hcn
      have hgt : m < m ||| bitsOf ps num := by
        refine or_gt (j := lowF n m 0) (by rw [← bitM_test]; exact hlb) ?_
        unfold bitsOf
        rw [bitsM_test, List.contains_iff_mem]
        exact hgc
      have hle : m ||| bitsOf ps num < 2 ^ n := or_lt hm2 hbits
      obtain ⟨kvs, hkd, hkl, hkv⟩ := TabAt.mono hTab eH4'
      obtain ⟨ar, ch, hval, htab, hCh⟩ := hkv (m ||| bitsOf ps num) (by omega) (by omega)
      have hcand : candM ps m (tab i) num = ⟨lnOf ps num + ch.bytes, num :: ch.ks⟩ := by
        have e0 : (m ||| bitsOf ps num) - m - 1 = (m ||| bitsOf ps num) - (E0 - i) := by omega
        unfold candM
        rw [e0, htab] <;> rfl
      have hchl : ch.ks.length ≤ i := htabk ch (List.mem_of_getElem? htab)
      refine gq_asg (v := .ref ar) (ev_dget (k := Sum.inl ((m ||| bitsOf ps num : Nat) : Int)) (ev_var rfl) (ev_is (ev_op (ev_var rfl) (ev_callV (z := .int (bitsOf ps num : Nat)) (ea_cons (ev_fld (ev_op (ev_var rfl) (ev_var rfl) (rv_ixL (sq_of (eH4 _ _ hpas)) (atI_nat hpav))) (hI.mono eH4).covered) ea_nil) fun H5 e Q E k => ⟨cv, q.2, rfl, (eH4.trans e) _ _ hcv, fun g hg => by have := hcn g hg; omega, by unfold bitsOf at k; rw [hcov] at k; exact k⟩) rv_I0) (by
        show V.int (Builtin.bitOr ((m : Nat) : Int) ((bitsOf ps num : Nat) : Int)) = _
        rw [or_nat] <;> rfl)) hkd hval) ?_
      obtain ⟨lr, hIr, hlr⟩ := hCh
      obtain ⟨las, hlas, hLA⟩ := hLs
      have hlen : (las.map V.ref).length < 100000 := by
        have := rk.few row hrowm
        rw [List.length_map, hLA.len, List.length_map, List.length_take]
        omega
      have hsh := ok.sh q (List.mem_of_getElem? hq)
      have hlnq : lnOf ps num = (showM q.1).length := by
        unfold lnOf
        rw [hq]
      refine go_appR (R := NewCh T (candM ps m (tab i) num)) hlas (ev_var rfl) (by
        rw [hcand]
        refine evr_ChoiceN (ks := num :: ch.ks) (n := lnOf ps num + ch.bytes) (el_cat (xs := [.int (num : Nat)]) (el_lst (ea_cons (ev_var rfl) ea_nil) (by show 1 ≤ 100000; decide)) (ev_fld (ev_var rfl) hIr.numbers) hlr (by rw [List.length_map]; show 1 + _ ≤ _; omega)) ?_
        refine ev_is (ev_op (ev_lenT (ev_fld (ev_op (ev_var rfl) (ev_var rfl) (rv_ixL (sq_of (eH4 _ _ hpas)) (atI_nat hpav))) (hI.mono eH4).chunk) (by rw [S_len]; omega)) (ev_fld (ev_var rfl) hIr.size) rv_I0) ?_
        rw [S_len, hlnq]
        show V.int (((showM q.1).length : Int) + (ch.bytes : Int)) = V.int (((showM q.1).length + ch.bytes : Nat) : Int)
        rw [len_int]) hlen fun v H5 H6 e5 e6 ⟨a, ln, hv, ha0, hln0, hIa, hla⟩ => ?_
      subst hv
      have hlcH := e5 _ _ hlas
      have hlnl : ln ≠ lc := fun z => by
        rw [z, hlcH] at hln0
        cases hln0
      have stayC : ∀ b c, ChN H6 b c → ChN (upd H6 lc (.lst (las.map V.ref ++ [V.ref a]))) b c := fun b c ⟨l, h0, ⟨dx, h1⟩, h2⟩ => ⟨l, h0, ⟨dx, by rw [upd_ne (ne_of h1 (e6 _ _ hlcH) (by intro z; cases z))]; exact h1⟩, by rw [upd_ne h0]; exact h2⟩
      refine ⟨_, _, rfl, Ex.mut (eH4'.trans (e5.trans e6)) nlc, las ++ [a], by rw [upd_same, List.map_append] <;> rfl, ?_⟩
      rw [take_next hnum, List.map_append]
      exact ((hLA.mono fun b c h => ChN.mono (e5.trans e6) h).mono stayC).snoc (stayC _ _ ⟨ln, hlnl, hIa, hla⟩)
    · rintro σ' H4 ⟨z3, z4, rfl, eH4', hLs⟩
      have eH4 := eH.trans eH4'
      have e : List.take (nl row).length row = row := List.take_of_length_le (by rw [List.length_map]; exact Nat.le_refl _)
      rw [e] at hLs
      obtain ⟨kvs, hkd, hkl, hkv⟩ := TabAt.mono hTab eH4'
      have hrne : row ≠ [] := rk.ne row hrowm
      obtain ⟨c0, cs, hcs⟩ : ∃ c0 cs, row.map (candM ps m (tab i)) = c0 :: cs := by
        cases hr : row with
        | nil => exact absurd hr hrne
        | cons a b => exact ⟨_, _, rfl⟩
      have hnew : tab (i + 1) = pickC kind (row.map (candM ps m (tab i))) :: tab i := by
        show dpRow ps (usedBy n ps) kind n (2 ^ n - 2 - i) (tab i) :: tab i = _
        have e0 : 2 ^ n - 2 - i = m := by omega
        unfold dpRow
        rw [e0, hrow] <;> rfl
      have hL2 : LsAt (ChAt T) H4 lc (c0 :: cs) := by
        obtain ⟨las, h1, h2⟩ := hLs
        rw [hcs] at h2
        exact ⟨las, h1, h2.mono fun a c ⟨l, _, h3, h4⟩ => ⟨l, h3, h4⟩⟩
      refine go_dputR (R := fun _ v H2 => ∃ a, v = .ref a ∧ ChAt T H2 a (lcM kind c0 (c0 :: cs))) (k := Sum.inl (m : Nat)) (evr_call (ea_cons (ev_var rfl) (ea_cons (ev_var rfl) ea_nil)) (fun H5 e Q E k => ⟨lc, c0, cs, kind, rfl, hL2.monoC e, k⟩) fun _ _ _ _ _ r => r) (ev_var rfl) (ev_var rfl) hkd (by omega) fun v H5 H6 H7 e5 e6 ⟨a, hv, hCa⟩ e7 => ?_
      subst hv
      have e47 := e5.trans (e6.trans e7)
      have hd7 := e47 _ _ hkd
      have stay : ∀ b c, ChAt T H7 b c → ChAt T (upd H7 d (.dK (putK kvs (Sum.inl (m : Nat)) (.ref a)))) b c := fun b c ⟨l, ⟨dx, h1⟩, h2⟩ => ⟨l, ⟨dx, by rw [upd_ne (ne_of h1 hd7 (by intro z; cases z))]; exact h1⟩, by rw [upd_ne (ne_of h2 hd7 (by intro z; cases z))]; exact h2⟩
      refine ⟨_, _, _, _, rfl, Ex.mut (eH4.trans e47) hdB, _, upd_same, Nat.le_trans (length_putK _ _ _) (by omega), fun c c1 c2 => ?_⟩
      by_cases hcm : c = m
      · subst hcm
        refine ⟨a, lcM kind c0 (c0 :: cs), by rw [valV_put, if_pos rfl], ?_, stay _ _ (hCa.mono e7)⟩
        have e0 : m - (E0 - (i + 1)) = 0 := by omega
        rw [e0, hnew, hcs] <;> rfl
      · obtain ⟨a2, ch, g1, g2, g3⟩ := hkv c (by omega) c2
        refine ⟨a2, ch, ?_, ?_, stay _ _ (g3.mono e47)⟩
        · rw [valV_put, if_neg (fun z => hcm (by have := Sum.inl.inj z; omega))]
          exact g1
        · have e0 : c - (E0 - (i + 1)) = c - (E0 - i) + 1 := by omega
          rw [e0, hnew]
          exact g2
  · rintro σ' H' ⟨y1, y2, y3, y4, rfl, eH, hTab⟩
    have e0 : ((E0 : Int) - 1 + 1).toNat = E0 := by omega
    rw [e0] at hTab
    obtain ⟨kvs, hkd, hkl, hkv⟩ := hTab
    obtain ⟨a, ch, g1, g2, g3⟩ := hkv 0 (by omega) (by omega)
    refine go_ret (ev_dget (k := Sum.inl 0) (ev_var rfl) ev_c hkd g1) fun H5 e5 => k _ H5 (e12.trans (eH.trans e5)) ⟨a, rfl, ?_⟩
    have e1 : leastM ps kind n = ch := by
      have e2 : 0 - (E0 - E0) = 0 := by omega
      rw [e2] at g2
      show ((tab E0)[0]?).getD ⟨0, []⟩ = ch
      rw [g2] <;> rfl
    rw [e1]
    exact g3.mono e5
end
end LP
namespace LP
open PySem PySem.Spec PyProof.Rows L2 Evl
open VahypBase (Bytes isLetter isDigit inChunk)
/-! ## most_covering, greedy_set -/
def covK (cs : List Nat) : List (Key × V) := cs.map fun (g : Nat) => (Sum.inl (g : Int), V.bl true)
theorem covK_val (cs : List Nat) (g : Nat) : (valV (covK cs) (Sum.inl (g : Int))).isSome = cs.contains g := by
  rw [← valV_any, Bool.eq_iff_iff, List.any_eq_true, List.contains_iff_mem]
  constructor
  · rintro ⟨p, hp, e⟩
    obtain ⟨c, hc, rfl⟩ := List.mem_map.mp hp
    have e1 : (Sum.inl (c : Int) : Key) = Sum.inl (g : Int) := of_decide_eq_true e
    have e2 := Sum.inl.inj e1
    have e3 : c = g := by omega
    rw [← e3]
    exact hc
  · intro h
    exact ⟨_, List.mem_map.mpr ⟨g, h, rfl⟩, decide_eq_true rfl⟩
def putC (cs : List Nat) (g : Nat) : List Nat := if cs.contains g = true then cs else cs ++ [g]
theorem putC_len (cs : List Nat) (g : Nat) : (putC cs g).length ≤ cs.length + 1 := by
  unfold putC
  split
  · omega
  · rw [List.length_append] <;> exact Nat.le_refl _
theorem covK_put (cs : List Nat) (g : Nat) : putK (covK cs) (Sum.inl (g : Int)) (.bl true) = covK (putC cs g) := by
  unfold putC
  by_cases h : cs.contains g = true
  · rw [if_pos h]
    have e : ((covK cs).any fun kv => decide (kv.1 = Sum.inl (g : Int))) = true := by
      rw [valV_any, covK_val]
      exact h
    unfold putK
    rw [if_pos e]
    unfold covK
    rw [List.map_map]
    refine List.map_congr_left fun c _ => ?_
    show (if (Sum.inl (c : Int) : Key) = Sum.inl (g : Int) then (Sum.inl (c : Int), V.bl true) else (Sum.inl (c : Int), V.bl true)) = _
    split <;> rfl
  · rw [if_neg h]
    have e : valV (covK cs) (Sum.inl (g : Int)) = none := by
      have h1 := covK_val cs g
      cases hv : valV (covK cs) (Sum.inl (g : Int)) with
      | none => rfl
      | some x =>
        rw [hv] at h1
        exact absurd h1.symm h
    rw [putK_new _ e]
    unfold covK
    rw [List.map_append] <;> rfl
def moreM (cs cov : List Nat) : Nat := (cov.filter fun g => !cs.contains g).length
def stepMC (cs : List Nat) (st : Nat × Option Nat) (p : (MP × List Nat) × Nat) : Nat × Option Nat := if st.1 < moreM cs p.1.2 then (moreM cs p.1.2, some p.2) else st
def mostM (ps : List (MP × List Nat)) (cs : List Nat) : Option Nat := (ps.zipIdx.foldl (stepMC cs) (0, none)).2
theorem given_filter (l : List Nat) (f : Nat → Bool) : (given l.length (fun i => match l[i]? with | some g => f g | none => false) (byAt l fun g => V.int (g : Nat))) = nl (l.filter f) := by
  suffices h : ∀ n, n ≤ l.length → given n (fun i => match l[i]? with | some g => f g | none => false) (byAt l fun g => V.int (g : Nat)) = nl ((l.take n).filter f) by
    have := h l.length (Nat.le_refl _)
    rw [List.take_length] at this
    exact this
  intro n
  induction n with
  | zero => intro _; rfl
  | succ n ih =>
    intro hn
    have hx : l[n]? = some l[n] := List.getElem?_eq_getElem (by omega)
    rw [take_next hx, List.filter_append]
    cases hf : f l[n] with
    | true =>
      rw [given_yes (by show (match l[n]? with | some g => f g | none => false) = true; rw [hx]; exact hf), ih (by omega), List.filter_cons, if_pos hf]
      unfold nl byAt
      rw [hx, List.map_append] <;> rfl
    | false =>
      rw [given_no (by show (match l[n]? with | some g => f g | none => false) = false; rw [hx]; exact hf), ih (by omega), List.filter_cons, if_neg (by rw [hf]; decide), List.filter_nil, List.append_nil]
theorem ev_lenNL {K : PySem.W.Frag} {σ : L2.St} {H : Hp} {te : TE} {xs : List V} (h : EvL te σ H xs) : Ev (tCB (fun xs H Q => ∃ p ys, xs = [.ref p] ∧ (SqL K H p ys ∨ SqT K H p ys) ∧ Q (.int ys.length) H) (tCons te tNil)) σ H (.int (xs.length : Nat)) := fun H1 e Q q => h H1 e _ fun l H2 hl e2 h2 => ⟨l, xs, rfl, .inl (sq_of h2), q H2 e2⟩
section
variable {P : Program} {w : World} {K : PySem.W.Frag} {mg : Str → Option Value} {base : Heap} {H H' : Hp}
def sp_most_covering (T : TX K mg) : Sp := fun vs H Q _ => ∃ (p d : Addr) (ps : List (MP × List Nat)) (cs : List Nat), vs = [.ref p, .ref d] ∧ LsAt (PcC T) H p ps ∧ ps.length ≤ 40000 ∧ (∀ q ∈ ps, q.2.length ≤ 9) ∧ H d = some (.dK (covK cs)) ∧ RetV (.int (optI (mostM ps cs))) H Q
theorem ok_most_covering (T : TX K mg) : FnOk P w K mg base CX0 1 T.f_most_covering T.d_most_covering ["pieces", "covered"] (sp_most_covering T) := by
  refine T.F_most_covering.ok sc_most_covering (fun vs H Q E h => ?_) (fun cdv A outer s0 H vs Q E hr h => ?_)
  · obtain ⟨p, d, ps, cs, rfl, ⟨as, has, hA⟩, hps, hcl, hd, k⟩ := h
    rfl
  obtain ⟨p, d, ps, cs, rfl, ⟨as, has, hA⟩, hps, hcl, hd, k⟩ := h
  refine ⟨_, (pss_cons (ps_set (i := 2) (sc_most_covering).nd rfl (Or.inl rfl) pe_int)
    (pss_cons (ps_set (i := 3) (sc_most_covering).nd rfl (Or.inl rfl) (pe_un un_neg pe_int))
    (pss_cons (ps_for PassesOwn.never rfl (pi_enum (by rfl) T.n_enumerate (pa_cons (pv 0) pa_nil)) (pg_tup (by rfl) (pgs_cons (pg_name (i := 4) (sc_most_covering).nd rfl (Or.inl rfl)) (pgs_cons (pg_name (i := 5) (sc_most_covering).nd rfl (Or.inl rfl)) pgs_nil))) (pss_cons (ps_set (i := 6) (sc_most_covering).nd rfl (Or.inl rfl) (pe_callB call_len_seq (by rfl) T.n_len PySem.boot_len (pa_cons (pe_lc (own := [("goal", 7)]) (by rfl) (sc_most_covering).nd (pi_list (pe_fld (pv 5) rfl)) (blkOk_by (own := [("goal", 7)]) (N := N_most_covering) (sc := defScope s_most_covering) (by decide +kernel)) (fun _ _ _ _ _ => (pg_name (i := 7) (sc_most_covering).nd rfl (Or.inl rfl))) (fun _ _ _ _ _ => pts_one (pt_cmp (pc_dnotin (hu_of hr) (pv 7) (pv 1)) rfl)) (fun _ _ _ _ _ => (pv 7))) pa_nil)))
    (pss_one (ps_if (pt_cmpR op_gt (pv 6) (pv 2) (nomark _)) (pss_cons (ps_set (i := 2) (sc_most_covering).nd rfl (Or.inl rfl) (pv 6))
    (pss_one (ps_set (i := 3) (sc_most_covering).nd rfl (Or.inl rfl) (pv 4)))) pss_nil))))
    (pss_one (ps_ret (pv 3)))))), Go.at ?_⟩
  refine gq_asg ev_c (gq_asg (ev_un ev_c ru_neg) ?_)
  let up (i : Nat) := (ps.zipIdx.take i).foldl (stepMC cs) (0, none)
  refine gq_forE (a := p) (xs := as.map V.ref) (ea_cons (ev_var rfl) ea_nil) (fun i σ' H' => ∃ y4 y5 y6, σ' = [some (.ref p), some (.ref d), some (.int ((up i).1 : Nat)), some (.int (optI (up i).2)), y4, y5, y6, none] ∧ Ex H H') (fun i σ' H' hi ⟨_, _, _, _, eH⟩ => sq_of (eH _ _ has)) (fun H2 e2 => ⟨none, none, none, rfl, e2⟩) ?_ ?_
  · rintro i x σ' H' H2 hi ⟨y4, y5, y6, rfl, eH⟩ e2
    obtain ⟨a, q, ha, hq, rfl, cv, hI, hcv⟩ := hA.item hi
    have eH2 := eH.trans e2
    have hq9 := hcl q (List.mem_of_getElem? hq)
    refine gq_asg (v := .int (moreM cs q.2 : Nat)) ?_ ?_
    · refine ev_is (ev_lenNL (xs := nl (q.2.filter fun g => !cs.contains g)) ?_) (by rw [List.length_map] <;> rfl)
      rw [← given_filter]
      have hlen : q.2.length = (nl q.2).length := (List.length_map _).symm
      rw [hlen]
      refine el_lcL (fun i => match q.2[i]? with | some g => !cs.contains g | none => false) (byAt q.2 fun g => V.int (g : Nat)) (ev_fld (ev_var rfl) (hI.mono eH2).covered) (sq_of (eH2 _ _ hcv)) (by rw [List.length_map]; omega) (fun x => rfl) (fun i x H1 e1 hi => ?_) fun i x H1 e1 hi _ => ?_
      · obtain ⟨g, hg, rfl⟩ := map_item hi
        rw [hg]
        exact et_is (et_B (ev_dnotin (k := Sum.inl (g : Int)) (ev_var rfl) (ev_var rfl) ((eH2.trans e1) _ _ hd))) (by rw [covK_val])
      · obtain ⟨g, hg, rfl⟩ := map_item hi
        unfold byAt
        rw [hg]
        exact ev_var rfl
    · have hup : up (i + 1) = stepMC cs (up i) (q, i) := by
        show (ps.zipIdx.take (i + 1)).foldl (stepMC cs) (0, none) = _
        rw [take_next (zip_at hq), List.foldl_append] <;> rfl
      refine go_if (b := decide ((up i).1 < moreM cs q.2)) (et_is (et_test (ev_op (ev_var rfl) (ev_var rfl) rv_I0)) (decide_eq_decide.mpr (by omega))) (fun hb => ?_) fun hb => ?_
      · have e : stepMC cs (up i) (q, i) = (moreM cs q.2, some i) := if_pos (of_decide_eq_true hb)
        exact gq_asg (ev_var rfl) (go_asg (ev_var rfl) fun H3 e3 => ⟨some (.int (i : Nat)), some (.ref a), some (.int (moreM cs q.2 : Nat)), by rw [hup, e] <;> rfl, eH2.trans e3⟩)
      · have e : stepMC cs (up i) (q, i) = up i := if_neg (of_decide_eq_false hb)
        exact go_next fun H3 e3 => ⟨some (.int (i : Nat)), some (.ref a), some (.int (moreM cs q.2 : Nat)), by rw [hup, e] <;> rfl, eH2.trans e3⟩
  · rintro σ' H3 ⟨y4, y5, y6, rfl, eH⟩
    have e : (up (as.map V.ref).length).2 = mostM ps cs := by
      show ((ps.zipIdx.take (as.map V.ref).length).foldl (stepMC cs) (0, none)).2 = _
      rw [List.take_of_length_le (by rw [List.length_zipIdx, List.length_map, hA.len]; exact Nat.le_refl _)] <;> rfl
    rw [e]
    exact go_ret (ev_var rfl) fun H4 e4 => k H4 (eH.trans e4)
end
/-- greedily: at most so many turns -/
def greedyF (ps : List (MP × List Nat)) : Nat → List Nat → Vahypc.Choice → Vahypc.Choice
  | 0, _, x => x
  | f + 1, cs, x => match mostM ps cs with
    | none => x
    | some k => greedyF ps f ((covOf ps k).foldl putC cs) ⟨x.bytes + lnOf ps k, x.ks ++ [k]⟩
def greedyM (ps : List (MP × List Nat)) (n : Nat) : Vahypc.Choice := greedyF ps (n + 1) [] ⟨0, []⟩
theorem putC_has (cs : List Nat) (g j : Nat) : (putC cs g).contains j = (cs.contains j || j == g) := by
  unfold putC
  by_cases h : cs.contains g = true
  · rw [if_pos h]
    by_cases e : j = g
    · rw [e, h] <;> rfl
    · rw [beq_eq_false_iff_ne.mpr e, Bool.or_false]
  · rw [if_neg h, Bool.eq_iff_iff, List.contains_iff_mem, List.mem_append, Bool.or_eq_true, List.contains_iff_mem, List.mem_singleton, beq_iff_eq]
theorem putAll_has : ∀ (l cs : List Nat) (j : Nat), (l.foldl putC cs).contains j = (cs.contains j || l.contains j)
  | [], cs, j => by simp
  | g :: l, cs, j => by
    rw [List.foldl_cons, putAll_has l, putC_has, Bool.or_assoc]
    congr 1
theorem filter_lt {p q : Nat → Bool} : ∀ (l : List Nat), (∀ x, p x = true → q x = true) → (∃ x ∈ l, q x = true ∧ p x = false) → (l.filter p).length < (l.filter q).length
  | [], _, ⟨x, hx, _⟩ => by simp at hx
  | y :: l, h, ⟨x, hx, hq, hp⟩ => by
    have hle : ∀ l : List Nat, (l.filter p).length ≤ (l.filter q).length := by
      intro l
      induction l with
      | nil => exact Nat.le_refl _
      | cons z l ih =>
        rw [List.filter_cons, List.filter_cons]
        by_cases c : p z = true
        · rw [if_pos c, if_pos (h z c)]
          exact Nat.succ_le_succ ih
        · rw [if_neg c]
          split
          · exact Nat.le_succ_of_le ih
          · exact ih
    rw [List.filter_cons, List.filter_cons]
    rcases List.mem_cons.mp hx with e | hx
    · rw [← e, if_pos hq, if_neg (by rw [hp]; decide)]
      exact Nat.lt_succ_of_le (hle l)
    · have ih := filter_lt l h ⟨x, hx, hq, hp⟩
      by_cases c : p y = true
      · rw [if_pos c, if_pos (h y c)]
        exact Nat.succ_lt_succ ih
      · rw [if_neg c]
        split
        · exact Nat.lt_succ_of_lt ih
        · exact ih
theorem mostM_some {ps : List (MP × List Nat)} {cs : List Nat} {k : Nat} (h : mostM ps cs = some k) : ∃ p, ps[k]? = some p ∧ 0 < moreM cs p.2 := by
  unfold mostM at h
  suffices g : ∀ (l : List ((MP × List Nat) × Nat)) (st : Nat × Option Nat), (∀ q ∈ l, ps[q.2]? = some q.1) → (∀ k, st.2 = some k → ∃ p, ps[k]? = some p ∧ 0 < moreM cs p.2) → ∀ k, (l.foldl (stepMC cs) st).2 = some k → ∃ p, ps[k]? = some p ∧ 0 < moreM cs p.2 by
    refine g _ (0, none) (fun q hq => ?_) (fun k hk => by cases hk) k h
    obtain ⟨x, i⟩ := q
    have h2 := List.mem_zipIdx_iff_getElem?.mp hq
    simpa using h2
  intro l
  induction l with
  | nil => intro st _ hst k hk; exact hst k hk
  | cons q l ih =>
    intro st hl hst k hk
    refine ih (stepMC cs st q) (fun r hr => hl r (List.mem_cons_of_mem _ hr)) (fun k hk => ?_) k hk
    unfold stepMC at hk
    split at hk
    · rename_i c
      have e : q.2 = k := Option.some.inj hk
      exact ⟨q.1, by rw [← e]; exact hl q (List.mem_cons_self ..), by omega⟩
    · exact hst k hk
section
variable {P : Program} {w : World} {K : PySem.W.Frag} {mg : Str → Option Value} {base : Heap} {H H' : Hp}
def sp_greedy_set (T : TX K mg) : Sp := fun vs H Q _ => ∃ (p : Addr) (n : Nat) (ps : List (MP × List Nat)), vs = [.ref p] ∧ LsAt (PcC T) H p ps ∧ PsOk n ps ∧ RetR (fun _ v H2 => ∃ a, v = .ref a ∧ ChAt T H2 a (greedyM ps n)) H Q
theorem ok_greedy_set (T : TX K mg) : FnOk P w K mg base CX0 3 T.f_greedy_set T.d_greedy_set ["pieces"] (sp_greedy_set T) := by
  refine T.F_greedy_set.ok sc_greedy_set (fun vs H Q E h => ?_) (fun cdv A outer s0 H vs Q E hr h => ?_)
  · obtain ⟨p, n, ps, rfl, hP, ok, k⟩ := h
    rfl
  obtain ⟨p, n, ps, rfl, hP, ok, k⟩ := h
  refine ⟨_, (pss_cons (ps_set (i := 1) (sc_greedy_set).nd rfl (Or.inl rfl) pe_dnewK)
    (pss_cons (ps_set (i := 2) (sc_greedy_set).nd rfl (Or.inl rfl) (pe_make T.M_Choice (ok_Choice___init__ T) (hr.mono (by decide)) (by rfl) T.m_Choice T.b_Choice___init__ .nil pass0 (pa_cons (pe_lst pa_nil) (pa_cons pe_int pa_nil))))
    (pss_cons (ps_set (i := 3) (sc_greedy_set).nd rfl (Or.inl rfl) (pe_call (ok_most_covering T) (hr.mono (by decide)) (by rfl) T.m_most_covering T.F_most_covering.kp T.b_most_covering .nil pass0 (pa_cons (pv 0) (pa_cons (pv 1) pa_nil))))
    (pss_cons (ps_while PassesOwn.never (pt_cmpR op_ne (pv 3) (pe_un un_neg pe_int) (nomark _)) (pss_cons (ps_set (i := 2) (sc_greedy_set).nd rfl (Or.inl rfl) (pe_make T.M_Choice (ok_Choice___init__ T) (hr.mono (by decide)) (by rfl) T.m_Choice T.b_Choice___init__ .nil pass0 (pa_cons (pe_op op_cat (pe_fld (pv 2) rfl) (pe_lst (pa_cons (pv 3) pa_nil))) (pa_cons (pe_op op_add (pe_fld (pv 2) rfl) (pe_callB call_len_str (by rfl) T.n_len PySem.boot_len (pa_cons (pe_fld (pe_ix ix_list (pv 0) (pv 3) (fun _ _ => rfl)) rfl) pa_nil))) pa_nil))))
    (pss_cons (ps_for PassesOwn.never rfl (pi_list (pe_fld (pe_ix ix_list (pv 0) (pv 3) (fun _ _ => rfl)) rfl)) (pg_name (i := 4) (sc_greedy_set).nd rfl (Or.inl rfl)) (pss_one (ps_dput (hu_of hr) (pv 1) (pv 4) pe_bl rfl)))
    (pss_one (ps_set (i := 3) (sc_greedy_set).nd rfl (Or.inl rfl) (pe_call (ok_most_covering T) (hr.mono (by decide)) (by rfl) T.m_most_covering T.F_most_covering.kp T.b_most_covering .nil pass0 (pa_cons (pv 0) (pa_cons (pv 1) pa_nil))))))))
    (pss_one (ps_ret (pv 2))))))), Go.at ?_⟩
  have hfew := ok.few
  have hn9 := ok.n9
  have hc9 : ∀ q ∈ ps, q.2.length ≤ 9 := fun q hq => (ok.cov q hq).1
  refine gq_asgR evr_dnew fun v B1 B2 f1 f2 ⟨d, hv, hd0, hd⟩ => ?_
  subst hv
  have hdH : H d = none := fresh_back f1 hd0
  have f12 := f1.trans f2
  refine gq_asgR (evr_Choice (T := T) (ks := []) (n := 0) (el_lst ea_nil (by decide)) ev_c) fun v B3 B4 f3 f4 ⟨a0, hv, hC0⟩ => ?_
  subst hv
  have f24 := f3.trans f4
  obtain ⟨pas, hpas, hPA⟩ := hP
  have callM : ∀ {σ : L2.St} {H' : Hp} {cs : List Nat}, σ[0]? = some (some (.ref p)) → σ[1]? = some (some (.ref d)) → Ex H H' → H' d = some (.dK (covK cs)) → Ev (tCall (sp_most_covering T) [] E0 (tCons (tVar 0) (tCons (tVar 1) tNil))) σ H' (.int (optI (mostM ps cs))) := fun h0 h1 eH hdd => ev_callV (ea_cons (ev_var h0) (ea_cons (ev_var h1) ea_nil)) fun H1 e Q E k => ⟨p, d, ps, _, rfl, LsAt.monoP (eH.trans e) ⟨pas, hpas, hPA⟩, by omega, hc9, e _ _ hdd, k⟩
  refine gq_asg (v := .int (optI (mostM ps []))) (callM rfl rfl (f12.trans f24) (show B4 d = some (.dK (covK [])) from f24 _ _ hd)) ?_
  refine gq_while (fun m σ' H' => ∃ cs x a y4, σ' = [some (.ref p), some (.ref d), some (.ref a), some (.int (optI (mostM ps cs))), y4] ∧ Ex H H' ∧ H' d = some (.dK (covK cs)) ∧ cs.length + 9 * m ≤ 9 * (n + 1) ∧ ChAt T H' a x ∧ x.ks.length + m ≤ n + 1 ∧ n + 1 ≤ m + ((List.range n).filter fun g => cs.contains g).length ∧ greedyF ps m cs x = greedyM ps n) (n + 1)
    (fun H5 e5 => ⟨[], ⟨0, []⟩, a0, none, rfl, f12.trans (f24.trans e5), show H5 d = some (.dK (covK [])) from (f24.trans e5) _ _ hd, by simp, hC0.mono e5, by simp, by omega, rfl⟩) ?_
  rintro m σ' H' ⟨cs, x, a, y4, rfl, eH, hdd, hcl, hC, hxl, hm, hg⟩
  have hcnt : ((List.range n).filter fun g => cs.contains g).length ≤ n := by
    refine Nat.le_trans (List.length_filter_le _ _) ?_
    rw [List.length_range]
    exact Nat.le_refl _
  obtain ⟨m, rfl⟩ : ∃ m', m = m' + 1 := ⟨m - 1, by omega⟩
  refine ⟨(mostM ps cs).isSome, et_is (et_test (ev_op (ev_var rfl) (ev_un ev_c ru_neg) (rv_ne rfl))) ?_, fun hb => ?_, fun hb => ?_⟩
  · rw [dec_int]
    cases mostM ps cs with
    | none => rfl
    | some i =>
      show (!(((i : Nat) : Int) == -1)) = true
      rw [beq_eq_false_iff_ne.mpr (by omega)] <;> rfl
  · obtain ⟨num, hnum⟩ := Option.isSome_iff_exists.mp hb
    obtain ⟨q, hq, hmore⟩ := mostM_some hnum
    obtain ⟨pa, hpa, hpav, cv, hI, hcv⟩ := hPA.get hq
    have hcov : covOf ps num = q.2 := by
      unfold covOf
      rw [hq]
    obtain ⟨hq9, hqn⟩ := ok.cov q (List.mem_of_getElem? hq)
    have hsh := ok.sh q (List.mem_of_getElem? hq)
    have hlnq : lnOf ps num = (showM q.1).length := by
      unfold lnOf
      rw [hq]
    have hpi : (pas.map V.ref)[num]? = some (.ref pa) := hpav
    obtain ⟨lx, hIx, hlx⟩ := hC
    rw [hnum]
    refine gq_asgR (evr_Choice (T := T) (ks := x.ks ++ [num]) (n := x.bytes + lnOf ps num) ?_ ?_) fun v H1 H2 e1 e2 ⟨a2, hv, hC2⟩ => ?_
    · have e : nl (x.ks ++ [num]) = nl x.ks ++ [.int (num : Nat)] := by
        unfold nl
        rw [List.map_append] <;> rfl
      rw [e]
      intro H1 e1 Q q'
      refine ev_fld (ev_var rfl) hIx.numbers H1 e1 _ fun H2 e2 => el_lst (ea_cons (ev_var rfl) ea_nil) (by show 1 ≤ 100000; decide) H2 (e1.trans e2) _ fun l H3 hl e3 h3 => ⟨lx, l, _, _, rfl, rfl, e3 _ _ (e2 _ _ (e1 _ _ hlx)), h3, sz_of (by rw [List.length_map]; show _ + 1 ≤ _; omega), fun pp hpp => q' pp _ (fresh_back (e2.trans e3) hpp) ((e2.trans e3).trans (Ex.new hpp)) upd_same⟩
    · refine ev_is (ev_op (ev_fld (ev_var rfl) hIx.size) (ev_lenT (ev_fld (ev_op (ev_var rfl) (ev_var rfl) (rv_ixL (sq_of (eH _ _ hpas)) (atI_nat hpi))) (hI.mono eH).chunk) (by rw [S_len]; omega)) rv_I0) ?_
      rw [S_len, hlnq]
      show V.int ((x.bytes : Int) + ((showM q.1).length : Int)) = _
      rw [len_int]
    · subst hv
      have e12 := e1.trans e2
      have eH2 := eH.trans e12
      refine gq_forL (a := cv) (xs := nl q.2) (ev_fld (ev_op (ev_var rfl) (ev_var rfl) (rv_ixL (sq_of (eH2 _ _ hpas)) (atI_nat hpi))) (hI.mono eH2).covered)
        (fun j σ' H'' => ∃ y4, σ' = [some (.ref p), some (.ref d), some (.ref a2), some (.int (num : Nat)), y4] ∧ Ex H H'' ∧ H'' d = some (.dK (covK ((q.2.take j).foldl putC cs))) ∧ ((q.2.take j).foldl putC cs).length ≤ cs.length + j ∧ ChAt T H'' a2 ⟨x.bytes + lnOf ps num, x.ks ++ [num]⟩) (fun j σ' H'' hj ⟨_, _, e, _⟩ => sq_of (e _ _ hcv))
        (fun H3 e3 => ⟨y4, rfl, eH2.trans e3, e3 _ _ (e12 _ _ hdd), Nat.le_refl _, hC2.mono e3⟩) ?_ ?_
      · rintro j y σ' H3 hj ⟨y5, rfl, eH3, hd3, hl3, hC3⟩
        obtain ⟨g, hgg, rfl⟩ := map_item hj
        have hjl : j < q.2.length := (List.getElem?_eq_some_iff.mp hgg).1
        refine go_dput (k := Sum.inl (g : Int)) ev_c (ev_var rfl) (ev_var rfl) hd3 (by unfold covK; rw [List.length_map]; omega) fun H4 e4 => ⟨_, rfl, Ex.mut (eH3.trans e4) hdH, ?_, ?_, ?_⟩
        · rw [upd_same, covK_put, take_next hgg, List.foldl_append] <;> rfl
        · rw [take_next hgg, List.foldl_append]
          exact Nat.le_trans (putC_len _ g) (by omega)
        · obtain ⟨l, ⟨dx, h1⟩, h2⟩ := hC3.mono e4
          exact ⟨l, ⟨dx, by rw [upd_ne (ne_of h1 (e4 _ _ hd3) (by intro z; cases z))]; exact h1⟩, by rw [upd_ne (ne_of h2 (e4 _ _ hd3) (by intro z; cases z))]; exact h2⟩
      · rintro σ' H3 ⟨y5, rfl, eH3, hd3, hl3, hC3⟩
        have e : List.take (nl q.2).length q.2 = q.2 := List.take_of_length_le (by rw [List.length_map]; exact Nat.le_refl _)
        rw [e] at hd3
        rw [e, show (nl q.2).length = q.2.length from List.length_map _] at hl3
        have hlen2 : (q.2.foldl putC cs).length + 9 * m ≤ 9 * (n + 1) := by omega
        refine go_asg (v := .int (optI (mostM ps (q.2.foldl putC cs)))) (callM rfl rfl eH3 hd3) fun H4 e4 => ⟨m, by omega, _, _, a2, y5, rfl, eH3.trans e4, e4 _ _ hd3, hlen2, hC3.mono e4, ?_, ?_, ?_⟩
        · rw [List.length_append]
          show x.ks.length + 1 + m ≤ n + 1
          omega
        · have hlt : ((List.range n).filter fun g => cs.contains g).length < ((List.range n).filter fun g => (q.2.foldl putC cs).contains g).length := by
            refine filter_lt _ (fun g hg => by rw [putAll_has, hg] <;> rfl) ?_
            unfold moreM at hmore
            obtain ⟨g, hgm⟩ := List.exists_mem_of_length_pos hmore
            obtain ⟨g1, g2⟩ := List.mem_filter.mp hgm
            refine ⟨g, List.mem_range.mpr (hqn g g1), ?_, by simpa using g2⟩
            rw [putAll_has, List.contains_iff_mem.mpr g1, Bool.or_true]
          omega
        · rw [← hg]
          show _ = (match mostM ps cs with | none => x | some k => greedyF ps m ((covOf ps k).foldl putC cs) ⟨x.bytes + lnOf ps k, x.ks ++ [k]⟩)
          rw [hnum, ← hcov]
  · have hnone : mostM ps cs = none := by
      cases e : mostM ps cs with
      | none => rfl
      | some i =>
        rw [e] at hb
        cases hb
    have e : greedyM ps n = x := by
      rw [← hg]
      show (match mostM ps cs with | none => x | some k => greedyF ps m ((covOf ps k).foldl putC cs) ⟨x.bytes + lnOf ps k, x.ks ++ [k]⟩) = x
      rw [hnone]
    rw [e] at k
    exact go_ret (ev_var rfl) fun H4 e4 => k _ H4 (eH.trans e4) ⟨a, rfl, hC.mono e4⟩
end
end LP
namespace LP
open PySem PySem.Spec PyProof.Rows L2 Evl
open VahypBase (Bytes isLetter isDigit inChunk)
def okAt {α : Type} (l : List α) (f : α → Bool) (i : Nat) : Bool := match l[i]? with
  | some x => f x
  | none => false
theorem okAt_some {α : Type} {l : List α} {f : α → Bool} {i : Nat} {x : α} (h : l[i]? = some x) : okAt l f i = f x := by
  unfold okAt
  rw [h]
theorem byAt_some {α : Type} {l : List α} {g : α → V} {i : Nat} {x : α} (h : l[i]? = some x) : byAt l g i = g x := by
  unfold byAt
  rw [h]
theorem given_filt {α : Type} (l : List α) (f : α → Bool) (g : α → V) : given l.length (okAt l f) (byAt l g) = (l.filter f).map g := by
  suffices h : ∀ n, n ≤ l.length → given n (okAt l f) (byAt l g) = ((l.take n).filter f).map g by
    have := h l.length (Nat.le_refl _)
    rw [List.take_length] at this
    exact this
  intro n
  induction n with
  | zero => intro _; rfl
  | succ n ih =>
    intro hn
    have hx : l[n]? = some l[n] := List.getElem?_eq_getElem (by omega)
    rw [take_next hx, List.filter_append, List.map_append]
    cases hf : f l[n] with
    | true =>
      rw [given_yes (by rw [okAt_some hx]; exact hf), ih (by omega), List.filter_cons, if_pos hf, byAt_some hx] <;> rfl
    | false =>
      rw [given_no (by rw [okAt_some hx]; exact hf), ih (by omega), List.filter_cons, if_neg (by rw [hf]; decide), List.filter_nil, List.map_nil, List.append_nil]
section
variable {K : PySem.W.Frag} {σ : L2.St} {H H' : Hp} {ta tb td ty tv tl te : TE} {t u : TT} {x y z v : V} {D : Ends} {tu tw tz : TS} {R : Hp → V → Hp → Prop}
theorem el_lcS {j : Nat} {s : Str} (f : Nat → Bool) (v : Nat → V) (h : Ev tl σ H (.str s)) (hz : s.length ≤ 40000) {vs : List Nat} (hw : ∀ x, wipe ((wipe σ vs).set j (some x)) vs = wipe σ vs)
    (ht : ∀ (i : Nat) c H1, Ex H H1 → s.cps[i]? = some c → EvT t ((wipe σ vs).set j (some (.str ⟨#[c]⟩))) H1 (f i)) (he : ∀ (i : Nat) c H1, Ex H H1 → s.cps[i]? = some c → f i = true → Ev te ((wipe σ vs).set j (some (.str ⟨#[c]⟩))) H1 (v i)) :
    EvL (tLc (iStr tl) (gName j) t te vs) σ H (given s.cps.size f v) := fun H0 e Q q => h H0 e _ fun H1 e1 => ⟨s, rfl, fun Dl hD =>
  lc_it walk_str (Cw H1 f v Dl) ⟨hD, Ex.new hD, upd_same⟩ (fun _ _ _ _ => trivial) (fun i x H' H'' hi p y => by
    obtain ⟨rfl, c, hc, rfl⟩ := y
    exact ⟨hw _, cw_turn p (by have : s.cps.size ≤ 40000 := hz; omega) (ht i c H1 (e.trans e1) hc) (fun hf => he i c H1 (e.trans e1) hc hf)⟩) (fun H' p => q Dl H' (fresh_back e1 p.1) (e1.trans p.2.1) p.2.2)⟩
theorem S_item {b : Bytes} {i c : Nat} (h : (S b).cps[i]? = some c) : ∃ x, b[i]? = some x ∧ c = x.toNat := by
  rw [S_at] at h
  cases e : b[i]? with
  | none =>
    rw [e] at h
    cases h
  | some x =>
    rw [e] at h
    exact ⟨x, rfl, (Option.some.inj h).symm⟩
theorem ev_digit {b : Bytes} (h : Ev ta σ H (.str (S b))) (hb : Chk b) : Ev (tM0 (fun x xs H Q => ∃ a, x = .str a ∧ xs = [] ∧ True ∧ Q (.bl (Txt.isdigit a)) H) ta) σ H (.bl (!b.isEmpty && b.all isDigit)) := ev_m0 h fun H1 Q q => ⟨_, rfl, rfl, trivial, by rw [S_digit hb]; exact q⟩
theorem ev_alpha {b : Bytes} (h : Ev ta σ H (.str (S b))) (hb : Chk b) : Ev (tM0 (fun x xs H Q => ∃ a, x = .str a ∧ xs = [] ∧ True ∧ Q (.bl (Txt.isalpha a)) H) ta) σ H (.bl (!b.isEmpty && b.all isLetter)) := ev_m0 h fun H1 Q q => ⟨_, rfl, rfl, trivial, by rw [S_alpha hb]; exact q⟩
theorem ev_lenB {b : Bytes} (h : Ev te σ H (.str (S b))) (hz : b.length ≤ 100000) : Ev (tCB (fun xs H Q => ∃ z, xs = [.str z] ∧ z.length ≤ sizeLine ∧ Q (.int z.length) H) (tCons te tNil)) σ H (.int (b.length : Nat)) := ev_is (ev_lenT h (by rw [S_len]; exact hz)) (by rw [S_len])
end
/-! ## chunks -/
def isMarginM (b : Bytes) : Bool := match b with
  | [c] => isDigit c && decide (c.toNat - 48 ≤ 5)
  | _ => false
def lettersW (b : Bytes) : Bytes := b.filter (· != 45)
def wordPart (p : Bytes) : Bool := !p.isEmpty && p.all isLetter
def isWordM (b : Bytes) : Bool := (partsB b).all wordPart && (decide (2 ≤ (lettersW b).length) && decide ((lettersW b).length ≤ 16))
def stepB (st : List Nat × Nat) (c : UInt8) : List Nat × Nat := if c = 45 then (st.1 ++ [st.2], st.2) else (st.1, st.2 + 1)
def breaksM (b : Bytes) : List Nat := (b.foldl stepB ([], 0)).1
def headOff (b : Bytes) : Bytes := if (b.head? == some 46) = true then b.drop 1 else b
def tailOff (b : Bytes) : Bytes := if (b.getLast? == some 46) = true then b.dropLast else b
def nopts (b : Bytes) : Bytes := tailOff (headOff b)
def nodig (b : Bytes) : Bytes := b.filter fun c => !isDigit c
def digAt (b : Bytes) (i : Nat) : Bool := match b[i]? with
  | some c => isDigit c
  | none => false
def sideM (b : Bytes) : Bool := (List.range (b.length - 1)).any fun i => digAt b i && digAt b (1 + i)
def isPatM (b : Bytes) : Bool :=
  let body := nopts b
  let l := nodig body
  ((!l.isEmpty && l.all isLetter) && decide (l.length ≤ 6)) && (!(l.length == body.length || body.contains 48) && !sideM body)
section
variable {P : Program} {w : World} {K : PySem.W.Frag} {mg : Str → Option Value} {base : Heap} {H H' : Hp}
def sp_is_margin : Sp := fun vs H Q _ => ∃ b : Bytes, vs = [.str (S b)] ∧ Chk b ∧ b.length ≤ 40 ∧ RetV (.bl (isMarginM b)) H Q
theorem ok_is_margin (T : TX K mg) : FnOk P w K mg base CX0 1 T.f_is_margin T.d_is_margin ["chunk"] (sp_is_margin) := by
  refine T.F_is_margin.ok sc_is_margin (fun vs H Q E h => ?_) (fun cdv A outer s0 H vs Q E hr h => ?_)
  · obtain ⟨b, rfl, hb, hl, k⟩ := h
    rfl
  obtain ⟨b, rfl, hb, hl, k⟩ := h
  refine ⟨_, (pss_one (ps_ret (pe_and (pe_cmpR op_eq (pe_callB call_len_str (by rfl) T.n_len PySem.boot_len (pa_cons (pv 0) pa_nil)) pe_int (nomark _)) (pe_and (pe_m0 PySem.F.slot_str_isdigit PySem.F.type_str_isdigit mt_isdigit (pv 0)) (pe_one (pe_cmpR op_le (pe_callTy call_int_str (by rfl) T.n_int (by decide +kernel) (pa_cons (pv 0) pa_nil)) (pe_glob (v := .int 5) (by rfl) T.c_MOST_MARGIN ⟨_, rfl⟩) (nomark _))))))), Go.at ?_⟩
  by_cases h1 : b.length = 1
  · obtain ⟨c, rfl⟩ : ∃ c, b = [c] := by
      match b, h1 with
      | [c], _ => exact ⟨c, rfl⟩
    refine go_ret (v := .bl (isMarginM [c])) ?_ k
    refine ev_is (ev_andV (a := true) (b := isDigit c && decide (c.toNat - 48 ≤ 5)) (ev_is (ev_op (ev_lenB (ev_var rfl) (by omega)) ev_c (rv_eq rfl)) (by rfl)) fun _ => ev_andV (ev_is (ev_digit (ev_var rfl) hb) (by simp)) fun hd => ?_) (by rw [Bool.true_and] <;> rfl)
    refine ev_is (ev_op (ev_cbv (z := .int ((c.toNat - 48 : Nat) : Int)) (ea_cons (ev_var rfl) ea_nil) fun H1 e Q q => ⟨_, _, rfl, S_int hd, by rw [S_len]; show 1 ≤ 640; decide, q⟩) ev_c rv_I0) ?_
    exact congrArg V.bl (decide_eq_decide.mpr (by omega))
  · have e : isMarginM b = false := by
      match b, h1 with
      | [], _ => rfl
      | [c], h1 => exact absurd rfl h1
      | _ :: _ :: _, _ => rfl
    rw [e] at k
    refine go_ret (v := .bl false) ?_ k
    exact ev_is (ev_andV (a := false) (b := true) (ev_is (ev_op (ev_lenB (ev_var rfl) (by omega)) ev_c (rv_eq rfl)) (by rw [dec_int, beq_eq_false_iff_ne.mpr]; omega)) fun z => by cases z) rfl
def sp_word_letters : Sp := fun vs H Q _ => ∃ b : Bytes, vs = [.str (S b)] ∧ b.length ≤ 1000 ∧ RetV (.str (S (lettersW b))) H Q
theorem ok_word_letters (T : TX K mg) : FnOk P w K mg base CX0 1 T.f_word_letters T.d_word_letters ["chunk"] sp_word_letters := by
  obtain ⟨oc, od, kV, doc, pm, an, cdv, ct, osl, e, lk, hcd⟩ := T.F_word_letters.ex
  rw [e] at lk ⊢
  refine fn_ofT lk hcd sc_word_letters (by decide +kernel) (by decide) (fun vs H Q E h => ?_) fun A outer s H vs Q E hr h => ?_
  · obtain ⟨b, rfl, _⟩ := h
    rfl
  · obtain ⟨b, rfl, hl, k⟩ := h
    refine ⟨_, CwR.psst_one (CwR.pst_ret (CwR.pet_replC (y := "-") (z := "") (pv 0) (by decide +kernel))), ?_⟩
    refine ⟨_, rfl, S b, rfl, ?_, ?_⟩
    · have e0 : ("" : Str).length = 0 := by decide +kernel
      rw [e0, S_len]
      omega
    · rw [S_repl]
      exact k H (Ex.refl _)
theorem chk_parts : ∀ (b : Bytes), ∀ p ∈ partsB b, ∀ c ∈ p, c ∈ b
  | [] => fun p hp c hc => by
    have e : p = [] := List.mem_singleton.mp hp
    rw [e] at hc
    cases hc
  | x :: r => fun p hp c hc => by
    have ih := chk_parts r
    unfold partsB at hp
    split at hp
    · rcases List.mem_cons.mp hp with e | h
      · rw [e] at hc
        cases hc
      · exact List.mem_cons_of_mem _ (ih p h c hc)
    · split at hp
      · rename_i q qs hq
        rcases List.mem_cons.mp hp with e | h
        · rw [e] at hc
          rcases List.mem_cons.mp hc with e2 | h2
          · rw [e2]
            exact List.mem_cons_self ..
          · exact List.mem_cons_of_mem _ (ih q (by rw [hq]; exact List.mem_cons_self ..) c h2)
        · exact List.mem_cons_of_mem _ (ih p (by rw [hq]; exact List.mem_cons_of_mem _ h) c hc)
      · have e := List.mem_singleton.mp hp
        rw [e] at hc
        rw [List.mem_singleton.mp hc]
        exact List.mem_cons_self ..
theorem evr_split {σ : L2.St} {ta tb : TE} {b : Bytes} (h : Ev ta σ H (.str (S b))) (hb : Ev tb σ H (.str "-")) (hl : b.length ≤ 100000) : EvR (tM1 (fun x xs H Q => ∃ a b, x = .str a ∧ xs = [.str b] ∧ (b.length == 0) = false ∧ a.length + 2 ≤ sizeLine ∧ rNewStrs (Txt.split a b) H Q) ta tb) σ H (NewL ((partsB b).map fun p => V.str (S p))) := fun H1 e Q q =>
  h H1 e _ fun H2 e2 => ⟨⟨_, rfl⟩, hb H2 (e.trans e2) _ fun H3 e3 => ⟨S b, "-", rfl, rfl, by decide +kernel, by rw [S_len]; exact Nat.le_trans (Nat.add_le_add_right hl 2) (by decide), fun p hp => by
    rw [S_split, List.map_map]
    exact q _ _ ((e2.trans e3).trans (Ex.new hp)) ⟨p, rfl, fresh_back (e2.trans e3) hp, upd_same⟩⟩⟩
def sp_is_word : Sp := fun vs H Q _ => ∃ b : Bytes, vs = [.str (S b)] ∧ Chk b ∧ b.length ≤ 40 ∧ RetV (.bl (isWordM b)) H Q
theorem ok_is_word (T : TX K mg) : FnOk P w K mg base CX0 2 T.f_is_word T.d_is_word ["chunk"] (sp_is_word) := by
  refine T.F_is_word.ok sc_is_word (fun vs H Q E h => ?_) (fun cdv A outer s0 H vs Q E hr h => ?_)
  · obtain ⟨b, rfl, hb, hl, k⟩ := h
    rfl
  obtain ⟨b, rfl, hb, hl, k⟩ := h
  refine ⟨_, (pss_cons (ps_for PassesOwn.never rfl (pi_list (pe_split (pv 0) pe_str)) (pg_name (i := 1) (sc_is_word).nd rfl (Or.inl rfl)) (pss_one (ps_if (pt_not (pt_val (pe_m0 PySem.F.slot_str_isalpha PySem.F.type_str_isalpha mt_isalpha (pv 1)))) (pss_one (ps_ret pe_bl)) pss_nil)))
    (pss_cons (ps_set (i := 2) (sc_is_word).nd rfl (Or.inl rfl) (pe_callB call_len_str (by rfl) T.n_len PySem.boot_len (pa_cons (pe_call (ok_word_letters T) (hr.mono (by decide)) (by rfl) T.m_word_letters T.F_word_letters.kp T.b_word_letters .nil pass0 (pa_cons (pv 0) pa_nil)) pa_nil)))
    (pss_one (ps_ret (pe_and (pe_cmpR op_ge (pv 2) (pe_glob (v := .int 2) (by rfl) T.c_LEAST_WORD_LETTERS ⟨_, rfl⟩) (nomark _)) (pe_one (pe_cmpR op_le (pv 2) (pe_glob (v := .int 16) (by rfl) T.c_MOST_WORD_LETTERS ⟨_, rfl⟩) (nomark _)))))))), Go.at ?_⟩
  have hlw : (lettersW b).length ≤ 40 := Nat.le_trans (List.length_filter_le _ _) hl
  refine gq_forR (NewL ((partsB b).map fun p => V.str (S p))) (evr_split (ev_var rfl) ev_c (by omega)) fun v H1 H2 e1 e2 ⟨l, hv, hl0, hll⟩ => ?_
  have e12 := e1.trans e2
  refine ⟨l, (partsB b).map (fun p => V.str (S p)), fun i σ' H' => ∃ y1, σ' = [some (.str (S b)), y1, none] ∧ Ex H2 H' ∧ ((partsB b).take i).all wordPart = true, hv, ⟨none, rfl, Ex.refl _, by simp⟩, fun i σ' H' hi ⟨_, _, e, _⟩ => sq_of (e _ _ hll), ?_, ?_⟩
  · rintro i x σ' H' hi ⟨y1, rfl, eH, hall⟩
    obtain ⟨p, hp, rfl⟩ := map_item hi
    have hpc : Chk p := fun c hc => hb c (chk_parts b p (List.mem_of_getElem? hp) c hc)
    refine go_if (b := !wordPart p) (et_not (et_B (ev_alpha (ev_var rfl) hpc))) (fun hh => ?_) fun hh => ?_
    · refine go_ret ev_c fun H3 e3 => ?_
      have hf : wordPart p = false := by simpa using hh
      have e : isWordM b = false := by
        unfold isWordM
        rw [all_false hp hf] <;> rfl
      rw [e] at k
      exact k H3 (e12.trans (eH.trans e3))
    · exact go_next fun H3 e3 => ⟨_, rfl, eH.trans e3, all_take hp hall (by simpa using hh)⟩
  · rintro σ' H' ⟨y1, rfl, eH, hall⟩
    have e : List.take ((partsB b).map fun p => V.str (S p)).length (partsB b) = partsB b := List.take_of_length_le (by rw [List.length_map]; exact Nat.le_refl _)
    rw [e] at hall
    have e2' : isWordM b = (decide (2 ≤ (lettersW b).length) && decide ((lettersW b).length ≤ 16)) := by
      unfold isWordM
      rw [hall, Bool.true_and]
    rw [e2'] at k
    refine gq_asg (v := .int ((lettersW b).length : Nat)) (ev_lenB (ev_callV (ea_cons (ev_var rfl) ea_nil) fun H3 e Q E k => ⟨b, rfl, by omega, k⟩) (by omega)) ?_
    refine go_ret (ev_andV (ev_is (ev_op (ev_var rfl) ev_c rv_I0) ?_) fun _ => ev_is (ev_op (ev_var rfl) ev_c rv_I0) ?_) fun H3 e3 => k H3 (e12.trans (eH.trans e3))
    · exact congrArg V.bl (decide_eq_decide.mpr (by omega))
    · exact congrArg V.bl (decide_eq_decide.mpr (by omega))
def sp_word_breaks : Sp := fun vs H Q _ => ∃ b : Bytes, vs = [.str (S b)] ∧ b.length ≤ 1000 ∧ RetL (nl (breaksM b)) H Q
theorem breaks_len : ∀ (b : Bytes) (st : List Nat × Nat), (b.foldl stepB st).1.length ≤ st.1.length + b.length
  | [], st => Nat.le_refl _
  | c :: r, st => by
    rw [List.foldl_cons, List.length_cons]
    have h1 := breaks_len r (stepB st c)
    have h2 : (stepB st c).1.length ≤ st.1.length + 1 := by
      unfold stepB
      split
      · rw [List.length_append] <;> exact Nat.le_refl _
      · exact Nat.le_succ _
    omega
theorem ok_word_breaks (T : TX K mg) : FnOk P w K mg base CX0 1 T.f_word_breaks T.d_word_breaks ["chunk"] (sp_word_breaks) := by
  refine T.F_word_breaks.ok sc_word_breaks (fun vs H Q E h => ?_) (fun cdv A outer s0 H vs Q E hr h => ?_)
  · obtain ⟨b, rfl, hl, k⟩ := h
    rfl
  obtain ⟨b, rfl, hl, k⟩ := h
  refine ⟨_, (pss_cons (ps_set (i := 1) (sc_word_breaks).nd rfl (Or.inl rfl) (pe_lst pa_nil))
    (pss_cons (ps_set (i := 2) (sc_word_breaks).nd rfl (Or.inl rfl) pe_int)
    (pss_cons (ps_for PassesOwn.never rfl (pi_str (pv 0)) (pg_name (i := 3) (sc_word_breaks).nd rfl (Or.inl rfl)) (pss_one (ps_if (pt_cmpR op_eq (pv 3) pe_str (nomark _)) (pss_one (ps_expr (pe_bm PySem.F.plainAttrs_list PySem.F.slot_list_append PySem.F.type_list_append mt_append (pv 1) (pa_cons (pv 2) pa_nil)))) (pss_one (ps_aug (i := 2) (sc_word_breaks).nd rfl (Or.inl rfl) pe_int ip_add)))))
    (pss_one (ps_ret (pv 1)))))), Go.at ?_⟩
  refine gq_asgL (el_lst ea_nil (by decide)) fun l H1 nl1 e1 hll => gq_asg ev_c ?_
  let up (i : Nat) := (b.take i).foldl stepB ([], 0)
  refine gq_forS (s := S b) (ev_var rfl) (fun i σ' H' => ∃ y3, σ' = [some (.str (S b)), some (.ref l), some (.int ((up i).2 : Nat)), y3] ∧ Ex H H' ∧ H' l = some (.lst (nl (up i).1))) (fun H2 e2 => ⟨none, rfl, e1.trans e2, e2 _ _ hll⟩) ?_ ?_
  · rintro i c σ' H' hi ⟨y3, rfl, eH, hL⟩
    obtain ⟨x, hx, rfl⟩ := S_item hi
    have hup : up (i + 1) = stepB (up i) x := by
      show (b.take (i + 1)).foldl stepB ([], 0) = _
      rw [take_next hx, List.foldl_append] <;> rfl
    have hlen : (nl (up i).1).length < 100000 := by
      have h1 := breaks_len (b.take i) ([], 0)
      rw [List.length_take] at h1
      rw [List.length_map]
      show ((b.take i).foldl stepB ([], 0)).1.length < _
      simp at h1
      omega
    refine go_if (b := decide (x = 45)) (et_is (et_test (ev_op (ev_var rfl) ev_c (rv_eq rfl))) ?_) (fun hb => ?_) fun hb => ?_
    · rw [← S_one, S_lit45, S_eq, Bool.eq_iff_iff]
      simp
    · have e : stepB (up i) x = ((up i).1 ++ [(up i).2], (up i).2) := if_pos (of_decide_eq_true hb)
      refine go_app hL (ev_var rfl) (ev_var rfl) hlen fun H2 e2 => ⟨_, by rw [hup, e] <;> rfl, Ex.mut (eH.trans e2) nl1, ?_⟩
      rw [upd_same, hup, e]
      unfold nl
      rw [List.map_append] <;> rfl
    · have e : stepB (up i) x = ((up i).1, (up i).2 + 1) := if_neg (of_decide_eq_false hb)
      refine go_aug rfl ev_c fun H2 e2 => ⟨some (.str ⟨#[x.toNat]⟩), ?_, eH.trans e2, ?_⟩
      · rw [hup, e]
        show [some (V.str (S b)), some (V.ref l), some (V.int (((up i).2 : Int) + 1)), some (V.str ⟨#[x.toNat]⟩)] = _
        rfl
      · rw [hup, e]
        exact e2 _ _ hL
  · rintro σ' H' ⟨y3, rfl, eH, hL⟩
    have e : up (S b).cps.size = b.foldl stepB ([], 0) := by
      have e2 : (S b).cps.size = b.length := S_len b
      show (b.take (S b).cps.size).foldl stepB ([], 0) = _
      rw [e2, List.take_length]
    rw [e] at hL
    exact go_ret (ev_var rfl) fun H2 e2 => k l H2 nl1 (eH.trans e2) (e2 _ _ hL)
def sp_without_points : Sp := fun vs H Q _ => ∃ b : Bytes, vs = [.str (S b)] ∧ b.length ≤ 1000 ∧ RetV (.str (S (nopts b))) H Q
theorem ok_without_points (T : TX K mg) : FnOk P w K mg base CX0 1 T.f_without_points T.d_without_points ["chunk"] (sp_without_points) := by
  refine T.F_without_points.ok sc_without_points (fun vs H Q E h => ?_) (fun cdv A outer s0 H vs Q E hr h => ?_)
  · obtain ⟨b, rfl, hl, k⟩ := h
    rfl
  obtain ⟨b, rfl, hl, k⟩ := h
  refine ⟨_, (pss_cons (ps_set (i := 1) (sc_without_points).nd rfl (Or.inl rfl) (pv 0))
    (pss_cons (ps_if (pt_val (pe_m1 PySem.F.slot_str_startswith PySem.F.type_str_startswith mt_startswith (pv 1) pe_str)) (pss_one (ps_set (i := 1) (sc_without_points).nd rfl (Or.inl rfl) (pe_slice sl_str (pv 1) (po_some pe_int) po_none))) pss_nil)
    (pss_cons (ps_if (pt_val (pe_m1 PySem.F.slot_str_endswith PySem.F.type_str_endswith mt_endswith (pv 1) pe_str)) (pss_one (ps_set (i := 1) (sc_without_points).nd rfl (Or.inl rfl) (pe_slice sl_str (pv 1) po_none (po_some (pe_un un_neg pe_int))))) pss_nil)
    (pss_one (ps_ret (pv 1)))))), Go.at ?_⟩
  refine gq_asg (ev_var rfl) ?_
  have hh : (headOff b).length ≤ 1000 := by
    unfold headOff
    split
    · rw [List.length_drop]
      omega
    · exact hl
  have second : Go (tSeq (tIfS (tB (tM1 (fun x xs H Q => ∃ a b, x = .str a ∧ xs = [.str b] ∧ Q (.bl (Txt.endswith a b)) H) (tVar 1) (tC (.str ".")))) (tAsg (tSl rSlS (tVar 1) tNoPart (tPart (tUn (fun x H Q => ∃ i, x = .int i ∧ Q (.int (-i)) H) (tC (.int 1))))) (gName 1)) tNext) (tRet (tVar 1))) { nx := fun _ H' => Q .non H', rt := Q } [some (.str (S b)), some (.str (S (headOff b)))] H := by
    refine gq_when (et_B (ev_m1 (y := .str ".") (ev_var rfl) ev_c fun H1 Q q => ⟨_, _, rfl, rfl, by rw [S_last]; exact q⟩)) (fun hb => ?_) fun hb => ?_
    · have e : nopts b = (headOff b).dropLast := if_pos hb
      rw [e] at k
      exact go_asg (v := .str (S (headOff b).dropLast)) (ev_is (ev_slS (ev_var rfl) eo_none (eo_some (ev_un ev_c ru_neg)) (sz_of (by rw [S_len]; omega))) (by rw [S_but])) (go_ret (ev_var rfl) k)
    · have e : nopts b = headOff b := if_neg (by rw [hb]; decide)
      rw [e] at k
      exact go_ret (ev_var rfl) k
  refine gq_when (et_B (ev_m1 (y := .str ".") (ev_var rfl) ev_c fun H1 Q q => ⟨_, _, rfl, rfl, by rw [S_head]; exact q⟩)) (fun hb => ?_) fun hb => ?_
  · have e : headOff b = b.drop 1 := if_pos hb
    rw [e] at second
    exact go_asg (v := .str (S (b.drop 1))) (ev_is (ev_slS (ev_var rfl) (eo_some ev_c) eo_none (sz_of (by rw [S_len]; omega))) (by rw [show (1 : Int) = ((1 : Nat) : Int) from rfl, S_from])) second
  · have e : headOff b = b := if_neg (by rw [hb]; decide)
    rw [e] at second
    exact second
def sp_without_digits : Sp := fun vs H Q _ => ∃ b : Bytes, vs = [.str (S b)] ∧ Chk b ∧ b.length ≤ 1000 ∧ RetV (.str (S (nodig b))) H Q
theorem flat_one (b : Bytes) : (b.map fun c => [c]).flatten = b := by
  induction b with
  | nil => rfl
  | cons x r ih =>
    rw [List.map_cons, List.flatten_cons, ih] <;> rfl
theorem ev_joinB {σ : L2.St} {ta tb : TE} {l : List Bytes} (h : Ev ta σ H (.str "")) (hb : EvL tb σ H (l.map fun p => V.str (S p))) (hz : (l.map fun p => p.length).sum ≤ 16777216) : Ev (tM1 (fun x xs H Q => ∃ a p, ∃ ys : List Str, x = .str a ∧ xs = [.ref p] ∧ (SqL K H p (ys.map V.str) ∨ SqT K H p (ys.map V.str)) ∧ (ys.map (·.length)).sum + ys.length * a.length ≤ 16777216 ∧ Q (.str (Txt.join a ys)) H) ta tb) σ H (.str (S l.flatten)) := fun H1 e Q q =>
  h H1 e _ fun H2 e2 => ⟨⟨_, rfl⟩, hb H2 (e.trans e2) _ fun p H3 hp e3 h3 => ⟨"", p, l.map S, rfl, rfl, .inl (sq_of (by rw [List.map_map]; exact h3)), by
    have e0 : ("" : Str).length = 0 := by decide +kernel
    have e1 : ((l.map S).map (·.length)) = l.map fun p => p.length := by
      rw [List.map_map]
      exact List.map_congr_left fun p _ => S_len p
    rw [e0, Nat.mul_zero, Nat.add_zero, e1]
    exact hz, by
    rw [S_join]
    exact q H3 (e2.trans e3)⟩⟩
theorem sum_ones : ∀ (l : Bytes), ((l.map fun c => [c]).map fun p => p.length).sum = l.length
  | [] => rfl
  | x :: r => by
    rw [List.map_cons, List.map_cons, List.sum_cons, sum_ones r, List.length_cons, Nat.add_comm] <;> rfl
theorem ok_without_digits (T : TX K mg) : FnOk P w K mg base CX0 1 T.f_without_digits T.d_without_digits ["chunk"] (sp_without_digits) := by
  refine T.F_without_digits.ok sc_without_digits (fun vs H Q E h => ?_) (fun cdv A outer s0 H vs Q E hr h => ?_)
  · obtain ⟨b, rfl, hb, hl, k⟩ := h
    rfl
  obtain ⟨b, rfl, hb, hl, k⟩ := h
  refine ⟨_, (pss_one (ps_ret (pe_join pe_str (pe_lc (own := [("sign", 1)]) (by rfl) (sc_without_digits).nd (pi_str (pv 0)) (blkOk_by (own := [("sign", 1)]) (N := N_without_digits) (sc := defScope s_without_digits) (by decide +kernel)) (fun _ _ _ _ _ => (pg_name (i := 1) (sc_without_digits).nd rfl (Or.inl rfl))) (fun _ _ _ _ _ => pts_one (pt_not (pt_val (pe_m0 PySem.F.slot_str_isdigit PySem.F.type_str_isdigit mt_isdigit (pv 1))))) (fun _ _ _ _ _ => (pv 1)))))), Go.at ?_⟩
  have hn : (nodig b).length ≤ 1000 := Nat.le_trans (List.length_filter_le _ _) hl
  refine go_ret (v := .str (S (nodig b))) (ev_is (ev_joinB (l := (nodig b).map fun c => [c]) ev_c ?_ (by rw [sum_ones]; omega)) (by rw [flat_one])) k
  have e : ((nodig b).map fun c => [c]).map (fun p => V.str (S p)) = given (S b).cps.size (okAt b fun c => !isDigit c) (byAt b fun c => V.str (S [c])) := by
    rw [show (S b).cps.size = b.length from S_len b, given_filt, List.map_map] <;> rfl
  rw [e]
  refine el_lcS _ _ (ev_var rfl) (by rw [S_len]; omega) (fun x => rfl) (fun i c H1 e1 hi => ?_) fun i c H1 e1 hi hf => ?_
  · obtain ⟨x, hx, rfl⟩ := S_item hi
    rw [okAt_some hx]
    refine et_not (et_is (et_B (ev_digit (b := [x]) (ev_var rfl) fun c hc => ?_)) (by simp))
    rw [List.mem_singleton.mp hc]
    exact hb x (List.mem_of_getElem? hx)
  · obtain ⟨x, hx, rfl⟩ := S_item hi
    rw [byAt_some hx]
    exact ev_var rfl
def sp_has_digits_side_by_side : Sp := fun vs H Q _ => ∃ b : Bytes, vs = [.str (S b)] ∧ Chk b ∧ b.length ≤ 1000 ∧ RetV (.bl (sideM b)) H Q
theorem ev_digAt {σ : L2.St} {ta tb : TE} {b : Bytes} {i : Nat} (h : Ev ta σ H (.str (S b))) (hi : Ev tb σ H (.int (i : Nat))) (hb : Chk b) (hl : b.length ≤ 1000) (hlt : i < b.length) : Ev (tM0 (fun x xs H Q => ∃ a, x = .str a ∧ xs = [] ∧ True ∧ Q (.bl (Txt.isdigit a)) H) (tOp rIxS ta tb)) σ H (.bl (digAt b i)) := by
  have hx : b[i]? = some b[i] := List.getElem?_eq_getElem hlt
  have e : digAt b i = (![b[i]].isEmpty && [b[i]].all isDigit) := by
    unfold digAt
    rw [hx]
    simp
  rw [e]
  refine ev_digit (b := [b[i]]) (ev_op h hi (rv_ixS (by rw [S_len]; omega) (by rw [S_atI, hx] <;> rfl))) fun c hc => ?_
  rw [List.mem_singleton.mp hc]
  exact hb _ (List.getElem_mem hlt)
theorem ok_has_digits_side_by_side (T : TX K mg) : FnOk P w K mg base CX0 1 T.f_has_digits_side_by_side T.d_has_digits_side_by_side ["body"] (sp_has_digits_side_by_side) := by
  refine T.F_has_digits_side_by_side.ok sc_has_digits_side_by_side (fun vs H Q E h => ?_) (fun cdv A outer s0 H vs Q E hr h => ?_)
  · obtain ⟨b, rfl, hb, hl, k⟩ := h
    rfl
  obtain ⟨b, rfl, hb, hl, k⟩ := h
  refine ⟨_, (pss_cons (ps_for PassesOwn.never rfl (pi_range2 (by rfl) T.n_range (pa_cons pe_int (pa_cons (pe_callB call_len_str (by rfl) T.n_len PySem.boot_len (pa_cons (pv 0) pa_nil)) pa_nil))) (pg_name (i := 1) (sc_has_digits_side_by_side).nd rfl (Or.inl rfl)) (pss_one (ps_if (PW.pt (pw_and (pt_val (pe_m0 PySem.F.slot_str_isdigit PySem.F.type_str_isdigit mt_isdigit (pe_ix ix_str (pv 0) (pe_op op_sub (pv 1) pe_int) (fun _ _ => rfl)))) (pw_and1 (pt_val (pe_m0 PySem.F.slot_str_isdigit PySem.F.type_str_isdigit mt_isdigit (pe_ix ix_str (pv 0) (pv 1) (fun _ _ => rfl))))))) (pss_one (ps_ret pe_bl)) pss_nil)))
    (pss_one (ps_ret pe_bl))), Go.at ?_⟩
  refine gq_forR2 (lo := 1) (n := (b.length : Nat)) (ea_cons ev_c (ea_cons (ev_lenB (ev_var rfl) (by omega)) ea_nil)) (by omega) (fun i σ' H' => ∃ y1, σ' = [some (.str (S b)), y1] ∧ Ex H H' ∧ ((List.range i).any fun i => digAt b i && digAt b (1 + i)) = false) (fun H1 e1 => ⟨none, rfl, e1, rfl⟩) ?_ ?_
  · rintro i σ' H' hi ⟨y1, rfl, eH, hall⟩
    have e1 : (1 : Int) + (i : Int) = ((1 + i : Nat) : Int) := by omega
    rw [e1]
    refine go_if (b := digAt b i && digAt b (1 + i)) (et_and (et_B (ev_digAt (ev_var rfl) (ev_is (ev_op (ev_var rfl) ev_c rv_I0) (by show V.int (((1 + i : Nat) : Int) - 1) = V.int (i : Nat); congr 1; omega)) hb hl (by omega))) fun _ => et_B (ev_digAt (ev_var rfl) (ev_var rfl) hb hl (by omega))) (fun hh => ?_) fun hh => ?_
    · have e : sideM b = true := List.any_eq_true.mpr ⟨i, List.mem_range.mpr (by omega), hh⟩
      rw [e] at k
      exact go_ret ev_c fun H3 e3 => k H3 (eH.trans e3)
    · refine go_next fun H3 e3 => ⟨_, rfl, eH.trans e3, ?_⟩
      rw [List.range_succ, List.any_append, hall, List.any_cons, hh] <;> rfl
  · rintro σ' H' ⟨y1, rfl, eH, hall⟩
    have e0 : ((b.length : Int) - 1).toNat = b.length - 1 := by omega
    rw [e0] at hall
    have e : sideM b = false := hall
    rw [e] at k
    exact go_ret ev_c fun H3 e3 => k H3 (eH.trans e3)
def sp_is_pattern : Sp := fun vs H Q _ => ∃ b : Bytes, vs = [.str (S b)] ∧ Chk b ∧ b.length ≤ 1000 ∧ RetV (.bl (isPatM b)) H Q
theorem nopts_sub (b : Bytes) : (nopts b).length ≤ b.length ∧ ∀ c ∈ nopts b, c ∈ b := by
  have h1 : (headOff b).length ≤ b.length ∧ ∀ c ∈ headOff b, c ∈ b := by
    unfold headOff
    split
    · exact ⟨by rw [List.length_drop]; omega, fun c hc => List.mem_of_mem_drop hc⟩
    · exact ⟨Nat.le_refl _, fun c hc => hc⟩
  have h2 : (nopts b).length ≤ (headOff b).length ∧ ∀ c ∈ nopts b, c ∈ headOff b := by
    unfold nopts tailOff
    split
    · exact ⟨by rw [List.length_dropLast]; omega, fun c hc => List.dropLast_subset _ hc⟩
    · exact ⟨Nat.le_refl _, fun c hc => hc⟩
  exact ⟨Nat.le_trans h2.1 h1.1, fun c hc => h1.2 c (h2.2 c hc)⟩
theorem ok_is_pattern (T : TX K mg) : FnOk P w K mg base CX0 2 T.f_is_pattern T.d_is_pattern ["chunk"] (sp_is_pattern) := by
  refine T.F_is_pattern.ok sc_is_pattern (fun vs H Q E h => ?_) (fun cdv A outer s0 H vs Q E hr h => ?_)
  · obtain ⟨b, rfl, hb, hl, k⟩ := h
    rfl
  obtain ⟨b, rfl, hb, hl, k⟩ := h
  refine ⟨_, (pss_cons (ps_set (i := 1) (sc_is_pattern).nd rfl (Or.inl rfl) (pe_call (ok_without_points T) (hr.mono (by decide)) (by rfl) T.m_without_points T.F_without_points.kp T.b_without_points .nil pass0 (pa_cons (pv 0) pa_nil)))
    (pss_cons (ps_set (i := 2) (sc_is_pattern).nd rfl (Or.inl rfl) (pe_call (ok_without_digits T) (hr.mono (by decide)) (by rfl) T.m_without_digits T.F_without_digits.kp T.b_without_digits .nil pass0 (pa_cons (pv 1) pa_nil)))
    (pss_cons (ps_if (PW.pt (pw_or (pt_not (pt_val (pe_m0 PySem.F.slot_str_isalpha PySem.F.type_str_isalpha mt_isalpha (pv 2)))) (pw_or1 (pt_cmpR op_gt (pe_callB call_len_str (by rfl) T.n_len PySem.boot_len (pa_cons (pv 2) pa_nil)) (pe_glob (v := .int 6) (by rfl) T.c_MOST_PATTERN_LETTERS ⟨_, rfl⟩) (nomark _))))) (pss_one (ps_ret pe_bl)) pss_nil)
    (pss_cons (ps_if (PW.pt (pw_or (pt_cmpR op_eq (pe_callB call_len_str (by rfl) T.n_len PySem.boot_len (pa_cons (pv 2) pa_nil)) (pe_callB call_len_str (by rfl) T.n_len PySem.boot_len (pa_cons (pv 1) pa_nil)) (nomark _)) (pw_or1 (pt_cmpR op_in_sign pe_str (pv 1) (by rfl))))) (pss_one (ps_ret pe_bl)) pss_nil)
    (pss_one (ps_ret (pe_not (pe_call (ok_has_digits_side_by_side T) (hr.mono (by decide)) (by rfl) T.m_has_digits_side_by_side T.F_has_digits_side_by_side.kp T.b_has_digits_side_by_side .nil pass0 (pa_cons (pv 1) pa_nil))))))))), Go.at ?_⟩
  obtain ⟨hn, hns⟩ := nopts_sub b
  have hnc : Chk (nopts b) := fun c hc => hb c (hns c hc)
  have hdl : (nodig (nopts b)).length ≤ 1000 := Nat.le_trans (List.length_filter_le _ _) (by omega)
  have hdc : Chk (nodig (nopts b)) := fun c hc => hnc c (List.mem_filter.mp hc).1
  refine gq_asg (v := .str (S (nopts b))) (ev_callV (ea_cons (ev_var rfl) ea_nil) fun H1 e Q E k => ⟨b, rfl, hl, k⟩) ?_
  refine gq_asg (v := .str (S (nodig (nopts b)))) (ev_callV (ea_cons (ev_var rfl) ea_nil) fun H1 e Q E k => ⟨_, rfl, hnc, by omega, k⟩) ?_
  refine gq_when (et_or (et_not (et_B (ev_alpha (ev_var rfl) hdc))) fun _ => et_is (et_test (ev_op (ev_lenB (ev_var rfl) (by omega)) ev_c rv_I0)) (b := decide (6 < (nodig (nopts b)).length)) (decide_eq_decide.mpr (by omega))) (fun hh => ?_) fun hh => ?_
  · have e : isPatM b = false := by
      unfold isPatM
      have h2 : ((!(nodig (nopts b)).isEmpty && (nodig (nopts b)).all isLetter) && decide ((nodig (nopts b)).length ≤ 6)) = false := by
        cases h3 : (!(nodig (nopts b)).isEmpty && (nodig (nopts b)).all isLetter) with
        | false => rfl
        | true =>
          rw [h3] at hh
          have h4 : 6 < (nodig (nopts b)).length := by simpa using hh
          rw [decide_eq_false (by omega)] <;> rfl
      show (((!(nodig (nopts b)).isEmpty && (nodig (nopts b)).all isLetter) && decide ((nodig (nopts b)).length ≤ 6)) && _) = false
      rw [h2, Bool.false_and]
    rw [e] at k
    exact go_ret ev_c k
  · have h2 : ((!(nodig (nopts b)).isEmpty && (nodig (nopts b)).all isLetter) && decide ((nodig (nopts b)).length ≤ 6)) = true := by
      cases h3 : (!(nodig (nopts b)).isEmpty && (nodig (nopts b)).all isLetter) with
      | false =>
        rw [h3] at hh
        cases hh
      | true =>
        rw [h3] at hh
        have h4 : ¬ 6 < (nodig (nopts b)).length := by simpa using hh
        rw [decide_eq_true (by omega)] <;> rfl
    have e1 : isPatM b = (!((nodig (nopts b)).length == (nopts b).length || (nopts b).contains 48) && !sideM (nopts b)) := by
      show (((!(nodig (nopts b)).isEmpty && (nodig (nopts b)).all isLetter) && decide ((nodig (nopts b)).length ≤ 6)) && _) = _
      rw [h2, Bool.true_and]
    refine gq_when (et_or (et_is (et_test (ev_op (ev_lenB (ev_var rfl) (by omega)) (ev_lenB (ev_var rfl) (by omega)) (rv_eq rfl))) (b := ((nodig (nopts b)).length == (nopts b).length)) ?_) fun _ => et_is (et_test (ev_op ev_c (ev_var rfl) fun H1 e Q q => ⟨48, S (nopts b), ?_, rfl, q H1 (Ex.refl _)⟩)) (b := (nopts b).contains 48) ?_) (fun hh => ?_) fun hh => ?_
    · rw [dec_int, Bool.eq_iff_iff]
      simp
      omega
    · rw [S_lit48] <;> rfl
    · exact S_has 48 (nopts b)
    · have e : isPatM b = false := by
        rw [e1, hh] <;> rfl
      rw [e] at k
      exact go_ret ev_c k
    · have e : isPatM b = !sideM (nopts b) := by
        rw [e1, hh] <;> rfl
      rw [e] at k
      exact go_ret (ev_notV (ev_callV (ea_cons (ev_var rfl) ea_nil) fun H1 e Q E k => ⟨_, rfl, hnc, by omega, k⟩)) k
end
end LP
namespace LP
open PySem PySem.Spec PyProof.Rows L2 Evl
open VahypBase (Bytes isLetter isDigit inChunk isBlank)
/-! ## tokens -/
abbrev bV (b : Bytes) : List V := b.map fun c => V.int ((c.toNat : Nat) : Int)
abbrev MTok := Bytes × Nat
def signB (c : UInt8) : Bytes := if inChunk c = true then [c] else []
def remM (b : Bytes) (p : Nat) : Nat := p + ((b.drop p).takeWhile (· != 10)).length
def skipF : Nat → Bytes → Nat → Nat
  | 0, _, p => p
  | f + 1, b, p => match b[p]? with
    | none => p
    | some c => if isBlank c = true then skipF f b (p + 1) else if c = 35 then skipF f b (remM b p) else p
def skipM (b : Bytes) (p : Nat) : Nat := skipF (b.length - p) b p
def chunkM (b : Bytes) (p : Nat) : Bytes := (b.drop p).takeWhile inChunk
def tokM (b : Bytes) (p : Nat) : MTok := match b[p]? with
  | none => ([], p)
  | some c => if c = 59 then ([59], p) else if ((chunkM b p).isEmpty || decide (40 < (chunkM b p).length)) = true then ([63], p) else (chunkM b p, p)
def isLast (t : MTok) : Bool := t.1 == [] || t.1 == [63]
def nextT (b : Bytes) (t : MTok) : MTok := tokM b (skipM b (t.2 + t.1.length))
def toksF : Nat → Bytes → MTok → List MTok
  | 0, _, t => [t]
  | f + 1, b, t => if isLast t = true then [t] else t :: toksF f b (nextT b t)
def toksM (b : Bytes) : List MTok := toksF (b.length + 1) b (tokM b (skipM b 0))
theorem tw_at {f : UInt8 → Bool} : ∀ (l : Bytes) (i : Nat), i < (l.takeWhile f).length → l[i]? = (l.takeWhile f)[i]? ∧ ∃ c, l[i]? = some c ∧ f c = true
  | [], i, h => by simp at h
  | x :: r, i, h => by
    by_cases c : f x = true
    · rw [List.takeWhile_cons_of_pos c] at h ⊢
      cases i with
      | zero => exact ⟨rfl, x, rfl, c⟩
      | succ i => exact tw_at r i (by simpa using h)
    · rw [List.takeWhile_cons_of_neg c] at h
      simp at h
theorem tw_end {f : UInt8 → Bool} : ∀ (l : Bytes) c, l[(l.takeWhile f).length]? = some c → f c = false
  | [], c, h => by simp at h
  | x :: r, c, h => by
    by_cases g : f x = true
    · rw [List.takeWhile_cons_of_pos g] at h
      exact tw_end r c (by simpa using h)
    · rw [List.takeWhile_cons_of_neg g] at h
      have e : x = c := by simpa using h
      rw [← e]
      exact Bool.eq_false_iff.mpr g
theorem tw_le {f : UInt8 → Bool} (l : Bytes) : (l.takeWhile f).length ≤ l.length := by
  induction l with
  | nil => exact Nat.le_refl _
  | cons x r ih =>
    by_cases g : f x = true
    · rw [List.takeWhile_cons_of_pos g]
      exact Nat.succ_le_succ ih
    · rw [List.takeWhile_cons_of_neg g]
      exact Nat.zero_le _
theorem tw_all {f : UInt8 → Bool} (l : Bytes) : ∀ c ∈ l.takeWhile f, f c = true := fun c hc => by
  obtain ⟨i, hi⟩ := List.getElem?_of_mem hc
  obtain ⟨h1, d, h2, h3⟩ := tw_at l i (List.getElem?_eq_some_iff.mp hi).1
  have e : d = c := by
    rw [h1, hi] at h2
    exact (Option.some.inj h2).symm
  rw [← e]
  exact h3
theorem drop_at {b : Bytes} {p i : Nat} : (b.drop p)[i]? = b[p + i]? := by rw [List.getElem?_drop]
theorem drop_cons {b : Bytes} {p : Nat} {c : UInt8} (h : b[p]? = some c) : b.drop p = c :: b.drop (p + 1) := by
  obtain ⟨h1, e⟩ := List.getElem?_eq_some_iff.mp h
  rw [List.drop_eq_getElem_cons h1, e]
theorem remM_stop {b : Bytes} {p : Nat} (h : b[p]? = none ∨ b[p]? = some 10) : remM b p = p := by
  unfold remM
  rcases h with h | h
  · rw [List.drop_of_length_le (List.getElem?_eq_none_iff.mp h)] <;> rfl
  · rw [drop_cons h, List.takeWhile_cons_of_neg (by decide)] <;> rfl
theorem remM_go {b : Bytes} {p : Nat} {c : UInt8} (h : b[p]? = some c) (hc : c ≠ 10) : remM b p = remM b (p + 1) := by
  unfold remM
  rw [drop_cons h, List.takeWhile_cons_of_pos (by simpa using hc), List.length_cons]
  omega
theorem remM_le {b : Bytes} {p : Nat} (h : p ≤ b.length) : remM b p ≤ b.length := by
  unfold remM
  have := tw_le (f := (· != 10)) (b.drop p)
  rw [List.length_drop] at this
  omega
theorem skipF_le : ∀ (f : Nat) (b : Bytes) (p : Nat), p ≤ b.length → p ≤ skipF f b p ∧ skipF f b p ≤ b.length
  | 0, b, p, h => ⟨Nat.le_refl _, h⟩
  | f + 1, b, p, h => by
    unfold skipF
    cases e : b[p]? with
    | none => exact ⟨Nat.le_refl _, h⟩
    | some c =>
      have hp := (List.getElem?_eq_some_iff.mp e).1
      show p ≤ (if isBlank c = true then skipF f b (p + 1) else if c = 35 then skipF f b (remM b p) else p) ∧ (if isBlank c = true then skipF f b (p + 1) else if c = 35 then skipF f b (remM b p) else p) ≤ b.length
      split
      · have := skipF_le f b (p + 1) hp
        omega
      · split
        · have h1 := remM_le (b := b) h
          have h2 : p ≤ remM b p := Nat.le_add_right _ _
          have := skipF_le f b (remM b p) h1
          omega
        · exact ⟨Nat.le_refl _, h⟩
theorem skipM_le {b : Bytes} {p : Nat} (h : p ≤ b.length) : p ≤ skipM b p ∧ skipM b p ≤ b.length := skipF_le _ b p h
/-- a token, as it comes -/
structure TokOk (b : Bytes) (t : MTok) : Prop where
  place : t.2 ≤ b.length
  len : t.1.length ≤ 40
  room : isLast t = false → t.2 + t.1.length ≤ b.length ∧ 1 ≤ t.1.length
  chk : isLast t = false → t.1 ≠ [59] → Chk t.1
theorem tokM_place (b : Bytes) (p : Nat) : (tokM b p).2 = p := by
  unfold tokM
  split
  · rfl
  · split
    · rfl
    · split <;> rfl
theorem tokM_ok {b : Bytes} {p : Nat} (h : p ≤ b.length) : TokOk b (tokM b p) := by
  unfold tokM
  cases e : b[p]? with
  | none => exact ⟨h, by show 0 ≤ 40; decide, fun z => (by cases z), fun z => (by cases z)⟩
  | some c =>
    have hp := (List.getElem?_eq_some_iff.mp e).1
    show TokOk b (if c = 59 then ([59], p) else if ((chunkM b p).isEmpty || decide (40 < (chunkM b p).length)) = true then ([63], p) else (chunkM b p, p))
    split
    · exact ⟨h, by show 1 ≤ 40; decide, fun _ => ⟨by show p + 1 ≤ _; omega, by show 1 ≤ 1; decide⟩, fun _ z => absurd rfl z⟩
    · split
      · exact ⟨h, by show 1 ≤ 40; decide, fun z => (by cases z), fun z => (by cases z)⟩
      · rename_i h2
        have hl := tw_le (f := inChunk) (b.drop p)
        rw [List.length_drop] at hl
        have h3 : ¬ 40 < (chunkM b p).length := fun z => h2 (by rw [decide_eq_true z, Bool.or_true])
        refine ⟨h, by show (chunkM b p).length ≤ 40; omega, fun _ => ⟨?_, ?_⟩, fun _ _ c hc => tw_all _ c hc⟩
        · show p + (chunkM b p).length ≤ _
          unfold chunkM
          omega
        · show 1 ≤ (chunkM b p).length
          cases hcw : chunkM b p with
          | nil =>
            rw [hcw] at h2
            exact absurd rfl h2
          | cons x r => exact Nat.succ_le_succ (Nat.zero_le _)
theorem nextT_ok {b : Bytes} {t : MTok} (h : TokOk b t) (hl : isLast t = false) : TokOk b (nextT b t) ∧ t.2 < (nextT b t).2 := by
  obtain ⟨h1, h2⟩ := h.room hl
  obtain ⟨h3, h4⟩ := skipM_le h1
  refine ⟨tokM_ok h4, ?_⟩
  unfold nextT
  rw [tokM_place]
  omega
section
variable {P : Program} {w : World} {K : PySem.W.Frag} {mg : Str → Option Value} {base : Heap} {H H' : Hp}
def TkAt (T : TX K mg) (H : Hp) (a : Addr) (t : MTok) : Prop := I_Token T H a (.str (S t.1)) (.int (t.2 : Nat))
theorem TkAt.mono {T : TX K mg} {a : Addr} {t : MTok} (e : Ex H H') (h : TkAt T H a t) : TkAt T H' a t := I_Token.mono e h
def sp_Token_is_chunk (T : TX K mg) : Sp := fun vs H Q _ => ∃ (a : Addr) (t : MTok), vs = [.ref a] ∧ TkAt T H a t ∧ RetV (.bl (!(t.1 == [59] || isLast t))) H Q
theorem ok_Token_is_chunk (T : TX K mg) : FnOk P w K mg base CX0 1 T.f_Token_is_chunk T.d_Token_is_chunk ["self"] (sp_Token_is_chunk T) := by
  refine T.F_Token_is_chunk.ok sc_Token_is_chunk (fun vs H Q E h => ?_) (fun cdv A outer s0 H vs Q E hr h => ?_)
  · obtain ⟨a, t, rfl, hT, k⟩ := h
    rfl
  obtain ⟨a, t, rfl, hT, k⟩ := h
  refine ⟨_, (pss_one (ps_ret (pe_cmpR op_notIn_seq (pe_fld (pv 0) rfl) (pe_tup (pa_cons (pe_glob (v := .str ";") (by rfl) T.c_SIGN ⟨_, rfl⟩) (pa_cons (pe_glob (v := .str "") (by rfl) T.c_END ⟨_, rfl⟩) (pa_cons (pe_glob (v := .str "?") (by rfl) T.c_NO_TOKEN ⟨_, rfl⟩) pa_nil)))) (by rfl)))), Go.at ?_⟩
  refine go_ret ?_ k
  refine ev_is (ev_niU (xs := [.str ";", .str "", .str "?"]) (ev_fld (ev_var rfl) hT.text) (eu_tup (ea_cons ev_c (ea_cons ev_c (ea_cons ev_c ea_nil))) (by show 3 ≤ 100000; decide)) rfl rfl) ?_
  rw [S_lit59, S_lit0, S_lit63]
  have h : ∀ x : Bytes, eqV (.str (S x)) (.str (S t.1)) = (t.1 == x) := fun x => by
    show (S x == S t.1) = (t.1 == x)
    rw [Bool.eq_iff_iff, beq_iff_eq, beq_iff_eq]
    exact ⟨fun z => (S_inj z).symm, fun z => by rw [z]⟩
  show V.bl (!(eqV _ _ || (eqV _ _ || (eqV _ _ || false)))) = _
  rw [h, h, h, Bool.or_false] <;> rfl
def sp_is_blank : Sp := fun vs H Q _ => ∃ c : UInt8, vs = [.int (c.toNat : Nat)] ∧ RetV (.bl (isBlank c)) H Q
theorem byte_eq (c : UInt8) (n : Nat) (hn : n < 256) : decide (V.int ((c.toNat : Nat) : Int) = V.int (n : Nat)) = (c == UInt8.ofNat n) := by
  rw [dec_int, Bool.eq_iff_iff, beq_iff_eq, beq_iff_eq]
  constructor
  · intro h
    have h1 : c.toNat = n := by omega
    rw [← h1, UInt8.ofNat_toNat]
  · intro h
    rw [h, UInt8.toNat_ofNat_of_lt' hn]
theorem ok_is_blank (T : TX K mg) : FnOk P w K mg base CX0 1 T.f_is_blank T.d_is_blank ["byte"] (sp_is_blank) := by
  refine T.F_is_blank.ok sc_is_blank (fun vs H Q E h => ?_) (fun cdv A outer s0 H vs Q E hr h => ?_)
  · obtain ⟨c, rfl, k⟩ := h
    rfl
  obtain ⟨c, rfl, k⟩ := h
  refine ⟨_, (pss_one (ps_ret (pe_or (pe_cmpR op_eq (pv 0) pe_int (nomark _)) (pe_or (pe_cmpR op_eq (pv 0) pe_int (nomark _)) (pe_one (pe_cmpR op_eq (pv 0) pe_int (nomark _))))))), Go.at ?_⟩
  refine go_ret ?_ k
  exact ev_orV (ev_is (ev_op (ev_var rfl) ev_c (rv_eq rfl)) (congrArg V.bl (byte_eq c 32 (by decide)))) fun _ => ev_orV (ev_is (ev_op (ev_var rfl) ev_c (rv_eq rfl)) (congrArg V.bl (byte_eq c 9 (by decide)))) fun _ => ev_is (ev_op (ev_var rfl) ev_c (rv_eq rfl)) (congrArg V.bl (byte_eq c 10 (by decide)))
def sp_chunk_sign : Sp := fun vs H Q _ => ∃ c : UInt8, vs = [.int (c.toNat : Nat)] ∧ RetV (.str (S (signB c))) H Q
theorem letters_at : ∀ n : Nat, n < 123 → 97 ≤ n → atI ("abcdefghijklmnopqrstuvwxyz" : Str).cps.toList ((n : Int) - 97) = some n := by decide +kernel
theorem digits_at : ∀ n : Nat, n < 58 → 48 ≤ n → atI ("0123456789" : Str).cps.toList ((n : Int) - 48) = some n := by decide +kernel
theorem ok_chunk_sign (T : TX K mg) : FnOk P w K mg base CX0 1 T.f_chunk_sign T.d_chunk_sign ["byte"] (sp_chunk_sign) := by
  refine T.F_chunk_sign.ok sc_chunk_sign (fun vs H Q E h => ?_) (fun cdv A outer s0 H vs Q E hr h => ?_)
  · obtain ⟨c, rfl, k⟩ := h
    rfl
  obtain ⟨c, rfl, k⟩ := h
  refine ⟨_, (pss_cons (ps_if (PW.pt (pw_and (pt_cmpR op_ge (pv 0) pe_int (nomark _)) (pw_and1 (pt_cmpR op_le (pv 0) pe_int (nomark _))))) (pss_one (ps_ret (pe_ix ix_str (pe_glob (v := .str "abcdefghijklmnopqrstuvwxyz") (by rfl) T.c_LETTERS ⟨_, rfl⟩) (pe_op op_sub (pv 0) pe_int) (fun _ _ => rfl)))) pss_nil)
    (pss_cons (ps_if (PW.pt (pw_and (pt_cmpR op_ge (pv 0) pe_int (nomark _)) (pw_and1 (pt_cmpR op_le (pv 0) pe_int (nomark _))))) (pss_one (ps_ret (pe_ix ix_str (pe_glob (v := .str "0123456789") (by rfl) T.c_DIGITS ⟨_, rfl⟩) (pe_op op_sub (pv 0) pe_int) (fun _ _ => rfl)))) pss_nil)
    (pss_cons (ps_if (pt_cmpR op_eq (pv 0) pe_int (nomark _)) (pss_one (ps_ret pe_str)) pss_nil)
    (pss_cons (ps_if (pt_cmpR op_eq (pv 0) pe_int (nomark _)) (pss_one (ps_ret pe_str)) pss_nil)
    (pss_one (ps_ret pe_str)))))), Go.at ?_⟩
  refine gq_when (b := isLetter c) (et_is (et_and (et_test (ev_op (ev_var rfl) ev_c rv_I0)) fun _ => et_test (ev_op (ev_var rfl) ev_c rv_I0)) ?_) (fun hb => ?_) fun hb => ?_
  · unfold isLetter
    rw [Bool.eq_iff_iff, Bool.and_eq_true, decide_eq_true_eq, decide_eq_true_eq, decide_eq_true_eq]
    omega
  · have h1 : 97 ≤ c.toNat ∧ c.toNat ≤ 122 := of_decide_eq_true hb
    have e : signB c = [c] := if_pos (by unfold inChunk; rw [hb] <;> rfl)
    rw [e] at k
    exact go_ret (v := .str (S [c])) (ev_op ev_c (ev_op (ev_var rfl) ev_c rv_I0) (rv_ixS (by decide +kernel) (letters_at c.toNat (by omega) h1.1))) k
  refine gq_when (b := isDigit c) (et_is (et_and (et_test (ev_op (ev_var rfl) ev_c rv_I0)) fun _ => et_test (ev_op (ev_var rfl) ev_c rv_I0)) ?_) (fun hd => ?_) fun hd => ?_
  · unfold isDigit
    rw [Bool.eq_iff_iff, Bool.and_eq_true, decide_eq_true_eq, decide_eq_true_eq, decide_eq_true_eq]
    omega
  · have h1 : 48 ≤ c.toNat ∧ c.toNat ≤ 57 := of_decide_eq_true hd
    have e : signB c = [c] := if_pos (by unfold inChunk; rw [hb, hd] <;> rfl)
    rw [e] at k
    exact go_ret (v := .str (S [c])) (ev_op ev_c (ev_op (ev_var rfl) ev_c rv_I0) (rv_ixS (by decide +kernel) (digits_at c.toNat (by omega) h1.1))) k
  refine gq_when (et_is (et_test (ev_op (ev_var rfl) ev_c (rv_eq rfl))) (byte_eq c 45 (by decide))) (fun h45 => ?_) fun h45 => ?_
  · have hc : c = 45 := eq_of_beq h45
    rw [hc] at k
    rw [show signB 45 = [45] by decide] at k
    exact go_ret (ev_is ev_c (by rw [S_lit45])) k
  refine gq_when (et_is (et_test (ev_op (ev_var rfl) ev_c (rv_eq rfl))) (byte_eq c 46 (by decide))) (fun h46 => ?_) fun h46 => ?_
  · have hc : c = 46 := eq_of_beq h46
    rw [hc] at k
    rw [show signB 46 = [46] by decide] at k
    exact go_ret (ev_is ev_c (by rw [S_lit46])) k
  · have e : signB c = [] := if_neg (by
      unfold inChunk
      have g45 : (c == (45 : UInt8)) = false := h45
      have g46 : (c == (46 : UInt8)) = false := h46
      rw [hb, hd, g45, g46]
      decide)
    rw [e] at k
    exact go_ret (ev_is ev_c (by rw [S_lit0])) k
theorem ev_byte {σ : L2.St} {ta tb : TE} {l : Addr} {b : Bytes} {p : Nat} {c : UInt8} (h : Ev ta σ H (.ref l)) (hi : Ev tb σ H (.int (p : Nat))) (hl : H l = some (.lst (bV b))) (hp : b[p]? = some c) : Ev (tOp (rIxL K) ta tb) σ H (.int (c.toNat : Nat)) :=
  ev_op h hi (rv_ixL (sq_of hl) (atI_nat (by rw [List.getElem?_map, hp] <;> rfl)))
theorem et_room {σ : L2.St} {l : Addr} {b : Bytes} {p : Nat} {i j : Nat} (hi : σ[i]? = some (some (.int (p : Nat)))) (hj : σ[j]? = some (some (.ref l))) (hl : H l = some (.lst (bV b))) : EvT (tTest (tOp (rI0 fun i j => .bl (decide (i < j))) (tVar i) (tCB (fun xs H Q => ∃ p ys, xs = [.ref p] ∧ (SqL K H p ys ∨ SqT K H p ys) ∧ Q (.int ys.length) H) (tCons (tVar j) tNil)))) σ H (decide (p < b.length)) :=
  et_is (et_test (ev_op (ev_var hi) (ev_lenS (ev_var hj) hl) rv_I0)) (decide_eq_decide.mpr (by rw [List.length_map]; omega))
def sp_remark_end : Sp := fun vs H Q _ => ∃ (l : Addr) (b : Bytes) (p : Nat), vs = [.ref l, .int (p : Nat)] ∧ H l = some (.lst (bV b)) ∧ p ≤ b.length ∧ RetV (.int (remM b p : Nat)) H Q
theorem ok_remark_end (T : TX K mg) : FnOk P w K mg base CX0 1 T.f_remark_end T.d_remark_end ["text", "place"] (sp_remark_end) := by
  refine T.F_remark_end.ok sc_remark_end (fun vs H Q E h => ?_) (fun cdv A outer s0 H vs Q E hr h => ?_)
  · obtain ⟨l, b, p, rfl, hl, hp, k⟩ := h
    rfl
  obtain ⟨l, b, p, rfl, hl, hp, k⟩ := h
  refine ⟨_, (pss_cons (ps_while PassesOwn.never (PW.pt (pw_and (pt_cmpR op_lt (pv 1) (pe_callB call_len_seq (by rfl) T.n_len PySem.boot_len (pa_cons (pv 0) pa_nil)) (nomark _)) (pw_and1 (pt_cmpR op_ne (pe_ix ix_list (pv 0) (pv 1) (fun _ _ => rfl)) pe_int (nomark _))))) (pss_one (ps_aug (i := 1) (sc_remark_end).nd rfl (Or.inl rfl) pe_int ip_add)))
    (pss_one (ps_ret (pv 1)))), Go.at ?_⟩
  refine gq_while (fun m σ' H' => ∃ q, σ' = [some (.ref l), some (.int (q : Nat))] ∧ Ex H H' ∧ q + m = b.length ∧ remM b q = remM b p) (b.length - p) (fun H1 e1 => ⟨p, rfl, e1, by omega, rfl⟩) ?_
  rintro m σ' H' ⟨q, rfl, eH, hq, hr⟩
  have hl' := eH _ _ hl
  cases hc : b[q]? with
  | none =>
    have hge := List.getElem?_eq_none_iff.mp hc
    refine ⟨false, et_is (et_and (b := false) (et_room rfl rfl hl') fun z => absurd (of_decide_eq_true z) (by omega)) (by rw [decide_eq_false (by omega)] <;> rfl), (fun z => by cases z), fun _ => ?_⟩
    rw [← hr, remM_stop (.inl hc)] at k
    exact go_ret (ev_var rfl) fun H1 e1 => k H1 (eH.trans e1)
  | some c =>
    have hlt := (List.getElem?_eq_some_iff.mp hc).1
    refine ⟨!(c == 10), et_is (et_and (b := !(c == 10)) (et_room rfl rfl hl') fun _ => et_is (et_test (ev_op (ev_byte (ev_var rfl) (ev_var rfl) hl' hc) ev_c (rv_ne rfl))) (congrArg (!·) (byte_eq c 10 (by decide)))) (by rw [decide_eq_true hlt, Bool.true_and]), fun hb => ?_, fun hb => ?_⟩
    · have hne : c ≠ 10 := fun z => by
        rw [z] at hb
        cases hb
      refine go_aug rfl ev_c fun H1 e1 => ⟨m - 1, by omega, q + 1, rfl, eH.trans e1, by omega, ?_⟩
      rw [← hr, remM_go hc hne]
    · have hceq : c = 10 := by simpa using hb
      rw [hceq] at hc
      rw [← hr, remM_stop (.inr hc)] at k
      exact go_ret (ev_var rfl) fun H1 e1 => k H1 (eH.trans e1)
def sp_skip_blanks : Sp := fun vs H Q _ => ∃ (l : Addr) (b : Bytes) (p : Nat), vs = [.ref l, .int (p : Nat)] ∧ H l = some (.lst (bV b)) ∧ p ≤ b.length ∧ RetV (.int (skipM b p : Nat)) H Q
theorem ok_skip_blanks (T : TX K mg) : FnOk P w K mg base CX0 2 T.f_skip_blanks T.d_skip_blanks ["text", "place"] (sp_skip_blanks) := by
  refine T.F_skip_blanks.ok sc_skip_blanks (fun vs H Q E h => ?_) (fun cdv A outer s0 H vs Q E hr h => ?_)
  · obtain ⟨l, b, p, rfl, hl, hp, k⟩ := h
    rfl
  obtain ⟨l, b, p, rfl, hl, hp, k⟩ := h
  refine ⟨_, (pss_cons (ps_while PassesOwn.never (pt_cmpR op_lt (pv 1) (pe_callB call_len_seq (by rfl) T.n_len PySem.boot_len (pa_cons (pv 0) pa_nil)) (nomark _)) (pss_one (ps_if (pt_val (pe_call (ok_is_blank T) (hr.mono (by decide)) (by rfl) T.m_is_blank T.F_is_blank.kp T.b_is_blank .nil pass0 (pa_cons (pe_ix ix_list (pv 0) (pv 1) (fun _ _ => rfl)) pa_nil))) (pss_one (ps_aug (i := 1) (sc_skip_blanks).nd rfl (Or.inl rfl) pe_int ip_add)) (pss_one (ps_if (pt_cmpR op_eq (pe_ix ix_list (pv 0) (pv 1) (fun _ _ => rfl)) pe_int (nomark _)) (pss_one (ps_set (i := 1) (sc_skip_blanks).nd rfl (Or.inl rfl) (pe_call (ok_remark_end T) (hr.mono (by decide)) (by rfl) T.m_remark_end T.F_remark_end.kp T.b_remark_end .nil pass0 (pa_cons (pv 0) (pa_cons (pv 1) pa_nil))))) (pss_one (ps_ret (pv 1))))))))
    (pss_one (ps_ret (pv 1)))), Go.at ?_⟩
  refine gq_while (fun m σ' H' => ∃ q, σ' = [some (.ref l), some (.int (q : Nat))] ∧ Ex H H' ∧ q ≤ b.length ∧ b.length ≤ q + m ∧ skipF m b q = skipM b p) (b.length - p) (fun H1 e1 => ⟨p, rfl, e1, hp, by omega, rfl⟩) ?_
  rintro m σ' H' ⟨q, rfl, eH, hq, hm, hr⟩
  have hl' := eH _ _ hl
  refine ⟨decide (q < b.length), et_room rfl rfl hl', fun hb => ?_, fun hb => ?_⟩
  · have hlt : q < b.length := of_decide_eq_true hb
    obtain ⟨c, hc⟩ : ∃ c, b[q]? = some c := ⟨_, List.getElem?_eq_getElem hlt⟩
    obtain ⟨m, rfl⟩ : ∃ m', m = m' + 1 := ⟨m - 1, by omega⟩
    have hstep : skipF (m + 1) b q = (if isBlank c = true then skipF m b (q + 1) else if c = 35 then skipF m b (remM b q) else q) := by
      show (match b[q]? with | none => q | some c => if isBlank c = true then skipF m b (q + 1) else if c = 35 then skipF m b (remM b q) else q) = _
      rw [hc]
    refine go_if (b := isBlank c) (et_B (ev_callV (ea_cons (ev_byte (ev_var rfl) (ev_var rfl) hl' hc) ea_nil) fun H1 e Q E k => ⟨c, rfl, k⟩)) (fun hbl => ?_) fun hbl => ?_
    · rw [if_pos hbl] at hstep
      exact go_aug rfl ev_c fun H1 e1 => ⟨m, by omega, q + 1, rfl, eH.trans e1, by omega, by omega, by rw [← hstep, hr]⟩
    · rw [if_neg (by rw [hbl]; decide)] at hstep
      refine go_if (et_is (et_test (ev_op (ev_byte (ev_var rfl) (ev_var rfl) hl' hc) ev_c (rv_eq rfl))) (byte_eq c 35 (by decide))) (fun h35 => ?_) fun h35 => ?_
      · have hc35 : c = 35 := eq_of_beq h35
        rw [if_pos hc35] at hstep
        have h1 := remM_le (b := b) (p := q) hq
        have h2 : q < remM b q := by
          rw [remM_go hc (by rw [hc35]; decide)]
          exact Nat.lt_of_lt_of_le (Nat.lt_succ_self q) (Nat.le_add_right _ _)
        exact go_asg (v := .int (remM b q : Nat)) (ev_callV (ea_cons (ev_var rfl) (ea_cons (ev_var rfl) ea_nil)) fun H1 e Q E k => ⟨l, b, q, rfl, e _ _ hl', hq, k⟩) fun H1 e1 => ⟨m, by omega, remM b q, rfl, eH.trans e1, h1, by omega, by rw [← hstep, hr]⟩
      · have hc35 : ¬ c = 35 := fun z => by
          rw [z] at h35
          cases h35
        rw [if_neg hc35] at hstep
        rw [← hr, hstep] at k
        exact go_ret (ev_var rfl) fun H1 e1 => k H1 (eH.trans e1)
  · have hge : ¬ q < b.length := of_decide_eq_false hb
    have e : skipF m b q = q := by
      cases m with
      | zero => rfl
      | succ m =>
        show (match b[q]? with | none => q | some c => _) = q
        rw [List.getElem?_eq_none (by omega)]
    rw [← hr, e] at k
    exact go_ret (ev_var rfl) fun H1 e1 => k H1 (eH.trans e1)
theorem ev_joinV {σ : L2.St} {ta tb : TE} {l : List Bytes} {p : Addr} (h : Ev ta σ H (.str "")) (hb : Ev tb σ H (.ref p)) (hp : H p = some (.lst (l.map fun p => V.str (S p)))) (hz : (l.map fun p => p.length).sum ≤ 16777216) : Ev (tM1 (fun x xs H Q => ∃ a p, ∃ ys : List Str, x = .str a ∧ xs = [.ref p] ∧ (SqL K H p (ys.map V.str) ∨ SqT K H p (ys.map V.str)) ∧ (ys.map (·.length)).sum + ys.length * a.length ≤ 16777216 ∧ Q (.str (Txt.join a ys)) H) ta tb) σ H (.str (S l.flatten)) := fun H1 e Q q =>
  h H1 e _ fun H2 e2 => ⟨⟨_, rfl⟩, hb H2 (e.trans e2) _ fun H3 e3 => ⟨"", p, l.map S, rfl, rfl, .inl (sq_of (by rw [List.map_map]; exact e3 _ _ (e2 _ _ (e _ _ hp)))), by
    have e0 : ("" : Str).length = 0 := by decide +kernel
    have e1 : ((l.map S).map (·.length)) = l.map fun p => p.length := by
      rw [List.map_map]
      exact List.map_congr_left fun p _ => S_len p
    rw [e0, Nat.mul_zero, Nat.add_zero, e1]
    exact hz, by
    rw [S_join]
    exact q H3 (e2.trans e3)⟩⟩
def sp_chunk_at : Sp := fun vs H Q _ => ∃ (l : Addr) (b : Bytes) (p : Nat), vs = [.ref l, .int (p : Nat)] ∧ H l = some (.lst (bV b)) ∧ p ≤ b.length ∧ b.length ≤ 50000 ∧ RetV (.str (S (chunkM b p))) H Q
theorem ok_chunk_at (T : TX K mg) : FnOk P w K mg base CX0 2 T.f_chunk_at T.d_chunk_at ["text", "place"] (sp_chunk_at) := by
  refine T.F_chunk_at.ok sc_chunk_at (fun vs H Q E h => ?_) (fun cdv A outer s0 H vs Q E hr h => ?_)
  · obtain ⟨l, b, p, rfl, hl, hp, hbl, k⟩ := h
    rfl
  obtain ⟨l, b, p, rfl, hl, hp, hbl, k⟩ := h
  refine ⟨_, (pss_cons (ps_set (i := 2) (sc_chunk_at).nd rfl (Or.inl rfl) (pe_lst pa_nil))
    (pss_cons (ps_while PassesOwn.never (PW.pt (pw_and (pt_cmpR op_lt (pv 1) (pe_callB call_len_seq (by rfl) T.n_len PySem.boot_len (pa_cons (pv 0) pa_nil)) (nomark _)) (pw_and1 (pt_cmpR op_ne (pe_call (ok_chunk_sign T) (hr.mono (by decide)) (by rfl) T.m_chunk_sign T.F_chunk_sign.kp T.b_chunk_sign .nil pass0 (pa_cons (pe_ix ix_list (pv 0) (pv 1) (fun _ _ => rfl)) pa_nil)) pe_str (nomark _))))) (pss_cons (ps_expr (pe_bm PySem.F.plainAttrs_list PySem.F.slot_list_append PySem.F.type_list_append mt_append (pv 2) (pa_cons (pe_call (ok_chunk_sign T) (hr.mono (by decide)) (by rfl) T.m_chunk_sign T.F_chunk_sign.kp T.b_chunk_sign .nil pass0 (pa_cons (pe_ix ix_list (pv 0) (pv 1) (fun _ _ => rfl)) pa_nil)) pa_nil)))
    (pss_one (ps_aug (i := 1) (sc_chunk_at).nd rfl (Or.inl rfl) pe_int ip_add))))
    (pss_one (ps_ret (pe_join pe_str (pv 2)))))), Go.at ?_⟩
  refine gq_asgL (el_lst ea_nil (by decide)) fun lg H1 ng e1 hlg => ?_
  let cw := chunkM b p
  have hcl : cw.length ≤ b.length - p := by
    have := tw_le (f := inChunk) (b.drop p)
    rw [List.length_drop] at this
    exact this
  have sgn : ∀ (H' : Hp) (σ : L2.St) (q : Nat) (c : UInt8), σ[0]? = some (some (.ref l)) → σ[1]? = some (some (.int (q : Nat))) → Ex H H' → b[q]? = some c → Ev (tCall sp_chunk_sign [] E0 (tCons (tOp (rIxL K) (tVar 0) (tVar 1)) tNil)) σ H' (.str (S (signB c))) := fun H' σ q c h0 h1 eH hc => ev_callV (ea_cons (ev_byte (ev_var h0) (ev_var h1) (eH _ _ hl) hc) ea_nil) fun H1 e Q E k => ⟨c, rfl, k⟩
  refine gq_while (fun m σ' H' => ∃ i, σ' = [some (.ref l), some (.int ((p + i : Nat) : Int)), some (.ref lg)] ∧ Ex H H' ∧ i + m = cw.length ∧ H' lg = some (.lst ((cw.take i).map fun c => V.str (S [c])))) cw.length (fun H2 e2 => ⟨0, rfl, e1.trans e2, by omega, e2 _ _ hlg⟩) ?_
  rintro m σ' H' ⟨i, rfl, eH, hi, hL⟩
  have hl' := eH _ _ hl
  by_cases hlt : i < cw.length
  · obtain ⟨h1, c, hc, hcc⟩ := tw_at (f := inChunk) (b.drop p) i hlt
    rw [drop_at] at hc
    have hbt := (List.getElem?_eq_some_iff.mp hc).1
    have hcwi : cw[i]? = some c := by
      rw [drop_at] at h1
      exact h1.symm.trans hc
    have hs : signB c = [c] := if_pos hcc
    refine ⟨true, et_is (et_and (b := true) (et_room rfl rfl hl') fun _ => et_is (et_test (ev_op (sgn _ _ _ c rfl rfl eH hc) ev_c (rv_ne rfl))) (by rw [hs, S_lit0, S_eq] <;> rfl)) (by rw [decide_eq_true hbt] <;> rfl), fun _ => ?_, fun z => by cases z⟩
    refine gq_app hL (ev_var rfl) (v := .str (S [c])) (ev_is (sgn _ _ _ c rfl rfl eH hc) (by rw [hs])) (by rw [List.length_map, List.length_take]; omega) fun H2 e2 => ?_
    refine go_aug rfl ev_c fun H3 e3 => ⟨m - 1, by omega, i + 1, ?_, (Ex.mut (eH.trans e2) ng).trans e3, by omega, ?_⟩
    · show [some (V.ref l), some (V.int (((p + i : Nat) : Int) + 1)), some (V.ref lg)] = _
      have : ((p + i : Nat) : Int) + 1 = ((p + (i + 1) : Nat) : Int) := by omega
      rw [this]
    · rw [take_next hcwi, List.map_append]
      exact e3 _ _ upd_same
  · have ei : i = cw.length := by omega
    have etake : cw.take i = cw := List.take_of_length_le (by omega)
    have hfin : Go (tRet (tM1 (fun x xs H Q => ∃ a p, ∃ ys : List Str, x = .str a ∧ xs = [.ref p] ∧ (SqL K H p (ys.map V.str) ∨ SqT K H p (ys.map V.str)) ∧ (ys.map (·.length)).sum + ys.length * a.length ≤ 16777216 ∧ Q (.str (Txt.join a ys)) H) (tC (.str "")) (tVar 2))) { nx := fun _ H' => Q .non H', rt := Q } [some (.ref l), some (.int ((p + i : Nat) : Int)), some (.ref lg)] H' := by
      rw [etake] at hL
      exact go_ret (v := .str (S cw)) (ev_is (ev_joinV (l := cw.map fun c => [c]) ev_c (ev_var rfl) (by rw [List.map_map]; exact hL) (by rw [sum_ones]; omega)) (by rw [flat_one])) fun H2 e2 => k H2 (eH.trans e2)
    cases hc : b[p + i]? with
    | none =>
      have hge := List.getElem?_eq_none_iff.mp hc
      exact ⟨false, et_is (et_and (b := false) (et_room rfl rfl hl') fun z => absurd (of_decide_eq_true z) (by omega)) (by rw [decide_eq_false (by omega)] <;> rfl), (fun z => by cases z), fun _ => hfin⟩
    | some c =>
      have hbt := (List.getElem?_eq_some_iff.mp hc).1
      have hcf : inChunk c = false := tw_end (f := inChunk) (b.drop p) c (by rw [drop_at]; show b[p + cw.length]? = _; rw [← ei]; exact hc)
      have hs : signB c = [] := if_neg (by rw [hcf]; decide)
      exact ⟨false, et_is (et_and (b := false) (et_room rfl rfl hl') fun _ => et_is (et_test (ev_op (sgn _ _ _ c rfl rfl eH hc) ev_c (rv_ne rfl))) (by rw [hs, S_lit0, S_eq] <;> rfl)) (by rw [Bool.and_false]), (fun z => by cases z), fun _ => hfin⟩
end
end LP
namespace LP
open PySem PySem.Spec PyProof.Rows L2 Evl
open VahypBase (Bytes isLetter isDigit inChunk isBlank)
section
variable {P : Program} {w : World} {K : PySem.W.Frag} {mg : Str → Option Value} {base : Heap} {H H' : Hp}
def NewTk (T : TX K mg) (t : MTok) : Hp → V → Hp → Prop := fun H0 v H2 => ∃ a, v = .ref a ∧ H0 a = none ∧ TkAt T H2 a t
theorem NewTk.back {T : TX K mg} {t : MTok} {H1 H2 H3 : Hp} {v : V} (e : Ex H1 H2) (h : NewTk T t H2 v H3) : NewTk T t H1 v H3 := let ⟨a, h1, h2, h3⟩ := h; ⟨a, h1, fresh_back e h2, h3⟩
theorem evr_Token {σ : L2.St} {E : XK} {tr : TA} {T : TX K mg} {b : Bytes} {p : Nat} (h : EvA tr σ H [.str (S b), .int (p : Nat)]) : EvR (tMake T.C_Token (spSet T.C_Token 2 F_Token) [] E tr) σ H (NewTk T (b, p)) := (evr_make h rfl).weaken fun H1 v H2 _ _ ⟨a, dx, h1, h2, h3⟩ => ⟨a, h1, h2, dx, h3⟩
def sp_token_at (T : TX K mg) : Sp := fun vs H Q _ => ∃ (l : Addr) (b : Bytes) (p : Nat), vs = [.ref l, .int (p : Nat)] ∧ H l = some (.lst (bV b)) ∧ p ≤ b.length ∧ b.length ≤ 50000 ∧ RetR (NewTk T (tokM b p)) H Q
theorem ok_token_at (T : TX K mg) : FnOk P w K mg base CX0 3 T.f_token_at T.d_token_at ["text", "place"] (sp_token_at T) := by
  refine T.F_token_at.ok sc_token_at (fun vs H Q E h => ?_) (fun cdv A outer s0 H vs Q E hr h => ?_)
  · obtain ⟨l, b, p, rfl, hl, hp, hbl, k⟩ := h
    rfl
  obtain ⟨l, b, p, rfl, hl, hp, hbl, k⟩ := h
  refine ⟨_, (pss_cons (ps_if (pt_cmpR op_eq (pv 1) (pe_callB call_len_seq (by rfl) T.n_len PySem.boot_len (pa_cons (pv 0) pa_nil)) (nomark _)) (pss_one (ps_ret (pe_make T.M_Token (ok_Token___init__ T) (hr.mono (by decide)) (by rfl) T.m_Token T.b_Token___init__ .nil pass0 (pa_cons (pe_glob (v := .str "") (by rfl) T.c_END ⟨_, rfl⟩) (pa_cons (pv 1) pa_nil))))) pss_nil)
    (pss_cons (ps_if (pt_cmpR op_eq (pe_ix ix_list (pv 0) (pv 1) (fun _ _ => rfl)) pe_int (nomark _)) (pss_one (ps_ret (pe_make T.M_Token (ok_Token___init__ T) (hr.mono (by decide)) (by rfl) T.m_Token T.b_Token___init__ .nil pass0 (pa_cons (pe_glob (v := .str ";") (by rfl) T.c_SIGN ⟨_, rfl⟩) (pa_cons (pv 1) pa_nil))))) pss_nil)
    (pss_cons (ps_set (i := 2) (sc_token_at).nd rfl (Or.inl rfl) (pe_call (ok_chunk_at T) (hr.mono (by decide)) (by rfl) T.m_chunk_at T.F_chunk_at.kp T.b_chunk_at .nil pass0 (pa_cons (pv 0) (pa_cons (pv 1) pa_nil))))
    (pss_cons (ps_if (PW.pt (pw_or (pt_cmpR op_eq (pv 2) pe_str (nomark _)) (pw_or1 (pt_cmpR op_gt (pe_callB call_len_str (by rfl) T.n_len PySem.boot_len (pa_cons (pv 2) pa_nil)) (pe_glob (v := .int 40) (by rfl) T.c_MOST_CHUNK_BYTES ⟨_, rfl⟩) (nomark _))))) (pss_one (ps_ret (pe_make T.M_Token (ok_Token___init__ T) (hr.mono (by decide)) (by rfl) T.m_Token T.b_Token___init__ .nil pass0 (pa_cons (pe_glob (v := .str "?") (by rfl) T.c_NO_TOKEN ⟨_, rfl⟩) (pa_cons (pv 1) pa_nil))))) pss_nil)
    (pss_one (ps_ret (pe_make T.M_Token (ok_Token___init__ T) (hr.mono (by decide)) (by rfl) T.m_Token T.b_Token___init__ .nil pass0 (pa_cons (pv 2) (pa_cons (pv 1) pa_nil))))))))), Go.at ?_⟩
  cases hc : b[p]? with
  | none =>
    have hge := List.getElem?_eq_none_iff.mp hc
    have e : tokM b p = ([], p) := by
      unfold tokM
      rw [hc]
    rw [e] at k
    refine gq_when (b := true) (et_is (et_test (ev_op (ev_var rfl) (ev_lenS (ev_var rfl) hl) (rv_eq rfl))) (by rw [dec_int, beq_iff_eq, List.length_map]; omega)) (fun _ => ?_) fun z => by cases z
    exact go_retR (evr_Token (b := []) (ea_cons (ev_is ev_c (by rw [S_lit0])) (ea_cons (ev_var rfl) ea_nil))) fun v H1 H2 e1 e2 r => k v H2 (e1.trans e2) (r.back e1)
  | some c =>
    have hlt := (List.getElem?_eq_some_iff.mp hc).1
    have e : tokM b p = if c = 59 then ([59], p) else if ((chunkM b p).isEmpty || decide (40 < (chunkM b p).length)) = true then ([63], p) else (chunkM b p, p) := by
      unfold tokM
      rw [hc]
    refine gq_when (b := false) (et_is (et_test (ev_op (ev_var rfl) (ev_lenS (ev_var rfl) hl) (rv_eq rfl))) (by rw [dec_int, beq_eq_false_iff_ne, List.length_map]; omega)) (fun z => by cases z) fun _ => ?_
    refine gq_when (et_is (et_test (ev_op (ev_byte (ev_var rfl) (ev_var rfl) hl hc) ev_c (rv_eq rfl))) (byte_eq c 59 (by decide))) (fun h59 => ?_) fun h59 => ?_
    · have hc59 : c = 59 := eq_of_beq h59
      rw [e, if_pos hc59] at k
      exact go_retR (evr_Token (b := [59]) (ea_cons (ev_is ev_c (by rw [S_lit59])) (ea_cons (ev_var rfl) ea_nil))) fun v H1 H2 e1 e2 r => k v H2 (e1.trans e2) (r.back e1)
    · have hne : ¬ c = 59 := fun z => by
        rw [z] at h59
        cases h59
      rw [e, if_neg hne] at k
      have hcl : (chunkM b p).length ≤ 50000 := by
        have := tw_le (f := inChunk) (b.drop p)
        rw [List.length_drop] at this
        unfold chunkM
        omega
      refine gq_asg (v := .str (S (chunkM b p))) (ev_callV (ea_cons (ev_var rfl) (ea_cons (ev_var rfl) ea_nil)) fun H1 e Q E k => ⟨l, b, p, rfl, e _ _ hl, hp, hbl, k⟩) ?_
      refine gq_when (b := (chunkM b p).isEmpty || decide (40 < (chunkM b p).length)) (et_or (et_is (et_test (ev_op (ev_var rfl) ev_c (rv_eq rfl))) ?_) fun _ => et_is (et_test (ev_op (ev_lenB (ev_var rfl) (by omega)) ev_c rv_I0)) (decide_eq_decide.mpr (by omega))) (fun hh => ?_) fun hh => ?_
      · rw [S_lit0, S_eq]
        cases chunkM b p <;> rfl
      · rw [if_pos hh] at k
        exact go_retR (evr_Token (b := [63]) (ea_cons (ev_is ev_c (by rw [S_lit63])) (ea_cons (ev_var rfl) ea_nil))) fun v H1 H2 e1 e2 r => k v H2 (e1.trans e2) (r.back e1)
      · rw [if_neg (by rw [hh]; decide)] at k
        exact go_retR (evr_Token (ea_cons (ev_var rfl) (ea_cons (ev_var rfl) ea_nil))) fun v H1 H2 e1 e2 r => k v H2 (e1.trans e2) (r.back e1)
theorem LsAt.monoT {T : TX K mg} {l : Addr} {ts : List MTok} (e : Ex H H') (h : LsAt (TkAt T) H l ts) : LsAt (TkAt T) H' l ts := LsAt.mono (R := TkAt T) (fun _ _ _ _ e h => TkAt.mono e h) e h
def sp_read_tokens (T : TX K mg) : Sp := fun vs H Q _ => ∃ (l : Addr) (b : Bytes), vs = [.ref l] ∧ H l = some (.lst (bV b)) ∧ b.length ≤ 50000 ∧ RetR (fun H0 v H2 => ∃ p, v = .ref p ∧ H0 p = none ∧ LsAt (TkAt T) H2 p (toksM b)) H Q
theorem ok_read_tokens (T : TX K mg) : FnOk P w K mg base CX0 4 T.f_read_tokens T.d_read_tokens ["text"] (sp_read_tokens T) := by
  refine T.F_read_tokens.ok sc_read_tokens (fun vs H Q E h => ?_) (fun cdv A outer s0 H vs Q E hr h => ?_)
  · obtain ⟨l, b, rfl, hl, hbl, k⟩ := h
    rfl
  obtain ⟨l, b, rfl, hl, hbl, k⟩ := h
  refine ⟨_, (pss_cons (ps_set (i := 1) (sc_read_tokens).nd rfl (Or.inl rfl) (pe_call (ok_token_at T) (hr.mono (by decide)) (by rfl) T.m_token_at T.F_token_at.kp T.b_token_at .nil pass0 (pa_cons (pv 0) (pa_cons (pe_call (ok_skip_blanks T) (hr.mono (by decide)) (by rfl) T.m_skip_blanks T.F_skip_blanks.kp T.b_skip_blanks .nil pass0 (pa_cons (pv 0) (pa_cons pe_int pa_nil))) pa_nil))))
    (pss_cons (ps_set (i := 2) (sc_read_tokens).nd rfl (Or.inl rfl) (pe_lst (pa_cons (pv 1) pa_nil)))
    (pss_cons (ps_while PassesOwn.never (PW.pt (pw_and (pt_cmpR op_ne (pe_fld (pv 1) rfl) (pe_glob (v := .str "") (by rfl) T.c_END ⟨_, rfl⟩) (nomark _)) (pw_and1 (pt_cmpR op_ne (pe_fld (pv 1) rfl) (pe_glob (v := .str "?") (by rfl) T.c_NO_TOKEN ⟨_, rfl⟩) (nomark _))))) (pss_cons (ps_set (i := 1) (sc_read_tokens).nd rfl (Or.inl rfl) (pe_call (ok_token_at T) (hr.mono (by decide)) (by rfl) T.m_token_at T.F_token_at.kp T.b_token_at .nil pass0 (pa_cons (pv 0) (pa_cons (pe_call (ok_skip_blanks T) (hr.mono (by decide)) (by rfl) T.m_skip_blanks T.F_skip_blanks.kp T.b_skip_blanks .nil pass0 (pa_cons (pv 0) (pa_cons (pe_op op_add (pe_fld (pv 1) rfl) (pe_callB call_len_str (by rfl) T.n_len PySem.boot_len (pa_cons (pe_fld (pv 1) rfl) pa_nil))) pa_nil))) pa_nil))))
    (pss_one (ps_expr (pe_bm PySem.F.plainAttrs_list PySem.F.slot_list_append PySem.F.type_list_append mt_append (pv 2) (pa_cons (pv 1) pa_nil))))))
    (pss_one (ps_ret (pv 2)))))), Go.at ?_⟩
  have call : ∀ {σ : L2.St} {H' : Hp} {te : TE} {p : Nat}, σ[0]? = some (some (.ref l)) → Ex H H' → Ev te σ H' (.int (p : Nat)) → p ≤ b.length → EvR (tCall (sp_token_at T) [] E0 (tCons (tVar 0) (tCons (tCall sp_skip_blanks [] E0 (tCons (tVar 0) (tCons te tNil))) tNil))) σ H' (NewTk T (tokM b (skipM b p))) := fun h0 eH he hp =>
    evr_call (ea_cons (ev_var h0) (ea_cons (ev_callV (ea_cons (ev_var h0) (ea_cons he ea_nil)) fun H1 e Q E k => ⟨l, b, _, rfl, e _ _ (eH _ _ hl), hp, k⟩) ea_nil)) (fun H1 e Q E k => ⟨l, b, _, rfl, e _ _ (eH _ _ hl), (skipM_le hp).2, hbl, k⟩) fun H1 H2 v H3 e r => r.back e
  refine gq_asgR (call (p := 0) rfl (Ex.refl _) ev_c (Nat.zero_le _)) fun v H1 H2 e1 e2 ⟨a0, hv, _, hT0⟩ => ?_
  subst hv
  have e12 := e1.trans e2
  refine gq_asgL (xs := [.ref a0]) (el_lst (ea_cons (ev_var rfl) ea_nil) (by show 1 ≤ 100000; decide)) fun lt H3 nlt e3 hlt => ?_
  have nltH : H lt = none := fresh_back e12 nlt
  refine gq_while (fun m σ' H' => ∃ acc t a, σ' = [some (.ref l), some (.ref a), some (.ref lt)] ∧ Ex H H' ∧ TokOk b t ∧ b.length + 1 ≤ m + t.2 ∧ acc.length + m ≤ b.length + 1 ∧ acc ++ toksF m b t = toksM b ∧ TkAt T H' a t ∧ LsAt (TkAt T) H' lt (acc ++ [t])) (b.length + 1)
    (fun H4 e4 => ⟨[], tokM b (skipM b 0), a0, rfl, e12.trans (e3.trans e4), tokM_ok (skipM_le (Nat.zero_le _)).2, by omega, by simp, rfl, hT0.mono (e3.trans e4), [a0], e4 _ _ hlt, At2.nil.snoc (hT0.mono (e3.trans e4))⟩) ?_
  rintro m σ' H' ⟨acc, t, a, rfl, eH, ok, hm, hal, hacc, hT, hL⟩
  have h1 := ok.place
  obtain ⟨m, rfl⟩ : ∃ m', m = m' + 1 := ⟨m - 1, by omega⟩
  have htest : EvT (tAnd (tTest (tOp rNe (tFld K (tVar 1) "text") (tC (.str "")))) (tTest (tOp rNe (tFld K (tVar 1) "text") (tC (.str "?"))))) [some (.ref l), some (.ref a), some (.ref lt)] H' (!isLast t) := by
    have e : (!isLast t) = (!(t.1 == []) && !(t.1 == [63])) := by
      unfold isLast
      cases t.1 == [] <;> rfl
    rw [e]
    exact et_and (et_is (et_test (ev_op (ev_fld (ev_var rfl) hT.text) ev_c (rv_ne rfl))) (by rw [S_lit0, S_eq])) fun _ => et_is (et_test (ev_op (ev_fld (ev_var rfl) hT.text) ev_c (rv_ne rfl))) (by rw [S_lit63, S_eq])
  refine ⟨!isLast t, htest, fun hb => ?_, fun hb => ?_⟩
  · have hnl : isLast t = false := by simpa using hb
    obtain ⟨r1, r2⟩ := ok.room hnl
    obtain ⟨ok2, hlt2⟩ := nextT_ok ok hnl
    have h40 := ok.len
    refine gq_asgR (call (p := t.2 + t.1.length) rfl eH (ev_is (ev_op (ev_fld (ev_var rfl) hT.place) (ev_lenB (ev_fld (ev_var rfl) hT.text) (by omega)) rv_I0) (by rw [len_int])) r1) fun v H4 H5 e4 e5 ⟨a2, hv, ha2, hT2⟩ => ?_
    subst hv
    have e45 := e4.trans e5
    obtain ⟨as, has, hA⟩ := hL
    have hpl : a2 ≠ lt := fun z => by
      rw [z, e4 _ _ has] at ha2
      cases ha2
    refine go_app (e45 _ _ has) (ev_var rfl) (ev_var rfl) (by rw [List.length_map, hA.len, List.length_append]; show _ + 1 < _; omega) fun H6 e6 => ?_
    have has6 := e6 _ _ (e45 _ _ has)
    have stay : ∀ b x, TkAt T H6 b x → TkAt T (upd H6 lt (.lst (as.map V.ref ++ [V.ref a2]))) b x := fun b x ⟨dx, h⟩ => ⟨dx, by rw [upd_ne (ne_of h has6 (by intro z; cases z))]; exact h⟩
    refine ⟨m, by omega, acc ++ [t], nextT b t, a2, rfl, Ex.mut (eH.trans (e45.trans e6)) nltH, ok2, by omega, by rw [List.length_append]; show _ + 1 + m ≤ _; omega, ?_, stay _ _ (hT2.mono e6), as ++ [a2], by rw [upd_same, List.map_append] <;> rfl, ?_⟩
    · rw [← hacc, List.append_assoc]
      show acc ++ (t :: toksF m b (nextT b t)) = acc ++ (if isLast t = true then [t] else t :: toksF m b (nextT b t))
      rw [if_neg (by rw [hnl]; decide)]
    · exact ((hA.mono fun b x h => TkAt.mono (e45.trans e6) h).mono stay).snoc (stay _ _ (hT2.mono e6))
  · have hla : isLast t = true := by simpa using hb
    have e : acc ++ [t] = toksM b := by
      rw [← hacc]
      show acc ++ [t] = acc ++ (if isLast t = true then [t] else t :: toksF m b (nextT b t))
      rw [if_pos hla]
    rw [e] at hL
    exact go_ret (ev_var rfl) fun H4 e4 => k _ H4 (eH.trans e4) ⟨lt, rfl, nltH, LsAt.monoT e4 hL⟩
end
/-- what the tokens are: all but the last are chunks or the sign -/
theorem toksF_ok : ∀ (f : Nat) (b : Bytes) (t : MTok), TokOk b t → ∀ u ∈ toksF f b t, TokOk b u
  | 0, b, t, h => fun u hu => by
    rw [List.mem_singleton.mp hu]
    exact h
  | f + 1, b, t, h => fun u hu => by
    have hu2 : u ∈ (if isLast t = true then [t] else t :: toksF f b (nextT b t)) := hu
    split at hu2
    · rw [List.mem_singleton.mp hu2]
      exact h
    · rename_i hl
      rcases List.mem_cons.mp hu2 with e | h2
      · rw [e]
        exact h
      · exact toksF_ok f b _ (nextT_ok h (Bool.eq_false_iff.mpr hl)).1 u h2
theorem toksM_ok (b : Bytes) : ∀ u ∈ toksM b, TokOk b u := toksF_ok _ b _ (tokM_ok (skipM_le (Nat.zero_le _)).2)
theorem toksF_len : ∀ (f : Nat) (b : Bytes) (t : MTok), (toksF f b t).length ≤ f + 1 ∧ 1 ≤ (toksF f b t).length
  | 0, b, t => ⟨Nat.le_refl _, Nat.le_refl _⟩
  | f + 1, b, t => by
    show (if isLast t = true then [t] else t :: toksF f b (nextT b t)).length ≤ _ ∧ 1 ≤ (if isLast t = true then [t] else t :: toksF f b (nextT b t)).length
    have := toksF_len f b (nextT b t)
    split
    · exact ⟨by show 1 ≤ _; omega, Nat.le_refl _⟩
    · rw [List.length_cons]
      omega
end LP
namespace LP
open PySem PySem.Spec PyProof.Rows L2 Evl
open VahypBase (Bytes isLetter isDigit inChunk isBlank)
/-! ## the reader -/
inductive Aw where
  | margins | margin | sign | entry | word | pattern
deriving DecidableEq
def awB : Aw → Bytes
  | .margins => VahypBase.word "margins"
  | .margin => VahypBase.word "margin"
  | .sign => VahypBase.word "sign"
  | .entry => VahypBase.word "entry"
  | .word => VahypBase.word "word"
  | .pattern => VahypBase.word "pattern"
theorem aw_margins : ("margins" : Str) = S (awB .margins) := by decide +kernel
theorem aw_margin : ("margin" : Str) = S (awB .margin) := by decide +kernel
theorem aw_sign : ("sign" : Str) = S (awB .sign) := by decide +kernel
theorem aw_entry : ("entry" : Str) = S (awB .entry) := by decide +kernel
theorem aw_word : ("word" : Str) = S (awB .word) := by decide +kernel
theorem aw_pattern : ("pattern" : Str) = S (awB .pattern) := by decide +kernel
theorem aw_eq : ∀ a b : Aw, (awB a == awB b) = decide (a = b) := by
  intro a b
  cases a <;> cases b <;> decide +kernel
structure RS where
  aw : Aw
  ms : List Nat
  ws : List Vahypa.Word
  ps : List Bytes
structure RdA where
  r : Addr
  a : Addr
  lm : Addr
  lw : Addr
  lp : Addr
  g : Addr → Prop
abbrev pV (ps : List Bytes) : List V := ps.map fun b => V.str (S b)
section
variable {P : Program} {w : World} {K : PySem.W.Frag} {mg : Str → Option Value} {base : Heap} {H H' : Hp}
/-- a word whose list is none of the reader's own -/
def WdN (T : TX K mg) (A : RdA) (H : Hp) (x : Addr) (w : Vahypa.Word) : Prop := ∃ lb, (lb ≠ A.lm ∧ ¬ A.g lb) ∧ lb ≠ A.lw ∧ lb ≠ A.lp ∧ I_Word T H x (.str (S w.x)) (.ref lb) ∧ H lb = some (.lst (nl w.cuts))
theorem WdN.mono {T : TX K mg} {A : RdA} {x : Addr} {w : Vahypa.Word} (e : Ex H H') (h : WdN T A H x w) : WdN T A H' x w := let ⟨l, h1, h2, h3, h4, h5⟩ := h; ⟨l, h1, h2, h3, h4.mono e, e _ _ h5⟩
structure RdAt (T : TX K mg) (H : Hp) (A : RdA) (s : RS) : Prop where
  rd : I_ListReader T H A.r (.ref A.a) (.str (S (awB s.aw)))
  ld : I_Listed T H A.a (.ref A.lm) (.ref A.lw) (.ref A.lp)
  ms : H A.lm = some (.lst (nl s.ms))
  ws : LsAt (WdN T A) H A.lw s.ws
  ps : H A.lp = some (.lst (pV s.ps))
  n1 : A.lm ≠ A.lw
  n2 : A.lm ≠ A.lp
  n3 : A.lw ≠ A.lp
  gs : ∀ x, A.g x → H x ≠ none
theorem gs_upd {g : Addr → Prop} {a : Addr} {o : HO} (h : ∀ x, g x → H x ≠ none) : ∀ x, g x → upd H a o x ≠ none := fun x hx => by
  by_cases e : x = a
  · rw [e, upd_same]
    intro z
    cases z
  · rw [upd_ne e]
    exact h x hx
theorem LsAt.monoN {T : TX K mg} {A : RdA} {l : Addr} {ws : List Vahypa.Word} (e : Ex H H') (h : LsAt (WdN T A) H l ws) : LsAt (WdN T A) H' l ws := LsAt.mono (R := WdN T A) (fun _ _ _ _ e h => WdN.mono e h) e h
theorem RdAt.mono {T : TX K mg} {A : RdA} {s : RS} (e : Ex H H') (h : RdAt T H A s) : RdAt T H' A s := ⟨h.rd.mono e, h.ld.mono e, e _ _ h.ms, h.ws.monoN e, e _ _ h.ps, h.n1, h.n2, h.n3, fun x hx z => h.gs x hx (fresh_back e z)⟩
/-- all but the reader's own objects is as it was -/
def Kb (A : RdA) (H H' : Hp) : Prop := ∀ b o, H b = some o → b ≠ A.r → b ≠ A.lm → b ≠ A.lw → b ≠ A.lp → H' b = some o
theorem Kb.of {A : RdA} (e : Ex H H') : Kb A H H' := fun b o h _ _ _ _ => e b o h
theorem Kb.trans {A : RdA} {H1 H2 H3 : Hp} (h : Kb A H1 H2) (g : Kb A H2 H3) : Kb A H1 H3 := fun b o e a1 a2 a3 a4 => g b o (h b o e a1 a2 a3 a4) a1 a2 a3 a4
theorem Kb.ex {A : RdA} {H0 H1 H2 : Hp} (e : Ex H0 H1) (h : Kb A H1 H2) (h1 : H0 A.r = none) (h2 : H0 A.lm = none) (h3 : H0 A.lw = none) (h4 : H0 A.lp = none) : Ex H0 H2 := fun b o q => h b o (e b o q) (ne_of_none q h1) (ne_of_none q h2) (ne_of_none q h3) (ne_of_none q h4)
theorem ins_len {C1 C2 d1 d2 : Addr} {f1 f2 : List (Str × V)} (h : f1.length ≠ f2.length) : HO.ins C1 d1 f1 ≠ HO.ins C2 d2 f2 := fun z => by
  injection z with z1 z2 z3
  exact h (congrArg List.length z3)
theorem ins_val {C1 C2 d1 d2 : Addr} {k1 k2 : Str} {v1 v2 : V} {f1 f2 : List (Str × V)} (h : v1 ≠ v2) : HO.ins C1 d1 ((k1, v1) :: f1) ≠ HO.ins C2 d2 ((k2, v2) :: f2) := fun z => by
  injection z with z1 z2 z3
  exact h (Prod.mk.inj (List.cons.inj z3).1).2
theorem RdAt.setAw {T : TX K mg} {A : RdA} {s : RS} {dx : Addr} (h : RdAt T H A s) (hr : H A.r = some (.ins T.C_ListReader dx (R_ListReader (.ref A.a) (.str (S (awB s.aw)))))) (aw : Aw) : RdAt T (upd H A.r (.ins T.C_ListReader dx (R_ListReader (.ref A.a) (.str (S (awB aw)))))) A { s with aw := aw } := by
  have nl' : ∀ b xs, H b = some (.lst xs) → (upd H A.r (.ins T.C_ListReader dx (R_ListReader (.ref A.a) (.str (S (awB aw)))))) b = some (.lst xs) := fun b xs hb => by
    rw [upd_ne (ne_of hb hr (by intro z; cases z))]
    exact hb
  obtain ⟨d2, hld⟩ := h.ld
  obtain ⟨as, has, hA⟩ := h.ws
  refine ⟨⟨dx, upd_same⟩, ⟨d2, ?_⟩, nl' _ _ h.ms, ⟨as, nl' _ _ has, hA.mono fun x w ⟨lb, h1, h2, h3, ⟨d3, h4⟩, h5⟩ => ⟨lb, h1, h2, h3, ⟨d3, ?_⟩, nl' _ _ h5⟩⟩, nl' _ _ h.ps, h.n1, h.n2, h.n3, gs_upd h.gs⟩
  · rw [upd_ne (ne_of hld hr (ins_len (by show 3 ≠ 2; decide)))]
    exact hld
  · rw [upd_ne (ne_of h4 hr (ins_val (by intro z; cases z)))]
    exact h4
theorem RdAt.addM {T : TX K mg} {A : RdA} {s : RS} (h : RdAt T H A s) (n : Nat) : RdAt T (upd H A.lm (.lst (nl s.ms ++ [.int (n : Nat)]))) A { s with ms := s.ms ++ [n] } := by
  obtain ⟨d1, hrd⟩ := h.rd
  obtain ⟨d2, hld⟩ := h.ld
  obtain ⟨as, has, hA⟩ := h.ws
  refine ⟨⟨d1, ?_⟩, ⟨d2, ?_⟩, ?_, ⟨as, ?_, hA.mono fun x w ⟨lb, h1, h2, h3, ⟨d3, h4⟩, h5⟩ => ⟨lb, h1, h2, h3, ⟨d3, ?_⟩, ?_⟩⟩, ?_, h.n1, h.n2, h.n3, gs_upd h.gs⟩
  · rw [upd_ne (ne_of hrd h.ms (by intro z; cases z))]
    exact hrd
  · rw [upd_ne (ne_of hld h.ms (by intro z; cases z))]
    exact hld
  · rw [upd_same]
    unfold nl
    rw [List.map_append] <;> rfl
  · rw [upd_ne h.n1.symm]
    exact has
  · rw [upd_ne (ne_of h4 h.ms (by intro z; cases z))]
    exact h4
  · rw [upd_ne h1.1]
    exact h5
  · rw [upd_ne h.n2.symm]
    exact h.ps
theorem RdAt.addW {T : TX K mg} {A : RdA} {s : RS} {x : Addr} {w : Vahypa.Word} (h : RdAt T H A s) (hw : WdN T A H x w) {as : List Addr} (has : H A.lw = some (.lst (as.map V.ref))) : RdAt T (upd H A.lw (.lst (as.map V.ref ++ [V.ref x]))) A { s with ws := s.ws ++ [w] } := by
  obtain ⟨d1, hrd⟩ := h.rd
  obtain ⟨d2, hld⟩ := h.ld
  obtain ⟨as', has', hA⟩ := h.ws
  have ea : as = as' := by
    have q := has.symm.trans has'
    injection q with q
    injection q with q
    exact (List.map_inj_right (fun a b z => by cases z; rfl)).mp q
  subst ea
  have stay : ∀ x w, WdN T A H x w → WdN T A (upd H A.lw (.lst (as.map V.ref ++ [V.ref x]))) x w ∨ True := fun _ _ _ => .inr trivial
  have stay2 : ∀ y w, WdN T A H y w → WdN T A (upd H A.lw (.lst (as.map V.ref ++ [V.ref x]))) y w := by
    rintro y w ⟨lb, h1, h2, h3, ⟨d3, h4⟩, h5⟩
    refine ⟨lb, h1, h2, h3, ⟨d3, ?_⟩, ?_⟩
    · rw [upd_ne (ne_of h4 has (by intro z; cases z))]
      exact h4
    · rw [upd_ne h2]
      exact h5
  refine ⟨⟨d1, ?_⟩, ⟨d2, ?_⟩, ?_, ⟨as ++ [x], by rw [upd_same, List.map_append] <;> rfl, (hA.mono stay2).snoc (stay2 _ _ hw)⟩, ?_, h.n1, h.n2, h.n3, gs_upd h.gs⟩
  · rw [upd_ne (ne_of hrd has (by intro z; cases z))]
    exact hrd
  · rw [upd_ne (ne_of hld has (by intro z; cases z))]
    exact hld
  · rw [upd_ne h.n1]
    exact h.ms
  · rw [upd_ne h.n3.symm]
    exact h.ps
theorem RdAt.addP {T : TX K mg} {A : RdA} {s : RS} (h : RdAt T H A s) (b : Bytes) : RdAt T (upd H A.lp (.lst (pV s.ps ++ [.str (S b)]))) A { s with ps := s.ps ++ [b] } := by
  obtain ⟨d1, hrd⟩ := h.rd
  obtain ⟨d2, hld⟩ := h.ld
  obtain ⟨as, has, hA⟩ := h.ws
  refine ⟨⟨d1, ?_⟩, ⟨d2, ?_⟩, ?_, ⟨as, ?_, hA.mono fun x w ⟨lb, h1, h2, h3, ⟨d3, h4⟩, h5⟩ => ⟨lb, h1, h2, h3, ⟨d3, ?_⟩, ?_⟩⟩, ?_, h.n1, h.n2, h.n3, gs_upd h.gs⟩
  · rw [upd_ne (ne_of hrd h.ps (by intro z; cases z))]
    exact hrd
  · rw [upd_ne (ne_of hld h.ps (by intro z; cases z))]
    exact hld
  · rw [upd_ne h.n2]
    exact h.ms
  · rw [upd_ne h.n3]
    exact has
  · rw [upd_ne (ne_of h4 h.ps (by intro z; cases z))]
    exact h4
  · rw [upd_ne h3]
    exact h5
  · rw [upd_same]
    unfold pV
    rw [List.map_append] <;> rfl
theorem Kb.upd {A : RdA} {a : Addr} {o : HO} (h : a = A.r ∨ a = A.lm ∨ a = A.lw ∨ a = A.lp) : Kb A H (L2.upd H a o) := fun b u e b1 b2 b3 b4 => by
  have : b ≠ a := by
    rcases h with h | h | h | h <;> rw [h] <;> assumption
  rw [upd_ne this]
  exact e
/-! ### __init__ -/
def sp_Word___init__ (T : TX K mg) : Sp := fun vs H Q _ => ∃ (p dx : Addr) (b : Bytes), vs = [.ref p, .str (S b)] ∧ H p = some (.ins T.C_Word dx []) ∧ b.length ≤ 1000 ∧
  ∀ (H' : Hp) (lb : Addr), I_Word T H' p (.str (S (lettersW b))) (.ref lb) → H lb = none → H' lb = some (.lst (nl (breaksM b))) → (∀ x o, H x = some o → x ≠ p → H' x = some o) → Q .non H'
theorem ok_Word___init__ (T : TX K mg) : FnOk P w K mg base CX0 2 T.f_Word___init__ T.d_Word___init__ ["self", "chunk"] (sp_Word___init__ T) := by
  refine T.F_Word___init__.ok sc_Word___init__ (fun vs H Q E h => ?_) (fun cdv A outer s0 H vs Q E hr h => ?_)
  · obtain ⟨p, dx, b, rfl, hp, hl, k⟩ := h
    rfl
  obtain ⟨p, dx, b, rfl, hp, hl, k⟩ := h
  refine ⟨_, (pss_cons (ps_fld (pv 0) (pe_call (ok_word_letters T) (hr.mono (by decide)) (by rfl) T.m_word_letters T.F_word_letters.kp T.b_word_letters .nil pass0 (pa_cons (pv 1) pa_nil)) rfl)
    (pss_one (ps_fld (pv 0) (pe_call (ok_word_breaks T) (hr.mono (by decide)) (by rfl) T.m_word_breaks T.F_word_breaks.kp T.b_word_breaks .nil pass0 (pa_cons (pv 1) pa_nil)) rfl))), Go.at ?_⟩
  refine gq_fld (ev_callV (z := .str (S (lettersW b))) (ea_cons (ev_var rfl) ea_nil) fun H1 e Q E k => ⟨b, rfl, hl, k⟩) (ev_var rfl) hp T.cl_Word T.n_Word_letters (by show 0 < 1000; decide) new_Word_letters fun H1 e1 => ?_
  refine go_fldR (EvL.r (xs := nl (breaksM b)) (elc_call (ea_cons (ev_var rfl) ea_nil) fun H1 e Q E k => ⟨b, rfl, hl, k⟩)) (ev_var rfl) upd_same T.cl_Word T.n_Word_breaks (by show 1 < 1000; decide) fun y H2 H3 H4 e2 e3 ⟨lb, hy, hlb, hlbl⟩ e4 => ?_
  subst hy
  have stay : ∀ x o, H x = some o → x ≠ p → H2 x = some o := fun x o hx hne => e2 _ _ (by rw [upd_ne hne]; exact e1 _ _ hx)
  have hlp : lb ≠ p := fun z => by
    rw [z, e2 _ _ upd_same] at hlb
    cases hlb
  refine k _ lb ⟨dx, ?_⟩ ?_ ?_ fun x o hx hne => ?_
  · rw [upd_same, new_Word_breaks]
  · cases hz : H lb with
    | none => rfl
    | some o =>
      rw [stay lb o hz hlp] at hlb
      cases hlb
  · rw [upd_ne hlp]
    exact e4 _ _ hlbl
  · rw [upd_ne hne]
    exact e4 _ _ (e3 _ _ (stay x o hx hne))
def sp_Listed___init__ (T : TX K mg) : Sp := fun vs H Q _ => ∃ (p dx : Addr), vs = [.ref p] ∧ H p = some (.ins T.C_Listed dx []) ∧
  ∀ (H' : Hp) (lm lw lp : Addr), I_Listed T H' p (.ref lm) (.ref lw) (.ref lp) → H lm = none → H lw = none → H lp = none → lm ≠ lw → lm ≠ lp → lw ≠ lp → H' lm = some (.lst []) → H' lw = some (.lst []) → H' lp = some (.lst []) → (∀ x o, H x = some o → x ≠ p → H' x = some o) → Q .non H'
theorem ok_Listed___init__ (T : TX K mg) : FnOk P w K mg base CX0 1 T.f_Listed___init__ T.d_Listed___init__ ["self"] (sp_Listed___init__ T) := by
  refine T.F_Listed___init__.ok sc_Listed___init__ (fun vs H Q E h => ?_) (fun cdv A outer s0 H vs Q E hr h => ?_)
  · obtain ⟨p, dx, rfl, hp, k⟩ := h
    rfl
  obtain ⟨p, dx, rfl, hp, k⟩ := h
  refine ⟨_, (pss_cons (ps_fld (pv 0) (pe_lst pa_nil) rfl)
    (pss_cons (ps_fld (pv 0) (pe_lst pa_nil) rfl)
    (pss_one (ps_fld (pv 0) (pe_lst pa_nil) rfl)))), Go.at ?_⟩
  refine gq_fldR (EvL.r (xs := []) (el_lst ea_nil (by decide))) (ev_var rfl) hp T.cl_Listed T.n_Listed_margins (by show 0 < 1000; decide) fun y H1 H2 H3 e1 e2 ⟨lm, hy, hlm, hlml⟩ e3 => ?_
  subst hy
  rw [new_Listed_margins]
  refine gq_fldR (EvL.r (xs := []) (el_lst ea_nil (by decide))) (ev_var rfl) upd_same T.cl_Listed T.n_Listed_words (by show 1 < 1000; decide) fun y H4 H5 H6 e4 e5 ⟨lw, hy, hlw, hlwl⟩ e6 => ?_
  subst hy
  rw [new_Listed_words]
  refine go_fldR (EvL.r (xs := []) (el_lst ea_nil (by decide))) (ev_var rfl) upd_same T.cl_Listed T.n_Listed_patterns (by show 2 < 1000; decide) fun y H7 H8 H9 e7 e8 ⟨lp, hy, hlp, hlpl⟩ e9 => ?_
  subst hy
  rw [new_Listed_patterns]
  have s1 : ∀ x o, H x = some o → x ≠ p → H4 x = some o := fun x o hx hne => e4 _ _ (by rw [upd_ne hne]; exact e3 _ _ (e2 _ _ (e1 _ _ hx)))
  have s2 : ∀ x o, H4 x = some o → x ≠ p → H7 x = some o := fun x o hx hne => e7 _ _ (by rw [upd_ne hne]; exact e6 _ _ (e5 _ _ hx))
  have p1 : H1 p = some (.ins T.C_Listed dx []) := e1 _ _ hp
  have q1 : lm ≠ p := fun z => by
    rw [z, p1] at hlm
    cases hlm
  have q2 : lw ≠ p := fun z => by
    rw [z, e4 _ _ upd_same] at hlw
    cases hlw
  have q3 : lp ≠ p := fun z => by
    rw [z, e7 _ _ upd_same] at hlp
    cases hlp
  have m4 : H4 lm = some (.lst []) := e4 _ _ (by rw [upd_ne q1]; exact e3 _ _ hlml)
  have m7 : H7 lm = some (.lst []) := s2 _ _ m4 q1
  have w7 : H7 lw = some (.lst []) := e7 _ _ (by rw [upd_ne q2]; exact e6 _ _ hlwl)
  refine k _ lm lw lp ⟨dx, upd_same⟩ (fresh_back e1 hlm) ?_ ?_ (ne_of_none m4 hlw) (ne_of_none m7 hlp) (ne_of_none w7 hlp) ?_ ?_ ?_ fun x o hx hne => ?_
  · cases hz : H lw with
    | none => rfl
    | some o =>
      rw [s1 lw o hz q2] at hlw
      cases hlw
  · cases hz : H lp with
    | none => rfl
    | some o =>
      rw [s2 lp o (s1 lp o hz q3) q3] at hlp
      cases hlp
  · rw [upd_ne q1]
    exact e9 _ _ (e8 _ _ m7)
  · rw [upd_ne q2]
    exact e9 _ _ (e8 _ _ w7)
  · rw [upd_ne q3]
    exact e9 _ _ hlpl
  · rw [upd_ne hne]
    exact e9 _ _ (e8 _ _ (s2 _ _ (s1 _ _ hx hne) hne))
def sp_ListReader___init__ (T : TX K mg) : Sp := fun vs H Q _ => ∃ (p dx : Addr), vs = [.ref p] ∧ H p = some (.ins T.C_ListReader dx []) ∧
  ∀ (H' : Hp) (A : RdA), A.r = p → RdAt T H' A ⟨.margins, [], [], []⟩ → H A.a = none → H A.lm = none → H A.lw = none → H A.lp = none → (∀ x, H x ≠ none → A.g x) → (∀ x o, H x = some o → x ≠ p → H' x = some o) → Q .non H'
/-- a class made without arguments -/
theorem evr_mk0 {σ : L2.St} {C : Addr} {sp : Sp} {E : XK} {R : Hp → V → Hp → Prop} (hs : ∀ H1 p dx, Ex H H1 → H1 p = none → H1 dx = none → dx ≠ p → ∀ (Q : VK), (∀ H2, Ex H1 H2 → R H1 (.ref p) H2 → Q .non H2) → sp [.ref p] (upd (upd H1 dx (.own p)) p (.ins C dx [])) Q E) : EvR (tMake C sp [] E tNil) σ H R := fun H1 e Q q =>
  fun p dx hp hd hne => hs H1 p dx e hp hd hne _ fun H3 e3 r => ⟨rfl, q _ H3 e3 r⟩
theorem none_back {H1 : Hp} {p dx x C : Addr} (h : (upd (upd H1 dx (.own p)) p (.ins C dx [])) x = none) : H1 x = none := by
  by_cases h1 : x = p
  · rw [h1, upd_same] at h
    cases h
  · rw [upd_ne h1] at h
    by_cases h2 : x = dx
    · rw [h2, upd_same] at h
      cases h
    · rw [upd_ne h2] at h
      exact h
theorem ok_ListReader___init__ (T : TX K mg) : FnOk P w K mg base CX0 3 T.f_ListReader___init__ T.d_ListReader___init__ ["self"] (sp_ListReader___init__ T) := by
  refine T.F_ListReader___init__.ok sc_ListReader___init__ (fun vs H Q E h => ?_) (fun cdv A outer s0 H vs Q E hr h => ?_)
  · obtain ⟨p, dx, rfl, hp, k⟩ := h
    rfl
  obtain ⟨p, dx, rfl, hp, k⟩ := h
  refine ⟨_, (pss_cons (ps_fld (pv 0) (pe_make0 T.M_Listed (ok_Listed___init__ T) (hr.mono (by decide)) (by rfl) T.m_Listed T.b_Listed___init__ .nil pass0) rfl)
    (pss_one (ps_fld (pv 0) pe_str rfl))), Go.at ?_⟩
  refine gq_fldR (R := fun H0 v H2 => ∃ a lm lw lp, v = .ref a ∧ H0 a = none ∧ H0 lm = none ∧ H0 lw = none ∧ H0 lp = none ∧ lm ≠ lw ∧ lm ≠ lp ∧ lw ≠ lp ∧ I_Listed T H2 a (.ref lm) (.ref lw) (.ref lp) ∧ H2 lm = some (.lst []) ∧ H2 lw = some (.lst []) ∧ H2 lp = some (.lst [])) (evr_mk0 fun H1 a d e ha hd hne Q q => ⟨a, d, rfl, upd_same, fun H' lm lw lp h1 h2 h3 h4 n1 n2 n3 h5 h6 h7 kk => q H' (ex_new ha hd kk) ⟨a, lm, lw, lp, rfl, ha, none_back h2, none_back h3, none_back h4, n1, n2, n3, h1, h5, h6, h7⟩⟩)
    (ev_var rfl) hp T.cl_ListReader T.n_ListReader_listed (by show 0 < 1000; decide) fun y H1 H2 H3 e1 e2 ⟨a, lm, lw, lp, hy, ha, g1, g2, g3, n1, n2, n3, hI, h5, h6, h7⟩ e3 => ?_
  subst hy
  rw [new_ListReader_listed]
  refine go_fld (y := .str "margins") ev_c (ev_var rfl) upd_same T.cl_ListReader T.n_ListReader_awaited (by show 1 < 1000; decide) new_ListReader_awaited fun H4 e4 => ?_
  have p1 : H1 p = some (.ins T.C_ListReader dx []) := e1 _ _ hp
  have fresh : ∀ x, H1 x = none → x ≠ p := fun x hx z => by
    rw [z, p1] at hx
    cases hx
  have s1 : ∀ x o, H3 x = some o → x ≠ p → (upd H4 p (.ins T.C_ListReader dx (R_ListReader (.ref a) (.str "margins")))) x = some o := fun x o hx hne => by
    rw [upd_ne hne]
    refine e4 _ _ ?_
    rw [upd_ne hne]
    exact hx
  obtain ⟨d2, hI⟩ := hI
  have s2 : ∀ x o, H x = some o → x ≠ p → (upd H4 p (.ins T.C_ListReader dx (R_ListReader (.ref a) (.str "margins")))) x = some o := fun x o hx hne => s1 _ _ (e3 _ _ (e2 _ _ (e1 _ _ hx))) hne
  refine k _ ⟨p, a, lm, lw, lp, fun x => H x ≠ none⟩ rfl ⟨⟨dx, by rw [← aw_margins]; exact upd_same⟩, ⟨d2, s1 _ _ (e3 _ _ hI) (fresh a ha)⟩, s1 _ _ (e3 _ _ h5) (fresh lm g1), ⟨[], s1 _ _ (e3 _ _ h6) (fresh lw g2), .nil⟩, s1 _ _ (e3 _ _ h7) (fresh lp g3), n1, n2, n3, fun x hx => ?_⟩ (fresh_back e1 ha) (fresh_back e1 g1) (fresh_back e1 g2) (fresh_back e1 g3) (fun x hx => hx) s2
  by_cases hne : x = p
  · rw [hne, upd_same]
    intro z
    cases z
  · have hx2 : H x ≠ none := hx
    cases hz : H x with
    | none => exact absurd hz hx2
    | some o =>
      rw [s2 x o hz hne]
      intro z
      cases z
end
end LP
namespace LP
open PySem PySem.Spec PyProof.Rows L2 Evl
open VahypBase (Bytes isLetter isDigit inChunk isBlank)
def WDm : Bytes := VahypBase.word "margins"
def WDw : Bytes := VahypBase.word "word"
def WDp : Bytes := VahypBase.word "pattern"
def takeStart (s : RS) (t : MTok) : Nat × RS := if (!(t.1 == WDm)) = true then (3, s) else (0, { s with aw := .margin })
def marginV (c : Bytes) : Nat := match c with
  | [d] => d.toNat - 48
  | _ => 0
def takeMarginM (s : RS) (c : Bytes) : Nat × RS := if (!isMarginM c) = true then (7, s) else (0, { s with ms := s.ms ++ [marginV c], aw := if s.ms.length + 1 = 2 then .sign else s.aw })
def takeSignM (s : RS) (t : MTok) : Nat × RS := if (!(t.1 == [59])) = true then (3, s) else (0, { s with aw := .entry })
def beginM (s : RS) (kind : Aw) (room : Bool) : Nat × RS := if (!room) = true then (4, s) else (0, { s with aw := kind })
def takeEntry (s : RS) (t : MTok) : Nat × RS :=
  if (t.1 == []) = true then (0, s)
  else if (t.1 == WDw && decide (s.ps.length = 0)) = true then beginM s .word (decide (s.ws.length < 24))
  else if (t.1 == WDp) = true then beginM s .pattern (decide (s.ps.length < 40))
  else (3, s)
def takeWordM (s : RS) (c : Bytes) : Nat × RS := if (!isWordM c) = true then (7, s) else if (s.ws.any fun w => w.x == lettersW c) = true then (5, s) else (0, { s with ws := s.ws ++ [⟨lettersW c, breaksM c⟩], aw := .sign })
def takePatM (s : RS) (c : Bytes) : Nat × RS := if (!isPatM c) = true then (7, s) else if (s.ps.any fun p => nodig p == nodig c) = true then (5, s) else (0, { s with ps := s.ps ++ [c], aw := .sign })
def takeM (s : RS) (t : MTok) : Nat × RS :=
  if s.aw = .margins then takeStart s t
  else if s.aw = .sign then takeSignM s t
  else if s.aw = .entry then takeEntry s t
  else if (t.1 == [59] || isLast t) = true then (3, s)
  else if s.aw = .word then takeWordM s t.1
  else if s.aw = .pattern then takePatM s t.1
  else takeMarginM s t.1
/-- bounds of the reader's lists -/
structure RSmall (s : RS) : Prop where
  ms : s.ms.length ≤ 50000
  ws : s.ws.length ≤ 24
  ps : s.ps.length ≤ 40
  pc : ∀ p ∈ s.ps, Chk p ∧ p.length ≤ 40
section
variable {P : Program} {w : World} {K : PySem.W.Frag} {mg : Str → Option Value} {base : Heap} {H H' : Hp}
/-- what a call of the reader gives: its code, its state behind it -/
def RetS (T : TX K mg) (A : RdA) (r : Nat × RS) (H : Hp) (Q : VK) : Prop := ∀ H', RdAt T H' A r.2 → Kb A H H' → Q (.int (r.1 : Nat)) H'
theorem RetS.mono {T : TX K mg} {A : RdA} {r : Nat × RS} {Q : VK} (e : Ex H H') (h : RetS T A r H Q) : RetS T A r H' Q := fun H2 hr hk => h H2 hr ((Kb.of e).trans hk)
/-- a method of the reader, returned -/
theorem go_retM {σ : L2.St} {T : TX K mg} {A : RdA} {s : RS} {r : Nat × RS} {m : Str} {sp : Sp} {vs : List V} {ta : TE} {tr : TA} {D : Ends} (ho : Ev ta σ H (.ref A.r)) (hR : RdAt T H A s) (hm : ∀ v0 v1, (R_ListReader v0 v1).lookup m = none) (h : EvA tr σ H vs)
    (hs : ∀ H1, Ex H H1 → RdAt T H1 A s → ∀ Q E, RetS T A r H1 Q → sp (.ref A.r :: (vs ++ [])) H1 Q E) (k : RetS T A r H D.rt) : Go (tRet (tMeth T.C_ListReader m sp [] E0 ta tr)) D σ H := fun H1 e => by
  refine ho H1 e _ fun H2 e2 => ?_
  obtain ⟨dx, hr⟩ := hR.rd
  refine ⟨A.r, dx, _, rfl, e2 _ _ (e _ _ hr), hm _ _, h H2 (e.trans e2) _ fun H3 e3 => ?_⟩
  have e03 := (e.trans e2).trans e3
  exact hs H3 e03 (hR.mono e03) _ E0 (k.mono e03)
theorem go_of_seq {σ : L2.St} {tu tz : TS} {D : Ends} (h : Go (tSeq tu tz) D σ H) : Go tu { D with nx := tz D } σ H := h
theorem go_retC {σ : L2.St} {T : TX K mg} {A : RdA} {s : RS} {n : Nat} {te : TE} {D : Ends} (h : Ev te σ H (.int (n : Nat))) (hR : RdAt T H A s) (k : RetS T A (n, s) H D.rt) : Go (tRet te) D σ H := go_ret h fun H1 e1 => k H1 (hR.mono e1) (Kb.of e1)
def sp_take_tok (T : TX K mg) (f : RS → MTok → Nat × RS) : Sp := fun vs H Q _ => ∃ (A : RdA) (s : RS) (b : Addr) (t : MTok), vs = [.ref A.r, .ref b] ∧ RdAt T H A s ∧ RSmall s ∧ TkAt T H b t ∧ RetS T A (f s t) H Q
def sp_take_chunk (T : TX K mg) (f : RS → Bytes → Nat × RS) : Sp := fun vs H Q _ => ∃ (A : RdA) (s : RS) (c : Bytes), vs = [.ref A.r, .str (S c)] ∧ RdAt T H A s ∧ RSmall s ∧ Chk c ∧ c.length ≤ 40 ∧ RetS T A (f s c) H Q
def sp_begin (T : TX K mg) : Sp := fun vs H Q _ => ∃ (A : RdA) (s : RS) (kind : Aw) (room : Bool), vs = [.ref A.r, .str (S (awB kind)), .bl room] ∧ RdAt T H A s ∧ RetS T A (beginM s kind room) H Q
/-- self.awaited = .. -/
theorem gq_aw {σ : L2.St} {T : TX K mg} {A : RdA} {s : RS} {aw : Aw} {tv ta : TE} {tz : TS} {D : Ends} (hv : Ev tv σ H (.str (S (awB aw)))) (ha : Ev ta σ H (.ref A.r)) (hR : RdAt T H A s) (k : ∀ H', RdAt T H' A { s with aw := aw } → Kb A H H' → Go tz D σ H') : Go (tSeq (sFld K ta tv "awaited") tz) D σ H := by
  obtain ⟨dx, hr⟩ := hR.rd
  refine gq_fld hv ha hr T.cl_ListReader T.n_ListReader_awaited (by show 2 < 1000; decide) put_ListReader_awaited fun H1 e1 => ?_
  exact k _ ((hR.mono e1).setAw (e1 _ _ hr) aw) ((Kb.of e1).trans (Kb.upd (.inl rfl)))
theorem ok_ListReader_take_start (T : TX K mg) : FnOk P w K mg base CX0 1 T.f_ListReader_take_start T.d_ListReader_take_start ["self", "token"] (sp_take_tok T takeStart) := by
  refine T.F_ListReader_take_start.ok sc_ListReader_take_start (fun vs H Q E h => ?_) (fun cdv A outer s0 H vs Q E hr h => ?_)
  · obtain ⟨A, s, b, t, rfl, hR, hS, hT, k⟩ := h
    rfl
  obtain ⟨A, s, b, t, rfl, hR, hS, hT, k⟩ := h
  refine ⟨_, (pss_cons (ps_if (pt_cmpR op_ne (pe_fld (pv 1) rfl) pe_str (nomark _)) (pss_one (ps_ret (pe_glob (v := .int 3) (by rfl) T.c_FAULT_NOT_ALLOWED ⟨_, rfl⟩))) pss_nil)
    (pss_cons (ps_fld (pv 0) pe_str rfl)
    (pss_one (ps_ret (pe_glob (v := .int 0) (by rfl) T.c_NO_FAULT ⟨_, rfl⟩))))), Go.at ?_⟩
  refine gq_when (b := !(t.1 == WDm)) (et_is (et_test (ev_op (ev_fld (ev_var rfl) hT.text) ev_c (rv_ne rfl))) (by rw [S_margins, S_eq] <;> rfl)) (fun hb => ?_) fun hb => ?_
  · have e : takeStart s t = (3, s) := if_pos hb
    rw [e] at k
    exact go_retC ev_c hR k
  · have e : takeStart s t = (0, { s with aw := .margin }) := if_neg (by rw [hb]; decide)
    rw [e] at k
    exact gq_aw (ev_is ev_c (by rw [aw_margin])) (ev_var rfl) hR fun H1 hR1 hk => go_retC ev_c hR1 fun H2 r2 k2 => k H2 r2 (hk.trans k2)
theorem ok_ListReader_take_sign (T : TX K mg) : FnOk P w K mg base CX0 1 T.f_ListReader_take_sign T.d_ListReader_take_sign ["self", "token"] (sp_take_tok T takeSignM) := by
  refine T.F_ListReader_take_sign.ok sc_ListReader_take_sign (fun vs H Q E h => ?_) (fun cdv A outer s0 H vs Q E hr h => ?_)
  · obtain ⟨A, s, b, t, rfl, hR, hS, hT, k⟩ := h
    rfl
  obtain ⟨A, s, b, t, rfl, hR, hS, hT, k⟩ := h
  refine ⟨_, (pss_cons (ps_if (pt_cmpR op_ne (pe_fld (pv 1) rfl) (pe_glob (v := .str ";") (by rfl) T.c_SIGN ⟨_, rfl⟩) (nomark _)) (pss_one (ps_ret (pe_glob (v := .int 3) (by rfl) T.c_FAULT_NOT_ALLOWED ⟨_, rfl⟩))) pss_nil)
    (pss_cons (ps_fld (pv 0) pe_str rfl)
    (pss_one (ps_ret (pe_glob (v := .int 0) (by rfl) T.c_NO_FAULT ⟨_, rfl⟩))))), Go.at ?_⟩
  refine gq_when (b := !(t.1 == [59])) (et_is (et_test (ev_op (ev_fld (ev_var rfl) hT.text) ev_c (rv_ne rfl))) (by rw [S_lit59, S_eq])) (fun hb => ?_) fun hb => ?_
  · have e : takeSignM s t = (3, s) := if_pos hb
    rw [e] at k
    exact go_retC ev_c hR k
  · have e : takeSignM s t = (0, { s with aw := .entry }) := if_neg (by rw [hb]; decide)
    rw [e] at k
    exact gq_aw (ev_is ev_c (by rw [aw_entry])) (ev_var rfl) hR fun H1 hR1 hk => go_retC ev_c hR1 fun H2 r2 k2 => k H2 r2 (hk.trans k2)
theorem ok_ListReader_begin_entry (T : TX K mg) : FnOk P w K mg base CX0 1 T.f_ListReader_begin_entry T.d_ListReader_begin_entry ["self", "kind", "has_room"] (sp_begin T) := by
  refine T.F_ListReader_begin_entry.ok sc_ListReader_begin_entry (fun vs H Q E h => ?_) (fun cdv A outer s0 H vs Q E hr h => ?_)
  · obtain ⟨A, s, kind, room, rfl, hR, k⟩ := h
    rfl
  obtain ⟨A, s, kind, room, rfl, hR, k⟩ := h
  refine ⟨_, (pss_cons (ps_if (pt_not (pt_val (pv 2))) (pss_one (ps_ret (pe_glob (v := .int 4) (by rfl) T.c_FAULT_TOO_MANY ⟨_, rfl⟩))) pss_nil)
    (pss_cons (ps_fld (pv 0) (pv 1) rfl)
    (pss_one (ps_ret (pe_glob (v := .int 0) (by rfl) T.c_NO_FAULT ⟨_, rfl⟩))))), Go.at ?_⟩
  refine gq_when (b := !room) (et_not (et_B (ev_var rfl))) (fun hb => ?_) fun hb => ?_
  · have e : beginM s kind room = (4, s) := if_pos hb
    rw [e] at k
    exact go_retC ev_c hR k
  · have e : beginM s kind room = (0, { s with aw := kind }) := if_neg (by rw [hb]; decide)
    rw [e] at k
    exact gq_aw (ev_var rfl) (ev_var rfl) hR fun H1 hR1 hk => go_retC ev_c hR1 fun H2 r2 k2 => k H2 r2 (hk.trans k2)
theorem ok_ListReader_take_margin (T : TX K mg) : FnOk P w K mg base CX0 2 T.f_ListReader_take_margin T.d_ListReader_take_margin ["self", "chunk"] (sp_take_chunk T takeMarginM) := by
  refine T.F_ListReader_take_margin.ok sc_ListReader_take_margin (fun vs H Q E h => ?_) (fun cdv A outer s0 H vs Q E hr h => ?_)
  · obtain ⟨A, s, c, rfl, hR, hS, hc, hl, k⟩ := h
    rfl
  obtain ⟨A, s, c, rfl, hR, hS, hc, hl, k⟩ := h
  refine ⟨_, (pss_cons (ps_if (pt_not (pt_val (pe_call (ok_is_margin T) (hr.mono (by decide)) (by rfl) T.m_is_margin T.F_is_margin.kp T.b_is_margin .nil pass0 (pa_cons (pv 1) pa_nil)))) (pss_one (ps_ret (pe_glob (v := .int 7) (by rfl) T.c_FAULT_NOT_AS_TOLD ⟨_, rfl⟩))) pss_nil)
    (pss_cons (ps_expr (pe_bm PySem.F.plainAttrs_list PySem.F.slot_list_append PySem.F.type_list_append mt_append (pe_fld (pe_fld (pv 0) rfl) rfl) (pa_cons (pe_callTy call_int_str (by rfl) T.n_int (by decide +kernel) (pa_cons (pv 1) pa_nil)) pa_nil)))
    (pss_cons (ps_if (pt_cmpR op_eq (pe_callB call_len_seq (by rfl) T.n_len PySem.boot_len (pa_cons (pe_fld (pe_fld (pv 0) rfl) rfl) pa_nil)) pe_int (nomark _)) (pss_one (ps_fld (pv 0) pe_str rfl)) pss_nil)
    (pss_one (ps_ret (pe_glob (v := .int 0) (by rfl) T.c_NO_FAULT ⟨_, rfl⟩)))))), Go.at ?_⟩
  refine gq_when (b := !isMarginM c) (et_not (et_B (ev_callV (ea_cons (ev_var rfl) ea_nil) fun H1 e Q E k => ⟨c, rfl, hc, hl, k⟩))) (fun hb => ?_) fun hb => ?_
  · have e : takeMarginM s c = (7, s) := if_pos hb
    rw [e] at k
    exact go_retC ev_c hR k
  · have hm : isMarginM c = true := by simpa using hb
    have e : takeMarginM s c = (0, { s with ms := s.ms ++ [marginV c], aw := if s.ms.length + 1 = 2 then .sign else s.aw }) := if_neg (by rw [hb]; decide)
    rw [e] at k
    obtain ⟨d, rfl, hd⟩ : ∃ d, c = [d] ∧ isDigit d = true := by
      match c, hm with
      | [d], hm =>
        have h1 : (isDigit d && decide (d.toNat - 48 ≤ 5)) = true := hm
        rw [Bool.and_eq_true] at h1
        exact ⟨d, rfl, h1.1⟩
    refine gq_app hR.ms (ev_fld (ev_fld (ev_var rfl) hR.rd.listed) hR.ld.margins) (v := .int (marginV [d] : Nat)) (ev_cbv (ea_cons (ev_var rfl) ea_nil) fun H1 e Q q => ⟨_, _, rfl, S_int hd, by rw [S_len]; show 1 ≤ 640; decide, q⟩) (by rw [List.length_map]; have := hS.ms; omega) fun H1 e1 => ?_
    have hR1 := (hR.mono e1).addM (marginV [d])
    have hk1 : Kb A H (upd H1 A.lm (.lst (nl s.ms ++ [.int (marginV [d] : Nat)]))) := (Kb.of e1).trans (Kb.upd (.inr (.inl rfl)))
    refine gq_when (b := decide (s.ms.length + 1 = 2)) (et_is (et_test (ev_op (ev_lenS (ev_fld (ev_fld (ev_var rfl) hR1.rd.listed) hR1.ld.margins) hR1.ms) ev_c (rv_eq rfl))) ?_) (fun h2 => ?_) fun h2 => ?_
    · rw [dec_int, Bool.eq_iff_iff, beq_iff_eq, decide_eq_true_eq, List.length_map, List.length_append]
      show (((s.ms.length + 1 : Nat) : Int) = 2) ↔ _
      omega
    · have h3 : s.ms.length + 1 = 2 := of_decide_eq_true h2
      rw [if_pos h3] at k
      exact go_of_seq (gq_aw (ev_is ev_c (by rw [aw_sign])) (ev_var rfl) hR1 fun H2 hR2 hk2 => go_retC ev_c hR2 fun H4 r4 k4 => k H4 r4 (hk1.trans (hk2.trans k4)))
    · have h3 : ¬ s.ms.length + 1 = 2 := of_decide_eq_false h2
      rw [if_neg h3] at k
      exact go_retC ev_c hR1 fun H4 r4 k4 => k H4 r4 (hk1.trans k4)
theorem call_begin {σ : L2.St} {T : TX K mg} {A : RdA} {s : RS} {kind : Aw} {room : Bool} {ta tk tb : TE} {D : Ends} (ho : Ev ta σ H (.ref A.r)) (hR : RdAt T H A s) (hk : Ev tk σ H (.str (S (awB kind)))) (hb : Ev tb σ H (.bl room)) (k : RetS T A (beginM s kind room) H D.rt) : Go (tRet (tMeth T.C_ListReader "begin_entry" (sp_begin T) [] E0 ta (tCons tk (tCons tb tNil)))) D σ H :=
  go_retM ho hR (fun _ _ => no_ListReader_begin_entry) (ea_cons hk (ea_cons hb ea_nil)) (fun H1 e r Q E k => ⟨A, s, kind, room, rfl, r, k⟩) k
theorem ok_ListReader_take_entry (T : TX K mg) : FnOk P w K mg base CX0 2 T.f_ListReader_take_entry T.d_ListReader_take_entry ["self", "token"] (sp_take_tok T takeEntry) := by
  refine T.F_ListReader_take_entry.ok sc_ListReader_take_entry (fun vs H Q E h => ?_) (fun cdv A outer s0 H vs Q E hr h => ?_)
  · obtain ⟨A, s, b, t, rfl, hR, hS, hT, k⟩ := h
    rfl
  obtain ⟨A, s, b, t, rfl, hR, hS, hT, k⟩ := h
  refine ⟨_, (pss_cons (ps_if (pt_cmpR op_eq (pe_fld (pv 1) rfl) (pe_glob (v := .str "") (by rfl) T.c_END ⟨_, rfl⟩) (nomark _)) (pss_one (ps_ret (pe_glob (v := .int 0) (by rfl) T.c_NO_FAULT ⟨_, rfl⟩))) pss_nil)
    (pss_cons (ps_if (PW.pt (pw_and (pt_cmpR op_eq (pe_fld (pv 1) rfl) pe_str (nomark _)) (pw_and1 (pt_cmpR op_eq (pe_callB call_len_seq (by rfl) T.n_len PySem.boot_len (pa_cons (pe_fld (pe_fld (pv 0) rfl) rfl) pa_nil)) pe_int (nomark _))))) (pss_one (ps_ret (pe_meth (pv 0) T.cl_ListReader T.mm_ListReader_begin_entry (ok_ListReader_begin_entry T) (hr.mono (by decide)) T.b_ListReader_begin_entry .nil pass0 (pa_cons pe_str (pa_cons (pe_cmpR op_lt (pe_callB call_len_seq (by rfl) T.n_len PySem.boot_len (pa_cons (pe_fld (pe_fld (pv 0) rfl) rfl) pa_nil)) (pe_glob (v := .int 24) (by rfl) T.c_MOST_WORDS ⟨_, rfl⟩) (nomark _)) pa_nil))))) pss_nil)
    (pss_cons (ps_if (pt_cmpR op_eq (pe_fld (pv 1) rfl) pe_str (nomark _)) (pss_one (ps_ret (pe_meth (pv 0) T.cl_ListReader T.mm_ListReader_begin_entry (ok_ListReader_begin_entry T) (hr.mono (by decide)) T.b_ListReader_begin_entry .nil pass0 (pa_cons pe_str (pa_cons (pe_cmpR op_lt (pe_callB call_len_seq (by rfl) T.n_len PySem.boot_len (pa_cons (pe_fld (pe_fld (pv 0) rfl) rfl) pa_nil)) (pe_glob (v := .int 40) (by rfl) T.c_MOST_PATTERNS ⟨_, rfl⟩) (nomark _)) pa_nil))))) pss_nil)
    (pss_one (ps_ret (pe_glob (v := .int 3) (by rfl) T.c_FAULT_NOT_ALLOWED ⟨_, rfl⟩)))))), Go.at ?_⟩
  refine gq_when (b := t.1 == []) (et_is (et_test (ev_op (ev_fld (ev_var rfl) hT.text) ev_c (rv_eq rfl))) (by rw [S_lit0, S_eq])) (fun hb => ?_) fun hb => ?_
  · have e : takeEntry s t = (0, s) := if_pos hb
    rw [e] at k
    exact go_retC ev_c hR k
  have e1 : takeEntry s t = if (t.1 == WDw && decide (s.ps.length = 0)) = true then beginM s .word (decide (s.ws.length < 24)) else if (t.1 == WDp) = true then beginM s .pattern (decide (s.ps.length < 40)) else (3, s) := if_neg (by rw [hb]; decide)
  rw [e1] at k
  obtain ⟨was, hwas, hWA⟩ := hR.ws
  refine gq_when (b := t.1 == WDw && decide (s.ps.length = 0)) (et_and (et_is (et_test (ev_op (ev_fld (ev_var rfl) hT.text) ev_c (rv_eq rfl))) (by rw [S_word, S_eq] <;> rfl)) fun _ => et_is (et_test (ev_op (ev_lenS (ev_fld (ev_fld (ev_var rfl) hR.rd.listed) hR.ld.patterns) hR.ps) ev_c (rv_eq rfl))) ?_) (fun hw => ?_) fun hw => ?_
  · rw [dec_int, Bool.eq_iff_iff, beq_iff_eq, decide_eq_true_eq, List.length_map]
    omega
  · rw [if_pos hw] at k
    exact call_begin (ev_var rfl) hR (ev_is ev_c (by rw [aw_word])) (ev_is (ev_op (ev_lenS (ev_fld (ev_fld (ev_var rfl) hR.rd.listed) hR.ld.words) hwas) ev_c rv_I0) (by rw [List.length_map, hWA.len]; exact congrArg V.bl (decide_eq_decide.mpr (by omega)))) k
  rw [if_neg (by rw [hw]; decide)] at k
  refine gq_when (b := t.1 == WDp) (et_is (et_test (ev_op (ev_fld (ev_var rfl) hT.text) ev_c (rv_eq rfl))) (by rw [S_pattern, S_eq] <;> rfl)) (fun hp => ?_) fun hp => ?_
  · rw [if_pos hp] at k
    exact call_begin (ev_var rfl) hR (ev_is ev_c (by rw [aw_pattern])) (ev_is (ev_op (ev_lenS (ev_fld (ev_fld (ev_var rfl) hR.rd.listed) hR.ld.patterns) hR.ps) ev_c rv_I0) (by rw [List.length_map]; exact congrArg V.bl (decide_eq_decide.mpr (by omega)))) k
  · rw [if_neg (by rw [hp]; decide)] at k
    exact go_retC ev_c hR k
theorem in_strs (c : Bytes) {α : Type} (l : List α) (f : α → Bytes) : inV (.str (S c)) (l.map fun x => V.str (S (f x))) = l.any fun x => f x == c := by
  unfold inV
  rw [List.any_map]
  refine congrArg (fun g => List.any l g) ?_
  funext x
  show (S (f x) == S c) = (f x == c)
  rw [Bool.eq_iff_iff, beq_iff_eq, beq_iff_eq]
  exact ⟨S_inj, fun h => by rw [h]⟩
theorem strs_flat {α : Type} (l : List α) (f : α → Bytes) : (l.map fun x => V.str (S (f x))).all flatV = true := by
  rw [List.all_map, List.all_eq_true]
  intro x _
  rfl
/-- a text in a list made on the way -/
theorem ev_inN {σ : L2.St} {ta tb : TE} {x : V} {xs : List V} (ha : Ev ta σ H x) (hb : EvL tb σ H xs) (hx : flatV x = true) (hf : xs.all flatV = true) : Ev (tOp (rIn K false) ta tb) σ H (.bl (inV x xs)) := ev_opL ha hb fun _ _ h _ => rv_isL (sq_of h) hx hf
theorem evr_Word {σ : L2.St} {E : XK} {tr : TA} {T : TX K mg} {c : Bytes} (h : EvA tr σ H [.str (S c)]) (hc : c.length ≤ 1000) : EvR (tMake T.C_Word (sp_Word___init__ T) [] E tr) σ H (fun H0 v H2 => ∃ p lb, v = .ref p ∧ H0 p = none ∧ H0 lb = none ∧ I_Word T H2 p (.str (S (lettersW c))) (.ref lb) ∧ H2 lb = some (.lst (nl (breaksM c)))) := by
  refine evr_mk h (fun H1 H2 v H3 e ⟨p, l, h1, h2, h3, h4⟩ => ⟨p, l, h1, fresh_back e h2, fresh_back e h3, h4⟩) fun H1 p dx e hp hd hne Q q => ⟨p, dx, c, rfl, upd_same, hc, fun H' lb hI hlb hll kk => q H' (ex_new hp hd kk) ⟨p, lb, rfl, hp, none_back hlb, hI, hll⟩⟩
theorem ok_ListReader_take_word (T : TX K mg) : FnOk P w K mg base CX0 4 T.f_ListReader_take_word T.d_ListReader_take_word ["self", "chunk"] (sp_take_chunk T takeWordM) := by
  refine T.F_ListReader_take_word.ok sc_ListReader_take_word (fun vs H Q E h => ?_) (fun cdv A outer s0 H vs Q E hr h => ?_)
  · obtain ⟨A, s, c, rfl, hR, hS, hc, hl, k⟩ := h
    rfl
  obtain ⟨A, s, c, rfl, hR, hS, hc, hl, k⟩ := h
  refine ⟨_, (pss_cons (ps_if (pt_not (pt_val (pe_call (ok_is_word T) (hr.mono (by decide)) (by rfl) T.m_is_word T.F_is_word.kp T.b_is_word .nil pass0 (pa_cons (pv 1) pa_nil)))) (pss_one (ps_ret (pe_glob (v := .int 7) (by rfl) T.c_FAULT_NOT_AS_TOLD ⟨_, rfl⟩))) pss_nil)
    (pss_cons (ps_if (pt_cmpR op_in_seq (pe_call (ok_word_letters T) (hr.mono (by decide)) (by rfl) T.m_word_letters T.F_word_letters.kp T.b_word_letters .nil pass0 (pa_cons (pv 1) pa_nil)) (pe_lc (own := [("word", 2)]) (by rfl) (sc_ListReader_take_word).nd (pi_list (pe_fld (pe_fld (pv 0) rfl) rfl)) (blkOk_by (own := [("word", 2)]) (N := N_ListReader_take_word) (sc := defScope s_ListReader_take_word) (by decide +kernel)) (fun _ _ _ _ _ => (pg_name (i := 2) (sc_ListReader_take_word).nd rfl (Or.inl rfl))) (fun _ _ _ _ _ => pts_nil) (fun _ _ _ _ _ => (pe_fldK (K := K) rfl (pv 2) rfl))) (by rfl)) (pss_one (ps_ret (pe_glob (v := .int 5) (by rfl) T.c_FAULT_TWICE ⟨_, rfl⟩))) pss_nil)
    (pss_cons (ps_expr (pe_bm PySem.F.plainAttrs_list PySem.F.slot_list_append PySem.F.type_list_append mt_append (pe_fld (pe_fld (pv 0) rfl) rfl) (pa_cons (pe_make T.M_Word (ok_Word___init__ T) (hr.mono (by decide)) (by rfl) T.m_Word T.b_Word___init__ .nil pass0 (pa_cons (pv 1) pa_nil)) pa_nil)))
    (pss_cons (ps_fld (pv 0) pe_str rfl)
    (pss_one (ps_ret (pe_glob (v := .int 0) (by rfl) T.c_NO_FAULT ⟨_, rfl⟩))))))), Go.at ?_⟩
  refine gq_when (b := !isWordM c) (et_not (et_B (ev_callV (ea_cons (ev_var rfl) ea_nil) fun H1 e Q E k => ⟨c, rfl, hc, hl, k⟩))) (fun hb => ?_) fun hb => ?_
  · have e : takeWordM s c = (7, s) := if_pos hb
    rw [e] at k
    exact go_retC ev_c hR k
  have e1 : takeWordM s c = if (s.ws.any fun w => w.x == lettersW c) = true then (5, s) else (0, { s with ws := s.ws ++ [⟨lettersW c, breaksM c⟩], aw := .sign }) := if_neg (by rw [hb]; decide)
  rw [e1] at k
  have hws := hS.ws
  refine gq_when (b := s.ws.any fun w => w.x == lettersW c) (et_is (et_test (ev_inN (xs := s.ws.map fun w => V.str (S w.x)) (ev_callV (z := .str (S (lettersW c))) (ea_cons (ev_var rfl) ea_nil) fun H1 e Q E k => ⟨c, rfl, by omega, k⟩) (el_lcP (R := WdN T A) (fun _ _ _ _ e h => WdN.mono e h) (fun w => V.str (S w.x)) (ev_fld (ev_fld (ev_var rfl) hR.rd.listed) hR.ld.words) hR.ws (by omega) (fun x => rfl) fun a w H1 e1 _ ⟨lb, _, _, _, hI, _⟩ => ev_fld (ev_var rfl) hI.letters) rfl (strs_flat _ _))) (by rw [in_strs])) (fun hd => ?_) fun hd => ?_
  · rw [if_pos hd] at k
    exact go_retC ev_c hR k
  rw [if_neg (by rw [hd]; decide)] at k
  obtain ⟨was, hwas, hWA⟩ := hR.ws
  refine go_seq (go_appR hwas (ev_fld (ev_fld (ev_var rfl) hR.rd.listed) hR.ld.words) (evr_Word (T := T) (c := c) (ea_cons (ev_var rfl) ea_nil) (by omega)) (by rw [List.length_map, hWA.len]; omega) fun v H1 H2 e1 e2 ⟨p, lb, hv, hp0, hlb, hI, hlbl⟩ => ?_)
  subst hv
  have e12 := e1.trans e2
  have ne1 : ∀ x xs, H x = some (.lst xs) → lb ≠ x := fun x xs hx z => by
    rw [z, e1 _ _ hx] at hlb
    cases hlb
  have hw : WdN T A H2 p ⟨lettersW c, breaksM c⟩ := ⟨lb, ⟨ne1 _ _ hR.ms, fun z => hR.gs lb z (fresh_back e1 hlb)⟩, ne1 _ _ hwas, ne1 _ _ hR.ps, hI, hlbl⟩
  have hR2 := (hR.mono e12).addW hw (e12 _ _ hwas)
  have hk : Kb A H (upd H2 A.lw (.lst (was.map V.ref ++ [V.ref p]))) := (Kb.of e12).trans (Kb.upd (.inr (.inr (.inl rfl))))
  exact gq_aw (ev_is ev_c (by rw [aw_sign])) (ev_var rfl) hR2 (fun H3 hR3 hk3 => go_retC ev_c hR3 fun H4 r4 k4 => k H4 r4 (hk.trans (hk3.trans k4))) _ (Ex.refl _)
theorem ok_ListReader_take_pattern (T : TX K mg) : FnOk P w K mg base CX0 3 T.f_ListReader_take_pattern T.d_ListReader_take_pattern ["self", "chunk"] (sp_take_chunk T takePatM) := by
  refine T.F_ListReader_take_pattern.ok sc_ListReader_take_pattern (fun vs H Q E h => ?_) (fun cdv A outer s0 H vs Q E hr h => ?_)
  · obtain ⟨A, s, c, rfl, hR, hS, hc, hl, k⟩ := h
    rfl
  obtain ⟨A, s, c, rfl, hR, hS, hc, hl, k⟩ := h
  refine ⟨_, (pss_cons (ps_if (pt_not (pt_val (pe_call (ok_is_pattern T) (hr.mono (by decide)) (by rfl) T.m_is_pattern T.F_is_pattern.kp T.b_is_pattern .nil pass0 (pa_cons (pv 1) pa_nil)))) (pss_one (ps_ret (pe_glob (v := .int 7) (by rfl) T.c_FAULT_NOT_AS_TOLD ⟨_, rfl⟩))) pss_nil)
    (pss_cons (ps_if (pt_cmpR op_in_seq (pe_call (ok_without_digits T) (hr.mono (by decide)) (by rfl) T.m_without_digits T.F_without_digits.kp T.b_without_digits .nil pass0 (pa_cons (pv 1) pa_nil)) (pe_lc (own := [("pattern", 2)]) (by rfl) (sc_ListReader_take_pattern).nd (pi_list (pe_fld (pe_fld (pv 0) rfl) rfl)) (blkOk_by (own := [("pattern", 2)]) (N := N_ListReader_take_pattern) (sc := defScope s_ListReader_take_pattern) (by decide +kernel)) (fun _ _ _ _ _ => (pg_name (i := 2) (sc_ListReader_take_pattern).nd rfl (Or.inl rfl))) (fun _ _ _ _ _ => pts_nil) (fun _ _ _ _ _ => (pe_call (ok_without_digits T) (hr.mono (by decide)) (by rfl) T.m_without_digits T.F_without_digits.kp T.b_without_digits .nil pass0 (pa_cons (pv 2) pa_nil)))) (by rfl)) (pss_one (ps_ret (pe_glob (v := .int 5) (by rfl) T.c_FAULT_TWICE ⟨_, rfl⟩))) pss_nil)
    (pss_cons (ps_expr (pe_bm PySem.F.plainAttrs_list PySem.F.slot_list_append PySem.F.type_list_append mt_append (pe_fld (pe_fld (pv 0) rfl) rfl) (pa_cons (pv 1) pa_nil)))
    (pss_cons (ps_fld (pv 0) pe_str rfl)
    (pss_one (ps_ret (pe_glob (v := .int 0) (by rfl) T.c_NO_FAULT ⟨_, rfl⟩))))))), Go.at ?_⟩
  refine gq_when (b := !isPatM c) (et_not (et_B (ev_callV (ea_cons (ev_var rfl) ea_nil) fun H1 e Q E k => ⟨c, rfl, hc, by omega, k⟩))) (fun hb => ?_) fun hb => ?_
  · have e : takePatM s c = (7, s) := if_pos hb
    rw [e] at k
    exact go_retC ev_c hR k
  have e1 : takePatM s c = if (s.ps.any fun p => nodig p == nodig c) = true then (5, s) else (0, { s with ps := s.ps ++ [c], aw := .sign }) := if_neg (by rw [hb]; decide)
  rw [e1] at k
  have hps := hS.ps
  have el : ∀ {σ : L2.St} {ta : TE}, Ev ta σ H (.ref A.lp) → (∀ x, wipe ((wipe σ [2]).set 2 (some x)) [2] = wipe σ [2]) → (∀ x, ((wipe σ [2]).set 2 (some x))[2]? = some (some x)) → EvL (tLc (iList K ta) (gName 2) tYes (tCall sp_without_digits [] E0 (tCons (tVar 2) tNil)) [2]) σ H (s.ps.map fun p => V.str (S (nodig p))) := fun hta hw hx => by
    rw [← given_all]
    have hlen : s.ps.length = (pV s.ps).length := (List.length_map _).symm
    rw [hlen]
    refine el_lcL (fun _ => true) (byAt s.ps fun p => V.str (S (nodig p))) hta (sq_of hR.ps) (by rw [List.length_map]; omega) hw (fun _ _ _ _ _ => et_yes) fun i x H1 e1 hi _ => ?_
    obtain ⟨p, hp, rfl⟩ := map_item hi
    rw [byAt_some hp]
    obtain ⟨h1, h2⟩ := hS.pc p (List.mem_of_getElem? hp)
    exact ev_callV (ea_cons (ev_var (hx _)) ea_nil) fun H2 e Q E k => ⟨p, rfl, h1, by omega, k⟩
  refine gq_when (b := s.ps.any fun p => nodig p == nodig c) (et_is (et_test (ev_inN (xs := s.ps.map fun p => V.str (S (nodig p))) (ev_callV (z := .str (S (nodig c))) (ea_cons (ev_var rfl) ea_nil) fun H1 e Q E k => ⟨c, rfl, hc, by omega, k⟩) (el (ev_fld (ev_fld (ev_var rfl) hR.rd.listed) hR.ld.patterns) (fun x => rfl) (fun x => rfl)) rfl (strs_flat _ _))) (by rw [in_strs])) (fun hd => ?_) fun hd => ?_
  · rw [if_pos hd] at k
    exact go_retC ev_c hR k
  rw [if_neg (by rw [hd]; decide)] at k
  refine gq_app hR.ps (ev_fld (ev_fld (ev_var rfl) hR.rd.listed) hR.ld.patterns) (ev_var rfl) (by rw [List.length_map]; omega) fun H1 e1 => ?_
  have hR2 := (hR.mono e1).addP c
  have hk : Kb A H (upd H1 A.lp (.lst (pV s.ps ++ [.str (S c)]))) := (Kb.of e1).trans (Kb.upd (.inr (.inr (.inr rfl))))
  exact gq_aw (ev_is ev_c (by rw [aw_sign])) (ev_var rfl) hR2 fun H3 hR3 hk3 => go_retC ev_c hR3 fun H4 r4 k4 => k H4 r4 (hk.trans (hk3.trans k4))
end
end LP
namespace LP
open PySem PySem.Spec PyProof.Rows L2 Evl
open VahypBase (Bytes isLetter isDigit inChunk isBlank)
structure RInv (s : RS) : Prop where
  ws : s.ws.length ≤ 24
  ws1 : s.aw = .word → s.ws.length < 24
  ps : s.ps.length ≤ 40
  ps1 : s.aw = .pattern → s.ps.length < 40
  pc : ∀ p ∈ s.ps, Chk p ∧ p.length ≤ 40
theorem RInv.small {s : RS} (h : RInv s) (hm : s.ms.length ≤ 50000) : RSmall s := ⟨hm, h.ws, h.ps, h.pc⟩
/-- a token's text where it is a chunk -/
def TkC (t : MTok) : Prop := t.1.length ≤ 40 ∧ (isLast t = false → t.1 ≠ [59] → Chk t.1)
theorem TokOk.c {b : Bytes} {t : MTok} (h : TokOk b t) : TkC t := ⟨h.len, h.chk⟩
theorem begin_inv {s : RS} {k : Aw} {r : Bool} (h : RInv s) (hw : k = .word → r = true → s.ws.length < 24) (hp : k = .pattern → r = true → s.ps.length < 40) (n : s.aw = .entry) : RInv (beginM s k r).2 := by
  unfold beginM
  by_cases c : (!r) = true
  · rw [if_pos c]
    exact h
  · rw [if_neg c]
    have hr : r = true := by simpa using c
    exact ⟨h.ws, fun z => hw z hr, h.ps, fun z => hp z hr, h.pc⟩
theorem takeM_inv {s : RS} {t : MTok} (h : RInv s) (ht : TkC t) : RInv (takeM s t).2 ∧ (takeM s t).2.ms.length ≤ s.ms.length + 1 := by
  have keep : RInv s ∧ s.ms.length ≤ s.ms.length + 1 := ⟨h, Nat.le_succ _⟩
  have chg : ∀ aw : Aw, aw ≠ .word → aw ≠ .pattern → RInv { s with aw := aw } ∧ s.ms.length ≤ s.ms.length + 1 := fun aw h1 h2 => ⟨⟨h.ws, fun z => absurd z h1, h.ps, fun z => absurd z h2, h.pc⟩, Nat.le_succ _⟩
  unfold takeM
  split
  · unfold takeStart
    split
    · exact keep
    · exact chg .margin (by decide) (by decide)
  · split
    · unfold takeSignM
      split
      · exact keep
      · exact chg .entry (by decide) (by decide)
    · split
      · rename_i hn1 hn2 hentry
        unfold takeEntry
        split
        · exact keep
        · split
          · refine ⟨begin_inv h (fun _ z => of_decide_eq_true z) (fun z => by cases z) hentry, ?_⟩
            unfold beginM
            split <;> exact Nat.le_succ _
          · split
            · refine ⟨begin_inv h (fun z => by cases z) (fun _ z => of_decide_eq_true z) hentry, ?_⟩
              unfold beginM
              split <;> exact Nat.le_succ _
            · exact keep
      · split
        · exact keep
        · rename_i hch
          have hlast : isLast t = false := by
            cases e : isLast t with
            | false => rfl
            | true =>
              rw [e, Bool.or_true] at hch
              exact absurd rfl hch
          have h59 : t.1 ≠ [59] := fun z => by
            rw [z] at hch
            exact hch rfl
          split
          · rename_i hw
            unfold takeWordM
            split
            · exact keep
            · split
              · exact keep
              · have := h.ws1 hw
                exact ⟨⟨by show (s.ws ++ [_]).length ≤ 24; rw [List.length_append]; exact this, fun z => (by cases z), h.ps, fun z => (by cases z), h.pc⟩, Nat.le_succ _⟩
          · split
            · rename_i hp
              unfold takePatM
              split
              · exact keep
              · split
                · exact keep
                · have := h.ps1 hp
                  refine ⟨⟨h.ws, fun z => (by cases z), by show (s.ps ++ [_]).length ≤ 40; rw [List.length_append]; exact this, fun z => (by cases z), fun p hpm => ?_⟩, Nat.le_succ _⟩
                  rcases List.mem_append.mp hpm with g | g
                  · exact h.pc p g
                  · rw [List.mem_singleton.mp g]
                    exact ⟨ht.2 hlast h59, ht.1⟩
            · rename_i hw hp
              unfold takeMarginM
              split
              · exact keep
              · refine ⟨⟨h.ws, fun z => ?_, h.ps, fun z => ?_, h.pc⟩, by show (s.ms ++ [_]).length ≤ _; rw [List.length_append] <;> exact Nat.le_refl _⟩
                · have z2 : (if s.ms.length + 1 = 2 then Aw.sign else s.aw) = .word := z
                  split at z2
                  · cases z2
                  · exact absurd z2 hw
                · have z2 : (if s.ms.length + 1 = 2 then Aw.sign else s.aw) = .pattern := z
                  split at z2
                  · cases z2
                  · exact absurd z2 hp
section
variable {P : Program} {w : World} {K : PySem.W.Frag} {mg : Str → Option Value} {base : Heap} {H H' : Hp}
def sp_take (T : TX K mg) : Sp := fun vs H Q _ => ∃ (A : RdA) (s : RS) (b : Addr) (t : MTok), vs = [.ref A.r, .ref b] ∧ RdAt T H A s ∧ RSmall s ∧ TkAt T H b t ∧ TkC t ∧ RetS T A (takeM s t) H Q
theorem ok_ListReader_take (T : TX K mg) : FnOk P w K mg base CX0 5 T.f_ListReader_take T.d_ListReader_take ["self", "token"] (sp_take T) := by
  refine T.F_ListReader_take.ok sc_ListReader_take (fun vs H Q E h => ?_) (fun cdv A outer s0 H vs Q E hr h => ?_)
  · obtain ⟨A, s, b, t, rfl, hR, hS, hT, hC, k⟩ := h
    rfl
  obtain ⟨A, s, b, t, rfl, hR, hS, hT, hC, k⟩ := h
  refine ⟨_, (pss_cons (ps_if (pt_cmpR op_eq (pe_fld (pv 0) rfl) pe_str (nomark _)) (pss_one (ps_ret (pe_meth (pv 0) T.cl_ListReader T.mm_ListReader_take_start (ok_ListReader_take_start T) (hr.mono (by decide)) T.b_ListReader_take_start .nil pass0 (pa_cons (pv 1) pa_nil)))) pss_nil)
    (pss_cons (ps_if (pt_cmpR op_eq (pe_fld (pv 0) rfl) pe_str (nomark _)) (pss_one (ps_ret (pe_meth (pv 0) T.cl_ListReader T.mm_ListReader_take_sign (ok_ListReader_take_sign T) (hr.mono (by decide)) T.b_ListReader_take_sign .nil pass0 (pa_cons (pv 1) pa_nil)))) pss_nil)
    (pss_cons (ps_if (pt_cmpR op_eq (pe_fld (pv 0) rfl) pe_str (nomark _)) (pss_one (ps_ret (pe_meth (pv 0) T.cl_ListReader T.mm_ListReader_take_entry (ok_ListReader_take_entry T) (hr.mono (by decide)) T.b_ListReader_take_entry .nil pass0 (pa_cons (pv 1) pa_nil)))) pss_nil)
    (pss_cons (ps_if (pt_not (pt_val (pe_meth0 (pv 1) T.cl_Token T.mm_Token_is_chunk (ok_Token_is_chunk T) (hr.mono (by decide)) T.b_Token_is_chunk .nil pass0))) (pss_one (ps_ret (pe_glob (v := .int 3) (by rfl) T.c_FAULT_NOT_ALLOWED ⟨_, rfl⟩))) pss_nil)
    (pss_cons (ps_if (pt_cmpR op_eq (pe_fld (pv 0) rfl) pe_str (nomark _)) (pss_one (ps_ret (pe_meth (pv 0) T.cl_ListReader T.mm_ListReader_take_word (ok_ListReader_take_word T) (hr.mono (by decide)) T.b_ListReader_take_word .nil pass0 (pa_cons (pe_fld (pv 1) rfl) pa_nil)))) pss_nil)
    (pss_cons (ps_if (pt_cmpR op_eq (pe_fld (pv 0) rfl) pe_str (nomark _)) (pss_one (ps_ret (pe_meth (pv 0) T.cl_ListReader T.mm_ListReader_take_pattern (ok_ListReader_take_pattern T) (hr.mono (by decide)) T.b_ListReader_take_pattern .nil pass0 (pa_cons (pe_fld (pv 1) rfl) pa_nil)))) pss_nil)
    (pss_one (ps_ret (pe_meth (pv 0) T.cl_ListReader T.mm_ListReader_take_margin (ok_ListReader_take_margin T) (hr.mono (by decide)) T.b_ListReader_take_margin .nil pass0 (pa_cons (pe_fld (pv 1) rfl) pa_nil)))))))))), Go.at ?_⟩
  have aw : ∀ {σ : L2.St} {x : Str} {a : Aw}, σ[0]? = some (some (.ref A.r)) → x = S (awB a) → EvT (tTest (tOp rEq (tFld K (tVar 0) "awaited") (tC (.str x)))) σ H (decide (s.aw = a)) := fun h0 hx => et_is (et_test (ev_op (ev_fld (ev_var h0) hR.rd.awaited) ev_c (rv_eq rfl))) (by rw [hx, S_eq, aw_eq])
  have tok : ∀ {f : RS → MTok → Nat × RS} {D : Ends} {m : Str}, (∀ v0 v1, (R_ListReader v0 v1).lookup m = none) → RetS T A (f s t) H D.rt → Go (tRet (tMeth T.C_ListReader m (sp_take_tok T f) [] E0 (tVar 0) (tCons (tVar 1) tNil))) D [some (.ref A.r), some (.ref b)] H := fun hm k => go_retM (ev_var rfl) hR hm (ea_cons (ev_var rfl) ea_nil) (fun H1 e r Q E k => ⟨A, s, b, t, rfl, r, hS, hT.mono e, k⟩) k
  unfold takeM at k
  refine gq_when (aw rfl aw_margins) (fun hb => ?_) fun hb => ?_
  · rw [if_pos (of_decide_eq_true hb)] at k
    exact tok (fun _ _ => no_ListReader_take_start) k
  rw [if_neg (of_decide_eq_false hb)] at k
  refine gq_when (aw rfl aw_sign) (fun hb => ?_) fun hb => ?_
  · rw [if_pos (of_decide_eq_true hb)] at k
    exact tok (fun _ _ => no_ListReader_take_sign) k
  rw [if_neg (of_decide_eq_false hb)] at k
  refine gq_when (aw rfl aw_entry) (fun hb => ?_) fun hb => ?_
  · rw [if_pos (of_decide_eq_true hb)] at k
    exact tok (fun _ _ => no_ListReader_take_entry) k
  rw [if_neg (of_decide_eq_false hb)] at k
  obtain ⟨tdx, htI⟩ := hT
  refine gq_when (b := t.1 == [59] || isLast t) (et_is (et_not (et_B (ev_meth (z := .bl (!(t.1 == [59] || isLast t))) (ev_var rfl) htI no_Token_is_chunk ea_nil fun H1 e Q E k => ⟨b, t, rfl, ⟨tdx, e _ _ htI⟩, k⟩))) (by rw [Bool.not_not])) (fun hb => ?_) fun hb => ?_
  · rw [if_pos hb] at k
    exact go_retC ev_c hR k
  rw [if_neg (by rw [hb]; decide)] at k
  have hlast : isLast t = false := by
    cases e : isLast t with
    | false => rfl
    | true =>
      rw [e, Bool.or_true] at hb
      cases hb
  have h59 : t.1 ≠ [59] := fun z => by
    rw [z] at hb
    cases hb
  have hT : TkAt T H b t := ⟨tdx, htI⟩
  have chunk : ∀ {f : RS → Bytes → Nat × RS} {D : Ends} {m : Str}, (∀ v0 v1, (R_ListReader v0 v1).lookup m = none) → RetS T A (f s t.1) H D.rt → Go (tRet (tMeth T.C_ListReader m (sp_take_chunk T f) [] E0 (tVar 0) (tCons (tFld K (tVar 1) "text") tNil))) D [some (.ref A.r), some (.ref b)] H := fun hm k => go_retM (ev_var rfl) hR hm (ea_cons (ev_fld (ev_var rfl) hT.text) ea_nil) (fun H1 e r Q E k => ⟨A, s, t.1, rfl, r, hS, hC.2 hlast h59, hC.1, k⟩) k
  refine gq_when (aw rfl aw_word) (fun hb => ?_) fun hb => ?_
  · rw [if_pos (of_decide_eq_true hb)] at k
    exact chunk (fun _ _ => no_ListReader_take_word) k
  rw [if_neg (of_decide_eq_false hb)] at k
  refine gq_when (aw rfl aw_pattern) (fun hb => ?_) fun hb => ?_
  · rw [if_pos (of_decide_eq_true hb)] at k
    exact chunk (fun _ _ => no_ListReader_take_pattern) k
  rw [if_neg (of_decide_eq_false hb)] at k
  exact chunk (fun _ _ => no_ListReader_take_margin) k
end
def runM : RS → List MTok → Except (Nat × Nat) RS
  | s, [] => .ok s
  | s, t :: r => if (takeM s t).1 = 0 then runM (takeM s t).2 r else .error ((takeM s t).1, t.2)
def rs0 : RS := ⟨.margins, [], [], []⟩
def readM (b : Bytes) : Except (Nat × Nat) RS :=
  if 4096 < b.length then .error (1, 4096)
  else match (toksM b).getLast? with
    | some t => if t.1 = [63] then .error (2, t.2) else runM rs0 (toksM b)
    | none => .ok rs0
section
variable {P : Program} {w : World} {K : PySem.W.Frag} {mg : Str → Option Value} {base : Heap} {H H' : Hp}
/-- a word whose list was not there at H0 -/
def WdF (T : TX K mg) (H0 H : Hp) (a : Addr) (w : Vahypa.Word) : Prop := ∃ lb, H0 lb = none ∧ I_Word T H a (.str (S w.x)) (.ref lb) ∧ H lb = some (.lst (nl w.cuts))
/-- a list read: its lists were not there at H0 -/
def LdR (T : TX K mg) (H0 H : Hp) (a : Addr) (s : RS) : Prop := ∃ lm lw lp, (H0 lm = none ∧ H0 lw = none ∧ H0 lp = none) ∧ I_Listed T H a (.ref lm) (.ref lw) (.ref lp) ∧ H lm = some (.lst (nl s.ms)) ∧ LsAt (WdF T H0) H lw s.ws ∧ H lp = some (.lst (pV s.ps))
def RdRes (T : TX K mg) (r : Except (Nat × Nat) RS) : Hp → V → Hp → Prop := fun H0 v H2 => match r with
  | .error (c, p) => ∃ a, v = .ref a ∧ I_Fault T H2 a (.int (c : Nat)) (.int (p : Nat))
  | .ok s => ∃ a, v = .ref a ∧ LdR T H0 H2 a s
theorem RdRes.back {T : TX K mg} {r : Except (Nat × Nat) RS} {H0 H1 H2 : Hp} {v : V} (e : Ex H0 H1) (h : RdRes T r H1 v H2) : RdRes T r H0 v H2 := by
  cases r with
  | error x => exact h
  | ok s =>
    obtain ⟨a, hv, lm, lw, lp, ⟨h1, h2, h3⟩, h4, h5, ⟨as, h6, h7⟩, h8⟩ := h
    exact ⟨a, hv, lm, lw, lp, ⟨fresh_back e h1, fresh_back e h2, fresh_back e h3⟩, h4, h5, ⟨as, h6, h7.mono fun a x ⟨lb, g1, g2, g3⟩ => ⟨lb, fresh_back e g1, g2, g3⟩⟩, h8⟩
theorem evr_Fault {σ : L2.St} {E : XK} {tr : TA} {T : TX K mg} {c p : Nat} (h : EvA tr σ H [.int (c : Nat), .int (p : Nat)]) : EvR (tMake T.C_Fault (spSet T.C_Fault 2 F_Fault) [] E tr) σ H (RdRes T (.error (c, p))) := (evr_make h rfl).weaken fun H1 v H2 _ _ ⟨a, dx, h1, h2, h3⟩ => ⟨a, h1, dx, h3⟩
def sp_read_list (T : TX K mg) : Sp := fun vs H Q _ => ∃ (l : Addr) (b : Bytes), vs = [.ref l] ∧ H l = some (.lst (bV b)) ∧ b.length ≤ 50000 ∧ RetR (RdRes T (readM b)) H Q
theorem last_at {α : Type} {l : List α} {x : α} (h : l.getLast? = some x) (f : α → V) : atI (l.map f) (-1) = some (f x) := by
  obtain ⟨a, rfl⟩ := List.getLast?_eq_some_iff.mp h
  rw [List.map_append]
  exact atI_last _ _
theorem ok_read_list (T : TX K mg) : FnOk P w K mg base CX0 6 T.f_read_list T.d_read_list ["text"] (sp_read_list T) := by
  refine T.F_read_list.ok sc_read_list (fun vs H Q E h => ?_) (fun cdv A outer s0 H vs Q E hr h => ?_)
  · obtain ⟨l, b, rfl, hl, hbl, k⟩ := h
    rfl
  obtain ⟨l, b, rfl, hl, hbl, k⟩ := h
  refine ⟨_, (pss_cons (ps_if (pt_cmpR op_gt (pe_callB call_len_seq (by rfl) T.n_len PySem.boot_len (pa_cons (pv 0) pa_nil)) (pe_glob (v := .int 4096) (by rfl) T.c_MOST_BYTES ⟨_, rfl⟩) (nomark _)) (pss_one (ps_ret (pe_make T.M_Fault (ok_Fault___init__ T) (hr.mono (by decide)) (by rfl) T.m_Fault T.b_Fault___init__ .nil pass0 (pa_cons (pe_glob (v := .int 1) (by rfl) T.c_FAULT_TOO_LONG ⟨_, rfl⟩) (pa_cons (pe_glob (v := .int 4096) (by rfl) T.c_MOST_BYTES ⟨_, rfl⟩) pa_nil))))) pss_nil)
    (pss_cons (ps_set (i := 1) (sc_read_list).nd rfl (Or.inl rfl) (pe_call (ok_read_tokens T) (hr.mono (by decide)) (by rfl) T.m_read_tokens T.F_read_tokens.kp T.b_read_tokens .nil pass0 (pa_cons (pv 0) pa_nil)))
    (pss_cons (ps_if (pt_cmpR op_eq (pe_fld (pe_ix ix_list (pv 1) (pe_un un_neg pe_int) (fun _ _ => rfl)) rfl) (pe_glob (v := .str "?") (by rfl) T.c_NO_TOKEN ⟨_, rfl⟩) (nomark _)) (pss_one (ps_ret (pe_make T.M_Fault (ok_Fault___init__ T) (hr.mono (by decide)) (by rfl) T.m_Fault T.b_Fault___init__ .nil pass0 (pa_cons (pe_glob (v := .int 2) (by rfl) T.c_FAULT_NO_TOKEN ⟨_, rfl⟩) (pa_cons (pe_fld (pe_ix ix_list (pv 1) (pe_un un_neg pe_int) (fun _ _ => rfl)) rfl) pa_nil))))) pss_nil)
    (pss_cons (ps_set (i := 2) (sc_read_list).nd rfl (Or.inl rfl) (pe_make0 T.M_ListReader (ok_ListReader___init__ T) (hr.mono (by decide)) (by rfl) T.m_ListReader T.b_ListReader___init__ .nil pass0))
    (pss_cons (ps_for PassesOwn.never rfl (pi_list (pv 1)) (pg_name (i := 3) (sc_read_list).nd rfl (Or.inl rfl)) (pss_cons (ps_set (i := 4) (sc_read_list).nd rfl (Or.inl rfl) (pe_meth (pv 2) T.cl_ListReader T.mm_ListReader_take (ok_ListReader_take T) (hr.mono (by decide)) T.b_ListReader_take .nil pass0 (pa_cons (pv 3) pa_nil)))
    (pss_one (ps_if (pt_cmpR op_ne (pv 4) (pe_glob (v := .int 0) (by rfl) T.c_NO_FAULT ⟨_, rfl⟩) (nomark _)) (pss_one (ps_ret (pe_make T.M_Fault (ok_Fault___init__ T) (hr.mono (by decide)) (by rfl) T.m_Fault T.b_Fault___init__ .nil pass0 (pa_cons (pv 4) (pa_cons (pe_fld (pv 3) rfl) pa_nil))))) pss_nil))))
    (pss_one (ps_ret (pe_fld (pv 2) rfl)))))))), Go.at ?_⟩
  refine gq_when (b := decide (4096 < b.length)) (et_is (et_test (ev_op (ev_lenS (ev_var rfl) hl) ev_c rv_I0)) (decide_eq_decide.mpr (by rw [List.length_map]; omega))) (fun hb => ?_) fun hb => ?_
  · have e : readM b = .error (1, 4096) := if_pos (of_decide_eq_true hb)
    rw [e] at k
    exact go_retR (evr_Fault (c := 1) (p := 4096) (ea_cons ev_c (ea_cons ev_c ea_nil))) fun v H1 H2 e1 e2 r => k v H2 (e1.trans e2) r
  have hb2 : ¬ 4096 < b.length := of_decide_eq_false hb
  obtain ⟨hlen1, hlen2⟩ := toksF_len (b.length + 1) b (tokM b (skipM b 0))
  have hlen3 : (toksM b).length ≤ 4098 := by
    unfold toksM
    omega
  obtain ⟨tl', htl⟩ : ∃ t, (toksM b).getLast? = some t := by
    cases e : (toksM b).getLast? with
    | some t => exact ⟨t, rfl⟩
    | none =>
      have h0 := List.getLast?_eq_none_iff.mp e
      unfold toksM at h0
      rw [h0] at hlen2
      exact absurd hlen2 (by decide)
  have hread : readM b = if tl'.1 = [63] then .error (2, tl'.2) else runM rs0 (toksM b) := by
    unfold readM
    rw [if_neg hb2, htl]
  refine gq_asgR (R := fun H0 v H2 => ∃ p, v = .ref p ∧ H0 p = none ∧ LsAt (TkAt T) H2 p (toksM b)) (evr_call (ea_cons (ev_var rfl) ea_nil) (fun H1 e Q E k => ⟨l, b, rfl, e _ _ hl, hbl, k⟩) fun H1 H2 v H3 e ⟨p, h1, h2, h3⟩ => ⟨p, h1, fresh_back e h2, h3⟩) fun v H1 H2 e1 e2 ⟨lt, hv, _, hTs⟩ => ?_
  subst hv
  have e12 := e1.trans e2
  obtain ⟨tas, htas, hTA⟩ := hTs
  obtain ⟨ta, hta, htav, hTl⟩ : ∃ a, tas[tas.length - 1]? = some a ∧ atI (tas.map V.ref) (-1) = some (.ref a) ∧ TkAt T H2 a tl' := by
    have hne : tas ≠ [] := fun z => by
      have := hTA.len
      rw [z] at this
      have h0 : toksM b = [] := List.length_eq_zero_iff.mp this.symm
      rw [h0] at htl
      cases htl
    have hg : tas.getLast? = some (tas.getLast hne) := List.getLast?_eq_some_getLast hne
    have hg2 : tas[tas.length - 1]? = some (tas.getLast hne) := by rw [← List.getLast?_eq_getElem?]; exact hg
    have ht2 : (toksM b)[tas.length - 1]? = some tl' := by rw [hTA.len, ← List.getLast?_eq_getElem?]; exact htl
    exact ⟨_, hg2, last_at hg V.ref, hTA.at_ _ _ _ hg2 ht2⟩
  refine gq_when (b := decide (tl'.1 = [63])) (et_is (et_test (ev_op (ev_fld (ev_op (ev_var rfl) (ev_un ev_c ru_neg) (rv_ixL (sq_of htas) htav)) hTl.text) ev_c (rv_eq rfl))) (by rw [S_lit63, S_eq, Bool.eq_iff_iff]; simp)) (fun hb => ?_) fun hb => ?_
  · rw [hread, if_pos (of_decide_eq_true hb)] at k
    exact go_retR (evr_Fault (c := 2) (p := tl'.2) (ea_cons ev_c (ea_cons (ev_fld (ev_op (ev_var rfl) (ev_un ev_c ru_neg) (rv_ixL (sq_of htas) htav)) hTl.place) ea_nil))) fun v H3 H4 e3 e4 r => k v H4 (e12.trans (e3.trans e4)) r
  rw [hread, if_neg (of_decide_eq_false hb)] at k
  refine gq_asgR (R := fun H0 v H2 => ∃ A : RdA, v = .ref A.r ∧ RdAt T H2 A rs0 ∧ H0 A.r = none ∧ H0 A.lm = none ∧ H0 A.lw = none ∧ H0 A.lp = none ∧ ∀ x, H0 x ≠ none → A.g x) (evr_mk0 fun H1 p dx e hp hd hne Q q => ⟨p, dx, rfl, upd_same, fun H' A hA hR ha hm hw hpp hg kk => q H' (ex_new hp hd kk) ⟨A, by rw [hA], hR, by rw [hA]; exact hp, none_back hm, none_back hw, none_back hpp, fun x hx => hg x fun z => hx (none_back z)⟩⟩) fun v H3 H4 e3 e4 ⟨A, hv, hR0, n1, n2, n3, n4, hg⟩ => ?_
  subst hv
  have e34 := e3.trans e4
  have m1 : H2 A.r = none := fresh_back e3 n1
  have m2 : H2 A.lm = none := fresh_back e3 n2
  have m3 : H2 A.lw = none := fresh_back e3 n3
  have m4 : H2 A.lp = none := fresh_back e3 n4
  refine gq_forL (a := lt) (xs := tas.map V.ref) (ev_var rfl) (fun i σ' H' => ∃ s y3 y4, σ' = [some (.ref l), some (.ref lt), some (.ref A.r), y3, y4] ∧ Ex H2 H' ∧ RdAt T H' A s ∧ RInv s ∧ s.ms.length ≤ i ∧ runM s ((toksM b).drop i) = runM rs0 (toksM b)) (fun i σ' H' hi ⟨_, _, _, _, eH, _⟩ => sq_of (eH _ _ htas))
    (fun H5 e5 => ⟨rs0, none, none, rfl, e34.trans e5, hR0.mono e5, ⟨Nat.zero_le _, (fun z => by cases z), Nat.zero_le _, (fun z => by cases z), fun p hp => by cases hp⟩, Nat.zero_le _, rfl⟩) ?_ ?_
  · rintro i x σ' H' hi ⟨s, y3, y4, rfl, eH, hR, hI, hms, hrun⟩
    obtain ⟨a, t, ha, ht, rfl, hT⟩ := hTA.item hi
    have hi2 := (List.getElem?_eq_some_iff.mp ht).1
    have hdrop : (toksM b).drop i = t :: (toksM b).drop (i + 1) := by
      obtain ⟨h1, e⟩ := List.getElem?_eq_some_iff.mp ht
      rw [List.drop_eq_getElem_cons h1, e]
    have hTk : TkC t := (toksM_ok b t (List.mem_of_getElem? ht)).c
    obtain ⟨hI2, hms2⟩ := takeM_inv hI hTk
    rw [hdrop] at hrun
    have hrun2 : runM s (t :: (toksM b).drop (i + 1)) = if (takeM s t).1 = 0 then runM (takeM s t).2 ((toksM b).drop (i + 1)) else .error ((takeM s t).1, t.2) := rfl
    -- code = reader.take(token)
    refine go_seq (fun H5 e5 => ?_)
    obtain ⟨rdx, hrd⟩ := hR.rd
    refine ⟨_, rfl, A.r, rdx, _, rfl, e5 _ _ hrd, no_ListReader_take, _, rfl, A, s, a, t, rfl, hR.mono e5, hI.small (by omega), hT.mono (eH.trans e5), hTk, fun H6 hR6 hk6 => ?_⟩
    have eH6 : Ex H2 H6 := Kb.ex (eH.trans e5) hk6 m1 m2 m3 m4
    refine Go.at (go_if (b := !decide ((takeM s t).1 = 0)) (et_is (et_test (ev_op (ev_var rfl) ev_c (rv_ne rfl))) ?_) (fun hc => ?_) fun hc => ?_)
    · congr 1
      rw [dec_int, Bool.eq_iff_iff, beq_iff_eq, decide_eq_true_eq]
      omega
    · have hc2 : ¬ (takeM s t).1 = 0 := by simpa using hc
      rw [if_neg hc2] at hrun2
      rw [← hrun, hrun2] at k
      exact go_retR (evr_Fault (ea_cons (ev_var rfl) (ea_cons (ev_fld (ev_var rfl) (hT.mono eH6).place) ea_nil))) fun v H7 H8 e7 e8 r => k v H8 (e12.trans (eH6.trans (e7.trans e8))) r
    · have hc2 : (takeM s t).1 = 0 := by simpa using hc
      rw [if_pos hc2] at hrun2
      exact go_next fun H7 e7 => ⟨(takeM s t).2, _, _, rfl, eH6.trans e7, hR6.mono e7, hI2, by omega, by rw [← hrun, hrun2]⟩
  · rintro σ' H' ⟨s, y3, y4, rfl, eH, hR, hI, hms, hrun⟩
    have e : (toksM b).drop (tas.map V.ref).length = [] := List.drop_of_length_le (by rw [List.length_map, hTA.len]; exact Nat.le_refl _)
    rw [e] at hrun
    have hrun2 : runM rs0 (toksM b) = .ok s := hrun.symm
    rw [hrun2] at k
    refine go_ret (ev_fld (ev_var rfl) hR.rd.listed) fun H7 e7 => k _ H7 (e12.trans (eH.trans e7)) ?_
    have hR7 := hR.mono e7
    obtain ⟨was, hwas, hWA⟩ := hR7.ws
    have hgH : ∀ x, ¬ A.g x → H x = none := fun x hx => by
      cases hz : H x with
      | none => rfl
      | some o =>
        refine (hx (hg x ?_)).elim
        rw [e3 _ _ (e12 _ _ hz)]
        intro z
        cases z
    exact ⟨A.a, rfl, A.lm, A.lw, A.lp, ⟨fresh_back e12 m2, fresh_back e12 m3, fresh_back e12 m4⟩, hR7.ld, hR7.ms, ⟨was, hwas, hWA.mono fun x w ⟨lb, h1, _, _, h4, h5⟩ => ⟨lb, hgH lb h1.2, h4, h5⟩⟩, hR7.ps⟩
end
end LP
namespace LP
open PySem PySem.Spec PyProof.Rows L2 Evl
open VahypBase (Bytes isLetter isDigit inChunk isBlank)
/-! ## the pieces of a list, as the sets want them -/
theorem famS_sub (s : Vahypa.Lst) : ∀ (l : List MP) (st : List Bytes × List MP) (q : MP), q ∈ (l.foldl (stepM s) st).2 → q ∈ st.2 ∨ q ∈ l
  | [], st, q, h => .inl h
  | p :: l, st, q, h => by
    rcases famS_sub s l (stepM s st p) q h with h1 | h1
    · unfold stepM at h1
      split at h1
      · exact .inl h1
      · have h2 : q ∈ (if goodM s p = true then st.2 ++ [p] else st.2) := h1
        split at h2
        · rcases List.mem_append.mp h2 with h3 | h3
          · exact .inl h3
          · rw [List.mem_singleton.mp h3]
            exact .inr (List.mem_cons_self ..)
        · exact .inl h2
    · exact .inr (List.mem_cons_of_mem _ h1)
theorem fam_mem {s : Vahypa.Lst} {m : Nat} {q : MP} (h : q ∈ famM s m) : ∃ g ∈ goalsM s, q ∈ goalPs s m g := by
  unfold famM famS at h
  rcases famS_sub s _ _ q h with h1 | h1
  · cases h1
  · exact List.mem_flatMap.mp h1
theorem goal_x {s : Vahypa.Lst} (W : WF s) {g : Vahypc.Goal} (hg : g ∈ goalsM s) : (wordM s g.w).length ≤ 16 := by
  have hlt := goal_word hg
  unfold wordM
  rw [List.getElem?_eq_getElem hlt]
  exact gap_le W hg _ (List.getElem?_eq_getElem hlt)
theorem fam_len {s : Vahypa.Lst} (W : WF s) {m : Nat} (h9 : (goalsM s).length ≤ 9) (hm : m ≤ 4) : (famM s m).length ≤ 2304 := by
  unfold famM
  refine Nat.le_trans (famS_len s _).2 ?_
  have h1 := flat_len (f := goalPs s m) (n := 256) (l := goalsM s) fun g hg => aroundM_len _ (goal_x W hg) _ _ hm
  have h2 : (goalsM s).length * 256 ≤ 9 * 256 := Nat.mul_le_mul_right _ h9
  omega
theorem cov_nodup (s : Vahypa.Lst) (gs : List Vahypc.Goal) (q : MP) : (covM s gs q).Nodup := by
  unfold covM
  exact List.Pairwise.filter _ List.nodup_range
theorem cov_lt (s : Vahypa.Lst) (gs : List Vahypc.Goal) (q : MP) : ∀ g ∈ covM s gs q, g < gs.length := fun g hg => List.mem_range.mp (List.mem_filter.mp hg).1
theorem pcs_ok {s : Vahypa.Lst} (W : WF s) {m : Nat} (h9 : (goalsM s).length ≤ 9) (hm : m ≤ 4) : PsOk (goalsM s).length (pcsM s m) := by
  refine ⟨?_, h9, fun p hp => ?_, fun p hp => ?_⟩
  · unfold pcsM
    rw [List.length_map]
    have := fam_len W h9 hm
    omega
  · obtain ⟨q, hq, rfl⟩ := List.mem_map.mp hp
    refine ⟨?_, cov_lt s _ q⟩
    show (covM s (goalsM s) q).length ≤ 9
    unfold covM
    refine Nat.le_trans (List.length_filter_le _ _) ?_
    rw [List.length_range]
    exact h9
  · obtain ⟨q, hq, rfl⟩ := List.mem_map.mp hp
    obtain ⟨g, hg, hqg⟩ := fam_mem hq
    have hx := goal_x W hg
    have hqx : q.x.length ≤ 1000 := around_x hx q hqg
    show (showM q).length ≤ 1000
    have hq16 : q.x.length ≤ 900 := by
      unfold goalPs aroundM at hqg
      obtain ⟨k, _, h2⟩ := List.mem_flatMap.mp hqg
      unfold lengthM at h2
      obtain ⟨o, _, h3⟩ := List.mem_flatMap.mp h2
      unfold placeM at h3
      split at h3
      · unfold pointedM at h3
        obtain ⟨h, _, h4⟩ := List.mem_flatMap.mp h3
        obtain ⟨f, _, rfl⟩ := List.mem_map.mp h4
        show ((List.drop o (wordM s g.w)).take (1 + k)).length ≤ 900
        rw [List.length_take, List.length_drop]
        omega
      · simp at h3
    have h1 := ptB_len q.f
    have h2 := ptB_len q.h
    unfold showM
    simp only [List.length_append, List.length_take, List.length_drop, List.length_cons, List.length_nil]
    omega
theorem pcs_nodup (s : Vahypa.Lst) (m : Nat) : ∀ p ∈ pcsM s m, p.2.Nodup := fun p hp => by
  obtain ⟨q, hq, rfl⟩ := List.mem_map.mp hp
  exact cov_nodup s _ q
theorem findU_put (us : List (List Nat × Nat)) (c d : List Nat) (n : Nat) : (∃ q ∈ us, q.1 = d) → ∃ q ∈ putU us c n, q.1 = d := by
  rintro ⟨q, hq, e⟩
  unfold putU
  split
  · by_cases h : q.1 = c
    · exact ⟨(q.1, n), List.mem_map.mpr ⟨q, hq, if_pos h⟩, e⟩
    · exact ⟨q, List.mem_map.mpr ⟨q, hq, if_neg h⟩, e⟩
  · exact ⟨q, List.mem_append_left _ hq, e⟩
theorem findU_new (us : List (List Nat × Nat)) (c : List Nat) (n : Nat) : ∃ q ∈ putU us c n, q.1 = c := by
  unfold putU
  split
  · rename_i h
    obtain ⟨q, hq, e⟩ := List.any_eq_true.mp h
    have e2 : q.1 = c := of_decide_eq_true e
    exact ⟨(q.1, n), List.mem_map.mpr ⟨q, hq, if_pos e2⟩, e2⟩
  · exact ⟨(c, n), List.mem_append_right _ (List.mem_singleton.mpr rfl), rfl⟩
theorem upU_has (ps : List (MP × List Nat)) : ∀ i, i ≤ ps.length → ∀ (j : Nat) p, j < i → ps[j]? = some p → ∃ q ∈ upU ps i, q.1 = p.2
  | 0, _, j, p, hj, _ => by omega
  | i + 1, hi, j, p, hj, hp => by
    have hx : ps[i]? = some ps[i] := List.getElem?_eq_getElem (by omega)
    have ih := upU_has ps i (by omega)
    rw [upU_succ ps hx]
    unfold stepU
    by_cases e : j = i
    · subst e
      rw [hx] at hp
      have ep : ps[j] = p := Option.some.inj hp
      rw [ep]
      split
      · exact findU_new _ _ _
      · rename_i hb
        unfold better1 at hb
        cases hf : findU (upU ps j) p.2 with
        | none =>
          rw [hf] at hb
          exact absurd rfl hb
        | some k => exact ⟨_, findU_in hf, rfl⟩
    · obtain h := ih j p (by omega) hp
      split
      · exact findU_put _ _ _ _ h
      · exact h
/-- each cover has its used piece -/
theorem used_has (ps : List (MP × List Nat)) {p : MP × List Nat} (hp : p ∈ ps) : ∃ k ∈ usedM ps, covOf ps k = p.2 := by
  obtain ⟨j, hj⟩ := List.getElem?_of_mem hp
  have hj2 := (List.getElem?_eq_some_iff.mp hj).1
  obtain ⟨q, hq, e⟩ := upU_has ps ps.length (Nat.le_refl _) j p hj2 hj
  obtain ⟨_, r, hr, e2⟩ := (upU_ok ps ps.length (Nat.le_refl _)).2 q hq
  refine ⟨q.2, ?_, ?_⟩
  · unfold usedM
    rw [← upU_all]
    exact List.mem_map.mpr ⟨q, hq, rfl⟩
  · unfold covOf
    rw [hr, ← e, ← e2]
theorem addRow_get (k : Nat) (rows : List (List Nat)) (g i : Nat) : (addRow k rows g)[i]? = (rows[i]?).map fun r => if g = i then r ++ [k] else r := by
  unfold addRow
  rw [List.getElem?_modify]
  cases rows[i]? with
  | none => rfl
  | some r => rfl
theorem addAll_get (k : Nat) : ∀ (cov : List Nat) (rows : List (List Nat)) (i : Nat), cov.Nodup → (cov.foldl (addRow k) rows)[i]? = (rows[i]?).map fun r => if cov.contains i = true then r ++ [k] else r
  | [], rows, i, _ => by
    show rows[i]? = _
    cases rows[i]? <;> rfl
  | g :: cov, rows, i, hn => by
    have hn2 := List.nodup_cons.mp hn
    rw [List.foldl_cons, addAll_get k cov _ i hn2.2, addRow_get]
    cases rows[i]? with
    | none => rfl
    | some r =>
      show some (if cov.contains i = true then (if g = i then r ++ [k] else r) ++ [k] else if g = i then r ++ [k] else r) = some (if (g :: cov).contains i = true then r ++ [k] else r)
      congr 1
      by_cases e : g = i
      · subst e
        have h0 : ¬ cov.contains g = true := fun z => hn2.1 (List.contains_iff_mem.mp z)
        have h1 : (g :: cov).contains g = true := List.contains_iff_mem.mpr (List.mem_cons_self ..)
        rw [if_neg h0, if_pos rfl, if_pos h1]
      · rw [if_neg e]
        have h1 : (g :: cov).contains i = cov.contains i := by
          rw [List.contains_cons, beq_eq_false_iff_ne.mpr (fun z => e z.symm), Bool.false_or]
        rw [h1]
theorem usedBy_get (n : Nat) (ps : List (MP × List Nat)) (hn : ∀ p ∈ ps, p.2.Nodup) (i : Nat) (hi : i < n) : (usedBy n ps)[i]? = some ((usedM ps).filter fun k => (covOf ps k).contains i) := by
  unfold usedBy
  suffices h : ∀ (us : List Nat) (rows : List (List Nat)) r, rows[i]? = some r → (us.foldl (addAll ps) rows)[i]? = some (r ++ us.filter fun k => (covOf ps k).contains i) by
    have := h (usedM ps) (List.replicate n []) [] (by rw [List.getElem?_replicate, if_pos hi])
    rw [List.nil_append] at this
    exact this
  intro us
  induction us with
  | nil => intro rows r hr; rw [List.filter_nil, List.append_nil]; exact hr
  | cons k us ih =>
    intro rows r hr
    have hk : (covOf ps k).Nodup := by
      unfold covOf
      split
      · rename_i p hp
        exact hn p (List.mem_of_getElem? hp)
      · exact List.nodup_nil
    have h1 : (addAll ps rows k)[i]? = some (if (covOf ps k).contains i = true then r ++ [k] else r) := by
      unfold addAll
      rw [addAll_get k _ _ i hk, hr] <;> rfl
    rw [List.foldl_cons, ih _ _ h1, List.filter_cons]
    split
    · rw [List.append_assoc] <;> rfl
    · rfl
theorem usedBy_len (n : Nat) (ps : List (MP × List Nat)) : (usedBy n ps).length = n := by
  unfold usedBy
  suffices h : ∀ (us : List Nat) (rows : List (List Nat)), (us.foldl (addAll ps) rows).length = rows.length by
    rw [h, List.length_replicate]
  intro us
  induction us with
  | nil => intro rows; rfl
  | cons k us ih =>
    intro rows
    rw [List.foldl_cons, ih]
    unfold addAll
    generalize covOf ps k = cov
    induction cov generalizing rows with
    | nil => rfl
    | cons g cov ih2 =>
      rw [List.foldl_cons, ih2]
      unfold addRow
      rw [List.length_modify]
theorem rows_ok {n : Nat} {ps : List (MP × List Nat)} (ok : PsOk n ps) (hn : ∀ p ∈ ps, p.2.Nodup) (hex : firstM n ps = none) : RowsOk n ps (usedBy n ps) := by
  have hall : ∀ g, g < n → covd ps g = true := fun g hg => by
    unfold firstM at hex
    rw [List.find?_range_eq_none] at hex
    have := hex g hg
    simpa using this
  have hrow : ∀ (g : Nat) r, (usedBy n ps)[g]? = some r → g < n ∧ r = (usedM ps).filter fun k => (covOf ps k).contains g := fun g r hr => by
    have hg := (List.getElem?_eq_some_iff.mp hr).1
    rw [usedBy_len] at hg
    rw [usedBy_get n ps hn g hg] at hr
    exact ⟨hg, (Option.some.inj hr).symm⟩
  refine ⟨usedBy_len n ps, fun r hr => ?_, fun r hr => ?_, fun g r hr k hk => ?_⟩
  · obtain ⟨g, hg⟩ := List.getElem?_of_mem hr
    obtain ⟨h1, h2⟩ := hrow g r hg
    have h3 := hall g h1
    unfold covd at h3
    obtain ⟨p, hp, hpg⟩ := List.any_eq_true.mp h3
    obtain ⟨k, hk, hkc⟩ := used_has ps hp
    intro z
    have : k ∈ r := by
      rw [h2]
      exact List.mem_filter.mpr ⟨hk, by rw [hkc]; exact hpg⟩
    rw [z] at this
    cases this
  · obtain ⟨g, hg⟩ := List.getElem?_of_mem hr
    obtain ⟨h1, h2⟩ := hrow g r hg
    rw [h2]
    have := usedM_len ps
    have := ok.few
    exact Nat.le_trans (List.length_filter_le _ _) (by omega)
  · obtain ⟨h1, h2⟩ := hrow g r hr
    rw [h2] at hk
    obtain ⟨k1, k2⟩ := List.mem_filter.mp hk
    exact ⟨List.contains_iff_mem.mp k2, usedM_at ps k k1⟩
section
variable {P : Program} {w : World} {K : PySem.W.Frag} {mg : Str → Option Value} {base : Heap} {H H' : Hp}
/-! ## the holder -/
abbrev iV (l : List Int) : List V := l.map V.int
def HoAt (T : TX K mg) (H : Hp) (h : Addr) : Option Vahypa.Lst → Prop
  | none => I_Holder T H h .non
  | some s => ∃ a, I_Holder T H h (.ref a) ∧ LdAt T H a s
theorem HoAt.mono {T : TX K mg} {h : Addr} {o : Option Vahypa.Lst} (e : Ex H H') (g : HoAt T H h o) : HoAt T H' h o := by
  cases o with
  | none => exact I_Holder.mono e g
  | some s => exact let ⟨a, h1, h2⟩ := g; ⟨a, h1.mono e, h2.mono e⟩
def OWF (o : Option Vahypa.Lst) : Prop := ∀ s, o = some s → WF s
theorem HoAt.ins {T : TX K mg} {h : Addr} {o : Option Vahypa.Lst} (g : HoAt T H h o) : ∃ dx v, H h = some (.ins T.C_Holder dx (R_Holder v)) := by
  cases o with
  | none => exact let ⟨dx, h1⟩ := g; ⟨dx, _, h1⟩
  | some s => exact let ⟨a, ⟨dx, h1⟩, _⟩ := g; ⟨dx, _, h1⟩
theorem rv_isN {x : V} : Evl.RV (fun x y H Q => y = .non ∧ Q (.bl (decide (x = .non))) H) x .non H (.bl (decide (x = .non))) := fun H1 e Q q => ⟨rfl, q H1 (Ex.refl _)⟩
def refM (s : Vahypa.Lst) (m : Int) : Int := if m < 1 ∨ 4 < m then -3 else if 9 < (goalsM s).length then -6 else 0
def refuseM (o : Option Vahypa.Lst) (m : Int) : Int := match o with
  | none => -1
  | some s => refM s m
def sp_Holder_refusal (T : TX K mg) : Sp := fun vs H Q _ => ∃ (h : Addr) (o : Option Vahypa.Lst) (m : Int), vs = [.ref h, .int m] ∧ HoAt T H h o ∧ OWF o ∧ RetV (.int (refuseM o m)) H Q
theorem ev_goals {σ : L2.St} {T : TX K mg} {a : Addr} {s : Vahypa.Lst} {te : TE} (h : Ev te σ H (.ref a)) (hL : LdAt T H a s) (W : WF s) : EvR (tCall (sp_goals_of T) [] E0 (tCons te tNil)) σ H (fun H0 v H2 => ∃ p, v = .ref p ∧ H0 p = none ∧ LsAt (GoAt T) H2 p (goalsM s)) :=
  evr_call (ea_cons h ea_nil) (fun H1 e Q E k => ⟨a, s, rfl, hL.mono e, W, k⟩) fun H1 H2 v H3 e ⟨p, h1, h2, h3⟩ => ⟨p, h1, fresh_back e h2, h3⟩
/-- len of what is made on the way -/
theorem ev_lenR {σ : L2.St} {te : TE} {n : Nat} {R : Hp → V → Hp → Prop} (h : EvR te σ H R) (k : ∀ H1 v H2, Ex H H1 → R H1 v H2 → ∃ l xs, v = .ref l ∧ H2 l = some (.lst xs) ∧ xs.length = n) : Ev (tCB (fun xs H Q => ∃ p ys, xs = [.ref p] ∧ (SqL K H p ys ∨ SqT K H p ys) ∧ Q (.int ys.length) H) (tCons te tNil)) σ H (.int (n : Nat)) := fun H1 e Q q => h H1 e _ fun v H2 e2 r => by
  obtain ⟨l, xs, rfl, h1, rfl⟩ := k H1 v H2 e r
  exact ⟨l, xs, rfl, .inl (sq_of h1), q H2 e2⟩
theorem ok_Holder_refusal (T : TX K mg) : FnOk P w K mg base CX0 4 T.f_Holder_refusal T.d_Holder_refusal ["self", "longest"] (sp_Holder_refusal T) := by
  refine T.F_Holder_refusal.ok sc_Holder_refusal (fun vs H Q E h => ?_) (fun cdv A outer s0 H vs Q E hr h => ?_)
  · obtain ⟨h, o, m, rfl, hH, hW, k⟩ := h
    rfl
  obtain ⟨h, o, m, rfl, hH, hW, k⟩ := h
  refine ⟨_, (pss_cons (ps_if (pt_cmpR op_isN (pe_fld (pv 0) rfl) pe_non (nomark _)) (pss_one (ps_ret (pe_un un_neg pe_int))) pss_nil)
    (pss_cons (ps_if (PW.pt (pw_or (pt_cmpR op_lt (pv 1) pe_int (nomark _)) (pw_or1 (pt_cmpR op_gt (pv 1) (pe_glob (v := .int 4) (by rfl) T.c_MOST_LENGTH ⟨_, rfl⟩) (nomark _))))) (pss_one (ps_ret (pe_un un_neg pe_int))) pss_nil)
    (pss_cons (ps_if (pt_cmpR op_gt (pe_callB call_len_seq (by rfl) T.n_len PySem.boot_len (pa_cons (pe_call (ok_goals_of T) (hr.mono (by decide)) (by rfl) T.m_goals_of T.F_goals_of.kp T.b_goals_of .nil pass0 (pa_cons (pe_fld (pv 0) rfl) pa_nil)) pa_nil)) (pe_glob (v := .int 9) (by rfl) T.c_MOST_GOALS ⟨_, rfl⟩) (nomark _)) (pss_one (ps_ret (pe_un un_neg pe_int))) pss_nil)
    (pss_one (ps_ret (pe_glob (v := .int 0) (by rfl) T.c_NOT_REFUSED ⟨_, rfl⟩)))))), Go.at ?_⟩
  cases o with
  | none =>
    have hI : I_Holder T H h .non := hH
    refine gq_when (b := true) (et_is (et_test (ev_op (ev_fld (ev_var rfl) hI.listed) ev_c rv_isN)) rfl) (fun _ => ?_) fun z => by cases z
    exact go_ret (ev_un ev_c ru_neg) k
  | some s =>
    obtain ⟨a, hI, hL⟩ := hH
    have W := hW s rfl
    refine gq_when (b := false) (et_is (et_test (ev_op (ev_fld (ev_var rfl) hI.listed) ev_c rv_isN)) rfl) (fun z => by cases z) fun _ => ?_
    have hk : RetV (.int (refM s m)) H Q := k
    refine gq_when (b := decide (m < 1) || decide (4 < m)) (et_or (et_test (ev_op (ev_var rfl) ev_c rv_I0)) fun _ => et_test (ev_op (ev_var rfl) ev_c rv_I0)) (fun hb => ?_) fun hb => ?_
    · have h1 : m < 1 ∨ 4 < m := by simpa using hb
      have e : refM s m = -3 := if_pos h1
      rw [e] at hk
      exact go_ret (ev_un ev_c ru_neg) hk
    have h1 : ¬ (m < 1 ∨ 4 < m) := by
      have h2 : ¬ m < 1 ∧ ¬ 4 < m := by simpa using hb
      omega
    have e1 : refM s m = if 9 < (goalsM s).length then -6 else 0 := if_neg h1
    rw [e1] at hk
    refine gq_when (b := decide (9 < (goalsM s).length)) (et_is (et_test (ev_op (ev_lenR (ev_goals (ev_fld (ev_var rfl) hI.listed) hL W) fun H1 v H2 _ ⟨p, hv, _, as, has, hA⟩ => ⟨p, _, hv, has, by rw [List.length_map, hA.len]⟩) ev_c rv_I0)) (decide_eq_decide.mpr (by omega))) (fun hb => ?_) fun hb => ?_
    · rw [if_pos (of_decide_eq_true hb)] at hk
      exact go_ret (ev_un ev_c ru_neg) hk
    · rw [if_neg (of_decide_eq_false hb)] at hk
      exact go_ret ev_c hk
def gRow (g : Vahypc.Goal) : List Int := [((g.w : Nat) : Int), ((g.g : Nat) : Int)]
def uncM (s : Vahypa.Lst) (ps : List (MP × List Nat)) : List Int := match firstM (goalsM s).length ps with
  | none => [-1, 0]
  | some k => match (goalsM s)[k]? with
    | some g => gRow g
    | none => []
def sp_Holder_uncovered (T : TX K mg) : Sp := fun vs H Q _ => ∃ (h p : Addr) (s : Vahypa.Lst) (ps : List (MP × List Nat)), vs = [.ref h, .ref p] ∧ HoAt T H h (some s) ∧ WF s ∧ (goalsM s).length ≤ 9 ∧ LsAt (PcC T) H p ps ∧ ps.length ≤ 40000 ∧ RetL (iV (uncM s ps)) H Q
theorem ok_Holder_uncovered (T : TX K mg) : FnOk P w K mg base CX0 4 T.f_Holder_uncovered T.d_Holder_uncovered ["self", "pieces"] (sp_Holder_uncovered T) := by
  refine T.F_Holder_uncovered.ok sc_Holder_uncovered (fun vs H Q E h => ?_) (fun cdv A outer s0 H vs Q E hr h => ?_)
  · obtain ⟨h, p, s, ps, rfl, ⟨a, hI, hL⟩, W, h9, hP, hps, k⟩ := h
    rfl
  obtain ⟨h, p, s, ps, rfl, ⟨a, hI, hL⟩, W, h9, hP, hps, k⟩ := h
  refine ⟨_, (pss_cons (ps_set (i := 2) (sc_Holder_uncovered).nd rfl (Or.inl rfl) (pe_call (ok_goals_of T) (hr.mono (by decide)) (by rfl) T.m_goals_of T.F_goals_of.kp T.b_goals_of .nil pass0 (pa_cons (pe_fld (pv 0) rfl) pa_nil)))
    (pss_cons (ps_set (i := 3) (sc_Holder_uncovered).nd rfl (Or.inl rfl) (pe_call (ok_first_uncovered T) (hr.mono (by decide)) (by rfl) T.m_first_uncovered T.F_first_uncovered.kp T.b_first_uncovered .nil pass0 (pa_cons (pv 2) (pa_cons (pv 1) pa_nil))))
    (pss_cons (ps_if (pt_cmpR op_eq (pv 3) (pe_un un_neg pe_int) (nomark _)) (pss_one (ps_ret (pe_lst (pa_cons (pe_un un_neg pe_int) (pa_cons pe_int pa_nil))))) pss_nil)
    (pss_one (ps_ret (pe_lst (pa_cons (pe_fld (pe_ix ix_list (pv 2) (pv 3) (fun _ _ => rfl)) rfl) (pa_cons (pe_fld (pe_ix ix_list (pv 2) (pv 3) (fun _ _ => rfl)) rfl) pa_nil)))))))), Go.at ?_⟩
  refine gq_asgR (ev_goals (ev_fld (ev_var rfl) hI.listed) hL W) fun v H1 H2 e1 e2 ⟨lg, hv, _, as, has, hA⟩ => ?_
  subst hv
  have e12 := e1.trans e2
  have hlen : (as.map V.ref).length = (goalsM s).length := by rw [List.length_map, hA.len]
  refine gq_asg (v := .int (optI (firstM (goalsM s).length ps))) (ev_callV (ea_cons (ev_var rfl) (ea_cons (ev_var rfl) ea_nil)) fun H3 e Q E k => ⟨lg, p, as.map V.ref, ps, rfl, e _ _ has, by omega, hP.monoP (e12.trans e), hps, by rw [hlen]; exact k⟩) ?_
  cases hf : firstM (goalsM s).length ps with
  | none =>
    have e : uncM s ps = [-1, 0] := by
      unfold uncM
      rw [hf]
    rw [e] at k
    refine gq_when (b := true) (et_is (et_test (ev_op (ev_var rfl) (ev_un ev_c ru_neg) (rv_eq rfl))) rfl) (fun _ => ?_) fun z => by cases z
    exact go_retL (xs := iV [-1, 0]) (el_lst (ea_cons (ev_un ev_c ru_neg) (ea_cons ev_c ea_nil)) (by decide)) fun pp H3 h1 h2 h3 => k pp H3 (fresh_back e12 h1) (e12.trans h2) h3
  | some i =>
    have hi : i < (goalsM s).length := by
      unfold firstM at hf
      exact List.mem_range.mp (List.mem_of_find?_eq_some hf)
    have hg : (goalsM s)[i]? = some (goalsM s)[i] := List.getElem?_eq_getElem hi
    have e : uncM s ps = gRow (goalsM s)[i] := by
      unfold uncM
      rw [hf]
      simp only [hg]
    rw [e] at k
    obtain ⟨ga, hga, hgav, hGo⟩ := hA.get hg
    refine gq_when (b := false) (et_is (et_test (ev_op (ev_var rfl) (ev_un ev_c ru_neg) (rv_eq rfl))) (by rw [dec_int, beq_eq_false_iff_ne]; show ((i : Nat) : Int) ≠ -1; omega)) (fun z => by cases z) fun _ => ?_
    have hix : Ev (tOp (rIxL K) (tVar 2) (tVar 3)) [some (.ref h), some (.ref p), some (.ref lg), some (.int (optI (some i)))] H2 (.ref ga) := ev_op (ev_var rfl) (ev_var rfl) (rv_ixL (sq_of has) (atI_nat hgav))
    exact go_retL (xs := iV (gRow (goalsM s)[i])) (el_lst (ea_cons (ev_fld hix hGo.word) (ea_cons (ev_fld hix hGo.gap) ea_nil)) (by show 2 ≤ 100000; decide)) fun pp H3 h1 h2 h3 => k pp H3 (fresh_back e12 h1) (e12.trans h2) h3
def sp_is_piece : Sp := fun vs H Q _ => ∃ (l : Addr) (xs : List V) (i : Int), vs = [.ref l, .int i] ∧ H l = some (.lst xs) ∧ RetV (.bl (decide (0 ≤ i) && decide (i < (xs.length : Nat)))) H Q
theorem ok_is_piece (T : TX K mg) : FnOk P w K mg base CX0 1 T.f_is_piece T.d_is_piece ["pieces", "number"] (sp_is_piece) := by
  refine T.F_is_piece.ok sc_is_piece (fun vs H Q E h => ?_) (fun cdv A outer s0 H vs Q E hr h => ?_)
  · obtain ⟨l, xs, i, rfl, hl, k⟩ := h
    rfl
  obtain ⟨l, xs, i, rfl, hl, k⟩ := h
  refine ⟨_, (pss_one (ps_ret (pe_and (pe_cmpR op_ge (pv 1) pe_int (nomark _)) (pe_one (pe_cmpR op_lt (pv 1) (pe_callB call_len_seq (by rfl) T.n_len PySem.boot_len (pa_cons (pv 0) pa_nil)) (nomark _)))))), Go.at ?_⟩
  exact go_ret (ev_andV (ev_op (ev_var rfl) ev_c rv_I0) fun _ => ev_op (ev_var rfl) (ev_lenS (ev_var rfl) hl) rv_I0) k
def toldM (c : Vahypc.Choice) : List Int := (c.bytes : Nat) :: (c.ks.length : Nat) :: c.ks.map fun (n : Nat) => (n : Int)
def sp_told_choice (T : TX K mg) : Sp := fun vs H Q _ => ∃ (a : Addr) (c : Vahypc.Choice), vs = [.ref a] ∧ ChAt T H a c ∧ c.ks.length ≤ 50000 ∧ RetL (iV (toldM c)) H Q
theorem ok_told_choice (T : TX K mg) : FnOk P w K mg base CX0 1 T.f_told_choice T.d_told_choice ["choice"] (sp_told_choice T) := by
  refine T.F_told_choice.ok sc_told_choice (fun vs H Q E h => ?_) (fun cdv A outer s0 H vs Q E hr h => ?_)
  · obtain ⟨a, c, rfl, ⟨ln, hI, hln⟩, hc, k⟩ := h
    rfl
  obtain ⟨a, c, rfl, ⟨ln, hI, hln⟩, hc, k⟩ := h
  refine ⟨_, (pss_one (ps_ret (pe_op op_cat (pe_lst (pa_cons (pe_fld (pv 0) rfl) (pa_cons (pe_callB call_len_seq (by rfl) T.n_len PySem.boot_len (pa_cons (pe_fld (pv 0) rfl) pa_nil)) pa_nil))) (pe_fld (pv 0) rfl)))), Go.at ?_⟩
  have e : iV (toldM c) = [.int (c.bytes : Nat), .int (c.ks.length : Nat)] ++ nl c.ks := by
    unfold iV toldM nl
    rw [List.map_cons, List.map_cons, List.map_map] <;> rfl
  rw [e] at k
  exact go_retL (el_cat (el_lst (ea_cons (ev_fld (ev_var rfl) hI.size) (ea_cons (ev_is (ev_lenS (ev_fld (ev_var rfl) hI.numbers) hln) (by rw [List.length_map])) ea_nil)) (by show 2 ≤ 100000; decide)) (ev_fld (ev_var rfl) hI.numbers) hln (by rw [List.length_map]; show 2 + _ ≤ _; omega)) k
end
end LP
namespace LP
open PySem PySem.Spec PyProof.Rows L2 Evl
open VahypBase (Bytes isLetter isDigit inChunk isBlank)
def withM (o : Option Vahypa.Lst) (m : Int) (f : Vahypa.Lst → Nat → List Int) : List Int := if refuseM o m = 0 then (match o with
  | none => []
  | some s => f s m.toNat) else [refuseM o m]
def goalsA (o : Option Vahypa.Lst) : List Int := match o with
  | none => [-1]
  | some s => (((goalsM s).length : Nat) : Int) :: (goalsM s).flatMap gRow
def familyA (s : Vahypa.Lst) (m : Nat) : List Int := [(((pcsM s m).length : Nat) : Int), (((usedM (pcsM s m)).length : Nat) : Int)] ++ uncM s (pcsM s m)
def isPc (n : Nat) (i : Int) : Bool := decide (0 ≤ i) && decide (i < (n : Int))
abbrev bI (b : Bytes) : List Int := b.map fun c => ((c.toNat : Nat) : Int)
abbrev nI (l : List Nat) : List Int := l.map fun (n : Nat) => (n : Int)
def pieceA (s : Vahypa.Lst) (m : Nat) (i : Int) : List Int := if isPc (pcsM s m).length i = true then (match (pcsM s m)[i.toNat]? with
  | some p => (((showM p.1).length : Nat) : Int) :: (bI (showM p.1) ++ (((p.2.length : Nat) : Int) :: nI p.2))
  | none => []) else [-2]
def leastA (s : Vahypa.Lst) (m : Nat) (kind : Int) : List Int := if (!decide (kind = 0) && !decide (kind = 1)) = true then [-4]
  else if (firstM (goalsM s).length (pcsM s m)).isNone = true then 1 :: toldM (leastM (pcsM s m) kind (goalsM s).length) else 0 :: uncM s (pcsM s m)
def greedyA (s : Vahypa.Lst) (m : Nat) : List Int := if (firstM (goalsM s).length (pcsM s m)).isNone = true then 1 :: toldM (greedyM (pcsM s m) (goalsM s).length) else 0 :: uncM s (pcsM s m)
def boundA (s : Vahypa.Lst) (m : Nat) : List Int := (((greatM (goalsM s).length (pcsM s m)).length : Nat) : Int) :: nI (greatM (goalsM s).length (pcsM s m))
def chosenM (ps : List (MP × List Nat)) (l : List Int) : List (MP × List Nat) := l.filterMap fun z => ps[z.toNat]?
def checkA (s : Vahypa.Lst) (m : Nat) (l : List Int) : List Int := if (l.all (isPc (pcsM s m).length)) = true then
  (if (firstM (goalsM s).length (chosenM (pcsM s m) l)).isNone = true then [1, ((l.length : Nat) : Int)] else 0 :: uncM s (chosenM (pcsM s m) l)) else [-4]
theorem refM_zero {s : Vahypa.Lst} {m : Int} (h : refM s m = 0) : 1 ≤ m ∧ m ≤ 4 ∧ (goalsM s).length ≤ 9 := by
  unfold refM at h
  split at h
  · cases h
  · split at h
    · cases h
    · omega
theorem withM_some {s : Vahypa.Lst} {m : Int} {f : Vahypa.Lst → Nat → List Int} (h : refuseM (some s) m = 0) : withM (some s) m f = f s m.toNat := if_pos h
theorem leastM_len (ps : List (MP × List Nat)) (kind : Int) (n : Nat) : (leastM ps kind n).ks.length ≤ 2 ^ n := by
  unfold leastM
  cases e : (dpT ps (usedBy n ps) kind n (2 ^ n - 1))[0]? with
  | none => exact Nat.zero_le _
  | some c =>
    have := dpT_ks ps (usedBy n ps) kind n (2 ^ n - 1) c (List.mem_of_getElem? e)
    have h1 : 1 ≤ 2 ^ n := Nat.one_le_two_pow
    show c.ks.length ≤ _
    exact Nat.le_trans this (Nat.sub_le _ _)
theorem greedyF_len (ps : List (MP × List Nat)) : ∀ (f : Nat) (cs : List Nat) (x : Vahypc.Choice), (greedyF ps f cs x).ks.length ≤ x.ks.length + f
  | 0, cs, x => Nat.le_refl _
  | f + 1, cs, x => by
    unfold greedyF
    cases mostM ps cs with
    | none => exact Nat.le_add_right _ _
    | some k =>
      have := greedyF_len ps f ((covOf ps k).foldl putC cs) ⟨x.bytes + lnOf ps k, x.ks ++ [k]⟩
      have e : (x.ks ++ [k]).length = x.ks.length + 1 := List.length_append
      show (greedyF ps f _ _).ks.length ≤ _
      have e2 : (⟨x.bytes + lnOf ps k, x.ks ++ [k]⟩ : Vahypc.Choice).ks.length = x.ks.length + 1 := e
      omega
theorem uncM_len (s : Vahypa.Lst) (ps : List (MP × List Nat)) : (uncM s ps).length ≤ 2 := by
  unfold uncM
  split
  · exact Nat.le_refl _
  · split
    · exact Nat.le_refl _
    · exact Nat.zero_le _
theorem greatM_len (n : Nat) (ps : List (MP × List Nat)) : (greatM n ps).length ≤ n := by
  unfold greatM
  suffices h : ∀ (l : List Nat) (b : List Nat), b.length ≤ n → (l.foldl (pickM n (joinP n ps)) b).length ≤ n from h _ _ (Nat.zero_le _)
  intro l
  induction l with
  | nil => intro b hb; exact hb
  | cons m l ih =>
    intro b hb
    refine ih _ ?_
    unfold pickM
    split
    · unfold byNum
      refine Nat.le_trans (List.length_filter_le _ _) ?_
      rw [List.length_range]
      exact Nat.le_refl _
    · exact hb
theorem iV_nI (l : List Nat) : iV (nI l) = nl l := by
  unfold iV nI nl
  rw [List.map_map] <;> rfl
section
variable {P : Program} {w : World} {K : PySem.W.Frag} {mg : Str → Option Value} {base : Heap} {H H' : Hp}
/-- what each call begins with: its refusal -/
theorem gq_ref {σ : L2.St} {T : TX K mg} {h : Addr} {o : Option Vahypa.Lst} {m : Int} {i : Nat} {ta tm : TE} {tz : TS} {D : Ends} {f : Vahypa.Lst → Nat → List Int} (ha : Ev ta σ H (.ref h)) (hm : Ev tm σ H (.int m)) (hi : ∀ x, (σ.set i (some x))[i]? = some (some x)) (hH : HoAt T H h o) (hW : OWF o) (k : RetL (iV (withM o m f)) H D.rt)
    (rest : ∀ (s : Vahypa.Lst) (n : Nat), o = some s → m = (n : Nat) → n ≤ 4 → (goalsM s).length ≤ 9 → RetL (iV (f s n)) H D.rt → Go tz D (σ.set i (some (.int 0))) H) :
    Go (tSeq (tAsg (tMeth T.C_Holder "refusal" (sp_Holder_refusal T) [] E0 ta (tCons tm tNil)) (gName i)) (tSeq (tIfS (tTest (tOp rNe (tVar i) (tC (.int 0)))) (tRet (tLst (tCons (tVar i) tNil))) tNext) tz)) D σ H := by
  obtain ⟨dx, v, hI⟩ := hH.ins
  refine gq_asg (v := .int (refuseM o m)) (ev_meth ha hI no_Holder_refusal (ea_cons hm ea_nil) fun H1 e Q E k => ⟨h, o, m, rfl, hH.mono e, hW, k⟩) ?_
  refine gq_when (b := !decide (refuseM o m = 0)) (et_is (et_test (ev_op (ev_var (hi _)) ev_c (rv_ne rfl))) ?_) (fun hb => ?_) fun hb => ?_
  · congr 1
    rw [dec_int, Bool.eq_iff_iff, beq_iff_eq, decide_eq_true_eq]
  · have h1 : ¬ refuseM o m = 0 := by simpa using hb
    have e : withM o m f = [refuseM o m] := if_neg h1
    rw [e] at k
    exact go_retL (xs := iV [refuseM o m]) (el_lst (ea_cons (ev_var (hi _)) ea_nil) (by show 1 ≤ 100000; decide)) k
  · have h1 : refuseM o m = 0 := by simpa using hb
    cases o with
    | none => exact absurd h1 (by show ¬ (-1 : Int) = 0; decide)
    | some s =>
      obtain ⟨m1, m2, m3⟩ := refM_zero (s := s) (m := m) h1
      rw [withM_some h1] at k
      rw [h1]
      obtain ⟨n, rfl⟩ : ∃ n : Nat, m = (n : Nat) := ⟨m.toNat, by omega⟩
      rw [Int.toNat_natCast] at k
      exact rest s n rfl rfl (by omega) m3 k
theorem ev_fam {σ : L2.St} {T : TX K mg} {a : Addr} {s : Vahypa.Lst} {m : Nat} {te tm : TE} (h : Ev te σ H (.ref a)) (hm : Ev tm σ H (.int (m : Nat))) (hL : LdAt T H a s) (W : WF s) (h9 : (goalsM s).length ≤ 9) (h4 : m ≤ 4) : EvR (tCall (sp_family_up_to T) [] E0 (tCons te (tCons tm tNil))) σ H (fun H0 v H2 => ∃ p, v = .ref p ∧ H0 p = none ∧ LsAt (PcC T) H2 p (pcsM s m)) :=
  evr_call (ea_cons h (ea_cons hm ea_nil)) (fun H1 e Q E k => ⟨a, s, m, rfl, hL.mono e, W, h9, h4, k⟩) fun H1 H2 v H3 e ⟨p, h1, h2, h3⟩ => ⟨p, h1, fresh_back e h2, h3⟩
theorem el_unc {σ : L2.St} {T : TX K mg} {h p : Addr} {s : Vahypa.Lst} {ps : List (MP × List Nat)} {ta tp : TE} (ha : Ev ta σ H (.ref h)) (hp : Ev tp σ H (.ref p)) (hH : HoAt T H h (some s)) (W : WF s) (h9 : (goalsM s).length ≤ 9) (hP : LsAt (PcC T) H p ps) (hps : ps.length ≤ 40000) : EvL (tMeth T.C_Holder "uncovered" (sp_Holder_uncovered T) [] E0 ta (tCons tp tNil)) σ H (iV (uncM s ps)) := fun H1 e Q q => by
  obtain ⟨dx, v, hI⟩ := hH.ins
  exact ha H1 e _ fun H2 e2 => ⟨h, dx, _, rfl, e2 _ _ (e _ _ hI), no_Holder_uncovered, hp H2 (e.trans e2) _ fun H3 e3 => ⟨h, p, s, ps, rfl, hH.mono ((e.trans e2).trans e3), W, h9, hP.monoP ((e.trans e2).trans e3), hps, fun pp H4 h1 h2 h3 => q pp H4 (fresh_back (e2.trans e3) h1) ((e2.trans e3).trans h2) h3⟩⟩
def sp_Holder_goals (T : TX K mg) : Sp := fun vs H Q _ => ∃ (h : Addr) (o : Option Vahypa.Lst), vs = [.ref h] ∧ HoAt T H h o ∧ OWF o ∧ RetL (iV (goalsA o)) H Q
theorem goalsM_len {s : Vahypa.Lst} (W : WF s) : (goalsM s).length ≤ 384 := by
  have := goals_len W s.words.zipIdx.length
  rw [List.take_length] at this
  exact this
theorem ok_Holder_goals (T : TX K mg) : FnOk P w K mg base CX0 4 T.f_Holder_goals T.d_Holder_goals ["self"] (sp_Holder_goals T) := by
  refine T.F_Holder_goals.ok sc_Holder_goals (fun vs H Q E h => ?_) (fun cdv A outer s0 H vs Q E hr h => ?_)
  · obtain ⟨h, o, rfl, hH, hW, k⟩ := h
    rfl
  obtain ⟨h, o, rfl, hH, hW, k⟩ := h
  refine ⟨_, (pss_cons (ps_if (pt_cmpR op_isN (pe_fld (pv 0) rfl) pe_non (nomark _)) (pss_one (ps_ret (pe_lst (pa_cons (pe_un un_neg pe_int) pa_nil)))) pss_nil)
    (pss_cons (ps_set (i := 1) (sc_Holder_goals).nd rfl (Or.inl rfl) (pe_call (ok_goals_of T) (hr.mono (by decide)) (by rfl) T.m_goals_of T.F_goals_of.kp T.b_goals_of .nil pass0 (pa_cons (pe_fld (pv 0) rfl) pa_nil)))
    (pss_cons (ps_set (i := 2) (sc_Holder_goals).nd rfl (Or.inl rfl) (pe_lst (pa_cons (pe_callB call_len_seq (by rfl) T.n_len PySem.boot_len (pa_cons (pv 1) pa_nil)) pa_nil)))
    (pss_cons (ps_for PassesOwn.never rfl (pi_list (pv 1)) (pg_name (i := 3) (sc_Holder_goals).nd rfl (Or.inl rfl)) (pss_one (ps_expr (pe_bm PySem.F.plainAttrs_list PySem.F.slot_list_extend PySem.F.type_list_extend mt_extend (pv 2) (pa_cons (pe_lst (pa_cons (pe_fld (pv 3) rfl) (pa_cons (pe_fld (pv 3) rfl) pa_nil))) pa_nil)))))
    (pss_one (ps_ret (pv 2))))))), Go.at ?_⟩
  cases o with
  | none =>
    have hI : I_Holder T H h .non := hH
    refine gq_when (b := true) (et_is (et_test (ev_op (ev_fld (ev_var rfl) hI.listed) ev_c rv_isN)) rfl) (fun _ => ?_) fun z => by cases z
    exact go_retL (xs := iV [-1]) (el_lst (ea_cons (ev_un ev_c ru_neg) ea_nil) (by decide)) k
  | some s =>
    obtain ⟨a, hI, hL⟩ := hH
    have W := hW s rfl
    refine gq_when (b := false) (et_is (et_test (ev_op (ev_fld (ev_var rfl) hI.listed) ev_c rv_isN)) rfl) (fun z => by cases z) fun _ => ?_
    refine gq_asgR (ev_goals (ev_fld (ev_var rfl) hI.listed) hL W) fun v H1 H2 e1 e2 ⟨lg, hv, _, as, has, hA⟩ => ?_
    subst hv
    have e12 := e1.trans e2
    have hlen : (as.map V.ref).length = (goalsM s).length := by rw [List.length_map, hA.len]
    have hg384 := goalsM_len W
    refine gq_asgL (xs := [.int ((goalsM s).length : Nat)]) (el_lst (ea_cons (ev_is (ev_lenS (ev_var rfl) has) (by rw [hlen])) ea_nil) (by show 1 ≤ 100000; decide)) fun l H3 nl3 e3 hl => ?_
    have nlH : H l = none := fresh_back e12 nl3
    refine gq_forL (a := lg) (xs := as.map V.ref) (ev_var rfl) (fun i σ' H' => ∃ y3, σ' = [some (.ref h), some (.ref lg), some (.ref l), y3] ∧ Ex H2 H' ∧ H' l = some (.lst (iV ((((goalsM s).length : Nat) : Int) :: ((goalsM s).take i).flatMap gRow)))) (fun i σ' H' hi ⟨_, _, e, _⟩ => sq_of (e _ _ has)) (fun H4 e4 => ⟨none, rfl, e3.trans e4, e4 _ _ hl⟩) ?_ ?_
    · rintro i x σ' H' hi ⟨y3, rfl, eH, hL'⟩
      obtain ⟨ga, g, hga, hgd, rfl, hGo⟩ := hA.item hi
      have hGo' := hGo.mono eH
      refine go_extR hL' (ev_var rfl) (EvL.r (xs := iV (gRow g)) (el_lst (ea_cons (ev_fld (ev_var rfl) hGo'.word) (ea_cons (ev_fld (ev_var rfl) hGo'.gap) ea_nil)) (by show 2 ≤ 100000; decide))) fun v H4 H5 e4 e5 ⟨b, hv, hb0, hb⟩ => ?_
      have hnl : H2 l = none := nl3
      refine ⟨b, iV (gRow g), hv, hb, ?_, _, rfl, Ex.mut (eH.trans (e4.trans e5)) hnl, ?_⟩
      · have h1 := flat_len (f := gRow) (n := 2) (l := (goalsM s).take i) fun g _ => Nat.le_refl _
        have h2 : ((goalsM s).take i).length ≤ (goalsM s).length := by
          rw [List.length_take]
          omega
        rw [List.length_map, List.length_map, List.length_cons]
        show _ + 1 + 2 ≤ _
        omega
      · rw [upd_same, take_next hgd, List.flatMap_append]
        unfold iV
        rw [← List.map_append, List.cons_append]
        simp
    · rintro σ' H' ⟨y3, rfl, eH, hL'⟩
      rw [hlen, List.take_length] at hL'
      exact go_ret (ev_var rfl) fun H4 e4 => k l H4 nlH (e12.trans (eH.trans e4)) (e4 _ _ hL')
def sp_h1 (T : TX K mg) (f : Vahypa.Lst → Nat → List Int) : Sp := fun vs H Q _ => ∃ (h : Addr) (o : Option Vahypa.Lst) (m : Int), vs = [.ref h, .int m] ∧ HoAt T H h o ∧ OWF o ∧ RetL (iV (withM o m f)) H Q
def sp_h2 (T : TX K mg) (f : Int → Vahypa.Lst → Nat → List Int) : Sp := fun vs H Q _ => ∃ (h : Addr) (o : Option Vahypa.Lst) (m i : Int), vs = [.ref h, .int m, .int i] ∧ HoAt T H h o ∧ OWF o ∧ RetL (iV (withM o m (f i))) H Q
theorem ok_Holder_family (T : TX K mg) : FnOk P w K mg base CX0 6 T.f_Holder_family T.d_Holder_family ["self", "longest"] (sp_h1 T familyA) := by
  refine T.F_Holder_family.ok sc_Holder_family (fun vs H Q E h => ?_) (fun cdv A outer s0 H vs Q E hr h => ?_)
  · obtain ⟨h, o, m, rfl, hH, hW, k⟩ := h
    rfl
  obtain ⟨h, o, m, rfl, hH, hW, k⟩ := h
  refine ⟨_, (pss_cons (ps_set (i := 2) (sc_Holder_family).nd rfl (Or.inl rfl) (pe_meth (pv 0) T.cl_Holder T.mm_Holder_refusal (ok_Holder_refusal T) (hr.mono (by decide)) T.b_Holder_refusal .nil pass0 (pa_cons (pv 1) pa_nil)))
    (pss_cons (ps_if (pt_cmpR op_ne (pv 2) (pe_glob (v := .int 0) (by rfl) T.c_NOT_REFUSED ⟨_, rfl⟩) (nomark _)) (pss_one (ps_ret (pe_lst (pa_cons (pv 2) pa_nil)))) pss_nil)
    (pss_cons (ps_set (i := 3) (sc_Holder_family).nd rfl (Or.inl rfl) (pe_call (ok_family_up_to T) (hr.mono (by decide)) (by rfl) T.m_family_up_to T.F_family_up_to.kp T.b_family_up_to .nil pass0 (pa_cons (pe_fld (pv 0) rfl) (pa_cons (pv 1) pa_nil))))
    (pss_one (ps_ret (pe_op op_cat (pe_lst (pa_cons (pe_callB call_len_seq (by rfl) T.n_len PySem.boot_len (pa_cons (pv 3) pa_nil)) (pa_cons (pe_callB call_len_seq (by rfl) T.n_len PySem.boot_len (pa_cons (pe_call (ok_used_pieces T) (hr.mono (by decide)) (by rfl) T.m_used_pieces T.F_used_pieces.kp T.b_used_pieces .nil pass0 (pa_cons (pv 3) pa_nil)) pa_nil)) pa_nil))) (pe_meth (pv 0) T.cl_Holder T.mm_Holder_uncovered (ok_Holder_uncovered T) (hr.mono (by decide)) T.b_Holder_uncovered .nil pass0 (pa_cons (pv 3) pa_nil)))))))), Go.at ?_⟩
  refine gq_ref (ev_var rfl) (ev_var rfl) (fun x => rfl) hH hW k fun s n ho hm h4 h9 k2 => ?_
  subst ho hm
  have W := hW s rfl
  obtain ⟨a, hI, hL⟩ := id hH
  refine gq_asgR (ev_fam (ev_fld (ev_var rfl) hI.listed) (ev_var rfl) hL W h9 h4) fun v H1 H2 e1 e2 ⟨p, hv, _, hP⟩ => ?_
  subst hv
  have e12 := e1.trans e2
  have ok := pcs_ok W h9 h4
  have hfew := ok.few
  obtain ⟨pas, hpas, hPA⟩ := id hP
  have hu := uncM_len s (pcsM s n)
  refine go_retL (xs := iV (familyA s n)) ?_ fun pp H3 h1 h2 h3 => k2 pp H3 (fresh_back e12 h1) (e12.trans h2) h3
  have e : iV (familyA s n) = [.int ((pcsM s n).length : Nat), .int ((usedM (pcsM s n)).length : Nat)] ++ iV (uncM s (pcsM s n)) := by
    unfold iV familyA
    rw [List.map_append] <;> rfl
  rw [e]
  refine el_catLL (el_lst (ea_cons (ev_is (ev_lenS (ev_var rfl) hpas) (by rw [List.length_map, hPA.len])) (ea_cons (ev_is (ev_lenNL (xs := nl (usedM (pcsM s n))) (elc_call (ea_cons (ev_var rfl) ea_nil) fun H3 e Q E k => ⟨p, _, rfl, hP.monoP e, by omega, ok.sh, k⟩)) (by rw [List.length_map])) ea_nil)) (by show 2 ≤ 100000; decide)) (el_unc (ev_var rfl) (ev_var rfl) (hH.mono e12) W h9 hP (by omega)) (by rw [List.length_map]; show 2 + _ ≤ _; omega)
end
end LP
namespace LP
open PySem PySem.Spec PyProof.Rows L2 Evl
open VahypBase (Bytes isLetter isDigit inChunk isBlank)
theorem isPc_nat {n : Nat} {i : Int} (h : isPc n i = true) : ∃ k : Nat, i = (k : Nat) ∧ k < n := by
  unfold isPc at h
  rw [Bool.and_eq_true, decide_eq_true_eq, decide_eq_true_eq] at h
  exact ⟨i.toNat, by omega, by omega⟩
section
variable {P : Program} {w : World} {K : PySem.W.Frag} {mg : Str → Option Value} {base : Heap} {H H' : Hp}
theorem ev_isPc {σ : L2.St} {ta tb : TE} {p : Addr} {xs : List V} {i : Int} (ha : Ev ta σ H (.ref p)) (hb : Ev tb σ H (.int i)) (hp : H p = some (.lst xs)) : Ev (tCall sp_is_piece [] E0 (tCons ta (tCons tb tNil))) σ H (.bl (isPc xs.length i)) :=
  ev_callV (ea_cons ha (ea_cons hb ea_nil)) fun H3 e Q E k => ⟨p, xs, i, rfl, e _ _ hp, k⟩
theorem el_ord {σ : L2.St} {tl : TE} {j : Nat} {b : Bytes} (h : Ev tl σ H (.str (S b))) (hz : b.length ≤ 40000) {vs : List Nat} (hw : ∀ x, wipe ((wipe σ vs).set j (some x)) vs = wipe σ vs) (hj : ∀ x, ((wipe σ vs).set j (some x))[j]? = some (some x)) :
    EvL (tLc (iStr tl) (gName j) tYes (tCB (fun xs H Q => ∃ x, xs = [.str x] ∧ x.length = 1 ∧ Q (.int (x.cps.getD 0 0 : Nat)) H) (tCons (tVar j) tNil)) vs) σ H (iV (bI b)) := by
  have e : iV (bI b) = given (S b).cps.size (fun _ => true) (byAt b fun c => V.int ((c.toNat : Nat) : Int)) := by
    rw [show (S b).cps.size = b.length from S_len b, given_all]
    unfold iV bI
    rw [List.map_map] <;> rfl
  rw [e]
  refine el_lcS _ _ h (by rw [S_len]; exact hz) hw (fun _ _ _ _ _ => et_yes) fun i c H1 e1 hi hf => ?_
  obtain ⟨x, hx, rfl⟩ := S_item hi
  rw [byAt_some hx]
  exact ev_cbv (ea_cons (ev_var (hj _)) ea_nil) fun H2 e2 Q q => ⟨_, rfl, rfl, q⟩
theorem ok_Holder_piece (T : TX K mg) : FnOk P w K mg base CX0 6 T.f_Holder_piece T.d_Holder_piece ["self", "longest", "number"] (sp_h2 T (fun i s m => pieceA s m i)) := by
  refine T.F_Holder_piece.ok sc_Holder_piece (fun vs H Q E h => ?_) (fun cdv A outer s0 H vs Q E hr h => ?_)
  · obtain ⟨h, o, m, i, rfl, hH, hW, k⟩ := h
    rfl
  obtain ⟨h, o, m, i, rfl, hH, hW, k⟩ := h
  refine ⟨_, (pss_cons (ps_set (i := 3) (sc_Holder_piece).nd rfl (Or.inl rfl) (pe_meth (pv 0) T.cl_Holder T.mm_Holder_refusal (ok_Holder_refusal T) (hr.mono (by decide)) T.b_Holder_refusal .nil pass0 (pa_cons (pv 1) pa_nil)))
    (pss_cons (ps_if (pt_cmpR op_ne (pv 3) (pe_glob (v := .int 0) (by rfl) T.c_NOT_REFUSED ⟨_, rfl⟩) (nomark _)) (pss_one (ps_ret (pe_lst (pa_cons (pv 3) pa_nil)))) pss_nil)
    (pss_cons (ps_set (i := 4) (sc_Holder_piece).nd rfl (Or.inl rfl) (pe_call (ok_family_up_to T) (hr.mono (by decide)) (by rfl) T.m_family_up_to T.F_family_up_to.kp T.b_family_up_to .nil pass0 (pa_cons (pe_fld (pv 0) rfl) (pa_cons (pv 1) pa_nil))))
    (pss_cons (ps_if (pt_not (pt_val (pe_call (ok_is_piece T) (hr.mono (by decide)) (by rfl) T.m_is_piece T.F_is_piece.kp T.b_is_piece .nil pass0 (pa_cons (pv 4) (pa_cons (pv 2) pa_nil))))) (pss_one (ps_ret (pe_lst (pa_cons (pe_un un_neg pe_int) pa_nil)))) pss_nil)
    (pss_cons (ps_setLc (i := 5) (own := [("sign", 7)]) (by rfl) (sc_Holder_piece).nd rfl rfl (sw_true rfl rfl rfl (by decide +kernel)) (pi_str (pe_fld (pe_ix ix_list (pv 4) (pv 2) (fun _ _ => rfl)) rfl)) (blkOk_by (own := [("sign", 7)]) (N := N_Holder_piece) (sc := defScope s_Holder_piece) (by decide +kernel)) (fun _ _ _ _ _ => (pg_name (i := 7) (sc_Holder_piece).nd rfl (Or.inl rfl))) (fun _ _ _ _ _ => pts_nil) (fun _ _ _ _ _ => (pe_callB call_ord (by rfl) T.n_ord (by decide +kernel) (pa_cons (pv 7) pa_nil))))
    (pss_cons (ps_set (i := 6) (sc_Holder_piece).nd rfl (Or.inl rfl) (pe_fld (pe_ix ix_list (pv 4) (pv 2) (fun _ _ => rfl)) rfl))
    (pss_one (ps_ret (pe_op op_cat (pe_op op_cat (pe_op op_cat (pe_lst (pa_cons (pe_callB call_len_seq (by rfl) T.n_len PySem.boot_len (pa_cons (pv 5) pa_nil)) pa_nil)) (pv 5)) (pe_lst (pa_cons (pe_callB call_len_seq (by rfl) T.n_len PySem.boot_len (pa_cons (pv 6) pa_nil)) pa_nil))) (pv 6)))))))))), Go.at ?_⟩
  refine gq_ref (ev_var rfl) (ev_var rfl) (fun x => rfl) hH hW k fun s n ho hm h4 h9 k2 => ?_
  subst ho hm
  have W := hW s rfl
  obtain ⟨a, hI, hL⟩ := id hH
  refine gq_asgR (ev_fam (ev_fld (ev_var rfl) hI.listed) (ev_var rfl) hL W h9 h4) fun v H1 H2 e1 e2 ⟨p, hv, _, hP⟩ => ?_
  subst hv
  have e12 := e1.trans e2
  have ok := pcs_ok W h9 h4
  have hfew := ok.few
  obtain ⟨pas, hpas, hPA⟩ := id hP
  have hlen : (pas.map V.ref).length = (pcsM s n).length := by rw [List.length_map, hPA.len]
  have kk : RetL (iV (pieceA s n i)) H2 Q := fun pp H3 h1 h2 h3 => k2 pp H3 (fresh_back e12 h1) (e12.trans h2) h3
  have ht := ev_isPc (σ := [some (.ref h), some (.int (n : Nat)), some (.int i), some (.int 0), some (.ref p), none, none, none]) (ta := tVar 4) (tb := tVar 2) (i := i) (ev_var rfl) (ev_var rfl) hpas
  rw [hlen] at ht
  refine gq_when (b := !isPc (pcsM s n).length i) (et_not (et_B ht)) (fun hb => ?_) fun hb => ?_
  · have e : pieceA s n i = [-2] := if_neg (by simpa using hb)
    rw [e] at kk
    exact go_retL (xs := iV [-2]) (el_lst (ea_cons (ev_un ev_c ru_neg) ea_nil) (by show 1 ≤ 100000; decide)) kk
  · have hb2 : isPc (pcsM s n).length i = true := by simpa using hb
    obtain ⟨n0, rfl, hlt⟩ := isPc_nat hb2
    have hq : (pcsM s n)[n0]? = some (pcsM s n)[n0] := List.getElem?_eq_getElem hlt
    obtain ⟨q, hqe⟩ : ∃ q, q = (pcsM s n)[n0] := ⟨_, rfl⟩
    rw [← hqe] at hq
    have hqm := List.mem_of_getElem? hq
    obtain ⟨pa, hpa, hpav, cv, hI2, hcv⟩ := hPA.get hq
    have hsh := ok.sh q hqm
    have hc9 := (ok.cov q hqm).1
    have e : iV (pieceA s n (n0 : Nat)) = (([.int ((showM q.1).length : Nat)] ++ iV (bI (showM q.1))) ++ [.int (q.2.length : Nat)]) ++ nl q.2 := by
      have e1 : pieceA s n (n0 : Nat) = (((showM q.1).length : Nat) : Int) :: (bI (showM q.1) ++ (((q.2.length : Nat) : Int) :: nI q.2)) := by
        unfold pieceA
        rw [if_pos hb2, Int.toNat_natCast, hq]
      rw [e1]
      unfold iV
      rw [List.map_cons, List.map_append, List.map_cons]
      show _ = ((_ ++ _) ++ _) ++ _
      rw [← iV_nI]
      simp
    rw [e] at kk
    have hb1000 : (bI (showM q.1)).length ≤ 1000 := by rw [List.length_map]; exact hsh
    refine gq_asgL (el_ord (ev_fld (ev_op (ev_var rfl) (ev_var rfl) (rv_ixL (sq_of hpas) (atI_nat hpav))) hI2.chunk) (by omega) (fun x => rfl) (fun x => rfl)) fun l H3 nl3 e3 hl3 => ?_
    refine gq_asg (ev_fld (ev_op (ev_var rfl) (ev_var rfl) (rv_ixL (sq_of (e3 _ _ hpas)) (atI_nat hpav))) (hI2.mono e3).covered) ?_
    have hcv3 := e3 _ _ hcv
    refine go_retL (el_cat (el_catLL (el_cat (el_lst (ea_cons (ev_is (ev_lenS (ev_var rfl) hl3) (by rw [List.length_map, List.length_map])) ea_nil) (by show 1 ≤ 100000; decide)) (ev_var rfl) hl3 (by rw [List.length_map]; show 1 + _ ≤ _; omega)) (el_lst (ea_cons (ev_is (ev_lenS (ev_var rfl) hcv3) (by rw [List.length_map])) ea_nil) (by show 1 ≤ 100000; decide)) ?_) (ev_var rfl) hcv3 ?_) fun pp H4 h1 h2 h3 => kk pp H4 (fresh_back e3 h1) (e3.trans h2) h3
    · rw [List.length_append, List.length_map]
      show 1 + _ + 1 ≤ _
      omega
    · have h5 : (nl q.2).length ≤ 9 := by rw [List.length_map]; exact hc9
      rw [List.length_append, List.length_append, List.length_map]
      show 1 + _ + 1 + _ ≤ _
      omega
theorem ev_exact {σ : L2.St} {T : TX K mg} {l p : Addr} {xs : List V} {ps : List (MP × List Nat)} {ta tb : TE} (ha : Ev ta σ H (.ref l)) (hb : Ev tb σ H (.ref p)) (hl : H l = some (.lst xs)) (hx : xs.length ≤ 1000) (hP : LsAt (PcC T) H p ps) (hps : ps.length ≤ 40000) : Ev (tCall (sp_is_exact T) [] E0 (tCons ta (tCons tb tNil))) σ H (.bl (firstM xs.length ps).isNone) :=
  ev_callV (ea_cons ha (ea_cons hb ea_nil)) fun H3 e Q E k => ⟨l, p, xs, ps, rfl, e _ _ hl, hx, hP.monoP e, hps, k⟩
/-- the goals are made on the way -/
theorem ev_exactR {σ : L2.St} {T : TX K mg} {a p : Addr} {s : Vahypa.Lst} {ps : List (MP × List Nat)} {ta tb : TE} (ha : Ev ta σ H (.ref a)) (hb : Ev tb σ H (.ref p)) (hL : LdAt T H a s) (W : WF s) (hP : LsAt (PcC T) H p ps) (hps : ps.length ≤ 40000) : Ev (tCall (sp_is_exact T) [] E0 (tCons (tCall (sp_goals_of T) [] E0 (tCons ta tNil)) (tCons tb tNil))) σ H (.bl (firstM (goalsM s).length ps).isNone) := fun H1 e Q q =>
  ev_goals ha hL W H1 e _ fun v H2 e2 ⟨lg, hv, _, as, has, hA⟩ => by
    subst hv
    have hlen : (as.map V.ref).length = (goalsM s).length := by rw [List.length_map, hA.len]
    have h384 := goalsM_len W
    exact hb H2 (e.trans e2) _ fun H3 e3 => ⟨lg, p, _, ps, rfl, e3 _ _ has, by rw [hlen]; omega, hP.monoP ((e.trans e2).trans e3), hps, fun H4 e4 => by
      rw [hlen]
      exact q H4 ((e2.trans e3).trans e4)⟩
theorem el_told {σ : L2.St} {T : TX K mg} {c : Vahypc.Choice} {te : TE} (h : EvR te σ H (fun _ v H2 => ∃ a, v = .ref a ∧ ChAt T H2 a c)) (hc : c.ks.length ≤ 50000) : EvL (tCall (sp_told_choice T) [] E0 (tCons te tNil)) σ H (iV (toldM c)) := fun H1 e Q q =>
  h H1 e _ fun v H2 e2 ⟨a, hv, hC⟩ => by
    subst hv
    exact ⟨a, c, rfl, hC, hc, fun pp H3 h1 h2 h3 => q pp H3 (fresh_back e2 h1) (e2.trans h2) h3⟩
theorem iV_cons (i : Int) (l : List Int) : iV (i :: l) = [V.int i] ++ iV l := rfl
theorem toldM_len (c : Vahypc.Choice) : (toldM c).length = c.ks.length + 2 := by
  unfold toldM
  rw [List.length_cons, List.length_cons, List.length_map]
theorem ok_Holder_least (T : TX K mg) : FnOk P w K mg base CX0 6 T.f_Holder_least T.d_Holder_least ["self", "longest", "kind"] (sp_h2 T (fun i s m => leastA s m i)) := by
  refine T.F_Holder_least.ok sc_Holder_least (fun vs H Q E h => ?_) (fun cdv A outer s0 H vs Q E hr h => ?_)
  · obtain ⟨h, o, m, kind, rfl, hH, hW, k⟩ := h
    rfl
  obtain ⟨h, o, m, kind, rfl, hH, hW, k⟩ := h
  refine ⟨_, (pss_cons (ps_set (i := 3) (sc_Holder_least).nd rfl (Or.inl rfl) (pe_meth (pv 0) T.cl_Holder T.mm_Holder_refusal (ok_Holder_refusal T) (hr.mono (by decide)) T.b_Holder_refusal .nil pass0 (pa_cons (pv 1) pa_nil)))
    (pss_cons (ps_if (pt_cmpR op_ne (pv 3) (pe_glob (v := .int 0) (by rfl) T.c_NOT_REFUSED ⟨_, rfl⟩) (nomark _)) (pss_one (ps_ret (pe_lst (pa_cons (pv 3) pa_nil)))) pss_nil)
    (pss_cons (ps_if (PW.pt (pw_and (pt_cmpR op_ne (pv 2) (pe_glob (v := .int 0) (by rfl) T.c_FEWEST_PIECES ⟨_, rfl⟩) (nomark _)) (pw_and1 (pt_cmpR op_ne (pv 2) (pe_glob (v := .int 1) (by rfl) T.c_FEWEST_BYTES ⟨_, rfl⟩) (nomark _))))) (pss_one (ps_ret (pe_lst (pa_cons (pe_un un_neg pe_int) pa_nil)))) pss_nil)
    (pss_cons (ps_set (i := 4) (sc_Holder_least).nd rfl (Or.inl rfl) (pe_call (ok_goals_of T) (hr.mono (by decide)) (by rfl) T.m_goals_of T.F_goals_of.kp T.b_goals_of .nil pass0 (pa_cons (pe_fld (pv 0) rfl) pa_nil)))
    (pss_cons (ps_set (i := 5) (sc_Holder_least).nd rfl (Or.inl rfl) (pe_call (ok_family_up_to T) (hr.mono (by decide)) (by rfl) T.m_family_up_to T.F_family_up_to.kp T.b_family_up_to .nil pass0 (pa_cons (pe_fld (pv 0) rfl) (pa_cons (pv 1) pa_nil))))
    (pss_cons (ps_if (pt_not (pt_val (pe_call (ok_is_exact T) (hr.mono (by decide)) (by rfl) T.m_is_exact T.F_is_exact.kp T.b_is_exact .nil pass0 (pa_cons (pv 4) (pa_cons (pv 5) pa_nil))))) (pss_one (ps_ret (pe_op op_cat (pe_lst (pa_cons pe_int pa_nil)) (pe_meth (pv 0) T.cl_Holder T.mm_Holder_uncovered (ok_Holder_uncovered T) (hr.mono (by decide)) T.b_Holder_uncovered .nil pass0 (pa_cons (pv 5) pa_nil))))) pss_nil)
    (pss_one (ps_ret (pe_op op_cat (pe_lst (pa_cons pe_int pa_nil)) (pe_call (ok_told_choice T) (hr.mono (by decide)) (by rfl) T.m_told_choice T.F_told_choice.kp T.b_told_choice .nil pass0 (pa_cons (pe_call (ok_least_set T) (hr.mono (by decide)) (by rfl) T.m_least_set T.F_least_set.kp T.b_least_set .nil pass0 (pa_cons (pv 5) (pa_cons (pe_callB call_len_seq (by rfl) T.n_len PySem.boot_len (pa_cons (pv 4) pa_nil)) (pa_cons (pv 2) pa_nil)))) pa_nil))))))))))), Go.at ?_⟩
  refine gq_ref (ev_var rfl) (ev_var rfl) (fun x => rfl) hH hW k fun s n ho hm h4 h9 k2 => ?_
  subst ho hm
  have W := hW s rfl
  obtain ⟨a, hI, hL⟩ := id hH
  have k2 : RetL (iV (leastA s n kind)) H Q := k2
  refine gq_when (b := !decide (kind = 0) && !decide (kind = 1)) (et_is (et_and (et_test (ev_op (ev_var rfl) ev_c (rv_ne rfl))) fun _ => et_test (ev_op (ev_var rfl) ev_c (rv_ne rfl))) (by rw [dec_int, dec_int]; congr 1 <;> congr 1 <;> rw [Bool.eq_iff_iff, beq_iff_eq, decide_eq_true_eq])) (fun hb => ?_) fun hb => ?_
  · have e : leastA s n kind = [-4] := if_pos hb
    rw [e] at k2
    exact go_retL (xs := iV [-4]) (el_lst (ea_cons (ev_un ev_c ru_neg) ea_nil) (by show 1 ≤ 100000; decide)) k2
  have e0 : leastA s n kind = _ := if_neg (by rw [hb]; exact Bool.false_ne_true)
  rw [e0] at k2
  refine gq_asgR (ev_goals (ev_fld (ev_var rfl) hI.listed) hL W) fun v H1 H2 e1 e2 ⟨lg, hv, _, as, has, hA⟩ => ?_
  subst hv
  have e12 := e1.trans e2
  have hlen : (as.map V.ref).length = (goalsM s).length := by rw [List.length_map, hA.len]
  refine gq_asgR (ev_fam (ev_fld (ev_var rfl) (hI.mono e12).listed) (ev_var rfl) (hL.mono e12) W h9 h4) fun v H3 H4 e3 e4 ⟨p, hv, _, hP⟩ => ?_
  subst hv
  have e34 := e3.trans e4
  have e14 := e12.trans e34
  have ok := pcs_ok W h9 h4
  have hfew := ok.few
  have kk : ∀ l, RetL l H Q → RetL l H4 Q := fun l k2 pp H3 h1 h2 h3 => k2 pp H3 (fresh_back e14 h1) (e14.trans h2) h3
  have k4 := kk _ k2
  have has4 := e34 _ _ has
  have hex := ev_exact (K := K) (T := T) (σ := [some (.ref h), some (.int (n : Nat)), some (.int kind), some (.int 0), some (.ref lg), some (.ref p)]) (ta := tVar 4) (tb := tVar 5) (ev_var rfl) (ev_var rfl) has4 (by rw [hlen]; omega) hP (by omega)
  rw [hlen] at hex
  refine gq_when (b := !(firstM (goalsM s).length (pcsM s n)).isNone) (et_not (et_B hex)) (fun hb => ?_) fun hb => ?_
  · rw [if_neg (fun z => by rw [z] at hb; cases hb), iV_cons] at k4
    refine go_retL (el_catLL (el_lst (ea_cons ev_c ea_nil) (by show 1 ≤ 100000; decide)) (el_unc (ev_var rfl) (ev_var rfl) (hH.mono e14) W h9 hP (by omega)) ?_) k4
    have := uncM_len s (pcsM s n)
    rw [List.length_map]
    show 1 + _ ≤ _
    omega
  · have hb2 : (firstM (goalsM s).length (pcsM s n)).isNone = true := by simpa using hb
    rw [if_pos hb2, iV_cons] at k4
    have hrows := rows_ok ok (pcs_nodup s n) (Option.isNone_iff_eq_none.mp hb2)
    have hll := leastM_len (pcsM s n) kind (goalsM s).length
    have hp9 := pow9 ok.n9
    refine go_retL (el_catLL (el_lst (ea_cons ev_c ea_nil) (by show 1 ≤ 100000; decide)) (el_told (c := leastM (pcsM s n) kind (goalsM s).length) (evr_call (ea_cons (ev_var rfl) (ea_cons (ev_is (ev_lenS (ev_var rfl) has4) (by rw [hlen])) (ea_cons (ev_var rfl) ea_nil))) (fun H5 e Q E k => ⟨p, _, _, kind, rfl, hP.monoP e, ok, hrows, k⟩) fun H1 H2 v H3 e r => r) (by omega)) ?_) k4
    rw [List.length_map, toldM_len]
    show 1 + _ ≤ _
    omega
theorem ok_Holder_greedy (T : TX K mg) : FnOk P w K mg base CX0 6 T.f_Holder_greedy T.d_Holder_greedy ["self", "longest"] (sp_h1 T greedyA) := by
  refine T.F_Holder_greedy.ok sc_Holder_greedy (fun vs H Q E h => ?_) (fun cdv A outer s0 H vs Q E hr h => ?_)
  · obtain ⟨h, o, m, rfl, hH, hW, k⟩ := h
    rfl
  obtain ⟨h, o, m, rfl, hH, hW, k⟩ := h
  refine ⟨_, (pss_cons (ps_set (i := 2) (sc_Holder_greedy).nd rfl (Or.inl rfl) (pe_meth (pv 0) T.cl_Holder T.mm_Holder_refusal (ok_Holder_refusal T) (hr.mono (by decide)) T.b_Holder_refusal .nil pass0 (pa_cons (pv 1) pa_nil)))
    (pss_cons (ps_if (pt_cmpR op_ne (pv 2) (pe_glob (v := .int 0) (by rfl) T.c_NOT_REFUSED ⟨_, rfl⟩) (nomark _)) (pss_one (ps_ret (pe_lst (pa_cons (pv 2) pa_nil)))) pss_nil)
    (pss_cons (ps_set (i := 3) (sc_Holder_greedy).nd rfl (Or.inl rfl) (pe_call (ok_family_up_to T) (hr.mono (by decide)) (by rfl) T.m_family_up_to T.F_family_up_to.kp T.b_family_up_to .nil pass0 (pa_cons (pe_fld (pv 0) rfl) (pa_cons (pv 1) pa_nil))))
    (pss_cons (ps_if (pt_not (pt_val (pe_call (ok_is_exact T) (hr.mono (by decide)) (by rfl) T.m_is_exact T.F_is_exact.kp T.b_is_exact .nil pass0 (pa_cons (pe_call (ok_goals_of T) (hr.mono (by decide)) (by rfl) T.m_goals_of T.F_goals_of.kp T.b_goals_of .nil pass0 (pa_cons (pe_fld (pv 0) rfl) pa_nil)) (pa_cons (pv 3) pa_nil))))) (pss_one (ps_ret (pe_op op_cat (pe_lst (pa_cons pe_int pa_nil)) (pe_meth (pv 0) T.cl_Holder T.mm_Holder_uncovered (ok_Holder_uncovered T) (hr.mono (by decide)) T.b_Holder_uncovered .nil pass0 (pa_cons (pv 3) pa_nil))))) pss_nil)
    (pss_one (ps_ret (pe_op op_cat (pe_lst (pa_cons pe_int pa_nil)) (pe_call (ok_told_choice T) (hr.mono (by decide)) (by rfl) T.m_told_choice T.F_told_choice.kp T.b_told_choice .nil pass0 (pa_cons (pe_call (ok_greedy_set T) (hr.mono (by decide)) (by rfl) T.m_greedy_set T.F_greedy_set.kp T.b_greedy_set .nil pass0 (pa_cons (pv 3) pa_nil)) pa_nil))))))))), Go.at ?_⟩
  refine gq_ref (ev_var rfl) (ev_var rfl) (fun x => rfl) hH hW k fun s n ho hm h4 h9 k2 => ?_
  subst ho hm
  have W := hW s rfl
  obtain ⟨a, hI, hL⟩ := id hH
  refine gq_asgR (ev_fam (ev_fld (ev_var rfl) hI.listed) (ev_var rfl) hL W h9 h4) fun v H1 H2 e1 e2 ⟨p, hv, _, hP⟩ => ?_
  subst hv
  have e12 := e1.trans e2
  have ok := pcs_ok W h9 h4
  have hfew := ok.few
  have k4 : RetL (iV (greedyA s n)) H2 Q := fun pp H3 h1 h2 h3 => k2 pp H3 (fresh_back e12 h1) (e12.trans h2) h3
  unfold greedyA at k4
  refine gq_when (b := !(firstM (goalsM s).length (pcsM s n)).isNone) (et_not (et_B (ev_exactR (ev_fld (ev_var rfl) (hI.mono e12).listed) (ev_var rfl) (hL.mono e12) W hP (by omega)))) (fun hb => ?_) fun hb => ?_
  · rw [if_neg (fun z => by rw [z] at hb; cases hb), iV_cons] at k4
    refine go_retL (el_catLL (el_lst (ea_cons ev_c ea_nil) (by show 1 ≤ 100000; decide)) (el_unc (ev_var rfl) (ev_var rfl) (hH.mono e12) W h9 hP (by omega)) ?_) k4
    have := uncM_len s (pcsM s n)
    rw [List.length_map]
    show 1 + _ ≤ _
    omega
  · have hb2 : (firstM (goalsM s).length (pcsM s n)).isNone = true := by simpa using hb
    rw [if_pos hb2, iV_cons] at k4
    have hll : (greedyM (pcsM s n) (goalsM s).length).ks.length ≤ 1000 := by
      refine Nat.le_trans (greedyF_len (pcsM s n) _ _ _) ?_
      show 0 + _ ≤ _
      omega
    refine go_retL (el_catLL (el_lst (ea_cons ev_c ea_nil) (by show 1 ≤ 100000; decide)) (el_told (c := greedyM (pcsM s n) (goalsM s).length) (evr_call (ea_cons (ev_var rfl) ea_nil) (fun H5 e Q E k => ⟨p, _, _, rfl, hP.monoP e, ok, k⟩) fun H1 H2 v H3 e r => r) (by omega)) ?_) k4
    rw [List.length_map, toldM_len]
    show 1 + _ ≤ _
    omega
theorem ok_Holder_bound (T : TX K mg) : FnOk P w K mg base CX0 6 T.f_Holder_bound T.d_Holder_bound ["self", "longest"] (sp_h1 T boundA) := by
  refine T.F_Holder_bound.ok sc_Holder_bound (fun vs H Q E h => ?_) (fun cdv A outer s0 H vs Q E hr h => ?_)
  · obtain ⟨h, o, m, rfl, hH, hW, k⟩ := h
    rfl
  obtain ⟨h, o, m, rfl, hH, hW, k⟩ := h
  refine ⟨_, (pss_cons (ps_set (i := 2) (sc_Holder_bound).nd rfl (Or.inl rfl) (pe_meth (pv 0) T.cl_Holder T.mm_Holder_refusal (ok_Holder_refusal T) (hr.mono (by decide)) T.b_Holder_refusal .nil pass0 (pa_cons (pv 1) pa_nil)))
    (pss_cons (ps_if (pt_cmpR op_ne (pv 2) (pe_glob (v := .int 0) (by rfl) T.c_NOT_REFUSED ⟨_, rfl⟩) (nomark _)) (pss_one (ps_ret (pe_lst (pa_cons (pv 2) pa_nil)))) pss_nil)
    (pss_cons (ps_set (i := 3) (sc_Holder_bound).nd rfl (Or.inl rfl) (pe_call (ok_goals_of T) (hr.mono (by decide)) (by rfl) T.m_goals_of T.F_goals_of.kp T.b_goals_of .nil pass0 (pa_cons (pe_fld (pv 0) rfl) pa_nil)))
    (pss_cons (ps_set (i := 4) (sc_Holder_bound).nd rfl (Or.inl rfl) (pe_call (ok_greatest_apart T) (hr.mono (by decide)) (by rfl) T.m_greatest_apart T.F_greatest_apart.kp T.b_greatest_apart .nil pass0 (pa_cons (pe_call (ok_family_up_to T) (hr.mono (by decide)) (by rfl) T.m_family_up_to T.F_family_up_to.kp T.b_family_up_to .nil pass0 (pa_cons (pe_fld (pv 0) rfl) (pa_cons (pv 1) pa_nil))) (pa_cons (pe_callB call_len_seq (by rfl) T.n_len PySem.boot_len (pa_cons (pv 3) pa_nil)) pa_nil))))
    (pss_one (ps_ret (pe_op op_cat (pe_lst (pa_cons (pe_callB call_len_seq (by rfl) T.n_len PySem.boot_len (pa_cons (pv 4) pa_nil)) pa_nil)) (pv 4)))))))), Go.at ?_⟩
  refine gq_ref (ev_var rfl) (ev_var rfl) (fun x => rfl) hH hW k fun s n ho hm h4 h9 k2 => ?_
  subst ho hm
  have W := hW s rfl
  obtain ⟨a, hI, hL⟩ := id hH
  refine gq_asgR (ev_goals (ev_fld (ev_var rfl) hI.listed) hL W) fun v H1 H2 e1 e2 ⟨lg, hv, _, as, has, hA⟩ => ?_
  subst hv
  have e12 := e1.trans e2
  have hlen : (as.map V.ref).length = (goalsM s).length := by rw [List.length_map, hA.len]
  have ok := pcs_ok W h9 h4
  have hfew := ok.few
  have hg := greatM_len (goalsM s).length (pcsM s n)
  have k4 : RetL (iV (boundA s n)) H2 Q := fun pp H3 h1 h2 h3 => k2 pp H3 (fresh_back e12 h1) (e12.trans h2) h3
  have e : iV (boundA s n) = [.int ((greatM (goalsM s).length (pcsM s n)).length : Nat)] ++ nl (greatM (goalsM s).length (pcsM s n)) := by
    rw [← iV_nI] <;> rfl
  rw [e] at k4
  have hfm := ev_fam (K := K) (T := T) (σ := [some (.ref h), some (.int (n : Nat)), some (.int 0), some (.ref lg), none]) (te := tFld K (tVar 0) "listed") (tm := tVar 1) (ev_fld (ev_var rfl) (hI.mono e12).listed) (ev_var rfl) (hL.mono e12) W h9 h4
  refine gq_asgL (xs := nl (greatM (goalsM s).length (pcsM s n))) (fun H3 e3 Q q => hfm H3 e3 _ fun v H4 e4 ⟨p, hv, _, hP⟩ => ?_) fun l H3 nl3 e3 hl3 => ?_
  · subst hv
    exact ev_lenS (K := K) (ev_var rfl) has H4 (e3.trans e4) _ fun H5 e5 => ⟨p, (goalsM s).length, _, (by rw [hlen] <;> rfl), h9, hP.monoP e5, by omega, fun pp H6 h1 h2 h3 => q pp H6 (fresh_back (e4.trans e5) h1) ((e4.trans e5).trans h2) h3⟩
  refine go_retL (el_cat (el_lst (ea_cons (ev_is (ev_lenS (ev_var rfl) hl3) (by rw [List.length_map])) ea_nil) (by show 1 ≤ 100000; decide)) (ev_var rfl) hl3 ?_) fun pp H4 h1 h2 h3 => k4 pp H4 (fresh_back e3 h1) (e3.trans h2) h3
  rw [List.length_map]
  show 1 + _ ≤ _
  omega
end
end LP
namespace LP
open PySem PySem.Spec PyProof.Rows L2 Evl
open VahypBase (Bytes isLetter isDigit inChunk isBlank)
def adrI (as : List Addr) (z : Int) : Addr := (as[z.toNat]?).getD 0
theorem chosenM_all (ps : List (MP × List Nat)) : ∀ (l : List Int), l.all (isPc ps.length) = true → (chosenM ps l).length = l.length ∧ ∀ (i : Nat) z, l[i]? = some z → (chosenM ps l)[i]? = ps[z.toNat]?
  | [], _ => ⟨rfl, fun i z h => by simp at h⟩
  | z :: l, h => by
    rw [List.all_cons, Bool.and_eq_true] at h
    obtain ⟨h1, h2⟩ := chosenM_all ps l h.2
    obtain ⟨n, rfl, hn⟩ := isPc_nat h.1
    have e : chosenM ps ((n : Int) :: l) = ps[n] :: chosenM ps l := by
      unfold chosenM
      rw [List.filterMap_cons, Int.toNat_natCast, List.getElem?_eq_getElem hn]
    rw [e]
    refine ⟨by rw [List.length_cons, List.length_cons, h1], fun i z hz => ?_⟩
    cases i with
    | zero =>
      cases hz
      rw [Int.toNat_natCast, List.getElem?_eq_getElem hn] <;> rfl
    | succ i => exact h2 i z hz
theorem chosenM_mem {ps : List (MP × List Nat)} {l : List Int} {p : MP × List Nat} (h : p ∈ chosenM ps l) : p ∈ ps := by
  unfold chosenM at h
  obtain ⟨z, _, hz⟩ := List.mem_filterMap.mp h
  exact List.mem_of_getElem? hz
section
variable {P : Program} {w : World} {K : PySem.W.Frag} {mg : Str → Option Value} {base : Heap} {H H' : Hp}
theorem At2.chosen {R : Addr → MP × List Nat → Prop} {as : List Addr} {ps : List (MP × List Nat)} (h : At2 R as ps) {l : List Int} (hl : l.all (isPc ps.length) = true) : At2 R (l.map (adrI as)) (chosenM ps l) := by
  obtain ⟨h1, h2⟩ := chosenM_all ps l hl
  refine ⟨by rw [List.length_map, h1], fun i a x ha hx => ?_⟩
  rw [List.getElem?_map] at ha
  cases hz : l[i]? with
  | none =>
    rw [hz] at ha
    cases ha
  | some z =>
    rw [hz] at ha
    have ha2 : adrI as z = a := Option.some.inj ha
    rw [h2 i z hz] at hx
    have hlt := (List.getElem?_eq_some_iff.mp hx).1
    have ha3 : as[z.toNat]? = some (as[z.toNat]'(by rw [h.len]; exact hlt)) := List.getElem?_eq_getElem _
    have ha4 : as[z.toNat]'(by rw [h.len]; exact hlt) = a := by
      rw [← ha2]
      unfold adrI
      rw [ha3] <;> rfl
    rw [ha4] at ha3
    exact h.at_ _ a x ha3 hx
def sp_Holder_check (T : TX K mg) : Sp := fun vs H Q _ => ∃ (h ln : Addr) (o : Option Vahypa.Lst) (m : Int) (l : List Int), vs = [.ref h, .int m, .ref ln] ∧ H ln = some (.lst (iV l)) ∧ l.length ≤ 40000 ∧ HoAt T H h o ∧ OWF o ∧ RetL (iV (withM o m fun s n => checkA s n l)) H Q
theorem ok_Holder_check (T : TX K mg) : FnOk P w K mg base CX0 6 T.f_Holder_check T.d_Holder_check ["self", "longest", "numbers"] (sp_Holder_check T) := by
  refine T.F_Holder_check.ok sc_Holder_check (fun vs H Q E h => ?_) (fun cdv A outer s0 H vs Q E hr h => ?_)
  · obtain ⟨h, ln, o, m, l, rfl, hln, hl4, hH, hW, k⟩ := h
    rfl
  obtain ⟨h, ln, o, m, l, rfl, hln, hl4, hH, hW, k⟩ := h
  refine ⟨_, (pss_cons (ps_set (i := 3) (sc_Holder_check).nd rfl (Or.inl rfl) (pe_meth (pv 0) T.cl_Holder T.mm_Holder_refusal (ok_Holder_refusal T) (hr.mono (by decide)) T.b_Holder_refusal .nil pass0 (pa_cons (pv 1) pa_nil)))
    (pss_cons (ps_if (pt_cmpR op_ne (pv 3) (pe_glob (v := .int 0) (by rfl) T.c_NOT_REFUSED ⟨_, rfl⟩) (nomark _)) (pss_one (ps_ret (pe_lst (pa_cons (pv 3) pa_nil)))) pss_nil)
    (pss_cons (ps_set (i := 4) (sc_Holder_check).nd rfl (Or.inr rfl) (pe_call (ok_family_up_to T) (hr.mono (by decide)) (by rfl) T.m_family_up_to T.F_family_up_to.kp T.b_family_up_to .nil pass0 (pa_cons (pe_fld (pv 0) rfl) (pa_cons (pv 1) pa_nil))))
    (pss_cons (ps_if (pt_not (pt_val (pe_callB (cr_all rfl) (by rfl) T.n_all (by decide +kernel) (pa_cons (pe_lc (own := [("number", 6)]) (by rfl) (sc_Holder_check).nd (pi_list (pv 2)) (blkOk_by (own := [("number", 6)]) (N := N_Holder_check) (sc := defScope s_Holder_check) (by decide +kernel)) (fun _ _ _ _ _ => (pg_name (i := 6) (sc_Holder_check).nd rfl (Or.inl rfl))) (fun _ _ _ _ _ => pts_nil) (fun _ _ _ _ _ => (pe_call (ok_is_piece T) (hr.mono (by decide)) (by rfl) T.m_is_piece T.F_is_piece.kp T.b_is_piece .nil pass0 (pa_cons (pv 4) (pa_cons (pv 6) pa_nil))))) pa_nil)))) (pss_one (ps_ret (pe_lst (pa_cons (pe_un un_neg pe_int) pa_nil)))) pss_nil)
    (pss_cons (ps_setLc (i := 5) (own := [("number", 6)]) (by rfl) (sc_Holder_check).nd rfl rfl (sw_true rfl rfl rfl (by decide +kernel)) (pi_list (pv 2)) (blkOk_by (own := [("number", 6)]) (N := N_Holder_check) (sc := defScope s_Holder_check) (by decide +kernel)) (fun _ _ _ _ _ => (pg_name (i := 6) (sc_Holder_check).nd rfl (Or.inl rfl))) (fun _ _ _ _ _ => pts_nil) (fun _ _ _ _ _ => (pe_ix (ix_listK (K := K) rfl) (pv 4) (pv 6) (fun _ _ => rfl))))
    (pss_cons (ps_if (pt_not (pt_val (pe_call (ok_is_exact T) (hr.mono (by decide)) (by rfl) T.m_is_exact T.F_is_exact.kp T.b_is_exact .nil pass0 (pa_cons (pe_call (ok_goals_of T) (hr.mono (by decide)) (by rfl) T.m_goals_of T.F_goals_of.kp T.b_goals_of .nil pass0 (pa_cons (pe_fld (pv 0) rfl) pa_nil)) (pa_cons (pv 5) pa_nil))))) (pss_one (ps_ret (pe_op op_cat (pe_lst (pa_cons pe_int pa_nil)) (pe_meth (pv 0) T.cl_Holder T.mm_Holder_uncovered (ok_Holder_uncovered T) (hr.mono (by decide)) T.b_Holder_uncovered .nil pass0 (pa_cons (pv 5) pa_nil))))) pss_nil)
    (pss_one (ps_ret (pe_lst (pa_cons pe_int (pa_cons (pe_callB call_len_seq (by rfl) T.n_len PySem.boot_len (pa_cons (pv 2) pa_nil)) pa_nil))))))))))), Go.at ?_⟩
  refine gq_ref (ev_var rfl) (ev_var rfl) (fun x => rfl) hH hW k fun s n ho hm h4 h9 k2 => ?_
  subst ho hm
  have W := hW s rfl
  obtain ⟨a, hI, hL⟩ := id hH
  have k2 : RetL (iV (checkA s n l)) H Q := k2
  refine gq_asgR (ev_fam (ev_fld (ev_var rfl) hI.listed) (ev_var rfl) hL W h9 h4) fun v H1 H2 e1 e2 ⟨p, hv, _, hP⟩ => ?_
  subst hv
  have e12 := e1.trans e2
  have ok := pcs_ok W h9 h4
  have hfew := ok.few
  obtain ⟨pas, hpas, hPA⟩ := id hP
  have hlen : (pas.map V.ref).length = (pcsM s n).length := by rw [List.length_map, hPA.len]
  have kk : RetL (iV (checkA s n l)) H2 Q := fun pp H3 h1 h2 h3 => k2 pp H3 (fresh_back e12 h1) (e12.trans h2) h3
  have hln2 := e12 _ _ hln
  have hall : EvT (tTest (tCB (rAll K) (tCons (tLc (iList K (tVar 2)) (gName 6) tYes (tCall sp_is_piece [] E0 (tCons (tVar 4) (tCons (tVar 6) tNil))) [6]) tNil))) [some (.ref h), some (.int (n : Nat)), some (.ref ln), some (.int 0), some (.ref p), none, none] H2 (l.all (isPc (pcsM s n).length)) := by
    have e : given l.length (fun _ => true) (byAt l fun z => V.bl (isPc (pcsM s n).length z)) = (l.map (isPc (pcsM s n).length)).map V.bl := by
      rw [given_all, List.map_map] <;> rfl
    have e2 : (l.map (isPc (pcsM s n).length)).all id = l.all (isPc (pcsM s n).length) := by
      rw [List.all_map] <;> rfl
    have h1 := el_lcL (K := K) (te := tCall sp_is_piece [] E0 (tCons (tVar 4) (tCons (tVar 6) tNil))) (t := tYes) (tl := tVar 2) (j := 6) (vs := [6]) (σ := [some (.ref h), some (.int (n : Nat)), some (.ref ln), some (.int 0), some (.ref p), none, none]) (fun _ => true) (byAt l fun z => V.bl (isPc (pcsM s n).length z)) (ev_var rfl) (sq_of hln2) (by rw [List.length_map]; exact hl4) (fun x => rfl) (fun _ _ _ _ _ => et_yes) fun i x H3 e3 hi _ => by
      obtain ⟨z, hz, rfl⟩ := map_item hi
      rw [byAt_some hz, ← hlen]
      exact ev_isPc (ev_var rfl) (ev_var rfl) (e3 _ _ hpas)
    rw [List.length_map] at h1
    exact et_is (et_B (ev_all h1 e)) e2
  refine gq_when (b := !l.all (isPc (pcsM s n).length)) (et_not hall) (fun hb => ?_) fun hb => ?_
  · have e : checkA s n l = [-4] := if_neg (fun z => by rw [z] at hb; cases hb)
    rw [e] at kk
    exact go_retL (xs := iV [-4]) (el_lst (ea_cons (ev_un ev_c ru_neg) ea_nil) (by show 1 ≤ 100000; decide)) kk
  have hb2 : l.all (isPc (pcsM s n).length) = true := by simpa using hb
  have e0 : checkA s n l = _ := if_pos hb2
  rw [e0] at kk
  have hch : EvL (tLc (iList K (tVar 2)) (gName 6) tYes (tOp (rIxL K) (tVar 4) (tVar 6)) [6]) [some (.ref h), some (.int (n : Nat)), some (.ref ln), some (.int 0), some (.ref p), none, none] H2 ((l.map (adrI pas)).map V.ref) := by
    have e : given l.length (fun _ => true) (byAt l fun z => V.ref (adrI pas z)) = (l.map (adrI pas)).map V.ref := by
      rw [given_all, List.map_map] <;> rfl
    have h1 := el_lcL (K := K) (te := tOp (rIxL K) (tVar 4) (tVar 6)) (t := tYes) (tl := tVar 2) (j := 6) (vs := [6]) (σ := [some (.ref h), some (.int (n : Nat)), some (.ref ln), some (.int 0), some (.ref p), none, none]) (fun _ => true) (byAt l fun z => V.ref (adrI pas z)) (ev_var rfl) (sq_of hln2) (by rw [List.length_map]; exact hl4) (fun x => rfl) (fun _ _ _ _ _ => et_yes) fun i x H3 e3 hi _ => by
      obtain ⟨z, hz, rfl⟩ := map_item hi
      rw [byAt_some hz]
      obtain ⟨n0, rfl, hlt⟩ := isPc_nat (List.all_eq_true.mp hb2 z (List.mem_of_getElem? hz))
      have ha3 : pas[n0]? = some (pas[n0]'(by rw [hPA.len]; exact hlt)) := List.getElem?_eq_getElem _
      have ha4 : (pas.map V.ref)[n0]? = some (V.ref (adrI pas (n0 : Nat))) := by
        unfold adrI
        rw [Int.toNat_natCast, List.getElem?_map, ha3] <;> rfl
      exact ev_op (ev_var rfl) (ev_var rfl) (rv_ixL (sq_of (e3 _ _ hpas)) (atI_nat ha4))
    rw [List.length_map, e] at h1
    exact h1
  refine gq_asgL hch fun lc H3 nl3 e3 hlc => ?_
  have hC : LsAt (PcC T) H3 lc (chosenM (pcsM s n) l) := ⟨_, hlc, (hPA.mono fun a x h => PcC.mono e3 h).chosen hb2⟩
  have hcl := (chosenM_all (pcsM s n) l hb2).1
  have e13 := e12.trans e3
  have k3 : ∀ x, RetL x H2 Q → RetL x H3 Q := fun x kk pp H4 h1 h2 h3 => kk pp H4 (fresh_back e3 h1) (e3.trans h2) h3
  have k3 := k3 _ kk
  refine gq_when (b := !(firstM (goalsM s).length (chosenM (pcsM s n) l)).isNone) (et_not (et_B (ev_exactR (ev_fld (ev_var rfl) (hI.mono e13).listed) (ev_var rfl) (hL.mono e13) W hC (by omega)))) (fun hb => ?_) fun hb => ?_
  · rw [if_neg (fun z => by rw [z] at hb; cases hb), iV_cons] at k3
    refine go_retL (el_catLL (el_lst (ea_cons ev_c ea_nil) (by show 1 ≤ 100000; decide)) (el_unc (ev_var rfl) (ev_var rfl) (hH.mono e13) W h9 hC (by omega)) ?_) k3
    have := uncM_len s (chosenM (pcsM s n) l)
    rw [List.length_map]
    show 1 + _ ≤ _
    omega
  · have hb3 : (firstM (goalsM s).length (chosenM (pcsM s n) l)).isNone = true := by simpa using hb
    rw [if_pos hb3] at k3
    exact go_retL (xs := iV [1, ((l.length : Nat) : Int)]) (el_lst (ea_cons ev_c (ea_cons (ev_is (ev_lenS (ev_var rfl) (e3 _ _ hln2)) (by rw [List.length_map])) ea_nil)) (by show 2 ≤ 100000; decide)) k3
def sp_Holder___init__ (T : TX K mg) : Sp := fun vs H Q _ => ∃ (p dx : Addr), vs = [.ref p] ∧ H p = some (.ins T.C_Holder dx []) ∧ ∀ H' : Hp, I_Holder T H' p .non → (∀ x o, H x = some o → x ≠ p → H' x = some o) → Q .non H'
theorem ok_Holder___init__ (T : TX K mg) : FnOk P w K mg base CX0 1 T.f_Holder___init__ T.d_Holder___init__ ["self"] (sp_Holder___init__ T) := by
  refine T.F_Holder___init__.ok sc_Holder___init__ (fun vs H Q E h => ?_) (fun cdv A outer s0 H vs Q E hr h => ?_)
  · obtain ⟨p, dx, rfl, hp, k⟩ := h
    rfl
  obtain ⟨p, dx, rfl, hp, k⟩ := h
  refine ⟨_, (pss_one (ps_fld (pv 0) pe_non rfl)), Go.at ?_⟩
  refine go_fld (y := .non) ev_c (ev_var rfl) hp T.cl_Holder T.n_Holder_listed (by show 0 < 1000; decide) new_Holder_listed fun H1 e1 => ?_
  exact k _ ⟨dx, upd_same⟩ fun x o hx hne => by
    rw [upd_ne hne]
    exact e1 _ _ hx
end
end LP
namespace LP
open VahypBase (Bytes isLetter isDigit inChunk isBlank Fault Tok PTok Toks)
open Vahypa (Pat Lst Word)
/-! # reading: the mirror against the Spec -/
/-! ## tokens -/
def toTok (t : MTok) : PTok := ⟨t.2, if t.1 = [] then .last else if t.1 = [59] then .sign 59 else .chunk t.1⟩
/-- tokens, the last one the end or a place without one -/
def TL : List MTok → Prop
  | [] => False
  | [t] => isLast t = true
  | t :: u :: r => isLast t = false ∧ TL (u :: r)
def conv : List MTok → Except Fault Toks
  | [] => .ok []
  | t :: r => if t.1 = [63] then .error ⟨2, t.2⟩ else (conv r).map fun l => toTok t :: l
theorem TL_cons {t : MTok} {r : List MTok} (h1 : isLast t = false) (h2 : TL r) : TL (t :: r) := by
  cases r with
  | nil => exact h2.elim
  | cons u r => exact ⟨h1, h2⟩
theorem notLast {t : MTok} (h : isLast t = false) : t.1 ≠ [] ∧ t.1 ≠ [63] := by
  unfold isLast at h
  rw [Bool.or_eq_false_iff, beq_eq_false_iff_ne, beq_eq_false_iff_ne] at h
  exact h
theorem conv_cons {t : MTok} {r : List MTok} (h1 : isLast t = false) : conv (t :: r) = (conv r).map fun l => toTok t :: l := if_neg (notLast h1).2
theorem dropW (l : Bytes) (f : UInt8 → Bool) : l.drop (l.takeWhile f).length = l.dropWhile f := by
  induction l with
  | nil => rfl
  | cons c l ih =>
    rw [List.takeWhile_cons, List.dropWhile_cons]
    cases f c with
    | true =>
      show List.drop ((List.takeWhile f l).length + 1) (c :: l) = _
      rw [List.drop_succ_cons, ih]
      rfl
    | false => rfl
theorem tw_mem {f : UInt8 → Bool} : ∀ {l : Bytes} {x : UInt8}, x ∈ l.takeWhile f → f x = true
  | [], x, h => by cases h
  | c :: l, x, h => by
    rw [List.takeWhile_cons] at h
    cases e : f c with
    | true =>
      rw [e] at h
      rcases List.mem_cons.mp h with rfl | h
      · exact e
      · exact tw_mem h
    | false =>
      rw [e] at h
      cases h
theorem lex_go (b : Bytes) : ∀ (n p f g k : Nat), p ≤ b.length → b.length - p ≤ n → b.length - p + 1 ≤ f → b.length - p + 1 ≤ g → b.length - p ≤ k →
    VahypBase.lex f p (b.drop p) = conv (toksF g b (tokM b (skipF k b p))) ∧ TL (toksF g b (tokM b (skipF k b p)))
  | n, p, 0, g, k, hp, hn, hf, hg, hk => by omega
  | n, p, f, 0, k, hp, hn, hf, hg, hk => by omega
  | n, p, f + 1, g + 1, k, hp, hn, hf, hg, hk => by
    by_cases hend : p = b.length
    · have hx : b[p]? = none := List.getElem?_eq_none (by omega)
      have e1 : skipF k b p = p := by
        cases k with
        | zero => rfl
        | succ k =>
          unfold skipF
          rw [hx]
      have e2 : tokM b p = ([], p) := by
        unfold tokM
        rw [hx]
      have e3 : b.drop p = [] := List.drop_of_length_le (by omega)
      rw [e1, e2, e3]
      exact ⟨rfl, rfl⟩
    have hlt : p < b.length := by omega
    obtain ⟨c, hc⟩ : ∃ c, b[p]? = some c := ⟨_, List.getElem?_eq_getElem hlt⟩
    have hd : b.drop p = c :: b.drop (p + 1) := by
      obtain ⟨h1, e⟩ := List.getElem?_eq_some_iff.mp hc
      rw [List.drop_eq_getElem_cons h1, e]
    cases n with
    | zero => omega
    | succ n =>
    cases k with
    | zero => omega
    | succ k =>
    rw [hd]
    have eL : VahypBase.lex (f + 1) p (c :: b.drop (p + 1)) = if isBlank c = true then VahypBase.lex f (p + 1) (b.drop (p + 1))
      else if (c == 35) = true then VahypBase.lex f (p + 1 + ((b.drop (p + 1)).takeWhile (· != 10)).length) ((b.drop (p + 1)).dropWhile (· != 10))
      else match VahypBase.token (c :: b.drop (p + 1)) with
        | none => .error ⟨2, p⟩
        | some x => (VahypBase.lex f (p + x.2) ((c :: b.drop (p + 1)).drop x.2)).map fun l => ⟨p, x.1⟩ :: l := rfl
    have eS : skipF (k + 1) b p = if isBlank c = true then skipF k b (p + 1) else if c = 35 then skipF k b (remM b p) else p := by
      show (match b[p]? with
        | none => p
        | some c => if isBlank c = true then skipF k b (p + 1) else if c = 35 then skipF k b (remM b p) else p) = _
      rw [hc]
    rw [eL, eS]
    by_cases hb : isBlank c = true
    · rw [if_pos hb, if_pos hb]
      exact lex_go b n (p + 1) f (g + 1) k (by omega) (by omega) (by omega) (by omega) (by omega)
    rw [if_neg hb, if_neg hb]
    by_cases h35 : c = 35
    · have hq : remM b p = p + 1 + ((b.drop (p + 1)).takeWhile (· != 10)).length := by
        unfold remM
        rw [hd, List.takeWhile_cons, h35]
        show p + (((b.drop (p + 1)).takeWhile (· != 10)).length + 1) = _
        omega
      have hle : ((b.drop (p + 1)).takeWhile (· != 10)).length ≤ b.length - (p + 1) := by
        have h1 := (List.takeWhile_sublist (fun (x : UInt8) => x != 10) (l := b.drop (p + 1))).length_le
        rwa [List.length_drop] at h1
      rw [if_pos h35, if_pos (by rw [h35] <;> rfl), ← dropW, List.drop_drop, hq]
      exact lex_go b n _ f (g + 1) k (by omega) (by omega) (by omega) (by omega) (by omega)
    rw [if_neg h35, if_neg (fun z => h35 (beq_iff_eq.mp z))]
    have eN : ∀ t : MTok, isLast t = false → toksF (g + 1) b t = t :: toksF g b (nextT b t) := fun t ht => if_neg (by rw [ht]; exact Bool.false_ne_true)
    have eE : ∀ t : MTok, isLast t = true → toksF (g + 1) b t = [t] := fun t ht => if_pos ht
    have eT : tokM b p = if c = 59 then ([59], p) else if ((chunkM b p).isEmpty || decide (40 < (chunkM b p).length)) = true then ([63], p) else (chunkM b p, p) := by
      show (match b[p]? with
        | none => ([], p)
        | some c => if c = 59 then ([59], p) else if ((chunkM b p).isEmpty || decide (40 < (chunkM b p).length)) = true then ([63], p) else (chunkM b p, p)) = _
      rw [hc]
    have eK : VahypBase.token (c :: b.drop (p + 1)) = if inChunk c = true then (if 40 < (chunkM b p).length then none else some (.chunk (chunkM b p), (chunkM b p).length)) else if (c == 59) = true then some (.sign 59, 1) else none := by
      unfold chunkM
      rw [hd] <;> rfl
    rw [eT, eK]
    by_cases h59 : c = 59
    · have hi : inChunk c = false := by rw [h59] <;> rfl
      rw [if_pos h59, hi, if_neg Bool.false_ne_true, if_pos (by rw [h59] <;> rfl), eN ([59], p) rfl]
      have e4 : nextT b ([59], p) = tokM b (skipF (b.length - (p + 1)) b (p + 1)) := rfl
      obtain ⟨i1, i2⟩ := lex_go b n (p + 1) f g (b.length - (p + 1)) (by omega) (by omega) (by omega) (by omega) (by omega)
      rw [e4]
      refine ⟨?_, TL_cons rfl i2⟩
      rw [conv_cons rfl]
      show (VahypBase.lex f (p + 1) (b.drop (p + 1))).map _ = _
      rw [i1] <;> rfl
    rw [if_neg h59]
    by_cases hi : inChunk c = true
    · have hne : (chunkM b p).isEmpty = false := by
        unfold chunkM
        rw [hd, List.takeWhile_cons, hi] <;> rfl
      rw [if_pos hi, hne, Bool.false_or]
      by_cases h40 : 40 < (chunkM b p).length
      · rw [if_pos h40, if_pos (decide_eq_true h40), eE ([63], p) rfl]
        exact ⟨rfl, rfl⟩
      · have hl1 : 1 ≤ (chunkM b p).length := by
          cases e : chunkM b p with
          | nil =>
            rw [e] at hne
            cases hne
          | cons x y => exact Nat.succ_le_succ (Nat.zero_le _)
        have hle : (chunkM b p).length ≤ b.length - p := by
          unfold chunkM
          have h1 := (List.takeWhile_sublist inChunk (l := b.drop p)).length_le
          rwa [List.length_drop] at h1
        have hch : ∀ x ∈ chunkM b p, inChunk x = true := fun x hx => by
          unfold chunkM at hx
          exact tw_mem hx
        have hnl : isLast (chunkM b p, p) = false := by
          unfold isLast
          rw [Bool.or_eq_false_iff, beq_eq_false_iff_ne, beq_eq_false_iff_ne]
          refine ⟨fun z => ?_, fun z => ?_⟩
          · have z : chunkM b p = [] := z
            rw [z] at hl1
            cases hl1
          · have z : chunkM b p = [63] := z
            have := hch 63 (by rw [z]; exact List.mem_cons_self ..)
            exact absurd this (by decide)
        have h5 : chunkM b p ≠ [59] := fun z => by
          have := hch 59 (by rw [z]; exact List.mem_cons_self ..)
          exact absurd this (by decide)
        rw [if_neg h40, if_neg (by rw [decide_eq_false h40]; exact Bool.false_ne_true), eN _ hnl]
        have e4 : nextT b (chunkM b p, p) = tokM b (skipF (b.length - (p + (chunkM b p).length)) b (p + (chunkM b p).length)) := rfl
        obtain ⟨i1, i2⟩ := lex_go b n (p + (chunkM b p).length) f g (b.length - (p + (chunkM b p).length)) (by omega) (by omega) (by omega) (by omega) (by omega)
        rw [e4]
        refine ⟨?_, TL_cons hnl i2⟩
        rw [conv_cons hnl, ← i1]
        have e5 : toTok (chunkM b p, p) = ⟨p, .chunk (chunkM b p)⟩ := by
          unfold toTok
          show PTok.mk p (if chunkM b p = [] then Tok.last else if chunkM b p = [59] then Tok.sign 59 else Tok.chunk (chunkM b p)) = _
          rw [if_neg (notLast hnl).1, if_neg h5]
        rw [e5]
        show (VahypBase.lex f (p + (chunkM b p).length) ((c :: b.drop (p + 1)).drop (chunkM b p).length)).map _ = _
        rw [← hd, List.drop_drop]
    · have hem : (chunkM b p).isEmpty = true := by
        unfold chunkM
        rw [hd, List.takeWhile_cons]
        cases e : inChunk c with
        | true => exact absurd e hi
        | false => rfl
      rw [if_neg hi, if_neg (fun z => h59 (beq_iff_eq.mp z)), hem, if_pos (by rfl), eE ([63], p) rfl]
      exact ⟨rfl, rfl⟩
termination_by n => n
/-- tokens, the last one the end -/
def TEnd : List MTok → Prop
  | [] => False
  | [t] => t.1 = []
  | t :: u :: r => isLast t = false ∧ TEnd (u :: r)
theorem TL_end : ∀ ts : List MTok, TL ts → ∃ t, ts.getLast? = some t ∧ ((t.1 = [63] ∧ conv ts = .error ⟨2, t.2⟩) ∨ (t.1 ≠ [63] ∧ TEnd ts ∧ conv ts = .ok (ts.map toTok)))
  | [], h => h.elim
  | [t], h => by
    refine ⟨t, rfl, ?_⟩
    by_cases e : t.1 = [63]
    · exact .inl ⟨e, if_pos e⟩
    · refine .inr ⟨e, ?_, if_neg e⟩
      have h : isLast t = true := h
      unfold isLast at h
      rw [Bool.or_eq_true, beq_iff_eq, beq_iff_eq] at h
      exact h.resolve_right e
  | t :: u :: r, h => by
    obtain ⟨h1, h2⟩ := h
    obtain ⟨x, e, h3⟩ := TL_end (u :: r) h2
    refine ⟨x, by rw [List.getLast?_cons_cons]; exact e, ?_⟩
    rw [conv_cons h1]
    rcases h3 with ⟨h4, h5⟩ | ⟨h4, h5, h6⟩
    · rw [h5]
      exact .inl ⟨h4, rfl⟩
    · rw [h6]
      exact .inr ⟨h4, ⟨h1, h5⟩, rfl⟩
/-! ## words -/
def okW : Bool → Bytes → Bool
  | prev, [] => prev
  | prev, c :: r => if c = 45 then prev && okW false r else isLetter c && okW true r
theorem parts_ok : ∀ b : Bytes, ∃ p ps, partsB b = p :: ps ∧ okW false b = (p :: ps).all wordPart ∧ okW true b = (p.all isLetter && ps.all wordPart)
  | [] => ⟨[], [], rfl, rfl, rfl⟩
  | c :: r => by
    obtain ⟨p, ps, h1, h2, h3⟩ := parts_ok r
    by_cases e : c = 45
    · refine ⟨[], p :: ps, ?_, ?_, ?_⟩
      · show (if c = 45 then [] :: partsB r else _) = _
        rw [if_pos e, h1]
      · show (if c = 45 then false && okW false r else _) = _
        rw [if_pos e] <;> rfl
      · show (if c = 45 then true && okW false r else _) = _
        rw [if_pos e, h2] <;> rfl
    · refine ⟨c :: p, ps, ?_, ?_, ?_⟩
      · show (if c = 45 then [] :: partsB r else match partsB r with
          | p :: ps => (c :: p) :: ps
          | [] => [[c]]) = _
        rw [if_neg e, h1]
      · show (if c = 45 then false && okW false r else isLetter c && okW true r) = _
        rw [if_neg e, h3, List.all_cons]
        show _ = ((!(c :: p).isEmpty && (c :: p).all isLetter) && ps.all wordPart)
        rw [List.all_cons, ← Bool.and_assoc] <;> rfl
      · show (if c = 45 then true && okW false r else isLetter c && okW true r) = _
        rw [if_neg e, h3, List.all_cons, Bool.and_assoc]
theorem let45 {c : UInt8} (h : isLetter c = true) : c ≠ 45 := fun z => by
  rw [z] at h
  exact absurd h (by decide)
theorem letters_cons {c : UInt8} (r : Bytes) (h : c ≠ 45) : lettersW (c :: r) = c :: lettersW r := by
  unfold lettersW
  rw [List.filter_cons, if_pos (by rw [bne_iff_ne]; exact h)]
theorem letters_45 (r : Bytes) : lettersW (45 :: r) = lettersW r := rfl
theorem word_go : ∀ (N : Nat) (r : Bytes) (n : Nat) (x : Bytes) (cs : List Nat), r.length ≤ N → r.length < n → x ≠ [] → (∀ k ∈ cs, k < x.length) →
    Vahypa.wordBy n r x cs = if okW true r = true then some ⟨x ++ lettersW r, (r.foldl stepB (cs, x.length)).1⟩ else none
  | N, r, 0, x, cs, _, hn, _, _ => by omega
  | N, [], n + 1, x, cs, _, _, hx, hk => by
    show some (Word.mk x cs) = some (Word.mk (x ++ []) cs)
    rw [List.append_nil]
  | 0, c :: r, n + 1, x, cs, h, _, _, _ => by cases h
  | N + 1, c :: r, n + 1, x, cs, hN, hn, hx, hk => by
    have hN : r.length + 1 ≤ N + 1 := hN
    have hn : r.length + 1 < n + 1 := hn
    have eW : Vahypa.wordBy (n + 1) (c :: r) x cs = if isLetter c = true then Vahypa.wordBy n r (x ++ [c]) cs
      else if c == 45 ∧ x ≠ [] ∧ cs.contains x.length = false then (match (generalizing := false) r with
        | c :: _ => if isLetter c = true then Vahypa.wordBy n r x (cs ++ [x.length]) else none
        | [] => none)
      else none := rfl
    rw [eW]
    by_cases hc : isLetter c = true
    · have h45 := let45 hc
      have e2 : okW true (c :: r) = okW true r := by
        show (if c = 45 then _ else isLetter c && okW true r) = _
        rw [if_neg h45, hc, Bool.true_and]
      have e3 : stepB (cs, x.length) c = (cs, (x ++ [c]).length) := by
        unfold stepB
        rw [if_neg h45, List.length_append] <;> rfl
      rw [if_pos hc, e2, letters_cons r h45, List.foldl_cons, e3]
      rw [word_go N r n (x ++ [c]) cs (by omega) (by omega) (fun z => by simp at z) (fun k hk2 => by
        have := hk k hk2
        rw [List.length_append]
        exact Nat.lt_of_lt_of_le this (Nat.le_add_right _ _))]
      rw [List.append_assoc] <;> rfl
    rw [if_neg hc]
    by_cases h45 : c = 45
    · subst h45
      have hcs : cs.contains x.length = false := by
        cases e : cs.contains x.length with
        | false => rfl
        | true =>
          have := hk _ (List.contains_iff_mem.mp e)
          omega
      rw [if_pos ⟨rfl, hx, hcs⟩]
      have e2 : okW true (45 :: r) = okW false r := rfl
      rw [e2, letters_45, List.foldl_cons]
      have e3 : stepB (cs, x.length) 45 = (cs ++ [x.length], x.length) := rfl
      rw [e3]
      cases r with
      | nil => rfl
      | cons d r =>
        have hN : r.length + 1 + 1 ≤ N + 1 := hN
        have hn : r.length + 1 + 1 < n + 1 := hn
        show (if isLetter d = true then Vahypa.wordBy n (d :: r) x (cs ++ [x.length]) else none) = _
        by_cases hd : isLetter d = true
        · have hd45 := let45 hd
          rw [if_pos hd]
          cases n with
          | zero => omega
          | succ n =>
            have eW2 : Vahypa.wordBy (n + 1) (d :: r) x (cs ++ [x.length]) = if isLetter d = true then Vahypa.wordBy n r (x ++ [d]) (cs ++ [x.length]) else _ := rfl
            have e5 : okW false (d :: r) = okW true r := by
              show (if d = 45 then _ else isLetter d && okW true r) = _
              rw [if_neg hd45, hd, Bool.true_and]
            have e6 : stepB (cs ++ [x.length], x.length) d = (cs ++ [x.length], (x ++ [d]).length) := by
              unfold stepB
              rw [if_neg hd45, List.length_append] <;> rfl
            rw [eW2, if_pos hd, e5, letters_cons r hd45, List.foldl_cons, e6]
            rw [word_go N r n (x ++ [d]) (cs ++ [x.length]) (by omega) (by omega) (fun z => by simp at z) (fun k hk2 => by
              rw [List.length_append]
              rcases List.mem_append.mp hk2 with h | h
              · exact Nat.lt_of_lt_of_le (hk k h) (Nat.le_add_right _ _)
              · rw [List.mem_singleton.mp h]
                exact Nat.lt_succ_self _)]
            rw [List.append_assoc] <;> rfl
        · rw [if_neg hd]
          have e5 : okW false (d :: r) = false := by
            show (if d = 45 then false && okW false r else isLetter d && okW true r) = false
            split
            · rfl
            · rw [Bool.eq_false_iff.mpr hd] <;> rfl
          rw [e5] <;> rfl
    · rw [if_neg (fun z => h45 (beq_iff_eq.mp z.1))]
      have e2 : okW true (c :: r) = false := by
        show (if c = 45 then _ else isLetter c && okW true r) = false
        rw [if_neg h45, Bool.eq_false_iff.mpr hc] <;> rfl
      rw [e2] <;> rfl
theorem word_all {b : Bytes} (hb : b ≠ []) : Vahypa.wordBy (b.length + 1) b [] [] = if okW false b = true then some ⟨lettersW b, breaksM b⟩ else none := by
  cases b with
  | nil => exact absurd rfl hb
  | cons c r =>
    have eW : Vahypa.wordBy ((c :: r).length + 1) (c :: r) [] [] = if isLetter c = true then Vahypa.wordBy (r.length + 1) r [c] []
      else if c == 45 ∧ ([] : Bytes) ≠ [] ∧ ([] : List Nat).contains 0 = false then _
      else none := rfl
    rw [eW]
    by_cases hc : isLetter c = true
    · have h45 := let45 hc
      have e2 : okW false (c :: r) = okW true r := by
        show (if c = 45 then _ else isLetter c && okW true r) = _
        rw [if_neg h45, hc, Bool.true_and]
      rw [if_pos hc, e2, letters_cons r h45, word_go r.length r _ [c] [] (Nat.le_refl _) (Nat.lt_succ_self _) (fun z => by cases z) (fun k h => by cases h)]
      unfold breaksM
      rw [List.foldl_cons]
      have e3 : stepB ([], 0) c = ([], 1) := if_neg h45
      rw [e3] <;> rfl
    · rw [if_neg hc, if_neg (fun z => z.2.1 rfl)]
      have e2 : okW false (c :: r) = false := by
        show (if c = 45 then false && okW false r else isLetter c && okW true r) = false
        split
        · rfl
        · rw [Bool.eq_false_iff.mpr hc] <;> rfl
      rw [e2] <;> rfl
theorem word_ok {b : Bytes} : isWordM b = (okW false b && (decide (2 ≤ (lettersW b).length) && decide ((lettersW b).length ≤ 16))) := by
  obtain ⟨p, ps, h1, h2, h3⟩ := parts_ok b
  unfold isWordM
  rw [h1, h2]
theorem wordOf_eq (b : Bytes) : Vahypa.wordOf b = if isWordM b = true then some ⟨lettersW b, breaksM b⟩ else none := by
  cases hb : b with
  | nil => rfl
  | cons c r =>
    rw [← hb]
    have hne : b ≠ [] := fun z => by
      rw [hb] at z
      cases z
    unfold Vahypa.wordOf
    rw [word_all hne, word_ok]
    cases ho : okW false b with
    | false => rfl
    | true =>
      rw [if_pos rfl, Bool.true_and]
      show (if (lettersW b).length < 2 ∨ 16 < (lettersW b).length then none else some (Word.mk (lettersW b) (breaksM b))) = _
      by_cases h : (lettersW b).length < 2 ∨ 16 < (lettersW b).length
      · rw [if_pos h, if_neg (by rw [Bool.and_eq_true, decide_eq_true_eq, decide_eq_true_eq]; omega)]
      · rw [if_neg h, if_pos (by rw [Bool.and_eq_true, decide_eq_true_eq, decide_eq_true_eq]; omega)]
/-- a word as it may stand in a list -/
structure GW (w : Word) : Prop where
  len : 2 ≤ w.x.length ∧ w.x.length ≤ 16
  cuts : ∀ g ∈ w.cuts, 1 ≤ g ∧ g < w.x.length
  fewc : w.cuts.length ≤ 16
  lets : ∀ c ∈ w.x, isLetter c = true
theorem okW_lets : ∀ (r : Bytes) (p : Bool), okW p r = true → ∀ c ∈ lettersW r, isLetter c = true
  | [], p, _, c, hc => by cases hc
  | d :: r, p, h, c, hc => by
    by_cases e : d = 45
    · subst e
      have h : (p && okW false r) = true := h
      rw [Bool.and_eq_true] at h
      rw [letters_45] at hc
      exact okW_lets r false h.2 c hc
    · have h : (if d = 45 then p && okW false r else isLetter d && okW true r) = true := h
      rw [if_neg e, Bool.and_eq_true] at h
      rw [letters_cons r e] at hc
      rcases List.mem_cons.mp hc with rfl | hc
      · exact h.1
      · exact okW_lets r true h.2 c hc
/-- the breaks lie between letters, one at each at most -/
theorem okW_cuts : ∀ (r : Bytes) (p : Bool) (cs : List Nat) (k : Nat), okW p r = true → (p = true → 1 ≤ k) →
    (∀ g ∈ (r.foldl stepB (cs, k)).1, g ∈ cs ∨ (1 ≤ g ∧ k ≤ g ∧ g < k + (lettersW r).length)) ∧ (r.foldl stepB (cs, k)).1.length + (if p = true then 0 else 1) ≤ cs.length + (lettersW r).length ∧ (p = false → 1 ≤ (lettersW r).length)
  | [], p, cs, k, h, _ => by
    have h : p = true := h
    refine ⟨fun g hg => .inl hg, ?_, fun z => by rw [z] at h; cases h⟩
    rw [if_pos h]
    exact Nat.le_refl _
  | c :: r, p, cs, k, h, hk => by
    by_cases e : c = 45
    · subst e
      have h : (p && okW false r) = true := h
      rw [Bool.and_eq_true] at h
      obtain ⟨hp, h2⟩ := h
      have hk1 := hk hp
      have e3 : stepB (cs, k) 45 = (cs ++ [k], k) := rfl
      rw [List.foldl_cons, e3, letters_45]
      obtain ⟨i1, i2, i3⟩ := okW_cuts r false (cs ++ [k]) k h2 (fun z => by cases z)
      have i3 := i3 rfl
      refine ⟨fun g hg => ?_, ?_, fun z => by rw [z] at hp; cases hp⟩
      · rcases i1 g hg with h | h
        · rcases List.mem_append.mp h with h | h
          · exact .inl h
          · rw [List.mem_singleton.mp h]
            exact .inr ⟨hk1, Nat.le_refl _, by omega⟩
        · exact .inr h
      · rw [if_neg Bool.false_ne_true, List.length_append] at i2
        rw [if_pos hp]
        have : ([k] : List Nat).length = 1 := rfl
        omega
    · have h : (if c = 45 then p && okW false r else isLetter c && okW true r) = true := h
      rw [if_neg e, Bool.and_eq_true] at h
      have e3 : stepB (cs, k) c = (cs, k + 1) := if_neg e
      rw [List.foldl_cons, e3, letters_cons r e, List.length_cons]
      obtain ⟨i1, i2, i3⟩ := okW_cuts r true cs (k + 1) h.2 (fun _ => by omega)
      refine ⟨fun g hg => ?_, ?_, fun _ => by omega⟩
      · rcases i1 g hg with h | ⟨h1, h2, h3⟩
        · exact .inl h
        · exact .inr ⟨h1, by omega, by omega⟩
      · rw [if_pos rfl] at i2
        split <;> omega
theorem word_good {b : Bytes} (h : isWordM b = true) : GW ⟨lettersW b, breaksM b⟩ := by
  rw [word_ok] at h
  simp only [Bool.and_eq_true, decide_eq_true_eq] at h
  obtain ⟨h1, h2, h3⟩ := h
  obtain ⟨i1, i2, _⟩ := okW_cuts b false [] 0 h1 (fun z => by cases z)
  refine ⟨⟨h2, h3⟩, fun g hg => ?_, ?_, okW_lets b false h1⟩
  · rcases i1 g hg with h | ⟨g1, _, g3⟩
    · cases h
    · exact ⟨g1, by rw [Nat.zero_add] at g3; exact g3⟩
  · show (b.foldl stepB ([], 0)).1.length ≤ 16
    have : ([] : List Nat).length = 0 := rfl
    omega
end LP
namespace LP
open VahypBase (Bytes isLetter isDigit inChunk isBlank Fault Tok PTok Toks)
open Vahypa (Pat Lst Word)
/-! ## patterns -/
theorem let_dig {c : UInt8} (h : isLetter c = true) : isDigit c = false := by
  unfold isLetter at h
  unfold isDigit
  rw [decide_eq_true_eq] at h
  rw [decide_eq_false_iff_not]
  omega
theorem let_46 {c : UInt8} (h : isLetter c = true) : c ≠ 46 := fun z => by
  rw [z] at h
  exact absurd h (by decide)
/-- letters, a digit from 1 to 9 at some gaps -/
def okP : Bool → Bytes → Bool
  | _, [] => true
  | pd, c :: r => if isDigit c = true then !pd && (c != 48 && okP true r) else isLetter c && okP false r
/-- the levels -/
def lv : Bytes → List Nat
  | [] => [0]
  | c :: r => if isDigit c = true then (match r with
    | [] => [c.toNat - 48]
    | _ :: s => (c.toNat - 48) :: lv s) else 0 :: lv r
theorem lv_let {c : UInt8} {r : Bytes} (h : isDigit c = false) : lv (c :: r) = 0 :: lv r := by
  conv => lhs; unfold lv
  rw [if_neg (by rw [h]; exact Bool.false_ne_true)]
theorem nodig_dig {c : UInt8} {r : Bytes} (h : isDigit c = true) : nodig (c :: r) = nodig r := by
  unfold nodig
  rw [List.filter_cons, if_neg (by rw [h]; decide)]
theorem nodig_let {c : UInt8} {r : Bytes} (h : isDigit c = false) : nodig (c :: r) = c :: nodig r := by
  unfold nodig
  rw [List.filter_cons, if_pos (by rw [h]; rfl)]
theorem patBy_step (n : Nat) (l x : Bytes) (vs : List Nat) : Vahypa.patBy (n + 1) l x vs =
    if (match l with
      | b :: _ => b == 48
      | [] => false) = true then none else match (match l with
      | b :: r => if isDigit b = true then r else l
      | [] => l) with
      | b :: s => if isLetter b = true then Vahypa.patBy n s (x ++ [b]) (vs ++ [match l with
        | b :: _ => if isDigit b = true then b.toNat - 48 else 0
        | [] => 0]) else some (x, vs ++ [match l with
        | b :: _ => if isDigit b = true then b.toNat - 48 else 0
        | [] => 0], (match l with
      | b :: r => if isDigit b = true then r else l
      | [] => l))
      | [] => some (x, vs ++ [match l with
        | b :: _ => if isDigit b = true then b.toNat - 48 else 0
        | [] => 0], []) := rfl
/-- a piece of the reading: no digit first -/
theorem patBy_let {n : Nat} {c : UInt8} {r x : Bytes} {vs : List Nat} (h : isDigit c = false) : Vahypa.patBy (n + 1) (c :: r) x vs = if isLetter c = true then Vahypa.patBy n r (x ++ [c]) (vs ++ [0]) else some (x, vs ++ [0], c :: r) := by
  rw [patBy_step]
  have h48 : (c == 48) = false := by
    rw [beq_eq_false_iff_ne]
    intro z
    rw [z] at h
    exact absurd h (by decide)
  show (if (c == 48) = true then none else match (if isDigit c = true then r else c :: r) with
      | b :: s => if isLetter b = true then Vahypa.patBy n s (x ++ [b]) (vs ++ [if isDigit c = true then c.toNat - 48 else 0]) else some (x, vs ++ [if isDigit c = true then c.toNat - 48 else 0], (if isDigit c = true then r else c :: r))
      | [] => some (x, vs ++ [if isDigit c = true then c.toNat - 48 else 0], [])) = _
  rw [h48, h] <;> rfl
theorem patBy_dig {n : Nat} {c : UInt8} {r x : Bytes} {vs : List Nat} (h : isDigit c = true) (h48 : c ≠ 48) : Vahypa.patBy (n + 1) (c :: r) x vs = match r with
    | b :: s => if isLetter b = true then Vahypa.patBy n s (x ++ [b]) (vs ++ [c.toNat - 48]) else some (x, vs ++ [c.toNat - 48], r)
    | [] => some (x, vs ++ [c.toNat - 48], []) := by
  rw [patBy_step]
  show (if (c == 48) = true then none else match (if isDigit c = true then r else c :: r) with
      | b :: s => if isLetter b = true then Vahypa.patBy n s (x ++ [b]) (vs ++ [if isDigit c = true then c.toNat - 48 else 0]) else some (x, vs ++ [if isDigit c = true then c.toNat - 48 else 0], (if isDigit c = true then r else c :: r))
      | [] => some (x, vs ++ [if isDigit c = true then c.toNat - 48 else 0], [])) = _
  rw [beq_eq_false_iff_ne.mpr h48, h] <;> rfl
theorem patBy_48 {n : Nat} {r x : Bytes} {vs : List Nat} : Vahypa.patBy (n + 1) (48 :: r) x vs = none := by
  rw [patBy_step] <;> rfl
/-- what is read back -/
theorem pat_sound : ∀ (N : Nat) (m : Bytes) (n : Nat) (x : Bytes) (vs : List Nat) (y : Bytes) (ws : List Nat) (t : Bytes), m.length ≤ N → Vahypa.patBy n m x vs = some (y, ws, t) →
    ∃ d, m = d ++ t ∧ okP false d = true ∧ y = x ++ nodig d ∧ ws = vs ++ lv d
  | N, m, 0, x, vs, y, ws, t, _, h => by cases h
  | N, [], n + 1, x, vs, y, ws, t, _, h => by
    have h : some (x, vs ++ [0], ([] : Bytes)) = some (y, ws, t) := h
    cases h
    exact ⟨[], rfl, rfl, (List.append_nil _).symm, rfl⟩
  | 0, c :: r, n + 1, x, vs, y, ws, t, hN, h => by cases hN
  | N + 1, c :: r, n + 1, x, vs, y, ws, t, hN, h => by
    have hN : r.length + 1 ≤ N + 1 := hN
    by_cases hd : isDigit c = true
    · by_cases h48 : c = 48
      · subst h48
        rw [patBy_48] at h
        cases h
      · have b48 : (c != 48) = true := by rw [bne_iff_ne]; exact h48
        rw [patBy_dig hd h48] at h
        cases r with
        | nil =>
          cases h
          refine ⟨[c], rfl, ?_, ?_, ?_⟩
          · show (if isDigit c = true then !false && (c != 48 && okP true []) else _) = true
            rw [if_pos hd, b48] <;> rfl
          · rw [nodig_dig hd] <;> exact (List.append_nil _).symm
          · show vs ++ _ = vs ++ (if isDigit c = true then [c.toNat - 48] else _)
            rw [if_pos hd]
        | cons e s =>
          have hN : s.length + 1 + 1 ≤ N + 1 := hN
          have h : (if isLetter e = true then Vahypa.patBy n s (x ++ [e]) (vs ++ [c.toNat - 48]) else some (x, vs ++ [c.toNat - 48], e :: s)) = some (y, ws, t) := h
          by_cases he : isLetter e = true
          · rw [if_pos he] at h
            obtain ⟨d, h1, h2, h3, h4⟩ := pat_sound N s n _ _ y ws t (by omega) h
            refine ⟨c :: e :: d, by rw [h1] <;> rfl, ?_, ?_, ?_⟩
            · show (if isDigit c = true then !false && (c != 48 && (if isDigit e = true then _ else isLetter e && okP false d)) else _) = true
              rw [if_pos hd, b48, let_dig he, if_neg Bool.false_ne_true, he, h2] <;> rfl
            · rw [nodig_dig hd, nodig_let (let_dig he), h3, List.append_assoc] <;> rfl
            · rw [h4, List.append_assoc]
              show vs ++ _ = vs ++ (if isDigit c = true then (c.toNat - 48) :: lv d else _)
              rw [if_pos hd] <;> rfl
          · rw [if_neg he] at h
            cases h
            refine ⟨[c], rfl, ?_, ?_, ?_⟩
            · show (if isDigit c = true then !false && (c != 48 && okP true []) else _) = true
              rw [if_pos hd, b48] <;> rfl
            · rw [nodig_dig hd] <;> exact (List.append_nil _).symm
            · show vs ++ _ = vs ++ (if isDigit c = true then [c.toNat - 48] else _)
              rw [if_pos hd]
    · have hd : isDigit c = false := Bool.eq_false_iff.mpr hd
      rw [patBy_let hd] at h
      by_cases hc : isLetter c = true
      · rw [if_pos hc] at h
        obtain ⟨d, h1, h2, h3, h4⟩ := pat_sound N r n _ _ y ws t (by omega) h
        refine ⟨c :: d, by rw [h1] <;> rfl, ?_, ?_, ?_⟩
        · show (if isDigit c = true then _ else isLetter c && okP false d) = true
          rw [hd, if_neg Bool.false_ne_true, hc, h2] <;> rfl
        · rw [nodig_let hd, h3, List.append_assoc] <;> rfl
        · rw [h4, List.append_assoc]
          rw [lv_let hd] <;> rfl
      · rw [if_neg hc] at h
        cases h
        exact ⟨[], rfl, rfl, (List.append_nil _).symm, rfl⟩
theorem tail_first {t : Bytes} (ht : t = [] ∨ t = [46]) : ∀ (n : Nat) (x : Bytes) (vs : List Nat), Vahypa.patBy (n + 1) t x vs = some (x, vs ++ [0], t) := fun n x vs => by
  rcases ht with rfl | rfl
  · rfl
  · rw [patBy_let (by decide), if_neg (by decide)]
theorem pat_compl {t : Bytes} (ht : t = [] ∨ t = [46]) : ∀ (N : Nat) (d : Bytes) (n : Nat) (x : Bytes) (vs : List Nat), d.length ≤ N → d.length < n → okP false d = true → Vahypa.patBy n (d ++ t) x vs = some (x ++ nodig d, vs ++ lv d, t)
  | N, d, 0, x, vs, _, hn, _ => by omega
  | N, [], n + 1, x, vs, _, _, _ => by
    rw [List.nil_append, tail_first ht]
    show _ = some (x ++ [], vs ++ [0], t)
    rw [List.append_nil]
  | 0, c :: r, n + 1, x, vs, h, _, _ => by cases h
  | N + 1, c :: r, n + 1, x, vs, hN, hn, h => by
    have hN : r.length + 1 ≤ N + 1 := hN
    have hn : r.length + 1 < n + 1 := hn
    have h : (if isDigit c = true then !false && (c != 48 && okP true r) else isLetter c && okP false r) = true := h
    rw [List.cons_append]
    by_cases hd : isDigit c = true
    · rw [if_pos hd] at h
      simp only [Bool.and_eq_true, bne_iff_ne] at h
      obtain ⟨_, h48, h2⟩ := h
      rw [patBy_dig hd h48]
      cases r with
      | nil =>
        refine Eq.trans (b := some (x, vs ++ [c.toNat - 48], t)) (by rcases ht with rfl | rfl <;> rfl) ?_
        rw [nodig_dig hd]
        show _ = some (x ++ [], vs ++ (if isDigit c = true then [c.toNat - 48] else _), t)
        rw [if_pos hd, List.append_nil]
      | cons e s =>
        have hN : s.length + 1 + 1 ≤ N + 1 := hN
        have hn : s.length + 1 + 1 < n + 1 := hn
        have h2 : (if isDigit e = true then !true && (e != 48 && okP true s) else isLetter e && okP false s) = true := h2
        by_cases he : isDigit e = true
        · rw [if_pos he] at h2
          cases h2
        · rw [if_neg he, Bool.and_eq_true] at h2
          show (if isLetter e = true then Vahypa.patBy n (s ++ t) (x ++ [e]) (vs ++ [c.toNat - 48]) else _) = _
          rw [if_pos h2.1, pat_compl ht N s n _ _ (by omega) (by omega) h2.2, nodig_dig hd, nodig_let (let_dig h2.1)]
          show _ = some (x ++ e :: nodig s, vs ++ (if isDigit c = true then (c.toNat - 48) :: lv s else _), t)
          rw [if_pos hd, List.append_assoc, List.append_assoc] <;> rfl
    · have hd2 : isDigit c = false := Bool.eq_false_iff.mpr hd
      rw [if_neg hd, Bool.and_eq_true] at h
      rw [patBy_let hd2, if_pos h.1, pat_compl ht N r n _ _ (by omega) (by omega) h.2, nodig_let hd2]
      rw [lv_let hd2, List.append_assoc, List.append_assoc] <;> rfl
/-! the mirror's own tests -/
theorem side_cons (c : UInt8) (r : Bytes) : sideM (c :: r) = (isDigit c && digAt r 0 || sideM r) := by
  unfold sideM
  cases r with
  | nil => 
    show false = (isDigit c && false || false)
    rw [Bool.and_false, Bool.or_false]
  | cons d s =>
    show (List.range ((d :: s).length + 1 - 1)).any _ = _
    rw [Nat.add_sub_cancel, List.length_cons, List.range_succ_eq_map, List.any_cons, List.any_map, Nat.add_sub_cancel] <;> rfl
theorem okP_iff : ∀ d : Bytes, (okP false d = true ↔ (nodig d).all isLetter = true ∧ d.contains 48 = false ∧ sideM d = false) ∧ (okP true d = true ↔ (nodig d).all isLetter = true ∧ d.contains 48 = false ∧ sideM d = false ∧ digAt d 0 = false)
  | [] => ⟨⟨fun _ => ⟨rfl, rfl, rfl⟩, fun _ => rfl⟩, ⟨fun _ => ⟨rfl, rfl, rfl, rfl⟩, fun _ => rfl⟩⟩
  | c :: r => by
    obtain ⟨i1, i2⟩ := okP_iff r
    have e1 : okP false (c :: r) = if isDigit c = true then !false && (c != 48 && okP true r) else isLetter c && okP false r := rfl
    have e2 : okP true (c :: r) = if isDigit c = true then !true && (c != 48 && okP true r) else isLetter c && okP false r := rfl
    have e3 : digAt (c :: r) 0 = isDigit c := rfl
    have e4 : (c :: r).contains 48 = (c == 48 || r.contains 48) := by
      rw [List.contains_cons]
      congr 1
      rw [Bool.eq_iff_iff, beq_iff_eq, beq_iff_eq]
      exact eq_comm
    rw [e1, e2, e3, side_cons, e4]
    by_cases hd : isDigit c = true
    · rw [if_pos hd, if_pos hd, nodig_dig hd, hd]
      refine ⟨?_, ?_⟩
      · rw [Bool.true_and, Bool.or_eq_false_iff, Bool.or_eq_false_iff, beq_eq_false_iff_ne]
        show (true && (c != 48 && okP true r)) = true ↔ _
        rw [Bool.true_and, Bool.and_eq_true, bne_iff_ne, i2]
        exact ⟨fun ⟨h1, h2, h3, h4, h5⟩ => ⟨h2, ⟨h1, h3⟩, h5, h4⟩, fun ⟨h2, ⟨h1, h3⟩, h5, h4⟩ => ⟨h1, h2, h3, h4, h5⟩⟩
      · constructor
        · intro z
          cases z
        · rintro ⟨_, _, _, z⟩
          cases z
    · have hd2 : isDigit c = false := Bool.eq_false_iff.mpr hd
      have h48 : (c == 48) = false := by
        rw [beq_eq_false_iff_ne]
        intro z
        rw [z] at hd
        exact hd (by decide)
      rw [if_neg hd, if_neg hd, nodig_let hd2, hd2, h48, Bool.false_or, Bool.false_and, Bool.false_or, List.all_cons, Bool.and_eq_true, Bool.and_eq_true, i1]
      exact ⟨⟨fun ⟨h1, h2, h3, h4⟩ => ⟨⟨h1, h2⟩, h3, h4⟩, fun ⟨⟨h1, h2⟩, h3, h4⟩ => ⟨h1, h2, h3, h4⟩⟩, ⟨fun ⟨h1, h2, h3, h4⟩ => ⟨⟨h1, h2⟩, h3, h4, rfl⟩, fun ⟨⟨h1, h2⟩, h3, h4, _⟩ => ⟨h1, h2, h3, h4⟩⟩⟩
theorem lv_zero : ∀ (N : Nat) (d : Bytes), d.length ≤ N → okP false d = true → ((lv d).all (fun v => v == 0) = true ↔ (nodig d).length = d.length)
  | N, [], _, _ => ⟨fun _ => rfl, fun _ => rfl⟩
  | 0, c :: r, h, _ => by cases h
  | N + 1, c :: r, hN, h => by
    have hN : r.length + 1 ≤ N + 1 := hN
    have h : (if isDigit c = true then !false && (c != 48 && okP true r) else isLetter c && okP false r) = true := h
    by_cases hd : isDigit c = true
    · rw [if_pos hd] at h
      simp only [Bool.and_eq_true, bne_iff_ne] at h
      have hv : (c.toNat - 48 == 0) = false := by
        rw [beq_eq_false_iff_ne]
        intro z
        unfold isDigit at hd
        rw [decide_eq_true_eq] at hd
        apply h.2.1
        exact UInt8.toNat_inj.mp (by show c.toNat = 48; omega)
      have e1 : (lv (c :: r)).all (fun v => v == 0) = false := by
        cases r with
        | nil =>
          show ((if isDigit c = true then [c.toNat - 48] else _) : List Nat).all _ = false
          rw [if_pos hd]
          show ((c.toNat - 48 == 0) && true) = false
          rw [hv] <;> rfl
        | cons e s =>
          show ((if isDigit c = true then (c.toNat - 48) :: lv s else _) : List Nat).all _ = false
          rw [if_pos hd, List.all_cons, hv] <;> rfl
      have hl := List.length_filter_le (fun c => !isDigit c) r
      rw [e1, nodig_dig hd]
      refine ⟨fun z => (by cases z), fun z => ?_⟩
      unfold nodig at z
      rw [List.length_cons] at z
      omega
    · have hd2 : isDigit c = false := Bool.eq_false_iff.mpr hd
      rw [if_neg hd, Bool.and_eq_true] at h
      have ih := lv_zero N r (by omega) h.2
      have e1 : lv (c :: r) = 0 :: lv r := lv_let hd2
      rw [e1, List.all_cons, nodig_let hd2, List.length_cons, List.length_cons]
      show ((true && (lv r).all _) = true ↔ _)
      rw [Bool.true_and, ih]
      omega
end LP
namespace LP
open VahypBase (Bytes isLetter isDigit inChunk isBlank Fault Tok PTok Toks)
open Vahypa (Pat Lst Word)
def keyP (p : Pat) : Bytes := ptB p.front ++ p.x ++ ptB p.halt_
def isEnd (m : Bytes) : Bool := m.getLast? == some 46
theorem tail_split (m : Bytes) : m = tailOff m ++ ptB (isEnd m) := by
  unfold tailOff isEnd ptB
  by_cases h : (m.getLast? == some 46) = true
  · rw [if_pos h, if_pos h]
    obtain ⟨a, rfl⟩ := List.getLast?_eq_some_iff.mp (beq_iff_eq.mp h)
    rw [List.dropLast_concat]
  · rw [if_neg h, if_neg h, List.append_nil]
theorem head_split (b : Bytes) : b = ptB (b.head? == some 46) ++ headOff b := by
  unfold headOff ptB
  by_cases h : (b.head? == some 46) = true
  · rw [if_pos h, if_pos h]
    cases b with
    | nil => cases h
    | cons c r =>
      have : c = 46 := Option.some.inj (beq_iff_eq.mp h)
      rw [this] <;> rfl
  · rw [if_neg h, if_neg h, List.nil_append]
theorem nodig_app (a b : Bytes) : nodig (a ++ b) = nodig a ++ nodig b := List.filter_append ..
theorem nodig_pt (f : Bool) : nodig (ptB f) = ptB f := by cases f <;> rfl
theorem okP_no46 {d : Bytes} (h : okP false d = true) : (46 : UInt8) ∉ d := fun z => by
  have h1 := ((okP_iff d).1.mp h).1
  have h2 : (46 : UInt8) ∈ nodig d := List.mem_filter.mpr ⟨z, by decide⟩
  exact absurd (List.all_eq_true.mp h1 _ h2) (by decide)
theorem pt_or (f : Bool) : ptB f = [] ∨ ptB f = [46] := by cases f <;> simp [ptB]
theorem patOf_eq (b : Bytes) : Vahypa.patOf b = (Vahypa.patBy (b.length + 1) (headOff b) [] []).bind fun p =>
    if p.1.length < 1 ∨ 6 < p.1.length ∨ (p.2.2 ≠ [] ∧ (p.2.2 == [46]) = false) ∨ p.2.1.all (fun v => v == 0) = true then none else some ⟨b.head? == some 46, p.1, p.2.2 == [46], p.2.1⟩ := rfl
theorem patM_iff (b : Bytes) : isPatM b = true ↔ okP false (nopts b) = true ∧ 1 ≤ (nodig (nopts b)).length ∧ (nodig (nopts b)).length ≤ 6 ∧ (nodig (nopts b)).length ≠ (nopts b).length := by
  unfold isPatM
  show (((!(nodig (nopts b)).isEmpty && (nodig (nopts b)).all isLetter) && decide ((nodig (nopts b)).length ≤ 6)) && (!((nodig (nopts b)).length == (nopts b).length || (nopts b).contains 48) && !sideM (nopts b))) = true ↔ _
  rw [(okP_iff (nopts b)).1]
  simp only [Bool.and_eq_true, decide_eq_true_eq, Bool.not_eq_true', Bool.or_eq_false_iff, beq_eq_false_iff_ne]
  have he : (nodig (nopts b)).isEmpty = false ↔ 1 ≤ (nodig (nopts b)).length := by
    cases nodig (nopts b) with
    | nil => exact ⟨fun z => (by cases z), fun z => (by cases z)⟩
    | cons c r => exact ⟨fun _ => Nat.succ_le_succ (Nat.zero_le _), fun _ => rfl⟩
  rw [he]
  exact ⟨fun ⟨⟨⟨h1, h2⟩, h3⟩, ⟨h4, h5⟩, h6⟩ => ⟨⟨h2, h5, h6⟩, h1, h3, h4⟩, fun ⟨⟨h2, h5, h6⟩, h1, h3, h4⟩ => ⟨⟨⟨h1, h2⟩, h3⟩, ⟨h4, h5⟩, h6⟩⟩
theorem head_len (b : Bytes) : (headOff b).length ≤ b.length := by
  unfold headOff
  split
  · rw [List.length_drop]
    omega
  · exact Nat.le_refl _
theorem pat_yes {b : Bytes} (h : isPatM b = true) : ∃ p, Vahypa.patOf b = some p ∧ nodig b = keyP p ∧ (∀ c ∈ p.x, isLetter c = true) ∧ p.x ≠ [] := by
  obtain ⟨h1, h2, h3, h4⟩ := (patM_iff b).mp h
  have hm := tail_split (headOff b)
  have hm2 : headOff b = nopts b ++ ptB (isEnd (headOff b)) := hm
  have hl := head_len b
  have hl2 : (nopts b).length ≤ (headOff b).length := by
    conv => rhs; rw [hm2]
    rw [List.length_append]
    omega
  have e := pat_compl (pt_or (isEnd (headOff b))) (nopts b).length (nopts b) (b.length + 1) [] [] (Nat.le_refl _) (by omega) h1
  rw [← hm2] at e
  have hz : ¬ (lv (nopts b)).all (fun v => v == 0) = true := fun z => h4 ((lv_zero _ _ (Nat.le_refl _) h1).mp z)
  have hs : (ptB (isEnd (headOff b)) == [46]) = isEnd (headOff b) := by cases isEnd (headOff b) <;> rfl
  refine ⟨⟨b.head? == some 46, nodig (nopts b), isEnd (headOff b), lv (nopts b)⟩, ?_, ?_, ?_, ?_⟩
  · rw [patOf_eq, e]
    show (if (nodig (nopts b)).length < 1 ∨ 6 < (nodig (nopts b)).length ∨ (ptB (isEnd (headOff b)) ≠ [] ∧ (ptB (isEnd (headOff b)) == [46]) = false) ∨ (lv (nopts b)).all (fun v => v == 0) = true then none else some (Pat.mk (b.head? == some 46) (nodig (nopts b)) (ptB (isEnd (headOff b)) == [46]) (lv (nopts b)))) = _
    rw [hs, if_neg]
    rintro (z | z | ⟨z1, z2⟩ | z)
    · omega
    · omega
    · rw [z2] at z1
      exact z1 rfl
    · exact hz z
  · conv => lhs; rw [head_split b, hm2]
    rw [nodig_app, nodig_app, nodig_pt, nodig_pt]
    unfold keyP
    rw [List.append_assoc]
  · exact fun c hc => List.all_eq_true.mp ((okP_iff _).1.mp h1).1 c hc
  · intro z
    have z : nodig (nopts b) = [] := z
    rw [z] at h2
    cases h2
theorem pat_no {b : Bytes} (h : isPatM b = false) : Vahypa.patOf b = none := by
  rw [patOf_eq]
  cases e : Vahypa.patBy (b.length + 1) (headOff b) [] [] with
  | none => rfl
  | some q =>
    obtain ⟨y, ws, t⟩ := q
    show (if y.length < 1 ∨ 6 < y.length ∨ (t ≠ [] ∧ (t == [46]) = false) ∨ ws.all (fun v => v == 0) = true then none else _) = none
    by_cases hc : y.length < 1 ∨ 6 < y.length ∨ (t ≠ [] ∧ (t == [46]) = false) ∨ ws.all (fun v => v == 0) = true
    · rw [if_pos hc]
    · exfalso
      obtain ⟨d, h1, h2, h3, h4⟩ := pat_sound _ _ _ _ _ y ws t (Nat.le_refl _) e
      have h3 : y = nodig d := h3
      have h4 : ws = lv d := h4
      have ht : t = [] ∨ t = [46] := by
        by_cases z : t = []
        · exact .inl z
        · refine .inr ?_
          cases z2 : t == [46] with
          | true => exact beq_iff_eq.mp z2
          | false => exact absurd (.inr (.inr (.inl ⟨z, z2⟩))) hc
      have ed : nopts b = d := by
        unfold nopts tailOff
        rw [h1]
        rcases ht with rfl | rfl
        · rw [List.append_nil, if_neg]
          intro z
          exact okP_no46 h2 (List.mem_of_getLast? (beq_iff_eq.mp z))
        · rw [if_pos (by rw [List.getLast?_concat] <;> rfl), List.dropLast_concat]
      have : isPatM b = true := by
        rw [patM_iff, ed, ← h3]
        refine ⟨h2, by omega, by omega, fun z => hc (.inr (.inr (.inr ?_)))⟩
        rw [h4, lv_zero _ _ (Nat.le_refl _) h2, ← h3]
        exact z
      rw [this] at h
      cases h
end LP
namespace LP
open VahypBase (Bytes isLetter isDigit inChunk isBlank Fault Tok PTok Toks)
open Vahypa (Pat Lst Word)
/-! ## what is read, both ways -/
def Res (r : Except (Nat × Nat) RS) (x : Except Fault Lst) : Prop := match r, x with
  | .error e, .error f => e.1 = f.code ∧ e.2 = f.place
  | .ok rs, .ok s => rs.ms = [s.l, s.r] ∧ rs.ws = s.words ∧ rs.ps.length = s.pats.length ∧ WF s
  | _, _ => False
theorem fr_eq {f f' : Bool} {a b : Bytes} (ha : (46 : UInt8) ∉ a) (hb : (46 : UInt8) ∉ b) (e : ptB f ++ a = ptB f' ++ b) : f = f' ∧ a = b := by
  cases f <;> cases f'
  · exact ⟨rfl, e⟩
  · exfalso
    have e : a = 46 :: b := e
    exact ha (by rw [e]; exact List.mem_cons_self ..)
  · exfalso
    have e : 46 :: a = b := e
    exact hb (by rw [← e]; exact List.mem_cons_self ..)
  · have e : 46 :: a = 46 :: b := e
    injection e with _ e
    exact ⟨rfl, e⟩
theorem key_inj {p q : Pat} (hp : ∀ c ∈ p.x, isLetter c = true) (hq : ∀ c ∈ q.x, isLetter c = true) (hp1 : p.x ≠ []) (hq1 : q.x ≠ []) : keyP p = keyP q ↔ (q.x == p.x && (q.front == p.front && q.halt_ == p.halt_)) = true := by
  have n46 : ∀ {p : Pat}, (∀ c ∈ p.x, isLetter c = true) → (46 : UInt8) ∉ p.x := fun h z => let_46 (h _ z) rfl
  rw [Bool.and_eq_true, Bool.and_eq_true, beq_iff_eq, beq_iff_eq, beq_iff_eq]
  constructor
  · intro e
    unfold keyP at e
    have e0 : p.front = q.front ∧ p.x ++ ptB p.halt_ = q.x ++ ptB q.halt_ := by
      rw [List.append_assoc, List.append_assoc] at e
      cases hx : p.x with
      | nil => exact absurd hx hp1
      | cons c r =>
        cases hy : q.x with
        | nil => exact absurd hy hq1
        | cons d s =>
          rw [hx, hy] at e
          have hc := let_46 (hp c (by rw [hx]; exact List.mem_cons_self ..))
          have hd := let_46 (hq d (by rw [hy]; exact List.mem_cons_self ..))
          cases hf : p.front <;> cases hg : q.front <;> rw [hf, hg] at e
          · exact ⟨rfl, e⟩
          · exfalso
            injection e with e1 _
            exact hc e1
          · exfalso
            injection e with e1 _
            exact hd e1.symm
          · injection e with _ e
            exact ⟨rfl, e⟩
    obtain ⟨h1, h2⟩ := e0
    have h3 : p.halt_ = q.halt_ ∧ p.x = q.x := by
      cases hf : p.halt_ <;> cases hg : q.halt_ <;> rw [hf, hg] at h2
      · have h2 : p.x ++ [] = q.x ++ [] := h2
        rw [List.append_nil, List.append_nil] at h2
        exact ⟨rfl, h2⟩
      · exfalso
        have h2 : p.x ++ [] = q.x ++ [46] := h2
        rw [List.append_nil] at h2
        exact n46 hp (by rw [h2]; exact List.mem_append_right _ (List.mem_cons_self ..))
      · exfalso
        have h2 : p.x ++ [46] = q.x ++ [] := h2
        rw [List.append_nil] at h2
        exact n46 hq (by rw [← h2]; exact List.mem_append_right _ (List.mem_cons_self ..))
      · exact ⟨rfl, (List.append_inj' h2 rfl).1⟩
    exact ⟨h3.2.symm, h1.symm, h3.1.symm⟩
  · rintro ⟨h1, h2, h3⟩
    unfold keyP
    rw [h1, h2, h3]
/-- patterns as they may stand in a list -/
structure GP (ps : List Bytes) (qs : List Pat) : Prop where
  keys : ps.map nodig = qs.map keyP
  lets : ∀ q ∈ qs, (∀ c ∈ q.x, isLetter c = true) ∧ q.x ≠ []
  few : qs.length ≤ 40
theorem GP.len {ps : List Bytes} {qs : List Pat} (h : GP ps qs) : ps.length = qs.length := by
  have := congrArg List.length h.keys
  rwa [List.length_map, List.length_map] at this
theorem GP.twice {ps : List Bytes} {qs : List Pat} (h : GP ps qs) {c : Bytes} {p : Pat} (hk : nodig c = keyP p) (hp : ∀ c ∈ p.x, isLetter c = true) (hp1 : p.x ≠ []) :
    (ps.any fun b => nodig b == nodig c) = qs.any fun q => q.x == p.x && (q.front == p.front && q.halt_ == p.halt_) := by
  have e1 : (ps.any fun b => nodig b == nodig c) = (ps.map nodig).any fun k => k == nodig c := by rw [List.any_map] <;> rfl
  rw [e1, h.keys, List.any_map, Bool.eq_iff_iff, List.any_eq_true, List.any_eq_true]
  have hq : ∀ q ∈ qs, ((keyP q == nodig c) = true ↔ (q.x == p.x && (q.front == p.front && q.halt_ == p.halt_)) = true) := fun q hq => by
    obtain ⟨h1, h2⟩ := h.lets q hq
    rw [hk, beq_iff_eq, ← key_inj hp h1 hp1 h2]
    exact eq_comm
  exact ⟨fun ⟨q, hm, z⟩ => ⟨q, hm, (hq q hm).mp z⟩, fun ⟨q, hm, z⟩ => ⟨q, hm, (hq q hm).mpr z⟩⟩
/-! the tokens -/
theorem TEnd.tail {t : MTok} {r : List MTok} (h : TEnd (t :: r)) (hl : isLast t = false) : ∃ u s, r = u :: s ∧ TEnd (u :: s) := by
  cases r with
  | nil =>
    have h : t.1 = [] := h
    unfold isLast at hl
    rw [h] at hl
    cases hl
  | cons u s => exact ⟨u, s, rfl, h.2⟩
theorem TEnd.last {t : MTok} {r : List MTok} (h : TEnd (t :: r)) (hl : isLast t = true) : r = [] ∧ t.1 = [] := by
  cases r with
  | nil => exact ⟨rfl, h⟩
  | cons u s =>
    rw [h.1] at hl
    cases hl
/-- a token as the Spec sees it -/
theorem tok_cases (t : MTok) : (t.1 = [] ∧ toTok t = ⟨t.2, .last⟩) ∨ (t.1 = [59] ∧ toTok t = ⟨t.2, .sign 59⟩) ∨ (t.1 ≠ [] ∧ t.1 ≠ [59] ∧ toTok t = ⟨t.2, .chunk t.1⟩) := by
  unfold toTok
  by_cases h : t.1 = []
  · rw [if_pos h]
    exact .inl ⟨h, rfl⟩
  · by_cases h2 : t.1 = [59]
    · rw [if_neg h, if_pos h2]
      exact .inr (.inl ⟨h2, rfl⟩)
    · rw [if_neg h, if_neg h2]
      exact .inr (.inr ⟨h, h2, rfl⟩)
theorem next_chunk {t : MTok} {l : Toks} {w : Bytes} (h1 : w ≠ []) (h2 : w ≠ [59]) : VahypBase.next (.chunk w) (toTok t :: l) = (t.1 == w) := by
  rcases tok_cases t with ⟨h, e⟩ | ⟨h, e⟩ | ⟨_, _, e⟩ <;> rw [e]
  · rw [h]
    show false = _
    exact (beq_eq_false_iff_ne.mpr fun z => h1 z.symm).symm
  · rw [h]
    show false = _
    exact (beq_eq_false_iff_ne.mpr fun z => h2 z.symm).symm
  · rfl
theorem next_sign {t : MTok} {l : Toks} : VahypBase.next (.sign 59) (toTok t :: l) = (t.1 == [59]) := by
  rcases tok_cases t with ⟨h, e⟩ | ⟨h, e⟩ | ⟨h1, h2, e⟩ <;> rw [e]
  · rw [h] <;> rfl
  · rw [h] <;> rfl
  · show false = _
    exact (beq_eq_false_iff_ne.mpr h2).symm
theorem next_last {t : MTok} {l : Toks} : VahypBase.next .last (toTok t :: l) = (t.1 == []) := by
  rcases tok_cases t with ⟨h, e⟩ | ⟨h, e⟩ | ⟨h1, h2, e⟩ <;> rw [e]
  · rw [h] <;> rfl
  · rw [h] <;> rfl
  · show false = _
    exact (beq_eq_false_iff_ne.mpr h1).symm
theorem here_tok (t : MTok) (l : Toks) : VahypBase.here (toTok t :: l) = t.2 := rfl
theorem take_word {t : MTok} {l : Toks} {w : String} (h1 : VahypBase.word w ≠ []) (h2 : VahypBase.word w ≠ [59]) : VahypBase.takeWord w (toTok t :: l) = if (t.1 == VahypBase.word w) = true then .ok l else .error ⟨3, t.2⟩ := by
  unfold VahypBase.takeWord VahypBase.taken
  rw [next_chunk h1 h2] <;> rfl
theorem take_sign59 {t : MTok} {l : Toks} : VahypBase.takeSign 59 (toTok t :: l) = if (t.1 == [59]) = true then .ok l else .error ⟨3, t.2⟩ := by
  unfold VahypBase.takeSign VahypBase.taken
  rw [next_sign] <;> rfl
theorem take_chunk {t : MTok} {l : Toks} (h63 : t.1 ≠ [63]) : VahypBase.takeChunk (toTok t :: l) = if (t.1 == [59] || isLast t) = true then .error ⟨3, t.2⟩ else .ok (t.2, t.1, l) := by
  rcases tok_cases t with ⟨h, e⟩ | ⟨h, e⟩ | ⟨h1, h2, e⟩ <;> rw [e]
  · rw [if_pos (by unfold isLast; rw [h] <;> rfl)] <;> rfl
  · rw [if_pos (by rw [h] <;> rfl)] <;> rfl
  · rw [if_neg (by
      unfold isLast
      rw [beq_eq_false_iff_ne.mpr h1, beq_eq_false_iff_ne.mpr h2, beq_eq_false_iff_ne.mpr h63]
      decide)] <;> rfl
theorem TEnd.no63 {t : MTok} {r : List MTok} (h : TEnd (t :: r)) : t.1 ≠ [63] := fun z => by
  cases r with
  | nil =>
    have h : t.1 = [] := h
    rw [h] at z
    cases z
  | cons u s =>
    have h := h.1
    unfold isLast at h
    rw [z] at h
    cases h
theorem run_cons (s : RS) (t : MTok) (r : List MTok) : runM s (t :: r) = if (takeM s t).1 = 0 then runM (takeM s t).2 r else .error ((takeM s t).1, t.2) := rfl
theorem wd_ne : VahypBase.word "word" ≠ [] ∧ VahypBase.word "word" ≠ [59] ∧ VahypBase.word "pattern" ≠ [] ∧ VahypBase.word "pattern" ≠ [59] ∧ VahypBase.word "margins" ≠ [] ∧ VahypBase.word "margins" ≠ [59] := by decide
end LP
namespace LP
open VahypBase (Bytes isLetter isDigit inChunk isBlank Fault Tok PTok Toks)
open Vahypa (Pat Lst Word)
theorem res_err {c p : Nat} {f : Fault} (h1 : c = f.code) (h2 : p = f.place) : Res (.error (c, p)) (.error f) := ⟨h1, h2⟩
structure GL (a z : Nat) (ws : List Word) : Prop where
  a5 : a ≤ 5
  z5 : z ≤ 5
  few : ws.length ≤ 24
  good : ∀ w ∈ ws, GW w
theorem GL.wf {a z : Nat} {ws : List Word} {qs : List Pat} (h : GL a z ws) (hq : qs.length ≤ 40) : WF ⟨a, z, ws, qs⟩ :=
  ⟨h.few, hq, h.a5, h.z5, fun w hw => (h.good w hw).len, fun w hw => (h.good w hw).cuts, fun w hw => (h.good w hw).fewc, fun w hw => (h.good w hw).lets⟩
/-- the sign behind an entry -/
theorem sign_run {s : RS} {v : MTok} {r : List MTok} {B : Toks → Except Fault Lst} (hs : s.aw = .sign) (k : v.1 = [59] → Res (runM { s with aw := .entry } r) (B (r.map toTok))) :
    Res (runM s (v :: r)) ((VahypBase.takeSign 59 ((v :: r).map toTok)).bind B) := by
  have e1 : takeM s v = takeSignM s v := by
    unfold takeM
    rw [hs, if_neg (by decide), if_pos rfl]
  rw [run_cons, e1, List.map_cons, take_sign59]
  unfold takeSignM
  by_cases h : v.1 = [59]
  · have hb : (v.1 == [59]) = true := beq_iff_eq.mpr h
    rw [hb]
    exact k h
  · have hb : (v.1 == [59]) = false := beq_eq_false_iff_ne.mpr h
    rw [hb]
    exact ⟨rfl, rfl⟩
theorem pats_run {a z : Nat} {ws : List Word} (hL : GL a z ws) : ∀ (N : Nat) (ts : List MTok), ts.length ≤ N → TEnd ts → ∀ (ps : List Bytes) (qs : List Pat) (g : Nat), ts.length < g → GP ps qs → (ps ≠ [] ∨ ∀ t, ts.head? = some t → t.1 ≠ WDw) →
    Res (runM ⟨.entry, [a, z], ws, ps⟩ ts) ((Vahypa.takePats g qs (ts.map toTok)).map fun p => ⟨a, z, ws, p⟩)
  | N, [], _, hT, ps, qs, g, hg, hP, hw => hT.elim
  | N, t :: r, hN, hT, ps, qs, 0, hg, hP, hw => by omega
  | 0, t :: r, hN, hT, ps, qs, g + 1, hg, hP, hw => by cases hN
  | N + 1, t :: r, hN, hT, ps, qs, g + 1, hg, hP, hw => by
    have hN : r.length + 1 ≤ N + 1 := hN
    have hg : r.length + 1 < g + 1 := hg
    have hlen := hP.len
    have e1 : takeM ⟨.entry, [a, z], ws, ps⟩ t = takeEntry ⟨.entry, [a, z], ws, ps⟩ t := rfl
    have e2 : Vahypa.takePats (g + 1) qs ((t :: r).map toTok) = if VahypBase.next .last ((t :: r).map toTok) = true then .ok qs
      else (VahypBase.takeWord "pattern" ((t :: r).map toTok)).bind fun m => if Vahypa.PATS ≤ qs.length then .error ⟨4, VahypBase.here ((t :: r).map toTok)⟩ else (VahypBase.takeChunk m).bind fun x => match Vahypa.patOf x.2.1 with
        | none => .error ⟨7, x.1⟩
        | some p => if qs.any (fun q => q.x == p.x && (q.front == p.front && q.halt_ == p.halt_)) = true then .error ⟨5, x.1⟩ else (VahypBase.takeSign 59 x.2.2).bind fun m => Vahypa.takePats g (qs ++ [p]) m := rfl
    rw [run_cons, e1, e2, List.map_cons, next_last]
    unfold takeEntry
    by_cases h0 : t.1 = []
    · have hl : isLast t = true := by
        unfold isLast
        rw [h0] <;> rfl
      obtain ⟨rfl, _⟩ := hT.last hl
      rw [h0]
      exact ⟨rfl, rfl, hlen, hL.wf hP.few⟩
    have b0 : (t.1 == []) = false := beq_eq_false_iff_ne.mpr h0
    have bw : (t.1 == WDw && decide (ps.length = 0)) = false := by
      rcases hw with h | h
      · have : ps.length ≠ 0 := fun z => h (List.length_eq_zero_iff.mp z)
        rw [decide_eq_false this, Bool.and_false]
      · rw [beq_eq_false_iff_ne.mpr (h t rfl), Bool.false_and]
    rw [take_word wd_ne.2.2.1 wd_ne.2.2.2.1]
    show Res (if (if (t.1 == []) = true then (0, _) else if (t.1 == WDw && decide (ps.length = 0)) = true then _ else if (t.1 == WDp) = true then beginM ⟨.entry, [a, z], ws, ps⟩ .pattern (decide (ps.length < 40)) else (3, ⟨.entry, [a, z], ws, ps⟩) : Nat × RS).1 = 0 then _ else _) _
    rw [b0, bw, if_neg Bool.false_ne_true, if_neg Bool.false_ne_true, if_neg Bool.false_ne_true]
    by_cases hp : t.1 = WDp
    · have bp : (t.1 == WDp) = true := beq_iff_eq.mpr hp
      have bp2 : (t.1 == VahypBase.word "pattern") = true := bp
      rw [bp, bp2, if_pos rfl, if_pos rfl]
      have hl : isLast t = false := by
        unfold isLast
        rw [hp] <;> rfl
      by_cases hroom : ps.length < 40
      · have h40 : ¬ Vahypa.PATS ≤ qs.length := by
          show ¬ 40 ≤ qs.length
          omega
        rw [decide_eq_true hroom]
        show Res (runM ⟨.pattern, [a, z], ws, ps⟩ r) (Except.map _ (if Vahypa.PATS ≤ qs.length then _ else (VahypBase.takeChunk (r.map toTok)).bind _))
        rw [if_neg h40]
        obtain ⟨u, r2, rfl, hT2⟩ := hT.tail hl
        have hN2 : r2.length + 1 + 1 ≤ N + 1 := hN
        have hg2 : r2.length + 1 + 1 < g + 1 := hg
        rw [List.map_cons, take_chunk hT2.no63, run_cons]
        have e3 : takeM ⟨.pattern, [a, z], ws, ps⟩ u = if (u.1 == [59] || isLast u) = true then (3, ⟨.pattern, [a, z], ws, ps⟩) else takePatM ⟨.pattern, [a, z], ws, ps⟩ u.1 := rfl
        rw [e3]
        cases hc : u.1 == [59] || isLast u with
        | true => exact ⟨rfl, rfl⟩
        | false =>
          rw [if_neg Bool.false_ne_true, if_neg Bool.false_ne_true]
          rw [Bool.or_eq_false_iff] at hc
          show Res _ (Except.map _ (match Vahypa.patOf u.1 with
            | none => .error ⟨7, u.2⟩
            | some p => if qs.any (fun q => q.x == p.x && (q.front == p.front && q.halt_ == p.halt_)) = true then .error ⟨5, u.2⟩ else (VahypBase.takeSign 59 (r2.map toTok)).bind fun m => Vahypa.takePats g (qs ++ [p]) m))
          unfold takePatM
          cases hm : isPatM u.1 with
          | false =>
            rw [pat_no hm]
            exact ⟨rfl, rfl⟩
          | true =>
            obtain ⟨p, hp1, hp2, hp3, hp4⟩ := pat_yes hm
            rw [hp1]
            show Res (if (if (!true) = true then _ else if (ps.any fun b => nodig b == nodig u.1) = true then _ else _ : Nat × RS).1 = 0 then _ else _) (Except.map _ (if (qs.any fun q => q.x == p.x && (q.front == p.front && q.halt_ == p.halt_)) = true then _ else _))
            rw [hP.twice hp2 hp3 hp4]
            cases hd : qs.any fun q => q.x == p.x && (q.front == p.front && q.halt_ == p.halt_) with
            | true => exact ⟨rfl, rfl⟩
            | false =>
              obtain ⟨v, r3, rfl, hT3⟩ := hT2.tail hc.2
              have hN3 : r3.length + 1 + 1 + 1 ≤ N + 1 := hN2
              have hg3 : r3.length + 1 + 1 + 1 < g + 1 := hg2
              have hP2 : GP (ps ++ [u.1]) (qs ++ [p]) := by
                refine ⟨?_, fun q hq => ?_, ?_⟩
                · rw [List.map_append, List.map_append, hP.keys, List.map_singleton, List.map_singleton, hp2]
                · rcases List.mem_append.mp hq with h | h
                  · exact hP.lets q h
                  · rw [List.mem_singleton.mp h]
                    exact ⟨hp3, hp4⟩
                · rw [List.length_append]
                  show qs.length + 1 ≤ 40
                  omega
              show Res (runM ⟨.sign, [a, z], ws, ps ++ [u.1]⟩ (v :: r3)) (((VahypBase.takeSign 59 ((v :: r3).map toTok)).bind fun m => Vahypa.takePats g (qs ++ [p]) m).map fun p => ⟨a, z, ws, p⟩)
              have eb : ((VahypBase.takeSign 59 ((v :: r3).map toTok)).bind fun m => Vahypa.takePats g (qs ++ [p]) m).map (fun p => (⟨a, z, ws, p⟩ : Lst)) = (VahypBase.takeSign 59 ((v :: r3).map toTok)).bind fun m => (Vahypa.takePats g (qs ++ [p]) m).map fun p => ⟨a, z, ws, p⟩ := by
                cases VahypBase.takeSign 59 ((v :: r3).map toTok) <;> rfl
              rw [eb]
              refine sign_run (B := fun m => (Vahypa.takePats g (qs ++ [p]) m).map fun p => ⟨a, z, ws, p⟩) rfl fun h59 => ?_
              have hvl : isLast v = false := by
                unfold isLast
                rw [h59] <;> rfl
              obtain ⟨x, r4, rfl, hT4⟩ := hT3.tail hvl
              exact pats_run hL N (x :: r4) (by omega) hT4 _ _ g (by omega) hP2 (.inl fun z => by simp at z)
      · have h40 : Vahypa.PATS ≤ qs.length := by
          show 40 ≤ qs.length
          omega
        rw [decide_eq_false hroom]
        show Res (.error (4, t.2)) (Except.map _ (if Vahypa.PATS ≤ qs.length then .error ⟨4, t.2⟩ else _))
        rw [if_pos h40]
        exact ⟨rfl, rfl⟩
    · have bp : (t.1 == WDp) = false := beq_eq_false_iff_ne.mpr hp
      have bp2 : (t.1 == VahypBase.word "pattern") = false := bp
      rw [bp, bp2]
      exact ⟨rfl, rfl⟩
end LP
namespace LP
open VahypBase (Bytes isLetter isDigit inChunk isBlank Fault Tok PTok Toks)
open Vahypa (Pat Lst Word)
theorem bind_assoc3 {A B C : Type} (x : Except Fault A) (f : A → Except Fault B) (g : B → Except Fault C) : (x.bind f).bind g = x.bind fun a => (f a).bind g := by cases x <;> rfl
theorem words_run {a z : Nat} (gp : Nat) : ∀ (N : Nat) (ts : List MTok), ts.length ≤ N → ts.length < gp → TEnd ts → ∀ (ws : List Word) (g : Nat), GL a z ws → ts.length < g →
    Res (runM ⟨.entry, [a, z], ws, []⟩ ts) ((Vahypa.takeWords g ws (ts.map toTok)).bind fun w => (Vahypa.takePats gp [] w.2).map fun p => ⟨a, z, w.1, p⟩)
  | N, [], _, _, hT, ws, g, hL, hg => hT.elim
  | N, t :: r, hN, hgp, hT, ws, 0, hL, hg => by omega
  | 0, t :: r, hN, hgp, hT, ws, g + 1, hL, hg => by cases hN
  | N + 1, t :: r, hN, hgp, hT, ws, g + 1, hL, hg => by
    have hN : r.length + 1 ≤ N + 1 := hN
    have hg : r.length + 1 < g + 1 := hg
    have hgp2 : r.length + 1 < gp := hgp
    have e2 : Vahypa.takeWords (g + 1) ws ((t :: r).map toTok) = if VahypBase.nextWord "word" ((t :: r).map toTok) = true then (if Vahypa.WORDS ≤ ws.length then .error ⟨4, VahypBase.here ((t :: r).map toTok)⟩ else (VahypBase.takeChunk (((t :: r).map toTok).drop 1)).bind fun x => match Vahypa.wordOf x.2.1 with
        | none => .error ⟨7, x.1⟩
        | some w => if ws.any (fun v => v.x == w.x) = true then .error ⟨5, x.1⟩ else (VahypBase.takeSign 59 x.2.2).bind fun m => Vahypa.takeWords g (ws ++ [w]) m)
      else .ok (ws, (t :: r).map toTok) := rfl
    have en : VahypBase.nextWord "word" ((t :: r).map toTok) = (t.1 == WDw) := by
      rw [List.map_cons]
      exact next_chunk wd_ne.1 wd_ne.2.1
    rw [e2, en]
    by_cases hw : t.1 = WDw
    · have bw : (t.1 == WDw) = true := beq_iff_eq.mpr hw
      have b0 : (t.1 == []) = false := by rw [hw] <;> rfl
      have hl : isLast t = false := by
        unfold isLast
        rw [hw] <;> rfl
      have e1 : takeM ⟨.entry, [a, z], ws, []⟩ t = beginM ⟨.entry, [a, z], ws, []⟩ .word (decide (ws.length < 24)) := by
        show takeEntry ⟨.entry, [a, z], ws, []⟩ t = _
        unfold takeEntry
        rw [b0, bw] <;> rfl
      rw [bw, if_pos rfl, run_cons, e1]
      by_cases hroom : ws.length < 24
      · have h24 : ¬ Vahypa.WORDS ≤ ws.length := by
          show ¬ 24 ≤ ws.length
          omega
        rw [decide_eq_true hroom, if_neg h24]
        show Res (runM ⟨.word, [a, z], ws, []⟩ r) (((VahypBase.takeChunk (r.map toTok)).bind _).bind _)
        obtain ⟨u, r2, rfl, hT2⟩ := hT.tail hl
        have hN2 : r2.length + 1 + 1 ≤ N + 1 := hN
        have hg2 : r2.length + 1 + 1 < g + 1 := hg
        have hgp3 : r2.length + 1 + 1 < gp := hgp2
        rw [List.map_cons, take_chunk hT2.no63, run_cons]
        have e3 : takeM ⟨.word, [a, z], ws, []⟩ u = if (u.1 == [59] || isLast u) = true then (3, ⟨.word, [a, z], ws, []⟩) else takeWordM ⟨.word, [a, z], ws, []⟩ u.1 := rfl
        rw [e3]
        cases hc : u.1 == [59] || isLast u with
        | true => exact ⟨rfl, rfl⟩
        | false =>
          rw [if_neg Bool.false_ne_true, if_neg Bool.false_ne_true]
          rw [Bool.or_eq_false_iff] at hc
          show Res _ ((match Vahypa.wordOf u.1 with
            | none => .error ⟨7, u.2⟩
            | some w => if ws.any (fun v => v.x == w.x) = true then .error ⟨5, u.2⟩ else (VahypBase.takeSign 59 (r2.map toTok)).bind fun m => Vahypa.takeWords g (ws ++ [w]) m : Except Fault (List Word × Toks)).bind _)
          rw [wordOf_eq]
          unfold takeWordM
          cases hm : isWordM u.1 with
          | false => exact ⟨rfl, rfl⟩
          | true =>
            rw [if_pos rfl]
            show Res (if (if (!true) = true then _ else if (ws.any fun w => w.x == lettersW u.1) = true then _ else _ : Nat × RS).1 = 0 then _ else _) ((if (ws.any fun v => v.x == lettersW u.1) = true then _ else _ : Except Fault (List Word × Toks)).bind _)
            cases hd : ws.any fun w => w.x == lettersW u.1 with
            | true => exact ⟨rfl, rfl⟩
            | false =>
              obtain ⟨v, r3, rfl, hT3⟩ := hT2.tail hc.2
              have hN3 : r3.length + 1 + 1 + 1 ≤ N + 1 := hN2
              have hg3 : r3.length + 1 + 1 + 1 < g + 1 := hg2
              have hgp4 : r3.length + 1 + 1 + 1 < gp := hgp3
              have hL2 : GL a z (ws ++ [⟨lettersW u.1, breaksM u.1⟩]) := by
                refine ⟨hL.a5, hL.z5, ?_, fun w hw => ?_⟩
                · rw [List.length_append]
                  show ws.length + 1 ≤ 24
                  omega
                · rcases List.mem_append.mp hw with h | h
                  · exact hL.good w h
                  · rw [List.mem_singleton.mp h]
                    exact word_good hm
              show Res (runM ⟨.sign, [a, z], ws ++ [⟨lettersW u.1, breaksM u.1⟩], []⟩ (v :: r3)) (((VahypBase.takeSign 59 ((v :: r3).map toTok)).bind fun m => Vahypa.takeWords g (ws ++ [⟨lettersW u.1, breaksM u.1⟩]) m).bind fun w => (Vahypa.takePats gp [] w.2).map fun p => ⟨a, z, w.1, p⟩)
              rw [bind_assoc3]
              refine sign_run (s := ⟨.sign, [a, z], ws ++ [⟨lettersW u.1, breaksM u.1⟩], []⟩) (B := fun m => (Vahypa.takeWords g (ws ++ [⟨lettersW u.1, breaksM u.1⟩]) m).bind fun w => (Vahypa.takePats gp [] w.2).map fun p => ⟨a, z, w.1, p⟩) rfl fun h59 => ?_
              have hvl : isLast v = false := by
                unfold isLast
                rw [h59] <;> rfl
              obtain ⟨x, r4, rfl, hT4⟩ := hT3.tail hvl
              exact words_run gp N (x :: r4) (by omega) (by omega) hT4 _ g hL2 (by omega)
      · have h24 : Vahypa.WORDS ≤ ws.length := by
          show 24 ≤ ws.length
          omega
        rw [decide_eq_false hroom, if_pos h24]
        exact ⟨rfl, rfl⟩
    · have bw : (t.1 == WDw) = false := beq_eq_false_iff_ne.mpr hw
      rw [bw, if_neg Bool.false_ne_true]
      show Res _ ((Vahypa.takePats gp [] ((t :: r).map toTok)).map fun p => ⟨a, z, ws, p⟩)
      exact pats_run hL (N + 1) (t :: r) hN hT [] [] gp hgp ⟨rfl, fun q h => (by cases h), Nat.zero_le _⟩ (.inr fun x hx => by
        cases hx
        exact hw)
/-! the head of a list -/
theorem margin_eq {u : MTok} {l : Toks} (h : u.1 ≠ [63]) : Vahypa.takeMargin (toTok u :: l) = if (u.1 == [59] || isLast u) = true then .error ⟨3, u.2⟩ else if isMarginM u.1 = true then .ok (marginV u.1, l) else .error ⟨7, u.2⟩ := by
  unfold Vahypa.takeMargin
  rw [take_chunk h]
  cases u.1 == [59] || isLast u with
  | true => rfl
  | false =>
    rw [if_neg Bool.false_ne_true, if_neg Bool.false_ne_true]
    show (match u.1 with
      | [b] => if isDigit b = true ∧ b.toNat - 48 ≤ Vahypa.MARGIN then .ok (b.toNat - 48, l) else .error ⟨7, u.2⟩
      | _ => .error ⟨7, u.2⟩ : Except Fault (Nat × Toks)) = _
    cases hu : u.1 with
    | nil => rfl
    | cons b s =>
      cases s with
      | nil =>
        show (if isDigit b = true ∧ b.toNat - 48 ≤ 5 then _ else _) = (if (isDigit b && decide (b.toNat - 48 ≤ 5)) = true then _ else _)
        by_cases hb : isDigit b = true ∧ b.toNat - 48 ≤ 5
        · rw [if_pos hb, if_pos (by rw [Bool.and_eq_true, decide_eq_true_eq]; exact hb)] <;> rfl
        · rw [if_neg hb, if_neg (by rw [Bool.and_eq_true, decide_eq_true_eq]; exact hb)]
      | cons c s => rfl
theorem margin_le {c : Bytes} (h : isMarginM c = true) : marginV c ≤ 5 := by
  unfold isMarginM at h
  split at h
  · rw [Bool.and_eq_true, decide_eq_true_eq] at h
    exact h.2
  · cases h
/-- one margin, then the rest -/
theorem margin_run {s : RS} {u : MTok} {r : List MTok} {B : Nat × Toks → Except Fault Lst} (hT : TEnd (u :: r)) (hs : s.aw = .margin)
    (k : isLast u = false → isMarginM u.1 = true → Res (runM { s with ms := s.ms ++ [marginV u.1], aw := if s.ms.length + 1 = 2 then .sign else s.aw } r) (B (marginV u.1, r.map toTok))) :
    Res (runM s (u :: r)) ((Vahypa.takeMargin ((u :: r).map toTok)).bind B) := by
  have e1 : takeM s u = if (u.1 == [59] || isLast u) = true then (3, s) else takeMarginM s u.1 := by
    unfold takeM
    rw [hs] <;> rfl
  rw [run_cons, e1, List.map_cons, margin_eq hT.no63]
  cases hc : u.1 == [59] || isLast u with
  | true => exact ⟨rfl, rfl⟩
  | false =>
    rw [if_neg Bool.false_ne_true, if_neg Bool.false_ne_true]
    rw [Bool.or_eq_false_iff] at hc
    unfold takeMarginM
    cases hm : isMarginM u.1 with
    | false => exact ⟨rfl, rfl⟩
    | true => exact k hc.2 hm
theorem run_all {ts : List MTok} (hT : TEnd ts) : Res (runM rs0 ts) ((VahypBase.takeWord "margins" (ts.map toTok)).bind fun l => (Vahypa.takeMargin l).bind fun a => (Vahypa.takeMargin a.2).bind fun z => (VahypBase.takeSign 59 z.2).bind fun l => (Vahypa.takeWords (l.length + 1) [] l).bind fun ws => (Vahypa.takePats (l.length + 1) [] ws.2).map fun ps => ⟨a.1, z.1, ws.1, ps⟩) := by
  cases ts with
  | nil => exact hT.elim
  | cons t r =>
    have e1 : takeM rs0 t = takeStart rs0 t := rfl
    rw [run_cons, e1, List.map_cons, take_word wd_ne.2.2.2.2.1 wd_ne.2.2.2.2.2]
    unfold takeStart
    by_cases ht : t.1 = WDm
    · have hb : (t.1 == WDm) = true := beq_iff_eq.mpr ht
      have hb2 : (t.1 == VahypBase.word "margins") = true := hb
      rw [hb, hb2]
      have hl : isLast t = false := by
        unfold isLast
        rw [ht] <;> rfl
      obtain ⟨u, r2, rfl, hT2⟩ := hT.tail hl
      show Res (runM ⟨.margin, [], [], []⟩ (u :: r2)) ((Vahypa.takeMargin ((u :: r2).map toTok)).bind _)
      refine margin_run hT2 rfl fun hu hm => ?_
      obtain ⟨v, r3, rfl, hT3⟩ := hT2.tail hu
      show Res (runM ⟨.margin, [marginV u.1], [], []⟩ (v :: r3)) ((Vahypa.takeMargin ((v :: r3).map toTok)).bind _)
      refine margin_run hT3 rfl fun hv hm2 => ?_
      obtain ⟨x, r4, rfl, hT4⟩ := hT3.tail hv
      show Res (runM ⟨.sign, [marginV u.1, marginV v.1], [], []⟩ (x :: r4)) ((VahypBase.takeSign 59 ((x :: r4).map toTok)).bind _)
      refine sign_run rfl fun h59 => ?_
      have hxl : isLast x = false := by
        unfold isLast
        rw [h59] <;> rfl
      obtain ⟨y, r5, rfl, hT5⟩ := hT4.tail hxl
      have hlen : ((y :: r5).map toTok).length = (y :: r5).length := List.length_map _
      show Res (runM ⟨.entry, [marginV u.1, marginV v.1], [], []⟩ (y :: r5)) ((Vahypa.takeWords (((y :: r5).map toTok).length + 1) [] ((y :: r5).map toTok)).bind fun ws => (Vahypa.takePats (((y :: r5).map toTok).length + 1) [] ws.2).map fun ps => ⟨marginV u.1, marginV v.1, ws.1, ps⟩)
      rw [hlen]
      exact words_run _ (y :: r5).length (y :: r5) (Nat.le_refl _) (Nat.lt_succ_self _) hT5 [] _ ⟨margin_le hm, margin_le hm2, Nat.zero_le _, fun w h => by cases h⟩ (Nat.lt_succ_self _)
    · have hb : (t.1 == WDm) = false := beq_eq_false_iff_ne.mpr ht
      have hb2 : (t.1 == VahypBase.word "margins") = false := hb
      rw [hb, hb2]
      exact ⟨rfl, rfl⟩
theorem read_res (b : Bytes) : Res (readM b) (Vahypa.read b) := by
  have er : Vahypa.read b = (VahypBase.tokens b).bind fun l => (VahypBase.takeWord "margins" l).bind fun l => (Vahypa.takeMargin l).bind fun a => (Vahypa.takeMargin a.2).bind fun z => (VahypBase.takeSign 59 z.2).bind fun l => (Vahypa.takeWords (l.length + 1) [] l).bind fun ws => (Vahypa.takePats (l.length + 1) [] ws.2).map fun ps => ⟨a.1, z.1, ws.1, ps⟩ := rfl
  rw [er]
  unfold readM VahypBase.tokens
  by_cases h : 4096 < b.length
  · have h2 : VahypBase.TEXT < b.length := h
    rw [if_pos h, if_pos h2]
    exact ⟨rfl, rfl⟩
  · have h2 : ¬ VahypBase.TEXT < b.length := h
    rw [if_neg h, if_neg h2]
    obtain ⟨e1, e2⟩ := lex_go b b.length 0 (b.length + 1) (b.length + 1) (b.length - 0) (Nat.zero_le _) (by omega) (by omega) (by omega) (by omega)
    rw [List.drop_zero] at e1
    have et : toksF (b.length + 1) b (tokM b (skipF (b.length - 0) b 0)) = toksM b := rfl
    rw [et] at e1 e2
    obtain ⟨t, h3, h4⟩ := TL_end _ e2
    rw [e1, h3]
    show Res (if t.1 = [63] then .error (2, t.2) else runM rs0 (toksM b)) _
    rcases h4 with ⟨h5, h6⟩ | ⟨h5, h6, h7⟩
    · rw [if_pos h5, h6]
      exact ⟨rfl, rfl⟩
    · rw [if_neg h5, h7]
      exact run_all h6
end LP
namespace LP
open PySem PySem.Spec PyProof.Rows L2 Evl
open VahypBase (Bytes isLetter isDigit inChunk isBlank)
/-- what is read, both ways -/
def RdOk (b : Bytes) : Prop := Res (readM b) (Vahypa.read b)
theorem read_ok (b : Bytes) : RdOk b := read_res b
def loadO (o : Option Vahypa.Lst) (b : Bytes) : Option Vahypa.Lst := match Vahypa.read b with
  | .ok s => some s
  | .error _ => o
def loadA (b : Bytes) : List Int := match Vahypa.read b with
  | .ok s => [1, ((s.words.length : Nat) : Int), ((s.pats.length : Nat) : Int)]
  | .error f => [0, ((f.code : Nat) : Int), ((f.place : Nat) : Int)]
section
variable {P : Program} {w : World} {K : PySem.W.Frag} {mg : Str → Option Value} {base : Heap} {H H' : Hp}
/-- all but what stands at g -/
def wo (H : Hp) (g : Addr) : Hp := fun x => if x = g then none else H x
theorem wo_ex {g : Addr} : Ex (wo H g) H := fun b o h => by
  unfold wo at h
  split at h
  · cases h
  · exact h
theorem wo_at {g x : Addr} {o : HO} (h : H x = some o) (hne : x ≠ g) : wo H g x = some o := by
  unfold wo
  rw [if_neg hne]
  exact h
theorem wo_mono {g : Addr} (e : Ex H H') : Ex (wo H g) (wo H' g) := fun b o h => by
  unfold wo at h ⊢
  split at h
  · cases h
  · rename_i hne
    rw [if_neg hne]
    exact e _ _ h
theorem wo_upd {g : Addr} {o : HO} : wo (upd H g o) g = wo H g := by
  funext x
  unfold wo
  split
  · rfl
  · rename_i hne
    exact upd_ne hne
/-- a new list of xs; the holder holds o, and g is none of what it holds; all else is as it was -/
def RetH (T : TX K mg) (g h : Addr) (o : Option Vahypa.Lst) (xs : List V) (H : Hp) (Q : VK) : Prop := ∀ (pp : Addr) (H' : Hp), H pp = none → HoAt T (wo H' g) h o → (∀ x ob, H x = some ob → x ≠ h → H' x = some ob) → H' pp = some (.lst xs) → Q (.ref pp) H'
theorem RetH.l {T : TX K mg} {g h : Addr} {o : Option Vahypa.Lst} {xs : List V} {Q : VK} (k : RetH T g h o xs H Q) (hH : HoAt T (wo H g) h o) : RetL xs H Q := fun pp H1 h1 h2 h3 => k pp H1 h1 (hH.mono (wo_mono h2)) (fun x ob hx _ => h2 _ _ hx) h3
theorem rl_mono {xs : List V} {Q : VK} (k : RetL xs H Q) (e : Ex H H') : RetL xs H' Q := fun pp H1 h1 h2 h3 => k pp H1 (fresh_back e h1) (e.trans h2) h3
theorem RetH.mono {T : TX K mg} {g h : Addr} {o : Option Vahypa.Lst} {xs : List V} {Q : VK} (k : RetH T g h o xs H Q) (e : Ex H H') : RetH T g h o xs H' Q := fun pp H1 h1 h2 h3 h4 => k pp H1 (fresh_back e h1) h2 (fun x ob hx hn => h3 x ob (e _ _ hx) hn) h4
def sp_Holder_load (T : TX K mg) : Sp := fun vs H Q _ => ∃ (h l g : Addr) (o : Option Vahypa.Lst) (b : Bytes) (ys : List V), vs = [.ref h, .ref l] ∧ H l = some (.lst (bV b)) ∧ b.length ≤ 50000 ∧ H g = some (.lst ys) ∧ HoAt T (wo H g) h o ∧ OWF o ∧ RetH T g h (loadO o b) (iV (loadA b)) H Q
theorem et_isF {σ : L2.St} {T : TX K mg} {a : Addr} {v0 v1 : V} {te tc : TE} (h : Ev te σ H (.ref a)) (hc : Ev tc σ H (.ref T.C_Fault)) (hI : I_Fault T H a v0 v1) : Ev (tCB (rIsi K) (tCons te (tCons tc tNil))) σ H (.bl true) := by
  obtain ⟨dx, hI⟩ := hI
  exact ev_cbv (ea_cons h (ea_cons hc ea_nil)) fun H1 e Q q => ⟨_, _, _, _, true, rfl, .own _, .base (.ins (e _ _ hI) T.cl_Fault T.iso.aF T.iso.sp T.iso.tk T.iso.mF), T.iso.ff, q⟩
theorem et_isL {σ : L2.St} {T : TX K mg} {a : Addr} {v0 v1 v2 : V} {te tc : TE} (h : Ev te σ H (.ref a)) (hc : Ev tc σ H (.ref T.C_Fault)) (hI : I_Listed T H a v0 v1 v2) : Ev (tCB (rIsi K) (tCons te (tCons tc tNil))) σ H (.bl false) := by
  obtain ⟨dx, hI⟩ := hI
  exact ev_cbv (ea_cons h (ea_cons hc ea_nil)) fun H1 e Q q => ⟨_, _, _, _, false, rfl, .own _, .base (.ins (e _ _ hI) T.cl_Listed T.iso.aL T.iso.sp T.iso.tk T.iso.mL), T.iso.lf, q⟩
theorem ok_Holder_load (T : TX K mg) : FnOk P w K mg base CX0 7 T.f_Holder_load T.d_Holder_load ["self", "text"] (sp_Holder_load T) := by
  refine T.F_Holder_load.ok sc_Holder_load (fun vs H Q E h => ?_) (fun cdv A outer s0 H vs Q E hr h => ?_)
  · obtain ⟨h, l, g, o, b, ys, rfl, hl, hb5, hg, hH, hW, k⟩ := h
    rfl
  obtain ⟨h, l, g, o, b, ys, rfl, hl, hb5, hg, hH, hW, k⟩ := h
  refine ⟨_, (pss_cons (ps_set (i := 2) (sc_Holder_load).nd rfl (Or.inl rfl) (pe_call (ok_read_list T) (hr.mono (by decide)) (by rfl) T.m_read_list T.F_read_list.kp T.b_read_list .nil pass0 (pa_cons (pv 1) pa_nil)))
    (pss_cons (ps_if (pt_val (pe_callB call_isi (by rfl) T.n_isinstance (by decide +kernel) (pa_cons (pv 2) (pa_cons (pe_glob (v := .ref T.C_Fault) (by rfl) T.m_Fault rfl) pa_nil)))) (pss_one (ps_ret (pe_lst (pa_cons pe_int (pa_cons (pe_fld (pv 2) rfl) (pa_cons (pe_fld (pv 2) rfl) pa_nil)))))) pss_nil)
    (pss_cons (ps_fld (pv 0) (pv 2) rfl)
    (pss_one (ps_ret (pe_lst (pa_cons pe_int (pa_cons (pe_callB call_len_seq (by rfl) T.n_len PySem.boot_len (pa_cons (pe_fld (pv 2) rfl) pa_nil)) (pa_cons (pe_callB call_len_seq (by rfl) T.n_len PySem.boot_len (pa_cons (pe_fld (pv 2) rfl) pa_nil)) pa_nil))))))))), Go.at ?_⟩
  refine gq_asgR (R := RdRes T (readM b)) (evr_call (ea_cons (ev_var rfl) ea_nil) (fun H1 e Q E k => ⟨l, b, rfl, e _ _ hl, hb5, k⟩) fun H1 H2 v H3 e r => r.back e) fun v H1 H2 e1 e2 r => ?_
  have r := r.back e1
  have e12 := e1.trans e2
  have ro := read_ok b
  unfold RdOk Res at ro
  cases hm : readM b with
  | error x =>
    rw [hm] at r ro
    cases hr : Vahypa.read b with
    | ok s =>
      rw [hr] at ro
      exact ro.elim
    | error f =>
      rw [hr] at ro
      obtain ⟨c, p⟩ := x
      obtain ⟨hc, hp⟩ := ro
      obtain ⟨a, rfl, hI⟩ := r
      have ek : loadO o b = o := by
        unfold loadO
        rw [hr]
      have ea : loadA b = [0, ((c : Nat) : Int), ((p : Nat) : Int)] := by
        unfold loadA
        rw [hr]
        show [0, ((f.code : Nat) : Int), ((f.place : Nat) : Int)] = _
        rw [← hc, ← hp]
      rw [ek, ea] at k
      have k2 := k.l hH
      refine gq_when (b := true) (et_B (et_isF (ev_var rfl) ev_c hI)) (fun _ => ?_) fun z => by cases z
      exact go_retL (xs := iV [0, ((c : Nat) : Int), ((p : Nat) : Int)]) (el_lst (ea_cons ev_c (ea_cons (ev_fld (ev_var rfl) hI.code) (ea_cons (ev_fld (ev_var rfl) hI.place) ea_nil))) (by show 3 ≤ 100000; decide)) fun pp H3 h1 h2 h3 => k2 pp H3 (fresh_back e12 h1) (e12.trans h2) h3
  | ok rs =>
    rw [hm] at r ro
    cases hr : Vahypa.read b with
    | error f =>
      rw [hr] at ro
      exact ro.elim
    | ok s =>
      rw [hr] at ro
      obtain ⟨h1, h2, h3, hWs⟩ := ro
      obtain ⟨a, rfl, lm, lw, lp, ⟨f1, f2, f3⟩, hI, hlm, hlw, hlp⟩ := r
      have ek : loadO o b = some s := by
        unfold loadO
        rw [hr]
      have ea : loadA b = [1, ((s.words.length : Nat) : Int), ((s.pats.length : Nat) : Int)] := by
        unfold loadA
        rw [hr]
      rw [ek, ea] at k
      obtain ⟨dx, v0, hHo'⟩ := hH.ins
      have hHo := wo_ex _ _ hHo'
      refine gq_when (b := false) (et_B (et_isL (ev_var rfl) ev_c hI)) (fun z => by cases z) fun _ => ?_
      refine gq_fld (ev_var rfl) (ev_var rfl) (e12 _ _ hHo) T.cl_Holder T.n_Holder_listed (by show 1 < 1000; decide) put_Holder_listed fun H3 e3 => ?_
      have e13 := e12.trans e3
      obtain ⟨dL, hIL⟩ := id hI
      have stay : ∀ x ob, H2 x = some ob → x ≠ h → (upd H3 h (.ins T.C_Holder dx (R_Holder (.ref a)))) x = some ob := fun x ob hx hne => by
        rw [upd_ne hne]
        exact e3 _ _ hx
      have ne1 : ∀ x ob, H2 x = some ob → (∀ y, ob ≠ .ins T.C_Holder dx (R_Holder y)) → x ≠ h := fun x ob hx hy z => by
        subst z
        rw [e12 _ _ hHo] at hx
        exact hy v0 (Option.some.inj hx).symm
      have hI3 : I_Listed T (upd H3 h (.ins T.C_Holder dx (R_Holder (.ref a)))) a (.ref lm) (.ref lw) (.ref lp) := ⟨dL, stay _ _ hIL (ne1 _ _ hIL fun y => ins_len (by show 3 ≠ 1; decide))⟩
      have nL : ∀ x xs, H2 x = some (.lst xs) → (upd H3 h (.ins T.C_Holder dx (R_Holder (.ref a)))) x = some (.lst xs) := fun x xs hx => stay _ _ hx (ne1 _ _ hx fun y => by intro z; cases z)
      obtain ⟨was, hwas, hWA⟩ := hlw
      have ng : ∀ x, H x = none → x ≠ g := fun x hx z => by
        rw [z, hg] at hx
        cases hx
      have ngi : ∀ x C d fs, H2 x = some (.ins C d fs) → x ≠ g := fun x C d fs hx z => by
        rw [z, e12 _ _ hg] at hx
        cases hx
      have hhg : h ≠ g := ngi h _ _ _ (e12 _ _ hHo)
      have hI4 : I_Listed T (wo (upd H3 h (.ins T.C_Holder dx (R_Holder (.ref a)))) g) a (.ref lm) (.ref lw) (.ref lp) := ⟨dL, wo_at (stay _ _ hIL (ne1 _ _ hIL fun y => ins_len (by show 3 ≠ 1; decide))) (ngi _ _ _ _ hIL)⟩
      have nLg : ∀ x xs, H2 x = some (.lst xs) → H x = none → (wo (upd H3 h (.ins T.C_Holder dx (R_Holder (.ref a)))) g) x = some (.lst xs) := fun x xs hx hn => wo_at (nL x xs hx) (ng x hn)
      have hLd : LdAt T (wo (upd H3 h (.ins T.C_Holder dx (R_Holder (.ref a)))) g) a s := by
        refine ⟨lm, lw, lp, rs.ps, hI4, ?_, ⟨was, nLg _ _ hwas f2, ?_⟩, nLg _ _ hlp f3, h3⟩
        · rw [h1] at hlm
          exact nLg _ _ hlm f1
        · rw [← h2]
          exact hWA.mono fun x w ⟨lb, g0, g1, g2⟩ => ⟨lb, by
            obtain ⟨d3, g1⟩ := g1
            exact ⟨d3, wo_at (stay _ _ g1 (ne1 _ _ g1 fun y => ins_len (by show 2 ≠ 1; decide))) (ngi _ _ _ _ g1)⟩, nLg _ _ g2 g0⟩
      have hHo2 : HoAt T (wo (upd H3 h (.ins T.C_Holder dx (R_Holder (.ref a)))) g) h (some s) := ⟨a, ⟨dx, wo_at upd_same hhg⟩, hLd⟩
      refine go_retL (xs := iV [1, ((s.words.length : Nat) : Int), ((s.pats.length : Nat) : Int)]) (el_lst (ea_cons ev_c (ea_cons (ev_is (ev_lenS (ev_fld (ev_var rfl) hI3.words) (nL _ _ hwas)) (by rw [List.length_map, hWA.len, h2])) (ea_cons (ev_is (ev_lenS (ev_fld (ev_var rfl) hI3.patterns) (nL _ _ hlp)) (by rw [List.length_map, h3])) ea_nil))) (by show 3 ≤ 100000; decide)) fun pp H4 g1 g2 g3 => ?_
      have hne : pp ≠ h := fun z => by
        subst z
        rw [upd_same] at g1
        cases g1
      refine k pp H4 ?_ (hHo2.mono (wo_mono g2)) (fun x ob hx hn => g2 _ _ (stay _ _ (e12 _ _ hx) hn)) g3
      rw [upd_ne hne] at g1
      exact fresh_back e13 g1
end
end LP
namespace LP
open PySem PySem.Spec PyProof.Rows L2 Evl
open VahypBase (Bytes isLetter isDigit inChunk isBlank)
/-! ## the calls -/
def flatC : Vahypc.Call → List Int
  | .load b => 0 :: ((b.length : Nat) : Int) :: bI b
  | .goals => [1]
  | .family m => [2, m]
  | .piece m i => [3, m, i]
  | .least m k => [4, m, k]
  | .greedy m => [5, m]
  | .bound m => [6, m]
  | .check m l => 7 :: m :: ((l.length : Nat) : Int) :: l
def okC : Vahypc.Call → Prop
  | .load b => b.length ≤ 8192
  | .check _ l => l.length ≤ 2000
  | _ => True
def stepO (o : Option Vahypa.Lst) : Vahypc.Call → Option Vahypa.Lst
  | .load b => loadO o b
  | _ => o
def stepA (o : Option Vahypa.Lst) : Vahypc.Call → List Int
  | .load b => loadA b
  | .goals => goalsA o
  | .family m => withM o m familyA
  | .piece m i => withM o m fun s n => pieceA s n i
  | .least m k => withM o m fun s n => leastA s n k
  | .greedy m => withM o m greedyA
  | .bound m => withM o m boundA
  | .check m l => withM o m fun s n => checkA s n l
theorem flatC_len (c : Vahypc.Call) : 1 ≤ (flatC c).length := by
  cases c <;> exact Nat.succ_le_succ (Nat.zero_le _)
theorem flatC_le (c : Vahypc.Call) (h : okC c) : (flatC c).length ≤ 9000 := by
  cases c with
  | load b =>
    have h : b.length ≤ 8192 := h
    show (bI b).length + 1 + 1 ≤ _
    rw [List.length_map]
    omega
  | check m l =>
    have h : l.length ≤ 2000 := h
    show l.length + 1 + 1 + 1 ≤ _
    omega
  | _ => exact Nat.le_of_ble_eq_true rfl
theorem loadO_wf {o : Option Vahypa.Lst} {b : Bytes} (h : OWF o) : OWF (loadO o b) := by
  have ro := read_ok b
  unfold RdOk Res at ro
  intro s hs
  unfold loadO at hs
  cases hr : Vahypa.read b with
  | error f =>
    rw [hr] at hs
    exact h s hs
  | ok s2 =>
    rw [hr] at hs ro
    cases hs
    cases hm : readM b with
    | error x =>
      rw [hm] at ro
      exact ro.elim
    | ok rs =>
      rw [hm] at ro
      exact ro.2.2.2
theorem stepO_wf {o : Option Vahypa.Lst} {c : Vahypc.Call} (h : OWF o) : OWF (stepO o c) := by
  cases c <;> first | exact loadO_wf h | exact h
theorem withM_len {o : Option Vahypa.Lst} {m : Int} {f : Vahypa.Lst → Nat → List Int} {z : Nat} (hz : 1 ≤ z) (hw : OWF o) (h : ∀ s n, WF s → n ≤ 4 → (goalsM s).length ≤ 9 → (f s n).length ≤ z) : (withM o m f).length ≤ z := by
  unfold withM
  split
  · rename_i h0
    cases o with
    | none => exact Nat.zero_le _
    | some s =>
      obtain ⟨m1, m2, m3⟩ := refM_zero (s := s) (m := m) h0
      exact h s m.toNat (hw s rfl) (by omega) m3
  · exact hz
theorem greedyM_len (ps : List (MP × List Nat)) (n : Nat) : (greedyM ps n).ks.length ≤ n + 1 := by
  refine Nat.le_trans (greedyF_len ps _ _ _) ?_
  show 0 + _ ≤ _
  omega
theorem stepA_len {o : Option Vahypa.Lst} {c : Vahypc.Call} (hw : OWF o) : (stepA o c).length ≤ 2000 := by
  have hu : ∀ s ps, (uncM s ps).length ≤ 2 := uncM_len
  cases c with
  | load b =>
    show (loadA b).length ≤ _
    unfold loadA
    cases Vahypa.read b <;> exact Nat.le_of_ble_eq_true rfl
  | goals =>
    show (goalsA o).length ≤ _
    cases o with
    | none => exact Nat.le_of_ble_eq_true rfl
    | some s =>
      have h1 := goalsM_len (hw s rfl)
      have h2 := flat_len (f := gRow) (n := 2) (l := goalsM s) fun g _ => Nat.le_refl _
      show ((goalsM s).flatMap gRow).length + 1 ≤ _
      omega
  | family m =>
    refine withM_len (z := 2000) (by decide) hw fun s n W h4 h9 => ?_
    have := hu s (pcsM s n)
    show (_ ++ _ : List Int).length ≤ _
    rw [List.length_append]
    show 2 + _ ≤ _
    omega
  | piece m i =>
    show (withM o m fun s n => pieceA s n i).length ≤ _
    refine withM_len (z := 2000) (by decide) hw fun s n W h4 h9 => ?_
    have ok := pcs_ok W h9 h4
    unfold pieceA
    split
    · split
      · rename_i p hp
        have hm := List.mem_of_getElem? hp
        have h1 := ok.sh p hm
        have h2 := (ok.cov p hm).1
        rw [List.length_cons, List.length_append, List.length_map, List.length_cons, List.length_map]
        omega
      · exact Nat.zero_le _
    · exact Nat.le_of_ble_eq_true rfl
  | least m k =>
    show (withM o m fun s n => leastA s n k).length ≤ _
    refine withM_len (z := 2000) (by decide) hw fun s n W h4 h9 => ?_
    have h1 := leastM_len (pcsM s n) k (goalsM s).length
    have h2 := pow9 h9
    have h3 := hu s (pcsM s n)
    unfold leastA
    split
    · exact Nat.le_of_ble_eq_true rfl
    · split
      · rw [List.length_cons, toldM_len]
        omega
      · rw [List.length_cons]
        omega
  | greedy m =>
    refine withM_len (z := 2000) (by decide) hw fun s n W h4 h9 => ?_
    have h1 := greedyM_len (pcsM s n) (goalsM s).length
    have h3 := hu s (pcsM s n)
    unfold greedyA
    split
    · rw [List.length_cons, toldM_len]
      omega
    · rw [List.length_cons]
      omega
  | bound m =>
    refine withM_len (z := 2000) (by decide) hw fun s n W h4 h9 => ?_
    have h1 := greatM_len (goalsM s).length (pcsM s n)
    show (nI _).length + 1 ≤ _
    rw [List.length_map]
    omega
  | check m l =>
    show (withM o m fun s n => checkA s n l).length ≤ _
    refine withM_len (z := 2000) (by decide) hw fun s n W h4 h9 => ?_
    have h3 := hu s (chosenM (pcsM s n) l)
    unfold checkA
    split
    · split
      · exact Nat.le_of_ble_eq_true rfl
      · rw [List.length_cons]
        omega
    · exact Nat.le_of_ble_eq_true rfl
theorem iV_at {l : List Int} {i : Nat} {z : Int} (h : l[i]? = some z) : atI (iV l) (i : Nat) = some (.int z) := atI_nat (by
  rw [List.getElem?_map, h] <;> rfl)
theorem dropI_at {l : List Int} {i j : Nat} {r : List Int} (h : l.drop i = r) : l[i + j]? = r[j]? := by
  rw [← h, List.getElem?_drop]
section
variable {P : Program} {w : World} {K : PySem.W.Frag} {mg : Str → Option Value} {base : Heap} {H H' : Hp}
def sp_call_end (K : PySem.W.Frag) : Sp := fun vs H Q _ => ∃ (lc : Addr) (l : List Int) (i : Nat) (c : Vahypc.Call) (t : List Int), vs = [.ref lc, .int (i : Nat)] ∧ SqL K H lc (iV l) ∧ l.drop i = flatC c ++ t ∧ RetV (.int ((i + (flatC c).length : Nat) : Int)) H Q
theorem ok_call_end (T : TX K mg) : FnOk P w K mg base CX0 1 T.f_call_end T.d_call_end ["calls", "start"] (sp_call_end K) := by
  refine T.F_call_end.ok sc_call_end (fun vs H Q E h => ?_) (fun cdv A outer s0 H vs Q E hr h => ?_)
  · obtain ⟨lc, l, i, c, t, rfl, hS, hd, k⟩ := h
    rfl
  obtain ⟨lc, l, i, c, t, rfl, hS, hd, k⟩ := h
  refine ⟨_, (pss_cons (ps_set (i := 2) (sc_call_end).nd rfl (Or.inl rfl) (pe_ix ix_list (pv 0) (pv 1) (fun _ _ => rfl)))
    (pss_cons (ps_if (pt_cmpR op_eq (pv 2) (pe_glob (v := .int 0) (by rfl) T.c_LOAD ⟨_, rfl⟩) (nomark _)) (pss_one (ps_ret (pe_op op_add (pe_op op_add (pv 1) pe_int) (pe_ix ix_list (pv 0) (pe_op op_add (pv 1) pe_int) (fun _ _ => rfl))))) pss_nil)
    (pss_cons (ps_if (pt_cmpR op_eq (pv 2) (pe_glob (v := .int 7) (by rfl) T.c_CHECK ⟨_, rfl⟩) (nomark _)) (pss_one (ps_ret (pe_op op_add (pe_op op_add (pv 1) pe_int) (pe_ix ix_list (pv 0) (pe_op op_add (pv 1) pe_int) (fun _ _ => rfl))))) pss_nil)
    (pss_cons (ps_if (pt_cmpR op_eq (pv 2) (pe_glob (v := .int 1) (by rfl) T.c_GOALS ⟨_, rfl⟩) (nomark _)) (pss_one (ps_ret (pe_op op_add (pv 1) pe_int))) pss_nil)
    (pss_cons (ps_if (pt_cmpR op_in_seq (pv 2) (pe_tup (pa_cons (pe_glob (v := .int 2) (by rfl) T.c_FAMILY ⟨_, rfl⟩) (pa_cons (pe_glob (v := .int 5) (by rfl) T.c_GREEDY ⟨_, rfl⟩) (pa_cons (pe_glob (v := .int 6) (by rfl) T.c_BOUND ⟨_, rfl⟩) pa_nil)))) (by rfl)) (pss_one (ps_ret (pe_op op_add (pv 1) pe_int))) pss_nil)
    (pss_cons (ps_if (pt_cmpR op_in_seq (pv 2) (pe_tup (pa_cons (pe_glob (v := .int 3) (by rfl) T.c_PIECE ⟨_, rfl⟩) (pa_cons (pe_glob (v := .int 4) (by rfl) T.c_LEAST ⟨_, rfl⟩) pa_nil))) (by rfl)) (pss_one (ps_ret (pe_op op_add (pv 1) pe_int))) pss_nil)
    (pss_one ps_never))))))), Go.at ?_⟩
  have at_ : ∀ (j : Nat) z, (flatC c ++ t)[j]? = some z → atI (iV l) ((i + j : Nat) : Int) = some (.int z) := fun j z h => iV_at ((dropI_at hd).trans h)
  have a0 : ∀ z, (flatC c ++ t)[0]? = some z → atI (iV l) (i : Int) = some (.int z) := fun z h => at_ 0 z h
  cases c with
  | load b =>
    refine gq_asg (ev_op (ev_var rfl) (ev_var rfl) (rv_ixL hS (a0 0 rfl))) ?_
    refine gq_when (b := true) (et_is (et_test (ev_op (ev_var rfl) ev_c (rv_eq rfl))) rfl) (fun _ => ?_) fun z => by cases z
    refine go_ret (v := .int ((i + (flatC (.load b)).length : Nat) : Int)) (ev_is (ev_op (ev_op (ev_var rfl) ev_c rv_I0) (ev_op (ev_var rfl) (ev_op (ev_var rfl) ev_c rv_I0) (rv_ixL hS (at_ 1 _ rfl))) rv_I0) ?_) k
    show V.int _ = V.int _
    congr 1
    have e : (flatC (.load b)).length = b.length + 2 := by
      show (bI b).length + 1 + 1 = _
      rw [List.length_map]
    rw [e]
    omega
  | goals =>
    refine gq_asg (ev_op (ev_var rfl) (ev_var rfl) (rv_ixL hS (a0 1 rfl))) ?_
    refine gq_when (b := false) (et_is (et_test (ev_op (ev_var rfl) ev_c (rv_eq rfl))) rfl) (fun z => by cases z) fun _ => ?_
    refine gq_when (b := false) (et_is (et_test (ev_op (ev_var rfl) ev_c (rv_eq rfl))) rfl) (fun z => by cases z) fun _ => ?_
    refine gq_when (b := true) (et_is (et_test (ev_op (ev_var rfl) ev_c (rv_eq rfl))) rfl) (fun _ => ?_) fun z => by cases z
    exact go_ret (v := .int ((i + 1 : Nat) : Int)) (ev_is (ev_op (ev_var rfl) ev_c rv_I0) (by show V.int _ = V.int _; congr 1)) k
  | family m =>
    refine gq_asg (ev_op (ev_var rfl) (ev_var rfl) (rv_ixL hS (a0 2 rfl))) ?_
    refine gq_when (b := false) (et_is (et_test (ev_op (ev_var rfl) ev_c (rv_eq rfl))) rfl) (fun z => by cases z) fun _ => ?_
    refine gq_when (b := false) (et_is (et_test (ev_op (ev_var rfl) ev_c (rv_eq rfl))) rfl) (fun z => by cases z) fun _ => ?_
    refine gq_when (b := false) (et_is (et_test (ev_op (ev_var rfl) ev_c (rv_eq rfl))) rfl) (fun z => by cases z) fun _ => ?_
    refine gq_when (b := true) (et_is (et_test (ev_inU (xs := [.int 2, .int 5, .int 6]) (ev_var rfl) (eu_tup (ea_cons ev_c (ea_cons ev_c (ea_cons ev_c (ea_nil)))) (by show 3 ≤ 100000; decide)) rfl rfl)) (by rfl)) (fun _ => ?_) fun z => by cases z
    exact go_ret (v := .int ((i + 2 : Nat) : Int)) (ev_is (ev_op (ev_var rfl) ev_c rv_I0) (by show V.int _ = V.int _; congr 1)) k
  | piece m j =>
    refine gq_asg (ev_op (ev_var rfl) (ev_var rfl) (rv_ixL hS (a0 3 rfl))) ?_
    refine gq_when (b := false) (et_is (et_test (ev_op (ev_var rfl) ev_c (rv_eq rfl))) rfl) (fun z => by cases z) fun _ => ?_
    refine gq_when (b := false) (et_is (et_test (ev_op (ev_var rfl) ev_c (rv_eq rfl))) rfl) (fun z => by cases z) fun _ => ?_
    refine gq_when (b := false) (et_is (et_test (ev_op (ev_var rfl) ev_c (rv_eq rfl))) rfl) (fun z => by cases z) fun _ => ?_
    refine gq_when (b := false) (et_is (et_test (ev_inU (xs := [.int 2, .int 5, .int 6]) (ev_var rfl) (eu_tup (ea_cons ev_c (ea_cons ev_c (ea_cons ev_c (ea_nil)))) (by show 3 ≤ 100000; decide)) rfl rfl)) (by rfl)) (fun z => by cases z) fun _ => ?_
    refine gq_when (b := true) (et_is (et_test (ev_inU (xs := [.int 3, .int 4]) (ev_var rfl) (eu_tup (ea_cons ev_c (ea_cons ev_c (ea_nil))) (by show 2 ≤ 100000; decide)) rfl rfl)) (by rfl)) (fun _ => ?_) fun z => by cases z
    exact go_ret (v := .int ((i + 3 : Nat) : Int)) (ev_is (ev_op (ev_var rfl) ev_c rv_I0) (by show V.int _ = V.int _; congr 1)) k
  | least m j =>
    refine gq_asg (ev_op (ev_var rfl) (ev_var rfl) (rv_ixL hS (a0 4 rfl))) ?_
    refine gq_when (b := false) (et_is (et_test (ev_op (ev_var rfl) ev_c (rv_eq rfl))) rfl) (fun z => by cases z) fun _ => ?_
    refine gq_when (b := false) (et_is (et_test (ev_op (ev_var rfl) ev_c (rv_eq rfl))) rfl) (fun z => by cases z) fun _ => ?_
    refine gq_when (b := false) (et_is (et_test (ev_op (ev_var rfl) ev_c (rv_eq rfl))) rfl) (fun z => by cases z) fun _ => ?_
    refine gq_when (b := false) (et_is (et_test (ev_inU (xs := [.int 2, .int 5, .int 6]) (ev_var rfl) (eu_tup (ea_cons ev_c (ea_cons ev_c (ea_cons ev_c (ea_nil)))) (by show 3 ≤ 100000; decide)) rfl rfl)) (by rfl)) (fun z => by cases z) fun _ => ?_
    refine gq_when (b := true) (et_is (et_test (ev_inU (xs := [.int 3, .int 4]) (ev_var rfl) (eu_tup (ea_cons ev_c (ea_cons ev_c (ea_nil))) (by show 2 ≤ 100000; decide)) rfl rfl)) (by rfl)) (fun _ => ?_) fun z => by cases z
    exact go_ret (v := .int ((i + 3 : Nat) : Int)) (ev_is (ev_op (ev_var rfl) ev_c rv_I0) (by show V.int _ = V.int _; congr 1)) k
  | greedy m =>
    refine gq_asg (ev_op (ev_var rfl) (ev_var rfl) (rv_ixL hS (a0 5 rfl))) ?_
    refine gq_when (b := false) (et_is (et_test (ev_op (ev_var rfl) ev_c (rv_eq rfl))) rfl) (fun z => by cases z) fun _ => ?_
    refine gq_when (b := false) (et_is (et_test (ev_op (ev_var rfl) ev_c (rv_eq rfl))) rfl) (fun z => by cases z) fun _ => ?_
    refine gq_when (b := false) (et_is (et_test (ev_op (ev_var rfl) ev_c (rv_eq rfl))) rfl) (fun z => by cases z) fun _ => ?_
    refine gq_when (b := true) (et_is (et_test (ev_inU (xs := [.int 2, .int 5, .int 6]) (ev_var rfl) (eu_tup (ea_cons ev_c (ea_cons ev_c (ea_cons ev_c (ea_nil)))) (by show 3 ≤ 100000; decide)) rfl rfl)) (by rfl)) (fun _ => ?_) fun z => by cases z
    exact go_ret (v := .int ((i + 2 : Nat) : Int)) (ev_is (ev_op (ev_var rfl) ev_c rv_I0) (by show V.int _ = V.int _; congr 1)) k
  | bound m =>
    refine gq_asg (ev_op (ev_var rfl) (ev_var rfl) (rv_ixL hS (a0 6 rfl))) ?_
    refine gq_when (b := false) (et_is (et_test (ev_op (ev_var rfl) ev_c (rv_eq rfl))) rfl) (fun z => by cases z) fun _ => ?_
    refine gq_when (b := false) (et_is (et_test (ev_op (ev_var rfl) ev_c (rv_eq rfl))) rfl) (fun z => by cases z) fun _ => ?_
    refine gq_when (b := false) (et_is (et_test (ev_op (ev_var rfl) ev_c (rv_eq rfl))) rfl) (fun z => by cases z) fun _ => ?_
    refine gq_when (b := true) (et_is (et_test (ev_inU (xs := [.int 2, .int 5, .int 6]) (ev_var rfl) (eu_tup (ea_cons ev_c (ea_cons ev_c (ea_cons ev_c (ea_nil)))) (by show 3 ≤ 100000; decide)) rfl rfl)) (by rfl)) (fun _ => ?_) fun z => by cases z
    exact go_ret (v := .int ((i + 2 : Nat) : Int)) (ev_is (ev_op (ev_var rfl) ev_c rv_I0) (by show V.int _ = V.int _; congr 1)) k
  | check m cl =>
    refine gq_asg (ev_op (ev_var rfl) (ev_var rfl) (rv_ixL hS (a0 7 rfl))) ?_
    refine gq_when (b := false) (et_is (et_test (ev_op (ev_var rfl) ev_c (rv_eq rfl))) rfl) (fun z => by cases z) fun _ => ?_
    refine gq_when (b := true) (et_is (et_test (ev_op (ev_var rfl) ev_c (rv_eq rfl))) rfl) (fun _ => ?_) fun z => by cases z
    refine go_ret (v := .int ((i + (flatC (.check m cl)).length : Nat) : Int)) (ev_is (ev_op (ev_op (ev_var rfl) ev_c rv_I0) (ev_op (ev_var rfl) (ev_op (ev_var rfl) ev_c rv_I0) (rv_ixL hS (at_ 2 _ rfl))) rv_I0) ?_) k
    show V.int _ = V.int _
    congr 1
    have e : (flatC (.check m cl)).length = cl.length + 3 := rfl
    rw [e]
    omega
theorem cut_from {l : List Int} (j : Nat) (r : List Int) (h : l.drop j = r) (hj : j ≤ l.length) : cutV (iV l) (some (j : Int)) none = iV r := by
  unfold cutV
  rw [HT.sIx_none]
  rw [show ((j : Int)) = ((j : Nat) : Int) from rfl, HT.sIx_nat]
  have e : (iV l).length = l.length := List.length_map _
  rw [e, Nat.min_eq_left hj, ← h]
  unfold iV
  rw [← List.map_drop, ← List.map_take]
  congr 1
  exact List.take_of_length_le (by rw [List.length_drop]; exact Nat.le_refl _)
theorem cut_mid {l : List Int} (i n : Nat) (a t : List Int) (h : l.drop i = a ++ t) (hn : a.length = n) (hi : i ≤ l.length) : cutV (iV l) (some (i : Int)) (some ((i + n : Nat) : Int)) = iV a := by
  have hlen : l.length - i = n + t.length := by
    rw [← List.length_drop, h, List.length_append, hn]
  unfold cutV
  rw [HT.sIx_nat, HT.sIx_nat]
  have e : (iV l).length = l.length := List.length_map _
  rw [e, Nat.min_eq_left hi, Nat.min_eq_left (by omega)]
  unfold iV
  rw [← List.map_drop, ← List.map_take, h]
  congr 1
  rw [show i + n - i = n by omega, ← hn, List.take_left']
  rfl
theorem go_raw {te : TE} {D : Ends} {σ : L2.St} (h : ∀ H1, Ex H H1 → te σ H1 D.rt) : Go (tRet te) D σ H := h
def sp_answer_call (T : TX K mg) : Sp := fun vs H Q _ => ∃ (h l g : Addr) (o : Option Vahypa.Lst) (c : Vahypc.Call) (ys : List V), vs = [.ref h, .ref l] ∧ H l = some (.lst (iV (flatC c))) ∧ okC c ∧ H g = some (.lst ys) ∧ HoAt T (wo H g) h o ∧ OWF o ∧ RetH T g h (stepO o c) (iV (stepA o c)) H Q
theorem ok_answer_call (T : TX K mg) : FnOk P w K mg base CX0 8 T.f_answer_call T.d_answer_call ["holder", "call"] (sp_answer_call T) := by
  refine T.F_answer_call.ok sc_answer_call (fun vs H Q E h => ?_) (fun cdv A outer s0 H vs Q E hr h => ?_)
  · obtain ⟨h, l, g, o, c, ys, rfl, hl, hc, hg, hG, hW, k⟩ := h
    rfl
  obtain ⟨h, l, g, o, c, ys, rfl, hl, hc, hg, hG, hW, k⟩ := h
  refine ⟨_, (pss_cons (ps_if (pt_cmpR op_eq (pe_ix ix_list (pv 1) pe_int (fun _ _ => rfl)) (pe_glob (v := .int 0) (by rfl) T.c_LOAD ⟨_, rfl⟩) (nomark _)) (pss_one (ps_ret (pe_meth (pv 0) T.cl_Holder T.mm_Holder_load (ok_Holder_load T) (hr.mono (by decide)) T.b_Holder_load .nil pass0 (pa_cons (pe_slice sl_list (pv 1) (po_some pe_int) po_none) pa_nil)))) pss_nil)
    (pss_cons (ps_if (pt_cmpR op_eq (pe_ix ix_list (pv 1) pe_int (fun _ _ => rfl)) (pe_glob (v := .int 1) (by rfl) T.c_GOALS ⟨_, rfl⟩) (nomark _)) (pss_one (ps_ret (pe_meth0 (pv 0) T.cl_Holder T.mm_Holder_goals (ok_Holder_goals T) (hr.mono (by decide)) T.b_Holder_goals .nil pass0))) pss_nil)
    (pss_cons (ps_if (pt_cmpR op_eq (pe_ix ix_list (pv 1) pe_int (fun _ _ => rfl)) (pe_glob (v := .int 2) (by rfl) T.c_FAMILY ⟨_, rfl⟩) (nomark _)) (pss_one (ps_ret (pe_meth (pv 0) T.cl_Holder T.mm_Holder_family (ok_Holder_family T) (hr.mono (by decide)) T.b_Holder_family .nil pass0 (pa_cons (pe_ix ix_list (pv 1) pe_int (fun _ _ => rfl)) pa_nil)))) pss_nil)
    (pss_cons (ps_if (pt_cmpR op_eq (pe_ix ix_list (pv 1) pe_int (fun _ _ => rfl)) (pe_glob (v := .int 3) (by rfl) T.c_PIECE ⟨_, rfl⟩) (nomark _)) (pss_one (ps_ret (pe_meth (pv 0) T.cl_Holder T.mm_Holder_piece (ok_Holder_piece T) (hr.mono (by decide)) T.b_Holder_piece .nil pass0 (pa_cons (pe_ix ix_list (pv 1) pe_int (fun _ _ => rfl)) (pa_cons (pe_ix ix_list (pv 1) pe_int (fun _ _ => rfl)) pa_nil))))) pss_nil)
    (pss_cons (ps_if (pt_cmpR op_eq (pe_ix ix_list (pv 1) pe_int (fun _ _ => rfl)) (pe_glob (v := .int 4) (by rfl) T.c_LEAST ⟨_, rfl⟩) (nomark _)) (pss_one (ps_ret (pe_meth (pv 0) T.cl_Holder T.mm_Holder_least (ok_Holder_least T) (hr.mono (by decide)) T.b_Holder_least .nil pass0 (pa_cons (pe_ix ix_list (pv 1) pe_int (fun _ _ => rfl)) (pa_cons (pe_ix ix_list (pv 1) pe_int (fun _ _ => rfl)) pa_nil))))) pss_nil)
    (pss_cons (ps_if (pt_cmpR op_eq (pe_ix ix_list (pv 1) pe_int (fun _ _ => rfl)) (pe_glob (v := .int 5) (by rfl) T.c_GREEDY ⟨_, rfl⟩) (nomark _)) (pss_one (ps_ret (pe_meth (pv 0) T.cl_Holder T.mm_Holder_greedy (ok_Holder_greedy T) (hr.mono (by decide)) T.b_Holder_greedy .nil pass0 (pa_cons (pe_ix ix_list (pv 1) pe_int (fun _ _ => rfl)) pa_nil)))) pss_nil)
    (pss_cons (ps_if (pt_cmpR op_eq (pe_ix ix_list (pv 1) pe_int (fun _ _ => rfl)) (pe_glob (v := .int 6) (by rfl) T.c_BOUND ⟨_, rfl⟩) (nomark _)) (pss_one (ps_ret (pe_meth (pv 0) T.cl_Holder T.mm_Holder_bound (ok_Holder_bound T) (hr.mono (by decide)) T.b_Holder_bound .nil pass0 (pa_cons (pe_ix ix_list (pv 1) pe_int (fun _ _ => rfl)) pa_nil)))) pss_nil)
    (pss_one (ps_ret (pe_meth (pv 0) T.cl_Holder T.mm_Holder_check (ok_Holder_check T) (hr.mono (by decide)) T.b_Holder_check .nil pass0 (pa_cons (pe_ix ix_list (pv 1) pe_int (fun _ _ => rfl)) (pa_cons (pe_slice sl_list (pv 1) (po_some pe_int) po_none) pa_nil)))))))))))), Go.at ?_⟩
  have at_ : ∀ {H1 : Hp} {σ : L2.St} {tj : TE} (j : Nat) z, Ex H H1 → σ[1]? = some (some (.ref l)) → Ev tj σ H1 (.int (j : Nat)) → (flatC c)[j]? = some z → Ev (tOp (rIxL K) (tVar 1) tj) σ H1 (.int z) := fun j z e h1 h2 h => ev_op (ev_var h1) h2 (rv_ixL (sq_of (e _ _ hl)) (iV_at h))
  have hH : HoAt T H h o := hG.mono wo_ex
  obtain ⟨dx, v0, hIns⟩ := hH.ins
  cases c with
  | load b =>
    refine gq_when (b := true) (et_is (et_test (ev_op (at_ 0 _ (Ex.refl _) rfl ev_c rfl) ev_c (rv_eq rfl))) rfl) (fun _ => ?_) fun z => by cases z
    have hb : b.length ≤ 8192 := hc
    have ecut : cutV (iV (flatC (.load b))) (some 2) none = bV b := by
      refine (cut_from 2 (bI b) rfl (by show 2 ≤ (bI b).length + 1 + 1; omega)).trans ?_
      unfold iV bI bV
      rw [List.map_map] <;> rfl
    have hsl := el_sl (K := K) (te := tVar 1) (tl := tPart (tC (.int 2))) (th := tNoPart) (σ := [some (.ref h), some (.ref l)]) (ev_var rfl) (eo_some ev_c) eo_none (sq_of hl)
    rw [ecut] at hsl
    have k : RetH T g h (loadO o b) (iV (loadA b)) H Q := k
    exact go_raw fun H1 e => ev_var (i := 0) rfl H1 e _ fun H2 e2 => ⟨h, dx, _, rfl, e2 _ _ (e _ _ hIns), no_Holder_load, hsl H2 (e.trans e2) _ fun lb H3 hlb e3 hl3 => ⟨h, lb, g, o, b, ys, rfl, hl3, by omega, ((e.trans e2).trans e3) _ _ hg, hG.mono (wo_mono ((e.trans e2).trans e3)), hW, k.mono ((e.trans e2).trans e3)⟩⟩
  | goals =>
    refine gq_when (b := false) (et_is (et_test (ev_op (at_ 0 _ (Ex.refl _) rfl ev_c rfl) ev_c (rv_eq rfl))) rfl) (fun z => by cases z) fun _ => ?_
    refine gq_when (b := true) (et_is (et_test (ev_op (at_ 0 _ (Ex.refl _) rfl ev_c rfl) ev_c (rv_eq rfl))) rfl) (fun _ => ?_) fun z => by cases z
    have k2 : RetL (iV (goalsA o)) H Q := k.l hG
    exact go_raw fun H1 e => ev_var (i := 0) rfl H1 e _ fun H2 e2 => ⟨h, dx, _, rfl, e2 _ _ (e _ _ hIns), no_Holder_goals, ⟨h, o, rfl, hH.mono (e.trans e2), hW, rl_mono k2 (e.trans e2)⟩⟩
  | family m =>
    refine gq_when (b := false) (et_is (et_test (ev_op (at_ 0 _ (Ex.refl _) rfl ev_c rfl) ev_c (rv_eq rfl))) rfl) (fun z => by cases z) fun _ => ?_
    refine gq_when (b := false) (et_is (et_test (ev_op (at_ 0 _ (Ex.refl _) rfl ev_c rfl) ev_c (rv_eq rfl))) rfl) (fun z => by cases z) fun _ => ?_
    refine gq_when (b := true) (et_is (et_test (ev_op (at_ 0 _ (Ex.refl _) rfl ev_c rfl) ev_c (rv_eq rfl))) rfl) (fun _ => ?_) fun z => by cases z
    have k2 : RetL (iV (withM o m familyA)) H Q := k.l hG
    exact go_raw fun H1 e => ev_var (i := 0) rfl H1 e _ fun H2 e2 => ⟨h, dx, _, rfl, e2 _ _ (e _ _ hIns), no_Holder_family, at_ 1 m (e.trans e2) rfl ev_c rfl H2 (Ex.refl _) _ fun H3 e3 => ⟨h, o, m, rfl, hH.mono ((e.trans e2).trans e3), hW, rl_mono k2 ((e.trans e2).trans e3)⟩⟩
  | piece m j =>
    refine gq_when (b := false) (et_is (et_test (ev_op (at_ 0 _ (Ex.refl _) rfl ev_c rfl) ev_c (rv_eq rfl))) rfl) (fun z => by cases z) fun _ => ?_
    refine gq_when (b := false) (et_is (et_test (ev_op (at_ 0 _ (Ex.refl _) rfl ev_c rfl) ev_c (rv_eq rfl))) rfl) (fun z => by cases z) fun _ => ?_
    refine gq_when (b := false) (et_is (et_test (ev_op (at_ 0 _ (Ex.refl _) rfl ev_c rfl) ev_c (rv_eq rfl))) rfl) (fun z => by cases z) fun _ => ?_
    refine gq_when (b := true) (et_is (et_test (ev_op (at_ 0 _ (Ex.refl _) rfl ev_c rfl) ev_c (rv_eq rfl))) rfl) (fun _ => ?_) fun z => by cases z
    have k2 : RetL (iV (withM o m fun s n => pieceA s n j)) H Q := k.l hG
    exact go_raw fun H1 e => ev_var (i := 0) rfl H1 e _ fun H2 e2 => ⟨h, dx, _, rfl, e2 _ _ (e _ _ hIns), no_Holder_piece, at_ 1 m (e.trans e2) rfl ev_c rfl H2 (Ex.refl _) _ fun H3 e3 => at_ 2 j ((e.trans e2).trans e3) rfl ev_c rfl H3 (Ex.refl _) _ fun H4 e4 => ⟨h, o, m, j, rfl, hH.mono (((e.trans e2).trans e3).trans e4), hW, rl_mono k2 (((e.trans e2).trans e3).trans e4)⟩⟩
  | least m j =>
    refine gq_when (b := false) (et_is (et_test (ev_op (at_ 0 _ (Ex.refl _) rfl ev_c rfl) ev_c (rv_eq rfl))) rfl) (fun z => by cases z) fun _ => ?_
    refine gq_when (b := false) (et_is (et_test (ev_op (at_ 0 _ (Ex.refl _) rfl ev_c rfl) ev_c (rv_eq rfl))) rfl) (fun z => by cases z) fun _ => ?_
    refine gq_when (b := false) (et_is (et_test (ev_op (at_ 0 _ (Ex.refl _) rfl ev_c rfl) ev_c (rv_eq rfl))) rfl) (fun z => by cases z) fun _ => ?_
    refine gq_when (b := false) (et_is (et_test (ev_op (at_ 0 _ (Ex.refl _) rfl ev_c rfl) ev_c (rv_eq rfl))) rfl) (fun z => by cases z) fun _ => ?_
    refine gq_when (b := true) (et_is (et_test (ev_op (at_ 0 _ (Ex.refl _) rfl ev_c rfl) ev_c (rv_eq rfl))) rfl) (fun _ => ?_) fun z => by cases z
    have k2 : RetL (iV (withM o m fun s n => leastA s n j)) H Q := k.l hG
    exact go_raw fun H1 e => ev_var (i := 0) rfl H1 e _ fun H2 e2 => ⟨h, dx, _, rfl, e2 _ _ (e _ _ hIns), no_Holder_least, at_ 1 m (e.trans e2) rfl ev_c rfl H2 (Ex.refl _) _ fun H3 e3 => at_ 2 j ((e.trans e2).trans e3) rfl ev_c rfl H3 (Ex.refl _) _ fun H4 e4 => ⟨h, o, m, j, rfl, hH.mono (((e.trans e2).trans e3).trans e4), hW, rl_mono k2 (((e.trans e2).trans e3).trans e4)⟩⟩
  | greedy m =>
    refine gq_when (b := false) (et_is (et_test (ev_op (at_ 0 _ (Ex.refl _) rfl ev_c rfl) ev_c (rv_eq rfl))) rfl) (fun z => by cases z) fun _ => ?_
    refine gq_when (b := false) (et_is (et_test (ev_op (at_ 0 _ (Ex.refl _) rfl ev_c rfl) ev_c (rv_eq rfl))) rfl) (fun z => by cases z) fun _ => ?_
    refine gq_when (b := false) (et_is (et_test (ev_op (at_ 0 _ (Ex.refl _) rfl ev_c rfl) ev_c (rv_eq rfl))) rfl) (fun z => by cases z) fun _ => ?_
    refine gq_when (b := false) (et_is (et_test (ev_op (at_ 0 _ (Ex.refl _) rfl ev_c rfl) ev_c (rv_eq rfl))) rfl) (fun z => by cases z) fun _ => ?_
    refine gq_when (b := false) (et_is (et_test (ev_op (at_ 0 _ (Ex.refl _) rfl ev_c rfl) ev_c (rv_eq rfl))) rfl) (fun z => by cases z) fun _ => ?_
    refine gq_when (b := true) (et_is (et_test (ev_op (at_ 0 _ (Ex.refl _) rfl ev_c rfl) ev_c (rv_eq rfl))) rfl) (fun _ => ?_) fun z => by cases z
    have k2 : RetL (iV (withM o m greedyA)) H Q := k.l hG
    exact go_raw fun H1 e => ev_var (i := 0) rfl H1 e _ fun H2 e2 => ⟨h, dx, _, rfl, e2 _ _ (e _ _ hIns), no_Holder_greedy, at_ 1 m (e.trans e2) rfl ev_c rfl H2 (Ex.refl _) _ fun H3 e3 => ⟨h, o, m, rfl, hH.mono ((e.trans e2).trans e3), hW, rl_mono k2 ((e.trans e2).trans e3)⟩⟩
  | bound m =>
    refine gq_when (b := false) (et_is (et_test (ev_op (at_ 0 _ (Ex.refl _) rfl ev_c rfl) ev_c (rv_eq rfl))) rfl) (fun z => by cases z) fun _ => ?_
    refine gq_when (b := false) (et_is (et_test (ev_op (at_ 0 _ (Ex.refl _) rfl ev_c rfl) ev_c (rv_eq rfl))) rfl) (fun z => by cases z) fun _ => ?_
    refine gq_when (b := false) (et_is (et_test (ev_op (at_ 0 _ (Ex.refl _) rfl ev_c rfl) ev_c (rv_eq rfl))) rfl) (fun z => by cases z) fun _ => ?_
    refine gq_when (b := false) (et_is (et_test (ev_op (at_ 0 _ (Ex.refl _) rfl ev_c rfl) ev_c (rv_eq rfl))) rfl) (fun z => by cases z) fun _ => ?_
    refine gq_when (b := false) (et_is (et_test (ev_op (at_ 0 _ (Ex.refl _) rfl ev_c rfl) ev_c (rv_eq rfl))) rfl) (fun z => by cases z) fun _ => ?_
    refine gq_when (b := false) (et_is (et_test (ev_op (at_ 0 _ (Ex.refl _) rfl ev_c rfl) ev_c (rv_eq rfl))) rfl) (fun z => by cases z) fun _ => ?_
    refine gq_when (b := true) (et_is (et_test (ev_op (at_ 0 _ (Ex.refl _) rfl ev_c rfl) ev_c (rv_eq rfl))) rfl) (fun _ => ?_) fun z => by cases z
    have k2 : RetL (iV (withM o m boundA)) H Q := k.l hG
    exact go_raw fun H1 e => ev_var (i := 0) rfl H1 e _ fun H2 e2 => ⟨h, dx, _, rfl, e2 _ _ (e _ _ hIns), no_Holder_bound, at_ 1 m (e.trans e2) rfl ev_c rfl H2 (Ex.refl _) _ fun H3 e3 => ⟨h, o, m, rfl, hH.mono ((e.trans e2).trans e3), hW, rl_mono k2 ((e.trans e2).trans e3)⟩⟩
  | check m cl =>
    refine gq_when (b := false) (et_is (et_test (ev_op (at_ 0 _ (Ex.refl _) rfl ev_c rfl) ev_c (rv_eq rfl))) rfl) (fun z => by cases z) fun _ => ?_
    refine gq_when (b := false) (et_is (et_test (ev_op (at_ 0 _ (Ex.refl _) rfl ev_c rfl) ev_c (rv_eq rfl))) rfl) (fun z => by cases z) fun _ => ?_
    refine gq_when (b := false) (et_is (et_test (ev_op (at_ 0 _ (Ex.refl _) rfl ev_c rfl) ev_c (rv_eq rfl))) rfl) (fun z => by cases z) fun _ => ?_
    refine gq_when (b := false) (et_is (et_test (ev_op (at_ 0 _ (Ex.refl _) rfl ev_c rfl) ev_c (rv_eq rfl))) rfl) (fun z => by cases z) fun _ => ?_
    refine gq_when (b := false) (et_is (et_test (ev_op (at_ 0 _ (Ex.refl _) rfl ev_c rfl) ev_c (rv_eq rfl))) rfl) (fun z => by cases z) fun _ => ?_
    refine gq_when (b := false) (et_is (et_test (ev_op (at_ 0 _ (Ex.refl _) rfl ev_c rfl) ev_c (rv_eq rfl))) rfl) (fun z => by cases z) fun _ => ?_
    refine gq_when (b := false) (et_is (et_test (ev_op (at_ 0 _ (Ex.refl _) rfl ev_c rfl) ev_c (rv_eq rfl))) rfl) (fun z => by cases z) fun _ => ?_
    have hb : cl.length ≤ 2000 := hc
    have ecut : cutV (iV (flatC (.check m cl))) (some 3) none = iV cl := cut_from 3 cl rfl (by show 3 ≤ cl.length + 1 + 1 + 1; omega)
    have hsl := el_sl (K := K) (te := tVar 1) (tl := tPart (tC (.int 3))) (th := tNoPart) (σ := [some (.ref h), some (.ref l)]) (ev_var rfl) (eo_some ev_c) eo_none (sq_of hl)
    rw [ecut] at hsl
    have k2 : RetL (iV (withM o m fun s n => checkA s n cl)) H Q := k.l hG
    exact go_raw fun H1 e => ev_var (i := 0) rfl H1 e _ fun H2 e2 => ⟨h, dx, _, rfl, e2 _ _ (e _ _ hIns), no_Holder_check, at_ 1 m (e.trans e2) rfl ev_c rfl H2 (Ex.refl _) _ fun H3 e3 => hsl H3 ((e.trans e2).trans e3) _ fun lb H4 hlb e4 hl4 => ⟨h, lb, o, m, cl, rfl, hl4, by omega, hH.mono (((e.trans e2).trans e3).trans e4), hW, rl_mono k2 (((e.trans e2).trans e3).trans e4)⟩⟩
end
end LP
namespace LP
open PySem PySem.Spec PyProof.Rows L2 Evl
open VahypBase (Bytes isLetter isDigit inChunk isBlank)
def toldA : Option Vahypa.Lst → List Vahypc.Call → List Int
  | _, [] => []
  | o, c :: r => (((stepA o c).length : Nat) : Int) :: (stepA o c ++ toldA (stepO o c) r)
section
variable {P : Program} {w : World} {K : PySem.W.Frag} {mg : Str → Option Value} {base : Heap} {H H' : Hp}
theorem gq_raw {i : Nat} {te : TE} {tz : TS} {D : Ends} {σ : L2.St} (h : ∀ H1, Ex H H1 → te σ H1 fun v H2 => tz D (σ.set i (some v)) H2) : Go (tSeq (tAsg te (gName i)) tz) D σ H := h
theorem go_of_ext {tu tz : TS} {D : Ends} {σ : L2.St} (h : Go tu { D with nx := tz D } σ H) : Go (tSeq tu tz) D σ H := h
theorem call_raw {sp : Sp} {dvs : List V} {E : XK} {ta tb : TE} {σ : L2.St} {H : Hp} {Q : VK} (h : ta σ H fun v H1 => tb σ H1 fun u H2 => sp ([v, u] ++ dvs) H2 Q E) : tCall sp dvs E (tCons ta (tCons tb tNil)) σ H Q := h
def sp_answers (K : PySem.W.Frag) : Sp := fun vs H Q _ => ∃ (a : Addr) (l : List Int) (cs : List Vahypc.Call), vs = [.ref a] ∧ SqL K H a (iV l) ∧ l = cs.flatMap flatC ∧ (∀ c ∈ cs, okC c) ∧ cs.length ≤ 20 ∧ ∀ (H' : Hp) (p : Addr), H' p = some (.lst (iV (toldA none cs))) → Q (.ref p) H'
theorem ok_answers (T : TX K mg) : FnOk P w K mg base CX0 9 T.f_answers T.d_answers ["calls"] (sp_answers K) := by
  refine T.F_answers.ok sc_answers (fun vs H Q E h => ?_) (fun cdv A outer s0 H vs Q E hr h => ?_)
  · obtain ⟨a, l, cs, rfl, hS, hl, hok, h20, k⟩ := h
    rfl
  obtain ⟨a, l, cs, rfl, hS, hl, hok, h20, k⟩ := h
  refine ⟨_, (pss_cons (ps_set (i := 1) (sc_answers).nd rfl (Or.inl rfl) (pe_make0 T.M_Holder (ok_Holder___init__ T) (hr.mono (by decide)) (by rfl) T.m_Holder T.b_Holder___init__ .nil pass0))
    (pss_cons (ps_set (i := 2) (sc_answers).nd rfl (Or.inl rfl) (pe_lst pa_nil))
    (pss_cons (ps_set (i := 3) (sc_answers).nd rfl (Or.inl rfl) pe_int)
    (pss_cons (ps_while PassesOwn.never (pt_cmpR op_lt (pv 3) (pe_callB call_len_seq (by rfl) T.n_len PySem.boot_len (pa_cons (pv 0) pa_nil)) (nomark _)) (pss_cons (ps_set (i := 4) (sc_answers).nd rfl (Or.inl rfl) (pe_call (ok_call_end T) (hr.mono (by decide)) (by rfl) T.m_call_end T.F_call_end.kp T.b_call_end .nil pass0 (pa_cons (pv 0) (pa_cons (pv 3) pa_nil))))
    (pss_cons (ps_set (i := 5) (sc_answers).nd rfl (Or.inl rfl) (pe_call (ok_answer_call T) (hr.mono (by decide)) (by rfl) T.m_answer_call T.F_answer_call.kp T.b_answer_call .nil pass0 (pa_cons (pv 1) (pa_cons (pe_slice sl_list (pv 0) (po_some (pv 3)) (po_some (pv 4))) pa_nil))))
    (pss_cons (ps_expr (pe_bm PySem.F.plainAttrs_list PySem.F.slot_list_append PySem.F.type_list_append mt_append (pv 2) (pa_cons (pe_callB call_len_seq (by rfl) T.n_len PySem.boot_len (pa_cons (pv 5) pa_nil)) pa_nil)))
    (pss_cons (ps_expr (pe_bm PySem.F.plainAttrs_list PySem.F.slot_list_extend PySem.F.type_list_extend mt_extend (pv 2) (pa_cons (pv 5) pa_nil)))
    (pss_one (ps_set (i := 3) (sc_answers).nd rfl (Or.inl rfl) (pv 4))))))))
    (pss_one (ps_ret (pv 2))))))), Go.at ?_⟩
  refine gq_asgR (R := fun H0 v H2 => ∃ p, v = .ref p ∧ H0 p = none ∧ I_Holder T H2 p .non) (evr_mk0 fun H1 p dx e hp hd hne Q q => ⟨p, dx, rfl, upd_same, fun H' hI kk => q H' (ex_new hp hd kk) ⟨p, rfl, hp, hI⟩⟩) fun v H1 H2 e1 e2 ⟨h, hv, hh0, hI⟩ => ?_
  subst hv
  have e12 := e1.trans e2
  refine gq_asgL (xs := []) (el_lst ea_nil (by decide)) fun lt H3 nlt e3 hlt => ?_
  have e13 := e12.trans e3
  have hhH : H h = none := fresh_back e1 hh0
  have hltH : H lt = none := fresh_back e12 nlt
  obtain ⟨dI, hI0⟩ := id hI
  have hne : lt ≠ h := fun z => by
    rw [z, hI0] at nlt
    cases nlt
  have hI00 : HoAt T (wo H2 lt) h none := ⟨dI, wo_at hI0 (fun z => hne z.symm)⟩
  have hlen : ∀ {H' : Hp} {σ : L2.St}, σ[0]? = some (some (.ref a)) → Ex H H' → Ev (tCB (fun xs H Q => ∃ p ys, xs = [.ref p] ∧ (SqL K H p ys ∨ SqT K H p ys) ∧ Q (.int ys.length) H) (tCons (tVar 0) tNil)) σ H' (.int (l.length : Nat)) := fun hs e => ev_is (ev_cbv (ea_cons (ev_var hs) ea_nil) fun H4 e4 Q q => ⟨a, iV l, rfl, .inl (ex_l (e.trans e4) hS), q⟩) (by rw [List.length_map])
  refine gq_asg ev_c ?_
  refine gq_while (fun m σ' H' => ∃ (i : Nat) (o1 : Option Vahypa.Lst) (xs : List Int) (cs2 : List Vahypc.Call) (y4 y5 : Option V), σ' = [some (.ref a), some (.ref h), some (.ref lt), some (.int (i : Nat)), y4, y5] ∧ cs2.length = m ∧ l.drop i = cs2.flatMap flatC ∧ i ≤ l.length ∧ xs ++ toldA o1 cs2 = toldA none cs ∧ (∀ c ∈ cs2, okC c) ∧ xs.length + 2001 * m ≤ 40020 ∧ HoAt T (wo H' lt) h o1 ∧ OWF o1 ∧ H' lt = some (.lst (iV xs)) ∧ Ex H H') cs.length
    (fun H4 e4 => ⟨0, none, [], cs, none, none, rfl, rfl, hl, Nat.zero_le _, rfl, hok, by show 0 + _ ≤ _; omega, hI00.mono (wo_mono (e3.trans e4)), (fun s hs => by cases hs), e4 _ _ hlt, e13.trans e4⟩) ?_
  rintro m σ' H4 ⟨i, o1, xs, cs2, y4, y5, rfl, hm, hd, hi, ht, hok2, hx, hHo, hW, hlt4, eH⟩
  refine ⟨decide (i < l.length), et_is (et_test (ev_op (ev_var rfl) (hlen rfl eH) rv_I0)) (decide_eq_decide.mpr (by omega)), fun hb => ?_, fun hb => ?_⟩
  · have hlt2 : i < l.length := of_decide_eq_true hb
    obtain ⟨c, r, rfl⟩ : ∃ c r, cs2 = c :: r := by
      cases cs2 with
      | nil =>
        have h1 : (l.drop i).length = 0 := by rw [hd] <;> rfl
        rw [List.length_drop] at h1
        omega
      | cons c r => exact ⟨c, r, rfl⟩
    have hd2 : l.drop i = flatC c ++ r.flatMap flatC := by rw [hd, List.flatMap_cons]
    have hc := hok2 c (List.mem_cons_self ..)
    have hcl := flatC_le c hc
    have hSH := ex_l eH hS
    refine gq_asg (v := .int ((i + (flatC c).length : Nat) : Int)) (ev_callV (ea_cons (ev_var rfl) (ea_cons (ev_var rfl) ea_nil)) fun H5 e5 Q E k => ⟨a, l, i, c, r.flatMap flatC, rfl, ex_l e5 hSH, hd2, k⟩) ?_
    have hsl := el_sl (K := K) (te := tVar 0) (tl := tPart (tVar 3)) (th := tPart (tVar 4)) (σ := [some (.ref a), some (.ref h), some (.ref lt), some (.int (i : Nat)), some (.int ((i + (flatC c).length : Nat) : Int)), y5]) (ev_var rfl) (eo_some (ev_var rfl)) (eo_some (ev_var rfl)) hSH
    rw [cut_mid i (flatC c).length (flatC c) _ hd2 rfl hi] at hsl
    refine gq_raw fun H5 e5 => call_raw (ev_var (i := 1) rfl H5 e5 _ fun H6 e6 => hsl H6 (e5.trans e6) _ fun lb H7 hlb e7 hlb7 => ?_)
    have e47 := (e5.trans e6).trans e7
    refine ⟨h, lb, lt, o1, c, _, rfl, hlb7, hc, e47 _ _ hlt4, hHo.mono (wo_mono e47), hW, fun pp H8 hpp hHo8 fr hpp8 => ?_⟩
    have eH8 : Ex H H8 := fun x ob hx' => fr x ob (e47 _ _ (eH _ _ hx')) (fun z => by
      rw [z, hhH] at hx'
      cases hx')
    have hlt8 : H8 lt = some (.lst (iV xs)) := fr _ _ (e47 _ _ hlt4) hne
    have hsl2 := stepA_len (o := o1) (c := c) hW
    have hm2 : r.length + 1 = m := hm
    refine (gq_app (v := .int ((stepA o1 c).length : Nat)) hlt8 (ev_var rfl) (ev_is (ev_lenS (ev_var rfl) hpp8) (by rw [List.length_map])) (by rw [List.length_map]; omega) fun H9 e9 => ?_ : Go _ _ _ H8) H8 (Ex.refl _)
    have hppne : pp ≠ lt := fun z => by
      rw [z, e47 _ _ hlt4] at hpp
      cases hpp
    have hlt9 : (upd H9 lt (.lst (iV xs ++ [.int ((stepA o1 c).length : Nat)]))) lt = some (.lst (iV xs ++ [.int ((stepA o1 c).length : Nat)])) := upd_same
    have hpp9 : (upd H9 lt (.lst (iV xs ++ [.int ((stepA o1 c).length : Nat)]))) pp = some (.lst (iV (stepA o1 c))) := by
      rw [upd_ne hppne]
      exact e9 _ _ hpp8
    refine (go_of_ext (go_extR hlt9 (ev_var rfl) (Ev.r (v := .ref pp) (ev_var rfl)) fun v H10 H11 e10 e11 hv => ⟨pp, iV (stepA o1 c), hv, e11 _ _ (e10 _ _ hpp9), ?_, ?_⟩))
    · rw [List.length_append, List.length_map, List.length_map]
      show _ + 1 + _ ≤ _
      omega
    refine go_asg (v := .int ((i + (flatC c).length : Nat) : Int)) (ev_var rfl) (fun H12 e12' => ?_) _ (Ex.refl _)
    have hA2 : HoAt T (wo (upd H11 lt (.lst (iV xs ++ [.int ((stepA o1 c).length : Nat)] ++ iV (stepA o1 c)))) lt) h (stepO o1 c) := by
      rw [wo_upd]
      refine HoAt.mono (wo_mono (e10.trans e11)) ?_
      rw [wo_upd]
      exact hHo8.mono (wo_mono e9)
    have eH11 : Ex H (upd H11 lt (.lst (iV xs ++ [.int ((stepA o1 c).length : Nat)] ++ iV (stepA o1 c)))) := Ex.mut ((Ex.mut (eH8.trans e9) hltH).trans (e10.trans e11)) hltH
    have exs : iV xs ++ [.int ((stepA o1 c).length : Nat)] ++ iV (stepA o1 c) = iV (xs ++ ((((stepA o1 c).length : Nat) : Int) :: stepA o1 c)) := by
      unfold iV
      rw [List.map_append, List.map_cons, List.append_assoc] <;> rfl
    refine ⟨r.length, by omega, i + (flatC c).length, stepO o1 c, xs ++ ((((stepA o1 c).length : Nat) : Int) :: stepA o1 c), r, _, _, rfl, rfl, ?_, ?_, ?_, fun c2 hc2 => hok2 c2 (List.mem_cons_of_mem _ hc2), ?_, hA2.mono (wo_mono e12'), stepO_wf hW, ?_, eH11.trans e12'⟩
    · rw [← List.drop_drop, hd2, List.drop_left']
      rfl
    · have : (l.drop i).length = (flatC c ++ r.flatMap flatC).length := by rw [hd2]
      rw [List.length_drop, List.length_append] at this
      omega
    · rw [← ht, List.append_assoc] <;> rfl
    · rw [List.length_append, List.length_cons]
      omega
    · rw [← exs]
      exact e12' _ _ upd_same
  · have hge : ¬ i < l.length := of_decide_eq_false hb
    have hnil : cs2 = [] := by
      cases cs2 with
      | nil => rfl
      | cons c r =>
        have h1 : (l.drop i).length = ((c :: r).flatMap flatC).length := by rw [hd]
        have h2 := flatC_len c
        rw [List.length_drop, List.flatMap_cons, List.length_append] at h1
        omega
    subst hnil
    have ht2 : xs = toldA none cs := by
      rw [← ht]
      exact (List.append_nil _).symm
    rw [ht2] at hlt4
    exact go_ret (ev_var rfl) fun H5 e5 => k H5 lt (e5 _ _ hlt4)
end
end LP
namespace LP
open VahypBase (Bytes isLetter isDigit)
open Vahypa (Pat Lst Word)
/-! # the mirror of the program against the Spec: pieces, goals, families -/
def toPat (q : MP) : Pat := ⟨q.f, q.x, q.h, (List.range (q.x.length + 1)).map fun k => if k = q.b then 1 else 0⟩
theorem range_ext {β : Type} (f : Nat → List β) {m : Nat} (h : ∀ i, m ≤ i → f i = []) : ∀ n, m ≤ n → (List.range n).flatMap f = (List.range m).flatMap f
  | 0, hn => by
    have : m = 0 := by omega
    rw [this]
  | n + 1, hn => by
    by_cases e : m = n + 1
    · rw [e]
    · rw [List.range_succ, List.flatMap_append, range_ext f h n (by omega)]
      simp [h n (by omega)]
theorem flat_congr {α β : Type} {f g : α → List β} : ∀ {l : List α}, (∀ x ∈ l, f x = g x) → l.flatMap f = l.flatMap g
  | [], _ => rfl
  | x :: l, h => by
    rw [List.flatMap_cons, List.flatMap_cons, h x (List.mem_cons_self ..), flat_congr fun y hy => h y (List.mem_cons_of_mem _ hy)]
theorem map_congr2 {α β : Type} {f g : α → β} {l : List α} (h : ∀ x ∈ l, f x = g x) : l.map f = l.map g := List.map_congr_left h
theorem piece_eq {x : Bytes} {o n g : Nat} {f h : Bool} (ho : o ≤ g) (hn : o + n ≤ x.length) : toPat ⟨(x.drop o).take n, g - o, f, h⟩ = Vahypc.piece x o n g f h := by
  have e : ((x.drop o).take n).length = n := by rw [List.length_take, List.length_drop]; omega
  unfold toPat Vahypc.piece
  simp only [e]
  congr 1
  refine map_congr2 fun k hk => ?_
  by_cases hk2 : k = g - o
  · rw [if_pos hk2, if_pos (by omega)]
  · rw [if_neg hk2, if_neg (by omega)]
theorem around_eq (x : Bytes) (g m : Nat) : Vahypc.piecesAt x m g = (aroundM x g m).map toPat := by
  unfold Vahypc.piecesAt aroundM
  rw [List.map_flatMap]
  refine flat_congr fun k hk => ?_
  show ((List.range (x.length + 1)).flatMap fun o => if o + (k + 1) ≤ x.length ∧ o ≤ g ∧ g ≤ o + (k + 1) then _ else []) = _
  unfold lengthM
  rw [List.map_flatMap, range_ext _ (m := x.length - k) (fun i hi => if_neg (by omega)) _ (by omega)]
  refine flat_congr fun o ho => ?_
  have ho2 := List.mem_range.mp ho
  unfold placeM
  by_cases hc : o ≤ g ∧ g ≤ o + (1 + k)
  · rw [if_pos hc, if_pos (by omega)]
    have pe : ∀ f h, toPat ⟨(x.drop o).take (1 + k), g - o, f, h⟩ = Vahypc.piece x o (k + 1) g f h := fun f h => by
      rw [Nat.add_comm 1 k]
      exact piece_eq hc.1 (by omega)
    unfold pointedM ptL
    by_cases h0 : o = 0
    · have b0 : (o == 0) = true := by rw [h0] <;> rfl
      by_cases h1 : o + (k + 1) = x.length
      · have b1 : (o + (1 + k) == x.length) = true := by rw [beq_iff_eq]; omega
        rw [if_pos h0, if_pos h1, if_pos ⟨h0, h1⟩, b0, b1]
        simp [pe]
      · have b1 : (o + (1 + k) == x.length) = false := by rw [beq_eq_false_iff_ne]; omega
        rw [if_pos h0, if_neg h1, if_neg (fun z => h1 z.2), b0, b1]
        simp [pe]
    · have b0 : (o == 0) = false := by rw [beq_eq_false_iff_ne]; exact h0
      by_cases h1 : o + (k + 1) = x.length
      · have b1 : (o + (1 + k) == x.length) = true := by rw [beq_iff_eq]; omega
        rw [if_neg h0, if_pos h1, if_neg (fun z => h0 z.1), b0, b1]
        simp [pe]
      · have b1 : (o + (1 + k) == x.length) = false := by rw [beq_eq_false_iff_ne]; omega
        rw [if_neg h0, if_neg h1, if_neg (fun z => h0 z.1), b0, b1]
        simp [pe]
  · rw [if_neg hc, if_neg (by omega)]
    rfl
theorem goals_eq {s : Lst} (W : WF s) : goalsM s = Vahypc.goals s := by
  unfold goalsM Vahypc.goals
  refine flat_congr fun wi hwi => ?_
  have hw : wi.1 ∈ s.words := by
    have := List.mem_of_getElem? (List.mem_zipIdx_iff_getElem?.mp hwi)
    exact this
  unfold gOf
  congr 1
  refine List.filter_congr fun g hg => ?_
  obtain ⟨h1, h2⟩ := W.cuts wi.1 hw g hg
  unfold inM Vahypa.within
  rw [Bool.eq_iff_iff]
  simp only [Bool.and_eq_true, decide_eq_true_eq]
  omega
/-! ## where a piece parts -/
theorem getD_range {n k : Nat} (f : Nat → Nat) : (((List.range n).map f)[k]?).getD 0 = if k < n then f k else 0 := by
  rw [List.getElem?_map]
  by_cases h : k < n
  · rw [List.getElem?_range h, if_pos h] <;> rfl
  · rw [List.getElem?_eq_none (by rw [List.length_range]; omega), if_neg h] <;> rfl
theorem tells_eq {q : MP} (hb : q.b ≤ q.x.length) (x : Bytes) (o g : Nat) : Vahypa.tells (toPat q) x o g = if (Vahypa.fitsAt (toPat q) x o = true ∧ o + q.b = g) then 1 else 0 := by
  unfold Vahypa.tells
  show (if Vahypa.fitsAt (toPat q) x o = true ∧ o ≤ g then (((List.range (q.x.length + 1)).map fun k => if k = q.b then 1 else 0)[g - o]?).getD 0 else 0) = _
  by_cases h1 : Vahypa.fitsAt (toPat q) x o = true
  · by_cases h2 : o ≤ g
    · have e1 : (if Vahypa.fitsAt (toPat q) x o = true ∧ o ≤ g then (((List.range (q.x.length + 1)).map fun k => if k = q.b then 1 else 0)[g - o]?).getD 0 else 0) = _ := if_pos ⟨h1, h2⟩
      rw [e1, getD_range]
      by_cases h3 : o + q.b = g
      · have e2 : (if Vahypa.fitsAt (toPat q) x o = true ∧ o + q.b = g then 1 else 0) = 1 := if_pos ⟨h1, h3⟩
        rw [e2, if_pos (by omega), if_pos (by omega)]
      · have e2 : (if Vahypa.fitsAt (toPat q) x o = true ∧ o + q.b = g then 1 else 0) = 0 := if_neg (fun z => h3 z.2)
        rw [e2]
        by_cases h4 : g - o < q.x.length + 1
        · rw [if_pos h4, if_neg (by omega)]
        · rw [if_neg h4]
    · rw [if_neg (fun z => h2 z.2), if_neg (fun z => h2 (by omega))]
  · rw [if_neg (fun z => h1 z.1), if_neg (fun z => h1 z.1)]
theorem fold_max_le {l : List Nat} {f : Nat → Nat} {b : Nat} (hf : ∀ o ∈ l, f o ≤ b) : ∀ m, m ≤ b → l.foldl (fun m o => Nat.max m (f o)) m ≤ b := by
  induction l with
  | nil => intro m hm; exact hm
  | cons o l ih =>
    intro m hm
    exact ih (fun x hx => hf x (List.mem_cons_of_mem _ hx)) _ (Nat.max_le.mpr ⟨hm, hf o (List.mem_cons_self ..)⟩)
theorem fold_max_ge {l : List Nat} {f : Nat → Nat} : ∀ m, m ≤ l.foldl (fun m o => Nat.max m (f o)) m ∧ ∀ o ∈ l, f o ≤ l.foldl (fun m o => Nat.max m (f o)) m := by
  induction l with
  | nil => intro m; exact ⟨Nat.le_refl _, fun o h => by cases h⟩
  | cons o l ih =>
    intro m
    obtain ⟨h1, h2⟩ := ih (Nat.max m (f o))
    refine ⟨Nat.le_trans (Nat.le_max_left _ _) h1, fun x hx => ?_⟩
    rcases List.mem_cons.mp hx with e | hx
    · rw [e]
      exact Nat.le_trans (Nat.le_max_right _ _) h1
    · exact h2 x hx
theorem fold_max_zero {l : List Nat} {f : Nat → Nat} (h : ∀ o ∈ l, f o = 0) : l.foldl (fun m o => Nat.max m (f o)) 0 = 0 :=
  Nat.le_zero.mp (fold_max_le (b := 0) (fun o ho => Nat.le_of_eq (h o ho)) 0 (Nat.le_refl _))
theorem level_odd {q : MP} (hb : q.b ≤ q.x.length) (x : Bytes) (g : Nat) : (Vahypa.levelAt [toPat q] x g % 2 == 1) = true ↔ ∃ o, o ≤ x.length ∧ Vahypa.fitsAt (toPat q) x o = true ∧ o + q.b = g := by
  have e : Vahypa.levelAt [toPat q] x g = (List.range (x.length + 1)).foldl (fun m o => Nat.max m (Vahypa.tells (toPat q) x o g)) 0 := rfl
  rw [e]
  constructor
  · intro h
    apply Classical.byContradiction
    intro hn
    have h0 : ∀ o ∈ List.range (x.length + 1), Vahypa.tells (toPat q) x o g = 0 := fun o ho => by
      rw [tells_eq hb]
      refine if_neg fun z => hn ⟨o, ?_, z.1, z.2⟩
      have := List.mem_range.mp ho
      omega
    rw [fold_max_zero h0] at h
    cases h
  · rintro ⟨o, ho, h1, h2⟩
    have hle := fold_max_le (l := List.range (x.length + 1)) (f := fun o => Vahypa.tells (toPat q) x o g) (b := 1) (fun o _ => by
      show Vahypa.tells (toPat q) x o g ≤ 1
      rw [tells_eq hb]
      split <;> omega) 0 (by omega)
    have hge := (fold_max_ge (l := List.range (x.length + 1)) (f := fun o => Vahypa.tells (toPat q) x o g) 0).2 o (List.mem_range.mpr (by omega))
    have h3 : Vahypa.tells (toPat q) x o g = 1 := by rw [tells_eq hb, if_pos ⟨h1, h2⟩]
    have h4 : (List.range (x.length + 1)).foldl (fun m o => Nat.max m (Vahypa.tells (toPat q) x o g)) 0 = 1 := by
      have : Vahypa.tells (toPat q) x o g ≤ _ := hge
      omega
    rw [h4] <;> rfl
theorem fits_eq (q : MP) (x : Bytes) (o : Nat) : Vahypa.fitsAt (toPat q) x o = (decide (o + q.x.length ≤ x.length) && fitsM q x o) := rfl
theorem parts_mem {s : Lst} {q : MP} (hb : q.b ≤ q.x.length) (x : Bytes) (g : Nat) : g ∈ Vahypa.partsBy s [toPat q] x ↔ g ∈ partM s.l s.r q x := by
  unfold Vahypa.partsBy partM
  rw [List.mem_filter, List.mem_map, Bool.and_eq_true, level_odd hb]
  unfold Vahypa.gaps Vahypa.within
  rw [List.mem_map]
  constructor
  · rintro ⟨⟨k, hk, rfl⟩, ⟨o, ho, h1, h2⟩, h3⟩
    have hk2 := List.mem_range.mp hk
    rw [fits_eq, Bool.and_eq_true, decide_eq_true_eq] at h1
    rw [decide_eq_true_eq] at h3
    refine ⟨o, List.mem_filter.mpr ⟨List.mem_range.mpr (by omega), ?_⟩, h2⟩
    unfold okM inM
    simp only [Bool.and_eq_true, decide_eq_true_eq]
    exact ⟨h1.2, by omega, by omega, by omega, by omega⟩
  · rintro ⟨o, ho, rfl⟩
    obtain ⟨h1, h2⟩ := List.mem_filter.mp ho
    have h1 := List.mem_range.mp h1
    unfold okM inM at h2
    simp only [Bool.and_eq_true, decide_eq_true_eq] at h2
    obtain ⟨h3, h4, h5, h6, h7⟩ := h2
    refine ⟨⟨o + q.b - 1, List.mem_range.mpr (by omega), by omega⟩, ⟨o, by omega, ?_, rfl⟩, by rw [decide_eq_true_eq]; omega⟩
    rw [fits_eq, Bool.and_eq_true, decide_eq_true_eq]
    exact ⟨by omega, h3⟩
theorem contains_iff {l l' : List Nat} {g : Nat} (h : g ∈ l ↔ g ∈ l') : l.contains g = l'.contains g := by
  rw [Bool.eq_iff_iff, List.contains_iff_mem, List.contains_iff_mem]
  exact h
theorem all_mem {l l' : List Nat} (f : Nat → Bool) (h : ∀ g, g ∈ l ↔ g ∈ l') : l.all f = l'.all f := by
  rw [Bool.eq_iff_iff, List.all_eq_true, List.all_eq_true]
  exact ⟨fun z g hg => z g ((h g).mpr hg), fun z g hg => z g ((h g).mp hg)⟩
theorem good_eq {s : Lst} {q : MP} (hb : q.b ≤ q.x.length) : goodM s q = Vahypc.good s (toPat q) := by
  unfold goodM Vahypc.good
  congr 1
  funext w
  exact (all_mem _ fun g => parts_mem hb w.x g).symm
theorem wordM_eq (s : Lst) (i : Nat) : wordM s i = Vahypc.wordAt s i := rfl
theorem parts1_eq {s : Lst} {q : MP} (hb : q.b ≤ q.x.length) (g : Vahypc.Goal) : Vahypc.parts1 s (toPat q) g = (partM s.l s.r q (wordM s g.w)).contains g.g := contains_iff (parts_mem hb _ _)
/-! ## pieces that are told by their text -/
structure VP (q : MP) : Prop where
  le : q.b ≤ q.x.length
  lets : ∀ c ∈ q.x, isLetter c = true
theorem let_ne {c : UInt8} (h : isLetter c = true) : c ≠ 46 ∧ c ≠ 49 := by
  constructor <;> intro z <;> rw [z] at h <;> exact absurd h (by decide)
theorem toPat_inj {q q' : MP} (h : VP q) (h' : VP q') (e : toPat q = toPat q') : q = q' := by
  injection e with e1 e2 e3 e4
  have hx : q.x.length = q'.x.length := by rw [e2]
  have hb : q.b = q'.b := by
    have h1 : (((List.range (q.x.length + 1)).map fun k => if k = q.b then 1 else 0)[q.b]?).getD 0 = 1 := by
      have := h.le
      rw [getD_range, if_pos (by omega), if_pos rfl]
    rw [e4, getD_range] at h1
    split at h1
    · split at h1
      · rename_i z
        exact z
      · cases h1
    · cases h1
  cases q
  cases q'
  simp only at e1 e2 e3 hb
  subst e1 e2 e3 hb
  rfl
theorem split49 : ∀ {a b c d : Bytes}, (49 : UInt8) ∉ a → (49 : UInt8) ∉ c → a ++ 49 :: b = c ++ 49 :: d → a = c ∧ b = d
  | [], b, [], d, _, _, e => by
    injection e with _ e
    exact ⟨rfl, e⟩
  | [], b, y :: c, d, _, hc, e => by
    injection e with e1 _
    exact absurd (by rw [e1]; exact List.mem_cons_self ..) hc
  | y :: a, b, [], d, ha, _, e => by
    injection e with e1 _
    exact absurd (by rw [← e1]; exact List.mem_cons_self ..) ha
  | y :: a, b, z :: c, d, ha, hc, e => by
    injection e with e1 e2
    obtain ⟨h1, h2⟩ := split49 (fun z => ha (List.mem_cons_of_mem _ z)) (fun z => hc (List.mem_cons_of_mem _ z)) e2
    exact ⟨by rw [e1, h1], h2⟩
theorem front_eq {f f' : Bool} {a b : Bytes} (ha : (46 : UInt8) ∉ a) (hb : (46 : UInt8) ∉ b) (e : ptB f ++ a = ptB f' ++ b) : f = f' ∧ a = b := by
  cases f <;> cases f'
  · exact ⟨rfl, e⟩
  · exfalso
    have e : a = 46 :: b := e
    exact ha (by rw [e]; exact List.mem_cons_self ..)
  · exfalso
    have e : 46 :: a = b := e
    exact hb (by rw [← e]; exact List.mem_cons_self ..)
  · have e : 46 :: a = 46 :: b := e
    injection e with _ e
    exact ⟨rfl, e⟩
theorem back_eq {f f' : Bool} {a b : Bytes} (ha : (46 : UInt8) ∉ a) (hb : (46 : UInt8) ∉ b) (e : a ++ ptB f = b ++ ptB f') : f = f' ∧ a = b := by
  cases f <;> cases f'
  · refine ⟨rfl, ?_⟩
    have e : a ++ [] = b ++ [] := e
    rwa [List.append_nil, List.append_nil] at e
  · exfalso
    have e : a ++ [] = b ++ [46] := e
    rw [List.append_nil] at e
    exact ha (by rw [e]; exact List.mem_append_right _ (List.mem_cons_self ..))
  · exfalso
    have e : a ++ [46] = b ++ [] := e
    rw [List.append_nil] at e
    exact hb (by rw [← e]; exact List.mem_append_right _ (List.mem_cons_self ..))
  · exact ⟨rfl, (List.append_inj' e rfl).1⟩
theorem showM_inj {q q' : MP} (h : VP q) (h' : VP q') (e : showM q = showM q') : q = q' := by
  have n49 : ∀ {q : MP}, VP q → (49 : UInt8) ∉ q.x.take q.b := fun h z => (let_ne (h.lets _ (List.mem_of_mem_take z))).2 rfl
  have n46 : ∀ {q : MP}, VP q → (46 : UInt8) ∉ q.x.take q.b ∧ (46 : UInt8) ∉ q.x.drop q.b := fun h => ⟨fun z => (let_ne (h.lets _ (List.mem_of_mem_take z))).1 rfl, fun z => (let_ne (h.lets _ (List.mem_of_mem_drop z))).1 rfl⟩
  have p49 : ∀ (f : Bool), (49 : UInt8) ∉ ptB f := fun f => by cases f <;> decide
  unfold showM at e
  have e1 : (ptB q.f ++ q.x.take q.b) ++ 49 :: (q.x.drop q.b ++ ptB q.h) = (ptB q'.f ++ q'.x.take q'.b) ++ 49 :: (q'.x.drop q'.b ++ ptB q'.h) := by
    simpa using e
  obtain ⟨e2, e3⟩ := split49 (fun z => (List.mem_append.mp z).elim (p49 _) (n49 h)) (fun z => (List.mem_append.mp z).elim (p49 _) (n49 h')) e1
  obtain ⟨f1, t1⟩ := front_eq (n46 h).1 (n46 h').1 e2
  obtain ⟨f2, t2⟩ := back_eq (n46 h).2 (n46 h').2 e3
  have hx : q.x = q'.x := by rw [← List.take_append_drop q.b q.x, ← List.take_append_drop q'.b q'.x, t1, t2]
  have hb : q.b = q'.b := by
    have h1 := congrArg List.length t1
    have := h.le
    have := h'.le
    rw [List.length_take, List.length_take] at h1
    omega
  cases q
  cases q'
  simp only at f1 f2 hx hb
  subst f1 f2 hx hb
  rfl
theorem around_vp {x : Bytes} {g m : Nat} (hx : ∀ c ∈ x, isLetter c = true) {q : MP} (hq : q ∈ aroundM x g m) : VP q := by
  unfold aroundM at hq
  obtain ⟨k, _, h2⟩ := List.mem_flatMap.mp hq
  unfold lengthM at h2
  obtain ⟨o, ho, h3⟩ := List.mem_flatMap.mp h2
  have ho := List.mem_range.mp ho
  unfold placeM at h3
  split at h3
  · rename_i hc
    unfold pointedM at h3
    obtain ⟨h, _, h4⟩ := List.mem_flatMap.mp h3
    obtain ⟨f, _, rfl⟩ := List.mem_map.mp h4
    refine ⟨?_, fun c hc => hx c (List.mem_of_mem_drop (List.mem_of_mem_take hc))⟩
    show g - o ≤ ((x.drop o).take (1 + k)).length
    rw [List.length_take, List.length_drop]
    omega
  · cases h3
theorem word_lets {s : Lst} (W : WF s) (i : Nat) : ∀ c ∈ wordM s i, isLetter c = true := by
  unfold wordM
  cases h : s.words[i]? with
  | none => intro c hc; cases hc
  | some w => exact W.lets w (List.mem_of_getElem? h)
/-! ## the family -/
theorem fam_fold (s : Lst) : ∀ (l D : List MP), (∀ q ∈ l, VP q) → (∀ q ∈ D, VP q) →
    ∃ D' : List MP, (∀ q ∈ D', VP q) ∧ l.foldl (stepM s) (D.map showM, D.filter (goodM s)) = (D'.map showM, D'.filter (goodM s)) ∧ (l.map toPat).foldl Vahypc.putNew (D.map toPat) = D'.map toPat
  | [], D, _, hD => ⟨D, hD, rfl, rfl⟩
  | q :: l, D, hl, hD => by
    have hq := hl q (List.mem_cons_self ..)
    have hl2 := fun y (hy : y ∈ l) => hl y (List.mem_cons_of_mem _ hy)
    by_cases hm : q ∈ D
    · obtain ⟨D', h1, h2, h3⟩ := fam_fold s l D hl2 hD
      refine ⟨D', h1, ?_, ?_⟩
      · rw [List.foldl_cons]
        have e : stepM s (D.map showM, D.filter (goodM s)) q = (D.map showM, D.filter (goodM s)) := if_pos (List.contains_iff_mem.mpr (List.mem_map_of_mem hm))
        rw [e]
        exact h2
      · rw [List.map_cons, List.foldl_cons]
        have e : Vahypc.putNew (D.map toPat) (toPat q) = D.map toPat := if_pos (List.contains_iff_mem.mpr (List.mem_map_of_mem hm))
        rw [e]
        exact h3
    · obtain ⟨D', h1, h2, h3⟩ := fam_fold s l (D ++ [q]) hl2 (fun y hy => (List.mem_append.mp hy).elim (hD y) fun z => by rw [List.mem_singleton.mp z]; exact hq)
      refine ⟨D', h1, ?_, ?_⟩
      · rw [List.foldl_cons]
        have e : stepM s (D.map showM, D.filter (goodM s)) q = ((D ++ [q]).map showM, (D ++ [q]).filter (goodM s)) := by
          have hn : ¬ (D.map showM).contains (showM q) = true := fun z => by
            obtain ⟨y, hy, ey⟩ := List.mem_map.mp (List.contains_iff_mem.mp z)
            rw [showM_inj (hD y hy) hq ey] at hy
            exact hm hy
          refine (if_neg hn).trans ?_
          rw [List.map_append, List.filter_append, List.map_singleton]
          congr 1
          show (if goodM s q = true then _ else _) = _
          split
          · rename_i hg
            rw [List.filter_cons, if_pos hg] <;> rfl
          · rename_i hg
            rw [List.filter_cons, if_neg hg]
            simp
        rw [e]
        exact h2
      · rw [List.map_cons, List.foldl_cons]
        have e : Vahypc.putNew (D.map toPat) (toPat q) = (D ++ [q]).map toPat := by
          have hn : ¬ (D.map toPat).contains (toPat q) = true := fun z => by
            obtain ⟨y, hy, ey⟩ := List.mem_map.mp (List.contains_iff_mem.mp z)
            rw [toPat_inj (hD y hy) hq ey] at hy
            exact hm hy
          refine (if_neg hn).trans ?_
          rw [List.map_append, List.map_singleton]
        rw [e]
        exact h3
theorem family_eq {s : Lst} (W : WF s) (m : Nat) : Vahypc.family s m = (famM s m).map toPat ∧ ∀ q ∈ famM s m, VP q := by
  have hv : ∀ q ∈ (goalsM s).flatMap (goalPs s m), VP q := fun q hq => by
    obtain ⟨g, _, h⟩ := List.mem_flatMap.mp hq
    exact around_vp (word_lets W _) h
  obtain ⟨D, h1, h2, h3⟩ := fam_fold s _ [] hv (fun q hq => by cases hq)
  have e1 : famM s m = D.filter (goodM s) := by
    unfold famM famS
    exact congrArg Prod.snd h2
  have e2 : ((Vahypc.goals s).flatMap fun x => Vahypc.piecesAt (Vahypc.wordAt s x.w) m x.g) = ((goalsM s).flatMap (goalPs s m)).map toPat := by
    rw [← goals_eq W, List.map_flatMap]
    exact flat_congr fun g _ => around_eq _ _ _
  refine ⟨?_, fun q hq => ?_⟩
  · unfold Vahypc.family
    rw [e2]
    have h3 : (((goalsM s).flatMap (goalPs s m)).map toPat).foldl Vahypc.putNew [] = D.map toPat := h3
    rw [h3, e1, List.filter_map]
    congr 1
    refine List.filter_congr fun q hq => ?_
    exact (good_eq (h1 q hq).le).symm
  · rw [e1] at hq
    exact h1 q (List.mem_filter.mp hq).1
end LP
namespace LP
open VahypBase (Bytes isLetter isDigit)
open Vahypa (Pat Lst Word)
/-! # covers as numbers -/
theorem bit_eq (m k : Nat) : Vahypc.hasBit m k = m.testBit k := by
  unfold Vahypc.hasBit
  rw [Nat.testBit_eq_decide_div_mod_eq, Bool.eq_iff_iff, beq_iff_eq, decide_eq_true_eq]
theorem bitM_eq (m k : Nat) : bitM m k = m.testBit k := bit_eq m k
theorem mask_shift (f : Vahypc.Goal → Bool) : ∀ (l : List Vahypc.Goal) (j : Nat), Vahypc.maskBy f j l = 2 ^ j * Vahypc.maskBy f 0 l
  | [], j => rfl
  | x :: r, j => by
    show (if f x = true then 2 ^ j else 0) + Vahypc.maskBy f (j + 1) r = 2 ^ j * ((if f x = true then 2 ^ 0 else 0) + Vahypc.maskBy f (0 + 1) r)
    rw [mask_shift f r (j + 1), mask_shift f r (0 + 1), Nat.mul_add, Nat.pow_succ, Nat.zero_add, Nat.pow_one, Nat.mul_assoc]
    congr 1
    split <;> simp
theorem mask_bit (f : Vahypc.Goal → Bool) : ∀ (l : List Vahypc.Goal) (k : Nat), (Vahypc.maskBy f 0 l).testBit k = ((l[k]?).map f).getD false
  | [], k => by
    show (0 : Nat).testBit k = _
    rw [Nat.zero_testBit] <;> rfl
  | x :: r, k => by
    have e : Vahypc.maskBy f 0 (x :: r) = 2 * Vahypc.maskBy f 0 r + (f x).toNat := by
      show (if f x = true then 2 ^ 0 else 0) + Vahypc.maskBy f (0 + 1) r = _
      rw [mask_shift f r (0 + 1), Nat.add_comm]
      congr 1
      cases f x <;> rfl
    rw [e]
    cases k with
    | zero =>
      rw [Nat.testBit_zero]
      show decide ((2 * Vahypc.maskBy f 0 r + (f x).toNat) % 2 = 1) = f x
      cases f x <;> simp [Nat.mul_add_mod]
    | succ k =>
      rw [Nat.testBit_succ]
      have : (2 * Vahypc.maskBy f 0 r + (f x).toNat) / 2 = Vahypc.maskBy f 0 r := by
        cases f x <;> simp <;> omega
      rw [this, mask_bit f r k] <;> rfl
theorem bitsM_or : ∀ (l : List Nat) (b k : Nat), (l.foldl (fun b g => b ||| 2 ^ g) b).testBit k = (b.testBit k || l.contains k)
  | [], b, k => by simp
  | g :: l, b, k => by
    rw [List.foldl_cons, bitsM_or l, Nat.testBit_or, Nat.testBit_two_pow, List.contains_cons, Bool.or_assoc]
    congr 2
    rw [Bool.eq_iff_iff, decide_eq_true_eq, beq_iff_eq]
    exact eq_comm
theorem bitsM_bit (l : List Nat) (k : Nat) : (bitsM l).testBit k = l.contains k := by
  unfold bitsM
  rw [bitsM_or, Nat.zero_testBit, Bool.false_or]
/-- a cover: some goals below n, in order -/
def Cov (n : Nat) (l : List Nat) : Prop := ∃ f, l = (List.range n).filter f
theorem cov_contains {n : Nat} {f : Nat → Bool} (k : Nat) : ((List.range n).filter f).contains k = (decide (k < n) && f k) := by
  rw [Bool.eq_iff_iff, List.contains_iff_mem, List.mem_filter, List.mem_range, Bool.and_eq_true, decide_eq_true_eq]
theorem Cov.ext {n : Nat} {l l' : List Nat} (h : Cov n l) (h' : Cov n l') (e : ∀ k, l.contains k = l'.contains k) : l = l' := by
  obtain ⟨f, rfl⟩ := h
  obtain ⟨g, rfl⟩ := h'
  refine List.filter_congr fun k hk => ?_
  have := e k
  rw [cov_contains, cov_contains, decide_eq_true (List.mem_range.mp hk)] at this
  exact this
theorem Cov.inj {n : Nat} {l l' : List Nat} (h : Cov n l) (h' : Cov n l') (e : bitsM l = bitsM l') : l = l' := h.ext h' fun k => by
  rw [← bitsM_bit, ← bitsM_bit, e]
theorem Cov.lt {n : Nat} {l : List Nat} (h : Cov n l) : ∀ k ∈ l, k < n := by
  obtain ⟨f, rfl⟩ := h
  exact fun k hk => List.mem_range.mp (List.mem_filter.mp hk).1
theorem cov_covM (s : Lst) (gs : List Vahypc.Goal) (q : MP) : Cov gs.length (covM s gs q) := ⟨_, rfl⟩
theorem covM_has {s : Lst} {q : MP} (hb : q.b ≤ q.x.length) (gs : List Vahypc.Goal) (k : Nat) : (covM s gs q).contains k = ((gs[k]?).map (Vahypc.parts1 s (toPat q))).getD false := by
  unfold covM
  rw [cov_contains]
  unfold covB
  by_cases h : k < gs.length
  · rw [decide_eq_true h, List.getElem?_eq_getElem h, Bool.true_and]
    show _ = Vahypc.parts1 s (toPat q) gs[k]
    rw [parts1_eq hb]
  · rw [decide_eq_false h, List.getElem?_eq_none (by omega)] <;> rfl
theorem covers_eq {s : Lst} (W : WF s) {q : MP} (hb : q.b ≤ q.x.length) : Vahypc.covers s (toPat q) = bitsM (covM s (goalsM s) q) := by
  refine Nat.eq_of_testBit_eq fun k => ?_
  unfold Vahypc.covers
  rw [mask_bit, bitsM_bit, covM_has hb, goals_eq W]
theorem bitsM_lt2 {n : Nat} {l : List Nat} (h : ∀ k ∈ l, k < n) : bitsM l < 2 ^ n := by
  refine Nat.lt_pow_two_of_testBit _ fun i hi => ?_
  rw [bitsM_bit]
  cases e : l.contains i with
  | false => rfl
  | true =>
    have := h i (List.contains_iff_mem.mp e)
    omega
theorem join_bit : ∀ (n a b k : Nat), (Vahypc.joinBy n a b).testBit k = (decide (k < n) && (a.testBit k || b.testBit k))
  | 0, a, b, k => by
    show (0 : Nat).testBit k = _
    rw [Nat.zero_testBit, decide_eq_false (by omega)] <;> rfl
  | n + 1, a, b, k => by
    have e : Vahypc.joinBy (n + 1) a b = 2 * Vahypc.joinBy n (a / 2) (b / 2) + (decide (a % 2 = 1 ∨ b % 2 = 1)).toNat := by
      show (if a % 2 = 1 ∨ b % 2 = 1 then 1 else 0) + 2 * Vahypc.joinBy n (a / 2) (b / 2) = _
      rw [Nat.add_comm]
      congr 1
      by_cases h : a % 2 = 1 ∨ b % 2 = 1
      · rw [if_pos h, decide_eq_true h] <;> rfl
      · rw [if_neg h, decide_eq_false h] <;> rfl
    rw [e]
    cases k with
    | zero =>
      rw [Nat.testBit_zero, Nat.testBit_zero, Nat.testBit_zero, decide_eq_true (Nat.succ_pos n), Bool.true_and]
      by_cases h : a % 2 = 1 ∨ b % 2 = 1
      · rw [decide_eq_true h]
        have h2 : (decide (a % 2 = 1) || decide (b % 2 = 1)) = true := by simpa using h
        rw [h2]
        show decide ((2 * Vahypc.joinBy n (a / 2) (b / 2) + 1) % 2 = 1) = true
        rw [decide_eq_true_eq]
        omega
      · rw [decide_eq_false h]
        have h2 : (decide (a % 2 = 1) || decide (b % 2 = 1)) = false := by
          rw [Bool.eq_false_iff]
          intro z
          exact h (by simpa using z)
        rw [h2]
        show decide ((2 * Vahypc.joinBy n (a / 2) (b / 2) + 0) % 2 = 1) = false
        rw [decide_eq_false_iff_not]
        omega
    | succ k =>
      rw [Nat.testBit_succ, Nat.testBit_succ, Nat.testBit_succ]
      have : (2 * Vahypc.joinBy n (a / 2) (b / 2) + (decide (a % 2 = 1 ∨ b % 2 = 1)).toNat) / 2 = Vahypc.joinBy n (a / 2) (b / 2) := by
        cases decide (a % 2 = 1 ∨ b % 2 = 1)
        · show (2 * _ + 0) / 2 = _
          omega
        · show (2 * _ + 1) / 2 = _
          omega
      rw [this, join_bit n]
      congr 1
      rw [Bool.eq_iff_iff, decide_eq_true_eq, decide_eq_true_eq]
      omega
theorem join_eq {n a b : Nat} (hn : n ≤ 9) (ha : a < 2 ^ n) (hb : b < 2 ^ n) : Vahypc.join a b = a ||| b := by
  refine Nat.eq_of_testBit_eq fun k => ?_
  unfold Vahypc.join Vahypc.COUNT
  rw [join_bit, Nat.testBit_or]
  by_cases h : k < 9 + 1
  · rw [decide_eq_true h, Bool.true_and]
  · rw [decide_eq_false h, Bool.false_and]
    have hp : 2 ^ n ≤ 2 ^ k := Nat.pow_le_pow_right (by omega) (by omega)
    rw [Nat.testBit_lt_two_pow (Nat.lt_of_lt_of_le ha hp), Nat.testBit_lt_two_pow (Nat.lt_of_lt_of_le hb hp)] <;> rfl
/-! # the text of a piece -/
theorem show_go (b : Nat) : ∀ (x : Bytes) (j : Nat), j ≤ b → b ≤ j + x.length → ((x.zipIdx j).flatMap fun c => (if c.2 = b then [49] else []) ++ [c.1]) ++ (if j + x.length = b then [49] else []) = x.take (b - j) ++ [49] ++ x.drop (b - j)
  | [], j, h1, h2 => by
    have h2 : b ≤ j := h2
    have e : b = j := by omega
    rw [e]
    simp
  | c :: x, j, h1, h2 => by
    have h2 : b ≤ j + (x.length + 1) := h2
    rw [List.zipIdx_cons, List.flatMap_cons, List.length_cons]
    by_cases e : j = b
    · subst e
      have h0 : ((x.zipIdx (j + 1)).flatMap fun c => (if c.2 = j then [49] else []) ++ [c.1]) = x := by
        have : ∀ (x : Bytes) (i : Nat), j < i → ((x.zipIdx i).flatMap fun c => (if c.2 = j then [49] else []) ++ [c.1]) = x := by
          intro x
          induction x with
          | nil => intro i _; rfl
          | cons c x ih =>
            intro i hi
            rw [List.zipIdx_cons, List.flatMap_cons, ih (i + 1) (by omega)]
            show (if i = j then [49] else []) ++ [c] ++ x = _
            rw [if_neg (by omega)] <;> rfl
        exact this x (j + 1) (by omega)
      rw [h0, Nat.sub_self]
      show (if j = j then [49] else []) ++ [c] ++ x ++ (if j + (x.length + 1) = j then [49] else []) = _
      rw [if_pos rfl, if_neg (by omega)]
      simp
    · have ih := show_go b x (j + 1) (by omega) (by omega)
      have e1 : b - j = (b - (j + 1)) + 1 := by omega
      rw [e1, List.take_succ_cons, List.drop_succ_cons]
      show ((if j = b then [49] else []) ++ [c] ++ _) ++ _ = _
      rw [if_neg e, show j + (x.length + 1) = j + 1 + x.length by omega, List.append_assoc, ih] <;> rfl
theorem show_eq {q : MP} (hb : q.b ≤ q.x.length) : Vahypa.showPat (toPat q) = showM q := by
  have hd : ∀ k, k ≤ q.x.length → Vahypa.digit ((toPat q).levels[k]?.getD 0) = if k = q.b then [49] else [] := fun k hk => by
    show Vahypa.digit ((((List.range (q.x.length + 1)).map fun k => if k = q.b then 1 else 0)[k]?).getD 0) = _
    rw [getD_range, if_pos (by omega)]
    split
    · decide
    · decide
  have h1 := show_go q.b q.x 0 (Nat.zero_le _) (by omega)
  rw [Nat.zero_add, Nat.sub_zero] at h1
  unfold Vahypa.showPat showM
  show (if q.f = true then [46] else []) ++ (q.x.zipIdx.flatMap (fun c => Vahypa.digit ((toPat q).levels[c.2]?.getD 0) ++ [c.1]) ++ (Vahypa.digit ((toPat q).levels[q.x.length]?.getD 0) ++ (if q.h = true then [46] else []))) = _
  rw [hd _ (Nat.le_refl _)]
  have e : (q.x.zipIdx.flatMap fun c => Vahypa.digit ((toPat q).levels[c.2]?.getD 0) ++ [c.1]) = q.x.zipIdx.flatMap fun c => (if c.2 = q.b then [49] else []) ++ [c.1] := flat_congr fun c hc => by
    have := (List.getElem?_eq_some_iff.mp (List.mem_zipIdx_iff_getElem?.mp hc)).1
    rw [hd _ (by omega)]
  rw [e]
  have h2 : ∀ (a b c : Bytes), a ++ (b ++ c) = (a ++ b) ++ c := fun a b c => (List.append_assoc a b c).symm
  rw [h2 (q.x.zipIdx.flatMap _), h1]
  unfold ptB
  simp
/-! # which goals are bare -/
theorem find_idx {α : Type} (P : α → Bool) : ∀ (l : List α) (j : Nat) (f : Nat → Bool), (∀ (i : Nat) x, l[i]? = some x → f (j + i) = P x) →
    l.find? P = (((List.range' j l.length).find? f).bind fun k => l[k - j]?)
  | [], j, f, h => rfl
  | x :: l, j, f, h => by
    have h0 := h 0 x rfl
    rw [List.length_cons, List.range'_succ, List.find?_cons, List.find?_cons]
    rw [Nat.add_zero] at h0
    rw [h0]
    cases P x with
    | true =>
      show some x = (x :: l)[j - j]?
      rw [Nat.sub_self] <;> rfl
    | false =>
      show l.find? P = (((List.range' (j + 1) l.length).find? f).bind fun k => (x :: l)[k - j]?)
      rw [find_idx P l (j + 1) f fun i y hy => by
        have := h (i + 1) y hy
        rw [show j + 1 + i = j + (i + 1) by omega]
        exact this]
      cases hf : (List.range' (j + 1) l.length).find? f with
      | none => rfl
      | some k =>
        have hk := List.mem_of_find?_eq_some hf
        have hk2 := (List.mem_range'_1.mp hk).1
        show l[k - (j + 1)]? = (x :: l)[k - j]?
        rw [show k - j = (k - (j + 1)) + 1 by omega] <;> rfl
theorem bare_eq {s : Lst} (W : WF s) (ps : List (MP × List Nat)) (hp : ∀ p ∈ ps, p.1.b ≤ p.1.x.length ∧ p.2 = covM s (goalsM s) p.1) :
    Vahypc.bare s (ps.map fun p => toPat p.1) = (firstM (goalsM s).length ps).bind fun k => (goalsM s)[k]? := by
  unfold Vahypc.bare firstM
  rw [← goals_eq W, find_idx _ (goalsM s) 0 (fun k => !covd ps k) (fun i x hx => ?_), List.range_eq_range']
  · rfl
  · rw [Nat.zero_add]
    congr 1
    unfold covd
    rw [List.any_map]
    rw [Bool.eq_iff_iff, List.any_eq_true, List.any_eq_true]
    have h : ∀ p ∈ ps, p.2.contains i = Vahypc.parts1 s (toPat p.1) x := fun p hpm => by
      obtain ⟨h1, h2⟩ := hp p hpm
      rw [h2, covM_has h1, hx] <;> rfl
    exact ⟨fun ⟨p, hpm, z⟩ => ⟨p, hpm, by rw [h p hpm] at z; exact z⟩, fun ⟨p, hpm, z⟩ => ⟨p, hpm, by rw [h p hpm]; exact z⟩⟩
end LP
namespace LP
open VahypBase (Bytes isLetter isDigit)
open Vahypa (Pat Lst Word)
open Vahypc (Cand Choice)
/-! # candidates -/
def candU (ps : List (MP × List Nat)) (u : List Nat × Nat) : Cand := ⟨u.2, bitsM u.1, lnOf ps u.2⟩
def candP (ps : List (MP × List Nat)) (k : Nat) : Cand := ⟨k, bitsOf ps k, lnOf ps k⟩
def PC (n : Nat) (ps : List (MP × List Nat)) : Prop := ∀ p ∈ ps, Cov n p.2
theorem candP_at {ps : List (MP × List Nat)} {k : Nat} {p : MP × List Nat} (h : ps[k]? = some p) : candP ps k = ⟨k, bitsM p.2, (showM p.1).length⟩ := by
  unfold candP bitsOf covOf lnOf
  rw [h]
theorem cands_eq {s : Lst} (W : WF s) (ps : List (MP × List Nat)) (hp : ∀ p ∈ ps, p.1.b ≤ p.1.x.length ∧ p.2 = covM s (goalsM s) p.1) : Vahypc.candsOf s (ps.map fun p => toPat p.1) = (List.range ps.length).map (candP ps) := by
  unfold Vahypc.candsOf
  apply List.ext_getElem?
  intro i
  rw [List.getElem?_map, List.getElem?_map, List.getElem?_zipIdx, List.getElem?_map]
  by_cases h : i < ps.length
  · rw [List.getElem?_range h, List.getElem?_eq_getElem h]
    obtain ⟨h1, h2⟩ := hp ps[i] (List.getElem_mem h)
    show some (Cand.mk (0 + i) (Vahypc.covers s (toPat ps[i].1)) (Vahypc.bytesOf (toPat ps[i].1))) = some (candP ps i)
    rw [candP_at (List.getElem?_eq_getElem h), covers_eq W h1, ← h2, Nat.zero_add]
    unfold Vahypc.bytesOf
    rw [show_eq h1]
  · rw [List.getElem?_eq_none (by first | omega | (rw [List.length_range]; omega)), List.getElem?_eq_none (by first | omega | (rw [List.length_range]; omega))] <;> rfl
theorem zip_range (ps : List (MP × List Nat)) : ps.zipIdx.map (fun p => candU ps (p.1.2, p.2)) = (List.range ps.length).map (candP ps) := by
  apply List.ext_getElem?
  intro i
  rw [List.getElem?_map, List.getElem?_map, List.getElem?_zipIdx]
  by_cases h : i < ps.length
  · rw [List.getElem?_range h, List.getElem?_eq_getElem h]
    show some (candU ps (ps[i].2, 0 + i)) = some (candP ps i)
    rw [candP_at (List.getElem?_eq_getElem h), Nat.zero_add]
    unfold candU lnOf
    rw [List.getElem?_eq_getElem h]
  · rw [List.getElem?_eq_none (by first | omega | (rw [List.length_range]; omega)), List.getElem?_eq_none (by first | omega | (rw [List.length_range]; omega))] <;> rfl
theorem findU_cons (u : List Nat × Nat) (r : List (List Nat × Nat)) (c : List Nat) : findU (u :: r) c = if u.1 = c then some u.2 else findU r c := by
  unfold findU
  rw [List.find?_cons]
  by_cases h : u.1 = c
  · rw [decide_eq_true h, if_pos h] <;> rfl
  · rw [decide_eq_false h, if_neg h]
theorem putU_miss {r : List (List Nat × Nat)} {c : List Nat} {i : Nat} (h : c ∉ r.map (·.1)) : r.map (fun p => if p.1 = c then (p.1, i) else p) = r := by
  induction r with
  | nil => rfl
  | cons u r ih =>
    rw [List.map_cons, ih (fun z => h (by rw [List.map_cons]; exact List.mem_cons_of_mem _ z)), if_neg (fun z => h (by rw [List.map_cons, z]; exact List.mem_cons_self ..))]
theorem put_step {n : Nat} (ps : List (MP × List Nat)) (c : List Nat) (i : Nat) (hc : Cov n c) : ∀ us : List (List Nat × Nat), (us.map (·.1)).Nodup → (∀ u ∈ us, Cov n u.1) →
    Vahypc.putCand (us.map (candU ps)) (candU ps (c, i)) = (if better1 ps us c i = true then putU us c i else us).map (candU ps)
  | [], _, _ => by
    have e : better1 ps [] c i = true := rfl
    rw [if_pos e] <;> rfl
  | u :: r, hn, hu => by
    have hn2 := List.nodup_cons.mp hn
    have hu1 := hu u (List.mem_cons_self ..)
    have hu2 := fun x (hx : x ∈ r) => hu x (List.mem_cons_of_mem _ hx)
    have ih := put_step ps c i hc r hn2.2 hu2
    rw [List.map_cons]
    show (if (candU ps u).mask = (candU ps (c, i)).mask then (if (candU ps (c, i)).bytes < (candU ps u).bytes then candU ps (c, i) :: r.map (candU ps) else candU ps u :: r.map (candU ps)) else candU ps u :: Vahypc.putCand (r.map (candU ps)) (candU ps (c, i))) = _
    by_cases e : u.1 = c
    · have em : (candU ps u).mask = (candU ps (c, i)).mask := by
        show bitsM u.1 = bitsM c
        rw [e]
      have eb : better1 ps (u :: r) c i = decide (lnOf ps i < lnOf ps u.2) := by
        unfold better1
        rw [findU_cons, if_pos e]
      have ep : putU (u :: r) c i = (c, i) :: r := by
        unfold putU
        rw [List.any_cons, decide_eq_true e, Bool.true_or, if_pos rfl, List.map_cons, if_pos e, e, putU_miss (by rw [← e]; exact hn2.1)]
      rw [if_pos em, eb]
      show (if lnOf ps i < lnOf ps u.2 then _ else _) = _
      by_cases hb : lnOf ps i < lnOf ps u.2
      · rw [if_pos hb, decide_eq_true hb, if_pos rfl, ep] <;> rfl
      · rw [if_neg hb, decide_eq_false hb, if_neg Bool.false_ne_true] <;> rfl
    · have em : ¬ (candU ps u).mask = (candU ps (c, i)).mask := fun z => e (hu1.inj hc z)
      have eb : better1 ps (u :: r) c i = better1 ps r c i := by
        unfold better1
        rw [findU_cons, if_neg e]
      have ep : putU (u :: r) c i = u :: putU r c i := by
        unfold putU
        rw [List.any_cons, decide_eq_false e, Bool.false_or]
        split
        · rw [List.map_cons, if_neg e]
        · rfl
      rw [if_neg em, eb, ih]
      split
      · rw [ep] <;> rfl
      · rfl
theorem putU_keys {us : List (List Nat × Nat)} {c : List Nat} {i : Nat} {n : Nat} (hn : (us.map (·.1)).Nodup) (hu : ∀ u ∈ us, Cov n u.1) (hc : Cov n c) : ((putU us c i).map (·.1)).Nodup ∧ ∀ u ∈ putU us c i, Cov n u.1 := by
  unfold putU
  split
  · refine ⟨?_, fun u hu2 => ?_⟩
    · have e : (us.map fun p => if p.1 = c then (p.1, i) else p).map (·.1) = us.map (·.1) := by
        rw [List.map_map]
        refine List.map_congr_left fun p hp => ?_
        show (if p.1 = c then (p.1, i) else p).1 = p.1
        split <;> rfl
      rw [e]
      exact hn
    · obtain ⟨p, hp, rfl⟩ := List.mem_map.mp hu2
      split
      · exact hu p hp
      · exact hu p hp
  · rename_i h
    refine ⟨?_, fun u hu2 => ?_⟩
    · rw [List.map_append]
      refine List.nodup_append.mpr ⟨hn, List.pairwise_singleton _ _, fun a ha b hb z => ?_⟩
      subst z
      have hb : a = c := List.mem_singleton.mp hb
      obtain ⟨u, hu3, e⟩ := List.mem_map.mp ha
      exact h (List.any_eq_true.mpr ⟨u, hu3, decide_eq_true (e.trans hb)⟩)
    · rcases List.mem_append.mp hu2 with h1 | h1
      · exact hu u h1
      · rw [List.mem_singleton.mp h1]
        exact hc
theorem slim_go {n : Nat} (ps : List (MP × List Nat)) : ∀ (l : List ((MP × List Nat) × Nat)) (us : List (List Nat × Nat)), (∀ p ∈ l, Cov n p.1.2) → (us.map (·.1)).Nodup → (∀ u ∈ us, Cov n u.1) →
    (l.map fun p => candU ps (p.1.2, p.2)).foldl Vahypc.putCand (us.map (candU ps)) = (l.foldl (stepU ps) us).map (candU ps)
  | [], us, _, _, _ => rfl
  | p :: l, us, hl, hn, hu => by
    have hp := hl p (List.mem_cons_self ..)
    rw [List.map_cons, List.foldl_cons, List.foldl_cons, put_step ps p.1.2 p.2 hp us hn hu]
    have hk : ((stepU ps us p).map (·.1)).Nodup ∧ ∀ u ∈ stepU ps us p, Cov n u.1 := by
      unfold stepU
      split
      · exact putU_keys hn hu hp
      · exact ⟨hn, hu⟩
    exact slim_go ps l (stepU ps us p) (fun q hq => hl q (List.mem_cons_of_mem _ hq)) hk.1 hk.2
theorem slim_eq {n : Nat} {ps : List (MP × List Nat)} (hp : PC n ps) : Vahypc.slim ((List.range ps.length).map (candP ps)) = (usedU ps).map (candU ps) := by
  unfold Vahypc.slim usedU
  rw [← zip_range]
  exact slim_go ps ps.zipIdx [] (fun p h => hp p.1 (List.mem_of_getElem? (List.mem_zipIdx_iff_getElem?.mp h))) List.nodup_nil fun u h => by cases h
theorem usedU_cand (ps : List (MP × List Nat)) : (usedU ps).map (candU ps) = (usedM ps).map (candP ps) := by
  unfold usedM
  rw [List.map_map]
  refine List.map_congr_left fun u hu => ?_
  rw [← upU_all] at hu
  obtain ⟨_, p, hp, e⟩ := (upU_ok ps ps.length (Nat.le_refl _)).2 u hu
  show candU ps u = candP ps u.2
  rw [candP_at hp, e]
  unfold candU lnOf
  rw [hp]
theorem slim_used {n : Nat} {ps : List (MP × List Nat)} (hp : PC n ps) : Vahypc.slim ((List.range ps.length).map (candP ps)) = (usedM ps).map (candP ps) := (slim_eq hp).trans (usedU_cand ps)
/-! # greedily -/
theorem gain_eq {n m : Nat} {cs cov : List Nat} (hm : ∀ k, m.testBit k = cs.contains k) (hc : Cov n cov) : Vahypc.gain n m (bitsM cov) = moreM cs cov := by
  obtain ⟨f, rfl⟩ := hc
  unfold Vahypc.gain moreM
  rw [List.filter_filter]
  congr 1
  refine List.filter_congr fun k hk => ?_
  rw [bit_eq, bit_eq, bitsM_bit, hm, cov_contains, decide_eq_true (List.mem_range.mp hk), Bool.true_and, Bool.and_comm]
def gStep (n m : Nat) (b : Option Cand) (c : Cand) : Option Cand := match b with
  | none => if 0 < Vahypc.gain n m c.mask then some c else none
  | some d => if Vahypc.gain n m d.mask < Vahypc.gain n m c.mask then some c else b
theorem most_go {n m : Nat} {cs : List Nat} (ps : List (MP × List Nat)) (hm : ∀ k, m.testBit k = cs.contains k) : ∀ (l : List ((MP × List Nat) × Nat)) (b : Option Cand) (st : Nat × Option Nat), (∀ p ∈ l, Cov n p.1.2) → (∀ p ∈ l, ps[p.2]? = some p.1) →
    (b = none ∧ st = (0, none) ∨ ∃ k, b = some (candP ps k) ∧ st = (Vahypc.gain n m (bitsOf ps k), some k)) →
    ((l.map fun p => candU ps (p.1.2, p.2)).foldl (gStep n m) b = ((l.foldl (stepMC cs) st).2).map (candP ps))
  | [], b, st, _, _, h => by
    rcases h with ⟨rfl, rfl⟩ | ⟨k, rfl, rfl⟩
    · rfl
    · rfl
  | p :: l, b, st, hl, hi, h => by
    have hp := hl p (List.mem_cons_self ..)
    have hat := hi p (List.mem_cons_self ..)
    have ec : candU ps (p.1.2, p.2) = candP ps p.2 := by
      rw [candP_at hat]
      unfold candU lnOf
      rw [hat]
    have em : bitsM p.1.2 = bitsOf ps p.2 := by
      unfold bitsOf covOf
      rw [hat]
    have eg := gain_eq hm hp
    have eg2 : Vahypc.gain n m (bitsOf ps p.2) = moreM cs p.1.2 := by rw [← em, eg]
    have eg3 : Vahypc.gain n m (candP ps p.2).mask = moreM cs p.1.2 := eg2
    rw [List.map_cons, List.foldl_cons, List.foldl_cons, ec]
    refine most_go ps hm l _ _ (fun q hq => hl q (List.mem_cons_of_mem _ hq)) (fun q hq => hi q (List.mem_cons_of_mem _ hq)) ?_
    rcases h with ⟨rfl, rfl⟩ | ⟨k, rfl, rfl⟩
    · have eg4 : gStep n m none (candP ps p.2) = if 0 < moreM cs p.1.2 then some (candP ps p.2) else none := by
        show (if 0 < Vahypc.gain n m (candP ps p.2).mask then some (candP ps p.2) else none) = _
        rw [eg3]
      have eg5 : stepMC cs (0, none) p = if 0 < moreM cs p.1.2 then (moreM cs p.1.2, some p.2) else (0, none) := rfl
      rw [eg4, eg5]
      by_cases h0 : 0 < moreM cs p.1.2
      · rw [if_pos h0, if_pos h0, ← eg2]
        exact .inr ⟨p.2, rfl, rfl⟩
      · rw [if_neg h0, if_neg h0]
        exact .inl ⟨rfl, rfl⟩
    · have eg4 : gStep n m (some (candP ps k)) (candP ps p.2) = if Vahypc.gain n m (bitsOf ps k) < moreM cs p.1.2 then some (candP ps p.2) else some (candP ps k) := by
        show (if Vahypc.gain n m (candP ps k).mask < Vahypc.gain n m (candP ps p.2).mask then some (candP ps p.2) else some (candP ps k)) = _
        rw [eg3] <;> rfl
      have eg5 : stepMC cs (Vahypc.gain n m (bitsOf ps k), some k) p = if Vahypc.gain n m (bitsOf ps k) < moreM cs p.1.2 then (moreM cs p.1.2, some p.2) else (Vahypc.gain n m (bitsOf ps k), some k) := rfl
      rw [eg4, eg5]
      by_cases h0 : Vahypc.gain n m (bitsOf ps k) < moreM cs p.1.2
      · rw [if_pos h0, if_pos h0, ← eg2]
        exact .inr ⟨p.2, rfl, rfl⟩
      · rw [if_neg h0, if_neg h0]
        exact .inr ⟨k, rfl, rfl⟩
theorem most_eq {n m : Nat} {cs : List Nat} {ps : List (MP × List Nat)} (hp : PC n ps) (hm : ∀ k, m.testBit k = cs.contains k) : ((List.range ps.length).map (candP ps)).foldl (gStep n m) none = (mostM ps cs).map (candP ps) := by
  rw [← zip_range]
  unfold mostM
  exact most_go ps hm ps.zipIdx none (0, none) (fun p h => hp p.1 (List.mem_of_getElem? (List.mem_zipIdx_iff_getElem?.mp h))) (fun p h => List.mem_zipIdx_iff_getElem?.mp h) (.inl ⟨rfl, rfl⟩)
theorem putC_has2 : ∀ (cov cs : List Nat) (k : Nat), (cov.foldl putC cs).contains k = (cs.contains k || cov.contains k)
  | [], cs, k => by simp
  | g :: cov, cs, k => by
    rw [List.foldl_cons, putC_has2 cov, List.contains_cons, ← Bool.or_assoc]
    congr 1
    unfold putC
    split
    · rename_i h
      by_cases e : k = g
      · rw [e, h] <;> rfl
      · rw [beq_eq_false_iff_ne.mpr e, Bool.or_false]
    · rw [Bool.eq_iff_iff, Bool.or_eq_true, List.contains_iff_mem, List.contains_iff_mem, List.mem_append, List.mem_singleton, beq_iff_eq]
theorem covOf_cov {n : Nat} {ps : List (MP × List Nat)} (hp : PC n ps) (k : Nat) : Cov n (covOf ps k) := by
  unfold covOf
  cases h : ps[k]? with
  | none => exact ⟨fun _ => false, by simp⟩
  | some p => exact hp p (List.mem_of_getElem? h)
theorem bitsOf_lt {n : Nat} {ps : List (MP × List Nat)} (hp : PC n ps) (k : Nat) : bitsOf ps k < 2 ^ n := bitsM_lt2 (covOf_cov hp k).lt
theorem greedy_go {n : Nat} {ps : List (MP × List Nat)} (hp : PC n ps) (hn : n ≤ 9) : ∀ (f m : Nat) (cs : List Nat) (x : Choice), m < 2 ^ n → (∀ k, m.testBit k = cs.contains k) →
    (Vahypc.greedyBy ((List.range ps.length).map (candP ps)) n f m x).2 = greedyF ps f cs x
  | 0, m, cs, x, _, _ => rfl
  | f + 1, m, cs, x, hlt, hm => by
    have e := most_eq hp hm
    show (match ((List.range ps.length).map (candP ps)).foldl (gStep n m) none with
      | none => (m, x)
      | some c => Vahypc.greedyBy ((List.range ps.length).map (candP ps)) n f (Vahypc.join m c.mask) ⟨x.bytes + c.bytes, x.ks ++ [c.k]⟩).2 = (match mostM ps cs with
      | none => x
      | some k => greedyF ps f ((covOf ps k).foldl putC cs) ⟨x.bytes + lnOf ps k, x.ks ++ [k]⟩)
    rw [e]
    cases mostM ps cs with
    | none => rfl
    | some k =>
      show (Vahypc.greedyBy _ n f (Vahypc.join m (bitsOf ps k)) ⟨x.bytes + lnOf ps k, x.ks ++ [k]⟩).2 = _
      have hk := bitsOf_lt hp k
      rw [join_eq hn hlt hk]
      refine greedy_go hp hn f _ _ _ (Nat.or_lt_two_pow hlt hk) fun j => ?_
      rw [Nat.testBit_or, hm, putC_has2]
      unfold bitsOf
      rw [bitsM_bit]
theorem greedy_eq {n : Nat} {ps : List (MP × List Nat)} (hp : PC n ps) (hn : n ≤ 9) : (Vahypc.greedyBy ((List.range ps.length).map (candP ps)) n (n + 1) 0 ⟨0, []⟩).2 = greedyM ps n :=
  greedy_go hp hn _ 0 [] _ (Nat.two_pow_pos n) fun k => by rw [Nat.zero_testBit] <;> rfl
/-! # goals apart -/
theorem byNum_succ (m n : Nat) : byNum m (n + 1) = byNum (m / 2) n ++ (if m % 2 = 1 then [n] else []) := by
  unfold byNum
  rw [List.range_succ, List.filter_append]
  congr 1
  · refine List.filter_congr fun g hg => ?_
    have := List.mem_range.mp hg
    rw [bitM_eq, bitM_eq, show n + 1 - 1 - g = (n - 1 - g) + 1 by omega, Nat.testBit_succ]
  · rw [List.filter_cons, bitM_eq, show n + 1 - 1 - n = 0 by omega, Nat.testBit_zero]
    by_cases h : m % 2 = 1
    · rw [if_pos h, decide_eq_true h] <;> rfl
    · rw [if_neg h, decide_eq_false h] <;> rfl
theorem range_two {β : Type} (f : Nat → β) : ∀ N, (List.range (2 * N)).map f = (List.range N).flatMap fun m => [f (2 * m), f (2 * m + 1)]
  | 0 => rfl
  | N + 1 => by
    rw [show 2 * (N + 1) = 2 * N + 1 + 1 by omega, List.range_succ, List.range_succ, List.range_succ, List.map_append, List.map_append, List.flatMap_append, range_two f N, List.append_assoc] <;> rfl
theorem rows_eq : ∀ n, Vahypc.rowsBy n = (List.range (2 ^ n)).map fun m => byNum m n
  | 0 => rfl
  | n + 1 => by
    show (Vahypc.rowsBy n).flatMap (fun r => [r, r ++ [n]]) = _
    rw [rows_eq n, Nat.pow_succ, Nat.mul_comm, range_two, List.flatMap_map]
    refine flat_congr fun m _ => ?_
    rw [byNum_succ, byNum_succ, if_neg (by omega), if_pos (by omega), show 2 * m / 2 = m by omega, show (2 * m + 1) / 2 = m by omega, List.append_nil]
theorem join_mem {n : Nat} {ps : List (MP × List Nat)} {q : Nat × Nat} : q ∈ joinP n ps ↔ q.1 < q.2 ∧ q.2 < n ∧ ∃ p ∈ ps, q.1 ∈ p.2 ∧ q.2 ∈ p.2 := by
  unfold joinP
  rw [List.mem_flatMap]
  constructor
  · rintro ⟨a, ha, h⟩
    unfold rowJ at h
    obtain ⟨h1, h2⟩ := List.mem_filter.mp h
    obtain ⟨d, hd, rfl⟩ := List.mem_map.mp h1
    have hd := List.mem_range.mp hd
    unfold bothM at h2
    obtain ⟨p, hp, h3⟩ := List.any_eq_true.mp h2
    rw [Bool.and_eq_true, List.contains_iff_mem, List.contains_iff_mem] at h3
    exact ⟨by show a < a + 1 + d; omega, by show a + 1 + d < n; omega, p, hp, h3⟩
  · rintro ⟨h1, h2, p, hp, h3⟩
    refine ⟨q.1, List.mem_range.mpr (by omega), ?_⟩
    unfold rowJ
    refine List.mem_filter.mpr ⟨List.mem_map.mpr ⟨q.2 - (q.1 + 1), List.mem_range.mpr (by omega), ?_⟩, ?_⟩
    · rw [show q.1 + 1 + (q.2 - (q.1 + 1)) = q.2 by omega]
    · unfold bothM
      exact List.any_eq_true.mpr ⟨p, hp, by rw [Bool.and_eq_true, List.contains_iff_mem, List.contains_iff_mem]; exact h3⟩
theorem apart_eq {n : Nat} {ps : List (MP × List Nat)} (hp : PC n ps) (r : List Nat) (hr : ∀ g ∈ r, g < n) : Vahypc.isApart ((usedU ps).map (candU ps)) r = apartM (joinP n ps) r := by
  rw [Bool.eq_iff_iff]
  unfold Vahypc.isApart apartM
  rw [List.all_eq_true, List.all_eq_true]
  constructor
  · intro h q hq
    obtain ⟨h1, h2, p, hpm, h3, h4⟩ := join_mem.mp hq
    cases e : r.contains q.1 && r.contains q.2 with
    | false => rfl
    | true =>
      exfalso
      rw [Bool.and_eq_true, List.contains_iff_mem, List.contains_iff_mem] at e
      have h5 := List.all_eq_true.mp (h q.1 e.1) q.2 e.2
      rw [Bool.or_eq_true, decide_eq_true_eq] at h5
      rcases h5 with h5 | h5
      · omega
      · obtain ⟨j, hj⟩ := List.getElem?_of_mem hpm
        have hj2 := (List.getElem?_eq_some_iff.mp hj).1
        obtain ⟨u, hu, eu⟩ := upU_has ps ps.length (Nat.le_refl _) j p hj2 hj
        rw [upU_all] at hu
        unfold Vahypc.apart at h5
        have h6 := List.all_eq_true.mp h5 _ (List.mem_map_of_mem (f := candU ps) hu)
        have e1 : Vahypc.hasBit (candU ps u).mask q.1 = true := by
          show Vahypc.hasBit (bitsM u.1) q.1 = true
          rw [bit_eq, bitsM_bit, eu, List.contains_iff_mem]
          exact h3
        have e2 : Vahypc.hasBit (candU ps u).mask q.2 = true := by
          show Vahypc.hasBit (bitsM u.1) q.2 = true
          rw [bit_eq, bitsM_bit, eu, List.contains_iff_mem]
          exact h4
        rw [e1, e2] at h6
        cases h6
  · intro h a ha
    refine List.all_eq_true.mpr fun b hb => ?_
    rw [Bool.or_eq_true, decide_eq_true_eq]
    by_cases hab : b ≤ a
    · exact .inl hab
    · refine .inr ?_
      unfold Vahypc.apart
      refine List.all_eq_true.mpr fun c hc => ?_
      obtain ⟨u, hu, rfl⟩ := List.mem_map.mp hc
      cases e : Vahypc.hasBit (candU ps u).mask a && Vahypc.hasBit (candU ps u).mask b with
      | false => rfl
      | true =>
        exfalso
        rw [Bool.and_eq_true] at e
        have e1 : a ∈ u.1 := by
          have := e.1
          rw [bit_eq] at this
          have h2 : (bitsM u.1).testBit a = true := this
          rw [bitsM_bit, List.contains_iff_mem] at h2
          exact h2
        have e2 : b ∈ u.1 := by
          have := e.2
          rw [bit_eq] at this
          have h2 : (bitsM u.1).testBit b = true := this
          rw [bitsM_bit, List.contains_iff_mem] at h2
          exact h2
        rw [← upU_all] at hu
        obtain ⟨_, p, hpx, ep⟩ := (upU_ok ps ps.length (Nat.le_refl _)).2 u hu
        have h7 := h (a, b) (join_mem.mpr ⟨by show a < b; omega, hr b hb, p, List.mem_of_getElem? hpx, by rw [ep]; exact e1, by rw [ep]; exact e2⟩)
        have h8 : (r.contains a && r.contains b) = true := by
          rw [Bool.and_eq_true, List.contains_iff_mem, List.contains_iff_mem]
          exact ⟨ha, hb⟩
        have h7 : (!(r.contains a && r.contains b)) = true := h7
        rw [h8] at h7
        cases h7
theorem great_eq {n : Nat} {ps : List (MP × List Nat)} (hp : PC n ps) : (Vahypc.rowsBy n).foldl (fun b r => if decide (b.length < r.length) && Vahypc.isApart ((usedU ps).map (candU ps)) r then r else b) [] = greatM n ps := by
  unfold greatM
  rw [rows_eq, List.foldl_map]
  congr 1
  funext b m
  unfold pickM
  rw [apart_eq hp]
  intro g hg
  unfold byNum at hg
  exact List.mem_range.mp (List.mem_filter.mp hg).1
end LP
namespace LP
open VahypBase (Bytes isLetter isDigit)
open Vahypa (Pat Lst Word)
open Vahypc (Cand Choice)
/-! # the least set -/
theorem better_eq {kind : Int} (hk : kind = 0 ∨ kind = 1) (a b : Choice) : betterM kind a b = Vahypc.better kind.toNat a b := by
  have lx : ∀ (x y u v : Nat), HT.lexLt [(x : Int), (y : Int)] [(u : Int), (v : Int)] = (decide (x < u) || (x == u && decide (y < v))) := fun x y u v => by
    show (if (x : Int) = (u : Int) then (if (y : Int) = (v : Int) then false else decide ((y : Int) < (v : Int))) else decide ((x : Int) < (u : Int))) = _
    by_cases h : x = u
    · subst h
      rw [if_pos rfl, decide_eq_false (Nat.lt_irrefl x), Bool.false_or, beq_self_eq_true, Bool.true_and]
      by_cases h2 : y = v
      · subst h2
        rw [if_pos rfl, decide_eq_false (Nat.lt_irrefl y)]
      · rw [if_neg (by omega)]
        exact decide_eq_decide.mpr (by omega)
    · rw [if_neg (by omega), beq_eq_false_iff_ne.mpr h, Bool.false_and, Bool.or_false]
      exact decide_eq_decide.mpr (by omega)
  unfold betterM rankM Vahypc.better
  rcases hk with rfl | rfl
  · rw [if_pos rfl, if_pos rfl, if_pos (show Int.toNat 0 = 0 from rfl), lx]
  · have h1 : ¬ (1 : Int) = 0 := by decide
    have h2 : ¬ Int.toNat 1 = 0 := by decide
    rw [if_neg h1, if_neg h1, if_neg h2, lx]
theorem lowest_eq {n m : Nat} (h : m < 2 ^ n - 1) : Vahypc.lowest n m = lowF n m 0 := by
  have hlt := low_goal h
  obtain ⟨h1, h2, _, _⟩ := lowF_spec n m 0 (by rw [Nat.zero_add]; omega)
  unfold Vahypc.lowest
  rw [find_range (f := fun k => !Vahypc.hasBit m k) (i := lowF n m 0) hlt (fun k hk => ?_) ?_]
  · rfl
  · rw [bit_eq, ← bitM_eq, h1] <;> rfl
  · rw [bit_eq, ← bitM_eq, h2 k (Nat.zero_le _) hk] <;> rfl
def updB (kind : Nat) (b : Option Choice) (y : Choice) : Option Choice := match b with
  | none => some y
  | some z => if Vahypc.better kind y z = true then some y else b
theorem updB_some {kind : Int} (hk : kind = 0 ∨ kind = 1) : ∀ (l : List Choice) (c : Choice), l.foldl (updB kind.toNat) (some c) = some (l.foldl (lcStep kind) c)
  | [], c => rfl
  | y :: l, c => by
    rw [List.foldl_cons, List.foldl_cons]
    have e : updB kind.toNat (some c) y = some (lcStep kind c y) := by
      show (if Vahypc.better kind.toNat y c = true then some y else some c) = some (if betterM kind y c = true then y else c)
      rw [better_eq hk]
      split <;> rfl
    rw [e, updB_some hk l]
theorem updB_none {kind : Int} (hk : kind = 0 ∨ kind = 1) {l : List Choice} (hl : l ≠ []) : l.foldl (updB kind.toNat) none = some (pickC kind l) := by
  cases l with
  | nil => exact absurd rfl hl
  | cons c l =>
    rw [List.foldl_cons]
    have e : updB kind.toNat none c = some c := rfl
    rw [e, updB_some hk]
    show _ = some (lcM kind c (c :: l))
    unfold lcM
    rw [List.foldl_cons]
    have e2 : lcStep kind c c = c := by
      unfold lcStep
      split <;> rfl
    rw [e2]
theorem best_go {n m g : Nat} {kind : Nat} {ps : List (MP × List Nat)} (hp : PC n ps) (hn : n ≤ 9) {l : List Choice} (hm : m < 2 ^ n) (hl : l.length + m + 1 = 2 ^ n) (hl0 : 0 < l.length) : ∀ (ks : List Nat) (b : Option Choice),
    (ks.map (candP ps)).foldl (fun (b : Option Choice) c => if Vahypc.hasBit c.mask g = false then b else match ((l.map some)[Vahypc.join m c.mask - m - 1]?).bind id with
      | none => b
      | some x => let y : Choice := ⟨x.bytes + c.bytes, c.k :: x.ks⟩
        match b with
          | none => some y
          | some z => if Vahypc.better kind y z = true then some y else b) b = ((ks.filter fun k => (covOf ps k).contains g).map (candM ps m l)).foldl (updB kind) b
  | [], b => rfl
  | k :: ks, b => by
    rw [List.map_cons, List.foldl_cons, best_go hp hn hm hl hl0 ks, List.filter_cons]
    have e1 : Vahypc.hasBit (candP ps k).mask g = (covOf ps k).contains g := by
      show Vahypc.hasBit (bitsM (covOf ps k)) g = _
      rw [bit_eq, bitsM_bit]
    rw [e1]
    cases hc : (covOf ps k).contains g with
    | false => rfl
    | true =>
      rw [if_neg (by decide), if_pos rfl, List.map_cons, List.foldl_cons]
      congr 1
      have hk := bitsOf_lt hp k
      have ej : Vahypc.join m (candP ps k).mask = m ||| bitsOf ps k := join_eq hn hm hk
      have hor : m ||| bitsOf ps k < 2 ^ n := Nat.or_lt_two_pow hm hk
      have hlt : (m ||| bitsOf ps k) - m - 1 < l.length := by omega
      rw [ej, List.getElem?_map, List.getElem?_eq_getElem hlt]
      have ec : candM ps m l k = ⟨l[(m ||| bitsOf ps k) - m - 1].bytes + lnOf ps k, k :: l[(m ||| bitsOf ps k) - m - 1].ks⟩ := by
        unfold candM
        rw [List.getElem?_eq_getElem hlt]
        show Choice.mk (lnOf ps k + _) _ = _
        rw [Nat.add_comm] <;> rfl
      rw [ec]
      rfl
theorem best_eq {n i : Nat} {kind : Int} (hk : kind = 0 ∨ kind = 1) {ps : List (MP × List Nat)} (ok : PsOk n ps) (hp : PC n ps) (rk : RowsOk n ps (usedBy n ps)) (hi : i + 1 ≤ 2 ^ n - 1) :
    Vahypc.bestAt ((usedM ps).map (candP ps)) kind.toNat n (2 ^ n - 2 - i) ((dpT ps (usedBy n ps) kind n i).map some) = some (dpRow ps (usedBy n ps) kind n (2 ^ n - 2 - i) (dpT ps (usedBy n ps) kind n i)) := by
  have hm : 2 ^ n - 2 - i < 2 ^ n - 1 := by omega
  have hll := dpT_len ps (usedBy n ps) kind n i
  have hnd : ∀ p ∈ ps, p.2.Nodup := fun p h => by
    obtain ⟨f, e⟩ := hp p h
    rw [e]
    exact List.Pairwise.filter _ List.nodup_range
  have hg := low_goal hm
  have hrow := usedBy_get n ps hnd _ hg
  have hne : ((usedM ps).filter fun k => (covOf ps k).contains (lowF n (2 ^ n - 2 - i) 0)) ≠ [] := rk.ne _ (List.mem_of_getElem? hrow)
  have hb := best_go (g := lowF n (2 ^ n - 2 - i) 0) (kind := kind.toNat) hp ok.n9 (l := dpT ps (usedBy n ps) kind n i) (m := 2 ^ n - 2 - i) (by omega) (by omega) (by omega) (usedM ps) none
  unfold Vahypc.bestAt
  rw [if_neg (by omega), lowest_eq hm]
  refine hb.trans ?_
  rw [updB_none hk (fun z => hne (List.map_eq_nil_iff.mp z))]
  unfold dpRow
  rw [hrow] <;> rfl
theorem bestBy_eq {n : Nat} {kind : Int} (hk : kind = 0 ∨ kind = 1) {ps : List (MP × List Nat)} (ok : PsOk n ps) (hp : PC n ps) (rk : RowsOk n ps (usedBy n ps)) : ∀ (M i : Nat), M + i = 2 ^ n - 1 →
    Vahypc.bestBy ((usedM ps).map (candP ps)) kind.toNat n M ((dpT ps (usedBy n ps) kind n i).map some) = (dpT ps (usedBy n ps) kind n (2 ^ n - 1)).map some
  | 0, i, h => by
    have e : i = 2 ^ n - 1 := by omega
    rw [e] <;> rfl
  | M + 1, i, h => by
    show Vahypc.bestBy _ kind.toNat n M (Vahypc.bestAt ((usedM ps).map (candP ps)) kind.toNat n M ((dpT ps (usedBy n ps) kind n i).map some) :: (dpT ps (usedBy n ps) kind n i).map some) = _
    have e : M = 2 ^ n - 2 - i := by omega
    have hb := best_eq (i := i) hk ok hp rk (by omega)
    rw [← e] at hb
    have e2 : some (dpRow ps (usedBy n ps) kind n M (dpT ps (usedBy n ps) kind n i)) :: (dpT ps (usedBy n ps) kind n i).map some = (dpT ps (usedBy n ps) kind n (i + 1)).map some := by
      rw [e] <;> rfl
    rw [hb, e2]
    exact bestBy_eq hk ok hp rk M (i + 1) (by omega)
theorem least_eq {n : Nat} {kind : Int} (hk : kind = 0 ∨ kind = 1) {ps : List (MP × List Nat)} (ok : PsOk n ps) (hp : PC n ps) (rk : RowsOk n ps (usedBy n ps)) :
    (((Vahypc.bestBy ((usedM ps).map (candP ps)) kind.toNat n (2 ^ n) []).head?.bind id).getD ⟨0, []⟩) = leastM ps kind n := by
  have hpos : 0 < 2 ^ n := Nat.two_pow_pos n
  obtain ⟨N, hN⟩ : ∃ N, 2 ^ n = N + 1 := ⟨2 ^ n - 1, by omega⟩
  have e : Vahypc.bestBy ((usedM ps).map (candP ps)) kind.toNat n (2 ^ n) [] = (dpT ps (usedBy n ps) kind n (2 ^ n - 1)).map some := by
    rw [← bestBy_eq hk ok hp rk N 0 (by omega), hN]
    show Vahypc.bestBy _ kind.toNat n N (Vahypc.bestAt ((usedM ps).map (candP ps)) kind.toNat n N [] :: []) = _
    congr 1
    unfold Vahypc.bestAt
    rw [if_pos hN.symm] <;> rfl
  rw [e]
  unfold leastM
  congr 1
  rw [List.head?_eq_getElem?, List.getElem?_map]
  cases (dpT ps (usedBy n ps) kind n (2 ^ n - 1))[0]? <;> rfl
end LP
namespace LP
open VahypBase (Bytes isLetter isDigit)
open Vahypa (Pat Lst Word)
open Vahypc (Cand Choice)
/-! # each call's answer -/
def pcOf (s : Lst) (ps : List (MP × List Nat)) : Prop := ∀ p ∈ ps, p.1.b ≤ p.1.x.length ∧ p.2 = covM s (goalsM s) p.1
theorem fam_pats {s : Lst} (W : WF s) (m : Nat) : Vahypc.family s m = (pcsM s m).map (fun p => toPat p.1) ∧ pcOf s (pcsM s m) := by
  obtain ⟨h1, h2⟩ := family_eq W m
  unfold pcsM
  refine ⟨by rw [h1, List.map_map] <;> rfl, fun p hp => ?_⟩
  obtain ⟨q, hq, rfl⟩ := List.mem_map.mp hp
  exact ⟨(h2 q hq).le, rfl⟩
theorem pcOf.pc {s : Lst} {ps : List (MP × List Nat)} (h : pcOf s ps) : PC (goalsM s).length ps := fun p hp => by
  rw [(h p hp).2]
  exact cov_covM s _ _
theorem first_lt {n : Nat} {ps : List (MP × List Nat)} {k : Nat} (h : firstM n ps = some k) : k < n := by
  unfold firstM at h
  exact List.mem_range.mp (List.mem_of_find?_eq_some h)
theorem unc_eq {s : Lst} (W : WF s) {ps : List (MP × List Nat)} (h : pcOf s ps) : (Vahypc.bare s (ps.map fun p => toPat p.1) = none ∧ firstM (goalsM s).length ps = none ∧ uncM s ps = [-1, 0]) ∨
    ∃ g, Vahypc.bare s (ps.map fun p => toPat p.1) = some g ∧ (firstM (goalsM s).length ps).isNone = false ∧ uncM s ps = Vahypc.goalRow g := by
  rw [bare_eq W ps h]
  unfold uncM
  cases e : firstM (goalsM s).length ps with
  | none => exact .inl ⟨rfl, rfl, rfl⟩
  | some k =>
    have hk := first_lt e
    refine .inr ⟨(goalsM s)[k], List.getElem?_eq_getElem hk, rfl, ?_⟩
    show (match (goalsM s)[k]? with
      | some g => gRow g
      | none => []) = _
    rw [List.getElem?_eq_getElem hk] <;> rfl
def enc (a : VahypBase.Answer) : List Int := a.value :: a.rest
theorem enc_eq (a : VahypBase.Answer) : VahypcNeutral.encode a = enc a := rfl
theorem with_eq {s : Lst} (W : WF s) (m : Int) (f : Lst → Nat → List Int) (F : List Pat → VahypBase.Answer) (h : 1 ≤ m → m ≤ 4 → (goalsM s).length ≤ 9 → f s m.toNat = enc (F (Vahypc.family s m.toNat))) : withM (some s) m f = enc (Vahypc.withFamily s m F) := by
  unfold withM Vahypc.withFamily
  show (if refM s m = 0 then f s m.toNat else [refM s m]) = _
  unfold refM Vahypc.LENGTH Vahypc.COUNT
  rw [← goals_eq W]
  by_cases h1 : m < 1 ∨ 4 < m
  · have h2 : m < 1 ∨ ((4 : Nat) : Int) < m := h1
    rw [if_pos h1, if_pos h2] <;> rfl
  · have h2 : ¬ (m < 1 ∨ ((4 : Nat) : Int) < m) := h1
    rw [if_neg h1, if_neg h2]
    by_cases h3 : 9 < (goalsM s).length
    · rw [if_pos h3, if_pos h3] <;> rfl
    · rw [if_neg h3, if_neg h3, if_pos rfl]
      exact h (by omega) (by omega) (by omega)
theorem told_eq (c : Choice) : toldM c = Vahypc.choiceRow c := rfl
theorem index_eq (i : Int) (n : Nat) : VahypBase.index i n = if isPc n i = true then some i.toNat else none := by
  unfold VahypBase.index isPc
  by_cases h : 0 ≤ i ∧ i < (n : Int)
  · rw [if_pos h, if_pos (by rw [Bool.and_eq_true, decide_eq_true_eq, decide_eq_true_eq]; exact h)]
  · rw [if_neg h, if_neg (by rw [Bool.and_eq_true, decide_eq_true_eq, decide_eq_true_eq]; exact h)]
theorem step_some {s : Lst} (W : WF s) (c : Vahypc.Call) (hc : ∀ b, c ≠ .load b) : stepA (some s) c = enc (Vahypc.looked s c) := by
  cases c with
  | load b => exact absurd rfl (hc b)
  | goals =>
    show goalsA (some s) = enc ⟨((Vahypc.goals s).length : Int), (Vahypc.goals s).flatMap Vahypc.goalRow⟩
    rw [← goals_eq W] <;> rfl
  | family m =>
    refine with_eq W m _ _ fun h1 h4 h9 => ?_
    obtain ⟨e, hp⟩ := fam_pats W m.toNat
    rw [e, cands_eq W _ hp, slim_used hp.pc, List.length_map, List.length_map]
    unfold familyA
    rcases unc_eq W hp with ⟨h1, h2, h3⟩ | ⟨g, h1, h2, h3⟩ <;> rw [h1, h3] <;> rfl
  | piece m i =>
    show withM (some s) m (fun s n => pieceA s n i) = enc (Vahypc.looked s (.piece m i))
    refine with_eq W m _ _ fun h1 h4 h9 => ?_
    obtain ⟨e, hp⟩ := fam_pats W m.toNat
    rw [e, List.length_map, index_eq]
    show pieceA s m.toNat i = _
    unfold pieceA
    by_cases hi : isPc (pcsM s m.toNat).length i = true
    · rw [if_pos hi, if_pos hi]
      obtain ⟨k, rfl, hk⟩ := isPc_nat hi
      rw [Int.toNat_natCast]
      show _ = enc (match ((pcsM s m.toNat).map fun p => toPat p.1)[k]? with
        | none => VahypBase.one (-2)
        | some p => _)
      rw [List.getElem?_map, List.getElem?_eq_getElem hk]
      obtain ⟨hb, hcov⟩ := hp _ (List.getElem_mem hk)
      show (((showM (pcsM s m.toNat)[k].1).length : Nat) : Int) :: (bI (showM (pcsM s m.toNat)[k].1) ++ ((((pcsM s m.toNat)[k].2.length : Nat) : Int) :: nI (pcsM s m.toNat)[k].2)) = ((Vahypa.showPat (toPat (pcsM s m.toNat)[k].1)).length : Int) :: ((Vahypa.showPat (toPat (pcsM s m.toNat)[k].1)).map (fun c => (c.toNat : Int)) ++ VahypBase.nats (((List.range (Vahypc.goals s).length).filter (Vahypc.hasBit (Vahypc.covers s (toPat (pcsM s m.toNat)[k].1)))).length :: (List.range (Vahypc.goals s).length).filter (Vahypc.hasBit (Vahypc.covers s (toPat (pcsM s m.toNat)[k].1)))))
      rw [show_eq hb]
      have e2 : (List.range (Vahypc.goals s).length).filter (Vahypc.hasBit (Vahypc.covers s (toPat (pcsM s m.toNat)[k].1))) = (pcsM s m.toNat)[k].2 := by
        obtain ⟨f, ef⟩ := cov_covM s (goalsM s) (pcsM s m.toNat)[k].1
        rw [hcov, covers_eq W hb, ← goals_eq W]
        conv => rhs; rw [ef]
        refine List.filter_congr fun g hg => ?_
        rw [bit_eq, bitsM_bit, ef, cov_contains, decide_eq_true (List.mem_range.mp hg), Bool.true_and]
      rw [e2] <;> rfl
    · rw [if_neg hi, if_neg hi] <;> rfl
  | least m k =>
    show withM (some s) m (fun s n => leastA s n k) = enc (Vahypc.looked s (.least m k))
    refine with_eq W m _ _ fun h1 h4 h9 => ?_
    obtain ⟨e, hp⟩ := fam_pats W m.toNat
    rw [e]
    show leastA s m.toNat k = _
    unfold leastA
    by_cases hk : k ≠ 0 ∧ k ≠ 1
    · rw [if_pos hk, if_pos (by rw [decide_eq_false hk.1, decide_eq_false hk.2] <;> rfl)] <;> rfl
    · have hk2 : k = 0 ∨ k = 1 := by omega
      rw [if_neg hk, if_neg (by rcases hk2 with rfl | rfl <;> decide)]
      have ok := pcs_ok W h9 (m := m.toNat) (by omega)
      rcases unc_eq W hp with ⟨g1, g2, g3⟩ | ⟨g, g1, g2, g3⟩
      · rw [g1, g2, if_pos (by rfl)]
        show 1 :: toldM _ = 1 :: Vahypc.choiceRow ((Vahypc.leastOf s ((pcsM s m.toNat).map fun p => toPat p.1) k.toNat).getD ⟨0, []⟩)
        rw [told_eq]
        congr 2
        have hrows := rows_ok ok (pcs_nodup s m.toNat) g2
        unfold Vahypc.leastOf
        rw [cands_eq W _ hp, slim_used hp.pc, ← goals_eq W]
        exact (least_eq hk2 ok hp.pc hrows).symm
      · rw [g1, g2, if_neg Bool.false_ne_true, g3] <;> rfl
  | greedy m =>
    refine with_eq W m _ _ fun h1 h4 h9 => ?_
    obtain ⟨e, hp⟩ := fam_pats W m.toNat
    rw [e]
    unfold greedyA
    rcases unc_eq W hp with ⟨g1, g2, g3⟩ | ⟨g, g1, g2, g3⟩
    · rw [g1, g2, if_pos (by rfl)]
      show 1 :: toldM _ = 1 :: Vahypc.choiceRow (Vahypc.greedyOf s ((pcsM s m.toNat).map fun p => toPat p.1)).2
      rw [told_eq]
      congr 2
      unfold Vahypc.greedyOf
      rw [cands_eq W _ hp, ← goals_eq W]
      exact (greedy_eq hp.pc h9).symm
    · rw [g1, g2, if_neg Bool.false_ne_true, g3] <;> rfl
  | bound m =>
    refine with_eq W m _ _ fun h1 h4 h9 => ?_
    obtain ⟨e, hp⟩ := fam_pats W m.toNat
    rw [e]
    have e2 : Vahypc.packed s ((pcsM s m.toNat).map fun p => toPat p.1) = greatM (goalsM s).length (pcsM s m.toNat) := by
      unfold Vahypc.packed
      rw [cands_eq W _ hp, slim_eq hp.pc, ← goals_eq W]
      exact great_eq hp.pc
    rw [e2] <;> rfl
  | check m l =>
    show withM (some s) m (fun s n => checkA s n l) = enc (Vahypc.looked s (.check m l))
    refine with_eq W m _ _ fun h1 h4 h9 => ?_
    obtain ⟨e, hp⟩ := fam_pats W m.toNat
    rw [e]
    show checkA s m.toNat l = _
    unfold checkA
    have ea : (l.all fun z => (VahypBase.index z ((pcsM s m.toNat).map fun p => toPat p.1).length).isSome) = l.all (isPc (pcsM s m.toNat).length) := by
      congr 1
      funext z
      rw [List.length_map, index_eq]
      cases isPc (pcsM s m.toNat).length z <;> rfl
    have ec : (l.filterMap fun z => ((pcsM s m.toNat).map fun p => toPat p.1)[z.toNat]?) = (chosenM (pcsM s m.toNat) l).map fun p => toPat p.1 := by
      unfold chosenM
      rw [List.map_filterMap]
      congr 1
      funext z
      rw [List.getElem?_map]
    have hpc : pcOf s (chosenM (pcsM s m.toNat) l) := fun p h => hp p (chosenM_mem h)
    rw [ea, ec]
    cases hl : l.all (isPc (pcsM s m.toNat).length) with
    | false => rfl
    | true =>
      rw [if_pos rfl, if_neg (show ¬ true = false from fun z => by cases z)]
      rcases unc_eq W hpc with ⟨g1, g2, g3⟩ | ⟨g, g1, g2, g3⟩
      · rw [g1, g2, if_pos (by rfl)] <;> rfl
      · rw [g1, g2, if_neg Bool.false_ne_true, g3] <;> rfl
theorem step_eq {o : Option Lst} (hW : OWF o) (c : Vahypc.Call) : Vahypc.step o c = (stepO o c, (Vahypc.step o c).2) ∧ stepA o c = enc (Vahypc.step o c).2 := by
  cases c with
  | load b =>
    show Vahypa.step o (.load b) = _ ∧ loadA b = enc (Vahypa.step o (.load b)).2
    have e : Vahypa.step o (.load b) = match Vahypa.read b with
      | .ok s => (some s, ⟨1, VahypBase.nats [s.words.length, s.pats.length]⟩)
      | .error f => (o, VahypBase.faulty f) := by
      cases o <;> rfl
    show Vahypa.step o (.load b) = (loadO o b, (Vahypa.step o (.load b)).2) ∧ _
    rw [e]
    unfold loadO loadA
    cases Vahypa.read b <;> exact ⟨rfl, rfl⟩
  | _ =>
    cases o with
    | none => exact ⟨rfl, rfl⟩
    | some s => exact ⟨rfl, step_some (hW s rfl) _ fun b z => by cases z⟩
end LP
namespace LP
open VahypBase (Bytes isLetter isDigit)
open Vahypa (Pat Lst Word)
/-! # the list of calls -/
def rawC : Vahypc.Call → List (List Int)
  | .load b => [[0], bI b]
  | .goals => [[1]]
  | .family m => [[2, m]]
  | .piece m i => [[3, m, i]]
  | .least m k => [[4, m, k]]
  | .greedy m => [[5, m]]
  | .bound m => [[6, m]]
  | .check m l => [[7, m], l]
theorem bytes_back : ∀ (l : List Int), l.all (PyInside.within 0 255) = true → ∃ b : Bytes, l = bI b
  | [], _ => ⟨[], rfl⟩
  | z :: l, h => by
    rw [List.all_cons, Bool.and_eq_true] at h
    obtain ⟨b, rfl⟩ := bytes_back l h.2
    have hz := h.1
    unfold PyInside.within at hz
    rw [Bool.and_eq_true, decide_eq_true_eq, decide_eq_true_eq] at hz
    refine ⟨UInt8.ofNat z.toNat :: b, ?_⟩
    show z :: bI b = (((UInt8.ofNat z.toNat).toNat : Nat) : Int) :: bI b
    congr 1
    have e : (UInt8.ofNat z.toNat).toNat = z.toNat := by
      rw [UInt8.toNat_ofNat']
      omega
    rw [e]
    omega
theorem row_at {r : List Int} {x t : List Int} (h : PyFlat.row r = some (x, t)) : r = ((x.length : Nat) : Int) :: (x ++ t) := by
  cases r with
  | nil => cases h
  | cons n r =>
    have h : (if 0 ≤ n ∧ n.toNat ≤ r.length then some (r.take n.toNat, r.drop n.toNat) else none) = some (x, t) := h
    by_cases hc : 0 ≤ n ∧ n.toNat ≤ r.length
    · rw [if_pos hc] at h
      have h := Option.some.inj h
      injection h with h1 h2
      subst h1 h2
      have e : (r.take n.toNat).length = n.toNat := by rw [List.length_take]; omega
      rw [e, List.take_append_drop]
      congr 1
      omega
    · rw [if_neg hc] at h
      cases h
theorem rows_one {r : List Int} {xs : List (List Int)} {t : List Int} (h : PyFlat.rows 1 r = some (xs, t)) : ∃ x, xs = [x] ∧ r = ((x.length : Nat) : Int) :: (x ++ t) := by
  unfold PyFlat.rows at h
  cases e : PyFlat.row r with
  | none =>
    rw [e] at h
    cases h
  | some p =>
    obtain ⟨x, s⟩ := p
    rw [e] at h
    have h : some ([x], s) = some (xs, t) := h
    have h := Option.some.inj h
    injection h with h1 h2
    subst h1 h2
    exact ⟨x, rfl, row_at e⟩
theorem rows_zero {r : List Int} {xs : List (List Int)} {t : List Int} (h : PyFlat.rows 0 r = some (xs, t)) : xs = [] ∧ r = t := by
  have h := Option.some.inj h
  injection h with h1 h2
  exact ⟨h1.symm, h2⟩
theorem call_at {p : Int} {r : List Int} {n k : Nat} {c : List (List Int)} {t : List Int} (hs : PyVahypc.shape p = some (n, k)) (h : PyFlat.call PyVahypc.shape (p :: r) = some (c, t)) : ∃ xs, n ≤ r.length ∧ PyFlat.rows k (r.drop n) = some (xs, t) ∧ c = (p :: r.take n) :: xs := by
  have h : (match PyVahypc.shape p with
    | none => none
    | some (n, k) => if r.length < n then none else match PyFlat.rows k (r.drop n) with
      | none => none
      | some (xs, t) => some ((p :: r.take n) :: xs, t)) = some (c, t) := h
  rw [hs] at h
  have h : (if r.length < n then none else match PyFlat.rows k (r.drop n) with
    | none => none
    | some (xs, t) => some ((p :: r.take n) :: xs, t)) = some (c, t) := h
  split at h
  · cases h
  · cases e : PyFlat.rows k (r.drop n) with
    | none =>
      rw [e] at h
      cases h
    | some y =>
      obtain ⟨xs, t2⟩ := y
      rw [e] at h
      have h := Option.some.inj h
      injection h with h1 h2
      subst h2
      exact ⟨xs, by omega, rfl, h1.symm⟩
theorem one_num {r : List Int} (h : 1 ≤ r.length) : ∃ m r2, r = m :: r2 := by
  cases r with
  | nil => exact absurd h (by decide)
  | cons m r2 => exact ⟨m, r2, rfl⟩
theorem two_num {r : List Int} (h : 2 ≤ r.length) : ∃ m i r2, r = m :: i :: r2 := by
  obtain ⟨m, r2, rfl⟩ := one_num (by omega : 1 ≤ r.length)
  obtain ⟨i, r3, rfl⟩ := one_num (by rw [List.length_cons] at h; omega : 1 ≤ r2.length)
  exact ⟨m, i, r3, rfl⟩
theorem call_back {p : Int} {r : List Int} {c : List (List Int)} {t : List Int} (h : PyFlat.call PyVahypc.shape (p :: r) = some (c, t)) (hb : PyInside.call PyVahypc.bound c = true) : ∃ k : Vahypc.Call, c = rawC k ∧ p :: r = flatC k ++ t ∧ okC k := by
  by_cases h0 : p = 0
  · subst h0
    obtain ⟨xs, h1, h2, rfl⟩ := call_at (n := 0) (k := 1) rfl h
    obtain ⟨x, rfl, h3⟩ := rows_one h2
    have h3 : r = ((x.length : Nat) : Int) :: (x ++ t) := h3
    have hb : (PyInside.each [] ([] : List Int) && (decide (0 ≤ x.length) && decide (x.length ≤ 8192) && x.all (PyInside.within 0 255) && PyInside.lists [] [])) = true := hb
    simp only [Bool.and_eq_true, decide_eq_true_eq] at hb
    obtain ⟨b, rfl⟩ := bytes_back x hb.2.1.2
    have hl : (bI b).length = b.length := List.length_map _
    refine ⟨.load b, rfl, ?_, by show b.length ≤ 8192; rw [← hl]; exact hb.2.1.1.2⟩
    rw [h3, hl] <;> rfl
  by_cases h1 : p = 1
  · subst h1
    obtain ⟨xs, _, h2, rfl⟩ := call_at (n := 0) (k := 0) rfl h
    obtain ⟨rfl, h3⟩ := rows_zero h2
    have h3 : r = t := h3
    subst h3
    exact ⟨.goals, rfl, rfl, trivial⟩
  by_cases h2 : p = 2
  · subst h2
    obtain ⟨xs, hl, h2, rfl⟩ := call_at (n := 1) (k := 0) rfl h
    obtain ⟨m, r2, rfl⟩ := one_num hl
    obtain ⟨rfl, h3⟩ := rows_zero h2
    have h3 : r2 = t := h3
    subst h3
    exact ⟨.family m, rfl, rfl, trivial⟩
  by_cases h3 : p = 3
  · subst h3
    obtain ⟨xs, hl, h2, rfl⟩ := call_at (n := 2) (k := 0) rfl h
    obtain ⟨m, i, r2, rfl⟩ := two_num hl
    obtain ⟨rfl, h3⟩ := rows_zero h2
    have h3 : r2 = t := h3
    subst h3
    exact ⟨.piece m i, rfl, rfl, trivial⟩
  by_cases h4 : p = 4
  · subst h4
    obtain ⟨xs, hl, h2, rfl⟩ := call_at (n := 2) (k := 0) rfl h
    obtain ⟨m, i, r2, rfl⟩ := two_num hl
    obtain ⟨rfl, h3⟩ := rows_zero h2
    have h3 : r2 = t := h3
    subst h3
    exact ⟨.least m i, rfl, rfl, trivial⟩
  by_cases h5 : p = 5
  · subst h5
    obtain ⟨xs, hl, h2, rfl⟩ := call_at (n := 1) (k := 0) rfl h
    obtain ⟨m, r2, rfl⟩ := one_num hl
    obtain ⟨rfl, h3⟩ := rows_zero h2
    have h3 : r2 = t := h3
    subst h3
    exact ⟨.greedy m, rfl, rfl, trivial⟩
  by_cases h6 : p = 6
  · subst h6
    obtain ⟨xs, hl, h2, rfl⟩ := call_at (n := 1) (k := 0) rfl h
    obtain ⟨m, r2, rfl⟩ := one_num hl
    obtain ⟨rfl, h3⟩ := rows_zero h2
    have h3 : r2 = t := h3
    subst h3
    exact ⟨.bound m, rfl, rfl, trivial⟩
  by_cases h7 : p = 7
  · subst h7
    obtain ⟨xs, hl, h2, rfl⟩ := call_at (n := 1) (k := 1) rfl h
    obtain ⟨m, r2, rfl⟩ := one_num hl
    obtain ⟨x, rfl, h3⟩ := rows_one h2
    have h3 : r2 = ((x.length : Nat) : Int) :: (x ++ t) := h3
    subst h3
    have hb : (PyInside.each [(-1000000000000000000, 1000000000000000000)] [m] && (decide (0 ≤ x.length) && decide (x.length ≤ 2000) && x.all (PyInside.within (-1000000000000000000) 1000000000000000000) && PyInside.lists [] [])) = true := hb
    simp only [Bool.and_eq_true, decide_eq_true_eq] at hb
    exact ⟨.check m x, rfl, rfl, hb.2.1.1.2⟩
  · exfalso
    have e : PyVahypc.shape p = none := by
      unfold PyVahypc.shape
      rw [if_neg h0, if_neg h1, if_neg h2, if_neg h3, if_neg h4, if_neg h5, if_neg h6, if_neg h7]
    have h : (match PyVahypc.shape p with
      | none => none
      | some (n, k) => if r.length < n then none else match PyFlat.rows k (r.drop n) with
        | none => none
        | some (xs, t) => some ((p :: r.take n) :: xs, t)) = some (c, t) := h
    rw [e] at h
    cases h
theorem calls_back : ∀ (f : Nat) (l : List Int) (raw : List (List (List Int))), PyFlat.calls PyVahypc.shape f l = some raw → PyInside.calls PyVahypc.bound raw = true → ∃ cs : List Vahypc.Call, raw = cs.map rawC ∧ l = cs.flatMap flatC ∧ ∀ c ∈ cs, okC c
  | f, [], raw, h, _ => by
    have h : some [] = some raw := by cases f <;> exact h
    cases h
    exact ⟨[], rfl, rfl, fun c hc => by cases hc⟩
  | 0, p :: r, raw, h, _ => by cases h
  | f + 1, p :: r, raw, h, hb => by
    unfold PyFlat.calls at h
    cases e : PyFlat.call PyVahypc.shape (p :: r) with
    | none =>
      rw [e] at h
      cases h
    | some y =>
      obtain ⟨c, t⟩ := y
      rw [e] at h
      have h : (match PyFlat.calls PyVahypc.shape f t with
        | none => none
        | some cs => some (c :: cs)) = some raw := h
      cases e2 : PyFlat.calls PyVahypc.shape f t with
      | none =>
        rw [e2] at h
        cases h
      | some cs2 =>
        rw [e2] at h
        have h := Option.some.inj h
        subst h
        unfold PyInside.calls at hb
        rw [List.all_cons, Bool.and_eq_true] at hb
        obtain ⟨k, rfl, h1, h2⟩ := call_back e hb.1
        obtain ⟨cs, rfl, h3, h4⟩ := calls_back f t cs2 e2 hb.2
        refine ⟨k :: cs, rfl, ?_, fun c hc => ?_⟩
        · rw [h1, h3] <;> rfl
        · rcases List.mem_cons.mp hc with e | hc
          · rw [e]
            exact h2
          · exact h4 c hc
theorem whole_raw (k : Vahypc.Call) : PyVahypc.whole (rawC k) = rawC k := by cases k <;> rfl
theorem callOf_raw (k : Vahypc.Call) : VahypcNeutral.callOf (rawC k) = some k := by
  cases k with
  | load b =>
    have h1 : NeutralIO.bytes (bI b) = true := by
      unfold NeutralIO.bytes
      refine List.all_eq_true.mpr fun z hz => ?_
      obtain ⟨c, _, rfl⟩ := List.mem_map.mp hz
      have := c.toNat_lt
      rw [Bool.and_eq_true, decide_eq_true_eq, decide_eq_true_eq]
      exact ⟨by omega, by omega⟩
    have h2 : VahypcNeutral.bytesOf (bI b) = b := by
      unfold VahypcNeutral.bytesOf
      rw [List.map_map]
      have : ((fun (z : Int) => UInt8.ofNat z.toNat) ∘ fun (c : UInt8) => ((c.toNat : Nat) : Int)) = id := by
        funext c
        show UInt8.ofNat ((c.toNat : Nat) : Int).toNat = c
        rw [Int.toNat_natCast]
        exact UInt8.ofNat_toNat
      rw [this, List.map_id]
    show (if NeutralIO.bytes (bI b) = true then some (Vahypc.Call.load (VahypcNeutral.bytesOf (bI b))) else none) = _
    rw [if_pos h1, h2]
  | _ => rfl
theorem play_eq : ∀ (cs : List Vahypc.Call) (o : Option Lst), OWF o → PyFlat.told (PyFlat.played VahypcNeutral.step o (cs.map rawC)) = toldA o cs
  | [], o, _ => rfl
  | c :: cs, o, hW => by
    obtain ⟨h1, h2⟩ := step_eq hW c
    have e : VahypcNeutral.step o (rawC c) = (stepO o c, stepA o c) := by
      unfold VahypcNeutral.step
      rw [callOf_raw]
      show ((Vahypc.step o c).1, VahypcNeutral.encode (Vahypc.step o c).2) = _
      rw [enc_eq, ← h2]
      congr 1
      rw [h1]
    show PyFlat.told ((VahypcNeutral.step o (rawC c)).2 :: PyFlat.played VahypcNeutral.step (VahypcNeutral.step o (rawC c)).1 (cs.map rawC)) = _
    rw [e]
    show (((stepA o c).length : Nat) : Int) :: stepA o c ++ PyFlat.told (PyFlat.played VahypcNeutral.step (stepO o c) (cs.map rawC)) = _
    rw [play_eq cs _ (stepO_wf hW)] <;> rfl
theorem fin {ns : List Int} (h : PyVahypc.answers_asked ns = true) : ∃ cs : List Vahypc.Call, ns = cs.flatMap flatC ∧ (∀ c ∈ cs, okC c) ∧ cs.length ≤ 20 ∧ toldA none cs = PyVahypc.answers ns := by
  unfold PyVahypc.answers_asked at h
  cases e : PyFlat.calls PyVahypc.shape ns.length ns with
  | none =>
    rw [e] at h
    cases h
  | some raw =>
    rw [e] at h
    have h : (!raw.isEmpty && PyFlat.atMost 20 raw && PyInside.calls PyVahypc.bound raw && VahypcNeutral.asked (raw.map PyVahypc.whole) && PyFlat.short 10000000 (PyVahypc.answers ns)) = true := h
    simp only [Bool.and_eq_true] at h
    obtain ⟨cs, rfl, h1, h2⟩ := calls_back _ _ _ e h.1.1.2
    have hlen := h.1.1.1.2
    unfold PyFlat.atMost at hlen
    rw [decide_eq_true_eq, List.length_map] at hlen
    refine ⟨cs, h1, h2, hlen, ?_⟩
    unfold PyVahypc.answers PyVahypc.calls
    rw [e]
    show _ = PyFlat.told (PyFlat.played VahypcNeutral.step VahypcNeutral.start ((cs.map rawC).map PyVahypc.whole))
    have ew : (cs.map rawC).map PyVahypc.whole = cs.map rawC := by
      rw [List.map_map]
      refine List.map_congr_left fun k _ => whole_raw k
    rw [ew]
    exact (play_eq cs none fun s hs => by cases hs).symm
end LP
namespace LP
open PySem PySem.Spec PyProof.Rows L2
theorem answers_binds {K : PySem.W.Frag} {mg : Str → Option Value} (T : TX K mg) (s : Shared) (us : List Value) (h : us.length = (["calls"] : List Str).length) : BindsTo s T.d_answers ⟨us, []⟩ ((["calls"] : List Str).zip us) := by
  obtain ⟨oc, od, kV, doc, pm, an, cdv, ct, osl, e, l, c⟩ := T.F_answers.ex
  rw [e]
  exact match us, h with | [_], _ => .of_eq rfl
end LP
namespace LP
open PySem PySem.Spec PyProof.Rows L2
section
variable {K : PySem.W.Frag} {C f : Addr} {x qual : Str} {st : Stmt} {oc : Value} {od an : Option Addr} {osl : Array (Option Value)} {kV doc pm cdv ct : Value}
theorem mk_def (a : PySem.W.nsIn K mainGlobals x = some (some (.ref f))) (l : K.lookup f = some ⟨oc, od, .func (PySem.W.fnOf x x (defArgs st) (defBody st) (defScope st) .none kV doc pm an cdv ct), osl⟩)
    (c : PySem.W.codeIn K cdv x = true) (k : PySem.W.keepIn K (.ref f) = true) : ∃ f fd, PySem.W.nsIn K mainGlobals x = some (some (.ref f)) ∧ Fun K x x st f fd := ⟨f, _, a, fun_mk l c k⟩
theorem mk_met (a : PySem.W.findIn K (.ref C) x = some (some (.ref f))) (i : PySem.W.isFn K (.ref f) = true) (l : K.lookup f = some ⟨oc, od, .func (PySem.W.fnOf x qual (defArgs st) (defBody st) (defScope st) .none kV doc pm an cdv ct), osl⟩)
    (c : PySem.W.codeIn K cdv qual = true) (k : PySem.W.keepIn K (.ref f) = true) : ∃ f fd, Meth K C x f ∧ Fun K x qual st f fd := ⟨f, _, ⟨a, i, k⟩, fun_mk l c k⟩
theorem mk_cls (pg : PySem.W.plainGet K C Str.empty = true) (hd : PySem.W.hasDictIn K C = true) (po : PySem.W.plainOver K C = true) (sa : PySem.W.findIn K (.ref C) "__setattr__" = some (some (.builtin "object.__setattr__")))
    (mk : PySem.W.makesIn K C = true) (kc : PySem.W.keepIn K (.ref C) = true) : Cls K C ∧ PySem.W.makesIn K C = true ∧ PySem.W.keepIn K (.ref C) = true := ⟨⟨pg, hd, po, sa⟩, mk, kc⟩
end
def K_Goal (K : PySem.W.Frag) (C : Addr) : Prop := PySem.W.nsIn K mainGlobals "Goal" = some (some (.ref C)) ∧ (Cls K C ∧ PySem.W.makesIn K C = true ∧ PySem.W.keepIn K (.ref C) = true) ∧ PySem.W.findIn K (.ref C) "word" = some none ∧ PySem.W.findIn K (.ref C) "gap" = some none ∧ (∃ f fd, Meth K C "__init__" f ∧ Fun K "__init__" "Goal.__init__" s_Goal___init__ f fd)
theorem mkc_Goal {K : PySem.W.Frag} {C : Addr} (p0 : PySem.W.nsIn K mainGlobals "Goal" = some (some (.ref C))) (p1 : (Cls K C ∧ PySem.W.makesIn K C = true ∧ PySem.W.keepIn K (.ref C) = true)) (p2 : PySem.W.findIn K (.ref C) "word" = some none) (p3 : PySem.W.findIn K (.ref C) "gap" = some none) (p4 : (∃ f fd, Meth K C "__init__" f ∧ Fun K "__init__" "Goal.__init__" s_Goal___init__ f fd)) : ∃ C, K_Goal K C := ⟨C, p0, p1, p2, p3, p4⟩
def K_Piece (K : PySem.W.Frag) (C : Addr) : Prop := PySem.W.nsIn K mainGlobals "Piece" = some (some (.ref C)) ∧ (Cls K C ∧ PySem.W.makesIn K C = true ∧ PySem.W.keepIn K (.ref C) = true) ∧ PySem.W.findIn K (.ref C) "letters" = some none ∧ PySem.W.findIn K (.ref C) "before" = some none ∧ PySem.W.findIn K (.ref C) "first_point" = some none ∧ PySem.W.findIn K (.ref C) "last_point" = some none ∧ PySem.W.findIn K (.ref C) "chunk" = some none ∧ PySem.W.findIn K (.ref C) "covered" = some none ∧ (∃ f fd, Meth K C "__init__" f ∧ Fun K "__init__" "Piece.__init__" s_Piece___init__ f fd)
theorem mkc_Piece {K : PySem.W.Frag} {C : Addr} (p0 : PySem.W.nsIn K mainGlobals "Piece" = some (some (.ref C))) (p1 : (Cls K C ∧ PySem.W.makesIn K C = true ∧ PySem.W.keepIn K (.ref C) = true)) (p2 : PySem.W.findIn K (.ref C) "letters" = some none) (p3 : PySem.W.findIn K (.ref C) "before" = some none) (p4 : PySem.W.findIn K (.ref C) "first_point" = some none) (p5 : PySem.W.findIn K (.ref C) "last_point" = some none) (p6 : PySem.W.findIn K (.ref C) "chunk" = some none) (p7 : PySem.W.findIn K (.ref C) "covered" = some none) (p8 : (∃ f fd, Meth K C "__init__" f ∧ Fun K "__init__" "Piece.__init__" s_Piece___init__ f fd)) : ∃ C, K_Piece K C := ⟨C, p0, p1, p2, p3, p4, p5, p6, p7, p8⟩
def K_Choice (K : PySem.W.Frag) (C : Addr) : Prop := PySem.W.nsIn K mainGlobals "Choice" = some (some (.ref C)) ∧ (Cls K C ∧ PySem.W.makesIn K C = true ∧ PySem.W.keepIn K (.ref C) = true) ∧ PySem.W.findIn K (.ref C) "numbers" = some none ∧ PySem.W.findIn K (.ref C) "size" = some none ∧ (∃ f fd, Meth K C "__init__" f ∧ Fun K "__init__" "Choice.__init__" s_Choice___init__ f fd) ∧ (∃ f fd, Meth K C "rank" f ∧ Fun K "rank" "Choice.rank" s_Choice_rank f fd)
theorem mkc_Choice {K : PySem.W.Frag} {C : Addr} (p0 : PySem.W.nsIn K mainGlobals "Choice" = some (some (.ref C))) (p1 : (Cls K C ∧ PySem.W.makesIn K C = true ∧ PySem.W.keepIn K (.ref C) = true)) (p2 : PySem.W.findIn K (.ref C) "numbers" = some none) (p3 : PySem.W.findIn K (.ref C) "size" = some none) (p4 : (∃ f fd, Meth K C "__init__" f ∧ Fun K "__init__" "Choice.__init__" s_Choice___init__ f fd)) (p5 : (∃ f fd, Meth K C "rank" f ∧ Fun K "rank" "Choice.rank" s_Choice_rank f fd)) : ∃ C, K_Choice K C := ⟨C, p0, p1, p2, p3, p4, p5⟩
def K_Token (K : PySem.W.Frag) (C : Addr) : Prop := PySem.W.nsIn K mainGlobals "Token" = some (some (.ref C)) ∧ (Cls K C ∧ PySem.W.makesIn K C = true ∧ PySem.W.keepIn K (.ref C) = true) ∧ PySem.W.findIn K (.ref C) "text" = some none ∧ PySem.W.findIn K (.ref C) "place" = some none ∧ (∃ f fd, Meth K C "__init__" f ∧ Fun K "__init__" "Token.__init__" s_Token___init__ f fd) ∧ (∃ f fd, Meth K C "is_chunk" f ∧ Fun K "is_chunk" "Token.is_chunk" s_Token_is_chunk f fd)
theorem mkc_Token {K : PySem.W.Frag} {C : Addr} (p0 : PySem.W.nsIn K mainGlobals "Token" = some (some (.ref C))) (p1 : (Cls K C ∧ PySem.W.makesIn K C = true ∧ PySem.W.keepIn K (.ref C) = true)) (p2 : PySem.W.findIn K (.ref C) "text" = some none) (p3 : PySem.W.findIn K (.ref C) "place" = some none) (p4 : (∃ f fd, Meth K C "__init__" f ∧ Fun K "__init__" "Token.__init__" s_Token___init__ f fd)) (p5 : (∃ f fd, Meth K C "is_chunk" f ∧ Fun K "is_chunk" "Token.is_chunk" s_Token_is_chunk f fd)) : ∃ C, K_Token K C := ⟨C, p0, p1, p2, p3, p4, p5⟩
def K_Fault (K : PySem.W.Frag) (C : Addr) : Prop := PySem.W.nsIn K mainGlobals "Fault" = some (some (.ref C)) ∧ (Cls K C ∧ PySem.W.makesIn K C = true ∧ PySem.W.keepIn K (.ref C) = true) ∧ PySem.W.findIn K (.ref C) "code" = some none ∧ PySem.W.findIn K (.ref C) "place" = some none ∧ (∃ f fd, Meth K C "__init__" f ∧ Fun K "__init__" "Fault.__init__" s_Fault___init__ f fd)
theorem mkc_Fault {K : PySem.W.Frag} {C : Addr} (p0 : PySem.W.nsIn K mainGlobals "Fault" = some (some (.ref C))) (p1 : (Cls K C ∧ PySem.W.makesIn K C = true ∧ PySem.W.keepIn K (.ref C) = true)) (p2 : PySem.W.findIn K (.ref C) "code" = some none) (p3 : PySem.W.findIn K (.ref C) "place" = some none) (p4 : (∃ f fd, Meth K C "__init__" f ∧ Fun K "__init__" "Fault.__init__" s_Fault___init__ f fd)) : ∃ C, K_Fault K C := ⟨C, p0, p1, p2, p3, p4⟩
def K_Word (K : PySem.W.Frag) (C : Addr) : Prop := PySem.W.nsIn K mainGlobals "Word" = some (some (.ref C)) ∧ (Cls K C ∧ PySem.W.makesIn K C = true ∧ PySem.W.keepIn K (.ref C) = true) ∧ PySem.W.findIn K (.ref C) "letters" = some none ∧ PySem.W.findIn K (.ref C) "breaks" = some none ∧ (∃ f fd, Meth K C "__init__" f ∧ Fun K "__init__" "Word.__init__" s_Word___init__ f fd)
theorem mkc_Word {K : PySem.W.Frag} {C : Addr} (p0 : PySem.W.nsIn K mainGlobals "Word" = some (some (.ref C))) (p1 : (Cls K C ∧ PySem.W.makesIn K C = true ∧ PySem.W.keepIn K (.ref C) = true)) (p2 : PySem.W.findIn K (.ref C) "letters" = some none) (p3 : PySem.W.findIn K (.ref C) "breaks" = some none) (p4 : (∃ f fd, Meth K C "__init__" f ∧ Fun K "__init__" "Word.__init__" s_Word___init__ f fd)) : ∃ C, K_Word K C := ⟨C, p0, p1, p2, p3, p4⟩
def K_Listed (K : PySem.W.Frag) (C : Addr) : Prop := PySem.W.nsIn K mainGlobals "Listed" = some (some (.ref C)) ∧ (Cls K C ∧ PySem.W.makesIn K C = true ∧ PySem.W.keepIn K (.ref C) = true) ∧ PySem.W.findIn K (.ref C) "margins" = some none ∧ PySem.W.findIn K (.ref C) "words" = some none ∧ PySem.W.findIn K (.ref C) "patterns" = some none ∧ (∃ f fd, Meth K C "__init__" f ∧ Fun K "__init__" "Listed.__init__" s_Listed___init__ f fd)
theorem mkc_Listed {K : PySem.W.Frag} {C : Addr} (p0 : PySem.W.nsIn K mainGlobals "Listed" = some (some (.ref C))) (p1 : (Cls K C ∧ PySem.W.makesIn K C = true ∧ PySem.W.keepIn K (.ref C) = true)) (p2 : PySem.W.findIn K (.ref C) "margins" = some none) (p3 : PySem.W.findIn K (.ref C) "words" = some none) (p4 : PySem.W.findIn K (.ref C) "patterns" = some none) (p5 : (∃ f fd, Meth K C "__init__" f ∧ Fun K "__init__" "Listed.__init__" s_Listed___init__ f fd)) : ∃ C, K_Listed K C := ⟨C, p0, p1, p2, p3, p4, p5⟩
def K_ListReader (K : PySem.W.Frag) (C : Addr) : Prop := PySem.W.nsIn K mainGlobals "ListReader" = some (some (.ref C)) ∧ (Cls K C ∧ PySem.W.makesIn K C = true ∧ PySem.W.keepIn K (.ref C) = true) ∧ PySem.W.findIn K (.ref C) "listed" = some none ∧ PySem.W.findIn K (.ref C) "awaited" = some none ∧ (∃ f fd, Meth K C "__init__" f ∧ Fun K "__init__" "ListReader.__init__" s_ListReader___init__ f fd) ∧ (∃ f fd, Meth K C "take" f ∧ Fun K "take" "ListReader.take" s_ListReader_take f fd) ∧ (∃ f fd, Meth K C "take_start" f ∧ Fun K "take_start" "ListReader.take_start" s_ListReader_take_start f fd) ∧ (∃ f fd, Meth K C "take_margin" f ∧ Fun K "take_margin" "ListReader.take_margin" s_ListReader_take_margin f fd) ∧ (∃ f fd, Meth K C "take_sign" f ∧ Fun K "take_sign" "ListReader.take_sign" s_ListReader_take_sign f fd) ∧ (∃ f fd, Meth K C "take_entry" f ∧ Fun K "take_entry" "ListReader.take_entry" s_ListReader_take_entry f fd) ∧ (∃ f fd, Meth K C "begin_entry" f ∧ Fun K "begin_entry" "ListReader.begin_entry" s_ListReader_begin_entry f fd) ∧ (∃ f fd, Meth K C "take_word" f ∧ Fun K "take_word" "ListReader.take_word" s_ListReader_take_word f fd) ∧ (∃ f fd, Meth K C "take_pattern" f ∧ Fun K "take_pattern" "ListReader.take_pattern" s_ListReader_take_pattern f fd)
theorem mkc_ListReader {K : PySem.W.Frag} {C : Addr} (p0 : PySem.W.nsIn K mainGlobals "ListReader" = some (some (.ref C))) (p1 : (Cls K C ∧ PySem.W.makesIn K C = true ∧ PySem.W.keepIn K (.ref C) = true)) (p2 : PySem.W.findIn K (.ref C) "listed" = some none) (p3 : PySem.W.findIn K (.ref C) "awaited" = some none) (p4 : (∃ f fd, Meth K C "__init__" f ∧ Fun K "__init__" "ListReader.__init__" s_ListReader___init__ f fd)) (p5 : (∃ f fd, Meth K C "take" f ∧ Fun K "take" "ListReader.take" s_ListReader_take f fd)) (p6 : (∃ f fd, Meth K C "take_start" f ∧ Fun K "take_start" "ListReader.take_start" s_ListReader_take_start f fd)) (p7 : (∃ f fd, Meth K C "take_margin" f ∧ Fun K "take_margin" "ListReader.take_margin" s_ListReader_take_margin f fd)) (p8 : (∃ f fd, Meth K C "take_sign" f ∧ Fun K "take_sign" "ListReader.take_sign" s_ListReader_take_sign f fd)) (p9 : (∃ f fd, Meth K C "take_entry" f ∧ Fun K "take_entry" "ListReader.take_entry" s_ListReader_take_entry f fd)) (p10 : (∃ f fd, Meth K C "begin_entry" f ∧ Fun K "begin_entry" "ListReader.begin_entry" s_ListReader_begin_entry f fd)) (p11 : (∃ f fd, Meth K C "take_word" f ∧ Fun K "take_word" "ListReader.take_word" s_ListReader_take_word f fd)) (p12 : (∃ f fd, Meth K C "take_pattern" f ∧ Fun K "take_pattern" "ListReader.take_pattern" s_ListReader_take_pattern f fd)) : ∃ C, K_ListReader K C := ⟨C, p0, p1, p2, p3, p4, p5, p6, p7, p8, p9, p10, p11, p12⟩
def K_Holder (K : PySem.W.Frag) (C : Addr) : Prop := PySem.W.nsIn K mainGlobals "Holder" = some (some (.ref C)) ∧ (Cls K C ∧ PySem.W.makesIn K C = true ∧ PySem.W.keepIn K (.ref C) = true) ∧ PySem.W.findIn K (.ref C) "listed" = some none ∧ (∃ f fd, Meth K C "__init__" f ∧ Fun K "__init__" "Holder.__init__" s_Holder___init__ f fd) ∧ (∃ f fd, Meth K C "load" f ∧ Fun K "load" "Holder.load" s_Holder_load f fd) ∧ (∃ f fd, Meth K C "goals" f ∧ Fun K "goals" "Holder.goals" s_Holder_goals f fd) ∧ (∃ f fd, Meth K C "family" f ∧ Fun K "family" "Holder.family" s_Holder_family f fd) ∧ (∃ f fd, Meth K C "piece" f ∧ Fun K "piece" "Holder.piece" s_Holder_piece f fd) ∧ (∃ f fd, Meth K C "least" f ∧ Fun K "least" "Holder.least" s_Holder_least f fd) ∧ (∃ f fd, Meth K C "greedy" f ∧ Fun K "greedy" "Holder.greedy" s_Holder_greedy f fd) ∧ (∃ f fd, Meth K C "bound" f ∧ Fun K "bound" "Holder.bound" s_Holder_bound f fd) ∧ (∃ f fd, Meth K C "check" f ∧ Fun K "check" "Holder.check" s_Holder_check f fd) ∧ (∃ f fd, Meth K C "refusal" f ∧ Fun K "refusal" "Holder.refusal" s_Holder_refusal f fd) ∧ (∃ f fd, Meth K C "uncovered" f ∧ Fun K "uncovered" "Holder.uncovered" s_Holder_uncovered f fd)
theorem mkc_Holder {K : PySem.W.Frag} {C : Addr} (p0 : PySem.W.nsIn K mainGlobals "Holder" = some (some (.ref C))) (p1 : (Cls K C ∧ PySem.W.makesIn K C = true ∧ PySem.W.keepIn K (.ref C) = true)) (p2 : PySem.W.findIn K (.ref C) "listed" = some none) (p3 : (∃ f fd, Meth K C "__init__" f ∧ Fun K "__init__" "Holder.__init__" s_Holder___init__ f fd)) (p4 : (∃ f fd, Meth K C "load" f ∧ Fun K "load" "Holder.load" s_Holder_load f fd)) (p5 : (∃ f fd, Meth K C "goals" f ∧ Fun K "goals" "Holder.goals" s_Holder_goals f fd)) (p6 : (∃ f fd, Meth K C "family" f ∧ Fun K "family" "Holder.family" s_Holder_family f fd)) (p7 : (∃ f fd, Meth K C "piece" f ∧ Fun K "piece" "Holder.piece" s_Holder_piece f fd)) (p8 : (∃ f fd, Meth K C "least" f ∧ Fun K "least" "Holder.least" s_Holder_least f fd)) (p9 : (∃ f fd, Meth K C "greedy" f ∧ Fun K "greedy" "Holder.greedy" s_Holder_greedy f fd)) (p10 : (∃ f fd, Meth K C "bound" f ∧ Fun K "bound" "Holder.bound" s_Holder_bound f fd)) (p11 : (∃ f fd, Meth K C "check" f ∧ Fun K "check" "Holder.check" s_Holder_check f fd)) (p12 : (∃ f fd, Meth K C "refusal" f ∧ Fun K "refusal" "Holder.refusal" s_Holder_refusal f fd)) (p13 : (∃ f fd, Meth K C "uncovered" f ∧ Fun K "uncovered" "Holder.uncovered" s_Holder_uncovered f fd)) : ∃ C, K_Holder K C := ⟨C, p0, p1, p2, p3, p4, p5, p6, p7, p8, p9, p10, p11, p12, p13⟩
theorem mk_ki {K : PySem.W.Frag} {x : Str} {v : Int} {t : Tok} (a : PySem.W.nsIn K mainGlobals x = some (some (.int v t))) : ∃ t, PySem.W.nsIn K mainGlobals x = some (some (.int v t)) := ⟨t, a⟩
theorem mk_ks {K : PySem.W.Frag} {x v : Str} {t : Tok} (a : PySem.W.nsIn K mainGlobals x = some (some (.str v t))) : ∃ t, PySem.W.nsIn K mainGlobals x = some (some (.str v t)) := ⟨t, a⟩
theorem mk_iso {K : PySem.W.Frag} {F L : Addr} (e1 : PySem.W.nsIn K mainGlobals "Fault" = some (some (.ref F))) (e2 : PySem.W.nsIn K mainGlobals "Listed" = some (some (.ref L))) (e3 : PySem.W.kitOne K (.ref F) (.ref F) = some true) (e4 : PySem.W.kitOne K (.ref L) (.ref F) = some false)
    (e5 : PySem.W.findIn K (.ref F) "__class__" = some (some (.builtin "object.__class__"))) (e6 : PySem.W.findIn K (.ref L) "__class__" = some (some (.builtin "object.__class__"))) (e7 : PySem.W.mroIn K F (.type "object") = some true) (e8 : PySem.W.mroIn K L (.type "object") = some true)
    (e9 : PySem.W.specialIn K (.builtin "object.__class__") "__get__" = some (some (.builtin "getset_descriptor.__get__"))) (e10 : PySem.W.takesIn K (.builtin "object.__class__") = some true) :
    ∀ CF CL, PySem.W.nsIn K mainGlobals "Fault" = some (some (.ref CF)) → PySem.W.nsIn K mainGlobals "Listed" = some (some (.ref CL)) → IsoF K CF CL := by
  intro CF CL h1 h2
  rw [h1] at e1
  rw [h2] at e2
  cases e1
  cases e2
  exact ⟨e3, e4, e5, e6, e7, e8, e9, e10⟩
theorem all_tx {K : PySem.W.Frag} {h : Heap} {mg : Str → Option Value} (X : K.In h) (G : h.Ns mainGlobals mg)
    (hd_joined_pairs : ∃ f fd, PySem.W.nsIn K mainGlobals "joined_pairs" = some (some (.ref f)) ∧ L2.Fun K "joined_pairs" "joined_pairs" LP.s_joined_pairs f fd)
    (hd_are_apart : ∃ f fd, PySem.W.nsIn K mainGlobals "are_apart" = some (some (.ref f)) ∧ L2.Fun K "are_apart" "are_apart" LP.s_are_apart f fd)
    (hd_goals_by_number : ∃ f fd, PySem.W.nsIn K mainGlobals "goals_by_number" = some (some (.ref f)) ∧ L2.Fun K "goals_by_number" "goals_by_number" LP.s_goals_by_number f fd)
    (hd_greatest_apart : ∃ f fd, PySem.W.nsIn K mainGlobals "greatest_apart" = some (some (.ref f)) ∧ L2.Fun K "greatest_apart" "greatest_apart" LP.s_greatest_apart f fd)
    (hd_is_within_margins : ∃ f fd, PySem.W.nsIn K mainGlobals "is_within_margins" = some (some (.ref f)) ∧ L2.Fun K "is_within_margins" "is_within_margins" LP.s_is_within_margins f fd)
    (hd_fits : ∃ f fd, PySem.W.nsIn K mainGlobals "fits" = some (some (.ref f)) ∧ L2.Fun K "fits" "fits" LP.s_fits f fd)
    (hd_parted_gaps : ∃ f fd, PySem.W.nsIn K mainGlobals "parted_gaps" = some (some (.ref f)) ∧ L2.Fun K "parted_gaps" "parted_gaps" LP.s_parted_gaps f fd)
    (hd_goals_of : ∃ f fd, PySem.W.nsIn K mainGlobals "goals_of" = some (some (.ref f)) ∧ L2.Fun K "goals_of" "goals_of" LP.s_goals_of f fd)
    (hd_pointed_pieces : ∃ f fd, PySem.W.nsIn K mainGlobals "pointed_pieces" = some (some (.ref f)) ∧ L2.Fun K "pointed_pieces" "pointed_pieces" LP.s_pointed_pieces f fd)
    (hd_pieces_around : ∃ f fd, PySem.W.nsIn K mainGlobals "pieces_around" = some (some (.ref f)) ∧ L2.Fun K "pieces_around" "pieces_around" LP.s_pieces_around f fd)
    (hd_is_good : ∃ f fd, PySem.W.nsIn K mainGlobals "is_good" = some (some (.ref f)) ∧ L2.Fun K "is_good" "is_good" LP.s_is_good f fd)
    (hd_covered_goals : ∃ f fd, PySem.W.nsIn K mainGlobals "covered_goals" = some (some (.ref f)) ∧ L2.Fun K "covered_goals" "covered_goals" LP.s_covered_goals f fd)
    (hd_family_up_to : ∃ f fd, PySem.W.nsIn K mainGlobals "family_up_to" = some (some (.ref f)) ∧ L2.Fun K "family_up_to" "family_up_to" LP.s_family_up_to f fd)
    (hd_used_pieces : ∃ f fd, PySem.W.nsIn K mainGlobals "used_pieces" = some (some (.ref f)) ∧ L2.Fun K "used_pieces" "used_pieces" LP.s_used_pieces f fd)
    (hd_first_uncovered : ∃ f fd, PySem.W.nsIn K mainGlobals "first_uncovered" = some (some (.ref f)) ∧ L2.Fun K "first_uncovered" "first_uncovered" LP.s_first_uncovered f fd)
    (hd_is_exact : ∃ f fd, PySem.W.nsIn K mainGlobals "is_exact" = some (some (.ref f)) ∧ L2.Fun K "is_exact" "is_exact" LP.s_is_exact f fd)
    (hd_goal_bits : ∃ f fd, PySem.W.nsIn K mainGlobals "goal_bits" = some (some (.ref f)) ∧ L2.Fun K "goal_bits" "goal_bits" LP.s_goal_bits f fd)
    (hd_lowest_uncovered : ∃ f fd, PySem.W.nsIn K mainGlobals "lowest_uncovered" = some (some (.ref f)) ∧ L2.Fun K "lowest_uncovered" "lowest_uncovered" LP.s_lowest_uncovered f fd)
    (hd_used_by_goal : ∃ f fd, PySem.W.nsIn K mainGlobals "used_by_goal" = some (some (.ref f)) ∧ L2.Fun K "used_by_goal" "used_by_goal" LP.s_used_by_goal f fd)
    (hd_least_choice : ∃ f fd, PySem.W.nsIn K mainGlobals "least_choice" = some (some (.ref f)) ∧ L2.Fun K "least_choice" "least_choice" LP.s_least_choice f fd)
    (hd_least_set : ∃ f fd, PySem.W.nsIn K mainGlobals "least_set" = some (some (.ref f)) ∧ L2.Fun K "least_set" "least_set" LP.s_least_set f fd)
    (hd_most_covering : ∃ f fd, PySem.W.nsIn K mainGlobals "most_covering" = some (some (.ref f)) ∧ L2.Fun K "most_covering" "most_covering" LP.s_most_covering f fd)
    (hd_greedy_set : ∃ f fd, PySem.W.nsIn K mainGlobals "greedy_set" = some (some (.ref f)) ∧ L2.Fun K "greedy_set" "greedy_set" LP.s_greedy_set f fd)
    (hd_is_margin : ∃ f fd, PySem.W.nsIn K mainGlobals "is_margin" = some (some (.ref f)) ∧ L2.Fun K "is_margin" "is_margin" LP.s_is_margin f fd)
    (hd_word_letters : ∃ f fd, PySem.W.nsIn K mainGlobals "word_letters" = some (some (.ref f)) ∧ L2.Fun K "word_letters" "word_letters" LP.s_word_letters f fd)
    (hd_is_word : ∃ f fd, PySem.W.nsIn K mainGlobals "is_word" = some (some (.ref f)) ∧ L2.Fun K "is_word" "is_word" LP.s_is_word f fd)
    (hd_word_breaks : ∃ f fd, PySem.W.nsIn K mainGlobals "word_breaks" = some (some (.ref f)) ∧ L2.Fun K "word_breaks" "word_breaks" LP.s_word_breaks f fd)
    (hd_without_points : ∃ f fd, PySem.W.nsIn K mainGlobals "without_points" = some (some (.ref f)) ∧ L2.Fun K "without_points" "without_points" LP.s_without_points f fd)
    (hd_without_digits : ∃ f fd, PySem.W.nsIn K mainGlobals "without_digits" = some (some (.ref f)) ∧ L2.Fun K "without_digits" "without_digits" LP.s_without_digits f fd)
    (hd_has_digits_side_by_side : ∃ f fd, PySem.W.nsIn K mainGlobals "has_digits_side_by_side" = some (some (.ref f)) ∧ L2.Fun K "has_digits_side_by_side" "has_digits_side_by_side" LP.s_has_digits_side_by_side f fd)
    (hd_is_pattern : ∃ f fd, PySem.W.nsIn K mainGlobals "is_pattern" = some (some (.ref f)) ∧ L2.Fun K "is_pattern" "is_pattern" LP.s_is_pattern f fd)
    (hd_is_blank : ∃ f fd, PySem.W.nsIn K mainGlobals "is_blank" = some (some (.ref f)) ∧ L2.Fun K "is_blank" "is_blank" LP.s_is_blank f fd)
    (hd_chunk_sign : ∃ f fd, PySem.W.nsIn K mainGlobals "chunk_sign" = some (some (.ref f)) ∧ L2.Fun K "chunk_sign" "chunk_sign" LP.s_chunk_sign f fd)
    (hd_remark_end : ∃ f fd, PySem.W.nsIn K mainGlobals "remark_end" = some (some (.ref f)) ∧ L2.Fun K "remark_end" "remark_end" LP.s_remark_end f fd)
    (hd_skip_blanks : ∃ f fd, PySem.W.nsIn K mainGlobals "skip_blanks" = some (some (.ref f)) ∧ L2.Fun K "skip_blanks" "skip_blanks" LP.s_skip_blanks f fd)
    (hd_chunk_at : ∃ f fd, PySem.W.nsIn K mainGlobals "chunk_at" = some (some (.ref f)) ∧ L2.Fun K "chunk_at" "chunk_at" LP.s_chunk_at f fd)
    (hd_token_at : ∃ f fd, PySem.W.nsIn K mainGlobals "token_at" = some (some (.ref f)) ∧ L2.Fun K "token_at" "token_at" LP.s_token_at f fd)
    (hd_read_tokens : ∃ f fd, PySem.W.nsIn K mainGlobals "read_tokens" = some (some (.ref f)) ∧ L2.Fun K "read_tokens" "read_tokens" LP.s_read_tokens f fd)
    (hd_read_list : ∃ f fd, PySem.W.nsIn K mainGlobals "read_list" = some (some (.ref f)) ∧ L2.Fun K "read_list" "read_list" LP.s_read_list f fd)
    (hd_is_piece : ∃ f fd, PySem.W.nsIn K mainGlobals "is_piece" = some (some (.ref f)) ∧ L2.Fun K "is_piece" "is_piece" LP.s_is_piece f fd)
    (hd_told_choice : ∃ f fd, PySem.W.nsIn K mainGlobals "told_choice" = some (some (.ref f)) ∧ L2.Fun K "told_choice" "told_choice" LP.s_told_choice f fd)
    (hd_call_end : ∃ f fd, PySem.W.nsIn K mainGlobals "call_end" = some (some (.ref f)) ∧ L2.Fun K "call_end" "call_end" LP.s_call_end f fd)
    (hd_answer_call : ∃ f fd, PySem.W.nsIn K mainGlobals "answer_call" = some (some (.ref f)) ∧ L2.Fun K "answer_call" "answer_call" LP.s_answer_call f fd)
    (hd_answers : ∃ f fd, PySem.W.nsIn K mainGlobals "answers" = some (some (.ref f)) ∧ L2.Fun K "answers" "answers" LP.s_answers f fd)
    (hc_Goal : ∃ C, K_Goal K C)
    (hc_Piece : ∃ C, K_Piece K C)
    (hc_Choice : ∃ C, K_Choice K C)
    (hc_Token : ∃ C, K_Token K C)
    (hc_Fault : ∃ C, K_Fault K C)
    (hc_Word : ∃ C, K_Word K C)
    (hc_Listed : ∃ C, K_Listed K C)
    (hc_ListReader : ∃ C, K_ListReader K C)
    (hc_Holder : ∃ C, K_Holder K C)
    (hk_FEWEST_PIECES : ∃ t, PySem.W.nsIn K mainGlobals "FEWEST_PIECES" = some (some (.int 0 t)))
    (hk_FEWEST_BYTES : ∃ t, PySem.W.nsIn K mainGlobals "FEWEST_BYTES" = some (some (.int 1 t)))
    (hk_MOST_MARGIN : ∃ t, PySem.W.nsIn K mainGlobals "MOST_MARGIN" = some (some (.int 5 t)))
    (hk_LEAST_WORD_LETTERS : ∃ t, PySem.W.nsIn K mainGlobals "LEAST_WORD_LETTERS" = some (some (.int 2 t)))
    (hk_MOST_WORD_LETTERS : ∃ t, PySem.W.nsIn K mainGlobals "MOST_WORD_LETTERS" = some (some (.int 16 t)))
    (hk_MOST_PATTERN_LETTERS : ∃ t, PySem.W.nsIn K mainGlobals "MOST_PATTERN_LETTERS" = some (some (.int 6 t)))
    (hk_LETTERS : ∃ t, PySem.W.nsIn K mainGlobals "LETTERS" = some (some (.str "abcdefghijklmnopqrstuvwxyz" t)))
    (hk_DIGITS : ∃ t, PySem.W.nsIn K mainGlobals "DIGITS" = some (some (.str "0123456789" t)))
    (hk_MOST_CHUNK_BYTES : ∃ t, PySem.W.nsIn K mainGlobals "MOST_CHUNK_BYTES" = some (some (.int 40 t)))
    (hk_SIGN : ∃ t, PySem.W.nsIn K mainGlobals "SIGN" = some (some (.str ";" t)))
    (hk_END : ∃ t, PySem.W.nsIn K mainGlobals "END" = some (some (.str "" t)))
    (hk_NO_TOKEN : ∃ t, PySem.W.nsIn K mainGlobals "NO_TOKEN" = some (some (.str "?" t)))
    (hk_MOST_BYTES : ∃ t, PySem.W.nsIn K mainGlobals "MOST_BYTES" = some (some (.int 4096 t)))
    (hk_MOST_WORDS : ∃ t, PySem.W.nsIn K mainGlobals "MOST_WORDS" = some (some (.int 24 t)))
    (hk_MOST_PATTERNS : ∃ t, PySem.W.nsIn K mainGlobals "MOST_PATTERNS" = some (some (.int 40 t)))
    (hk_NO_FAULT : ∃ t, PySem.W.nsIn K mainGlobals "NO_FAULT" = some (some (.int 0 t)))
    (hk_FAULT_TOO_LONG : ∃ t, PySem.W.nsIn K mainGlobals "FAULT_TOO_LONG" = some (some (.int 1 t)))
    (hk_FAULT_NO_TOKEN : ∃ t, PySem.W.nsIn K mainGlobals "FAULT_NO_TOKEN" = some (some (.int 2 t)))
    (hk_FAULT_NOT_ALLOWED : ∃ t, PySem.W.nsIn K mainGlobals "FAULT_NOT_ALLOWED" = some (some (.int 3 t)))
    (hk_FAULT_TOO_MANY : ∃ t, PySem.W.nsIn K mainGlobals "FAULT_TOO_MANY" = some (some (.int 4 t)))
    (hk_FAULT_TWICE : ∃ t, PySem.W.nsIn K mainGlobals "FAULT_TWICE" = some (some (.int 5 t)))
    (hk_FAULT_NOT_AS_TOLD : ∃ t, PySem.W.nsIn K mainGlobals "FAULT_NOT_AS_TOLD" = some (some (.int 7 t)))
    (hk_NOT_REFUSED : ∃ t, PySem.W.nsIn K mainGlobals "NOT_REFUSED" = some (some (.int 0 t)))
    (hk_MOST_LENGTH : ∃ t, PySem.W.nsIn K mainGlobals "MOST_LENGTH" = some (some (.int 4 t)))
    (hk_MOST_GOALS : ∃ t, PySem.W.nsIn K mainGlobals "MOST_GOALS" = some (some (.int 9 t)))
    (hk_LOAD : ∃ t, PySem.W.nsIn K mainGlobals "LOAD" = some (some (.int 0 t)))
    (hk_GOALS : ∃ t, PySem.W.nsIn K mainGlobals "GOALS" = some (some (.int 1 t)))
    (hk_FAMILY : ∃ t, PySem.W.nsIn K mainGlobals "FAMILY" = some (some (.int 2 t)))
    (hk_PIECE : ∃ t, PySem.W.nsIn K mainGlobals "PIECE" = some (some (.int 3 t)))
    (hk_LEAST : ∃ t, PySem.W.nsIn K mainGlobals "LEAST" = some (some (.int 4 t)))
    (hk_GREEDY : ∃ t, PySem.W.nsIn K mainGlobals "GREEDY" = some (some (.int 5 t)))
    (hk_BOUND : ∃ t, PySem.W.nsIn K mainGlobals "BOUND" = some (some (.int 6 t)))
    (hk_CHECK : ∃ t, PySem.W.nsIn K mainGlobals "CHECK" = some (some (.int 7 t)))
    (hb_len : PySem.W.nsIn K mainGlobals "len" = some none)
    (hb_any : PySem.W.nsIn K mainGlobals "any" = some none)
    (hb_all : PySem.W.nsIn K mainGlobals "all" = some none)
    (hb_range : PySem.W.nsIn K mainGlobals "range" = some none)
    (hb_tuple : PySem.W.nsIn K mainGlobals "tuple" = some none)
    (hb_list : PySem.W.nsIn K mainGlobals "list" = some none)
    (hb_ord : PySem.W.nsIn K mainGlobals "ord" = some none)
    (hb_int : PySem.W.nsIn K mainGlobals "int" = some none)
    (hb_enumerate : PySem.W.nsIn K mainGlobals "enumerate" = some none)
    (hb_isinstance : PySem.W.nsIn K mainGlobals "isinstance" = some none)
    (hiso : ∀ CF CL, PySem.W.nsIn K mainGlobals "Fault" = some (some (.ref CF)) → PySem.W.nsIn K mainGlobals "Listed" = some (some (.ref CL)) → IsoF K CF CL)
    : Nonempty (TX K mg) := by
  obtain ⟨f_joined_pairs, d_joined_pairs, a_joined_pairs, F_joined_pairs⟩ := hd_joined_pairs
  have b_joined_pairs := F_joined_pairs.binds (ps := ["pieces", "goal_count"]) fun _ _ _ _ _ _ us hl => match us, hl with | [_, _], _ => rfl
  obtain ⟨f_are_apart, d_are_apart, a_are_apart, F_are_apart⟩ := hd_are_apart
  have b_are_apart := F_are_apart.binds (ps := ["pairs", "goals"]) fun _ _ _ _ _ _ us hl => match us, hl with | [_, _], _ => rfl
  obtain ⟨f_goals_by_number, d_goals_by_number, a_goals_by_number, F_goals_by_number⟩ := hd_goals_by_number
  have b_goals_by_number := F_goals_by_number.binds (ps := ["number", "goal_count"]) fun _ _ _ _ _ _ us hl => match us, hl with | [_, _], _ => rfl
  obtain ⟨f_greatest_apart, d_greatest_apart, a_greatest_apart, F_greatest_apart⟩ := hd_greatest_apart
  have b_greatest_apart := F_greatest_apart.binds (ps := ["pieces", "goal_count"]) fun _ _ _ _ _ _ us hl => match us, hl with | [_, _], _ => rfl
  obtain ⟨f_is_within_margins, d_is_within_margins, a_is_within_margins, F_is_within_margins⟩ := hd_is_within_margins
  have b_is_within_margins := F_is_within_margins.binds (ps := ["margins", "letters", "gap"]) fun _ _ _ _ _ _ us hl => match us, hl with | [_, _, _], _ => rfl
  obtain ⟨f_fits, d_fits, a_fits, F_fits⟩ := hd_fits
  have b_fits := F_fits.binds (ps := ["piece", "letters", "place"]) fun _ _ _ _ _ _ us hl => match us, hl with | [_, _, _], _ => rfl
  obtain ⟨f_parted_gaps, d_parted_gaps, a_parted_gaps, F_parted_gaps⟩ := hd_parted_gaps
  have b_parted_gaps := F_parted_gaps.binds (ps := ["margins", "piece", "letters"]) fun _ _ _ _ _ _ us hl => match us, hl with | [_, _, _], _ => rfl
  obtain ⟨f_goals_of, d_goals_of, a_goals_of, F_goals_of⟩ := hd_goals_of
  have b_goals_of := F_goals_of.binds (ps := ["listed"]) fun _ _ _ _ _ _ us hl => match us, hl with | [_], _ => rfl
  obtain ⟨f_pointed_pieces, d_pointed_pieces, a_pointed_pieces, F_pointed_pieces⟩ := hd_pointed_pieces
  have b_pointed_pieces := F_pointed_pieces.binds (ps := ["letters", "gap", "place", "length"]) fun _ _ _ _ _ _ us hl => match us, hl with | [_, _, _, _], _ => rfl
  obtain ⟨f_pieces_around, d_pieces_around, a_pieces_around, F_pieces_around⟩ := hd_pieces_around
  have b_pieces_around := F_pieces_around.binds (ps := ["letters", "gap", "longest"]) fun _ _ _ _ _ _ us hl => match us, hl with | [_, _, _], _ => rfl
  obtain ⟨f_is_good, d_is_good, a_is_good, F_is_good⟩ := hd_is_good
  have b_is_good := F_is_good.binds (ps := ["listed", "piece"]) fun _ _ _ _ _ _ us hl => match us, hl with | [_, _], _ => rfl
  obtain ⟨f_covered_goals, d_covered_goals, a_covered_goals, F_covered_goals⟩ := hd_covered_goals
  have b_covered_goals := F_covered_goals.binds (ps := ["listed", "goals", "piece"]) fun _ _ _ _ _ _ us hl => match us, hl with | [_, _, _], _ => rfl
  obtain ⟨f_family_up_to, d_family_up_to, a_family_up_to, F_family_up_to⟩ := hd_family_up_to
  have b_family_up_to := F_family_up_to.binds (ps := ["listed", "longest"]) fun _ _ _ _ _ _ us hl => match us, hl with | [_, _], _ => rfl
  obtain ⟨f_used_pieces, d_used_pieces, a_used_pieces, F_used_pieces⟩ := hd_used_pieces
  have b_used_pieces := F_used_pieces.binds (ps := ["pieces"]) fun _ _ _ _ _ _ us hl => match us, hl with | [_], _ => rfl
  obtain ⟨f_first_uncovered, d_first_uncovered, a_first_uncovered, F_first_uncovered⟩ := hd_first_uncovered
  have b_first_uncovered := F_first_uncovered.binds (ps := ["goals", "pieces"]) fun _ _ _ _ _ _ us hl => match us, hl with | [_, _], _ => rfl
  obtain ⟨f_is_exact, d_is_exact, a_is_exact, F_is_exact⟩ := hd_is_exact
  have b_is_exact := F_is_exact.binds (ps := ["goals", "pieces"]) fun _ _ _ _ _ _ us hl => match us, hl with | [_, _], _ => rfl
  obtain ⟨f_goal_bits, d_goal_bits, a_goal_bits, F_goal_bits⟩ := hd_goal_bits
  have b_goal_bits := F_goal_bits.binds (ps := ["goals"]) fun _ _ _ _ _ _ us hl => match us, hl with | [_], _ => rfl
  obtain ⟨f_lowest_uncovered, d_lowest_uncovered, a_lowest_uncovered, F_lowest_uncovered⟩ := hd_lowest_uncovered
  have b_lowest_uncovered := F_lowest_uncovered.binds (ps := ["covered"]) fun _ _ _ _ _ _ us hl => match us, hl with | [_], _ => rfl
  obtain ⟨f_used_by_goal, d_used_by_goal, a_used_by_goal, F_used_by_goal⟩ := hd_used_by_goal
  have b_used_by_goal := F_used_by_goal.binds (ps := ["pieces", "goal_count"]) fun _ _ _ _ _ _ us hl => match us, hl with | [_, _], _ => rfl
  obtain ⟨f_least_choice, d_least_choice, a_least_choice, F_least_choice⟩ := hd_least_choice
  have b_least_choice := F_least_choice.binds (ps := ["choices", "kind"]) fun _ _ _ _ _ _ us hl => match us, hl with | [_, _], _ => rfl
  obtain ⟨f_least_set, d_least_set, a_least_set, F_least_set⟩ := hd_least_set
  have b_least_set := F_least_set.binds (ps := ["pieces", "goal_count", "kind"]) fun _ _ _ _ _ _ us hl => match us, hl with | [_, _, _], _ => rfl
  obtain ⟨f_most_covering, d_most_covering, a_most_covering, F_most_covering⟩ := hd_most_covering
  have b_most_covering := F_most_covering.binds (ps := ["pieces", "covered"]) fun _ _ _ _ _ _ us hl => match us, hl with | [_, _], _ => rfl
  obtain ⟨f_greedy_set, d_greedy_set, a_greedy_set, F_greedy_set⟩ := hd_greedy_set
  have b_greedy_set := F_greedy_set.binds (ps := ["pieces"]) fun _ _ _ _ _ _ us hl => match us, hl with | [_], _ => rfl
  obtain ⟨f_is_margin, d_is_margin, a_is_margin, F_is_margin⟩ := hd_is_margin
  have b_is_margin := F_is_margin.binds (ps := ["chunk"]) fun _ _ _ _ _ _ us hl => match us, hl with | [_], _ => rfl
  obtain ⟨f_word_letters, d_word_letters, a_word_letters, F_word_letters⟩ := hd_word_letters
  have b_word_letters := F_word_letters.binds (ps := ["chunk"]) fun _ _ _ _ _ _ us hl => match us, hl with | [_], _ => rfl
  obtain ⟨f_is_word, d_is_word, a_is_word, F_is_word⟩ := hd_is_word
  have b_is_word := F_is_word.binds (ps := ["chunk"]) fun _ _ _ _ _ _ us hl => match us, hl with | [_], _ => rfl
  obtain ⟨f_word_breaks, d_word_breaks, a_word_breaks, F_word_breaks⟩ := hd_word_breaks
  have b_word_breaks := F_word_breaks.binds (ps := ["chunk"]) fun _ _ _ _ _ _ us hl => match us, hl with | [_], _ => rfl
  obtain ⟨f_without_points, d_without_points, a_without_points, F_without_points⟩ := hd_without_points
  have b_without_points := F_without_points.binds (ps := ["chunk"]) fun _ _ _ _ _ _ us hl => match us, hl with | [_], _ => rfl
  obtain ⟨f_without_digits, d_without_digits, a_without_digits, F_without_digits⟩ := hd_without_digits
  have b_without_digits := F_without_digits.binds (ps := ["chunk"]) fun _ _ _ _ _ _ us hl => match us, hl with | [_], _ => rfl
  obtain ⟨f_has_digits_side_by_side, d_has_digits_side_by_side, a_has_digits_side_by_side, F_has_digits_side_by_side⟩ := hd_has_digits_side_by_side
  have b_has_digits_side_by_side := F_has_digits_side_by_side.binds (ps := ["body"]) fun _ _ _ _ _ _ us hl => match us, hl with | [_], _ => rfl
  obtain ⟨f_is_pattern, d_is_pattern, a_is_pattern, F_is_pattern⟩ := hd_is_pattern
  have b_is_pattern := F_is_pattern.binds (ps := ["chunk"]) fun _ _ _ _ _ _ us hl => match us, hl with | [_], _ => rfl
  obtain ⟨f_is_blank, d_is_blank, a_is_blank, F_is_blank⟩ := hd_is_blank
  have b_is_blank := F_is_blank.binds (ps := ["byte"]) fun _ _ _ _ _ _ us hl => match us, hl with | [_], _ => rfl
  obtain ⟨f_chunk_sign, d_chunk_sign, a_chunk_sign, F_chunk_sign⟩ := hd_chunk_sign
  have b_chunk_sign := F_chunk_sign.binds (ps := ["byte"]) fun _ _ _ _ _ _ us hl => match us, hl with | [_], _ => rfl
  obtain ⟨f_remark_end, d_remark_end, a_remark_end, F_remark_end⟩ := hd_remark_end
  have b_remark_end := F_remark_end.binds (ps := ["text", "place"]) fun _ _ _ _ _ _ us hl => match us, hl with | [_, _], _ => rfl
  obtain ⟨f_skip_blanks, d_skip_blanks, a_skip_blanks, F_skip_blanks⟩ := hd_skip_blanks
  have b_skip_blanks := F_skip_blanks.binds (ps := ["text", "place"]) fun _ _ _ _ _ _ us hl => match us, hl with | [_, _], _ => rfl
  obtain ⟨f_chunk_at, d_chunk_at, a_chunk_at, F_chunk_at⟩ := hd_chunk_at
  have b_chunk_at := F_chunk_at.binds (ps := ["text", "place"]) fun _ _ _ _ _ _ us hl => match us, hl with | [_, _], _ => rfl
  obtain ⟨f_token_at, d_token_at, a_token_at, F_token_at⟩ := hd_token_at
  have b_token_at := F_token_at.binds (ps := ["text", "place"]) fun _ _ _ _ _ _ us hl => match us, hl with | [_, _], _ => rfl
  obtain ⟨f_read_tokens, d_read_tokens, a_read_tokens, F_read_tokens⟩ := hd_read_tokens
  have b_read_tokens := F_read_tokens.binds (ps := ["text"]) fun _ _ _ _ _ _ us hl => match us, hl with | [_], _ => rfl
  obtain ⟨f_read_list, d_read_list, a_read_list, F_read_list⟩ := hd_read_list
  have b_read_list := F_read_list.binds (ps := ["text"]) fun _ _ _ _ _ _ us hl => match us, hl with | [_], _ => rfl
  obtain ⟨f_is_piece, d_is_piece, a_is_piece, F_is_piece⟩ := hd_is_piece
  have b_is_piece := F_is_piece.binds (ps := ["pieces", "number"]) fun _ _ _ _ _ _ us hl => match us, hl with | [_, _], _ => rfl
  obtain ⟨f_told_choice, d_told_choice, a_told_choice, F_told_choice⟩ := hd_told_choice
  have b_told_choice := F_told_choice.binds (ps := ["choice"]) fun _ _ _ _ _ _ us hl => match us, hl with | [_], _ => rfl
  obtain ⟨f_call_end, d_call_end, a_call_end, F_call_end⟩ := hd_call_end
  have b_call_end := F_call_end.binds (ps := ["calls", "start"]) fun _ _ _ _ _ _ us hl => match us, hl with | [_, _], _ => rfl
  obtain ⟨f_answer_call, d_answer_call, a_answer_call, F_answer_call⟩ := hd_answer_call
  have b_answer_call := F_answer_call.binds (ps := ["holder", "call"]) fun _ _ _ _ _ _ us hl => match us, hl with | [_, _], _ => rfl
  obtain ⟨f_answers, d_answers, a_answers, F_answers⟩ := hd_answers
  have b_answers := F_answers.binds (ps := ["calls"]) fun _ _ _ _ _ _ us hl => match us, hl with | [_], _ => rfl
  obtain ⟨C_Goal, a_Goal, ⟨cl_Goal, mk_Goal, kc_Goal⟩, n_Goal_word, n_Goal_gap, ⟨f_Goal___init__, d_Goal___init__, mm_Goal___init__, F_Goal___init__⟩⟩ := hc_Goal
  have b_Goal___init__ := F_Goal___init__.binds (ps := ["self", "word", "gap"]) fun _ _ _ _ _ _ us hl => match us, hl with | [_, _, _], _ => rfl
  obtain ⟨C_Piece, a_Piece, ⟨cl_Piece, mk_Piece, kc_Piece⟩, n_Piece_letters, n_Piece_before, n_Piece_first_point, n_Piece_last_point, n_Piece_chunk, n_Piece_covered, ⟨f_Piece___init__, d_Piece___init__, mm_Piece___init__, F_Piece___init__⟩⟩ := hc_Piece
  have b_Piece___init__ := F_Piece___init__.binds (ps := ["self", "letters", "before", "first_point", "last_point"]) fun _ _ _ _ _ _ us hl => match us, hl with | [_, _, _, _, _], _ => rfl
  obtain ⟨C_Choice, a_Choice, ⟨cl_Choice, mk_Choice, kc_Choice⟩, n_Choice_numbers, n_Choice_size, ⟨f_Choice___init__, d_Choice___init__, mm_Choice___init__, F_Choice___init__⟩, ⟨f_Choice_rank, d_Choice_rank, mm_Choice_rank, F_Choice_rank⟩⟩ := hc_Choice
  have b_Choice___init__ := F_Choice___init__.binds (ps := ["self", "numbers", "size"]) fun _ _ _ _ _ _ us hl => match us, hl with | [_, _, _], _ => rfl
  have b_Choice_rank := F_Choice_rank.binds (ps := ["self", "kind"]) fun _ _ _ _ _ _ us hl => match us, hl with | [_, _], _ => rfl
  obtain ⟨C_Token, a_Token, ⟨cl_Token, mk_Token, kc_Token⟩, n_Token_text, n_Token_place, ⟨f_Token___init__, d_Token___init__, mm_Token___init__, F_Token___init__⟩, ⟨f_Token_is_chunk, d_Token_is_chunk, mm_Token_is_chunk, F_Token_is_chunk⟩⟩ := hc_Token
  have b_Token___init__ := F_Token___init__.binds (ps := ["self", "text", "place"]) fun _ _ _ _ _ _ us hl => match us, hl with | [_, _, _], _ => rfl
  have b_Token_is_chunk := F_Token_is_chunk.binds (ps := ["self"]) fun _ _ _ _ _ _ us hl => match us, hl with | [_], _ => rfl
  obtain ⟨C_Fault, a_Fault, ⟨cl_Fault, mk_Fault, kc_Fault⟩, n_Fault_code, n_Fault_place, ⟨f_Fault___init__, d_Fault___init__, mm_Fault___init__, F_Fault___init__⟩⟩ := hc_Fault
  have b_Fault___init__ := F_Fault___init__.binds (ps := ["self", "code", "place"]) fun _ _ _ _ _ _ us hl => match us, hl with | [_, _, _], _ => rfl
  obtain ⟨C_Word, a_Word, ⟨cl_Word, mk_Word, kc_Word⟩, n_Word_letters, n_Word_breaks, ⟨f_Word___init__, d_Word___init__, mm_Word___init__, F_Word___init__⟩⟩ := hc_Word
  have b_Word___init__ := F_Word___init__.binds (ps := ["self", "chunk"]) fun _ _ _ _ _ _ us hl => match us, hl with | [_, _], _ => rfl
  obtain ⟨C_Listed, a_Listed, ⟨cl_Listed, mk_Listed, kc_Listed⟩, n_Listed_margins, n_Listed_words, n_Listed_patterns, ⟨f_Listed___init__, d_Listed___init__, mm_Listed___init__, F_Listed___init__⟩⟩ := hc_Listed
  have b_Listed___init__ := F_Listed___init__.binds (ps := ["self"]) fun _ _ _ _ _ _ us hl => match us, hl with | [_], _ => rfl
  obtain ⟨C_ListReader, a_ListReader, ⟨cl_ListReader, mk_ListReader, kc_ListReader⟩, n_ListReader_listed, n_ListReader_awaited, ⟨f_ListReader___init__, d_ListReader___init__, mm_ListReader___init__, F_ListReader___init__⟩, ⟨f_ListReader_take, d_ListReader_take, mm_ListReader_take, F_ListReader_take⟩, ⟨f_ListReader_take_start, d_ListReader_take_start, mm_ListReader_take_start, F_ListReader_take_start⟩, ⟨f_ListReader_take_margin, d_ListReader_take_margin, mm_ListReader_take_margin, F_ListReader_take_margin⟩, ⟨f_ListReader_take_sign, d_ListReader_take_sign, mm_ListReader_take_sign, F_ListReader_take_sign⟩, ⟨f_ListReader_take_entry, d_ListReader_take_entry, mm_ListReader_take_entry, F_ListReader_take_entry⟩, ⟨f_ListReader_begin_entry, d_ListReader_begin_entry, mm_ListReader_begin_entry, F_ListReader_begin_entry⟩, ⟨f_ListReader_take_word, d_ListReader_take_word, mm_ListReader_take_word, F_ListReader_take_word⟩, ⟨f_ListReader_take_pattern, d_ListReader_take_pattern, mm_ListReader_take_pattern, F_ListReader_take_pattern⟩⟩ := hc_ListReader
  have b_ListReader___init__ := F_ListReader___init__.binds (ps := ["self"]) fun _ _ _ _ _ _ us hl => match us, hl with | [_], _ => rfl
  have b_ListReader_take := F_ListReader_take.binds (ps := ["self", "token"]) fun _ _ _ _ _ _ us hl => match us, hl with | [_, _], _ => rfl
  have b_ListReader_take_start := F_ListReader_take_start.binds (ps := ["self", "token"]) fun _ _ _ _ _ _ us hl => match us, hl with | [_, _], _ => rfl
  have b_ListReader_take_margin := F_ListReader_take_margin.binds (ps := ["self", "chunk"]) fun _ _ _ _ _ _ us hl => match us, hl with | [_, _], _ => rfl
  have b_ListReader_take_sign := F_ListReader_take_sign.binds (ps := ["self", "token"]) fun _ _ _ _ _ _ us hl => match us, hl with | [_, _], _ => rfl
  have b_ListReader_take_entry := F_ListReader_take_entry.binds (ps := ["self", "token"]) fun _ _ _ _ _ _ us hl => match us, hl with | [_, _], _ => rfl
  have b_ListReader_begin_entry := F_ListReader_begin_entry.binds (ps := ["self", "kind", "has_room"]) fun _ _ _ _ _ _ us hl => match us, hl with | [_, _, _], _ => rfl
  have b_ListReader_take_word := F_ListReader_take_word.binds (ps := ["self", "chunk"]) fun _ _ _ _ _ _ us hl => match us, hl with | [_, _], _ => rfl
  have b_ListReader_take_pattern := F_ListReader_take_pattern.binds (ps := ["self", "chunk"]) fun _ _ _ _ _ _ us hl => match us, hl with | [_, _], _ => rfl
  obtain ⟨C_Holder, a_Holder, ⟨cl_Holder, mk_Holder, kc_Holder⟩, n_Holder_listed, ⟨f_Holder___init__, d_Holder___init__, mm_Holder___init__, F_Holder___init__⟩, ⟨f_Holder_load, d_Holder_load, mm_Holder_load, F_Holder_load⟩, ⟨f_Holder_goals, d_Holder_goals, mm_Holder_goals, F_Holder_goals⟩, ⟨f_Holder_family, d_Holder_family, mm_Holder_family, F_Holder_family⟩, ⟨f_Holder_piece, d_Holder_piece, mm_Holder_piece, F_Holder_piece⟩, ⟨f_Holder_least, d_Holder_least, mm_Holder_least, F_Holder_least⟩, ⟨f_Holder_greedy, d_Holder_greedy, mm_Holder_greedy, F_Holder_greedy⟩, ⟨f_Holder_bound, d_Holder_bound, mm_Holder_bound, F_Holder_bound⟩, ⟨f_Holder_check, d_Holder_check, mm_Holder_check, F_Holder_check⟩, ⟨f_Holder_refusal, d_Holder_refusal, mm_Holder_refusal, F_Holder_refusal⟩, ⟨f_Holder_uncovered, d_Holder_uncovered, mm_Holder_uncovered, F_Holder_uncovered⟩⟩ := hc_Holder
  have b_Holder___init__ := F_Holder___init__.binds (ps := ["self"]) fun _ _ _ _ _ _ us hl => match us, hl with | [_], _ => rfl
  have b_Holder_load := F_Holder_load.binds (ps := ["self", "text"]) fun _ _ _ _ _ _ us hl => match us, hl with | [_, _], _ => rfl
  have b_Holder_goals := F_Holder_goals.binds (ps := ["self"]) fun _ _ _ _ _ _ us hl => match us, hl with | [_], _ => rfl
  have b_Holder_family := F_Holder_family.binds (ps := ["self", "longest"]) fun _ _ _ _ _ _ us hl => match us, hl with | [_, _], _ => rfl
  have b_Holder_piece := F_Holder_piece.binds (ps := ["self", "longest", "number"]) fun _ _ _ _ _ _ us hl => match us, hl with | [_, _, _], _ => rfl
  have b_Holder_least := F_Holder_least.binds (ps := ["self", "longest", "kind"]) fun _ _ _ _ _ _ us hl => match us, hl with | [_, _, _], _ => rfl
  have b_Holder_greedy := F_Holder_greedy.binds (ps := ["self", "longest"]) fun _ _ _ _ _ _ us hl => match us, hl with | [_, _], _ => rfl
  have b_Holder_bound := F_Holder_bound.binds (ps := ["self", "longest"]) fun _ _ _ _ _ _ us hl => match us, hl with | [_, _], _ => rfl
  have b_Holder_check := F_Holder_check.binds (ps := ["self", "longest", "numbers"]) fun _ _ _ _ _ _ us hl => match us, hl with | [_, _, _], _ => rfl
  have b_Holder_refusal := F_Holder_refusal.binds (ps := ["self", "longest"]) fun _ _ _ _ _ _ us hl => match us, hl with | [_, _], _ => rfl
  have b_Holder_uncovered := F_Holder_uncovered.binds (ps := ["self", "pieces"]) fun _ _ _ _ _ _ us hl => match us, hl with | [_, _], _ => rfl
  obtain ⟨t_FEWEST_PIECES, e_FEWEST_PIECES⟩ := hk_FEWEST_PIECES
  obtain ⟨t_FEWEST_BYTES, e_FEWEST_BYTES⟩ := hk_FEWEST_BYTES
  obtain ⟨t_MOST_MARGIN, e_MOST_MARGIN⟩ := hk_MOST_MARGIN
  obtain ⟨t_LEAST_WORD_LETTERS, e_LEAST_WORD_LETTERS⟩ := hk_LEAST_WORD_LETTERS
  obtain ⟨t_MOST_WORD_LETTERS, e_MOST_WORD_LETTERS⟩ := hk_MOST_WORD_LETTERS
  obtain ⟨t_MOST_PATTERN_LETTERS, e_MOST_PATTERN_LETTERS⟩ := hk_MOST_PATTERN_LETTERS
  obtain ⟨t_LETTERS, e_LETTERS⟩ := hk_LETTERS
  obtain ⟨t_DIGITS, e_DIGITS⟩ := hk_DIGITS
  obtain ⟨t_MOST_CHUNK_BYTES, e_MOST_CHUNK_BYTES⟩ := hk_MOST_CHUNK_BYTES
  obtain ⟨t_SIGN, e_SIGN⟩ := hk_SIGN
  obtain ⟨t_END, e_END⟩ := hk_END
  obtain ⟨t_NO_TOKEN, e_NO_TOKEN⟩ := hk_NO_TOKEN
  obtain ⟨t_MOST_BYTES, e_MOST_BYTES⟩ := hk_MOST_BYTES
  obtain ⟨t_MOST_WORDS, e_MOST_WORDS⟩ := hk_MOST_WORDS
  obtain ⟨t_MOST_PATTERNS, e_MOST_PATTERNS⟩ := hk_MOST_PATTERNS
  obtain ⟨t_NO_FAULT, e_NO_FAULT⟩ := hk_NO_FAULT
  obtain ⟨t_FAULT_TOO_LONG, e_FAULT_TOO_LONG⟩ := hk_FAULT_TOO_LONG
  obtain ⟨t_FAULT_NO_TOKEN, e_FAULT_NO_TOKEN⟩ := hk_FAULT_NO_TOKEN
  obtain ⟨t_FAULT_NOT_ALLOWED, e_FAULT_NOT_ALLOWED⟩ := hk_FAULT_NOT_ALLOWED
  obtain ⟨t_FAULT_TOO_MANY, e_FAULT_TOO_MANY⟩ := hk_FAULT_TOO_MANY
  obtain ⟨t_FAULT_TWICE, e_FAULT_TWICE⟩ := hk_FAULT_TWICE
  obtain ⟨t_FAULT_NOT_AS_TOLD, e_FAULT_NOT_AS_TOLD⟩ := hk_FAULT_NOT_AS_TOLD
  obtain ⟨t_NOT_REFUSED, e_NOT_REFUSED⟩ := hk_NOT_REFUSED
  obtain ⟨t_MOST_LENGTH, e_MOST_LENGTH⟩ := hk_MOST_LENGTH
  obtain ⟨t_MOST_GOALS, e_MOST_GOALS⟩ := hk_MOST_GOALS
  obtain ⟨t_LOAD, e_LOAD⟩ := hk_LOAD
  obtain ⟨t_GOALS, e_GOALS⟩ := hk_GOALS
  obtain ⟨t_FAMILY, e_FAMILY⟩ := hk_FAMILY
  obtain ⟨t_PIECE, e_PIECE⟩ := hk_PIECE
  obtain ⟨t_LEAST, e_LEAST⟩ := hk_LEAST
  obtain ⟨t_GREEDY, e_GREEDY⟩ := hk_GREEDY
  obtain ⟨t_BOUND, e_BOUND⟩ := hk_BOUND
  obtain ⟨t_CHECK, e_CHECK⟩ := hk_CHECK
  exact ⟨⟨f_joined_pairs, d_joined_pairs, PySem.W.mg_of X G a_joined_pairs, F_joined_pairs, b_joined_pairs, f_are_apart, d_are_apart, PySem.W.mg_of X G a_are_apart, F_are_apart, b_are_apart, f_goals_by_number, d_goals_by_number, PySem.W.mg_of X G a_goals_by_number, F_goals_by_number, b_goals_by_number, f_greatest_apart, d_greatest_apart, PySem.W.mg_of X G a_greatest_apart, F_greatest_apart, b_greatest_apart, f_is_within_margins, d_is_within_margins, PySem.W.mg_of X G a_is_within_margins, F_is_within_margins, b_is_within_margins, f_fits, d_fits, PySem.W.mg_of X G a_fits, F_fits, b_fits, f_parted_gaps, d_parted_gaps, PySem.W.mg_of X G a_parted_gaps, F_parted_gaps, b_parted_gaps, f_goals_of, d_goals_of, PySem.W.mg_of X G a_goals_of, F_goals_of, b_goals_of, f_pointed_pieces, d_pointed_pieces, PySem.W.mg_of X G a_pointed_pieces, F_pointed_pieces, b_pointed_pieces, f_pieces_around, d_pieces_around, PySem.W.mg_of X G a_pieces_around, F_pieces_around, b_pieces_around, f_is_good, d_is_good, PySem.W.mg_of X G a_is_good, F_is_good, b_is_good, f_covered_goals, d_covered_goals, PySem.W.mg_of X G a_covered_goals, F_covered_goals, b_covered_goals, f_family_up_to, d_family_up_to, PySem.W.mg_of X G a_family_up_to, F_family_up_to, b_family_up_to, f_used_pieces, d_used_pieces, PySem.W.mg_of X G a_used_pieces, F_used_pieces, b_used_pieces, f_first_uncovered, d_first_uncovered, PySem.W.mg_of X G a_first_uncovered, F_first_uncovered, b_first_uncovered, f_is_exact, d_is_exact, PySem.W.mg_of X G a_is_exact, F_is_exact, b_is_exact, f_goal_bits, d_goal_bits, PySem.W.mg_of X G a_goal_bits, F_goal_bits, b_goal_bits, f_lowest_uncovered, d_lowest_uncovered, PySem.W.mg_of X G a_lowest_uncovered, F_lowest_uncovered, b_lowest_uncovered, f_used_by_goal, d_used_by_goal, PySem.W.mg_of X G a_used_by_goal, F_used_by_goal, b_used_by_goal, f_least_choice, d_least_choice, PySem.W.mg_of X G a_least_choice, F_least_choice, b_least_choice, f_least_set, d_least_set, PySem.W.mg_of X G a_least_set, F_least_set, b_least_set, f_most_covering, d_most_covering, PySem.W.mg_of X G a_most_covering, F_most_covering, b_most_covering, f_greedy_set, d_greedy_set, PySem.W.mg_of X G a_greedy_set, F_greedy_set, b_greedy_set, f_is_margin, d_is_margin, PySem.W.mg_of X G a_is_margin, F_is_margin, b_is_margin, f_word_letters, d_word_letters, PySem.W.mg_of X G a_word_letters, F_word_letters, b_word_letters, f_is_word, d_is_word, PySem.W.mg_of X G a_is_word, F_is_word, b_is_word, f_word_breaks, d_word_breaks, PySem.W.mg_of X G a_word_breaks, F_word_breaks, b_word_breaks, f_without_points, d_without_points, PySem.W.mg_of X G a_without_points, F_without_points, b_without_points, f_without_digits, d_without_digits, PySem.W.mg_of X G a_without_digits, F_without_digits, b_without_digits, f_has_digits_side_by_side, d_has_digits_side_by_side, PySem.W.mg_of X G a_has_digits_side_by_side, F_has_digits_side_by_side, b_has_digits_side_by_side, f_is_pattern, d_is_pattern, PySem.W.mg_of X G a_is_pattern, F_is_pattern, b_is_pattern, f_is_blank, d_is_blank, PySem.W.mg_of X G a_is_blank, F_is_blank, b_is_blank, f_chunk_sign, d_chunk_sign, PySem.W.mg_of X G a_chunk_sign, F_chunk_sign, b_chunk_sign, f_remark_end, d_remark_end, PySem.W.mg_of X G a_remark_end, F_remark_end, b_remark_end, f_skip_blanks, d_skip_blanks, PySem.W.mg_of X G a_skip_blanks, F_skip_blanks, b_skip_blanks, f_chunk_at, d_chunk_at, PySem.W.mg_of X G a_chunk_at, F_chunk_at, b_chunk_at, f_token_at, d_token_at, PySem.W.mg_of X G a_token_at, F_token_at, b_token_at, f_read_tokens, d_read_tokens, PySem.W.mg_of X G a_read_tokens, F_read_tokens, b_read_tokens, f_read_list, d_read_list, PySem.W.mg_of X G a_read_list, F_read_list, b_read_list, f_is_piece, d_is_piece, PySem.W.mg_of X G a_is_piece, F_is_piece, b_is_piece, f_told_choice, d_told_choice, PySem.W.mg_of X G a_told_choice, F_told_choice, b_told_choice, f_call_end, d_call_end, PySem.W.mg_of X G a_call_end, F_call_end, b_call_end, f_answer_call, d_answer_call, PySem.W.mg_of X G a_answer_call, F_answer_call, b_answer_call, f_answers, d_answers, PySem.W.mg_of X G a_answers, F_answers, b_answers, C_Goal, PySem.W.mg_of X G a_Goal, cl_Goal, n_Goal_word, n_Goal_gap, f_Goal___init__, d_Goal___init__, F_Goal___init__, b_Goal___init__, ⟨mk_Goal, mm_Goal___init__.at_, mm_Goal___init__.fn, kc_Goal⟩, C_Piece, PySem.W.mg_of X G a_Piece, cl_Piece, n_Piece_letters, n_Piece_before, n_Piece_first_point, n_Piece_last_point, n_Piece_chunk, n_Piece_covered, f_Piece___init__, d_Piece___init__, F_Piece___init__, b_Piece___init__, ⟨mk_Piece, mm_Piece___init__.at_, mm_Piece___init__.fn, kc_Piece⟩, C_Choice, PySem.W.mg_of X G a_Choice, cl_Choice, n_Choice_numbers, n_Choice_size, f_Choice___init__, d_Choice___init__, F_Choice___init__, b_Choice___init__, ⟨mk_Choice, mm_Choice___init__.at_, mm_Choice___init__.fn, kc_Choice⟩, f_Choice_rank, d_Choice_rank, F_Choice_rank, b_Choice_rank, mm_Choice_rank, C_Token, PySem.W.mg_of X G a_Token, cl_Token, n_Token_text, n_Token_place, f_Token___init__, d_Token___init__, F_Token___init__, b_Token___init__, ⟨mk_Token, mm_Token___init__.at_, mm_Token___init__.fn, kc_Token⟩, f_Token_is_chunk, d_Token_is_chunk, F_Token_is_chunk, b_Token_is_chunk, mm_Token_is_chunk, C_Fault, PySem.W.mg_of X G a_Fault, cl_Fault, n_Fault_code, n_Fault_place, f_Fault___init__, d_Fault___init__, F_Fault___init__, b_Fault___init__, ⟨mk_Fault, mm_Fault___init__.at_, mm_Fault___init__.fn, kc_Fault⟩, C_Word, PySem.W.mg_of X G a_Word, cl_Word, n_Word_letters, n_Word_breaks, f_Word___init__, d_Word___init__, F_Word___init__, b_Word___init__, ⟨mk_Word, mm_Word___init__.at_, mm_Word___init__.fn, kc_Word⟩, C_Listed, PySem.W.mg_of X G a_Listed, cl_Listed, n_Listed_margins, n_Listed_words, n_Listed_patterns, f_Listed___init__, d_Listed___init__, F_Listed___init__, b_Listed___init__, ⟨mk_Listed, mm_Listed___init__.at_, mm_Listed___init__.fn, kc_Listed⟩, C_ListReader, PySem.W.mg_of X G a_ListReader, cl_ListReader, n_ListReader_listed, n_ListReader_awaited, f_ListReader___init__, d_ListReader___init__, F_ListReader___init__, b_ListReader___init__, ⟨mk_ListReader, mm_ListReader___init__.at_, mm_ListReader___init__.fn, kc_ListReader⟩, f_ListReader_take, d_ListReader_take, F_ListReader_take, b_ListReader_take, mm_ListReader_take, f_ListReader_take_start, d_ListReader_take_start, F_ListReader_take_start, b_ListReader_take_start, mm_ListReader_take_start, f_ListReader_take_margin, d_ListReader_take_margin, F_ListReader_take_margin, b_ListReader_take_margin, mm_ListReader_take_margin, f_ListReader_take_sign, d_ListReader_take_sign, F_ListReader_take_sign, b_ListReader_take_sign, mm_ListReader_take_sign, f_ListReader_take_entry, d_ListReader_take_entry, F_ListReader_take_entry, b_ListReader_take_entry, mm_ListReader_take_entry, f_ListReader_begin_entry, d_ListReader_begin_entry, F_ListReader_begin_entry, b_ListReader_begin_entry, mm_ListReader_begin_entry, f_ListReader_take_word, d_ListReader_take_word, F_ListReader_take_word, b_ListReader_take_word, mm_ListReader_take_word, f_ListReader_take_pattern, d_ListReader_take_pattern, F_ListReader_take_pattern, b_ListReader_take_pattern, mm_ListReader_take_pattern, C_Holder, PySem.W.mg_of X G a_Holder, cl_Holder, n_Holder_listed, f_Holder___init__, d_Holder___init__, F_Holder___init__, b_Holder___init__, ⟨mk_Holder, mm_Holder___init__.at_, mm_Holder___init__.fn, kc_Holder⟩, f_Holder_load, d_Holder_load, F_Holder_load, b_Holder_load, mm_Holder_load, f_Holder_goals, d_Holder_goals, F_Holder_goals, b_Holder_goals, mm_Holder_goals, f_Holder_family, d_Holder_family, F_Holder_family, b_Holder_family, mm_Holder_family, f_Holder_piece, d_Holder_piece, F_Holder_piece, b_Holder_piece, mm_Holder_piece, f_Holder_least, d_Holder_least, F_Holder_least, b_Holder_least, mm_Holder_least, f_Holder_greedy, d_Holder_greedy, F_Holder_greedy, b_Holder_greedy, mm_Holder_greedy, f_Holder_bound, d_Holder_bound, F_Holder_bound, b_Holder_bound, mm_Holder_bound, f_Holder_check, d_Holder_check, F_Holder_check, b_Holder_check, mm_Holder_check, f_Holder_refusal, d_Holder_refusal, F_Holder_refusal, b_Holder_refusal, mm_Holder_refusal, f_Holder_uncovered, d_Holder_uncovered, F_Holder_uncovered, b_Holder_uncovered, mm_Holder_uncovered, t_FEWEST_PIECES, PySem.W.mg_of X G e_FEWEST_PIECES, t_FEWEST_BYTES, PySem.W.mg_of X G e_FEWEST_BYTES, t_MOST_MARGIN, PySem.W.mg_of X G e_MOST_MARGIN, t_LEAST_WORD_LETTERS, PySem.W.mg_of X G e_LEAST_WORD_LETTERS, t_MOST_WORD_LETTERS, PySem.W.mg_of X G e_MOST_WORD_LETTERS, t_MOST_PATTERN_LETTERS, PySem.W.mg_of X G e_MOST_PATTERN_LETTERS, t_LETTERS, PySem.W.mg_of X G e_LETTERS, t_DIGITS, PySem.W.mg_of X G e_DIGITS, t_MOST_CHUNK_BYTES, PySem.W.mg_of X G e_MOST_CHUNK_BYTES, t_SIGN, PySem.W.mg_of X G e_SIGN, t_END, PySem.W.mg_of X G e_END, t_NO_TOKEN, PySem.W.mg_of X G e_NO_TOKEN, t_MOST_BYTES, PySem.W.mg_of X G e_MOST_BYTES, t_MOST_WORDS, PySem.W.mg_of X G e_MOST_WORDS, t_MOST_PATTERNS, PySem.W.mg_of X G e_MOST_PATTERNS, t_NO_FAULT, PySem.W.mg_of X G e_NO_FAULT, t_FAULT_TOO_LONG, PySem.W.mg_of X G e_FAULT_TOO_LONG, t_FAULT_NO_TOKEN, PySem.W.mg_of X G e_FAULT_NO_TOKEN, t_FAULT_NOT_ALLOWED, PySem.W.mg_of X G e_FAULT_NOT_ALLOWED, t_FAULT_TOO_MANY, PySem.W.mg_of X G e_FAULT_TOO_MANY, t_FAULT_TWICE, PySem.W.mg_of X G e_FAULT_TWICE, t_FAULT_NOT_AS_TOLD, PySem.W.mg_of X G e_FAULT_NOT_AS_TOLD, t_NOT_REFUSED, PySem.W.mg_of X G e_NOT_REFUSED, t_MOST_LENGTH, PySem.W.mg_of X G e_MOST_LENGTH, t_MOST_GOALS, PySem.W.mg_of X G e_MOST_GOALS, t_LOAD, PySem.W.mg_of X G e_LOAD, t_GOALS, PySem.W.mg_of X G e_GOALS, t_FAMILY, PySem.W.mg_of X G e_FAMILY, t_PIECE, PySem.W.mg_of X G e_PIECE, t_LEAST, PySem.W.mg_of X G e_LEAST, t_GREEDY, PySem.W.mg_of X G e_GREEDY, t_BOUND, PySem.W.mg_of X G e_BOUND, t_CHECK, PySem.W.mg_of X G e_CHECK, PySem.W.mg_none_of X G hb_len, PySem.W.mg_none_of X G hb_any, PySem.W.mg_none_of X G hb_all, PySem.W.mg_none_of X G hb_range, PySem.W.mg_none_of X G hb_tuple, PySem.W.mg_none_of X G hb_list, PySem.W.mg_none_of X G hb_ord, PySem.W.mg_none_of X G hb_int, PySem.W.mg_none_of X G hb_enumerate, PySem.W.mg_none_of X G hb_isinstance, hiso C_Fault C_Listed a_Fault a_Listed⟩⟩
end LP
open PySem PySem.W PyProof.Rows
set_option maxRecDepth 100000 in
set_option maxHeartbeats 0 in
theorem PySem.Challenge.cw_leastpieces_s01_answers_holds : PySem.Challenge.rw_leastpieces_s01_answers.Holds := by
  w_on; k_headS; (case hw => exact ⟨[.list [.int 1]], by decide +kernel, by decide +kernel⟩)
  k_fillS
  refine L2.walk_specK (r := PySem.Challenge.rw_leastpieces_s01_answers) (k := 9) (CX := L2.CX0) (ps := ["calls"]) (sp := LP.sp_answers) (by decide +kernel) rfl rfl ⟨rfl, by decide, by decide⟩ (fun w h Y => PySem.W.kIn_of Y) ?F ?S (fun _ _ _ _ z => z)
  case F =>
    intro w mg fa h Y KX G hmg
    refine' Nonempty.elim (LP.all_tx KX G ?hd_joined_pairs ?hd_are_apart ?hd_goals_by_number ?hd_greatest_apart ?hd_is_within_margins ?hd_fits ?hd_parted_gaps ?hd_goals_of ?hd_pointed_pieces ?hd_pieces_around ?hd_is_good ?hd_covered_goals ?hd_family_up_to ?hd_used_pieces ?hd_first_uncovered ?hd_is_exact ?hd_goal_bits ?hd_lowest_uncovered ?hd_used_by_goal ?hd_least_choice ?hd_least_set ?hd_most_covering ?hd_greedy_set ?hd_is_margin ?hd_word_letters ?hd_is_word ?hd_word_breaks ?hd_without_points ?hd_without_digits ?hd_has_digits_side_by_side ?hd_is_pattern ?hd_is_blank ?hd_chunk_sign ?hd_remark_end ?hd_skip_blanks ?hd_chunk_at ?hd_token_at ?hd_read_tokens ?hd_read_list ?hd_is_piece ?hd_told_choice ?hd_call_end ?hd_answer_call ?hd_answers ?hc_Goal ?hc_Piece ?hc_Choice ?hc_Token ?hc_Fault ?hc_Word ?hc_Listed ?hc_ListReader ?hc_Holder ?hk_FEWEST_PIECES ?hk_FEWEST_BYTES ?hk_MOST_MARGIN ?hk_LEAST_WORD_LETTERS ?hk_MOST_WORD_LETTERS ?hk_MOST_PATTERN_LETTERS ?hk_LETTERS ?hk_DIGITS ?hk_MOST_CHUNK_BYTES ?hk_SIGN ?hk_END ?hk_NO_TOKEN ?hk_MOST_BYTES ?hk_MOST_WORDS ?hk_MOST_PATTERNS ?hk_NO_FAULT ?hk_FAULT_TOO_LONG ?hk_FAULT_NO_TOKEN ?hk_FAULT_NOT_ALLOWED ?hk_FAULT_TOO_MANY ?hk_FAULT_TWICE ?hk_FAULT_NOT_AS_TOLD ?hk_NOT_REFUSED ?hk_MOST_LENGTH ?hk_MOST_GOALS ?hk_LOAD ?hk_GOALS ?hk_FAMILY ?hk_PIECE ?hk_LEAST ?hk_GREEDY ?hk_BOUND ?hk_CHECK ?hb_len ?hb_any ?hb_all ?hb_range ?hb_tuple ?hb_list ?hb_ord ?hb_int ?hb_enumerate ?hb_isinstance ?hiso) ?_
    (case hd_joined_pairs => refine' LP.mk_def (st := LP.s_joined_pairs) ?a ?l ?c ?k; (case a => k_is); (case l => k_is); (case c => k_is); (case k => k_is))
    (case hd_are_apart => refine' LP.mk_def (st := LP.s_are_apart) ?a ?l ?c ?k; (case a => k_is); (case l => k_is); (case c => k_is); (case k => k_is))
    (case hd_goals_by_number => refine' LP.mk_def (st := LP.s_goals_by_number) ?a ?l ?c ?k; (case a => k_is); (case l => k_is); (case c => k_is); (case k => k_is))
    (case hd_greatest_apart => refine' LP.mk_def (st := LP.s_greatest_apart) ?a ?l ?c ?k; (case a => k_is); (case l => k_is); (case c => k_is); (case k => k_is))
    (case hd_is_within_margins => refine' LP.mk_def (st := LP.s_is_within_margins) ?a ?l ?c ?k; (case a => k_is); (case l => k_is); (case c => k_is); (case k => k_is))
    (case hd_fits => refine' LP.mk_def (st := LP.s_fits) ?a ?l ?c ?k; (case a => k_is); (case l => k_is); (case c => k_is); (case k => k_is))
    (case hd_parted_gaps => refine' LP.mk_def (st := LP.s_parted_gaps) ?a ?l ?c ?k; (case a => k_is); (case l => k_is); (case c => k_is); (case k => k_is))
    (case hd_goals_of => refine' LP.mk_def (st := LP.s_goals_of) ?a ?l ?c ?k; (case a => k_is); (case l => k_is); (case c => k_is); (case k => k_is))
    (case hd_pointed_pieces => refine' LP.mk_def (st := LP.s_pointed_pieces) ?a ?l ?c ?k; (case a => k_is); (case l => k_is); (case c => k_is); (case k => k_is))
    (case hd_pieces_around => refine' LP.mk_def (st := LP.s_pieces_around) ?a ?l ?c ?k; (case a => k_is); (case l => k_is); (case c => k_is); (case k => k_is))
    (case hd_is_good => refine' LP.mk_def (st := LP.s_is_good) ?a ?l ?c ?k; (case a => k_is); (case l => k_is); (case c => k_is); (case k => k_is))
    (case hd_covered_goals => refine' LP.mk_def (st := LP.s_covered_goals) ?a ?l ?c ?k; (case a => k_is); (case l => k_is); (case c => k_is); (case k => k_is))
    (case hd_family_up_to => refine' LP.mk_def (st := LP.s_family_up_to) ?a ?l ?c ?k; (case a => k_is); (case l => k_is); (case c => k_is); (case k => k_is))
    (case hd_used_pieces => refine' LP.mk_def (st := LP.s_used_pieces) ?a ?l ?c ?k; (case a => k_is); (case l => k_is); (case c => k_is); (case k => k_is))
    (case hd_first_uncovered => refine' LP.mk_def (st := LP.s_first_uncovered) ?a ?l ?c ?k; (case a => k_is); (case l => k_is); (case c => k_is); (case k => k_is))
    (case hd_is_exact => refine' LP.mk_def (st := LP.s_is_exact) ?a ?l ?c ?k; (case a => k_is); (case l => k_is); (case c => k_is); (case k => k_is))
    (case hd_goal_bits => refine' LP.mk_def (st := LP.s_goal_bits) ?a ?l ?c ?k; (case a => k_is); (case l => k_is); (case c => k_is); (case k => k_is))
    (case hd_lowest_uncovered => refine' LP.mk_def (st := LP.s_lowest_uncovered) ?a ?l ?c ?k; (case a => k_is); (case l => k_is); (case c => k_is); (case k => k_is))
    (case hd_used_by_goal => refine' LP.mk_def (st := LP.s_used_by_goal) ?a ?l ?c ?k; (case a => k_is); (case l => k_is); (case c => k_is); (case k => k_is))
    (case hd_least_choice => refine' LP.mk_def (st := LP.s_least_choice) ?a ?l ?c ?k; (case a => k_is); (case l => k_is); (case c => k_is); (case k => k_is))
    (case hd_least_set => refine' LP.mk_def (st := LP.s_least_set) ?a ?l ?c ?k; (case a => k_is); (case l => k_is); (case c => k_is); (case k => k_is))
    (case hd_most_covering => refine' LP.mk_def (st := LP.s_most_covering) ?a ?l ?c ?k; (case a => k_is); (case l => k_is); (case c => k_is); (case k => k_is))
    (case hd_greedy_set => refine' LP.mk_def (st := LP.s_greedy_set) ?a ?l ?c ?k; (case a => k_is); (case l => k_is); (case c => k_is); (case k => k_is))
    (case hd_is_margin => refine' LP.mk_def (st := LP.s_is_margin) ?a ?l ?c ?k; (case a => k_is); (case l => k_is); (case c => k_is); (case k => k_is))
    (case hd_word_letters => refine' LP.mk_def (st := LP.s_word_letters) ?a ?l ?c ?k; (case a => k_is); (case l => k_is); (case c => k_is); (case k => k_is))
    (case hd_is_word => refine' LP.mk_def (st := LP.s_is_word) ?a ?l ?c ?k; (case a => k_is); (case l => k_is); (case c => k_is); (case k => k_is))
    (case hd_word_breaks => refine' LP.mk_def (st := LP.s_word_breaks) ?a ?l ?c ?k; (case a => k_is); (case l => k_is); (case c => k_is); (case k => k_is))
    (case hd_without_points => refine' LP.mk_def (st := LP.s_without_points) ?a ?l ?c ?k; (case a => k_is); (case l => k_is); (case c => k_is); (case k => k_is))
    (case hd_without_digits => refine' LP.mk_def (st := LP.s_without_digits) ?a ?l ?c ?k; (case a => k_is); (case l => k_is); (case c => k_is); (case k => k_is))
    (case hd_has_digits_side_by_side => refine' LP.mk_def (st := LP.s_has_digits_side_by_side) ?a ?l ?c ?k; (case a => k_is); (case l => k_is); (case c => k_is); (case k => k_is))
    (case hd_is_pattern => refine' LP.mk_def (st := LP.s_is_pattern) ?a ?l ?c ?k; (case a => k_is); (case l => k_is); (case c => k_is); (case k => k_is))
    (case hd_is_blank => refine' LP.mk_def (st := LP.s_is_blank) ?a ?l ?c ?k; (case a => k_is); (case l => k_is); (case c => k_is); (case k => k_is))
    (case hd_chunk_sign => refine' LP.mk_def (st := LP.s_chunk_sign) ?a ?l ?c ?k; (case a => k_is); (case l => k_is); (case c => k_is); (case k => k_is))
    (case hd_remark_end => refine' LP.mk_def (st := LP.s_remark_end) ?a ?l ?c ?k; (case a => k_is); (case l => k_is); (case c => k_is); (case k => k_is))
    (case hd_skip_blanks => refine' LP.mk_def (st := LP.s_skip_blanks) ?a ?l ?c ?k; (case a => k_is); (case l => k_is); (case c => k_is); (case k => k_is))
    (case hd_chunk_at => refine' LP.mk_def (st := LP.s_chunk_at) ?a ?l ?c ?k; (case a => k_is); (case l => k_is); (case c => k_is); (case k => k_is))
    (case hd_token_at => refine' LP.mk_def (st := LP.s_token_at) ?a ?l ?c ?k; (case a => k_is); (case l => k_is); (case c => k_is); (case k => k_is))
    (case hd_read_tokens => refine' LP.mk_def (st := LP.s_read_tokens) ?a ?l ?c ?k; (case a => k_is); (case l => k_is); (case c => k_is); (case k => k_is))
    (case hd_read_list => refine' LP.mk_def (st := LP.s_read_list) ?a ?l ?c ?k; (case a => k_is); (case l => k_is); (case c => k_is); (case k => k_is))
    (case hd_is_piece => refine' LP.mk_def (st := LP.s_is_piece) ?a ?l ?c ?k; (case a => k_is); (case l => k_is); (case c => k_is); (case k => k_is))
    (case hd_told_choice => refine' LP.mk_def (st := LP.s_told_choice) ?a ?l ?c ?k; (case a => k_is); (case l => k_is); (case c => k_is); (case k => k_is))
    (case hd_call_end => refine' LP.mk_def (st := LP.s_call_end) ?a ?l ?c ?k; (case a => k_is); (case l => k_is); (case c => k_is); (case k => k_is))
    (case hd_answer_call => refine' LP.mk_def (st := LP.s_answer_call) ?a ?l ?c ?k; (case a => k_is); (case l => k_is); (case c => k_is); (case k => k_is))
    (case hd_answers => refine' LP.mk_def (st := LP.s_answers) ?a ?l ?c ?k; (case a => k_is); (case l => k_is); (case c => k_is); (case k => k_is))
    (case hc_Goal => refine' LP.mkc_Goal ?p0 ?p1 ?p2 ?p3 ?p4; (case p0 => k_is); (case p1 => (refine' LP.mk_cls ?pg ?hd ?po ?sa ?mk ?kc; (case pg => k_is); (case hd => k_is); (case po => k_is); (case sa => k_is); (case mk => k_is); (case kc => k_is))); (case p2 => k_is); (case p3 => k_is); (case p4 => (refine' LP.mk_met (st := LP.s_Goal___init__) (qual := "Goal.__init__") ?a ?i ?l ?c ?k; (case a => k_is); (case i => k_is); (case l => k_is); (case c => k_is); (case k => k_is))))
    (case hc_Piece => refine' LP.mkc_Piece ?p0 ?p1 ?p2 ?p3 ?p4 ?p5 ?p6 ?p7 ?p8; (case p0 => k_is); (case p1 => (refine' LP.mk_cls ?pg ?hd ?po ?sa ?mk ?kc; (case pg => k_is); (case hd => k_is); (case po => k_is); (case sa => k_is); (case mk => k_is); (case kc => k_is))); (case p2 => k_is); (case p3 => k_is); (case p4 => k_is); (case p5 => k_is); (case p6 => k_is); (case p7 => k_is); (case p8 => (refine' LP.mk_met (st := LP.s_Piece___init__) (qual := "Piece.__init__") ?a ?i ?l ?c ?k; (case a => k_is); (case i => k_is); (case l => k_is); (case c => k_is); (case k => k_is))))
    (case hc_Choice => refine' LP.mkc_Choice ?p0 ?p1 ?p2 ?p3 ?p4 ?p5; (case p0 => k_is); (case p1 => (refine' LP.mk_cls ?pg ?hd ?po ?sa ?mk ?kc; (case pg => k_is); (case hd => k_is); (case po => k_is); (case sa => k_is); (case mk => k_is); (case kc => k_is))); (case p2 => k_is); (case p3 => k_is); (case p4 => (refine' LP.mk_met (st := LP.s_Choice___init__) (qual := "Choice.__init__") ?a ?i ?l ?c ?k; (case a => k_is); (case i => k_is); (case l => k_is); (case c => k_is); (case k => k_is))); (case p5 => (refine' LP.mk_met (st := LP.s_Choice_rank) (qual := "Choice.rank") ?a ?i ?l ?c ?k; (case a => k_is); (case i => k_is); (case l => k_is); (case c => k_is); (case k => k_is))))
    (case hc_Token => refine' LP.mkc_Token ?p0 ?p1 ?p2 ?p3 ?p4 ?p5; (case p0 => k_is); (case p1 => (refine' LP.mk_cls ?pg ?hd ?po ?sa ?mk ?kc; (case pg => k_is); (case hd => k_is); (case po => k_is); (case sa => k_is); (case mk => k_is); (case kc => k_is))); (case p2 => k_is); (case p3 => k_is); (case p4 => (refine' LP.mk_met (st := LP.s_Token___init__) (qual := "Token.__init__") ?a ?i ?l ?c ?k; (case a => k_is); (case i => k_is); (case l => k_is); (case c => k_is); (case k => k_is))); (case p5 => (refine' LP.mk_met (st := LP.s_Token_is_chunk) (qual := "Token.is_chunk") ?a ?i ?l ?c ?k; (case a => k_is); (case i => k_is); (case l => k_is); (case c => k_is); (case k => k_is))))
    (case hc_Fault => refine' LP.mkc_Fault ?p0 ?p1 ?p2 ?p3 ?p4; (case p0 => k_is); (case p1 => (refine' LP.mk_cls ?pg ?hd ?po ?sa ?mk ?kc; (case pg => k_is); (case hd => k_is); (case po => k_is); (case sa => k_is); (case mk => k_is); (case kc => k_is))); (case p2 => k_is); (case p3 => k_is); (case p4 => (refine' LP.mk_met (st := LP.s_Fault___init__) (qual := "Fault.__init__") ?a ?i ?l ?c ?k; (case a => k_is); (case i => k_is); (case l => k_is); (case c => k_is); (case k => k_is))))
    (case hc_Word => refine' LP.mkc_Word ?p0 ?p1 ?p2 ?p3 ?p4; (case p0 => k_is); (case p1 => (refine' LP.mk_cls ?pg ?hd ?po ?sa ?mk ?kc; (case pg => k_is); (case hd => k_is); (case po => k_is); (case sa => k_is); (case mk => k_is); (case kc => k_is))); (case p2 => k_is); (case p3 => k_is); (case p4 => (refine' LP.mk_met (st := LP.s_Word___init__) (qual := "Word.__init__") ?a ?i ?l ?c ?k; (case a => k_is); (case i => k_is); (case l => k_is); (case c => k_is); (case k => k_is))))
    (case hc_Listed => refine' LP.mkc_Listed ?p0 ?p1 ?p2 ?p3 ?p4 ?p5; (case p0 => k_is); (case p1 => (refine' LP.mk_cls ?pg ?hd ?po ?sa ?mk ?kc; (case pg => k_is); (case hd => k_is); (case po => k_is); (case sa => k_is); (case mk => k_is); (case kc => k_is))); (case p2 => k_is); (case p3 => k_is); (case p4 => k_is); (case p5 => (refine' LP.mk_met (st := LP.s_Listed___init__) (qual := "Listed.__init__") ?a ?i ?l ?c ?k; (case a => k_is); (case i => k_is); (case l => k_is); (case c => k_is); (case k => k_is))))
    (case hc_ListReader => refine' LP.mkc_ListReader ?p0 ?p1 ?p2 ?p3 ?p4 ?p5 ?p6 ?p7 ?p8 ?p9 ?p10 ?p11 ?p12; (case p0 => k_is); (case p1 => (refine' LP.mk_cls ?pg ?hd ?po ?sa ?mk ?kc; (case pg => k_is); (case hd => k_is); (case po => k_is); (case sa => k_is); (case mk => k_is); (case kc => k_is))); (case p2 => k_is); (case p3 => k_is); (case p4 => (refine' LP.mk_met (st := LP.s_ListReader___init__) (qual := "ListReader.__init__") ?a ?i ?l ?c ?k; (case a => k_is); (case i => k_is); (case l => k_is); (case c => k_is); (case k => k_is))); (case p5 => (refine' LP.mk_met (st := LP.s_ListReader_take) (qual := "ListReader.take") ?a ?i ?l ?c ?k; (case a => k_is); (case i => k_is); (case l => k_is); (case c => k_is); (case k => k_is))); (case p6 => (refine' LP.mk_met (st := LP.s_ListReader_take_start) (qual := "ListReader.take_start") ?a ?i ?l ?c ?k; (case a => k_is); (case i => k_is); (case l => k_is); (case c => k_is); (case k => k_is))); (case p7 => (refine' LP.mk_met (st := LP.s_ListReader_take_margin) (qual := "ListReader.take_margin") ?a ?i ?l ?c ?k; (case a => k_is); (case i => k_is); (case l => k_is); (case c => k_is); (case k => k_is))); (case p8 => (refine' LP.mk_met (st := LP.s_ListReader_take_sign) (qual := "ListReader.take_sign") ?a ?i ?l ?c ?k; (case a => k_is); (case i => k_is); (case l => k_is); (case c => k_is); (case k => k_is))); (case p9 => (refine' LP.mk_met (st := LP.s_ListReader_take_entry) (qual := "ListReader.take_entry") ?a ?i ?l ?c ?k; (case a => k_is); (case i => k_is); (case l => k_is); (case c => k_is); (case k => k_is))); (case p10 => (refine' LP.mk_met (st := LP.s_ListReader_begin_entry) (qual := "ListReader.begin_entry") ?a ?i ?l ?c ?k; (case a => k_is); (case i => k_is); (case l => k_is); (case c => k_is); (case k => k_is))); (case p11 => (refine' LP.mk_met (st := LP.s_ListReader_take_word) (qual := "ListReader.take_word") ?a ?i ?l ?c ?k; (case a => k_is); (case i => k_is); (case l => k_is); (case c => k_is); (case k => k_is))); (case p12 => (refine' LP.mk_met (st := LP.s_ListReader_take_pattern) (qual := "ListReader.take_pattern") ?a ?i ?l ?c ?k; (case a => k_is); (case i => k_is); (case l => k_is); (case c => k_is); (case k => k_is))))
    (case hc_Holder => refine' LP.mkc_Holder ?p0 ?p1 ?p2 ?p3 ?p4 ?p5 ?p6 ?p7 ?p8 ?p9 ?p10 ?p11 ?p12 ?p13; (case p0 => k_is); (case p1 => (refine' LP.mk_cls ?pg ?hd ?po ?sa ?mk ?kc; (case pg => k_is); (case hd => k_is); (case po => k_is); (case sa => k_is); (case mk => k_is); (case kc => k_is))); (case p2 => k_is); (case p3 => (refine' LP.mk_met (st := LP.s_Holder___init__) (qual := "Holder.__init__") ?a ?i ?l ?c ?k; (case a => k_is); (case i => k_is); (case l => k_is); (case c => k_is); (case k => k_is))); (case p4 => (refine' LP.mk_met (st := LP.s_Holder_load) (qual := "Holder.load") ?a ?i ?l ?c ?k; (case a => k_is); (case i => k_is); (case l => k_is); (case c => k_is); (case k => k_is))); (case p5 => (refine' LP.mk_met (st := LP.s_Holder_goals) (qual := "Holder.goals") ?a ?i ?l ?c ?k; (case a => k_is); (case i => k_is); (case l => k_is); (case c => k_is); (case k => k_is))); (case p6 => (refine' LP.mk_met (st := LP.s_Holder_family) (qual := "Holder.family") ?a ?i ?l ?c ?k; (case a => k_is); (case i => k_is); (case l => k_is); (case c => k_is); (case k => k_is))); (case p7 => (refine' LP.mk_met (st := LP.s_Holder_piece) (qual := "Holder.piece") ?a ?i ?l ?c ?k; (case a => k_is); (case i => k_is); (case l => k_is); (case c => k_is); (case k => k_is))); (case p8 => (refine' LP.mk_met (st := LP.s_Holder_least) (qual := "Holder.least") ?a ?i ?l ?c ?k; (case a => k_is); (case i => k_is); (case l => k_is); (case c => k_is); (case k => k_is))); (case p9 => (refine' LP.mk_met (st := LP.s_Holder_greedy) (qual := "Holder.greedy") ?a ?i ?l ?c ?k; (case a => k_is); (case i => k_is); (case l => k_is); (case c => k_is); (case k => k_is))); (case p10 => (refine' LP.mk_met (st := LP.s_Holder_bound) (qual := "Holder.bound") ?a ?i ?l ?c ?k; (case a => k_is); (case i => k_is); (case l => k_is); (case c => k_is); (case k => k_is))); (case p11 => (refine' LP.mk_met (st := LP.s_Holder_check) (qual := "Holder.check") ?a ?i ?l ?c ?k; (case a => k_is); (case i => k_is); (case l => k_is); (case c => k_is); (case k => k_is))); (case p12 => (refine' LP.mk_met (st := LP.s_Holder_refusal) (qual := "Holder.refusal") ?a ?i ?l ?c ?k; (case a => k_is); (case i => k_is); (case l => k_is); (case c => k_is); (case k => k_is))); (case p13 => (refine' LP.mk_met (st := LP.s_Holder_uncovered) (qual := "Holder.uncovered") ?a ?i ?l ?c ?k; (case a => k_is); (case i => k_is); (case l => k_is); (case c => k_is); (case k => k_is))))
    (case hk_FEWEST_PIECES => refine' LP.mk_ki ?a; (case a => k_is))
    (case hk_FEWEST_BYTES => refine' LP.mk_ki ?a; (case a => k_is))
    (case hk_MOST_MARGIN => refine' LP.mk_ki ?a; (case a => k_is))
    (case hk_LEAST_WORD_LETTERS => refine' LP.mk_ki ?a; (case a => k_is))
    (case hk_MOST_WORD_LETTERS => refine' LP.mk_ki ?a; (case a => k_is))
    (case hk_MOST_PATTERN_LETTERS => refine' LP.mk_ki ?a; (case a => k_is))
    (case hk_LETTERS => refine' LP.mk_ks ?a; (case a => k_is))
    (case hk_DIGITS => refine' LP.mk_ks ?a; (case a => k_is))
    (case hk_MOST_CHUNK_BYTES => refine' LP.mk_ki ?a; (case a => k_is))
    (case hk_SIGN => refine' LP.mk_ks ?a; (case a => k_is))
    (case hk_END => refine' LP.mk_ks ?a; (case a => k_is))
    (case hk_NO_TOKEN => refine' LP.mk_ks ?a; (case a => k_is))
    (case hk_MOST_BYTES => refine' LP.mk_ki ?a; (case a => k_is))
    (case hk_MOST_WORDS => refine' LP.mk_ki ?a; (case a => k_is))
    (case hk_MOST_PATTERNS => refine' LP.mk_ki ?a; (case a => k_is))
    (case hk_NO_FAULT => refine' LP.mk_ki ?a; (case a => k_is))
    (case hk_FAULT_TOO_LONG => refine' LP.mk_ki ?a; (case a => k_is))
    (case hk_FAULT_NO_TOKEN => refine' LP.mk_ki ?a; (case a => k_is))
    (case hk_FAULT_NOT_ALLOWED => refine' LP.mk_ki ?a; (case a => k_is))
    (case hk_FAULT_TOO_MANY => refine' LP.mk_ki ?a; (case a => k_is))
    (case hk_FAULT_TWICE => refine' LP.mk_ki ?a; (case a => k_is))
    (case hk_FAULT_NOT_AS_TOLD => refine' LP.mk_ki ?a; (case a => k_is))
    (case hk_NOT_REFUSED => refine' LP.mk_ki ?a; (case a => k_is))
    (case hk_MOST_LENGTH => refine' LP.mk_ki ?a; (case a => k_is))
    (case hk_MOST_GOALS => refine' LP.mk_ki ?a; (case a => k_is))
    (case hk_LOAD => refine' LP.mk_ki ?a; (case a => k_is))
    (case hk_GOALS => refine' LP.mk_ki ?a; (case a => k_is))
    (case hk_FAMILY => refine' LP.mk_ki ?a; (case a => k_is))
    (case hk_PIECE => refine' LP.mk_ki ?a; (case a => k_is))
    (case hk_LEAST => refine' LP.mk_ki ?a; (case a => k_is))
    (case hk_GREEDY => refine' LP.mk_ki ?a; (case a => k_is))
    (case hk_BOUND => refine' LP.mk_ki ?a; (case a => k_is))
    (case hk_CHECK => refine' LP.mk_ki ?a; (case a => k_is))
    (case hb_len => k_is)
    (case hb_any => k_is)
    (case hb_all => k_is)
    (case hb_range => k_is)
    (case hb_tuple => k_is)
    (case hb_list => k_is)
    (case hb_ord => k_is)
    (case hb_int => k_is)
    (case hb_enumerate => k_is)
    (case hb_isinstance => k_is)
    (case hiso => refine' LP.mk_iso ?e1 ?e2 ?e3 ?e4 ?e5 ?e6 ?e7 ?e8 ?e9 ?e10; (case e1 => k_is); (case e2 => k_is); (case e3 => kit_is); (case e4 => kit_is); (case e5 => k_is); (case e6 => k_is); (case e7 => k_is); (case e8 => k_is); (case e9 => k_is); (case e10 => k_is))
    intro T
    have e := hmg.symm.trans T.m_answers
    cases e
    exact ⟨T.d_answers, LP.answers_binds T, fun base _ _ => LP.ok_answers T⟩
  case S =>
    intro K H xs a hO hwi hask hx
    cases hx with
    | cons h1 h2 =>
      cases h2
      cases h1 with
      | lst hs ha =>
        have e := L2.ints_dw a.1 _ ha
        subst e
        obtain ⟨cs, h1, h2, h3, h4⟩ := LP.fin (ns := a.1) hask
        refine ⟨_, a.1, cs, rfl, hs, h1, h2, h3, fun H' p hp => ?_⟩
        rw [h4] at hp
        exact .lst (L2.SqL.of hp) (L2.dw_ints _)
