import PyProof.Rows.All
import Wide.All
import OpenK.AllK
import Wide.FinOn
import Lean
import PyProof.EqAt
import PyProof.EqKinds
import PyProof.TupleCall
import PyProof.ZipIter
import PyProof.Draws
import PySem.Challenge.RW_steadyhand_k23_whole_pieces_cover
set_option Elab.async false
set_option linter.all false
set_option maxRecDepth 100000
set_option maxHeartbeats 0
namespace H23
open PySem PySem.W
set_option maxRecDepth 100000
noncomputable def hT (i : Nat) : Stmt := PySem.Challenge.pw_steadyhand_k23_whole_pieces_cover.main.body.getD i (.Pass ⟨0, 0, 0, 0⟩)
noncomputable def hI (i j : Nat) : Stmt := match hT i with
  | .ClassDef _ _ _ b _ _ _ _ _ _ _ => b.getD j (.Pass ⟨0, 0, 0, 0⟩)
  | s => s
noncomputable def hA : Stmt → Arguments
  | .FunctionDef _ a _ _ _ _ _ _ _ _ => a
  | _ => ⟨[], [], none, [], [], none, []⟩
noncomputable def hB : Stmt → List Stmt
  | .FunctionDef _ _ b _ _ _ _ _ _ _ => b
  | _ => []
noncomputable def hC : Stmt → Scope
  | .FunctionDef _ _ _ _ _ _ c _ _ _ => c
  | _ => { kind := .function, names := [], isGenerator := false, isCoroutine := false }
noncomputable abbrev hS (s : String) (n : Nat) : Value := .str (Str.ofString s) n
noncomputable abbrev hE (P : Params) (s : String) (n : Nat) (v : Value) : DictEntry := ⟨PyData.keyHash P (Str.ofString s), hS s n, v⟩
noncomputable def KK : Params → Frag := fun P =>
  (nat_lit 2, { cls := .none, data := .dict #[] }) ::
  (nat_lit 3, { cls := .type "dict", data := .dict #[hE P "__name__" 165 (hS "law_steadyhand_k23_whole_pieces_cover" 557), hE P "__doc__" 166 (.none), hE P "__package__" 167 (.none), hE P "__loader__" 168 (.builtin "__main__.__loader__#opaque"), hE P "__spec__" 169 (.none), hE P "__annotations__" 170 (.ref 6), hE P "__builtins__" 171 (.ref 4), hE P "__file__" 173 (hS "/claim/cut.py" 172), hE P "__cached__" 174 (.none), hE P "SteadyError" 206 (.ref 24), hE P "NoNumber" 222 (.ref 37), hE P "BadRule" 238 (.ref 49), hE P "TooMany" 254 (.ref 61), hE P "is_whole" 263 (.ref 70), hE P "common_divisor" 274 (.ref 77), hE P "fraction" 284 (.ref 85), hE P "under" 292 (.ref 92), hE P "is_numbers" 300 (.ref 97), hE P "copied" 307 (.ref 103), hE P "is_row" 315 (.ref 108), hE P "raw_sum" 327 (.ref 115), hE P "divided_sum" 338 (.ref 122), hE P "holds" 347 (.ref 129), hE P "other_side" 353 (.ref 134), hE P "MOST_PIECES" 357 (.int 60 356), hE P "Rule" 377 (.ref 144), hE P "Straight" 415 (.ref 173), hE P "Stopped" 453 (.ref 199), hE P "Parted" 490 (.ref 225), hE P "is_rule" 498 (.ref 234), hE P "is_straight" 506 (.ref 241), hE P "are_stops" 514 (.ref 248), hE P "piece_count" 521 (.ref 255), hE P "pieces" 529 (.ref 262), hE P "listed" 536 (.ref 269), hE P "parted_pieces" 542 (.ref 274), hE P "stopped_pieces" 548 (.ref 279), hE P "stop_row" 556 (.ref 286), hE P "_law_cell_at" 566 (.ref 293), hE P "_law_stream" 578 (.ref 300), hE P "_law_number" 585 (.ref 307), hE P "_law_leaf" 591 (.ref 312), hE P "_law_rule" 597 (.ref 317), hE P "_law_divisor" 605 (.ref 324), hE P "_law_fraction" 614 (.ref 331), hE P "_law_sum" 626 (.ref 338), hE P "_law_held" 637 (.ref 345), hE P "_law_told" 646 (.ref 352), hE P "_law_point" 662 (.ref 359), hE P "law" 681 (.ref 366)] 50 }) ::
  (nat_lit 15, { cls := .type "tuple", data := .seq #[.type "ValueError"] }) ::
  (nat_lit 22, { cls := .type "tuple", data := .seq #[] }) ::
  (nat_lit 23, { cls := .type "dict", data := .dict #[hE P "__module__" 196 (hS "steadyhand.errors" 187), hE P "__firstlineno__" 200 (.int 2 199), hE P "__static_attributes__" 201 (.ref 22), hE P "__weakref__" 203 (.ref 25), hE P "__doc__" 204 (.none)] 3 }) ::
  (nat_lit 24, { cls := .type "type", data := .cls { name := "SteadyError", bases := [.type "ValueError"], mro := [.ref 24, .type "ValueError", .type "Exception", .type "BaseException", .type "object"], ns := 23, qualname := "SteadyError", subclasses := [.ref 37, .ref 49, .ref 61] }, slots := #[some (.ref 15), none, some (hS "SteadyError" 189), some (hS "SteadyError" 197), some (.builtin "ValueError.__new__"), some (.bool true)] }) ::
  (nat_lit 25, { cls := .type "getset_descriptor", data := .fields #[hS "__weakref__" 202, .ref 24, .builtin "ExceptionGroup.__weakref__", .none] }) ::
  (nat_lit 28, { cls := .type "tuple", data := .seq #[.ref 24] }) ::
  (nat_lit 35, { cls := .type "tuple", data := .seq #[] }) ::
  (nat_lit 36, { cls := .type "dict", data := .dict #[hE P "__module__" 214 (hS "steadyhand.errors" 187), hE P "__firstlineno__" 218 (.int 4 217), hE P "__static_attributes__" 219 (.ref 35), hE P "__doc__" 220 (.none)] 2 }) ::
  (nat_lit 37, { cls := .type "type", data := .cls { name := "NoNumber", bases := [.ref 24], mro := [.ref 37, .ref 24, .type "ValueError", .type "Exception", .type "BaseException", .type "object"], ns := 36, qualname := "NoNumber" }, slots := #[some (.ref 28), none, some (hS "NoNumber" 207), some (hS "NoNumber" 215), some (.builtin "ValueError.__new__"), some (.bool true)] }) ::
  (nat_lit 40, { cls := .type "tuple", data := .seq #[.ref 24] }) ::
  (nat_lit 47, { cls := .type "tuple", data := .seq #[] }) ::
  (nat_lit 48, { cls := .type "dict", data := .dict #[hE P "__module__" 230 (hS "steadyhand.errors" 187), hE P "__firstlineno__" 234 (.int 6 233), hE P "__static_attributes__" 235 (.ref 47), hE P "__doc__" 236 (.none)] 2 }) ::
  (nat_lit 49, { cls := .type "type", data := .cls { name := "BadRule", bases := [.ref 24], mro := [.ref 49, .ref 24, .type "ValueError", .type "Exception", .type "BaseException", .type "object"], ns := 48, qualname := "BadRule" }, slots := #[some (.ref 40), none, some (hS "BadRule" 223), some (hS "BadRule" 231), some (.builtin "ValueError.__new__"), some (.bool true)] }) ::
  (nat_lit 52, { cls := .type "tuple", data := .seq #[.ref 24] }) ::
  (nat_lit 59, { cls := .type "tuple", data := .seq #[] }) ::
  (nat_lit 60, { cls := .type "dict", data := .dict #[hE P "__module__" 246 (hS "steadyhand.errors" 187), hE P "__firstlineno__" 250 (.int 8 249), hE P "__static_attributes__" 251 (.ref 59), hE P "__doc__" 252 (.none)] 2 }) ::
  (nat_lit 61, { cls := .type "type", data := .cls { name := "TooMany", bases := [.ref 24], mro := [.ref 61, .ref 24, .type "ValueError", .type "Exception", .type "BaseException", .type "object"], ns := 60, qualname := "TooMany" }, slots := #[some (.ref 52), none, some (hS "TooMany" 239), some (hS "TooMany" 247), some (.builtin "ValueError.__new__"), some (.bool true)] }) ::
  (nat_lit 64, { cls := .type "tuple", data := .seq #[] }) ::
  (nat_lit 66, { cls := .type "tuple", data := .seq #[hS "thing" 260] }) ::
  (nat_lit 67, { cls := .type "tuple", data := .seq #[] }) ::
  (nat_lit 69, { cls := .type "code", data := .fields #[hS "is_whole" 257, hS "is_whole" 258, hS "/claim/cut.py" 259, .int 11 0, .int 1 0, .int 0 0, .int 0 0, .int 3 0, .ref 64, .bool true, .int 181 0, .ref 65, .none, .ref 66, .ref 67, .ref 68, .int 261 0, .int 11 0, hS "/claim/cut.py" 262] }) ::
  (nat_lit 70, { cls := .type "function", data := .func { name := "is_whole", qualname := "is_whole", params := hA (hT 6), body := .stmts (hB (hT 6)), scope := hC (hT 6), globals := 3, closure := [], defaults := .none, kwdefaults := .none, pyModule := hS "steadyhand.fractions" 255, code := .ref 69 } }) ::
  (nat_lit 71, { cls := .type "tuple", data := .seq #[] }) ::
  (nat_lit 73, { cls := .type "tuple", data := .seq #[hS "numbers" 267, hS "common" 268, hS "number" 269, hS "rest" 270, hS "left" 271] }) ::
  (nat_lit 74, { cls := .type "tuple", data := .seq #[] }) ::
  (nat_lit 76, { cls := .type "code", data := .fields #[hS "common_divisor" 264, hS "common_divisor" 265, hS "/claim/cut.py" 266, .int 13 0, .int 1 0, .int 0 0, .int 0 0, .int 3 0, .ref 71, .bool true, .int 181 0, .ref 72, .none, .ref 73, .ref 74, .ref 75, .int 272 0, .int 13 0, hS "/claim/cut.py" 273] }) ::
  (nat_lit 77, { cls := .type "function", data := .func { name := "common_divisor", qualname := "common_divisor", params := hA (hT 7), body := .stmts (hB (hT 7)), scope := hC (hT 7), globals := 3, closure := [], defaults := .none, kwdefaults := .none, pyModule := hS "steadyhand.fractions" 255, code := .ref 76 } }) ::
  (nat_lit 78, { cls := .type "tuple", data := .seq #[.int 1 275] }) ::
  (nat_lit 79, { cls := .type "tuple", data := .seq #[] }) ::
  (nat_lit 81, { cls := .type "tuple", data := .seq #[hS "top" 279, hS "bottom" 280, hS "common" 281] }) ::
  (nat_lit 82, { cls := .type "tuple", data := .seq #[] }) ::
  (nat_lit 84, { cls := .type "code", data := .fields #[hS "fraction" 276, hS "fraction" 277, hS "/claim/cut.py" 278, .int 22 0, .int 2 0, .int 0 0, .int 0 0, .int 3 0, .ref 79, .bool true, .int 181 0, .ref 80, .none, .ref 81, .ref 82, .ref 83, .int 282 0, .int 22 0, hS "/claim/cut.py" 283] }) ::
  (nat_lit 85, { cls := .type "function", data := .func { name := "fraction", qualname := "fraction", params := hA (hT 8), body := .stmts (hB (hT 8)), scope := hC (hT 8), globals := 3, closure := [], defaults := .ref 78, kwdefaults := .none, pyModule := hS "steadyhand.fractions" 255, code := .ref 84 } }) ::
  (nat_lit 86, { cls := .type "tuple", data := .seq #[] }) ::
  (nat_lit 88, { cls := .type "tuple", data := .seq #[hS "one" 288, hS "other" 289] }) ::
  (nat_lit 89, { cls := .type "tuple", data := .seq #[] }) ::
  (nat_lit 91, { cls := .type "code", data := .fields #[hS "under" 285, hS "under" 286, hS "/claim/cut.py" 287, .int 31 0, .int 2 0, .int 0 0, .int 0 0, .int 3 0, .ref 86, .bool true, .int 181 0, .ref 87, .none, .ref 88, .ref 89, .ref 90, .int 290 0, .int 31 0, hS "/claim/cut.py" 291] }) ::
  (nat_lit 92, { cls := .type "function", data := .func { name := "under", qualname := "under", params := hA (hT 9), body := .stmts (hB (hT 9)), scope := hC (hT 9), globals := 3, closure := [], defaults := .none, kwdefaults := .none, pyModule := hS "steadyhand.fractions" 255, code := .ref 91 } }) ::
  (nat_lit 93, { cls := .type "tuple", data := .seq #[] }) ::
  (nat_lit 96, { cls := .type "code", data := .fields #[hS "is_numbers" 295, hS "is_numbers" 296, hS "/claim/cut.py" 297, .int 34 0, .int 2 0, .int 0 0, .int 0 0, .int 3 0, .ref 93, .bool true, .int 181 0, .ref 94, .none, .none, .none, .ref 95, .int 298 0, .int 34 0, hS "/claim/cut.py" 299] }) ::
  (nat_lit 97, { cls := .type "function", data := .func { name := "is_numbers", qualname := "is_numbers", params := hA (hT 11), body := .stmts (hB (hT 11)), scope := hC (hT 11), globals := 3, closure := [], defaults := .none, kwdefaults := .none, pyModule := hS "steadyhand.tables" 293, code := .ref 96 } }) ::
  (nat_lit 98, { cls := .type "tuple", data := .seq #[.int 5 301] }) ::
  (nat_lit 99, { cls := .type "tuple", data := .seq #[] }) ::
  (nat_lit 102, { cls := .type "code", data := .fields #[hS "copied" 302, hS "copied" 303, hS "/claim/cut.py" 304, .int 36 0, .int 2 0, .int 0 0, .int 0 0, .int 3 0, .ref 99, .bool true, .int 181 0, .ref 100, .none, .none, .none, .ref 101, .int 305 0, .int 36 0, hS "/claim/cut.py" 306] }) ::
  (nat_lit 103, { cls := .type "function", data := .func { name := "copied", qualname := "copied", params := hA (hT 12), body := .stmts (hB (hT 12)), scope := hC (hT 12), globals := 3, closure := [], defaults := .ref 98, kwdefaults := .none, pyModule := hS "steadyhand.tables" 293, code := .ref 102 } }) ::
  (nat_lit 104, { cls := .type "tuple", data := .seq #[] }) ::
  (nat_lit 107, { cls := .type "code", data := .fields #[hS "is_row" 310, hS "is_row" 311, hS "/claim/cut.py" 312, .int 45 0, .int 2 0, .int 0 0, .int 0 0, .int 3 0, .ref 104, .bool true, .int 181 0, .ref 105, .none, .none, .none, .ref 106, .int 313 0, .int 45 0, hS "/claim/cut.py" 314] }) ::
  (nat_lit 108, { cls := .type "function", data := .func { name := "is_row", qualname := "is_row", params := hA (hT 14), body := .stmts (hB (hT 14)), scope := hC (hT 14), globals := 3, closure := [], defaults := .none, kwdefaults := .none, pyModule := hS "steadyhand.rows" 308, code := .ref 107 } }) ::
  (nat_lit 109, { cls := .type "tuple", data := .seq #[] }) ::
  (nat_lit 111, { cls := .type "tuple", data := .seq #[hS "numbers" 319, hS "point" 320, hS "top" 321, hS "bottom" 322, hS "number" 323, hS "part" 324] }) ::
  (nat_lit 112, { cls := .type "tuple", data := .seq #[] }) ::
  (nat_lit 114, { cls := .type "code", data := .fields #[hS "raw_sum" 316, hS "raw_sum" 317, hS "/claim/cut.py" 318, .int 47 0, .int 2 0, .int 0 0, .int 0 0, .int 3 0, .ref 109, .bool true, .int 181 0, .ref 110, .none, .ref 111, .ref 112, .ref 113, .int 325 0, .int 47 0, hS "/claim/cut.py" 326] }) ::
  (nat_lit 115, { cls := .type "function", data := .func { name := "raw_sum", qualname := "raw_sum", params := hA (hT 15), body := .stmts (hB (hT 15)), scope := hC (hT 15), globals := 3, closure := [], defaults := .none, kwdefaults := .none, pyModule := hS "steadyhand.rows" 308, code := .ref 114 } }) ::
  (nat_lit 116, { cls := .type "tuple", data := .seq #[] }) ::
  (nat_lit 118, { cls := .type "tuple", data := .seq #[hS "numbers" 331, hS "point" 332, hS "add" 333, hS "divisor" 334, hS "total" 335] }) ::
  (nat_lit 119, { cls := .type "tuple", data := .seq #[] }) ::
  (nat_lit 121, { cls := .type "code", data := .fields #[hS "divided_sum" 328, hS "divided_sum" 329, hS "/claim/cut.py" 330, .int 54 0, .int 4 0, .int 0 0, .int 0 0, .int 3 0, .ref 116, .bool true, .int 181 0, .ref 117, .none, .ref 118, .ref 119, .ref 120, .int 336 0, .int 54 0, hS "/claim/cut.py" 337] }) ::
  (nat_lit 122, { cls := .type "function", data := .func { name := "divided_sum", qualname := "divided_sum", params := hA (hT 16), body := .stmts (hB (hT 16)), scope := hC (hT 16), globals := 3, closure := [], defaults := .none, kwdefaults := .none, pyModule := hS "steadyhand.rows" 308, code := .ref 121 } }) ::
  (nat_lit 123, { cls := .type "tuple", data := .seq #[] }) ::
  (nat_lit 125, { cls := .type "tuple", data := .seq #[hS "row" 342, hS "point" 343, hS "total" 344] }) ::
  (nat_lit 126, { cls := .type "tuple", data := .seq #[] }) ::
  (nat_lit 128, { cls := .type "code", data := .fields #[hS "holds" 339, hS "holds" 340, hS "/claim/cut.py" 341, .int 57 0, .int 2 0, .int 0 0, .int 0 0, .int 3 0, .ref 123, .bool true, .int 181 0, .ref 124, .none, .ref 125, .ref 126, .ref 127, .int 345 0, .int 57 0, hS "/claim/cut.py" 346] }) ::
  (nat_lit 129, { cls := .type "function", data := .func { name := "holds", qualname := "holds", params := hA (hT 17), body := .stmts (hB (hT 17)), scope := hC (hT 17), globals := 3, closure := [], defaults := .none, kwdefaults := .none, pyModule := hS "steadyhand.rows" 308, code := .ref 128 } }) ::
  (nat_lit 130, { cls := .type "tuple", data := .seq #[] }) ::
  (nat_lit 133, { cls := .type "code", data := .fields #[hS "other_side" 348, hS "other_side" 349, hS "/claim/cut.py" 350, .int 60 0, .int 1 0, .int 0 0, .int 0 0, .int 3 0, .ref 130, .bool true, .int 181 0, .ref 131, .none, .none, .none, .ref 132, .int 351 0, .int 60 0, hS "/claim/cut.py" 352] }) ::
  (nat_lit 134, { cls := .type "function", data := .func { name := "other_side", qualname := "other_side", params := hA (hT 18), body := .stmts (hB (hT 18)), scope := hC (hT 18), globals := 3, closure := [], defaults := .none, kwdefaults := .none, pyModule := hS "steadyhand.rows" 308, code := .ref 133 } }) ::
  (nat_lit 142, { cls := .type "tuple", data := .seq #[] }) ::
  (nat_lit 143, { cls := .type "dict", data := .dict #[hE P "__module__" 365 (hS "steadyhand.rules" 354), hE P "__firstlineno__" 369 (.int 64 368), hE P "__static_attributes__" 370 (.ref 142), hE P "__dict__" 372 (.ref 145), hE P "__weakref__" 374 (.ref 146), hE P "__doc__" 375 (.none)] 4 }) ::
  (nat_lit 144, { cls := .type "type", data := .cls { name := "Rule", bases := [.type "object"], mro := [.ref 144, .type "object"], ns := 143, qualname := "Rule", subclasses := [.ref 173, .ref 199, .ref 225] }, slots := #[none, none, some (hS "Rule" 358), some (hS "Rule" 366), some (.builtin "object.__new__"), some (.bool true)] }) ::
  (nat_lit 145, { cls := .type "getset_descriptor", data := .fields #[hS "__dict__" 371, .ref 144, .builtin "function.__dict__", .builtin "function.__dict__#set"] }) ::
  (nat_lit 146, { cls := .type "getset_descriptor", data := .fields #[hS "__weakref__" 373, .ref 144, .builtin "ExceptionGroup.__weakref__", .none] }) ::
  (nat_lit 149, { cls := .type "tuple", data := .seq #[.ref 144] }) ::
  (nat_lit 156, { cls := .type "tuple", data := .seq #[.int 1 390] }) ::
  (nat_lit 157, { cls := .type "tuple", data := .seq #[] }) ::
  (nat_lit 159, { cls := .type "tuple", data := .seq #[hS "self" 394, hS "numbers" 395, hS "add" 396, hS "divisor" 397] }) ::
  (nat_lit 160, { cls := .type "tuple", data := .seq #[] }) ::
  (nat_lit 162, { cls := .type "code", data := .fields #[hS "__init__" 391, hS "Straight.__init__" 392, hS "/claim/cut.py" 393, .int 68 0, .int 4 0, .int 0 0, .int 0 0, .int 3 0, .ref 157, .bool true, .int 181 0, .ref 158, .none, .ref 159, .ref 160, .ref 161, .int 398 0, .int 68 0, hS "/claim/cut.py" 399] }) ::
  (nat_lit 163, { cls := .type "function", data := .func { name := "__init__", qualname := "Straight.__init__", params := hA (hI 22 0), body := .stmts (hB (hI 22 0)), scope := hC (hI 22 0), globals := 3, closure := [], defaults := .ref 156, kwdefaults := .none, pyModule := hS "steadyhand.rules" 354, code := .ref 162 } }) ::
  (nat_lit 164, { cls := .type "tuple", data := .seq #[] }) ::
  (nat_lit 166, { cls := .type "tuple", data := .seq #[hS "self" 404, hS "point" 405] }) ::
  (nat_lit 167, { cls := .type "tuple", data := .seq #[] }) ::
  (nat_lit 169, { cls := .type "code", data := .fields #[hS "steering" 401, hS "Straight.steering" 402, hS "/claim/cut.py" 403, .int 73 0, .int 2 0, .int 0 0, .int 0 0, .int 3 0, .ref 164, .bool true, .int 181 0, .ref 165, .none, .ref 166, .ref 167, .ref 168, .int 406 0, .int 73 0, hS "/claim/cut.py" 407] }) ::
  (nat_lit 170, { cls := .type "function", data := .func { name := "steering", qualname := "Straight.steering", params := hA (hI 22 1), body := .stmts (hB (hI 22 1)), scope := hC (hI 22 1), globals := 3, closure := [], defaults := .none, kwdefaults := .none, pyModule := hS "steadyhand.rules" 354, code := .ref 169 } }) ::
  (nat_lit 171, { cls := .type "tuple", data := .seq #[hS "add" 409, hS "divisor" 410, hS "numbers" 411] }) ::
  (nat_lit 172, { cls := .type "dict", data := .dict #[hE P "__module__" 385 (hS "steadyhand.rules" 354), hE P "__firstlineno__" 389 (.int 66 388), hE P "__init__" 400 (.ref 163), hE P "steering" 408 (.ref 170), hE P "__static_attributes__" 412 (.ref 171), hE P "__doc__" 413 (.none)] 2 }) ::
  (nat_lit 173, { cls := .type "type", data := .cls { name := "Straight", bases := [.ref 144], mro := [.ref 173, .ref 144, .type "object"], ns := 172, qualname := "Straight" }, slots := #[some (.ref 149), none, some (hS "Straight" 378), some (hS "Straight" 386), some (.builtin "object.__new__"), some (.bool true)] }) ::
  (nat_lit 176, { cls := .type "tuple", data := .seq #[.ref 144] }) ::
  (nat_lit 183, { cls := .type "tuple", data := .seq #[] }) ::
  (nat_lit 185, { cls := .type "tuple", data := .seq #[hS "self" 431, hS "rule" 432, hS "low" 433, hS "high" 434] }) ::
  (nat_lit 186, { cls := .type "tuple", data := .seq #[] }) ::
  (nat_lit 188, { cls := .type "code", data := .fields #[hS "__init__" 428, hS "Stopped.__init__" 429, hS "/claim/cut.py" 430, .int 77 0, .int 4 0, .int 0 0, .int 0 0, .int 3 0, .ref 183, .bool true, .int 181 0, .ref 184, .none, .ref 185, .ref 186, .ref 187, .int 435 0, .int 77 0, hS "/claim/cut.py" 436] }) ::
  (nat_lit 189, { cls := .type "function", data := .func { name := "__init__", qualname := "Stopped.__init__", params := hA (hI 23 0), body := .stmts (hB (hI 23 0)), scope := hC (hI 23 0), globals := 3, closure := [], defaults := .none, kwdefaults := .none, pyModule := hS "steadyhand.rules" 354, code := .ref 188 } }) ::
  (nat_lit 190, { cls := .type "tuple", data := .seq #[] }) ::
  (nat_lit 192, { cls := .type "tuple", data := .seq #[hS "self" 441, hS "point" 442, hS "value" 443] }) ::
  (nat_lit 193, { cls := .type "tuple", data := .seq #[] }) ::
  (nat_lit 195, { cls := .type "code", data := .fields #[hS "steering" 438, hS "Stopped.steering" 439, hS "/claim/cut.py" 440, .int 82 0, .int 2 0, .int 0 0, .int 0 0, .int 3 0, .ref 190, .bool true, .int 181 0, .ref 191, .none, .ref 192, .ref 193, .ref 194, .int 444 0, .int 82 0, hS "/claim/cut.py" 445] }) ::
  (nat_lit 196, { cls := .type "function", data := .func { name := "steering", qualname := "Stopped.steering", params := hA (hI 23 1), body := .stmts (hB (hI 23 1)), scope := hC (hI 23 1), globals := 3, closure := [], defaults := .none, kwdefaults := .none, pyModule := hS "steadyhand.rules" 354, code := .ref 195 } }) ::
  (nat_lit 197, { cls := .type "tuple", data := .seq #[hS "high" 447, hS "low" 448, hS "rule" 449] }) ::
  (nat_lit 198, { cls := .type "dict", data := .dict #[hE P "__module__" 423 (hS "steadyhand.rules" 354), hE P "__firstlineno__" 427 (.int 75 426), hE P "__init__" 437 (.ref 189), hE P "steering" 446 (.ref 196), hE P "__static_attributes__" 450 (.ref 197), hE P "__doc__" 451 (.none)] 2 }) ::
  (nat_lit 199, { cls := .type "type", data := .cls { name := "Stopped", bases := [.ref 144], mro := [.ref 199, .ref 144, .type "object"], ns := 198, qualname := "Stopped" }, slots := #[some (.ref 176), none, some (hS "Stopped" 416), some (hS "Stopped" 424), some (.builtin "object.__new__"), some (.bool true)] }) ::
  (nat_lit 202, { cls := .type "tuple", data := .seq #[.ref 144] }) ::
  (nat_lit 209, { cls := .type "tuple", data := .seq #[] }) ::
  (nat_lit 211, { cls := .type "tuple", data := .seq #[hS "self" 469, hS "row" 470, hS "rule" 471, hS "other" 472] }) ::
  (nat_lit 212, { cls := .type "tuple", data := .seq #[] }) ::
  (nat_lit 214, { cls := .type "code", data := .fields #[hS "__init__" 466, hS "Parted.__init__" 467, hS "/claim/cut.py" 468, .int 91 0, .int 4 0, .int 0 0, .int 0 0, .int 3 0, .ref 209, .bool true, .int 181 0, .ref 210, .none, .ref 211, .ref 212, .ref 213, .int 473 0, .int 91 0, hS "/claim/cut.py" 474] }) ::
  (nat_lit 215, { cls := .type "function", data := .func { name := "__init__", qualname := "Parted.__init__", params := hA (hI 24 0), body := .stmts (hB (hI 24 0)), scope := hC (hI 24 0), globals := 3, closure := [], defaults := .none, kwdefaults := .none, pyModule := hS "steadyhand.rules" 354, code := .ref 214 } }) ::
  (nat_lit 216, { cls := .type "tuple", data := .seq #[] }) ::
  (nat_lit 218, { cls := .type "tuple", data := .seq #[hS "self" 479, hS "point" 480] }) ::
  (nat_lit 219, { cls := .type "tuple", data := .seq #[] }) ::
  (nat_lit 221, { cls := .type "code", data := .fields #[hS "steering" 476, hS "Parted.steering" 477, hS "/claim/cut.py" 478, .int 96 0, .int 2 0, .int 0 0, .int 0 0, .int 3 0, .ref 216, .bool true, .int 181 0, .ref 217, .none, .ref 218, .ref 219, .ref 220, .int 481 0, .int 96 0, hS "/claim/cut.py" 482] }) ::
  (nat_lit 222, { cls := .type "function", data := .func { name := "steering", qualname := "Parted.steering", params := hA (hI 24 1), body := .stmts (hB (hI 24 1)), scope := hC (hI 24 1), globals := 3, closure := [], defaults := .none, kwdefaults := .none, pyModule := hS "steadyhand.rules" 354, code := .ref 221 } }) ::
  (nat_lit 223, { cls := .type "tuple", data := .seq #[hS "other" 484, hS "row" 485, hS "rule" 486] }) ::
  (nat_lit 224, { cls := .type "dict", data := .dict #[hE P "__module__" 461 (hS "steadyhand.rules" 354), hE P "__firstlineno__" 465 (.int 89 464), hE P "__init__" 475 (.ref 215), hE P "steering" 483 (.ref 222), hE P "__static_attributes__" 487 (.ref 223), hE P "__doc__" 488 (.none)] 2 }) ::
  (nat_lit 225, { cls := .type "type", data := .cls { name := "Parted", bases := [.ref 144], mro := [.ref 225, .ref 144, .type "object"], ns := 224, qualname := "Parted" }, slots := #[some (.ref 202), none, some (hS "Parted" 454), some (hS "Parted" 462), some (.builtin "object.__new__"), some (.bool true)] }) ::
  (nat_lit 228, { cls := .type "tuple", data := .seq #[] }) ::
  (nat_lit 230, { cls := .type "tuple", data := .seq #[hS "value" 494, hS "many" 495] }) ::
  (nat_lit 231, { cls := .type "tuple", data := .seq #[] }) ::
  (nat_lit 233, { cls := .type "code", data := .fields #[hS "is_rule" 491, hS "is_rule" 492, hS "/claim/cut.py" 493, .int 100 0, .int 2 0, .int 0 0, .int 0 0, .int 3 0, .ref 228, .bool true, .int 181 0, .ref 229, .none, .ref 230, .ref 231, .ref 232, .int 496 0, .int 100 0, hS "/claim/cut.py" 497] }) ::
  (nat_lit 234, { cls := .type "function", data := .func { name := "is_rule", qualname := "is_rule", params := hA (hT 25), body := .stmts (hB (hT 25)), scope := hC (hT 25), globals := 3, closure := [], defaults := .none, kwdefaults := .none, pyModule := hS "steadyhand.rules" 354, code := .ref 233 } }) ::
  (nat_lit 235, { cls := .type "tuple", data := .seq #[] }) ::
  (nat_lit 237, { cls := .type "tuple", data := .seq #[hS "value" 502, hS "many" 503] }) ::
  (nat_lit 238, { cls := .type "tuple", data := .seq #[] }) ::
  (nat_lit 240, { cls := .type "code", data := .fields #[hS "is_straight" 499, hS "is_straight" 500, hS "/claim/cut.py" 501, .int 108 0, .int 2 0, .int 0 0, .int 0 0, .int 3 0, .ref 235, .bool true, .int 181 0, .ref 236, .none, .ref 237, .ref 238, .ref 239, .int 504 0, .int 108 0, hS "/claim/cut.py" 505] }) ::
  (nat_lit 241, { cls := .type "function", data := .func { name := "is_straight", qualname := "is_straight", params := hA (hT 26), body := .stmts (hB (hT 26)), scope := hC (hT 26), globals := 3, closure := [], defaults := .none, kwdefaults := .none, pyModule := hS "steadyhand.rules" 354, code := .ref 240 } }) ::
  (nat_lit 242, { cls := .type "tuple", data := .seq #[] }) ::
  (nat_lit 244, { cls := .type "tuple", data := .seq #[hS "low" 510, hS "high" 511] }) ::
  (nat_lit 245, { cls := .type "tuple", data := .seq #[] }) ::
  (nat_lit 247, { cls := .type "code", data := .fields #[hS "are_stops" 507, hS "are_stops" 508, hS "/claim/cut.py" 509, .int 112 0, .int 2 0, .int 0 0, .int 0 0, .int 3 0, .ref 242, .bool true, .int 181 0, .ref 243, .none, .ref 244, .ref 245, .ref 246, .int 512 0, .int 112 0, hS "/claim/cut.py" 513] }) ::
  (nat_lit 248, { cls := .type "function", data := .func { name := "are_stops", qualname := "are_stops", params := hA (hT 27), body := .stmts (hB (hT 27)), scope := hC (hT 27), globals := 3, closure := [], defaults := .none, kwdefaults := .none, pyModule := hS "steadyhand.rules" 354, code := .ref 247 } }) ::
  (nat_lit 249, { cls := .type "tuple", data := .seq #[] }) ::
  (nat_lit 251, { cls := .type "tuple", data := .seq #[hS "rule" 518] }) ::
  (nat_lit 252, { cls := .type "tuple", data := .seq #[] }) ::
  (nat_lit 254, { cls := .type "code", data := .fields #[hS "piece_count" 515, hS "piece_count" 516, hS "/claim/cut.py" 517, .int 114 0, .int 1 0, .int 0 0, .int 0 0, .int 3 0, .ref 249, .bool true, .int 181 0, .ref 250, .none, .ref 251, .ref 252, .ref 253, .int 519 0, .int 114 0, hS "/claim/cut.py" 520] }) ::
  (nat_lit 255, { cls := .type "function", data := .func { name := "piece_count", qualname := "piece_count", params := hA (hT 28), body := .stmts (hB (hT 28)), scope := hC (hT 28), globals := 3, closure := [], defaults := .none, kwdefaults := .none, pyModule := hS "steadyhand.rules" 354, code := .ref 254 } }) ::
  (nat_lit 256, { cls := .type "tuple", data := .seq #[] }) ::
  (nat_lit 258, { cls := .type "tuple", data := .seq #[hS "rule" 525, hS "many" 526] }) ::
  (nat_lit 259, { cls := .type "tuple", data := .seq #[] }) ::
  (nat_lit 261, { cls := .type "code", data := .fields #[hS "pieces" 522, hS "pieces" 523, hS "/claim/cut.py" 524, .int 120 0, .int 2 0, .int 0 0, .int 0 0, .int 3 0, .ref 256, .bool true, .int 181 0, .ref 257, .none, .ref 258, .ref 259, .ref 260, .int 527 0, .int 120 0, hS "/claim/cut.py" 528] }) ::
  (nat_lit 262, { cls := .type "function", data := .func { name := "pieces", qualname := "pieces", params := hA (hT 29), body := .stmts (hB (hT 29)), scope := hC (hT 29), globals := 3, closure := [], defaults := .none, kwdefaults := .none, pyModule := hS "steadyhand.rules" 354, code := .ref 261 } }) ::
  (nat_lit 263, { cls := .type "tuple", data := .seq #[] }) ::
  (nat_lit 265, { cls := .type "tuple", data := .seq #[hS "rule" 533] }) ::
  (nat_lit 266, { cls := .type "tuple", data := .seq #[] }) ::
  (nat_lit 268, { cls := .type "code", data := .fields #[hS "listed" 530, hS "listed" 531, hS "/claim/cut.py" 532, .int 126 0, .int 1 0, .int 0 0, .int 0 0, .int 3 0, .ref 263, .bool true, .int 181 0, .ref 264, .none, .ref 265, .ref 266, .ref 267, .int 534 0, .int 126 0, hS "/claim/cut.py" 535] }) ::
  (nat_lit 269, { cls := .type "function", data := .func { name := "listed", qualname := "listed", params := hA (hT 30), body := .stmts (hB (hT 30)), scope := hC (hT 30), globals := 3, closure := [], defaults := .none, kwdefaults := .none, pyModule := hS "steadyhand.rules" 354, code := .ref 268 } }) ::
  (nat_lit 270, { cls := .type "tuple", data := .seq #[] }) ::
  (nat_lit 273, { cls := .type "code", data := .fields #[hS "parted_pieces" 537, hS "parted_pieces" 538, hS "/claim/cut.py" 539, .int 132 0, .int 1 0, .int 0 0, .int 0 0, .int 3 0, .ref 270, .bool true, .int 181 0, .ref 271, .none, .none, .none, .ref 272, .int 540 0, .int 132 0, hS "/claim/cut.py" 541] }) ::
  (nat_lit 274, { cls := .type "function", data := .func { name := "parted_pieces", qualname := "parted_pieces", params := hA (hT 31), body := .stmts (hB (hT 31)), scope := hC (hT 31), globals := 3, closure := [], defaults := .none, kwdefaults := .none, pyModule := hS "steadyhand.rules" 354, code := .ref 273 } }) ::
  (nat_lit 275, { cls := .type "tuple", data := .seq #[] }) ::
  (nat_lit 278, { cls := .type "code", data := .fields #[hS "stopped_pieces" 543, hS "stopped_pieces" 544, hS "/claim/cut.py" 545, .int 137 0, .int 1 0, .int 0 0, .int 0 0, .int 3 0, .ref 275, .bool true, .int 181 0, .ref 276, .none, .none, .none, .ref 277, .int 546 0, .int 137 0, hS "/claim/cut.py" 547] }) ::
  (nat_lit 279, { cls := .type "function", data := .func { name := "stopped_pieces", qualname := "stopped_pieces", params := hA (hT 32), body := .stmts (hB (hT 32)), scope := hC (hT 32), globals := 3, closure := [], defaults := .none, kwdefaults := .none, pyModule := hS "steadyhand.rules" 354, code := .ref 278 } }) ::
  (nat_lit 280, { cls := .type "tuple", data := .seq #[] }) ::
  (nat_lit 282, { cls := .type "tuple", data := .seq #[hS "straight" 552, hS "stop" 553] }) ::
  (nat_lit 283, { cls := .type "tuple", data := .seq #[] }) ::
  (nat_lit 285, { cls := .type "code", data := .fields #[hS "stop_row" 549, hS "stop_row" 550, hS "/claim/cut.py" 551, .int 147 0, .int 2 0, .int 0 0, .int 0 0, .int 3 0, .ref 280, .bool true, .int 181 0, .ref 281, .none, .ref 282, .ref 283, .ref 284, .int 554 0, .int 147 0, hS "/claim/cut.py" 555] }) ::
  (nat_lit 286, { cls := .type "function", data := .func { name := "stop_row", qualname := "stop_row", params := hA (hT 33), body := .stmts (hB (hT 33)), scope := hC (hT 33), globals := 3, closure := [], defaults := .none, kwdefaults := .none, pyModule := hS "steadyhand.rules" 354, code := .ref 285 } }) ::
  (nat_lit 287, { cls := .type "tuple", data := .seq #[] }) ::
  (nat_lit 289, { cls := .type "tuple", data := .seq #[hS "_law_script" 562, hS "_law_k" 563] }) ::
  (nat_lit 290, { cls := .type "tuple", data := .seq #[] }) ::
  (nat_lit 292, { cls := .type "code", data := .fields #[hS "_law_cell_at" 559, hS "_law_cell_at" 560, hS "/claim/cut.py" 561, .int 150 0, .int 2 0, .int 0 0, .int 0 0, .int 3 0, .ref 287, .bool true, .int 181 0, .ref 288, .none, .ref 289, .ref 290, .ref 291, .int 564 0, .int 150 0, hS "/claim/cut.py" 565] }) ::
  (nat_lit 293, { cls := .type "function", data := .func { name := "_law_cell_at", qualname := "_law_cell_at", params := hA (hT 35), body := .stmts (hB (hT 35)), scope := hC (hT 35), globals := 3, closure := [], defaults := .none, kwdefaults := .none, pyModule := hS "law_steadyhand_k23_whole_pieces_cover" 557, code := .ref 292 } }) ::
  (nat_lit 294, { cls := .type "tuple", data := .seq #[] }) ::
  (nat_lit 296, { cls := .type "tuple", data := .seq #[hS "_law_cell" 570, hS "_law_many" 571, hS "_law_found" 572, hS "_law_rest" 573, hS "_law_k" 574, hS "_law_number_here" 575] }) ::
  (nat_lit 297, { cls := .type "tuple", data := .seq #[] }) ::
  (nat_lit 299, { cls := .type "code", data := .fields #[hS "_law_stream" 567, hS "_law_stream" 568, hS "/claim/cut.py" 569, .int 154 0, .int 2 0, .int 0 0, .int 0 0, .int 3 0, .ref 294, .bool true, .int 181 0, .ref 295, .none, .ref 296, .ref 297, .ref 298, .int 576 0, .int 154 0, hS "/claim/cut.py" 577] }) ::
  (nat_lit 300, { cls := .type "function", data := .func { name := "_law_stream", qualname := "_law_stream", params := hA (hT 36), body := .stmts (hB (hT 36)), scope := hC (hT 36), globals := 3, closure := [], defaults := .none, kwdefaults := .none, pyModule := hS "law_steadyhand_k23_whole_pieces_cover" 557, code := .ref 299 } }) ::
  (nat_lit 301, { cls := .type "tuple", data := .seq #[] }) ::
  (nat_lit 303, { cls := .type "tuple", data := .seq #[hS "_law_number_here" 582] }) ::
  (nat_lit 304, { cls := .type "tuple", data := .seq #[] }) ::
  (nat_lit 306, { cls := .type "code", data := .fields #[hS "_law_number" 579, hS "_law_number" 580, hS "/claim/cut.py" 581, .int 167 0, .int 1 0, .int 0 0, .int 0 0, .int 3 0, .ref 301, .bool true, .int 181 0, .ref 302, .none, .ref 303, .ref 304, .ref 305, .int 583 0, .int 167 0, hS "/claim/cut.py" 584] }) ::
  (nat_lit 307, { cls := .type "function", data := .func { name := "_law_number", qualname := "_law_number", params := hA (hT 37), body := .stmts (hB (hT 37)), scope := hC (hT 37), globals := 3, closure := [], defaults := .none, kwdefaults := .none, pyModule := hS "law_steadyhand_k23_whole_pieces_cover" 557, code := .ref 306 } }) ::
  (nat_lit 308, { cls := .type "tuple", data := .seq #[] }) ::
  (nat_lit 311, { cls := .type "code", data := .fields #[hS "_law_leaf" 586, hS "_law_leaf" 587, hS "/claim/cut.py" 588, .int 171 0, .int 2 0, .int 0 0, .int 0 0, .int 3 0, .ref 308, .bool true, .int 181 0, .ref 309, .none, .none, .none, .ref 310, .int 589 0, .int 171 0, hS "/claim/cut.py" 590] }) ::
  (nat_lit 312, { cls := .type "function", data := .func { name := "_law_leaf", qualname := "_law_leaf", params := hA (hT 38), body := .stmts (hB (hT 38)), scope := hC (hT 38), globals := 3, closure := [], defaults := .none, kwdefaults := .none, pyModule := hS "law_steadyhand_k23_whole_pieces_cover" 557, code := .ref 311 } }) ::
  (nat_lit 313, { cls := .type "tuple", data := .seq #[] }) ::
  (nat_lit 316, { cls := .type "code", data := .fields #[hS "_law_rule" 592, hS "_law_rule" 593, hS "/claim/cut.py" 594, .int 175 0, .int 2 0, .int 0 0, .int 0 0, .int 3 0, .ref 313, .bool true, .int 181 0, .ref 314, .none, .none, .none, .ref 315, .int 595 0, .int 175 0, hS "/claim/cut.py" 596] }) ::
  (nat_lit 317, { cls := .type "function", data := .func { name := "_law_rule", qualname := "_law_rule", params := hA (hT 39), body := .stmts (hB (hT 39)), scope := hC (hT 39), globals := 3, closure := [], defaults := .none, kwdefaults := .none, pyModule := hS "law_steadyhand_k23_whole_pieces_cover" 557, code := .ref 316 } }) ::
  (nat_lit 318, { cls := .type "tuple", data := .seq #[] }) ::
  (nat_lit 320, { cls := .type "tuple", data := .seq #[hS "_law_one" 601, hS "_law_other" 602] }) ::
  (nat_lit 321, { cls := .type "tuple", data := .seq #[] }) ::
  (nat_lit 323, { cls := .type "code", data := .fields #[hS "_law_divisor" 598, hS "_law_divisor" 599, hS "/claim/cut.py" 600, .int 190 0, .int 2 0, .int 0 0, .int 0 0, .int 3 0, .ref 318, .bool true, .int 181 0, .ref 319, .none, .ref 320, .ref 321, .ref 322, .int 603 0, .int 190 0, hS "/claim/cut.py" 604] }) ::
  (nat_lit 324, { cls := .type "function", data := .func { name := "_law_divisor", qualname := "_law_divisor", params := hA (hT 40), body := .stmts (hB (hT 40)), scope := hC (hT 40), globals := 3, closure := [], defaults := .none, kwdefaults := .none, pyModule := hS "law_steadyhand_k23_whole_pieces_cover" 557, code := .ref 323 } }) ::
  (nat_lit 325, { cls := .type "tuple", data := .seq #[] }) ::
  (nat_lit 327, { cls := .type "tuple", data := .seq #[hS "_law_top" 609, hS "_law_bottom" 610, hS "_law_share" 611] }) ::
  (nat_lit 328, { cls := .type "tuple", data := .seq #[] }) ::
  (nat_lit 330, { cls := .type "code", data := .fields #[hS "_law_fraction" 606, hS "_law_fraction" 607, hS "/claim/cut.py" 608, .int 194 0, .int 2 0, .int 0 0, .int 0 0, .int 3 0, .ref 325, .bool true, .int 181 0, .ref 326, .none, .ref 327, .ref 328, .ref 329, .int 612 0, .int 194 0, hS "/claim/cut.py" 613] }) ::
  (nat_lit 331, { cls := .type "function", data := .func { name := "_law_fraction", qualname := "_law_fraction", params := hA (hT 41), body := .stmts (hB (hT 41)), scope := hC (hT 41), globals := 3, closure := [], defaults := .none, kwdefaults := .none, pyModule := hS "law_steadyhand_k23_whole_pieces_cover" 557, code := .ref 330 } }) ::
  (nat_lit 332, { cls := .type "tuple", data := .seq #[] }) ::
  (nat_lit 334, { cls := .type "tuple", data := .seq #[hS "_law_numbers" 618, hS "_law_point_here" 619, hS "_law_top" 620, hS "_law_bottom" 621, hS "_law_number_here" 622, hS "_law_value" 623] }) ::
  (nat_lit 335, { cls := .type "tuple", data := .seq #[] }) ::
  (nat_lit 337, { cls := .type "code", data := .fields #[hS "_law_sum" 615, hS "_law_sum" 616, hS "/claim/cut.py" 617, .int 197 0, .int 2 0, .int 0 0, .int 0 0, .int 3 0, .ref 332, .bool true, .int 181 0, .ref 333, .none, .ref 334, .ref 335, .ref 336, .int 624 0, .int 197 0, hS "/claim/cut.py" 625] }) ::
  (nat_lit 338, { cls := .type "function", data := .func { name := "_law_sum", qualname := "_law_sum", params := hA (hT 42), body := .stmts (hB (hT 42)), scope := hC (hT 42), globals := 3, closure := [], defaults := .none, kwdefaults := .none, pyModule := hS "law_steadyhand_k23_whole_pieces_cover" 557, code := .ref 337 } }) ::
  (nat_lit 339, { cls := .type "tuple", data := .seq #[] }) ::
  (nat_lit 341, { cls := .type "tuple", data := .seq #[hS "_law_rows" 630, hS "_law_point_here" 631, hS "_law_spare" 632, hS "_law_row" 633, hS "_law_value" 634] }) ::
  (nat_lit 342, { cls := .type "tuple", data := .seq #[] }) ::
  (nat_lit 344, { cls := .type "code", data := .fields #[hS "_law_held" 627, hS "_law_held" 628, hS "/claim/cut.py" 629, .int 204 0, .int 2 0, .int 0 0, .int 0 0, .int 3 0, .ref 339, .bool true, .int 181 0, .ref 340, .none, .ref 341, .ref 342, .ref 343, .int 635 0, .int 204 0, hS "/claim/cut.py" 636] }) ::
  (nat_lit 345, { cls := .type "function", data := .func { name := "_law_held", qualname := "_law_held", params := hA (hT 43), body := .stmts (hB (hT 43)), scope := hC (hT 43), globals := 3, closure := [], defaults := .none, kwdefaults := .none, pyModule := hS "law_steadyhand_k23_whole_pieces_cover" 557, code := .ref 344 } }) ::
  (nat_lit 346, { cls := .type "tuple", data := .seq #[] }) ::
  (nat_lit 348, { cls := .type "tuple", data := .seq #[hS "_law_straight" 641, hS "_law_point_here" 642, hS "_law_value" 643] }) ::
  (nat_lit 349, { cls := .type "tuple", data := .seq #[] }) ::
  (nat_lit 351, { cls := .type "code", data := .fields #[hS "_law_told" 638, hS "_law_told" 639, hS "/claim/cut.py" 640, .int 213 0, .int 2 0, .int 0 0, .int 0 0, .int 3 0, .ref 346, .bool true, .int 181 0, .ref 347, .none, .ref 348, .ref 349, .ref 350, .int 644 0, .int 213 0, hS "/claim/cut.py" 645] }) ::
  (nat_lit 352, { cls := .type "function", data := .func { name := "_law_told", qualname := "_law_told", params := hA (hT 44), body := .stmts (hB (hT 44)), scope := hC (hT 44), globals := 3, closure := [], defaults := .none, kwdefaults := .none, pyModule := hS "law_steadyhand_k23_whole_pieces_cover" 557, code := .ref 351 } }) ::
  (nat_lit 353, { cls := .type "tuple", data := .seq #[] }) ::
  (nat_lit 355, { cls := .type "tuple", data := .seq #[hS "_law_cell" 650, hS "_law_many" 651, hS "_law_rows" 652, hS "_law_xs" 653, hS "_law_point_here" 654, hS "_law_k" 655, hS "_law_bottom" 656, hS "_law_row" 657, hS "_law_rest" 658, hS "_law_top" 659] }) ::
  (nat_lit 356, { cls := .type "tuple", data := .seq #[] }) ::
  (nat_lit 358, { cls := .type "code", data := .fields #[hS "_law_point" 647, hS "_law_point" 648, hS "/claim/cut.py" 649, .int 216 0, .int 3 0, .int 0 0, .int 0 0, .int 3 0, .ref 353, .bool true, .int 181 0, .ref 354, .none, .ref 355, .ref 356, .ref 357, .int 660 0, .int 216 0, hS "/claim/cut.py" 661] }) ::
  (nat_lit 359, { cls := .type "function", data := .func { name := "_law_point", qualname := "_law_point", params := hA (hT 45), body := .stmts (hB (hT 45)), scope := hC (hT 45), globals := 3, closure := [], defaults := .none, kwdefaults := .none, pyModule := hS "law_steadyhand_k23_whole_pieces_cover" 557, code := .ref 358 } }) ::
  (nat_lit 360, { cls := .type "tuple", data := .seq #[] }) ::
  (nat_lit 362, { cls := .type "tuple", data := .seq #[hS "_law_script" 666, hS "_law_many" 667, hS "_law_rule_here" 668, hS "_law_told_here" 669, hS "_law_rows" 670, hS "_law_one" 671, hS "_law_cell" 672, hS "_law_point_here" 673, hS "_law_value" 674, hS "_law_hits" 675, hS "_law_some" 676, hS "_law_straight" 677, hS "_law_held_here" 678] }) ::
  (nat_lit 363, { cls := .type "tuple", data := .seq #[] }) ::
  (nat_lit 365, { cls := .type "code", data := .fields #[hS "law" 663, hS "law" 664, hS "/claim/cut.py" 665, .int 230 0, .int 1 0, .int 0 0, .int 0 0, .int 3 0, .ref 360, .bool true, .int 181 0, .ref 361, .none, .ref 362, .ref 363, .ref 364, .int 679 0, .int 230 0, hS "/claim/cut.py" 680] }) ::
  (nat_lit 366, { cls := .type "function", data := .func { name := "law", qualname := "law", params := hA (hT 46), body := .stmts (hB (hT 46)), scope := hC (hT 46), globals := 3, closure := [], defaults := .none, kwdefaults := .none, pyModule := hS "law_steadyhand_k23_whole_pieces_cover" 557, code := .ref 365 } }) :: []
noncomputable def ks : List Addr := [2, 3, 15, 22, 23, 24, 25, 28, 35, 36, 37, 40, 47, 48, 49, 52, 59, 60, 61, 64, 66, 67, 69, 70, 71, 73, 74, 76, 77, 78, 79, 81, 82, 84, 85, 86, 88, 89, 91, 92, 93, 96, 97, 98, 99, 102, 103, 104, 107, 108, 109, 111, 112, 114, 115, 116, 118, 119, 121, 122, 123, 125, 126, 128, 129, 130, 133, 134, 142, 143, 144, 145, 146, 149, 156, 157, 159, 160, 162, 163, 164, 166, 167, 169, 170, 171, 172, 173, 176, 183, 185, 186, 188, 189, 190, 192, 193, 195, 196, 197, 198, 199, 202, 209, 211, 212, 214, 215, 216, 218, 219, 221, 222, 223, 224, 225, 228, 230, 231, 233, 234, 235, 237, 238, 240, 241, 242, 244, 245, 247, 248, 249, 251, 252, 254, 255, 256, 258, 259, 261, 262, 263, 265, 266, 268, 269, 270, 273, 274, 275, 278, 279, 280, 282, 283, 285, 286, 287, 289, 290, 292, 293, 294, 296, 297, 299, 300, 301, 303, 304, 306, 307, 308, 311, 312, 313, 316, 317, 318, 320, 321, 323, 324, 325, 327, 328, 330, 331, 332, 334, 335, 337, 338, 339, 341, 342, 344, 345, 346, 348, 349, 351, 352, 353, 355, 356, 358, 359, 360, 362, 363, 365, 366]
theorem ke : ∀ P : Params, ks = (KK P).map (·.1) := fun _ => by
  kernel_rfl
noncomputable def vw : Program := { PySem.Challenge.pw_steadyhand_k23_whole_pieces_cover with main := { PySem.Challenge.pw_steadyhand_k23_whole_pieces_cover.main with body := [hT 1, hT 2, hT 3, hT 4, hT 6, hT 7, hT 9, hT 11, hT 14, hT 15, hT 16, hT 17, hT 18, hT 20, hT 21, hT 22, hT 23, hT 24, hT 25, hT 26, hT 27, hT 28, hT 29, hT 30, hT 31, hT 32, hT 33, hT 35, hT 36, hT 37, hT 38, hT 39, hT 40, hT 41, hT 42, hT 43, hT 44, hT 45, hT 46] } }
noncomputable def lo : List Str := [Str.ofString "fraction", Str.ofString "copied", Str.ofString "Straight"]
noncomputable abbrev rr : RowW := (OpenLaw.row PySem.Challenge.rw_steadyhand_k23_whole_pieces_cover).toRowW
noncomputable abbrev xt : Shared → Bool := fun s => xlAt vw [] s && recOk rr.records s
noncomputable def lhs (w : World) := (openEnds treeTable PySem.Challenge.pw_steadyhand_k23_whole_pieces_cover w 5918).map (fun s => (openSeen vw lo (importedModules PySem.Challenge.pw_steadyhand_k23_whole_pieces_cover.main.body) xt true s, ks.map s.heap.get?))
noncomputable def rhs (w : World) := some (openGood vw lo, (KK w.params).map fun p => some p.2)
lay_quick lhs rhs
theorem same (w : World) : PySem.W.Fast.tw2836763481514118364 w = PySem.W.Fast.tw1741135987410550383 w := by
  kernel_rfl
theorem left : LeftO rr.prog vw lo xt (kHook KK ks ke).obs (kHook KK ks ke).val 5918 := fun w => (congrFun PySem.W.Fast.te2836763481514118364 w).trans ((same w).trans (congrFun PySem.W.Fast.te1741135987410550383 w).symm)
end H23
namespace L2
open PySem PySem.Spec PyProof.Rows

noncomputable abbrev Key := Sum Int Str
noncomputable def keyIs : Key → Value → Bool
  | .inl k, v => Value.isInt k v
  | .inr x, v => Value.isStrOf x v
noncomputable def keyH (w : World) : Key → Int
  | .inl k => hashInt k
  | .inr x => hashStr w x
theorem keyIs_shape : ∀ {k : Key} {v : Value}, keyIs k v = true → (∃ i t, k = Sum.inl i ∧ v = Value.int i t) ∨ (∃ x t, k = Sum.inr x ∧ v = Value.str x t)
  | .inl i, v, h => by
    obtain ⟨t, e⟩ := Value.isInt_shape (k := i) (v := v) h
    exact .inl ⟨i, t, rfl, e⟩
  | .inr x, v, h => by
    obtain ⟨t, e⟩ := Value.isStrOf_shape (x := x) (v := v) h
    exact .inr ⟨x, t, rfl, e⟩
theorem key_ll (a b : Int) : decide ((Sum.inl a : Key) = Sum.inl b) = (a == b) := by
  by_cases e : a = b
  · subst e; simp
  · have h : ¬ (Sum.inl a : Key) = Sum.inl b := fun q => e (Sum.inl.inj q)
    rw [decide_eq_false h]
    exact (beq_eq_false_iff_ne.mpr e).symm
theorem key_rr (a b : Str) : decide ((Sum.inr a : Key) = Sum.inr b) = decide (a = b) := by
  by_cases e : a = b
  · subst e; simp
  · have h : ¬ (Sum.inr a : Key) = Sum.inr b := fun q => e (Sum.inr.inj q)
    rw [decide_eq_false h, decide_eq_false e]
theorem key_lr (a : Int) (b : Str) : decide ((Sum.inl a : Key) = Sum.inr b) = false := decide_eq_false (fun q => nomatch q)
theorem key_rl (a : Str) (b : Int) : decide ((Sum.inr a : Key) = Sum.inl b) = false := decide_eq_false (fun q => nomatch q)

noncomputable def mixKind (prog : Program) (w : World) : PySem.KeyKind prog w Key where
  is := keyIs
  hash := keyH w
  inj := fun v a b ha hb => by
    rcases keyIs_shape ha with ⟨i, t, rfl, rfl⟩ | ⟨x, t, rfl, rfl⟩
    · rcases keyIs_shape hb with ⟨j, u, rfl, e⟩ | ⟨y, u, rfl, e⟩
      · injection e with e1 _; rw [e1]
      · exact nomatch e
    · rcases keyIs_shape hb with ⟨j, u, rfl, e⟩ | ⟨y, u, rfl, e⟩
      · exact nomatch e
      · injection e with e1 _; rw [e1]
  byValue := fun k v h => by
    rcases keyIs_shape h with ⟨i, t, rfl, rfl⟩ | ⟨x, t, rfl, rfl⟩ <;> rfl
  pyHash := fun hv h => by
    rcases keyIs_shape hv with ⟨i, t, rfl, rfl⟩ | ⟨x, t, rfl, rfl⟩
    · exact wpAny_pyHash_int h
    · exact wpAny_pyHash_str h
  eqBool := fun hu hv h => by
    rcases keyIs_shape hu with ⟨i, t, rfl, rfl⟩ | ⟨x, t, rfl, rfl⟩
    · rcases keyIs_shape hv with ⟨j, u, rfl, rfl⟩ | ⟨y, u, rfl, rfl⟩
      · rw [key_ll] at h; exact wpAny_eqBool_int h
      · rw [key_lr] at h; exact SeqAt.EqAt.int_str i t y u _ _ _ _ h
    · rcases keyIs_shape hv with ⟨j, u, rfl, rfl⟩ | ⟨y, u, rfl, rfl⟩
      · rw [key_rl] at h; exact SeqAt.EqAt.str_int x t j u _ _ _ _ h
      · rw [key_rr] at h; exact wpAny_eqBool_str h
  «strs» := fun k x t v h => by
    rcases keyIs_shape h with ⟨i, u, rfl, e⟩ | ⟨y, u, rfl, e⟩
    · exact nomatch e
    · injection e with e1 _
      subst e1
      cases v <;> rfl

end L2

namespace L2
open PySem PySem.Spec PyProof.Rows

inductive V where
  | non | bl (b : Bool) | int (i : Int) | str (x : Str) | byt (b : Array UInt8) | flt (b : UInt64) | ref (a : Addr) | ty (n : String)
  deriving DecidableEq

noncomputable def RelV : V → Value → Prop
  | .non, u => u = Value.none
  | .bl b, u => u = Value.bool b
  | .int i, u => ∃ t, u = Value.int i t
  | .str x, u => ∃ t, u = Value.str x t
  | .byt b, u => ∃ t, u = Value.bytes b t
  | .flt b, u => ∃ t, u = Value.float b t
  | .ref a, u => u = Value.ref a
  | .ty n, u => u = Value.type n

noncomputable abbrev Vals : List V → List Value → Prop := Paired RelV
theorem Vals.length {xs : List V} {us : List Value} (r : Vals xs us) : xs.length = us.length := Paired.length r
theorem Vals.get : ∀ {xs : List V} {us : List Value} {i : Nat} {x : V}, Vals xs us → xs[i]? = some x → ∃ u, us[i]? = some u ∧ RelV x u
  | _, _, _, _, .nil, e => by simp at e
  | _, _, 0, _, .cons r _, e => by simp at e; subst e; exact ⟨_, rfl, r⟩
  | _, _, i + 1, x, .cons _ t, e => by
    obtain ⟨u, h1, h2⟩ := Vals.get (i := i) (x := x) t (by simpa using e)
    exact ⟨u, by simpa using h1, h2⟩
theorem Vals.set {x : V} {u : Value} (r : RelV x u) : ∀ {xs : List V} {us : List Value} (i : Nat), Vals xs us → Vals (xs.set i x) (us.set i u)
  | _, _, _, .nil => .nil
  | _, _, 0, .cons _ t => .cons r t
  | _, _, i + 1, .cons q t => .cons q (Vals.set r i t)
theorem Vals.append : ∀ {xs ys : List V} {us ws : List Value}, Vals xs us → Vals ys ws → Vals (xs ++ ys) (us ++ ws)
  | _, _, _, _, .nil, s => s
  | _, _, _, _, .cons r t, s => .cons r (Vals.append t s)
theorem Vals.take : ∀ {xs : List V} {us : List Value} (n : Nat), Vals xs us → Vals (xs.take n) (us.take n)
  | _, _, 0, _ => .nil
  | _, _, _ + 1, .nil => .nil
  | _, _, n + 1, .cons r t => .cons r (Vals.take n t)
theorem Vals.drop : ∀ {xs : List V} {us : List Value} (n : Nat), Vals xs us → Vals (xs.drop n) (us.drop n)
  | _, _, 0, r => r
  | _, _, _ + 1, .nil => .nil
  | _, _, n + 1, .cons _ t => Vals.drop n t
theorem Vals.none_of : ∀ {xs : List V} {us : List Value} {i : Nat}, Vals xs us → xs[i]? = none → us[i]? = none := fun {xs us i} r e => by
  have h1 := r.length
  have h2 : xs.length ≤ i := List.getElem?_eq_none_iff.mp e
  exact List.getElem?_eq_none_iff.mpr (by omega)

noncomputable def RelO : Option V → Option Value → Prop
  | some v, some u => RelV v u
  | none, none => True
  | _, _ => False
noncomputable def KV {κ : Type} : List (κ × V) → List (κ × Value) → Prop := Paired fun (p : κ × V) (q : κ × Value) => p.1 = q.1 ∧ RelV p.2 q.2

noncomputable def kV : Key → V
  | .inl i => .int i
  | .inr x => .str x

inductive HO where
  | lst (xs : List V)
  | tup (xs : List V)
  | dK (kvs : List (Key × V)) | dT (kvs : List (List Key × V))
  | set (S : Int → Bool) (n : Nat)
  | ins (C dx : Addr) (fs : List (Str × V))
  | own (x : Addr)
  | xd (fs : List (Str × V))
  | met (f x : Addr)
  | rng (lo hi : Int)
  | frz (o : Obj) (u : HO)
  | tbl (ps : Array Value)
  | ext (φ : Heap → Prop)

noncomputable abbrev Hp := Addr → Option HO
noncomputable def upd (H : Hp) (a : Addr) (o : HO) : Hp := fun b => if b = a then some o else H b
theorem upd_same {H : Hp} {a : Addr} {o : HO} : upd H a o a = some o := by unfold upd; rw [if_pos rfl]
theorem upd_ne {H : Hp} {a b : Addr} {o : HO} (h : b ≠ a) : upd H a o b = H b := by unfold upd; rw [if_neg h]
theorem upd_upd {H : Hp} {a : Addr} {o u : HO} : upd (upd H a o) a u = upd H a u := by
  funext b; unfold upd; split <;> rfl
theorem ne_of {H : Hp} {a b : Addr} {o u : HO} (h : H a = some o) (h' : H b = some u) (d : o ≠ u) : a ≠ b := by
  intro e; subst e; rw [h] at h'; exact d (Option.some.inj h')
theorem ne_of_none {H : Hp} {a b : Addr} {o : HO} (h : H a = some o) (h' : H b = none) : a ≠ b := by
  intro e; subst e; rw [h] at h'; cases h'

section
variable (P : Program) (w : World)
noncomputable def ObjOk (H : Hp) (h : Heap) (a : Addr) : HO → Prop
  | .lst xs => xs.length ≤ sizeLine ∧ ∃ (its : List Value) (n : Nat), Vals xs its ∧ h.get? a = some { cls := .type "list", data := .seq its.toArray n }
  | .tup xs => xs.length ≤ sizeLine ∧ ∃ its : List Value, Vals xs its ∧ IsTup h a its.toArray
  | .dK kvs => kvs.length ≤ sizeLine ∧ (a == sysModules) = false ∧ ∃ vs, KV kvs vs ∧ h.DictOf (mixKind P w) a vs
  | .dT kvs => kvs.length ≤ sizeLine ∧ (a == sysModules) = false ∧ ∃ xs : List (List Key × Addr × Value),
      Paired (fun (p : List Key × V) (q : List Key × Addr × Value) => p.1 = q.1 ∧ H q.2.1 = some (.tup (p.1.map kV)) ∧ RelV p.2 q.2.2) kvs xs ∧
      ∃ o es ep, h.get? a = some o ∧ o.ExactDict ∧ o.data = .dict es ep ∧ es.toList = xs.map (entryOfKey (tupleKind (mixKind P w))) ∧ (xs.map (·.1)).Nodup
  | .set S n => h.SetOf (intKind P w) a S n
  | .ins C dx fs => H dx = some (.own a) ∧ fs.length ≤ 1000 ∧ dx ≠ a ∧ h.get? a = some (PySem.W.instObj C dx) ∧
      ∃ mA, h.Ns1 dx mA ∧ (∀ f, RelO (fs.lookup f) (mA f)) ∧ PySem.Within mA (fs.map (·.1))
  | .own _ => ∃ o, h.get? a = some o
  | .xd fs => ∃ mA, h.Ns1 a mA ∧ ∀ f, RelO (fs.lookup f) (mA f)
  | .rng lo hi => ∃ t u v, h.get? a = some { cls := .type "range", data := .fields #[.int lo t, .int hi u, .int 1 v] }
  | .frz o u => h.get? a = some o ∧ ObjOk H h a u
  | .tbl ps => h.get? a = some { cls := .none, data := .fields ps }
  | .met f x => h.get? a = some (PySem.W.methodObj (.ref f) (.ref x))
  | .ext φ => φ h ∧ (∃ o, h.get? a = some o) ∧ ∀ h1 h2 : Heap, φ h1 → (∀ o, h1.get? a = some o → h2.get? a = some o) → φ h2
noncomputable def HOk (H : Hp) (h : Heap) : Prop := ∀ a o, H a = some o → ObjOk P w H h a o
end

section
variable {P : Program} {w : World} {H H' : Hp} {h h' : Heap} {a : Addr} {o : HO}
theorem ObjOk.lt (x : ObjOk P w H h a o) : a < h.objs.size := by
  cases o with
  | lst xs => obtain ⟨_, _, _, _, e⟩ := x; exact Heap.lt_size e
  | tup xs => obtain ⟨_, _, _, p⟩ := x; exact p.lt
  | dK kvs => obtain ⟨_, _, _, _, o, _, _, e, _⟩ := x; exact Heap.lt_size e
  | dT kvs => obtain ⟨_, _, _, _, o, _, _, e, _⟩ := x; exact Heap.lt_size e
  | set S n => obtain ⟨o, _, _, _, e, _⟩ := x; exact Heap.lt_size e
  | ins C dx fs => obtain ⟨_, _, _, e, _⟩ := x; exact Heap.lt_size e
  | own y => obtain ⟨_, e⟩ := x; exact Heap.lt_size e
  | xd fs => obtain ⟨_, ⟨_, _, _, e, _⟩, _⟩ := x; exact Heap.lt_size e
  | rng lo hi => obtain ⟨_, _, _, e⟩ := x; exact Heap.lt_size e
  | frz ob u => obtain ⟨e, _⟩ := x; exact Heap.lt_size e
  | tbl ps => exact Heap.lt_size (show h.get? a = some _ from x)
  | met f y => exact Heap.lt_size (show h.get? a = some _ from x)
  | ext φ => obtain ⟨_, ⟨_, e⟩, _⟩ := x; exact Heap.lt_size e
theorem Paired.mapP {α β : Type} {F G : α → β → Prop} : ∀ {l₁ : List α} {l₂ : List β}, Paired F l₁ l₂ → (∀ a b, F a b → G a b) → Paired G l₁ l₂
  | _, _, .nil, _ => .nil
  | _, _, .cons r t, f => .cons (f _ _ r) (Paired.mapP t f)
theorem ObjOk.stay (x : ObjOk P w H h a o) (k : ∀ b u, (b = a ∨ H b = some (.own a)) → h.get? b = some u → h'.get? b = some u)
    (ho : ∀ b, H b = some (.own a) → H' b = some (.own a)) (ht : ∀ b xs, H b = some (.tup xs) → H' b = some (.tup xs)) : ObjOk P w H' h' a o := by
  induction o with
  | lst xs => obtain ⟨z, its, n, r, e⟩ := x; exact ⟨z, its, n, r, k _ _ (.inl rfl) e⟩
  | tup xs => obtain ⟨z, its, r, ob, e, c⟩ := x; exact ⟨z, its, r, ob, k _ _ (.inl rfl) e, c⟩
  | dK kvs => obtain ⟨z, y, vs, r, ob, es, ep, e, c⟩ := x; exact ⟨z, y, vs, r, ob, es, ep, k _ _ (.inl rfl) e, c⟩
  | dT kvs =>
    obtain ⟨z, y, xs, r, ob, es, ep, e, c⟩ := x
    exact ⟨z, y, xs, Paired.mapP r fun p q z => ⟨z.1, ht _ _ z.2.1, z.2.2⟩, ob, es, ep, k _ _ (.inl rfl) e, c⟩
  | set S n => obtain ⟨ob, es, ep, t, e, c⟩ := x; exact ⟨ob, es, ep, t, k _ _ (.inl rfl) e, c⟩
  | ins C dx fs =>
    obtain ⟨d, z, ne, e, mA, ⟨od, es, ep, e2, c⟩, r⟩ := x
    exact ⟨ho _ d, z, ne, k _ _ (.inl rfl) e, mA, ⟨od, es, ep, k _ _ (.inr d) e2, c⟩, r⟩
  | own y => obtain ⟨ob, e⟩ := x; exact ⟨ob, k _ _ (.inl rfl) e⟩
  | xd fs => obtain ⟨mA, ⟨od, es, ep, e, c⟩, r⟩ := x; exact ⟨mA, ⟨od, es, ep, k _ _ (.inl rfl) e, c⟩, r⟩
  | rng lo hi => obtain ⟨t, u, v, e⟩ := x; exact ⟨t, u, v, k _ _ (.inl rfl) e⟩
  | frz ob u ih => obtain ⟨e, q⟩ := x; exact ⟨k _ _ (.inl rfl) e, ih q⟩
  | tbl ps =>
    have e : h.get? a = some { cls := .none, data := .fields ps } := x
    show h'.get? a = some { cls := .none, data := .fields ps }
    exact k a _ (.inl rfl) e
  | met f y =>
    have e : h.get? a = some (PySem.W.methodObj (.ref f) (.ref y)) := x
    show h'.get? a = some (PySem.W.methodObj (.ref f) (.ref y))
    exact k a _ (.inl rfl) e
  | ext φ => obtain ⟨p, ⟨o, e⟩, st⟩ := x; exact ⟨st _ _ p fun o q => k _ _ (.inl rfl) q, ⟨o, k _ _ (.inl rfl) e⟩, st⟩
theorem HOk.lt (x : HOk P w H h) (e : H a = some o) : a < h.objs.size := (x a o e).lt
theorem HOk.fresh (x : HOk P w H h) (e : h.objs.size ≤ a) : H a = none := by
  cases q : H a with
  | none => rfl
  | some u => exact absurd (Nat.lt_of_lt_of_le (x.lt q) e) (Nat.lt_irrefl _)
theorem HOk.kept (x : HOk P w H h) (k : ∀ b u, h.get? b = some u → h'.get? b = some u) : HOk P w H h' := fun a o e =>
  (x a o e).stay (fun b u _ q => k b u q) (fun _ q => q) fun _ _ q => q
theorem HOk.laid (x : HOk P w H h) (k : ∀ b u, h.get? b = some u → h'.get? b = some u) (hp : h.objs.size ≤ a) (new : ObjOk P w (upd H a o) h' a o) : HOk P w (upd H a o) h' := fun b u e => by
  have hn := x.fresh hp
  by_cases hb : b = a
  · subst hb; rw [upd_same] at e; cases e; exact new
  · rw [upd_ne hb] at e
    exact (x b u e).stay (fun c v _ q => k c v q) (fun c q => by rw [upd_ne (ne_of_none q hn)]; exact q) fun c xs q => by rw [upd_ne (ne_of_none q hn)]; exact q
end

noncomputable def Rd (H : Hp) (a : Addr) (u : HO) : Prop := H a = some u ∨ ∃ o, H a = some (.frz o u)
theorem Rd.of {H : Hp} {a : Addr} {u : HO} (h : H a = some u) : Rd H a u := .inl h
theorem Rd.ok {P : Program} {w : World} {H : Hp} {h : Heap} {a : Addr} {u : HO} (r : Rd H a u) (x : HOk P w H h) : ObjOk P w H h a u := by
  rcases r with r | ⟨o, r⟩
  · exact x a u r
  · obtain ⟨_, q⟩ := x a _ r
    exact q
noncomputable def Mut : Option HO → Prop
  | some (.lst _) => True
  | some (.dK _) => True
  | some (.dT _) => True
  | some (.set _ _) => True
  | some (.ins _ _ _) => True
  | some (.ext _) => True
  | _ => False
section
variable {P : Program} {w : World} {H : Hp} {h h' : Heap} {x e : Addr} {o' : HO}
theorem HOk.write (ok : HOk P w H h) (mu : Mut (H x)) (he : e = x ∨ H e = some (.own x)) (k : ∀ b u, b ≠ e → h.get? b = some u → h'.get? b = some u) (heo : ∃ u, h'.get? e = some u)
    (new : ObjOk P w (upd H x o') h' x o') : HOk P w (upd H x o') h' := fun b u q => by
  have nown : ∀ c y, H c = some (.own y) → c ≠ x := fun c y r z => by subst z; rw [r] at mu; exact mu
  have ntup : ∀ c xs, H c = some (.tup xs) → c ≠ x := fun c xs r z => by subst z; rw [r] at mu; exact mu
  by_cases hb : b = x
  · subst hb; rw [upd_same] at q; cases q; exact new
  · rw [upd_ne hb] at q
    by_cases hbe : b = e
    · have q' : H b = some (.own x) := by
        rcases he with z | z
        · exact absurd (hbe.trans z) hb
        · rw [hbe]; exact z
      rw [q] at q'; cases q'
      obtain ⟨v, hv⟩ := heo
      exact ⟨v, by rw [hbe]; exact hv⟩
    · refine (ok b u q).stay (fun c v hc r => k c v ?_ r) (fun c r => by rw [upd_ne (nown c b r)]; exact r) fun c xs r => by rw [upd_ne (ntup c xs r)]; exact r
      rcases hc with rfl | hc
      · exact hbe
      · rintro rfl
        rcases he with z | z
        · exact nown c b hc z
        · rw [hc] at z; cases z; exact hb rfl
end

structure Un (fs ex : List Addr) (H H' : Hp) (h h' : Heap) : Prop where
  keep : ∀ b o, h.get? b = some o → H b = none → b ∉ fs → b ∉ ex → h'.get? b = some o
  slot : ∀ b o, h.get? b = some o → H b = none → b ∈ fs → b ∉ ex → ∃ sl, h'.get? b = some { o with slots := sl }
  free : ∀ b o, h.get? b = some o → H b = none → b ∉ ex → H' b = none
  there : ∀ b o, h.get? b = some o → b ∉ ex → ∃ o', h'.get? b = some o'
  tups : ∀ b xs, H b = some (.tup xs) → H' b = some (.tup xs)
  frzs : ∀ b o u, H b = some (.frz o u) → H' b = some (.frz o u)
  tbls : ∀ b ps, H b = some (.tbl ps) → ∃ more, H' b = some (.tbl (ps ++ more))
section
variable {fs fs' ex ex' : List Addr} {H H1 H2 : Hp} {h h1 h2 h' : Heap} {a x e : Addr} {o : HO}
theorem Un.any (u : Un fs ex H H1 h h1) {b : Addr} {ob : Obj} (q : h.get? b = some ob) (n : H b = none) (hx : b ∉ ex) : ∃ sl, h1.get? b = some { ob with slots := sl } := by
  by_cases hb : b ∈ fs
  · exact u.slot b ob q n hb hx
  · exact ⟨ob.slots, u.keep b ob q n hb hx⟩
theorem Un.trans (a : Un fs ex H H1 h h1) (b : Un fs ex H1 H2 h1 h2) : Un fs ex H H2 h h2 where
  keep := fun c ob q n hc hx => b.keep c ob (a.keep c ob q n hc hx) (a.free c ob q n hx) hc hx
  slot := fun c ob q n hc hx => by
    obtain ⟨sl, e1⟩ := a.slot c ob q n hc hx
    obtain ⟨sl', e2⟩ := b.slot c _ e1 (a.free c ob q n hx) hc hx
    exact ⟨sl', e2⟩
  free := fun c ob q n hx => by
    obtain ⟨o', e1⟩ := a.there c ob q hx
    exact b.free c o' e1 (a.free c ob q n hx) hx
  there := fun c ob q hx => by
    obtain ⟨o', e1⟩ := a.there c ob q hx
    exact b.there c o' e1 hx
  tups := fun c xs q => b.tups c xs (a.tups c xs q)
  frzs := fun c ob xs q => b.frzs c ob xs (a.frzs c ob xs q)
  tbls := fun c ps q => by
    obtain ⟨m1, e1⟩ := a.tbls c ps q
    obtain ⟨m2, e2⟩ := b.tbls c _ e1
    exact ⟨m1 ++ m2, by rw [e2, Array.append_assoc]⟩
theorem Un.kept (k : ∀ b u, h.get? b = some u → h'.get? b = some u) : Un fs ex H H h h' :=
  ⟨fun b ob q _ _ _ => k b ob q, fun b ob q _ _ _ => ⟨ob.slots, k b ob q⟩, fun _ _ _ n _ => n, fun b ob q _ => ⟨ob, k b ob q⟩, fun _ _ q => q, fun _ _ _ q => q, fun _ ps q => ⟨#[], by rw [q]; simp⟩⟩
theorem Un.refl : Un fs ex H H h h := Un.kept fun _ _ q => q
theorem Un.laid (k : ∀ b u, h.get? b = some u → h'.get? b = some u) (hp : h.objs.size ≤ a) (hn : H a = none) : Un fs ex H (upd H a o) h h' where
  keep := fun b u q _ _ _ => k b u q
  slot := fun b u q _ _ _ => ⟨u.slots, k b u q⟩
  free := fun b u q n _ => by rw [upd_ne (Nat.ne_of_lt (Nat.lt_of_lt_of_le (Heap.lt_size q) hp))]; exact n
  there := fun b u q _ => ⟨u, k b u q⟩
  tups := fun b xs q => by rw [upd_ne (ne_of_none q hn)]; exact q
  frzs := fun b u xs q => by rw [upd_ne (ne_of_none q hn)]; exact q
  tbls := fun b ps q => ⟨#[], by rw [upd_ne (ne_of_none q hn), q]; simp⟩
theorem Un.write (mu : Mut (H x)) (he : e = x ∨ H e = some (.own x)) (k : ∀ b u, b ≠ e → h.get? b = some u → h'.get? b = some u) (heo : ∃ u, h'.get? e = some u) : Un fs ex H (upd H x o) h h' := by
  have hx : ∀ b, H b = none → b ≠ x := fun b n z => by subst z; rw [n] at mu; exact mu
  have hb : ∀ b, H b = none → b ≠ e := fun b n z => by
    subst z
    rcases he with r | r
    · exact hx b n r
    · rw [n] at r; cases r
  have hm : ∀ b u, H b = some u → ¬ Mut (some u) → b ≠ x := fun b u q nm z => by subst z; rw [q] at mu; exact nm mu
  refine ⟨fun b u q n _ _ => k b u (hb b n) q, fun b u q n _ _ => ⟨u.slots, k b u (hb b n) q⟩, fun b u q n _ => by rw [upd_ne (hx b n)]; exact n, fun b u q _ => ?_,
    fun b xs q => by rw [upd_ne (hm b _ q fun z => z)]; exact q, fun b u xs q => by rw [upd_ne (hm b _ q fun z => z)]; exact q, fun b ps q => ⟨#[], by rw [upd_ne (hm b _ q fun z => z), q]; simp⟩⟩
  by_cases hbe : b = e
  · subst hbe; exact heo
  · exact ⟨u, k b u hbe q⟩
theorem Un.mono (u : Un fs ex H H1 h h1) (hs : ∀ b ∈ fs, b ∈ fs') (hx : ∀ b ∈ ex, b ∈ ex') : Un fs' ex' H H1 h h1 :=
  ⟨fun b ob q n hb he => u.keep b ob q n (fun z => hb (hs b z)) fun z => he (hx b z), fun _ _ q n _ he => u.any q n fun z => he (hx _ z), fun b ob q n he => u.free b ob q n fun z => he (hx b z), fun b ob q he => u.there b ob q fun z => he (hx b z), u.tups, u.frzs, u.tbls⟩
end

noncomputable def trk (h : Heap) (H : Hp) : List Addr := (List.range h.objs.size).filter fun a => (H a).isSome
noncomputable def hidT (h : Heap) (H : Hp) : Heap := PySem.W.hideAll h (trk h H)
theorem hidT_size (h : Heap) (H : Hp) : (hidT h H).objs.size = h.objs.size := PySem.W.hideAll_size _ _
theorem hidT_get {h : Heap} {H : Hp} {b : Addr} {o : Obj} (e : h.get? b = some o) (n : H b = none) : (hidT h H).get? b = some o :=
  PySem.W.hideAll_get _ e fun hm => by
    have q : (H b).isSome = true := (List.mem_filter.mp hm).2
    rw [n] at q; simp at q
theorem of_hidT {h : Heap} {H : Hp} {b : Addr} {o : Obj} (e : (hidT h H).get? b = some o) : h.get? b = some o ∧ H b = none := by
  have e' : h.get? b = some o := PySem.W.of_hideAll (trk h H) e
  refine ⟨e', ?_⟩
  cases q : H b with
  | none => rfl
  | some x =>
    have hm : b ∈ trk h H := List.mem_filter.mpr ⟨List.mem_range.mpr (Heap.lt_size e'), by simp [q]⟩
    have z : (hidT h H).get? b = none := PySem.W.hideAll_none (trk h H) hm
    rw [z] at e; cases e

noncomputable def allNews (g h : Heap) (L : Addr) : List (Addr × Obj) := (List.range h.objs.size).filterMap fun a => if a = L ∨ (g.get? a).isSome = true then none else (h.get? a).map fun o => (a, o)
noncomputable def rest (g h : Heap) (L d : Addr) : List (Addr × Obj) := (allNews g h L).filter fun p => decide (p.1 ≠ d)
end L2

namespace L2
open PySem PySem.Spec PyProof.Rows

structure Mod (K : PySem.W.Frag) (mg : Str → Option Value) (base : Heap) : Prop where
  kin : K.In base
  glob : base.Ns mainGlobals mg
  blt : ∃ mb, base.Ns builtinsNs mb ∧ ∀ x : Str, x ≠ "__name__" → mb x = bootBuiltins x
  nolimit : base.NoLimit

structure Cx where
  prog : Program
  w : World
  K : PySem.W.Frag
  mg : Str → Option Value
  base : Heap
  A : Around
  N : List Str
  s₀ : Shared
  H₀ : Hp
  env : Env
  outer : List Env
  stack : List Env
  ex : List Addr
  fn : Str → Bool
  calm : Bool
  pn : List (Addr × Obj)
  xe : Value → Shared → Prop
noncomputable def frs (l : List Env) : List Addr := l.filterMap (·.frame)
noncomputable abbrev Cx.fs (X : Cx) : List Addr := frs X.outer

noncomputable def Vis (sc : Scope) (x : Str) : Prop := sc.names.lookup x = some .local ∨ sc.names.lookup x = some .cell ∨ sc.names.lookup x = some .free
noncomputable def Loc (sc : Scope) (x : Str) : Prop := sc.names.lookup x = some .local ∨ sc.names.lookup x = some .cell
noncomputable def Look (env : Env) (h : Heap) (m : Str → Option Value) (x : Str) (u : Value) : Prop :=
  (env.kindOf x = some .local ∧ m x = some u) ∨ ((env.kindOf x = some .cell ∨ env.kindOf x = some .free) ∧ ∃ c, env.cells.lookup x = some c ∧ h.IsCell c (some u))

structure Cx.Ok (X : Cx) : Prop where
  mod : Mod X.K X.mg X.base
  kind : X.env.scope.kind = .function
  glob : X.env.globals = mainGlobals
  blt : X.env.builtins = builtinsNs
  above : X.s₀.heap.objs.size ≤ X.env.locals
  inj : ∀ x y c, X.env.cells.lookup x = some c → X.env.cells.lookup y = some c → x = y
  has : ∀ x, (X.env.kindOf x = some .cell ∨ X.env.kindOf x = some .free) → ∃ c, X.env.cells.lookup x = some c
  cab : ∀ x c, X.fn x = true → X.env.cells.lookup x = some c → X.s₀.heap.objs.size ≤ c
  hd : X.calm = true → X.A.handled = none
  frames : X.A.frames = some X.stack
  stk : X.stack = X.outer ∨ (X.stack = X.env :: X.outer ∧ X.env.frame = some X.env.locals)
  exf : ∀ b ∈ X.ex, b ≠ X.env.locals ∧ ∀ x c, X.env.cells.lookup x = some c → c ≠ b
  bs : ∀ b o, X.base.get? b = some o → X.s₀.heap.get? b = some o ∧ X.H₀ b = none
  bsz : X.base.objs.size ≤ X.s₀.heap.objs.size
  noex : ∀ b o, X.base.get? b = some o → b ∉ X.ex
  exfs : ∀ b ∈ X.ex, b ∉ X.fs
  funs : X.s₀.heap.FunFrames X.base X.outer
  frf : ∀ b ∈ X.fs, X.H₀ b = none

structure Inv (X : Cx) (pins : List (Addr × Obj)) (σ : List (Option V)) (H : Hp) (s : Shared) : Prop where
  ok : X.Ok
  os : s.os = X.s₀.os
  bare : AllBare s.gens
  base : Un X.fs X.ex X.H₀ H X.s₀.heap s.heap
  loc : ∃ m, s.heap.Ns X.env.locals m ∧ ∀ (i : Nat) (x : Str) (v : V), X.N[i]? = some x → σ[i]? = some (some v) → Vis X.env.scope x → ∃ u, RelV v u ∧ Look X.env s.heap m x u
  cell : ∀ x c, X.env.cells.lookup x = some c → ∃ v, s.heap.IsCell c v
  free : H X.env.locals = none
  freeC : ∀ x c, X.env.cells.lookup x = some c → H c = none
  pin : ∀ p ∈ X.pn ++ pins, s.heap.get? p.1 = some p.2 ∧ H p.1 = none ∧ p.1 ≠ X.env.locals ∧ p.1 ∉ X.fs ∧ ∀ v, p.2.data ≠ .cell v
  hok : HOk X.prog X.w H s.heap
  len : σ.length = X.N.length

section
variable {X : Cx} {pins : List (Addr × Obj)} {σ : List (Option V)} {H H' : Hp} {s : Shared} {h' : Heap}

theorem Cx.Ok.nofr (ok : X.Ok) {b : Addr} {o : Obj} (e : X.base.get? b = some o) : b ∉ X.fs := fun hb => by
  have := (ok.funs.mem hb).1
  rw [e] at this; cases this
theorem Inv.bs (I : Inv X pins σ H s) : ∀ b o, X.base.get? b = some o → s.heap.get? b = some o ∧ H b = none := fun b o e =>
  ⟨I.base.keep b o (I.ok.bs b o e).1 (I.ok.bs b o e).2 (I.ok.nofr e) (I.ok.noex b o e), I.base.free b o (I.ok.bs b o e).1 (I.ok.bs b o e).2 (I.ok.noex b o e)⟩
theorem Inv.bk (I : Inv X pins σ H s) : ∀ b o, X.base.get? b = some o → s.heap.get? b = some o := fun b o e => (I.bs b o e).1
theorem Inv.mod (I : Inv X pins σ H s) : Mod X.K X.mg X.base := I.ok.mod
theorem Inv.kIn (I : Inv X pins σ H s) : X.K.In s.heap := I.ok.mod.kin.keeps I.bk
theorem Inv.nolimit (I : Inv X pins σ H s) : s.heap.NoLimit := I.ok.mod.nolimit.keeps I.bk
theorem Inv.fr (I : Inv X pins σ H s) : ∃ m, Fr X.base X.env.locals s.heap m :=
  let ⟨m, hn, _⟩ := I.loc
  ⟨m, hn, I.bk, Nat.le_trans I.ok.bsz I.ok.above⟩
theorem Inv.lt (I : Inv X pins σ H s) : X.env.locals < s.heap.objs.size := let ⟨_, hn, _⟩ := I.loc; hn.lt
theorem Inv.sz (I : Inv X pins σ H s) : X.s₀.heap.objs.size ≤ s.heap.objs.size := Nat.le_trans I.ok.above (Nat.le_of_lt I.lt)
theorem Inv.nofs (I : Inv X pins σ H s) {a : Addr} (h : s.heap.objs.size ≤ a) : a ∉ X.fs := fun hb => by
  obtain ⟨_, o, ho, _⟩ := I.ok.funs.mem hb
  exact absurd (Nat.lt_of_lt_of_le (Heap.lt_size ho) (Nat.le_trans I.sz h)) (Nat.lt_irrefl _)
theorem Inv.cne (I : Inv X pins σ H s) : ∀ x c, X.env.cells.lookup x = some c → c ≠ X.env.locals := fun x c e z => by
  obtain ⟨v, o, ho, hd⟩ := I.cell x c e
  obtain ⟨m, ⟨o', es, ep, ho', hd', _⟩, _⟩ := I.loc
  rw [z, ho'] at ho; cases ho; rw [hd'] at hd; cases hd
theorem Inv.funs (I : Inv X pins σ H s) : s.heap.FunFrames X.base X.outer := by
  have all : ∀ (l : List Env), (∀ b ∈ frs l, b ∈ X.fs) → X.s₀.heap.FunFrames X.base l → s.heap.FunFrames X.base l := by
    intro l
    induction l with
    | nil => intro _ _; trivial
    | cons env r ih =>
      intro hs hl
      obtain ⟨hk, ⟨L, o, hf, hn, ho, hd⟩, hr⟩ := hl
      have hL : L ∈ X.fs := hs L (by unfold frs; rw [List.filterMap_cons, hf]; exact List.mem_cons_self)
      obtain ⟨sl, e⟩ := I.base.slot L o ho (I.ok.frf L hL) hL fun z => I.ok.exfs L z hL
      exact ⟨hk, ⟨L, _, hf, hn, e, hd⟩, ih (fun b hb => hs b (by unfold frs; rw [List.filterMap_cons, hf]; exact List.mem_cons_of_mem _ hb)) hr⟩
  exact all X.outer (fun _ hb => hb) I.ok.funs

theorem Inv.stack (I : Inv X pins σ H s) : s.heap.FunFrames X.base X.stack := by
  rcases I.ok.stk with e | ⟨e, hf⟩
  · rw [e]; exact I.funs
  · rw [e]
    obtain ⟨m, hn, _⟩ := I.loc
    refine .cons (by rw [I.ok.kind]; decide) hf hn ?_ I.funs
    exact Heap.get?_none_of_le (Nat.le_trans I.ok.bsz I.ok.above)
theorem Inv.stkSub (I : Inv X pins σ H s) : ∀ b ∈ frs X.stack, b ∈ X.env.locals :: X.fs := fun b hb => by
  rcases I.ok.stk with e | ⟨e, hf⟩
  · rw [e] at hb; exact List.mem_cons_of_mem _ hb
  · rw [e] at hb
    unfold frs at hb
    rw [List.filterMap_cons, hf] at hb
    exact hb
theorem Inv.stkFree (I : Inv X pins σ H s) : ∀ b ∈ frs X.stack, H b = none := fun b hb => by
  rcases List.mem_cons.mp (I.stkSub b hb) with e | hb
  · rw [e]; exact I.free
  · obtain ⟨_, o, ho, _⟩ := I.ok.funs.mem hb
    exact I.base.free b o ho (I.ok.frf b hb) fun z => I.ok.exfs b z hb

theorem Inv.step {g' : Array GenState} {t' : Nat} {d' : Drawn} {ch : List Addr} (I : Inv X pins σ H s)
    (hch : ∀ b ∈ ch, (b ∈ X.ex ∨ X.s₀.heap.objs.size ≤ b) ∧ b ≠ X.env.locals ∧ (∀ x c, X.env.cells.lookup x = some c → c ≠ b) ∧ ∀ p ∈ X.pn ++ pins, p.1 ≠ b)
    (keep : ∀ b o, b ≠ X.env.locals → b ∉ X.fs → b ∉ ch → s.heap.get? b = some o → H b = none → h'.get? b = some o)
    (slot : ∀ b o, b ≠ X.env.locals → b ∈ X.fs → b ∉ ch → s.heap.get? b = some o → H b = none → ∃ sl, h'.get? b = some { o with slots := sl }) (free : ∀ b o, b ∉ ch → s.heap.get? b = some o → H b = none → H' b = none)
    (there : ∀ b o, b ∉ ch → s.heap.get? b = some o → ∃ o', h'.get? b = some o')
    (tups : ∀ b xs, H b = some (.tup xs) → H' b = some (.tup xs)) (frzs : ∀ b o u, H b = some (.frz o u) → H' b = some (.frz o u)) (tbls : ∀ b ps, H b = some (.tbl ps) → ∃ more, H' b = some (.tbl (ps ++ more)))
    (ns : ∀ m, s.heap.Ns X.env.locals m → h'.Ns X.env.locals m) (hok : HOk X.prog X.w H' h') (hg : AllBare g') :
    Inv X pins σ H' { s with heap := h', gens := g', drawn := d', toks := t' } := by
  have neL : ∀ b o, X.s₀.heap.get? b = some o → b ≠ X.env.locals := fun b o e => Nat.ne_of_lt (Nat.lt_of_lt_of_le (Heap.lt_size e) I.ok.above)
  have neC : ∀ b o, X.s₀.heap.get? b = some o → b ∉ X.ex → b ∉ ch := fun b o e hx hb => by
    rcases (hch b hb).1 with z | z
    · exact hx z
    · exact absurd (Nat.lt_of_lt_of_le (Heap.lt_size e) z) (Nat.lt_irrefl _)
  have cellK : ∀ x c, X.env.cells.lookup x = some c → ∀ v, s.heap.IsCell c v → h'.IsCell c v := fun x c e v ⟨o, ho, hd⟩ => by
    have nch : c ∉ ch := fun z => (hch c z).2.2.1 x c e rfl
    by_cases hc : c ∈ X.fs
    · obtain ⟨sl, q⟩ := slot c o (I.cne x c e) hc nch ho (I.freeC x c e)
      exact ⟨_, q, hd⟩
    · exact ⟨o, keep c o (I.cne x c e) hc nch ho (I.freeC x c e), hd⟩
  refine ⟨I.ok, I.os, hg, ⟨fun b o e n hb hx => ?_, fun b o e n hb hx => ?_, fun b o e n hx => ?_, fun b o e hx => ?_, fun b xs e => tups b xs (I.base.tups b xs e), fun b o xs e => frzs b o xs (I.base.frzs b o xs e), fun b ps e => ?_⟩, ?_, fun x c e => ?_, ?_, fun x c e => ?_, fun p hp => ?_, hok, I.len⟩
  · exact keep b o (neL b o e) hb (neC b o e hx) (I.base.keep b o e n hb hx) (I.base.free b o e n hx)
  · obtain ⟨sl, e1⟩ := I.base.slot b o e n hb hx
    obtain ⟨sl', e2⟩ := slot b _ (neL b o e) hb (neC b o e hx) e1 (I.base.free b o e n hx)
    exact ⟨sl', e2⟩
  · obtain ⟨o', e1⟩ := I.base.there b o e hx
    exact free b o' (neC b o e hx) e1 (I.base.free b o e n hx)
  · obtain ⟨o', e1⟩ := I.base.there b o e hx
    exact there b o' (neC b o e hx) e1
  · obtain ⟨m1, e1⟩ := I.base.tbls b ps e
    obtain ⟨m2, e2⟩ := tbls b _ e1
    exact ⟨m1 ++ m2, by rw [e2, Array.append_assoc]⟩
  · obtain ⟨m, hn, hl⟩ := I.loc
    refine ⟨m, ns m hn, fun i x v e1 e2 e3 => ?_⟩
    obtain ⟨u, r, l⟩ := hl i x v e1 e2 e3
    refine ⟨u, r, ?_⟩
    rcases l with l | ⟨k, c, e, z⟩
    · exact .inl l
    · exact .inr ⟨k, c, e, cellK x c e _ z⟩
  · obtain ⟨v, z⟩ := I.cell x c e
    exact ⟨v, cellK x c e v z⟩
  · obtain ⟨m, ⟨o, _, _, ho, _⟩, _⟩ := I.loc
    exact free _ o (fun z => (hch _ z).2.1 rfl) ho I.free
  · obtain ⟨v, o, ho, hd⟩ := I.cell x c e
    exact free c o (fun z => (hch c z).2.2.1 x c e rfl) ho (I.freeC x c e)
  · obtain ⟨e, n, ne, nf, d⟩ := I.pin p hp
    have nch : p.1 ∉ ch := fun z => (hch p.1 z).2.2.2 p hp rfl
    exact ⟨keep p.1 p.2 ne nf nch e n, free p.1 p.2 nch e n, ne, nf, d⟩
theorem Inv.un {t' : Nat} (I : Inv X pins σ H s) (u : Un X.fs [] H H' s.heap h') (hok : HOk X.prog X.w H' h') : Inv X pins σ H' { s with heap := h', toks := t' } := by
  obtain ⟨m, ⟨o, es, ep, ho, r⟩, _⟩ := id I.loc
  obtain ⟨sl, hL⟩ := u.any ho I.free (by simp)
  exact I.step (g' := s.gens) (d' := s.drawn) (ch := []) (fun _ z => nomatch z) (fun b o _ hb _ e n => u.keep b o e n hb (by simp)) (fun b o _ hb _ e n => u.slot b o e n hb (by simp)) (fun b o _ e n => u.free b o e n (by simp)) (fun b o _ e => u.there b o e (by simp)) u.tups u.frzs u.tbls (fun m' hm => by
    obtain ⟨o', es', ep', ho', r'⟩ := hm
    rw [ho] at ho'; cases ho'
    exact ⟨_, es', ep', hL, r'⟩) hok I.bare
theorem Inv.call {g' : Array GenState} {t' : Nat} {d' : Drawn} {ch : List Addr} (I : Inv X pins σ H s) (u : Un (frs X.stack) ch H H' s.heap h') (hok : HOk X.prog X.w H' h') (hg : AllBare g')
    (hch : ∀ b ∈ ch, (b ∈ X.ex ∨ X.s₀.heap.objs.size ≤ b) ∧ b ≠ X.env.locals ∧ (∀ x c, X.env.cells.lookup x = some c → c ≠ b) ∧ ∀ p ∈ X.pn ++ pins, p.1 ≠ b) :
    Inv X pins σ H' { s with heap := h', gens := g', drawn := d', toks := t' } := by
  obtain ⟨m, ⟨o, es, ep, ho, r⟩, _⟩ := id I.loc
  obtain ⟨sl, hL⟩ := u.any ho I.free fun z => (hch _ z).2.1 rfl
  exact I.step (ch := ch) hch (fun b o hL hb hc e n => u.keep b o e n (fun z => (List.mem_cons.mp (I.stkSub b z)).elim hL hb) hc) (fun b o _ _ hc e n => u.any e n hc) (fun b o hc e n => u.free b o e n hc) (fun b o hc e => u.there b o e hc) u.tups u.frzs u.tbls (fun m' hm => by
    obtain ⟨o', es', ep', ho', r'⟩ := hm
    rw [ho] at ho'; cases ho'
    exact ⟨_, es', ep', hL, r'⟩) hok hg
theorem Inv.turned {t' : Nat} {it : Addr} (I : Inv X pins σ H s) (k : ∀ b o, b ≠ it → s.heap.get? b = some o → h'.get? b = some o) (hn : H it = none) (hL : it ≠ X.env.locals)
    (h1 : it ∈ X.ex ∨ X.s₀.heap.objs.size ≤ it) (h2 : ∀ x c, X.env.cells.lookup x = some c → c ≠ it) (h3 : ∀ p ∈ X.pn ++ pins, p.1 ≠ it) : Inv X pins σ H { s with heap := h', toks := t' } := by
  have nit : ∀ b u, H b = some u → b ≠ it := fun b u e z => by rw [z, hn] at e; cases e
  refine I.step (g' := s.gens) (d' := s.drawn) (ch := [it]) (fun b hb => ?_) (fun b o _ _ hc e _ => k b o (fun z => hc (by simp [z])) e) (fun b o _ _ hc e _ => ⟨o.slots, k b o (fun z => hc (by simp [z])) e⟩) (fun _ _ _ _ n => n)
    (fun b o hc e => ⟨o, k b o (fun z => hc (by simp [z])) e⟩) (fun _ _ e => e) (fun _ _ _ e => e) (fun b ps e => ⟨#[], by rw [e]; simp⟩) (fun m hm => ?_) (fun b u e => ?_) I.bare
  · have e : b = it := by simpa using hb
    subst e
    exact ⟨h1, hL, h2, h3⟩
  · obtain ⟨o, es, ep, ho, r⟩ := hm
    exact ⟨o, es, ep, k _ o (Ne.symm hL) ho, r⟩
  · refine (I.hok b u e).stay (fun c v hc q => k c v ?_ q) (fun _ q => q) fun _ _ q => q
    rcases hc with z | z
    · rw [z]; exact nit b u e
    · exact nit c _ z
theorem Inv.tok (I : Inv X pins σ H s) (t : Nat) : Inv X pins σ H { s with toks := t } := I.un (h' := s.heap) (t' := t) Un.refl I.hok
theorem Inv.kept {t' : Nat} (I : Inv X pins σ H s) (k : ∀ b u, s.heap.get? b = some u → h'.get? b = some u) : Inv X pins σ H { s with heap := h', toks := t' } := I.un (Un.kept k) (I.hok.kept k)
theorem Inv.laid {a : Addr} {o : HO} {t' : Nat} (I : Inv X pins σ H s) (k : ∀ b u, s.heap.get? b = some u → h'.get? b = some u) (hp : s.heap.objs.size ≤ a) (new : ObjOk X.prog X.w (upd H a o) h' a o) :
    Inv X pins σ (upd H a o) { s with heap := h', toks := t' } := I.un (Un.laid k hp (I.hok.fresh hp)) (I.hok.laid k hp new)
theorem Inv.write {x e : Addr} {o : HO} {t' : Nat} (I : Inv X pins σ H s) (mu : Mut (H x)) (he : e = x ∨ H e = some (.own x)) (k : ∀ b u, b ≠ e → s.heap.get? b = some u → h'.get? b = some u) (heo : ∃ u, h'.get? e = some u)
    (new : ObjOk X.prog X.w (upd H x o) h' x o) : Inv X pins σ (upd H x o) { s with heap := h', toks := t' } := I.un (Un.write mu he k heo) (I.hok.write mu he k heo new)
theorem Inv.pins_of {pins' : List (Addr × Obj)} (I : Inv X pins σ H s) (h : ∀ p ∈ pins', s.heap.get? p.1 = some p.2 ∧ H p.1 = none ∧ p.1 ≠ X.env.locals ∧ p.1 ∉ X.fs ∧ ∀ v, p.2.data ≠ .cell v) : Inv X pins' σ H s :=
  ⟨I.ok, I.os, I.bare, I.base, I.loc, I.cell, I.free, I.freeC, fun p hp => (List.mem_append.mp hp).elim (fun z => I.pin p (List.mem_append_left _ z)) (h p), I.hok, I.len⟩

theorem nodup_ix {N : List Str} (hN : N.Nodup) {i j : Nat} {x : Str} (a : N[i]? = some x) (b : N[j]? = some x) : i = j := by
  obtain ⟨h1, e1⟩ := List.getElem?_eq_some_iff.mp a
  obtain ⟨h2, e2⟩ := List.getElem?_eq_some_iff.mp b
  exact (List.getElem_inj hN).mp (e1.trans e2.symm)

theorem store_ok2 {M : Model} {A : Around} {E : Value → Shared → Prop} {i : Nat} {x : Str} {v : V} {u : Value} {Q : Unit → Shared → Prop} (I : Inv X pins σ H s) (hN : X.N.Nodup) (hi : X.N[i]? = some x) (hx : Loc X.env.scope x) (r : RelV v u)
    (h : ∀ s', Inv X pins (σ.set i (some v)) H s' → (∃ a, Heap.SameBut a s.heap s'.heap ∧ (a = X.env.locals ∨ X.env.cells.lookup x = some a)) → Q () s') (hf : X.fn x = true ∨ X.env.scope.names.lookup x = some .local := by first | exact .inl rfl | exact .inr rfl | assumption) : wpAny M A (storeName X.env x u) Q E s := by
  obtain ⟨m, hn, hl⟩ := id I.loc
  have hcls : (X.env.scope.kind == .class || (X.env.scope.kind == .module && X.env.locals != X.env.globals)) = false := by rw [I.ok.kind]; rfl
  have hiσ : i < σ.length := by rw [I.len]; exact (List.getElem?_eq_some_iff.mp hi).1
  have cne := I.cne
  have tracked : ∀ {a : Addr} {h' : Heap}, (∃ o, s.heap.get? a = some o ∧ H a = none) → Heap.SameBut a s.heap h' → HOk X.prog X.w H h' := fun {a h'} ha hs b ob e => by
    obtain ⟨_, _, hfree⟩ := ha
    refine (I.hok b ob e).stay (fun c w' hc q => (hs.2 c ?_).trans q) (fun _ q => q) fun _ _ q => q
    rintro rfl
    rcases hc with rfl | hc
    · rw [hfree] at e; cases e
    · rw [hfree] at hc; cases hc
  rcases hx with hk | hk
  · refine wpAny_storeName_local hk hn (fun h' hn' hs => ?_) hcls
    obtain ⟨oL, _, _, hoL, _⟩ := id hn
    refine h _ ⟨I.ok, I.os, I.bare, ⟨fun b o e n hb hx => ?_, fun b o e n hb hx => ?_, I.base.free, fun b o e hx => ?_, I.base.tups, I.base.frzs, I.base.tbls⟩, ⟨_, hn', fun j y v' e1 e2 e3 => ?_⟩, fun y c e => ?_, I.free, I.freeC, fun p hp => ?_, tracked ⟨oL, hoL, I.free⟩ hs, by simpa using I.len⟩ ⟨_, hs, .inl rfl⟩
    · exact (hs.2 b (Nat.ne_of_lt (Nat.lt_of_lt_of_le (Heap.lt_size e) I.ok.above))).trans (I.base.keep b o e n hb hx)
    · obtain ⟨sl, e1⟩ := I.base.slot b o e n hb hx
      exact ⟨sl, (hs.2 b (Nat.ne_of_lt (Nat.lt_of_lt_of_le (Heap.lt_size e) I.ok.above))).trans e1⟩
    · obtain ⟨o', e1⟩ := I.base.there b o e hx
      exact ⟨o', (hs.2 b (Nat.ne_of_lt (Nat.lt_of_lt_of_le (Heap.lt_size e) I.ok.above))).trans e1⟩
    · by_cases hj : j = i
      · subst hj
        rw [hi] at e1; cases e1
        rw [List.getElem?_set_self hiσ] at e2
        cases e2
        exact ⟨u, r, .inl ⟨hk, by simp⟩⟩
      · rw [List.getElem?_set_ne (Ne.symm hj)] at e2
        obtain ⟨u', r', q⟩ := hl j y v' e1 e2 e3
        refine ⟨u', r', ?_⟩
        rcases q with ⟨k, e⟩ | ⟨k, c, e, z⟩
        · refine .inl ⟨k, ?_⟩
          have : y ≠ x := fun e => hj (nodup_ix hN e1 (e ▸ hi))
          simp [this, e]
        · exact .inr ⟨k, c, e, z.sameBut hs (cne y c e)⟩
    · obtain ⟨w', z⟩ := I.cell y c e
      exact ⟨w', z.sameBut hs (cne y c e)⟩
    · obtain ⟨e, n, ne, nf, d⟩ := I.pin p hp
      exact ⟨(hs.2 p.1 ne).trans e, n, ne, nf, d⟩
  · have hfn : X.fn x = true := by
      rcases hf with z | z
      · exact z
      · rw [z] at hk; cases hk
    obtain ⟨c, hc⟩ := I.ok.has x (.inl hk)
    obtain ⟨w', z⟩ := I.cell x c hc
    refine wpAny_storeName_cell I.ok.kind hk hc z (fun h' hc' hs => ?_)
    obtain ⟨oc, hoc, hocd⟩ := id z
    refine h { s with heap := h' } ⟨I.ok, I.os, I.bare, ⟨fun b o e n hb hx => ?_, fun b o e n hb hx => ?_, I.base.free, fun b o e hx => ?_, I.base.tups, I.base.frzs, I.base.tbls⟩, ⟨m, hn.sameBut hs (Ne.symm (cne x c hc)), fun j y v' e1 e2 e3 => ?_⟩, fun y c' e => ?_, I.free, I.freeC, fun p hp => ?_, tracked ⟨oc, hoc, I.freeC x c hc⟩ hs, by simpa using I.len⟩ ⟨c, hs, .inr hc⟩
    · exact (hs.2 b (Nat.ne_of_lt (Nat.lt_of_lt_of_le (Heap.lt_size e) (I.ok.cab x c hfn hc)))).trans (I.base.keep b o e n hb hx)
    · obtain ⟨sl, e1⟩ := I.base.slot b o e n hb hx
      exact ⟨sl, (hs.2 b (Nat.ne_of_lt (Nat.lt_of_lt_of_le (Heap.lt_size e) (I.ok.cab x c hfn hc)))).trans e1⟩
    · obtain ⟨o', e1⟩ := I.base.there b o e hx
      exact ⟨o', (hs.2 b (Nat.ne_of_lt (Nat.lt_of_lt_of_le (Heap.lt_size e) (I.ok.cab x c hfn hc)))).trans e1⟩
    · by_cases hj : j = i
      · subst hj
        rw [hi] at e1; cases e1
        rw [List.getElem?_set_self hiσ] at e2
        cases e2
        exact ⟨u, r, .inr ⟨.inl hk, c, hc, hc'⟩⟩
      · rw [List.getElem?_set_ne (Ne.symm hj)] at e2
        obtain ⟨u', r', q⟩ := hl j y v' e1 e2 e3
        refine ⟨u', r', ?_⟩
        rcases q with q | ⟨k, c', e, z'⟩
        · exact .inl q
        · refine .inr ⟨k, c', e, z'.sameBut hs ?_⟩
          rintro rfl
          exact hj (nodup_ix hN e1 (I.ok.inj _ _ _ e hc ▸ hi))
    · by_cases hcc : c' = c
      · subst hcc; exact ⟨_, hc'⟩
      · obtain ⟨w2, z2⟩ := I.cell y c' e
        exact ⟨w2, z2.sameBut hs hcc⟩
    · obtain ⟨e, n, ne, nf, d⟩ := I.pin p hp
      refine ⟨(hs.2 p.1 ?_).trans e, n, ne, nf, d⟩
      intro q
      rw [q, hoc] at e
      have q' : oc = p.2 := Option.some.inj e
      exact d w' (by rw [← q']; exact hocd)
theorem store_ok {M : Model} {A : Around} {E : Value → Shared → Prop} {i : Nat} {x : Str} {v : V} {u : Value} {Q : Unit → Shared → Prop} (I : Inv X pins σ H s) (hN : X.N.Nodup) (hi : X.N[i]? = some x) (hx : Loc X.env.scope x) (r : RelV v u)
    (h : ∀ s', Inv X pins (σ.set i (some v)) H s' → Q () s') (hf : X.fn x = true ∨ X.env.scope.names.lookup x = some .local := by first | exact .inl rfl | exact .inr rfl | assumption) : wpAny M A (storeName X.env x u) Q E s :=
  store_ok2 I hN hi hx r (fun s' I' _ => h s' I') hf
theorem Inv.call' {s' : Shared} {ch : List Addr} (I : Inv X pins σ H s) (ho : s'.os = s.os) (u : Un (frs X.stack) ch H H' s.heap s'.heap) (hok : HOk X.prog X.w H' s'.heap) (hg : AllBare s'.gens)
    (hch : ∀ b ∈ ch, (b ∈ X.ex ∨ X.s₀.heap.objs.size ≤ b) ∧ b ≠ X.env.locals ∧ (∀ x c, X.env.cells.lookup x = some c → c ≠ b) ∧ ∀ p ∈ X.pn ++ pins, p.1 ≠ b) : Inv X pins σ H' s' := by
  obtain ⟨h', g', d', t', o'⟩ := s'
  have e : o' = s.os := ho
  subst e
  exact I.call (g' := g') (t' := t') (d' := d') u hok hg hch
end

noncomputable abbrev XK := Value → Option Addr → Hp → Prop
noncomputable abbrev St := List (Option V)
noncomputable abbrev VK := V → Hp → Prop
noncomputable abbrev TE := St → Hp → VK → Prop
noncomputable abbrev TT := St → Hp → (Bool → Hp → Prop) → Prop
noncomputable abbrev TA := St → Hp → (List V → Hp → Prop) → Prop
structure Ends where
  nx : St → Hp → Prop
  rt : VK
  bk : St → Hp → Prop := fun _ _ => False
  ct : St → Hp → Prop := fun _ _ => False
noncomputable abbrev TS := Ends → St → Hp → Prop

noncomputable def EP (X : Cx) (pins : List (Addr × Obj)) (σ : St) (Q : VK) (u : Value) (s' : Shared) : Prop := ∃ v H', Inv X pins σ H' s' ∧ RelV v u ∧ Q v H'
noncomputable def TP (X : Cx) (pins : List (Addr × Obj)) (σ : St) (Q : Bool → Hp → Prop) (b : Bool) (s' : Shared) : Prop := ∃ H', Inv X pins σ H' s' ∧ Q b H'
noncomputable def AP (X : Cx) (pins : List (Addr × Obj)) (σ : St) (Q : List V → Hp → Prop) (us : List Value) (s' : Shared) : Prop := ∃ vs H', Inv X pins σ H' s' ∧ Vals vs us ∧ Q vs H'
noncomputable def SP (X : Cx) (pins : List (Addr × Obj)) (D : Ends) (f : Flow) (s' : Shared) : Prop :=
  match f with
  | .next => ∃ σ' H', Inv X pins σ' H' s' ∧ D.nx σ' H'
  | .brk => ∃ σ' H', Inv X pins σ' H' s' ∧ D.bk σ' H'
  | .cont => ∃ σ' H', Inv X pins σ' H' s' ∧ D.ct σ' H'
  | .ret u => ∃ v σ' H', Inv X pins σ' H' s' ∧ RelV v u ∧ D.rt v H'

noncomputable def PE (X : Cx) (e : Expr) (t : TE) : Prop :=
  ∀ (pins : List (Addr × Obj)) (s : Shared) (σ : St) (H : Hp) (Q : VK), Inv X pins σ H s → t σ H Q → wpAny (model X.prog X.w) X.A (eval e X.env) (EP X pins σ Q) X.xe s
noncomputable def PT (X : Cx) (e : Expr) (t : TT) : Prop :=
  ∀ (pins : List (Addr × Obj)) (s : Shared) (σ : St) (H : Hp) (Q : Bool → Hp → Prop), Inv X pins σ H s → t σ H Q → wpAny (model X.prog X.w) X.A (isTrue e X.env (eval e X.env)) (TP X pins σ Q) X.xe s
noncomputable def PW (X : Cx) (e : Expr) (t : TT) : Prop :=
  ∀ (whole : Sem Value) (pins : List (Addr × Obj)) (s : Shared) (σ : St) (H : Hp) (Q : Bool → Hp → Prop), Inv X pins σ H s → t σ H Q → wpAny (model X.prog X.w) X.A (isTrue e X.env whole) (TP X pins σ Q) X.xe s
theorem PW.pt {X : Cx} {e : Expr} {t : TT} (h : PW X e t) : PT X e t := h _
noncomputable def PA (X : Cx) (es : List Expr) (t : TA) : Prop :=
  ∀ (pos : Pos) (pins : List (Addr × Obj)) (s : Shared) (σ : St) (H : Hp) (Q : List V → Hp → Prop), Inv X pins σ H s → t σ H Q → wpAny (model X.prog X.w) X.A (spliced (backTo pos (starEach es X.env))) (AP X pins σ Q) X.xe s
noncomputable def PS (X : Cx) (st : Stmt) (t : TS) : Prop :=
  ∀ (pins : List (Addr × Obj)) (s : Shared) (σ : St) (H : Hp) (D : Ends), Inv X pins σ H s → t D σ H → wpAny (model X.prog X.w) X.A (exec st X.env) (SP X pins D) X.xe s
noncomputable def PSs (X : Cx) (st : List Stmt) (t : TS) : Prop :=
  ∀ (pins : List (Addr × Obj)) (s : Shared) (σ : St) (H : Hp) (D : Ends), Inv X pins σ H s → t D σ H → wpAny (model X.prog X.w) X.A (execs st X.env) (SP X pins D) X.xe s
theorem thn {α : Type} {t : Sem α} {Q Q' : α → Shared → Prop} {M : Model} {A : Around} {E : Value → Shared → Prop} {s : Shared} (h : wpAny M A t Q E s) (hQ : ∀ a s, Q a s → Q' a s) : wpAny M A t Q' E s := wpAny_mono h hQ fun _ _ x => x
end L2

namespace L2
open PySem PySem.Spec PyProof.Rows
section
variable {X : Cx}

noncomputable def tVar (i : Nat) : TE := fun σ H Q => ∃ v, σ[i]? = some (some v) ∧ Q v H
noncomputable def tC (v : V) : TE := fun _ H Q => Q v H
theorem pe_var {i : Nat} {x : Str} {pos : Pos} (hN : X.N[i]? = some x) (hv : Vis X.env.scope x) (hd : (x == ("__debug__" : Str)) = false := by decide) (hcd : (x == ("__classdict__" : Str)) = false := by decide) : PE X (.Name x pos) (tVar i) := by
  intro pins s σ H Q I h
  obtain ⟨v, e, h⟩ := h
  obtain ⟨m, hn, hl⟩ := I.loc
  obtain ⟨u, r, l⟩ := hl i x v hN e hv
  have fin : EP X pins σ Q u s := ⟨v, H, I, r, h⟩
  rcases l with ⟨hk, hm⟩ | ⟨hk, c, hc, hcell⟩
  · exact wpAny_Name (wpAny_loadName_local I.ok.kind hk hn hm fin) hd
  · rcases hk with hk | hk
    · exact wpAny_Name (wpAny_loadName_cell I.ok.kind hk hc hcell fin) hd
    · exact wpAny_Name (wpAny_loadName_free I.ok.kind hk hc hcell fin hcd) hd
theorem pe_int {i j pos} : PE X (.Constant (.int i) j pos) (tC (.int i)) := fun _ _ _ H _ I h => wpAny_Constant_int ⟨.int i, H, I.tok _, ⟨_, rfl⟩, h⟩
theorem pe_bl {b j pos} : PE X (.Constant (.bool b) j pos) (tC (.bl b)) := fun _ _ _ H _ I h => Constant_bool ⟨.bl b, H, I, rfl, h⟩
noncomputable def Gl (X : Cx) (x : Str) : Prop := X.env.kindOf x = some .globalImplicit
theorem ld_glob {E : Value → Shared → Prop} {pins : List (Addr × Obj)} {s : Shared} {σ : St} {H : Hp} {x : Str} {u : Value} {pos : Pos} {Q : Value → Shared → Prop} (I : Inv X pins σ H s) (hg : Gl X x) (hm : X.mg x = some u) (h : Q u s)
    (hd : (x == ("__debug__" : Str)) = false := by decide) : wpAny (model X.prog X.w) X.A (eval (.Name x pos) X.env) Q E s :=
  Calls.Name_function_global I.ok.kind hg (Calls.loadGlobal_global (by rw [I.ok.glob]; exact I.mod.glob.keeps I.bk) hm h) hd
theorem ld_blt {E : Value → Shared → Prop} {pins : List (Addr × Obj)} {s : Shared} {σ : St} {H : Hp} {x : Str} {u : Value} {pos : Pos} {Q : Value → Shared → Prop} (I : Inv X pins σ H s) (hg : Gl X x) (hm : X.mg x = none) (hv : bootBuiltins x = some u) (h : Q u s)
    (hn : x ≠ "__name__" := by decide) (hd : (x == ("__debug__" : Str)) = false := by decide) : wpAny (model X.prog X.w) X.A (eval (.Name x pos) X.env) Q E s := by
  obtain ⟨mb, h1, h2⟩ := I.mod.blt
  exact Calls.Name_function_global I.ok.kind hg (Calls.loadGlobal_builtin (by rw [I.ok.glob]; exact I.mod.glob.keeps I.bk) hm (by rw [I.ok.blt]; exact h1.keeps I.bk) ((h2 x hn).trans hv) h) hd
theorem pe_glob {x : Str} {v : V} {u : Value} {pos : Pos} (hg : Gl X x) (hm : X.mg x = some u) (r : RelV v u) (hd : (x == ("__debug__" : Str)) = false := by decide) : PE X (.Name x pos) (tC v) :=
  fun _ _ _ H _ I h => ld_glob I hg hm ⟨v, H, I, r, h⟩ hd
theorem pe_bltn {x : Str} {v : V} {u : Value} {pos : Pos} (hg : Gl X x) (hm : X.mg x = none) (hv : bootBuiltins x = some u) (r : RelV v u) (hn : x ≠ "__name__" := by decide) (hd : (x == ("__debug__" : Str)) = false := by decide) : PE X (.Name x pos) (tC v) :=
  fun _ _ _ H _ I h => ld_blt I hg hm hv ⟨v, H, I, r, h⟩ hn hd

variable {a b : Expr} {ta tb : TE} {pos : Pos}
noncomputable def PC (X : Cx) (op : CmpOp) (a b : Expr) (t : TE) : Prop :=
  ∀ (pins : List (Addr × Obj)) (s : Shared) (σ : St) (H : Hp) (Q : VK), Inv X pins σ H s → t σ H Q →
    wpAny (model X.prog X.w) X.A (eval a X.env) (fun v s₁ => wpAny (model X.prog X.w) X.A (eval b X.env) (fun u s₂ => wpAny (model X.prog X.w) X.A (compareOp op v u) (EP X pins σ Q) X.xe s₂) X.xe s₁) X.xe s
noncomputable def tB (t : TE) : TT := fun σ H Q => t σ H fun x H1 => ∃ c, x = .bl c ∧ Q c H1
theorem pt_val {e : Expr} {t : TE} (h : PE X e t) (he : ∀ whole, isTrue e X.env whole = (do let v ← whole; standAt e.pos; holding [v] (truthy v)) := by intro _; rfl) : PT X e (tB t) := by
  intro pins s σ H Q I hw
  refine isTrue_plain (thn (h pins s σ H _ I hw) fun v s1 ⟨x, H1, I1, r1, q1⟩ => ?_) (he _)
  obtain ⟨d, rfl, q⟩ := q1
  cases r1
  exact wpAny_truthy_bool ⟨H1, I1, q⟩

variable {tA tB' : TT} {rest : List Expr}
noncomputable def tAnd (t u : TT) : TT := fun σ H Q => t σ H fun c H1 => if c = true then u σ H1 Q else Q false H1
noncomputable def tOr (t u : TT) : TT := fun σ H Q => t σ H fun c H1 => if c = true then Q true H1 else u σ H1 Q
noncomputable def tNot (t : TT) : TT := fun σ H Q => t σ H fun c H1 => Q (!c) H1
theorem pw_and1 (ha : PT X a tA) : PW X (.BoolOp .And [a] pos) tA := by
  intro wh pins s σ H Q I h
  refine isTrue_and (thn (ha pins s σ H Q I h) fun c s1 e => ?_)
  cases c with
  | true => exact isTrue_and_nil e
  | false => exact e
theorem pw_or1 (ha : PT X a tA) : PW X (.BoolOp .Or [a] pos) tA := by
  intro wh pins s σ H Q I h
  refine isTrue_or (thn (ha pins s σ H Q I h) fun c s1 e => ?_)
  cases c with
  | false => exact isTrue_or_nil e
  | true => exact e
theorem pw_and (ha : PT X a tA) (hb : PW X (.BoolOp .And (b :: rest) pos) tB') : PW X (.BoolOp .And (a :: b :: rest) pos) (tAnd tA tB') := by
  intro wh pins s σ H Q I h
  refine isTrue_and (thn (ha pins s σ H _ I h) fun c s1 ⟨H1, I1, q1⟩ => ?_)
  cases c with
  | true => exact hb wh pins s1 σ H1 Q I1 q1
  | false => exact ⟨H1, I1, q1⟩
theorem pw_or (ha : PT X a tA) (hb : PW X (.BoolOp .Or (b :: rest) pos) tB') : PW X (.BoolOp .Or (a :: b :: rest) pos) (tOr tA tB') := by
  intro wh pins s σ H Q I h
  refine isTrue_or (thn (ha pins s σ H _ I h) fun c s1 ⟨H1, I1, q1⟩ => ?_)
  cases c with
  | true => exact ⟨H1, I1, q1⟩
  | false => exact hb wh pins s1 σ H1 Q I1 q1
theorem pt_not (ha : PT X a tA) : PT X (.UnaryOp .Not a pos) (tNot tA) := by
  intro pins s σ H Q I h
  exact isTrue_not (ha pins s σ H (fun c H1 => Q (!c) H1) I h)
noncomputable def tAndV (ta tb : TE) : TE := fun σ H Q => ta σ H fun x H1 => ∃ c, x = .bl c ∧ if c = true then tb σ H1 Q else Q (.bl false) H1
noncomputable def tNotV (ta : TE) : TE := fun σ H Q => ta σ H fun x H1 => ∃ c, x = .bl c ∧ Q (.bl (!c)) H1
theorem pe_one {op} {t : TE} (h : PE X a t) : PE X (.BoolOp op [a] pos) t := fun pins s σ H Q I hw => BoolOp_one (h pins s σ H Q I hw)
theorem pe_and (ha : PE X a ta) (hb : PE X (.BoolOp .And (b :: rest) pos) tb) : PE X (.BoolOp .And (a :: b :: rest) pos) (tAndV ta tb) := by
  intro pins s σ H Q I h
  refine BoolOp_and (thn (ha pins s σ H _ I h) fun v s1 ⟨x, H1, I1, r1, q1⟩ => ?_)
  obtain ⟨c, rfl, q1⟩ := q1
  cases r1
  refine wpAny_truthy_bool ?_
  cases c with
  | true => exact hb pins s1 σ H1 Q I1 q1
  | false => exact ⟨.bl false, H1, I1, rfl, q1⟩
theorem pe_not (ha : PE X a ta) : PE X (.UnaryOp .Not a pos) (tNotV ta) := by
  intro pins s σ H Q I h
  refine UnaryOp_ (thn (ha pins s σ H _ I h) fun v s1 ⟨x, H1, I1, r1, q1⟩ => ?_)
  obtain ⟨c, rfl, q1⟩ := q1
  cases r1
  exact not_of (wpAny_truthy_bool ⟨.bl (!c), H1, I1, rfl, q1⟩)
end
end L2

namespace L2
open PySem PySem.Spec PyProof.Rows

noncomputable def SqL (K : PySem.W.Frag) (H : Hp) (a : Addr) (xs : List V) : Prop :=
  Rd H a (.lst xs) ∨
    ∃ (o : Obj) (its : Array Value) (n : Nat), K.lookup a = some o ∧ o.cls = .type "list" ∧ o.dict = none ∧ o.data = .seq its n ∧ its.size ≤ sizeLine ∧ Vals xs its.toList
noncomputable def SqT (K : PySem.W.Frag) (H : Hp) (a : Addr) (xs : List V) : Prop :=
  Rd H a (.tup xs) ∨
    ∃ (o : Obj) (its : Array Value) (n : Nat), K.lookup a = some o ∧ o.cls = .type "tuple" ∧ o.data = .seq its n ∧ its.size ≤ sizeLine ∧ Vals xs its.toList
noncomputable def absV : Value → Option V
  | .none => some .non
  | .bool b => some (.bl b)
  | .int i _ => some (.int i)
  | .str x _ => some (.str x)
  | .bytes b _ => some (.byt b)
  | .float b _ => some (.flt b)
  | .ref a => some (.ref a)
  | .type n => some (.ty n)
  | _ => none
theorem RelV.abs {x : V} {u : Value} (r : RelV x u) : absV u = some x := by
  cases x with
  | non => cases r; rfl
  | bl _ => cases r; rfl
  | int _ => obtain ⟨t, rfl⟩ := r; rfl
  | str _ => obtain ⟨t, rfl⟩ := r; rfl
  | byt _ => obtain ⟨t, rfl⟩ := r; rfl
  | flt _ => obtain ⟨t, rfl⟩ := r; rfl
  | ref _ => cases r; rfl
  | ty _ => cases r; rfl
theorem RelV.inj {x y : V} {u : Value} (r : RelV x u) (q : RelV y u) : x = y := Option.some.inj (r.abs.symm.trans q.abs)
theorem Vals.inj : ∀ {xs ys : List V} {us : List Value}, Vals xs us → Vals ys us → xs = ys
  | _, _, _, .nil, .nil => rfl
  | _, _, _, .cons r t, .cons r' t' => by rw [r.inj r', Vals.inj t t']
section
variable {X : Cx} {pins : List (Addr × Obj)} {σ : St} {H : Hp} {s : Shared} {a : Addr} {xs ys : List V}
theorem SqL.of {K : PySem.W.Frag} (h : H a = some (.lst xs)) : SqL K H a xs := .inl (.inl h)
theorem SqT.of {K : PySem.W.Frag} (h : H a = some (.tup xs)) : SqT K H a xs := .inl (.inl h)
theorem Inv.list (I : Inv X pins σ H s) (h : SqL X.K H a xs) : ∃ its : List Value, Vals xs its ∧ PlainL s.heap a its.toArray ∧ xs.length ≤ sizeLine := by
  rcases h with h | ⟨o, its, n, hk, hc, hd, hs, hz, r⟩
  · obtain ⟨z, its, n, r, e⟩ := h.ok I.hok
    exact ⟨its, r, ⟨_, n, e, rfl, rfl, rfl⟩, z⟩
  · refine ⟨its.toList, r, ⟨o, n, I.kIn a o hk, hc, hd, by simpa using hs⟩, ?_⟩
    have e := r.length
    simp only [Array.length_toList] at e
    omega
theorem Inv.tuple (I : Inv X pins σ H s) (h : SqT X.K H a xs) : ∃ its : List Value, Vals xs its ∧ IsTup s.heap a its.toArray ∧ xs.length ≤ sizeLine := by
  rcases h with h | ⟨o, its, n, hk, hc, hs, hz, r⟩
  · obtain ⟨z, its, r, p⟩ := h.ok I.hok
    exact ⟨its, r, p, z⟩
  · refine ⟨its.toList, r, ⟨o, I.kIn a o hk, hc, n, by simpa using hs⟩, ?_⟩
    have e := r.length
    simp only [Array.length_toList] at e
    omega
theorem Inv.list_inj (I : Inv X pins σ H s) (h : SqL X.K H a xs) (h' : SqL X.K H a ys) : xs = ys := by
  obtain ⟨its, r, ⟨o, n, e, _, _, d⟩, _⟩ := I.list h
  obtain ⟨its', r', ⟨o', n', e', _, _, d'⟩, _⟩ := I.list h'
  rw [e] at e'; cases e'
  rw [d] at d'
  injection d' with d1 _
  have : its = its' := by simpa using congrArg Array.toList d1
  subst this
  exact r.inj r'
theorem Inv.tuple_inj (I : Inv X pins σ H s) (h : SqT X.K H a xs) (h' : SqT X.K H a ys) : xs = ys := by
  obtain ⟨its, r, ⟨o, e, _, n, d⟩, _⟩ := I.tuple h
  obtain ⟨its', r', ⟨o', e', _, n', d'⟩, _⟩ := I.tuple h'
  rw [e] at e'; cases e'
  rw [d] at d'
  injection d' with d1 _
  have : its = its' := by simpa using congrArg Array.toList d1
  subst this
  exact r.inj r'
end

noncomputable abbrev Cx.wish (X : Cx) (E : Value → Shared → Prop) : Cx := { X with xe := E }
noncomputable abbrev Cx.nox (X : Cx) : Cx := X.wish fun _ _ => False
theorem Cx.Ok.wish {X : Cx} (ok : X.Ok) (E : Value → Shared → Prop) : (X.wish E).Ok :=
  ⟨ok.mod, ok.kind, ok.glob, ok.blt, ok.above, ok.inj, ok.has, ok.cab, ok.hd, ok.frames, ok.stk, ok.exf, ok.bs, ok.bsz, ok.noex, ok.exfs, ok.funs, ok.frf⟩
theorem Cx.Ok.unwish {X : Cx} {E : Value → Shared → Prop} (ok : (X.wish E).Ok) : X.Ok :=
  ⟨ok.mod, ok.kind, ok.glob, ok.blt, ok.above, ok.inj, ok.has, ok.cab, ok.hd, ok.frames, ok.stk, ok.exf, ok.bs, ok.bsz, ok.noex, ok.exfs, ok.funs, ok.frf⟩
section
variable {X : Cx} {pins : List (Addr × Obj)} {σ : St} {H : Hp} {s : Shared} {E : Value → Shared → Prop}
theorem Inv.wish (I : Inv X pins σ H s) (E : Value → Shared → Prop) : Inv (X.wish E) pins σ H s := ⟨I.ok.wish E, I.os, I.bare, I.base, I.loc, I.cell, I.free, I.freeC, I.pin, I.hok, I.len⟩
theorem Inv.unwish (I : Inv (X.wish E) pins σ H s) : Inv X pins σ H s := ⟨I.ok.unwish, I.os, I.bare, I.base, I.loc, I.cell, I.free, I.freeC, I.pin, I.hok, I.len⟩
theorem SP.unwish {D : Ends} {f : Flow} {s' : Shared} (h : SP (X.wish E) pins D f s') : SP X pins D f s' := by
  cases f with
  | next => obtain ⟨σ', H', I, q⟩ := h; exact ⟨σ', H', I.unwish, q⟩
  | brk => obtain ⟨σ', H', I, q⟩ := h; exact ⟨σ', H', I.unwish, q⟩
  | cont => obtain ⟨σ', H', I, q⟩ := h; exact ⟨σ', H', I.unwish, q⟩
  | ret u => obtain ⟨v, σ', H', I, r, q⟩ := h; exact ⟨v, σ', H', I.unwish, r, q⟩
theorem PE.nox {e : Expr} {t : TE} (h : PE X.nox e t) : PE X e t := fun pins s σ H Q I hw =>
  wpAny_mono (h pins s σ H Q (I.wish _) hw) (fun _ _ ⟨v, H', I', r, q⟩ => ⟨v, H', I'.unwish, r, q⟩) fun _ _ z => False.elim z
theorem PT.nox {e : Expr} {t : TT} (h : PT X.nox e t) : PT X e t := fun pins s σ H Q I hw =>
  wpAny_mono (h pins s σ H Q (I.wish _) hw) (fun _ _ ⟨H', I', q⟩ => ⟨H', I'.unwish, q⟩) fun _ _ z => False.elim z
theorem PSs.nox {st : List Stmt} {t : TS} (h : PSs X.nox st t) : PSs X st t := fun pins s σ H D I hw =>
  wpAny_mono (h pins s σ H D (I.wish _) hw) (fun _ _ q => q.unwish) fun _ _ z => False.elim z
end

section
variable {X : Cx} {st : Stmt} {rest : List Stmt} {t u : TS} {e : Expr} {te : TE} {pos : Pos}
noncomputable def tNext : TS := fun D σ H => D.nx σ H
noncomputable def tSeq (t u : TS) : TS := fun D σ H => t { D with nx := u D } σ H
theorem pss_nil : PSs X [] tNext := fun _ _ σ H _ I h => wpAny_execs_nil ⟨σ, H, I, h⟩
theorem pss_cons (h1 : PS X st t) (h2 : PSs X rest u) : PSs X (st :: rest) (tSeq t u) := by
  intro pins s σ H D I h
  refine wpAny_execs_cons (thn (h1 pins s σ H { D with nx := u D } I h) fun f s1 q => ?_)
  cases f with
  | next =>
    obtain ⟨σ', H', I', q⟩ := q
    exact h2 pins s1 σ' H' D I' q
  | ret v => exact q
  | brk => exact q
  | cont => exact q
theorem pss_one (h1 : PS X st t) : PSs X [st] t := by
  intro pins s σ H D I h
  refine wpAny_execs_cons (thn (h1 pins s σ H D I h) fun f s1 q => ?_)
  cases f with
  | next => exact wpAny_execs_nil q
  | ret v => exact q
  | brk => exact q
  | cont => exact q
theorem Inv.quiet {pins : List (Addr × Obj)} {σ : St} {H : Hp} {s : Shared} (I : Inv X pins σ H s) : interactive X.env = false := by simp [interactive, I.ok.kind]
noncomputable def tDrop (te : TE) : TS := fun D σ H => te σ H fun _ H1 => D.nx σ H1
theorem ps_expr (he : PE X e te) (hs : swapsWith e none pos.line X.env = pure false := by rfl) : PS X (.Expr e pos) (tDrop te) := by
  intro pins s σ H D I h
  exact wpAny_Expr_any (thn (he pins s σ H _ I h) fun v s1 ⟨x, H1, I1, r1, q1⟩ => ⟨σ, H1, I1, q1⟩) I.quiet hs
noncomputable def tRet (te : TE) : TS := fun D σ H => te σ H D.rt
theorem ps_ret (he : PE X e te) : PS X (.Return (some e) pos) (tRet te) := by
  intro pins s σ H D I h
  exact wpAny_Return_some (thn (he pins s σ H _ I h) fun v s1 ⟨x, H1, I1, r1, q1⟩ => ⟨x, σ, H1, I1, r1, q1⟩)
noncomputable def tIfS (c : TT) (t u : TS) : TS := fun D σ H => c σ H fun b H1 => if b = true then t D σ H1 else u D σ H1
theorem ps_if {c : Expr} {a b : List Stmt} {tc : TT} (hc : PT X c tc) (ha : PSs X a t) (hb : PSs X b u) : PS X (.If c a b pos) (tIfS tc t u) := by
  intro pins s σ H D I h
  refine wpAny_If (thn (hc pins s σ H _ I h) fun d s1 ⟨H1, I1, q1⟩ => ?_)
  cases d with
  | true => exact ha pins s1 σ H1 D I1 q1
  | false => exact hb pins s1 σ H1 D I1 q1
noncomputable def tNever : TS := fun _ _ _ => False
theorem ps_never : PS X st tNever := fun _ _ _ _ _ _ h => h.elim
end

noncomputable abbrev TG := V → St → Hp → (St → Hp → Prop) → Prop
noncomputable abbrev TGs := List V → St → Hp → (St → Hp → Prop) → Prop
noncomputable def PG (X : Cx) (target : Expr) (t : TG) : Prop :=
  ∀ (pins : List (Addr × Obj)) (s : Shared) (σ : St) (H : Hp) (v : V) (u : Value) (Q : St → Hp → Prop), Inv X pins σ H s → RelV v u → t v σ H Q →
    wpAny (model X.prog X.w) X.A (assign target X.env u) (fun _ s' => ∃ σ' H', Inv X pins σ' H' s' ∧ Q σ' H') X.xe s
noncomputable def PGs (X : Cx) (ts : List Expr) (t : TGs) : Prop :=
  ∀ (pins : List (Addr × Obj)) (s : Shared) (σ : St) (H : Hp) (vs : List V) (us : List Value) (Q : St → Hp → Prop), Inv X pins σ H s → Vals vs us → t vs σ H Q →
    wpAny (model X.prog X.w) X.A (assignInOrder ((assignEach ts X.env).map (·.2)) us) (fun _ s' => ∃ σ' H', Inv X pins σ' H' s' ∧ Q σ' H') X.xe s
noncomputable abbrev TSet := V → V → V → Hp → (Hp → Prop) → Prop
noncomputable def PSet (X : Cx) (t : TSet) : Prop :=
  ∀ (pins : List (Addr × Obj)) (s : Shared) (σ : St) (H : Hp) (o i v : V) (ov iv u : Value) (Q : Hp → Prop), Inv X pins σ H s → RelV o ov → RelV i iv → RelV v u → t o i v H Q →
    wpAny (model X.prog X.w) X.A (setItem ov iv u) (fun _ s' => ∃ H', Inv X pins σ H' s' ∧ Q H') X.xe s
section
variable {X : Cx} {pos : Pos}
noncomputable def gName (i : Nat) : TG := fun v σ H Q => Q (σ.set i (some v)) H
theorem pg_name {i : Nat} {x : Str} (hN : X.N.Nodup) (hi : X.N[i]? = some x) (hx : Loc X.env.scope x) (hf : X.fn x = true ∨ X.env.scope.names.lookup x = some .local := by first | exact .inl rfl | exact .inr rfl | assumption) : PG X (.Name x pos) (gName i) := by
  intro pins s σ H v u Q I r h
  exact wpAny_assign_Name (store_ok I hN hi hx r (fun s' I' => ⟨_, H, I', h⟩) hf)
noncomputable def gNil : TGs := fun vs σ H Q => vs = [] ∧ Q σ H
noncomputable def gCons (t : TG) (u : TGs) : TGs := fun vs σ H Q => ∃ v r, vs = v :: r ∧ t v σ H fun σ' H' => u r σ' H' Q
theorem pgs_nil : PGs X [] gNil := by
  intro pins s σ H vs us Q I r h
  obtain ⟨e, h⟩ := h
  subst e
  cases r
  exact assignInOrder_nil ⟨σ, H, I, h⟩
theorem pgs_cons {e : Expr} {es : List Expr} {t : TG} {u : TGs} (h1 : PG X e t) (h2 : PGs X es u)
    (hs : (assignEach (e :: es) X.env).map (·.2) = assign e X.env :: (assignEach es X.env).map (·.2) := by rfl) : PGs X (e :: es) (gCons t u) := by
  intro pins s σ H vs us Q I r h
  obtain ⟨v, vr, e1, h⟩ := h
  subst e1
  cases r with
  | cons r rr =>
    rw [hs]
    refine assignInOrder_cons (thn (h1 pins s σ H _ _ _ I r h) fun _ s1 ⟨σ1, H1, I1, q1⟩ => ?_)
    exact h2 pins s1 σ1 H1 _ _ Q I1 rr q1
noncomputable def gTup (K : PySem.W.Frag) (n : Nat) (t : TGs) : TG := fun v σ H Q => ∃ a xs, v = .ref a ∧ SqT K H a xs ∧ xs.length = n ∧ t xs σ H Q
theorem pg_tup {es : List Expr} {k : Nat} {t : TGs} {n : Nat} (hc : X.calm = true) (h : PGs X es t)
    (hn : (assignEach es X.env).length = n := by rfl) (hst : (assignEach es X.env).findIdx? (·.1) = none := by rfl) : PG X (.Tuple es k pos) (gTup X.K n t) := by
  intro pins s σ H v u Q I r hw
  obtain ⟨a, xs, e1, hq, hl, hw⟩ := hw
  subst e1
  cases r
  obtain ⟨its, rv, ht, hz⟩ := I.tuple hq
  refine assign_Tuple_tuple (I.ok.hd hc) ht (by simp [hn, ← hl, rv.length]) hst fun h' hx => ?_
  have I1 : Inv X pins σ H { s with heap := h' } := I.kept (t' := s.toks) fun b o e => hx b o (Nat.ne_of_lt (Heap.lt_size e)) e
  exact h pins _ σ H xs _ Q I1 (by simpa using rv) hw
noncomputable def gSub (to ti : TE) (t : TSet) : TG := fun v σ H Q => to σ H fun o H1 => ti σ H1 fun i H2 => t o i v H2 fun H3 => Q σ H3
theorem pg_sub {o i : Expr} {to ti : TE} {t : TSet} (ho : PE X o to) (hi : PE X i ti) (hs : PSet X t)
    (ha : ∀ v, assign (.Subscript o i pos) X.env v = (do
      let ov ← holding [v] (eval o X.env)
      let iv ← holding [v, ov] (eval i X.env)
      standAt pos
      holding [v, ov, iv] (setItem ov iv v)
      release [v, ov, iv] []) := by intro _; rfl) : PG X (.Subscript o i pos) (gSub to ti t) := by
  intro pins s σ H v u Q I r h
  rw [ha]
  refine wpAny_bind (wpAny_holding (thn (ho pins s σ H _ I h) fun ov s1 ⟨x, H1, I1, r1, q1⟩ => ?_))
  refine wpAny_bind (wpAny_holding (thn (hi pins s1 σ H1 _ I1 q1) fun iv s2 ⟨y, H2, I2, r2, q2⟩ => ?_))
  refine wpAny_bind (wpAny_standAt (wpAny_bind (wpAny_holding (thn (hs pins s2 σ H2 x y v ov iv u _ I2 r1 r2 r q2) fun _ s3 ⟨H3, I3, q3⟩ => ?_))))
  exact wpAny_release ⟨σ, H3, I3, q3⟩
noncomputable def tAsg (te : TE) (g : TG) : TS := fun D σ H => te σ H fun x H1 => g x σ H1 D.nx
theorem ps_asg {tg e : Expr} {te : TE} {g : TG} (he : PE X e te) (hg : PG X tg g) (hs : swapsWithSole [tg] e pos.line X.env = pure false := by rfl) (hw : swappedStores [tg] e X.env = pure none := by rfl)
    (h1 : (assignEach [tg] X.env).map (·.2) = [assign tg X.env] := by rfl) : PS X (.Assign [tg] e pos) (tAsg te g) := by
  intro pins s σ H D I h
  refine wpAny_Assign_stores (thn (he pins s σ H _ I h) fun v s1 ⟨x, H1, I1, r1, q1⟩ => ?_) hs hw
  rw [h1]
  exact thn (hg pins s1 σ H1 x v _ I1 r1 q1) fun _ s2 q => q
theorem ps_set {i : Nat} {x : Str} {e : Expr} {te : TE} {pos' : Pos} (hN : X.N.Nodup) (hi : X.N[i]? = some x) (hx : Loc X.env.scope x) (he : PE X e te) (hs : swapsWith e (some (.Name x pos')) pos.line X.env = pure false := by rfl) (hf : X.fn x = true ∨ X.env.scope.names.lookup x = some .local := by first | exact .inl rfl | exact .inr rfl | assumption) :
    PS X (.Assign [.Name x pos'] e pos) (tAsg te (gName i)) := by
  intro pins s σ H D I h
  refine wpAny_Assign_Name (thn (he pins s σ H _ I h) fun v s1 ⟨y, H1, I1, r1, q1⟩ => ?_) hs
  exact store_ok I1 hN hi hx r1 (fun s2 I2 => ⟨_, H1, I2, q1⟩) hf
noncomputable def tPar (i j : Nat) (ta : TA) : TS := fun D σ H => ta σ H fun vs H1 => ∃ v w, vs = [v, w] ∧ D.nx ((σ.set i (some v)).set j (some w)) H1
theorem ps_par {i j : Nat} {x y : Str} {a b : Expr} {ta : TA} {px py pt : Pos} {kt k2 pt2} (hc : X.calm = true) (hN : X.N.Nodup) (hi : X.N[i]? = some x) (hj : X.N[j]? = some y) (hij : i ≠ j)
    (hx : X.env.scope.names.lookup x = some .local) (hy : X.env.scope.names.lookup y = some .local) (ha : PA X [a, b] ta)
    (hw : swappedStores [.Tuple [.Name x px, .Name y py] kt pt] (.Tuple [a, b] k2 pt2) X.env = pure (some [x, y]))
    (hs : swapsWithSole [.Tuple [.Name x px, .Name y py] kt pt] (.Tuple [a, b] k2 pt2) pos.line X.env = pure false := by rfl) :
    PS X (.Assign [.Tuple [.Name x px, .Name y py] kt pt] (.Tuple [a, b] k2 pt2) pos) (tPar i j ta) := by
  intro pins s σ H D I h
  rw [exec_Assign_arm]
  refine wpAny_bind (wpAny_standAt ?_)
  rw [hs]
  refine wpAny_bind (wpAny_pure ?_)
  rw [if_neg (by decide)]
  refine wpAny_bind (Tuple_ (thn (ha _ pins s σ H _ I h) fun us s1 ⟨vs, H1, I1, r1, q1⟩ => ?_))
  obtain ⟨v, w, e1, q1⟩ := q1
  subst e1
  obtain ⟨u1, u2, rfl, rv, rw'⟩ : ∃ u1 u2, us = [u1, u2] ∧ RelV v u1 ∧ RelV w u2 := by
    cases r1 with
    | cons p q =>
      cases q with
      | cons p' q' =>
        cases q'
        exact ⟨_, _, rfl, p, p'⟩
  refine wpAny_newObj_type ?_ (by show 2 ≤ sizeLine; decide)
  have I2 : Inv X pins σ H1 { s1 with heap := s1.heap.push { cls := .type "tuple", data := .seq [u1, u2].toArray } } := I1.kept (t' := s1.toks) fun b o e => Heap.get?_push_of_some _ e
  rw [hw]
  refine wpAny_bind (wpAny_pure ?_)
  show wpAny (model X.prog X.w) X.A (do rule "assign.swapped-stores"; let items ← unpackItems (.ref s1.heap.objs.size) 2 none; assignInOrder [fun v => bindName X.env y v, fun v => bindName X.env x v] items.reverse; pure Flow.next) _ _ _
  refine wpAny_bind (wpAny_rule (wpAny_bind (unpackItems_tuple (items := #[u1, u2]) (I.ok.hd hc) (IsTup.new s1.heap _) fun h' hx' => ?_)))
  have I3 := I2.kept (h' := h') (t' := s1.toks) fun b o e => hx' b o (Nat.ne_of_lt (Heap.lt_size e)) e
  show wpAny _ _ (assignInOrder [fun v => bindName X.env y v, fun v => bindName X.env x v] [u2, u1] >>= fun _ => pure Flow.next) _ _ _
  refine wpAny_bind (assignInOrder_cons (wpAny_bindName (store_ok I3 hN hj (.inl hy) rw' (fun s2 I4 => ?_) (.inr hy))))
  refine assignInOrder_cons (wpAny_bindName (store_ok I4 hN hi (.inl hx) rv (fun s3 I5 => assignInOrder_nil (wpAny_pure ?_)) (.inr hx)))
  rw [List.set_comm _ _ (Ne.symm hij)] at I5
  exact ⟨_, H1, I5, q1⟩
end

section
variable {X : Cx} {pos : Pos}
noncomputable def tWhile (c : TT) (tb : TS) : TS := fun D σ H => ∃ W : Nat → St → Hp → Prop, (∃ m, W m σ H) ∧ ∀ m σ H, W m σ H →
  c σ H fun b H1 => if b = true then ∃ N : St → Hp → Prop, (∀ σ' H', N σ' H' → ∃ m', m' < m ∧ W m' σ' H') ∧ tb { D with nx := N, ct := N, bk := D.nx } σ H1 else D.nx σ H1
theorem ps_while {c : Expr} {body : List Stmt} {tc : TT} {tb : TS} (hp : PassesOwn (model X.prog X.w) X.A X.env X.xe) (hc : PT X c tc) (hb : PSs X body tb) : PS X (.While c body [] pos) (tWhile tc tb) := by
  intro pins s σ H D I h
  obtain ⟨W, ⟨m0, w0⟩, turn⟩ := h
  refine wpAny_While (codeAny_whileLoop (fun n s' => ∃ σ' H', Inv X pins σ' H' s' ∧ W n σ' H') ?_ m0 ⟨σ, H, I, w0⟩)
  rintro n s1 ⟨σ1, H1, I1, w1⟩
  refine wpAny_passesOwn hp (thn (hc pins s1 σ1 H1 _ I1 (turn n σ1 H1 w1)) fun b s2 ⟨H2, I2, q2⟩ => ?_)
  cases b with
  | true =>
    obtain ⟨N, hN, q2⟩ := q2
    rw [if_pos rfl]
    refine wpAny_passesOwn hp (thn (hb pins s2 σ1 H2 _ I2 q2) fun f s3 q3 => ?_)
    cases f with
    | next =>
      obtain ⟨σ3, H3, I3, n3⟩ := q3
      obtain ⟨m', hm, w3⟩ := hN σ3 H3 n3
      exact ⟨m', hm, σ3, H3, I3, w3⟩
    | cont =>
      obtain ⟨σ3, H3, I3, n3⟩ := q3
      obtain ⟨m', hm, w3⟩ := hN σ3 H3 n3
      exact ⟨m', hm, σ3, H3, I3, w3⟩
    | brk => exact q3
    | ret v => exact q3
  | false =>
    rw [if_neg Bool.false_ne_true]
    exact wpAny_execs_nil ⟨σ1, H2, I2, q2⟩
end

structure It where
  go : Nat → Hp → Prop
  yld : Nat → Hp → V → Hp → Prop
  stop : Nat → Hp → Prop
noncomputable def FpOk (X : Cx) (pins : List (Addr × Obj)) (H : Hp) (b : Addr) : Prop :=
  H b = none ∧ b ≠ X.env.locals ∧ b ∉ X.fs ∧ (b ∈ X.ex ∨ X.s₀.heap.objs.size ≤ b) ∧ (∀ x c, X.env.cells.lookup x = some c → c ≠ b) ∧ ∀ p ∈ X.pn ++ pins, p.1 ≠ b
theorem Inv.fpOk {X : Cx} {pins : List (Addr × Obj)} {σ : St} {H H' : Hp} {s : Shared} {b : Addr} (I : Inv X pins σ H s) (hb : s.heap.objs.size ≤ b) (hn : H' b = none) : FpOk X pins H' b := by
  refine ⟨hn, Nat.ne_of_gt (Nat.lt_of_lt_of_le I.lt hb), I.nofs hb, .inr (Nat.le_trans I.sz hb), fun x c e z => ?_, fun p hp z => ?_⟩
  · obtain ⟨v, q⟩ := I.cell x c e
    exact absurd (Nat.lt_of_lt_of_le q.lt (by rw [z]; exact hb)) (Nat.lt_irrefl _)
  · exact absurd (Nat.lt_of_lt_of_le (Heap.lt_size (I.pin p hp).1) (by rw [z]; exact hb)) (Nat.lt_irrefl _)
structure Turn (P : Program) (w : World) (K : PySem.W.Frag) (tg : Expr) (J : It) (fp : List Addr) (it : Addr) (tn : Nat → Heap → Prop) : Prop where
  mem : it ∈ fp
  obj : ∀ i h, tn i h → ∀ b ∈ fp, ∃ o, h.get? b = some o ∧ ∀ v, o.data ≠ .cell v
  keep : ∀ i h h', tn i h → (∀ b ∈ fp, ∀ o, h.get? b = some o → h'.get? b = some o) → tn i h'
  item : ∀ (X : Cx), X.prog = P → X.w = w → X.K = K → X.calm = true → ∀ (i : Nat) (pins : List (Addr × Obj)) (s : Shared) (σ : St) (H : Hp) (E : Value → Shared → Prop), Inv X pins σ H s → (∀ b ∈ fp, FpOk X pins H b) → tn i s.heap → J.go i H →
    wpAny (model P w) X.A (pyNext (.ref it)) (fun r s1 => ∃ u, r = some u ∧
      wpAny (model P w) X.A (letOwnedTupleGo tg (.ref it) u) (fun _ s2 => ∃ x H', Inv X pins σ H' s2 ∧ RelV x u ∧ J.yld i H x H' ∧ tn (i + 1) s2.heap ∧ ∀ b ∈ fp, H' b = none) E s1) E s
  done : ∀ (X : Cx), X.prog = P → X.w = w → X.K = K → X.calm = true → ∀ (i : Nat) (pins : List (Addr × Obj)) (s : Shared) (σ : St) (H : Hp) (E : Value → Shared → Prop), Inv X pins σ H s → (∀ b ∈ fp, FpOk X pins H b) → tn i s.heap → J.stop i H →
    wpAny (model P w) X.A (pyNext (.ref it)) (fun r s1 => r = none ∧ Inv X pins σ H s1) E s
  self : ∀ (A : Around) (i : Nat) (s : Shared) (Q : Value → Shared → Prop) (E : Value → Shared → Prop), tn i s.heap → Q (.ref it) s → wpAny (model P w) A (pyIter (.ref it)) Q E s
noncomputable abbrev TI := St → Hp → (It → Hp → Prop) → Prop
noncomputable def PIE (X : Cx) (pins : List (Addr × Obj)) (σ : St) (tg : Expr) (R : It → Hp → Prop) (itv : Value) (s2 : Shared) : Prop :=
  ∃ (it : Addr) (fp : List Addr) (tn : Nat → Heap → Prop) (J : It) (H' : Hp), itv = .ref it ∧ Inv X pins σ H' s2 ∧ Turn X.prog X.w X.K tg J fp it tn ∧ tn 0 s2.heap ∧ (∀ b ∈ fp, FpOk X pins H' b) ∧ R J H'
noncomputable def PI (X : Cx) (tg iter : Expr) (wi : TI) : Prop :=
  ∀ (pins : List (Addr × Obj)) (s : Shared) (σ : St) (H : Hp) (R : It → Hp → Prop), Inv X pins σ H s → wi σ H R →
    wpAny (model X.prog X.w) X.A (eval iter X.env) (fun v s1 => wpAny (model X.prog X.w) X.A (pyIter v) (PIE X pins σ tg R) X.xe s1) X.xe s

theorem go_of {M : Model} {A : Around} {E : Value → Shared → Prop} {s : Shared} {tg : Expr} {it : Addr} {u : Value} {o : Obj} {n : String} {vs : Array Value} {Q : Unit → Shared → Prop} (ho : s.heap.get? it = some o) (hc : o.cls = .type n) (hd : o.data = .fields vs)
    (hn : ["enumerate", "zip", "dict_itemiterator", "dict_reverseitemiterator", "odict_iterator", "itertools.zip_longest", "itertools.pairwise"].contains n = false) (hQ : Q () s) : wpAny M A (letOwnedTupleGo tg (.ref it) u) Q E s := by
  unfold letOwnedTupleGo
  cases tg <;> first
    | exact wpAny_pure hQ
    | (cases u <;> first
        | exact wpAny_pure hQ
        | (refine wpAny_bind (wpAny_load ho ?_)
           rw [hc, hd]
           show wpAny M A (if (["enumerate", "zip", "dict_itemiterator", "dict_reverseitemiterator", "odict_iterator", "itertools.zip_longest", "itertools.pairwise"].contains n && vs[0]? == some (rawInt _)) = true then _ else _) Q E s
           rw [if_neg (by intro h; rw [hn, Bool.false_and] at h; cases h)]
           exact wpAny_pure hQ))

noncomputable def Itl (K : PySem.W.Frag) (a : Addr) : It :=
  ⟨fun i H => ∃ xs x, SqL K H a xs ∧ xs[i]? = some x, fun i H x H' => H' = H ∧ ∀ xs, SqL K H a xs → xs[i]? = some x, fun i H => ∃ xs, SqL K H a xs ∧ xs.length ≤ i⟩
noncomputable def Itt (K : PySem.W.Frag) (a : Addr) : It :=
  ⟨fun i H => ∃ xs x, SqT K H a xs ∧ xs[i]? = some x, fun i H x H' => H' = H ∧ ∀ xs, SqT K H a xs → xs[i]? = some x, fun i H => ∃ xs, SqT K H a xs ∧ xs.length ≤ i⟩
noncomputable def Itr (lo : Int) (n : Nat) : It := ⟨fun i _ => i < n, fun i H x H' => H' = H ∧ x = .int (lo + i), fun i _ => n ≤ i⟩
theorem turn_list {P : Program} {w : World} {K : PySem.W.Frag} {tg : Expr} (a it : Addr) : Turn P w K tg (Itl K a) [it] it (fun i h => h.IsListIter it a i) where
  mem := by simp
  obj := fun i h st b hb => by
    have e : b = it := by simpa using hb
    subst e
    obtain ⟨o, e, c, d⟩ := st
    exact ⟨o, e, fun v z => by rw [d] at z; cases z⟩
  keep := fun i h h' st k => st.at fun o e => k it (by simp) o e
  item := by
    intro X hP hw hK hc i pins s σ H E I hf st hg
    subst hP hw hK
    obtain ⟨xs, x, hq, hx⟩ := hg
    obtain ⟨its, rv, p, hz⟩ := I.list hq
    obtain ⟨u, hu, ru⟩ := rv.get hx
    obtain ⟨f0, f1, f2, f3, f4, f5⟩ := hf it (by simp)
    refine wpAny_pyNext_list_item st p.isList (x := u) (by simpa using hu) fun h' st' sb => ?_
    have I1 : Inv X pins σ H { s with heap := h' } := I.turned (t' := s.toks) (fun b o hb e => (sb.2 b hb).trans e) f0 f1 f3 f4 f5
    obtain ⟨o, e, c, d⟩ := id st'
    exact ⟨u, rfl, go_of (s := { s with heap := h' }) e c d (by decide) ⟨x, H, I1, ru, ⟨rfl, fun ys hy => by rw [I.list_inj hy hq]; exact hx⟩, st', fun b hb => (hf b hb).1⟩⟩
  done := by
    intro X hP hw hK hc i pins s σ H E I hf st hg
    subst hP hw hK
    obtain ⟨xs, hq, hx⟩ := hg
    obtain ⟨its, rv, p, hz⟩ := I.list hq
    obtain ⟨f0, f1, f2, f3, f4, f5⟩ := hf it (by simp)
    have hl := rv.length
    exact wpAny_pyNext_list_end (I.ok.hd hc) st p.isList (by simp; omega) fun h' eb => ⟨rfl, I.turned (t' := s.toks) (fun b o hb e => eb b o hb e) f0 f1 f3 f4 f5⟩
  self := fun _ _ _ _ _ st h => wpAny_pyIter_listiter st h
theorem turn_tuple {P : Program} {w : World} {K : PySem.W.Frag} {tg : Expr} (a it : Addr) : Turn P w K tg (Itt K a) [it] it (fun i h => h.IsTupleIter it a i) where
  mem := by simp
  obj := fun i h st b hb => by
    have e : b = it := by simpa using hb
    subst e
    obtain ⟨o, e, c, d⟩ := st
    exact ⟨o, e, fun v z => by rw [d] at z; cases z⟩
  keep := fun i h h' st k => st.at fun o e => k it (by simp) o e
  item := by
    intro X hP hw hK hc i pins s σ H E I hf st hg
    subst hP hw hK
    obtain ⟨xs, x, hq, hx⟩ := hg
    obtain ⟨its, rv, p, hz⟩ := I.tuple hq
    obtain ⟨u, hu, ru⟩ := rv.get hx
    obtain ⟨f0, f1, f2, f3, f4, f5⟩ := hf it (by simp)
    refine wpAny_pyNext_tuple_item st (show s.heap.IsTuple a its.toArray from p) (x := u) (by simpa using hu) fun h' st' sb => ?_
    have I1 : Inv X pins σ H { s with heap := h' } := I.turned (t' := s.toks) (fun b o hb e => (sb.2 b hb).trans e) f0 f1 f3 f4 f5
    obtain ⟨o, e, c, d⟩ := id st'
    exact ⟨u, rfl, go_of (s := { s with heap := h' }) e c d (by decide) ⟨x, H, I1, ru, ⟨rfl, fun ys hy => by rw [I.tuple_inj hy hq]; exact hx⟩, st', fun b hb => (hf b hb).1⟩⟩
  done := by
    intro X hP hw hK hc i pins s σ H E I hf st hg
    subst hP hw hK
    obtain ⟨xs, hq, hx⟩ := hg
    obtain ⟨its, rv, p, hz⟩ := I.tuple hq
    obtain ⟨f0, f1, f2, f3, f4, f5⟩ := hf it (by simp)
    have hl := rv.length
    exact wpAny_pyNext_tuple_end (I.ok.hd hc) st (show s.heap.IsTuple a its.toArray from p) (by simp; omega) fun h' eb => ⟨rfl, I.turned (t' := s.toks) (fun b o hb e => eb b o hb e) f0 f1 f3 f4 f5⟩
  self := fun _ _ _ _ _ st h => wpAny_pyIter_tupleiter st h
theorem turn_range {P : Program} {w : World} {K : PySem.W.Frag} {tg : Expr} (it : Addr) (lo : Int) (n : Nat) : Turn P w K tg (Itr lo n) [it] it (fun i h => IsRangeIter h it (lo + (i : Nat) * 1) ((n : Int) - (i : Nat)) 1) where
  mem := by simp
  obj := fun i h st b hb => by
    have e : b = it := by simpa using hb
    subst e
    exact ⟨_, st, fun v z => by
      have z' : Data.fields _ = Data.cell v := z
      cases z'⟩
  keep := fun i h h' st k => k it (by simp) _ st
  item := by
    intro X hP hw hK hc i pins s σ H E I hf st hg
    subst hP hw hK
    obtain ⟨f0, f1, f2, f3, f4, f5⟩ := hf it (by simp)
    have W := Walks.range (prog := X.prog) (w := X.w) (I.ok.hd hc) it lo 1 n
    refine W.item i s _ _ hg st fun v h' tk hv st' kk => ?_
    obtain ⟨t, rfl⟩ := hv
    have I1 : Inv X pins σ H { s with heap := h', toks := tk } := I.turned (fun b o hb e => kk b o (by simpa using hb) e) f0 f1 f3 f4 f5
    refine ⟨_, rfl, go_of (s := { s with heap := h', toks := tk }) (n := "range_iterator") st' rfl rfl (by decide) ⟨.int (lo + i), H, I1, ⟨t, ?_⟩, ⟨rfl, rfl⟩, st', fun b hb => (hf b hb).1⟩⟩
    rw [Int.mul_one]
  done := by
    intro X hP hw hK hc i pins s σ H E I hf st hg
    subst hP hw hK
    obtain ⟨f0, f1, f2, f3, f4, f5⟩ := hf it (by simp)
    exact wpAny_pyNext_range_end (I.ok.hd hc) st (by have : n ≤ i := hg; omega) fun h' eb => ⟨rfl, I.turned (t' := s.toks) (fun b o hb e => eb b o hb e) f0 f1 f3 f4 f5⟩
  self := fun _ _ _ _ _ st h => wpAny_pyIter_rangeiter st h
end L2

namespace L2
open PySem PySem.Spec PyProof.Rows
section
variable {X : Cx} {tg : Expr}
noncomputable def iList (K : PySem.W.Frag) (tl : TE) : TI := fun σ H R => tl σ H fun x H1 => ∃ a, x = .ref a ∧ (∃ xs, SqL K H1 a xs) ∧ R (Itl K a) H1
noncomputable def iTup (K : PySem.W.Frag) (tl : TE) : TI := fun σ H R => tl σ H fun x H1 => ∃ a, x = .ref a ∧ (∃ xs, SqT K H1 a xs) ∧ R (Itt K a) H1
theorem pi_list {l : Expr} {tl : TE} (hl : PE X l tl) : PI X tg l (iList X.K tl) := by
  intro pins s σ H R I h
  refine thn (hl pins s σ H _ I h) fun v s1 ⟨x, H1, I1, r1, q1⟩ => ?_
  obtain ⟨a, e, ⟨xs, hq⟩, q⟩ := q1
  subst e
  cases r1
  obtain ⟨its, rv, p, hz⟩ := I1.list hq
  refine wpAny_pyIter_list p.isList ?_
  refine ⟨s1.heap.objs.size, [s1.heap.objs.size], _, _, H1, rfl, I1.kept (t' := s1.toks) fun b o e => Heap.get?_push_of_some _ e, turn_list a _, ⟨_, Heap.get?_push_size _ rfl, rfl, rfl⟩, fun b hb => ?_, q⟩
  have e : b = s1.heap.objs.size := by simpa using hb
  subst e
  exact I1.fpOk (Nat.le_refl _) (I1.hok.fresh (Nat.le_refl _))
theorem pi_tup {l : Expr} {tl : TE} (hl : PE X l tl) : PI X tg l (iTup X.K tl) := by
  intro pins s σ H R I h
  refine thn (hl pins s σ H _ I h) fun v s1 ⟨x, H1, I1, r1, q1⟩ => ?_
  obtain ⟨a, e, ⟨xs, hq⟩, q⟩ := q1
  subst e
  cases r1
  obtain ⟨its, rv, p, hz⟩ := I1.tuple hq
  refine wpAny_pyIter_tuple (show s1.heap.IsTuple a its.toArray from p) ?_
  refine ⟨s1.heap.objs.size, [s1.heap.objs.size], _, _, H1, rfl, I1.kept (t' := s1.toks) fun b o e => Heap.get?_push_of_some _ e, turn_tuple a _, ⟨_, Heap.get?_push_size _ rfl, rfl, rfl⟩, fun b hb => ?_, q⟩
  have e : b = s1.heap.objs.size := by simpa using hb
  subst e
  exact I1.fpOk (Nat.le_refl _) (I1.hok.fresh (Nat.le_refl _))
theorem range_it {pins : List (Addr × Obj)} {σ : St} {H : Hp} {s : Shared} {R : It → Hp → Prop} {E : Value → Shared → Prop} {lo hi : Int} {t u v : Tok} {tk : Nat} (I : Inv X pins σ H s) (h1 : -(2 ^ 62) ≤ lo) (h2 : lo < 2 ^ 62) (h3 : -(2 ^ 62) ≤ hi) (h4 : hi < 2 ^ 62)
    (q : R (Itr lo (hi - lo).toNat) H) : wpAny (model X.prog X.w) X.A (pyIter (.ref s.heap.objs.size)) (PIE X pins σ tg R) E { s with heap := s.heap.push { cls := .type "range", data := .fields #[.int lo t, .int hi u, .int 1 v] }, toks := tk } := by
  refine wpAny_pyIter_range (IsRange.new ..) (small_one h1 h2 h3 h4) ?_
  have I1 : Inv X pins σ H { s with heap := s.heap.push { cls := .type "range", data := .fields #[.int lo t, .int hi u, .int 1 v] }, toks := tk } := I.kept fun b o e => Heap.get?_push_of_some _ e
  refine ⟨(s.heap.push { cls := .type "range", data := .fields #[.int lo t, .int hi u, .int 1 v] }).objs.size, [(s.heap.push { cls := .type "range", data := .fields #[.int lo t, .int hi u, .int 1 v] }).objs.size], _, _, H, rfl,
    I1.kept (t' := tk) fun b o e => Heap.get?_push_of_some _ e, turn_range _ lo (hi - lo).toNat, ?_, fun b hb => ?_, q⟩
  · have e1 : lo + ((0 : Nat) : Int) * 1 = lo := by simp
    have e2 : (((hi - lo).toNat : Nat) : Int) - ((0 : Nat) : Int) = Builtin.Range.rangeSize lo hi 1 := by rw [rangeSize_one]; split <;> omega
    show IsRangeIter _ _ (lo + ((0 : Nat) : Int) * 1) ((((hi - lo).toNat : Nat) : Int) - ((0 : Nat) : Int)) 1
    rw [e1, e2]
    exact Heap.get?_push_size _ rfl
  · have e : b = (s.heap.push { cls := .type "range", data := .fields #[.int lo t, .int hi u, .int 1 v] }).objs.size := by simpa using hb
    subst e
    exact I1.fpOk (Nat.le_refl _) (I1.hok.fresh (Nat.le_refl _))
noncomputable def iRng1 (ta : TA) : TI := fun σ H R => ta σ H fun vs H1 => ∃ j : Int, vs = [.int j] ∧ -(2 ^ 62) ≤ j ∧ j < 2 ^ 62 ∧ R (Itr 0 j.toNat) H1
theorem pi_range1 {a : Expr} {ta : TA} {p pos : Pos} (hg : Gl X "range") (hm : X.mg "range" = none) (ha : PA X [a] ta) (hs : starEach [a] X.env = [(false, eval a X.env)] := by rfl) : PI X tg (.Call (.Name "range" p) [a] [] pos) (iRng1 ta) := by
  intro pins s σ H R I h
  refine Call_ (ld_blt I hg hm boot_range (PyProof.Rows.callWith_type1 (thn (ha pos pins s σ H _ I h) fun us s1 ⟨vs, H1, I1, r1, q1⟩ => ?_) hs rfl))
  obtain ⟨j, e, q1, q2, q⟩ := q1
  subst e
  cases r1 with
  | cons r rr =>
    cases rr
    obtain ⟨t, rfl⟩ := r
    exact call_range_1 (range_it I1 (by omega) (by omega) q1 q2 (by simpa using q))
noncomputable def tFor (wi : TI) (g : TG) (tb : TS) : TS := fun D σ H => wi σ H fun J H1 => ∃ W : Nat → Nat → St → Hp → Prop, (∃ m, W 0 m σ H1) ∧ ∀ i m σ H, W i m σ H →
  (J.stop i H ∧ D.nx σ H) ∨ (J.go i H ∧ ∃ N : St → Hp → Prop, (∀ σ' H', N σ' H' → ∃ m', m' < m ∧ W (i + 1) m' σ' H') ∧ ∀ x H', J.yld i H x H' → g x σ H' fun σ2 H2 => tb { D with nx := N, ct := N, bk := D.nx } σ2 H2)
noncomputable def pinsAt (fp : List Addr) (h : Heap) : List (Addr × Obj) := fp.filterMap fun b => (h.get? b).map fun o => (b, o)
theorem mem_pinsAt {fp : List Addr} {h : Heap} {b : Addr} {o : Obj} (hb : b ∈ fp) (e : h.get? b = some o) : (b, o) ∈ pinsAt fp h := List.mem_filterMap.mpr ⟨b, hb, by rw [e]; rfl⟩
theorem of_pinsAt {fp : List Addr} {h : Heap} {p : Addr × Obj} (hp : p ∈ pinsAt fp h) : p.1 ∈ fp ∧ h.get? p.1 = some p.2 := by
  obtain ⟨b, hb, e⟩ := List.mem_filterMap.mp hp
  cases q : h.get? b with
  | none => rw [q] at e; cases e
  | some o =>
    rw [q] at e
    have e' : (b, o) = p := Option.some.inj e
    subst e'
    exact ⟨hb, q⟩
theorem Inv.pinned {pins : List (Addr × Obj)} {σ : St} {H : Hp} {s : Shared} {fp : List Addr} (I : Inv X pins σ H s) (hf : ∀ b ∈ fp, FpOk X pins H b) (ho : ∀ b ∈ fp, ∃ o, s.heap.get? b = some o ∧ ∀ v, o.data ≠ .cell v) : Inv X (pins ++ pinsAt fp s.heap) σ H s :=
  I.pins_of fun p hp => (List.mem_append.mp hp).elim (fun z => I.pin p (List.mem_append_right _ z)) fun z => by
    obtain ⟨hb, e⟩ := of_pinsAt z
    obtain ⟨f0, f1, f2, _⟩ := hf p.1 hb
    obtain ⟨o, e', d⟩ := ho p.1 hb
    rw [e] at e'; cases e'
    exact ⟨e, f0, f1, f2, d⟩
theorem Inv.unpinned {pins pl : List (Addr × Obj)} {σ : St} {H : Hp} {s : Shared} (I : Inv X (pins ++ pl) σ H s) : Inv X pins σ H s := I.pins_of fun p hp => I.pin p (List.mem_append_right _ (List.mem_append_left _ hp))
theorem ps_for {iter : Expr} {body : List Stmt} {wi : TI} {g : TG} {tb : TS} {pos : Pos} (hp : PassesOwn (model X.prog X.w) X.A X.env X.xe) (hc : X.calm = true) (hi : PI X tg iter wi) (hg : PG X tg g) (hb : PSs X body tb)
    (hs : ∀ x, foldedSetIterable iter X.env x = pure x := by intro _; rfl) : PS X (.For tg iter body [] pos) (tFor wi g tb) := by
  intro pins s σ H D I h
  refine wpAny_For (thn (hi pins s σ H _ I h) fun v s1 h1 => thn h1 fun itv s2 h2 => ?_) hs
  obtain ⟨it, fp, tn, J, H2, e, I2, T, st2, f2, W, ⟨m0, w0⟩, turn⟩ := h2
  subst e
  -- what stays true of the iterator's objects through the loop
  have stat : ∀ {H' : Hp}, (∀ b ∈ fp, H' b = none) → ∀ b ∈ fp, FpOk X pins H' b := fun hn b hb => ⟨hn b hb, (f2 b hb).2⟩
  refine codeAny_forLoop_any (fun n s' => ∃ i σ' H', Inv X pins σ' H' s' ∧ tn i s'.heap ∧ (∀ b ∈ fp, H' b = none) ∧ W i n σ' H') ?_ m0 ⟨0, σ, H2, I2, st2, fun b hb => (f2 b hb).1, w0⟩
  rintro n s3 ⟨i, σ3, H3, I3, st3, fr3, w3⟩
  rcases turn i n σ3 H3 w3 with ⟨stop, qn⟩ | ⟨go, N, hN, step⟩
  · refine wpAny_passesOwn hp (thn (T.done X rfl rfl rfl hc i pins s3 σ3 H3 X.xe I3 (stat fr3) st3 stop) fun r s4 ⟨hr, I4⟩ => ?_)
    subst hr
    exact wpAny_execs_nil ⟨σ3, H3, I4, qn⟩
  · refine wpAny_passesOwn hp (thn (T.item X rfl rfl rfl hc i pins s3 σ3 H3 X.xe I3 (stat fr3) st3 go) fun r s4 ⟨u, hr, h4⟩ => ?_)
    subst hr
    refine wpAny_passesOwn hp (thn h4 fun _ s5 ⟨x, H5, I5, r5, y5, st5, fr5⟩ => ?_)
    have I5' := I5.pinned (stat fr5) (T.obj _ _ st5)
    refine wpAny_passesOwn hp (thn (hg _ s5 σ3 H5 x u _ I5' r5 (step x H5 y5)) fun _ s6 ⟨σ6, H6, I6, q6⟩ => ?_)
    refine wpAny_passesOwn hp (thn (hb _ s6 σ6 H6 _ I6 q6) fun f s7 q7 => ?_)
    have again : ∀ {σ7 : St} {H7 : Hp}, Inv X (pins ++ pinsAt fp s5.heap) σ7 H7 s7 → N σ7 H7 → ∃ m, m < n ∧ ∃ i σ' H', Inv X pins σ' H' s7 ∧ tn i s7.heap ∧ (∀ b ∈ fp, H' b = none) ∧ W i m σ' H' := fun {σ7 H7} I7 n7 => by
      obtain ⟨m', hm, w7⟩ := hN σ7 H7 n7
      refine ⟨m', hm, i + 1, σ7, H7, I7.unpinned, T.keep _ _ _ st5 fun b hb o e => (I7.pin (b, o) (List.mem_append_right _ (List.mem_append_right _ (mem_pinsAt hb e)))).1, fun b hb => ?_, w7⟩
      obtain ⟨o, e, d⟩ := T.obj _ _ st5 b hb
      exact (I7.pin (b, o) (List.mem_append_right _ (List.mem_append_right _ (mem_pinsAt hb e)))).2.1
    cases f with
    | next => obtain ⟨σ7, H7, I7, n7⟩ := q7; exact again I7 n7
    | cont => obtain ⟨σ7, H7, I7, n7⟩ := q7; exact again I7 n7
    | brk => obtain ⟨σ7, H7, I7, q7⟩ := q7; exact ⟨σ7, H7, I7.unpinned, q7⟩
    | ret v => obtain ⟨x7, σ7, H7, I7, r7, q7⟩ := q7; exact ⟨x7, σ7, H7, I7.unpinned, r7, q7⟩
end

theorem for_list {K : PySem.W.Frag} {a : Addr} {xs : List V} {g : TG} {tb : TS} {D : Ends} {σ : St} {H : Hp} (Pv : Nat → St → Hp → Prop) (h0 : Pv 0 σ H) (hl : ∀ i σ H, i ≤ xs.length → Pv i σ H → SqL K H a xs)
    (hs : ∀ i x σ H, xs[i]? = some x → Pv i σ H → g x σ H fun σ2 H2 => tb { D with nx := Pv (i + 1), ct := Pv (i + 1), bk := D.nx } σ2 H2) (hd : ∀ σ H, Pv xs.length σ H → D.nx σ H) :
    ∃ W : Nat → Nat → St → Hp → Prop, (∃ m, W 0 m σ H) ∧ ∀ i m σ H, W i m σ H →
      ((Itl K a).stop i H ∧ D.nx σ H) ∨ ((Itl K a).go i H ∧ ∃ N : St → Hp → Prop, (∀ σ' H', N σ' H' → ∃ m', m' < m ∧ W (i + 1) m' σ' H') ∧ ∀ x H', (Itl K a).yld i H x H' → g x σ H' fun σ2 H2 => tb { D with nx := N, ct := N, bk := D.nx } σ2 H2) := by
  refine ⟨fun i m σ H => m = xs.length - i ∧ i ≤ xs.length ∧ Pv i σ H, ⟨xs.length, by simp, Nat.zero_le _, h0⟩, ?_⟩
  rintro i m σ H ⟨rfl, hi, p⟩
  have q := hl i σ H hi p
  by_cases hlt : i < xs.length
  · refine .inr ⟨⟨xs, xs[i], q, by simp [hlt]⟩, Pv (i + 1), fun σ' H' p' => ⟨xs.length - (i + 1), by omega, rfl, hlt, p'⟩, fun x H' y => ?_⟩
    obtain ⟨e, y⟩ := y
    subst e
    exact hs i x σ _ (y xs q) p
  · have e : i = xs.length := by omega
    subst e
    exact .inl ⟨⟨xs, q, Nat.le_refl _⟩, hd σ H p⟩
theorem for_tup {K : PySem.W.Frag} {a : Addr} {xs : List V} {g : TG} {tb : TS} {D : Ends} {σ : St} {H : Hp} (Pv : Nat → St → Hp → Prop) (h0 : Pv 0 σ H) (hl : ∀ i σ H, i ≤ xs.length → Pv i σ H → SqT K H a xs)
    (hs : ∀ i x σ H, xs[i]? = some x → Pv i σ H → g x σ H fun σ2 H2 => tb { D with nx := Pv (i + 1), ct := Pv (i + 1), bk := D.nx } σ2 H2) (hd : ∀ σ H, Pv xs.length σ H → D.nx σ H) :
    ∃ W : Nat → Nat → St → Hp → Prop, (∃ m, W 0 m σ H) ∧ ∀ i m σ H, W i m σ H →
      ((Itt K a).stop i H ∧ D.nx σ H) ∨ ((Itt K a).go i H ∧ ∃ N : St → Hp → Prop, (∀ σ' H', N σ' H' → ∃ m', m' < m ∧ W (i + 1) m' σ' H') ∧ ∀ x H', (Itt K a).yld i H x H' → g x σ H' fun σ2 H2 => tb { D with nx := N, ct := N, bk := D.nx } σ2 H2) := by
  refine ⟨fun i m σ H => m = xs.length - i ∧ i ≤ xs.length ∧ Pv i σ H, ⟨xs.length, by simp, Nat.zero_le _, h0⟩, ?_⟩
  rintro i m σ H ⟨rfl, hi, p⟩
  have q := hl i σ H hi p
  by_cases hlt : i < xs.length
  · refine .inr ⟨⟨xs, xs[i], q, by simp [hlt]⟩, Pv (i + 1), fun σ' H' p' => ⟨xs.length - (i + 1), by omega, rfl, hlt, p'⟩, fun x H' y => ?_⟩
    obtain ⟨e, y⟩ := y
    subst e
    exact hs i x σ _ (y xs q) p
  · have e : i = xs.length := by omega
    subst e
    exact .inl ⟨⟨xs, q, Nat.le_refl _⟩, hd σ H p⟩
theorem for_range {lo : Int} {n : Nat} {g : TG} {tb : TS} {D : Ends} {σ : St} {H : Hp} (Pv : Nat → St → Hp → Prop) (h0 : Pv 0 σ H)
    (hs : ∀ i σ H, i < n → Pv i σ H → g (.int (lo + i)) σ H fun σ2 H2 => tb { D with nx := Pv (i + 1), ct := Pv (i + 1), bk := D.nx } σ2 H2) (hd : ∀ σ H, Pv n σ H → D.nx σ H) :
    ∃ W : Nat → Nat → St → Hp → Prop, (∃ m, W 0 m σ H) ∧ ∀ i m σ H, W i m σ H →
      ((Itr lo n).stop i H ∧ D.nx σ H) ∨ ((Itr lo n).go i H ∧ ∃ N : St → Hp → Prop, (∀ σ' H', N σ' H' → ∃ m', m' < m ∧ W (i + 1) m' σ' H') ∧ ∀ x H', (Itr lo n).yld i H x H' → g x σ H' fun σ2 H2 => tb { D with nx := N, ct := N, bk := D.nx } σ2 H2) := by
  refine ⟨fun i m σ H => m = n - i ∧ i ≤ n ∧ Pv i σ H, ⟨n, by simp, Nat.zero_le _, h0⟩, ?_⟩
  rintro i m σ H ⟨rfl, hi, p⟩
  by_cases hlt : i < n
  · refine .inr ⟨hlt, Pv (i + 1), fun σ' H' p' => ⟨n - (i + 1), by omega, rfl, hlt, p'⟩, fun x H' y => ?_⟩
    obtain ⟨e, y⟩ := y
    subst e y
    exact hs i σ _ hlt p
  · have e : i = n := by omega
    subst e
    exact .inl ⟨Nat.le_refl _, hd σ H p⟩
theorem while_by {c : TT} {tb : TS} {D : Ends} {σ : St} {H : Hp} (Pv : St → Hp → Prop) (μ : St → Hp → Nat) (h0 : Pv σ H)
    (hs : ∀ σ H, Pv σ H → c σ H fun b H1 => if b = true then tb { D with nx := fun σ' H' => Pv σ' H' ∧ μ σ' H' < μ σ H, ct := fun σ' H' => Pv σ' H' ∧ μ σ' H' < μ σ H, bk := D.nx } σ H1 else D.nx σ H1)
    (mono : ∀ σ H Q Q', (∀ b H1, Q b H1 → Q' b H1) → c σ H Q → c σ H Q') : tWhile c tb D σ H := by
  refine ⟨fun m σ H => m = μ σ H ∧ Pv σ H, ⟨_, rfl, h0⟩, ?_⟩
  rintro m σ H ⟨rfl, p⟩
  refine mono σ H _ _ (fun b H1 q => ?_) (hs σ H p)
  cases b with
  | true => exact ⟨_, fun σ' H' ⟨p', l⟩ => ⟨_, l, rfl, p'⟩, q⟩
  | false => exact q
end L2

namespace L2
open PySem PySem.Spec PyProof.Rows

noncomputable abbrev R2 := V → V → Hp → VK → Prop
noncomputable def OpR (X : Cx) (f : Value → Value → Sem Value) (r : R2) : Prop :=
  ∀ (pins : List (Addr × Obj)) (s : Shared) (σ : St) (H : Hp) (x y : V) (v u : Value) (Q : VK), Inv X pins σ H s → RelV x v → RelV y u → r x y H Q →
    wpAny (model X.prog X.w) X.A (f v u) (EP X pins σ Q) X.xe s
noncomputable def UnR (X : Cx) (f : Value → Sem Value) (r : V → Hp → VK → Prop) : Prop :=
  ∀ (pins : List (Addr × Obj)) (s : Shared) (σ : St) (H : Hp) (x : V) (v : Value) (Q : VK), Inv X pins σ H s → RelV x v → r x H Q →
    wpAny (model X.prog X.w) X.A (f v) (EP X pins σ Q) X.xe s
noncomputable def CallR (X : Cx) (f : Value) (r : List V → Hp → VK → Prop) : Prop :=
  ∀ (pins : List (Addr × Obj)) (s : Shared) (σ : St) (H : Hp) (xs : List V) (us : List Value) (Q : VK), Inv X pins σ H s → Vals xs us → r xs H Q →
    wpAny (model X.prog X.w) X.A (call f us) (EP X pins σ Q) X.xe s
noncomputable def tOp (r : R2) (ta tb : TE) : TE := fun σ H Q => ta σ H fun x H1 => tb σ H1 fun y H2 => r x y H2 Q
noncomputable def tUn (r : V → Hp → VK → Prop) (ta : TE) : TE := fun σ H Q => ta σ H fun x H1 => r x H1 Q
noncomputable def rI (C : Int → Int → Prop) (g : Int → Int → V) : R2 := fun x y H Q => ∃ i j, x = .int i ∧ y = .int j ∧ C i j ∧ Q (g i j) H
noncomputable def rI0 (g : Int → Int → V) : R2 := fun x y H Q => ∃ i j, x = .int i ∧ y = .int j ∧ Q (g i j) H
noncomputable def rU (g : Int → V) : V → Hp → VK → Prop := fun x H Q => ∃ i, x = .int i ∧ Q (g i) H

section
variable {X : Cx} {a b c : Expr} {ta tb tc : TE} {pos : Pos}

theorem binT (ha : PE X a ta) (hb : PE X b tb) {pins : List (Addr × Obj)} {s : Shared} {σ : St} {H : Hp} {R : V → V → Hp → Prop} (I : Inv X pins σ H s)
    (h : ta σ H fun x H1 => tb σ H1 fun y H2 => R x y H2) {Q : Value → Shared → Prop} {f : Value → Value → Sem Value}
    (hf : ∀ v u s2 x y H2, Inv X pins σ H2 s2 → RelV x v → RelV y u → R x y H2 → wpAny (model X.prog X.w) X.A (f v u) Q X.xe s2) :
    wpAny (model X.prog X.w) X.A (eval a X.env) (fun v s₁ => wpAny (model X.prog X.w) X.A (eval b X.env) (fun u s₂ => wpAny (model X.prog X.w) X.A (f v u) Q X.xe s₂) X.xe s₁) X.xe s := by
  refine thn (ha pins s σ H _ I h) fun v s1 ⟨x, H1, I1, r1, q1⟩ => ?_
  refine thn (hb pins s1 σ H1 _ I1 q1) fun u s2 ⟨y, H2, I2, r2, q2⟩ => ?_
  exact hf v u s2 x y H2 I2 r1 r2 q2

theorem pe_op {op : Operator} {r : R2} (ho : OpR X (binaryOp op) r) (ha : PE X a ta) (hb : PE X b tb) : PE X (.BinOp a op b pos) (tOp r ta tb) := by
  intro pins s σ H Q I h
  exact wpAny_BinOp (binT ha hb I h fun v u s2 x y H2 I2 rx ry q => ho pins s2 σ H2 x y v u Q I2 rx ry q)
theorem pe_un {op : UnaryOp} {r : V → Hp → VK → Prop} (ho : UnR X (unaryOp op) r) (ha : PE X a ta) : PE X (.UnaryOp op a pos) (tUn r ta) := by
  intro pins s σ H Q I h
  exact UnaryOp_ (thn (ha pins s σ H _ I h) fun v s1 ⟨x, H1, I1, r1, q1⟩ => ho pins s1 σ H1 x v Q I1 r1 q1)
theorem opI {f : Value → Value → Sem Value} {C : Int → Int → Prop} {g : Int → Int → Int}
    (rule : ∀ (i j : Int) (t u : Tok) (s : Shared) (Q : Value → Shared → Prop) (E : Value → Shared → Prop), C i j → Q (.int (g i j) s.toks) { s with toks := s.toks + 1 } → wpAny (model X.prog X.w) X.A (f (.int i t) (.int j u)) Q E s) :
    OpR X f (rI C fun i j => .int (g i j)) := by
  intro pins s σ H x y v u Q I rx ry h
  obtain ⟨i, j, rfl, rfl, hc, q⟩ := h
  obtain ⟨t, rfl⟩ := rx
  obtain ⟨t', rfl⟩ := ry
  exact rule i j t t' s _ _ hc ⟨.int (g i j), H, I.tok _, ⟨_, rfl⟩, q⟩
theorem opI0 {f : Value → Value → Sem Value} {g : Int → Int → Int}
    (rule : ∀ (i j : Int) (t u : Tok) (s : Shared) (Q : Value → Shared → Prop) (E : Value → Shared → Prop), Q (.int (g i j) s.toks) { s with toks := s.toks + 1 } → wpAny (model X.prog X.w) X.A (f (.int i t) (.int j u)) Q E s) :
    OpR X f (rI0 fun i j => .int (g i j)) := by
  intro pins s σ H x y v u Q I rx ry h
  obtain ⟨i, j, rfl, rfl, q⟩ := h
  obtain ⟨t, rfl⟩ := rx
  obtain ⟨t', rfl⟩ := ry
  exact rule i j t t' s _ _ ⟨.int (g i j), H, I.tok _, ⟨_, rfl⟩, q⟩
theorem opB0 {f : Value → Value → Sem Value} {g : Int → Int → Bool}
    (rule : ∀ (i j : Int) (t u : Tok) (s : Shared) (Q : Value → Shared → Prop) (E : Value → Shared → Prop), Q (.bool (g i j)) s → wpAny (model X.prog X.w) X.A (f (.int i t) (.int j u)) Q E s) :
    OpR X f (rI0 fun i j => .bl (g i j)) := by
  intro pins s σ H x y v u Q I rx ry h
  obtain ⟨i, j, rfl, rfl, q⟩ := h
  obtain ⟨t, rfl⟩ := rx
  obtain ⟨t', rfl⟩ := ry
  exact rule i j t t' s _ _ ⟨.bl (g i j), H, I, rfl, q⟩

noncomputable def CPow (i j : Int) : Prop := 0 ≤ j ∧ j ≤ 1000000 ∧ i.natAbs < 2 ^ 64
noncomputable def CMul (i j : Int) : Prop := (-(2 ^ 64) < i ∧ i < 2 ^ 64) ∨ (-(2 ^ 64) < j ∧ j < 2 ^ 64)
theorem CMul.ok {i j : Int} (h : CMul i j) : IntMulOk i j := by
  rcases h with ⟨h1, h2⟩ | ⟨h1, h2⟩
  · exact .of_left (intBits_le_64 h1 h2)
  · exact .of_right (intBits_le_64 h1 h2)
theorem op_add : OpR X (binaryOp .Add) (rI0 fun i j => .int (i + j)) := opI0 fun _ _ _ _ _ _ _ q => add_int q
theorem op_sub : OpR X (binaryOp .Sub) (rI0 fun i j => .int (i - j)) := opI0 fun _ _ _ _ _ _ _ q => sub_int q
theorem op_modN : OpR X (binaryOp .Mod) (rI (fun _ j => j ≠ 0) fun i j => .int (i.fmod j)) := opI fun _ _ _ _ _ _ _ hc q => mod_int' hc q
theorem op_pow : OpR X (binaryOp .Pow) (rI CPow fun i j => .int (i ^ j.toNat)) := opI fun _ _ _ _ _ _ _ hc q => pow_int_small hc.1 hc.2.1 hc.2.2 q
theorem unI {f : Value → Sem Value} {g : Int → Int}
    (rule : ∀ (i : Int) (t : Tok) (s : Shared) (Q : Value → Shared → Prop) (E : Value → Shared → Prop), Q (.int (g i) s.toks) { s with toks := s.toks + 1 } → wpAny (model X.prog X.w) X.A (f (.int i t)) Q E s) :
    UnR X f (rU fun i => .int (g i)) := by
  intro pins s σ H x v Q I rx h
  obtain ⟨i, rfl, q⟩ := h
  obtain ⟨t, rfl⟩ := rx
  exact rule i t s _ _ ⟨.int (g i), H, I.tok _, ⟨_, rfl⟩, q⟩
theorem un_neg : UnR X (unaryOp .USub) (rU fun i => .int (-i)) := unI fun _ _ _ _ _ q => neg_int q
end

noncomputable def scal : V → V → Bool
  | .non, .non => true | .non, .int _ => true | .int _, .non => true | .non, .bl _ => true | .bl _, .non => true | .non, .str _ => true | .str _, .non => true
  | .int _, .int _ => true | .bl _, .bl _ => true | .str _, .str _ => true | .byt _, .byt _ => true
  | .int _, .str _ => true | .str _, .int _ => true | .bl _, .str _ => true | .str _, .bl _ => true
  | _, _ => false
noncomputable def rEq : R2 := fun x y H Q => scal x y = true ∧ Q (.bl (decide (x = y))) H
noncomputable def rNe : R2 := fun x y H Q => scal x y = true ∧ Q (.bl (!decide (x = y))) H

theorem dec_int {i j : Int} : decide (V.int i = V.int j) = (i == j) := by
  rw [Bool.eq_iff_iff]
  simp
theorem dec_bl {i j : Bool} : decide (V.bl i = V.bl j) = (i == j) := by
  rw [Bool.eq_iff_iff]
  simp
theorem dec_str {i j : Str} : decide (V.str i = V.str j) = (i == j) := by
  rw [Bool.eq_iff_iff]
  simp
theorem dec_byt {i j : Array UInt8} : decide (V.byt i = V.byt j) = (i.toList == j.toList) := by
  rw [Bool.eq_iff_iff]
  cases i
  cases j
  simp

section
variable {X : Cx} {a b c : Expr} {ta tb tc : TE} {pos : Pos}
theorem fin_bl {pins : List (Addr × Obj)} {σ : St} {H : Hp} {s : Shared} {Q : VK} {k k' : Bool} (I : Inv X pins σ H s) (q : Q (.bl k) H) (e : k = k') : EP X pins σ Q (.bool k') s := by
  subst e
  exact ⟨.bl k, H, I, rfl, q⟩
theorem op_eq : OpR X (compareOp .Eq) rEq := by
  intro pins s σ H x y v u Q I rx ry h
  obtain ⟨hs, q⟩ := h
  cases x with
  | non =>
    cases rx
    cases y with
    | non => cases ry; exact PySem.EqNone.eq_none_none (fin_bl I q (by simp))
    | bl j => cases ry; exact PySem.EqNone.eq_none_bool (fin_bl I q (by simp))
    | int j => obtain ⟨t', rfl⟩ := ry; exact PySem.EqNone.eq_none_int (fin_bl I q (by simp))
    | str j => obtain ⟨t', rfl⟩ := ry; exact PySem.EqNone.eq_none_str (fin_bl I q (by simp))
    | _ => exact absurd (show false = true from hs) Bool.false_ne_true
  | bl i =>
    cases rx
    cases y with
    | non => cases ry; exact PySem.EqNone.eq_bool_none (fin_bl I q (by simp))
    | bl j => cases ry; exact eq_bool (fin_bl I q dec_bl)
    | str j => obtain ⟨t', rfl⟩ := ry; exact PySem.EqMixed.eq_bool_str (fin_bl I q (by simp))
    | _ => exact absurd (show false = true from hs) Bool.false_ne_true
  | int i =>
    obtain ⟨t, rfl⟩ := rx
    cases y with
    | non => cases ry; exact PySem.EqNone.eq_int_none (fin_bl I q (by simp))
    | int j => obtain ⟨t', rfl⟩ := ry; exact eq_int (fin_bl I q dec_int)
    | str j => obtain ⟨t', rfl⟩ := ry; exact PySem.EqMixed.eq_int_str (fin_bl I q (by simp))
    | _ => exact absurd (show false = true from hs) Bool.false_ne_true
  | str i =>
    obtain ⟨t, rfl⟩ := rx
    cases y with
    | non => cases ry; exact PySem.EqNone.eq_str_none (fin_bl I q (by simp))
    | bl j => cases ry; exact PySem.EqMixed.eq_str_bool (fin_bl I q (by simp))
    | int j => obtain ⟨t', rfl⟩ := ry; exact PySem.EqMixed.eq_str_int (fin_bl I q (by simp))
    | str j => obtain ⟨t', rfl⟩ := ry; exact eq_str (fin_bl I q dec_str)
    | _ => exact absurd (show false = true from hs) Bool.false_ne_true
  | byt i =>
    obtain ⟨t, rfl⟩ := rx
    cases y with
    | byt j => obtain ⟨t', rfl⟩ := ry; exact PySem.W.eq_bytes (fin_bl I q dec_byt)
    | _ => exact absurd (show false = true from hs) Bool.false_ne_true
  | _ => cases y <;> exact absurd (show false = true from hs) Bool.false_ne_true
theorem op_ne : OpR X (compareOp .NotEq) rNe := by
  intro pins s σ H x y v u Q I rx ry h
  obtain ⟨hs, q⟩ := h
  cases x with
  | non =>
    cases rx
    cases y with
    | non => cases ry; exact PySem.EqNone.ne_none_none (fin_bl I q (by simp))
    | bl j => cases ry; exact PySem.EqNone.ne_none_bool (fin_bl I q (by simp))
    | int j => obtain ⟨t', rfl⟩ := ry; exact PySem.EqNone.ne_none_int (fin_bl I q (by simp))
    | str j => obtain ⟨t', rfl⟩ := ry; exact PySem.EqNone.ne_none_str (fin_bl I q (by simp))
    | _ => exact absurd (show false = true from hs) Bool.false_ne_true
  | bl i =>
    cases rx
    cases y with
    | non => cases ry; exact PySem.EqNone.ne_bool_none (fin_bl I q (by simp))
    | bl j => cases ry; exact ne_bool (fin_bl I q (congrArg not dec_bl))
    | str j => obtain ⟨t', rfl⟩ := ry; exact PySem.EqMixed.ne_bool_str (fin_bl I q (by simp))
    | _ => exact absurd (show false = true from hs) Bool.false_ne_true
  | int i =>
    obtain ⟨t, rfl⟩ := rx
    cases y with
    | non => cases ry; exact PySem.EqNone.ne_int_none (fin_bl I q (by simp))
    | int j => obtain ⟨t', rfl⟩ := ry; exact ne_int (fin_bl I q (congrArg not dec_int))
    | str j => obtain ⟨t', rfl⟩ := ry; exact PySem.EqMixed.ne_int_str (fin_bl I q (by simp))
    | _ => exact absurd (show false = true from hs) Bool.false_ne_true
  | str i =>
    obtain ⟨t, rfl⟩ := rx
    cases y with
    | non => cases ry; exact PySem.EqNone.ne_str_none (fin_bl I q (by simp))
    | bl j => cases ry; exact PySem.EqMixed.ne_str_bool (fin_bl I q (by simp))
    | int j => obtain ⟨t', rfl⟩ := ry; exact PySem.EqMixed.ne_str_int (fin_bl I q (by simp))
    | str j => obtain ⟨t', rfl⟩ := ry; exact ne_str (fin_bl I q (congrArg not dec_str))
    | _ => exact absurd (show false = true from hs) Bool.false_ne_true
  | byt i =>
    obtain ⟨t, rfl⟩ := rx
    cases y with
    | byt j => obtain ⟨t', rfl⟩ := ry; exact PySem.W.ne_bytes (fin_bl I q (congrArg not dec_byt))
    | _ => exact absurd (show false = true from hs) Bool.false_ne_true
  | _ => cases y <;> exact absurd (show false = true from hs) Bool.false_ne_true

theorem op_lt : OpR X (compareOp .Lt) (rI0 fun i j => .bl (decide (i < j))) := opB0 fun _ _ _ _ _ _ _ q => lt_int q
theorem op_le : OpR X (compareOp .LtE) (rI0 fun i j => .bl (decide (i ≤ j))) := opB0 fun _ _ _ _ _ _ _ q => le_int q
theorem op_gt : OpR X (compareOp .Gt) (rI0 fun i j => .bl (decide (j < i))) := opB0 fun _ _ _ _ _ _ _ q => gt_int q
theorem op_ge : OpR X (compareOp .GtE) (rI0 fun i j => .bl (decide (j ≤ i))) := opB0 fun _ _ _ _ _ _ _ q => ge_int q
theorem nomark (b : Expr) {op : CmpOp} (h : op ≠ .In := by decide) (h2 : op ≠ .NotIn := by decide) : behindInMarks op b = false := by
  have e1 : (op == CmpOp.In) = false := by cases op <;> first | rfl | exact absurd rfl h
  have e2 : (op == CmpOp.NotIn) = false := by cases op <;> first | rfl | exact absurd rfl h2
  cases b <;> simp [behindInMarks, e1, e2]
theorem pe_cmpR {op : CmpOp} {r : R2} (ho : OpR X (compareOp op) r) (ha : PE X a ta) (hb : PE X b tb) (hm : behindInMarks op b = false) : PE X (.Compare a [op] [b] pos) (tOp r ta tb) := by
  intro pins s σ H Q I h
  exact wpAny_Compare1 (binT ha hb I h fun v u s2 x y H2 I2 rx ry q => ho pins s2 σ H2 x y v u Q I2 rx ry q) hm
noncomputable def tTest (t : TE) : TT := fun σ H Q => t σ H fun x H' => ∃ k, x = .bl k ∧ Q k H'
theorem pt_cmpR {op : CmpOp} {r : R2} (ho : OpR X (compareOp op) r) (ha : PE X a ta) (hb : PE X b tb) (hm : behindInMarks op b = false) : PT X (.Compare a [op] [b] pos) (tTest (tOp r ta tb)) := by
  intro pins s σ H Q I h
  refine wpAny_isTrue_Compare1 (thn (ha pins s σ H _ I h) fun v s1 ⟨x, H1, I1, r1, q1⟩ => thn (hb pins s1 σ H1 _ I1 q1) fun u s2 ⟨y, H2, I2, r2, q2⟩ =>
    thn (ho pins s2 σ H2 x y v u _ I2 r1 r2 q2) fun c s3 ⟨z, H3, I3, r3, k, e, q3⟩ => ?_) hm
  subst e
  cases r3
  exact wpAny_truthy_bool ⟨H3, I3, q3⟩
theorem line63 : (sizeLine : Nat) < 2 ^ 63 := by rw [sizeLine_eq]; decide
theorem vals1 {x : V} {us : List Value} (r : Vals [x] us) : ∃ u, us = [u] ∧ RelV x u := by
  cases r with
  | cons r1 r2 => cases r2; exact ⟨_, rfl, r1⟩
theorem vals2 {x y : V} {us : List Value} (r : Vals [x, y] us) : ∃ u w', us = [u, w'] ∧ RelV x u ∧ RelV y w' := by
  cases r with
  | cons r1 r2 =>
    cases r2 with
    | cons r3 r4 => cases r4; exact ⟨_, _, rfl, r1, r3⟩
theorem call_abs : CallR X (.builtin "abs") (fun xs H Q => ∃ i, xs = [.int i] ∧ Q (.int (if i < 0 then -i else i)) H) := by
  intro pins s σ H xs us Q I r h
  obtain ⟨i, rfl, q⟩ := h
  obtain ⟨u, rfl, t, rfl⟩ := vals1 r
  exact call_abs_int fun u tk => ⟨.int (if i < 0 then -i else i), H, I.tok _, ⟨_, rfl⟩, q⟩
theorem call_int1 : CallR X (.type "int") (fun xs H Q => (∃ i, xs = [.int i] ∧ Q (.int i) H) ∨ ∃ k, xs = [.bl k] ∧ Q (.int (if k then 1 else 0)) H) := by
  intro pins s σ H xs us Q I r h
  rcases h with ⟨i, rfl, q⟩ | ⟨k, rfl, q⟩
  · obtain ⟨u, rfl, t, rfl⟩ := vals1 r
    exact call_int_int ⟨.int i, H, I, ⟨_, rfl⟩, q⟩
  · obtain ⟨u, rfl, r1⟩ := vals1 r
    cases r1
    exact call_int_bool ⟨.int (if k then 1 else 0), H, I.tok _, ⟨_, rfl⟩, q⟩
end
end L2

namespace L2
open PySem PySem.Spec PyProof.Rows

structure ObjM (h : Heap) (x dx C : Addr) (mA : Str → Option Value) : Prop where
  obj : h.get? x = some (PySem.W.instObj C dx)
  ns : h.Ns1 dx mA
  ne : dx ≠ x

theorem lookIn_ns {h : Heap} {dx : Addr} {mA : Str → Option Value} (n : h.Ns1 dx mA) : ∃ od, h.get? dx = some od ∧ ∀ name, PySem.W.lookIn name od = some (mA name) := by
  obtain ⟨o, es, ep, ho, hd, hk, _, hm⟩ := n
  refine ⟨o, ho, fun name => ?_⟩
  have e := hm name
  unfold nsFind findBy at e
  rw [← Array.find?_toList] at e
  unfold PySem.W.lookIn
  rw [hd]
  dsimp only
  split
  · rename_i y q
    rw [q] at e
    exact congrArg some e
  · rename_i q
    rw [q] at e
    have a : es.toList.any (·.refKey) = false := by
      rw [List.any_eq_false]
      intro y hy
      obtain ⟨z, t, hkey⟩ := hk y (Array.mem_toList_iff.mp hy)
      simp [DictEntry.refKey, hkey]
    have a' : ¬ es.toList.any (·.refKey) = true := by rw [a]; exact Bool.false_ne_true
    rw [if_neg a']
    exact congrArg some e

theorem ObjM.look {h : Heap} {x dx C : Addr} {mA : Str → Option Value} (I : ObjM h x dx C mA) : ∃ od, PySem.W.InstAt h x (PySem.W.instObj C dx) C (some od) ∧ ∀ name, PySem.W.lookIn name od = some (mA name) :=
  let ⟨od, ho, hl⟩ := lookIn_ns I.ns
  ⟨od, ⟨I.obj, rfl, rfl, ho⟩, hl⟩

section
variable {prog : Program} {w : World} {A : Around} {E : Value → Shared → Prop} {s : Shared} {K : PySem.W.Frag} {x dx C f : Addr} {mA : Str → Option Value} {name : Str} {v : Value}

theorem get_map {expr : Bool} {Q : Value → Shared → Prop} (X : K.In s.heap) (I : ObjM s.heap x dx C mA) (hg : PySem.W.plainGet K C name = true) (hh : PySem.W.hasDictIn K C = true)
    (ha : PySem.W.findIn K (.ref C) name = some none) (hv : mA name = some v) (hv' : PySem.W.handedIn v = true) (h : Q v { s with toks := s.toks + 1 }) :
    wpAny (model prog w) A (getAttr (.ref x) name expr) Q E s := by
  obtain ⟨od, J, hl⟩ := I.look
  exact PySem.W.get_value X J (PySem.W.plainGet_of hg).1 (PySem.W.findObj_own hh ha rfl (by rw [hl, hv])) hv' h

theorem get_meth {pl : Sem Bool} {Q : Value × List Value → Shared → Prop} (X : K.In s.heap) (I : ObjM s.heap x dx C mA) (hg : PySem.W.plainGet K C name = true)
    (hf : PySem.W.findIn K (.ref C) name = some (some (.ref f))) (ht : PySem.W.isFn K (.ref f) = true) (hv : mA name = none) (h : Q (.ref f, [.ref x]) s) :
    wpAny (model prog w) A (getMethod (.ref x) name pl) Q E s := by
  obtain ⟨od, J, hl⟩ := I.look
  exact PySem.W.method_fn X J (PySem.W.plainGet_of hg).1 (PySem.W.plainGet_of hg).2 hf (beq_iff_eq.mp ht) (by show (PySem.W.lookIn name od).map (·.isSome) = some false; rw [hl, hv]; rfl) h

theorem set_map {ns : List Str} {Q : Unit → Shared → Prop} (X : K.In s.heap) (I : ObjM s.heap x dx C mA)
    (hs : PySem.W.findIn K (.ref C) "__setattr__" = some (some (.builtin "object.__setattr__"))) (hp : PySem.W.plainOver K C = true) (ht : PySem.W.takerIn K C name = some none) (hh : PySem.W.hasDictIn K C = true)
    (hw : PySem.Within mA ns) (hsz : ns.length ≤ sizeLine)
    (h : ∀ h', ObjM h' x dx C (fun y => if y = name then some v else mA y) → Heap.SameBut dx s.heap h' → Q () { s with heap := h', toks := s.toks + 2 }) :
    wpAny (model prog w) A (setAttr (.ref x) name v) Q E s := by
  obtain ⟨od, J, hl⟩ := I.look
  refine PySem.W.set_plain X J hs (PySem.W.osa_open (s := { s with toks := s.toks + 1 }) (r := none) X J hp ht fun b => ?_)
  obtain ⟨cd, hc, hd'⟩ := PySem.W.any_some hh
  have hx : s.heap.get? x = some ⟨.ref C, some dx, .plain, #[]⟩ := I.obj
  refine wpAny_bind (wpAny_pure (wpAny_bind (wpAny_bind (wpAny_loadPart hx (wpAny_bind (PySem.W.Looks.here (s := { s with toks := s.toks + 1 }) (PySem.W.looks_clsIn X hc) ?_))))))
  rw [hd']
  refine wpAny_pure (a := some dx) (wpAny_bind (wpAny_pure (wpAny_bind ?_)))
  refine wpAny_nsSet1 (s := { s with toks := s.toks + 1 }) I.ns fun h' hn2 hs2 => ?_
  obtain ⟨oD, esD, epD, hoD, hdD, hcD⟩ := hn2.count (PySem.Within.cons name v hw)
  refine wpAny_bind (wpAny_lookBehind hoD (by rw [hdD]; exact pastItsLine_dict (Nat.le_trans hcD (by rw [List.length_cons]; omega))) ?_)
  exact wpAny_pure (h _ ⟨(hs2.2 _ (Ne.symm I.ne)).trans I.obj, hn2, I.ne⟩ hs2)

theorem make_map {R : Result → Shared → Prop} {vs : List Value} {kw : List (Str × Value)} (X : K.In s.heap) (hm : PySem.W.makesIn K C = true)
    (hi : PySem.W.findIn K (.ref C) "__init__" = some (some (.ref f))) (hf : PySem.W.typeIn K (.ref f) = some (.type "function"))
    (h : codeAny (model prog w) (A.under (.builtin "type.__call__" ⟨.ref C :: vs, kw⟩)) (.call (.ref f) ⟨.ref (s.heap.objs.size + 1) :: vs, kw⟩) (PySem.W.InitBack (s.heap.objs.size + 1) R)
      { s with heap := (s.heap.push PySem.W.emptyDict).push (PySem.W.instObj C s.heap.objs.size) }) :
    codeAny (model prog w) A (.call (.ref C) ⟨vs, kw⟩) R s := by
  obtain ⟨hh, g, d, t, os⟩ := s
  exact PySem.W.make_core (PySem.W.makes_of X hm) (PySem.W.looks_findIn X hi) (fun self => PySem.W.bind_fn X self hf) (.inl rfl) h
end

noncomputable def putF (f : Str) (v : V) : List (Str × V) → List (Str × V)
  | [] => [(f, v)]
  | (g, x) :: r => if g = f then (g, v) :: r else (g, x) :: putF f v r
theorem lookup_putF (f g : Str) (v : V) : ∀ fs : List (Str × V), (putF f v fs).lookup g = if g = f then some v else fs.lookup g
  | [] => by
    show List.lookup g [(f, v)] = _
    by_cases h : g = f
    · have hb : (g == f) = true := beq_iff_eq.mpr h
      simp only [List.lookup, hb, if_pos h]
    · have hb : (g == f) = false := beq_eq_false_iff_ne.mpr h
      simp only [List.lookup, hb, if_neg h]
  | (k, x) :: r => by
    have ih := lookup_putF f g v r
    rw [show putF f v ((k, x) :: r) = (if k = f then (k, v) :: r else (k, x) :: putF f v r) from rfl]
    by_cases hk : k = f
    · rw [if_pos hk]
      by_cases h : g = k
      · have hb : (g == k) = true := beq_iff_eq.mpr h
        simp only [List.lookup, hb, if_pos (h.trans hk)]
      · have hb : (g == k) = false := beq_eq_false_iff_ne.mpr h
        simp only [List.lookup, hb, if_neg (fun e : g = f => h (e.trans hk.symm))]
    · rw [if_neg hk]
      by_cases h : g = k
      · have hb : (g == k) = true := beq_iff_eq.mpr h
        simp only [List.lookup, hb, if_neg (fun e : g = f => hk (h.symm.trans e))]
      · have hb : (g == k) = false := beq_eq_false_iff_ne.mpr h
        simp only [List.lookup, hb]
        exact ih
theorem keys_putF (f : Str) (v : V) : ∀ fs : List (Str × V), f ∈ (putF f v fs).map (·.1) ∧ ∀ g, g ∈ fs.map (·.1) → g ∈ (putF f v fs).map (·.1)
  | [] => ⟨by simp [putF], fun g h => by simp at h⟩
  | (k, x) :: r => by
    obtain ⟨i1, i2⟩ := keys_putF f v r
    rw [show putF f v ((k, x) :: r) = (if k = f then (k, v) :: r else (k, x) :: putF f v r) from rfl]
    by_cases hk : k = f
    · rw [if_pos hk]
      subst hk
      exact ⟨by simp, fun g h => by simpa using h⟩
    · rw [if_neg hk]
      refine ⟨?_, fun g h => ?_⟩
      · rw [List.map_cons]
        exact List.mem_cons_of_mem _ i1
      · rw [List.map_cons] at h ⊢
        rcases List.mem_cons.mp h with e | e
        · exact List.mem_cons.mpr (.inl e)
        · exact List.mem_cons_of_mem _ (i2 g e)
theorem length_putF (f : Str) (v : V) : ∀ fs : List (Str × V), (putF f v fs).length ≤ fs.length + 1
  | [] => by simp [putF]
  | (k, x) :: r => by
    have ih := length_putF f v r
    rw [show putF f v ((k, x) :: r) = (if k = f then (k, v) :: r else (k, x) :: putF f v r) from rfl]
    by_cases hk : k = f
    · rw [if_pos hk, List.length_cons, List.length_cons]; omega
    · rw [if_neg hk, List.length_cons, List.length_cons]; omega

theorem RelO.some_of {v : V} {o : Option Value} (r : RelO (some v) o) : ∃ u, o = some u ∧ RelV v u := by
  cases o with
  | none => exact (show False from r).elim
  | some u => exact ⟨u, rfl, r⟩
theorem RelO.none_of {o : Option Value} (r : RelO none o) : o = none := by
  cases o with
  | none => rfl
  | some u => exact (show False from r).elim
theorem handed_of {v : V} {u : Value} (r : RelV v u) : PySem.W.handedIn u = true := by
  cases v with
  | non => cases (show u = Value.none from r); rfl
  | bl b => cases (show u = Value.bool b from r); rfl
  | int i => obtain ⟨t, e⟩ := (show ∃ t, u = Value.int i t from r); cases e; rfl
  | str x => obtain ⟨t, e⟩ := (show ∃ t, u = Value.str x t from r); cases e; rfl
  | byt b => obtain ⟨t, e⟩ := (show ∃ t, u = Value.bytes b t from r); cases e; rfl
  | flt b => obtain ⟨t, e⟩ := (show ∃ t, u = Value.float b t from r); cases e; rfl
  | ref a => cases (show u = Value.ref a from r); rfl
  | ty n => cases (show u = Value.type n from r); rfl

section
variable {P : Program} {w : World} {H H' : Hp} {h h' : Heap} {a C dx : Addr} {fs fs' : List (Str × V)}
theorem ins_get (hok : HOk P w H h) (e : H a = some (.ins C dx fs)) : ∃ mA, ObjM h a dx C mA ∧ (∀ f, RelO (fs.lookup f) (mA f)) ∧ PySem.Within mA (fs.map (·.1)) ∧ fs.length ≤ 1000 ∧ H dx = some (.own a) := by
  obtain ⟨d, z, ne, ob, mA, n, r, q⟩ := (show ObjOk P w H h a (.ins C dx fs) from hok a _ e)
  exact ⟨mA, ⟨ob, n, ne⟩, r, q, z, d⟩
end

structure Cls (K : PySem.W.Frag) (C : Addr) : Prop where
  pg : PySem.W.plainGet K C Str.empty = true
  hd : PySem.W.hasDictIn K C = true
  po : PySem.W.plainOver K C = true
  sa : PySem.W.findIn K (.ref C) "__setattr__" = some (some (.builtin "object.__setattr__"))
theorem Cls.get {K : PySem.W.Frag} {C : Addr} (c : Cls K C) (f : Str) : PySem.W.plainGet K C f = true := c.pg
noncomputable def NoAttr (K : PySem.W.Frag) (C : Addr) (f : Str) : Prop := PySem.W.findIn K (.ref C) f = some none
theorem NoAttr.taker {K : PySem.W.Frag} {C : Addr} {f : Str} (n : NoAttr K C f) : PySem.W.takerIn K C f = some none := by
  unfold PySem.W.takerIn
  rw [show PySem.W.findIn K (.ref C) f = some none from n]
  rfl
structure Meth (K : PySem.W.Frag) (C : Addr) (m : Str) (f : Addr) : Prop where
  at_ : PySem.W.findIn K (.ref C) m = some (some (.ref f))
  fn : PySem.W.isFn K (.ref f) = true
  kp : PySem.W.keepIn K (.ref f) = true

section
variable {X : Cx} {pins : List (Addr × Obj)} {σ : St} {H : Hp} {s : Shared} {a C dx : Addr} {fs : List (Str × V)} {f : Str} {v : V} {A : Around} {E : Value → Shared → Prop}

theorem getattr_ok {b : Bool} {Q : Value → Shared → Prop} (I : Inv X pins σ H s) (e : H a = some (.ins C dx fs)) (c : Cls X.K C) (n : NoAttr X.K C f) (l : fs.lookup f = some v)
    (h : ∀ u s', Inv X pins σ H s' → RelV v u → Q u s') : wpAny (model X.prog X.w) A (getAttr (.ref a) f b) Q E s := by
  obtain ⟨mA, O, r, _, _, _⟩ := ins_get I.hok e
  obtain ⟨u, hu, ru⟩ := RelO.some_of (v := v) (o := mA f) (by rw [← l]; exact r f)
  exact get_map I.kIn O (c.get f) c.hd n hu (handed_of ru) (h u _ (I.tok _) ru)

theorem getmeth_ok {m : Str} {g : Addr} {pl : Sem Bool} {Q : Value × List Value → Shared → Prop} (I : Inv X pins σ H s) (e : H a = some (.ins C dx fs)) (c : Cls X.K C) (k : Meth X.K C m g) (l : fs.lookup m = none)
    (h : Q (.ref g, [.ref a]) s) : wpAny (model X.prog X.w) A (getMethod (.ref a) m pl) Q E s := by
  obtain ⟨mA, O, r, _, _, _⟩ := ins_get I.hok e
  have hn : mA m = none := RelO.none_of (by rw [← l]; exact r m)
  exact get_meth I.kIn O (c.get m) k.at_ k.fn hn h

theorem setattr_ok {y : V} {u : Value} {Q : Unit → Shared → Prop} (I : Inv X pins σ H s) (e : H a = some (.ins C dx fs)) (c : Cls X.K C) (n : NoAttr X.K C f) (hl : fs.length < 1000) (ry : RelV y u)
    (h : ∀ s', Inv X pins σ (upd H a (.ins C dx (putF f y fs))) s' → Q () s') : wpAny (model X.prog X.w) A (setAttr (.ref a) f u) Q E s := by
  obtain ⟨mA, O, r, wi, _, ho⟩ := ins_get I.hok e
  have hz : (fs.map (·.1)).length ≤ sizeLine := by rw [List.length_map, sizeLine_eq]; omega
  refine set_map I.kIn O c.sa c.po n.taker c.hd wi hz fun h' O' sb => h _ ?_
  have hd : ∃ o, h'.get? dx = some o := let ⟨o, _, _, e', _⟩ := O'.ns; ⟨o, e'⟩
  refine I.write (x := a) (e := dx) (by rw [e]; exact True.intro) (.inr ho) (fun b q hb z => (sb.2 b hb).trans z) hd ?_
  refine ⟨by rw [upd_ne O.ne]; exact ho, ?_, O.ne, O'.obj, _, O'.ns, fun g => ?_, fun g hg => ?_⟩
  · have := length_putF f y fs; omega
  · show RelO ((putF f y fs).lookup g) (if g = f then some u else mA g)
    rw [lookup_putF]
    by_cases q : g = f
    · rw [if_pos q, if_pos q]; exact ry
    · rw [if_neg q, if_neg q]; exact r g
  · by_cases q : g = f
    · rw [q]; exact (keys_putF f y fs).1
    · refine (keys_putF f y fs).2 g (wi g fun z => hg ?_)
      show (if g = f then some u else mA g) = none
      rw [if_neg q]; exact z

theorem Inv.made (I : Inv X pins σ H s) : Inv X pins σ (upd (upd H s.heap.objs.size (.own (s.heap.objs.size + 1))) (s.heap.objs.size + 1) (.ins C s.heap.objs.size []))
    { s with heap := (s.heap.push PySem.W.emptyDict).push (PySem.W.instObj C s.heap.objs.size) } := by
  have e1 : (s.heap.push PySem.W.emptyDict).get? s.heap.objs.size = some PySem.W.emptyDict := Heap.get?_push_size s.heap rfl
  have e2 : ((s.heap.push PySem.W.emptyDict).push (PySem.W.instObj C s.heap.objs.size)).get? (s.heap.objs.size + 1) = some (PySem.W.instObj C s.heap.objs.size) := by
    have := Heap.get?_push_size (s.heap.push PySem.W.emptyDict) (o := PySem.W.instObj C s.heap.objs.size) rfl
    rwa [Heap.size_push] at this
  have e3 : (s.heap.push PySem.W.emptyDict).Ns s.heap.objs.size (fun _ => none) := ⟨PySem.W.emptyDict, #[], _, e1, rfl, (fun e he => absurd he (by simp)), fun _ => rfl⟩
  have I1 := I.laid (a := s.heap.objs.size) (o := .own (s.heap.objs.size + 1)) (h' := s.heap.push PySem.W.emptyDict) (t' := s.toks) (fun b u q => Heap.get?_push_of_some _ q) (Nat.le_refl _) ⟨_, e1⟩
  refine I1.laid (a := s.heap.objs.size + 1) (o := .ins C s.heap.objs.size []) (t' := s.toks) (fun b u q => Heap.get?_push_of_some _ q) (Nat.le_of_eq (Heap.size_push _ _)) ?_
  have ne : s.heap.objs.size ≠ s.heap.objs.size + 1 := Nat.ne_of_lt (Nat.lt_succ_self _)
  refine ⟨by rw [upd_ne ne, upd_same], Nat.zero_le _, ne, e2, fun _ => none, (Heap.Ns1.of_empty e3).at fun o q => Heap.get?_push_of_some _ q, fun _ => True.intro, fun y hy => absurd rfl hy⟩

theorem attr_of {prog : Program} {w : World} {env : Env} {e : Expr} {f : Str} {pos : Pos} {s : Shared} {Q : Value → Shared → Prop} (hb : attributeBase e f env (eval e env) = eval e env)
    (h : wpAny (model prog w) A (eval e env) (fun o s₁ => wpAny (model prog w) A (getAttr o f true) Q E s₁) E s) : wpAny (model prog w) A (eval (.Attribute e f pos) env) Q E s :=
  Attribute_any_ h (by rw [arm_eval_Attribute, hb])
end

noncomputable def tFld (K : PySem.W.Frag) (ta : TE) (f : Str) : TE := fun σ H Q => ta σ H fun x H1 => ∃ a C dx fs v, x = .ref a ∧ H1 a = some (.ins C dx fs) ∧ Cls K C ∧ NoAttr K C f ∧ fs.lookup f = some v ∧ Q v H1
noncomputable def sFld (K : PySem.W.Frag) (ta tv : TE) (f : Str) : TS := fun D σ H => tv σ H fun y H1 => ta σ H1 fun x H2 => ∃ a C dx fs, x = .ref a ∧ H2 a = some (.ins C dx fs) ∧ Cls K C ∧ NoAttr K C f ∧ fs.length < 1000 ∧
  D.nx σ (upd H2 a (.ins C dx (putF f y fs)))
section
variable {X : Cx} {o e value : Expr} {f : Str} {pos pos' tpos : Pos} {ta tv : TE}
theorem pe_fld (he : PE X e ta) (hb : attributeBase e f X.env (eval e X.env) = eval e X.env) : PE X (.Attribute e f pos) (tFld X.K ta f) := by
  intro pins s σ H Q I h
  refine attr_of hb (thn (he pins s σ H _ I h) fun u s1 ⟨x, H1, I1, rx, a, C, dx, fs, v, ex, ea, c, n, l, q⟩ => ?_)
  subst ex
  obtain rfl : u = Value.ref a := rx
  exact getattr_ok I1 ea c n l fun u' s2 I2 ru => ⟨v, H1, I2, ru, q⟩
theorem ps_fld (ha : PE X o ta) (hv : PE X value tv) (hs : swapsWith value (some (.Attribute o f pos')) pos.line X.env = pure false) : PS X (.Assign [.Attribute o f pos'] value pos) (sFld X.K ta tv f) := by
  intro pins s σ H D I h
  refine plainObj_wpAny_Assign_Attribute (thn (hv pins s σ H _ I h) fun u s1 ⟨y, H1, I1, ry, q⟩ => thn (ha pins s1 σ H1 _ I1 q) fun ov s2 ⟨x, H2, I2, rx, a, C, dx, fs, ex, ea, c, n, l, q2⟩ => ?_) hs
  subst ex
  obtain rfl : ov = Value.ref a := rx
  exact setattr_ok I2 ea c n l ry fun s3 I3 => ⟨σ, _, I3, q2⟩
end

section
variable {X : Cx} {pins : List (Addr × Obj)} {σ : St} {H : Hp} {s : Shared} {A : Around} {E : Value → Shared → Prop} {Q : Value → Shared → Prop} {c : Value} {b : Bool}
inductive TyOf (K : PySem.W.Frag) (H : Hp) : V → Value → Prop where
  | non : TyOf K H .non (.type "NoneType")
  | bl (x : Bool) : TyOf K H (.bl x) (.type "bool")
  | int (i : Int) : TyOf K H (.int i) (.type "int")
  | str (x : Str) : TyOf K H (.str x) (.type "str")
  | flt (x : UInt64) : TyOf K H (.flt x) (.type "float")
  | lst {a : Addr} {xs : List V} (e : H a = some (.lst xs)) : TyOf K H (.ref a) (.type "list")
  | frz {a : Addr} {o : Obj} {xs : List V} (e : H a = some (.frz o (.lst xs))) : TyOf K H (.ref a) (.type "list")
  | tup {a : Addr} {xs : List V} (e : H a = some (.tup xs)) : TyOf K H (.ref a) (.type "tuple")
  | dK {a : Addr} {kvs : List (Key × V)} (e : H a = some (.dK kvs)) : TyOf K H (.ref a) (.type "dict")
  | dT {a : Addr} {kvs : List (List Key × V)} (e : H a = some (.dT kvs)) : TyOf K H (.ref a) (.type "dict")
  | ins {a C dx : Addr} {fs : List (Str × V)} (e : H a = some (.ins C dx fs)) (cl : Cls K C) (ha : PySem.W.findIn K (.ref C) "__class__" = some (some (.builtin "object.__class__")))
      (hn : PySem.W.specialIn K (.builtin "object.__class__") "__get__" = some (some (.builtin "getset_descriptor.__get__"))) (htk : PySem.W.takesIn K (.builtin "object.__class__") = some true)
      (hm : PySem.W.mroIn K C (.type "object") = some true) : TyOf K H (.ref a) (.ref C)
theorem isinst_ok {x : V} {u t : Value} (I : Inv X pins σ H s) (rx : RelV x u) (ty : TyOf X.K H x t) (e : PySem.W.kitOne X.K t c = some b) (h : ∀ tk, Q (.bool b) { s with toks := tk }) :
    wpAny (model X.prog X.w) A (call (.builtin "isinstance") [u, c]) Q E s := by
  cases ty with
  | non => cases (show u = Value.none from rx); exact PySem.W.kia_one PySem.W.kitx_none I.kIn True.intro e (fun z => nomatch z) h
  | bl y => cases (show u = Value.bool y from rx); exact PySem.W.kia_one PySem.W.kitx_bool I.kIn True.intro e (fun z => nomatch z) h
  | int i => obtain ⟨t, q⟩ := (show ∃ t, u = Value.int i t from rx); cases q; exact PySem.W.kia_one PySem.W.kitx_int I.kIn True.intro e (fun z => nomatch z) h
  | str y => obtain ⟨t, q⟩ := (show ∃ t, u = Value.str y t from rx); cases q; exact PySem.W.kia_one PySem.W.kitx_str I.kIn True.intro e (fun z => nomatch z) h
  | flt y => obtain ⟨t, q⟩ := (show ∃ t, u = Value.float y t from rx); cases q; exact PySem.W.kia_one PySem.W.kitx_float I.kIn True.intro e (fun z => nomatch z) h
  | @lst a xs ea =>
    cases (show u = Value.ref a from rx)
    obtain ⟨_, _, n, _, h1⟩ := (show ObjOk X.prog X.w H s.heap a (.lst xs) from I.hok a _ ea)
    exact PySem.W.kia_one PySem.W.kitx_list I.kIn ⟨_, h1, rfl⟩ e (fun z => nomatch z) h
  | @frz a ob xs ea =>
    cases (show u = Value.ref a from rx)
    obtain ⟨_, _, _, n, _, h1⟩ := (show ObjOk X.prog X.w H s.heap a (.frz ob (.lst xs)) from I.hok a _ ea)
    exact PySem.W.kia_one PySem.W.kitx_list I.kIn ⟨_, h1, rfl⟩ e (fun z => nomatch z) h
  | @tup a xs ea =>
    cases (show u = Value.ref a from rx)
    obtain ⟨_, _, _, p⟩ := (show ObjOk X.prog X.w H s.heap a (.tup xs) from I.hok a _ ea)
    obtain ⟨o, h1, h2, _⟩ := p
    exact PySem.W.kia_one PySem.W.kitx_tuple I.kIn ⟨o, h1, h2⟩ e (fun z => nomatch z) h
  | @dK a kvs ea =>
    cases (show u = Value.ref a from rx)
    obtain ⟨_, _, vs, _, p⟩ := (show ObjOk X.prog X.w H s.heap a (.dK kvs) from I.hok a _ ea)
    obtain ⟨o, es, ep, h1, h2, _⟩ := p
    exact PySem.W.kia_one PySem.W.kitx_dict I.kIn ⟨o, h1, h2.1⟩ e (fun z => nomatch z) h
  | @dT a kvs ea =>
    cases (show u = Value.ref a from rx)
    obtain ⟨_, _, xs, _, o, es, ep, h1, h2, _⟩ := (show ObjOk X.prog X.w H s.heap a (.dT kvs) from I.hok a _ ea)
    exact PySem.W.kia_one PySem.W.kitx_dict I.kIn ⟨o, h1, h2.1⟩ e (fun z => nomatch z) h
  | @ins a C dx fs ea cl ha hn htk hm =>
    cases (show u = Value.ref a from rx)
    obtain ⟨mA, O, _⟩ := ins_get I.hok ea
    obtain ⟨od, J, _⟩ := O.look
    exact PySem.W.kia_one (PySem.W.kitx_own (cl.get _) cl.hd ha hn htk hm) I.kIn J e (fun z => nomatch z) h
end
end L2

namespace L2
open PySem PySem.Spec PyProof.Rows

structure Room (k : Nat) (A : Around) : Prop where
  hd : A.handled = none
  dp : A.depth + 3 * k + 5 < recursionLimit
  un : A.units + 16 * k + 200 < cLine
theorem Room.mono {j k : Nat} {A : Around} (r : Room k A) (h : j ≤ k) : Room j A := ⟨r.hd, by have := r.dp; omega, by have := r.un; omega⟩
theorem Room.deeper {k : Nat} {A : Around} (r : Room (k + 1) A) (env : Env) : Room k (A.deeper env) :=
  ⟨r.hd, by have := r.dp; show A.depth + 1 + 3 * k + 5 < _; omega, by have := r.un; show A.units + 3 + 16 * k + 200 < _; omega⟩
theorem Room.in1 {k : Nat} {A : Around} (r : Room (k + 1) A) : Room k A.in1 :=
  ⟨r.hd, by have := r.dp; show A.depth + 3 * k + 5 < _; omega, by have := r.un; show A.units + 1 + 16 * k + 200 < _; omega⟩
theorem make_depth {A : Around} {C : Addr} {us : List Value} {kw : List (Str × Value)} : (A.under (.builtin "type.__call__" ⟨.ref C :: us, kw⟩)).depth = A.depth + 1 := by
  first | rfl | simp [Around.under, Code.weight, Code.isCreation, Code.isGuard, Code.isCaller, Code.frames, Code.isFrame, guardIds]
theorem make_units {A : Around} {C : Addr} {us : List Value} {kw : List (Str × Value)} : (A.under (.builtin "type.__call__" ⟨.ref C :: us, kw⟩)).units = A.units + 1 := by
  first | rfl | simp [Around.under, Code.cUnits, Code.frames, Code.isFrame]
theorem Room.make {k : Nat} {A : Around} (r : Room (k + 1) A) (C : Addr) (us : List Value) (kw : List (Str × Value)) : Room k (A.under (.builtin "type.__call__" ⟨.ref C :: us, kw⟩)) :=
  ⟨r.hd, by have := r.dp; rw [make_depth]; omega, by have := r.un; rw [make_units]; omega⟩
theorem Room.depth {k : Nat} {A : Around} (r : Room k A) : A.depth < recursionLimit := by have := r.dp; omega
theorem Room.units {k : Nat} {A : Around} (r : Room k A) : A.units + 64 < cLine := by have := r.un; omega
noncomputable def tNil : TA := fun _ H Q => Q [] H
noncomputable def tCons (ta : TE) (tr : TA) : TA := fun σ H Q => ta σ H fun x H1 => tr σ H1 fun xs H2 => Q (x :: xs) H2
section
variable {X : Cx} {e : Expr} {es : List Expr} {te : TE} {t : TA} {pos : Pos}
theorem pa_nil : PA X [] tNil := fun _ _ _ _ H Q I h => Calls.spliced_nil ⟨[], H, I, .nil, h⟩
theorem pa_cons (ha : PE X e te) (hr : PA X es t) (hs : starEach (e :: es) X.env = (false, eval e X.env) :: starEach es X.env := by rfl) : PA X (e :: es) (tCons te t) := by
  intro pos pins s σ H Q I h
  rw [hs]
  show wpAny _ _ (spliced ((false, eval e X.env) :: backTo pos (starEach es X.env))) _ _ s
  refine Calls.spliced_cons (thn (ha pins s σ H _ I h) fun u s1 ⟨x, H1, I1, r1, q1⟩ => ?_)
  exact thn (hr pos pins s1 σ H1 _ I1 q1) fun us s2 ⟨xs, H2, I2, r2, q2⟩ => ⟨x :: xs, H2, I2, .cons r1 r2, q2⟩

noncomputable def tTup (t : TA) : TE := fun σ H Q => t σ H fun xs H1 => xs.length ≤ sizeLine ∧ ∀ p, H1 p = none → Q (.ref p) (upd H1 p (.tup xs))
noncomputable def tLst (t : TA) : TE := fun σ H Q => t σ H fun xs H1 => xs.length ≤ sizeLine ∧ ∀ p, H1 p = none → Q (.ref p) (upd H1 p (.lst xs))
theorem pe_tup {x1} (h : PA X es t) : PE X (.Tuple es x1 pos) (tTup t) := by
  intro pins s σ H Q I hq
  refine wpAny_Tuple_spliced (thn (h pos pins s σ H _ I hq) fun us s1 ⟨xs, H1, I1, r, z, q⟩ => ⟨by rw [← r.length]; exact z, ?_⟩)
  have hf : H1 s1.heap.objs.size = none := I1.hok.fresh (Nat.le_refl _)
  refine ⟨.ref s1.heap.objs.size, upd H1 s1.heap.objs.size (.tup xs), I1.laid (t' := s1.toks) (fun b u e => Heap.get?_push_of_some _ e) (Nat.le_refl _) ?_, rfl, q _ hf⟩
  exact ⟨z, us, r, ⟨_, Heap.get?_push_size _ rfl, rfl, _, rfl⟩⟩
theorem pe_lst (h : PA X es t) : PE X (.List es pos) (tLst t) := by
  intro pins s σ H Q I hq
  refine wpAny_List_spliced (thn (h pos pins s σ H _ I hq) fun us s1 ⟨xs, H1, I1, r, z, q⟩ => ⟨by rw [← r.length]; exact z, ?_⟩)
  have hf : H1 s1.heap.objs.size = none := I1.hok.fresh (Nat.le_refl _)
  refine ⟨.ref s1.heap.objs.size, upd H1 s1.heap.objs.size (.lst xs), I1.laid (t' := s1.toks) (fun b u e => Heap.get?_push_of_some _ e) (Nat.le_refl _) ?_, rfl, q _ hf⟩
  exact ⟨z, us, 0, r, Heap.get?_push_size _ rfl⟩
end

noncomputable abbrev Sp := List V → Hp → VK → XK → Prop
noncomputable abbrev CXT := List Env → Hp → Shared → XK → Value → Shared → Prop

structure Env0 (P : Program) (w : World) (K : PySem.W.Frag) (mg : Str → Option Value) (base : Heap) (A : Around) (outer : List Env) (s : Shared) (H : Hp) : Prop where
  frames : A.frames = some outer
  mod : Mod K mg base
  bs : ∀ b o, base.get? b = some o → s.heap.get? b = some o ∧ H b = none
  bsz : base.objs.size ≤ s.heap.objs.size
  funs : s.heap.FunFrames base outer
  frf : ∀ b ∈ frs outer, H b = none
  hok : HOk P w H s.heap
  bare : AllBare s.gens
noncomputable def CE (outer : List Env) (P : Program) (w : World) (H : Hp) (s : Shared) (Q : VK) (u : Value) (s' : Shared) : Prop :=
  ∃ v H', s'.os = s.os ∧ AllBare s'.gens ∧ Un (frs outer) [] H H' s.heap s'.heap ∧ HOk P w H' s'.heap ∧ RelV v u ∧ Q v H'
noncomputable def CR (CX : CXT) (outer : List Env) (P : Program) (w : World) (H : Hp) (s : Shared) (Q : VK) (E : XK) (r : Result) (s' : Shared) : Prop :=
  match r with
  | .ok (.ret u) => CE outer P w H s Q u s'
  | .ok _ => False
  | .error e => CX outer H s E e s'
structure FnOk (P : Program) (w : World) (K : PySem.W.Frag) (mg : Str → Option Value) (base : Heap) (CX : CXT) (k : Nat) (f : Addr) (fd : FuncData) (ps : List Str) (sp : Sp) : Prop where
  len : ∀ vs H Q E, sp vs H Q E → vs.length = ps.length
  run : ∀ (A : Around) (outer : List Env) (s : Shared) (H : Hp) (args : Args) (us : List Value) (vs : List V) (Q : VK) (E : XK), Room k A → Env0 P w K mg base A outer s H → BindsTo s fd args (ps.zip us) → Vals vs us → sp vs H Q E →
    codeAny (model P w) A (.call (.ref f) args) (CR CX outer P w H s Q E) s
theorem FnOk.mono {P : Program} {w : World} {K : PySem.W.Frag} {mg : Str → Option Value} {base : Heap} {CX : CXT} {j k : Nat} {f : Addr} {fd : FuncData} {ps : List Str} {sp : Sp} (F : FnOk P w K mg base CX j f fd ps sp) (h : j ≤ k) :
    FnOk P w K mg base CX k f fd ps sp := ⟨F.len, fun A outer s H args us vs Q E hr => F.run A outer s H args us vs Q E (hr.mono h)⟩
theorem FnOk.imp {P : Program} {w : World} {K : PySem.W.Frag} {mg : Str → Option Value} {base : Heap} {CX : CXT} {k : Nat} {f : Addr} {fd : FuncData} {ps : List Str} {sp sp' : Sp} (F : FnOk P w K mg base CX k f fd ps sp)
    (h : ∀ vs H Q E, sp' vs H Q E → sp vs H Q E) : FnOk P w K mg base CX k f fd ps sp' :=
  ⟨fun vs H Q E q => F.len vs H Q E (h _ _ _ _ q), fun A outer s H args us vs Q E hr he hb hv hs => F.run A outer s H args us vs Q E hr he hb hv (h _ _ _ _ hs)⟩

theorem Env0.make {P : Program} {w : World} {K : PySem.W.Frag} {mg : Str → Option Value} {base : Heap} {A : Around} {outer : List Env} {s : Shared} {H : Hp} (e : Env0 P w K mg base A outer s H) (C : Addr) (us : List Value) (kw : List (Str × Value)) :
    Env0 P w K mg base (A.under (.builtin "type.__call__" ⟨.ref C :: us, kw⟩)) outer s H := ⟨by first | exact e.frames | (simpa [Around.under, Code.envs, Code.isFrame, pushEnvs] using e.frames), e.mod, e.bs, e.bsz, e.funs, e.frf, e.hok, e.bare⟩
theorem Env0.in1 {P : Program} {w : World} {K : PySem.W.Frag} {mg : Str → Option Value} {base : Heap} {A : Around} {outer : List Env} {s : Shared} {H : Hp} (e : Env0 P w K mg base A outer s H) :
    Env0 P w K mg base A.in1 outer s H := ⟨e.frames, e.mod, e.bs, e.bsz, e.funs, e.frf, e.hok, e.bare⟩

section
variable {X : Cx} {pins : List (Addr × Obj)} {σ : St} {H : Hp} {s s' : Shared}
theorem Inv.env0 (I : Inv X pins σ H s) : Env0 X.prog X.w X.K X.mg X.base X.A X.stack s H :=
  ⟨I.ok.frames, I.ok.mod, I.bs, Nat.le_trans I.ok.bsz I.sz, I.stack, I.stkFree, I.hok, I.bare⟩
theorem Inv.after {Q : VK} {u : Value} (I : Inv X pins σ H s) (h : CE X.stack X.prog X.w H s Q u s') : EP X pins σ Q u s' := by
  obtain ⟨v, H', os, bare, un, hok, r, q⟩ := h
  obtain ⟨hh, g, d, t, os'⟩ := s'
  obtain rfl : os' = s.os := os
  exact ⟨v, H', I.call (h' := hh) (g' := g) (d' := d) (t' := t) (ch := []) un hok bare (fun b z => absurd z (by simp)), r, q⟩
end

noncomputable def tCall (sp : Sp) (dvs : List V) (E : XK) (t : TA) : TE := fun σ H Q => t σ H fun vs H1 => sp (vs ++ dvs) H1 Q E
noncomputable def tMeth (C : Addr) (m : Str) (sp : Sp) (dvs : List V) (E : XK) (ta : TE) (t : TA) : TE := fun σ H Q => ta σ H fun x H1 => ∃ a dx fs, x = .ref a ∧ H1 a = some (.ins C dx fs) ∧ fs.lookup m = none ∧
  t σ H1 fun vs H2 => sp (x :: (vs ++ dvs)) H2 Q E
noncomputable def tMake (C : Addr) (sp : Sp) (dvs : List V) (E : XK) (t : TA) : TE := fun σ H Q => t σ H fun vs H1 => ∀ x dx, H1 x = none → H1 dx = none → dx ≠ x →
  sp (.ref x :: (vs ++ dvs)) (upd (upd H1 dx (.own x)) x (.ins C dx [])) (fun v H2 => v = .non ∧ Q (.ref x) H2) E

noncomputable def Binds (K : PySem.W.Frag) (fd : FuncData) (ps : List Str) (ds : List Value) : Prop :=
  ∀ (s : Shared) (us : List Value), K.In s.heap → (us ++ ds).length = ps.length → BindsTo s fd ⟨us, []⟩ (ps.zip (us ++ ds))
theorem Binds.all {K : PySem.W.Frag} {fd : FuncData} {ps : List Str} (h : ∀ us : List Value, us.length = ps.length → bindArgs fd ⟨us, []⟩ = pure (ps.zip us)) : Binds K fd ps [] := fun s us _ hl => by
  rw [List.append_nil] at hl ⊢
  exact .of_eq (h us hl)

noncomputable def Passes (CX : CXT) (X : Cx) (E : XK) : Prop := ∀ (pins : List (Addr × Obj)) (σ : St) (H : Hp) (s : Shared) (e : Value) (s' : Shared), Inv X pins σ H s → CX X.stack H s E e s' → X.xe e s'

section
variable {X : Cx} {CX : CXT} {k : Nat} {f C : Addr} {fd : FuncData} {ps : List Str} {sp : Sp} {dvs : List V} {ds : List Value} {E : XK} {x m : Str} {p pos apos : Pos} {e o : Expr} {es : List Expr} {ta : TE} {t : TA}

theorem run_fn {pins : List (Addr × Obj)} {σ : St} {H : Hp} {s : Shared} {Q : VK} {us : List Value} {vs : List V} (F : FnOk X.prog X.w X.K X.mg X.base CX k f fd ps sp) (hr : Room k X.A) (hb : Binds X.K fd ps ds) (hd : Vals dvs ds) (hx : Passes CX X E)
    (I : Inv X pins σ H s) (r : Vals vs us) (h : sp (vs ++ dvs) H Q E) : wpAny (model X.prog X.w) X.A (call (.ref f) us) (EP X pins σ Q) X.xe s := by
  have r2 : Vals (vs ++ dvs) (us ++ ds) := r.append hd
  have hl : (us ++ ds).length = ps.length := by rw [← r2.length]; exact F.len _ _ _ _ h
  refine wpAny_call (codeAny_mono (F.run X.A X.stack s H ⟨us, []⟩ (us ++ ds) (vs ++ dvs) Q E hr I.env0 (hb s us I.kIn hl) r2 h) fun r s' hq => ?_)
  cases r with
  | error e => exact hx pins σ H s e s' I hq
  | ok fl =>
    cases fl with
    | ret u => exact I.after hq
    | next => exact False.elim hq
    | brk => exact False.elim hq
    | cont => exact False.elim hq

theorem pe_call (F : FnOk X.prog X.w X.K X.mg X.base CX k f fd ps sp) (hr : Room k X.A) (hg : Gl X x) (hm : X.mg x = some (.ref f)) (hk : PySem.W.keepIn X.K (.ref f) = true) (hb : Binds X.K fd ps ds) (hd : Vals dvs ds) (hx : Passes CX X E)
    (ha : PA X (e :: es) t) (hdb : (x == ("__debug__" : Str)) = false := by decide) (he : starEach (e :: es) X.env = (false, eval e X.env) :: starEach es X.env := by rfl) (hpl : (backTo pos (starEach es X.env)).any (·.1) = false := by rfl) :
    PE X (.Call (.Name x p) (e :: es) [] pos) (tCall sp dvs E t) := by
  intro pins s σ H Q I h
  refine wpAny_Call_Name_kw (ld_glob I hg hm ?_ hdb)
  refine PySem.W.callWith_K (h₀ := X.base) I.ok.mod.kin hk (thn (ha pos pins s σ H _ I h) fun us s1 ⟨vs, H1, I1, r, q⟩ => ⟨I1.kIn, ?_⟩) he hpl
  exact run_fn F hr hb hd hx I1 r q
theorem pe_meth {pl : Sem Bool} (he : PE X o ta) (c : Cls X.K C) (hm : Meth X.K C m f) (F : FnOk X.prog X.w X.K X.mg X.base CX k f fd ps sp) (hr : Room k X.A) (hb : Binds X.K fd ps ds) (hd : Vals dvs ds) (hx : Passes CX X E) (ha : PA X (e :: es) t)
    (hst : starEach (e :: es) X.env = (false, eval e X.env) :: starEach es X.env := by rfl) (hpl : (backTo pos (starEach es X.env)).any (·.1) = false := by rfl)
    (ht : eval (.Call (.Attribute o m apos) (e :: es) [] pos) X.env = (do
      let ov ← eval o X.env
      standAt apos.atName
      let (f, first) ← holding [ov] (getMethod ov m pl)
      callWith pos f first (backTo pos (starEach (e :: es) X.env)) (backToKw pos (keywordEach [] X.env))) := by rfl) :
    PE X (.Call (.Attribute o m apos) (e :: es) [] pos) (tMeth C m sp dvs E ta t) := by
  intro pins s σ H Q I h
  refine PySem.W.methodCall_KW (pl := pl) (thn (he pins s σ H _ I h) fun u s1 ⟨x, H1, I1, rx, a, dx, fs, ex, ea, l, q⟩ => ?_) ht
  subst ex
  obtain rfl : u = Value.ref a := rx
  refine getmeth_ok I1 ea c hm l ?_
  refine PySem.W.callWith_K (first := [.ref a]) (h₀ := X.base) I.ok.mod.kin hm.kp (thn (ha pos pins s1 σ H1 _ I1 q) fun us s2 ⟨vs, H2, I2, r, q2⟩ => ⟨I2.kIn, ?_⟩) hst hpl
  exact run_fn (us := .ref a :: us) (vs := .ref a :: vs) F hr hb hd hx I2 (.cons rfl r) q2
structure Mk (K : PySem.W.Frag) (C f : Addr) : Prop where
  makes : PySem.W.makesIn K C = true
  init : PySem.W.findIn K (.ref C) "__init__" = some (some (.ref f))
  fn : PySem.W.isFn K (.ref f) = true
  kp : PySem.W.keepIn K (.ref C) = true

theorem run_make {pins : List (Addr × Obj)} {σ : St} {H : Hp} {s : Shared} {Q : VK} {us : List Value} {vs : List V} (M : Mk X.K C f) (F : FnOk X.prog X.w X.K X.mg X.base CX k f fd ps sp) (hr : Room (k + 1) X.A) (hb : Binds X.K fd ps ds) (hd : Vals dvs ds)
    (hx : Passes CX X E) (I : Inv X pins σ H s) (r : Vals vs us)
    (h : ∀ x dx, H x = none → H dx = none → dx ≠ x → sp (.ref x :: (vs ++ dvs)) (upd (upd H dx (.own x)) x (.ins C dx [])) (fun v H2 => v = .non ∧ Q (.ref x) H2) E) :
    wpAny (model X.prog X.w) X.A (call (.ref C) us) (EP X pins σ Q) X.xe s := by
  have hq := h (s.heap.objs.size + 1) s.heap.objs.size (I.hok.fresh (Nat.le_succ _)) (I.hok.fresh (Nat.le_refl _)) (Nat.ne_of_lt (Nat.lt_succ_self _))
  have I2 := Inv.made (C := C) I
  have r2 : Vals (V.ref (s.heap.objs.size + 1) :: (vs ++ dvs)) (Value.ref (s.heap.objs.size + 1) :: (us ++ ds)) := .cons rfl (r.append hd)
  have hl : (Value.ref (s.heap.objs.size + 1) :: us ++ ds).length = ps.length := by
    have e := r2.length
    rw [F.len _ _ _ _ hq] at e
    exact e.symm
  refine wpAny_call (make_map (f := f) I.kIn M.makes M.init (beq_iff_eq.mp M.fn) (codeAny_mono (F.run _ X.stack _ _ ⟨Value.ref (s.heap.objs.size + 1) :: us, []⟩ (Value.ref (s.heap.objs.size + 1) :: (us ++ ds)) _ _ E (hr.make C us [])
    (I2.env0.make C us []) (hb _ (Value.ref (s.heap.objs.size + 1) :: us) I2.kIn hl) r2 hq) fun r s' hq' => ?_))
  cases r with
  | error e => exact hx pins σ _ _ e s' I2 hq'
  | ok fl =>
    cases fl with
    | ret u =>
      obtain ⟨v, H', I3, rv, ev, q3⟩ := I2.after hq'
      subst ev
      exact ⟨rv, ⟨V.ref (s.heap.objs.size + 1), H', I3, rfl, q3⟩⟩
    | next => exact False.elim hq'
    | brk => exact False.elim hq'
    | cont => exact False.elim hq'
theorem pe_make (M : Mk X.K C f) (F : FnOk X.prog X.w X.K X.mg X.base CX k f fd ps sp) (hr : Room (k + 1) X.A) (hg : Gl X x) (hm : X.mg x = some (.ref C)) (hb : Binds X.K fd ps ds) (hd : Vals dvs ds) (hx : Passes CX X E)
    (ha : PA X (e :: es) t) (hdb : (x == ("__debug__" : Str)) = false := by decide) (he : starEach (e :: es) X.env = (false, eval e X.env) :: starEach es X.env := by rfl) (hpl : (backTo pos (starEach es X.env)).any (·.1) = false := by rfl) :
    PE X (.Call (.Name x p) (e :: es) [] pos) (tMake C sp dvs E t) := by
  intro pins s σ H Q I h
  refine wpAny_Call_Name_kw (ld_glob I hg hm ?_ hdb)
  refine PySem.W.callWith_K (h₀ := X.base) I.ok.mod.kin M.kp (thn (ha pos pins s σ H _ I h) fun us s1 ⟨vs, H1, I1, r, q⟩ => ⟨I1.kIn, ?_⟩) he hpl
  exact run_make M F hr hb hd hx I1 r q
end

section
variable {X : Cx} {CX : CXT} {k : Nat} {f C : Addr} {fd : FuncData} {ps ks : List Str} {sp : Sp} {E : XK} {x m : Str} {p pos apos kpos : Pos} {e o : Expr} {es : List Expr} {kws : List Keyword} {te ta : TE} {t tk : TA} {nm : Option Str}
variable {g : List Value → List Value → List Value} {gV : List V → List V → List V}
end

structure FnScope (N P : List Str) (sc : Scope) : Prop where
  kind : sc.kind = .function
  co : sc.isCoroutine = false
  gen : sc.isGenerator = false
  nd : N.Nodup
  pre : N.take P.length = P
  par : ∀ x ∈ P, sc.names.lookup x = some .local ∨ sc.names.lookup x = some .cell
  nofree : ∀ y ∈ sc.names, y.2 ≠ .free

theorem bindL_out {kindOf : Str → Option NameKind} {x : Str} : ∀ {binds : List (Str × Value)} {m : Str → Option Value}, (∀ v, (x, v) ∉ binds) → bindL kindOf binds m x = m x
  | [], _, _ => rfl
  | (n, v) :: r, m, h => by
    unfold bindL
    rw [bindL_out fun w hw => h w (List.mem_cons_of_mem _ hw)]
    split
    · have : x ≠ n := by rintro rfl; exact h v List.mem_cons_self
      simp [this]
    · rfl
theorem bindC_out {kindOf : Str → Option NameKind} {x : Str} : ∀ {binds : List (Str × Value)} {m : Str → Option Value}, (∀ v, (x, v) ∉ binds) → bindC kindOf binds m x = m x
  | [], _, _ => rfl
  | (n, v) :: r, m, h => by
    unfold bindC
    rw [bindC_out fun w hw => h w (List.mem_cons_of_mem _ hw)]
    split
    · rfl
    · have : x ≠ n := by rintro rfl; exact h v List.mem_cons_self
      simp [this]
theorem bindL_get {kindOf : Str → Option NameKind} {x : Str} {v : Value} : ∀ {P : List Str} {vs : List Value} {i : Nat} {m : Str → Option Value}, P.Nodup → P[i]? = some x → vs[i]? = some v → kindOf x = some .local →
    bindL kindOf (P.zip vs) m x = some v
  | [], _, _, _, _, h, _, _ => by simp at h
  | _ :: _, [], _, _, _, _, h, _ => by simp at h
  | p :: P, w :: vs, 0, m, nd, h1, h2, hk => by
    simp at h1 h2; subst h1; subst h2
    show bindL kindOf ((p, w) :: P.zip vs) m p = _
    unfold bindL
    rw [bindL_out fun v hv => (List.nodup_cons.mp nd).1 (List.of_mem_zip hv).1, if_pos hk]
    simp
  | p :: P, w :: vs, i + 1, m, nd, h1, h2, hk => by
    show bindL kindOf ((p, w) :: P.zip vs) m x = _
    unfold bindL
    exact bindL_get (i := i) (List.nodup_cons.mp nd).2 (by simpa using h1) (by simpa using h2) hk
theorem bindC_get {kindOf : Str → Option NameKind} {x : Str} {v : Value} : ∀ {P : List Str} {vs : List Value} {i : Nat} {m : Str → Option Value}, P.Nodup → P[i]? = some x → vs[i]? = some v → kindOf x ≠ some .local →
    bindC kindOf (P.zip vs) m x = some v
  | [], _, _, _, _, h, _, _ => by simp at h
  | _ :: _, [], _, _, _, _, h, _ => by simp at h
  | p :: P, w :: vs, 0, m, nd, h1, h2, hk => by
    simp at h1 h2; subst h1; subst h2
    show bindC kindOf ((p, w) :: P.zip vs) m p = _
    unfold bindC
    rw [bindC_out fun v hv => (List.nodup_cons.mp nd).1 (List.of_mem_zip hv).1, if_neg hk]
    simp
  | p :: P, w :: vs, i + 1, m, nd, h1, h2, hk => by
    show bindC kindOf ((p, w) :: P.zip vs) m x = _
    unfold bindC
    exact bindC_get (i := i) (List.nodup_cons.mp nd).2 (by simpa using h1) (by simpa using h2) hk

noncomputable def start (N : List Str) (vs : List V) : St := vs.map some ++ List.replicate (N.length - vs.length) none

noncomputable def cxOf (CX : CXT) (P : Program) (w : World) (K : PySem.W.Frag) (mg : Str → Option Value) (base : Heap) (N : List Str) (qual : Str) (scope : Scope) (f : Addr) (cd : Value) (A : Around) (outer : List Env) (s : Shared) (H : Hp) (E : XK) : Cx where
  prog := P
  w := w
  K := K
  mg := mg
  base := base
  A := A.deeper (envOfC qual scope s.heap.objs.size f cd)
  N := N
  s₀ := s
  H₀ := H
  env := envOfC qual scope s.heap.objs.size f cd
  outer := outer
  stack := envOfC qual scope s.heap.objs.size f cd :: outer
  ex := []
  calm := true
  fn := fun _ => true
  pn := []
  xe := fun e s' => wpAny (model P w) (A.deeper (envOfC qual scope s.heap.objs.size f cd)) (leaving (envOfC qual scope s.heap.objs.size f cd) e) (fun _ s'' => CX outer H s E e s'') (fun e' s'' => CX outer H s E e' s'') s'

theorem cell_has {sc : Scope} {n : Nat} {x : Str} (h : sc.names.lookup x = some .cell) : ∃ c, (cellsFrom n sc.names []).lookup x = some c := by
  have q := PySem.W.cellsFrom_some sc.names n [] (.inl h)
  exact Option.isSome_iff_exists.mp q

theorem inv_start {CX : CXT} {P : Program} {w : World} {K : PySem.W.Frag} {mg : Str → Option Value} {base : Heap} {N ps : List Str} {qual : Str} {scope : Scope} {f : Addr} {cd : Value} {A : Around} {outer : List Env} {s s1 : Shared} {H : Hp} {E : XK} {us : List Value} {vs : List V}
    (S : FnScope N ps scope) (hd : A.handled = none) (e0 : Env0 P w K mg base A outer s H) (hl : vs.length = ps.length) (r : Vals vs us)
    (x : InCallC s s.heap.objs.size (bindL (envOfC qual scope s.heap.objs.size f cd).kindOf (ps.zip us) fun _ => none) (cellsFrom (s.heap.objs.size + 1) scope.names []) (bindC (envOfC qual scope s.heap.objs.size f cd).kindOf (ps.zip us) fun _ => none) s1) :
    Inv (cxOf CX P w K mg base N qual scope f cd A outer s H E) [] (start N vs) H s1 := by
  have hpl : ps.length ≤ N.length := by have := congrArg List.length S.pre; rw [List.length_take] at this; omega
  obtain ⟨h1, tk, rfl, hk⟩ := x.done
  have noA : ∀ b : Addr, b ∉ (cxOf CX P w K mg base N qual scope f cd A outer s H E).ex := fun b z => absurd (show b ∈ ([] : List Addr) from z) (by simp)
  refine ⟨⟨e0.mod, S.kind, rfl, rfl, Nat.le_refl _, fun y z c h1 h2 => ?_, fun y hy => ?_, fun y c _ h => ?_, fun _ => hd, Around.frames_deeper e0.frames, .inr ⟨rfl, rfl⟩, fun b z => absurd z (noA b), e0.bs, e0.bsz, fun b _ _ => noA b, fun b z => absurd z (noA b), e0.funs, e0.frf⟩,
    rfl, e0.bare, Un.kept hk, ⟨_, x.toInCall.ns, fun i y v h1 h2 h3 => ?_⟩, fun y c h => ⟨_, x.cell y c h⟩, e0.hok.fresh (Nat.le_refl _), fun y c h => ?_, fun p hp => absurd (show p ∈ ([] : List (Addr × Obj)) from hp) (by simp), e0.hok.kept hk, ?_⟩
  · exact name_of_addr x.apart (PySem.mem_of_lookup h1) (PySem.mem_of_lookup h2)
  · have hy : scope.names.lookup y = some .cell ∨ scope.names.lookup y = some .free := hy
    rcases hy with hy | hy
    · exact cell_has hy
    · exact absurd rfl (S.nofree _ (PySem.mem_of_lookup hy))
  · exact Nat.le_of_lt (x.above y c (PySem.mem_of_lookup h))
  · have hi : i < vs.length := by
      unfold start at h2
      by_cases hi : i < vs.length
      · exact hi
      · rw [List.getElem?_append_right (by simpa using hi)] at h2
        rw [List.getElem?_replicate] at h2
        split at h2 <;> cases h2
    have ha : vs[i]? = some v := by
      unfold start at h2
      rw [List.getElem?_append_left (by simpa using hi), List.getElem?_map] at h2
      cases e : vs[i]? with
      | none => rw [e] at h2; cases h2
      | some a => rw [e] at h2; cases h2; rfl
    obtain ⟨u, hu, rv⟩ := r.get ha
    have hp : ps[i]? = some y := by
      rw [← S.pre, List.getElem?_take_of_lt (by omega)]; exact h1
    have ndP : ps.Nodup := by rw [← S.pre]; exact S.nd.sublist (List.take_sublist _ _)
    refine ⟨u, rv, ?_⟩
    rcases S.par y (List.mem_of_getElem? hp) with k | k
    · exact .inl ⟨k, bindL_get ndP hp hu k⟩
    · obtain ⟨c, e⟩ := cell_has (n := s.heap.objs.size + 1) k
      refine .inr ⟨.inl k, c, e, ?_⟩
      have q := x.cell y c e
      rw [bindC_get ndP hp hu (by show scope.names.lookup y ≠ _; rw [k]; decide)] at q
      exact q
  · exact e0.hok.fresh (Nat.le_of_lt (x.above y c (PySem.mem_of_lookup h)))
  · unfold start
    show _ = N.length
    rw [List.length_append, List.length_map, List.length_replicate]
    omega

theorem fn_of {CX : CXT} {P : Program} {w : World} {K : PySem.W.Frag} {mg : Str → Option Value} {base : Heap} {k : Nat} {f : Addr} {name qual : Str} {params : Arguments} {body : List Stmt} {scope : Scope} {dV kV doc pm cdv ct oc : Value} {an od : Option Addr}
    {osl : Array (Option Value)} {N ps : List Str} {sp : Sp} (lk : K.lookup f = some ⟨oc, od, .func (PySem.W.fnOf name qual params body scope dV kV doc pm an cdv ct), osl⟩) (hcd : PySem.W.codeIn K cdv qual = true) (S : FnScope N ps scope)
    (len : ∀ vs H Q E, sp vs H Q E → vs.length = ps.length)
    (hbody : ∀ (A : Around) (outer : List Env) (s : Shared) (H : Hp) (vs : List V) (Q : VK) (E : XK), Room k (A.deeper (envOfC qual scope s.heap.objs.size f cdv)) → sp vs H Q E →
      ∃ t, PSs (cxOf CX P w K mg base N qual scope f cdv A outer s H E) body t ∧ t { nx := fun _ H' => Q .non H', rt := Q } (start N vs) H) :
    FnOk P w K mg base CX (k + 1) f (PySem.W.fnOf name qual params body scope dV kV doc pm an cdv ct) ps sp := by
  refine ⟨len, fun A outer s H args us vs Q E hr e0 hb r hsp => ?_⟩
  have hl := len _ _ _ _ hsp
  have KX : K.In s.heap := e0.mod.kin.keeps fun b o e => (e0.bs b o e).1
  have lim : s.heap.NoLimit := e0.mod.nolimit.keeps fun b o e => (e0.bs b o e).1
  have hkind : ∀ y ∈ ps.zip us, scope.names.lookup y.1 = some .local ∨ (scope.names.lookup y.1 = some .cell ∧ ((cellsFrom (s.heap.objs.size + 1) scope.names []).lookup y.1).isSome = true) := fun ⟨n, v⟩ hy => by
    rcases S.par n (List.of_mem_zip hy).1 with q | q
    · exact .inl q
    · exact .inr ⟨q, PySem.W.cellsFrom_some _ _ _ (.inl q)⟩
  refine codeAny_call_function hr.depth (KX _ _ lk) rfl S.co S.gen rfl (PySem.W.codeRec_of KX hcd) (hb _ _ _ _ ?_)
  refine wpAny_newFunctionEnv_cells S.kind hkind fun env he s1 x => ?_
  subst he
  refine ⟨lim.keeps x.toInCall.keep, codeAny_func ?_⟩
  obtain ⟨t, ht, hq⟩ := hbody A outer s H vs Q E (hr.deeper _) hsp
  have I : Inv (cxOf CX P w K mg base N qual scope f cdv A outer s H E) [] (start N vs) H s1 := inv_start S hr.hd e0 hl r x
  refine wpAny_mono (ht [] s1 (start N vs) H _ I hq) (fun fl s' hs => ?_) fun e s' hs => hs
  have fin : ∀ {σ' : St} {H' : Hp} {v : V} {u : Value}, Inv (cxOf CX P w K mg base N qual scope f cdv A outer s H E) [] σ' H' s' → RelV v u → Q v H' → CE outer P w H s Q u s' :=
    fun {σ' H' v u} J rv q => ⟨v, H', J.os, J.bare, J.base, J.hok, rv, q⟩
  cases fl with
  | ret u =>
    obtain ⟨v, σ', H', J, rv, q⟩ := hs
    exact fin J rv q
  | next =>
    obtain ⟨σ', H', J, q⟩ := hs
    exact fin (v := V.non) (u := Value.none) J rfl q
  | brk =>
    obtain ⟨_, _, _, q⟩ := hs
    exact False.elim q
  | cont =>
    obtain ⟨_, _, _, q⟩ := hs
    exact False.elim q
end L2

namespace L2
open PySem PySem.Spec PyProof.Rows
section
variable {X : Cx} {x : Str} {p pos : Pos} {e : Expr} {es : List Expr} {t : TA} {id T : String} {r : List V → Hp → VK → Prop}

noncomputable def tCB (r : List V → Hp → VK → Prop) (t : TA) : TE := fun σ H Q => t σ H fun vs H1 => r vs H1 Q
theorem pe_callB (hc : CallR X (.builtin id) r) (hg : Gl X x) (hm : X.mg x = none) (hv : bootBuiltins x = some (.builtin id)) (ha : PA X (e :: es) t) (hn : x ≠ "__name__" := by decide) (hdb : (x == ("__debug__" : Str)) = false := by decide)
    (he : starEach (e :: es) X.env = (false, eval e X.env) :: starEach es X.env := by rfl) (hpl : (backTo pos (starEach es X.env)).any (·.1) = false := by rfl) : PE X (.Call (.Name x p) (e :: es) [] pos) (tCB r t) := by
  intro pins s σ H Q I h
  refine wpAny_Call_Name_kw (ld_blt I hg hm hv ?_ hn hdb)
  exact PyProof.Rows.callWith_builtin1 (thn (ha pos pins s σ H _ I h) fun us s1 ⟨vs, H1, I1, r1, q1⟩ => hc pins s1 σ H1 vs us Q I1 r1 q1) he hpl
theorem pe_callTy (hc : CallR X (.type T) r) (hg : Gl X x) (hm : X.mg x = none) (hv : bootBuiltins x = some (.type T)) (ha : PA X (e :: es) t) (hn : x ≠ "__name__" := by decide) (hdb : (x == ("__debug__" : Str)) = false := by decide)
    (he : starEach (e :: es) X.env = (false, eval e X.env) :: starEach es X.env := by rfl) (hpl : (backTo pos (starEach es X.env)).any (·.1) = false := by rfl) : PE X (.Call (.Name x p) (e :: es) [] pos) (tCB r t) := by
  intro pins s σ H Q I h
  refine wpAny_Call_Name_kw (ld_blt I hg hm hv ?_ hn hdb)
  exact PyProof.Rows.callWith_type1 (thn (ha pos pins s σ H _ I h) fun us s1 ⟨vs, H1, I1, r1, q1⟩ => hc pins s1 σ H1 vs us Q I1 r1 q1) he hpl
end
end L2

namespace HT
open PySem PyProof.Rows

section
open PySem.SeqAt
open PySem.AutoSeq1 (wpAny_loadPart')
open PySem.MeetsSeq PySem.MeetsSeq2 PySem.MeetsSeq3

end

section
variable {prog : Program} {w : World} {A : Around} {E : Value → Shared → Prop} {s : Shared}

theorem cat_tup {t b : Addr} {vs ws : List Value} {Q : Value → Shared → Prop} (ht : IsTup s.heap t vs.toArray) (hb : IsTup s.heap b ws.toArray) (hv : vs ≠ [])
    (h1 : ws = [] → Q (.ref t) s) (h2 : ws ≠ [] → Q (.ref s.heap.objs.size) { s with heap := s.heap.push { cls := .type "tuple", data := .seq (vs ++ ws).toArray } })
    (hsz : vs.length + ws.length ≤ sizeLine) : wpAny (model prog w) A (binaryOp .Add (.ref t) (.ref b)) Q E s := by
  obtain ⟨⟨cls, dd, data, sl⟩, ho, hc, n, hd⟩ := id ht
  obtain ⟨⟨cls2, dd2, data2, sl2⟩, ho2, hc2, n2, hd2⟩ := id hb
  simp only at hc hd hc2 hd2
  subst hc hd hc2 hd2
  have e : vs.toArray ++ ws.toArray = (vs ++ ws).toArray := by simp
  by_cases hw : ws = []
  · exact concat_meets ⟨_, ho, rfl⟩ ⟨_, ho2, rfl⟩ noFill_tuple_add seq_tuple_add PySem.F.slot_tuple_add PySem.F.entry_tuple_add (PySem.F.args_tuple_add_2 _ _)
      (tuple_addW1 t b vs.toArray ws.toArray n n2 dd dd2 sl sl2 (by simpa using hv) (by simp [hw])) ⟨ho, ho2, h1 hw⟩
  · refine concat_meets ⟨_, ho, rfl⟩ ⟨_, ho2, rfl⟩ noFill_tuple_add seq_tuple_add PySem.F.slot_tuple_add PySem.F.entry_tuple_add (PySem.F.args_tuple_add_2 _ _)
      (tuple_addW2 t b vs.toArray ws.toArray n n2 dd dd2 sl sl2 (by simpa using hv) (by simpa using hw) (by rw [List.size_toArray, List.size_toArray]; exact hsz)) ⟨ho, ho2, ?_⟩
    rw [e]
    exact h2 hw

noncomputable def sIx (n d : Nat) : Option Int → Nat
  | none => d
  | some v => if v < 0 then (v + (n : Int)).toNat else min v.toNat n
theorem sIx_none (n d : Nat) : sIx n d none = d := rfl
theorem sIx_nat (n d k : Nat) : sIx n d (some (k : Int)) = min k n := by
  show (if (k : Int) < 0 then ((k : Int) + (n : Int)).toNat else min (k : Int).toNat n) = min k n
  rw [if_neg (by omega), Int.toNat_natCast]
theorem sIx_le (n d : Nat) (hd : d ≤ n) (o : Option Int) : sIx n d o ≤ n := by
  cases o with
  | none => exact hd
  | some v =>
    show (if v < 0 then (v + (n : Int)).toNat else min v.toNat n) ≤ n
    by_cases hv : v < 0
    · rw [if_pos hv]; omega
    · rw [if_neg hv]; exact Nat.min_le_right _ _
theorem clip_eq (v : Int) (n d : Nat) : (if v < 0 then max (v + (n : Int)) 0 else min v (n : Int)) = ((sIx n d (some v) : Nat) : Int) := by
  show (if v < 0 then max (v + (n : Int)) 0 else min v (n : Int)) = (((if v < 0 then (v + (n : Int)).toNat else min v.toNat n) : Nat) : Int)
  by_cases hv : v < 0
  · simp only [if_pos hv]; omega
  · simp only [if_neg hv]; omega
theorem adjust_gen (lo hi : Option Int) (n : Nat) : Builtin.Slice.sliceAdjust lo hi 1 (n : Int) = (((sIx n 0 lo : Nat) : Int), ((sIx n n hi : Nat) : Int)) := by
  have h1 : ¬ ((1 : Int) < 0) := by omega
  unfold Builtin.Slice.sliceAdjust
  simp only [h1, if_false]
  refine Prod.ext ?_ ?_
  · cases lo with
    | none => rfl
    | some v => exact clip_eq v n 0
  · cases hi with
    | none => rfl
    | some v => exact clip_eq v n n
theorem places_gen (i j : Nat) : Builtin.Slice.slicePlaces (i : Int) (j : Int) 1 = j - i := by
  unfold Builtin.Slice.slicePlaces
  have h1 : (1 : Int) > 0 := by omega
  simp only [h1, if_true, Int.ediv_one]
  split <;> omega
theorem slicePart_ {v : Value} {o : Option Int} {Q : Option Int → Shared → Prop} (p : IsPart v o) (h : Q o s) : wpAny (model prog w) A (Builtin.Slice.slicePartIndex v) Q E s := by
  cases p with
  | none => exact slicePart_none h
  | int i t => exact slicePart_int h
theorem sliceApplied_gen {sl : Addr} {vl vu : Value} {lo hi : Option Int} {n : Nat} {Q : Int × Int × Nat → Shared → Prop} (hs : s.heap.IsSliceOf sl vl vu .none) (pl : IsPart vl lo) (pu : IsPart vu hi)
    (h : Q (((sIx n 0 lo : Nat) : Int), 1, sIx n n hi - sIx n 0 lo) s) : wpAny (model prog w) A (Builtin.Slice.sliceApplied (.ref sl) (pure (n : Int))) Q E s := by
  obtain ⟨os, hos, hcs, hds⟩ := id hs
  unfold Builtin.Slice.sliceApplied Builtin.Slice.sliceFields
  refine wpAny_bind (wpAny_bind (wpAny_field hos hds (x := vl) rfl (wpAny_bind (wpAny_field hos hds (x := vu) rfl (wpAny_bind (wpAny_field hos hds (x := .none) rfl (wpAny_pure ?_)))))))
  refine wpAny_bind (slicePart_none ?_)
  show wpAny _ _ (if ((1 : Int) == 0) = true then _ else _) _ _ s
  rw [if_neg (by decide)]
  refine wpAny_bind (slicePart_ pl (wpAny_bind (slicePart_ pu (wpAny_bind (wpAny_pure ?_)))))
  show wpAny _ _ (match Builtin.Slice.sliceAdjust lo hi 1 (n : Int) with | (lo, hi) => pure (lo, (1 : Int), Builtin.Slice.slicePlaces lo hi 1)) _ _ s
  rw [adjust_gen lo hi n]
  show wpAny _ _ (pure (((sIx n 0 lo : Nat) : Int), (1 : Int), Builtin.Slice.slicePlaces ((sIx n 0 lo : Nat) : Int) ((sIx n n hi : Nat) : Int) 1)) _ _ s
  rw [places_gen]
  exact wpAny_pure h
theorem pick_gen (xs : Array Value) (i k : Nat) : ((List.range k).filterMap fun (m : Nat) => xs[((i : Int) + (m : Int) * 1).toNat]?).toArray = ((xs.toList.drop i).take k).toArray := by
  have e : (fun (m : Nat) => xs[((i : Int) + (m : Int) * 1).toNat]?) = fun m => xs[i + m]? := by
    funext m
    have : ((i : Int) + (m : Int) * 1).toNat = i + m := by omega
    rw [this]
  rw [e]
  have := pick_run xs i k
  rw [List.filterMap_map] at this
  have e2 : ((fun x => xs[x]?) ∘ fun x => i + x) = fun m => xs[i + m]? := rfl
  rw [e2] at this
  rw [this]

theorem getItem_tuple_cut {t sl : Addr} {items : Array Value} {vl vu : Value} {lo hi : Option Int} {Q : Value → Shared → Prop} (ht : IsTup s.heap t items) (hs : s.heap.IsSliceOf sl vl vu .none) (pl : IsPart vl lo) (pu : IsPart vu hi)
    (hw : ¬ (sIx items.size 0 lo = 0 ∧ sIx items.size items.size hi = items.size))
    (h : Q (.ref s.heap.objs.size) { s with heap := s.heap.push { cls := .type "tuple", data := .seq ((items.toList.drop (sIx items.size 0 lo)).take (sIx items.size items.size hi - sIx items.size 0 lo)).toArray } })
    (hsz : items.size ≤ sizeLine) : wpAny (model prog w) A (getItem (.ref t) (.ref sl)) Q E s := by
  have htake : sizeOk (.seq ((items.toList.drop (sIx items.size 0 lo)).take (sIx items.size items.size hi - sIx items.size 0 lo)).toArray) := by
    show ((items.toList.drop (sIx items.size 0 lo)).take (sIx items.size items.size hi - sIx items.size 0 lo)).toArray.size ≤ sizeLine
    rw [List.size_toArray, List.length_take, List.length_drop, Array.length_toList]
    omega
  have hj : sIx items.size items.size hi ≤ items.size := sIx_le _ _ (Nat.le_refl _) hi
  obtain ⟨os, hos, hcs, hds⟩ := id hs
  have hTs : s.TypeIs (.ref sl) "slice" := ⟨os, hos, hcs⟩
  unfold getItem
  try with_reducible refine wpAny_holding ?_
  first | refine wpAny_bind (wpAny_pure ?_) | skip
  refine wpAny_bind (wpAny_sequenceKey ht.typeIs (by decide) ?_)
  refine wpAny_bind (wpAny_callSpecial?_slot (name := Str.ofString "__getitem__") ht.typeIs PyProof.Rows.slot_tuple_getitem
    (wpAny_call_entry PyProof.Rows.slot_tuple_getitem ht.typeIs entry_tuple_getitem ?_ (args_tuple_getitem _ _)))
  show wpAny _ _ (Builtin.Tuple.tupleItemsOf (.ref t) >>= _) _ _ s
  refine wpAny_bind (tupleItemsOf_ ht ?_)
  refine wpAny_bind (wpAny_typeOf hTs ?_)
  rw [if_pos (by decide)]
  refine wpAny_bind (sliceApplied_gen hs pl pu ?_)
  have hno : ¬ ((((sIx items.size 0 lo : Nat) : Int) == 0 && (1 : Int) == 1 && (sIx items.size items.size hi - sIx items.size 0 lo) == items.size) = true) := by
    intro q
    rw [Bool.and_eq_true, Bool.and_eq_true] at q
    have q1 : ((sIx items.size 0 lo : Nat) : Int) = 0 := eq_of_beq q.1.1
    have q2 : sIx items.size items.size hi - sIx items.size 0 lo = items.size := eq_of_beq q.2
    exact hw ⟨by omega, by omega⟩
  show wpAny _ _ (if (((sIx items.size 0 lo : Nat) : Int) == 0 && (1 : Int) == 1 && (sIx items.size items.size hi - sIx items.size 0 lo) == items.size) = true then _ else _) _ _ s
  rw [if_neg hno, pick_gen]
  first
    | exact wpAny_bind (m := Builtin.Tuple.tupleExact _) (wpAny_newObj_type (wpAny_pure ⟨_, rfl, wpAny_pure h⟩) htake)
    | exact wpAny_bind (m := Builtin.Tuple.tupleExact _) (wpAny_newObj_type (wpAny_bind (wpAny_pure (wpAny_pure ⟨_, rfl, wpAny_pure h⟩))) htake)
    | exact wpAny_bind (wpAny_bind (m := Builtin.Tuple.tupleExact _) (wpAny_newObj_type (wpAny_pure (wpAny_pure ⟨_, rfl, wpAny_pure h⟩)) htake))
    | exact wpAny_bind (wpAny_bind (m := Builtin.Tuple.tupleExact _) (wpAny_newObj_type (wpAny_pure ⟨_, rfl, wpAny_pure h⟩) htake))
end
end HT

namespace L2
open PySem PySem.Spec PyProof.Rows

noncomputable abbrev TO := St → Hp → (Option Int → Hp → Prop) → Prop
noncomputable def PO (X : Cx) (e : Option Expr) (t : TO) : Prop :=
  ∀ (pins : List (Addr × Obj)) (s : Shared) (σ : St) (H : Hp) (Q : Option Int → Hp → Prop), Inv X pins σ H s → t σ H Q →
    wpAny (model X.prog X.w) X.A (evalPart e X.env) (fun u s' => ∃ o H', Inv X pins σ H' s' ∧ IsPart u o ∧ Q o H') X.xe s
noncomputable def tNoPart : TO := fun _ H Q => Q none H
noncomputable def tPart (t : TE) : TO := fun σ H Q => t σ H fun x H1 => ∃ i, x = .int i ∧ Q (some i) H1

section
variable {X : Cx} {e : Expr} {te : TE} {lo hi : Option Expr} {tl th : TO} {pos p2 : Pos}

theorem po_none : PO X none tNoPart := by
  intro pins s σ H Q I h
  rw [evalPart_none]
  exact wpAny_pure ⟨none, H, I, .none, h⟩
theorem po_some (h : PE X e te) : PO X (some e) (tPart te) := by
  intro pins s σ H Q I hw
  rw [evalPart_some]
  refine thn (h pins s σ H _ I hw) fun u s1 ⟨x, H1, I1, r1, q1⟩ => ?_
  obtain ⟨i, rfl, q⟩ := q1
  obtain ⟨t, rfl⟩ := r1
  exact ⟨some i, H1, I1, .int i t, q⟩

noncomputable def SlR (X : Cx) (r : V → Option Int → Option Int → Hp → VK → Prop) : Prop :=
  ∀ (pins : List (Addr × Obj)) (s : Shared) (σ : St) (H : Hp) (x : V) (v vl vu : Value) (lo hi : Option Int) (sl : Addr) (Q : VK), Inv X pins σ H s → RelV x v → s.heap.IsSliceOf sl vl vu .none → IsPart vl lo → IsPart vu hi → r x lo hi H Q →
    ∃ T id, typeLookup (.type T) "__getitem__" = pure (some (.builtin id)) ∧ s.TypeIs v T ∧ wpAny (model X.prog X.w) X.A (getItem v (.ref sl)) (EP X pins σ Q) X.xe s
noncomputable def tSl (r : V → Option Int → Option Int → Hp → VK → Prop) (te : TE) (tl th : TO) : TE := fun σ H Q => te σ H fun x H1 => tl σ H1 fun l H2 => th σ H2 fun u H3 => r x l u H3 Q
theorem pe_slice {r : V → Option Int → Option Int → Hp → VK → Prop} (hr : SlR X r) (he : PE X e te) (hl : PO X lo tl) (hu : PO X hi th) : PE X (.Subscript e (.Slice lo hi none p2) pos) (tSl r te tl th) := by
  intro pins s σ H Q I h
  refine Subscript_ (thn (he pins s σ H _ I h) fun v s1 ⟨x, H1, I1, r1, q1⟩ => ?_)
  refine wpAny_Slice (thn (hl pins s1 σ H1 _ I1 q1) fun vl s2 ⟨l, H2, I2, pl, q2⟩ => thn (hu pins s2 σ H2 _ I2 q2) fun vu s3 ⟨u, H3, I3, pu, q3⟩ => ?_)
  rw [evalPart_none]
  refine wpAny_pure ?_
  have I4 : Inv X pins σ H3 { s3 with heap := s3.heap.push { cls := .type "slice", data := .fields #[vl, vu, .none] } } := I3.kept (t' := s3.toks) fun b ob q => Heap.get?_push_of_some _ q
  obtain ⟨T, id, hT, ht, hg⟩ := hr pins { s3 with heap := s3.heap.push { cls := .type "slice", data := .fields #[vl, vu, .none] } } σ H3 x v vl vu l u s3.heap.objs.size Q I4 r1 (Heap.IsSliceOf.new ..) pl pu q3
  show wpAny (model X.prog X.w) X.A (subscriptTail e (.Slice lo hi none p2) v (.ref s3.heap.objs.size)) (EP X pins σ Q) X.xe { s3 with heap := s3.heap.push { cls := .type "slice", data := .fields #[vl, vu, .none] } }
  exact tail_any (ops := [.ref s3.heap.objs.size, v]) ht hT hg (by with_unfolding_all rfl)

noncomputable def cutV (xs : List V) (lo hi : Option Int) : List V := (xs.drop (HT.sIx xs.length 0 lo)).take (HT.sIx xs.length xs.length hi - HT.sIx xs.length 0 lo)
theorem cutV_length (xs : List V) (lo hi : Option Int) : (cutV xs lo hi).length ≤ xs.length := by
  unfold cutV
  rw [List.length_take, List.length_drop]
  omega
noncomputable def rSlT (K : PySem.W.Frag) : V → Option Int → Option Int → Hp → VK → Prop := fun x lo hi H Q => ∃ a xs, x = .ref a ∧ SqT K H a xs ∧
  ¬ (HT.sIx xs.length 0 lo = 0 ∧ HT.sIx xs.length xs.length hi = xs.length) ∧ ∀ p, H p = none → Q (.ref p) (upd H p (.tup (cutV xs lo hi)))
theorem sl_tup : SlR X (rSlT X.K) := by
  intro pins s σ H x v vl vu lo hi sl Q I rx hs pl pu h
  obtain ⟨a, xs, rfl, hx, hw, q⟩ := h
  cases rx
  obtain ⟨its, r, ht, hz⟩ := I.tuple hx
  have hlen : its.toArray.size = xs.length := by rw [List.size_toArray]; exact r.length.symm
  refine ⟨"tuple", _, PyProof.Rows.slot_tuple_getitem.lookup, ht.typeIs, ?_⟩
  refine HT.getItem_tuple_cut ht hs pl pu (by rw [hlen]; exact hw) ?_ (by rw [hlen]; exact hz)
  rw [hlen]
  refine ⟨.ref s.heap.objs.size, _, I.laid (t' := s.toks) (o := .tup (cutV xs lo hi)) (fun b ob q => Heap.get?_push_of_some _ q) (Nat.le_refl _) ?_, rfl, q _ (I.hok.fresh (Nat.le_refl _))⟩
  exact ⟨Nat.le_trans (cutV_length xs lo hi) hz, _, (r.drop (HT.sIx xs.length 0 lo)).take (HT.sIx xs.length xs.length hi - HT.sIx xs.length 0 lo), IsTup.new _ _⟩

noncomputable def rCatT (K : PySem.W.Frag) : R2 := fun x y H Q => ∃ a b xs ys, x = .ref a ∧ y = .ref b ∧ SqT K H a xs ∧ SqT K H b ys ∧ xs ≠ [] ∧ xs.length + ys.length ≤ sizeLine ∧
  (ys = [] → Q (.ref a) H) ∧ (ys ≠ [] → ∀ p, H p = none → Q (.ref p) (upd H p (.tup (xs ++ ys))))
theorem Vals.nil_iff {xs : List V} {us : List Value} (r : Vals xs us) : us = [] ↔ xs = [] := by
  cases r with
  | nil => simp
  | cons _ _ => simp
theorem op_catT : OpR X (binaryOp .Add) (rCatT X.K) := by
  intro pins s σ H x y v u Q I rx ry h
  obtain ⟨a, b, xs, ys, rfl, rfl, ha, hb, hx, hz, q1, q2⟩ := h
  cases rx
  cases ry
  obtain ⟨its, r1, p1, _⟩ := I.tuple ha
  obtain ⟨its2, r2, p2, _⟩ := I.tuple hb
  refine HT.cat_tup p1 p2 (fun z => hx (r1.nil_iff.mp z)) (fun z => ⟨.ref a, H, I, rfl, q1 (r2.nil_iff.mp z)⟩) (fun z => ?_) (by rw [← r1.length, ← r2.length]; exact hz)
  refine ⟨.ref s.heap.objs.size, _, I.laid (t' := s.toks) (o := .tup (xs ++ ys)) (fun b ob q => Heap.get?_push_of_some _ q) (Nat.le_refl _) ?_, rfl, q2 (fun w => z (r2.nil_iff.mpr w)) _ (I.hok.fresh (Nat.le_refl _))⟩
  exact ⟨by rw [List.length_append]; exact hz, _, r1.append r2, IsTup.new _ _⟩
end
end L2

namespace L2
open PySem PySem.Spec PyProof.Rows

noncomputable def ixN (n : Nat) (i : Int) : Option Nat := if 0 ≤ i then (if i < n then some i.toNat else none) else if -(n : Int) ≤ i then some (i + n).toNat else none
noncomputable def atI {α : Type} (xs : List α) (i : Int) : Option α := (ixN xs.length i).bind fun j => xs[j]?
theorem ixN_seq {n : Nat} {i : Int} {j : Nat} (h : ixN n i = some j) : seqIndex? i n = some j ∧ j < n ∧ -(n : Int) ≤ i ∧ i < n := by
  unfold ixN at h
  by_cases h0 : 0 ≤ i
  · rw [if_pos h0] at h
    by_cases h1 : i < n
    · rw [if_pos h1] at h
      have e : i.toNat = j := Option.some.inj h
      exact ⟨by rw [seqIndex_of h0 h1, e], by omega, by omega, h1⟩
    · rw [if_neg h1] at h; cases h
  · rw [if_neg h0] at h
    by_cases h1 : -(n : Int) ≤ i
    · rw [if_pos h1] at h
      have e : (i + n).toNat = j := Option.some.inj h
      exact ⟨by rw [seqIndex_neg (by omega) h1, e], by omega, h1, by omega⟩
    · rw [if_neg h1] at h; cases h
theorem atI_get {α : Type} {xs : List α} {i : Int} {v : α} (h : atI xs i = some v) : ∃ j, seqIndex? i xs.length = some j ∧ xs[j]? = some v ∧ j < xs.length ∧ -(xs.length : Int) ≤ i ∧ i < xs.length := by
  unfold atI at h
  cases e : ixN xs.length i with
  | none => rw [e] at h; cases h
  | some j =>
    rw [e] at h
    obtain ⟨h1, h2, h3, h4⟩ := ixN_seq e
    exact ⟨j, h1, h, h2, h3, h4⟩
theorem atI_nat {α : Type} {xs : List α} {j : Nat} {v : α} (h : xs[j]? = some v) : atI xs (j : Int) = some v := by
  have hj : j < xs.length := (List.getElem?_eq_some_iff.mp h).1
  have e : ixN xs.length (j : Int) = some j := by
    unfold ixN
    rw [if_pos (by omega), if_pos (by omega)]; simp
  unfold atI; rw [e]; exact h
theorem atI_last {α : Type} (xs : List α) (v : α) : atI (xs ++ [v]) (-1) = some v := by
  have hl : (xs ++ [v]).length = xs.length + 1 := by simp
  have e : ixN (xs ++ [v]).length (-1) = some xs.length := by
    unfold ixN
    rw [hl, if_neg (by decide), if_pos (by omega)]
    congr 1
    omega
  unfold atI
  rw [e]
  show (xs ++ [v])[xs.length]? = some v
  simp

noncomputable def PlainIx (b : Expr) : Prop := ∀ o i, subscripted b false o i = operate [o, i] (getItem o i)
noncomputable def IxR (X : Cx) (r : R2) : Prop :=
  ∀ (value slice : Expr) (pins : List (Addr × Obj)) (s : Shared) (σ : St) (H : Hp) (x y : V) (v u : Value) (Q : VK), Inv X pins σ H s → RelV x v → RelV y u → r x y H Q →
    subscripted slice false v u = operate [v, u] (getItem v u) → wpAny (model X.prog X.w) X.A (subscriptTail value slice v u) (EP X pins σ Q) X.xe s
noncomputable def MtR (X : Cx) (id : String) (r : V → List V → Hp → VK → Prop) : Prop :=
  ∀ (pins : List (Addr × Obj)) (s : Shared) (σ : St) (H : Hp) (x : V) (xs : List V) (v : Value) (us : List Value) (Q : VK), Inv X pins σ H s → RelV x v → Vals xs us → r x xs H Q →
    wpAny (model X.prog X.w) X.A (call (.builtin id) (v :: us)) (EP X pins σ Q) X.xe s
section
variable {X : Cx} {a b : Expr} {ta tb : TE} {pos : Pos}
theorem pe_ix {r : R2} (hr : IxR X r) (ha : PE X a ta) (hb : PE X b tb) (hs : PlainIx b) : PE X (.Subscript a b pos) (tOp r ta tb) := by
  intro pins s σ H Q I h
  exact Subscript_ (binT ha hb I h fun v u s2 x y H2 I2 rx ry q => hr a b pins s2 σ H2 x y v u Q I2 rx ry q (hs _ _))

noncomputable def rIxL (K : PySem.W.Frag) : R2 := fun x y H Q => ∃ p xs i v, x = .ref p ∧ y = .int i ∧ SqL K H p xs ∧ atI xs i = some v ∧ Q v H
noncomputable def rIxT (K : PySem.W.Frag) : R2 := fun x y H Q => ∃ p xs i v, x = .ref p ∧ y = .int i ∧ SqT K H p xs ∧ atI xs i = some v ∧ Q v H
theorem ix_list : IxR X (rIxL X.K) := by
  intro value slice pins s σ H x y v u Q I rx ry h hs
  obtain ⟨p, xs, i, z, rfl, rfl, hq, he, q⟩ := h
  cases rx
  obtain ⟨t, rfl⟩ := ry
  obtain ⟨its, r, pl, hz⟩ := I.list hq
  obtain ⟨j, h1, h2, h3, h4, h5⟩ := atI_get he
  obtain ⟨w, ew, rw'⟩ := r.get h2
  have hl := r.length
  have hn := line63
  have fin : EP X pins σ Q w s := ⟨z, H, I, rw', q⟩
  by_cases h0 : 0 ≤ i
  · have hj : i.toNat = j := by
      rw [seqIndex_of h0 h5] at h1
      exact Option.some.inj h1
    exact item_listR pl.isList h0 (by omega) (by rw [hj]; simpa using ew) fin hs
  · have hj : (i + (its.toArray.size : Int)).toNat = j := by
      rw [seqIndex_neg (by omega) h4] at h1
      rw [List.size_toArray, ← hl]
      exact Option.some.inj h1
    exact subscriptTail_builtinR (x := w) pl.isList.typeIs slot_list_getitem.lookup
      (wpAny_getItem_list_neg (Q := fun r s' => r = w ∧ EP X pins σ Q r s') pl.isList (by omega) (by rw [List.size_toArray] <;> omega) (by omega) (by rw [hj]; simpa using ew) ⟨rfl, fin⟩) hs
theorem ix_tup : IxR X (rIxT X.K) := by
  intro value slice pins s σ H x y v u Q I rx ry h hs
  obtain ⟨p, xs, i, z, rfl, rfl, hq, he, q⟩ := h
  cases rx
  obtain ⟨t, rfl⟩ := ry
  obtain ⟨its, r, pl, hz⟩ := I.tuple hq
  obtain ⟨j, h1, h2, h3, h4, h5⟩ := atI_get he
  obtain ⟨w, ew, rw'⟩ := r.get h2
  have hl := r.length
  have hn := line63
  have fin : EP X pins σ Q w s := ⟨z, H, I, rw', q⟩
  exact subscriptTail_builtinR (x := w) pl.typeIs slot_tuple_getitem.lookup
    (getItem_tuple (j := j) (Q := fun r s' => r = w ∧ EP X pins σ Q r s') pl (by omega) (by omega) (by rw [List.size_toArray, ← hl]; exact h1) (by simpa using ew) ⟨rfl, fin⟩) hs
theorem mapSeq_set (its : List Value) (n j : Nat) (u : Value) : Obj.mapSeq (·.setIfInBounds j u) { cls := .type "list", data := .seq its.toArray n } = { cls := .type "list", data := .seq (its.set j u).toArray n } := by
  simp [Obj.mapSeq]
theorem Inv.lst {pins : List (Addr × Obj)} {σ : St} {H : Hp} {s : Shared} {p : Addr} {xs : List V} (I : Inv X pins σ H s) (h : H p = some (.lst xs)) :
    ∃ (its : List Value) (n : Nat), Vals xs its ∧ s.heap.get? p = some { cls := .type "list", data := .seq its.toArray n } ∧ xs.length ≤ sizeLine := by
  obtain ⟨z, its, n, r, e⟩ := I.hok p _ h
  exact ⟨its, n, r, e, z⟩
theorem Inv.lstUpd {pins : List (Addr × Obj)} {σ : St} {H : Hp} {s : Shared} {p : Addr} {xs ys : List V} {its its' : List Value} {n n' : Nat} {f : Obj → Obj} (I : Inv X pins σ H s) (h : H p = some (.lst xs))
    (ho : s.heap.get? p = some { cls := .type "list", data := .seq its.toArray n }) (hf : f { cls := .type "list", data := .seq its.toArray n } = { cls := .type "list", data := .seq its'.toArray n' }) (r : Vals ys its') (hz : ys.length ≤ sizeLine) (t : Nat) :
    Inv X pins σ (upd H p (.lst ys)) { s with heap := s.heap.update p f, toks := t } := by
  have e : (s.heap.update p f).get? p = some { cls := .type "list", data := .seq its'.toArray n' } := by
    rw [Heap.get?_update_self f ho (by rw [hf] <;> rfl), hf]
  refine I.write (x := p) (e := p) (by rw [h]; trivial) (.inl rfl) (fun b u hb q => (Heap.get?_update_other _ _ (Ne.symm hb)).trans q) ⟨_, e⟩ ?_
  exact ⟨hz, its', n', r, e⟩
noncomputable def rSetL : V → V → V → Hp → (Hp → Prop) → Prop := fun o i v H Q => ∃ p xs k j, o = .ref p ∧ i = .int k ∧ H p = some (.lst xs) ∧ ixN xs.length k = some j ∧ Q (upd H p (.lst (xs.set j v)))
theorem set_list : PSet X rSetL := by
  intro pins s σ H o i v ov iv u Q I ro ri rv h
  obtain ⟨p, xs, k, j, rfl, rfl, hp, hj, q⟩ := h
  cases ro
  obtain ⟨t, rfl⟩ := ri
  obtain ⟨its, n, r, ho, hz⟩ := I.lst hp
  obtain ⟨h1, h2, h3, h4⟩ := ixN_seq hj
  have hl := r.length
  have hn := line63
  have I' : Inv X pins σ (upd H p (.lst (xs.set j v))) { s with heap := s.heap.update p (Obj.mapSeq (·.setIfInBounds j u)) } :=
    I.lstUpd hp ho (mapSeq_set its n j u) (r.set rv j) (by rw [List.length_set]; exact hz) s.toks
  by_cases h0 : 0 ≤ k
  · have hk : k.toNat = j := by
      rw [seqIndex_of h0 h4] at h1
      exact Option.some.inj h1
    exact PySem.W.ki_setAt ho h0 (by omega) (by rw [List.size_toArray, ← hl]; exact h4) (by rw [hk]; exact ⟨_, I', q⟩)
  · have hk : (k + (its.toArray.size : Int)).toNat = j := by
      rw [seqIndex_neg (by omega) h3] at h1
      rw [List.size_toArray, ← hl]
      exact Option.some.inj h1
    exact PySem.W.ki_setBack ho (by omega) (by rw [List.size_toArray, ← hl]; exact h3) (by omega) (by rw [hk]; exact ⟨_, I', q⟩)

theorem slice_bounds (lo hi : Option Int) (n : Nat) : (sliceBounds lo hi none n).1 = ((HT.sIx n 0 lo : Nat) : Int) ∧ (sliceBounds lo hi none n).2.1 = ((HT.sIx n n hi : Nat) : Int) ∧ (sliceBounds lo hi none n).2.2 = 1 := by
  refine ⟨?_, ?_, rfl⟩
  · cases lo with
    | none => simp [sliceBounds, HT.sIx]
    | some i =>
      simp only [sliceBounds, HT.sIx, Option.getD_none, show (1 : Int) > 0 by decide, if_true]
      by_cases h : i < 0
      · simp only [h, if_true] <;> omega
      · simp only [h, if_false] <;> omega
  · cases hi with
    | none => simp [sliceBounds, HT.sIx]
    | some i =>
      simp only [sliceBounds, HT.sIx, Option.getD_none, show (1 : Int) > 0 by decide, if_true]
      by_cases h : i < 0
      · simp only [h, if_true] <;> omega
      · simp only [h, if_false] <;> omega
theorem slicePick_cut (its : List Value) (lo hi : Option Int) : slicePick its.toArray lo hi none = ((its.drop (HT.sIx its.length 0 lo)).take (HT.sIx its.length its.length hi - HT.sIx its.length 0 lo)).toArray := by
  obtain ⟨h1, h2, h3⟩ := slice_bounds lo hi its.toArray.size
  unfold slicePick
  rw [h1, h2, h3]
  simp only [sliceRange_one, pick_run, List.size_toArray] <;> rfl
noncomputable def rSlL (K : PySem.W.Frag) : V → Option Int → Option Int → Hp → VK → Prop := fun x lo hi H Q => ∃ a xs, x = .ref a ∧ SqL K H a xs ∧ ∀ p, H p = none → Q (.ref p) (upd H p (.lst (cutV xs lo hi)))
theorem sl_list : SlR X (rSlL X.K) := by
  intro pins s σ H x v vl vu lo hi sl Q I rx hs pl pu h
  obtain ⟨a, xs, rfl, hx, q⟩ := h
  cases rx
  obtain ⟨its, r, ht, hz⟩ := I.list hx
  have hlen := r.length
  refine ⟨"list", _, slot_list_getitem.lookup, ht.isList.typeIs, ?_⟩
  refine wpAny_getItem_list_slice ht.isList hs pl pu .none (by simp) ?_ (by rw [List.size_toArray] <;> omega)
  rw [slicePick_cut, ← hlen]
  refine ⟨.ref s.heap.objs.size, _, I.laid (t' := s.toks) (o := .lst (cutV xs lo hi)) (fun b ob q => Heap.get?_push_of_some _ q) (Nat.le_refl _) ?_, rfl, q _ (I.hok.fresh (Nat.le_refl _))⟩
  exact ⟨Nat.le_trans (cutV_length xs lo hi) hz, _, 0, (r.drop (HT.sIx xs.length 0 lo)).take (HT.sIx xs.length xs.length hi - HT.sIx xs.length 0 lo), Heap.get?_push_size _ rfl⟩

theorem call_len_seq : CallR X (.builtin "len") (fun xs H Q => ∃ p ys, xs = [.ref p] ∧ (SqL X.K H p ys ∨ SqT X.K H p ys) ∧ Q (.int ys.length) H) := by
  intro pins s σ H xs us Q I r h
  obtain ⟨p, ys, rfl, hq, q⟩ := h
  obtain ⟨u, rfl, rx⟩ := vals1 r
  cases rx
  have hn := line63
  rcases hq with hq | hq
  · obtain ⟨its, r', pl, hz⟩ := I.list hq
    have hlen := r'.length
    exact Calls.call_len_list pl.isList (by simp only [List.size_toArray] <;> omega) ⟨.int ys.length, H, I.tok _, ⟨s.toks + 1, by rw [List.size_toArray, hlen]⟩, q⟩
  · obtain ⟨its, r', pl, hz⟩ := I.tuple hq
    have hlen := r'.length
    exact len_tuple pl (by simp only [List.size_toArray] <;> omega) ⟨.int ys.length, H, I.tok _, ⟨s.toks + 1, by rw [List.size_toArray, hlen]⟩, q⟩
theorem call_list_of : CallR X (.type "list") (fun xs H Q => ∃ p ys, xs = [.ref p] ∧ (SqL X.K H p ys ∨ SqT X.K H p ys) ∧ ∀ l, H l = none → Q (.ref l) (upd H l (.lst ys))) := by
  intro pins s σ H xs us Q I r h
  obtain ⟨p, ys, rfl, hq, q⟩ := h
  obtain ⟨u, rfl, rx⟩ := vals1 r
  cases rx
  have fin : ∀ (its : List Value), Vals ys its → ys.length ≤ sizeLine → ∀ (h' : Heap) (c' : Nat), (∀ b o', s.heap.get? b = some o' → h'.get? b = some o') →
      h'.get? s.heap.objs.size = some { cls := .type "list", dict := none, data := .seq its.toArray c', slots := #[] } → EP X pins σ Q (.ref s.heap.objs.size) { s with heap := h' } := fun its r' hz h' c' kp e =>
    ⟨.ref s.heap.objs.size, _, I.laid (t' := s.toks) kp (Nat.le_refl _) (show ObjOk X.prog X.w _ h' _ (.lst ys) from ⟨hz, its, c', r', e⟩), rfl, q _ (I.hok.fresh (Nat.le_refl _))⟩
  rcases hq with hq | hq
  · obtain ⟨its, r', pl, hz⟩ := I.list hq
    have hlen := r'.length
    obtain ⟨o, ho, hc, n, hd⟩ := pl.isList
    exact call_list_seq p (.inl rfl) ho hc hd (fun h' c' kp e => fin its r' hz h' c' kp e) (by simp only [List.size_toArray] <;> omega)
  · obtain ⟨its, r', pl, hz⟩ := I.tuple hq
    have hlen := r'.length
    obtain ⟨o, ho, hc, n, hd⟩ := pl
    exact call_list_seq p (.inr rfl) ho hc hd (fun h' c' kp e => fin its r' hz h' c' kp e) (by simp only [List.size_toArray] <;> omega)
theorem call_tuple_of : CallR X (.type "tuple") (fun xs H Q => ∃ p ys, xs = [.ref p] ∧ ((SqL X.K H p ys ∧ ∀ l, H l = none → Q (.ref l) (upd H l (.tup ys))) ∨ (SqT X.K H p ys ∧ Q (.ref p) H))) := by
  intro pins s σ H xs us Q I r h
  obtain ⟨p, ys, rfl, h⟩ := h
  obtain ⟨u, rfl, rx⟩ := vals1 r
  cases rx
  rcases h with ⟨hq, q⟩ | ⟨hq, q⟩
  · obtain ⟨its, r', pl, hz⟩ := I.list hq
    have hlen := r'.length
    refine call_tuple_list pl.isList (fun h' kp => ?_) (by simp only [List.size_toArray] <;> omega)
    have I1 : Inv X pins σ H { s with heap := h' } := I.kept (t' := s.toks) kp
    have I2 : Inv X pins σ (upd H h'.objs.size (.tup ys)) { s with heap := h'.push { cls := .type "tuple", data := .seq its.toArray } } :=
      I1.laid (t' := s.toks) (fun b o e => Heap.get?_push_of_some _ e) (Nat.le_refl _) (show ObjOk X.prog X.w _ _ _ (.tup ys) from ⟨hz, its, r', IsTup.new _ _⟩)
    exact ⟨.ref h'.objs.size, _, I2, rfl, q _ (I1.hok.fresh (Nat.le_refl _))⟩
  · obtain ⟨its, r', pl, hz⟩ := I.tuple hq
    exact call_tuple_same pl ⟨.ref p, H, I, rfl, q⟩

noncomputable def tyV (K : PySem.W.Frag) (T : String) (x : V) (H : Hp) : Prop := match x with
  | .str _ => T = "str"
  | .int _ => T = "int"
  | .ref p => (T = "list" ∧ ∃ xs, SqL K H p xs) ∨ (T = "tuple" ∧ ∃ o, K.lookup p = some o ∧ o.cls = .type "tuple" ∧ o.dict = none) ∨
      (T = "dict" ∧ ((∃ kvs, H p = some (.dK kvs)) ∨ ∃ kvs, H p = some (.dT kvs))) ∨ (T = "set" ∧ ∃ S n, H p = some (.set S n))
  | _ => False
theorem tyV_is {pins : List (Addr × Obj)} {σ : St} {H : Hp} {s : Shared} {T : String} {x : V} {v : Value} (I : Inv X pins σ H s) (r : RelV x v) (ty : tyV X.K T x H) :
    s.TypeIs v T ∧ ∀ a, v = .ref a → ∃ ob, s.heap.get? a = some ob ∧ ob.dict = none := by
  cases x with
  | str z =>
    obtain ⟨t, rfl⟩ := r
    cases (show T = "str" from ty)
    exact ⟨typeIs_str s z t, fun _ e => nomatch e⟩
  | int i =>
    obtain ⟨t, rfl⟩ := r
    cases (show T = "int" from ty)
    exact ⟨typeIs_int s i t, fun _ e => nomatch e⟩
  | ref p =>
    cases r
    rcases ty with ⟨rfl, xs, hq⟩ | ⟨rfl, o, hk, hc, hd⟩ | ⟨rfl, hk⟩ | ⟨rfl, S, n, hk⟩
    · obtain ⟨its, _, pl, _⟩ := I.list hq
      refine ⟨pl.isList.typeIs, fun a e => ?_⟩
      cases e
      obtain ⟨o, n, e, c, hd, _⟩ := pl
      exact ⟨o, e, hd⟩
    · refine ⟨⟨o, I.kIn p o hk, hc⟩, fun a e => ?_⟩
      cases e
      exact ⟨o, I.kIn _ o hk, hd⟩
    · have z : ∃ o, s.heap.get? p = some o ∧ o.ExactDict := by
        rcases hk with ⟨kvs, hk⟩ | ⟨kvs, hk⟩
        · obtain ⟨_, _, _, _, o, _, _, e, ex, _⟩ := I.hok p _ hk
          exact ⟨o, e, ex⟩
        · obtain ⟨_, _, _, _, o, _, _, e, ex, _⟩ := I.hok p _ hk
          exact ⟨o, e, ex⟩
      obtain ⟨o, e, ex⟩ := z
      refine ⟨⟨o, e, ex.1⟩, fun a e2 => ?_⟩
      cases e2
      exact ⟨o, e, ex.2.1⟩
    · obtain ⟨o, _, _, _, e, ex, _⟩ := I.hok p _ hk
      refine ⟨⟨o, e, ex.1⟩, fun a e2 => ?_⟩
      cases e2
      exact ⟨o, e, ex.2.1⟩
  | _ => exact False.elim ty
noncomputable def tBM (K : PySem.W.Frag) (T : String) (r : V → List V → Hp → VK → Prop) (to : TE) (t : TA) : TE := fun σ H Q => to σ H fun x H1 => tyV K T x H1 ∧ t σ H1 fun xs H2 => r x xs H2 Q
variable {o e : Expr} {es : List Expr} {to : TE} {t : TA} {name : Str} {apos cpos : Pos} {T id : String} {r : V → List V → Hp → VK → Prop}
theorem pe_bm (pa : PlainAttrs T) (slot : Slot T name id) (hty : typeOf (.builtin id) = pure (.type "method_descriptor")) (hm : MtR X id r) (ho : PE X o to) (ha : PA X (e :: es) t)
    (hbase : attributeBase o name X.env (eval o X.env) = eval o X.env := by rfl)
    (hfew : ((backTo cpos (starEach (e :: es) X.env)).all (fun x => !x.1) && (backToKw cpos (keywordEach [] X.env)).all (fun x => x.1.isSome)
      && decide ((e :: es).length + ([] : List Keyword).length + (if ([] : List Keyword).isEmpty then 0 else 1) < 30)) = true := by rfl)
    (hline : (apos.endLine == cpos.line) = true := by rfl) (hs : starEach (e :: es) X.env = (false, eval e X.env) :: starEach es X.env := by rfl) (hplain : (backTo cpos (starEach es X.env)).any (·.1) = false := by rfl) :
    PE X (.Call (.Attribute o name apos) (e :: es) [] cpos) (tBM X.K T r to t) := by
  intro pins s σ H Q I h
  refine wpAny_Call_method_late hbase hfew hline rfl (thn (ho pins s σ H _ I h) fun v s1 ⟨x, H1, I1, r1, ty, q1⟩ => ?_)
  obtain ⟨h1, h2⟩ := tyV_is I1 r1 ty
  refine ⟨T, id, pa, slot, hty, h1, h2, ?_⟩
  have hA := ha cpos pins s1 σ H1 _ I1 q1
  rw [hs] at hA ⊢
  refine Calls.callWith_builtin (by show (false || (backTo cpos (starEach es X.env)).any (·.1)) = false; rw [hplain] <;> rfl) (Calls.evalArgs_plain ?_)
  exact thn hA fun us s2 ⟨vs, H2, I2, r2, q2⟩ => hm pins s2 σ H2 x vs v us Q I2 r1 r2 q2
/- xs.append(e), list.index on a module's tuple .. are MtR facts of 06m -/
end
end L2

namespace L2
open PySem PySem.Spec PyProof.Rows

noncomputable def MtM (X : Cx) (id : String) (r : V → List V → Hp → VK → Prop) : Prop :=
  ∀ (pins : List (Addr × Obj)) (s : Shared) (σ : St) (H : Hp) (x : V) (xs : List V) (v : Value) (us : List Value) (Q : VK), Inv X pins σ H s → RelV x v → Vals xs us → r x xs H Q →
    wpAny (model X.prog X.w) X.A (call (.builtin id) (v :: us)) (EP X pins σ Q) X.xe s

theorem Vals.one : ∀ {x : V} {us : List Value}, Vals [x] us → ∃ u, us = [u] ∧ RelV x u
  | _, _, .cons r .nil => ⟨_, rfl, r⟩
theorem Vals.reverse {xs : List V} {us : List Value} (h : Vals xs us) : Vals xs.reverse us.reverse := by
  induction h with
  | nil => exact .nil
  | cons r t ih => rw [List.reverse_cons, List.reverse_cons]; exact Vals.append ih (.cons r .nil)
section
variable {X : Cx} {pins : List (Addr × Obj)} {σ : St} {H : Hp} {s : Shared} {l b : Addr} {xs ys zs : List V}

theorem Inv.lset {its its' : List Value} {n : Nat} {f : Array Value → Array Value} {t' : Nat} (I : Inv X pins σ H s) (hH : H l = some (.lst xs))
    (e : s.heap.get? l = some { cls := .type "list", data := .seq its.toArray n }) (hf : f its.toArray = its'.toArray) (hv : Vals ys its') (hz : ys.length ≤ sizeLine) :
    Inv X pins σ (upd H l (.lst ys)) { s with heap := s.heap.update l (Obj.mapSeq f), toks := t' } := by
  have q := PySem.IsL.update e f
  rw [hf] at q
  refine I.write (x := l) (e := l) (by rw [hH]; exact trivial) (.inl rfl) (fun b' u hb hu => (Heap.get?_update_other s.heap (Obj.mapSeq f) (Ne.symm hb)).trans hu) ⟨_, q⟩ ?_
  exact ⟨hz, its', _, hv, q⟩
theorem Inv.lnew {its : List Value} {t' : Nat} (I : Inv X pins σ H s) (hv : Vals ys its) (hz : ys.length ≤ sizeLine) :
    Inv X pins σ (upd H s.heap.objs.size (.lst ys)) { s with heap := s.heap.push { cls := .type "list", data := .seq its.toArray }, toks := t' } :=
  I.laid (fun _ _ q => Heap.get?_push_of_some _ q) (Nat.le_refl _) ⟨hz, its, 0, hv, Heap.get?_push_size _ rfl⟩
theorem Inv.fresh (I : Inv X pins σ H s) : H s.heap.objs.size = none := I.hok.fresh (Nat.le_refl _)
theorem Inv.lstM (I : Inv X pins σ H s) (hH : H l = some (.lst xs)) : xs.length ≤ sizeLine ∧ ∃ (its : List Value) (n : Nat), Vals xs its ∧ xs.length = its.length ∧ s.heap.get? l = some { cls := .type "list", data := .seq its.toArray n } := by
  obtain ⟨z, its, n, r, e⟩ := I.hok l _ hH
  exact ⟨z, its, n, r, r.length, e⟩

end

section
variable {X : Cx}

noncomputable def rAppend : V → List V → Hp → VK → Prop := fun x vs H Q => ∃ l xs y, x = .ref l ∧ vs = [y] ∧ H l = some (.lst xs) ∧ xs.length < sizeLine ∧ Q .non (upd H l (.lst (xs ++ [y])))
theorem mt_append : MtM X "list.append" rAppend := by
  intro pins s σ H x vs v us Q I rx rv h
  obtain ⟨l, xs, y, rfl, rfl, hH, hz, q⟩ := h
  cases rx
  obtain ⟨u, rfl, ru⟩ := rv.one
  obtain ⟨z, its, n, r, hl, e⟩ := I.lstM hH
  refine call_meets F.slot_list_append ⟨_, e, rfl⟩ F.entry_list_append (F.args_list_append_2 _ _) (PySem.list_append l its.toArray n u (by rw [List.size_toArray]; omega)) ⟨e, ?_⟩
  refine ⟨.non, _, I.lset (its' := its ++ [u]) hH e (by simp) (r.append (.cons ru .nil)) ?_, rfl, q⟩
  rw [List.length_append, List.length_singleton]
  omega

noncomputable def rCat : R2 := fun x y H Q => ∃ l b xs zs, x = .ref l ∧ y = .ref b ∧ H l = some (.lst xs) ∧ H b = some (.lst zs) ∧ xs.length + zs.length ≤ sizeLine ∧ ∀ p, H p = none → Q (.ref p) (upd H p (.lst (xs ++ zs)))
theorem op_cat : OpR X (binaryOp .Add) rCat := by
  intro pins s σ H x y v u Q I rx ry h
  obtain ⟨l, b, xs, zs, rfl, rfl, hH, hB, hz, q⟩ := h
  cases rx
  cases ry
  obtain ⟨z, its, n, r, hl, e⟩ := I.lstM hH
  obtain ⟨z2, its2, n2, r2, hl2, e2⟩ := I.lstM hB
  refine PySem.P.add_list e e2 ?_ (by rw [List.size_toArray, List.size_toArray]; omega)
  have ea : its.toArray ++ its2.toArray = (its ++ its2).toArray := by simp
  rw [ea]
  exact ⟨.ref _, _, I.lnew (t' := s.toks) (r.append r2) (by rw [List.length_append]; omega), rfl, q _ I.fresh⟩
end

section
variable {prog : Program} {w : World} {A : Around} {E : Value → Shared → Prop} {s : Shared}
end

section
variable {X : Cx}
end
end L2

namespace Att
open PySem PySem.W PySem.Calls PyProof.Rows

theorem ints_of_wellAll {P : Params} {h : Heap} : ∀ (ns : List Int) (vs : List Value), WellAll P h vs (ns.map WData.int) → IntsAre vs ns := by
  intro ns
  induction ns with
  | nil =>
    intro vs w
    rw [List.map_nil] at w
    cases w
    exact .nil
  | cons n ns ih =>
    intro vs w
    rw [List.map_cons] at w
    cases w with
    | cons a b =>
      cases a
      exact .cons _ _ (ih _ b)

theorem script_of {l : OpenLaw} {n : Nat} (hn : l.most = some n) {P : Params} {h : Heap} {args : List WData} {vals : List Value}
    (hpre : l.row.toRowW.claim.pre args = true) (hwl : WellAll P h vals args) :
    ∃ a vs ns, vals = [Value.ref a] ∧ args = [WData.list (ns.map WData.int)] ∧ h.get? a = some { cls := .type "list", data := .seq vs.toArray } ∧ IntsAre vs ns ∧ ns.length ≤ n := by
  have hsh : WShape.hasAll [] args [.list .int] = true := (pre_splitW hpre).1
  have hc : l.pre.holds [] { args := args } = true := (pre_splitW hpre).2
  obtain ⟨d, r, rfl, h1, h2⟩ := hasAllW_cons hsh
  obtain rfl := hasAllW_nil h2
  obtain ⟨xs, rfl, h3⟩ := hasW_list h1
  obtain ⟨ns, rfl⟩ := items_int h3
  have hlen : ns.length ≤ n := by
    unfold OpenLaw.pre at hc
    have h4 : (WTm.not (.lt (.lit (.int (n : Int))) (.len (.arg 0)))).holds [] { args := [.list (ns.map .int)] } = true := by
      have h4 := (holds_andW hc).1
      rw [hn] at h4
      exact h4
    have h5 := condW_of h4 (w_not (w_lt w_lit (w_len_list (w_arg rfl))))
    rw [List.length_map] at h5
    refine Nat.le_of_not_lt fun q => ?_
    have q' : (n : Int) < ((ns.length : Nat) : Int) := by omega
    first
      | (rw [decide_eq_true q'] at h5; exact absurd h5 (by decide))
      | (simp at h5; omega)
  cases hwl with
  | cons w1 w2 =>
    cases w2
    cases w1 with
    | list ho hall => exact ⟨_, _, ns, rfl, rfl, ho, ints_of_wellAll ns _ hall, hlen⟩

theorem post_true (l : OpenLaw) (args : List WData) : l.row.toRowW.claim.post args (.bool true) args = true :=
  postW_of (r := l.row.toRowW) (X := (true == true))
    (show WShape.has [] (.bool true) .bool = true by first | rfl | decide | simp [WShape.has, WShape.arms, WShape.armsAll])
    (show (WTm.eq .res (.lit (.bool true))).value [] { args := args, res := some (.bool true), after := args } = some (.bool (true == true)) from w_eq_bool (w_res rfl) w_lit) rfl

theorem attach_call {l : OpenLaw} {n : Nat} {q : Program} {loose : List Str} {XP : (Str → Option Value) → Heap → Prop} {YP : World → Heap → Prop} {d : DefRec}
    (hn : l.most = some n) (hdf : d.params.defaults = [])
    (call : ∀ (w : World) (s₀ s₁ : Shared) (mg mb : Str → Option Value) (fa : Addr) (o : Obj) (pm cd doc : Value) (a : Addr) (vs : List Value) (ns : List Int),
      Ground q loose [] XP w s₀ mg mb s₁.heap → YP w s₁.heap →
      s₁.heap.get? fa = some o → o.data = .func (docDef d.name d.params d.body d.scope pm cd doc) → s₁.heap.CodeRec cd d.name → mg d.name = some (.ref fa) →
      s₁.heap.get? a = some { cls := .type "list", data := .seq vs.toArray } → IntsAre vs ns → ns.length ≤ n → s₁.gens = #[] →
      codeAny (model l.prog w) callerA (.call (.ref fa) ⟨[.ref a], []⟩) (fun r s' => r = .ok (.ret (.bool true)) ∧ OldK s₁.heap s'.heap ∧ s'.os = s₁.os ∧ AllBare s'.gens) s₁) :
    WalkO q loose XP YP l.row.toRowW d [] (fun f vs => PySem.call f vs) := by
  intro w s₀ s₁ mg mb G Y fa o pm cd doc dV kV ho hd hcd hD hmg hg args vals as hpre hlay hrd hwl hlo
  obtain rfl : dV = .none := Dflts.none hD hdf
  obtain rfl : kV = .none := Dflts.noKw hD
  obtain ⟨a, vs, ns, rfl, rfl, hobj, hints, hlen⟩ := script_of hn hpre hwl
  refine enter_call (codeAny_mono (call w s₀ s₁ mg mb fa o pm cd doc a vs ns G Y ho (fd_plain hd) hcd hmg hobj hints hlen hg) fun r s' hq => ?_)
  obtain ⟨rfl, h2, h3, h4⟩ := hq
  exact ⟨.inl ⟨.bool true, .bool true, [], rfl, fun _ => rfl, .bool true, post_true l _, fun _ => ⟨List.Pairwise.nil, fun _ hm => (nomatch hm)⟩⟩, h2, h3, h4⟩

section
variable {prog : Program} {w : World} {A : Around} {E : Value → Shared → Prop} {s : Shared} {K : Frag}

end
end Att

namespace L2
open PySem PySem.Spec PyProof.Rows

theorem vals_ints : ∀ {vs : List Value} {ns : List Int}, IntsAre vs ns → Vals (ns.map V.int) vs
  | _, _, .nil => .nil
  | _, _, .cons n t h => .cons ⟨t, rfl⟩ (vals_ints h)

noncomputable def Only (H : Hp) : Prop := ∀ b, H b = none ∨ ∃ o xs, H b = some (.frz o (.lst xs))

theorem law_call {P : Program} {w : World} {K : PySem.W.Frag} {mg mb : Str → Option Value} {CX : CXT} {k : Nat} {fa a : Addr} {fd : FuncData} {x : Str} {sp : Sp} {s₁ : Shared} {vs : List Value} {ns : List Int}
    (KX : K.In s₁.heap) (hns : s₁.heap.Ns mainGlobals mg) (hb : s₁.heap.Ns builtinsNs mb) (hbb : ∀ x : Str, x ≠ "__name__" → mb x = bootBuiltins x) (hlim : s₁.heap.NoLimit) (hg : s₁.gens = #[])
    (ha : s₁.heap.get? a = some { cls := .type "list", data := .seq vs.toArray }) (hi : IntsAre vs ns) (hl : ns.length ≤ sizeLine) (hr : Room k callerA)
    (F : ∀ base : Heap, K.In base → base.Ns mainGlobals mg → FnOk P w K mg base CX k fa fd [x] sp) (hbind : ∀ (s : Shared) (u : Value), BindsTo s fd ⟨[u], []⟩ [(x, u)])
    (hsp : ∀ H : Hp, Only H → SqL K H a (ns.map V.int) → sp [.ref a] H (fun v _ => v = .bl true) fun _ _ _ => False)
    (hCX : ∀ H e s', CX [] H s₁ (fun _ _ _ => False) e s' → False) :
    codeAny (model P w) callerA (.call (.ref fa) ⟨[.ref a], []⟩) (fun r s' => r = .ok (.ret (.bool true)) ∧ OldK s₁.heap s'.heap ∧ s'.os = s₁.os ∧ AllBare s'.gens) s₁ := by
  have rv := vals_ints hi
  have lenV := hi.length
  -- from an abstract heap in which nothing but the script may be tracked
  have core : ∀ H : Hp, Only H → SqL K H a (ns.map V.int) → HOk P w H s₁.heap → (∀ b, H b ≠ none → b = a) → (H a ≠ none → K.lookup a = none) →
      codeAny (model P w) callerA (.call (.ref fa) ⟨[.ref a], []⟩) (fun r s' => r = .ok (.ret (.bool true)) ∧ OldK s₁.heap s'.heap ∧ s'.os = s₁.os ∧ AllBare s'.gens) s₁ := by
    intro H hO hS hok hA hK
    have base_of : ∀ {b : Addr} {o : Obj}, s₁.heap.get? b = some o → H b = none → (hidT s₁.heap H).get? b = some o := fun e n => hidT_get e n
    have noA : ∀ {b : Addr} {o : Obj} {es : Array DictEntry} {ep : Nat}, s₁.heap.get? b = some o → o.data = .dict es ep → H b = none := fun {b o es ep} e d => by
      cases q : H b with
      | none => rfl
      | some u =>
        have e' : b = a := hA b (by rw [q]; simp)
        subst e'
        rw [ha] at e; cases e
        have d' : Data.seq vs.toArray _ = Data.dict es ep := d
        cases d'
    have nsK : ∀ {b : Addr} {m : Str → Option Value}, s₁.heap.Ns b m → (hidT s₁.heap H).Ns b m := fun {b m} ⟨o, es, ep, e, d, r⟩ => ⟨o, es, ep, base_of e (noA e d), d, r⟩
    have hKb : K.In (hidT s₁.heap H) := fun b o e => base_of (KX b o e) (by
      cases q : H b with
      | none => rfl
      | some u =>
        have e' : b = a := hA b (by rw [q]; simp)
        subst e'
        rw [hK (by rw [q]; simp)] at e; cases e)
    have hM : Mod K mg (hidT s₁.heap H) := ⟨hKb, nsK hns, ⟨mb, nsK hb, hbb⟩, let ⟨mc, h1, h2⟩ := hlim; ⟨mc, nsK h1, h2⟩⟩
    have e0 : Env0 P w K mg (hidT s₁.heap H) callerA [] s₁ H := ⟨rfl, hM, fun b o e => of_hidT e, Nat.le_of_eq (hidT_size _ _), trivial, fun b hb => absurd (show b ∈ ([] : List Addr) from hb) (by simp), hok, .of_eq hg⟩
    refine codeAny_mono ((F _ hKb (nsK hns)).run callerA [] s₁ H ⟨[.ref a], []⟩ [.ref a] [.ref a] _ _ hr e0 (hbind s₁ (.ref a)) (.cons rfl .nil) (hsp H hO hS)) fun r s' h => ?_
    cases r with
    | error e => exact (hCX H e s' h).elim
    | ok fl =>
      cases fl with
      | next => exact False.elim h
      | brk => exact False.elim h
      | cont => exact False.elim h
      | ret u =>
        obtain ⟨v, H', os, bare, un, hok', r', q⟩ := h
        have q' : v = .bl true := q
        subst q'
        obtain rfl : u = Value.bool true := r'
        refine ⟨rfl, OldK.of_keep fun b o e => ?_, os, bare⟩
        cases q : H b with
        | none => exact un.keep b o e q (by intro z; exact absurd (show b ∈ ([] : List Addr) from z) (by simp)) (by simp)
        | some u =>
          rcases hO b with z | ⟨ob, xs, z⟩
          · rw [q] at z; cases z
          · have z2 := un.frzs b ob _ z
            obtain ⟨e1, _⟩ := hok b _ z
            obtain ⟨e2, _⟩ := hok' b _ z2
            rw [e] at e1; cases e1
            exact e2
  cases hk : K.lookup a with
  | some o =>
    -- the script is one of the module's own objects
    have e := KX a o hk
    rw [ha] at e
    cases e
    refine core (fun _ => none) (fun _ => .inl rfl) (.inr ⟨_, vs.toArray, _, hk, rfl, rfl, rfl, by rw [List.size_toArray, lenV]; exact hl, by simpa using rv⟩) (fun b u z => by have z' : (none : Option HO) = some u := z; cases z') (fun b z => absurd rfl z) fun z => absurd rfl z
  | none =>
    refine core (fun b => if b = a then some (.frz { cls := .type "list", data := .seq vs.toArray } (.lst (ns.map V.int))) else none) (fun b => ?_) (.inl (.inr ⟨{ cls := .type "list", data := .seq vs.toArray }, if_pos rfl⟩)) (fun b u z => ?_) (fun b z => ?_) fun _ => hk
    · by_cases hb : b = a
      · exact .inr ⟨_, _, if_pos hb⟩
      · exact .inl (if_neg hb)
    · by_cases hb : b = a
      · have z' := (if_pos hb).symm.trans z
        cases z'
        subst hb
        exact ⟨ha, by rw [List.length_map]; exact hl, vs, _, rv, ha⟩
      · have z' := (if_neg hb).symm.trans z
        cases z'
    · by_cases hb : b = a
      · exact hb
      · exact absurd (if_neg hb) z
end L2

namespace L2
open PySem PySem.Spec PyProof.Rows

theorem walk_of {l : PySem.W.OpenLaw} {n k : Nat} {q : Program} {loose : List Str} {XP : (Str → Option Value) → Heap → Prop} {YP : World → Heap → Prop} {d : DefRec} {K : Params → PySem.W.Frag} {CX : World → CXT} {sp : World → Sp} {x : Str}
    (hn : l.most = some n) (hn2 : n ≤ sizeLine) (hdf : d.params.defaults = []) (hr : Room k callerA)
    (hY : ∀ (w : World) (h : Heap), YP w h → (K w.params).In h)
    (F : ∀ (w : World) (mg : Str → Option Value) (fa : Addr) (h : Heap), (K w.params).In h → h.Ns mainGlobals mg → mg d.name = some (.ref fa) →
      ∃ fd : FuncData, (∀ (s : Shared) (u : Value), BindsTo s fd ⟨[u], []⟩ [(x, u)]) ∧
        ∀ base : Heap, (K w.params).In base → base.Ns mainGlobals mg → FnOk l.prog w (K w.params) mg base (CX w) k fa fd [x] (sp w))
    (hsp : ∀ (w : World) (H : Hp) (a : Addr) (ns : List Int), ns.length ≤ n → Only H → SqL (K w.params) H a (ns.map V.int) → sp w [.ref a] H (fun v _ => v = .bl true) fun _ _ _ => False)
    (hCX : ∀ (w : World) (H : Hp) (s : Shared) (e : Value) (s' : Shared), CX w [] H s (fun _ _ _ => False) e s' → False) :
    PySem.W.WalkO q loose XP YP l.row.toRowW d [] (fun f vs => PySem.call f vs) := by
  refine Att.attach_call hn hdf fun w s₀ s₁ mg mb fa o pm cd doc a vs ns G Y ho hd hcd hmg hobj hints hlen hg => ?_
  have KX := hY w _ Y
  obtain ⟨fd, hb, hF⟩ := F w mg fa _ KX G.T.g hmg
  exact law_call KX G.T.g G.T.b G.T.builtins G.T.nolimit hg hobj hints (Nat.le_trans hlen hn2) hr hF hb (fun H hO hS => hsp w H a ns hlen hO hS) fun H e s' => hCX w H s₁ e s'
end L2



namespace L2
open PySem PySem.Spec PyProof.Rows

noncomputable def inClass (s : Stmt) (j : Nat) : Stmt := match s with
  | .ClassDef _ _ _ body _ _ _ _ _ _ _ => body.getD j (.Pass ⟨0, 0, 0, 0⟩)
  | _ => .Pass ⟨0, 0, 0, 0⟩
noncomputable def defArgs (s : Stmt) : Arguments := match s with
  | .FunctionDef _ a _ _ _ _ _ _ _ _ => a
  | _ => { posonlyargs := [], args := [], vararg := none, kwonlyargs := [], kw_defaults := [], kwarg := none, defaults := [] }
noncomputable def defBody (s : Stmt) : List Stmt := match s with
  | .FunctionDef _ _ b _ _ _ _ _ _ _ => b
  | _ => []
noncomputable def defScope (s : Stmt) : Scope := match s with
  | .FunctionDef _ _ _ _ _ _ sc _ _ _ => sc
  | _ => { kind := .function, names := [], isGenerator := false, isCoroutine := false }

noncomputable abbrev CX0 : CXT := fun _ _ _ _ _ _ => False
noncomputable abbrev E0 : XK := fun _ _ _ => False
theorem pass0 {X : Cx} : Passes CX0 X E0 := fun _ _ _ _ _ _ _ h => h.elim

structure Fun (K : PySem.W.Frag) (x qual : Str) (st : Stmt) (f : Addr) (fd : FuncData) : Prop where
  ex : ∃ (oc : Value) (od : Option Addr) (kV doc pm : Value) (an : Option Addr) (cdv ct : Value) (osl : Array (Option Value)),
    fd = PySem.W.fnOf x qual (defArgs st) (defBody st) (defScope st) .none kV doc pm an cdv ct ∧ K.lookup f = some ⟨oc, od, .func fd, osl⟩ ∧ PySem.W.codeIn K cdv qual = true
  kp : PySem.W.keepIn K (.ref f) = true
section
variable {P : Program} {w : World} {K : PySem.W.Frag} {mg : Str → Option Value} {base : Heap}
theorem Fun.ok {x qual : Str} {st : Stmt} {f : Addr} {fd : FuncData} {N ps : List Str} {k : Nat} {sp : Sp} (F : Fun K x qual st f fd) (S : FnScope N ps (defScope st)) (len : ∀ vs H Q E, sp vs H Q E → vs.length = ps.length)
    (hbody : ∀ (cdv : Value) (A : Around) (outer : List Env) (s : Shared) (H : Hp) (vs : List V) (Q : VK) (E : XK), Room k (A.deeper (envOfC qual (defScope st) s.heap.objs.size f cdv)) → sp vs H Q E →
      ∃ t, PSs (cxOf CX0 P w K mg base N qual (defScope st) f cdv A outer s H E).nox (defBody st) t ∧ t { nx := fun _ H' => Q .non H', rt := Q } (start N vs) H) : FnOk P w K mg base CX0 (k + 1) f fd ps sp := by
  obtain ⟨oc, od, kV, doc, pm, an, cdv, ct, osl, rfl, lk, hcd⟩ := F.ex
  refine fn_of lk hcd S len fun A outer s H vs Q E hr hsp => ?_
  obtain ⟨t, h, q⟩ := hbody cdv A outer s H vs Q E hr hsp
  exact ⟨t, h.nox, q⟩
theorem Fun.binds {x qual : Str} {st : Stmt} {f : Addr} {fd : FuncData} {ps : List Str} (F : Fun K x qual st f fd)
    (h : ∀ (kV doc pm : Value) (an : Option Addr) (cdv ct : Value) (us : List Value), us.length = ps.length → bindArgs (PySem.W.fnOf x qual (defArgs st) (defBody st) (defScope st) .none kV doc pm an cdv ct) ⟨us, []⟩ = pure (ps.zip us)) : Binds K fd ps [] := by
  obtain ⟨oc, od, kV, doc, pm, an, cdv, ct, osl, rfl, lk, hcd⟩ := F.ex
  exact .all (h kV doc pm an cdv ct)
theorem fun_mk {x qual : Str} {st : Stmt} {f : Addr} {oc : Value} {od an : Option Addr} {osl : Array (Option Value)} {kV doc pm cdv ct : Value} (l : K.lookup f = some ⟨oc, od, .func (PySem.W.fnOf x qual (defArgs st) (defBody st) (defScope st) .none kV doc pm an cdv ct), osl⟩)
    (c : PySem.W.codeIn K cdv qual = true) (k : PySem.W.keepIn K (.ref f) = true) : Fun K x qual st f (PySem.W.fnOf x qual (defArgs st) (defBody st) (defScope st) .none kV doc pm an cdv ct) := ⟨⟨oc, od, kV, doc, pm, an, cdv, ct, osl, rfl, l, c⟩, k⟩
end
theorem small1000 {n : Nat} (h : n ≤ 1000) : n < sizeLine := Nat.lt_of_le_of_lt h (by decide)

section
variable {X : Cx}
theorem pv (i : Nat) {x : Str} {pos : Pos} (hN : X.N[i]? = some x := by rfl) (hv : Vis X.env.scope x := by first | exact Or.inl rfl | exact Or.inr (Or.inl rfl) | exact Or.inr (Or.inr rfl)) (hd : (x == ("__debug__" : Str)) = false := by decide)
    (hcd : (x == ("__classdict__" : Str)) = false := by decide) : PE X (.Name x pos) (tVar i) := pe_var hN hv hd hcd
end

theorem iteF {A B : Prop} (h : B) : if false = true then A else B := by
  rw [if_neg Bool.false_ne_true]
  exact h
theorem iteT {A B : Prop} (h : A) : if true = true then A else B := by
  rw [if_pos rfl]
  exact h
theorem ite2 {c A B : Prop} [Decidable c] (h1 : c → A) (h2 : ¬ c → B) : if c then A else B := by
  by_cases h : c
  · rw [if_pos h]
    exact h1 h
  · rw [if_neg h]
    exact h2 h
theorem iteNS {c A B : Prop} [Decidable c] (hc : c) (h : B) : if (!decide c) = true then A else B := by
  rw [decide_eq_true hc]
  exact iteF h

noncomputable def Same (H H' : Hp) : Prop := ∀ b o, H b = some o → H' b = some o
theorem Same.refl (H : Hp) : Same H H := fun _ _ h => h
theorem Same.trans {H H1 H2 : Hp} (a : Same H H1) (b : Same H1 H2) : Same H H2 := fun c o h => b c o (a c o h)
theorem Same.free {H H' : Hp} (e : Same H H') {l : Addr} (h : H' l = Option.none) : H l = Option.none := by
  cases q : H l with
  | none => rfl
  | some o =>
    rw [e l o q] at h
    cases h
theorem Same.seq {K : PySem.W.Frag} {H H' : Hp} {a : Addr} {xs : List V} (e : Same H H') (h : SqL K H a xs) : SqL K H' a xs := by
  rcases h with (h | ⟨o, h⟩) | h
  · exact .inl (.inl (e _ _ h))
  · exact .inl (.inr ⟨o, e _ _ h⟩)
  · exact .inr h

end L2

set_option maxHeartbeats 4000000
namespace Sh
noncomputable def gcdAll (ns : List Int) : Int := ns.foldl (fun c n => (Int.gcd c n : Int)) 0
theorem gcdAll_two (a b : Int) : gcdAll [a, b] = (Int.gcd a b : Int) := by
  show ((Int.gcd (Int.gcd 0 a : Int) b : Nat) : Int) = _
  congr 1
  rw [Int.gcd_zero_left, Int.gcd_eq_natAbs_gcd_natAbs, Int.gcd_eq_natAbs_gcd_natAbs, Int.natAbs_natCast]
theorem gcdAll_snoc (ns : List Int) (n : Int) : gcdAll (ns ++ [n]) = (Int.gcd (gcdAll ns) n : Int) := by
  unfold gcdAll
  rw [List.foldl_append]
  rfl
theorem gcdAll_nonneg (ns : List Int) : 0 ≤ gcdAll ns := by
  rcases List.eq_nil_or_concat ns with rfl | ⟨l, a, rfl⟩
  · exact Int.le_refl 0
  · rw [List.concat_eq_append, gcdAll_snoc]
    exact Int.natCast_nonneg _
theorem gcd_turn (c r : Int) : Int.gcd r (c.fmod r) = Int.gcd c r := by
  rw [Int.fmod_def, Int.gcd_sub_mul_left_right, Int.gcd_comm]
theorem fmod_less {c r : Int} (h : r ≠ 0) : (c.fmod r).natAbs < r.natAbs := by
  rcases Int.lt_or_gt_of_ne h with hr | hr
  · have e : c.fmod r = -((-c).fmod (-r)) := by rw [Int.neg_fmod_neg, Int.neg_neg]
    have h1 := Int.fmod_nonneg_of_pos (-c) (b := -r) (by omega)
    have h2 := Int.fmod_lt_of_pos (-c) (b := -r) (by omega)
    omega
  · have h1 := Int.fmod_nonneg_of_pos c hr
    have h2 := Int.fmod_lt_of_pos c hr
    omega
theorem abs_is (i : Int) : (if i < 0 then -i else i) = (i.natAbs : Int) := by
  split <;> omega
theorem gcd_abs (c i : Int) : Int.gcd c (if i < 0 then -i else i) = Int.gcd c i := by
  split
  · rw [Int.gcd_neg]
  · rfl
noncomputable def cm (t b : Int) : Int := if b < 0 then -(Int.gcd t b : Int) else (Int.gcd t b : Int)
noncomputable def lowT (t b : Int) : Int := t.fdiv (cm t b)
noncomputable def lowB (t b : Int) : Int := b.fdiv (cm t b)
theorem gcd_pos {t b : Int} (h : b ≠ 0) : 0 < (Int.gcd t b : Int) := by
  have : 0 < Int.gcd t b := Int.gcd_pos_of_ne_zero_right _ h
  omega
theorem cm_ne {t b : Int} (h : b ≠ 0) : cm t b ≠ 0 := by
  have := gcd_pos (t := t) h
  unfold cm
  split <;> omega
theorem cm_dvd_t (t b : Int) : cm t b ∣ t := by
  unfold cm
  split
  · exact Int.neg_dvd.mpr (Int.gcd_dvd_left t b)
  · exact Int.gcd_dvd_left t b
theorem cm_dvd_b (t b : Int) : cm t b ∣ b := by
  unfold cm
  split
  · exact Int.neg_dvd.mpr (Int.gcd_dvd_right t b)
  · exact Int.gcd_dvd_right t b
theorem lowT_mul (t b : Int) : lowT t b * cm t b = t := Int.fdiv_mul_cancel (cm_dvd_t t b)
theorem lowB_mul (t b : Int) : lowB t b * cm t b = b := Int.fdiv_mul_cancel (cm_dvd_b t b)
theorem lowB_pos {t b : Int} (h : b ≠ 0) : 0 < lowB t b := by
  have e := lowB_mul t b
  have g := gcd_pos (t := t) h
  rcases Int.lt_trichotomy (lowB t b) 0 with hl | hl | hl
  · exfalso
    unfold cm at e
    split at e
    · rename_i hb
      have := Int.mul_pos_of_neg_of_neg hl (show -(Int.gcd t b : Int) < 0 by omega)
      omega
    · have := Int.mul_neg_of_neg_of_pos hl g
      omega
  · exfalso
    rw [hl, Int.zero_mul] at e
    omega
  · exact hl
theorem low_gcd {t b : Int} (h : b ≠ 0) : Int.gcd (lowT t b) (lowB t b) = 1 := by
  have g := gcd_pos (t := t) h
  have e : Int.gcd (cm t b * lowT t b) (cm t b * lowB t b) = (cm t b).natAbs * Int.gcd (lowT t b) (lowB t b) := Int.gcd_mul_left _ _ _
  rw [Int.mul_comm (cm t b), Int.mul_comm (cm t b), lowT_mul, lowB_mul] at e
  have c : (cm t b).natAbs = Int.gcd t b := by
    unfold cm
    split
    · rw [Int.natAbs_neg, Int.natAbs_natCast]
    · rw [Int.natAbs_natCast]
  rw [c] at e
  have g' : 0 < Int.gcd t b := by omega
  exact Nat.eq_of_mul_eq_mul_left g' (by rw [Nat.mul_one]; exact e.symm)
theorem low_cross {t b : Int} (h : b ≠ 0) : lowT t b * b = t * lowB t b := by
  have e1 := lowT_mul t b
  have e2 := lowB_mul t b
  calc lowT t b * b = lowT t b * (lowB t b * cm t b) := by rw [e2]
    _ = (lowT t b * cm t b) * lowB t b := by rw [Int.mul_assoc, Int.mul_comm (lowB t b)]
    _ = t * lowB t b := by rw [e1]
theorem cm_pos_eq {t b : Int} (h : 0 < b) : cm t b = (Int.gcd t b : Int) := by
  unfold cm
  rw [if_neg (by omega)]
end Sh

namespace Sh
noncomputable def alStep (st : Int × Int) (p : Int × Int × Int) : Int × Int := (st.1 * p.2.2 + p.1 * p.2.1 * st.2, st.2 * p.2.2)
noncomputable def alFold (ws : List Int) (pts : List (Int × Int)) : Int × Int := (ws.zip pts).foldl alStep (0, 1)
noncomputable def prodB (l : List (Int × Int × Int)) : Int := (l.map fun p => p.2.2).foldl (· * ·) 1
theorem foldl_mul (l : List Int) (c : Int) : l.foldl (· * ·) c = c * l.foldl (· * ·) 1 := by
  induction l generalizing c with
  | nil => simp
  | cons a r ih =>
    rw [List.foldl_cons, List.foldl_cons, ih (c * a), ih (1 * a), Int.one_mul, Int.mul_assoc]
theorem prodB_cons (p : Int × Int × Int) (l : List (Int × Int × Int)) : prodB (p :: l) = p.2.2 * prodB l := by
  unfold prodB
  rw [List.map_cons, List.foldl_cons, foldl_mul, Int.one_mul]
noncomputable def sumQ (R : Int) (l : List (Int × Int × Int)) : Int := (l.map fun p => p.1 * p.2.1 * (R.fdiv p.2.2)).sum
theorem prodB_pos {l : List (Int × Int × Int)} (h : ∀ p ∈ l, 0 < p.2.2) : 0 < prodB l := by
  induction l with
  | nil => decide
  | cons p r ih =>
    rw [prodB_cons]
    exact Int.mul_pos (h p List.mem_cons_self) (ih fun q hq => h q (List.mem_cons_of_mem _ hq))
theorem dvd_prodB {l : List (Int × Int × Int)} {p : Int × Int × Int} (h : p ∈ l) : p.2.2 ∣ prodB l := by
  induction l with
  | nil => cases h
  | cons q r ih =>
    rw [prodB_cons]
    rcases List.mem_cons.mp h with rfl | h
    · exact Int.dvd_mul_right _ _
    · exact Int.dvd_trans (ih h) (Int.dvd_mul_left _ _)
theorem sumQ_mul {b : Int} {R : Int} : ∀ {l : List (Int × Int × Int)}, (∀ p ∈ l, p.2.2 ∣ R ∧ p.2.2 ≠ 0) → sumQ (b * R) l = b * sumQ R l
  | [], _ => by unfold sumQ; simp
  | p :: r, h => by
    have ih := sumQ_mul (b := b) (R := R) (l := r) fun q hq => h q (List.mem_cons_of_mem _ hq)
    obtain ⟨⟨c, hc⟩, nz⟩ := h p List.mem_cons_self
    have e1 : R.fdiv p.2.2 = c := by rw [hc]; exact Int.mul_fdiv_cancel_left _ nz
    have e2 : (b * R).fdiv p.2.2 = b * c := by
      rw [hc, show b * (p.2.2 * c) = p.2.2 * (b * c) from by rw [← Int.mul_assoc, Int.mul_comm b, Int.mul_assoc]]
      exact Int.mul_fdiv_cancel_left _ nz
    unfold sumQ at ih ⊢
    rw [List.map_cons, List.sum_cons, List.map_cons, List.sum_cons, ih, e1, e2, Int.mul_add]
    congr 1
    rw [← Int.mul_assoc, ← Int.mul_assoc, Int.mul_comm (p.1 * p.2.1) b, Int.mul_assoc b]
theorem alFold_is : ∀ (l : List (Int × Int × Int)) (T B : Int), (∀ p ∈ l, 0 < p.2.2) → l.foldl alStep (T, B) = (T * prodB l + B * sumQ (prodB l) l, B * prodB l)
  | [], T, B, _ => by
    show (T, B) = (T * 1 + B * 0, B * 1)
    simp
  | p :: r, T, B, h => by
    have hr : ∀ q ∈ r, 0 < q.2.2 := fun q hq => h q (List.mem_cons_of_mem _ hq)
    have hp := h p List.mem_cons_self
    rw [List.foldl_cons, alStep, alFold_is r _ _ hr, prodB_cons]
    have s1 : sumQ (p.2.2 * prodB r) (p :: r) = p.1 * p.2.1 * prodB r + p.2.2 * sumQ (prodB r) r := by
      have s2 := sumQ_mul (b := p.2.2) (R := prodB r) (l := r) fun q hq => ⟨dvd_prodB hq, Int.ne_of_gt (hr q hq)⟩
      unfold sumQ at s2 ⊢
      rw [List.map_cons, List.sum_cons, s2, Int.mul_fdiv_cancel_left _ (Int.ne_of_gt hp)]
    rw [s1]
    refine Prod.ext ?_ ?_
    · show (T * p.2.2 + p.1 * p.2.1 * B) * prodB r + B * p.2.2 * sumQ (prodB r) r = T * (p.2.2 * prodB r) + B * (p.1 * p.2.1 * prodB r + p.2.2 * sumQ (prodB r) r)
      rw [Int.add_mul, Int.mul_add, Int.mul_assoc T, Int.mul_assoc B, Int.mul_comm (p.1 * p.2.1) B, Int.mul_assoc B]
      omega
    · show B * p.2.2 * prodB r = B * (p.2.2 * prodB r)
      rw [Int.mul_assoc]
theorem alFold_eq (ws : List Int) (pts : List (Int × Int)) (h : ∀ p ∈ pts, 0 < p.2) : alFold ws pts = (sumQ (prodB (ws.zip pts)) (ws.zip pts), prodB (ws.zip pts)) := by
  unfold alFold
  rw [alFold_is _ _ _ (fun p hp => h p.2 (List.of_mem_zip hp).2)]
  simp
theorem gcd_one (x : Int) : Int.gcd x 1 = 1 := Int.gcd_one
theorem lowT_one (x : Int) : lowT x 1 = x := by
  unfold lowT cm
  rw [if_neg (by decide), gcd_one]
  exact Int.fdiv_one x
theorem lowB_one (x : Int) : lowB x 1 = 1 := by
  unfold lowB cm
  rw [if_neg (by decide), gcd_one]
  decide
end Sh

namespace L2
open PySem
noncomputable def closeStep (env : Env) (cs : List (Str × Addr)) (p : Str × NameKind) : List (Str × Addr) := if (p.2 == .free) = true then (p.1, (env.cells.lookup p.1).getD 0) :: cs else cs
noncomputable def closeOf (scope : Scope) (env : Env) : List (Str × Addr) := scope.names.foldl (closeStep env) []
theorem close_loop {env : Env} : ∀ (names : List (Str × NameKind)) (cs : List (Str × Addr)), (∀ p ∈ names, p.2 = .free → (env.cells.lookup p.1).isSome = true) →
    (forIn names cs (fun (p : Str × NameKind) (r : List (Str × Addr)) => (if (p.2 == .free) = true then do let a ← cellOf env p.1; pure (ForInStep.yield ((p.1, a) :: r)) else pure (ForInStep.yield r) : Sem (ForInStep (List (Str × Addr)))))) = pure (names.foldl (closeStep env) cs) := by
  intro names
  induction names with
  | nil => intro cs _; rfl
  | cons p r ih =>
    intro cs h
    obtain ⟨n, k⟩ := p
    rw [List.forIn_cons]
    by_cases hk : k = .free
    · subst hk
      obtain ⟨c, hc⟩ := Option.isSome_iff_exists.mp (h (n, .free) List.mem_cons_self rfl)
      have e : cellOf env n = pure c := by unfold cellOf; dsimp only at hc; rw [hc]
      have z : closeStep env cs (n, .free) = (n, c) :: cs := by unfold closeStep; dsimp only at hc ⊢; rw [hc]; rfl
      simp only [e, beq_self_eq_true, if_true, pure_bind, List.foldl_cons, z]
      exact ih _ fun q hq => h q (List.mem_cons_of_mem _ hq)
    · have b : (k == NameKind.free) = false := by simpa using hk
      have z : closeStep env cs (n, k) = cs := by unfold closeStep; dsimp only; rw [b]; rfl
      simp only [b, Bool.false_eq_true, if_false, pure_bind, List.foldl_cons, z]
      exact ih _ fun q hq => h q (List.mem_cons_of_mem _ hq)
theorem closure_is {scope : Scope} {env : Env} (h : ∀ p ∈ scope.names, p.2 = .free → (env.cells.lookup p.1).isSome = true) : closureFor scope env = pure (closeOf scope env) := by
  unfold closureFor closeOf
  have := close_loop scope.names [] h
  exact (congrArg (fun m => m >>= fun r => pure r) this).trans rfl
theorem close_mem {env : Env} : ∀ (names : List (Str × NameKind)) (cs : List (Str × Addr)) (x : Str) (c : Addr), (x, c) ∈ names.foldl (closeStep env) cs → (x, c) ∈ cs ∨ ((x, NameKind.free) ∈ names ∧ c = (env.cells.lookup x).getD 0) := by
  intro names
  induction names with
  | nil => intro cs x c h; exact .inl h
  | cons p r ih =>
    intro cs x c h
    obtain ⟨n, k⟩ := p
    rw [List.foldl_cons] at h
    rcases ih _ x c h with h1 | ⟨h1, h2⟩
    · unfold closeStep at h1
      dsimp only at h1
      by_cases hk : k = .free
      · subst hk
        simp only [beq_self_eq_true, if_true] at h1
        rcases List.mem_cons.mp h1 with e | h1
        · injection e with e1 e2
          subst e1; subst e2
          exact .inr ⟨List.mem_cons_self, rfl⟩
        · exact .inl h1
      · have b : (k == NameKind.free) = false := by simpa using hk
        simp only [b, Bool.false_eq_true, if_false] at h1
        exact .inl h1
    · exact .inr ⟨List.mem_cons_of_mem _ h1, h2⟩
theorem mem_of_look {α β : Type} [BEq α] [LawfulBEq α] : ∀ {l : List (α × β)} {a : α} {b : β}, l.lookup a = some b → (a, b) ∈ l
  | [], _, _, h => by simp at h
  | (x, y) :: r, a, b, h => by
    rw [List.lookup_cons] at h
    by_cases e : a = x
    · subst e
      simp only [beq_self_eq_true, if_true] at h
      cases h
      exact List.mem_cons_self
    · have : (a == x) = false := by simpa using e
      simp only [this] at h
      exact List.mem_cons_of_mem _ (mem_of_look h)
theorem look_of_mem {α β : Type} [BEq α] [LawfulBEq α] : ∀ {l : List (α × β)} {a : α} {b : β}, (a, b) ∈ l → ∃ c, l.lookup a = some c
  | [], _, _, h => by cases h
  | (x, y) :: r, a, b, h => by
    rw [List.lookup_cons]
    by_cases e : a = x
    · subst e
      exact ⟨y, by simp⟩
    · have z : (a == x) = false := by simpa using e
      rcases List.mem_cons.mp h with q | q
      · injection q with q1 _; exact absurd q1 e
      · obtain ⟨c, hc⟩ := look_of_mem q
        exact ⟨c, by simp only [z]; exact hc⟩
theorem close_has {env : Env} : ∀ (names : List (Str × NameKind)) (cs : List (Str × Addr)) (x : Str), ((x, NameKind.free) ∈ names ∨ ∃ c, (x, c) ∈ cs) → ∃ c, (x, c) ∈ names.foldl (closeStep env) cs := by
  intro names
  induction names with
  | nil =>
    intro cs x h
    rcases h with h | h
    · cases h
    · exact h
  | cons p r ih =>
    intro cs x h
    rw [List.foldl_cons]
    refine ih _ x ?_
    rcases h with h | ⟨c, h⟩
    · rcases List.mem_cons.mp h with e | h
      · subst e
        exact .inr ⟨_, by unfold closeStep; simp only [beq_self_eq_true, if_true]; exact List.mem_cons_self⟩
      · exact .inl h
    · refine .inr ⟨c, ?_⟩
      unfold closeStep
      split
      · exact List.mem_cons_of_mem _ h
      · exact h
theorem close_look {scope : Scope} {env : Env} (h : ∀ p ∈ scope.names, p.2 = .free → (env.cells.lookup p.1).isSome = true) {x : Str} {c : Addr} (e : (closeOf scope env).lookup x = some c) :
    env.cells.lookup x = some c ∧ (x, NameKind.free) ∈ scope.names := by
  rcases close_mem scope.names [] x c (mem_of_look e) with z | ⟨z, q⟩
  · cases z
  · obtain ⟨d, hd⟩ := Option.isSome_iff_exists.mp (h _ z rfl)
    dsimp only at hd
    rw [hd] at q
    exact ⟨by rw [hd, q]; rfl, z⟩
theorem close_some {scope : Scope} {env : Env} {x : Str} (h : (x, NameKind.free) ∈ scope.names) : ∃ c, (closeOf scope env).lookup x = some c := by
  obtain ⟨c, hc⟩ := close_has (env := env) scope.names [] x (.inl h)
  exact look_of_mem hc
end L2

namespace L2
open PySem
section
variable {prog : Program} {w : World} {A : Around} {R : Result → Shared → Prop} {s : Shared}
theorem comp_turns {elt target iter : Expr} {scope : Scope} {pos : Pos} {it acc : Value} {env : Env} (Wd : Nat → Shared → Prop)
    (turn : ∀ n s, Wd n s → wpAny (model prog w) A (pyNext it) (fun r s1 => match r with
      | none => R (.ok .next) s1
      | some v => wpAny (model prog w) A (letOwnedTupleGo target it v) (fun _ s2 => wpAny (model prog w) A (assign target env v) (fun _ s3 => wpAny (model prog w) A (eval elt env) (fun x s4 =>
          wpAny (model prog w) A (call (.builtin "list.append") [acc, x]) (fun _ s5 => ∃ m, m < n ∧ Wd m s5) (fun _ _ => False) s4) (fun _ _ => False) s3) (fun _ _ => False) s2) (fun _ _ => False) s1) (fun _ _ => False) s)
    (n : Nat) (h : Wd n s) : codeAny (model prog w) A (.compLoop (.ListComp elt [⟨target, iter, [], 0⟩] scope pos) 0 it acc env) R s := by
  refine codeAny_loop rfl Wd (fun n s hI => ?_) n h
  show wpAny _ _ (Sem.onRaise (compTurn (.ListComp elt [⟨target, iter, [], 0⟩] scope pos) 0 it acc env) _) _ _ s
  refine wpAny_noted ?_
  rw [compTurn_list1]
  refine wpAny_bind (wpAny_standAt (wpAny_bind (wpAny_mono (turn n s hI) (fun r s1 h1 => ?_) fun _ _ z => False.elim z)))
  cases r with
  | none => exact wpAny_pure h1
  | some v =>
    refine wpAny_bind (wpAny_mono h1 (fun _ s2 h2 => ?_) fun _ _ z => False.elim z)
    refine wpAny_bind (wpAny_mono h2 (fun _ s3 h3 => ?_) fun _ _ z => False.elim z)
    refine wpAny_bind (wpAny_bind (wpAny_mono h3 (fun x s4 h4 => ?_) fun _ _ z => False.elim z))
    exact wpAny_bind (wpAny_mono h4 (fun _ s5 h5 => wpAny_pure (wpAny_pure ⟨rfl, h5⟩)) fun _ _ z => False.elim z)
end
end L2


namespace L2
open PySem PySem.Spec PyProof.Rows
noncomputable def Bd (n : Nat) (i : Int) : Prop := i.natAbs < 2 ^ n
theorem Bd.mono {n m : Nat} {i : Int} (h : Bd n i) (k : n ≤ m) : Bd m i := Nat.lt_of_lt_of_le h (Nat.pow_le_pow_right (by decide) k)
theorem Bd.of_le {n : Nat} {i j : Int} (h : Bd n j) (k : i.natAbs ≤ j.natAbs) : Bd n i := Nat.lt_of_le_of_lt k h
theorem Bd.mul {n m : Nat} {i j : Int} (h : Bd n i) (k : Bd m j) : Bd (n + m) (i * j) := by
  unfold Bd
  rw [Int.natAbs_mul, Nat.pow_add]
  rcases Nat.eq_zero_or_pos j.natAbs with z | z
  · rw [z, Nat.mul_zero]
    exact Nat.mul_pos (Nat.two_pow_pos _) (Nat.two_pow_pos _)
  · exact Nat.lt_of_lt_of_le (Nat.mul_lt_mul_of_pos_right h z) (Nat.mul_le_mul_left _ (Nat.le_of_lt k))
theorem Bd.add {n : Nat} {i j : Int} (h : Bd n i) (k : Bd n j) : Bd (n + 1) (i + j) := by
  have h' : i.natAbs < 2 ^ n := h
  have k' : j.natAbs < 2 ^ n := k
  unfold Bd
  rw [Nat.pow_succ]
  have := Int.natAbs_add_le i j
  omega
theorem Bd.neg {n : Nat} {i : Int} (h : Bd n i) : Bd n (-i) := by
  unfold Bd
  rw [Int.natAbs_neg]
  exact h
theorem Bd.sub {n : Nat} {i j : Int} (h : Bd n i) (k : Bd n j) : Bd (n + 1) (i - j) := by
  rw [Int.sub_eq_add_neg]
  exact h.add k.neg
theorem Bd.lit {n : Nat} {i : Int} (h : i.natAbs < 2 ^ n := by decide) : Bd n i := h
theorem Bd.bits {n : Nat} {i : Int} (h : Bd n i) : Builtin.Int.intBits i ≤ n := by
  have h' : i.natAbs < 2 ^ n := h
  unfold Builtin.Int.intBits
  split
  · exact Nat.zero_le _
  · rename_i z
    have nz : i.natAbs ≠ 0 := by
      intro q
      apply z
      rw [Int.natAbs_eq_zero.mp q]
      rfl
    exact (Nat.log2_lt nz).mpr h'
theorem Bd.fdiv {n : Nat} {i : Int} (h : Bd n i) (j : Int) : Bd n (i.fdiv j) :=
  h.of_le (Int.natAbs_fdiv_le_natAbs i j)
noncomputable def CMulW (i j : Int) : Prop := Bd 60000 i ∧ Bd 60000 j
noncomputable def CDivW (_ j : Int) : Prop := j ≠ 0 ∧ Bd 8000 j
section
variable {X : Cx}
theorem CMulW.ok {i j : Int} (h : CMulW i j) : IntMulOk i j := by
  have h1 := h.1.bits
  have h2 := h.2.bits
  have hc : Builtin.Int.intTooBig (Builtin.Int.intBits i + Builtin.Int.intBits j) = false := by
    unfold Builtin.Int.intTooBig
    rw [bitsLine_eq]
    exact decide_eq_false (by omega)
  unfold IntMulOk
  rw [hc]
  simp
theorem op_mulW : OpR X (binaryOp .Mult) (rI CMulW fun i j => .int (i * j)) := opI fun _ _ _ _ _ _ _ hc q => mul_int q hc.ok
theorem op_fdivW : OpR X (binaryOp .FloorDiv) (rI CDivW fun i j => .int (i.fdiv j)) := opI fun _ _ _ _ _ _ _ hc q => by
  refine floordiv_int hc.1 q (.inl (PyProof.noPylong_of_log2 ?_))
  have h' : _ < 2 ^ 8000 := hc.2
  have nz : _ ≠ 0 := fun z => hc.1 (Int.natAbs_eq_zero.mp z)
  exact Nat.lt_trans ((Nat.log2_lt nz).mpr h') (by decide)
end

section
variable {X : Cx}
noncomputable def rInst (K : PySem.W.Frag) : List V → Hp → VK → Prop := fun xs H Q => ∃ x c t b, xs = [x, .ty c] ∧ TyOf K H x t ∧ PySem.W.kitOne K t (.type c) = some b ∧ Q (.bl b) H
theorem call_isinst : CallR X (.builtin "isinstance") (rInst X.K) := by
  intro pins s σ H xs us Q I r h
  obtain ⟨x, c, t, b, rfl, ty, e, q⟩ := h
  obtain ⟨u, v, rfl, ru, rv⟩ := vals2 r
  cases (show v = Value.type c from rv)
  exact isinst_ok I ru ty e fun tk => ⟨.bl b, H, I.tok tk, rfl, q⟩
end

mutual
inductive Dp (K : PySem.W.Frag) (H : Hp) : V → PyData → Prop where
  | non : Dp K H .non .none
  | bl (b : Bool) : Dp K H (.bl b) (.bool b)
  | int (i : Int) : Dp K H (.int i) (.int i)
  | str (x : Str) : Dp K H (.str x) (.str x)
  | lst {a : Addr} {xs : List V} {ds : List PyData} (e : SqL K H a xs) (h : DpAll K H xs ds) : Dp K H (.ref a) (.list ds)
  | tup {a : Addr} {xs : List V} {ds : List PyData} (e : SqT K H a xs) (h : DpAll K H xs ds) : Dp K H (.ref a) (.tuple ds)
inductive DpAll (K : PySem.W.Frag) (H : Hp) : List V → List PyData → Prop where
  | nil : DpAll K H [] []
  | cons {x : V} {xs : List V} {d : PyData} {ds : List PyData} (h : Dp K H x d) (t : DpAll K H xs ds) : DpAll K H (x :: xs) (d :: ds)
end
section
variable {X : Cx} {pins : List (Addr × Obj)} {σ : St} {H : Hp} {s : Shared}
mutual
theorem Dp.reads (I : Inv X pins σ H s) : ∀ {x : V} {d : PyData} {u : Value}, Dp X.K H x d → RelV x u → ∃ as, Reads s.heap u d as
  | _, _, _, .non, r => by cases r; exact ⟨_, .none⟩
  | _, _, _, .bl b, r => by cases r; exact ⟨_, .bool b⟩
  | _, _, _, .int i, r => by obtain ⟨t, rfl⟩ := r; exact ⟨_, .int i t⟩
  | _, _, _, .str x, r => by obtain ⟨t, rfl⟩ := r; exact ⟨_, .str x t⟩
  | _, _, _, .lst e h, r => by
    cases r
    obtain ⟨its, rv, ⟨o, n, e1, e2, _, e3⟩, _⟩ := I.list e
    obtain ⟨as, q⟩ := DpAll.reads I h rv
    exact ⟨_, .list e1 e2 e3 (by simpa using q)⟩
  | _, _, _, .tup e h, r => by
    cases r
    obtain ⟨its, rv, ⟨o, e1, e2, n, e3⟩, _⟩ := I.tuple e
    obtain ⟨as, q⟩ := DpAll.reads I h rv
    exact ⟨_, .tuple e1 e2 e3 (by simpa using q)⟩
theorem DpAll.reads (I : Inv X pins σ H s) : ∀ {xs : List V} {ds : List PyData} {us : List Value}, DpAll X.K H xs ds → Vals xs us → ∃ as, ReadsAll s.heap us ds as
  | _, _, _, .nil, r => by cases r; exact ⟨_, .nil⟩
  | _, _, _, .cons h t, r => by
    cases r with
    | cons r1 r2 =>
      obtain ⟨_, q1⟩ := Dp.reads I h r1
      obtain ⟨_, q2⟩ := DpAll.reads I t r2
      exact ⟨_, .cons q1 q2⟩
end
end
section
variable {X : Cx}
end

section
variable {X : Cx}
theorem call_all (hc : X.calm = true) : CallR X (.builtin "all") (fun xs H Q => ∃ (p : Addr) (bs : List Bool), xs = [.ref p] ∧ SqL X.K H p (bs.map V.bl) ∧ Q (.bl (bs.all id)) H) := by
  intro pins s σ H xs us Q I r h
  obtain ⟨p, bs, rfl, hq, q⟩ := h
  obtain ⟨u, rfl, ru⟩ := vals1 r
  cases ru
  obtain ⟨its, rv, pl, hz⟩ := I.list hq
  have hh : X.A.in1.handled = none := I.ok.hd hc
  have hlt : p < s.heap.objs.size := by obtain ⟨o, n, e, _⟩ := pl; exact Heap.lt_size e
  refine call_all_walk (wpAny_pyIter_list pl.isList ?_)
  have hlen : its.length = bs.length := by rw [← rv.length, List.length_map]
  refine ⟨s.heap.objs.size, _, _, _, _, _, fun i => bs.getD i true, rfl, Walks.list hh s.heap.objs.size p (Nat.ne_of_lt hlt) its.toArray, ⟨⟨_, Heap.get?_push_size _ rfl, rfl, rfl⟩, pl.isList.push _⟩, ?_, fun h' tk kk => ?_⟩
  · intro i v s' Q' E' hP hQ'
    have e1 : its[i]? = some v := by simpa using hP
    have hi : i < its.length := (List.getElem?_eq_some_iff.mp e1).1
    have hb : (bs.map V.bl)[i]? = some (.bl (bs.getD i true)) := by
      rw [List.getElem?_map, List.getElem?_eq_getElem (by omega), List.getD_eq_getElem?_getD, List.getElem?_eq_getElem (by omega)]
      rfl
    obtain ⟨u', e2, r2⟩ := rv.get hb
    rw [e1] at e2
    cases e2
    cases r2
    exact wpAny_truthy_bool hQ'
  · have e : (List.range its.toArray.size).all (fun i => bs.getD i true) = bs.all id := by
      rw [List.size_toArray, hlen]
      rw [Bool.eq_iff_iff, List.all_eq_true, List.all_eq_true]
      constructor
      · intro z b hb
        obtain ⟨i, hi, rfl⟩ := List.mem_iff_getElem.mp hb
        have := z i (List.mem_range.mpr hi)
        rw [List.getD_eq_getElem?_getD, List.getElem?_eq_getElem hi] at this
        exact this
      · intro z i hi
        have hi' := List.mem_range.mp hi
        rw [List.getD_eq_getElem?_getD, List.getElem?_eq_getElem hi']
        exact z _ (List.getElem_mem hi')
    refine ⟨.bl (bs.all id), H, I.kept (h' := h') (t' := tk) fun b o eb => kk b o ?_ (Heap.get?_push_of_some _ eb), ?_, q⟩
    · intro hb
      have : b = s.heap.objs.size := by simpa using hb
      rw [this] at eb
      exact absurd (Heap.lt_size eb) (Nat.lt_irrefl _)
    · rw [e]
      rfl
end
end L2


namespace L2
open PySem PySem.Spec PyProof.Rows
noncomputable abbrev blockCx (X : Cx) (scope : Scope) (N : List Str) (C : Addr) (s₀ : Shared) (H₀ : Hp) (ex : List Addr) : Cx :=
  { X with N := N, s₀ := s₀, H₀ := H₀, env := compEnvC scope (closeOf scope X.env) C X.env, outer := X.stack, ex := ex, fn := fun _ => false, pn := [], xe := fun _ _ => False }
noncomputable def blkSt (own : List Str) (caps : List (Nat × Str)) (σ : St) : St := own.map (fun _ => none) ++ caps.map fun p => (σ[p.1]?).getD none
noncomputable abbrev blkN (own : List Str) (caps : List (Nat × Str)) : List Str := own ++ caps.map (·.2)
structure BlkOk (X : Cx) (scope : Scope) (own : List Str) (caps : List (Nat × Str)) : Prop where
  kind : scope.kind = .function
  ncell : ∀ y ∈ scope.names, y.2 ≠ .cell
  locs : ∀ y ∈ scope.names, y.2 = .local → scope.names.lookup y.1 = some .local
  free : ∀ y ∈ scope.names, y.2 = .free → (X.env.cells.lookup y.1).isSome = true
  caps : ∀ p ∈ caps, X.N[p.1]? = some p.2 ∧ scope.names.lookup p.2 = some .free ∧ (X.env.kindOf p.2 = some .cell ∨ X.env.kindOf p.2 = some .free)
theorem relabel_look {scope : Scope} {env : Env} {x : Str} : (relabel scope env).names.lookup x = (scope.names.lookup x).map fun k => if (k == .free && env.scope.kind == .function && env.kindOf x == some .cell) = true then .cell else k := by
  unfold relabel
  generalize scope.names = l
  induction l with
  | nil => rfl
  | cons p r ih =>
    obtain ⟨n, k⟩ := p
    rw [List.map_cons]
    by_cases e : x = n
    · subst e
      by_cases c : (k == NameKind.free && env.scope.kind == .function && env.kindOf x == some .cell) = true
      · simp only [c, if_true, List.lookup_cons, beq_self_eq_true, Option.map_some]
      · simp only [c, if_false, List.lookup_cons, beq_self_eq_true, Option.map_some, Bool.false_eq_true]
    · have z : (x == n) = false := by simpa using e
      dsimp only
      split <;> simp only [List.lookup_cons, z] <;> exact ih
theorem blk_free {scope : Scope} {env : Env} {x : Str} (nc : ∀ y ∈ scope.names, y.2 ≠ .cell) (h : (relabel scope env).names.lookup x = some .cell ∨ (relabel scope env).names.lookup x = some .free) : (x, NameKind.free) ∈ scope.names := by
  rw [relabel_look] at h
  cases e : scope.names.lookup x with
  | none => rw [e] at h; rcases h with h | h <;> cases h
  | some k =>
    have m := mem_of_look e
    rw [e] at h
    simp only [Option.map_some, Option.some.injEq] at h
    have kf : k = .free := by
      rcases h with h | h
      · split at h
        · rename_i q
          exact eq_of_beq (Bool.and_eq_true_iff.mp (Bool.and_eq_true_iff.mp q).1).1
        · exact absurd h (nc _ m)
      · split at h
        · cases h
        · exact h
    rw [← kf]
    exact m
noncomputable def CompGo (J : It) (g : TG) (te : TE) (Q : VK) (σ0 : St) (H1 : Hp) : Prop := ∃ W : Nat → Nat → List V → St → Hp → Prop, (∃ m, W 0 m [] σ0 H1) ∧
  ∀ i m ys σ1 H, W i m ys σ1 H → (J.stop i H ∧ ∀ p, H p = none → Q (.ref p) (upd H p (.lst ys))) ∨
    (J.go i H ∧ ys.length < sizeLine ∧ ∃ N : V → St → Hp → Prop, (∀ y σ' H', N y σ' H' → ∃ m', m' < m ∧ W (i + 1) m' (ys ++ [y]) σ' H') ∧ ∀ x H', J.yld i H x H' → g x σ1 H' fun σ2 H2 => te σ2 H2 fun y H3 => N y σ2 H3)
noncomputable def tComp (own : List Str) (caps : List (Nat × Str)) (wi : TI) (g : TG) (te : TE) : TE := fun σ H Q => wi σ H fun J H1 => CompGo J g te Q (blkSt own caps σ) H1
section
variable {X : Cx} {scope : Scope} {own : List Str} {caps : List (Nat × Str)} {pins : List (Addr × Obj)} {σ : St} {H : Hp} {s s4 : Shared} {C D : Addr} {fp : List Addr}
theorem blk_ok (B : BlkOk X scope own caps) (I : Inv X pins σ H s) (hf : ∀ b ∈ fp, FpOk X pins H b) (hC : s.heap.objs.size ≤ C) (hlt : ∀ b ∈ fp, b < s.heap.objs.size) : (blockCx X scope (blkN own caps) C s H fp).Ok where
  mod := I.ok.mod
  kind := B.kind
  glob := I.ok.glob
  blt := I.ok.blt
  above := hC
  inj := fun x y c h1 h2 => I.ok.inj x y c (close_look B.free h1).1 (close_look B.free h2).1
  has := fun x h => close_some (blk_free B.ncell h)
  cab := fun x c h _ => by cases h
  hd := I.ok.hd
  frames := I.ok.frames
  stk := .inl rfl
  exf := fun b hb => ⟨fun e => by have := hlt b hb; rw [e] at this; exact absurd (Nat.lt_of_lt_of_le this hC) (Nat.lt_irrefl _), fun x c e => (hf b hb).2.2.2.2.1 x c (close_look B.free e).1⟩
  bs := I.bs
  bsz := Nat.le_trans I.ok.bsz I.sz
  noex := fun b o e hb => by
    rcases (hf b hb).2.2.2.1 with z | z
    · exact I.ok.noex b o e z
    · exact absurd (Nat.lt_of_lt_of_le (Heap.lt_size e) (Nat.le_trans I.ok.bsz z)) (Nat.lt_irrefl _)
  exfs := fun b hb z => by
    rcases List.mem_cons.mp (I.stkSub b z) with e | z
    · exact (hf b hb).2.1 e
    · exact (hf b hb).2.2.1 z
  funs := I.stack
  frf := I.stkFree
theorem blk_slot {i : Nat} {x : Str} {v : V} (h1 : (blkN own caps)[i]? = some x) (h2 : (blkSt own caps σ)[i]? = some (some v)) : ∃ j, (j, x) ∈ caps ∧ σ[j]? = some (some v) := by
  unfold blkSt at h2
  by_cases hi : i < own.length
  · rw [List.getElem?_append_left (by simpa using hi), List.getElem?_map] at h2
    cases e : own[i]? with
    | none => rw [e] at h2; cases h2
    | some a => rw [e] at h2; cases h2
  · rw [List.getElem?_append_right (by simpa using hi), List.length_map, List.getElem?_map] at h2
    unfold blkN at h1
    rw [List.getElem?_append_right (by omega), List.getElem?_map] at h1
    cases e : caps[i - own.length]? with
    | none => rw [e] at h1; cases h1
    | some p =>
      obtain ⟨j, n⟩ := p
      rw [e] at h1 h2
      cases h1
      refine ⟨j, List.mem_of_getElem? e, ?_⟩
      simp only [Option.map_some, Option.some.injEq] at h2
      cases q : σ[j]? with
      | none => rw [q] at h2; cases h2
      | some o => rw [q] at h2; exact congrArg some h2
theorem blk_inv (B : BlkOk X scope own caps) (I : Inv X pins σ H s) (hf : ∀ b ∈ fp, FpOk X pins H b) (hC : s.heap.objs.size ≤ C) (hlt : ∀ b ∈ fp, b < s.heap.objs.size)
    {m : Str → Option Value} (hn : s4.heap.Ns C m) (hk : ∀ b o, s.heap.get? b = some o → s4.heap.get? b = some o) (ho : s4.os = s.os) (hb : AllBare s4.gens) :
    Inv (blockCx X scope (blkN own caps) C s H fp) [] (blkSt own caps σ) H s4 where
  ok := blk_ok B I hf hC hlt
  os := ho
  bare := hb
  base := Un.kept hk
  loc := ⟨m, hn, fun i x v h1 h2 h3 => by
    obtain ⟨j, hm, hs⟩ := blk_slot h1 h2
    obtain ⟨c1, c2, c3⟩ := B.caps _ hm
    obtain ⟨m', _, hl⟩ := I.loc
    have vis : Vis X.env.scope x := c3.elim (fun z => .inr (.inl z)) fun z => .inr (.inr z)
    obtain ⟨u, r, l⟩ := hl j x v c1 hs vis
    refine ⟨u, r, .inr ?_⟩
    have hm2 : (x, NameKind.free) ∈ scope.names := mem_of_look c2
    obtain ⟨c', hc'⟩ := close_some (env := X.env) hm2
    have hc2 := (close_look B.free hc').1
    refine ⟨?_, c', hc', ?_⟩
    · show (relabel scope X.env).names.lookup x = some .cell ∨ (relabel scope X.env).names.lookup x = some .free
      rw [relabel_look, c2, Option.map_some]
      split
      · exact .inl rfl
      · exact .inr rfl
    · rcases l with ⟨k, _⟩ | ⟨_, c, e, z⟩
      · rcases c3 with c3 | c3 <;> rw [c3] at k <;> cases k
      · rw [hc2] at e
        cases e
        obtain ⟨o, e1, e2⟩ := z
        exact ⟨o, hk _ o e1, e2⟩⟩
  cell := fun x c e => by
    obtain ⟨v, o, e1, e2⟩ := I.cell x c (close_look B.free e).1
    exact ⟨v, o, hk _ o e1, e2⟩
  free := I.hok.fresh hC
  freeC := fun x c e => I.freeC x c (close_look B.free e).1
  pin := fun p hp => by simp at hp
  hok := I.hok.kept hk
  len := by
    show (blkSt own caps σ).length = (blkN own caps).length
    unfold blkSt blkN
    simp
noncomputable abbrev lobj (its : List Value) (k : Nat) : Obj := { cls := .type "list", data := .seq its.toArray k }
theorem blk_push {Y : Cx} {its : List Value} {k : Nat} {y : Value} {pl : List (Addr × Obj)} {Q : Value → Shared → Prop} {E : Value → Shared → Prop} (I : Inv Y ((D, lobj its k) :: pl) σ H s) (hn : FpOk Y [] H D) (hp : Y.pn = []) (hz : its.length ≤ sizeLine)
    (q : ∀ h' k' tk, (∀ b o, b ≠ D → s.heap.get? b = some o → h'.get? b = some o) → Inv Y [(D, lobj (its ++ [y]) k')] σ H { s with heap := h', toks := tk } → Q .none { s with heap := h', toks := tk }) :
    wpAny (model Y.prog Y.w) Y.A (call (.builtin "list.append") [.ref D, y]) Q E s := by
  have pD := I.pin (D, lobj its k) (List.mem_append_right _ List.mem_cons_self)
  have e : s.heap.get? D = some (lobj its k) := pD.1
  refine call_meets F.slot_list_append ⟨_, e, rfl⟩ F.entry_list_append (F.args_list_append_2 _ _) (PySem.list_append D its.toArray k y (by rw [List.size_toArray]; exact hz)) ⟨e, ?_⟩
  have e2 := PySem.IsL.update e (·.push y)
  have ea : its.toArray.push y = (its ++ [y]).toArray := by simp
  have keep : ∀ b o, b ≠ D → s.heap.get? b = some o → (s.heap.update D (Obj.mapSeq (·.push y))).get? b = some o := fun b o hb eb => (Heap.get?_update_other s.heap _ (Ne.symm hb)).trans eb
  have I0 : Inv Y [] σ H s := I.pins_of fun p hp' => by cases hp'
  have I1 : Inv Y [] σ H { s with heap := s.heap.update D (Obj.mapSeq (·.push y)), toks := s.toks } := I0.turned keep hn.1 hn.2.1 hn.2.2.2.1 hn.2.2.2.2.1 hn.2.2.2.2.2
  have e3 : (s.heap.update D (Obj.mapSeq (·.push y))).get? D = some (lobj (its ++ [y]) _) := e2.trans (by rw [ea])
  have I2 : Inv Y [(D, lobj (its ++ [y]) (if ((its ++ [y]).toArray.size == its.toArray.size) = true then k else k + 1))] σ H { s with heap := s.heap.update D (Obj.mapSeq (·.push y)), toks := s.toks } := I1.pins_of fun p hp' => by
    rw [List.mem_singleton.mp hp']
    exact ⟨e3, hn.1, hn.2.1, hn.2.2.1, fun v z => by cases z⟩
  exact q _ _ s.toks keep I2
end
section
variable {X : Cx} {scope : Scope} {own : List Str} {caps : List (Nat × Str)} {elt tg iter : Expr} {wi : TI} {g : TG} {te : TE} {pos : Pos}
theorem comp_core {pins : List (Addr × Obj)} {σ : St} {H2 : Hp} {s2 : Shared} {it : Addr} {fp : List Addr} {tn : Nat → Heap → Prop} {J : It} {W : Nat → Nat → List V → St → Hp → Prop} {m0 : Nat} {Q : VK} {E : Value → Shared → Prop} {RR : Value → Addr → Result → Shared → Prop}
    (B : BlkOk X scope own caps) (hc : X.calm = true) (hg : ∀ C s₀ H₀ ex, PG (blockCx X scope (blkN own caps) C s₀ H₀ ex) tg g) (he : ∀ C s₀ H₀ ex, PE (blockCx X scope (blkN own caps) C s₀ H₀ ex) elt te)
    (I2 : Inv X pins σ H2 s2) (T : Turn X.prog X.w X.K tg J fp it tn) (st2 : tn 0 s2.heap) (f2 : ∀ b ∈ fp, FpOk X pins H2 b) (w0 : W 0 m0 [] (blkSt own caps σ) H2)
    (turn : ∀ i m ys σ1 H, W i m ys σ1 H → (J.stop i H ∧ ∀ p, H p = none → Q (.ref p) (upd H p (.lst ys))) ∨
      (J.go i H ∧ ys.length < sizeLine ∧ ∃ N : V → St → Hp → Prop, (∀ y σ' H', N y σ' H' → ∃ m', m' < m ∧ W (i + 1) m' (ys ++ [y]) σ' H') ∧ ∀ x H', J.yld i H x H' → g x σ1 H' fun σ2 H2 => te σ2 H2 fun y H3 => N y σ2 H3))
    (hRR : ∀ D C s6 H6 ys m, s6.heap.Ns C m → s2.heap.objs.size ≤ C → (∀ h', Heap.SameBut C s6.heap h' → Inv X pins σ (upd H6 D (.lst ys)) { s6 with heap := h' }) → upd H6 D (.lst ys) C = none → Q (.ref D) (upd H6 D (.lst ys)) → RR (.ref D) C (.ok .next) s6) :
    wpAny (model X.prog X.w) X.A (newList []) (fun acc s3 => wpAny (model X.prog X.w) X.A (newFunctionEnv scope X.env.globals (closeOf scope X.env) [] X.env.qual none .none (some X.env)) (fun cenv s4 =>
      codeAny (model X.prog X.w) X.A (.compStart (.ListComp elt [⟨tg, iter, [], 0⟩] scope pos) 0 (.ref it) acc { cenv with scope := relabel scope X.env }) (RR acc cenv.locals) s4) E s3) E s2 := by
  have hlt : ∀ b ∈ fp, b < s2.heap.objs.size := fun b hb => by
    obtain ⟨o, ho, _⟩ := T.obj _ _ st2 b hb
    exact Heap.lt_size ho
  refine wpAny_newObj_type (wpAny_newFunctionEnv B.ncell (fun y hy => by simp at hy) (fun h4 hns hsb => ?_) B.kind)
  dsimp only at hns hsb ⊢
  generalize hP : s2.heap.push { cls := .type "list", dict := none, data := .seq ([] : List Value).toArray } = HD at hns hsb ⊢
  have hCD : HD.objs.size = s2.heap.objs.size + 1 := by rw [← hP, Heap.size_push]
  have hDC : s2.heap.objs.size ≠ HD.objs.size := by omega
  have hle : s2.heap.objs.size ≤ HD.objs.size := by omega
  have old : ∀ b o, s2.heap.get? b = some o → h4.get? b = some o := fun b o eb => by
    have hb := Heap.lt_size eb
    exact hsb.extBut b o (Nat.ne_of_lt (Nat.lt_of_lt_of_le hb hle)) (Heap.get?_push_of_some _ (by rw [← hP]; exact Heap.get?_push_of_some _ eb))
  have hD4 : h4.get? s2.heap.objs.size = some { cls := .type "list", data := .seq ([] : List Value).toArray 0 } :=
    hsb.extBut _ _ hDC (Heap.get?_push_of_some _ (by rw [← hP]; exact Heap.get?_push_size _ rfl))
  have IY : Inv (blockCx X scope (blkN own caps) HD.objs.size s2 H2 fp) [] (blkSt own caps σ) H2 { s2 with heap := h4, toks := s2.toks + ([] : List (Str × Value)).length } :=
    blk_inv B I2 f2 (by omega) hlt hns old rfl I2.bare
  -- what stays true of the iterator's objects and of the list
  have stat : ∀ {H' : Hp}, (∀ b ∈ fp, H' b = none) → ∀ b ∈ fp, FpOk (blockCx X scope (blkN own caps) HD.objs.size s2 H2 fp) [] H' b := fun {H'} hn b hb => by
    have hb2 := hlt b hb
    refine ⟨hn b hb, ?_, fun z => ?_, .inl hb, fun x c ec => (f2 b hb).2.2.2.2.1 x c (close_look B.free ec).1, fun p hp => by simp at hp⟩
    · exact Nat.ne_of_lt (Nat.lt_of_lt_of_le hb2 hle)
    · rcases List.mem_cons.mp (I2.stkSub b z) with e | z
      · exact (f2 b hb).2.1 e
      · exact (f2 b hb).2.2.1 z
  have statD : ∀ {H' : Hp}, H' s2.heap.objs.size = none → FpOk (blockCx X scope (blkN own caps) HD.objs.size s2 H2 fp) [] H' s2.heap.objs.size := fun {H'} hn => by
    refine ⟨hn, hDC, fun z => ?_, .inr (Nat.le_refl _), fun x c ec z => ?_, fun p hp => by simp at hp⟩
    · obtain ⟨_, o, ho, _⟩ := I2.stack.mem z
      exact absurd (Heap.lt_size ho) (Nat.lt_irrefl _)
    · obtain ⟨v, o, ho, _⟩ := I2.cell x c (close_look B.free ec).1
      rw [z] at ho
      exact absurd (Heap.lt_size ho) (Nat.lt_irrefl _)
  have neD : ∀ b ∈ fp, b ≠ s2.heap.objs.size := fun b hb => Nat.ne_of_lt (hlt b hb)
  have IY' : Inv (blockCx X scope (blkN own caps) HD.objs.size s2 H2 fp) [(s2.heap.objs.size, lobj [] 0)] (blkSt own caps σ) H2 { s2 with heap := h4, toks := s2.toks + ([] : List (Str × Value)).length } :=
    IY.pins_of fun p hp => by
      rw [List.mem_singleton.mp hp]
      have z := statD (I2.hok.fresh (Nat.le_refl _))
      exact ⟨hD4, z.1, z.2.1, z.2.2.1, fun v z => by cases z⟩
  have loop : ∀ s3 : Shared, s3 = { s2 with heap := h4, toks := s2.toks + ([] : List (Str × Value)).length } →
      codeAny (model X.prog X.w) X.A (.compLoop (.ListComp elt [⟨tg, iter, [], 0⟩] scope pos) 0 (.ref it) (.ref s2.heap.objs.size) (compEnvC scope (closeOf scope X.env) HD.objs.size X.env))
        (RR (.ref s2.heap.objs.size) HD.objs.size) s3 := by
    rintro s3 rfl
    refine comp_turns (fun n s' => ∃ i ys σ' H' its k, Inv (blockCx X scope (blkN own caps) HD.objs.size s2 H2 fp) [(s2.heap.objs.size, lobj its k)] σ' H' s' ∧ tn i s'.heap ∧ (∀ b ∈ fp, H' b = none) ∧
      Vals ys its ∧ ys.length ≤ sizeLine ∧ W i n ys σ' H') ?_ m0 ⟨0, [], _, H2, [], 0, IY', T.keep _ _ _ st2 fun b hb o eb => old b o eb, fun b hb => (f2 b hb).1, .nil, Nat.zero_le _, w0⟩
    rintro n s5 ⟨i, ys, σ5, H5, its, k, I5, st5, fr5, rv5, hz5, w5⟩
    have stat5 : ∀ {H' : Hp}, (∀ b ∈ fp, H' b = none) → ∀ b ∈ fp, FpOk (blockCx X scope (blkN own caps) HD.objs.size s2 H2 fp) [(s2.heap.objs.size, lobj its k)] H' b := fun {H'} hn b hb => by
      obtain ⟨a1, a2, a3, a4, a5, _⟩ := stat hn b hb
      refine ⟨a1, a2, a3, a4, a5, fun p hp => ?_⟩
      have hp' : p ∈ [(s2.heap.objs.size, lobj its k)] := hp
      rw [List.mem_singleton.mp hp']
      exact Ne.symm (neD b hb)
    rcases turn i n ys σ5 H5 w5 with ⟨stop, qn⟩ | ⟨go, hlen, N, hN, step⟩
    · refine thn (T.done (blockCx X scope (blkN own caps) HD.objs.size s2 H2 fp) rfl rfl rfl hc i _ s5 σ5 H5 _ I5 (stat5 fr5) st5 stop) fun r s6 ⟨hr, I6⟩ => ?_
      subst hr
      obtain ⟨pD1, pD2, _⟩ := I6.pin (s2.heap.objs.size, lobj its k) (List.mem_append_right _ List.mem_cons_self)
      obtain ⟨m6, hn6, _⟩ := I6.loc
      refine hRR _ _ s6 H5 ys m6 hn6 (by omega) (fun h' sb => ?_) (by rw [upd_ne (Ne.symm hDC)]; exact I6.free) (qn _ pD2)
      have hC5 : H5 HD.objs.size = none := I6.free
      have nb : ∀ b o, s2.heap.get? b = some o → b ≠ HD.objs.size ∧ b ≠ s2.heap.objs.size := fun b o eb => by
        have hb := Heap.lt_size eb
        exact ⟨Nat.ne_of_lt (Nat.lt_of_lt_of_le hb hle), Nat.ne_of_lt hb⟩
      have nt : ∀ b o, H5 b = some o → b ≠ s2.heap.objs.size := fun b o eb z => by rw [z] at eb; rw [show H5 s2.heap.objs.size = none from pD2] at eb; cases eb
      have un : Un (frs X.stack) fp H2 (upd H5 s2.heap.objs.size (.lst ys)) s2.heap h' :=
        ⟨fun b o eb n1 n2 n3 => sb.extBut b o (nb b o eb).1 (I6.base.keep b o eb n1 n2 n3),
          fun b o eb n1 n2 n3 => by
            obtain ⟨sl, e1⟩ := I6.base.slot b o eb n1 n2 n3
            exact ⟨sl, sb.extBut b _ (nb b o eb).1 e1⟩,
          fun b o eb n1 n3 => by
            rw [upd_ne (nb b o eb).2]
            exact I6.base.free b o eb n1 n3,
          fun b o eb n3 => by
            obtain ⟨o', e1⟩ := I6.base.there b o eb n3
            exact ⟨o', sb.extBut b _ (nb b o eb).1 e1⟩,
          fun b xs eb => by
            have e1 := I6.base.tups b xs eb
            rw [upd_ne (nt b _ e1)]
            exact e1,
          fun b o u eb => by
            have e1 := I6.base.frzs b o u eb
            rw [upd_ne (nt b _ e1)]
            exact e1,
          fun b ps eb => by
            obtain ⟨more, e1⟩ := I6.base.tbls b ps eb
            refine ⟨more, ?_⟩
            rw [upd_ne (nt b _ e1)]
            exact e1⟩
      have ok5 : HOk X.prog X.w (upd H5 s2.heap.objs.size (.lst ys)) h' := fun b u eb => by
        by_cases hb : b = s2.heap.objs.size
        · subst hb
          rw [upd_same] at eb
          cases eb
          exact ⟨hz5, its, k, rv5, sb.extBut _ _ hDC pD1⟩
        · rw [upd_ne hb] at eb
          refine (I6.hok b u eb).stay (fun c v hcv ev => sb.extBut c v ?_ ev) (fun c ec => by rw [upd_ne (nt c _ ec)]; exact ec) fun c xs ec => by rw [upd_ne (nt c _ ec)]; exact ec
          rintro rfl
          rcases hcv with z | z
          · rw [← z, hC5] at eb
            cases eb
          · rw [hC5] at z
            cases z
      exact I2.call' (s' := { s6 with heap := h' }) (ch := fp) I6.os un ok5 I6.bare fun b hb => ⟨(f2 b hb).2.2.2.1, (f2 b hb).2.1, (f2 b hb).2.2.2.2.1, (f2 b hb).2.2.2.2.2⟩
    · refine thn (T.item (blockCx X scope (blkN own caps) HD.objs.size s2 H2 fp) rfl rfl rfl hc i _ s5 σ5 H5 _ I5 (stat5 fr5) st5 go) fun r s6 ⟨u, hr, h6⟩ => ?_
      subst hr
      refine thn h6 fun _ s7 ⟨x, H7, I7, r7, y7, st7, fr7⟩ => ?_
      have I7' := I7.pinned (stat5 fr7) (T.obj _ _ st7)
      refine thn (hg HD.objs.size s2 H2 fp _ s7 σ5 H7 x u _ I7' r7 (step x H7 y7)) fun _ s8 ⟨σ8, H8, I8, q8⟩ => ?_
      refine thn (he HD.objs.size s2 H2 fp _ s8 σ8 H8 _ I8 q8) fun yv s9 ⟨y, H9, I9, r9, n9⟩ => ?_
      obtain ⟨m', hm', w9⟩ := hN y σ8 H9 n9
      have pD9 := (I9.pin (s2.heap.objs.size, lobj its k) (List.mem_append_right _ (List.mem_append_left _ List.mem_cons_self))).2.1
      have hl : its.length = ys.length := rv5.length.symm
      refine blk_push (Y := blockCx X scope (blkN own caps) HD.objs.size s2 H2 fp) (its := its) (k := k) (pl := pinsAt fp s7.heap) I9 (statD pD9) rfl (by omega) fun h' k' tk keep I' => ?_
      refine ⟨m', hm', i + 1, ys ++ [y], σ8, H9, its ++ [yv], k', I', ?_, fun b hb => ?_, rv5.append (.cons r9 .nil), ?_, w9⟩
      · refine T.keep _ _ _ st7 fun b hb o eb => keep b o (neD b hb) ?_
        exact (I9.pin (b, o) (List.mem_append_right _ (List.mem_append_right _ (mem_pinsAt hb eb)))).1
      · obtain ⟨o, eb, _⟩ := T.obj _ _ st7 b hb
        exact (I9.pin (b, o) (List.mem_append_right _ (List.mem_append_right _ (mem_pinsAt hb eb)))).2.1
      · rw [List.length_append, List.length_singleton]
        omega
  exact codeAny_compStart_list (loop _ rfl) (T.self _ 0 _ _ _ (T.keep _ _ _ st2 fun b hb o eb => old b o eb) (loop _ rfl))
theorem pe_comp (B : BlkOk X scope own caps) (hc : X.calm = true) (hi : PI X tg iter wi) (hg : ∀ C s₀ H₀ ex, PG (blockCx X scope (blkN own caps) C s₀ H₀ ex) tg g)
    (he : ∀ C s₀ H₀ ex, PE (blockCx X scope (blkN own caps) C s₀ H₀ ex) elt te) (hs : ∀ x, foldedSetIterable iter X.env x = pure x := by intro _; rfl) :
    PE X (.ListComp elt [⟨tg, iter, [], 0⟩] scope pos) (tComp own caps wi g te) := by
  intro pins s σ H Q I h
  rw [eval_ListComp]
  refine wpAny_comprehension_free (use := none) rfl hs (closure_is B.free) B.kind B.locs ?_
  refine thn (hi pins s σ H _ I h) fun xv s1 h1 => thn h1 fun itv s2 h2 => ?_
  obtain ⟨it, fp, tn, J, H2, e, I2, T, st2, f2, W, ⟨m0, w0⟩, turn⟩ := h2
  subst e
  refine comp_core (RR := fun acc C => compPost (model X.prog X.w) X.A X.xe none (EP X pins σ Q) acc C) B hc hg he I2 T st2 f2 w0 turn fun D C s6 H6 ys m hn hC J6 hC6 q => ?_
  exact ⟨m, hn, fun h' sb => ⟨.ref D, _, J6 h' sb, rfl, q⟩⟩
theorem ps_comp {i : Nat} {y : Str} {py spos : Pos} (hN : X.N.Nodup) (hy : X.N[i]? = some y) (hl : X.env.scope.names.lookup y = some .local) (B : BlkOk X scope own caps) (hc : X.calm = true) (hi : PI X tg iter wi) (hg : ∀ C s₀ H₀ ex, PG (blockCx X scope (blkN own caps) C s₀ H₀ ex) tg g)
    (he : ∀ C s₀ H₀ ex, PE (blockCx X scope (blkN own caps) C s₀ H₀ ex) elt te) (hsw : swapsWith (.ListComp elt [⟨tg, iter, [], 0⟩] scope pos) (some (.Name y py)) spos.line X.env = pure true) (hs : ∀ x, foldedSetIterable iter X.env x = pure x := by intro _; rfl) :
    PS X (.Assign [.Name y py] (.ListComp elt [⟨tg, iter, [], 0⟩] scope pos) spos) (tAsg (tComp own caps wi g te) (gName i)) := by
  intro pins s σ H D0 I h
  rw [exec_Assign_Name_used _ _ _ _ hsw]
  refine wpAny_bind (wpAny_standAt (wpAny_bind ?_))
  change wpAny _ X.A (do let _ ← comprehension (.ListComp elt [⟨tg, iter, [], 0⟩] scope pos) scope X.env _ (newList []) false (eval iter X.env) (some (assign (.Name y py) X.env))) _ _ s
  refine wpAny_bind (wpAny_mono (wpAny_comprehension_free (use := some (assign (.Name y py) X.env)) (Q := fun _ s' => SP X pins D0 .next s') rfl hs (closure_is B.free) B.kind B.locs ?_) (fun _ s' hq => wpAny_pure (wpAny_pure hq)) fun _ _ e => e)
  refine thn (hi pins s σ H _ I h) fun xv s1 h1 => thn h1 fun itv s2 h2 => ?_
  obtain ⟨it, fp, tn, J, H2, e, I2, T, st2, f2, W, ⟨m0, w0⟩, turn⟩ := h2
  subst e
  refine comp_core (Q := fun x H1 => D0.nx (σ.set i (some x)) H1) (RR := fun acc C => compPost (model X.prog X.w) X.A X.xe (some (assign (.Name y py) X.env)) (fun _ s' => SP X pins D0 .next s') acc C) B hc hg he I2 T st2 f2 w0 turn fun D C s6 H6 ys m hn hC J6 hC6 q => ?_
  have I6 : Inv X pins σ (upd H6 D (.lst ys)) s6 := J6 s6.heap (.refl ..)
  have CL : C ≠ X.env.locals := fun z => by rw [z] at hC; exact absurd (Nat.lt_of_lt_of_le I2.lt hC) (Nat.lt_irrefl _)
  have CC : ∀ x c, X.env.cells.lookup x = some c → c ≠ C := fun x c ec z => by
    obtain ⟨v, o, ho, _⟩ := I2.cell x c ec
    rw [z] at ho
    exact absurd (Nat.lt_of_lt_of_le (Heap.lt_size ho) hC) (Nat.lt_irrefl _)
  have CP : ∀ p ∈ X.pn ++ pins, p.1 ≠ C := fun p hp z => by
    have hl := Heap.lt_size (I2.pin p hp).1
    rw [z] at hl
    exact absurd (Nat.lt_of_lt_of_le hl hC) (Nat.lt_irrefl _)
  change wpAny _ X.A (assign (.Name y py) X.env (.ref D)) _ _ s6
  refine wpAny_assign_Name (store_ok2 I6 hN hy (.inl hl) (v := .ref D) rfl (fun s7 I7 ⟨a, sb, ha⟩ => ?_) (.inr hl))
  have aC : C ≠ a := fun z => by
    rcases ha with e | e
    · exact CL (z.trans e)
    · exact CC _ _ e z.symm
  refine ⟨m, hn.sameBut sb aC, fun h' sb' => ⟨_, _, I7.turned (h' := h') (t' := s7.toks) (it := C) (fun b o hb eb => sb'.extBut b o hb eb) hC6 CL (.inr (Nat.le_trans I2.sz hC)) CC CP, q⟩⟩
end
end L2

namespace L2
open PySem PySem.Spec PyProof.Rows
theorem comp_list {K : PySem.W.Frag} {a : Addr} {xs : List V} {g : TG} {te : TE} {σ0 : St} {H : Hp} {Q : VK} (Pv : Nat → List V → St → Hp → Prop) (h0 : Pv 0 [] σ0 H) (hl : ∀ i ys σ H, i ≤ xs.length → Pv i ys σ H → SqL K H a xs ∧ ys.length ≤ i) (hz : xs.length ≤ sizeLine)
    (hs : ∀ i x ys σ H, xs[i]? = some x → Pv i ys σ H → g x σ H fun σ2 H2 => te σ2 H2 fun y H3 => Pv (i + 1) (ys ++ [y]) σ2 H3)
    (hd : ∀ ys σ H, Pv xs.length ys σ H → ∀ p, H p = none → Q (.ref p) (upd H p (.lst ys))) :
    CompGo (Itl K a) g te Q σ0 H := by
  refine ⟨fun i m ys σ H => m = xs.length - i ∧ i ≤ xs.length ∧ Pv i ys σ H, ⟨xs.length, by simp, Nat.zero_le _, h0⟩, ?_⟩
  rintro i m ys σ H ⟨rfl, hi, p⟩
  obtain ⟨q, hy⟩ := hl i ys σ H hi p
  by_cases hlt : i < xs.length
  · refine .inr ⟨⟨xs, xs[i], q, by simp [hlt]⟩, by omega, fun y σ' H' => Pv (i + 1) (ys ++ [y]) σ' H', fun y σ' H' z => ⟨xs.length - (i + 1), by omega, rfl, hlt, z⟩, fun x H' y => ?_⟩
    obtain ⟨e, y⟩ := y
    subst e
    exact hs i x ys σ _ (y xs q) p
  · have e : i = xs.length := by omega
    subst e
    exact .inl ⟨⟨xs, q, Nat.le_refl _⟩, hd ys σ H p⟩
structure Fn (P : Program) (w : World) (K : PySem.W.Frag) (mg : Str → Option Value) (base : Heap) (x : Str) (ps : List Str) (k : Nat) (sp : Sp) : Prop where
  ex : ∃ f fd, FnOk P w K mg base CX0 k f fd ps sp ∧ mg x = some (.ref f) ∧ PySem.W.keepIn K (.ref f) = true ∧ Binds K fd ps []
theorem Fn.mono {P : Program} {w : World} {K : PySem.W.Frag} {mg : Str → Option Value} {base : Heap} {x : Str} {ps : List Str} {j k : Nat} {sp : Sp} (F : Fn P w K mg base x ps j sp) (h : j ≤ k) : Fn P w K mg base x ps k sp := by
  obtain ⟨f, fd, a, b, c, d⟩ := F.ex
  exact ⟨f, fd, a.mono h, b, c, d⟩
theorem pe_callF {X : Cx} {x : Str} {ps : List Str} {k : Nat} {sp : Sp} {e : Expr} {es : List Expr} {t : TA} {p pos : Pos} (F : Fn X.prog X.w X.K X.mg X.base x ps k sp) (hr : Room k X.A) (hg : Gl X x) (ha : PA X (e :: es) t)
    (hdb : (x == ("__debug__" : Str)) = false := by decide) (he : starEach (e :: es) X.env = (false, eval e X.env) :: starEach es X.env := by rfl) (hpl : (backTo pos (starEach es X.env)).any (·.1) = false := by rfl) :
    PE X (.Call (.Name x p) (e :: es) [] pos) (tCall sp [] E0 t) := by
  obtain ⟨f, fd, a, b, c, d⟩ := F.ex
  exact pe_call a hr hg b c d .nil pass0 ha hdb he hpl
end L2


namespace L2
open PySem PySem.Spec PyProof.Rows
theorem boot_isinstance_ : bootBuiltins "isinstance" = some (.builtin "isinstance") := by decide +kernel
theorem boot_len_ : bootBuiltins "len" = some (.builtin "len") := by decide +kernel
theorem boot_abs_ : bootBuiltins "abs" = some (.builtin "abs") := by decide +kernel
theorem boot_all_ : bootBuiltins "all" = some (.builtin "all") := by decide +kernel
theorem boot_int_ : bootBuiltins "int" = some (.type "int") := by decide +kernel
theorem boot_bool_ : bootBuiltins "bool" = some (.type "bool") := by decide +kernel
theorem boot_tuple_ : bootBuiltins "tuple" = some (.type "tuple") := by decide +kernel
theorem boot_list_ : bootBuiltins "list" = some (.type "list") := by decide +kernel
section
variable (K : PySem.W.Frag)
theorem kit_int_int : PySem.W.kitOne K (.type "int") (.type "int") = some true := by first | rfl | decide +kernel | (unfold PySem.W.kitOne; rw [if_pos (by decide +kernel)])
theorem kit_int_bool : PySem.W.kitOne K (.type "int") (.type "bool") = some false := by first | rfl | decide +kernel | (unfold PySem.W.kitOne; rw [if_neg (by decide +kernel)]; rfl)
theorem kit_tuple_tuple : PySem.W.kitOne K (.type "tuple") (.type "tuple") = some true := by first | rfl | decide +kernel | (unfold PySem.W.kitOne; rw [if_pos (by decide +kernel)])
end
theorem blk_mk {X : Cx} {scope : Scope} {own : List Str} (k : scope.kind = .function) (n : scope.names.all (fun y => y.2 != .cell && y.2 != .free && (y.2 != .local || scope.names.lookup y.1 == some .local)) = true := by first | rfl | decide +kernel) : BlkOk X scope own [] := by
  have z : ∀ y ∈ scope.names, (y.2 != .cell && y.2 != .free && (y.2 != .local || scope.names.lookup y.1 == some .local)) = true := List.all_eq_true.mp n
  refine ⟨k, fun y hy e => ?_, fun y hy e => ?_, fun y hy e => ?_, fun p hp => by cases hp⟩
  · have := z y hy
    rw [e] at this
    simp at this
  · have := z y hy
    rw [e] at this
    simpa using this
  · have := z y hy
    rw [e] at this
    simp at this
structure FunD (K : PySem.W.Frag) (x qual : Str) (st : Stmt) (f : Addr) (fd : FuncData) (d : Value) : Prop where
  ex : ∃ (oc : Value) (od : Option Addr) (kV doc pm : Value) (an : Option Addr) (cdv ct : Value) (osl : Array (Option Value)) (T : Addr) (oT : Obj) (n : Nat),
    fd = PySem.W.fnOf x qual (defArgs st) (defBody st) (defScope st) (.ref T) kV doc pm an cdv ct ∧ K.lookup f = some ⟨oc, od, .func fd, osl⟩ ∧ PySem.W.codeIn K cdv qual = true ∧ K.lookup T = some oT ∧ oT.data = .seq #[d] n
  kp : PySem.W.keepIn K (.ref f) = true
theorem FunD.ok {P : Program} {w : World} {K : PySem.W.Frag} {mg : Str → Option Value} {base : Heap} {x qual : Str} {st : Stmt} {f : Addr} {fd : FuncData} {d : Value} {N ps : List Str} {k : Nat} {sp : Sp} (F : FunD K x qual st f fd d) (S : FnScope N ps (defScope st))
    (len : ∀ vs H Q E, sp vs H Q E → vs.length = ps.length)
    (hbody : ∀ (cdv : Value) (A : Around) (outer : List Env) (s : Shared) (H : Hp) (vs : List V) (Q : VK) (E : XK), Room k (A.deeper (envOfC qual (defScope st) s.heap.objs.size f cdv)) → sp vs H Q E →
      ∃ t, PSs (cxOf CX0 P w K mg base N qual (defScope st) f cdv A outer s H E).nox (defBody st) t ∧ t { nx := fun _ H' => Q .non H', rt := Q } (start N vs) H) : FnOk P w K mg base CX0 (k + 1) f fd ps sp := by
  obtain ⟨oc, od, kV, doc, pm, an, cdv, ct, osl, T, oT, n, rfl, lk, hcd, _⟩ := F.ex
  refine fn_of lk hcd S len fun A outer s H vs Q E hr hsp => ?_
  obtain ⟨t, h, q⟩ := hbody cdv A outer s H vs Q E hr hsp
  exact ⟨t, h.nox, q⟩
end L2
namespace L2
open PySem PySem.Spec PyProof.Rows
theorem fund_mk {K : PySem.W.Frag} {x qual : Str} {st : Stmt} {f T : Addr} {oc kV doc pm cdv ct d : Value} {od an : Option Addr} {osl : Array (Option Value)} {oT : Obj} {n : Nat} (l : K.lookup f = some ⟨oc, od, .func (PySem.W.fnOf x qual (defArgs st) (defBody st) (defScope st) (.ref T) kV doc pm an cdv ct), osl⟩)
    (c : PySem.W.codeIn K cdv qual = true) (k : PySem.W.keepIn K (.ref f) = true) (t : K.lookup T = some oT) (e : oT.data = .seq #[d] n) : FunD K x qual st f (PySem.W.fnOf x qual (defArgs st) (defBody st) (defScope st) (.ref T) kV doc pm an cdv ct) d :=
  ⟨⟨oc, od, kV, doc, pm, an, cdv, ct, osl, T, oT, n, rfl, l, c, t, e⟩, k⟩
theorem FunD.binds {K : PySem.W.Frag} {x qual : Str} {st : Stmt} {f : Addr} {fd : FuncData} {d : Value} {ps : List Str} (F : FunD K x qual st f fd d)
    (h : ∀ (T : Addr) (kV doc pm : Value) (an : Option Addr) (cdv ct : Value) (us : List Value), us.length = ps.length → ∃ k : Option (Array Value) → Sem (List (Str × Value)),
      bindArgs (PySem.W.fnOf x qual (defArgs st) (defBody st) (defScope st) (.ref T) kV doc pm an cdv ct) ⟨us, []⟩ = seqItems? (.ref T) >>= k ∧ k (some #[d]) = pure (ps.zip us)) : Binds K fd ps [] := by
  obtain ⟨oc, od, kV, doc, pm, an, cdv, ct, osl, T, oT, n, rfl, lk, hcd, t, e⟩ := F.ex
  intro s us X hl
  rw [List.append_nil] at hl ⊢
  obtain ⟨k, h1, h2⟩ := h T kV doc pm an cdv ct us hl
  exact .of_defaults (T := T) rfl (X T oT t) e h1 h2
end L2
namespace L2
open PySem PySem.Spec PyProof.Rows
theorem blk_cap {X : Cx} {scope S : Scope} {own N : List Str} {caps : List (Nat × Str)} (k : scope.kind = .function) (n : scope.names.all (fun y => y.2 != .cell && (y.2 != .local || scope.names.lookup y.1 == some .local)) = true)
    (hS : X.env.scope = S) (hc : ∃ n, X.env.cells = cellsFrom n S.names []) (hN : X.N = N) (fr : scope.names.all (fun y => y.2 != .free || S.names.lookup y.1 == some .cell) = true)
    (cp : caps.all (fun p => N[p.1]? == some p.2 && scope.names.lookup p.2 == some .free && S.names.lookup p.2 == some .cell) = true) : BlkOk X scope own caps := by
  have z : ∀ y ∈ scope.names, (y.2 != .cell && (y.2 != .local || scope.names.lookup y.1 == some .local)) = true := List.all_eq_true.mp n
  obtain ⟨nn, hc⟩ := hc
  refine ⟨k, fun y hy e => ?_, fun y hy e => ?_, fun y hy e => ?_, fun p hp => ?_⟩
  · have := z y hy
    rw [e] at this
    simp at this
  · have := z y hy
    rw [e] at this
    simpa using this
  · have q := List.all_eq_true.mp fr y hy
    rw [e] at q
    have q2 : S.names.lookup y.1 = some .cell := by simpa using q
    rw [hc]
    exact PySem.W.cellsFrom_some S.names nn [] (.inl q2)
  · have q := List.all_eq_true.mp cp p hp
    simp only [Bool.and_eq_true, beq_iff_eq] at q
    refine ⟨by rw [hN]; exact q.1.1, q.1.2, .inl ?_⟩
    show X.env.scope.names.lookup p.2 = some .cell
    rw [hS]
    exact q.2
structure FnD (P : Program) (w : World) (K : PySem.W.Frag) (mg : Str → Option Value) (base : Heap) (x : Str) (ps : List Str) (k : Nat) (sp : Sp) (dv : V) : Prop where
  ex : ∃ f fd d, FnOk P w K mg base CX0 k f fd ps sp ∧ mg x = some (.ref f) ∧ PySem.W.keepIn K (.ref f) = true ∧ Binds K fd ps [] ∧ Binds K fd ps [d] ∧ RelV dv d
theorem FnD.mono {P : Program} {w : World} {K : PySem.W.Frag} {mg : Str → Option Value} {base : Heap} {x : Str} {ps : List Str} {j k : Nat} {sp : Sp} {dv : V} (F : FnD P w K mg base x ps j sp dv) (h : j ≤ k) : FnD P w K mg base x ps k sp dv := by
  obtain ⟨f, fd, d, a, b, c, e⟩ := F.ex
  exact ⟨f, fd, d, a.mono h, b, c, e⟩
theorem FnD.fn {P : Program} {w : World} {K : PySem.W.Frag} {mg : Str → Option Value} {base : Heap} {x : Str} {ps : List Str} {k : Nat} {sp : Sp} {dv : V} (F : FnD P w K mg base x ps k sp dv) : Fn P w K mg base x ps k sp := by
  obtain ⟨f, fd, d, a, b, c, e, _⟩ := F.ex
  exact ⟨f, fd, a, b, c, e⟩
theorem pe_callF1 {X : Cx} {x : Str} {ps : List Str} {k : Nat} {sp : Sp} {e : Expr} {es : List Expr} {t : TA} {p pos : Pos} {dv : V} (F : FnD X.prog X.w X.K X.mg X.base x ps k sp dv) (hr : Room k X.A) (hg : Gl X x) (ha : PA X (e :: es) t)
    (hdb : (x == ("__debug__" : Str)) = false := by decide) (he : starEach (e :: es) X.env = (false, eval e X.env) :: starEach es X.env := by rfl) (hpl : (backTo pos (starEach es X.env)).any (·.1) = false := by rfl) :
    PE X (.Call (.Name x p) (e :: es) [] pos) (tCall sp [dv] E0 t) := by
  obtain ⟨f, fd, d, a, b, c, _, h2, r⟩ := F.ex
  exact pe_call a hr hg b c h2 (.cons r .nil) pass0 ha hdb he hpl
theorem FunD.binds1 {K : PySem.W.Frag} {x qual : Str} {st : Stmt} {f : Addr} {fd : FuncData} {d : Value} {ps : List Str} (F : FunD K x qual st f fd d)
    (h : ∀ (T : Addr) (kV doc pm : Value) (an : Option Addr) (cdv ct : Value) (us : List Value), us.length + 1 = ps.length → ∃ k : Option (Array Value) → Sem (List (Str × Value)),
      bindArgs (PySem.W.fnOf x qual (defArgs st) (defBody st) (defScope st) (.ref T) kV doc pm an cdv ct) ⟨us, []⟩ = seqItems? (.ref T) >>= k ∧ k (some #[d]) = pure (ps.zip (us ++ [d]))) : Binds K fd ps [d] := by
  obtain ⟨oc, od, kV, doc, pm, an, cdv, ct, osl, T, oT, n, rfl, lk, hcd, t, e⟩ := F.ex
  intro s us X hl
  rw [List.length_append, List.length_singleton] at hl
  obtain ⟨k, h1, h2⟩ := h T kV doc pm an cdv ct us hl
  exact .of_defaults (T := T) rfl (X T oT t) e h1 h2
theorem cut_last (xs : List V) (v : V) : cutV (xs ++ [v]) none (some (-1)) = xs := by
  unfold cutV
  have e1 : HT.sIx (xs ++ [v]).length 0 none = 0 := rfl
  have e2 : HT.sIx (xs ++ [v]).length (xs ++ [v]).length (some (-1)) = xs.length := by
    show (if (-1 : Int) < 0 then ((-1 : Int) + ((xs ++ [v]).length : Int)).toNat else min (-1 : Int).toNat (xs ++ [v]).length) = xs.length
    rw [if_pos (by decide), List.length_append, List.length_singleton]
    omega
  rw [e1, e2]
  simp
theorem cut_last_no (xs : List V) (v : V) : ¬ (HT.sIx (xs ++ [v]).length 0 none = 0 ∧ HT.sIx (xs ++ [v]).length (xs ++ [v]).length (some (-1)) = (xs ++ [v]).length) := by
  rintro ⟨_, e⟩
  have e2 : HT.sIx (xs ++ [v]).length (xs ++ [v]).length (some (-1)) = xs.length := by
    show (if (-1 : Int) < 0 then ((-1 : Int) + ((xs ++ [v]).length : Int)).toNat else min (-1 : Int).toNat (xs ++ [v]).length) = xs.length
    rw [if_pos (by decide), List.length_append, List.length_singleton]
    omega
  rw [e2, List.length_append, List.length_singleton] at e
  omega
end L2
namespace L2
theorem iteB1 {b : Bool} {A B : Prop} (e : b = true) (h : A) : if b = true then A else B := by
  rw [if_pos e]
  exact h
theorem iteB0 {b : Bool} {A B : Prop} (e : b = false) (h : B) : if b = true then A else B := by
  rw [if_neg (by rw [e]; exact Bool.false_ne_true)]
  exact h
theorem dec_yes {i j : Int} (h : i = j) : decide (V.int i = V.int j) = true := decide_eq_true (by rw [h])
theorem dec_no {i j : Int} (h : i ≠ j) : decide (V.int i = V.int j) = false := decide_eq_false fun e => h (by injection e)
theorem ndec_no {i j : Int} (h : i ≠ j) : (!decide (V.int i = V.int j)) = true := by rw [dec_no h]; rfl
theorem ndec_yes {i j : Int} (h : i = j) : (!decide (V.int i = V.int j)) = false := by rw [dec_yes h]; rfl
end L2

set_option maxRecDepth 100000
namespace L2
open PySem
section
variable {prog : Program} {w : World} {A : Around} {E : Value → Shared → Prop} {s : Shared}
theorem draws_tup (hh : A.handled = none) (it t : Addr) (hne : t ≠ it) (items : Array Value) :
    Draws prog w A it [it, t] items.size (fun i v => items[i]? = some v) (fun i h => h.IsTupleIter it t i ∧ h.IsTuple t items) where
  live := fun _ _ st => let ⟨o, ho, _⟩ := st.1; ⟨o, ho⟩
  frame := fun _ _ _ st hk => ⟨let ⟨o, e, r⟩ := st.1; ⟨o, hk it (by simp) o e, r⟩, let ⟨o, e, r⟩ := st.2; ⟨o, hk t (by simp) o e, r⟩⟩
  item := fun i s Q E hi st hQ => by
    obtain ⟨hit, ht⟩ := st
    obtain ⟨o, ho, hc, hd⟩ := id hit
    obtain ⟨ol, hol, _, nl, hdl⟩ := id ht
    have hx : items[i]? = some items[i] := by simp [hi]
    unfold Builtin.SmallTypes.nextOf
    refine wpAny_bind (wpAny_callSpecial?_slot (name := Str.ofString "__next__") hit.typeIs F.slot_tuple_iterator_next (wpAny_call_entry F.slot_tuple_iterator_next hit.typeIs F.entry_tuple_iterator_next ?_ (F.args_tuple_iterator_next_1 _)))
    change wpAny _ _ (field (.ref it) 0 >>= _) _ _ s
    refine wpAny_bind (wpAny_field ho hd (x := .ref t) rfl ?_)
    change wpAny _ _ (if (Value.ref t == Value.none) = true then _ else _) _ _ s
    rw [if_neg (show (Value.ref t == Value.none) ≠ true from Bool.false_ne_true)]
    change wpAny _ _ (field (.ref it) 1 >>= _) _ _ s
    refine wpAny_bind (wpAny_field ho hd (x := .int i 0) rfl ?_)
    change wpAny _ _ (seqItems? (.ref t) >>= _) _ _ s
    refine wpAny_bind (wpAny_seqItems hol hdl ?_)
    simp only [Int.toNat_natCast, hx]
    refine wpAny_bind (wpAny_setField ho hd (by simp) (wpAny_pure ⟨items[i], rfl, wpAny_pure (hQ _ _ s.toks hx ⟨?_, ?_⟩ (Heap.SameBut.update ..))⟩))
    · exact ⟨_, Heap.get?_update_self _ ho (Obj.isFreed_of_fields (Obj.data_mapFields hd _)), (Obj.cls_mapFields ..).trans hc, by rw [Obj.data_mapFields hd]; simp [rawInt]⟩
    · exact ht.extBut (Heap.SameBut.update ..).extBut hne
  done := fun s Q E st hE => by
    obtain ⟨hit, ht⟩ := st
    obtain ⟨o, ho, hc, hd⟩ := id hit
    obtain ⟨ol, hol, _, nl, hdl⟩ := id ht
    have hx : items[items.size]? = none := by simp
    unfold Builtin.SmallTypes.nextOf
    refine wpAny_bind (wpAny_callSpecial?_slot (name := Str.ofString "__next__") hit.typeIs F.slot_tuple_iterator_next (wpAny_call_entry F.slot_tuple_iterator_next hit.typeIs F.entry_tuple_iterator_next ?_ (F.args_tuple_iterator_next_1 _)))
    change wpAny _ _ (field (.ref it) 0 >>= _) _ _ s
    refine wpAny_bind (wpAny_field ho hd (x := .ref t) rfl ?_)
    change wpAny _ _ (if (Value.ref t == Value.none) = true then _ else _) _ _ s
    rw [if_neg (show (Value.ref t == Value.none) ≠ true from Bool.false_ne_true)]
    change wpAny _ _ (field (.ref it) 1 >>= _) _ _ s
    refine wpAny_bind (wpAny_field ho hd (x := .int items.size 0) rfl ?_)
    change wpAny _ _ (seqItems? (.ref t) >>= _) _ _ s
    refine wpAny_bind (wpAny_seqItems hol hdl ?_)
    simp only [Int.toNat_natCast, hx]
    refine wpAny_bind (wpAny_rule (wpAny_bind (wpAny_setField ho hd (by simp) ?_)))
    change wpAny _ _ (newExc (.type "StopIteration") [] >>= _) _ _ _
    refine wpAny_bind ?_
    simp only [newExc, newTuple]
    refine wpAny_bind (wpAny_newObj_type ?_ (by size_fits))
    refine wpAny_bind (m := firstArgMember _ _) (wpAny_of_eq (a := Value.none) (by first | rfl | (simp only [firstArgMember]; rfl)) ?_)
    refine wpAny_newObj_type ?_ (by size_fits)
    simp only [raiseNew]
    refine wpAny_bind (wpAny_handled ?_)
    first | rw [show A.in1.handled = none from hh] | rw [hh]
    refine wpAny_bind (wpAny_pure (wpAny_throw ?_))
    exact hE _ _ (((Heap.SameBut.update ..).extBut.push _).push _) ⟨_, Heap.get?_push_size _ rfl, rfl⟩
structure Zp (z TI TO i1 i2 : Addr) (f1 f2 : List Addr) : Prop where
  a1 : TI ≠ z
  a2 : TO ≠ z
  a3 : i1 ≠ z
  a4 : i2 ≠ z
  a5 : TI ≠ TO
  a6 : TI ≠ i1
  a7 : TI ≠ i2
  a8 : TO ≠ i1
  a9 : TO ≠ i2
  b1 : z ∉ f1
  b2 : z ∉ f2
  b3 : TO ∉ f1
  b4 : TO ∉ f2
  b5 : i1 ∉ f2
  b6 : i2 ∉ f1
theorem zip_draw {z TI TO i1 i2 : Addr} {f1 f2 : List Addr} {n1 n2 k : Nat} {P1 P2 : Nat → Value → Prop} {S1 S2 : Nat → Heap → Prop} {a b : Value} {Q : Value → Shared → Prop}
    (D1 : Draws prog w A i1 f1 n1 P1 S1) (D2 : Draws prog w A i2 f2 n2 P2 S2) (Z : Zp z TI TO i1 i2 f1 f2) (hz : IsZip s.heap z TI TO .none) (hI : IsPair s.heap TI (.ref i1) (.ref i2)) (hO : IsPair s.heap TO a b)
    (s1 : S1 k s.heap) (s2 : S2 k s.heap) (k1 : k < n1) (k2 : k < n2)
    (hQ : ∀ x y h' tk, P1 k x → P2 k y → IsZip h' z TI TO (rawInt s.heap.objs.size) → IsPair h' TI (.ref i1) (.ref i2) → IsPair h' TO x y → S1 (k + 1) h' → S2 (k + 1) h' → IsPair h' s.heap.objs.size x y →
      (∀ c o, c ≠ z → c ≠ TO → c ≠ i1 → c ≠ i2 → s.heap.get? c = some o → h'.get? c = some o) → Q (.ref s.heap.objs.size) { s with heap := h', toks := tk }) :
    wpAny (model prog w) A (Builtin.«zip.__next__» ⟨[.ref z], []⟩) (fun fin s' => ∃ v, fin = .done (.ret v) ∧ Q v s') E s := by
  change wpAny _ _ (field (.ref z) 2 >>= _) _ _ _
  refine wpAny_bind (wpAny_field hz rfl (x := .bool false) rfl ?_)
  change wpAny _ _ (field (.ref z) 3 >>= _) _ _ _
  refine wpAny_bind (wpAny_field hz rfl (x := .ref TI) rfl ?_)
  refine wpAny_bind (wpAny_seqItems hI rfl ?_)
  change wpAny _ _ (Builtin.SmallTypes.ownedTupleIsFree (.ref z) >>= _) _ _ _
  refine wpAny_bind ?_
  unfold Builtin.SmallTypes.ownedTupleIsFree
  refine wpAny_bind (wpAny_field hz rfl (x := .none) rfl (wpAny_pure ?_))
  simp only [if_true]
  refine wpAny_bind (wpAny_rule ?_)
  refine wpAny_bind (wpAny_field hz rfl (x := .ref TO) rfl ?_)
  refine wpAny_bind (wpAny_setField_rec hz (by simp) fun g1 z1 m1 => ?_)
  replace z1 : IsZip g1 z TI TO .ellipsis := z1
  refine wpAny_bind ?_
  simp only [List.zipIdx_cons, List.zipIdx_nil, List.forIn_cons, List.forIn_nil]
  refine wpAny_bind (wpAny_bind (wpAny_onRaise ?_))
  change wpAny _ _ (Builtin.SmallTypes.nextOf (.ref i1) >>= _) _ _ _
  refine wpAny_bind (D1.item k _ _ _ k1 (D1.frame _ _ _ s1 fun c hc o e => m1.extBut c o (fun q => Z.b1 (q ▸ hc)) e) fun x g2 t2 px s12 m2 => wpAny_pure ?_)
  have o2 : IsPair g2 TO a b := m2.extBut _ _ Z.a8 (m1.extBut _ _ Z.a2 hO)
  refine wpAny_bind (wpAny_seqItems o2 rfl ?_)
  refine wpAny_bind (wpAny_updateSeq_pair o2 fun g3 o3 m3 => ?_)
  replace o3 : IsPair g3 TO x b := o3
  refine wpAny_bind (wpAny_letGo (wpAny_pure ?_))
  refine wpAny_bind (wpAny_bind (wpAny_onRaise ?_))
  change wpAny _ _ (Builtin.SmallTypes.nextOf (.ref i2) >>= _) _ _ _
  refine wpAny_bind (D2.item k _ _ _ k2 (D2.frame _ _ _ s2 fun c hc o e => m3.extBut c o (fun q => Z.b4 (q ▸ hc)) (m2.extBut c o (fun q => Z.b5 (q ▸ hc)) (m1.extBut c o (fun q => Z.b2 (q ▸ hc)) e))) fun y g4 t4 py s24 m4 => wpAny_pure ?_)
  have o4 : IsPair g4 TO x b := m4.extBut _ _ Z.a9 o3
  refine wpAny_bind (wpAny_seqItems o4 rfl ?_)
  refine wpAny_bind (wpAny_updateSeq_pair o4 fun g5 o5 m5 => ?_)
  replace o5 : IsPair g5 TO x y := o5
  refine wpAny_bind (wpAny_letGo (wpAny_pure (wpAny_pure ?_)))
  refine wpAny_bind (wpAny_seqItems o5 rfl ?_)
  refine wpAny_bind (wpAny_newTuple ?_)
  have sz : g5.objs.size = s.heap.objs.size := by
    have q5 : g5.objs.size = g4.objs.size := m5.1
    have q4 : g4.objs.size = g3.objs.size := m4.1
    have q3 : g3.objs.size = g2.objs.size := m3.1
    have q2 : g2.objs.size = g1.objs.size := m2.1
    have q1 : g1.objs.size = s.heap.objs.size := m1.1
    omega
  have all5 : ∀ c o, c ≠ z → c ≠ TO → c ≠ i1 → c ≠ i2 → s.heap.get? c = some o → g5.get? c = some o := fun c o c1 c2 c3 c4 e => m5.extBut _ _ c2 (m4.extBut _ _ c4 (m3.extBut _ _ c2 (m2.extBut _ _ c3 (m1.extBut _ _ c1 e))))
  have z5 : IsZip g5 z TI TO .ellipsis := m5.extBut _ _ Z.a2.symm (m4.extBut _ _ Z.a4.symm (m3.extBut _ _ Z.a2.symm (m2.extBut _ _ Z.a3.symm z1)))
  have I5 : IsPair g5 TI (.ref i1) (.ref i2) := all5 _ _ Z.a1 Z.a5 Z.a6 Z.a7 hI
  have u1 : S1 (k + 1) g5 := D1.frame _ _ _ s12 fun c hc o e => m5.extBut c o (fun q => Z.b3 (q ▸ hc)) (m4.extBut c o (fun q => Z.b6 (q ▸ hc)) (m3.extBut c o (fun q => Z.b3 (q ▸ hc)) e))
  have u2 : S2 (k + 1) g5 := D2.frame _ _ _ s24 fun c hc o e => m5.extBut c o (fun q => Z.b4 (q ▸ hc)) e
  have lt : z < g5.objs.size := Heap.lt_size z5
  change wpAny _ _ (Builtin.SmallTypes.ownedTupleHandOut (.ref z) (.ref g5.objs.size) >>= _) _ _ _
  refine wpAny_bind ?_
  unfold Builtin.SmallTypes.ownedTupleHandOut
  have z6 : IsZip (g5.push { cls := .type "tuple", data := .seq #[x, y] }) z TI TO .ellipsis := Heap.get?_push_of_some _ z5
  refine wpAny_bind (wpAny_setField_rec z6 (by simp) fun g7 z7 m7 => ?_)
  replace z7 : IsZip g7 z TI TO (rawInt g5.objs.size) := z7
  refine wpAny_setField_rec z7 (by simp) fun g8 z8 m8 => ?_
  replace z8 : IsZip g8 z TI TO (rawInt g5.objs.size) := z8
  have up : ∀ c o, c ≠ z → g5.get? c = some o → g8.get? c = some o := fun c o c1 e => m8.extBut _ _ c1 (m7.extBut _ _ c1 (Heap.get?_push_of_some _ e))
  have T8 : IsPair g8 g5.objs.size x y := m8.extBut _ _ (Nat.ne_of_gt lt) (m7.extBut _ _ (Nat.ne_of_gt lt) (Heap.get?_push_size _ rfl))
  rw [sz] at z8 T8
  refine wpAny_pure ⟨_, rfl, ?_⟩
  change Q (.ref g5.objs.size) _
  rw [sz]
  exact hQ x y g8 _ px py z8 (up _ _ Z.a1 I5) (up _ _ Z.a2 o5) (D1.frame _ _ _ u1 fun c hc o e => up c o (fun q => Z.b1 (q ▸ hc)) e) (D2.frame _ _ _ u2 fun c hc o e => up c o (fun q => Z.b2 (q ▸ hc)) e) T8
    fun c o c1 c2 c3 c4 e => up c o c1 (all5 c o c1 c2 c3 c4 e)
theorem zip_over {z TI TO i1 i2 : Addr} {f1 f2 : List Addr} {n1 n2 k : Nat} {P1 P2 : Nat → Value → Prop} {S1 S2 : Nat → Heap → Prop} {a b : Value} {Q : Fin → Shared → Prop}
    (D1 : Draws prog w A i1 f1 n1 P1 S1) (D2 : Draws prog w A i2 f2 n2 P2 S2) (Z : Zp z TI TO i1 i2 f1 f2) (hz : IsZip s.heap z TI TO .none) (hI : IsPair s.heap TI (.ref i1) (.ref i2)) (hO : IsPair s.heap TO a b)
    (s1 : S1 k s.heap) (s2 : S2 k s.heap) (k1 : k ≤ n1) (k2 : k ≤ n2) (ke : k = n1 ∨ k = n2)
    (hE : ∀ h' e tk, (∀ c o, c ≠ z → c ≠ TO → c ≠ i1 → c ≠ i2 → s.heap.get? c = some o → h'.get? c = some o) → (∃ o, h'.get? e = some o ∧ o.cls = .type "StopIteration") → E (.ref e) { s with heap := h', toks := tk }) :
    wpAny (model prog w) A (Builtin.«zip.__next__» ⟨[.ref z], []⟩) Q E s := by
  change wpAny _ _ (field (.ref z) 2 >>= _) _ _ _
  refine wpAny_bind (wpAny_field hz rfl (x := .bool false) rfl ?_)
  change wpAny _ _ (field (.ref z) 3 >>= _) _ _ _
  refine wpAny_bind (wpAny_field hz rfl (x := .ref TI) rfl ?_)
  refine wpAny_bind (wpAny_seqItems hI rfl ?_)
  change wpAny _ _ (Builtin.SmallTypes.ownedTupleIsFree (.ref z) >>= _) _ _ _
  refine wpAny_bind ?_
  unfold Builtin.SmallTypes.ownedTupleIsFree
  refine wpAny_bind (wpAny_field hz rfl (x := .none) rfl (wpAny_pure ?_))
  simp only [if_true]
  refine wpAny_bind (wpAny_rule ?_)
  refine wpAny_bind (wpAny_field hz rfl (x := .ref TO) rfl ?_)
  refine wpAny_bind (wpAny_setField_rec hz (by simp) fun g1 z1 m1 => ?_)
  replace z1 : IsZip g1 z TI TO .ellipsis := z1
  refine wpAny_bind ?_
  simp only [List.zipIdx_cons, List.zipIdx_nil, List.forIn_cons, List.forIn_nil]
  refine wpAny_bind (wpAny_bind (wpAny_onRaise ?_))
  change wpAny _ _ (Builtin.SmallTypes.nextOf (.ref i1) >>= _) _ _ _
  have s1' : S1 k g1 := D1.frame _ _ _ s1 fun c hc o e => m1.extBut c o (fun q => Z.b1 (q ▸ hc)) e
  by_cases c1 : k = n1
  · subst c1
    refine wpAny_bind (D1.done _ _ _ s1' fun g2 e m2 he => ?_)
    obtain ⟨oe, he1, he2⟩ := he
    have z2 : IsZip g2 z TI TO .ellipsis := m2 _ _ Z.a3.symm z1
    have nez : e ≠ z := fun q => by subst q; rw [z2] at he1; cases he1; simp at he2
    exact wpAny_setField_rec z2 (by simp) fun g3 _ m3 => hE g3 e _ (fun c o c1 c2 c3 c4 q => m3.extBut _ _ c1 (m2 _ _ c3 (m1.extBut _ _ c1 q))) ⟨oe, m3.extBut _ _ nez he1, he2⟩
  · have c2 : k = n2 := ke.resolve_left c1
    subst c2
    refine wpAny_bind (D1.item k _ _ _ (by omega) s1' fun x g2 t2 px s12 m2 => wpAny_pure ?_)
    have o2 : IsPair g2 TO a b := m2.extBut _ _ Z.a8 (m1.extBut _ _ Z.a2 hO)
    refine wpAny_bind (wpAny_seqItems o2 rfl ?_)
    refine wpAny_bind (wpAny_updateSeq_pair o2 fun g3 o3 m3 => ?_)
    refine wpAny_bind (wpAny_letGo (wpAny_pure ?_))
    refine wpAny_bind (wpAny_bind (wpAny_onRaise ?_))
    change wpAny _ _ (Builtin.SmallTypes.nextOf (.ref i2) >>= _) _ _ _
    refine wpAny_bind (D2.done _ _ _ (D2.frame _ _ _ s2 fun c hc o e => m3.extBut c o (fun q => Z.b4 (q ▸ hc)) (m2.extBut c o (fun q => Z.b5 (q ▸ hc)) (m1.extBut c o (fun q => Z.b2 (q ▸ hc)) e))) fun g4 e m4 he => ?_)
    obtain ⟨oe, he1, he2⟩ := he
    have z4 : IsZip g4 z TI TO .ellipsis := m4 _ _ Z.a4.symm (m3.extBut _ _ Z.a2.symm (m2.extBut _ _ Z.a3.symm z1))
    have nez : e ≠ z := fun q => by subst q; rw [z4] at he1; cases he1; simp at he2
    exact wpAny_setField_rec z4 (by simp) fun g5 _ m5 => hE g5 e _ (fun c o c1 c2 c3 c4 q => m5.extBut _ _ c1 (m4 _ _ c4 (m3.extBut _ _ c2 (m2.extBut _ _ c3 (m1.extBut _ _ c1 q))))) ⟨oe, m5.extBut _ _ nez he1, he2⟩
end

noncomputable abbrev zq1 (h : Heap) (t : Addr) : Heap := h.push { cls := .type "tuple_iterator", data := .fields #[.ref t, .int 0 0] }
noncomputable abbrev zq2 (h : Heap) (t l : Addr) : Heap := (zq1 h t).push { cls := .type "list_iterator", data := .fields #[.ref l, .int 0 0] }
noncomputable abbrev zq3 (h : Heap) (t l : Addr) : Heap := (zq2 h t l).push { cls := .type "tuple", data := .seq #[.ref h.objs.size, .ref (zq1 h t).objs.size] }
noncomputable abbrev zq4 (h : Heap) (t l : Addr) : Heap := (zq3 h t l).push { cls := .type "tuple", data := .seq #[.none, .none] }
noncomputable abbrev zq5 (h : Heap) (t l : Addr) : Heap := (zq4 h t l).push { cls := .type "zip", data := .fields #[.none, .bool false, .bool false, .ref (zq2 h t l).objs.size, .ref (zq3 h t l).objs.size] }
theorem zip_new_tl (t l : Addr) (xs ys : Array Value) :
    Meets (Builtin.«zip.__new__» ⟨[.type "zip", .ref t, .ref l], []⟩) (fun _ R s => s.heap.IsTuple t xs ∧ s.heap.IsList l ys ∧ R (.ok (.ret (.ref (zq4 s.heap t l).objs.size))) { s with heap := zq5 s.heap t l }) :=
  .of_wp fun prog w A R s h => by
    obtain ⟨hp, g, d, tk, os⟩ := s; obtain ⟨h1, h2, h⟩ := h
    have hsub := sub_zip
    have e1 : Heap.IsTuple (Shared.heap ⟨hp, g, d, tk, os⟩) t xs := h1
    have e2 : Heap.IsList (Shared.heap ⟨hp.push { cls := .type "tuple_iterator", data := .fields #[.ref t, .int 0 0] }, g, d, tk, os⟩) l ys := Heap.IsList.push h2 _
    wp_walk using wpAny_pyIter_tuple e1, wpAny_pyIter_list e2
    exact ⟨_, rfl, h⟩
theorem call_zip_tl {prog : Program} {w : World} {A : Around} {E : Value → Shared → Prop} {s : Shared} {t l : Addr} {xs ys : Array Value} {Q : Value → Shared → Prop} (h1 : s.heap.IsTuple t xs) (h2 : s.heap.IsList l ys)
    (h : ∀ h', IsZip h' (s.heap.objs.size + 4) (s.heap.objs.size + 2) (s.heap.objs.size + 3) .none → IsPair h' (s.heap.objs.size + 2) (.ref s.heap.objs.size) (.ref (s.heap.objs.size + 1)) → IsPair h' (s.heap.objs.size + 3) .none .none →
      h'.IsTupleIter s.heap.objs.size t 0 → h'.IsListIter (s.heap.objs.size + 1) l 0 → (∀ c o, s.heap.get? c = some o → h'.get? c = some o) → Q (.ref (s.heap.objs.size + 4)) { s with heap := h' }) :
    wpAny (model prog w) A (call (.type "zip") [.ref t, .ref l]) Q E s := by
  refine callType_new F.called_zip (by decide) (F.typeCall_zip_2 _ _) (F.newCall_zip_2 _ _) (fun obj => F.args_object_init_3 obj _ _) F.entry_zip_new (zip_new_tl t l xs ys) ⟨h1, h2, ?_⟩
  have n1 : (zq1 s.heap t).objs.size = s.heap.objs.size + 1 := Heap.size_push ..
  have n2 : (zq2 s.heap t l).objs.size = s.heap.objs.size + 2 := by rw [Heap.size_push, n1]
  have n3 : (zq3 s.heap t l).objs.size = s.heap.objs.size + 3 := by rw [Heap.size_push, n2]
  have n4 : (zq4 s.heap t l).objs.size = s.heap.objs.size + 4 := by rw [Heap.size_push, n3]
  have p5 : (zq5 s.heap t l).get? (zq4 s.heap t l).objs.size = some _ := Heap.get?_push_size _ rfl
  have p4 : (zq5 s.heap t l).get? (zq3 s.heap t l).objs.size = some _ := Heap.get?_push_of_some _ (Heap.get?_push_size _ rfl)
  have p3 : (zq5 s.heap t l).get? (zq2 s.heap t l).objs.size = some _ := Heap.get?_push_of_some _ (Heap.get?_push_of_some _ (Heap.get?_push_size _ rfl))
  have p2 : (zq5 s.heap t l).get? (zq1 s.heap t).objs.size = some _ := Heap.get?_push_of_some _ (Heap.get?_push_of_some _ (Heap.get?_push_of_some _ (Heap.get?_push_size _ rfl)))
  have p1 : (zq5 s.heap t l).get? s.heap.objs.size = some _ := Heap.get?_push_of_some _ (Heap.get?_push_of_some _ (Heap.get?_push_of_some _ (Heap.get?_push_of_some _ (Heap.get?_push_size _ rfl))))
  change _ ∧ _
  rw [n2, n3, n4] at p5
  rw [n1, n2] at p3
  rw [n3] at p4
  rw [n1] at p2
  rw [n4]
  exact ⟨⟨_, p5, rfl⟩, h _ p5 p3 p4 ⟨_, p1, rfl, rfl⟩ ⟨_, p2, rfl, rfl⟩ fun c o x => Heap.get?_push_of_some _ (Heap.get?_push_of_some _ (Heap.get?_push_of_some _ (Heap.get?_push_of_some _ (Heap.get?_push_of_some _ x))))⟩
section
variable {prog : Program} {w : World} {A : Around} {E : Value → Shared → Prop} {s : Shared}
theorem zip_next {z TI TO i1 i2 : Addr} {f1 f2 : List Addr} {n1 n2 k : Nat} {P1 P2 : Nat → Value → Prop} {S1 S2 : Nat → Heap → Prop} {a b : Value} {Q : Option Value → Shared → Prop}
    (D1 : Draws prog w A.in1 i1 f1 n1 P1 S1) (D2 : Draws prog w A.in1 i2 f2 n2 P2 S2) (Z : Zp z TI TO i1 i2 f1 f2) (hz : IsZip s.heap z TI TO .none) (hI : IsPair s.heap TI (.ref i1) (.ref i2)) (hO : IsPair s.heap TO a b)
    (s1 : S1 k s.heap) (s2 : S2 k s.heap) (k1 : k < n1) (k2 : k < n2)
    (hQ : ∀ x y h' tk, P1 k x → P2 k y → IsZip h' z TI TO (rawInt s.heap.objs.size) → IsPair h' TI (.ref i1) (.ref i2) → IsPair h' TO x y → S1 (k + 1) h' → S2 (k + 1) h' → IsPair h' s.heap.objs.size x y →
      (∀ c o, c ≠ z → c ≠ TO → c ≠ i1 → c ≠ i2 → s.heap.get? c = some o → h'.get? c = some o) → Q (some (.ref s.heap.objs.size)) { s with heap := h', toks := tk }) :
    wpAny (model prog w) A (pyNext (.ref z)) Q E s := by
  have ty : s.TypeIs (.ref z) "zip" := ⟨_, hz, rfl⟩
  unfold pyNext
  refine wpAny_bind (wpAny_attempt (wpAny_callSpecial?_slot (name := Str.ofString "__next__") ty F.slot_zip_next (wpAny_call_entry F.slot_zip_next ty F.entry_zip_next ?_ (F.args_zip_next_1 _))))
  exact zip_draw D1 D2 Z hz hI hO s1 s2 k1 k2 fun x y h' tk c1 c2 c3 c4 c5 c6 c7 c8 c9 => wpAny_pure (hQ x y h' tk c1 c2 c3 c4 c5 c6 c7 c8 c9)
theorem zip_end {z TI TO i1 i2 : Addr} {f1 f2 : List Addr} {n1 n2 k : Nat} {P1 P2 : Nat → Value → Prop} {S1 S2 : Nat → Heap → Prop} {a b : Value} {Q : Option Value → Shared → Prop}
    (D1 : Draws prog w A.in1 i1 f1 n1 P1 S1) (D2 : Draws prog w A.in1 i2 f2 n2 P2 S2) (Z : Zp z TI TO i1 i2 f1 f2) (hz : IsZip s.heap z TI TO .none) (hI : IsPair s.heap TI (.ref i1) (.ref i2)) (hO : IsPair s.heap TO a b)
    (s1 : S1 k s.heap) (s2 : S2 k s.heap) (k1 : k ≤ n1) (k2 : k ≤ n2) (ke : k = n1 ∨ k = n2)
    (hQ : ∀ h' tk, (∀ c o, c ≠ z → c ≠ TO → c ≠ i1 → c ≠ i2 → s.heap.get? c = some o → h'.get? c = some o) → Q none { s with heap := h', toks := tk }) :
    wpAny (model prog w) A (pyNext (.ref z)) Q E s := by
  have ty : s.TypeIs (.ref z) "zip" := ⟨_, hz, rfl⟩
  unfold pyNext
  refine wpAny_bind (wpAny_attempt (wpAny_callSpecial?_slot (name := Str.ofString "__next__") ty F.slot_zip_next (wpAny_call_entry F.slot_zip_next ty F.entry_zip_next
    (zip_over D1 D2 Z hz hI hO s1 s2 k1 k2 ke fun h' e tk keep he => ?_) (F.args_zip_next_1 _))))
  obtain ⟨o, ho, hc⟩ := he
  refine wpAny_bind (wpAny_isInstance (T := "StopIteration") (b := true) ⟨o, ho, hc⟩ isSubtype_stop ?_)
  exact wpAny_pure (hQ _ _ keep)
end
end L2


namespace L2
open PySem PySem.Spec PyProof.Rows
noncomputable def Itz (K : PySem.W.Frag) (a b : Addr) : It :=
  ⟨fun i H => ∃ xs ys x y, SqT K H a xs ∧ SqL K H b ys ∧ xs[i]? = some x ∧ ys[i]? = some y,
    fun i H v H' => ∃ T x y, v = .ref T ∧ H T = none ∧ H' = upd H T (.tup [x, y]) ∧ (∀ xs, SqT K H a xs → xs[i]? = some x) ∧ ∀ ys, SqL K H b ys → ys[i]? = some y,
    fun i H => ∃ xs ys, SqT K H a xs ∧ SqL K H b ys ∧ i ≤ xs.length ∧ i ≤ ys.length ∧ (i = xs.length ∨ i = ys.length)⟩
theorem fields_no_cell {vs : Array Value} (v : Option Value) : Data.fields vs ≠ Data.cell v := fun z => by cases z
theorem seq_no_cell {vs : Array Value} {n : Nat} (v : Option Value) : Data.seq vs n ≠ Data.cell v := fun z => by cases z
theorem Inv.turnT {X : Cx} {pins : List (Addr × Obj)} {σ : St} {H : Hp} {s : Shared} {h' : Heap} {tk : Nat} {ch : List Addr} {T : Addr} {x y : V} {u v : Value} (I : Inv X pins σ H s) (hf : ∀ b ∈ ch, FpOk X pins H b) (keep : ∀ b o, b ∉ ch → s.heap.get? b = some o → h'.get? b = some o)
    (hT : s.heap.objs.size ≤ T) (p : IsPair h' T u v) (rx : RelV x u) (ry : RelV y v) : Inv X pins σ (upd H T (.tup [x, y])) { s with heap := h', toks := tk } := by
  have fr : H T = none := I.hok.fresh hT
  have nT : ∀ b o, s.heap.get? b = some o → b ≠ T := fun b o e z => by rw [z] at e; exact absurd (Nat.lt_of_lt_of_le (Heap.lt_size e) hT) (Nat.lt_irrefl _)
  have trk : ∀ b o, H b = some o → b ∉ ch := fun b o e z => by rw [(hf b z).1] at e; cases e
  refine I.step (ch := ch) (fun b hb => ⟨(hf b hb).2.2.2.1, (hf b hb).2.1, (hf b hb).2.2.2.2.1, (hf b hb).2.2.2.2.2⟩) (fun b o _ _ hc e _ => keep b o hc e) (fun b o _ _ hc e _ => ⟨o.slots, keep b o hc e⟩)
    (fun b o _ e n => by rw [upd_ne (nT b o e)]; exact n) (fun b o hc e => ⟨o, keep b o hc e⟩) (fun b xs e => by rw [upd_ne (ne_of_none e fr)]; exact e) (fun b o w e => by rw [upd_ne (ne_of_none e fr)]; exact e)
    (fun b ps e => ⟨#[], by rw [upd_ne (ne_of_none e fr), e]; simp⟩) (fun m hm => ?_) (fun b w e => ?_) I.bare
  · obtain ⟨o, es, ep, ho, r⟩ := hm
    exact ⟨o, es, ep, keep _ o (fun z => (hf _ z).2.1 rfl) ho, r⟩
  · by_cases hb : b = T
    · subst hb
      rw [upd_same] at e
      cases e
      exact ⟨by show 2 ≤ sizeLine; decide, [u, v], .cons rx (.cons ry .nil), ⟨_, p, rfl, _, rfl⟩⟩
    · rw [upd_ne hb] at e
      refine (I.hok b w e).stay (fun c q hc ec => keep c q ?_ ec) (fun c ec => by rw [upd_ne (ne_of_none ec fr)]; exact ec) fun c xs ec => by rw [upd_ne (ne_of_none ec fr)]; exact ec
      rcases hc with z | z
      · rw [z]
        exact trk b w e
      · exact trk c _ z
theorem Inv.turnN {X : Cx} {pins : List (Addr × Obj)} {σ : St} {H : Hp} {s : Shared} {h' : Heap} {tk : Nat} {ch : List Addr} (I : Inv X pins σ H s) (hf : ∀ b ∈ ch, FpOk X pins H b) (keep : ∀ b o, b ∉ ch → s.heap.get? b = some o → h'.get? b = some o) :
    Inv X pins σ H { s with heap := h', toks := tk } := by
  have trk : ∀ b o, H b = some o → b ∉ ch := fun b o e z => by rw [(hf b z).1] at e; cases e
  refine I.step (ch := ch) (fun b hb => ⟨(hf b hb).2.2.2.1, (hf b hb).2.1, (hf b hb).2.2.2.2.1, (hf b hb).2.2.2.2.2⟩) (fun b o _ _ hc e _ => keep b o hc e) (fun b o _ _ hc e _ => ⟨o.slots, keep b o hc e⟩)
    (fun b o _ e n => n) (fun b o hc e => ⟨o, keep b o hc e⟩) (fun b xs e => e) (fun b o w e => e) (fun b ps e => ⟨#[], by rw [e]; simp⟩) (fun m hm => ?_) (fun b w e => ?_) I.bare
  · obtain ⟨o, es, ep, ho, r⟩ := hm
    exact ⟨o, es, ep, keep _ o (fun z => (hf _ z).2.1 rfl) ho, r⟩
  · refine (I.hok b w e).stay (fun c q hc ec => keep c q ?_ ec) (fun c ec => ec) fun c xs ec => ec
    rcases hc with z | z
    · rw [z]
      exact trk b w e
    · exact trk c _ z
theorem turn_zip {P : Program} {w : World} {K : PySem.W.Frag} {es : List Expr} {kk : Nat} {tp : Pos} {a b z TI TO i1 i2 : Addr} (Z : Zp z TI TO i1 i2 [i1, a] [i2, b]) (na : a ≠ i1) (nb : b ≠ i2) :
    Turn P w K (.Tuple es kk tp) (Itz K a b) [z, TI, TO, i1, i2] z (fun i h => IsZip h z TI TO .none ∧ IsPair h TI (.ref i1) (.ref i2) ∧ (∃ x y, IsPair h TO x y) ∧ h.IsTupleIter i1 a i ∧ h.IsListIter i2 b i) where
  mem := by simp
  obj := fun i h ⟨t1, t2, ⟨x, y, t3⟩, t4, t5⟩ c hc => by
    simp only [List.mem_cons, List.not_mem_nil, or_false] at hc
    rcases hc with rfl | rfl | rfl | rfl | rfl
    · exact ⟨_, t1, fields_no_cell⟩
    · exact ⟨_, t2, seq_no_cell⟩
    · exact ⟨_, t3, seq_no_cell⟩
    · obtain ⟨o, e, _, d⟩ := t4
      exact ⟨o, e, by rw [d]; exact fields_no_cell⟩
    · obtain ⟨o, e, _, d⟩ := t5
      exact ⟨o, e, by rw [d]; exact fields_no_cell⟩
  keep := fun i h h' ⟨t1, t2, ⟨x, y, t3⟩, t4, t5⟩ k => ⟨k z (by simp) _ t1, k TI (by simp) _ t2, ⟨x, y, k TO (by simp) _ t3⟩, (by obtain ⟨o, e, r⟩ := t4; exact ⟨o, k i1 (by simp) o e, r⟩), (by obtain ⟨o, e, r⟩ := t5; exact ⟨o, k i2 (by simp) o e, r⟩)⟩
  item := by
    intro X hP hw hK hc i pins s σ H E I hf ⟨t1, t2, ⟨x0, y0, t3⟩, t4, t5⟩ hg
    subst hP hw hK
    obtain ⟨xs, ys, x, y, hq1, hq2, hx, hy⟩ := hg
    obtain ⟨its1, rv1, p1, _⟩ := I.tuple hq1
    obtain ⟨its2, rv2, p2, _⟩ := I.list hq2
    obtain ⟨u, hu, ru⟩ := rv1.get hx
    obtain ⟨v, hv, rv⟩ := rv2.get hy
    have hh : X.A.in1.handled = none := I.ok.hd hc
    have l1 : i < its1.toArray.size := by rw [List.size_toArray]; exact (List.getElem?_eq_some_iff.mp hu).1
    have l2 : i < its2.toArray.size := by rw [List.size_toArray]; exact (List.getElem?_eq_some_iff.mp hv).1
    refine zip_next (draws_tup hh i1 a na its1.toArray) (Draws.list hh i2 b nb its2.toArray) Z t1 t2 t3 ⟨t4, p1⟩ ⟨t5, p2.isList⟩ l1 l2 ?_
    intro x' y' h1 tk px py z1 z2 z3 z4 z5 z6 keep
    have ex : x' = u := by
      have q : its1.toArray[i]? = some x' := px
      simp only [List.getElem?_toArray] at q
      rw [hu] at q
      exact (Option.some.inj q).symm
    have ey : y' = v := by
      have q : its2.toArray[i]? = some y' := py
      simp only [List.getElem?_toArray] at q
      rw [hv] at q
      exact (Option.some.inj q).symm
    subst ex ey
    refine ⟨_, rfl, wpAny_letOwnedTupleGo_zip (s := { s with heap := h1, toks := tk }) z1 fun h2 z7 sb => ?_⟩
    have zlt : z < s.heap.objs.size := Heap.lt_size t1
    have keep2 : ∀ c o, c ∉ [z, TI, TO, i1, i2] → s.heap.get? c = some o → h2.get? c = some o := fun c o hc e => by
      simp only [List.mem_cons, List.not_mem_nil, or_false, not_or] at hc
      exact sb.extBut c o hc.1 (keep c o hc.1 hc.2.2.1 hc.2.2.2.1 hc.2.2.2.2 e)
    have pT : IsPair h2 s.heap.objs.size x' y' := sb.extBut _ _ (Nat.ne_of_gt zlt) z6
    have I' := I.turnT (h' := h2) (tk := tk) (ch := [z, TI, TO, i1, i2]) (x := x) (y := y) hf keep2 (Nat.le_refl _) pT ru rv
    refine ⟨.ref s.heap.objs.size, _, I', rfl, ⟨s.heap.objs.size, x, y, rfl, I.hok.fresh (Nat.le_refl _), rfl, fun xs' q => by rw [I.tuple_inj q hq1]; exact hx, fun ys' q => by rw [I.list_inj q hq2]; exact hy⟩,
      ⟨z7, sb.extBut _ _ Z.a1 z2, ⟨_, _, sb.extBut _ _ Z.a2 z3⟩, z4.1.extBut sb.extBut Z.a3, z5.1.extBut sb.extBut Z.a4⟩, fun c hc => ?_⟩
    have := (hf c hc).1
    rw [upd_ne]
    · exact this
    · intro q
      obtain ⟨o, e, _⟩ : ∃ o, s.heap.get? c = some o ∧ True := by
        simp only [List.mem_cons, List.not_mem_nil, or_false] at hc
        rcases hc with rfl | rfl | rfl | rfl | rfl
        · exact ⟨_, t1, trivial⟩
        · exact ⟨_, t2, trivial⟩
        · exact ⟨_, t3, trivial⟩
        · obtain ⟨o, e, _⟩ := t4; exact ⟨o, e, trivial⟩
        · obtain ⟨o, e, _⟩ := t5; exact ⟨o, e, trivial⟩
      rw [q] at e
      exact absurd (Heap.lt_size e) (Nat.lt_irrefl _)
  done := by
    intro X hP hw hK hc i pins s σ H E I hf ⟨t1, t2, ⟨x0, y0, t3⟩, t4, t5⟩ hg
    subst hP hw hK
    obtain ⟨xs, ys, hq1, hq2, e1, e2, e3⟩ := hg
    obtain ⟨its1, rv1, p1, _⟩ := I.tuple hq1
    obtain ⟨its2, rv2, p2, _⟩ := I.list hq2
    have hh : X.A.in1.handled = none := I.ok.hd hc
    have n1 : its1.toArray.size = xs.length := by rw [List.size_toArray]; exact rv1.length.symm
    have n2 : its2.toArray.size = ys.length := by rw [List.size_toArray]; exact rv2.length.symm
    refine zip_end (draws_tup hh i1 a na its1.toArray) (Draws.list hh i2 b nb its2.toArray) Z t1 t2 t3 ⟨t4, p1⟩ ⟨t5, p2.isList⟩ (by omega) (by omega) (by omega) ?_
    intro h1 tk keep
    refine ⟨rfl, I.turnN (h' := h1) (tk := tk) (ch := [z, TI, TO, i1, i2]) hf fun c o hc e => ?_⟩
    simp only [List.mem_cons, List.not_mem_nil, or_false, not_or] at hc
    exact keep c o hc.1 hc.2.2.1 hc.2.2.2.1 hc.2.2.2.2 e
  self := fun _ _ _ _ _ st h => wpAny_pyIter_zip st.1 h
theorem nin2 {x y z : Nat} (h1 : x ≠ y) (h2 : x ≠ z) : x ∉ [y, z] := by simp [h1, h2]
theorem zp_mk (n a b : Nat) (la : a < n) (lb : b < n) : Zp (n + 4) (n + 2) (n + 3) n (n + 1) [n, a] [n + 1, b] := by
  have e : ∀ x y : Nat, x ≠ y → (x : Addr) ≠ y := fun _ _ h => h
  exact ⟨e _ _ (by omega), e _ _ (by omega), e _ _ (by omega), e _ _ (by omega), e _ _ (by omega), e _ _ (by omega), e _ _ (by omega), e _ _ (by omega), e _ _ (by omega),
    nin2 (by omega) (by omega), nin2 (by omega) (by omega), nin2 (by omega) (by omega), nin2 (by omega) (by omega), nin2 (by omega) (by omega), nin2 (by omega) (by omega)⟩
section
variable {X : Cx} {es : List Expr} {kk : Nat} {tp : Pos}
end
theorem for_zip {K : PySem.W.Frag} {a b : Addr} {xs ys : List V} {g : TG} {tb : TS} {D : Ends} {σ : St} {H : Hp} (Pv : Nat → St → Hp → Prop) (h0 : Pv 0 σ H) (hl : ∀ i σ H, i ≤ xs.length → Pv i σ H → SqT K H a xs ∧ SqL K H b ys) (hlen : xs.length ≤ ys.length)
    (hs : ∀ i x y T σ H, xs[i]? = some x → ys[i]? = some y → H T = none → Pv i σ H → g (.ref T) σ (upd H T (.tup [x, y])) fun σ2 H2 => tb { D with nx := Pv (i + 1), ct := Pv (i + 1), bk := D.nx } σ2 H2) (hd : ∀ σ H, Pv xs.length σ H → D.nx σ H) :
    ∃ W : Nat → Nat → St → Hp → Prop, (∃ m, W 0 m σ H) ∧ ∀ i m σ H, W i m σ H →
      ((Itz K a b).stop i H ∧ D.nx σ H) ∨ ((Itz K a b).go i H ∧ ∃ N : St → Hp → Prop, (∀ σ' H', N σ' H' → ∃ m', m' < m ∧ W (i + 1) m' σ' H') ∧ ∀ x H', (Itz K a b).yld i H x H' → g x σ H' fun σ2 H2 => tb { D with nx := N, ct := N, bk := D.nx } σ2 H2) := by
  refine ⟨fun i m σ H => m = xs.length - i ∧ i ≤ xs.length ∧ Pv i σ H, ⟨xs.length, by simp, Nat.zero_le _, h0⟩, ?_⟩
  rintro i m σ H ⟨rfl, hi, p⟩
  obtain ⟨q1, q2⟩ := hl i σ H hi p
  by_cases hlt : i < xs.length
  · have hlt2 : i < ys.length := by omega
    refine .inr ⟨⟨xs, ys, xs[i], ys[i], q1, q2, by simp [hlt], by simp [hlt2]⟩, Pv (i + 1), fun σ' H' p' => ⟨xs.length - (i + 1), by omega, rfl, hlt, p'⟩, fun v H' y => ?_⟩
    obtain ⟨T, x, y, rfl, hT, rfl, c1, c2⟩ := y
    exact hs i x y T σ H (c1 xs q1) (c2 ys q2) hT p
  · have e : i = xs.length := by omega
    subst e
    exact .inl ⟨⟨xs, ys, q1, q2, Nat.le_refl _, hlen, .inl rfl⟩, hd σ H p⟩
end L2

namespace L2
open PySem PySem.Spec PyProof.Rows

section
variable {κ : Type} [DecidableEq κ]
noncomputable def valV (kvs : List (κ × V)) (k : κ) : Option V := (kvs.find? fun kv => decide (kv.1 = k)).map (·.2)
noncomputable def putK (kvs : List (κ × V)) (k : κ) (v : V) : List (κ × V) :=
  if (kvs.any fun kv => decide (kv.1 = k)) = true then kvs.map (fun kv => if kv.1 = k then (kv.1, v) else kv) else kvs ++ [(k, v)]
noncomputable def dropK (kvs : List (κ × V)) (k : κ) : List (κ × V) := kvs.filter fun kv => decide (kv.1 ≠ k)

theorem valV_pos {p : κ × V} {r : List (κ × V)} {k : κ} (e : p.1 = k) : valV (p :: r) k = some p.2 := by simp [valV, List.find?_cons, e]
theorem valV_neg {p : κ × V} {r : List (κ × V)} {k : κ} (e : ¬ p.1 = k) : valV (p :: r) k = valV r k := by simp [valV, List.find?_cons, e]
theorem valV_any (k : κ) : ∀ kvs : List (κ × V), (kvs.any fun kv => decide (kv.1 = k)) = (valV kvs k).isSome
  | [] => rfl
  | p :: r => by
    rw [List.any_cons]
    by_cases e : p.1 = k
    · simp only [valV_pos e, decide_eq_true e, Bool.true_or, Option.isSome_some]
    · rw [valV_neg e, decide_eq_false e, Bool.false_or]; exact valV_any k r
theorem RelO.isSome_eq {o : Option V} {u : Option Value} (r : RelO o u) : o.isSome = u.isSome := by
  cases o with
  | none => cases u with
    | none => rfl
    | some _ => exact (show False from r).elim
  | some _ => cases u with
    | none => exact (show False from r).elim
    | some _ => rfl
theorem RelO.getD {o : Option V} {u : Option Value} {d : V} {d' : Value} (r : RelO o u) (rd : RelV d d') : RelV (o.getD d) (u.getD d') := by
  cases o with
  | none => cases u with
    | none => exact rd
    | some _ => exact (show False from r).elim
  | some _ => cases u with
    | none => exact (show False from r).elim
    | some _ => exact r

theorem KV.val {kvs : List (κ × V)} {vs : List (κ × Value)} (r : KV kvs vs) (k : κ) : RelO (valV kvs k) (valueAt vs k) := by
  unfold KV at r
  induction r with
  | nil => exact True.intro
  | @cons p q ps qs h t ih =>
    obtain ⟨h1, h2⟩ := h
    by_cases e : p.1 = k
    · have e' : q.1 = k := h1.symm.trans e
      have b : valueAt (q :: qs) k = some q.2 := by simp [valueAt, List.find?_cons, e']
      rw [valV_pos e, b]; exact h2
    · have e' : ¬ q.1 = k := fun z => e (h1.trans z)
      have b : valueAt (q :: qs) k = valueAt qs k := by simp [valueAt, List.find?_cons, e']
      rw [valV_neg e, b]; exact ih
theorem KV.any {kvs : List (κ × V)} {vs : List (κ × Value)} (r : KV kvs vs) (k : κ) : (kvs.any fun kv => decide (kv.1 = k)) = vs.any fun kv => decide (kv.1 = k) := by
  unfold KV at r
  induction r with
  | nil => rfl
  | cons h t ih => rw [List.any_cons, List.any_cons, ih, h.1]
theorem KV.repl {kvs : List (κ × V)} {vs : List (κ × Value)} (r : KV kvs vs) (k : κ) {y : V} {u : Value} (ry : RelV y u) :
    KV (kvs.map fun kv => if kv.1 = k then (kv.1, y) else kv) (vs.map fun kv => if kv.1 = k then (kv.1, u) else kv) := by
  unfold KV at r ⊢
  induction r with
  | nil => exact .nil
  | @cons p q ps qs h t ih =>
    rw [List.map_cons, List.map_cons]
    refine .cons ?_ ih
    obtain ⟨h1, h2⟩ := h
    by_cases e : p.1 = k
    · rw [if_pos e, if_pos (h1.symm.trans e)]; exact ⟨h1, ry⟩
    · rw [if_neg e, if_neg (fun z => e (h1.trans z))]; exact ⟨h1, h2⟩
theorem KV.put {kvs : List (κ × V)} {vs : List (κ × Value)} (r : KV kvs vs) (k : κ) {y : V} {u : Value} (ry : RelV y u) : KV (putK kvs k y) (stored vs k u) := by
  unfold putK stored
  rw [r.any k]
  by_cases e : (vs.any fun kv => decide (kv.1 = k)) = true
  · rw [if_pos e, if_pos e]; exact r.repl k ry
  · rw [if_neg e, if_neg e]; exact Paired.snoc r ⟨rfl, ry⟩
theorem KV.drop {kvs : List (κ × V)} {vs : List (κ × Value)} (r : KV kvs vs) (k : κ) : KV (dropK kvs k) (without vs k) := by
  unfold KV at r ⊢
  unfold dropK without
  induction r with
  | nil => exact .nil
  | @cons p q ps qs h t ih =>
    obtain ⟨h1, h2⟩ := h
    rw [List.filter_cons, List.filter_cons]
    by_cases e : p.1 = k
    · have a : ¬ decide (p.1 ≠ k) = true := by simp [e]
      have b : ¬ decide (q.1 ≠ k) = true := by simp [h1.symm.trans e]
      rw [if_neg a, if_neg b]; exact ih
    · have e' : ¬ q.1 = k := fun z => e (h1.trans z)
      have a : decide (p.1 ≠ k) = true := by simp [e]
      have b : decide (q.1 ≠ k) = true := by simp [e']
      rw [if_pos a, if_pos b]; exact .cons ⟨h1, h2⟩ ih
theorem KV.length {kvs : List (κ × V)} {vs : List (κ × Value)} (r : KV kvs vs) : kvs.length = vs.length := Paired.length r
end


noncomputable abbrev KT (H : Hp) : List (List Key × V) → List (List Key × Addr × Value) → Prop := Paired fun p q => p.1 = q.1 ∧ H q.2.1 = some (.tup (p.1.map kV)) ∧ RelV p.2 q.2.2
theorem KT.val {H : Hp} {kvs : List (List Key × V)} {xs : List (List Key × Addr × Value)} (r : KT H kvs xs) (k : List Key) : RelO (valV kvs k) ((atKey xs k).map (·.2)) := by
  induction r with
  | nil => exact True.intro
  | @cons p q ps qs h t ih =>
    obtain ⟨h1, _, h2⟩ := h
    by_cases e : p.1 = k
    · have e' : q.1 = k := h1.symm.trans e
      have b : atKey (q :: qs) k = some q.2 := by simp [atKey, List.find?_cons, e']
      rw [valV_pos e, b]; exact h2
    · have e' : ¬ q.1 = k := fun z => e (h1.trans z)
      have b : atKey (q :: qs) k = atKey qs k := by simp [atKey, List.find?_cons, e']
      rw [valV_neg e, b]; exact ih
theorem KT.repl {H : Hp} {kvs : List (List Key × V)} {xs : List (List Key × Addr × Value)} (r : KT H kvs xs) (k : List Key) {y : V} {u : Value} (ry : RelV y u) :
    KT H (kvs.map fun kv => if kv.1 = k then (kv.1, y) else kv) (xs.map (putAt k u)) := by
  induction r with
  | nil => exact .nil
  | @cons p q ps qs h t ih =>
    rw [List.map_cons, List.map_cons]
    refine .cons ?_ ih
    obtain ⟨h1, h2, h3⟩ := h
    unfold putAt
    by_cases e : p.1 = k
    · rw [if_pos e, if_pos (h1.symm.trans e)]; exact ⟨h1, h2, ry⟩
    · rw [if_neg e, if_neg (fun z => e (h1.trans z))]; exact ⟨h1, h2, h3⟩
theorem KT.put {H : Hp} {kvs : List (List Key × V)} {xs : List (List Key × Addr × Value)} (r : KT H kvs xs) (k : List Key) {b : Addr} {y : V} {u : Value} (hb : H b = some (.tup (k.map kV))) (ry : RelV y u) :
    KT H (putK kvs k y) (storedH xs k b u) := by
  have e : (kvs.any fun kv => decide (kv.1 = k)) = (atKey xs k).isSome := by
    rw [valV_any, (r.val k).isSome_eq, Option.isSome_map]
  unfold putK storedH
  rw [e]
  by_cases q : (atKey xs k).isSome = true
  · rw [if_pos q, if_pos q]; exact r.repl k ry
  · rw [if_neg q, if_neg q]; exact Paired.snoc r ⟨rfl, hb, ry⟩
theorem KT.keeps {H H' : Hp} {kvs : List (List Key × V)} {xs : List (List Key × Addr × Value)} (r : KT H kvs xs) (ht : ∀ b ys, H b = some (.tup ys) → H' b = some (.tup ys)) : KT H' kvs xs :=
  Paired.mapP r fun _ _ z => ⟨z.1, ht _ _ z.2.1, z.2.2⟩

section
variable {P : Program} {w : World} {H : Hp} {h : Heap} {a : Addr}
end

noncomputable def DGet (H : Hp) (a : Addr) (y : V) (r : Option V) : Prop :=
  (∃ kvs k, Rd H a (.dK kvs) ∧ y = kV k ∧ r = valV kvs k) ∨ ∃ kvs k b, Rd H a (.dT kvs) ∧ y = .ref b ∧ H b = some (.tup (k.map kV)) ∧ r = valV kvs k
noncomputable def DPut (H : Hp) (a : Addr) (y v : V) (H' : Hp) : Prop :=
  (∃ kvs k, H a = some (.dK kvs) ∧ y = kV k ∧ kvs.length < sizeLine ∧ H' = upd H a (.dK (putK kvs k v))) ∨
  ∃ kvs k b, H a = some (.dT kvs) ∧ y = .ref b ∧ H b = some (.tup (k.map kV)) ∧ kvs.length < sizeLine ∧ H' = upd H a (.dT (putK kvs k v))
theorem DGet.k {H : Hp} {a : Addr} {kvs : List (Key × V)} {k : Key} (e : H a = some (.dK kvs)) : DGet H a (kV k) (valV kvs k) := .inl ⟨kvs, k, .inl e, rfl, rfl⟩
theorem DGet.t {H : Hp} {a b : Addr} {kvs : List (List Key × V)} {k : List Key} (e : H a = some (.dT kvs)) (eb : H b = some (.tup (k.map kV))) : DGet H a (.ref b) (valV kvs k) := .inr ⟨kvs, k, b, .inl e, rfl, eb, rfl⟩
theorem DPut.k {H : Hp} {a : Addr} {kvs : List (Key × V)} {k : Key} {v : V} (e : H a = some (.dK kvs)) (hl : kvs.length < sizeLine) : DPut H a (kV k) v (upd H a (.dK (putK kvs k v))) := .inl ⟨kvs, k, e, rfl, hl, rfl⟩
theorem DPut.t {H : Hp} {a b : Addr} {kvs : List (List Key × V)} {k : List Key} {v : V} (e : H a = some (.dT kvs)) (eb : H b = some (.tup (k.map kV))) (hl : kvs.length < sizeLine) :
    DPut H a (.ref b) v (upd H a (.dT (putK kvs k v))) := .inr ⟨kvs, k, b, e, rfl, eb, hl, rfl⟩


section
variable {X : Cx} {pins : List (Addr × Obj)} {σ : St} {H : Hp} {s : Shared} {a : Addr} {y v : V} {u r : Value} {o : Option V} {A : Around} {E : Value → Shared → Prop}

theorem Inv.big (I : Inv X pins σ H s) : sysModules < s.heap.objs.size := by
  have h : mainGlobals < s.heap.objs.size := (I.mod.glob.keeps I.bk).lt
  exact Nat.lt_trans (by decide) h

end

section
variable {X : Cx} {pins : List (Addr × Obj)} {σ : St} {H : Hp} {s : Shared} {a : Addr} {kvs : List (Key × V)} {k : Key} {u : Value} {A : Around} {E : Value → Shared → Prop}
end


section
variable {X : Cx} {o i e value : Expr} {pos pos' tpos : Pos} {td ty tv : TE}
end


section
variable {X : Cx} {pos : Pos}
end
end L2


namespace L2
open PySem
section
variable {prog : Program} {w : World} {A : Around} {R : Result → Shared → Prop} {s : Shared}
end
end L2
namespace L2
open PySem PySem.Spec PyProof.Rows
section
variable {X : Cx} {scope : Scope} {own : List Str} {caps : List (Nat × Str)} {elt tg iter cond : Expr} {wi : TI} {g : TG} {tc : TT} {te : TE} {pos : Pos}
end
end L2


namespace L2
open PySem PySem.Spec PyProof.Rows
section
variable {prog : Program} {w : World} {A : Around} {E : Value → Shared → Prop} {s : Shared}
end
end L2


namespace L2
open PySem PySem.Spec PyProof.Rows
theorem comp_tup {K : PySem.W.Frag} {a : Addr} {xs : List V} {g : TG} {te : TE} {σ0 : St} {H : Hp} {Q : VK} (Pv : Nat → List V → St → Hp → Prop) (h0 : Pv 0 [] σ0 H) (hl : ∀ i ys σ H, i ≤ xs.length → Pv i ys σ H → SqT K H a xs ∧ ys.length ≤ i) (hz : xs.length ≤ sizeLine)
    (hs : ∀ i x ys σ H, xs[i]? = some x → Pv i ys σ H → g x σ H fun σ2 H2 => te σ2 H2 fun y H3 => Pv (i + 1) (ys ++ [y]) σ2 H3)
    (hd : ∀ ys σ H, Pv xs.length ys σ H → ∀ p, H p = none → Q (.ref p) (upd H p (.lst ys))) :
    CompGo (Itt K a) g te Q σ0 H := by
  refine ⟨fun i m ys σ H => m = xs.length - i ∧ i ≤ xs.length ∧ Pv i ys σ H, ⟨xs.length, by simp, Nat.zero_le _, h0⟩, ?_⟩
  rintro i m ys σ H ⟨rfl, hi, p⟩
  obtain ⟨q, hy⟩ := hl i ys σ H hi p
  by_cases hlt : i < xs.length
  · refine .inr ⟨⟨xs, xs[i], q, by simp [hlt]⟩, by omega, fun y σ' H' => Pv (i + 1) (ys ++ [y]) σ' H', fun y σ' H' z => ⟨xs.length - (i + 1), by omega, rfl, hlt, z⟩, fun x H' y => ?_⟩
    obtain ⟨e, y⟩ := y
    subst e
    exact hs i x ys σ _ (y xs q) p
  · have e : i = xs.length := by omega
    subst e
    exact .inl ⟨⟨xs, q, Nat.le_refl _⟩, hd ys σ H p⟩
section
variable {X : Cx}
theorem op_neX (hu : X.A.units + 64 < cLine) : OpR X (compareOp .NotEq) (fun x y H Q => ∃ d e : PyData, Dp X.K H x d ∧ Dp X.K H y e ∧ d.canLay0 = true ∧ e.canLay0 = true ∧ d.depth ≤ 60 ∧ e.depth ≤ 60 ∧ Q (.bl (!PyData.eqv d e)) H) := by
  intro pins s σ H x y v u Q I rx ry h
  obtain ⟨d, e, hx, hy, hc, hc', hd, hd', q⟩ := h
  obtain ⟨_, r1⟩ := hx.reads I rx
  obtain ⟨_, r2⟩ := hy.reads I ry
  exact SeqAt.compareNe_reads r1 r2 hc hc' (by omega) ⟨.bl _, H, I, rfl, q⟩
end
end L2


namespace Sh
open PySem L2
noncomputable def cellZ (ns : List Int) (k : Int) : Int := (ns[k.toNat]?).getD 0
inductive spCell (K : PySem.W.Frag) (vs : List V) (H : Hp) (Q : VK) (E : XK) : Prop
  | mk (a : Addr) (ns : List Int) (k : Int) (_ : vs = [.ref a, .int k]) (_ : SqL K H a (ns.map V.int)) (_ : 0 ≤ k) (_ : Q (.int (cellZ ns k)) H) : spCell K vs H Q E
theorem same_new {H : Hp} {p : Addr} (h : H p = none) (o : HO) : Same H (upd H p o) := fun b u q => by rw [upd_ne (ne_of_none q h)]; exact q
theorem at0 {x y : V} : atI [x, y] 0 = some x := rfl
theorem at1 {x y : V} : atI [x, y] 1 = some y := rfl
noncomputable def Tp (H : Hp) (v : V) (xs : List V) : Prop := ∃ a, v = .ref a ∧ H a = some (.tup xs)
theorem Tp.same {H H' : Hp} {v : V} {xs : List V} (s : Same H H') (h : Tp H v xs) : Tp H' v xs := let ⟨r, e, q⟩ := h; ⟨r, e, s _ _ q⟩
theorem Tp.upd {H : Hp} {v : V} {xs : List V} {l : Addr} {o o' : HO} (hl : H l = some o) (n : ∀ ys, o ≠ .tup ys) (h : Tp H v xs) : Tp (upd H l o') v xs := by
  obtain ⟨r, e, q⟩ := h
  exact ⟨r, e, by rw [upd_ne (ne_of q hl fun z => n _ z.symm)]; exact q⟩
theorem paired_get {α β : Type} {R : α → β → Prop} : ∀ {xs : List α} {ys : List β} {i : Nat} {x : α}, Paired R xs ys → xs[i]? = some x → ∃ y, ys[i]? = some y ∧ R x y
  | _, _, _, _, .nil, e => by simp at e
  | _, _, 0, _, .cons r _, e => by simp at e; subst e; exact ⟨_, rfl, r⟩
  | _, _, i + 1, x, .cons _ t, e => by
    obtain ⟨y, h1, h2⟩ := paired_get (i := i) (x := x) t (by simpa using e)
    exact ⟨y, by simpa using h1, h2⟩
theorem paired_snoc {α β : Type} {R : α → β → Prop} {x : α} {y : β} (r : R x y) : ∀ {xs : List α} {ys : List β}, Paired R xs ys → Paired R (xs ++ [x]) (ys ++ [y])
  | _, _, .nil => .cons r .nil
  | _, _, .cons q t => .cons q (paired_snoc r t)
theorem paired_app {α β : Type} {R : α → β → Prop} : ∀ {xs zs : List α} {ys us : List β}, Paired R xs ys → Paired R zs us → Paired R (xs ++ zs) (ys ++ us)
  | _, _, _, _, .nil, h => h
  | _, _, _, _, .cons q t, h => .cons q (paired_app t h)
theorem take_snoc {α : Type} {l : List α} {i : Nat} {x : α} (h : l[i]? = some x) : l.take (i + 1) = l.take i ++ [x] := by
  obtain ⟨hi, e⟩ := List.getElem?_eq_some_iff.mp h
  rw [List.take_succ_eq_append_getElem hi, e]
theorem same_upd {H H' : Hp} {g : Addr} {o : HO} (h : Same H H') (hg : H g = none) : Same H (upd H' g o) := fun b u e => by
  rw [upd_ne (ne_of_none e hg)]
  exact h b u e
noncomputable abbrev WaysV (H : Hp) (vs : List V) (ks : List (List Int)) : Prop := Paired (fun v (k : List Int) => Tp H v (k.map V.int)) vs ks
theorem WaysV.same {H H' : Hp} {vs : List V} {ks : List (List Int)} (s : Same H H') (h : WaysV H vs ks) : WaysV H' vs ks := Paired.mapP h fun _ _ z => Tp.same s z
theorem WaysV.upd {H : Hp} {vs : List V} {ks : List (List Int)} {l : Addr} {o o' : HO} (hl : H l = some o) (n : ∀ ys, o ≠ .tup ys) (h : WaysV H vs ks) : WaysV (upd H l o') vs ks := Paired.mapP h fun _ _ z => Tp.upd hl n z
theorem paired_set {α β : Type} {R : α → β → Prop} {x : α} {y : β} (r : R x y) : ∀ {xs : List α} {ys : List β} (j : Nat), Paired R xs ys → Paired R (xs.set j x) (ys.set j y)
  | _, _, _, .nil => .nil
  | _, _, 0, .cons _ t => .cons r t
  | _, _, j + 1, .cons q t => .cons q (paired_set r j t)
theorem ixN_nat {n j : Nat} (h : j < n) : ixN n (j : Int) = some j := by
  unfold ixN
  rw [if_pos (by omega), if_pos (by omega)]
  rfl
theorem dp_ints {K : PySem.W.Frag} {H : Hp} : ∀ ws : List Int, DpAll K H (ws.map V.int) (ws.map PyData.int)
  | [] => .nil
  | w :: r => .cons (.int w) (dp_ints r)
theorem lay_i : ∀ ws : List Int, PyData.canLayAll0 (ws.map PyData.int) = true
  | [] => rfl
  | w :: r => by
    show (PyData.canLay0 (.int w) && PyData.canLayAll0 (r.map PyData.int)) = true
    rw [lay_i r]
    rfl
theorem dep_i : ∀ ws : List Int, PyData.depthAll (ws.map PyData.int) = 0
  | [] => rfl
  | w :: r => by
    show max 0 (PyData.depthAll (r.map PyData.int)) = 0
    rw [dep_i r]
    rfl
theorem lay_tup (js : List Int) : (PyData.tuple (js.map PyData.int)).canLay0 = true := lay_i js
theorem dep_tup (js : List Int) : (PyData.tuple (js.map PyData.int)).depth ≤ 60 := by
  show PyData.depthAll (js.map PyData.int) + 1 ≤ 60
  rw [dep_i]
  decide
theorem kit_list_list (K : PySem.W.Frag) : PySem.W.kitOne K (.type "list") (.type "list") = some true := by first | rfl | decide +kernel | (unfold PySem.W.kitOne; rw [if_pos (by decide +kernel)])
inductive spLaw (K : PySem.W.Frag) (vs : List V) (H : Hp) (Q : VK) (E : XK) : Prop
  | mk (a : Addr) (ns : List Int) (_ : vs = [.ref a]) (_ : SqL K H a (ns.map V.int)) (_ : ns.length ≤ 63) (_ : ∀ H', Q (.bl true) H') : spLaw K vs H Q E
inductive spStream (vs : List V) (H : Hp) (Q : VK) (E : XK) : Prop
  | mk (c m : Int) (_ : vs = [.int c, .int m]) (_ : 0 ≤ m) (_ : m ≤ 100) (_ : ∀ (r : Addr) (H' : Hp) (xs : List Int), Same H H' → H r = none → H' r = some (.lst (xs.map V.int)) → xs.length = m.toNat → (∀ x ∈ xs, 0 ≤ x ∧ x < 10 ^ 45) → Q (.ref r) H') : spStream vs H Q E
theorem at_ints {xs : List Int} {j : Nat} (h : j < xs.length) : atI (xs.map V.int) (j : Int) = some (.int (xs[j]'h)) := atI_nat (by rw [List.getElem?_map, List.getElem?_eq_getElem h]; rfl)
theorem ints_get {xs : List Int} {i : Nat} {x : V} (h : (xs.map V.int)[i]? = some x) : ∃ z, xs[i]? = some z ∧ x = V.int z := by
  rw [List.getElem?_map] at h
  cases e : xs[i]? with
  | none => rw [e] at h; cases h
  | some z => rw [e] at h; exact ⟨z, rfl, (Option.some.inj h).symm⟩
end Sh


namespace L2
open PySem PySem.Spec PyProof.Rows
noncomputable def ItzL (K : PySem.W.Frag) (a b : Addr) : It :=
  ⟨fun i H => ∃ xs ys x y, SqL K H a xs ∧ SqL K H b ys ∧ xs[i]? = some x ∧ ys[i]? = some y,
    fun i H v H' => ∃ T x y, v = .ref T ∧ H T = none ∧ H' = upd H T (.tup [x, y]) ∧ (∀ xs, SqL K H a xs → xs[i]? = some x) ∧ ∀ ys, SqL K H b ys → ys[i]? = some y,
    fun i H => ∃ xs ys, SqL K H a xs ∧ SqL K H b ys ∧ i ≤ xs.length ∧ i ≤ ys.length ∧ (i = xs.length ∨ i = ys.length)⟩
theorem turn_zipL {P : Program} {w : World} {K : PySem.W.Frag} {es : List Expr} {kk : Nat} {tp : Pos} {a b z TI TO i1 i2 : Addr} (Z : Zp z TI TO i1 i2 [i1, a] [i2, b]) (na : a ≠ i1) (nb : b ≠ i2) :
    Turn P w K (.Tuple es kk tp) (ItzL K a b) [z, TI, TO, i1, i2] z (fun i h => IsZip h z TI TO .none ∧ IsPair h TI (.ref i1) (.ref i2) ∧ (∃ x y, IsPair h TO x y) ∧ h.IsListIter i1 a i ∧ h.IsListIter i2 b i) where
  mem := by simp
  obj := fun i h ⟨t1, t2, ⟨x, y, t3⟩, t4, t5⟩ c hc => by
    simp only [List.mem_cons, List.not_mem_nil, or_false] at hc
    rcases hc with rfl | rfl | rfl | rfl | rfl
    · exact ⟨_, t1, fields_no_cell⟩
    · exact ⟨_, t2, seq_no_cell⟩
    · exact ⟨_, t3, seq_no_cell⟩
    · obtain ⟨o, e, _, d⟩ := t4
      exact ⟨o, e, by rw [d]; exact fields_no_cell⟩
    · obtain ⟨o, e, _, d⟩ := t5
      exact ⟨o, e, by rw [d]; exact fields_no_cell⟩
  keep := fun i h h' ⟨t1, t2, ⟨x, y, t3⟩, t4, t5⟩ k => ⟨k z (by simp) _ t1, k TI (by simp) _ t2, ⟨x, y, k TO (by simp) _ t3⟩, (by obtain ⟨o, e, r⟩ := t4; exact ⟨o, k i1 (by simp) o e, r⟩), (by obtain ⟨o, e, r⟩ := t5; exact ⟨o, k i2 (by simp) o e, r⟩)⟩
  item := by
    intro X hP hw hK hc i pins s σ H E I hf ⟨t1, t2, ⟨x0, y0, t3⟩, t4, t5⟩ hg
    subst hP hw hK
    obtain ⟨xs, ys, x, y, hq1, hq2, hx, hy⟩ := hg
    obtain ⟨its1, rv1, p1, _⟩ := I.list hq1
    obtain ⟨its2, rv2, p2, _⟩ := I.list hq2
    obtain ⟨u, hu, ru⟩ := rv1.get hx
    obtain ⟨v, hv, rv⟩ := rv2.get hy
    have hh : X.A.in1.handled = none := I.ok.hd hc
    have l1 : i < its1.toArray.size := by rw [List.size_toArray]; exact (List.getElem?_eq_some_iff.mp hu).1
    have l2 : i < its2.toArray.size := by rw [List.size_toArray]; exact (List.getElem?_eq_some_iff.mp hv).1
    refine zip_next (Draws.list hh i1 a na its1.toArray) (Draws.list hh i2 b nb its2.toArray) Z t1 t2 t3 ⟨t4, p1.isList⟩ ⟨t5, p2.isList⟩ l1 l2 ?_
    intro x' y' h1 tk px py z1 z2 z3 z4 z5 z6 keep
    have ex : x' = u := by
      have q : its1.toArray[i]? = some x' := px
      simp only [List.getElem?_toArray] at q
      rw [hu] at q
      exact (Option.some.inj q).symm
    have ey : y' = v := by
      have q : its2.toArray[i]? = some y' := py
      simp only [List.getElem?_toArray] at q
      rw [hv] at q
      exact (Option.some.inj q).symm
    subst ex ey
    refine ⟨_, rfl, wpAny_letOwnedTupleGo_zip (s := { s with heap := h1, toks := tk }) z1 fun h2 z7 sb => ?_⟩
    have zlt : z < s.heap.objs.size := Heap.lt_size t1
    have keep2 : ∀ c o, c ∉ [z, TI, TO, i1, i2] → s.heap.get? c = some o → h2.get? c = some o := fun c o hc e => by
      simp only [List.mem_cons, List.not_mem_nil, or_false, not_or] at hc
      exact sb.extBut c o hc.1 (keep c o hc.1 hc.2.2.1 hc.2.2.2.1 hc.2.2.2.2 e)
    have pT : IsPair h2 s.heap.objs.size x' y' := sb.extBut _ _ (Nat.ne_of_gt zlt) z6
    have I' := I.turnT (h' := h2) (tk := tk) (ch := [z, TI, TO, i1, i2]) (x := x) (y := y) hf keep2 (Nat.le_refl _) pT ru rv
    refine ⟨.ref s.heap.objs.size, _, I', rfl, ⟨s.heap.objs.size, x, y, rfl, I.hok.fresh (Nat.le_refl _), rfl, fun xs' q => by rw [I.list_inj q hq1]; exact hx, fun ys' q => by rw [I.list_inj q hq2]; exact hy⟩,
      ⟨z7, sb.extBut _ _ Z.a1 z2, ⟨_, _, sb.extBut _ _ Z.a2 z3⟩, z4.1.extBut sb.extBut Z.a3, z5.1.extBut sb.extBut Z.a4⟩, fun c hc => ?_⟩
    have := (hf c hc).1
    rw [upd_ne]
    · exact this
    · intro q
      obtain ⟨o, e, _⟩ : ∃ o, s.heap.get? c = some o ∧ True := by
        simp only [List.mem_cons, List.not_mem_nil, or_false] at hc
        rcases hc with rfl | rfl | rfl | rfl | rfl
        · exact ⟨_, t1, trivial⟩
        · exact ⟨_, t2, trivial⟩
        · exact ⟨_, t3, trivial⟩
        · obtain ⟨o, e, _⟩ := t4; exact ⟨o, e, trivial⟩
        · obtain ⟨o, e, _⟩ := t5; exact ⟨o, e, trivial⟩
      rw [q] at e
      exact absurd (Heap.lt_size e) (Nat.lt_irrefl _)
  done := by
    intro X hP hw hK hc i pins s σ H E I hf ⟨t1, t2, ⟨x0, y0, t3⟩, t4, t5⟩ hg
    subst hP hw hK
    obtain ⟨xs, ys, hq1, hq2, e1, e2, e3⟩ := hg
    obtain ⟨its1, rv1, p1, _⟩ := I.list hq1
    obtain ⟨its2, rv2, p2, _⟩ := I.list hq2
    have hh : X.A.in1.handled = none := I.ok.hd hc
    have n1 : its1.toArray.size = xs.length := by rw [List.size_toArray]; exact rv1.length.symm
    have n2 : its2.toArray.size = ys.length := by rw [List.size_toArray]; exact rv2.length.symm
    refine zip_end (Draws.list hh i1 a na its1.toArray) (Draws.list hh i2 b nb its2.toArray) Z t1 t2 t3 ⟨t4, p1.isList⟩ ⟨t5, p2.isList⟩ (by omega) (by omega) (by omega) ?_
    intro h1 tk keep
    refine ⟨rfl, I.turnN (h' := h1) (tk := tk) (ch := [z, TI, TO, i1, i2]) hf fun c o hc e => ?_⟩
    simp only [List.mem_cons, List.not_mem_nil, or_false, not_or] at hc
    exact keep c o hc.1 hc.2.2.1 hc.2.2.2.1 hc.2.2.2.2 e
  self := fun _ _ _ _ _ st h => wpAny_pyIter_zip st.1 h
section
variable {X : Cx} {es : List Expr} {kk : Nat} {tp : Pos}
end
theorem for_zipL {K : PySem.W.Frag} {a b : Addr} {xs ys : List V} {g : TG} {tb : TS} {D : Ends} {σ : St} {H : Hp} (Pv : Nat → St → Hp → Prop) (h0 : Pv 0 σ H) (hl : ∀ i σ H, i ≤ xs.length → Pv i σ H → SqL K H a xs ∧ SqL K H b ys) (hlen : xs.length ≤ ys.length)
    (hs : ∀ i x y T σ H, xs[i]? = some x → ys[i]? = some y → H T = none → Pv i σ H → g (.ref T) σ (upd H T (.tup [x, y])) fun σ2 H2 => tb { D with nx := Pv (i + 1), ct := Pv (i + 1), bk := D.nx } σ2 H2) (hd : ∀ σ H, Pv xs.length σ H → D.nx σ H) :
    ∃ W : Nat → Nat → St → Hp → Prop, (∃ m, W 0 m σ H) ∧ ∀ i m σ H, W i m σ H →
      ((ItzL K a b).stop i H ∧ D.nx σ H) ∨ ((ItzL K a b).go i H ∧ ∃ N : St → Hp → Prop, (∀ σ' H', N σ' H' → ∃ m', m' < m ∧ W (i + 1) m' σ' H') ∧ ∀ x H', (ItzL K a b).yld i H x H' → g x σ H' fun σ2 H2 => tb { D with nx := N, ct := N, bk := D.nx } σ2 H2) := by
  refine ⟨fun i m σ H => m = xs.length - i ∧ i ≤ xs.length ∧ Pv i σ H, ⟨xs.length, by simp, Nat.zero_le _, h0⟩, ?_⟩
  rintro i m σ H ⟨rfl, hi, p⟩
  obtain ⟨q1, q2⟩ := hl i σ H hi p
  by_cases hlt : i < xs.length
  · have hlt2 : i < ys.length := by omega
    refine .inr ⟨⟨xs, ys, xs[i], ys[i], q1, q2, by simp [hlt], by simp [hlt2]⟩, Pv (i + 1), fun σ' H' p' => ⟨xs.length - (i + 1), by omega, rfl, hlt, p'⟩, fun v H' y => ?_⟩
    obtain ⟨T, x, y, rfl, hT, rfl, c1, c2⟩ := y
    exact hs i x y T σ H (c1 xs q1) (c2 ys q2) hT p
  · have e : i = xs.length := by omega
    subst e
    exact .inl ⟨⟨xs, ys, q1, q2, Nat.le_refl _, hlen, .inl rfl⟩, hd σ H p⟩

end L2


namespace L2
open PySem PySem.Spec PyProof.Rows
section
variable {X : Cx}
noncomputable def rEqX (K : PySem.W.Frag) : R2 := fun x y H Q => ∃ d e : PyData, Dp K H x d ∧ Dp K H y e ∧ d.canLay0 = true ∧ e.canLay0 = true ∧ d.depth ≤ 60 ∧ e.depth ≤ 60 ∧ Q (.bl (PyData.eqv d e)) H
theorem op_eqX (hu : X.A.units + 64 < cLine) : OpR X (compareOp .Eq) (rEqX X.K) := by
  intro pins s σ H x y v u Q I rx ry h
  obtain ⟨d, e, hx, hy, hc, hc', hd, hd', q⟩ := h
  obtain ⟨_, r1⟩ := hx.reads I rx
  obtain ⟨_, r2⟩ := hy.reads I ry
  exact SeqAt.compareEq_reads r1 r2 hc hc' (by omega) ⟨.bl _, H, I, rfl, q⟩
end
end L2
namespace Sh
open PySem L2
theorem eqvA_ints : ∀ ns ms : List Int, PyData.eqvAll (ns.map PyData.int) (ms.map PyData.int) = decide (ns = ms)
  | [], [] => by simp [PyData.eqvAll]
  | [], _ :: _ => by simp [PyData.eqvAll]
  | _ :: _, [] => by simp [PyData.eqvAll]
  | a :: r, b :: t => by
    have ih := eqvA_ints r t
    simp only [List.map_cons, PyData.eqvAll, PyData.eqv, ih, List.cons.injEq]
    by_cases h1 : a = b <;> by_cases h2 : r = t <;> simp [h1, h2]
theorem eqv_tupI (ns ms : List Int) : PyData.eqv (.tuple (ns.map PyData.int)) (.tuple (ms.map PyData.int)) = decide (ns = ms) := eqvA_ints ns ms
noncomputable def FrV (H : Hp) (v : V) (p : Int × Int) : Prop := ∃ r, v = .ref r ∧ H r = some (.tup [.int p.1, .int p.2])
noncomputable abbrev PtV (H : Hp) (vs : List V) (pts : List (Int × Int)) : Prop := Paired (FrV H) vs pts
noncomputable def rowV (ws : List Int) (b : Int) : List V := ws.map V.int ++ [.int b]
theorem FrV.same {H H' : Hp} {v : V} {p : Int × Int} (s : Same H H') (h : FrV H v p) : FrV H' v p := let ⟨r, e, q⟩ := h; ⟨r, e, s _ _ q⟩
theorem PtV.same {H H' : Hp} {vs : List V} {pts : List (Int × Int)} (s : Same H H') (h : PtV H vs pts) : PtV H' vs pts := Paired.mapP h fun _ _ z => z.same s
theorem FrV.upd {H : Hp} {v : V} {p : Int × Int} {l : Addr} {xs : List V} {o : HO} (hl : H l = some (.lst xs)) (h : FrV H v p) : FrV (upd H l o) v p := by
  obtain ⟨r, e, q⟩ := h
  exact ⟨r, e, by rw [upd_ne (ne_of q hl (by intro z; cases z))]; exact q⟩
theorem PtV.upd {H : Hp} {vs : List V} {pts : List (Int × Int)} {l : Addr} {xs : List V} {o : HO} (hl : H l = some (.lst xs)) (h : PtV H vs pts) : PtV (upd H l o) vs pts := Paired.mapP h fun _ _ z => z.upd hl
structure PtOk (pts : List (Int × Int)) : Prop where
  n7 : pts.length ≤ 7
  ok : ∀ p ∈ pts, 0 < p.2 ∧ Bd 1000 p.1 ∧ Bd 1000 p.2
structure RwOk (ws : List Int) (n : Nat) : Prop where
  len : ws.length = n
  bd : ∀ w ∈ ws, Bd 1000 w
theorem bd_al : ∀ (n : Nat) (l : List (Int × Int × Int)), l.length = n → (∀ p ∈ l, Bd 1000 p.1 ∧ Bd 1000 p.2.1 ∧ Bd 1000 p.2.2) → Bd (2001 + 1001 * n) (l.foldl alStep (0, 1)).1 ∧ Bd (1000 * n + 1) (l.foldl alStep (0, 1)).2
  | 0, l, e, _ => by
    have : l = [] := List.length_eq_zero_iff.mp e
    subst this
    exact ⟨(Bd.lit (n := 1)).mono (by decide), Bd.lit⟩
  | n + 1, l, e, h => by
    rcases List.eq_nil_or_concat l with rfl | ⟨r, p, rfl⟩
    · cases e
    rw [List.concat_eq_append] at *
    rw [List.length_append, List.length_singleton] at e
    obtain ⟨i1, i2⟩ := bd_al n r (by omega) fun q hq => h q (List.mem_append_left _ hq)
    obtain ⟨h1, h2, h3⟩ := h p (List.mem_append_right _ (List.mem_singleton.mpr rfl))
    rw [List.foldl_append]
    generalize r.foldl alStep (0, 1) = st at i1 i2
    constructor
    · show Bd (2001 + 1001 * (n + 1)) (st.1 * p.2.2 + p.1 * p.2.1 * st.2)
      exact (((i1.mul h3).mono (show 2001 + 1001 * n + 1000 ≤ 3001 + 1001 * n by omega)).add (((h1.mul h2).mul i2).mono (show 1000 + 1000 + (1000 * n + 1) ≤ 3001 + 1001 * n by omega))).mono (by omega)
    · show Bd (1000 * (n + 1) + 1) (st.2 * p.2.2)
      exact (i2.mul h3).mono (by omega)
theorem zip_ok {ws : List Int} {pts : List (Int × Int)} (P : PtOk pts) (W : RwOk ws pts.length) : ∀ p ∈ ws.zip pts, 0 < p.2.2 ∧ Bd 1000 p.1 ∧ Bd 1000 p.2.1 ∧ Bd 1000 p.2.2 := fun p hp => by
  obtain ⟨a, b⟩ := List.of_mem_zip hp
  obtain ⟨c1, c2, c3⟩ := P.ok _ b
  exact ⟨c1, W.bd _ a, c2, c3⟩
theorem zip_len {ws : List Int} {pts : List (Int × Int)} (W : RwOk ws pts.length) : (ws.zip pts).length = pts.length := by
  rw [List.length_zip, W.len, Nat.min_self]
theorem al_pos {ws : List Int} {pts : List (Int × Int)} (P : PtOk pts) (W : RwOk ws pts.length) : 0 < (alFold ws pts).2 := by
  rw [alFold_eq ws pts fun p hp => (P.ok p hp).1]
  exact prodB_pos fun p hp => (zip_ok P W p hp).1
theorem al_bd {ws : List Int} {pts : List (Int × Int)} (P : PtOk pts) (W : RwOk ws pts.length) : Bd 9100 (alFold ws pts).1 ∧ Bd 7001 (alFold ws pts).2 := by
  have z := bd_al pts.length (ws.zip pts) (zip_len W) fun p hp => (zip_ok P W p hp).2
  have := P.n7
  exact ⟨z.1.mono (by omega), z.2.mono (by omega)⟩
noncomputable def holdM (ws : List Int) (b : Int) (pts : List (Int × Int)) : Bool := decide ((alFold ws pts).1 ≤ b * (alFold ws pts).2)
noncomputable def spHolds (K : PySem.W.Frag) : Sp := fun vs H Q _ => ∃ (ra pa : Addr) (ws : List Int) (b : Int) (pv : List V) (pts : List (Int × Int)), vs = [.ref ra, .ref pa] ∧ H ra = some (.tup (rowV ws b)) ∧ SqL K H pa pv ∧ PtV H pv pts ∧ PtOk pts ∧ RwOk ws pts.length ∧ Bd 1000 b ∧
  ∀ H', Same H H' → Q (.bl (holdM ws b pts)) H'
structure RowOk (r : List Int) (n : Nat) : Prop where
  len : r.length = n + 1
  bd : ∀ x ∈ r, Bd 1000 x
theorem row_split {r : List Int} {n : Nat} (h : r.length = n + 1) : r.take n ++ [r.getD n 0] = r := by
  have e : r[n]? = some (r.getD n 0) := by
    rw [List.getD_eq_getElem?_getD, List.getElem?_eq_getElem (by omega)]
    rfl
  have z := take_snoc e
  rw [← z, List.take_of_length_le (by omega)]
theorem rowV_split {r : List Int} {n : Nat} (h : r.length = n + 1) : rowV (r.take n) (r.getD n 0) = r.map V.int := by
  have e : rowV (r.take n) (r.getD n 0) = (r.take n ++ [r.getD n 0]).map V.int := by
    rw [List.map_append]
    rfl
  rw [e, row_split h]
theorem RowOk.rw {r : List Int} {n : Nat} (h : RowOk r n) : RwOk (r.take n) n := ⟨by rw [List.length_take, h.len]; omega, fun w hw => h.bd w (List.mem_of_mem_take hw)⟩
theorem RowOk.at {r : List Int} {n j : Nat} (h : RowOk r n) (hj : j ≤ n) : r[j]? = some (r.getD j 0) ∧ Bd 1000 (r.getD j 0) := by
  have e : r[j]? = some (r.getD j 0) := by
    rw [List.getD_eq_getElem?_getD, List.getElem?_eq_getElem (by have := h.len; omega)]
    rfl
  exact ⟨e, h.bd _ (List.mem_of_getElem? e)⟩
noncomputable def rowT (r : List Int) : PyData := .tuple (r.map PyData.int)
theorem dp_ways {K : PySem.W.Frag} {H : Hp} : ∀ {rv : List V} {rows : List (List Int)}, WaysV H rv rows → DpAll K H rv (rows.map rowT)
  | _, _, .nil => .nil
  | _, _, .cons ⟨a, e, h⟩ t => by
    subst e
    exact .cons (.tup (SqT.of h) (dp_ints _)) (dp_ways t)
theorem lay_ways : ∀ rows : List (List Int), PyData.canLayAll0 (rows.map rowT) = true
  | [] => rfl
  | r :: t => by
    show (PyData.canLayAll0 (r.map PyData.int) && PyData.canLayAll0 (t.map rowT)) = true
    rw [lay_i, lay_ways t]
    rfl
theorem dep_ways : ∀ rows : List (List Int), PyData.depthAll (rows.map rowT) ≤ 1
  | [] => Nat.zero_le _
  | r :: t => by
    show max (PyData.depthAll (r.map PyData.int) + 1) (PyData.depthAll (t.map rowT)) ≤ 1
    rw [dep_i]
    have := dep_ways t
    omega
theorem dep_rows (rows : List (List Int)) : (PyData.list (rows.map rowT)).depth ≤ 60 := by
  show PyData.depthAll (rows.map rowT) + 1 ≤ 60
  have := dep_ways rows
  omega
theorem lay_rows (rows : List (List Int)) : (PyData.list (rows.map rowT)).canLay0 = true := lay_ways rows
theorem eqv_rows0 (rows : List (List Int)) : (!PyData.eqv (.list (rows.map rowT)) (.list [])) = decide (rows ≠ []) := by
  cases rows with
  | nil => rfl
  | cons r t => rfl
end Sh


namespace Sh
open PySem L2
inductive Kd where
  | int | bool | non | str | lst | tup | dic
  deriving DecidableEq
noncomputable def Kd.nm : Kd → String
  | .int => "int" | .bool => "bool" | .non => "NoneType" | .str => "str" | .lst => "list" | .tup => "tuple" | .dic => "dict"
noncomputable def Kd.whole : Kd → Bool
  | .int => true
  | _ => false
noncomputable def Kd.isInt : Kd → Bool
  | .int => true
  | .bool => true
  | _ => false
noncomputable def Kd.isTup : Kd → Bool
  | .tup => true
  | _ => false
inductive Kof (H : Hp) : V → Kd → Prop where
  | non : Kof H .non .non
  | bl (b : Bool) : Kof H (.bl b) .bool
  | int (i : Int) : Kof H (.int i) .int
  | str (x : Str) : Kof H (.str x) .str
  | lst {a : Addr} {xs : List V} (e : H a = some (.lst xs)) : Kof H (.ref a) .lst
  | tup {a : Addr} {xs : List V} (e : H a = some (.tup xs)) : Kof H (.ref a) .tup
  | dic {a : Addr} {kvs : List (Key × V)} (e : H a = some (.dK kvs)) : Kof H (.ref a) .dic
theorem Kof.ty {K : PySem.W.Frag} {H : Hp} {x : V} {k : Kd} (h : Kof H x k) : TyOf K H x (.type k.nm) := by
  cases h with
  | non => exact .non
  | bl b => exact .bl b
  | int i => exact .int i
  | str x => exact .str x
  | lst e => exact .lst e
  | tup e => exact .tup e
  | dic e => exact .dK e
theorem Kof.same {H H' : Hp} {x : V} {k : Kd} (s : Same H H') (h : Kof H x k) : Kof H' x k := by
  cases h with
  | non => exact .non
  | bl b => exact .bl b
  | int i => exact .int i
  | str x => exact .str x
  | lst e => exact .lst (s _ _ e)
  | tup e => exact .tup (s _ _ e)
  | dic e => exact .dic (s _ _ e)
noncomputable def Kd.isLst : Kd → Bool
  | .lst => true
  | _ => false
section
variable (K : PySem.W.Frag)
theorem kd_tup (k : Kd) : PySem.W.kitOne K (.type k.nm) (.type "tuple") = some k.isTup := by
  cases k <;> first | rfl | decide +kernel | (unfold PySem.W.kitOne; rw [if_pos (by decide +kernel)]; rfl) | (unfold PySem.W.kitOne; rw [if_neg (by decide +kernel)]; rfl)
theorem kd_lst (k : Kd) : PySem.W.kitOne K (.type k.nm) (.type "list") = some k.isLst := by
  cases k <;> first | rfl | decide +kernel | (unfold PySem.W.kitOne; rw [if_pos (by decide +kernel)]; rfl) | (unfold PySem.W.kitOne; rw [if_neg (by decide +kernel)]; rfl)
end
end Sh
namespace L2
open PySem PySem.Spec PyProof.Rows
section
variable {X : Cx}
end
end L2


namespace L2
open PySem PySem.Spec PyProof.Rows
structure ClsF (K : PySem.W.Frag) (mg : Str → Option Value) (x : Str) (C : Addr) : Prop where
  cl : Cls K C
  mgC : mg x = some (.ref C)
  ha : PySem.W.findIn K (.ref C) "__class__" = some (some (.builtin "object.__class__"))
  hn : PySem.W.specialIn K (.builtin "object.__class__") "__get__" = some (some (.builtin "getset_descriptor.__get__"))
  htk : PySem.W.takesIn K (.builtin "object.__class__") = some true
  hm : PySem.W.mroIn K C (.type "object") = some true
theorem ClsF.ty {K : PySem.W.Frag} {mg : Str → Option Value} {x : Str} {C a dx : Addr} {H : Hp} {fs : List (Str × V)} (T : ClsF K mg x C) (e : H a = some (.ins C dx fs)) : TyOf K H (.ref a) (.ref C) := .ins e T.cl T.ha T.hn T.htk T.hm
structure FnM (P : Program) (w : World) (K : PySem.W.Frag) (mg : Str → Option Value) (base : Heap) (C : Addr) (m : Str) (ps : List Str) (k : Nat) (sp : Sp) : Prop where
  ex : ∃ f fd, FnOk P w K mg base CX0 k f fd ps sp ∧ Meth K C m f ∧ Binds K fd ps []
structure FnC (P : Program) (w : World) (K : PySem.W.Frag) (mg : Str → Option Value) (base : Heap) (C : Addr) (ps : List Str) (k : Nat) (sp : Sp) : Prop where
  ex : ∃ f fd, FnOk P w K mg base CX0 k f fd ps sp ∧ Mk K C f ∧ Binds K fd ps []
structure FnCD (P : Program) (w : World) (K : PySem.W.Frag) (mg : Str → Option Value) (base : Heap) (C : Addr) (ps : List Str) (k : Nat) (sp : Sp) (dv : V) : Prop where
  ex : ∃ f fd d, FnOk P w K mg base CX0 k f fd ps sp ∧ Mk K C f ∧ Binds K fd ps [] ∧ Binds K fd ps [d] ∧ RelV dv d
theorem FnM.mono {P : Program} {w : World} {K : PySem.W.Frag} {mg : Str → Option Value} {base : Heap} {C : Addr} {m : Str} {ps : List Str} {j k : Nat} {sp : Sp} (F : FnM P w K mg base C m ps j sp) (h : j ≤ k) : FnM P w K mg base C m ps k sp := by
  obtain ⟨f, fd, a, b, c⟩ := F.ex
  exact ⟨f, fd, a.mono h, b, c⟩
theorem FnC.mono {P : Program} {w : World} {K : PySem.W.Frag} {mg : Str → Option Value} {base : Heap} {C : Addr} {ps : List Str} {j k : Nat} {sp : Sp} (F : FnC P w K mg base C ps j sp) (h : j ≤ k) : FnC P w K mg base C ps k sp := by
  obtain ⟨f, fd, a, b, c⟩ := F.ex
  exact ⟨f, fd, a.mono h, b, c⟩
theorem FnCD.mono {P : Program} {w : World} {K : PySem.W.Frag} {mg : Str → Option Value} {base : Heap} {C : Addr} {ps : List Str} {j k : Nat} {sp : Sp} {dv : V} (F : FnCD P w K mg base C ps j sp dv) (h : j ≤ k) : FnCD P w K mg base C ps k sp dv := by
  obtain ⟨f, fd, d, a, b, c⟩ := F.ex
  exact ⟨f, fd, d, a.mono h, b, c⟩
theorem FnCD.fn {P : Program} {w : World} {K : PySem.W.Frag} {mg : Str → Option Value} {base : Heap} {C : Addr} {ps : List Str} {k : Nat} {sp : Sp} {dv : V} (F : FnCD P w K mg base C ps k sp dv) : FnC P w K mg base C ps k sp := by
  obtain ⟨f, fd, d, a, b, c, _⟩ := F.ex
  exact ⟨f, fd, a, b, c⟩
section
variable {X : Cx} {C : Addr} {m x : Str} {ps : List Str} {k : Nat} {sp : Sp} {o e : Expr} {es : List Expr} {ta : TE} {t : TA} {p pos apos : Pos} {dv : V}
theorem pe_methF {pl : Sem Bool} (F : FnM X.prog X.w X.K X.mg X.base C m ps k sp) (T : ClsF X.K X.mg x C) (hr : Room k X.A) (he : PE X o ta) (ha : PA X (e :: es) t)
    (hst : starEach (e :: es) X.env = (false, eval e X.env) :: starEach es X.env := by rfl) (hpl : (backTo pos (starEach es X.env)).any (·.1) = false := by rfl)
    (ht : eval (.Call (.Attribute o m apos) (e :: es) [] pos) X.env = (do
      let ov ← eval o X.env
      standAt apos.atName
      let (f, first) ← holding [ov] (getMethod ov m pl)
      callWith pos f first (backTo pos (starEach (e :: es) X.env)) (backToKw pos (keywordEach [] X.env))) := by rfl) :
    PE X (.Call (.Attribute o m apos) (e :: es) [] pos) (tMeth C m sp [] E0 ta t) := by
  obtain ⟨f, fd, a, b, c⟩ := F.ex
  exact pe_meth he T.cl b a hr c .nil pass0 ha hst hpl ht
theorem pe_makeF (F : FnC X.prog X.w X.K X.mg X.base C ps k sp) (T : ClsF X.K X.mg x C) (hr : Room (k + 1) X.A) (hg : Gl X x) (ha : PA X (e :: es) t)
    (hdb : (x == ("__debug__" : Str)) = false := by decide) (he : starEach (e :: es) X.env = (false, eval e X.env) :: starEach es X.env := by rfl) (hpl : (backTo pos (starEach es X.env)).any (·.1) = false := by rfl) :
    PE X (.Call (.Name x p) (e :: es) [] pos) (tMake C sp [] E0 t) := by
  obtain ⟨f, fd, a, b, c⟩ := F.ex
  exact pe_make b a hr hg T.mgC c .nil pass0 ha hdb he hpl
theorem pe_cls (T : ClsF X.K X.mg x C) (hg : Gl X x) (hd : (x == ("__debug__" : Str)) = false := by decide) : PE X (.Name x pos) (tC (.ref C)) := pe_glob hg T.mgC rfl hd
noncomputable def rInstO (K : PySem.W.Frag) : List V → Hp → VK → Prop := fun xs H Q => ∃ x C t b, xs = [x, .ref C] ∧ TyOf K H x t ∧ PySem.W.kitOne K t (.ref C) = some b ∧ Q (.bl b) H
theorem call_isinstO : CallR X (.builtin "isinstance") (rInstO X.K) := by
  intro pins s σ H xs us Q I r h
  obtain ⟨x, C, t, b, rfl, ty, e, q⟩ := h
  obtain ⟨u, v, rfl, ru, rv⟩ := vals2 r
  cases (show v = Value.ref C from rv)
  exact isinst_ok I ru ty e fun tk => ⟨.bl b, H, I.tok tk, rfl, q⟩
end
end L2


namespace L2
open PySem PySem.Spec PyProof.Rows
section
variable {X : Cx} {pos : Pos}
theorem pe_const {x : Str} {n : Int} (hg : Gl X x) (h : ∃ t, X.mg x = some (.int n t)) (hd : (x == ("__debug__" : Str)) = false := by decide) : PE X (.Name x pos) (tC (.int n)) :=
  let ⟨t, e⟩ := h
  pe_glob hg e ⟨t, rfl⟩ hd
end
noncomputable def spNone : Sp := fun _ _ _ _ => False
theorem FnOk.none {P : Program} {w : World} {K : PySem.W.Frag} {mg : Str → Option Value} {base : Heap} {CX : CXT} {k : Nat} {f : Addr} {fd : FuncData} {ps : List Str} : FnOk P w K mg base CX k f fd ps spNone :=
  ⟨fun _ _ _ _ h => h.elim, fun _ _ _ _ _ _ _ _ _ _ _ _ _ h => h.elim⟩
end L2
namespace L2
open PySem PySem.Spec PyProof.Rows PySem.SeqAt
section
variable {X : Cx}
end
end L2


namespace L2
open PySem PySem.Spec PyProof.Rows
open PySem
noncomputable abbrev zttq1 (h : Heap) (t : Addr) : Heap := h.push { cls := .type "tuple_iterator", data := .fields #[.ref t, .int 0 0] }
noncomputable abbrev zttq2 (h : Heap) (t l : Addr) : Heap := (zttq1 h t).push { cls := .type "tuple_iterator", data := .fields #[.ref l, .int 0 0] }
noncomputable abbrev zttq3 (h : Heap) (t l : Addr) : Heap := (zttq2 h t l).push { cls := .type "tuple", data := .seq #[.ref h.objs.size, .ref (zttq1 h t).objs.size] }
noncomputable abbrev zttq4 (h : Heap) (t l : Addr) : Heap := (zttq3 h t l).push { cls := .type "tuple", data := .seq #[.none, .none] }
noncomputable abbrev zttq5 (h : Heap) (t l : Addr) : Heap := (zttq4 h t l).push { cls := .type "zip", data := .fields #[.none, .bool false, .bool false, .ref (zttq2 h t l).objs.size, .ref (zttq3 h t l).objs.size] }
theorem zip_new_tt (t l : Addr) (xs ys : Array Value) :
    Meets (Builtin.«zip.__new__» ⟨[.type "zip", .ref t, .ref l], []⟩) (fun _ R s => s.heap.IsTuple t xs ∧ s.heap.IsTuple l ys ∧ R (.ok (.ret (.ref (zttq4 s.heap t l).objs.size))) { s with heap := zttq5 s.heap t l }) :=
  .of_wp fun prog w A R s h => by
    obtain ⟨hp, g, d, tk, os⟩ := s; obtain ⟨h1, h2, h⟩ := h
    have hsub := sub_zip
    have e1 : Heap.IsTuple (Shared.heap ⟨hp, g, d, tk, os⟩) t xs := h1
    have e2 : Heap.IsTuple (Shared.heap ⟨hp.push { cls := .type "tuple_iterator", data := .fields #[.ref t, .int 0 0] }, g, d, tk, os⟩) l ys := (let ⟨o, e, r⟩ := h2; ⟨o, Heap.get?_push_of_some _ e, r⟩)
    wp_walk using wpAny_pyIter_tuple e1, wpAny_pyIter_tuple e2
    exact ⟨_, rfl, h⟩
theorem call_zip_tt {prog : Program} {w : World} {A : Around} {E : Value → Shared → Prop} {s : Shared} {t l : Addr} {xs ys : Array Value} {Q : Value → Shared → Prop} (h1 : s.heap.IsTuple t xs) (h2 : s.heap.IsTuple l ys)
    (h : ∀ h', IsZip h' (s.heap.objs.size + 4) (s.heap.objs.size + 2) (s.heap.objs.size + 3) .none → IsPair h' (s.heap.objs.size + 2) (.ref s.heap.objs.size) (.ref (s.heap.objs.size + 1)) → IsPair h' (s.heap.objs.size + 3) .none .none →
      h'.IsTupleIter s.heap.objs.size t 0 → h'.IsTupleIter (s.heap.objs.size + 1) l 0 → (∀ c o, s.heap.get? c = some o → h'.get? c = some o) → Q (.ref (s.heap.objs.size + 4)) { s with heap := h' }) :
    wpAny (model prog w) A (call (.type "zip") [.ref t, .ref l]) Q E s := by
  refine callType_new F.called_zip (by decide) (F.typeCall_zip_2 _ _) (F.newCall_zip_2 _ _) (fun obj => F.args_object_init_3 obj _ _) F.entry_zip_new (zip_new_tt t l xs ys) ⟨h1, h2, ?_⟩
  have n1 : (zttq1 s.heap t).objs.size = s.heap.objs.size + 1 := Heap.size_push ..
  have n2 : (zttq2 s.heap t l).objs.size = s.heap.objs.size + 2 := by rw [Heap.size_push, n1]
  have n3 : (zttq3 s.heap t l).objs.size = s.heap.objs.size + 3 := by rw [Heap.size_push, n2]
  have n4 : (zttq4 s.heap t l).objs.size = s.heap.objs.size + 4 := by rw [Heap.size_push, n3]
  have p5 : (zttq5 s.heap t l).get? (zttq4 s.heap t l).objs.size = some _ := Heap.get?_push_size _ rfl
  have p4 : (zttq5 s.heap t l).get? (zttq3 s.heap t l).objs.size = some _ := Heap.get?_push_of_some _ (Heap.get?_push_size _ rfl)
  have p3 : (zttq5 s.heap t l).get? (zttq2 s.heap t l).objs.size = some _ := Heap.get?_push_of_some _ (Heap.get?_push_of_some _ (Heap.get?_push_size _ rfl))
  have p2 : (zttq5 s.heap t l).get? (zttq1 s.heap t).objs.size = some _ := Heap.get?_push_of_some _ (Heap.get?_push_of_some _ (Heap.get?_push_of_some _ (Heap.get?_push_size _ rfl)))
  have p1 : (zttq5 s.heap t l).get? s.heap.objs.size = some _ := Heap.get?_push_of_some _ (Heap.get?_push_of_some _ (Heap.get?_push_of_some _ (Heap.get?_push_of_some _ (Heap.get?_push_size _ rfl))))
  change _ ∧ _
  rw [n2, n3, n4] at p5
  rw [n1, n2] at p3
  rw [n3] at p4
  rw [n1] at p2
  rw [n4]
  exact ⟨⟨_, p5, rfl⟩, h _ p5 p3 p4 ⟨_, p1, rfl, rfl⟩ ⟨_, p2, rfl, rfl⟩ fun c o x => Heap.get?_push_of_some _ (Heap.get?_push_of_some _ (Heap.get?_push_of_some _ (Heap.get?_push_of_some _ (Heap.get?_push_of_some _ x))))⟩
noncomputable abbrev zltq1 (h : Heap) (t : Addr) : Heap := h.push { cls := .type "list_iterator", data := .fields #[.ref t, .int 0 0] }
noncomputable abbrev zltq2 (h : Heap) (t l : Addr) : Heap := (zltq1 h t).push { cls := .type "tuple_iterator", data := .fields #[.ref l, .int 0 0] }
noncomputable abbrev zltq3 (h : Heap) (t l : Addr) : Heap := (zltq2 h t l).push { cls := .type "tuple", data := .seq #[.ref h.objs.size, .ref (zltq1 h t).objs.size] }
noncomputable abbrev zltq4 (h : Heap) (t l : Addr) : Heap := (zltq3 h t l).push { cls := .type "tuple", data := .seq #[.none, .none] }
noncomputable abbrev zltq5 (h : Heap) (t l : Addr) : Heap := (zltq4 h t l).push { cls := .type "zip", data := .fields #[.none, .bool false, .bool false, .ref (zltq2 h t l).objs.size, .ref (zltq3 h t l).objs.size] }
theorem zip_new_lt (t l : Addr) (xs ys : Array Value) :
    Meets (Builtin.«zip.__new__» ⟨[.type "zip", .ref t, .ref l], []⟩) (fun _ R s => s.heap.IsList t xs ∧ s.heap.IsTuple l ys ∧ R (.ok (.ret (.ref (zltq4 s.heap t l).objs.size))) { s with heap := zltq5 s.heap t l }) :=
  .of_wp fun prog w A R s h => by
    obtain ⟨hp, g, d, tk, os⟩ := s; obtain ⟨h1, h2, h⟩ := h
    have hsub := sub_zip
    have e1 : Heap.IsList (Shared.heap ⟨hp, g, d, tk, os⟩) t xs := h1
    have e2 : Heap.IsTuple (Shared.heap ⟨hp.push { cls := .type "list_iterator", data := .fields #[.ref t, .int 0 0] }, g, d, tk, os⟩) l ys := (let ⟨o, e, r⟩ := h2; ⟨o, Heap.get?_push_of_some _ e, r⟩)
    wp_walk using wpAny_pyIter_list e1, wpAny_pyIter_tuple e2
    exact ⟨_, rfl, h⟩
theorem call_zip_lt {prog : Program} {w : World} {A : Around} {E : Value → Shared → Prop} {s : Shared} {t l : Addr} {xs ys : Array Value} {Q : Value → Shared → Prop} (h1 : s.heap.IsList t xs) (h2 : s.heap.IsTuple l ys)
    (h : ∀ h', IsZip h' (s.heap.objs.size + 4) (s.heap.objs.size + 2) (s.heap.objs.size + 3) .none → IsPair h' (s.heap.objs.size + 2) (.ref s.heap.objs.size) (.ref (s.heap.objs.size + 1)) → IsPair h' (s.heap.objs.size + 3) .none .none →
      h'.IsListIter s.heap.objs.size t 0 → h'.IsTupleIter (s.heap.objs.size + 1) l 0 → (∀ c o, s.heap.get? c = some o → h'.get? c = some o) → Q (.ref (s.heap.objs.size + 4)) { s with heap := h' }) :
    wpAny (model prog w) A (call (.type "zip") [.ref t, .ref l]) Q E s := by
  refine callType_new F.called_zip (by decide) (F.typeCall_zip_2 _ _) (F.newCall_zip_2 _ _) (fun obj => F.args_object_init_3 obj _ _) F.entry_zip_new (zip_new_lt t l xs ys) ⟨h1, h2, ?_⟩
  have n1 : (zltq1 s.heap t).objs.size = s.heap.objs.size + 1 := Heap.size_push ..
  have n2 : (zltq2 s.heap t l).objs.size = s.heap.objs.size + 2 := by rw [Heap.size_push, n1]
  have n3 : (zltq3 s.heap t l).objs.size = s.heap.objs.size + 3 := by rw [Heap.size_push, n2]
  have n4 : (zltq4 s.heap t l).objs.size = s.heap.objs.size + 4 := by rw [Heap.size_push, n3]
  have p5 : (zltq5 s.heap t l).get? (zltq4 s.heap t l).objs.size = some _ := Heap.get?_push_size _ rfl
  have p4 : (zltq5 s.heap t l).get? (zltq3 s.heap t l).objs.size = some _ := Heap.get?_push_of_some _ (Heap.get?_push_size _ rfl)
  have p3 : (zltq5 s.heap t l).get? (zltq2 s.heap t l).objs.size = some _ := Heap.get?_push_of_some _ (Heap.get?_push_of_some _ (Heap.get?_push_size _ rfl))
  have p2 : (zltq5 s.heap t l).get? (zltq1 s.heap t).objs.size = some _ := Heap.get?_push_of_some _ (Heap.get?_push_of_some _ (Heap.get?_push_of_some _ (Heap.get?_push_size _ rfl)))
  have p1 : (zltq5 s.heap t l).get? s.heap.objs.size = some _ := Heap.get?_push_of_some _ (Heap.get?_push_of_some _ (Heap.get?_push_of_some _ (Heap.get?_push_of_some _ (Heap.get?_push_size _ rfl))))
  change _ ∧ _
  rw [n2, n3, n4] at p5
  rw [n1, n2] at p3
  rw [n3] at p4
  rw [n1] at p2
  rw [n4]
  exact ⟨⟨_, p5, rfl⟩, h _ p5 p3 p4 ⟨_, p1, rfl, rfl⟩ ⟨_, p2, rfl, rfl⟩ fun c o x => Heap.get?_push_of_some _ (Heap.get?_push_of_some _ (Heap.get?_push_of_some _ (Heap.get?_push_of_some _ (Heap.get?_push_of_some _ x))))⟩
noncomputable def ItzTT (K : PySem.W.Frag) (a b : Addr) : It :=
  ⟨fun i H => ∃ xs ys x y, SqT K H a xs ∧ SqT K H b ys ∧ xs[i]? = some x ∧ ys[i]? = some y,
    fun i H v H' => ∃ T x y, v = .ref T ∧ H T = none ∧ H' = upd H T (.tup [x, y]) ∧ (∀ xs, SqT K H a xs → xs[i]? = some x) ∧ ∀ ys, SqT K H b ys → ys[i]? = some y,
    fun i H => ∃ xs ys, SqT K H a xs ∧ SqT K H b ys ∧ i ≤ xs.length ∧ i ≤ ys.length ∧ (i = xs.length ∨ i = ys.length)⟩
theorem turn_zipTT {P : Program} {w : World} {K : PySem.W.Frag} {es : List Expr} {kk : Nat} {tp : Pos} {a b z TI TO i1 i2 : Addr} (Z : Zp z TI TO i1 i2 [i1, a] [i2, b]) (na : a ≠ i1) (nb : b ≠ i2) :
    Turn P w K (.Tuple es kk tp) (ItzTT K a b) [z, TI, TO, i1, i2] z (fun i h => IsZip h z TI TO .none ∧ IsPair h TI (.ref i1) (.ref i2) ∧ (∃ x y, IsPair h TO x y) ∧ h.IsTupleIter i1 a i ∧ h.IsTupleIter i2 b i) where
  mem := by simp
  obj := fun i h ⟨t1, t2, ⟨x, y, t3⟩, t4, t5⟩ c hc => by
    simp only [List.mem_cons, List.not_mem_nil, or_false] at hc
    rcases hc with rfl | rfl | rfl | rfl | rfl
    · exact ⟨_, t1, fields_no_cell⟩
    · exact ⟨_, t2, seq_no_cell⟩
    · exact ⟨_, t3, seq_no_cell⟩
    · obtain ⟨o, e, _, d⟩ := t4
      exact ⟨o, e, by rw [d]; exact fields_no_cell⟩
    · obtain ⟨o, e, _, d⟩ := t5
      exact ⟨o, e, by rw [d]; exact fields_no_cell⟩
  keep := fun i h h' ⟨t1, t2, ⟨x, y, t3⟩, t4, t5⟩ k => ⟨k z (by simp) _ t1, k TI (by simp) _ t2, ⟨x, y, k TO (by simp) _ t3⟩, (by obtain ⟨o, e, r⟩ := t4; exact ⟨o, k i1 (by simp) o e, r⟩), (by obtain ⟨o, e, r⟩ := t5; exact ⟨o, k i2 (by simp) o e, r⟩)⟩
  item := by
    intro X hP hw hK hc i pins s σ H E I hf ⟨t1, t2, ⟨x0, y0, t3⟩, t4, t5⟩ hg
    subst hP hw hK
    obtain ⟨xs, ys, x, y, hq1, hq2, hx, hy⟩ := hg
    obtain ⟨its1, rv1, p1, _⟩ := I.tuple hq1
    obtain ⟨its2, rv2, p2, _⟩ := I.tuple hq2
    obtain ⟨u, hu, ru⟩ := rv1.get hx
    obtain ⟨v, hv, rv⟩ := rv2.get hy
    have hh : X.A.in1.handled = none := I.ok.hd hc
    have l1 : i < its1.toArray.size := by rw [List.size_toArray]; exact (List.getElem?_eq_some_iff.mp hu).1
    have l2 : i < its2.toArray.size := by rw [List.size_toArray]; exact (List.getElem?_eq_some_iff.mp hv).1
    refine zip_next (draws_tup hh i1 a na its1.toArray) (draws_tup hh i2 b nb its2.toArray) Z t1 t2 t3 ⟨t4, p1⟩ ⟨t5, p2⟩ l1 l2 ?_
    intro x' y' h1 tk px py z1 z2 z3 z4 z5 z6 keep
    have ex : x' = u := by
      have q : its1.toArray[i]? = some x' := px
      simp only [List.getElem?_toArray] at q
      rw [hu] at q
      exact (Option.some.inj q).symm
    have ey : y' = v := by
      have q : its2.toArray[i]? = some y' := py
      simp only [List.getElem?_toArray] at q
      rw [hv] at q
      exact (Option.some.inj q).symm
    subst ex ey
    refine ⟨_, rfl, wpAny_letOwnedTupleGo_zip (s := { s with heap := h1, toks := tk }) z1 fun h2 z7 sb => ?_⟩
    have zlt : z < s.heap.objs.size := Heap.lt_size t1
    have keep2 : ∀ c o, c ∉ [z, TI, TO, i1, i2] → s.heap.get? c = some o → h2.get? c = some o := fun c o hc e => by
      simp only [List.mem_cons, List.not_mem_nil, or_false, not_or] at hc
      exact sb.extBut c o hc.1 (keep c o hc.1 hc.2.2.1 hc.2.2.2.1 hc.2.2.2.2 e)
    have pT : IsPair h2 s.heap.objs.size x' y' := sb.extBut _ _ (Nat.ne_of_gt zlt) z6
    have I' := I.turnT (h' := h2) (tk := tk) (ch := [z, TI, TO, i1, i2]) (x := x) (y := y) hf keep2 (Nat.le_refl _) pT ru rv
    refine ⟨.ref s.heap.objs.size, _, I', rfl, ⟨s.heap.objs.size, x, y, rfl, I.hok.fresh (Nat.le_refl _), rfl, fun xs' q => by rw [I.tuple_inj q hq1]; exact hx, fun ys' q => by rw [I.tuple_inj q hq2]; exact hy⟩,
      ⟨z7, sb.extBut _ _ Z.a1 z2, ⟨_, _, sb.extBut _ _ Z.a2 z3⟩, z4.1.extBut sb.extBut Z.a3, z5.1.extBut sb.extBut Z.a4⟩, fun c hc => ?_⟩
    have := (hf c hc).1
    rw [upd_ne]
    · exact this
    · intro q
      obtain ⟨o, e, _⟩ : ∃ o, s.heap.get? c = some o ∧ True := by
        simp only [List.mem_cons, List.not_mem_nil, or_false] at hc
        rcases hc with rfl | rfl | rfl | rfl | rfl
        · exact ⟨_, t1, trivial⟩
        · exact ⟨_, t2, trivial⟩
        · exact ⟨_, t3, trivial⟩
        · obtain ⟨o, e, _⟩ := t4; exact ⟨o, e, trivial⟩
        · obtain ⟨o, e, _⟩ := t5; exact ⟨o, e, trivial⟩
      rw [q] at e
      exact absurd (Heap.lt_size e) (Nat.lt_irrefl _)
  done := by
    intro X hP hw hK hc i pins s σ H E I hf ⟨t1, t2, ⟨x0, y0, t3⟩, t4, t5⟩ hg
    subst hP hw hK
    obtain ⟨xs, ys, hq1, hq2, e1, e2, e3⟩ := hg
    obtain ⟨its1, rv1, p1, _⟩ := I.tuple hq1
    obtain ⟨its2, rv2, p2, _⟩ := I.tuple hq2
    have hh : X.A.in1.handled = none := I.ok.hd hc
    have n1 : its1.toArray.size = xs.length := by rw [List.size_toArray]; exact rv1.length.symm
    have n2 : its2.toArray.size = ys.length := by rw [List.size_toArray]; exact rv2.length.symm
    refine zip_end (draws_tup hh i1 a na its1.toArray) (draws_tup hh i2 b nb its2.toArray) Z t1 t2 t3 ⟨t4, p1⟩ ⟨t5, p2⟩ (by omega) (by omega) (by omega) ?_
    intro h1 tk keep
    refine ⟨rfl, I.turnN (h' := h1) (tk := tk) (ch := [z, TI, TO, i1, i2]) hf fun c o hc e => ?_⟩
    simp only [List.mem_cons, List.not_mem_nil, or_false, not_or] at hc
    exact keep c o hc.1 hc.2.2.1 hc.2.2.2.1 hc.2.2.2.2 e
  self := fun _ _ _ _ _ st h => wpAny_pyIter_zip st.1 h
noncomputable def ItzLT (K : PySem.W.Frag) (a b : Addr) : It :=
  ⟨fun i H => ∃ xs ys x y, SqL K H a xs ∧ SqT K H b ys ∧ xs[i]? = some x ∧ ys[i]? = some y,
    fun i H v H' => ∃ T x y, v = .ref T ∧ H T = none ∧ H' = upd H T (.tup [x, y]) ∧ (∀ xs, SqL K H a xs → xs[i]? = some x) ∧ ∀ ys, SqT K H b ys → ys[i]? = some y,
    fun i H => ∃ xs ys, SqL K H a xs ∧ SqT K H b ys ∧ i ≤ xs.length ∧ i ≤ ys.length ∧ (i = xs.length ∨ i = ys.length)⟩
theorem turn_zipLT {P : Program} {w : World} {K : PySem.W.Frag} {es : List Expr} {kk : Nat} {tp : Pos} {a b z TI TO i1 i2 : Addr} (Z : Zp z TI TO i1 i2 [i1, a] [i2, b]) (na : a ≠ i1) (nb : b ≠ i2) :
    Turn P w K (.Tuple es kk tp) (ItzLT K a b) [z, TI, TO, i1, i2] z (fun i h => IsZip h z TI TO .none ∧ IsPair h TI (.ref i1) (.ref i2) ∧ (∃ x y, IsPair h TO x y) ∧ h.IsListIter i1 a i ∧ h.IsTupleIter i2 b i) where
  mem := by simp
  obj := fun i h ⟨t1, t2, ⟨x, y, t3⟩, t4, t5⟩ c hc => by
    simp only [List.mem_cons, List.not_mem_nil, or_false] at hc
    rcases hc with rfl | rfl | rfl | rfl | rfl
    · exact ⟨_, t1, fields_no_cell⟩
    · exact ⟨_, t2, seq_no_cell⟩
    · exact ⟨_, t3, seq_no_cell⟩
    · obtain ⟨o, e, _, d⟩ := t4
      exact ⟨o, e, by rw [d]; exact fields_no_cell⟩
    · obtain ⟨o, e, _, d⟩ := t5
      exact ⟨o, e, by rw [d]; exact fields_no_cell⟩
  keep := fun i h h' ⟨t1, t2, ⟨x, y, t3⟩, t4, t5⟩ k => ⟨k z (by simp) _ t1, k TI (by simp) _ t2, ⟨x, y, k TO (by simp) _ t3⟩, (by obtain ⟨o, e, r⟩ := t4; exact ⟨o, k i1 (by simp) o e, r⟩), (by obtain ⟨o, e, r⟩ := t5; exact ⟨o, k i2 (by simp) o e, r⟩)⟩
  item := by
    intro X hP hw hK hc i pins s σ H E I hf ⟨t1, t2, ⟨x0, y0, t3⟩, t4, t5⟩ hg
    subst hP hw hK
    obtain ⟨xs, ys, x, y, hq1, hq2, hx, hy⟩ := hg
    obtain ⟨its1, rv1, p1, _⟩ := I.list hq1
    obtain ⟨its2, rv2, p2, _⟩ := I.tuple hq2
    obtain ⟨u, hu, ru⟩ := rv1.get hx
    obtain ⟨v, hv, rv⟩ := rv2.get hy
    have hh : X.A.in1.handled = none := I.ok.hd hc
    have l1 : i < its1.toArray.size := by rw [List.size_toArray]; exact (List.getElem?_eq_some_iff.mp hu).1
    have l2 : i < its2.toArray.size := by rw [List.size_toArray]; exact (List.getElem?_eq_some_iff.mp hv).1
    refine zip_next (Draws.list hh i1 a na its1.toArray) (draws_tup hh i2 b nb its2.toArray) Z t1 t2 t3 ⟨t4, p1.isList⟩ ⟨t5, p2⟩ l1 l2 ?_
    intro x' y' h1 tk px py z1 z2 z3 z4 z5 z6 keep
    have ex : x' = u := by
      have q : its1.toArray[i]? = some x' := px
      simp only [List.getElem?_toArray] at q
      rw [hu] at q
      exact (Option.some.inj q).symm
    have ey : y' = v := by
      have q : its2.toArray[i]? = some y' := py
      simp only [List.getElem?_toArray] at q
      rw [hv] at q
      exact (Option.some.inj q).symm
    subst ex ey
    refine ⟨_, rfl, wpAny_letOwnedTupleGo_zip (s := { s with heap := h1, toks := tk }) z1 fun h2 z7 sb => ?_⟩
    have zlt : z < s.heap.objs.size := Heap.lt_size t1
    have keep2 : ∀ c o, c ∉ [z, TI, TO, i1, i2] → s.heap.get? c = some o → h2.get? c = some o := fun c o hc e => by
      simp only [List.mem_cons, List.not_mem_nil, or_false, not_or] at hc
      exact sb.extBut c o hc.1 (keep c o hc.1 hc.2.2.1 hc.2.2.2.1 hc.2.2.2.2 e)
    have pT : IsPair h2 s.heap.objs.size x' y' := sb.extBut _ _ (Nat.ne_of_gt zlt) z6
    have I' := I.turnT (h' := h2) (tk := tk) (ch := [z, TI, TO, i1, i2]) (x := x) (y := y) hf keep2 (Nat.le_refl _) pT ru rv
    refine ⟨.ref s.heap.objs.size, _, I', rfl, ⟨s.heap.objs.size, x, y, rfl, I.hok.fresh (Nat.le_refl _), rfl, fun xs' q => by rw [I.list_inj q hq1]; exact hx, fun ys' q => by rw [I.tuple_inj q hq2]; exact hy⟩,
      ⟨z7, sb.extBut _ _ Z.a1 z2, ⟨_, _, sb.extBut _ _ Z.a2 z3⟩, z4.1.extBut sb.extBut Z.a3, z5.1.extBut sb.extBut Z.a4⟩, fun c hc => ?_⟩
    have := (hf c hc).1
    rw [upd_ne]
    · exact this
    · intro q
      obtain ⟨o, e, _⟩ : ∃ o, s.heap.get? c = some o ∧ True := by
        simp only [List.mem_cons, List.not_mem_nil, or_false] at hc
        rcases hc with rfl | rfl | rfl | rfl | rfl
        · exact ⟨_, t1, trivial⟩
        · exact ⟨_, t2, trivial⟩
        · exact ⟨_, t3, trivial⟩
        · obtain ⟨o, e, _⟩ := t4; exact ⟨o, e, trivial⟩
        · obtain ⟨o, e, _⟩ := t5; exact ⟨o, e, trivial⟩
      rw [q] at e
      exact absurd (Heap.lt_size e) (Nat.lt_irrefl _)
  done := by
    intro X hP hw hK hc i pins s σ H E I hf ⟨t1, t2, ⟨x0, y0, t3⟩, t4, t5⟩ hg
    subst hP hw hK
    obtain ⟨xs, ys, hq1, hq2, e1, e2, e3⟩ := hg
    obtain ⟨its1, rv1, p1, _⟩ := I.list hq1
    obtain ⟨its2, rv2, p2, _⟩ := I.tuple hq2
    have hh : X.A.in1.handled = none := I.ok.hd hc
    have n1 : its1.toArray.size = xs.length := by rw [List.size_toArray]; exact rv1.length.symm
    have n2 : its2.toArray.size = ys.length := by rw [List.size_toArray]; exact rv2.length.symm
    refine zip_end (Draws.list hh i1 a na its1.toArray) (draws_tup hh i2 b nb its2.toArray) Z t1 t2 t3 ⟨t4, p1.isList⟩ ⟨t5, p2⟩ (by omega) (by omega) (by omega) ?_
    intro h1 tk keep
    refine ⟨rfl, I.turnN (h' := h1) (tk := tk) (ch := [z, TI, TO, i1, i2]) hf fun c o hc e => ?_⟩
    simp only [List.mem_cons, List.not_mem_nil, or_false, not_or] at hc
    exact keep c o hc.1 hc.2.2.1 hc.2.2.2.1 hc.2.2.2.2 e
  self := fun _ _ _ _ _ st h => wpAny_pyIter_zip st.1 h
theorem Same.seqT {K : PySem.W.Frag} {H H' : Hp} {a : Addr} {xs : List V} (e : Same H H') (h : SqT K H a xs) : SqT K H' a xs := by
  rcases h with (h | ⟨o, h⟩) | h
  · exact .inl (.inl (e _ _ h))
  · exact .inl (.inr ⟨o, e _ _ h⟩)
  · exact .inr h
noncomputable def SqE (K : PySem.W.Frag) (H : Hp) (a : Addr) (xs : List V) : Prop := SqT K H a xs ∨ SqL K H a xs
theorem SqE.same {K : PySem.W.Frag} {H H' : Hp} {a : Addr} {xs : List V} (s : Same H H') (h : SqE K H a xs) : SqE K H' a xs := h.imp (fun z => s.seqT z) (fun z => s.seq z)
section
variable {X : Cx} {es : List Expr} {kk : Nat} {tp : Pos}
theorem five {pins : List (Addr × Obj)} {σ : St} {H : Hp} {s : Shared} (I : Inv X pins σ H s) {c : Addr} (hc : c ∈ [s.heap.objs.size + 4, s.heap.objs.size + 2, s.heap.objs.size + 3, s.heap.objs.size, s.heap.objs.size + 1]) : FpOk X pins H c := by
  have ge : s.heap.objs.size ≤ c := by
    simp only [List.mem_cons, List.not_mem_nil, or_false] at hc
    rcases hc with rfl | rfl | rfl | rfl | rfl
    · exact Nat.le_add_right _ 4
    · exact Nat.le_add_right _ 2
    · exact Nat.le_add_right _ 3
    · exact Nat.le_refl _
    · exact Nat.le_add_right _ 1
  exact I.fpOk ge (I.hok.fresh ge)
noncomputable def orZ (K : PySem.W.Frag) (H : Hp) (a b : Addr) (R : It → Hp → Prop) : Prop :=
  ((∃ xs, SqT K H a xs) ∧ (∃ ys, SqL K H b ys) ∧ R (Itz K a b) H) ∨ ((∃ xs, SqL K H a xs) ∧ (∃ ys, SqL K H b ys) ∧ R (ItzL K a b) H) ∨ ((∃ xs, SqT K H a xs) ∧ (∃ ys, SqT K H b ys) ∧ R (ItzTT K a b) H) ∨ ((∃ xs, SqL K H a xs) ∧ (∃ ys, SqT K H b ys) ∧ R (ItzLT K a b) H)
noncomputable def iZipS (K : PySem.W.Frag) (ta : TA) : TI := fun σ H R => ta σ H fun vs H1 => ∃ a b, vs = [.ref a, .ref b] ∧ orZ K H1 a b R
theorem pi_zipS {e1 e2 : Expr} {ta : TA} {p pos : Pos} (hg : Gl X "zip") (hm : X.mg "zip" = none) (ha : PA X [e1, e2] ta) (hs : starEach [e1, e2] X.env = [(false, eval e1 X.env), (false, eval e2 X.env)] := by rfl) (hs2 : starEach [e2] X.env = [(false, eval e2 X.env)] := by rfl) :
    PI X (.Tuple es kk tp) (.Call (.Name "zip" p) [e1, e2] [] pos) (iZipS X.K ta) := by
  intro pins s σ H R I h
  refine Call_ (ld_blt I hg hm (show bootBuiltins "zip" = some (.type "zip") by decide +kernel) (PyProof.Rows.callWith_type1 (thn (ha pos pins s σ H _ I h) fun us s1 ⟨vs, H1, I1, r1, q1⟩ => ?_) (by rw [hs, hs2]) (by rw [hs2]; rfl)))
  obtain ⟨a, b, e, q1⟩ := q1
  subst e
  obtain ⟨u, v, rfl, ru, rv⟩ := vals2 r1
  cases ru
  cases rv
  rcases q1 with ⟨⟨xs, hx⟩, ⟨ys, hy⟩, q⟩ | ⟨⟨xs, hx⟩, ⟨ys, hy⟩, q⟩ | ⟨⟨xs, hx⟩, ⟨ys, hy⟩, q⟩ | ⟨⟨xs, hx⟩, ⟨ys, hy⟩, q⟩
  · obtain ⟨its1, rv1, p1, _⟩ := I1.tuple hx
    obtain ⟨its2, rv2, p2, _⟩ := I1.list hy
    have la : a < s1.heap.objs.size := by obtain ⟨o, e, _⟩ := p1; exact Heap.lt_size e
    have lb : b < s1.heap.objs.size := by obtain ⟨o, n, e, _⟩ := p2; exact Heap.lt_size e
    refine call_zip_tl p1 p2.isList fun h' z1 z2 z3 z4 z5 keep => wpAny_pyIter_zip z1 ?_
    have I2 : Inv X pins σ H1 { s1 with heap := h' } := I1.kept (t' := s1.toks) keep
    exact ⟨s1.heap.objs.size + 4, [s1.heap.objs.size + 4, s1.heap.objs.size + 2, s1.heap.objs.size + 3, s1.heap.objs.size, s1.heap.objs.size + 1], _, _, H1, rfl, I2,
      turn_zip (a := a) (b := b) (zp_mk _ _ _ la lb) (Nat.ne_of_lt la) (Nat.ne_of_lt (Nat.lt_succ_of_lt lb)), ⟨z1, z2, ⟨_, _, z3⟩, z4, z5⟩, fun c hc => five I1 hc, q⟩
  · obtain ⟨its1, rv1, p1, _⟩ := I1.list hx
    obtain ⟨its2, rv2, p2, _⟩ := I1.list hy
    have la : a < s1.heap.objs.size := by obtain ⟨o, n, e, _⟩ := p1; exact Heap.lt_size e
    have lb : b < s1.heap.objs.size := by obtain ⟨o, n, e, _⟩ := p2; exact Heap.lt_size e
    refine call_zip_2 p1.isList p2.isList fun h' z1 z2 z3 z4 z5 _ keep => wpAny_pyIter_zip z1 ?_
    have I2 : Inv X pins σ H1 { s1 with heap := h' } := I1.kept (t' := s1.toks) keep
    exact ⟨s1.heap.objs.size + 4, [s1.heap.objs.size + 4, s1.heap.objs.size + 2, s1.heap.objs.size + 3, s1.heap.objs.size, s1.heap.objs.size + 1], _, _, H1, rfl, I2,
      turn_zipL (a := a) (b := b) (zp_mk _ _ _ la lb) (Nat.ne_of_lt la) (Nat.ne_of_lt (Nat.lt_succ_of_lt lb)), ⟨z1, z2, ⟨_, _, z3⟩, z4, z5⟩, fun c hc => five I1 hc, q⟩
  · obtain ⟨its1, rv1, p1, _⟩ := I1.tuple hx
    obtain ⟨its2, rv2, p2, _⟩ := I1.tuple hy
    have la : a < s1.heap.objs.size := by obtain ⟨o, e, _⟩ := p1; exact Heap.lt_size e
    have lb : b < s1.heap.objs.size := by obtain ⟨o, e, _⟩ := p2; exact Heap.lt_size e
    refine call_zip_tt p1 p2 fun h' z1 z2 z3 z4 z5 keep => wpAny_pyIter_zip z1 ?_
    have I2 : Inv X pins σ H1 { s1 with heap := h' } := I1.kept (t' := s1.toks) keep
    exact ⟨s1.heap.objs.size + 4, [s1.heap.objs.size + 4, s1.heap.objs.size + 2, s1.heap.objs.size + 3, s1.heap.objs.size, s1.heap.objs.size + 1], _, _, H1, rfl, I2,
      turn_zipTT (a := a) (b := b) (zp_mk _ _ _ la lb) (Nat.ne_of_lt la) (Nat.ne_of_lt (Nat.lt_succ_of_lt lb)), ⟨z1, z2, ⟨_, _, z3⟩, z4, z5⟩, fun c hc => five I1 hc, q⟩
  · obtain ⟨its1, rv1, p1, _⟩ := I1.list hx
    obtain ⟨its2, rv2, p2, _⟩ := I1.tuple hy
    have la : a < s1.heap.objs.size := by obtain ⟨o, n, e, _⟩ := p1; exact Heap.lt_size e
    have lb : b < s1.heap.objs.size := by obtain ⟨o, e, _⟩ := p2; exact Heap.lt_size e
    refine call_zip_lt p1.isList p2 fun h' z1 z2 z3 z4 z5 keep => wpAny_pyIter_zip z1 ?_
    have I2 : Inv X pins σ H1 { s1 with heap := h' } := I1.kept (t' := s1.toks) keep
    exact ⟨s1.heap.objs.size + 4, [s1.heap.objs.size + 4, s1.heap.objs.size + 2, s1.heap.objs.size + 3, s1.heap.objs.size, s1.heap.objs.size + 1], _, _, H1, rfl, I2,
      turn_zipLT (a := a) (b := b) (zp_mk _ _ _ la lb) (Nat.ne_of_lt la) (Nat.ne_of_lt (Nat.lt_succ_of_lt lb)), ⟨z1, z2, ⟨_, _, z3⟩, z4, z5⟩, fun c hc => five I1 hc, q⟩
end
section
variable {prog : Program} {w : World} {A : Around} {E : Value → Shared → Prop}
end
section
variable {X : Cx} {pos : Pos}
end
end L2


namespace Sh
open PySem L2
noncomputable def LstI (H : Hp) (v : V) (r : List Int) : Prop := ∃ a, v = .ref a ∧ H a = some (.lst (r.map V.int))
noncomputable abbrev TabV (H : Hp) (vs : List V) (tab : List (List Int)) : Prop := Paired (LstI H) vs tab
theorem LstI.same {H H' : Hp} {v : V} {r : List Int} (s : Same H H') (h : LstI H v r) : LstI H' v r := let ⟨a, e, q⟩ := h; ⟨a, e, s _ _ q⟩
theorem TabV.same {H H' : Hp} {vs : List V} {tab : List (List Int)} (s : Same H H') (h : TabV H vs tab) : TabV H' vs tab := Paired.mapP h fun _ _ z => z.same s
noncomputable def SameB (p : Addr) (H H' : Hp) : Prop := ∀ b o, H b = some o → b ≠ p → H' b = some o
theorem Same.but {p : Addr} {H H' : Hp} (s : Same H H') : SameB p H H' := fun b o e _ => s b o e
theorem SameB.trans {p : Addr} {H H1 H2 : Hp} (a : SameB p H H1) (b : SameB p H1 H2) : SameB p H H2 := fun c o e n => b c o (a c o e n) n
theorem sameB_upd (p : Addr) (H : Hp) (o : HO) : SameB p H (upd H p o) := fun b u e n => by rw [upd_ne n]; exact e
noncomputable def NewL (H0 H : Hp) (v : V) (r : List Int) : Prop := ∃ a, v = .ref a ∧ H0 a = none ∧ H a = some (.lst (r.map V.int))
inductive spC0 (vs : List V) (H : Hp) (Q : VK) (E : XK) : Prop
  | mk (i d : Int) (_ : vs = [.int i, .int d]) (_ : Q (.int i) H) : spC0 vs H Q E
noncomputable def spC1 : Sp := fun vs H Q _ => (∃ i d : Int, vs = [.int i, .int d] ∧ Q (.int i) H) ∨
  (∃ (a : Addr) (ns : List Int) (d : Int), vs = [.ref a, .int d] ∧ 1 ≤ d ∧ H a = some (.lst (ns.map V.int)) ∧ ns.length ≤ 900 ∧ ∀ l H', Same H H' → H l = none → H' l = some (.lst (ns.map V.int)) → Q (.ref l) H') ∨
  (∃ (a : Addr) (ns : List Int) (d : Int), vs = [.ref a, .int d] ∧ 1 ≤ d ∧ H a = some (.tup (ns.map V.int)) ∧ ns.length ≤ 900 ∧ ∀ t H', Same H H' → H t = none → H' t = some (.tup (ns.map V.int)) → Q (.ref t) H')
noncomputable def spC2 : Sp := fun vs H Q E => spC1 vs H Q E ∨
  (∃ (a : Addr) (rv : List V) (rows : List (List Int)) (d : Int), vs = [.ref a, .int d] ∧ 2 ≤ d ∧ H a = some (.lst rv) ∧ WaysV H rv rows ∧ rows.length ≤ 900 ∧ (∀ r ∈ rows, r.length ≤ 900) ∧ ∀ l lv H', Same H H' → H l = none → H' l = some (.lst lv) → WaysV H' lv rows → Q (.ref l) H') ∨
  (∃ (a : Addr) (tv : List V) (tab : List (List Int)) (d : Int), vs = [.ref a, .int d] ∧ 2 ≤ d ∧ H a = some (.lst tv) ∧ TabV H tv tab ∧ tab.length ≤ 900 ∧ (∀ r ∈ tab, r.length ≤ 900) ∧ ∀ l lv H', Same H H' → H l = none → H' l = some (.lst lv) → Paired (NewL H H') lv tab → Q (.ref l) H')
inductive spIsWhole (vs : List V) (H : Hp) (Q : VK) (E : XK) : Prop
  | mk (i : Int) (_ : vs = [.int i]) (_ : Q (.bl true) H) : spIsWhole vs H Q E
inductive spIsNumbers (vs : List V) (H : Hp) (Q : VK) (E : XK) : Prop
  | mk (a : Addr) (ns : List Int) (_ : vs = [.ref a, .int (ns.length : Int)]) (_ : H a = some (.lst (ns.map V.int))) (_ : ns.length ≤ 900) (_ : ∀ H', Same H H' → Q (.bl true) H') : spIsNumbers vs H Q E
inductive spIsRow (vs : List V) (H : Hp) (Q : VK) (E : XK) : Prop
  | mk (a : Addr) (ns : List Int) (n : Nat) (_ : vs = [.ref a, .int (n : Int)]) (_ : H a = some (.tup (ns.map V.int))) (_ : ns.length = n + 1) (_ : n ≤ 800) (_ : ∀ H', Same H H' → Q (.bl true) H') : spIsRow vs H Q E
structure MD where
  rows : List (List Int)
  nexts : List (List Int)
  steer : List Int
  push : List (List Int)
  add : List Int
  div : Int
noncomputable def modeF (r n s p a : V) (d : Int) : List (Str × V) := [("rows", r), ("nexts", n), ("steer", s), ("push", p), ("add", a), ("divisor", .int d)]
structure ModeAt (C : Addr) (H : Hp) (o : Addr) (m : MD) where
  dx : Addr
  r : Addr
  rv : List V
  n : Addr
  nv : List V
  s : Addr
  p : Addr
  pv : List V
  a : Addr
structure ModeAt.Ok {C : Addr} {H : Hp} {o : Addr} {m : MD} (M : ModeAt C H o m) : Prop where
  ins : H o = some (.ins C M.dx (modeF (.ref M.r) (.ref M.n) (.ref M.s) (.ref M.p) (.ref M.a) m.div))
  hr : H M.r = some (.lst M.rv)
  hrv : WaysV H M.rv m.rows
  hn : H M.n = some (.lst M.nv)
  hnv : TabV H M.nv m.nexts
  hs : H M.s = some (.lst (m.steer.map V.int))
  hp : H M.p = some (.lst M.pv)
  hpv : TabV H M.pv m.push
  ha : H M.a = some (.lst (m.add.map V.int))
noncomputable def ModeV (C : Addr) (H : Hp) (v : V) (m : MD) : Prop := ∃ (o : Addr) (M : ModeAt C H o m), v = .ref o ∧ M.Ok
theorem ModeV.same {C : Addr} {H H' : Hp} {v : V} {m : MD} (s : Same H H') (h : ModeV C H v m) : ModeV C H' v m :=
  let ⟨o, M, e, k⟩ := h
  ⟨o, ⟨M.dx, M.r, M.rv, M.n, M.nv, M.s, M.p, M.pv, M.a⟩, e, ⟨s _ _ k.ins, s _ _ k.hr, WaysV.same s k.hrv, s _ _ k.hn, TabV.same s k.hnv, s _ _ k.hs, s _ _ k.hp, TabV.same s k.hpv, s _ _ k.ha⟩⟩
noncomputable def PuV (H : Hp) (v : V) (b : Int × Int) : Prop := ∃ a, v = .ref a ∧ H a = some (.tup [.int b.1, .int b.2])
theorem PuV.same {H H' : Hp} {v : V} {b : Int × Int} (s : Same H H') (h : PuV H v b) : PuV H' v b := let ⟨a, e, q⟩ := h; ⟨a, e, s _ _ q⟩
noncomputable def thingF (n : Int) (p m : V) : List (Str × V) := [("many", .int n), ("kept_pushes", p), ("kept_modes", m)]
structure ThingAt (C CM : Addr) (H : Hp) (o : Addr) (n : Nat) (bs : List (Int × Int)) (ms : List MD) (pv mv : List V) (kp km : Addr) : Prop where
  ins : ∃ dx, H o = some (.ins C dx (thingF (n : Int) (.ref kp) (.ref km)))
  hp : H kp = some (.lst pv)
  hpv : Paired (PuV H) pv bs
  hm : H km = some (.lst mv)
  hmv : Paired (ModeV CM H) mv ms
theorem ThingAt.same {C CM : Addr} {H H' : Hp} {o : Addr} {n : Nat} {bs : List (Int × Int)} {ms : List MD} {pv mv : List V} {kp km : Addr} (s : Same H H') (h : ThingAt C CM H o n bs ms pv mv kp km) : ThingAt C CM H' o n bs ms pv mv kp km :=
  ⟨let ⟨dx, e⟩ := h.ins; ⟨dx, s _ _ e⟩, s _ _ h.hp, Paired.mapP h.hpv fun _ _ z => z.same s, s _ _ h.hm, Paired.mapP h.hmv fun _ _ z => z.same s⟩
theorem kit_self {K : PySem.W.Frag} {C : Addr} : PySem.W.kitOne K (.ref C) (.ref C) = some true := by
  unfold PySem.W.kitOne
  rw [if_pos (by simp)]
theorem all_true : ∀ n : Nat, (List.replicate n true).all id = true
  | 0 => rfl
  | n + 1 => by rw [List.replicate_succ, List.all_cons, all_true n]; rfl
theorem keepB {o : Addr} {H H' : Hp} {C dx : Addr} {fs : List (Str × V)} (ho : H o = some (.ins C dx fs)) (s : SameB o H H') {a : Addr} {u : HO} (h : H a = some u) (hu : u ≠ .ins C dx fs) : H' a = some u :=
  s _ _ h fun e => hu (by rw [e, ho] at h; exact (Option.some.inj h).symm)
theorem WaysV.keepB {o : Addr} {H H' : Hp} {C dx : Addr} {fs : List (Str × V)} (ho : H o = some (.ins C dx fs)) (s : SameB o H H') {vs : List V} {rows : List (List Int)} (h : WaysV H vs rows) : WaysV H' vs rows :=
  Paired.mapP h fun _ _ ⟨a, e, q⟩ => ⟨a, e, Sh.keepB ho s q fun z => by cases z⟩
theorem TabV.keepB {o : Addr} {H H' : Hp} {C dx : Addr} {fs : List (Str × V)} (ho : H o = some (.ins C dx fs)) (s : SameB o H H') {vs : List V} {tab : List (List Int)} (h : TabV H vs tab) : TabV H' vs tab :=
  Paired.mapP h fun _ _ ⟨a, e, q⟩ => ⟨a, e, Sh.keepB ho s q fun z => by cases z⟩
theorem NewL.tab {H0 H : Hp} {vs : List V} {tab : List (List Int)} (h : Paired (NewL H0 H) vs tab) : TabV H vs tab := Paired.mapP h fun _ _ ⟨a, e, _, q⟩ => ⟨a, e, q⟩
end Sh


namespace Sh
open PySem L2
noncomputable def off (B : List Addr) (H H' : Hp) : Prop := ∀ b o, H b = some o → b ∉ B → H' b = some o
theorem off.refl (B : List Addr) (H : Hp) : off B H H := fun _ _ e _ => e
theorem off.put {B : List Addr} {H H' : Hp} {x : Addr} (o : HO) (h : off B H H') (hx : x ∈ B) : off B H (upd H' x o) := fun b u e nb => by
  rw [upd_ne (fun e' => by rw [e'] at nb; exact nb hx)]
  exact h b u e nb
theorem off.new {B : List Addr} {H H' : Hp} {x : Addr} (o : HO) (h : off B H H') (hx : H' x = none) : off B H (upd H' x o) := fun b u e nb => by
  have z := h b u e nb
  rw [upd_ne (fun e' => by rw [e', hx] at z; cases z)]
  exact z
theorem off.trans {B : List Addr} {H H1 H2 : Hp} (a : off B H H1) (b : off B H1 H2) : off B H H2 := fun c o e n => b c o (a c o e n) n
theorem off.same {B : List Addr} {H H1 H2 : Hp} (a : off B H H1) (b : Same H1 H2) : off B H H2 := fun c o e n => b c o (a c o e n)
theorem off.of {B : List Addr} {H H1 : Hp} (s : Same H H1) : off B H H1 := fun c o e _ => s c o e
theorem off.cut {A B : List Addr} {H H1 : Hp} (h1 : off A H H1) (h : ∀ x ∈ A, x ∉ B → H x = none) : off B H H1 := fun b o e n => h1 _ _ e fun z => by
  rw [h b z n] at e
  cases e
theorem off.free {B : List Addr} {H H' : Hp} (s : off B H H') {l : Addr} (h : H' l = none) (n : l ∉ B) : H l = none := by
  cases e : H l with
  | none => rfl
  | some u => rw [s _ _ e n] at h; cases h
noncomputable def hide (B : List Addr) (H : Hp) : Hp := fun b => if b ∈ B then none else H b
theorem hide_sub {B : List Addr} {H : Hp} : Same (hide B H) H := fun b o h => by
  unfold hide at h
  by_cases e : b ∈ B
  · rw [if_pos e] at h; cases h
  · rw [if_neg e] at h; exact h
theorem hide_at {B : List Addr} {H : Hp} {b : Addr} (e : b ∉ B) : hide B H b = H b := by unfold hide; rw [if_neg e]
theorem hide_in {B : List Addr} {H : Hp} {b : Addr} (e : b ∈ B) : hide B H b = none := by unfold hide; rw [if_pos e]
theorem hide_mem {B : List Addr} {H : Hp} {b : Addr} {o : HO} (h : hide B H b = some o) : b ∉ B := fun e => by rw [hide_in e] at h; cases h
theorem hide_off {B : List Addr} {H H' : Hp} (s : off B H H') : Same (hide B H) (hide B H') := fun b o h => by
  have e := hide_mem h
  rw [hide_at e] at h ⊢
  exact s _ _ h e
theorem hide_same {B : List Addr} {H H' : Hp} (s : Same H H') : Same (hide B H) (hide B H') := hide_off fun b o h _ => s _ _ h
theorem same_but {H H1 H2 : Hp} {x : Addr} (s : Same H H1) (b : SameB x H1 H2) (n : H x = none) : Same H H2 := fun c o e => b _ _ (s _ _ e) (ne_of_none e n)
theorem same_make {H : Hp} {x dx : Addr} (hx : H x = none) (hdx : H dx = none) (ne : dx ≠ x) (u o : HO) : Same H (upd (upd H dx u) x o) :=
  (same_new hdx _).trans (same_new ((upd_ne (Ne.symm ne)).trans hx) _)
end Sh
namespace L2
open PySem PySem.Spec PyProof.Rows
section
variable {X : Cx} {e : Expr}
theorem pe_alt {t1 t2 : TE} (h1 : PE X e t1) (h2 : PE X e t2) : PE X e (fun σ H Q => t1 σ H Q ∨ t2 σ H Q) := fun pins s σ H Q I h => h.elim (fun z => h1 pins s σ H Q I z) (fun z => h2 pins s σ H Q I z)
end
theorem FnOk.no {P : Program} {w : World} {K : PySem.W.Frag} {mg : Str → Option Value} {base : Heap} {CX : CXT} {k : Nat} {f : Addr} {fd : FuncData} {ps : List Str} {sp : Sp} (hn : ∀ vs H Q E, ¬ sp vs H Q E) : FnOk P w K mg base CX k f fd ps sp :=
  ⟨fun _ _ _ _ h => (hn _ _ _ _ h).elim, fun _ _ _ _ _ _ _ _ _ _ _ _ _ h => (hn _ _ _ _ h).elim⟩
theorem for_zipE {K : PySem.W.Frag} {a b : Addr} {xs ys : List V} {g : TG} {tb : TS} {D : Ends} {σ : St} {H : Hp} (ha : SqE K H a xs) (hb : SqL K H b ys) (Pv : Nat → St → Hp → Prop) (h0 : Pv 0 σ H) (hl : ∀ i σ H', i ≤ xs.length → Pv i σ H' → Same H H') (hlen : xs.length ≤ ys.length)
    (hs : ∀ i x y T σ H, xs[i]? = some x → ys[i]? = some y → H T = none → Pv i σ H → g (.ref T) σ (upd H T (.tup [x, y])) fun σ2 H2 => tb { D with nx := Pv (i + 1), ct := Pv (i + 1), bk := D.nx } σ2 H2) (hd : ∀ σ H, Pv xs.length σ H → D.nx σ H) :
    orZ K H a b fun J H' => ∃ W : Nat → Nat → St → Hp → Prop, (∃ m, W 0 m σ H') ∧ ∀ i m σ H, W i m σ H →
      (J.stop i H ∧ D.nx σ H) ∨ (J.go i H ∧ ∃ N : St → Hp → Prop, (∀ σ' H', N σ' H' → ∃ m', m' < m ∧ W (i + 1) m' σ' H') ∧ ∀ x H', J.yld i H x H' → g x σ H' fun σ2 H2 => tb { D with nx := N, ct := N, bk := D.nx } σ2 H2) := by
  rcases ha with ha | ha
  · exact .inl ⟨⟨_, ha⟩, ⟨_, hb⟩, for_zip Pv h0 (fun i σ H' hi p => ⟨(hl i σ H' hi p).seqT ha, (hl i σ H' hi p).seq hb⟩) hlen hs hd⟩
  · exact .inr (.inl ⟨⟨_, ha⟩, ⟨_, hb⟩, for_zipL Pv h0 (fun i σ H' hi p => ⟨(hl i σ H' hi p).seq ha, (hl i σ H' hi p).seq hb⟩) hlen hs hd⟩)
end L2

namespace Sh
theorem dvd_co {a b c : Int} (g : Int.gcd a b = 1) (h : a ∣ b * c) : a ∣ c := by
  rw [← Int.natAbs_dvd_natAbs] at h ⊢
  rw [Int.natAbs_mul] at h
  exact Nat.Coprime.dvd_of_dvd_mul_left (by rw [Int.gcd_eq_natAbs_gcd_natAbs] at g; exact g) h
theorem low_uniq {t b t' b' : Int} (h : 0 < b) (h' : 0 < b') (e : t * b' = t' * b) : lowT t b = lowT t' b' ∧ lowB t b = lowB t' b' := by
  have hb : b ≠ 0 := by omega
  have hb' : b' ≠ 0 := by omega
  have c1 := low_cross (t := t) hb
  have c2 := low_cross (t := t') hb'
  have p1 := lowB_pos (t := t) hb
  have p2 := lowB_pos (t := t') hb'
  have g1 := low_gcd (t := t) hb
  have g2 := low_gcd (t := t') hb'
  generalize lowT t b = x at *
  generalize lowB t b = y at *
  generalize lowT t' b' = x' at *
  generalize lowB t' b' = y' at *
  have k : x * y' = x' * y := by
    have z : (x * y') * (b * b') = (x' * y) * (b * b') := by
      calc (x * y') * (b * b') = (x * b) * (y' * b') := by grind
        _ = (t * y) * (y' * b') := by rw [c1]
        _ = (t * b') * (y * y') := by grind
        _ = (t' * b) * (y * y') := by rw [e]
        _ = (t' * y') * (b * y) := by grind
        _ = (x' * b') * (b * y) := by rw [c2]
        _ = (x' * y) * (b * b') := by grind
    have ne : b * b' ≠ 0 := Int.mul_ne_zero hb hb'
    exact Int.eq_of_mul_eq_mul_right ne z
  have d1 : y ∣ y' := by
    have : y ∣ x * y' := by rw [k]; exact ⟨x', Int.mul_comm _ _⟩
    have g : Int.gcd y x = 1 := by rw [Int.gcd_comm]; exact g1
    exact dvd_co g this
  have d2 : y' ∣ y := by
    have : y' ∣ x' * y := by rw [← k]; exact ⟨x, Int.mul_comm _ _⟩
    have g : Int.gcd y' x' = 1 := by rw [Int.gcd_comm]; exact g2
    exact dvd_co g this
  have ey : y = y' := by
    have a1 := Int.le_of_dvd p2 d1
    have a2 := Int.le_of_dvd p1 d2
    omega
  subst ey
  exact ⟨Int.eq_of_mul_eq_mul_right (by omega) k, rfl⟩
inductive RT where
  | str (ns : List Int) (a d : Int)
  | stp (t : RT) (lo hi : Int)
  | prt (row : List Int) (x y : RT)
noncomputable def RT.dep : RT → Nat
  | .str _ _ _ => 1
  | .stp t _ _ => t.dep + 1
  | .prt _ x y => max x.dep y.dep + 1
noncomputable def RT.leaves : RT → Nat
  | .str _ _ _ => 1
  | .stp t _ _ => t.leaves
  | .prt _ x y => x.leaves + y.leaves
theorem RT.dep_pos (t : RT) : 1 ≤ t.dep := by cases t <;> simp [RT.dep]
noncomputable def RT.rows : RT → List (List Int)
  | .str _ _ _ => []
  | .stp t _ _ => t.rows
  | .prt r x y => [r] ++ x.rows ++ y.rows
noncomputable def valM (pts : List (Int × Int)) : RT → Int × Int
  | .str ns a d => (lowT ((alFold ns pts).1 + a * (alFold ns pts).2) ((alFold ns pts).2 * d), lowB ((alFold ns pts).1 + a * (alFold ns pts).2) ((alFold ns pts).2 * d))
  | .stp t lo hi => if (valM pts t).1 < lo * (valM pts t).2 then (lo, 1) else if hi * (valM pts t).2 < (valM pts t).1 then (hi, 1) else valM pts t
  | .prt row x y => if (alFold (row.take pts.length) pts).1 ≤ row.getD pts.length 0 * (alFold (row.take pts.length) pts).2 then valM pts x else valM pts y
theorem low_add {T B a d : Int} (hB : 0 < B) (hd : 0 < d) : lowT (lowT T B + a * lowB T B) (lowB T B * d) = lowT (T + a * B) (B * d) ∧ lowB (lowT T B + a * lowB T B) (lowB T B * d) = lowB (T + a * B) (B * d) := by
  have hb : B ≠ 0 := by omega
  have p := lowB_pos (t := T) hb
  refine low_uniq (Int.mul_pos p hd) (Int.mul_pos hB hd) ?_
  have c := low_cross (t := T) hb
  generalize lowT T B = x at *
  generalize lowB T B = y at *
  calc (x + a * y) * (B * d) = (x * B) * d + a * y * B * d := by grind
    _ = (T * y) * d + a * y * B * d := by rw [c]
    _ = (T + a * B) * (y * d) := by grind
theorem low_le {T B b : Int} (hB : 0 < B) : lowT T B ≤ b * lowB T B ↔ T ≤ b * B := by
  have hb : B ≠ 0 := by omega
  have p := lowB_pos (t := T) hb
  have c := low_cross (t := T) hb
  generalize lowT T B = x at *
  generalize lowB T B = y at *
  constructor
  · intro h
    have : x * B ≤ b * y * B := Int.mul_le_mul_of_nonneg_right h (by omega)
    rw [c] at this
    have e : b * y * B = (b * B) * y := by grind
    rw [e] at this
    exact Int.le_of_mul_le_mul_right this p
  · intro h
    have : T * y ≤ b * B * y := Int.mul_le_mul_of_nonneg_right h (by omega)
    rw [← c] at this
    have e : b * B * y = (b * y) * B := by grind
    rw [e] at this
    exact Int.le_of_mul_le_mul_right this hB
end Sh


namespace Sh
open PySem L2
theorem bd_gcd {n : Nat} {t b : Int} (h : Bd n b) (hb : b ≠ 0) : Bd n (Int.gcd t b : Int) := by
  refine h.of_le ?_
  rw [Int.natAbs_natCast]
  exact Int.gcd_le_natAbs_right t hb
theorem bd_cm {n : Nat} {t b : Int} (h : Bd n b) (hb : b ≠ 0) : Bd n (cm t b) := by
  unfold cm
  split
  · exact (bd_gcd h hb).neg
  · exact bd_gcd h hb
theorem bd_lowT {n : Nat} {t b : Int} (h : Bd n t) : Bd n (lowT t b) := h.fdiv _
theorem bd_lowB {n : Nat} {t b : Int} (h : Bd n b) : Bd n (lowB t b) := h.fdiv _
inductive spCommon (K : PySem.W.Frag) (vs : List V) (H : Hp) (Q : VK) (E : XK) : Prop
  | mk (a : Addr) (ns : List Int) (_ : vs = [.ref a]) (_ : SqT K H a (ns.map V.int)) (_ : Q (.int (gcdAll ns)) H) : spCommon K vs H Q E
inductive spFraction (vs : List V) (H : Hp) (Q : VK) (E : XK) : Prop
  | mk (t b : Int) (_ : vs = [.int t, .int b]) (_ : b ≠ 0) (_ : Bd 8000 b) (_ : ∀ r H', Same H H' → H' r = some (.tup [.int (lowT t b), .int (lowB t b)]) → Q (.ref r) H') : spFraction vs H Q E
structure Two (H : Hp) (p q : Addr) (a b c d : Int) : Prop where
  p : H p = some (.tup [.int a, .int b])
  q : H q = some (.tup [.int c, .int d])
  b0 : 0 < b
  d0 : 0 < d
  ab : Bd 9000 a
  bb : Bd 9000 b
  cb : Bd 9000 c
  db : Bd 9000 d
inductive spUnder (vs : List V) (H : Hp) (Q : VK) (E : XK) : Prop
  | mk (p q : Addr) (a b c d : Int) (_ : vs = [.ref p, .ref q]) (_ : Two H p q a b c d) (_ : Q (.bl (decide (a * d < c * b))) H) : spUnder vs H Q E
inductive spShare (vs : List V) (H : Hp) (Q : VK) (E : XK) : Prop
  | mk (a b : Int) (_ : vs = [.int a, .int b]) (_ : Q (.int (Int.gcd a b)) H) : spShare vs H Q E
inductive spLowest (vs : List V) (H : Hp) (Q : VK) (E : XK) : Prop
  | mk (t b : Int) (_ : vs = [.int t, .int b]) (_ : 0 < b) (_ : Bd 8000 b) (_ : ∀ r H', Same H H' → H' r = some (.tup [.int (lowT t b), .int (lowB t b)]) → Q (.ref r) H') : spLowest vs H Q E
inductive spRawE (K : PySem.W.Frag) (vs : List V) (H : Hp) (Q : VK) (E : XK) : Prop
  | mk (na pa : Addr) (ws : List Int) (pv : List V) (pts : List (Int × Int)) (_ : vs = [.ref na, .ref pa]) (_ : SqE K H na (ws.map V.int)) (_ : SqL K H pa pv) (_ : PtV H pv pts) (_ : PtOk pts) (_ : RwOk ws pts.length) (_ : ∀ r H', Same H H' → H' r = some (.tup [.int (alFold ws pts).1, .int (alFold ws pts).2]) → Q (.ref r) H') : spRawE K vs H Q E
inductive spDivided (K : PySem.W.Frag) (vs : List V) (H : Hp) (Q : VK) (E : XK) : Prop
  | mk (na pa : Addr) (ws : List Int) (pv : List V) (pts : List (Int × Int)) (a d : Int) (_ : vs = [.ref na, .ref pa, .int a, .int d]) (_ : SqE K H na (ws.map V.int)) (_ : SqL K H pa pv) (_ : PtV H pv pts) (_ : PtOk pts) (_ : pts.length ≤ 3) (_ : RwOk ws pts.length) (_ : Bd 1000 a) (_ : 0 < d) (_ : Bd 1000 d) (_ : ∀ r H', Same H H' → H' r = some (.tup [.int (lowT ((alFold ws pts).1 + a * (alFold ws pts).2) ((alFold ws pts).2 * d)), .int (lowB ((alFold ws pts).1 + a * (alFold ws pts).2) ((alFold ws pts).2 * d))]) → Q (.ref r) H') : spDivided K vs H Q E
inductive spSumL (K : PySem.W.Frag) (vs : List V) (H : Hp) (Q : VK) (E : XK) : Prop
  | mk (na pa : Addr) (ws : List Int) (pv : List V) (pts : List (Int × Int)) (_ : vs = [.ref na, .ref pa]) (_ : SqE K H na (ws.map V.int)) (_ : SqL K H pa pv) (_ : PtV H pv pts) (_ : PtOk pts) (_ : RwOk ws pts.length) (_ : ∀ r H', Same H H' → H' r = some (.tup [.int (lowT (alFold ws pts).1 (alFold ws pts).2), .int (lowB (alFold ws pts).1 (alFold ws pts).2)]) → Q (.ref r) H') : spSumL K vs H Q E
theorem al_bd3 {ws : List Int} {pts : List (Int × Int)} (P : PtOk pts) (n3 : pts.length ≤ 3) (W : RwOk ws pts.length) : Bd 5100 (alFold ws pts).1 ∧ Bd 3001 (alFold ws pts).2 := by
  obtain ⟨a, b⟩ := bd_al pts.length (ws.zip pts) (zip_len W) fun q hq => (zip_ok P W q hq).2
  exact ⟨a.mono (by omega), b.mono (by omega)⟩
noncomputable def TrOk (n : Nat) : RT → Prop
  | .str ns a d => ns.length = n ∧ (∀ x ∈ ns, Bd 300 x) ∧ Bd 300 a ∧ 0 < d ∧ Bd 300 d
  | .stp t lo hi => TrOk n t ∧ Bd 300 lo ∧ Bd 300 hi
  | .prt r x y => (r.length = n + 1 ∧ ∀ z ∈ r, Bd 300 z) ∧ TrOk n x ∧ TrOk n y
noncomputable def strF (l : V) (a d : Int) : List (Str × V) := [("numbers", l), ("add", .int a), ("divisor", .int d)]
noncomputable def stpF (u : V) (lo hi : Int) : List (Str × V) := [("rule", u), ("low", .int lo), ("high", .int hi)]
noncomputable def prtF (r u w : V) : List (Str × V) := [("row", r), ("rule", u), ("other", w)]
noncomputable def RuleV (C1 C2 C3 : Addr) (H : Hp) : V → RT → Prop
  | v, .str ns a d => ∃ o dx la, v = .ref o ∧ H o = some (.ins C1 dx (strF (.ref la) a d)) ∧ H la = some (.lst (ns.map V.int))
  | v, .stp t lo hi => ∃ o dx u, v = .ref o ∧ H o = some (.ins C2 dx (stpF u lo hi)) ∧ RuleV C1 C2 C3 H u t
  | v, .prt r x y => ∃ o dx ra u w, v = .ref o ∧ H o = some (.ins C3 dx (prtF (.ref ra) u w)) ∧ H ra = some (.tup (r.map V.int)) ∧ RuleV C1 C2 C3 H u x ∧ RuleV C1 C2 C3 H w y
theorem RuleV.same {C1 C2 C3 : Addr} {H H' : Hp} (s : Same H H') : ∀ {t : RT} {v : V}, RuleV C1 C2 C3 H v t → RuleV C1 C2 C3 H' v t
  | .str .., _, ⟨o, dx, la, e, h1, h2⟩ => ⟨o, dx, la, e, s _ _ h1, s _ _ h2⟩
  | .stp .., _, ⟨o, dx, u, e, h1, h2⟩ => ⟨o, dx, u, e, s _ _ h1, RuleV.same s h2⟩
  | .prt .., _, ⟨o, dx, ra, u, w, e, h1, h2, h3, h4⟩ => ⟨o, dx, ra, u, w, e, s _ _ h1, s _ _ h2, RuleV.same s h3, RuleV.same s h4⟩
noncomputable def TreeV (H : Hp) : V → RT → Prop
  | v, .str ns a d => ∃ o la, v = .ref o ∧ H o = some (.tup [.str "straight", .ref la, .int a, .int d]) ∧ H la = some (.lst (ns.map V.int))
  | v, .stp t lo hi => ∃ o u, v = .ref o ∧ H o = some (.tup [.str "stopped", u, .int lo, .int hi]) ∧ TreeV H u t
  | v, .prt r x y => ∃ o ra u w, v = .ref o ∧ H o = some (.tup [.str "parted", .ref ra, u, w]) ∧ H ra = some (.tup (r.map V.int)) ∧ TreeV H u x ∧ TreeV H w y
theorem TreeV.same {H H' : Hp} (s : Same H H') : ∀ {t : RT} {v : V}, TreeV H v t → TreeV H' v t
  | .str .., _, ⟨o, la, e, h1, h2⟩ => ⟨o, la, e, s _ _ h1, s _ _ h2⟩
  | .stp .., _, ⟨o, u, e, h1, h2⟩ => ⟨o, u, e, s _ _ h1, TreeV.same s h2⟩
  | .prt .., _, ⟨o, ra, u, w, e, h1, h2, h3, h4⟩ => ⟨o, ra, u, w, e, s _ _ h1, s _ _ h2, TreeV.same s h3, TreeV.same s h4⟩
noncomputable def isStr : RT → Bool | .str .. => true | _ => false
noncomputable def isStp : RT → Bool | .stp .. => true | _ => false
noncomputable def isPrt : RT → Bool | .prt .. => true | _ => false
theorem rt_kinds (t : RT) : isStr t = true ∨ isStp t = true ∨ isPrt t = true := by cases t <;> simp [isStr, isStp, isPrt]
theorem RuleV.insS {C1 C2 C3 : Addr} {H : Hp} {v : V} : ∀ {t : RT}, RuleV C1 C2 C3 H v t → isStr t = true → ∃ o dx fs, v = .ref o ∧ H o = some (.ins C1 dx fs) ∧ fs.lookup ("steering" : Str) = none
  | .str .., ⟨o, dx, la, e, h1, h2⟩, _ => ⟨o, dx, _, e, h1, rfl⟩
  | .stp .., _, h => by cases h
  | .prt .., _, h => by cases h
theorem RuleV.insT {C1 C2 C3 : Addr} {H : Hp} {v : V} : ∀ {t : RT}, RuleV C1 C2 C3 H v t → isStp t = true → ∃ o dx fs, v = .ref o ∧ H o = some (.ins C2 dx fs) ∧ fs.lookup ("steering" : Str) = none
  | .str .., _, h => by cases h
  | .stp .., ⟨o, dx, u, e, h1, h2⟩, _ => ⟨o, dx, _, e, h1, rfl⟩
  | .prt .., _, h => by cases h
theorem RuleV.insP {C1 C2 C3 : Addr} {H : Hp} {v : V} : ∀ {t : RT}, RuleV C1 C2 C3 H v t → isPrt t = true → ∃ o dx fs, v = .ref o ∧ H o = some (.ins C3 dx fs) ∧ fs.lookup ("steering" : Str) = none
  | .str .., _, h => by cases h
  | .stp .., _, h => by cases h
  | .prt .., ⟨o, dx, ra, u, w, e, h1, h2⟩, _ => ⟨o, dx, _, e, h1, rfl⟩
theorem TrOk.row {n : Nat} {r : List Int} (h : r.length = n + 1 ∧ ∀ z ∈ r, Bd 300 z) : RowOk r n := ⟨h.1, fun x hx => (h.2 x hx).mono (by decide)⟩
theorem TrOk.rows {n : Nat} : ∀ {t : RT}, TrOk n t → ∀ r ∈ t.rows, r.length = n + 1 ∧ ∀ z ∈ r, Bd 300 z
  | .str .., _ => fun r hr => by cases hr
  | .stp .., h => fun r hr => TrOk.rows h.1 r hr
  | .prt q x y, h => fun r hr => by
    rcases List.mem_append.mp hr with hr | hr
    · rcases List.mem_append.mp hr with hr | hr
      · rw [List.mem_singleton.mp hr]; exact h.1
      · exact TrOk.rows h.2.1 r hr
    · exact TrOk.rows h.2.2 r hr
theorem val_ok {pts : List (Int × Int)} (P : PtOk pts) (n3 : pts.length ≤ 3) : ∀ {t : RT}, TrOk pts.length t → 0 < (valM pts t).2 ∧ Bd 5500 (valM pts t).1 ∧ Bd 5500 (valM pts t).2
  | .str ns a d, ⟨h1, h2, h3, h4, h5⟩ => by
    have W : RwOk ns pts.length := ⟨h1, fun w hw => (h2 w hw).mono (by decide)⟩
    obtain ⟨b1, b2⟩ := al_bd3 P n3 W
    have p := al_pos P W
    have q := Int.mul_pos p h4
    refine ⟨lowB_pos (by omega), bd_lowT ?_, bd_lowB ?_⟩
    · exact (b1.add ((h3.mul b2).mono (show 300 + 3001 ≤ 5100 by decide))).mono (by decide)
    · exact (b2.mul h5).mono (by decide)
  | .stp t lo hi, ⟨h1, h2, h3⟩ => by
    have ih := val_ok P n3 h1
    show 0 < (if _ then _ else _ : Int × Int).2 ∧ Bd 5500 (if _ then _ else _ : Int × Int).1 ∧ Bd 5500 (if _ then _ else _ : Int × Int).2
    split
    · exact ⟨(show (0 : Int) < 1 by decide), h2.mono (by decide), (show Bd 1 (1 : Int) from Bd.lit).mono (by decide)⟩
    · split
      · exact ⟨(show (0 : Int) < 1 by decide), h3.mono (by decide), (show Bd 1 (1 : Int) from Bd.lit).mono (by decide)⟩
      · exact ih
  | .prt r x y, ⟨h1, h2, h3⟩ => by
    show 0 < (if _ then _ else _ : Int × Int).2 ∧ Bd 5500 (if _ then _ else _ : Int × Int).1 ∧ Bd 5500 (if _ then _ else _ : Int × Int).2
    split
    · exact val_ok P n3 h2
    · exact val_ok P n3 h3
inductive spStraightInit (C : Addr) (vs : List V) (H : Hp) (Q : VK) (E : XK) : Prop
  | mk (o dx la : Addr) (ns : List Int) (a d : Int) (_ : vs = [.ref o, .ref la, .int a, .int d]) (_ : H o = some (.ins C dx [])) (_ : H la = some (.lst (ns.map V.int))) (_ : ns.length ≤ 900) (_ : ∀ l H', SameB o H H' → H l = none → H' o = some (.ins C dx (strF (.ref l) a d)) → H' l = some (.lst (ns.map V.int)) → Q .non H') : spStraightInit C vs H Q E
inductive spStoppedInit (C : Addr) (vs : List V) (H : Hp) (Q : VK) (E : XK) : Prop
  | mk (o dx : Addr) (u : V) (lo hi : Int) (_ : vs = [.ref o, u, .int lo, .int hi]) (_ : H o = some (.ins C dx [])) (_ : ∀ H', SameB o H H' → H' o = some (.ins C dx (stpF u lo hi)) → Q .non H') : spStoppedInit C vs H Q E
inductive spPartedInit (C : Addr) (vs : List V) (H : Hp) (Q : VK) (E : XK) : Prop
  | mk (o dx ra : Addr) (r : List Int) (u w : V) (_ : vs = [.ref o, .ref ra, u, w]) (_ : H o = some (.ins C dx [])) (_ : H ra = some (.tup (r.map V.int))) (_ : r.length ≤ 900) (_ : ∀ rb H', SameB o H H' → H rb = none → H' o = some (.ins C dx (prtF (.ref rb) u w)) → H' rb = some (.tup (r.map V.int)) → Q .non H') : spPartedInit C vs H Q E
inductive spSteer (C1 C2 C3 : Addr) (K : PySem.W.Frag) (kd : RT → Bool) (d : Nat) (vs : List V) (H : Hp) (Q : VK) (E : XK) : Prop
  | mk (o pa : Addr) (pv : List V) (pts : List (Int × Int)) (t : RT) (_ : vs = [.ref o, .ref pa]) (_ : kd t = true) (_ : t.dep ≤ d) (_ : RuleV C1 C2 C3 H (.ref o) t) (_ : TrOk pts.length t) (_ : SqL K H pa pv) (_ : PtV H pv pts) (_ : PtOk pts) (_ : pts.length ≤ 3) (_ : ∀ r H', Same H H' → H' r = some (.tup [.int (valM pts t).1, .int (valM pts t).2]) → Q (.ref r) H') : spSteer C1 C2 C3 K kd d vs H Q E
theorem spSteer_no {C1 C2 C3 : Addr} {K : PySem.W.Frag} {kd : RT → Bool} : ∀ vs H Q E, ¬ spSteer C1 C2 C3 K kd 0 vs H Q E := by
  rintro _ _ _ _ ⟨_, _, _, _, t, _, _, h, _⟩
  have := t.dep_pos
  omega
noncomputable def NumsA (H : Hp) (a : Addr) : Prop := ∃ ns : List Int, H a = some (.lst (ns.map V.int)) ∧ 1 ≤ ns.length
inductive spNum21 (vs : List V) (H : Hp) (Q : VK) (E : XK) : Prop
  | mk (x : Int) (_ : vs = [.int x]) (_ : Bd 200 x) (_ : ∀ y : Int, Bd 101 y → Q (.int y) H) : spNum21 vs H Q E
end Sh
namespace Sh
open PySem L2
theorem isStr_ex : ∀ {t : RT}, isStr t = true → ∃ ns a d, t = .str ns a d
  | .str ns a d, _ => ⟨ns, a, d, rfl⟩
  | .stp .., h => by cases h
  | .prt .., h => by cases h
theorem isStp_ex : ∀ {t : RT}, isStp t = true → ∃ u lo hi, t = .stp u lo hi
  | .stp u lo hi, _ => ⟨u, lo, hi, rfl⟩
  | .str .., h => by cases h
  | .prt .., h => by cases h
theorem isPrt_ex : ∀ {t : RT}, isPrt t = true → ∃ r x y, t = .prt r x y
  | .prt r x y, _ => ⟨r, x, y, rfl⟩
  | .str .., h => by cases h
  | .stp .., h => by cases h
theorem str_put (l : V) (a d : Int) : putF "divisor" (.int d) (putF "add" (.int a) (putF "numbers" l [])) = strF l a d := rfl
theorem stp_put (u : V) (lo hi : Int) : putF "high" (.int hi) (putF "low" (.int lo) (putF "rule" u [])) = stpF u lo hi := rfl
theorem prt_put (r u w : V) : putF "other" w (putF "rule" u (putF "row" r [])) = prtF r u w := rfl
theorem val_lo {pts : List (Int × Int)} {t : RT} {lo hi : Int} (h : (valM pts t).1 < lo * (valM pts t).2) : valM pts (.stp t lo hi) = (lo, 1) := by
  show (if _ then _ else _) = _
  rw [if_pos h]
theorem val_hi {pts : List (Int × Int)} {t : RT} {lo hi : Int} (h : ¬ (valM pts t).1 < lo * (valM pts t).2) (h2 : hi * (valM pts t).2 < (valM pts t).1) : valM pts (.stp t lo hi) = (hi, 1) := by
  show (if _ then _ else _) = _
  rw [if_neg h, if_pos h2]
theorem val_in {pts : List (Int × Int)} {t : RT} {lo hi : Int} (h : ¬ (valM pts t).1 < lo * (valM pts t).2) (h2 : ¬ hi * (valM pts t).2 < (valM pts t).1) : valM pts (.stp t lo hi) = valM pts t := by
  show (if _ then _ else _) = _
  rw [if_neg h, if_neg h2]
theorem val_yes {pts : List (Int × Int)} {r : List Int} {x y : RT} (h : holdM (r.take pts.length) (r.getD pts.length 0) pts = true) : valM pts (.prt r x y) = valM pts x := by
  show (if _ then _ else _) = _
  rw [if_pos (of_decide_eq_true h)]
theorem val_no {pts : List (Int × Int)} {r : List Int} {x y : RT} (h : ¬ holdM (r.take pts.length) (r.getD pts.length 0) pts = true) : valM pts (.prt r x y) = valM pts y := by
  show (if _ then _ else _) = _
  rw [if_neg fun z => h (decide_eq_true z)]
theorem frac_one {H : Hp} {f : Addr} {x : Int} (h : H f = some (.tup [.int (lowT x 1), .int (lowB x 1)])) : H f = some (.tup [.int x, .int 1]) := by
  rw [lowT_one, lowB_one] at h
  exact h
theorem cut_to (xs : List Int) {b : Nat} (hb : b ≤ xs.length) : cutV (xs.map V.int) none (some (b : Int)) = (xs.take b).map V.int := by
  have e2 : HT.sIx (xs.map V.int).length (xs.map V.int).length (some (b : Int)) = min b (xs.map V.int).length := HT.sIx_nat _ _ b
  unfold cutV
  rw [e2, HT.sIx_none, List.length_map, Nat.min_eq_left hb, ← List.map_drop, ← List.map_take]
  rfl
theorem cut_any (xs : List Int) (a b : Nat) : ∃ zs : List Int, cutV (xs.map V.int) (some (a : Int)) (some (b : Int)) = zs.map V.int ∧ zs.length ≤ b - a := by
  have e1 : HT.sIx (xs.map V.int).length 0 (some (a : Int)) = min a (xs.map V.int).length := HT.sIx_nat _ 0 a
  have e2 : HT.sIx (xs.map V.int).length (xs.map V.int).length (some (b : Int)) = min b (xs.map V.int).length := HT.sIx_nat _ _ b
  unfold cutV
  rw [e1, e2, ← List.map_drop, ← List.map_take]
  refine ⟨_, rfl, ?_⟩
  rw [List.length_take, List.length_drop, List.length_map]
  omega
theorem pos_pick3 {x y z g : Int} {m : Int} (g0 : 0 ≤ g) (g1 : g < 3) (hx : 0 < x ∧ x ≤ m) (hy : 0 < y ∧ y ≤ m) (hz : 0 < z ∧ z ≤ m) : ∃ k, atI [V.int x, V.int y, V.int z] g = some (V.int k) ∧ 0 < k ∧ k ≤ m := by
  rcases (show g = 0 ∨ g = 1 ∨ g = 2 by omega) with e | e | e
  · rw [e]; exact ⟨x, rfl, hx⟩
  · rw [e]; exact ⟨y, rfl, hy⟩
  · rw [e]; exact ⟨z, rfl, hz⟩
theorem swap_pick {v u : V} {g : Int} (g0 : 0 ≤ g) (g1 : g < 2) : ∃ x y, atI [v, u] g = some x ∧ atI [u, v] g = some y ∧ ((x = v ∧ y = u) ∨ (x = u ∧ y = v)) := by
  rcases (show g = 0 ∨ g = 1 by omega) with e | e
  · rw [e]; exact ⟨v, u, rfl, rfl, .inl ⟨rfl, rfl⟩⟩
  · rw [e]; exact ⟨u, v, rfl, rfl, .inr ⟨rfl, rfl⟩⟩
theorem bd45 {x : Int} (h : 0 ≤ x ∧ x < 10 ^ 45) : Bd 150 x := by
  have : (10 : Int) ^ 45 < 2 ^ 150 := by decide
  show x.natAbs < 2 ^ 150
  omega
theorem isStr_one {t : RT} (h : isStr t = true) : t.dep = 1 ∧ t.leaves = 1 := by
  obtain ⟨ns, a, d, rfl⟩ := isStr_ex h
  exact ⟨rfl, rfl⟩
theorem cut_in (xs : List V) (v : V) (h : 1 ≤ xs.length) : cutV (xs ++ [v]) (some 1) (some (-1)) = xs.drop 1 ∧ ¬ (HT.sIx (xs ++ [v]).length 0 (some 1) = 0 ∧ HT.sIx (xs ++ [v]).length (xs ++ [v]).length (some (-1)) = (xs ++ [v]).length) := by
  have e1 : HT.sIx (xs ++ [v]).length 0 (some 1) = 1 := by
    have : HT.sIx (xs ++ [v]).length 0 (some ((1 : Nat) : Int)) = min 1 (xs ++ [v]).length := HT.sIx_nat _ 0 1
    rw [List.length_append] at this ⊢
    exact this.trans (by omega)
  have e2 : HT.sIx (xs ++ [v]).length (xs ++ [v]).length (some (-1)) = xs.length := by
    show (if (-1 : Int) < 0 then ((-1 : Int) + ((xs ++ [v]).length : Int)).toNat else min (-1 : Int).toNat (xs ++ [v]).length) = xs.length
    rw [if_pos (by decide), List.length_append, List.length_singleton]
    omega
  constructor
  · unfold cutV
    rw [e1, e2, List.drop_append_of_le_length h, List.take_append_of_le_length (by rw [List.length_drop]; omega), List.take_of_length_le (by rw [List.length_drop]; omega)]
  · rintro ⟨a, _⟩
    rw [e1] at a
    cases a
theorem cut_from1 (xs : List V) : cutV xs (some 1) none = xs.drop 1 := by
  have e1 : HT.sIx xs.length 0 (some ((1 : Nat) : Int)) = min 1 xs.length := HT.sIx_nat _ 0 1
  have e1' : HT.sIx xs.length 0 (some 1) = min 1 xs.length := e1
  unfold cutV
  rw [e1', HT.sIx_none]
  cases xs with
  | nil => rfl
  | cons x t =>
    have : min 1 (x :: t).length = 1 := by
      show min 1 (t.length + 1) = 1
      omega
    rw [this, List.take_of_length_le (by rw [List.length_drop]; exact Nat.le_refl _)]
theorem pts_drop {H : Hp} : ∀ {pv : List V} {pts : List (Int × Int)}, PtV H pv pts → PtV H (pv.drop 1) (pts.drop 1)
  | _, _, .nil => .nil
  | _, _, .cons _ t => t
theorem bd_al2 : ∀ l : List (Int × Int × Int), l.length ≤ 2 → (∀ p ∈ l, Bd 300 p.1 ∧ Bd 101 p.2.1 ∧ Bd 30 p.2.2) → Bd 440 (l.foldl alStep (0, 1)).1 ∧ Bd 61 (l.foldl alStep (0, 1)).2
  | [], _, _ => ⟨(Bd.lit (n := 1)).mono (by decide), (Bd.lit (n := 1)).mono (by decide)⟩
  | [p], _, h => by
    obtain ⟨a, b, c⟩ := h p (List.mem_singleton.mpr rfl)
    show Bd 440 (0 * p.2.2 + p.1 * p.2.1 * 1) ∧ Bd 61 (1 * p.2.2)
    rw [Int.zero_mul, Int.zero_add, Int.mul_one, Int.one_mul]
    exact ⟨(a.mul b).mono (by decide), c.mono (by decide)⟩
  | [p, r], _, h => by
    obtain ⟨a, b, c⟩ := h p (List.mem_cons_self ..)
    obtain ⟨a', b', c'⟩ := h r (List.mem_cons_of_mem _ (List.mem_singleton.mpr rfl))
    show Bd 440 ((0 * p.2.2 + p.1 * p.2.1 * 1) * r.2.2 + r.1 * r.2.1 * (1 * p.2.2)) ∧ Bd 61 (1 * p.2.2 * r.2.2)
    rw [Int.zero_mul, Int.zero_add, Int.mul_one, Int.one_mul]
    exact ⟨(((a.mul b).mul c').add ((a'.mul b').mul c)).mono (by decide), (c.mul c').mono (by decide)⟩
  | _ :: _ :: _ :: _, h, _ => by
    exfalso
    simp at h
theorem NumsA.put {H : Hp} {b : Addr} {ns : List Int} (hn : 1 ≤ ns.length) {a : Addr} (h : NumsA H a) : NumsA (upd H b (.lst (ns.map V.int))) a := by
  by_cases e : a = b
  · rw [e]; exact ⟨ns, upd_same, hn⟩
  · obtain ⟨ms, h1, h2⟩ := h
    exact ⟨ms, (upd_ne e).trans h1, h2⟩
end Sh


namespace L2
open PySem PySem.Spec PyProof.Rows
inductive JVar (i : Nat) (σ : St) (H : Hp) (Q : VK) : Prop
  | mk (v : V) (_ : σ[i]? = some (some v)) (_ : Q v H) : JVar i σ H Q
inductive JI (C : Int → Int → Prop) (g : Int → Int → V) (x y : V) (H : Hp) (Q : VK) : Prop
  | mk (i j : Int) (_ : x = .int i) (_ : y = .int j) (_ : C i j) (_ : Q (g i j) H) : JI C g x y H Q
inductive JI0 (g : Int → Int → V) (x y : V) (H : Hp) (Q : VK) : Prop
  | mk (i j : Int) (_ : x = .int i) (_ : y = .int j) (_ : Q (g i j) H) : JI0 g x y H Q
inductive JIx (S : Hp → Addr → List V → Prop) (x y : V) (H : Hp) (Q : VK) : Prop
  | mk (p : Addr) (xs : List V) (i : Int) (v : V) (_ : x = .ref p) (_ : y = .int i) (_ : S H p xs) (_ : atI xs i = some v) (_ : Q v H) : JIx S x y H Q
inductive JCat (x y : V) (H : Hp) (Q : VK) : Prop
  | mk (l b : Addr) (xs zs : List V) (_ : x = .ref l) (_ : y = .ref b) (_ : H l = some (.lst xs)) (_ : H b = some (.lst zs)) (_ : xs.length + zs.length ≤ sizeLine) (_ : ∀ p, H p = none → Q (.ref p) (upd H p (.lst (xs ++ zs)))) : JCat x y H Q
inductive JLen (K : PySem.W.Frag) (xs : List V) (H : Hp) (Q : VK) : Prop
  | mk (p : Addr) (ys : List V) (_ : xs = [.ref p]) (_ : SqL K H p ys ∨ SqT K H p ys) (_ : Q (.int ys.length) H) : JLen K xs H Q
inductive JApp (x : V) (vs : List V) (H : Hp) (Q : VK) : Prop
  | mk (l : Addr) (xs : List V) (y : V) (_ : x = .ref l) (_ : vs = [y]) (_ : H l = some (.lst xs)) (_ : xs.length < sizeLine) (_ : Q .non (upd H l (.lst (xs ++ [y])))) : JApp x vs H Q
inductive JInst (K : PySem.W.Frag) (xs : List V) (H : Hp) (Q : VK) : Prop
  | mk (x : V) (c : String) (t : Value) (b : Bool) (_ : xs = [x, .ty c]) (_ : TyOf K H x t) (_ : PySem.W.kitOne K t (.type c) = some b) (_ : Q (.bl b) H) : JInst K xs H Q
inductive JSet (o i v : V) (H : Hp) (Q : Hp → Prop) : Prop
  | mk (p : Addr) (xs : List V) (k : Int) (j : Nat) (_ : o = .ref p) (_ : i = .int k) (_ : H p = some (.lst xs)) (_ : ixN xs.length k = some j) (_ : Q (upd H p (.lst (xs.set j v)))) : JSet o i v H Q
inductive JSlT (K : PySem.W.Frag) (x : V) (lo hi : Option Int) (H : Hp) (Q : VK) : Prop
  | mk (a : Addr) (xs : List V) (_ : x = .ref a) (_ : SqT K H a xs) (_ : ¬ (HT.sIx xs.length 0 lo = 0 ∧ HT.sIx xs.length xs.length hi = xs.length)) (_ : ∀ p, H p = none → Q (.ref p) (upd H p (.tup (cutV xs lo hi)))) : JSlT K x lo hi H Q
inductive JSlL (K : PySem.W.Frag) (x : V) (lo hi : Option Int) (H : Hp) (Q : VK) : Prop
  | mk (a : Addr) (xs : List V) (_ : x = .ref a) (_ : SqL K H a xs) (_ : ∀ p, H p = none → Q (.ref p) (upd H p (.lst (cutV xs lo hi)))) : JSlL K x lo hi H Q
inductive JTup (K : PySem.W.Frag) (xs : List V) (H : Hp) (Q : VK) : Prop
  | mk (p : Addr) (ys : List V) (_ : xs = [.ref p]) (_ : (SqL K H p ys ∧ ∀ l, H l = none → Q (.ref l) (upd H l (.tup ys))) ∨ (SqT K H p ys ∧ Q (.ref p) H)) : JTup K xs H Q
section
variable {X : Cx}
theorem japp : MtM X "list.append" JApp := fun pins s σ H x xs v us Q I rx rv ⟨l, ys, y, h1, h2, h3, h4, q⟩ => mt_append pins s σ H x xs v us Q I rx rv ⟨l, ys, y, h1, h2, h3, h4, q⟩
theorem jinst : CallR X (.builtin "isinstance") (JInst X.K) := fun pins s σ H xs us Q I r ⟨x, c, t, b, h1, h2, h3, q⟩ => call_isinst pins s σ H xs us Q I r ⟨x, c, t, b, h1, h2, h3, q⟩
theorem jset : PSet X JSet := fun pins s σ H o i v ov iv u Q I h1 h2 h3 ⟨p, xs, k, j, a, b, c, d, q⟩ => set_list pins s σ H o i v ov iv u Q I h1 h2 h3 ⟨p, xs, k, j, a, b, c, d, q⟩
theorem jsl_tup : SlR X (JSlT X.K) := fun pins s σ H x v vl vu lo hi sl Q I h1 h2 h3 h4 ⟨a, xs, b, c, d, q⟩ => sl_tup pins s σ H x v vl vu lo hi sl Q I h1 h2 h3 h4 ⟨a, xs, b, c, d, q⟩
theorem jsl_list : SlR X (JSlL X.K) := fun pins s σ H x v vl vu lo hi sl Q I h1 h2 h3 h4 ⟨a, xs, b, c, q⟩ => sl_list pins s σ H x v vl vu lo hi sl Q I h1 h2 h3 h4 ⟨a, xs, b, c, q⟩
theorem jtup : CallR X (.type "tuple") (JTup X.K) := fun pins s σ H xs us Q I r ⟨p, ys, e, q⟩ => call_tuple_of pins s σ H xs us Q I r ⟨p, ys, e, q⟩
theorem pvj (i : Nat) {x : Str} {pos : Pos} (hN : X.N[i]? = some x := by rfl) (hv : Vis X.env.scope x := by first | exact Or.inl rfl | exact Or.inr (Or.inl rfl) | exact Or.inr (Or.inr rfl)) (hd : (x == ("__debug__" : Str)) = false := by decide)
    (hcd : (x == ("__classdict__" : Str)) = false := by decide) : PE X (.Name x pos) (JVar i) := fun pins s σ H Q I ⟨v, e, h⟩ => pe_var hN hv hd hcd pins s σ H Q I ⟨v, e, h⟩
theorem ji {f : Value → Value → Sem Value} {C : Int → Int → Prop} {g : Int → Int → V} (h : OpR X f (rI C g)) : OpR X f (JI C g) := fun pins s σ H x y v u Q I rx ry ⟨i, j, hx, hy, c, q⟩ => h pins s σ H x y v u Q I rx ry ⟨i, j, hx, hy, c, q⟩
theorem ji0 {f : Value → Value → Sem Value} {g : Int → Int → V} (h : OpR X f (rI0 g)) : OpR X f (JI0 g) := fun pins s σ H x y v u Q I rx ry ⟨i, j, hx, hy, q⟩ => h pins s σ H x y v u Q I rx ry ⟨i, j, hx, hy, q⟩
theorem jix_list : IxR X (JIx (SqL X.K)) := fun a b pins s σ H x y v u Q I rx ry ⟨p, xs, i, w, hx, hy, hs, ha, q⟩ => ix_list a b pins s σ H x y v u Q I rx ry ⟨p, xs, i, w, hx, hy, hs, ha, q⟩
theorem jix_tup : IxR X (JIx (SqT X.K)) := fun a b pins s σ H x y v u Q I rx ry ⟨p, xs, i, w, hx, hy, hs, ha, q⟩ => ix_tup a b pins s σ H x y v u Q I rx ry ⟨p, xs, i, w, hx, hy, hs, ha, q⟩
theorem jcat : OpR X (binaryOp .Add) JCat := fun pins s σ H x y v u Q I rx ry ⟨l, b, xs, zs, hx, hy, h1, h2, h3, q⟩ => op_cat pins s σ H x y v u Q I rx ry ⟨l, b, xs, zs, hx, hy, h1, h2, h3, q⟩
theorem jlen : CallR X (.builtin "len") (JLen X.K) := fun pins s σ H xs us Q I r ⟨p, ys, e, h, q⟩ => call_len_seq pins s σ H xs us Q I r ⟨p, ys, e, h, q⟩
end
end L2

namespace Sh
structure LF where
  ns : List Int
  a : Int
  d : Int
noncomputable abbrev PC := List (List Int) × LF
noncomputable def negR (r : List Int) : List Int := r.map fun x => -x
noncomputable def stopR (l : LF) (s : Int) : List Int := l.ns ++ [l.d * s - l.a]
noncomputable def flatL (l : LF) (s : Int) : LF := ⟨l.ns.map fun _ => 0, s, 1⟩
noncomputable def stopP (lo hi : Int) (p : PC) : List PC := [(p.1 ++ [stopR p.2 lo], flatL p.2 lo), (p.1 ++ [negR (stopR p.2 lo), stopR p.2 hi], p.2), (p.1 ++ [negR (stopR p.2 hi)], flatL p.2 hi)]
noncomputable def piecesM : RT → List PC
  | .str ns a d => [([], ⟨ns, a, d⟩)]
  | .stp t lo hi => (piecesM t).flatMap (stopP lo hi)
  | .prt r x y => (piecesM x).map (fun p => ([r] ++ p.1, p.2)) ++ (piecesM y).map (fun p => ([negR r] ++ p.1, p.2))
noncomputable def countM : RT → Nat
  | .str .. => 1
  | .stp t .. => 3 * countM t
  | .prt _ x y => countM x + countM y
theorem flat3 {α β : Type} (f : α → List β) (h : ∀ x, (f x).length = 3) : ∀ l : List α, (l.flatMap f).length = 3 * l.length
  | [] => rfl
  | x :: t => by
    rw [List.flatMap_cons, List.length_append, h x, flat3 f h t, List.length_cons]
    omega
theorem pieces_len : ∀ t : RT, (piecesM t).length = countM t
  | .str .. => rfl
  | .stp t lo hi => by
    show ((piecesM t).flatMap (stopP lo hi)).length = 3 * countM t
    rw [flat3 _ (fun _ => rfl), pieces_len t]
  | .prt r x y => by
    show ((piecesM x).map _ ++ (piecesM y).map _).length = _
    rw [List.length_append, List.length_map, List.length_map, pieces_len x, pieces_len y]
    rfl
noncomputable def ShOk (n : Nat) : RT → Prop
  | .str ns _ d => ns.length = n ∧ 0 < d
  | .stp t lo hi => ShOk n t ∧ lo ≤ hi
  | .prt r x y => r.length = n + 1 ∧ ShOk n x ∧ ShOk n y
structure PcOk (n : Nat) (p : PC) : Prop where
  rows : ∀ r ∈ p.1, r.length = n + 1
  len : p.2.ns.length = n
  d0 : 0 < p.2.d
theorem neg_len (r : List Int) : (negR r).length = r.length := List.length_map _
theorem stopR_len {l : LF} {n : Nat} (h : l.ns.length = n) (s : Int) : (stopR l s).length = n + 1 := by
  unfold stopR
  rw [List.length_append, h]
  rfl
theorem pieces_ok {n : Nat} : ∀ {t : RT}, ShOk n t → ∀ p ∈ piecesM t, PcOk n p
  | .str ns a d, h => fun p hp => by
    rw [List.mem_singleton.mp hp]
    exact ⟨fun r hr => (by cases hr), h.1, h.2⟩
  | .stp t lo hi, h => fun p hp => by
    obtain ⟨q, hq, hp⟩ := List.mem_flatMap.mp hp
    have ih := pieces_ok h.1 q hq
    simp only [stopP, List.mem_cons, List.not_mem_nil, or_false] at hp
    have fl : ∀ s, (flatL q.2 s).ns.length = n := fun s => (List.length_map _).trans ih.len
    rcases hp with rfl | rfl | rfl
    · refine ⟨fun r hr => ?_, fl _, by show (0 : Int) < 1; decide⟩
      rcases List.mem_append.mp hr with hr | hr
      · exact ih.rows r hr
      · rw [List.mem_singleton.mp hr]; exact stopR_len ih.len _
    · refine ⟨fun r hr => ?_, ih.len, ih.d0⟩
      rcases List.mem_append.mp hr with hr | hr
      · exact ih.rows r hr
      · simp only [List.mem_cons, List.not_mem_nil, or_false] at hr
        rcases hr with rfl | rfl
        · rw [neg_len]; exact stopR_len ih.len _
        · exact stopR_len ih.len _
    · refine ⟨fun r hr => ?_, fl _, by show (0 : Int) < 1; decide⟩
      rcases List.mem_append.mp hr with hr | hr
      · exact ih.rows r hr
      · rw [List.mem_singleton.mp hr, neg_len]; exact stopR_len ih.len _
  | .prt r x y, h => fun p hp => by
    rcases List.mem_append.mp hp with hp | hp
    · obtain ⟨q, hq, rfl⟩ := List.mem_map.mp hp
      have ih := pieces_ok h.2.1 q hq
      refine ⟨fun r' hr => ?_, ih.len, ih.d0⟩
      rcases List.mem_append.mp hr with hr | hr
      · rw [List.mem_singleton.mp hr]; exact h.1
      · exact ih.rows r' hr
    · obtain ⟨q, hq, rfl⟩ := List.mem_map.mp hp
      have ih := pieces_ok h.2.2 q hq
      refine ⟨fun r' hr => ?_, ih.len, ih.d0⟩
      rcases List.mem_append.mp hr with hr | hr
      · rw [List.mem_singleton.mp hr, neg_len]; exact h.1
      · exact ih.rows r' hr
noncomputable def alR (pts : List (Int × Int)) (r : List Int) : Int × Int := alFold (r.take pts.length) pts
noncomputable def bdR (pts : List (Int × Int)) (r : List Int) : Int := r.getD pts.length 0
noncomputable def hlR (pts : List (Int × Int)) (r : List Int) : Prop := (alR pts r).1 ≤ bdR pts r * (alR pts r).2
noncomputable def stR (pts : List (Int × Int)) (r : List Int) : Prop := (alR pts r).1 < bdR pts r * (alR pts r).2
noncomputable def tellM (pts : List (Int × Int)) (l : LF) : Int × Int := valM pts (.str l.ns l.a l.d)
theorem fold_neg : ∀ (l : List (Int × Int × Int)) (T B : Int), (l.map fun p => (-p.1, p.2)).foldl alStep (-T, B) = (-(l.foldl alStep (T, B)).1, (l.foldl alStep (T, B)).2)
  | [], _, _ => rfl
  | p :: t, T, B => by
    rw [List.map_cons, List.foldl_cons, List.foldl_cons]
    have e : alStep (-T, B) (-p.1, p.2) = (-(alStep (T, B) p).1, (alStep (T, B) p).2) := by
      show (-T * p.2.2 + -p.1 * p.2.1 * B, B * p.2.2) = (-(T * p.2.2 + p.1 * p.2.1 * B), B * p.2.2)
      congr 1
      grind
    rw [e, fold_neg t]
theorem zip_neg (ws : List Int) (pts : List (Int × Int)) : (ws.map fun x => -x).zip pts = (ws.zip pts).map fun p => (-p.1, p.2) := by
  induction ws generalizing pts with
  | nil => rfl
  | cons w t ih =>
    cases pts with
    | nil => rfl
    | cons q u => rw [List.map_cons, List.zip_cons_cons, List.zip_cons_cons, List.map_cons, ih]
theorem al_neg (pts : List (Int × Int)) (r : List Int) : alR pts (negR r) = (-(alR pts r).1, (alR pts r).2) := by
  unfold alR negR
  rw [← List.map_take]
  unfold alFold
  rw [zip_neg]
  exact fold_neg _ 0 1
theorem bd_negR (pts : List (Int × Int)) (r : List Int) : bdR pts (negR r) = -bdR pts r := by
  unfold bdR negR
  rw [List.getD_eq_getElem?_getD, List.getD_eq_getElem?_getD, List.getElem?_map]
  cases r[pts.length]? with
  | none => rfl
  | some x => rfl
theorem fold_zero : ∀ (l : List (Int × Int × Int)) (B : Int), (l.map fun p => (0, p.2)).foldl alStep (0, B) = (0, (l.foldl alStep (0, B)).2)
  | [], _ => rfl
  | p :: t, B => by
    rw [List.map_cons, List.foldl_cons, List.foldl_cons]
    have e : alStep (0, B) (0, p.2) = (0, B * p.2.2) := by
      show (0 * p.2.2 + 0 * p.2.1 * B, B * p.2.2) = (0, B * p.2.2)
      congr 1
      grind
    rw [e, fold_zero t]
    have z : ∀ (l : List (Int × Int × Int)) (T T' B : Int), (l.foldl alStep (T, B)).2 = (l.foldl alStep (T', B)).2 := by
      intro l
      induction l with
      | nil => intro _ _ _; rfl
      | cons q u ih => intro T T' B; rw [List.foldl_cons, List.foldl_cons]; exact ih _ _ _
    congr 1
    exact z t _ _ _
theorem zip_zero (ws : List Int) (pts : List (Int × Int)) : (ws.map fun _ => (0 : Int)).zip pts = (ws.zip pts).map fun p => (0, p.2) := by
  induction ws generalizing pts with
  | nil => rfl
  | cons w t ih =>
    cases pts with
    | nil => rfl
    | cons q u => rw [List.map_cons, List.zip_cons_cons, List.zip_cons_cons, List.map_cons, ih]
section
variable {pts : List (Int × Int)} (hp : ∀ p ∈ pts, 0 < p.2)
include hp
theorem al_posM (ws : List Int) : 0 < (alFold ws pts).2 := by
  rw [alFold_eq ws pts hp]
  exact prodB_pos fun p h => hp p.2 (List.of_mem_zip h).2
theorem flat_tell (l : LF) (s : Int) : tellM pts (flatL l s) = (s, 1) := by
  have e : alFold (l.ns.map fun _ => (0 : Int)) pts = (0, (alFold (l.ns.map fun _ => (0 : Int)) pts).2) := by
    have z := fold_zero (l.ns.zip pts) 1
    unfold alFold
    rw [zip_zero, z]
  have p := al_posM hp (l.ns.map fun _ => (0 : Int))
  show (lowT _ _, lowB _ _) = _
  show (lowT ((alFold (l.ns.map fun _ => (0 : Int)) pts).1 + s * (alFold (l.ns.map fun _ => (0 : Int)) pts).2) ((alFold (l.ns.map fun _ => (0 : Int)) pts).2 * 1), lowB ((alFold (l.ns.map fun _ => (0 : Int)) pts).1 + s * (alFold (l.ns.map fun _ => (0 : Int)) pts).2) ((alFold (l.ns.map fun _ => (0 : Int)) pts).2 * 1)) = _
  generalize (alFold (l.ns.map fun _ => (0 : Int)) pts).2 = B at e p
  rw [e]
  obtain ⟨u1, u2⟩ := low_uniq (t := 0 + s * B) (b := B * 1) (t' := s) (b' := 1) (by omega) (by decide) (by grind)
  show (lowT (0 + s * B) (B * 1), lowB (0 + s * B) (B * 1)) = _
  rw [u1, u2, lowT_one, lowB_one]
theorem stop_al {l : LF} (h : l.ns.length = pts.length) (s : Int) : alR pts (stopR l s) = alFold l.ns pts ∧ bdR pts (stopR l s) = l.d * s - l.a := by
  unfold alR bdR stopR
  rw [← h, List.take_left', List.getD_eq_getElem?_getD, List.getElem?_append_right (Nat.le_refl _), Nat.sub_self]
  · exact ⟨rfl, rfl⟩
  · rfl
theorem tell_pos {l : LF} (hd : 0 < l.d) : 0 < (tellM pts l).2 := by
  have p := al_posM hp l.ns
  have q := Int.mul_pos p hd
  exact lowB_pos (by omega)
theorem stop_le {l : LF} (h : l.ns.length = pts.length) (hd : 0 < l.d) (s : Int) : (tellM pts l).1 ≤ s * (tellM pts l).2 ↔ hlR pts (stopR l s) := by
  obtain ⟨e1, e2⟩ := stop_al hp h s
  unfold hlR
  rw [e1, e2]
  have p := al_posM hp l.ns
  have q := Int.mul_pos p hd
  have z : (tellM pts l).1 ≤ s * (tellM pts l).2 ↔ (alFold l.ns pts).1 + l.a * (alFold l.ns pts).2 ≤ s * ((alFold l.ns pts).2 * l.d) := low_le q
  rw [z]
  generalize (alFold l.ns pts).1 = T
  generalize (alFold l.ns pts).2 = B
  have e : (l.d * s - l.a) * B = s * (B * l.d) - l.a * B := by grind
  rw [e]
  omega
theorem low_lt {T B b : Int} (hB : 0 < B) : lowT T B < b * lowB T B ↔ T < b * B := by
  have hb : B ≠ 0 := by omega
  have p := lowB_pos (t := T) hb
  have c := low_cross (t := T) hb
  generalize lowT T B = x at *
  generalize lowB T B = y at *
  constructor
  · intro h
    have : x * B < b * y * B := Int.mul_lt_mul_of_pos_right h hB
    rw [c] at this
    have e : b * y * B = (b * B) * y := by grind
    rw [e] at this
    exact Int.lt_of_mul_lt_mul_right this (by omega)
  · intro h
    have : T * y < b * B * y := Int.mul_lt_mul_of_pos_right h p
    rw [← c] at this
    have e : b * B * y = (b * y) * B := by grind
    rw [e] at this
    exact Int.lt_of_mul_lt_mul_right this (by omega)
theorem stop_lt {l : LF} (h : l.ns.length = pts.length) (hd : 0 < l.d) (s : Int) : (tellM pts l).1 < s * (tellM pts l).2 ↔ stR pts (stopR l s) := by
  obtain ⟨e1, e2⟩ := stop_al hp h s
  unfold stR
  rw [e1, e2]
  have p := al_posM hp l.ns
  have q := Int.mul_pos p hd
  have z : (tellM pts l).1 < s * (tellM pts l).2 ↔ (alFold l.ns pts).1 + l.a * (alFold l.ns pts).2 < s * ((alFold l.ns pts).2 * l.d) := low_lt hp q
  rw [z]
  generalize (alFold l.ns pts).1 = T
  generalize (alFold l.ns pts).2 = B
  have e : (l.d * s - l.a) * B = s * (B * l.d) - l.a * B := by grind
  rw [e]
  omega
theorem neg_hl (r : List Int) : hlR pts (negR r) ↔ bdR pts r * (alR pts r).2 ≤ (alR pts r).1 := by
  unfold hlR
  rw [al_neg, bd_negR, Int.neg_mul]
  show -(alR pts r).1 ≤ -(bdR pts r * (alR pts r).2) ↔ _
  omega
theorem neg_st (r : List Int) : stR pts (negR r) ↔ bdR pts r * (alR pts r).2 < (alR pts r).1 := by
  unfold stR
  rw [al_neg, bd_negR, Int.neg_mul]
  show -(alR pts r).1 < -(bdR pts r * (alR pts r).2) ↔ _
  omega
theorem cover_some : ∀ {t : RT}, ShOk pts.length t → ∃ p ∈ piecesM t, (∀ r ∈ p.1, hlR pts r) ∧ tellM pts p.2 = valM pts t
  | .str ns a d, _ => ⟨_, List.mem_singleton.mpr rfl, fun r hr => (by cases hr), rfl⟩
  | .stp t lo hi, h => by
    obtain ⟨p, hp1, hr, he⟩ := cover_some h.1
    have ok := pieces_ok h.1 p hp1
    have l1 := stop_le hp ok.len ok.d0 lo
    have l2 := stop_le hp ok.len ok.d0 hi
    have s1 := stop_lt hp ok.len ok.d0 lo
    have s2 := stop_lt hp ok.len ok.d0 hi
    have n1 := neg_hl hp (stopR p.2 lo)
    have n2 := neg_hl hp (stopR p.2 hi)
    have v0 := tell_pos hp ok.d0
    have hm : ∀ q ∈ stopP lo hi p, q ∈ piecesM (.stp t lo hi) := fun q hq => List.mem_flatMap.mpr ⟨p, hp1, hq⟩
    have app : ∀ {l2 : List (List Int)}, (∀ r ∈ l2, hlR pts r) → ∀ r ∈ p.1 ++ l2, hlR pts r := fun h2 r hr' => (List.mem_append.mp hr').elim (hr r) (h2 r)
    rw [he] at l1 l2 s1 s2
    by_cases c1 : (valM pts t).1 < lo * (valM pts t).2
    · refine ⟨_, hm _ (List.mem_cons_self ..), app (fun r hr' => by rw [List.mem_singleton.mp hr']; exact l1.mp (by omega)), ?_⟩
      show tellM pts (flatL p.2 lo) = if _ then _ else _
      rw [flat_tell hp, if_pos c1]
    · by_cases c2 : hi * (valM pts t).2 < (valM pts t).1
      · refine ⟨_, hm _ (List.mem_cons_of_mem _ (List.mem_cons_of_mem _ (List.mem_cons_self ..))), app (fun r hr' => by
          rw [List.mem_singleton.mp hr', n2]
          have : ¬ hlR pts (stopR p.2 hi) := fun z => by have := l2.mpr z; omega
          unfold hlR at this
          omega), ?_⟩
        show tellM pts (flatL p.2 hi) = if _ then _ else _
        rw [flat_tell hp, if_neg c1, if_pos c2]
      · refine ⟨_, hm _ (List.mem_cons_of_mem _ (List.mem_cons_self ..)), app (fun r hr' => by
          simp only [List.mem_cons, List.not_mem_nil, or_false] at hr'
          rcases hr' with rfl | rfl
          · rw [n1]
            have : ¬ stR pts (stopR p.2 lo) := fun z => c1 (s1.mpr z)
            unfold stR at this
            omega
          · exact l2.mp (by omega)), ?_⟩
        show tellM pts p.2 = if _ then _ else _
        rw [he, if_neg c1, if_neg c2]
  | .prt r x y, h => by
    by_cases c : (alFold (r.take pts.length) pts).1 ≤ r.getD pts.length 0 * (alFold (r.take pts.length) pts).2
    · obtain ⟨p, hp1, hr, he⟩ := cover_some h.2.1
      refine ⟨([r] ++ p.1, p.2), List.mem_append_left _ (List.mem_map.mpr ⟨p, hp1, rfl⟩), fun q hq => ?_, ?_⟩
      · rcases List.mem_append.mp hq with hq | hq
        · rw [List.mem_singleton.mp hq]; exact c
        · exact hr q hq
      · show tellM pts p.2 = if _ then _ else _
        rw [he, if_pos c]
    · obtain ⟨p, hp1, hr, he⟩ := cover_some h.2.2
      refine ⟨([negR r] ++ p.1, p.2), List.mem_append_right _ (List.mem_map.mpr ⟨p, hp1, rfl⟩), fun q hq => ?_, ?_⟩
      · rcases List.mem_append.mp hq with hq | hq
        · rw [List.mem_singleton.mp hq, neg_hl hp]
          show r.getD pts.length 0 * (alFold (r.take pts.length) pts).2 ≤ (alFold (r.take pts.length) pts).1
          omega
        · exact hr q hq
      · show tellM pts p.2 = if _ then _ else _
        rw [he, if_neg c]
theorem cover_all : ∀ {t : RT}, ShOk pts.length t → ∀ p ∈ piecesM t, (∀ r ∈ p.1, stR pts r) → tellM pts p.2 = valM pts t
  | .str ns a d, _ => fun p hp1 _ => by rw [List.mem_singleton.mp hp1]; rfl
  | .stp t lo hi, h => fun p hp1 hs => by
    obtain ⟨q, hq, hp1⟩ := List.mem_flatMap.mp hp1
    have ok := pieces_ok h.1 q hq
    have lh : lo ≤ hi := h.2
    have ih := cover_all h.1 q hq
    have s1 := stop_lt hp ok.len ok.d0 lo
    have l2 := stop_le hp ok.len ok.d0 hi
    have l1 := stop_le hp ok.len ok.d0 lo
    have s2 := stop_lt hp ok.len ok.d0 hi
    have n1 := neg_st hp (stopR q.2 lo)
    have n2 := neg_st hp (stopR q.2 hi)
    have v0 := tell_pos hp ok.d0
    simp only [stopP, List.mem_cons, List.not_mem_nil, or_false] at hp1
    rcases hp1 with rfl | rfl | rfl
    · have e := ih fun r hr => hs r (List.mem_append_left _ hr)
      have c := s1.mpr (hs _ (List.mem_append_right _ (List.mem_singleton.mpr rfl)))
      rw [e] at c
      show tellM pts (flatL q.2 lo) = if _ then _ else _
      rw [flat_tell hp, if_pos c]
    · have e := ih fun r hr => hs r (List.mem_append_left _ hr)
      have c1 := n1.mp (hs _ (List.mem_append_right _ (List.mem_cons_self ..)))
      have c2 := s2.mpr (hs _ (List.mem_append_right _ (List.mem_cons_of_mem _ (List.mem_singleton.mpr rfl))))
      have k1 : ¬ (tellM pts q.2).1 < lo * (tellM pts q.2).2 := fun z => by
        have := s1.mp z
        unfold stR at this
        omega
      rw [e] at k1 c2
      show tellM pts q.2 = if _ then _ else _
      rw [e, if_neg k1, if_neg (by omega)]
    · have e := ih fun r hr => hs r (List.mem_append_left _ hr)
      have c2 := n2.mp (hs _ (List.mem_append_right _ (List.mem_singleton.mpr rfl)))
      have k2 : ¬ (tellM pts q.2).1 ≤ hi * (tellM pts q.2).2 := fun z => by
        have := l2.mp z
        unfold hlR at this
        omega
      have k1 : ¬ (tellM pts q.2).1 < lo * (tellM pts q.2).2 := fun z => by
        have : lo * (tellM pts q.2).2 ≤ hi * (tellM pts q.2).2 := Int.mul_le_mul_of_nonneg_right lh (by omega)
        omega
      rw [e] at k1 k2
      show tellM pts (flatL q.2 hi) = if _ then _ else _
      rw [flat_tell hp, if_neg k1, if_pos (by omega)]
  | .prt r x y, h => fun p hp1 hs => by
    rcases List.mem_append.mp hp1 with hp1 | hp1
    · obtain ⟨q, hq, rfl⟩ := List.mem_map.mp hp1
      have c : stR pts r := hs r (List.mem_append_left _ (List.mem_singleton.mpr rfl))
      have e := cover_all h.2.1 q hq fun r' hr => hs r' (List.mem_append_right _ hr)
      show tellM pts q.2 = if _ then _ else _
      have c' : (alFold (r.take pts.length) pts).1 ≤ r.getD pts.length 0 * (alFold (r.take pts.length) pts).2 := Int.le_of_lt c
      rw [e, if_pos c']
    · obtain ⟨q, hq, rfl⟩ := List.mem_map.mp hp1
      have c := (neg_st hp r).mp (hs _ (List.mem_append_left _ (List.mem_singleton.mpr rfl)))
      have e := cover_all h.2.2 q hq fun r' hr => hs r' (List.mem_append_right _ hr)
      show tellM pts q.2 = if _ then _ else _
      have c' : r.getD pts.length 0 * (alFold (r.take pts.length) pts).2 < (alFold (r.take pts.length) pts).1 := c
      rw [e, if_neg (by omega)]
end
end Sh


namespace Sh
open PySem L2
noncomputable def PcV (C : Addr) (H0 H : Hp) (v : V) (p : PC) : Prop := ∃ (t rl so dx la : Addr) (rv : List V), v = .ref t ∧ H t = some (.tup [.ref rl, .ref so]) ∧ H0 rl = none ∧ H rl = some (.lst rv) ∧ WaysV H rv p.1 ∧ H so = some (.ins C dx (strF (.ref la) p.2.a p.2.d)) ∧ H la = some (.lst (p.2.ns.map V.int))
theorem PcV.same {C : Addr} {H0 H H' : Hp} (s : Same H H') {v : V} {p : PC} (h : PcV C H0 H v p) : PcV C H0 H' v p :=
  let ⟨t, rl, so, dx, la, rv, e, h1, h2, h3, h4, h5, h6⟩ := h
  ⟨t, rl, so, dx, la, rv, e, s _ _ h1, h2, s _ _ h3, WaysV.same s h4, s _ _ h5, s _ _ h6⟩
theorem PcV.back {C : Addr} {H0 H1 H : Hp} (s : Same H0 H1) {v : V} {p : PC} (h : PcV C H1 H v p) : PcV C H0 H v p :=
  let ⟨t, rl, so, dx, la, rv, e, h1, h2, h3⟩ := h
  ⟨t, rl, so, dx, la, rv, e, h1, s.free h2, h3⟩
theorem hide_put {x : Addr} {H : Hp} (o : HO) : Same (hide [x] H) (hide [x] (upd H x o)) := hide_off ((off.refl [x] H).put o (List.mem_singleton.mpr rfl))
noncomputable def TrF : RT → Prop
  | .str ns a d => (∀ x ∈ ns, Bd 101 x) ∧ Bd 101 a ∧ Bd 31 d
  | .stp t lo hi => TrF t ∧ Bd 220 lo ∧ Bd 220 hi
  | .prt r x y => (∀ z ∈ r, Bd 101 z) ∧ TrF x ∧ TrF y
theorem TrF.ok {n : Nat} : ∀ {t : RT}, TrF t → ShOk n t → TrOk n t
  | .str .., h, s => ⟨s.1, fun x hx => (h.1 x hx).mono (by decide), h.2.1.mono (by decide), s.2, h.2.2.mono (by decide)⟩
  | .stp .., h, s => ⟨TrF.ok h.1 s.1, h.2.1.mono (by decide), h.2.2.mono (by decide)⟩
  | .prt .., h, s => ⟨⟨s.1, fun x hx => (h.1 x hx).mono (by decide)⟩, TrF.ok h.2.1 s.2.1, TrF.ok h.2.2 s.2.2⟩
structure PcF (p : PC) : Prop where
  rows : ∀ r ∈ p.1, ∀ z ∈ r, Bd 300 z
  ns : ∀ x ∈ p.2.ns, Bd 101 x
  a : Bd 220 p.2.a
  d : Bd 31 p.2.d
theorem stopR_bd {p : PC} (h : PcF p) {s : Int} (hs : Bd 220 s) : ∀ z ∈ stopR p.2 s, Bd 300 z := fun z hz => by
  unfold stopR at hz
  rcases List.mem_append.mp hz with hz | hz
  · exact (h.ns z hz).mono (by decide)
  · rw [List.mem_singleton.mp hz]
    exact (((h.d.mul hs).mono (show 31 + 220 ≤ 251 by decide)).sub (h.a.mono (by decide))).mono (by decide)
theorem negR_bd {r : List Int} (h : ∀ z ∈ r, Bd 300 z) : ∀ z ∈ negR r, Bd 300 z := fun z hz => by
  obtain ⟨x, hx, e⟩ := List.mem_map.mp hz
  rw [← e]
  exact (h x hx).neg
theorem flat_bd (l : LF) : ∀ x ∈ (l.ns.map fun _ => (0 : Int)), Bd 101 x := fun x hx => by
  obtain ⟨y, _, e⟩ := List.mem_map.mp hx
  rw [← e]
  exact (show Bd 1 (0 : Int) from Bd.lit).mono (by decide)
theorem pieces_f : ∀ {t : RT}, TrF t → ∀ p ∈ piecesM t, PcF p
  | .str ns a d, h => fun p hp => by
    rw [List.mem_singleton.mp hp]
    exact ⟨fun r hr => (by cases hr), h.1, h.2.1.mono (by decide), h.2.2⟩
  | .stp t lo hi, h => fun p hp => by
    obtain ⟨q, hq, hp⟩ := List.mem_flatMap.mp hp
    have ih := pieces_f h.1 q hq
    simp only [stopP, List.mem_cons, List.not_mem_nil, or_false] at hp
    have b1 : Bd 31 (1 : Int) := (show Bd 1 (1 : Int) from Bd.lit).mono (by decide)
    rcases hp with rfl | rfl | rfl
    · refine ⟨fun r hr => ?_, flat_bd _, h.2.1, b1⟩
      rcases List.mem_append.mp hr with hr | hr
      · exact ih.rows r hr
      · rw [List.mem_singleton.mp hr]; exact stopR_bd ih h.2.1
    · refine ⟨fun r hr => ?_, ih.ns, ih.a, ih.d⟩
      rcases List.mem_append.mp hr with hr | hr
      · exact ih.rows r hr
      · simp only [List.mem_cons, List.not_mem_nil, or_false] at hr
        rcases hr with rfl | rfl
        · exact negR_bd (stopR_bd ih h.2.1)
        · exact stopR_bd ih h.2.2
    · refine ⟨fun r hr => ?_, flat_bd _, h.2.2, b1⟩
      rcases List.mem_append.mp hr with hr | hr
      · exact ih.rows r hr
      · rw [List.mem_singleton.mp hr]; exact negR_bd (stopR_bd ih h.2.2)
  | .prt r x y, h => fun p hp => by
    rcases List.mem_append.mp hp with hp | hp
    · obtain ⟨q, hq, rfl⟩ := List.mem_map.mp hp
      have ih := pieces_f h.2.1 q hq
      refine ⟨fun r' hr => ?_, ih.ns, ih.a, ih.d⟩
      rcases List.mem_append.mp hr with hr | hr
      · rw [List.mem_singleton.mp hr]; exact fun z hz => (h.1 z hz).mono (by decide)
      · exact ih.rows r' hr
    · obtain ⟨q, hq, rfl⟩ := List.mem_map.mp hp
      have ih := pieces_f h.2.2 q hq
      refine ⟨fun r' hr => ?_, ih.ns, ih.a, ih.d⟩
      rcases List.mem_append.mp hr with hr | hr
      · rw [List.mem_singleton.mp hr]; exact negR_bd fun z hz => (h.1 z hz).mono (by decide)
      · exact ih.rows r' hr
theorem rows_few : ∀ {t : RT}, ∀ p ∈ piecesM t, p.1.length ≤ 2 * t.dep
  | .str .., p, hp => by rw [List.mem_singleton.mp hp]; exact Nat.zero_le _
  | .stp t lo hi, p, hp => by
    obtain ⟨q, hq, hp⟩ := List.mem_flatMap.mp hp
    have ih := rows_few q hq
    show p.1.length ≤ 2 * (t.dep + 1)
    simp only [stopP, List.mem_cons, List.not_mem_nil, or_false] at hp
    rcases hp with rfl | rfl | rfl
    · rw [List.length_append]; show q.1.length + 1 ≤ _; omega
    · rw [List.length_append]; show q.1.length + 2 ≤ _; omega
    · rw [List.length_append]; show q.1.length + 1 ≤ _; omega
  | .prt r x y, p, hp => by
    show p.1.length ≤ 2 * (max x.dep y.dep + 1)
    rcases List.mem_append.mp hp with hp | hp
    · obtain ⟨q, hq, rfl⟩ := List.mem_map.mp hp
      have ih := rows_few q hq
      all_goals first | (rw [List.length_append]; show 1 + q.1.length ≤ _; omega) | omega
    · obtain ⟨q, hq, rfl⟩ := List.mem_map.mp hp
      have ih := rows_few q hq
      all_goals first | (rw [List.length_append]; show 1 + q.1.length ≤ _; omega) | omega
theorem count_bd : ∀ t : RT, Bd (2 * t.dep + 1) (countM t : Int)
  | .str .. => (show Bd 1 (1 : Int) from Bd.lit).mono (by show 1 ≤ 2 * 1 + 1; decide)
  | .stp t lo hi => by
    have b3 : Bd 2 (3 : Int) := Bd.lit
    have := b3.mul (count_bd t)
    have e : ((countM (.stp t lo hi) : Nat) : Int) = 3 * (countM t : Int) := by show ((3 * countM t : Nat) : Int) = _; omega
    rw [e]
    exact this.mono (by show 2 + (2 * t.dep + 1) ≤ 2 * (t.dep + 1) + 1; omega)
  | .prt r x y => by
    have e : ((countM (.prt r x y) : Nat) : Int) = (countM x : Int) + (countM y : Int) := by show ((countM x + countM y : Nat) : Int) = _; omega
    rw [e]
    exact (((count_bd x).mono (show 2 * x.dep + 1 ≤ 2 * max x.dep y.dep + 1 by omega)).add ((count_bd y).mono (show 2 * y.dep + 1 ≤ 2 * max x.dep y.dep + 1 by omega))).mono (by show _ ≤ 2 * (max x.dep y.dep + 1) + 1; omega)
structure Kits (K : PySem.W.Frag) (C1 C2 C3 : Addr) : Prop where
  k21 : PySem.W.kitOne K (.ref C2) (.ref C1) = some false
  k31 : PySem.W.kitOne K (.ref C3) (.ref C1) = some false
  k12 : PySem.W.kitOne K (.ref C1) (.ref C2) = some false
  k32 : PySem.W.kitOne K (.ref C3) (.ref C2) = some false
  k13 : PySem.W.kitOne K (.ref C1) (.ref C3) = some false
inductive spOther (vs : List V) (H : Hp) (Q : VK) (E : XK) : Prop
  | mk (ra : Addr) (r : List Int) (_ : vs = [.ref ra]) (_ : H ra = some (.tup (r.map V.int))) (_ : r.length ≤ 900) (_ : ∀ t H', Same H H' → H t = none → H' t = some (.tup ((negR r).map V.int)) → Q (.ref t) H') : spOther vs H Q E
inductive spIsStraight (C1 C2 C3 : Addr) (vs : List V) (H : Hp) (Q : VK) (E : XK) : Prop
  | mk (v : V) (n : Nat) (ns : List Int) (a d : Int) (_ : vs = [v, .int (n : Int)]) (_ : RuleV C1 C2 C3 H v (.str ns a d)) (_ : ns.length = n) (_ : n ≤ 900) (_ : 0 < d) (_ : ∀ H', Same H H' → Q (.bl true) H') : spIsStraight C1 C2 C3 vs H Q E
inductive spStops (vs : List V) (H : Hp) (Q : VK) (E : XK) : Prop
  | mk (lo hi : Int) (_ : vs = [.int lo, .int hi]) (_ : lo ≤ hi) (_ : Q (.bl true) H) : spStops vs H Q E
inductive spIsRule (C1 C2 C3 : Addr) (d : Nat) (vs : List V) (H : Hp) (Q : VK) (E : XK) : Prop
  | mk (v : V) (n : Nat) (t : RT) (_ : vs = [v, .int (n : Int)]) (_ : t.dep ≤ d) (_ : RuleV C1 C2 C3 H v t) (_ : ShOk n t) (_ : n ≤ 800) (_ : ∀ H', Same H H' → Q (.bl true) H') : spIsRule C1 C2 C3 d vs H Q E
theorem spIsRule_no {C1 C2 C3 : Addr} : ∀ vs H Q E, ¬ spIsRule C1 C2 C3 0 vs H Q E := by
  rintro _ _ _ _ ⟨_, _, t, _, h, _⟩
  have := t.dep_pos
  omega
inductive spCount (C1 C2 C3 : Addr) (d : Nat) (vs : List V) (H : Hp) (Q : VK) (E : XK) : Prop
  | mk (v : V) (t : RT) (_ : vs = [v]) (_ : t.dep ≤ d) (_ : t.dep ≤ 100) (_ : RuleV C1 C2 C3 H v t) (_ : Q (.int (countM t : Int)) H) : spCount C1 C2 C3 d vs H Q E
theorem spCount_no {C1 C2 C3 : Addr} : ∀ vs H Q E, ¬ spCount C1 C2 C3 0 vs H Q E := by
  rintro _ _ _ _ ⟨_, t, _, h, _⟩
  have := t.dep_pos
  omega
inductive spStopRow (C : Addr) (vs : List V) (H : Hp) (Q : VK) (E : XK) : Prop
  | mk (so dx la : Addr) (l : LF) (s : Int) (_ : vs = [.ref so, .int s]) (_ : H so = some (.ins C dx (strF (.ref la) l.a l.d))) (_ : H la = some (.lst (l.ns.map V.int))) (_ : 1 ≤ l.ns.length) (_ : l.ns.length ≤ 900) (_ : Bd 300 l.d) (_ : Bd 300 s) (_ : ∀ t H', Same H H' → H' t = some (.tup ((stopR l s).map V.int)) → Q (.ref t) H') : spStopRow C vs H Q E
inductive spListed (C1 C2 C3 : Addr) (kd : RT → Bool) (d : Nat) (vs : List V) (H : Hp) (Q : VK) (E : XK) : Prop
  | mk (v : V) (n : Nat) (t : RT) (_ : vs = [v]) (_ : kd t = true) (_ : t.dep ≤ d) (_ : t.dep ≤ 100) (_ : RuleV C1 C2 C3 H v t) (_ : ShOk n t) (_ : 1 ≤ n) (_ : n ≤ 800) (_ : TrF t) (_ : countM t ≤ 60) (_ : ∀ l lv H', Same H H' → H l = none → H' l = some (.lst lv) → Paired (PcV C1 H H') lv (piecesM t) → Q (.ref l) H') : spListed C1 C2 C3 kd d vs H Q E
theorem spListed_no {C1 C2 C3 : Addr} {kd : RT → Bool} : ∀ vs H Q E, ¬ spListed C1 C2 C3 kd 0 vs H Q E := by
  rintro _ _ _ _ ⟨_, _, t, _, _, h, _⟩
  have := t.dep_pos
  omega
noncomputable def anyK : RT → Bool := fun _ => true
inductive spPieces (C1 C2 C3 : Addr) (d : Nat) (vs : List V) (H : Hp) (Q : VK) (E : XK) : Prop
  | mk (v : V) (n : Nat) (t : RT) (_ : vs = [v, .int (n : Int)]) (_ : t.dep ≤ d) (_ : t.dep ≤ 100) (_ : RuleV C1 C2 C3 H v t) (_ : ShOk n t) (_ : 1 ≤ n) (_ : n ≤ 800) (_ : TrF t) (_ : countM t ≤ 60) (_ : ∀ l lv H', Same H H' → H l = none → H' l = some (.lst lv) → Paired (PcV C1 H H') lv (piecesM t) → Q (.ref l) H') : spPieces C1 C2 C3 d vs H Q E
theorem off_hide {B : List Addr} {H H' : Hp} (s : Same (hide B H) (hide B H')) : off B H H' := fun b o e n => by
  have := s b o ((hide_at n).trans e)
  rw [hide_at n] at this
  exact this
theorem PcV.hid {C tl : Addr} {H1 H2 : Hp} {o : HO} (h1 : H1 tl = some o) (h2 : H2 tl = some (.lst [])) {v : V} {p : PC} (hn : 1 ≤ p.2.ns.length) (h : PcV C H1 H2 v p) : PcV C H1 (hide [tl] H2) v p := by
  obtain ⟨t, rl, so, dx, la, rv, e, a1, a2, a3, a4, a5, a6⟩ := h
  have ne : ∀ {b : Addr} {u : HO}, H2 b = some u → u ≠ .lst [] → hide [tl] H2 b = some u := fun hb hu => by
    rw [hide_at (fun z => by rw [List.mem_singleton.mp z, h2] at hb; exact hu (Option.some.inj hb).symm)]
    exact hb
  refine ⟨t, rl, so, dx, la, rv, e, ne a1 (fun z => by cases z), a2, ?_, Paired.mapP a4 fun _ _ ⟨b, e, q⟩ => ⟨b, e, ne q (fun z => by cases z)⟩, ne a5 (fun z => by cases z), ne a6 (fun z => ?_)⟩
  · rw [hide_at (fun z => by rw [List.mem_singleton.mp z, h1] at a2; cases a2)]
    exact a3
  · cases e : p.2.ns with
    | nil => rw [e] at hn; cases hn
    | cons x t => rw [e] at z; cases z
theorem zeros_eq (ns : List Int) : (List.replicate ns.length (0 : Int)) = ns.map fun _ => 0 := by
  induction ns with
  | nil => rfl
  | cons x t ih => rw [List.length_cons, List.replicate_succ, ih]; rfl
theorem flat_snoc {α β : Type} (f : α → List β) {l : List α} {i : Nat} {x : α} (h : l[i]? = some x) : (l.take (i + 1)).flatMap f = (l.take i).flatMap f ++ f x := by
  rw [take_snoc h, List.flatMap_append, List.flatMap_singleton]
theorem steer_altL {C1 C2 C3 : Addr} {K : PySem.W.Frag} {d : Nat} {σ : St} {H : Hp} {Q : VK} {ta : TE} {tt : TA} {u : V} {t : RT} {pv : List V} {pts : List (Int × Int)} (h1 : ∀ R : V → Hp → Prop, R u H → ta σ H R) (h2 : ∀ R : List V → Hp → Prop, (∀ pa, H pa = none → R [.ref pa] (upd H pa (.lst pv))) → tt σ H R)
    (hu : RuleV C1 C2 C3 H u t) (dp : t.dep ≤ d) (TO : TrOk pts.length t) (hpt : PtV H pv pts) (PO : PtOk pts) (n3 : pts.length ≤ 3)
    (q : ∀ r H', Same H H' → H' r = some (.tup [.int (valM pts t).1, .int (valM pts t).2]) → Q (.ref r) H') :
    tMeth C1 "steering" (spSteer C1 C2 C3 K isStr d) [] E0 ta tt σ H Q ∨ tMeth C2 "steering" (spSteer C1 C2 C3 K isStp d) [] E0 ta tt σ H Q ∨ tMeth C3 "steering" (spSteer C1 C2 C3 K isPrt d) [] E0 ta tt σ H Q := by
  rcases rt_kinds t with hk | hk | hk
  · obtain ⟨o1, dx1, fs1, rfl, i1, l1⟩ := hu.insS hk
    exact .inl (h1 _ ⟨o1, dx1, fs1, rfl, i1, l1, h2 _ fun pa hpa => ⟨o1, pa, pv, pts, t, rfl, hk, dp, hu.same (same_new hpa _), TO, SqL.of upd_same, hpt.same (same_new hpa _), PO, n3, fun r H' s e => q r H' ((same_new hpa _).trans s) e⟩⟩)
  · obtain ⟨o1, dx1, fs1, rfl, i1, l1⟩ := hu.insT hk
    exact .inr (.inl (h1 _ ⟨o1, dx1, fs1, rfl, i1, l1, h2 _ fun pa hpa => ⟨o1, pa, pv, pts, t, rfl, hk, dp, hu.same (same_new hpa _), TO, SqL.of upd_same, hpt.same (same_new hpa _), PO, n3, fun r H' s e => q r H' ((same_new hpa _).trans s) e⟩⟩))
  · obtain ⟨o1, dx1, fs1, rfl, i1, l1⟩ := hu.insP hk
    exact .inr (.inr (h1 _ ⟨o1, dx1, fs1, rfl, i1, l1, h2 _ fun pa hpa => ⟨o1, pa, pv, pts, t, rfl, hk, dp, hu.same (same_new hpa _), TO, SqL.of upd_same, hpt.same (same_new hpa _), PO, n3, fun r H' s e => q r H' ((same_new hpa _).trans s) e⟩⟩))
inductive spLeafR (C1 C2 C3 : Addr) (vs : List V) (H : Hp) (Q : VK) (E : XK) : Prop
  | mk (c mm : Int) (_ : vs = [.int c, .int mm]) (_ : 1 ≤ mm) (_ : mm ≤ 3) (_ : ∀ (v : V) (t : RT) (H' : Hp), Same H H' → RuleV C1 C2 C3 H' v t → TrF t → ShOk mm.toNat t → isStr t = true → Q v H') : spLeafR C1 C2 C3 vs H Q E
inductive spRuleR (C1 C2 C3 : Addr) (K : PySem.W.Frag) (vs : List V) (H : Hp) (Q : VK) (E : XK) : Prop
  | mk (ca : Addr) (cs : List Int) (mm : Int) (_ : vs = [.ref ca, .int mm]) (_ : SqL K H ca (cs.map V.int)) (_ : 1 ≤ mm) (_ : mm ≤ 3) (_ : ∀ (v : V) (t : RT) (H' : Hp), Same H H' → RuleV C1 C2 C3 H' v t → TrF t → ShOk mm.toNat t → t.dep ≤ 6 → countM t ≤ 60 → Q v H') : spRuleR C1 C2 C3 K vs H Q E
inductive spHeld (K : PySem.W.Frag) (vs : List V) (H : Hp) (Q : VK) (E : XK) : Prop
  | mk (rl pa : Addr) (rv : List V) (rows : List (List Int)) (pv : List V) (pts : List (Int × Int)) (_ : vs = [.ref rl, .ref pa]) (_ : H rl = some (.lst rv)) (_ : WaysV H rv rows) (_ : (∀ r ∈ rows, RowOk r pts.length)) (_ : rows.length ≤ 900) (_ : SqL K H pa pv) (_ : PtV H pv pts) (_ : PtOk pts) (_ : ∀ (k : Int) (H' : Hp), Same H H' → (0 ≤ k ↔ ∀ r ∈ rows, hlR pts r) → (k = 1 → ∀ r ∈ rows, stR pts r) → Q (.int k) H') : spHeld K vs H Q E
inductive spTold (C : Addr) (K : PySem.W.Frag) (vs : List V) (H : Hp) (Q : VK) (E : XK) : Prop
  | mk (so dx la pa : Addr) (l : LF) (pv : List V) (pts : List (Int × Int)) (_ : vs = [.ref so, .ref pa]) (_ : H so = some (.ins C dx (strF (.ref la) l.a l.d))) (_ : H la = some (.lst (l.ns.map V.int))) (_ : RwOk l.ns pts.length) (_ : Bd 300 l.a) (_ : 0 < l.d) (_ : Bd 300 l.d) (_ : SqL K H pa pv) (_ : PtV H pv pts) (_ : PtOk pts) (_ : pts.length ≤ 3) (_ : ∀ r H', Same H H' → H' r = some (.tup [.int (tellM pts l).1, .int (tellM pts l).2]) → Q (.ref r) H') : spTold C K vs H Q E
inductive spPointR (vs : List V) (H : Hp) (Q : VK) (E : XK) : Prop
  | mk (c mm : Int) (ra : Addr) (rv : List V) (rows : List (List Int)) (_ : vs = [.int c, .int mm, .ref ra]) (_ : 1 ≤ mm) (_ : mm ≤ 3) (_ : H ra = some (.lst rv)) (_ : WaysV H rv rows) (_ : (∀ r ∈ rows, r.length = mm.toNat + 1 ∧ ∀ z ∈ r, Bd 300 z)) (_ : rows.length ≤ 900) (_ : ∀ (l : Addr) (pv : List V) (pts : List (Int × Int)) (H' : Hp), Same H H' → H l = none → H' l = some (.lst pv) → PtV H' pv pts → PtOk pts → pts.length = mm.toNat → Q (.ref l) H') : spPointR vs H Q E
end Sh
namespace Sh
open PySem L2
theorem Paired.mapM {α β : Type} {F G : α → β → Prop} : ∀ {xs : List α} {ys : List β}, Paired F xs ys → (∀ (i : Nat) a b, xs[i]? = some a → ys[i]? = some b → F a b → G a b) → Paired G xs ys
  | _, _, .nil, _ => .nil
  | _, _, .cons h t, f => .cons (f 0 _ _ rfl rfl h) (Paired.mapM t fun i a b ha hb z => f (i + 1) a b ha hb z)
end Sh

namespace K23
open PySem L2 Sh
noncomputable def top (i : Nat) : Stmt := PySem.Challenge.pw_steadyhand_k23_whole_pieces_cover.main.body.getD i (.Pass ⟨0, 0, 0, 0⟩)
structure Bl (mg : Str → Option Value) : Prop where
  isinstance_ : mg "isinstance" = none
  int_ : mg "int" = none
  bool_ : mg "bool" = none
  tuple_ : mg "tuple" = none
  len_ : mg "len" = none
  abs_ : mg "abs" = none
  list_ : mg "list" = none
  range_ : mg "range" = none
  zip_ : mg "zip" = none
  all_ : mg "all" = none
  MOST_PIECES_ : ∃ t, mg "MOST_PIECES" = some (.int 60 t)
structure AtStraight (K : PySem.W.Frag) (C : Addr) : Prop where
  n_numbers : NoAttr K C "numbers"
  n_add : NoAttr K C "add"
  n_divisor : NoAttr K C "divisor"
structure AtStopped (K : PySem.W.Frag) (C : Addr) : Prop where
  n_rule : NoAttr K C "rule"
  n_low : NoAttr K C "low"
  n_high : NoAttr K C "high"
structure AtParted (K : PySem.W.Frag) (C : Addr) : Prop where
  n_row : NoAttr K C "row"
  n_rule : NoAttr K C "rule"
  n_other : NoAttr K C "other"
section
variable {P : Program} {w : World} {K : PySem.W.Frag} {mg : Str → Option Value} {base : Heap}
noncomputable abbrev s_is_whole : Stmt := top 6
theorem sc_is_whole : FnScope ["thing"] ["thing"] (defScope s_is_whole) := ⟨rfl, rfl, rfl, by decide +kernel, rfl, by decide +kernel, by decide +kernel⟩
theorem ok_is_whole {k : Nat} {f : Addr} {fd : FuncData} {aStraight aStopped aParted : Addr} (TStraight : ClsF K mg "Straight" aStraight) (AStraight : AtStraight K aStraight) (TStopped : ClsF K mg "Stopped" aStopped) (AStopped : AtStopped K aStopped) (TParted : ClsF K mg "Parted" aParted) (AParted : AtParted K aParted) (Y : Kits K aStraight aStopped aParted) (F : Fun K "is_whole" "is_whole" s_is_whole f fd) (B : Bl mg) : FnOk P w K mg base CX0 (k + 1) f fd ["thing"] spIsWhole := by
  refine F.ok sc_is_whole (fun vs H Q E h => ?_) (fun cdv A outer s H vs Q E hr h => ?_)
  · obtain ⟨i, rfl, _⟩ := h
    rfl
  obtain ⟨i, rfl, q⟩ := h
  refine ⟨_, (pss_one (ps_ret (pe_and (pe_callB jinst rfl B.isinstance_ boot_isinstance_ (pa_cons (L2.pvj 0) (pa_cons (pe_bltn (v := .ty "int") (u := .type "int") rfl B.int_ boot_int_ rfl) pa_nil))) (pe_one (pe_not (pe_callB jinst rfl B.isinstance_ boot_isinstance_ (pa_cons (L2.pvj 0) (pa_cons (pe_bltn (v := .ty "bool") (u := .type "bool") rfl B.bool_ boot_bool_ rfl) pa_nil)))))))), ?_⟩
  try dsimp only [cxOf, Cx.nox, Cx.wish]
  refine ⟨_, rfl, _, _, _, _, rfl, .int _, kit_int_int _, _, rfl, iteT ?_⟩
  exact ⟨_, rfl, _, _, _, _, rfl, .int _, kit_int_bool _, _, rfl, q⟩
noncomputable abbrev s_common_divisor : Stmt := top 7
theorem sc_common_divisor : FnScope ["numbers", "common", "number", "rest", "left"] ["numbers"] (defScope s_common_divisor) := ⟨rfl, rfl, rfl, by decide +kernel, rfl, by decide +kernel, by decide +kernel⟩
theorem ok_common_divisor {k : Nat} {f : Addr} {fd : FuncData} {aStraight aStopped aParted : Addr} (TStraight : ClsF K mg "Straight" aStraight) (AStraight : AtStraight K aStraight) (TStopped : ClsF K mg "Stopped" aStopped) (AStopped : AtStopped K aStopped) (TParted : ClsF K mg "Parted" aParted) (AParted : AtParted K aParted) (Y : Kits K aStraight aStopped aParted) (F : Fun K "common_divisor" "common_divisor" s_common_divisor f fd) (B : Bl mg) : FnOk P w K mg base CX0 (k + 1) f fd ["numbers"] (spCommon K) := by
  refine F.ok sc_common_divisor (fun vs H Q E h => ?_) (fun cdv A outer s H vs Q E hr h => ?_)
  · obtain ⟨a, ns, rfl, _⟩ := h
    rfl
  obtain ⟨a, ns, rfl, hS, q⟩ := h
  refine ⟨_, (pss_cons (ps_set (i := 1) sc_common_divisor.nd rfl (Or.inl rfl) pe_int)
    (pss_cons (ps_for PassesOwn.never rfl (pi_tup (L2.pvj 0)) (pg_name (i := 2) sc_common_divisor.nd rfl (Or.inl rfl)) (pss_cons (ps_set (i := 3) sc_common_divisor.nd rfl (Or.inl rfl) (pe_callB call_abs rfl B.abs_ boot_abs_ (pa_cons (L2.pvj 2) pa_nil)))
      (pss_one (ps_while PassesOwn.never (pt_cmpR op_ne (L2.pvj 3) pe_int (nomark _)) (pss_cons (ps_set (i := 4) sc_common_divisor.nd rfl (Or.inl rfl) (pe_op (ji op_modN) (L2.pvj 1) (L2.pvj 3)))
        (pss_cons (ps_set (i := 1) sc_common_divisor.nd rfl (Or.inl rfl) (L2.pvj 3))
        (pss_one (ps_set (i := 3) sc_common_divisor.nd rfl (Or.inl rfl) (L2.pvj 4)))))))))
    (pss_one (ps_ret (L2.pvj 1))))), ?_⟩
  try dsimp only [cxOf, Cx.nox, Cx.wish]
  refine ⟨_, rfl, a, rfl, ⟨_, hS⟩, for_tup (K := K) (a := a) (xs := ns.map V.int) (fun i σ H2 => ∃ n r l, σ = [some (.ref a), some (.int (gcdAll (ns.take i))), n, r, l] ∧ H2 = H)
    ⟨none, none, none, rfl, rfl⟩ (fun i σ H2 _ ⟨_, _, _, _, e⟩ => e ▸ hS) ?_ ?_⟩
  · rintro i x σ H2 hi ⟨n, r, l, rfl, rfl⟩
    obtain ⟨z, hz, rfl⟩ : ∃ z, ns[i]? = some z ∧ x = V.int z := by
      rw [List.getElem?_map] at hi
      cases e : ns[i]? with
      | none => rw [e] at hi; cases hi
      | some z => rw [e] at hi; exact ⟨z, rfl, (Option.some.inj hi).symm⟩
    have hlt : i < ns.length := (List.getElem?_eq_some_iff.mp hz).1
    have ez : ns[i] = z := (List.getElem?_eq_some_iff.mp hz).2
    have tk : gcdAll (ns.take (i + 1)) = (Int.gcd (gcdAll (ns.take i)) z : Int) := by rw [List.take_succ_eq_append_getElem hlt, gcdAll_snoc, ez]
    refine ⟨_, rfl, z, rfl, ?_⟩
    refine while_by (fun σ H' => ∃ (c r : Int) (l : Option V), σ = [some (.ref a), some (.int c), some (.int z), some (.int r), l] ∧ H' = H2 ∧ 0 ≤ c ∧ 0 ≤ r ∧ Int.gcd c r = Int.gcd (gcdAll (ns.take i)) z)
      (fun σ _ => match σ with | [_, _, _, some (.int r), _] => r.toNat | _ => 0) ⟨_, _, l, rfl, rfl, gcdAll_nonneg _, (by split <;> omega), gcd_abs _ _⟩ ?_ ?_
    · rintro σ H' ⟨c, r, l, rfl, rfl, hc, hr0, hg⟩
      refine ⟨_, rfl, rfl, _, rfl, ?_⟩
      by_cases z0 : r = 0
      · subst z0
        refine iteNS rfl ?_
        rw [Int.gcd_zero_right] at hg
        have ec : c = gcdAll (ns.take (i + 1)) := by rw [tk]; omega
        exact ⟨_, _, _, by rw [ec], rfl⟩
      · have ne : ¬ (V.int r = V.int 0) := fun e => z0 (by injection e)
        refine iteB1 (ndec_no z0) ?_
        refine ⟨_, rfl, _, rfl, _, _, rfl, rfl, z0, _, rfl, _, rfl, ?_⟩
        have h1 := Int.fmod_nonneg_of_pos c (show 0 < r by omega)
        have h2 := Int.fmod_lt_of_pos c (show 0 < r by omega)
        refine ⟨⟨r, c.fmod r, _, rfl, rfl, hr0, h1, by rw [gcd_turn]; exact hg⟩, ?_⟩
        show (c.fmod r).toNat < r.toNat
        omega
    · rintro σ H' Q1 Q2 h ⟨v, e, sc, k, ek, q1⟩
      exact ⟨v, e, sc, k, ek, h _ _ q1⟩
  · rintro σ H2 ⟨n, r, l, rfl, rfl⟩
    refine ⟨_, rfl, ?_⟩
    rw [List.length_map, List.take_length]
    exact q
noncomputable abbrev s_fraction : Stmt := top 8
theorem sc_fraction : FnScope ["top", "bottom", "common"] ["top", "bottom"] (defScope s_fraction) := ⟨rfl, rfl, rfl, by decide +kernel, rfl, by decide +kernel, by decide +kernel⟩
theorem ok_fraction {k : Nat} {f : Addr} {fd : FuncData} {dv : Value} {aStraight aStopped aParted : Addr} (TStraight : ClsF K mg "Straight" aStraight) (AStraight : AtStraight K aStraight) (TStopped : ClsF K mg "Stopped" aStopped) (AStopped : AtStopped K aStopped) (TParted : ClsF K mg "Parted" aParted) (AParted : AtParted K aParted) (Y : Kits K aStraight aStopped aParted) (F : FunD K "fraction" "fraction" s_fraction f fd dv) (B : Bl mg) (c_is_whole : Fn P w K mg base "is_whole" ["thing"] k spIsWhole) (c_common_divisor : Fn P w K mg base "common_divisor" ["numbers"] k (spCommon K)) : FnOk P w K mg base CX0 (k + 1) f fd ["top", "bottom"] spFraction := by
  refine F.ok sc_fraction (fun vs H Q E h => ?_) (fun cdv A outer s H vs Q E hr h => ?_)
  · obtain ⟨t, b, rfl, _⟩ := h
    rfl
  obtain ⟨t, b, rfl, b0, bb, q⟩ := h
  refine ⟨_, (pss_cons (ps_if (PW.pt (pw_or (pt_not (pt_val (pe_callF c_is_whole hr rfl (pa_cons (L2.pvj 0) pa_nil)))) (pw_or1 (pt_not (pt_val (pe_callF c_is_whole hr rfl (pa_cons (L2.pvj 1) pa_nil))))))) (pss_one ps_never) pss_nil)
    (pss_cons (ps_if (pt_cmpR op_eq (L2.pvj 1) pe_int (nomark _)) (pss_one ps_never) pss_nil)
    (pss_cons (ps_set (i := 2) sc_fraction.nd rfl (Or.inl rfl) (pe_callF c_common_divisor hr rfl (pa_cons (pe_tup (pa_cons (L2.pvj 0) (pa_cons (L2.pvj 1) pa_nil))) pa_nil)))
    (pss_cons (ps_if (pt_cmpR (ji0 op_lt) (L2.pvj 1) pe_int (nomark _)) (pss_one (ps_set (i := 2) sc_fraction.nd rfl (Or.inl rfl) (pe_un un_neg (L2.pvj 2)))) pss_nil)
    (pss_one (ps_ret (pe_tup (pa_cons (pe_op (ji op_fdivW) (L2.pvj 0) (L2.pvj 2)) (pa_cons (pe_op (ji op_fdivW) (L2.pvj 1) (L2.pvj 2)) pa_nil))))))))), ?_⟩
  try dsimp only [cxOf, Cx.nox, Cx.wish]
  refine ⟨_, rfl, t, rfl, _, rfl, iteF ?_⟩
  refine ⟨_, rfl, b, rfl, _, rfl, iteF ?_⟩
  refine ⟨_, rfl, rfl, _, rfl, ?_⟩
  refine iteB0 (dec_no b0) ?_
  refine ⟨_, rfl, _, rfl, (by show 2 ≤ sizeLine; decide), fun p hp => ?_⟩
  refine ⟨p, [t, b], rfl, SqT.of upd_same, ?_⟩
  rw [gcdAll_two]
  have sm := same_new hp (HO.tup [.int t, .int b])
  have fin : ∀ c : Int, c = cm t b → ∀ D' : Hp, D' = upd H p (.tup [.int t, .int b]) → (t.fdiv c) = lowT t b ∧ b.fdiv c = lowB t b ∧ c ≠ 0 ∧ Bd 8000 c := fun c e _ _ => by
    subst e
    exact ⟨rfl, rfl, cm_ne b0, bd_cm bb b0⟩
  refine ⟨_, rfl, _, _, rfl, rfl, _, rfl, ?_⟩
  refine ite2 (fun hb => ?_) (fun hb => ?_)
  · have hb' : b < 0 := of_decide_eq_true hb
    refine ⟨_, rfl, _, rfl, ?_⟩
    have ec : -(Int.gcd t b : Int) = cm t b := by unfold cm; rw [if_pos hb']
    obtain ⟨e1, e2, e3, e4⟩ := fin _ ec _ rfl
    refine ⟨_, rfl, _, rfl, _, _, rfl, rfl, ⟨e3, e4⟩, _, rfl, _, rfl, _, _, rfl, rfl, ⟨e3, e4⟩, (by show 2 ≤ sizeLine; decide), fun r hr' => ?_⟩
    exact q r _ (sm.trans (same_new hr' _)) (upd_same.trans (by show some (HO.tup [V.int (t.fdiv _), V.int (b.fdiv _)]) = _; rw [e1, e2]))
  · have hb' : ¬ b < 0 := fun z => hb (decide_eq_true z)
    have ec : (Int.gcd t b : Int) = cm t b := by unfold cm; rw [if_neg hb']
    obtain ⟨e1, e2, e3, e4⟩ := fin _ ec _ rfl
    refine ⟨_, rfl, _, rfl, _, _, rfl, rfl, ⟨e3, e4⟩, _, rfl, _, rfl, _, _, rfl, rfl, ⟨e3, e4⟩, (by show 2 ≤ sizeLine; decide), fun r hr' => ?_⟩
    exact q r _ (sm.trans (same_new hr' _)) (upd_same.trans (by show some (HO.tup [V.int (t.fdiv _), V.int (b.fdiv _)]) = _; rw [e1, e2]))
noncomputable abbrev s_under : Stmt := top 9
theorem sc_under : FnScope ["one", "other"] ["one", "other"] (defScope s_under) := ⟨rfl, rfl, rfl, by decide +kernel, rfl, by decide +kernel, by decide +kernel⟩
theorem ok_under {k : Nat} {f : Addr} {fd : FuncData} {aStraight aStopped aParted : Addr} (TStraight : ClsF K mg "Straight" aStraight) (AStraight : AtStraight K aStraight) (TStopped : ClsF K mg "Stopped" aStopped) (AStopped : AtStopped K aStopped) (TParted : ClsF K mg "Parted" aParted) (AParted : AtParted K aParted) (Y : Kits K aStraight aStopped aParted) (F : Fun K "under" "under" s_under f fd) (B : Bl mg) : FnOk P w K mg base CX0 (k + 1) f fd ["one", "other"] spUnder := by
  refine F.ok sc_under (fun vs H Q E h => ?_) (fun cdv A outer s H vs Q E hr h => ?_)
  · obtain ⟨p, q, a, b, c, d, rfl, _⟩ := h
    rfl
  obtain ⟨p, q, a, b, c, d, rfl, T, qq⟩ := h
  refine ⟨_, (pss_one (ps_ret (pe_cmpR (ji0 op_lt) (pe_op (ji op_mulW) (pe_ix jix_tup (L2.pvj 0) pe_int (fun _ _ => rfl)) (pe_ix jix_tup (L2.pvj 1) pe_int (fun _ _ => rfl))) (pe_op (ji op_mulW) (pe_ix jix_tup (L2.pvj 1) pe_int (fun _ _ => rfl)) (pe_ix jix_tup (L2.pvj 0) pe_int (fun _ _ => rfl))) (nomark _)))), ?_⟩
  try dsimp only [cxOf, Cx.nox, Cx.wish]
  refine ⟨_, rfl, p, _, 0, _, rfl, rfl, SqT.of T.p, at0, _, rfl, q, _, 1, _, rfl, rfl, SqT.of T.q, at1, _, _, rfl, rfl, ⟨(T.ab).mono (by decide), (T.db).mono (by decide)⟩, ?_⟩
  refine ⟨_, rfl, q, _, 0, _, rfl, rfl, SqT.of T.q, at0, _, rfl, p, _, 1, _, rfl, rfl, SqT.of T.p, at1, _, _, rfl, rfl, ⟨(T.cb).mono (by decide), (T.bb).mono (by decide)⟩, _, _, rfl, rfl, ?_⟩
  exact qq
noncomputable abbrev s_is_numbers : Stmt := top 11
theorem sc_is_numbers : FnScope ["value", "count"] ["value", "count"] (defScope s_is_numbers) := ⟨rfl, rfl, rfl, by decide +kernel, rfl, by decide +kernel, by decide +kernel⟩
theorem ok_is_numbers {k : Nat} {f : Addr} {fd : FuncData} {aStraight aStopped aParted : Addr} (TStraight : ClsF K mg "Straight" aStraight) (AStraight : AtStraight K aStraight) (TStopped : ClsF K mg "Stopped" aStopped) (AStopped : AtStopped K aStopped) (TParted : ClsF K mg "Parted" aParted) (AParted : AtParted K aParted) (Y : Kits K aStraight aStopped aParted) (F : Fun K "is_numbers" "is_numbers" s_is_numbers f fd) (B : Bl mg) (c_is_whole : Fn P w K mg base "is_whole" ["thing"] k spIsWhole) : FnOk P w K mg base CX0 (k + 1) f fd ["value", "count"] spIsNumbers := by
  refine F.ok sc_is_numbers (fun vs H Q E h => ?_) (fun cdv A outer s H vs Q E hr h => ?_)
  · obtain ⟨a, ns, rfl, _⟩ := h
    rfl
  obtain ⟨a, ns, rfl, ha, few, q⟩ := h
  refine ⟨_, (pss_one (ps_ret (pe_and (pe_callB jinst rfl B.isinstance_ boot_isinstance_ (pa_cons (L2.pvj 0) (pa_cons (pe_bltn (v := .ty "list") (u := .type "list") rfl B.list_ boot_list_ rfl) pa_nil))) (pe_and (pe_cmpR op_eq (pe_callB jlen rfl B.len_ boot_len_ (pa_cons (L2.pvj 0) pa_nil)) (L2.pvj 1) (nomark _)) (pe_one (pe_callB (call_all rfl) rfl B.all_ boot_all_ (pa_cons (pe_comp (own := ["number"]) (caps := []) (blk_mk rfl) rfl (pi_list (L2.pvj 0)) (fun _ _ _ _ => pg_name (i := 0) (show (["number"] : List Str).Nodup by decide +kernel) rfl (Or.inl rfl)) (fun _ _ _ _ => (pe_callF c_is_whole hr rfl (pa_cons (L2.pvj 0) pa_nil)))) pa_nil))))))), ?_⟩
  try dsimp only [cxOf, Cx.nox, Cx.wish]
  refine ⟨_, rfl, _, _, _, _, rfl, .lst ha, kit_list_list K, _, rfl, iteT ?_⟩
  refine ⟨_, rfl, a, _, rfl, .inl (SqL.of ha), _, rfl, rfl, _, rfl, iteB1 (dec_yes (by rw [List.length_map])) ?_⟩
  refine ⟨_, rfl, a, rfl, ⟨_, SqL.of ha⟩, comp_list (K := K) (a := a) (xs := ns.map V.int) (fun i ys σ H' => ys = (List.replicate i true).map V.bl ∧ (∃ o, σ = [o]) ∧ H' = H)
    ⟨rfl, ⟨none, rfl⟩, rfl⟩ (fun i ys σ H' hi ⟨e1, _, e3⟩ => ⟨by rw [e3]; exact SqL.of ha, by rw [e1, List.length_map, List.length_replicate]; exact Nat.le_refl _⟩) (by rw [List.length_map]; exact Nat.le_of_lt (small1000 (by omega))) ?_ ?_⟩
  · rintro i x ys σ H' hi ⟨rfl, ⟨o, rfl⟩, rfl⟩
    obtain ⟨z, hz, rfl⟩ := ints_get hi
    refine ⟨_, rfl, z, rfl, ?_, ⟨_, rfl⟩, rfl⟩
    rw [List.replicate_succ', List.map_append]
    rfl
  rintro ys σ H' ⟨rfl, ⟨o, rfl⟩, rfl⟩ l hl
  refine ⟨l, List.replicate _ true, rfl, SqL.of upd_same, ?_⟩
  rw [all_true]
  exact q _ (same_new hl _)
noncomputable abbrev s_copied : Stmt := top 12
theorem sc_copied : FnScope ["value", "depth"] ["value", "depth"] (defScope s_copied) := ⟨rfl, rfl, rfl, by decide +kernel, rfl, by decide +kernel, by decide +kernel⟩
theorem ok_copied_0 {k : Nat} {f : Addr} {fd : FuncData} {dv : Value} {aStraight aStopped aParted : Addr} (TStraight : ClsF K mg "Straight" aStraight) (AStraight : AtStraight K aStraight) (TStopped : ClsF K mg "Stopped" aStopped) (AStopped : AtStopped K aStopped) (TParted : ClsF K mg "Parted" aParted) (AParted : AtParted K aParted) (Y : Kits K aStraight aStopped aParted) (F : FunD K "copied" "copied" s_copied f fd dv) (B : Bl mg) (c_copied : FnD P w K mg base "copied" ["value", "depth"] k spNone (.int 5)) : FnOk P w K mg base CX0 (k + 1) f fd ["value", "depth"] spC0 := by
  refine F.ok sc_copied (fun vs H Q E h => ?_) (fun cdv A outer s H vs Q E hr h => ?_)
  · obtain ⟨i, d, rfl, _⟩ := h
    rfl
  refine ⟨_, (pss_cons (ps_if (pt_cmpR op_eq (L2.pvj 1) pe_int (nomark _)) (pss_one (ps_ret (L2.pvj 0))) pss_nil)
    (pss_cons (ps_if (pt_val (pe_callB jinst rfl B.isinstance_ boot_isinstance_ (pa_cons (L2.pvj 0) (pa_cons (pe_bltn (v := .ty "list") (u := .type "list") rfl B.list_ boot_list_ rfl) pa_nil)))) (pss_one (ps_ret (pe_comp (own := ["part"]) (caps := [(1, "depth")]) (blk_cap (S := defScope s_copied) (N := ["value", "depth"]) rfl (by decide +kernel) rfl ⟨_, rfl⟩ rfl (by decide +kernel) (by decide +kernel)) rfl (pi_list (L2.pvj 0)) (fun _ _ _ _ => pg_name (i := 0) (show (["part", "depth"] : List Str).Nodup by decide +kernel) rfl (Or.inl rfl)) (fun _ _ _ _ => (pe_callF c_copied.fn hr rfl (pa_cons (L2.pvj 0) (pa_cons (pe_op (ji0 op_sub) (L2.pvj 1) pe_int) pa_nil))))))) pss_nil)
    (pss_cons (ps_if (pt_val (pe_callB jinst rfl B.isinstance_ boot_isinstance_ (pa_cons (L2.pvj 0) (pa_cons (pe_bltn (v := .ty "tuple") (u := .type "tuple") rfl B.tuple_ boot_tuple_ rfl) pa_nil)))) (pss_one (ps_ret (pe_callTy jtup rfl B.tuple_ boot_tuple_ (pa_cons (pe_comp (own := ["part"]) (caps := [(1, "depth")]) (blk_cap (S := defScope s_copied) (N := ["value", "depth"]) rfl (by decide +kernel) rfl ⟨_, rfl⟩ rfl (by decide +kernel) (by decide +kernel)) rfl (pi_tup (L2.pvj 0)) (fun _ _ _ _ => pg_name (i := 0) (show (["part", "depth"] : List Str).Nodup by decide +kernel) rfl (Or.inl rfl)) (fun _ _ _ _ => (pe_callF c_copied.fn hr rfl (pa_cons (L2.pvj 0) (pa_cons (pe_op (ji0 op_sub) (L2.pvj 1) pe_int) pa_nil))))) pa_nil)))) pss_nil)
    (pss_one (ps_ret (L2.pvj 0)))))), ?_⟩
  try dsimp only [cxOf, Cx.nox, Cx.wish]
  obtain ⟨i, d, rfl, q⟩ := h
  refine ⟨_, rfl, rfl, _, rfl, ?_⟩
  by_cases d0 : d = 0
  · exact iteB1 (dec_yes d0) ⟨_, rfl, q⟩
  refine iteB0 (dec_no d0) ?_
  refine ⟨_, rfl, _, _, _, _, rfl, .int i, kd_lst K .int, _, rfl, iteF ?_⟩
  refine ⟨_, rfl, _, _, _, _, rfl, .int i, kd_tup K .int, _, rfl, iteF ?_⟩
  exact ⟨_, rfl, q⟩
theorem ok_copied_1 {k : Nat} {f : Addr} {fd : FuncData} {dv : Value} {aStraight aStopped aParted : Addr} (TStraight : ClsF K mg "Straight" aStraight) (AStraight : AtStraight K aStraight) (TStopped : ClsF K mg "Stopped" aStopped) (AStopped : AtStopped K aStopped) (TParted : ClsF K mg "Parted" aParted) (AParted : AtParted K aParted) (Y : Kits K aStraight aStopped aParted) (F : FunD K "copied" "copied" s_copied f fd dv) (B : Bl mg) (c_copied : FnD P w K mg base "copied" ["value", "depth"] k spC0 (.int 5)) : FnOk P w K mg base CX0 (k + 1) f fd ["value", "depth"] spC1 := by
  refine F.ok sc_copied (fun vs H Q E h => ?_) (fun cdv A outer s H vs Q E hr h => ?_)
  · obtain ⟨i, d, rfl, _⟩ | ⟨a, ns, d, rfl, _⟩ | ⟨a, ns, d, rfl, _⟩ := h
    all_goals rfl
  refine ⟨_, (pss_cons (ps_if (pt_cmpR op_eq (L2.pvj 1) pe_int (nomark _)) (pss_one (ps_ret (L2.pvj 0))) pss_nil)
    (pss_cons (ps_if (pt_val (pe_callB jinst rfl B.isinstance_ boot_isinstance_ (pa_cons (L2.pvj 0) (pa_cons (pe_bltn (v := .ty "list") (u := .type "list") rfl B.list_ boot_list_ rfl) pa_nil)))) (pss_one (ps_ret (pe_comp (own := ["part"]) (caps := [(1, "depth")]) (blk_cap (S := defScope s_copied) (N := ["value", "depth"]) rfl (by decide +kernel) rfl ⟨_, rfl⟩ rfl (by decide +kernel) (by decide +kernel)) rfl (pi_list (L2.pvj 0)) (fun _ _ _ _ => pg_name (i := 0) (show (["part", "depth"] : List Str).Nodup by decide +kernel) rfl (Or.inl rfl)) (fun _ _ _ _ => (pe_callF c_copied.fn hr rfl (pa_cons (L2.pvj 0) (pa_cons (pe_op (ji0 op_sub) (L2.pvj 1) pe_int) pa_nil))))))) pss_nil)
    (pss_cons (ps_if (pt_val (pe_callB jinst rfl B.isinstance_ boot_isinstance_ (pa_cons (L2.pvj 0) (pa_cons (pe_bltn (v := .ty "tuple") (u := .type "tuple") rfl B.tuple_ boot_tuple_ rfl) pa_nil)))) (pss_one (ps_ret (pe_callTy jtup rfl B.tuple_ boot_tuple_ (pa_cons (pe_comp (own := ["part"]) (caps := [(1, "depth")]) (blk_cap (S := defScope s_copied) (N := ["value", "depth"]) rfl (by decide +kernel) rfl ⟨_, rfl⟩ rfl (by decide +kernel) (by decide +kernel)) rfl (pi_tup (L2.pvj 0)) (fun _ _ _ _ => pg_name (i := 0) (show (["part", "depth"] : List Str).Nodup by decide +kernel) rfl (Or.inl rfl)) (fun _ _ _ _ => (pe_callF c_copied.fn hr rfl (pa_cons (L2.pvj 0) (pa_cons (pe_op (ji0 op_sub) (L2.pvj 1) pe_int) pa_nil))))) pa_nil)))) pss_nil)
    (pss_one (ps_ret (L2.pvj 0)))))), ?_⟩
  try dsimp only [cxOf, Cx.nox, Cx.wish]
  rcases h with h | h | h
  · obtain ⟨i, d, rfl, q⟩ := h
    refine ⟨_, rfl, rfl, _, rfl, ?_⟩
    by_cases d0 : d = 0
    · exact iteB1 (dec_yes d0) ⟨_, rfl, q⟩
    refine iteB0 (dec_no d0) ?_
    refine ⟨_, rfl, _, _, _, _, rfl, .int i, kd_lst K .int, _, rfl, iteF ?_⟩
    refine ⟨_, rfl, _, _, _, _, rfl, .int i, kd_tup K .int, _, rfl, iteF ?_⟩
    exact ⟨_, rfl, q⟩
  · obtain ⟨a, ns, d, rfl, d1, ha, few, q⟩ := h
    refine ⟨_, rfl, rfl, _, rfl, iteB0 (dec_no (by omega)) ?_⟩
    refine ⟨_, rfl, _, _, _, _, rfl, .lst ha, kit_list_list K, _, rfl, iteT ?_⟩
    refine ⟨_, rfl, a, rfl, ⟨_, SqL.of ha⟩, comp_list (K := K) (a := a) (xs := ns.map V.int) (fun i ys σ H' => ys = (ns.take i).map V.int ∧ (∃ o, σ = [o, some (.int d)]) ∧ H' = H)
      ⟨rfl, ⟨none, rfl⟩, rfl⟩ (fun i ys σ H' hi ⟨e1, _, e3⟩ => ⟨by rw [e3]; exact SqL.of ha, by rw [e1, List.length_map, List.length_take]; exact Nat.min_le_left _ _⟩) (by rw [List.length_map]; exact Nat.le_of_lt (small1000 (by omega))) ?_ ?_⟩
    · rintro i x ys σ H' hi ⟨rfl, ⟨o, rfl⟩, rfl⟩
      obtain ⟨z, hz, rfl⟩ := ints_get hi
      refine ⟨_, rfl, _, rfl, _, _, rfl, rfl, ⟨z, d - 1, rfl, ?_, ⟨_, rfl⟩, rfl⟩⟩
      rw [take_snoc hz, List.map_append]
      rfl
    rintro ys σ H' ⟨rfl, ⟨o, rfl⟩, rfl⟩ l hl
    refine q l _ (same_new hl _) hl (upd_same.trans ?_)
    rw [List.length_map, List.take_length]
  · obtain ⟨a, ns, d, rfl, d1, ha, few, q⟩ := h
    refine ⟨_, rfl, rfl, _, rfl, iteB0 (dec_no (by omega)) ?_⟩
    refine ⟨_, rfl, _, _, _, _, rfl, .tup ha, kd_lst K .tup, _, rfl, iteF ?_⟩
    refine ⟨_, rfl, _, _, _, _, rfl, .tup ha, kit_tuple_tuple K, _, rfl, iteT ?_⟩
    refine ⟨_, rfl, a, rfl, ⟨_, SqT.of ha⟩, comp_tup (K := K) (a := a) (xs := ns.map V.int) (fun i ys σ H' => ys = (ns.take i).map V.int ∧ (∃ o, σ = [o, some (.int d)]) ∧ H' = H)
      ⟨rfl, ⟨none, rfl⟩, rfl⟩ (fun i ys σ H' hi ⟨e1, _, e3⟩ => ⟨by rw [e3]; exact SqT.of ha, by rw [e1, List.length_map, List.length_take]; exact Nat.min_le_left _ _⟩) (by rw [List.length_map]; exact Nat.le_of_lt (small1000 (by omega))) ?_ ?_⟩
    · rintro i x ys σ H' hi ⟨rfl, ⟨o, rfl⟩, rfl⟩
      obtain ⟨z, hz, rfl⟩ := ints_get hi
      refine ⟨_, rfl, _, rfl, _, _, rfl, rfl, ⟨z, d - 1, rfl, ?_, ⟨_, rfl⟩, rfl⟩⟩
      rw [take_snoc hz, List.map_append]
      rfl
    rintro ys σ H' ⟨rfl, ⟨o, rfl⟩, rfl⟩ l hl
    refine ⟨l, _, rfl, .inl ⟨SqL.of upd_same, fun t ht => ?_⟩⟩
    refine q t _ ((same_new hl _).trans (same_new ht _)) ((same_new hl _).free ht) (upd_same.trans ?_)
    rw [List.length_map, List.take_length]
theorem ok_copied_2 {k : Nat} {f : Addr} {fd : FuncData} {dv : Value} {aStraight aStopped aParted : Addr} (TStraight : ClsF K mg "Straight" aStraight) (AStraight : AtStraight K aStraight) (TStopped : ClsF K mg "Stopped" aStopped) (AStopped : AtStopped K aStopped) (TParted : ClsF K mg "Parted" aParted) (AParted : AtParted K aParted) (Y : Kits K aStraight aStopped aParted) (F : FunD K "copied" "copied" s_copied f fd dv) (B : Bl mg) (c_copied : FnD P w K mg base "copied" ["value", "depth"] k spC1 (.int 5)) : FnOk P w K mg base CX0 (k + 1) f fd ["value", "depth"] spC2 := by
  refine F.ok sc_copied (fun vs H Q E h => ?_) (fun cdv A outer s H vs Q E hr h => ?_)
  · obtain (⟨i, d, rfl, _⟩ | ⟨a, ns, d, rfl, _⟩ | ⟨a, ns, d, rfl, _⟩) | ⟨a, rv, rows, d, rfl, _⟩ | ⟨a, tv, tab, d, rfl, _⟩ := h
    all_goals rfl
  refine ⟨_, (pss_cons (ps_if (pt_cmpR op_eq (L2.pvj 1) pe_int (nomark _)) (pss_one (ps_ret (L2.pvj 0))) pss_nil)
    (pss_cons (ps_if (pt_val (pe_callB jinst rfl B.isinstance_ boot_isinstance_ (pa_cons (L2.pvj 0) (pa_cons (pe_bltn (v := .ty "list") (u := .type "list") rfl B.list_ boot_list_ rfl) pa_nil)))) (pss_one (ps_ret (pe_comp (own := ["part"]) (caps := [(1, "depth")]) (blk_cap (S := defScope s_copied) (N := ["value", "depth"]) rfl (by decide +kernel) rfl ⟨_, rfl⟩ rfl (by decide +kernel) (by decide +kernel)) rfl (pi_list (L2.pvj 0)) (fun _ _ _ _ => pg_name (i := 0) (show (["part", "depth"] : List Str).Nodup by decide +kernel) rfl (Or.inl rfl)) (fun _ _ _ _ => (pe_callF c_copied.fn hr rfl (pa_cons (L2.pvj 0) (pa_cons (pe_op (ji0 op_sub) (L2.pvj 1) pe_int) pa_nil))))))) pss_nil)
    (pss_cons (ps_if (pt_val (pe_callB jinst rfl B.isinstance_ boot_isinstance_ (pa_cons (L2.pvj 0) (pa_cons (pe_bltn (v := .ty "tuple") (u := .type "tuple") rfl B.tuple_ boot_tuple_ rfl) pa_nil)))) (pss_one (ps_ret (pe_callTy jtup rfl B.tuple_ boot_tuple_ (pa_cons (pe_comp (own := ["part"]) (caps := [(1, "depth")]) (blk_cap (S := defScope s_copied) (N := ["value", "depth"]) rfl (by decide +kernel) rfl ⟨_, rfl⟩ rfl (by decide +kernel) (by decide +kernel)) rfl (pi_tup (L2.pvj 0)) (fun _ _ _ _ => pg_name (i := 0) (show (["part", "depth"] : List Str).Nodup by decide +kernel) rfl (Or.inl rfl)) (fun _ _ _ _ => (pe_callF c_copied.fn hr rfl (pa_cons (L2.pvj 0) (pa_cons (pe_op (ji0 op_sub) (L2.pvj 1) pe_int) pa_nil))))) pa_nil)))) pss_nil)
    (pss_one (ps_ret (L2.pvj 0)))))), ?_⟩
  try dsimp only [cxOf, Cx.nox, Cx.wish]
  rcases h with (h | h | h) | h | h
  · obtain ⟨i, d, rfl, q⟩ := h
    refine ⟨_, rfl, rfl, _, rfl, ?_⟩
    by_cases d0 : d = 0
    · exact iteB1 (dec_yes d0) ⟨_, rfl, q⟩
    refine iteB0 (dec_no d0) ?_
    refine ⟨_, rfl, _, _, _, _, rfl, .int i, kd_lst K .int, _, rfl, iteF ?_⟩
    refine ⟨_, rfl, _, _, _, _, rfl, .int i, kd_tup K .int, _, rfl, iteF ?_⟩
    exact ⟨_, rfl, q⟩
  · obtain ⟨a, ns, d, rfl, d1, ha, few, q⟩ := h
    refine ⟨_, rfl, rfl, _, rfl, iteB0 (dec_no (by omega)) ?_⟩
    refine ⟨_, rfl, _, _, _, _, rfl, .lst ha, kit_list_list K, _, rfl, iteT ?_⟩
    refine ⟨_, rfl, a, rfl, ⟨_, SqL.of ha⟩, comp_list (K := K) (a := a) (xs := ns.map V.int) (fun i ys σ H' => ys = (ns.take i).map V.int ∧ (∃ o, σ = [o, some (.int d)]) ∧ H' = H)
      ⟨rfl, ⟨none, rfl⟩, rfl⟩ (fun i ys σ H' hi ⟨e1, _, e3⟩ => ⟨by rw [e3]; exact SqL.of ha, by rw [e1, List.length_map, List.length_take]; exact Nat.min_le_left _ _⟩) (by rw [List.length_map]; exact Nat.le_of_lt (small1000 (by omega))) ?_ ?_⟩
    · rintro i x ys σ H' hi ⟨rfl, ⟨o, rfl⟩, rfl⟩
      obtain ⟨z, hz, rfl⟩ := ints_get hi
      refine ⟨_, rfl, _, rfl, _, _, rfl, rfl, .inl ⟨z, d - 1, rfl, ?_, ⟨_, rfl⟩, rfl⟩⟩
      rw [take_snoc hz, List.map_append]
      rfl
    rintro ys σ H' ⟨rfl, ⟨o, rfl⟩, rfl⟩ l hl
    refine q l _ (same_new hl _) hl (upd_same.trans ?_)
    rw [List.length_map, List.take_length]
  · obtain ⟨a, ns, d, rfl, d1, ha, few, q⟩ := h
    refine ⟨_, rfl, rfl, _, rfl, iteB0 (dec_no (by omega)) ?_⟩
    refine ⟨_, rfl, _, _, _, _, rfl, .tup ha, kd_lst K .tup, _, rfl, iteF ?_⟩
    refine ⟨_, rfl, _, _, _, _, rfl, .tup ha, kit_tuple_tuple K, _, rfl, iteT ?_⟩
    refine ⟨_, rfl, a, rfl, ⟨_, SqT.of ha⟩, comp_tup (K := K) (a := a) (xs := ns.map V.int) (fun i ys σ H' => ys = (ns.take i).map V.int ∧ (∃ o, σ = [o, some (.int d)]) ∧ H' = H)
      ⟨rfl, ⟨none, rfl⟩, rfl⟩ (fun i ys σ H' hi ⟨e1, _, e3⟩ => ⟨by rw [e3]; exact SqT.of ha, by rw [e1, List.length_map, List.length_take]; exact Nat.min_le_left _ _⟩) (by rw [List.length_map]; exact Nat.le_of_lt (small1000 (by omega))) ?_ ?_⟩
    · rintro i x ys σ H' hi ⟨rfl, ⟨o, rfl⟩, rfl⟩
      obtain ⟨z, hz, rfl⟩ := ints_get hi
      refine ⟨_, rfl, _, rfl, _, _, rfl, rfl, .inl ⟨z, d - 1, rfl, ?_, ⟨_, rfl⟩, rfl⟩⟩
      rw [take_snoc hz, List.map_append]
      rfl
    rintro ys σ H' ⟨rfl, ⟨o, rfl⟩, rfl⟩ l hl
    refine ⟨l, _, rfl, .inl ⟨SqL.of upd_same, fun t ht => ?_⟩⟩
    refine q t _ ((same_new hl _).trans (same_new ht _)) ((same_new hl _).free ht) (upd_same.trans ?_)
    rw [List.length_map, List.take_length]
  · obtain ⟨a, rv, rows, d, rfl, d1, ha, hrv, few, rl, q⟩ := h
    have lr : rv.length = rows.length := Paired.length hrv
    refine ⟨_, rfl, rfl, _, rfl, iteB0 (dec_no (by omega)) ?_⟩
    refine ⟨_, rfl, _, _, _, _, rfl, .lst ha, kit_list_list K, _, rfl, iteT ?_⟩
    refine ⟨_, rfl, a, rfl, ⟨_, SqL.of ha⟩, comp_list (K := K) (a := a) (xs := rv) (fun i ys σ H' => WaysV H' ys (rows.take i) ∧ (∃ o, σ = [o, some (.int d)]) ∧ Same H H')
      ⟨.nil, ⟨none, rfl⟩, Same.refl _⟩ (fun i ys σ H' hi ⟨e1, _, sm⟩ => ⟨SqL.of (sm _ _ ha), by have := Paired.length e1; rw [List.length_take] at this; omega⟩) (Nat.le_of_lt (small1000 (by omega))) ?_ ?_⟩
    · rintro i x ys σ H' hi ⟨hys, ⟨o, rfl⟩, sm⟩
      obtain ⟨r, hr', b, rfl, eb⟩ := paired_get hrv hi
      refine ⟨_, rfl, _, rfl, _, _, rfl, rfl, .inr (.inr ⟨b, r, d - 1, rfl, (by omega), sm _ _ eb, rl r (List.mem_of_getElem? hr'), fun t H2 s2 _ et => ?_⟩)⟩
      refine ⟨?_, ⟨_, rfl⟩, sm.trans s2⟩
      rw [take_snoc hr']
      exact paired_snoc (R := fun v (k : List Int) => Tp H2 v (k.map V.int)) ⟨t, rfl, et⟩ (WaysV.same s2 hys)
    rintro ys σ H' ⟨hys, ⟨o, rfl⟩, sm⟩ l hl
    rw [lr, List.take_length] at hys
    exact q l ys _ (sm.trans (same_new hl _)) (sm.free hl) upd_same (WaysV.same (same_new hl _) hys)
  · obtain ⟨a, tv, tab, d, rfl, d1, ha, htv, few, rl, q⟩ := h
    have lr : tv.length = tab.length := Paired.length htv
    refine ⟨_, rfl, rfl, _, rfl, iteB0 (dec_no (by omega)) ?_⟩
    refine ⟨_, rfl, _, _, _, _, rfl, .lst ha, kit_list_list K, _, rfl, iteT ?_⟩
    refine ⟨_, rfl, a, rfl, ⟨_, SqL.of ha⟩, comp_list (K := K) (a := a) (xs := tv) (fun i ys σ H' => Paired (NewL H H') ys (tab.take i) ∧ (∃ o, σ = [o, some (.int d)]) ∧ Same H H')
      ⟨.nil, ⟨none, rfl⟩, Same.refl _⟩ (fun i ys σ H' hi ⟨e1, _, sm⟩ => ⟨SqL.of (sm _ _ ha), by have := Paired.length e1; rw [List.length_take] at this; omega⟩) (Nat.le_of_lt (small1000 (by omega))) ?_ ?_⟩
    · rintro i x ys σ H' hi ⟨hys, ⟨o, rfl⟩, sm⟩
      obtain ⟨r, hr', b, rfl, eb⟩ := paired_get htv hi
      refine ⟨_, rfl, _, rfl, _, _, rfl, rfl, .inr (.inl ⟨b, r, d - 1, rfl, (by omega), sm _ _ eb, rl r (List.mem_of_getElem? hr'), fun t H2 s2 tn et => ?_⟩)⟩
      refine ⟨?_, ⟨_, rfl⟩, sm.trans s2⟩
      rw [take_snoc hr']
      exact paired_snoc (R := NewL H H2) ⟨t, rfl, sm.free tn, et⟩ (Paired.mapP hys fun _ _ ⟨c, e, n, k⟩ => ⟨c, e, n, s2 _ _ k⟩)
    rintro ys σ H' ⟨hys, ⟨o, rfl⟩, sm⟩ l hl
    rw [lr, List.take_length] at hys
    have z := same_new hl (HO.lst ys)
    exact q l ys _ (sm.trans z) (sm.free hl) upd_same (Paired.mapP hys fun _ _ ⟨c, e, n, k⟩ => ⟨c, e, n, z _ _ k⟩)
noncomputable abbrev s_raw_sum : Stmt := top 15
theorem sc_raw_sum : FnScope ["numbers", "point", "top", "bottom", "number", "part"] ["numbers", "point"] (defScope s_raw_sum) := ⟨rfl, rfl, rfl, by decide +kernel, rfl, by decide +kernel, by decide +kernel⟩
theorem ok_raw_sum {k : Nat} {f : Addr} {fd : FuncData} {aStraight aStopped aParted : Addr} (TStraight : ClsF K mg "Straight" aStraight) (AStraight : AtStraight K aStraight) (TStopped : ClsF K mg "Stopped" aStopped) (AStopped : AtStopped K aStopped) (TParted : ClsF K mg "Parted" aParted) (AParted : AtParted K aParted) (Y : Kits K aStraight aStopped aParted) (F : Fun K "raw_sum" "raw_sum" s_raw_sum f fd) (B : Bl mg) : FnOk P w K mg base CX0 (k + 1) f fd ["numbers", "point"] (spRawE K) := by
  refine F.ok sc_raw_sum (fun vs H Q E h => ?_) (fun cdv A outer s H vs Q E hr h => ?_)
  · obtain ⟨na, pa, ws, pv, pts, rfl, _⟩ := h
    rfl
  obtain ⟨na, pa, ws, pv, pts, rfl, hna, hpa, hpt, PO, WO, q⟩ := h
  refine ⟨_, (pss_cons (ps_set (i := 2) sc_raw_sum.nd rfl (Or.inl rfl) pe_int)
    (pss_cons (ps_set (i := 3) sc_raw_sum.nd rfl (Or.inl rfl) pe_int)
    (pss_cons (ps_for PassesOwn.never rfl (pi_zipS rfl B.zip_ (pa_cons (L2.pvj 0) (pa_cons (L2.pvj 1) pa_nil))) (pg_tup rfl (pgs_cons (pg_name (i := 4) sc_raw_sum.nd rfl (Or.inl rfl)) (pgs_cons (pg_name (i := 5) sc_raw_sum.nd rfl (Or.inl rfl)) pgs_nil))) (pss_cons (ps_set (i := 2) sc_raw_sum.nd rfl (Or.inl rfl) (pe_op (ji0 op_add) (pe_op (ji op_mulW) (L2.pvj 2) (pe_ix jix_tup (L2.pvj 5) pe_int (fun _ _ => rfl))) (pe_op (ji op_mulW) (pe_op (ji op_mulW) (L2.pvj 4) (pe_ix jix_tup (L2.pvj 5) pe_int (fun _ _ => rfl))) (L2.pvj 3))))
      (pss_one (ps_set (i := 3) sc_raw_sum.nd rfl (Or.inl rfl) (pe_op (ji op_mulW) (L2.pvj 3) (pe_ix jix_tup (L2.pvj 5) pe_int (fun _ _ => rfl)))))))
    (pss_one (ps_ret (pe_tup (pa_cons (L2.pvj 2) (pa_cons (L2.pvj 3) pa_nil)))))))), ?_⟩
  try dsimp only [cxOf, Cx.nox, Cx.wish]
  have lp : pv.length = pts.length := Paired.length hpt
  have hlen : (ws.map V.int).length ≤ pv.length := by rw [List.length_map, WO.len, lp]; exact Nat.le_refl _
  refine ⟨_, rfl, _, rfl, na, pa, rfl, for_zipE (xs := ws.map V.int) (ys := pv) hna hpa
    (fun i σ H2 => ∃ n1 p1, σ = [some (.ref na), some (.ref pa), some (.int (((ws.zip pts).take i).foldl alStep (0, 1)).1), some (.int (((ws.zip pts).take i).foldl alStep (0, 1)).2), n1, p1] ∧ Same H H2)
    ⟨none, none, rfl, Same.refl _⟩ (fun i σ H2 _ ⟨_, _, _, sm⟩ => sm) hlen ?_ ?_⟩
  · rintro i x y T σ H2 hx hy hT ⟨n1, p1, rfl, sm⟩
    obtain ⟨wv, hw, rfl⟩ := ints_get hx
    obtain ⟨pr, hpr, r, rfl, er⟩ := paired_get hpt hy
    have hz : (ws.zip pts)[i]? = some (wv, pr) := by rw [List.getElem?_zip_eq_some]; exact ⟨hw, hpr⟩
    have hzm := List.mem_of_getElem? hz
    obtain ⟨z1, z2, z3, z4⟩ := zip_ok PO WO _ hzm
    have hil : i < pts.length := (List.getElem?_eq_some_iff.mp hpr).1
    obtain ⟨b1, b2⟩ := bd_al i ((ws.zip pts).take i) (by rw [List.length_take, zip_len WO]; omega) fun q hq => (zip_ok PO WO q (List.mem_of_mem_take hq)).2
    have n7 := PO.n7
    have s2 := sm.trans (same_new hT (HO.tup [V.int wv, V.ref r]))
    have er2 := s2 _ _ er
    have tk : ((ws.zip pts).take (i + 1)).foldl alStep (0, 1) = alStep (((ws.zip pts).take i).foldl alStep (0, 1)) (wv, pr) := by rw [take_snoc hz, List.foldl_append]; rfl
    refine ⟨T, _, rfl, SqT.of upd_same, rfl, _, _, rfl, _, _, rfl, rfl, ?_⟩
    refine ⟨_, rfl, _, rfl, r, _, 1, _, rfl, rfl, SqT.of er2, at1, _, _, rfl, rfl, ⟨b1.mono (by omega), z4.mono (by decide)⟩, ?_⟩
    refine ⟨_, rfl, _, rfl, r, _, 0, _, rfl, rfl, SqT.of er2, at0, _, _, rfl, rfl, ⟨z2.mono (by decide), z3.mono (by decide)⟩, _, rfl, _, _, rfl, rfl, ⟨(z2.mul z3).mono (by decide), b2.mono (by omega)⟩, _, _, rfl, rfl, ?_⟩
    refine ⟨_, rfl, _, rfl, r, _, 1, _, rfl, rfl, SqT.of er2, at1, _, _, rfl, rfl, ⟨b2.mono (by omega), z4.mono (by decide)⟩, ?_⟩
    refine ⟨some (.int wv), some (.ref r), ?_, s2⟩
    rw [tk]
    rfl
  · rintro σ H2 ⟨n1, p1, rfl, sm⟩
    have tk : (ws.zip pts).take (ws.map V.int).length = ws.zip pts := List.take_of_length_le (by rw [zip_len WO, List.length_map, WO.len]; exact Nat.le_refl _)
    rw [tk]
    refine ⟨_, rfl, _, rfl, (by show 2 ≤ sizeLine; decide), fun r hr' => ?_⟩
    exact q r _ (sm.trans (same_new hr' _)) upd_same
noncomputable abbrev s_divided_sum : Stmt := top 16
theorem sc_divided_sum : FnScope ["numbers", "point", "add", "divisor", "total"] ["numbers", "point", "add", "divisor"] (defScope s_divided_sum) := ⟨rfl, rfl, rfl, by decide +kernel, rfl, by decide +kernel, by decide +kernel⟩
theorem ok_divided_sum {k : Nat} {f : Addr} {fd : FuncData} {aStraight aStopped aParted : Addr} (TStraight : ClsF K mg "Straight" aStraight) (AStraight : AtStraight K aStraight) (TStopped : ClsF K mg "Stopped" aStopped) (AStopped : AtStopped K aStopped) (TParted : ClsF K mg "Parted" aParted) (AParted : AtParted K aParted) (Y : Kits K aStraight aStopped aParted) (F : Fun K "divided_sum" "divided_sum" s_divided_sum f fd) (B : Bl mg) (c_raw_sum : Fn P w K mg base "raw_sum" ["numbers", "point"] k (spRawE K)) (c_fraction : FnD P w K mg base "fraction" ["top", "bottom"] k spFraction (.int 1)) : FnOk P w K mg base CX0 (k + 1) f fd ["numbers", "point", "add", "divisor"] (spDivided K) := by
  refine F.ok sc_divided_sum (fun vs H Q E h => ?_) (fun cdv A outer s H vs Q E hr h => ?_)
  · obtain ⟨na, pa, ws, pv, pts, a, d, rfl, _⟩ := h
    rfl
  obtain ⟨na, pa, ws, pv, pts, a, d, rfl, hna, hpa, hpt, PO, n3, WO, ba, d0, bd, q⟩ := h
  refine ⟨_, (pss_cons (ps_set (i := 4) sc_divided_sum.nd rfl (Or.inl rfl) (pe_callF c_raw_sum hr rfl (pa_cons (L2.pvj 0) (pa_cons (L2.pvj 1) pa_nil))))
    (pss_one (ps_ret (pe_callF c_fraction.fn hr rfl (pa_cons (pe_op (ji0 op_add) (pe_ix jix_tup (L2.pvj 4) pe_int (fun _ _ => rfl)) (pe_op (ji op_mulW) (L2.pvj 2) (pe_ix jix_tup (L2.pvj 4) pe_int (fun _ _ => rfl)))) (pa_cons (pe_op (ji op_mulW) (pe_ix jix_tup (L2.pvj 4) pe_int (fun _ _ => rfl)) (L2.pvj 3)) pa_nil)))))), ?_⟩
  try dsimp only [cxOf, Cx.nox, Cx.wish]
  obtain ⟨b1, b2⟩ := al_bd3 PO n3 WO
  have p0 := al_pos PO WO
  have pq := Int.mul_pos p0 d0
  refine ⟨_, rfl, _, rfl, na, pa, ws, pv, pts, rfl, hna, hpa, hpt, PO, WO, fun r1 H1 s1 e1 => ?_⟩
  refine ⟨_, rfl, r1, _, 0, _, rfl, rfl, SqT.of e1, at0, _, rfl, _, rfl, r1, _, 1, _, rfl, rfl, SqT.of e1, at1, _, _, rfl, rfl, ⟨ba.mono (by decide), b2.mono (by decide)⟩, _, _, rfl, rfl, _, rfl, r1, _, 1, _, rfl, rfl, SqT.of e1, at1, _, rfl, _, _, rfl, rfl, ⟨b2.mono (by decide), bd.mono (by decide)⟩, _, _, rfl, (by omega), (b2.mul bd).mono (by decide), fun r H2 s2 e2 => ?_⟩
  exact q r H2 (s1.trans s2) e2
noncomputable abbrev s_holds : Stmt := top 17
theorem sc_holds : FnScope ["row", "point", "total"] ["row", "point"] (defScope s_holds) := ⟨rfl, rfl, rfl, by decide +kernel, rfl, by decide +kernel, by decide +kernel⟩
theorem ok_holds {k : Nat} {f : Addr} {fd : FuncData} {aStraight aStopped aParted : Addr} (TStraight : ClsF K mg "Straight" aStraight) (AStraight : AtStraight K aStraight) (TStopped : ClsF K mg "Stopped" aStopped) (AStopped : AtStopped K aStopped) (TParted : ClsF K mg "Parted" aParted) (AParted : AtParted K aParted) (Y : Kits K aStraight aStopped aParted) (F : Fun K "holds" "holds" s_holds f fd) (B : Bl mg) (c_raw_sum : Fn P w K mg base "raw_sum" ["numbers", "point"] k (spRawE K)) : FnOk P w K mg base CX0 (k + 1) f fd ["row", "point"] (spHolds K) := by
  refine F.ok sc_holds (fun vs H Q E h => ?_) (fun cdv A outer s H vs Q E hr h => ?_)
  · obtain ⟨ra, pa, ws, b, pv, pts, rfl, _⟩ := h
    rfl
  obtain ⟨ra, pa, ws, b, pv, pts, rfl, hra, hpa, hpt, PO, WO, bb, q⟩ := h
  refine ⟨_, (pss_cons (ps_set (i := 2) sc_holds.nd rfl (Or.inl rfl) (pe_callF c_raw_sum hr rfl (pa_cons (pe_slice jsl_tup (L2.pvj 0) po_none (po_some (pe_un un_neg pe_int))) (pa_cons (L2.pvj 1) pa_nil))))
    (pss_one (ps_ret (pe_cmpR (ji0 op_le) (pe_ix jix_tup (L2.pvj 2) pe_int (fun _ _ => rfl)) (pe_op (ji op_mulW) (pe_ix jix_tup (L2.pvj 0) (pe_un un_neg pe_int) (fun _ _ => rfl)) (pe_ix jix_tup (L2.pvj 2) pe_int (fun _ _ => rfl))) (nomark _))))), ?_⟩
  try dsimp only [cxOf, Cx.nox, Cx.wish]
  refine ⟨_, rfl, _, rfl, _, rfl, ra, _, rfl, SqT.of hra, cut_last_no _ _, fun p hp => ?_⟩
  have ec : cutV (rowV ws b) none (some (-1)) = ws.map V.int := cut_last _ _
  have s1 := same_new hp (HO.tup (cutV (rowV ws b) none (some (-1))))
  refine ⟨_, rfl, p, pa, ws, pv, pts, rfl, .inl (SqT.of (upd_same.trans (by rw [ec]))), s1.seq hpa, hpt.same s1, PO, WO, fun r1 H1 s2 e1 => ?_⟩
  have b2 := (al_bd PO WO).2
  refine ⟨_, rfl, r1, _, 0, _, rfl, rfl, SqT.of e1, at0, _, rfl, _, rfl, ra, _, _, _, rfl, rfl, SqT.of (s2 _ _ (s1 _ _ hra)), atI_last _ _, _, rfl, r1, _, 1, _, rfl, rfl, SqT.of e1, at1, _, _, rfl, rfl, ⟨bb.mono (by decide), b2.mono (by decide)⟩, _, _, rfl, rfl, ?_⟩
  exact q H1 (s1.trans s2)
noncomputable abbrev s_is_row : Stmt := top 14
theorem sc_is_row : FnScope ["value", "many"] ["value", "many"] (defScope s_is_row) := ⟨rfl, rfl, rfl, by decide +kernel, rfl, by decide +kernel, by decide +kernel⟩
theorem ok_is_row {k : Nat} {f : Addr} {fd : FuncData} {aStraight aStopped aParted : Addr} (TStraight : ClsF K mg "Straight" aStraight) (AStraight : AtStraight K aStraight) (TStopped : ClsF K mg "Stopped" aStopped) (AStopped : AtStopped K aStopped) (TParted : ClsF K mg "Parted" aParted) (AParted : AtParted K aParted) (Y : Kits K aStraight aStopped aParted) (F : Fun K "is_row" "is_row" s_is_row f fd) (B : Bl mg) (c_is_whole : Fn P w K mg base "is_whole" ["thing"] k spIsWhole) : FnOk P w K mg base CX0 (k + 1) f fd ["value", "many"] spIsRow := by
  refine F.ok sc_is_row (fun vs H Q E h => ?_) (fun cdv A outer s H vs Q E hr h => ?_)
  · obtain ⟨a, ns, n, rfl, _⟩ := h
    rfl
  obtain ⟨a, ns, n, rfl, ha, ln, few, q⟩ := h
  refine ⟨_, (pss_one (ps_ret (pe_and (pe_callB jinst rfl B.isinstance_ boot_isinstance_ (pa_cons (L2.pvj 0) (pa_cons (pe_bltn (v := .ty "tuple") (u := .type "tuple") rfl B.tuple_ boot_tuple_ rfl) pa_nil))) (pe_and (pe_cmpR op_eq (pe_callB jlen rfl B.len_ boot_len_ (pa_cons (L2.pvj 0) pa_nil)) (pe_op (ji0 op_add) (L2.pvj 1) pe_int) (nomark _)) (pe_one (pe_callB (call_all rfl) rfl B.all_ boot_all_ (pa_cons (pe_comp (own := ["number"]) (caps := []) (blk_mk rfl) rfl (pi_tup (L2.pvj 0)) (fun _ _ _ _ => pg_name (i := 0) (show (["number"] : List Str).Nodup by decide +kernel) rfl (Or.inl rfl)) (fun _ _ _ _ => (pe_callF c_is_whole hr rfl (pa_cons (L2.pvj 0) pa_nil)))) pa_nil))))))), ?_⟩
  try dsimp only [cxOf, Cx.nox, Cx.wish]
  refine ⟨_, rfl, _, _, _, _, rfl, .tup ha, kit_tuple_tuple K, _, rfl, iteT ?_⟩
  refine ⟨_, rfl, a, _, rfl, .inr (SqT.of ha), _, rfl, _, _, rfl, rfl, rfl, _, rfl, iteB1 (dec_yes (by rw [List.length_map, ln]; omega)) ?_⟩
  refine ⟨_, rfl, a, rfl, ⟨_, SqT.of ha⟩, comp_tup (K := K) (a := a) (xs := ns.map V.int) (fun i ys σ H' => ys = (List.replicate i true).map V.bl ∧ (∃ o, σ = [o]) ∧ H' = H)
    ⟨rfl, ⟨none, rfl⟩, rfl⟩ (fun i ys σ H' hi ⟨e1, _, e3⟩ => ⟨by rw [e3]; exact SqT.of ha, by rw [e1, List.length_map, List.length_replicate]; exact Nat.le_refl _⟩) (by rw [List.length_map]; exact Nat.le_of_lt (small1000 (by omega))) ?_ ?_⟩
  · rintro i x ys σ H' hi ⟨rfl, ⟨o, rfl⟩, rfl⟩
    obtain ⟨z, hz, rfl⟩ := ints_get hi
    refine ⟨_, rfl, z, rfl, ?_, ⟨_, rfl⟩, rfl⟩
    rw [List.replicate_succ', List.map_append]
    rfl
  rintro ys σ H' ⟨rfl, ⟨o, rfl⟩, rfl⟩ l hl
  refine ⟨l, List.replicate _ true, rfl, SqL.of upd_same, ?_⟩
  rw [all_true]
  exact q _ (same_new hl _)
noncomputable abbrev s_Straight___init__ : Stmt := inClass (top 22) 0
theorem sc_Straight___init__ : FnScope ["self", "numbers", "add", "divisor"] ["self", "numbers", "add", "divisor"] (defScope s_Straight___init__) := ⟨rfl, rfl, rfl, by decide +kernel, rfl, by decide +kernel, by decide +kernel⟩
theorem ok_Straight___init__ {k : Nat} {f : Addr} {fd : FuncData} {dv : Value} {aStraight aStopped aParted : Addr} (TStraight : ClsF K mg "Straight" aStraight) (AStraight : AtStraight K aStraight) (TStopped : ClsF K mg "Stopped" aStopped) (AStopped : AtStopped K aStopped) (TParted : ClsF K mg "Parted" aParted) (AParted : AtParted K aParted) (Y : Kits K aStraight aStopped aParted) (F : FunD K "__init__" "Straight.__init__" s_Straight___init__ f fd dv) (B : Bl mg) (c_copied : FnD P w K mg base "copied" ["value", "depth"] k spC2 (.int 5)) : FnOk P w K mg base CX0 (k + 1) f fd ["self", "numbers", "add", "divisor"] (spStraightInit aStraight) := by
  refine F.ok sc_Straight___init__ (fun vs H Q E h => ?_) (fun cdv A outer s H vs Q E hr h => ?_)
  · obtain ⟨o, dx, la, ns, a, d, rfl, _⟩ := h
    rfl
  obtain ⟨o, dx, la, ns, a, d, rfl, ho, hla, few, q⟩ := h
  refine ⟨_, (pss_cons (ps_fld (L2.pvj 0) (pe_callF1 c_copied hr rfl (pa_cons (L2.pvj 1) pa_nil)) rfl)
    (pss_cons (ps_fld (L2.pvj 0) (L2.pvj 2) rfl)
    (pss_one (ps_fld (L2.pvj 0) (L2.pvj 3) rfl)))), ?_⟩
  try dsimp only [cxOf, Cx.nox, Cx.wish]
  refine ⟨_, rfl, .inl (.inr (.inl ⟨la, ns, 5, rfl, (by decide), hla, few, fun l H1 s1 fl el => ?_⟩))⟩
  have ho1 := s1 _ _ ho
  refine ⟨_, rfl, o, aStraight, dx, _, rfl, ho1, TStraight.cl, AStraight.n_numbers, (by show 0 < 1000; decide), ?_⟩
  have o1 := upd_same (H := H1) (a := o) (o := HO.ins aStraight dx (putF "numbers" (.ref l) []))
  have T1 : SameB o H1 (upd H1 o (HO.ins aStraight dx (putF "numbers" (.ref l) []))) := sameB_upd o H1 _
  obtain ⟨J1, hJ1⟩ : ∃ J, J = upd H1 o (HO.ins aStraight dx (putF "numbers" (.ref l) [])) := ⟨_, rfl⟩
  rw [← hJ1] at o1 T1 ⊢
  refine ⟨_, rfl, _, rfl, o, aStraight, dx, _, rfl, o1, TStraight.cl, AStraight.n_add, (by show 1 < 1000; decide), ?_⟩
  have o2 := upd_same (H := J1) (a := o) (o := HO.ins aStraight dx (putF "add" (.int a) (putF "numbers" (.ref l) [])))
  have T2 : SameB o J1 (upd J1 o (HO.ins aStraight dx (putF "add" (.int a) (putF "numbers" (.ref l) [])))) := sameB_upd o J1 _
  obtain ⟨J2, hJ2⟩ : ∃ J, J = upd J1 o (HO.ins aStraight dx (putF "add" (.int a) (putF "numbers" (.ref l) []))) := ⟨_, rfl⟩
  rw [← hJ2] at o2 T2 ⊢
  refine ⟨_, rfl, _, rfl, o, aStraight, dx, _, rfl, o2, TStraight.cl, AStraight.n_divisor, (by show 2 < 1000; decide), ?_⟩
  have o3 := upd_same (H := J2) (a := o) (o := HO.ins aStraight dx (putF "divisor" (.int d) (putF "add" (.int a) (putF "numbers" (.ref l) []))))
  have T3 : SameB o J2 (upd J2 o (HO.ins aStraight dx (putF "divisor" (.int d) (putF "add" (.int a) (putF "numbers" (.ref l) []))))) := sameB_upd o J2 _
  obtain ⟨J3, hJ3⟩ : ∃ J, J = upd J2 o (HO.ins aStraight dx (putF "divisor" (.int d) (putF "add" (.int a) (putF "numbers" (.ref l) [])))) := ⟨_, rfl⟩
  rw [← hJ3] at o3 T3 ⊢
  have T13 : SameB o H1 J3 := T1.trans (T2.trans T3)
  exact q l J3 ((Same.but s1).trans T13) fl (o3.trans (by rw [str_put])) (keepB ho1 T13 el (fun z => by cases z))
noncomputable abbrev s_Stopped___init__ : Stmt := inClass (top 23) 0
theorem sc_Stopped___init__ : FnScope ["self", "rule", "low", "high"] ["self", "rule", "low", "high"] (defScope s_Stopped___init__) := ⟨rfl, rfl, rfl, by decide +kernel, rfl, by decide +kernel, by decide +kernel⟩
theorem ok_Stopped___init__ {k : Nat} {f : Addr} {fd : FuncData} {aStraight aStopped aParted : Addr} (TStraight : ClsF K mg "Straight" aStraight) (AStraight : AtStraight K aStraight) (TStopped : ClsF K mg "Stopped" aStopped) (AStopped : AtStopped K aStopped) (TParted : ClsF K mg "Parted" aParted) (AParted : AtParted K aParted) (Y : Kits K aStraight aStopped aParted) (F : Fun K "__init__" "Stopped.__init__" s_Stopped___init__ f fd) (B : Bl mg) : FnOk P w K mg base CX0 (k + 1) f fd ["self", "rule", "low", "high"] (spStoppedInit aStopped) := by
  refine F.ok sc_Stopped___init__ (fun vs H Q E h => ?_) (fun cdv A outer s H vs Q E hr h => ?_)
  · obtain ⟨o, dx, u, lo, hi, rfl, _⟩ := h
    rfl
  obtain ⟨o, dx, u, lo, hi, rfl, ho, q⟩ := h
  refine ⟨_, (pss_cons (ps_fld (L2.pvj 0) (L2.pvj 1) rfl)
    (pss_cons (ps_fld (L2.pvj 0) (L2.pvj 2) rfl)
    (pss_one (ps_fld (L2.pvj 0) (L2.pvj 3) rfl)))), ?_⟩
  try dsimp only [cxOf, Cx.nox, Cx.wish]
  obtain ⟨H1, hH1⟩ : ∃ H1, H1 = H := ⟨_, rfl⟩
  rw [← hH1] at ho q ⊢
  have ho1 := ho
  refine ⟨_, rfl, _, rfl, o, aStopped, dx, _, rfl, ho1, TStopped.cl, AStopped.n_rule, (by show 0 < 1000; decide), ?_⟩
  have o1 := upd_same (H := H1) (a := o) (o := HO.ins aStopped dx (putF "rule" u []))
  have T1 : SameB o H1 (upd H1 o (HO.ins aStopped dx (putF "rule" u []))) := sameB_upd o H1 _
  obtain ⟨J1, hJ1⟩ : ∃ J, J = upd H1 o (HO.ins aStopped dx (putF "rule" u [])) := ⟨_, rfl⟩
  rw [← hJ1] at o1 T1 ⊢
  refine ⟨_, rfl, _, rfl, o, aStopped, dx, _, rfl, o1, TStopped.cl, AStopped.n_low, (by show 1 < 1000; decide), ?_⟩
  have o2 := upd_same (H := J1) (a := o) (o := HO.ins aStopped dx (putF "low" (.int lo) (putF "rule" u [])))
  have T2 : SameB o J1 (upd J1 o (HO.ins aStopped dx (putF "low" (.int lo) (putF "rule" u [])))) := sameB_upd o J1 _
  obtain ⟨J2, hJ2⟩ : ∃ J, J = upd J1 o (HO.ins aStopped dx (putF "low" (.int lo) (putF "rule" u []))) := ⟨_, rfl⟩
  rw [← hJ2] at o2 T2 ⊢
  refine ⟨_, rfl, _, rfl, o, aStopped, dx, _, rfl, o2, TStopped.cl, AStopped.n_high, (by show 2 < 1000; decide), ?_⟩
  have o3 := upd_same (H := J2) (a := o) (o := HO.ins aStopped dx (putF "high" (.int hi) (putF "low" (.int lo) (putF "rule" u []))))
  have T3 : SameB o J2 (upd J2 o (HO.ins aStopped dx (putF "high" (.int hi) (putF "low" (.int lo) (putF "rule" u []))))) := sameB_upd o J2 _
  obtain ⟨J3, hJ3⟩ : ∃ J, J = upd J2 o (HO.ins aStopped dx (putF "high" (.int hi) (putF "low" (.int lo) (putF "rule" u [])))) := ⟨_, rfl⟩
  rw [← hJ3] at o3 T3 ⊢
  have T13 : SameB o H1 J3 := T1.trans (T2.trans T3)
  exact q J3 T13 (o3.trans (by rw [stp_put]))
noncomputable abbrev s_Parted___init__ : Stmt := inClass (top 24) 0
theorem sc_Parted___init__ : FnScope ["self", "row", "rule", "other"] ["self", "row", "rule", "other"] (defScope s_Parted___init__) := ⟨rfl, rfl, rfl, by decide +kernel, rfl, by decide +kernel, by decide +kernel⟩
theorem ok_Parted___init__ {k : Nat} {f : Addr} {fd : FuncData} {aStraight aStopped aParted : Addr} (TStraight : ClsF K mg "Straight" aStraight) (AStraight : AtStraight K aStraight) (TStopped : ClsF K mg "Stopped" aStopped) (AStopped : AtStopped K aStopped) (TParted : ClsF K mg "Parted" aParted) (AParted : AtParted K aParted) (Y : Kits K aStraight aStopped aParted) (F : Fun K "__init__" "Parted.__init__" s_Parted___init__ f fd) (B : Bl mg) (c_copied : FnD P w K mg base "copied" ["value", "depth"] k spC2 (.int 5)) : FnOk P w K mg base CX0 (k + 1) f fd ["self", "row", "rule", "other"] (spPartedInit aParted) := by
  refine F.ok sc_Parted___init__ (fun vs H Q E h => ?_) (fun cdv A outer s H vs Q E hr h => ?_)
  · obtain ⟨o, dx, ra, r, u, w, rfl, _⟩ := h
    rfl
  obtain ⟨o, dx, ra, r, u, w, rfl, ho, hra, few, q⟩ := h
  refine ⟨_, (pss_cons (ps_fld (L2.pvj 0) (pe_callF1 c_copied hr rfl (pa_cons (L2.pvj 1) pa_nil)) rfl)
    (pss_cons (ps_fld (L2.pvj 0) (L2.pvj 2) rfl)
    (pss_one (ps_fld (L2.pvj 0) (L2.pvj 3) rfl)))), ?_⟩
  try dsimp only [cxOf, Cx.nox, Cx.wish]
  refine ⟨_, rfl, .inl (.inr (.inr ⟨ra, r, 5, rfl, (by decide), hra, few, fun l H1 s1 fl el => ?_⟩))⟩
  have ho1 := s1 _ _ ho
  refine ⟨_, rfl, o, aParted, dx, _, rfl, ho1, TParted.cl, AParted.n_row, (by show 0 < 1000; decide), ?_⟩
  have o1 := upd_same (H := H1) (a := o) (o := HO.ins aParted dx (putF "row" (.ref l) []))
  have T1 : SameB o H1 (upd H1 o (HO.ins aParted dx (putF "row" (.ref l) []))) := sameB_upd o H1 _
  obtain ⟨J1, hJ1⟩ : ∃ J, J = upd H1 o (HO.ins aParted dx (putF "row" (.ref l) [])) := ⟨_, rfl⟩
  rw [← hJ1] at o1 T1 ⊢
  refine ⟨_, rfl, _, rfl, o, aParted, dx, _, rfl, o1, TParted.cl, AParted.n_rule, (by show 1 < 1000; decide), ?_⟩
  have o2 := upd_same (H := J1) (a := o) (o := HO.ins aParted dx (putF "rule" u (putF "row" (.ref l) [])))
  have T2 : SameB o J1 (upd J1 o (HO.ins aParted dx (putF "rule" u (putF "row" (.ref l) [])))) := sameB_upd o J1 _
  obtain ⟨J2, hJ2⟩ : ∃ J, J = upd J1 o (HO.ins aParted dx (putF "rule" u (putF "row" (.ref l) []))) := ⟨_, rfl⟩
  rw [← hJ2] at o2 T2 ⊢
  refine ⟨_, rfl, _, rfl, o, aParted, dx, _, rfl, o2, TParted.cl, AParted.n_other, (by show 2 < 1000; decide), ?_⟩
  have o3 := upd_same (H := J2) (a := o) (o := HO.ins aParted dx (putF "other" w (putF "rule" u (putF "row" (.ref l) []))))
  have T3 : SameB o J2 (upd J2 o (HO.ins aParted dx (putF "other" w (putF "rule" u (putF "row" (.ref l) []))))) := sameB_upd o J2 _
  obtain ⟨J3, hJ3⟩ : ∃ J, J = upd J2 o (HO.ins aParted dx (putF "other" w (putF "rule" u (putF "row" (.ref l) [])))) := ⟨_, rfl⟩
  rw [← hJ3] at o3 T3 ⊢
  have T13 : SameB o H1 J3 := T1.trans (T2.trans T3)
  exact q l J3 ((Same.but s1).trans T13) fl (o3.trans (by rw [prt_put])) (keepB ho1 T13 el (fun z => by cases z))
noncomputable abbrev s_Straight_steering : Stmt := inClass (top 22) 1
theorem sc_Straight_steering : FnScope ["self", "point"] ["self", "point"] (defScope s_Straight_steering) := ⟨rfl, rfl, rfl, by decide +kernel, rfl, by decide +kernel, by decide +kernel⟩
theorem ok_Straight_steering {k : Nat} {f : Addr} {fd : FuncData} {d : Nat} {aStraight aStopped aParted : Addr} (TStraight : ClsF K mg "Straight" aStraight) (AStraight : AtStraight K aStraight) (TStopped : ClsF K mg "Stopped" aStopped) (AStopped : AtStopped K aStopped) (TParted : ClsF K mg "Parted" aParted) (AParted : AtParted K aParted) (Y : Kits K aStraight aStopped aParted) (F : Fun K "steering" "Straight.steering" s_Straight_steering f fd) (B : Bl mg) (c_divided_sum : Fn P w K mg base "divided_sum" ["numbers", "point", "add", "divisor"] k (spDivided K)) : FnOk P w K mg base CX0 (k + 1) f fd ["self", "point"] (spSteer aStraight aStopped aParted K isStr d) := by
  refine F.ok sc_Straight_steering (fun vs H Q E h => ?_) (fun cdv A outer s H vs Q E hr h => ?_)
  · obtain ⟨o, pa, pv, pts, t, rfl, _⟩ := h
    rfl
  obtain ⟨o, pa, pv, pts, t, rfl, kd, dp, hR, TO, hpa, hpt, PO, n3, q⟩ := h
  obtain ⟨ns, a, dd, rfl⟩ := isStr_ex kd
  obtain ⟨_, dx, la, e0, ins, ela⟩ := hR
  cases e0
  refine ⟨_, (pss_one (ps_ret (pe_callF c_divided_sum hr rfl (pa_cons (pe_fld (L2.pvj 0) rfl) (pa_cons (L2.pvj 1) (pa_cons (pe_fld (L2.pvj 0) rfl) (pa_cons (pe_fld (L2.pvj 0) rfl) pa_nil))))))), ?_⟩
  try dsimp only [cxOf, Cx.nox, Cx.wish]
  refine ⟨_, rfl, o, aStraight, dx, _, _, rfl, ins, TStraight.cl, AStraight.n_numbers, rfl, _, rfl, _, rfl, o, aStraight, dx, _, _, rfl, ins, TStraight.cl, AStraight.n_add, rfl, _, rfl, o, aStraight, dx, _, _, rfl, ins, TStraight.cl, AStraight.n_divisor, rfl, la, pa, ns, pv, pts, a, dd, rfl, .inr (SqL.of ela), hpa, hpt, PO, n3, ⟨TO.1, fun w hw => (TO.2.1 w hw).mono (by decide)⟩, TO.2.2.1.mono (by decide), TO.2.2.2.1, TO.2.2.2.2.mono (by decide), fun r H' s e => q r H' s e⟩
noncomputable abbrev s_Stopped_steering : Stmt := inClass (top 23) 1
theorem sc_Stopped_steering : FnScope ["self", "point", "value"] ["self", "point"] (defScope s_Stopped_steering) := ⟨rfl, rfl, rfl, by decide +kernel, rfl, by decide +kernel, by decide +kernel⟩
theorem ok_Stopped_steering {k : Nat} {f : Addr} {fd : FuncData} {d : Nat} {aStraight aStopped aParted : Addr} (TStraight : ClsF K mg "Straight" aStraight) (AStraight : AtStraight K aStraight) (TStopped : ClsF K mg "Stopped" aStopped) (AStopped : AtStopped K aStopped) (TParted : ClsF K mg "Parted" aParted) (AParted : AtParted K aParted) (Y : Kits K aStraight aStopped aParted) (F : Fun K "steering" "Stopped.steering" s_Stopped_steering f fd) (B : Bl mg) (c_Straight_steering : FnM P w K mg base aStraight "steering" ["self", "point"] k (spSteer aStraight aStopped aParted K isStr d)) (c_Stopped_steering : FnM P w K mg base aStopped "steering" ["self", "point"] k (spSteer aStraight aStopped aParted K isStp d)) (c_Parted_steering : FnM P w K mg base aParted "steering" ["self", "point"] k (spSteer aStraight aStopped aParted K isPrt d)) (c_under : Fn P w K mg base "under" ["one", "other"] k spUnder) (c_fraction : FnD P w K mg base "fraction" ["top", "bottom"] k spFraction (.int 1)) : FnOk P w K mg base CX0 (k + 1) f fd ["self", "point"] (spSteer aStraight aStopped aParted K isStp (d + 1)) := by
  refine F.ok sc_Stopped_steering (fun vs H Q E h => ?_) (fun cdv A outer s H vs Q E hr h => ?_)
  · obtain ⟨o, pa, pv, pts, t, rfl, _⟩ := h
    rfl
  obtain ⟨o, pa, pv, pts, t, rfl, kd, dp, hR, TO, hpa, hpt, PO, n3, q⟩ := h
  obtain ⟨t1, lo, hi, rfl⟩ := isStp_ex kd
  obtain ⟨_, dx, u, e0, ins, hu⟩ := hR
  cases e0
  obtain ⟨v0, bv1, bv2⟩ := val_ok PO n3 TO.1
  have blo := TO.2.1
  have bhi := TO.2.2
  have b1 : Bd 9000 (1 : Int) := (Bd.lit (n := 1)).mono (by decide)
  have b8 : Bd 8000 (1 : Int) := (Bd.lit (n := 1)).mono (by decide)
  have hrm := hr
  obtain ⟨t2, T2, R2⟩ : ∃ t2, PSs (cxOf CX0 P w K mg base ["self", "point", "value"] "Stopped.steering" (defScope s_Stopped_steering) f cdv A outer s H E).nox ((defBody s_Stopped_steering).drop 1) t2 ∧ ∀ r H', Same H H' → H' r = some (.tup [.int (valM pts t1).1, .int (valM pts t1).2]) → t2 { nx := fun _ H' => Q .non H', rt := Q } [some (.ref o), some (.ref pa), some (.ref r)] H' := by
    refine ⟨_, (pss_cons (ps_if (pt_val (pe_callF c_under hr rfl (pa_cons (L2.pvj 2) (pa_cons (pe_callF1 c_fraction hr rfl (pa_cons (pe_fld (L2.pvj 0) rfl) pa_nil)) pa_nil)))) (pss_one (ps_ret (pe_callF1 c_fraction hr rfl (pa_cons (pe_fld (L2.pvj 0) rfl) pa_nil)))) pss_nil)
    (pss_cons (ps_if (pt_val (pe_callF c_under hr rfl (pa_cons (pe_callF1 c_fraction hr rfl (pa_cons (pe_fld (L2.pvj 0) rfl) pa_nil)) (pa_cons (L2.pvj 2) pa_nil)))) (pss_one (ps_ret (pe_callF1 c_fraction hr rfl (pa_cons (pe_fld (L2.pvj 0) rfl) pa_nil)))) pss_nil)
    (pss_one (ps_ret (L2.pvj 2))))), ?_⟩
    try dsimp only [cxOf, Cx.nox, Cx.wish]
    intro r H0 s0 er
    refine ⟨_, rfl, _, rfl, o, aStopped, dx, _, _, rfl, (s0 _ _ ins), TStopped.cl, AStopped.n_low, rfl, lo, 1, rfl, (by decide), b8, fun f1 H1 s1 e1 => ?_⟩
    have e1 := frac_one e1
    refine ⟨r, f1, _, _, _, _, rfl, ⟨s1 _ _ er, e1, v0, by decide, bv1.mono (by decide), bv2.mono (by decide), blo.mono (by decide), b1⟩, _, rfl, ?_⟩
    rw [Int.mul_one]
    refine ite2 (fun c => ?_) (fun c => ?_)
    · refine ⟨_, rfl, o, aStopped, dx, _, _, rfl, (s1 _ _ (s0 _ _ ins)), TStopped.cl, AStopped.n_low, rfl, lo, 1, rfl, (by decide), b8, fun f2 H2 s2 e2 => ?_⟩
      exact q f2 H2 (s0.trans (s1.trans s2)) ((frac_one e2).trans (by rw [val_lo (of_decide_eq_true c)]))
    have c' : ¬ (valM pts t1).1 < lo * (valM pts t1).2 := fun z => c (decide_eq_true z)
    refine ⟨_, rfl, o, aStopped, dx, _, _, rfl, (s1 _ _ (s0 _ _ ins)), TStopped.cl, AStopped.n_high, rfl, hi, 1, rfl, (by decide), b8, fun f3 H3 s3 e3 => ?_⟩
    have e3 := frac_one e3
    refine ⟨_, rfl, f3, r, _, _, _, _, rfl, ⟨e3, s3 _ _ (s1 _ _ er), by decide, v0, bhi.mono (by decide), b1, bv1.mono (by decide), bv2.mono (by decide)⟩, _, rfl, ?_⟩
    rw [Int.mul_one]
    refine ite2 (fun k => ?_) (fun k => ?_)
    · refine ⟨_, rfl, o, aStopped, dx, _, _, rfl, (s3 _ _ (s1 _ _ (s0 _ _ ins))), TStopped.cl, AStopped.n_high, rfl, hi, 1, rfl, (by decide), b8, fun f2 H2 s2 e2 => ?_⟩
      exact q f2 H2 (s0.trans (s1.trans (s3.trans s2))) ((frac_one e2).trans (by rw [val_hi c' (of_decide_eq_true k)]))
    · refine ⟨_, rfl, q r H3 (s0.trans (s1.trans s3)) ((s3 _ _ (s1 _ _ er)).trans (by rw [val_in c' (fun z => k (decide_eq_true z))]))⟩
  refine ⟨_, (pss_cons (ps_set (i := 2) sc_Stopped_steering.nd rfl (Or.inl rfl) (pe_alt (pe_methF c_Straight_steering TStraight hrm (pe_fld (L2.pvj 0) rfl) (pa_cons (L2.pvj 1) pa_nil)) (pe_alt (pe_methF c_Stopped_steering TStopped hrm (pe_fld (L2.pvj 0) rfl) (pa_cons (L2.pvj 1) pa_nil)) (pe_methF c_Parted_steering TParted hrm (pe_fld (L2.pvj 0) rfl) (pa_cons (L2.pvj 1) pa_nil)))))
    T2), ?_⟩
  try dsimp only [cxOf, Cx.nox, Cx.wish]
  rcases rt_kinds t1 with hk | hk | hk
  · obtain ⟨o1, dx1, fs1, rfl, i1, l1⟩ := (hu).insS hk
    exact .inl ⟨_, rfl, o, aStopped, dx, _, _, rfl, ins, TStopped.cl, AStopped.n_rule, rfl, o1, dx1, fs1, rfl, i1, l1, _, rfl, o1, pa, pv, pts, t1, rfl, hk, (Nat.le_of_succ_le_succ dp), hu, TO.1, hpa, hpt, PO, n3, R2⟩
  · obtain ⟨o1, dx1, fs1, rfl, i1, l1⟩ := (hu).insT hk
    exact .inr <| .inl ⟨_, rfl, o, aStopped, dx, _, _, rfl, ins, TStopped.cl, AStopped.n_rule, rfl, o1, dx1, fs1, rfl, i1, l1, _, rfl, o1, pa, pv, pts, t1, rfl, hk, (Nat.le_of_succ_le_succ dp), hu, TO.1, hpa, hpt, PO, n3, R2⟩
  · obtain ⟨o1, dx1, fs1, rfl, i1, l1⟩ := (hu).insP hk
    exact .inr <| .inr ⟨_, rfl, o, aStopped, dx, _, _, rfl, ins, TStopped.cl, AStopped.n_rule, rfl, o1, dx1, fs1, rfl, i1, l1, _, rfl, o1, pa, pv, pts, t1, rfl, hk, (Nat.le_of_succ_le_succ dp), hu, TO.1, hpa, hpt, PO, n3, R2⟩
noncomputable abbrev s_Parted_steering : Stmt := inClass (top 24) 1
theorem sc_Parted_steering : FnScope ["self", "point"] ["self", "point"] (defScope s_Parted_steering) := ⟨rfl, rfl, rfl, by decide +kernel, rfl, by decide +kernel, by decide +kernel⟩
theorem ok_Parted_steering {k : Nat} {f : Addr} {fd : FuncData} {d : Nat} {aStraight aStopped aParted : Addr} (TStraight : ClsF K mg "Straight" aStraight) (AStraight : AtStraight K aStraight) (TStopped : ClsF K mg "Stopped" aStopped) (AStopped : AtStopped K aStopped) (TParted : ClsF K mg "Parted" aParted) (AParted : AtParted K aParted) (Y : Kits K aStraight aStopped aParted) (F : Fun K "steering" "Parted.steering" s_Parted_steering f fd) (B : Bl mg) (c_holds : Fn P w K mg base "holds" ["row", "point"] k (spHolds K)) (c_Straight_steering : FnM P w K mg base aStraight "steering" ["self", "point"] k (spSteer aStraight aStopped aParted K isStr d)) (c_Stopped_steering : FnM P w K mg base aStopped "steering" ["self", "point"] k (spSteer aStraight aStopped aParted K isStp d)) (c_Parted_steering : FnM P w K mg base aParted "steering" ["self", "point"] k (spSteer aStraight aStopped aParted K isPrt d)) : FnOk P w K mg base CX0 (k + 1) f fd ["self", "point"] (spSteer aStraight aStopped aParted K isPrt (d + 1)) := by
  refine F.ok sc_Parted_steering (fun vs H Q E h => ?_) (fun cdv A outer s H vs Q E hr h => ?_)
  · obtain ⟨o, pa, pv, pts, t, rfl, _⟩ := h
    rfl
  obtain ⟨o, pa, pv, pts, t, rfl, kd, dp, hR, TO, hpa, hpt, PO, n3, q⟩ := h
  obtain ⟨row, x, y, rfl⟩ := isPrt_ex kd
  obtain ⟨_, dx, ra, u, w0, e0, ins, hra, hx, hy⟩ := hR
  cases e0
  have W := TrOk.row TO.1
  have hrm := hr
  refine ⟨_, (pss_cons (ps_if (pt_val (pe_callF c_holds hr rfl (pa_cons (pe_fld (L2.pvj 0) rfl) (pa_cons (L2.pvj 1) pa_nil)))) (pss_one (ps_ret (pe_alt (pe_methF c_Straight_steering TStraight hrm (pe_fld (L2.pvj 0) rfl) (pa_cons (L2.pvj 1) pa_nil)) (pe_alt (pe_methF c_Stopped_steering TStopped hrm (pe_fld (L2.pvj 0) rfl) (pa_cons (L2.pvj 1) pa_nil)) (pe_methF c_Parted_steering TParted hrm (pe_fld (L2.pvj 0) rfl) (pa_cons (L2.pvj 1) pa_nil)))))) pss_nil)
    (pss_one (ps_ret (pe_alt (pe_methF c_Straight_steering TStraight hrm (pe_fld (L2.pvj 0) rfl) (pa_cons (L2.pvj 1) pa_nil)) (pe_alt (pe_methF c_Stopped_steering TStopped hrm (pe_fld (L2.pvj 0) rfl) (pa_cons (L2.pvj 1) pa_nil)) (pe_methF c_Parted_steering TParted hrm (pe_fld (L2.pvj 0) rfl) (pa_cons (L2.pvj 1) pa_nil))))))), ?_⟩
  try dsimp only [cxOf, Cx.nox, Cx.wish]
  refine ⟨_, rfl, o, aParted, dx, _, _, rfl, ins, TParted.cl, AParted.n_row, rfl, _, rfl, ra, pa, row.take pts.length, row.getD pts.length 0, pv, pts, rfl, hra.trans (by rw [rowV_split W.len]), hpa, hpt, PO, W.rw, (W.at (Nat.le_refl _)).2, fun H1 s1 => ⟨_, rfl, ?_⟩⟩
  refine ite2 (fun c => ?_) (fun c => ?_)
  · have ev := val_yes (x := x) (y := y) c
    rcases rt_kinds x with hk | hk | hk
    · obtain ⟨o1, dx1, fs1, rfl, i1, l1⟩ := (hx.same s1).insS hk
      exact .inl ⟨_, rfl, o, aParted, dx, _, _, rfl, (s1 _ _ ins), TParted.cl, AParted.n_rule, rfl, o1, dx1, fs1, rfl, i1, l1, _, rfl, o1, pa, pv, pts, x, rfl, hk, (Nat.le_trans (Nat.le_max_left _ _) (Nat.le_of_succ_le_succ dp)), hx.same s1, TO.2.1, (s1.seq hpa), (hpt.same s1), PO, n3, fun r H' s e => q r H' (s1.trans s) (e.trans (by rw [ev]))⟩
    · obtain ⟨o1, dx1, fs1, rfl, i1, l1⟩ := (hx.same s1).insT hk
      exact .inr <| .inl ⟨_, rfl, o, aParted, dx, _, _, rfl, (s1 _ _ ins), TParted.cl, AParted.n_rule, rfl, o1, dx1, fs1, rfl, i1, l1, _, rfl, o1, pa, pv, pts, x, rfl, hk, (Nat.le_trans (Nat.le_max_left _ _) (Nat.le_of_succ_le_succ dp)), hx.same s1, TO.2.1, (s1.seq hpa), (hpt.same s1), PO, n3, fun r H' s e => q r H' (s1.trans s) (e.trans (by rw [ev]))⟩
    · obtain ⟨o1, dx1, fs1, rfl, i1, l1⟩ := (hx.same s1).insP hk
      exact .inr <| .inr ⟨_, rfl, o, aParted, dx, _, _, rfl, (s1 _ _ ins), TParted.cl, AParted.n_rule, rfl, o1, dx1, fs1, rfl, i1, l1, _, rfl, o1, pa, pv, pts, x, rfl, hk, (Nat.le_trans (Nat.le_max_left _ _) (Nat.le_of_succ_le_succ dp)), hx.same s1, TO.2.1, (s1.seq hpa), (hpt.same s1), PO, n3, fun r H' s e => q r H' (s1.trans s) (e.trans (by rw [ev]))⟩
  · have ev := val_no (x := x) (y := y) c
    rcases rt_kinds y with hk | hk | hk
    · obtain ⟨o1, dx1, fs1, rfl, i1, l1⟩ := (hy.same s1).insS hk
      exact .inl ⟨_, rfl, o, aParted, dx, _, _, rfl, (s1 _ _ ins), TParted.cl, AParted.n_other, rfl, o1, dx1, fs1, rfl, i1, l1, _, rfl, o1, pa, pv, pts, y, rfl, hk, (Nat.le_trans (Nat.le_max_right _ _) (Nat.le_of_succ_le_succ dp)), hy.same s1, TO.2.2, (s1.seq hpa), (hpt.same s1), PO, n3, fun r H' s e => q r H' (s1.trans s) (e.trans (by rw [ev]))⟩
    · obtain ⟨o1, dx1, fs1, rfl, i1, l1⟩ := (hy.same s1).insT hk
      exact .inr <| .inl ⟨_, rfl, o, aParted, dx, _, _, rfl, (s1 _ _ ins), TParted.cl, AParted.n_other, rfl, o1, dx1, fs1, rfl, i1, l1, _, rfl, o1, pa, pv, pts, y, rfl, hk, (Nat.le_trans (Nat.le_max_right _ _) (Nat.le_of_succ_le_succ dp)), hy.same s1, TO.2.2, (s1.seq hpa), (hpt.same s1), PO, n3, fun r H' s e => q r H' (s1.trans s) (e.trans (by rw [ev]))⟩
    · obtain ⟨o1, dx1, fs1, rfl, i1, l1⟩ := (hy.same s1).insP hk
      exact .inr <| .inr ⟨_, rfl, o, aParted, dx, _, _, rfl, (s1 _ _ ins), TParted.cl, AParted.n_other, rfl, o1, dx1, fs1, rfl, i1, l1, _, rfl, o1, pa, pv, pts, y, rfl, hk, (Nat.le_trans (Nat.le_max_right _ _) (Nat.le_of_succ_le_succ dp)), hy.same s1, TO.2.2, (s1.seq hpa), (hpt.same s1), PO, n3, fun r H' s e => q r H' (s1.trans s) (e.trans (by rw [ev]))⟩
end
section
variable {P : Program} {w : World} {K : PySem.W.Frag} {mg : Str → Option Value} {base : Heap}
noncomputable abbrev s_other_side : Stmt := top 18
theorem sc_other_side : FnScope ["row"] ["row"] (defScope s_other_side) := ⟨rfl, rfl, rfl, by decide +kernel, rfl, by decide +kernel, by decide +kernel⟩
theorem ok_other_side {k : Nat} {f : Addr} {fd : FuncData} {aStraight aStopped aParted : Addr} (TStraight : ClsF K mg "Straight" aStraight) (AStraight : AtStraight K aStraight) (TStopped : ClsF K mg "Stopped" aStopped) (AStopped : AtStopped K aStopped) (TParted : ClsF K mg "Parted" aParted) (AParted : AtParted K aParted) (Y : Kits K aStraight aStopped aParted) (F : Fun K "other_side" "other_side" s_other_side f fd) (B : Bl mg) : FnOk P w K mg base CX0 (k + 1) f fd ["row"] spOther := by
  refine F.ok sc_other_side (fun vs H Q E h => ?_) (fun cdv A outer s H vs Q E hr h => ?_)
  · obtain ⟨ra, r, rfl, _⟩ := h
    rfl
  obtain ⟨ra, r, rfl, hra, few, q⟩ := h
  refine ⟨_, (pss_one (ps_ret (pe_callTy jtup rfl B.tuple_ boot_tuple_ (pa_cons (pe_comp (own := ["number"]) (caps := []) (blk_mk rfl) rfl (pi_tup (L2.pvj 0)) (fun _ _ _ _ => pg_name (i := 0) (show (["number"] : List Str).Nodup by decide +kernel) rfl (Or.inl rfl)) (fun _ _ _ _ => (pe_un un_neg (L2.pvj 0)))) pa_nil)))), ?_⟩
  try dsimp only [cxOf, Cx.nox, Cx.wish]
  refine ⟨_, rfl, ra, rfl, ⟨_, SqT.of hra⟩, comp_tup (K := K) (a := ra) (xs := r.map V.int) (fun i ys σ H' => ys = ((r.take i).map (fun x => -x)).map V.int ∧ (∃ o, σ = [o]) ∧ H' = H)
    ⟨rfl, ⟨none, rfl⟩, rfl⟩ (fun i ys σ H' hi ⟨e1, _, e3⟩ => ⟨by rw [e3]; exact SqT.of hra, by rw [e1, List.length_map, List.length_map, List.length_take]; exact Nat.min_le_left _ _⟩) (by rw [List.length_map]; exact Nat.le_of_lt (small1000 (by omega))) ?_ ?_⟩
  · rintro i x ys σ H' hi ⟨rfl, ⟨o, rfl⟩, rfl⟩
    obtain ⟨z, hz, rfl⟩ := ints_get hi
    refine ⟨_, rfl, _, rfl, ?_, ⟨_, rfl⟩, rfl⟩
    rw [take_snoc hz, List.map_append, List.map_append]
    rfl
  rintro ys σ H' ⟨rfl, ⟨o, rfl⟩, rfl⟩ l hl
  refine ⟨l, _, rfl, .inl ⟨SqL.of upd_same, fun t ht => ?_⟩⟩
  refine q t _ ((same_new hl _).trans (same_new ht _)) ((same_new hl _).free ht) (upd_same.trans ?_)
  rw [List.length_map, List.take_length]
  rfl
noncomputable abbrev s_is_straight : Stmt := top 26
theorem sc_is_straight : FnScope ["value", "many"] ["value", "many"] (defScope s_is_straight) := ⟨rfl, rfl, rfl, by decide +kernel, rfl, by decide +kernel, by decide +kernel⟩
theorem ok_is_straight {k : Nat} {f : Addr} {fd : FuncData} {aStraight aStopped aParted : Addr} (TStraight : ClsF K mg "Straight" aStraight) (AStraight : AtStraight K aStraight) (TStopped : ClsF K mg "Stopped" aStopped) (AStopped : AtStopped K aStopped) (TParted : ClsF K mg "Parted" aParted) (AParted : AtParted K aParted) (Y : Kits K aStraight aStopped aParted) (F : Fun K "is_straight" "is_straight" s_is_straight f fd) (B : Bl mg) (c_is_numbers : Fn P w K mg base "is_numbers" ["value", "count"] k spIsNumbers) (c_is_whole : Fn P w K mg base "is_whole" ["thing"] k spIsWhole) : FnOk P w K mg base CX0 (k + 1) f fd ["value", "many"] (spIsStraight aStraight aStopped aParted) := by
  refine F.ok sc_is_straight (fun vs H Q E h => ?_) (fun cdv A outer s H vs Q E hr h => ?_)
  · obtain ⟨v, n, ns, a, d, rfl, _⟩ := h
    rfl
  obtain ⟨v, n, ns, a, d, rfl, hR, hn, few, d0, q⟩ := h
  refine ⟨_, (pss_cons (ps_if (PW.pt (pw_or (pt_not (pt_val (pe_callB (show CallR _ _ (rInstO K) from call_isinstO) rfl B.isinstance_ boot_isinstance_ (pa_cons (L2.pvj 0) (pa_cons (pe_cls TStraight rfl) pa_nil))))) (pw_or1 (pt_not (pt_val (pe_callF c_is_numbers hr rfl (pa_cons (pe_fld (L2.pvj 0) rfl) (pa_cons (L2.pvj 1) pa_nil)))))))) (pss_one (ps_ret pe_bl)) pss_nil)
    (pss_one (ps_ret (pe_and (pe_callF c_is_whole hr rfl (pa_cons (pe_fld (L2.pvj 0) rfl) pa_nil)) (pe_and (pe_callF c_is_whole hr rfl (pa_cons (pe_fld (L2.pvj 0) rfl) pa_nil)) (pe_one (pe_cmpR (ji0 op_ge) (pe_fld (L2.pvj 0) rfl) pe_int (nomark _)))))))), ?_⟩
  try dsimp only [cxOf, Cx.nox, Cx.wish]
  obtain ⟨o, dx, la, rfl, ins, ela⟩ := hR
  refine ⟨_, rfl, _, _, _, _, rfl, (TStraight.ty ins), kit_self, _, rfl, iteF ?_⟩
  refine ⟨_, rfl, o, aStraight, dx, _, _, rfl, ins, TStraight.cl, AStraight.n_numbers, rfl, _, rfl, la, ns, (by rw [hn]; rfl), ela, (by omega), fun H1 s1 => ⟨_, rfl, iteF ?_⟩⟩
  refine ⟨_, rfl, o, aStraight, dx, _, _, rfl, (s1 _ _ ins), TStraight.cl, AStraight.n_add, rfl, a, rfl, _, rfl, iteT ?_⟩
  refine ⟨_, rfl, o, aStraight, dx, _, _, rfl, (s1 _ _ ins), TStraight.cl, AStraight.n_divisor, rfl, d, rfl, _, rfl, iteT ?_⟩
  refine ⟨_, rfl, o, aStraight, dx, _, _, rfl, (s1 _ _ ins), TStraight.cl, AStraight.n_divisor, rfl, _, _, rfl, rfl, ?_⟩
  have z : decide ((1 : Int) ≤ d) = true := decide_eq_true (by omega)
  show Q (.bl (decide ((1 : Int) ≤ d))) H1
  rw [z]
  exact q H1 s1
noncomputable abbrev s_are_stops : Stmt := top 27
theorem sc_are_stops : FnScope ["low", "high"] ["low", "high"] (defScope s_are_stops) := ⟨rfl, rfl, rfl, by decide +kernel, rfl, by decide +kernel, by decide +kernel⟩
theorem ok_are_stops {k : Nat} {f : Addr} {fd : FuncData} {aStraight aStopped aParted : Addr} (TStraight : ClsF K mg "Straight" aStraight) (AStraight : AtStraight K aStraight) (TStopped : ClsF K mg "Stopped" aStopped) (AStopped : AtStopped K aStopped) (TParted : ClsF K mg "Parted" aParted) (AParted : AtParted K aParted) (Y : Kits K aStraight aStopped aParted) (F : Fun K "are_stops" "are_stops" s_are_stops f fd) (B : Bl mg) (c_is_whole : Fn P w K mg base "is_whole" ["thing"] k spIsWhole) : FnOk P w K mg base CX0 (k + 1) f fd ["low", "high"] spStops := by
  refine F.ok sc_are_stops (fun vs H Q E h => ?_) (fun cdv A outer s H vs Q E hr h => ?_)
  · obtain ⟨lo, hi, rfl, _⟩ := h
    rfl
  obtain ⟨lo, hi, rfl, lh, q⟩ := h
  refine ⟨_, (pss_one (ps_ret (pe_and (pe_callF c_is_whole hr rfl (pa_cons (L2.pvj 0) pa_nil)) (pe_and (pe_callF c_is_whole hr rfl (pa_cons (L2.pvj 1) pa_nil)) (pe_one (pe_cmpR (ji0 op_le) (L2.pvj 0) (L2.pvj 1) (nomark _))))))), ?_⟩
  try dsimp only [cxOf, Cx.nox, Cx.wish]
  refine ⟨_, rfl, lo, rfl, _, rfl, iteT ?_⟩
  refine ⟨_, rfl, hi, rfl, _, rfl, iteT ?_⟩
  refine ⟨_, rfl, _, rfl, _, _, rfl, rfl, ?_⟩
  have z : decide (lo ≤ hi) = true := decide_eq_true lh
  show Q (.bl (decide (lo ≤ hi))) H
  rw [z]
  exact q
noncomputable abbrev s_is_rule : Stmt := top 25
theorem sc_is_rule : FnScope ["value", "many"] ["value", "many"] (defScope s_is_rule) := ⟨rfl, rfl, rfl, by decide +kernel, rfl, by decide +kernel, by decide +kernel⟩
theorem ok_is_rule {k : Nat} {f : Addr} {fd : FuncData} {d : Nat} {aStraight aStopped aParted : Addr} (TStraight : ClsF K mg "Straight" aStraight) (AStraight : AtStraight K aStraight) (TStopped : ClsF K mg "Stopped" aStopped) (AStopped : AtStopped K aStopped) (TParted : ClsF K mg "Parted" aParted) (AParted : AtParted K aParted) (Y : Kits K aStraight aStopped aParted) (F : Fun K "is_rule" "is_rule" s_is_rule f fd) (B : Bl mg) (c_is_straight : Fn P w K mg base "is_straight" ["value", "many"] k (spIsStraight aStraight aStopped aParted)) (c_is_rule : Fn P w K mg base "is_rule" ["value", "many"] k (spIsRule aStraight aStopped aParted d)) (c_are_stops : Fn P w K mg base "are_stops" ["low", "high"] k spStops) (c_is_row : Fn P w K mg base "is_row" ["value", "many"] k spIsRow) : FnOk P w K mg base CX0 (k + 1) f fd ["value", "many"] (spIsRule aStraight aStopped aParted (d + 1)) := by
  refine F.ok sc_is_rule (fun vs H Q E h => ?_) (fun cdv A outer s H vs Q E hr h => ?_)
  · obtain ⟨v, n, t, rfl, _⟩ := h
    rfl
  obtain ⟨v, n, t, rfl, dp, hR, S, n8, q⟩ := h
  refine ⟨_, (pss_cons (ps_if (pt_val (pe_callB (show CallR _ _ (rInstO K) from call_isinstO) rfl B.isinstance_ boot_isinstance_ (pa_cons (L2.pvj 0) (pa_cons (pe_cls TStraight rfl) pa_nil)))) (pss_one (ps_ret (pe_callF c_is_straight hr rfl (pa_cons (L2.pvj 0) (pa_cons (L2.pvj 1) pa_nil))))) pss_nil)
    (pss_cons (ps_if (pt_val (pe_callB (show CallR _ _ (rInstO K) from call_isinstO) rfl B.isinstance_ boot_isinstance_ (pa_cons (L2.pvj 0) (pa_cons (pe_cls TStopped rfl) pa_nil)))) (pss_one (ps_ret (pe_and (pe_callF c_are_stops hr rfl (pa_cons (pe_fld (L2.pvj 0) rfl) (pa_cons (pe_fld (L2.pvj 0) rfl) pa_nil))) (pe_one (pe_callF c_is_rule hr rfl (pa_cons (pe_fld (L2.pvj 0) rfl) (pa_cons (L2.pvj 1) pa_nil))))))) pss_nil)
    (pss_cons (ps_if (pt_val (pe_callB (show CallR _ _ (rInstO K) from call_isinstO) rfl B.isinstance_ boot_isinstance_ (pa_cons (L2.pvj 0) (pa_cons (pe_cls TParted rfl) pa_nil)))) (pss_one (ps_ret (pe_and (pe_callF c_is_row hr rfl (pa_cons (pe_fld (L2.pvj 0) rfl) (pa_cons (L2.pvj 1) pa_nil))) (pe_and (pe_callF c_is_rule hr rfl (pa_cons (pe_fld (L2.pvj 0) rfl) (pa_cons (L2.pvj 1) pa_nil))) (pe_one (pe_callF c_is_rule hr rfl (pa_cons (pe_fld (L2.pvj 0) rfl) (pa_cons (L2.pvj 1) pa_nil)))))))) pss_nil)
    (pss_one (ps_ret pe_bl))))), ?_⟩
  try dsimp only [cxOf, Cx.nox, Cx.wish]
  cases t with
  | str ns a d0 =>
    have hR' := hR
    obtain ⟨o, dx, la, rfl, ins, ela⟩ := hR
    refine ⟨_, rfl, _, _, _, _, rfl, (TStraight.ty ins), kit_self, _, rfl, iteT ?_⟩
    exact ⟨_, rfl, _, rfl, .ref o, n, ns, a, d0, rfl, hR', S.1, (by omega), S.2, fun H' s => q H' s⟩
  | stp t1 lo hi =>
    obtain ⟨o, dx, u, rfl, ins, hu⟩ := hR
    refine ⟨_, rfl, _, _, _, _, rfl, (TStopped.ty ins), Y.k21, _, rfl, iteF ?_⟩
    refine ⟨_, rfl, _, _, _, _, rfl, (TStopped.ty ins), kit_self, _, rfl, iteT ?_⟩
    refine ⟨_, rfl, o, aStopped, dx, _, _, rfl, ins, TStopped.cl, AStopped.n_low, rfl, _, rfl, o, aStopped, dx, _, _, rfl, ins, TStopped.cl, AStopped.n_high, rfl, lo, hi, rfl, S.2, _, rfl, iteT ?_⟩
    exact ⟨_, rfl, o, aStopped, dx, _, _, rfl, ins, TStopped.cl, AStopped.n_rule, rfl, _, rfl, u, n, t1, rfl, Nat.le_of_succ_le_succ dp, hu, S.1, n8, fun H' s => q H' s⟩
  | prt r x y =>
    obtain ⟨o, dx, ra, u, w2, rfl, ins, era, hu, hw⟩ := hR
    have dp2 : max x.dep y.dep ≤ d := Nat.le_of_succ_le_succ dp
    refine ⟨_, rfl, _, _, _, _, rfl, (TParted.ty ins), Y.k31, _, rfl, iteF ?_⟩
    refine ⟨_, rfl, _, _, _, _, rfl, (TParted.ty ins), Y.k32, _, rfl, iteF ?_⟩
    refine ⟨_, rfl, _, _, _, _, rfl, (TParted.ty ins), kit_self, _, rfl, iteT ?_⟩
    refine ⟨_, rfl, o, aParted, dx, _, _, rfl, ins, TParted.cl, AParted.n_row, rfl, _, rfl, ra, r, n, rfl, era, S.1, n8, fun H1 s1 => ⟨_, rfl, iteT ?_⟩⟩
    refine ⟨_, rfl, o, aParted, dx, _, _, rfl, (s1 _ _ ins), TParted.cl, AParted.n_rule, rfl, _, rfl, u, n, x, rfl, (by omega), hu.same s1, S.2.1, n8, fun H2 s2 => ⟨_, rfl, iteT ?_⟩⟩
    exact ⟨_, rfl, o, aParted, dx, _, _, rfl, (s2 _ _ (s1 _ _ ins)), TParted.cl, AParted.n_other, rfl, _, rfl, w2, n, y, rfl, (by omega), hw.same (s1.trans s2), S.2.2, n8, fun H3 s3 => q H3 (s1.trans (s2.trans s3))⟩
noncomputable abbrev s_piece_count : Stmt := top 28
theorem sc_piece_count : FnScope ["rule"] ["rule"] (defScope s_piece_count) := ⟨rfl, rfl, rfl, by decide +kernel, rfl, by decide +kernel, by decide +kernel⟩
theorem ok_piece_count {k : Nat} {f : Addr} {fd : FuncData} {d : Nat} {aStraight aStopped aParted : Addr} (TStraight : ClsF K mg "Straight" aStraight) (AStraight : AtStraight K aStraight) (TStopped : ClsF K mg "Stopped" aStopped) (AStopped : AtStopped K aStopped) (TParted : ClsF K mg "Parted" aParted) (AParted : AtParted K aParted) (Y : Kits K aStraight aStopped aParted) (F : Fun K "piece_count" "piece_count" s_piece_count f fd) (B : Bl mg) (c_piece_count : Fn P w K mg base "piece_count" ["rule"] k (spCount aStraight aStopped aParted d)) : FnOk P w K mg base CX0 (k + 1) f fd ["rule"] (spCount aStraight aStopped aParted (d + 1)) := by
  refine F.ok sc_piece_count (fun vs H Q E h => ?_) (fun cdv A outer s H vs Q E hr h => ?_)
  · obtain ⟨v, t, rfl, _⟩ := h
    rfl
  obtain ⟨v, t, rfl, dp, d100, hR, q⟩ := h
  refine ⟨_, (pss_cons (ps_if (pt_val (pe_callB (show CallR _ _ (rInstO K) from call_isinstO) rfl B.isinstance_ boot_isinstance_ (pa_cons (L2.pvj 0) (pa_cons (pe_cls TStopped rfl) pa_nil)))) (pss_one (ps_ret (pe_op (ji op_mulW) pe_int (pe_callF c_piece_count hr rfl (pa_cons (pe_fld (L2.pvj 0) rfl) pa_nil))))) pss_nil)
    (pss_cons (ps_if (pt_val (pe_callB (show CallR _ _ (rInstO K) from call_isinstO) rfl B.isinstance_ boot_isinstance_ (pa_cons (L2.pvj 0) (pa_cons (pe_cls TParted rfl) pa_nil)))) (pss_one (ps_ret (pe_op (ji0 op_add) (pe_callF c_piece_count hr rfl (pa_cons (pe_fld (L2.pvj 0) rfl) pa_nil)) (pe_callF c_piece_count hr rfl (pa_cons (pe_fld (L2.pvj 0) rfl) pa_nil))))) pss_nil)
    (pss_one (ps_ret pe_int)))), ?_⟩
  try dsimp only [cxOf, Cx.nox, Cx.wish]
  cases t with
  | str ns a d0 =>
    obtain ⟨o, dx, la, rfl, ins, ela⟩ := hR
    refine ⟨_, rfl, _, _, _, _, rfl, (TStraight.ty ins), Y.k12, _, rfl, iteF ?_⟩
    refine ⟨_, rfl, _, _, _, _, rfl, (TStraight.ty ins), Y.k13, _, rfl, iteF ?_⟩
    exact q
  | stp t1 lo hi =>
    obtain ⟨o, dx, u, rfl, ins, hu⟩ := hR
    have d1 : t1.dep + 1 ≤ 100 := d100
    have b3 : Bd 2 (3 : Int) := Bd.lit
    refine ⟨_, rfl, _, _, _, _, rfl, (TStopped.ty ins), kit_self, _, rfl, iteT ?_⟩
    refine ⟨_, rfl, o, aStopped, dx, _, _, rfl, ins, TStopped.cl, AStopped.n_rule, rfl, u, t1, rfl, Nat.le_of_succ_le_succ dp, (by omega), hu, _, _, rfl, rfl, ⟨b3.mono (by decide), (count_bd t1).mono (by omega)⟩, ?_⟩
    have e : ((countM (.stp t1 lo hi) : Nat) : Int) = 3 * (countM t1 : Int) := by show ((3 * countM t1 : Nat) : Int) = _; omega
    rw [e] at q
    exact q
  | prt r x y =>
    obtain ⟨o, dx, ra, u, w2, rfl, ins, era, hu, hw⟩ := hR
    have dp2 : max x.dep y.dep ≤ d := Nat.le_of_succ_le_succ dp
    have d1 : max x.dep y.dep + 1 ≤ 100 := d100
    refine ⟨_, rfl, _, _, _, _, rfl, (TParted.ty ins), Y.k32, _, rfl, iteF ?_⟩
    refine ⟨_, rfl, _, _, _, _, rfl, (TParted.ty ins), kit_self, _, rfl, iteT ?_⟩
    refine ⟨_, rfl, o, aParted, dx, _, _, rfl, ins, TParted.cl, AParted.n_rule, rfl, u, x, rfl, (by omega), (by omega), hu, _, rfl, o, aParted, dx, _, _, rfl, ins, TParted.cl, AParted.n_other, rfl, w2, y, rfl, (by omega), (by omega), hw, _, _, rfl, rfl, ?_⟩
    have e : ((countM (.prt r x y) : Nat) : Int) = (countM x : Int) + (countM y : Int) := by show ((countM x + countM y : Nat) : Int) = _; omega
    rw [e] at q
    exact q
noncomputable abbrev s_stop_row : Stmt := top 33
theorem sc_stop_row : FnScope ["straight", "stop"] ["straight", "stop"] (defScope s_stop_row) := ⟨rfl, rfl, rfl, by decide +kernel, rfl, by decide +kernel, by decide +kernel⟩
theorem ok_stop_row {k : Nat} {f : Addr} {fd : FuncData} {aStraight aStopped aParted : Addr} (TStraight : ClsF K mg "Straight" aStraight) (AStraight : AtStraight K aStraight) (TStopped : ClsF K mg "Stopped" aStopped) (AStopped : AtStopped K aStopped) (TParted : ClsF K mg "Parted" aParted) (AParted : AtParted K aParted) (Y : Kits K aStraight aStopped aParted) (F : Fun K "stop_row" "stop_row" s_stop_row f fd) (B : Bl mg) : FnOk P w K mg base CX0 (k + 1) f fd ["straight", "stop"] (spStopRow aStraight) := by
  refine F.ok sc_stop_row (fun vs H Q E h => ?_) (fun cdv A outer s H vs Q E hr h => ?_)
  · obtain ⟨so, dx, la, l, s, rfl, _⟩ := h
    rfl
  obtain ⟨so, dx, la, l, st, rfl, ins, ela, n1, few, bd, bs, q⟩ := h
  refine ⟨_, (pss_one (ps_ret (pe_op op_catT (pe_callTy jtup rfl B.tuple_ boot_tuple_ (pa_cons (pe_fld (L2.pvj 0) rfl) pa_nil)) (pe_tup (pa_cons (pe_op (ji0 op_sub) (pe_op (ji op_mulW) (pe_fld (L2.pvj 0) rfl) (L2.pvj 1)) (pe_fld (L2.pvj 0) rfl)) pa_nil))))), ?_⟩
  try dsimp only [cxOf, Cx.nox, Cx.wish]
  refine ⟨_, rfl, so, aStraight, dx, _, _, rfl, ins, TStraight.cl, AStraight.n_numbers, rfl, la, _, rfl, .inl ⟨SqL.of ela, fun t1 ht1 => ?_⟩⟩
  have z1 := same_new ht1 (HO.tup (l.ns.map V.int))
  refine ⟨_, rfl, so, aStraight, dx, _, _, rfl, (z1 _ _ ins), TStraight.cl, AStraight.n_divisor, rfl, _, rfl, _, _, rfl, rfl, ⟨bd.mono (by decide), bs.mono (by decide)⟩, _, rfl, so, aStraight, dx, _, _, rfl, (z1 _ _ ins), TStraight.cl, AStraight.n_add, rfl, _, _, rfl, rfl, (by show 1 ≤ sizeLine; decide), fun t2 ht2 => ?_⟩
  have z2 := same_new ht2 (HO.tup [V.int (l.d * st - l.a)])
  refine ⟨t1, t2, _, _, rfl, rfl, SqT.of (z2 _ _ upd_same), SqT.of upd_same, ?_, (by rw [List.length_map]; exact Nat.le_of_lt (small1000 (by show l.ns.length + 1 ≤ 1000; omega))), (fun z => by cases z), fun _ p hp => ?_⟩
  · cases e : l.ns with
    | nil => rw [e] at n1; cases n1
    | cons x t => intro z; cases z
  have z3 := same_new hp (HO.tup (l.ns.map V.int ++ [V.int (l.d * st - l.a)]))
  refine q p _ (z1.trans (z2.trans z3)) (upd_same.trans ?_)
  unfold stopR
  rw [List.map_append]
  rfl
noncomputable abbrev s_stopped_pieces : Stmt := top 32
theorem sc_stopped_pieces : FnScope ["rule", "told", "rows", "straight", "noughts", "low_row", "high_row"] ["rule"] (defScope s_stopped_pieces) := ⟨rfl, rfl, rfl, by decide +kernel, rfl, by decide +kernel, by decide +kernel⟩
theorem ok_stopped_pieces {k : Nat} {f : Addr} {fd : FuncData} {d : Nat} {aStraight aStopped aParted : Addr} (TStraight : ClsF K mg "Straight" aStraight) (AStraight : AtStraight K aStraight) (TStopped : ClsF K mg "Stopped" aStopped) (AStopped : AtStopped K aStopped) (TParted : ClsF K mg "Parted" aParted) (AParted : AtParted K aParted) (Y : Kits K aStraight aStopped aParted) (F : Fun K "stopped_pieces" "stopped_pieces" s_stopped_pieces f fd) (B : Bl mg) (c_listed : Fn P w K mg base "listed" ["rule"] (k + 1) (spListed aStraight aStopped aParted anyK d)) (c_stop_row : Fn P w K mg base "stop_row" ["straight", "stop"] (k + 1) (spStopRow aStraight)) (c_Straight___init__ : FnCD P w K mg base aStraight ["self", "numbers", "add", "divisor"] k (spStraightInit aStraight) (.int 1)) (c_other_side : Fn P w K mg base "other_side" ["row"] (k + 1) spOther) : FnOk P w K mg base CX0 (k + 1 + 1) f fd ["rule"] (spListed aStraight aStopped aParted isStp (d + 1)) := by
  refine F.ok sc_stopped_pieces (fun vs H Q E h => ?_) (fun cdv A outer s H vs Q E hr h => ?_)
  · obtain ⟨v, n, t, rfl, _⟩ := h
    rfl
  obtain ⟨v, n, t, rfl, kd, dp, d100, hR, SH, n1, n8, TF, c60, q⟩ := h
  obtain ⟨t1, lo, hi, rfl⟩ := isStp_ex kd
  obtain ⟨o, dx, u, rfl, ins, hu⟩ := hR
  refine ⟨_, (pss_cons (ps_set (i := 1) sc_stopped_pieces.nd rfl (Or.inl rfl) (pe_lst pa_nil))
    (pss_cons (ps_for PassesOwn.never rfl (pi_list (pe_callF c_listed hr rfl (pa_cons (pe_fld (L2.pvj 0) rfl) pa_nil))) (pg_tup rfl (pgs_cons (pg_name (i := 2) sc_stopped_pieces.nd rfl (Or.inl rfl)) (pgs_cons (pg_name (i := 3) sc_stopped_pieces.nd rfl (Or.inl rfl)) pgs_nil))) (pss_cons (ps_comp (i := 4) sc_stopped_pieces.nd rfl rfl (own := ["number"]) (caps := []) (blk_mk rfl) rfl (pi_list (pe_fld (L2.pvj 3) rfl)) (fun _ _ _ _ => pg_name (i := 0) (show (["number"] : List Str).Nodup by decide +kernel) rfl (Or.inl rfl)) (fun _ _ _ _ => pe_int) rfl)
      (pss_cons (ps_set (i := 5) sc_stopped_pieces.nd rfl (Or.inl rfl) (pe_callF c_stop_row hr rfl (pa_cons (L2.pvj 3) (pa_cons (pe_fld (L2.pvj 0) rfl) pa_nil))))
      (pss_cons (ps_set (i := 6) sc_stopped_pieces.nd rfl (Or.inl rfl) (pe_callF c_stop_row hr rfl (pa_cons (L2.pvj 3) (pa_cons (pe_fld (L2.pvj 0) rfl) pa_nil))))
      (pss_cons (ps_expr (pe_bm PySem.F.plainAttrs_list PySem.F.slot_list_append PySem.F.type_list_append japp (L2.pvj 1) (pa_cons (pe_tup (pa_cons (pe_op jcat (L2.pvj 2) (pe_lst (pa_cons (L2.pvj 5) pa_nil))) (pa_cons (pe_makeF c_Straight___init__.fn TStraight hr rfl (pa_cons (L2.pvj 4) (pa_cons (pe_fld (L2.pvj 0) rfl) (pa_cons pe_int pa_nil)))) pa_nil))) pa_nil)))
      (pss_cons (ps_expr (pe_bm PySem.F.plainAttrs_list PySem.F.slot_list_append PySem.F.type_list_append japp (L2.pvj 1) (pa_cons (pe_tup (pa_cons (pe_op jcat (L2.pvj 2) (pe_lst (pa_cons (pe_callF c_other_side hr rfl (pa_cons (L2.pvj 5) pa_nil)) (pa_cons (L2.pvj 6) pa_nil)))) (pa_cons (L2.pvj 3) pa_nil))) pa_nil)))
      (pss_one (ps_expr (pe_bm PySem.F.plainAttrs_list PySem.F.slot_list_append PySem.F.type_list_append japp (L2.pvj 1) (pa_cons (pe_tup (pa_cons (pe_op jcat (L2.pvj 2) (pe_lst (pa_cons (pe_callF c_other_side hr rfl (pa_cons (L2.pvj 6) pa_nil)) pa_nil))) (pa_cons (pe_makeF c_Straight___init__.fn TStraight hr rfl (pa_cons (L2.pvj 4) (pa_cons (pe_fld (L2.pvj 0) rfl) (pa_cons pe_int pa_nil)))) pa_nil))) pa_nil))))))))))
    (pss_one (ps_ret (L2.pvj 1))))), ?_⟩
  try dsimp only [cxOf, Cx.nox, Cx.wish]
  refine ⟨(by show 0 ≤ sizeLine; decide), fun tl htl => ?_⟩
  have z1 := same_new htl (HO.lst [])
  have et1 := upd_same (H := H) (a := tl) (o := HO.lst [])
  obtain ⟨H1, hH1⟩ : ∃ H1, H1 = upd H tl (HO.lst []) := ⟨_, rfl⟩
  rw [← hH1] at z1 et1 ⊢
  have cnt : 3 * countM t1 ≤ 60 := c60
  have d1 : t1.dep + 1 ≤ 100 := d100
  refine ⟨_, rfl, o, aStopped, dx, _, _, rfl, (z1 _ _ ins), TStopped.cl, AStopped.n_rule, rfl, u, n, t1, rfl, rfl, Nat.le_of_succ_le_succ dp, (by omega), hu.same z1, SH.1, n1, n8, TF.1, (by omega), fun l lv H2 s2 nl el hlv => ?_⟩
  have et2 := s2 _ _ et1
  have llv : lv.length = countM t1 := (Paired.length hlv).trans (pieces_len t1)
  have lnt : l ∉ [tl] := fun z => by
    rw [List.mem_singleton.mp z, et1] at nl
    cases nl
  have PO := pieces_ok SH.1
  have PFs := pieces_f TF.1
  have hlv2 : Paired (PcV aStraight H (hide [tl] H2)) lv (piecesM t1) := by
    refine Paired.mapM hlv fun i v p hv hp z => PcV.back z1 (z.hid et1 et2 ?_)
    have := (PO p (List.mem_of_getElem? hp)).len
    omega
  have gO2 : hide [tl] H2 o = some (.ins aStopped dx (stpF u lo hi)) := by
    rw [hide_at (fun z => by rw [List.mem_singleton.mp z, htl] at ins; cases ins)]
    exact s2 _ _ (z1 _ _ ins)
  have tlH : ∀ {J : Hp} {y : Addr}, Same (hide [tl] H2) J → y ∉ [tl] → J y = none → H y = none := fun sJ ny hy => z1.free (s2.free (by
    have := sJ.free hy
    rw [hide_at ny] at this
    exact this))
  have blo := TF.2.1
  have bhi := TF.2.2
  refine ⟨l, rfl, ⟨_, SqL.of el⟩, for_list (K := K) (a := l) (xs := lv)
    (fun i σ H' => ∃ (tv : List V) (o2 o3 o4 o5 o6 : Option V), σ = [some (.ref o), some (.ref tl), o2, o3, o4, o5, o6] ∧ off [tl] H2 H' ∧ H' tl = some (.lst tv) ∧ Paired (PcV aStraight H (hide [tl] H')) tv (((piecesM t1).take i).flatMap (stopP lo hi)))
    ⟨[], none, none, none, none, none, rfl, off.refl _ _, et2, .nil⟩ (fun i σ H' _ ⟨_, _, _, _, _, _, _, of2, _⟩ => SqL.of (of2 _ _ el lnt)) ?_ ?_⟩
  · rintro i x σ H' hix ⟨tv, o2, o3, o4, o5, o6, rfl, of2, etl, htv⟩
    obtain ⟨p, hp, pc⟩ := paired_get hlv2 hix
    have pc' := pc.same (hide_off of2)
    obtain ⟨tt, rl, so, dxs, la, rv, rfl, gT, frl, gRl, gRv, gSo, gLa⟩ := pc'
    have pm := List.mem_of_getElem? hp
    have lp := (PO p pm).len
    have PF := PFs p pm
    have rfew := rows_few p pm
    have lrv : rv.length = p.1.length := Paired.length gRv
    have ltv := Paired.length htv
    rw [flat3 _ (fun _ => rfl), List.length_take, pieces_len] at ltv
    have gO := hide_off of2 _ _ gO2
    have S0 := hide_off of2
    have tlH : ∀ {J : Hp} {y : Addr}, Same (hide [tl] H') J → y ∉ [tl] → J y = none → H y = none := fun sJ ny hy => tlH (S0.trans sJ) ny hy
    refine ⟨tt, _, rfl, SqT.of (hide_sub _ _ gT), rfl, _, _, rfl, _, _, rfl, rfl, ?_⟩
    have S : Same (hide [tl] H') (hide [tl] H') := Same.refl _
    refine ⟨_, rfl, so, aStraight, dxs, _, _, rfl, (hide_sub _ _ gSo), TStraight.cl, AStraight.n_numbers, rfl, la, rfl, ⟨_, SqL.of (hide_sub _ _ gLa)⟩, comp_list (K := K) (a := la) (xs := p.2.ns.map V.int) (fun i ys σ H4 => ys = (List.replicate i (0 : Int)).map V.int ∧ (∃ o, σ = [o]) ∧ H4 = H')
      ⟨rfl, ⟨none, rfl⟩, rfl⟩ (fun i ys σ H4 _ ⟨e1, _, e3⟩ => ⟨by rw [e3]; exact SqL.of (hide_sub _ _ gLa), by rw [e1, List.length_map, List.length_replicate]; exact Nat.le_refl _⟩) (by rw [List.length_map, lp]; exact Nat.le_of_lt (small1000 (by omega))) ?_ ?_⟩
    · rintro i x ys σ H4 hix ⟨rfl, ⟨o1, rfl⟩, rfl⟩
      refine ⟨?_, ⟨_, rfl⟩, rfl⟩
      rw [List.replicate_succ', List.map_append]
      rfl
    rintro ys σ H4 ⟨rfl, ⟨o1, rfl⟩, rfl⟩ ca hca
    have ezs : (List.replicate (p.2.ns.map V.int).length (0 : Int)).map V.int = (p.2.ns.map fun _ => (0 : Int)).map V.int := by rw [List.length_map, zeros_eq]
    rw [ezs]
    have z_ca := same_new hca (HO.lst ((p.2.ns.map fun _ => (0 : Int)).map V.int))
    have n_ca : ca ∉ [tl] := fun z => by rw [List.mem_singleton.mp z, etl] at hca; cases hca
    have f_ca : H ca = none := tlH (S.trans hide_sub) n_ca hca
    have gCa : hide [tl] (upd H4 ca (HO.lst ((p.2.ns.map fun _ => (0 : Int)).map V.int))) ca = some (HO.lst ((p.2.ns.map fun _ => (0 : Int)).map V.int)) := (hide_at n_ca).trans upd_same
    have Sg := hide_same (B := [tl]) z_ca
    have gO := Sg _ _ gO
    have gT := Sg _ _ gT
    have gRl := Sg _ _ gRl
    have gRv := WaysV.same Sg gRv
    have gSo := Sg _ _ gSo
    have gLa := Sg _ _ gLa
    have S := S.trans Sg
    have etl := z_ca _ _ etl
    obtain ⟨HB1, hHB1⟩ : ∃ J, J = upd H4 ca (HO.lst ((p.2.ns.map fun _ => (0 : Int)).map V.int)) := ⟨_, rfl⟩
    rw [← hHB1] at gCa gO gT gRl gRv gSo gLa S etl ⊢
    refine ⟨_, rfl, _, rfl, o, aStopped, dx, _, _, rfl, (hide_sub _ _ gO), TStopped.cl, AStopped.n_low, rfl, so, dxs, la, p.2, lo, rfl, (hide_sub _ _ gSo), (hide_sub _ _ gLa), (by omega), (by omega), PF.d.mono (by decide), blo.mono (by decide), fun r0 J0 s_r0 e_r0 => ?_⟩
    have n_r0 : r0 ∉ [tl] := fun z => by have := s_r0 _ _ etl; rw [← List.mem_singleton.mp z, e_r0] at this; cases this
    have gR0 : hide [tl] J0 r0 = some (.tup ((stopR p.2 lo).map V.int)) := (hide_at n_r0).trans e_r0
    have Sg := hide_same (B := [tl]) s_r0
    have gO := Sg _ _ gO
    have gT := Sg _ _ gT
    have gRl := Sg _ _ gRl
    have gRv := WaysV.same Sg gRv
    have gSo := Sg _ _ gSo
    have gLa := Sg _ _ gLa
    have gCa := Sg _ _ gCa
    have S := S.trans Sg
    have etl := s_r0 _ _ etl
    refine ⟨_, rfl, _, rfl, o, aStopped, dx, _, _, rfl, (hide_sub _ _ gO), TStopped.cl, AStopped.n_high, rfl, so, dxs, la, p.2, hi, rfl, (hide_sub _ _ gSo), (hide_sub _ _ gLa), (by omega), (by omega), PF.d.mono (by decide), bhi.mono (by decide), fun r1 J1 s_r1 e_r1 => ?_⟩
    have n_r1 : r1 ∉ [tl] := fun z => by have := s_r1 _ _ etl; rw [← List.mem_singleton.mp z, e_r1] at this; cases this
    have gR1 : hide [tl] J1 r1 = some (.tup ((stopR p.2 hi).map V.int)) := (hide_at n_r1).trans e_r1
    have Sg := hide_same (B := [tl]) s_r1
    have gO := Sg _ _ gO
    have gT := Sg _ _ gT
    have gRl := Sg _ _ gRl
    have gRv := WaysV.same Sg gRv
    have gSo := Sg _ _ gSo
    have gLa := Sg _ _ gLa
    have gCa := Sg _ _ gCa
    have gR0 := Sg _ _ gR0
    have S := S.trans Sg
    have etl := s_r1 _ _ etl
    refine ⟨_, rfl, .inl ⟨rfl, _, SqL.of etl⟩, ?_⟩
    refine ⟨_, rfl, _, rfl, (by show 1 ≤ sizeLine; decide), fun q1 hq1 => ?_⟩
    have z_q1 := same_new hq1 (HO.lst [V.ref r0])
    have n_q1 : q1 ∉ [tl] := fun z => by rw [List.mem_singleton.mp z, etl] at hq1; cases hq1
    have f_q1 : H q1 = none := tlH (S.trans hide_sub) n_q1 hq1
    have gQ1 : hide [tl] (upd J1 q1 (HO.lst [V.ref r0])) q1 = some (HO.lst [V.ref r0]) := (hide_at n_q1).trans upd_same
    have Sg := hide_same (B := [tl]) z_q1
    have gO := Sg _ _ gO
    have gT := Sg _ _ gT
    have gRl := Sg _ _ gRl
    have gRv := WaysV.same Sg gRv
    have gSo := Sg _ _ gSo
    have gLa := Sg _ _ gLa
    have gCa := Sg _ _ gCa
    have gR0 := Sg _ _ gR0
    have gR1 := Sg _ _ gR1
    have S := S.trans Sg
    have etl := z_q1 _ _ etl
    obtain ⟨HB2, hHB2⟩ : ∃ J, J = upd J1 q1 (HO.lst [V.ref r0]) := ⟨_, rfl⟩
    rw [← hHB2] at gQ1 gO gT gRl gRv gSo gLa gCa gR0 gR1 S etl ⊢
    refine ⟨rl, q1, _, _, rfl, rfl, (hide_sub _ _ gRl), (hide_sub _ _ gQ1), Nat.le_of_lt (small1000 (by show rv.length + 1 ≤ 1000; omega)), fun c1 hc1 => ?_⟩
    have z_c1 := same_new hc1 (HO.lst (rv ++ [V.ref r0]))
    have n_c1 : c1 ∉ [tl] := fun z => by rw [List.mem_singleton.mp z, etl] at hc1; cases hc1
    have f_c1 : H c1 = none := tlH (S.trans hide_sub) n_c1 hc1
    have gC1 : hide [tl] (upd HB2 c1 (HO.lst (rv ++ [V.ref r0]))) c1 = some (HO.lst (rv ++ [V.ref r0])) := (hide_at n_c1).trans upd_same
    have Sg := hide_same (B := [tl]) z_c1
    have gO := Sg _ _ gO
    have gT := Sg _ _ gT
    have gRl := Sg _ _ gRl
    have gRv := WaysV.same Sg gRv
    have gSo := Sg _ _ gSo
    have gLa := Sg _ _ gLa
    have gCa := Sg _ _ gCa
    have gR0 := Sg _ _ gR0
    have gR1 := Sg _ _ gR1
    have gQ1 := Sg _ _ gQ1
    have S := S.trans Sg
    have etl := z_c1 _ _ etl
    obtain ⟨HB3, hHB3⟩ : ∃ J, J = upd HB2 c1 (HO.lst (rv ++ [V.ref r0])) := ⟨_, rfl⟩
    rw [← hHB3] at gC1 gO gT gRl gRv gSo gLa gCa gR0 gR1 gQ1 S etl ⊢
    refine ⟨_, rfl, _, rfl, o, aStopped, dx, _, _, rfl, (hide_sub _ _ gO), TStopped.cl, AStopped.n_low, rfl, fun x1 dx1 hx1 hdx1 ne1 => ?_⟩
    have zm1 := same_make hx1 hdx1 ne1 (HO.own x1) (HO.ins aStraight dx1 [])
    have ex1 := upd_same (H := upd HB3 dx1 (HO.own x1)) (a := x1) (o := HO.ins aStraight dx1 [])
    obtain ⟨HM1, hHM1⟩ : ∃ J, J = upd (upd HB3 dx1 (HO.own x1)) x1 (HO.ins aStraight dx1 []) := ⟨_, rfl⟩
    rw [← hHM1] at zm1 ex1 ⊢
    refine ⟨x1, dx1, ca, p.2.ns.map (fun _ => (0 : Int)), lo, 1, rfl, ex1, zm1 _ _ (hide_sub _ _ gCa), (by rw [List.length_map]; omega), fun m1 HS1 sb1 fm1 eo1 em1 => ⟨rfl, ?_⟩⟩
    have sS1 := same_but zm1 sb1 hx1
    have n_x1 : x1 ∉ [tl] := fun z => by rw [List.mem_singleton.mp z, etl] at hx1; cases hx1
    have n_m1 : m1 ∉ [tl] := fun z => by have := zm1 _ _ etl; rw [← List.mem_singleton.mp z, fm1] at this; cases this
    have gX1 : hide [tl] HS1 x1 = some (.ins aStraight dx1 (strF (.ref m1) lo 1)) := (hide_at n_x1).trans eo1
    have gM1 : hide [tl] HS1 m1 = some (.lst ((p.2.ns.map fun _ => (0 : Int)).map V.int)) := (hide_at n_m1).trans em1
    have Sg := hide_same (B := [tl]) sS1
    have gO := Sg _ _ gO
    have gT := Sg _ _ gT
    have gRl := Sg _ _ gRl
    have gRv := WaysV.same Sg gRv
    have gSo := Sg _ _ gSo
    have gLa := Sg _ _ gLa
    have gCa := Sg _ _ gCa
    have gR0 := Sg _ _ gR0
    have gR1 := Sg _ _ gR1
    have gQ1 := Sg _ _ gQ1
    have gC1 := Sg _ _ gC1
    have S := S.trans Sg
    have etl := sS1 _ _ etl
    refine ⟨(by show 2 ≤ sizeLine; decide), fun y1 hy1 => ?_⟩
    have z_y1 := same_new hy1 (HO.tup [V.ref c1, V.ref x1])
    have n_y1 : y1 ∉ [tl] := fun z => by rw [List.mem_singleton.mp z, etl] at hy1; cases hy1
    have f_y1 : H y1 = none := tlH (S.trans hide_sub) n_y1 hy1
    have gY1 : hide [tl] (upd HS1 y1 (HO.tup [V.ref c1, V.ref x1])) y1 = some (HO.tup [V.ref c1, V.ref x1]) := (hide_at n_y1).trans upd_same
    have Sg := hide_same (B := [tl]) z_y1
    have gO := Sg _ _ gO
    have gT := Sg _ _ gT
    have gRl := Sg _ _ gRl
    have gRv := WaysV.same Sg gRv
    have gSo := Sg _ _ gSo
    have gLa := Sg _ _ gLa
    have gCa := Sg _ _ gCa
    have gR0 := Sg _ _ gR0
    have gR1 := Sg _ _ gR1
    have gQ1 := Sg _ _ gQ1
    have gC1 := Sg _ _ gC1
    have gX1 := Sg _ _ gX1
    have gM1 := Sg _ _ gM1
    have S := S.trans Sg
    have etl := z_y1 _ _ etl
    obtain ⟨HB4, hHB4⟩ : ∃ J, J = upd HS1 y1 (HO.tup [V.ref c1, V.ref x1]) := ⟨_, rfl⟩
    rw [← hHB4] at gY1 gO gT gRl gRv gSo gLa gCa gR0 gR1 gQ1 gC1 gX1 gM1 S etl ⊢
    have gPc1 : PcV aStraight H (hide [tl] HB4) (V.ref y1) (p.1 ++ [stopR p.2 lo], flatL p.2 lo) := ⟨y1, c1, x1, dx1, m1, _, rfl, gY1, f_c1, gC1, paired_app gRv (.cons ⟨r0, rfl, gR0⟩ .nil), gX1, gM1⟩
    refine ⟨tl, _, _, rfl, rfl, etl, small1000 (by first | omega | (simp only [List.length_append, List.length_cons, List.length_nil]; omega)), ?_⟩
    have Sg := hide_put (x := tl) (H := HB4) (HO.lst (tv ++ [V.ref y1]))
    have gO := Sg _ _ gO
    have gT := Sg _ _ gT
    have gRl := Sg _ _ gRl
    have gRv := WaysV.same Sg gRv
    have gSo := Sg _ _ gSo
    have gLa := Sg _ _ gLa
    have gCa := Sg _ _ gCa
    have gR0 := Sg _ _ gR0
    have gR1 := Sg _ _ gR1
    have gQ1 := Sg _ _ gQ1
    have gC1 := Sg _ _ gC1
    have gX1 := Sg _ _ gX1
    have gM1 := Sg _ _ gM1
    have gY1 := Sg _ _ gY1
    have gPc1 := PcV.same Sg gPc1
    have S := S.trans Sg
    have etl := upd_same (H := HB4) (a := tl) (o := HO.lst (tv ++ [V.ref y1]))
    obtain ⟨HB5, hHB5⟩ : ∃ J, J = upd HB4 tl (HO.lst (tv ++ [V.ref y1])) := ⟨_, rfl⟩
    rw [← hHB5] at gO gT gRl gRv gSo gLa gCa gR0 gR1 gQ1 gC1 gX1 gM1 gY1 gPc1 S etl ⊢
    refine ⟨_, rfl, .inl ⟨rfl, _, SqL.of etl⟩, ?_⟩
    refine ⟨_, rfl, _, rfl, r0, stopR p.2 lo, rfl, (hide_sub _ _ gR0), (by rw [stopR_len lp]; omega), fun v2 JNv2 s_v2 f0_v2 e_v2 => ?_⟩
    have n_v2 : v2 ∉ [tl] := fun z => by have := s_v2 _ _ etl; rw [← List.mem_singleton.mp z, e_v2] at this; cases this
    have g_v2 : hide [tl] JNv2 v2 = some (.tup ((negR (stopR p.2 lo)).map V.int)) := (hide_at n_v2).trans e_v2
    have Sg := hide_same (B := [tl]) s_v2
    have gO := Sg _ _ gO
    have gT := Sg _ _ gT
    have gRl := Sg _ _ gRl
    have gRv := WaysV.same Sg gRv
    have gSo := Sg _ _ gSo
    have gLa := Sg _ _ gLa
    have gCa := Sg _ _ gCa
    have gR0 := Sg _ _ gR0
    have gR1 := Sg _ _ gR1
    have gQ1 := Sg _ _ gQ1
    have gC1 := Sg _ _ gC1
    have gX1 := Sg _ _ gX1
    have gM1 := Sg _ _ gM1
    have gY1 := Sg _ _ gY1
    have gPc1 := PcV.same Sg gPc1
    have S := S.trans Sg
    have etl := s_v2 _ _ etl
    refine ⟨_, rfl, (by show 2 ≤ sizeLine; decide), fun q2 hq2 => ?_⟩
    have z_q2 := same_new hq2 (HO.lst [V.ref v2, V.ref r1])
    have n_q2 : q2 ∉ [tl] := fun z => by rw [List.mem_singleton.mp z, etl] at hq2; cases hq2
    have f_q2 : H q2 = none := tlH (S.trans hide_sub) n_q2 hq2
    have gQ2 : hide [tl] (upd JNv2 q2 (HO.lst [V.ref v2, V.ref r1])) q2 = some (HO.lst [V.ref v2, V.ref r1]) := (hide_at n_q2).trans upd_same
    have Sg := hide_same (B := [tl]) z_q2
    have gO := Sg _ _ gO
    have gT := Sg _ _ gT
    have gRl := Sg _ _ gRl
    have gRv := WaysV.same Sg gRv
    have gSo := Sg _ _ gSo
    have gLa := Sg _ _ gLa
    have gCa := Sg _ _ gCa
    have gR0 := Sg _ _ gR0
    have gR1 := Sg _ _ gR1
    have gQ1 := Sg _ _ gQ1
    have gC1 := Sg _ _ gC1
    have gX1 := Sg _ _ gX1
    have gM1 := Sg _ _ gM1
    have gY1 := Sg _ _ gY1
    have gPc1 := PcV.same Sg gPc1
    have g_v2 := Sg _ _ g_v2
    have S := S.trans Sg
    have etl := z_q2 _ _ etl
    obtain ⟨HB6, hHB6⟩ : ∃ J, J = upd JNv2 q2 (HO.lst [V.ref v2, V.ref r1]) := ⟨_, rfl⟩
    rw [← hHB6] at gQ2 gO gT gRl gRv gSo gLa gCa gR0 gR1 gQ1 gC1 gX1 gM1 gY1 gPc1 g_v2 S etl ⊢
    refine ⟨rl, q2, _, _, rfl, rfl, (hide_sub _ _ gRl), (hide_sub _ _ gQ2), Nat.le_of_lt (small1000 (by show rv.length + 2 ≤ 1000; omega)), fun c2 hc2 => ?_⟩
    have z_c2 := same_new hc2 (HO.lst (rv ++ [V.ref v2, V.ref r1]))
    have n_c2 : c2 ∉ [tl] := fun z => by rw [List.mem_singleton.mp z, etl] at hc2; cases hc2
    have f_c2 : H c2 = none := tlH (S.trans hide_sub) n_c2 hc2
    have gC2 : hide [tl] (upd HB6 c2 (HO.lst (rv ++ [V.ref v2, V.ref r1]))) c2 = some (HO.lst (rv ++ [V.ref v2, V.ref r1])) := (hide_at n_c2).trans upd_same
    have Sg := hide_same (B := [tl]) z_c2
    have gO := Sg _ _ gO
    have gT := Sg _ _ gT
    have gRl := Sg _ _ gRl
    have gRv := WaysV.same Sg gRv
    have gSo := Sg _ _ gSo
    have gLa := Sg _ _ gLa
    have gCa := Sg _ _ gCa
    have gR0 := Sg _ _ gR0
    have gR1 := Sg _ _ gR1
    have gQ1 := Sg _ _ gQ1
    have gC1 := Sg _ _ gC1
    have gX1 := Sg _ _ gX1
    have gM1 := Sg _ _ gM1
    have gY1 := Sg _ _ gY1
    have gPc1 := PcV.same Sg gPc1
    have g_v2 := Sg _ _ g_v2
    have gQ2 := Sg _ _ gQ2
    have S := S.trans Sg
    have etl := z_c2 _ _ etl
    obtain ⟨HB7, hHB7⟩ : ∃ J, J = upd HB6 c2 (HO.lst (rv ++ [V.ref v2, V.ref r1])) := ⟨_, rfl⟩
    rw [← hHB7] at gC2 gO gT gRl gRv gSo gLa gCa gR0 gR1 gQ1 gC1 gX1 gM1 gY1 gPc1 g_v2 gQ2 S etl ⊢
    refine ⟨_, rfl, (by show 2 ≤ sizeLine; decide), fun y2 hy2 => ?_⟩
    have z_y2 := same_new hy2 (HO.tup [V.ref c2, V.ref so])
    have n_y2 : y2 ∉ [tl] := fun z => by rw [List.mem_singleton.mp z, etl] at hy2; cases hy2
    have f_y2 : H y2 = none := tlH (S.trans hide_sub) n_y2 hy2
    have gY2 : hide [tl] (upd HB7 y2 (HO.tup [V.ref c2, V.ref so])) y2 = some (HO.tup [V.ref c2, V.ref so]) := (hide_at n_y2).trans upd_same
    have Sg := hide_same (B := [tl]) z_y2
    have gO := Sg _ _ gO
    have gT := Sg _ _ gT
    have gRl := Sg _ _ gRl
    have gRv := WaysV.same Sg gRv
    have gSo := Sg _ _ gSo
    have gLa := Sg _ _ gLa
    have gCa := Sg _ _ gCa
    have gR0 := Sg _ _ gR0
    have gR1 := Sg _ _ gR1
    have gQ1 := Sg _ _ gQ1
    have gC1 := Sg _ _ gC1
    have gX1 := Sg _ _ gX1
    have gM1 := Sg _ _ gM1
    have gY1 := Sg _ _ gY1
    have gPc1 := PcV.same Sg gPc1
    have g_v2 := Sg _ _ g_v2
    have gQ2 := Sg _ _ gQ2
    have gC2 := Sg _ _ gC2
    have S := S.trans Sg
    have etl := z_y2 _ _ etl
    obtain ⟨HB8, hHB8⟩ : ∃ J, J = upd HB7 y2 (HO.tup [V.ref c2, V.ref so]) := ⟨_, rfl⟩
    rw [← hHB8] at gY2 gO gT gRl gRv gSo gLa gCa gR0 gR1 gQ1 gC1 gX1 gM1 gY1 gPc1 g_v2 gQ2 gC2 S etl ⊢
    have gPc2 : PcV aStraight H (hide [tl] HB8) (V.ref y2) (p.1 ++ [negR (stopR p.2 lo), stopR p.2 hi], p.2) := ⟨y2, c2, so, dxs, la, _, rfl, gY2, f_c2, gC2, paired_app gRv (.cons ⟨v2, rfl, g_v2⟩ (.cons ⟨r1, rfl, gR1⟩ .nil)), gSo, gLa⟩
    refine ⟨tl, _, _, rfl, rfl, etl, small1000 (by first | omega | (simp only [List.length_append, List.length_cons, List.length_nil]; omega)), ?_⟩
    have Sg := hide_put (x := tl) (H := HB8) (HO.lst (tv ++ [V.ref y1] ++ [V.ref y2]))
    have gO := Sg _ _ gO
    have gT := Sg _ _ gT
    have gRl := Sg _ _ gRl
    have gRv := WaysV.same Sg gRv
    have gSo := Sg _ _ gSo
    have gLa := Sg _ _ gLa
    have gCa := Sg _ _ gCa
    have gR0 := Sg _ _ gR0
    have gR1 := Sg _ _ gR1
    have gQ1 := Sg _ _ gQ1
    have gC1 := Sg _ _ gC1
    have gX1 := Sg _ _ gX1
    have gM1 := Sg _ _ gM1
    have gY1 := Sg _ _ gY1
    have gPc1 := PcV.same Sg gPc1
    have g_v2 := Sg _ _ g_v2
    have gQ2 := Sg _ _ gQ2
    have gC2 := Sg _ _ gC2
    have gY2 := Sg _ _ gY2
    have gPc2 := PcV.same Sg gPc2
    have S := S.trans Sg
    have etl := upd_same (H := HB8) (a := tl) (o := HO.lst (tv ++ [V.ref y1] ++ [V.ref y2]))
    obtain ⟨HB9, hHB9⟩ : ∃ J, J = upd HB8 tl (HO.lst (tv ++ [V.ref y1] ++ [V.ref y2])) := ⟨_, rfl⟩
    rw [← hHB9] at gO gT gRl gRv gSo gLa gCa gR0 gR1 gQ1 gC1 gX1 gM1 gY1 gPc1 g_v2 gQ2 gC2 gY2 gPc2 S etl ⊢
    refine ⟨_, rfl, .inl ⟨rfl, _, SqL.of etl⟩, ?_⟩
    refine ⟨_, rfl, _, rfl, r1, stopR p.2 hi, rfl, (hide_sub _ _ gR1), (by rw [stopR_len lp]; omega), fun v3 JNv3 s_v3 f0_v3 e_v3 => ?_⟩
    have n_v3 : v3 ∉ [tl] := fun z => by have := s_v3 _ _ etl; rw [← List.mem_singleton.mp z, e_v3] at this; cases this
    have g_v3 : hide [tl] JNv3 v3 = some (.tup ((negR (stopR p.2 hi)).map V.int)) := (hide_at n_v3).trans e_v3
    have Sg := hide_same (B := [tl]) s_v3
    have gO := Sg _ _ gO
    have gT := Sg _ _ gT
    have gRl := Sg _ _ gRl
    have gRv := WaysV.same Sg gRv
    have gSo := Sg _ _ gSo
    have gLa := Sg _ _ gLa
    have gCa := Sg _ _ gCa
    have gR0 := Sg _ _ gR0
    have gR1 := Sg _ _ gR1
    have gQ1 := Sg _ _ gQ1
    have gC1 := Sg _ _ gC1
    have gX1 := Sg _ _ gX1
    have gM1 := Sg _ _ gM1
    have gY1 := Sg _ _ gY1
    have gPc1 := PcV.same Sg gPc1
    have g_v2 := Sg _ _ g_v2
    have gQ2 := Sg _ _ gQ2
    have gC2 := Sg _ _ gC2
    have gY2 := Sg _ _ gY2
    have gPc2 := PcV.same Sg gPc2
    have S := S.trans Sg
    have etl := s_v3 _ _ etl
    refine ⟨(by show 1 ≤ sizeLine; decide), fun q3 hq3 => ?_⟩
    have z_q3 := same_new hq3 (HO.lst [V.ref v3])
    have n_q3 : q3 ∉ [tl] := fun z => by rw [List.mem_singleton.mp z, etl] at hq3; cases hq3
    have f_q3 : H q3 = none := tlH (S.trans hide_sub) n_q3 hq3
    have gQ3 : hide [tl] (upd JNv3 q3 (HO.lst [V.ref v3])) q3 = some (HO.lst [V.ref v3]) := (hide_at n_q3).trans upd_same
    have Sg := hide_same (B := [tl]) z_q3
    have gO := Sg _ _ gO
    have gT := Sg _ _ gT
    have gRl := Sg _ _ gRl
    have gRv := WaysV.same Sg gRv
    have gSo := Sg _ _ gSo
    have gLa := Sg _ _ gLa
    have gCa := Sg _ _ gCa
    have gR0 := Sg _ _ gR0
    have gR1 := Sg _ _ gR1
    have gQ1 := Sg _ _ gQ1
    have gC1 := Sg _ _ gC1
    have gX1 := Sg _ _ gX1
    have gM1 := Sg _ _ gM1
    have gY1 := Sg _ _ gY1
    have gPc1 := PcV.same Sg gPc1
    have g_v2 := Sg _ _ g_v2
    have gQ2 := Sg _ _ gQ2
    have gC2 := Sg _ _ gC2
    have gY2 := Sg _ _ gY2
    have gPc2 := PcV.same Sg gPc2
    have g_v3 := Sg _ _ g_v3
    have S := S.trans Sg
    have etl := z_q3 _ _ etl
    obtain ⟨HB10, hHB10⟩ : ∃ J, J = upd JNv3 q3 (HO.lst [V.ref v3]) := ⟨_, rfl⟩
    rw [← hHB10] at gQ3 gO gT gRl gRv gSo gLa gCa gR0 gR1 gQ1 gC1 gX1 gM1 gY1 gPc1 g_v2 gQ2 gC2 gY2 gPc2 g_v3 S etl ⊢
    refine ⟨rl, q3, _, _, rfl, rfl, (hide_sub _ _ gRl), (hide_sub _ _ gQ3), Nat.le_of_lt (small1000 (by show rv.length + 1 ≤ 1000; omega)), fun c3 hc3 => ?_⟩
    have z_c3 := same_new hc3 (HO.lst (rv ++ [V.ref v3]))
    have n_c3 : c3 ∉ [tl] := fun z => by rw [List.mem_singleton.mp z, etl] at hc3; cases hc3
    have f_c3 : H c3 = none := tlH (S.trans hide_sub) n_c3 hc3
    have gC3 : hide [tl] (upd HB10 c3 (HO.lst (rv ++ [V.ref v3]))) c3 = some (HO.lst (rv ++ [V.ref v3])) := (hide_at n_c3).trans upd_same
    have Sg := hide_same (B := [tl]) z_c3
    have gO := Sg _ _ gO
    have gT := Sg _ _ gT
    have gRl := Sg _ _ gRl
    have gRv := WaysV.same Sg gRv
    have gSo := Sg _ _ gSo
    have gLa := Sg _ _ gLa
    have gCa := Sg _ _ gCa
    have gR0 := Sg _ _ gR0
    have gR1 := Sg _ _ gR1
    have gQ1 := Sg _ _ gQ1
    have gC1 := Sg _ _ gC1
    have gX1 := Sg _ _ gX1
    have gM1 := Sg _ _ gM1
    have gY1 := Sg _ _ gY1
    have gPc1 := PcV.same Sg gPc1
    have g_v2 := Sg _ _ g_v2
    have gQ2 := Sg _ _ gQ2
    have gC2 := Sg _ _ gC2
    have gY2 := Sg _ _ gY2
    have gPc2 := PcV.same Sg gPc2
    have g_v3 := Sg _ _ g_v3
    have gQ3 := Sg _ _ gQ3
    have S := S.trans Sg
    have etl := z_c3 _ _ etl
    obtain ⟨HB11, hHB11⟩ : ∃ J, J = upd HB10 c3 (HO.lst (rv ++ [V.ref v3])) := ⟨_, rfl⟩
    rw [← hHB11] at gC3 gO gT gRl gRv gSo gLa gCa gR0 gR1 gQ1 gC1 gX1 gM1 gY1 gPc1 g_v2 gQ2 gC2 gY2 gPc2 g_v3 gQ3 S etl ⊢
    refine ⟨_, rfl, _, rfl, o, aStopped, dx, _, _, rfl, (hide_sub _ _ gO), TStopped.cl, AStopped.n_high, rfl, fun x3 dx3 hx3 hdx3 ne3 => ?_⟩
    have zm3 := same_make hx3 hdx3 ne3 (HO.own x3) (HO.ins aStraight dx3 [])
    have ex3 := upd_same (H := upd HB11 dx3 (HO.own x3)) (a := x3) (o := HO.ins aStraight dx3 [])
    obtain ⟨HM3, hHM3⟩ : ∃ J, J = upd (upd HB11 dx3 (HO.own x3)) x3 (HO.ins aStraight dx3 []) := ⟨_, rfl⟩
    rw [← hHM3] at zm3 ex3 ⊢
    refine ⟨x3, dx3, ca, p.2.ns.map (fun _ => (0 : Int)), hi, 1, rfl, ex3, zm3 _ _ (hide_sub _ _ gCa), (by rw [List.length_map]; omega), fun m3 HS3 sb3 fm3 eo3 em3 => ⟨rfl, ?_⟩⟩
    have sS3 := same_but zm3 sb3 hx3
    have n_x3 : x3 ∉ [tl] := fun z => by rw [List.mem_singleton.mp z, etl] at hx3; cases hx3
    have n_m3 : m3 ∉ [tl] := fun z => by have := zm3 _ _ etl; rw [← List.mem_singleton.mp z, fm3] at this; cases this
    have gX3 : hide [tl] HS3 x3 = some (.ins aStraight dx3 (strF (.ref m3) hi 1)) := (hide_at n_x3).trans eo3
    have gM3 : hide [tl] HS3 m3 = some (.lst ((p.2.ns.map fun _ => (0 : Int)).map V.int)) := (hide_at n_m3).trans em3
    have Sg := hide_same (B := [tl]) sS3
    have gO := Sg _ _ gO
    have gT := Sg _ _ gT
    have gRl := Sg _ _ gRl
    have gRv := WaysV.same Sg gRv
    have gSo := Sg _ _ gSo
    have gLa := Sg _ _ gLa
    have gCa := Sg _ _ gCa
    have gR0 := Sg _ _ gR0
    have gR1 := Sg _ _ gR1
    have gQ1 := Sg _ _ gQ1
    have gC1 := Sg _ _ gC1
    have gX1 := Sg _ _ gX1
    have gM1 := Sg _ _ gM1
    have gY1 := Sg _ _ gY1
    have gPc1 := PcV.same Sg gPc1
    have g_v2 := Sg _ _ g_v2
    have gQ2 := Sg _ _ gQ2
    have gC2 := Sg _ _ gC2
    have gY2 := Sg _ _ gY2
    have gPc2 := PcV.same Sg gPc2
    have g_v3 := Sg _ _ g_v3
    have gQ3 := Sg _ _ gQ3
    have gC3 := Sg _ _ gC3
    have S := S.trans Sg
    have etl := sS3 _ _ etl
    refine ⟨(by show 2 ≤ sizeLine; decide), fun y3 hy3 => ?_⟩
    have z_y3 := same_new hy3 (HO.tup [V.ref c3, V.ref x3])
    have n_y3 : y3 ∉ [tl] := fun z => by rw [List.mem_singleton.mp z, etl] at hy3; cases hy3
    have f_y3 : H y3 = none := tlH (S.trans hide_sub) n_y3 hy3
    have gY3 : hide [tl] (upd HS3 y3 (HO.tup [V.ref c3, V.ref x3])) y3 = some (HO.tup [V.ref c3, V.ref x3]) := (hide_at n_y3).trans upd_same
    have Sg := hide_same (B := [tl]) z_y3
    have gO := Sg _ _ gO
    have gT := Sg _ _ gT
    have gRl := Sg _ _ gRl
    have gRv := WaysV.same Sg gRv
    have gSo := Sg _ _ gSo
    have gLa := Sg _ _ gLa
    have gCa := Sg _ _ gCa
    have gR0 := Sg _ _ gR0
    have gR1 := Sg _ _ gR1
    have gQ1 := Sg _ _ gQ1
    have gC1 := Sg _ _ gC1
    have gX1 := Sg _ _ gX1
    have gM1 := Sg _ _ gM1
    have gY1 := Sg _ _ gY1
    have gPc1 := PcV.same Sg gPc1
    have g_v2 := Sg _ _ g_v2
    have gQ2 := Sg _ _ gQ2
    have gC2 := Sg _ _ gC2
    have gY2 := Sg _ _ gY2
    have gPc2 := PcV.same Sg gPc2
    have g_v3 := Sg _ _ g_v3
    have gQ3 := Sg _ _ gQ3
    have gC3 := Sg _ _ gC3
    have gX3 := Sg _ _ gX3
    have gM3 := Sg _ _ gM3
    have S := S.trans Sg
    have etl := z_y3 _ _ etl
    obtain ⟨HB12, hHB12⟩ : ∃ J, J = upd HS3 y3 (HO.tup [V.ref c3, V.ref x3]) := ⟨_, rfl⟩
    rw [← hHB12] at gY3 gO gT gRl gRv gSo gLa gCa gR0 gR1 gQ1 gC1 gX1 gM1 gY1 gPc1 g_v2 gQ2 gC2 gY2 gPc2 g_v3 gQ3 gC3 gX3 gM3 S etl ⊢
    have gPc3 : PcV aStraight H (hide [tl] HB12) (V.ref y3) (p.1 ++ [negR (stopR p.2 hi)], flatL p.2 hi) := ⟨y3, c3, x3, dx3, m3, _, rfl, gY3, f_c3, gC3, paired_app gRv (.cons ⟨v3, rfl, g_v3⟩ .nil), gX3, gM3⟩
    refine ⟨tl, _, _, rfl, rfl, etl, small1000 (by first | omega | (simp only [List.length_append, List.length_cons, List.length_nil]; omega)), ?_⟩
    have Sg := hide_put (x := tl) (H := HB12) (HO.lst (tv ++ [V.ref y1] ++ [V.ref y2] ++ [V.ref y3]))
    have gO := Sg _ _ gO
    have gT := Sg _ _ gT
    have gRl := Sg _ _ gRl
    have gRv := WaysV.same Sg gRv
    have gSo := Sg _ _ gSo
    have gLa := Sg _ _ gLa
    have gCa := Sg _ _ gCa
    have gR0 := Sg _ _ gR0
    have gR1 := Sg _ _ gR1
    have gQ1 := Sg _ _ gQ1
    have gC1 := Sg _ _ gC1
    have gX1 := Sg _ _ gX1
    have gM1 := Sg _ _ gM1
    have gY1 := Sg _ _ gY1
    have gPc1 := PcV.same Sg gPc1
    have g_v2 := Sg _ _ g_v2
    have gQ2 := Sg _ _ gQ2
    have gC2 := Sg _ _ gC2
    have gY2 := Sg _ _ gY2
    have gPc2 := PcV.same Sg gPc2
    have g_v3 := Sg _ _ g_v3
    have gQ3 := Sg _ _ gQ3
    have gC3 := Sg _ _ gC3
    have gX3 := Sg _ _ gX3
    have gM3 := Sg _ _ gM3
    have gY3 := Sg _ _ gY3
    have gPc3 := PcV.same Sg gPc3
    have S := S.trans Sg
    have etl := upd_same (H := HB12) (a := tl) (o := HO.lst (tv ++ [V.ref y1] ++ [V.ref y2] ++ [V.ref y3]))
    obtain ⟨HB13, hHB13⟩ : ∃ J, J = upd HB12 tl (HO.lst (tv ++ [V.ref y1] ++ [V.ref y2] ++ [V.ref y3])) := ⟨_, rfl⟩
    rw [← hHB13] at gO gT gRl gRv gSo gLa gCa gR0 gR1 gQ1 gC1 gX1 gM1 gY1 gPc1 g_v2 gQ2 gC2 gY2 gPc2 g_v3 gQ3 gC3 gX3 gM3 gY3 gPc3 S etl ⊢
    refine ⟨tv ++ [V.ref y1] ++ [V.ref y2] ++ [V.ref y3], _, _, _, _, _, rfl, of2.trans (off_hide S), etl, ?_⟩
    rw [flat_snoc _ hp]
    have h0 := Paired.mapP htv fun _ _ z => PcV.same S z
    have h3 := paired_snoc gPc3 (paired_snoc gPc2 (paired_snoc gPc1 h0))
    rw [show stopP lo hi p = [(p.1 ++ [stopR p.2 lo], flatL p.2 lo)] ++ [(p.1 ++ [negR (stopR p.2 lo), stopR p.2 hi], p.2)] ++ [(p.1 ++ [negR (stopR p.2 hi)], flatL p.2 hi)] from rfl, ← List.append_assoc, ← List.append_assoc]
    exact h3
  rintro σ H' ⟨tv, o2, o3, o4, o5, o6, rfl, of2, etl, htv⟩
  rw [llv, ← pieces_len, List.take_length] at htv
  refine ⟨_, rfl, q tl tv H' (fun b o e => of2 _ _ (s2 _ _ (z1 _ _ e)) (fun z => by rw [List.mem_singleton.mp z, htl] at e; cases e)) htl etl (Paired.mapP htv fun _ _ z => PcV.same hide_sub z)⟩
noncomputable abbrev s_parted_pieces : Stmt := top 31
theorem sc_parted_pieces : FnScope ["rule", "turned_about", "ones", "others"] ["rule"] (defScope s_parted_pieces) := ⟨rfl, rfl, rfl, by decide +kernel, rfl, by decide +kernel, by decide +kernel⟩
theorem ok_parted_pieces {k : Nat} {f : Addr} {fd : FuncData} {d : Nat} {aStraight aStopped aParted : Addr} (TStraight : ClsF K mg "Straight" aStraight) (AStraight : AtStraight K aStraight) (TStopped : ClsF K mg "Stopped" aStopped) (AStopped : AtStopped K aStopped) (TParted : ClsF K mg "Parted" aParted) (AParted : AtParted K aParted) (Y : Kits K aStraight aStopped aParted) (F : Fun K "parted_pieces" "parted_pieces" s_parted_pieces f fd) (B : Bl mg) (c_other_side : Fn P w K mg base "other_side" ["row"] k spOther) (c_listed : Fn P w K mg base "listed" ["rule"] k (spListed aStraight aStopped aParted anyK d)) : FnOk P w K mg base CX0 (k + 1) f fd ["rule"] (spListed aStraight aStopped aParted isPrt (d + 1)) := by
  refine F.ok sc_parted_pieces (fun vs H Q E h => ?_) (fun cdv A outer s H vs Q E hr h => ?_)
  · obtain ⟨v, n, t, rfl, _⟩ := h
    rfl
  obtain ⟨v, n, t, rfl, kd, dp, d100, hR, SH, n1, n8, TF, c60, q⟩ := h
  obtain ⟨r, x, y, rfl⟩ := isPrt_ex kd
  obtain ⟨o, dx, ra, u, w2, rfl, ins, era, hu, hw⟩ := hR
  refine ⟨_, (pss_cons (ps_set (i := 1) sc_parted_pieces.nd rfl (Or.inr rfl) (pe_callF c_other_side hr rfl (pa_cons (pe_fld (L2.pvj 0) rfl) pa_nil)))
    (pss_cons (ps_comp (i := 2) sc_parted_pieces.nd rfl rfl (own := ["rows", "straight"]) (caps := [(0, "rule")]) (blk_cap (S := defScope s_parted_pieces) (N := ["rule", "turned_about", "ones", "others"]) rfl (by decide +kernel) rfl ⟨_, rfl⟩ rfl (by decide +kernel) (by decide +kernel)) rfl (pi_list (pe_callF c_listed hr rfl (pa_cons (pe_fld (L2.pvj 0) rfl) pa_nil))) (fun _ _ _ _ => show PG _ _ (gTup K 2 (gCons (gName 0) (gCons (gName 1) gNil))) from pg_tup (n := 2) rfl (pgs_cons (pg_name (i := 0) (show (["rows", "straight", "rule"] : List Str).Nodup by decide +kernel) rfl (Or.inl rfl)) (pgs_cons (pg_name (i := 1) (show (["rows", "straight", "rule"] : List Str).Nodup by decide +kernel) rfl (Or.inl rfl)) pgs_nil))) (fun _ _ _ _ => (pe_tup (pa_cons (pe_op jcat (pe_lst (pa_cons (show PE _ _ (tFld K _ _) from pe_fld (L2.pvj 2) rfl) pa_nil)) (L2.pvj 0)) (pa_cons (L2.pvj 1) pa_nil)))) rfl)
    (pss_cons (ps_comp (i := 3) sc_parted_pieces.nd rfl rfl (own := ["rows", "straight"]) (caps := [(1, "turned_about")]) (blk_cap (S := defScope s_parted_pieces) (N := ["rule", "turned_about", "ones", "others"]) rfl (by decide +kernel) rfl ⟨_, rfl⟩ rfl (by decide +kernel) (by decide +kernel)) rfl (pi_list (pe_callF c_listed hr rfl (pa_cons (pe_fld (L2.pvj 0) rfl) pa_nil))) (fun _ _ _ _ => show PG _ _ (gTup K 2 (gCons (gName 0) (gCons (gName 1) gNil))) from pg_tup (n := 2) rfl (pgs_cons (pg_name (i := 0) (show (["rows", "straight", "turned_about"] : List Str).Nodup by decide +kernel) rfl (Or.inl rfl)) (pgs_cons (pg_name (i := 1) (show (["rows", "straight", "turned_about"] : List Str).Nodup by decide +kernel) rfl (Or.inl rfl)) pgs_nil))) (fun _ _ _ _ => (pe_tup (pa_cons (pe_op jcat (pe_lst (pa_cons (L2.pvj 2) pa_nil)) (L2.pvj 0)) (pa_cons (L2.pvj 1) pa_nil)))) rfl)
    (pss_one (ps_ret (pe_op jcat (L2.pvj 2) (L2.pvj 3))))))), ?_⟩
  try dsimp only [cxOf, Cx.nox, Cx.wish]
  have cnt : countM x + countM y ≤ 60 := c60
  have d1 : max x.dep y.dep + 1 ≤ 100 := d100
  have dp2 : max x.dep y.dep ≤ d := Nat.le_of_succ_le_succ dp
  have lr := SH.1
  refine ⟨_, rfl, o, aParted, dx, _, _, rfl, ins, TParted.cl, AParted.n_row, rfl, ra, r, rfl, era, (by omega), fun ta H1 s1 fta eta => ?_⟩
  refine ⟨_, rfl, o, aParted, dx, _, _, rfl, (s1 _ _ ins), TParted.cl, AParted.n_rule, rfl, u, n, x, rfl, rfl, (by omega), (by omega), hu.same s1, SH.2.1, n1, n8, TF.2.1, (by omega), fun l1 lv1 HL1 sL1 nl1 el1 hlv1 => ?_⟩
  have llv1 : lv1.length = countM x := (Paired.length hlv1).trans (pieces_len x)
  refine ⟨l1, rfl, ⟨_, SqL.of el1⟩, comp_list (K := K) (a := l1) (xs := lv1)
    (fun i ys σ H' => Paired (PcV aStraight H H') ys (((piecesM x).take i).map (fun p => ([r] ++ p.1, p.2))) ∧ (∃ o1 o2, σ = [o1, o2, some (.ref o)]) ∧ Same HL1 H')
    ⟨.nil, ⟨none, none, rfl⟩, Same.refl _⟩ (fun i ys σ H' hi ⟨e1, _, sm⟩ => ⟨SqL.of (sm _ _ el1), by have := Paired.length e1; rw [List.length_map, List.length_take] at this; omega⟩) (Nat.le_of_lt (small1000 (by omega))) ?_ ?_⟩
  · rintro i x ys σ H' hi ⟨hys, ⟨o1, o2, rfl⟩, sm⟩
    obtain ⟨p, hp, pc⟩ := paired_get hlv1 hi
    obtain ⟨tt, rl, so, dxs, la, rv, rfl, eT, frl, eRl, eRv, eSo, eLa⟩ := pc.same sm
    have rfew := rows_few p (List.mem_of_getElem? hp)
    have lrv : rv.length = p.1.length := Paired.length eRv
    refine ⟨tt, _, rfl, SqT.of eT, rfl, _, _, rfl, _, _, rfl, rfl, ?_⟩
    refine ⟨_, rfl, o, aParted, dx, _, _, rfl, ((s1.trans (sL1.trans sm)) _ _ ins), TParted.cl, AParted.n_row, rfl, (by show 1 ≤ sizeLine; decide), fun q1 hq1 => ?_⟩
    have y1 := same_new hq1 (HO.lst [V.ref ra])
    refine ⟨_, rfl, q1, rl, _, _, rfl, rfl, upd_same, y1 _ _ eRl, Nat.le_of_lt (small1000 (by show 1 + rv.length ≤ 1000; omega)), fun c1 hc1 => ?_⟩
    have y2 := same_new hc1 (HO.lst ([V.ref ra] ++ rv))
    have ec1 := upd_same (H := upd H' q1 (HO.lst [V.ref ra])) (a := c1) (o := HO.lst ([V.ref ra] ++ rv))
    refine ⟨_, rfl, (by show 2 ≤ sizeLine; decide), fun y hy => ?_⟩
    have y3 := same_new hy (HO.tup [V.ref c1, V.ref so])
    have sY := y1.trans (y2.trans y3)
    refine ⟨?_, ⟨_, _, rfl⟩, sm.trans sY⟩
    rw [take_snoc hp, List.map_append]
    refine paired_snoc (R := PcV aStraight H _) (y := ([r] ++ p.1, p.2)) ⟨y, c1, so, dxs, la, _, rfl, upd_same, ((s1.trans sL1).trans (sm.trans y1)).free hc1, y3 _ _ ec1, paired_app (xs := [V.ref ra]) (ys := [r]) (.cons ⟨ra, rfl, (sm.trans sY) _ _ (sL1 _ _ (s1 _ _ era))⟩ .nil) (WaysV.same sY eRv), sY _ _ eSo, sY _ _ eLa⟩ (Paired.mapP hys fun _ _ z => PcV.same sY z)
  rintro cv1 σ HE1 ⟨hcv1, ⟨o1, o2, rfl⟩, sE1⟩ c1 hc1
  rw [llv1, ← pieces_len, List.take_length] at hcv1
  have zC1 := same_new hc1 (HO.lst cv1)
  have eC1 := upd_same (H := HE1) (a := c1) (o := HO.lst cv1)
  obtain ⟨HC1, hHC1⟩ : ∃ J, J = upd HE1 c1 (HO.lst cv1) := ⟨_, rfl⟩
  rw [← hHC1] at zC1 eC1 ⊢
  have hcw1 := Paired.mapP hcv1 fun _ _ z => PcV.same zC1 z
  refine ⟨_, rfl, o, aParted, dx, _, _, rfl, ((s1.trans (sL1.trans (sE1.trans zC1))) _ _ ins), TParted.cl, AParted.n_other, rfl, w2, n, y, rfl, rfl, (by omega), (by omega), hw.same (s1.trans (sL1.trans (sE1.trans zC1))), SH.2.2, n1, n8, TF.2.2, (by omega), fun l2 lv2 HL2 sL2 nl2 el2 hlv2 => ?_⟩
  have llv2 : lv2.length = countM y := (Paired.length hlv2).trans (pieces_len y)
  refine ⟨l2, rfl, ⟨_, SqL.of el2⟩, comp_list (K := K) (a := l2) (xs := lv2)
    (fun i ys σ H' => Paired (PcV aStraight H H') ys (((piecesM y).take i).map (fun p => ([negR r] ++ p.1, p.2))) ∧ (∃ o1 o2, σ = [o1, o2, some (.ref ta)]) ∧ Same HL2 H')
    ⟨.nil, ⟨none, none, rfl⟩, Same.refl _⟩ (fun i ys σ H' hi ⟨e1, _, sm⟩ => ⟨SqL.of (sm _ _ el2), by have := Paired.length e1; rw [List.length_map, List.length_take] at this; omega⟩) (Nat.le_of_lt (small1000 (by omega))) ?_ ?_⟩
  · rintro i x ys σ H' hi ⟨hys, ⟨o1, o2, rfl⟩, sm⟩
    obtain ⟨p, hp, pc⟩ := paired_get hlv2 hi
    obtain ⟨tt, rl, so, dxs, la, rv, rfl, eT, frl, eRl, eRv, eSo, eLa⟩ := pc.same sm
    have rfew := rows_few p (List.mem_of_getElem? hp)
    have lrv : rv.length = p.1.length := Paired.length eRv
    refine ⟨tt, _, rfl, SqT.of eT, rfl, _, _, rfl, _, _, rfl, rfl, ?_⟩
    refine ⟨_, rfl, (by show 1 ≤ sizeLine; decide), fun q1 hq1 => ?_⟩
    have y1 := same_new hq1 (HO.lst [V.ref ta])
    refine ⟨_, rfl, q1, rl, _, _, rfl, rfl, upd_same, y1 _ _ eRl, Nat.le_of_lt (small1000 (by show 1 + rv.length ≤ 1000; omega)), fun c1 hc1 => ?_⟩
    have y2 := same_new hc1 (HO.lst ([V.ref ta] ++ rv))
    have ec1 := upd_same (H := upd H' q1 (HO.lst [V.ref ta])) (a := c1) (o := HO.lst ([V.ref ta] ++ rv))
    refine ⟨_, rfl, (by show 2 ≤ sizeLine; decide), fun y hy => ?_⟩
    have y3 := same_new hy (HO.tup [V.ref c1, V.ref so])
    have sY := y1.trans (y2.trans y3)
    refine ⟨?_, ⟨_, _, rfl⟩, sm.trans sY⟩
    rw [take_snoc hp, List.map_append]
    refine paired_snoc (R := PcV aStraight H _) (y := ([negR r] ++ p.1, p.2)) ⟨y, c1, so, dxs, la, _, rfl, upd_same, ((s1.trans (sL1.trans (sE1.trans (zC1.trans sL2)))).trans (sm.trans y1)).free hc1, y3 _ _ ec1, paired_app (xs := [V.ref ta]) (ys := [negR r]) (.cons ⟨ta, rfl, (sm.trans sY) _ _ (sL2 _ _ (zC1 _ _ (sE1 _ _ (sL1 _ _ eta))))⟩ .nil) (WaysV.same sY eRv), sY _ _ eSo, sY _ _ eLa⟩ (Paired.mapP hys fun _ _ z => PcV.same sY z)
  rintro cv2 σ HE2 ⟨hcv2, ⟨o1, o2, rfl⟩, sE2⟩ c2 hc2
  rw [llv2, ← pieces_len, List.take_length] at hcv2
  have zC2 := same_new hc2 (HO.lst cv2)
  have eC2 := upd_same (H := HE2) (a := c2) (o := HO.lst cv2)
  obtain ⟨HC2, hHC2⟩ : ∃ J, J = upd HE2 c2 (HO.lst cv2) := ⟨_, rfl⟩
  rw [← hHC2] at zC2 eC2 ⊢
  have hcw2 := Paired.mapP hcv2 fun _ _ z => PcV.same zC2 z
  have sAll := s1.trans (sL1.trans (sE1.trans (zC1.trans (sL2.trans (sE2.trans zC2)))))
  have s12 := sL2.trans (sE2.trans zC2)
  have lc1 := Paired.length hcv1
  have lc2 := Paired.length hcv2
  rw [List.length_map, pieces_len] at lc1 lc2
  refine ⟨_, rfl, _, rfl, c1, c2, _, _, rfl, rfl, s12 _ _ eC1, eC2, Nat.le_of_lt (small1000 (by omega)), fun c hc => ?_⟩
  have zF := same_new hc (HO.lst (cv1 ++ cv2))
  exact q c _ _ (sAll.trans zF) (sAll.free hc) upd_same (paired_app (Paired.mapP hcw1 fun _ _ z => PcV.same (s12.trans zF) z) (Paired.mapP hcw2 fun _ _ z => PcV.same zF z))
noncomputable abbrev s_listed : Stmt := top 30
theorem sc_listed : FnScope ["rule"] ["rule"] (defScope s_listed) := ⟨rfl, rfl, rfl, by decide +kernel, rfl, by decide +kernel, by decide +kernel⟩
theorem ok_listed {k : Nat} {f : Addr} {fd : FuncData} {d : Nat} {aStraight aStopped aParted : Addr} (TStraight : ClsF K mg "Straight" aStraight) (AStraight : AtStraight K aStraight) (TStopped : ClsF K mg "Stopped" aStopped) (AStopped : AtStopped K aStopped) (TParted : ClsF K mg "Parted" aParted) (AParted : AtParted K aParted) (Y : Kits K aStraight aStopped aParted) (F : Fun K "listed" "listed" s_listed f fd) (B : Bl mg) (c_stopped_pieces : Fn P w K mg base "stopped_pieces" ["rule"] k (spListed aStraight aStopped aParted isStp (d + 1))) (c_parted_pieces : Fn P w K mg base "parted_pieces" ["rule"] k (spListed aStraight aStopped aParted isPrt (d + 1))) : FnOk P w K mg base CX0 (k + 1) f fd ["rule"] (spListed aStraight aStopped aParted anyK (d + 1)) := by
  refine F.ok sc_listed (fun vs H Q E h => ?_) (fun cdv A outer s H vs Q E hr h => ?_)
  · obtain ⟨v, n, t, rfl, _⟩ := h
    rfl
  obtain ⟨v, n, t, rfl, kd, dp, d100, hR, SH, n1, n8, TF, c60, q⟩ := h
  refine ⟨_, (pss_cons (ps_if (pt_val (pe_callB (show CallR _ _ (rInstO K) from call_isinstO) rfl B.isinstance_ boot_isinstance_ (pa_cons (L2.pvj 0) (pa_cons (pe_cls TStopped rfl) pa_nil)))) (pss_one (ps_ret (pe_callF c_stopped_pieces hr rfl (pa_cons (L2.pvj 0) pa_nil)))) pss_nil)
    (pss_cons (ps_if (pt_val (pe_callB (show CallR _ _ (rInstO K) from call_isinstO) rfl B.isinstance_ boot_isinstance_ (pa_cons (L2.pvj 0) (pa_cons (pe_cls TParted rfl) pa_nil)))) (pss_one (ps_ret (pe_callF c_parted_pieces hr rfl (pa_cons (L2.pvj 0) pa_nil)))) pss_nil)
    (pss_one (ps_ret (pe_lst (pa_cons (pe_tup (pa_cons (pe_lst pa_nil) (pa_cons (L2.pvj 0) pa_nil))) pa_nil)))))), ?_⟩
  try dsimp only [cxOf, Cx.nox, Cx.wish]
  cases t with
  | str ns a d0 =>
    have hR' := hR
    obtain ⟨o, dx, la, rfl, ins, ela⟩ := hR
    refine ⟨_, rfl, _, _, _, _, rfl, (TStraight.ty ins), Y.k12, _, rfl, iteF ?_⟩
    refine ⟨_, rfl, _, _, _, _, rfl, (TStraight.ty ins), Y.k13, _, rfl, iteF ?_⟩
    refine ⟨(by show 0 ≤ sizeLine; decide), fun rl hrl => ?_⟩
    have z1 := same_new hrl (HO.lst [])
    refine ⟨_, rfl, (by show 2 ≤ sizeLine; decide), fun t ht => ?_⟩
    have z2 := same_new ht (HO.tup [V.ref rl, V.ref o])
    refine ⟨(by show 1 ≤ sizeLine; decide), fun l hl => ?_⟩
    have z3 := same_new hl (HO.lst [V.ref t])
    have z13 := z1.trans (z2.trans z3)
    exact q l [.ref t] _ z13 ((z1.trans z2).free hl) upd_same (.cons ⟨t, rl, o, dx, la, [], rfl, z3 _ _ upd_same, hrl, z3 _ _ (z2 _ _ upd_same), .nil, z13 _ _ ins, z13 _ _ ela⟩ .nil)
  | stp t1 lo hi =>
    have hR' := hR
    obtain ⟨o, dx, u, rfl, ins, hu⟩ := hR
    refine ⟨_, rfl, _, _, _, _, rfl, (TStopped.ty ins), kit_self, _, rfl, iteT ?_⟩
    exact ⟨_, rfl, .ref o, n, .stp t1 lo hi, rfl, rfl, dp, d100, hR', SH, n1, n8, TF, c60, fun l lv H' s e1 e2 e3 => q l lv H' s e1 e2 e3⟩
  | prt r x y =>
    have hR' := hR
    obtain ⟨o, dx, ra, u, w2, rfl, ins, era, hu, hw⟩ := hR
    refine ⟨_, rfl, _, _, _, _, rfl, (TParted.ty ins), Y.k32, _, rfl, iteF ?_⟩
    refine ⟨_, rfl, _, _, _, _, rfl, (TParted.ty ins), kit_self, _, rfl, iteT ?_⟩
    exact ⟨_, rfl, .ref o, n, .prt r x y, rfl, rfl, dp, d100, hR', SH, n1, n8, TF, c60, fun l lv H' s e1 e2 e3 => q l lv H' s e1 e2 e3⟩
noncomputable abbrev s_pieces : Stmt := top 29
theorem sc_pieces : FnScope ["rule", "many"] ["rule", "many"] (defScope s_pieces) := ⟨rfl, rfl, rfl, by decide +kernel, rfl, by decide +kernel, by decide +kernel⟩
theorem ok_pieces {k : Nat} {f : Addr} {fd : FuncData} {aStraight aStopped aParted : Addr} (TStraight : ClsF K mg "Straight" aStraight) (AStraight : AtStraight K aStraight) (TStopped : ClsF K mg "Stopped" aStopped) (AStopped : AtStopped K aStopped) (TParted : ClsF K mg "Parted" aParted) (AParted : AtParted K aParted) (Y : Kits K aStraight aStopped aParted) (F : Fun K "pieces" "pieces" s_pieces f fd) (B : Bl mg) (c_is_rule : Fn P w K mg base "is_rule" ["value", "many"] k (spIsRule aStraight aStopped aParted 6)) (c_piece_count : Fn P w K mg base "piece_count" ["rule"] k (spCount aStraight aStopped aParted 6)) (c_listed : Fn P w K mg base "listed" ["rule"] k (spListed aStraight aStopped aParted anyK 6)) : FnOk P w K mg base CX0 (k + 1) f fd ["rule", "many"] (spPieces aStraight aStopped aParted 6) := by
  refine F.ok sc_pieces (fun vs H Q E h => ?_) (fun cdv A outer s H vs Q E hr h => ?_)
  · obtain ⟨v, n, t, rfl, _⟩ := h
    rfl
  obtain ⟨v, n, t, rfl, dp, d100, hR, SH, n1, n8, TF, c60, q⟩ := h
  refine ⟨_, (pss_cons (ps_if (pt_not (pt_val (pe_callF c_is_rule hr rfl (pa_cons (L2.pvj 0) (pa_cons (L2.pvj 1) pa_nil))))) (pss_one ps_never) pss_nil)
    (pss_cons (ps_if (pt_cmpR (ji0 op_gt) (pe_callF c_piece_count hr rfl (pa_cons (L2.pvj 0) pa_nil)) (pe_const rfl B.MOST_PIECES_) (nomark _)) (pss_one ps_never) pss_nil)
    (pss_one (ps_ret (pe_callF c_listed hr rfl (pa_cons (L2.pvj 0) pa_nil)))))), ?_⟩
  try dsimp only [cxOf, Cx.nox, Cx.wish]
  refine ⟨_, rfl, _, rfl, v, n, t, rfl, dp, hR, SH, n8, fun H1 s1 => ⟨_, rfl, iteF ?_⟩⟩
  refine ⟨_, rfl, v, t, rfl, dp, d100, hR.same s1, _, _, rfl, rfl, _, rfl, iteB0 (decide_eq_false (show ¬ ((countM t : Int) > 60) by omega)) ?_⟩
  exact ⟨_, rfl, v, n, t, rfl, rfl, dp, d100, hR.same s1, SH, n1, n8, TF, c60, fun l lv H' s e1 e2 e3 => q l lv H' (s1.trans s) (s1.free e1) e2 (Paired.mapP e3 fun _ _ z => z.back s1)⟩
end
theorem bd_pick3n {x y z g : Int} {n : Nat} (g0 : 0 ≤ g) (g1 : g < 3) (hx : Bd n x ∧ 0 ≤ x) (hy : Bd n y ∧ 0 ≤ y) (hz : Bd n z ∧ 0 ≤ z) : ∃ k, atI [V.int x, V.int y, V.int z] g = some (V.int k) ∧ Bd n k ∧ 0 ≤ k := by
  rcases (show g = 0 ∨ g = 1 ∨ g = 2 by omega) with e | e | e
  · rw [e]; exact ⟨x, rfl, hx⟩
  · rw [e]; exact ⟨y, rfl, hy⟩
  · rw [e]; exact ⟨z, rfl, hz⟩
section
variable {P : Program} {w : World} {K : PySem.W.Frag} {mg : Str → Option Value} {base : Heap}
noncomputable abbrev s_l_cell_at : Stmt := top 35
theorem sc_l_cell_at : FnScope ["_law_script", "_law_k"] ["_law_script", "_law_k"] (defScope s_l_cell_at) := ⟨rfl, rfl, rfl, by decide +kernel, rfl, by decide +kernel, by decide +kernel⟩
theorem ok_l_cell_at {k : Nat} {f : Addr} {fd : FuncData} {aStraight aStopped aParted : Addr} (TStraight : ClsF K mg "Straight" aStraight) (AStraight : AtStraight K aStraight) (TStopped : ClsF K mg "Stopped" aStopped) (AStopped : AtStopped K aStopped) (TParted : ClsF K mg "Parted" aParted) (AParted : AtParted K aParted) (Y : Kits K aStraight aStopped aParted) (F : Fun K "_law_cell_at" "_law_cell_at" s_l_cell_at f fd) (B : Bl mg) : FnOk P w K mg base CX0 (k + 1) f fd ["_law_script", "_law_k"] (spCell K) := by
  refine F.ok sc_l_cell_at (fun vs H Q E h => ?_) (fun cdv A outer s H vs Q E hr h => ?_)
  · obtain ⟨a, ns, k, rfl, _⟩ := h
    rfl
  obtain ⟨a, ns, k, rfl, hS, h0, q⟩ := h
  refine ⟨_, (pss_cons (ps_if (pt_cmpR (ji0 op_lt) (L2.pvj 1) (pe_callB jlen rfl B.len_ boot_len_ (pa_cons (L2.pvj 0) pa_nil)) (nomark _)) (pss_one (ps_ret (pe_ix jix_list (L2.pvj 0) (L2.pvj 1) (fun _ _ => rfl)))) pss_nil)
    (pss_one (ps_ret pe_int))), ?_⟩
  try dsimp only [cxOf, Cx.nox, Cx.wish]
  refine ⟨_, rfl, _, rfl, a, _, rfl, .inl hS, _, _, rfl, rfl, _, rfl, ?_⟩
  refine ite2 (fun c => ?_) (fun c => ?_)
  · have c' : k < ((ns.map V.int).length : Int) := of_decide_eq_true c
    rw [List.length_map] at c'
    have hk : k.toNat < ns.length := by omega
    have ek : k = ((k.toNat : Nat) : Int) := by omega
    have q0 : atI (ns.map V.int) ((k.toNat : Nat) : Int) = some (.int ns[k.toNat]) := atI_nat (by rw [List.getElem?_map, List.getElem?_eq_getElem hk]; rfl)
    rw [← ek] at q0
    refine ⟨_, rfl, _, rfl, a, _, k, .int (ns[k.toNat]), rfl, rfl, hS, q0, ?_⟩
    · have e : ns[k.toNat] = cellZ ns k := by unfold cellZ; rw [List.getElem?_eq_getElem hk]; rfl
      rw [e]
      exact q
  · have c' : ¬ k < ((ns.map V.int).length : Int) := fun z => c (decide_eq_true z)
    rw [List.length_map] at c'
    have e : (0 : Int) = cellZ ns k := by unfold cellZ; rw [List.getElem?_eq_none (by omega)]; rfl
    show Q (.int 0) H
    rw [e]
    exact q
noncomputable abbrev s_l_stream : Stmt := top 36
theorem sc_l_stream : FnScope ["_law_cell", "_law_many", "_law_found", "_law_rest", "_law_k", "_law_number_here"] ["_law_cell", "_law_many"] (defScope s_l_stream) := ⟨rfl, rfl, rfl, by decide +kernel, rfl, by decide +kernel, by decide +kernel⟩
theorem ok_l_stream {k : Nat} {f : Addr} {fd : FuncData} {aStraight aStopped aParted : Addr} (TStraight : ClsF K mg "Straight" aStraight) (AStraight : AtStraight K aStraight) (TStopped : ClsF K mg "Stopped" aStopped) (AStopped : AtStopped K aStopped) (TParted : ClsF K mg "Parted" aParted) (AParted : AtParted K aParted) (Y : Kits K aStraight aStopped aParted) (F : Fun K "_law_stream" "_law_stream" s_l_stream f fd) (B : Bl mg) : FnOk P w K mg base CX0 (k + 1) f fd ["_law_cell", "_law_many"] spStream := by
  refine F.ok sc_l_stream (fun vs H Q E h => ?_) (fun cdv A outer s H vs Q E hr h => ?_)
  · obtain ⟨c, mm, rfl, _⟩ := h
    rfl
  obtain ⟨c, mm, rfl, m0, m10, q⟩ := h
  refine ⟨_, (pss_cons (ps_set (i := 2) sc_l_stream.nd rfl (Or.inl rfl) (pe_lst pa_nil))
    (pss_cons (ps_if (pt_cmpR (ji0 op_ge) (L2.pvj 0) (pe_op (ji op_pow) pe_int pe_int) (nomark _)) (pss_cons (ps_set (i := 3) sc_l_stream.nd rfl (Or.inl rfl) (pe_op (ji0 op_sub) (L2.pvj 0) (pe_op (ji op_pow) pe_int pe_int)))
      (pss_cons (ps_for PassesOwn.never rfl (pi_range1 rfl B.range_ (pa_cons (L2.pvj 1) pa_nil)) (pg_name (i := 4) sc_l_stream.nd rfl (Or.inl rfl)) (pss_cons (ps_expr (pe_bm PySem.F.plainAttrs_list PySem.F.slot_list_append PySem.F.type_list_append japp (L2.pvj 2) (pa_cons (pe_op (ji op_modN) (L2.pvj 3) pe_int) pa_nil)))
        (pss_one (ps_set (i := 3) sc_l_stream.nd rfl (Or.inl rfl) (pe_op (ji op_fdivW) (L2.pvj 3) pe_int)))))
      (pss_one (ps_ret (L2.pvj 2))))) pss_nil)
    (pss_cons (ps_set (i := 5) sc_l_stream.nd rfl (Or.inl rfl) (pe_op (ji0 op_add) (pe_op (ji op_modN) (L2.pvj 0) pe_int) pe_int))
    (pss_cons (ps_for PassesOwn.never rfl (pi_range1 rfl B.range_ (pa_cons (pe_op (ji0 op_add) (L2.pvj 1) pe_int) pa_nil)) (pg_name (i := 4) sc_l_stream.nd rfl (Or.inl rfl)) (pss_cons (ps_set (i := 5) sc_l_stream.nd rfl (Or.inl rfl) (pe_op (ji op_modN) (pe_op (ji0 op_add) (pe_op (ji0 op_add) (pe_op (ji op_mulW) (L2.pvj 5) (L2.pvj 5)) (pe_op (ji op_mulW) pe_int (L2.pvj 5))) (L2.pvj 4)) pe_int))
      (pss_one (ps_expr (pe_bm PySem.F.plainAttrs_list PySem.F.slot_list_append PySem.F.type_list_append japp (L2.pvj 2) (pa_cons (L2.pvj 5) pa_nil))))))
    (pss_one (ps_ret (pe_slice jsl_list (L2.pvj 2) (po_some pe_int) po_none))))))), ?_⟩
  try dsimp only [cxOf, Cx.nox, Cx.wish]
  have p0 : (0 : Int) < 2147483647 := by decide
  have b0 : Bd 31 (2147483647 : Int) := Bd.lit
  have big : (2147483647 : Int) < 10 ^ 45 := by decide
  have bmod : ∀ z : Int, Bd 31 (z.fmod 2147483647) := fun z => by
    have h1 := Int.fmod_nonneg_of_pos z p0
    have h2 := Int.fmod_lt_of_pos z p0
    have h3 : (2147483647 : Int).natAbs < 2 ^ 31 := b0
    show (z.fmod 2147483647).natAbs < 2 ^ 31
    omega
  refine ⟨(by show 0 ≤ sizeLine; decide), fun l hl => ?_⟩
  refine ⟨_, rfl, _, _, rfl, rfl, ⟨by decide, by decide, by decide⟩, _, _, rfl, rfl, _, rfl, ?_⟩
  refine ite2 (fun cc => ?_) (fun cc => ?_)
  · refine ⟨_, rfl, _, _, rfl, rfl, ⟨by decide, by decide, by decide⟩, _, _, rfl, rfl, ?_⟩
    refine ⟨_, rfl, mm, rfl, (by omega), (by omega), for_range (lo := 0) (n := mm.toNat)
      (fun i σ H2 => ∃ (xs : List Int) (rs : Int) (kk : Option V), σ = [some (.int c), some (.int mm), some (.ref l), some (.int rs), kk, none] ∧ H2 = upd H l (.lst (xs.map V.int)) ∧ xs.length = i ∧ ∀ x ∈ xs, 0 ≤ x ∧ x < 10 ^ 45)
      ⟨[], _, none, rfl, rfl, rfl, fun x hx => by cases hx⟩ ?_ ?_⟩
    · rintro i σ H2 hi ⟨xs, rs, kk, rfl, rfl, hlen, hxs⟩
      refine ⟨_, rfl, .inl ⟨rfl, _, SqL.of upd_same⟩, _, rfl, _, _, rfl, rfl, (show (2147483647 : Int) ≠ 0 by decide), l, _, _, rfl, rfl, upd_same, ?_, ?_⟩
      · rw [List.length_map]
        exact small1000 (by omega)
      refine ⟨_, rfl, _, _, rfl, rfl, ⟨(show (2147483647 : Int) ≠ 0 by decide), b0.mono (by decide)⟩, ?_⟩
      refine ⟨xs ++ [rs.fmod 2147483647], _, _, rfl, ?_, ?_, fun x hx => ?_⟩
      · rw [upd_upd, List.map_append]
        rfl
      · rw [List.length_append, hlen]
        rfl
      · rcases List.mem_append.mp hx with hx | hx
        · exact hxs x hx
        · rw [List.mem_singleton.mp hx]
          have h2 := Int.fmod_lt_of_pos rs p0
          exact ⟨Int.fmod_nonneg_of_pos _ p0, by omega⟩
    · rintro σ H2 ⟨xs, rs, kk, rfl, rfl, hlen, hxs⟩
      exact ⟨_, rfl, q l _ xs (same_new hl _) hl upd_same hlen hxs⟩
  · refine ⟨_, rfl, _, _, rfl, rfl, (show (2147483647 : Int) ≠ 0 by decide), _, _, rfl, rfl, ?_⟩
    have bk : Bd 31 (48271 : Int) := Bd.lit
    have hb0 : Bd 62 (c.fmod 2147483647 + 48271) := ((bmod c).add bk).mono (by decide)
    refine ⟨_, rfl, _, _, rfl, rfl, mm + 2, rfl, (by omega), (by omega), for_range (lo := 0) (n := (mm + 2).toNat)
      (fun i σ H2 => ∃ (xs : List Int) (nh : Int) (kk : Option V), σ = [some (.int c), some (.int mm), some (.ref l), none, kk, some (.int nh)] ∧ H2 = upd H l (.lst (xs.map V.int)) ∧ xs.length = i ∧ Bd 62 nh ∧ ∀ x ∈ xs, 0 ≤ x ∧ x < 10 ^ 45)
      ⟨[], _, none, rfl, rfl, rfl, hb0, fun x hx => by cases hx⟩ ?_ ?_⟩
    · rintro i σ H2 hi ⟨xs, nh, kk, rfl, rfl, hlen, hnh, hxs⟩
      refine ⟨_, rfl, _, rfl, _, _, rfl, rfl, ⟨hnh.mono (by decide), hnh.mono (by decide)⟩, _, rfl, _, _, rfl, rfl, ⟨bk.mono (by decide), hnh.mono (by decide)⟩, _, _, rfl, rfl, _, rfl, _, _, rfl, rfl, _, _, rfl, rfl, (show (2147483647 : Int) ≠ 0 by decide), ?_⟩
      refine ⟨_, rfl, .inl ⟨rfl, _, SqL.of upd_same⟩, _, rfl, l, _, _, rfl, rfl, upd_same, ?_, ?_⟩
      · rw [List.length_map]
        exact small1000 (by omega)
      refine ⟨xs ++ [(nh * nh + 48271 * nh + (0 + (i : Int))).fmod 2147483647], _, _, rfl, ?_, ?_, (bmod _).mono (by decide), fun x hx => ?_⟩
      · rw [upd_upd, List.map_append]
        rfl
      · rw [List.length_append, hlen]
        rfl
      · rcases List.mem_append.mp hx with hx | hx
        · exact hxs x hx
        · rw [List.mem_singleton.mp hx]
          have h2 := Int.fmod_lt_of_pos (nh * nh + 48271 * nh + (0 + (i : Int))) p0
          exact ⟨Int.fmod_nonneg_of_pos _ p0, by omega⟩
    · rintro σ H2 ⟨xs, nh, kk, rfl, rfl, hlen, hnh, hxs⟩
      refine ⟨_, rfl, _, rfl, l, _, rfl, SqL.of upd_same, fun p hp => ?_⟩
      have ec : cutV (xs.map V.int) (some 2) none = (xs.drop 2).map V.int := by
        have e1 : HT.sIx (xs.map V.int).length 0 (some 2) = min 2 (xs.map V.int).length := HT.sIx_nat _ 0 2
        unfold cutV
        rw [e1, HT.sIx_none, List.length_map, hlen, show min 2 (mm + 2).toNat = 2 by omega, ← List.map_drop, List.take_of_length_le (by rw [List.length_map, List.length_drop]; omega)]
      refine q p _ (xs.drop 2) ((same_new hl _).trans (same_new hp _)) ((same_new hl _).free hp) (upd_same.trans (by rw [ec])) (by rw [List.length_drop]; omega) fun x hx => hxs x (List.mem_of_mem_drop hx)
noncomputable abbrev s_l_number : Stmt := top 37
theorem sc_l_number : FnScope ["_law_number_here"] ["_law_number_here"] (defScope s_l_number) := ⟨rfl, rfl, rfl, by decide +kernel, rfl, by decide +kernel, by decide +kernel⟩
theorem ok_l_number {k : Nat} {f : Addr} {fd : FuncData} {aStraight aStopped aParted : Addr} (TStraight : ClsF K mg "Straight" aStraight) (AStraight : AtStraight K aStraight) (TStopped : ClsF K mg "Stopped" aStopped) (AStopped : AtStopped K aStopped) (TParted : ClsF K mg "Parted" aParted) (AParted : AtParted K aParted) (Y : Kits K aStraight aStopped aParted) (F : Fun K "_law_number" "_law_number" s_l_number f fd) (B : Bl mg) : FnOk P w K mg base CX0 (k + 1) f fd ["_law_number_here"] spNum21 := by
  refine F.ok sc_l_number (fun vs H Q E h => ?_) (fun cdv A outer s H vs Q E hr h => ?_)
  · obtain ⟨x, rfl, _⟩ := h
    rfl
  obtain ⟨x, rfl, bx, q⟩ := h
  refine ⟨_, (pss_cons (ps_if (pt_cmpR op_eq (pe_op (ji op_modN) (L2.pvj 0) pe_int) pe_int (nomark _)) (pss_one (ps_ret (pe_op (ji0 op_sub) (pe_op (ji op_modN) (pe_op (ji op_mulW) (pe_op (ji op_fdivW) (L2.pvj 0) pe_int) (pe_op (ji op_pow) pe_int pe_int)) (pe_op (ji op_pow) pe_int pe_int)) (pe_op (ji op_mulW) pe_int (pe_op (ji op_pow) pe_int pe_int))))) pss_nil)
    (pss_one (ps_ret (pe_op (ji0 op_sub) (pe_op (ji op_modN) (pe_op (ji op_fdivW) (L2.pvj 0) pe_int) pe_int) pe_int)))), ?_⟩
  try dsimp only [cxOf, Cx.nox, Cx.wish]
  have b6 : Bd 4 (6 : Int) := Bd.lit
  have b5 : Bd 4 (5 : Int) := Bd.lit
  have p30 : (0 : Int) < 10 ^ (30 : Int).toNat := by decide
  have b22 : Bd 104 ((10 : Int) ^ (22 : Int).toNat) := Bd.lit
  have b29 : Bd 130 ((10 : Int) ^ (29 : Int).toNat) := Bd.lit
  refine ⟨_, rfl, _, _, rfl, rfl, (show (6 : Int) ≠ 0 by decide), rfl, _, rfl, ?_⟩
  refine ite2 (fun c1 => ?_) (fun c1 => ?_)
  · refine ⟨_, rfl, _, _, rfl, rfl, ⟨by decide, b6.mono (by decide)⟩, _, _, rfl, rfl, ⟨by decide, by decide, by decide⟩, _, _, rfl, rfl, ⟨(bx.fdiv _).mono (by decide), b22.mono (by decide)⟩, _, _, rfl, rfl, ⟨by decide, by decide, by decide⟩, _, _, rfl, rfl, (show (10 : Int) ^ (30 : Int).toNat ≠ 0 by decide), _, _, rfl, rfl, ⟨by decide, by decide, by decide⟩, _, _, rfl, rfl, ⟨b5.mono (by decide), b29.mono (by decide)⟩, _, _, rfl, rfl, ?_⟩
    refine q _ ?_
    have h1 := Int.fmod_nonneg_of_pos (x.fdiv 6 * 10 ^ (22 : Int).toNat) p30
    have h2 := Int.fmod_lt_of_pos (x.fdiv 6 * 10 ^ (22 : Int).toNat) p30
    have h3 : (10 : Int) ^ (30 : Int).toNat < 2 ^ 100 := by decide
    have h4 : (5 : Int) * 10 ^ (29 : Int).toNat < 2 ^ 100 := by decide
    have h5 : 0 < (5 : Int) * 10 ^ (29 : Int).toNat := by decide
    show ((x.fdiv 6 * 10 ^ (22 : Int).toNat).fmod (10 ^ (30 : Int).toNat) - 5 * 10 ^ (29 : Int).toNat).natAbs < 2 ^ 101
    omega
  · refine ⟨_, rfl, _, _, rfl, rfl, ⟨by decide, b6.mono (by decide)⟩, _, _, rfl, rfl, (show (19 : Int) ≠ 0 by decide), _, _, rfl, rfl, ?_⟩
    refine q _ ?_
    have h1 := Int.fmod_nonneg_of_pos (x.fdiv 6) (show (0 : Int) < 19 by decide)
    have h2 := Int.fmod_lt_of_pos (x.fdiv 6) (show (0 : Int) < 19 by decide)
    have : Bd 5 ((x.fdiv 6).fmod 19 - 9) := by
      show ((x.fdiv 6).fmod 19 - 9).natAbs < 2 ^ 5
      omega
    exact this.mono (by decide)
noncomputable abbrev s_l_leaf : Stmt := top 38
theorem sc_l_leaf : FnScope ["_law_cell", "_law_many", "_law_xs", "_law_divisor_here"] ["_law_cell", "_law_many"] (defScope s_l_leaf) := ⟨rfl, rfl, rfl, by decide +kernel, rfl, by decide +kernel, by decide +kernel⟩
theorem ok_l_leaf {k : Nat} {f : Addr} {fd : FuncData} {aStraight aStopped aParted : Addr} (TStraight : ClsF K mg "Straight" aStraight) (AStraight : AtStraight K aStraight) (TStopped : ClsF K mg "Stopped" aStopped) (AStopped : AtStopped K aStopped) (TParted : ClsF K mg "Parted" aParted) (AParted : AtParted K aParted) (Y : Kits K aStraight aStopped aParted) (F : Fun K "_law_leaf" "_law_leaf" s_l_leaf f fd) (B : Bl mg) (c_l_stream : Fn P w K mg base "_law_stream" ["_law_cell", "_law_many"] (k + 1) spStream) (c_Straight___init__ : FnCD P w K mg base aStraight ["self", "numbers", "add", "divisor"] k (spStraightInit aStraight) (.int 1)) (c_l_number : Fn P w K mg base "_law_number" ["_law_number_here"] (k + 1) spNum21) : FnOk P w K mg base CX0 (k + 1 + 1) f fd ["_law_cell", "_law_many"] (spLeafR aStraight aStopped aParted) := by
  refine F.ok sc_l_leaf (fun vs H Q E h => ?_) (fun cdv A outer s H vs Q E hr h => ?_)
  · obtain ⟨c, mm, rfl, _⟩ := h
    rfl
  obtain ⟨c, mm, rfl, m1, m3, q⟩ := h
  refine ⟨_, (pss_cons (ps_set (i := 2) sc_l_leaf.nd rfl (Or.inl rfl) (pe_callF c_l_stream hr rfl (pa_cons (L2.pvj 0) (pa_cons pe_int pa_nil))))
    (pss_cons (ps_set (i := 3) sc_l_leaf.nd rfl (Or.inl rfl) (pe_op (ji0 op_add) pe_int (pe_op (ji op_modN) (pe_ix jix_list (L2.pvj 2) pe_int (fun _ _ => rfl)) (pe_ix jix_list (pe_lst (pa_cons pe_int (pa_cons pe_int (pa_cons (pe_op (ji op_pow) pe_int pe_int) pa_nil)))) (pe_op (ji op_modN) (pe_ix jix_list (L2.pvj 2) pe_int (fun _ _ => rfl)) pe_int) (fun _ _ => rfl)))))
    (pss_one (ps_ret (pe_makeF c_Straight___init__.fn TStraight hr rfl (pa_cons (pe_comp (own := ["_law_number_here"]) (caps := []) (blk_mk rfl) rfl (pi_list (pe_slice jsl_list (L2.pvj 2) po_none (po_some (L2.pvj 1)))) (fun _ _ _ _ => pg_name (i := 0) (show (["_law_number_here"] : List Str).Nodup by decide +kernel) rfl (Or.inl rfl)) (fun _ _ _ _ => (pe_callF c_l_number hr rfl (pa_cons (L2.pvj 0) pa_nil)))) (pa_cons (pe_callF c_l_number hr rfl (pa_cons (pe_ix jix_list (L2.pvj 2) pe_int (fun _ _ => rfl)) pa_nil)) (pa_cons (L2.pvj 3) pa_nil)))))))), ?_⟩
  try dsimp only [cxOf, Cx.nox, Cx.wish]
  refine ⟨_, rfl, _, 6, rfl, (by decide), (by decide), fun xa H1 xs s1 xn ex lx bx => ?_⟩
  have lx6 : xs.length = 6 := lx
  have a3 : atI (xs.map V.int) (3 : Int) = some (.int (xs[3]'(by omega))) := at_ints (j := 3) _
  have a4 : atI (xs.map V.int) (4 : Int) = some (.int (xs[4]'(by omega))) := at_ints (j := 4) _
  have a5 : atI (xs.map V.int) (5 : Int) = some (.int (xs[5]'(by omega))) := at_ints (j := 5) _
  refine ⟨_, rfl, xa, _, _, _, rfl, rfl, SqL.of ex, a4, _, _, rfl, rfl, ⟨by decide, by decide, by decide⟩, (by show 3 ≤ sizeLine; decide), fun l hl => ?_⟩
  have zl := same_new hl (HO.lst [V.int 1, V.int 9, V.int ((10 : Int) ^ (9 : Int).toNat)])
  have el := upd_same (H := H1) (a := l) (o := HO.lst [V.int 1, V.int 9, V.int ((10 : Int) ^ (9 : Int).toNat)])
  obtain ⟨H2, hH2⟩ : ∃ H2, H2 = upd H1 l (HO.lst [V.int 1, V.int 9, V.int ((10 : Int) ^ (9 : Int).toNat)]) := ⟨_, rfl⟩
  rw [← hH2] at zl el ⊢
  have ex2 := zl _ _ ex
  obtain ⟨dd, ed, d0, d1⟩ := pos_pick3 (x := 1) (y := 9) (z := (10 : Int) ^ (9 : Int).toNat) (m := 10 ^ 9) (Int.fmod_nonneg_of_pos (xs[5]'(by omega)) (show (0 : Int) < 3 by decide)) (Int.fmod_lt_of_pos (xs[5]'(by omega)) (show (0 : Int) < 3 by decide)) ⟨by decide, by decide⟩ ⟨by decide, by decide⟩ ⟨by decide, by decide⟩
  refine ⟨_, rfl, xa, _, _, _, rfl, rfl, SqL.of ex2, a5, _, _, rfl, rfl, (show (3 : Int) ≠ 0 by decide), l, _, _, .int dd, rfl, rfl, SqL.of el, ed, _, _, rfl, rfl, (by omega), _, _, rfl, rfl, ?_⟩
  have v0 := Int.fmod_nonneg_of_pos (xs[4]'(by omega)) d0
  have v1 := Int.fmod_lt_of_pos (xs[4]'(by omega)) d0
  refine ⟨_, rfl, _, rfl, _, rfl, xa, _, rfl, SqL.of ex2, fun p hp => ?_⟩
  have ec : cutV (xs.map V.int) none (some mm) = (xs.take mm.toNat).map V.int := by
    rw [show mm = ((mm.toNat : Nat) : Int) by omega]
    exact cut_to xs (by omega)
  have zp := same_new hp (HO.lst (cutV (xs.map V.int) none (some mm)))
  have ep : upd H2 p (HO.lst (cutV (xs.map V.int) none (some mm))) p = some (.lst ((xs.take mm.toNat).map V.int)) := upd_same.trans (by rw [ec])
  obtain ⟨Hp1, hHp1⟩ : ∃ Hp1, Hp1 = upd H2 p (HO.lst (cutV (xs.map V.int) none (some mm))) := ⟨_, rfl⟩
  rw [← hHp1] at zp ep ⊢
  refine ⟨p, rfl, ⟨_, SqL.of ep⟩, comp_list (K := K) (a := p) (xs := (xs.take mm.toNat).map V.int) (fun i ys σ H' => ∃ ws : List Int, ys = ws.map V.int ∧ ws.length = i ∧ (∀ x ∈ ws, Bd 101 x) ∧ (∃ o, σ = [o]) ∧ H' = Hp1)
    ⟨[], rfl, rfl, (fun x hx => by cases hx), ⟨none, rfl⟩, rfl⟩ (fun i ys σ H' hi ⟨ws, e1, l1, _, _, e3⟩ => ⟨by rw [e3]; exact SqL.of ep, by rw [e1, List.length_map]; omega⟩) (by rw [List.length_map, List.length_take]; exact Nat.le_of_lt (small1000 (by omega))) ?_ ?_⟩
  · rintro i x ys σ H' hi ⟨ws, rfl, lw, bw, ⟨o, rfl⟩, rfl⟩
    obtain ⟨z, hz, rfl⟩ := ints_get hi
    refine ⟨_, rfl, z, rfl, (bd45 (bx z (List.mem_of_mem_take (List.mem_of_getElem? hz)))).mono (by decide), fun y by' => ⟨ws ++ [y], (by rw [List.map_append]; rfl), (by rw [List.length_append, lw]; rfl), fun u hu => ?_, ⟨_, rfl⟩, rfl⟩⟩
    rcases List.mem_append.mp hu with hu | hu
    · exact bw u hu
    · rw [List.mem_singleton.mp hu]; exact by'
  rintro ys σ H' ⟨ws, rfl, lws0, bws, ⟨o, rfl⟩, rfl⟩ cl hcl
  have lws : ws.length = mm.toNat := by rw [lws0, List.length_map, List.length_take]; omega
  have zc := same_new hcl (HO.lst (ws.map V.int))
  have ecl := upd_same (H := H') (a := cl) (o := HO.lst (ws.map V.int))
  obtain ⟨Hn, hHn⟩ : ∃ Hn, Hn = upd H' cl (HO.lst (ws.map V.int)) := ⟨_, rfl⟩
  rw [← hHn] at zc ecl ⊢
  have zn := zp.trans zc
  refine ⟨_, rfl, xa, _, _, _, rfl, rfl, SqL.of (zn _ _ ex2), a3, _, rfl, (bd45 (bx _ (List.getElem_mem _))).mono (by decide), fun y by' => ?_⟩
  refine ⟨_, rfl, fun x dx hx hdx ne => ?_⟩
  have zx := same_make hx hdx ne (HO.own x) (HO.ins aStraight dx [])
  have ex0 := upd_same (H := upd (Hn) dx (HO.own x)) (a := x) (o := HO.ins aStraight dx [])
  obtain ⟨HX, hHX⟩ : ∃ HX, HX = upd (upd (Hn) dx (HO.own x)) x (HO.ins aStraight dx []) := ⟨_, rfl⟩
  rw [← hHX] at zx ex0 ⊢
  refine ⟨x, dx, cl, ws, y, 1 + (xs[4]'(by omega)).fmod dd, rfl, ex0, zx _ _ ecl, (by omega), fun lc H5 sb fl eo elc => ⟨rfl, ?_⟩⟩
  have s5 := same_but zx sb hx
  refine q (.ref x) (.str ws y (1 + (xs[4]'(by omega)).fmod dd)) H5 (s1.trans (zl.trans (zn.trans s5))) ⟨x, dx, lc, rfl, eo, elc⟩ ⟨bws, by', ?_⟩ ⟨lws, by omega⟩ rfl
  have : (10 : Int) ^ 9 < 2 ^ 31 - 1 := by decide
  show (1 + (xs[4]'(by omega)).fmod dd).natAbs < 2 ^ 31
  omega
noncomputable abbrev s_l_rule : Stmt := top 39
theorem sc_l_rule : FnScope ["_law_cells", "_law_many", "_law_rule_here", "_law_count", "_law_cell", "_law_xs", "_law_low", "_law_other", "_law_row"] ["_law_cells", "_law_many"] (defScope s_l_rule) := ⟨rfl, rfl, rfl, by decide +kernel, rfl, by decide +kernel, by decide +kernel⟩
theorem ok_l_rule {k : Nat} {f : Addr} {fd : FuncData} {aStraight aStopped aParted : Addr} (TStraight : ClsF K mg "Straight" aStraight) (AStraight : AtStraight K aStraight) (TStopped : ClsF K mg "Stopped" aStopped) (AStopped : AtStopped K aStopped) (TParted : ClsF K mg "Parted" aParted) (AParted : AtParted K aParted) (Y : Kits K aStraight aStopped aParted) (F : Fun K "_law_rule" "_law_rule" s_l_rule f fd) (B : Bl mg) (c_l_leaf : Fn P w K mg base "_law_leaf" ["_law_cell", "_law_many"] (k + 1) (spLeafR aStraight aStopped aParted)) (c_l_cell_at : Fn P w K mg base "_law_cell_at" ["_law_script", "_law_k"] (k + 1) (spCell K)) (c_l_stream : Fn P w K mg base "_law_stream" ["_law_cell", "_law_many"] (k + 1) spStream) (c_l_number : Fn P w K mg base "_law_number" ["_law_number_here"] (k + 1) spNum21) (c_Stopped___init__ : FnC P w K mg base aStopped ["self", "rule", "low", "high"] k (spStoppedInit aStopped)) (c_Parted___init__ : FnC P w K mg base aParted ["self", "row", "rule", "other"] k (spPartedInit aParted)) : FnOk P w K mg base CX0 (k + 1 + 1) f fd ["_law_cells", "_law_many"] (spRuleR aStraight aStopped aParted K) := by
  refine F.ok sc_l_rule (fun vs H Q E h => ?_) (fun cdv A outer s H vs Q E hr h => ?_)
  · obtain ⟨ca, cs, mm, rfl, _⟩ := h
    rfl
  obtain ⟨ca, cs, mm, rfl, hca, m1, m3, q⟩ := h
  refine ⟨_, (pss_cons (ps_set (i := 2) sc_l_rule.nd rfl (Or.inl rfl) (pe_callF c_l_leaf hr rfl (pa_cons (pe_callF c_l_cell_at hr rfl (pa_cons (L2.pvj 0) (pa_cons pe_int pa_nil))) (pa_cons (L2.pvj 1) pa_nil))))
    (pss_cons (ps_set (i := 3) sc_l_rule.nd rfl (Or.inl rfl) pe_int)
    (pss_cons (ps_for PassesOwn.never rfl (pi_list (pe_slice jsl_list (L2.pvj 0) (po_some pe_int) (po_some pe_int))) (pg_name (i := 4) sc_l_rule.nd rfl (Or.inl rfl)) (pss_cons (ps_set (i := 5) sc_l_rule.nd rfl (Or.inl rfl) (pe_callF c_l_stream hr rfl (pa_cons (L2.pvj 4) (pa_cons pe_int pa_nil))))
      (pss_one (ps_if (PW.pt (pw_and (pt_cmpR (ji0 op_lt) (pe_op (ji op_modN) (pe_ix jix_list (L2.pvj 5) pe_int (fun _ _ => rfl)) pe_int) pe_int (nomark _)) (pw_and1 (pt_cmpR (ji0 op_le) (L2.pvj 3) pe_int (nomark _))))) (pss_cons (ps_set (i := 6) sc_l_rule.nd rfl (Or.inl rfl) (pe_callF c_l_number hr rfl (pa_cons (pe_ix jix_list (L2.pvj 5) pe_int (fun _ _ => rfl)) pa_nil)))
        (pss_cons (ps_set (i := 2) sc_l_rule.nd rfl (Or.inl rfl) (pe_makeF c_Stopped___init__ TStopped hr rfl (pa_cons (L2.pvj 2) (pa_cons (L2.pvj 6) (pa_cons (pe_op (ji0 op_add) (L2.pvj 6) (pe_ix jix_list (pe_lst (pa_cons (pe_op (ji op_modN) (pe_ix jix_list (L2.pvj 5) pe_int (fun _ _ => rfl)) pe_int) (pa_cons (pe_op (ji op_mulW) (pe_ix jix_list (L2.pvj 5) pe_int (fun _ _ => rfl)) (pe_op (ji op_pow) pe_int pe_int)) (pa_cons pe_int pa_nil)))) (pe_op (ji op_modN) (pe_ix jix_list (L2.pvj 5) pe_int (fun _ _ => rfl)) pe_int) (fun _ _ => rfl))) pa_nil)))))
        (pss_one (ps_set (i := 3) sc_l_rule.nd rfl (Or.inl rfl) (pe_op (ji op_mulW) pe_int (L2.pvj 3)))))) (pss_cons (ps_set (i := 7) sc_l_rule.nd rfl (Or.inl rfl) (pe_callF c_l_leaf hr rfl (pa_cons (pe_op (ji op_fdivW) (L2.pvj 4) pe_int) (pa_cons (L2.pvj 1) pa_nil))))
        (pss_cons (ps_set (i := 8) sc_l_rule.nd rfl (Or.inl rfl) (pe_callTy jtup rfl B.tuple_ boot_tuple_ (pa_cons (pe_op jcat (pe_comp (own := ["_law_number_here"]) (caps := []) (blk_mk rfl) rfl (pi_list (pe_slice jsl_list (L2.pvj 5) po_none (po_some (L2.pvj 1)))) (fun _ _ _ _ => pg_name (i := 0) (show (["_law_number_here"] : List Str).Nodup by decide +kernel) rfl (Or.inl rfl)) (fun _ _ _ _ => (pe_callF c_l_number hr rfl (pa_cons (L2.pvj 0) pa_nil)))) (pe_lst (pa_cons (pe_callF c_l_number hr rfl (pa_cons (pe_ix jix_list (L2.pvj 5) pe_int (fun _ _ => rfl)) pa_nil)) pa_nil))) pa_nil)))
        (pss_cons (ps_set (i := 2) sc_l_rule.nd rfl (Or.inl rfl) (pe_makeF c_Parted___init__ TParted hr rfl (pa_cons (L2.pvj 8) (pa_cons (pe_ix jix_list (pe_lst (pa_cons (L2.pvj 2) (pa_cons (L2.pvj 7) pa_nil))) (pe_op (ji op_modN) (pe_ix jix_list (L2.pvj 5) pe_int (fun _ _ => rfl)) pe_int) (fun _ _ => rfl)) (pa_cons (pe_ix jix_list (pe_lst (pa_cons (L2.pvj 7) (pa_cons (L2.pvj 2) pa_nil))) (pe_op (ji op_modN) (pe_ix jix_list (L2.pvj 5) pe_int (fun _ _ => rfl)) pe_int) (fun _ _ => rfl)) pa_nil)))))
        (pss_one (ps_set (i := 3) sc_l_rule.nd rfl (Or.inl rfl) (pe_op (ji0 op_add) (L2.pvj 3) pe_int))))))))))
    (pss_one (ps_ret (L2.pvj 2)))))), ?_⟩
  try dsimp only [cxOf, Cx.nox, Cx.wish]
  refine ⟨_, rfl, ca, cs, 0, rfl, hca, (by decide), _, rfl, _, mm, rfl, m1, m3, fun v0 t0 H1 s1 rv0 tf0 sh0 k0 => ?_⟩
  obtain ⟨ns0, a0', d0', rfl⟩ := isStr_ex k0
  refine ⟨_, rfl, _, rfl, _, rfl, ca, _, rfl, s1.seq hca, fun pp hpp => ?_⟩
  obtain ⟨cz, ecz, lcz⟩ := cut_any cs 1 6
  have zpp := same_new hpp (HO.lst (cutV (cs.map V.int) (some 1) (some 6)))
  have epp : upd H1 pp (HO.lst (cutV (cs.map V.int) (some 1) (some 6))) pp = some (.lst (cz.map V.int)) := upd_same.trans (congrArg (fun z => some (HO.lst z)) ecz)
  obtain ⟨H2, hH2⟩ : ∃ H2, H2 = upd H1 pp (HO.lst (cutV (cs.map V.int) (some 1) (some 6))) := ⟨_, rfl⟩
  rw [← hH2] at zpp epp ⊢
  refine ⟨pp, rfl, ⟨_, SqL.of epp⟩, for_list (K := K) (a := pp) (xs := cz.map V.int)
    (fun i σ H' => ∃ (v : V) (t : RT) (cnt : Int) (o4 o5 o6 o7 o8 : Option V), σ = [some (.ref ca), some (.int mm), some v, some (.int cnt), o4, o5, o6, o7, o8] ∧ Same H2 H' ∧ RuleV aStraight aStopped aParted H' v t ∧ TrF t ∧ ShOk mm.toNat t ∧ t.dep ≤ i + 1 ∧ cnt = (countM t : Int) ∧ countM t ≤ 54 + i)
    ⟨v0, .str ns0 a0' d0', 1, none, none, none, none, none, rfl, Same.refl _, rv0.same zpp, tf0, sh0, Nat.le_refl _, rfl, by show 1 ≤ 54 + 0; decide⟩ (fun i σ H' _ ⟨_, _, _, _, _, _, _, _, _, sm, _⟩ => SqL.of (sm _ _ epp)) ?_ ?_⟩
  · rintro i x σ H' hi ⟨v, t, cnt, o4, o5, o6, o7, o8, rfl, sm, rv, tf, sh, dpt, hc, c54⟩
    obtain ⟨z, hz, rfl⟩ := ints_get hi
    refine ⟨_, rfl, _, 5, rfl, (by decide), (by decide), fun xa H4 xs s4 xn ex lx bx => ?_⟩
    have lx5 : xs.length = 5 := lx
    have a0 : atI (xs.map V.int) (0 : Int) = some (.int (xs[0]'(by omega))) := at_ints (j := 0) _
    have a1 : atI (xs.map V.int) (1 : Int) = some (.int (xs[1]'(by omega))) := at_ints (j := 1) _
    have a2 : atI (xs.map V.int) (2 : Int) = some (.int (xs[2]'(by omega))) := at_ints (j := 2) _
    have a3 : atI (xs.map V.int) (3 : Int) = some (.int (xs[3]'(by omega))) := at_ints (j := 3) _
    have a4 : atI (xs.map V.int) (4 : Int) = some (.int (xs[4]'(by omega))) := at_ints (j := 4) _
    refine ⟨_, rfl, xa, _, _, _, rfl, rfl, SqL.of ex, a4, _, _, rfl, rfl, (show (5 : Int) ≠ 0 by decide), _, _, rfl, rfl, _, rfl, ?_⟩
    by_cases c1 : (xs[4]'(by omega)).fmod 5 < 2
    · refine iteB1 (decide_eq_true c1) ?_
      refine ⟨_, rfl, _, _, rfl, rfl, _, rfl, ?_⟩
      by_cases c2 : cnt ≤ 18
      · refine iteB1 (decide_eq_true c2) ?_
        refine ⟨_, rfl, xa, _, _, _, rfl, rfl, SqL.of ex, a0, _, rfl, (bd45 (bx _ (List.getElem_mem _))).mono (by decide), fun y by' => ?_⟩
        have b20 : Bd 104 ((10 : Int) ^ (20 : Int).toNat) := Bd.lit
        have px1 := (bx _ (List.getElem_mem (l := xs) (n := 1) (by omega))).1
        have bx1 := bd45 (bx _ (List.getElem_mem (l := xs) (n := 1) (by omega)))
        obtain ⟨X1, hX1⟩ : ∃ X1, X1 = xs[1]'(by omega) := ⟨_, rfl⟩
        rw [← hX1] at a1 bx1 px1
        have h1 := Int.fmod_nonneg_of_pos X1 (show (0 : Int) < 9 by decide)
        have h2 := Int.fmod_lt_of_pos X1 (show (0 : Int) < 9 by decide)
        have bm : Bd 219 (X1.fmod 9) := by
          have : Bd 4 (X1.fmod 9) := by
            show (X1.fmod 9).natAbs < 2 ^ 4
            omega
          exact this.mono (by decide)
        have bp : Bd 219 (X1 * 10 ^ (20 : Int).toNat) := (bx1.mul (show Bd 67 ((10 : Int) ^ (20 : Int).toNat) from Bd.lit)).mono (by decide)
        obtain ⟨kk, ek, bk, kk0⟩ := bd_pick3n (n := 219) (x := X1.fmod 9) (y := X1 * 10 ^ (20 : Int).toNat) (z := 0) (Int.fmod_nonneg_of_pos (xs[2]'(by omega)) (show (0 : Int) < 3 by decide)) (Int.fmod_lt_of_pos (xs[2]'(by omega)) (show (0 : Int) < 3 by decide)) ⟨bm, h1⟩ ⟨bp, Int.mul_nonneg px1 (by decide)⟩ ⟨(show Bd 1 (0 : Int) from Bd.lit).mono (by decide), Int.le_refl _⟩
        refine ⟨_, rfl, _, rfl, _, rfl, _, rfl, xa, _, _, _, rfl, rfl, SqL.of ex, a1, _, _, rfl, rfl, (show (9 : Int) ≠ 0 by decide), _, rfl, xa, _, _, _, rfl, rfl, SqL.of ex, a1, _, _, rfl, rfl, ⟨by decide, by decide, by decide⟩, _, _, rfl, rfl, ⟨bx1.mono (by decide), b20.mono (by decide)⟩, (by show 3 ≤ sizeLine; decide), fun l hl => ?_⟩
        have zl := same_new hl (HO.lst [V.int (X1.fmod 9), V.int (X1 * 10 ^ (20 : Int).toNat), V.int 0])
        refine ⟨_, rfl, xa, _, _, _, rfl, rfl, SqL.of (zl _ _ ex), a2, _, _, rfl, rfl, (show (3 : Int) ≠ 0 by decide), l, _, _, .int kk, rfl, rfl, SqL.of upd_same, ek, _, _, rfl, rfl, fun x dx hx hdx ne => ?_⟩
        have zx := same_make hx hdx ne (HO.own x) (HO.ins aStopped dx [])
        have ex0 := upd_same (H := upd (upd H4 l (HO.lst [V.int (X1.fmod 9), V.int (X1 * 10 ^ (20 : Int).toNat), V.int 0])) dx (HO.own x)) (a := x) (o := HO.ins aStopped dx [])
        obtain ⟨HX, hHX⟩ : ∃ HX, HX = upd (upd (upd H4 l (HO.lst [V.int (X1.fmod 9), V.int (X1 * 10 ^ (20 : Int).toNat), V.int 0])) dx (HO.own x)) x (HO.ins aStopped dx []) := ⟨_, rfl⟩
        rw [← hHX] at zx ex0 ⊢
        refine ⟨x, dx, v, y, y + kk, rfl, ex0, fun H9 sb eo => ⟨rfl, ?_⟩⟩
        have sX := zl.trans (same_but zx sb hx)
        have b3' : Bd 2 (3 : Int) := Bd.lit
        have bc : Bd 20 cnt := by
          show cnt.natAbs < 2 ^ 20
          omega
        refine ⟨_, rfl, _, _, rfl, rfl, ⟨b3'.mono (by decide), bc.mono (by decide)⟩, ?_⟩
        refine ⟨.ref x, .stp t y (y + kk), 3 * cnt, _, _, _, _, _, rfl, sm.trans (s4.trans sX), ⟨x, dx, v, rfl, eo, (rv.same s4).same sX⟩, ⟨tf, by'.mono (by decide), ((by'.mono (show 101 ≤ 219 by decide)).add bk).mono (by decide)⟩, ⟨sh, by omega⟩, ?_, ?_, ?_⟩
        · show t.dep + 1 ≤ _
          omega
        · show 3 * cnt = ((3 * countM t : Nat) : Int)
          omega
        · show 3 * countM t ≤ _
          omega
      · refine iteB0 (decide_eq_false c2) ?_
        have b7 : Bd 4 (7 : Int) := Bd.lit
        refine ⟨_, rfl, _, _, rfl, rfl, ⟨by decide, b7.mono (by decide)⟩, _, rfl, _, mm, rfl, m1, m3, fun v1 t1 H5 s5 rv1 tf1 sh1 k1 => ?_⟩
        have ex5 := s5 _ _ ex
        refine ⟨_, rfl, _, rfl, _, rfl, xa, _, rfl, SqL.of ex5, fun p hp => ?_⟩
        have ec : cutV (xs.map V.int) none (some mm) = (xs.take mm.toNat).map V.int := by
          rw [show mm = ((mm.toNat : Nat) : Int) by omega]
          exact cut_to xs (by omega)
        have zp := same_new hp (HO.lst (cutV (xs.map V.int) none (some mm)))
        have ep : upd H5 p (HO.lst (cutV (xs.map V.int) none (some mm))) p = some (.lst ((xs.take mm.toNat).map V.int)) := upd_same.trans (by rw [ec])
        obtain ⟨Hp1, hHp1⟩ : ∃ Hp1, Hp1 = upd H5 p (HO.lst (cutV (xs.map V.int) none (some mm))) := ⟨_, rfl⟩
        rw [← hHp1] at zp ep ⊢
        refine ⟨p, rfl, ⟨_, SqL.of ep⟩, comp_list (K := K) (a := p) (xs := (xs.take mm.toNat).map V.int) (fun i ys σ H' => ∃ ws : List Int, ys = ws.map V.int ∧ ws.length = i ∧ (∀ x ∈ ws, Bd 101 x) ∧ (∃ o, σ = [o]) ∧ H' = Hp1)
          ⟨[], rfl, rfl, (fun x hx => by cases hx), ⟨none, rfl⟩, rfl⟩ (fun i ys σ H' hi ⟨ws, e1, l1, _, _, e3⟩ => ⟨by rw [e3]; exact SqL.of ep, by rw [e1, List.length_map]; omega⟩) (by rw [List.length_map, List.length_take]; exact Nat.le_of_lt (small1000 (by omega))) ?_ ?_⟩
        · rintro i x ys σ H' hi ⟨ws, rfl, lw, bw, ⟨o, rfl⟩, rfl⟩
          obtain ⟨z, hz, rfl⟩ := ints_get hi
          refine ⟨_, rfl, z, rfl, (bd45 (bx z (List.mem_of_mem_take (List.mem_of_getElem? hz)))).mono (by decide), fun y by' => ⟨ws ++ [y], (by rw [List.map_append]; rfl), (by rw [List.length_append, lw]; rfl), fun u hu => ?_, ⟨_, rfl⟩, rfl⟩⟩
          rcases List.mem_append.mp hu with hu | hu
          · exact bw u hu
          · rw [List.mem_singleton.mp hu]; exact by'
        rintro ys σ H' ⟨ws, rfl, lws0, bws, ⟨o, rfl⟩, rfl⟩ cl hcl
        have lws : ws.length = mm.toNat := by rw [lws0, List.length_map, List.length_take]; omega
        have zc := same_new hcl (HO.lst (ws.map V.int))
        have ecl := upd_same (H := H') (a := cl) (o := HO.lst (ws.map V.int))
        obtain ⟨Hn, hHn⟩ : ∃ Hn, Hn = upd H' cl (HO.lst (ws.map V.int)) := ⟨_, rfl⟩
        rw [← hHn] at zc ecl ⊢
        have zn := zp.trans zc
        have exn := zn _ _ ex5
        refine ⟨_, rfl, xa, _, _, _, rfl, rfl, SqL.of exn, a3, _, rfl, (bd45 (bx _ (List.getElem_mem _))).mono (by decide), fun y by' => ?_⟩
        refine ⟨(by show 1 ≤ sizeLine; decide), fun l2 hl2 => ?_⟩
        have z2 := same_new hl2 (HO.lst [V.int y])
        have el2 := upd_same (H := Hn) (a := l2) (o := HO.lst [V.int y])
        obtain ⟨H6, hH6⟩ : ∃ H6, H6 = upd Hn l2 (HO.lst [V.int y]) := ⟨_, rfl⟩
        rw [← hH6] at z2 el2 ⊢
        refine ⟨cl, l2, _, _, rfl, rfl, z2 _ _ ecl, el2, (by rw [List.length_map]; exact Nat.le_of_lt (small1000 (by show ws.length + 1 ≤ 1000; omega))), fun cc2 hcc2 => ?_⟩
        have er : ws.map V.int ++ [V.int y] = (ws ++ [y]).map V.int := by rw [List.map_append]; rfl
        rw [er]
        have z3 := same_new hcc2 (HO.lst ((ws ++ [y]).map V.int))
        refine ⟨cc2, _, rfl, .inl ⟨SqL.of upd_same, fun rt hrt => ?_⟩⟩
        have z4 := same_new hrt (HO.tup ((ws ++ [y]).map V.int))
        have ert := upd_same (H := upd H6 cc2 (HO.lst ((ws ++ [y]).map V.int))) (a := rt) (o := HO.tup ((ws ++ [y]).map V.int))
        have s57 := zn.trans (z2.trans (z3.trans z4))
        obtain ⟨H7, hH7⟩ : ∃ H7, H7 = upd (upd H6 cc2 (HO.lst ((ws ++ [y]).map V.int))) rt (HO.tup ((ws ++ [y]).map V.int)) := ⟨_, rfl⟩
        rw [← hH7] at ert s57 ⊢
        have ex7 := s57 _ _ ex5
        obtain ⟨X, Y, eX, eY, XY⟩ := swap_pick (v := v) (u := v1) (Int.fmod_nonneg_of_pos (xs[4]'(by omega)) (show (0 : Int) < 2 by decide)) (Int.fmod_lt_of_pos (xs[4]'(by omega)) (show (0 : Int) < 2 by decide))
        refine ⟨_, rfl, _, rfl, _, rfl, (by show 2 ≤ sizeLine; decide), fun l3 hl3 => ?_⟩
        have z5 := same_new hl3 (HO.lst [v, v1])
        refine ⟨_, rfl, xa, _, _, _, rfl, rfl, SqL.of (z5 _ _ ex7), a4, _, _, rfl, rfl, (show (2 : Int) ≠ 0 by decide), l3, _, _, X, rfl, rfl, SqL.of upd_same, eX, ?_⟩
        refine ⟨_, rfl, _, rfl, (by show 2 ≤ sizeLine; decide), fun l4 hl4 => ?_⟩
        have z6 := same_new hl4 (HO.lst [v1, v])
        refine ⟨_, rfl, xa, _, _, _, rfl, rfl, SqL.of (z6 _ _ (z5 _ _ ex7)), a4, _, _, rfl, rfl, (show (2 : Int) ≠ 0 by decide), l4, _, _, Y, rfl, rfl, SqL.of upd_same, eY, fun x dx hx hdx ne => ?_⟩
        have z56 := z5.trans z6
        have zx := same_make hx hdx ne (HO.own x) (HO.ins aParted dx [])
        have ex0 := upd_same (H := upd (upd (upd H7 l3 (HO.lst [v, v1])) l4 (HO.lst [v1, v])) dx (HO.own x)) (a := x) (o := HO.ins aParted dx [])
        obtain ⟨HX, hHX⟩ : ∃ HX, HX = upd (upd (upd (upd H7 l3 (HO.lst [v, v1])) l4 (HO.lst [v1, v])) dx (HO.own x)) x (HO.ins aParted dx []) := ⟨_, rfl⟩
        rw [← hHX] at zx ex0 ⊢
        refine ⟨x, dx, rt, ws ++ [y], X, Y, rfl, ex0, zx _ _ (z56 _ _ ert), (by rw [List.length_append]; show ws.length + 1 ≤ 900; omega), fun rb H9 sb frb eo eb => ⟨rfl, ?_⟩⟩
        have sX := z56.trans (same_but zx sb hx)
        refine ⟨_, rfl, _, _, rfl, rfl, ?_⟩
        have sV := s4.trans (s5.trans (s57.trans sX))
        have rvF := rv.same sV
        have rv1F := rv1.same (s57.trans sX)
        obtain ⟨dp1, lv1⟩ := isStr_one k1
        obtain ⟨ns1, a1', d1', rfl⟩ := isStr_ex k1
        have RO : (ws ++ [y]).length = mm.toNat + 1 := by rw [List.length_append, lws]; rfl
        have RB : ∀ x ∈ ws ++ [y], Bd 101 x := fun x hx => by
          rcases List.mem_append.mp hx with hx | hx
          · exact bws x hx
          · rw [List.mem_singleton.mp hx]; exact by'
        rcases XY with ⟨rfl, rfl⟩ | ⟨rfl, rfl⟩
        · refine ⟨.ref x, .prt (ws ++ [y]) t (.str ns1 a1' d1'), cnt + 1, _, _, _, _, _, rfl, sm.trans sV, ⟨x, dx, rb, _, _, rfl, eo, eb, rvF, rv1F⟩, ⟨RB, tf, tf1⟩, ⟨RO, sh, sh1⟩, ?_, ?_, ?_⟩
          · show max t.dep 1 + 1 ≤ _
            omega
          · show cnt + 1 = ((countM t + 1 : Nat) : Int)
            omega
          · show countM t + 1 ≤ _
            omega
        · refine ⟨.ref x, .prt (ws ++ [y]) (.str ns1 a1' d1') t, cnt + 1, _, _, _, _, _, rfl, sm.trans sV, ⟨x, dx, rb, _, _, rfl, eo, eb, rv1F, rvF⟩, ⟨RB, tf1, tf⟩, ⟨RO, sh1, sh⟩, ?_, ?_, ?_⟩
          · show max 1 t.dep + 1 ≤ _
            omega
          · show cnt + 1 = ((1 + countM t : Nat) : Int)
            omega
          · show 1 + countM t ≤ _
            omega
    · refine iteB0 (decide_eq_false c1) (iteF ?_)
      have b7 : Bd 4 (7 : Int) := Bd.lit
      refine ⟨_, rfl, _, _, rfl, rfl, ⟨by decide, b7.mono (by decide)⟩, _, rfl, _, mm, rfl, m1, m3, fun v1 t1 H5 s5 rv1 tf1 sh1 k1 => ?_⟩
      have ex5 := s5 _ _ ex
      refine ⟨_, rfl, _, rfl, _, rfl, xa, _, rfl, SqL.of ex5, fun p hp => ?_⟩
      have ec : cutV (xs.map V.int) none (some mm) = (xs.take mm.toNat).map V.int := by
        rw [show mm = ((mm.toNat : Nat) : Int) by omega]
        exact cut_to xs (by omega)
      have zp := same_new hp (HO.lst (cutV (xs.map V.int) none (some mm)))
      have ep : upd H5 p (HO.lst (cutV (xs.map V.int) none (some mm))) p = some (.lst ((xs.take mm.toNat).map V.int)) := upd_same.trans (by rw [ec])
      obtain ⟨Hp1, hHp1⟩ : ∃ Hp1, Hp1 = upd H5 p (HO.lst (cutV (xs.map V.int) none (some mm))) := ⟨_, rfl⟩
      rw [← hHp1] at zp ep ⊢
      refine ⟨p, rfl, ⟨_, SqL.of ep⟩, comp_list (K := K) (a := p) (xs := (xs.take mm.toNat).map V.int) (fun i ys σ H' => ∃ ws : List Int, ys = ws.map V.int ∧ ws.length = i ∧ (∀ x ∈ ws, Bd 101 x) ∧ (∃ o, σ = [o]) ∧ H' = Hp1)
        ⟨[], rfl, rfl, (fun x hx => by cases hx), ⟨none, rfl⟩, rfl⟩ (fun i ys σ H' hi ⟨ws, e1, l1, _, _, e3⟩ => ⟨by rw [e3]; exact SqL.of ep, by rw [e1, List.length_map]; omega⟩) (by rw [List.length_map, List.length_take]; exact Nat.le_of_lt (small1000 (by omega))) ?_ ?_⟩
      · rintro i x ys σ H' hi ⟨ws, rfl, lw, bw, ⟨o, rfl⟩, rfl⟩
        obtain ⟨z, hz, rfl⟩ := ints_get hi
        refine ⟨_, rfl, z, rfl, (bd45 (bx z (List.mem_of_mem_take (List.mem_of_getElem? hz)))).mono (by decide), fun y by' => ⟨ws ++ [y], (by rw [List.map_append]; rfl), (by rw [List.length_append, lw]; rfl), fun u hu => ?_, ⟨_, rfl⟩, rfl⟩⟩
        rcases List.mem_append.mp hu with hu | hu
        · exact bw u hu
        · rw [List.mem_singleton.mp hu]; exact by'
      rintro ys σ H' ⟨ws, rfl, lws0, bws, ⟨o, rfl⟩, rfl⟩ cl hcl
      have lws : ws.length = mm.toNat := by rw [lws0, List.length_map, List.length_take]; omega
      have zc := same_new hcl (HO.lst (ws.map V.int))
      have ecl := upd_same (H := H') (a := cl) (o := HO.lst (ws.map V.int))
      obtain ⟨Hn, hHn⟩ : ∃ Hn, Hn = upd H' cl (HO.lst (ws.map V.int)) := ⟨_, rfl⟩
      rw [← hHn] at zc ecl ⊢
      have zn := zp.trans zc
      have exn := zn _ _ ex5
      refine ⟨_, rfl, xa, _, _, _, rfl, rfl, SqL.of exn, a3, _, rfl, (bd45 (bx _ (List.getElem_mem _))).mono (by decide), fun y by' => ?_⟩
      refine ⟨(by show 1 ≤ sizeLine; decide), fun l2 hl2 => ?_⟩
      have z2 := same_new hl2 (HO.lst [V.int y])
      have el2 := upd_same (H := Hn) (a := l2) (o := HO.lst [V.int y])
      obtain ⟨H6, hH6⟩ : ∃ H6, H6 = upd Hn l2 (HO.lst [V.int y]) := ⟨_, rfl⟩
      rw [← hH6] at z2 el2 ⊢
      refine ⟨cl, l2, _, _, rfl, rfl, z2 _ _ ecl, el2, (by rw [List.length_map]; exact Nat.le_of_lt (small1000 (by show ws.length + 1 ≤ 1000; omega))), fun cc2 hcc2 => ?_⟩
      have er : ws.map V.int ++ [V.int y] = (ws ++ [y]).map V.int := by rw [List.map_append]; rfl
      rw [er]
      have z3 := same_new hcc2 (HO.lst ((ws ++ [y]).map V.int))
      refine ⟨cc2, _, rfl, .inl ⟨SqL.of upd_same, fun rt hrt => ?_⟩⟩
      have z4 := same_new hrt (HO.tup ((ws ++ [y]).map V.int))
      have ert := upd_same (H := upd H6 cc2 (HO.lst ((ws ++ [y]).map V.int))) (a := rt) (o := HO.tup ((ws ++ [y]).map V.int))
      have s57 := zn.trans (z2.trans (z3.trans z4))
      obtain ⟨H7, hH7⟩ : ∃ H7, H7 = upd (upd H6 cc2 (HO.lst ((ws ++ [y]).map V.int))) rt (HO.tup ((ws ++ [y]).map V.int)) := ⟨_, rfl⟩
      rw [← hH7] at ert s57 ⊢
      have ex7 := s57 _ _ ex5
      obtain ⟨X, Y, eX, eY, XY⟩ := swap_pick (v := v) (u := v1) (Int.fmod_nonneg_of_pos (xs[4]'(by omega)) (show (0 : Int) < 2 by decide)) (Int.fmod_lt_of_pos (xs[4]'(by omega)) (show (0 : Int) < 2 by decide))
      refine ⟨_, rfl, _, rfl, _, rfl, (by show 2 ≤ sizeLine; decide), fun l3 hl3 => ?_⟩
      have z5 := same_new hl3 (HO.lst [v, v1])
      refine ⟨_, rfl, xa, _, _, _, rfl, rfl, SqL.of (z5 _ _ ex7), a4, _, _, rfl, rfl, (show (2 : Int) ≠ 0 by decide), l3, _, _, X, rfl, rfl, SqL.of upd_same, eX, ?_⟩
      refine ⟨_, rfl, _, rfl, (by show 2 ≤ sizeLine; decide), fun l4 hl4 => ?_⟩
      have z6 := same_new hl4 (HO.lst [v1, v])
      refine ⟨_, rfl, xa, _, _, _, rfl, rfl, SqL.of (z6 _ _ (z5 _ _ ex7)), a4, _, _, rfl, rfl, (show (2 : Int) ≠ 0 by decide), l4, _, _, Y, rfl, rfl, SqL.of upd_same, eY, fun x dx hx hdx ne => ?_⟩
      have z56 := z5.trans z6
      have zx := same_make hx hdx ne (HO.own x) (HO.ins aParted dx [])
      have ex0 := upd_same (H := upd (upd (upd H7 l3 (HO.lst [v, v1])) l4 (HO.lst [v1, v])) dx (HO.own x)) (a := x) (o := HO.ins aParted dx [])
      obtain ⟨HX, hHX⟩ : ∃ HX, HX = upd (upd (upd (upd H7 l3 (HO.lst [v, v1])) l4 (HO.lst [v1, v])) dx (HO.own x)) x (HO.ins aParted dx []) := ⟨_, rfl⟩
      rw [← hHX] at zx ex0 ⊢
      refine ⟨x, dx, rt, ws ++ [y], X, Y, rfl, ex0, zx _ _ (z56 _ _ ert), (by rw [List.length_append]; show ws.length + 1 ≤ 900; omega), fun rb H9 sb frb eo eb => ⟨rfl, ?_⟩⟩
      have sX := z56.trans (same_but zx sb hx)
      refine ⟨_, rfl, _, _, rfl, rfl, ?_⟩
      have sV := s4.trans (s5.trans (s57.trans sX))
      have rvF := rv.same sV
      have rv1F := rv1.same (s57.trans sX)
      obtain ⟨dp1, lv1⟩ := isStr_one k1
      obtain ⟨ns1, a1', d1', rfl⟩ := isStr_ex k1
      have RO : (ws ++ [y]).length = mm.toNat + 1 := by rw [List.length_append, lws]; rfl
      have RB : ∀ x ∈ ws ++ [y], Bd 101 x := fun x hx => by
        rcases List.mem_append.mp hx with hx | hx
        · exact bws x hx
        · rw [List.mem_singleton.mp hx]; exact by'
      rcases XY with ⟨rfl, rfl⟩ | ⟨rfl, rfl⟩
      · refine ⟨.ref x, .prt (ws ++ [y]) t (.str ns1 a1' d1'), cnt + 1, _, _, _, _, _, rfl, sm.trans sV, ⟨x, dx, rb, _, _, rfl, eo, eb, rvF, rv1F⟩, ⟨RB, tf, tf1⟩, ⟨RO, sh, sh1⟩, ?_, ?_, ?_⟩
        · show max t.dep 1 + 1 ≤ _
          omega
        · show cnt + 1 = ((countM t + 1 : Nat) : Int)
          omega
        · show countM t + 1 ≤ _
          omega
      · refine ⟨.ref x, .prt (ws ++ [y]) (.str ns1 a1' d1') t, cnt + 1, _, _, _, _, _, rfl, sm.trans sV, ⟨x, dx, rb, _, _, rfl, eo, eb, rv1F, rvF⟩, ⟨RB, tf1, tf⟩, ⟨RO, sh1, sh⟩, ?_, ?_, ?_⟩
        · show max 1 t.dep + 1 ≤ _
          omega
        · show cnt + 1 = ((1 + countM t : Nat) : Int)
          omega
        · show 1 + countM t ≤ _
          omega
  rintro σ H' ⟨v, t, cnt, o4, o5, o6, o7, o8, rfl, sm, rv, tf, sh, dpt, hc, c54⟩
  rw [List.length_map] at dpt c54
  exact ⟨_, rfl, q v t H' (s1.trans (zpp.trans sm)) rv tf sh (by omega) (by omega)⟩
end
section
variable {P : Program} {w : World} {K : PySem.W.Frag} {mg : Str → Option Value} {base : Heap}
noncomputable abbrev s_l_divisor : Stmt := top 40
theorem sc_l_divisor : FnScope ["_law_one", "_law_other"] ["_law_one", "_law_other"] (defScope s_l_divisor) := ⟨rfl, rfl, rfl, by decide +kernel, rfl, by decide +kernel, by decide +kernel⟩
theorem ok_l_divisor {k : Nat} {f : Addr} {fd : FuncData} {aStraight aStopped aParted : Addr} (TStraight : ClsF K mg "Straight" aStraight) (AStraight : AtStraight K aStraight) (TStopped : ClsF K mg "Stopped" aStopped) (AStopped : AtStopped K aStopped) (TParted : ClsF K mg "Parted" aParted) (AParted : AtParted K aParted) (Y : Kits K aStraight aStopped aParted) (F : Fun K "_law_divisor" "_law_divisor" s_l_divisor f fd) (B : Bl mg) : FnOk P w K mg base CX0 (k + 1) f fd ["_law_one", "_law_other"] spShare := by
  refine F.ok sc_l_divisor (fun vs H Q E h => ?_) (fun cdv A outer s H vs Q E hr h => ?_)
  · obtain ⟨a, b, rfl, _⟩ := h
    rfl
  obtain ⟨a, b, rfl, q⟩ := h
  refine ⟨_, (pss_cons (ps_while PassesOwn.never (pt_cmpR op_ne (L2.pvj 1) pe_int (nomark _)) (pss_one (ps_par (i := 0) (j := 1) rfl sc_l_divisor.nd rfl rfl (by decide) rfl rfl (pa_cons (L2.pvj 1) (pa_cons (pe_op (ji op_modN) (L2.pvj 0) (L2.pvj 1)) pa_nil)) rfl)))
    (pss_one (ps_ret (pe_callB call_abs rfl B.abs_ boot_abs_ (pa_cons (L2.pvj 0) pa_nil))))), ?_⟩
  try dsimp only [cxOf, Cx.nox, Cx.wish]
  refine while_by (fun σ H' => ∃ c r : Int, σ = [some (.int c), some (.int r)] ∧ H' = H ∧ Int.gcd c r = Int.gcd a b) (fun σ _ => match σ with | [_, some (.int r)] => r.natAbs | _ => 0) ⟨a, b, rfl, rfl, rfl⟩ ?_ ?_
  · rintro σ H' ⟨c, r, rfl, rfl, hg⟩
    refine ⟨_, rfl, rfl, _, rfl, ?_⟩
    by_cases z0 : r = 0
    · subst z0
      refine iteNS rfl ?_
      refine ⟨_, rfl, c, rfl, ?_⟩
      rw [abs_is]
      rw [Int.gcd_zero_right] at hg
      rw [hg]
      exact q
    · have ne : ¬ (V.int r = V.int 0) := fun e => z0 (by injection e)
      refine iteB1 (ndec_no z0) ?_
      refine ⟨_, rfl, _, rfl, _, rfl, _, _, rfl, rfl, z0, _, _, rfl, ?_⟩
      exact ⟨⟨r, c.fmod r, rfl, rfl, by rw [gcd_turn]; exact hg⟩, fmod_less z0⟩
  · rintro σ H' Q1 Q2 h ⟨v, e, sc, k, ek, q1⟩
    exact ⟨v, e, sc, k, ek, h _ _ q1⟩
noncomputable abbrev s_l_fraction : Stmt := top 41
theorem sc_l_fraction : FnScope ["_law_top", "_law_bottom", "_law_share"] ["_law_top", "_law_bottom"] (defScope s_l_fraction) := ⟨rfl, rfl, rfl, by decide +kernel, rfl, by decide +kernel, by decide +kernel⟩
theorem ok_l_fraction {k : Nat} {f : Addr} {fd : FuncData} {aStraight aStopped aParted : Addr} (TStraight : ClsF K mg "Straight" aStraight) (AStraight : AtStraight K aStraight) (TStopped : ClsF K mg "Stopped" aStopped) (AStopped : AtStopped K aStopped) (TParted : ClsF K mg "Parted" aParted) (AParted : AtParted K aParted) (Y : Kits K aStraight aStopped aParted) (F : Fun K "_law_fraction" "_law_fraction" s_l_fraction f fd) (B : Bl mg) (c_l_divisor : Fn P w K mg base "_law_divisor" ["_law_one", "_law_other"] k spShare) : FnOk P w K mg base CX0 (k + 1) f fd ["_law_top", "_law_bottom"] spLowest := by
  refine F.ok sc_l_fraction (fun vs H Q E h => ?_) (fun cdv A outer s H vs Q E hr h => ?_)
  · obtain ⟨t, b, rfl, _⟩ := h
    rfl
  obtain ⟨t, b, rfl, b0, bb, q⟩ := h
  refine ⟨_, (pss_cons (ps_set (i := 2) sc_l_fraction.nd rfl (Or.inl rfl) (pe_callF c_l_divisor hr rfl (pa_cons (L2.pvj 0) (pa_cons (L2.pvj 1) pa_nil))))
    (pss_one (ps_ret (pe_tup (pa_cons (pe_op (ji op_fdivW) (L2.pvj 0) (L2.pvj 2)) (pa_cons (pe_op (ji op_fdivW) (L2.pvj 1) (L2.pvj 2)) pa_nil)))))), ?_⟩
  try dsimp only [cxOf, Cx.nox, Cx.wish]
  refine ⟨_, rfl, _, rfl, _, _, rfl, ?_⟩
  have nb : b ≠ 0 := by omega
  have ec : (Int.gcd t b : Int) = cm t b := (cm_pos_eq b0).symm
  rw [ec]
  refine ⟨_, rfl, _, rfl, _, _, rfl, rfl, ⟨cm_ne nb, bd_cm bb nb⟩, _, rfl, _, rfl, _, _, rfl, rfl, ⟨cm_ne nb, bd_cm bb nb⟩, (by show 2 ≤ sizeLine; decide), fun r hr' => ?_⟩
  exact q r _ (same_new hr' _) upd_same
noncomputable abbrev s_l_sum : Stmt := top 42
theorem sc_l_sum : FnScope ["_law_numbers", "_law_point_here", "_law_top", "_law_bottom", "_law_number_here", "_law_value"] ["_law_numbers", "_law_point_here"] (defScope s_l_sum) := ⟨rfl, rfl, rfl, by decide +kernel, rfl, by decide +kernel, by decide +kernel⟩
theorem ok_l_sum {k : Nat} {f : Addr} {fd : FuncData} {aStraight aStopped aParted : Addr} (TStraight : ClsF K mg "Straight" aStraight) (AStraight : AtStraight K aStraight) (TStopped : ClsF K mg "Stopped" aStopped) (AStopped : AtStopped K aStopped) (TParted : ClsF K mg "Parted" aParted) (AParted : AtParted K aParted) (Y : Kits K aStraight aStopped aParted) (F : Fun K "_law_sum" "_law_sum" s_l_sum f fd) (B : Bl mg) (c_l_fraction : Fn P w K mg base "_law_fraction" ["_law_top", "_law_bottom"] k spLowest) : FnOk P w K mg base CX0 (k + 1) f fd ["_law_numbers", "_law_point_here"] (spSumL K) := by
  refine F.ok sc_l_sum (fun vs H Q E h => ?_) (fun cdv A outer s H vs Q E hr h => ?_)
  · obtain ⟨na, pa, ws, pv, pts, rfl, _⟩ := h
    rfl
  obtain ⟨na, pa, ws, pv, pts, rfl, hna, hpa, hpt, PO, WO, q⟩ := h
  refine ⟨_, (pss_cons (ps_set (i := 2) sc_l_sum.nd rfl (Or.inl rfl) pe_int)
    (pss_cons (ps_set (i := 3) sc_l_sum.nd rfl (Or.inl rfl) pe_int)
    (pss_cons (ps_for PassesOwn.never rfl (pi_zipS rfl B.zip_ (pa_cons (L2.pvj 0) (pa_cons (L2.pvj 1) pa_nil))) (pg_tup rfl (pgs_cons (pg_name (i := 4) sc_l_sum.nd rfl (Or.inl rfl)) (pgs_cons (pg_name (i := 5) sc_l_sum.nd rfl (Or.inl rfl)) pgs_nil))) (pss_cons (ps_set (i := 2) sc_l_sum.nd rfl (Or.inl rfl) (pe_op (ji0 op_add) (pe_op (ji op_mulW) (L2.pvj 2) (pe_ix jix_tup (L2.pvj 5) pe_int (fun _ _ => rfl))) (pe_op (ji op_mulW) (pe_op (ji op_mulW) (L2.pvj 4) (pe_ix jix_tup (L2.pvj 5) pe_int (fun _ _ => rfl))) (L2.pvj 3))))
      (pss_one (ps_set (i := 3) sc_l_sum.nd rfl (Or.inl rfl) (pe_op (ji op_mulW) (L2.pvj 3) (pe_ix jix_tup (L2.pvj 5) pe_int (fun _ _ => rfl)))))))
    (pss_one (ps_ret (pe_callF c_l_fraction hr rfl (pa_cons (L2.pvj 2) (pa_cons (L2.pvj 3) pa_nil)))))))), ?_⟩
  try dsimp only [cxOf, Cx.nox, Cx.wish]
  have lp : pv.length = pts.length := Paired.length hpt
  have hlen : (ws.map V.int).length ≤ pv.length := by rw [List.length_map, WO.len, lp]; exact Nat.le_refl _
  refine ⟨_, rfl, _, rfl, na, pa, rfl, for_zipE (xs := ws.map V.int) (ys := pv) hna hpa
    (fun i σ H2 => ∃ n1 p1, σ = [some (.ref na), some (.ref pa), some (.int (((ws.zip pts).take i).foldl alStep (0, 1)).1), some (.int (((ws.zip pts).take i).foldl alStep (0, 1)).2), n1, p1] ∧ Same H H2)
    ⟨none, none, rfl, Same.refl _⟩ (fun i σ H2 _ ⟨_, _, _, sm⟩ => sm) hlen ?_ ?_⟩
  · rintro i x y T σ H2 hx hy hT ⟨n1, p1, rfl, sm⟩
    obtain ⟨wv, hw, rfl⟩ := ints_get hx
    obtain ⟨pr, hpr, r, rfl, er⟩ := paired_get hpt hy
    have hz : (ws.zip pts)[i]? = some (wv, pr) := by rw [List.getElem?_zip_eq_some]; exact ⟨hw, hpr⟩
    have hzm := List.mem_of_getElem? hz
    obtain ⟨z1, z2, z3, z4⟩ := zip_ok PO WO _ hzm
    have hil : i < pts.length := (List.getElem?_eq_some_iff.mp hpr).1
    obtain ⟨b1, b2⟩ := bd_al i ((ws.zip pts).take i) (by rw [List.length_take, zip_len WO]; omega) fun q hq => (zip_ok PO WO q (List.mem_of_mem_take hq)).2
    have n7 := PO.n7
    have s2 := sm.trans (same_new hT (HO.tup [V.int wv, V.ref r]))
    have er2 := s2 _ _ er
    have tk : ((ws.zip pts).take (i + 1)).foldl alStep (0, 1) = alStep (((ws.zip pts).take i).foldl alStep (0, 1)) (wv, pr) := by rw [take_snoc hz, List.foldl_append]; rfl
    refine ⟨T, _, rfl, SqT.of upd_same, rfl, _, _, rfl, _, _, rfl, rfl, ?_⟩
    refine ⟨_, rfl, _, rfl, r, _, 1, _, rfl, rfl, SqT.of er2, at1, _, _, rfl, rfl, ⟨b1.mono (by omega), z4.mono (by decide)⟩, ?_⟩
    refine ⟨_, rfl, _, rfl, r, _, 0, _, rfl, rfl, SqT.of er2, at0, _, _, rfl, rfl, ⟨z2.mono (by decide), z3.mono (by decide)⟩, _, rfl, _, _, rfl, rfl, ⟨(z2.mul z3).mono (by decide), b2.mono (by omega)⟩, _, _, rfl, rfl, ?_⟩
    refine ⟨_, rfl, _, rfl, r, _, 1, _, rfl, rfl, SqT.of er2, at1, _, _, rfl, rfl, ⟨b2.mono (by omega), z4.mono (by decide)⟩, ?_⟩
    refine ⟨some (.int wv), some (.ref r), ?_, s2⟩
    rw [tk]
    rfl
  · rintro σ H2 ⟨n1, p1, rfl, sm⟩
    have tk : (ws.zip pts).take (ws.map V.int).length = ws.zip pts := List.take_of_length_le (by rw [zip_len WO, List.length_map, WO.len]; exact Nat.le_refl _)
    rw [tk]
    have p0 := al_pos PO WO
    have b2 := (al_bd PO WO).2
    exact ⟨_, rfl, _, rfl, _, _, rfl, p0, b2.mono (by decide), fun r H3 s3 e3 => q r H3 (sm.trans s3) e3⟩
noncomputable abbrev s_l_held : Stmt := top 43
theorem sc_l_held : FnScope ["_law_rows", "_law_point_here", "_law_spare", "_law_row", "_law_value"] ["_law_rows", "_law_point_here"] (defScope s_l_held) := ⟨rfl, rfl, rfl, by decide +kernel, rfl, by decide +kernel, by decide +kernel⟩
theorem ok_l_held {k : Nat} {f : Addr} {fd : FuncData} {aStraight aStopped aParted : Addr} (TStraight : ClsF K mg "Straight" aStraight) (AStraight : AtStraight K aStraight) (TStopped : ClsF K mg "Stopped" aStopped) (AStopped : AtStopped K aStopped) (TParted : ClsF K mg "Parted" aParted) (AParted : AtParted K aParted) (Y : Kits K aStraight aStopped aParted) (F : Fun K "_law_held" "_law_held" s_l_held f fd) (B : Bl mg) (c_l_sum : Fn P w K mg base "_law_sum" ["_law_numbers", "_law_point_here"] k (spSumL K)) : FnOk P w K mg base CX0 (k + 1) f fd ["_law_rows", "_law_point_here"] (spHeld K) := by
  refine F.ok sc_l_held (fun vs H Q E h => ?_) (fun cdv A outer s H vs Q E hr h => ?_)
  · obtain ⟨rl, pa, rv, rows, pv, pts, rfl, _⟩ := h
    rfl
  obtain ⟨rl, pa, rv, rows, pv, pts, rfl, hrl, hrv, RO, few, hpa, hpt, PO, q⟩ := h
  refine ⟨_, (pss_cons (ps_set (i := 2) sc_l_held.nd rfl (Or.inl rfl) pe_int)
    (pss_cons (ps_for PassesOwn.never rfl (pi_list (L2.pvj 0)) (pg_name (i := 3) sc_l_held.nd rfl (Or.inl rfl)) (pss_cons (ps_set (i := 4) sc_l_held.nd rfl (Or.inl rfl) (pe_callF c_l_sum hr rfl (pa_cons (pe_slice jsl_tup (L2.pvj 3) po_none (po_some (pe_un un_neg pe_int))) (pa_cons (L2.pvj 1) pa_nil))))
      (pss_cons (ps_if (pt_cmpR (ji0 op_gt) (pe_ix jix_tup (L2.pvj 4) pe_int (fun _ _ => rfl)) (pe_op (ji op_mulW) (pe_ix jix_tup (L2.pvj 3) (pe_un un_neg pe_int) (fun _ _ => rfl)) (pe_ix jix_tup (L2.pvj 4) pe_int (fun _ _ => rfl))) (nomark _)) (pss_one (ps_ret (pe_op (ji0 op_sub) pe_int pe_int))) pss_nil)
      (pss_one (ps_if (pt_cmpR op_eq (pe_ix jix_tup (L2.pvj 4) pe_int (fun _ _ => rfl)) (pe_op (ji op_mulW) (pe_ix jix_tup (L2.pvj 3) (pe_un un_neg pe_int) (fun _ _ => rfl)) (pe_ix jix_tup (L2.pvj 4) pe_int (fun _ _ => rfl))) (nomark _)) (pss_one (ps_set (i := 2) sc_l_held.nd rfl (Or.inl rfl) pe_int)) pss_nil)))))
    (pss_one (ps_ret (L2.pvj 2))))), ?_⟩
  try dsimp only [cxOf, Cx.nox, Cx.wish]
  have lr : rv.length = rows.length := Paired.length hrv
  have hp0 : ∀ p ∈ pts, 0 < p.2 := fun p h => (PO.ok p h).1
  refine ⟨_, rfl, rl, rfl, ⟨_, SqL.of hrl⟩, for_list (K := K) (a := rl) (xs := rv)
    (fun i σ H' => ∃ (sp : Int) (o3 o4 : Option V), σ = [some (.ref rl), some (.ref pa), some (.int sp), o3, o4] ∧ Same H H' ∧ (∀ r ∈ rows.take i, hlR pts r) ∧ (sp = 1 → ∀ r ∈ rows.take i, stR pts r) ∧ 0 ≤ sp)
    ⟨1, none, none, rfl, Same.refl _, (fun r hr => by cases hr), (fun _ r hr => by cases hr), by decide⟩ (fun i σ H' _ ⟨_, _, _, _, sm, _⟩ => SqL.of (sm _ _ hrl)) ?_ ?_⟩
  · rintro i x σ H' hi ⟨sp, o3, o4, rfl, sm, hh, hs, sp0⟩
    obtain ⟨row, hrow, a, rfl, era0⟩ := paired_get hrv hi
    have W := RO row (List.mem_of_getElem? hrow)
    have p0 := al_pos PO W.rw
    have bb := (al_bd PO W.rw).2
    have era : H' a = some (.tup (rowV (row.take pts.length) (row.getD pts.length 0))) := (sm _ _ era0).trans (by rw [rowV_split W.len])
    have ec : cutV (rowV (row.take pts.length) (row.getD pts.length 0)) none (some (-1)) = (row.take pts.length).map V.int := cut_last _ _
    refine ⟨_, rfl, _, rfl, _, rfl, a, _, rfl, SqT.of era, cut_last_no _ _, fun p hp => ?_⟩
    have z1 := same_new hp (HO.tup (cutV (rowV (row.take pts.length) (row.getD pts.length 0)) none (some (-1))))
    refine ⟨_, rfl, p, pa, row.take pts.length, pv, pts, rfl, .inl (SqT.of (upd_same.trans (by rw [ec]))), (sm.trans z1).seq hpa, hpt.same (sm.trans z1), PO, W.rw, fun r1 H1 s1 e1 => ?_⟩
    have s01 := z1.trans s1
    have bl := bd_lowB (t := (alFold (row.take pts.length) pts).1) bb
    have bw := (W.at (Nat.le_refl _)).2
    have hle : lowT (alFold (row.take pts.length) pts).1 (alFold (row.take pts.length) pts).2 ≤ row.getD pts.length 0 * lowB (alFold (row.take pts.length) pts).1 (alFold (row.take pts.length) pts).2 ↔ hlR pts row := low_le p0
    have hlt : lowT (alFold (row.take pts.length) pts).1 (alFold (row.take pts.length) pts).2 < row.getD pts.length 0 * lowB (alFold (row.take pts.length) pts).1 (alFold (row.take pts.length) pts).2 ↔ stR pts row := low_lt hp0 p0
    refine ⟨_, rfl, r1, _, 0, _, rfl, rfl, SqT.of e1, at0, _, rfl, _, rfl, a, _, _, _, rfl, rfl, SqT.of (s01 _ _ era), atI_last _ _, _, rfl, r1, _, 1, _, rfl, rfl, SqT.of e1, at1, _, _, rfl, rfl, ⟨bw.mono (by decide), bl.mono (by decide)⟩, _, _, rfl, rfl, _, rfl, ?_⟩
    refine ite2 (fun c => ?_) (fun c => ?_)
    · have c' := of_decide_eq_true c
      have nh : ¬ hlR pts row := fun z => by have := hle.mpr z; omega
      exact ⟨_, _, rfl, rfl, q (0 - 1) _ (sm.trans s01) ⟨fun z => absurd z (by decide), fun z => absurd (z row (List.mem_of_getElem? hrow)) nh⟩ (fun z => absurd z (by decide))⟩
    have c' : ¬ row.getD pts.length 0 * lowB (alFold (row.take pts.length) pts).1 (alFold (row.take pts.length) pts).2 < lowT (alFold (row.take pts.length) pts).1 (alFold (row.take pts.length) pts).2 := fun z => c (decide_eq_true z)
    have h1 : hlR pts row := hle.mp (by omega)
    have hh' : ∀ r ∈ rows.take (i + 1), hlR pts r := fun r hr => by
      rw [take_snoc hrow] at hr
      rcases List.mem_append.mp hr with hr | hr
      · exact hh r hr
      · rw [List.mem_singleton.mp hr]; exact h1
    refine ⟨_, rfl, r1, _, 0, _, rfl, rfl, SqT.of e1, at0, _, rfl, _, rfl, a, _, _, _, rfl, rfl, SqT.of (s01 _ _ era), atI_last _ _, _, rfl, r1, _, 1, _, rfl, rfl, SqT.of e1, at1, _, _, rfl, rfl, ⟨bw.mono (by decide), bl.mono (by decide)⟩, rfl, _, rfl, ?_⟩
    by_cases e : lowT (alFold (row.take pts.length) pts).1 (alFold (row.take pts.length) pts).2 = row.getD pts.length 0 * lowB (alFold (row.take pts.length) pts).1 (alFold (row.take pts.length) pts).2
    · refine iteB1 (dec_yes e) ?_
      exact ⟨0, _, _, rfl, sm.trans s01, hh', (fun z => absurd z (by decide)), by decide⟩
    · refine iteB0 (dec_no e) ?_
      have h2 : stR pts row := hlt.mp (by omega)
      refine ⟨sp, _, _, rfl, sm.trans s01, hh', fun z r hr => ?_, sp0⟩
      rw [take_snoc hrow] at hr
      rcases List.mem_append.mp hr with hr | hr
      · exact hs z r hr
      · rw [List.mem_singleton.mp hr]; exact h2
  rintro σ H' ⟨sp, o3, o4, rfl, sm, hh, hs, sp0⟩
  rw [lr, List.take_length] at hh hs
  exact ⟨_, rfl, q sp H' sm ⟨fun _ => hh, fun _ => sp0⟩ hs⟩
noncomputable abbrev s_l_told : Stmt := top 44
theorem sc_l_told : FnScope ["_law_straight", "_law_point_here", "_law_value"] ["_law_straight", "_law_point_here"] (defScope s_l_told) := ⟨rfl, rfl, rfl, by decide +kernel, rfl, by decide +kernel, by decide +kernel⟩
theorem ok_l_told {k : Nat} {f : Addr} {fd : FuncData} {aStraight aStopped aParted : Addr} (TStraight : ClsF K mg "Straight" aStraight) (AStraight : AtStraight K aStraight) (TStopped : ClsF K mg "Stopped" aStopped) (AStopped : AtStopped K aStopped) (TParted : ClsF K mg "Parted" aParted) (AParted : AtParted K aParted) (Y : Kits K aStraight aStopped aParted) (F : Fun K "_law_told" "_law_told" s_l_told f fd) (B : Bl mg) (c_l_sum : Fn P w K mg base "_law_sum" ["_law_numbers", "_law_point_here"] k (spSumL K)) (c_l_fraction : Fn P w K mg base "_law_fraction" ["_law_top", "_law_bottom"] k spLowest) : FnOk P w K mg base CX0 (k + 1) f fd ["_law_straight", "_law_point_here"] (spTold aStraight K) := by
  refine F.ok sc_l_told (fun vs H Q E h => ?_) (fun cdv A outer s H vs Q E hr h => ?_)
  · obtain ⟨so, dx, la, pa, l, pv, pts, rfl, _⟩ := h
    rfl
  obtain ⟨so, dx, la, pa, l, pv, pts, rfl, ins, ela, W, ba, d1, bd, hpa, hpt, PO, n3, q⟩ := h
  refine ⟨_, (pss_cons (ps_set (i := 2) sc_l_told.nd rfl (Or.inl rfl) (pe_callF c_l_sum hr rfl (pa_cons (pe_fld (L2.pvj 0) rfl) (pa_cons (L2.pvj 1) pa_nil))))
    (pss_one (ps_ret (pe_callF c_l_fraction hr rfl (pa_cons (pe_op (ji0 op_add) (pe_ix jix_tup (L2.pvj 2) pe_int (fun _ _ => rfl)) (pe_op (ji op_mulW) (pe_fld (L2.pvj 0) rfl) (pe_ix jix_tup (L2.pvj 2) pe_int (fun _ _ => rfl)))) (pa_cons (pe_op (ji op_mulW) (pe_ix jix_tup (L2.pvj 2) pe_int (fun _ _ => rfl)) (pe_fld (L2.pvj 0) rfl)) pa_nil)))))), ?_⟩
  try dsimp only [cxOf, Cx.nox, Cx.wish]
  have p0 := al_pos PO W
  have bb := (al_bd3 PO n3 W).2
  refine ⟨_, rfl, so, aStraight, dx, _, _, rfl, ins, TStraight.cl, AStraight.n_numbers, rfl, _, rfl, la, pa, l.ns, pv, pts, rfl, .inr (SqL.of ela), hpa, hpt, PO, W, fun r1 H1 s1 e1 => ?_⟩
  have pl := lowB_pos (t := (alFold l.ns pts).1) (b := (alFold l.ns pts).2) (by omega)
  have bl := bd_lowB (t := (alFold l.ns pts).1) bb
  refine ⟨_, rfl, r1, _, 0, _, rfl, rfl, SqT.of e1, at0, _, rfl, so, aStraight, dx, _, _, rfl, (s1 _ _ ins), TStraight.cl, AStraight.n_add, rfl, _, rfl, r1, _, 1, _, rfl, rfl, SqT.of e1, at1, _, _, rfl, rfl, ⟨ba.mono (by decide), bl.mono (by decide)⟩, _, _, rfl, rfl, _, rfl, r1, _, 1, _, rfl, rfl, SqT.of e1, at1, _, rfl, so, aStraight, dx, _, _, rfl, (s1 _ _ ins), TStraight.cl, AStraight.n_divisor, rfl, _, _, rfl, rfl, ⟨bl.mono (by decide), bd.mono (by decide)⟩, _, _, rfl, Int.mul_pos pl d1, (bl.mul bd).mono (by decide), fun r H2 s2 e2 => ?_⟩
  refine q r H2 (s1.trans s2) (e2.trans ?_)
  rw [(low_add p0 d1).1, (low_add p0 d1).2]
  rfl
noncomputable abbrev s_l_point : Stmt := top 45
theorem sc_l_point : FnScope ["_law_cell", "_law_many", "_law_rows", "_law_xs", "_law_point_here", "_law_k", "_law_bottom", "_law_row", "_law_rest", "_law_top"] ["_law_cell", "_law_many", "_law_rows"] (defScope s_l_point) := ⟨rfl, rfl, rfl, by decide +kernel, rfl, by decide +kernel, by decide +kernel⟩
theorem ok_l_point {k : Nat} {f : Addr} {fd : FuncData} {aStraight aStopped aParted : Addr} (TStraight : ClsF K mg "Straight" aStraight) (AStraight : AtStraight K aStraight) (TStopped : ClsF K mg "Stopped" aStopped) (AStopped : AtStopped K aStopped) (TParted : ClsF K mg "Parted" aParted) (AParted : AtParted K aParted) (Y : Kits K aStraight aStopped aParted) (F : Fun K "_law_point" "_law_point" s_l_point f fd) (B : Bl mg) (c_l_stream : Fn P w K mg base "_law_stream" ["_law_cell", "_law_many"] k spStream) (c_l_fraction : Fn P w K mg base "_law_fraction" ["_law_top", "_law_bottom"] k spLowest) (c_l_number : Fn P w K mg base "_law_number" ["_law_number_here"] k spNum21) (c_l_sum : Fn P w K mg base "_law_sum" ["_law_numbers", "_law_point_here"] k (spSumL K)) : FnOk P w K mg base CX0 (k + 1) f fd ["_law_cell", "_law_many", "_law_rows"] spPointR := by
  refine F.ok sc_l_point (fun vs H Q E h => ?_) (fun cdv A outer s H vs Q E hr h => ?_)
  · obtain ⟨c, mm, ra, rv, rows, rfl, _⟩ := h
    rfl
  obtain ⟨c, mm, ra, rv, rows, rfl, m1, m3, hra, hrv, RO, few, q⟩ := h
  refine ⟨_, (pss_cons (ps_set (i := 3) sc_l_point.nd rfl (Or.inl rfl) (pe_callF c_l_stream hr rfl (pa_cons (L2.pvj 0) (pa_cons pe_int pa_nil))))
    (pss_cons (ps_set (i := 4) sc_l_point.nd rfl (Or.inl rfl) (pe_lst pa_nil))
    (pss_cons (ps_for PassesOwn.never rfl (pi_range1 rfl B.range_ (pa_cons (L2.pvj 1) pa_nil)) (pg_name (i := 5) sc_l_point.nd rfl (Or.inl rfl)) (pss_cons (ps_set (i := 6) sc_l_point.nd rfl (Or.inl rfl) (pe_ix jix_list (pe_lst (pa_cons pe_int (pa_cons (pe_op (ji0 op_add) pe_int (pe_op (ji op_modN) (pe_ix jix_list (L2.pvj 3) (pe_op (ji0 op_add) pe_int (L2.pvj 5)) (fun _ _ => rfl)) pe_int)) (pa_cons (pe_op (ji0 op_add) pe_int (pe_op (ji op_modN) (pe_ix jix_list (L2.pvj 3) (pe_op (ji0 op_add) pe_int (L2.pvj 5)) (fun _ _ => rfl)) (pe_op (ji op_pow) pe_int pe_int))) pa_nil)))) (pe_op (ji op_modN) (pe_ix jix_list (L2.pvj 3) pe_int (fun _ _ => rfl)) pe_int) (fun _ _ => rfl)))
      (pss_one (ps_expr (pe_bm PySem.F.plainAttrs_list PySem.F.slot_list_append PySem.F.type_list_append japp (L2.pvj 4) (pa_cons (pe_callF c_l_fraction hr rfl (pa_cons (pe_callF c_l_number hr rfl (pa_cons (pe_ix jix_list (L2.pvj 3) (L2.pvj 5) (fun _ _ => rfl)) pa_nil)) (pa_cons (L2.pvj 6) pa_nil))) pa_nil))))))
    (pss_cons (ps_if (PW.pt (pw_and (pt_cmpR op_eq (pe_op (ji op_modN) (pe_op (ji op_fdivW) (pe_ix jix_list (L2.pvj 3) pe_int (fun _ _ => rfl)) pe_int) pe_int) pe_int (nomark _)) (pw_and1 (pt_cmpR (op_neX hr.units) (L2.pvj 2) (pe_lst pa_nil) (nomark _))))) (pss_cons (ps_set (i := 7) sc_l_point.nd rfl (Or.inl rfl) (pe_ix jix_list (L2.pvj 2) (pe_op (ji op_modN) (pe_op (ji op_fdivW) (pe_ix jix_list (L2.pvj 3) pe_int (fun _ _ => rfl)) pe_int) (pe_callB jlen rfl B.len_ boot_len_ (pa_cons (L2.pvj 2) pa_nil))) (fun _ _ => rfl)))
      (pss_one (ps_if (pt_cmpR op_ne (pe_ix jix_tup (L2.pvj 7) pe_int (fun _ _ => rfl)) pe_int (nomark _)) (pss_cons (ps_set (i := 8) sc_l_point.nd rfl (Or.inl rfl) (pe_callF c_l_sum hr rfl (pa_cons (pe_slice jsl_tup (L2.pvj 7) (po_some pe_int) (po_some (pe_un un_neg pe_int))) (pa_cons (pe_slice jsl_list (L2.pvj 4) (po_some pe_int) po_none) pa_nil))))
        (pss_cons (ps_set (i := 6) sc_l_point.nd rfl (Or.inl rfl) (pe_op (ji op_mulW) (pe_ix jix_tup (L2.pvj 7) pe_int (fun _ _ => rfl)) (pe_ix jix_tup (L2.pvj 8) pe_int (fun _ _ => rfl))))
        (pss_cons (ps_set (i := 9) sc_l_point.nd rfl (Or.inl rfl) (pe_op (ji0 op_sub) (pe_op (ji op_mulW) (pe_ix jix_tup (L2.pvj 7) (pe_un un_neg pe_int) (fun _ _ => rfl)) (pe_ix jix_tup (L2.pvj 8) pe_int (fun _ _ => rfl))) (pe_ix jix_tup (L2.pvj 8) pe_int (fun _ _ => rfl))))
        (pss_one (ps_asg (pe_callF c_l_fraction hr rfl (pa_cons (pe_op (ji op_mulW) (L2.pvj 9) (pe_ix jix_list (pe_lst (pa_cons pe_int (pa_cons (pe_op (ji0 op_sub) pe_int pe_int) pa_nil))) (pe_callTy call_int1 rfl B.int_ boot_int_ (pa_cons (pe_cmpR (ji0 op_lt) (L2.pvj 6) pe_int (nomark _)) pa_nil)) (fun _ _ => rfl))) (pa_cons (pe_callB call_abs rfl B.abs_ boot_abs_ (pa_cons (L2.pvj 6) pa_nil)) pa_nil))) (pg_sub (L2.pvj 4) pe_int jset)))))) pss_nil))) pss_nil)
    (pss_one (ps_ret (L2.pvj 4))))))), ?_⟩
  try dsimp only [cxOf, Cx.nox, Cx.wish]
  refine ⟨_, rfl, _, 7, rfl, (by decide), (by decide), fun xa H1 xs s1 xn ex lx bx => ?_⟩
  have lx7 : xs.length = 7 := lx
  have a6 : atI (xs.map V.int) (6 : Int) = some (.int (xs[6]'(by omega))) := at_ints (j := 6) _
  refine ⟨(by show 0 ≤ sizeLine; decide), fun l hl => ?_⟩
  have sA := same_new hl (HO.lst [])
  have lH := s1.free hl
  refine ⟨_, rfl, mm, rfl, (by omega), (by omega), for_range (lo := 0) (n := mm.toNat)
    (fun i σ H' => ∃ (pv : List V) (pts : List (Int × Int)) (k5 b6 : Option V), σ = [some (.int c), some (.int mm), some (.ref ra), some (.ref xa), some (.ref l), k5, b6, none, none, none] ∧ Same H1 H' ∧ H' l = some (.lst pv) ∧ PtV H' pv pts ∧ (∀ p ∈ pts, 0 < p.2 ∧ Bd 101 p.1 ∧ Bd 30 p.2) ∧ pts.length = i)
    ⟨[], [], none, none, rfl, sA, upd_same, .nil, (fun p hp => by cases hp), rfl⟩ ?_ ?_⟩
  · rintro i σ H' hi ⟨pv, pts, k5, b6, rfl, sm, el, hpt, PB, lp⟩
    have lpv : pv.length = pts.length := Paired.length hpt
    have ex' := sm _ _ ex
    have a3 : atI (xs.map V.int) (3 + ((0 : Int) + (i : Int))) = some (.int (xs[3 + i]'(by omega))) := by
      rw [show (3 : Int) + ((0 : Int) + (i : Int)) = ((3 + i : Nat) : Int) by omega]
      exact at_ints _
    have ai : atI (xs.map V.int) ((0 : Int) + (i : Int)) = some (.int (xs[i]'(by omega))) := by
      rw [Int.zero_add]
      exact at_ints _
    obtain ⟨X, hX⟩ : ∃ X, X = xs[3 + i]'(by omega) := ⟨_, rfl⟩
    rw [← hX] at a3
    have h1 := Int.fmod_nonneg_of_pos X (show (0 : Int) < 12 by decide)
    have h2 := Int.fmod_lt_of_pos X (show (0 : Int) < 12 by decide)
    have h3 := Int.fmod_nonneg_of_pos X (show (0 : Int) < 10 ^ (6 : Int).toNat by decide)
    have h4 := Int.fmod_lt_of_pos X (show (0 : Int) < 10 ^ (6 : Int).toNat by decide)
    have h5 : (10 : Int) ^ (6 : Int).toNat = 1000000 := by decide
    refine ⟨_, rfl, _, rfl, _, _, rfl, rfl, xa, _, _, _, rfl, rfl, SqL.of ex', a3, _, _, rfl, rfl, (show (12 : Int) ≠ 0 by decide), _, _, rfl, rfl, _, rfl, _, rfl, _, _, rfl, rfl, xa, _, _, _, rfl, rfl, SqL.of ex', a3, _, _, rfl, rfl, ⟨by decide, by decide, by decide⟩, _, _, rfl, rfl, (show (10 : Int) ^ (6 : Int).toNat ≠ 0 by decide), _, _, rfl, rfl, (by show 3 ≤ sizeLine; decide), fun l2 hl2 => ?_⟩
    have z2 := same_new hl2 (HO.lst [V.int 1, V.int (1 + X.fmod 12), V.int (1 + X.fmod (10 ^ (6 : Int).toNat))])
    have e2 := upd_same (H := H') (a := l2) (o := HO.lst [V.int 1, V.int (1 + X.fmod 12), V.int (1 + X.fmod (10 ^ (6 : Int).toNat))])
    obtain ⟨bb, eb, b0, b1⟩ := pos_pick3 (x := 1) (y := 1 + X.fmod 12) (z := 1 + X.fmod (10 ^ (6 : Int).toNat)) (m := 1000000) (Int.fmod_nonneg_of_pos (xs[6]'(by omega)) (show (0 : Int) < 3 by decide)) (Int.fmod_lt_of_pos (xs[6]'(by omega)) (show (0 : Int) < 3 by decide)) ⟨by decide, by decide⟩ ⟨by omega, by omega⟩ ⟨by omega, by omega⟩
    obtain ⟨H2, hH2⟩ : ∃ H2, H2 = upd H' l2 (HO.lst [V.int 1, V.int (1 + X.fmod 12), V.int (1 + X.fmod (10 ^ (6 : Int).toNat))]) := ⟨_, rfl⟩
    rw [← hH2] at z2 e2 ⊢
    refine ⟨_, rfl, xa, _, _, _, rfl, rfl, SqL.of (z2 _ _ ex'), a6, _, _, rfl, rfl, (show (3 : Int) ≠ 0 by decide), l2, _, _, .int bb, rfl, rfl, SqL.of e2, eb, ?_⟩
    have bbb : Bd 30 bb := by
      show bb.natAbs < 2 ^ 30
      omega
    refine ⟨_, rfl, .inl ⟨rfl, _, SqL.of (z2 _ _ el)⟩, _, rfl, _, rfl, xa, _, _, _, rfl, rfl, SqL.of (z2 _ _ ex'), ai, _, rfl, (bd45 (bx _ (List.getElem_mem _))).mono (by decide), fun y by' => ?_⟩
    refine ⟨_, rfl, _, _, rfl, b0, bbb.mono (by decide), fun r H3 s3 e3 => ?_⟩
    have sF := z2.trans s3
    refine ⟨l, pv, _, rfl, rfl, sF _ _ el, small1000 (by omega), ?_⟩
    refine ⟨pv ++ [V.ref r], pts ++ [(lowT y bb, lowB y bb)], _, _, rfl, ?_, upd_same, paired_snoc (R := FrV _) (FrV.upd (sF _ _ el) ⟨r, rfl, e3⟩) (PtV.upd (sF _ _ el) (hpt.same sF)), fun p hp => ?_, (by rw [List.length_append, lp]; rfl)⟩
    · intro b o hb
      rw [upd_ne (ne_of_none hb hl)]
      exact sF _ _ (sm _ _ hb)
    · rcases List.mem_append.mp hp with hp | hp
      · exact PB p hp
      · rw [List.mem_singleton.mp hp]
        exact ⟨lowB_pos (by omega), bd_lowT by', bd_lowB bbb⟩
  rintro σ H2 ⟨pv, pts, k5, b6, rfl, sm, el, hpt, PB, lp⟩
  have lpv : pv.length = pts.length := Paired.length hpt
  have ex2 := sm _ _ ex
  have s02 := s1.trans sm
  have PO : PtOk pts := ⟨by omega, fun p hp => let ⟨h1, h2, h3⟩ := PB p hp; ⟨h1, h2.mono (by decide), h3.mono (by decide)⟩⟩
  have hra2 := s02 _ _ hra
  have b3 : Bd 4 (3 : Int) := Bd.lit
  have b9 : Bd 4 (9 : Int) := Bd.lit
  refine ⟨_, rfl, xa, _, _, _, rfl, rfl, SqL.of ex2, a6, _, _, rfl, rfl, ⟨by decide, b3.mono (by decide)⟩, _, _, rfl, rfl, (show (2 : Int) ≠ 0 by decide), rfl, _, rfl, ?_⟩
  by_cases c1 : ((xs[6]'(by omega)).fdiv 3).fmod 2 = 1
  · refine iteB1 (dec_yes c1) ?_
    refine ⟨_, rfl, (by show 0 ≤ sizeLine; decide), fun e0 he0 => ?_⟩
    have y0 := same_new he0 (HO.lst [])
    have hrv3 := WaysV.same (s02.trans y0) hrv
    refine ⟨.list (rows.map rowT), .list [], .lst (SqL.of (y0 _ _ hra2)) (dp_ways hrv3), .lst (SqL.of upd_same) .nil, lay_rows _, rfl, dep_rows _, (by decide), _, rfl, ?_⟩
    rw [eqv_rows0]
    obtain ⟨H3, hH3⟩ : ∃ H3, H3 = upd H2 e0 (HO.lst []) := ⟨_, rfl⟩
    rw [← hH3] at y0 hrv3 ⊢
    have s03 := s02.trans y0
    have el3 := y0 _ _ el
    have hpt3 := hpt.same y0
    by_cases rn : rows = []
    · refine iteB0 (decide_eq_false fun z => z rn) ?_
      exact ⟨_, rfl, q l pv pts H3 s03 lH el3 hpt3 PO lp⟩
    refine iteB1 (decide_eq_true rn) ?_
    have lr : rv.length = rows.length := Paired.length hrv
    have r0 : 0 < rows.length := List.length_pos_iff.mpr rn
    have j0 := Int.fmod_nonneg_of_pos ((xs[6]'(by omega)).fdiv 9) (show (0 : Int) < (rv.length : Int) by omega)
    have j1 := Int.fmod_lt_of_pos ((xs[6]'(by omega)).fdiv 9) (show (0 : Int) < (rv.length : Int) by omega)
    obtain ⟨j, hj⟩ : ∃ j : Nat, ((xs[6]'(by omega)).fdiv 9).fmod (rv.length : Int) = (j : Int) := ⟨_, (Int.toNat_of_nonneg j0).symm⟩
    have jl : j < rv.length := by omega
    have hv : rv[j]? = some (rv[j]'jl) := List.getElem?_eq_getElem _
    obtain ⟨row, hrow, a, ea0, ea⟩ := paired_get hrv3 hv
    obtain ⟨lrow, brow⟩ := RO row (List.mem_of_getElem? hrow)
    have aX : atI rv (((xs[6]'(by omega)).fdiv 9).fmod (rv.length : Int)) = some (.ref a) := by
      rw [hj]
      exact atI_nat (hv.trans (by rw [ea0]))
    refine ⟨_, rfl, _, rfl, xa, _, _, _, rfl, rfl, SqL.of (y0 _ _ ex2), a6, _, _, rfl, rfl, ⟨by decide, b9.mono (by decide)⟩, _, rfl, ra, _, rfl, .inl (SqL.of (y0 _ _ hra2)), _, _, rfl, rfl, (by omega), ra, _, _, _, rfl, rfl, SqL.of (y0 _ _ hra2), aX, ?_⟩
    have ar0 : atI (row.map V.int) (0 : Int) = some (.int (row[0]'(by omega))) := at_ints (j := 0) _
    obtain ⟨W0, hW0⟩ : ∃ W0, W0 = row[0]'(by omega) := ⟨_, rfl⟩
    have bW0 : Bd 300 W0 := by rw [hW0]; exact brow _ (List.getElem_mem _)
    rw [← hW0] at ar0
    refine ⟨_, rfl, a, _, 0, _, rfl, rfl, SqT.of ea, ar0, rfl, _, rfl, ?_⟩
    by_cases w0 : W0 = 0
    · refine iteB0 (ndec_yes w0) ?_
      exact ⟨_, rfl, q l pv pts H3 s03 lH el3 hpt3 PO lp⟩
    refine iteB1 (ndec_no w0) ?_
    have er : row.map V.int = rowV (row.take mm.toNat) (row.getD mm.toNat 0) := (rowV_split lrow).symm
    have ea' : H3 a = some (.tup ((row.take mm.toNat).map V.int ++ [.int (row.getD mm.toNat 0)])) := ea.trans (by rw [er]; rfl)
    have lt1 : 1 ≤ ((row.take mm.toNat).map V.int).length := by rw [List.length_map, List.length_take]; omega
    obtain ⟨ec, en⟩ := cut_in ((row.take mm.toNat).map V.int) (.int (row.getD mm.toNat 0)) lt1
    refine ⟨_, rfl, _, rfl, _, rfl, _, rfl, a, _, rfl, SqT.of ea', en, fun p1 hp1 => ?_⟩
    rw [ec]
    have y1 := same_new hp1 (HO.tup (((row.take mm.toNat).map V.int).drop 1))
    have e1 := upd_same (H := H3) (a := p1) (o := HO.tup (((row.take mm.toNat).map V.int).drop 1))
    obtain ⟨H4, hH4⟩ : ∃ H4, H4 = upd H3 p1 (HO.tup (((row.take mm.toNat).map V.int).drop 1)) := ⟨_, rfl⟩
    rw [← hH4] at y1 e1 ⊢
    refine ⟨_, rfl, _, rfl, l, _, rfl, SqL.of (y1 _ _ el3), fun p2 hp2 => ?_⟩
    rw [cut_from1]
    have y2 := same_new hp2 (HO.lst (pv.drop 1))
    have e2 := upd_same (H := H4) (a := p2) (o := HO.lst (pv.drop 1))
    obtain ⟨H5, hH5⟩ : ∃ H5, H5 = upd H4 p2 (HO.lst (pv.drop 1)) := ⟨_, rfl⟩
    rw [← hH5] at y2 e2 ⊢
    have s35 := y1.trans y2
    have PO1 : PtOk (pts.drop 1) := ⟨by rw [List.length_drop]; omega, fun p hp => PO.ok p (List.mem_of_mem_drop hp)⟩
    have lws : ((row.take mm.toNat).drop 1).length = (pts.drop 1).length := by rw [List.length_drop, List.length_drop, List.length_take]; omega
    have WO1 : RwOk ((row.take mm.toNat).drop 1) (pts.drop 1).length := ⟨lws, fun w hw => (brow w (List.mem_of_mem_take (List.mem_of_mem_drop hw))).mono (by decide)⟩
    have e1' : H5 p1 = some (.tup (((row.take mm.toNat).drop 1).map V.int)) := (y2 _ _ e1).trans (by rw [List.map_drop])
    refine ⟨p1, p2, (row.take mm.toNat).drop 1, pv.drop 1, pts.drop 1, rfl, .inl (SqT.of e1'), SqL.of e2, pts_drop (hpt3.same s35), PO1, WO1, fun r1 H6 s6 er1 => ?_⟩
    obtain ⟨bT, bB⟩ := bd_al2 (((row.take mm.toNat).drop 1).zip (pts.drop 1)) (by rw [zip_len WO1, List.length_drop]; omega) (fun p hp => by
      have h1 := (List.of_mem_zip (a := p.1) (b := p.2) hp).1
      have h2 := (List.of_mem_zip (a := p.1) (b := p.2) hp).2
      obtain ⟨_, k2, k3⟩ := PB p.2 (List.mem_of_mem_drop h2)
      exact ⟨brow _ (List.mem_of_mem_take (List.mem_of_mem_drop h1)), k2, k3⟩)
    have pB := al_pos PO1 WO1
    obtain ⟨T1, hT1⟩ : ∃ T1, T1 = lowT (alFold ((row.take mm.toNat).drop 1) (pts.drop 1)).1 (alFold ((row.take mm.toNat).drop 1) (pts.drop 1)).2 := ⟨_, rfl⟩
    obtain ⟨B1, hB1⟩ : ∃ B1, B1 = lowB (alFold ((row.take mm.toNat).drop 1) (pts.drop 1)).1 (alFold ((row.take mm.toNat).drop 1) (pts.drop 1)).2 := ⟨_, rfl⟩
    have bT1 : Bd 440 T1 := by rw [hT1]; exact bd_lowT bT
    have bB1 : Bd 61 B1 := by rw [hB1]; exact bd_lowB bB
    have pB1 : 0 < B1 := by rw [hB1]; exact lowB_pos (by omega)
    rw [← hT1, ← hB1] at er1
    have s36 := s35.trans s6
    have ea6 := s36 _ _ ea'
    have ar06 : atI ((row.take mm.toNat).map V.int ++ [.int (row.getD mm.toNat 0)]) (0 : Int) = some (.int W0) := by
      have : (row.take mm.toNat).map V.int ++ [.int (row.getD mm.toNat 0)] = row.map V.int := er.symm
      rw [this]
      exact ar0
    refine ⟨_, rfl, a, _, 0, _, rfl, rfl, SqT.of ea6, ar06, _, rfl, r1, _, 1, _, rfl, rfl, SqT.of er1, at1, _, _, rfl, rfl, ⟨bW0.mono (by decide), bB1.mono (by decide)⟩, ?_⟩
    have bbot : Bd 361 (W0 * B1) := (bW0.mul bB1).mono (by decide)
    have nbot : W0 * B1 ≠ 0 := Int.mul_ne_zero w0 (by omega)
    have bL : Bd 300 (row.getD mm.toNat 0) := by
      rw [List.getD_eq_getElem?_getD, List.getElem?_eq_getElem (show mm.toNat < row.length by omega)]
      exact brow _ (List.getElem_mem _)
    refine ⟨_, rfl, _, rfl, a, _, _, _, rfl, rfl, SqT.of ea6, atI_last _ _, _, rfl, r1, _, 1, _, rfl, rfl, SqT.of er1, at1, _, _, rfl, rfl, ⟨bL.mono (by decide), bB1.mono (by decide)⟩, _, rfl, r1, _, 0, _, rfl, rfl, SqT.of er1, at0, _, _, rfl, rfl, ?_⟩
    have btp : Bd 450 (row.getD mm.toNat 0 * B1 - T1) := (((bL.mul bB1).mono (show 300 + 61 ≤ 440 by decide)).sub bT1).mono (by decide)
    obtain ⟨sg, esg, bsg⟩ : ∃ sg : Int, atI [V.int 1, V.int (0 - 1)] (if decide (W0 * B1 < 0) = true then 1 else 0) = some (.int sg) ∧ Bd 2 sg := by
      by_cases z : decide (W0 * B1 < 0) = true
      · rw [if_pos z]; exact ⟨_, rfl, Bd.lit⟩
      · rw [if_neg z]; exact ⟨_, rfl, Bd.lit⟩
    refine ⟨_, rfl, _, _, rfl, rfl, (by show 2 ≤ sizeLine; decide), fun l4 hl4 => ?_⟩
    have y7 := same_new hl4 (HO.lst [V.int 1, V.int (0 - 1)])
    refine ⟨_, rfl, _, _, rfl, rfl, .inr ⟨_, rfl, l4, _, _, .int sg, rfl, rfl, SqL.of upd_same, esg, _, _, rfl, rfl, ⟨btp.mono (by decide), bsg.mono (by decide)⟩, _, rfl, W0 * B1, rfl, _, _, rfl, ?_, ?_, fun r H8 s8 er8 => ?_⟩⟩
    · show 0 < (if W0 * B1 < 0 then -(W0 * B1) else W0 * B1)
      generalize W0 * B1 = bot at nbot
      split <;> omega
    · rw [abs_is]
      exact (Bd.of_le bbot (by rw [Int.natAbs_natCast]; exact Nat.le_refl _)).mono (by decide)
    have s38 := s36.trans (y7.trans s8)
    have el8 := s38 _ _ el3
    refine ⟨_, rfl, l, _, _, 0, rfl, rfl, el8, (show ixN _ ((0 : Nat) : Int) = some 0 from ixN_nat (by omega)), ?_⟩
    obtain ⟨ab, hab⟩ : ∃ ab : Int, ab = (if W0 * B1 < 0 then -(W0 * B1) else W0 * B1) := ⟨_, rfl⟩
    have ab0 : 0 < ab := by
      rw [hab]
      generalize W0 * B1 = bot at nbot
      split <;> omega
    have bab : Bd 361 ab := by
      rw [hab, abs_is]
      exact Bd.of_le bbot (by rw [Int.natAbs_natCast]; exact Nat.le_refl _)
    rw [← hab] at er8
    obtain ⟨tp, htp⟩ : ∃ tp, tp = row.getD mm.toNat 0 * B1 - T1 := ⟨_, rfl⟩
    rw [← htp] at btp er8
    refine ⟨_, rfl, q l (pv.set 0 (.ref r)) (pts.set 0 (lowT (tp * sg) ab, lowB (tp * sg) ab)) _ (same_upd (s03.trans s38) lH) lH upd_same (PtV.upd el8 (paired_set (R := FrV H8) (x := V.ref r) (y := (lowT (tp * sg) ab, lowB (tp * sg) ab)) ⟨r, rfl, er8⟩ 0 (hpt3.same s38))) ⟨by rw [List.length_set]; omega, fun p hp => ?_⟩ (by rw [List.length_set]; exact lp)⟩
    rcases List.mem_or_eq_of_mem_set hp with hp | hp
    · exact PO.ok p hp
    · rw [hp]
      exact ⟨lowB_pos (by omega), bd_lowT ((btp.mul bsg).mono (by decide)), bd_lowB (bab.mono (by decide))⟩
  · refine iteB0 (dec_no c1) (iteF ?_)
    exact ⟨_, rfl, q l pv pts H2 s02 lH el hpt PO lp⟩
end
section
variable {P : Program} {w : World} {K : PySem.W.Frag} {mg : Str → Option Value} {base : Heap}
noncomputable abbrev s_law : Stmt := top 46
theorem sc_law : FnScope ["_law_script", "_law_many", "_law_rule_here", "_law_told_here", "_law_rows", "_law_one", "_law_cell", "_law_point_here", "_law_value", "_law_hits", "_law_some", "_law_straight", "_law_held_here"] ["_law_script"] (defScope s_law) := ⟨rfl, rfl, rfl, by decide +kernel, rfl, by decide +kernel, by decide +kernel⟩
theorem ok_law {k : Nat} {f : Addr} {fd : FuncData} {aStraight aStopped aParted : Addr} (TStraight : ClsF K mg "Straight" aStraight) (AStraight : AtStraight K aStraight) (TStopped : ClsF K mg "Stopped" aStopped) (AStopped : AtStopped K aStopped) (TParted : ClsF K mg "Parted" aParted) (AParted : AtParted K aParted) (Y : Kits K aStraight aStopped aParted) (F : Fun K "law" "law" s_law f fd) (B : Bl mg) (c_l_cell_at : Fn P w K mg base "_law_cell_at" ["_law_script", "_law_k"] k (spCell K)) (c_l_rule : Fn P w K mg base "_law_rule" ["_law_cells", "_law_many"] k (spRuleR aStraight aStopped aParted K)) (c_pieces : Fn P w K mg base "pieces" ["rule", "many"] k (spPieces aStraight aStopped aParted 6)) (c_l_point : Fn P w K mg base "_law_point" ["_law_cell", "_law_many", "_law_rows"] k spPointR) (c_Straight_steering : FnM P w K mg base aStraight "steering" ["self", "point"] k (spSteer aStraight aStopped aParted K isStr 6)) (c_Stopped_steering : FnM P w K mg base aStopped "steering" ["self", "point"] k (spSteer aStraight aStopped aParted K isStp 6)) (c_Parted_steering : FnM P w K mg base aParted "steering" ["self", "point"] k (spSteer aStraight aStopped aParted K isPrt 6)) (c_l_held : Fn P w K mg base "_law_held" ["_law_rows", "_law_point_here"] k (spHeld K)) (c_l_told : Fn P w K mg base "_law_told" ["_law_straight", "_law_point_here"] k (spTold aStraight K)) : FnOk P w K mg base CX0 (k + 1) f fd ["_law_script"] (spLaw K) := by
  refine F.ok sc_law (fun vs H Q E h => ?_) (fun cdv A outer s H vs Q E hr h => ?_)
  · obtain ⟨a, ns, rfl, _⟩ := h
    rfl
  obtain ⟨sa, ns, rfl, hS, h63, qq⟩ := h
  have hrm := hr
  refine ⟨_, (pss_cons (ps_set (i := 1) sc_law.nd rfl (Or.inl rfl) (pe_op (ji0 op_add) pe_int (pe_op (ji op_modN) (pe_callF c_l_cell_at hr rfl (pa_cons (L2.pvj 0) (pa_cons pe_int pa_nil))) pe_int)))
    (pss_cons (ps_set (i := 2) sc_law.nd rfl (Or.inl rfl) (pe_callF c_l_rule hr rfl (pa_cons (pe_slice jsl_list (L2.pvj 0) (po_some pe_int) (po_some (pe_op (ji0 op_add) pe_int (pe_op (ji op_modN) (pe_op (ji op_fdivW) (pe_callF c_l_cell_at hr rfl (pa_cons (L2.pvj 0) (pa_cons pe_int pa_nil))) pe_int) pe_int)))) (pa_cons (L2.pvj 1) pa_nil))))
    (pss_cons (ps_set (i := 3) sc_law.nd rfl (Or.inl rfl) (pe_callF c_pieces hr rfl (pa_cons (L2.pvj 2) (pa_cons (L2.pvj 1) pa_nil))))
    (pss_cons (ps_set (i := 4) sc_law.nd rfl (Or.inl rfl) (pe_lst pa_nil))
    (pss_cons (ps_for PassesOwn.never rfl (pi_list (L2.pvj 3)) (pg_name (i := 5) sc_law.nd rfl (Or.inl rfl)) (pss_one (ps_set (i := 4) sc_law.nd rfl (Or.inl rfl) (pe_op jcat (L2.pvj 4) (pe_ix jix_tup (L2.pvj 5) pe_int (fun _ _ => rfl))))))
    (pss_cons (ps_for PassesOwn.never rfl (pi_list (pe_op jcat (pe_slice jsl_list (L2.pvj 0) (po_some pe_int) (po_some pe_int)) (pe_lst (pa_cons (pe_callF c_l_cell_at hr rfl (pa_cons (L2.pvj 0) (pa_cons pe_int pa_nil))) (pa_cons pe_int pa_nil))))) (pg_name (i := 6) sc_law.nd rfl (Or.inl rfl)) (pss_cons (ps_set (i := 7) sc_law.nd rfl (Or.inl rfl) (pe_callF c_l_point hr rfl (pa_cons (L2.pvj 6) (pa_cons (L2.pvj 1) (pa_cons (L2.pvj 4) pa_nil)))))
      (pss_cons (ps_set (i := 8) sc_law.nd rfl (Or.inl rfl) (pe_alt (pe_methF c_Straight_steering TStraight hrm (L2.pvj 2) (pa_cons (pe_callTy call_list_of rfl B.list_ boot_list_ (pa_cons (L2.pvj 7) pa_nil)) pa_nil)) (pe_alt (pe_methF c_Stopped_steering TStopped hrm (L2.pvj 2) (pa_cons (pe_callTy call_list_of rfl B.list_ boot_list_ (pa_cons (L2.pvj 7) pa_nil)) pa_nil)) (pe_methF c_Parted_steering TParted hrm (L2.pvj 2) (pa_cons (pe_callTy call_list_of rfl B.list_ boot_list_ (pa_cons (L2.pvj 7) pa_nil)) pa_nil)))))
      (pss_cons (ps_set (i := 9) sc_law.nd rfl (Or.inl rfl) pe_int)
      (pss_cons (ps_for PassesOwn.never rfl (pi_list (L2.pvj 3)) (pg_tup rfl (pgs_cons (pg_name (i := 10) sc_law.nd rfl (Or.inl rfl)) (pgs_cons (pg_name (i := 11) sc_law.nd rfl (Or.inl rfl)) pgs_nil))) (pss_cons (ps_set (i := 12) sc_law.nd rfl (Or.inl rfl) (pe_callF c_l_held hr rfl (pa_cons (L2.pvj 10) (pa_cons (L2.pvj 7) pa_nil))))
        (pss_one (ps_if (PW.pt (pw_and (pt_cmpR (ji0 op_ge) (L2.pvj 12) pe_int (nomark _)) (pw_and1 (pt_cmpR (op_eqX hr.units) (pe_callF c_l_told hr rfl (pa_cons (L2.pvj 11) (pa_cons (L2.pvj 7) pa_nil))) (L2.pvj 8) (nomark _))))) (pss_one (ps_set (i := 9) sc_law.nd rfl (Or.inl rfl) (pe_op (ji0 op_add) (L2.pvj 9) pe_int))) (pss_one (ps_if (pt_cmpR op_eq (L2.pvj 12) pe_int (nomark _)) (pss_one (ps_ret pe_bl)) pss_nil))))))
      (pss_one (ps_if (pt_cmpR op_eq (L2.pvj 9) pe_int (nomark _)) (pss_one (ps_ret pe_bl)) pss_nil)))))))
    (pss_one (ps_ret pe_bl)))))))), ?_⟩
  try dsimp only [cxOf, Cx.nox, Cx.wish]
  have b3 : Bd 4 (3 : Int) := Bd.lit
  have m0 := Int.fmod_nonneg_of_pos (cellZ ns 0) (show (0 : Int) < 3 by decide)
  have m2 := Int.fmod_lt_of_pos (cellZ ns 0) (show (0 : Int) < 3 by decide)
  have g0 := Int.fmod_nonneg_of_pos ((cellZ ns 0).fdiv 3) (show (0 : Int) < 6 by decide)
  refine ⟨_, rfl, sa, ns, 0, rfl, hS, (by decide), _, _, rfl, rfl, (show (3 : Int) ≠ 0 by decide), _, _, rfl, rfl, ?_⟩
  refine ⟨_, rfl, _, rfl, _, rfl, sa, ns, 0, rfl, hS, (by decide), _, _, rfl, rfl, ⟨by decide, b3.mono (by decide)⟩, _, _, rfl, rfl, (show (6 : Int) ≠ 0 by decide), _, _, rfl, rfl, _, rfl, sa, _, rfl, hS, fun p hp => ?_⟩
  obtain ⟨cs, ecs, _⟩ := cut_any ns 1 (2 + ((cellZ ns 0).fdiv 3).fmod 6).toNat
  have ecs' : cutV (ns.map V.int) (some 1) (some (2 + ((cellZ ns 0).fdiv 3).fmod 6)) = cs.map V.int := by
    rw [show (((2 + ((cellZ ns 0).fdiv 3).fmod 6).toNat : Nat) : Int) = (2 + ((cellZ ns 0).fdiv 3).fmod 6) by omega] at ecs
    exact ecs
  have z0 := same_new hp (HO.lst (cutV (ns.map V.int) (some 1) (some (2 + ((cellZ ns 0).fdiv 3).fmod 6))))
  refine ⟨_, rfl, p, cs, (1 + (cellZ ns 0).fmod 3), rfl, SqL.of (upd_same.trans (congrArg (fun z => some (HO.lst z)) ecs')), (by omega), (by omega), fun v t H1 s1 hR TF SH dp c60 => ?_⟩
  have s01 := z0.trans s1
  have TOk := TF.ok SH
  refine ⟨_, rfl, _, rfl, v, (1 + (cellZ ns 0).fmod 3).toNat, t, (by show [v, V.int (1 + (cellZ ns 0).fmod 3)] = _; rw [show (((1 + (cellZ ns 0).fmod 3).toNat : Nat) : Int) = (1 + (cellZ ns 0).fmod 3) by omega]), dp, (by omega), hR, SH, (by omega), (by omega), TF, c60, fun l lv H2 s2 nl el hlv => ?_⟩
  have PO1 := pieces_ok SH
  have PF1 := pieces_f TF
  have llv : lv.length = countM t := (Paired.length hlv).trans (pieces_len t)
  refine ⟨(by show 0 ≤ sizeLine; decide), fun r0 hr0 => ?_⟩
  have z3 := same_new hr0 (HO.lst [])
  have er0 := upd_same (H := H2) (a := r0) (o := HO.lst [])
  obtain ⟨H3, hH3⟩ : ∃ H3, H3 = upd H2 r0 (HO.lst []) := ⟨_, rfl⟩
  rw [← hH3] at z3 er0 ⊢
  have el3 := z3 _ _ el
  refine ⟨_, rfl, l, rfl, ⟨_, SqL.of el3⟩, for_list (K := K) (a := l) (xs := lv)
    (fun i σ H' => ∃ (ra : Addr) (rv : List V) (o5 : Option V), σ = [some (.ref sa), some (.int (1 + (cellZ ns 0).fmod 3)), some v, some (.ref l), some (.ref ra), o5, none, none, none, none, none, none, none] ∧ Same H3 H' ∧ H' ra = some (.lst rv) ∧ WaysV H' rv (((piecesM t).take i).flatMap Prod.fst) ∧ rv.length ≤ 12 * i)
    ⟨r0, [], none, rfl, Same.refl _, er0, .nil, Nat.zero_le _⟩ (fun i σ H' _ ⟨_, _, _, _, sm, _⟩ => SqL.of (sm _ _ el3)) ?_ ?_⟩
  · rintro i x σ H' hi ⟨ra, rv, o5, rfl, sm, era, hrv, l12⟩
    obtain ⟨p, hp, pc⟩ := paired_get hlv hi
    obtain ⟨tt, rl, so, dxs, la, rvp, rfl, eT, frl, eRl, eRv, eSo, eLa⟩ := pc.same (z3.trans sm)
    have rfew := rows_few p (List.mem_of_getElem? hp)
    have lrv : rvp.length = p.1.length := Paired.length eRv
    have ic : i < 60 := by
      have := (List.getElem?_eq_some_iff.mp hi).1
      omega
    refine ⟨_, rfl, _, rfl, tt, _, 0, _, rfl, rfl, SqT.of eT, at0, ra, rl, _, _, rfl, rfl, era, eRl, Nat.le_of_lt (small1000 (by omega)), fun c hc => ?_⟩
    have zc := same_new hc (HO.lst (rv ++ rvp))
    refine ⟨c, rv ++ rvp, _, rfl, sm.trans zc, upd_same, ?_, (by rw [List.length_append]; omega)⟩
    rw [flat_snoc _ hp]
    exact paired_app (WaysV.same zc hrv) (WaysV.same zc eRv)
  rintro σ H4 ⟨ra, rv, o5, rfl, s34, era, hrv, l12⟩
  rw [llv, ← pieces_len, List.take_length] at hrv
  have lrv : rv.length = ((piecesM t).flatMap Prod.fst).length := Paired.length hrv
  have RO : ∀ r ∈ (piecesM t).flatMap Prod.fst, r.length = (1 + (cellZ ns 0).fmod 3).toNat + 1 ∧ ∀ z ∈ r, Bd 300 z := fun r hr => by
    obtain ⟨p, hp, hr⟩ := List.mem_flatMap.mp hr
    exact ⟨(PO1 p hp).rows r hr, (PF1 p hp).rows r hr⟩
  have s24 := z3.trans s34
  have s14 := s2.trans s24
  have hS4 := (s01.trans s14).seq hS
  obtain ⟨zs, ezs, lzs⟩ := cut_any ns 7 13
  refine ⟨_, rfl, _, rfl, _, rfl, sa, _, rfl, hS4, fun p5 hp5 => ?_⟩
  have z5 := same_new hp5 (HO.lst (cutV (ns.map V.int) (some 7) (some 13)))
  have e5 : upd H4 p5 (HO.lst (cutV (ns.map V.int) (some 7) (some 13))) p5 = some (.lst (zs.map V.int)) := upd_same.trans (congrArg (fun z => some (HO.lst z)) ezs)
  obtain ⟨H5, hH5⟩ : ∃ H5, H5 = upd H4 p5 (HO.lst (cutV (ns.map V.int) (some 7) (some 13))) := ⟨_, rfl⟩
  rw [← hH5] at z5 e5 ⊢
  refine ⟨_, rfl, sa, ns, 0, rfl, z5.seq hS4, (by decide), (by show 2 ≤ sizeLine; decide), fun p6 hp6 => ?_⟩
  have z6 := same_new hp6 (HO.lst [V.int (cellZ ns 0), V.int 1])
  refine ⟨p5, p6, _, _, rfl, rfl, z6 _ _ e5, upd_same, (by rw [List.length_map]; exact Nat.le_of_lt (small1000 (by show zs.length + 2 ≤ 1000; omega))), fun cl hcl => ?_⟩
  have ez : zs.map V.int ++ [V.int (cellZ ns 0), V.int 1] = (zs ++ [cellZ ns 0, 1]).map V.int := by rw [List.map_append]; rfl
  rw [ez]
  have z7 := same_new hcl (HO.lst ((zs ++ [cellZ ns 0, 1]).map V.int))
  have s47 := z5.trans (z6.trans z7)
  have ecl := upd_same (H := upd H5 p6 (HO.lst [V.int (cellZ ns 0), V.int 1])) (a := cl) (o := HO.lst ((zs ++ [cellZ ns 0, 1]).map V.int))
  obtain ⟨H7, hH7⟩ : ∃ H7, H7 = upd (upd H5 p6 (HO.lst [V.int (cellZ ns 0), V.int 1])) cl (HO.lst ((zs ++ [cellZ ns 0, 1]).map V.int)) := ⟨_, rfl⟩
  rw [← hH7] at z7 s47 ecl ⊢
  have s27 := s24.trans s47
  have hlv7 : Paired (PcV aStraight H1 H7) lv (piecesM t) := Paired.mapP hlv fun _ _ z => z.same s27
  have hR7 := hR.same (s2.trans s27)
  have el7 := s27 _ _ el
  have era7 := s47 _ _ era
  have hrv7 := WaysV.same s47 hrv
  refine ⟨cl, rfl, ⟨_, SqL.of ecl⟩, for_list (K := K) (a := cl) (xs := (zs ++ [cellZ ns 0, 1]).map V.int)
    (fun i σ H' => ∃ o5 o6 o7 o8 o9 o10 o11 o12, σ = [some (.ref sa), some (.int (1 + (cellZ ns 0).fmod 3)), some v, some (.ref l), some (.ref ra), o5, o6, o7, o8, o9, o10, o11, o12] ∧ Same H7 H')
    ⟨_, _, _, _, _, _, _, _, rfl, Same.refl _⟩ (fun i σ H' _ ⟨_, _, _, _, _, _, _, _, _, sm⟩ => SqL.of (sm _ _ ecl)) ?_ ?_⟩
  · rintro i x σ H8 hi ⟨o5, o6, o7, o8, o9, o10, o11, o12, rfl, s8⟩
    obtain ⟨z, hz, rfl⟩ := ints_get hi
    refine ⟨_, rfl, _, rfl, _, rfl, z, (1 + (cellZ ns 0).fmod 3), ra, rv, (piecesM t).flatMap Prod.fst, rfl, (by omega), (by omega), s8 _ _ era7, WaysV.same s8 hrv7, RO, (by omega), fun lp pv pts H9 s9 nlp elp hpt PO lpt => ?_⟩
    have n3 : pts.length ≤ 3 := by omega
    have SH' : ShOk pts.length t := by rw [lpt]; exact SH
    have TO : TrOk pts.length t := by rw [lpt]; exact TOk
    have hp0 : ∀ p ∈ pts, 0 < p.2 := fun p h => (PO.ok p h).1
    have s79 := s8.trans s9
    refine steer_altL (fun R h => ⟨_, rfl, h⟩) (fun R h => ⟨_, rfl, lp, pv, rfl, .inl (SqL.of elp), fun q hq => h q hq⟩) (hR7.same s79) dp TO hpt PO n3 (fun r1 HB sB eB => ?_)
    have s7B := s79.trans sB
    have elB := s7B _ _ el7
    refine ⟨_, rfl, l, rfl, ⟨_, SqL.of elB⟩, for_list (K := K) (a := l) (xs := lv)
      (fun j σ H' => ∃ (hits : Int) (o10 o11 o12 : Option V), σ = [some (.ref sa), some (.int (1 + (cellZ ns 0).fmod 3)), some v, some (.ref l), some (.ref ra), o5, some (.int z), some (.ref lp), some (.ref r1), some (.int hits), o10, o11, o12] ∧ Same HB H' ∧ 0 ≤ hits ∧ ((∃ p ∈ (piecesM t).take j, (∀ r ∈ p.1, hlR pts r) ∧ tellM pts p.2 = valM pts t) → 0 < hits))
      ⟨0, _, _, _, rfl, Same.refl _, Int.le_refl _, fun ⟨_, h, _⟩ => by cases h⟩ (fun j σ H' _ ⟨_, _, _, _, _, sm, _⟩ => SqL.of (sm _ _ elB)) ?_ ?_⟩
    · rintro j y σ HC hj ⟨hits, o10, o11, o12, rfl, sC, h0, hex⟩
      have s7C := s7B.trans sC
      obtain ⟨p, hp, pc⟩ := paired_get hlv7 hj
      obtain ⟨tt, rl, so, dxs, la, rvp, rfl, eT, frl, eRl, eRv, eSo, eLa⟩ := pc.same s7C
      have pm := List.mem_of_getElem? hp
      have ok := PO1 p pm
      have fk := PF1 p pm
      have rfew := rows_few p pm
      have s9C := sB.trans sC
      refine ⟨tt, _, rfl, SqT.of eT, rfl, _, _, rfl, _, _, rfl, rfl, ?_⟩
      refine ⟨_, rfl, _, rfl, rl, lp, rvp, p.1, pv, pts, rfl, eRl, eRv, (fun r hr => ⟨by rw [lpt]; exact ok.rows r hr, fun x hx => (fk.rows r hr x hx).mono (by decide)⟩), (by omega), SqL.of (s9C _ _ elp), hpt.same s9C, PO, fun kh HD sD hk1 hk2 => ?_⟩
      have sCD := sC.trans sD
      have more : ∀ {h' : Int}, 0 ≤ h' → hits ≤ h' → ((∀ r ∈ p.1, hlR pts r) ∧ tellM pts p.2 = valM pts t → 0 < h') → ((∃ p ∈ (piecesM t).take (j + 1), (∀ r ∈ p.1, hlR pts r) ∧ tellM pts p.2 = valM pts t) → 0 < h') := fun a0 a1 a2 ⟨p', hp', e⟩ => by
        rw [take_snoc hp] at hp'
        rcases List.mem_append.mp hp' with hp' | hp'
        · have := hex ⟨p', hp', e⟩
          omega
        · rw [List.mem_singleton.mp hp'] at e
          exact a2 e
      refine ⟨_, rfl, _, _, rfl, rfl, _, rfl, ?_⟩
      by_cases c1 : (0 : Int) ≤ kh
      · refine iteB1 (decide_eq_true c1) ?_
        have hall := hk1.mp c1
        refine ⟨_, rfl, _, rfl, so, dxs, la, lp, p.2, pv, pts, rfl, sD _ _ eSo, sD _ _ eLa, ⟨by rw [lpt]; exact ok.len, fun x hx => (fk.ns x hx).mono (by decide)⟩, fk.a.mono (by decide), ok.d0, fk.d.mono (by decide), SqL.of ((s9C.trans sD) _ _ elp), hpt.same (s9C.trans sD), PO, n3, fun r2 HE sE eE => ?_⟩
        have sCE := sCD.trans sE
        refine ⟨_, rfl, .tuple ([(tellM pts p.2).1, (tellM pts p.2).2].map PyData.int), .tuple ([(valM pts t).1, (valM pts t).2].map PyData.int), .tup (SqT.of eE) (.cons (.int _) (.cons (.int _) .nil)), .tup (SqT.of (sCE _ _ eB)) (.cons (.int _) (.cons (.int _) .nil)), lay_tup _, lay_tup _, dep_tup _, dep_tup _, _, rfl, ?_⟩
        rw [eqv_tupI]
        by_cases c2 : tellM pts p.2 = valM pts t
        · refine iteB1 (decide_eq_true (by rw [c2])) ?_
          refine ⟨_, rfl, _, _, rfl, rfl, ?_⟩
          exact ⟨hits + 1, _, _, _, rfl, sCE, by omega, more (by omega) (by omega) (fun _ => by omega)⟩
        · have c3 : ¬ [(tellM pts p.2).1, (tellM pts p.2).2] = [(valM pts t).1, (valM pts t).2] := fun z => c2 (by
            injection z with z1 z2
            injection z2 with z2 _
            exact Prod.ext z1 z2)
          refine iteB0 (decide_eq_false c3) ?_
          refine ⟨_, rfl, rfl, _, rfl, ?_⟩
          have k1 : kh ≠ 1 := fun z => c2 (cover_all hp0 SH' p pm (hk2 z))
          refine iteB0 (dec_no k1) ?_
          exact ⟨hits, _, _, _, rfl, sCE, h0, more h0 (Int.le_refl _) (fun e => absurd e.2 c2)⟩
      · refine iteB0 (decide_eq_false c1) (iteF ?_)
        refine ⟨_, rfl, rfl, _, rfl, iteB0 (dec_no (by omega)) ?_⟩
        exact ⟨hits, _, _, _, rfl, sCD, h0, more h0 (Int.le_refl _) (fun e => absurd (hk1.mpr e.1) c1)⟩
    rintro σ HC ⟨hits, o10, o11, o12, rfl, sC, h0, hex⟩
    rw [llv, ← pieces_len, List.take_length] at hex
    have hpos := hex (cover_some hp0 SH')
    refine ⟨_, rfl, rfl, _, rfl, iteB0 (dec_no (by omega)) ?_⟩
    exact ⟨_, _, _, _, _, _, _, _, rfl, s7B.trans sC⟩
  rintro σ H8 ⟨o5, o6, o7, o8, o9, o10, o11, o12, rfl, _⟩
  exact qq _
end

end K23
namespace L2
theorem arity1 {α : Type} {P : List α → Prop} (h : ∀ x0 : α, P [x0]) : ∀ us : List α, us.length = 1 → P us
  | [x0], _ => h x0
theorem arity2 {α : Type} {P : List α → Prop} (h : ∀ x0 x1 : α, P [x0, x1]) : ∀ us : List α, us.length = 2 → P us
  | [x0, x1], _ => h x0 x1
theorem arity3 {α : Type} {P : List α → Prop} (h : ∀ x0 x1 x2 : α, P [x0, x1, x2]) : ∀ us : List α, us.length = 3 → P us
  | [x0, x1, x2], _ => h x0 x1 x2
theorem arity4 {α : Type} {P : List α → Prop} (h : ∀ x0 x1 x2 x3 : α, P [x0, x1, x2, x3]) : ∀ us : List α, us.length = 4 → P us
  | [x0, x1, x2, x3], _ => h x0 x1 x2 x3
end L2
namespace K23
open PySem L2 Sh
theorem all_mk {l : PySem.W.OpenLaw} {w : World} {K : PySem.W.Frag} {h : Heap} {mg : Str → Option Value} {fa f0 f1 f2 f3 f4 f5 f6 f7 f8 f9 f10 f11 f12 f13 f14 f15 f16 f17 f18 f19 f20 f21 f22 f23 f24 f25 f26 f27 f28 f29 f30 f31 f32 f33 f34 f35 f36 f37 : Addr} (X : K.In h) (G : h.Ns mainGlobals mg) (hfa : mg "law" = some (.ref fa))
    {od0 an0 od1 an1 od2 an2 od3 an3 od4 an4 od5 an5 od6 an6 od7 an7 od8 an8 od9 an9 od10 an10 od11 an11 od12 an12 od13 an13 od14 an14 od15 an15 od16 an16 od17 an17 od18 an18 od19 an19 od20 an20 od21 an21 od22 an22 od23 an23 od24 an24 od25 an25 od26 an26 od27 an27 od28 an28 od29 an29 od30 an30 od31 an31 od32 an32 od33 an33 od34 an34 od35 an35 od36 an36 od37 an37 : Option Addr} {sl0 sl1 sl2 sl3 sl4 sl5 sl6 sl7 sl8 sl9 sl10 sl11 sl12 sl13 sl14 sl15 sl16 sl17 sl18 sl19 sl20 sl21 sl22 sl23 sl24 sl25 sl26 sl27 sl28 sl29 sl30 sl31 sl32 sl33 sl34 sl35 sl36 sl37 : Array (Option Value)} {oc0 kV0 dc0 pm0 cd0 ct0 oc1 kV1 dc1 pm1 cd1 ct1 oc2 kV2 dc2 pm2 cd2 ct2 oc3 kV3 dc3 pm3 cd3 ct3 oc4 kV4 dc4 pm4 cd4 ct4 oc5 kV5 dc5 pm5 cd5 ct5 oc6 kV6 dc6 pm6 cd6 ct6 oc7 kV7 dc7 pm7 cd7 ct7 oc8 kV8 dc8 pm8 cd8 ct8 oc9 kV9 dc9 pm9 cd9 ct9 oc10 kV10 dc10 pm10 cd10 ct10 oc11 kV11 dc11 pm11 cd11 ct11 oc12 kV12 dc12 pm12 cd12 ct12 oc13 kV13 dc13 pm13 cd13 ct13 oc14 kV14 dc14 pm14 cd14 ct14 oc15 kV15 dc15 pm15 cd15 ct15 oc16 kV16 dc16 pm16 cd16 ct16 oc17 kV17 dc17 pm17 cd17 ct17 oc18 kV18 dc18 pm18 cd18 ct18 oc19 kV19 dc19 pm19 cd19 ct19 oc20 kV20 dc20 pm20 cd20 ct20 oc21 kV21 dc21 pm21 cd21 ct21 oc22 kV22 dc22 pm22 cd22 ct22 oc23 kV23 dc23 pm23 cd23 ct23 oc24 kV24 dc24 pm24 cd24 ct24 oc25 kV25 dc25 pm25 cd25 ct25 oc26 kV26 dc26 pm26 cd26 ct26 oc27 kV27 dc27 pm27 cd27 ct27 oc28 kV28 dc28 pm28 cd28 ct28 oc29 kV29 dc29 pm29 cd29 ct29 oc30 kV30 dc30 pm30 cd30 ct30 oc31 kV31 dc31 pm31 cd31 ct31 oc32 kV32 dc32 pm32 cd32 ct32 oc33 kV33 dc33 pm33 cd33 ct33 oc34 kV34 dc34 pm34 cd34 ct34 oc35 kV35 dc35 pm35 cd35 ct35 oc36 kV36 dc36 pm36 cd36 ct36 oc37 kV37 dc37 pm37 cd37 ct37 : Value}
    {aStraight aStopped aParted : Addr}
    (nm_Straight : PySem.W.nsIn K mainGlobals "Straight" = some (some (.ref aStraight)))
    (pg_Straight : PySem.W.plainGet K aStraight Str.empty = true)
    (hd_Straight : PySem.W.hasDictIn K aStraight = true)
    (po_Straight : PySem.W.plainOver K aStraight = true)
    (sa_Straight : PySem.W.findIn K (.ref aStraight) "__setattr__" = some (some (.builtin "object.__setattr__")))
    (mk_Straight : PySem.W.makesIn K aStraight = true)
    (kc_Straight : PySem.W.keepIn K (.ref aStraight) = true)
    (ha_Straight : PySem.W.findIn K (.ref aStraight) "__class__" = some (some (.builtin "object.__class__")))
    (hn_Straight : PySem.W.specialIn K (.builtin "object.__class__") "__get__" = some (some (.builtin "getset_descriptor.__get__")))
    (tk_Straight : PySem.W.takesIn K (.builtin "object.__class__") = some true)
    (hm_Straight : PySem.W.mroIn K aStraight (.type "object") = some true)
    (n_numbers_Straight : PySem.W.findIn K (.ref aStraight) "numbers" = some none)
    (n_add_Straight : PySem.W.findIn K (.ref aStraight) "add" = some none)
    (n_divisor_Straight : PySem.W.findIn K (.ref aStraight) "divisor" = some none)
    (nm_Stopped : PySem.W.nsIn K mainGlobals "Stopped" = some (some (.ref aStopped)))
    (pg_Stopped : PySem.W.plainGet K aStopped Str.empty = true)
    (hd_Stopped : PySem.W.hasDictIn K aStopped = true)
    (po_Stopped : PySem.W.plainOver K aStopped = true)
    (sa_Stopped : PySem.W.findIn K (.ref aStopped) "__setattr__" = some (some (.builtin "object.__setattr__")))
    (mk_Stopped : PySem.W.makesIn K aStopped = true)
    (kc_Stopped : PySem.W.keepIn K (.ref aStopped) = true)
    (ha_Stopped : PySem.W.findIn K (.ref aStopped) "__class__" = some (some (.builtin "object.__class__")))
    (hn_Stopped : PySem.W.specialIn K (.builtin "object.__class__") "__get__" = some (some (.builtin "getset_descriptor.__get__")))
    (tk_Stopped : PySem.W.takesIn K (.builtin "object.__class__") = some true)
    (hm_Stopped : PySem.W.mroIn K aStopped (.type "object") = some true)
    (n_rule_Stopped : PySem.W.findIn K (.ref aStopped) "rule" = some none)
    (n_low_Stopped : PySem.W.findIn K (.ref aStopped) "low" = some none)
    (n_high_Stopped : PySem.W.findIn K (.ref aStopped) "high" = some none)
    (nm_Parted : PySem.W.nsIn K mainGlobals "Parted" = some (some (.ref aParted)))
    (pg_Parted : PySem.W.plainGet K aParted Str.empty = true)
    (hd_Parted : PySem.W.hasDictIn K aParted = true)
    (po_Parted : PySem.W.plainOver K aParted = true)
    (sa_Parted : PySem.W.findIn K (.ref aParted) "__setattr__" = some (some (.builtin "object.__setattr__")))
    (mk_Parted : PySem.W.makesIn K aParted = true)
    (kc_Parted : PySem.W.keepIn K (.ref aParted) = true)
    (ha_Parted : PySem.W.findIn K (.ref aParted) "__class__" = some (some (.builtin "object.__class__")))
    (hn_Parted : PySem.W.specialIn K (.builtin "object.__class__") "__get__" = some (some (.builtin "getset_descriptor.__get__")))
    (tk_Parted : PySem.W.takesIn K (.builtin "object.__class__") = some true)
    (hm_Parted : PySem.W.mroIn K aParted (.type "object") = some true)
    (n_row_Parted : PySem.W.findIn K (.ref aParted) "row" = some none)
    (n_rule_Parted : PySem.W.findIn K (.ref aParted) "rule" = some none)
    (n_other_Parted : PySem.W.findIn K (.ref aParted) "other" = some none)
    (kt_k21 : PySem.W.kitOne K (.ref aStopped) (.ref aStraight) = some false)
    (kt_k31 : PySem.W.kitOne K (.ref aParted) (.ref aStraight) = some false)
    (kt_k12 : PySem.W.kitOne K (.ref aStraight) (.ref aStopped) = some false)
    (kt_k32 : PySem.W.kitOne K (.ref aParted) (.ref aStopped) = some false)
    (kt_k13 : PySem.W.kitOne K (.ref aStraight) (.ref aParted) = some false)
    {T2 : Addr} {ocT2 : Value} {odT2 : Option Addr} {nT2 : Nat} {slT2 : Array (Option Value)} {tk2 : Tok}
    {T5 : Addr} {ocT5 : Value} {odT5 : Option Addr} {nT5 : Nat} {slT5 : Array (Option Value)} {tk5 : Tok}
    {T11 : Addr} {ocT11 : Value} {odT11 : Option Addr} {nT11 : Nat} {slT11 : Array (Option Value)} {tk11 : Tok}
    (a0 : PySem.W.nsIn K mainGlobals "is_whole" = some (some (.ref f0))) (l0 : K.lookup f0 = some ⟨oc0, od0, .func (PySem.W.fnOf "is_whole" "is_whole" (defArgs s_is_whole) (defBody s_is_whole) (defScope s_is_whole) .none kV0 dc0 pm0 an0 cd0 ct0), sl0⟩) (c0 : PySem.W.codeIn K cd0 "is_whole" = true) (k0 : PySem.W.keepIn K (.ref f0) = true)
    (a1 : PySem.W.nsIn K mainGlobals "common_divisor" = some (some (.ref f1))) (l1 : K.lookup f1 = some ⟨oc1, od1, .func (PySem.W.fnOf "common_divisor" "common_divisor" (defArgs s_common_divisor) (defBody s_common_divisor) (defScope s_common_divisor) .none kV1 dc1 pm1 an1 cd1 ct1), sl1⟩) (c1 : PySem.W.codeIn K cd1 "common_divisor" = true) (k1 : PySem.W.keepIn K (.ref f1) = true)
    (a2 : PySem.W.nsIn K mainGlobals "fraction" = some (some (.ref f2))) (l2 : K.lookup f2 = some ⟨oc2, od2, .func (PySem.W.fnOf "fraction" "fraction" (defArgs s_fraction) (defBody s_fraction) (defScope s_fraction) (.ref T2) kV2 dc2 pm2 an2 cd2 ct2), sl2⟩) (c2 : PySem.W.codeIn K cd2 "fraction" = true) (k2 : PySem.W.keepIn K (.ref f2) = true)
    (t2 : K.lookup T2 = some ⟨ocT2, odT2, .seq #[.int 1 tk2] nT2, slT2⟩)
    (a3 : PySem.W.nsIn K mainGlobals "under" = some (some (.ref f3))) (l3 : K.lookup f3 = some ⟨oc3, od3, .func (PySem.W.fnOf "under" "under" (defArgs s_under) (defBody s_under) (defScope s_under) .none kV3 dc3 pm3 an3 cd3 ct3), sl3⟩) (c3 : PySem.W.codeIn K cd3 "under" = true) (k3 : PySem.W.keepIn K (.ref f3) = true)
    (a4 : PySem.W.nsIn K mainGlobals "is_numbers" = some (some (.ref f4))) (l4 : K.lookup f4 = some ⟨oc4, od4, .func (PySem.W.fnOf "is_numbers" "is_numbers" (defArgs s_is_numbers) (defBody s_is_numbers) (defScope s_is_numbers) .none kV4 dc4 pm4 an4 cd4 ct4), sl4⟩) (c4 : PySem.W.codeIn K cd4 "is_numbers" = true) (k4 : PySem.W.keepIn K (.ref f4) = true)
    (a5 : PySem.W.nsIn K mainGlobals "copied" = some (some (.ref f5))) (l5 : K.lookup f5 = some ⟨oc5, od5, .func (PySem.W.fnOf "copied" "copied" (defArgs s_copied) (defBody s_copied) (defScope s_copied) (.ref T5) kV5 dc5 pm5 an5 cd5 ct5), sl5⟩) (c5 : PySem.W.codeIn K cd5 "copied" = true) (k5 : PySem.W.keepIn K (.ref f5) = true)
    (t5 : K.lookup T5 = some ⟨ocT5, odT5, .seq #[.int 5 tk5] nT5, slT5⟩)
    (a6 : PySem.W.nsIn K mainGlobals "raw_sum" = some (some (.ref f6))) (l6 : K.lookup f6 = some ⟨oc6, od6, .func (PySem.W.fnOf "raw_sum" "raw_sum" (defArgs s_raw_sum) (defBody s_raw_sum) (defScope s_raw_sum) .none kV6 dc6 pm6 an6 cd6 ct6), sl6⟩) (c6 : PySem.W.codeIn K cd6 "raw_sum" = true) (k6 : PySem.W.keepIn K (.ref f6) = true)
    (a7 : PySem.W.nsIn K mainGlobals "divided_sum" = some (some (.ref f7))) (l7 : K.lookup f7 = some ⟨oc7, od7, .func (PySem.W.fnOf "divided_sum" "divided_sum" (defArgs s_divided_sum) (defBody s_divided_sum) (defScope s_divided_sum) .none kV7 dc7 pm7 an7 cd7 ct7), sl7⟩) (c7 : PySem.W.codeIn K cd7 "divided_sum" = true) (k7 : PySem.W.keepIn K (.ref f7) = true)
    (a8 : PySem.W.nsIn K mainGlobals "holds" = some (some (.ref f8))) (l8 : K.lookup f8 = some ⟨oc8, od8, .func (PySem.W.fnOf "holds" "holds" (defArgs s_holds) (defBody s_holds) (defScope s_holds) .none kV8 dc8 pm8 an8 cd8 ct8), sl8⟩) (c8 : PySem.W.codeIn K cd8 "holds" = true) (k8 : PySem.W.keepIn K (.ref f8) = true)
    (a9 : PySem.W.nsIn K mainGlobals "is_row" = some (some (.ref f9))) (l9 : K.lookup f9 = some ⟨oc9, od9, .func (PySem.W.fnOf "is_row" "is_row" (defArgs s_is_row) (defBody s_is_row) (defScope s_is_row) .none kV9 dc9 pm9 an9 cd9 ct9), sl9⟩) (c9 : PySem.W.codeIn K cd9 "is_row" = true) (k9 : PySem.W.keepIn K (.ref f9) = true)
    (a10 : PySem.W.nsIn K mainGlobals "other_side" = some (some (.ref f10))) (l10 : K.lookup f10 = some ⟨oc10, od10, .func (PySem.W.fnOf "other_side" "other_side" (defArgs s_other_side) (defBody s_other_side) (defScope s_other_side) .none kV10 dc10 pm10 an10 cd10 ct10), sl10⟩) (c10 : PySem.W.codeIn K cd10 "other_side" = true) (k10 : PySem.W.keepIn K (.ref f10) = true)
    (a11 : PySem.W.findIn K (.ref aStraight) "__init__" = some (some (.ref f11))) (i11 : PySem.W.isFn K (.ref f11) = true) (l11 : K.lookup f11 = some ⟨oc11, od11, .func (PySem.W.fnOf "__init__" "Straight.__init__" (defArgs s_Straight___init__) (defBody s_Straight___init__) (defScope s_Straight___init__) (.ref T11) kV11 dc11 pm11 an11 cd11 ct11), sl11⟩) (c11 : PySem.W.codeIn K cd11 "Straight.__init__" = true) (k11 : PySem.W.keepIn K (.ref f11) = true)
    (t11 : K.lookup T11 = some ⟨ocT11, odT11, .seq #[.int 1 tk11] nT11, slT11⟩)
    (a12 : PySem.W.findIn K (.ref aStopped) "__init__" = some (some (.ref f12))) (i12 : PySem.W.isFn K (.ref f12) = true) (l12 : K.lookup f12 = some ⟨oc12, od12, .func (PySem.W.fnOf "__init__" "Stopped.__init__" (defArgs s_Stopped___init__) (defBody s_Stopped___init__) (defScope s_Stopped___init__) .none kV12 dc12 pm12 an12 cd12 ct12), sl12⟩) (c12 : PySem.W.codeIn K cd12 "Stopped.__init__" = true) (k12 : PySem.W.keepIn K (.ref f12) = true)
    (a13 : PySem.W.findIn K (.ref aParted) "__init__" = some (some (.ref f13))) (i13 : PySem.W.isFn K (.ref f13) = true) (l13 : K.lookup f13 = some ⟨oc13, od13, .func (PySem.W.fnOf "__init__" "Parted.__init__" (defArgs s_Parted___init__) (defBody s_Parted___init__) (defScope s_Parted___init__) .none kV13 dc13 pm13 an13 cd13 ct13), sl13⟩) (c13 : PySem.W.codeIn K cd13 "Parted.__init__" = true) (k13 : PySem.W.keepIn K (.ref f13) = true)
    (a14 : PySem.W.findIn K (.ref aStraight) "steering" = some (some (.ref f14))) (i14 : PySem.W.isFn K (.ref f14) = true) (l14 : K.lookup f14 = some ⟨oc14, od14, .func (PySem.W.fnOf "steering" "Straight.steering" (defArgs s_Straight_steering) (defBody s_Straight_steering) (defScope s_Straight_steering) .none kV14 dc14 pm14 an14 cd14 ct14), sl14⟩) (c14 : PySem.W.codeIn K cd14 "Straight.steering" = true) (k14 : PySem.W.keepIn K (.ref f14) = true)
    (a15 : PySem.W.findIn K (.ref aStopped) "steering" = some (some (.ref f15))) (i15 : PySem.W.isFn K (.ref f15) = true) (l15 : K.lookup f15 = some ⟨oc15, od15, .func (PySem.W.fnOf "steering" "Stopped.steering" (defArgs s_Stopped_steering) (defBody s_Stopped_steering) (defScope s_Stopped_steering) .none kV15 dc15 pm15 an15 cd15 ct15), sl15⟩) (c15 : PySem.W.codeIn K cd15 "Stopped.steering" = true) (k15 : PySem.W.keepIn K (.ref f15) = true)
    (a16 : PySem.W.findIn K (.ref aParted) "steering" = some (some (.ref f16))) (i16 : PySem.W.isFn K (.ref f16) = true) (l16 : K.lookup f16 = some ⟨oc16, od16, .func (PySem.W.fnOf "steering" "Parted.steering" (defArgs s_Parted_steering) (defBody s_Parted_steering) (defScope s_Parted_steering) .none kV16 dc16 pm16 an16 cd16 ct16), sl16⟩) (c16 : PySem.W.codeIn K cd16 "Parted.steering" = true) (k16 : PySem.W.keepIn K (.ref f16) = true)
    (a17 : PySem.W.nsIn K mainGlobals "is_straight" = some (some (.ref f17))) (l17 : K.lookup f17 = some ⟨oc17, od17, .func (PySem.W.fnOf "is_straight" "is_straight" (defArgs s_is_straight) (defBody s_is_straight) (defScope s_is_straight) .none kV17 dc17 pm17 an17 cd17 ct17), sl17⟩) (c17 : PySem.W.codeIn K cd17 "is_straight" = true) (k17 : PySem.W.keepIn K (.ref f17) = true)
    (a18 : PySem.W.nsIn K mainGlobals "are_stops" = some (some (.ref f18))) (l18 : K.lookup f18 = some ⟨oc18, od18, .func (PySem.W.fnOf "are_stops" "are_stops" (defArgs s_are_stops) (defBody s_are_stops) (defScope s_are_stops) .none kV18 dc18 pm18 an18 cd18 ct18), sl18⟩) (c18 : PySem.W.codeIn K cd18 "are_stops" = true) (k18 : PySem.W.keepIn K (.ref f18) = true)
    (a19 : PySem.W.nsIn K mainGlobals "is_rule" = some (some (.ref f19))) (l19 : K.lookup f19 = some ⟨oc19, od19, .func (PySem.W.fnOf "is_rule" "is_rule" (defArgs s_is_rule) (defBody s_is_rule) (defScope s_is_rule) .none kV19 dc19 pm19 an19 cd19 ct19), sl19⟩) (c19 : PySem.W.codeIn K cd19 "is_rule" = true) (k19 : PySem.W.keepIn K (.ref f19) = true)
    (a20 : PySem.W.nsIn K mainGlobals "piece_count" = some (some (.ref f20))) (l20 : K.lookup f20 = some ⟨oc20, od20, .func (PySem.W.fnOf "piece_count" "piece_count" (defArgs s_piece_count) (defBody s_piece_count) (defScope s_piece_count) .none kV20 dc20 pm20 an20 cd20 ct20), sl20⟩) (c20 : PySem.W.codeIn K cd20 "piece_count" = true) (k20 : PySem.W.keepIn K (.ref f20) = true)
    (a21 : PySem.W.nsIn K mainGlobals "stop_row" = some (some (.ref f21))) (l21 : K.lookup f21 = some ⟨oc21, od21, .func (PySem.W.fnOf "stop_row" "stop_row" (defArgs s_stop_row) (defBody s_stop_row) (defScope s_stop_row) .none kV21 dc21 pm21 an21 cd21 ct21), sl21⟩) (c21 : PySem.W.codeIn K cd21 "stop_row" = true) (k21 : PySem.W.keepIn K (.ref f21) = true)
    (a22 : PySem.W.nsIn K mainGlobals "stopped_pieces" = some (some (.ref f22))) (l22 : K.lookup f22 = some ⟨oc22, od22, .func (PySem.W.fnOf "stopped_pieces" "stopped_pieces" (defArgs s_stopped_pieces) (defBody s_stopped_pieces) (defScope s_stopped_pieces) .none kV22 dc22 pm22 an22 cd22 ct22), sl22⟩) (c22 : PySem.W.codeIn K cd22 "stopped_pieces" = true) (k22 : PySem.W.keepIn K (.ref f22) = true)
    (a23 : PySem.W.nsIn K mainGlobals "parted_pieces" = some (some (.ref f23))) (l23 : K.lookup f23 = some ⟨oc23, od23, .func (PySem.W.fnOf "parted_pieces" "parted_pieces" (defArgs s_parted_pieces) (defBody s_parted_pieces) (defScope s_parted_pieces) .none kV23 dc23 pm23 an23 cd23 ct23), sl23⟩) (c23 : PySem.W.codeIn K cd23 "parted_pieces" = true) (k23 : PySem.W.keepIn K (.ref f23) = true)
    (a24 : PySem.W.nsIn K mainGlobals "listed" = some (some (.ref f24))) (l24 : K.lookup f24 = some ⟨oc24, od24, .func (PySem.W.fnOf "listed" "listed" (defArgs s_listed) (defBody s_listed) (defScope s_listed) .none kV24 dc24 pm24 an24 cd24 ct24), sl24⟩) (c24 : PySem.W.codeIn K cd24 "listed" = true) (k24 : PySem.W.keepIn K (.ref f24) = true)
    (a25 : PySem.W.nsIn K mainGlobals "pieces" = some (some (.ref f25))) (l25 : K.lookup f25 = some ⟨oc25, od25, .func (PySem.W.fnOf "pieces" "pieces" (defArgs s_pieces) (defBody s_pieces) (defScope s_pieces) .none kV25 dc25 pm25 an25 cd25 ct25), sl25⟩) (c25 : PySem.W.codeIn K cd25 "pieces" = true) (k25 : PySem.W.keepIn K (.ref f25) = true)
    (a26 : PySem.W.nsIn K mainGlobals "_law_cell_at" = some (some (.ref f26))) (l26 : K.lookup f26 = some ⟨oc26, od26, .func (PySem.W.fnOf "_law_cell_at" "_law_cell_at" (defArgs s_l_cell_at) (defBody s_l_cell_at) (defScope s_l_cell_at) .none kV26 dc26 pm26 an26 cd26 ct26), sl26⟩) (c26 : PySem.W.codeIn K cd26 "_law_cell_at" = true) (k26 : PySem.W.keepIn K (.ref f26) = true)
    (a27 : PySem.W.nsIn K mainGlobals "_law_stream" = some (some (.ref f27))) (l27 : K.lookup f27 = some ⟨oc27, od27, .func (PySem.W.fnOf "_law_stream" "_law_stream" (defArgs s_l_stream) (defBody s_l_stream) (defScope s_l_stream) .none kV27 dc27 pm27 an27 cd27 ct27), sl27⟩) (c27 : PySem.W.codeIn K cd27 "_law_stream" = true) (k27 : PySem.W.keepIn K (.ref f27) = true)
    (a28 : PySem.W.nsIn K mainGlobals "_law_number" = some (some (.ref f28))) (l28 : K.lookup f28 = some ⟨oc28, od28, .func (PySem.W.fnOf "_law_number" "_law_number" (defArgs s_l_number) (defBody s_l_number) (defScope s_l_number) .none kV28 dc28 pm28 an28 cd28 ct28), sl28⟩) (c28 : PySem.W.codeIn K cd28 "_law_number" = true) (k28 : PySem.W.keepIn K (.ref f28) = true)
    (a29 : PySem.W.nsIn K mainGlobals "_law_leaf" = some (some (.ref f29))) (l29 : K.lookup f29 = some ⟨oc29, od29, .func (PySem.W.fnOf "_law_leaf" "_law_leaf" (defArgs s_l_leaf) (defBody s_l_leaf) (defScope s_l_leaf) .none kV29 dc29 pm29 an29 cd29 ct29), sl29⟩) (c29 : PySem.W.codeIn K cd29 "_law_leaf" = true) (k29 : PySem.W.keepIn K (.ref f29) = true)
    (a30 : PySem.W.nsIn K mainGlobals "_law_rule" = some (some (.ref f30))) (l30 : K.lookup f30 = some ⟨oc30, od30, .func (PySem.W.fnOf "_law_rule" "_law_rule" (defArgs s_l_rule) (defBody s_l_rule) (defScope s_l_rule) .none kV30 dc30 pm30 an30 cd30 ct30), sl30⟩) (c30 : PySem.W.codeIn K cd30 "_law_rule" = true) (k30 : PySem.W.keepIn K (.ref f30) = true)
    (a31 : PySem.W.nsIn K mainGlobals "_law_divisor" = some (some (.ref f31))) (l31 : K.lookup f31 = some ⟨oc31, od31, .func (PySem.W.fnOf "_law_divisor" "_law_divisor" (defArgs s_l_divisor) (defBody s_l_divisor) (defScope s_l_divisor) .none kV31 dc31 pm31 an31 cd31 ct31), sl31⟩) (c31 : PySem.W.codeIn K cd31 "_law_divisor" = true) (k31 : PySem.W.keepIn K (.ref f31) = true)
    (a32 : PySem.W.nsIn K mainGlobals "_law_fraction" = some (some (.ref f32))) (l32 : K.lookup f32 = some ⟨oc32, od32, .func (PySem.W.fnOf "_law_fraction" "_law_fraction" (defArgs s_l_fraction) (defBody s_l_fraction) (defScope s_l_fraction) .none kV32 dc32 pm32 an32 cd32 ct32), sl32⟩) (c32 : PySem.W.codeIn K cd32 "_law_fraction" = true) (k32 : PySem.W.keepIn K (.ref f32) = true)
    (a33 : PySem.W.nsIn K mainGlobals "_law_sum" = some (some (.ref f33))) (l33 : K.lookup f33 = some ⟨oc33, od33, .func (PySem.W.fnOf "_law_sum" "_law_sum" (defArgs s_l_sum) (defBody s_l_sum) (defScope s_l_sum) .none kV33 dc33 pm33 an33 cd33 ct33), sl33⟩) (c33 : PySem.W.codeIn K cd33 "_law_sum" = true) (k33 : PySem.W.keepIn K (.ref f33) = true)
    (a34 : PySem.W.nsIn K mainGlobals "_law_held" = some (some (.ref f34))) (l34 : K.lookup f34 = some ⟨oc34, od34, .func (PySem.W.fnOf "_law_held" "_law_held" (defArgs s_l_held) (defBody s_l_held) (defScope s_l_held) .none kV34 dc34 pm34 an34 cd34 ct34), sl34⟩) (c34 : PySem.W.codeIn K cd34 "_law_held" = true) (k34 : PySem.W.keepIn K (.ref f34) = true)
    (a35 : PySem.W.nsIn K mainGlobals "_law_told" = some (some (.ref f35))) (l35 : K.lookup f35 = some ⟨oc35, od35, .func (PySem.W.fnOf "_law_told" "_law_told" (defArgs s_l_told) (defBody s_l_told) (defScope s_l_told) .none kV35 dc35 pm35 an35 cd35 ct35), sl35⟩) (c35 : PySem.W.codeIn K cd35 "_law_told" = true) (k35 : PySem.W.keepIn K (.ref f35) = true)
    (a36 : PySem.W.nsIn K mainGlobals "_law_point" = some (some (.ref f36))) (l36 : K.lookup f36 = some ⟨oc36, od36, .func (PySem.W.fnOf "_law_point" "_law_point" (defArgs s_l_point) (defBody s_l_point) (defScope s_l_point) .none kV36 dc36 pm36 an36 cd36 ct36), sl36⟩) (c36 : PySem.W.codeIn K cd36 "_law_point" = true) (k36 : PySem.W.keepIn K (.ref f36) = true)
    (a37 : PySem.W.nsIn K mainGlobals "law" = some (some (.ref f37))) (l37 : K.lookup f37 = some ⟨oc37, od37, .func (PySem.W.fnOf "law" "law" (defArgs s_law) (defBody s_law) (defScope s_law) .none kV37 dc37 pm37 an37 cd37 ct37), sl37⟩) (c37 : PySem.W.codeIn K cd37 "law" = true) (k37 : PySem.W.keepIn K (.ref f37) = true)
    (z0 : PySem.W.nsIn K mainGlobals "isinstance" = some none)
    (z1 : PySem.W.nsIn K mainGlobals "int" = some none)
    (z2 : PySem.W.nsIn K mainGlobals "bool" = some none)
    (z3 : PySem.W.nsIn K mainGlobals "tuple" = some none)
    (z4 : PySem.W.nsIn K mainGlobals "len" = some none)
    (z5 : PySem.W.nsIn K mainGlobals "abs" = some none)
    (z6 : PySem.W.nsIn K mainGlobals "list" = some none)
    (z7 : PySem.W.nsIn K mainGlobals "range" = some none)
    (z8 : PySem.W.nsIn K mainGlobals "zip" = some none)
    (z9 : PySem.W.nsIn K mainGlobals "all" = some none)
    {gt0 : Tok} (cst0 : PySem.W.nsIn K mainGlobals "MOST_PIECES" = some (some (.int 60 gt0)))
    : ∃ fd : FuncData, (∀ (s : Shared) (v : Value), BindsTo s fd ⟨[v], []⟩ [("_law_script", v)]) ∧ ∀ base : Heap, K.In base → base.Ns mainGlobals mg → FnOk l.prog w K mg base CX0 19 fa fd ["_law_script"] (spLaw K) := by
  have e := hfa.symm.trans (PySem.W.mg_of X G a37)
  cases e
  have B : Bl mg := ⟨PySem.W.mg_none_of X G z0, PySem.W.mg_none_of X G z1, PySem.W.mg_none_of X G z2, PySem.W.mg_none_of X G z3, PySem.W.mg_none_of X G z4, PySem.W.mg_none_of X G z5, PySem.W.mg_none_of X G z6, PySem.W.mg_none_of X G z7, PySem.W.mg_none_of X G z8, PySem.W.mg_none_of X G z9, ⟨_, PySem.W.mg_of X G cst0⟩⟩
  have TStraight : ClsF K mg "Straight" aStraight := ⟨⟨pg_Straight, hd_Straight, po_Straight, sa_Straight⟩, PySem.W.mg_of X G nm_Straight, ha_Straight, hn_Straight, tk_Straight, hm_Straight⟩
  have AStraight : AtStraight K aStraight := ⟨n_numbers_Straight, n_add_Straight, n_divisor_Straight⟩
  have TStopped : ClsF K mg "Stopped" aStopped := ⟨⟨pg_Stopped, hd_Stopped, po_Stopped, sa_Stopped⟩, PySem.W.mg_of X G nm_Stopped, ha_Stopped, hn_Stopped, tk_Stopped, hm_Stopped⟩
  have AStopped : AtStopped K aStopped := ⟨n_rule_Stopped, n_low_Stopped, n_high_Stopped⟩
  have TParted : ClsF K mg "Parted" aParted := ⟨⟨pg_Parted, hd_Parted, po_Parted, sa_Parted⟩, PySem.W.mg_of X G nm_Parted, ha_Parted, hn_Parted, tk_Parted, hm_Parted⟩
  have AParted : AtParted K aParted := ⟨n_row_Parted, n_rule_Parted, n_other_Parted⟩
  have Y : Kits K aStraight aStopped aParted := ⟨kt_k21, kt_k31, kt_k12, kt_k32, kt_k13⟩
  have F0 := fun_mk (st := s_is_whole) l0 c0 k0
  have b0 := F0.binds (ps := ["thing"]) fun _ _ _ _ _ _ us hl => by revert us; exact L2.arity1 (fun _ => rfl)
  have F1 := fun_mk (st := s_common_divisor) l1 c1 k1
  have b1 := F1.binds (ps := ["numbers"]) fun _ _ _ _ _ _ us hl => by revert us; exact L2.arity1 (fun _ => rfl)
  have F2 := fund_mk (st := s_fraction) l2 c2 k2 t2 rfl
  have b2 := F2.binds (ps := ["top", "bottom"]) fun _ _ _ _ _ _ _ us hl => by revert us; exact L2.arity2 (fun _ _ => ⟨_, rfl, rfl⟩)
  have bd2 := F2.binds1 (ps := ["top", "bottom"]) fun _ _ _ _ _ _ _ us hl => match us, hl with | [_], _ => ⟨_, rfl, rfl⟩
  have F3 := fun_mk (st := s_under) l3 c3 k3
  have b3 := F3.binds (ps := ["one", "other"]) fun _ _ _ _ _ _ us hl => by revert us; exact L2.arity2 (fun _ _ => rfl)
  have F4 := fun_mk (st := s_is_numbers) l4 c4 k4
  have b4 := F4.binds (ps := ["value", "count"]) fun _ _ _ _ _ _ us hl => by revert us; exact L2.arity2 (fun _ _ => rfl)
  have F5 := fund_mk (st := s_copied) l5 c5 k5 t5 rfl
  have b5 := F5.binds (ps := ["value", "depth"]) fun _ _ _ _ _ _ _ us hl => by revert us; exact L2.arity2 (fun _ _ => ⟨_, rfl, rfl⟩)
  have bd5 := F5.binds1 (ps := ["value", "depth"]) fun _ _ _ _ _ _ _ us hl => match us, hl with | [_], _ => ⟨_, rfl, rfl⟩
  have F6 := fun_mk (st := s_raw_sum) l6 c6 k6
  have b6 := F6.binds (ps := ["numbers", "point"]) fun _ _ _ _ _ _ us hl => by revert us; exact L2.arity2 (fun _ _ => rfl)
  have F7 := fun_mk (st := s_divided_sum) l7 c7 k7
  have b7 := F7.binds (ps := ["numbers", "point", "add", "divisor"]) fun _ _ _ _ _ _ us hl => by revert us; exact L2.arity4 (fun _ _ _ _ => rfl)
  have F8 := fun_mk (st := s_holds) l8 c8 k8
  have b8 := F8.binds (ps := ["row", "point"]) fun _ _ _ _ _ _ us hl => by revert us; exact L2.arity2 (fun _ _ => rfl)
  have F9 := fun_mk (st := s_is_row) l9 c9 k9
  have b9 := F9.binds (ps := ["value", "many"]) fun _ _ _ _ _ _ us hl => by revert us; exact L2.arity2 (fun _ _ => rfl)
  have F10 := fun_mk (st := s_other_side) l10 c10 k10
  have b10 := F10.binds (ps := ["row"]) fun _ _ _ _ _ _ us hl => by revert us; exact L2.arity1 (fun _ => rfl)
  have F11 := fund_mk (st := s_Straight___init__) l11 c11 k11 t11 rfl
  have b11 := F11.binds (ps := ["self", "numbers", "add", "divisor"]) fun _ _ _ _ _ _ _ us hl => by revert us; exact L2.arity4 (fun _ _ _ _ => ⟨_, rfl, rfl⟩)
  have bd11 := F11.binds1 (ps := ["self", "numbers", "add", "divisor"]) fun _ _ _ _ _ _ _ us hl => match us, hl with | [_, _, _], _ => ⟨_, rfl, rfl⟩
  have F12 := fun_mk (st := s_Stopped___init__) l12 c12 k12
  have b12 := F12.binds (ps := ["self", "rule", "low", "high"]) fun _ _ _ _ _ _ us hl => by revert us; exact L2.arity4 (fun _ _ _ _ => rfl)
  have F13 := fun_mk (st := s_Parted___init__) l13 c13 k13
  have b13 := F13.binds (ps := ["self", "row", "rule", "other"]) fun _ _ _ _ _ _ us hl => by revert us; exact L2.arity4 (fun _ _ _ _ => rfl)
  have F14 := fun_mk (st := s_Straight_steering) l14 c14 k14
  have b14 := F14.binds (ps := ["self", "point"]) fun _ _ _ _ _ _ us hl => by revert us; exact L2.arity2 (fun _ _ => rfl)
  have F15 := fun_mk (st := s_Stopped_steering) l15 c15 k15
  have b15 := F15.binds (ps := ["self", "point"]) fun _ _ _ _ _ _ us hl => by revert us; exact L2.arity2 (fun _ _ => rfl)
  have F16 := fun_mk (st := s_Parted_steering) l16 c16 k16
  have b16 := F16.binds (ps := ["self", "point"]) fun _ _ _ _ _ _ us hl => by revert us; exact L2.arity2 (fun _ _ => rfl)
  have F17 := fun_mk (st := s_is_straight) l17 c17 k17
  have b17 := F17.binds (ps := ["value", "many"]) fun _ _ _ _ _ _ us hl => by revert us; exact L2.arity2 (fun _ _ => rfl)
  have F18 := fun_mk (st := s_are_stops) l18 c18 k18
  have b18 := F18.binds (ps := ["low", "high"]) fun _ _ _ _ _ _ us hl => by revert us; exact L2.arity2 (fun _ _ => rfl)
  have F19 := fun_mk (st := s_is_rule) l19 c19 k19
  have b19 := F19.binds (ps := ["value", "many"]) fun _ _ _ _ _ _ us hl => by revert us; exact L2.arity2 (fun _ _ => rfl)
  have F20 := fun_mk (st := s_piece_count) l20 c20 k20
  have b20 := F20.binds (ps := ["rule"]) fun _ _ _ _ _ _ us hl => by revert us; exact L2.arity1 (fun _ => rfl)
  have F21 := fun_mk (st := s_stop_row) l21 c21 k21
  have b21 := F21.binds (ps := ["straight", "stop"]) fun _ _ _ _ _ _ us hl => by revert us; exact L2.arity2 (fun _ _ => rfl)
  have F22 := fun_mk (st := s_stopped_pieces) l22 c22 k22
  have b22 := F22.binds (ps := ["rule"]) fun _ _ _ _ _ _ us hl => by revert us; exact L2.arity1 (fun _ => rfl)
  have F23 := fun_mk (st := s_parted_pieces) l23 c23 k23
  have b23 := F23.binds (ps := ["rule"]) fun _ _ _ _ _ _ us hl => by revert us; exact L2.arity1 (fun _ => rfl)
  have F24 := fun_mk (st := s_listed) l24 c24 k24
  have b24 := F24.binds (ps := ["rule"]) fun _ _ _ _ _ _ us hl => by revert us; exact L2.arity1 (fun _ => rfl)
  have F25 := fun_mk (st := s_pieces) l25 c25 k25
  have b25 := F25.binds (ps := ["rule", "many"]) fun _ _ _ _ _ _ us hl => by revert us; exact L2.arity2 (fun _ _ => rfl)
  have F26 := fun_mk (st := s_l_cell_at) l26 c26 k26
  have b26 := F26.binds (ps := ["_law_script", "_law_k"]) fun _ _ _ _ _ _ us hl => by revert us; exact L2.arity2 (fun _ _ => rfl)
  have F27 := fun_mk (st := s_l_stream) l27 c27 k27
  have b27 := F27.binds (ps := ["_law_cell", "_law_many"]) fun _ _ _ _ _ _ us hl => by revert us; exact L2.arity2 (fun _ _ => rfl)
  have F28 := fun_mk (st := s_l_number) l28 c28 k28
  have b28 := F28.binds (ps := ["_law_number_here"]) fun _ _ _ _ _ _ us hl => by revert us; exact L2.arity1 (fun _ => rfl)
  have F29 := fun_mk (st := s_l_leaf) l29 c29 k29
  have b29 := F29.binds (ps := ["_law_cell", "_law_many"]) fun _ _ _ _ _ _ us hl => by revert us; exact L2.arity2 (fun _ _ => rfl)
  have F30 := fun_mk (st := s_l_rule) l30 c30 k30
  have b30 := F30.binds (ps := ["_law_cells", "_law_many"]) fun _ _ _ _ _ _ us hl => by revert us; exact L2.arity2 (fun _ _ => rfl)
  have F31 := fun_mk (st := s_l_divisor) l31 c31 k31
  have b31 := F31.binds (ps := ["_law_one", "_law_other"]) fun _ _ _ _ _ _ us hl => by revert us; exact L2.arity2 (fun _ _ => rfl)
  have F32 := fun_mk (st := s_l_fraction) l32 c32 k32
  have b32 := F32.binds (ps := ["_law_top", "_law_bottom"]) fun _ _ _ _ _ _ us hl => by revert us; exact L2.arity2 (fun _ _ => rfl)
  have F33 := fun_mk (st := s_l_sum) l33 c33 k33
  have b33 := F33.binds (ps := ["_law_numbers", "_law_point_here"]) fun _ _ _ _ _ _ us hl => by revert us; exact L2.arity2 (fun _ _ => rfl)
  have F34 := fun_mk (st := s_l_held) l34 c34 k34
  have b34 := F34.binds (ps := ["_law_rows", "_law_point_here"]) fun _ _ _ _ _ _ us hl => by revert us; exact L2.arity2 (fun _ _ => rfl)
  have F35 := fun_mk (st := s_l_told) l35 c35 k35
  have b35 := F35.binds (ps := ["_law_straight", "_law_point_here"]) fun _ _ _ _ _ _ us hl => by revert us; exact L2.arity2 (fun _ _ => rfl)
  have F36 := fun_mk (st := s_l_point) l36 c36 k36
  have b36 := F36.binds (ps := ["_law_cell", "_law_many", "_law_rows"]) fun _ _ _ _ _ _ us hl => by revert us; exact L2.arity3 (fun _ _ _ => rfl)
  have F37 := fun_mk (st := s_law) l37 c37 k37
  have b37 := F37.binds (ps := ["_law_script"]) fun _ _ _ _ _ _ us hl => by revert us; exact L2.arity1 (fun _ => rfl)
  refine ⟨PySem.W.fnOf "law" "law" (defArgs s_law) (defBody s_law) (defScope s_law) .none kV37 dc37 pm37 an37 cd37 ct37, fun s v => .of_eq rfl, fun base _ _ => ?_⟩
  have N0 : Fn l.prog w K mg base "is_whole" ["thing"] 1 spIsWhole := ⟨_, _, ok_is_whole (k := 0) TStraight AStraight TStopped AStopped TParted AParted Y F0 B , PySem.W.mg_of X G a0, k0, b0⟩
  have N1 : Fn l.prog w K mg base "common_divisor" ["numbers"] 1 (spCommon K) := ⟨_, _, ok_common_divisor (k := 0) TStraight AStraight TStopped AStopped TParted AParted Y F1 B , PySem.W.mg_of X G a1, k1, b1⟩
  have N2 : FnD l.prog w K mg base "fraction" ["top", "bottom"] 2 spFraction (.int 1) := ⟨_, _, _, ok_fraction (k := 1) TStraight AStraight TStopped AStopped TParted AParted Y F2 B (N0.mono (by decide)) (N1.mono (by decide)), PySem.W.mg_of X G a2, k2, b2, bd2, ⟨_, rfl⟩⟩
  have N3 : Fn l.prog w K mg base "under" ["one", "other"] 1 spUnder := ⟨_, _, ok_under (k := 0) TStraight AStraight TStopped AStopped TParted AParted Y F3 B , PySem.W.mg_of X G a3, k3, b3⟩
  have N4 : Fn l.prog w K mg base "is_numbers" ["value", "count"] 2 spIsNumbers := ⟨_, _, ok_is_numbers (k := 1) TStraight AStraight TStopped AStopped TParted AParted Y F4 B (N0.mono (by decide)), PySem.W.mg_of X G a4, k4, b4⟩
  have N5_n : FnD l.prog w K mg base "copied" ["value", "depth"] 0 spNone (.int 5) := ⟨_, _, _, FnOk.none, PySem.W.mg_of X G a5, k5, b5, bd5, ⟨_, rfl⟩⟩
  have N5_0 : FnD l.prog w K mg base "copied" ["value", "depth"] 1 spC0 (.int 5) := ⟨_, _, _, ok_copied_0 (k := 0) TStraight AStraight TStopped AStopped TParted AParted Y F5 B N5_n, PySem.W.mg_of X G a5, k5, b5, bd5, ⟨_, rfl⟩⟩
  have N5_1 : FnD l.prog w K mg base "copied" ["value", "depth"] 2 spC1 (.int 5) := ⟨_, _, _, ok_copied_1 (k := 1) TStraight AStraight TStopped AStopped TParted AParted Y F5 B N5_0, PySem.W.mg_of X G a5, k5, b5, bd5, ⟨_, rfl⟩⟩
  have N5_2 : FnD l.prog w K mg base "copied" ["value", "depth"] 3 spC2 (.int 5) := ⟨_, _, _, ok_copied_2 (k := 2) TStraight AStraight TStopped AStopped TParted AParted Y F5 B N5_1, PySem.W.mg_of X G a5, k5, b5, bd5, ⟨_, rfl⟩⟩
  have N5 := N5_2
  have N6 : Fn l.prog w K mg base "raw_sum" ["numbers", "point"] 1 (spRawE K) := ⟨_, _, ok_raw_sum (k := 0) TStraight AStraight TStopped AStopped TParted AParted Y F6 B , PySem.W.mg_of X G a6, k6, b6⟩
  have N7 : Fn l.prog w K mg base "divided_sum" ["numbers", "point", "add", "divisor"] 3 (spDivided K) := ⟨_, _, ok_divided_sum (k := 2) TStraight AStraight TStopped AStopped TParted AParted Y F7 B (N6.mono (by decide)) (N2.mono (by decide)), PySem.W.mg_of X G a7, k7, b7⟩
  have N8 : Fn l.prog w K mg base "holds" ["row", "point"] 2 (spHolds K) := ⟨_, _, ok_holds (k := 1) TStraight AStraight TStopped AStopped TParted AParted Y F8 B (N6.mono (by decide)), PySem.W.mg_of X G a8, k8, b8⟩
  have N9 : Fn l.prog w K mg base "is_row" ["value", "many"] 2 spIsRow := ⟨_, _, ok_is_row (k := 1) TStraight AStraight TStopped AStopped TParted AParted Y F9 B (N0.mono (by decide)), PySem.W.mg_of X G a9, k9, b9⟩
  have N10 : Fn l.prog w K mg base "other_side" ["row"] 1 spOther := ⟨_, _, ok_other_side (k := 0) TStraight AStraight TStopped AStopped TParted AParted Y F10 B , PySem.W.mg_of X G a10, k10, b10⟩
  have N11 : FnCD l.prog w K mg base aStraight ["self", "numbers", "add", "divisor"] 4 (spStraightInit aStraight) (.int 1) := ⟨_, _, _, ok_Straight___init__ (k := 3) TStraight AStraight TStopped AStopped TParted AParted Y F11 B (N5.mono (by decide)), ⟨mk_Straight, a11, i11, kc_Straight⟩, b11, bd11, ⟨_, rfl⟩⟩
  have N12 : FnC l.prog w K mg base aStopped ["self", "rule", "low", "high"] 1 (spStoppedInit aStopped) := ⟨_, _, ok_Stopped___init__ (k := 0) TStraight AStraight TStopped AStopped TParted AParted Y F12 B , ⟨mk_Stopped, a12, i12, kc_Stopped⟩, b12⟩
  have N13 : FnC l.prog w K mg base aParted ["self", "row", "rule", "other"] 4 (spPartedInit aParted) := ⟨_, _, ok_Parted___init__ (k := 3) TStraight AStraight TStopped AStopped TParted AParted Y F13 B (N5.mono (by decide)), ⟨mk_Parted, a13, i13, kc_Parted⟩, b13⟩
  have N14 : ∀ d : Nat, FnM l.prog w K mg base aStraight "steering" ["self", "point"] 4 (spSteer aStraight aStopped aParted K isStr d) := fun d => ⟨_, _, ok_Straight_steering (k := 3) (d := d) TStraight AStraight TStopped AStopped TParted AParted Y F14 B (N7.mono (by decide)), ⟨a14, i14, k14⟩, b14⟩
  have N15_0 : FnM l.prog w K mg base aStopped "steering" ["self", "point"] 4 (spSteer aStraight aStopped aParted K isStp 0) := ⟨_, _, FnOk.no spSteer_no, ⟨a15, i15, k15⟩, b15⟩
  have N16_0 : FnM l.prog w K mg base aParted "steering" ["self", "point"] 4 (spSteer aStraight aStopped aParted K isPrt 0) := ⟨_, _, FnOk.no spSteer_no, ⟨a16, i16, k16⟩, b16⟩
  have N15_1 : FnM l.prog w K mg base aStopped "steering" ["self", "point"] 5 (spSteer aStraight aStopped aParted K isStp 1) := ⟨_, _, ok_Stopped_steering (k := 4) (d := 0) TStraight AStraight TStopped AStopped TParted AParted Y F15 B ((N14 0).mono (by decide)) (N15_0.mono (by decide)) (N16_0.mono (by decide)) (N3.mono (by decide)) (N2.mono (by decide)), ⟨a15, i15, k15⟩, b15⟩
  have N16_1 : FnM l.prog w K mg base aParted "steering" ["self", "point"] 5 (spSteer aStraight aStopped aParted K isPrt 1) := ⟨_, _, ok_Parted_steering (k := 4) (d := 0) TStraight AStraight TStopped AStopped TParted AParted Y F16 B (N8.mono (by decide)) ((N14 0).mono (by decide)) (N15_0.mono (by decide)) (N16_0.mono (by decide)), ⟨a16, i16, k16⟩, b16⟩
  have N15_2 : FnM l.prog w K mg base aStopped "steering" ["self", "point"] 6 (spSteer aStraight aStopped aParted K isStp 2) := ⟨_, _, ok_Stopped_steering (k := 5) (d := 1) TStraight AStraight TStopped AStopped TParted AParted Y F15 B ((N14 1).mono (by decide)) (N15_1.mono (by decide)) (N16_1.mono (by decide)) (N3.mono (by decide)) (N2.mono (by decide)), ⟨a15, i15, k15⟩, b15⟩
  have N16_2 : FnM l.prog w K mg base aParted "steering" ["self", "point"] 6 (spSteer aStraight aStopped aParted K isPrt 2) := ⟨_, _, ok_Parted_steering (k := 5) (d := 1) TStraight AStraight TStopped AStopped TParted AParted Y F16 B (N8.mono (by decide)) ((N14 1).mono (by decide)) (N15_1.mono (by decide)) (N16_1.mono (by decide)), ⟨a16, i16, k16⟩, b16⟩
  have N15_3 : FnM l.prog w K mg base aStopped "steering" ["self", "point"] 7 (spSteer aStraight aStopped aParted K isStp 3) := ⟨_, _, ok_Stopped_steering (k := 6) (d := 2) TStraight AStraight TStopped AStopped TParted AParted Y F15 B ((N14 2).mono (by decide)) (N15_2.mono (by decide)) (N16_2.mono (by decide)) (N3.mono (by decide)) (N2.mono (by decide)), ⟨a15, i15, k15⟩, b15⟩
  have N16_3 : FnM l.prog w K mg base aParted "steering" ["self", "point"] 7 (spSteer aStraight aStopped aParted K isPrt 3) := ⟨_, _, ok_Parted_steering (k := 6) (d := 2) TStraight AStraight TStopped AStopped TParted AParted Y F16 B (N8.mono (by decide)) ((N14 2).mono (by decide)) (N15_2.mono (by decide)) (N16_2.mono (by decide)), ⟨a16, i16, k16⟩, b16⟩
  have N15_4 : FnM l.prog w K mg base aStopped "steering" ["self", "point"] 8 (spSteer aStraight aStopped aParted K isStp 4) := ⟨_, _, ok_Stopped_steering (k := 7) (d := 3) TStraight AStraight TStopped AStopped TParted AParted Y F15 B ((N14 3).mono (by decide)) (N15_3.mono (by decide)) (N16_3.mono (by decide)) (N3.mono (by decide)) (N2.mono (by decide)), ⟨a15, i15, k15⟩, b15⟩
  have N16_4 : FnM l.prog w K mg base aParted "steering" ["self", "point"] 8 (spSteer aStraight aStopped aParted K isPrt 4) := ⟨_, _, ok_Parted_steering (k := 7) (d := 3) TStraight AStraight TStopped AStopped TParted AParted Y F16 B (N8.mono (by decide)) ((N14 3).mono (by decide)) (N15_3.mono (by decide)) (N16_3.mono (by decide)), ⟨a16, i16, k16⟩, b16⟩
  have N15_5 : FnM l.prog w K mg base aStopped "steering" ["self", "point"] 9 (spSteer aStraight aStopped aParted K isStp 5) := ⟨_, _, ok_Stopped_steering (k := 8) (d := 4) TStraight AStraight TStopped AStopped TParted AParted Y F15 B ((N14 4).mono (by decide)) (N15_4.mono (by decide)) (N16_4.mono (by decide)) (N3.mono (by decide)) (N2.mono (by decide)), ⟨a15, i15, k15⟩, b15⟩
  have N16_5 : FnM l.prog w K mg base aParted "steering" ["self", "point"] 9 (spSteer aStraight aStopped aParted K isPrt 5) := ⟨_, _, ok_Parted_steering (k := 8) (d := 4) TStraight AStraight TStopped AStopped TParted AParted Y F16 B (N8.mono (by decide)) ((N14 4).mono (by decide)) (N15_4.mono (by decide)) (N16_4.mono (by decide)), ⟨a16, i16, k16⟩, b16⟩
  have N15_6 : FnM l.prog w K mg base aStopped "steering" ["self", "point"] 10 (spSteer aStraight aStopped aParted K isStp 6) := ⟨_, _, ok_Stopped_steering (k := 9) (d := 5) TStraight AStraight TStopped AStopped TParted AParted Y F15 B ((N14 5).mono (by decide)) (N15_5.mono (by decide)) (N16_5.mono (by decide)) (N3.mono (by decide)) (N2.mono (by decide)), ⟨a15, i15, k15⟩, b15⟩
  have N16_6 : FnM l.prog w K mg base aParted "steering" ["self", "point"] 10 (spSteer aStraight aStopped aParted K isPrt 6) := ⟨_, _, ok_Parted_steering (k := 9) (d := 5) TStraight AStraight TStopped AStopped TParted AParted Y F16 B (N8.mono (by decide)) ((N14 5).mono (by decide)) (N15_5.mono (by decide)) (N16_5.mono (by decide)), ⟨a16, i16, k16⟩, b16⟩
  have N15 := N15_6
  have N16 := N16_6
  have N17 : Fn l.prog w K mg base "is_straight" ["value", "many"] 3 (spIsStraight aStraight aStopped aParted) := ⟨_, _, ok_is_straight (k := 2) TStraight AStraight TStopped AStopped TParted AParted Y F17 B (N4.mono (by decide)) (N0.mono (by decide)), PySem.W.mg_of X G a17, k17, b17⟩
  have N18 : Fn l.prog w K mg base "are_stops" ["low", "high"] 2 spStops := ⟨_, _, ok_are_stops (k := 1) TStraight AStraight TStopped AStopped TParted AParted Y F18 B (N0.mono (by decide)), PySem.W.mg_of X G a18, k18, b18⟩
  have N19_0 : Fn l.prog w K mg base "is_rule" ["value", "many"] 3 (spIsRule aStraight aStopped aParted 0) := ⟨_, _, FnOk.no spIsRule_no, PySem.W.mg_of X G a19, k19, b19⟩
  have N19_1 : Fn l.prog w K mg base "is_rule" ["value", "many"] 4 (spIsRule aStraight aStopped aParted 1) := ⟨_, _, ok_is_rule (k := 3) (d := 0) TStraight AStraight TStopped AStopped TParted AParted Y F19 B (N17.mono (by decide)) (N19_0.mono (by decide)) (N18.mono (by decide)) (N9.mono (by decide)), PySem.W.mg_of X G a19, k19, b19⟩
  have N19_2 : Fn l.prog w K mg base "is_rule" ["value", "many"] 5 (spIsRule aStraight aStopped aParted 2) := ⟨_, _, ok_is_rule (k := 4) (d := 1) TStraight AStraight TStopped AStopped TParted AParted Y F19 B (N17.mono (by decide)) (N19_1.mono (by decide)) (N18.mono (by decide)) (N9.mono (by decide)), PySem.W.mg_of X G a19, k19, b19⟩
  have N19_3 : Fn l.prog w K mg base "is_rule" ["value", "many"] 6 (spIsRule aStraight aStopped aParted 3) := ⟨_, _, ok_is_rule (k := 5) (d := 2) TStraight AStraight TStopped AStopped TParted AParted Y F19 B (N17.mono (by decide)) (N19_2.mono (by decide)) (N18.mono (by decide)) (N9.mono (by decide)), PySem.W.mg_of X G a19, k19, b19⟩
  have N19_4 : Fn l.prog w K mg base "is_rule" ["value", "many"] 7 (spIsRule aStraight aStopped aParted 4) := ⟨_, _, ok_is_rule (k := 6) (d := 3) TStraight AStraight TStopped AStopped TParted AParted Y F19 B (N17.mono (by decide)) (N19_3.mono (by decide)) (N18.mono (by decide)) (N9.mono (by decide)), PySem.W.mg_of X G a19, k19, b19⟩
  have N19_5 : Fn l.prog w K mg base "is_rule" ["value", "many"] 8 (spIsRule aStraight aStopped aParted 5) := ⟨_, _, ok_is_rule (k := 7) (d := 4) TStraight AStraight TStopped AStopped TParted AParted Y F19 B (N17.mono (by decide)) (N19_4.mono (by decide)) (N18.mono (by decide)) (N9.mono (by decide)), PySem.W.mg_of X G a19, k19, b19⟩
  have N19_6 : Fn l.prog w K mg base "is_rule" ["value", "many"] 9 (spIsRule aStraight aStopped aParted 6) := ⟨_, _, ok_is_rule (k := 8) (d := 5) TStraight AStraight TStopped AStopped TParted AParted Y F19 B (N17.mono (by decide)) (N19_5.mono (by decide)) (N18.mono (by decide)) (N9.mono (by decide)), PySem.W.mg_of X G a19, k19, b19⟩
  have N19 := N19_6
  have N20_0 : Fn l.prog w K mg base "piece_count" ["rule"] 1 (spCount aStraight aStopped aParted 0) := ⟨_, _, FnOk.no spCount_no, PySem.W.mg_of X G a20, k20, b20⟩
  have N20_1 : Fn l.prog w K mg base "piece_count" ["rule"] 2 (spCount aStraight aStopped aParted 1) := ⟨_, _, ok_piece_count (k := 1) (d := 0) TStraight AStraight TStopped AStopped TParted AParted Y F20 B (N20_0.mono (by decide)), PySem.W.mg_of X G a20, k20, b20⟩
  have N20_2 : Fn l.prog w K mg base "piece_count" ["rule"] 3 (spCount aStraight aStopped aParted 2) := ⟨_, _, ok_piece_count (k := 2) (d := 1) TStraight AStraight TStopped AStopped TParted AParted Y F20 B (N20_1.mono (by decide)), PySem.W.mg_of X G a20, k20, b20⟩
  have N20_3 : Fn l.prog w K mg base "piece_count" ["rule"] 4 (spCount aStraight aStopped aParted 3) := ⟨_, _, ok_piece_count (k := 3) (d := 2) TStraight AStraight TStopped AStopped TParted AParted Y F20 B (N20_2.mono (by decide)), PySem.W.mg_of X G a20, k20, b20⟩
  have N20_4 : Fn l.prog w K mg base "piece_count" ["rule"] 5 (spCount aStraight aStopped aParted 4) := ⟨_, _, ok_piece_count (k := 4) (d := 3) TStraight AStraight TStopped AStopped TParted AParted Y F20 B (N20_3.mono (by decide)), PySem.W.mg_of X G a20, k20, b20⟩
  have N20_5 : Fn l.prog w K mg base "piece_count" ["rule"] 6 (spCount aStraight aStopped aParted 5) := ⟨_, _, ok_piece_count (k := 5) (d := 4) TStraight AStraight TStopped AStopped TParted AParted Y F20 B (N20_4.mono (by decide)), PySem.W.mg_of X G a20, k20, b20⟩
  have N20_6 : Fn l.prog w K mg base "piece_count" ["rule"] 7 (spCount aStraight aStopped aParted 6) := ⟨_, _, ok_piece_count (k := 6) (d := 5) TStraight AStraight TStopped AStopped TParted AParted Y F20 B (N20_5.mono (by decide)), PySem.W.mg_of X G a20, k20, b20⟩
  have N20 := N20_6
  have N21 : Fn l.prog w K mg base "stop_row" ["straight", "stop"] 1 (spStopRow aStraight) := ⟨_, _, ok_stop_row (k := 0) TStraight AStraight TStopped AStopped TParted AParted Y F21 B , PySem.W.mg_of X G a21, k21, b21⟩
  have N24_0 : Fn l.prog w K mg base "listed" ["rule"] 5 (spListed aStraight aStopped aParted anyK 0) := ⟨_, _, FnOk.no spListed_no, PySem.W.mg_of X G a24, k24, b24⟩
  have N22_1 : Fn l.prog w K mg base "stopped_pieces" ["rule"] 6 (spListed aStraight aStopped aParted isStp 1) := ⟨_, _, ok_stopped_pieces (k := 4) (d := 0) TStraight AStraight TStopped AStopped TParted AParted Y F22 B (N24_0.mono (by decide)) (N21.mono (by decide)) (N11.mono (by decide)) (N10.mono (by decide)), PySem.W.mg_of X G a22, k22, b22⟩
  have N23_1 : Fn l.prog w K mg base "parted_pieces" ["rule"] 6 (spListed aStraight aStopped aParted isPrt 1) := ⟨_, _, ok_parted_pieces (k := 5) (d := 0) TStraight AStraight TStopped AStopped TParted AParted Y F23 B (N10.mono (by decide)) (N24_0.mono (by decide)), PySem.W.mg_of X G a23, k23, b23⟩
  have N24_1 : Fn l.prog w K mg base "listed" ["rule"] 7 (spListed aStraight aStopped aParted anyK 1) := ⟨_, _, ok_listed (k := 6) (d := 0) TStraight AStraight TStopped AStopped TParted AParted Y F24 B (N22_1.mono (by decide)) (N23_1.mono (by decide)), PySem.W.mg_of X G a24, k24, b24⟩
  have N22_2 : Fn l.prog w K mg base "stopped_pieces" ["rule"] 8 (spListed aStraight aStopped aParted isStp 2) := ⟨_, _, ok_stopped_pieces (k := 6) (d := 1) TStraight AStraight TStopped AStopped TParted AParted Y F22 B (N24_1.mono (by decide)) (N21.mono (by decide)) (N11.mono (by decide)) (N10.mono (by decide)), PySem.W.mg_of X G a22, k22, b22⟩
  have N23_2 : Fn l.prog w K mg base "parted_pieces" ["rule"] 8 (spListed aStraight aStopped aParted isPrt 2) := ⟨_, _, ok_parted_pieces (k := 7) (d := 1) TStraight AStraight TStopped AStopped TParted AParted Y F23 B (N10.mono (by decide)) (N24_1.mono (by decide)), PySem.W.mg_of X G a23, k23, b23⟩
  have N24_2 : Fn l.prog w K mg base "listed" ["rule"] 9 (spListed aStraight aStopped aParted anyK 2) := ⟨_, _, ok_listed (k := 8) (d := 1) TStraight AStraight TStopped AStopped TParted AParted Y F24 B (N22_2.mono (by decide)) (N23_2.mono (by decide)), PySem.W.mg_of X G a24, k24, b24⟩
  have N22_3 : Fn l.prog w K mg base "stopped_pieces" ["rule"] 10 (spListed aStraight aStopped aParted isStp 3) := ⟨_, _, ok_stopped_pieces (k := 8) (d := 2) TStraight AStraight TStopped AStopped TParted AParted Y F22 B (N24_2.mono (by decide)) (N21.mono (by decide)) (N11.mono (by decide)) (N10.mono (by decide)), PySem.W.mg_of X G a22, k22, b22⟩
  have N23_3 : Fn l.prog w K mg base "parted_pieces" ["rule"] 10 (spListed aStraight aStopped aParted isPrt 3) := ⟨_, _, ok_parted_pieces (k := 9) (d := 2) TStraight AStraight TStopped AStopped TParted AParted Y F23 B (N10.mono (by decide)) (N24_2.mono (by decide)), PySem.W.mg_of X G a23, k23, b23⟩
  have N24_3 : Fn l.prog w K mg base "listed" ["rule"] 11 (spListed aStraight aStopped aParted anyK 3) := ⟨_, _, ok_listed (k := 10) (d := 2) TStraight AStraight TStopped AStopped TParted AParted Y F24 B (N22_3.mono (by decide)) (N23_3.mono (by decide)), PySem.W.mg_of X G a24, k24, b24⟩
  have N22_4 : Fn l.prog w K mg base "stopped_pieces" ["rule"] 12 (spListed aStraight aStopped aParted isStp 4) := ⟨_, _, ok_stopped_pieces (k := 10) (d := 3) TStraight AStraight TStopped AStopped TParted AParted Y F22 B (N24_3.mono (by decide)) (N21.mono (by decide)) (N11.mono (by decide)) (N10.mono (by decide)), PySem.W.mg_of X G a22, k22, b22⟩
  have N23_4 : Fn l.prog w K mg base "parted_pieces" ["rule"] 12 (spListed aStraight aStopped aParted isPrt 4) := ⟨_, _, ok_parted_pieces (k := 11) (d := 3) TStraight AStraight TStopped AStopped TParted AParted Y F23 B (N10.mono (by decide)) (N24_3.mono (by decide)), PySem.W.mg_of X G a23, k23, b23⟩
  have N24_4 : Fn l.prog w K mg base "listed" ["rule"] 13 (spListed aStraight aStopped aParted anyK 4) := ⟨_, _, ok_listed (k := 12) (d := 3) TStraight AStraight TStopped AStopped TParted AParted Y F24 B (N22_4.mono (by decide)) (N23_4.mono (by decide)), PySem.W.mg_of X G a24, k24, b24⟩
  have N22_5 : Fn l.prog w K mg base "stopped_pieces" ["rule"] 14 (spListed aStraight aStopped aParted isStp 5) := ⟨_, _, ok_stopped_pieces (k := 12) (d := 4) TStraight AStraight TStopped AStopped TParted AParted Y F22 B (N24_4.mono (by decide)) (N21.mono (by decide)) (N11.mono (by decide)) (N10.mono (by decide)), PySem.W.mg_of X G a22, k22, b22⟩
  have N23_5 : Fn l.prog w K mg base "parted_pieces" ["rule"] 14 (spListed aStraight aStopped aParted isPrt 5) := ⟨_, _, ok_parted_pieces (k := 13) (d := 4) TStraight AStraight TStopped AStopped TParted AParted Y F23 B (N10.mono (by decide)) (N24_4.mono (by decide)), PySem.W.mg_of X G a23, k23, b23⟩
  have N24_5 : Fn l.prog w K mg base "listed" ["rule"] 15 (spListed aStraight aStopped aParted anyK 5) := ⟨_, _, ok_listed (k := 14) (d := 4) TStraight AStraight TStopped AStopped TParted AParted Y F24 B (N22_5.mono (by decide)) (N23_5.mono (by decide)), PySem.W.mg_of X G a24, k24, b24⟩
  have N22_6 : Fn l.prog w K mg base "stopped_pieces" ["rule"] 16 (spListed aStraight aStopped aParted isStp 6) := ⟨_, _, ok_stopped_pieces (k := 14) (d := 5) TStraight AStraight TStopped AStopped TParted AParted Y F22 B (N24_5.mono (by decide)) (N21.mono (by decide)) (N11.mono (by decide)) (N10.mono (by decide)), PySem.W.mg_of X G a22, k22, b22⟩
  have N23_6 : Fn l.prog w K mg base "parted_pieces" ["rule"] 16 (spListed aStraight aStopped aParted isPrt 6) := ⟨_, _, ok_parted_pieces (k := 15) (d := 5) TStraight AStraight TStopped AStopped TParted AParted Y F23 B (N10.mono (by decide)) (N24_5.mono (by decide)), PySem.W.mg_of X G a23, k23, b23⟩
  have N24_6 : Fn l.prog w K mg base "listed" ["rule"] 17 (spListed aStraight aStopped aParted anyK 6) := ⟨_, _, ok_listed (k := 16) (d := 5) TStraight AStraight TStopped AStopped TParted AParted Y F24 B (N22_6.mono (by decide)) (N23_6.mono (by decide)), PySem.W.mg_of X G a24, k24, b24⟩
  have N22 := N22_6
  have N23 := N23_6
  have N24 := N24_6
  have N25 : Fn l.prog w K mg base "pieces" ["rule", "many"] 18 (spPieces aStraight aStopped aParted 6) := ⟨_, _, ok_pieces (k := 17) TStraight AStraight TStopped AStopped TParted AParted Y F25 B (N19.mono (by decide)) (N20.mono (by decide)) (N24.mono (by decide)), PySem.W.mg_of X G a25, k25, b25⟩
  have N26 : Fn l.prog w K mg base "_law_cell_at" ["_law_script", "_law_k"] 1 (spCell K) := ⟨_, _, ok_l_cell_at (k := 0) TStraight AStraight TStopped AStopped TParted AParted Y F26 B , PySem.W.mg_of X G a26, k26, b26⟩
  have N27 : Fn l.prog w K mg base "_law_stream" ["_law_cell", "_law_many"] 1 spStream := ⟨_, _, ok_l_stream (k := 0) TStraight AStraight TStopped AStopped TParted AParted Y F27 B , PySem.W.mg_of X G a27, k27, b27⟩
  have N28 : Fn l.prog w K mg base "_law_number" ["_law_number_here"] 1 spNum21 := ⟨_, _, ok_l_number (k := 0) TStraight AStraight TStopped AStopped TParted AParted Y F28 B , PySem.W.mg_of X G a28, k28, b28⟩
  have N29 : Fn l.prog w K mg base "_law_leaf" ["_law_cell", "_law_many"] 6 (spLeafR aStraight aStopped aParted) := ⟨_, _, ok_l_leaf (k := 4) TStraight AStraight TStopped AStopped TParted AParted Y F29 B (N27.mono (by decide)) (N11.mono (by decide)) (N28.mono (by decide)), PySem.W.mg_of X G a29, k29, b29⟩
  have N30 : Fn l.prog w K mg base "_law_rule" ["_law_cells", "_law_many"] 7 (spRuleR aStraight aStopped aParted K) := ⟨_, _, ok_l_rule (k := 5) TStraight AStraight TStopped AStopped TParted AParted Y F30 B (N29.mono (by decide)) (N26.mono (by decide)) (N27.mono (by decide)) (N28.mono (by decide)) (N12.mono (by decide)) (N13.mono (by decide)), PySem.W.mg_of X G a30, k30, b30⟩
  have N31 : Fn l.prog w K mg base "_law_divisor" ["_law_one", "_law_other"] 1 spShare := ⟨_, _, ok_l_divisor (k := 0) TStraight AStraight TStopped AStopped TParted AParted Y F31 B , PySem.W.mg_of X G a31, k31, b31⟩
  have N32 : Fn l.prog w K mg base "_law_fraction" ["_law_top", "_law_bottom"] 2 spLowest := ⟨_, _, ok_l_fraction (k := 1) TStraight AStraight TStopped AStopped TParted AParted Y F32 B (N31.mono (by decide)), PySem.W.mg_of X G a32, k32, b32⟩
  have N33 : Fn l.prog w K mg base "_law_sum" ["_law_numbers", "_law_point_here"] 3 (spSumL K) := ⟨_, _, ok_l_sum (k := 2) TStraight AStraight TStopped AStopped TParted AParted Y F33 B (N32.mono (by decide)), PySem.W.mg_of X G a33, k33, b33⟩
  have N34 : Fn l.prog w K mg base "_law_held" ["_law_rows", "_law_point_here"] 4 (spHeld K) := ⟨_, _, ok_l_held (k := 3) TStraight AStraight TStopped AStopped TParted AParted Y F34 B (N33.mono (by decide)), PySem.W.mg_of X G a34, k34, b34⟩
  have N35 : Fn l.prog w K mg base "_law_told" ["_law_straight", "_law_point_here"] 4 (spTold aStraight K) := ⟨_, _, ok_l_told (k := 3) TStraight AStraight TStopped AStopped TParted AParted Y F35 B (N33.mono (by decide)) (N32.mono (by decide)), PySem.W.mg_of X G a35, k35, b35⟩
  have N36 : Fn l.prog w K mg base "_law_point" ["_law_cell", "_law_many", "_law_rows"] 4 spPointR := ⟨_, _, ok_l_point (k := 3) TStraight AStraight TStopped AStopped TParted AParted Y F36 B (N27.mono (by decide)) (N32.mono (by decide)) (N28.mono (by decide)) (N33.mono (by decide)), PySem.W.mg_of X G a36, k36, b36⟩
  exact ok_law (k := 18) TStraight AStraight TStopped AStopped TParted AParted Y F37 B (N26.mono (by decide)) (N30.mono (by decide)) (N25.mono (by decide)) (N36.mono (by decide)) ((N14 6).mono (by decide)) (N15.mono (by decide)) (N16.mono (by decide)) (N34.mono (by decide)) (N35.mono (by decide))
theorem walk {l : PySem.W.OpenLaw} {q : Program} {loose : List Str} {XP : (Str → Option Value) → Heap → Prop} {YP : World → Heap → Prop} {d : DefRec} {K : Params → PySem.W.Frag} (hn : l.most = some 63) (hdf : d.params.defaults = [])
    (hY : ∀ (w : World) (h : Heap), YP w h → (K w.params).In h)
    (F : ∀ (w : World) (mg : Str → Option Value) (fa : Addr) (h : Heap), (K w.params).In h → h.Ns mainGlobals mg → mg d.name = some (.ref fa) →
      ∃ fd : FuncData, (∀ (s : Shared) (u : Value), BindsTo s fd ⟨[u], []⟩ [("_law_script", u)]) ∧ ∀ base : Heap, (K w.params).In base → base.Ns mainGlobals mg → FnOk l.prog w (K w.params) mg base CX0 19 fa fd ["_law_script"] (spLaw (K w.params))) :
    PySem.W.WalkO q loose XP YP l.row.toRowW d [] (fun f vs => PySem.call f vs) :=
  L2.walk_of (n := 63) (k := 19) (x := "_law_script") (CX := fun _ => CX0) (sp := fun w => spLaw (K w.params)) hn (by decide) hdf ⟨rfl, by decide, by decide⟩ hY F (fun _ _ a ns hl _ hS => ⟨a, ns, rfl, hS, hl, fun _ => rfl⟩) fun _ _ _ _ _ z => z
end K23
open PySem PySem.W PyProof.Rows
set_option maxRecDepth 100000 in
set_option maxHeartbeats 0 in
theorem PySem.Challenge.cw_steadyhand_k23_whole_pieces_cover_holds : PySem.Challenge.rw_steadyhand_k23_whole_pieces_cover.Holds := by
  w_on; o_law
  refine holds_open (q := H23.vw) (loose := H23.lo) (Xt := H23.xt) (XP := XL H23.vw []) (Yf := (kHook H23.KK H23.ks H23.ke).obs) (Ya := (kHook H23.KK H23.ks H23.ke).val) (YP := (kHook H23.KK H23.ks H23.ke).says) H23.left
    (kHook H23.KK H23.ks H23.ke).of (kHook H23.KK H23.ks H23.ke).keeps
    (fun s e => xl_of s (Bool.and_eq_true_iff.mp e).1) XL.keeps (by rfl) (by rfl) (by rfl)
    (fun s e => recFacts_of (Bool.and_eq_true_iff.mp e).2) (by rfl) (by assumption) (by decide +kernel)
    ⟨rfl, rfl, rfl, rfl, rfl, by decide +kernel⟩ ?hw ?hc
  case hw => w_witness2
  rename_i sd
  clear sd
  k_fill
  refine K23.walk (l := PySem.Challenge.rw_steadyhand_k23_whole_pieces_cover) rfl rfl (fun w h Y => PySem.W.kIn_of Y) ?F
  case F =>
    intro w mg fa h KX G hmg
    refine' K23.all_mk KX G hmg ?nm_Straight ?pg_Straight ?hd_Straight ?po_Straight ?sa_Straight ?mk_Straight ?kc_Straight ?ha_Straight ?hn_Straight ?tk_Straight ?hm_Straight ?n_numbers_Straight ?n_add_Straight ?n_divisor_Straight ?nm_Stopped ?pg_Stopped ?hd_Stopped ?po_Stopped ?sa_Stopped ?mk_Stopped ?kc_Stopped ?ha_Stopped ?hn_Stopped ?tk_Stopped ?hm_Stopped ?n_rule_Stopped ?n_low_Stopped ?n_high_Stopped ?nm_Parted ?pg_Parted ?hd_Parted ?po_Parted ?sa_Parted ?mk_Parted ?kc_Parted ?ha_Parted ?hn_Parted ?tk_Parted ?hm_Parted ?n_row_Parted ?n_rule_Parted ?n_other_Parted ?kt_k21 ?kt_k31 ?kt_k12 ?kt_k32 ?kt_k13 ?a0 ?l0 ?c0 ?k0 ?a1 ?l1 ?c1 ?k1 ?a2 ?l2 ?c2 ?k2 ?t2 ?a3 ?l3 ?c3 ?k3 ?a4 ?l4 ?c4 ?k4 ?a5 ?l5 ?c5 ?k5 ?t5 ?a6 ?l6 ?c6 ?k6 ?a7 ?l7 ?c7 ?k7 ?a8 ?l8 ?c8 ?k8 ?a9 ?l9 ?c9 ?k9 ?a10 ?l10 ?c10 ?k10 ?i11 ?a11 ?l11 ?c11 ?k11 ?t11 ?i12 ?a12 ?l12 ?c12 ?k12 ?i13 ?a13 ?l13 ?c13 ?k13 ?i14 ?a14 ?l14 ?c14 ?k14 ?i15 ?a15 ?l15 ?c15 ?k15 ?i16 ?a16 ?l16 ?c16 ?k16 ?a17 ?l17 ?c17 ?k17 ?a18 ?l18 ?c18 ?k18 ?a19 ?l19 ?c19 ?k19 ?a20 ?l20 ?c20 ?k20 ?a21 ?l21 ?c21 ?k21 ?a22 ?l22 ?c22 ?k22 ?a23 ?l23 ?c23 ?k23 ?a24 ?l24 ?c24 ?k24 ?a25 ?l25 ?c25 ?k25 ?a26 ?l26 ?c26 ?k26 ?a27 ?l27 ?c27 ?k27 ?a28 ?l28 ?c28 ?k28 ?a29 ?l29 ?c29 ?k29 ?a30 ?l30 ?c30 ?k30 ?a31 ?l31 ?c31 ?k31 ?a32 ?l32 ?c32 ?k32 ?a33 ?l33 ?c33 ?k33 ?a34 ?l34 ?c34 ?k34 ?a35 ?l35 ?c35 ?k35 ?a36 ?l36 ?c36 ?k36 ?a37 ?l37 ?c37 ?k37 ?z0 ?z1 ?z2 ?z3 ?z4 ?z5 ?z6 ?z7 ?z8 ?z9 ?cst0
    (case nm_Straight => k_is)
    (case pg_Straight => k_is)
    (case hd_Straight => k_is)
    (case po_Straight => k_is)
    (case sa_Straight => k_is)
    (case mk_Straight => k_is)
    (case kc_Straight => k_is)
    (case ha_Straight => k_is)
    (case hn_Straight => k_is)
    (case tk_Straight => k_is)
    (case hm_Straight => k_is)
    (case n_numbers_Straight => k_is)
    (case n_add_Straight => k_is)
    (case n_divisor_Straight => k_is)
    (case nm_Stopped => k_is)
    (case pg_Stopped => k_is)
    (case hd_Stopped => k_is)
    (case po_Stopped => k_is)
    (case sa_Stopped => k_is)
    (case mk_Stopped => k_is)
    (case kc_Stopped => k_is)
    (case ha_Stopped => k_is)
    (case hn_Stopped => k_is)
    (case tk_Stopped => k_is)
    (case hm_Stopped => k_is)
    (case n_rule_Stopped => k_is)
    (case n_low_Stopped => k_is)
    (case n_high_Stopped => k_is)
    (case nm_Parted => k_is)
    (case pg_Parted => k_is)
    (case hd_Parted => k_is)
    (case po_Parted => k_is)
    (case sa_Parted => k_is)
    (case mk_Parted => k_is)
    (case kc_Parted => k_is)
    (case ha_Parted => k_is)
    (case hn_Parted => k_is)
    (case tk_Parted => k_is)
    (case hm_Parted => k_is)
    (case n_row_Parted => k_is)
    (case n_rule_Parted => k_is)
    (case n_other_Parted => k_is)
    (case kt_k21 => first | kit_is | k_is | rfl | decide +kernel)
    (case kt_k31 => first | kit_is | k_is | rfl | decide +kernel)
    (case kt_k12 => first | kit_is | k_is | rfl | decide +kernel)
    (case kt_k32 => first | kit_is | k_is | rfl | decide +kernel)
    (case kt_k13 => first | kit_is | k_is | rfl | decide +kernel)
    (case a0 => k_is)
    (case l0 => k_is)
    (case c0 => k_is)
    (case k0 => k_is)
    (case a1 => k_is)
    (case l1 => k_is)
    (case c1 => k_is)
    (case k1 => k_is)
    (case a2 => k_is)
    (case l2 => k_is)
    (case c2 => k_is)
    (case k2 => k_is)
    (case t2 => k_is)
    (case a3 => k_is)
    (case l3 => k_is)
    (case c3 => k_is)
    (case k3 => k_is)
    (case a4 => k_is)
    (case l4 => k_is)
    (case c4 => k_is)
    (case k4 => k_is)
    (case a5 => k_is)
    (case l5 => k_is)
    (case c5 => k_is)
    (case k5 => k_is)
    (case t5 => k_is)
    (case a6 => k_is)
    (case l6 => k_is)
    (case c6 => k_is)
    (case k6 => k_is)
    (case a7 => k_is)
    (case l7 => k_is)
    (case c7 => k_is)
    (case k7 => k_is)
    (case a8 => k_is)
    (case l8 => k_is)
    (case c8 => k_is)
    (case k8 => k_is)
    (case a9 => k_is)
    (case l9 => k_is)
    (case c9 => k_is)
    (case k9 => k_is)
    (case a10 => k_is)
    (case l10 => k_is)
    (case c10 => k_is)
    (case k10 => k_is)
    (case i11 => k_is)
    (case a11 => k_is)
    (case l11 => k_is)
    (case c11 => k_is)
    (case k11 => k_is)
    (case t11 => k_is)
    (case i12 => k_is)
    (case a12 => k_is)
    (case l12 => k_is)
    (case c12 => k_is)
    (case k12 => k_is)
    (case i13 => k_is)
    (case a13 => k_is)
    (case l13 => k_is)
    (case c13 => k_is)
    (case k13 => k_is)
    (case i14 => k_is)
    (case a14 => k_is)
    (case l14 => k_is)
    (case c14 => k_is)
    (case k14 => k_is)
    (case i15 => k_is)
    (case a15 => k_is)
    (case l15 => k_is)
    (case c15 => k_is)
    (case k15 => k_is)
    (case i16 => k_is)
    (case a16 => k_is)
    (case l16 => k_is)
    (case c16 => k_is)
    (case k16 => k_is)
    (case a17 => k_is)
    (case l17 => k_is)
    (case c17 => k_is)
    (case k17 => k_is)
    (case a18 => k_is)
    (case l18 => k_is)
    (case c18 => k_is)
    (case k18 => k_is)
    (case a19 => k_is)
    (case l19 => k_is)
    (case c19 => k_is)
    (case k19 => k_is)
    (case a20 => k_is)
    (case l20 => k_is)
    (case c20 => k_is)
    (case k20 => k_is)
    (case a21 => k_is)
    (case l21 => k_is)
    (case c21 => k_is)
    (case k21 => k_is)
    (case a22 => k_is)
    (case l22 => k_is)
    (case c22 => k_is)
    (case k22 => k_is)
    (case a23 => k_is)
    (case l23 => k_is)
    (case c23 => k_is)
    (case k23 => k_is)
    (case a24 => k_is)
    (case l24 => k_is)
    (case c24 => k_is)
    (case k24 => k_is)
    (case a25 => k_is)
    (case l25 => k_is)
    (case c25 => k_is)
    (case k25 => k_is)
    (case a26 => k_is)
    (case l26 => k_is)
    (case c26 => k_is)
    (case k26 => k_is)
    (case a27 => k_is)
    (case l27 => k_is)
    (case c27 => k_is)
    (case k27 => k_is)
    (case a28 => k_is)
    (case l28 => k_is)
    (case c28 => k_is)
    (case k28 => k_is)
    (case a29 => k_is)
    (case l29 => k_is)
    (case c29 => k_is)
    (case k29 => k_is)
    (case a30 => k_is)
    (case l30 => k_is)
    (case c30 => k_is)
    (case k30 => k_is)
    (case a31 => k_is)
    (case l31 => k_is)
    (case c31 => k_is)
    (case k31 => k_is)
    (case a32 => k_is)
    (case l32 => k_is)
    (case c32 => k_is)
    (case k32 => k_is)
    (case a33 => k_is)
    (case l33 => k_is)
    (case c33 => k_is)
    (case k33 => k_is)
    (case a34 => k_is)
    (case l34 => k_is)
    (case c34 => k_is)
    (case k34 => k_is)
    (case a35 => k_is)
    (case l35 => k_is)
    (case c35 => k_is)
    (case k35 => k_is)
    (case a36 => k_is)
    (case l36 => k_is)
    (case c36 => k_is)
    (case k36 => k_is)
    (case a37 => k_is)
    (case l37 => k_is)
    (case c37 => k_is)
    (case k37 => k_is)
    (case z0 => k_is)
    (case z1 => k_is)
    (case z2 => k_is)
    (case z3 => k_is)
    (case z4 => k_is)
    (case z5 => k_is)
    (case z6 => k_is)
    (case z7 => k_is)
    (case z8 => k_is)
    (case z9 => k_is)
    (case cst0 => k_is)
#print axioms PySem.Challenge.cw_steadyhand_k23_whole_pieces_cover_holds

