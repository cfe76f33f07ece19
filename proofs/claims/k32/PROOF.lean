import PyProof.Rows.All
import Wide.All
import OpenK.AllK
import Wide.FinOn
import Lean
import PyProof.EqAt
import PyProof.EqKinds
import PyProof.TupleCall
import PyProof.ZipIter
import PyProof.Draws
import PySem.Challenge.RW_steadyhand_k32_modes_of_steered_things
set_option Elab.async false
set_option linter.all false
set_option maxRecDepth 100000
set_option maxHeartbeats 0
namespace TT
open PySem PySem.W
noncomputable def runT (tb : String -> Option Builtin) (p : Program) (w : World) (k : Nat) (an : Option Value) : Nat -> SharedT -> Thread -> Option SharedT
 | 0, _, _ => none
 | j + 1, x, t => match through t with
  | true => some x
  | false => match stepOk k an t with
   | false => none
   | true => match stepT (denote tb) p w x t with
    | none => none
    | some y => runT tb p w k an j y.1 y.2
theorem runT_is {tb : String -> Option Builtin} {p : Program} {w : World} {k : Nat} {an : Option Value} : ∀ (j : Nat) (x y : SharedT) (t : Thread), runT tb p w k an j x t = some y -> topRun tb p w k an j x.abs t = some y.abs
 | 0, _, _, _, e => by cases e
 | j + 1, x, y, t, e => by
  unfold runT at e
  unfold topRun
  cases e1 : through t with
  | true =>
   rw [e1] at e
   cases e
   rfl
  | false =>
   rw [e1] at e
   cases e2 : stepOk k an t with
   | false => rw [e2] at e; cases e
   | true =>
    rw [e2] at e
    cases e3 : stepT (denote tb) p w x t with
    | none => rw [e3] at e; cases e
    | some z =>
     rw [e3] at e
     rw [stepT_spec e3]
     exact runT_is j z.1 y z.2 e
theorem left_is {p q : Program} {lo : List Str} {xt : Shared -> Bool} {α : Type} {Yf : Shared -> α} {Ya : World -> α} {N k n0 : Nat} {an : Option Value} {tr : Params -> BT} (op : ∀ w : World, (fencedOpening treeTable p w N).map (fun s => (s.heap, s.gens, s.drawn, s.toks)) = some (boot_heap w.params, Array.mk [], boot_drawn, boot_toks))
  (et : ∀ P : Params, absHeap (tr P) n0 (boot_heap P).life = boot_heap P) (z1 : ∀ P : Params, (boot_heap P).isNs mainGlobals = true) (z2 : ∀ P : Params, (boot_heap P).objs.size = k) (z3 : ∀ P : Params, (boot_heap P).nsMap mainGlobals "__annotations__" = an)
  (h : ∀ (w : World) (os : OsState), (runT treeTable p w k an N ⟨tr w.params, n0, (boot_heap w.params).life, Array.mk [], boot_drawn, boot_toks, os⟩ (topStub p)).map (fun s => ((staticsOk (importedModules p.main.body) (boot_heap w.params) s.abs.heap && namesBound p s.abs.heap && gensDone s.abs && laidKept (boot_heap w.params) s.abs.heap), openSeen q lo (importedModules p.main.body) xt true s.abs, Yf s.abs)) = some (true, openGood q lo, Ya w)) :
  LeftO p q lo xt Yf Ya N := fun w => by
 obtain ⟨⟨hp, gs, d, tk, os⟩, e, e'⟩ := Option.map_eq_some_iff.mp (op w)
 injection e' with a1 e'
 injection e' with a2 e'
 injection e' with a3 a4
 subst a1 a2 a3 a4
 obtain ⟨y, ey, eo⟩ := Option.map_eq_some_iff.mp (h w os)
 injection eo with l1 eo
 injection eo with l2 l3
 have r := runT_is _ _ _ _ ey
 have r' : topRun treeTable p w k an N ⟨boot_heap w.params, Array.mk [], boot_drawn, boot_toks, os⟩ (topStub p) = some y.abs := by
  rw [<- r]
  unfold SharedT.abs
  rw [et]
 have f : topFrom treeTable p w N ⟨boot_heap w.params, Array.mk [], boot_drawn, boot_toks, os⟩ = some y.abs := by
  unfold topFrom
  show (match (boot_heap w.params).isNs mainGlobals && true with | true => _ | false => _) = _
  rw [z1, z2, z3, r']
  show (match (_ && _ && _ && _) with | true => _ | false => _) = _
  rw [l1]
 unfold openEnds
 rw [e]
 show (topFrom treeTable p w N _).map _ = _
 rw [f]
 exact congrArg some (Prod.ext l2 l3)
end TT
namespace H32
open PySem PySem.W
set_option maxRecDepth 100000
noncomputable def hT (i : Nat) : Stmt := PySem.Challenge.pw_steadyhand_k32_modes_of_steered_things.main.body.getD i (.Pass ⟨0, 0, 0, 0⟩)
noncomputable def hI (i j : Nat) : Stmt := match hT i with
 | .ClassDef _ _ _ b _ _ _ _ _ _ _ => b.getD j (.Pass ⟨0, 0, 0, 0⟩)
 | s => s
noncomputable def hA : Stmt -> Arguments
 | .FunctionDef _ a _ _ _ _ _ _ _ _ => a
 | _ => ⟨[], [], none, [], [], none, []⟩
noncomputable def hB : Stmt -> List Stmt
 | .FunctionDef _ _ b _ _ _ _ _ _ _ => b
 | _ => []
noncomputable def hC : Stmt -> Scope
 | .FunctionDef _ _ _ _ _ _ c _ _ _ => c
 | _ => { kind := .function, names := [], isGenerator := false, isCoroutine := false }
noncomputable abbrev hS (s : String) (n : Nat) : Value := .str (Str.ofString s) n
noncomputable abbrev hE (P : Params) (s : String) (n : Nat) (v : Value) : DictEntry := ⟨PyData.keyHash P (Str.ofString s), hS s n, v⟩
noncomputable abbrev hU (x : Array Value) : Obj := { cls := .type "tuple", data := .seq x }
noncomputable abbrev hD (s : String) (a : Nat) (s2 : String) (b c : Nat) (i j f : Int) (r1 r2 : Nat) (u v t r : Value) (y z : Int) (d : Nat) : Obj := { cls := .type "code", data := .fields #[hS s a, hS s2 b, hS "/claim/cut.py" c, .int i 0, .int j 0, .int 0 0, .int 0 0, .int f 0, .ref r1, .bool true, .int 181 0, .ref r2, u, v, t, r, .int y 0, .int z 0, hS "/claim/cut.py" d] }
noncomputable abbrev hF (n q : String) (s : Stmt) (d k : Value) (m : String) (j c : Nat) : Obj := { cls := .type "function", data := .func { name := n, qualname := q, params := hA s, body := .stmts (hB s), scope := hC s, globals := 3, closure := [], defaults := d, kwdefaults := k, pyModule := hS m j, code := .ref c } }
noncomputable def KK : Params -> Frag := fun P =>
 (nat_lit 2, { cls := .none, data := .dict #[] }) ::
 (nat_lit 3, { cls := .type "dict", data := .dict #[hE P "__name__" 165 (hS "law_steadyhand_k32_modes_of_steered_things" 791), hE P "__doc__" 166 (.none), hE P "__package__" 167 (.none), hE P "__loader__" 168 (.builtin "__main__.__loader__#opaque"), hE P "__spec__" 169 (.none), hE P "__annotations__" 170 (.ref 6), hE P "__builtins__" 171 (.ref 4), hE P "__file__" 173 (hS "/claim/cut.py" 172), hE P "__cached__" 174 (.none), hE P "_wall" 193 (.ref 21), hE P "SteadyError" 213 (.ref 31), hE P "NoNumber" 229 (.ref 44), hE P "BadThing" 245 (.ref 56), hE P "BadRule" 261 (.ref 68), hE P "TooMany" 277 (.ref 80), hE P "is_whole" 286 (.ref 89), hE P "common_divisor" 297 (.ref 96), hE P "fraction" 307 (.ref 104), hE P "under" 315 (.ref 111), hE P "is_numbers" 323 (.ref 116), hE P "is_table" 329 (.ref 121), hE P "copied" 336 (.ref 127), hE P "scaled" 342 (.ref 132), hE P "mixed" 348 (.ref 137), hE P "is_row" 356 (.ref 142), hE P "is_room" 362 (.ref 147), hE P "raw_sum" 374 (.ref 154), hE P "divided_sum" 385 (.ref 161), hE P "holds" 394 (.ref 168), hE P "other_side" 400 (.ref 173), hE P "MOST_PIECES" 404 (.int 60 403), hE P "Rule" 424 (.ref 183), hE P "Straight" 462 (.ref 212), hE P "Stopped" 500 (.ref 238), hE P "Parted" 537 (.ref 264), hE P "is_rule" 545 (.ref 273), hE P "is_straight" 553 (.ref 280), hE P "are_stops" 561 (.ref 287), hE P "piece_count" 568 (.ref 294), hE P "pieces" 576 (.ref 301), hE P "listed" 583 (.ref 308), hE P "parted_pieces" 589 (.ref 313), hE P "stopped_pieces" 595 (.ref 318), hE P "stop_row" 603 (.ref 325), hE P "MOST_NUMBERS" 607 (.int 3 606), hE P "MOST_PUSHES" 609 (.int 6 608), hE P "MOST_MODES" 611 (.int 40 610), hE P "Mode" 650 (.ref 342), hE P "Thing" 710 (.ref 389), hE P "is_sound" 716 (.ref 398), hE P "is_push" 723 (.ref 405), hE P "is_mode" 732 (.ref 412), hE P "is_unsteered" 738 (.ref 417), hE P "steered" 753 (.ref 424), hE P "steered_mode" 759 (.ref 429), hE P "rounded" 765 (.ref 434), hE P "rounded_mode" 771 (.ref 439), hE P "late" 784 (.ref 446), hE P "late_mode" 790 (.ref 451), hE P "_law_cell_at" 800 (.ref 458), hE P "_law_stream" 812 (.ref 465), hE P "_law_number" 819 (.ref 472), hE P "_law_parts" 825 (.ref 477), hE P "_law_straight" 831 (.ref 482), hE P "_law_rule" 837 (.ref 487), hE P "_law_scaled" 843 (.ref 492), hE P "_law_put" 849 (.ref 497), hE P "_law_put_late" 855 (.ref 502), hE P "_law_told" 864 (.ref 509), hE P "_law_right" 874 (.ref 516), hE P "law" 880 (.ref 521)] 71 }) ::
 (nat_lit 15, hU #[]) ::
 (nat_lit 17, hU #[hS "k" 190]) ::
 (nat_lit 18, hU #[]) ::
 (nat_lit 20, hD "_wall" 187 "_wall" 188 189 1 1 3 15 16 .none (.ref 17) (.ref 18) (.ref 19) 191 1 192) ::
 (nat_lit 21, hF "_wall" "_wall" (hT 0) .none .none "__main__" 164 20) ::
 (nat_lit 22, hU #[.type "ValueError"]) ::
 (nat_lit 29, hU #[]) ::
 (nat_lit 30, { cls := .type "dict", data := .dict #[hE P "__module__" 203 (hS "steadyhand.errors" 194), hE P "__firstlineno__" 207 (.int 5 206), hE P "__static_attributes__" 208 (.ref 29), hE P "__weakref__" 210 (.ref 32), hE P "__doc__" 211 (.none)] 3 }) ::
 (nat_lit 31, { cls := .type "type", data := .cls { name := "SteadyError", bases := [.type "ValueError"], mro := [.ref 31, .type "ValueError", .type "Exception", .type "BaseException", .type "object"], ns := 30, qualname := "SteadyError", subclasses := [.ref 44, .ref 56, .ref 68, .ref 80] }, slots := #[some (.ref 22), none, some (hS "SteadyError" 196), some (hS "SteadyError" 204), some (.builtin "ValueError.__new__"), some (.bool true)] }) ::
 (nat_lit 32, { cls := .type "getset_descriptor", data := .fields #[hS "__weakref__" 209, .ref 31, .builtin "ExceptionGroup.__weakref__", .none] }) ::
 (nat_lit 35, hU #[.ref 31]) ::
 (nat_lit 42, hU #[]) ::
 (nat_lit 43, { cls := .type "dict", data := .dict #[hE P "__module__" 221 (hS "steadyhand.errors" 194), hE P "__firstlineno__" 225 (.int 7 224), hE P "__static_attributes__" 226 (.ref 42), hE P "__doc__" 227 (.none)] 2 }) ::
 (nat_lit 44, { cls := .type "type", data := .cls { name := "NoNumber", bases := [.ref 31], mro := [.ref 44, .ref 31, .type "ValueError", .type "Exception", .type "BaseException", .type "object"], ns := 43, qualname := "NoNumber" }, slots := #[some (.ref 35), none, some (hS "NoNumber" 214), some (hS "NoNumber" 222), some (.builtin "ValueError.__new__"), some (.bool true)] }) ::
 (nat_lit 47, hU #[.ref 31]) ::
 (nat_lit 54, hU #[]) ::
 (nat_lit 55, { cls := .type "dict", data := .dict #[hE P "__module__" 237 (hS "steadyhand.errors" 194), hE P "__firstlineno__" 241 (.int 9 240), hE P "__static_attributes__" 242 (.ref 54), hE P "__doc__" 243 (.none)] 2 }) ::
 (nat_lit 56, { cls := .type "type", data := .cls { name := "BadThing", bases := [.ref 31], mro := [.ref 56, .ref 31, .type "ValueError", .type "Exception", .type "BaseException", .type "object"], ns := 55, qualname := "BadThing" }, slots := #[some (.ref 47), none, some (hS "BadThing" 230), some (hS "BadThing" 238), some (.builtin "ValueError.__new__"), some (.bool true)] }) ::
 (nat_lit 59, hU #[.ref 31]) ::
 (nat_lit 66, hU #[]) ::
 (nat_lit 67, { cls := .type "dict", data := .dict #[hE P "__module__" 253 (hS "steadyhand.errors" 194), hE P "__firstlineno__" 257 (.int 11 256), hE P "__static_attributes__" 258 (.ref 66), hE P "__doc__" 259 (.none)] 2 }) ::
 (nat_lit 68, { cls := .type "type", data := .cls { name := "BadRule", bases := [.ref 31], mro := [.ref 68, .ref 31, .type "ValueError", .type "Exception", .type "BaseException", .type "object"], ns := 67, qualname := "BadRule" }, slots := #[some (.ref 59), none, some (hS "BadRule" 246), some (hS "BadRule" 254), some (.builtin "ValueError.__new__"), some (.bool true)] }) ::
 (nat_lit 71, hU #[.ref 31]) ::
 (nat_lit 78, hU #[]) ::
 (nat_lit 79, { cls := .type "dict", data := .dict #[hE P "__module__" 269 (hS "steadyhand.errors" 194), hE P "__firstlineno__" 273 (.int 13 272), hE P "__static_attributes__" 274 (.ref 78), hE P "__doc__" 275 (.none)] 2 }) ::
 (nat_lit 80, { cls := .type "type", data := .cls { name := "TooMany", bases := [.ref 31], mro := [.ref 80, .ref 31, .type "ValueError", .type "Exception", .type "BaseException", .type "object"], ns := 79, qualname := "TooMany" }, slots := #[some (.ref 71), none, some (hS "TooMany" 262), some (hS "TooMany" 270), some (.builtin "ValueError.__new__"), some (.bool true)] }) ::
 (nat_lit 83, hU #[]) ::
 (nat_lit 85, hU #[hS "thing" 283]) ::
 (nat_lit 86, hU #[]) ::
 (nat_lit 88, hD "is_whole" 280 "is_whole" 281 282 16 1 3 83 84 .none (.ref 85) (.ref 86) (.ref 87) 284 16 285) ::
 (nat_lit 89, hF "is_whole" "is_whole" (hT 8) .none .none "steadyhand.fractions" 278 88) ::
 (nat_lit 90, hU #[]) ::
 (nat_lit 92, hU #[hS "numbers" 290, hS "common" 291, hS "number" 292, hS "rest" 293, hS "left" 294]) ::
 (nat_lit 93, hU #[]) ::
 (nat_lit 95, hD "common_divisor" 287 "common_divisor" 288 289 18 1 3 90 91 .none (.ref 92) (.ref 93) (.ref 94) 295 18 296) ::
 (nat_lit 96, hF "common_divisor" "common_divisor" (hT 9) .none .none "steadyhand.fractions" 278 95) ::
 (nat_lit 97, hU #[.int 1 298]) ::
 (nat_lit 98, hU #[]) ::
 (nat_lit 100, hU #[hS "top" 302, hS "bottom" 303, hS "common" 304]) ::
 (nat_lit 101, hU #[]) ::
 (nat_lit 103, hD "fraction" 299 "fraction" 300 301 27 2 3 98 99 .none (.ref 100) (.ref 101) (.ref 102) 305 27 306) ::
 (nat_lit 104, hF "fraction" "fraction" (hT 10) (.ref 97) .none "steadyhand.fractions" 278 103) ::
 (nat_lit 105, hU #[]) ::
 (nat_lit 107, hU #[hS "one" 311, hS "other" 312]) ::
 (nat_lit 108, hU #[]) ::
 (nat_lit 110, hD "under" 308 "under" 309 310 36 2 3 105 106 .none (.ref 107) (.ref 108) (.ref 109) 313 36 314) ::
 (nat_lit 111, hF "under" "under" (hT 11) .none .none "steadyhand.fractions" 278 110) ::
 (nat_lit 112, hU #[]) ::
 (nat_lit 115, hD "is_numbers" 318 "is_numbers" 319 320 39 2 3 112 113 .none .none .none (.ref 114) 321 39 322) ::
 (nat_lit 116, hF "is_numbers" "is_numbers" (hT 13) .none .none "steadyhand.tables" 316 115) ::
 (nat_lit 117, hU #[]) ::
 (nat_lit 120, hD "is_table" 324 "is_table" 325 326 41 3 3 117 118 .none .none .none (.ref 119) 327 41 328) ::
 (nat_lit 121, hF "is_table" "is_table" (hT 14) .none .none "steadyhand.tables" 316 120) ::
 (nat_lit 122, hU #[.int 5 330]) ::
 (nat_lit 123, hU #[]) ::
 (nat_lit 126, hD "copied" 331 "copied" 332 333 43 2 3 123 124 .none .none .none (.ref 125) 334 43 335) ::
 (nat_lit 127, hF "copied" "copied" (hT 15) (.ref 122) .none "steadyhand.tables" 316 126) ::
 (nat_lit 128, hU #[]) ::
 (nat_lit 131, hD "scaled" 337 "scaled" 338 339 51 2 3 128 129 .none .none .none (.ref 130) 340 51 341) ::
 (nat_lit 132, hF "scaled" "scaled" (hT 16) .none .none "steadyhand.tables" 316 131) ::
 (nat_lit 133, hU #[]) ::
 (nat_lit 136, hD "mixed" 343 "mixed" 344 345 53 4 3 133 134 .none .none .none (.ref 135) 346 53 347) ::
 (nat_lit 137, hF "mixed" "mixed" (hT 17) .none .none "steadyhand.tables" 316 136) ::
 (nat_lit 138, hU #[]) ::
 (nat_lit 141, hD "is_row" 351 "is_row" 352 353 56 2 3 138 139 .none .none .none (.ref 140) 354 56 355) ::
 (nat_lit 142, hF "is_row" "is_row" (hT 19) .none .none "steadyhand.rows" 349 141) ::
 (nat_lit 143, hU #[]) ::
 (nat_lit 146, hD "is_room" 357 "is_room" 358 359 58 2 3 143 144 .none .none .none (.ref 145) 360 58 361) ::
 (nat_lit 147, hF "is_room" "is_room" (hT 20) .none .none "steadyhand.rows" 349 146) ::
 (nat_lit 148, hU #[]) ::
 (nat_lit 150, hU #[hS "numbers" 366, hS "point" 367, hS "top" 368, hS "bottom" 369, hS "number" 370, hS "part" 371]) ::
 (nat_lit 151, hU #[]) ::
 (nat_lit 153, hD "raw_sum" 363 "raw_sum" 364 365 60 2 3 148 149 .none (.ref 150) (.ref 151) (.ref 152) 372 60 373) ::
 (nat_lit 154, hF "raw_sum" "raw_sum" (hT 21) .none .none "steadyhand.rows" 349 153) ::
 (nat_lit 155, hU #[]) ::
 (nat_lit 157, hU #[hS "numbers" 378, hS "point" 379, hS "add" 380, hS "divisor" 381, hS "total" 382]) ::
 (nat_lit 158, hU #[]) ::
 (nat_lit 160, hD "divided_sum" 375 "divided_sum" 376 377 67 4 3 155 156 .none (.ref 157) (.ref 158) (.ref 159) 383 67 384) ::
 (nat_lit 161, hF "divided_sum" "divided_sum" (hT 22) .none .none "steadyhand.rows" 349 160) ::
 (nat_lit 162, hU #[]) ::
 (nat_lit 164, hU #[hS "row" 389, hS "point" 390, hS "total" 391]) ::
 (nat_lit 165, hU #[]) ::
 (nat_lit 167, hD "holds" 386 "holds" 387 388 70 2 3 162 163 .none (.ref 164) (.ref 165) (.ref 166) 392 70 393) ::
 (nat_lit 168, hF "holds" "holds" (hT 23) .none .none "steadyhand.rows" 349 167) ::
 (nat_lit 169, hU #[]) ::
 (nat_lit 172, hD "other_side" 395 "other_side" 396 397 73 1 3 169 170 .none .none .none (.ref 171) 398 73 399) ::
 (nat_lit 173, hF "other_side" "other_side" (hT 24) .none .none "steadyhand.rows" 349 172) ::
 (nat_lit 181, hU #[]) ::
 (nat_lit 182, { cls := .type "dict", data := .dict #[hE P "__module__" 412 (hS "steadyhand.rules" 401), hE P "__firstlineno__" 416 (.int 77 415), hE P "__static_attributes__" 417 (.ref 181), hE P "__dict__" 419 (.ref 184), hE P "__weakref__" 421 (.ref 185), hE P "__doc__" 422 (.none)] 4 }) ::
 (nat_lit 183, { cls := .type "type", data := .cls { name := "Rule", bases := [.type "object"], mro := [.ref 183, .type "object"], ns := 182, qualname := "Rule", subclasses := [.ref 212, .ref 238, .ref 264] }, slots := #[none, none, some (hS "Rule" 405), some (hS "Rule" 413), some (.builtin "object.__new__"), some (.bool true)] }) ::
 (nat_lit 184, { cls := .type "getset_descriptor", data := .fields #[hS "__dict__" 418, .ref 183, .builtin "function.__dict__", .builtin "function.__dict__#set"] }) ::
 (nat_lit 185, { cls := .type "getset_descriptor", data := .fields #[hS "__weakref__" 420, .ref 183, .builtin "ExceptionGroup.__weakref__", .none] }) ::
 (nat_lit 188, hU #[.ref 183]) ::
 (nat_lit 195, hU #[.int 1 437]) ::
 (nat_lit 196, hU #[]) ::
 (nat_lit 198, hU #[hS "self" 441, hS "numbers" 442, hS "add" 443, hS "divisor" 444]) ::
 (nat_lit 199, hU #[]) ::
 (nat_lit 201, hD "__init__" 438 "Straight.__init__" 439 440 81 4 3 196 197 .none (.ref 198) (.ref 199) (.ref 200) 445 81 446) ::
 (nat_lit 202, hF "__init__" "Straight.__init__" (hI 28 0) (.ref 195) .none "steadyhand.rules" 401 201) ::
 (nat_lit 203, hU #[]) ::
 (nat_lit 205, hU #[hS "self" 451, hS "point" 452]) ::
 (nat_lit 206, hU #[]) ::
 (nat_lit 208, hD "steering" 448 "Straight.steering" 449 450 86 2 3 203 204 .none (.ref 205) (.ref 206) (.ref 207) 453 86 454) ::
 (nat_lit 209, hF "steering" "Straight.steering" (hI 28 1) .none .none "steadyhand.rules" 401 208) ::
 (nat_lit 210, hU #[hS "add" 456, hS "divisor" 457, hS "numbers" 458]) ::
 (nat_lit 211, { cls := .type "dict", data := .dict #[hE P "__module__" 432 (hS "steadyhand.rules" 401), hE P "__firstlineno__" 436 (.int 79 435), hE P "__init__" 447 (.ref 202), hE P "steering" 455 (.ref 209), hE P "__static_attributes__" 459 (.ref 210), hE P "__doc__" 460 (.none)] 2 }) ::
 (nat_lit 212, { cls := .type "type", data := .cls { name := "Straight", bases := [.ref 183], mro := [.ref 212, .ref 183, .type "object"], ns := 211, qualname := "Straight" }, slots := #[some (.ref 188), none, some (hS "Straight" 425), some (hS "Straight" 433), some (.builtin "object.__new__"), some (.bool true)] }) ::
 (nat_lit 215, hU #[.ref 183]) ::
 (nat_lit 222, hU #[]) ::
 (nat_lit 224, hU #[hS "self" 478, hS "rule" 479, hS "low" 480, hS "high" 481]) ::
 (nat_lit 225, hU #[]) ::
 (nat_lit 227, hD "__init__" 475 "Stopped.__init__" 476 477 90 4 3 222 223 .none (.ref 224) (.ref 225) (.ref 226) 482 90 483) ::
 (nat_lit 228, hF "__init__" "Stopped.__init__" (hI 29 0) .none .none "steadyhand.rules" 401 227) ::
 (nat_lit 229, hU #[]) ::
 (nat_lit 231, hU #[hS "self" 488, hS "point" 489, hS "value" 490]) ::
 (nat_lit 232, hU #[]) ::
 (nat_lit 234, hD "steering" 485 "Stopped.steering" 486 487 95 2 3 229 230 .none (.ref 231) (.ref 232) (.ref 233) 491 95 492) ::
 (nat_lit 235, hF "steering" "Stopped.steering" (hI 29 1) .none .none "steadyhand.rules" 401 234) ::
 (nat_lit 236, hU #[hS "high" 494, hS "low" 495, hS "rule" 496]) ::
 (nat_lit 237, { cls := .type "dict", data := .dict #[hE P "__module__" 470 (hS "steadyhand.rules" 401), hE P "__firstlineno__" 474 (.int 88 473), hE P "__init__" 484 (.ref 228), hE P "steering" 493 (.ref 235), hE P "__static_attributes__" 497 (.ref 236), hE P "__doc__" 498 (.none)] 2 }) ::
 (nat_lit 238, { cls := .type "type", data := .cls { name := "Stopped", bases := [.ref 183], mro := [.ref 238, .ref 183, .type "object"], ns := 237, qualname := "Stopped" }, slots := #[some (.ref 215), none, some (hS "Stopped" 463), some (hS "Stopped" 471), some (.builtin "object.__new__"), some (.bool true)] }) ::
 (nat_lit 241, hU #[.ref 183]) ::
 (nat_lit 248, hU #[]) ::
 (nat_lit 250, hU #[hS "self" 516, hS "row" 517, hS "rule" 518, hS "other" 519]) ::
 (nat_lit 251, hU #[]) ::
 (nat_lit 253, hD "__init__" 513 "Parted.__init__" 514 515 104 4 3 248 249 .none (.ref 250) (.ref 251) (.ref 252) 520 104 521) ::
 (nat_lit 254, hF "__init__" "Parted.__init__" (hI 30 0) .none .none "steadyhand.rules" 401 253) ::
 (nat_lit 255, hU #[]) ::
 (nat_lit 257, hU #[hS "self" 526, hS "point" 527]) ::
 (nat_lit 258, hU #[]) ::
 (nat_lit 260, hD "steering" 523 "Parted.steering" 524 525 109 2 3 255 256 .none (.ref 257) (.ref 258) (.ref 259) 528 109 529) ::
 (nat_lit 261, hF "steering" "Parted.steering" (hI 30 1) .none .none "steadyhand.rules" 401 260) ::
 (nat_lit 262, hU #[hS "other" 531, hS "row" 532, hS "rule" 533]) ::
 (nat_lit 263, { cls := .type "dict", data := .dict #[hE P "__module__" 508 (hS "steadyhand.rules" 401), hE P "__firstlineno__" 512 (.int 102 511), hE P "__init__" 522 (.ref 254), hE P "steering" 530 (.ref 261), hE P "__static_attributes__" 534 (.ref 262), hE P "__doc__" 535 (.none)] 2 }) ::
 (nat_lit 264, { cls := .type "type", data := .cls { name := "Parted", bases := [.ref 183], mro := [.ref 264, .ref 183, .type "object"], ns := 263, qualname := "Parted" }, slots := #[some (.ref 241), none, some (hS "Parted" 501), some (hS "Parted" 509), some (.builtin "object.__new__"), some (.bool true)] }) ::
 (nat_lit 267, hU #[]) ::
 (nat_lit 269, hU #[hS "value" 541, hS "many" 542]) ::
 (nat_lit 270, hU #[]) ::
 (nat_lit 272, hD "is_rule" 538 "is_rule" 539 540 113 2 3 267 268 .none (.ref 269) (.ref 270) (.ref 271) 543 113 544) ::
 (nat_lit 273, hF "is_rule" "is_rule" (hT 31) .none .none "steadyhand.rules" 401 272) ::
 (nat_lit 274, hU #[]) ::
 (nat_lit 276, hU #[hS "value" 549, hS "many" 550]) ::
 (nat_lit 277, hU #[]) ::
 (nat_lit 279, hD "is_straight" 546 "is_straight" 547 548 121 2 3 274 275 .none (.ref 276) (.ref 277) (.ref 278) 551 121 552) ::
 (nat_lit 280, hF "is_straight" "is_straight" (hT 32) .none .none "steadyhand.rules" 401 279) ::
 (nat_lit 281, hU #[]) ::
 (nat_lit 283, hU #[hS "low" 557, hS "high" 558]) ::
 (nat_lit 284, hU #[]) ::
 (nat_lit 286, hD "are_stops" 554 "are_stops" 555 556 125 2 3 281 282 .none (.ref 283) (.ref 284) (.ref 285) 559 125 560) ::
 (nat_lit 287, hF "are_stops" "are_stops" (hT 33) .none .none "steadyhand.rules" 401 286) ::
 (nat_lit 288, hU #[]) ::
 (nat_lit 290, hU #[hS "rule" 565]) ::
 (nat_lit 291, hU #[]) ::
 (nat_lit 293, hD "piece_count" 562 "piece_count" 563 564 127 1 3 288 289 .none (.ref 290) (.ref 291) (.ref 292) 566 127 567) ::
 (nat_lit 294, hF "piece_count" "piece_count" (hT 34) .none .none "steadyhand.rules" 401 293) ::
 (nat_lit 295, hU #[]) ::
 (nat_lit 297, hU #[hS "rule" 572, hS "many" 573]) ::
 (nat_lit 298, hU #[]) ::
 (nat_lit 300, hD "pieces" 569 "pieces" 570 571 133 2 3 295 296 .none (.ref 297) (.ref 298) (.ref 299) 574 133 575) ::
 (nat_lit 301, hF "pieces" "pieces" (hT 35) .none .none "steadyhand.rules" 401 300) ::
 (nat_lit 302, hU #[]) ::
 (nat_lit 304, hU #[hS "rule" 580]) ::
 (nat_lit 305, hU #[]) ::
 (nat_lit 307, hD "listed" 577 "listed" 578 579 139 1 3 302 303 .none (.ref 304) (.ref 305) (.ref 306) 581 139 582) ::
 (nat_lit 308, hF "listed" "listed" (hT 36) .none .none "steadyhand.rules" 401 307) ::
 (nat_lit 309, hU #[]) ::
 (nat_lit 312, hD "parted_pieces" 584 "parted_pieces" 585 586 145 1 3 309 310 .none .none .none (.ref 311) 587 145 588) ::
 (nat_lit 313, hF "parted_pieces" "parted_pieces" (hT 37) .none .none "steadyhand.rules" 401 312) ::
 (nat_lit 314, hU #[]) ::
 (nat_lit 317, hD "stopped_pieces" 590 "stopped_pieces" 591 592 150 1 3 314 315 .none .none .none (.ref 316) 593 150 594) ::
 (nat_lit 318, hF "stopped_pieces" "stopped_pieces" (hT 38) .none .none "steadyhand.rules" 401 317) ::
 (nat_lit 319, hU #[]) ::
 (nat_lit 321, hU #[hS "straight" 599, hS "stop" 600]) ::
 (nat_lit 322, hU #[]) ::
 (nat_lit 324, hD "stop_row" 596 "stop_row" 597 598 160 2 3 319 320 .none (.ref 321) (.ref 322) (.ref 323) 601 160 602) ::
 (nat_lit 325, hF "stop_row" "stop_row" (hT 39) .none .none "steadyhand.rules" 401 324) ::
 (nat_lit 333, hU #[]) ::
 (nat_lit 335, hU #[hS "self" 627, hS "rows" 628, hS "nexts" 629, hS "steer" 630, hS "push" 631, hS "add" 632, hS "divisor" 633]) ::
 (nat_lit 336, hU #[]) ::
 (nat_lit 338, hD "__init__" 624 "Mode.__init__" 625 626 168 7 3 333 334 .none (.ref 335) (.ref 336) (.ref 337) 634 168 635) ::
 (nat_lit 339, hF "__init__" "Mode.__init__" (hI 44 0) .none .none "steadyhand.things" 604 338) ::
 (nat_lit 340, hU #[hS "add" 637, hS "divisor" 638, hS "nexts" 639, hS "push" 640, hS "rows" 641, hS "steer" 642]) ::
 (nat_lit 341, { cls := .type "dict", data := .dict #[hE P "__module__" 619 (hS "steadyhand.things" 604), hE P "__firstlineno__" 623 (.int 166 622), hE P "__init__" 636 (.ref 339), hE P "__static_attributes__" 643 (.ref 340), hE P "__dict__" 645 (.ref 343), hE P "__weakref__" 647 (.ref 344), hE P "__doc__" 648 (.none)] 4 }) ::
 (nat_lit 342, { cls := .type "type", data := .cls { name := "Mode", bases := [.type "object"], mro := [.ref 342, .type "object"], ns := 341, qualname := "Mode" }, slots := #[none, none, some (hS "Mode" 612), some (hS "Mode" 620), some (.builtin "object.__new__"), some (.bool true)] }) ::
 (nat_lit 343, { cls := .type "getset_descriptor", data := .fields #[hS "__dict__" 644, .ref 342, .builtin "function.__dict__", .builtin "function.__dict__#set"] }) ::
 (nat_lit 344, { cls := .type "getset_descriptor", data := .fields #[hS "__weakref__" 646, .ref 342, .builtin "ExceptionGroup.__weakref__", .none] }) ::
 (nat_lit 354, hU #[]) ::
 (nat_lit 356, hU #[hS "self" 666, hS "many" 667, hS "pushes" 668, hS "modes" 669]) ::
 (nat_lit 357, hU #[]) ::
 (nat_lit 359, hD "__init__" 663 "Thing.__init__" 664 665 177 4 3 354 355 .none (.ref 356) (.ref 357) (.ref 358) 670 177 671) ::
 (nat_lit 360, hF "__init__" "Thing.__init__" (hI 45 0) .none .none "steadyhand.things" 604 359) ::
 (nat_lit 361, hU #[]) ::
 (nat_lit 363, hU #[hS "self" 676]) ::
 (nat_lit 364, hU #[]) ::
 (nat_lit 366, hD "pushes" 673 "Thing.pushes" 674 675 186 1 3 361 362 .none (.ref 363) (.ref 364) (.ref 365) 677 186 678) ::
 (nat_lit 367, hF "pushes" "Thing.pushes" (hI 45 1) .none .none "steadyhand.things" 604 366) ::
 (nat_lit 368, hU #[]) ::
 (nat_lit 370, hU #[hS "self" 683]) ::
 (nat_lit 371, hU #[]) ::
 (nat_lit 373, hD "modes" 680 "Thing.modes" 681 682 189 1 3 368 369 .none (.ref 370) (.ref 371) (.ref 372) 684 189 685) ::
 (nat_lit 374, hF "modes" "Thing.modes" (hI 45 2) .none .none "steadyhand.things" 604 373) ::
 (nat_lit 375, hU #[]) ::
 (nat_lit 378, hD "is_closed" 687 "Thing.is_closed" 688 689 192 1 3 375 376 .none .none .none (.ref 377) 690 192 691) ::
 (nat_lit 379, hF "is_closed" "Thing.is_closed" (hI 45 3) .none .none "steadyhand.things" 604 378) ::
 (nat_lit 380, hU #[]) ::
 (nat_lit 382, hU #[hS "self" 696]) ::
 (nat_lit 383, hU #[]) ::
 (nat_lit 385, hD "is_plain" 693 "Thing.is_plain" 694 695 195 1 3 380 381 .none (.ref 382) (.ref 383) (.ref 384) 697 195 698) ::
 (nat_lit 386, hF "is_plain" "Thing.is_plain" (hI 45 4) .none .none "steadyhand.things" 604 385) ::
 (nat_lit 387, hU #[hS "kept_modes" 700, hS "kept_pushes" 701, hS "many" 702]) ::
 (nat_lit 388, { cls := .type "dict", data := .dict #[hE P "__module__" 658 (hS "steadyhand.things" 604), hE P "__firstlineno__" 662 (.int 175 661), hE P "__init__" 672 (.ref 360), hE P "pushes" 679 (.ref 367), hE P "modes" 686 (.ref 374), hE P "is_closed" 692 (.ref 379), hE P "is_plain" 699 (.ref 386), hE P "__static_attributes__" 703 (.ref 387), hE P "__dict__" 705 (.ref 390), hE P "__weakref__" 707 (.ref 391), hE P "__doc__" 708 (.none)] 4 }) ::
 (nat_lit 389, { cls := .type "type", data := .cls { name := "Thing", bases := [.type "object"], mro := [.ref 389, .type "object"], ns := 388, qualname := "Thing" }, slots := #[none, none, some (hS "Thing" 651), some (hS "Thing" 659), some (.builtin "object.__new__"), some (.bool true)] }) ::
 (nat_lit 390, { cls := .type "getset_descriptor", data := .fields #[hS "__dict__" 704, .ref 389, .builtin "function.__dict__", .builtin "function.__dict__#set"] }) ::
 (nat_lit 391, { cls := .type "getset_descriptor", data := .fields #[hS "__weakref__" 706, .ref 389, .builtin "ExceptionGroup.__weakref__", .none] }) ::
 (nat_lit 394, hU #[]) ::
 (nat_lit 397, hD "is_sound" 711 "is_sound" 712 713 197 3 3 394 395 .none .none .none (.ref 396) 714 197 715) ::
 (nat_lit 398, hF "is_sound" "is_sound" (hT 46) .none .none "steadyhand.things" 604 397) ::
 (nat_lit 399, hU #[]) ::
 (nat_lit 401, hU #[hS "value" 720]) ::
 (nat_lit 402, hU #[]) ::
 (nat_lit 404, hD "is_push" 717 "is_push" 718 719 205 1 3 399 400 .none (.ref 401) (.ref 402) (.ref 403) 721 205 722) ::
 (nat_lit 405, hF "is_push" "is_push" (hT 47) .none .none "steadyhand.things" 604 404) ::
 (nat_lit 406, hU #[]) ::
 (nat_lit 408, hU #[hS "value" 727, hS "many" 728, hS "wide" 729]) ::
 (nat_lit 409, hU #[]) ::
 (nat_lit 411, hD "is_mode" 724 "is_mode" 725 726 209 3 3 406 407 .none (.ref 408) (.ref 409) (.ref 410) 730 209 731) ::
 (nat_lit 412, hF "is_mode" "is_mode" (hT 48) .none .none "steadyhand.things" 604 411) ::
 (nat_lit 413, hU #[]) ::
 (nat_lit 416, hD "is_unsteered" 733 "is_unsteered" 734 735 217 1 3 413 414 .none .none .none (.ref 415) 736 217 737) ::
 (nat_lit 417, hF "is_unsteered" "is_unsteered" (hT 49) .none .none "steadyhand.things" 604 416) ::
 (nat_lit 418, hU #[]) ::
 (nat_lit 420, hU #[hS "thing" 744, hS "rule" 745, hS "parts" 746, hS "modes" 747, hS "mode" 748, hS "rows" 749, hS "straight" 750]) ::
 (nat_lit 421, hU #[]) ::
 (nat_lit 423, hD "steered" 741 "steered" 742 743 220 2 3 418 419 .none (.ref 420) (.ref 421) (.ref 422) 751 220 752) ::
 (nat_lit 424, hF "steered" "steered" (hT 51) .none .none "steadyhand.steering" 739 423) ::
 (nat_lit 425, hU #[]) ::
 (nat_lit 428, hD "steered_mode" 754 "steered_mode" 755 756 227 3 3 425 426 .none .none .none (.ref 427) 757 227 758) ::
 (nat_lit 429, hF "steered_mode" "steered_mode" (hT 52) .none .none "steadyhand.steering" 739 428) ::
 (nat_lit 430, hU #[]) ::
 (nat_lit 433, hD "rounded" 760 "rounded" 761 762 230 3 3 430 431 .none .none .none (.ref 432) 763 230 764) ::
 (nat_lit 434, hF "rounded" "rounded" (hT 53) .none .none "steadyhand.steering" 739 433) ::
 (nat_lit 435, hU #[]) ::
 (nat_lit 438, hD "rounded_mode" 766 "rounded_mode" 767 768 238 2 3 435 436 .none .none .none (.ref 437) 769 238 770) ::
 (nat_lit 439, hF "rounded_mode" "rounded_mode" (hT 54) .none .none "steadyhand.steering" 739 438) ::
 (nat_lit 440, hU #[]) ::
 (nat_lit 442, hU #[hS "thing" 775, hS "rule" 776, hS "parts" 777, hS "modes" 778, hS "mode" 779, hS "rows" 780, hS "straight" 781]) ::
 (nat_lit 443, hU #[]) ::
 (nat_lit 445, hD "late" 772 "late" 773 774 242 2 3 440 441 .none (.ref 442) (.ref 443) (.ref 444) 782 242 783) ::
 (nat_lit 446, hF "late" "late" (hT 55) .none .none "steadyhand.steering" 739 445) ::
 (nat_lit 447, hU #[]) ::
 (nat_lit 450, hD "late_mode" 785 "late_mode" 786 787 251 3 3 447 448 .none .none .none (.ref 449) 788 251 789) ::
 (nat_lit 451, hF "late_mode" "late_mode" (hT 56) .none .none "steadyhand.steering" 739 450) ::
 (nat_lit 452, hU #[]) ::
 (nat_lit 454, hU #[hS "_law_script" 796, hS "_law_k" 797]) ::
 (nat_lit 455, hU #[]) ::
 (nat_lit 457, hD "_law_cell_at" 793 "_law_cell_at" 794 795 257 2 3 452 453 .none (.ref 454) (.ref 455) (.ref 456) 798 257 799) ::
 (nat_lit 458, hF "_law_cell_at" "_law_cell_at" (hT 58) .none .none "law_steadyhand_k32_modes_of_steered_things" 791 457) ::
 (nat_lit 459, hU #[]) ::
 (nat_lit 461, hU #[hS "_law_cell" 804, hS "_law_many" 805, hS "_law_found" 806, hS "_law_rest" 807, hS "_law_k" 808, hS "_law_number_here" 809]) ::
 (nat_lit 462, hU #[]) ::
 (nat_lit 464, hD "_law_stream" 801 "_law_stream" 802 803 261 2 3 459 460 .none (.ref 461) (.ref 462) (.ref 463) 810 261 811) ::
 (nat_lit 465, hF "_law_stream" "_law_stream" (hT 59) .none .none "law_steadyhand_k32_modes_of_steered_things" 791 464) ::
 (nat_lit 466, hU #[]) ::
 (nat_lit 468, hU #[hS "_law_number_here" 816]) ::
 (nat_lit 469, hU #[]) ::
 (nat_lit 471, hD "_law_number" 813 "_law_number" 814 815 274 1 3 466 467 .none (.ref 468) (.ref 469) (.ref 470) 817 274 818) ::
 (nat_lit 472, hF "_law_number" "_law_number" (hT 60) .none .none "law_steadyhand_k32_modes_of_steered_things" 791 471) ::
 (nat_lit 473, hU #[]) ::
 (nat_lit 476, hD "_law_parts" 820 "_law_parts" 821 822 278 3 3 473 474 .none .none .none (.ref 475) 823 278 824) ::
 (nat_lit 477, hF "_law_parts" "_law_parts" (hT 61) .none .none "law_steadyhand_k32_modes_of_steered_things" 791 476) ::
 (nat_lit 478, hU #[]) ::
 (nat_lit 481, hD "_law_straight" 826 "_law_straight" 827 828 285 2 3 478 479 .none .none .none (.ref 480) 829 285 830) ::
 (nat_lit 482, hF "_law_straight" "_law_straight" (hT 62) .none .none "law_steadyhand_k32_modes_of_steered_things" 791 481) ::
 (nat_lit 483, hU #[]) ::
 (nat_lit 486, hD "_law_rule" 832 "_law_rule" 833 834 288 2 3 483 484 .none .none .none (.ref 485) 835 288 836) ::
 (nat_lit 487, hF "_law_rule" "_law_rule" (hT 63) .none .none "law_steadyhand_k32_modes_of_steered_things" 791 486) ::
 (nat_lit 488, hU #[]) ::
 (nat_lit 491, hD "_law_scaled" 838 "_law_scaled" 839 840 299 2 3 488 489 .none .none .none (.ref 490) 841 299 842) ::
 (nat_lit 492, hF "_law_scaled" "_law_scaled" (hT 64) .none .none "law_steadyhand_k32_modes_of_steered_things" 791 491) ::
 (nat_lit 493, hU #[]) ::
 (nat_lit 496, hD "_law_put" 844 "_law_put" 845 846 301 3 3 493 494 .none .none .none (.ref 495) 847 301 848) ::
 (nat_lit 497, hF "_law_put" "_law_put" (hT 65) .none .none "law_steadyhand_k32_modes_of_steered_things" 791 496) ::
 (nat_lit 498, hU #[]) ::
 (nat_lit 501, hD "_law_put_late" 850 "_law_put_late" 851 852 308 3 3 498 499 .none .none .none (.ref 500) 853 308 854) ::
 (nat_lit 502, hF "_law_put_late" "_law_put_late" (hT 66) .none .none "law_steadyhand_k32_modes_of_steered_things" 791 501) ::
 (nat_lit 503, hU #[]) ::
 (nat_lit 505, hU #[hS "_law_thing" 859, hS "_law_found" 860, hS "_law_mode" 861]) ::
 (nat_lit 506, hU #[]) ::
 (nat_lit 508, hD "_law_told" 856 "_law_told" 857 858 317 1 3 503 504 .none (.ref 505) (.ref 506) (.ref 507) 862 317 863) ::
 (nat_lit 509, hF "_law_told" "_law_told" (hT 67) .none .none "law_steadyhand_k32_modes_of_steered_things" 791 508) ::
 (nat_lit 510, hU #[]) ::
 (nat_lit 512, hU #[hS "_law_thing" 868, hS "_law_many" 869, hS "_law_pushes" 870, hS "_law_due" 871]) ::
 (nat_lit 513, hU #[]) ::
 (nat_lit 515, hD "_law_right" 865 "_law_right" 866 867 322 4 3 510 511 .none (.ref 512) (.ref 513) (.ref 514) 872 322 873) ::
 (nat_lit 516, hF "_law_right" "_law_right" (hT 68) .none .none "law_steadyhand_k32_modes_of_steered_things" 791 515) ::
 (nat_lit 517, hU #[]) ::
 (nat_lit 520, hD "law" 875 "law" 876 877 326 1 3 517 518 .none .none .none (.ref 519) 878 326 879) ::
 (nat_lit 521, hF "law" "law" (hT 69) .none .none "law_steadyhand_k32_modes_of_steered_things" 791 520) :: []
noncomputable def ks : List Addr := [2, 3, 15, 17, 18, 20, 21, 22, 29, 30, 31, 32, 35, 42, 43, 44, 47, 54, 55, 56, 59, 66, 67, 68, 71, 78, 79, 80, 83, 85, 86, 88, 89, 90, 92, 93, 95, 96, 97, 98, 100, 101, 103, 104, 105, 107, 108, 110, 111, 112, 115, 116, 117, 120, 121, 122, 123, 126, 127, 128, 131, 132, 133, 136, 137, 138, 141, 142, 143, 146, 147, 148, 150, 151, 153, 154, 155, 157, 158, 160, 161, 162, 164, 165, 167, 168, 169, 172, 173, 181, 182, 183, 184, 185, 188, 195, 196, 198, 199, 201, 202, 203, 205, 206, 208, 209, 210, 211, 212, 215, 222, 224, 225, 227, 228, 229, 231, 232, 234, 235, 236, 237, 238, 241, 248, 250, 251, 253, 254, 255, 257, 258, 260, 261, 262, 263, 264, 267, 269, 270, 272, 273, 274, 276, 277, 279, 280, 281, 283, 284, 286, 287, 288, 290, 291, 293, 294, 295, 297, 298, 300, 301, 302, 304, 305, 307, 308, 309, 312, 313, 314, 317, 318, 319, 321, 322, 324, 325, 333, 335, 336, 338, 339, 340, 341, 342, 343, 344, 354, 356, 357, 359, 360, 361, 363, 364, 366, 367, 368, 370, 371, 373, 374, 375, 378, 379, 380, 382, 383, 385, 386, 387, 388, 389, 390, 391, 394, 397, 398, 399, 401, 402, 404, 405, 406, 408, 409, 411, 412, 413, 416, 417, 418, 420, 421, 423, 424, 425, 428, 429, 430, 433, 434, 435, 438, 439, 440, 442, 443, 445, 446, 447, 450, 451, 452, 454, 455, 457, 458, 459, 461, 462, 464, 465, 466, 468, 469, 471, 472, 473, 476, 477, 478, 481, 482, 483, 486, 487, 488, 491, 492, 493, 496, 497, 498, 501, 502, 503, 505, 506, 508, 509, 510, 512, 513, 515, 516, 517, 520, 521]
theorem ke : ∀ P : Params, ks = (KK P).map (·.1) := fun _ => by
 kernel_rfl
noncomputable def vw : Program := { PySem.Challenge.pw_steadyhand_k32_modes_of_steered_things with main := { PySem.Challenge.pw_steadyhand_k32_modes_of_steered_things.main with body := [hT 0, hT 2, hT 3, hT 4, hT 5, hT 6, hT 8, hT 9, hT 11, hT 13, hT 14, hT 16, hT 17, hT 19, hT 20, hT 21, hT 22, hT 23, hT 24, hT 26, hT 27, hT 28, hT 29, hT 30, hT 31, hT 32, hT 33, hT 34, hT 35, hT 36, hT 37, hT 38, hT 39, hT 41, hT 42, hT 43, hT 44, hT 45, hT 46, hT 47, hT 48, hT 49, hT 51, hT 52, hT 53, hT 54, hT 55, hT 56, hT 58, hT 59, hT 60, hT 61, hT 62, hT 63, hT 64, hT 65, hT 66, hT 67, hT 68, hT 69] } }
noncomputable def lo : List Str := [Str.ofString "fraction", Str.ofString "copied", Str.ofString "Straight"]
noncomputable abbrev rr : RowW := (OpenLaw.row PySem.Challenge.rw_steadyhand_k32_modes_of_steered_things).toRowW
noncomputable abbrev xt : Shared -> Bool := fun s => xlAt vw [] s && recOk rr.records s
noncomputable def bt : Params -> BT := fun P => (.node (boot_o_0 P) (.node (boot_o_1 P) (.node (boot_o_3 P) (.node (boot_o_7 P) .nil .nil) .nil) (.node (boot_o_5 P) (.node (boot_o_9 P) .nil .nil) .nil)) (.node (boot_o_2 P) (.node (boot_o_4 P) (.node (boot_o_8 P) .nil .nil) .nil) (.node (boot_o_6 P) (.node (boot_o_10 P) .nil .nil) .nil)))
noncomputable def lhs (T : Params -> BT) (h : Params -> Heap) (d : Drawn) (k : Nat) (w : World) (os : OsState) := (TT.runT treeTable PySem.Challenge.pw_steadyhand_k32_modes_of_steered_things w 11 (some (.ref 6)) 8340 ⟨T w.params, 11, (h w.params).life, Array.mk [], d, k, os⟩ (topStub PySem.Challenge.pw_steadyhand_k32_modes_of_steered_things)).map (fun s => ((staticsOk (importedModules PySem.Challenge.pw_steadyhand_k32_modes_of_steered_things.main.body) (h w.params) s.abs.heap && namesBound PySem.Challenge.pw_steadyhand_k32_modes_of_steered_things s.abs.heap && gensDone s.abs && laidKept (h w.params) s.abs.heap), openSeen vw lo (importedModules PySem.Challenge.pw_steadyhand_k32_modes_of_steered_things.main.body) xt true s.abs, ks.map s.abs.heap.get?))
noncomputable def rhs (w : World) (_ : OsState) := some (true, openGood vw lo, (KK w.params).map fun p => some p.2)
lay_quick lhs rhs
theorem same (w : World) (os : OsState) : PySem.W.Fast.tw15452709389280416402 bt boot_heap boot_drawn boot_toks w os = PySem.W.Fast.tw17351988565799644537 w os := by
 kernel_rfl
theorem left : LeftO rr.prog vw lo xt (kHook KK ks ke).obs (kHook KK ks ke).val 8340 :=
 TT.left_is (boot_open (by kernel_rfl) (by decide) (fun _ => by kernel_rfl)) (fun _ => by kernel_rfl) (fun _ => by kernel_rfl) (fun _ => by kernel_rfl) (fun _ => by kernel_rfl)
  fun w os => (congrArg (fun f => f bt boot_heap boot_drawn boot_toks w os) PySem.W.Fast.te15452709389280416402).trans ((same w os).trans (congrFun (congrFun PySem.W.Fast.te17351988565799644537 w) os).symm)
end H32
namespace L2
open PySem PySem.Spec PyProof.Rows

noncomputable abbrev Key := Sum Int Str
noncomputable def keyIs : Key -> Value -> Bool
 | .inl k, v => Value.isInt k v
 | .inr x, v => Value.isStrOf x v
noncomputable def keyH (w : World) : Key -> Int
 | .inl k => hashInt k
 | .inr x => hashStr w x
theorem keyIs_shape : ∀ {k : Key} {v : Value}, keyIs k v = true -> (∃ i t, k = Sum.inl i /\ v = Value.int i t) \/ (∃ x t, k = Sum.inr x /\ v = Value.str x t)
 | .inl i, v, h => by
  obtain ⟨t, e⟩ := Value.isInt_shape (k := i) (v := v) h
  exact .inl ⟨i, t, rfl, e⟩
 | .inr x, v, h => by
  obtain ⟨t, e⟩ := Value.isStrOf_shape (x := x) (v := v) h
  exact .inr ⟨x, t, rfl, e⟩
theorem key_ll (a b : Int) : decide ((Sum.inl a : Key) = Sum.inl b) = (a == b) := by
 by_cases e : a = b
 ·subst e; simp
 ·have h : ¬ (Sum.inl a : Key) = Sum.inl b := fun q => e (Sum.inl.inj q)
  rw [decide_eq_false h]
  exact (beq_eq_false_iff_ne.mpr e).symm
theorem key_rr (a b : Str) : decide ((Sum.inr a : Key) = Sum.inr b) = decide (a = b) := by
 by_cases e : a = b
 ·subst e; simp
 ·have h : ¬ (Sum.inr a : Key) = Sum.inr b := fun q => e (Sum.inr.inj q)
  rw [decide_eq_false h, decide_eq_false e]
theorem key_lr (a : Int) (b : Str) : decide ((Sum.inl a : Key) = Sum.inr b) = false := decide_eq_false (fun q => nomatch q)
theorem key_rl (a : Str) (b : Int) : decide ((Sum.inr a : Key) = Sum.inl b) = false := decide_eq_false (fun q => nomatch q)

noncomputable def mixKind (prog : Program) (w : World) : PySem.KeyKind prog w Key where
 is := keyIs
 hash := keyH w
 inj := fun v a b ha hb => by
  rcases keyIs_shape ha with ⟨i, t, rfl, rfl⟩ | ⟨x, t, rfl, rfl⟩
  ·rcases keyIs_shape hb with ⟨j, u, rfl, e⟩ | ⟨y, u, rfl, e⟩
   ·injection e with e1 _; rw [e1]
   ·exact nomatch e
  ·rcases keyIs_shape hb with ⟨j, u, rfl, e⟩ | ⟨y, u, rfl, e⟩
   ·exact nomatch e
   ·injection e with e1 _; rw [e1]
 byValue := fun k v h => by
  rcases keyIs_shape h with ⟨i, t, rfl, rfl⟩ | ⟨x, t, rfl, rfl⟩ <;> rfl
 pyHash := fun hv h => by
  rcases keyIs_shape hv with ⟨i, t, rfl, rfl⟩ | ⟨x, t, rfl, rfl⟩
  ·exact wpAny_pyHash_int h
  ·exact wpAny_pyHash_str h
 eqBool := fun hu hv h => by
  rcases keyIs_shape hu with ⟨i, t, rfl, rfl⟩ | ⟨x, t, rfl, rfl⟩
  ·rcases keyIs_shape hv with ⟨j, u, rfl, rfl⟩ | ⟨y, u, rfl, rfl⟩
   ·rw [key_ll] at h; exact wpAny_eqBool_int h
   ·rw [key_lr] at h; exact SeqAt.EqAt.int_str i t y u _ _ _ _ h
  ·rcases keyIs_shape hv with ⟨j, u, rfl, rfl⟩ | ⟨y, u, rfl, rfl⟩
   ·rw [key_rl] at h; exact SeqAt.EqAt.str_int x t j u _ _ _ _ h
   ·rw [key_rr] at h; exact wpAny_eqBool_str h
 «strs» := fun k x t v h => by
  rcases keyIs_shape h with ⟨i, u, rfl, e⟩ | ⟨y, u, rfl, e⟩
  ·exact nomatch e
  ·injection e with e1 _
   subst e1
   cases v <;> rfl

end L2

namespace L2
open PySem PySem.Spec PyProof.Rows

inductive V where
 | non | bl (b : Bool) | int (i : Int) | str (x : Str) | byt (b : Array UInt8) | flt (b : UInt64) | ref (a : Addr) | ty (n : String)
 deriving DecidableEq

noncomputable def RelV : V -> Value -> Prop
 | .non, u => u = Value.none
 | .bl b, u => u = Value.bool b
 | .int i, u => ∃ t, u = Value.int i t
 | .str x, u => ∃ t, u = Value.str x t
 | .byt b, u => ∃ t, u = Value.bytes b t
 | .flt b, u => ∃ t, u = Value.float b t
 | .ref a, u => u = Value.ref a
 | .ty n, u => u = Value.type n

noncomputable abbrev Vals : List V -> List Value -> Prop := Paired RelV
theorem Vals.length {xs : List V} {us : List Value} (r : Vals xs us) : xs.length = us.length := Paired.length r
theorem Vals.get : ∀ {xs : List V} {us : List Value} {i : Nat} {x : V}, Vals xs us -> xs[i]? = some x -> ∃ u, us[i]? = some u /\ RelV x u
 | _, _, _, _, .nil, e => by simp at e
 | _, _, 0, _, .cons r _, e => by simp at e; subst e; exact ⟨_, rfl, r⟩
 | _, _, i + 1, x, .cons _ t, e => by
  obtain ⟨u, h1, h2⟩ := Vals.get (i := i) (x := x) t (by simpa using e)
  exact ⟨u, by simpa using h1, h2⟩
theorem Vals.set {x : V} {u : Value} (r : RelV x u) : ∀ {xs : List V} {us : List Value} (i : Nat), Vals xs us -> Vals (xs.set i x) (us.set i u)
 | _, _, _, .nil => .nil
 | _, _, 0, .cons _ t => .cons r t
 | _, _, i + 1, .cons q t => .cons q (Vals.set r i t)
theorem Vals.append : ∀ {xs ys : List V} {us ws : List Value}, Vals xs us -> Vals ys ws -> Vals (xs ++ ys) (us ++ ws)
 | _, _, _, _, .nil, s => s
 | _, _, _, _, .cons r t, s => .cons r (Vals.append t s)
theorem Vals.take : ∀ {xs : List V} {us : List Value} (n : Nat), Vals xs us -> Vals (xs.take n) (us.take n)
 | _, _, 0, _ => .nil
 | _, _, _ + 1, .nil => .nil
 | _, _, n + 1, .cons r t => .cons r (Vals.take n t)
theorem Vals.drop : ∀ {xs : List V} {us : List Value} (n : Nat), Vals xs us -> Vals (xs.drop n) (us.drop n)
 | _, _, 0, r => r
 | _, _, _ + 1, .nil => .nil
 | _, _, n + 1, .cons _ t => Vals.drop n t
noncomputable def RelO : Option V -> Option Value -> Prop
 | some v, some u => RelV v u
 | none, none => True
 | _, _ => False
noncomputable def KV {κ : Type} : List (κ × V) -> List (κ × Value) -> Prop := Paired fun (p : κ × V) (q : κ × Value) => p.1 = q.1 /\ RelV p.2 q.2

noncomputable def kV : Key -> V
 | .inl i => .int i
 | .inr x => .str x

inductive HO where
 | lst (xs : List V)
 | tup (xs : List V)
 | dK (kvs : List (Key × V)) | dT (kvs : List (List Key × V))
 | set (S : Int -> Bool) (n : Nat)
 | ins (C dx : Addr) (fs : List (Str × V))
 | own (x : Addr)
 | xd (fs : List (Str × V))
 | met (f x : Addr)
 | rng (lo hi : Int)
 | frz (o : Obj) (u : HO)
 | tbl (ps : Array Value)
 | ext (φ : Heap -> Prop)

noncomputable abbrev Hp := Addr -> Option HO
noncomputable def upd (H : Hp) (a : Addr) (o : HO) : Hp := fun b => if b = a then some o else H b
theorem upd_same {H : Hp} {a : Addr} {o : HO} : upd H a o a = some o := by unfold upd; rw [if_pos rfl]
theorem upd_ne {H : Hp} {a b : Addr} {o : HO} (h : b ≠ a) : upd H a o b = H b := by unfold upd; rw [if_neg h]
theorem upd_upd {H : Hp} {a : Addr} {o u : HO} : upd (upd H a o) a u = upd H a u := by
 funext b; unfold upd; split <;> rfl
theorem ne_of {H : Hp} {a b : Addr} {o u : HO} (h : H a = some o) (h' : H b = some u) (d : o ≠ u) : a ≠ b := by
 intro e; subst e; rw [h] at h'; exact d (Option.some.inj h')
theorem ne_of_none {H : Hp} {a b : Addr} {o : HO} (h : H a = some o) (h' : H b = none) : a ≠ b := by
 intro e; subst e; rw [h] at h'; cases h'

section
variable (P : Program) (w : World)
noncomputable def ObjOk (H : Hp) (h : Heap) (a : Addr) : HO -> Prop
 | .lst xs => xs.length <= sizeLine /\ ∃ (its : List Value) (n : Nat), Vals xs its /\ h.get? a = some { cls := .type "list", data := .seq its.toArray n }
 | .tup xs => xs.length <= sizeLine /\ ∃ its : List Value, Vals xs its /\ IsTup h a its.toArray
 | .dK kvs => kvs.length <= sizeLine /\ (a == sysModules) = false /\ ∃ vs, KV kvs vs /\ h.DictOf (mixKind P w) a vs
 | .dT kvs => kvs.length <= sizeLine /\ (a == sysModules) = false /\ ∃ xs : List (List Key × Addr × Value),
   Paired (fun (p : List Key × V) (q : List Key × Addr × Value) => p.1 = q.1 /\ H q.2.1 = some (.tup (p.1.map kV)) /\ RelV p.2 q.2.2) kvs xs ∧
   ∃ o es ep, h.get? a = some o /\ o.ExactDict /\ o.data = .dict es ep /\ es.toList = xs.map (entryOfKey (tupleKind (mixKind P w))) /\ (xs.map (·.1)).Nodup
 | .set S n => h.SetOf (intKind P w) a S n
 | .ins C dx fs => H dx = some (.own a) /\ fs.length <= 1000 /\ dx ≠ a /\ h.get? a = some (PySem.W.instObj C dx) ∧
   ∃ mA, h.Ns1 dx mA /\ (∀ f, RelO (fs.lookup f) (mA f)) /\ PySem.Within mA (fs.map (·.1))
 | .own _ => ∃ o, h.get? a = some o
 | .xd fs => ∃ mA, h.Ns1 a mA /\ ∀ f, RelO (fs.lookup f) (mA f)
 | .rng lo hi => ∃ t u v, h.get? a = some { cls := .type "range", data := .fields #[.int lo t, .int hi u, .int 1 v] }
 | .frz o u => h.get? a = some o /\ ObjOk H h a u
 | .tbl ps => h.get? a = some { cls := .none, data := .fields ps }
 | .met f x => h.get? a = some (PySem.W.methodObj (.ref f) (.ref x))
 | .ext φ => φ h /\ (∃ o, h.get? a = some o) /\ ∀ h1 h2 : Heap, φ h1 -> (∀ o, h1.get? a = some o -> h2.get? a = some o) -> φ h2
noncomputable def HOk (H : Hp) (h : Heap) : Prop := ∀ a o, H a = some o -> ObjOk P w H h a o
end

section
variable {P : Program} {w : World} {H H' : Hp} {h h' : Heap} {a : Addr} {o : HO}
theorem ObjOk.lt (x : ObjOk P w H h a o) : a < h.objs.size := by
 cases o with
 | lst xs => obtain ⟨_, _, _, _, e⟩ := x; exact Heap.lt_size e
 | tup xs => obtain ⟨_, _, _, p⟩ := x; exact p.lt
 | dK kvs => obtain ⟨_, _, _, _, o, _, _, e, _⟩ := x; exact Heap.lt_size e
 | dT kvs => obtain ⟨_, _, _, _, o, _, _, e, _⟩ := x; exact Heap.lt_size e
 | set S n => obtain ⟨o, _, _, _, e, _⟩ := x; exact Heap.lt_size e
 | ins C dx fs => obtain ⟨_, _, _, e, _⟩ := x; exact Heap.lt_size e
 | own y => obtain ⟨_, e⟩ := x; exact Heap.lt_size e
 | xd fs => obtain ⟨_, ⟨_, _, _, e, _⟩, _⟩ := x; exact Heap.lt_size e
 | rng lo hi => obtain ⟨_, _, _, e⟩ := x; exact Heap.lt_size e
 | frz ob u => obtain ⟨e, _⟩ := x; exact Heap.lt_size e
 | tbl ps => exact Heap.lt_size (show h.get? a = some _ from x)
 | met f y => exact Heap.lt_size (show h.get? a = some _ from x)
 | ext φ => obtain ⟨_, ⟨_, e⟩, _⟩ := x; exact Heap.lt_size e
theorem Paired.mapP {α β : Type} {F G : α -> β -> Prop} : ∀ {l₁ : List α} {l₂ : List β}, Paired F l₁ l₂ -> (∀ a b, F a b -> G a b) -> Paired G l₁ l₂
 | _, _, .nil, _ => .nil
 | _, _, .cons r t, f => .cons (f _ _ r) (Paired.mapP t f)
theorem ObjOk.stay (x : ObjOk P w H h a o) (k : ∀ b u, (b = a \/ H b = some (.own a)) -> h.get? b = some u -> h'.get? b = some u)
  (ho : ∀ b, H b = some (.own a) -> H' b = some (.own a)) (ht : ∀ b xs, H b = some (.tup xs) -> H' b = some (.tup xs)) : ObjOk P w H' h' a o := by
 induction o with
 | lst xs => obtain ⟨z, its, n, r, e⟩ := x; exact ⟨z, its, n, r, k _ _ (.inl rfl) e⟩
 | tup xs => obtain ⟨z, its, r, ob, e, c⟩ := x; exact ⟨z, its, r, ob, k _ _ (.inl rfl) e, c⟩
 | dK kvs => obtain ⟨z, y, vs, r, ob, es, ep, e, c⟩ := x; exact ⟨z, y, vs, r, ob, es, ep, k _ _ (.inl rfl) e, c⟩
 | dT kvs =>
  obtain ⟨z, y, xs, r, ob, es, ep, e, c⟩ := x
  exact ⟨z, y, xs, Paired.mapP r fun p q z => ⟨z.1, ht _ _ z.2.1, z.2.2⟩, ob, es, ep, k _ _ (.inl rfl) e, c⟩
 | set S n => obtain ⟨ob, es, ep, t, e, c⟩ := x; exact ⟨ob, es, ep, t, k _ _ (.inl rfl) e, c⟩
 | ins C dx fs =>
  obtain ⟨d, z, ne, e, mA, ⟨od, es, ep, e2, c⟩, r⟩ := x
  exact ⟨ho _ d, z, ne, k _ _ (.inl rfl) e, mA, ⟨od, es, ep, k _ _ (.inr d) e2, c⟩, r⟩
 | own y => obtain ⟨ob, e⟩ := x; exact ⟨ob, k _ _ (.inl rfl) e⟩
 | xd fs => obtain ⟨mA, ⟨od, es, ep, e, c⟩, r⟩ := x; exact ⟨mA, ⟨od, es, ep, k _ _ (.inl rfl) e, c⟩, r⟩
 | rng lo hi => obtain ⟨t, u, v, e⟩ := x; exact ⟨t, u, v, k _ _ (.inl rfl) e⟩
 | frz ob u ih => obtain ⟨e, q⟩ := x; exact ⟨k _ _ (.inl rfl) e, ih q⟩
 | tbl ps =>
  have e : h.get? a = some { cls := .none, data := .fields ps } := x
  show h'.get? a = some { cls := .none, data := .fields ps }
  exact k a _ (.inl rfl) e
 | met f y =>
  have e : h.get? a = some (PySem.W.methodObj (.ref f) (.ref y)) := x
  show h'.get? a = some (PySem.W.methodObj (.ref f) (.ref y))
  exact k a _ (.inl rfl) e
 | ext φ => obtain ⟨p, ⟨o, e⟩, st⟩ := x; exact ⟨st _ _ p fun o q => k _ _ (.inl rfl) q, ⟨o, k _ _ (.inl rfl) e⟩, st⟩
theorem HOk.lt (x : HOk P w H h) (e : H a = some o) : a < h.objs.size := (x a o e).lt
theorem HOk.fresh (x : HOk P w H h) (e : h.objs.size <= a) : H a = none := by
 cases q : H a with
 | none => rfl
 | some u => exact absurd (Nat.lt_of_lt_of_le (x.lt q) e) (Nat.lt_irrefl _)
theorem HOk.kept (x : HOk P w H h) (k : ∀ b u, h.get? b = some u -> h'.get? b = some u) : HOk P w H h' := fun a o e =>
 (x a o e).stay (fun b u _ q => k b u q) (fun _ q => q) fun _ _ q => q
theorem HOk.laid (x : HOk P w H h) (k : ∀ b u, h.get? b = some u -> h'.get? b = some u) (hp : h.objs.size <= a) (new : ObjOk P w (upd H a o) h' a o) : HOk P w (upd H a o) h' := fun b u e => by
 have hn := x.fresh hp
 by_cases hb : b = a
 ·subst hb; rw [upd_same] at e; cases e; exact new
 ·rw [upd_ne hb] at e
  exact (x b u e).stay (fun c v _ q => k c v q) (fun c q => by rw [upd_ne (ne_of_none q hn)]; exact q) fun c xs q => by rw [upd_ne (ne_of_none q hn)]; exact q
end

noncomputable def Rd (H : Hp) (a : Addr) (u : HO) : Prop := H a = some u \/ ∃ o, H a = some (.frz o u)
theorem Rd.ok {P : Program} {w : World} {H : Hp} {h : Heap} {a : Addr} {u : HO} (r : Rd H a u) (x : HOk P w H h) : ObjOk P w H h a u := by
 rcases r with r | ⟨o, r⟩
 ·exact x a u r
 ·obtain ⟨_, q⟩ := x a _ r
  exact q
noncomputable def Mut : Option HO -> Prop
 | some (.lst _) => True
 | some (.dK _) => True
 | some (.dT _) => True
 | some (.set _ _) => True
 | some (.ins _ _ _) => True
 | some (.ext _) => True
 | _ => False
section
variable {P : Program} {w : World} {H : Hp} {h h' : Heap} {x e : Addr} {o' : HO}
theorem HOk.write (ok : HOk P w H h) (mu : Mut (H x)) (he : e = x \/ H e = some (.own x)) (k : ∀ b u, b ≠ e -> h.get? b = some u -> h'.get? b = some u) (heo : ∃ u, h'.get? e = some u)
  (new : ObjOk P w (upd H x o') h' x o') : HOk P w (upd H x o') h' := fun b u q => by
 have nown : ∀ c y, H c = some (.own y) -> c ≠ x := fun c y r z => by subst z; rw [r] at mu; exact mu
 have ntup : ∀ c xs, H c = some (.tup xs) -> c ≠ x := fun c xs r z => by subst z; rw [r] at mu; exact mu
 by_cases hb : b = x
 ·subst hb; rw [upd_same] at q; cases q; exact new
 ·rw [upd_ne hb] at q
  by_cases hbe : b = e
  ·have q' : H b = some (.own x) := by
    rcases he with z | z
    ·exact absurd (hbe.trans z) hb
    ·rw [hbe]; exact z
   rw [q] at q'; cases q'
   obtain ⟨v, hv⟩ := heo
   exact ⟨v, by rw [hbe]; exact hv⟩
  ·refine (ok b u q).stay (fun c v hc r => k c v ?_ r) (fun c r => by rw [upd_ne (nown c b r)]; exact r) fun c xs r => by rw [upd_ne (ntup c xs r)]; exact r
   rcases hc with rfl | hc
   ·exact hbe
   ·rintro rfl
    rcases he with z | z
    ·exact nown c b hc z
    ·rw [hc] at z; cases z; exact hb rfl
end

structure Un (fs ex : List Addr) (H H' : Hp) (h h' : Heap) : Prop where
 keep : ∀ b o, h.get? b = some o -> H b = none -> b ∉ fs -> b ∉ ex -> h'.get? b = some o
 slot : ∀ b o, h.get? b = some o -> H b = none -> b ∈ fs -> b ∉ ex -> ∃ sl, h'.get? b = some { o with slots := sl }
 free : ∀ b o, h.get? b = some o -> H b = none -> b ∉ ex -> H' b = none
 there : ∀ b o, h.get? b = some o -> b ∉ ex -> ∃ o', h'.get? b = some o'
 tups : ∀ b xs, H b = some (.tup xs) -> H' b = some (.tup xs)
 frzs : ∀ b o u, H b = some (.frz o u) -> H' b = some (.frz o u)
 tbls : ∀ b ps, H b = some (.tbl ps) -> ∃ more, H' b = some (.tbl (ps ++ more))
section
variable {fs fs' ex ex' : List Addr} {H H1 H2 : Hp} {h h1 h2 h' : Heap} {a x e : Addr} {o : HO}
theorem Un.any (u : Un fs ex H H1 h h1) {b : Addr} {ob : Obj} (q : h.get? b = some ob) (n : H b = none) (hx : b ∉ ex) : ∃ sl, h1.get? b = some { ob with slots := sl } := by
 by_cases hb : b ∈ fs
 ·exact u.slot b ob q n hb hx
 ·exact ⟨ob.slots, u.keep b ob q n hb hx⟩
theorem Un.kept (k : ∀ b u, h.get? b = some u -> h'.get? b = some u) : Un fs ex H H h h' :=
 ⟨fun b ob q _ _ _ => k b ob q, fun b ob q _ _ _ => ⟨ob.slots, k b ob q⟩, fun _ _ _ n _ => n, fun b ob q _ => ⟨ob, k b ob q⟩, fun _ _ q => q, fun _ _ _ q => q, fun _ ps q => ⟨#[], by rw [q]; simp⟩⟩
theorem Un.refl : Un fs ex H H h h := Un.kept fun _ _ q => q
theorem Un.laid (k : ∀ b u, h.get? b = some u -> h'.get? b = some u) (hp : h.objs.size <= a) (hn : H a = none) : Un fs ex H (upd H a o) h h' where
 keep := fun b u q _ _ _ => k b u q
 slot := fun b u q _ _ _ => ⟨u.slots, k b u q⟩
 free := fun b u q n _ => by rw [upd_ne (Nat.ne_of_lt (Nat.lt_of_lt_of_le (Heap.lt_size q) hp))]; exact n
 there := fun b u q _ => ⟨u, k b u q⟩
 tups := fun b xs q => by rw [upd_ne (ne_of_none q hn)]; exact q
 frzs := fun b u xs q => by rw [upd_ne (ne_of_none q hn)]; exact q
 tbls := fun b ps q => ⟨#[], by rw [upd_ne (ne_of_none q hn), q]; simp⟩
theorem Un.write (mu : Mut (H x)) (he : e = x \/ H e = some (.own x)) (k : ∀ b u, b ≠ e -> h.get? b = some u -> h'.get? b = some u) (heo : ∃ u, h'.get? e = some u) : Un fs ex H (upd H x o) h h' := by
 have hx : ∀ b, H b = none -> b ≠ x := fun b n z => by subst z; rw [n] at mu; exact mu
 have hb : ∀ b, H b = none -> b ≠ e := fun b n z => by
  subst z
  rcases he with r | r
  ·exact hx b n r
  ·rw [n] at r; cases r
 have hm : ∀ b u, H b = some u -> ¬ Mut (some u) -> b ≠ x := fun b u q nm z => by subst z; rw [q] at mu; exact nm mu
 refine ⟨fun b u q n _ _ => k b u (hb b n) q, fun b u q n _ _ => ⟨u.slots, k b u (hb b n) q⟩, fun b u q n _ => by rw [upd_ne (hx b n)]; exact n, fun b u q _ => ?_,
  fun b xs q => by rw [upd_ne (hm b _ q fun z => z)]; exact q, fun b u xs q => by rw [upd_ne (hm b _ q fun z => z)]; exact q, fun b ps q => ⟨#[], by rw [upd_ne (hm b _ q fun z => z), q]; simp⟩⟩
 by_cases hbe : b = e
 ·subst hbe; exact heo
 ·exact ⟨u, k b u hbe q⟩
end

noncomputable def trk (h : Heap) (H : Hp) : List Addr := (List.range h.objs.size).filter fun a => (H a).isSome
noncomputable def hidT (h : Heap) (H : Hp) : Heap := PySem.W.hideAll h (trk h H)
theorem hidT_size (h : Heap) (H : Hp) : (hidT h H).objs.size = h.objs.size := PySem.W.hideAll_size _ _
theorem hidT_get {h : Heap} {H : Hp} {b : Addr} {o : Obj} (e : h.get? b = some o) (n : H b = none) : (hidT h H).get? b = some o :=
 PySem.W.hideAll_get _ e fun hm => by
  have q : (H b).isSome = true := (List.mem_filter.mp hm).2
  rw [n] at q; simp at q
theorem of_hidT {h : Heap} {H : Hp} {b : Addr} {o : Obj} (e : (hidT h H).get? b = some o) : h.get? b = some o /\ H b = none := by
 have e' : h.get? b = some o := PySem.W.of_hideAll (trk h H) e
 refine ⟨e', ?_⟩
 cases q : H b with
 | none => rfl
 | some x =>
  have hm : b ∈ trk h H := List.mem_filter.mpr ⟨List.mem_range.mpr (Heap.lt_size e'), by simp [q]⟩
  have z : (hidT h H).get? b = none := PySem.W.hideAll_none (trk h H) hm
  rw [z] at e; cases e

noncomputable def allNews (g h : Heap) (L : Addr) : List (Addr × Obj) := (List.range h.objs.size).filterMap fun a => if a = L \/ (g.get? a).isSome = true then none else (h.get? a).map fun o => (a, o)
noncomputable def rest (g h : Heap) (L d : Addr) : List (Addr × Obj) := (allNews g h L).filter fun p => decide (p.1 ≠ d)
end L2

namespace L2
open PySem PySem.Spec PyProof.Rows

structure Mod (K : PySem.W.Frag) (mg : Str -> Option Value) (base : Heap) : Prop where
 kin : K.In base
 glob : base.Ns mainGlobals mg
 blt : ∃ mb, base.Ns builtinsNs mb /\ ∀ x : Str, x ≠ "__name__" -> mb x = bootBuiltins x
 nolimit : base.NoLimit

structure Cx where
 prog : Program
 w : World
 K : PySem.W.Frag
 mg : Str -> Option Value
 base : Heap
 A : Around
 N : List Str
 s₀ : Shared
 H₀ : Hp
 env : Env
 outer : List Env
 stack : List Env
 ex : List Addr
 fn : Str -> Bool
 calm : Bool
 pn : List (Addr × Obj)
 xe : Value -> Shared -> Prop
noncomputable def frs (l : List Env) : List Addr := l.filterMap (·.frame)
noncomputable abbrev Cx.fs (X : Cx) : List Addr := frs X.outer

noncomputable def Vis (sc : Scope) (x : Str) : Prop := sc.names.lookup x = some .local \/ sc.names.lookup x = some .cell \/ sc.names.lookup x = some .free
noncomputable def Loc (sc : Scope) (x : Str) : Prop := sc.names.lookup x = some .local \/ sc.names.lookup x = some .cell
noncomputable def Look (env : Env) (h : Heap) (m : Str -> Option Value) (x : Str) (u : Value) : Prop :=
 (env.kindOf x = some .local /\ m x = some u) \/ ((env.kindOf x = some .cell \/ env.kindOf x = some .free) /\ ∃ c, env.cells.lookup x = some c /\ h.IsCell c (some u))

structure Cx.Ok (X : Cx) : Prop where
 mod : Mod X.K X.mg X.base
 kind : X.env.scope.kind = .function
 glob : X.env.globals = mainGlobals
 blt : X.env.builtins = builtinsNs
 above : X.s₀.heap.objs.size <= X.env.locals
 inj : ∀ x y c, X.env.cells.lookup x = some c -> X.env.cells.lookup y = some c -> x = y
 has : ∀ x, (X.env.kindOf x = some .cell \/ X.env.kindOf x = some .free) -> ∃ c, X.env.cells.lookup x = some c
 cab : ∀ x c, X.fn x = true -> X.env.cells.lookup x = some c -> X.s₀.heap.objs.size <= c
 hd : X.calm = true -> X.A.handled = none
 frames : X.A.frames = some X.stack
 stk : X.stack = X.outer \/ (X.stack = X.env :: X.outer /\ X.env.frame = some X.env.locals)
 exf : ∀ b ∈ X.ex, b ≠ X.env.locals /\ ∀ x c, X.env.cells.lookup x = some c -> c ≠ b
 bs : ∀ b o, X.base.get? b = some o -> X.s₀.heap.get? b = some o /\ X.H₀ b = none
 bsz : X.base.objs.size <= X.s₀.heap.objs.size
 noex : ∀ b o, X.base.get? b = some o -> b ∉ X.ex
 exfs : ∀ b ∈ X.ex, b ∉ X.fs
 funs : X.s₀.heap.FunFrames X.base X.outer
 frf : ∀ b ∈ X.fs, X.H₀ b = none

structure Inv (X : Cx) (pins : List (Addr × Obj)) (σ : List (Option V)) (H : Hp) (s : Shared) : Prop where
 ok : X.Ok
 os : s.os = X.s₀.os
 bare : AllBare s.gens
 base : Un X.fs X.ex X.H₀ H X.s₀.heap s.heap
 loc : ∃ m, s.heap.Ns X.env.locals m /\ ∀ (i : Nat) (x : Str) (v : V), X.N[i]? = some x -> σ[i]? = some (some v) -> Vis X.env.scope x -> ∃ u, RelV v u /\ Look X.env s.heap m x u
 cell : ∀ x c, X.env.cells.lookup x = some c -> ∃ v, s.heap.IsCell c v
 free : H X.env.locals = none
 freeC : ∀ x c, X.env.cells.lookup x = some c -> H c = none
 pin : ∀ p ∈ X.pn ++ pins, s.heap.get? p.1 = some p.2 /\ H p.1 = none /\ p.1 ≠ X.env.locals /\ p.1 ∉ X.fs /\ ∀ v, p.2.data ≠ .cell v
 hok : HOk X.prog X.w H s.heap
 len : σ.length = X.N.length

section
variable {X : Cx} {pins : List (Addr × Obj)} {σ : List (Option V)} {H H' : Hp} {s : Shared} {h' : Heap}

theorem Cx.Ok.nofr (ok : X.Ok) {b : Addr} {o : Obj} (e : X.base.get? b = some o) : b ∉ X.fs := fun hb => by
 have := (ok.funs.mem hb).1
 rw [e] at this; cases this
theorem Inv.bs (I : Inv X pins σ H s) : ∀ b o, X.base.get? b = some o -> s.heap.get? b = some o /\ H b = none := fun b o e =>
 ⟨I.base.keep b o (I.ok.bs b o e).1 (I.ok.bs b o e).2 (I.ok.nofr e) (I.ok.noex b o e), I.base.free b o (I.ok.bs b o e).1 (I.ok.bs b o e).2 (I.ok.noex b o e)⟩
theorem Inv.bk (I : Inv X pins σ H s) : ∀ b o, X.base.get? b = some o -> s.heap.get? b = some o := fun b o e => (I.bs b o e).1
theorem Inv.mod (I : Inv X pins σ H s) : Mod X.K X.mg X.base := I.ok.mod
theorem Inv.kIn (I : Inv X pins σ H s) : X.K.In s.heap := I.ok.mod.kin.keeps I.bk
theorem Inv.lt (I : Inv X pins σ H s) : X.env.locals < s.heap.objs.size := let ⟨_, hn, _⟩ := I.loc; hn.lt
theorem Inv.sz (I : Inv X pins σ H s) : X.s₀.heap.objs.size <= s.heap.objs.size := Nat.le_trans I.ok.above (Nat.le_of_lt I.lt)
theorem Inv.nofs (I : Inv X pins σ H s) {a : Addr} (h : s.heap.objs.size <= a) : a ∉ X.fs := fun hb => by
 obtain ⟨_, o, ho, _⟩ := I.ok.funs.mem hb
 exact absurd (Nat.lt_of_lt_of_le (Heap.lt_size ho) (Nat.le_trans I.sz h)) (Nat.lt_irrefl _)
theorem Inv.cne (I : Inv X pins σ H s) : ∀ x c, X.env.cells.lookup x = some c -> c ≠ X.env.locals := fun x c e z => by
 obtain ⟨v, o, ho, hd⟩ := I.cell x c e
 obtain ⟨m, ⟨o', es, ep, ho', hd', _⟩, _⟩ := I.loc
 rw [z, ho'] at ho; cases ho; rw [hd'] at hd; cases hd
theorem Inv.funs (I : Inv X pins σ H s) : s.heap.FunFrames X.base X.outer := by
 have all : ∀ (l : List Env), (∀ b ∈ frs l, b ∈ X.fs) -> X.s₀.heap.FunFrames X.base l -> s.heap.FunFrames X.base l := by
  intro l
  induction l with
  | nil => intro _ _; trivial
  | cons env r ih =>
   intro hs hl
   obtain ⟨hk, ⟨L, o, hf, hn, ho, hd⟩, hr⟩ := hl
   have hL : L ∈ X.fs := hs L (by unfold frs; rw [List.filterMap_cons, hf]; exact List.mem_cons_self)
   obtain ⟨sl, e⟩ := I.base.slot L o ho (I.ok.frf L hL) hL fun z => I.ok.exfs L z hL
   exact ⟨hk, ⟨L, _, hf, hn, e, hd⟩, ih (fun b hb => hs b (by unfold frs; rw [List.filterMap_cons, hf]; exact List.mem_cons_of_mem _ hb)) hr⟩
 exact all X.outer (fun _ hb => hb) I.ok.funs

theorem Inv.stack (I : Inv X pins σ H s) : s.heap.FunFrames X.base X.stack := by
 rcases I.ok.stk with e | ⟨e, hf⟩
 ·rw [e]; exact I.funs
 ·rw [e]
  obtain ⟨m, hn, _⟩ := I.loc
  refine .cons (by rw [I.ok.kind]; decide) hf hn ?_ I.funs
  exact Heap.get?_none_of_le (Nat.le_trans I.ok.bsz I.ok.above)
theorem Inv.stkSub (I : Inv X pins σ H s) : ∀ b ∈ frs X.stack, b ∈ X.env.locals :: X.fs := fun b hb => by
 rcases I.ok.stk with e | ⟨e, hf⟩
 ·rw [e] at hb; exact List.mem_cons_of_mem _ hb
 ·rw [e] at hb
  unfold frs at hb
  rw [List.filterMap_cons, hf] at hb
  exact hb
theorem Inv.stkFree (I : Inv X pins σ H s) : ∀ b ∈ frs X.stack, H b = none := fun b hb => by
 rcases List.mem_cons.mp (I.stkSub b hb) with e | hb
 ·rw [e]; exact I.free
 ·obtain ⟨_, o, ho, _⟩ := I.ok.funs.mem hb
  exact I.base.free b o ho (I.ok.frf b hb) fun z => I.ok.exfs b z hb

theorem Inv.step {g' : Array GenState} {t' : Nat} {d' : Drawn} {ch : List Addr} (I : Inv X pins σ H s)
  (hch : ∀ b ∈ ch, (b ∈ X.ex \/ X.s₀.heap.objs.size <= b) /\ b ≠ X.env.locals /\ (∀ x c, X.env.cells.lookup x = some c -> c ≠ b) /\ ∀ p ∈ X.pn ++ pins, p.1 ≠ b)
  (keep : ∀ b o, b ≠ X.env.locals -> b ∉ X.fs -> b ∉ ch -> s.heap.get? b = some o -> H b = none -> h'.get? b = some o)
  (slot : ∀ b o, b ≠ X.env.locals -> b ∈ X.fs -> b ∉ ch -> s.heap.get? b = some o -> H b = none -> ∃ sl, h'.get? b = some { o with slots := sl }) (free : ∀ b o, b ∉ ch -> s.heap.get? b = some o -> H b = none -> H' b = none)
  (there : ∀ b o, b ∉ ch -> s.heap.get? b = some o -> ∃ o', h'.get? b = some o')
  (tups : ∀ b xs, H b = some (.tup xs) -> H' b = some (.tup xs)) (frzs : ∀ b o u, H b = some (.frz o u) -> H' b = some (.frz o u)) (tbls : ∀ b ps, H b = some (.tbl ps) -> ∃ more, H' b = some (.tbl (ps ++ more)))
  (ns : ∀ m, s.heap.Ns X.env.locals m -> h'.Ns X.env.locals m) (hok : HOk X.prog X.w H' h') (hg : AllBare g') :
  Inv X pins σ H' { s with heap := h', gens := g', drawn := d', toks := t' } := by
 have neL : ∀ b o, X.s₀.heap.get? b = some o -> b ≠ X.env.locals := fun b o e => Nat.ne_of_lt (Nat.lt_of_lt_of_le (Heap.lt_size e) I.ok.above)
 have neC : ∀ b o, X.s₀.heap.get? b = some o -> b ∉ X.ex -> b ∉ ch := fun b o e hx hb => by
  rcases (hch b hb).1 with z | z
  ·exact hx z
  ·exact absurd (Nat.lt_of_lt_of_le (Heap.lt_size e) z) (Nat.lt_irrefl _)
 have cellK : ∀ x c, X.env.cells.lookup x = some c -> ∀ v, s.heap.IsCell c v -> h'.IsCell c v := fun x c e v ⟨o, ho, hd⟩ => by
  have nch : c ∉ ch := fun z => (hch c z).2.2.1 x c e rfl
  by_cases hc : c ∈ X.fs
  ·obtain ⟨sl, q⟩ := slot c o (I.cne x c e) hc nch ho (I.freeC x c e)
   exact ⟨_, q, hd⟩
  ·exact ⟨o, keep c o (I.cne x c e) hc nch ho (I.freeC x c e), hd⟩
 refine ⟨I.ok, I.os, hg, ⟨fun b o e n hb hx => ?_, fun b o e n hb hx => ?_, fun b o e n hx => ?_, fun b o e hx => ?_, fun b xs e => tups b xs (I.base.tups b xs e), fun b o xs e => frzs b o xs (I.base.frzs b o xs e), fun b ps e => ?_⟩, ?_, fun x c e => ?_, ?_, fun x c e => ?_, fun p hp => ?_, hok, I.len⟩
 ·exact keep b o (neL b o e) hb (neC b o e hx) (I.base.keep b o e n hb hx) (I.base.free b o e n hx)
 ·obtain ⟨sl, e1⟩ := I.base.slot b o e n hb hx
  obtain ⟨sl', e2⟩ := slot b _ (neL b o e) hb (neC b o e hx) e1 (I.base.free b o e n hx)
  exact ⟨sl', e2⟩
 ·obtain ⟨o', e1⟩ := I.base.there b o e hx
  exact free b o' (neC b o e hx) e1 (I.base.free b o e n hx)
 ·obtain ⟨o', e1⟩ := I.base.there b o e hx
  exact there b o' (neC b o e hx) e1
 ·obtain ⟨m1, e1⟩ := I.base.tbls b ps e
  obtain ⟨m2, e2⟩ := tbls b _ e1
  exact ⟨m1 ++ m2, by rw [e2, Array.append_assoc]⟩
 ·obtain ⟨m, hn, hl⟩ := I.loc
  refine ⟨m, ns m hn, fun i x v e1 e2 e3 => ?_⟩
  obtain ⟨u, r, l⟩ := hl i x v e1 e2 e3
  refine ⟨u, r, ?_⟩
  rcases l with l | ⟨k, c, e, z⟩
  ·exact .inl l
  ·exact .inr ⟨k, c, e, cellK x c e _ z⟩
 ·obtain ⟨v, z⟩ := I.cell x c e
  exact ⟨v, cellK x c e v z⟩
 ·obtain ⟨m, ⟨o, _, _, ho, _⟩, _⟩ := I.loc
  exact free _ o (fun z => (hch _ z).2.1 rfl) ho I.free
 ·obtain ⟨v, o, ho, hd⟩ := I.cell x c e
  exact free c o (fun z => (hch c z).2.2.1 x c e rfl) ho (I.freeC x c e)
 ·obtain ⟨e, n, ne, nf, d⟩ := I.pin p hp
  have nch : p.1 ∉ ch := fun z => (hch p.1 z).2.2.2 p hp rfl
  exact ⟨keep p.1 p.2 ne nf nch e n, free p.1 p.2 nch e n, ne, nf, d⟩
theorem Inv.un {t' : Nat} (I : Inv X pins σ H s) (u : Un X.fs [] H H' s.heap h') (hok : HOk X.prog X.w H' h') : Inv X pins σ H' { s with heap := h', toks := t' } := by
 obtain ⟨m, ⟨o, es, ep, ho, r⟩, _⟩ := id I.loc
 obtain ⟨sl, hL⟩ := u.any ho I.free (by simp)
 exact I.step (g' := s.gens) (d' := s.drawn) (ch := []) (fun _ z => nomatch z) (fun b o _ hb _ e n => u.keep b o e n hb (by simp)) (fun b o _ hb _ e n => u.slot b o e n hb (by simp)) (fun b o _ e n => u.free b o e n (by simp)) (fun b o _ e => u.there b o e (by simp)) u.tups u.frzs u.tbls (fun m' hm => by
  obtain ⟨o', es', ep', ho', r'⟩ := hm
  rw [ho] at ho'; cases ho'
  exact ⟨_, es', ep', hL, r'⟩) hok I.bare
theorem Inv.call {g' : Array GenState} {t' : Nat} {d' : Drawn} {ch : List Addr} (I : Inv X pins σ H s) (u : Un (frs X.stack) ch H H' s.heap h') (hok : HOk X.prog X.w H' h') (hg : AllBare g')
  (hch : ∀ b ∈ ch, (b ∈ X.ex \/ X.s₀.heap.objs.size <= b) /\ b ≠ X.env.locals /\ (∀ x c, X.env.cells.lookup x = some c -> c ≠ b) /\ ∀ p ∈ X.pn ++ pins, p.1 ≠ b) :
  Inv X pins σ H' { s with heap := h', gens := g', drawn := d', toks := t' } := by
 obtain ⟨m, ⟨o, es, ep, ho, r⟩, _⟩ := id I.loc
 obtain ⟨sl, hL⟩ := u.any ho I.free fun z => (hch _ z).2.1 rfl
 exact I.step (ch := ch) hch (fun b o hL hb hc e n => u.keep b o e n (fun z => (List.mem_cons.mp (I.stkSub b z)).elim hL hb) hc) (fun b o _ _ hc e n => u.any e n hc) (fun b o hc e n => u.free b o e n hc) (fun b o hc e => u.there b o e hc) u.tups u.frzs u.tbls (fun m' hm => by
  obtain ⟨o', es', ep', ho', r'⟩ := hm
  rw [ho] at ho'; cases ho'
  exact ⟨_, es', ep', hL, r'⟩) hok hg
theorem Inv.turned {t' : Nat} {it : Addr} (I : Inv X pins σ H s) (k : ∀ b o, b ≠ it -> s.heap.get? b = some o -> h'.get? b = some o) (hn : H it = none) (hL : it ≠ X.env.locals)
  (h1 : it ∈ X.ex \/ X.s₀.heap.objs.size <= it) (h2 : ∀ x c, X.env.cells.lookup x = some c -> c ≠ it) (h3 : ∀ p ∈ X.pn ++ pins, p.1 ≠ it) : Inv X pins σ H { s with heap := h', toks := t' } := by
 have nit : ∀ b u, H b = some u -> b ≠ it := fun b u e z => by rw [z, hn] at e; cases e
 refine I.step (g' := s.gens) (d' := s.drawn) (ch := [it]) (fun b hb => ?_) (fun b o _ _ hc e _ => k b o (fun z => hc (by simp [z])) e) (fun b o _ _ hc e _ => ⟨o.slots, k b o (fun z => hc (by simp [z])) e⟩) (fun _ _ _ _ n => n)
  (fun b o hc e => ⟨o, k b o (fun z => hc (by simp [z])) e⟩) (fun _ _ e => e) (fun _ _ _ e => e) (fun b ps e => ⟨#[], by rw [e]; simp⟩) (fun m hm => ?_) (fun b u e => ?_) I.bare
 ·have e : b = it := by simpa using hb
  subst e
  exact ⟨h1, hL, h2, h3⟩
 ·obtain ⟨o, es, ep, ho, r⟩ := hm
  exact ⟨o, es, ep, k _ o (Ne.symm hL) ho, r⟩
 ·refine (I.hok b u e).stay (fun c v hc q => k c v ?_ q) (fun _ q => q) fun _ _ q => q
  rcases hc with z | z
  ·rw [z]; exact nit b u e
  ·exact nit c _ z
theorem Inv.tok (I : Inv X pins σ H s) (t : Nat) : Inv X pins σ H { s with toks := t } := I.un (h' := s.heap) (t' := t) Un.refl I.hok
theorem Inv.kept {t' : Nat} (I : Inv X pins σ H s) (k : ∀ b u, s.heap.get? b = some u -> h'.get? b = some u) : Inv X pins σ H { s with heap := h', toks := t' } := I.un (Un.kept k) (I.hok.kept k)
theorem Inv.laid {a : Addr} {o : HO} {t' : Nat} (I : Inv X pins σ H s) (k : ∀ b u, s.heap.get? b = some u -> h'.get? b = some u) (hp : s.heap.objs.size <= a) (new : ObjOk X.prog X.w (upd H a o) h' a o) :
  Inv X pins σ (upd H a o) { s with heap := h', toks := t' } := I.un (Un.laid k hp (I.hok.fresh hp)) (I.hok.laid k hp new)
theorem Inv.write {x e : Addr} {o : HO} {t' : Nat} (I : Inv X pins σ H s) (mu : Mut (H x)) (he : e = x \/ H e = some (.own x)) (k : ∀ b u, b ≠ e -> s.heap.get? b = some u -> h'.get? b = some u) (heo : ∃ u, h'.get? e = some u)
  (new : ObjOk X.prog X.w (upd H x o) h' x o) : Inv X pins σ (upd H x o) { s with heap := h', toks := t' } := I.un (Un.write mu he k heo) (I.hok.write mu he k heo new)
theorem Inv.pins_of {pins' : List (Addr × Obj)} (I : Inv X pins σ H s) (h : ∀ p ∈ pins', s.heap.get? p.1 = some p.2 /\ H p.1 = none /\ p.1 ≠ X.env.locals /\ p.1 ∉ X.fs /\ ∀ v, p.2.data ≠ .cell v) : Inv X pins' σ H s :=
 ⟨I.ok, I.os, I.bare, I.base, I.loc, I.cell, I.free, I.freeC, fun p hp => (List.mem_append.mp hp).elim (fun z => I.pin p (List.mem_append_left _ z)) (h p), I.hok, I.len⟩

theorem nodup_ix {N : List Str} (hN : N.Nodup) {i j : Nat} {x : Str} (a : N[i]? = some x) (b : N[j]? = some x) : i = j := by
 obtain ⟨h1, e1⟩ := List.getElem?_eq_some_iff.mp a
 obtain ⟨h2, e2⟩ := List.getElem?_eq_some_iff.mp b
 exact (List.getElem_inj hN).mp (e1.trans e2.symm)

theorem store_ok2 {M : Model} {A : Around} {E : Value -> Shared -> Prop} {i : Nat} {x : Str} {v : V} {u : Value} {Q : Unit -> Shared -> Prop} (I : Inv X pins σ H s) (hN : X.N.Nodup) (hi : X.N[i]? = some x) (hx : Loc X.env.scope x) (r : RelV v u)
  (h : ∀ s', Inv X pins (σ.set i (some v)) H s' -> (∃ a, Heap.SameBut a s.heap s'.heap /\ (a = X.env.locals \/ X.env.cells.lookup x = some a)) -> Q () s') (hf : X.fn x = true \/ X.env.scope.names.lookup x = some .local := by first | exact .inl rfl | exact .inr rfl | assumption) : wpAny M A (storeName X.env x u) Q E s := by
 obtain ⟨m, hn, hl⟩ := id I.loc
 have hcls : (X.env.scope.kind == .class || (X.env.scope.kind == .module && X.env.locals != X.env.globals)) = false := by rw [I.ok.kind]; rfl
 have hiσ : i < σ.length := by rw [I.len]; exact (List.getElem?_eq_some_iff.mp hi).1
 have cne := I.cne
 have tracked : ∀ {a : Addr} {h' : Heap}, (∃ o, s.heap.get? a = some o /\ H a = none) -> Heap.SameBut a s.heap h' -> HOk X.prog X.w H h' := fun {a h'} ha hs b ob e => by
  obtain ⟨_, _, hfree⟩ := ha
  refine (I.hok b ob e).stay (fun c w' hc q => (hs.2 c ?_).trans q) (fun _ q => q) fun _ _ q => q
  rintro rfl
  rcases hc with rfl | hc
  ·rw [hfree] at e; cases e
  ·rw [hfree] at hc; cases hc
 rcases hx with hk | hk
 ·refine wpAny_storeName_local hk hn (fun h' hn' hs => ?_) hcls
  obtain ⟨oL, _, _, hoL, _⟩ := id hn
  refine h _ ⟨I.ok, I.os, I.bare, ⟨fun b o e n hb hx => ?_, fun b o e n hb hx => ?_, I.base.free, fun b o e hx => ?_, I.base.tups, I.base.frzs, I.base.tbls⟩, ⟨_, hn', fun j y v' e1 e2 e3 => ?_⟩, fun y c e => ?_, I.free, I.freeC, fun p hp => ?_, tracked ⟨oL, hoL, I.free⟩ hs, by simpa using I.len⟩ ⟨_, hs, .inl rfl⟩
  ·exact (hs.2 b (Nat.ne_of_lt (Nat.lt_of_lt_of_le (Heap.lt_size e) I.ok.above))).trans (I.base.keep b o e n hb hx)
  ·obtain ⟨sl, e1⟩ := I.base.slot b o e n hb hx
   exact ⟨sl, (hs.2 b (Nat.ne_of_lt (Nat.lt_of_lt_of_le (Heap.lt_size e) I.ok.above))).trans e1⟩
  ·obtain ⟨o', e1⟩ := I.base.there b o e hx
   exact ⟨o', (hs.2 b (Nat.ne_of_lt (Nat.lt_of_lt_of_le (Heap.lt_size e) I.ok.above))).trans e1⟩
  ·by_cases hj : j = i
   ·subst hj
    rw [hi] at e1; cases e1
    rw [List.getElem?_set_self hiσ] at e2
    cases e2
    exact ⟨u, r, .inl ⟨hk, by simp⟩⟩
   ·rw [List.getElem?_set_ne (Ne.symm hj)] at e2
    obtain ⟨u', r', q⟩ := hl j y v' e1 e2 e3
    refine ⟨u', r', ?_⟩
    rcases q with ⟨k, e⟩ | ⟨k, c, e, z⟩
    ·refine .inl ⟨k, ?_⟩
     have : y ≠ x := fun e => hj (nodup_ix hN e1 (e ▸ hi))
     simp [this, e]
    ·exact .inr ⟨k, c, e, z.sameBut hs (cne y c e)⟩
  ·obtain ⟨w', z⟩ := I.cell y c e
   exact ⟨w', z.sameBut hs (cne y c e)⟩
  ·obtain ⟨e, n, ne, nf, d⟩ := I.pin p hp
   exact ⟨(hs.2 p.1 ne).trans e, n, ne, nf, d⟩
 ·have hfn : X.fn x = true := by
   rcases hf with z | z
   ·exact z
   ·rw [z] at hk; cases hk
  obtain ⟨c, hc⟩ := I.ok.has x (.inl hk)
  obtain ⟨w', z⟩ := I.cell x c hc
  refine wpAny_storeName_cell I.ok.kind hk hc z (fun h' hc' hs => ?_)
  obtain ⟨oc, hoc, hocd⟩ := id z
  refine h { s with heap := h' } ⟨I.ok, I.os, I.bare, ⟨fun b o e n hb hx => ?_, fun b o e n hb hx => ?_, I.base.free, fun b o e hx => ?_, I.base.tups, I.base.frzs, I.base.tbls⟩, ⟨m, hn.sameBut hs (Ne.symm (cne x c hc)), fun j y v' e1 e2 e3 => ?_⟩, fun y c' e => ?_, I.free, I.freeC, fun p hp => ?_, tracked ⟨oc, hoc, I.freeC x c hc⟩ hs, by simpa using I.len⟩ ⟨c, hs, .inr hc⟩
  ·exact (hs.2 b (Nat.ne_of_lt (Nat.lt_of_lt_of_le (Heap.lt_size e) (I.ok.cab x c hfn hc)))).trans (I.base.keep b o e n hb hx)
  ·obtain ⟨sl, e1⟩ := I.base.slot b o e n hb hx
   exact ⟨sl, (hs.2 b (Nat.ne_of_lt (Nat.lt_of_lt_of_le (Heap.lt_size e) (I.ok.cab x c hfn hc)))).trans e1⟩
  ·obtain ⟨o', e1⟩ := I.base.there b o e hx
   exact ⟨o', (hs.2 b (Nat.ne_of_lt (Nat.lt_of_lt_of_le (Heap.lt_size e) (I.ok.cab x c hfn hc)))).trans e1⟩
  ·by_cases hj : j = i
   ·subst hj
    rw [hi] at e1; cases e1
    rw [List.getElem?_set_self hiσ] at e2
    cases e2
    exact ⟨u, r, .inr ⟨.inl hk, c, hc, hc'⟩⟩
   ·rw [List.getElem?_set_ne (Ne.symm hj)] at e2
    obtain ⟨u', r', q⟩ := hl j y v' e1 e2 e3
    refine ⟨u', r', ?_⟩
    rcases q with q | ⟨k, c', e, z'⟩
    ·exact .inl q
    ·refine .inr ⟨k, c', e, z'.sameBut hs ?_⟩
     rintro rfl
     exact hj (nodup_ix hN e1 (I.ok.inj _ _ _ e hc ▸ hi))
  ·by_cases hcc : c' = c
   ·subst hcc; exact ⟨_, hc'⟩
   ·obtain ⟨w2, z2⟩ := I.cell y c' e
    exact ⟨w2, z2.sameBut hs hcc⟩
  ·obtain ⟨e, n, ne, nf, d⟩ := I.pin p hp
   refine ⟨(hs.2 p.1 ?_).trans e, n, ne, nf, d⟩
   intro q
   rw [q, hoc] at e
   have q' : oc = p.2 := Option.some.inj e
   exact d w' (by rw [<- q']; exact hocd)
theorem store_ok {M : Model} {A : Around} {E : Value -> Shared -> Prop} {i : Nat} {x : Str} {v : V} {u : Value} {Q : Unit -> Shared -> Prop} (I : Inv X pins σ H s) (hN : X.N.Nodup) (hi : X.N[i]? = some x) (hx : Loc X.env.scope x) (r : RelV v u)
  (h : ∀ s', Inv X pins (σ.set i (some v)) H s' -> Q () s') (hf : X.fn x = true \/ X.env.scope.names.lookup x = some .local := by first | exact .inl rfl | exact .inr rfl | assumption) : wpAny M A (storeName X.env x u) Q E s :=
 store_ok2 I hN hi hx r (fun s' I' _ => h s' I') hf
theorem Inv.call' {s' : Shared} {ch : List Addr} (I : Inv X pins σ H s) (ho : s'.os = s.os) (u : Un (frs X.stack) ch H H' s.heap s'.heap) (hok : HOk X.prog X.w H' s'.heap) (hg : AllBare s'.gens)
  (hch : ∀ b ∈ ch, (b ∈ X.ex \/ X.s₀.heap.objs.size <= b) /\ b ≠ X.env.locals /\ (∀ x c, X.env.cells.lookup x = some c -> c ≠ b) /\ ∀ p ∈ X.pn ++ pins, p.1 ≠ b) : Inv X pins σ H' s' := by
 obtain ⟨h', g', d', t', o'⟩ := s'
 have e : o' = s.os := ho
 subst e
 exact I.call (g' := g') (t' := t') (d' := d') u hok hg hch
end

noncomputable abbrev XK := Value -> Option Addr -> Hp -> Prop
noncomputable abbrev St := List (Option V)
noncomputable abbrev VK := V -> Hp -> Prop
noncomputable abbrev TE := St -> Hp -> VK -> Prop
noncomputable abbrev TT := St -> Hp -> (Bool -> Hp -> Prop) -> Prop
noncomputable abbrev TA := St -> Hp -> (List V -> Hp -> Prop) -> Prop
structure Ends where
 nx : St -> Hp -> Prop
 rt : VK
 bk : St -> Hp -> Prop := fun _ _ => False
 ct : St -> Hp -> Prop := fun _ _ => False
noncomputable abbrev TS := Ends -> St -> Hp -> Prop

noncomputable def EP (X : Cx) (pins : List (Addr × Obj)) (σ : St) (Q : VK) (u : Value) (s' : Shared) : Prop := ∃ v H', Inv X pins σ H' s' /\ RelV v u /\ Q v H'
noncomputable def TP (X : Cx) (pins : List (Addr × Obj)) (σ : St) (Q : Bool -> Hp -> Prop) (b : Bool) (s' : Shared) : Prop := ∃ H', Inv X pins σ H' s' /\ Q b H'
noncomputable def AP (X : Cx) (pins : List (Addr × Obj)) (σ : St) (Q : List V -> Hp -> Prop) (us : List Value) (s' : Shared) : Prop := ∃ vs H', Inv X pins σ H' s' /\ Vals vs us /\ Q vs H'
noncomputable def SP (X : Cx) (pins : List (Addr × Obj)) (D : Ends) (f : Flow) (s' : Shared) : Prop :=
 match f with
 | .next => ∃ σ' H', Inv X pins σ' H' s' /\ D.nx σ' H'
 | .brk => ∃ σ' H', Inv X pins σ' H' s' /\ D.bk σ' H'
 | .cont => ∃ σ' H', Inv X pins σ' H' s' /\ D.ct σ' H'
 | .ret u => ∃ v σ' H', Inv X pins σ' H' s' /\ RelV v u /\ D.rt v H'

noncomputable def PE (X : Cx) (e : Expr) (t : TE) : Prop :=
 ∀ (pins : List (Addr × Obj)) (s : Shared) (σ : St) (H : Hp) (Q : VK), Inv X pins σ H s -> t σ H Q -> wpAny (model X.prog X.w) X.A (eval e X.env) (EP X pins σ Q) X.xe s
noncomputable def PT (X : Cx) (e : Expr) (t : TT) : Prop :=
 ∀ (pins : List (Addr × Obj)) (s : Shared) (σ : St) (H : Hp) (Q : Bool -> Hp -> Prop), Inv X pins σ H s -> t σ H Q -> wpAny (model X.prog X.w) X.A (isTrue e X.env (eval e X.env)) (TP X pins σ Q) X.xe s
noncomputable def PW (X : Cx) (e : Expr) (t : TT) : Prop :=
 ∀ (whole : Sem Value) (pins : List (Addr × Obj)) (s : Shared) (σ : St) (H : Hp) (Q : Bool -> Hp -> Prop), Inv X pins σ H s -> t σ H Q -> wpAny (model X.prog X.w) X.A (isTrue e X.env whole) (TP X pins σ Q) X.xe s
theorem PW.pt {X : Cx} {e : Expr} {t : TT} (h : PW X e t) : PT X e t := h _
noncomputable def PA (X : Cx) (es : List Expr) (t : TA) : Prop :=
 ∀ (pos : Pos) (pins : List (Addr × Obj)) (s : Shared) (σ : St) (H : Hp) (Q : List V -> Hp -> Prop), Inv X pins σ H s -> t σ H Q -> wpAny (model X.prog X.w) X.A (spliced (backTo pos (starEach es X.env))) (AP X pins σ Q) X.xe s
noncomputable def PS (X : Cx) (st : Stmt) (t : TS) : Prop :=
 ∀ (pins : List (Addr × Obj)) (s : Shared) (σ : St) (H : Hp) (D : Ends), Inv X pins σ H s -> t D σ H -> wpAny (model X.prog X.w) X.A (exec st X.env) (SP X pins D) X.xe s
noncomputable def PSs (X : Cx) (st : List Stmt) (t : TS) : Prop :=
 ∀ (pins : List (Addr × Obj)) (s : Shared) (σ : St) (H : Hp) (D : Ends), Inv X pins σ H s -> t D σ H -> wpAny (model X.prog X.w) X.A (execs st X.env) (SP X pins D) X.xe s
theorem thn {α : Type} {t : Sem α} {Q Q' : α -> Shared -> Prop} {M : Model} {A : Around} {E : Value -> Shared -> Prop} {s : Shared} (h : wpAny M A t Q E s) (hQ : ∀ a s, Q a s -> Q' a s) : wpAny M A t Q' E s := wpAny_mono h hQ fun _ _ x => x
end L2

namespace L2
open PySem PySem.Spec PyProof.Rows
section
variable {X : Cx}

noncomputable def tVar (i : Nat) : TE := fun σ H Q => ∃ v, σ[i]? = some (some v) /\ Q v H
noncomputable def tC (v : V) : TE := fun _ H Q => Q v H
theorem pe_var {i : Nat} {x : Str} {pos : Pos} (hN : X.N[i]? = some x) (hv : Vis X.env.scope x) (hd : (x == ("__debug__" : Str)) = false := by decide) (hcd : (x == ("__classdict__" : Str)) = false := by decide) : PE X (.Name x pos) (tVar i) := by
 intro pins s σ H Q I h
 obtain ⟨v, e, h⟩ := h
 obtain ⟨m, hn, hl⟩ := I.loc
 obtain ⟨u, r, l⟩ := hl i x v hN e hv
 have fin : EP X pins σ Q u s := ⟨v, H, I, r, h⟩
 rcases l with ⟨hk, hm⟩ | ⟨hk, c, hc, hcell⟩
 ·exact wpAny_Name (wpAny_loadName_local I.ok.kind hk hn hm fin) hd
 ·rcases hk with hk | hk
  ·exact wpAny_Name (wpAny_loadName_cell I.ok.kind hk hc hcell fin) hd
  ·exact wpAny_Name (wpAny_loadName_free I.ok.kind hk hc hcell fin hcd) hd
theorem pe_int {i j pos} : PE X (.Constant (.int i) j pos) (tC (.int i)) := fun _ _ _ H _ I h => wpAny_Constant_int ⟨.int i, H, I.tok _, ⟨_, rfl⟩, h⟩
theorem pe_bl {b j pos} : PE X (.Constant (.bool b) j pos) (tC (.bl b)) := fun _ _ _ H _ I h => Constant_bool ⟨.bl b, H, I, rfl, h⟩
noncomputable def Gl (X : Cx) (x : Str) : Prop := X.env.kindOf x = some .globalImplicit
theorem ld_glob {E : Value -> Shared -> Prop} {pins : List (Addr × Obj)} {s : Shared} {σ : St} {H : Hp} {x : Str} {u : Value} {pos : Pos} {Q : Value -> Shared -> Prop} (I : Inv X pins σ H s) (hg : Gl X x) (hm : X.mg x = some u) (h : Q u s)
  (hd : (x == ("__debug__" : Str)) = false := by decide) : wpAny (model X.prog X.w) X.A (eval (.Name x pos) X.env) Q E s :=
 Calls.Name_function_global I.ok.kind hg (Calls.loadGlobal_global (by rw [I.ok.glob]; exact I.mod.glob.keeps I.bk) hm h) hd
theorem ld_blt {E : Value -> Shared -> Prop} {pins : List (Addr × Obj)} {s : Shared} {σ : St} {H : Hp} {x : Str} {u : Value} {pos : Pos} {Q : Value -> Shared -> Prop} (I : Inv X pins σ H s) (hg : Gl X x) (hm : X.mg x = none) (hv : bootBuiltins x = some u) (h : Q u s)
  (hn : x ≠ "__name__" := by decide) (hd : (x == ("__debug__" : Str)) = false := by decide) : wpAny (model X.prog X.w) X.A (eval (.Name x pos) X.env) Q E s := by
 obtain ⟨mb, h1, h2⟩ := I.mod.blt
 exact Calls.Name_function_global I.ok.kind hg (Calls.loadGlobal_builtin (by rw [I.ok.glob]; exact I.mod.glob.keeps I.bk) hm (by rw [I.ok.blt]; exact h1.keeps I.bk) ((h2 x hn).trans hv) h) hd
theorem pe_glob {x : Str} {v : V} {u : Value} {pos : Pos} (hg : Gl X x) (hm : X.mg x = some u) (r : RelV v u) (hd : (x == ("__debug__" : Str)) = false := by decide) : PE X (.Name x pos) (tC v) :=
 fun _ _ _ H _ I h => ld_glob I hg hm ⟨v, H, I, r, h⟩ hd
theorem pe_bltn {x : Str} {v : V} {u : Value} {pos : Pos} (hg : Gl X x) (hm : X.mg x = none) (hv : bootBuiltins x = some u) (r : RelV v u) (hn : x ≠ "__name__" := by decide) (hd : (x == ("__debug__" : Str)) = false := by decide) : PE X (.Name x pos) (tC v) :=
 fun _ _ _ H _ I h => ld_blt I hg hm hv ⟨v, H, I, r, h⟩ hn hd

variable {a b : Expr} {ta tb : TE} {pos : Pos}
noncomputable def PC (X : Cx) (op : CmpOp) (a b : Expr) (t : TE) : Prop :=
 ∀ (pins : List (Addr × Obj)) (s : Shared) (σ : St) (H : Hp) (Q : VK), Inv X pins σ H s -> t σ H Q ->
  wpAny (model X.prog X.w) X.A (eval a X.env) (fun v s₁ => wpAny (model X.prog X.w) X.A (eval b X.env) (fun u s₂ => wpAny (model X.prog X.w) X.A (compareOp op v u) (EP X pins σ Q) X.xe s₂) X.xe s₁) X.xe s
noncomputable def tB (t : TE) : TT := fun σ H Q => t σ H fun x H1 => ∃ c, x = .bl c /\ Q c H1
theorem pt_val {e : Expr} {t : TE} (h : PE X e t) (he : ∀ whole, isTrue e X.env whole = (do let v <- whole; standAt e.pos; holding [v] (truthy v)) := by intro _; rfl) : PT X e (tB t) := by
 intro pins s σ H Q I hw
 refine isTrue_plain (thn (h pins s σ H _ I hw) fun v s1 ⟨x, H1, I1, r1, q1⟩ => ?_) (he _)
 obtain ⟨d, rfl, q⟩ := q1
 cases r1
 exact wpAny_truthy_bool ⟨H1, I1, q⟩

variable {tA tB' : TT} {rest : List Expr}
noncomputable def tAnd (t u : TT) : TT := fun σ H Q => t σ H fun c H1 => if c = true then u σ H1 Q else Q false H1
noncomputable def tOr (t u : TT) : TT := fun σ H Q => t σ H fun c H1 => if c = true then Q true H1 else u σ H1 Q
noncomputable def tNot (t : TT) : TT := fun σ H Q => t σ H fun c H1 => Q (!c) H1
theorem pw_and1 (ha : PT X a tA) : PW X (.BoolOp .And [a] pos) tA := by
 intro wh pins s σ H Q I h
 refine isTrue_and (thn (ha pins s σ H Q I h) fun c s1 e => ?_)
 cases c with
 | true => exact isTrue_and_nil e
 | false => exact e
theorem pw_or1 (ha : PT X a tA) : PW X (.BoolOp .Or [a] pos) tA := by
 intro wh pins s σ H Q I h
 refine isTrue_or (thn (ha pins s σ H Q I h) fun c s1 e => ?_)
 cases c with
 | false => exact isTrue_or_nil e
 | true => exact e
theorem pw_and (ha : PT X a tA) (hb : PW X (.BoolOp .And (b :: rest) pos) tB') : PW X (.BoolOp .And (a :: b :: rest) pos) (tAnd tA tB') := by
 intro wh pins s σ H Q I h
 refine isTrue_and (thn (ha pins s σ H _ I h) fun c s1 ⟨H1, I1, q1⟩ => ?_)
 cases c with
 | true => exact hb wh pins s1 σ H1 Q I1 q1
 | false => exact ⟨H1, I1, q1⟩
theorem pw_or (ha : PT X a tA) (hb : PW X (.BoolOp .Or (b :: rest) pos) tB') : PW X (.BoolOp .Or (a :: b :: rest) pos) (tOr tA tB') := by
 intro wh pins s σ H Q I h
 refine isTrue_or (thn (ha pins s σ H _ I h) fun c s1 ⟨H1, I1, q1⟩ => ?_)
 cases c with
 | true => exact ⟨H1, I1, q1⟩
 | false => exact hb wh pins s1 σ H1 Q I1 q1
theorem pt_not (ha : PT X a tA) : PT X (.UnaryOp .Not a pos) (tNot tA) := by
 intro pins s σ H Q I h
 exact isTrue_not (ha pins s σ H (fun c H1 => Q (!c) H1) I h)
noncomputable def tAndV (ta tb : TE) : TE := fun σ H Q => ta σ H fun x H1 => ∃ c, x = .bl c /\ if c = true then tb σ H1 Q else Q (.bl false) H1
noncomputable def tNotV (ta : TE) : TE := fun σ H Q => ta σ H fun x H1 => ∃ c, x = .bl c /\ Q (.bl (!c)) H1
theorem pe_one {op} {t : TE} (h : PE X a t) : PE X (.BoolOp op [a] pos) t := fun pins s σ H Q I hw => BoolOp_one (h pins s σ H Q I hw)
theorem pe_and (ha : PE X a ta) (hb : PE X (.BoolOp .And (b :: rest) pos) tb) : PE X (.BoolOp .And (a :: b :: rest) pos) (tAndV ta tb) := by
 intro pins s σ H Q I h
 refine BoolOp_and (thn (ha pins s σ H _ I h) fun v s1 ⟨x, H1, I1, r1, q1⟩ => ?_)
 obtain ⟨c, rfl, q1⟩ := q1
 cases r1
 refine wpAny_truthy_bool ?_
 cases c with
 | true => exact hb pins s1 σ H1 Q I1 q1
 | false => exact ⟨.bl false, H1, I1, rfl, q1⟩
theorem pe_not (ha : PE X a ta) : PE X (.UnaryOp .Not a pos) (tNotV ta) := by
 intro pins s σ H Q I h
 refine UnaryOp_ (thn (ha pins s σ H _ I h) fun v s1 ⟨x, H1, I1, r1, q1⟩ => ?_)
 obtain ⟨c, rfl, q1⟩ := q1
 cases r1
 exact not_of (wpAny_truthy_bool ⟨.bl (!c), H1, I1, rfl, q1⟩)
end
end L2

namespace L2
open PySem PySem.Spec PyProof.Rows

noncomputable def SqL (K : PySem.W.Frag) (H : Hp) (a : Addr) (xs : List V) : Prop :=
 Rd H a (.lst xs) ∨
  ∃ (o : Obj) (its : Array Value) (n : Nat), K.lookup a = some o /\ o.cls = .type "list" /\ o.dict = none /\ o.data = .seq its n /\ its.size <= sizeLine /\ Vals xs its.toList
noncomputable def SqT (K : PySem.W.Frag) (H : Hp) (a : Addr) (xs : List V) : Prop :=
 Rd H a (.tup xs) ∨
  ∃ (o : Obj) (its : Array Value) (n : Nat), K.lookup a = some o /\ o.cls = .type "tuple" /\ o.data = .seq its n /\ its.size <= sizeLine /\ Vals xs its.toList
noncomputable def absV : Value -> Option V
 | .none => some .non
 | .bool b => some (.bl b)
 | .int i _ => some (.int i)
 | .str x _ => some (.str x)
 | .bytes b _ => some (.byt b)
 | .float b _ => some (.flt b)
 | .ref a => some (.ref a)
 | .type n => some (.ty n)
 | _ => none
theorem RelV.abs {x : V} {u : Value} (r : RelV x u) : absV u = some x := by
 cases x with
 | non => cases r; rfl
 | bl _ => cases r; rfl
 | int _ => obtain ⟨t, rfl⟩ := r; rfl
 | str _ => obtain ⟨t, rfl⟩ := r; rfl
 | byt _ => obtain ⟨t, rfl⟩ := r; rfl
 | flt _ => obtain ⟨t, rfl⟩ := r; rfl
 | ref _ => cases r; rfl
 | ty _ => cases r; rfl
theorem RelV.inj {x y : V} {u : Value} (r : RelV x u) (q : RelV y u) : x = y := Option.some.inj (r.abs.symm.trans q.abs)
theorem Vals.inj : ∀ {xs ys : List V} {us : List Value}, Vals xs us -> Vals ys us -> xs = ys
 | _, _, _, .nil, .nil => rfl
 | _, _, _, .cons r t, .cons r' t' => by rw [r.inj r', Vals.inj t t']
section
variable {X : Cx} {pins : List (Addr × Obj)} {σ : St} {H : Hp} {s : Shared} {a : Addr} {xs ys : List V}
theorem SqL.of {K : PySem.W.Frag} (h : H a = some (.lst xs)) : SqL K H a xs := .inl (.inl h)
theorem SqT.of {K : PySem.W.Frag} (h : H a = some (.tup xs)) : SqT K H a xs := .inl (.inl h)
theorem Inv.list (I : Inv X pins σ H s) (h : SqL X.K H a xs) : ∃ its : List Value, Vals xs its /\ PlainL s.heap a its.toArray /\ xs.length <= sizeLine := by
 rcases h with h | ⟨o, its, n, hk, hc, hd, hs, hz, r⟩
 ·obtain ⟨z, its, n, r, e⟩ := h.ok I.hok
  exact ⟨its, r, ⟨_, n, e, rfl, rfl, rfl⟩, z⟩
 ·refine ⟨its.toList, r, ⟨o, n, I.kIn a o hk, hc, hd, by simpa using hs⟩, ?_⟩
  have e := r.length
  simp only [Array.length_toList] at e
  omega
theorem Inv.tuple (I : Inv X pins σ H s) (h : SqT X.K H a xs) : ∃ its : List Value, Vals xs its /\ IsTup s.heap a its.toArray /\ xs.length <= sizeLine := by
 rcases h with h | ⟨o, its, n, hk, hc, hs, hz, r⟩
 ·obtain ⟨z, its, r, p⟩ := h.ok I.hok
  exact ⟨its, r, p, z⟩
 ·refine ⟨its.toList, r, ⟨o, I.kIn a o hk, hc, n, by simpa using hs⟩, ?_⟩
  have e := r.length
  simp only [Array.length_toList] at e
  omega
theorem Inv.list_inj (I : Inv X pins σ H s) (h : SqL X.K H a xs) (h' : SqL X.K H a ys) : xs = ys := by
 obtain ⟨its, r, ⟨o, n, e, _, _, d⟩, _⟩ := I.list h
 obtain ⟨its', r', ⟨o', n', e', _, _, d'⟩, _⟩ := I.list h'
 rw [e] at e'; cases e'
 rw [d] at d'
 injection d' with d1 _
 have : its = its' := by simpa using congrArg Array.toList d1
 subst this
 exact r.inj r'
theorem Inv.tuple_inj (I : Inv X pins σ H s) (h : SqT X.K H a xs) (h' : SqT X.K H a ys) : xs = ys := by
 obtain ⟨its, r, ⟨o, e, _, n, d⟩, _⟩ := I.tuple h
 obtain ⟨its', r', ⟨o', e', _, n', d'⟩, _⟩ := I.tuple h'
 rw [e] at e'; cases e'
 rw [d] at d'
 injection d' with d1 _
 have : its = its' := by simpa using congrArg Array.toList d1
 subst this
 exact r.inj r'
end

noncomputable abbrev Cx.wish (X : Cx) (E : Value -> Shared -> Prop) : Cx := { X with xe := E }
noncomputable abbrev Cx.nox (X : Cx) : Cx := X.wish fun _ _ => False
theorem Cx.Ok.wish {X : Cx} (ok : X.Ok) (E : Value -> Shared -> Prop) : (X.wish E).Ok :=
 ⟨ok.mod, ok.kind, ok.glob, ok.blt, ok.above, ok.inj, ok.has, ok.cab, ok.hd, ok.frames, ok.stk, ok.exf, ok.bs, ok.bsz, ok.noex, ok.exfs, ok.funs, ok.frf⟩
theorem Cx.Ok.unwish {X : Cx} {E : Value -> Shared -> Prop} (ok : (X.wish E).Ok) : X.Ok :=
 ⟨ok.mod, ok.kind, ok.glob, ok.blt, ok.above, ok.inj, ok.has, ok.cab, ok.hd, ok.frames, ok.stk, ok.exf, ok.bs, ok.bsz, ok.noex, ok.exfs, ok.funs, ok.frf⟩
section
variable {X : Cx} {pins : List (Addr × Obj)} {σ : St} {H : Hp} {s : Shared} {E : Value -> Shared -> Prop}
theorem Inv.wish (I : Inv X pins σ H s) (E : Value -> Shared -> Prop) : Inv (X.wish E) pins σ H s := ⟨I.ok.wish E, I.os, I.bare, I.base, I.loc, I.cell, I.free, I.freeC, I.pin, I.hok, I.len⟩
theorem Inv.unwish (I : Inv (X.wish E) pins σ H s) : Inv X pins σ H s := ⟨I.ok.unwish, I.os, I.bare, I.base, I.loc, I.cell, I.free, I.freeC, I.pin, I.hok, I.len⟩
theorem SP.unwish {D : Ends} {f : Flow} {s' : Shared} (h : SP (X.wish E) pins D f s') : SP X pins D f s' := by
 cases f with
 | next => obtain ⟨σ', H', I, q⟩ := h; exact ⟨σ', H', I.unwish, q⟩
 | brk => obtain ⟨σ', H', I, q⟩ := h; exact ⟨σ', H', I.unwish, q⟩
 | cont => obtain ⟨σ', H', I, q⟩ := h; exact ⟨σ', H', I.unwish, q⟩
 | ret u => obtain ⟨v, σ', H', I, r, q⟩ := h; exact ⟨v, σ', H', I.unwish, r, q⟩
theorem PSs.nox {st : List Stmt} {t : TS} (h : PSs X.nox st t) : PSs X st t := fun pins s σ H D I hw =>
 wpAny_mono (h pins s σ H D (I.wish _) hw) (fun _ _ q => q.unwish) fun _ _ z => False.elim z
end

section
variable {X : Cx} {st : Stmt} {rest : List Stmt} {t u : TS} {e : Expr} {te : TE} {pos : Pos}
noncomputable def tNext : TS := fun D σ H => D.nx σ H
noncomputable def tSeq (t u : TS) : TS := fun D σ H => t { D with nx := u D } σ H
theorem pss_nil : PSs X [] tNext := fun _ _ σ H _ I h => wpAny_execs_nil ⟨σ, H, I, h⟩
theorem pss_cons (h1 : PS X st t) (h2 : PSs X rest u) : PSs X (st :: rest) (tSeq t u) := by
 intro pins s σ H D I h
 refine wpAny_execs_cons (thn (h1 pins s σ H { D with nx := u D } I h) fun f s1 q => ?_)
 cases f with
 | next =>
  obtain ⟨σ', H', I', q⟩ := q
  exact h2 pins s1 σ' H' D I' q
 | ret v => exact q
 | brk => exact q
 | cont => exact q
theorem pss_one (h1 : PS X st t) : PSs X [st] t := by
 intro pins s σ H D I h
 refine wpAny_execs_cons (thn (h1 pins s σ H D I h) fun f s1 q => ?_)
 cases f with
 | next => exact wpAny_execs_nil q
 | ret v => exact q
 | brk => exact q
 | cont => exact q
theorem Inv.quiet {pins : List (Addr × Obj)} {σ : St} {H : Hp} {s : Shared} (I : Inv X pins σ H s) : interactive X.env = false := by simp [interactive, I.ok.kind]
noncomputable def tDrop (te : TE) : TS := fun D σ H => te σ H fun _ H1 => D.nx σ H1
theorem ps_expr (he : PE X e te) (hs : swapsWith e none pos.line X.env = pure false := by rfl) : PS X (.Expr e pos) (tDrop te) := by
 intro pins s σ H D I h
 exact wpAny_Expr_any (thn (he pins s σ H _ I h) fun v s1 ⟨x, H1, I1, r1, q1⟩ => ⟨σ, H1, I1, q1⟩) I.quiet hs
noncomputable def tRet (te : TE) : TS := fun D σ H => te σ H D.rt
theorem ps_ret (he : PE X e te) : PS X (.Return (some e) pos) (tRet te) := by
 intro pins s σ H D I h
 exact wpAny_Return_some (thn (he pins s σ H _ I h) fun v s1 ⟨x, H1, I1, r1, q1⟩ => ⟨x, σ, H1, I1, r1, q1⟩)
noncomputable def tIfS (c : TT) (t u : TS) : TS := fun D σ H => c σ H fun b H1 => if b = true then t D σ H1 else u D σ H1
theorem ps_if {c : Expr} {a b : List Stmt} {tc : TT} (hc : PT X c tc) (ha : PSs X a t) (hb : PSs X b u) : PS X (.If c a b pos) (tIfS tc t u) := by
 intro pins s σ H D I h
 refine wpAny_If (thn (hc pins s σ H _ I h) fun d s1 ⟨H1, I1, q1⟩ => ?_)
 cases d with
 | true => exact ha pins s1 σ H1 D I1 q1
 | false => exact hb pins s1 σ H1 D I1 q1
noncomputable def tNever : TS := fun _ _ _ => False
theorem ps_never : PS X st tNever := fun _ _ _ _ _ _ h => h.elim
end

noncomputable abbrev TG := V -> St -> Hp -> (St -> Hp -> Prop) -> Prop
noncomputable abbrev TGs := List V -> St -> Hp -> (St -> Hp -> Prop) -> Prop
noncomputable def PG (X : Cx) (target : Expr) (t : TG) : Prop :=
 ∀ (pins : List (Addr × Obj)) (s : Shared) (σ : St) (H : Hp) (v : V) (u : Value) (Q : St -> Hp -> Prop), Inv X pins σ H s -> RelV v u -> t v σ H Q ->
  wpAny (model X.prog X.w) X.A (assign target X.env u) (fun _ s' => ∃ σ' H', Inv X pins σ' H' s' /\ Q σ' H') X.xe s
noncomputable def PGs (X : Cx) (ts : List Expr) (t : TGs) : Prop :=
 ∀ (pins : List (Addr × Obj)) (s : Shared) (σ : St) (H : Hp) (vs : List V) (us : List Value) (Q : St -> Hp -> Prop), Inv X pins σ H s -> Vals vs us -> t vs σ H Q ->
  wpAny (model X.prog X.w) X.A (assignInOrder ((assignEach ts X.env).map (·.2)) us) (fun _ s' => ∃ σ' H', Inv X pins σ' H' s' /\ Q σ' H') X.xe s
noncomputable abbrev TSet := V -> V -> V -> Hp -> (Hp -> Prop) -> Prop
noncomputable def PSet (X : Cx) (t : TSet) : Prop :=
 ∀ (pins : List (Addr × Obj)) (s : Shared) (σ : St) (H : Hp) (o i v : V) (ov iv u : Value) (Q : Hp -> Prop), Inv X pins σ H s -> RelV o ov -> RelV i iv -> RelV v u -> t o i v H Q ->
  wpAny (model X.prog X.w) X.A (setItem ov iv u) (fun _ s' => ∃ H', Inv X pins σ H' s' /\ Q H') X.xe s
section
variable {X : Cx} {pos : Pos}
noncomputable def gName (i : Nat) : TG := fun v σ H Q => Q (σ.set i (some v)) H
theorem pg_name {i : Nat} {x : Str} (hN : X.N.Nodup) (hi : X.N[i]? = some x) (hx : Loc X.env.scope x) (hf : X.fn x = true \/ X.env.scope.names.lookup x = some .local := by first | exact .inl rfl | exact .inr rfl | assumption) : PG X (.Name x pos) (gName i) := by
 intro pins s σ H v u Q I r h
 exact wpAny_assign_Name (store_ok I hN hi hx r (fun s' I' => ⟨_, H, I', h⟩) hf)
noncomputable def gNil : TGs := fun vs σ H Q => vs = [] /\ Q σ H
noncomputable def gCons (t : TG) (u : TGs) : TGs := fun vs σ H Q => ∃ v r, vs = v :: r /\ t v σ H fun σ' H' => u r σ' H' Q
theorem pgs_nil : PGs X [] gNil := by
 intro pins s σ H vs us Q I r h
 obtain ⟨e, h⟩ := h
 subst e
 cases r
 exact assignInOrder_nil ⟨σ, H, I, h⟩
theorem pgs_cons {e : Expr} {es : List Expr} {t : TG} {u : TGs} (h1 : PG X e t) (h2 : PGs X es u)
  (hs : (assignEach (e :: es) X.env).map (·.2) = assign e X.env :: (assignEach es X.env).map (·.2) := by rfl) : PGs X (e :: es) (gCons t u) := by
 intro pins s σ H vs us Q I r h
 obtain ⟨v, vr, e1, h⟩ := h
 subst e1
 cases r with
 | cons r rr =>
  rw [hs]
  refine assignInOrder_cons (thn (h1 pins s σ H _ _ _ I r h) fun _ s1 ⟨σ1, H1, I1, q1⟩ => ?_)
  exact h2 pins s1 σ1 H1 _ _ Q I1 rr q1
noncomputable def gTup (K : PySem.W.Frag) (n : Nat) (t : TGs) : TG := fun v σ H Q => ∃ a xs, v = .ref a /\ SqT K H a xs /\ xs.length = n /\ t xs σ H Q
theorem pg_tup {es : List Expr} {k : Nat} {t : TGs} {n : Nat} (hc : X.calm = true) (h : PGs X es t)
  (hn : (assignEach es X.env).length = n := by rfl) (hst : (assignEach es X.env).findIdx? (·.1) = none := by rfl) : PG X (.Tuple es k pos) (gTup X.K n t) := by
 intro pins s σ H v u Q I r hw
 obtain ⟨a, xs, e1, hq, hl, hw⟩ := hw
 subst e1
 cases r
 obtain ⟨its, rv, ht, hz⟩ := I.tuple hq
 refine assign_Tuple_tuple (I.ok.hd hc) ht (by simp [hn, <- hl, rv.length]) hst fun h' hx => ?_
 have I1 : Inv X pins σ H { s with heap := h' } := I.kept (t' := s.toks) fun b o e => hx b o (Nat.ne_of_lt (Heap.lt_size e)) e
 exact h pins _ σ H xs _ Q I1 (by simpa using rv) hw
noncomputable def gSub (to ti : TE) (t : TSet) : TG := fun v σ H Q => to σ H fun o H1 => ti σ H1 fun i H2 => t o i v H2 fun H3 => Q σ H3
theorem pg_sub {o i : Expr} {to ti : TE} {t : TSet} (ho : PE X o to) (hi : PE X i ti) (hs : PSet X t)
  (ha : ∀ v, assign (.Subscript o i pos) X.env v = (do
   let ov <- holding [v] (eval o X.env)
   let iv <- holding [v, ov] (eval i X.env)
   standAt pos
   holding [v, ov, iv] (setItem ov iv v)
   release [v, ov, iv] []) := by intro _; rfl) : PG X (.Subscript o i pos) (gSub to ti t) := by
 intro pins s σ H v u Q I r h
 rw [ha]
 refine wpAny_bind (wpAny_holding (thn (ho pins s σ H _ I h) fun ov s1 ⟨x, H1, I1, r1, q1⟩ => ?_))
 refine wpAny_bind (wpAny_holding (thn (hi pins s1 σ H1 _ I1 q1) fun iv s2 ⟨y, H2, I2, r2, q2⟩ => ?_))
 refine wpAny_bind (wpAny_standAt (wpAny_bind (wpAny_holding (thn (hs pins s2 σ H2 x y v ov iv u _ I2 r1 r2 r q2) fun _ s3 ⟨H3, I3, q3⟩ => ?_))))
 exact wpAny_release ⟨σ, H3, I3, q3⟩
noncomputable def tAsg (te : TE) (g : TG) : TS := fun D σ H => te σ H fun x H1 => g x σ H1 D.nx
theorem ps_asg {tg e : Expr} {te : TE} {g : TG} (he : PE X e te) (hg : PG X tg g) (hs : swapsWithSole [tg] e pos.line X.env = pure false := by rfl) (hw : swappedStores [tg] e X.env = pure none := by rfl)
  (h1 : (assignEach [tg] X.env).map (·.2) = [assign tg X.env] := by rfl) : PS X (.Assign [tg] e pos) (tAsg te g) := by
 intro pins s σ H D I h
 refine wpAny_Assign_stores (thn (he pins s σ H _ I h) fun v s1 ⟨x, H1, I1, r1, q1⟩ => ?_) hs hw
 rw [h1]
 exact thn (hg pins s1 σ H1 x v _ I1 r1 q1) fun _ s2 q => q
theorem ps_set {i : Nat} {x : Str} {e : Expr} {te : TE} {pos' : Pos} (hN : X.N.Nodup) (hi : X.N[i]? = some x) (hx : Loc X.env.scope x) (he : PE X e te) (hs : swapsWith e (some (.Name x pos')) pos.line X.env = pure false := by rfl) (hf : X.fn x = true \/ X.env.scope.names.lookup x = some .local := by first | exact .inl rfl | exact .inr rfl | assumption) :
  PS X (.Assign [.Name x pos'] e pos) (tAsg te (gName i)) := by
 intro pins s σ H D I h
 refine wpAny_Assign_Name (thn (he pins s σ H _ I h) fun v s1 ⟨y, H1, I1, r1, q1⟩ => ?_) hs
 exact store_ok I1 hN hi hx r1 (fun s2 I2 => ⟨_, H1, I2, q1⟩) hf
end

section
variable {X : Cx} {pos : Pos}
end

structure It where
 go : Nat -> Hp -> Prop
 yld : Nat -> Hp -> V -> Hp -> Prop
 stop : Nat -> Hp -> Prop
noncomputable def FpOk (X : Cx) (pins : List (Addr × Obj)) (H : Hp) (b : Addr) : Prop :=
 H b = none /\ b ≠ X.env.locals /\ b ∉ X.fs /\ (b ∈ X.ex \/ X.s₀.heap.objs.size <= b) /\ (∀ x c, X.env.cells.lookup x = some c -> c ≠ b) /\ ∀ p ∈ X.pn ++ pins, p.1 ≠ b
theorem Inv.fpOk {X : Cx} {pins : List (Addr × Obj)} {σ : St} {H H' : Hp} {s : Shared} {b : Addr} (I : Inv X pins σ H s) (hb : s.heap.objs.size <= b) (hn : H' b = none) : FpOk X pins H' b := by
 refine ⟨hn, Nat.ne_of_gt (Nat.lt_of_lt_of_le I.lt hb), I.nofs hb, .inr (Nat.le_trans I.sz hb), fun x c e z => ?_, fun p hp z => ?_⟩
 ·obtain ⟨v, q⟩ := I.cell x c e
  exact absurd (Nat.lt_of_lt_of_le q.lt (by rw [z]; exact hb)) (Nat.lt_irrefl _)
 ·exact absurd (Nat.lt_of_lt_of_le (Heap.lt_size (I.pin p hp).1) (by rw [z]; exact hb)) (Nat.lt_irrefl _)
structure Turn (P : Program) (w : World) (K : PySem.W.Frag) (tg : Expr) (J : It) (fp : List Addr) (it : Addr) (tn : Nat -> Heap -> Prop) : Prop where
 mem : it ∈ fp
 obj : ∀ i h, tn i h -> ∀ b ∈ fp, ∃ o, h.get? b = some o /\ ∀ v, o.data ≠ .cell v
 keep : ∀ i h h', tn i h -> (∀ b ∈ fp, ∀ o, h.get? b = some o -> h'.get? b = some o) -> tn i h'
 item : ∀ (X : Cx), X.prog = P -> X.w = w -> X.K = K -> X.calm = true -> ∀ (i : Nat) (pins : List (Addr × Obj)) (s : Shared) (σ : St) (H : Hp) (E : Value -> Shared -> Prop), Inv X pins σ H s -> (∀ b ∈ fp, FpOk X pins H b) -> tn i s.heap -> J.go i H ->
  wpAny (model P w) X.A (pyNext (.ref it)) (fun r s1 => ∃ u, r = some u ∧
   wpAny (model P w) X.A (letOwnedTupleGo tg (.ref it) u) (fun _ s2 => ∃ x H', Inv X pins σ H' s2 /\ RelV x u /\ J.yld i H x H' /\ tn (i + 1) s2.heap /\ ∀ b ∈ fp, H' b = none) E s1) E s
 done : ∀ (X : Cx), X.prog = P -> X.w = w -> X.K = K -> X.calm = true -> ∀ (i : Nat) (pins : List (Addr × Obj)) (s : Shared) (σ : St) (H : Hp) (E : Value -> Shared -> Prop), Inv X pins σ H s -> (∀ b ∈ fp, FpOk X pins H b) -> tn i s.heap -> J.stop i H ->
  wpAny (model P w) X.A (pyNext (.ref it)) (fun r s1 => r = none /\ Inv X pins σ H s1) E s
 self : ∀ (A : Around) (i : Nat) (s : Shared) (Q : Value -> Shared -> Prop) (E : Value -> Shared -> Prop), tn i s.heap -> Q (.ref it) s -> wpAny (model P w) A (pyIter (.ref it)) Q E s
noncomputable abbrev TI := St -> Hp -> (It -> Hp -> Prop) -> Prop
noncomputable def PIE (X : Cx) (pins : List (Addr × Obj)) (σ : St) (tg : Expr) (R : It -> Hp -> Prop) (itv : Value) (s2 : Shared) : Prop :=
 ∃ (it : Addr) (fp : List Addr) (tn : Nat -> Heap -> Prop) (J : It) (H' : Hp), itv = .ref it /\ Inv X pins σ H' s2 /\ Turn X.prog X.w X.K tg J fp it tn /\ tn 0 s2.heap /\ (∀ b ∈ fp, FpOk X pins H' b) /\ R J H'
noncomputable def PI (X : Cx) (tg iter : Expr) (wi : TI) : Prop :=
 ∀ (pins : List (Addr × Obj)) (s : Shared) (σ : St) (H : Hp) (R : It -> Hp -> Prop), Inv X pins σ H s -> wi σ H R ->
  wpAny (model X.prog X.w) X.A (eval iter X.env) (fun v s1 => wpAny (model X.prog X.w) X.A (pyIter v) (PIE X pins σ tg R) X.xe s1) X.xe s

theorem go_of {M : Model} {A : Around} {E : Value -> Shared -> Prop} {s : Shared} {tg : Expr} {it : Addr} {u : Value} {o : Obj} {n : String} {vs : Array Value} {Q : Unit -> Shared -> Prop} (ho : s.heap.get? it = some o) (hc : o.cls = .type n) (hd : o.data = .fields vs)
  (hn : ["enumerate", "zip", "dict_itemiterator", "dict_reverseitemiterator", "odict_iterator", "itertools.zip_longest", "itertools.pairwise"].contains n = false) (hQ : Q () s) : wpAny M A (letOwnedTupleGo tg (.ref it) u) Q E s := by
 unfold letOwnedTupleGo
 cases tg <;> first
  | exact wpAny_pure hQ
  | (cases u <;> first
    | exact wpAny_pure hQ
    | (refine wpAny_bind (wpAny_load ho ?_)
       rw [hc, hd]
       show wpAny M A (if (["enumerate", "zip", "dict_itemiterator", "dict_reverseitemiterator", "odict_iterator", "itertools.zip_longest", "itertools.pairwise"].contains n && vs[0]? == some (rawInt _)) = true then _ else _) Q E s
       rw [if_neg (by intro h; rw [hn, Bool.false_and] at h; cases h)]
       exact wpAny_pure hQ))

noncomputable def Itl (K : PySem.W.Frag) (a : Addr) : It :=
 ⟨fun i H => ∃ xs x, SqL K H a xs /\ xs[i]? = some x, fun i H x H' => H' = H /\ ∀ xs, SqL K H a xs -> xs[i]? = some x, fun i H => ∃ xs, SqL K H a xs /\ xs.length <= i⟩
noncomputable def Itt (K : PySem.W.Frag) (a : Addr) : It :=
 ⟨fun i H => ∃ xs x, SqT K H a xs /\ xs[i]? = some x, fun i H x H' => H' = H /\ ∀ xs, SqT K H a xs -> xs[i]? = some x, fun i H => ∃ xs, SqT K H a xs /\ xs.length <= i⟩
noncomputable def Itr (lo : Int) (n : Nat) : It := ⟨fun i _ => i < n, fun i H x H' => H' = H /\ x = .int (lo + i), fun i _ => n <= i⟩
theorem turn_list {P : Program} {w : World} {K : PySem.W.Frag} {tg : Expr} (a it : Addr) : Turn P w K tg (Itl K a) [it] it (fun i h => h.IsListIter it a i) where
 mem := by simp
 obj := fun i h st b hb => by
  have e : b = it := by simpa using hb
  subst e
  obtain ⟨o, e, c, d⟩ := st
  exact ⟨o, e, fun v z => by rw [d] at z; cases z⟩
 keep := fun i h h' st k => st.at fun o e => k it (by simp) o e
 item := by
  intro X hP hw hK hc i pins s σ H E I hf st hg
  subst hP hw hK
  obtain ⟨xs, x, hq, hx⟩ := hg
  obtain ⟨its, rv, p, hz⟩ := I.list hq
  obtain ⟨u, hu, ru⟩ := rv.get hx
  obtain ⟨f0, f1, f2, f3, f4, f5⟩ := hf it (by simp)
  refine wpAny_pyNext_list_item st p.isList (x := u) (by simpa using hu) fun h' st' sb => ?_
  have I1 : Inv X pins σ H { s with heap := h' } := I.turned (t' := s.toks) (fun b o hb e => (sb.2 b hb).trans e) f0 f1 f3 f4 f5
  obtain ⟨o, e, c, d⟩ := id st'
  exact ⟨u, rfl, go_of (s := { s with heap := h' }) e c d (by decide) ⟨x, H, I1, ru, ⟨rfl, fun ys hy => by rw [I.list_inj hy hq]; exact hx⟩, st', fun b hb => (hf b hb).1⟩⟩
 done := by
  intro X hP hw hK hc i pins s σ H E I hf st hg
  subst hP hw hK
  obtain ⟨xs, hq, hx⟩ := hg
  obtain ⟨its, rv, p, hz⟩ := I.list hq
  obtain ⟨f0, f1, f2, f3, f4, f5⟩ := hf it (by simp)
  have hl := rv.length
  exact wpAny_pyNext_list_end (I.ok.hd hc) st p.isList (by simp; omega) fun h' eb => ⟨rfl, I.turned (t' := s.toks) (fun b o hb e => eb b o hb e) f0 f1 f3 f4 f5⟩
 self := fun _ _ _ _ _ st h => wpAny_pyIter_listiter st h
theorem turn_tuple {P : Program} {w : World} {K : PySem.W.Frag} {tg : Expr} (a it : Addr) : Turn P w K tg (Itt K a) [it] it (fun i h => h.IsTupleIter it a i) where
 mem := by simp
 obj := fun i h st b hb => by
  have e : b = it := by simpa using hb
  subst e
  obtain ⟨o, e, c, d⟩ := st
  exact ⟨o, e, fun v z => by rw [d] at z; cases z⟩
 keep := fun i h h' st k => st.at fun o e => k it (by simp) o e
 item := by
  intro X hP hw hK hc i pins s σ H E I hf st hg
  subst hP hw hK
  obtain ⟨xs, x, hq, hx⟩ := hg
  obtain ⟨its, rv, p, hz⟩ := I.tuple hq
  obtain ⟨u, hu, ru⟩ := rv.get hx
  obtain ⟨f0, f1, f2, f3, f4, f5⟩ := hf it (by simp)
  refine wpAny_pyNext_tuple_item st (show s.heap.IsTuple a its.toArray from p) (x := u) (by simpa using hu) fun h' st' sb => ?_
  have I1 : Inv X pins σ H { s with heap := h' } := I.turned (t' := s.toks) (fun b o hb e => (sb.2 b hb).trans e) f0 f1 f3 f4 f5
  obtain ⟨o, e, c, d⟩ := id st'
  exact ⟨u, rfl, go_of (s := { s with heap := h' }) e c d (by decide) ⟨x, H, I1, ru, ⟨rfl, fun ys hy => by rw [I.tuple_inj hy hq]; exact hx⟩, st', fun b hb => (hf b hb).1⟩⟩
 done := by
  intro X hP hw hK hc i pins s σ H E I hf st hg
  subst hP hw hK
  obtain ⟨xs, hq, hx⟩ := hg
  obtain ⟨its, rv, p, hz⟩ := I.tuple hq
  obtain ⟨f0, f1, f2, f3, f4, f5⟩ := hf it (by simp)
  have hl := rv.length
  exact wpAny_pyNext_tuple_end (I.ok.hd hc) st (show s.heap.IsTuple a its.toArray from p) (by simp; omega) fun h' eb => ⟨rfl, I.turned (t' := s.toks) (fun b o hb e => eb b o hb e) f0 f1 f3 f4 f5⟩
 self := fun _ _ _ _ _ st h => wpAny_pyIter_tupleiter st h
theorem turn_range {P : Program} {w : World} {K : PySem.W.Frag} {tg : Expr} (it : Addr) (lo : Int) (n : Nat) : Turn P w K tg (Itr lo n) [it] it (fun i h => IsRangeIter h it (lo + (i : Nat) * 1) ((n : Int) - (i : Nat)) 1) where
 mem := by simp
 obj := fun i h st b hb => by
  have e : b = it := by simpa using hb
  subst e
  exact ⟨_, st, fun v z => by
   have z' : Data.fields _ = Data.cell v := z
   cases z'⟩
 keep := fun i h h' st k => k it (by simp) _ st
 item := by
  intro X hP hw hK hc i pins s σ H E I hf st hg
  subst hP hw hK
  obtain ⟨f0, f1, f2, f3, f4, f5⟩ := hf it (by simp)
  have W := Walks.range (prog := X.prog) (w := X.w) (I.ok.hd hc) it lo 1 n
  refine W.item i s _ _ hg st fun v h' tk hv st' kk => ?_
  obtain ⟨t, rfl⟩ := hv
  have I1 : Inv X pins σ H { s with heap := h', toks := tk } := I.turned (fun b o hb e => kk b o (by simpa using hb) e) f0 f1 f3 f4 f5
  refine ⟨_, rfl, go_of (s := { s with heap := h', toks := tk }) (n := "range_iterator") st' rfl rfl (by decide) ⟨.int (lo + i), H, I1, ⟨t, ?_⟩, ⟨rfl, rfl⟩, st', fun b hb => (hf b hb).1⟩⟩
  rw [Int.mul_one]
 done := by
  intro X hP hw hK hc i pins s σ H E I hf st hg
  subst hP hw hK
  obtain ⟨f0, f1, f2, f3, f4, f5⟩ := hf it (by simp)
  exact wpAny_pyNext_range_end (I.ok.hd hc) st (by have : n <= i := hg; omega) fun h' eb => ⟨rfl, I.turned (t' := s.toks) (fun b o hb e => eb b o hb e) f0 f1 f3 f4 f5⟩
 self := fun _ _ _ _ _ st h => wpAny_pyIter_rangeiter st h
end L2

namespace L2
open PySem PySem.Spec PyProof.Rows
section
variable {X : Cx} {tg : Expr}
noncomputable def iList (K : PySem.W.Frag) (tl : TE) : TI := fun σ H R => tl σ H fun x H1 => ∃ a, x = .ref a /\ (∃ xs, SqL K H1 a xs) /\ R (Itl K a) H1
noncomputable def iTup (K : PySem.W.Frag) (tl : TE) : TI := fun σ H R => tl σ H fun x H1 => ∃ a, x = .ref a /\ (∃ xs, SqT K H1 a xs) /\ R (Itt K a) H1
theorem pi_list {l : Expr} {tl : TE} (hl : PE X l tl) : PI X tg l (iList X.K tl) := by
 intro pins s σ H R I h
 refine thn (hl pins s σ H _ I h) fun v s1 ⟨x, H1, I1, r1, q1⟩ => ?_
 obtain ⟨a, e, ⟨xs, hq⟩, q⟩ := q1
 subst e
 cases r1
 obtain ⟨its, rv, p, hz⟩ := I1.list hq
 refine wpAny_pyIter_list p.isList ?_
 refine ⟨s1.heap.objs.size, [s1.heap.objs.size], _, _, H1, rfl, I1.kept (t' := s1.toks) fun b o e => Heap.get?_push_of_some _ e, turn_list a _, ⟨_, Heap.get?_push_size _ rfl, rfl, rfl⟩, fun b hb => ?_, q⟩
 have e : b = s1.heap.objs.size := by simpa using hb
 subst e
 exact I1.fpOk (Nat.le_refl _) (I1.hok.fresh (Nat.le_refl _))
theorem pi_tup {l : Expr} {tl : TE} (hl : PE X l tl) : PI X tg l (iTup X.K tl) := by
 intro pins s σ H R I h
 refine thn (hl pins s σ H _ I h) fun v s1 ⟨x, H1, I1, r1, q1⟩ => ?_
 obtain ⟨a, e, ⟨xs, hq⟩, q⟩ := q1
 subst e
 cases r1
 obtain ⟨its, rv, p, hz⟩ := I1.tuple hq
 refine wpAny_pyIter_tuple (show s1.heap.IsTuple a its.toArray from p) ?_
 refine ⟨s1.heap.objs.size, [s1.heap.objs.size], _, _, H1, rfl, I1.kept (t' := s1.toks) fun b o e => Heap.get?_push_of_some _ e, turn_tuple a _, ⟨_, Heap.get?_push_size _ rfl, rfl, rfl⟩, fun b hb => ?_, q⟩
 have e : b = s1.heap.objs.size := by simpa using hb
 subst e
 exact I1.fpOk (Nat.le_refl _) (I1.hok.fresh (Nat.le_refl _))
theorem range_it {pins : List (Addr × Obj)} {σ : St} {H : Hp} {s : Shared} {R : It -> Hp -> Prop} {E : Value -> Shared -> Prop} {lo hi : Int} {t u v : Tok} {tk : Nat} (I : Inv X pins σ H s) (h1 : -(2 ^ 62) <= lo) (h2 : lo < 2 ^ 62) (h3 : -(2 ^ 62) <= hi) (h4 : hi < 2 ^ 62)
  (q : R (Itr lo (hi - lo).toNat) H) : wpAny (model X.prog X.w) X.A (pyIter (.ref s.heap.objs.size)) (PIE X pins σ tg R) E { s with heap := s.heap.push { cls := .type "range", data := .fields #[.int lo t, .int hi u, .int 1 v] }, toks := tk } := by
 refine wpAny_pyIter_range (IsRange.new ..) (small_one h1 h2 h3 h4) ?_
 have I1 : Inv X pins σ H { s with heap := s.heap.push { cls := .type "range", data := .fields #[.int lo t, .int hi u, .int 1 v] }, toks := tk } := I.kept fun b o e => Heap.get?_push_of_some _ e
 refine ⟨(s.heap.push { cls := .type "range", data := .fields #[.int lo t, .int hi u, .int 1 v] }).objs.size, [(s.heap.push { cls := .type "range", data := .fields #[.int lo t, .int hi u, .int 1 v] }).objs.size], _, _, H, rfl,
  I1.kept (t' := tk) fun b o e => Heap.get?_push_of_some _ e, turn_range _ lo (hi - lo).toNat, ?_, fun b hb => ?_, q⟩
 ·have e1 : lo + ((0 : Nat) : Int) * 1 = lo := by simp
  have e2 : (((hi - lo).toNat : Nat) : Int) - ((0 : Nat) : Int) = Builtin.Range.rangeSize lo hi 1 := by rw [rangeSize_one]; split <;> omega
  show IsRangeIter _ _ (lo + ((0 : Nat) : Int) * 1) ((((hi - lo).toNat : Nat) : Int) - ((0 : Nat) : Int)) 1
  rw [e1, e2]
  exact Heap.get?_push_size _ rfl
 ·have e : b = (s.heap.push { cls := .type "range", data := .fields #[.int lo t, .int hi u, .int 1 v] }).objs.size := by simpa using hb
  subst e
  exact I1.fpOk (Nat.le_refl _) (I1.hok.fresh (Nat.le_refl _))
noncomputable def iRng1 (ta : TA) : TI := fun σ H R => ta σ H fun vs H1 => ∃ j : Int, vs = [.int j] /\ -(2 ^ 62) <= j /\ j < 2 ^ 62 /\ R (Itr 0 j.toNat) H1
noncomputable def iRng2 (ta : TA) : TI := fun σ H R => ta σ H fun vs H1 => ∃ i j : Int, vs = [.int i, .int j] /\ (-(2 ^ 62) <= i /\ i < 2 ^ 62 /\ -(2 ^ 62) <= j /\ j < 2 ^ 62) /\ R (Itr i (j - i).toNat) H1
theorem pi_range1 {a : Expr} {ta : TA} {p pos : Pos} (hg : Gl X "range") (hm : X.mg "range" = none) (ha : PA X [a] ta) (hs : starEach [a] X.env = [(false, eval a X.env)] := by rfl) : PI X tg (.Call (.Name "range" p) [a] [] pos) (iRng1 ta) := by
 intro pins s σ H R I h
 refine Call_ (ld_blt I hg hm boot_range (PyProof.Rows.callWith_type1 (thn (ha pos pins s σ H _ I h) fun us s1 ⟨vs, H1, I1, r1, q1⟩ => ?_) hs rfl))
 obtain ⟨j, e, q1, q2, q⟩ := q1
 subst e
 cases r1 with
 | cons r rr =>
  cases rr
  obtain ⟨t, rfl⟩ := r
  exact call_range_1 (range_it I1 (by omega) (by omega) q1 q2 (by simpa using q))
theorem pi_range2 {a b : Expr} {ta : TA} {p pos : Pos} (hg : Gl X "range") (hm : X.mg "range" = none) (ha : PA X [a, b] ta) (hs : starEach [a, b] X.env = [(false, eval a X.env), (false, eval b X.env)] := by rfl) (hs2 : starEach [b] X.env = [(false, eval b X.env)] := by rfl) :
  PI X tg (.Call (.Name "range" p) [a, b] [] pos) (iRng2 ta) := by
 intro pins s σ H R I h
 refine Call_ (ld_blt I hg hm boot_range (PyProof.Rows.callWith_type1 (thn (ha pos pins s σ H _ I h) fun us s1 ⟨vs, H1, I1, r1, q1⟩ => ?_) (by rw [hs, hs2]) (by rw [hs2]; rfl)))
 obtain ⟨i, j, e, ⟨q1, q2, q3, q4⟩, q⟩ := q1
 subst e
 cases r1 with
 | cons r rr =>
  cases rr with
  | cons r' rr =>
   cases rr
   obtain ⟨t, rfl⟩ := r
   obtain ⟨t', rfl⟩ := r'
   exact call_range_2 (range_it I1 q1 q2 q3 q4 q)

noncomputable def tFor (wi : TI) (g : TG) (tb : TS) : TS := fun D σ H => wi σ H fun J H1 => ∃ W : Nat -> Nat -> St -> Hp -> Prop, (∃ m, W 0 m σ H1) /\ ∀ i m σ H, W i m σ H ->
 (J.stop i H /\ D.nx σ H) \/ (J.go i H /\ ∃ N : St -> Hp -> Prop, (∀ σ' H', N σ' H' -> ∃ m', m' < m /\ W (i + 1) m' σ' H') /\ ∀ x H', J.yld i H x H' -> g x σ H' fun σ2 H2 => tb { D with nx := N, ct := N, bk := D.nx } σ2 H2)
noncomputable def pinsAt (fp : List Addr) (h : Heap) : List (Addr × Obj) := fp.filterMap fun b => (h.get? b).map fun o => (b, o)
theorem mem_pinsAt {fp : List Addr} {h : Heap} {b : Addr} {o : Obj} (hb : b ∈ fp) (e : h.get? b = some o) : (b, o) ∈ pinsAt fp h := List.mem_filterMap.mpr ⟨b, hb, by rw [e]; rfl⟩
theorem of_pinsAt {fp : List Addr} {h : Heap} {p : Addr × Obj} (hp : p ∈ pinsAt fp h) : p.1 ∈ fp /\ h.get? p.1 = some p.2 := by
 obtain ⟨b, hb, e⟩ := List.mem_filterMap.mp hp
 cases q : h.get? b with
 | none => rw [q] at e; cases e
 | some o =>
  rw [q] at e
  have e' : (b, o) = p := Option.some.inj e
  subst e'
  exact ⟨hb, q⟩
theorem Inv.pinned {pins : List (Addr × Obj)} {σ : St} {H : Hp} {s : Shared} {fp : List Addr} (I : Inv X pins σ H s) (hf : ∀ b ∈ fp, FpOk X pins H b) (ho : ∀ b ∈ fp, ∃ o, s.heap.get? b = some o /\ ∀ v, o.data ≠ .cell v) : Inv X (pins ++ pinsAt fp s.heap) σ H s :=
 I.pins_of fun p hp => (List.mem_append.mp hp).elim (fun z => I.pin p (List.mem_append_right _ z)) fun z => by
  obtain ⟨hb, e⟩ := of_pinsAt z
  obtain ⟨f0, f1, f2, _⟩ := hf p.1 hb
  obtain ⟨o, e', d⟩ := ho p.1 hb
  rw [e] at e'; cases e'
  exact ⟨e, f0, f1, f2, d⟩
theorem Inv.unpinned {pins pl : List (Addr × Obj)} {σ : St} {H : Hp} {s : Shared} (I : Inv X (pins ++ pl) σ H s) : Inv X pins σ H s := I.pins_of fun p hp => I.pin p (List.mem_append_right _ (List.mem_append_left _ hp))
theorem ps_for {iter : Expr} {body : List Stmt} {wi : TI} {g : TG} {tb : TS} {pos : Pos} (hp : PassesOwn (model X.prog X.w) X.A X.env X.xe) (hc : X.calm = true) (hi : PI X tg iter wi) (hg : PG X tg g) (hb : PSs X body tb)
  (hs : ∀ x, foldedSetIterable iter X.env x = pure x := by intro _; rfl) : PS X (.For tg iter body [] pos) (tFor wi g tb) := by
 intro pins s σ H D I h
 refine wpAny_For (thn (hi pins s σ H _ I h) fun v s1 h1 => thn h1 fun itv s2 h2 => ?_) hs
 obtain ⟨it, fp, tn, J, H2, e, I2, T, st2, f2, W, ⟨m0, w0⟩, turn⟩ := h2
 subst e
 -- what stays true of the iterator's objects through the loop
 have stat : ∀ {H' : Hp}, (∀ b ∈ fp, H' b = none) -> ∀ b ∈ fp, FpOk X pins H' b := fun hn b hb => ⟨hn b hb, (f2 b hb).2⟩
 refine codeAny_forLoop_any (fun n s' => ∃ i σ' H', Inv X pins σ' H' s' /\ tn i s'.heap /\ (∀ b ∈ fp, H' b = none) /\ W i n σ' H') ?_ m0 ⟨0, σ, H2, I2, st2, fun b hb => (f2 b hb).1, w0⟩
 rintro n s3 ⟨i, σ3, H3, I3, st3, fr3, w3⟩
 rcases turn i n σ3 H3 w3 with ⟨stop, qn⟩ | ⟨go, N, hN, step⟩
 ·refine wpAny_passesOwn hp (thn (T.done X rfl rfl rfl hc i pins s3 σ3 H3 X.xe I3 (stat fr3) st3 stop) fun r s4 ⟨hr, I4⟩ => ?_)
  subst hr
  exact wpAny_execs_nil ⟨σ3, H3, I4, qn⟩
 ·refine wpAny_passesOwn hp (thn (T.item X rfl rfl rfl hc i pins s3 σ3 H3 X.xe I3 (stat fr3) st3 go) fun r s4 ⟨u, hr, h4⟩ => ?_)
  subst hr
  refine wpAny_passesOwn hp (thn h4 fun _ s5 ⟨x, H5, I5, r5, y5, st5, fr5⟩ => ?_)
  have I5' := I5.pinned (stat fr5) (T.obj _ _ st5)
  refine wpAny_passesOwn hp (thn (hg _ s5 σ3 H5 x u _ I5' r5 (step x H5 y5)) fun _ s6 ⟨σ6, H6, I6, q6⟩ => ?_)
  refine wpAny_passesOwn hp (thn (hb _ s6 σ6 H6 _ I6 q6) fun f s7 q7 => ?_)
  have again : ∀ {σ7 : St} {H7 : Hp}, Inv X (pins ++ pinsAt fp s5.heap) σ7 H7 s7 -> N σ7 H7 -> ∃ m, m < n /\ ∃ i σ' H', Inv X pins σ' H' s7 /\ tn i s7.heap /\ (∀ b ∈ fp, H' b = none) /\ W i m σ' H' := fun {σ7 H7} I7 n7 => by
   obtain ⟨m', hm, w7⟩ := hN σ7 H7 n7
   refine ⟨m', hm, i + 1, σ7, H7, I7.unpinned, T.keep _ _ _ st5 fun b hb o e => (I7.pin (b, o) (List.mem_append_right _ (List.mem_append_right _ (mem_pinsAt hb e)))).1, fun b hb => ?_, w7⟩
   obtain ⟨o, e, d⟩ := T.obj _ _ st5 b hb
   exact (I7.pin (b, o) (List.mem_append_right _ (List.mem_append_right _ (mem_pinsAt hb e)))).2.1
  cases f with
  | next => obtain ⟨σ7, H7, I7, n7⟩ := q7; exact again I7 n7
  | cont => obtain ⟨σ7, H7, I7, n7⟩ := q7; exact again I7 n7
  | brk => obtain ⟨σ7, H7, I7, q7⟩ := q7; exact ⟨σ7, H7, I7.unpinned, q7⟩
  | ret v => obtain ⟨x7, σ7, H7, I7, r7, q7⟩ := q7; exact ⟨x7, σ7, H7, I7.unpinned, r7, q7⟩
end

theorem for_list {K : PySem.W.Frag} {a : Addr} {xs : List V} {g : TG} {tb : TS} {D : Ends} {σ : St} {H : Hp} (Pv : Nat -> St -> Hp -> Prop) (h0 : Pv 0 σ H) (hl : ∀ i σ H, i <= xs.length -> Pv i σ H -> SqL K H a xs)
  (hs : ∀ i x σ H, xs[i]? = some x -> Pv i σ H -> g x σ H fun σ2 H2 => tb { D with nx := Pv (i + 1), ct := Pv (i + 1), bk := D.nx } σ2 H2) (hd : ∀ σ H, Pv xs.length σ H -> D.nx σ H) :
  ∃ W : Nat -> Nat -> St -> Hp -> Prop, (∃ m, W 0 m σ H) /\ ∀ i m σ H, W i m σ H ->
   ((Itl K a).stop i H /\ D.nx σ H) \/ ((Itl K a).go i H /\ ∃ N : St -> Hp -> Prop, (∀ σ' H', N σ' H' -> ∃ m', m' < m /\ W (i + 1) m' σ' H') /\ ∀ x H', (Itl K a).yld i H x H' -> g x σ H' fun σ2 H2 => tb { D with nx := N, ct := N, bk := D.nx } σ2 H2) := by
 refine ⟨fun i m σ H => m = xs.length - i /\ i <= xs.length /\ Pv i σ H, ⟨xs.length, by simp, Nat.zero_le _, h0⟩, ?_⟩
 rintro i m σ H ⟨rfl, hi, p⟩
 have q := hl i σ H hi p
 by_cases hlt : i < xs.length
 ·refine .inr ⟨⟨xs, xs[i], q, by simp [hlt]⟩, Pv (i + 1), fun σ' H' p' => ⟨xs.length - (i + 1), by omega, rfl, hlt, p'⟩, fun x H' y => ?_⟩
  obtain ⟨e, y⟩ := y
  subst e
  exact hs i x σ _ (y xs q) p
 ·have e : i = xs.length := by omega
  subst e
  exact .inl ⟨⟨xs, q, Nat.le_refl _⟩, hd σ H p⟩
theorem for_range {lo : Int} {n : Nat} {g : TG} {tb : TS} {D : Ends} {σ : St} {H : Hp} (Pv : Nat -> St -> Hp -> Prop) (h0 : Pv 0 σ H)
  (hs : ∀ i σ H, i < n -> Pv i σ H -> g (.int (lo + i)) σ H fun σ2 H2 => tb { D with nx := Pv (i + 1), ct := Pv (i + 1), bk := D.nx } σ2 H2) (hd : ∀ σ H, Pv n σ H -> D.nx σ H) :
  ∃ W : Nat -> Nat -> St -> Hp -> Prop, (∃ m, W 0 m σ H) /\ ∀ i m σ H, W i m σ H ->
   ((Itr lo n).stop i H /\ D.nx σ H) \/ ((Itr lo n).go i H /\ ∃ N : St -> Hp -> Prop, (∀ σ' H', N σ' H' -> ∃ m', m' < m /\ W (i + 1) m' σ' H') /\ ∀ x H', (Itr lo n).yld i H x H' -> g x σ H' fun σ2 H2 => tb { D with nx := N, ct := N, bk := D.nx } σ2 H2) := by
 refine ⟨fun i m σ H => m = n - i /\ i <= n /\ Pv i σ H, ⟨n, by simp, Nat.zero_le _, h0⟩, ?_⟩
 rintro i m σ H ⟨rfl, hi, p⟩
 by_cases hlt : i < n
 ·refine .inr ⟨hlt, Pv (i + 1), fun σ' H' p' => ⟨n - (i + 1), by omega, rfl, hlt, p'⟩, fun x H' y => ?_⟩
  obtain ⟨e, y⟩ := y
  subst e y
  exact hs i σ _ hlt p
 ·have e : i = n := by omega
  subst e
  exact .inl ⟨Nat.le_refl _, hd σ H p⟩
end L2

namespace L2
open PySem PySem.Spec PyProof.Rows

noncomputable abbrev R2 := V -> V -> Hp -> VK -> Prop
noncomputable def OpR (X : Cx) (f : Value -> Value -> Sem Value) (r : R2) : Prop :=
 ∀ (pins : List (Addr × Obj)) (s : Shared) (σ : St) (H : Hp) (x y : V) (v u : Value) (Q : VK), Inv X pins σ H s -> RelV x v -> RelV y u -> r x y H Q ->
  wpAny (model X.prog X.w) X.A (f v u) (EP X pins σ Q) X.xe s
noncomputable def UnR (X : Cx) (f : Value -> Sem Value) (r : V -> Hp -> VK -> Prop) : Prop :=
 ∀ (pins : List (Addr × Obj)) (s : Shared) (σ : St) (H : Hp) (x : V) (v : Value) (Q : VK), Inv X pins σ H s -> RelV x v -> r x H Q ->
  wpAny (model X.prog X.w) X.A (f v) (EP X pins σ Q) X.xe s
noncomputable def CallR (X : Cx) (f : Value) (r : List V -> Hp -> VK -> Prop) : Prop :=
 ∀ (pins : List (Addr × Obj)) (s : Shared) (σ : St) (H : Hp) (xs : List V) (us : List Value) (Q : VK), Inv X pins σ H s -> Vals xs us -> r xs H Q ->
  wpAny (model X.prog X.w) X.A (call f us) (EP X pins σ Q) X.xe s
noncomputable def tOp (r : R2) (ta tb : TE) : TE := fun σ H Q => ta σ H fun x H1 => tb σ H1 fun y H2 => r x y H2 Q
noncomputable def tUn (r : V -> Hp -> VK -> Prop) (ta : TE) : TE := fun σ H Q => ta σ H fun x H1 => r x H1 Q
noncomputable def rI (C : Int -> Int -> Prop) (g : Int -> Int -> V) : R2 := fun x y H Q => ∃ i j, x = .int i /\ y = .int j /\ C i j /\ Q (g i j) H
noncomputable def rI0 (g : Int -> Int -> V) : R2 := fun x y H Q => ∃ i j, x = .int i /\ y = .int j /\ Q (g i j) H
noncomputable def rU (g : Int -> V) : V -> Hp -> VK -> Prop := fun x H Q => ∃ i, x = .int i /\ Q (g i) H

section
variable {X : Cx} {a b c : Expr} {ta tb tc : TE} {pos : Pos}

theorem binT (ha : PE X a ta) (hb : PE X b tb) {pins : List (Addr × Obj)} {s : Shared} {σ : St} {H : Hp} {R : V -> V -> Hp -> Prop} (I : Inv X pins σ H s)
  (h : ta σ H fun x H1 => tb σ H1 fun y H2 => R x y H2) {Q : Value -> Shared -> Prop} {f : Value -> Value -> Sem Value}
  (hf : ∀ v u s2 x y H2, Inv X pins σ H2 s2 -> RelV x v -> RelV y u -> R x y H2 -> wpAny (model X.prog X.w) X.A (f v u) Q X.xe s2) :
  wpAny (model X.prog X.w) X.A (eval a X.env) (fun v s₁ => wpAny (model X.prog X.w) X.A (eval b X.env) (fun u s₂ => wpAny (model X.prog X.w) X.A (f v u) Q X.xe s₂) X.xe s₁) X.xe s := by
 refine thn (ha pins s σ H _ I h) fun v s1 ⟨x, H1, I1, r1, q1⟩ => ?_
 refine thn (hb pins s1 σ H1 _ I1 q1) fun u s2 ⟨y, H2, I2, r2, q2⟩ => ?_
 exact hf v u s2 x y H2 I2 r1 r2 q2

theorem pe_op {op : Operator} {r : R2} (ho : OpR X (binaryOp op) r) (ha : PE X a ta) (hb : PE X b tb) : PE X (.BinOp a op b pos) (tOp r ta tb) := by
 intro pins s σ H Q I h
 exact wpAny_BinOp (binT ha hb I h fun v u s2 x y H2 I2 rx ry q => ho pins s2 σ H2 x y v u Q I2 rx ry q)
theorem pe_un {op : UnaryOp} {r : V -> Hp -> VK -> Prop} (ho : UnR X (unaryOp op) r) (ha : PE X a ta) : PE X (.UnaryOp op a pos) (tUn r ta) := by
 intro pins s σ H Q I h
 exact UnaryOp_ (thn (ha pins s σ H _ I h) fun v s1 ⟨x, H1, I1, r1, q1⟩ => ho pins s1 σ H1 x v Q I1 r1 q1)
theorem opI {f : Value -> Value -> Sem Value} {C : Int -> Int -> Prop} {g : Int -> Int -> Int}
  (rule : ∀ (i j : Int) (t u : Tok) (s : Shared) (Q : Value -> Shared -> Prop) (E : Value -> Shared -> Prop), C i j -> Q (.int (g i j) s.toks) { s with toks := s.toks + 1 } -> wpAny (model X.prog X.w) X.A (f (.int i t) (.int j u)) Q E s) :
  OpR X f (rI C fun i j => .int (g i j)) := by
 intro pins s σ H x y v u Q I rx ry h
 obtain ⟨i, j, rfl, rfl, hc, q⟩ := h
 obtain ⟨t, rfl⟩ := rx
 obtain ⟨t', rfl⟩ := ry
 exact rule i j t t' s _ _ hc ⟨.int (g i j), H, I.tok _, ⟨_, rfl⟩, q⟩
theorem opI0 {f : Value -> Value -> Sem Value} {g : Int -> Int -> Int}
  (rule : ∀ (i j : Int) (t u : Tok) (s : Shared) (Q : Value -> Shared -> Prop) (E : Value -> Shared -> Prop), Q (.int (g i j) s.toks) { s with toks := s.toks + 1 } -> wpAny (model X.prog X.w) X.A (f (.int i t) (.int j u)) Q E s) :
  OpR X f (rI0 fun i j => .int (g i j)) := by
 intro pins s σ H x y v u Q I rx ry h
 obtain ⟨i, j, rfl, rfl, q⟩ := h
 obtain ⟨t, rfl⟩ := rx
 obtain ⟨t', rfl⟩ := ry
 exact rule i j t t' s _ _ ⟨.int (g i j), H, I.tok _, ⟨_, rfl⟩, q⟩
theorem opB0 {f : Value -> Value -> Sem Value} {g : Int -> Int -> Bool}
  (rule : ∀ (i j : Int) (t u : Tok) (s : Shared) (Q : Value -> Shared -> Prop) (E : Value -> Shared -> Prop), Q (.bool (g i j)) s -> wpAny (model X.prog X.w) X.A (f (.int i t) (.int j u)) Q E s) :
  OpR X f (rI0 fun i j => .bl (g i j)) := by
 intro pins s σ H x y v u Q I rx ry h
 obtain ⟨i, j, rfl, rfl, q⟩ := h
 obtain ⟨t, rfl⟩ := rx
 obtain ⟨t', rfl⟩ := ry
 exact rule i j t t' s _ _ ⟨.bl (g i j), H, I, rfl, q⟩

noncomputable def CPow (i j : Int) : Prop := 0 <= j /\ j <= 1000000 /\ i.natAbs < 2 ^ 64
theorem op_add : OpR X (binaryOp .Add) (rI0 fun i j => .int (i + j)) := opI0 fun _ _ _ _ _ _ _ q => add_int q
theorem op_sub : OpR X (binaryOp .Sub) (rI0 fun i j => .int (i - j)) := opI0 fun _ _ _ _ _ _ _ q => sub_int q
theorem op_modN : OpR X (binaryOp .Mod) (rI (fun _ j => j ≠ 0) fun i j => .int (i.fmod j)) := opI fun _ _ _ _ _ _ _ hc q => mod_int' hc q
theorem op_pow : OpR X (binaryOp .Pow) (rI CPow fun i j => .int (i ^ j.toNat)) := opI fun _ _ _ _ _ _ _ hc q => pow_int_small hc.1 hc.2.1 hc.2.2 q
theorem unI {f : Value -> Sem Value} {g : Int -> Int}
  (rule : ∀ (i : Int) (t : Tok) (s : Shared) (Q : Value -> Shared -> Prop) (E : Value -> Shared -> Prop), Q (.int (g i) s.toks) { s with toks := s.toks + 1 } -> wpAny (model X.prog X.w) X.A (f (.int i t)) Q E s) :
  UnR X f (rU fun i => .int (g i)) := by
 intro pins s σ H x v Q I rx h
 obtain ⟨i, rfl, q⟩ := h
 obtain ⟨t, rfl⟩ := rx
 exact rule i t s _ _ ⟨.int (g i), H, I.tok _, ⟨_, rfl⟩, q⟩
theorem un_neg : UnR X (unaryOp .USub) (rU fun i => .int (-i)) := unI fun _ _ _ _ _ q => neg_int q
end

noncomputable def scal : V -> V -> Bool
 | .non, .non => true | .non, .int _ => true | .int _, .non => true | .non, .bl _ => true | .bl _, .non => true | .non, .str _ => true | .str _, .non => true
 | .int _, .int _ => true | .bl _, .bl _ => true | .str _, .str _ => true | .byt _, .byt _ => true
 | .int _, .str _ => true | .str _, .int _ => true | .bl _, .str _ => true | .str _, .bl _ => true
 | _, _ => false
noncomputable def rEq : R2 := fun x y H Q => scal x y = true /\ Q (.bl (decide (x = y))) H
noncomputable def rNe : R2 := fun x y H Q => scal x y = true /\ Q (.bl (!decide (x = y))) H

theorem dec_int {i j : Int} : decide (V.int i = V.int j) = (i == j) := by
 rw [Bool.eq_iff_iff]
 simp
theorem dec_bl {i j : Bool} : decide (V.bl i = V.bl j) = (i == j) := by
 rw [Bool.eq_iff_iff]
 simp
theorem dec_str {i j : Str} : decide (V.str i = V.str j) = (i == j) := by
 rw [Bool.eq_iff_iff]
 simp
theorem dec_byt {i j : Array UInt8} : decide (V.byt i = V.byt j) = (i.toList == j.toList) := by
 rw [Bool.eq_iff_iff]
 cases i
 cases j
 simp

section
variable {X : Cx} {a b c : Expr} {ta tb tc : TE} {pos : Pos}
theorem fin_bl {pins : List (Addr × Obj)} {σ : St} {H : Hp} {s : Shared} {Q : VK} {k k' : Bool} (I : Inv X pins σ H s) (q : Q (.bl k) H) (e : k = k') : EP X pins σ Q (.bool k') s := by
 subst e
 exact ⟨.bl k, H, I, rfl, q⟩
theorem op_eq : OpR X (compareOp .Eq) rEq := by
 intro pins s σ H x y v u Q I rx ry h
 obtain ⟨hs, q⟩ := h
 cases x with
 | non =>
  cases rx
  cases y with
  | non => cases ry; exact PySem.EqNone.eq_none_none (fin_bl I q (by simp))
  | bl j => cases ry; exact PySem.EqNone.eq_none_bool (fin_bl I q (by simp))
  | int j => obtain ⟨t', rfl⟩ := ry; exact PySem.EqNone.eq_none_int (fin_bl I q (by simp))
  | str j => obtain ⟨t', rfl⟩ := ry; exact PySem.EqNone.eq_none_str (fin_bl I q (by simp))
  | _ => exact absurd (show false = true from hs) Bool.false_ne_true
 | bl i =>
  cases rx
  cases y with
  | non => cases ry; exact PySem.EqNone.eq_bool_none (fin_bl I q (by simp))
  | bl j => cases ry; exact eq_bool (fin_bl I q dec_bl)
  | str j => obtain ⟨t', rfl⟩ := ry; exact PySem.EqMixed.eq_bool_str (fin_bl I q (by simp))
  | _ => exact absurd (show false = true from hs) Bool.false_ne_true
 | int i =>
  obtain ⟨t, rfl⟩ := rx
  cases y with
  | non => cases ry; exact PySem.EqNone.eq_int_none (fin_bl I q (by simp))
  | int j => obtain ⟨t', rfl⟩ := ry; exact eq_int (fin_bl I q dec_int)
  | str j => obtain ⟨t', rfl⟩ := ry; exact PySem.EqMixed.eq_int_str (fin_bl I q (by simp))
  | _ => exact absurd (show false = true from hs) Bool.false_ne_true
 | str i =>
  obtain ⟨t, rfl⟩ := rx
  cases y with
  | non => cases ry; exact PySem.EqNone.eq_str_none (fin_bl I q (by simp))
  | bl j => cases ry; exact PySem.EqMixed.eq_str_bool (fin_bl I q (by simp))
  | int j => obtain ⟨t', rfl⟩ := ry; exact PySem.EqMixed.eq_str_int (fin_bl I q (by simp))
  | str j => obtain ⟨t', rfl⟩ := ry; exact eq_str (fin_bl I q dec_str)
  | _ => exact absurd (show false = true from hs) Bool.false_ne_true
 | byt i =>
  obtain ⟨t, rfl⟩ := rx
  cases y with
  | byt j => obtain ⟨t', rfl⟩ := ry; exact PySem.W.eq_bytes (fin_bl I q dec_byt)
  | _ => exact absurd (show false = true from hs) Bool.false_ne_true
 | _ => cases y <;> exact absurd (show false = true from hs) Bool.false_ne_true
theorem op_ne : OpR X (compareOp .NotEq) rNe := by
 intro pins s σ H x y v u Q I rx ry h
 obtain ⟨hs, q⟩ := h
 cases x with
 | non =>
  cases rx
  cases y with
  | non => cases ry; exact PySem.EqNone.ne_none_none (fin_bl I q (by simp))
  | bl j => cases ry; exact PySem.EqNone.ne_none_bool (fin_bl I q (by simp))
  | int j => obtain ⟨t', rfl⟩ := ry; exact PySem.EqNone.ne_none_int (fin_bl I q (by simp))
  | str j => obtain ⟨t', rfl⟩ := ry; exact PySem.EqNone.ne_none_str (fin_bl I q (by simp))
  | _ => exact absurd (show false = true from hs) Bool.false_ne_true
 | bl i =>
  cases rx
  cases y with
  | non => cases ry; exact PySem.EqNone.ne_bool_none (fin_bl I q (by simp))
  | bl j => cases ry; exact ne_bool (fin_bl I q (congrArg not dec_bl))
  | str j => obtain ⟨t', rfl⟩ := ry; exact PySem.EqMixed.ne_bool_str (fin_bl I q (by simp))
  | _ => exact absurd (show false = true from hs) Bool.false_ne_true
 | int i =>
  obtain ⟨t, rfl⟩ := rx
  cases y with
  | non => cases ry; exact PySem.EqNone.ne_int_none (fin_bl I q (by simp))
  | int j => obtain ⟨t', rfl⟩ := ry; exact ne_int (fin_bl I q (congrArg not dec_int))
  | str j => obtain ⟨t', rfl⟩ := ry; exact PySem.EqMixed.ne_int_str (fin_bl I q (by simp))
  | _ => exact absurd (show false = true from hs) Bool.false_ne_true
 | str i =>
  obtain ⟨t, rfl⟩ := rx
  cases y with
  | non => cases ry; exact PySem.EqNone.ne_str_none (fin_bl I q (by simp))
  | bl j => cases ry; exact PySem.EqMixed.ne_str_bool (fin_bl I q (by simp))
  | int j => obtain ⟨t', rfl⟩ := ry; exact PySem.EqMixed.ne_str_int (fin_bl I q (by simp))
  | str j => obtain ⟨t', rfl⟩ := ry; exact ne_str (fin_bl I q (congrArg not dec_str))
  | _ => exact absurd (show false = true from hs) Bool.false_ne_true
 | byt i =>
  obtain ⟨t, rfl⟩ := rx
  cases y with
  | byt j => obtain ⟨t', rfl⟩ := ry; exact PySem.W.ne_bytes (fin_bl I q (congrArg not dec_byt))
  | _ => exact absurd (show false = true from hs) Bool.false_ne_true
 | _ => cases y <;> exact absurd (show false = true from hs) Bool.false_ne_true

theorem op_lt : OpR X (compareOp .Lt) (rI0 fun i j => .bl (decide (i < j))) := opB0 fun _ _ _ _ _ _ _ q => lt_int q
theorem op_le : OpR X (compareOp .LtE) (rI0 fun i j => .bl (decide (i <= j))) := opB0 fun _ _ _ _ _ _ _ q => le_int q
theorem op_gt : OpR X (compareOp .Gt) (rI0 fun i j => .bl (decide (j < i))) := opB0 fun _ _ _ _ _ _ _ q => gt_int q
theorem op_ge : OpR X (compareOp .GtE) (rI0 fun i j => .bl (decide (j <= i))) := opB0 fun _ _ _ _ _ _ _ q => ge_int q
theorem nomark (b : Expr) {op : CmpOp} (h : op ≠ .In := by decide) (h2 : op ≠ .NotIn := by decide) : behindInMarks op b = false := by
 have e1 : (op == CmpOp.In) = false := by cases op <;> first | rfl | exact absurd rfl h
 have e2 : (op == CmpOp.NotIn) = false := by cases op <;> first | rfl | exact absurd rfl h2
 cases b <;> simp [behindInMarks, e1, e2]
theorem pe_cmpR {op : CmpOp} {r : R2} (ho : OpR X (compareOp op) r) (ha : PE X a ta) (hb : PE X b tb) (hm : behindInMarks op b = false) : PE X (.Compare a [op] [b] pos) (tOp r ta tb) := by
 intro pins s σ H Q I h
 exact wpAny_Compare1 (binT ha hb I h fun v u s2 x y H2 I2 rx ry q => ho pins s2 σ H2 x y v u Q I2 rx ry q) hm
noncomputable def tTest (t : TE) : TT := fun σ H Q => t σ H fun x H' => ∃ k, x = .bl k /\ Q k H'
theorem pt_cmpR {op : CmpOp} {r : R2} (ho : OpR X (compareOp op) r) (ha : PE X a ta) (hb : PE X b tb) (hm : behindInMarks op b = false) : PT X (.Compare a [op] [b] pos) (tTest (tOp r ta tb)) := by
 intro pins s σ H Q I h
 refine wpAny_isTrue_Compare1 (thn (ha pins s σ H _ I h) fun v s1 ⟨x, H1, I1, r1, q1⟩ => thn (hb pins s1 σ H1 _ I1 q1) fun u s2 ⟨y, H2, I2, r2, q2⟩ =>
  thn (ho pins s2 σ H2 x y v u _ I2 r1 r2 q2) fun c s3 ⟨z, H3, I3, r3, k, e, q3⟩ => ?_) hm
 subst e
 cases r3
 exact wpAny_truthy_bool ⟨H3, I3, q3⟩
theorem line63 : (sizeLine : Nat) < 2 ^ 63 := by rw [sizeLine_eq]; decide
theorem vals1 {x : V} {us : List Value} (r : Vals [x] us) : ∃ u, us = [u] /\ RelV x u := by
 cases r with
 | cons r1 r2 => cases r2; exact ⟨_, rfl, r1⟩
theorem vals2 {x y : V} {us : List Value} (r : Vals [x, y] us) : ∃ u w', us = [u, w'] /\ RelV x u /\ RelV y w' := by
 cases r with
 | cons r1 r2 =>
  cases r2 with
  | cons r3 r4 => cases r4; exact ⟨_, _, rfl, r1, r3⟩
end
end L2

namespace L2
open PySem PySem.Spec PyProof.Rows

structure ObjM (h : Heap) (x dx C : Addr) (mA : Str -> Option Value) : Prop where
 obj : h.get? x = some (PySem.W.instObj C dx)
 ns : h.Ns1 dx mA
 ne : dx ≠ x

theorem lookIn_ns {h : Heap} {dx : Addr} {mA : Str -> Option Value} (n : h.Ns1 dx mA) : ∃ od, h.get? dx = some od /\ ∀ name, PySem.W.lookIn name od = some (mA name) := by
 obtain ⟨o, es, ep, ho, hd, hk, _, hm⟩ := n
 refine ⟨o, ho, fun name => ?_⟩
 have e := hm name
 unfold nsFind findBy at e
 rw [<- Array.find?_toList] at e
 unfold PySem.W.lookIn
 rw [hd]
 dsimp only
 split
 ·rename_i y q
  rw [q] at e
  exact congrArg some e
 ·rename_i q
  rw [q] at e
  have a : es.toList.any (·.refKey) = false := by
   rw [List.any_eq_false]
   intro y hy
   obtain ⟨z, t, hkey⟩ := hk y (Array.mem_toList_iff.mp hy)
   simp [DictEntry.refKey, hkey]
  have a' : ¬ es.toList.any (·.refKey) = true := by rw [a]; exact Bool.false_ne_true
  rw [if_neg a']
  exact congrArg some e

theorem ObjM.look {h : Heap} {x dx C : Addr} {mA : Str -> Option Value} (I : ObjM h x dx C mA) : ∃ od, PySem.W.InstAt h x (PySem.W.instObj C dx) C (some od) /\ ∀ name, PySem.W.lookIn name od = some (mA name) :=
 let ⟨od, ho, hl⟩ := lookIn_ns I.ns
 ⟨od, ⟨I.obj, rfl, rfl, ho⟩, hl⟩

section
variable {prog : Program} {w : World} {A : Around} {E : Value -> Shared -> Prop} {s : Shared} {K : PySem.W.Frag} {x dx C f : Addr} {mA : Str -> Option Value} {name : Str} {v : Value}

theorem get_map {expr : Bool} {Q : Value -> Shared -> Prop} (X : K.In s.heap) (I : ObjM s.heap x dx C mA) (hg : PySem.W.plainGet K C name = true) (hh : PySem.W.hasDictIn K C = true)
  (ha : PySem.W.findIn K (.ref C) name = some none) (hv : mA name = some v) (hv' : PySem.W.handedIn v = true) (h : Q v { s with toks := s.toks + 1 }) :
  wpAny (model prog w) A (getAttr (.ref x) name expr) Q E s := by
 obtain ⟨od, J, hl⟩ := I.look
 exact PySem.W.get_value X J (PySem.W.plainGet_of hg).1 (PySem.W.findObj_own hh ha rfl (by rw [hl, hv])) hv' h

theorem get_meth {pl : Sem Bool} {Q : Value × List Value -> Shared -> Prop} (X : K.In s.heap) (I : ObjM s.heap x dx C mA) (hg : PySem.W.plainGet K C name = true)
  (hf : PySem.W.findIn K (.ref C) name = some (some (.ref f))) (ht : PySem.W.isFn K (.ref f) = true) (hv : mA name = none) (h : Q (.ref f, [.ref x]) s) :
  wpAny (model prog w) A (getMethod (.ref x) name pl) Q E s := by
 obtain ⟨od, J, hl⟩ := I.look
 exact PySem.W.method_fn X J (PySem.W.plainGet_of hg).1 (PySem.W.plainGet_of hg).2 hf (beq_iff_eq.mp ht) (by show (PySem.W.lookIn name od).map (·.isSome) = some false; rw [hl, hv]; rfl) h

theorem set_map {ns : List Str} {Q : Unit -> Shared -> Prop} (X : K.In s.heap) (I : ObjM s.heap x dx C mA)
  (hs : PySem.W.findIn K (.ref C) "__setattr__" = some (some (.builtin "object.__setattr__"))) (hp : PySem.W.plainOver K C = true) (ht : PySem.W.takerIn K C name = some none) (hh : PySem.W.hasDictIn K C = true)
  (hw : PySem.Within mA ns) (hsz : ns.length <= sizeLine)
  (h : ∀ h', ObjM h' x dx C (fun y => if y = name then some v else mA y) -> Heap.SameBut dx s.heap h' -> Q () { s with heap := h', toks := s.toks + 2 }) :
  wpAny (model prog w) A (setAttr (.ref x) name v) Q E s := by
 obtain ⟨od, J, hl⟩ := I.look
 refine PySem.W.set_plain X J hs (PySem.W.osa_open (s := { s with toks := s.toks + 1 }) (r := none) X J hp ht fun b => ?_)
 obtain ⟨cd, hc, hd'⟩ := PySem.W.any_some hh
 have hx : s.heap.get? x = some ⟨.ref C, some dx, .plain, #[]⟩ := I.obj
 refine wpAny_bind (wpAny_pure (wpAny_bind (wpAny_bind (wpAny_loadPart hx (wpAny_bind (PySem.W.Looks.here (s := { s with toks := s.toks + 1 }) (PySem.W.looks_clsIn X hc) ?_))))))
 rw [hd']
 refine wpAny_pure (a := some dx) (wpAny_bind (wpAny_pure (wpAny_bind ?_)))
 refine wpAny_nsSet1 (s := { s with toks := s.toks + 1 }) I.ns fun h' hn2 hs2 => ?_
 obtain ⟨oD, esD, epD, hoD, hdD, hcD⟩ := hn2.count (PySem.Within.cons name v hw)
 refine wpAny_bind (wpAny_lookBehind hoD (by rw [hdD]; exact pastItsLine_dict (Nat.le_trans hcD (by rw [List.length_cons]; omega))) ?_)
 exact wpAny_pure (h _ ⟨(hs2.2 _ (Ne.symm I.ne)).trans I.obj, hn2, I.ne⟩ hs2)

theorem make_map {R : Result -> Shared -> Prop} {vs : List Value} {kw : List (Str × Value)} (X : K.In s.heap) (hm : PySem.W.makesIn K C = true)
  (hi : PySem.W.findIn K (.ref C) "__init__" = some (some (.ref f))) (hf : PySem.W.typeIn K (.ref f) = some (.type "function"))
  (h : codeAny (model prog w) (A.under (.builtin "type.__call__" ⟨.ref C :: vs, kw⟩)) (.call (.ref f) ⟨.ref (s.heap.objs.size + 1) :: vs, kw⟩) (PySem.W.InitBack (s.heap.objs.size + 1) R)
   { s with heap := (s.heap.push PySem.W.emptyDict).push (PySem.W.instObj C s.heap.objs.size) }) :
  codeAny (model prog w) A (.call (.ref C) ⟨vs, kw⟩) R s := by
 obtain ⟨hh, g, d, t, os⟩ := s
 exact PySem.W.make_core (PySem.W.makes_of X hm) (PySem.W.looks_findIn X hi) (fun self => PySem.W.bind_fn X self hf) (.inl rfl) h
end

noncomputable def putF (f : Str) (v : V) : List (Str × V) -> List (Str × V)
 | [] => [(f, v)]
 | (g, x) :: r => if g = f then (g, v) :: r else (g, x) :: putF f v r
theorem lookup_putF (f g : Str) (v : V) : ∀ fs : List (Str × V), (putF f v fs).lookup g = if g = f then some v else fs.lookup g
 | [] => by
  show List.lookup g [(f, v)] = _
  by_cases h : g = f
  ·have hb : (g == f) = true := beq_iff_eq.mpr h
   simp only [List.lookup, hb, if_pos h]
  ·have hb : (g == f) = false := beq_eq_false_iff_ne.mpr h
   simp only [List.lookup, hb, if_neg h]
 | (k, x) :: r => by
  have ih := lookup_putF f g v r
  rw [show putF f v ((k, x) :: r) = (if k = f then (k, v) :: r else (k, x) :: putF f v r) from rfl]
  by_cases hk : k = f
  ·rw [if_pos hk]
   by_cases h : g = k
   ·have hb : (g == k) = true := beq_iff_eq.mpr h
    simp only [List.lookup, hb, if_pos (h.trans hk)]
   ·have hb : (g == k) = false := beq_eq_false_iff_ne.mpr h
    simp only [List.lookup, hb, if_neg (fun e : g = f => h (e.trans hk.symm))]
  ·rw [if_neg hk]
   by_cases h : g = k
   ·have hb : (g == k) = true := beq_iff_eq.mpr h
    simp only [List.lookup, hb, if_neg (fun e : g = f => hk (h.symm.trans e))]
   ·have hb : (g == k) = false := beq_eq_false_iff_ne.mpr h
    simp only [List.lookup, hb]
    exact ih
theorem keys_putF (f : Str) (v : V) : ∀ fs : List (Str × V), f ∈ (putF f v fs).map (·.1) /\ ∀ g, g ∈ fs.map (·.1) -> g ∈ (putF f v fs).map (·.1)
 | [] => ⟨by simp [putF], fun g h => by simp at h⟩
 | (k, x) :: r => by
  obtain ⟨i1, i2⟩ := keys_putF f v r
  rw [show putF f v ((k, x) :: r) = (if k = f then (k, v) :: r else (k, x) :: putF f v r) from rfl]
  by_cases hk : k = f
  ·rw [if_pos hk]
   subst hk
   exact ⟨by simp, fun g h => by simpa using h⟩
  ·rw [if_neg hk]
   refine ⟨?_, fun g h => ?_⟩
   ·rw [List.map_cons]
    exact List.mem_cons_of_mem _ i1
   ·rw [List.map_cons] at h |-
    rcases List.mem_cons.mp h with e | e
    ·exact List.mem_cons.mpr (.inl e)
    ·exact List.mem_cons_of_mem _ (i2 g e)
theorem length_putF (f : Str) (v : V) : ∀ fs : List (Str × V), (putF f v fs).length <= fs.length + 1
 | [] => by simp [putF]
 | (k, x) :: r => by
  have ih := length_putF f v r
  rw [show putF f v ((k, x) :: r) = (if k = f then (k, v) :: r else (k, x) :: putF f v r) from rfl]
  by_cases hk : k = f
  ·rw [if_pos hk, List.length_cons, List.length_cons]; omega
  ·rw [if_neg hk, List.length_cons, List.length_cons]; omega

theorem RelO.some_of {v : V} {o : Option Value} (r : RelO (some v) o) : ∃ u, o = some u /\ RelV v u := by
 cases o with
 | none => exact (show False from r).elim
 | some u => exact ⟨u, rfl, r⟩
theorem RelO.none_of {o : Option Value} (r : RelO none o) : o = none := by
 cases o with
 | none => rfl
 | some u => exact (show False from r).elim
theorem handed_of {v : V} {u : Value} (r : RelV v u) : PySem.W.handedIn u = true := by
 cases v with
 | non => cases (show u = Value.none from r); rfl
 | bl b => cases (show u = Value.bool b from r); rfl
 | int i => obtain ⟨t, e⟩ := (show ∃ t, u = Value.int i t from r); cases e; rfl
 | str x => obtain ⟨t, e⟩ := (show ∃ t, u = Value.str x t from r); cases e; rfl
 | byt b => obtain ⟨t, e⟩ := (show ∃ t, u = Value.bytes b t from r); cases e; rfl
 | flt b => obtain ⟨t, e⟩ := (show ∃ t, u = Value.float b t from r); cases e; rfl
 | ref a => cases (show u = Value.ref a from r); rfl
 | ty n => cases (show u = Value.type n from r); rfl

section
variable {P : Program} {w : World} {H H' : Hp} {h h' : Heap} {a C dx : Addr} {fs fs' : List (Str × V)}
theorem ins_get (hok : HOk P w H h) (e : H a = some (.ins C dx fs)) : ∃ mA, ObjM h a dx C mA /\ (∀ f, RelO (fs.lookup f) (mA f)) /\ PySem.Within mA (fs.map (·.1)) /\ fs.length <= 1000 /\ H dx = some (.own a) := by
 obtain ⟨d, z, ne, ob, mA, n, r, q⟩ := (show ObjOk P w H h a (.ins C dx fs) from hok a _ e)
 exact ⟨mA, ⟨ob, n, ne⟩, r, q, z, d⟩
end

structure Cls (K : PySem.W.Frag) (C : Addr) : Prop where
 pg : PySem.W.plainGet K C Str.empty = true
 hd : PySem.W.hasDictIn K C = true
 po : PySem.W.plainOver K C = true
 sa : PySem.W.findIn K (.ref C) "__setattr__" = some (some (.builtin "object.__setattr__"))
theorem Cls.get {K : PySem.W.Frag} {C : Addr} (c : Cls K C) (f : Str) : PySem.W.plainGet K C f = true := c.pg
noncomputable def NoAttr (K : PySem.W.Frag) (C : Addr) (f : Str) : Prop := PySem.W.findIn K (.ref C) f = some none
theorem NoAttr.taker {K : PySem.W.Frag} {C : Addr} {f : Str} (n : NoAttr K C f) : PySem.W.takerIn K C f = some none := by
 unfold PySem.W.takerIn
 rw [show PySem.W.findIn K (.ref C) f = some none from n]
 rfl
structure Meth (K : PySem.W.Frag) (C : Addr) (m : Str) (f : Addr) : Prop where
 at_ : PySem.W.findIn K (.ref C) m = some (some (.ref f))
 fn : PySem.W.isFn K (.ref f) = true
 kp : PySem.W.keepIn K (.ref f) = true

section
variable {X : Cx} {pins : List (Addr × Obj)} {σ : St} {H : Hp} {s : Shared} {a C dx : Addr} {fs : List (Str × V)} {f : Str} {v : V} {A : Around} {E : Value -> Shared -> Prop}

theorem getattr_ok {b : Bool} {Q : Value -> Shared -> Prop} (I : Inv X pins σ H s) (e : H a = some (.ins C dx fs)) (c : Cls X.K C) (n : NoAttr X.K C f) (l : fs.lookup f = some v)
  (h : ∀ u s', Inv X pins σ H s' -> RelV v u -> Q u s') : wpAny (model X.prog X.w) A (getAttr (.ref a) f b) Q E s := by
 obtain ⟨mA, O, r, _, _, _⟩ := ins_get I.hok e
 obtain ⟨u, hu, ru⟩ := RelO.some_of (v := v) (o := mA f) (by rw [<- l]; exact r f)
 exact get_map I.kIn O (c.get f) c.hd n hu (handed_of ru) (h u _ (I.tok _) ru)

theorem getmeth_ok {m : Str} {g : Addr} {pl : Sem Bool} {Q : Value × List Value -> Shared -> Prop} (I : Inv X pins σ H s) (e : H a = some (.ins C dx fs)) (c : Cls X.K C) (k : Meth X.K C m g) (l : fs.lookup m = none)
  (h : Q (.ref g, [.ref a]) s) : wpAny (model X.prog X.w) A (getMethod (.ref a) m pl) Q E s := by
 obtain ⟨mA, O, r, _, _, _⟩ := ins_get I.hok e
 have hn : mA m = none := RelO.none_of (by rw [<- l]; exact r m)
 exact get_meth I.kIn O (c.get m) k.at_ k.fn hn h

theorem setattr_ok {y : V} {u : Value} {Q : Unit -> Shared -> Prop} (I : Inv X pins σ H s) (e : H a = some (.ins C dx fs)) (c : Cls X.K C) (n : NoAttr X.K C f) (hl : fs.length < 1000) (ry : RelV y u)
  (h : ∀ s', Inv X pins σ (upd H a (.ins C dx (putF f y fs))) s' -> Q () s') : wpAny (model X.prog X.w) A (setAttr (.ref a) f u) Q E s := by
 obtain ⟨mA, O, r, wi, _, ho⟩ := ins_get I.hok e
 have hz : (fs.map (·.1)).length <= sizeLine := by rw [List.length_map, sizeLine_eq]; omega
 refine set_map I.kIn O c.sa c.po n.taker c.hd wi hz fun h' O' sb => h _ ?_
 have hd : ∃ o, h'.get? dx = some o := let ⟨o, _, _, e', _⟩ := O'.ns; ⟨o, e'⟩
 refine I.write (x := a) (e := dx) (by rw [e]; exact True.intro) (.inr ho) (fun b q hb z => (sb.2 b hb).trans z) hd ?_
 refine ⟨by rw [upd_ne O.ne]; exact ho, ?_, O.ne, O'.obj, _, O'.ns, fun g => ?_, fun g hg => ?_⟩
 ·have := length_putF f y fs; omega
 ·show RelO ((putF f y fs).lookup g) (if g = f then some u else mA g)
  rw [lookup_putF]
  by_cases q : g = f
  ·rw [if_pos q, if_pos q]; exact ry
  ·rw [if_neg q, if_neg q]; exact r g
 ·by_cases q : g = f
  ·rw [q]; exact (keys_putF f y fs).1
  ·refine (keys_putF f y fs).2 g (wi g fun z => hg ?_)
   show (if g = f then some u else mA g) = none
   rw [if_neg q]; exact z

theorem Inv.made (I : Inv X pins σ H s) : Inv X pins σ (upd (upd H s.heap.objs.size (.own (s.heap.objs.size + 1))) (s.heap.objs.size + 1) (.ins C s.heap.objs.size []))
  { s with heap := (s.heap.push PySem.W.emptyDict).push (PySem.W.instObj C s.heap.objs.size) } := by
 have e1 : (s.heap.push PySem.W.emptyDict).get? s.heap.objs.size = some PySem.W.emptyDict := Heap.get?_push_size s.heap rfl
 have e2 : ((s.heap.push PySem.W.emptyDict).push (PySem.W.instObj C s.heap.objs.size)).get? (s.heap.objs.size + 1) = some (PySem.W.instObj C s.heap.objs.size) := by
  have := Heap.get?_push_size (s.heap.push PySem.W.emptyDict) (o := PySem.W.instObj C s.heap.objs.size) rfl
  rwa [Heap.size_push] at this
 have e3 : (s.heap.push PySem.W.emptyDict).Ns s.heap.objs.size (fun _ => none) := ⟨PySem.W.emptyDict, #[], _, e1, rfl, (fun e he => absurd he (by simp)), fun _ => rfl⟩
 have I1 := I.laid (a := s.heap.objs.size) (o := .own (s.heap.objs.size + 1)) (h' := s.heap.push PySem.W.emptyDict) (t' := s.toks) (fun b u q => Heap.get?_push_of_some _ q) (Nat.le_refl _) ⟨_, e1⟩
 refine I1.laid (a := s.heap.objs.size + 1) (o := .ins C s.heap.objs.size []) (t' := s.toks) (fun b u q => Heap.get?_push_of_some _ q) (Nat.le_of_eq (Heap.size_push _ _)) ?_
 have ne : s.heap.objs.size ≠ s.heap.objs.size + 1 := Nat.ne_of_lt (Nat.lt_succ_self _)
 refine ⟨by rw [upd_ne ne, upd_same], Nat.zero_le _, ne, e2, fun _ => none, (Heap.Ns1.of_empty e3).at fun o q => Heap.get?_push_of_some _ q, fun _ => True.intro, fun y hy => absurd rfl hy⟩

theorem attr_of {prog : Program} {w : World} {env : Env} {e : Expr} {f : Str} {pos : Pos} {s : Shared} {Q : Value -> Shared -> Prop} (hb : attributeBase e f env (eval e env) = eval e env)
  (h : wpAny (model prog w) A (eval e env) (fun o s₁ => wpAny (model prog w) A (getAttr o f true) Q E s₁) E s) : wpAny (model prog w) A (eval (.Attribute e f pos) env) Q E s :=
 Attribute_any_ h (by rw [arm_eval_Attribute, hb])
end

noncomputable def tFld (K : PySem.W.Frag) (ta : TE) (f : Str) : TE := fun σ H Q => ta σ H fun x H1 => ∃ a C dx fs v, x = .ref a /\ H1 a = some (.ins C dx fs) /\ Cls K C /\ NoAttr K C f /\ fs.lookup f = some v /\ Q v H1
noncomputable def sFld (K : PySem.W.Frag) (ta tv : TE) (f : Str) : TS := fun D σ H => tv σ H fun y H1 => ta σ H1 fun x H2 => ∃ a C dx fs, x = .ref a /\ H2 a = some (.ins C dx fs) /\ Cls K C /\ NoAttr K C f /\ fs.length < 1000 ∧
 D.nx σ (upd H2 a (.ins C dx (putF f y fs)))
section
variable {X : Cx} {o e value : Expr} {f : Str} {pos pos' tpos : Pos} {ta tv : TE}
theorem pe_fld (he : PE X e ta) (hb : attributeBase e f X.env (eval e X.env) = eval e X.env) : PE X (.Attribute e f pos) (tFld X.K ta f) := by
 intro pins s σ H Q I h
 refine attr_of hb (thn (he pins s σ H _ I h) fun u s1 ⟨x, H1, I1, rx, a, C, dx, fs, v, ex, ea, c, n, l, q⟩ => ?_)
 subst ex
 obtain rfl : u = Value.ref a := rx
 exact getattr_ok I1 ea c n l fun u' s2 I2 ru => ⟨v, H1, I2, ru, q⟩
theorem ps_fld (ha : PE X o ta) (hv : PE X value tv) (hs : swapsWith value (some (.Attribute o f pos')) pos.line X.env = pure false) : PS X (.Assign [.Attribute o f pos'] value pos) (sFld X.K ta tv f) := by
 intro pins s σ H D I h
 refine plainObj_wpAny_Assign_Attribute (thn (hv pins s σ H _ I h) fun u s1 ⟨y, H1, I1, ry, q⟩ => thn (ha pins s1 σ H1 _ I1 q) fun ov s2 ⟨x, H2, I2, rx, a, C, dx, fs, ex, ea, c, n, l, q2⟩ => ?_) hs
 subst ex
 obtain rfl : ov = Value.ref a := rx
 exact setattr_ok I2 ea c n l ry fun s3 I3 => ⟨σ, _, I3, q2⟩
end

section
variable {X : Cx} {pins : List (Addr × Obj)} {σ : St} {H : Hp} {s : Shared} {A : Around} {E : Value -> Shared -> Prop} {Q : Value -> Shared -> Prop} {c : Value} {b : Bool}
inductive TyOf (K : PySem.W.Frag) (H : Hp) : V -> Value -> Prop where
 | non : TyOf K H .non (.type "NoneType")
 | bl (x : Bool) : TyOf K H (.bl x) (.type "bool")
 | int (i : Int) : TyOf K H (.int i) (.type "int")
 | str (x : Str) : TyOf K H (.str x) (.type "str")
 | flt (x : UInt64) : TyOf K H (.flt x) (.type "float")
 | lst {a : Addr} {xs : List V} (e : H a = some (.lst xs)) : TyOf K H (.ref a) (.type "list")
 | frz {a : Addr} {o : Obj} {xs : List V} (e : H a = some (.frz o (.lst xs))) : TyOf K H (.ref a) (.type "list")
 | tup {a : Addr} {xs : List V} (e : H a = some (.tup xs)) : TyOf K H (.ref a) (.type "tuple")
 | dK {a : Addr} {kvs : List (Key × V)} (e : H a = some (.dK kvs)) : TyOf K H (.ref a) (.type "dict")
 | dT {a : Addr} {kvs : List (List Key × V)} (e : H a = some (.dT kvs)) : TyOf K H (.ref a) (.type "dict")
 | ins {a C dx : Addr} {fs : List (Str × V)} (e : H a = some (.ins C dx fs)) (cl : Cls K C) (ha : PySem.W.findIn K (.ref C) "__class__" = some (some (.builtin "object.__class__")))
   (hn : PySem.W.specialIn K (.builtin "object.__class__") "__get__" = some (some (.builtin "getset_descriptor.__get__"))) (htk : PySem.W.takesIn K (.builtin "object.__class__") = some true)
   (hm : PySem.W.mroIn K C (.type "object") = some true) : TyOf K H (.ref a) (.ref C)
theorem isinst_ok {x : V} {u t : Value} (I : Inv X pins σ H s) (rx : RelV x u) (ty : TyOf X.K H x t) (e : PySem.W.kitOne X.K t c = some b) (h : ∀ tk, Q (.bool b) { s with toks := tk }) :
  wpAny (model X.prog X.w) A (call (.builtin "isinstance") [u, c]) Q E s := by
 cases ty with
 | non => cases (show u = Value.none from rx); exact PySem.W.kia_one PySem.W.kitx_none I.kIn True.intro e (fun z => nomatch z) h
 | bl y => cases (show u = Value.bool y from rx); exact PySem.W.kia_one PySem.W.kitx_bool I.kIn True.intro e (fun z => nomatch z) h
 | int i => obtain ⟨t, q⟩ := (show ∃ t, u = Value.int i t from rx); cases q; exact PySem.W.kia_one PySem.W.kitx_int I.kIn True.intro e (fun z => nomatch z) h
 | str y => obtain ⟨t, q⟩ := (show ∃ t, u = Value.str y t from rx); cases q; exact PySem.W.kia_one PySem.W.kitx_str I.kIn True.intro e (fun z => nomatch z) h
 | flt y => obtain ⟨t, q⟩ := (show ∃ t, u = Value.float y t from rx); cases q; exact PySem.W.kia_one PySem.W.kitx_float I.kIn True.intro e (fun z => nomatch z) h
 | @lst a xs ea =>
  cases (show u = Value.ref a from rx)
  obtain ⟨_, _, n, _, h1⟩ := (show ObjOk X.prog X.w H s.heap a (.lst xs) from I.hok a _ ea)
  exact PySem.W.kia_one PySem.W.kitx_list I.kIn ⟨_, h1, rfl⟩ e (fun z => nomatch z) h
 | @frz a ob xs ea =>
  cases (show u = Value.ref a from rx)
  obtain ⟨_, _, _, n, _, h1⟩ := (show ObjOk X.prog X.w H s.heap a (.frz ob (.lst xs)) from I.hok a _ ea)
  exact PySem.W.kia_one PySem.W.kitx_list I.kIn ⟨_, h1, rfl⟩ e (fun z => nomatch z) h
 | @tup a xs ea =>
  cases (show u = Value.ref a from rx)
  obtain ⟨_, _, _, p⟩ := (show ObjOk X.prog X.w H s.heap a (.tup xs) from I.hok a _ ea)
  obtain ⟨o, h1, h2, _⟩ := p
  exact PySem.W.kia_one PySem.W.kitx_tuple I.kIn ⟨o, h1, h2⟩ e (fun z => nomatch z) h
 | @dK a kvs ea =>
  cases (show u = Value.ref a from rx)
  obtain ⟨_, _, vs, _, p⟩ := (show ObjOk X.prog X.w H s.heap a (.dK kvs) from I.hok a _ ea)
  obtain ⟨o, es, ep, h1, h2, _⟩ := p
  exact PySem.W.kia_one PySem.W.kitx_dict I.kIn ⟨o, h1, h2.1⟩ e (fun z => nomatch z) h
 | @dT a kvs ea =>
  cases (show u = Value.ref a from rx)
  obtain ⟨_, _, xs, _, o, es, ep, h1, h2, _⟩ := (show ObjOk X.prog X.w H s.heap a (.dT kvs) from I.hok a _ ea)
  exact PySem.W.kia_one PySem.W.kitx_dict I.kIn ⟨o, h1, h2.1⟩ e (fun z => nomatch z) h
 | @ins a C dx fs ea cl ha hn htk hm =>
  cases (show u = Value.ref a from rx)
  obtain ⟨mA, O, _⟩ := ins_get I.hok ea
  obtain ⟨od, J, _⟩ := O.look
  exact PySem.W.kia_one (PySem.W.kitx_own (cl.get _) cl.hd ha hn htk hm) I.kIn J e (fun z => nomatch z) h
end
end L2

namespace L2
open PySem PySem.Spec PyProof.Rows

structure Room (k : Nat) (A : Around) : Prop where
 hd : A.handled = none
 dp : A.depth + 3 * k + 5 < recursionLimit
 un : A.units + 16 * k + 200 < cLine
theorem Room.mono {j k : Nat} {A : Around} (r : Room k A) (h : j <= k) : Room j A := ⟨r.hd, by have := r.dp; omega, by have := r.un; omega⟩
theorem Room.deeper {k : Nat} {A : Around} (r : Room (k + 1) A) (env : Env) : Room k (A.deeper env) :=
 ⟨r.hd, by have := r.dp; show A.depth + 1 + 3 * k + 5 < _; omega, by have := r.un; show A.units + 3 + 16 * k + 200 < _; omega⟩
theorem make_depth {A : Around} {C : Addr} {us : List Value} {kw : List (Str × Value)} : (A.under (.builtin "type.__call__" ⟨.ref C :: us, kw⟩)).depth = A.depth + 1 := by
 first | rfl | simp [Around.under, Code.weight, Code.isCreation, Code.isGuard, Code.isCaller, Code.frames, Code.isFrame, guardIds]
theorem make_units {A : Around} {C : Addr} {us : List Value} {kw : List (Str × Value)} : (A.under (.builtin "type.__call__" ⟨.ref C :: us, kw⟩)).units = A.units + 1 := by
 first | rfl | simp [Around.under, Code.cUnits, Code.frames, Code.isFrame]
theorem Room.make {k : Nat} {A : Around} (r : Room (k + 1) A) (C : Addr) (us : List Value) (kw : List (Str × Value)) : Room k (A.under (.builtin "type.__call__" ⟨.ref C :: us, kw⟩)) :=
 ⟨r.hd, by have := r.dp; rw [make_depth]; omega, by have := r.un; rw [make_units]; omega⟩
theorem Room.depth {k : Nat} {A : Around} (r : Room k A) : A.depth < recursionLimit := by have := r.dp; omega
theorem Room.units {k : Nat} {A : Around} (r : Room k A) : A.units + 64 < cLine := by have := r.un; omega
noncomputable def tNil : TA := fun _ H Q => Q [] H
noncomputable def tCons (ta : TE) (tr : TA) : TA := fun σ H Q => ta σ H fun x H1 => tr σ H1 fun xs H2 => Q (x :: xs) H2
section
variable {X : Cx} {e : Expr} {es : List Expr} {te : TE} {t : TA} {pos : Pos}
theorem pa_nil : PA X [] tNil := fun _ _ _ _ H Q I h => Calls.spliced_nil ⟨[], H, I, .nil, h⟩
theorem pa_cons (ha : PE X e te) (hr : PA X es t) (hs : starEach (e :: es) X.env = (false, eval e X.env) :: starEach es X.env := by rfl) : PA X (e :: es) (tCons te t) := by
 intro pos pins s σ H Q I h
 rw [hs]
 show wpAny _ _ (spliced ((false, eval e X.env) :: backTo pos (starEach es X.env))) _ _ s
 refine Calls.spliced_cons (thn (ha pins s σ H _ I h) fun u s1 ⟨x, H1, I1, r1, q1⟩ => ?_)
 exact thn (hr pos pins s1 σ H1 _ I1 q1) fun us s2 ⟨xs, H2, I2, r2, q2⟩ => ⟨x :: xs, H2, I2, .cons r1 r2, q2⟩

noncomputable def tTup (t : TA) : TE := fun σ H Q => t σ H fun xs H1 => xs.length <= sizeLine /\ ∀ p, H1 p = none -> Q (.ref p) (upd H1 p (.tup xs))
noncomputable def tLst (t : TA) : TE := fun σ H Q => t σ H fun xs H1 => xs.length <= sizeLine /\ ∀ p, H1 p = none -> Q (.ref p) (upd H1 p (.lst xs))
theorem pe_tup {x1} (h : PA X es t) : PE X (.Tuple es x1 pos) (tTup t) := by
 intro pins s σ H Q I hq
 refine wpAny_Tuple_spliced (thn (h pos pins s σ H _ I hq) fun us s1 ⟨xs, H1, I1, r, z, q⟩ => ⟨by rw [<- r.length]; exact z, ?_⟩)
 have hf : H1 s1.heap.objs.size = none := I1.hok.fresh (Nat.le_refl _)
 refine ⟨.ref s1.heap.objs.size, upd H1 s1.heap.objs.size (.tup xs), I1.laid (t' := s1.toks) (fun b u e => Heap.get?_push_of_some _ e) (Nat.le_refl _) ?_, rfl, q _ hf⟩
 exact ⟨z, us, r, ⟨_, Heap.get?_push_size _ rfl, rfl, _, rfl⟩⟩
theorem pe_lst (h : PA X es t) : PE X (.List es pos) (tLst t) := by
 intro pins s σ H Q I hq
 refine wpAny_List_spliced (thn (h pos pins s σ H _ I hq) fun us s1 ⟨xs, H1, I1, r, z, q⟩ => ⟨by rw [<- r.length]; exact z, ?_⟩)
 have hf : H1 s1.heap.objs.size = none := I1.hok.fresh (Nat.le_refl _)
 refine ⟨.ref s1.heap.objs.size, upd H1 s1.heap.objs.size (.lst xs), I1.laid (t' := s1.toks) (fun b u e => Heap.get?_push_of_some _ e) (Nat.le_refl _) ?_, rfl, q _ hf⟩
 exact ⟨z, us, 0, r, Heap.get?_push_size _ rfl⟩
end

noncomputable abbrev Sp := List V -> Hp -> VK -> XK -> Prop
noncomputable abbrev CXT := List Env -> Hp -> Shared -> XK -> Value -> Shared -> Prop

structure Env0 (P : Program) (w : World) (K : PySem.W.Frag) (mg : Str -> Option Value) (base : Heap) (A : Around) (outer : List Env) (s : Shared) (H : Hp) : Prop where
 frames : A.frames = some outer
 mod : Mod K mg base
 bs : ∀ b o, base.get? b = some o -> s.heap.get? b = some o /\ H b = none
 bsz : base.objs.size <= s.heap.objs.size
 funs : s.heap.FunFrames base outer
 frf : ∀ b ∈ frs outer, H b = none
 hok : HOk P w H s.heap
 bare : AllBare s.gens
noncomputable def CE (outer : List Env) (P : Program) (w : World) (H : Hp) (s : Shared) (Q : VK) (u : Value) (s' : Shared) : Prop :=
 ∃ v H', s'.os = s.os /\ AllBare s'.gens /\ Un (frs outer) [] H H' s.heap s'.heap /\ HOk P w H' s'.heap /\ RelV v u /\ Q v H'
noncomputable def CR (CX : CXT) (outer : List Env) (P : Program) (w : World) (H : Hp) (s : Shared) (Q : VK) (E : XK) (r : Result) (s' : Shared) : Prop :=
 match r with
 | .ok (.ret u) => CE outer P w H s Q u s'
 | .ok _ => False
 | .error e => CX outer H s E e s'
structure FnOk (P : Program) (w : World) (K : PySem.W.Frag) (mg : Str -> Option Value) (base : Heap) (CX : CXT) (k : Nat) (f : Addr) (fd : FuncData) (ps : List Str) (sp : Sp) : Prop where
 len : ∀ vs H Q E, sp vs H Q E -> vs.length = ps.length
 run : ∀ (A : Around) (outer : List Env) (s : Shared) (H : Hp) (args : Args) (us : List Value) (vs : List V) (Q : VK) (E : XK), Room k A -> Env0 P w K mg base A outer s H -> BindsTo s fd args (ps.zip us) -> Vals vs us -> sp vs H Q E ->
  codeAny (model P w) A (.call (.ref f) args) (CR CX outer P w H s Q E) s
theorem FnOk.mono {P : Program} {w : World} {K : PySem.W.Frag} {mg : Str -> Option Value} {base : Heap} {CX : CXT} {j k : Nat} {f : Addr} {fd : FuncData} {ps : List Str} {sp : Sp} (F : FnOk P w K mg base CX j f fd ps sp) (h : j <= k) :
  FnOk P w K mg base CX k f fd ps sp := ⟨F.len, fun A outer s H args us vs Q E hr => F.run A outer s H args us vs Q E (hr.mono h)⟩
theorem Env0.make {P : Program} {w : World} {K : PySem.W.Frag} {mg : Str -> Option Value} {base : Heap} {A : Around} {outer : List Env} {s : Shared} {H : Hp} (e : Env0 P w K mg base A outer s H) (C : Addr) (us : List Value) (kw : List (Str × Value)) :
  Env0 P w K mg base (A.under (.builtin "type.__call__" ⟨.ref C :: us, kw⟩)) outer s H := ⟨by first | exact e.frames | (simpa [Around.under, Code.envs, Code.isFrame, pushEnvs] using e.frames), e.mod, e.bs, e.bsz, e.funs, e.frf, e.hok, e.bare⟩
section
variable {X : Cx} {pins : List (Addr × Obj)} {σ : St} {H : Hp} {s s' : Shared}
theorem Inv.env0 (I : Inv X pins σ H s) : Env0 X.prog X.w X.K X.mg X.base X.A X.stack s H :=
 ⟨I.ok.frames, I.ok.mod, I.bs, Nat.le_trans I.ok.bsz I.sz, I.stack, I.stkFree, I.hok, I.bare⟩
theorem Inv.after {Q : VK} {u : Value} (I : Inv X pins σ H s) (h : CE X.stack X.prog X.w H s Q u s') : EP X pins σ Q u s' := by
 obtain ⟨v, H', os, bare, un, hok, r, q⟩ := h
 obtain ⟨hh, g, d, t, os'⟩ := s'
 obtain rfl : os' = s.os := os
 exact ⟨v, H', I.call (h' := hh) (g' := g) (d' := d) (t' := t) (ch := []) un hok bare (fun b z => absurd z (by simp)), r, q⟩
end

noncomputable def tCall (sp : Sp) (dvs : List V) (E : XK) (t : TA) : TE := fun σ H Q => t σ H fun vs H1 => sp (vs ++ dvs) H1 Q E
noncomputable def tMeth (C : Addr) (m : Str) (sp : Sp) (dvs : List V) (E : XK) (ta : TE) (t : TA) : TE := fun σ H Q => ta σ H fun x H1 => ∃ a dx fs, x = .ref a /\ H1 a = some (.ins C dx fs) /\ fs.lookup m = none ∧
 t σ H1 fun vs H2 => sp (x :: (vs ++ dvs)) H2 Q E
noncomputable def tMake (C : Addr) (sp : Sp) (dvs : List V) (E : XK) (t : TA) : TE := fun σ H Q => t σ H fun vs H1 => ∀ x dx, H1 x = none -> H1 dx = none -> dx ≠ x ->
 sp (.ref x :: (vs ++ dvs)) (upd (upd H1 dx (.own x)) x (.ins C dx [])) (fun v H2 => v = .non /\ Q (.ref x) H2) E

noncomputable def Binds (K : PySem.W.Frag) (fd : FuncData) (ps : List Str) (ds : List Value) : Prop :=
 ∀ (s : Shared) (us : List Value), K.In s.heap -> (us ++ ds).length = ps.length -> BindsTo s fd ⟨us, []⟩ (ps.zip (us ++ ds))
theorem Binds.all {K : PySem.W.Frag} {fd : FuncData} {ps : List Str} (h : ∀ us : List Value, us.length = ps.length -> bindArgs fd ⟨us, []⟩ = pure (ps.zip us)) : Binds K fd ps [] := fun s us _ hl => by
 rw [List.append_nil] at hl |-
 exact .of_eq (h us hl)

noncomputable def Passes (CX : CXT) (X : Cx) (E : XK) : Prop := ∀ (pins : List (Addr × Obj)) (σ : St) (H : Hp) (s : Shared) (e : Value) (s' : Shared), Inv X pins σ H s -> CX X.stack H s E e s' -> X.xe e s'

section
variable {X : Cx} {CX : CXT} {k : Nat} {f C : Addr} {fd : FuncData} {ps : List Str} {sp : Sp} {dvs : List V} {ds : List Value} {E : XK} {x m : Str} {p pos apos : Pos} {e o : Expr} {es : List Expr} {ta : TE} {t : TA}

theorem run_fn {pins : List (Addr × Obj)} {σ : St} {H : Hp} {s : Shared} {Q : VK} {us : List Value} {vs : List V} (F : FnOk X.prog X.w X.K X.mg X.base CX k f fd ps sp) (hr : Room k X.A) (hb : Binds X.K fd ps ds) (hd : Vals dvs ds) (hx : Passes CX X E)
  (I : Inv X pins σ H s) (r : Vals vs us) (h : sp (vs ++ dvs) H Q E) : wpAny (model X.prog X.w) X.A (call (.ref f) us) (EP X pins σ Q) X.xe s := by
 have r2 : Vals (vs ++ dvs) (us ++ ds) := r.append hd
 have hl : (us ++ ds).length = ps.length := by rw [<- r2.length]; exact F.len _ _ _ _ h
 refine wpAny_call (codeAny_mono (F.run X.A X.stack s H ⟨us, []⟩ (us ++ ds) (vs ++ dvs) Q E hr I.env0 (hb s us I.kIn hl) r2 h) fun r s' hq => ?_)
 cases r with
 | error e => exact hx pins σ H s e s' I hq
 | ok fl =>
  cases fl with
  | ret u => exact I.after hq
  | next => exact False.elim hq
  | brk => exact False.elim hq
  | cont => exact False.elim hq

theorem pe_call (F : FnOk X.prog X.w X.K X.mg X.base CX k f fd ps sp) (hr : Room k X.A) (hg : Gl X x) (hm : X.mg x = some (.ref f)) (hk : PySem.W.keepIn X.K (.ref f) = true) (hb : Binds X.K fd ps ds) (hd : Vals dvs ds) (hx : Passes CX X E)
  (ha : PA X (e :: es) t) (hdb : (x == ("__debug__" : Str)) = false := by decide) (he : starEach (e :: es) X.env = (false, eval e X.env) :: starEach es X.env := by rfl) (hpl : (backTo pos (starEach es X.env)).any (·.1) = false := by rfl) :
  PE X (.Call (.Name x p) (e :: es) [] pos) (tCall sp dvs E t) := by
 intro pins s σ H Q I h
 refine wpAny_Call_Name_kw (ld_glob I hg hm ?_ hdb)
 refine PySem.W.callWith_K (h₀ := X.base) I.ok.mod.kin hk (thn (ha pos pins s σ H _ I h) fun us s1 ⟨vs, H1, I1, r, q⟩ => ⟨I1.kIn, ?_⟩) he hpl
 exact run_fn F hr hb hd hx I1 r q
theorem pe_meth0 {pl : Sem Bool} (he : PE X o ta) (c : Cls X.K C) (hm : Meth X.K C m f) (F : FnOk X.prog X.w X.K X.mg X.base CX k f fd ps sp) (hr : Room k X.A) (hb : Binds X.K fd ps ds) (hd : Vals dvs ds) (hx : Passes CX X E)
  (ht : eval (.Call (.Attribute o m apos) [] [] pos) X.env = (do
   let ov <- eval o X.env
   standAt apos.atName
   let (f, first) <- holding [ov] (getMethod ov m pl)
   callWith pos f first (backTo pos (starEach [] X.env)) (backToKw pos (keywordEach [] X.env))) := by rfl) :
  PE X (.Call (.Attribute o m apos) [] [] pos) (tMeth C m sp dvs E ta tNil) := by
 intro pins s σ H Q I h
 refine PySem.W.methodCall_KW (pl := pl) (thn (he pins s σ H _ I h) fun u s1 ⟨x, H1, I1, rx, a, dx, fs, ex, ea, l, q⟩ => ?_) ht
 subst ex
 obtain rfl : u = Value.ref a := rx
 refine getmeth_ok I1 ea c hm l ?_
 exact PySem.W.callWith_K0 (first := [.ref a]) I1.kIn hm.kp (run_fn (us := [.ref a]) (vs := [.ref a]) F hr hb hd hx I1 (.cons rfl .nil) q)

structure Mk (K : PySem.W.Frag) (C f : Addr) : Prop where
 makes : PySem.W.makesIn K C = true
 init : PySem.W.findIn K (.ref C) "__init__" = some (some (.ref f))
 fn : PySem.W.isFn K (.ref f) = true
 kp : PySem.W.keepIn K (.ref C) = true

theorem run_make {pins : List (Addr × Obj)} {σ : St} {H : Hp} {s : Shared} {Q : VK} {us : List Value} {vs : List V} (M : Mk X.K C f) (F : FnOk X.prog X.w X.K X.mg X.base CX k f fd ps sp) (hr : Room (k + 1) X.A) (hb : Binds X.K fd ps ds) (hd : Vals dvs ds)
  (hx : Passes CX X E) (I : Inv X pins σ H s) (r : Vals vs us)
  (h : ∀ x dx, H x = none -> H dx = none -> dx ≠ x -> sp (.ref x :: (vs ++ dvs)) (upd (upd H dx (.own x)) x (.ins C dx [])) (fun v H2 => v = .non /\ Q (.ref x) H2) E) :
  wpAny (model X.prog X.w) X.A (call (.ref C) us) (EP X pins σ Q) X.xe s := by
 have hq := h (s.heap.objs.size + 1) s.heap.objs.size (I.hok.fresh (Nat.le_succ _)) (I.hok.fresh (Nat.le_refl _)) (Nat.ne_of_lt (Nat.lt_succ_self _))
 have I2 := Inv.made (C := C) I
 have r2 : Vals (V.ref (s.heap.objs.size + 1) :: (vs ++ dvs)) (Value.ref (s.heap.objs.size + 1) :: (us ++ ds)) := .cons rfl (r.append hd)
 have hl : (Value.ref (s.heap.objs.size + 1) :: us ++ ds).length = ps.length := by
  have e := r2.length
  rw [F.len _ _ _ _ hq] at e
  exact e.symm
 refine wpAny_call (make_map (f := f) I.kIn M.makes M.init (beq_iff_eq.mp M.fn) (codeAny_mono (F.run _ X.stack _ _ ⟨Value.ref (s.heap.objs.size + 1) :: us, []⟩ (Value.ref (s.heap.objs.size + 1) :: (us ++ ds)) _ _ E (hr.make C us [])
  (I2.env0.make C us []) (hb _ (Value.ref (s.heap.objs.size + 1) :: us) I2.kIn hl) r2 hq) fun r s' hq' => ?_))
 cases r with
 | error e => exact hx pins σ _ _ e s' I2 hq'
 | ok fl =>
  cases fl with
  | ret u =>
   obtain ⟨v, H', I3, rv, ev, q3⟩ := I2.after hq'
   subst ev
   exact ⟨rv, ⟨V.ref (s.heap.objs.size + 1), H', I3, rfl, q3⟩⟩
  | next => exact False.elim hq'
  | brk => exact False.elim hq'
  | cont => exact False.elim hq'
theorem pe_make (M : Mk X.K C f) (F : FnOk X.prog X.w X.K X.mg X.base CX k f fd ps sp) (hr : Room (k + 1) X.A) (hg : Gl X x) (hm : X.mg x = some (.ref C)) (hb : Binds X.K fd ps ds) (hd : Vals dvs ds) (hx : Passes CX X E)
  (ha : PA X (e :: es) t) (hdb : (x == ("__debug__" : Str)) = false := by decide) (he : starEach (e :: es) X.env = (false, eval e X.env) :: starEach es X.env := by rfl) (hpl : (backTo pos (starEach es X.env)).any (·.1) = false := by rfl) :
  PE X (.Call (.Name x p) (e :: es) [] pos) (tMake C sp dvs E t) := by
 intro pins s σ H Q I h
 refine wpAny_Call_Name_kw (ld_glob I hg hm ?_ hdb)
 refine PySem.W.callWith_K (h₀ := X.base) I.ok.mod.kin M.kp (thn (ha pos pins s σ H _ I h) fun us s1 ⟨vs, H1, I1, r, q⟩ => ⟨I1.kIn, ?_⟩) he hpl
 exact run_make M F hr hb hd hx I1 r q
end

noncomputable def PK (X : Cx) (kws : List Keyword) (t : TA) : Prop :=
 ∀ (pos : Pos) (pins : List (Addr × Obj)) (s : Shared) (σ : St) (H : Hp) (Q : List V -> Hp -> Prop), Inv X pins σ H s -> t σ H Q -> wpAny (model X.prog X.w) X.A (evalAll ((backToKw pos (keywordEach kws X.env)).map (·.2))) (AP X pins σ Q) X.xe s
section
variable {X : Cx} {CX : CXT} {k : Nat} {f C : Addr} {fd : FuncData} {ps ks : List Str} {sp : Sp} {E : XK} {x m : Str} {p pos apos kpos : Pos} {e o : Expr} {es : List Expr} {kws : List Keyword} {te ta : TE} {t tk : TA} {nm : Option Str}
variable {g : List Value -> List Value -> List Value} {gV : List V -> List V -> List V}
end

structure FnScope (N P : List Str) (sc : Scope) : Prop where
 kind : sc.kind = .function
 co : sc.isCoroutine = false
 gen : sc.isGenerator = false
 nd : N.Nodup
 pre : N.take P.length = P
 par : ∀ x ∈ P, sc.names.lookup x = some .local \/ sc.names.lookup x = some .cell
 nofree : ∀ y ∈ sc.names, y.2 ≠ .free

theorem bindL_out {kindOf : Str -> Option NameKind} {x : Str} : ∀ {binds : List (Str × Value)} {m : Str -> Option Value}, (∀ v, (x, v) ∉ binds) -> bindL kindOf binds m x = m x
 | [], _, _ => rfl
 | (n, v) :: r, m, h => by
  unfold bindL
  rw [bindL_out fun w hw => h w (List.mem_cons_of_mem _ hw)]
  split
  ·have : x ≠ n := by rintro rfl; exact h v List.mem_cons_self
   simp [this]
  ·rfl
theorem bindC_out {kindOf : Str -> Option NameKind} {x : Str} : ∀ {binds : List (Str × Value)} {m : Str -> Option Value}, (∀ v, (x, v) ∉ binds) -> bindC kindOf binds m x = m x
 | [], _, _ => rfl
 | (n, v) :: r, m, h => by
  unfold bindC
  rw [bindC_out fun w hw => h w (List.mem_cons_of_mem _ hw)]
  split
  ·rfl
  ·have : x ≠ n := by rintro rfl; exact h v List.mem_cons_self
   simp [this]
theorem bindL_get {kindOf : Str -> Option NameKind} {x : Str} {v : Value} : ∀ {P : List Str} {vs : List Value} {i : Nat} {m : Str -> Option Value}, P.Nodup -> P[i]? = some x -> vs[i]? = some v -> kindOf x = some .local ->
  bindL kindOf (P.zip vs) m x = some v
 | [], _, _, _, _, h, _, _ => by simp at h
 | _ :: _, [], _, _, _, _, h, _ => by simp at h
 | p :: P, w :: vs, 0, m, nd, h1, h2, hk => by
  simp at h1 h2; subst h1; subst h2
  show bindL kindOf ((p, w) :: P.zip vs) m p = _
  unfold bindL
  rw [bindL_out fun v hv => (List.nodup_cons.mp nd).1 (List.of_mem_zip hv).1, if_pos hk]
  simp
 | p :: P, w :: vs, i + 1, m, nd, h1, h2, hk => by
  show bindL kindOf ((p, w) :: P.zip vs) m x = _
  unfold bindL
  exact bindL_get (i := i) (List.nodup_cons.mp nd).2 (by simpa using h1) (by simpa using h2) hk
theorem bindC_get {kindOf : Str -> Option NameKind} {x : Str} {v : Value} : ∀ {P : List Str} {vs : List Value} {i : Nat} {m : Str -> Option Value}, P.Nodup -> P[i]? = some x -> vs[i]? = some v -> kindOf x ≠ some .local ->
  bindC kindOf (P.zip vs) m x = some v
 | [], _, _, _, _, h, _, _ => by simp at h
 | _ :: _, [], _, _, _, _, h, _ => by simp at h
 | p :: P, w :: vs, 0, m, nd, h1, h2, hk => by
  simp at h1 h2; subst h1; subst h2
  show bindC kindOf ((p, w) :: P.zip vs) m p = _
  unfold bindC
  rw [bindC_out fun v hv => (List.nodup_cons.mp nd).1 (List.of_mem_zip hv).1, if_neg hk]
  simp
 | p :: P, w :: vs, i + 1, m, nd, h1, h2, hk => by
  show bindC kindOf ((p, w) :: P.zip vs) m x = _
  unfold bindC
  exact bindC_get (i := i) (List.nodup_cons.mp nd).2 (by simpa using h1) (by simpa using h2) hk

noncomputable def start (N : List Str) (vs : List V) : St := vs.map some ++ List.replicate (N.length - vs.length) none

noncomputable def cxOf (CX : CXT) (P : Program) (w : World) (K : PySem.W.Frag) (mg : Str -> Option Value) (base : Heap) (N : List Str) (qual : Str) (scope : Scope) (f : Addr) (cd : Value) (A : Around) (outer : List Env) (s : Shared) (H : Hp) (E : XK) : Cx where
 prog := P
 w := w
 K := K
 mg := mg
 base := base
 A := A.deeper (envOfC qual scope s.heap.objs.size f cd)
 N := N
 s₀ := s
 H₀ := H
 env := envOfC qual scope s.heap.objs.size f cd
 outer := outer
 stack := envOfC qual scope s.heap.objs.size f cd :: outer
 ex := []
 calm := true
 fn := fun _ => true
 pn := []
 xe := fun e s' => wpAny (model P w) (A.deeper (envOfC qual scope s.heap.objs.size f cd)) (leaving (envOfC qual scope s.heap.objs.size f cd) e) (fun _ s'' => CX outer H s E e s'') (fun e' s'' => CX outer H s E e' s'') s'

theorem cell_has {sc : Scope} {n : Nat} {x : Str} (h : sc.names.lookup x = some .cell) : ∃ c, (cellsFrom n sc.names []).lookup x = some c := by
 have q := PySem.W.cellsFrom_some sc.names n [] (.inl h)
 exact Option.isSome_iff_exists.mp q

theorem inv_start {CX : CXT} {P : Program} {w : World} {K : PySem.W.Frag} {mg : Str -> Option Value} {base : Heap} {N ps : List Str} {qual : Str} {scope : Scope} {f : Addr} {cd : Value} {A : Around} {outer : List Env} {s s1 : Shared} {H : Hp} {E : XK} {us : List Value} {vs : List V}
  (S : FnScope N ps scope) (hd : A.handled = none) (e0 : Env0 P w K mg base A outer s H) (hl : vs.length = ps.length) (r : Vals vs us)
  (x : InCallC s s.heap.objs.size (bindL (envOfC qual scope s.heap.objs.size f cd).kindOf (ps.zip us) fun _ => none) (cellsFrom (s.heap.objs.size + 1) scope.names []) (bindC (envOfC qual scope s.heap.objs.size f cd).kindOf (ps.zip us) fun _ => none) s1) :
  Inv (cxOf CX P w K mg base N qual scope f cd A outer s H E) [] (start N vs) H s1 := by
 have hpl : ps.length <= N.length := by have := congrArg List.length S.pre; rw [List.length_take] at this; omega
 obtain ⟨h1, tk, rfl, hk⟩ := x.done
 have noA : ∀ b : Addr, b ∉ (cxOf CX P w K mg base N qual scope f cd A outer s H E).ex := fun b z => absurd (show b ∈ ([] : List Addr) from z) (by simp)
 refine ⟨⟨e0.mod, S.kind, rfl, rfl, Nat.le_refl _, fun y z c h1 h2 => ?_, fun y hy => ?_, fun y c _ h => ?_, fun _ => hd, Around.frames_deeper e0.frames, .inr ⟨rfl, rfl⟩, fun b z => absurd z (noA b), e0.bs, e0.bsz, fun b _ _ => noA b, fun b z => absurd z (noA b), e0.funs, e0.frf⟩,
  rfl, e0.bare, Un.kept hk, ⟨_, x.toInCall.ns, fun i y v h1 h2 h3 => ?_⟩, fun y c h => ⟨_, x.cell y c h⟩, e0.hok.fresh (Nat.le_refl _), fun y c h => ?_, fun p hp => absurd (show p ∈ ([] : List (Addr × Obj)) from hp) (by simp), e0.hok.kept hk, ?_⟩
 ·exact name_of_addr x.apart (PySem.mem_of_lookup h1) (PySem.mem_of_lookup h2)
 ·have hy : scope.names.lookup y = some .cell \/ scope.names.lookup y = some .free := hy
  rcases hy with hy | hy
  ·exact cell_has hy
  ·exact absurd rfl (S.nofree _ (PySem.mem_of_lookup hy))
 ·exact Nat.le_of_lt (x.above y c (PySem.mem_of_lookup h))
 ·have hi : i < vs.length := by
   unfold start at h2
   by_cases hi : i < vs.length
   ·exact hi
   ·rw [List.getElem?_append_right (by simpa using hi)] at h2
    rw [List.getElem?_replicate] at h2
    split at h2 <;> cases h2
  have ha : vs[i]? = some v := by
   unfold start at h2
   rw [List.getElem?_append_left (by simpa using hi), List.getElem?_map] at h2
   cases e : vs[i]? with
   | none => rw [e] at h2; cases h2
   | some a => rw [e] at h2; cases h2; rfl
  obtain ⟨u, hu, rv⟩ := r.get ha
  have hp : ps[i]? = some y := by
   rw [<- S.pre, List.getElem?_take_of_lt (by omega)]; exact h1
  have ndP : ps.Nodup := by rw [<- S.pre]; exact S.nd.sublist (List.take_sublist _ _)
  refine ⟨u, rv, ?_⟩
  rcases S.par y (List.mem_of_getElem? hp) with k | k
  ·exact .inl ⟨k, bindL_get ndP hp hu k⟩
  ·obtain ⟨c, e⟩ := cell_has (n := s.heap.objs.size + 1) k
   refine .inr ⟨.inl k, c, e, ?_⟩
   have q := x.cell y c e
   rw [bindC_get ndP hp hu (by show scope.names.lookup y ≠ _; rw [k]; decide)] at q
   exact q
 ·exact e0.hok.fresh (Nat.le_of_lt (x.above y c (PySem.mem_of_lookup h)))
 ·unfold start
  show _ = N.length
  rw [List.length_append, List.length_map, List.length_replicate]
  omega

theorem fn_of {CX : CXT} {P : Program} {w : World} {K : PySem.W.Frag} {mg : Str -> Option Value} {base : Heap} {k : Nat} {f : Addr} {name qual : Str} {params : Arguments} {body : List Stmt} {scope : Scope} {dV kV doc pm cdv ct oc : Value} {an od : Option Addr}
  {osl : Array (Option Value)} {N ps : List Str} {sp : Sp} (lk : K.lookup f = some ⟨oc, od, .func (PySem.W.fnOf name qual params body scope dV kV doc pm an cdv ct), osl⟩) (hcd : PySem.W.codeIn K cdv qual = true) (S : FnScope N ps scope)
  (len : ∀ vs H Q E, sp vs H Q E -> vs.length = ps.length)
  (hbody : ∀ (A : Around) (outer : List Env) (s : Shared) (H : Hp) (vs : List V) (Q : VK) (E : XK), Room k (A.deeper (envOfC qual scope s.heap.objs.size f cdv)) -> sp vs H Q E ->
   ∃ t, PSs (cxOf CX P w K mg base N qual scope f cdv A outer s H E) body t /\ t { nx := fun _ H' => Q .non H', rt := Q } (start N vs) H) :
  FnOk P w K mg base CX (k + 1) f (PySem.W.fnOf name qual params body scope dV kV doc pm an cdv ct) ps sp := by
 refine ⟨len, fun A outer s H args us vs Q E hr e0 hb r hsp => ?_⟩
 have hl := len _ _ _ _ hsp
 have KX : K.In s.heap := e0.mod.kin.keeps fun b o e => (e0.bs b o e).1
 have lim : s.heap.NoLimit := e0.mod.nolimit.keeps fun b o e => (e0.bs b o e).1
 have hkind : ∀ y ∈ ps.zip us, scope.names.lookup y.1 = some .local \/ (scope.names.lookup y.1 = some .cell /\ ((cellsFrom (s.heap.objs.size + 1) scope.names []).lookup y.1).isSome = true) := fun ⟨n, v⟩ hy => by
  rcases S.par n (List.of_mem_zip hy).1 with q | q
  ·exact .inl q
  ·exact .inr ⟨q, PySem.W.cellsFrom_some _ _ _ (.inl q)⟩
 refine codeAny_call_function hr.depth (KX _ _ lk) rfl S.co S.gen rfl (PySem.W.codeRec_of KX hcd) (hb _ _ _ _ ?_)
 refine wpAny_newFunctionEnv_cells S.kind hkind fun env he s1 x => ?_
 subst he
 refine ⟨lim.keeps x.toInCall.keep, codeAny_func ?_⟩
 obtain ⟨t, ht, hq⟩ := hbody A outer s H vs Q E (hr.deeper _) hsp
 have I : Inv (cxOf CX P w K mg base N qual scope f cdv A outer s H E) [] (start N vs) H s1 := inv_start S hr.hd e0 hl r x
 refine wpAny_mono (ht [] s1 (start N vs) H _ I hq) (fun fl s' hs => ?_) fun e s' hs => hs
 have fin : ∀ {σ' : St} {H' : Hp} {v : V} {u : Value}, Inv (cxOf CX P w K mg base N qual scope f cdv A outer s H E) [] σ' H' s' -> RelV v u -> Q v H' -> CE outer P w H s Q u s' :=
  fun {σ' H' v u} J rv q => ⟨v, H', J.os, J.bare, J.base, J.hok, rv, q⟩
 cases fl with
 | ret u =>
  obtain ⟨v, σ', H', J, rv, q⟩ := hs
  exact fin J rv q
 | next =>
  obtain ⟨σ', H', J, q⟩ := hs
  exact fin (v := V.non) (u := Value.none) J rfl q
 | brk =>
  obtain ⟨_, _, _, q⟩ := hs
  exact False.elim q
 | cont =>
  obtain ⟨_, _, _, q⟩ := hs
  exact False.elim q
end L2

namespace L2
open PySem PySem.Spec PyProof.Rows
section
variable {X : Cx} {x : Str} {p pos : Pos} {e : Expr} {es : List Expr} {t : TA} {id T : String} {r : List V -> Hp -> VK -> Prop}

noncomputable def tCB (r : List V -> Hp -> VK -> Prop) (t : TA) : TE := fun σ H Q => t σ H fun vs H1 => r vs H1 Q
theorem pe_callB (hc : CallR X (.builtin id) r) (hg : Gl X x) (hm : X.mg x = none) (hv : bootBuiltins x = some (.builtin id)) (ha : PA X (e :: es) t) (hn : x ≠ "__name__" := by decide) (hdb : (x == ("__debug__" : Str)) = false := by decide)
  (he : starEach (e :: es) X.env = (false, eval e X.env) :: starEach es X.env := by rfl) (hpl : (backTo pos (starEach es X.env)).any (·.1) = false := by rfl) : PE X (.Call (.Name x p) (e :: es) [] pos) (tCB r t) := by
 intro pins s σ H Q I h
 refine wpAny_Call_Name_kw (ld_blt I hg hm hv ?_ hn hdb)
 exact PyProof.Rows.callWith_builtin1 (thn (ha pos pins s σ H _ I h) fun us s1 ⟨vs, H1, I1, r1, q1⟩ => hc pins s1 σ H1 vs us Q I1 r1 q1) he hpl
theorem pe_callTy (hc : CallR X (.type T) r) (hg : Gl X x) (hm : X.mg x = none) (hv : bootBuiltins x = some (.type T)) (ha : PA X (e :: es) t) (hn : x ≠ "__name__" := by decide) (hdb : (x == ("__debug__" : Str)) = false := by decide)
  (he : starEach (e :: es) X.env = (false, eval e X.env) :: starEach es X.env := by rfl) (hpl : (backTo pos (starEach es X.env)).any (·.1) = false := by rfl) : PE X (.Call (.Name x p) (e :: es) [] pos) (tCB r t) := by
 intro pins s σ H Q I h
 refine wpAny_Call_Name_kw (ld_blt I hg hm hv ?_ hn hdb)
 exact PyProof.Rows.callWith_type1 (thn (ha pos pins s σ H _ I h) fun us s1 ⟨vs, H1, I1, r1, q1⟩ => hc pins s1 σ H1 vs us Q I1 r1 q1) he hpl
end
end L2

namespace HT
open PySem PyProof.Rows

section
open PySem.SeqAt
open PySem.AutoSeq1 (wpAny_loadPart')
open PySem.MeetsSeq PySem.MeetsSeq2 PySem.MeetsSeq3

end

section
variable {prog : Program} {w : World} {A : Around} {E : Value -> Shared -> Prop} {s : Shared}

theorem cat_tup {t b : Addr} {vs ws : List Value} {Q : Value -> Shared -> Prop} (ht : IsTup s.heap t vs.toArray) (hb : IsTup s.heap b ws.toArray) (hv : vs ≠ [])
  (h1 : ws = [] -> Q (.ref t) s) (h2 : ws ≠ [] -> Q (.ref s.heap.objs.size) { s with heap := s.heap.push { cls := .type "tuple", data := .seq (vs ++ ws).toArray } })
  (hsz : vs.length + ws.length <= sizeLine) : wpAny (model prog w) A (binaryOp .Add (.ref t) (.ref b)) Q E s := by
 obtain ⟨⟨cls, dd, data, sl⟩, ho, hc, n, hd⟩ := id ht
 obtain ⟨⟨cls2, dd2, data2, sl2⟩, ho2, hc2, n2, hd2⟩ := id hb
 simp only at hc hd hc2 hd2
 subst hc hd hc2 hd2
 have e : vs.toArray ++ ws.toArray = (vs ++ ws).toArray := by simp
 by_cases hw : ws = []
 ·exact concat_meets ⟨_, ho, rfl⟩ ⟨_, ho2, rfl⟩ noFill_tuple_add seq_tuple_add PySem.F.slot_tuple_add PySem.F.entry_tuple_add (PySem.F.args_tuple_add_2 _ _)
   (tuple_addW1 t b vs.toArray ws.toArray n n2 dd dd2 sl sl2 (by simpa using hv) (by simp [hw])) ⟨ho, ho2, h1 hw⟩
 ·refine concat_meets ⟨_, ho, rfl⟩ ⟨_, ho2, rfl⟩ noFill_tuple_add seq_tuple_add PySem.F.slot_tuple_add PySem.F.entry_tuple_add (PySem.F.args_tuple_add_2 _ _)
   (tuple_addW2 t b vs.toArray ws.toArray n n2 dd dd2 sl sl2 (by simpa using hv) (by simpa using hw) (by rw [List.size_toArray, List.size_toArray]; exact hsz)) ⟨ho, ho2, ?_⟩
  rw [e]
  exact h2 hw

noncomputable def sIx (n d : Nat) : Option Int -> Nat
 | none => d
 | some v => if v < 0 then (v + (n : Int)).toNat else min v.toNat n
theorem sIx_none (n d : Nat) : sIx n d none = d := rfl
theorem sIx_nat (n d k : Nat) : sIx n d (some (k : Int)) = min k n := by
 show (if (k : Int) < 0 then ((k : Int) + (n : Int)).toNat else min (k : Int).toNat n) = min k n
 rw [if_neg (by omega), Int.toNat_natCast]
theorem sIx_le (n d : Nat) (hd : d <= n) (o : Option Int) : sIx n d o <= n := by
 cases o with
 | none => exact hd
 | some v =>
  show (if v < 0 then (v + (n : Int)).toNat else min v.toNat n) <= n
  by_cases hv : v < 0
  ·rw [if_pos hv]; omega
  ·rw [if_neg hv]; exact Nat.min_le_right _ _
theorem clip_eq (v : Int) (n d : Nat) : (if v < 0 then max (v + (n : Int)) 0 else min v (n : Int)) = ((sIx n d (some v) : Nat) : Int) := by
 show (if v < 0 then max (v + (n : Int)) 0 else min v (n : Int)) = (((if v < 0 then (v + (n : Int)).toNat else min v.toNat n) : Nat) : Int)
 by_cases hv : v < 0
 ·simp only [if_pos hv]; omega
 ·simp only [if_neg hv]; omega
theorem adjust_gen (lo hi : Option Int) (n : Nat) : Builtin.Slice.sliceAdjust lo hi 1 (n : Int) = (((sIx n 0 lo : Nat) : Int), ((sIx n n hi : Nat) : Int)) := by
 have h1 : ¬ ((1 : Int) < 0) := by omega
 unfold Builtin.Slice.sliceAdjust
 simp only [h1, if_false]
 refine Prod.ext ?_ ?_
 ·cases lo with
  | none => rfl
  | some v => exact clip_eq v n 0
 ·cases hi with
  | none => rfl
  | some v => exact clip_eq v n n
theorem places_gen (i j : Nat) : Builtin.Slice.slicePlaces (i : Int) (j : Int) 1 = j - i := by
 unfold Builtin.Slice.slicePlaces
 have h1 : (1 : Int) > 0 := by omega
 simp only [h1, if_true, Int.ediv_one]
 split <;> omega
theorem slicePart_ {v : Value} {o : Option Int} {Q : Option Int -> Shared -> Prop} (p : IsPart v o) (h : Q o s) : wpAny (model prog w) A (Builtin.Slice.slicePartIndex v) Q E s := by
 cases p with
 | none => exact slicePart_none h
 | int i t => exact slicePart_int h
theorem sliceApplied_gen {sl : Addr} {vl vu : Value} {lo hi : Option Int} {n : Nat} {Q : Int × Int × Nat -> Shared -> Prop} (hs : s.heap.IsSliceOf sl vl vu .none) (pl : IsPart vl lo) (pu : IsPart vu hi)
  (h : Q (((sIx n 0 lo : Nat) : Int), 1, sIx n n hi - sIx n 0 lo) s) : wpAny (model prog w) A (Builtin.Slice.sliceApplied (.ref sl) (pure (n : Int))) Q E s := by
 obtain ⟨os, hos, hcs, hds⟩ := id hs
 unfold Builtin.Slice.sliceApplied Builtin.Slice.sliceFields
 refine wpAny_bind (wpAny_bind (wpAny_field hos hds (x := vl) rfl (wpAny_bind (wpAny_field hos hds (x := vu) rfl (wpAny_bind (wpAny_field hos hds (x := .none) rfl (wpAny_pure ?_)))))))
 refine wpAny_bind (slicePart_none ?_)
 show wpAny _ _ (if ((1 : Int) == 0) = true then _ else _) _ _ s
 rw [if_neg (by decide)]
 refine wpAny_bind (slicePart_ pl (wpAny_bind (slicePart_ pu (wpAny_bind (wpAny_pure ?_)))))
 show wpAny _ _ (match Builtin.Slice.sliceAdjust lo hi 1 (n : Int) with | (lo, hi) => pure (lo, (1 : Int), Builtin.Slice.slicePlaces lo hi 1)) _ _ s
 rw [adjust_gen lo hi n]
 show wpAny _ _ (pure (((sIx n 0 lo : Nat) : Int), (1 : Int), Builtin.Slice.slicePlaces ((sIx n 0 lo : Nat) : Int) ((sIx n n hi : Nat) : Int) 1)) _ _ s
 rw [places_gen]
 exact wpAny_pure h
theorem pick_gen (xs : Array Value) (i k : Nat) : ((List.range k).filterMap fun (m : Nat) => xs[((i : Int) + (m : Int) * 1).toNat]?).toArray = ((xs.toList.drop i).take k).toArray := by
 have e : (fun (m : Nat) => xs[((i : Int) + (m : Int) * 1).toNat]?) = fun m => xs[i + m]? := by
  funext m
  have : ((i : Int) + (m : Int) * 1).toNat = i + m := by omega
  rw [this]
 rw [e]
 have := pick_run xs i k
 rw [List.filterMap_map] at this
 have e2 : ((fun x => xs[x]?) ∘ fun x => i + x) = fun m => xs[i + m]? := rfl
 rw [e2] at this
 rw [this]

theorem getItem_tuple_cut {t sl : Addr} {items : Array Value} {vl vu : Value} {lo hi : Option Int} {Q : Value -> Shared -> Prop} (ht : IsTup s.heap t items) (hs : s.heap.IsSliceOf sl vl vu .none) (pl : IsPart vl lo) (pu : IsPart vu hi)
  (hw : ¬ (sIx items.size 0 lo = 0 /\ sIx items.size items.size hi = items.size))
  (h : Q (.ref s.heap.objs.size) { s with heap := s.heap.push { cls := .type "tuple", data := .seq ((items.toList.drop (sIx items.size 0 lo)).take (sIx items.size items.size hi - sIx items.size 0 lo)).toArray } })
  (hsz : items.size <= sizeLine) : wpAny (model prog w) A (getItem (.ref t) (.ref sl)) Q E s := by
 have htake : sizeOk (.seq ((items.toList.drop (sIx items.size 0 lo)).take (sIx items.size items.size hi - sIx items.size 0 lo)).toArray) := by
  show ((items.toList.drop (sIx items.size 0 lo)).take (sIx items.size items.size hi - sIx items.size 0 lo)).toArray.size <= sizeLine
  rw [List.size_toArray, List.length_take, List.length_drop, Array.length_toList]
  omega
 have hj : sIx items.size items.size hi <= items.size := sIx_le _ _ (Nat.le_refl _) hi
 obtain ⟨os, hos, hcs, hds⟩ := id hs
 have hTs : s.TypeIs (.ref sl) "slice" := ⟨os, hos, hcs⟩
 unfold getItem
 try with_reducible refine wpAny_holding ?_
 first | refine wpAny_bind (wpAny_pure ?_) | skip
 refine wpAny_bind (wpAny_sequenceKey ht.typeIs (by decide) ?_)
 refine wpAny_bind (wpAny_callSpecial?_slot (name := Str.ofString "__getitem__") ht.typeIs PyProof.Rows.slot_tuple_getitem
  (wpAny_call_entry PyProof.Rows.slot_tuple_getitem ht.typeIs entry_tuple_getitem ?_ (args_tuple_getitem _ _)))
 show wpAny _ _ (Builtin.Tuple.tupleItemsOf (.ref t) >>= _) _ _ s
 refine wpAny_bind (tupleItemsOf_ ht ?_)
 refine wpAny_bind (wpAny_typeOf hTs ?_)
 rw [if_pos (by decide)]
 refine wpAny_bind (sliceApplied_gen hs pl pu ?_)
 have hno : ¬ ((((sIx items.size 0 lo : Nat) : Int) == 0 && (1 : Int) == 1 && (sIx items.size items.size hi - sIx items.size 0 lo) == items.size) = true) := by
  intro q
  rw [Bool.and_eq_true, Bool.and_eq_true] at q
  have q1 : ((sIx items.size 0 lo : Nat) : Int) = 0 := eq_of_beq q.1.1
  have q2 : sIx items.size items.size hi - sIx items.size 0 lo = items.size := eq_of_beq q.2
  exact hw ⟨by omega, by omega⟩
 show wpAny _ _ (if (((sIx items.size 0 lo : Nat) : Int) == 0 && (1 : Int) == 1 && (sIx items.size items.size hi - sIx items.size 0 lo) == items.size) = true then _ else _) _ _ s
 rw [if_neg hno, pick_gen]
 first
  | exact wpAny_bind (m := Builtin.Tuple.tupleExact _) (wpAny_newObj_type (wpAny_pure ⟨_, rfl, wpAny_pure h⟩) htake)
  | exact wpAny_bind (m := Builtin.Tuple.tupleExact _) (wpAny_newObj_type (wpAny_bind (wpAny_pure (wpAny_pure ⟨_, rfl, wpAny_pure h⟩))) htake)
  | exact wpAny_bind (wpAny_bind (m := Builtin.Tuple.tupleExact _) (wpAny_newObj_type (wpAny_pure (wpAny_pure ⟨_, rfl, wpAny_pure h⟩)) htake))
  | exact wpAny_bind (wpAny_bind (m := Builtin.Tuple.tupleExact _) (wpAny_newObj_type (wpAny_pure ⟨_, rfl, wpAny_pure h⟩) htake))
end
end HT

namespace L2
open PySem PySem.Spec PyProof.Rows

noncomputable abbrev TO := St -> Hp -> (Option Int -> Hp -> Prop) -> Prop
noncomputable def PO (X : Cx) (e : Option Expr) (t : TO) : Prop :=
 ∀ (pins : List (Addr × Obj)) (s : Shared) (σ : St) (H : Hp) (Q : Option Int -> Hp -> Prop), Inv X pins σ H s -> t σ H Q ->
  wpAny (model X.prog X.w) X.A (evalPart e X.env) (fun u s' => ∃ o H', Inv X pins σ H' s' /\ IsPart u o /\ Q o H') X.xe s
noncomputable def tNoPart : TO := fun _ H Q => Q none H
noncomputable def tPart (t : TE) : TO := fun σ H Q => t σ H fun x H1 => ∃ i, x = .int i /\ Q (some i) H1

section
variable {X : Cx} {e : Expr} {te : TE} {lo hi : Option Expr} {tl th : TO} {pos p2 : Pos}

theorem po_none : PO X none tNoPart := by
 intro pins s σ H Q I h
 rw [evalPart_none]
 exact wpAny_pure ⟨none, H, I, .none, h⟩
theorem po_some (h : PE X e te) : PO X (some e) (tPart te) := by
 intro pins s σ H Q I hw
 rw [evalPart_some]
 refine thn (h pins s σ H _ I hw) fun u s1 ⟨x, H1, I1, r1, q1⟩ => ?_
 obtain ⟨i, rfl, q⟩ := q1
 obtain ⟨t, rfl⟩ := r1
 exact ⟨some i, H1, I1, .int i t, q⟩

noncomputable def SlR (X : Cx) (r : V -> Option Int -> Option Int -> Hp -> VK -> Prop) : Prop :=
 ∀ (pins : List (Addr × Obj)) (s : Shared) (σ : St) (H : Hp) (x : V) (v vl vu : Value) (lo hi : Option Int) (sl : Addr) (Q : VK), Inv X pins σ H s -> RelV x v -> s.heap.IsSliceOf sl vl vu .none -> IsPart vl lo -> IsPart vu hi -> r x lo hi H Q ->
  ∃ T id, typeLookup (.type T) "__getitem__" = pure (some (.builtin id)) /\ s.TypeIs v T /\ wpAny (model X.prog X.w) X.A (getItem v (.ref sl)) (EP X pins σ Q) X.xe s
noncomputable def tSl (r : V -> Option Int -> Option Int -> Hp -> VK -> Prop) (te : TE) (tl th : TO) : TE := fun σ H Q => te σ H fun x H1 => tl σ H1 fun l H2 => th σ H2 fun u H3 => r x l u H3 Q
theorem pe_slice {r : V -> Option Int -> Option Int -> Hp -> VK -> Prop} (hr : SlR X r) (he : PE X e te) (hl : PO X lo tl) (hu : PO X hi th) : PE X (.Subscript e (.Slice lo hi none p2) pos) (tSl r te tl th) := by
 intro pins s σ H Q I h
 refine Subscript_ (thn (he pins s σ H _ I h) fun v s1 ⟨x, H1, I1, r1, q1⟩ => ?_)
 refine wpAny_Slice (thn (hl pins s1 σ H1 _ I1 q1) fun vl s2 ⟨l, H2, I2, pl, q2⟩ => thn (hu pins s2 σ H2 _ I2 q2) fun vu s3 ⟨u, H3, I3, pu, q3⟩ => ?_)
 rw [evalPart_none]
 refine wpAny_pure ?_
 have I4 : Inv X pins σ H3 { s3 with heap := s3.heap.push { cls := .type "slice", data := .fields #[vl, vu, .none] } } := I3.kept (t' := s3.toks) fun b ob q => Heap.get?_push_of_some _ q
 obtain ⟨T, id, hT, ht, hg⟩ := hr pins { s3 with heap := s3.heap.push { cls := .type "slice", data := .fields #[vl, vu, .none] } } σ H3 x v vl vu l u s3.heap.objs.size Q I4 r1 (Heap.IsSliceOf.new ..) pl pu q3
 show wpAny (model X.prog X.w) X.A (subscriptTail e (.Slice lo hi none p2) v (.ref s3.heap.objs.size)) (EP X pins σ Q) X.xe { s3 with heap := s3.heap.push { cls := .type "slice", data := .fields #[vl, vu, .none] } }
 exact tail_any (ops := [.ref s3.heap.objs.size, v]) ht hT hg (by with_unfolding_all rfl)

noncomputable def cutV (xs : List V) (lo hi : Option Int) : List V := (xs.drop (HT.sIx xs.length 0 lo)).take (HT.sIx xs.length xs.length hi - HT.sIx xs.length 0 lo)
theorem cutV_length (xs : List V) (lo hi : Option Int) : (cutV xs lo hi).length <= xs.length := by
 unfold cutV
 rw [List.length_take, List.length_drop]
 omega
noncomputable def rSlT (K : PySem.W.Frag) : V -> Option Int -> Option Int -> Hp -> VK -> Prop := fun x lo hi H Q => ∃ a xs, x = .ref a /\ SqT K H a xs ∧
 ¬ (HT.sIx xs.length 0 lo = 0 /\ HT.sIx xs.length xs.length hi = xs.length) /\ ∀ p, H p = none -> Q (.ref p) (upd H p (.tup (cutV xs lo hi)))
theorem sl_tup : SlR X (rSlT X.K) := by
 intro pins s σ H x v vl vu lo hi sl Q I rx hs pl pu h
 obtain ⟨a, xs, rfl, hx, hw, q⟩ := h
 cases rx
 obtain ⟨its, r, ht, hz⟩ := I.tuple hx
 have hlen : its.toArray.size = xs.length := by rw [List.size_toArray]; exact r.length.symm
 refine ⟨"tuple", _, PyProof.Rows.slot_tuple_getitem.lookup, ht.typeIs, ?_⟩
 refine HT.getItem_tuple_cut ht hs pl pu (by rw [hlen]; exact hw) ?_ (by rw [hlen]; exact hz)
 rw [hlen]
 refine ⟨.ref s.heap.objs.size, _, I.laid (t' := s.toks) (o := .tup (cutV xs lo hi)) (fun b ob q => Heap.get?_push_of_some _ q) (Nat.le_refl _) ?_, rfl, q _ (I.hok.fresh (Nat.le_refl _))⟩
 exact ⟨Nat.le_trans (cutV_length xs lo hi) hz, _, (r.drop (HT.sIx xs.length 0 lo)).take (HT.sIx xs.length xs.length hi - HT.sIx xs.length 0 lo), IsTup.new _ _⟩

noncomputable def rCatT (K : PySem.W.Frag) : R2 := fun x y H Q => ∃ a b xs ys, x = .ref a /\ y = .ref b /\ SqT K H a xs /\ SqT K H b ys /\ xs ≠ [] /\ xs.length + ys.length <= sizeLine ∧
 (ys = [] -> Q (.ref a) H) /\ (ys ≠ [] -> ∀ p, H p = none -> Q (.ref p) (upd H p (.tup (xs ++ ys))))
theorem Vals.nil_iff {xs : List V} {us : List Value} (r : Vals xs us) : us = [] ↔ xs = [] := by
 cases r with
 | nil => simp
 | cons _ _ => simp
theorem op_catT : OpR X (binaryOp .Add) (rCatT X.K) := by
 intro pins s σ H x y v u Q I rx ry h
 obtain ⟨a, b, xs, ys, rfl, rfl, ha, hb, hx, hz, q1, q2⟩ := h
 cases rx
 cases ry
 obtain ⟨its, r1, p1, _⟩ := I.tuple ha
 obtain ⟨its2, r2, p2, _⟩ := I.tuple hb
 refine HT.cat_tup p1 p2 (fun z => hx (r1.nil_iff.mp z)) (fun z => ⟨.ref a, H, I, rfl, q1 (r2.nil_iff.mp z)⟩) (fun z => ?_) (by rw [<- r1.length, <- r2.length]; exact hz)
 refine ⟨.ref s.heap.objs.size, _, I.laid (t' := s.toks) (o := .tup (xs ++ ys)) (fun b ob q => Heap.get?_push_of_some _ q) (Nat.le_refl _) ?_, rfl, q2 (fun w => z (r2.nil_iff.mpr w)) _ (I.hok.fresh (Nat.le_refl _))⟩
 exact ⟨by rw [List.length_append]; exact hz, _, r1.append r2, IsTup.new _ _⟩
end
end L2

namespace L2
open PySem PySem.Spec PyProof.Rows

noncomputable def ixN (n : Nat) (i : Int) : Option Nat := if 0 <= i then (if i < n then some i.toNat else none) else if -(n : Int) <= i then some (i + n).toNat else none
noncomputable def atI {α : Type} (xs : List α) (i : Int) : Option α := (ixN xs.length i).bind fun j => xs[j]?
theorem ixN_seq {n : Nat} {i : Int} {j : Nat} (h : ixN n i = some j) : seqIndex? i n = some j /\ j < n /\ -(n : Int) <= i /\ i < n := by
 unfold ixN at h
 by_cases h0 : 0 <= i
 ·rw [if_pos h0] at h
  by_cases h1 : i < n
  ·rw [if_pos h1] at h
   have e : i.toNat = j := Option.some.inj h
   exact ⟨by rw [seqIndex_of h0 h1, e], by omega, by omega, h1⟩
  ·rw [if_neg h1] at h; cases h
 ·rw [if_neg h0] at h
  by_cases h1 : -(n : Int) <= i
  ·rw [if_pos h1] at h
   have e : (i + n).toNat = j := Option.some.inj h
   exact ⟨by rw [seqIndex_neg (by omega) h1, e], by omega, h1, by omega⟩
  ·rw [if_neg h1] at h; cases h
theorem atI_get {α : Type} {xs : List α} {i : Int} {v : α} (h : atI xs i = some v) : ∃ j, seqIndex? i xs.length = some j /\ xs[j]? = some v /\ j < xs.length /\ -(xs.length : Int) <= i /\ i < xs.length := by
 unfold atI at h
 cases e : ixN xs.length i with
 | none => rw [e] at h; cases h
 | some j =>
  rw [e] at h
  obtain ⟨h1, h2, h3, h4⟩ := ixN_seq e
  exact ⟨j, h1, h, h2, h3, h4⟩
theorem atI_nat {α : Type} {xs : List α} {j : Nat} {v : α} (h : xs[j]? = some v) : atI xs (j : Int) = some v := by
 have hj : j < xs.length := (List.getElem?_eq_some_iff.mp h).1
 have e : ixN xs.length (j : Int) = some j := by
  unfold ixN
  rw [if_pos (by omega), if_pos (by omega)]; simp
 unfold atI; rw [e]; exact h
theorem atI_last {α : Type} (xs : List α) (v : α) : atI (xs ++ [v]) (-1) = some v := by
 have hl : (xs ++ [v]).length = xs.length + 1 := by simp
 have e : ixN (xs ++ [v]).length (-1) = some xs.length := by
  unfold ixN
  rw [hl, if_neg (by decide), if_pos (by omega)]
  congr 1
  omega
 unfold atI
 rw [e]
 show (xs ++ [v])[xs.length]? = some v
 simp

noncomputable def PlainIx (b : Expr) : Prop := ∀ o i, subscripted b false o i = operate [o, i] (getItem o i)
noncomputable def IxR (X : Cx) (r : R2) : Prop :=
 ∀ (value slice : Expr) (pins : List (Addr × Obj)) (s : Shared) (σ : St) (H : Hp) (x y : V) (v u : Value) (Q : VK), Inv X pins σ H s -> RelV x v -> RelV y u -> r x y H Q ->
  subscripted slice false v u = operate [v, u] (getItem v u) -> wpAny (model X.prog X.w) X.A (subscriptTail value slice v u) (EP X pins σ Q) X.xe s
noncomputable def MtR (X : Cx) (id : String) (r : V -> List V -> Hp -> VK -> Prop) : Prop :=
 ∀ (pins : List (Addr × Obj)) (s : Shared) (σ : St) (H : Hp) (x : V) (xs : List V) (v : Value) (us : List Value) (Q : VK), Inv X pins σ H s -> RelV x v -> Vals xs us -> r x xs H Q ->
  wpAny (model X.prog X.w) X.A (call (.builtin id) (v :: us)) (EP X pins σ Q) X.xe s
section
variable {X : Cx} {a b : Expr} {ta tb : TE} {pos : Pos}
theorem pe_ix {r : R2} (hr : IxR X r) (ha : PE X a ta) (hb : PE X b tb) (hs : PlainIx b) : PE X (.Subscript a b pos) (tOp r ta tb) := by
 intro pins s σ H Q I h
 exact Subscript_ (binT ha hb I h fun v u s2 x y H2 I2 rx ry q => hr a b pins s2 σ H2 x y v u Q I2 rx ry q (hs _ _))

noncomputable def rIxL (K : PySem.W.Frag) : R2 := fun x y H Q => ∃ p xs i v, x = .ref p /\ y = .int i /\ SqL K H p xs /\ atI xs i = some v /\ Q v H
noncomputable def rIxT (K : PySem.W.Frag) : R2 := fun x y H Q => ∃ p xs i v, x = .ref p /\ y = .int i /\ SqT K H p xs /\ atI xs i = some v /\ Q v H
theorem ix_list : IxR X (rIxL X.K) := by
 intro value slice pins s σ H x y v u Q I rx ry h hs
 obtain ⟨p, xs, i, z, rfl, rfl, hq, he, q⟩ := h
 cases rx
 obtain ⟨t, rfl⟩ := ry
 obtain ⟨its, r, pl, hz⟩ := I.list hq
 obtain ⟨j, h1, h2, h3, h4, h5⟩ := atI_get he
 obtain ⟨w, ew, rw'⟩ := r.get h2
 have hl := r.length
 have hn := line63
 have fin : EP X pins σ Q w s := ⟨z, H, I, rw', q⟩
 by_cases h0 : 0 <= i
 ·have hj : i.toNat = j := by
   rw [seqIndex_of h0 h5] at h1
   exact Option.some.inj h1
  exact item_listR pl.isList h0 (by omega) (by rw [hj]; simpa using ew) fin hs
 ·have hj : (i + (its.toArray.size : Int)).toNat = j := by
   rw [seqIndex_neg (by omega) h4] at h1
   rw [List.size_toArray, <- hl]
   exact Option.some.inj h1
  exact subscriptTail_builtinR (x := w) pl.isList.typeIs slot_list_getitem.lookup
   (wpAny_getItem_list_neg (Q := fun r s' => r = w /\ EP X pins σ Q r s') pl.isList (by omega) (by rw [List.size_toArray] <;> omega) (by omega) (by rw [hj]; simpa using ew) ⟨rfl, fin⟩) hs
theorem ix_tup : IxR X (rIxT X.K) := by
 intro value slice pins s σ H x y v u Q I rx ry h hs
 obtain ⟨p, xs, i, z, rfl, rfl, hq, he, q⟩ := h
 cases rx
 obtain ⟨t, rfl⟩ := ry
 obtain ⟨its, r, pl, hz⟩ := I.tuple hq
 obtain ⟨j, h1, h2, h3, h4, h5⟩ := atI_get he
 obtain ⟨w, ew, rw'⟩ := r.get h2
 have hl := r.length
 have hn := line63
 have fin : EP X pins σ Q w s := ⟨z, H, I, rw', q⟩
 exact subscriptTail_builtinR (x := w) pl.typeIs slot_tuple_getitem.lookup
  (getItem_tuple (j := j) (Q := fun r s' => r = w /\ EP X pins σ Q r s') pl (by omega) (by omega) (by rw [List.size_toArray, <- hl]; exact h1) (by simpa using ew) ⟨rfl, fin⟩) hs
theorem mapSeq_set (its : List Value) (n j : Nat) (u : Value) : Obj.mapSeq (·.setIfInBounds j u) { cls := .type "list", data := .seq its.toArray n } = { cls := .type "list", data := .seq (its.set j u).toArray n } := by
 simp [Obj.mapSeq]
theorem Inv.lst {pins : List (Addr × Obj)} {σ : St} {H : Hp} {s : Shared} {p : Addr} {xs : List V} (I : Inv X pins σ H s) (h : H p = some (.lst xs)) :
  ∃ (its : List Value) (n : Nat), Vals xs its /\ s.heap.get? p = some { cls := .type "list", data := .seq its.toArray n } /\ xs.length <= sizeLine := by
 obtain ⟨z, its, n, r, e⟩ := I.hok p _ h
 exact ⟨its, n, r, e, z⟩
theorem Inv.lstUpd {pins : List (Addr × Obj)} {σ : St} {H : Hp} {s : Shared} {p : Addr} {xs ys : List V} {its its' : List Value} {n n' : Nat} {f : Obj -> Obj} (I : Inv X pins σ H s) (h : H p = some (.lst xs))
  (ho : s.heap.get? p = some { cls := .type "list", data := .seq its.toArray n }) (hf : f { cls := .type "list", data := .seq its.toArray n } = { cls := .type "list", data := .seq its'.toArray n' }) (r : Vals ys its') (hz : ys.length <= sizeLine) (t : Nat) :
  Inv X pins σ (upd H p (.lst ys)) { s with heap := s.heap.update p f, toks := t } := by
 have e : (s.heap.update p f).get? p = some { cls := .type "list", data := .seq its'.toArray n' } := by
  rw [Heap.get?_update_self f ho (by rw [hf] <;> rfl), hf]
 refine I.write (x := p) (e := p) (by rw [h]; trivial) (.inl rfl) (fun b u hb q => (Heap.get?_update_other _ _ (Ne.symm hb)).trans q) ⟨_, e⟩ ?_
 exact ⟨hz, its', n', r, e⟩
noncomputable def rSetL : V -> V -> V -> Hp -> (Hp -> Prop) -> Prop := fun o i v H Q => ∃ p xs k j, o = .ref p /\ i = .int k /\ H p = some (.lst xs) /\ ixN xs.length k = some j /\ Q (upd H p (.lst (xs.set j v)))
theorem set_list : PSet X rSetL := by
 intro pins s σ H o i v ov iv u Q I ro ri rv h
 obtain ⟨p, xs, k, j, rfl, rfl, hp, hj, q⟩ := h
 cases ro
 obtain ⟨t, rfl⟩ := ri
 obtain ⟨its, n, r, ho, hz⟩ := I.lst hp
 obtain ⟨h1, h2, h3, h4⟩ := ixN_seq hj
 have hl := r.length
 have hn := line63
 have I' : Inv X pins σ (upd H p (.lst (xs.set j v))) { s with heap := s.heap.update p (Obj.mapSeq (·.setIfInBounds j u)) } :=
  I.lstUpd hp ho (mapSeq_set its n j u) (r.set rv j) (by rw [List.length_set]; exact hz) s.toks
 by_cases h0 : 0 <= k
 ·have hk : k.toNat = j := by
   rw [seqIndex_of h0 h4] at h1
   exact Option.some.inj h1
  exact PySem.W.ki_setAt ho h0 (by omega) (by rw [List.size_toArray, <- hl]; exact h4) (by rw [hk]; exact ⟨_, I', q⟩)
 ·have hk : (k + (its.toArray.size : Int)).toNat = j := by
   rw [seqIndex_neg (by omega) h3] at h1
   rw [List.size_toArray, <- hl]
   exact Option.some.inj h1
  exact PySem.W.ki_setBack ho (by omega) (by rw [List.size_toArray, <- hl]; exact h3) (by omega) (by rw [hk]; exact ⟨_, I', q⟩)

theorem slice_bounds (lo hi : Option Int) (n : Nat) : (sliceBounds lo hi none n).1 = ((HT.sIx n 0 lo : Nat) : Int) /\ (sliceBounds lo hi none n).2.1 = ((HT.sIx n n hi : Nat) : Int) /\ (sliceBounds lo hi none n).2.2 = 1 := by
 refine ⟨?_, ?_, rfl⟩
 ·cases lo with
  | none => simp [sliceBounds, HT.sIx]
  | some i =>
   simp only [sliceBounds, HT.sIx, Option.getD_none, show (1 : Int) > 0 by decide, if_true]
   by_cases h : i < 0
   ·simp only [h, if_true] <;> omega
   ·simp only [h, if_false] <;> omega
 ·cases hi with
  | none => simp [sliceBounds, HT.sIx]
  | some i =>
   simp only [sliceBounds, HT.sIx, Option.getD_none, show (1 : Int) > 0 by decide, if_true]
   by_cases h : i < 0
   ·simp only [h, if_true] <;> omega
   ·simp only [h, if_false] <;> omega
theorem slicePick_cut (its : List Value) (lo hi : Option Int) : slicePick its.toArray lo hi none = ((its.drop (HT.sIx its.length 0 lo)).take (HT.sIx its.length its.length hi - HT.sIx its.length 0 lo)).toArray := by
 obtain ⟨h1, h2, h3⟩ := slice_bounds lo hi its.toArray.size
 unfold slicePick
 rw [h1, h2, h3]
 simp only [sliceRange_one, pick_run, List.size_toArray] <;> rfl
noncomputable def rSlL (K : PySem.W.Frag) : V -> Option Int -> Option Int -> Hp -> VK -> Prop := fun x lo hi H Q => ∃ a xs, x = .ref a /\ SqL K H a xs /\ ∀ p, H p = none -> Q (.ref p) (upd H p (.lst (cutV xs lo hi)))
theorem sl_list : SlR X (rSlL X.K) := by
 intro pins s σ H x v vl vu lo hi sl Q I rx hs pl pu h
 obtain ⟨a, xs, rfl, hx, q⟩ := h
 cases rx
 obtain ⟨its, r, ht, hz⟩ := I.list hx
 have hlen := r.length
 refine ⟨"list", _, slot_list_getitem.lookup, ht.isList.typeIs, ?_⟩
 refine wpAny_getItem_list_slice ht.isList hs pl pu .none (by simp) ?_ (by rw [List.size_toArray] <;> omega)
 rw [slicePick_cut, <- hlen]
 refine ⟨.ref s.heap.objs.size, _, I.laid (t' := s.toks) (o := .lst (cutV xs lo hi)) (fun b ob q => Heap.get?_push_of_some _ q) (Nat.le_refl _) ?_, rfl, q _ (I.hok.fresh (Nat.le_refl _))⟩
 exact ⟨Nat.le_trans (cutV_length xs lo hi) hz, _, 0, (r.drop (HT.sIx xs.length 0 lo)).take (HT.sIx xs.length xs.length hi - HT.sIx xs.length 0 lo), Heap.get?_push_size _ rfl⟩

theorem call_len_seq : CallR X (.builtin "len") (fun xs H Q => ∃ p ys, xs = [.ref p] /\ (SqL X.K H p ys \/ SqT X.K H p ys) /\ Q (.int ys.length) H) := by
 intro pins s σ H xs us Q I r h
 obtain ⟨p, ys, rfl, hq, q⟩ := h
 obtain ⟨u, rfl, rx⟩ := vals1 r
 cases rx
 have hn := line63
 rcases hq with hq | hq
 ·obtain ⟨its, r', pl, hz⟩ := I.list hq
  have hlen := r'.length
  exact Calls.call_len_list pl.isList (by simp only [List.size_toArray] <;> omega) ⟨.int ys.length, H, I.tok _, ⟨s.toks + 1, by rw [List.size_toArray, hlen]⟩, q⟩
 ·obtain ⟨its, r', pl, hz⟩ := I.tuple hq
  have hlen := r'.length
  exact len_tuple pl (by simp only [List.size_toArray] <;> omega) ⟨.int ys.length, H, I.tok _, ⟨s.toks + 1, by rw [List.size_toArray, hlen]⟩, q⟩
theorem call_list_of : CallR X (.type "list") (fun xs H Q => ∃ p ys, xs = [.ref p] /\ (SqL X.K H p ys \/ SqT X.K H p ys) /\ ∀ l, H l = none -> Q (.ref l) (upd H l (.lst ys))) := by
 intro pins s σ H xs us Q I r h
 obtain ⟨p, ys, rfl, hq, q⟩ := h
 obtain ⟨u, rfl, rx⟩ := vals1 r
 cases rx
 have fin : ∀ (its : List Value), Vals ys its -> ys.length <= sizeLine -> ∀ (h' : Heap) (c' : Nat), (∀ b o', s.heap.get? b = some o' -> h'.get? b = some o') ->
   h'.get? s.heap.objs.size = some { cls := .type "list", dict := none, data := .seq its.toArray c', slots := #[] } -> EP X pins σ Q (.ref s.heap.objs.size) { s with heap := h' } := fun its r' hz h' c' kp e =>
  ⟨.ref s.heap.objs.size, _, I.laid (t' := s.toks) kp (Nat.le_refl _) (show ObjOk X.prog X.w _ h' _ (.lst ys) from ⟨hz, its, c', r', e⟩), rfl, q _ (I.hok.fresh (Nat.le_refl _))⟩
 rcases hq with hq | hq
 ·obtain ⟨its, r', pl, hz⟩ := I.list hq
  have hlen := r'.length
  obtain ⟨o, ho, hc, n, hd⟩ := pl.isList
  exact call_list_seq p (.inl rfl) ho hc hd (fun h' c' kp e => fin its r' hz h' c' kp e) (by simp only [List.size_toArray] <;> omega)
 ·obtain ⟨its, r', pl, hz⟩ := I.tuple hq
  have hlen := r'.length
  obtain ⟨o, ho, hc, n, hd⟩ := pl
  exact call_list_seq p (.inr rfl) ho hc hd (fun h' c' kp e => fin its r' hz h' c' kp e) (by simp only [List.size_toArray] <;> omega)
theorem call_tuple_of : CallR X (.type "tuple") (fun xs H Q => ∃ p ys, xs = [.ref p] /\ ((SqL X.K H p ys /\ ∀ l, H l = none -> Q (.ref l) (upd H l (.tup ys))) \/ (SqT X.K H p ys /\ Q (.ref p) H))) := by
 intro pins s σ H xs us Q I r h
 obtain ⟨p, ys, rfl, h⟩ := h
 obtain ⟨u, rfl, rx⟩ := vals1 r
 cases rx
 rcases h with ⟨hq, q⟩ | ⟨hq, q⟩
 ·obtain ⟨its, r', pl, hz⟩ := I.list hq
  have hlen := r'.length
  refine call_tuple_list pl.isList (fun h' kp => ?_) (by simp only [List.size_toArray] <;> omega)
  have I1 : Inv X pins σ H { s with heap := h' } := I.kept (t' := s.toks) kp
  have I2 : Inv X pins σ (upd H h'.objs.size (.tup ys)) { s with heap := h'.push { cls := .type "tuple", data := .seq its.toArray } } :=
   I1.laid (t' := s.toks) (fun b o e => Heap.get?_push_of_some _ e) (Nat.le_refl _) (show ObjOk X.prog X.w _ _ _ (.tup ys) from ⟨hz, its, r', IsTup.new _ _⟩)
  exact ⟨.ref h'.objs.size, _, I2, rfl, q _ (I1.hok.fresh (Nat.le_refl _))⟩
 ·obtain ⟨its, r', pl, hz⟩ := I.tuple hq
  exact call_tuple_same pl ⟨.ref p, H, I, rfl, q⟩

noncomputable def tyV (K : PySem.W.Frag) (T : String) (x : V) (H : Hp) : Prop := match x with
 | .str _ => T = "str"
 | .int _ => T = "int"
 | .ref p => (T = "list" /\ ∃ xs, SqL K H p xs) \/ (T = "tuple" /\ ∃ o, K.lookup p = some o /\ o.cls = .type "tuple" /\ o.dict = none) ∨
   (T = "dict" /\ ((∃ kvs, H p = some (.dK kvs)) \/ ∃ kvs, H p = some (.dT kvs))) \/ (T = "set" /\ ∃ S n, H p = some (.set S n))
 | _ => False
theorem tyV_is {pins : List (Addr × Obj)} {σ : St} {H : Hp} {s : Shared} {T : String} {x : V} {v : Value} (I : Inv X pins σ H s) (r : RelV x v) (ty : tyV X.K T x H) :
  s.TypeIs v T /\ ∀ a, v = .ref a -> ∃ ob, s.heap.get? a = some ob /\ ob.dict = none := by
 cases x with
 | str z =>
  obtain ⟨t, rfl⟩ := r
  cases (show T = "str" from ty)
  exact ⟨typeIs_str s z t, fun _ e => nomatch e⟩
 | int i =>
  obtain ⟨t, rfl⟩ := r
  cases (show T = "int" from ty)
  exact ⟨typeIs_int s i t, fun _ e => nomatch e⟩
 | ref p =>
  cases r
  rcases ty with ⟨rfl, xs, hq⟩ | ⟨rfl, o, hk, hc, hd⟩ | ⟨rfl, hk⟩ | ⟨rfl, S, n, hk⟩
  ·obtain ⟨its, _, pl, _⟩ := I.list hq
   refine ⟨pl.isList.typeIs, fun a e => ?_⟩
   cases e
   obtain ⟨o, n, e, c, hd, _⟩ := pl
   exact ⟨o, e, hd⟩
  ·refine ⟨⟨o, I.kIn p o hk, hc⟩, fun a e => ?_⟩
   cases e
   exact ⟨o, I.kIn _ o hk, hd⟩
  ·have z : ∃ o, s.heap.get? p = some o /\ o.ExactDict := by
    rcases hk with ⟨kvs, hk⟩ | ⟨kvs, hk⟩
    ·obtain ⟨_, _, _, _, o, _, _, e, ex, _⟩ := I.hok p _ hk
     exact ⟨o, e, ex⟩
    ·obtain ⟨_, _, _, _, o, _, _, e, ex, _⟩ := I.hok p _ hk
     exact ⟨o, e, ex⟩
   obtain ⟨o, e, ex⟩ := z
   refine ⟨⟨o, e, ex.1⟩, fun a e2 => ?_⟩
   cases e2
   exact ⟨o, e, ex.2.1⟩
  ·obtain ⟨o, _, _, _, e, ex, _⟩ := I.hok p _ hk
   refine ⟨⟨o, e, ex.1⟩, fun a e2 => ?_⟩
   cases e2
   exact ⟨o, e, ex.2.1⟩
 | _ => exact False.elim ty
noncomputable def tBM (K : PySem.W.Frag) (T : String) (r : V -> List V -> Hp -> VK -> Prop) (to : TE) (t : TA) : TE := fun σ H Q => to σ H fun x H1 => tyV K T x H1 /\ t σ H1 fun xs H2 => r x xs H2 Q
variable {o e : Expr} {es : List Expr} {to : TE} {t : TA} {name : Str} {apos cpos : Pos} {T id : String} {r : V -> List V -> Hp -> VK -> Prop}
theorem pe_bm (pa : PlainAttrs T) (slot : Slot T name id) (hty : typeOf (.builtin id) = pure (.type "method_descriptor")) (hm : MtR X id r) (ho : PE X o to) (ha : PA X (e :: es) t)
  (hbase : attributeBase o name X.env (eval o X.env) = eval o X.env := by rfl)
  (hfew : ((backTo cpos (starEach (e :: es) X.env)).all (fun x => !x.1) && (backToKw cpos (keywordEach [] X.env)).all (fun x => x.1.isSome)
   && decide ((e :: es).length + ([] : List Keyword).length + (if ([] : List Keyword).isEmpty then 0 else 1) < 30)) = true := by rfl)
  (hline : (apos.endLine == cpos.line) = true := by rfl) (hs : starEach (e :: es) X.env = (false, eval e X.env) :: starEach es X.env := by rfl) (hplain : (backTo cpos (starEach es X.env)).any (·.1) = false := by rfl) :
  PE X (.Call (.Attribute o name apos) (e :: es) [] cpos) (tBM X.K T r to t) := by
 intro pins s σ H Q I h
 refine wpAny_Call_method_late hbase hfew hline rfl (thn (ho pins s σ H _ I h) fun v s1 ⟨x, H1, I1, r1, ty, q1⟩ => ?_)
 obtain ⟨h1, h2⟩ := tyV_is I1 r1 ty
 refine ⟨T, id, pa, slot, hty, h1, h2, ?_⟩
 have hA := ha cpos pins s1 σ H1 _ I1 q1
 rw [hs] at hA |-
 refine Calls.callWith_builtin (by show (false || (backTo cpos (starEach es X.env)).any (·.1)) = false; rw [hplain] <;> rfl) (Calls.evalArgs_plain ?_)
 exact thn hA fun us s2 ⟨vs, H2, I2, r2, q2⟩ => hm pins s2 σ H2 x vs v us Q I2 r1 r2 q2
/- xs.append(e), list.index on a module's tuple .. are MtR facts of 06m -/
end
end L2

namespace L2
open PySem PySem.Spec PyProof.Rows

noncomputable def MtM (X : Cx) (id : String) (r : V -> List V -> Hp -> VK -> Prop) : Prop :=
 ∀ (pins : List (Addr × Obj)) (s : Shared) (σ : St) (H : Hp) (x : V) (xs : List V) (v : Value) (us : List Value) (Q : VK), Inv X pins σ H s -> RelV x v -> Vals xs us -> r x xs H Q ->
  wpAny (model X.prog X.w) X.A (call (.builtin id) (v :: us)) (EP X pins σ Q) X.xe s

theorem Vals.one : ∀ {x : V} {us : List Value}, Vals [x] us -> ∃ u, us = [u] /\ RelV x u
 | _, _, .cons r .nil => ⟨_, rfl, r⟩
theorem Vals.rep {xs : List V} {us : List Value} (h : Vals xs us) : ∀ k : Nat, Vals (List.replicate k xs).flatten (List.replicate k us).flatten
 | 0 => .nil
 | k + 1 => by
  rw [List.replicate_succ, List.replicate_succ, List.flatten_cons, List.flatten_cons]
  exact Vals.append h (Vals.rep h k)
theorem foldl_rep (its : List Value) : ∀ (k : Nat) (acc : List Value),
  List.foldl (fun x1 x2 => x1 ++ x2) acc.toArray (List.replicate k its.toArray) = (acc ++ (List.replicate k its).flatten).toArray
 | 0, acc => by simp
 | k + 1, acc => by
  have e : acc.toArray ++ its.toArray = (acc ++ its).toArray := by simp
  have e2 : (acc ++ its) ++ (List.replicate k its).flatten = acc ++ (List.replicate (k + 1) its).flatten := by
   rw [List.replicate_succ, List.flatten_cons, List.append_assoc]
  rw [<- e2, <- foldl_rep its k (acc ++ its), <- e, List.replicate_succ, List.foldl_cons]

section
variable {X : Cx} {pins : List (Addr × Obj)} {σ : St} {H : Hp} {s : Shared} {l b : Addr} {xs ys zs : List V}

theorem Inv.lset {its its' : List Value} {n : Nat} {f : Array Value -> Array Value} {t' : Nat} (I : Inv X pins σ H s) (hH : H l = some (.lst xs))
  (e : s.heap.get? l = some { cls := .type "list", data := .seq its.toArray n }) (hf : f its.toArray = its'.toArray) (hv : Vals ys its') (hz : ys.length <= sizeLine) :
  Inv X pins σ (upd H l (.lst ys)) { s with heap := s.heap.update l (Obj.mapSeq f), toks := t' } := by
 have q := PySem.IsL.update e f
 rw [hf] at q
 refine I.write (x := l) (e := l) (by rw [hH]; exact trivial) (.inl rfl) (fun b' u hb hu => (Heap.get?_update_other s.heap (Obj.mapSeq f) (Ne.symm hb)).trans hu) ⟨_, q⟩ ?_
 exact ⟨hz, its', _, hv, q⟩
theorem Inv.lnew {its : List Value} {t' : Nat} (I : Inv X pins σ H s) (hv : Vals ys its) (hz : ys.length <= sizeLine) :
  Inv X pins σ (upd H s.heap.objs.size (.lst ys)) { s with heap := s.heap.push { cls := .type "list", data := .seq its.toArray }, toks := t' } :=
 I.laid (fun _ _ q => Heap.get?_push_of_some _ q) (Nat.le_refl _) ⟨hz, its, 0, hv, Heap.get?_push_size _ rfl⟩
theorem Inv.fresh (I : Inv X pins σ H s) : H s.heap.objs.size = none := I.hok.fresh (Nat.le_refl _)
theorem Inv.lstM (I : Inv X pins σ H s) (hH : H l = some (.lst xs)) : xs.length <= sizeLine /\ ∃ (its : List Value) (n : Nat), Vals xs its /\ xs.length = its.length /\ s.heap.get? l = some { cls := .type "list", data := .seq its.toArray n } := by
 obtain ⟨z, its, n, r, e⟩ := I.hok l _ hH
 exact ⟨z, its, n, r, r.length, e⟩

theorem notLongL {n : Nat} (h : n <= sizeLine) : Builtin.List.listTooLong n = false := by
 unfold Builtin.List.listTooLong
 exact decide_eq_false (by omega)
end

section
variable {X : Cx}

noncomputable def rAppend : V -> List V -> Hp -> VK -> Prop := fun x vs H Q => ∃ l xs y, x = .ref l /\ vs = [y] /\ H l = some (.lst xs) /\ xs.length < sizeLine /\ Q .non (upd H l (.lst (xs ++ [y])))
theorem mt_append : MtM X "list.append" rAppend := by
 intro pins s σ H x vs v us Q I rx rv h
 obtain ⟨l, xs, y, rfl, rfl, hH, hz, q⟩ := h
 cases rx
 obtain ⟨u, rfl, ru⟩ := rv.one
 obtain ⟨z, its, n, r, hl, e⟩ := I.lstM hH
 refine call_meets F.slot_list_append ⟨_, e, rfl⟩ F.entry_list_append (F.args_list_append_2 _ _) (PySem.list_append l its.toArray n u (by rw [List.size_toArray]; omega)) ⟨e, ?_⟩
 refine ⟨.non, _, I.lset (its' := its ++ [u]) hH e (by simp) (r.append (.cons ru .nil)) ?_, rfl, q⟩
 rw [List.length_append, List.length_singleton]
 omega

noncomputable def rCat : R2 := fun x y H Q => ∃ l b xs zs, x = .ref l /\ y = .ref b /\ H l = some (.lst xs) /\ H b = some (.lst zs) /\ xs.length + zs.length <= sizeLine /\ ∀ p, H p = none -> Q (.ref p) (upd H p (.lst (xs ++ zs)))
theorem op_cat : OpR X (binaryOp .Add) rCat := by
 intro pins s σ H x y v u Q I rx ry h
 obtain ⟨l, b, xs, zs, rfl, rfl, hH, hB, hz, q⟩ := h
 cases rx
 cases ry
 obtain ⟨z, its, n, r, hl, e⟩ := I.lstM hH
 obtain ⟨z2, its2, n2, r2, hl2, e2⟩ := I.lstM hB
 refine PySem.P.add_list e e2 ?_ (by rw [List.size_toArray, List.size_toArray]; omega)
 have ea : its.toArray ++ its2.toArray = (its ++ its2).toArray := by simp
 rw [ea]
 exact ⟨.ref _, _, I.lnew (t' := s.toks) (r.append r2) (by rw [List.length_append]; omega), rfl, q _ I.fresh⟩
noncomputable def rRep : R2 := fun x y H Q => ∃ l k xs, x = .ref l /\ y = .int k /\ H l = some (.lst xs) /\ -(2 ^ 63) <= k /\ k < 2 ^ 63 /\ xs.length * k.toNat <= sizeLine ∧
 ∀ p, H p = none -> Q (.ref p) (upd H p (.lst (List.replicate k.toNat xs).flatten))
theorem len_rep {α : Type} (xs : List α) (k : Nat) : (List.replicate k xs).flatten.length = k * xs.length := by
 induction k with
 | zero => simp
 | succ k ih => rw [List.replicate_succ, List.flatten_cons, List.length_append, ih, Nat.succ_mul, Nat.add_comm]
theorem op_rep : OpR X (binaryOp .Mult) rRep := by
 intro pins s σ H x y v u Q I rx ry h
 obtain ⟨l, k, xs, rfl, rfl, hH, h1, h2, hz, q⟩ := h
 cases rx
 obtain ⟨t, rfl⟩ := ry
 obtain ⟨z, its, n, r, hl, e⟩ := I.lstM hH
 have hlen : its.toArray.size * k.toNat <= sizeLine := by rw [List.size_toArray, <- hl]; exact hz
 have hcap : ¬ its.toArray.size * k.toNat > (2 ^ 63 - 1) / 8 := by
  have : (sizeLine : Nat) <= (2 ^ 63 - 1) / 8 := by decide
  omega
 have hfit : ¬ (!Builtin.List.listFitsIndex k) = true := by
  rw [fitsIndex_both h1 h2]
  exact Bool.false_ne_true
 have hlong : ¬ Builtin.List.listTooLong (its.toArray.size * k.toNat) = true := by
  rw [notLongL hlen]
  exact Bool.false_ne_true
 have hnew : List.foldl (fun x1 x2 => x1 ++ x2) #[] (List.replicate (if its.toArray.isEmpty = true then 0 else k.toNat) its.toArray) = (List.replicate k.toNat its).flatten.toArray := by
  have f0 : ∀ m : Nat, List.foldl (fun x1 x2 => x1 ++ x2) #[] (List.replicate m its.toArray) = (List.replicate m its).flatten.toArray := fun m => by
   have := foldl_rep its m []
   rw [List.nil_append] at this
   exact this
  rw [f0]
  cases its with
  | nil => simp
  | cons a r' => rw [if_neg (by simp)]
 refine wpAny_binaryOp_repeat_ref (T := "list") (U := "int") (by decide) ⟨_, e, rfl⟩ (fun s' => typeIs_int s' k t) noFill_list_mul F.fills_int_mul F.slot_int_rmul repeat_list F.slot_int_index.lookup
  (call_meets F.slot_int_rmul (typeIs_int s k t) F.entry_int_rmul (F.args_int_rmul_2 _ _) (int___rmul___int_list k t l its.toArray n)
   ⟨e, rfl, ⟨_, e, rfl⟩, call_meets F.slot_list_mul ⟨_, e, rfl⟩ F.entry_list_mul (F.args_list_mul_2 _ _) (AutoListH.list___mul___list_int_3 l its.toArray n k t hfit hcap hlong) ⟨e, ?_⟩⟩)
 rw [hnew]
 exact ⟨.ref _, _, I.lnew (t' := s.toks) (r.rep k.toNat) (by rw [len_rep, Nat.mul_comm]; exact hz), rfl, q _ I.fresh⟩

end

section
variable {prog : Program} {w : World} {A : Around} {E : Value -> Shared -> Prop} {s : Shared}
end

section
variable {X : Cx}
end
end L2

namespace Att
open PySem PySem.W PySem.Calls PyProof.Rows

theorem ints_of_wellAll {P : Params} {h : Heap} : ∀ (ns : List Int) (vs : List Value), WellAll P h vs (ns.map WData.int) -> IntsAre vs ns := by
 intro ns
 induction ns with
 | nil =>
  intro vs w
  rw [List.map_nil] at w
  cases w
  exact .nil
 | cons n ns ih =>
  intro vs w
  rw [List.map_cons] at w
  cases w with
  | cons a b =>
   cases a
   exact .cons _ _ (ih _ b)

theorem script_of {l : OpenLaw} {n : Nat} (hn : l.most = some n) {P : Params} {h : Heap} {args : List WData} {vals : List Value}
  (hpre : l.row.toRowW.claim.pre args = true) (hwl : WellAll P h vals args) :
  ∃ a vs ns, vals = [Value.ref a] /\ args = [WData.list (ns.map WData.int)] /\ h.get? a = some { cls := .type "list", data := .seq vs.toArray } /\ IntsAre vs ns /\ ns.length <= n := by
 have hsh : WShape.hasAll [] args [.list .int] = true := (pre_splitW hpre).1
 have hc : l.pre.holds [] { args := args } = true := (pre_splitW hpre).2
 obtain ⟨d, r, rfl, h1, h2⟩ := hasAllW_cons hsh
 obtain rfl := hasAllW_nil h2
 obtain ⟨xs, rfl, h3⟩ := hasW_list h1
 obtain ⟨ns, rfl⟩ := items_int h3
 have hlen : ns.length <= n := by
  unfold OpenLaw.pre at hc
  have h4 : (WTm.not (.lt (.lit (.int (n : Int))) (.len (.arg 0)))).holds [] { args := [.list (ns.map .int)] } = true := by
   have h4 := (holds_andW hc).1
   rw [hn] at h4
   exact h4
  have h5 := condW_of h4 (w_not (w_lt w_lit (w_len_list (w_arg rfl))))
  rw [List.length_map] at h5
  refine Nat.le_of_not_lt fun q => ?_
  have q' : (n : Int) < ((ns.length : Nat) : Int) := by omega
  first
   | (rw [decide_eq_true q'] at h5; exact absurd h5 (by decide))
   | (simp at h5; omega)
 cases hwl with
 | cons w1 w2 =>
  cases w2
  cases w1 with
  | list ho hall => exact ⟨_, _, ns, rfl, rfl, ho, ints_of_wellAll ns _ hall, hlen⟩

theorem post_true (l : OpenLaw) (args : List WData) : l.row.toRowW.claim.post args (.bool true) args = true :=
 postW_of (r := l.row.toRowW) (X := (true == true))
  (show WShape.has [] (.bool true) .bool = true by first | rfl | decide | simp [WShape.has, WShape.arms, WShape.armsAll])
  (show (WTm.eq .res (.lit (.bool true))).value [] { args := args, res := some (.bool true), after := args } = some (.bool (true == true)) from w_eq_bool (w_res rfl) w_lit) rfl

theorem attach_call {l : OpenLaw} {n : Nat} {q : Program} {loose : List Str} {XP : (Str -> Option Value) -> Heap -> Prop} {YP : World -> Heap -> Prop} {d : DefRec}
  (hn : l.most = some n) (hdf : d.params.defaults = [])
  (call : ∀ (w : World) (s₀ s₁ : Shared) (mg mb : Str -> Option Value) (fa : Addr) (o : Obj) (pm cd doc : Value) (a : Addr) (vs : List Value) (ns : List Int),
   Ground q loose [] XP w s₀ mg mb s₁.heap -> YP w s₁.heap ->
   s₁.heap.get? fa = some o -> o.data = .func (docDef d.name d.params d.body d.scope pm cd doc) -> s₁.heap.CodeRec cd d.name -> mg d.name = some (.ref fa) ->
   s₁.heap.get? a = some { cls := .type "list", data := .seq vs.toArray } -> IntsAre vs ns -> ns.length <= n -> s₁.gens = #[] ->
   codeAny (model l.prog w) callerA (.call (.ref fa) ⟨[.ref a], []⟩) (fun r s' => r = .ok (.ret (.bool true)) /\ OldK s₁.heap s'.heap /\ s'.os = s₁.os /\ AllBare s'.gens) s₁) :
  WalkO q loose XP YP l.row.toRowW d [] (fun f vs => PySem.call f vs) := by
 intro w s₀ s₁ mg mb G Y fa o pm cd doc dV kV ho hd hcd hD hmg hg args vals as hpre hlay hrd hwl hlo
 obtain rfl : dV = .none := Dflts.none hD hdf
 obtain rfl : kV = .none := Dflts.noKw hD
 obtain ⟨a, vs, ns, rfl, rfl, hobj, hints, hlen⟩ := script_of hn hpre hwl
 refine enter_call (codeAny_mono (call w s₀ s₁ mg mb fa o pm cd doc a vs ns G Y ho (fd_plain hd) hcd hmg hobj hints hlen hg) fun r s' hq => ?_)
 obtain ⟨rfl, h2, h3, h4⟩ := hq
 exact ⟨.inl ⟨.bool true, .bool true, [], rfl, fun _ => rfl, .bool true, post_true l _, fun _ => ⟨List.Pairwise.nil, fun _ hm => (nomatch hm)⟩⟩, h2, h3, h4⟩

section
variable {prog : Program} {w : World} {A : Around} {E : Value -> Shared -> Prop} {s : Shared} {K : Frag}

end
end Att

namespace L2
open PySem PySem.Spec PyProof.Rows

theorem vals_ints : ∀ {vs : List Value} {ns : List Int}, IntsAre vs ns -> Vals (ns.map V.int) vs
 | _, _, .nil => .nil
 | _, _, .cons n t h => .cons ⟨t, rfl⟩ (vals_ints h)

noncomputable def Only (H : Hp) : Prop := ∀ b, H b = none \/ ∃ o xs, H b = some (.frz o (.lst xs))

theorem law_call {P : Program} {w : World} {K : PySem.W.Frag} {mg mb : Str -> Option Value} {CX : CXT} {k : Nat} {fa a : Addr} {fd : FuncData} {x : Str} {sp : Sp} {s₁ : Shared} {vs : List Value} {ns : List Int}
  (KX : K.In s₁.heap) (hns : s₁.heap.Ns mainGlobals mg) (hb : s₁.heap.Ns builtinsNs mb) (hbb : ∀ x : Str, x ≠ "__name__" -> mb x = bootBuiltins x) (hlim : s₁.heap.NoLimit) (hg : s₁.gens = #[])
  (ha : s₁.heap.get? a = some { cls := .type "list", data := .seq vs.toArray }) (hi : IntsAre vs ns) (hl : ns.length <= sizeLine) (hr : Room k callerA)
  (F : ∀ base : Heap, K.In base -> base.Ns mainGlobals mg -> FnOk P w K mg base CX k fa fd [x] sp) (hbind : ∀ (s : Shared) (u : Value), BindsTo s fd ⟨[u], []⟩ [(x, u)])
  (hsp : ∀ H : Hp, Only H -> SqL K H a (ns.map V.int) -> sp [.ref a] H (fun v _ => v = .bl true) fun _ _ _ => False)
  (hCX : ∀ H e s', CX [] H s₁ (fun _ _ _ => False) e s' -> False) :
  codeAny (model P w) callerA (.call (.ref fa) ⟨[.ref a], []⟩) (fun r s' => r = .ok (.ret (.bool true)) /\ OldK s₁.heap s'.heap /\ s'.os = s₁.os /\ AllBare s'.gens) s₁ := by
 have rv := vals_ints hi
 have lenV := hi.length
 -- from an abstract heap in which nothing but the script may be tracked
 have core : ∀ H : Hp, Only H -> SqL K H a (ns.map V.int) -> HOk P w H s₁.heap -> (∀ b, H b ≠ none -> b = a) -> (H a ≠ none -> K.lookup a = none) ->
   codeAny (model P w) callerA (.call (.ref fa) ⟨[.ref a], []⟩) (fun r s' => r = .ok (.ret (.bool true)) /\ OldK s₁.heap s'.heap /\ s'.os = s₁.os /\ AllBare s'.gens) s₁ := by
  intro H hO hS hok hA hK
  have base_of : ∀ {b : Addr} {o : Obj}, s₁.heap.get? b = some o -> H b = none -> (hidT s₁.heap H).get? b = some o := fun e n => hidT_get e n
  have noA : ∀ {b : Addr} {o : Obj} {es : Array DictEntry} {ep : Nat}, s₁.heap.get? b = some o -> o.data = .dict es ep -> H b = none := fun {b o es ep} e d => by
   cases q : H b with
   | none => rfl
   | some u =>
    have e' : b = a := hA b (by rw [q]; simp)
    subst e'
    rw [ha] at e; cases e
    have d' : Data.seq vs.toArray _ = Data.dict es ep := d
    cases d'
  have nsK : ∀ {b : Addr} {m : Str -> Option Value}, s₁.heap.Ns b m -> (hidT s₁.heap H).Ns b m := fun {b m} ⟨o, es, ep, e, d, r⟩ => ⟨o, es, ep, base_of e (noA e d), d, r⟩
  have hKb : K.In (hidT s₁.heap H) := fun b o e => base_of (KX b o e) (by
   cases q : H b with
   | none => rfl
   | some u =>
    have e' : b = a := hA b (by rw [q]; simp)
    subst e'
    rw [hK (by rw [q]; simp)] at e; cases e)
  have hM : Mod K mg (hidT s₁.heap H) := ⟨hKb, nsK hns, ⟨mb, nsK hb, hbb⟩, let ⟨mc, h1, h2⟩ := hlim; ⟨mc, nsK h1, h2⟩⟩
  have e0 : Env0 P w K mg (hidT s₁.heap H) callerA [] s₁ H := ⟨rfl, hM, fun b o e => of_hidT e, Nat.le_of_eq (hidT_size _ _), trivial, fun b hb => absurd (show b ∈ ([] : List Addr) from hb) (by simp), hok, .of_eq hg⟩
  refine codeAny_mono ((F _ hKb (nsK hns)).run callerA [] s₁ H ⟨[.ref a], []⟩ [.ref a] [.ref a] _ _ hr e0 (hbind s₁ (.ref a)) (.cons rfl .nil) (hsp H hO hS)) fun r s' h => ?_
  cases r with
  | error e => exact (hCX H e s' h).elim
  | ok fl =>
   cases fl with
   | next => exact False.elim h
   | brk => exact False.elim h
   | cont => exact False.elim h
   | ret u =>
    obtain ⟨v, H', os, bare, un, hok', r', q⟩ := h
    have q' : v = .bl true := q
    subst q'
    obtain rfl : u = Value.bool true := r'
    refine ⟨rfl, OldK.of_keep fun b o e => ?_, os, bare⟩
    cases q : H b with
    | none => exact un.keep b o e q (by intro z; exact absurd (show b ∈ ([] : List Addr) from z) (by simp)) (by simp)
    | some u =>
     rcases hO b with z | ⟨ob, xs, z⟩
     ·rw [q] at z; cases z
     ·have z2 := un.frzs b ob _ z
      obtain ⟨e1, _⟩ := hok b _ z
      obtain ⟨e2, _⟩ := hok' b _ z2
      rw [e] at e1; cases e1
      exact e2
 cases hk : K.lookup a with
 | some o =>
  -- the script is one of the module's own objects
  have e := KX a o hk
  rw [ha] at e
  cases e
  refine core (fun _ => none) (fun _ => .inl rfl) (.inr ⟨_, vs.toArray, _, hk, rfl, rfl, rfl, by rw [List.size_toArray, lenV]; exact hl, by simpa using rv⟩) (fun b u z => by have z' : (none : Option HO) = some u := z; cases z') (fun b z => absurd rfl z) fun z => absurd rfl z
 | none =>
  refine core (fun b => if b = a then some (.frz { cls := .type "list", data := .seq vs.toArray } (.lst (ns.map V.int))) else none) (fun b => ?_) (.inl (.inr ⟨{ cls := .type "list", data := .seq vs.toArray }, if_pos rfl⟩)) (fun b u z => ?_) (fun b z => ?_) fun _ => hk
  ·by_cases hb : b = a
   ·exact .inr ⟨_, _, if_pos hb⟩
   ·exact .inl (if_neg hb)
  ·by_cases hb : b = a
   ·have z' := (if_pos hb).symm.trans z
    cases z'
    subst hb
    exact ⟨ha, by rw [List.length_map]; exact hl, vs, _, rv, ha⟩
   ·have z' := (if_neg hb).symm.trans z
    cases z'
  ·by_cases hb : b = a
   ·exact hb
   ·exact absurd (if_neg hb) z
end L2

namespace L2
open PySem PySem.Spec PyProof.Rows

theorem walk_of {l : PySem.W.OpenLaw} {n k : Nat} {q : Program} {loose : List Str} {XP : (Str -> Option Value) -> Heap -> Prop} {YP : World -> Heap -> Prop} {d : DefRec} {K : Params -> PySem.W.Frag} {CX : World -> CXT} {sp : World -> Sp} {x : Str}
  (hn : l.most = some n) (hn2 : n <= sizeLine) (hdf : d.params.defaults = []) (hr : Room k callerA)
  (hY : ∀ (w : World) (h : Heap), YP w h -> (K w.params).In h)
  (F : ∀ (w : World) (mg : Str -> Option Value) (fa : Addr) (h : Heap), (K w.params).In h -> h.Ns mainGlobals mg -> mg d.name = some (.ref fa) ->
   ∃ fd : FuncData, (∀ (s : Shared) (u : Value), BindsTo s fd ⟨[u], []⟩ [(x, u)]) ∧
    ∀ base : Heap, (K w.params).In base -> base.Ns mainGlobals mg -> FnOk l.prog w (K w.params) mg base (CX w) k fa fd [x] (sp w))
  (hsp : ∀ (w : World) (H : Hp) (a : Addr) (ns : List Int), ns.length <= n -> Only H -> SqL (K w.params) H a (ns.map V.int) -> sp w [.ref a] H (fun v _ => v = .bl true) fun _ _ _ => False)
  (hCX : ∀ (w : World) (H : Hp) (s : Shared) (e : Value) (s' : Shared), CX w [] H s (fun _ _ _ => False) e s' -> False) :
  PySem.W.WalkO q loose XP YP l.row.toRowW d [] (fun f vs => PySem.call f vs) := by
 refine Att.attach_call hn hdf fun w s₀ s₁ mg mb fa o pm cd doc a vs ns G Y ho hd hcd hmg hobj hints hlen hg => ?_
 have KX := hY w _ Y
 obtain ⟨fd, hb, hF⟩ := F w mg fa _ KX G.T.g hmg
 exact law_call KX G.T.g G.T.b G.T.builtins G.T.nolimit hg hobj hints (Nat.le_trans hlen hn2) hr hF hb (fun H hO hS => hsp w H a ns hlen hO hS) fun H e s' => hCX w H s₁ e s'
end L2



namespace L2
open PySem PySem.Spec PyProof.Rows

noncomputable def inClass (s : Stmt) (j : Nat) : Stmt := match s with
 | .ClassDef _ _ _ body _ _ _ _ _ _ _ => body.getD j (.Pass ⟨0, 0, 0, 0⟩)
 | _ => .Pass ⟨0, 0, 0, 0⟩
noncomputable def defArgs (s : Stmt) : Arguments := match s with
 | .FunctionDef _ a _ _ _ _ _ _ _ _ => a
 | _ => { posonlyargs := [], args := [], vararg := none, kwonlyargs := [], kw_defaults := [], kwarg := none, defaults := [] }
noncomputable def defBody (s : Stmt) : List Stmt := match s with
 | .FunctionDef _ _ b _ _ _ _ _ _ _ => b
 | _ => []
noncomputable def defScope (s : Stmt) : Scope := match s with
 | .FunctionDef _ _ _ _ _ _ sc _ _ _ => sc
 | _ => { kind := .function, names := [], isGenerator := false, isCoroutine := false }

noncomputable abbrev CX0 : CXT := fun _ _ _ _ _ _ => False
noncomputable abbrev E0 : XK := fun _ _ _ => False
theorem pass0 {X : Cx} : Passes CX0 X E0 := fun _ _ _ _ _ _ _ h => h.elim

structure Fun (K : PySem.W.Frag) (x qual : Str) (st : Stmt) (f : Addr) (fd : FuncData) : Prop where
 ex : ∃ (oc : Value) (od : Option Addr) (kV doc pm : Value) (an : Option Addr) (cdv ct : Value) (osl : Array (Option Value)),
  fd = PySem.W.fnOf x qual (defArgs st) (defBody st) (defScope st) .none kV doc pm an cdv ct /\ K.lookup f = some ⟨oc, od, .func fd, osl⟩ /\ PySem.W.codeIn K cdv qual = true
 kp : PySem.W.keepIn K (.ref f) = true
section
variable {P : Program} {w : World} {K : PySem.W.Frag} {mg : Str -> Option Value} {base : Heap}
theorem Fun.ok {x qual : Str} {st : Stmt} {f : Addr} {fd : FuncData} {N ps : List Str} {k : Nat} {sp : Sp} (F : Fun K x qual st f fd) (S : FnScope N ps (defScope st)) (len : ∀ vs H Q E, sp vs H Q E -> vs.length = ps.length)
  (hbody : ∀ (cdv : Value) (A : Around) (outer : List Env) (s : Shared) (H : Hp) (vs : List V) (Q : VK) (E : XK), Room k (A.deeper (envOfC qual (defScope st) s.heap.objs.size f cdv)) -> sp vs H Q E ->
   ∃ t, PSs (cxOf CX0 P w K mg base N qual (defScope st) f cdv A outer s H E).nox (defBody st) t /\ t { nx := fun _ H' => Q .non H', rt := Q } (start N vs) H) : FnOk P w K mg base CX0 (k + 1) f fd ps sp := by
 obtain ⟨oc, od, kV, doc, pm, an, cdv, ct, osl, rfl, lk, hcd⟩ := F.ex
 refine fn_of lk hcd S len fun A outer s H vs Q E hr hsp => ?_
 obtain ⟨t, h, q⟩ := hbody cdv A outer s H vs Q E hr hsp
 exact ⟨t, h.nox, q⟩
theorem Fun.binds {x qual : Str} {st : Stmt} {f : Addr} {fd : FuncData} {ps : List Str} (F : Fun K x qual st f fd)
  (h : ∀ (kV doc pm : Value) (an : Option Addr) (cdv ct : Value) (us : List Value), us.length = ps.length -> bindArgs (PySem.W.fnOf x qual (defArgs st) (defBody st) (defScope st) .none kV doc pm an cdv ct) ⟨us, []⟩ = pure (ps.zip us)) : Binds K fd ps [] := by
 obtain ⟨oc, od, kV, doc, pm, an, cdv, ct, osl, rfl, lk, hcd⟩ := F.ex
 exact .all (h kV doc pm an cdv ct)
theorem fun_mk {x qual : Str} {st : Stmt} {f : Addr} {oc : Value} {od an : Option Addr} {osl : Array (Option Value)} {kV doc pm cdv ct : Value} (l : K.lookup f = some ⟨oc, od, .func (PySem.W.fnOf x qual (defArgs st) (defBody st) (defScope st) .none kV doc pm an cdv ct), osl⟩)
  (c : PySem.W.codeIn K cdv qual = true) (k : PySem.W.keepIn K (.ref f) = true) : Fun K x qual st f (PySem.W.fnOf x qual (defArgs st) (defBody st) (defScope st) .none kV doc pm an cdv ct) := ⟨⟨oc, od, kV, doc, pm, an, cdv, ct, osl, rfl, l, c⟩, k⟩
end
theorem small1000 {n : Nat} (h : n <= 1000) : n < sizeLine := Nat.lt_of_le_of_lt h (by decide)

section
variable {X : Cx}
theorem pv (i : Nat) {x : Str} {pos : Pos} (hN : X.N[i]? = some x := by rfl) (hv : Vis X.env.scope x := by first | exact Or.inl rfl | exact Or.inr (Or.inl rfl) | exact Or.inr (Or.inr rfl)) (hd : (x == ("__debug__" : Str)) = false := by decide)
  (hcd : (x == ("__classdict__" : Str)) = false := by decide) : PE X (.Name x pos) (tVar i) := pe_var hN hv hd hcd
end

theorem iteF {A B : Prop} (h : B) : if false = true then A else B := by
 rw [if_neg Bool.false_ne_true]
 exact h
theorem iteT {A B : Prop} (h : A) : if true = true then A else B := by
 rw [if_pos rfl]
 exact h
theorem ite2 {c A B : Prop} [Decidable c] (h1 : c -> A) (h2 : ¬ c -> B) : if c then A else B := by
 by_cases h : c
 ·rw [if_pos h]
  exact h1 h
 ·rw [if_neg h]
  exact h2 h
theorem iteNS {c A B : Prop} [Decidable c] (hc : c) (h : B) : if (!decide c) = true then A else B := by
 rw [decide_eq_true hc]
 exact iteF h

noncomputable def Same (H H' : Hp) : Prop := ∀ b o, H b = some o -> H' b = some o
theorem Same.refl (H : Hp) : Same H H := fun _ _ h => h
theorem Same.trans {H H1 H2 : Hp} (a : Same H H1) (b : Same H1 H2) : Same H H2 := fun c o h => b c o (a c o h)
theorem Same.free {H H' : Hp} (e : Same H H') {l : Addr} (h : H' l = Option.none) : H l = Option.none := by
 cases q : H l with
 | none => rfl
 | some o =>
  rw [e l o q] at h
  cases h
theorem Same.seq {K : PySem.W.Frag} {H H' : Hp} {a : Addr} {xs : List V} (e : Same H H') (h : SqL K H a xs) : SqL K H' a xs := by
 rcases h with (h | ⟨o, h⟩) | h
 ·exact .inl (.inl (e _ _ h))
 ·exact .inl (.inr ⟨o, e _ _ h⟩)
 ·exact .inr h

end L2

set_option maxHeartbeats 4000000
namespace Sh
end Sh

namespace Sh
end Sh

namespace L2
open PySem
noncomputable def closeStep (env : Env) (cs : List (Str × Addr)) (p : Str × NameKind) : List (Str × Addr) := if (p.2 == .free) = true then (p.1, (env.cells.lookup p.1).getD 0) :: cs else cs
noncomputable def closeOf (scope : Scope) (env : Env) : List (Str × Addr) := scope.names.foldl (closeStep env) []
theorem close_loop {env : Env} : ∀ (names : List (Str × NameKind)) (cs : List (Str × Addr)), (∀ p ∈ names, p.2 = .free -> (env.cells.lookup p.1).isSome = true) ->
  (forIn names cs (fun (p : Str × NameKind) (r : List (Str × Addr)) => (if (p.2 == .free) = true then do let a <- cellOf env p.1; pure (ForInStep.yield ((p.1, a) :: r)) else pure (ForInStep.yield r) : Sem (ForInStep (List (Str × Addr)))))) = pure (names.foldl (closeStep env) cs) := by
 intro names
 induction names with
 | nil => intro cs _; rfl
 | cons p r ih =>
  intro cs h
  obtain ⟨n, k⟩ := p
  rw [List.forIn_cons]
  by_cases hk : k = .free
  ·subst hk
   obtain ⟨c, hc⟩ := Option.isSome_iff_exists.mp (h (n, .free) List.mem_cons_self rfl)
   have e : cellOf env n = pure c := by unfold cellOf; dsimp only at hc; rw [hc]
   have z : closeStep env cs (n, .free) = (n, c) :: cs := by unfold closeStep; dsimp only at hc |-; rw [hc]; rfl
   simp only [e, beq_self_eq_true, if_true, pure_bind, List.foldl_cons, z]
   exact ih _ fun q hq => h q (List.mem_cons_of_mem _ hq)
  ·have b : (k == NameKind.free) = false := by simpa using hk
   have z : closeStep env cs (n, k) = cs := by unfold closeStep; dsimp only; rw [b]; rfl
   simp only [b, Bool.false_eq_true, if_false, pure_bind, List.foldl_cons, z]
   exact ih _ fun q hq => h q (List.mem_cons_of_mem _ hq)
theorem closure_is {scope : Scope} {env : Env} (h : ∀ p ∈ scope.names, p.2 = .free -> (env.cells.lookup p.1).isSome = true) : closureFor scope env = pure (closeOf scope env) := by
 unfold closureFor closeOf
 have := close_loop scope.names [] h
 exact (congrArg (fun m => m >>= fun r => pure r) this).trans rfl
theorem close_mem {env : Env} : ∀ (names : List (Str × NameKind)) (cs : List (Str × Addr)) (x : Str) (c : Addr), (x, c) ∈ names.foldl (closeStep env) cs -> (x, c) ∈ cs \/ ((x, NameKind.free) ∈ names /\ c = (env.cells.lookup x).getD 0) := by
 intro names
 induction names with
 | nil => intro cs x c h; exact .inl h
 | cons p r ih =>
  intro cs x c h
  obtain ⟨n, k⟩ := p
  rw [List.foldl_cons] at h
  rcases ih _ x c h with h1 | ⟨h1, h2⟩
  ·unfold closeStep at h1
   dsimp only at h1
   by_cases hk : k = .free
   ·subst hk
    simp only [beq_self_eq_true, if_true] at h1
    rcases List.mem_cons.mp h1 with e | h1
    ·injection e with e1 e2
     subst e1; subst e2
     exact .inr ⟨List.mem_cons_self, rfl⟩
    ·exact .inl h1
   ·have b : (k == NameKind.free) = false := by simpa using hk
    simp only [b, Bool.false_eq_true, if_false] at h1
    exact .inl h1
  ·exact .inr ⟨List.mem_cons_of_mem _ h1, h2⟩
theorem mem_of_look {α β : Type} [BEq α] [LawfulBEq α] : ∀ {l : List (α × β)} {a : α} {b : β}, l.lookup a = some b -> (a, b) ∈ l
 | [], _, _, h => by simp at h
 | (x, y) :: r, a, b, h => by
  rw [List.lookup_cons] at h
  by_cases e : a = x
  ·subst e
   simp only [beq_self_eq_true, if_true] at h
   cases h
   exact List.mem_cons_self
  ·have : (a == x) = false := by simpa using e
   simp only [this] at h
   exact List.mem_cons_of_mem _ (mem_of_look h)
theorem look_of_mem {α β : Type} [BEq α] [LawfulBEq α] : ∀ {l : List (α × β)} {a : α} {b : β}, (a, b) ∈ l -> ∃ c, l.lookup a = some c
 | [], _, _, h => by cases h
 | (x, y) :: r, a, b, h => by
  rw [List.lookup_cons]
  by_cases e : a = x
  ·subst e
   exact ⟨y, by simp⟩
  ·have z : (a == x) = false := by simpa using e
   rcases List.mem_cons.mp h with q | q
   ·injection q with q1 _; exact absurd q1 e
   ·obtain ⟨c, hc⟩ := look_of_mem q
    exact ⟨c, by simp only [z]; exact hc⟩
theorem close_has {env : Env} : ∀ (names : List (Str × NameKind)) (cs : List (Str × Addr)) (x : Str), ((x, NameKind.free) ∈ names \/ ∃ c, (x, c) ∈ cs) -> ∃ c, (x, c) ∈ names.foldl (closeStep env) cs := by
 intro names
 induction names with
 | nil =>
  intro cs x h
  rcases h with h | h
  ·cases h
  ·exact h
 | cons p r ih =>
  intro cs x h
  rw [List.foldl_cons]
  refine ih _ x ?_
  rcases h with h | ⟨c, h⟩
  ·rcases List.mem_cons.mp h with e | h
   ·subst e
    exact .inr ⟨_, by unfold closeStep; simp only [beq_self_eq_true, if_true]; exact List.mem_cons_self⟩
   ·exact .inl h
  ·refine .inr ⟨c, ?_⟩
   unfold closeStep
   split
   ·exact List.mem_cons_of_mem _ h
   ·exact h
theorem close_look {scope : Scope} {env : Env} (h : ∀ p ∈ scope.names, p.2 = .free -> (env.cells.lookup p.1).isSome = true) {x : Str} {c : Addr} (e : (closeOf scope env).lookup x = some c) :
  env.cells.lookup x = some c /\ (x, NameKind.free) ∈ scope.names := by
 rcases close_mem scope.names [] x c (mem_of_look e) with z | ⟨z, q⟩
 ·cases z
 ·obtain ⟨d, hd⟩ := Option.isSome_iff_exists.mp (h _ z rfl)
  dsimp only at hd
  rw [hd] at q
  exact ⟨by rw [hd, q]; rfl, z⟩
theorem close_some {scope : Scope} {env : Env} {x : Str} (h : (x, NameKind.free) ∈ scope.names) : ∃ c, (closeOf scope env).lookup x = some c := by
 obtain ⟨c, hc⟩ := close_has (env := env) scope.names [] x (.inl h)
 exact look_of_mem hc
theorem relabel_kind {scope : Scope} {env : Env} {x : Str} {k : NameKind} (h : (relabel scope env).names.lookup x = some k) : (k = .cell /\ ((x, NameKind.free) ∈ scope.names \/ (x, NameKind.cell) ∈ scope.names)) \/ (x, k) ∈ scope.names := by
 have m := mem_of_look h
 unfold relabel at m
 obtain ⟨⟨n, j⟩, hm, e⟩ := List.mem_map.mp m
 dsimp only at e
 split at e
 ·rename_i q
  injection e with e1 e2
  subst e1; subst e2
  have q1 : j = NameKind.free := by
   have := (Bool.and_eq_true_iff.mp (Bool.and_eq_true_iff.mp q).1).1
   exact eq_of_beq this
  subst q1
  exact .inl ⟨rfl, .inl hm⟩
 ·injection e with e1 e2
  subst e1; subst e2
  exact .inr hm
end L2

namespace L2
open PySem
section
variable {prog : Program} {w : World} {A : Around} {R : Result -> Shared -> Prop} {s : Shared}
theorem comp_turns {elt target iter : Expr} {scope : Scope} {pos : Pos} {it acc : Value} {env : Env} (Wd : Nat -> Shared -> Prop)
  (turn : ∀ n s, Wd n s -> wpAny (model prog w) A (pyNext it) (fun r s1 => match r with
   | none => R (.ok .next) s1
   | some v => wpAny (model prog w) A (letOwnedTupleGo target it v) (fun _ s2 => wpAny (model prog w) A (assign target env v) (fun _ s3 => wpAny (model prog w) A (eval elt env) (fun x s4 =>
     wpAny (model prog w) A (call (.builtin "list.append") [acc, x]) (fun _ s5 => ∃ m, m < n /\ Wd m s5) (fun _ _ => False) s4) (fun _ _ => False) s3) (fun _ _ => False) s2) (fun _ _ => False) s1) (fun _ _ => False) s)
  (n : Nat) (h : Wd n s) : codeAny (model prog w) A (.compLoop (.ListComp elt [⟨target, iter, [], 0⟩] scope pos) 0 it acc env) R s := by
 refine codeAny_loop rfl Wd (fun n s hI => ?_) n h
 show wpAny _ _ (Sem.onRaise (compTurn (.ListComp elt [⟨target, iter, [], 0⟩] scope pos) 0 it acc env) _) _ _ s
 refine wpAny_noted ?_
 rw [compTurn_list1]
 refine wpAny_bind (wpAny_standAt (wpAny_bind (wpAny_mono (turn n s hI) (fun r s1 h1 => ?_) fun _ _ z => False.elim z)))
 cases r with
 | none => exact wpAny_pure h1
 | some v =>
  refine wpAny_bind (wpAny_mono h1 (fun _ s2 h2 => ?_) fun _ _ z => False.elim z)
  refine wpAny_bind (wpAny_mono h2 (fun _ s3 h3 => ?_) fun _ _ z => False.elim z)
  refine wpAny_bind (wpAny_bind (wpAny_mono h3 (fun x s4 h4 => ?_) fun _ _ z => False.elim z))
  exact wpAny_bind (wpAny_mono h4 (fun _ s5 h5 => wpAny_pure (wpAny_pure ⟨rfl, h5⟩)) fun _ _ z => False.elim z)
end
end L2


namespace L2
open PySem PySem.Spec PyProof.Rows
noncomputable def Bd (n : Nat) (i : Int) : Prop := i.natAbs < 2 ^ n
theorem Bd.mono {n m : Nat} {i : Int} (h : Bd n i) (k : n <= m) : Bd m i := Nat.lt_of_lt_of_le h (Nat.pow_le_pow_right (by decide) k)
theorem Bd.of_le {n : Nat} {i j : Int} (h : Bd n j) (k : i.natAbs <= j.natAbs) : Bd n i := Nat.lt_of_le_of_lt k h
theorem Bd.mul {n m : Nat} {i j : Int} (h : Bd n i) (k : Bd m j) : Bd (n + m) (i * j) := by
 unfold Bd
 rw [Int.natAbs_mul, Nat.pow_add]
 rcases Nat.eq_zero_or_pos j.natAbs with z | z
 ·rw [z, Nat.mul_zero]
  exact Nat.mul_pos (Nat.two_pow_pos _) (Nat.two_pow_pos _)
 ·exact Nat.lt_of_lt_of_le (Nat.mul_lt_mul_of_pos_right h z) (Nat.mul_le_mul_left _ (Nat.le_of_lt k))
theorem Bd.add {n : Nat} {i j : Int} (h : Bd n i) (k : Bd n j) : Bd (n + 1) (i + j) := by
 have h' : i.natAbs < 2 ^ n := h
 have k' : j.natAbs < 2 ^ n := k
 unfold Bd
 rw [Nat.pow_succ]
 have := Int.natAbs_add_le i j
 omega
theorem Bd.neg {n : Nat} {i : Int} (h : Bd n i) : Bd n (-i) := by
 unfold Bd
 rw [Int.natAbs_neg]
 exact h
theorem Bd.sub {n : Nat} {i j : Int} (h : Bd n i) (k : Bd n j) : Bd (n + 1) (i - j) := by
 rw [Int.sub_eq_add_neg]
 exact h.add k.neg
theorem Bd.lit {n : Nat} {i : Int} (h : i.natAbs < 2 ^ n := by decide) : Bd n i := h
theorem Bd.bits {n : Nat} {i : Int} (h : Bd n i) : Builtin.Int.intBits i <= n := by
 have h' : i.natAbs < 2 ^ n := h
 unfold Builtin.Int.intBits
 split
 ·exact Nat.zero_le _
 ·rename_i z
  have nz : i.natAbs ≠ 0 := by
   intro q
   apply z
   rw [Int.natAbs_eq_zero.mp q]
   rfl
  exact (Nat.log2_lt nz).mpr h'
theorem Bd.fdiv {n : Nat} {i : Int} (h : Bd n i) (j : Int) : Bd n (i.fdiv j) :=
 h.of_le (Int.natAbs_fdiv_le_natAbs i j)
noncomputable def CMulW (i j : Int) : Prop := Bd 60000 i /\ Bd 60000 j
noncomputable def CDivW (_ j : Int) : Prop := j ≠ 0 /\ Bd 8000 j
section
variable {X : Cx}
theorem CMulW.ok {i j : Int} (h : CMulW i j) : IntMulOk i j := by
 have h1 := h.1.bits
 have h2 := h.2.bits
 have hc : Builtin.Int.intTooBig (Builtin.Int.intBits i + Builtin.Int.intBits j) = false := by
  unfold Builtin.Int.intTooBig
  rw [bitsLine_eq]
  exact decide_eq_false (by omega)
 unfold IntMulOk
 rw [hc]
 simp
theorem op_mulW : OpR X (binaryOp .Mult) (rI CMulW fun i j => .int (i * j)) := opI fun _ _ _ _ _ _ _ hc q => mul_int q hc.ok
theorem op_fdivW : OpR X (binaryOp .FloorDiv) (rI CDivW fun i j => .int (i.fdiv j)) := opI fun _ _ _ _ _ _ _ hc q => by
 refine floordiv_int hc.1 q (.inl (PyProof.noPylong_of_log2 ?_))
 have h' : _ < 2 ^ 8000 := hc.2
 have nz : _ ≠ 0 := fun z => hc.1 (Int.natAbs_eq_zero.mp z)
 exact Nat.lt_trans ((Nat.log2_lt nz).mpr h') (by decide)
end

section
variable {X : Cx}
noncomputable def rInst (K : PySem.W.Frag) : List V -> Hp -> VK -> Prop := fun xs H Q => ∃ x c t b, xs = [x, .ty c] /\ TyOf K H x t /\ PySem.W.kitOne K t (.type c) = some b /\ Q (.bl b) H
theorem call_isinst : CallR X (.builtin "isinstance") (rInst X.K) := by
 intro pins s σ H xs us Q I r h
 obtain ⟨x, c, t, b, rfl, ty, e, q⟩ := h
 obtain ⟨u, v, rfl, ru, rv⟩ := vals2 r
 cases (show v = Value.type c from rv)
 exact isinst_ok I ru ty e fun tk => ⟨.bl b, H, I.tok tk, rfl, q⟩
end

mutual
inductive Dp (K : PySem.W.Frag) (H : Hp) : V -> PyData -> Prop where
 | non : Dp K H .non .none
 | bl (b : Bool) : Dp K H (.bl b) (.bool b)
 | int (i : Int) : Dp K H (.int i) (.int i)
 | str (x : Str) : Dp K H (.str x) (.str x)
 | lst {a : Addr} {xs : List V} {ds : List PyData} (e : SqL K H a xs) (h : DpAll K H xs ds) : Dp K H (.ref a) (.list ds)
 | tup {a : Addr} {xs : List V} {ds : List PyData} (e : SqT K H a xs) (h : DpAll K H xs ds) : Dp K H (.ref a) (.tuple ds)
inductive DpAll (K : PySem.W.Frag) (H : Hp) : List V -> List PyData -> Prop where
 | nil : DpAll K H [] []
 | cons {x : V} {xs : List V} {d : PyData} {ds : List PyData} (h : Dp K H x d) (t : DpAll K H xs ds) : DpAll K H (x :: xs) (d :: ds)
end
section
variable {X : Cx} {pins : List (Addr × Obj)} {σ : St} {H : Hp} {s : Shared}
mutual
theorem Dp.reads (I : Inv X pins σ H s) : ∀ {x : V} {d : PyData} {u : Value}, Dp X.K H x d -> RelV x u -> ∃ as, Reads s.heap u d as
 | _, _, _, .non, r => by cases r; exact ⟨_, .none⟩
 | _, _, _, .bl b, r => by cases r; exact ⟨_, .bool b⟩
 | _, _, _, .int i, r => by obtain ⟨t, rfl⟩ := r; exact ⟨_, .int i t⟩
 | _, _, _, .str x, r => by obtain ⟨t, rfl⟩ := r; exact ⟨_, .str x t⟩
 | _, _, _, .lst e h, r => by
  cases r
  obtain ⟨its, rv, ⟨o, n, e1, e2, _, e3⟩, _⟩ := I.list e
  obtain ⟨as, q⟩ := DpAll.reads I h rv
  exact ⟨_, .list e1 e2 e3 (by simpa using q)⟩
 | _, _, _, .tup e h, r => by
  cases r
  obtain ⟨its, rv, ⟨o, e1, e2, n, e3⟩, _⟩ := I.tuple e
  obtain ⟨as, q⟩ := DpAll.reads I h rv
  exact ⟨_, .tuple e1 e2 e3 (by simpa using q)⟩
theorem DpAll.reads (I : Inv X pins σ H s) : ∀ {xs : List V} {ds : List PyData} {us : List Value}, DpAll X.K H xs ds -> Vals xs us -> ∃ as, ReadsAll s.heap us ds as
 | _, _, _, .nil, r => by cases r; exact ⟨_, .nil⟩
 | _, _, _, .cons h t, r => by
  cases r with
  | cons r1 r2 =>
   obtain ⟨_, q1⟩ := Dp.reads I h r1
   obtain ⟨_, q2⟩ := DpAll.reads I t r2
   exact ⟨_, .cons q1 q2⟩
end
end
section
variable {X : Cx}
noncomputable def rSameD (K : PySem.W.Frag) (b : Bool) : R2 := fun x y H Q => ∃ d : PyData, Dp K H x d /\ Dp K H y d /\ d.canLay0 = true /\ d.depth <= 60 /\ Q (.bl b) H
theorem op_eqD (hu : X.A.units + 64 < cLine) : OpR X (compareOp .Eq) (rSameD X.K true) := by
 intro pins s σ H x y v u Q I rx ry h
 obtain ⟨d, hx, hy, hc, hd, q⟩ := h
 obtain ⟨_, r1⟩ := hx.reads I rx
 obtain ⟨_, r2⟩ := hy.reads I ry
 refine SeqAt.rcAt_reads r1 r2 hc hc (by rw [Nat.min_self]; omega) _ _ _ _ ⟨.bl true, H, I, ?_, q⟩
 rw [SeqAt.eqv_refl d hc]
 rfl
theorem op_neD (hu : X.A.units + 64 < cLine) : OpR X (compareOp .NotEq) (rSameD X.K false) := by
 intro pins s σ H x y v u Q I rx ry h
 obtain ⟨d, hx, hy, hc, hd, q⟩ := h
 obtain ⟨_, r1⟩ := hx.reads I rx
 obtain ⟨_, r2⟩ := hy.reads I ry
 refine SeqAt.compareNe_reads r1 r2 hc hc (by rw [Nat.min_self]; omega) ⟨.bl false, H, I, ?_, q⟩
 rw [SeqAt.eqv_refl d hc]
 rfl
end

section
variable {X : Cx}
theorem call_all (hc : X.calm = true) : CallR X (.builtin "all") (fun xs H Q => ∃ (p : Addr) (bs : List Bool), xs = [.ref p] /\ SqL X.K H p (bs.map V.bl) /\ Q (.bl (bs.all id)) H) := by
 intro pins s σ H xs us Q I r h
 obtain ⟨p, bs, rfl, hq, q⟩ := h
 obtain ⟨u, rfl, ru⟩ := vals1 r
 cases ru
 obtain ⟨its, rv, pl, hz⟩ := I.list hq
 have hh : X.A.in1.handled = none := I.ok.hd hc
 have hlt : p < s.heap.objs.size := by obtain ⟨o, n, e, _⟩ := pl; exact Heap.lt_size e
 refine call_all_walk (wpAny_pyIter_list pl.isList ?_)
 have hlen : its.length = bs.length := by rw [<- rv.length, List.length_map]
 refine ⟨s.heap.objs.size, _, _, _, _, _, fun i => bs.getD i true, rfl, Walks.list hh s.heap.objs.size p (Nat.ne_of_lt hlt) its.toArray, ⟨⟨_, Heap.get?_push_size _ rfl, rfl, rfl⟩, pl.isList.push _⟩, ?_, fun h' tk kk => ?_⟩
 ·intro i v s' Q' E' hP hQ'
  have e1 : its[i]? = some v := by simpa using hP
  have hi : i < its.length := (List.getElem?_eq_some_iff.mp e1).1
  have hb : (bs.map V.bl)[i]? = some (.bl (bs.getD i true)) := by
   rw [List.getElem?_map, List.getElem?_eq_getElem (by omega), List.getD_eq_getElem?_getD, List.getElem?_eq_getElem (by omega)]
   rfl
  obtain ⟨u', e2, r2⟩ := rv.get hb
  rw [e1] at e2
  cases e2
  cases r2
  exact wpAny_truthy_bool hQ'
 ·have e : (List.range its.toArray.size).all (fun i => bs.getD i true) = bs.all id := by
   rw [List.size_toArray, hlen]
   rw [Bool.eq_iff_iff, List.all_eq_true, List.all_eq_true]
   constructor
   ·intro z b hb
    obtain ⟨i, hi, rfl⟩ := List.mem_iff_getElem.mp hb
    have := z i (List.mem_range.mpr hi)
    rw [List.getD_eq_getElem?_getD, List.getElem?_eq_getElem hi] at this
    exact this
   ·intro z i hi
    have hi' := List.mem_range.mp hi
    rw [List.getD_eq_getElem?_getD, List.getElem?_eq_getElem hi']
    exact z _ (List.getElem_mem hi')
  refine ⟨.bl (bs.all id), H, I.kept (h' := h') (t' := tk) fun b o eb => kk b o ?_ (Heap.get?_push_of_some _ eb), ?_, q⟩
  ·intro hb
   have : b = s.heap.objs.size := by simpa using hb
   rw [this] at eb
   exact absurd (Heap.lt_size eb) (Nat.lt_irrefl _)
  ·rw [e]
   rfl
end
end L2


namespace L2
open PySem PySem.Spec PyProof.Rows
noncomputable abbrev blockCx (X : Cx) (scope : Scope) (N : List Str) (C : Addr) (s₀ : Shared) (H₀ : Hp) (ex : List Addr) : Cx :=
 { X with N := N, s₀ := s₀, H₀ := H₀, env := compEnvC scope (closeOf scope X.env) C X.env, outer := X.stack, ex := ex, fn := fun _ => false, pn := [], xe := fun _ _ => False }
noncomputable def blkSt (own : List Str) (caps : List (Nat × Str)) (σ : St) : St := own.map (fun _ => none) ++ caps.map fun p => (σ[p.1]?).getD none
noncomputable abbrev blkN (own : List Str) (caps : List (Nat × Str)) : List Str := own ++ caps.map (·.2)
structure BlkOk (X : Cx) (scope : Scope) (own : List Str) (caps : List (Nat × Str)) : Prop where
 kind : scope.kind = .function
 ncell : ∀ y ∈ scope.names, y.2 ≠ .cell
 locs : ∀ y ∈ scope.names, y.2 = .local -> scope.names.lookup y.1 = some .local
 free : ∀ y ∈ scope.names, y.2 = .free -> (X.env.cells.lookup y.1).isSome = true
 caps : ∀ p ∈ caps, X.N[p.1]? = some p.2 /\ scope.names.lookup p.2 = some .free /\ (X.env.kindOf p.2 = some .cell \/ X.env.kindOf p.2 = some .free)
theorem relabel_look {scope : Scope} {env : Env} {x : Str} : (relabel scope env).names.lookup x = (scope.names.lookup x).map fun k => if (k == .free && env.scope.kind == .function && env.kindOf x == some .cell) = true then .cell else k := by
 unfold relabel
 generalize scope.names = l
 induction l with
 | nil => rfl
 | cons p r ih =>
  obtain ⟨n, k⟩ := p
  rw [List.map_cons]
  by_cases e : x = n
  ·subst e
   by_cases c : (k == NameKind.free && env.scope.kind == .function && env.kindOf x == some .cell) = true
   ·simp only [c, if_true, List.lookup_cons, beq_self_eq_true, Option.map_some]
   ·simp only [c, if_false, List.lookup_cons, beq_self_eq_true, Option.map_some, Bool.false_eq_true]
  ·have z : (x == n) = false := by simpa using e
   dsimp only
   split <;> simp only [List.lookup_cons, z] <;> exact ih
theorem blk_free {scope : Scope} {env : Env} {x : Str} (nc : ∀ y ∈ scope.names, y.2 ≠ .cell) (h : (relabel scope env).names.lookup x = some .cell \/ (relabel scope env).names.lookup x = some .free) : (x, NameKind.free) ∈ scope.names := by
 rw [relabel_look] at h
 cases e : scope.names.lookup x with
 | none => rw [e] at h; rcases h with h | h <;> cases h
 | some k =>
  have m := mem_of_look e
  rw [e] at h
  simp only [Option.map_some, Option.some.injEq] at h
  have kf : k = .free := by
   rcases h with h | h
   ·split at h
    ·rename_i q
     exact eq_of_beq (Bool.and_eq_true_iff.mp (Bool.and_eq_true_iff.mp q).1).1
    ·exact absurd h (nc _ m)
   ·split at h
    ·cases h
    ·exact h
  rw [<- kf]
  exact m
noncomputable def CompGo (J : It) (g : TG) (te : TE) (Q : VK) (σ0 : St) (H1 : Hp) : Prop := ∃ W : Nat -> Nat -> List V -> St -> Hp -> Prop, (∃ m, W 0 m [] σ0 H1) ∧
 ∀ i m ys σ1 H, W i m ys σ1 H -> (J.stop i H /\ ∀ p, H p = none -> Q (.ref p) (upd H p (.lst ys))) ∨
  (J.go i H /\ ys.length < sizeLine /\ ∃ N : V -> St -> Hp -> Prop, (∀ y σ' H', N y σ' H' -> ∃ m', m' < m /\ W (i + 1) m' (ys ++ [y]) σ' H') /\ ∀ x H', J.yld i H x H' -> g x σ1 H' fun σ2 H2 => te σ2 H2 fun y H3 => N y σ2 H3)
noncomputable def tComp (own : List Str) (caps : List (Nat × Str)) (wi : TI) (g : TG) (te : TE) : TE := fun σ H Q => wi σ H fun J H1 => CompGo J g te Q (blkSt own caps σ) H1
section
variable {X : Cx} {scope : Scope} {own : List Str} {caps : List (Nat × Str)} {pins : List (Addr × Obj)} {σ : St} {H : Hp} {s s4 : Shared} {C D : Addr} {fp : List Addr}
theorem blk_ok (B : BlkOk X scope own caps) (I : Inv X pins σ H s) (hf : ∀ b ∈ fp, FpOk X pins H b) (hC : s.heap.objs.size <= C) (hlt : ∀ b ∈ fp, b < s.heap.objs.size) : (blockCx X scope (blkN own caps) C s H fp).Ok where
 mod := I.ok.mod
 kind := B.kind
 glob := I.ok.glob
 blt := I.ok.blt
 above := hC
 inj := fun x y c h1 h2 => I.ok.inj x y c (close_look B.free h1).1 (close_look B.free h2).1
 has := fun x h => close_some (blk_free B.ncell h)
 cab := fun x c h _ => by cases h
 hd := I.ok.hd
 frames := I.ok.frames
 stk := .inl rfl
 exf := fun b hb => ⟨fun e => by have := hlt b hb; rw [e] at this; exact absurd (Nat.lt_of_lt_of_le this hC) (Nat.lt_irrefl _), fun x c e => (hf b hb).2.2.2.2.1 x c (close_look B.free e).1⟩
 bs := I.bs
 bsz := Nat.le_trans I.ok.bsz I.sz
 noex := fun b o e hb => by
  rcases (hf b hb).2.2.2.1 with z | z
  ·exact I.ok.noex b o e z
  ·exact absurd (Nat.lt_of_lt_of_le (Heap.lt_size e) (Nat.le_trans I.ok.bsz z)) (Nat.lt_irrefl _)
 exfs := fun b hb z => by
  rcases List.mem_cons.mp (I.stkSub b z) with e | z
  ·exact (hf b hb).2.1 e
  ·exact (hf b hb).2.2.1 z
 funs := I.stack
 frf := I.stkFree
theorem blk_slot {i : Nat} {x : Str} {v : V} (h1 : (blkN own caps)[i]? = some x) (h2 : (blkSt own caps σ)[i]? = some (some v)) : ∃ j, (j, x) ∈ caps /\ σ[j]? = some (some v) := by
 unfold blkSt at h2
 by_cases hi : i < own.length
 ·rw [List.getElem?_append_left (by simpa using hi), List.getElem?_map] at h2
  cases e : own[i]? with
  | none => rw [e] at h2; cases h2
  | some a => rw [e] at h2; cases h2
 ·rw [List.getElem?_append_right (by simpa using hi), List.length_map, List.getElem?_map] at h2
  unfold blkN at h1
  rw [List.getElem?_append_right (by omega), List.getElem?_map] at h1
  cases e : caps[i - own.length]? with
  | none => rw [e] at h1; cases h1
  | some p =>
   obtain ⟨j, n⟩ := p
   rw [e] at h1 h2
   cases h1
   refine ⟨j, List.mem_of_getElem? e, ?_⟩
   simp only [Option.map_some, Option.some.injEq] at h2
   cases q : σ[j]? with
   | none => rw [q] at h2; cases h2
   | some o => rw [q] at h2; exact congrArg some h2
theorem blk_inv (B : BlkOk X scope own caps) (I : Inv X pins σ H s) (hf : ∀ b ∈ fp, FpOk X pins H b) (hC : s.heap.objs.size <= C) (hlt : ∀ b ∈ fp, b < s.heap.objs.size)
  {m : Str -> Option Value} (hn : s4.heap.Ns C m) (hk : ∀ b o, s.heap.get? b = some o -> s4.heap.get? b = some o) (ho : s4.os = s.os) (hb : AllBare s4.gens) :
  Inv (blockCx X scope (blkN own caps) C s H fp) [] (blkSt own caps σ) H s4 where
 ok := blk_ok B I hf hC hlt
 os := ho
 bare := hb
 base := Un.kept hk
 loc := ⟨m, hn, fun i x v h1 h2 h3 => by
  obtain ⟨j, hm, hs⟩ := blk_slot h1 h2
  obtain ⟨c1, c2, c3⟩ := B.caps _ hm
  obtain ⟨m', _, hl⟩ := I.loc
  have vis : Vis X.env.scope x := c3.elim (fun z => .inr (.inl z)) fun z => .inr (.inr z)
  obtain ⟨u, r, l⟩ := hl j x v c1 hs vis
  refine ⟨u, r, .inr ?_⟩
  have hm2 : (x, NameKind.free) ∈ scope.names := mem_of_look c2
  obtain ⟨c', hc'⟩ := close_some (env := X.env) hm2
  have hc2 := (close_look B.free hc').1
  refine ⟨?_, c', hc', ?_⟩
  ·show (relabel scope X.env).names.lookup x = some .cell \/ (relabel scope X.env).names.lookup x = some .free
   rw [relabel_look, c2, Option.map_some]
   split
   ·exact .inl rfl
   ·exact .inr rfl
  ·rcases l with ⟨k, _⟩ | ⟨_, c, e, z⟩
   ·rcases c3 with c3 | c3 <;> rw [c3] at k <;> cases k
   ·rw [hc2] at e
    cases e
    obtain ⟨o, e1, e2⟩ := z
    exact ⟨o, hk _ o e1, e2⟩⟩
 cell := fun x c e => by
  obtain ⟨v, o, e1, e2⟩ := I.cell x c (close_look B.free e).1
  exact ⟨v, o, hk _ o e1, e2⟩
 free := I.hok.fresh hC
 freeC := fun x c e => I.freeC x c (close_look B.free e).1
 pin := fun p hp => by simp at hp
 hok := I.hok.kept hk
 len := by
  show (blkSt own caps σ).length = (blkN own caps).length
  unfold blkSt blkN
  simp
noncomputable abbrev lobj (its : List Value) (k : Nat) : Obj := { cls := .type "list", data := .seq its.toArray k }
theorem blk_push {Y : Cx} {its : List Value} {k : Nat} {y : Value} {pl : List (Addr × Obj)} {Q : Value -> Shared -> Prop} {E : Value -> Shared -> Prop} (I : Inv Y ((D, lobj its k) :: pl) σ H s) (hn : FpOk Y [] H D) (hp : Y.pn = []) (hz : its.length <= sizeLine)
  (q : ∀ h' k' tk, (∀ b o, b ≠ D -> s.heap.get? b = some o -> h'.get? b = some o) -> Inv Y [(D, lobj (its ++ [y]) k')] σ H { s with heap := h', toks := tk } -> Q .none { s with heap := h', toks := tk }) :
  wpAny (model Y.prog Y.w) Y.A (call (.builtin "list.append") [.ref D, y]) Q E s := by
 have pD := I.pin (D, lobj its k) (List.mem_append_right _ List.mem_cons_self)
 have e : s.heap.get? D = some (lobj its k) := pD.1
 refine call_meets F.slot_list_append ⟨_, e, rfl⟩ F.entry_list_append (F.args_list_append_2 _ _) (PySem.list_append D its.toArray k y (by rw [List.size_toArray]; exact hz)) ⟨e, ?_⟩
 have e2 := PySem.IsL.update e (·.push y)
 have ea : its.toArray.push y = (its ++ [y]).toArray := by simp
 have keep : ∀ b o, b ≠ D -> s.heap.get? b = some o -> (s.heap.update D (Obj.mapSeq (·.push y))).get? b = some o := fun b o hb eb => (Heap.get?_update_other s.heap _ (Ne.symm hb)).trans eb
 have I0 : Inv Y [] σ H s := I.pins_of fun p hp' => by cases hp'
 have I1 : Inv Y [] σ H { s with heap := s.heap.update D (Obj.mapSeq (·.push y)), toks := s.toks } := I0.turned keep hn.1 hn.2.1 hn.2.2.2.1 hn.2.2.2.2.1 hn.2.2.2.2.2
 have e3 : (s.heap.update D (Obj.mapSeq (·.push y))).get? D = some (lobj (its ++ [y]) _) := e2.trans (by rw [ea])
 have I2 : Inv Y [(D, lobj (its ++ [y]) (if ((its ++ [y]).toArray.size == its.toArray.size) = true then k else k + 1))] σ H { s with heap := s.heap.update D (Obj.mapSeq (·.push y)), toks := s.toks } := I1.pins_of fun p hp' => by
  rw [List.mem_singleton.mp hp']
  exact ⟨e3, hn.1, hn.2.1, hn.2.2.1, fun v z => by cases z⟩
 exact q _ _ s.toks keep I2
end
section
variable {X : Cx} {scope : Scope} {own : List Str} {caps : List (Nat × Str)} {elt tg iter : Expr} {wi : TI} {g : TG} {te : TE} {pos : Pos}
theorem comp_core {pins : List (Addr × Obj)} {σ : St} {H2 : Hp} {s2 : Shared} {it : Addr} {fp : List Addr} {tn : Nat -> Heap -> Prop} {J : It} {W : Nat -> Nat -> List V -> St -> Hp -> Prop} {m0 : Nat} {Q : VK} {E : Value -> Shared -> Prop} {RR : Value -> Addr -> Result -> Shared -> Prop}
  (B : BlkOk X scope own caps) (hc : X.calm = true) (hg : ∀ C s₀ H₀ ex, PG (blockCx X scope (blkN own caps) C s₀ H₀ ex) tg g) (he : ∀ C s₀ H₀ ex, PE (blockCx X scope (blkN own caps) C s₀ H₀ ex) elt te)
  (I2 : Inv X pins σ H2 s2) (T : Turn X.prog X.w X.K tg J fp it tn) (st2 : tn 0 s2.heap) (f2 : ∀ b ∈ fp, FpOk X pins H2 b) (w0 : W 0 m0 [] (blkSt own caps σ) H2)
  (turn : ∀ i m ys σ1 H, W i m ys σ1 H -> (J.stop i H /\ ∀ p, H p = none -> Q (.ref p) (upd H p (.lst ys))) ∨
   (J.go i H /\ ys.length < sizeLine /\ ∃ N : V -> St -> Hp -> Prop, (∀ y σ' H', N y σ' H' -> ∃ m', m' < m /\ W (i + 1) m' (ys ++ [y]) σ' H') /\ ∀ x H', J.yld i H x H' -> g x σ1 H' fun σ2 H2 => te σ2 H2 fun y H3 => N y σ2 H3))
  (hRR : ∀ D C s6 H6 ys m, s6.heap.Ns C m -> s2.heap.objs.size <= C -> (∀ h', Heap.SameBut C s6.heap h' -> Inv X pins σ (upd H6 D (.lst ys)) { s6 with heap := h' }) -> upd H6 D (.lst ys) C = none -> Q (.ref D) (upd H6 D (.lst ys)) -> RR (.ref D) C (.ok .next) s6) :
  wpAny (model X.prog X.w) X.A (newList []) (fun acc s3 => wpAny (model X.prog X.w) X.A (newFunctionEnv scope X.env.globals (closeOf scope X.env) [] X.env.qual none .none (some X.env)) (fun cenv s4 =>
   codeAny (model X.prog X.w) X.A (.compStart (.ListComp elt [⟨tg, iter, [], 0⟩] scope pos) 0 (.ref it) acc { cenv with scope := relabel scope X.env }) (RR acc cenv.locals) s4) E s3) E s2 := by
 have hlt : ∀ b ∈ fp, b < s2.heap.objs.size := fun b hb => by
  obtain ⟨o, ho, _⟩ := T.obj _ _ st2 b hb
  exact Heap.lt_size ho
 refine wpAny_newObj_type (wpAny_newFunctionEnv B.ncell (fun y hy => by simp at hy) (fun h4 hns hsb => ?_) B.kind)
 dsimp only at hns hsb |-
 generalize hP : s2.heap.push { cls := .type "list", dict := none, data := .seq ([] : List Value).toArray } = HD at hns hsb |-
 have hCD : HD.objs.size = s2.heap.objs.size + 1 := by rw [<- hP, Heap.size_push]
 have hDC : s2.heap.objs.size ≠ HD.objs.size := by omega
 have hle : s2.heap.objs.size <= HD.objs.size := by omega
 have old : ∀ b o, s2.heap.get? b = some o -> h4.get? b = some o := fun b o eb => by
  have hb := Heap.lt_size eb
  exact hsb.extBut b o (Nat.ne_of_lt (Nat.lt_of_lt_of_le hb hle)) (Heap.get?_push_of_some _ (by rw [<- hP]; exact Heap.get?_push_of_some _ eb))
 have hD4 : h4.get? s2.heap.objs.size = some { cls := .type "list", data := .seq ([] : List Value).toArray 0 } :=
  hsb.extBut _ _ hDC (Heap.get?_push_of_some _ (by rw [<- hP]; exact Heap.get?_push_size _ rfl))
 have IY : Inv (blockCx X scope (blkN own caps) HD.objs.size s2 H2 fp) [] (blkSt own caps σ) H2 { s2 with heap := h4, toks := s2.toks + ([] : List (Str × Value)).length } :=
  blk_inv B I2 f2 (by omega) hlt hns old rfl I2.bare
 -- what stays true of the iterator's objects and of the list
 have stat : ∀ {H' : Hp}, (∀ b ∈ fp, H' b = none) -> ∀ b ∈ fp, FpOk (blockCx X scope (blkN own caps) HD.objs.size s2 H2 fp) [] H' b := fun {H'} hn b hb => by
  have hb2 := hlt b hb
  refine ⟨hn b hb, ?_, fun z => ?_, .inl hb, fun x c ec => (f2 b hb).2.2.2.2.1 x c (close_look B.free ec).1, fun p hp => by simp at hp⟩
  ·exact Nat.ne_of_lt (Nat.lt_of_lt_of_le hb2 hle)
  ·rcases List.mem_cons.mp (I2.stkSub b z) with e | z
   ·exact (f2 b hb).2.1 e
   ·exact (f2 b hb).2.2.1 z
 have statD : ∀ {H' : Hp}, H' s2.heap.objs.size = none -> FpOk (blockCx X scope (blkN own caps) HD.objs.size s2 H2 fp) [] H' s2.heap.objs.size := fun {H'} hn => by
  refine ⟨hn, hDC, fun z => ?_, .inr (Nat.le_refl _), fun x c ec z => ?_, fun p hp => by simp at hp⟩
  ·obtain ⟨_, o, ho, _⟩ := I2.stack.mem z
   exact absurd (Heap.lt_size ho) (Nat.lt_irrefl _)
  ·obtain ⟨v, o, ho, _⟩ := I2.cell x c (close_look B.free ec).1
   rw [z] at ho
   exact absurd (Heap.lt_size ho) (Nat.lt_irrefl _)
 have neD : ∀ b ∈ fp, b ≠ s2.heap.objs.size := fun b hb => Nat.ne_of_lt (hlt b hb)
 have IY' : Inv (blockCx X scope (blkN own caps) HD.objs.size s2 H2 fp) [(s2.heap.objs.size, lobj [] 0)] (blkSt own caps σ) H2 { s2 with heap := h4, toks := s2.toks + ([] : List (Str × Value)).length } :=
  IY.pins_of fun p hp => by
   rw [List.mem_singleton.mp hp]
   have z := statD (I2.hok.fresh (Nat.le_refl _))
   exact ⟨hD4, z.1, z.2.1, z.2.2.1, fun v z => by cases z⟩
 have loop : ∀ s3 : Shared, s3 = { s2 with heap := h4, toks := s2.toks + ([] : List (Str × Value)).length } ->
   codeAny (model X.prog X.w) X.A (.compLoop (.ListComp elt [⟨tg, iter, [], 0⟩] scope pos) 0 (.ref it) (.ref s2.heap.objs.size) (compEnvC scope (closeOf scope X.env) HD.objs.size X.env))
    (RR (.ref s2.heap.objs.size) HD.objs.size) s3 := by
  rintro s3 rfl
  refine comp_turns (fun n s' => ∃ i ys σ' H' its k, Inv (blockCx X scope (blkN own caps) HD.objs.size s2 H2 fp) [(s2.heap.objs.size, lobj its k)] σ' H' s' /\ tn i s'.heap /\ (∀ b ∈ fp, H' b = none) ∧
   Vals ys its /\ ys.length <= sizeLine /\ W i n ys σ' H') ?_ m0 ⟨0, [], _, H2, [], 0, IY', T.keep _ _ _ st2 fun b hb o eb => old b o eb, fun b hb => (f2 b hb).1, .nil, Nat.zero_le _, w0⟩
  rintro n s5 ⟨i, ys, σ5, H5, its, k, I5, st5, fr5, rv5, hz5, w5⟩
  have stat5 : ∀ {H' : Hp}, (∀ b ∈ fp, H' b = none) -> ∀ b ∈ fp, FpOk (blockCx X scope (blkN own caps) HD.objs.size s2 H2 fp) [(s2.heap.objs.size, lobj its k)] H' b := fun {H'} hn b hb => by
   obtain ⟨a1, a2, a3, a4, a5, _⟩ := stat hn b hb
   refine ⟨a1, a2, a3, a4, a5, fun p hp => ?_⟩
   have hp' : p ∈ [(s2.heap.objs.size, lobj its k)] := hp
   rw [List.mem_singleton.mp hp']
   exact Ne.symm (neD b hb)
  rcases turn i n ys σ5 H5 w5 with ⟨stop, qn⟩ | ⟨go, hlen, N, hN, step⟩
  ·refine thn (T.done (blockCx X scope (blkN own caps) HD.objs.size s2 H2 fp) rfl rfl rfl hc i _ s5 σ5 H5 _ I5 (stat5 fr5) st5 stop) fun r s6 ⟨hr, I6⟩ => ?_
   subst hr
   obtain ⟨pD1, pD2, _⟩ := I6.pin (s2.heap.objs.size, lobj its k) (List.mem_append_right _ List.mem_cons_self)
   obtain ⟨m6, hn6, _⟩ := I6.loc
   refine hRR _ _ s6 H5 ys m6 hn6 (by omega) (fun h' sb => ?_) (by rw [upd_ne (Ne.symm hDC)]; exact I6.free) (qn _ pD2)
   have hC5 : H5 HD.objs.size = none := I6.free
   have nb : ∀ b o, s2.heap.get? b = some o -> b ≠ HD.objs.size /\ b ≠ s2.heap.objs.size := fun b o eb => by
    have hb := Heap.lt_size eb
    exact ⟨Nat.ne_of_lt (Nat.lt_of_lt_of_le hb hle), Nat.ne_of_lt hb⟩
   have nt : ∀ b o, H5 b = some o -> b ≠ s2.heap.objs.size := fun b o eb z => by rw [z] at eb; rw [show H5 s2.heap.objs.size = none from pD2] at eb; cases eb
   have un : Un (frs X.stack) fp H2 (upd H5 s2.heap.objs.size (.lst ys)) s2.heap h' :=
    ⟨fun b o eb n1 n2 n3 => sb.extBut b o (nb b o eb).1 (I6.base.keep b o eb n1 n2 n3),
     fun b o eb n1 n2 n3 => by
      obtain ⟨sl, e1⟩ := I6.base.slot b o eb n1 n2 n3
      exact ⟨sl, sb.extBut b _ (nb b o eb).1 e1⟩,
     fun b o eb n1 n3 => by
      rw [upd_ne (nb b o eb).2]
      exact I6.base.free b o eb n1 n3,
     fun b o eb n3 => by
      obtain ⟨o', e1⟩ := I6.base.there b o eb n3
      exact ⟨o', sb.extBut b _ (nb b o eb).1 e1⟩,
     fun b xs eb => by
      have e1 := I6.base.tups b xs eb
      rw [upd_ne (nt b _ e1)]
      exact e1,
     fun b o u eb => by
      have e1 := I6.base.frzs b o u eb
      rw [upd_ne (nt b _ e1)]
      exact e1,
     fun b ps eb => by
      obtain ⟨more, e1⟩ := I6.base.tbls b ps eb
      refine ⟨more, ?_⟩
      rw [upd_ne (nt b _ e1)]
      exact e1⟩
   have ok5 : HOk X.prog X.w (upd H5 s2.heap.objs.size (.lst ys)) h' := fun b u eb => by
    by_cases hb : b = s2.heap.objs.size
    ·subst hb
     rw [upd_same] at eb
     cases eb
     exact ⟨hz5, its, k, rv5, sb.extBut _ _ hDC pD1⟩
    ·rw [upd_ne hb] at eb
     refine (I6.hok b u eb).stay (fun c v hcv ev => sb.extBut c v ?_ ev) (fun c ec => by rw [upd_ne (nt c _ ec)]; exact ec) fun c xs ec => by rw [upd_ne (nt c _ ec)]; exact ec
     rintro rfl
     rcases hcv with z | z
     ·rw [<- z, hC5] at eb
      cases eb
     ·rw [hC5] at z
      cases z
   exact I2.call' (s' := { s6 with heap := h' }) (ch := fp) I6.os un ok5 I6.bare fun b hb => ⟨(f2 b hb).2.2.2.1, (f2 b hb).2.1, (f2 b hb).2.2.2.2.1, (f2 b hb).2.2.2.2.2⟩
  ·refine thn (T.item (blockCx X scope (blkN own caps) HD.objs.size s2 H2 fp) rfl rfl rfl hc i _ s5 σ5 H5 _ I5 (stat5 fr5) st5 go) fun r s6 ⟨u, hr, h6⟩ => ?_
   subst hr
   refine thn h6 fun _ s7 ⟨x, H7, I7, r7, y7, st7, fr7⟩ => ?_
   have I7' := I7.pinned (stat5 fr7) (T.obj _ _ st7)
   refine thn (hg HD.objs.size s2 H2 fp _ s7 σ5 H7 x u _ I7' r7 (step x H7 y7)) fun _ s8 ⟨σ8, H8, I8, q8⟩ => ?_
   refine thn (he HD.objs.size s2 H2 fp _ s8 σ8 H8 _ I8 q8) fun yv s9 ⟨y, H9, I9, r9, n9⟩ => ?_
   obtain ⟨m', hm', w9⟩ := hN y σ8 H9 n9
   have pD9 := (I9.pin (s2.heap.objs.size, lobj its k) (List.mem_append_right _ (List.mem_append_left _ List.mem_cons_self))).2.1
   have hl : its.length = ys.length := rv5.length.symm
   refine blk_push (Y := blockCx X scope (blkN own caps) HD.objs.size s2 H2 fp) (its := its) (k := k) (pl := pinsAt fp s7.heap) I9 (statD pD9) rfl (by omega) fun h' k' tk keep I' => ?_
   refine ⟨m', hm', i + 1, ys ++ [y], σ8, H9, its ++ [yv], k', I', ?_, fun b hb => ?_, rv5.append (.cons r9 .nil), ?_, w9⟩
   ·refine T.keep _ _ _ st7 fun b hb o eb => keep b o (neD b hb) ?_
    exact (I9.pin (b, o) (List.mem_append_right _ (List.mem_append_right _ (mem_pinsAt hb eb)))).1
   ·obtain ⟨o, eb, _⟩ := T.obj _ _ st7 b hb
    exact (I9.pin (b, o) (List.mem_append_right _ (List.mem_append_right _ (mem_pinsAt hb eb)))).2.1
   ·rw [List.length_append, List.length_singleton]
    omega
 exact codeAny_compStart_list (loop _ rfl) (T.self _ 0 _ _ _ (T.keep _ _ _ st2 fun b hb o eb => old b o eb) (loop _ rfl))
theorem pe_comp (B : BlkOk X scope own caps) (hc : X.calm = true) (hi : PI X tg iter wi) (hg : ∀ C s₀ H₀ ex, PG (blockCx X scope (blkN own caps) C s₀ H₀ ex) tg g)
  (he : ∀ C s₀ H₀ ex, PE (blockCx X scope (blkN own caps) C s₀ H₀ ex) elt te) (hs : ∀ x, foldedSetIterable iter X.env x = pure x := by intro _; rfl) :
  PE X (.ListComp elt [⟨tg, iter, [], 0⟩] scope pos) (tComp own caps wi g te) := by
 intro pins s σ H Q I h
 rw [eval_ListComp]
 refine wpAny_comprehension_free (use := none) rfl hs (closure_is B.free) B.kind B.locs ?_
 refine thn (hi pins s σ H _ I h) fun xv s1 h1 => thn h1 fun itv s2 h2 => ?_
 obtain ⟨it, fp, tn, J, H2, e, I2, T, st2, f2, W, ⟨m0, w0⟩, turn⟩ := h2
 subst e
 refine comp_core (RR := fun acc C => compPost (model X.prog X.w) X.A X.xe none (EP X pins σ Q) acc C) B hc hg he I2 T st2 f2 w0 turn fun D C s6 H6 ys m hn hC J6 hC6 q => ?_
 exact ⟨m, hn, fun h' sb => ⟨.ref D, _, J6 h' sb, rfl, q⟩⟩
theorem ps_comp {i : Nat} {y : Str} {py spos : Pos} (hN : X.N.Nodup) (hy : X.N[i]? = some y) (hl : X.env.scope.names.lookup y = some .local) (B : BlkOk X scope own caps) (hc : X.calm = true) (hi : PI X tg iter wi) (hg : ∀ C s₀ H₀ ex, PG (blockCx X scope (blkN own caps) C s₀ H₀ ex) tg g)
  (he : ∀ C s₀ H₀ ex, PE (blockCx X scope (blkN own caps) C s₀ H₀ ex) elt te) (hsw : swapsWith (.ListComp elt [⟨tg, iter, [], 0⟩] scope pos) (some (.Name y py)) spos.line X.env = pure true) (hs : ∀ x, foldedSetIterable iter X.env x = pure x := by intro _; rfl) :
  PS X (.Assign [.Name y py] (.ListComp elt [⟨tg, iter, [], 0⟩] scope pos) spos) (tAsg (tComp own caps wi g te) (gName i)) := by
 intro pins s σ H D0 I h
 rw [exec_Assign_Name_used _ _ _ _ hsw]
 refine wpAny_bind (wpAny_standAt (wpAny_bind ?_))
 change wpAny _ X.A (do let _ <- comprehension (.ListComp elt [⟨tg, iter, [], 0⟩] scope pos) scope X.env _ (newList []) false (eval iter X.env) (some (assign (.Name y py) X.env))) _ _ s
 refine wpAny_bind (wpAny_mono (wpAny_comprehension_free (use := some (assign (.Name y py) X.env)) (Q := fun _ s' => SP X pins D0 .next s') rfl hs (closure_is B.free) B.kind B.locs ?_) (fun _ s' hq => wpAny_pure (wpAny_pure hq)) fun _ _ e => e)
 refine thn (hi pins s σ H _ I h) fun xv s1 h1 => thn h1 fun itv s2 h2 => ?_
 obtain ⟨it, fp, tn, J, H2, e, I2, T, st2, f2, W, ⟨m0, w0⟩, turn⟩ := h2
 subst e
 refine comp_core (Q := fun x H1 => D0.nx (σ.set i (some x)) H1) (RR := fun acc C => compPost (model X.prog X.w) X.A X.xe (some (assign (.Name y py) X.env)) (fun _ s' => SP X pins D0 .next s') acc C) B hc hg he I2 T st2 f2 w0 turn fun D C s6 H6 ys m hn hC J6 hC6 q => ?_
 have I6 : Inv X pins σ (upd H6 D (.lst ys)) s6 := J6 s6.heap (.refl ..)
 have CL : C ≠ X.env.locals := fun z => by rw [z] at hC; exact absurd (Nat.lt_of_lt_of_le I2.lt hC) (Nat.lt_irrefl _)
 have CC : ∀ x c, X.env.cells.lookup x = some c -> c ≠ C := fun x c ec z => by
  obtain ⟨v, o, ho, _⟩ := I2.cell x c ec
  rw [z] at ho
  exact absurd (Nat.lt_of_lt_of_le (Heap.lt_size ho) hC) (Nat.lt_irrefl _)
 have CP : ∀ p ∈ X.pn ++ pins, p.1 ≠ C := fun p hp z => by
  have hl := Heap.lt_size (I2.pin p hp).1
  rw [z] at hl
  exact absurd (Nat.lt_of_lt_of_le hl hC) (Nat.lt_irrefl _)
 change wpAny _ X.A (assign (.Name y py) X.env (.ref D)) _ _ s6
 refine wpAny_assign_Name (store_ok2 I6 hN hy (.inl hl) (v := .ref D) rfl (fun s7 I7 ⟨a, sb, ha⟩ => ?_) (.inr hl))
 have aC : C ≠ a := fun z => by
  rcases ha with e | e
  ·exact CL (z.trans e)
  ·exact CC _ _ e z.symm
 refine ⟨m, hn.sameBut sb aC, fun h' sb' => ⟨_, _, I7.turned (h' := h') (t' := s7.toks) (it := C) (fun b o hb eb => sb'.extBut b o hb eb) hC6 CL (.inr (Nat.le_trans I2.sz hC)) CC CP, q⟩⟩
end
end L2

namespace L2
open PySem PySem.Spec PyProof.Rows
theorem comp_list {K : PySem.W.Frag} {a : Addr} {xs : List V} {g : TG} {te : TE} {σ0 : St} {H : Hp} {Q : VK} (Pv : Nat -> List V -> St -> Hp -> Prop) (h0 : Pv 0 [] σ0 H) (hl : ∀ i ys σ H, i <= xs.length -> Pv i ys σ H -> SqL K H a xs /\ ys.length <= i) (hz : xs.length <= sizeLine)
  (hs : ∀ i x ys σ H, xs[i]? = some x -> Pv i ys σ H -> g x σ H fun σ2 H2 => te σ2 H2 fun y H3 => Pv (i + 1) (ys ++ [y]) σ2 H3)
  (hd : ∀ ys σ H, Pv xs.length ys σ H -> ∀ p, H p = none -> Q (.ref p) (upd H p (.lst ys))) :
  CompGo (Itl K a) g te Q σ0 H := by
 refine ⟨fun i m ys σ H => m = xs.length - i /\ i <= xs.length /\ Pv i ys σ H, ⟨xs.length, by simp, Nat.zero_le _, h0⟩, ?_⟩
 rintro i m ys σ H ⟨rfl, hi, p⟩
 obtain ⟨q, hy⟩ := hl i ys σ H hi p
 by_cases hlt : i < xs.length
 ·refine .inr ⟨⟨xs, xs[i], q, by simp [hlt]⟩, by omega, fun y σ' H' => Pv (i + 1) (ys ++ [y]) σ' H', fun y σ' H' z => ⟨xs.length - (i + 1), by omega, rfl, hlt, z⟩, fun x H' y => ?_⟩
  obtain ⟨e, y⟩ := y
  subst e
  exact hs i x ys σ _ (y xs q) p
 ·have e : i = xs.length := by omega
  subst e
  exact .inl ⟨⟨xs, q, Nat.le_refl _⟩, hd ys σ H p⟩
theorem comp_range {lo : Int} {n : Nat} {g : TG} {te : TE} {σ0 : St} {H : Hp} {Q : VK} (Pv : Nat -> List V -> St -> Hp -> Prop) (h0 : Pv 0 [] σ0 H) (hl : ∀ i ys σ H, Pv i ys σ H -> ys.length <= i) (hz : n <= sizeLine)
  (hs : ∀ i ys σ H, i < n -> Pv i ys σ H -> g (.int (lo + i)) σ H fun σ2 H2 => te σ2 H2 fun y H3 => Pv (i + 1) (ys ++ [y]) σ2 H3)
  (hd : ∀ ys σ H, Pv n ys σ H -> ∀ p, H p = none -> Q (.ref p) (upd H p (.lst ys))) : CompGo (Itr lo n) g te Q σ0 H := by
 refine ⟨fun i m ys σ H => m = n - i /\ i <= n /\ Pv i ys σ H, ⟨n, by simp, Nat.zero_le _, h0⟩, ?_⟩
 rintro i m ys σ H ⟨rfl, hi, p⟩
 have hy := hl i ys σ H p
 by_cases hlt : i < n
 ·refine .inr ⟨hlt, by omega, fun y σ' H' => Pv (i + 1) (ys ++ [y]) σ' H', fun y σ' H' z => ⟨n - (i + 1), by omega, rfl, hlt, z⟩, fun x H' y => ?_⟩
  obtain ⟨e, y⟩ := y
  subst e y
  exact hs i ys σ _ hlt p
 ·have e : i = n := by omega
  subst e
  exact .inl ⟨Nat.le_refl _, hd ys σ H p⟩
structure Fn (P : Program) (w : World) (K : PySem.W.Frag) (mg : Str -> Option Value) (base : Heap) (x : Str) (ps : List Str) (k : Nat) (sp : Sp) : Prop where
 ex : ∃ f fd, FnOk P w K mg base CX0 k f fd ps sp /\ mg x = some (.ref f) /\ PySem.W.keepIn K (.ref f) = true /\ Binds K fd ps []
theorem Fn.mono {P : Program} {w : World} {K : PySem.W.Frag} {mg : Str -> Option Value} {base : Heap} {x : Str} {ps : List Str} {j k : Nat} {sp : Sp} (F : Fn P w K mg base x ps j sp) (h : j <= k) : Fn P w K mg base x ps k sp := by
 obtain ⟨f, fd, a, b, c, d⟩ := F.ex
 exact ⟨f, fd, a.mono h, b, c, d⟩
theorem pe_callF {X : Cx} {x : Str} {ps : List Str} {k : Nat} {sp : Sp} {e : Expr} {es : List Expr} {t : TA} {p pos : Pos} (F : Fn X.prog X.w X.K X.mg X.base x ps k sp) (hr : Room k X.A) (hg : Gl X x) (ha : PA X (e :: es) t)
  (hdb : (x == ("__debug__" : Str)) = false := by decide) (he : starEach (e :: es) X.env = (false, eval e X.env) :: starEach es X.env := by rfl) (hpl : (backTo pos (starEach es X.env)).any (·.1) = false := by rfl) :
  PE X (.Call (.Name x p) (e :: es) [] pos) (tCall sp [] E0 t) := by
 obtain ⟨f, fd, a, b, c, d⟩ := F.ex
 exact pe_call a hr hg b c d .nil pass0 ha hdb he hpl
end L2


namespace L2
open PySem PySem.Spec PyProof.Rows
theorem boot_isinstance_ : bootBuiltins "isinstance" = some (.builtin "isinstance") := by decide +kernel
theorem boot_len_ : bootBuiltins "len" = some (.builtin "len") := by decide +kernel
theorem boot_all_ : bootBuiltins "all" = some (.builtin "all") := by decide +kernel
theorem boot_int_ : bootBuiltins "int" = some (.type "int") := by decide +kernel
theorem boot_bool_ : bootBuiltins "bool" = some (.type "bool") := by decide +kernel
theorem boot_tuple_ : bootBuiltins "tuple" = some (.type "tuple") := by decide +kernel
theorem boot_list_ : bootBuiltins "list" = some (.type "list") := by decide +kernel
section
variable (K : PySem.W.Frag)
theorem kit_int_int : PySem.W.kitOne K (.type "int") (.type "int") = some true := by first | rfl | decide +kernel | (unfold PySem.W.kitOne; rw [if_pos (by decide +kernel)])
theorem kit_int_bool : PySem.W.kitOne K (.type "int") (.type "bool") = some false := by first | rfl | decide +kernel | (unfold PySem.W.kitOne; rw [if_neg (by decide +kernel)]; rfl)
theorem kit_tuple_tuple : PySem.W.kitOne K (.type "tuple") (.type "tuple") = some true := by first | rfl | decide +kernel | (unfold PySem.W.kitOne; rw [if_pos (by decide +kernel)])
end
theorem blk_mk {X : Cx} {scope : Scope} {own : List Str} (k : scope.kind = .function) (n : scope.names.all (fun y => y.2 != .cell && y.2 != .free && (y.2 != .local || scope.names.lookup y.1 == some .local)) = true := by first | rfl | decide +kernel) : BlkOk X scope own [] := by
 have z : ∀ y ∈ scope.names, (y.2 != .cell && y.2 != .free && (y.2 != .local || scope.names.lookup y.1 == some .local)) = true := List.all_eq_true.mp n
 refine ⟨k, fun y hy e => ?_, fun y hy e => ?_, fun y hy e => ?_, fun p hp => by cases hp⟩
 ·have := z y hy
  rw [e] at this
  simp at this
 ·have := z y hy
  rw [e] at this
  simpa using this
 ·have := z y hy
  rw [e] at this
  simp at this
structure FunD (K : PySem.W.Frag) (x qual : Str) (st : Stmt) (f : Addr) (fd : FuncData) (d : Value) : Prop where
 ex : ∃ (oc : Value) (od : Option Addr) (kV doc pm : Value) (an : Option Addr) (cdv ct : Value) (osl : Array (Option Value)) (T : Addr) (oT : Obj) (n : Nat),
  fd = PySem.W.fnOf x qual (defArgs st) (defBody st) (defScope st) (.ref T) kV doc pm an cdv ct /\ K.lookup f = some ⟨oc, od, .func fd, osl⟩ /\ PySem.W.codeIn K cdv qual = true /\ K.lookup T = some oT /\ oT.data = .seq #[d] n
 kp : PySem.W.keepIn K (.ref f) = true
theorem FunD.ok {P : Program} {w : World} {K : PySem.W.Frag} {mg : Str -> Option Value} {base : Heap} {x qual : Str} {st : Stmt} {f : Addr} {fd : FuncData} {d : Value} {N ps : List Str} {k : Nat} {sp : Sp} (F : FunD K x qual st f fd d) (S : FnScope N ps (defScope st))
  (len : ∀ vs H Q E, sp vs H Q E -> vs.length = ps.length)
  (hbody : ∀ (cdv : Value) (A : Around) (outer : List Env) (s : Shared) (H : Hp) (vs : List V) (Q : VK) (E : XK), Room k (A.deeper (envOfC qual (defScope st) s.heap.objs.size f cdv)) -> sp vs H Q E ->
   ∃ t, PSs (cxOf CX0 P w K mg base N qual (defScope st) f cdv A outer s H E).nox (defBody st) t /\ t { nx := fun _ H' => Q .non H', rt := Q } (start N vs) H) : FnOk P w K mg base CX0 (k + 1) f fd ps sp := by
 obtain ⟨oc, od, kV, doc, pm, an, cdv, ct, osl, T, oT, n, rfl, lk, hcd, _⟩ := F.ex
 refine fn_of lk hcd S len fun A outer s H vs Q E hr hsp => ?_
 obtain ⟨t, h, q⟩ := hbody cdv A outer s H vs Q E hr hsp
 exact ⟨t, h.nox, q⟩
end L2
namespace L2
open PySem PySem.Spec PyProof.Rows
theorem fund_mk {K : PySem.W.Frag} {x qual : Str} {st : Stmt} {f T : Addr} {oc kV doc pm cdv ct d : Value} {od an : Option Addr} {osl : Array (Option Value)} {oT : Obj} {n : Nat} (l : K.lookup f = some ⟨oc, od, .func (PySem.W.fnOf x qual (defArgs st) (defBody st) (defScope st) (.ref T) kV doc pm an cdv ct), osl⟩)
  (c : PySem.W.codeIn K cdv qual = true) (k : PySem.W.keepIn K (.ref f) = true) (t : K.lookup T = some oT) (e : oT.data = .seq #[d] n) : FunD K x qual st f (PySem.W.fnOf x qual (defArgs st) (defBody st) (defScope st) (.ref T) kV doc pm an cdv ct) d :=
 ⟨⟨oc, od, kV, doc, pm, an, cdv, ct, osl, T, oT, n, rfl, l, c, t, e⟩, k⟩
theorem FunD.binds {K : PySem.W.Frag} {x qual : Str} {st : Stmt} {f : Addr} {fd : FuncData} {d : Value} {ps : List Str} (F : FunD K x qual st f fd d)
  (h : ∀ (T : Addr) (kV doc pm : Value) (an : Option Addr) (cdv ct : Value) (us : List Value), us.length = ps.length -> ∃ k : Option (Array Value) -> Sem (List (Str × Value)),
   bindArgs (PySem.W.fnOf x qual (defArgs st) (defBody st) (defScope st) (.ref T) kV doc pm an cdv ct) ⟨us, []⟩ = seqItems? (.ref T) >>= k /\ k (some #[d]) = pure (ps.zip us)) : Binds K fd ps [] := by
 obtain ⟨oc, od, kV, doc, pm, an, cdv, ct, osl, T, oT, n, rfl, lk, hcd, t, e⟩ := F.ex
 intro s us X hl
 rw [List.append_nil] at hl |-
 obtain ⟨k, h1, h2⟩ := h T kV doc pm an cdv ct us hl
 exact .of_defaults (T := T) rfl (X T oT t) e h1 h2
end L2
namespace L2
open PySem PySem.Spec PyProof.Rows
theorem blk_cap {X : Cx} {scope S : Scope} {own N : List Str} {caps : List (Nat × Str)} (k : scope.kind = .function) (n : scope.names.all (fun y => y.2 != .cell && (y.2 != .local || scope.names.lookup y.1 == some .local)) = true)
  (hS : X.env.scope = S) (hc : ∃ n, X.env.cells = cellsFrom n S.names []) (hN : X.N = N) (fr : scope.names.all (fun y => y.2 != .free || S.names.lookup y.1 == some .cell) = true)
  (cp : caps.all (fun p => N[p.1]? == some p.2 && scope.names.lookup p.2 == some .free && S.names.lookup p.2 == some .cell) = true) : BlkOk X scope own caps := by
 have z : ∀ y ∈ scope.names, (y.2 != .cell && (y.2 != .local || scope.names.lookup y.1 == some .local)) = true := List.all_eq_true.mp n
 obtain ⟨nn, hc⟩ := hc
 refine ⟨k, fun y hy e => ?_, fun y hy e => ?_, fun y hy e => ?_, fun p hp => ?_⟩
 ·have := z y hy
  rw [e] at this
  simp at this
 ·have := z y hy
  rw [e] at this
  simpa using this
 ·have q := List.all_eq_true.mp fr y hy
  rw [e] at q
  have q2 : S.names.lookup y.1 = some .cell := by simpa using q
  rw [hc]
  exact PySem.W.cellsFrom_some S.names nn [] (.inl q2)
 ·have q := List.all_eq_true.mp cp p hp
  simp only [Bool.and_eq_true, beq_iff_eq] at q
  refine ⟨by rw [hN]; exact q.1.1, q.1.2, .inl ?_⟩
  show X.env.scope.names.lookup p.2 = some .cell
  rw [hS]
  exact q.2
structure FnD (P : Program) (w : World) (K : PySem.W.Frag) (mg : Str -> Option Value) (base : Heap) (x : Str) (ps : List Str) (k : Nat) (sp : Sp) (dv : V) : Prop where
 ex : ∃ f fd d, FnOk P w K mg base CX0 k f fd ps sp /\ mg x = some (.ref f) /\ PySem.W.keepIn K (.ref f) = true /\ Binds K fd ps [] /\ Binds K fd ps [d] /\ RelV dv d
theorem FnD.mono {P : Program} {w : World} {K : PySem.W.Frag} {mg : Str -> Option Value} {base : Heap} {x : Str} {ps : List Str} {j k : Nat} {sp : Sp} {dv : V} (F : FnD P w K mg base x ps j sp dv) (h : j <= k) : FnD P w K mg base x ps k sp dv := by
 obtain ⟨f, fd, d, a, b, c, e⟩ := F.ex
 exact ⟨f, fd, d, a.mono h, b, c, e⟩
theorem FnD.fn {P : Program} {w : World} {K : PySem.W.Frag} {mg : Str -> Option Value} {base : Heap} {x : Str} {ps : List Str} {k : Nat} {sp : Sp} {dv : V} (F : FnD P w K mg base x ps k sp dv) : Fn P w K mg base x ps k sp := by
 obtain ⟨f, fd, d, a, b, c, e, _⟩ := F.ex
 exact ⟨f, fd, a, b, c, e⟩
theorem pe_callF1 {X : Cx} {x : Str} {ps : List Str} {k : Nat} {sp : Sp} {e : Expr} {es : List Expr} {t : TA} {p pos : Pos} {dv : V} (F : FnD X.prog X.w X.K X.mg X.base x ps k sp dv) (hr : Room k X.A) (hg : Gl X x) (ha : PA X (e :: es) t)
  (hdb : (x == ("__debug__" : Str)) = false := by decide) (he : starEach (e :: es) X.env = (false, eval e X.env) :: starEach es X.env := by rfl) (hpl : (backTo pos (starEach es X.env)).any (·.1) = false := by rfl) :
  PE X (.Call (.Name x p) (e :: es) [] pos) (tCall sp [dv] E0 t) := by
 obtain ⟨f, fd, d, a, b, c, _, h2, r⟩ := F.ex
 exact pe_call a hr hg b c h2 (.cons r .nil) pass0 ha hdb he hpl
theorem FunD.binds1 {K : PySem.W.Frag} {x qual : Str} {st : Stmt} {f : Addr} {fd : FuncData} {d : Value} {ps : List Str} (F : FunD K x qual st f fd d)
  (h : ∀ (T : Addr) (kV doc pm : Value) (an : Option Addr) (cdv ct : Value) (us : List Value), us.length + 1 = ps.length -> ∃ k : Option (Array Value) -> Sem (List (Str × Value)),
   bindArgs (PySem.W.fnOf x qual (defArgs st) (defBody st) (defScope st) (.ref T) kV doc pm an cdv ct) ⟨us, []⟩ = seqItems? (.ref T) >>= k /\ k (some #[d]) = pure (ps.zip (us ++ [d]))) : Binds K fd ps [d] := by
 obtain ⟨oc, od, kV, doc, pm, an, cdv, ct, osl, T, oT, n, rfl, lk, hcd, t, e⟩ := F.ex
 intro s us X hl
 rw [List.length_append, List.length_singleton] at hl
 obtain ⟨k, h1, h2⟩ := h T kV doc pm an cdv ct us hl
 exact .of_defaults (T := T) rfl (X T oT t) e h1 h2
theorem cut_last (xs : List V) (v : V) : cutV (xs ++ [v]) none (some (-1)) = xs := by
 unfold cutV
 have e1 : HT.sIx (xs ++ [v]).length 0 none = 0 := rfl
 have e2 : HT.sIx (xs ++ [v]).length (xs ++ [v]).length (some (-1)) = xs.length := by
  show (if (-1 : Int) < 0 then ((-1 : Int) + ((xs ++ [v]).length : Int)).toNat else min (-1 : Int).toNat (xs ++ [v]).length) = xs.length
  rw [if_pos (by decide), List.length_append, List.length_singleton]
  omega
 rw [e1, e2]
 simp
theorem cut_last_no (xs : List V) (v : V) : ¬ (HT.sIx (xs ++ [v]).length 0 none = 0 /\ HT.sIx (xs ++ [v]).length (xs ++ [v]).length (some (-1)) = (xs ++ [v]).length) := by
 rintro ⟨_, e⟩
 have e2 : HT.sIx (xs ++ [v]).length (xs ++ [v]).length (some (-1)) = xs.length := by
  show (if (-1 : Int) < 0 then ((-1 : Int) + ((xs ++ [v]).length : Int)).toNat else min (-1 : Int).toNat (xs ++ [v]).length) = xs.length
  rw [if_pos (by decide), List.length_append, List.length_singleton]
  omega
 rw [e2, List.length_append, List.length_singleton] at e
 omega
end L2
namespace L2
theorem iteB1 {b : Bool} {A B : Prop} (e : b = true) (h : A) : if b = true then A else B := by
 rw [if_pos e]
 exact h
theorem iteB0 {b : Bool} {A B : Prop} (e : b = false) (h : B) : if b = true then A else B := by
 rw [if_neg (by rw [e]; exact Bool.false_ne_true)]
 exact h
theorem dec_yes {i j : Int} (h : i = j) : decide (V.int i = V.int j) = true := decide_eq_true (by rw [h])
theorem dec_no {i j : Int} (h : i ≠ j) : decide (V.int i = V.int j) = false := decide_eq_false fun e => h (by injection e)
theorem ndec_yes {i j : Int} (h : i = j) : (!decide (V.int i = V.int j)) = false := by rw [dec_yes h]; rfl
end L2

set_option maxRecDepth 100000
namespace L2
open PySem
section
variable {prog : Program} {w : World} {A : Around} {E : Value -> Shared -> Prop} {s : Shared}
structure Zp (z TI TO i1 i2 : Addr) (f1 f2 : List Addr) : Prop where
 a1 : TI ≠ z
 a2 : TO ≠ z
 a3 : i1 ≠ z
 a4 : i2 ≠ z
 a5 : TI ≠ TO
 a6 : TI ≠ i1
 a7 : TI ≠ i2
 a8 : TO ≠ i1
 a9 : TO ≠ i2
 b1 : z ∉ f1
 b2 : z ∉ f2
 b3 : TO ∉ f1
 b4 : TO ∉ f2
 b5 : i1 ∉ f2
 b6 : i2 ∉ f1
theorem zip_draw {z TI TO i1 i2 : Addr} {f1 f2 : List Addr} {n1 n2 k : Nat} {P1 P2 : Nat -> Value -> Prop} {S1 S2 : Nat -> Heap -> Prop} {a b : Value} {Q : Value -> Shared -> Prop}
  (D1 : Draws prog w A i1 f1 n1 P1 S1) (D2 : Draws prog w A i2 f2 n2 P2 S2) (Z : Zp z TI TO i1 i2 f1 f2) (hz : IsZip s.heap z TI TO .none) (hI : IsPair s.heap TI (.ref i1) (.ref i2)) (hO : IsPair s.heap TO a b)
  (s1 : S1 k s.heap) (s2 : S2 k s.heap) (k1 : k < n1) (k2 : k < n2)
  (hQ : ∀ x y h' tk, P1 k x -> P2 k y -> IsZip h' z TI TO (rawInt s.heap.objs.size) -> IsPair h' TI (.ref i1) (.ref i2) -> IsPair h' TO x y -> S1 (k + 1) h' -> S2 (k + 1) h' -> IsPair h' s.heap.objs.size x y ->
   (∀ c o, c ≠ z -> c ≠ TO -> c ≠ i1 -> c ≠ i2 -> s.heap.get? c = some o -> h'.get? c = some o) -> Q (.ref s.heap.objs.size) { s with heap := h', toks := tk }) :
  wpAny (model prog w) A (Builtin.«zip.__next__» ⟨[.ref z], []⟩) (fun fin s' => ∃ v, fin = .done (.ret v) /\ Q v s') E s := by
 change wpAny _ _ (field (.ref z) 2 >>= _) _ _ _
 refine wpAny_bind (wpAny_field hz rfl (x := .bool false) rfl ?_)
 change wpAny _ _ (field (.ref z) 3 >>= _) _ _ _
 refine wpAny_bind (wpAny_field hz rfl (x := .ref TI) rfl ?_)
 refine wpAny_bind (wpAny_seqItems hI rfl ?_)
 change wpAny _ _ (Builtin.SmallTypes.ownedTupleIsFree (.ref z) >>= _) _ _ _
 refine wpAny_bind ?_
 unfold Builtin.SmallTypes.ownedTupleIsFree
 refine wpAny_bind (wpAny_field hz rfl (x := .none) rfl (wpAny_pure ?_))
 simp only [if_true]
 refine wpAny_bind (wpAny_rule ?_)
 refine wpAny_bind (wpAny_field hz rfl (x := .ref TO) rfl ?_)
 refine wpAny_bind (wpAny_setField_rec hz (by simp) fun g1 z1 m1 => ?_)
 replace z1 : IsZip g1 z TI TO .ellipsis := z1
 refine wpAny_bind ?_
 simp only [List.zipIdx_cons, List.zipIdx_nil, List.forIn_cons, List.forIn_nil]
 refine wpAny_bind (wpAny_bind (wpAny_onRaise ?_))
 change wpAny _ _ (Builtin.SmallTypes.nextOf (.ref i1) >>= _) _ _ _
 refine wpAny_bind (D1.item k _ _ _ k1 (D1.frame _ _ _ s1 fun c hc o e => m1.extBut c o (fun q => Z.b1 (q ▸ hc)) e) fun x g2 t2 px s12 m2 => wpAny_pure ?_)
 have o2 : IsPair g2 TO a b := m2.extBut _ _ Z.a8 (m1.extBut _ _ Z.a2 hO)
 refine wpAny_bind (wpAny_seqItems o2 rfl ?_)
 refine wpAny_bind (wpAny_updateSeq_pair o2 fun g3 o3 m3 => ?_)
 replace o3 : IsPair g3 TO x b := o3
 refine wpAny_bind (wpAny_letGo (wpAny_pure ?_))
 refine wpAny_bind (wpAny_bind (wpAny_onRaise ?_))
 change wpAny _ _ (Builtin.SmallTypes.nextOf (.ref i2) >>= _) _ _ _
 refine wpAny_bind (D2.item k _ _ _ k2 (D2.frame _ _ _ s2 fun c hc o e => m3.extBut c o (fun q => Z.b4 (q ▸ hc)) (m2.extBut c o (fun q => Z.b5 (q ▸ hc)) (m1.extBut c o (fun q => Z.b2 (q ▸ hc)) e))) fun y g4 t4 py s24 m4 => wpAny_pure ?_)
 have o4 : IsPair g4 TO x b := m4.extBut _ _ Z.a9 o3
 refine wpAny_bind (wpAny_seqItems o4 rfl ?_)
 refine wpAny_bind (wpAny_updateSeq_pair o4 fun g5 o5 m5 => ?_)
 replace o5 : IsPair g5 TO x y := o5
 refine wpAny_bind (wpAny_letGo (wpAny_pure (wpAny_pure ?_)))
 refine wpAny_bind (wpAny_seqItems o5 rfl ?_)
 refine wpAny_bind (wpAny_newTuple ?_)
 have sz : g5.objs.size = s.heap.objs.size := by
  have q5 : g5.objs.size = g4.objs.size := m5.1
  have q4 : g4.objs.size = g3.objs.size := m4.1
  have q3 : g3.objs.size = g2.objs.size := m3.1
  have q2 : g2.objs.size = g1.objs.size := m2.1
  have q1 : g1.objs.size = s.heap.objs.size := m1.1
  omega
 have all5 : ∀ c o, c ≠ z -> c ≠ TO -> c ≠ i1 -> c ≠ i2 -> s.heap.get? c = some o -> g5.get? c = some o := fun c o c1 c2 c3 c4 e => m5.extBut _ _ c2 (m4.extBut _ _ c4 (m3.extBut _ _ c2 (m2.extBut _ _ c3 (m1.extBut _ _ c1 e))))
 have z5 : IsZip g5 z TI TO .ellipsis := m5.extBut _ _ Z.a2.symm (m4.extBut _ _ Z.a4.symm (m3.extBut _ _ Z.a2.symm (m2.extBut _ _ Z.a3.symm z1)))
 have I5 : IsPair g5 TI (.ref i1) (.ref i2) := all5 _ _ Z.a1 Z.a5 Z.a6 Z.a7 hI
 have u1 : S1 (k + 1) g5 := D1.frame _ _ _ s12 fun c hc o e => m5.extBut c o (fun q => Z.b3 (q ▸ hc)) (m4.extBut c o (fun q => Z.b6 (q ▸ hc)) (m3.extBut c o (fun q => Z.b3 (q ▸ hc)) e))
 have u2 : S2 (k + 1) g5 := D2.frame _ _ _ s24 fun c hc o e => m5.extBut c o (fun q => Z.b4 (q ▸ hc)) e
 have lt : z < g5.objs.size := Heap.lt_size z5
 change wpAny _ _ (Builtin.SmallTypes.ownedTupleHandOut (.ref z) (.ref g5.objs.size) >>= _) _ _ _
 refine wpAny_bind ?_
 unfold Builtin.SmallTypes.ownedTupleHandOut
 have z6 : IsZip (g5.push { cls := .type "tuple", data := .seq #[x, y] }) z TI TO .ellipsis := Heap.get?_push_of_some _ z5
 refine wpAny_bind (wpAny_setField_rec z6 (by simp) fun g7 z7 m7 => ?_)
 replace z7 : IsZip g7 z TI TO (rawInt g5.objs.size) := z7
 refine wpAny_setField_rec z7 (by simp) fun g8 z8 m8 => ?_
 replace z8 : IsZip g8 z TI TO (rawInt g5.objs.size) := z8
 have up : ∀ c o, c ≠ z -> g5.get? c = some o -> g8.get? c = some o := fun c o c1 e => m8.extBut _ _ c1 (m7.extBut _ _ c1 (Heap.get?_push_of_some _ e))
 have T8 : IsPair g8 g5.objs.size x y := m8.extBut _ _ (Nat.ne_of_gt lt) (m7.extBut _ _ (Nat.ne_of_gt lt) (Heap.get?_push_size _ rfl))
 rw [sz] at z8 T8
 refine wpAny_pure ⟨_, rfl, ?_⟩
 change Q (.ref g5.objs.size) _
 rw [sz]
 exact hQ x y g8 _ px py z8 (up _ _ Z.a1 I5) (up _ _ Z.a2 o5) (D1.frame _ _ _ u1 fun c hc o e => up c o (fun q => Z.b1 (q ▸ hc)) e) (D2.frame _ _ _ u2 fun c hc o e => up c o (fun q => Z.b2 (q ▸ hc)) e) T8
  fun c o c1 c2 c3 c4 e => up c o c1 (all5 c o c1 c2 c3 c4 e)
theorem zip_over {z TI TO i1 i2 : Addr} {f1 f2 : List Addr} {n1 n2 k : Nat} {P1 P2 : Nat -> Value -> Prop} {S1 S2 : Nat -> Heap -> Prop} {a b : Value} {Q : Fin -> Shared -> Prop}
  (D1 : Draws prog w A i1 f1 n1 P1 S1) (D2 : Draws prog w A i2 f2 n2 P2 S2) (Z : Zp z TI TO i1 i2 f1 f2) (hz : IsZip s.heap z TI TO .none) (hI : IsPair s.heap TI (.ref i1) (.ref i2)) (hO : IsPair s.heap TO a b)
  (s1 : S1 k s.heap) (s2 : S2 k s.heap) (k1 : k <= n1) (k2 : k <= n2) (ke : k = n1 \/ k = n2)
  (hE : ∀ h' e tk, (∀ c o, c ≠ z -> c ≠ TO -> c ≠ i1 -> c ≠ i2 -> s.heap.get? c = some o -> h'.get? c = some o) -> (∃ o, h'.get? e = some o /\ o.cls = .type "StopIteration") -> E (.ref e) { s with heap := h', toks := tk }) :
  wpAny (model prog w) A (Builtin.«zip.__next__» ⟨[.ref z], []⟩) Q E s := by
 change wpAny _ _ (field (.ref z) 2 >>= _) _ _ _
 refine wpAny_bind (wpAny_field hz rfl (x := .bool false) rfl ?_)
 change wpAny _ _ (field (.ref z) 3 >>= _) _ _ _
 refine wpAny_bind (wpAny_field hz rfl (x := .ref TI) rfl ?_)
 refine wpAny_bind (wpAny_seqItems hI rfl ?_)
 change wpAny _ _ (Builtin.SmallTypes.ownedTupleIsFree (.ref z) >>= _) _ _ _
 refine wpAny_bind ?_
 unfold Builtin.SmallTypes.ownedTupleIsFree
 refine wpAny_bind (wpAny_field hz rfl (x := .none) rfl (wpAny_pure ?_))
 simp only [if_true]
 refine wpAny_bind (wpAny_rule ?_)
 refine wpAny_bind (wpAny_field hz rfl (x := .ref TO) rfl ?_)
 refine wpAny_bind (wpAny_setField_rec hz (by simp) fun g1 z1 m1 => ?_)
 replace z1 : IsZip g1 z TI TO .ellipsis := z1
 refine wpAny_bind ?_
 simp only [List.zipIdx_cons, List.zipIdx_nil, List.forIn_cons, List.forIn_nil]
 refine wpAny_bind (wpAny_bind (wpAny_onRaise ?_))
 change wpAny _ _ (Builtin.SmallTypes.nextOf (.ref i1) >>= _) _ _ _
 have s1' : S1 k g1 := D1.frame _ _ _ s1 fun c hc o e => m1.extBut c o (fun q => Z.b1 (q ▸ hc)) e
 by_cases c1 : k = n1
 ·subst c1
  refine wpAny_bind (D1.done _ _ _ s1' fun g2 e m2 he => ?_)
  obtain ⟨oe, he1, he2⟩ := he
  have z2 : IsZip g2 z TI TO .ellipsis := m2 _ _ Z.a3.symm z1
  have nez : e ≠ z := fun q => by subst q; rw [z2] at he1; cases he1; simp at he2
  exact wpAny_setField_rec z2 (by simp) fun g3 _ m3 => hE g3 e _ (fun c o c1 c2 c3 c4 q => m3.extBut _ _ c1 (m2 _ _ c3 (m1.extBut _ _ c1 q))) ⟨oe, m3.extBut _ _ nez he1, he2⟩
 ·have c2 : k = n2 := ke.resolve_left c1
  subst c2
  refine wpAny_bind (D1.item k _ _ _ (by omega) s1' fun x g2 t2 px s12 m2 => wpAny_pure ?_)
  have o2 : IsPair g2 TO a b := m2.extBut _ _ Z.a8 (m1.extBut _ _ Z.a2 hO)
  refine wpAny_bind (wpAny_seqItems o2 rfl ?_)
  refine wpAny_bind (wpAny_updateSeq_pair o2 fun g3 o3 m3 => ?_)
  refine wpAny_bind (wpAny_letGo (wpAny_pure ?_))
  refine wpAny_bind (wpAny_bind (wpAny_onRaise ?_))
  change wpAny _ _ (Builtin.SmallTypes.nextOf (.ref i2) >>= _) _ _ _
  refine wpAny_bind (D2.done _ _ _ (D2.frame _ _ _ s2 fun c hc o e => m3.extBut c o (fun q => Z.b4 (q ▸ hc)) (m2.extBut c o (fun q => Z.b5 (q ▸ hc)) (m1.extBut c o (fun q => Z.b2 (q ▸ hc)) e))) fun g4 e m4 he => ?_)
  obtain ⟨oe, he1, he2⟩ := he
  have z4 : IsZip g4 z TI TO .ellipsis := m4 _ _ Z.a4.symm (m3.extBut _ _ Z.a2.symm (m2.extBut _ _ Z.a3.symm z1))
  have nez : e ≠ z := fun q => by subst q; rw [z4] at he1; cases he1; simp at he2
  exact wpAny_setField_rec z4 (by simp) fun g5 _ m5 => hE g5 e _ (fun c o c1 c2 c3 c4 q => m5.extBut _ _ c1 (m4 _ _ c4 (m3.extBut _ _ c2 (m2.extBut _ _ c3 (m1.extBut _ _ c1 q))))) ⟨oe, m5.extBut _ _ nez he1, he2⟩
end

section
variable {prog : Program} {w : World} {A : Around} {E : Value -> Shared -> Prop} {s : Shared}
theorem zip_next {z TI TO i1 i2 : Addr} {f1 f2 : List Addr} {n1 n2 k : Nat} {P1 P2 : Nat -> Value -> Prop} {S1 S2 : Nat -> Heap -> Prop} {a b : Value} {Q : Option Value -> Shared -> Prop}
  (D1 : Draws prog w A.in1 i1 f1 n1 P1 S1) (D2 : Draws prog w A.in1 i2 f2 n2 P2 S2) (Z : Zp z TI TO i1 i2 f1 f2) (hz : IsZip s.heap z TI TO .none) (hI : IsPair s.heap TI (.ref i1) (.ref i2)) (hO : IsPair s.heap TO a b)
  (s1 : S1 k s.heap) (s2 : S2 k s.heap) (k1 : k < n1) (k2 : k < n2)
  (hQ : ∀ x y h' tk, P1 k x -> P2 k y -> IsZip h' z TI TO (rawInt s.heap.objs.size) -> IsPair h' TI (.ref i1) (.ref i2) -> IsPair h' TO x y -> S1 (k + 1) h' -> S2 (k + 1) h' -> IsPair h' s.heap.objs.size x y ->
   (∀ c o, c ≠ z -> c ≠ TO -> c ≠ i1 -> c ≠ i2 -> s.heap.get? c = some o -> h'.get? c = some o) -> Q (some (.ref s.heap.objs.size)) { s with heap := h', toks := tk }) :
  wpAny (model prog w) A (pyNext (.ref z)) Q E s := by
 have ty : s.TypeIs (.ref z) "zip" := ⟨_, hz, rfl⟩
 unfold pyNext
 refine wpAny_bind (wpAny_attempt (wpAny_callSpecial?_slot (name := Str.ofString "__next__") ty F.slot_zip_next (wpAny_call_entry F.slot_zip_next ty F.entry_zip_next ?_ (F.args_zip_next_1 _))))
 exact zip_draw D1 D2 Z hz hI hO s1 s2 k1 k2 fun x y h' tk c1 c2 c3 c4 c5 c6 c7 c8 c9 => wpAny_pure (hQ x y h' tk c1 c2 c3 c4 c5 c6 c7 c8 c9)
theorem zip_end {z TI TO i1 i2 : Addr} {f1 f2 : List Addr} {n1 n2 k : Nat} {P1 P2 : Nat -> Value -> Prop} {S1 S2 : Nat -> Heap -> Prop} {a b : Value} {Q : Option Value -> Shared -> Prop}
  (D1 : Draws prog w A.in1 i1 f1 n1 P1 S1) (D2 : Draws prog w A.in1 i2 f2 n2 P2 S2) (Z : Zp z TI TO i1 i2 f1 f2) (hz : IsZip s.heap z TI TO .none) (hI : IsPair s.heap TI (.ref i1) (.ref i2)) (hO : IsPair s.heap TO a b)
  (s1 : S1 k s.heap) (s2 : S2 k s.heap) (k1 : k <= n1) (k2 : k <= n2) (ke : k = n1 \/ k = n2)
  (hQ : ∀ h' tk, (∀ c o, c ≠ z -> c ≠ TO -> c ≠ i1 -> c ≠ i2 -> s.heap.get? c = some o -> h'.get? c = some o) -> Q none { s with heap := h', toks := tk }) :
  wpAny (model prog w) A (pyNext (.ref z)) Q E s := by
 have ty : s.TypeIs (.ref z) "zip" := ⟨_, hz, rfl⟩
 unfold pyNext
 refine wpAny_bind (wpAny_attempt (wpAny_callSpecial?_slot (name := Str.ofString "__next__") ty F.slot_zip_next (wpAny_call_entry F.slot_zip_next ty F.entry_zip_next
  (zip_over D1 D2 Z hz hI hO s1 s2 k1 k2 ke fun h' e tk keep he => ?_) (F.args_zip_next_1 _))))
 obtain ⟨o, ho, hc⟩ := he
 refine wpAny_bind (wpAny_isInstance (T := "StopIteration") (b := true) ⟨o, ho, hc⟩ isSubtype_stop ?_)
 exact wpAny_pure (hQ _ _ keep)
end
end L2


namespace L2
open PySem PySem.Spec PyProof.Rows
theorem fields_no_cell {vs : Array Value} (v : Option Value) : Data.fields vs ≠ Data.cell v := fun z => by cases z
theorem seq_no_cell {vs : Array Value} {n : Nat} (v : Option Value) : Data.seq vs n ≠ Data.cell v := fun z => by cases z
theorem Inv.turnT {X : Cx} {pins : List (Addr × Obj)} {σ : St} {H : Hp} {s : Shared} {h' : Heap} {tk : Nat} {ch : List Addr} {T : Addr} {x y : V} {u v : Value} (I : Inv X pins σ H s) (hf : ∀ b ∈ ch, FpOk X pins H b) (keep : ∀ b o, b ∉ ch -> s.heap.get? b = some o -> h'.get? b = some o)
  (hT : s.heap.objs.size <= T) (p : IsPair h' T u v) (rx : RelV x u) (ry : RelV y v) : Inv X pins σ (upd H T (.tup [x, y])) { s with heap := h', toks := tk } := by
 have fr : H T = none := I.hok.fresh hT
 have nT : ∀ b o, s.heap.get? b = some o -> b ≠ T := fun b o e z => by rw [z] at e; exact absurd (Nat.lt_of_lt_of_le (Heap.lt_size e) hT) (Nat.lt_irrefl _)
 have trk : ∀ b o, H b = some o -> b ∉ ch := fun b o e z => by rw [(hf b z).1] at e; cases e
 refine I.step (ch := ch) (fun b hb => ⟨(hf b hb).2.2.2.1, (hf b hb).2.1, (hf b hb).2.2.2.2.1, (hf b hb).2.2.2.2.2⟩) (fun b o _ _ hc e _ => keep b o hc e) (fun b o _ _ hc e _ => ⟨o.slots, keep b o hc e⟩)
  (fun b o _ e n => by rw [upd_ne (nT b o e)]; exact n) (fun b o hc e => ⟨o, keep b o hc e⟩) (fun b xs e => by rw [upd_ne (ne_of_none e fr)]; exact e) (fun b o w e => by rw [upd_ne (ne_of_none e fr)]; exact e)
  (fun b ps e => ⟨#[], by rw [upd_ne (ne_of_none e fr), e]; simp⟩) (fun m hm => ?_) (fun b w e => ?_) I.bare
 ·obtain ⟨o, es, ep, ho, r⟩ := hm
  exact ⟨o, es, ep, keep _ o (fun z => (hf _ z).2.1 rfl) ho, r⟩
 ·by_cases hb : b = T
  ·subst hb
   rw [upd_same] at e
   cases e
   exact ⟨by show 2 <= sizeLine; decide, [u, v], .cons rx (.cons ry .nil), ⟨_, p, rfl, _, rfl⟩⟩
  ·rw [upd_ne hb] at e
   refine (I.hok b w e).stay (fun c q hc ec => keep c q ?_ ec) (fun c ec => by rw [upd_ne (ne_of_none ec fr)]; exact ec) fun c xs ec => by rw [upd_ne (ne_of_none ec fr)]; exact ec
   rcases hc with z | z
   ·rw [z]
    exact trk b w e
   ·exact trk c _ z
theorem Inv.turnN {X : Cx} {pins : List (Addr × Obj)} {σ : St} {H : Hp} {s : Shared} {h' : Heap} {tk : Nat} {ch : List Addr} (I : Inv X pins σ H s) (hf : ∀ b ∈ ch, FpOk X pins H b) (keep : ∀ b o, b ∉ ch -> s.heap.get? b = some o -> h'.get? b = some o) :
  Inv X pins σ H { s with heap := h', toks := tk } := by
 have trk : ∀ b o, H b = some o -> b ∉ ch := fun b o e z => by rw [(hf b z).1] at e; cases e
 refine I.step (ch := ch) (fun b hb => ⟨(hf b hb).2.2.2.1, (hf b hb).2.1, (hf b hb).2.2.2.2.1, (hf b hb).2.2.2.2.2⟩) (fun b o _ _ hc e _ => keep b o hc e) (fun b o _ _ hc e _ => ⟨o.slots, keep b o hc e⟩)
  (fun b o _ e n => n) (fun b o hc e => ⟨o, keep b o hc e⟩) (fun b xs e => e) (fun b o w e => e) (fun b ps e => ⟨#[], by rw [e]; simp⟩) (fun m hm => ?_) (fun b w e => ?_) I.bare
 ·obtain ⟨o, es, ep, ho, r⟩ := hm
  exact ⟨o, es, ep, keep _ o (fun z => (hf _ z).2.1 rfl) ho, r⟩
 ·refine (I.hok b w e).stay (fun c q hc ec => keep c q ?_ ec) (fun c ec => ec) fun c xs ec => ec
  rcases hc with z | z
  ·rw [z]
   exact trk b w e
  ·exact trk c _ z
theorem nin2 {x y z : Nat} (h1 : x ≠ y) (h2 : x ≠ z) : x ∉ [y, z] := by simp [h1, h2]
theorem zp_mk (n a b : Nat) (la : a < n) (lb : b < n) : Zp (n + 4) (n + 2) (n + 3) n (n + 1) [n, a] [n + 1, b] := by
 have e : ∀ x y : Nat, x ≠ y -> (x : Addr) ≠ y := fun _ _ h => h
 exact ⟨e _ _ (by omega), e _ _ (by omega), e _ _ (by omega), e _ _ (by omega), e _ _ (by omega), e _ _ (by omega), e _ _ (by omega), e _ _ (by omega), e _ _ (by omega),
  nin2 (by omega) (by omega), nin2 (by omega) (by omega), nin2 (by omega) (by omega), nin2 (by omega) (by omega), nin2 (by omega) (by omega), nin2 (by omega) (by omega)⟩
section
variable {X : Cx} {es : List Expr} {kk : Nat} {tp : Pos}
end
end L2

namespace L2
open PySem PySem.Spec PyProof.Rows

section
variable {κ : Type} [DecidableEq κ]
theorem RelO.isSome_eq {o : Option V} {u : Option Value} (r : RelO o u) : o.isSome = u.isSome := by
 cases o with
 | none => cases u with
  | none => rfl
  | some _ => exact (show False from r).elim
 | some _ => cases u with
  | none => exact (show False from r).elim
  | some _ => rfl
end


section
variable {P : Program} {w : World} {H : Hp} {h : Heap} {a : Addr}
end

section
variable {X : Cx} {pins : List (Addr × Obj)} {σ : St} {H : Hp} {s : Shared} {a : Addr} {y v : V} {u r : Value} {o : Option V} {A : Around} {E : Value -> Shared -> Prop}

end

section
variable {X : Cx} {pins : List (Addr × Obj)} {σ : St} {H : Hp} {s : Shared} {a : Addr} {kvs : List (Key × V)} {k : Key} {u : Value} {A : Around} {E : Value -> Shared -> Prop}
end


section
variable {X : Cx} {o i e value : Expr} {pos pos' tpos : Pos} {td ty tv : TE}
end


section
variable {X : Cx} {pos : Pos}
end
end L2


namespace L2
open PySem
section
variable {prog : Program} {w : World} {A : Around} {R : Result -> Shared -> Prop} {s : Shared}
end
end L2
namespace L2
open PySem PySem.Spec PyProof.Rows
section
variable {X : Cx} {scope : Scope} {own : List Str} {caps : List (Nat × Str)} {elt tg iter cond : Expr} {wi : TI} {g : TG} {tc : TT} {te : TE} {pos : Pos}
end
end L2


namespace L2
open PySem PySem.Spec PyProof.Rows
section
variable {prog : Program} {w : World} {A : Around} {E : Value -> Shared -> Prop} {s : Shared}
end
end L2


namespace L2
open PySem PySem.Spec PyProof.Rows
theorem comp_tup {K : PySem.W.Frag} {a : Addr} {xs : List V} {g : TG} {te : TE} {σ0 : St} {H : Hp} {Q : VK} (Pv : Nat -> List V -> St -> Hp -> Prop) (h0 : Pv 0 [] σ0 H) (hl : ∀ i ys σ H, i <= xs.length -> Pv i ys σ H -> SqT K H a xs /\ ys.length <= i) (hz : xs.length <= sizeLine)
  (hs : ∀ i x ys σ H, xs[i]? = some x -> Pv i ys σ H -> g x σ H fun σ2 H2 => te σ2 H2 fun y H3 => Pv (i + 1) (ys ++ [y]) σ2 H3)
  (hd : ∀ ys σ H, Pv xs.length ys σ H -> ∀ p, H p = none -> Q (.ref p) (upd H p (.lst ys))) :
  CompGo (Itt K a) g te Q σ0 H := by
 refine ⟨fun i m ys σ H => m = xs.length - i /\ i <= xs.length /\ Pv i ys σ H, ⟨xs.length, by simp, Nat.zero_le _, h0⟩, ?_⟩
 rintro i m ys σ H ⟨rfl, hi, p⟩
 obtain ⟨q, hy⟩ := hl i ys σ H hi p
 by_cases hlt : i < xs.length
 ·refine .inr ⟨⟨xs, xs[i], q, by simp [hlt]⟩, by omega, fun y σ' H' => Pv (i + 1) (ys ++ [y]) σ' H', fun y σ' H' z => ⟨xs.length - (i + 1), by omega, rfl, hlt, z⟩, fun x H' y => ?_⟩
  obtain ⟨e, y⟩ := y
  subst e
  exact hs i x ys σ _ (y xs q) p
 ·have e : i = xs.length := by omega
  subst e
  exact .inl ⟨⟨xs, q, Nat.le_refl _⟩, hd ys σ H p⟩
section
variable {X : Cx}
end
end L2


namespace L2
open PySem PySem.Spec PyProof.Rows
section
variable {X : Cx}
end
end L2
namespace L2
open PySem
end L2


namespace L2
open PySem PySem.Spec PyProof.Rows
section
variable {X : Cx}
end
end L2


namespace L2
open PySem PySem.Spec PyProof.Rows
theorem nlt1 {a b c d : Nat} (h1 : a < b) (h2 : b <= c) (h3 : c + 1 <= d) : d ≠ a := by omega
theorem nlt2 {a b c : Nat} (h1 : c = a + 1) (h2 : c + 1 <= b) : b ≠ a := by omega
theorem cells_look {x : Str} {c : Addr} : ∀ (names : List (Str × NameKind)) (n : Nat) (acc : List (Str × Addr)), (cellsFrom n names acc).lookup x = some c -> ((x, NameKind.cell) ∈ names /\ n <= c) \/ acc.lookup x = some c
 | [], _, _, h => .inr h
 | (y, k) :: r, n, acc, h => by
  unfold cellsFrom at h
  split at h
  ·rename_i hk
   rcases cells_look r (n + 1) ((y, n) :: acc) h with ⟨a, b⟩ | z
   ·exact .inl ⟨List.mem_cons_of_mem _ a, by omega⟩
   ·rw [List.lookup_cons] at z
    by_cases e : (x == y) = true
    ·simp only [e] at z
     have e1 : x = y := eq_of_beq e
     have e2 : k = .cell := eq_of_beq hk
     subst e1
     subst e2
     cases z
     exact .inl ⟨List.mem_cons_self, Nat.le_refl _⟩
    ·have e' : (x == y) = false := by simpa using e
     simp only [e'] at z
     exact .inr z
  ·rcases cells_look r n acc h with ⟨a, b⟩ | z
   ·exact .inl ⟨List.mem_cons_of_mem _ a, b⟩
   ·exact .inr z
theorem cells_other {x : Str} : ∀ (names : List (Str × NameKind)) (n : Nat) (acc : List (Str × Addr)), (x, NameKind.cell) ∉ names -> (cellsFrom n names acc).lookup x = acc.lookup x
 | [], _, _, _ => rfl
 | (y, k) :: r, n, acc, h => by
  have hr : (x, NameKind.cell) ∉ r := fun z => h (List.mem_cons_of_mem _ z)
  unfold cellsFrom
  split
  ·rename_i hk
   have e2 : k = .cell := eq_of_beq hk
   rw [cells_other r _ _ hr, List.lookup_cons]
   have e' : (x == y) = false := by
    cases q : x == y with
    | false => rfl
    | true => exact absurd (by rw [eq_of_beq q, e2]; exact List.mem_cons_self) h
   simp only [e']
  ·exact cells_other r _ _ hr
theorem cells_inj : ∀ (names : List (Str × NameKind)) (n : Nat) (acc : List (Str × Addr)), (∀ x c, acc.lookup x = some c -> c < n) -> (∀ x y c, acc.lookup x = some c -> acc.lookup y = some c -> x = y) ->
  ∀ x y c, (cellsFrom n names acc).lookup x = some c -> (cellsFrom n names acc).lookup y = some c -> x = y
 | [], _, _, _, h2 => h2
 | (z, k) :: r, n, acc, h1, h2 => by
  unfold cellsFrom
  split
  ·have look : ∀ x c, ((z, n) :: acc).lookup x = some c -> (x = z /\ c = n) \/ acc.lookup x = some c := fun x c e => by
    rw [List.lookup_cons] at e
    cases q : x == z with
    | true =>
     simp only [q] at e
     exact .inl ⟨eq_of_beq q, (Option.some.inj e).symm⟩
    | false =>
     simp only [q] at e
     exact .inr e
   refine cells_inj r (n + 1) ((z, n) :: acc) (fun x c e => ?_) fun x y c e1 e2 => ?_
   ·rcases look x c e with ⟨_, e⟩ | e
    ·rw [e]
     exact Nat.lt_succ_self n
    ·exact Nat.lt_succ_of_lt (h1 x c e)
   ·rcases look x c e1 with ⟨a1, b1⟩ | a1 <;> rcases look y c e2 with ⟨a2, b2⟩ | a2
    ·rw [a1, a2]
    ·have := h1 y c a2
     rw [b1] at this
     exact absurd this (Nat.lt_irrefl n)
    ·have := h1 x c a1
     rw [b2] at this
     exact absurd this (Nat.lt_irrefl n)
    ·exact h2 x y c a1 a2
  ·exact cells_inj r n acc h1 h2
theorem cells_new {x : Str} {c : Addr} : ∀ (names : List (Str × NameKind)) (h : Heap) (acc : List (Str × Addr)), (cellsFrom h.objs.size names acc).lookup x = some c -> acc.lookup x = some c \/ (pushCells h names).IsCell c none
 | [], _, _, e => .inl e
 | (y, k) :: r, h, acc, e => by
  unfold cellsFrom at e
  unfold pushCells
  split at e
  ·rename_i hk
   rw [if_pos hk]
   have q := cells_new (x := x) (c := c) r (h.push { cls := .type "cell", data := .cell none }) ((y, h.objs.size) :: acc) (by rw [Heap.size_push]; exact e)
   rcases q with q | q
   ·rw [List.lookup_cons] at q
    cases z : x == y with
    | true =>
     simp only [z] at q
     cases q
     exact .inr ⟨_, pushCells_keeps r _ _ _ (Heap.get?_push_size _ rfl), rfl⟩
    | false =>
     simp only [z] at q
     exact .inl q
   ·exact .inr q
  ·rename_i hk
   rw [if_neg hk]
   exact cells_new r h acc e
theorem look_nodup : ∀ {l : List (Str × NameKind)} {x : Str} {k : NameKind}, (l.map (·.1)).Nodup -> (x, k) ∈ l -> l.lookup x = some k
 | [], _, _, _, h => by cases h
 | (y, j) :: r, x, k, nd, h => by
  rw [List.map_cons, List.nodup_cons] at nd
  rw [List.lookup_cons]
  rcases List.mem_cons.mp h with e | h
  ·cases e
   rw [beq_self_eq_true]
  ·have ne : (x == y) = false := by
    cases q : x == y with
    | false => rfl
    | true => exact absurd (by rw [<- eq_of_beq q]; exact List.mem_map.mpr ⟨(x, k), h, rfl⟩) nd.1
   simp only [ne]
   exact look_nodup nd.2 h
theorem newEnv_cellsA {M : Model} {A : Around} {E : Value -> Shared -> Prop} {s : Shared} {scope : Scope} {globals : Addr} {closure : List (Str × Addr)} {qual : Str} {func : Option Addr} {code : Value} {env : Env} {builtins : Addr} {Q : Env -> Shared -> Prop}
  (h : Q (newEnv scope s.heap.objs.size globals (cellsFrom (s.heap.objs.size + 1) scope.names closure) qual func code (some env) builtins) { s with heap := pushCells (s.heap.push { cls := .type "dict", data := .dict #[] }) scope.names }) :
  wpAny M A (newFunctionEnv scope globals closure [] qual func code (some env) builtins) Q E s := by
 simp only [newFunctionEnv, Option.isSome_some, if_true]
 refine wpAny_bind (wpAny_alloc ?_)
 refine wpAny_bind (wpAny_layCells _ (fun name kind cells => by cases hkc : kind == NameKind.cell <;> simp [hkc]) _ _ _ _ ?_)
 rw [show ({ s with heap := s.heap.push { cls := .type "dict", data := .dict #[] } } : Shared).heap.objs.size = s.heap.objs.size + 1 from Heap.size_push ..]
 simp only [List.forIn_nil]
 exact wpAny_bind (wpAny_pure (wpAny_pure h))
noncomputable abbrev blockCxN (X : Cx) (scope : Scope) (N : List Str) (C : Addr) (s₀ : Shared) (H₀ : Hp) (ex : List Addr) : Cx :=
 { X with N := N, s₀ := s₀, H₀ := H₀, env := compEnvC scope (cellsFrom (C + 1) scope.names (closeOf scope X.env)) C X.env, outer := X.stack, ex := ex, fn := fun x => scope.names.lookup x == some .cell, pn := [], xe := fun _ _ => False }
structure BlkOkN (X : Cx) (scope : Scope) (own : List Str) (caps : List (Nat × Str)) : Prop where
 kind : scope.kind = .function
 nod : (scope.names.map (·.1)).Nodup
 locs : ∀ y ∈ scope.names, y.2 = .local -> scope.names.lookup y.1 = some .local
 free : ∀ y ∈ scope.names, y.2 = .free -> (X.env.cells.lookup y.1).isSome = true
 caps : ∀ p ∈ caps, X.N[p.1]? = some p.2 /\ scope.names.lookup p.2 = some .free /\ (X.env.kindOf p.2 = some .cell \/ X.env.kindOf p.2 = some .free)
section
variable {X : Cx} {scope : Scope} {own : List Str} {caps : List (Nat × Str)} {pins : List (Addr × Obj)} {σ : St} {H : Hp} {s s4 : Shared} {C D : Addr} {fp : List Addr}
theorem cellsN_look (B : BlkOkN X scope own caps) {x : Str} {c n : Nat} (e : (cellsFrom n scope.names (closeOf scope X.env)).lookup x = some c) : ((x, NameKind.cell) ∈ scope.names /\ n <= c) \/ X.env.cells.lookup x = some c :=
 (cells_look _ _ _ e).imp id fun z => (close_look B.free z).1
theorem cellN_lt (I : Inv X pins σ H s) {x : Str} {c : Addr} (e : X.env.cells.lookup x = some c) : c < s.heap.objs.size := by
 obtain ⟨v, o, ho, _⟩ := I.cell x c e
 exact Heap.lt_size ho
theorem blk_okN (B : BlkOkN X scope own caps) (I : Inv X pins σ H s) (hf : ∀ b ∈ fp, FpOk X pins H b) (hC : s.heap.objs.size <= C) (hlt : ∀ b ∈ fp, b < s.heap.objs.size) : (blockCxN X scope (blkN own caps) C s H fp).Ok where
 mod := I.ok.mod
 kind := B.kind
 glob := I.ok.glob
 blt := I.ok.blt
 above := hC
 inj := cells_inj _ _ _ (fun x c e => Nat.lt_of_lt_of_le (cellN_lt I (close_look B.free e).1) (Nat.le_succ_of_le hC)) fun x y c h1 h2 => I.ok.inj x y c (close_look B.free h1).1 (close_look B.free h2).1
 has := fun x h => by
  have fr : (x, NameKind.free) ∈ scope.names -> ∃ c, (cellsFrom (C + 1) scope.names (closeOf scope X.env)).lookup x = some c := fun z => by
   obtain ⟨c, e⟩ := close_some (env := X.env) z
   exact Option.isSome_iff_exists.mp (PySem.W.cellsFrom_some _ _ _ (.inr (by rw [e]; rfl)))
  have ce : (x, NameKind.cell) ∈ scope.names -> ∃ c, (cellsFrom (C + 1) scope.names (closeOf scope X.env)).lookup x = some c := fun z =>
   Option.isSome_iff_exists.mp (PySem.W.cellsFrom_some _ _ _ (.inl (look_nodup B.nod z)))
  rcases h with h | h
  ·rcases relabel_kind (show (relabel scope X.env).names.lookup x = some .cell from h) with ⟨_, z | z⟩ | z
   ·exact fr z
   ·exact ce z
   ·exact ce z
  ·rcases relabel_kind (show (relabel scope X.env).names.lookup x = some .free from h) with ⟨z, _⟩ | z
   ·cases z
   ·exact fr z
 cab := fun x c h e => by
  have hx : scope.names.lookup x = some .cell := eq_of_beq h
  rcases cells_look _ _ _ e with ⟨_, z⟩ | z
  ·exact Nat.le_trans hC (Nat.le_of_succ_le z)
  ·have := look_nodup B.nod (close_look B.free z).2
   rw [hx] at this
   cases this
 hd := I.ok.hd
 frames := I.ok.frames
 stk := .inl rfl
 exf := fun b hb => ⟨fun e => by have := hlt b hb; rw [e] at this; exact absurd (Nat.lt_of_lt_of_le this hC) (Nat.lt_irrefl _), fun x c e => by
  rcases cellsN_look B e with ⟨_, z⟩ | z
  ·exact nlt1 (hlt b hb) hC z
  ·exact (hf b hb).2.2.2.2.1 x c z⟩
 bs := I.bs
 bsz := Nat.le_trans I.ok.bsz I.sz
 noex := fun b o e hb => by
  rcases (hf b hb).2.2.2.1 with z | z
  ·exact I.ok.noex b o e z
  ·exact absurd (Nat.lt_of_lt_of_le (Heap.lt_size e) (Nat.le_trans I.ok.bsz z)) (Nat.lt_irrefl _)
 exfs := fun b hb z => by
  rcases List.mem_cons.mp (I.stkSub b z) with e | z
  ·exact (hf b hb).2.1 e
  ·exact (hf b hb).2.2.1 z
 funs := I.stack
 frf := I.stkFree
theorem blk_invN (B : BlkOkN X scope own caps) (I : Inv X pins σ H s) (hf : ∀ b ∈ fp, FpOk X pins H b) (hC : s.heap.objs.size <= C) (hlt : ∀ b ∈ fp, b < s.heap.objs.size)
  {m : Str -> Option Value} (hn : s4.heap.Ns C m) (hk : ∀ b o, s.heap.get? b = some o -> s4.heap.get? b = some o) (hcell : ∀ x c, (cellsFrom (C + 1) scope.names (closeOf scope X.env)).lookup x = some c -> (closeOf scope X.env).lookup x = some c \/ s4.heap.IsCell c none) (ho : s4.os = s.os) (hb : AllBare s4.gens) :
  Inv (blockCxN X scope (blkN own caps) C s H fp) [] (blkSt own caps σ) H s4 where
 ok := blk_okN B I hf hC hlt
 os := ho
 bare := hb
 base := Un.kept hk
 loc := ⟨m, hn, fun i x v h1 h2 h3 => by
  obtain ⟨j, hm, hs⟩ := blk_slot h1 h2
  obtain ⟨c1, c2, c3⟩ := B.caps _ hm
  obtain ⟨m', _, hl⟩ := I.loc
  have vis : Vis X.env.scope x := c3.elim (fun z => .inr (.inl z)) fun z => .inr (.inr z)
  obtain ⟨u, r, l⟩ := hl j x v c1 hs vis
  refine ⟨u, r, .inr ?_⟩
  have hm2 : (x, NameKind.free) ∈ scope.names := mem_of_look c2
  obtain ⟨c', hc'⟩ := close_some (env := X.env) hm2
  have hc2 := (close_look B.free hc').1
  have noc : (x, NameKind.cell) ∉ scope.names := fun z => by
   have := look_nodup B.nod z
   rw [c2] at this
   cases this
  refine ⟨?_, c', (cells_other _ _ _ noc).trans hc', ?_⟩
  ·show (relabel scope X.env).names.lookup x = some .cell \/ (relabel scope X.env).names.lookup x = some .free
   rw [relabel_look, c2, Option.map_some]
   split
   ·exact .inl rfl
   ·exact .inr rfl
  ·rcases l with ⟨k, _⟩ | ⟨_, c, e, z⟩
   ·rcases c3 with c3 | c3 <;> rw [c3] at k <;> cases k
   ·rw [hc2] at e
    cases e
    obtain ⟨o, e1, e2⟩ := z
    exact ⟨o, hk _ o e1, e2⟩⟩
 cell := fun x c e => by
  rcases hcell x c e with z | z
  ·obtain ⟨v, o, e1, e2⟩ := I.cell x c (close_look B.free z).1
   exact ⟨v, o, hk _ o e1, e2⟩
  ·exact ⟨none, z⟩
 free := I.hok.fresh hC
 freeC := fun x c e => by
  rcases cellsN_look B e with ⟨_, z⟩ | z
  ·exact I.hok.fresh (Nat.le_trans hC (Nat.le_of_succ_le z))
  ·exact I.freeC x c z
 pin := fun p hp => by simp at hp
 hok := I.hok.kept hk
 len := by
  show (blkSt own caps σ).length = (blkN own caps).length
  unfold blkSt blkN
  simp
end
section
variable {X : Cx} {scope : Scope} {own : List Str} {caps : List (Nat × Str)} {elt tg iter cond : Expr} {wi : TI} {g : TG} {tc : TT} {te : TE} {pos : Pos}
theorem comp_coreN {pins : List (Addr × Obj)} {σ : St} {H2 : Hp} {s2 : Shared} {it : Addr} {fp : List Addr} {tn : Nat -> Heap -> Prop} {J : It} {W : Nat -> Nat -> List V -> St -> Hp -> Prop} {m0 : Nat} {Q : VK} {E : Value -> Shared -> Prop} {RR : Value -> Addr -> Result -> Shared -> Prop}
  (B : BlkOkN X scope own caps) (hc : X.calm = true) (hg : ∀ C s₀ H₀ ex, PG (blockCxN X scope (blkN own caps) C s₀ H₀ ex) tg g) (he : ∀ C s₀ H₀ ex, PE (blockCxN X scope (blkN own caps) C s₀ H₀ ex) elt te)
  (I2 : Inv X pins σ H2 s2) (T : Turn X.prog X.w X.K tg J fp it tn) (st2 : tn 0 s2.heap) (f2 : ∀ b ∈ fp, FpOk X pins H2 b) (w0 : W 0 m0 [] (blkSt own caps σ) H2)
  (turn : ∀ i m ys σ1 H, W i m ys σ1 H -> (J.stop i H /\ ∀ p, H p = none -> Q (.ref p) (upd H p (.lst ys))) ∨
   (J.go i H /\ ys.length < sizeLine /\ ∃ N : V -> St -> Hp -> Prop, (∀ y σ' H', N y σ' H' -> ∃ m', m' < m /\ W (i + 1) m' (ys ++ [y]) σ' H') /\ ∀ x H', J.yld i H x H' -> g x σ1 H' fun σ2 H2 => te σ2 H2 fun y H3 => N y σ2 H3))
  (hRR : ∀ D C s6 H6 ys m, s6.heap.Ns C m -> s2.heap.objs.size <= C -> (∀ h', Heap.SameBut C s6.heap h' -> Inv X pins σ (upd H6 D (.lst ys)) { s6 with heap := h' }) -> upd H6 D (.lst ys) C = none -> Q (.ref D) (upd H6 D (.lst ys)) -> RR (.ref D) C (.ok .next) s6) :
  wpAny (model X.prog X.w) X.A (newList []) (fun acc s3 => wpAny (model X.prog X.w) X.A (newFunctionEnv scope X.env.globals (closeOf scope X.env) [] X.env.qual none .none (some X.env)) (fun cenv s4 =>
   codeAny (model X.prog X.w) X.A (.compStart (.ListComp elt [⟨tg, iter, [], 0⟩] scope pos) 0 (.ref it) acc { cenv with scope := relabel scope X.env }) (RR acc cenv.locals) s4) E s3) E s2 := by
 have hlt : ∀ b ∈ fp, b < s2.heap.objs.size := fun b hb => by
  obtain ⟨o, ho, _⟩ := T.obj _ _ st2 b hb
  exact Heap.lt_size ho
 refine wpAny_newObj_type (newEnv_cellsA ?_)
 dsimp only
 generalize hP : s2.heap.push { cls := .type "list", dict := none, data := .seq ([] : List Value).toArray } = HD
 have hns : (pushCells (HD.push { cls := .type "dict", data := .dict #[] }) scope.names).Ns HD.objs.size (fun _ => none) := (Heap.Ns.new HD (.type "dict")).keeps (pushCells_keeps _ _)
 have hkp : ∀ b o, HD.get? b = some o -> (pushCells (HD.push { cls := .type "dict", data := .dict #[] }) scope.names).get? b = some o := fun b o e => pushCells_keeps _ _ b o (Heap.get?_push_of_some _ e)
 have hcell : ∀ x c, (cellsFrom (HD.objs.size + 1) scope.names (closeOf scope X.env)).lookup x = some c -> (closeOf scope X.env).lookup x = some c \/ (pushCells (HD.push { cls := .type "dict", data := .dict #[] }) scope.names).IsCell c none := fun x c e =>
  cells_new _ _ _ (by rw [Heap.size_push]; exact e)
 generalize hP4 : pushCells (HD.push { cls := .type "dict", data := .dict #[] }) scope.names = h4 at hns hkp hcell |-
 have hCD : HD.objs.size = s2.heap.objs.size + 1 := by rw [<- hP, Heap.size_push]
 have hDC : s2.heap.objs.size ≠ HD.objs.size := by omega
 have hle : s2.heap.objs.size <= HD.objs.size := by omega
 have old : ∀ b o, s2.heap.get? b = some o -> h4.get? b = some o := fun b o eb => hkp b o (by rw [<- hP]; exact Heap.get?_push_of_some _ eb)
 have hD4 : h4.get? s2.heap.objs.size = some { cls := .type "list", data := .seq ([] : List Value).toArray 0 } := hkp _ _ (by rw [<- hP]; exact Heap.get?_push_size _ rfl)
 have IY : Inv (blockCxN X scope (blkN own caps) HD.objs.size s2 H2 fp) [] (blkSt own caps σ) H2 { s2 with heap := h4 } :=
  blk_invN B I2 f2 (by omega) hlt hns old hcell rfl I2.bare
 -- what stays true of the iterator's objects and of the list
 have stat : ∀ {H' : Hp}, (∀ b ∈ fp, H' b = none) -> ∀ b ∈ fp, FpOk (blockCxN X scope (blkN own caps) HD.objs.size s2 H2 fp) [] H' b := fun {H'} hn b hb => by
  have hb2 := hlt b hb
  refine ⟨hn b hb, ?_, fun z => ?_, .inl hb, fun x c ec => (match cellsN_look B ec with | .inl z => nlt1 hb2 hle z.2 | .inr z => (f2 b hb).2.2.2.2.1 x c z), fun p hp => by simp at hp⟩
  ·exact Nat.ne_of_lt (Nat.lt_of_lt_of_le hb2 hle)
  ·rcases List.mem_cons.mp (I2.stkSub b z) with e | z
   ·exact (f2 b hb).2.1 e
   ·exact (f2 b hb).2.2.1 z
 have statD : ∀ {H' : Hp}, H' s2.heap.objs.size = none -> FpOk (blockCxN X scope (blkN own caps) HD.objs.size s2 H2 fp) [] H' s2.heap.objs.size := fun {H'} hn => by
  refine ⟨hn, hDC, fun z => ?_, .inr (Nat.le_refl _), fun x c ec z => ?_, fun p hp => by simp at hp⟩
  ·obtain ⟨_, o, ho, _⟩ := I2.stack.mem z
   exact absurd (Heap.lt_size ho) (Nat.lt_irrefl _)
  ·rcases cellsN_look B ec with ⟨_, y⟩ | y
   ·exact nlt2 hCD y z
   ·have := cellN_lt I2 y
    rw [z] at this
    exact Nat.lt_irrefl _ this
 have neD : ∀ b ∈ fp, b ≠ s2.heap.objs.size := fun b hb => Nat.ne_of_lt (hlt b hb)
 have IY' : Inv (blockCxN X scope (blkN own caps) HD.objs.size s2 H2 fp) [(s2.heap.objs.size, lobj [] 0)] (blkSt own caps σ) H2 { s2 with heap := h4 } :=
  IY.pins_of fun p hp => by
   rw [List.mem_singleton.mp hp]
   have z := statD (I2.hok.fresh (Nat.le_refl _))
   exact ⟨hD4, z.1, z.2.1, z.2.2.1, fun v z => by cases z⟩
 have loop : ∀ s3 : Shared, s3 = { s2 with heap := h4 } ->
   codeAny (model X.prog X.w) X.A (.compLoop (.ListComp elt [⟨tg, iter, [], 0⟩] scope pos) 0 (.ref it) (.ref s2.heap.objs.size) (compEnvC scope (cellsFrom (HD.objs.size + 1) scope.names (closeOf scope X.env)) HD.objs.size X.env))
    (RR (.ref s2.heap.objs.size) HD.objs.size) s3 := by
  rintro s3 rfl
  refine comp_turns (fun n s' => ∃ i ys σ' H' its k, Inv (blockCxN X scope (blkN own caps) HD.objs.size s2 H2 fp) [(s2.heap.objs.size, lobj its k)] σ' H' s' /\ tn i s'.heap /\ (∀ b ∈ fp, H' b = none) ∧
   Vals ys its /\ ys.length <= sizeLine /\ W i n ys σ' H') ?_ m0 ⟨0, [], _, H2, [], 0, IY', T.keep _ _ _ st2 fun b hb o eb => old b o eb, fun b hb => (f2 b hb).1, .nil, Nat.zero_le _, w0⟩
  rintro n s5 ⟨i, ys, σ5, H5, its, k, I5, st5, fr5, rv5, hz5, w5⟩
  have stat5 : ∀ {H' : Hp}, (∀ b ∈ fp, H' b = none) -> ∀ b ∈ fp, FpOk (blockCxN X scope (blkN own caps) HD.objs.size s2 H2 fp) [(s2.heap.objs.size, lobj its k)] H' b := fun {H'} hn b hb => by
   obtain ⟨a1, a2, a3, a4, a5, _⟩ := stat hn b hb
   refine ⟨a1, a2, a3, a4, a5, fun p hp => ?_⟩
   have hp' : p ∈ [(s2.heap.objs.size, lobj its k)] := hp
   rw [List.mem_singleton.mp hp']
   exact Ne.symm (neD b hb)
  rcases turn i n ys σ5 H5 w5 with ⟨stop, qn⟩ | ⟨go, hlen, N, hN, step⟩
  ·refine thn (T.done (blockCxN X scope (blkN own caps) HD.objs.size s2 H2 fp) rfl rfl rfl hc i _ s5 σ5 H5 _ I5 (stat5 fr5) st5 stop) fun r s6 ⟨hr, I6⟩ => ?_
   subst hr
   obtain ⟨pD1, pD2, _⟩ := I6.pin (s2.heap.objs.size, lobj its k) (List.mem_append_right _ List.mem_cons_self)
   obtain ⟨m6, hn6, _⟩ := I6.loc
   refine hRR _ _ s6 H5 ys m6 hn6 (by omega) (fun h' sb => ?_) (by rw [upd_ne (Ne.symm hDC)]; exact I6.free) (qn _ pD2)
   have hC5 : H5 HD.objs.size = none := I6.free
   have nb : ∀ b o, s2.heap.get? b = some o -> b ≠ HD.objs.size /\ b ≠ s2.heap.objs.size := fun b o eb => by
    have hb := Heap.lt_size eb
    exact ⟨Nat.ne_of_lt (Nat.lt_of_lt_of_le hb hle), Nat.ne_of_lt hb⟩
   have nt : ∀ b o, H5 b = some o -> b ≠ s2.heap.objs.size := fun b o eb z => by rw [z] at eb; rw [show H5 s2.heap.objs.size = none from pD2] at eb; cases eb
   have un : Un (frs X.stack) fp H2 (upd H5 s2.heap.objs.size (.lst ys)) s2.heap h' :=
    ⟨fun b o eb n1 n2 n3 => sb.extBut b o (nb b o eb).1 (I6.base.keep b o eb n1 n2 n3),
     fun b o eb n1 n2 n3 => by
      obtain ⟨sl, e1⟩ := I6.base.slot b o eb n1 n2 n3
      exact ⟨sl, sb.extBut b _ (nb b o eb).1 e1⟩,
     fun b o eb n1 n3 => by
      rw [upd_ne (nb b o eb).2]
      exact I6.base.free b o eb n1 n3,
     fun b o eb n3 => by
      obtain ⟨o', e1⟩ := I6.base.there b o eb n3
      exact ⟨o', sb.extBut b _ (nb b o eb).1 e1⟩,
     fun b xs eb => by
      have e1 := I6.base.tups b xs eb
      rw [upd_ne (nt b _ e1)]
      exact e1,
     fun b o u eb => by
      have e1 := I6.base.frzs b o u eb
      rw [upd_ne (nt b _ e1)]
      exact e1,
     fun b ps eb => by
      obtain ⟨more, e1⟩ := I6.base.tbls b ps eb
      refine ⟨more, ?_⟩
      rw [upd_ne (nt b _ e1)]
      exact e1⟩
   have ok5 : HOk X.prog X.w (upd H5 s2.heap.objs.size (.lst ys)) h' := fun b u eb => by
    by_cases hb : b = s2.heap.objs.size
    ·subst hb
     rw [upd_same] at eb
     cases eb
     exact ⟨hz5, its, k, rv5, sb.extBut _ _ hDC pD1⟩
    ·rw [upd_ne hb] at eb
     refine (I6.hok b u eb).stay (fun c v hcv ev => sb.extBut c v ?_ ev) (fun c ec => by rw [upd_ne (nt c _ ec)]; exact ec) fun c xs ec => by rw [upd_ne (nt c _ ec)]; exact ec
     rintro rfl
     rcases hcv with z | z
     ·rw [<- z, hC5] at eb
      cases eb
     ·rw [hC5] at z
      cases z
   exact I2.call' (s' := { s6 with heap := h' }) (ch := fp) I6.os un ok5 I6.bare fun b hb => ⟨(f2 b hb).2.2.2.1, (f2 b hb).2.1, (f2 b hb).2.2.2.2.1, (f2 b hb).2.2.2.2.2⟩
  ·refine thn (T.item (blockCxN X scope (blkN own caps) HD.objs.size s2 H2 fp) rfl rfl rfl hc i _ s5 σ5 H5 _ I5 (stat5 fr5) st5 go) fun r s6 ⟨u, hr, h6⟩ => ?_
   subst hr
   refine thn h6 fun _ s7 ⟨x, H7, I7, r7, y7, st7, fr7⟩ => ?_
   have I7' := I7.pinned (stat5 fr7) (T.obj _ _ st7)
   refine thn (hg HD.objs.size s2 H2 fp _ s7 σ5 H7 x u _ I7' r7 (step x H7 y7)) fun _ s8 ⟨σ8, H8, I8, q8⟩ => ?_
   refine thn (he HD.objs.size s2 H2 fp _ s8 σ8 H8 _ I8 q8) fun yv s9 ⟨y, H9, I9, r9, n9⟩ => ?_
   obtain ⟨m', hm', w9⟩ := hN y σ8 H9 n9
   have pD9 := (I9.pin (s2.heap.objs.size, lobj its k) (List.mem_append_right _ (List.mem_append_left _ List.mem_cons_self))).2.1
   have hl : its.length = ys.length := rv5.length.symm
   refine blk_push (Y := blockCxN X scope (blkN own caps) HD.objs.size s2 H2 fp) (its := its) (k := k) (pl := pinsAt fp s7.heap) I9 (statD pD9) rfl (by omega) fun h' k' tk keep I' => ?_
   refine ⟨m', hm', i + 1, ys ++ [y], σ8, H9, its ++ [yv], k', I', ?_, fun b hb => ?_, rv5.append (.cons r9 .nil), ?_, w9⟩
   ·refine T.keep _ _ _ st7 fun b hb o eb => keep b o (neD b hb) ?_
    exact (I9.pin (b, o) (List.mem_append_right _ (List.mem_append_right _ (mem_pinsAt hb eb)))).1
   ·obtain ⟨o, eb, _⟩ := T.obj _ _ st7 b hb
    exact (I9.pin (b, o) (List.mem_append_right _ (List.mem_append_right _ (mem_pinsAt hb eb)))).2.1
   ·rw [List.length_append, List.length_singleton]
    omega
 exact codeAny_compStart_list (loop _ rfl) (T.self _ 0 _ _ _ (T.keep _ _ _ st2 fun b hb o eb => old b o eb) (loop _ rfl))
theorem pe_compN (B : BlkOkN X scope own caps) (hc : X.calm = true) (hi : PI X tg iter wi) (hg : ∀ C s₀ H₀ ex, PG (blockCxN X scope (blkN own caps) C s₀ H₀ ex) tg g)
  (he : ∀ C s₀ H₀ ex, PE (blockCxN X scope (blkN own caps) C s₀ H₀ ex) elt te) (hs : ∀ x, foldedSetIterable iter X.env x = pure x := by intro _; rfl) :
  PE X (.ListComp elt [⟨tg, iter, [], 0⟩] scope pos) (tComp own caps wi g te) := by
 intro pins s σ H Q I h
 rw [eval_ListComp]
 refine wpAny_comprehension_free (use := none) rfl hs (closure_is B.free) B.kind B.locs ?_
 refine thn (hi pins s σ H _ I h) fun xv s1 h1 => thn h1 fun itv s2 h2 => ?_
 obtain ⟨it, fp, tn, J, H2, e, I2, T, st2, f2, W, ⟨m0, w0⟩, turn⟩ := h2
 subst e
 refine comp_coreN (RR := fun acc C => compPost (model X.prog X.w) X.A X.xe none (EP X pins σ Q) acc C) B hc hg he I2 T st2 f2 w0 turn fun D C s6 H6 ys m hn hC J6 hC6 q => ?_
 exact ⟨m, hn, fun h' sb => ⟨.ref D, _, J6 h' sb, rfl, q⟩⟩
theorem ps_compN {i : Nat} {y : Str} {py spos : Pos} (hN : X.N.Nodup) (hy : X.N[i]? = some y) (hl : X.env.scope.names.lookup y = some .local) (B : BlkOkN X scope own caps) (hc : X.calm = true) (hi : PI X tg iter wi) (hg : ∀ C s₀ H₀ ex, PG (blockCxN X scope (blkN own caps) C s₀ H₀ ex) tg g)
  (he : ∀ C s₀ H₀ ex, PE (blockCxN X scope (blkN own caps) C s₀ H₀ ex) elt te) (hsw : swapsWith (.ListComp elt [⟨tg, iter, [], 0⟩] scope pos) (some (.Name y py)) spos.line X.env = pure true) (hs : ∀ x, foldedSetIterable iter X.env x = pure x := by intro _; rfl) :
  PS X (.Assign [.Name y py] (.ListComp elt [⟨tg, iter, [], 0⟩] scope pos) spos) (tAsg (tComp own caps wi g te) (gName i)) := by
 intro pins s σ H D0 I h
 rw [exec_Assign_Name_used _ _ _ _ hsw]
 refine wpAny_bind (wpAny_standAt (wpAny_bind ?_))
 change wpAny _ X.A (do let _ <- comprehension (.ListComp elt [⟨tg, iter, [], 0⟩] scope pos) scope X.env _ (newList []) false (eval iter X.env) (some (assign (.Name y py) X.env))) _ _ s
 refine wpAny_bind (wpAny_mono (wpAny_comprehension_free (use := some (assign (.Name y py) X.env)) (Q := fun _ s' => SP X pins D0 .next s') rfl hs (closure_is B.free) B.kind B.locs ?_) (fun _ s' hq => wpAny_pure (wpAny_pure hq)) fun _ _ e => e)
 refine thn (hi pins s σ H _ I h) fun xv s1 h1 => thn h1 fun itv s2 h2 => ?_
 obtain ⟨it, fp, tn, J, H2, e, I2, T, st2, f2, W, ⟨m0, w0⟩, turn⟩ := h2
 subst e
 refine comp_coreN (Q := fun x H1 => D0.nx (σ.set i (some x)) H1) (RR := fun acc C => compPost (model X.prog X.w) X.A X.xe (some (assign (.Name y py) X.env)) (fun _ s' => SP X pins D0 .next s') acc C) B hc hg he I2 T st2 f2 w0 turn fun D C s6 H6 ys m hn hC J6 hC6 q => ?_
 have I6 : Inv X pins σ (upd H6 D (.lst ys)) s6 := J6 s6.heap (.refl ..)
 have CL : C ≠ X.env.locals := fun z => by rw [z] at hC; exact absurd (Nat.lt_of_lt_of_le I2.lt hC) (Nat.lt_irrefl _)
 have CC : ∀ x c, X.env.cells.lookup x = some c -> c ≠ C := fun x c ec z => by
  obtain ⟨v, o, ho, _⟩ := I2.cell x c ec
  rw [z] at ho
  exact absurd (Nat.lt_of_lt_of_le (Heap.lt_size ho) hC) (Nat.lt_irrefl _)
 have CP : ∀ p ∈ X.pn ++ pins, p.1 ≠ C := fun p hp z => by
  have hl := Heap.lt_size (I2.pin p hp).1
  rw [z] at hl
  exact absurd (Nat.lt_of_lt_of_le hl hC) (Nat.lt_irrefl _)
 change wpAny _ X.A (assign (.Name y py) X.env (.ref D)) _ _ s6
 refine wpAny_assign_Name (store_ok2 I6 hN hy (.inl hl) (v := .ref D) rfl (fun s7 I7 ⟨a, sb, ha⟩ => ?_) (.inr hl))
 have aC : C ≠ a := fun z => by
  rcases ha with e | e
  ·exact CL (z.trans e)
  ·exact CC _ _ e z.symm
 refine ⟨m, hn.sameBut sb aC, fun h' sb' => ⟨_, _, I7.turned (h' := h') (t' := s7.toks) (it := C) (fun b o hb eb => sb'.extBut b o hb eb) hC6 CL (.inr (Nat.le_trans I2.sz hC)) CC CP, q⟩⟩
end
theorem blkN_cap {X : Cx} {scope S : Scope} {own N : List Str} {caps : List (Nat × Str)} (k : scope.kind = .function) (nd : (scope.names.map (·.1)).Nodup)
  (hS : X.env.scope = S) (hc : ∃ n, X.env.cells = cellsFrom n S.names []) (hN : X.N = N) (fr : scope.names.all (fun y => y.2 != .free || S.names.lookup y.1 == some .cell) = true)
  (cp : caps.all (fun p => N[p.1]? == some p.2 && scope.names.lookup p.2 == some .free && S.names.lookup p.2 == some .cell) = true) : BlkOkN X scope own caps := by
 obtain ⟨nn, hc⟩ := hc
 refine ⟨k, nd, fun y hy e => ?_, fun y hy e => ?_, fun p hp => ?_⟩
 ·exact look_nodup nd (by rw [<- e]; exact hy)
 ·have q := List.all_eq_true.mp fr y hy
  rw [e] at q
  have q2 : S.names.lookup y.1 = some .cell := by simpa using q
  rw [hc]
  exact PySem.W.cellsFrom_some S.names nn [] (.inl q2)
 ·have q := List.all_eq_true.mp cp p hp
  simp only [Bool.and_eq_true, beq_iff_eq] at q
  refine ⟨by rw [hN]; exact q.1.1, q.1.2, .inl ?_⟩
  show X.env.scope.names.lookup p.2 = some .cell
  rw [hS]
  exact q.2
theorem blk_in {Y : Cx} {scope S : Scope} {own own0 : List Str} {caps caps0 : List (Nat × Str)} {C : Addr} {s₀ : Shared} {H₀ : Hp} {ex : List Addr} (k : scope.kind = .function) (nd : (scope.names.map (·.1)).Nodup)
  (ndS : (S.names.map (·.1)).Nodup) (fr : scope.names.all (fun y => y.2 != .free || S.names.lookup y.1 == some .cell || S.names.lookup y.1 == some .free) = true)
  (cp : caps.all (fun p => (blkN own0 caps0)[p.1]? == some p.2 && scope.names.lookup p.2 == some .free) = true) : BlkOkN (blockCxN Y S (blkN own0 caps0) C s₀ H₀ ex) scope own caps := by
 have fr' : ∀ y ∈ scope.names, y.2 = .free -> S.names.lookup y.1 = some .cell \/ S.names.lookup y.1 = some .free := fun y hy e => by
  have q := List.all_eq_true.mp fr y hy
  rw [e] at q
  simpa using q
 refine ⟨k, nd, fun y hy e => ?_, fun y hy e => ?_, fun p hp => ?_⟩
 ·exact look_nodup nd (by rw [<- e]; exact hy)
 ·show ((cellsFrom (C + 1) S.names (closeOf S Y.env)).lookup y.1).isSome = true
  refine PySem.W.cellsFrom_some _ _ _ ?_
  rcases fr' y hy e with z | z
  ·exact .inl z
  ·obtain ⟨c, e⟩ := close_some (env := Y.env) (mem_of_look z)
   exact .inr (by rw [e]; rfl)
 ·have q := List.all_eq_true.mp cp p hp
  simp only [Bool.and_eq_true, beq_iff_eq] at q
  refine ⟨q.1, q.2, ?_⟩
  show (relabel S Y.env).names.lookup p.2 = some .cell \/ (relabel S Y.env).names.lookup p.2 = some .free
  rw [relabel_look]
  rcases fr' _ (mem_of_look q.2) rfl with z | z
  ·left
   show (S.names.lookup p.2).map _ = _
   rw [z]
   rfl
  ·show (S.names.lookup p.2).map _ = _ \/ (S.names.lookup p.2).map _ = _
   rw [z, Option.map_some]
   split
   ·exact .inl rfl
   ·exact .inr rfl
end L2


namespace Sh
open PySem L2
noncomputable def cellZ (ns : List Int) (k : Int) : Int := (ns[k.toNat]?).getD 0
inductive spCell (K : PySem.W.Frag) (vs : List V) (H : Hp) (Q : VK) (E : XK) : Prop
 | mk (a : Addr) (ns : List Int) (k : Int) (_ : vs = [.ref a, .int k]) (_ : SqL K H a (ns.map V.int)) (_ : 0 <= k) (_ : Q (.int (cellZ ns k)) H) : spCell K vs H Q E
theorem same_new {H : Hp} {p : Addr} (h : H p = none) (o : HO) : Same H (upd H p o) := fun b u q => by rw [upd_ne (ne_of_none q h)]; exact q
theorem at0 {x y : V} : atI [x, y] 0 = some x := rfl
theorem at1 {x y : V} : atI [x, y] 1 = some y := rfl
noncomputable def Tp (H : Hp) (v : V) (xs : List V) : Prop := ∃ a, v = .ref a /\ H a = some (.tup xs)
theorem Tp.same {H H' : Hp} {v : V} {xs : List V} (s : Same H H') (h : Tp H v xs) : Tp H' v xs := let ⟨r, e, q⟩ := h; ⟨r, e, s _ _ q⟩
theorem paired_get {α β : Type} {R : α -> β -> Prop} : ∀ {xs : List α} {ys : List β} {i : Nat} {x : α}, Paired R xs ys -> xs[i]? = some x -> ∃ y, ys[i]? = some y /\ R x y
 | _, _, _, _, .nil, e => by simp at e
 | _, _, 0, _, .cons r _, e => by simp at e; subst e; exact ⟨_, rfl, r⟩
 | _, _, i + 1, x, .cons _ t, e => by
  obtain ⟨y, h1, h2⟩ := paired_get (i := i) (x := x) t (by simpa using e)
  exact ⟨y, by simpa using h1, h2⟩
theorem paired_snoc {α β : Type} {R : α -> β -> Prop} {x : α} {y : β} (r : R x y) : ∀ {xs : List α} {ys : List β}, Paired R xs ys -> Paired R (xs ++ [x]) (ys ++ [y])
 | _, _, .nil => .cons r .nil
 | _, _, .cons q t => .cons q (paired_snoc r t)
theorem paired_app {α β : Type} {R : α -> β -> Prop} : ∀ {xs zs : List α} {ys us : List β}, Paired R xs ys -> Paired R zs us -> Paired R (xs ++ zs) (ys ++ us)
 | _, _, _, _, .nil, h => h
 | _, _, _, _, .cons q t, h => .cons q (paired_app t h)
theorem take_snoc {α : Type} {l : List α} {i : Nat} {x : α} (h : l[i]? = some x) : l.take (i + 1) = l.take i ++ [x] := by
 obtain ⟨hi, e⟩ := List.getElem?_eq_some_iff.mp h
 rw [List.take_succ_eq_append_getElem hi, e]
noncomputable abbrev WaysV (H : Hp) (vs : List V) (ks : List (List Int)) : Prop := Paired (fun v (k : List Int) => Tp H v (k.map V.int)) vs ks
theorem WaysV.same {H H' : Hp} {vs : List V} {ks : List (List Int)} (s : Same H H') (h : WaysV H vs ks) : WaysV H' vs ks := Paired.mapP h fun _ _ z => Tp.same s z
theorem dp_ints {K : PySem.W.Frag} {H : Hp} : ∀ ws : List Int, DpAll K H (ws.map V.int) (ws.map PyData.int)
 | [] => .nil
 | w :: r => .cons (.int w) (dp_ints r)
theorem lay_i : ∀ ws : List Int, PyData.canLayAll0 (ws.map PyData.int) = true
 | [] => rfl
 | w :: r => by
  show (PyData.canLay0 (.int w) && PyData.canLayAll0 (r.map PyData.int)) = true
  rw [lay_i r]
  rfl
theorem dep_i : ∀ ws : List Int, PyData.depthAll (ws.map PyData.int) = 0
 | [] => rfl
 | w :: r => by
  show max 0 (PyData.depthAll (r.map PyData.int)) = 0
  rw [dep_i r]
  rfl
theorem kit_list_list (K : PySem.W.Frag) : PySem.W.kitOne K (.type "list") (.type "list") = some true := by first | rfl | decide +kernel | (unfold PySem.W.kitOne; rw [if_pos (by decide +kernel)])
inductive spLaw (K : PySem.W.Frag) (vs : List V) (H : Hp) (Q : VK) (E : XK) : Prop
 | mk (a : Addr) (ns : List Int) (_ : vs = [.ref a]) (_ : SqL K H a (ns.map V.int)) (_ : ns.length <= 63) (_ : ∀ H', Q (.bl true) H') : spLaw K vs H Q E
inductive spStream (vs : List V) (H : Hp) (Q : VK) (E : XK) : Prop
 | mk (c m : Int) (_ : vs = [.int c, .int m]) (_ : 0 <= m) (_ : m <= 100) (_ : ∀ (r : Addr) (H' : Hp) (xs : List Int), Same H H' -> H r = none -> H' r = some (.lst (xs.map V.int)) -> xs.length = m.toNat -> (∀ x ∈ xs, 0 <= x /\ x < 10 ^ 45) -> Q (.ref r) H') : spStream vs H Q E
theorem at_ints {xs : List Int} {j : Nat} (h : j < xs.length) : atI (xs.map V.int) (j : Int) = some (.int (xs[j]'h)) := atI_nat (by rw [List.getElem?_map, List.getElem?_eq_getElem h]; rfl)
theorem ints_get {xs : List Int} {i : Nat} {x : V} (h : (xs.map V.int)[i]? = some x) : ∃ z, xs[i]? = some z /\ x = V.int z := by
 rw [List.getElem?_map] at h
 cases e : xs[i]? with
 | none => rw [e] at h; cases h
 | some z => rw [e] at h; exact ⟨z, rfl, (Option.some.inj h).symm⟩
end Sh


namespace L2
open PySem PySem.Spec PyProof.Rows
noncomputable def ItzL (K : PySem.W.Frag) (a b : Addr) : It :=
 ⟨fun i H => ∃ xs ys x y, SqL K H a xs /\ SqL K H b ys /\ xs[i]? = some x /\ ys[i]? = some y,
  fun i H v H' => ∃ T x y, v = .ref T /\ H T = none /\ H' = upd H T (.tup [x, y]) /\ (∀ xs, SqL K H a xs -> xs[i]? = some x) /\ ∀ ys, SqL K H b ys -> ys[i]? = some y,
  fun i H => ∃ xs ys, SqL K H a xs /\ SqL K H b ys /\ i <= xs.length /\ i <= ys.length /\ (i = xs.length \/ i = ys.length)⟩
theorem turn_zipL {P : Program} {w : World} {K : PySem.W.Frag} {es : List Expr} {kk : Nat} {tp : Pos} {a b z TI TO i1 i2 : Addr} (Z : Zp z TI TO i1 i2 [i1, a] [i2, b]) (na : a ≠ i1) (nb : b ≠ i2) :
  Turn P w K (.Tuple es kk tp) (ItzL K a b) [z, TI, TO, i1, i2] z (fun i h => IsZip h z TI TO .none /\ IsPair h TI (.ref i1) (.ref i2) /\ (∃ x y, IsPair h TO x y) /\ h.IsListIter i1 a i /\ h.IsListIter i2 b i) where
 mem := by simp
 obj := fun i h ⟨t1, t2, ⟨x, y, t3⟩, t4, t5⟩ c hc => by
  simp only [List.mem_cons, List.not_mem_nil, or_false] at hc
  rcases hc with rfl | rfl | rfl | rfl | rfl
  ·exact ⟨_, t1, fields_no_cell⟩
  ·exact ⟨_, t2, seq_no_cell⟩
  ·exact ⟨_, t3, seq_no_cell⟩
  ·obtain ⟨o, e, _, d⟩ := t4
   exact ⟨o, e, by rw [d]; exact fields_no_cell⟩
  ·obtain ⟨o, e, _, d⟩ := t5
   exact ⟨o, e, by rw [d]; exact fields_no_cell⟩
 keep := fun i h h' ⟨t1, t2, ⟨x, y, t3⟩, t4, t5⟩ k => ⟨k z (by simp) _ t1, k TI (by simp) _ t2, ⟨x, y, k TO (by simp) _ t3⟩, (by obtain ⟨o, e, r⟩ := t4; exact ⟨o, k i1 (by simp) o e, r⟩), (by obtain ⟨o, e, r⟩ := t5; exact ⟨o, k i2 (by simp) o e, r⟩)⟩
 item := by
  intro X hP hw hK hc i pins s σ H E I hf ⟨t1, t2, ⟨x0, y0, t3⟩, t4, t5⟩ hg
  subst hP hw hK
  obtain ⟨xs, ys, x, y, hq1, hq2, hx, hy⟩ := hg
  obtain ⟨its1, rv1, p1, _⟩ := I.list hq1
  obtain ⟨its2, rv2, p2, _⟩ := I.list hq2
  obtain ⟨u, hu, ru⟩ := rv1.get hx
  obtain ⟨v, hv, rv⟩ := rv2.get hy
  have hh : X.A.in1.handled = none := I.ok.hd hc
  have l1 : i < its1.toArray.size := by rw [List.size_toArray]; exact (List.getElem?_eq_some_iff.mp hu).1
  have l2 : i < its2.toArray.size := by rw [List.size_toArray]; exact (List.getElem?_eq_some_iff.mp hv).1
  refine zip_next (Draws.list hh i1 a na its1.toArray) (Draws.list hh i2 b nb its2.toArray) Z t1 t2 t3 ⟨t4, p1.isList⟩ ⟨t5, p2.isList⟩ l1 l2 ?_
  intro x' y' h1 tk px py z1 z2 z3 z4 z5 z6 keep
  have ex : x' = u := by
   have q : its1.toArray[i]? = some x' := px
   simp only [List.getElem?_toArray] at q
   rw [hu] at q
   exact (Option.some.inj q).symm
  have ey : y' = v := by
   have q : its2.toArray[i]? = some y' := py
   simp only [List.getElem?_toArray] at q
   rw [hv] at q
   exact (Option.some.inj q).symm
  subst ex ey
  refine ⟨_, rfl, wpAny_letOwnedTupleGo_zip (s := { s with heap := h1, toks := tk }) z1 fun h2 z7 sb => ?_⟩
  have zlt : z < s.heap.objs.size := Heap.lt_size t1
  have keep2 : ∀ c o, c ∉ [z, TI, TO, i1, i2] -> s.heap.get? c = some o -> h2.get? c = some o := fun c o hc e => by
   simp only [List.mem_cons, List.not_mem_nil, or_false, not_or] at hc
   exact sb.extBut c o hc.1 (keep c o hc.1 hc.2.2.1 hc.2.2.2.1 hc.2.2.2.2 e)
  have pT : IsPair h2 s.heap.objs.size x' y' := sb.extBut _ _ (Nat.ne_of_gt zlt) z6
  have I' := I.turnT (h' := h2) (tk := tk) (ch := [z, TI, TO, i1, i2]) (x := x) (y := y) hf keep2 (Nat.le_refl _) pT ru rv
  refine ⟨.ref s.heap.objs.size, _, I', rfl, ⟨s.heap.objs.size, x, y, rfl, I.hok.fresh (Nat.le_refl _), rfl, fun xs' q => by rw [I.list_inj q hq1]; exact hx, fun ys' q => by rw [I.list_inj q hq2]; exact hy⟩,
   ⟨z7, sb.extBut _ _ Z.a1 z2, ⟨_, _, sb.extBut _ _ Z.a2 z3⟩, z4.1.extBut sb.extBut Z.a3, z5.1.extBut sb.extBut Z.a4⟩, fun c hc => ?_⟩
  have := (hf c hc).1
  rw [upd_ne]
  ·exact this
  ·intro q
   obtain ⟨o, e, _⟩ : ∃ o, s.heap.get? c = some o /\ True := by
    simp only [List.mem_cons, List.not_mem_nil, or_false] at hc
    rcases hc with rfl | rfl | rfl | rfl | rfl
    ·exact ⟨_, t1, trivial⟩
    ·exact ⟨_, t2, trivial⟩
    ·exact ⟨_, t3, trivial⟩
    ·obtain ⟨o, e, _⟩ := t4; exact ⟨o, e, trivial⟩
    ·obtain ⟨o, e, _⟩ := t5; exact ⟨o, e, trivial⟩
   rw [q] at e
   exact absurd (Heap.lt_size e) (Nat.lt_irrefl _)
 done := by
  intro X hP hw hK hc i pins s σ H E I hf ⟨t1, t2, ⟨x0, y0, t3⟩, t4, t5⟩ hg
  subst hP hw hK
  obtain ⟨xs, ys, hq1, hq2, e1, e2, e3⟩ := hg
  obtain ⟨its1, rv1, p1, _⟩ := I.list hq1
  obtain ⟨its2, rv2, p2, _⟩ := I.list hq2
  have hh : X.A.in1.handled = none := I.ok.hd hc
  have n1 : its1.toArray.size = xs.length := by rw [List.size_toArray]; exact rv1.length.symm
  have n2 : its2.toArray.size = ys.length := by rw [List.size_toArray]; exact rv2.length.symm
  refine zip_end (Draws.list hh i1 a na its1.toArray) (Draws.list hh i2 b nb its2.toArray) Z t1 t2 t3 ⟨t4, p1.isList⟩ ⟨t5, p2.isList⟩ (by omega) (by omega) (by omega) ?_
  intro h1 tk keep
  refine ⟨rfl, I.turnN (h' := h1) (tk := tk) (ch := [z, TI, TO, i1, i2]) hf fun c o hc e => ?_⟩
  simp only [List.mem_cons, List.not_mem_nil, or_false, not_or] at hc
  exact keep c o hc.1 hc.2.2.1 hc.2.2.2.1 hc.2.2.2.2 e
 self := fun _ _ _ _ _ st h => wpAny_pyIter_zip st.1 h
section
variable {X : Cx} {es : List Expr} {kk : Nat} {tp : Pos}
noncomputable def iZipL (K : PySem.W.Frag) (ta : TA) : TI := fun σ H R => ta σ H fun vs H1 => ∃ a b, vs = [.ref a, .ref b] /\ (∃ xs, SqL K H1 a xs) /\ (∃ ys, SqL K H1 b ys) /\ R (ItzL K a b) H1
theorem pi_zipL {e1 e2 : Expr} {ta : TA} {p pos : Pos} (hg : Gl X "zip") (hm : X.mg "zip" = none) (ha : PA X [e1, e2] ta) (hs : starEach [e1, e2] X.env = [(false, eval e1 X.env), (false, eval e2 X.env)] := by rfl) (hs2 : starEach [e2] X.env = [(false, eval e2 X.env)] := by rfl) :
  PI X (.Tuple es kk tp) (.Call (.Name "zip" p) [e1, e2] [] pos) (iZipL X.K ta) := by
 intro pins s σ H R I h
 refine Call_ (ld_blt I hg hm (show bootBuiltins "zip" = some (.type "zip") by decide +kernel) (PyProof.Rows.callWith_type1 (thn (ha pos pins s σ H _ I h) fun us s1 ⟨vs, H1, I1, r1, q1⟩ => ?_) (by rw [hs, hs2]) (by rw [hs2]; rfl)))
 obtain ⟨a, b, e, ⟨xs, hx⟩, ⟨ys, hy⟩, q⟩ := q1
 subst e
 obtain ⟨u, v, rfl, ru, rv⟩ := vals2 r1
 cases ru
 cases rv
 obtain ⟨its1, rv1, p1, _⟩ := I1.list hx
 obtain ⟨its2, rv2, p2, _⟩ := I1.list hy
 have la : a < s1.heap.objs.size := by obtain ⟨o, n, e, _⟩ := p1; exact Heap.lt_size e
 have lb : b < s1.heap.objs.size := by obtain ⟨o, n, e, _⟩ := p2; exact Heap.lt_size e
 refine call_zip_2 p1.isList p2.isList fun h' z1 z2 z3 z4 z5 _ keep => wpAny_pyIter_zip z1 ?_
 have I2 : Inv X pins σ H1 { s1 with heap := h' } := I1.kept (t' := s1.toks) keep
 refine ⟨s1.heap.objs.size + 4, [s1.heap.objs.size + 4, s1.heap.objs.size + 2, s1.heap.objs.size + 3, s1.heap.objs.size, s1.heap.objs.size + 1], _, _, H1, rfl, I2,
  turn_zipL (a := a) (b := b) (zp_mk _ _ _ la lb) (Nat.ne_of_lt la) (Nat.ne_of_lt (Nat.lt_succ_of_lt lb)), ⟨z1, z2, ⟨_, _, z3⟩, z4, z5⟩, fun c hc => ?_, q⟩
 ·have ge : s1.heap.objs.size <= c := by
   simp only [List.mem_cons, List.not_mem_nil, or_false] at hc
   rcases hc with rfl | rfl | rfl | rfl | rfl
   ·exact Nat.le_add_right _ 4
   ·exact Nat.le_add_right _ 2
   ·exact Nat.le_add_right _ 3
   ·exact Nat.le_refl _
   ·exact Nat.le_add_right _ 1
  exact I1.fpOk ge (I1.hok.fresh ge)
end
theorem comp_zipL {K : PySem.W.Frag} {a b : Addr} {xs ys : List V} {g : TG} {te : TE} {σ0 : St} {H : Hp} {Q : VK} (Pv : Nat -> List V -> St -> Hp -> Prop) (h0 : Pv 0 [] σ0 H) (hl : ∀ i zs σ H, i <= xs.length -> Pv i zs σ H -> SqL K H a xs /\ SqL K H b ys /\ zs.length <= i) (hlen : xs.length <= ys.length) (hz : xs.length <= sizeLine)
  (hs : ∀ i x y T zs σ H, xs[i]? = some x -> ys[i]? = some y -> H T = none -> Pv i zs σ H -> g (.ref T) σ (upd H T (.tup [x, y])) fun σ2 H2 => te σ2 H2 fun z H3 => Pv (i + 1) (zs ++ [z]) σ2 H3)
  (hd : ∀ zs σ H, Pv xs.length zs σ H -> ∀ p, H p = none -> Q (.ref p) (upd H p (.lst zs))) : CompGo (ItzL K a b) g te Q σ0 H := by
 refine ⟨fun i m zs σ H => m = xs.length - i /\ i <= xs.length /\ Pv i zs σ H, ⟨xs.length, by simp, Nat.zero_le _, h0⟩, ?_⟩
 rintro i m zs σ H ⟨rfl, hi, p⟩
 obtain ⟨q1, q2, hy⟩ := hl i zs σ H hi p
 by_cases hlt : i < xs.length
 ·have hlt2 : i < ys.length := by omega
  refine .inr ⟨⟨xs, ys, xs[i], ys[i], q1, q2, by simp [hlt], by simp [hlt2]⟩, by omega, fun z σ' H' => Pv (i + 1) (zs ++ [z]) σ' H', fun z σ' H' p' => ⟨xs.length - (i + 1), by omega, rfl, hlt, p'⟩, fun v H' y => ?_⟩
  obtain ⟨T, x, y, rfl, hT, rfl, c1, c2⟩ := y
  exact hs i x y T zs σ H (c1 xs q1) (c2 ys q2) hT p
 ·have e : i = xs.length := by omega
  subst e
  exact .inl ⟨⟨xs, ys, q1, q2, Nat.le_refl _, hlen, .inl rfl⟩, hd zs σ H p⟩
end L2


namespace L2
open PySem PySem.Spec PyProof.Rows
section
variable {X : Cx}
end
end L2
namespace Sh
open PySem L2
noncomputable def FrV (H : Hp) (v : V) (p : Int × Int) : Prop := ∃ r, v = .ref r /\ H r = some (.tup [.int p.1, .int p.2])
noncomputable abbrev PtV (H : Hp) (vs : List V) (pts : List (Int × Int)) : Prop := Paired (FrV H) vs pts
noncomputable def rowV (ws : List Int) (b : Int) : List V := ws.map V.int ++ [.int b]
theorem FrV.same {H H' : Hp} {v : V} {p : Int × Int} (s : Same H H') (h : FrV H v p) : FrV H' v p := let ⟨r, e, q⟩ := h; ⟨r, e, s _ _ q⟩
theorem PtV.same {H H' : Hp} {vs : List V} {pts : List (Int × Int)} (s : Same H H') (h : PtV H vs pts) : PtV H' vs pts := Paired.mapP h fun _ _ z => z.same s
theorem FrV.upd {H : Hp} {v : V} {p : Int × Int} {l : Addr} {xs : List V} {o : HO} (hl : H l = some (.lst xs)) (h : FrV H v p) : FrV (upd H l o) v p := by
 obtain ⟨r, e, q⟩ := h
 exact ⟨r, e, by rw [upd_ne (ne_of q hl (by intro z; cases z))]; exact q⟩
theorem PtV.upd {H : Hp} {vs : List V} {pts : List (Int × Int)} {l : Addr} {xs : List V} {o : HO} (hl : H l = some (.lst xs)) (h : PtV H vs pts) : PtV (upd H l o) vs pts := Paired.mapP h fun _ _ z => z.upd hl
structure RwOk (ws : List Int) (n : Nat) : Prop where
 len : ws.length = n
 bd : ∀ w ∈ ws, Bd 1000 w
structure RowOk (r : List Int) (n : Nat) : Prop where
 len : r.length = n + 1
 bd : ∀ x ∈ r, Bd 1000 x
theorem row_split {r : List Int} {n : Nat} (h : r.length = n + 1) : r.take n ++ [r.getD n 0] = r := by
 have e : r[n]? = some (r.getD n 0) := by
  rw [List.getD_eq_getElem?_getD, List.getElem?_eq_getElem (by omega)]
  rfl
 have z := take_snoc e
 rw [<- z, List.take_of_length_le (by omega)]
theorem rowV_split {r : List Int} {n : Nat} (h : r.length = n + 1) : rowV (r.take n) (r.getD n 0) = r.map V.int := by
 have e : rowV (r.take n) (r.getD n 0) = (r.take n ++ [r.getD n 0]).map V.int := by
  rw [List.map_append]
  rfl
 rw [e, row_split h]
noncomputable def rowT (r : List Int) : PyData := .tuple (r.map PyData.int)
theorem dp_ways {K : PySem.W.Frag} {H : Hp} : ∀ {rv : List V} {rows : List (List Int)}, WaysV H rv rows -> DpAll K H rv (rows.map rowT)
 | _, _, .nil => .nil
 | _, _, .cons ⟨a, e, h⟩ t => by
  subst e
  exact .cons (.tup (SqT.of h) (dp_ints _)) (dp_ways t)
theorem lay_ways : ∀ rows : List (List Int), PyData.canLayAll0 (rows.map rowT) = true
 | [] => rfl
 | r :: t => by
  show (PyData.canLayAll0 (r.map PyData.int) && PyData.canLayAll0 (t.map rowT)) = true
  rw [lay_i, lay_ways t]
  rfl
theorem dep_ways : ∀ rows : List (List Int), PyData.depthAll (rows.map rowT) <= 1
 | [] => Nat.zero_le _
 | r :: t => by
  show max (PyData.depthAll (r.map PyData.int) + 1) (PyData.depthAll (t.map rowT)) <= 1
  rw [dep_i]
  have := dep_ways t
  omega
end Sh


namespace Sh
open PySem L2
inductive Kd where
 | int | bool | non | str | lst | tup | dic
 deriving DecidableEq
noncomputable def Kd.nm : Kd -> String
 | .int => "int" | .bool => "bool" | .non => "NoneType" | .str => "str" | .lst => "list" | .tup => "tuple" | .dic => "dict"
noncomputable def Kd.whole : Kd -> Bool
 | .int => true
 | _ => false
noncomputable def Kd.isInt : Kd -> Bool
 | .int => true
 | .bool => true
 | _ => false
noncomputable def Kd.isTup : Kd -> Bool
 | .tup => true
 | _ => false
inductive Kof (H : Hp) : V -> Kd -> Prop where
 | non : Kof H .non .non
 | bl (b : Bool) : Kof H (.bl b) .bool
 | int (i : Int) : Kof H (.int i) .int
 | str (x : Str) : Kof H (.str x) .str
 | lst {a : Addr} {xs : List V} (e : H a = some (.lst xs)) : Kof H (.ref a) .lst
 | tup {a : Addr} {xs : List V} (e : H a = some (.tup xs)) : Kof H (.ref a) .tup
 | dic {a : Addr} {kvs : List (Key × V)} (e : H a = some (.dK kvs)) : Kof H (.ref a) .dic
noncomputable def Kd.isLst : Kd -> Bool
 | .lst => true
 | _ => false
section
variable (K : PySem.W.Frag)
theorem kd_tup (k : Kd) : PySem.W.kitOne K (.type k.nm) (.type "tuple") = some k.isTup := by
 cases k <;> first | rfl | decide +kernel | (unfold PySem.W.kitOne; rw [if_pos (by decide +kernel)]; rfl) | (unfold PySem.W.kitOne; rw [if_neg (by decide +kernel)]; rfl)
theorem kd_lst (k : Kd) : PySem.W.kitOne K (.type k.nm) (.type "list") = some k.isLst := by
 cases k <;> first | rfl | decide +kernel | (unfold PySem.W.kitOne; rw [if_pos (by decide +kernel)]; rfl) | (unfold PySem.W.kitOne; rw [if_neg (by decide +kernel)]; rfl)
end
end Sh
namespace L2
open PySem PySem.Spec PyProof.Rows
section
variable {X : Cx}
theorem op_isnotB : OpR X (compareOp .IsNot) (fun x y H Q => ∃ a b, x = .bl a /\ y = .bl b /\ Q (.bl (a != b)) H) := by
 intro pins s σ H x y v u Q I rx ry h
 obtain ⟨a, b, rfl, rfl, q⟩ := h
 cases rx
 cases ry
 exact isnot_bool ⟨.bl (a != b), H, I, rfl, q⟩
end
end L2


namespace L2
open PySem PySem.Spec PyProof.Rows
structure ClsF (K : PySem.W.Frag) (mg : Str -> Option Value) (x : Str) (C : Addr) : Prop where
 cl : Cls K C
 mgC : mg x = some (.ref C)
 ha : PySem.W.findIn K (.ref C) "__class__" = some (some (.builtin "object.__class__"))
 hn : PySem.W.specialIn K (.builtin "object.__class__") "__get__" = some (some (.builtin "getset_descriptor.__get__"))
 htk : PySem.W.takesIn K (.builtin "object.__class__") = some true
 hm : PySem.W.mroIn K C (.type "object") = some true
theorem ClsF.ty {K : PySem.W.Frag} {mg : Str -> Option Value} {x : Str} {C a dx : Addr} {H : Hp} {fs : List (Str × V)} (T : ClsF K mg x C) (e : H a = some (.ins C dx fs)) : TyOf K H (.ref a) (.ref C) := .ins e T.cl T.ha T.hn T.htk T.hm
structure FnM (P : Program) (w : World) (K : PySem.W.Frag) (mg : Str -> Option Value) (base : Heap) (C : Addr) (m : Str) (ps : List Str) (k : Nat) (sp : Sp) : Prop where
 ex : ∃ f fd, FnOk P w K mg base CX0 k f fd ps sp /\ Meth K C m f /\ Binds K fd ps []
structure FnC (P : Program) (w : World) (K : PySem.W.Frag) (mg : Str -> Option Value) (base : Heap) (C : Addr) (ps : List Str) (k : Nat) (sp : Sp) : Prop where
 ex : ∃ f fd, FnOk P w K mg base CX0 k f fd ps sp /\ Mk K C f /\ Binds K fd ps []
structure FnCD (P : Program) (w : World) (K : PySem.W.Frag) (mg : Str -> Option Value) (base : Heap) (C : Addr) (ps : List Str) (k : Nat) (sp : Sp) (dv : V) : Prop where
 ex : ∃ f fd d, FnOk P w K mg base CX0 k f fd ps sp /\ Mk K C f /\ Binds K fd ps [] /\ Binds K fd ps [d] /\ RelV dv d
theorem FnM.mono {P : Program} {w : World} {K : PySem.W.Frag} {mg : Str -> Option Value} {base : Heap} {C : Addr} {m : Str} {ps : List Str} {j k : Nat} {sp : Sp} (F : FnM P w K mg base C m ps j sp) (h : j <= k) : FnM P w K mg base C m ps k sp := by
 obtain ⟨f, fd, a, b, c⟩ := F.ex
 exact ⟨f, fd, a.mono h, b, c⟩
theorem FnC.mono {P : Program} {w : World} {K : PySem.W.Frag} {mg : Str -> Option Value} {base : Heap} {C : Addr} {ps : List Str} {j k : Nat} {sp : Sp} (F : FnC P w K mg base C ps j sp) (h : j <= k) : FnC P w K mg base C ps k sp := by
 obtain ⟨f, fd, a, b, c⟩ := F.ex
 exact ⟨f, fd, a.mono h, b, c⟩
theorem FnCD.mono {P : Program} {w : World} {K : PySem.W.Frag} {mg : Str -> Option Value} {base : Heap} {C : Addr} {ps : List Str} {j k : Nat} {sp : Sp} {dv : V} (F : FnCD P w K mg base C ps j sp dv) (h : j <= k) : FnCD P w K mg base C ps k sp dv := by
 obtain ⟨f, fd, d, a, b, c⟩ := F.ex
 exact ⟨f, fd, d, a.mono h, b, c⟩
theorem FnCD.fn {P : Program} {w : World} {K : PySem.W.Frag} {mg : Str -> Option Value} {base : Heap} {C : Addr} {ps : List Str} {k : Nat} {sp : Sp} {dv : V} (F : FnCD P w K mg base C ps k sp dv) : FnC P w K mg base C ps k sp := by
 obtain ⟨f, fd, d, a, b, c, _⟩ := F.ex
 exact ⟨f, fd, a, b, c⟩
section
variable {X : Cx} {C : Addr} {m x : Str} {ps : List Str} {k : Nat} {sp : Sp} {o e : Expr} {es : List Expr} {ta : TE} {t : TA} {p pos apos : Pos} {dv : V}
theorem pe_methF0 {pl : Sem Bool} (F : FnM X.prog X.w X.K X.mg X.base C m ps k sp) (T : ClsF X.K X.mg x C) (hr : Room k X.A) (he : PE X o ta)
  (ht : eval (.Call (.Attribute o m apos) [] [] pos) X.env = (do
   let ov <- eval o X.env
   standAt apos.atName
   let (f, first) <- holding [ov] (getMethod ov m pl)
   callWith pos f first (backTo pos (starEach [] X.env)) (backToKw pos (keywordEach [] X.env))) := by rfl) :
  PE X (.Call (.Attribute o m apos) [] [] pos) (tMeth C m sp [] E0 ta tNil) := by
 obtain ⟨f, fd, a, b, c⟩ := F.ex
 exact pe_meth0 he T.cl b a hr c .nil pass0 ht
theorem pe_makeF (F : FnC X.prog X.w X.K X.mg X.base C ps k sp) (T : ClsF X.K X.mg x C) (hr : Room (k + 1) X.A) (hg : Gl X x) (ha : PA X (e :: es) t)
  (hdb : (x == ("__debug__" : Str)) = false := by decide) (he : starEach (e :: es) X.env = (false, eval e X.env) :: starEach es X.env := by rfl) (hpl : (backTo pos (starEach es X.env)).any (·.1) = false := by rfl) :
  PE X (.Call (.Name x p) (e :: es) [] pos) (tMake C sp [] E0 t) := by
 obtain ⟨f, fd, a, b, c⟩ := F.ex
 exact pe_make b a hr hg T.mgC c .nil pass0 ha hdb he hpl
theorem pe_cls (T : ClsF X.K X.mg x C) (hg : Gl X x) (hd : (x == ("__debug__" : Str)) = false := by decide) : PE X (.Name x pos) (tC (.ref C)) := pe_glob hg T.mgC rfl hd
noncomputable def rInstO (K : PySem.W.Frag) : List V -> Hp -> VK -> Prop := fun xs H Q => ∃ x C t b, xs = [x, .ref C] /\ TyOf K H x t /\ PySem.W.kitOne K t (.ref C) = some b /\ Q (.bl b) H
theorem call_isinstO : CallR X (.builtin "isinstance") (rInstO X.K) := by
 intro pins s σ H xs us Q I r h
 obtain ⟨x, C, t, b, rfl, ty, e, q⟩ := h
 obtain ⟨u, v, rfl, ru, rv⟩ := vals2 r
 cases (show v = Value.ref C from rv)
 exact isinst_ok I ru ty e fun tk => ⟨.bl b, H, I.tok tk, rfl, q⟩
end
end L2


namespace L2
open PySem PySem.Spec PyProof.Rows
section
variable {X : Cx} {pos : Pos}
theorem pe_const {x : Str} {n : Int} (hg : Gl X x) (h : ∃ t, X.mg x = some (.int n t)) (hd : (x == ("__debug__" : Str)) = false := by decide) : PE X (.Name x pos) (tC (.int n)) :=
 let ⟨t, e⟩ := h
 pe_glob hg e ⟨t, rfl⟩ hd
end
noncomputable def spNone : Sp := fun _ _ _ _ => False
theorem FnOk.none {P : Program} {w : World} {K : PySem.W.Frag} {mg : Str -> Option Value} {base : Heap} {CX : CXT} {k : Nat} {f : Addr} {fd : FuncData} {ps : List Str} : FnOk P w K mg base CX k f fd ps spNone :=
 ⟨fun _ _ _ _ h => h.elim, fun _ _ _ _ _ _ _ _ _ _ _ _ _ h => h.elim⟩
end L2
namespace L2
open PySem PySem.Spec PyProof.Rows PySem.SeqAt
section
variable {X : Cx}
end
end L2


namespace L2
open PySem PySem.Spec PyProof.Rows
open PySem
theorem Same.seqT {K : PySem.W.Frag} {H H' : Hp} {a : Addr} {xs : List V} (e : Same H H') (h : SqT K H a xs) : SqT K H' a xs := by
 rcases h with (h | ⟨o, h⟩) | h
 ·exact .inl (.inl (e _ _ h))
 ·exact .inl (.inr ⟨o, e _ _ h⟩)
 ·exact .inr h
noncomputable def SqE (K : PySem.W.Frag) (H : Hp) (a : Addr) (xs : List V) : Prop := SqT K H a xs \/ SqL K H a xs
theorem SqE.same {K : PySem.W.Frag} {H H' : Hp} {a : Addr} {xs : List V} (s : Same H H') (h : SqE K H a xs) : SqE K H' a xs := h.imp (fun z => s.seqT z) (fun z => s.seq z)
section
variable {X : Cx} {es : List Expr} {kk : Nat} {tp : Pos}
end
section
variable {prog : Program} {w : World} {A : Around} {E : Value -> Shared -> Prop}
theorem drawL {it l : Addr} {xs : Array Value} (ne : l ≠ it) : ∀ (m j : Nat) (s : Shared) (R : List Value -> Shared -> Prop), s.heap.IsListIter it l j -> s.heap.IsList l xs -> j + m <= xs.size ->
  (∀ g, g.IsListIter it l (j + m) -> Heap.SameBut it s.heap g -> R ((xs.toList.drop j).take m) { s with heap := g }) -> wpAny (model prog w) A (draw (.ref it) m) R E s
 | 0, j, s, R, hi, _, _, k => wpAny_pure (by simpa using k s.heap hi (Heap.SameBut.refl ..))
 | m + 1, j, s, R, hi, hl, le, k => by
  have lt : j < xs.size := by omega
  have step := fun g (z : Heap.SameBut it s.heap g) => (hl.extBut z.extBut ne : g.IsList l xs)
  show wpAny _ _ (pyNext (.ref it) >>= _) R E s
  refine wpAny_bind (wpAny_pyNext_list_item hi hl (x := xs[j]) (by simp [lt]) fun g1 i1 b1 => ?_)
  refine wpAny_bind (wpAny_holding (drawL ne m (j + 1) _ _ i1 (step g1 b1) (by omega) fun g2 i2 b2 => wpAny_pure ?_))
  have z := k g2 (by rw [show j + (m + 1) = j + 1 + m by omega]; exact i2) (b1.trans b2)
  rw [show xs.toList.drop j = xs[j] :: xs.toList.drop (j + 1) by simp [List.drop_eq_getElem_cons, lt], List.take_succ_cons] at z
  exact z
theorem itemsL {s : Shared} {l : Addr} {xs : Array Value} {R : List Value -> Shared -> Prop} (hd : A.handled = none) (hl : s.heap.IsList l xs)
  (k : ∀ g, Heap.ExtBut s.heap.objs.size s.heap g -> R xs.toList { s with heap := g }) : wpAny (model prog w) A (unpackItems (.ref l) xs.size none) R E s := by
 have ne : l ≠ s.heap.objs.size := by
  obtain ⟨o, eo, _⟩ := hl
  exact Nat.ne_of_lt (Heap.lt_size eo)
 unfold unpackItems
 refine wpAny_bind ?_
 unfold notIterableAtAll
 refine wpAny_bind (wpAny_specialOf hl.typeIs slot_list_iter.lookup ?_)
 refine wpAny_pure ?_
 simp only [Bool.false_eq_true, if_false]
 refine wpAny_bind (wpAny_holding (wpAny_pyIter_list hl ?_))
 refine wpAny_bind (wpAny_holding (drawL ne xs.size 0 _ _ ⟨_, Heap.get?_push_size _ rfl, rfl, rfl⟩ (hl.push _) (by omega) fun g1 i1 b1 => ?_))
 rw [show List.take xs.size (List.drop 0 xs.toList) = xs.toList by rw [List.drop_zero]; exact List.take_of_length_le (by simp), if_neg (by simp)]
 refine wpAny_bind (wpAny_holding (wpAny_pyNext_list_end hd i1 ((hl.push _).extBut b1.extBut ne) (by simp) fun g2 x2 => ?_))
 simp only [Option.isSome_none, Bool.false_eq_true, if_false]
 exact wpAny_pure (k g2 fun c o n e => x2 c o n (b1.extBut c o n (Heap.get?_push_of_some _ e)))
end
section
variable {X : Cx} {pos : Pos}
noncomputable def gLst (K : PySem.W.Frag) (n : Nat) (t : TGs) : TG := fun v σ H Q => ∃ a xs, v = .ref a /\ SqL K H a xs /\ xs.length = n /\ t xs σ H Q
theorem pg_lst {es : List Expr} {k : Nat} {t : TGs} {n : Nat} (hc : X.calm = true) (h : PGs X es t)
  (hn : (assignEach es X.env).length = n := by rfl) (hst : (assignEach es X.env).findIdx? (·.1) = none := by rfl) : PG X (.Tuple es k pos) (gLst X.K n t) := by
 intro pins s σ H v u Q I r hw
 obtain ⟨a, xs, e1, hq, hl, hw⟩ := hw
 subst e1
 cases r
 obtain ⟨its, rv, ht, hz⟩ := I.list hq
 rw [assign_Tuple]
 refine wpAny_bind (wpAny_standAt ?_)
 unfold unpack
 rw [show (assignEach es X.env).length = its.toArray.size by simp [hn, <- hl, rv.length], hst]
 refine wpAny_bind (wpAny_holding (itemsL (I.ok.hd hc) ht.isList fun g hx => ?_))
 have I1 : Inv X pins σ H { s with heap := g } := I.kept (t' := s.toks) fun b o e => hx b o (Nat.ne_of_lt (Heap.lt_size e)) e
 exact h pins _ σ H xs _ Q I1 (by simpa using rv) hw
end
end L2


namespace L2
open PySem PySem.Spec PyProof.Rows
inductive JVar (i : Nat) (σ : St) (H : Hp) (Q : VK) : Prop
 | mk (v : V) (_ : σ[i]? = some (some v)) (_ : Q v H) : JVar i σ H Q
inductive JI (C : Int -> Int -> Prop) (g : Int -> Int -> V) (x y : V) (H : Hp) (Q : VK) : Prop
 | mk (i j : Int) (_ : x = .int i) (_ : y = .int j) (_ : C i j) (_ : Q (g i j) H) : JI C g x y H Q
inductive JI0 (g : Int -> Int -> V) (x y : V) (H : Hp) (Q : VK) : Prop
 | mk (i j : Int) (_ : x = .int i) (_ : y = .int j) (_ : Q (g i j) H) : JI0 g x y H Q
inductive JIx (S : Hp -> Addr -> List V -> Prop) (x y : V) (H : Hp) (Q : VK) : Prop
 | mk (p : Addr) (xs : List V) (i : Int) (v : V) (_ : x = .ref p) (_ : y = .int i) (_ : S H p xs) (_ : atI xs i = some v) (_ : Q v H) : JIx S x y H Q
inductive JCat (x y : V) (H : Hp) (Q : VK) : Prop
 | mk (l b : Addr) (xs zs : List V) (_ : x = .ref l) (_ : y = .ref b) (_ : H l = some (.lst xs)) (_ : H b = some (.lst zs)) (_ : xs.length + zs.length <= sizeLine) (_ : ∀ p, H p = none -> Q (.ref p) (upd H p (.lst (xs ++ zs)))) : JCat x y H Q
inductive JLen (K : PySem.W.Frag) (xs : List V) (H : Hp) (Q : VK) : Prop
 | mk (p : Addr) (ys : List V) (_ : xs = [.ref p]) (_ : SqL K H p ys \/ SqT K H p ys) (_ : Q (.int ys.length) H) : JLen K xs H Q
inductive JApp (x : V) (vs : List V) (H : Hp) (Q : VK) : Prop
 | mk (l : Addr) (xs : List V) (y : V) (_ : x = .ref l) (_ : vs = [y]) (_ : H l = some (.lst xs)) (_ : xs.length < sizeLine) (_ : Q .non (upd H l (.lst (xs ++ [y])))) : JApp x vs H Q
inductive JInst (K : PySem.W.Frag) (xs : List V) (H : Hp) (Q : VK) : Prop
 | mk (x : V) (c : String) (t : Value) (b : Bool) (_ : xs = [x, .ty c]) (_ : TyOf K H x t) (_ : PySem.W.kitOne K t (.type c) = some b) (_ : Q (.bl b) H) : JInst K xs H Q
inductive JSet (o i v : V) (H : Hp) (Q : Hp -> Prop) : Prop
 | mk (p : Addr) (xs : List V) (k : Int) (j : Nat) (_ : o = .ref p) (_ : i = .int k) (_ : H p = some (.lst xs)) (_ : ixN xs.length k = some j) (_ : Q (upd H p (.lst (xs.set j v)))) : JSet o i v H Q
inductive JSlT (K : PySem.W.Frag) (x : V) (lo hi : Option Int) (H : Hp) (Q : VK) : Prop
 | mk (a : Addr) (xs : List V) (_ : x = .ref a) (_ : SqT K H a xs) (_ : ¬ (HT.sIx xs.length 0 lo = 0 /\ HT.sIx xs.length xs.length hi = xs.length)) (_ : ∀ p, H p = none -> Q (.ref p) (upd H p (.tup (cutV xs lo hi)))) : JSlT K x lo hi H Q
inductive JSlL (K : PySem.W.Frag) (x : V) (lo hi : Option Int) (H : Hp) (Q : VK) : Prop
 | mk (a : Addr) (xs : List V) (_ : x = .ref a) (_ : SqL K H a xs) (_ : ∀ p, H p = none -> Q (.ref p) (upd H p (.lst (cutV xs lo hi)))) : JSlL K x lo hi H Q
inductive JTup (K : PySem.W.Frag) (xs : List V) (H : Hp) (Q : VK) : Prop
 | mk (p : Addr) (ys : List V) (_ : xs = [.ref p]) (_ : (SqL K H p ys /\ ∀ l, H l = none -> Q (.ref l) (upd H l (.tup ys))) \/ (SqT K H p ys /\ Q (.ref p) H)) : JTup K xs H Q
inductive JRep (x y : V) (H : Hp) (Q : VK) : Prop
 | mk (l : Addr) (k : Int) (xs : List V) (_ : x = .ref l) (_ : y = .int k) (_ : H l = some (.lst xs)) (_ : -(2 ^ 63) <= k) (_ : k < 2 ^ 63) (_ : xs.length * k.toNat <= sizeLine) (_ : ∀ p, H p = none -> Q (.ref p) (upd H p (.lst (List.replicate k.toNat xs).flatten))) : JRep x y H Q
section
variable {X : Cx}
theorem japp : MtM X "list.append" JApp := fun pins s σ H x xs v us Q I rx rv ⟨l, ys, y, h1, h2, h3, h4, q⟩ => mt_append pins s σ H x xs v us Q I rx rv ⟨l, ys, y, h1, h2, h3, h4, q⟩
theorem jinst : CallR X (.builtin "isinstance") (JInst X.K) := fun pins s σ H xs us Q I r ⟨x, c, t, b, h1, h2, h3, q⟩ => call_isinst pins s σ H xs us Q I r ⟨x, c, t, b, h1, h2, h3, q⟩
theorem jset : PSet X JSet := fun pins s σ H o i v ov iv u Q I h1 h2 h3 ⟨p, xs, k, j, a, b, c, d, q⟩ => set_list pins s σ H o i v ov iv u Q I h1 h2 h3 ⟨p, xs, k, j, a, b, c, d, q⟩
theorem jsl_tup : SlR X (JSlT X.K) := fun pins s σ H x v vl vu lo hi sl Q I h1 h2 h3 h4 ⟨a, xs, b, c, d, q⟩ => sl_tup pins s σ H x v vl vu lo hi sl Q I h1 h2 h3 h4 ⟨a, xs, b, c, d, q⟩
theorem jsl_list : SlR X (JSlL X.K) := fun pins s σ H x v vl vu lo hi sl Q I h1 h2 h3 h4 ⟨a, xs, b, c, q⟩ => sl_list pins s σ H x v vl vu lo hi sl Q I h1 h2 h3 h4 ⟨a, xs, b, c, q⟩
theorem jtup : CallR X (.type "tuple") (JTup X.K) := fun pins s σ H xs us Q I r ⟨p, ys, e, q⟩ => call_tuple_of pins s σ H xs us Q I r ⟨p, ys, e, q⟩
theorem jrep : OpR X (binaryOp .Mult) JRep := fun pins s σ H x y v u Q I rx ry ⟨l, k, xs, a, b, c, d, e, f, q⟩ => op_rep pins s σ H x y v u Q I rx ry ⟨l, k, xs, a, b, c, d, e, f, q⟩
theorem pvj (i : Nat) {x : Str} {pos : Pos} (hN : X.N[i]? = some x := by rfl) (hv : Vis X.env.scope x := by first | exact Or.inl rfl | exact Or.inr (Or.inl rfl) | exact Or.inr (Or.inr rfl)) (hd : (x == ("__debug__" : Str)) = false := by decide)
  (hcd : (x == ("__classdict__" : Str)) = false := by decide) : PE X (.Name x pos) (JVar i) := fun pins s σ H Q I ⟨v, e, h⟩ => pe_var hN hv hd hcd pins s σ H Q I ⟨v, e, h⟩
theorem ji {f : Value -> Value -> Sem Value} {C : Int -> Int -> Prop} {g : Int -> Int -> V} (h : OpR X f (rI C g)) : OpR X f (JI C g) := fun pins s σ H x y v u Q I rx ry ⟨i, j, hx, hy, c, q⟩ => h pins s σ H x y v u Q I rx ry ⟨i, j, hx, hy, c, q⟩
theorem ji0 {f : Value -> Value -> Sem Value} {g : Int -> Int -> V} (h : OpR X f (rI0 g)) : OpR X f (JI0 g) := fun pins s σ H x y v u Q I rx ry ⟨i, j, hx, hy, q⟩ => h pins s σ H x y v u Q I rx ry ⟨i, j, hx, hy, q⟩
theorem jix_list : IxR X (JIx (SqL X.K)) := fun a b pins s σ H x y v u Q I rx ry ⟨p, xs, i, w, hx, hy, hs, ha, q⟩ => ix_list a b pins s σ H x y v u Q I rx ry ⟨p, xs, i, w, hx, hy, hs, ha, q⟩
theorem jix_tup : IxR X (JIx (SqT X.K)) := fun a b pins s σ H x y v u Q I rx ry ⟨p, xs, i, w, hx, hy, hs, ha, q⟩ => ix_tup a b pins s σ H x y v u Q I rx ry ⟨p, xs, i, w, hx, hy, hs, ha, q⟩
theorem jcat : OpR X (binaryOp .Add) JCat := fun pins s σ H x y v u Q I rx ry ⟨l, b, xs, zs, hx, hy, h1, h2, h3, q⟩ => op_cat pins s σ H x y v u Q I rx ry ⟨l, b, xs, zs, hx, hy, h1, h2, h3, q⟩
theorem jlen : CallR X (.builtin "len") (JLen X.K) := fun pins s σ H xs us Q I r ⟨p, ys, e, h, q⟩ => call_len_seq pins s σ H xs us Q I r ⟨p, ys, e, h, q⟩
end
end L2


namespace Sh
open PySem L2
noncomputable def LstI (H : Hp) (v : V) (r : List Int) : Prop := ∃ a, v = .ref a /\ H a = some (.lst (r.map V.int))
noncomputable abbrev TabV (H : Hp) (vs : List V) (tab : List (List Int)) : Prop := Paired (LstI H) vs tab
theorem LstI.same {H H' : Hp} {v : V} {r : List Int} (s : Same H H') (h : LstI H v r) : LstI H' v r := let ⟨a, e, q⟩ := h; ⟨a, e, s _ _ q⟩
theorem TabV.same {H H' : Hp} {vs : List V} {tab : List (List Int)} (s : Same H H') (h : TabV H vs tab) : TabV H' vs tab := Paired.mapP h fun _ _ z => z.same s
noncomputable def SameB (p : Addr) (H H' : Hp) : Prop := ∀ b o, H b = some o -> b ≠ p -> H' b = some o
theorem Same.but {p : Addr} {H H' : Hp} (s : Same H H') : SameB p H H' := fun b o e _ => s b o e
theorem SameB.trans {p : Addr} {H H1 H2 : Hp} (a : SameB p H H1) (b : SameB p H1 H2) : SameB p H H2 := fun c o e n => b c o (a c o e n) n
theorem sameB_upd (p : Addr) (H : Hp) (o : HO) : SameB p H (upd H p o) := fun b u e n => by rw [upd_ne n]; exact e
noncomputable def NewL (H0 H : Hp) (v : V) (r : List Int) : Prop := ∃ a, v = .ref a /\ H0 a = none /\ H a = some (.lst (r.map V.int))
inductive spC0 (vs : List V) (H : Hp) (Q : VK) (E : XK) : Prop
 | mk (i d : Int) (_ : vs = [.int i, .int d]) (_ : Q (.int i) H) : spC0 vs H Q E
noncomputable def spC1 : Sp := fun vs H Q _ => (∃ i d : Int, vs = [.int i, .int d] /\ Q (.int i) H) ∨
 (∃ (a : Addr) (ns : List Int) (d : Int), vs = [.ref a, .int d] /\ 1 <= d /\ H a = some (.lst (ns.map V.int)) /\ ns.length <= 900 /\ ∀ l H', Same H H' -> H l = none -> H' l = some (.lst (ns.map V.int)) -> Q (.ref l) H') ∨
 (∃ (a : Addr) (ns : List Int) (d : Int), vs = [.ref a, .int d] /\ 1 <= d /\ H a = some (.tup (ns.map V.int)) /\ ns.length <= 900 /\ ∀ t H', Same H H' -> H t = none -> H' t = some (.tup (ns.map V.int)) -> Q (.ref t) H')
noncomputable def spC2 : Sp := fun vs H Q E => spC1 vs H Q E ∨
 (∃ (a : Addr) (rv : List V) (rows : List (List Int)) (d : Int), vs = [.ref a, .int d] /\ 2 <= d /\ H a = some (.lst rv) /\ WaysV H rv rows /\ rows.length <= 900 /\ (∀ r ∈ rows, r.length <= 900) /\ ∀ l lv H', Same H H' -> H l = none -> H' l = some (.lst lv) -> WaysV H' lv rows -> Q (.ref l) H') ∨
 (∃ (a : Addr) (tv : List V) (tab : List (List Int)) (d : Int), vs = [.ref a, .int d] /\ 2 <= d /\ H a = some (.lst tv) /\ TabV H tv tab /\ tab.length <= 900 /\ (∀ r ∈ tab, r.length <= 900) /\ ∀ l lv H', Same H H' -> H l = none -> H' l = some (.lst lv) -> Paired (NewL H H') lv tab -> Q (.ref l) H')
inductive spIsWhole (vs : List V) (H : Hp) (Q : VK) (E : XK) : Prop
 | mk (i : Int) (_ : vs = [.int i]) (_ : Q (.bl true) H) : spIsWhole vs H Q E
inductive spIsNumbers (vs : List V) (H : Hp) (Q : VK) (E : XK) : Prop
 | mk (a : Addr) (ns : List Int) (_ : vs = [.ref a, .int (ns.length : Int)]) (_ : H a = some (.lst (ns.map V.int))) (_ : ns.length <= 900) (_ : ∀ H', Same H H' -> Q (.bl true) H') : spIsNumbers vs H Q E
inductive spIsTable (vs : List V) (H : Hp) (Q : VK) (E : XK) : Prop
 | mk (a : Addr) (tv : List V) (tab : List (List Int)) (w : Nat) (_ : vs = [.ref a, .int (tab.length : Int), .int (w : Int)]) (_ : H a = some (.lst tv)) (_ : TabV H tv tab) (_ : tab.length <= 900) (_ : (∀ r ∈ tab, r.length = w)) (_ : w <= 900) (_ : ∀ H', Same H H' -> Q (.bl true) H') : spIsTable vs H Q E
inductive spIsRow (vs : List V) (H : Hp) (Q : VK) (E : XK) : Prop
 | mk (a : Addr) (ns : List Int) (n : Nat) (_ : vs = [.ref a, .int (n : Int)]) (_ : H a = some (.tup (ns.map V.int))) (_ : ns.length = n + 1) (_ : n <= 800) (_ : ∀ H', Same H H' -> Q (.bl true) H') : spIsRow vs H Q E
inductive spIsRoom (vs : List V) (H : Hp) (Q : VK) (E : XK) : Prop
 | mk (a : Addr) (rv : List V) (rows : List (List Int)) (n : Nat) (_ : vs = [.ref a, .int (n : Int)]) (_ : H a = some (.lst rv)) (_ : WaysV H rv rows) (_ : rows.length <= 900) (_ : (∀ r ∈ rows, r.length = n + 1)) (_ : n <= 800) (_ : ∀ H', Same H H' -> Q (.bl true) H') : spIsRoom vs H Q E
inductive spIsPush (vs : List V) (H : Hp) (Q : VK) (E : XK) : Prop
 | mk (a : Addr) (lo hi : Int) (_ : vs = [.ref a]) (_ : H a = some (.tup [.int lo, .int hi])) (_ : lo <= hi) (_ : Q (.bl true) H) : spIsPush vs H Q E
structure MD where
 rows : List (List Int)
 nexts : List (List Int)
 steer : List Int
 push : List (List Int)
 add : List Int
 div : Int
structure MDOk (m : MD) (n p : Nat) : Prop where
 rows : ∀ r ∈ m.rows, r.length = n + 1
 few : m.rows.length <= 900
 nexts : m.nexts.length = n /\ ∀ r ∈ m.nexts, r.length = n
 steer : m.steer.length = n
 push : m.push.length = n /\ ∀ r ∈ m.push, r.length = p
 add : m.add.length = n
 div : 1 <= m.div
 n3 : n <= 3
 p6 : p <= 12
noncomputable def modeF (r n s p a : V) (d : Int) : List (Str × V) := [("rows", r), ("nexts", n), ("steer", s), ("push", p), ("add", a), ("divisor", .int d)]
structure ModeAt (C : Addr) (H : Hp) (o : Addr) (m : MD) where
 dx : Addr
 r : Addr
 rv : List V
 n : Addr
 nv : List V
 s : Addr
 p : Addr
 pv : List V
 a : Addr
structure ModeAt.Ok {C : Addr} {H : Hp} {o : Addr} {m : MD} (M : ModeAt C H o m) : Prop where
 ins : H o = some (.ins C M.dx (modeF (.ref M.r) (.ref M.n) (.ref M.s) (.ref M.p) (.ref M.a) m.div))
 hr : H M.r = some (.lst M.rv)
 hrv : WaysV H M.rv m.rows
 hn : H M.n = some (.lst M.nv)
 hnv : TabV H M.nv m.nexts
 hs : H M.s = some (.lst (m.steer.map V.int))
 hp : H M.p = some (.lst M.pv)
 hpv : TabV H M.pv m.push
 ha : H M.a = some (.lst (m.add.map V.int))
noncomputable def ModeV (C : Addr) (H : Hp) (v : V) (m : MD) : Prop := ∃ (o : Addr) (M : ModeAt C H o m), v = .ref o /\ M.Ok
theorem ModeV.same {C : Addr} {H H' : Hp} {v : V} {m : MD} (s : Same H H') (h : ModeV C H v m) : ModeV C H' v m :=
 let ⟨o, M, e, k⟩ := h
 ⟨o, ⟨M.dx, M.r, M.rv, M.n, M.nv, M.s, M.p, M.pv, M.a⟩, e, ⟨s _ _ k.ins, s _ _ k.hr, WaysV.same s k.hrv, s _ _ k.hn, TabV.same s k.hnv, s _ _ k.hs, s _ _ k.hp, TabV.same s k.hpv, s _ _ k.ha⟩⟩
inductive spModeInit (C : Addr) (vs : List V) (H : Hp) (Q : VK) (E : XK) : Prop
 | mk (o dx ra na sa pa aa : Addr) (rv nv pv : List V) (m : MD) (n p : Nat) (_ : vs = [.ref o, .ref ra, .ref na, .ref sa, .ref pa, .ref aa, .int m.div]) (_ : H o = some (.ins C dx [])) (_ : MDOk m n p) (_ : H ra = some (.lst rv)) (_ : WaysV H rv m.rows) (_ : H na = some (.lst nv)) (_ : TabV H nv m.nexts) (_ : H sa = some (.lst (m.steer.map V.int))) (_ : H pa = some (.lst pv)) (_ : TabV H pv m.push) (_ : H aa = some (.lst (m.add.map V.int))) (_ : ∀ (M : ModeAt C H o m) (H' : Hp), SameB o H H' -> (ModeAt.mk (C := C) (H := H') (o := o) (m := m) M.dx M.r M.rv M.n M.nv M.s M.p M.pv M.a).Ok -> H M.r = none -> H M.n = none -> H M.s = none -> H M.p = none -> H M.a = none -> Paired (NewL H H') M.nv m.nexts -> Paired (NewL H H') M.pv m.push -> Q .non H') : spModeInit C vs H Q E
inductive spIsMode (C : Addr) (vs : List V) (H : Hp) (Q : VK) (E : XK) : Prop
 | mk (v : V) (m : MD) (n p : Nat) (_ : vs = [v, .int (n : Int), .int (p : Int)]) (_ : ModeV C H v m) (_ : MDOk m n p) (_ : ∀ H', Same H H' -> Q (.bl true) H') : spIsMode C vs H Q E
noncomputable def PuV (H : Hp) (v : V) (b : Int × Int) : Prop := ∃ a, v = .ref a /\ H a = some (.tup [.int b.1, .int b.2])
theorem PuV.same {H H' : Hp} {v : V} {b : Int × Int} (s : Same H H') (h : PuV H v b) : PuV H' v b := let ⟨a, e, q⟩ := h; ⟨a, e, s _ _ q⟩
structure ThOk (n : Nat) (bs : List (Int × Int)) (ms : List MD) : Prop where
 n1 : 1 <= n
 n3 : n <= 3
 bok : ∀ b ∈ bs, b.1 <= b.2
 b6 : bs.length <= 6
 m1 : 1 <= ms.length
 m40 : ms.length <= 40
 mok : ∀ m ∈ ms, MDOk m n bs.length
inductive spIsSound (C : Addr) (vs : List V) (H : Hp) (Q : VK) (E : XK) : Prop
 | mk (pa ma : Addr) (pv mv : List V) (n : Nat) (bs : List (Int × Int)) (ms : List MD) (_ : vs = [.int (n : Int), .ref pa, .ref ma]) (_ : H pa = some (.lst pv)) (_ : Paired (PuV H) pv bs) (_ : H ma = some (.lst mv)) (_ : Paired (ModeV C H) mv ms) (_ : ThOk n bs ms) (_ : ∀ H', Same H H' -> Q (.bl true) H') : spIsSound C vs H Q E
noncomputable def thingF (n : Int) (p m : V) : List (Str × V) := [("many", .int n), ("kept_pushes", p), ("kept_modes", m)]
structure ThingAt (C CM : Addr) (H : Hp) (o : Addr) (n : Nat) (bs : List (Int × Int)) (ms : List MD) (pv mv : List V) (kp km : Addr) : Prop where
 ins : ∃ dx, H o = some (.ins C dx (thingF (n : Int) (.ref kp) (.ref km)))
 hp : H kp = some (.lst pv)
 hpv : Paired (PuV H) pv bs
 hm : H km = some (.lst mv)
 hmv : Paired (ModeV CM H) mv ms
theorem ThingAt.same {C CM : Addr} {H H' : Hp} {o : Addr} {n : Nat} {bs : List (Int × Int)} {ms : List MD} {pv mv : List V} {kp km : Addr} (s : Same H H') (h : ThingAt C CM H o n bs ms pv mv kp km) : ThingAt C CM H' o n bs ms pv mv kp km :=
 ⟨let ⟨dx, e⟩ := h.ins; ⟨dx, s _ _ e⟩, s _ _ h.hp, Paired.mapP h.hpv fun _ _ z => z.same s, s _ _ h.hm, Paired.mapP h.hmv fun _ _ z => z.same s⟩
inductive spThingInit (C CM : Addr) (vs : List V) (H : Hp) (Q : VK) (E : XK) : Prop
 | mk (o dx pa ma : Addr) (pv mv : List V) (n : Nat) (bs : List (Int × Int)) (ms : List MD) (_ : vs = [.ref o, .int (n : Int), .ref pa, .ref ma]) (_ : H o = some (.ins C dx [])) (_ : H pa = some (.lst pv)) (_ : Paired (PuV H) pv bs) (_ : H ma = some (.lst mv)) (_ : Paired (ModeV CM H) mv ms) (_ : ThOk n bs ms) (_ : ∀ (kp km : Addr) (H' : Hp), SameB o H H' -> H kp = none -> H km = none -> kp ≠ km -> H' o = some (.ins C dx (thingF (n : Int) (.ref kp) (.ref km))) -> H' kp = some (.lst pv) -> H' km = some (.lst mv) -> Q .non H') : spThingInit C CM vs H Q E
inductive spPushes (C CM : Addr) (vs : List V) (H : Hp) (Q : VK) (E : XK) : Prop
 | mk (o kp km : Addr) (n : Nat) (bs : List (Int × Int)) (ms : List MD) (pv mv : List V) (_ : vs = [.ref o]) (_ : ThingAt C CM H o n bs ms pv mv kp km) (_ : ∀ l H', Same H H' -> H l = none -> H' l = some (.lst pv) -> Q (.ref l) H') : spPushes C CM vs H Q E
inductive spModes (C CM : Addr) (vs : List V) (H : Hp) (Q : VK) (E : XK) : Prop
 | mk (o kp km : Addr) (n : Nat) (bs : List (Int × Int)) (ms : List MD) (pv mv : List V) (_ : vs = [.ref o]) (_ : ThingAt C CM H o n bs ms pv mv kp km) (_ : ∀ l H', Same H H' -> H l = none -> H' l = some (.lst mv) -> Q (.ref l) H') : spModes C CM vs H Q E
inductive spUnsteered (C : Addr) (vs : List V) (H : Hp) (Q : VK) (E : XK) : Prop
 | mk (v : V) (m : MD) (_ : vs = [v]) (_ : ModeV C H v m) (_ : m.steer.length <= 900) (_ : ∀ H', Same H H' -> Q (.bl (m.steer.all (fun x => decide (x = 0)))) H') : spUnsteered C vs H Q E
inductive spClosed (C CM : Addr) (vs : List V) (H : Hp) (Q : VK) (E : XK) : Prop
 | mk (o kp km : Addr) (n : Nat) (bs : List (Int × Int)) (ms : List MD) (pv mv : List V) (_ : vs = [.ref o]) (_ : ThingAt C CM H o n bs ms pv mv kp km) (_ : ThOk n bs ms) (_ : ∀ H', Same H H' -> Q (.bl (ms.all fun m => m.steer.all (fun x => decide (x = 0)))) H') : spClosed C CM vs H Q E
theorem dec_intS (a b : Int) : decide (V.int a = V.int b) = decide (a = b) := by
 by_cases h : a = b
 ·rw [h, decide_eq_true rfl, decide_eq_true rfl]
 ·rw [decide_eq_false h, decide_eq_false fun z => h (by injection z)]
theorem kit_self {K : PySem.W.Frag} {C : Addr} : PySem.W.kitOne K (.ref C) (.ref C) = some true := by
 unfold PySem.W.kitOne
 rw [if_pos (by simp)]
theorem all_true : ∀ n : Nat, (List.replicate n true).all id = true
 | 0 => rfl
 | n + 1 => by rw [List.replicate_succ, List.all_cons, all_true n]; rfl
theorem keepB {o : Addr} {H H' : Hp} {C dx : Addr} {fs : List (Str × V)} (ho : H o = some (.ins C dx fs)) (s : SameB o H H') {a : Addr} {u : HO} (h : H a = some u) (hu : u ≠ .ins C dx fs) : H' a = some u :=
 s _ _ h fun e => hu (by rw [e, ho] at h; exact (Option.some.inj h).symm)
theorem freeB {o : Addr} {H H' : Hp} (s : SameB o H H') {x : HO} (ho : H' o = some x) {l : Addr} (h : H' l = none) : H l = none := by
 cases e : H l with
 | none => rfl
 | some u =>
  have n : l ≠ o := fun z => by rw [z, ho] at h; cases h
  rw [s _ _ e n] at h
  cases h
theorem WaysV.keepB {o : Addr} {H H' : Hp} {C dx : Addr} {fs : List (Str × V)} (ho : H o = some (.ins C dx fs)) (s : SameB o H H') {vs : List V} {rows : List (List Int)} (h : WaysV H vs rows) : WaysV H' vs rows :=
 Paired.mapP h fun _ _ ⟨a, e, q⟩ => ⟨a, e, Sh.keepB ho s q fun z => by cases z⟩
theorem TabV.keepB {o : Addr} {H H' : Hp} {C dx : Addr} {fs : List (Str × V)} (ho : H o = some (.ins C dx fs)) (s : SameB o H H') {vs : List V} {tab : List (List Int)} (h : TabV H vs tab) : TabV H' vs tab :=
 Paired.mapP h fun _ _ ⟨a, e, q⟩ => ⟨a, e, Sh.keepB ho s q fun z => by cases z⟩
theorem NewL.tab {H0 H : Hp} {vs : List V} {tab : List (List Int)} (h : Paired (NewL H0 H) vs tab) : TabV H vs tab := Paired.mapP h fun _ _ ⟨a, e, _, q⟩ => ⟨a, e, q⟩
theorem mode_put (r n s p a : V) (d : Int) : putF "divisor" (.int d) (putF "add" a (putF "push" p (putF "steer" s (putF "nexts" n (putF "rows" r []))))) = modeF r n s p a d := rfl
end Sh


namespace Sh
open PySem L2
noncomputable def off (B : List Addr) (H H' : Hp) : Prop := ∀ b o, H b = some o -> b ∉ B -> H' b = some o
theorem off.refl (B : List Addr) (H : Hp) : off B H H := fun _ _ e _ => e
theorem off.put {B : List Addr} {H H' : Hp} {x : Addr} (o : HO) (h : off B H H') (hx : x ∈ B) : off B H (upd H' x o) := fun b u e nb => by
 rw [upd_ne (fun e' => by rw [e'] at nb; exact nb hx)]
 exact h b u e nb
theorem off.new {B : List Addr} {H H' : Hp} {x : Addr} (o : HO) (h : off B H H') (hx : H' x = none) : off B H (upd H' x o) := fun b u e nb => by
 have z := h b u e nb
 rw [upd_ne (fun e' => by rw [e', hx] at z; cases z)]
 exact z
theorem off.trans {B : List Addr} {H H1 H2 : Hp} (a : off B H H1) (b : off B H1 H2) : off B H H2 := fun c o e n => b c o (a c o e n) n
theorem off.same {B : List Addr} {H H1 H2 : Hp} (a : off B H H1) (b : Same H1 H2) : off B H H2 := fun c o e n => b c o (a c o e n)
theorem off.of {B : List Addr} {H H1 : Hp} (s : Same H H1) : off B H H1 := fun c o e _ => s c o e
theorem off.cut {A B : List Addr} {H H1 : Hp} (h1 : off A H H1) (h : ∀ x ∈ A, x ∉ B -> H x = none) : off B H H1 := fun b o e n => h1 _ _ e fun z => by
 rw [h b z n] at e
 cases e
theorem off.free {B : List Addr} {H H' : Hp} (s : off B H H') {l : Addr} (h : H' l = none) (n : l ∉ B) : H l = none := by
 cases e : H l with
 | none => rfl
 | some u => rw [s _ _ e n] at h; cases h
noncomputable def hide (B : List Addr) (H : Hp) : Hp := fun b => if b ∈ B then none else H b
theorem hide_sub {B : List Addr} {H : Hp} : Same (hide B H) H := fun b o h => by
 unfold hide at h
 by_cases e : b ∈ B
 ·rw [if_pos e] at h; cases h
 ·rw [if_neg e] at h; exact h
theorem hide_at {B : List Addr} {H : Hp} {b : Addr} (e : b ∉ B) : hide B H b = H b := by unfold hide; rw [if_neg e]
theorem hide_in {B : List Addr} {H : Hp} {b : Addr} (e : b ∈ B) : hide B H b = none := by unfold hide; rw [if_pos e]
theorem hide_mem {B : List Addr} {H : Hp} {b : Addr} {o : HO} (h : hide B H b = some o) : b ∉ B := fun e => by rw [hide_in e] at h; cases h
theorem hide_off {B : List Addr} {H H' : Hp} (s : off B H H') : Same (hide B H) (hide B H') := fun b o h => by
 have e := hide_mem h
 rw [hide_at e] at h |-
 exact s _ _ h e
theorem hide_same {B : List Addr} {H H' : Hp} (s : Same H H') : Same (hide B H) (hide B H') := hide_off fun b o h _ => s _ _ h
theorem hide_fresh {B : List Addr} {H H' : Hp} (f : ∀ x ∈ B, H x = none) (s : Same H H') : Same H (hide B H') := fun b o h => by
 rw [hide_at (fun e => by rw [f b e] at h; cases h)]
 exact s _ _ h
theorem same_but {H H1 H2 : Hp} {x : Addr} (s : Same H H1) (b : SameB x H1 H2) (n : H x = none) : Same H H2 := fun c o e => b _ _ (s _ _ e) (ne_of_none e n)
theorem same_make {H : Hp} {x dx : Addr} (hx : H x = none) (hdx : H dx = none) (ne : dx ≠ x) (u o : HO) : Same H (upd (upd H dx u) x o) :=
 (same_new hdx _).trans (same_new ((upd_ne (Ne.symm ne)).trans hx) _)
end Sh
namespace L2
open PySem PySem.Spec PyProof.Rows
section
variable {X : Cx} {e : Expr}
end
theorem FnOk.no {P : Program} {w : World} {K : PySem.W.Frag} {mg : Str -> Option Value} {base : Heap} {CX : CXT} {k : Nat} {f : Addr} {fd : FuncData} {ps : List Str} {sp : Sp} (hn : ∀ vs H Q E, ¬ sp vs H Q E) : FnOk P w K mg base CX k f fd ps sp :=
 ⟨fun _ _ _ _ h => (hn _ _ _ _ h).elim, fun _ _ _ _ _ _ _ _ _ _ _ _ _ h => (hn _ _ _ _ h).elim⟩
end L2

namespace Sh
inductive RT where
 | str (ns : List Int) (a d : Int)
 | stp (t : RT) (lo hi : Int)
 | prt (row : List Int) (x y : RT)
noncomputable def RT.dep : RT -> Nat
 | .str _ _ _ => 1
 | .stp t _ _ => t.dep + 1
 | .prt _ x y => max x.dep y.dep + 1
theorem RT.dep_pos (t : RT) : 1 <= t.dep := by cases t <;> simp [RT.dep]
noncomputable def RT.rows : RT -> List (List Int)
 | .str _ _ _ => []
 | .stp t _ _ => t.rows
 | .prt r x y => [r] ++ x.rows ++ y.rows
end Sh


namespace Sh
open PySem L2
noncomputable def TrOk (n : Nat) : RT -> Prop
 | .str ns a d => ns.length = n /\ (∀ x ∈ ns, Bd 300 x) /\ Bd 300 a /\ 0 < d /\ Bd 300 d
 | .stp t lo hi => TrOk n t /\ Bd 300 lo /\ Bd 300 hi
 | .prt r x y => (r.length = n + 1 /\ ∀ z ∈ r, Bd 300 z) /\ TrOk n x /\ TrOk n y
noncomputable def strF (l : V) (a d : Int) : List (Str × V) := [("numbers", l), ("add", .int a), ("divisor", .int d)]
noncomputable def stpF (u : V) (lo hi : Int) : List (Str × V) := [("rule", u), ("low", .int lo), ("high", .int hi)]
noncomputable def prtF (r u w : V) : List (Str × V) := [("row", r), ("rule", u), ("other", w)]
noncomputable def RuleV (C1 C2 C3 : Addr) (H : Hp) : V -> RT -> Prop
 | v, .str ns a d => ∃ o dx la, v = .ref o /\ H o = some (.ins C1 dx (strF (.ref la) a d)) /\ H la = some (.lst (ns.map V.int))
 | v, .stp t lo hi => ∃ o dx u, v = .ref o /\ H o = some (.ins C2 dx (stpF u lo hi)) /\ RuleV C1 C2 C3 H u t
 | v, .prt r x y => ∃ o dx ra u w, v = .ref o /\ H o = some (.ins C3 dx (prtF (.ref ra) u w)) /\ H ra = some (.tup (r.map V.int)) /\ RuleV C1 C2 C3 H u x /\ RuleV C1 C2 C3 H w y
theorem RuleV.same {C1 C2 C3 : Addr} {H H' : Hp} (s : Same H H') : ∀ {t : RT} {v : V}, RuleV C1 C2 C3 H v t -> RuleV C1 C2 C3 H' v t
 | .str .., _, ⟨o, dx, la, e, h1, h2⟩ => ⟨o, dx, la, e, s _ _ h1, s _ _ h2⟩
 | .stp .., _, ⟨o, dx, u, e, h1, h2⟩ => ⟨o, dx, u, e, s _ _ h1, RuleV.same s h2⟩
 | .prt .., _, ⟨o, dx, ra, u, w, e, h1, h2, h3, h4⟩ => ⟨o, dx, ra, u, w, e, s _ _ h1, s _ _ h2, RuleV.same s h3, RuleV.same s h4⟩
noncomputable def TreeV (H : Hp) : V -> RT -> Prop
 | v, .str ns a d => ∃ o la, v = .ref o /\ H o = some (.tup [.str "straight", .ref la, .int a, .int d]) /\ H la = some (.lst (ns.map V.int))
 | v, .stp t lo hi => ∃ o u, v = .ref o /\ H o = some (.tup [.str "stopped", u, .int lo, .int hi]) /\ TreeV H u t
 | v, .prt r x y => ∃ o ra u w, v = .ref o /\ H o = some (.tup [.str "parted", .ref ra, u, w]) /\ H ra = some (.tup (r.map V.int)) /\ TreeV H u x /\ TreeV H w y
theorem TreeV.same {H H' : Hp} (s : Same H H') : ∀ {t : RT} {v : V}, TreeV H v t -> TreeV H' v t
 | .str .., _, ⟨o, la, e, h1, h2⟩ => ⟨o, la, e, s _ _ h1, s _ _ h2⟩
 | .stp .., _, ⟨o, u, e, h1, h2⟩ => ⟨o, u, e, s _ _ h1, TreeV.same s h2⟩
 | .prt .., _, ⟨o, ra, u, w, e, h1, h2, h3, h4⟩ => ⟨o, ra, u, w, e, s _ _ h1, s _ _ h2, TreeV.same s h3, TreeV.same s h4⟩
noncomputable def isStp : RT -> Bool | .stp .. => true | _ => false
noncomputable def isPrt : RT -> Bool | .prt .. => true | _ => false
theorem TrOk.row {n : Nat} {r : List Int} (h : r.length = n + 1 /\ ∀ z ∈ r, Bd 300 z) : RowOk r n := ⟨h.1, fun x hx => (h.2 x hx).mono (by decide)⟩
theorem TrOk.rows {n : Nat} : ∀ {t : RT}, TrOk n t -> ∀ r ∈ t.rows, r.length = n + 1 /\ ∀ z ∈ r, Bd 300 z
 | .str .., _ => fun r hr => by cases hr
 | .stp .., h => fun r hr => TrOk.rows h.1 r hr
 | .prt q x y, h => fun r hr => by
  rcases List.mem_append.mp hr with hr | hr
  ·rcases List.mem_append.mp hr with hr | hr
   ·rw [List.mem_singleton.mp hr]; exact h.1
   ·exact TrOk.rows h.2.1 r hr
  ·exact TrOk.rows h.2.2 r hr
inductive spStraightInit (C : Addr) (vs : List V) (H : Hp) (Q : VK) (E : XK) : Prop
 | mk (o dx la : Addr) (ns : List Int) (a d : Int) (_ : vs = [.ref o, .ref la, .int a, .int d]) (_ : H o = some (.ins C dx [])) (_ : H la = some (.lst (ns.map V.int))) (_ : ns.length <= 900) (_ : ∀ l H', SameB o H H' -> H l = none -> H' o = some (.ins C dx (strF (.ref l) a d)) -> H' l = some (.lst (ns.map V.int)) -> Q .non H') : spStraightInit C vs H Q E
inductive spStoppedInit (C : Addr) (vs : List V) (H : Hp) (Q : VK) (E : XK) : Prop
 | mk (o dx : Addr) (u : V) (lo hi : Int) (_ : vs = [.ref o, u, .int lo, .int hi]) (_ : H o = some (.ins C dx [])) (_ : ∀ H', SameB o H H' -> H' o = some (.ins C dx (stpF u lo hi)) -> Q .non H') : spStoppedInit C vs H Q E
inductive spPartedInit (C : Addr) (vs : List V) (H : Hp) (Q : VK) (E : XK) : Prop
 | mk (o dx ra : Addr) (r : List Int) (u w : V) (_ : vs = [.ref o, .ref ra, u, w]) (_ : H o = some (.ins C dx [])) (_ : H ra = some (.tup (r.map V.int))) (_ : r.length <= 900) (_ : ∀ rb H', SameB o H H' -> H rb = none -> H' o = some (.ins C dx (prtF (.ref rb) u w)) -> H' rb = some (.tup (r.map V.int)) -> Q .non H') : spPartedInit C vs H Q E
noncomputable def NumsA (H : Hp) (a : Addr) : Prop := ∃ ns : List Int, H a = some (.lst (ns.map V.int)) /\ 1 <= ns.length
inductive spNum21 (vs : List V) (H : Hp) (Q : VK) (E : XK) : Prop
 | mk (x : Int) (_ : vs = [.int x]) (_ : Bd 200 x) (_ : ∀ y : Int, Bd 101 y -> Q (.int y) H) : spNum21 vs H Q E
end Sh
namespace Sh
open PySem L2
theorem isStp_ex : ∀ {t : RT}, isStp t = true -> ∃ u lo hi, t = .stp u lo hi
 | .stp u lo hi, _ => ⟨u, lo, hi, rfl⟩
 | .str .., h => by cases h
 | .prt .., h => by cases h
theorem isPrt_ex : ∀ {t : RT}, isPrt t = true -> ∃ r x y, t = .prt r x y
 | .prt r x y, _ => ⟨r, x, y, rfl⟩
 | .str .., h => by cases h
 | .stp .., h => by cases h
theorem str_put (l : V) (a d : Int) : putF "divisor" (.int d) (putF "add" (.int a) (putF "numbers" l [])) = strF l a d := rfl
theorem stp_put (u : V) (lo hi : Int) : putF "high" (.int hi) (putF "low" (.int lo) (putF "rule" u [])) = stpF u lo hi := rfl
theorem prt_put (r u w : V) : putF "other" w (putF "rule" u (putF "row" r [])) = prtF r u w := rfl
theorem cut_to (xs : List Int) {b : Nat} (hb : b <= xs.length) : cutV (xs.map V.int) none (some (b : Int)) = (xs.take b).map V.int := by
 have e2 : HT.sIx (xs.map V.int).length (xs.map V.int).length (some (b : Int)) = min b (xs.map V.int).length := HT.sIx_nat _ _ b
 unfold cutV
 rw [e2, HT.sIx_none, List.length_map, Nat.min_eq_left hb, <- List.map_drop, <- List.map_take]
 rfl
theorem cut_any (xs : List Int) (a b : Nat) : ∃ zs : List Int, cutV (xs.map V.int) (some (a : Int)) (some (b : Int)) = zs.map V.int /\ zs.length <= b - a := by
 have e1 : HT.sIx (xs.map V.int).length 0 (some (a : Int)) = min a (xs.map V.int).length := HT.sIx_nat _ 0 a
 have e2 : HT.sIx (xs.map V.int).length (xs.map V.int).length (some (b : Int)) = min b (xs.map V.int).length := HT.sIx_nat _ _ b
 unfold cutV
 rw [e1, e2, <- List.map_drop, <- List.map_take]
 refine ⟨_, rfl, ?_⟩
 rw [List.length_take, List.length_drop, List.length_map]
 omega
theorem swap_pick {v u : V} {g : Int} (g0 : 0 <= g) (g1 : g < 2) : ∃ x y, atI [v, u] g = some x /\ atI [u, v] g = some y /\ ((x = v /\ y = u) \/ (x = u /\ y = v)) := by
 rcases (show g = 0 \/ g = 1 by omega) with e | e
 ·rw [e]; exact ⟨v, u, rfl, rfl, .inl ⟨rfl, rfl⟩⟩
 ·rw [e]; exact ⟨u, v, rfl, rfl, .inr ⟨rfl, rfl⟩⟩
theorem bd45 {x : Int} (h : 0 <= x /\ x < 10 ^ 45) : Bd 150 x := by
 have : (10 : Int) ^ 45 < 2 ^ 150 := by decide
 show x.natAbs < 2 ^ 150
 omega
noncomputable def puT (b : Int × Int) : PyData := .tuple [.int b.1, .int b.2]
theorem lay_pt : ∀ bs : List (Int × Int), PyData.canLayAll0 (bs.map puT) = true
 | [] => rfl
 | p :: t => by
  show (true && PyData.canLayAll0 (t.map puT)) = true
  rw [lay_pt t]
  rfl
theorem dep_pt : ∀ bs : List (Int × Int), PyData.depthAll (bs.map puT) <= 1
 | [] => Nat.zero_le _
 | p :: t => by
  show max (max 0 (max 0 0) + 1) (PyData.depthAll (t.map puT)) <= 1
  have := dep_pt t
  omega
theorem dep_pts (bs : List (Int × Int)) : PyData.depth (.list (bs.map puT)) <= 60 := by
 show PyData.depthAll (bs.map puT) + 1 <= 60
 have := dep_pt bs
 omega
theorem NumsA.put {H : Hp} {b : Addr} {ns : List Int} (hn : 1 <= ns.length) {a : Addr} (h : NumsA H a) : NumsA (upd H b (.lst (ns.map V.int))) a := by
 by_cases e : a = b
 ·rw [e]; exact ⟨ns, upd_same, hn⟩
 ·obtain ⟨ms, h1, h2⟩ := h
  exact ⟨ms, (upd_ne e).trans h1, h2⟩
end Sh


namespace L2
open PySem PySem.Spec PyProof.Rows Sh
theorem hide_it {α : Sort _} {p : α -> Prop} {a : α} (h : p a) : ∃ b, b = a /\ p b := ⟨a, rfl, h⟩
section
variable {X : Cx}
end
end L2

namespace Sh
structure LF where
 ns : List Int
 a : Int
 d : Int
noncomputable abbrev PC := List (List Int) × LF
noncomputable def negR (r : List Int) : List Int := r.map fun x => -x
noncomputable def stopR (l : LF) (s : Int) : List Int := l.ns ++ [l.d * s - l.a]
noncomputable def flatL (l : LF) (s : Int) : LF := ⟨l.ns.map fun _ => 0, s, 1⟩
noncomputable def stopP (lo hi : Int) (p : PC) : List PC := [(p.1 ++ [stopR p.2 lo], flatL p.2 lo), (p.1 ++ [negR (stopR p.2 lo), stopR p.2 hi], p.2), (p.1 ++ [negR (stopR p.2 hi)], flatL p.2 hi)]
noncomputable def piecesM : RT -> List PC
 | .str ns a d => [([], ⟨ns, a, d⟩)]
 | .stp t lo hi => (piecesM t).flatMap (stopP lo hi)
 | .prt r x y => (piecesM x).map (fun p => ([r] ++ p.1, p.2)) ++ (piecesM y).map (fun p => ([negR r] ++ p.1, p.2))
noncomputable def countM : RT -> Nat
 | .str .. => 1
 | .stp t .. => 3 * countM t
 | .prt _ x y => countM x + countM y
theorem flat3 {α β : Type} (f : α -> List β) (h : ∀ x, (f x).length = 3) : ∀ l : List α, (l.flatMap f).length = 3 * l.length
 | [] => rfl
 | x :: t => by
  rw [List.flatMap_cons, List.length_append, h x, flat3 f h t, List.length_cons]
  omega
theorem pieces_len : ∀ t : RT, (piecesM t).length = countM t
 | .str .. => rfl
 | .stp t lo hi => by
  show ((piecesM t).flatMap (stopP lo hi)).length = 3 * countM t
  rw [flat3 _ (fun _ => rfl), pieces_len t]
 | .prt r x y => by
  show ((piecesM x).map _ ++ (piecesM y).map _).length = _
  rw [List.length_append, List.length_map, List.length_map, pieces_len x, pieces_len y]
  rfl
noncomputable def ShOk (n : Nat) : RT -> Prop
 | .str ns _ d => ns.length = n /\ 0 < d
 | .stp t lo hi => ShOk n t /\ lo <= hi
 | .prt r x y => r.length = n + 1 /\ ShOk n x /\ ShOk n y
structure PcOk (n : Nat) (p : PC) : Prop where
 rows : ∀ r ∈ p.1, r.length = n + 1
 len : p.2.ns.length = n
 d0 : 0 < p.2.d
theorem neg_len (r : List Int) : (negR r).length = r.length := List.length_map _
theorem stopR_len {l : LF} {n : Nat} (h : l.ns.length = n) (s : Int) : (stopR l s).length = n + 1 := by
 unfold stopR
 rw [List.length_append, h]
 rfl
theorem pieces_ok {n : Nat} : ∀ {t : RT}, ShOk n t -> ∀ p ∈ piecesM t, PcOk n p
 | .str ns a d, h => fun p hp => by
  rw [List.mem_singleton.mp hp]
  exact ⟨fun r hr => (by cases hr), h.1, h.2⟩
 | .stp t lo hi, h => fun p hp => by
  obtain ⟨q, hq, hp⟩ := List.mem_flatMap.mp hp
  have ih := pieces_ok h.1 q hq
  simp only [stopP, List.mem_cons, List.not_mem_nil, or_false] at hp
  have fl : ∀ s, (flatL q.2 s).ns.length = n := fun s => (List.length_map _).trans ih.len
  rcases hp with rfl | rfl | rfl
  ·refine ⟨fun r hr => ?_, fl _, by show (0 : Int) < 1; decide⟩
   rcases List.mem_append.mp hr with hr | hr
   ·exact ih.rows r hr
   ·rw [List.mem_singleton.mp hr]; exact stopR_len ih.len _
  ·refine ⟨fun r hr => ?_, ih.len, ih.d0⟩
   rcases List.mem_append.mp hr with hr | hr
   ·exact ih.rows r hr
   ·simp only [List.mem_cons, List.not_mem_nil, or_false] at hr
    rcases hr with rfl | rfl
    ·rw [neg_len]; exact stopR_len ih.len _
    ·exact stopR_len ih.len _
  ·refine ⟨fun r hr => ?_, fl _, by show (0 : Int) < 1; decide⟩
   rcases List.mem_append.mp hr with hr | hr
   ·exact ih.rows r hr
   ·rw [List.mem_singleton.mp hr, neg_len]; exact stopR_len ih.len _
 | .prt r x y, h => fun p hp => by
  rcases List.mem_append.mp hp with hp | hp
  ·obtain ⟨q, hq, rfl⟩ := List.mem_map.mp hp
   have ih := pieces_ok h.2.1 q hq
   refine ⟨fun r' hr => ?_, ih.len, ih.d0⟩
   rcases List.mem_append.mp hr with hr | hr
   ·rw [List.mem_singleton.mp hr]; exact h.1
   ·exact ih.rows r' hr
  ·obtain ⟨q, hq, rfl⟩ := List.mem_map.mp hp
   have ih := pieces_ok h.2.2 q hq
   refine ⟨fun r' hr => ?_, ih.len, ih.d0⟩
   rcases List.mem_append.mp hr with hr | hr
   ·rw [List.mem_singleton.mp hr, neg_len]; exact h.1
   ·exact ih.rows r' hr
section
variable {pts : List (Int × Int)} (hp : ∀ p ∈ pts, 0 < p.2)
include hp
end
end Sh


namespace Sh
open PySem L2
noncomputable def PcV (C : Addr) (H0 H : Hp) (v : V) (p : PC) : Prop := ∃ (t rl so dx la : Addr) (rv : List V), v = .ref t /\ H t = some (.tup [.ref rl, .ref so]) /\ H0 rl = none /\ H rl = some (.lst rv) /\ WaysV H rv p.1 /\ H so = some (.ins C dx (strF (.ref la) p.2.a p.2.d)) /\ H la = some (.lst (p.2.ns.map V.int))
theorem PcV.same {C : Addr} {H0 H H' : Hp} (s : Same H H') {v : V} {p : PC} (h : PcV C H0 H v p) : PcV C H0 H' v p :=
 let ⟨t, rl, so, dx, la, rv, e, h1, h2, h3, h4, h5, h6⟩ := h
 ⟨t, rl, so, dx, la, rv, e, s _ _ h1, h2, s _ _ h3, WaysV.same s h4, s _ _ h5, s _ _ h6⟩
theorem PcV.back {C : Addr} {H0 H1 H : Hp} (s : Same H0 H1) {v : V} {p : PC} (h : PcV C H1 H v p) : PcV C H0 H v p :=
 let ⟨t, rl, so, dx, la, rv, e, h1, h2, h3⟩ := h
 ⟨t, rl, so, dx, la, rv, e, h1, s.free h2, h3⟩
theorem hide_put {x : Addr} {H : Hp} (o : HO) : Same (hide [x] H) (hide [x] (upd H x o)) := hide_off ((off.refl [x] H).put o (List.mem_singleton.mpr rfl))
noncomputable def TrF : RT -> Prop
 | .str ns a d => (∀ x ∈ ns, Bd 101 x) /\ Bd 101 a /\ Bd 31 d
 | .stp t lo hi => TrF t /\ Bd 220 lo /\ Bd 220 hi
 | .prt r x y => (∀ z ∈ r, Bd 101 z) /\ TrF x /\ TrF y
theorem TrF.ok {n : Nat} : ∀ {t : RT}, TrF t -> ShOk n t -> TrOk n t
 | .str .., h, s => ⟨s.1, fun x hx => (h.1 x hx).mono (by decide), h.2.1.mono (by decide), s.2, h.2.2.mono (by decide)⟩
 | .stp .., h, s => ⟨TrF.ok h.1 s.1, h.2.1.mono (by decide), h.2.2.mono (by decide)⟩
 | .prt .., h, s => ⟨⟨s.1, fun x hx => (h.1 x hx).mono (by decide)⟩, TrF.ok h.2.1 s.2.1, TrF.ok h.2.2 s.2.2⟩
structure PcF (p : PC) : Prop where
 rows : ∀ r ∈ p.1, ∀ z ∈ r, Bd 300 z
 ns : ∀ x ∈ p.2.ns, Bd 101 x
 a : Bd 220 p.2.a
 d : Bd 31 p.2.d
theorem stopR_bd {p : PC} (h : PcF p) {s : Int} (hs : Bd 220 s) : ∀ z ∈ stopR p.2 s, Bd 300 z := fun z hz => by
 unfold stopR at hz
 rcases List.mem_append.mp hz with hz | hz
 ·exact (h.ns z hz).mono (by decide)
 ·rw [List.mem_singleton.mp hz]
  exact (((h.d.mul hs).mono (show 31 + 220 <= 251 by decide)).sub (h.a.mono (by decide))).mono (by decide)
theorem negR_bd {r : List Int} (h : ∀ z ∈ r, Bd 300 z) : ∀ z ∈ negR r, Bd 300 z := fun z hz => by
 obtain ⟨x, hx, e⟩ := List.mem_map.mp hz
 rw [<- e]
 exact (h x hx).neg
theorem flat_bd (l : LF) : ∀ x ∈ (l.ns.map fun _ => (0 : Int)), Bd 101 x := fun x hx => by
 obtain ⟨y, _, e⟩ := List.mem_map.mp hx
 rw [<- e]
 exact (show Bd 1 (0 : Int) from Bd.lit).mono (by decide)
theorem pieces_f : ∀ {t : RT}, TrF t -> ∀ p ∈ piecesM t, PcF p
 | .str ns a d, h => fun p hp => by
  rw [List.mem_singleton.mp hp]
  exact ⟨fun r hr => (by cases hr), h.1, h.2.1.mono (by decide), h.2.2⟩
 | .stp t lo hi, h => fun p hp => by
  obtain ⟨q, hq, hp⟩ := List.mem_flatMap.mp hp
  have ih := pieces_f h.1 q hq
  simp only [stopP, List.mem_cons, List.not_mem_nil, or_false] at hp
  have b1 : Bd 31 (1 : Int) := (show Bd 1 (1 : Int) from Bd.lit).mono (by decide)
  rcases hp with rfl | rfl | rfl
  ·refine ⟨fun r hr => ?_, flat_bd _, h.2.1, b1⟩
   rcases List.mem_append.mp hr with hr | hr
   ·exact ih.rows r hr
   ·rw [List.mem_singleton.mp hr]; exact stopR_bd ih h.2.1
  ·refine ⟨fun r hr => ?_, ih.ns, ih.a, ih.d⟩
   rcases List.mem_append.mp hr with hr | hr
   ·exact ih.rows r hr
   ·simp only [List.mem_cons, List.not_mem_nil, or_false] at hr
    rcases hr with rfl | rfl
    ·exact negR_bd (stopR_bd ih h.2.1)
    ·exact stopR_bd ih h.2.2
  ·refine ⟨fun r hr => ?_, flat_bd _, h.2.2, b1⟩
   rcases List.mem_append.mp hr with hr | hr
   ·exact ih.rows r hr
   ·rw [List.mem_singleton.mp hr]; exact negR_bd (stopR_bd ih h.2.2)
 | .prt r x y, h => fun p hp => by
  rcases List.mem_append.mp hp with hp | hp
  ·obtain ⟨q, hq, rfl⟩ := List.mem_map.mp hp
   have ih := pieces_f h.2.1 q hq
   refine ⟨fun r' hr => ?_, ih.ns, ih.a, ih.d⟩
   rcases List.mem_append.mp hr with hr | hr
   ·rw [List.mem_singleton.mp hr]; exact fun z hz => (h.1 z hz).mono (by decide)
   ·exact ih.rows r' hr
  ·obtain ⟨q, hq, rfl⟩ := List.mem_map.mp hp
   have ih := pieces_f h.2.2 q hq
   refine ⟨fun r' hr => ?_, ih.ns, ih.a, ih.d⟩
   rcases List.mem_append.mp hr with hr | hr
   ·rw [List.mem_singleton.mp hr]; exact negR_bd fun z hz => (h.1 z hz).mono (by decide)
   ·exact ih.rows r' hr
theorem rows_few : ∀ {t : RT}, ∀ p ∈ piecesM t, p.1.length <= 2 * t.dep
 | .str .., p, hp => by rw [List.mem_singleton.mp hp]; exact Nat.zero_le _
 | .stp t lo hi, p, hp => by
  obtain ⟨q, hq, hp⟩ := List.mem_flatMap.mp hp
  have ih := rows_few q hq
  show p.1.length <= 2 * (t.dep + 1)
  simp only [stopP, List.mem_cons, List.not_mem_nil, or_false] at hp
  rcases hp with rfl | rfl | rfl
  ·rw [List.length_append]; show q.1.length + 1 <= _; omega
  ·rw [List.length_append]; show q.1.length + 2 <= _; omega
  ·rw [List.length_append]; show q.1.length + 1 <= _; omega
 | .prt r x y, p, hp => by
  show p.1.length <= 2 * (max x.dep y.dep + 1)
  rcases List.mem_append.mp hp with hp | hp
  ·obtain ⟨q, hq, rfl⟩ := List.mem_map.mp hp
   have ih := rows_few q hq
   all_goals first | (rw [List.length_append]; show 1 + q.1.length <= _; omega) | omega
  ·obtain ⟨q, hq, rfl⟩ := List.mem_map.mp hp
   have ih := rows_few q hq
   all_goals first | (rw [List.length_append]; show 1 + q.1.length <= _; omega) | omega
theorem count_pos : ∀ t : RT, 1 <= countM t
 | .str .. => Nat.le_refl _
 | .stp t .. => by
  have := count_pos t
  show 1 <= 3 * countM t
  omega
 | .prt _ x y => by
  have := count_pos x
  show 1 <= countM x + countM y
  omega
theorem count_bd : ∀ t : RT, Bd (2 * t.dep + 1) (countM t : Int)
 | .str .. => (show Bd 1 (1 : Int) from Bd.lit).mono (by show 1 <= 2 * 1 + 1; decide)
 | .stp t lo hi => by
  have b3 : Bd 2 (3 : Int) := Bd.lit
  have := b3.mul (count_bd t)
  have e : ((countM (.stp t lo hi) : Nat) : Int) = 3 * (countM t : Int) := by show ((3 * countM t : Nat) : Int) = _; omega
  rw [e]
  exact this.mono (by show 2 + (2 * t.dep + 1) <= 2 * (t.dep + 1) + 1; omega)
 | .prt r x y => by
  have e : ((countM (.prt r x y) : Nat) : Int) = (countM x : Int) + (countM y : Int) := by show ((countM x + countM y : Nat) : Int) = _; omega
  rw [e]
  exact (((count_bd x).mono (show 2 * x.dep + 1 <= 2 * max x.dep y.dep + 1 by omega)).add ((count_bd y).mono (show 2 * y.dep + 1 <= 2 * max x.dep y.dep + 1 by omega))).mono (by show _ <= 2 * (max x.dep y.dep + 1) + 1; omega)
structure Kits (K : PySem.W.Frag) (C1 C2 C3 : Addr) : Prop where
 k21 : PySem.W.kitOne K (.ref C2) (.ref C1) = some false
 k31 : PySem.W.kitOne K (.ref C3) (.ref C1) = some false
 k12 : PySem.W.kitOne K (.ref C1) (.ref C2) = some false
 k32 : PySem.W.kitOne K (.ref C3) (.ref C2) = some false
 k13 : PySem.W.kitOne K (.ref C1) (.ref C3) = some false
inductive spOther (vs : List V) (H : Hp) (Q : VK) (E : XK) : Prop
 | mk (ra : Addr) (r : List Int) (_ : vs = [.ref ra]) (_ : H ra = some (.tup (r.map V.int))) (_ : r.length <= 900) (_ : ∀ t H', Same H H' -> H t = none -> H' t = some (.tup ((negR r).map V.int)) -> Q (.ref t) H') : spOther vs H Q E
inductive spIsStraight (C1 C2 C3 : Addr) (vs : List V) (H : Hp) (Q : VK) (E : XK) : Prop
 | mk (v : V) (n : Nat) (ns : List Int) (a d : Int) (_ : vs = [v, .int (n : Int)]) (_ : RuleV C1 C2 C3 H v (.str ns a d)) (_ : ns.length = n) (_ : n <= 900) (_ : 0 < d) (_ : ∀ H', Same H H' -> Q (.bl true) H') : spIsStraight C1 C2 C3 vs H Q E
inductive spStops (vs : List V) (H : Hp) (Q : VK) (E : XK) : Prop
 | mk (lo hi : Int) (_ : vs = [.int lo, .int hi]) (_ : lo <= hi) (_ : Q (.bl true) H) : spStops vs H Q E
inductive spIsRule (C1 C2 C3 : Addr) (d : Nat) (vs : List V) (H : Hp) (Q : VK) (E : XK) : Prop
 | mk (v : V) (n : Nat) (t : RT) (_ : vs = [v, .int (n : Int)]) (_ : t.dep <= d) (_ : RuleV C1 C2 C3 H v t) (_ : ShOk n t) (_ : n <= 800) (_ : ∀ H', Same H H' -> Q (.bl true) H') : spIsRule C1 C2 C3 d vs H Q E
theorem spIsRule_no {C1 C2 C3 : Addr} : ∀ vs H Q E, ¬ spIsRule C1 C2 C3 0 vs H Q E := by
 rintro _ _ _ _ ⟨_, _, t, _, h, _⟩
 have := t.dep_pos
 omega
inductive spCount (C1 C2 C3 : Addr) (d : Nat) (vs : List V) (H : Hp) (Q : VK) (E : XK) : Prop
 | mk (v : V) (t : RT) (_ : vs = [v]) (_ : t.dep <= d) (_ : t.dep <= 100) (_ : RuleV C1 C2 C3 H v t) (_ : Q (.int (countM t : Int)) H) : spCount C1 C2 C3 d vs H Q E
theorem spCount_no {C1 C2 C3 : Addr} : ∀ vs H Q E, ¬ spCount C1 C2 C3 0 vs H Q E := by
 rintro _ _ _ _ ⟨_, t, _, h, _⟩
 have := t.dep_pos
 omega
inductive spStopRow (C : Addr) (vs : List V) (H : Hp) (Q : VK) (E : XK) : Prop
 | mk (so dx la : Addr) (l : LF) (s : Int) (_ : vs = [.ref so, .int s]) (_ : H so = some (.ins C dx (strF (.ref la) l.a l.d))) (_ : H la = some (.lst (l.ns.map V.int))) (_ : 1 <= l.ns.length) (_ : l.ns.length <= 900) (_ : Bd 300 l.d) (_ : Bd 300 s) (_ : ∀ t H', Same H H' -> H' t = some (.tup ((stopR l s).map V.int)) -> Q (.ref t) H') : spStopRow C vs H Q E
inductive spListed (C1 C2 C3 : Addr) (kd : RT -> Bool) (d : Nat) (vs : List V) (H : Hp) (Q : VK) (E : XK) : Prop
 | mk (v : V) (n : Nat) (t : RT) (_ : vs = [v]) (_ : kd t = true) (_ : t.dep <= d) (_ : t.dep <= 100) (_ : RuleV C1 C2 C3 H v t) (_ : ShOk n t) (_ : 1 <= n) (_ : n <= 800) (_ : TrF t) (_ : countM t <= 60) (_ : ∀ l lv H', Same H H' -> H l = none -> H' l = some (.lst lv) -> Paired (PcV C1 H H') lv (piecesM t) -> Q (.ref l) H') : spListed C1 C2 C3 kd d vs H Q E
theorem spListed_no {C1 C2 C3 : Addr} {kd : RT -> Bool} : ∀ vs H Q E, ¬ spListed C1 C2 C3 kd 0 vs H Q E := by
 rintro _ _ _ _ ⟨_, _, t, _, _, h, _⟩
 have := t.dep_pos
 omega
noncomputable def anyK : RT -> Bool := fun _ => true
inductive spPieces (C1 C2 C3 : Addr) (d : Nat) (vs : List V) (H : Hp) (Q : VK) (E : XK) : Prop
 | mk (v : V) (n : Nat) (t : RT) (_ : vs = [v, .int (n : Int)]) (_ : t.dep <= d) (_ : t.dep <= 100) (_ : RuleV C1 C2 C3 H v t) (_ : ShOk n t) (_ : 1 <= n) (_ : n <= 800) (_ : TrF t) (_ : countM t <= 60) (_ : ∀ l lv H', Same H H' -> H l = none -> H' l = some (.lst lv) -> Paired (PcV C1 H H') lv (piecesM t) -> Q (.ref l) H') : spPieces C1 C2 C3 d vs H Q E
theorem off_hide {B : List Addr} {H H' : Hp} (s : Same (hide B H) (hide B H')) : off B H H' := fun b o e n => by
 have := s b o ((hide_at n).trans e)
 rw [hide_at n] at this
 exact this
theorem PcV.hid {C tl : Addr} {H1 H2 : Hp} {o : HO} (h1 : H1 tl = some o) (h2 : H2 tl = some (.lst [])) {v : V} {p : PC} (hn : 1 <= p.2.ns.length) (h : PcV C H1 H2 v p) : PcV C H1 (hide [tl] H2) v p := by
 obtain ⟨t, rl, so, dx, la, rv, e, a1, a2, a3, a4, a5, a6⟩ := h
 have ne : ∀ {b : Addr} {u : HO}, H2 b = some u -> u ≠ .lst [] -> hide [tl] H2 b = some u := fun hb hu => by
  rw [hide_at (fun z => by rw [List.mem_singleton.mp z, h2] at hb; exact hu (Option.some.inj hb).symm)]
  exact hb
 refine ⟨t, rl, so, dx, la, rv, e, ne a1 (fun z => by cases z), a2, ?_, Paired.mapP a4 fun _ _ ⟨b, e, q⟩ => ⟨b, e, ne q (fun z => by cases z)⟩, ne a5 (fun z => by cases z), ne a6 (fun z => ?_)⟩
 ·rw [hide_at (fun z => by rw [List.mem_singleton.mp z, h1] at a2; cases a2)]
  exact a3
 ·cases e : p.2.ns with
  | nil => rw [e] at hn; cases hn
  | cons x t => rw [e] at z; cases z
theorem zeros_eq (ns : List Int) : (List.replicate ns.length (0 : Int)) = ns.map fun _ => 0 := by
 induction ns with
 | nil => rfl
 | cons x t ih => rw [List.length_cons, List.replicate_succ, ih]; rfl
theorem flat_snoc {α β : Type} (f : α -> List β) {l : List α} {i : Nat} {x : α} (h : l[i]? = some x) : (l.take (i + 1)).flatMap f = (l.take i).flatMap f ++ f x := by
 rw [take_snoc h, List.flatMap_append, List.flatMap_singleton]
end Sh
namespace Sh
open PySem L2
theorem Paired.mapM {α β : Type} {F G : α -> β -> Prop} : ∀ {xs : List α} {ys : List β}, Paired F xs ys -> (∀ (i : Nat) a b, xs[i]? = some a -> ys[i]? = some b -> F a b -> G a b) -> Paired G xs ys
 | _, _, .nil, _ => .nil
 | _, _, .cons h t, f => .cons (f 0 _ _ rfl rfl h) (Paired.mapM t fun i a b ha hb z => f (i + 1) a b ha hb z)
end Sh

namespace K32
open PySem L2 Sh
noncomputable def top (i : Nat) : Stmt := PySem.Challenge.pw_steadyhand_k32_modes_of_steered_things.main.body.getD i (.Pass ⟨0, 0, 0, 0⟩)
structure Bl (mg : Str -> Option Value) : Prop where
 isinstance_ : mg "isinstance" = none
 int_ : mg "int" = none
 bool_ : mg "bool" = none
 tuple_ : mg "tuple" = none
 len_ : mg "len" = none
 all_ : mg "all" = none
 list_ : mg "list" = none
 range_ : mg "range" = none
 zip_ : mg "zip" = none
 MOST_PIECES_ : ∃ t, mg "MOST_PIECES" = some (.int 60 t)
 MOST_NUMBERS_ : ∃ t, mg "MOST_NUMBERS" = some (.int 3 t)
 MOST_PUSHES_ : ∃ t, mg "MOST_PUSHES" = some (.int 6 t)
 MOST_MODES_ : ∃ t, mg "MOST_MODES" = some (.int 40 t)
structure AtStraight (K : PySem.W.Frag) (C : Addr) : Prop where
 n_numbers : NoAttr K C "numbers"
 n_add : NoAttr K C "add"
 n_divisor : NoAttr K C "divisor"
structure AtStopped (K : PySem.W.Frag) (C : Addr) : Prop where
 n_rule : NoAttr K C "rule"
 n_low : NoAttr K C "low"
 n_high : NoAttr K C "high"
structure AtParted (K : PySem.W.Frag) (C : Addr) : Prop where
 n_row : NoAttr K C "row"
 n_rule : NoAttr K C "rule"
 n_other : NoAttr K C "other"
structure AtMode (K : PySem.W.Frag) (C : Addr) : Prop where
 n_rows : NoAttr K C "rows"
 n_nexts : NoAttr K C "nexts"
 n_steer : NoAttr K C "steer"
 n_push : NoAttr K C "push"
 n_add : NoAttr K C "add"
 n_divisor : NoAttr K C "divisor"
structure AtThing (K : PySem.W.Frag) (C : Addr) : Prop where
 n_many : NoAttr K C "many"
 n_kept_pushes : NoAttr K C "kept_pushes"
 n_kept_modes : NoAttr K C "kept_modes"
section
variable {P : Program} {w : World} {K : PySem.W.Frag} {mg : Str -> Option Value} {base : Heap}
noncomputable abbrev s_is_whole : Stmt := top 8
theorem sc_is_whole : FnScope ["thing"] ["thing"] (defScope s_is_whole) := ⟨rfl, rfl, rfl, by decide +kernel, rfl, by decide +kernel, by decide +kernel⟩
noncomputable abbrev s_copied : Stmt := top 15
theorem sc_copied : FnScope ["value", "depth"] ["value", "depth"] (defScope s_copied) := ⟨rfl, rfl, rfl, by decide +kernel, rfl, by decide +kernel, by decide +kernel⟩
noncomputable abbrev s_is_numbers : Stmt := top 13
theorem sc_is_numbers : FnScope ["value", "count"] ["value", "count"] (defScope s_is_numbers) := ⟨rfl, rfl, rfl, by decide +kernel, rfl, by decide +kernel, by decide +kernel⟩
noncomputable abbrev s_is_table : Stmt := top 14
theorem sc_is_table : FnScope ["value", "tall", "wide"] ["value", "tall", "wide"] (defScope s_is_table) := ⟨rfl, rfl, rfl, by decide +kernel, rfl, by decide +kernel, by decide +kernel⟩
noncomputable abbrev s_is_row : Stmt := top 19
theorem sc_is_row : FnScope ["value", "many"] ["value", "many"] (defScope s_is_row) := ⟨rfl, rfl, rfl, by decide +kernel, rfl, by decide +kernel, by decide +kernel⟩
noncomputable abbrev s_is_room : Stmt := top 20
theorem sc_is_room : FnScope ["value", "many"] ["value", "many"] (defScope s_is_room) := ⟨rfl, rfl, rfl, by decide +kernel, rfl, by decide +kernel, by decide +kernel⟩
noncomputable abbrev s_is_push : Stmt := top 47
theorem sc_is_push : FnScope ["value"] ["value"] (defScope s_is_push) := ⟨rfl, rfl, rfl, by decide +kernel, rfl, by decide +kernel, by decide +kernel⟩
noncomputable abbrev s_Mode___init__ : Stmt := inClass (top 44) 0
theorem sc_Mode___init__ : FnScope ["self", "rows", "nexts", "steer", "push", "add", "divisor"] ["self", "rows", "nexts", "steer", "push", "add", "divisor"] (defScope s_Mode___init__) := ⟨rfl, rfl, rfl, by decide +kernel, rfl, by decide +kernel, by decide +kernel⟩
noncomputable abbrev s_is_mode : Stmt := top 48
theorem sc_is_mode : FnScope ["value", "many", "wide"] ["value", "many", "wide"] (defScope s_is_mode) := ⟨rfl, rfl, rfl, by decide +kernel, rfl, by decide +kernel, by decide +kernel⟩
noncomputable abbrev s_is_sound : Stmt := top 46
theorem sc_is_sound : FnScope ["many", "pushes", "modes"] ["many", "pushes", "modes"] (defScope s_is_sound) := ⟨rfl, rfl, rfl, by decide +kernel, rfl, by decide +kernel, by decide +kernel⟩
noncomputable abbrev s_Thing___init__ : Stmt := inClass (top 45) 0
theorem sc_Thing___init__ : FnScope ["self", "many", "pushes", "modes"] ["self", "many", "pushes", "modes"] (defScope s_Thing___init__) := ⟨rfl, rfl, rfl, by decide +kernel, rfl, by decide +kernel, by decide +kernel⟩
noncomputable abbrev s_Thing_pushes : Stmt := inClass (top 45) 1
theorem sc_Thing_pushes : FnScope ["self"] ["self"] (defScope s_Thing_pushes) := ⟨rfl, rfl, rfl, by decide +kernel, rfl, by decide +kernel, by decide +kernel⟩
noncomputable abbrev s_Thing_modes : Stmt := inClass (top 45) 2
theorem sc_Thing_modes : FnScope ["self"] ["self"] (defScope s_Thing_modes) := ⟨rfl, rfl, rfl, by decide +kernel, rfl, by decide +kernel, by decide +kernel⟩
noncomputable abbrev s_is_unsteered : Stmt := top 49
theorem sc_is_unsteered : FnScope ["mode"] ["mode"] (defScope s_is_unsteered) := ⟨rfl, rfl, rfl, by decide +kernel, rfl, by decide +kernel, by decide +kernel⟩
noncomputable abbrev s_Thing_is_closed : Stmt := inClass (top 45) 3
theorem sc_Thing_is_closed : FnScope ["self"] ["self"] (defScope s_Thing_is_closed) := ⟨rfl, rfl, rfl, by decide +kernel, rfl, by decide +kernel, by decide +kernel⟩
noncomputable abbrev s_Straight___init__ : Stmt := inClass (top 28) 0
theorem sc_Straight___init__ : FnScope ["self", "numbers", "add", "divisor"] ["self", "numbers", "add", "divisor"] (defScope s_Straight___init__) := ⟨rfl, rfl, rfl, by decide +kernel, rfl, by decide +kernel, by decide +kernel⟩
noncomputable abbrev s_Stopped___init__ : Stmt := inClass (top 29) 0
theorem sc_Stopped___init__ : FnScope ["self", "rule", "low", "high"] ["self", "rule", "low", "high"] (defScope s_Stopped___init__) := ⟨rfl, rfl, rfl, by decide +kernel, rfl, by decide +kernel, by decide +kernel⟩
noncomputable abbrev s_Parted___init__ : Stmt := inClass (top 30) 0
theorem sc_Parted___init__ : FnScope ["self", "row", "rule", "other"] ["self", "row", "rule", "other"] (defScope s_Parted___init__) := ⟨rfl, rfl, rfl, by decide +kernel, rfl, by decide +kernel, by decide +kernel⟩
variable {aStraight aStopped aParted aMode aThing : Addr} (TStraight : ClsF K mg "Straight" aStraight) (AStraight : AtStraight K aStraight) (TStopped : ClsF K mg "Stopped" aStopped) (AStopped : AtStopped K aStopped) (TParted : ClsF K mg "Parted" aParted) (AParted : AtParted K aParted) (TMode : ClsF K mg "Mode" aMode) (AMode : AtMode K aMode) (TThing : ClsF K mg "Thing" aThing) (AThing : AtThing K aThing) (Y : Kits K aStraight aStopped aParted)
include TStraight AStraight TStopped AStopped TParted AParted TMode AMode TThing AThing Y
theorem ok_is_whole {k : Nat} {f : Addr} {fd : FuncData} (F : Fun K "is_whole" "is_whole" s_is_whole f fd) (B : Bl mg) : FnOk P w K mg base CX0 (k + 1) f fd ["thing"] spIsWhole := by
 refine F.ok sc_is_whole (fun vs H Q E h => ?_) (fun cdv A outer s H vs Q E hr h => ?_)
 ·obtain ⟨i, rfl, _⟩ := h
  rfl
 obtain ⟨i, rfl, q⟩ := h
 refine ⟨_, (pss_one (ps_ret (pe_and (pe_callB jinst rfl B.isinstance_ boot_isinstance_ (pa_cons (L2.pvj 0) (pa_cons (pe_bltn (v := .ty "int") (u := .type "int") rfl B.int_ boot_int_ rfl) pa_nil))) (pe_one (pe_not (pe_callB jinst rfl B.isinstance_ boot_isinstance_ (pa_cons (L2.pvj 0) (pa_cons (pe_bltn (v := .ty "bool") (u := .type "bool") rfl B.bool_ boot_bool_ rfl) pa_nil)))))))), ?_⟩
 try dsimp only [cxOf, Cx.nox, Cx.wish]
 refine ⟨_, rfl, _, _, _, _, rfl, .int _, kit_int_int _, _, rfl, iteT ?_⟩
 exact ⟨_, rfl, _, _, _, _, rfl, .int _, kit_int_bool _, _, rfl, q⟩
theorem ok_copied_0 {k : Nat} {f : Addr} {fd : FuncData} {dv : Value} (F : FunD K "copied" "copied" s_copied f fd dv) (B : Bl mg) (c_copied : FnD P w K mg base "copied" ["value", "depth"] k spNone (.int 5)) : FnOk P w K mg base CX0 (k + 1) f fd ["value", "depth"] spC0 := by
 refine F.ok sc_copied (fun vs H Q E h => ?_) (fun cdv A outer s H vs Q E hr h => ?_)
 ·obtain ⟨i, d, rfl, _⟩ := h
  rfl
 refine ⟨_, (pss_cons (ps_if (pt_cmpR op_eq (L2.pvj 1) pe_int (nomark _)) (pss_one (ps_ret (L2.pvj 0))) pss_nil)
  (pss_cons (ps_if (pt_val (pe_callB jinst rfl B.isinstance_ boot_isinstance_ (pa_cons (L2.pvj 0) (pa_cons (pe_bltn (v := .ty "list") (u := .type "list") rfl B.list_ boot_list_ rfl) pa_nil)))) (pss_one (ps_ret (pe_comp (own := ["part"]) (caps := [(1, "depth")]) (blk_cap (S := defScope s_copied) (N := ["value", "depth"]) rfl (by decide +kernel) rfl ⟨_, rfl⟩ rfl (by decide +kernel) (by decide +kernel)) rfl (pi_list (L2.pvj 0)) (fun _ _ _ _ => pg_name (i := 0) (show (["part", "depth"] : List Str).Nodup by decide +kernel) rfl (Or.inl rfl)) (fun _ _ _ _ => (pe_callF c_copied.fn hr rfl (pa_cons (L2.pvj 0) (pa_cons (pe_op (ji0 op_sub) (L2.pvj 1) pe_int) pa_nil))))))) pss_nil)
  (pss_cons (ps_if (pt_val (pe_callB jinst rfl B.isinstance_ boot_isinstance_ (pa_cons (L2.pvj 0) (pa_cons (pe_bltn (v := .ty "tuple") (u := .type "tuple") rfl B.tuple_ boot_tuple_ rfl) pa_nil)))) (pss_one (ps_ret (pe_callTy jtup rfl B.tuple_ boot_tuple_ (pa_cons (pe_comp (own := ["part"]) (caps := [(1, "depth")]) (blk_cap (S := defScope s_copied) (N := ["value", "depth"]) rfl (by decide +kernel) rfl ⟨_, rfl⟩ rfl (by decide +kernel) (by decide +kernel)) rfl (pi_tup (L2.pvj 0)) (fun _ _ _ _ => pg_name (i := 0) (show (["part", "depth"] : List Str).Nodup by decide +kernel) rfl (Or.inl rfl)) (fun _ _ _ _ => (pe_callF c_copied.fn hr rfl (pa_cons (L2.pvj 0) (pa_cons (pe_op (ji0 op_sub) (L2.pvj 1) pe_int) pa_nil))))) pa_nil)))) pss_nil)
  (pss_one (ps_ret (L2.pvj 0)))))), ?_⟩
 try dsimp only [cxOf, Cx.nox, Cx.wish]
 obtain ⟨i, d, rfl, q⟩ := h
 refine ⟨_, rfl, rfl, _, rfl, ?_⟩
 by_cases d0 : d = 0
 ·exact iteB1 (dec_yes d0) ⟨_, rfl, q⟩
 refine iteB0 (dec_no d0) ?_
 refine ⟨_, rfl, _, _, _, _, rfl, .int i, kd_lst K .int, _, rfl, iteF ?_⟩
 refine ⟨_, rfl, _, _, _, _, rfl, .int i, kd_tup K .int, _, rfl, iteF ?_⟩
 exact ⟨_, rfl, q⟩
theorem ok_copied_1 {k : Nat} {f : Addr} {fd : FuncData} {dv : Value} (F : FunD K "copied" "copied" s_copied f fd dv) (B : Bl mg) (c_copied : FnD P w K mg base "copied" ["value", "depth"] k spC0 (.int 5)) : FnOk P w K mg base CX0 (k + 1) f fd ["value", "depth"] spC1 := by
 refine F.ok sc_copied (fun vs H Q E h => ?_) (fun cdv A outer s H vs Q E hr h => ?_)
 ·obtain ⟨i, d, rfl, _⟩ | ⟨a, ns, d, rfl, _⟩ | ⟨a, ns, d, rfl, _⟩ := h
  all_goals rfl
 refine ⟨_, (pss_cons (ps_if (pt_cmpR op_eq (L2.pvj 1) pe_int (nomark _)) (pss_one (ps_ret (L2.pvj 0))) pss_nil)
  (pss_cons (ps_if (pt_val (pe_callB jinst rfl B.isinstance_ boot_isinstance_ (pa_cons (L2.pvj 0) (pa_cons (pe_bltn (v := .ty "list") (u := .type "list") rfl B.list_ boot_list_ rfl) pa_nil)))) (pss_one (ps_ret (pe_comp (own := ["part"]) (caps := [(1, "depth")]) (blk_cap (S := defScope s_copied) (N := ["value", "depth"]) rfl (by decide +kernel) rfl ⟨_, rfl⟩ rfl (by decide +kernel) (by decide +kernel)) rfl (pi_list (L2.pvj 0)) (fun _ _ _ _ => pg_name (i := 0) (show (["part", "depth"] : List Str).Nodup by decide +kernel) rfl (Or.inl rfl)) (fun _ _ _ _ => (pe_callF c_copied.fn hr rfl (pa_cons (L2.pvj 0) (pa_cons (pe_op (ji0 op_sub) (L2.pvj 1) pe_int) pa_nil))))))) pss_nil)
  (pss_cons (ps_if (pt_val (pe_callB jinst rfl B.isinstance_ boot_isinstance_ (pa_cons (L2.pvj 0) (pa_cons (pe_bltn (v := .ty "tuple") (u := .type "tuple") rfl B.tuple_ boot_tuple_ rfl) pa_nil)))) (pss_one (ps_ret (pe_callTy jtup rfl B.tuple_ boot_tuple_ (pa_cons (pe_comp (own := ["part"]) (caps := [(1, "depth")]) (blk_cap (S := defScope s_copied) (N := ["value", "depth"]) rfl (by decide +kernel) rfl ⟨_, rfl⟩ rfl (by decide +kernel) (by decide +kernel)) rfl (pi_tup (L2.pvj 0)) (fun _ _ _ _ => pg_name (i := 0) (show (["part", "depth"] : List Str).Nodup by decide +kernel) rfl (Or.inl rfl)) (fun _ _ _ _ => (pe_callF c_copied.fn hr rfl (pa_cons (L2.pvj 0) (pa_cons (pe_op (ji0 op_sub) (L2.pvj 1) pe_int) pa_nil))))) pa_nil)))) pss_nil)
  (pss_one (ps_ret (L2.pvj 0)))))), ?_⟩
 try dsimp only [cxOf, Cx.nox, Cx.wish]
 rcases h with h | h | h
 ·obtain ⟨i, d, rfl, q⟩ := h
  refine ⟨_, rfl, rfl, _, rfl, ?_⟩
  by_cases d0 : d = 0
  ·exact iteB1 (dec_yes d0) ⟨_, rfl, q⟩
  refine iteB0 (dec_no d0) ?_
  refine ⟨_, rfl, _, _, _, _, rfl, .int i, kd_lst K .int, _, rfl, iteF ?_⟩
  refine ⟨_, rfl, _, _, _, _, rfl, .int i, kd_tup K .int, _, rfl, iteF ?_⟩
  exact ⟨_, rfl, q⟩
 ·obtain ⟨a, ns, d, rfl, d1, ha, few, q⟩ := h
  refine ⟨_, rfl, rfl, _, rfl, iteB0 (dec_no (by omega)) ?_⟩
  refine ⟨_, rfl, _, _, _, _, rfl, .lst ha, kit_list_list K, _, rfl, iteT ?_⟩
  refine ⟨_, rfl, a, rfl, ⟨_, SqL.of ha⟩, comp_list (K := K) (a := a) (xs := ns.map V.int) (fun i ys σ H' => ys = (ns.take i).map V.int /\ (∃ o, σ = [o, some (.int d)]) /\ H' = H)
   ⟨rfl, ⟨none, rfl⟩, rfl⟩ (fun i ys σ H' hi ⟨e1, _, e3⟩ => ⟨by rw [e3]; exact SqL.of ha, by rw [e1, List.length_map, List.length_take]; exact Nat.min_le_left _ _⟩) (by rw [List.length_map]; exact Nat.le_of_lt (small1000 (by omega))) ?_ ?_⟩
  ·rintro i x ys σ H' hi ⟨rfl, ⟨o, rfl⟩, rfl⟩
   obtain ⟨z, hz, rfl⟩ := ints_get hi
   refine ⟨_, rfl, _, rfl, _, _, rfl, rfl, ⟨z, d - 1, rfl, ?_, ⟨_, rfl⟩, rfl⟩⟩
   rw [take_snoc hz, List.map_append]
   rfl
  rintro ys σ H' ⟨rfl, ⟨o, rfl⟩, rfl⟩ l hl
  refine q l _ (same_new hl _) hl (upd_same.trans ?_)
  rw [List.length_map, List.take_length]
 ·obtain ⟨a, ns, d, rfl, d1, ha, few, q⟩ := h
  refine ⟨_, rfl, rfl, _, rfl, iteB0 (dec_no (by omega)) ?_⟩
  refine ⟨_, rfl, _, _, _, _, rfl, .tup ha, kd_lst K .tup, _, rfl, iteF ?_⟩
  refine ⟨_, rfl, _, _, _, _, rfl, .tup ha, kit_tuple_tuple K, _, rfl, iteT ?_⟩
  refine ⟨_, rfl, a, rfl, ⟨_, SqT.of ha⟩, comp_tup (K := K) (a := a) (xs := ns.map V.int) (fun i ys σ H' => ys = (ns.take i).map V.int /\ (∃ o, σ = [o, some (.int d)]) /\ H' = H)
   ⟨rfl, ⟨none, rfl⟩, rfl⟩ (fun i ys σ H' hi ⟨e1, _, e3⟩ => ⟨by rw [e3]; exact SqT.of ha, by rw [e1, List.length_map, List.length_take]; exact Nat.min_le_left _ _⟩) (by rw [List.length_map]; exact Nat.le_of_lt (small1000 (by omega))) ?_ ?_⟩
  ·rintro i x ys σ H' hi ⟨rfl, ⟨o, rfl⟩, rfl⟩
   obtain ⟨z, hz, rfl⟩ := ints_get hi
   refine ⟨_, rfl, _, rfl, _, _, rfl, rfl, ⟨z, d - 1, rfl, ?_, ⟨_, rfl⟩, rfl⟩⟩
   rw [take_snoc hz, List.map_append]
   rfl
  rintro ys σ H' ⟨rfl, ⟨o, rfl⟩, rfl⟩ l hl
  refine ⟨l, _, rfl, .inl ⟨SqL.of upd_same, fun t ht => ?_⟩⟩
  refine q t _ ((same_new hl _).trans (same_new ht _)) ((same_new hl _).free ht) (upd_same.trans ?_)
  rw [List.length_map, List.take_length]
theorem ok_copied_2 {k : Nat} {f : Addr} {fd : FuncData} {dv : Value} (F : FunD K "copied" "copied" s_copied f fd dv) (B : Bl mg) (c_copied : FnD P w K mg base "copied" ["value", "depth"] k spC1 (.int 5)) : FnOk P w K mg base CX0 (k + 1) f fd ["value", "depth"] spC2 := by
 refine F.ok sc_copied (fun vs H Q E h => ?_) (fun cdv A outer s H vs Q E hr h => ?_)
 ·obtain (⟨i, d, rfl, _⟩ | ⟨a, ns, d, rfl, _⟩ | ⟨a, ns, d, rfl, _⟩) | ⟨a, rv, rows, d, rfl, _⟩ | ⟨a, tv, tab, d, rfl, _⟩ := h
  all_goals rfl
 refine ⟨_, (pss_cons (ps_if (pt_cmpR op_eq (L2.pvj 1) pe_int (nomark _)) (pss_one (ps_ret (L2.pvj 0))) pss_nil)
  (pss_cons (ps_if (pt_val (pe_callB jinst rfl B.isinstance_ boot_isinstance_ (pa_cons (L2.pvj 0) (pa_cons (pe_bltn (v := .ty "list") (u := .type "list") rfl B.list_ boot_list_ rfl) pa_nil)))) (pss_one (ps_ret (pe_comp (own := ["part"]) (caps := [(1, "depth")]) (blk_cap (S := defScope s_copied) (N := ["value", "depth"]) rfl (by decide +kernel) rfl ⟨_, rfl⟩ rfl (by decide +kernel) (by decide +kernel)) rfl (pi_list (L2.pvj 0)) (fun _ _ _ _ => pg_name (i := 0) (show (["part", "depth"] : List Str).Nodup by decide +kernel) rfl (Or.inl rfl)) (fun _ _ _ _ => (pe_callF c_copied.fn hr rfl (pa_cons (L2.pvj 0) (pa_cons (pe_op (ji0 op_sub) (L2.pvj 1) pe_int) pa_nil))))))) pss_nil)
  (pss_cons (ps_if (pt_val (pe_callB jinst rfl B.isinstance_ boot_isinstance_ (pa_cons (L2.pvj 0) (pa_cons (pe_bltn (v := .ty "tuple") (u := .type "tuple") rfl B.tuple_ boot_tuple_ rfl) pa_nil)))) (pss_one (ps_ret (pe_callTy jtup rfl B.tuple_ boot_tuple_ (pa_cons (pe_comp (own := ["part"]) (caps := [(1, "depth")]) (blk_cap (S := defScope s_copied) (N := ["value", "depth"]) rfl (by decide +kernel) rfl ⟨_, rfl⟩ rfl (by decide +kernel) (by decide +kernel)) rfl (pi_tup (L2.pvj 0)) (fun _ _ _ _ => pg_name (i := 0) (show (["part", "depth"] : List Str).Nodup by decide +kernel) rfl (Or.inl rfl)) (fun _ _ _ _ => (pe_callF c_copied.fn hr rfl (pa_cons (L2.pvj 0) (pa_cons (pe_op (ji0 op_sub) (L2.pvj 1) pe_int) pa_nil))))) pa_nil)))) pss_nil)
  (pss_one (ps_ret (L2.pvj 0)))))), ?_⟩
 try dsimp only [cxOf, Cx.nox, Cx.wish]
 rcases h with (h | h | h) | h | h
 ·obtain ⟨i, d, rfl, q⟩ := h
  refine ⟨_, rfl, rfl, _, rfl, ?_⟩
  by_cases d0 : d = 0
  ·exact iteB1 (dec_yes d0) ⟨_, rfl, q⟩
  refine iteB0 (dec_no d0) ?_
  refine ⟨_, rfl, _, _, _, _, rfl, .int i, kd_lst K .int, _, rfl, iteF ?_⟩
  refine ⟨_, rfl, _, _, _, _, rfl, .int i, kd_tup K .int, _, rfl, iteF ?_⟩
  exact ⟨_, rfl, q⟩
 ·obtain ⟨a, ns, d, rfl, d1, ha, few, q⟩ := h
  refine ⟨_, rfl, rfl, _, rfl, iteB0 (dec_no (by omega)) ?_⟩
  refine ⟨_, rfl, _, _, _, _, rfl, .lst ha, kit_list_list K, _, rfl, iteT ?_⟩
  refine ⟨_, rfl, a, rfl, ⟨_, SqL.of ha⟩, comp_list (K := K) (a := a) (xs := ns.map V.int) (fun i ys σ H' => ys = (ns.take i).map V.int /\ (∃ o, σ = [o, some (.int d)]) /\ H' = H)
   ⟨rfl, ⟨none, rfl⟩, rfl⟩ (fun i ys σ H' hi ⟨e1, _, e3⟩ => ⟨by rw [e3]; exact SqL.of ha, by rw [e1, List.length_map, List.length_take]; exact Nat.min_le_left _ _⟩) (by rw [List.length_map]; exact Nat.le_of_lt (small1000 (by omega))) ?_ ?_⟩
  ·rintro i x ys σ H' hi ⟨rfl, ⟨o, rfl⟩, rfl⟩
   obtain ⟨z, hz, rfl⟩ := ints_get hi
   refine ⟨_, rfl, _, rfl, _, _, rfl, rfl, .inl ⟨z, d - 1, rfl, ?_, ⟨_, rfl⟩, rfl⟩⟩
   rw [take_snoc hz, List.map_append]
   rfl
  rintro ys σ H' ⟨rfl, ⟨o, rfl⟩, rfl⟩ l hl
  refine q l _ (same_new hl _) hl (upd_same.trans ?_)
  rw [List.length_map, List.take_length]
 ·obtain ⟨a, ns, d, rfl, d1, ha, few, q⟩ := h
  refine ⟨_, rfl, rfl, _, rfl, iteB0 (dec_no (by omega)) ?_⟩
  refine ⟨_, rfl, _, _, _, _, rfl, .tup ha, kd_lst K .tup, _, rfl, iteF ?_⟩
  refine ⟨_, rfl, _, _, _, _, rfl, .tup ha, kit_tuple_tuple K, _, rfl, iteT ?_⟩
  refine ⟨_, rfl, a, rfl, ⟨_, SqT.of ha⟩, comp_tup (K := K) (a := a) (xs := ns.map V.int) (fun i ys σ H' => ys = (ns.take i).map V.int /\ (∃ o, σ = [o, some (.int d)]) /\ H' = H)
   ⟨rfl, ⟨none, rfl⟩, rfl⟩ (fun i ys σ H' hi ⟨e1, _, e3⟩ => ⟨by rw [e3]; exact SqT.of ha, by rw [e1, List.length_map, List.length_take]; exact Nat.min_le_left _ _⟩) (by rw [List.length_map]; exact Nat.le_of_lt (small1000 (by omega))) ?_ ?_⟩
  ·rintro i x ys σ H' hi ⟨rfl, ⟨o, rfl⟩, rfl⟩
   obtain ⟨z, hz, rfl⟩ := ints_get hi
   refine ⟨_, rfl, _, rfl, _, _, rfl, rfl, .inl ⟨z, d - 1, rfl, ?_, ⟨_, rfl⟩, rfl⟩⟩
   rw [take_snoc hz, List.map_append]
   rfl
  rintro ys σ H' ⟨rfl, ⟨o, rfl⟩, rfl⟩ l hl
  refine ⟨l, _, rfl, .inl ⟨SqL.of upd_same, fun t ht => ?_⟩⟩
  refine q t _ ((same_new hl _).trans (same_new ht _)) ((same_new hl _).free ht) (upd_same.trans ?_)
  rw [List.length_map, List.take_length]
 ·obtain ⟨a, rv, rows, d, rfl, d1, ha, hrv, few, rl, q⟩ := h
  have lr : rv.length = rows.length := Paired.length hrv
  refine ⟨_, rfl, rfl, _, rfl, iteB0 (dec_no (by omega)) ?_⟩
  refine ⟨_, rfl, _, _, _, _, rfl, .lst ha, kit_list_list K, _, rfl, iteT ?_⟩
  refine ⟨_, rfl, a, rfl, ⟨_, SqL.of ha⟩, comp_list (K := K) (a := a) (xs := rv) (fun i ys σ H' => WaysV H' ys (rows.take i) /\ (∃ o, σ = [o, some (.int d)]) /\ Same H H')
   ⟨.nil, ⟨none, rfl⟩, Same.refl _⟩ (fun i ys σ H' hi ⟨e1, _, sm⟩ => ⟨SqL.of (sm _ _ ha), by have := Paired.length e1; rw [List.length_take] at this; omega⟩) (Nat.le_of_lt (small1000 (by omega))) ?_ ?_⟩
  ·rintro i x ys σ H' hi ⟨hys, ⟨o, rfl⟩, sm⟩
   obtain ⟨r, hr', b, rfl, eb⟩ := paired_get hrv hi
   refine ⟨_, rfl, _, rfl, _, _, rfl, rfl, .inr (.inr ⟨b, r, d - 1, rfl, (by omega), sm _ _ eb, rl r (List.mem_of_getElem? hr'), fun t H2 s2 _ et => ?_⟩)⟩
   refine ⟨?_, ⟨_, rfl⟩, sm.trans s2⟩
   rw [take_snoc hr']
   exact paired_snoc (R := fun v (k : List Int) => Tp H2 v (k.map V.int)) ⟨t, rfl, et⟩ (WaysV.same s2 hys)
  rintro ys σ H' ⟨hys, ⟨o, rfl⟩, sm⟩ l hl
  rw [lr, List.take_length] at hys
  exact q l ys _ (sm.trans (same_new hl _)) (sm.free hl) upd_same (WaysV.same (same_new hl _) hys)
 ·obtain ⟨a, tv, tab, d, rfl, d1, ha, htv, few, rl, q⟩ := h
  have lr : tv.length = tab.length := Paired.length htv
  refine ⟨_, rfl, rfl, _, rfl, iteB0 (dec_no (by omega)) ?_⟩
  refine ⟨_, rfl, _, _, _, _, rfl, .lst ha, kit_list_list K, _, rfl, iteT ?_⟩
  refine ⟨_, rfl, a, rfl, ⟨_, SqL.of ha⟩, comp_list (K := K) (a := a) (xs := tv) (fun i ys σ H' => Paired (NewL H H') ys (tab.take i) /\ (∃ o, σ = [o, some (.int d)]) /\ Same H H')
   ⟨.nil, ⟨none, rfl⟩, Same.refl _⟩ (fun i ys σ H' hi ⟨e1, _, sm⟩ => ⟨SqL.of (sm _ _ ha), by have := Paired.length e1; rw [List.length_take] at this; omega⟩) (Nat.le_of_lt (small1000 (by omega))) ?_ ?_⟩
  ·rintro i x ys σ H' hi ⟨hys, ⟨o, rfl⟩, sm⟩
   obtain ⟨r, hr', b, rfl, eb⟩ := paired_get htv hi
   refine ⟨_, rfl, _, rfl, _, _, rfl, rfl, .inr (.inl ⟨b, r, d - 1, rfl, (by omega), sm _ _ eb, rl r (List.mem_of_getElem? hr'), fun t H2 s2 tn et => ?_⟩)⟩
   refine ⟨?_, ⟨_, rfl⟩, sm.trans s2⟩
   rw [take_snoc hr']
   exact paired_snoc (R := NewL H H2) ⟨t, rfl, sm.free tn, et⟩ (Paired.mapP hys fun _ _ ⟨c, e, n, k⟩ => ⟨c, e, n, s2 _ _ k⟩)
  rintro ys σ H' ⟨hys, ⟨o, rfl⟩, sm⟩ l hl
  rw [lr, List.take_length] at hys
  have z := same_new hl (HO.lst ys)
  exact q l ys _ (sm.trans z) (sm.free hl) upd_same (Paired.mapP hys fun _ _ ⟨c, e, n, k⟩ => ⟨c, e, n, z _ _ k⟩)
theorem ok_is_numbers {k : Nat} {f : Addr} {fd : FuncData} (F : Fun K "is_numbers" "is_numbers" s_is_numbers f fd) (B : Bl mg) (c_is_whole : Fn P w K mg base "is_whole" ["thing"] k spIsWhole) : FnOk P w K mg base CX0 (k + 1) f fd ["value", "count"] spIsNumbers := by
 refine F.ok sc_is_numbers (fun vs H Q E h => ?_) (fun cdv A outer s H vs Q E hr h => ?_)
 ·obtain ⟨a, ns, rfl, _⟩ := h
  rfl
 obtain ⟨a, ns, rfl, ha, few, q⟩ := h
 refine ⟨_, (pss_one (ps_ret (pe_and (pe_callB jinst rfl B.isinstance_ boot_isinstance_ (pa_cons (L2.pvj 0) (pa_cons (pe_bltn (v := .ty "list") (u := .type "list") rfl B.list_ boot_list_ rfl) pa_nil))) (pe_and (pe_cmpR op_eq (pe_callB jlen rfl B.len_ boot_len_ (pa_cons (L2.pvj 0) pa_nil)) (L2.pvj 1) (nomark _)) (pe_one (pe_callB (call_all rfl) rfl B.all_ boot_all_ (pa_cons (pe_comp (own := ["number"]) (caps := []) (blk_mk rfl) rfl (pi_list (L2.pvj 0)) (fun _ _ _ _ => pg_name (i := 0) (show (["number"] : List Str).Nodup by decide +kernel) rfl (Or.inl rfl)) (fun _ _ _ _ => (pe_callF c_is_whole hr rfl (pa_cons (L2.pvj 0) pa_nil)))) pa_nil))))))), ?_⟩
 try dsimp only [cxOf, Cx.nox, Cx.wish]
 refine ⟨_, rfl, _, _, _, _, rfl, .lst ha, kit_list_list K, _, rfl, iteT ?_⟩
 refine ⟨_, rfl, a, _, rfl, .inl (SqL.of ha), _, rfl, rfl, _, rfl, iteB1 (dec_yes (by rw [List.length_map])) ?_⟩
 refine ⟨_, rfl, a, rfl, ⟨_, SqL.of ha⟩, comp_list (K := K) (a := a) (xs := ns.map V.int) (fun i ys σ H' => ys = (List.replicate i true).map V.bl /\ (∃ o, σ = [o]) /\ H' = H)
  ⟨rfl, ⟨none, rfl⟩, rfl⟩ (fun i ys σ H' hi ⟨e1, _, e3⟩ => ⟨by rw [e3]; exact SqL.of ha, by rw [e1, List.length_map, List.length_replicate]; exact Nat.le_refl _⟩) (by rw [List.length_map]; exact Nat.le_of_lt (small1000 (by omega))) ?_ ?_⟩
 ·rintro i x ys σ H' hi ⟨rfl, ⟨o, rfl⟩, rfl⟩
  obtain ⟨z, hz, rfl⟩ := ints_get hi
  refine ⟨_, rfl, z, rfl, ?_, ⟨_, rfl⟩, rfl⟩
  rw [List.replicate_succ', List.map_append]
  rfl
 rintro ys σ H' ⟨rfl, ⟨o, rfl⟩, rfl⟩ l hl
 refine ⟨l, List.replicate _ true, rfl, SqL.of upd_same, ?_⟩
 rw [all_true]
 exact q _ (same_new hl _)
theorem ok_is_table {k : Nat} {f : Addr} {fd : FuncData} (F : Fun K "is_table" "is_table" s_is_table f fd) (B : Bl mg) (c_is_numbers : Fn P w K mg base "is_numbers" ["value", "count"] k spIsNumbers) : FnOk P w K mg base CX0 (k + 1) f fd ["value", "tall", "wide"] spIsTable := by
 refine F.ok sc_is_table (fun vs H Q E h => ?_) (fun cdv A outer s H vs Q E hr h => ?_)
 ·obtain ⟨a, tv, tab, w0, rfl, _⟩ := h
  rfl
 obtain ⟨a, tv, tab, w0, rfl, ha, htv, few, tw, w9, q⟩ := h
 refine ⟨_, (pss_one (ps_ret (pe_and (pe_callB jinst rfl B.isinstance_ boot_isinstance_ (pa_cons (L2.pvj 0) (pa_cons (pe_bltn (v := .ty "list") (u := .type "list") rfl B.list_ boot_list_ rfl) pa_nil))) (pe_and (pe_cmpR op_eq (pe_callB jlen rfl B.len_ boot_len_ (pa_cons (L2.pvj 0) pa_nil)) (L2.pvj 1) (nomark _)) (pe_one (pe_callB (call_all rfl) rfl B.all_ boot_all_ (pa_cons (pe_comp (own := ["part"]) (caps := [(2, "wide")]) (blk_cap (S := defScope s_is_table) (N := ["value", "tall", "wide"]) rfl (by decide +kernel) rfl ⟨_, rfl⟩ rfl (by decide +kernel) (by decide +kernel)) rfl (pi_list (L2.pvj 0)) (fun _ _ _ _ => pg_name (i := 0) (show (["part", "wide"] : List Str).Nodup by decide +kernel) rfl (Or.inl rfl)) (fun _ _ _ _ => (pe_callF c_is_numbers hr rfl (pa_cons (L2.pvj 0) (pa_cons (L2.pvj 1) pa_nil))))) pa_nil))))))), ?_⟩
 try dsimp only [cxOf, Cx.nox, Cx.wish]
 have lt : tv.length = tab.length := Paired.length htv
 refine ⟨_, rfl, _, _, _, _, rfl, .lst ha, kit_list_list K, _, rfl, iteT ?_⟩
 refine ⟨_, rfl, a, _, rfl, .inl (SqL.of ha), _, rfl, rfl, _, rfl, iteB1 (dec_yes (by omega)) ?_⟩
 refine ⟨_, rfl, a, rfl, ⟨_, SqL.of ha⟩, comp_list (K := K) (a := a) (xs := tv) (fun i ys σ H' => ys = (List.replicate i true).map V.bl /\ (∃ o, σ = [o, some (.int (w0 : Int))]) /\ Same H H')
  ⟨rfl, ⟨none, rfl⟩, Same.refl _⟩ (fun i ys σ H' hi ⟨e1, _, sm⟩ => ⟨SqL.of (sm _ _ ha), by rw [e1, List.length_map, List.length_replicate]; exact Nat.le_refl _⟩) (Nat.le_of_lt (small1000 (by omega))) ?_ ?_⟩
 ·rintro i x ys σ H' hi ⟨rfl, ⟨o, rfl⟩, sm⟩
  obtain ⟨r, hr', b, rfl, eb⟩ := paired_get htv hi
  have lw := tw r (List.mem_of_getElem? hr')
  refine ⟨_, rfl, _, rfl, b, r, (by rw [lw]; rfl), sm _ _ eb, (by omega), fun H2 s2 => ⟨?_, ⟨_, rfl⟩, sm.trans s2⟩⟩
  rw [List.replicate_succ', List.map_append]
  rfl
 rintro ys σ H' ⟨rfl, ⟨o, rfl⟩, sm⟩ l hl
 refine ⟨l, List.replicate _ true, rfl, SqL.of upd_same, ?_⟩
 rw [all_true]
 exact q _ (sm.trans (same_new hl _))
theorem ok_is_row {k : Nat} {f : Addr} {fd : FuncData} (F : Fun K "is_row" "is_row" s_is_row f fd) (B : Bl mg) (c_is_whole : Fn P w K mg base "is_whole" ["thing"] k spIsWhole) : FnOk P w K mg base CX0 (k + 1) f fd ["value", "many"] spIsRow := by
 refine F.ok sc_is_row (fun vs H Q E h => ?_) (fun cdv A outer s H vs Q E hr h => ?_)
 ·obtain ⟨a, ns, n, rfl, _⟩ := h
  rfl
 obtain ⟨a, ns, n, rfl, ha, ln, few, q⟩ := h
 refine ⟨_, (pss_one (ps_ret (pe_and (pe_callB jinst rfl B.isinstance_ boot_isinstance_ (pa_cons (L2.pvj 0) (pa_cons (pe_bltn (v := .ty "tuple") (u := .type "tuple") rfl B.tuple_ boot_tuple_ rfl) pa_nil))) (pe_and (pe_cmpR op_eq (pe_callB jlen rfl B.len_ boot_len_ (pa_cons (L2.pvj 0) pa_nil)) (pe_op (ji0 op_add) (L2.pvj 1) pe_int) (nomark _)) (pe_one (pe_callB (call_all rfl) rfl B.all_ boot_all_ (pa_cons (pe_comp (own := ["number"]) (caps := []) (blk_mk rfl) rfl (pi_tup (L2.pvj 0)) (fun _ _ _ _ => pg_name (i := 0) (show (["number"] : List Str).Nodup by decide +kernel) rfl (Or.inl rfl)) (fun _ _ _ _ => (pe_callF c_is_whole hr rfl (pa_cons (L2.pvj 0) pa_nil)))) pa_nil))))))), ?_⟩
 try dsimp only [cxOf, Cx.nox, Cx.wish]
 refine ⟨_, rfl, _, _, _, _, rfl, .tup ha, kit_tuple_tuple K, _, rfl, iteT ?_⟩
 refine ⟨_, rfl, a, _, rfl, .inr (SqT.of ha), _, rfl, _, _, rfl, rfl, rfl, _, rfl, iteB1 (dec_yes (by rw [List.length_map, ln]; omega)) ?_⟩
 refine ⟨_, rfl, a, rfl, ⟨_, SqT.of ha⟩, comp_tup (K := K) (a := a) (xs := ns.map V.int) (fun i ys σ H' => ys = (List.replicate i true).map V.bl /\ (∃ o, σ = [o]) /\ H' = H)
  ⟨rfl, ⟨none, rfl⟩, rfl⟩ (fun i ys σ H' hi ⟨e1, _, e3⟩ => ⟨by rw [e3]; exact SqT.of ha, by rw [e1, List.length_map, List.length_replicate]; exact Nat.le_refl _⟩) (by rw [List.length_map]; exact Nat.le_of_lt (small1000 (by omega))) ?_ ?_⟩
 ·rintro i x ys σ H' hi ⟨rfl, ⟨o, rfl⟩, rfl⟩
  obtain ⟨z, hz, rfl⟩ := ints_get hi
  refine ⟨_, rfl, z, rfl, ?_, ⟨_, rfl⟩, rfl⟩
  rw [List.replicate_succ', List.map_append]
  rfl
 rintro ys σ H' ⟨rfl, ⟨o, rfl⟩, rfl⟩ l hl
 refine ⟨l, List.replicate _ true, rfl, SqL.of upd_same, ?_⟩
 rw [all_true]
 exact q _ (same_new hl _)
theorem ok_is_room {k : Nat} {f : Addr} {fd : FuncData} (F : Fun K "is_room" "is_room" s_is_room f fd) (B : Bl mg) (c_is_row : Fn P w K mg base "is_row" ["value", "many"] k spIsRow) : FnOk P w K mg base CX0 (k + 1) f fd ["value", "many"] spIsRoom := by
 refine F.ok sc_is_room (fun vs H Q E h => ?_) (fun cdv A outer s H vs Q E hr h => ?_)
 ·obtain ⟨a, rv, rows, n, rfl, _⟩ := h
  rfl
 obtain ⟨a, rv, rows, n, rfl, ha, hrv, few, rl, n8, q⟩ := h
 refine ⟨_, (pss_one (ps_ret (pe_and (pe_callB jinst rfl B.isinstance_ boot_isinstance_ (pa_cons (L2.pvj 0) (pa_cons (pe_bltn (v := .ty "list") (u := .type "list") rfl B.list_ boot_list_ rfl) pa_nil))) (pe_one (pe_callB (call_all rfl) rfl B.all_ boot_all_ (pa_cons (pe_comp (own := ["row"]) (caps := [(1, "many")]) (blk_cap (S := defScope s_is_room) (N := ["value", "many"]) rfl (by decide +kernel) rfl ⟨_, rfl⟩ rfl (by decide +kernel) (by decide +kernel)) rfl (pi_list (L2.pvj 0)) (fun _ _ _ _ => pg_name (i := 0) (show (["row", "many"] : List Str).Nodup by decide +kernel) rfl (Or.inl rfl)) (fun _ _ _ _ => (pe_callF c_is_row hr rfl (pa_cons (L2.pvj 0) (pa_cons (L2.pvj 1) pa_nil))))) pa_nil)))))), ?_⟩
 try dsimp only [cxOf, Cx.nox, Cx.wish]
 have lr : rv.length = rows.length := Paired.length hrv
 refine ⟨_, rfl, _, _, _, _, rfl, .lst ha, kit_list_list K, _, rfl, iteT ?_⟩
 refine ⟨_, rfl, a, rfl, ⟨_, SqL.of ha⟩, comp_list (K := K) (a := a) (xs := rv) (fun i ys σ H' => ys = (List.replicate i true).map V.bl /\ (∃ o, σ = [o, some (.int (n : Int))]) /\ Same H H')
  ⟨rfl, ⟨none, rfl⟩, Same.refl _⟩ (fun i ys σ H' hi ⟨e1, _, sm⟩ => ⟨SqL.of (sm _ _ ha), by rw [e1, List.length_map, List.length_replicate]; exact Nat.le_refl _⟩) (Nat.le_of_lt (small1000 (by omega))) ?_ ?_⟩
 ·rintro i x ys σ H' hi ⟨rfl, ⟨o, rfl⟩, sm⟩
  obtain ⟨r, hr', b, rfl, eb⟩ := paired_get hrv hi
  refine ⟨_, rfl, _, rfl, b, r, n, rfl, sm _ _ eb, rl r (List.mem_of_getElem? hr'), (by omega), fun H2 s2 => ⟨?_, ⟨_, rfl⟩, sm.trans s2⟩⟩
  rw [List.replicate_succ', List.map_append]
  rfl
 rintro ys σ H' ⟨rfl, ⟨o, rfl⟩, sm⟩ l hl
 refine ⟨l, List.replicate _ true, rfl, SqL.of upd_same, ?_⟩
 rw [all_true]
 exact q _ (sm.trans (same_new hl _))
theorem ok_is_push {k : Nat} {f : Addr} {fd : FuncData} (F : Fun K "is_push" "is_push" s_is_push f fd) (B : Bl mg) (c_is_whole : Fn P w K mg base "is_whole" ["thing"] k spIsWhole) : FnOk P w K mg base CX0 (k + 1) f fd ["value"] spIsPush := by
 refine F.ok sc_is_push (fun vs H Q E h => ?_) (fun cdv A outer s H vs Q E hr h => ?_)
 ·obtain ⟨a, lo, hi, rfl, _⟩ := h
  rfl
 obtain ⟨a, lo, hi, rfl, ha, lh, q⟩ := h
 refine ⟨_, (pss_cons (ps_if (PW.pt (pw_or (pt_not (pt_val (pe_callB jinst rfl B.isinstance_ boot_isinstance_ (pa_cons (L2.pvj 0) (pa_cons (pe_bltn (v := .ty "tuple") (u := .type "tuple") rfl B.tuple_ boot_tuple_ rfl) pa_nil))))) (pw_or1 (pt_cmpR op_ne (pe_callB jlen rfl B.len_ boot_len_ (pa_cons (L2.pvj 0) pa_nil)) pe_int (nomark _))))) (pss_one (ps_ret pe_bl)) pss_nil)
  (pss_one (ps_ret (pe_and (pe_callF c_is_whole hr rfl (pa_cons (pe_ix jix_tup (L2.pvj 0) pe_int (fun _ _ => rfl)) pa_nil)) (pe_and (pe_callF c_is_whole hr rfl (pa_cons (pe_ix jix_tup (L2.pvj 0) pe_int (fun _ _ => rfl)) pa_nil)) (pe_one (pe_cmpR (ji0 op_le) (pe_ix jix_tup (L2.pvj 0) pe_int (fun _ _ => rfl)) (pe_ix jix_tup (L2.pvj 0) pe_int (fun _ _ => rfl)) (nomark _)))))))), ?_⟩
 try dsimp only [cxOf, Cx.nox, Cx.wish]
 refine ⟨_, rfl, _, _, _, _, rfl, .tup ha, kit_tuple_tuple K, _, rfl, iteF ?_⟩
 refine ⟨_, rfl, a, _, rfl, .inr (SqT.of ha), rfl, _, rfl, iteNS rfl ?_⟩
 refine ⟨_, rfl, a, _, 0, _, rfl, rfl, SqT.of ha, at0, lo, rfl, _, rfl, iteT ?_⟩
 refine ⟨_, rfl, a, _, 1, _, rfl, rfl, SqT.of ha, at1, hi, rfl, _, rfl, iteT ?_⟩
 refine ⟨_, rfl, a, _, 0, _, rfl, rfl, SqT.of ha, at0, _, rfl, a, _, 1, _, rfl, rfl, SqT.of ha, at1, _, _, rfl, rfl, ?_⟩
 have z : decide (lo <= hi) = true := decide_eq_true lh
 show Q (.bl (decide (lo <= hi))) H
 rw [z]
 exact q
theorem ok_Mode___init__ {k : Nat} {f : Addr} {fd : FuncData} (F : Fun K "__init__" "Mode.__init__" s_Mode___init__ f fd) (B : Bl mg) (c_copied : FnD P w K mg base "copied" ["value", "depth"] k spC2 (.int 5)) : FnOk P w K mg base CX0 (k + 1) f fd ["self", "rows", "nexts", "steer", "push", "add", "divisor"] (spModeInit aMode) := by
 refine F.ok sc_Mode___init__ (fun vs H Q E h => ?_) (fun cdv A outer s H vs Q E hr h => ?_)
 ·obtain ⟨o, dx, ra, na, sa, pa, aa, rv, nv, pv, m, n0, p0, rfl, _⟩ := h
  rfl
 obtain ⟨o, dx, ra, na, sa, pa, aa, rv, nv, pv, m, n0, p0, rfl, ho, MO, hra, hrv, hna, hnv, hsa, hpa, hpv, haa, q⟩ := h
 refine ⟨_, (pss_cons (ps_fld (L2.pvj 0) (pe_callF1 c_copied hr rfl (pa_cons (L2.pvj 1) pa_nil)) rfl)
  (pss_cons (ps_fld (L2.pvj 0) (pe_callF1 c_copied hr rfl (pa_cons (L2.pvj 2) pa_nil)) rfl)
  (pss_cons (ps_fld (L2.pvj 0) (pe_callF1 c_copied hr rfl (pa_cons (L2.pvj 3) pa_nil)) rfl)
  (pss_cons (ps_fld (L2.pvj 0) (pe_callF1 c_copied hr rfl (pa_cons (L2.pvj 4) pa_nil)) rfl)
  (pss_cons (ps_fld (L2.pvj 0) (pe_callF1 c_copied hr rfl (pa_cons (L2.pvj 5) pa_nil)) rfl)
  (pss_one (ps_fld (L2.pvj 0) (L2.pvj 6) rfl))))))), ?_⟩
 try dsimp only [cxOf, Cx.nox, Cx.wish]
 have n3 := MO.n3
 have p6 := MO.p6
 have G0 : SameB o H H := fun _ _ e _ => e
 refine ⟨_, rfl, .inr (.inl ⟨ra, rv, m.rows, 5, rfl, (by decide), hra, hrv, MO.few, (fun x hx => by have := MO.rows x hx; omega), fun r lr H1 s1 fr er hr => ?_⟩)⟩
 refine ⟨_, rfl, o, aMode, dx, _, rfl, (s1 _ _ ho), TMode.cl, AMode.n_rows, (by show 0 < 1000; decide), ?_⟩
 have o1 := upd_same (H := H1) (a := o) (o := HO.ins aMode dx (putF "rows" (.ref r) []))
 have G1 : SameB o H (upd H1 o (HO.ins aMode dx (putF "rows" (.ref r) []))) := G0.trans ((Same.but s1).trans (sameB_upd o H1 _))
 have T1 : SameB o H1 (upd H1 o (HO.ins aMode dx (putF "rows" (.ref r) []))) := sameB_upd o H1 _
 have b1 := s1 _ _ ho
 obtain ⟨J1, hJ1⟩ : ∃ J, J = upd H1 o (HO.ins aMode dx (putF "rows" (.ref r) [])) := ⟨_, rfl⟩
 rw [<- hJ1] at o1 G1 T1 |-
 refine ⟨_, rfl, .inr (.inr ⟨na, nv, m.nexts, 5, rfl, (by decide), (keepB ho G1 hna (fun z => by cases z)), (TabV.keepB ho G1 hnv), (by have := MO.nexts.1; omega), (fun x hx => by have := MO.nexts.2 x hx; omega), fun n ln H2 s2 fn en hn => ?_⟩)⟩
 refine ⟨_, rfl, o, aMode, dx, _, rfl, (s2 _ _ o1), TMode.cl, AMode.n_nexts, (by show 1 < 1000; decide), ?_⟩
 have o2 := upd_same (H := H2) (a := o) (o := HO.ins aMode dx (putF "nexts" (.ref n) (putF "rows" (.ref r) [])))
 have G2 : SameB o H (upd H2 o (HO.ins aMode dx (putF "nexts" (.ref n) (putF "rows" (.ref r) [])))) := G1.trans ((Same.but s2).trans (sameB_upd o H2 _))
 have T2 : SameB o H2 (upd H2 o (HO.ins aMode dx (putF "nexts" (.ref n) (putF "rows" (.ref r) [])))) := sameB_upd o H2 _
 have b2 := s2 _ _ o1
 obtain ⟨J2, hJ2⟩ : ∃ J, J = upd H2 o (HO.ins aMode dx (putF "nexts" (.ref n) (putF "rows" (.ref r) []))) := ⟨_, rfl⟩
 rw [<- hJ2] at o2 G2 T2 |-
 refine ⟨_, rfl, .inl (.inr (.inl ⟨sa, m.steer, 5, rfl, (by decide), (keepB ho G2 hsa (fun z => by cases z)), (by have := MO.steer; omega), fun s H3 s3 fs es => ?_⟩))⟩
 refine ⟨_, rfl, o, aMode, dx, _, rfl, (s3 _ _ o2), TMode.cl, AMode.n_steer, (by show 2 < 1000; decide), ?_⟩
 have o3 := upd_same (H := H3) (a := o) (o := HO.ins aMode dx (putF "steer" (.ref s) (putF "nexts" (.ref n) (putF "rows" (.ref r) []))))
 have G3 : SameB o H (upd H3 o (HO.ins aMode dx (putF "steer" (.ref s) (putF "nexts" (.ref n) (putF "rows" (.ref r) []))))) := G2.trans ((Same.but s3).trans (sameB_upd o H3 _))
 have T3 : SameB o H3 (upd H3 o (HO.ins aMode dx (putF "steer" (.ref s) (putF "nexts" (.ref n) (putF "rows" (.ref r) []))))) := sameB_upd o H3 _
 have b3 := s3 _ _ o2
 obtain ⟨J3, hJ3⟩ : ∃ J, J = upd H3 o (HO.ins aMode dx (putF "steer" (.ref s) (putF "nexts" (.ref n) (putF "rows" (.ref r) [])))) := ⟨_, rfl⟩
 rw [<- hJ3] at o3 G3 T3 |-
 refine ⟨_, rfl, .inr (.inr ⟨pa, pv, m.push, 5, rfl, (by decide), (keepB ho G3 hpa (fun z => by cases z)), (TabV.keepB ho G3 hpv), (by have := MO.push.1; omega), (fun x hx => by have := MO.push.2 x hx; omega), fun p lp H4 s4 fp ep hp => ?_⟩)⟩
 refine ⟨_, rfl, o, aMode, dx, _, rfl, (s4 _ _ o3), TMode.cl, AMode.n_push, (by show 3 < 1000; decide), ?_⟩
 have o4 := upd_same (H := H4) (a := o) (o := HO.ins aMode dx (putF "push" (.ref p) (putF "steer" (.ref s) (putF "nexts" (.ref n) (putF "rows" (.ref r) [])))))
 have G4 : SameB o H (upd H4 o (HO.ins aMode dx (putF "push" (.ref p) (putF "steer" (.ref s) (putF "nexts" (.ref n) (putF "rows" (.ref r) [])))))) := G3.trans ((Same.but s4).trans (sameB_upd o H4 _))
 have T4 : SameB o H4 (upd H4 o (HO.ins aMode dx (putF "push" (.ref p) (putF "steer" (.ref s) (putF "nexts" (.ref n) (putF "rows" (.ref r) [])))))) := sameB_upd o H4 _
 have b4 := s4 _ _ o3
 obtain ⟨J4, hJ4⟩ : ∃ J, J = upd H4 o (HO.ins aMode dx (putF "push" (.ref p) (putF "steer" (.ref s) (putF "nexts" (.ref n) (putF "rows" (.ref r) []))))) := ⟨_, rfl⟩
 rw [<- hJ4] at o4 G4 T4 |-
 refine ⟨_, rfl, .inl (.inr (.inl ⟨aa, m.add, 5, rfl, (by decide), (keepB ho G4 haa (fun z => by cases z)), (by have := MO.add; omega), fun a H5 s5 fa ea => ?_⟩))⟩
 refine ⟨_, rfl, o, aMode, dx, _, rfl, (s5 _ _ o4), TMode.cl, AMode.n_add, (by show 4 < 1000; decide), ?_⟩
 have o5 := upd_same (H := H5) (a := o) (o := HO.ins aMode dx (putF "add" (.ref a) (putF "push" (.ref p) (putF "steer" (.ref s) (putF "nexts" (.ref n) (putF "rows" (.ref r) []))))))
 have G5 : SameB o H (upd H5 o (HO.ins aMode dx (putF "add" (.ref a) (putF "push" (.ref p) (putF "steer" (.ref s) (putF "nexts" (.ref n) (putF "rows" (.ref r) []))))))) := G4.trans ((Same.but s5).trans (sameB_upd o H5 _))
 have T5 : SameB o H5 (upd H5 o (HO.ins aMode dx (putF "add" (.ref a) (putF "push" (.ref p) (putF "steer" (.ref s) (putF "nexts" (.ref n) (putF "rows" (.ref r) []))))))) := sameB_upd o H5 _
 have b5 := s5 _ _ o4
 obtain ⟨J5, hJ5⟩ : ∃ J, J = upd H5 o (HO.ins aMode dx (putF "add" (.ref a) (putF "push" (.ref p) (putF "steer" (.ref s) (putF "nexts" (.ref n) (putF "rows" (.ref r) [])))))) := ⟨_, rfl⟩
 rw [<- hJ5] at o5 G5 T5 |-
 refine ⟨_, rfl, _, rfl, o, aMode, dx, _, rfl, o5, TMode.cl, AMode.n_divisor, (by show 5 < 1000; decide), ?_⟩
 have e6 : upd J5 o (HO.ins aMode dx (putF "divisor" (.int m.div) (putF "add" (.ref a) (putF "push" (.ref p) (putF "steer" (.ref s) (putF "nexts" (.ref n) (putF "rows" (.ref r) []))))))) o = some (.ins aMode dx (modeF (.ref r) (.ref n) (.ref s) (.ref p) (.ref a) m.div)) := upd_same.trans (by rw [mode_put])
 have T6 : SameB o J5 (upd J5 o (HO.ins aMode dx (putF "divisor" (.int m.div) (putF "add" (.ref a) (putF "push" (.ref p) (putF "steer" (.ref s) (putF "nexts" (.ref n) (putF "rows" (.ref r) [])))))))) := sameB_upd o J5 _
 obtain ⟨J6, hJ6⟩ : ∃ J, J = upd J5 o (HO.ins aMode dx (putF "divisor" (.int m.div) (putF "add" (.ref a) (putF "push" (.ref p) (putF "steer" (.ref s) (putF "nexts" (.ref n) (putF "rows" (.ref r) []))))))) := ⟨_, rfl⟩
 rw [<- hJ6] at e6 T6 |-
 have U5 : SameB o H5 J6 := T5.trans T6
 have U4 : SameB o H4 J6 := T4.trans ((Same.but s5).trans U5)
 have U3 : SameB o H3 J6 := T3.trans ((Same.but s4).trans U4)
 have U2 : SameB o H2 J6 := T2.trans ((Same.but s3).trans U3)
 have U1 : SameB o H1 J6 := T1.trans ((Same.but s2).trans U2)
 have G6 : SameB o H J6 := G5.trans T6
 have nH : ∀ {k : Nat} {Hk : Hp} {x : HO}, SameB o H Hk -> Hk o = some x -> ∀ {vs : List V} {tab : List (List Int)} {Hj : Hp}, Paired (NewL Hk Hj) vs tab -> SameB o Hj J6 -> (∃ y, Hj o = some y /\ ∀ l, HO.lst l ≠ y) -> Paired (NewL H J6) vs tab := fun G e _ _ _ z U ⟨y, ey, ny⟩ =>
  Paired.mapP z fun _ _ ⟨c, e1, e2, e3⟩ => ⟨c, e1, freeB G e e2, U _ _ e3 fun w => by rw [w, ey] at e3; exact ny _ (Option.some.inj e3).symm⟩
 have NI : ∀ (fs : List (Str × V)) (l : List V), HO.lst l ≠ .ins aMode dx fs := fun _ _ z => by cases z
 refine q ⟨dx, r, lr, n, ln, s, p, lp, a⟩ J6 G6 ⟨e6, keepB b1 U1 er (NI _ _), WaysV.keepB b1 U1 hr, keepB b2 U2 en (NI _ _), TabV.keepB b2 U2 (NewL.tab hn), keepB b3 U3 es (NI _ _), keepB b4 U4 ep (NI _ _), TabV.keepB b4 U4 (NewL.tab hp), keepB b5 U5 ea (NI _ _)⟩ fr (freeB G1 o1 fn) (freeB G2 o2 fs) (freeB G3 o3 fp) (freeB G4 o4 fa) (nH (k := 0) G1 o1 hn U2 ⟨_, b2, NI _⟩) (nH (k := 0) G3 o3 hp U4 ⟨_, b4, NI _⟩)
theorem ok_is_mode {k : Nat} {f : Addr} {fd : FuncData} (F : Fun K "is_mode" "is_mode" s_is_mode f fd) (B : Bl mg) (c_is_room : Fn P w K mg base "is_room" ["value", "many"] k spIsRoom) (c_is_table : Fn P w K mg base "is_table" ["value", "tall", "wide"] k spIsTable) (c_is_numbers : Fn P w K mg base "is_numbers" ["value", "count"] k spIsNumbers) (c_is_whole : Fn P w K mg base "is_whole" ["thing"] k spIsWhole) : FnOk P w K mg base CX0 (k + 1) f fd ["value", "many", "wide"] (spIsMode aMode) := by
 refine F.ok sc_is_mode (fun vs H Q E h => ?_) (fun cdv A outer s H vs Q E hr h => ?_)
 ·obtain ⟨v, m, n, p, rfl, _⟩ := h
  rfl
 obtain ⟨v, m, n, p, rfl, ⟨o, M, rfl, k0⟩, MO, q⟩ := h
 refine ⟨_, (pss_cons (ps_if (PW.pt (pw_or (pt_not (pt_val (pe_callB (show CallR _ _ (rInstO K) from call_isinstO) rfl B.isinstance_ boot_isinstance_ (pa_cons (L2.pvj 0) (pa_cons (pe_cls TMode rfl) pa_nil))))) (pw_or1 (pt_not (pt_val (pe_callF c_is_room hr rfl (pa_cons (pe_fld (L2.pvj 0) rfl) (pa_cons (L2.pvj 1) pa_nil)))))))) (pss_one (ps_ret pe_bl)) pss_nil)
  (pss_cons (ps_if (PW.pt (pw_or (pt_not (pt_val (pe_callF c_is_table hr rfl (pa_cons (pe_fld (L2.pvj 0) rfl) (pa_cons (L2.pvj 1) (pa_cons (L2.pvj 1) pa_nil)))))) (pw_or1 (pt_not (pt_val (pe_callF c_is_table hr rfl (pa_cons (pe_fld (L2.pvj 0) rfl) (pa_cons (L2.pvj 1) (pa_cons (L2.pvj 2) pa_nil))))))))) (pss_one (ps_ret pe_bl)) pss_nil)
  (pss_cons (ps_if (PW.pt (pw_or (pt_not (pt_val (pe_callF c_is_numbers hr rfl (pa_cons (pe_fld (L2.pvj 0) rfl) (pa_cons (L2.pvj 1) pa_nil))))) (pw_or1 (pt_not (pt_val (pe_callF c_is_numbers hr rfl (pa_cons (pe_fld (L2.pvj 0) rfl) (pa_cons (L2.pvj 1) pa_nil)))))))) (pss_one (ps_ret pe_bl)) pss_nil)
  (pss_one (ps_ret (pe_and (pe_callF c_is_whole hr rfl (pa_cons (pe_fld (L2.pvj 0) rfl) pa_nil)) (pe_one (pe_cmpR (ji0 op_ge) (pe_fld (L2.pvj 0) rfl) pe_int (nomark _))))))))), ?_⟩
 try dsimp only [cxOf, Cx.nox, Cx.wish]
 have n3 := MO.n3
 have p6 := MO.p6
 refine ⟨_, rfl, _, _, _, _, rfl, (TMode.ty k0.ins), kit_self, _, rfl, iteF ?_⟩
 refine ⟨_, rfl, o, aMode, M.dx, _, _, rfl, k0.ins, TMode.cl, AMode.n_rows, rfl, _, rfl, M.r, M.rv, m.rows, n, rfl, k0.hr, k0.hrv, MO.few, MO.rows, (by omega), fun H1 s1 => ?_⟩
 refine ⟨_, rfl, iteF ?_⟩
 refine ⟨_, rfl, o, aMode, M.dx, _, _, rfl, (s1 _ _ k0.ins), TMode.cl, AMode.n_nexts, rfl, _, rfl, _, rfl, M.n, M.nv, m.nexts, n, (by rw [MO.nexts.1]; rfl), s1 _ _ k0.hn, k0.hnv.same s1, (by have := MO.nexts.1; omega), MO.nexts.2, (by omega), fun H2 s2 => ?_⟩
 have s12 := s1.trans s2
 refine ⟨_, rfl, iteF ?_⟩
 refine ⟨_, rfl, o, aMode, M.dx, _, _, rfl, (s12 _ _ k0.ins), TMode.cl, AMode.n_push, rfl, _, rfl, _, rfl, M.p, M.pv, m.push, p, (by rw [MO.push.1]; rfl), s12 _ _ k0.hp, k0.hpv.same s12, (by have := MO.push.1; omega), MO.push.2, (by omega), fun H3 s3 => ?_⟩
 have s13 := s12.trans s3
 refine ⟨_, rfl, iteF ?_⟩
 refine ⟨_, rfl, o, aMode, M.dx, _, _, rfl, (s13 _ _ k0.ins), TMode.cl, AMode.n_steer, rfl, _, rfl, M.s, m.steer, (by rw [MO.steer]; rfl), s13 _ _ k0.hs, (by have := MO.steer; omega), fun H4 s4 => ?_⟩
 have s14 := s13.trans s4
 refine ⟨_, rfl, iteF ?_⟩
 refine ⟨_, rfl, o, aMode, M.dx, _, _, rfl, (s14 _ _ k0.ins), TMode.cl, AMode.n_add, rfl, _, rfl, M.a, m.add, (by rw [MO.add]; rfl), s14 _ _ k0.ha, (by have := MO.add; omega), fun H5 s5 => ?_⟩
 have s15 := s14.trans s5
 refine ⟨_, rfl, iteF ?_⟩
 refine ⟨_, rfl, o, aMode, M.dx, _, _, rfl, (s15 _ _ k0.ins), TMode.cl, AMode.n_divisor, rfl, m.div, rfl, _, rfl, iteT ?_⟩
 refine ⟨_, rfl, o, aMode, M.dx, _, _, rfl, (s15 _ _ k0.ins), TMode.cl, AMode.n_divisor, rfl, _, _, rfl, rfl, ?_⟩
 have z : decide (m.div ≥ 1) = true := decide_eq_true MO.div
 show Q (.bl (decide (m.div ≥ 1))) H5
 rw [z]
 exact q _ s15
theorem ok_is_sound {k : Nat} {f : Addr} {fd : FuncData} (F : Fun K "is_sound" "is_sound" s_is_sound f fd) (B : Bl mg) (c_is_whole : Fn P w K mg base "is_whole" ["thing"] k spIsWhole) (c_is_push : Fn P w K mg base "is_push" ["value"] k spIsPush) (c_is_mode : Fn P w K mg base "is_mode" ["value", "many", "wide"] k (spIsMode aMode)) : FnOk P w K mg base CX0 (k + 1) f fd ["many", "pushes", "modes"] (spIsSound aMode) := by
 refine F.ok sc_is_sound (fun vs H Q E h => ?_) (fun cdv A outer s H vs Q E hr h => ?_)
 ·obtain ⟨pa, ma, pv, mv, n, bs, ms, rfl, _⟩ := h
  rfl
 obtain ⟨pa, ma, pv, mv, n, bs, ms, rfl, hpa, hpv, hma, hmv, TO, q⟩ := h
 refine ⟨_, (pss_cons (ps_if (PW.pt (pw_or (pt_not (pt_val (pe_callF c_is_whole hr rfl (pa_cons (L2.pvj 0) pa_nil)))) (pw_or (pt_cmpR (ji0 op_lt) (L2.pvj 0) pe_int (nomark _)) (pw_or1 (pt_cmpR (ji0 op_gt) (L2.pvj 0) (pe_const rfl B.MOST_NUMBERS_) (nomark _)))))) (pss_one (ps_ret pe_bl)) pss_nil)
  (pss_cons (ps_if (PW.pt (pw_or (pt_not (pt_val (pe_callB jinst rfl B.isinstance_ boot_isinstance_ (pa_cons (L2.pvj 1) (pa_cons (pe_bltn (v := .ty "list") (u := .type "list") rfl B.list_ boot_list_ rfl) pa_nil))))) (pw_or1 (pt_not (pt_val (pe_callB (call_all rfl) rfl B.all_ boot_all_ (pa_cons (pe_comp (own := ["push"]) (caps := []) (blk_mk rfl) rfl (pi_list (L2.pvj 1)) (fun _ _ _ _ => pg_name (i := 0) (show (["push"] : List Str).Nodup by decide +kernel) rfl (Or.inl rfl)) (fun _ _ _ _ => (pe_callF c_is_push hr rfl (pa_cons (L2.pvj 0) pa_nil)))) pa_nil))))))) (pss_one (ps_ret pe_bl)) pss_nil)
  (pss_cons (ps_if (PW.pt (pw_or (pt_not (pt_val (pe_callB jinst rfl B.isinstance_ boot_isinstance_ (pa_cons (L2.pvj 2) (pa_cons (pe_bltn (v := .ty "list") (u := .type "list") rfl B.list_ boot_list_ rfl) pa_nil))))) (pw_or1 (pt_cmpR op_eq (pe_callB jlen rfl B.len_ boot_len_ (pa_cons (L2.pvj 2) pa_nil)) pe_int (nomark _))))) (pss_one (ps_ret pe_bl)) pss_nil)
  (pss_one (ps_ret (pe_callB (call_all rfl) rfl B.all_ boot_all_ (pa_cons (pe_comp (own := ["mode"]) (caps := [(0, "many"), (1, "pushes")]) (blk_cap (S := defScope s_is_sound) (N := ["many", "pushes", "modes"]) rfl (by decide +kernel) rfl ⟨_, rfl⟩ rfl (by decide +kernel) (by decide +kernel)) rfl (pi_list (L2.pvj 2)) (fun _ _ _ _ => pg_name (i := 0) (show (["mode", "many", "pushes"] : List Str).Nodup by decide +kernel) rfl (Or.inl rfl)) (fun _ _ _ _ => (pe_callF c_is_mode hr rfl (pa_cons (L2.pvj 0) (pa_cons (L2.pvj 1) (pa_cons (pe_callB (show CallR _ _ (JLen K) from jlen) rfl B.len_ boot_len_ (pa_cons (L2.pvj 2) pa_nil)) pa_nil)))))) pa_nil))))))), ?_⟩
 try dsimp only [cxOf, Cx.nox, Cx.wish]
 have n1 := TO.n1
 have n3 := TO.n3
 have b6 := TO.b6
 have m1 := TO.m1
 have m40 := TO.m40
 have lp : pv.length = bs.length := Paired.length hpv
 have lm : mv.length = ms.length := Paired.length hmv
 refine ⟨_, rfl, (n : Int), rfl, _, rfl, iteF ?_⟩
 refine ⟨_, rfl, _, _, rfl, rfl, _, rfl, iteB0 (decide_eq_false (show ¬ ((n : Int) < 1) by omega)) ?_⟩
 refine ⟨_, rfl, _, _, rfl, rfl, _, rfl, iteB0 (decide_eq_false (show ¬ ((n : Int) > 3) by omega)) ?_⟩
 refine ⟨_, rfl, _, _, _, _, rfl, .lst hpa, kit_list_list K, _, rfl, iteF ?_⟩
 refine ⟨_, rfl, pa, rfl, ⟨_, SqL.of hpa⟩, comp_list (K := K) (a := pa) (xs := pv) (fun i ys σ H' => ys = (List.replicate i true).map V.bl /\ (∃ o, σ = [o]) /\ H' = H)
  ⟨rfl, ⟨none, rfl⟩, rfl⟩ (fun i ys σ H' hi ⟨e1, _, e3⟩ => ⟨by rw [e3]; exact SqL.of hpa, by rw [e1, List.length_map, List.length_replicate]; exact Nat.le_refl _⟩) (Nat.le_of_lt (small1000 (by omega))) ?_ ?_⟩
 ·rintro i x ys σ H' hi ⟨rfl, ⟨o, rfl⟩, rfl⟩
  obtain ⟨b, hb, c, rfl, ec⟩ := paired_get hpv hi
  refine ⟨_, rfl, c, b.1, b.2, rfl, ec, TO.bok b (List.mem_of_getElem? hb), ?_, ⟨_, rfl⟩, rfl⟩
  rw [List.replicate_succ', List.map_append]
  rfl
 rintro ys σ H1 ⟨rfl, ⟨o, rfl⟩, rfl⟩ l1 hl1
 refine ⟨l1, List.replicate _ true, rfl, SqL.of upd_same, ?_⟩
 rw [all_true]
 refine ⟨_, rfl, iteF ?_⟩
 have s1 := same_new hl1 (HO.lst ((List.replicate pv.length true).map V.bl))
 obtain ⟨H2, hH2⟩ : ∃ H2, H2 = upd H1 l1 (HO.lst ((List.replicate pv.length true).map V.bl)) := ⟨_, rfl⟩
 rw [<- hH2] at s1 |-
 have hma2 := s1 _ _ hma
 refine ⟨_, rfl, _, _, _, _, rfl, .lst hma2, kit_list_list K, _, rfl, iteF ?_⟩
 refine ⟨_, rfl, ma, _, rfl, .inl (SqL.of hma2), rfl, _, rfl, iteB0 (dec_no (by omega)) ?_⟩
 refine ⟨_, rfl, ma, rfl, ⟨_, SqL.of hma2⟩, comp_list (K := K) (a := ma) (xs := mv) (fun i ys σ H' => ys = (List.replicate i true).map V.bl /\ (∃ o, σ = [o, some (.int (n : Int)), some (.ref pa)]) /\ Same H2 H')
  ⟨rfl, ⟨none, rfl⟩, Same.refl _⟩ (fun i ys σ H' hi ⟨e1, _, sm⟩ => ⟨SqL.of (sm _ _ hma2), by rw [e1, List.length_map, List.length_replicate]; exact Nat.le_refl _⟩) (Nat.le_of_lt (small1000 (by omega))) ?_ ?_⟩
 ·rintro i x ys σ H' hi ⟨rfl, ⟨o, rfl⟩, sm⟩
  obtain ⟨md, hmd, hx⟩ := paired_get hmv hi
  have s2 := s1.trans sm
  refine ⟨_, rfl, _, rfl, _, rfl, pa, _, rfl, .inl (SqL.of (s2 _ _ hpa)), x, md, n, bs.length, (by rw [lp]; rfl), hx.same s2, TO.mok md (List.mem_of_getElem? hmd), fun H3 s3 => ⟨?_, ⟨_, rfl⟩, sm.trans s3⟩⟩
  rw [List.replicate_succ', List.map_append]
  rfl
 rintro ys σ H3 ⟨rfl, ⟨o, rfl⟩, sm⟩ l hl
 refine ⟨l, List.replicate _ true, rfl, SqL.of upd_same, ?_⟩
 rw [all_true]
 exact q _ (s1.trans (sm.trans (same_new hl _)))
theorem ok_Thing___init__ {k : Nat} {f : Addr} {fd : FuncData} (F : Fun K "__init__" "Thing.__init__" s_Thing___init__ f fd) (B : Bl mg) (c_is_sound : Fn P w K mg base "is_sound" ["many", "pushes", "modes"] k (spIsSound aMode)) : FnOk P w K mg base CX0 (k + 1) f fd ["self", "many", "pushes", "modes"] (spThingInit aThing aMode) := by
 refine F.ok sc_Thing___init__ (fun vs H Q E h => ?_) (fun cdv A outer s H vs Q E hr h => ?_)
 ·obtain ⟨o, dx, pa, ma, pv, mv, n, bs, ms, rfl, _⟩ := h
  rfl
 obtain ⟨o, dx, pa, ma, pv, mv, n, bs, ms, rfl, ho, hpa, hpv, hma, hmv, TO, q⟩ := h
 refine ⟨_, (pss_cons (ps_if (pt_not (pt_val (pe_callF c_is_sound hr rfl (pa_cons (L2.pvj 1) (pa_cons (L2.pvj 2) (pa_cons (L2.pvj 3) pa_nil)))))) (pss_one ps_never) pss_nil)
  (pss_cons (ps_if (PW.pt (pw_or (pt_cmpR (ji0 op_gt) (pe_callB jlen rfl B.len_ boot_len_ (pa_cons (L2.pvj 2) pa_nil)) (pe_const rfl B.MOST_PUSHES_) (nomark _)) (pw_or1 (pt_cmpR (ji0 op_gt) (pe_callB jlen rfl B.len_ boot_len_ (pa_cons (L2.pvj 3) pa_nil)) (pe_const rfl B.MOST_MODES_) (nomark _))))) (pss_one ps_never) pss_nil)
  (pss_cons (ps_fld (L2.pvj 0) (L2.pvj 1) rfl)
  (pss_cons (ps_fld (L2.pvj 0) (pe_callTy call_list_of rfl B.list_ boot_list_ (pa_cons (L2.pvj 2) pa_nil)) rfl)
  (pss_one (ps_fld (L2.pvj 0) (pe_callTy call_list_of rfl B.list_ boot_list_ (pa_cons (L2.pvj 3) pa_nil)) rfl)))))), ?_⟩
 try dsimp only [cxOf, Cx.nox, Cx.wish]
 have b6 := TO.b6
 have m40 := TO.m40
 have lp : pv.length = bs.length := Paired.length hpv
 have lm : mv.length = ms.length := Paired.length hmv
 refine ⟨_, rfl, _, rfl, _, rfl, pa, ma, pv, mv, n, bs, ms, rfl, hpa, hpv, hma, hmv, TO, fun H1 s1 => ?_⟩
 refine ⟨_, rfl, iteF ?_⟩
 refine ⟨_, rfl, pa, _, rfl, .inl (SqL.of (s1 _ _ hpa)), _, _, rfl, rfl, _, rfl, iteB0 (decide_eq_false (show ¬ ((pv.length : Int) > 6) by omega)) ?_⟩
 refine ⟨_, rfl, ma, _, rfl, .inl (SqL.of (s1 _ _ hma)), _, _, rfl, rfl, _, rfl, iteB0 (decide_eq_false (show ¬ ((mv.length : Int) > 40) by omega)) ?_⟩
 have ho1 := s1 _ _ ho
 refine ⟨_, rfl, _, rfl, o, aThing, dx, _, rfl, ho1, TThing.cl, AThing.n_many, (by show 0 < 1000; decide), ?_⟩
 have NI : ∀ (fs : List (Str × V)) (l : List V), HO.lst l ≠ .ins aThing dx fs := fun _ _ z => by cases z
 have e2 := upd_same (H := H1) (a := o) (o := HO.ins aThing dx (putF "many" (.int (n : Int)) []))
 have T2 : SameB o H1 (upd H1 o (HO.ins aThing dx (putF "many" (.int (n : Int)) []))) := sameB_upd o H1 _
 obtain ⟨H2, hH2⟩ : ∃ H2, H2 = upd H1 o (HO.ins aThing dx (putF "many" (.int (n : Int)) [])) := ⟨_, rfl⟩
 rw [<- hH2] at e2 T2 |-
 have hpa2 := keepB ho1 T2 (s1 _ _ hpa) (NI _ _)
 have hma2 := keepB ho1 T2 (s1 _ _ hma) (NI _ _)
 refine ⟨_, rfl, pa, pv, rfl, .inl (SqL.of hpa2), fun kp hkp => ?_⟩
 have z3 := same_new hkp (HO.lst pv)
 have ekp := upd_same (H := H2) (a := kp) (o := HO.lst pv)
 have G2 : SameB o H H2 := (Same.but s1).trans T2
 have nkp := freeB G2 e2 hkp
 obtain ⟨H3, hH3⟩ : ∃ H3, H3 = upd H2 kp (HO.lst pv) := ⟨_, rfl⟩
 rw [<- hH3] at z3 ekp |-
 refine ⟨_, rfl, o, aThing, dx, _, rfl, (z3 _ _ e2), TThing.cl, AThing.n_kept_pushes, (by show 1 < 1000; decide), ?_⟩
 have e4 := upd_same (H := H3) (a := o) (o := HO.ins aThing dx (putF "kept_pushes" (.ref kp) (putF "many" (.int (n : Int)) [])))
 have T4 : SameB o H3 (upd H3 o (HO.ins aThing dx (putF "kept_pushes" (.ref kp) (putF "many" (.int (n : Int)) [])))) := sameB_upd o H3 _
 obtain ⟨H4, hH4⟩ : ∃ H4, H4 = upd H3 o (HO.ins aThing dx (putF "kept_pushes" (.ref kp) (putF "many" (.int (n : Int)) []))) := ⟨_, rfl⟩
 rw [<- hH4] at e4 T4 |-
 have e23 := z3 _ _ e2
 have hma4 := keepB e23 T4 (z3 _ _ hma2) (NI _ _)
 have hkp4 := keepB e23 T4 ekp (NI _ _)
 refine ⟨_, rfl, ma, mv, rfl, .inl (SqL.of hma4), fun km hkm => ?_⟩
 have z5 := same_new hkm (HO.lst mv)
 have ekm := upd_same (H := H4) (a := km) (o := HO.lst mv)
 have G4 : SameB o H H4 := G2.trans ((Same.but z3).trans T4)
 have nkm := freeB G4 e4 hkm
 have nkk : kp ≠ km := ne_of_none hkp4 hkm
 obtain ⟨H5, hH5⟩ : ∃ H5, H5 = upd H4 km (HO.lst mv) := ⟨_, rfl⟩
 rw [<- hH5] at z5 ekm |-
 have e45 := z5 _ _ e4
 refine ⟨_, rfl, o, aThing, dx, _, rfl, (z5 _ _ e4), TThing.cl, AThing.n_kept_modes, (by show 2 < 1000; decide), ?_⟩
 have T6 : SameB o H5 (upd H5 o (HO.ins aThing dx (putF "kept_modes" (.ref km) (putF "kept_pushes" (.ref kp) (putF "many" (.int (n : Int)) []))))) := sameB_upd o H5 _
 exact q kp km _ (G4.trans ((Same.but z5).trans T6)) nkp nkm nkk upd_same (keepB e45 T6 (z5 _ _ hkp4) (NI _ _)) (keepB e45 T6 ekm (NI _ _))
theorem ok_Thing_pushes {k : Nat} {f : Addr} {fd : FuncData} (F : Fun K "pushes" "Thing.pushes" s_Thing_pushes f fd) (B : Bl mg) : FnOk P w K mg base CX0 (k + 1) f fd ["self"] (spPushes aThing aMode) := by
 refine F.ok sc_Thing_pushes (fun vs H Q E h => ?_) (fun cdv A outer s H vs Q E hr h => ?_)
 ·obtain ⟨o, kp, km, n, bs, ms, pv, mv, rfl, _⟩ := h
  rfl
 obtain ⟨o, kp, km, n, bs, ms, pv, mv, rfl, TA, q⟩ := h
 refine ⟨_, (pss_one (ps_ret (pe_callTy call_list_of rfl B.list_ boot_list_ (pa_cons (pe_fld (L2.pvj 0) rfl) pa_nil)))), ?_⟩
 try dsimp only [cxOf, Cx.nox, Cx.wish]
 obtain ⟨dx, ins⟩ := TA.ins
 refine ⟨_, rfl, o, aThing, dx, _, _, rfl, ins, TThing.cl, AThing.n_kept_pushes, rfl, kp, pv, rfl, .inl (SqL.of TA.hp), fun l hl => ?_⟩
 exact q l _ (same_new hl _) hl upd_same
theorem ok_Thing_modes {k : Nat} {f : Addr} {fd : FuncData} (F : Fun K "modes" "Thing.modes" s_Thing_modes f fd) (B : Bl mg) : FnOk P w K mg base CX0 (k + 1) f fd ["self"] (spModes aThing aMode) := by
 refine F.ok sc_Thing_modes (fun vs H Q E h => ?_) (fun cdv A outer s H vs Q E hr h => ?_)
 ·obtain ⟨o, kp, km, n, bs, ms, pv, mv, rfl, _⟩ := h
  rfl
 obtain ⟨o, kp, km, n, bs, ms, pv, mv, rfl, TA, q⟩ := h
 refine ⟨_, (pss_one (ps_ret (pe_callTy call_list_of rfl B.list_ boot_list_ (pa_cons (pe_fld (L2.pvj 0) rfl) pa_nil)))), ?_⟩
 try dsimp only [cxOf, Cx.nox, Cx.wish]
 obtain ⟨dx, ins⟩ := TA.ins
 refine ⟨_, rfl, o, aThing, dx, _, _, rfl, ins, TThing.cl, AThing.n_kept_modes, rfl, km, mv, rfl, .inl (SqL.of TA.hm), fun l hl => ?_⟩
 exact q l _ (same_new hl _) hl upd_same
theorem ok_is_unsteered {k : Nat} {f : Addr} {fd : FuncData} (F : Fun K "is_unsteered" "is_unsteered" s_is_unsteered f fd) (B : Bl mg) : FnOk P w K mg base CX0 (k + 1) f fd ["mode"] (spUnsteered aMode) := by
 refine F.ok sc_is_unsteered (fun vs H Q E h => ?_) (fun cdv A outer s H vs Q E hr h => ?_)
 ·obtain ⟨v, m, rfl, _⟩ := h
  rfl
 obtain ⟨v, m, rfl, ⟨o, M, rfl, k0⟩, few, q⟩ := h
 refine ⟨_, (pss_one (ps_ret (pe_callB (call_all rfl) rfl B.all_ boot_all_ (pa_cons (pe_comp (own := ["number"]) (caps := []) (blk_mk rfl) rfl (pi_list (pe_fld (L2.pvj 0) rfl)) (fun _ _ _ _ => pg_name (i := 0) (show (["number"] : List Str).Nodup by decide +kernel) rfl (Or.inl rfl)) (fun _ _ _ _ => (pe_cmpR op_eq (L2.pvj 0) pe_int (nomark _)))) pa_nil)))), ?_⟩
 try dsimp only [cxOf, Cx.nox, Cx.wish]
 refine ⟨_, rfl, o, aMode, M.dx, _, _, rfl, k0.ins, TMode.cl, AMode.n_steer, rfl, M.s, rfl, ⟨_, SqL.of k0.hs⟩, comp_list (K := K) (a := M.s) (xs := m.steer.map V.int) (fun i ys σ H' => ys = ((m.steer.take i).map (fun x => decide (x = 0))).map V.bl /\ (∃ o, σ = [o]) /\ H' = H)
  ⟨rfl, ⟨none, rfl⟩, rfl⟩ (fun i ys σ H' hi ⟨e1, _, e3⟩ => ⟨by rw [e3]; exact SqL.of k0.hs, by rw [e1, List.length_map, List.length_map, List.length_take]; exact Nat.min_le_left _ _⟩) (by rw [List.length_map]; exact Nat.le_of_lt (small1000 (by omega))) ?_ ?_⟩
 ·rintro i x ys σ H' hi ⟨rfl, ⟨o, rfl⟩, rfl⟩
  obtain ⟨z, hz, rfl⟩ := ints_get hi
  refine ⟨_, rfl, rfl, ?_, ⟨_, rfl⟩, rfl⟩
  rw [take_snoc hz, List.map_append, List.map_append]
  show _ = _ ++ [V.bl (decide (z = 0))]
  rw [<- dec_intS]
  all_goals rfl
 rintro ys σ H' ⟨rfl, ⟨o, rfl⟩, rfl⟩ l hl
 refine ⟨l, (m.steer.take (m.steer.map V.int).length).map (fun x => decide (x = 0)), rfl, SqL.of upd_same, ?_⟩
 have e : ((m.steer.take (m.steer.map V.int).length).map (fun x => decide (x = 0))).all id = m.steer.all (fun x => decide (x = 0)) := by
  rw [List.all_map, List.length_map, List.take_length]
  rfl
 rw [e]
 exact q _ (same_new hl _)
theorem ok_Thing_is_closed {k : Nat} {f : Addr} {fd : FuncData} (F : Fun K "is_closed" "Thing.is_closed" s_Thing_is_closed f fd) (B : Bl mg) (c_is_unsteered : Fn P w K mg base "is_unsteered" ["mode"] k (spUnsteered aMode)) : FnOk P w K mg base CX0 (k + 1) f fd ["self"] (spClosed aThing aMode) := by
 refine F.ok sc_Thing_is_closed (fun vs H Q E h => ?_) (fun cdv A outer s H vs Q E hr h => ?_)
 ·obtain ⟨o, kp, km, n, bs, ms, pv, mv, rfl, _⟩ := h
  rfl
 obtain ⟨o, kp, km, n, bs, ms, pv, mv, rfl, TA, TO, q⟩ := h
 refine ⟨_, (pss_one (ps_ret (pe_callB (call_all rfl) rfl B.all_ boot_all_ (pa_cons (pe_comp (own := ["mode"]) (caps := []) (blk_mk rfl) rfl (pi_list (pe_fld (L2.pvj 0) rfl)) (fun _ _ _ _ => pg_name (i := 0) (show (["mode"] : List Str).Nodup by decide +kernel) rfl (Or.inl rfl)) (fun _ _ _ _ => (pe_callF c_is_unsteered hr rfl (pa_cons (L2.pvj 0) pa_nil)))) pa_nil)))), ?_⟩
 try dsimp only [cxOf, Cx.nox, Cx.wish]
 obtain ⟨dx, ins⟩ := TA.ins
 have m40 := TO.m40
 have lm : mv.length = ms.length := Paired.length TA.hmv
 refine ⟨_, rfl, o, aThing, dx, _, _, rfl, ins, TThing.cl, AThing.n_kept_modes, rfl, km, rfl, ⟨_, SqL.of TA.hm⟩, comp_list (K := K) (a := km) (xs := mv) (fun i ys σ H' => ys = ((ms.take i).map (fun m => m.steer.all (fun x => decide (x = 0)))).map V.bl /\ (∃ o, σ = [o]) /\ Same H H')
  ⟨rfl, ⟨none, rfl⟩, Same.refl _⟩ (fun i ys σ H' hi ⟨e1, _, sm⟩ => ⟨SqL.of (sm _ _ TA.hm), by rw [e1, List.length_map, List.length_map, List.length_take]; exact Nat.min_le_left _ _⟩) (Nat.le_of_lt (small1000 (by omega))) ?_ ?_⟩
 ·rintro i x ys σ H' hi ⟨rfl, ⟨o, rfl⟩, sm⟩
  obtain ⟨md, hmd, hx⟩ := paired_get TA.hmv hi
  have mo := TO.mok md (List.mem_of_getElem? hmd)
  refine ⟨_, rfl, x, md, rfl, hx.same sm, (by have := mo.steer; have := mo.n3; omega), fun H2 s2 => ⟨?_, ⟨_, rfl⟩, sm.trans s2⟩⟩
  rw [take_snoc hmd, List.map_append, List.map_append]
  rfl
 rintro ys σ H' ⟨rfl, ⟨o, rfl⟩, sm⟩ l hl
 refine ⟨l, (ms.take mv.length).map (fun m => m.steer.all (fun x => decide (x = 0))), rfl, SqL.of upd_same, ?_⟩
 have e : ((ms.take mv.length).map (fun m => m.steer.all (fun x => decide (x = 0)))).all id = ms.all fun m => m.steer.all (fun x => decide (x = 0)) := by
  rw [List.all_map, lm, List.take_length]
  rfl
 rw [e]
 exact q _ (sm.trans (same_new hl _))
theorem ok_Straight___init__ {k : Nat} {f : Addr} {fd : FuncData} {dv : Value} (F : FunD K "__init__" "Straight.__init__" s_Straight___init__ f fd dv) (B : Bl mg) (c_copied : FnD P w K mg base "copied" ["value", "depth"] k spC2 (.int 5)) : FnOk P w K mg base CX0 (k + 1) f fd ["self", "numbers", "add", "divisor"] (spStraightInit aStraight) := by
 refine F.ok sc_Straight___init__ (fun vs H Q E h => ?_) (fun cdv A outer s H vs Q E hr h => ?_)
 ·obtain ⟨o, dx, la, ns, a, d, rfl, _⟩ := h
  rfl
 obtain ⟨o, dx, la, ns, a, d, rfl, ho, hla, few, q⟩ := h
 refine ⟨_, (pss_cons (ps_fld (L2.pvj 0) (pe_callF1 c_copied hr rfl (pa_cons (L2.pvj 1) pa_nil)) rfl)
  (pss_cons (ps_fld (L2.pvj 0) (L2.pvj 2) rfl)
  (pss_one (ps_fld (L2.pvj 0) (L2.pvj 3) rfl)))), ?_⟩
 try dsimp only [cxOf, Cx.nox, Cx.wish]
 refine ⟨_, rfl, .inl (.inr (.inl ⟨la, ns, 5, rfl, (by decide), hla, few, fun l H1 s1 fl el => ?_⟩))⟩
 have ho1 := s1 _ _ ho
 refine ⟨_, rfl, o, aStraight, dx, _, rfl, ho1, TStraight.cl, AStraight.n_numbers, (by show 0 < 1000; decide), ?_⟩
 have o1 := upd_same (H := H1) (a := o) (o := HO.ins aStraight dx (putF "numbers" (.ref l) []))
 have T1 : SameB o H1 (upd H1 o (HO.ins aStraight dx (putF "numbers" (.ref l) []))) := sameB_upd o H1 _
 obtain ⟨J1, hJ1⟩ : ∃ J, J = upd H1 o (HO.ins aStraight dx (putF "numbers" (.ref l) [])) := ⟨_, rfl⟩
 rw [<- hJ1] at o1 T1 |-
 refine ⟨_, rfl, _, rfl, o, aStraight, dx, _, rfl, o1, TStraight.cl, AStraight.n_add, (by show 1 < 1000; decide), ?_⟩
 have o2 := upd_same (H := J1) (a := o) (o := HO.ins aStraight dx (putF "add" (.int a) (putF "numbers" (.ref l) [])))
 have T2 : SameB o J1 (upd J1 o (HO.ins aStraight dx (putF "add" (.int a) (putF "numbers" (.ref l) [])))) := sameB_upd o J1 _
 obtain ⟨J2, hJ2⟩ : ∃ J, J = upd J1 o (HO.ins aStraight dx (putF "add" (.int a) (putF "numbers" (.ref l) []))) := ⟨_, rfl⟩
 rw [<- hJ2] at o2 T2 |-
 refine ⟨_, rfl, _, rfl, o, aStraight, dx, _, rfl, o2, TStraight.cl, AStraight.n_divisor, (by show 2 < 1000; decide), ?_⟩
 have o3 := upd_same (H := J2) (a := o) (o := HO.ins aStraight dx (putF "divisor" (.int d) (putF "add" (.int a) (putF "numbers" (.ref l) []))))
 have T3 : SameB o J2 (upd J2 o (HO.ins aStraight dx (putF "divisor" (.int d) (putF "add" (.int a) (putF "numbers" (.ref l) []))))) := sameB_upd o J2 _
 obtain ⟨J3, hJ3⟩ : ∃ J, J = upd J2 o (HO.ins aStraight dx (putF "divisor" (.int d) (putF "add" (.int a) (putF "numbers" (.ref l) [])))) := ⟨_, rfl⟩
 rw [<- hJ3] at o3 T3 |-
 have T13 : SameB o H1 J3 := T1.trans (T2.trans T3)
 exact q l J3 ((Same.but s1).trans T13) fl (o3.trans (by rw [str_put])) (keepB ho1 T13 el (fun z => by cases z))
theorem ok_Stopped___init__ {k : Nat} {f : Addr} {fd : FuncData} (F : Fun K "__init__" "Stopped.__init__" s_Stopped___init__ f fd) (B : Bl mg) : FnOk P w K mg base CX0 (k + 1) f fd ["self", "rule", "low", "high"] (spStoppedInit aStopped) := by
 refine F.ok sc_Stopped___init__ (fun vs H Q E h => ?_) (fun cdv A outer s H vs Q E hr h => ?_)
 ·obtain ⟨o, dx, u, lo, hi, rfl, _⟩ := h
  rfl
 obtain ⟨o, dx, u, lo, hi, rfl, ho, q⟩ := h
 refine ⟨_, (pss_cons (ps_fld (L2.pvj 0) (L2.pvj 1) rfl)
  (pss_cons (ps_fld (L2.pvj 0) (L2.pvj 2) rfl)
  (pss_one (ps_fld (L2.pvj 0) (L2.pvj 3) rfl)))), ?_⟩
 try dsimp only [cxOf, Cx.nox, Cx.wish]
 obtain ⟨H1, hH1⟩ : ∃ H1, H1 = H := ⟨_, rfl⟩
 rw [<- hH1] at ho q |-
 have ho1 := ho
 refine ⟨_, rfl, _, rfl, o, aStopped, dx, _, rfl, ho1, TStopped.cl, AStopped.n_rule, (by show 0 < 1000; decide), ?_⟩
 have o1 := upd_same (H := H1) (a := o) (o := HO.ins aStopped dx (putF "rule" u []))
 have T1 : SameB o H1 (upd H1 o (HO.ins aStopped dx (putF "rule" u []))) := sameB_upd o H1 _
 obtain ⟨J1, hJ1⟩ : ∃ J, J = upd H1 o (HO.ins aStopped dx (putF "rule" u [])) := ⟨_, rfl⟩
 rw [<- hJ1] at o1 T1 |-
 refine ⟨_, rfl, _, rfl, o, aStopped, dx, _, rfl, o1, TStopped.cl, AStopped.n_low, (by show 1 < 1000; decide), ?_⟩
 have o2 := upd_same (H := J1) (a := o) (o := HO.ins aStopped dx (putF "low" (.int lo) (putF "rule" u [])))
 have T2 : SameB o J1 (upd J1 o (HO.ins aStopped dx (putF "low" (.int lo) (putF "rule" u [])))) := sameB_upd o J1 _
 obtain ⟨J2, hJ2⟩ : ∃ J, J = upd J1 o (HO.ins aStopped dx (putF "low" (.int lo) (putF "rule" u []))) := ⟨_, rfl⟩
 rw [<- hJ2] at o2 T2 |-
 refine ⟨_, rfl, _, rfl, o, aStopped, dx, _, rfl, o2, TStopped.cl, AStopped.n_high, (by show 2 < 1000; decide), ?_⟩
 have o3 := upd_same (H := J2) (a := o) (o := HO.ins aStopped dx (putF "high" (.int hi) (putF "low" (.int lo) (putF "rule" u []))))
 have T3 : SameB o J2 (upd J2 o (HO.ins aStopped dx (putF "high" (.int hi) (putF "low" (.int lo) (putF "rule" u []))))) := sameB_upd o J2 _
 obtain ⟨J3, hJ3⟩ : ∃ J, J = upd J2 o (HO.ins aStopped dx (putF "high" (.int hi) (putF "low" (.int lo) (putF "rule" u [])))) := ⟨_, rfl⟩
 rw [<- hJ3] at o3 T3 |-
 have T13 : SameB o H1 J3 := T1.trans (T2.trans T3)
 exact q J3 T13 (o3.trans (by rw [stp_put]))
theorem ok_Parted___init__ {k : Nat} {f : Addr} {fd : FuncData} (F : Fun K "__init__" "Parted.__init__" s_Parted___init__ f fd) (B : Bl mg) (c_copied : FnD P w K mg base "copied" ["value", "depth"] k spC2 (.int 5)) : FnOk P w K mg base CX0 (k + 1) f fd ["self", "row", "rule", "other"] (spPartedInit aParted) := by
 refine F.ok sc_Parted___init__ (fun vs H Q E h => ?_) (fun cdv A outer s H vs Q E hr h => ?_)
 ·obtain ⟨o, dx, ra, r, u, w, rfl, _⟩ := h
  rfl
 obtain ⟨o, dx, ra, r, u, w, rfl, ho, hra, few, q⟩ := h
 refine ⟨_, (pss_cons (ps_fld (L2.pvj 0) (pe_callF1 c_copied hr rfl (pa_cons (L2.pvj 1) pa_nil)) rfl)
  (pss_cons (ps_fld (L2.pvj 0) (L2.pvj 2) rfl)
  (pss_one (ps_fld (L2.pvj 0) (L2.pvj 3) rfl)))), ?_⟩
 try dsimp only [cxOf, Cx.nox, Cx.wish]
 refine ⟨_, rfl, .inl (.inr (.inr ⟨ra, r, 5, rfl, (by decide), hra, few, fun l H1 s1 fl el => ?_⟩))⟩
 have ho1 := s1 _ _ ho
 refine ⟨_, rfl, o, aParted, dx, _, rfl, ho1, TParted.cl, AParted.n_row, (by show 0 < 1000; decide), ?_⟩
 have o1 := upd_same (H := H1) (a := o) (o := HO.ins aParted dx (putF "row" (.ref l) []))
 have T1 : SameB o H1 (upd H1 o (HO.ins aParted dx (putF "row" (.ref l) []))) := sameB_upd o H1 _
 obtain ⟨J1, hJ1⟩ : ∃ J, J = upd H1 o (HO.ins aParted dx (putF "row" (.ref l) [])) := ⟨_, rfl⟩
 rw [<- hJ1] at o1 T1 |-
 refine ⟨_, rfl, _, rfl, o, aParted, dx, _, rfl, o1, TParted.cl, AParted.n_rule, (by show 1 < 1000; decide), ?_⟩
 have o2 := upd_same (H := J1) (a := o) (o := HO.ins aParted dx (putF "rule" u (putF "row" (.ref l) [])))
 have T2 : SameB o J1 (upd J1 o (HO.ins aParted dx (putF "rule" u (putF "row" (.ref l) [])))) := sameB_upd o J1 _
 obtain ⟨J2, hJ2⟩ : ∃ J, J = upd J1 o (HO.ins aParted dx (putF "rule" u (putF "row" (.ref l) []))) := ⟨_, rfl⟩
 rw [<- hJ2] at o2 T2 |-
 refine ⟨_, rfl, _, rfl, o, aParted, dx, _, rfl, o2, TParted.cl, AParted.n_other, (by show 2 < 1000; decide), ?_⟩
 have o3 := upd_same (H := J2) (a := o) (o := HO.ins aParted dx (putF "other" w (putF "rule" u (putF "row" (.ref l) []))))
 have T3 : SameB o J2 (upd J2 o (HO.ins aParted dx (putF "other" w (putF "rule" u (putF "row" (.ref l) []))))) := sameB_upd o J2 _
 obtain ⟨J3, hJ3⟩ : ∃ J, J = upd J2 o (HO.ins aParted dx (putF "other" w (putF "rule" u (putF "row" (.ref l) [])))) := ⟨_, rfl⟩
 rw [<- hJ3] at o3 T3 |-
 have T13 : SameB o H1 J3 := T1.trans (T2.trans T3)
 exact q l J3 ((Same.but s1).trans T13) fl (o3.trans (by rw [prt_put])) (keepB ho1 T13 el (fun z => by cases z))
end
section
variable {P : Program} {w : World} {K : PySem.W.Frag} {mg : Str -> Option Value} {base : Heap}
noncomputable abbrev s_other_side : Stmt := top 24
theorem sc_other_side : FnScope ["row"] ["row"] (defScope s_other_side) := ⟨rfl, rfl, rfl, by decide +kernel, rfl, by decide +kernel, by decide +kernel⟩
noncomputable abbrev s_is_straight : Stmt := top 32
theorem sc_is_straight : FnScope ["value", "many"] ["value", "many"] (defScope s_is_straight) := ⟨rfl, rfl, rfl, by decide +kernel, rfl, by decide +kernel, by decide +kernel⟩
noncomputable abbrev s_are_stops : Stmt := top 33
theorem sc_are_stops : FnScope ["low", "high"] ["low", "high"] (defScope s_are_stops) := ⟨rfl, rfl, rfl, by decide +kernel, rfl, by decide +kernel, by decide +kernel⟩
noncomputable abbrev s_is_rule : Stmt := top 31
theorem sc_is_rule : FnScope ["value", "many"] ["value", "many"] (defScope s_is_rule) := ⟨rfl, rfl, rfl, by decide +kernel, rfl, by decide +kernel, by decide +kernel⟩
noncomputable abbrev s_piece_count : Stmt := top 34
theorem sc_piece_count : FnScope ["rule"] ["rule"] (defScope s_piece_count) := ⟨rfl, rfl, rfl, by decide +kernel, rfl, by decide +kernel, by decide +kernel⟩
noncomputable abbrev s_stop_row : Stmt := top 39
theorem sc_stop_row : FnScope ["straight", "stop"] ["straight", "stop"] (defScope s_stop_row) := ⟨rfl, rfl, rfl, by decide +kernel, rfl, by decide +kernel, by decide +kernel⟩
noncomputable abbrev s_stopped_pieces : Stmt := top 38
theorem sc_stopped_pieces : FnScope ["rule", "told", "rows", "straight", "noughts", "low_row", "high_row"] ["rule"] (defScope s_stopped_pieces) := ⟨rfl, rfl, rfl, by decide +kernel, rfl, by decide +kernel, by decide +kernel⟩
noncomputable abbrev s_parted_pieces : Stmt := top 37
theorem sc_parted_pieces : FnScope ["rule", "turned_about", "ones", "others"] ["rule"] (defScope s_parted_pieces) := ⟨rfl, rfl, rfl, by decide +kernel, rfl, by decide +kernel, by decide +kernel⟩
noncomputable abbrev s_listed : Stmt := top 36
theorem sc_listed : FnScope ["rule"] ["rule"] (defScope s_listed) := ⟨rfl, rfl, rfl, by decide +kernel, rfl, by decide +kernel, by decide +kernel⟩
noncomputable abbrev s_pieces : Stmt := top 35
theorem sc_pieces : FnScope ["rule", "many"] ["rule", "many"] (defScope s_pieces) := ⟨rfl, rfl, rfl, by decide +kernel, rfl, by decide +kernel, by decide +kernel⟩
variable {aStraight aStopped aParted aMode aThing : Addr} (TStraight : ClsF K mg "Straight" aStraight) (AStraight : AtStraight K aStraight) (TStopped : ClsF K mg "Stopped" aStopped) (AStopped : AtStopped K aStopped) (TParted : ClsF K mg "Parted" aParted) (AParted : AtParted K aParted) (TMode : ClsF K mg "Mode" aMode) (AMode : AtMode K aMode) (TThing : ClsF K mg "Thing" aThing) (AThing : AtThing K aThing) (Y : Kits K aStraight aStopped aParted)
include TStraight AStraight TStopped AStopped TParted AParted TMode AMode TThing AThing Y
theorem ok_other_side {k : Nat} {f : Addr} {fd : FuncData} (F : Fun K "other_side" "other_side" s_other_side f fd) (B : Bl mg) : FnOk P w K mg base CX0 (k + 1) f fd ["row"] spOther := by
 refine F.ok sc_other_side (fun vs H Q E h => ?_) (fun cdv A outer s H vs Q E hr h => ?_)
 ·obtain ⟨ra, r, rfl, _⟩ := h
  rfl
 obtain ⟨ra, r, rfl, hra, few, q⟩ := h
 refine ⟨_, (pss_one (ps_ret (pe_callTy jtup rfl B.tuple_ boot_tuple_ (pa_cons (pe_comp (own := ["number"]) (caps := []) (blk_mk rfl) rfl (pi_tup (L2.pvj 0)) (fun _ _ _ _ => pg_name (i := 0) (show (["number"] : List Str).Nodup by decide +kernel) rfl (Or.inl rfl)) (fun _ _ _ _ => (pe_un un_neg (L2.pvj 0)))) pa_nil)))), ?_⟩
 try dsimp only [cxOf, Cx.nox, Cx.wish]
 refine ⟨_, rfl, ra, rfl, ⟨_, SqT.of hra⟩, comp_tup (K := K) (a := ra) (xs := r.map V.int) (fun i ys σ H' => ys = ((r.take i).map (fun x => -x)).map V.int /\ (∃ o, σ = [o]) /\ H' = H)
  ⟨rfl, ⟨none, rfl⟩, rfl⟩ (fun i ys σ H' hi ⟨e1, _, e3⟩ => ⟨by rw [e3]; exact SqT.of hra, by rw [e1, List.length_map, List.length_map, List.length_take]; exact Nat.min_le_left _ _⟩) (by rw [List.length_map]; exact Nat.le_of_lt (small1000 (by omega))) ?_ ?_⟩
 ·rintro i x ys σ H' hi ⟨rfl, ⟨o, rfl⟩, rfl⟩
  obtain ⟨z, hz, rfl⟩ := ints_get hi
  refine ⟨_, rfl, _, rfl, ?_, ⟨_, rfl⟩, rfl⟩
  rw [take_snoc hz, List.map_append, List.map_append]
  rfl
 rintro ys σ H' ⟨rfl, ⟨o, rfl⟩, rfl⟩ l hl
 refine ⟨l, _, rfl, .inl ⟨SqL.of upd_same, fun t ht => ?_⟩⟩
 refine q t _ ((same_new hl _).trans (same_new ht _)) ((same_new hl _).free ht) (upd_same.trans ?_)
 rw [List.length_map, List.take_length]
 rfl
theorem ok_is_straight {k : Nat} {f : Addr} {fd : FuncData} (F : Fun K "is_straight" "is_straight" s_is_straight f fd) (B : Bl mg) (c_is_numbers : Fn P w K mg base "is_numbers" ["value", "count"] k spIsNumbers) (c_is_whole : Fn P w K mg base "is_whole" ["thing"] k spIsWhole) : FnOk P w K mg base CX0 (k + 1) f fd ["value", "many"] (spIsStraight aStraight aStopped aParted) := by
 refine F.ok sc_is_straight (fun vs H Q E h => ?_) (fun cdv A outer s H vs Q E hr h => ?_)
 ·obtain ⟨v, n, ns, a, d, rfl, _⟩ := h
  rfl
 obtain ⟨v, n, ns, a, d, rfl, hR, hn, few, d0, q⟩ := h
 refine ⟨_, (pss_cons (ps_if (PW.pt (pw_or (pt_not (pt_val (pe_callB (show CallR _ _ (rInstO K) from call_isinstO) rfl B.isinstance_ boot_isinstance_ (pa_cons (L2.pvj 0) (pa_cons (pe_cls TStraight rfl) pa_nil))))) (pw_or1 (pt_not (pt_val (pe_callF c_is_numbers hr rfl (pa_cons (pe_fld (L2.pvj 0) rfl) (pa_cons (L2.pvj 1) pa_nil)))))))) (pss_one (ps_ret pe_bl)) pss_nil)
  (pss_one (ps_ret (pe_and (pe_callF c_is_whole hr rfl (pa_cons (pe_fld (L2.pvj 0) rfl) pa_nil)) (pe_and (pe_callF c_is_whole hr rfl (pa_cons (pe_fld (L2.pvj 0) rfl) pa_nil)) (pe_one (pe_cmpR (ji0 op_ge) (pe_fld (L2.pvj 0) rfl) pe_int (nomark _)))))))), ?_⟩
 try dsimp only [cxOf, Cx.nox, Cx.wish]
 obtain ⟨o, dx, la, rfl, ins, ela⟩ := hR
 refine ⟨_, rfl, _, _, _, _, rfl, (TStraight.ty ins), kit_self, _, rfl, iteF ?_⟩
 refine ⟨_, rfl, o, aStraight, dx, _, _, rfl, ins, TStraight.cl, AStraight.n_numbers, rfl, _, rfl, la, ns, (by rw [hn]; rfl), ela, (by omega), fun H1 s1 => ⟨_, rfl, iteF ?_⟩⟩
 refine ⟨_, rfl, o, aStraight, dx, _, _, rfl, (s1 _ _ ins), TStraight.cl, AStraight.n_add, rfl, a, rfl, _, rfl, iteT ?_⟩
 refine ⟨_, rfl, o, aStraight, dx, _, _, rfl, (s1 _ _ ins), TStraight.cl, AStraight.n_divisor, rfl, d, rfl, _, rfl, iteT ?_⟩
 refine ⟨_, rfl, o, aStraight, dx, _, _, rfl, (s1 _ _ ins), TStraight.cl, AStraight.n_divisor, rfl, _, _, rfl, rfl, ?_⟩
 have z : decide ((1 : Int) <= d) = true := decide_eq_true (by omega)
 show Q (.bl (decide ((1 : Int) <= d))) H1
 rw [z]
 exact q H1 s1
theorem ok_are_stops {k : Nat} {f : Addr} {fd : FuncData} (F : Fun K "are_stops" "are_stops" s_are_stops f fd) (B : Bl mg) (c_is_whole : Fn P w K mg base "is_whole" ["thing"] k spIsWhole) : FnOk P w K mg base CX0 (k + 1) f fd ["low", "high"] spStops := by
 refine F.ok sc_are_stops (fun vs H Q E h => ?_) (fun cdv A outer s H vs Q E hr h => ?_)
 ·obtain ⟨lo, hi, rfl, _⟩ := h
  rfl
 obtain ⟨lo, hi, rfl, lh, q⟩ := h
 refine ⟨_, (pss_one (ps_ret (pe_and (pe_callF c_is_whole hr rfl (pa_cons (L2.pvj 0) pa_nil)) (pe_and (pe_callF c_is_whole hr rfl (pa_cons (L2.pvj 1) pa_nil)) (pe_one (pe_cmpR (ji0 op_le) (L2.pvj 0) (L2.pvj 1) (nomark _))))))), ?_⟩
 try dsimp only [cxOf, Cx.nox, Cx.wish]
 refine ⟨_, rfl, lo, rfl, _, rfl, iteT ?_⟩
 refine ⟨_, rfl, hi, rfl, _, rfl, iteT ?_⟩
 refine ⟨_, rfl, _, rfl, _, _, rfl, rfl, ?_⟩
 have z : decide (lo <= hi) = true := decide_eq_true lh
 show Q (.bl (decide (lo <= hi))) H
 rw [z]
 exact q
theorem ok_is_rule {k : Nat} {f : Addr} {fd : FuncData} {d : Nat} (F : Fun K "is_rule" "is_rule" s_is_rule f fd) (B : Bl mg) (c_is_straight : Fn P w K mg base "is_straight" ["value", "many"] k (spIsStraight aStraight aStopped aParted)) (c_is_rule : Fn P w K mg base "is_rule" ["value", "many"] k (spIsRule aStraight aStopped aParted d)) (c_are_stops : Fn P w K mg base "are_stops" ["low", "high"] k spStops) (c_is_row : Fn P w K mg base "is_row" ["value", "many"] k spIsRow) : FnOk P w K mg base CX0 (k + 1) f fd ["value", "many"] (spIsRule aStraight aStopped aParted (d + 1)) := by
 refine F.ok sc_is_rule (fun vs H Q E h => ?_) (fun cdv A outer s H vs Q E hr h => ?_)
 ·obtain ⟨v, n, t, rfl, _⟩ := h
  rfl
 obtain ⟨v, n, t, rfl, dp, hR, S, n8, q⟩ := h
 refine ⟨_, (pss_cons (ps_if (pt_val (pe_callB (show CallR _ _ (rInstO K) from call_isinstO) rfl B.isinstance_ boot_isinstance_ (pa_cons (L2.pvj 0) (pa_cons (pe_cls TStraight rfl) pa_nil)))) (pss_one (ps_ret (pe_callF c_is_straight hr rfl (pa_cons (L2.pvj 0) (pa_cons (L2.pvj 1) pa_nil))))) pss_nil)
  (pss_cons (ps_if (pt_val (pe_callB (show CallR _ _ (rInstO K) from call_isinstO) rfl B.isinstance_ boot_isinstance_ (pa_cons (L2.pvj 0) (pa_cons (pe_cls TStopped rfl) pa_nil)))) (pss_one (ps_ret (pe_and (pe_callF c_are_stops hr rfl (pa_cons (pe_fld (L2.pvj 0) rfl) (pa_cons (pe_fld (L2.pvj 0) rfl) pa_nil))) (pe_one (pe_callF c_is_rule hr rfl (pa_cons (pe_fld (L2.pvj 0) rfl) (pa_cons (L2.pvj 1) pa_nil))))))) pss_nil)
  (pss_cons (ps_if (pt_val (pe_callB (show CallR _ _ (rInstO K) from call_isinstO) rfl B.isinstance_ boot_isinstance_ (pa_cons (L2.pvj 0) (pa_cons (pe_cls TParted rfl) pa_nil)))) (pss_one (ps_ret (pe_and (pe_callF c_is_row hr rfl (pa_cons (pe_fld (L2.pvj 0) rfl) (pa_cons (L2.pvj 1) pa_nil))) (pe_and (pe_callF c_is_rule hr rfl (pa_cons (pe_fld (L2.pvj 0) rfl) (pa_cons (L2.pvj 1) pa_nil))) (pe_one (pe_callF c_is_rule hr rfl (pa_cons (pe_fld (L2.pvj 0) rfl) (pa_cons (L2.pvj 1) pa_nil)))))))) pss_nil)
  (pss_one (ps_ret pe_bl))))), ?_⟩
 try dsimp only [cxOf, Cx.nox, Cx.wish]
 cases t with
 | str ns a d0 =>
  have hR' := hR
  obtain ⟨o, dx, la, rfl, ins, ela⟩ := hR
  refine ⟨_, rfl, _, _, _, _, rfl, (TStraight.ty ins), kit_self, _, rfl, iteT ?_⟩
  exact ⟨_, rfl, _, rfl, .ref o, n, ns, a, d0, rfl, hR', S.1, (by omega), S.2, fun H' s => q H' s⟩
 | stp t1 lo hi =>
  obtain ⟨o, dx, u, rfl, ins, hu⟩ := hR
  refine ⟨_, rfl, _, _, _, _, rfl, (TStopped.ty ins), Y.k21, _, rfl, iteF ?_⟩
  refine ⟨_, rfl, _, _, _, _, rfl, (TStopped.ty ins), kit_self, _, rfl, iteT ?_⟩
  refine ⟨_, rfl, o, aStopped, dx, _, _, rfl, ins, TStopped.cl, AStopped.n_low, rfl, _, rfl, o, aStopped, dx, _, _, rfl, ins, TStopped.cl, AStopped.n_high, rfl, lo, hi, rfl, S.2, _, rfl, iteT ?_⟩
  exact ⟨_, rfl, o, aStopped, dx, _, _, rfl, ins, TStopped.cl, AStopped.n_rule, rfl, _, rfl, u, n, t1, rfl, Nat.le_of_succ_le_succ dp, hu, S.1, n8, fun H' s => q H' s⟩
 | prt r x y =>
  obtain ⟨o, dx, ra, u, w2, rfl, ins, era, hu, hw⟩ := hR
  have dp2 : max x.dep y.dep <= d := Nat.le_of_succ_le_succ dp
  refine ⟨_, rfl, _, _, _, _, rfl, (TParted.ty ins), Y.k31, _, rfl, iteF ?_⟩
  refine ⟨_, rfl, _, _, _, _, rfl, (TParted.ty ins), Y.k32, _, rfl, iteF ?_⟩
  refine ⟨_, rfl, _, _, _, _, rfl, (TParted.ty ins), kit_self, _, rfl, iteT ?_⟩
  refine ⟨_, rfl, o, aParted, dx, _, _, rfl, ins, TParted.cl, AParted.n_row, rfl, _, rfl, ra, r, n, rfl, era, S.1, n8, fun H1 s1 => ⟨_, rfl, iteT ?_⟩⟩
  refine ⟨_, rfl, o, aParted, dx, _, _, rfl, (s1 _ _ ins), TParted.cl, AParted.n_rule, rfl, _, rfl, u, n, x, rfl, (by omega), hu.same s1, S.2.1, n8, fun H2 s2 => ⟨_, rfl, iteT ?_⟩⟩
  exact ⟨_, rfl, o, aParted, dx, _, _, rfl, (s2 _ _ (s1 _ _ ins)), TParted.cl, AParted.n_other, rfl, _, rfl, w2, n, y, rfl, (by omega), hw.same (s1.trans s2), S.2.2, n8, fun H3 s3 => q H3 (s1.trans (s2.trans s3))⟩
theorem ok_piece_count {k : Nat} {f : Addr} {fd : FuncData} {d : Nat} (F : Fun K "piece_count" "piece_count" s_piece_count f fd) (B : Bl mg) (c_piece_count : Fn P w K mg base "piece_count" ["rule"] k (spCount aStraight aStopped aParted d)) : FnOk P w K mg base CX0 (k + 1) f fd ["rule"] (spCount aStraight aStopped aParted (d + 1)) := by
 refine F.ok sc_piece_count (fun vs H Q E h => ?_) (fun cdv A outer s H vs Q E hr h => ?_)
 ·obtain ⟨v, t, rfl, _⟩ := h
  rfl
 obtain ⟨v, t, rfl, dp, d100, hR, q⟩ := h
 refine ⟨_, (pss_cons (ps_if (pt_val (pe_callB (show CallR _ _ (rInstO K) from call_isinstO) rfl B.isinstance_ boot_isinstance_ (pa_cons (L2.pvj 0) (pa_cons (pe_cls TStopped rfl) pa_nil)))) (pss_one (ps_ret (pe_op (ji op_mulW) pe_int (pe_callF c_piece_count hr rfl (pa_cons (pe_fld (L2.pvj 0) rfl) pa_nil))))) pss_nil)
  (pss_cons (ps_if (pt_val (pe_callB (show CallR _ _ (rInstO K) from call_isinstO) rfl B.isinstance_ boot_isinstance_ (pa_cons (L2.pvj 0) (pa_cons (pe_cls TParted rfl) pa_nil)))) (pss_one (ps_ret (pe_op (ji0 op_add) (pe_callF c_piece_count hr rfl (pa_cons (pe_fld (L2.pvj 0) rfl) pa_nil)) (pe_callF c_piece_count hr rfl (pa_cons (pe_fld (L2.pvj 0) rfl) pa_nil))))) pss_nil)
  (pss_one (ps_ret pe_int)))), ?_⟩
 try dsimp only [cxOf, Cx.nox, Cx.wish]
 cases t with
 | str ns a d0 =>
  obtain ⟨o, dx, la, rfl, ins, ela⟩ := hR
  refine ⟨_, rfl, _, _, _, _, rfl, (TStraight.ty ins), Y.k12, _, rfl, iteF ?_⟩
  refine ⟨_, rfl, _, _, _, _, rfl, (TStraight.ty ins), Y.k13, _, rfl, iteF ?_⟩
  exact q
 | stp t1 lo hi =>
  obtain ⟨o, dx, u, rfl, ins, hu⟩ := hR
  have d1 : t1.dep + 1 <= 100 := d100
  have b3 : Bd 2 (3 : Int) := Bd.lit
  refine ⟨_, rfl, _, _, _, _, rfl, (TStopped.ty ins), kit_self, _, rfl, iteT ?_⟩
  refine ⟨_, rfl, o, aStopped, dx, _, _, rfl, ins, TStopped.cl, AStopped.n_rule, rfl, u, t1, rfl, Nat.le_of_succ_le_succ dp, (by omega), hu, _, _, rfl, rfl, ⟨b3.mono (by decide), (count_bd t1).mono (by omega)⟩, ?_⟩
  have e : ((countM (.stp t1 lo hi) : Nat) : Int) = 3 * (countM t1 : Int) := by show ((3 * countM t1 : Nat) : Int) = _; omega
  rw [e] at q
  exact q
 | prt r x y =>
  obtain ⟨o, dx, ra, u, w2, rfl, ins, era, hu, hw⟩ := hR
  have dp2 : max x.dep y.dep <= d := Nat.le_of_succ_le_succ dp
  have d1 : max x.dep y.dep + 1 <= 100 := d100
  refine ⟨_, rfl, _, _, _, _, rfl, (TParted.ty ins), Y.k32, _, rfl, iteF ?_⟩
  refine ⟨_, rfl, _, _, _, _, rfl, (TParted.ty ins), kit_self, _, rfl, iteT ?_⟩
  refine ⟨_, rfl, o, aParted, dx, _, _, rfl, ins, TParted.cl, AParted.n_rule, rfl, u, x, rfl, (by omega), (by omega), hu, _, rfl, o, aParted, dx, _, _, rfl, ins, TParted.cl, AParted.n_other, rfl, w2, y, rfl, (by omega), (by omega), hw, _, _, rfl, rfl, ?_⟩
  have e : ((countM (.prt r x y) : Nat) : Int) = (countM x : Int) + (countM y : Int) := by show ((countM x + countM y : Nat) : Int) = _; omega
  rw [e] at q
  exact q
theorem ok_stop_row {k : Nat} {f : Addr} {fd : FuncData} (F : Fun K "stop_row" "stop_row" s_stop_row f fd) (B : Bl mg) : FnOk P w K mg base CX0 (k + 1) f fd ["straight", "stop"] (spStopRow aStraight) := by
 refine F.ok sc_stop_row (fun vs H Q E h => ?_) (fun cdv A outer s H vs Q E hr h => ?_)
 ·obtain ⟨so, dx, la, l, s, rfl, _⟩ := h
  rfl
 obtain ⟨so, dx, la, l, st, rfl, ins, ela, n1, few, bd, bs, q⟩ := h
 refine ⟨_, (pss_one (ps_ret (pe_op op_catT (pe_callTy jtup rfl B.tuple_ boot_tuple_ (pa_cons (pe_fld (L2.pvj 0) rfl) pa_nil)) (pe_tup (pa_cons (pe_op (ji0 op_sub) (pe_op (ji op_mulW) (pe_fld (L2.pvj 0) rfl) (L2.pvj 1)) (pe_fld (L2.pvj 0) rfl)) pa_nil))))), ?_⟩
 try dsimp only [cxOf, Cx.nox, Cx.wish]
 refine ⟨_, rfl, so, aStraight, dx, _, _, rfl, ins, TStraight.cl, AStraight.n_numbers, rfl, la, _, rfl, .inl ⟨SqL.of ela, fun t1 ht1 => ?_⟩⟩
 have z1 := same_new ht1 (HO.tup (l.ns.map V.int))
 refine ⟨_, rfl, so, aStraight, dx, _, _, rfl, (z1 _ _ ins), TStraight.cl, AStraight.n_divisor, rfl, _, rfl, _, _, rfl, rfl, ⟨bd.mono (by decide), bs.mono (by decide)⟩, _, rfl, so, aStraight, dx, _, _, rfl, (z1 _ _ ins), TStraight.cl, AStraight.n_add, rfl, _, _, rfl, rfl, (by show 1 <= sizeLine; decide), fun t2 ht2 => ?_⟩
 have z2 := same_new ht2 (HO.tup [V.int (l.d * st - l.a)])
 refine ⟨t1, t2, _, _, rfl, rfl, SqT.of (z2 _ _ upd_same), SqT.of upd_same, ?_, (by rw [List.length_map]; exact Nat.le_of_lt (small1000 (by show l.ns.length + 1 <= 1000; omega))), (fun z => by cases z), fun _ p hp => ?_⟩
 ·cases e : l.ns with
  | nil => rw [e] at n1; cases n1
  | cons x t => intro z; cases z
 have z3 := same_new hp (HO.tup (l.ns.map V.int ++ [V.int (l.d * st - l.a)]))
 refine q p _ (z1.trans (z2.trans z3)) (upd_same.trans ?_)
 unfold stopR
 rw [List.map_append]
 rfl
theorem ok_stopped_pieces {k : Nat} {f : Addr} {fd : FuncData} {d : Nat} (F : Fun K "stopped_pieces" "stopped_pieces" s_stopped_pieces f fd) (B : Bl mg) (c_listed : Fn P w K mg base "listed" ["rule"] (k + 1) (spListed aStraight aStopped aParted anyK d)) (c_stop_row : Fn P w K mg base "stop_row" ["straight", "stop"] (k + 1) (spStopRow aStraight)) (c_Straight___init__ : FnCD P w K mg base aStraight ["self", "numbers", "add", "divisor"] k (spStraightInit aStraight) (.int 1)) (c_other_side : Fn P w K mg base "other_side" ["row"] (k + 1) spOther) : FnOk P w K mg base CX0 (k + 1 + 1) f fd ["rule"] (spListed aStraight aStopped aParted isStp (d + 1)) := by
 refine F.ok sc_stopped_pieces (fun vs H Q E h => ?_) (fun cdv A outer s H vs Q E hr h => ?_)
 ·obtain ⟨v, n, t, rfl, _⟩ := h
  rfl
 obtain ⟨v, n, t, rfl, kd, dp, d100, hR, SH, n1, n8, TF, c60, q⟩ := h
 obtain ⟨t1, lo, hi, rfl⟩ := isStp_ex kd
 obtain ⟨o, dx, u, rfl, ins, hu⟩ := hR
 refine ⟨_, (pss_cons (ps_set (i := 1) sc_stopped_pieces.nd rfl (Or.inl rfl) (pe_lst pa_nil))
  (pss_cons (ps_for PassesOwn.never rfl (pi_list (pe_callF c_listed hr rfl (pa_cons (pe_fld (L2.pvj 0) rfl) pa_nil))) (pg_tup rfl (pgs_cons (pg_name (i := 2) sc_stopped_pieces.nd rfl (Or.inl rfl)) (pgs_cons (pg_name (i := 3) sc_stopped_pieces.nd rfl (Or.inl rfl)) pgs_nil))) (pss_cons (ps_comp (i := 4) sc_stopped_pieces.nd rfl rfl (own := ["number"]) (caps := []) (blk_mk rfl) rfl (pi_list (pe_fld (L2.pvj 3) rfl)) (fun _ _ _ _ => pg_name (i := 0) (show (["number"] : List Str).Nodup by decide +kernel) rfl (Or.inl rfl)) (fun _ _ _ _ => pe_int) rfl)
   (pss_cons (ps_set (i := 5) sc_stopped_pieces.nd rfl (Or.inl rfl) (pe_callF c_stop_row hr rfl (pa_cons (L2.pvj 3) (pa_cons (pe_fld (L2.pvj 0) rfl) pa_nil))))
   (pss_cons (ps_set (i := 6) sc_stopped_pieces.nd rfl (Or.inl rfl) (pe_callF c_stop_row hr rfl (pa_cons (L2.pvj 3) (pa_cons (pe_fld (L2.pvj 0) rfl) pa_nil))))
   (pss_cons (ps_expr (pe_bm PySem.F.plainAttrs_list PySem.F.slot_list_append PySem.F.type_list_append japp (L2.pvj 1) (pa_cons (pe_tup (pa_cons (pe_op jcat (L2.pvj 2) (pe_lst (pa_cons (L2.pvj 5) pa_nil))) (pa_cons (pe_makeF c_Straight___init__.fn TStraight hr rfl (pa_cons (L2.pvj 4) (pa_cons (pe_fld (L2.pvj 0) rfl) (pa_cons pe_int pa_nil)))) pa_nil))) pa_nil)))
   (pss_cons (ps_expr (pe_bm PySem.F.plainAttrs_list PySem.F.slot_list_append PySem.F.type_list_append japp (L2.pvj 1) (pa_cons (pe_tup (pa_cons (pe_op jcat (L2.pvj 2) (pe_lst (pa_cons (pe_callF c_other_side hr rfl (pa_cons (L2.pvj 5) pa_nil)) (pa_cons (L2.pvj 6) pa_nil)))) (pa_cons (L2.pvj 3) pa_nil))) pa_nil)))
   (pss_one (ps_expr (pe_bm PySem.F.plainAttrs_list PySem.F.slot_list_append PySem.F.type_list_append japp (L2.pvj 1) (pa_cons (pe_tup (pa_cons (pe_op jcat (L2.pvj 2) (pe_lst (pa_cons (pe_callF c_other_side hr rfl (pa_cons (L2.pvj 6) pa_nil)) pa_nil))) (pa_cons (pe_makeF c_Straight___init__.fn TStraight hr rfl (pa_cons (L2.pvj 4) (pa_cons (pe_fld (L2.pvj 0) rfl) (pa_cons pe_int pa_nil)))) pa_nil))) pa_nil))))))))))
  (pss_one (ps_ret (L2.pvj 1))))), ?_⟩
 try dsimp only [cxOf, Cx.nox, Cx.wish]
 refine ⟨(by show 0 <= sizeLine; decide), fun tl htl => ?_⟩
 have z1 := same_new htl (HO.lst [])
 have et1 := upd_same (H := H) (a := tl) (o := HO.lst [])
 obtain ⟨H1, hH1⟩ : ∃ H1, H1 = upd H tl (HO.lst []) := ⟨_, rfl⟩
 rw [<- hH1] at z1 et1 |-
 have cnt : 3 * countM t1 <= 60 := c60
 have d1 : t1.dep + 1 <= 100 := d100
 refine ⟨_, rfl, o, aStopped, dx, _, _, rfl, (z1 _ _ ins), TStopped.cl, AStopped.n_rule, rfl, u, n, t1, rfl, rfl, Nat.le_of_succ_le_succ dp, (by omega), hu.same z1, SH.1, n1, n8, TF.1, (by omega), fun l lv H2 s2 nl el hlv => ?_⟩
 have et2 := s2 _ _ et1
 have llv : lv.length = countM t1 := (Paired.length hlv).trans (pieces_len t1)
 have lnt : l ∉ [tl] := fun z => by
  rw [List.mem_singleton.mp z, et1] at nl
  cases nl
 have PO := pieces_ok SH.1
 have PFs := pieces_f TF.1
 have hlv2 : Paired (PcV aStraight H (hide [tl] H2)) lv (piecesM t1) := by
  refine Paired.mapM hlv fun i v p hv hp z => PcV.back z1 (z.hid et1 et2 ?_)
  have := (PO p (List.mem_of_getElem? hp)).len
  omega
 have gO2 : hide [tl] H2 o = some (.ins aStopped dx (stpF u lo hi)) := by
  rw [hide_at (fun z => by rw [List.mem_singleton.mp z, htl] at ins; cases ins)]
  exact s2 _ _ (z1 _ _ ins)
 have tlH : ∀ {J : Hp} {y : Addr}, Same (hide [tl] H2) J -> y ∉ [tl] -> J y = none -> H y = none := fun sJ ny hy => z1.free (s2.free (by
  have := sJ.free hy
  rw [hide_at ny] at this
  exact this))
 have blo := TF.2.1
 have bhi := TF.2.2
 refine ⟨l, rfl, ⟨_, SqL.of el⟩, for_list (K := K) (a := l) (xs := lv)
  (fun i σ H' => ∃ (tv : List V) (o2 o3 o4 o5 o6 : Option V), σ = [some (.ref o), some (.ref tl), o2, o3, o4, o5, o6] /\ off [tl] H2 H' /\ H' tl = some (.lst tv) /\ Paired (PcV aStraight H (hide [tl] H')) tv (((piecesM t1).take i).flatMap (stopP lo hi)))
  ⟨[], none, none, none, none, none, rfl, off.refl _ _, et2, .nil⟩ (fun i σ H' _ ⟨_, _, _, _, _, _, _, of2, _⟩ => SqL.of (of2 _ _ el lnt)) ?_ ?_⟩
 ·rintro i x σ H' hix ⟨tv, o2, o3, o4, o5, o6, rfl, of2, etl, htv⟩
  obtain ⟨p, hp, pc⟩ := paired_get hlv2 hix
  have pc' := pc.same (hide_off of2)
  obtain ⟨tt, rl, so, dxs, la, rv, rfl, gT, frl, gRl, gRv, gSo, gLa⟩ := pc'
  have pm := List.mem_of_getElem? hp
  have lp := (PO p pm).len
  have PF := PFs p pm
  have rfew := rows_few p pm
  have lrv : rv.length = p.1.length := Paired.length gRv
  have ltv := Paired.length htv
  rw [flat3 _ (fun _ => rfl), List.length_take, pieces_len] at ltv
  have gO := hide_off of2 _ _ gO2
  have S0 := hide_off of2
  have tlH : ∀ {J : Hp} {y : Addr}, Same (hide [tl] H') J -> y ∉ [tl] -> J y = none -> H y = none := fun sJ ny hy => tlH (S0.trans sJ) ny hy
  refine ⟨tt, _, rfl, SqT.of (hide_sub _ _ gT), rfl, _, _, rfl, _, _, rfl, rfl, ?_⟩
  have S : Same (hide [tl] H') (hide [tl] H') := Same.refl _
  refine ⟨_, rfl, so, aStraight, dxs, _, _, rfl, (hide_sub _ _ gSo), TStraight.cl, AStraight.n_numbers, rfl, la, rfl, ⟨_, SqL.of (hide_sub _ _ gLa)⟩, comp_list (K := K) (a := la) (xs := p.2.ns.map V.int) (fun i ys σ H4 => ys = (List.replicate i (0 : Int)).map V.int /\ (∃ o, σ = [o]) /\ H4 = H')
   ⟨rfl, ⟨none, rfl⟩, rfl⟩ (fun i ys σ H4 _ ⟨e1, _, e3⟩ => ⟨by rw [e3]; exact SqL.of (hide_sub _ _ gLa), by rw [e1, List.length_map, List.length_replicate]; exact Nat.le_refl _⟩) (by rw [List.length_map, lp]; exact Nat.le_of_lt (small1000 (by omega))) ?_ ?_⟩
  ·rintro i x ys σ H4 hix ⟨rfl, ⟨o1, rfl⟩, rfl⟩
   refine ⟨?_, ⟨_, rfl⟩, rfl⟩
   rw [List.replicate_succ', List.map_append]
   rfl
  rintro ys σ H4 ⟨rfl, ⟨o1, rfl⟩, rfl⟩ ca hca
  have ezs : (List.replicate (p.2.ns.map V.int).length (0 : Int)).map V.int = (p.2.ns.map fun _ => (0 : Int)).map V.int := by rw [List.length_map, zeros_eq]
  rw [ezs]
  have z_ca := same_new hca (HO.lst ((p.2.ns.map fun _ => (0 : Int)).map V.int))
  have n_ca : ca ∉ [tl] := fun z => by rw [List.mem_singleton.mp z, etl] at hca; cases hca
  have f_ca : H ca = none := tlH (S.trans hide_sub) n_ca hca
  have gCa : hide [tl] (upd H4 ca (HO.lst ((p.2.ns.map fun _ => (0 : Int)).map V.int))) ca = some (HO.lst ((p.2.ns.map fun _ => (0 : Int)).map V.int)) := (hide_at n_ca).trans upd_same
  have Sg := hide_same (B := [tl]) z_ca
  have gO := Sg _ _ gO
  have gT := Sg _ _ gT
  have gRl := Sg _ _ gRl
  have gRv := WaysV.same Sg gRv
  have gSo := Sg _ _ gSo
  have gLa := Sg _ _ gLa
  have S := S.trans Sg
  have etl := z_ca _ _ etl
  obtain ⟨HB1, hHB1⟩ : ∃ J, J = upd H4 ca (HO.lst ((p.2.ns.map fun _ => (0 : Int)).map V.int)) := ⟨_, rfl⟩
  rw [<- hHB1] at gCa gO gT gRl gRv gSo gLa S etl |-
  refine ⟨_, rfl, _, rfl, o, aStopped, dx, _, _, rfl, (hide_sub _ _ gO), TStopped.cl, AStopped.n_low, rfl, so, dxs, la, p.2, lo, rfl, (hide_sub _ _ gSo), (hide_sub _ _ gLa), (by omega), (by omega), PF.d.mono (by decide), blo.mono (by decide), fun r0 J0 s_r0 e_r0 => ?_⟩
  have n_r0 : r0 ∉ [tl] := fun z => by have := s_r0 _ _ etl; rw [<- List.mem_singleton.mp z, e_r0] at this; cases this
  have gR0 : hide [tl] J0 r0 = some (.tup ((stopR p.2 lo).map V.int)) := (hide_at n_r0).trans e_r0
  have Sg := hide_same (B := [tl]) s_r0
  have gO := Sg _ _ gO
  have gT := Sg _ _ gT
  have gRl := Sg _ _ gRl
  have gRv := WaysV.same Sg gRv
  have gSo := Sg _ _ gSo
  have gLa := Sg _ _ gLa
  have gCa := Sg _ _ gCa
  have S := S.trans Sg
  have etl := s_r0 _ _ etl
  refine ⟨_, rfl, _, rfl, o, aStopped, dx, _, _, rfl, (hide_sub _ _ gO), TStopped.cl, AStopped.n_high, rfl, so, dxs, la, p.2, hi, rfl, (hide_sub _ _ gSo), (hide_sub _ _ gLa), (by omega), (by omega), PF.d.mono (by decide), bhi.mono (by decide), fun r1 J1 s_r1 e_r1 => ?_⟩
  have n_r1 : r1 ∉ [tl] := fun z => by have := s_r1 _ _ etl; rw [<- List.mem_singleton.mp z, e_r1] at this; cases this
  have gR1 : hide [tl] J1 r1 = some (.tup ((stopR p.2 hi).map V.int)) := (hide_at n_r1).trans e_r1
  have Sg := hide_same (B := [tl]) s_r1
  have gO := Sg _ _ gO
  have gT := Sg _ _ gT
  have gRl := Sg _ _ gRl
  have gRv := WaysV.same Sg gRv
  have gSo := Sg _ _ gSo
  have gLa := Sg _ _ gLa
  have gCa := Sg _ _ gCa
  have gR0 := Sg _ _ gR0
  have S := S.trans Sg
  have etl := s_r1 _ _ etl
  refine ⟨_, rfl, .inl ⟨rfl, _, SqL.of etl⟩, ?_⟩
  refine ⟨_, rfl, _, rfl, (by show 1 <= sizeLine; decide), fun q1 hq1 => ?_⟩
  have z_q1 := same_new hq1 (HO.lst [V.ref r0])
  have n_q1 : q1 ∉ [tl] := fun z => by rw [List.mem_singleton.mp z, etl] at hq1; cases hq1
  have f_q1 : H q1 = none := tlH (S.trans hide_sub) n_q1 hq1
  have gQ1 : hide [tl] (upd J1 q1 (HO.lst [V.ref r0])) q1 = some (HO.lst [V.ref r0]) := (hide_at n_q1).trans upd_same
  have Sg := hide_same (B := [tl]) z_q1
  have gO := Sg _ _ gO
  have gT := Sg _ _ gT
  have gRl := Sg _ _ gRl
  have gRv := WaysV.same Sg gRv
  have gSo := Sg _ _ gSo
  have gLa := Sg _ _ gLa
  have gCa := Sg _ _ gCa
  have gR0 := Sg _ _ gR0
  have gR1 := Sg _ _ gR1
  have S := S.trans Sg
  have etl := z_q1 _ _ etl
  obtain ⟨HB2, hHB2⟩ : ∃ J, J = upd J1 q1 (HO.lst [V.ref r0]) := ⟨_, rfl⟩
  rw [<- hHB2] at gQ1 gO gT gRl gRv gSo gLa gCa gR0 gR1 S etl |-
  refine ⟨rl, q1, _, _, rfl, rfl, (hide_sub _ _ gRl), (hide_sub _ _ gQ1), Nat.le_of_lt (small1000 (by show rv.length + 1 <= 1000; omega)), fun c1 hc1 => ?_⟩
  have z_c1 := same_new hc1 (HO.lst (rv ++ [V.ref r0]))
  have n_c1 : c1 ∉ [tl] := fun z => by rw [List.mem_singleton.mp z, etl] at hc1; cases hc1
  have f_c1 : H c1 = none := tlH (S.trans hide_sub) n_c1 hc1
  have gC1 : hide [tl] (upd HB2 c1 (HO.lst (rv ++ [V.ref r0]))) c1 = some (HO.lst (rv ++ [V.ref r0])) := (hide_at n_c1).trans upd_same
  have Sg := hide_same (B := [tl]) z_c1
  have gO := Sg _ _ gO
  have gT := Sg _ _ gT
  have gRl := Sg _ _ gRl
  have gRv := WaysV.same Sg gRv
  have gSo := Sg _ _ gSo
  have gLa := Sg _ _ gLa
  have gCa := Sg _ _ gCa
  have gR0 := Sg _ _ gR0
  have gR1 := Sg _ _ gR1
  have gQ1 := Sg _ _ gQ1
  have S := S.trans Sg
  have etl := z_c1 _ _ etl
  obtain ⟨HB3, hHB3⟩ : ∃ J, J = upd HB2 c1 (HO.lst (rv ++ [V.ref r0])) := ⟨_, rfl⟩
  rw [<- hHB3] at gC1 gO gT gRl gRv gSo gLa gCa gR0 gR1 gQ1 S etl |-
  refine ⟨_, rfl, _, rfl, o, aStopped, dx, _, _, rfl, (hide_sub _ _ gO), TStopped.cl, AStopped.n_low, rfl, fun x1 dx1 hx1 hdx1 ne1 => ?_⟩
  have zm1 := same_make hx1 hdx1 ne1 (HO.own x1) (HO.ins aStraight dx1 [])
  have ex1 := upd_same (H := upd HB3 dx1 (HO.own x1)) (a := x1) (o := HO.ins aStraight dx1 [])
  obtain ⟨HM1, hHM1⟩ : ∃ J, J = upd (upd HB3 dx1 (HO.own x1)) x1 (HO.ins aStraight dx1 []) := ⟨_, rfl⟩
  rw [<- hHM1] at zm1 ex1 |-
  refine ⟨x1, dx1, ca, p.2.ns.map (fun _ => (0 : Int)), lo, 1, rfl, ex1, zm1 _ _ (hide_sub _ _ gCa), (by rw [List.length_map]; omega), fun m1 HS1 sb1 fm1 eo1 em1 => ⟨rfl, ?_⟩⟩
  have sS1 := same_but zm1 sb1 hx1
  have n_x1 : x1 ∉ [tl] := fun z => by rw [List.mem_singleton.mp z, etl] at hx1; cases hx1
  have n_m1 : m1 ∉ [tl] := fun z => by have := zm1 _ _ etl; rw [<- List.mem_singleton.mp z, fm1] at this; cases this
  have gX1 : hide [tl] HS1 x1 = some (.ins aStraight dx1 (strF (.ref m1) lo 1)) := (hide_at n_x1).trans eo1
  have gM1 : hide [tl] HS1 m1 = some (.lst ((p.2.ns.map fun _ => (0 : Int)).map V.int)) := (hide_at n_m1).trans em1
  have Sg := hide_same (B := [tl]) sS1
  have gO := Sg _ _ gO
  have gT := Sg _ _ gT
  have gRl := Sg _ _ gRl
  have gRv := WaysV.same Sg gRv
  have gSo := Sg _ _ gSo
  have gLa := Sg _ _ gLa
  have gCa := Sg _ _ gCa
  have gR0 := Sg _ _ gR0
  have gR1 := Sg _ _ gR1
  have gQ1 := Sg _ _ gQ1
  have gC1 := Sg _ _ gC1
  have S := S.trans Sg
  have etl := sS1 _ _ etl
  refine ⟨(by show 2 <= sizeLine; decide), fun y1 hy1 => ?_⟩
  have z_y1 := same_new hy1 (HO.tup [V.ref c1, V.ref x1])
  have n_y1 : y1 ∉ [tl] := fun z => by rw [List.mem_singleton.mp z, etl] at hy1; cases hy1
  have f_y1 : H y1 = none := tlH (S.trans hide_sub) n_y1 hy1
  have gY1 : hide [tl] (upd HS1 y1 (HO.tup [V.ref c1, V.ref x1])) y1 = some (HO.tup [V.ref c1, V.ref x1]) := (hide_at n_y1).trans upd_same
  have Sg := hide_same (B := [tl]) z_y1
  have gO := Sg _ _ gO
  have gT := Sg _ _ gT
  have gRl := Sg _ _ gRl
  have gRv := WaysV.same Sg gRv
  have gSo := Sg _ _ gSo
  have gLa := Sg _ _ gLa
  have gCa := Sg _ _ gCa
  have gR0 := Sg _ _ gR0
  have gR1 := Sg _ _ gR1
  have gQ1 := Sg _ _ gQ1
  have gC1 := Sg _ _ gC1
  have gX1 := Sg _ _ gX1
  have gM1 := Sg _ _ gM1
  have S := S.trans Sg
  have etl := z_y1 _ _ etl
  obtain ⟨HB4, hHB4⟩ : ∃ J, J = upd HS1 y1 (HO.tup [V.ref c1, V.ref x1]) := ⟨_, rfl⟩
  rw [<- hHB4] at gY1 gO gT gRl gRv gSo gLa gCa gR0 gR1 gQ1 gC1 gX1 gM1 S etl |-
  have gPc1 : PcV aStraight H (hide [tl] HB4) (V.ref y1) (p.1 ++ [stopR p.2 lo], flatL p.2 lo) := ⟨y1, c1, x1, dx1, m1, _, rfl, gY1, f_c1, gC1, paired_app gRv (.cons ⟨r0, rfl, gR0⟩ .nil), gX1, gM1⟩
  refine ⟨tl, _, _, rfl, rfl, etl, small1000 (by first | omega | (simp only [List.length_append, List.length_cons, List.length_nil]; omega)), ?_⟩
  have Sg := hide_put (x := tl) (H := HB4) (HO.lst (tv ++ [V.ref y1]))
  have gO := Sg _ _ gO
  have gT := Sg _ _ gT
  have gRl := Sg _ _ gRl
  have gRv := WaysV.same Sg gRv
  have gSo := Sg _ _ gSo
  have gLa := Sg _ _ gLa
  have gCa := Sg _ _ gCa
  have gR0 := Sg _ _ gR0
  have gR1 := Sg _ _ gR1
  have gQ1 := Sg _ _ gQ1
  have gC1 := Sg _ _ gC1
  have gX1 := Sg _ _ gX1
  have gM1 := Sg _ _ gM1
  have gY1 := Sg _ _ gY1
  have gPc1 := PcV.same Sg gPc1
  have S := S.trans Sg
  have etl := upd_same (H := HB4) (a := tl) (o := HO.lst (tv ++ [V.ref y1]))
  obtain ⟨HB5, hHB5⟩ : ∃ J, J = upd HB4 tl (HO.lst (tv ++ [V.ref y1])) := ⟨_, rfl⟩
  rw [<- hHB5] at gO gT gRl gRv gSo gLa gCa gR0 gR1 gQ1 gC1 gX1 gM1 gY1 gPc1 S etl |-
  refine ⟨_, rfl, .inl ⟨rfl, _, SqL.of etl⟩, ?_⟩
  refine ⟨_, rfl, _, rfl, r0, stopR p.2 lo, rfl, (hide_sub _ _ gR0), (by rw [stopR_len lp]; omega), fun v2 JNv2 s_v2 f0_v2 e_v2 => ?_⟩
  have n_v2 : v2 ∉ [tl] := fun z => by have := s_v2 _ _ etl; rw [<- List.mem_singleton.mp z, e_v2] at this; cases this
  have g_v2 : hide [tl] JNv2 v2 = some (.tup ((negR (stopR p.2 lo)).map V.int)) := (hide_at n_v2).trans e_v2
  have Sg := hide_same (B := [tl]) s_v2
  have gO := Sg _ _ gO
  have gT := Sg _ _ gT
  have gRl := Sg _ _ gRl
  have gRv := WaysV.same Sg gRv
  have gSo := Sg _ _ gSo
  have gLa := Sg _ _ gLa
  have gCa := Sg _ _ gCa
  have gR0 := Sg _ _ gR0
  have gR1 := Sg _ _ gR1
  have gQ1 := Sg _ _ gQ1
  have gC1 := Sg _ _ gC1
  have gX1 := Sg _ _ gX1
  have gM1 := Sg _ _ gM1
  have gY1 := Sg _ _ gY1
  have gPc1 := PcV.same Sg gPc1
  have S := S.trans Sg
  have etl := s_v2 _ _ etl
  refine ⟨_, rfl, (by show 2 <= sizeLine; decide), fun q2 hq2 => ?_⟩
  have z_q2 := same_new hq2 (HO.lst [V.ref v2, V.ref r1])
  have n_q2 : q2 ∉ [tl] := fun z => by rw [List.mem_singleton.mp z, etl] at hq2; cases hq2
  have f_q2 : H q2 = none := tlH (S.trans hide_sub) n_q2 hq2
  have gQ2 : hide [tl] (upd JNv2 q2 (HO.lst [V.ref v2, V.ref r1])) q2 = some (HO.lst [V.ref v2, V.ref r1]) := (hide_at n_q2).trans upd_same
  have Sg := hide_same (B := [tl]) z_q2
  have gO := Sg _ _ gO
  have gT := Sg _ _ gT
  have gRl := Sg _ _ gRl
  have gRv := WaysV.same Sg gRv
  have gSo := Sg _ _ gSo
  have gLa := Sg _ _ gLa
  have gCa := Sg _ _ gCa
  have gR0 := Sg _ _ gR0
  have gR1 := Sg _ _ gR1
  have gQ1 := Sg _ _ gQ1
  have gC1 := Sg _ _ gC1
  have gX1 := Sg _ _ gX1
  have gM1 := Sg _ _ gM1
  have gY1 := Sg _ _ gY1
  have gPc1 := PcV.same Sg gPc1
  have g_v2 := Sg _ _ g_v2
  have S := S.trans Sg
  have etl := z_q2 _ _ etl
  obtain ⟨HB6, hHB6⟩ : ∃ J, J = upd JNv2 q2 (HO.lst [V.ref v2, V.ref r1]) := ⟨_, rfl⟩
  rw [<- hHB6] at gQ2 gO gT gRl gRv gSo gLa gCa gR0 gR1 gQ1 gC1 gX1 gM1 gY1 gPc1 g_v2 S etl |-
  refine ⟨rl, q2, _, _, rfl, rfl, (hide_sub _ _ gRl), (hide_sub _ _ gQ2), Nat.le_of_lt (small1000 (by show rv.length + 2 <= 1000; omega)), fun c2 hc2 => ?_⟩
  have z_c2 := same_new hc2 (HO.lst (rv ++ [V.ref v2, V.ref r1]))
  have n_c2 : c2 ∉ [tl] := fun z => by rw [List.mem_singleton.mp z, etl] at hc2; cases hc2
  have f_c2 : H c2 = none := tlH (S.trans hide_sub) n_c2 hc2
  have gC2 : hide [tl] (upd HB6 c2 (HO.lst (rv ++ [V.ref v2, V.ref r1]))) c2 = some (HO.lst (rv ++ [V.ref v2, V.ref r1])) := (hide_at n_c2).trans upd_same
  have Sg := hide_same (B := [tl]) z_c2
  have gO := Sg _ _ gO
  have gT := Sg _ _ gT
  have gRl := Sg _ _ gRl
  have gRv := WaysV.same Sg gRv
  have gSo := Sg _ _ gSo
  have gLa := Sg _ _ gLa
  have gCa := Sg _ _ gCa
  have gR0 := Sg _ _ gR0
  have gR1 := Sg _ _ gR1
  have gQ1 := Sg _ _ gQ1
  have gC1 := Sg _ _ gC1
  have gX1 := Sg _ _ gX1
  have gM1 := Sg _ _ gM1
  have gY1 := Sg _ _ gY1
  have gPc1 := PcV.same Sg gPc1
  have g_v2 := Sg _ _ g_v2
  have gQ2 := Sg _ _ gQ2
  have S := S.trans Sg
  have etl := z_c2 _ _ etl
  obtain ⟨HB7, hHB7⟩ : ∃ J, J = upd HB6 c2 (HO.lst (rv ++ [V.ref v2, V.ref r1])) := ⟨_, rfl⟩
  rw [<- hHB7] at gC2 gO gT gRl gRv gSo gLa gCa gR0 gR1 gQ1 gC1 gX1 gM1 gY1 gPc1 g_v2 gQ2 S etl |-
  refine ⟨_, rfl, (by show 2 <= sizeLine; decide), fun y2 hy2 => ?_⟩
  have z_y2 := same_new hy2 (HO.tup [V.ref c2, V.ref so])
  have n_y2 : y2 ∉ [tl] := fun z => by rw [List.mem_singleton.mp z, etl] at hy2; cases hy2
  have f_y2 : H y2 = none := tlH (S.trans hide_sub) n_y2 hy2
  have gY2 : hide [tl] (upd HB7 y2 (HO.tup [V.ref c2, V.ref so])) y2 = some (HO.tup [V.ref c2, V.ref so]) := (hide_at n_y2).trans upd_same
  have Sg := hide_same (B := [tl]) z_y2
  have gO := Sg _ _ gO
  have gT := Sg _ _ gT
  have gRl := Sg _ _ gRl
  have gRv := WaysV.same Sg gRv
  have gSo := Sg _ _ gSo
  have gLa := Sg _ _ gLa
  have gCa := Sg _ _ gCa
  have gR0 := Sg _ _ gR0
  have gR1 := Sg _ _ gR1
  have gQ1 := Sg _ _ gQ1
  have gC1 := Sg _ _ gC1
  have gX1 := Sg _ _ gX1
  have gM1 := Sg _ _ gM1
  have gY1 := Sg _ _ gY1
  have gPc1 := PcV.same Sg gPc1
  have g_v2 := Sg _ _ g_v2
  have gQ2 := Sg _ _ gQ2
  have gC2 := Sg _ _ gC2
  have S := S.trans Sg
  have etl := z_y2 _ _ etl
  obtain ⟨HB8, hHB8⟩ : ∃ J, J = upd HB7 y2 (HO.tup [V.ref c2, V.ref so]) := ⟨_, rfl⟩
  rw [<- hHB8] at gY2 gO gT gRl gRv gSo gLa gCa gR0 gR1 gQ1 gC1 gX1 gM1 gY1 gPc1 g_v2 gQ2 gC2 S etl |-
  have gPc2 : PcV aStraight H (hide [tl] HB8) (V.ref y2) (p.1 ++ [negR (stopR p.2 lo), stopR p.2 hi], p.2) := ⟨y2, c2, so, dxs, la, _, rfl, gY2, f_c2, gC2, paired_app gRv (.cons ⟨v2, rfl, g_v2⟩ (.cons ⟨r1, rfl, gR1⟩ .nil)), gSo, gLa⟩
  refine ⟨tl, _, _, rfl, rfl, etl, small1000 (by first | omega | (simp only [List.length_append, List.length_cons, List.length_nil]; omega)), ?_⟩
  have Sg := hide_put (x := tl) (H := HB8) (HO.lst (tv ++ [V.ref y1] ++ [V.ref y2]))
  have gO := Sg _ _ gO
  have gT := Sg _ _ gT
  have gRl := Sg _ _ gRl
  have gRv := WaysV.same Sg gRv
  have gSo := Sg _ _ gSo
  have gLa := Sg _ _ gLa
  have gCa := Sg _ _ gCa
  have gR0 := Sg _ _ gR0
  have gR1 := Sg _ _ gR1
  have gQ1 := Sg _ _ gQ1
  have gC1 := Sg _ _ gC1
  have gX1 := Sg _ _ gX1
  have gM1 := Sg _ _ gM1
  have gY1 := Sg _ _ gY1
  have gPc1 := PcV.same Sg gPc1
  have g_v2 := Sg _ _ g_v2
  have gQ2 := Sg _ _ gQ2
  have gC2 := Sg _ _ gC2
  have gY2 := Sg _ _ gY2
  have gPc2 := PcV.same Sg gPc2
  have S := S.trans Sg
  have etl := upd_same (H := HB8) (a := tl) (o := HO.lst (tv ++ [V.ref y1] ++ [V.ref y2]))
  obtain ⟨HB9, hHB9⟩ : ∃ J, J = upd HB8 tl (HO.lst (tv ++ [V.ref y1] ++ [V.ref y2])) := ⟨_, rfl⟩
  rw [<- hHB9] at gO gT gRl gRv gSo gLa gCa gR0 gR1 gQ1 gC1 gX1 gM1 gY1 gPc1 g_v2 gQ2 gC2 gY2 gPc2 S etl |-
  refine ⟨_, rfl, .inl ⟨rfl, _, SqL.of etl⟩, ?_⟩
  refine ⟨_, rfl, _, rfl, r1, stopR p.2 hi, rfl, (hide_sub _ _ gR1), (by rw [stopR_len lp]; omega), fun v3 JNv3 s_v3 f0_v3 e_v3 => ?_⟩
  have n_v3 : v3 ∉ [tl] := fun z => by have := s_v3 _ _ etl; rw [<- List.mem_singleton.mp z, e_v3] at this; cases this
  have g_v3 : hide [tl] JNv3 v3 = some (.tup ((negR (stopR p.2 hi)).map V.int)) := (hide_at n_v3).trans e_v3
  have Sg := hide_same (B := [tl]) s_v3
  have gO := Sg _ _ gO
  have gT := Sg _ _ gT
  have gRl := Sg _ _ gRl
  have gRv := WaysV.same Sg gRv
  have gSo := Sg _ _ gSo
  have gLa := Sg _ _ gLa
  have gCa := Sg _ _ gCa
  have gR0 := Sg _ _ gR0
  have gR1 := Sg _ _ gR1
  have gQ1 := Sg _ _ gQ1
  have gC1 := Sg _ _ gC1
  have gX1 := Sg _ _ gX1
  have gM1 := Sg _ _ gM1
  have gY1 := Sg _ _ gY1
  have gPc1 := PcV.same Sg gPc1
  have g_v2 := Sg _ _ g_v2
  have gQ2 := Sg _ _ gQ2
  have gC2 := Sg _ _ gC2
  have gY2 := Sg _ _ gY2
  have gPc2 := PcV.same Sg gPc2
  have S := S.trans Sg
  have etl := s_v3 _ _ etl
  refine ⟨(by show 1 <= sizeLine; decide), fun q3 hq3 => ?_⟩
  have z_q3 := same_new hq3 (HO.lst [V.ref v3])
  have n_q3 : q3 ∉ [tl] := fun z => by rw [List.mem_singleton.mp z, etl] at hq3; cases hq3
  have f_q3 : H q3 = none := tlH (S.trans hide_sub) n_q3 hq3
  have gQ3 : hide [tl] (upd JNv3 q3 (HO.lst [V.ref v3])) q3 = some (HO.lst [V.ref v3]) := (hide_at n_q3).trans upd_same
  have Sg := hide_same (B := [tl]) z_q3
  have gO := Sg _ _ gO
  have gT := Sg _ _ gT
  have gRl := Sg _ _ gRl
  have gRv := WaysV.same Sg gRv
  have gSo := Sg _ _ gSo
  have gLa := Sg _ _ gLa
  have gCa := Sg _ _ gCa
  have gR0 := Sg _ _ gR0
  have gR1 := Sg _ _ gR1
  have gQ1 := Sg _ _ gQ1
  have gC1 := Sg _ _ gC1
  have gX1 := Sg _ _ gX1
  have gM1 := Sg _ _ gM1
  have gY1 := Sg _ _ gY1
  have gPc1 := PcV.same Sg gPc1
  have g_v2 := Sg _ _ g_v2
  have gQ2 := Sg _ _ gQ2
  have gC2 := Sg _ _ gC2
  have gY2 := Sg _ _ gY2
  have gPc2 := PcV.same Sg gPc2
  have g_v3 := Sg _ _ g_v3
  have S := S.trans Sg
  have etl := z_q3 _ _ etl
  obtain ⟨HB10, hHB10⟩ : ∃ J, J = upd JNv3 q3 (HO.lst [V.ref v3]) := ⟨_, rfl⟩
  rw [<- hHB10] at gQ3 gO gT gRl gRv gSo gLa gCa gR0 gR1 gQ1 gC1 gX1 gM1 gY1 gPc1 g_v2 gQ2 gC2 gY2 gPc2 g_v3 S etl |-
  refine ⟨rl, q3, _, _, rfl, rfl, (hide_sub _ _ gRl), (hide_sub _ _ gQ3), Nat.le_of_lt (small1000 (by show rv.length + 1 <= 1000; omega)), fun c3 hc3 => ?_⟩
  have z_c3 := same_new hc3 (HO.lst (rv ++ [V.ref v3]))
  have n_c3 : c3 ∉ [tl] := fun z => by rw [List.mem_singleton.mp z, etl] at hc3; cases hc3
  have f_c3 : H c3 = none := tlH (S.trans hide_sub) n_c3 hc3
  have gC3 : hide [tl] (upd HB10 c3 (HO.lst (rv ++ [V.ref v3]))) c3 = some (HO.lst (rv ++ [V.ref v3])) := (hide_at n_c3).trans upd_same
  have Sg := hide_same (B := [tl]) z_c3
  have gO := Sg _ _ gO
  have gT := Sg _ _ gT
  have gRl := Sg _ _ gRl
  have gRv := WaysV.same Sg gRv
  have gSo := Sg _ _ gSo
  have gLa := Sg _ _ gLa
  have gCa := Sg _ _ gCa
  have gR0 := Sg _ _ gR0
  have gR1 := Sg _ _ gR1
  have gQ1 := Sg _ _ gQ1
  have gC1 := Sg _ _ gC1
  have gX1 := Sg _ _ gX1
  have gM1 := Sg _ _ gM1
  have gY1 := Sg _ _ gY1
  have gPc1 := PcV.same Sg gPc1
  have g_v2 := Sg _ _ g_v2
  have gQ2 := Sg _ _ gQ2
  have gC2 := Sg _ _ gC2
  have gY2 := Sg _ _ gY2
  have gPc2 := PcV.same Sg gPc2
  have g_v3 := Sg _ _ g_v3
  have gQ3 := Sg _ _ gQ3
  have S := S.trans Sg
  have etl := z_c3 _ _ etl
  obtain ⟨HB11, hHB11⟩ : ∃ J, J = upd HB10 c3 (HO.lst (rv ++ [V.ref v3])) := ⟨_, rfl⟩
  rw [<- hHB11] at gC3 gO gT gRl gRv gSo gLa gCa gR0 gR1 gQ1 gC1 gX1 gM1 gY1 gPc1 g_v2 gQ2 gC2 gY2 gPc2 g_v3 gQ3 S etl |-
  refine ⟨_, rfl, _, rfl, o, aStopped, dx, _, _, rfl, (hide_sub _ _ gO), TStopped.cl, AStopped.n_high, rfl, fun x3 dx3 hx3 hdx3 ne3 => ?_⟩
  have zm3 := same_make hx3 hdx3 ne3 (HO.own x3) (HO.ins aStraight dx3 [])
  have ex3 := upd_same (H := upd HB11 dx3 (HO.own x3)) (a := x3) (o := HO.ins aStraight dx3 [])
  obtain ⟨HM3, hHM3⟩ : ∃ J, J = upd (upd HB11 dx3 (HO.own x3)) x3 (HO.ins aStraight dx3 []) := ⟨_, rfl⟩
  rw [<- hHM3] at zm3 ex3 |-
  refine ⟨x3, dx3, ca, p.2.ns.map (fun _ => (0 : Int)), hi, 1, rfl, ex3, zm3 _ _ (hide_sub _ _ gCa), (by rw [List.length_map]; omega), fun m3 HS3 sb3 fm3 eo3 em3 => ⟨rfl, ?_⟩⟩
  have sS3 := same_but zm3 sb3 hx3
  have n_x3 : x3 ∉ [tl] := fun z => by rw [List.mem_singleton.mp z, etl] at hx3; cases hx3
  have n_m3 : m3 ∉ [tl] := fun z => by have := zm3 _ _ etl; rw [<- List.mem_singleton.mp z, fm3] at this; cases this
  have gX3 : hide [tl] HS3 x3 = some (.ins aStraight dx3 (strF (.ref m3) hi 1)) := (hide_at n_x3).trans eo3
  have gM3 : hide [tl] HS3 m3 = some (.lst ((p.2.ns.map fun _ => (0 : Int)).map V.int)) := (hide_at n_m3).trans em3
  have Sg := hide_same (B := [tl]) sS3
  have gO := Sg _ _ gO
  have gT := Sg _ _ gT
  have gRl := Sg _ _ gRl
  have gRv := WaysV.same Sg gRv
  have gSo := Sg _ _ gSo
  have gLa := Sg _ _ gLa
  have gCa := Sg _ _ gCa
  have gR0 := Sg _ _ gR0
  have gR1 := Sg _ _ gR1
  have gQ1 := Sg _ _ gQ1
  have gC1 := Sg _ _ gC1
  have gX1 := Sg _ _ gX1
  have gM1 := Sg _ _ gM1
  have gY1 := Sg _ _ gY1
  have gPc1 := PcV.same Sg gPc1
  have g_v2 := Sg _ _ g_v2
  have gQ2 := Sg _ _ gQ2
  have gC2 := Sg _ _ gC2
  have gY2 := Sg _ _ gY2
  have gPc2 := PcV.same Sg gPc2
  have g_v3 := Sg _ _ g_v3
  have gQ3 := Sg _ _ gQ3
  have gC3 := Sg _ _ gC3
  have S := S.trans Sg
  have etl := sS3 _ _ etl
  refine ⟨(by show 2 <= sizeLine; decide), fun y3 hy3 => ?_⟩
  have z_y3 := same_new hy3 (HO.tup [V.ref c3, V.ref x3])
  have n_y3 : y3 ∉ [tl] := fun z => by rw [List.mem_singleton.mp z, etl] at hy3; cases hy3
  have f_y3 : H y3 = none := tlH (S.trans hide_sub) n_y3 hy3
  have gY3 : hide [tl] (upd HS3 y3 (HO.tup [V.ref c3, V.ref x3])) y3 = some (HO.tup [V.ref c3, V.ref x3]) := (hide_at n_y3).trans upd_same
  have Sg := hide_same (B := [tl]) z_y3
  have gO := Sg _ _ gO
  have gT := Sg _ _ gT
  have gRl := Sg _ _ gRl
  have gRv := WaysV.same Sg gRv
  have gSo := Sg _ _ gSo
  have gLa := Sg _ _ gLa
  have gCa := Sg _ _ gCa
  have gR0 := Sg _ _ gR0
  have gR1 := Sg _ _ gR1
  have gQ1 := Sg _ _ gQ1
  have gC1 := Sg _ _ gC1
  have gX1 := Sg _ _ gX1
  have gM1 := Sg _ _ gM1
  have gY1 := Sg _ _ gY1
  have gPc1 := PcV.same Sg gPc1
  have g_v2 := Sg _ _ g_v2
  have gQ2 := Sg _ _ gQ2
  have gC2 := Sg _ _ gC2
  have gY2 := Sg _ _ gY2
  have gPc2 := PcV.same Sg gPc2
  have g_v3 := Sg _ _ g_v3
  have gQ3 := Sg _ _ gQ3
  have gC3 := Sg _ _ gC3
  have gX3 := Sg _ _ gX3
  have gM3 := Sg _ _ gM3
  have S := S.trans Sg
  have etl := z_y3 _ _ etl
  obtain ⟨HB12, hHB12⟩ : ∃ J, J = upd HS3 y3 (HO.tup [V.ref c3, V.ref x3]) := ⟨_, rfl⟩
  rw [<- hHB12] at gY3 gO gT gRl gRv gSo gLa gCa gR0 gR1 gQ1 gC1 gX1 gM1 gY1 gPc1 g_v2 gQ2 gC2 gY2 gPc2 g_v3 gQ3 gC3 gX3 gM3 S etl |-
  have gPc3 : PcV aStraight H (hide [tl] HB12) (V.ref y3) (p.1 ++ [negR (stopR p.2 hi)], flatL p.2 hi) := ⟨y3, c3, x3, dx3, m3, _, rfl, gY3, f_c3, gC3, paired_app gRv (.cons ⟨v3, rfl, g_v3⟩ .nil), gX3, gM3⟩
  refine ⟨tl, _, _, rfl, rfl, etl, small1000 (by first | omega | (simp only [List.length_append, List.length_cons, List.length_nil]; omega)), ?_⟩
  have Sg := hide_put (x := tl) (H := HB12) (HO.lst (tv ++ [V.ref y1] ++ [V.ref y2] ++ [V.ref y3]))
  have gO := Sg _ _ gO
  have gT := Sg _ _ gT
  have gRl := Sg _ _ gRl
  have gRv := WaysV.same Sg gRv
  have gSo := Sg _ _ gSo
  have gLa := Sg _ _ gLa
  have gCa := Sg _ _ gCa
  have gR0 := Sg _ _ gR0
  have gR1 := Sg _ _ gR1
  have gQ1 := Sg _ _ gQ1
  have gC1 := Sg _ _ gC1
  have gX1 := Sg _ _ gX1
  have gM1 := Sg _ _ gM1
  have gY1 := Sg _ _ gY1
  have gPc1 := PcV.same Sg gPc1
  have g_v2 := Sg _ _ g_v2
  have gQ2 := Sg _ _ gQ2
  have gC2 := Sg _ _ gC2
  have gY2 := Sg _ _ gY2
  have gPc2 := PcV.same Sg gPc2
  have g_v3 := Sg _ _ g_v3
  have gQ3 := Sg _ _ gQ3
  have gC3 := Sg _ _ gC3
  have gX3 := Sg _ _ gX3
  have gM3 := Sg _ _ gM3
  have gY3 := Sg _ _ gY3
  have gPc3 := PcV.same Sg gPc3
  have S := S.trans Sg
  have etl := upd_same (H := HB12) (a := tl) (o := HO.lst (tv ++ [V.ref y1] ++ [V.ref y2] ++ [V.ref y3]))
  obtain ⟨HB13, hHB13⟩ : ∃ J, J = upd HB12 tl (HO.lst (tv ++ [V.ref y1] ++ [V.ref y2] ++ [V.ref y3])) := ⟨_, rfl⟩
  rw [<- hHB13] at gO gT gRl gRv gSo gLa gCa gR0 gR1 gQ1 gC1 gX1 gM1 gY1 gPc1 g_v2 gQ2 gC2 gY2 gPc2 g_v3 gQ3 gC3 gX3 gM3 gY3 gPc3 S etl |-
  refine ⟨tv ++ [V.ref y1] ++ [V.ref y2] ++ [V.ref y3], _, _, _, _, _, rfl, of2.trans (off_hide S), etl, ?_⟩
  rw [flat_snoc _ hp]
  have h0 := Paired.mapP htv fun _ _ z => PcV.same S z
  have h3 := paired_snoc gPc3 (paired_snoc gPc2 (paired_snoc gPc1 h0))
  rw [show stopP lo hi p = [(p.1 ++ [stopR p.2 lo], flatL p.2 lo)] ++ [(p.1 ++ [negR (stopR p.2 lo), stopR p.2 hi], p.2)] ++ [(p.1 ++ [negR (stopR p.2 hi)], flatL p.2 hi)] from rfl, <- List.append_assoc, <- List.append_assoc]
  exact h3
 rintro σ H' ⟨tv, o2, o3, o4, o5, o6, rfl, of2, etl, htv⟩
 rw [llv, <- pieces_len, List.take_length] at htv
 refine ⟨_, rfl, q tl tv H' (fun b o e => of2 _ _ (s2 _ _ (z1 _ _ e)) (fun z => by rw [List.mem_singleton.mp z, htl] at e; cases e)) htl etl (Paired.mapP htv fun _ _ z => PcV.same hide_sub z)⟩
theorem ok_parted_pieces {k : Nat} {f : Addr} {fd : FuncData} {d : Nat} (F : Fun K "parted_pieces" "parted_pieces" s_parted_pieces f fd) (B : Bl mg) (c_other_side : Fn P w K mg base "other_side" ["row"] k spOther) (c_listed : Fn P w K mg base "listed" ["rule"] k (spListed aStraight aStopped aParted anyK d)) : FnOk P w K mg base CX0 (k + 1) f fd ["rule"] (spListed aStraight aStopped aParted isPrt (d + 1)) := by
 refine F.ok sc_parted_pieces (fun vs H Q E h => ?_) (fun cdv A outer s H vs Q E hr h => ?_)
 ·obtain ⟨v, n, t, rfl, _⟩ := h
  rfl
 obtain ⟨v, n, t, rfl, kd, dp, d100, hR, SH, n1, n8, TF, c60, q⟩ := h
 obtain ⟨r, x, y, rfl⟩ := isPrt_ex kd
 obtain ⟨o, dx, ra, u, w2, rfl, ins, era, hu, hw⟩ := hR
 refine ⟨_, (pss_cons (ps_set (i := 1) sc_parted_pieces.nd rfl (Or.inr rfl) (pe_callF c_other_side hr rfl (pa_cons (pe_fld (L2.pvj 0) rfl) pa_nil)))
  (pss_cons (ps_comp (i := 2) sc_parted_pieces.nd rfl rfl (own := ["rows", "straight"]) (caps := [(0, "rule")]) (blk_cap (S := defScope s_parted_pieces) (N := ["rule", "turned_about", "ones", "others"]) rfl (by decide +kernel) rfl ⟨_, rfl⟩ rfl (by decide +kernel) (by decide +kernel)) rfl (pi_list (pe_callF c_listed hr rfl (pa_cons (pe_fld (L2.pvj 0) rfl) pa_nil))) (fun _ _ _ _ => show PG _ _ (gTup K 2 (gCons (gName 0) (gCons (gName 1) gNil))) from pg_tup (n := 2) rfl (pgs_cons (pg_name (i := 0) (show (["rows", "straight", "rule"] : List Str).Nodup by decide +kernel) rfl (Or.inl rfl)) (pgs_cons (pg_name (i := 1) (show (["rows", "straight", "rule"] : List Str).Nodup by decide +kernel) rfl (Or.inl rfl)) pgs_nil))) (fun _ _ _ _ => (pe_tup (pa_cons (pe_op jcat (pe_lst (pa_cons (show PE _ _ (tFld K _ _) from pe_fld (L2.pvj 2) rfl) pa_nil)) (L2.pvj 0)) (pa_cons (L2.pvj 1) pa_nil)))) rfl)
  (pss_cons (ps_comp (i := 3) sc_parted_pieces.nd rfl rfl (own := ["rows", "straight"]) (caps := [(1, "turned_about")]) (blk_cap (S := defScope s_parted_pieces) (N := ["rule", "turned_about", "ones", "others"]) rfl (by decide +kernel) rfl ⟨_, rfl⟩ rfl (by decide +kernel) (by decide +kernel)) rfl (pi_list (pe_callF c_listed hr rfl (pa_cons (pe_fld (L2.pvj 0) rfl) pa_nil))) (fun _ _ _ _ => show PG _ _ (gTup K 2 (gCons (gName 0) (gCons (gName 1) gNil))) from pg_tup (n := 2) rfl (pgs_cons (pg_name (i := 0) (show (["rows", "straight", "turned_about"] : List Str).Nodup by decide +kernel) rfl (Or.inl rfl)) (pgs_cons (pg_name (i := 1) (show (["rows", "straight", "turned_about"] : List Str).Nodup by decide +kernel) rfl (Or.inl rfl)) pgs_nil))) (fun _ _ _ _ => (pe_tup (pa_cons (pe_op jcat (pe_lst (pa_cons (L2.pvj 2) pa_nil)) (L2.pvj 0)) (pa_cons (L2.pvj 1) pa_nil)))) rfl)
  (pss_one (ps_ret (pe_op jcat (L2.pvj 2) (L2.pvj 3))))))), ?_⟩
 try dsimp only [cxOf, Cx.nox, Cx.wish]
 have cnt : countM x + countM y <= 60 := c60
 have d1 : max x.dep y.dep + 1 <= 100 := d100
 have dp2 : max x.dep y.dep <= d := Nat.le_of_succ_le_succ dp
 have lr := SH.1
 refine ⟨_, rfl, o, aParted, dx, _, _, rfl, ins, TParted.cl, AParted.n_row, rfl, ra, r, rfl, era, (by omega), fun ta H1 s1 fta eta => ?_⟩
 refine ⟨_, rfl, o, aParted, dx, _, _, rfl, (s1 _ _ ins), TParted.cl, AParted.n_rule, rfl, u, n, x, rfl, rfl, (by omega), (by omega), hu.same s1, SH.2.1, n1, n8, TF.2.1, (by omega), fun l1 lv1 HL1 sL1 nl1 el1 hlv1 => ?_⟩
 have llv1 : lv1.length = countM x := (Paired.length hlv1).trans (pieces_len x)
 refine ⟨l1, rfl, ⟨_, SqL.of el1⟩, comp_list (K := K) (a := l1) (xs := lv1)
  (fun i ys σ H' => Paired (PcV aStraight H H') ys (((piecesM x).take i).map (fun p => ([r] ++ p.1, p.2))) /\ (∃ o1 o2, σ = [o1, o2, some (.ref o)]) /\ Same HL1 H')
  ⟨.nil, ⟨none, none, rfl⟩, Same.refl _⟩ (fun i ys σ H' hi ⟨e1, _, sm⟩ => ⟨SqL.of (sm _ _ el1), by have := Paired.length e1; rw [List.length_map, List.length_take] at this; omega⟩) (Nat.le_of_lt (small1000 (by omega))) ?_ ?_⟩
 ·rintro i x ys σ H' hi ⟨hys, ⟨o1, o2, rfl⟩, sm⟩
  obtain ⟨p, hp, pc⟩ := paired_get hlv1 hi
  obtain ⟨tt, rl, so, dxs, la, rv, rfl, eT, frl, eRl, eRv, eSo, eLa⟩ := pc.same sm
  have rfew := rows_few p (List.mem_of_getElem? hp)
  have lrv : rv.length = p.1.length := Paired.length eRv
  refine ⟨tt, _, rfl, SqT.of eT, rfl, _, _, rfl, _, _, rfl, rfl, ?_⟩
  refine ⟨_, rfl, o, aParted, dx, _, _, rfl, ((s1.trans (sL1.trans sm)) _ _ ins), TParted.cl, AParted.n_row, rfl, (by show 1 <= sizeLine; decide), fun q1 hq1 => ?_⟩
  have y1 := same_new hq1 (HO.lst [V.ref ra])
  refine ⟨_, rfl, q1, rl, _, _, rfl, rfl, upd_same, y1 _ _ eRl, Nat.le_of_lt (small1000 (by show 1 + rv.length <= 1000; omega)), fun c1 hc1 => ?_⟩
  have y2 := same_new hc1 (HO.lst ([V.ref ra] ++ rv))
  have ec1 := upd_same (H := upd H' q1 (HO.lst [V.ref ra])) (a := c1) (o := HO.lst ([V.ref ra] ++ rv))
  refine ⟨_, rfl, (by show 2 <= sizeLine; decide), fun y hy => ?_⟩
  have y3 := same_new hy (HO.tup [V.ref c1, V.ref so])
  have sY := y1.trans (y2.trans y3)
  refine ⟨?_, ⟨_, _, rfl⟩, sm.trans sY⟩
  rw [take_snoc hp, List.map_append]
  refine paired_snoc (R := PcV aStraight H _) (y := ([r] ++ p.1, p.2)) ⟨y, c1, so, dxs, la, _, rfl, upd_same, ((s1.trans sL1).trans (sm.trans y1)).free hc1, y3 _ _ ec1, paired_app (xs := [V.ref ra]) (ys := [r]) (.cons ⟨ra, rfl, (sm.trans sY) _ _ (sL1 _ _ (s1 _ _ era))⟩ .nil) (WaysV.same sY eRv), sY _ _ eSo, sY _ _ eLa⟩ (Paired.mapP hys fun _ _ z => PcV.same sY z)
 rintro cv1 σ HE1 ⟨hcv1, ⟨o1, o2, rfl⟩, sE1⟩ c1 hc1
 rw [llv1, <- pieces_len, List.take_length] at hcv1
 have zC1 := same_new hc1 (HO.lst cv1)
 have eC1 := upd_same (H := HE1) (a := c1) (o := HO.lst cv1)
 obtain ⟨HC1, hHC1⟩ : ∃ J, J = upd HE1 c1 (HO.lst cv1) := ⟨_, rfl⟩
 rw [<- hHC1] at zC1 eC1 |-
 have hcw1 := Paired.mapP hcv1 fun _ _ z => PcV.same zC1 z
 refine ⟨_, rfl, o, aParted, dx, _, _, rfl, ((s1.trans (sL1.trans (sE1.trans zC1))) _ _ ins), TParted.cl, AParted.n_other, rfl, w2, n, y, rfl, rfl, (by omega), (by omega), hw.same (s1.trans (sL1.trans (sE1.trans zC1))), SH.2.2, n1, n8, TF.2.2, (by omega), fun l2 lv2 HL2 sL2 nl2 el2 hlv2 => ?_⟩
 have llv2 : lv2.length = countM y := (Paired.length hlv2).trans (pieces_len y)
 refine ⟨l2, rfl, ⟨_, SqL.of el2⟩, comp_list (K := K) (a := l2) (xs := lv2)
  (fun i ys σ H' => Paired (PcV aStraight H H') ys (((piecesM y).take i).map (fun p => ([negR r] ++ p.1, p.2))) /\ (∃ o1 o2, σ = [o1, o2, some (.ref ta)]) /\ Same HL2 H')
  ⟨.nil, ⟨none, none, rfl⟩, Same.refl _⟩ (fun i ys σ H' hi ⟨e1, _, sm⟩ => ⟨SqL.of (sm _ _ el2), by have := Paired.length e1; rw [List.length_map, List.length_take] at this; omega⟩) (Nat.le_of_lt (small1000 (by omega))) ?_ ?_⟩
 ·rintro i x ys σ H' hi ⟨hys, ⟨o1, o2, rfl⟩, sm⟩
  obtain ⟨p, hp, pc⟩ := paired_get hlv2 hi
  obtain ⟨tt, rl, so, dxs, la, rv, rfl, eT, frl, eRl, eRv, eSo, eLa⟩ := pc.same sm
  have rfew := rows_few p (List.mem_of_getElem? hp)
  have lrv : rv.length = p.1.length := Paired.length eRv
  refine ⟨tt, _, rfl, SqT.of eT, rfl, _, _, rfl, _, _, rfl, rfl, ?_⟩
  refine ⟨_, rfl, (by show 1 <= sizeLine; decide), fun q1 hq1 => ?_⟩
  have y1 := same_new hq1 (HO.lst [V.ref ta])
  refine ⟨_, rfl, q1, rl, _, _, rfl, rfl, upd_same, y1 _ _ eRl, Nat.le_of_lt (small1000 (by show 1 + rv.length <= 1000; omega)), fun c1 hc1 => ?_⟩
  have y2 := same_new hc1 (HO.lst ([V.ref ta] ++ rv))
  have ec1 := upd_same (H := upd H' q1 (HO.lst [V.ref ta])) (a := c1) (o := HO.lst ([V.ref ta] ++ rv))
  refine ⟨_, rfl, (by show 2 <= sizeLine; decide), fun y hy => ?_⟩
  have y3 := same_new hy (HO.tup [V.ref c1, V.ref so])
  have sY := y1.trans (y2.trans y3)
  refine ⟨?_, ⟨_, _, rfl⟩, sm.trans sY⟩
  rw [take_snoc hp, List.map_append]
  refine paired_snoc (R := PcV aStraight H _) (y := ([negR r] ++ p.1, p.2)) ⟨y, c1, so, dxs, la, _, rfl, upd_same, ((s1.trans (sL1.trans (sE1.trans (zC1.trans sL2)))).trans (sm.trans y1)).free hc1, y3 _ _ ec1, paired_app (xs := [V.ref ta]) (ys := [negR r]) (.cons ⟨ta, rfl, (sm.trans sY) _ _ (sL2 _ _ (zC1 _ _ (sE1 _ _ (sL1 _ _ eta))))⟩ .nil) (WaysV.same sY eRv), sY _ _ eSo, sY _ _ eLa⟩ (Paired.mapP hys fun _ _ z => PcV.same sY z)
 rintro cv2 σ HE2 ⟨hcv2, ⟨o1, o2, rfl⟩, sE2⟩ c2 hc2
 rw [llv2, <- pieces_len, List.take_length] at hcv2
 have zC2 := same_new hc2 (HO.lst cv2)
 have eC2 := upd_same (H := HE2) (a := c2) (o := HO.lst cv2)
 obtain ⟨HC2, hHC2⟩ : ∃ J, J = upd HE2 c2 (HO.lst cv2) := ⟨_, rfl⟩
 rw [<- hHC2] at zC2 eC2 |-
 have hcw2 := Paired.mapP hcv2 fun _ _ z => PcV.same zC2 z
 have sAll := s1.trans (sL1.trans (sE1.trans (zC1.trans (sL2.trans (sE2.trans zC2)))))
 have s12 := sL2.trans (sE2.trans zC2)
 have lc1 := Paired.length hcv1
 have lc2 := Paired.length hcv2
 rw [List.length_map, pieces_len] at lc1 lc2
 refine ⟨_, rfl, _, rfl, c1, c2, _, _, rfl, rfl, s12 _ _ eC1, eC2, Nat.le_of_lt (small1000 (by omega)), fun c hc => ?_⟩
 have zF := same_new hc (HO.lst (cv1 ++ cv2))
 exact q c _ _ (sAll.trans zF) (sAll.free hc) upd_same (paired_app (Paired.mapP hcw1 fun _ _ z => PcV.same (s12.trans zF) z) (Paired.mapP hcw2 fun _ _ z => PcV.same zF z))
theorem ok_listed {k : Nat} {f : Addr} {fd : FuncData} {d : Nat} (F : Fun K "listed" "listed" s_listed f fd) (B : Bl mg) (c_stopped_pieces : Fn P w K mg base "stopped_pieces" ["rule"] k (spListed aStraight aStopped aParted isStp (d + 1))) (c_parted_pieces : Fn P w K mg base "parted_pieces" ["rule"] k (spListed aStraight aStopped aParted isPrt (d + 1))) : FnOk P w K mg base CX0 (k + 1) f fd ["rule"] (spListed aStraight aStopped aParted anyK (d + 1)) := by
 refine F.ok sc_listed (fun vs H Q E h => ?_) (fun cdv A outer s H vs Q E hr h => ?_)
 ·obtain ⟨v, n, t, rfl, _⟩ := h
  rfl
 obtain ⟨v, n, t, rfl, kd, dp, d100, hR, SH, n1, n8, TF, c60, q⟩ := h
 refine ⟨_, (pss_cons (ps_if (pt_val (pe_callB (show CallR _ _ (rInstO K) from call_isinstO) rfl B.isinstance_ boot_isinstance_ (pa_cons (L2.pvj 0) (pa_cons (pe_cls TStopped rfl) pa_nil)))) (pss_one (ps_ret (pe_callF c_stopped_pieces hr rfl (pa_cons (L2.pvj 0) pa_nil)))) pss_nil)
  (pss_cons (ps_if (pt_val (pe_callB (show CallR _ _ (rInstO K) from call_isinstO) rfl B.isinstance_ boot_isinstance_ (pa_cons (L2.pvj 0) (pa_cons (pe_cls TParted rfl) pa_nil)))) (pss_one (ps_ret (pe_callF c_parted_pieces hr rfl (pa_cons (L2.pvj 0) pa_nil)))) pss_nil)
  (pss_one (ps_ret (pe_lst (pa_cons (pe_tup (pa_cons (pe_lst pa_nil) (pa_cons (L2.pvj 0) pa_nil))) pa_nil)))))), ?_⟩
 try dsimp only [cxOf, Cx.nox, Cx.wish]
 cases t with
 | str ns a d0 =>
  have hR' := hR
  obtain ⟨o, dx, la, rfl, ins, ela⟩ := hR
  refine ⟨_, rfl, _, _, _, _, rfl, (TStraight.ty ins), Y.k12, _, rfl, iteF ?_⟩
  refine ⟨_, rfl, _, _, _, _, rfl, (TStraight.ty ins), Y.k13, _, rfl, iteF ?_⟩
  refine ⟨(by show 0 <= sizeLine; decide), fun rl hrl => ?_⟩
  have z1 := same_new hrl (HO.lst [])
  refine ⟨_, rfl, (by show 2 <= sizeLine; decide), fun t ht => ?_⟩
  have z2 := same_new ht (HO.tup [V.ref rl, V.ref o])
  refine ⟨(by show 1 <= sizeLine; decide), fun l hl => ?_⟩
  have z3 := same_new hl (HO.lst [V.ref t])
  have z13 := z1.trans (z2.trans z3)
  exact q l [.ref t] _ z13 ((z1.trans z2).free hl) upd_same (.cons ⟨t, rl, o, dx, la, [], rfl, z3 _ _ upd_same, hrl, z3 _ _ (z2 _ _ upd_same), .nil, z13 _ _ ins, z13 _ _ ela⟩ .nil)
 | stp t1 lo hi =>
  have hR' := hR
  obtain ⟨o, dx, u, rfl, ins, hu⟩ := hR
  refine ⟨_, rfl, _, _, _, _, rfl, (TStopped.ty ins), kit_self, _, rfl, iteT ?_⟩
  exact ⟨_, rfl, .ref o, n, .stp t1 lo hi, rfl, rfl, dp, d100, hR', SH, n1, n8, TF, c60, fun l lv H' s e1 e2 e3 => q l lv H' s e1 e2 e3⟩
 | prt r x y =>
  have hR' := hR
  obtain ⟨o, dx, ra, u, w2, rfl, ins, era, hu, hw⟩ := hR
  refine ⟨_, rfl, _, _, _, _, rfl, (TParted.ty ins), Y.k32, _, rfl, iteF ?_⟩
  refine ⟨_, rfl, _, _, _, _, rfl, (TParted.ty ins), kit_self, _, rfl, iteT ?_⟩
  exact ⟨_, rfl, .ref o, n, .prt r x y, rfl, rfl, dp, d100, hR', SH, n1, n8, TF, c60, fun l lv H' s e1 e2 e3 => q l lv H' s e1 e2 e3⟩
theorem ok_pieces {k : Nat} {f : Addr} {fd : FuncData} (F : Fun K "pieces" "pieces" s_pieces f fd) (B : Bl mg) (c_is_rule : Fn P w K mg base "is_rule" ["value", "many"] k (spIsRule aStraight aStopped aParted 4)) (c_piece_count : Fn P w K mg base "piece_count" ["rule"] k (spCount aStraight aStopped aParted 4)) (c_listed : Fn P w K mg base "listed" ["rule"] k (spListed aStraight aStopped aParted anyK 4)) : FnOk P w K mg base CX0 (k + 1) f fd ["rule", "many"] (spPieces aStraight aStopped aParted 4) := by
 refine F.ok sc_pieces (fun vs H Q E h => ?_) (fun cdv A outer s H vs Q E hr h => ?_)
 ·obtain ⟨v, n, t, rfl, _⟩ := h
  rfl
 obtain ⟨v, n, t, rfl, dp, d100, hR, SH, n1, n8, TF, c60, q⟩ := h
 refine ⟨_, (pss_cons (ps_if (pt_not (pt_val (pe_callF c_is_rule hr rfl (pa_cons (L2.pvj 0) (pa_cons (L2.pvj 1) pa_nil))))) (pss_one ps_never) pss_nil)
  (pss_cons (ps_if (pt_cmpR (ji0 op_gt) (pe_callF c_piece_count hr rfl (pa_cons (L2.pvj 0) pa_nil)) (pe_const rfl B.MOST_PIECES_) (nomark _)) (pss_one ps_never) pss_nil)
  (pss_one (ps_ret (pe_callF c_listed hr rfl (pa_cons (L2.pvj 0) pa_nil)))))), ?_⟩
 try dsimp only [cxOf, Cx.nox, Cx.wish]
 refine ⟨_, rfl, _, rfl, v, n, t, rfl, dp, hR, SH, n8, fun H1 s1 => ⟨_, rfl, iteF ?_⟩⟩
 refine ⟨_, rfl, v, t, rfl, dp, d100, hR.same s1, _, _, rfl, rfl, _, rfl, iteB0 (decide_eq_false (show ¬ ((countM t : Int) > 60) by omega)) ?_⟩
 exact ⟨_, rfl, v, n, t, rfl, rfl, dp, d100, hR.same s1, SH, n1, n8, TF, c60, fun l lv H' s e1 e2 e3 => q l lv H' (s1.trans s) (s1.free e1) e2 (Paired.mapP e3 fun _ _ z => z.back s1)⟩
end
theorem take_all {α : Type} {xs : List α} {n : Nat} (h : xs.length <= n) : xs.take n = xs := List.take_of_length_le h
noncomputable def scM (f : Int) (ns : List Int) : List Int := ns.map fun x => f * x
theorem scM_len (f : Int) (ns : List Int) : (scM f ns).length = ns.length := List.length_map _
noncomputable def mixM (f : Int) (ns : List Int) (g : Int) (os : List Int) : List Int := (ns.zip os).map fun q => f * q.1 + g * q.2
theorem mixM_len (f : Int) (ns : List Int) (g : Int) (os : List Int) : (mixM f ns g os).length = min ns.length os.length := by
 unfold mixM
 rw [List.length_map, List.length_zip]
noncomputable def stM (m : MD) (p : PC) : MD := ⟨m.rows ++ p.1, (m.nexts.zip m.steer).map fun q => mixM p.2.d q.1 q.2 p.2.ns, m.steer.map fun _ => 0, m.push.map (scM p.2.d), mixM p.2.d m.add p.2.a m.steer, p.2.d * m.div⟩
noncomputable def ltR (n : Nat) (r : List Int) : List Int := r.take n ++ [0, r.getD n 0]
noncomputable def ltM (n : Nat) (m : MD) (p : PC) : MD := ⟨(m.rows ++ p.1).map (ltR n), ((m.nexts.zip m.steer).map fun q => scM p.2.d (q.1 ++ [q.2])) ++ [scM m.div p.2.ns ++ [0]], (m.steer.map fun _ => 0) ++ [0], m.push.map (scM p.2.d) ++ [((m.push.map (scM p.2.d)).getD 0 []).map fun _ => 0], scM p.2.d m.add ++ [m.div * p.2.a], m.div * p.2.d⟩
noncomputable def rdM (m : MD) (l : LF) : MD := ⟨(stM m ([], l)).rows, (stM m ([], l)).nexts, (stM m ([], l)).steer, ((stM m ([], l)).push.zip m.steer).map fun q => q.1 ++ scM (-q.2) l.ns, (stM m ([], l)).add, (stM m ([], l)).div⟩
structure MB (m : MD) : Prop where
 nexts : ∀ r ∈ m.nexts, ∀ x ∈ r, Bd 300 x
 steer : ∀ x ∈ m.steer, Bd 300 x
 push : ∀ r ∈ m.push, ∀ x ∈ r, Bd 300 x
 add : ∀ x ∈ m.add, Bd 300 x
 div : Bd 300 m.div
 few : m.rows.length <= 100
structure PB (n : Nat) (p : PC) : Prop where
 rows : ∀ r ∈ p.1, r.length = n + 1
 few : p.1.length <= 100
 len : p.2.ns.length = n
 d0 : 0 < p.2.d
 ns : ∀ x ∈ p.2.ns, Bd 300 x
 a : Bd 300 p.2.a
 d : Bd 300 p.2.d
theorem stM_ok {m : MD} {p : PC} {n w : Nat} (h : MDOk m n w) (b : MB m) (k : PB n p) : MDOk (stM m p) n w := by
 have n1 := h.nexts.1
 have n2 := h.steer
 have a1 := h.add
 have d1 := h.div
 have d2 := k.d0
 refine ⟨fun r hr => ?_, ?_, ⟨?_, fun r hr => ?_⟩, ?_, ⟨?_, fun r hr => ?_⟩, ?_, ?_, h.n3, h.p6⟩
 ·exact (List.mem_append.mp hr).elim (h.rows r) (k.rows r)
 ·have := b.few
  have := k.few
  show (m.rows ++ p.1).length <= 900
  rw [List.length_append]
  omega
 ·show ((m.nexts.zip m.steer).map _).length = n
  rw [List.length_map, List.length_zip]
  omega
 ·obtain ⟨q, hq, rfl⟩ := List.mem_map.mp hr
  have := h.nexts.2 q.1 (List.of_mem_zip hq).1
  have := k.len
  rw [mixM_len]
  omega
 ·show (m.steer.map _).length = n
  rw [List.length_map]
  exact n2
 ·show (m.push.map _).length = n
  rw [List.length_map]
  exact h.push.1
 ·obtain ⟨q, hq, rfl⟩ := List.mem_map.mp hr
  rw [scM_len]
  exact h.push.2 q hq
 ·show (mixM _ _ _ _).length = n
  rw [mixM_len]
  omega
 ·show 1 <= p.2.d * m.div
  have := Int.mul_pos d2 (show 0 < m.div by omega)
  omega
theorem ltM_ok {m : MD} {p : PC} {n w : Nat} (h : MDOk m n w) (b : MB m) (k : PB n p) (n1 : 1 <= n) (n2 : n <= 2) : MDOk (ltM n m p) (n + 1) w := by
 have e1 := h.nexts.1
 have e2 := h.steer
 have e3 := h.add
 have d1 := h.div
 have d2 := k.d0
 refine ⟨fun r hr => ?_, ?_, ⟨?_, fun r hr => ?_⟩, ?_, ⟨?_, fun r hr => ?_⟩, ?_, ?_, by omega, h.p6⟩
 ·obtain ⟨q, hq, rfl⟩ := List.mem_map.mp hr
  have : q.length = n + 1 := (List.mem_append.mp hq).elim (h.rows q) (k.rows q)
  show (q.take n ++ [0, q.getD n 0]).length = _
  rw [List.length_append, List.length_take]
  show min n q.length + 2 = _
  omega
 ·have := b.few
  have := k.few
  show ((m.rows ++ p.1).map _).length <= 900
  rw [List.length_map, List.length_append]
  omega
 ·show (((m.nexts.zip m.steer).map _) ++ [_]).length = n + 1
  rw [List.length_append, List.length_map, List.length_zip, List.length_singleton]
  omega
 ·rcases List.mem_append.mp hr with hr | hr
  ·obtain ⟨q, hq, rfl⟩ := List.mem_map.mp hr
   have := h.nexts.2 q.1 (List.of_mem_zip hq).1
   rw [scM_len, List.length_append, List.length_singleton]
   omega
  ·rw [List.mem_singleton.mp hr, List.length_append, scM_len, k.len]
   rfl
 ·show ((m.steer.map _) ++ [_]).length = n + 1
  rw [List.length_append, List.length_map, List.length_singleton]
  omega
 ·show ((m.push.map _) ++ [_]).length = n + 1
  rw [List.length_append, List.length_map, List.length_singleton, h.push.1]
 ·rcases List.mem_append.mp hr with hr | hr
  ·obtain ⟨q, hq, rfl⟩ := List.mem_map.mp hr
   rw [scM_len]
   exact h.push.2 q hq
  ·rw [List.mem_singleton.mp hr, List.length_map]
   have l0 : 0 < (m.push.map (scM p.2.d)).length := by rw [List.length_map, h.push.1]; omega
   rw [List.getD_eq_getElem?_getD, List.getElem?_eq_getElem l0, Option.getD_some, List.getElem_map, scM_len]
   exact h.push.2 _ (List.getElem_mem _)
 ·show (scM _ _ ++ [_]).length = n + 1
  rw [List.length_append, scM_len, e3]
  rfl
 ·show 1 <= m.div * p.2.d
  have := Int.mul_pos (show 0 < m.div by omega) d2
  omega
theorem rdM_ok {m : MD} {l : LF} {n w : Nat} (h : MDOk m n w) (b : MB m) (k : PB n ([], l)) (w3 : w <= 3) : MDOk (rdM m l) n (w + n) := by
 have s := stM_ok h b k
 have p1 := s.push.1
 have e2 := h.steer
 have n3 := h.n3
 refine ⟨s.rows, s.few, s.nexts, s.steer, ⟨?_, fun r hr => ?_⟩, s.add, s.div, n3, by omega⟩
 ·show (((stM m ([], l)).push.zip m.steer).map _).length = n
  rw [List.length_map, List.length_zip]
  omega
 ·obtain ⟨q, hq, rfl⟩ := List.mem_map.mp hr
  have := s.push.2 q.1 (List.of_mem_zip hq).1
  have kl : l.ns.length = n := k.len
  rw [List.length_append, scM_len]
  omega
theorem steer0 (xs : List Int) : (xs.map fun _ => (0 : Int)).all (fun x => decide (x = 0)) = true := by
 rw [List.all_map, List.all_eq_true]
 exact fun _ _ => rfl
theorem getD_get {α : Type} {xs : List α} {i : Nat} {x d : α} (h : xs[i]? = some x) : xs.getD i d = x := by rw [List.getD_eq_getElem?_getD, h]; rfl
theorem mix_range (f g : Int) (ns os : List Int) (n : Nat) (h1 : ns.length = n) (h2 : os.length = n) : (List.range n).map (fun j => f * ns.getD j 0 + g * os.getD j 0) = mixM f ns g os := by
 show _ = (ns.zip os).map (fun q => f * q.1 + g * q.2)
 refine List.ext_getElem (by rw [List.length_map, List.length_range, List.length_map, List.length_zip]; omega) fun j a b => ?_
 have a' : j < n := by rw [List.length_map, List.length_range] at a; exact a
 have e1 : ns.getD j 0 = ns[j]'(by omega) := getD_get (List.getElem?_eq_getElem _)
 have e2 : os.getD j 0 = os[j]'(by omega) := getD_get (List.getElem?_eq_getElem _)
 rw [List.getElem_map, List.getElem_map, List.getElem_zip, List.getElem_range, e1, e2]
inductive spScaled (vs : List V) (H : Hp) (Q : VK) (E : XK) : Prop
 | mk (f : Int) (a : Addr) (ns : List Int) (_ : vs = [.int f, .ref a]) (_ : H a = some (.lst (ns.map V.int))) (_ : ns.length <= 900) (_ : Bd 1000 f) (_ : (∀ x ∈ ns, Bd 1000 x)) (_ : ∀ l H', Same H H' -> H l = none -> H' l = some (.lst ((scM f ns).map V.int)) -> Q (.ref l) H') : spScaled vs H Q E
inductive spScaledL (vs : List V) (H : Hp) (Q : VK) (E : XK) : Prop
 | mk (f : Int) (a : Addr) (ns : List Int) (_ : vs = [.ref a, .int f]) (_ : H a = some (.lst (ns.map V.int))) (_ : ns.length <= 900) (_ : Bd 1000 f) (_ : (∀ x ∈ ns, Bd 1000 x)) (_ : ∀ l H', Same H H' -> H l = none -> H' l = some (.lst ((scM f ns).map V.int)) -> Q (.ref l) H') : spScaledL vs H Q E
inductive spMixed (vs : List V) (H : Hp) (Q : VK) (E : XK) : Prop
 | mk (f g : Int) (a b : Addr) (ns os : List Int) (_ : vs = [.int f, .ref a, .int g, .ref b]) (_ : H a = some (.lst (ns.map V.int))) (_ : H b = some (.lst (os.map V.int))) (_ : ns.length = os.length) (_ : ns.length <= 900) (_ : Bd 1000 f) (_ : Bd 1000 g) (_ : (∀ x ∈ ns, Bd 1000 x)) (_ : (∀ x ∈ os, Bd 1000 x)) (_ : ∀ l H', Same H H' -> H l = none -> H' l = some (.lst ((mixM f ns g os).map V.int)) -> Q (.ref l) H') : spMixed vs H Q E
structure StrA (C : Addr) (H : Hp) (so : Addr) (l : LF) (dx la : Addr) : Prop where
 ins : H so = some (.ins C dx (strF (.ref la) l.a l.d))
 ns : H la = some (.lst (l.ns.map V.int))
theorem StrA.same {C : Addr} {H H' : Hp} {so : Addr} {l : LF} {dx la : Addr} (s : Same H H') (h : StrA C H so l dx la) : StrA C H' so l dx la := ⟨s _ _ h.ins, s _ _ h.ns⟩
theorem mode_hid {C : Addr} {J1 J2 : Hp} {o : Addr} {m : MD} {M : ModeAt C J2 o m} (ok : M.Ok) {b : Addr} {xs : List V} (h1 : J1 b = some (.lst xs)) (h2 : J2 b = some (.lst xs)) (f1 : J1 M.r = none) (f2 : J1 M.n = none) (f3 : J1 M.s = none) (f4 : J1 M.p = none) (f5 : J1 M.a = none) (m1 : Paired (NewL J1 J2) M.nv m.nexts) (m2 : Paired (NewL J1 J2) M.pv m.push) : ModeV C (hide [b] J2) (.ref o) m := by
 have ne : ∀ {a : Addr} {u : HO}, J1 a = none -> J2 a = some u -> hide [b] J2 a = some u := fun ha hu => (hide_at fun z => by rw [List.mem_singleton.mp z, h1] at ha; cases ha).trans hu
 have nk : ∀ {a : Addr} {u : HO}, J2 a = some u -> (∀ ys, u ≠ .lst ys) -> hide [b] J2 a = some u := fun hu k => (hide_at fun z => by rw [List.mem_singleton.mp z, h2] at hu; exact k _ (Option.some.inj hu).symm).trans hu
 exact ⟨o, ⟨M.dx, M.r, M.rv, M.n, M.nv, M.s, M.p, M.pv, M.a⟩, rfl, ⟨nk ok.ins (fun _ z => nomatch z), ne f1 ok.hr, Paired.mapP ok.hrv fun _ _ ⟨a, e, q⟩ => ⟨a, e, nk q (fun _ z => nomatch z)⟩, ne f2 ok.hn, Paired.mapP m1 fun _ _ ⟨a, e, n, q⟩ => ⟨a, e, ne n q⟩, ne f3 ok.hs, ne f4 ok.hp, Paired.mapP m2 fun _ _ ⟨a, e, n, q⟩ => ⟨a, e, ne n q⟩, ne f5 ok.ha⟩⟩
inductive spStMode (C CM : Addr) (vs : List V) (H : Hp) (Q : VK) (E : XK) : Prop
 | mk (v : V) (m : MD) (rl so dxs la : Addr) (rv : List V) (rows : List (List Int)) (l : LF) (n w : Nat) (_ : vs = [v, .ref rl, .ref so]) (_ : ModeV CM H v m) (_ : MDOk m n w) (_ : MB m) (_ : H rl = some (.lst rv)) (_ : WaysV H rv rows) (_ : StrA C H so l dxs la) (_ : PB n (rows, l)) (_ : ∀ u H', Same H H' -> ModeV CM H' u (stM m (rows, l)) -> (∀ b xs, H b = some (.lst xs) -> ModeV CM (hide [b] H') u (stM m (rows, l))) -> Q u H') : spStMode C CM vs H Q E
inductive spLtMode (C CM : Addr) (vs : List V) (H : Hp) (Q : VK) (E : XK) : Prop
 | mk (v : V) (m : MD) (rl so dxs la : Addr) (rv : List V) (rows : List (List Int)) (l : LF) (n w : Nat) (_ : vs = [v, .ref rl, .ref so]) (_ : ModeV CM H v m) (_ : MDOk m n w) (_ : MB m) (_ : H rl = some (.lst rv)) (_ : WaysV H rv rows) (_ : StrA C H so l dxs la) (_ : PB n (rows, l)) (_ : 1 <= n) (_ : n <= 2) (_ : ∀ u H', Same H H' -> ModeV CM H' u (ltM n m (rows, l)) -> (∀ b xs, H b = some (.lst xs) -> ModeV CM (hide [b] H') u (ltM n m (rows, l))) -> Q u H') : spLtMode C CM vs H Q E
inductive spRdMode (C CM : Addr) (vs : List V) (H : Hp) (Q : VK) (E : XK) : Prop
 | mk (v : V) (m : MD) (so dxs la : Addr) (l : LF) (n w : Nat) (_ : vs = [v, .ref so]) (_ : ModeV CM H v m) (_ : MDOk m n w) (_ : MB m) (_ : StrA C H so l dxs la) (_ : PB n ([], l)) (_ : w <= 3) (_ : ∀ u H', Same H H' -> ModeV CM H' u (rdM m l) -> Q u H') : spRdMode C CM vs H Q E
section
variable {P : Program} {w : World} {K : PySem.W.Frag} {mg : Str -> Option Value} {base : Heap}
noncomputable abbrev s_scaled : Stmt := top 16
theorem sc_scaled : FnScope ["factor", "numbers"] ["factor", "numbers"] (defScope s_scaled) := ⟨rfl, rfl, rfl, by decide +kernel, rfl, by decide +kernel, by decide +kernel⟩
noncomputable abbrev s_mixed : Stmt := top 17
theorem sc_mixed : FnScope ["factor", "numbers", "other_factor", "others"] ["factor", "numbers", "other_factor", "others"] (defScope s_mixed) := ⟨rfl, rfl, rfl, by decide +kernel, rfl, by decide +kernel, by decide +kernel⟩
noncomputable abbrev s_steered_mode : Stmt := top 52
theorem sc_steered_mode : FnScope ["mode", "rows", "straight", "factor"] ["mode", "rows", "straight"] (defScope s_steered_mode) := ⟨rfl, rfl, rfl, by decide +kernel, rfl, by decide +kernel, by decide +kernel⟩
variable {aStraight aStopped aParted aMode aThing : Addr} (TStraight : ClsF K mg "Straight" aStraight) (AStraight : AtStraight K aStraight) (TStopped : ClsF K mg "Stopped" aStopped) (AStopped : AtStopped K aStopped) (TParted : ClsF K mg "Parted" aParted) (AParted : AtParted K aParted) (TMode : ClsF K mg "Mode" aMode) (AMode : AtMode K aMode) (TThing : ClsF K mg "Thing" aThing) (AThing : AtThing K aThing) (Y : Kits K aStraight aStopped aParted)
include TStraight AStraight TStopped AStopped TParted AParted TMode AMode TThing AThing Y
theorem ok_scaled {k : Nat} {f : Addr} {fd : FuncData} (F : Fun K "scaled" "scaled" s_scaled f fd) (B : Bl mg) : FnOk P w K mg base CX0 (k + 1) f fd ["factor", "numbers"] spScaled := by
 refine F.ok sc_scaled (fun vs H Q E h => ?_) (fun cdv A outer s H vs Q E hr h => ?_)
 ·obtain ⟨f, a, ns, rfl, _⟩ := h
  rfl
 obtain ⟨f, a, ns, rfl, ha, few, bf, bn, q⟩ := h
 refine ⟨_, (pss_one (ps_ret (pe_comp (own := ["number"]) (caps := [(0, "factor")]) (blk_cap (S := defScope s_scaled) (N := ["factor", "numbers"]) rfl (by decide +kernel) rfl ⟨_, rfl⟩ rfl (by decide +kernel) (by decide +kernel)) rfl (pi_list (L2.pvj 1)) (fun _ _ _ _ => pg_name (i := 0) (show (["number", "factor"] : List Str).Nodup by decide +kernel) rfl (Or.inl rfl)) (fun _ _ _ _ => (pe_op (ji op_mulW) (L2.pvj 1) (L2.pvj 0)))))), ?_⟩
 try dsimp only [cxOf, Cx.nox, Cx.wish]
 refine ⟨_, rfl, a, rfl, ⟨_, SqL.of ha⟩, comp_list (K := K) (a := a) (xs := ns.map V.int) (fun i ys σ H' => ys = (scM f (ns.take i)).map V.int /\ (∃ o, σ = [o, some (.int f)]) /\ H' = H)
  ⟨rfl, ⟨none, rfl⟩, rfl⟩ (fun i ys σ H' hi ⟨e1, _, e3⟩ => ⟨by rw [e3]; exact SqL.of ha, by rw [e1, List.length_map, scM_len, List.length_take]; exact Nat.min_le_left _ _⟩) (by rw [List.length_map]; exact Nat.le_of_lt (small1000 (by omega))) ?_ ?_⟩
 ·rintro i x ys σ H' hi ⟨rfl, ⟨o, rfl⟩, rfl⟩
  obtain ⟨z, hz, rfl⟩ := ints_get hi
  refine ⟨_, rfl, _, rfl, _, _, rfl, rfl, ⟨bf.mono (by decide), (bn z (List.mem_of_getElem? hz)).mono (by decide)⟩, ?_, ⟨_, rfl⟩, rfl⟩
  unfold scM
  rw [take_snoc hz, List.map_append, List.map_append]
  rfl
 rintro ys σ H' ⟨rfl, ⟨o, rfl⟩, rfl⟩ l hl
 refine q l _ (same_new hl _) hl (upd_same.trans ?_)
 rw [List.length_map, List.take_length]
theorem ok_mixed {k : Nat} {f : Addr} {fd : FuncData} (F : Fun K "mixed" "mixed" s_mixed f fd) (B : Bl mg) : FnOk P w K mg base CX0 (k + 1) f fd ["factor", "numbers", "other_factor", "others"] spMixed := by
 refine F.ok sc_mixed (fun vs H Q E h => ?_) (fun cdv A outer s H vs Q E hr h => ?_)
 ·obtain ⟨f, g, a, b, ns, os, rfl, _⟩ := h
  rfl
 obtain ⟨f, g, a, b, ns, os, rfl, ha, hb, ln, few, bf, bg, bn, bo, q⟩ := h
 refine ⟨_, (pss_one (ps_ret (pe_comp (own := ["number", "other"]) (caps := [(0, "factor"), (2, "other_factor")]) (blk_cap (S := defScope s_mixed) (N := ["factor", "numbers", "other_factor", "others"]) rfl (by decide +kernel) rfl ⟨_, rfl⟩ rfl (by decide +kernel) (by decide +kernel)) rfl (pi_zipL rfl B.zip_ (pa_cons (L2.pvj 1) (pa_cons (L2.pvj 3) pa_nil))) (fun _ _ _ _ => show PG _ _ (gTup K 2 (gCons (gName 0) (gCons (gName 1) gNil))) from pg_tup (n := 2) rfl (pgs_cons (pg_name (i := 0) (show (["number", "other", "factor", "other_factor"] : List Str).Nodup by decide +kernel) rfl (Or.inl rfl)) (pgs_cons (pg_name (i := 1) (show (["number", "other", "factor", "other_factor"] : List Str).Nodup by decide +kernel) rfl (Or.inl rfl)) pgs_nil))) (fun _ _ _ _ => (pe_op (ji0 op_add) (pe_op (ji op_mulW) (L2.pvj 2) (L2.pvj 0)) (pe_op (ji op_mulW) (L2.pvj 3) (L2.pvj 1))))))), ?_⟩
 try dsimp only [cxOf, Cx.nox, Cx.wish]
 refine ⟨_, rfl, _, rfl, a, b, rfl, ⟨_, SqL.of ha⟩, ⟨_, SqL.of hb⟩, comp_zipL (K := K) (a := a) (b := b) (xs := ns.map V.int) (ys := os.map V.int)
  (fun i zs σ H' => zs = (((ns.zip os).take i).map fun q => f * q.1 + g * q.2).map V.int /\ (∃ o1 o2, σ = [o1, o2, some (.int f), some (.int g)]) /\ Same H H')
  ⟨rfl, ⟨none, none, rfl⟩, Same.refl _⟩ (fun i zs σ H' hi ⟨e1, _, sm⟩ => ⟨SqL.of (sm _ _ ha), SqL.of (sm _ _ hb), by rw [e1, List.length_map, List.length_map, List.length_take]; exact Nat.min_le_left _ _⟩) (by rw [List.length_map, List.length_map, ln]; exact Nat.le_refl _) (by rw [List.length_map]; exact Nat.le_of_lt (small1000 (by omega))) ?_ ?_⟩
 ·rintro i x y T zs σ H' hx hy hT ⟨rfl, ⟨o1, o2, rfl⟩, sm⟩
  obtain ⟨x0, hx0, rfl⟩ := ints_get hx
  obtain ⟨y0, hy0, rfl⟩ := ints_get hy
  have s2 := sm.trans (same_new hT (HO.tup [V.int x0, V.int y0]))
  refine ⟨T, _, rfl, SqT.of upd_same, rfl, _, _, rfl, _, _, rfl, rfl, ?_⟩
  refine ⟨_, rfl, _, rfl, _, _, rfl, rfl, ⟨bf.mono (by decide), (bn _ (List.mem_of_getElem? hx0)).mono (by decide)⟩, _, rfl, _, rfl, _, _, rfl, rfl, ⟨bg.mono (by decide), (bo _ (List.mem_of_getElem? hy0)).mono (by decide)⟩, _, _, rfl, rfl, ?_, ⟨_, _, rfl⟩, s2⟩
  have hz : (ns.zip os)[i]? = some (x0, y0) := by rw [List.getElem?_zip_eq_some]; exact ⟨hx0, hy0⟩
  rw [take_snoc hz, List.map_append, List.map_append]
  rfl
 rintro zs σ H' ⟨rfl, ⟨o1, o2, rfl⟩, sm⟩ l hl
 refine q l _ (sm.trans (same_new hl _)) (sm.free hl) (upd_same.trans ?_)
 rw [List.take_of_length_le (by rw [List.length_zip, List.length_map]; omega)]
 rfl
theorem ok_steered_mode {k : Nat} {f : Addr} {fd : FuncData} (F : Fun K "steered_mode" "steered_mode" s_steered_mode f fd) (B : Bl mg) (c_Mode___init__ : FnC P w K mg base aMode ["self", "rows", "nexts", "steer", "push", "add", "divisor"] k (spModeInit aMode)) (c_mixed : Fn P w K mg base "mixed" ["factor", "numbers", "other_factor", "others"] (k + 1) spMixed) (c_scaled : Fn P w K mg base "scaled" ["factor", "numbers"] (k + 1) spScaled) : FnOk P w K mg base CX0 (k + 1 + 1) f fd ["mode", "rows", "straight"] (spStMode aStraight aMode) := by
 refine F.ok sc_steered_mode (fun vs H Q E h => ?_) (fun cdv A outer s H vs Q E hr h => ?_)
 ·obtain ⟨v, m, rl, so, dxs, la, rv, rows, l, n, w, rfl, _⟩ := h
  rfl
 obtain ⟨v, m, rl, so, dxs, la, rv, rows, l, n, w, rfl, hM, MO, MBm, hrl, hrv, SA, PK, q⟩ := h
 refine ⟨_, (pss_cons (ps_set (i := 3) sc_steered_mode.nd rfl (Or.inr rfl) (pe_fld (L2.pvj 2) rfl))
  (pss_one (ps_ret (pe_makeF c_Mode___init__ TMode hr rfl (pa_cons (pe_op jcat (pe_fld (L2.pvj 0) rfl) (L2.pvj 1)) (pa_cons (pe_comp (own := ["part", "steer"]) (caps := [(2, "straight"), (3, "factor")]) (blk_cap (S := defScope s_steered_mode) (N := ["mode", "rows", "straight", "factor"]) rfl (by decide +kernel) rfl ⟨_, rfl⟩ rfl (by decide +kernel) (by decide +kernel)) rfl (pi_zipL rfl B.zip_ (pa_cons (pe_fld (L2.pvj 0) rfl) (pa_cons (pe_fld (L2.pvj 0) rfl) pa_nil))) (fun _ _ _ _ => show PG _ _ (gTup K 2 (gCons (gName 0) (gCons (gName 1) gNil))) from pg_tup (n := 2) rfl (pgs_cons (pg_name (i := 0) (show (["part", "steer", "straight", "factor"] : List Str).Nodup by decide +kernel) rfl (Or.inl rfl)) (pgs_cons (pg_name (i := 1) (show (["part", "steer", "straight", "factor"] : List Str).Nodup by decide +kernel) rfl (Or.inl rfl)) pgs_nil))) (fun _ _ _ _ => (pe_callF c_mixed hr rfl (pa_cons (L2.pvj 3) (pa_cons (L2.pvj 0) (pa_cons (L2.pvj 1) (pa_cons (show PE _ _ (tFld K _ _) from pe_fld (L2.pvj 2) rfl) pa_nil))))))) (pa_cons (pe_comp (own := ["steer"]) (caps := []) (blk_mk rfl) rfl (pi_list (pe_fld (L2.pvj 0) rfl)) (fun _ _ _ _ => pg_name (i := 0) (show (["steer"] : List Str).Nodup by decide +kernel) rfl (Or.inl rfl)) (fun _ _ _ _ => pe_int)) (pa_cons (pe_comp (own := ["part"]) (caps := [(3, "factor")]) (blk_cap (S := defScope s_steered_mode) (N := ["mode", "rows", "straight", "factor"]) rfl (by decide +kernel) rfl ⟨_, rfl⟩ rfl (by decide +kernel) (by decide +kernel)) rfl (pi_list (pe_fld (L2.pvj 0) rfl)) (fun _ _ _ _ => pg_name (i := 0) (show (["part", "factor"] : List Str).Nodup by decide +kernel) rfl (Or.inl rfl)) (fun _ _ _ _ => (pe_callF c_scaled hr rfl (pa_cons (L2.pvj 1) (pa_cons (L2.pvj 0) pa_nil))))) (pa_cons (pe_callF c_mixed hr rfl (pa_cons (L2.pvj 3) (pa_cons (pe_fld (L2.pvj 0) rfl) (pa_cons (pe_fld (L2.pvj 2) rfl) (pa_cons (pe_fld (L2.pvj 0) rfl) pa_nil))))) (pa_cons (pe_op (ji op_mulW) (L2.pvj 3) (pe_fld (L2.pvj 0) rfl)) pa_nil)))))))))), ?_⟩
 try dsimp only [cxOf, Cx.nox, Cx.wish]
 obtain ⟨o, M, rfl, k0⟩ := hM
 have n3 := MO.n3
 have p6 := MO.p6
 have ln1 := MO.nexts.1
 have ln2 := MO.steer
 have ln3 := MO.push.1
 have ln4 := MO.add
 have fw := MBm.few
 have lrv : M.rv.length = m.rows.length := Paired.length k0.hrv
 have lnv : M.nv.length = m.nexts.length := Paired.length k0.hnv
 have lpv : M.pv.length = m.push.length := Paired.length k0.hpv
 have kl : l.ns.length = n := PK.len
 have fr : rows.length <= 100 := PK.few
 have lr2 : rv.length = rows.length := Paired.length hrv
 refine ⟨_, rfl, so, aStraight, dxs, _, _, rfl, SA.ins, TStraight.cl, AStraight.n_divisor, rfl, ?_⟩
 refine ⟨_, rfl, o, aMode, M.dx, _, _, rfl, k0.ins, TMode.cl, AMode.n_rows, rfl, _, rfl, M.r, rl, _, _, rfl, rfl, k0.hr, hrl, Nat.le_of_lt (small1000 (by omega)), fun c1 hc1 => ?_⟩
 have S1 := same_new hc1 (HO.lst (M.rv ++ rv))
 have ec1 := upd_same (H := H) (a := c1) (o := HO.lst (M.rv ++ rv))
 have hw1 : WaysV (upd H c1 (HO.lst (M.rv ++ rv))) (M.rv ++ rv) (m.rows ++ rows) := paired_app (WaysV.same S1 k0.hrv) (WaysV.same S1 hrv)
 generalize hhG1 : upd H c1 (HO.lst (M.rv ++ rv)) = G1 at S1 ec1 hw1 |-
 refine ⟨_, rfl, o, aMode, M.dx, _, _, rfl, (S1 _ _ k0.ins), TMode.cl, AMode.n_nexts, rfl, _, rfl, o, aMode, M.dx, _, _, rfl, (S1 _ _ k0.ins), TMode.cl, AMode.n_steer, rfl, M.n, M.s, rfl, ⟨_, SqL.of (S1 _ _ k0.hn)⟩, ⟨_, SqL.of (S1 _ _ k0.hs)⟩, comp_zipL (K := K) (a := M.n) (b := M.s) (xs := M.nv) (ys := m.steer.map V.int)
  (fun i zs σ H' => TabV H' zs (((m.nexts.zip m.steer).take i).map fun q => mixM l.d q.1 q.2 l.ns) /\ (∃ o1 o2, σ = [o1, o2, some (.ref so), some (.int l.d)]) /\ Same G1 H')
  ⟨.nil, ⟨none, none, rfl⟩, Same.refl _⟩ (fun i zs σ H' hi ⟨e1, _, sm⟩ => ⟨SqL.of (sm _ _ (S1 _ _ k0.hn)), SqL.of (sm _ _ (S1 _ _ k0.hs)), by have := Paired.length e1; rw [List.length_map, List.length_take] at this; omega⟩) (by rw [List.length_map]; omega) (Nat.le_of_lt (small1000 (by omega))) ?_ ?_⟩
 ·rintro i x y T zs σ H' hx hy hT ⟨hz, ⟨o1, o2, rfl⟩, sm⟩
  obtain ⟨r, hr', a, rfl, ea⟩ := paired_get k0.hnv hx
  obtain ⟨y0, hy0, rfl⟩ := ints_get hy
  have zT := same_new hT (HO.tup [V.ref a, V.int y0])
  have s2 := S1.trans (sm.trans zT)
  have rl' := MO.nexts.2 r (List.mem_of_getElem? hr')
  refine ⟨T, _, rfl, SqT.of upd_same, rfl, _, _, rfl, _, _, rfl, rfl, ?_⟩
  refine ⟨_, rfl, _, rfl, _, rfl, _, rfl, so, aStraight, dxs, _, _, rfl, (s2 _ _ SA.ins), TStraight.cl, AStraight.n_numbers, rfl, l.d, y0, a, la, r, l.ns, rfl, s2 _ _ ea, s2 _ _ SA.ns, (by omega), (by omega), PK.d.mono (by decide), (MBm.steer y0 (List.mem_of_getElem? hy0)).mono (by decide), (fun x hx => (MBm.nexts r (List.mem_of_getElem? hr') x hx).mono (by decide)), (fun x hx => (PK.ns x hx).mono (by decide)), fun l2 H2 s3 _ el2 => ?_⟩
  have hz' : (m.nexts.zip m.steer)[i]? = some (r, y0) := by rw [List.getElem?_zip_eq_some]; exact ⟨hr', hy0⟩
  refine ⟨?_, ⟨_, _, rfl⟩, sm.trans (zT.trans s3)⟩
  rw [take_snoc hz', List.map_append]
  exact paired_snoc (R := LstI _) ⟨l2, rfl, el2⟩ (TabV.same (zT.trans s3) hz)
 rintro tn σ G1' ⟨htn, ⟨o1, o2, rfl⟩, y20⟩ n1 hn1
 rw [take_all (by rw [List.length_zip]; omega)] at htn
 have y2 := y20.trans (same_new hn1 (HO.lst tn))
 replace htn := TabV.same (same_new hn1 (HO.lst tn)) htn
 have en1 := upd_same (H := G1') (a := n1) (o := HO.lst tn)
 generalize hhG2 : upd G1' n1 (HO.lst tn) = G2 at y2 en1 htn |-
 have S2 := S1.trans y2
 refine ⟨_, rfl, o, aMode, M.dx, _, _, rfl, (S2 _ _ k0.ins), TMode.cl, AMode.n_steer, rfl, M.s, rfl, ⟨_, SqL.of (S2 _ _ k0.hs)⟩, comp_list (K := K) (a := M.s) (xs := (m.steer).map V.int) (fun i ys σ H' => ys = (List.replicate i (0 : Int)).map V.int /\ (∃ o, σ = [o]) /\ H' = G2)
  ⟨rfl, ⟨none, rfl⟩, rfl⟩ (fun i ys σ H' hi ⟨e1, _, e3⟩ => ⟨by rw [e3]; exact SqL.of (S2 _ _ k0.hs), by rw [e1, List.length_map, List.length_replicate]; exact Nat.le_refl _⟩) (by rw [List.length_map, ln2]; exact Nat.le_of_lt (small1000 (by omega))) ?_ ?_⟩
 ·rintro i x ys σ H' hi ⟨rfl, ⟨o1, rfl⟩, rfl⟩
  refine ⟨?_, ⟨_, rfl⟩, rfl⟩
  rw [List.replicate_succ', List.map_append]
  rfl
 rintro ys σ H' ⟨rfl, ⟨o1, rfl⟩, hZ⟩ z1 hz1
 rw [hZ] at hz1 |-
 rw [List.length_map, zeros_eq]
 have y3 := same_new hz1 (HO.lst (((m.steer).map fun _ => (0 : Int)).map V.int))
 have ez1 := upd_same (H := G2) (a := z1) (o := HO.lst (((m.steer).map fun _ => (0 : Int)).map V.int))
 generalize hhG3 : upd G2 z1 (HO.lst (((m.steer).map fun _ => (0 : Int)).map V.int)) = G3 at y3 ez1 |-
 clear hZ
 have S3 := S2.trans y3
 refine ⟨_, rfl, o, aMode, M.dx, _, _, rfl, (S3 _ _ k0.ins), TMode.cl, AMode.n_push, rfl, M.p, rfl, ⟨_, SqL.of (S3 _ _ k0.hp)⟩, comp_list (K := K) (a := M.p) (xs := M.pv) (fun i ys σ H' => TabV H' ys ((m.push.take i).map (scM l.d)) /\ (∃ o, σ = [o, some (.int l.d)]) /\ Same G3 H')
  ⟨.nil, ⟨none, rfl⟩, Same.refl _⟩ (fun i ys σ H' hi ⟨e1, _, sm⟩ => ⟨SqL.of (sm _ _ (S3 _ _ k0.hp)), by have := Paired.length e1; rw [List.length_map, List.length_take] at this; omega⟩) (Nat.le_of_lt (small1000 (by omega))) ?_ ?_⟩
 ·rintro i x ys σ H' hi ⟨hz, ⟨o1, rfl⟩, sm⟩
  obtain ⟨r, hr', a, rfl, ea⟩ := paired_get k0.hpv hi
  have rl' := MO.push.2 r (List.mem_of_getElem? hr')
  refine ⟨_, rfl, _, rfl, l.d, a, r, rfl, sm _ _ (S3 _ _ ea), (by omega), PK.d.mono (by decide), (fun x hx => (MBm.push r (List.mem_of_getElem? hr') x hx).mono (by decide)), fun l2 H2 s3 _ el2 => ?_⟩
  refine ⟨?_, ⟨_, rfl⟩, sm.trans s3⟩
  rw [take_snoc hr', List.map_append]
  exact paired_snoc (R := LstI _) ⟨l2, rfl, el2⟩ (TabV.same s3 hz)
 rintro tp σ G3' ⟨htp, ⟨o1, rfl⟩, y40⟩ p1 hp1
 rw [take_all (by omega)] at htp
 have y4 := y40.trans (same_new hp1 (HO.lst tp))
 replace htp := TabV.same (same_new hp1 (HO.lst tp)) htp
 have ep1 := upd_same (H := G3') (a := p1) (o := HO.lst tp)
 generalize hhG4 : upd G3' p1 (HO.lst tp) = G4 at y4 ep1 htp |-
 have S4 := S3.trans y4
 refine ⟨_, rfl, _, rfl, o, aMode, M.dx, _, _, rfl, (S4 _ _ k0.ins), TMode.cl, AMode.n_add, rfl, _, rfl, so, aStraight, dxs, _, _, rfl, (S4 _ _ SA.ins), TStraight.cl, AStraight.n_add, rfl, _, rfl, o, aMode, M.dx, _, _, rfl, (S4 _ _ k0.ins), TMode.cl, AMode.n_steer, rfl, l.d, l.a, M.a, M.s, m.add, m.steer, rfl, S4 _ _ k0.ha, S4 _ _ k0.hs, (by omega), (by omega), PK.d.mono (by decide), PK.a.mono (by decide), (fun x hx => (MBm.add x hx).mono (by decide)), (fun x hx => (MBm.steer x hx).mono (by decide)), fun a1 G5 y5 _ ea1 => ?_⟩
 have S5 := S4.trans y5
 refine ⟨_, rfl, _, rfl, o, aMode, M.dx, _, _, rfl, (S5 _ _ k0.ins), TMode.cl, AMode.n_divisor, rfl, _, _, rfl, rfl, ⟨PK.d.mono (by decide), MBm.div.mono (by decide)⟩, ?_⟩
 have y25 := y3.trans (y4.trans y5)
 have y15 := y2.trans y25
 intro mo dx hmo hdx ne
 have zm := same_make hmo hdx ne (HO.own mo) (HO.ins aMode dx [])
 have eo := upd_same (H := upd G5 dx (HO.own mo)) (a := mo) (o := HO.ins aMode dx [])
 generalize hhJ1 : upd (upd G5 dx (HO.own mo)) mo (HO.ins aMode dx []) = J1 at zm eo |-
 refine ⟨mo, dx, c1, n1, z1, p1, a1, (M.rv ++ rv), tn, tp, (stM m (rows, l)), n, w, rfl, eo, stM_ok MO MBm PK, zm _ _ (y15 _ _ ec1), WaysV.same zm (WaysV.same y15 hw1), zm _ _ (y25 _ _ en1), TabV.same zm (TabV.same y25 htn), zm _ _ (y4.trans y5 _ _ ez1), zm _ _ (y5 _ _ ep1), TabV.same zm (TabV.same y5 htp), zm _ _ ea1, fun M2 J2 sb ok f1 f2 f3 f4 f5 m1 m2 => ⟨rfl, ?_⟩⟩
 exact q (.ref mo) J2 (S5.trans (same_but zm sb hmo)) ⟨mo, _, rfl, ok⟩ (fun b xs hb => mode_hid ok (zm _ _ (S5 _ _ hb)) ((same_but zm sb hmo) _ _ (S5 _ _ hb)) f1 f2 f3 f4 f5 m1 m2)
end
section
variable {P : Program} {w : World} {K : PySem.W.Frag} {mg : Str -> Option Value} {base : Heap}
noncomputable abbrev s_rounded_mode : Stmt := top 54
theorem sc_rounded_mode : FnScope ["mode", "straight", "exact", "push"] ["mode", "straight"] (defScope s_rounded_mode) := ⟨rfl, rfl, rfl, by decide +kernel, rfl, by decide +kernel, by decide +kernel⟩
noncomputable abbrev s_late_mode : Stmt := top 56
theorem sc_late_mode : FnScope ["mode", "rows", "straight", "factor", "nexts", "push"] ["mode", "rows", "straight"] (defScope s_late_mode) := ⟨rfl, rfl, rfl, by decide +kernel, rfl, by decide +kernel, by decide +kernel⟩
variable {aStraight aStopped aParted aMode aThing : Addr} (TStraight : ClsF K mg "Straight" aStraight) (AStraight : AtStraight K aStraight) (TStopped : ClsF K mg "Stopped" aStopped) (AStopped : AtStopped K aStopped) (TParted : ClsF K mg "Parted" aParted) (AParted : AtParted K aParted) (TMode : ClsF K mg "Mode" aMode) (AMode : AtMode K aMode) (TThing : ClsF K mg "Thing" aThing) (AThing : AtThing K aThing) (Y : Kits K aStraight aStopped aParted)
include TStraight AStraight TStopped AStopped TParted AParted TMode AMode TThing AThing Y
theorem ok_rounded_mode {k : Nat} {f : Addr} {fd : FuncData} (F : Fun K "rounded_mode" "rounded_mode" s_rounded_mode f fd) (B : Bl mg) (c_steered_mode : Fn P w K mg base "steered_mode" ["mode", "rows", "straight"] (k + 1) (spStMode aStraight aMode)) (c_scaled : Fn P w K mg base "scaled" ["factor", "numbers"] (k + 1) spScaled) (c_Mode___init__ : FnC P w K mg base aMode ["self", "rows", "nexts", "steer", "push", "add", "divisor"] k (spModeInit aMode)) : FnOk P w K mg base CX0 (k + 1 + 1) f fd ["mode", "straight"] (spRdMode aStraight aMode) := by
 refine F.ok sc_rounded_mode (fun vs H Q E h => ?_) (fun cdv A outer s H vs Q E hr h => ?_)
 ·obtain ⟨v, m, so, dxs, la, l, n, w, rfl, _⟩ := h
  rfl
 obtain ⟨v, m, so, dxs, la, l, n, w, rfl, hM, MO, MBm, SA, PK, w3, q⟩ := h
 refine ⟨_, (pss_cons (ps_set (i := 2) sc_rounded_mode.nd rfl (Or.inl rfl) (pe_callF c_steered_mode hr rfl (pa_cons (L2.pvj 0) (pa_cons (pe_lst pa_nil) (pa_cons (L2.pvj 1) pa_nil)))))
  (pss_cons (ps_comp (i := 3) sc_rounded_mode.nd rfl rfl (own := ["part", "steer"]) (caps := [(1, "straight")]) (blk_cap (S := defScope s_rounded_mode) (N := ["mode", "straight", "exact", "push"]) rfl (by decide +kernel) rfl ⟨_, rfl⟩ rfl (by decide +kernel) (by decide +kernel)) rfl (pi_zipL rfl B.zip_ (pa_cons (pe_fld (L2.pvj 2) rfl) (pa_cons (pe_fld (L2.pvj 0) rfl) pa_nil))) (fun _ _ _ _ => show PG _ _ (gTup K 2 (gCons (gName 0) (gCons (gName 1) gNil))) from pg_tup (n := 2) rfl (pgs_cons (pg_name (i := 0) (show (["part", "steer", "straight"] : List Str).Nodup by decide +kernel) rfl (Or.inl rfl)) (pgs_cons (pg_name (i := 1) (show (["part", "steer", "straight"] : List Str).Nodup by decide +kernel) rfl (Or.inl rfl)) pgs_nil))) (fun _ _ _ _ => (pe_op jcat (L2.pvj 0) (pe_callF c_scaled hr rfl (pa_cons (pe_un un_neg (L2.pvj 1)) (pa_cons (show PE _ _ (tFld K _ _) from pe_fld (L2.pvj 2) rfl) pa_nil))))) rfl)
  (pss_one (ps_ret (pe_makeF c_Mode___init__ TMode hr rfl (pa_cons (pe_fld (L2.pvj 2) rfl) (pa_cons (pe_fld (L2.pvj 2) rfl) (pa_cons (pe_fld (L2.pvj 2) rfl) (pa_cons (L2.pvj 3) (pa_cons (pe_fld (L2.pvj 2) rfl) (pa_cons (pe_fld (L2.pvj 2) rfl) pa_nil))))))))))), ?_⟩
 try dsimp only [cxOf, Cx.nox, Cx.wish]
 have hM2 := hM
 obtain ⟨o, M, rfl, k0⟩ := hM
 have n3 := MO.n3
 have p6 := MO.p6
 have ln1 := MO.nexts.1
 have ln2 := MO.steer
 have ln3 := MO.push.1
 have ln4 := MO.add
 have fw := MBm.few
 have lrv : M.rv.length = m.rows.length := Paired.length k0.hrv
 have lnv : M.nv.length = m.nexts.length := Paired.length k0.hnv
 have lpv : M.pv.length = m.push.length := Paired.length k0.hpv
 have kl : l.ns.length = n := PK.len
 refine ⟨_, rfl, (by show 0 <= sizeLine; decide), fun e0 he0 => ?_⟩
 have yG1 := same_new he0 (HO.lst [])
 have ee0 := upd_same (H := H) (a := e0) (o := HO.lst [])
 generalize hhG1 : upd H e0 (HO.lst []) = G1 at yG1 ee0 |-
 have SG1 := yG1
 refine ⟨_, rfl, _, m, e0, so, dxs, la, [], [], l, n, w, rfl, (ModeV.same SG1 hM2), MO, MBm, ee0, .nil, (StrA.same SG1 SA), PK, fun u J1 y1 hE _ => ?_⟩
 have SG2 := SG1.trans y1
 replace ee0 := (y1 _ _ ee0)
 obtain ⟨o2, M2, rfl, k2⟩ := hE
 have so2 := stM_ok MO MBm PK
 have lq1 := so2.push.1
 have lp2 : M2.pv.length = (stM m ([], l)).push.length := Paired.length k2.hpv
 obtain ⟨pq, hpq⟩ : ∃ pq, pq = (stM m ([], l)).push := ⟨_, rfl⟩
 refine ⟨_, rfl, o2, aMode, M2.dx, _, _, rfl, k2.ins, TMode.cl, AMode.n_push, rfl, _, rfl, o, aMode, M.dx, _, _, rfl, (SG2 _ _ k0.ins), TMode.cl, AMode.n_steer, rfl, M2.p, M.s, rfl, ⟨_, SqL.of k2.hp⟩, ⟨_, SqL.of (SG2 _ _ k0.hs)⟩, comp_zipL (K := K) (a := M2.p) (b := M.s) (xs := M2.pv) (ys := m.steer.map V.int)
  (fun i zs σ H' => TabV H' zs ((((stM m ([], l)).push.zip m.steer).take i).map fun q => q.1 ++ scM (-q.2) l.ns) /\ (∃ o1 o2, σ = [o1, o2, some (.ref so)]) /\ Same J1 H')
  ⟨.nil, ⟨none, none, rfl⟩, Same.refl _⟩ (fun i zs σ H' hi ⟨e1, _, sm⟩ => ⟨SqL.of (sm _ _ k2.hp), SqL.of (sm _ _ (SG2 _ _ k0.hs)), by have := Paired.length e1; rw [List.length_map, List.length_take] at this; omega⟩) (by rw [List.length_map]; omega) (Nat.le_of_lt (small1000 (by omega))) ?_ ?_⟩
 ·rintro i x y T zs σ H' hx hy hT ⟨hz, ⟨o1, o3, rfl⟩, sm⟩
  obtain ⟨r, hr', a, rfl, ea⟩ := paired_get k2.hpv hx
  obtain ⟨y0, hy0, rfl⟩ := ints_get hy
  have zT := same_new hT (HO.tup [V.ref a, V.int y0])
  have s1 := sm.trans zT
  have s2 := SG2.trans s1
  have rl' := so2.push.2 r (List.mem_of_getElem? hr')
  refine ⟨T, _, rfl, SqT.of upd_same, rfl, _, _, rfl, _, _, rfl, rfl, ?_⟩
  refine ⟨_, rfl, _, rfl, _, rfl, _, rfl, so, aStraight, dxs, _, _, rfl, (s2 _ _ SA.ins), TStraight.cl, AStraight.n_numbers, rfl, -y0, la, l.ns, rfl, s2 _ _ SA.ns, (by omega), ((MBm.steer y0 (List.mem_of_getElem? hy0)).neg).mono (by decide), (fun x hx => (PK.ns x hx).mono (by decide)), fun l2 H2 s3 _ el2 => ?_⟩
  refine ⟨a, l2, _, _, rfl, rfl, s3 _ _ (s1 _ _ ea), el2, ?_, fun c hc => ?_⟩
  ·rw [List.length_map, List.length_map, scM_len]
   exact Nat.le_of_lt (small1000 (by omega))
  have zc := same_new hc (HO.lst (r.map V.int ++ (scM (-y0) l.ns).map V.int))
  have hz' : ((stM m ([], l)).push.zip m.steer)[i]? = some (r, y0) := by rw [List.getElem?_zip_eq_some]; exact ⟨hr', hy0⟩
  refine ⟨?_, ⟨_, _, rfl⟩, s1.trans (s3.trans zc)⟩
  rw [take_snoc hz', List.map_append (l₁ := List.take i _)]
  exact paired_snoc (R := LstI _) ⟨c, rfl, upd_same.trans (by rw [List.map_append])⟩ (TabV.same (zT.trans (s3.trans zc)) hz)
 rintro tn σ J2 ⟨htn, ⟨o1, o3, rfl⟩, y2⟩ p1 hp1
 rw [take_all (by rw [List.length_zip]; omega)] at htn
 have yb := y2
 have SG3 := SG2.trans y2
 replace ee0 := (y2 _ _ ee0)
 have yG4 := same_new hp1 (HO.lst tn)
 have ep1 := upd_same (H := J2) (a := p1) (o := HO.lst tn)
 generalize hhG4 : upd J2 p1 (HO.lst tn) = G4 at yG4 ep1 |-
 have SG4 := SG3.trans yG4
 replace ee0 := (yG4 _ _ ee0)
 replace htn := (TabV.same yG4 htn)
 have y3 := y2.trans yG4
 refine ⟨_, rfl, o2, aMode, M2.dx, _, _, rfl, (y3 _ _ k2.ins), TMode.cl, AMode.n_rows, rfl, _, rfl, o2, aMode, M2.dx, _, _, rfl, (y3 _ _ k2.ins), TMode.cl, AMode.n_nexts, rfl, _, rfl, o2, aMode, M2.dx, _, _, rfl, (y3 _ _ k2.ins), TMode.cl, AMode.n_steer, rfl, _, rfl, _, rfl, o2, aMode, M2.dx, _, _, rfl, (y3 _ _ k2.ins), TMode.cl, AMode.n_add, rfl, _, rfl, o2, aMode, M2.dx, _, _, rfl, (y3 _ _ k2.ins), TMode.cl, AMode.n_divisor, rfl, ?_⟩
 intro mo dx hmo hdx ne
 have zm := same_make hmo hdx ne (HO.own mo) (HO.ins aMode dx [])
 have eo := upd_same (H := upd G4 dx (HO.own mo)) (a := mo) (o := HO.ins aMode dx [])
 generalize hhJ1 : upd (upd G4 dx (HO.own mo)) mo (HO.ins aMode dx []) = J1 at zm eo |-
 refine ⟨mo, dx, M2.r, M2.n, M2.s, p1, M2.a, M2.rv, M2.nv, tn, (rdM m l), n, (w + n), rfl, eo, rdM_ok MO MBm PK w3, zm _ _ (y3 _ _ k2.hr), WaysV.same zm (WaysV.same y3 k2.hrv), zm _ _ (y3 _ _ k2.hn), TabV.same zm (TabV.same y3 k2.hnv), zm _ _ (y3 _ _ k2.hs), zm _ _ ep1, TabV.same zm htn, zm _ _ (y3 _ _ k2.ha), fun M2 J2 sb ok f1 f2 f3 f4 f5 m1 m2 => ⟨rfl, ?_⟩⟩
 exact q (.ref mo) J2 (SG4.trans (same_but zm sb hmo)) ⟨mo, _, rfl, ok⟩
theorem ok_late_mode {k : Nat} {f : Addr} {fd : FuncData} (F : Fun K "late_mode" "late_mode" s_late_mode f fd) (B : Bl mg) (c_scaled : Fn P w K mg base "scaled" ["factor", "numbers"] (k + 1) spScaled) (c_Mode___init__ : FnC P w K mg base aMode ["self", "rows", "nexts", "steer", "push", "add", "divisor"] k (spModeInit aMode)) : FnOk P w K mg base CX0 (k + 1 + 1) f fd ["mode", "rows", "straight"] (spLtMode aStraight aMode) := by
 refine F.ok sc_late_mode (fun vs H Q E h => ?_) (fun cdv A outer s H vs Q E hr h => ?_)
 ·obtain ⟨v, m, rl, so, dxs, la, rv, rows, l, n, w, rfl, _⟩ := h
  rfl
 obtain ⟨v, m, rl, so, dxs, la, rv, rows, l, n, w, rfl, hM, MO, MBm, hrl, hrv, SA, PK, n1', n2', q⟩ := h
 refine ⟨_, (pss_cons (ps_set (i := 3) sc_late_mode.nd rfl (Or.inr rfl) (pe_fld (L2.pvj 2) rfl))
  (pss_cons (ps_comp (i := 4) sc_late_mode.nd rfl rfl (own := ["part", "steer"]) (caps := [(3, "factor")]) (blk_cap (S := defScope s_late_mode) (N := ["mode", "rows", "straight", "factor", "nexts", "push"]) rfl (by decide +kernel) rfl ⟨_, rfl⟩ rfl (by decide +kernel) (by decide +kernel)) rfl (pi_zipL rfl B.zip_ (pa_cons (pe_fld (L2.pvj 0) rfl) (pa_cons (pe_fld (L2.pvj 0) rfl) pa_nil))) (fun _ _ _ _ => show PG _ _ (gTup K 2 (gCons (gName 0) (gCons (gName 1) gNil))) from pg_tup (n := 2) rfl (pgs_cons (pg_name (i := 0) (show (["part", "steer", "factor"] : List Str).Nodup by decide +kernel) rfl (Or.inl rfl)) (pgs_cons (pg_name (i := 1) (show (["part", "steer", "factor"] : List Str).Nodup by decide +kernel) rfl (Or.inl rfl)) pgs_nil))) (fun _ _ _ _ => (pe_callF c_scaled hr rfl (pa_cons (L2.pvj 2) (pa_cons (pe_op jcat (L2.pvj 0) (pe_lst (pa_cons (L2.pvj 1) pa_nil))) pa_nil)))) rfl)
  (pss_cons (ps_comp (i := 5) sc_late_mode.nd rfl rfl (own := ["part"]) (caps := [(3, "factor")]) (blk_cap (S := defScope s_late_mode) (N := ["mode", "rows", "straight", "factor", "nexts", "push"]) rfl (by decide +kernel) rfl ⟨_, rfl⟩ rfl (by decide +kernel) (by decide +kernel)) rfl (pi_list (pe_fld (L2.pvj 0) rfl)) (fun _ _ _ _ => pg_name (i := 0) (show (["part", "factor"] : List Str).Nodup by decide +kernel) rfl (Or.inl rfl)) (fun _ _ _ _ => (pe_callF c_scaled hr rfl (pa_cons (L2.pvj 1) (pa_cons (L2.pvj 0) pa_nil)))) rfl)
  (pss_one (ps_ret (pe_makeF c_Mode___init__ TMode hr rfl (pa_cons (pe_comp (own := ["row"]) (caps := []) (blk_mk rfl) rfl (pi_list (pe_op jcat (pe_fld (L2.pvj 0) rfl) (L2.pvj 1))) (fun _ _ _ _ => pg_name (i := 0) (show (["row"] : List Str).Nodup by decide +kernel) rfl (Or.inl rfl)) (fun _ _ _ _ => (pe_op (show OpR _ _ (rCatT K) from op_catT) (pe_slice (show SlR _ (JSlT K) from jsl_tup) (L2.pvj 0) po_none (po_some (pe_un un_neg pe_int))) (pe_tup (pa_cons pe_int (pa_cons (pe_ix (show IxR _ (JIx (SqT K)) from jix_tup) (L2.pvj 0) (pe_un un_neg pe_int) (fun _ _ => rfl)) pa_nil)))))) (pa_cons (pe_op jcat (L2.pvj 4) (pe_lst (pa_cons (pe_op jcat (pe_callF c_scaled hr rfl (pa_cons (pe_fld (L2.pvj 0) rfl) (pa_cons (pe_fld (L2.pvj 2) rfl) pa_nil))) (pe_lst (pa_cons pe_int pa_nil))) pa_nil))) (pa_cons (pe_op jcat (pe_comp (own := ["steer"]) (caps := []) (blk_mk rfl) rfl (pi_list (pe_fld (L2.pvj 0) rfl)) (fun _ _ _ _ => pg_name (i := 0) (show (["steer"] : List Str).Nodup by decide +kernel) rfl (Or.inl rfl)) (fun _ _ _ _ => pe_int)) (pe_lst (pa_cons pe_int pa_nil))) (pa_cons (pe_op jcat (L2.pvj 5) (pe_lst (pa_cons (pe_comp (own := ["number"]) (caps := []) (blk_mk rfl) rfl (pi_list (pe_ix jix_list (L2.pvj 5) pe_int (fun _ _ => rfl))) (fun _ _ _ _ => pg_name (i := 0) (show (["number"] : List Str).Nodup by decide +kernel) rfl (Or.inl rfl)) (fun _ _ _ _ => pe_int)) pa_nil))) (pa_cons (pe_op jcat (pe_callF c_scaled hr rfl (pa_cons (L2.pvj 3) (pa_cons (pe_fld (L2.pvj 0) rfl) pa_nil))) (pe_lst (pa_cons (pe_op (ji op_mulW) (pe_fld (L2.pvj 0) rfl) (pe_fld (L2.pvj 2) rfl)) pa_nil))) (pa_cons (pe_op (ji op_mulW) (pe_fld (L2.pvj 0) rfl) (L2.pvj 3)) pa_nil)))))))))))), ?_⟩
 try dsimp only [cxOf, Cx.nox, Cx.wish]
 obtain ⟨o, M, rfl, k0⟩ := hM
 have n3 := MO.n3
 have p6 := MO.p6
 have ln1 := MO.nexts.1
 have ln2 := MO.steer
 have ln3 := MO.push.1
 have ln4 := MO.add
 have fw := MBm.few
 have lrv : M.rv.length = m.rows.length := Paired.length k0.hrv
 have lnv : M.nv.length = m.nexts.length := Paired.length k0.hnv
 have lpv : M.pv.length = m.push.length := Paired.length k0.hpv
 have kl : l.ns.length = n := PK.len
 have fr : rows.length <= 100 := PK.few
 have lr2 : rv.length = rows.length := Paired.length hrv
 refine ⟨_, rfl, so, aStraight, dxs, _, _, rfl, SA.ins, TStraight.cl, AStraight.n_divisor, rfl, ?_⟩
 refine ⟨_, rfl, o, aMode, M.dx, _, _, rfl, k0.ins, TMode.cl, AMode.n_nexts, rfl, _, rfl, o, aMode, M.dx, _, _, rfl, k0.ins, TMode.cl, AMode.n_steer, rfl, M.n, M.s, rfl, ⟨_, SqL.of k0.hn⟩, ⟨_, SqL.of k0.hs⟩, comp_zipL (K := K) (a := M.n) (b := M.s) (xs := M.nv) (ys := m.steer.map V.int)
  (fun i zs σ H' => TabV H' zs (((m.nexts.zip m.steer).take i).map fun q => scM l.d (q.1 ++ [q.2])) /\ (∃ o1 o2, σ = [o1, o2, some (.int l.d)]) /\ Same H H')
  ⟨.nil, ⟨none, none, rfl⟩, Same.refl _⟩ (fun i zs σ H' hi ⟨e1, _, sm⟩ => ⟨SqL.of (sm _ _ k0.hn), SqL.of (sm _ _ k0.hs), by have := Paired.length e1; rw [List.length_map, List.length_take] at this; omega⟩) (by rw [List.length_map]; omega) (Nat.le_of_lt (small1000 (by omega))) ?_ ?_⟩
 ·rintro i x y T zs σ H' hx hy hT ⟨hz, ⟨o1, o2, rfl⟩, sm⟩
  obtain ⟨r, hr', a, rfl, ea⟩ := paired_get k0.hnv hx
  obtain ⟨y0, hy0, rfl⟩ := ints_get hy
  have zT := same_new hT (HO.tup [V.ref a, V.int y0])
  have s1 := sm.trans zT
  have rl' := MO.nexts.2 r (List.mem_of_getElem? hr')
  refine ⟨T, _, rfl, SqT.of upd_same, rfl, _, _, rfl, _, _, rfl, rfl, ?_⟩
  refine ⟨_, rfl, _, rfl, _, rfl, (by show 1 <= sizeLine; decide), fun z hz1 => ?_⟩
  have zz := same_new hz1 (HO.lst [V.int y0])
  refine ⟨a, z, _, _, rfl, rfl, zz _ _ (s1 _ _ ea), upd_same, ?_, fun c hc => ?_⟩
  ·rw [List.length_map, List.length_singleton]
   exact Nat.le_of_lt (small1000 (by omega))
  have zc := same_new hc (HO.lst (r.map V.int ++ [V.int y0]))
  refine ⟨l.d, c, r ++ [y0], rfl, upd_same.trans (by rw [List.map_append]; rfl), (by rw [List.length_append, List.length_singleton]; omega), PK.d.mono (by decide), (fun x hx => ?_), fun l2 H2 s3 _ el2 => ?_⟩
  ·rcases List.mem_append.mp hx with hx | hx
   ·exact (MBm.nexts r (List.mem_of_getElem? hr') x hx).mono (by decide)
   ·rw [List.mem_singleton.mp hx]
    exact (MBm.steer y0 (List.mem_of_getElem? hy0)).mono (by decide)
  have hz' : (m.nexts.zip m.steer)[i]? = some (r, y0) := by rw [List.getElem?_zip_eq_some]; exact ⟨hr', hy0⟩
  have sA := zT.trans (zz.trans (zc.trans s3))
  refine ⟨?_, ⟨_, _, rfl⟩, sm.trans sA⟩
  rw [take_snoc hz', List.map_append (l₁ := List.take i _)]
  exact paired_snoc (R := LstI _) ⟨l2, rfl, el2⟩ (TabV.same sA hz)
 rintro tn σ J1 ⟨htn, ⟨o1, o2, rfl⟩, y1⟩ n1 hn1
 rw [take_all (by rw [List.length_zip]; omega)] at htn
 have SG1 := y1
 have yG2 := same_new hn1 (HO.lst tn)
 have en1 := upd_same (H := J1) (a := n1) (o := HO.lst tn)
 generalize hhG2 : upd J1 n1 (HO.lst tn) = G2 at yG2 en1 |-
 have SG2 := SG1.trans yG2
 replace htn := (TabV.same yG2 htn)
 refine ⟨_, rfl, o, aMode, M.dx, _, _, rfl, (SG2 _ _ k0.ins), TMode.cl, AMode.n_push, rfl, M.p, rfl, ⟨_, SqL.of (SG2 _ _ k0.hp)⟩, comp_list (K := K) (a := M.p) (xs := M.pv) (fun i ys σ H' => TabV H' ys ((m.push.take i).map (scM l.d)) /\ (∃ o, σ = [o, some (.int l.d)]) /\ Same G2 H')
  ⟨.nil, ⟨none, rfl⟩, Same.refl _⟩ (fun i ys σ H' hi ⟨e1, _, sm⟩ => ⟨SqL.of (sm _ _ (SG2 _ _ k0.hp)), by have := Paired.length e1; rw [List.length_map, List.length_take] at this; omega⟩) (Nat.le_of_lt (small1000 (by omega))) ?_ ?_⟩
 ·rintro i x ys σ H' hi ⟨hz, ⟨o1, rfl⟩, sm⟩
  obtain ⟨r, hr', a, rfl, ea⟩ := paired_get k0.hpv hi
  have rl' := MO.push.2 r (List.mem_of_getElem? hr')
  refine ⟨_, rfl, _, rfl, l.d, a, r, rfl, sm _ _ (SG2 _ _ ea), (by omega), PK.d.mono (by decide), (fun x hx => (MBm.push r (List.mem_of_getElem? hr') x hx).mono (by decide)), fun l2 H2 s3 _ el2 => ?_⟩
  refine ⟨?_, ⟨_, rfl⟩, sm.trans s3⟩
  rw [take_snoc hr', List.map_append]
  exact paired_snoc (R := LstI _) ⟨l2, rfl, el2⟩ (TabV.same s3 hz)
 rintro tp σ G2' ⟨htp, ⟨o1, rfl⟩, y20⟩ p1 hp1
 rw [take_all (by omega)] at htp
 have y2 := y20.trans (same_new hp1 (HO.lst tp))
 replace htp := TabV.same (same_new hp1 (HO.lst tp)) htp
 have ep1 := upd_same (H := G2') (a := p1) (o := HO.lst tp)
 generalize hhJ2 : upd G2' p1 (HO.lst tp) = J2 at y2 ep1 htp |-
 have SG3 := SG2.trans y2
 replace htn := (TabV.same y2 htn)
 replace en1 := (y2 _ _ en1)
 refine ⟨_, rfl, o, aMode, M.dx, _, _, rfl, (SG3 _ _ k0.ins), TMode.cl, AMode.n_rows, rfl, _, rfl, M.r, rl, _, _, rfl, rfl, (SG3 _ _ k0.hr), (SG3 _ _ hrl), Nat.le_of_lt (small1000 (by omega)), fun c1 hc1 => ?_⟩
 have yG4 := same_new hc1 (HO.lst (M.rv ++ rv))
 have ec1 := upd_same (H := J2) (a := c1) (o := HO.lst (M.rv ++ rv))
 generalize hhG4 : upd J2 c1 (HO.lst (M.rv ++ rv)) = G4 at yG4 ec1 |-
 have SG4 := SG3.trans yG4
 replace htn := (TabV.same yG4 htn)
 replace en1 := (yG4 _ _ en1)
 replace ep1 := (yG4 _ _ ep1)
 replace htp := (TabV.same yG4 htp)
 have hw1 : WaysV G4 (M.rv ++ rv) (m.rows ++ rows) := paired_app (WaysV.same SG4 k0.hrv) (WaysV.same SG4 hrv)
 refine ⟨c1, rfl, ⟨_, SqL.of ec1⟩, comp_list (K := K) (a := c1) (xs := M.rv ++ rv) (fun i ys σ H' => WaysV H' ys (((m.rows ++ rows).take i).map (ltR n)) /\ (∃ o, σ = [o]) /\ Same G4 H')
  ⟨.nil, ⟨none, rfl⟩, Same.refl _⟩ (fun i ys σ H' hi ⟨e1, _, sm⟩ => ⟨SqL.of (sm _ _ ec1), by have := Paired.length e1; rw [List.length_map, List.length_take] at this; omega⟩) (by rw [List.length_append]; exact Nat.le_of_lt (small1000 (by omega))) ?_ ?_⟩
 ·rintro i x ys σ H' hi ⟨hz, ⟨o1, rfl⟩, sm⟩
  obtain ⟨r, hr', a, rfl, ea0⟩ := paired_get hw1 hi
  have rl' : r.length = n + 1 := (List.mem_append.mp (List.mem_of_getElem? hr')).elim (MO.rows r) (PK.rows r)
  have ea : H' a = some (.tup (rowV (r.take n) (r.getD n 0))) := by rw [rowV_split rl']; exact sm _ _ ea0
  refine ⟨_, rfl, _, rfl, _, rfl, a, _, rfl, SqT.of ea, cut_last_no _ _, fun u1 hu1 => ?_⟩
  rw [show cutV (rowV (r.take n) (r.getD n 0)) none (some (-1)) = (r.take n).map V.int from cut_last _ _]
  have z1 := same_new hu1 (HO.tup ((r.take n).map V.int))
  refine ⟨_, rfl, _, rfl, a, _, _, _, rfl, rfl, SqT.of (z1 _ _ ea), atI_last _ _, (by show 2 <= sizeLine; decide), fun u2 hu2 => ?_⟩
  have z2 := same_new hu2 (HO.tup [V.int 0, V.int (r.getD n 0)])
  refine ⟨u1, u2, _, _, rfl, rfl, SqT.of (z2 _ _ upd_same), SqT.of upd_same, (fun z => ?_), ?_, (fun z => nomatch z), fun _ u3 hu3 => ?_⟩
  ·have := congrArg List.length z
   rw [List.length_map, List.length_take, List.length_nil] at this
   omega
  ·rw [List.length_map, List.length_take]
   show _ + 2 <= _
   exact Nat.le_of_lt (small1000 (by omega))
  have z3 := same_new hu3 (HO.tup ((r.take n).map V.int ++ [V.int 0, V.int (r.getD n 0)]))
  have sA := z1.trans (z2.trans z3)
  refine ⟨?_, ⟨_, rfl⟩, sm.trans sA⟩
  rw [take_snoc hr', List.map_append (l₁ := List.take i _)]
  refine paired_snoc ⟨u3, rfl, upd_same.trans ?_⟩ (WaysV.same sA hz)
  unfold ltR
  rw [List.map_append]
  rfl
 rintro wv σ J3 ⟨hwv, ⟨o1, rfl⟩, y3⟩ w1 hw9
 rw [take_all (by rw [List.length_append, List.length_append]; omega)] at hwv
 have SG5 := SG4.trans y3
 replace htn := (TabV.same y3 htn)
 replace en1 := (y3 _ _ en1)
 replace ep1 := (y3 _ _ ep1)
 replace htp := (TabV.same y3 htp)
 replace ec1 := (y3 _ _ ec1)
 have yG6 := same_new hw9 (HO.lst wv)
 have ew1 := upd_same (H := J3) (a := w1) (o := HO.lst wv)
 generalize hhG6 : upd J3 w1 (HO.lst wv) = G6 at yG6 ew1 |-
 have SG6 := SG5.trans yG6
 replace htn := (TabV.same yG6 htn)
 replace en1 := (yG6 _ _ en1)
 replace ep1 := (yG6 _ _ ep1)
 replace htp := (TabV.same yG6 htp)
 replace ec1 := (yG6 _ _ ec1)
 replace hwv := (WaysV.same yG6 hwv)
 refine ⟨_, rfl, _, rfl, o, aMode, M.dx, _, _, rfl, (SG6 _ _ k0.ins), TMode.cl, AMode.n_divisor, rfl, _, rfl, so, aStraight, dxs, _, _, rfl, (SG6 _ _ SA.ins), TStraight.cl, AStraight.n_numbers, rfl, m.div, la, l.ns, rfl, (SG6 _ _ SA.ns), (by omega), MBm.div.mono (by decide), (fun x hx => (PK.ns x hx).mono (by decide)), fun q1 J4 y4 _ eq1 => ?_⟩
 have SG7 := SG6.trans y4
 replace htn := (TabV.same y4 htn)
 replace en1 := (y4 _ _ en1)
 replace ep1 := (y4 _ _ ep1)
 replace htp := (TabV.same y4 htp)
 replace ec1 := (y4 _ _ ec1)
 replace hwv := (WaysV.same y4 hwv)
 replace ew1 := (y4 _ _ ew1)
 refine ⟨(by show 1 <= sizeLine; decide), fun z2 hz2 => ?_⟩
 have yG8 := same_new hz2 (HO.lst [V.int 0])
 have ez2 := upd_same (H := J4) (a := z2) (o := HO.lst [V.int 0])
 generalize hhG8 : upd J4 z2 (HO.lst [V.int 0]) = G8 at yG8 ez2 |-
 have SG8 := SG7.trans yG8
 replace htn := (TabV.same yG8 htn)
 replace en1 := (yG8 _ _ en1)
 replace ep1 := (yG8 _ _ ep1)
 replace htp := (TabV.same yG8 htp)
 replace ec1 := (yG8 _ _ ec1)
 replace hwv := (WaysV.same yG8 hwv)
 replace ew1 := (yG8 _ _ ew1)
 replace eq1 := (yG8 _ _ eq1)
 refine ⟨q1, z2, _, _, rfl, rfl, eq1, ez2, (by rw [List.length_map, scM_len]; exact Nat.le_of_lt (small1000 (by show l.ns.length + 1 <= 1000; omega))), fun c2 hc2 => ?_⟩
 rw [show (scM m.div l.ns).map V.int ++ [V.int 0] = (scM m.div l.ns ++ [0]).map V.int from by rw [List.map_append]; rfl]
 have yG9 := same_new hc2 (HO.lst ((scM m.div l.ns ++ [0]).map V.int))
 have ec2 := upd_same (H := G8) (a := c2) (o := HO.lst ((scM m.div l.ns ++ [0]).map V.int))
 generalize hhG9 : upd G8 c2 (HO.lst ((scM m.div l.ns ++ [0]).map V.int)) = G9 at yG9 ec2 |-
 have SG9 := SG8.trans yG9
 replace htn := (TabV.same yG9 htn)
 replace en1 := (yG9 _ _ en1)
 replace ep1 := (yG9 _ _ ep1)
 replace htp := (TabV.same yG9 htp)
 replace ec1 := (yG9 _ _ ec1)
 replace hwv := (WaysV.same yG9 hwv)
 replace ew1 := (yG9 _ _ ew1)
 replace eq1 := (yG9 _ _ eq1)
 replace ez2 := (yG9 _ _ ez2)
 refine ⟨(by show 1 <= sizeLine; decide), fun d2 hd2 => ?_⟩
 have yG10 := same_new hd2 (HO.lst [V.ref c2])
 have ed2 := upd_same (H := G9) (a := d2) (o := HO.lst [V.ref c2])
 generalize hhG10 : upd G9 d2 (HO.lst [V.ref c2]) = G10 at yG10 ed2 |-
 have SG10 := SG9.trans yG10
 replace htn := (TabV.same yG10 htn)
 replace en1 := (yG10 _ _ en1)
 replace ep1 := (yG10 _ _ ep1)
 replace htp := (TabV.same yG10 htp)
 replace ec1 := (yG10 _ _ ec1)
 replace hwv := (WaysV.same yG10 hwv)
 replace ew1 := (yG10 _ _ ew1)
 replace eq1 := (yG10 _ _ eq1)
 replace ez2 := (yG10 _ _ ez2)
 replace ec2 := (yG10 _ _ ec2)
 have lt0 := Paired.length htn
 rw [List.length_map, List.length_zip] at lt0
 refine ⟨n1, d2, _, _, rfl, rfl, en1, ed2, Nat.le_of_lt (small1000 (by show tn.length + 1 <= 1000; omega)), fun n2 hn2 => ?_⟩
 have yG11 := same_new hn2 (HO.lst (tn ++ [V.ref c2]))
 have en2 := upd_same (H := G10) (a := n2) (o := HO.lst (tn ++ [V.ref c2]))
 generalize hhG11 : upd G10 n2 (HO.lst (tn ++ [V.ref c2])) = G11 at yG11 en2 |-
 have SG11 := SG10.trans yG11
 replace htn := (TabV.same yG11 htn)
 replace en1 := (yG11 _ _ en1)
 replace ep1 := (yG11 _ _ ep1)
 replace htp := (TabV.same yG11 htp)
 replace ec1 := (yG11 _ _ ec1)
 replace hwv := (WaysV.same yG11 hwv)
 replace ew1 := (yG11 _ _ ew1)
 replace eq1 := (yG11 _ _ eq1)
 replace ez2 := (yG11 _ _ ez2)
 replace ec2 := (yG11 _ _ ec2)
 replace ed2 := (yG11 _ _ ed2)
 have htn2 : TabV G11 (tn ++ [V.ref c2]) (ltM n m (rows, l)).nexts := paired_snoc (R := LstI _) ⟨c2, rfl, ec2⟩ htn
 refine ⟨_, rfl, o, aMode, M.dx, _, _, rfl, (SG11 _ _ k0.ins), TMode.cl, AMode.n_steer, rfl, M.s, rfl, ⟨_, SqL.of (SG11 _ _ k0.hs)⟩, comp_list (K := K) (a := M.s) (xs := (m.steer).map V.int) (fun i ys σ H' => ys = (List.replicate i (0 : Int)).map V.int /\ (∃ o, σ = [o]) /\ H' = G11)
  ⟨rfl, ⟨none, rfl⟩, rfl⟩ (fun i ys σ H' hi ⟨e1, _, e3⟩ => ⟨by rw [e3]; exact SqL.of (SG11 _ _ k0.hs), by rw [e1, List.length_map, List.length_replicate]; exact Nat.le_refl _⟩) (by rw [List.length_map, ln2]; exact Nat.le_of_lt (small1000 (by omega))) ?_ ?_⟩
 ·rintro i x ys σ H' hi ⟨rfl, ⟨o1, rfl⟩, rfl⟩
  refine ⟨?_, ⟨_, rfl⟩, rfl⟩
  rw [List.replicate_succ', List.map_append]
  rfl
 rintro ys σ H' ⟨rfl, ⟨o1, rfl⟩, hZ⟩ z3 hz3
 rw [hZ] at hz3 |-
 rw [List.length_map, zeros_eq]
 have y5 := same_new hz3 (HO.lst (((m.steer).map fun _ => (0 : Int)).map V.int))
 have ez3 := upd_same (H := G11) (a := z3) (o := HO.lst (((m.steer).map fun _ => (0 : Int)).map V.int))
 generalize hhJ5 : upd G11 z3 (HO.lst (((m.steer).map fun _ => (0 : Int)).map V.int)) = J5 at y5 ez3 |-
 clear hZ
 have SG12 := SG11.trans y5
 replace htn := (TabV.same y5 htn)
 replace en1 := (y5 _ _ en1)
 replace ep1 := (y5 _ _ ep1)
 replace htp := (TabV.same y5 htp)
 replace ec1 := (y5 _ _ ec1)
 replace hwv := (WaysV.same y5 hwv)
 replace ew1 := (y5 _ _ ew1)
 replace eq1 := (y5 _ _ eq1)
 replace ez2 := (y5 _ _ ez2)
 replace ec2 := (y5 _ _ ec2)
 replace ed2 := (y5 _ _ ed2)
 replace en2 := (y5 _ _ en2)
 replace htn2 := (TabV.same y5 htn2)
 refine ⟨(by show 1 <= sizeLine; decide), fun z4 hz4 => ?_⟩
 have yG13 := same_new hz4 (HO.lst [V.int 0])
 have ez4 := upd_same (H := J5) (a := z4) (o := HO.lst [V.int 0])
 generalize hhG13 : upd J5 z4 (HO.lst [V.int 0]) = G13 at yG13 ez4 |-
 have SG13 := SG12.trans yG13
 replace htn := (TabV.same yG13 htn)
 replace en1 := (yG13 _ _ en1)
 replace ep1 := (yG13 _ _ ep1)
 replace htp := (TabV.same yG13 htp)
 replace ec1 := (yG13 _ _ ec1)
 replace hwv := (WaysV.same yG13 hwv)
 replace ew1 := (yG13 _ _ ew1)
 replace eq1 := (yG13 _ _ eq1)
 replace ez2 := (yG13 _ _ ez2)
 replace ec2 := (yG13 _ _ ec2)
 replace ed2 := (yG13 _ _ ed2)
 replace en2 := (yG13 _ _ en2)
 replace htn2 := (TabV.same yG13 htn2)
 replace ez3 := (yG13 _ _ ez3)
 refine ⟨z3, z4, _, _, rfl, rfl, ez3, ez4, (by rw [List.length_map, List.length_map]; exact Nat.le_of_lt (small1000 (by show m.steer.length + 1 <= 1000; omega))), fun c3 hc3 => ?_⟩
 rw [show (m.steer.map fun _ => (0 : Int)).map V.int ++ [V.int 0] = ((m.steer.map fun _ => (0 : Int)) ++ [0]).map V.int from by rw [List.map_append]; rfl]
 have yG14 := same_new hc3 (HO.lst (((m.steer.map fun _ => (0 : Int)) ++ [0]).map V.int))
 have ec3 := upd_same (H := G13) (a := c3) (o := HO.lst (((m.steer.map fun _ => (0 : Int)) ++ [0]).map V.int))
 generalize hhG14 : upd G13 c3 (HO.lst (((m.steer.map fun _ => (0 : Int)) ++ [0]).map V.int)) = G14 at yG14 ec3 |-
 have SG14 := SG13.trans yG14
 replace htn := (TabV.same yG14 htn)
 replace en1 := (yG14 _ _ en1)
 replace ep1 := (yG14 _ _ ep1)
 replace htp := (TabV.same yG14 htp)
 replace ec1 := (yG14 _ _ ec1)
 replace hwv := (WaysV.same yG14 hwv)
 replace ew1 := (yG14 _ _ ew1)
 replace eq1 := (yG14 _ _ eq1)
 replace ez2 := (yG14 _ _ ez2)
 replace ec2 := (yG14 _ _ ec2)
 replace ed2 := (yG14 _ _ ed2)
 replace en2 := (yG14 _ _ en2)
 replace htn2 := (TabV.same yG14 htn2)
 replace ez3 := (yG14 _ _ ez3)
 replace ez4 := (yG14 _ _ ez4)
 have ltp := Paired.length htp
 rw [List.length_map] at ltp
 have hv0 : tp[0]? = some (tp[0]'(by omega)) := List.getElem?_eq_getElem _
 obtain ⟨r0, hr0, a0, e0, ea0⟩ := paired_get htp hv0
 have av0 : atI tp (0 : Int) = some (.ref a0) := atI_nat (j := 0) (hv0.trans (by rw [e0]))
 have lr0 : r0.length = w := by
  obtain ⟨r1, hr1, rfl⟩ := List.mem_map.mp (List.mem_of_getElem? hr0)
  rw [scM_len]
  exact MO.push.2 r1 hr1
 refine ⟨_, rfl, _, rfl, p1, _, _, _, rfl, rfl, SqL.of ep1, av0, a0, rfl, ⟨_, SqL.of ea0⟩, comp_list (K := K) (a := a0) (xs := (r0).map V.int) (fun i ys σ H' => ys = (List.replicate i (0 : Int)).map V.int /\ (∃ o, σ = [o]) /\ H' = G14)
  ⟨rfl, ⟨none, rfl⟩, rfl⟩ (fun i ys σ H' hi ⟨e1, _, e3⟩ => ⟨by rw [e3]; exact SqL.of ea0, by rw [e1, List.length_map, List.length_replicate]; exact Nat.le_refl _⟩) (by rw [List.length_map, lr0]; exact Nat.le_of_lt (small1000 (by omega))) ?_ ?_⟩
 ·rintro i x ys σ H' hi ⟨rfl, ⟨o1, rfl⟩, rfl⟩
  refine ⟨?_, ⟨_, rfl⟩, rfl⟩
  rw [List.replicate_succ', List.map_append]
  rfl
 rintro ys σ H' ⟨rfl, ⟨o1, rfl⟩, hZ⟩ z5 hz5
 rw [hZ] at hz5 |-
 rw [List.length_map, zeros_eq]
 have y6 := same_new hz5 (HO.lst (((r0).map fun _ => (0 : Int)).map V.int))
 have ez5 := upd_same (H := G14) (a := z5) (o := HO.lst (((r0).map fun _ => (0 : Int)).map V.int))
 generalize hhJ6 : upd G14 z5 (HO.lst (((r0).map fun _ => (0 : Int)).map V.int)) = J6 at y6 ez5 |-
 clear hZ
 have SG15 := SG14.trans y6
 replace htn := (TabV.same y6 htn)
 replace en1 := (y6 _ _ en1)
 replace ep1 := (y6 _ _ ep1)
 replace htp := (TabV.same y6 htp)
 replace ec1 := (y6 _ _ ec1)
 replace hwv := (WaysV.same y6 hwv)
 replace ew1 := (y6 _ _ ew1)
 replace eq1 := (y6 _ _ eq1)
 replace ez2 := (y6 _ _ ez2)
 replace ec2 := (y6 _ _ ec2)
 replace ed2 := (y6 _ _ ed2)
 replace en2 := (y6 _ _ en2)
 replace htn2 := (TabV.same y6 htn2)
 replace ez3 := (y6 _ _ ez3)
 replace ez4 := (y6 _ _ ez4)
 replace ec3 := (y6 _ _ ec3)
 replace ea0 := (y6 _ _ ea0)
 refine ⟨(by show 1 <= sizeLine; decide), fun d3 hd3 => ?_⟩
 have yG16 := same_new hd3 (HO.lst [V.ref z5])
 have ed3 := upd_same (H := J6) (a := d3) (o := HO.lst [V.ref z5])
 generalize hhG16 : upd J6 d3 (HO.lst [V.ref z5]) = G16 at yG16 ed3 |-
 have SG16 := SG15.trans yG16
 replace htn := (TabV.same yG16 htn)
 replace en1 := (yG16 _ _ en1)
 replace ep1 := (yG16 _ _ ep1)
 replace htp := (TabV.same yG16 htp)
 replace ec1 := (yG16 _ _ ec1)
 replace hwv := (WaysV.same yG16 hwv)
 replace ew1 := (yG16 _ _ ew1)
 replace eq1 := (yG16 _ _ eq1)
 replace ez2 := (yG16 _ _ ez2)
 replace ec2 := (yG16 _ _ ec2)
 replace ed2 := (yG16 _ _ ed2)
 replace en2 := (yG16 _ _ en2)
 replace htn2 := (TabV.same yG16 htn2)
 replace ez3 := (yG16 _ _ ez3)
 replace ez4 := (yG16 _ _ ez4)
 replace ec3 := (yG16 _ _ ec3)
 replace ea0 := (yG16 _ _ ea0)
 replace ez5 := (yG16 _ _ ez5)
 refine ⟨p1, d3, _, _, rfl, rfl, ep1, ed3, Nat.le_of_lt (small1000 (by show tp.length + 1 <= 1000; omega)), fun p2 hp2 => ?_⟩
 have yG17 := same_new hp2 (HO.lst (tp ++ [V.ref z5]))
 have ep2 := upd_same (H := G16) (a := p2) (o := HO.lst (tp ++ [V.ref z5]))
 generalize hhG17 : upd G16 p2 (HO.lst (tp ++ [V.ref z5])) = G17 at yG17 ep2 |-
 have SG17 := SG16.trans yG17
 replace htn := (TabV.same yG17 htn)
 replace en1 := (yG17 _ _ en1)
 replace ep1 := (yG17 _ _ ep1)
 replace htp := (TabV.same yG17 htp)
 replace ec1 := (yG17 _ _ ec1)
 replace hwv := (WaysV.same yG17 hwv)
 replace ew1 := (yG17 _ _ ew1)
 replace eq1 := (yG17 _ _ eq1)
 replace ez2 := (yG17 _ _ ez2)
 replace ec2 := (yG17 _ _ ec2)
 replace ed2 := (yG17 _ _ ed2)
 replace en2 := (yG17 _ _ en2)
 replace htn2 := (TabV.same yG17 htn2)
 replace ez3 := (yG17 _ _ ez3)
 replace ez4 := (yG17 _ _ ez4)
 replace ec3 := (yG17 _ _ ec3)
 replace ea0 := (yG17 _ _ ea0)
 replace ez5 := (yG17 _ _ ez5)
 replace ed3 := (yG17 _ _ ed3)
 have htp2 : TabV G17 (tp ++ [V.ref z5]) (ltM n m (rows, l)).push := paired_snoc (R := LstI _) ⟨z5, rfl, by rw [getD_get hr0]; exact ez5⟩ htp
 refine ⟨_, rfl, _, rfl, o, aMode, M.dx, _, _, rfl, (SG17 _ _ k0.ins), TMode.cl, AMode.n_add, rfl, l.d, M.a, m.add, rfl, (SG17 _ _ k0.ha), (by omega), PK.d.mono (by decide), (fun x hx => (MBm.add x hx).mono (by decide)), fun q2 J7 y7 _ eq2 => ?_⟩
 have SG18 := SG17.trans y7
 replace htn := (TabV.same y7 htn)
 replace en1 := (y7 _ _ en1)
 replace ep1 := (y7 _ _ ep1)
 replace htp := (TabV.same y7 htp)
 replace ec1 := (y7 _ _ ec1)
 replace hwv := (WaysV.same y7 hwv)
 replace ew1 := (y7 _ _ ew1)
 replace eq1 := (y7 _ _ eq1)
 replace ez2 := (y7 _ _ ez2)
 replace ec2 := (y7 _ _ ec2)
 replace ed2 := (y7 _ _ ed2)
 replace en2 := (y7 _ _ en2)
 replace htn2 := (TabV.same y7 htn2)
 replace ez3 := (y7 _ _ ez3)
 replace ez4 := (y7 _ _ ez4)
 replace ec3 := (y7 _ _ ec3)
 replace ea0 := (y7 _ _ ea0)
 replace ez5 := (y7 _ _ ez5)
 replace ed3 := (y7 _ _ ed3)
 replace ep2 := (y7 _ _ ep2)
 replace htp2 := (TabV.same y7 htp2)
 refine ⟨_, rfl, o, aMode, M.dx, _, _, rfl, (SG18 _ _ k0.ins), TMode.cl, AMode.n_divisor, rfl, _, rfl, so, aStraight, dxs, _, _, rfl, (SG18 _ _ SA.ins), TStraight.cl, AStraight.n_add, rfl, _, _, rfl, rfl, ⟨MBm.div.mono (by decide), PK.a.mono (by decide)⟩, (by show 1 <= sizeLine; decide), fun d4 hd4 => ?_⟩
 have yG19 := same_new hd4 (HO.lst [V.int (m.div * l.a)])
 have ed4 := upd_same (H := J7) (a := d4) (o := HO.lst [V.int (m.div * l.a)])
 generalize hhG19 : upd J7 d4 (HO.lst [V.int (m.div * l.a)]) = G19 at yG19 ed4 |-
 have SG19 := SG18.trans yG19
 replace htn := (TabV.same yG19 htn)
 replace en1 := (yG19 _ _ en1)
 replace ep1 := (yG19 _ _ ep1)
 replace htp := (TabV.same yG19 htp)
 replace ec1 := (yG19 _ _ ec1)
 replace hwv := (WaysV.same yG19 hwv)
 replace ew1 := (yG19 _ _ ew1)
 replace eq1 := (yG19 _ _ eq1)
 replace ez2 := (yG19 _ _ ez2)
 replace ec2 := (yG19 _ _ ec2)
 replace ed2 := (yG19 _ _ ed2)
 replace en2 := (yG19 _ _ en2)
 replace htn2 := (TabV.same yG19 htn2)
 replace ez3 := (yG19 _ _ ez3)
 replace ez4 := (yG19 _ _ ez4)
 replace ec3 := (yG19 _ _ ec3)
 replace ea0 := (yG19 _ _ ea0)
 replace ez5 := (yG19 _ _ ez5)
 replace ed3 := (yG19 _ _ ed3)
 replace ep2 := (yG19 _ _ ep2)
 replace htp2 := (TabV.same yG19 htp2)
 replace eq2 := (yG19 _ _ eq2)
 refine ⟨q2, d4, _, _, rfl, rfl, eq2, ed4, (by rw [List.length_map, scM_len]; exact Nat.le_of_lt (small1000 (by show m.add.length + 1 <= 1000; omega))), fun c4 hc4 => ?_⟩
 rw [show (scM l.d m.add).map V.int ++ [V.int (m.div * l.a)] = (scM l.d m.add ++ [m.div * l.a]).map V.int from by rw [List.map_append]; rfl]
 have yG20 := same_new hc4 (HO.lst ((scM l.d m.add ++ [m.div * l.a]).map V.int))
 have ec4 := upd_same (H := G19) (a := c4) (o := HO.lst ((scM l.d m.add ++ [m.div * l.a]).map V.int))
 generalize hhG20 : upd G19 c4 (HO.lst ((scM l.d m.add ++ [m.div * l.a]).map V.int)) = G20 at yG20 ec4 |-
 have SG20 := SG19.trans yG20
 replace htn := (TabV.same yG20 htn)
 replace en1 := (yG20 _ _ en1)
 replace ep1 := (yG20 _ _ ep1)
 replace htp := (TabV.same yG20 htp)
 replace ec1 := (yG20 _ _ ec1)
 replace hwv := (WaysV.same yG20 hwv)
 replace ew1 := (yG20 _ _ ew1)
 replace eq1 := (yG20 _ _ eq1)
 replace ez2 := (yG20 _ _ ez2)
 replace ec2 := (yG20 _ _ ec2)
 replace ed2 := (yG20 _ _ ed2)
 replace en2 := (yG20 _ _ en2)
 replace htn2 := (TabV.same yG20 htn2)
 replace ez3 := (yG20 _ _ ez3)
 replace ez4 := (yG20 _ _ ez4)
 replace ec3 := (yG20 _ _ ec3)
 replace ea0 := (yG20 _ _ ea0)
 replace ez5 := (yG20 _ _ ez5)
 replace ed3 := (yG20 _ _ ed3)
 replace ep2 := (yG20 _ _ ep2)
 replace htp2 := (TabV.same yG20 htp2)
 replace eq2 := (yG20 _ _ eq2)
 replace ed4 := (yG20 _ _ ed4)
 refine ⟨_, rfl, o, aMode, M.dx, _, _, rfl, (SG20 _ _ k0.ins), TMode.cl, AMode.n_divisor, rfl, _, rfl, _, _, rfl, rfl, ⟨MBm.div.mono (by decide), PK.d.mono (by decide)⟩, ?_⟩
 intro mo dx hmo hdx ne
 have zm := same_make hmo hdx ne (HO.own mo) (HO.ins aMode dx [])
 have eo := upd_same (H := upd G20 dx (HO.own mo)) (a := mo) (o := HO.ins aMode dx [])
 generalize hhJ1 : upd (upd G20 dx (HO.own mo)) mo (HO.ins aMode dx []) = J1 at zm eo |-
 refine ⟨mo, dx, w1, n2, c3, p2, c4, wv, (tn ++ [V.ref c2]), (tp ++ [V.ref z5]), (ltM n m (rows, l)), (n + 1), w, rfl, eo, ltM_ok MO MBm PK n1' n2', zm _ _ ew1, WaysV.same zm hwv, zm _ _ en2, TabV.same zm htn2, zm _ _ ec3, zm _ _ ep2, TabV.same zm htp2, zm _ _ ec4, fun M2 J2 sb ok f1 f2 f3 f4 f5 m1 m2 => ⟨rfl, ?_⟩⟩
 exact q (.ref mo) J2 (SG20.trans (same_but zm sb hmo)) ⟨mo, _, rfl, ok⟩ (fun b xs hb => mode_hid ok (zm _ _ (SG20 _ _ hb)) ((same_but zm sb hmo) _ _ (SG20 _ _ hb)) f1 f2 f3 f4 f5 m1 m2)
end
theorem pu_same {H H' : Hp} {pv : List V} {bs : List (Int × Int)} (s : Same H H') (h : Paired (PuV H) pv bs) : Paired (PuV H') pv bs := Paired.mapP h fun _ _ z => z.same s
theorem modes_same {C : Addr} {H H' : Hp} {mv : List V} {ms : List MD} (s : Same H H') (h : Paired (ModeV C H) mv ms) : Paired (ModeV C H') mv ms := Paired.mapP h fun _ _ z => z.same s
theorem pcs_same {C : Addr} {H0 H H' : Hp} {lv : List V} {ps : List PC} (s : Same H H') (h : Paired (PcV C H0 H) lv ps) : Paired (PcV C H0 H') lv ps := Paired.mapP h fun _ _ z => z.same s
noncomputable def modesM (f : MD -> PC -> MD) (ms : List MD) (ps : List PC) : List MD := ms.flatMap fun m => ps.map (f m)
theorem modesM_len (f : MD -> PC -> MD) (ps : List PC) : ∀ ms : List MD, (modesM f ms ps).length = ms.length * ps.length
 | [] => by simp [modesM]
 | m :: t => by
  have := modesM_len f ps t
  unfold modesM at this |-
  rw [List.flatMap_cons, List.length_append, this, List.length_map, List.length_cons, Nat.add_mul, Nat.one_mul, Nat.add_comm]
structure RuOk (n : Nat) (t : RT) : Prop where
 sh : ShOk n t
 tf : TrF t
 dp : t.dep <= 4
 c : countM t <= 12
theorem RuOk.pb {n : Nat} {t : RT} (h : RuOk n t) : ∀ p ∈ piecesM t, PB n p := fun p hp => by
 have a := pieces_ok h.sh p hp
 have b := pieces_f h.tf p hp
 have c := rows_few p hp
 have d := h.dp
 exact ⟨a.rows, by omega, a.len, a.d0, fun x hx => (b.ns x hx).mono (by decide), b.a.mono (by decide), b.d.mono (by decide)⟩
structure ThB (n : Nat) (bs : List (Int × Int)) (ms : List MD) : Prop where
 ok : ThOk n bs ms
 mb : ∀ m ∈ ms, MB m
 few : ms.length <= 3
 b3 : bs.length <= 3
theorem modes_ok {n n2 : Nat} {bs : List (Int × Int)} {ms : List MD} {t : RT} {f : MD -> PC -> MD} (T : ThB n bs ms) (R : RuOk n t) (h1 : 1 <= n2) (h3 : n2 <= 3) (h : ∀ m ∈ ms, ∀ p ∈ piecesM t, MDOk (f m p) n2 bs.length) : ThOk n2 bs (modesM f ms (piecesM t)) := by
 have l := modesM_len f (piecesM t) ms
 have c := R.c
 have c1 := count_pos t
 have m1 := T.ok.m1
 have m3 := T.few
 rw [pieces_len] at l
 refine ⟨h1, h3, T.ok.bok, T.ok.b6, ?_, ?_, fun m hm => ?_⟩
 ·rw [l]
  exact Nat.mul_pos m1 c1
 ·rw [l]
  exact Nat.le_trans (Nat.mul_le_mul m3 c) (by decide)
 ·obtain ⟨a, ha, hm⟩ := List.mem_flatMap.mp hm
  obtain ⟨p, hp, rfl⟩ := List.mem_map.mp hm
  exact h a ha p hp
theorem rd_ok {n : Nat} {bs : List (Int × Int)} {ms : List MD} {l : LF} {z : Int} (T : ThB n bs ms) (k : PB n ([], l)) (hz : 1 <= z) : ThOk n (bs ++ List.replicate n (0, z)) (ms.map fun m => rdM m l) := by
 have b3 := T.b3
 have n3 := T.ok.n3
 have lb : (bs ++ List.replicate n (0, z)).length = bs.length + n := by rw [List.length_append, List.length_replicate]
 refine ⟨T.ok.n1, n3, fun b hb => ?_, by omega, by rw [List.length_map]; exact T.ok.m1, by rw [List.length_map]; exact T.ok.m40, fun m hm => ?_⟩
 ·rcases List.mem_append.mp hb with hb | hb
  ·exact T.ok.bok b hb
  ·rw [List.eq_of_mem_replicate hb]
   show (0 : Int) <= z
   omega
 ·obtain ⟨a, ha, rfl⟩ := List.mem_map.mp hm
  rw [lb]
  exact rdM_ok (T.ok.mok a ha) (T.mb a ha) k b3
inductive spSteered (C1 C2 C3 C CM : Addr) (vs : List V) (H : Hp) (Q : VK) (E : XK) : Prop
 | mk (o kp km : Addr) (v : V) (n : Nat) (bs : List (Int × Int)) (ms : List MD) (pv mv : List V) (t : RT) (_ : vs = [.ref o, v]) (_ : ThingAt C CM H o n bs ms pv mv kp km) (_ : ThB n bs ms) (_ : RuleV C1 C2 C3 H v t) (_ : RuOk n t) (_ : ∀ o' mv' kp' km' H', Same H H' -> ThingAt C CM H' o' n bs (modesM stM ms (piecesM t)) pv mv' kp' km' -> Q (.ref o') H') : spSteered C1 C2 C3 C CM vs H Q E
inductive spLate (C1 C2 C3 C CM : Addr) (vs : List V) (H : Hp) (Q : VK) (E : XK) : Prop
 | mk (o kp km : Addr) (v : V) (n : Nat) (bs : List (Int × Int)) (ms : List MD) (pv mv : List V) (t : RT) (_ : vs = [.ref o, v]) (_ : ThingAt C CM H o n bs ms pv mv kp km) (_ : ThB n bs ms) (_ : RuleV C1 C2 C3 H v t) (_ : RuOk n t) (_ : n <= 2) (_ : ∀ o' mv' kp' km' H', Same H H' -> ThingAt C CM H' o' (n + 1) bs (modesM (ltM n) ms (piecesM t)) pv mv' kp' km' -> Q (.ref o') H') : spLate C1 C2 C3 C CM vs H Q E
inductive spRounded (C1 C2 C3 C CM : Addr) (vs : List V) (H : Hp) (Q : VK) (E : XK) : Prop
 | mk (o kp km so dxs la : Addr) (n : Nat) (bs : List (Int × Int)) (ms : List MD) (pv mv : List V) (l : LF) (z : Int) (_ : vs = [.ref o, .ref so, .int z]) (_ : ThingAt C CM H o n bs ms pv mv kp km) (_ : ThB n bs ms) (_ : StrA C1 H so l dxs la) (_ : PB n ([], l)) (_ : 1 <= z) (_ : ∀ o' pv' mv' kp' km' H', Same H H' -> ThingAt C CM H' o' n (bs ++ List.replicate n (0, z)) (ms.map fun m => rdM m l) pv' mv' kp' km' -> Q (.ref o') H') : spRounded C1 C2 C3 C CM vs H Q E
section
variable {P : Program} {w : World} {K : PySem.W.Frag} {mg : Str -> Option Value} {base : Heap}
noncomputable abbrev s_steered : Stmt := top 51
theorem sc_steered : FnScope ["thing", "rule", "parts", "modes", "mode", "rows", "straight"] ["thing", "rule"] (defScope s_steered) := ⟨rfl, rfl, rfl, by decide +kernel, rfl, by decide +kernel, by decide +kernel⟩
noncomputable abbrev s_late : Stmt := top 55
theorem sc_late : FnScope ["thing", "rule", "parts", "modes", "mode", "rows", "straight"] ["thing", "rule"] (defScope s_late) := ⟨rfl, rfl, rfl, by decide +kernel, rfl, by decide +kernel, by decide +kernel⟩
noncomputable abbrev s_rounded : Stmt := top 53
theorem sc_rounded : FnScope ["thing", "straight", "size", "readings", "modes"] ["thing", "straight", "size"] (defScope s_rounded) := ⟨rfl, rfl, rfl, by decide +kernel, rfl, by decide +kernel, by decide +kernel⟩
variable {aStraight aStopped aParted aMode aThing : Addr} (TStraight : ClsF K mg "Straight" aStraight) (AStraight : AtStraight K aStraight) (TStopped : ClsF K mg "Stopped" aStopped) (AStopped : AtStopped K aStopped) (TParted : ClsF K mg "Parted" aParted) (AParted : AtParted K aParted) (TMode : ClsF K mg "Mode" aMode) (AMode : AtMode K aMode) (TThing : ClsF K mg "Thing" aThing) (AThing : AtThing K aThing) (Y : Kits K aStraight aStopped aParted)
include TStraight AStraight TStopped AStopped TParted AParted TMode AMode TThing AThing Y
theorem ok_steered {k : Nat} {f : Addr} {fd : FuncData} (F : Fun K "steered" "steered" s_steered f fd) (B : Bl mg) (c_pieces : Fn P w K mg base "pieces" ["rule", "many"] (k + 1) (spPieces aStraight aStopped aParted 4)) (c_Thing_modes : FnM P w K mg base aThing "modes" ["self"] (k + 1) (spModes aThing aMode)) (c_steered_mode : Fn P w K mg base "steered_mode" ["mode", "rows", "straight"] (k + 1) (spStMode aStraight aMode)) (c_Thing___init__ : FnC P w K mg base aThing ["self", "many", "pushes", "modes"] k (spThingInit aThing aMode)) (c_Thing_pushes : FnM P w K mg base aThing "pushes" ["self"] (k + 1) (spPushes aThing aMode)) : FnOk P w K mg base CX0 (k + 1 + 1) f fd ["thing", "rule"] (spSteered aStraight aStopped aParted aThing aMode) := by
 refine F.ok sc_steered (fun vs H Q E h => ?_) (fun cdv A outer s H vs Q E hr h => ?_)
 ·obtain ⟨o, kp, km, v, n, bs, ms, pv, mv, t, rfl, _⟩ := h
  rfl
 obtain ⟨o, kp, km, v, n, bs, ms, pv, mv, t, rfl, TA, TB, hR, RU, q⟩ := h
 have hrm := hr
 refine ⟨_, (pss_cons (ps_set (i := 2) sc_steered.nd rfl (Or.inl rfl) (pe_callF c_pieces hr rfl (pa_cons (L2.pvj 1) (pa_cons (pe_fld (L2.pvj 0) rfl) pa_nil))))
  (pss_cons (ps_set (i := 3) sc_steered.nd rfl (Or.inl rfl) (pe_lst pa_nil))
  (pss_cons (ps_for PassesOwn.never rfl (pi_list (pe_methF0 c_Thing_modes TThing hrm (L2.pvj 0))) (pg_name (i := 4) sc_steered.nd rfl (Or.inl rfl)) (pss_one (ps_for PassesOwn.never rfl (pi_list (L2.pvj 2)) (pg_tup rfl (pgs_cons (pg_name (i := 5) sc_steered.nd rfl (Or.inl rfl)) (pgs_cons (pg_name (i := 6) sc_steered.nd rfl (Or.inl rfl)) pgs_nil))) (pss_one (ps_expr (pe_bm PySem.F.plainAttrs_list PySem.F.slot_list_append PySem.F.type_list_append japp (L2.pvj 3) (pa_cons (pe_callF c_steered_mode hr rfl (pa_cons (L2.pvj 4) (pa_cons (L2.pvj 5) (pa_cons (L2.pvj 6) pa_nil)))) pa_nil)))))))
  (pss_one (ps_ret (pe_makeF c_Thing___init__ TThing hr rfl (pa_cons (pe_fld (L2.pvj 0) rfl) (pa_cons (pe_methF0 c_Thing_pushes TThing hrm (L2.pvj 0)) (pa_cons (L2.pvj 3) pa_nil))))))))), ?_⟩
 try dsimp only [cxOf, Cx.nox, Cx.wish]
 obtain ⟨dx, ins⟩ := TA.ins
 have n1 := TB.ok.n1
 have n3 := TB.ok.n3
 have m1 := TB.ok.m1
 have m3 := TB.few
 have lmv : mv.length = ms.length := Paired.length TA.hmv
 have dp := RU.dp
 have cc := RU.c
 have PBs := RU.pb
 have lpc := pieces_len t
 refine ⟨_, rfl, _, rfl, o, aThing, dx, _, _, rfl, ins, TThing.cl, AThing.n_many, rfl, v, n, t, rfl, dp, (by omega), hR, RU.sh, n1, (by omega), RU.tf, (by omega), fun l lv J1 y1 nl el hlv => ?_⟩
 have llv : lv.length = countM t := (Paired.length hlv).trans lpc
 refine ⟨(by show 0 <= sizeLine; decide), fun ml hml => ?_⟩
 have y2 := same_new hml (HO.lst [])
 have eml0 := upd_same (H := J1) (a := ml) (o := HO.lst [])
 generalize hhJ2 : upd J1 ml (HO.lst []) = J2 at y2 eml0 |-
 have s2 := y1.trans y2
 refine ⟨_, rfl, o, dx, _, rfl, (s2 _ _ ins), rfl, o, kp, km, n, bs, ms, pv, mv, rfl, TA.same s2, fun l2 J3 y3 nl2 el2 => ?_⟩
 have nel : l2 ≠ ml := (ne_of_none eml0 nl2).symm
 have s3 := hide_fresh (B := [ml]) (fun x hx => by rw [List.mem_singleton.mp hx]; exact hml) (y2.trans y3)
 have hlv' := pcs_same s3 hlv
 refine ⟨l2, rfl, ⟨_, SqL.of el2⟩, for_list (K := K) (a := l2) (xs := mv)
  (fun i σ H' => ∃ (xs : List V) (o4 o5 o6 : Option V), σ = [some (.ref o), some v, some (.ref l), some (.ref ml), o4, o5, o6] /\ Same J1 (hide [ml] H') /\ H' l2 = some (.lst mv) /\ H' ml = some (.lst xs) /\ Paired (ModeV aMode (hide [ml] H')) xs (modesM stM (ms.take i) (piecesM t)))
  ⟨[], none, none, none, rfl, s3, el2, y3 _ _ eml0, .nil⟩ (fun i σ H' _ ⟨_, _, _, _, _, _, e, _⟩ => SqL.of e) ?_ ?_⟩
 ·rintro i x σ H' hix ⟨xs, o4, o5, o6, rfl, sm, e2, eml, hxs⟩
  obtain ⟨md, hmd, hx⟩ := paired_get TA.hmv hix
  have mo := TB.ok.mok md (List.mem_of_getElem? hmd)
  have mb := TB.mb md (List.mem_of_getElem? hmd)
  have im0 : i < ms.length := (List.getElem?_eq_some_iff.mp hmd).1
  have im : i < 3 := by omega
  have lx : xs.length = i * countM t := by
   rw [Paired.length hxs, modesM_len, lpc, List.length_take, Nat.min_eq_left (by omega)]
  have lxb : i * countM t <= 2 * 12 := Nat.mul_le_mul (by omega) cc
  refine ⟨_, rfl, l, rfl, ⟨_, SqL.of (hide_sub _ _ (sm _ _ el))⟩, for_list (K := K) (a := l) (xs := lv)
   (fun j σ H2 => ∃ (ys : List V) (o5 o6 : Option V), σ = [some (.ref o), some v, some (.ref l), some (.ref ml), some x, o5, o6] /\ Same J1 (hide [ml] H2) /\ H2 l2 = some (.lst mv) /\ H2 ml = some (.lst ys) /\ Paired (ModeV aMode (hide [ml] H2)) ys (modesM stM (ms.take i) (piecesM t) ++ ((piecesM t).take j).map (stM md)))
   ⟨xs, o5, o6, rfl, sm, e2, eml, by rw [List.take_zero, List.map_nil, List.append_nil]; exact hxs⟩ (fun j σ H2 _ ⟨_, _, _, _, s, _⟩ => SqL.of (hide_sub _ _ (s _ _ el))) ?_ ?_⟩
  ·rintro j y σ H2 hjy ⟨ys, o5, o6, rfl, sm2, e22, eml2, hys⟩
   obtain ⟨p, hp, pc⟩ := paired_get hlv hjy
   have sj := sm2.trans hide_sub
   obtain ⟨tt, rl, so, dxs, la, rv, rfl, eT, _, eRl, eRv, eSo, eLa⟩ := pc.same sj
   have ly := Paired.length hys
   rw [List.length_append, modesM_len, lpc, List.length_map, List.length_take, List.length_take, Nat.min_eq_left (show i <= ms.length by omega)] at ly
   have jb := (List.getElem?_eq_some_iff.mp hp).1
   refine ⟨tt, _, rfl, SqT.of eT, rfl, _, _, rfl, _, _, rfl, rfl, ?_⟩
   refine ⟨_, rfl, .inl ⟨rfl, _, SqL.of eml2⟩, _, rfl, _, rfl, _, rfl, x, md, rl, so, dxs, la, rv, p.1, p.2, n, bs.length, rfl, ModeV.same (y1.trans sj) hx, mo, mb, eRl, eRv, ⟨eSo, eLa⟩, PBs p (List.mem_of_getElem? hp), fun u H3 z3 hu hid => ?_⟩
   refine ⟨ml, ys, u, rfl, rfl, z3 _ _ eml2, small1000 (by omega), ?_⟩
   have h3 := hide_same (B := [ml]) z3
   have h4 := h3.trans (hide_put (x := ml) (HO.lst (ys ++ [u])))
   refine ⟨ys ++ [u], _, _, rfl, sm2.trans h4, (upd_ne nel).trans (z3 _ _ e22), upd_same, ?_⟩
   rw [take_snoc hp, List.map_append, <- List.append_assoc]
   exact paired_snoc (R := ModeV aMode _) (ModeV.same (hide_put _) (hid ml _ eml2)) (modes_same h4 hys)
  rintro σ H2 ⟨ys, o5, o6, rfl, sm2, e22, eml2, hys⟩
  rw [take_all (xs := piecesM t) (by omega)] at hys
  refine ⟨ys, _, _, _, rfl, sm2, e22, eml2, ?_⟩
  unfold modesM at hys |-
  rw [flat_snoc _ hmd]
  exact hys
 rintro σ H4 ⟨xs, o4, o5, o6, rfl, sm, e2, eml, hxs⟩
 rw [take_all (by omega)] at hxs
 have s4 := y1.trans (sm.trans hide_sub)
 replace hxs := modes_same hide_sub hxs
 refine ⟨_, rfl, o, aThing, dx, _, _, rfl, (s4 _ _ ins), TThing.cl, AThing.n_many, rfl, _, rfl, o, dx, _, rfl, (s4 _ _ ins), rfl, o, kp, km, n, bs, ms, pv, mv, rfl, TA.same s4, fun lp J8 y8 _ elp => ?_⟩
 refine ⟨_, rfl, ?_⟩
 have s8 := s4.trans y8
 replace eml := y8 _ _ eml
 replace hxs := modes_same y8 hxs
 intro to dt hto hdt ne2
 have zt := same_make hto hdt ne2 (HO.own to) (HO.ins aThing dt [])
 have et9 := upd_same (H := upd J8 dt (HO.own to)) (a := to) (o := HO.ins aThing dt [])
 generalize hhJ9 : upd (upd J8 dt (HO.own to)) to (HO.ins aThing dt []) = J9 at zt et9 |-
 refine ⟨to, dt, lp, ml, pv, xs, n, bs, (modesM stM ms (piecesM t)), rfl, et9, zt _ _ elp, pu_same zt (pu_same s8 TA.hpv), zt _ _ eml, modes_same zt hxs, (modes_ok TB RU n1 n3 fun a ha p hp => stM_ok (TB.ok.mok a ha) (TB.mb a ha) (PBs p hp)), fun kp' km' J10 sb fk fm fne eo5 ek em => ⟨rfl, ?_⟩⟩
 have sz := same_but zt sb hto
 exact q to xs kp' km' J10 (s8.trans sz) ⟨⟨dt, eo5⟩, ek, pu_same sz (pu_same s8 TA.hpv), em, modes_same sz hxs⟩
theorem ok_late {k : Nat} {f : Addr} {fd : FuncData} (F : Fun K "late" "late" s_late f fd) (B : Bl mg) (c_pieces : Fn P w K mg base "pieces" ["rule", "many"] (k + 1) (spPieces aStraight aStopped aParted 4)) (c_Thing_modes : FnM P w K mg base aThing "modes" ["self"] (k + 1) (spModes aThing aMode)) (c_late_mode : Fn P w K mg base "late_mode" ["mode", "rows", "straight"] (k + 1) (spLtMode aStraight aMode)) (c_Thing___init__ : FnC P w K mg base aThing ["self", "many", "pushes", "modes"] k (spThingInit aThing aMode)) (c_Thing_pushes : FnM P w K mg base aThing "pushes" ["self"] (k + 1) (spPushes aThing aMode)) : FnOk P w K mg base CX0 (k + 1 + 1) f fd ["thing", "rule"] (spLate aStraight aStopped aParted aThing aMode) := by
 refine F.ok sc_late (fun vs H Q E h => ?_) (fun cdv A outer s H vs Q E hr h => ?_)
 ·obtain ⟨o, kp, km, v, n, bs, ms, pv, mv, t, rfl, _⟩ := h
  rfl
 obtain ⟨o, kp, km, v, n, bs, ms, pv, mv, t, rfl, TA, TB, hR, RU, n2, q⟩ := h
 have hrm := hr
 refine ⟨_, (pss_cons (ps_set (i := 2) sc_late.nd rfl (Or.inl rfl) (pe_callF c_pieces hr rfl (pa_cons (L2.pvj 1) (pa_cons (pe_fld (L2.pvj 0) rfl) pa_nil))))
  (pss_cons (ps_if (pt_cmpR op_eq (pe_fld (L2.pvj 0) rfl) (pe_const rfl B.MOST_NUMBERS_) (nomark _)) (pss_one ps_never) pss_nil)
  (pss_cons (ps_set (i := 3) sc_late.nd rfl (Or.inl rfl) (pe_lst pa_nil))
  (pss_cons (ps_for PassesOwn.never rfl (pi_list (pe_methF0 c_Thing_modes TThing hrm (L2.pvj 0))) (pg_name (i := 4) sc_late.nd rfl (Or.inl rfl)) (pss_one (ps_for PassesOwn.never rfl (pi_list (L2.pvj 2)) (pg_tup rfl (pgs_cons (pg_name (i := 5) sc_late.nd rfl (Or.inl rfl)) (pgs_cons (pg_name (i := 6) sc_late.nd rfl (Or.inl rfl)) pgs_nil))) (pss_one (ps_expr (pe_bm PySem.F.plainAttrs_list PySem.F.slot_list_append PySem.F.type_list_append japp (L2.pvj 3) (pa_cons (pe_callF c_late_mode hr rfl (pa_cons (L2.pvj 4) (pa_cons (L2.pvj 5) (pa_cons (L2.pvj 6) pa_nil)))) pa_nil)))))))
  (pss_one (ps_ret (pe_makeF c_Thing___init__ TThing hr rfl (pa_cons (pe_op (ji0 op_add) (pe_fld (L2.pvj 0) rfl) pe_int) (pa_cons (pe_methF0 c_Thing_pushes TThing hrm (L2.pvj 0)) (pa_cons (L2.pvj 3) pa_nil)))))))))), ?_⟩
 try dsimp only [cxOf, Cx.nox, Cx.wish]
 obtain ⟨dx, ins⟩ := TA.ins
 have n1 := TB.ok.n1
 have n3 := TB.ok.n3
 have m1 := TB.ok.m1
 have m3 := TB.few
 have lmv : mv.length = ms.length := Paired.length TA.hmv
 have dp := RU.dp
 have cc := RU.c
 have PBs := RU.pb
 have lpc := pieces_len t
 refine ⟨_, rfl, _, rfl, o, aThing, dx, _, _, rfl, ins, TThing.cl, AThing.n_many, rfl, v, n, t, rfl, dp, (by omega), hR, RU.sh, n1, (by omega), RU.tf, (by omega), fun l lv J1 y1 nl el hlv => ?_⟩
 have llv : lv.length = countM t := (Paired.length hlv).trans lpc
 refine ⟨_, rfl, o, aThing, dx, _, _, rfl, (y1 _ _ ins), TThing.cl, AThing.n_many, rfl, rfl, _, rfl, iteB0 (dec_no (by omega)) ?_⟩
 refine ⟨(by show 0 <= sizeLine; decide), fun ml hml => ?_⟩
 have y2 := same_new hml (HO.lst [])
 have eml0 := upd_same (H := J1) (a := ml) (o := HO.lst [])
 generalize hhJ2 : upd J1 ml (HO.lst []) = J2 at y2 eml0 |-
 have s2 := y1.trans y2
 refine ⟨_, rfl, o, dx, _, rfl, (s2 _ _ ins), rfl, o, kp, km, n, bs, ms, pv, mv, rfl, TA.same s2, fun l2 J3 y3 nl2 el2 => ?_⟩
 have nel : l2 ≠ ml := (ne_of_none eml0 nl2).symm
 have s3 := hide_fresh (B := [ml]) (fun x hx => by rw [List.mem_singleton.mp hx]; exact hml) (y2.trans y3)
 have hlv' := pcs_same s3 hlv
 refine ⟨l2, rfl, ⟨_, SqL.of el2⟩, for_list (K := K) (a := l2) (xs := mv)
  (fun i σ H' => ∃ (xs : List V) (o4 o5 o6 : Option V), σ = [some (.ref o), some v, some (.ref l), some (.ref ml), o4, o5, o6] /\ Same J1 (hide [ml] H') /\ H' l2 = some (.lst mv) /\ H' ml = some (.lst xs) /\ Paired (ModeV aMode (hide [ml] H')) xs (modesM (ltM n) (ms.take i) (piecesM t)))
  ⟨[], none, none, none, rfl, s3, el2, y3 _ _ eml0, .nil⟩ (fun i σ H' _ ⟨_, _, _, _, _, _, e, _⟩ => SqL.of e) ?_ ?_⟩
 ·rintro i x σ H' hix ⟨xs, o4, o5, o6, rfl, sm, e2, eml, hxs⟩
  obtain ⟨md, hmd, hx⟩ := paired_get TA.hmv hix
  have mo := TB.ok.mok md (List.mem_of_getElem? hmd)
  have mb := TB.mb md (List.mem_of_getElem? hmd)
  have im0 : i < ms.length := (List.getElem?_eq_some_iff.mp hmd).1
  have im : i < 3 := by omega
  have lx : xs.length = i * countM t := by
   rw [Paired.length hxs, modesM_len, lpc, List.length_take, Nat.min_eq_left (by omega)]
  have lxb : i * countM t <= 2 * 12 := Nat.mul_le_mul (by omega) cc
  refine ⟨_, rfl, l, rfl, ⟨_, SqL.of (hide_sub _ _ (sm _ _ el))⟩, for_list (K := K) (a := l) (xs := lv)
   (fun j σ H2 => ∃ (ys : List V) (o5 o6 : Option V), σ = [some (.ref o), some v, some (.ref l), some (.ref ml), some x, o5, o6] /\ Same J1 (hide [ml] H2) /\ H2 l2 = some (.lst mv) /\ H2 ml = some (.lst ys) /\ Paired (ModeV aMode (hide [ml] H2)) ys (modesM (ltM n) (ms.take i) (piecesM t) ++ ((piecesM t).take j).map ((ltM n) md)))
   ⟨xs, o5, o6, rfl, sm, e2, eml, by rw [List.take_zero, List.map_nil, List.append_nil]; exact hxs⟩ (fun j σ H2 _ ⟨_, _, _, _, s, _⟩ => SqL.of (hide_sub _ _ (s _ _ el))) ?_ ?_⟩
  ·rintro j y σ H2 hjy ⟨ys, o5, o6, rfl, sm2, e22, eml2, hys⟩
   obtain ⟨p, hp, pc⟩ := paired_get hlv hjy
   have sj := sm2.trans hide_sub
   obtain ⟨tt, rl, so, dxs, la, rv, rfl, eT, _, eRl, eRv, eSo, eLa⟩ := pc.same sj
   have ly := Paired.length hys
   rw [List.length_append, modesM_len, lpc, List.length_map, List.length_take, List.length_take, Nat.min_eq_left (show i <= ms.length by omega)] at ly
   have jb := (List.getElem?_eq_some_iff.mp hp).1
   refine ⟨tt, _, rfl, SqT.of eT, rfl, _, _, rfl, _, _, rfl, rfl, ?_⟩
   refine ⟨_, rfl, .inl ⟨rfl, _, SqL.of eml2⟩, _, rfl, _, rfl, _, rfl, x, md, rl, so, dxs, la, rv, p.1, p.2, n, bs.length, rfl, ModeV.same (y1.trans sj) hx, mo, mb, eRl, eRv, ⟨eSo, eLa⟩, PBs p (List.mem_of_getElem? hp), n1, n2, fun u H3 z3 hu hid => ?_⟩
   refine ⟨ml, ys, u, rfl, rfl, z3 _ _ eml2, small1000 (by omega), ?_⟩
   have h3 := hide_same (B := [ml]) z3
   have h4 := h3.trans (hide_put (x := ml) (HO.lst (ys ++ [u])))
   refine ⟨ys ++ [u], _, _, rfl, sm2.trans h4, (upd_ne nel).trans (z3 _ _ e22), upd_same, ?_⟩
   rw [take_snoc hp, List.map_append, <- List.append_assoc]
   exact paired_snoc (R := ModeV aMode _) (ModeV.same (hide_put _) (hid ml _ eml2)) (modes_same h4 hys)
  rintro σ H2 ⟨ys, o5, o6, rfl, sm2, e22, eml2, hys⟩
  rw [take_all (xs := piecesM t) (by omega)] at hys
  refine ⟨ys, _, _, _, rfl, sm2, e22, eml2, ?_⟩
  unfold modesM at hys |-
  rw [flat_snoc _ hmd]
  exact hys
 rintro σ H4 ⟨xs, o4, o5, o6, rfl, sm, e2, eml, hxs⟩
 rw [take_all (by omega)] at hxs
 have s4 := y1.trans (sm.trans hide_sub)
 replace hxs := modes_same hide_sub hxs
 refine ⟨_, rfl, o, aThing, dx, _, _, rfl, (s4 _ _ ins), TThing.cl, AThing.n_many, rfl, _, _, rfl, rfl, _, rfl, o, dx, _, rfl, (s4 _ _ ins), rfl, o, kp, km, n, bs, ms, pv, mv, rfl, TA.same s4, fun lp J8 y8 _ elp => ?_⟩
 refine ⟨_, rfl, ?_⟩
 have s8 := s4.trans y8
 replace eml := y8 _ _ eml
 replace hxs := modes_same y8 hxs
 intro to dt hto hdt ne2
 have zt := same_make hto hdt ne2 (HO.own to) (HO.ins aThing dt [])
 have et9 := upd_same (H := upd J8 dt (HO.own to)) (a := to) (o := HO.ins aThing dt [])
 generalize hhJ9 : upd (upd J8 dt (HO.own to)) to (HO.ins aThing dt []) = J9 at zt et9 |-
 refine ⟨to, dt, lp, ml, pv, xs, (n + 1), bs, (modesM (ltM n) ms (piecesM t)), rfl, et9, zt _ _ elp, pu_same zt (pu_same s8 TA.hpv), zt _ _ eml, modes_same zt hxs, (modes_ok TB RU (by omega) (by omega) fun a ha p hp => ltM_ok (TB.ok.mok a ha) (TB.mb a ha) (PBs p hp) n1 n2), fun kp' km' J10 sb fk fm fne eo5 ek em => ⟨rfl, ?_⟩⟩
 have sz := same_but zt sb hto
 exact q to xs kp' km' J10 (s8.trans sz) ⟨⟨dt, eo5⟩, ek, pu_same sz (pu_same s8 TA.hpv), em, modes_same sz hxs⟩
theorem ok_rounded {k : Nat} {f : Addr} {fd : FuncData} (F : Fun K "rounded" "rounded" s_rounded f fd) (B : Bl mg) (c_is_straight : Fn P w K mg base "is_straight" ["value", "many"] (k + 1) (spIsStraight aStraight aStopped aParted)) (c_is_whole : Fn P w K mg base "is_whole" ["thing"] (k + 1) spIsWhole) (c_Thing_modes : FnM P w K mg base aThing "modes" ["self"] (k + 1) (spModes aThing aMode)) (c_rounded_mode : Fn P w K mg base "rounded_mode" ["mode", "straight"] (k + 1) (spRdMode aStraight aMode)) (c_Thing___init__ : FnC P w K mg base aThing ["self", "many", "pushes", "modes"] k (spThingInit aThing aMode)) (c_Thing_pushes : FnM P w K mg base aThing "pushes" ["self"] (k + 1) (spPushes aThing aMode)) : FnOk P w K mg base CX0 (k + 1 + 1) f fd ["thing", "straight", "size"] (spRounded aStraight aStopped aParted aThing aMode) := by
 refine F.ok sc_rounded (fun vs H Q E h => ?_) (fun cdv A outer s H vs Q E hr h => ?_)
 ·obtain ⟨o, kp, km, so, dxs, la, n, bs, ms, pv, mv, l, z, rfl, _⟩ := h
  rfl
 obtain ⟨o, kp, km, so, dxs, la, n, bs, ms, pv, mv, l, z, rfl, TA, TB, SA, PK, z1, q⟩ := h
 have hrm := hr
 refine ⟨_, (pss_cons (ps_if (pt_not (pt_val (pe_callF c_is_straight hr rfl (pa_cons (L2.pvj 1) (pa_cons (pe_fld (L2.pvj 0) rfl) pa_nil))))) (pss_one ps_never) pss_nil)
  (pss_cons (ps_if (PW.pt (pw_or (pt_not (pt_val (pe_callF c_is_whole hr rfl (pa_cons (L2.pvj 2) pa_nil)))) (pw_or1 (pt_cmpR (ji0 op_lt) (L2.pvj 2) pe_int (nomark _))))) (pss_one ps_never) pss_nil)
  (pss_cons (ps_comp (i := 3) sc_rounded.nd rfl rfl (own := ["place"]) (caps := [(2, "size")]) (blk_cap (S := defScope s_rounded) (N := ["thing", "straight", "size", "readings", "modes"]) rfl (by decide +kernel) rfl ⟨_, rfl⟩ rfl (by decide +kernel) (by decide +kernel)) rfl (pi_range1 rfl B.range_ (pa_cons (pe_fld (L2.pvj 0) rfl) pa_nil)) (fun _ _ _ _ => pg_name (i := 0) (show (["place", "size"] : List Str).Nodup by decide +kernel) rfl (Or.inl rfl)) (fun _ _ _ _ => (pe_tup (pa_cons pe_int (pa_cons (L2.pvj 1) pa_nil)))) rfl)
  (pss_cons (ps_comp (i := 4) sc_rounded.nd rfl rfl (own := ["mode"]) (caps := [(1, "straight")]) (blk_cap (S := defScope s_rounded) (N := ["thing", "straight", "size", "readings", "modes"]) rfl (by decide +kernel) rfl ⟨_, rfl⟩ rfl (by decide +kernel) (by decide +kernel)) rfl (pi_list (pe_methF0 c_Thing_modes TThing hrm (L2.pvj 0))) (fun _ _ _ _ => pg_name (i := 0) (show (["mode", "straight"] : List Str).Nodup by decide +kernel) rfl (Or.inl rfl)) (fun _ _ _ _ => (pe_callF c_rounded_mode hr rfl (pa_cons (L2.pvj 0) (pa_cons (L2.pvj 1) pa_nil)))) rfl)
  (pss_one (ps_ret (pe_makeF c_Thing___init__ TThing hr rfl (pa_cons (pe_fld (L2.pvj 0) rfl) (pa_cons (pe_op jcat (pe_methF0 c_Thing_pushes TThing hrm (L2.pvj 0)) (L2.pvj 3)) (pa_cons (L2.pvj 4) pa_nil)))))))))), ?_⟩
 try dsimp only [cxOf, Cx.nox, Cx.wish]
 obtain ⟨dx, ins⟩ := TA.ins
 have n1 := TB.ok.n1
 have n3 := TB.ok.n3
 have m1 := TB.ok.m1
 have m3 := TB.few
 have lmv : mv.length = ms.length := Paired.length TA.hmv
 have kl : l.ns.length = n := PK.len
 have lpv : pv.length = bs.length := Paired.length TA.hpv
 have b3 := TB.b3
 refine ⟨_, rfl, _, rfl, o, aThing, dx, _, _, rfl, ins, TThing.cl, AThing.n_many, rfl, .ref so, n, l.ns, l.a, l.d, rfl, ⟨so, dxs, la, rfl, SA.ins, SA.ns⟩, kl, (by omega), PK.d0, fun J1 y1 => ⟨_, rfl, iteF ?_⟩⟩
 have SG1 := y1
 refine ⟨_, rfl, z, rfl, _, rfl, iteF ?_⟩
 refine ⟨_, rfl, _, _, rfl, rfl, _, rfl, iteB0 (decide_eq_false (show ¬ (z < 1) by omega)) ?_⟩
 refine ⟨_, rfl, o, aThing, dx, _, _, rfl, (SG1 _ _ ins), TThing.cl, AThing.n_many, rfl, _, rfl, (by omega), (by omega), comp_range (lo := 0) (n := ((n : Nat) : Int).toNat)
  (fun i ys σ H' => Paired (PuV H') ys (List.replicate i ((0 : Int), z)) /\ (∃ o, σ = [o, some (.int z)]) /\ Same J1 H')
  ⟨.nil, ⟨none, rfl⟩, Same.refl _⟩ (fun i ys σ H' ⟨e1, _⟩ => by have := Paired.length e1; rw [List.length_replicate] at this; omega) (Nat.le_of_lt (small1000 (by omega))) ?_ ?_⟩
 ·rintro i ys σ H' hi ⟨hys, ⟨o1, rfl⟩, sm⟩
  refine ⟨_, rfl, (by show 2 <= sizeLine; decide), fun a ha => ?_⟩
  have za := same_new ha (HO.tup [V.int 0, V.int z])
  refine ⟨?_, ⟨_, rfl⟩, sm.trans za⟩
  rw [List.replicate_succ']
  exact paired_snoc (R := PuV _) (y := ((0 : Int), z)) ⟨a, rfl, upd_same⟩ (pu_same za hys)
 rintro rv σ J2 ⟨hrv, ⟨o1, rfl⟩, y2⟩ ra hra
 rw [Int.toNat_natCast] at hrv
 have SG2 := SG1.trans y2
 have yG3 := same_new hra (HO.lst rv)
 have era := upd_same (H := J2) (a := ra) (o := HO.lst rv)
 generalize hhG3 : upd J2 ra (HO.lst rv) = G3 at yG3 era |-
 have SG3 := SG2.trans yG3
 replace hrv := (pu_same yG3 hrv)
 refine ⟨_, rfl, o, dx, _, rfl, (SG3 _ _ ins), rfl, o, kp, km, n, bs, ms, pv, mv, rfl, TA.same SG3, fun l2 J3 y3 _ el2 => ?_⟩
 have SG4 := SG3.trans y3
 replace hrv := (pu_same y3 hrv)
 replace era := (y3 _ _ era)
 refine ⟨l2, rfl, ⟨_, SqL.of el2⟩, comp_list (K := K) (a := l2) (xs := mv) (fun i ys σ H' => Paired (ModeV aMode H') ys ((ms.take i).map fun m => rdM m l) /\ (∃ o, σ = [o, some (.ref so)]) /\ Same J3 H')
  ⟨.nil, ⟨none, rfl⟩, Same.refl _⟩ (fun i ys σ H' hi ⟨e1, _, sm⟩ => ⟨SqL.of (sm _ _ el2), by have := Paired.length e1; rw [List.length_map, List.length_take] at this; omega⟩) (Nat.le_of_lt (small1000 (by omega))) ?_ ?_⟩
 ·rintro i x ys σ H' hix ⟨hys, ⟨o1, rfl⟩, sm⟩
  obtain ⟨md, hmd, hx⟩ := paired_get TA.hmv hix
  have s0 := SG4.trans sm
  refine ⟨_, rfl, _, rfl, x, md, so, dxs, la, l, n, bs.length, rfl, ModeV.same s0 hx, TB.ok.mok md (List.mem_of_getElem? hmd), TB.mb md (List.mem_of_getElem? hmd), SA.same s0, PK, b3, fun u H2 z2 hu => ⟨?_, ⟨_, rfl⟩, sm.trans z2⟩⟩
  rw [take_snoc hmd, List.map_append (l₁ := List.take i _)]
  exact paired_snoc (R := ModeV aMode _) hu (modes_same z2 hys)
 rintro xs σ J4 ⟨hxs, ⟨o1, rfl⟩, y4⟩ ml hml
 rw [take_all (by omega)] at hxs
 have SG5 := SG4.trans y4
 replace hrv := (pu_same y4 hrv)
 replace era := (y4 _ _ era)
 replace el2 := (y4 _ _ el2)
 have yG6 := same_new hml (HO.lst xs)
 have eml := upd_same (H := J4) (a := ml) (o := HO.lst xs)
 generalize hhG6 : upd J4 ml (HO.lst xs) = G6 at yG6 eml |-
 have SG6 := SG5.trans yG6
 replace hrv := (pu_same yG6 hrv)
 replace era := (yG6 _ _ era)
 replace el2 := (yG6 _ _ el2)
 replace hxs := (modes_same yG6 hxs)
 refine ⟨_, rfl, o, aThing, dx, _, _, rfl, (SG6 _ _ ins), TThing.cl, AThing.n_many, rfl, _, rfl, o, dx, _, rfl, (SG6 _ _ ins), rfl, o, kp, km, n, bs, ms, pv, mv, rfl, TA.same SG6, fun lp J5 y5 _ elp => ?_⟩
 have SG7 := SG6.trans y5
 replace hrv := (pu_same y5 hrv)
 replace era := (y5 _ _ era)
 replace el2 := (y5 _ _ el2)
 replace hxs := (modes_same y5 hxs)
 replace eml := (y5 _ _ eml)
 have lrv := Paired.length hrv
 rw [List.length_replicate] at lrv
 refine ⟨_, rfl, lp, ra, _, _, rfl, rfl, elp, era, Nat.le_of_lt (small1000 (by omega)), fun cp hcp => ?_⟩
 have yG8 := same_new hcp (HO.lst (pv ++ rv))
 have ecp := upd_same (H := J5) (a := cp) (o := HO.lst (pv ++ rv))
 generalize hhG8 : upd J5 cp (HO.lst (pv ++ rv)) = G8 at yG8 ecp |-
 have SG8 := SG7.trans yG8
 replace hrv := (pu_same yG8 hrv)
 replace era := (yG8 _ _ era)
 replace el2 := (yG8 _ _ el2)
 replace hxs := (modes_same yG8 hxs)
 replace eml := (yG8 _ _ eml)
 replace elp := (yG8 _ _ elp)
 have hcv : Paired (PuV G8) (pv ++ rv) (bs ++ List.replicate n ((0 : Int), z)) := paired_app (pu_same SG8 TA.hpv) hrv
 refine ⟨_, rfl, ?_⟩
 intro to dt hto hdt ne2
 have zt := same_make hto hdt ne2 (HO.own to) (HO.ins aThing dt [])
 have et9 := upd_same (H := upd G8 dt (HO.own to)) (a := to) (o := HO.ins aThing dt [])
 generalize hhJ9 : upd (upd G8 dt (HO.own to)) to (HO.ins aThing dt []) = J9 at zt et9 |-
 refine ⟨to, dt, cp, ml, (pv ++ rv), xs, n, (bs ++ List.replicate n (0, z)), (ms.map fun m => rdM m l), rfl, et9, zt _ _ ecp, pu_same zt hcv, zt _ _ eml, modes_same zt hxs, (rd_ok TB PK z1), fun kp' km' J10 sb fk fm fne eo5 ek em => ⟨rfl, ?_⟩⟩
 have sz := same_but zt sb hto
 exact q to (pv ++ rv) xs kp' km' J10 (SG8.trans sz) ⟨⟨dt, eo5⟩, ek, pu_same sz hcv, em, modes_same sz hxs⟩
end
theorem cut_mid (xs : List Int) {a b : Nat} (h : a <= b) (hb : b <= xs.length) : cutV (xs.map V.int) (some (a : Int)) (some (b : Int)) = ((xs.drop a).take (b - a)).map V.int := by
 have e1 : HT.sIx (xs.map V.int).length 0 (some (a : Int)) = min a (xs.map V.int).length := HT.sIx_nat _ 0 a
 have e2 : HT.sIx (xs.map V.int).length (xs.map V.int).length (some (b : Int)) = min b (xs.map V.int).length := HT.sIx_nat _ _ b
 unfold cutV
 rw [e1, e2, List.length_map, Nat.min_eq_left hb, Nat.min_eq_left (show a <= xs.length by omega), <- List.map_drop, <- List.map_take]
theorem mid_len {xs : List Int} {a b : Nat} (h : a <= b) (hb : b <= xs.length) : ((xs.drop a).take (b - a)).length = b - a := by
 rw [List.length_take, List.length_drop]
 omega
theorem mid_bd {xs : List Int} {a b e : Nat} (h : ∀ x ∈ xs, Bd e x) : ∀ x ∈ (xs.drop a).take (b - a), Bd e x := fun x hx => h x (List.mem_of_mem_drop (List.mem_of_mem_take hx))
structure PBody (H : Hp) (r n s p a : Addr) (rv nv pv : List V) (m : MD) : Prop where
 hr : H r = some (.lst rv)
 hrv : WaysV H rv m.rows
 hn : H n = some (.lst nv)
 hnv : TabV H nv m.nexts
 hs : H s = some (.lst (m.steer.map V.int))
 hp : H p = some (.lst pv)
 hpv : TabV H pv m.push
 ha : H a = some (.lst (m.add.map V.int))
theorem PBody.same {H H' : Hp} {r n s p a : Addr} {rv nv pv : List V} {m : MD} (z : Same H H') (h : PBody H r n s p a rv nv pv m) : PBody H' r n s p a rv nv pv m :=
 ⟨z _ _ h.hr, WaysV.same z h.hrv, z _ _ h.hn, TabV.same z h.hnv, z _ _ h.hs, z _ _ h.hp, TabV.same z h.hpv, z _ _ h.ha⟩
noncomputable def PartsV (H : Hp) (v : V) (m : MD) : Prop := ∃ pl r n s p a rv nv pv, v = .ref pl /\ H pl = some (.lst [.ref r, .ref n, .ref s, .ref p, .ref a, .int m.div]) /\ PBody H r n s p a rv nv pv m
theorem PartsV.same {H H' : Hp} {v : V} {m : MD} (z : Same H H') (h : PartsV H v m) : PartsV H' v m :=
 let ⟨pl, r, n, s, p, a, rv, nv, pv, e, hl, b⟩ := h
 ⟨pl, r, n, s, p, a, rv, nv, pv, e, z _ _ hl, b.same z⟩
theorem partss_same {H H' : Hp} {vs : List V} {ms : List MD} (s : Same H H') (h : Paired (PartsV H) vs ms) : Paired (PartsV H') vs ms := Paired.mapP h fun _ _ z => z.same s
inductive spParts (vs : List V) (H : Hp) (Q : VK) (E : XK) : Prop
 | mk (c mm ww : Int) (_ : vs = [.int c, .int mm, .int ww]) (_ : 1 <= mm) (_ : mm <= 3) (_ : 0 <= ww) (_ : ww <= 3) (_ : ∀ (v : V) (m : MD) (H' : Hp), Same H H' -> PartsV H' v m -> MDOk m mm.toNat ww.toNat -> MB m -> Q v H') : spParts vs H Q E
inductive spStraightL (C : Addr) (vs : List V) (H : Hp) (Q : VK) (E : XK) : Prop
 | mk (c mm : Int) (_ : vs = [.int c, .int mm]) (_ : 1 <= mm) (_ : mm <= 3) (_ : ∀ (so dx la : Addr) (l : LF) (H' : Hp), Same H H' -> StrA C H' so l dx la -> (∀ x ∈ l.ns, Bd 101 x) -> Bd 101 l.a -> Bd 31 l.d -> l.ns.length = mm.toNat -> 0 < l.d -> Q (.ref so) H') : spStraightL C vs H Q E
inductive spRuleT32 (C1 C2 C3 : Addr) (K : PySem.W.Frag) (vs : List V) (H : Hp) (Q : VK) (E : XK) : Prop
 | mk (ca : Addr) (cs : List Int) (mm : Int) (_ : vs = [.ref ca, .int mm]) (_ : SqL K H ca (cs.map V.int)) (_ : cs.length <= 4) (_ : 1 <= mm) (_ : mm <= 3) (_ : ∀ (v : V) (t : RT) (H' : Hp), Same H H' -> RuleV C1 C2 C3 H' v t -> RuOk mm.toNat t -> Q v H') : spRuleT32 C1 C2 C3 K vs H Q E
section
variable {P : Program} {w : World} {K : PySem.W.Frag} {mg : Str -> Option Value} {base : Heap}
noncomputable abbrev s_l_cell_at : Stmt := top 58
theorem sc_l_cell_at : FnScope ["_law_script", "_law_k"] ["_law_script", "_law_k"] (defScope s_l_cell_at) := ⟨rfl, rfl, rfl, by decide +kernel, rfl, by decide +kernel, by decide +kernel⟩
noncomputable abbrev s_l_stream : Stmt := top 59
theorem sc_l_stream : FnScope ["_law_cell", "_law_many", "_law_found", "_law_rest", "_law_k", "_law_number_here"] ["_law_cell", "_law_many"] (defScope s_l_stream) := ⟨rfl, rfl, rfl, by decide +kernel, rfl, by decide +kernel, by decide +kernel⟩
noncomputable abbrev s_l_number : Stmt := top 60
theorem sc_l_number : FnScope ["_law_number_here"] ["_law_number_here"] (defScope s_l_number) := ⟨rfl, rfl, rfl, by decide +kernel, rfl, by decide +kernel, by decide +kernel⟩
noncomputable abbrev s_l_parts : Stmt := top 61
theorem sc_l_parts : FnScope ["_law_cell", "_law_many", "_law_wide", "_law_xs", "_law_numbers", "_law_rows", "_law_nexts", "_law_push"] ["_law_cell", "_law_many", "_law_wide"] (defScope s_l_parts) := ⟨rfl, rfl, rfl, by decide +kernel, rfl, by decide +kernel, by decide +kernel⟩
noncomputable abbrev s_l_straight : Stmt := top 62
theorem sc_l_straight : FnScope ["_law_cell", "_law_many", "_law_xs"] ["_law_cell", "_law_many"] (defScope s_l_straight) := ⟨rfl, rfl, rfl, by decide +kernel, rfl, by decide +kernel, by decide +kernel⟩
noncomputable abbrev s_l_rule : Stmt := top 63
theorem sc_l_rule : FnScope ["_law_cells", "_law_many", "_law_rule_here", "_law_k", "_law_xs", "_law_other", "_law_row"] ["_law_cells", "_law_many"] (defScope s_l_rule) := ⟨rfl, rfl, rfl, by decide +kernel, rfl, by decide +kernel, by decide +kernel⟩
noncomputable abbrev s_l_scaled : Stmt := top 64
theorem sc_l_scaled : FnScope ["_law_numbers", "_law_by"] ["_law_numbers", "_law_by"] (defScope s_l_scaled) := ⟨rfl, rfl, rfl, by decide +kernel, rfl, by decide +kernel, by decide +kernel⟩
variable {aStraight aStopped aParted aMode aThing : Addr} (TStraight : ClsF K mg "Straight" aStraight) (AStraight : AtStraight K aStraight) (TStopped : ClsF K mg "Stopped" aStopped) (AStopped : AtStopped K aStopped) (TParted : ClsF K mg "Parted" aParted) (AParted : AtParted K aParted) (TMode : ClsF K mg "Mode" aMode) (AMode : AtMode K aMode) (TThing : ClsF K mg "Thing" aThing) (AThing : AtThing K aThing) (Y : Kits K aStraight aStopped aParted)
include TStraight AStraight TStopped AStopped TParted AParted TMode AMode TThing AThing Y
theorem ok_l_cell_at {k : Nat} {f : Addr} {fd : FuncData} (F : Fun K "_law_cell_at" "_law_cell_at" s_l_cell_at f fd) (B : Bl mg) : FnOk P w K mg base CX0 (k + 1) f fd ["_law_script", "_law_k"] (spCell K) := by
 refine F.ok sc_l_cell_at (fun vs H Q E h => ?_) (fun cdv A outer s H vs Q E hr h => ?_)
 ·obtain ⟨a, ns, k, rfl, _⟩ := h
  rfl
 obtain ⟨a, ns, k, rfl, hS, h0, q⟩ := h
 refine ⟨_, (pss_cons (ps_if (pt_cmpR (ji0 op_lt) (L2.pvj 1) (pe_callB jlen rfl B.len_ boot_len_ (pa_cons (L2.pvj 0) pa_nil)) (nomark _)) (pss_one (ps_ret (pe_ix jix_list (L2.pvj 0) (L2.pvj 1) (fun _ _ => rfl)))) pss_nil)
  (pss_one (ps_ret pe_int))), ?_⟩
 try dsimp only [cxOf, Cx.nox, Cx.wish]
 refine ⟨_, rfl, _, rfl, a, _, rfl, .inl hS, _, _, rfl, rfl, _, rfl, ?_⟩
 refine ite2 (fun c => ?_) (fun c => ?_)
 ·have c' : k < ((ns.map V.int).length : Int) := of_decide_eq_true c
  rw [List.length_map] at c'
  have hk : k.toNat < ns.length := by omega
  have ek : k = ((k.toNat : Nat) : Int) := by omega
  have q0 : atI (ns.map V.int) ((k.toNat : Nat) : Int) = some (.int ns[k.toNat]) := atI_nat (by rw [List.getElem?_map, List.getElem?_eq_getElem hk]; rfl)
  rw [<- ek] at q0
  refine ⟨_, rfl, _, rfl, a, _, k, .int (ns[k.toNat]), rfl, rfl, hS, q0, ?_⟩
  ·have e : ns[k.toNat] = cellZ ns k := by unfold cellZ; rw [List.getElem?_eq_getElem hk]; rfl
   rw [e]
   exact q
 ·have c' : ¬ k < ((ns.map V.int).length : Int) := fun z => c (decide_eq_true z)
  rw [List.length_map] at c'
  have e : (0 : Int) = cellZ ns k := by unfold cellZ; rw [List.getElem?_eq_none (by omega)]; rfl
  show Q (.int 0) H
  rw [e]
  exact q
theorem ok_l_stream {k : Nat} {f : Addr} {fd : FuncData} (F : Fun K "_law_stream" "_law_stream" s_l_stream f fd) (B : Bl mg) : FnOk P w K mg base CX0 (k + 1) f fd ["_law_cell", "_law_many"] spStream := by
 refine F.ok sc_l_stream (fun vs H Q E h => ?_) (fun cdv A outer s H vs Q E hr h => ?_)
 ·obtain ⟨c, mm, rfl, _⟩ := h
  rfl
 obtain ⟨c, mm, rfl, m0, m10, q⟩ := h
 refine ⟨_, (pss_cons (ps_set (i := 2) sc_l_stream.nd rfl (Or.inl rfl) (pe_lst pa_nil))
  (pss_cons (ps_if (pt_cmpR (ji0 op_ge) (L2.pvj 0) (pe_op (ji op_pow) pe_int pe_int) (nomark _)) (pss_cons (ps_set (i := 3) sc_l_stream.nd rfl (Or.inl rfl) (pe_op (ji0 op_sub) (L2.pvj 0) (pe_op (ji op_pow) pe_int pe_int)))
   (pss_cons (ps_for PassesOwn.never rfl (pi_range1 rfl B.range_ (pa_cons (L2.pvj 1) pa_nil)) (pg_name (i := 4) sc_l_stream.nd rfl (Or.inl rfl)) (pss_cons (ps_expr (pe_bm PySem.F.plainAttrs_list PySem.F.slot_list_append PySem.F.type_list_append japp (L2.pvj 2) (pa_cons (pe_op (ji op_modN) (L2.pvj 3) pe_int) pa_nil)))
    (pss_one (ps_set (i := 3) sc_l_stream.nd rfl (Or.inl rfl) (pe_op (ji op_fdivW) (L2.pvj 3) pe_int)))))
   (pss_one (ps_ret (L2.pvj 2))))) pss_nil)
  (pss_cons (ps_set (i := 5) sc_l_stream.nd rfl (Or.inl rfl) (pe_op (ji0 op_add) (pe_op (ji op_modN) (L2.pvj 0) pe_int) pe_int))
  (pss_cons (ps_for PassesOwn.never rfl (pi_range1 rfl B.range_ (pa_cons (pe_op (ji0 op_add) (L2.pvj 1) pe_int) pa_nil)) (pg_name (i := 4) sc_l_stream.nd rfl (Or.inl rfl)) (pss_cons (ps_set (i := 5) sc_l_stream.nd rfl (Or.inl rfl) (pe_op (ji op_modN) (pe_op (ji0 op_add) (pe_op (ji0 op_add) (pe_op (ji op_mulW) (L2.pvj 5) (L2.pvj 5)) (pe_op (ji op_mulW) pe_int (L2.pvj 5))) (L2.pvj 4)) pe_int))
   (pss_one (ps_expr (pe_bm PySem.F.plainAttrs_list PySem.F.slot_list_append PySem.F.type_list_append japp (L2.pvj 2) (pa_cons (L2.pvj 5) pa_nil))))))
  (pss_one (ps_ret (pe_slice jsl_list (L2.pvj 2) (po_some pe_int) po_none))))))), ?_⟩
 try dsimp only [cxOf, Cx.nox, Cx.wish]
 have p0 : (0 : Int) < 2147483647 := by decide
 have b0 : Bd 31 (2147483647 : Int) := Bd.lit
 have big : (2147483647 : Int) < 10 ^ 45 := by decide
 have bmod : ∀ z : Int, Bd 31 (z.fmod 2147483647) := fun z => by
  have h1 := Int.fmod_nonneg_of_pos z p0
  have h2 := Int.fmod_lt_of_pos z p0
  have h3 : (2147483647 : Int).natAbs < 2 ^ 31 := b0
  show (z.fmod 2147483647).natAbs < 2 ^ 31
  omega
 refine ⟨(by show 0 <= sizeLine; decide), fun l hl => ?_⟩
 refine ⟨_, rfl, _, _, rfl, rfl, ⟨by decide, by decide, by decide⟩, _, _, rfl, rfl, _, rfl, ?_⟩
 refine ite2 (fun cc => ?_) (fun cc => ?_)
 ·refine ⟨_, rfl, _, _, rfl, rfl, ⟨by decide, by decide, by decide⟩, _, _, rfl, rfl, ?_⟩
  refine ⟨_, rfl, mm, rfl, (by omega), (by omega), for_range (lo := 0) (n := mm.toNat)
   (fun i σ H2 => ∃ (xs : List Int) (rs : Int) (kk : Option V), σ = [some (.int c), some (.int mm), some (.ref l), some (.int rs), kk, none] /\ H2 = upd H l (.lst (xs.map V.int)) /\ xs.length = i /\ ∀ x ∈ xs, 0 <= x /\ x < 10 ^ 45)
   ⟨[], _, none, rfl, rfl, rfl, fun x hx => by cases hx⟩ ?_ ?_⟩
  ·rintro i σ H2 hi ⟨xs, rs, kk, rfl, rfl, hlen, hxs⟩
   refine ⟨_, rfl, .inl ⟨rfl, _, SqL.of upd_same⟩, _, rfl, _, _, rfl, rfl, (show (2147483647 : Int) ≠ 0 by decide), l, _, _, rfl, rfl, upd_same, ?_, ?_⟩
   ·rw [List.length_map]
    exact small1000 (by omega)
   refine ⟨_, rfl, _, _, rfl, rfl, ⟨(show (2147483647 : Int) ≠ 0 by decide), b0.mono (by decide)⟩, ?_⟩
   refine ⟨xs ++ [rs.fmod 2147483647], _, _, rfl, ?_, ?_, fun x hx => ?_⟩
   ·rw [upd_upd, List.map_append]
    rfl
   ·rw [List.length_append, hlen]
    rfl
   ·rcases List.mem_append.mp hx with hx | hx
    ·exact hxs x hx
    ·rw [List.mem_singleton.mp hx]
     have h2 := Int.fmod_lt_of_pos rs p0
     exact ⟨Int.fmod_nonneg_of_pos _ p0, by omega⟩
  ·rintro σ H2 ⟨xs, rs, kk, rfl, rfl, hlen, hxs⟩
   exact ⟨_, rfl, q l _ xs (same_new hl _) hl upd_same hlen hxs⟩
 ·refine ⟨_, rfl, _, _, rfl, rfl, (show (2147483647 : Int) ≠ 0 by decide), _, _, rfl, rfl, ?_⟩
  have bk : Bd 31 (48271 : Int) := Bd.lit
  have hb0 : Bd 62 (c.fmod 2147483647 + 48271) := ((bmod c).add bk).mono (by decide)
  refine ⟨_, rfl, _, _, rfl, rfl, mm + 2, rfl, (by omega), (by omega), for_range (lo := 0) (n := (mm + 2).toNat)
   (fun i σ H2 => ∃ (xs : List Int) (nh : Int) (kk : Option V), σ = [some (.int c), some (.int mm), some (.ref l), none, kk, some (.int nh)] /\ H2 = upd H l (.lst (xs.map V.int)) /\ xs.length = i /\ Bd 62 nh /\ ∀ x ∈ xs, 0 <= x /\ x < 10 ^ 45)
   ⟨[], _, none, rfl, rfl, rfl, hb0, fun x hx => by cases hx⟩ ?_ ?_⟩
  ·rintro i σ H2 hi ⟨xs, nh, kk, rfl, rfl, hlen, hnh, hxs⟩
   refine ⟨_, rfl, _, rfl, _, _, rfl, rfl, ⟨hnh.mono (by decide), hnh.mono (by decide)⟩, _, rfl, _, _, rfl, rfl, ⟨bk.mono (by decide), hnh.mono (by decide)⟩, _, _, rfl, rfl, _, rfl, _, _, rfl, rfl, _, _, rfl, rfl, (show (2147483647 : Int) ≠ 0 by decide), ?_⟩
   refine ⟨_, rfl, .inl ⟨rfl, _, SqL.of upd_same⟩, _, rfl, l, _, _, rfl, rfl, upd_same, ?_, ?_⟩
   ·rw [List.length_map]
    exact small1000 (by omega)
   refine ⟨xs ++ [(nh * nh + 48271 * nh + (0 + (i : Int))).fmod 2147483647], _, _, rfl, ?_, ?_, (bmod _).mono (by decide), fun x hx => ?_⟩
   ·rw [upd_upd, List.map_append]
    rfl
   ·rw [List.length_append, hlen]
    rfl
   ·rcases List.mem_append.mp hx with hx | hx
    ·exact hxs x hx
    ·rw [List.mem_singleton.mp hx]
     have h2 := Int.fmod_lt_of_pos (nh * nh + 48271 * nh + (0 + (i : Int))) p0
     exact ⟨Int.fmod_nonneg_of_pos _ p0, by omega⟩
  ·rintro σ H2 ⟨xs, nh, kk, rfl, rfl, hlen, hnh, hxs⟩
   refine ⟨_, rfl, _, rfl, l, _, rfl, SqL.of upd_same, fun p hp => ?_⟩
   have ec : cutV (xs.map V.int) (some 2) none = (xs.drop 2).map V.int := by
    have e1 : HT.sIx (xs.map V.int).length 0 (some 2) = min 2 (xs.map V.int).length := HT.sIx_nat _ 0 2
    unfold cutV
    rw [e1, HT.sIx_none, List.length_map, hlen, show min 2 (mm + 2).toNat = 2 by omega, <- List.map_drop, List.take_of_length_le (by rw [List.length_map, List.length_drop]; omega)]
   refine q p _ (xs.drop 2) ((same_new hl _).trans (same_new hp _)) ((same_new hl _).free hp) (upd_same.trans (by rw [ec])) (by rw [List.length_drop]; omega) fun x hx => hxs x (List.mem_of_mem_drop hx)
theorem ok_l_number {k : Nat} {f : Addr} {fd : FuncData} (F : Fun K "_law_number" "_law_number" s_l_number f fd) (B : Bl mg) : FnOk P w K mg base CX0 (k + 1) f fd ["_law_number_here"] spNum21 := by
 refine F.ok sc_l_number (fun vs H Q E h => ?_) (fun cdv A outer s H vs Q E hr h => ?_)
 ·obtain ⟨x, rfl, _⟩ := h
  rfl
 obtain ⟨x, rfl, bx, q⟩ := h
 refine ⟨_, (pss_cons (ps_if (pt_cmpR op_eq (pe_op (ji op_modN) (L2.pvj 0) pe_int) pe_int (nomark _)) (pss_one (ps_ret (pe_op (ji0 op_sub) (pe_op (ji op_modN) (pe_op (ji op_mulW) (pe_op (ji op_fdivW) (L2.pvj 0) pe_int) (pe_op (ji op_pow) pe_int pe_int)) (pe_op (ji op_pow) pe_int pe_int)) (pe_op (ji op_mulW) pe_int (pe_op (ji op_pow) pe_int pe_int))))) pss_nil)
  (pss_one (ps_ret (pe_op (ji0 op_sub) (pe_op (ji op_modN) (pe_op (ji op_fdivW) (L2.pvj 0) pe_int) pe_int) pe_int)))), ?_⟩
 try dsimp only [cxOf, Cx.nox, Cx.wish]
 have b9 : Bd 4 (9 : Int) := Bd.lit
 have b5 : Bd 4 (5 : Int) := Bd.lit
 have p20 : (0 : Int) < 10 ^ (20 : Int).toNat := by decide
 have b12 : Bd 104 ((10 : Int) ^ (12 : Int).toNat) := Bd.lit
 have b19 : Bd 130 ((10 : Int) ^ (19 : Int).toNat) := Bd.lit
 refine ⟨_, rfl, _, _, rfl, rfl, (show (9 : Int) ≠ 0 by decide), rfl, _, rfl, ?_⟩
 refine ite2 (fun c1 => ?_) (fun c1 => ?_)
 ·refine ⟨_, rfl, _, _, rfl, rfl, ⟨by decide, b9.mono (by decide)⟩, _, _, rfl, rfl, ⟨by decide, by decide, by decide⟩, _, _, rfl, rfl, ⟨(bx.fdiv _).mono (by decide), b12.mono (by decide)⟩, _, _, rfl, rfl, ⟨by decide, by decide, by decide⟩, _, _, rfl, rfl, (show (10 : Int) ^ (20 : Int).toNat ≠ 0 by decide), _, _, rfl, rfl, ⟨by decide, by decide, by decide⟩, _, _, rfl, rfl, ⟨b5.mono (by decide), b19.mono (by decide)⟩, _, _, rfl, rfl, ?_⟩
  refine q _ ?_
  have h1 := Int.fmod_nonneg_of_pos (x.fdiv 9 * 10 ^ (12 : Int).toNat) p20
  have h2 := Int.fmod_lt_of_pos (x.fdiv 9 * 10 ^ (12 : Int).toNat) p20
  have h3 : (10 : Int) ^ (20 : Int).toNat < 2 ^ 100 := by decide
  have h4 : (5 : Int) * 10 ^ (19 : Int).toNat < 2 ^ 100 := by decide
  have h5 : 0 < (5 : Int) * 10 ^ (19 : Int).toNat := by decide
  show ((x.fdiv 9 * 10 ^ (12 : Int).toNat).fmod (10 ^ (20 : Int).toNat) - 5 * 10 ^ (19 : Int).toNat).natAbs < 2 ^ 101
  omega
 ·refine ⟨_, rfl, _, _, rfl, rfl, ⟨by decide, b9.mono (by decide)⟩, _, _, rfl, rfl, (show (19 : Int) ≠ 0 by decide), _, _, rfl, rfl, ?_⟩
  refine q _ ?_
  have h1 := Int.fmod_nonneg_of_pos (x.fdiv 9) (show (0 : Int) < 19 by decide)
  have h2 := Int.fmod_lt_of_pos (x.fdiv 9) (show (0 : Int) < 19 by decide)
  have : Bd 5 ((x.fdiv 9).fmod 19 - 9) := by
   show ((x.fdiv 9).fmod 19 - 9).natAbs < 2 ^ 5
   omega
  exact this.mono (by decide)
theorem ok_l_parts {k : Nat} {f : Addr} {fd : FuncData} (F : Fun K "_law_parts" "_law_parts" s_l_parts f fd) (B : Bl mg) (c_l_stream : Fn P w K mg base "_law_stream" ["_law_cell", "_law_many"] k spStream) (c_l_number : Fn P w K mg base "_law_number" ["_law_number_here"] k spNum21) : FnOk P w K mg base CX0 (k + 1) f fd ["_law_cell", "_law_many", "_law_wide"] spParts := by
 refine F.ok sc_l_parts (fun vs H Q E h => ?_) (fun cdv A outer s H vs Q E hr h => ?_)
 ·obtain ⟨c, mm, ww, rfl, _⟩ := h
  rfl
 obtain ⟨c, mm, ww, rfl, m1, m3, w0, w3, q⟩ := h
 refine ⟨_, (pss_cons (ps_set (i := 3) sc_l_parts.nd rfl (Or.inl rfl) (pe_callF c_l_stream hr rfl (pa_cons (L2.pvj 0) (pa_cons pe_int pa_nil))))
  (pss_cons (ps_set (i := 4) sc_l_parts.nd rfl (Or.inr rfl) (pe_comp (own := ["_law_number_here"]) (caps := []) (blk_mk rfl) rfl (pi_list (L2.pvj 3)) (fun _ _ _ _ => pg_name (i := 0) (show (["_law_number_here"] : List Str).Nodup by decide +kernel) rfl (Or.inl rfl)) (fun _ _ _ _ => (pe_callF c_l_number hr rfl (pa_cons (L2.pvj 0) pa_nil)))))
  (pss_cons (ps_comp (i := 5) sc_l_parts.nd rfl rfl (own := ["_law_k"]) (caps := [(1, "_law_many"), (4, "_law_numbers")]) (blk_cap (S := defScope s_l_parts) (N := ["_law_cell", "_law_many", "_law_wide", "_law_xs", "_law_numbers", "_law_rows", "_law_nexts", "_law_push"]) rfl (by decide +kernel) rfl ⟨_, rfl⟩ rfl (by decide +kernel) (by decide +kernel)) rfl (pi_range1 rfl B.range_ (pa_cons (pe_op (ji op_modN) (pe_ix jix_list (L2.pvj 3) pe_int (fun _ _ => rfl)) pe_int) pa_nil)) (fun _ _ _ _ => pg_name (i := 0) (show (["_law_k", "_law_many", "_law_numbers"] : List Str).Nodup by decide +kernel) rfl (Or.inl rfl)) (fun _ _ _ _ => (pe_callTy (show CallR _ _ (JTup K) from jtup) rfl B.tuple_ boot_tuple_ (pa_cons (pe_slice (show SlR _ (JSlL K) from jsl_list) (L2.pvj 2) (po_some (pe_op (ji op_mulW) pe_int (L2.pvj 0))) (po_some (pe_op (ji0 op_add) (pe_op (ji0 op_add) (pe_op (ji op_mulW) pe_int (L2.pvj 0)) (L2.pvj 1)) pe_int))) pa_nil))) rfl)
  (pss_cons (ps_comp (i := 6) sc_l_parts.nd rfl rfl (own := ["_law_i"]) (caps := [(1, "_law_many"), (4, "_law_numbers")]) (blk_cap (S := defScope s_l_parts) (N := ["_law_cell", "_law_many", "_law_wide", "_law_xs", "_law_numbers", "_law_rows", "_law_nexts", "_law_push"]) rfl (by decide +kernel) rfl ⟨_, rfl⟩ rfl (by decide +kernel) (by decide +kernel)) rfl (pi_range1 rfl B.range_ (pa_cons (L2.pvj 1) pa_nil)) (fun _ _ _ _ => pg_name (i := 0) (show (["_law_i", "_law_many", "_law_numbers"] : List Str).Nodup by decide +kernel) rfl (Or.inl rfl)) (fun _ _ _ _ => (pe_slice (show SlR _ (JSlL K) from jsl_list) (L2.pvj 2) (po_some (pe_op (ji0 op_add) pe_int (pe_op (ji op_mulW) pe_int (L2.pvj 0)))) (po_some (pe_op (ji0 op_add) (pe_op (ji0 op_add) pe_int (pe_op (ji op_mulW) pe_int (L2.pvj 0))) (L2.pvj 1))))) rfl)
  (pss_cons (ps_comp (i := 7) sc_l_parts.nd rfl rfl (own := ["_law_i"]) (caps := [(2, "_law_wide"), (4, "_law_numbers")]) (blk_cap (S := defScope s_l_parts) (N := ["_law_cell", "_law_many", "_law_wide", "_law_xs", "_law_numbers", "_law_rows", "_law_nexts", "_law_push"]) rfl (by decide +kernel) rfl ⟨_, rfl⟩ rfl (by decide +kernel) (by decide +kernel)) rfl (pi_range1 rfl B.range_ (pa_cons (L2.pvj 1) pa_nil)) (fun _ _ _ _ => pg_name (i := 0) (show (["_law_i", "_law_wide", "_law_numbers"] : List Str).Nodup by decide +kernel) rfl (Or.inl rfl)) (fun _ _ _ _ => (pe_slice (show SlR _ (JSlL K) from jsl_list) (L2.pvj 2) (po_some (pe_op (ji0 op_add) pe_int (pe_op (ji op_mulW) pe_int (L2.pvj 0)))) (po_some (pe_op (ji0 op_add) (pe_op (ji0 op_add) pe_int (pe_op (ji op_mulW) pe_int (L2.pvj 0))) (L2.pvj 1))))) rfl)
  (pss_one (ps_ret (pe_lst (pa_cons (L2.pvj 5) (pa_cons (L2.pvj 6) (pa_cons (pe_slice jsl_list (L2.pvj 4) (po_some pe_int) (po_some (pe_op (ji0 op_add) pe_int (L2.pvj 1)))) (pa_cons (L2.pvj 7) (pa_cons (pe_slice jsl_list (L2.pvj 4) (po_some pe_int) (po_some (pe_op (ji0 op_add) pe_int (L2.pvj 1)))) (pa_cons (pe_op (ji0 op_add) pe_int (pe_op (ji op_modN) (pe_ix jix_list (L2.pvj 3) pe_int (fun _ _ => rfl)) pe_int)) pa_nil)))))))))))))), ?_⟩
 try dsimp only [cxOf, Cx.nox, Cx.wish]
 have b4 : Bd 4 (4 : Int) := Bd.lit
 refine ⟨_, rfl, _, 40, rfl, (by decide), (by decide), fun xa J1 xs y1 _ ex lx bx0 => ?_⟩
 have lx40 : xs.length = 40 := lx
 have bx : ∀ x ∈ xs, Bd 200 x := fun x hx => (bd45 (bx0 x hx)).mono (by decide)
 have SG1 := y1
 refine ⟨_, rfl, xa, rfl, ⟨_, SqL.of ex⟩, comp_list (K := K) (a := xa) (xs := xs.map V.int) (fun i ys σ H' => ∃ ws : List Int, ys = ws.map V.int /\ ws.length = i /\ (∀ x ∈ ws, Bd 101 x) /\ (∃ o, σ = [o]) /\ H' = J1)
  ⟨[], rfl, rfl, (fun x hx => by cases hx), ⟨none, rfl⟩, rfl⟩ (fun i ys σ H' hi ⟨ws, e1, l1, _, _, e3⟩ => ⟨by rw [e3]; exact SqL.of ex, by rw [e1, List.length_map]; omega⟩) (by rw [List.length_map, lx40]; exact Nat.le_of_lt (small1000 (by decide))) ?_ ?_⟩
 ·rintro i x ys σ H' hi ⟨ws, rfl, lw, bw, ⟨o, rfl⟩, rfl⟩
  obtain ⟨z, hz, rfl⟩ := ints_get hi
  refine ⟨_, rfl, z, rfl, bx z (List.mem_of_getElem? hz), fun y by' => ⟨ws ++ [y], (by rw [List.map_append]; rfl), (by rw [List.length_append, lw]; rfl), fun u hu => ?_, ⟨_, rfl⟩, rfl⟩⟩
  rcases List.mem_append.mp hu with hu | hu
  ·exact bw u hu
  ·rw [List.mem_singleton.mp hu]; exact by'
 rintro ys σ H' ⟨ns, rfl, ln0, bns, ⟨o, rfl⟩, hZ⟩ nu hnu
 rw [hZ] at hnu |-
 clear hZ
 have ln : ns.length = 40 := by rw [ln0, List.length_map, lx40]
 have yG2 := same_new hnu (HO.lst (ns.map V.int))
 have enu := upd_same (H := J1) (a := nu) (o := HO.lst (ns.map V.int))
 generalize hhG2 : upd J1 nu (HO.lst (ns.map V.int)) = G2 at yG2 enu |-
 have SG2 := SG1.trans yG2
 replace ex := (yG2 _ _ ex)
 have a39 : atI (xs.map V.int) (39 : Int) = some (.int (xs[39]'(by omega))) := at_ints (j := 39) _
 have k0 := Int.fmod_nonneg_of_pos (xs[39]'(by omega)) (show (0 : Int) < 3 by decide)
 have k3 := Int.fmod_lt_of_pos (xs[39]'(by omega)) (show (0 : Int) < 3 by decide)
 refine ⟨_, rfl, xa, _, _, _, rfl, rfl, SqL.of ex, a39, _, _, rfl, rfl, (show (3 : Int) ≠ 0 by decide), _, rfl, (by omega), (by omega), comp_range (lo := 0) (n := ((xs[39]'(by omega)).fmod 3).toNat)
  (fun i ys σ H' => ∃ rows : List (List Int), WaysV H' ys rows /\ rows.length = i /\ (∀ r ∈ rows, r.length = mm.toNat + 1) /\ (∃ o, σ = [o, some (.int mm), some (.ref nu)]) /\ Same G2 H')
  ⟨[], .nil, rfl, (fun r hr' => by cases hr'), ⟨none, rfl⟩, Same.refl _⟩ (fun i ys σ H' ⟨tab, ht, hl, _⟩ => by have := Paired.length ht; omega) (Nat.le_of_lt (small1000 (by omega))) ?_ ?_⟩
 ·rintro i ys σ H3 hi ⟨rows, ht, hl, htl, ⟨o, rfl⟩, sm⟩
  have bi : Bd 10 ((0 : Int) + (i : Int)) := by
   show ((0 : Int) + (i : Int)).natAbs < 2 ^ 10
   omega
  have ec : cutV (ns.map V.int) (some (4 * ((0 : Int) + (i : Int)))) (some (4 * ((0 : Int) + (i : Int)) + mm + 1)) = ((ns.drop (4 * i)).take (4 * i + mm.toNat + 1 - 4 * i)).map V.int := by
   rw [show (4 : Int) * ((0 : Int) + (i : Int)) = ((4 * i : Nat) : Int) by omega, show ((4 * i : Nat) : Int) + mm + 1 = ((4 * i + mm.toNat + 1 : Nat) : Int) by omega]
   exact cut_mid ns (by omega) (by omega)
  refine ⟨_, rfl, _, rfl, _, _, rfl, rfl, ⟨b4.mono (by decide), bi.mono (by decide)⟩, _, rfl, _, rfl, _, _, rfl, rfl, ⟨b4.mono (by decide), bi.mono (by decide)⟩, _, rfl, _, _, rfl, rfl, _, _, rfl, rfl, _, rfl, nu, _, rfl, SqL.of (sm _ _ enu), fun p hp => ?_⟩
  have z := same_new hp (HO.lst (cutV (ns.map V.int) (some (4 * ((0 : Int) + (i : Int)))) (some (4 * ((0 : Int) + (i : Int)) + mm + 1))))
  refine ⟨p, _, rfl, .inl ⟨SqL.of (upd_same.trans (by rw [ec])), fun t htt => ?_⟩⟩
  have zz := same_new htt (HO.tup (((ns.drop (4 * i)).take (4 * i + mm.toNat + 1 - 4 * i)).map V.int))
  refine ⟨rows ++ [(ns.drop (4 * i)).take (4 * i + mm.toNat + 1 - 4 * i)], paired_snoc (R := fun v (k : List Int) => Tp _ v (k.map V.int)) ⟨t, rfl, upd_same⟩ (WaysV.same (z.trans zz) ht), (by rw [List.length_append, hl]; rfl), fun r hr' => ?_, ⟨_, rfl⟩, sm.trans (z.trans zz)⟩
  rcases List.mem_append.mp hr' with hr' | hr'
  ·exact htl r hr'
  ·rw [List.mem_singleton.mp hr', mid_len (by omega) (by omega)]
   omega
 rintro rv σ J3 ⟨rows, hrv, lr, RO, ⟨o2, rfl⟩, y3⟩ ra hra
 have SG3 := SG2.trans y3
 replace ex := (y3 _ _ ex)
 replace enu := (y3 _ _ enu)
 have yG4 := same_new hra (HO.lst rv)
 have era := upd_same (H := J3) (a := ra) (o := HO.lst rv)
 generalize hhG4 : upd J3 ra (HO.lst rv) = G4 at yG4 era |-
 have SG4 := SG3.trans yG4
 replace ex := (yG4 _ _ ex)
 replace enu := (yG4 _ _ enu)
 replace hrv := (WaysV.same yG4 hrv)
 refine ⟨_, rfl, mm, rfl, (by omega), (by omega), comp_range (lo := 0) (n := mm.toNat)
  (fun i ys σ H' => ∃ tab : List (List Int), TabV H' ys tab /\ tab.length = i /\ (∀ r ∈ tab, r.length = mm.toNat /\ ∀ x ∈ r, Bd 101 x) /\ (∃ o, σ = [o, some (.int mm), some (.ref nu)]) /\ Same G4 H')
  ⟨[], .nil, rfl, (fun r hr' => by cases hr'), ⟨none, rfl⟩, Same.refl _⟩ (fun i ys σ H' ⟨tab, ht, hl, _⟩ => by have := Paired.length ht; omega) (Nat.le_of_lt (small1000 (by omega))) ?_ ?_⟩
 ·rintro i ys σ H' hi ⟨tab, ht, hl, htl, ⟨o, rfl⟩, sm⟩
  have bi : Bd 10 ((0 : Int) + (i : Int)) := by
   show ((0 : Int) + (i : Int)).natAbs < 2 ^ 10
   omega
  have bg : Bd 10 (3 : Int) := Bd.lit
  have ec : cutV (ns.map V.int) (some (8 + 3 * ((0 : Int) + (i : Int)))) (some (8 + 3 * ((0 : Int) + (i : Int)) + mm)) = ((ns.drop (8 + 3 * i)).take (8 + 3 * i + mm.toNat - (8 + 3 * i))).map V.int := by
   rw [show (8 : Int) + 3 * ((0 : Int) + (i : Int)) = ((8 + 3 * i : Nat) : Int) by omega, show ((8 + 3 * i : Nat) : Int) + mm = ((8 + 3 * i + mm.toNat : Nat) : Int) by omega]
   exact cut_mid ns (by omega) (by omega)
  refine ⟨_, rfl, _, rfl, _, _, rfl, rfl, ⟨bg.mono (by decide), bi.mono (by decide)⟩, _, _, rfl, rfl, _, rfl, _, rfl, _, _, rfl, rfl, ⟨bg.mono (by decide), bi.mono (by decide)⟩, _, _, rfl, rfl, _, rfl, _, _, rfl, rfl, _, rfl, nu, _, rfl, SqL.of (sm _ _ enu), fun p hp => ?_⟩
  have z := same_new hp (HO.lst (cutV (ns.map V.int) (some (8 + 3 * ((0 : Int) + (i : Int)))) (some (8 + 3 * ((0 : Int) + (i : Int)) + mm))))
  refine ⟨tab ++ [(ns.drop (8 + 3 * i)).take (8 + 3 * i + mm.toNat - (8 + 3 * i))], paired_snoc (R := LstI _) ⟨p, rfl, upd_same.trans (by rw [ec])⟩ (ht.same z), (by rw [List.length_append, hl]; rfl), fun r hr' => ?_, ⟨_, rfl⟩, sm.trans z⟩
  rcases List.mem_append.mp hr' with hr' | hr'
  ·exact htl r hr'
  ·rw [List.mem_singleton.mp hr', mid_len (by omega) (by omega)]
   exact ⟨by omega, mid_bd bns⟩
 rintro tn σ J4 ⟨tN, htn, ltN, otN, ⟨o1, rfl⟩, y4⟩ na hna
 have SG5 := SG4.trans y4
 replace ex := (y4 _ _ ex)
 replace enu := (y4 _ _ enu)
 replace hrv := (WaysV.same y4 hrv)
 replace era := (y4 _ _ era)
 have yG6 := same_new hna (HO.lst tn)
 have ena := upd_same (H := J4) (a := na) (o := HO.lst tn)
 generalize hhG6 : upd J4 na (HO.lst tn) = G6 at yG6 ena |-
 have SG6 := SG5.trans yG6
 replace ex := (yG6 _ _ ex)
 replace enu := (yG6 _ _ enu)
 replace hrv := (WaysV.same yG6 hrv)
 replace era := (yG6 _ _ era)
 replace htn := (TabV.same yG6 htn)
 refine ⟨_, rfl, mm, rfl, (by omega), (by omega), comp_range (lo := 0) (n := mm.toNat)
  (fun i ys σ H' => ∃ tab : List (List Int), TabV H' ys tab /\ tab.length = i /\ (∀ r ∈ tab, r.length = ww.toNat /\ ∀ x ∈ r, Bd 101 x) /\ (∃ o, σ = [o, some (.int ww), some (.ref nu)]) /\ Same G6 H')
  ⟨[], .nil, rfl, (fun r hr' => by cases hr'), ⟨none, rfl⟩, Same.refl _⟩ (fun i ys σ H' ⟨tab, ht, hl, _⟩ => by have := Paired.length ht; omega) (Nat.le_of_lt (small1000 (by omega))) ?_ ?_⟩
 ·rintro i ys σ H' hi ⟨tab, ht, hl, htl, ⟨o, rfl⟩, sm⟩
  have bi : Bd 10 ((0 : Int) + (i : Int)) := by
   show ((0 : Int) + (i : Int)).natAbs < 2 ^ 10
   omega
  have bg : Bd 10 (3 : Int) := Bd.lit
  have ec : cutV (ns.map V.int) (some (20 + 3 * ((0 : Int) + (i : Int)))) (some (20 + 3 * ((0 : Int) + (i : Int)) + ww)) = ((ns.drop (20 + 3 * i)).take (20 + 3 * i + ww.toNat - (20 + 3 * i))).map V.int := by
   rw [show (20 : Int) + 3 * ((0 : Int) + (i : Int)) = ((20 + 3 * i : Nat) : Int) by omega, show ((20 + 3 * i : Nat) : Int) + ww = ((20 + 3 * i + ww.toNat : Nat) : Int) by omega]
   exact cut_mid ns (by omega) (by omega)
  refine ⟨_, rfl, _, rfl, _, _, rfl, rfl, ⟨bg.mono (by decide), bi.mono (by decide)⟩, _, _, rfl, rfl, _, rfl, _, rfl, _, _, rfl, rfl, ⟨bg.mono (by decide), bi.mono (by decide)⟩, _, _, rfl, rfl, _, rfl, _, _, rfl, rfl, _, rfl, nu, _, rfl, SqL.of (sm _ _ enu), fun p hp => ?_⟩
  have z := same_new hp (HO.lst (cutV (ns.map V.int) (some (20 + 3 * ((0 : Int) + (i : Int)))) (some (20 + 3 * ((0 : Int) + (i : Int)) + ww))))
  refine ⟨tab ++ [(ns.drop (20 + 3 * i)).take (20 + 3 * i + ww.toNat - (20 + 3 * i))], paired_snoc (R := LstI _) ⟨p, rfl, upd_same.trans (by rw [ec])⟩ (ht.same z), (by rw [List.length_append, hl]; rfl), fun r hr' => ?_, ⟨_, rfl⟩, sm.trans z⟩
  rcases List.mem_append.mp hr' with hr' | hr'
  ·exact htl r hr'
  ·rw [List.mem_singleton.mp hr', mid_len (by omega) (by omega)]
   exact ⟨by omega, mid_bd bns⟩
 rintro tp σ J5 ⟨tP, htp, ltP, otP, ⟨o1, rfl⟩, y5⟩ pa hpa
 have SG7 := SG6.trans y5
 replace ex := (y5 _ _ ex)
 replace enu := (y5 _ _ enu)
 replace hrv := (WaysV.same y5 hrv)
 replace era := (y5 _ _ era)
 replace htn := (TabV.same y5 htn)
 replace ena := (y5 _ _ ena)
 have yG8 := same_new hpa (HO.lst tp)
 have epa := upd_same (H := J5) (a := pa) (o := HO.lst tp)
 generalize hhG8 : upd J5 pa (HO.lst tp) = G8 at yG8 epa |-
 have SG8 := SG7.trans yG8
 replace ex := (yG8 _ _ ex)
 replace enu := (yG8 _ _ enu)
 replace hrv := (WaysV.same yG8 hrv)
 replace era := (yG8 _ _ era)
 replace htn := (TabV.same yG8 htn)
 replace ena := (yG8 _ _ ena)
 replace htp := (TabV.same yG8 htp)
 have ecS : cutV (ns.map V.int) (some 17) (some (17 + mm)) = ((ns.drop 17).take (17 + mm.toNat - 17)).map V.int := by
  rw [show (17 : Int) = ((17 : Nat) : Int) from rfl, show ((17 : Nat) : Int) + mm = ((17 + mm.toNat : Nat) : Int) by omega]
  exact cut_mid ns (by omega) (by omega)
 have ecA : cutV (ns.map V.int) (some 30) (some (30 + mm)) = ((ns.drop 30).take (30 + mm.toNat - 30)).map V.int := by
  rw [show (30 : Int) = ((30 : Nat) : Int) from rfl, show ((30 : Nat) : Int) + mm = ((30 + mm.toNat : Nat) : Int) by omega]
  exact cut_mid ns (by omega) (by omega)
 refine ⟨_, rfl, _, rfl, _, rfl, _, rfl, _, rfl, _, _, rfl, rfl, _, rfl, nu, _, rfl, SqL.of enu, fun sa hsa => ?_⟩
 rw [ecS]
 have yG9 := same_new hsa (HO.lst (((ns.drop 17).take (17 + mm.toNat - 17)).map V.int))
 have esa := upd_same (H := G8) (a := sa) (o := HO.lst (((ns.drop 17).take (17 + mm.toNat - 17)).map V.int))
 generalize hhG9 : upd G8 sa (HO.lst (((ns.drop 17).take (17 + mm.toNat - 17)).map V.int)) = G9 at yG9 esa |-
 have SG9 := SG8.trans yG9
 replace ex := (yG9 _ _ ex)
 replace enu := (yG9 _ _ enu)
 replace hrv := (WaysV.same yG9 hrv)
 replace era := (yG9 _ _ era)
 replace htn := (TabV.same yG9 htn)
 replace ena := (yG9 _ _ ena)
 replace htp := (TabV.same yG9 htp)
 replace epa := (yG9 _ _ epa)
 refine ⟨_, rfl, _, rfl, _, rfl, _, rfl, _, _, rfl, rfl, _, rfl, nu, _, rfl, SqL.of enu, fun aa haa => ?_⟩
 rw [ecA]
 have yG10 := same_new haa (HO.lst (((ns.drop 30).take (30 + mm.toNat - 30)).map V.int))
 have eaa := upd_same (H := G9) (a := aa) (o := HO.lst (((ns.drop 30).take (30 + mm.toNat - 30)).map V.int))
 generalize hhG10 : upd G9 aa (HO.lst (((ns.drop 30).take (30 + mm.toNat - 30)).map V.int)) = G10 at yG10 eaa |-
 have SG10 := SG9.trans yG10
 replace ex := (yG10 _ _ ex)
 replace enu := (yG10 _ _ enu)
 replace hrv := (WaysV.same yG10 hrv)
 replace era := (yG10 _ _ era)
 replace htn := (TabV.same yG10 htn)
 replace ena := (yG10 _ _ ena)
 replace htp := (TabV.same yG10 htp)
 replace epa := (yG10 _ _ epa)
 replace esa := (yG10 _ _ esa)
 have a38 : atI (xs.map V.int) (38 : Int) = some (.int (xs[38]'(by omega))) := at_ints (j := 38) _
 have d0 := Int.fmod_nonneg_of_pos (xs[38]'(by omega)) (show (0 : Int) < 9 by decide)
 have d9 := Int.fmod_lt_of_pos (xs[38]'(by omega)) (show (0 : Int) < 9 by decide)
 refine ⟨_, rfl, xa, _, _, _, rfl, rfl, SqL.of ex, a38, _, _, rfl, rfl, (show (9 : Int) ≠ 0 by decide), _, _, rfl, rfl, (by show 6 <= sizeLine; decide), fun pl hpl => ?_⟩
 generalize (xs[38]'(by omega)).fmod 9 = dv at d0 d9 |-
 have yG11 := same_new hpl (HO.lst [V.ref ra, V.ref na, V.ref sa, V.ref pa, V.ref aa, V.int (1 + dv)])
 have epl := upd_same (H := G10) (a := pl) (o := HO.lst [V.ref ra, V.ref na, V.ref sa, V.ref pa, V.ref aa, V.int (1 + dv)])
 generalize hhG11 : upd G10 pl (HO.lst [V.ref ra, V.ref na, V.ref sa, V.ref pa, V.ref aa, V.int (1 + dv)]) = G11 at yG11 epl |-
 have SG11 := SG10.trans yG11
 replace ex := (yG11 _ _ ex)
 replace enu := (yG11 _ _ enu)
 replace hrv := (WaysV.same yG11 hrv)
 replace era := (yG11 _ _ era)
 replace htn := (TabV.same yG11 htn)
 replace ena := (yG11 _ _ ena)
 replace htp := (TabV.same yG11 htp)
 replace epa := (yG11 _ _ epa)
 replace esa := (yG11 _ _ esa)
 replace eaa := (yG11 _ _ eaa)
 have l1 : ((ns.drop 17).take (17 + mm.toNat - 17)).length = mm.toNat := by rw [mid_len (by omega) (by omega)]; omega
 have l2 : ((ns.drop 30).take (30 + mm.toNat - 30)).length = mm.toNat := by rw [mid_len (by omega) (by omega)]; omega
 refine q (.ref pl) ⟨rows, tN, (ns.drop 17).take (17 + mm.toNat - 17), tP, (ns.drop 30).take (30 + mm.toNat - 30), 1 + dv⟩ _ SG11 ⟨pl, ra, na, sa, pa, aa, rv, tn, tp, rfl, epl, ⟨era, hrv, ena, htn, esa, epa, htp, eaa⟩⟩
  ⟨RO, (by show rows.length <= 900; omega), ⟨ltN, fun r hr => (otN r hr).1⟩, l1, ⟨ltP, fun r hr => (otP r hr).1⟩, l2, (by show 1 <= 1 + dv; omega), (by omega), (by omega)⟩
  ⟨fun r hr x hx => ((otN r hr).2 x hx).mono (by decide), fun x hx => (mid_bd bns x hx).mono (by decide), fun r hr x hx => ((otP r hr).2 x hx).mono (by decide), fun x hx => (mid_bd bns x hx).mono (by decide), ?_, (by show rows.length <= 100; omega)⟩
 have : Bd 5 (1 + dv) := by
  show (1 + dv).natAbs < 2 ^ 5
  omega
 exact this.mono (by decide)
theorem ok_l_straight {k : Nat} {f : Addr} {fd : FuncData} (F : Fun K "_law_straight" "_law_straight" s_l_straight f fd) (B : Bl mg) (c_l_stream : Fn P w K mg base "_law_stream" ["_law_cell", "_law_many"] (k + 1) spStream) (c_Straight___init__ : FnCD P w K mg base aStraight ["self", "numbers", "add", "divisor"] k (spStraightInit aStraight) (.int 1)) (c_l_number : Fn P w K mg base "_law_number" ["_law_number_here"] (k + 1) spNum21) : FnOk P w K mg base CX0 (k + 1 + 1) f fd ["_law_cell", "_law_many"] (spStraightL aStraight) := by
 refine F.ok sc_l_straight (fun vs H Q E h => ?_) (fun cdv A outer s H vs Q E hr h => ?_)
 ·obtain ⟨c, mm, rfl, _⟩ := h
  rfl
 obtain ⟨c, mm, rfl, m1, m3, q⟩ := h
 refine ⟨_, (pss_cons (ps_set (i := 2) sc_l_straight.nd rfl (Or.inl rfl) (pe_callF c_l_stream hr rfl (pa_cons (L2.pvj 0) (pa_cons pe_int pa_nil))))
  (pss_one (ps_ret (pe_makeF c_Straight___init__.fn TStraight hr rfl (pa_cons (pe_comp (own := ["_law_number_here"]) (caps := []) (blk_mk rfl) rfl (pi_list (pe_slice jsl_list (L2.pvj 2) po_none (po_some (L2.pvj 1)))) (fun _ _ _ _ => pg_name (i := 0) (show (["_law_number_here"] : List Str).Nodup by decide +kernel) rfl (Or.inl rfl)) (fun _ _ _ _ => (pe_callF c_l_number hr rfl (pa_cons (L2.pvj 0) pa_nil)))) (pa_cons (pe_callF c_l_number hr rfl (pa_cons (pe_ix jix_list (L2.pvj 2) pe_int (fun _ _ => rfl)) pa_nil)) (pa_cons (pe_op (ji0 op_add) pe_int (pe_op (ji op_modN) (pe_ix jix_list (L2.pvj 2) pe_int (fun _ _ => rfl)) pe_int)) pa_nil))))))), ?_⟩
 try dsimp only [cxOf, Cx.nox, Cx.wish]
 refine ⟨_, rfl, _, 5, rfl, (by decide), (by decide), fun xa H1 xs s1 xn ex lx bx => ?_⟩
 have lx5 : xs.length = 5 := lx
 have a3 : atI (xs.map V.int) (3 : Int) = some (.int (xs[3]'(by omega))) := at_ints (j := 3) _
 have a4 : atI (xs.map V.int) (4 : Int) = some (.int (xs[4]'(by omega))) := at_ints (j := 4) _
 have v0 := Int.fmod_nonneg_of_pos (xs[4]'(by omega)) (show (0 : Int) < 9 by decide)
 have v1 := Int.fmod_lt_of_pos (xs[4]'(by omega)) (show (0 : Int) < 9 by decide)
 refine ⟨_, rfl, _, rfl, _, rfl, xa, _, rfl, SqL.of ex, fun p hp => ?_⟩
 have ec : cutV (xs.map V.int) none (some mm) = (xs.take mm.toNat).map V.int := by
  rw [show mm = ((mm.toNat : Nat) : Int) by omega]
  exact cut_to xs (by omega)
 have zp := same_new hp (HO.lst (cutV (xs.map V.int) none (some mm)))
 have ep : upd H1 p (HO.lst (cutV (xs.map V.int) none (some mm))) p = some (.lst ((xs.take mm.toNat).map V.int)) := upd_same.trans (by rw [ec])
 obtain ⟨Hp1, hHp1⟩ : ∃ Hp1, Hp1 = upd H1 p (HO.lst (cutV (xs.map V.int) none (some mm))) := ⟨_, rfl⟩
 rw [<- hHp1] at zp ep |-
 refine ⟨p, rfl, ⟨_, SqL.of ep⟩, comp_list (K := K) (a := p) (xs := (xs.take mm.toNat).map V.int) (fun i ys σ H' => ∃ ws : List Int, ys = ws.map V.int /\ ws.length = i /\ (∀ x ∈ ws, Bd 101 x) /\ (∃ o, σ = [o]) /\ H' = Hp1)
  ⟨[], rfl, rfl, (fun x hx => by cases hx), ⟨none, rfl⟩, rfl⟩ (fun i ys σ H' hi ⟨ws, e1, l1, _, _, e3⟩ => ⟨by rw [e3]; exact SqL.of ep, by rw [e1, List.length_map]; omega⟩) (by rw [List.length_map, List.length_take]; exact Nat.le_of_lt (small1000 (by omega))) ?_ ?_⟩
 ·rintro i x ys σ H' hi ⟨ws, rfl, lw, bw, ⟨o, rfl⟩, rfl⟩
  obtain ⟨z, hz, rfl⟩ := ints_get hi
  refine ⟨_, rfl, z, rfl, (bd45 (bx z (List.mem_of_mem_take (List.mem_of_getElem? hz)))).mono (by decide), fun y by' => ⟨ws ++ [y], (by rw [List.map_append]; rfl), (by rw [List.length_append, lw]; rfl), fun u hu => ?_, ⟨_, rfl⟩, rfl⟩⟩
  rcases List.mem_append.mp hu with hu | hu
  ·exact bw u hu
  ·rw [List.mem_singleton.mp hu]; exact by'
 rintro ys σ H' ⟨ws, rfl, lws0, bws, ⟨o, rfl⟩, rfl⟩ cl hcl
 have lws : ws.length = mm.toNat := by rw [lws0, List.length_map, List.length_take]; omega
 have zc := same_new hcl (HO.lst (ws.map V.int))
 have ecl := upd_same (H := H') (a := cl) (o := HO.lst (ws.map V.int))
 obtain ⟨Hn, hHn⟩ : ∃ Hn, Hn = upd H' cl (HO.lst (ws.map V.int)) := ⟨_, rfl⟩
 rw [<- hHn] at zc ecl |-
 have zn := zp.trans zc
 refine ⟨_, rfl, xa, _, _, _, rfl, rfl, SqL.of (zn _ _ ex), a3, _, rfl, (bd45 (bx _ (List.getElem_mem _))).mono (by decide), fun y by' => ?_⟩
 refine ⟨_, rfl, xa, _, _, _, rfl, rfl, SqL.of (zn _ _ ex), a4, _, _, rfl, rfl, (show (9 : Int) ≠ 0 by decide), _, _, rfl, rfl, fun x dx hx hdx ne => ?_⟩
 have zx := same_make hx hdx ne (HO.own x) (HO.ins aStraight dx [])
 have ex0 := upd_same (H := upd (Hn) dx (HO.own x)) (a := x) (o := HO.ins aStraight dx [])
 obtain ⟨HX, hHX⟩ : ∃ HX, HX = upd (upd (Hn) dx (HO.own x)) x (HO.ins aStraight dx []) := ⟨_, rfl⟩
 rw [<- hHX] at zx ex0 |-
 refine ⟨x, dx, cl, ws, y, 1 + (xs[4]'(by omega)).fmod 9, rfl, ex0, zx _ _ ecl, (by omega), fun lc H5 sb fl eo elc => ⟨rfl, ?_⟩⟩
 have s5 := same_but zx sb hx
 refine q x dx lc ⟨ws, y, 1 + (xs[4]'(by omega)).fmod 9⟩ H5 (s1.trans (zn.trans s5)) ⟨eo, elc⟩ bws by' ?_ lws (by show 0 < 1 + _; omega)
 show (1 + (xs[4]'(by omega)).fmod 9).natAbs < 2 ^ 31
 omega
theorem ok_l_rule {k : Nat} {f : Addr} {fd : FuncData} (F : Fun K "_law_rule" "_law_rule" s_l_rule f fd) (B : Bl mg) (c_l_straight : Fn P w K mg base "_law_straight" ["_law_cell", "_law_many"] (k + 1) (spStraightL aStraight)) (c_l_cell_at : Fn P w K mg base "_law_cell_at" ["_law_script", "_law_k"] (k + 1) (spCell K)) (c_l_stream : Fn P w K mg base "_law_stream" ["_law_cell", "_law_many"] (k + 1) spStream) (c_Stopped___init__ : FnC P w K mg base aStopped ["self", "rule", "low", "high"] k (spStoppedInit aStopped)) (c_l_number : Fn P w K mg base "_law_number" ["_law_number_here"] (k + 1) spNum21) (c_Parted___init__ : FnC P w K mg base aParted ["self", "row", "rule", "other"] k (spPartedInit aParted)) : FnOk P w K mg base CX0 (k + 1 + 1) f fd ["_law_cells", "_law_many"] (spRuleT32 aStraight aStopped aParted K) := by
 refine F.ok sc_l_rule (fun vs H Q E h => ?_) (fun cdv A outer s H vs Q E hr h => ?_)
 ·obtain ⟨ca, cs, mm, rfl, _⟩ := h
  rfl
 obtain ⟨ca, cs, mm, rfl, hca, c4, m1, m3, q⟩ := h
 refine ⟨_, (pss_cons (ps_set (i := 2) sc_l_rule.nd rfl (Or.inl rfl) (pe_callF c_l_straight hr rfl (pa_cons (pe_callF c_l_cell_at hr rfl (pa_cons (L2.pvj 0) (pa_cons pe_int pa_nil))) (pa_cons (L2.pvj 1) pa_nil))))
  (pss_cons (ps_for PassesOwn.never rfl (pi_range2 rfl B.range_ (pa_cons pe_int (pa_cons (pe_callB jlen rfl B.len_ boot_len_ (pa_cons (L2.pvj 0) pa_nil)) pa_nil))) (pg_name (i := 3) sc_l_rule.nd rfl (Or.inl rfl)) (pss_cons (ps_set (i := 4) sc_l_rule.nd rfl (Or.inl rfl) (pe_callF c_l_stream hr rfl (pa_cons (pe_ix jix_list (L2.pvj 0) (L2.pvj 3) (fun _ _ => rfl)) (pa_cons pe_int pa_nil))))
   (pss_one (ps_if (PW.pt (pw_and (pt_cmpR op_eq (pe_op (ji op_modN) (pe_ix jix_list (L2.pvj 4) pe_int (fun _ _ => rfl)) pe_int) pe_int (nomark _)) (pw_and1 (pt_cmpR (ji0 op_lt) (L2.pvj 3) pe_int (nomark _))))) (pss_one (ps_set (i := 2) sc_l_rule.nd rfl (Or.inl rfl) (pe_makeF c_Stopped___init__ TStopped hr rfl (pa_cons (L2.pvj 2) (pa_cons (pe_op (ji0 op_sub) (pe_op (ji op_modN) (pe_ix jix_list (L2.pvj 4) pe_int (fun _ _ => rfl)) pe_int) pe_int) (pa_cons (pe_op (ji op_modN) (pe_ix jix_list (L2.pvj 4) pe_int (fun _ _ => rfl)) pe_int) pa_nil)))))) (pss_cons (ps_set (i := 5) sc_l_rule.nd rfl (Or.inl rfl) (pe_callF c_l_straight hr rfl (pa_cons (pe_op (ji op_fdivW) (pe_ix jix_list (L2.pvj 0) (L2.pvj 3) (fun _ _ => rfl)) pe_int) (pa_cons (L2.pvj 1) pa_nil))))
    (pss_cons (ps_set (i := 6) sc_l_rule.nd rfl (Or.inl rfl) (pe_callTy jtup rfl B.tuple_ boot_tuple_ (pa_cons (pe_comp (own := ["_law_number_here"]) (caps := []) (blk_mk rfl) rfl (pi_list (pe_slice jsl_list (L2.pvj 4) po_none (po_some (pe_op (ji0 op_add) (L2.pvj 1) pe_int)))) (fun _ _ _ _ => pg_name (i := 0) (show (["_law_number_here"] : List Str).Nodup by decide +kernel) rfl (Or.inl rfl)) (fun _ _ _ _ => (pe_callF c_l_number hr rfl (pa_cons (L2.pvj 0) pa_nil)))) pa_nil)))
    (pss_one (ps_set (i := 2) sc_l_rule.nd rfl (Or.inl rfl) (pe_makeF c_Parted___init__ TParted hr rfl (pa_cons (L2.pvj 6) (pa_cons (pe_ix jix_list (pe_lst (pa_cons (L2.pvj 2) (pa_cons (L2.pvj 5) pa_nil))) (pe_op (ji op_modN) (pe_ix jix_list (L2.pvj 4) pe_int (fun _ _ => rfl)) pe_int) (fun _ _ => rfl)) (pa_cons (pe_ix jix_list (pe_lst (pa_cons (L2.pvj 5) (pa_cons (L2.pvj 2) pa_nil))) (pe_op (ji op_modN) (pe_ix jix_list (L2.pvj 4) pe_int (fun _ _ => rfl)) pe_int) (fun _ _ => rfl)) pa_nil))))))))))))
  (pss_one (ps_ret (L2.pvj 2))))), ?_⟩
 try dsimp only [cxOf, Cx.nox, Cx.wish]
 refine ⟨_, rfl, ca, cs, 0, rfl, hca, (by decide), _, rfl, _, mm, rfl, m1, m3, fun so0 dx0 la0 l0 H1 s1 sa0 bn0 ba0 bd0 ll0 ld0 => ?_⟩
 refine ⟨_, rfl, ca, _, rfl, .inl (s1.seq hca), 1, ((cs.map V.int).length : Int), rfl, ⟨by decide, by decide, by rw [List.length_map]; omega, by rw [List.length_map]; omega⟩, for_range (lo := 1) (n := (((cs.map V.int).length : Int) - 1).toNat)
  (fun i σ H' => ∃ (v : V) (t : RT) (o3 o4 o5 o6 : Option V), σ = [some (.ref ca), some (.int mm), some v, o3, o4, o5, o6] /\ Same H1 H' /\ RuleV aStraight aStopped aParted H' v t /\ TrF t /\ ShOk mm.toNat t /\ t.dep <= i + 1 /\ countM t <= (if i = 0 then 1 else if i = 1 then 3 else if i = 2 then 9 else 10))
  ⟨.ref so0, .str l0.ns l0.a l0.d, none, none, none, none, rfl, Same.refl _, ⟨so0, dx0, la0, rfl, sa0.ins, sa0.ns⟩, ⟨bn0, ba0, bd0⟩, ⟨ll0, ld0⟩, Nat.le_refl _, Nat.le_refl _⟩ ?_ ?_⟩
 ·rintro i σ H' hi ⟨v, t, o3, o4, o5, o6, rfl, sm, rv, tf, sh, dpt, hc⟩
  rw [List.length_map] at hi
  have i3 : i < 3 := by omega
  have hcs : cs[1 + i]? = some (cs[1 + i]'(by omega)) := List.getElem?_eq_getElem _
  have ac : atI (cs.map V.int) (1 + (i : Int)) = some (.int (cs[1 + i]'(by omega))) := by
   rw [show (1 : Int) + (i : Int) = ((1 + i : Nat) : Int) by omega]
   exact atI_nat (by rw [List.getElem?_map, hcs]; rfl)
  refine ⟨_, rfl, _, rfl, ca, _, _, _, rfl, rfl, (s1.trans sm).seq hca, ac, _, 5, rfl, (by decide), (by decide), fun xa H4 xs s4 xn ex lx bx => ?_⟩
  have lx5 : xs.length = 5 := lx
  have a0 : atI (xs.map V.int) (0 : Int) = some (.int (xs[0]'(by omega))) := at_ints (j := 0) _
  have a1 : atI (xs.map V.int) (1 : Int) = some (.int (xs[1]'(by omega))) := at_ints (j := 1) _
  have a4 : atI (xs.map V.int) (4 : Int) = some (.int (xs[4]'(by omega))) := at_ints (j := 4) _
  refine ⟨_, rfl, xa, _, _, _, rfl, rfl, SqL.of ex, a4, _, _, rfl, rfl, (show (3 : Int) ≠ 0 by decide), rfl, _, rfl, ?_⟩
  by_cases c1 : (xs[4]'(by omega)).fmod 3 = 0
  ·refine iteB1 (dec_yes c1) ?_
   refine ⟨_, rfl, _, _, rfl, rfl, _, rfl, ?_⟩
   by_cases c2 : (1 : Int) + (i : Int) < 3
   ·refine iteB1 (decide_eq_true c2) ?_
    replace hc : 3 * countM t <= (if i + 1 = 0 then 1 else if i + 1 = 1 then 3 else if i + 1 = 2 then 9 else 10) := by
     rcases (show i = 0 \/ i = 1 by omega) with e | e
     ·subst e
      have : countM t <= 1 := hc
      show _ <= 3
      omega
     ·subst e
      have : countM t <= 3 := hc
      show _ <= 9
      omega
    have h1 := Int.fmod_nonneg_of_pos (xs[0]'(by omega)) (show (0 : Int) < 9 by decide)
    have h2 := Int.fmod_lt_of_pos (xs[0]'(by omega)) (show (0 : Int) < 9 by decide)
    have h3 := Int.fmod_nonneg_of_pos (xs[1]'(by omega)) (show (0 : Int) < 9 by decide)
    have h4 := Int.fmod_lt_of_pos (xs[1]'(by omega)) (show (0 : Int) < 9 by decide)
    refine ⟨_, rfl, _, rfl, xa, _, _, _, rfl, rfl, SqL.of ex, a0, _, _, rfl, rfl, (show (9 : Int) ≠ 0 by decide), _, _, rfl, rfl, _, rfl, xa, _, _, _, rfl, rfl, SqL.of ex, a1, _, _, rfl, rfl, (show (9 : Int) ≠ 0 by decide), fun x dx hx hdx ne => ?_⟩
    generalize (xs[0]'(by omega)).fmod 9 = u0 at h1 h2 |-
    generalize (xs[1]'(by omega)).fmod 9 = u1 at h3 h4 |-
    have zx := same_make hx hdx ne (HO.own x) (HO.ins aStopped dx [])
    have ex0 := upd_same (H := upd (H4) dx (HO.own x)) (a := x) (o := HO.ins aStopped dx [])
    obtain ⟨HX, hHX⟩ : ∃ HX, HX = upd (upd (H4) dx (HO.own x)) x (HO.ins aStopped dx []) := ⟨_, rfl⟩
    rw [<- hHX] at zx ex0 |-
    refine ⟨x, dx, v, u0 - 9, u1, rfl, ex0, fun H9 sb eo => ⟨rfl, ?_⟩⟩
    have sX := same_but zx sb hx
    have bu : ∀ z : Int, -9 <= z -> z < 9 -> Bd 220 z := fun z a b => by
     have : Bd 5 z := by
      show z.natAbs < 2 ^ 5
      omega
     exact this.mono (by decide)
    refine ⟨.ref x, .stp t (u0 - 9) u1, _, _, _, _, rfl, sm.trans (s4.trans sX), ⟨x, dx, v, rfl, eo, (rv.same s4).same sX⟩, ⟨tf, bu _ (by omega) (by omega), bu _ (by omega) (by omega)⟩, ⟨sh, by omega⟩, ?_, ?_⟩
    ·show t.dep + 1 <= _
     omega
    ·show 3 * countM t <= _
     omega
   ·refine iteB0 (decide_eq_false c2) ?_
    replace hc : countM t + 1 <= (if i + 1 = 0 then 1 else if i + 1 = 1 then 3 else if i + 1 = 2 then 9 else 10) := by
     rcases (show i = 0 \/ i = 1 \/ i = 2 by omega) with e | e | e
     ·subst e
      have : countM t <= 1 := hc
      show _ <= 3
      omega
     ·subst e
      have : countM t <= 3 := hc
      show _ <= 9
      omega
     ·subst e
      have : countM t <= 9 := hc
      show _ <= 10
      omega
    have b7 : Bd 4 (7 : Int) := Bd.lit
    refine ⟨_, rfl, _, rfl, ca, _, _, _, rfl, rfl, (s1.trans (sm.trans s4)).seq hca, ac, _, _, rfl, rfl, ⟨by decide, b7.mono (by decide)⟩, _, rfl, _, mm, rfl, m1, m3, fun so1 dx1 la1 l1 H5 s5 sa1 bn1 ba1 bd1 ll1 ld1 => ?_⟩
    have ex5 := s5 _ _ ex
    refine ⟨_, rfl, _, rfl, _, _, rfl, rfl, _, rfl, xa, _, rfl, SqL.of ex5, fun p hp => ?_⟩
    have ec : cutV (xs.map V.int) none (some (mm + 1)) = (xs.take (mm + 1).toNat).map V.int := by
     rw [show mm + 1 = (((mm + 1).toNat : Nat) : Int) by omega]
     exact cut_to xs (by omega)
    have zp := same_new hp (HO.lst (cutV (xs.map V.int) none (some (mm + 1))))
    have ep : upd H5 p (HO.lst (cutV (xs.map V.int) none (some (mm + 1)))) p = some (.lst ((xs.take (mm + 1).toNat).map V.int)) := upd_same.trans (by rw [ec])
    obtain ⟨Hp1, hHp1⟩ : ∃ Hp1, Hp1 = upd H5 p (HO.lst (cutV (xs.map V.int) none (some (mm + 1)))) := ⟨_, rfl⟩
    rw [<- hHp1] at zp ep |-
    refine ⟨p, rfl, ⟨_, SqL.of ep⟩, comp_list (K := K) (a := p) (xs := (xs.take (mm + 1).toNat).map V.int) (fun i ys σ H' => ∃ ws : List Int, ys = ws.map V.int /\ ws.length = i /\ (∀ x ∈ ws, Bd 101 x) /\ (∃ o, σ = [o]) /\ H' = Hp1)
     ⟨[], rfl, rfl, (fun x hx => by cases hx), ⟨none, rfl⟩, rfl⟩ (fun i ys σ H' hi ⟨ws, e1, l1, _, _, e3⟩ => ⟨by rw [e3]; exact SqL.of ep, by rw [e1, List.length_map]; omega⟩) (by rw [List.length_map, List.length_take]; exact Nat.le_of_lt (small1000 (by omega))) ?_ ?_⟩
    ·rintro i x ys σ H' hi ⟨ws, rfl, lw, bw, ⟨o, rfl⟩, rfl⟩
     obtain ⟨z, hz, rfl⟩ := ints_get hi
     refine ⟨_, rfl, z, rfl, (bd45 (bx z (List.mem_of_mem_take (List.mem_of_getElem? hz)))).mono (by decide), fun y by' => ⟨ws ++ [y], (by rw [List.map_append]; rfl), (by rw [List.length_append, lw]; rfl), fun u hu => ?_, ⟨_, rfl⟩, rfl⟩⟩
     rcases List.mem_append.mp hu with hu | hu
     ·exact bw u hu
     ·rw [List.mem_singleton.mp hu]; exact by'
    rintro ys σ H' ⟨ws, rfl, lws0, bws, ⟨o, rfl⟩, rfl⟩ cl hcl
    have lws : ws.length = (mm + 1).toNat := by rw [lws0, List.length_map, List.length_take]; omega
    have zc := same_new hcl (HO.lst (ws.map V.int))
    have ecl := upd_same (H := H') (a := cl) (o := HO.lst (ws.map V.int))
    obtain ⟨Hn, hHn⟩ : ∃ Hn, Hn = upd H' cl (HO.lst (ws.map V.int)) := ⟨_, rfl⟩
    rw [<- hHn] at zc ecl |-
    have zn := zp.trans zc
    refine ⟨cl, _, rfl, .inl ⟨SqL.of ecl, fun rt hrt => ?_⟩⟩
    have z4 := same_new hrt (HO.tup (ws.map V.int))
    have ert := upd_same (H := Hn) (a := rt) (o := HO.tup (ws.map V.int))
    have s57 := zn.trans z4
    obtain ⟨H7, hH7⟩ : ∃ H7, H7 = upd Hn rt (HO.tup (ws.map V.int)) := ⟨_, rfl⟩
    rw [<- hH7] at ert s57 |-
    have ex7 := s57 _ _ ex5
    obtain ⟨X, Y, eX, eY, XY⟩ := swap_pick (v := v) (u := V.ref so1) (Int.fmod_nonneg_of_pos (xs[4]'(by omega)) (show (0 : Int) < 2 by decide)) (Int.fmod_lt_of_pos (xs[4]'(by omega)) (show (0 : Int) < 2 by decide))
    refine ⟨_, rfl, _, rfl, _, rfl, (by show 2 <= sizeLine; decide), fun l3 hl3 => ?_⟩
    have z5 := same_new hl3 (HO.lst [v, V.ref so1])
    refine ⟨_, rfl, xa, _, _, _, rfl, rfl, SqL.of (z5 _ _ ex7), a4, _, _, rfl, rfl, (show (2 : Int) ≠ 0 by decide), l3, _, _, X, rfl, rfl, SqL.of upd_same, eX, ?_⟩
    refine ⟨_, rfl, _, rfl, (by show 2 <= sizeLine; decide), fun l4 hl4 => ?_⟩
    have z6 := same_new hl4 (HO.lst [V.ref so1, v])
    refine ⟨_, rfl, xa, _, _, _, rfl, rfl, SqL.of (z6 _ _ (z5 _ _ ex7)), a4, _, _, rfl, rfl, (show (2 : Int) ≠ 0 by decide), l4, _, _, Y, rfl, rfl, SqL.of upd_same, eY, fun x dx hx hdx ne => ?_⟩
    have z56 := z5.trans z6
    have zx := same_make hx hdx ne (HO.own x) (HO.ins aParted dx [])
    have ex0 := upd_same (H := upd (upd (upd H7 l3 (HO.lst [v, V.ref so1])) l4 (HO.lst [V.ref so1, v])) dx (HO.own x)) (a := x) (o := HO.ins aParted dx [])
    obtain ⟨HX, hHX⟩ : ∃ HX, HX = upd (upd (upd (upd H7 l3 (HO.lst [v, V.ref so1])) l4 (HO.lst [V.ref so1, v])) dx (HO.own x)) x (HO.ins aParted dx []) := ⟨_, rfl⟩
    rw [<- hHX] at zx ex0 |-
    refine ⟨x, dx, rt, ws, X, Y, rfl, ex0, zx _ _ (z56 _ _ ert), (by omega), fun rb H9 sb frb eo eb => ⟨rfl, ?_⟩⟩
    have sX := z56.trans (same_but zx sb hx)
    have sV := s4.trans (s5.trans (s57.trans sX))
    have rvF := rv.same sV
    have sa1F := StrA.same (s57.trans sX) sa1
    have rv1F : RuleV aStraight aStopped aParted H9 (.ref so1) (.str l1.ns l1.a l1.d) := ⟨so1, dx1, la1, rfl, sa1F.ins, sa1F.ns⟩
    have RO : ws.length = mm.toNat + 1 := by omega
    rcases XY with ⟨rfl, rfl⟩ | ⟨rfl, rfl⟩
    ·refine ⟨.ref x, .prt ws t (.str l1.ns l1.a l1.d), _, _, _, _, rfl, sm.trans sV, ⟨x, dx, rb, _, _, rfl, eo, eb, rvF, rv1F⟩, ⟨bws, tf, ⟨bn1, ba1, bd1⟩⟩, ⟨RO, sh, ⟨ll1, ld1⟩⟩, ?_, ?_⟩
     ·show max t.dep 1 + 1 <= _
      omega
     ·show countM t + 1 <= _
      omega
    ·refine ⟨.ref x, .prt ws (.str l1.ns l1.a l1.d) t, _, _, _, _, rfl, sm.trans sV, ⟨x, dx, rb, _, _, rfl, eo, eb, rv1F, rvF⟩, ⟨bws, ⟨bn1, ba1, bd1⟩, tf⟩, ⟨RO, ⟨ll1, ld1⟩, sh⟩, ?_, ?_⟩
     ·show max 1 t.dep + 1 <= _
      omega
     ·show 1 + countM t <= _
      omega
  ·refine iteB0 (dec_no c1) (iteF ?_)
   replace hc : countM t + 1 <= (if i + 1 = 0 then 1 else if i + 1 = 1 then 3 else if i + 1 = 2 then 9 else 10) := by
    rcases (show i = 0 \/ i = 1 \/ i = 2 by omega) with e | e | e
    ·subst e
     have : countM t <= 1 := hc
     show _ <= 3
     omega
    ·subst e
     have : countM t <= 3 := hc
     show _ <= 9
     omega
    ·subst e
     have : countM t <= 9 := hc
     show _ <= 10
     omega
   have b7 : Bd 4 (7 : Int) := Bd.lit
   refine ⟨_, rfl, _, rfl, ca, _, _, _, rfl, rfl, (s1.trans (sm.trans s4)).seq hca, ac, _, _, rfl, rfl, ⟨by decide, b7.mono (by decide)⟩, _, rfl, _, mm, rfl, m1, m3, fun so1 dx1 la1 l1 H5 s5 sa1 bn1 ba1 bd1 ll1 ld1 => ?_⟩
   have ex5 := s5 _ _ ex
   refine ⟨_, rfl, _, rfl, _, _, rfl, rfl, _, rfl, xa, _, rfl, SqL.of ex5, fun p hp => ?_⟩
   have ec : cutV (xs.map V.int) none (some (mm + 1)) = (xs.take (mm + 1).toNat).map V.int := by
    rw [show mm + 1 = (((mm + 1).toNat : Nat) : Int) by omega]
    exact cut_to xs (by omega)
   have zp := same_new hp (HO.lst (cutV (xs.map V.int) none (some (mm + 1))))
   have ep : upd H5 p (HO.lst (cutV (xs.map V.int) none (some (mm + 1)))) p = some (.lst ((xs.take (mm + 1).toNat).map V.int)) := upd_same.trans (by rw [ec])
   obtain ⟨Hp1, hHp1⟩ : ∃ Hp1, Hp1 = upd H5 p (HO.lst (cutV (xs.map V.int) none (some (mm + 1)))) := ⟨_, rfl⟩
   rw [<- hHp1] at zp ep |-
   refine ⟨p, rfl, ⟨_, SqL.of ep⟩, comp_list (K := K) (a := p) (xs := (xs.take (mm + 1).toNat).map V.int) (fun i ys σ H' => ∃ ws : List Int, ys = ws.map V.int /\ ws.length = i /\ (∀ x ∈ ws, Bd 101 x) /\ (∃ o, σ = [o]) /\ H' = Hp1)
    ⟨[], rfl, rfl, (fun x hx => by cases hx), ⟨none, rfl⟩, rfl⟩ (fun i ys σ H' hi ⟨ws, e1, l1, _, _, e3⟩ => ⟨by rw [e3]; exact SqL.of ep, by rw [e1, List.length_map]; omega⟩) (by rw [List.length_map, List.length_take]; exact Nat.le_of_lt (small1000 (by omega))) ?_ ?_⟩
   ·rintro i x ys σ H' hi ⟨ws, rfl, lw, bw, ⟨o, rfl⟩, rfl⟩
    obtain ⟨z, hz, rfl⟩ := ints_get hi
    refine ⟨_, rfl, z, rfl, (bd45 (bx z (List.mem_of_mem_take (List.mem_of_getElem? hz)))).mono (by decide), fun y by' => ⟨ws ++ [y], (by rw [List.map_append]; rfl), (by rw [List.length_append, lw]; rfl), fun u hu => ?_, ⟨_, rfl⟩, rfl⟩⟩
    rcases List.mem_append.mp hu with hu | hu
    ·exact bw u hu
    ·rw [List.mem_singleton.mp hu]; exact by'
   rintro ys σ H' ⟨ws, rfl, lws0, bws, ⟨o, rfl⟩, rfl⟩ cl hcl
   have lws : ws.length = (mm + 1).toNat := by rw [lws0, List.length_map, List.length_take]; omega
   have zc := same_new hcl (HO.lst (ws.map V.int))
   have ecl := upd_same (H := H') (a := cl) (o := HO.lst (ws.map V.int))
   obtain ⟨Hn, hHn⟩ : ∃ Hn, Hn = upd H' cl (HO.lst (ws.map V.int)) := ⟨_, rfl⟩
   rw [<- hHn] at zc ecl |-
   have zn := zp.trans zc
   refine ⟨cl, _, rfl, .inl ⟨SqL.of ecl, fun rt hrt => ?_⟩⟩
   have z4 := same_new hrt (HO.tup (ws.map V.int))
   have ert := upd_same (H := Hn) (a := rt) (o := HO.tup (ws.map V.int))
   have s57 := zn.trans z4
   obtain ⟨H7, hH7⟩ : ∃ H7, H7 = upd Hn rt (HO.tup (ws.map V.int)) := ⟨_, rfl⟩
   rw [<- hH7] at ert s57 |-
   have ex7 := s57 _ _ ex5
   obtain ⟨X, Y, eX, eY, XY⟩ := swap_pick (v := v) (u := V.ref so1) (Int.fmod_nonneg_of_pos (xs[4]'(by omega)) (show (0 : Int) < 2 by decide)) (Int.fmod_lt_of_pos (xs[4]'(by omega)) (show (0 : Int) < 2 by decide))
   refine ⟨_, rfl, _, rfl, _, rfl, (by show 2 <= sizeLine; decide), fun l3 hl3 => ?_⟩
   have z5 := same_new hl3 (HO.lst [v, V.ref so1])
   refine ⟨_, rfl, xa, _, _, _, rfl, rfl, SqL.of (z5 _ _ ex7), a4, _, _, rfl, rfl, (show (2 : Int) ≠ 0 by decide), l3, _, _, X, rfl, rfl, SqL.of upd_same, eX, ?_⟩
   refine ⟨_, rfl, _, rfl, (by show 2 <= sizeLine; decide), fun l4 hl4 => ?_⟩
   have z6 := same_new hl4 (HO.lst [V.ref so1, v])
   refine ⟨_, rfl, xa, _, _, _, rfl, rfl, SqL.of (z6 _ _ (z5 _ _ ex7)), a4, _, _, rfl, rfl, (show (2 : Int) ≠ 0 by decide), l4, _, _, Y, rfl, rfl, SqL.of upd_same, eY, fun x dx hx hdx ne => ?_⟩
   have z56 := z5.trans z6
   have zx := same_make hx hdx ne (HO.own x) (HO.ins aParted dx [])
   have ex0 := upd_same (H := upd (upd (upd H7 l3 (HO.lst [v, V.ref so1])) l4 (HO.lst [V.ref so1, v])) dx (HO.own x)) (a := x) (o := HO.ins aParted dx [])
   obtain ⟨HX, hHX⟩ : ∃ HX, HX = upd (upd (upd (upd H7 l3 (HO.lst [v, V.ref so1])) l4 (HO.lst [V.ref so1, v])) dx (HO.own x)) x (HO.ins aParted dx []) := ⟨_, rfl⟩
   rw [<- hHX] at zx ex0 |-
   refine ⟨x, dx, rt, ws, X, Y, rfl, ex0, zx _ _ (z56 _ _ ert), (by omega), fun rb H9 sb frb eo eb => ⟨rfl, ?_⟩⟩
   have sX := z56.trans (same_but zx sb hx)
   have sV := s4.trans (s5.trans (s57.trans sX))
   have rvF := rv.same sV
   have sa1F := StrA.same (s57.trans sX) sa1
   have rv1F : RuleV aStraight aStopped aParted H9 (.ref so1) (.str l1.ns l1.a l1.d) := ⟨so1, dx1, la1, rfl, sa1F.ins, sa1F.ns⟩
   have RO : ws.length = mm.toNat + 1 := by omega
   rcases XY with ⟨rfl, rfl⟩ | ⟨rfl, rfl⟩
   ·refine ⟨.ref x, .prt ws t (.str l1.ns l1.a l1.d), _, _, _, _, rfl, sm.trans sV, ⟨x, dx, rb, _, _, rfl, eo, eb, rvF, rv1F⟩, ⟨bws, tf, ⟨bn1, ba1, bd1⟩⟩, ⟨RO, sh, ⟨ll1, ld1⟩⟩, ?_, ?_⟩
    ·show max t.dep 1 + 1 <= _
     omega
    ·show countM t + 1 <= _
     omega
   ·refine ⟨.ref x, .prt ws (.str l1.ns l1.a l1.d) t, _, _, _, _, rfl, sm.trans sV, ⟨x, dx, rb, _, _, rfl, eo, eb, rv1F, rvF⟩, ⟨bws, ⟨bn1, ba1, bd1⟩, tf⟩, ⟨RO, ⟨ll1, ld1⟩, sh⟩, ?_, ?_⟩
    ·show max 1 t.dep + 1 <= _
     omega
    ·show 1 + countM t <= _
     omega
 rintro σ H' ⟨v, t, o3, o4, o5, o6, rfl, sm, rv, tf, sh, dpt, hc⟩
 rw [List.length_map] at dpt
 refine ⟨_, rfl, q v t H' (s1.trans sm) rv ⟨sh, tf, by omega, ?_⟩⟩
 refine Nat.le_trans hc ?_
 split
 ·decide
 ·split
  ·decide
  ·split <;> decide
theorem ok_l_scaled {k : Nat} {f : Addr} {fd : FuncData} (F : Fun K "_law_scaled" "_law_scaled" s_l_scaled f fd) (B : Bl mg) : FnOk P w K mg base CX0 (k + 1) f fd ["_law_numbers", "_law_by"] spScaledL := by
 refine F.ok sc_l_scaled (fun vs H Q E h => ?_) (fun cdv A outer s H vs Q E hr h => ?_)
 ·obtain ⟨f, a, ns, rfl, _⟩ := h
  rfl
 obtain ⟨f, a, ns, rfl, ha, few, bf, bn, q⟩ := h
 refine ⟨_, (pss_one (ps_ret (pe_comp (own := ["_law_number_here"]) (caps := [(1, "_law_by")]) (blk_cap (S := defScope s_l_scaled) (N := ["_law_numbers", "_law_by"]) rfl (by decide +kernel) rfl ⟨_, rfl⟩ rfl (by decide +kernel) (by decide +kernel)) rfl (pi_list (L2.pvj 0)) (fun _ _ _ _ => pg_name (i := 0) (show (["_law_number_here", "_law_by"] : List Str).Nodup by decide +kernel) rfl (Or.inl rfl)) (fun _ _ _ _ => (pe_op (ji op_mulW) (L2.pvj 1) (L2.pvj 0)))))), ?_⟩
 try dsimp only [cxOf, Cx.nox, Cx.wish]
 refine ⟨_, rfl, a, rfl, ⟨_, SqL.of ha⟩, comp_list (K := K) (a := a) (xs := ns.map V.int) (fun i ys σ H' => ys = (scM f (ns.take i)).map V.int /\ (∃ o, σ = [o, some (.int f)]) /\ H' = H)
  ⟨rfl, ⟨none, rfl⟩, rfl⟩ (fun i ys σ H' hi ⟨e1, _, e3⟩ => ⟨by rw [e3]; exact SqL.of ha, by rw [e1, List.length_map, scM_len, List.length_take]; exact Nat.min_le_left _ _⟩) (by rw [List.length_map]; exact Nat.le_of_lt (small1000 (by omega))) ?_ ?_⟩
 ·rintro i x ys σ H' hi ⟨rfl, ⟨o, rfl⟩, rfl⟩
  obtain ⟨z, hz, rfl⟩ := ints_get hi
  refine ⟨_, rfl, _, rfl, _, _, rfl, rfl, ⟨bf.mono (by decide), (bn z (List.mem_of_getElem? hz)).mono (by decide)⟩, ?_, ⟨_, rfl⟩, rfl⟩
  unfold scM
  rw [take_snoc hz, List.map_append, List.map_append]
  rfl
 rintro ys σ H' ⟨rfl, ⟨o, rfl⟩, rfl⟩ l hl
 refine q l _ (same_new hl _) hl (upd_same.trans ?_)
 rw [List.length_map, List.take_length]
end
theorem at_int {r : List Int} {j : Nat} (h : j < r.length) : atI (r.map V.int) (j : Int) = some (.int (r.getD j 0)) := atI_nat (by rw [List.getElem?_map, List.getD_eq_getElem?_getD, List.getElem?_eq_getElem h]; rfl)
noncomputable def lstT (r : List Int) : PyData := .list (r.map PyData.int)
theorem dp_tab {K : PySem.W.Frag} {H : Hp} : ∀ {tv : List V} {tab : List (List Int)}, TabV H tv tab -> DpAll K H tv (tab.map lstT)
 | _, _, .nil => .nil
 | _, _, .cons ⟨a, e, h⟩ t => by
  subst e
  exact .cons (.lst (SqL.of h) (dp_ints _)) (dp_tab t)
theorem lay_tab : ∀ tab : List (List Int), PyData.canLayAll0 (tab.map lstT) = true
 | [] => rfl
 | r :: t => by
  show (PyData.canLayAll0 (r.map PyData.int) && PyData.canLayAll0 (t.map lstT)) = true
  rw [lay_i, lay_tab t]
  rfl
theorem dep_tab : ∀ tab : List (List Int), PyData.depthAll (tab.map lstT) <= 1
 | [] => Nat.zero_le _
 | r :: t => by
  show max (PyData.depthAll (r.map PyData.int) + 1) (PyData.depthAll (t.map lstT)) <= 1
  rw [dep_i]
  have := dep_tab t
  omega
noncomputable def mdL (m : MD) : List PyData := [.list (m.rows.map rowT), .list (m.nexts.map lstT), .list (m.steer.map PyData.int), .list (m.push.map lstT), .list (m.add.map PyData.int), .int m.div]
theorem lay_md (m : MD) : PyData.canLay0 (.list (mdL m)) = true := by
 show (PyData.canLayAll0 (m.rows.map rowT) && (PyData.canLayAll0 (m.nexts.map lstT) && (PyData.canLayAll0 (m.steer.map PyData.int) && (PyData.canLayAll0 (m.push.map lstT) && (PyData.canLayAll0 (m.add.map PyData.int) && (true && true)))))) = true
 rw [lay_ways, lay_tab, lay_i, lay_tab, lay_i]
 rfl
theorem dep_md (m : MD) : PyData.depth (.list (mdL m)) <= 3 := by
 show max (PyData.depthAll (m.rows.map rowT) + 1) (max (PyData.depthAll (m.nexts.map lstT) + 1) (max (PyData.depthAll (m.steer.map PyData.int) + 1) (max (PyData.depthAll (m.push.map lstT) + 1) (max (PyData.depthAll (m.add.map PyData.int) + 1) (max 0 0))))) + 1 <= 3
 rw [dep_i, dep_i]
 have := dep_ways m.rows
 have := dep_tab m.nexts
 have := dep_tab m.push
 omega
theorem dp_parts {K : PySem.W.Frag} {H : Hp} {r n s p a : Addr} {rv nv pv : List V} {m : MD} (h1 : H r = some (.lst rv)) (h2 : WaysV H rv m.rows) (h3 : H n = some (.lst nv)) (h4 : TabV H nv m.nexts) (h5 : H s = some (.lst (m.steer.map V.int))) (h6 : H p = some (.lst pv)) (h7 : TabV H pv m.push) (h8 : H a = some (.lst (m.add.map V.int))) :
  DpAll K H [.ref r, .ref n, .ref s, .ref p, .ref a, .int m.div] (mdL m) :=
 .cons (.lst (SqL.of h1) (dp_ways h2)) (.cons (.lst (SqL.of h3) (dp_tab h4)) (.cons (.lst (SqL.of h5) (dp_ints _)) (.cons (.lst (SqL.of h6) (dp_tab h7)) (.cons (.lst (SqL.of h8) (dp_ints _)) (.cons (.int _) .nil)))))
theorem dp_pu {K : PySem.W.Frag} {H : Hp} : ∀ {pv : List V} {bs : List (Int × Int)}, Paired (PuV H) pv bs -> DpAll K H pv (bs.map puT)
 | _, _, .nil => .nil
 | _, _, .cons ⟨a, e, h⟩ t => by
  subst e
  exact .cons (.tup (SqT.of h) (.cons (.int _) (.cons (.int _) .nil))) (dp_pu t)
noncomputable def mdT (m : MD) : PyData := .list (mdL m)
theorem dp_mds {K : PySem.W.Frag} {H : Hp} : ∀ {sv : List V} {ms : List MD}, Paired (PartsV H) sv ms -> DpAll K H sv (ms.map mdT)
 | _, _, .nil => .nil
 | _, _, .cons ⟨pl, r, n, s, p, a, rv, nv, pv, e, hl, P⟩ t => by
  subst e
  exact .cons (.lst (SqL.of hl) (dp_parts P.hr P.hrv P.hn P.hnv P.hs P.hp P.hpv P.ha)) (dp_mds t)
theorem lay_mds : ∀ ms : List MD, PyData.canLayAll0 (ms.map mdT) = true
 | [] => rfl
 | m :: t => by
  show (PyData.canLay0 (.list (mdL m)) && PyData.canLayAll0 (t.map mdT)) = true
  rw [lay_md, lay_mds t]
  rfl
theorem dep_mds : ∀ ms : List MD, PyData.depthAll (ms.map mdT) <= 3
 | [] => Nat.zero_le _
 | m :: t => by
  show max (PyData.depth (.list (mdL m))) (PyData.depthAll (t.map mdT)) <= 3
  have := dep_mds t
  have := dep_md m
  omega
theorem dep_mdl (ms : List MD) : PyData.depth (.list (ms.map mdT)) <= 60 := by
 show PyData.depthAll (ms.map mdT) + 1 <= 60
 have := dep_mds ms
 omega
theorem rep_zero (k : Nat) : (List.replicate k [V.int 0]).flatten = (List.replicate k (0 : Int)).map V.int := by
 induction k with
 | zero => rfl
 | succ k ih => rw [List.replicate_succ, List.flatten_cons, ih]; rfl
theorem body_hid {H J : Hp} {r n s p a b : Addr} {rv nv pv xs : List V} {m : MD} (hb : H b = some (.lst xs)) (S : Same H J) (B : PBody J r n s p a rv nv pv m) (fr : H r = none) (fn : H n = none) (fs : H s = none) (fp : H p = none) (fa : H a = none) (tn : Paired (NewL H J) nv m.nexts) (tp : Paired (NewL H J) pv m.push) : PBody (hide [b] J) r n s p a rv nv pv m := by
 have ne : ∀ {c : Addr} {u : HO}, H c = none -> J c = some u -> hide [b] J c = some u := fun ha hu => (hide_at fun z => by rw [List.mem_singleton.mp z, hb] at ha; cases ha).trans hu
 have nk : ∀ {c : Addr} {u : HO}, J c = some u -> (∀ ys, u ≠ .lst ys) -> hide [b] J c = some u := fun hu k => (hide_at fun z => by rw [List.mem_singleton.mp z, S _ _ hb] at hu; exact k _ (Option.some.inj hu).symm).trans hu
 exact ⟨ne fr B.hr, Paired.mapP B.hrv fun _ _ ⟨c, e, q⟩ => ⟨c, e, nk q (fun _ z => nomatch z)⟩, ne fn B.hn, Paired.mapP tn fun _ _ ⟨c, e, n, q⟩ => ⟨c, e, ne n q⟩, ne fs B.hs, ne fp B.hp, Paired.mapP tp fun _ _ ⟨c, e, n, q⟩ => ⟨c, e, ne n q⟩, ne fa B.ha⟩
theorem newl_same {H0 H H' : Hp} {vs : List V} {tab : List (List Int)} (s : Same H H') (h : Paired (NewL H0 H) vs tab) : Paired (NewL H0 H') vs tab := Paired.mapP h fun _ _ ⟨a, e, n, q⟩ => ⟨a, e, n, s _ _ q⟩
structure StrT (H : Hp) (st na : Addr) (l : LF) : Prop where
 tup : H st = some (.tup [.ref na, .int l.a, .int l.d])
 ns : H na = some (.lst (l.ns.map V.int))
theorem StrT.same {H H' : Hp} {st na : Addr} {l : LF} (s : Same H H') (h : StrT H st na l) : StrT H' st na l := ⟨s _ _ h.tup, s _ _ h.ns⟩
inductive spPut (vs : List V) (H : Hp) (Q : VK) (E : XK) : Prop
 | mk (pl rl st na r n0 s p a : Addr) (rv nv pv rv2 : List V) (m : MD) (rows : List (List Int)) (l : LF) (n w : Nat) (_ : vs = [.ref pl, .ref rl, .ref st]) (_ : H pl = some (.lst [.ref r, .ref n0, .ref s, .ref p, .ref a, .int m.div])) (_ : PBody H r n0 s p a rv nv pv m) (_ : MDOk m n w) (_ : MB m) (_ : H rl = some (.lst rv2)) (_ : WaysV H rv2 rows) (_ : StrT H st na l) (_ : PB n (rows, l)) (_ : ∀ (pl' r' n' s' p' a' : Addr) (rv' nv' pv' : List V) (J : Hp), Same H J -> J pl' = none -> PBody J r' n' s' p' a' rv' nv' pv' (stM m (rows, l)) -> (∀ b xs, H b = some (.lst xs) -> PBody (hide [b] J) r' n' s' p' a' rv' nv' pv' (stM m (rows, l))) -> Q (.ref pl') (upd J pl' (.lst [.ref r', .ref n', .ref s', .ref p', .ref a', .int (l.d * m.div)]))) : spPut vs H Q E
inductive spPutL (vs : List V) (H : Hp) (Q : VK) (E : XK) : Prop
 | mk (pl rl st na r n0 s p a : Addr) (rv nv pv rv2 : List V) (m : MD) (rows : List (List Int)) (l : LF) (n w : Nat) (_ : vs = [.ref pl, .ref rl, .ref st]) (_ : H pl = some (.lst [.ref r, .ref n0, .ref s, .ref p, .ref a, .int m.div])) (_ : PBody H r n0 s p a rv nv pv m) (_ : MDOk m n w) (_ : MB m) (_ : H rl = some (.lst rv2)) (_ : WaysV H rv2 rows) (_ : StrT H st na l) (_ : PB n (rows, l)) (_ : 1 <= n) (_ : ∀ (v : V) (H' : Hp), Same H H' -> PartsV H' v (ltM n m (rows, l)) -> Q v H') : spPutL vs H Q E
inductive spTold32 (C CM : Addr) (vs : List V) (H : Hp) (Q : VK) (E : XK) : Prop
 | mk (o kp km : Addr) (n : Nat) (bs : List (Int × Int)) (ms : List MD) (pv mv : List V) (_ : vs = [.ref o]) (_ : ThingAt C CM H o n bs ms pv mv kp km) (_ : ms.length <= 40) (_ : ∀ l lv H', Same H H' -> H' l = some (.lst lv) -> Paired (PartsV H') lv ms -> Q (.ref l) H') : spTold32 C CM vs H Q E
inductive spRight32 (C CM : Addr) (vs : List V) (H : Hp) (Q : VK) (E : XK) : Prop
 | mk (o kp km pa da : Addr) (n : Nat) (bs : List (Int × Int)) (ms : List MD) (pv mv pv2 dv : List V) (_ : vs = [.ref o, .int (n : Int), .ref pa, .ref da]) (_ : ThingAt C CM H o n bs ms pv mv kp km) (_ : ThOk n bs ms) (_ : (∀ m ∈ ms, m.steer.all (fun x => decide (x = 0)) = true)) (_ : H pa = some (.lst pv2)) (_ : Paired (PuV H) pv2 bs) (_ : H da = some (.lst dv)) (_ : Paired (PartsV H) dv ms) (_ : ∀ H', Same H H' -> Q (.bl true) H') : spRight32 C CM vs H Q E
section
variable {P : Program} {w : World} {K : PySem.W.Frag} {mg : Str -> Option Value} {base : Heap}
noncomputable abbrev s_l_put : Stmt := top 65
theorem sc_l_put : FnScope ["_law_parts_here", "_law_rows", "_law_straight_here", "_law_old", "_law_nexts", "_law_steer", "_law_push", "_law_add", "_law_divisor", "_law_numbers", "_law_more", "_law_by", "_law_many", "_law_table", "_law_sums"] ["_law_parts_here", "_law_rows", "_law_straight_here"] (defScope s_l_put) := ⟨rfl, rfl, rfl, by decide +kernel, rfl, by decide +kernel, by decide +kernel⟩
variable {aStraight aStopped aParted aMode aThing : Addr} (TStraight : ClsF K mg "Straight" aStraight) (AStraight : AtStraight K aStraight) (TStopped : ClsF K mg "Stopped" aStopped) (AStopped : AtStopped K aStopped) (TParted : ClsF K mg "Parted" aParted) (AParted : AtParted K aParted) (TMode : ClsF K mg "Mode" aMode) (AMode : AtMode K aMode) (TThing : ClsF K mg "Thing" aThing) (AThing : AtThing K aThing) (Y : Kits K aStraight aStopped aParted)
include TStraight AStraight TStopped AStopped TParted AParted TMode AMode TThing AThing Y
theorem ok_l_put {k : Nat} {f : Addr} {fd : FuncData} (F : Fun K "_law_put" "_law_put" s_l_put f fd) (B : Bl mg) (c_l_scaled : Fn P w K mg base "_law_scaled" ["_law_numbers", "_law_by"] k spScaledL) : FnOk P w K mg base CX0 (k + 1) f fd ["_law_parts_here", "_law_rows", "_law_straight_here"] spPut := by
 refine F.ok sc_l_put (fun vs H Q E h => ?_) (fun cdv A outer s H vs Q E hr h => ?_)
 ·obtain ⟨pl, rl, st, na, r, n0, sa, p, a, rv, nv, pv, rv2, m, rows, l, n, wd, rfl, _⟩ := h
  rfl
 obtain ⟨pl, rl, st, na, r, n0, sa, p, a, rv, nv, pv, rv2, m, rows, l, n, wd, rfl, hl, PD, MO, MBm, hrl, hrv2, ST, PK, q⟩ := h
 obtain ⟨u_5, E_5, U_5⟩ := L2.hide_it (p := fun t => PSs (cxOf CX0 P w K mg base ["_law_parts_here", "_law_rows", "_law_straight_here", "_law_old", "_law_nexts", "_law_steer", "_law_push", "_law_add", "_law_divisor", "_law_numbers", "_law_more", "_law_by", "_law_many", "_law_table", "_law_sums"] "_law_put" (defScope s_l_put) f cdv A outer s H E).nox ((defBody s_l_put).drop 5) t) (pss_one (ps_ret (pe_lst (pa_cons (pe_op jcat (L2.pvj 3) (L2.pvj 1)) (pa_cons (L2.pvj 13) (pa_cons (pe_op jrep (pe_lst (pa_cons pe_int pa_nil)) (L2.pvj 12)) (pa_cons (pe_comp (own := ["_law_one"]) (caps := [(11, "_law_by")]) (blk_cap (S := defScope s_l_put) (N := ["_law_parts_here", "_law_rows", "_law_straight_here", "_law_old", "_law_nexts", "_law_steer", "_law_push", "_law_add", "_law_divisor", "_law_numbers", "_law_more", "_law_by", "_law_many", "_law_table", "_law_sums"]) rfl (by decide +kernel) rfl ⟨_, rfl⟩ rfl (by decide +kernel) (by decide +kernel)) rfl (pi_list (L2.pvj 6)) (fun _ _ _ _ => pg_name (i := 0) (show (["_law_one", "_law_by"] : List Str).Nodup by decide +kernel) rfl (Or.inl rfl)) (fun _ _ _ _ => (pe_callF c_l_scaled hr rfl (pa_cons (L2.pvj 0) (pa_cons (L2.pvj 1) pa_nil))))) (pa_cons (L2.pvj 14) (pa_cons (pe_op (ji op_mulW) (L2.pvj 11) (L2.pvj 8)) pa_nil)))))))))
 obtain ⟨u_4, E_4, U_4⟩ := L2.hide_it (p := fun t => PSs (cxOf CX0 P w K mg base ["_law_parts_here", "_law_rows", "_law_straight_here", "_law_old", "_law_nexts", "_law_steer", "_law_push", "_law_add", "_law_divisor", "_law_numbers", "_law_more", "_law_by", "_law_many", "_law_table", "_law_sums"] "_law_put" (defScope s_l_put) f cdv A outer s H E).nox ((defBody s_l_put).drop 4) t) (pss_cons (ps_comp (i := 14) sc_l_put.nd rfl rfl (own := ["_law_i"]) (caps := [(5, "_law_steer"), (7, "_law_add"), (10, "_law_more"), (11, "_law_by")]) (blk_cap (S := defScope s_l_put) (N := ["_law_parts_here", "_law_rows", "_law_straight_here", "_law_old", "_law_nexts", "_law_steer", "_law_push", "_law_add", "_law_divisor", "_law_numbers", "_law_more", "_law_by", "_law_many", "_law_table", "_law_sums"]) rfl (by decide +kernel) rfl ⟨_, rfl⟩ rfl (by decide +kernel) (by decide +kernel)) rfl (pi_range1 rfl B.range_ (pa_cons (L2.pvj 12) pa_nil)) (fun _ _ _ _ => pg_name (i := 0) (show (["_law_i", "_law_steer", "_law_add", "_law_more", "_law_by"] : List Str).Nodup by decide +kernel) rfl (Or.inl rfl)) (fun _ _ _ _ => (pe_op (ji0 op_add) (pe_op (ji op_mulW) (L2.pvj 4) (pe_ix (show IxR _ (JIx (SqL K)) from jix_list) (L2.pvj 2) (L2.pvj 0) (fun _ _ => rfl))) (pe_op (ji op_mulW) (pe_ix (show IxR _ (JIx (SqL K)) from jix_list) (L2.pvj 1) (L2.pvj 0) (fun _ _ => rfl)) (L2.pvj 3)))) rfl)
 U_5)
 obtain ⟨u_3, E_3, U_3⟩ := L2.hide_it (p := fun t => PSs (cxOf CX0 P w K mg base ["_law_parts_here", "_law_rows", "_law_straight_here", "_law_old", "_law_nexts", "_law_steer", "_law_push", "_law_add", "_law_divisor", "_law_numbers", "_law_more", "_law_by", "_law_many", "_law_table", "_law_sums"] "_law_put" (defScope s_l_put) f cdv A outer s H E).nox ((defBody s_l_put).drop 3) t) (pss_cons (ps_compN (i := 13) sc_l_put.nd rfl rfl (own := ["_law_i"]) (caps := [(4, "_law_nexts"), (5, "_law_steer"), (9, "_law_numbers"), (11, "_law_by"), (12, "_law_many")]) (blkN_cap (S := defScope s_l_put) (N := ["_law_parts_here", "_law_rows", "_law_straight_here", "_law_old", "_law_nexts", "_law_steer", "_law_push", "_law_add", "_law_divisor", "_law_numbers", "_law_more", "_law_by", "_law_many", "_law_table", "_law_sums"]) rfl (by decide +kernel) rfl ⟨_, rfl⟩ rfl (by decide +kernel) (by decide +kernel)) rfl (pi_range1 rfl B.range_ (pa_cons (L2.pvj 12) pa_nil)) (fun _ _ _ _ => pg_name (i := 0) (show (["_law_i", "_law_nexts", "_law_steer", "_law_numbers", "_law_by", "_law_many"] : List Str).Nodup by decide +kernel) rfl (Or.inr rfl)) (fun _ _ _ _ => (pe_compN (own := ["_law_j"]) (caps := [(0, "_law_i"), (1, "_law_nexts"), (2, "_law_steer"), (3, "_law_numbers"), (4, "_law_by")]) (blk_in rfl (by decide +kernel) (by decide +kernel) (by decide +kernel) (by decide +kernel)) rfl (pi_range1 rfl B.range_ (pa_cons (L2.pvj 5) pa_nil)) (fun _ _ _ _ => pg_name (i := 0) (show (["_law_j", "_law_i", "_law_nexts", "_law_steer", "_law_numbers", "_law_by"] : List Str).Nodup by decide +kernel) rfl (Or.inl rfl)) (fun _ _ _ _ => (pe_op (ji0 op_add) (pe_op (ji op_mulW) (L2.pvj 5) (pe_ix (show IxR _ (JIx (SqL K)) from jix_list) (pe_ix (show IxR _ (JIx (SqL K)) from jix_list) (L2.pvj 2) (L2.pvj 1) (fun _ _ => rfl)) (L2.pvj 0) (fun _ _ => rfl))) (pe_op (ji op_mulW) (pe_ix (show IxR _ (JIx (SqL K)) from jix_list) (L2.pvj 3) (L2.pvj 1) (fun _ _ => rfl)) (pe_ix (show IxR _ (JIx (SqL K)) from jix_list) (L2.pvj 4) (L2.pvj 0) (fun _ _ => rfl))))))) rfl)
 U_4)
 refine ⟨_, (pss_cons (ps_asg (L2.pvj 0) (pg_lst rfl (pgs_cons (pg_name (i := 3) sc_l_put.nd rfl (Or.inl rfl)) (pgs_cons (pg_name (i := 4) sc_l_put.nd rfl (Or.inr rfl)) (pgs_cons (pg_name (i := 5) sc_l_put.nd rfl (Or.inr rfl)) (pgs_cons (pg_name (i := 6) sc_l_put.nd rfl (Or.inl rfl)) (pgs_cons (pg_name (i := 7) sc_l_put.nd rfl (Or.inr rfl)) (pgs_cons (pg_name (i := 8) sc_l_put.nd rfl (Or.inl rfl)) pgs_nil))))))))
 (pss_cons (ps_asg (L2.pvj 2) (pg_tup rfl (pgs_cons (pg_name (i := 9) sc_l_put.nd rfl (Or.inr rfl)) (pgs_cons (pg_name (i := 10) sc_l_put.nd rfl (Or.inr rfl)) (pgs_cons (pg_name (i := 11) sc_l_put.nd rfl (Or.inr rfl)) pgs_nil)))))
 (pss_cons (ps_set (i := 12) sc_l_put.nd rfl (Or.inr rfl) (pe_callB jlen rfl B.len_ boot_len_ (pa_cons (L2.pvj 4) pa_nil)))
 U_3))), ?_⟩
 try dsimp only [cxOf, Cx.nox, Cx.wish]
 have n3 := MO.n3
 have p6 := MO.p6
 have ln1 := MO.nexts.1
 have ln2 := MO.steer
 have ln3 := MO.push.1
 have ln4 := MO.add
 have fw := MBm.few
 have fr : rows.length <= 100 := PK.few
 have lrv : rv.length = m.rows.length := Paired.length PD.hrv
 have lnv : nv.length = m.nexts.length := Paired.length PD.hnv
 have lpv : pv.length = m.push.length := Paired.length PD.hpv
 have lr2 : rv2.length = rows.length := Paired.length hrv2
 have kl : l.ns.length = n := PK.len
 refine ⟨_, rfl, pl, _, rfl, SqL.of hl, rfl, _, _, rfl, _, _, rfl, _, _, rfl, _, _, rfl, _, _, rfl, _, _, rfl, rfl, ?_⟩
 refine ⟨_, rfl, st, _, rfl, SqT.of ST.tup, rfl, _, _, rfl, _, _, rfl, _, _, rfl, rfl, ?_⟩
 refine ⟨_, rfl, n0, _, rfl, .inl (SqL.of PD.hn), ?_⟩
 have stb : ∀ {i : Nat}, i < n -> Bd 300 (m.steer.getD i 0) := fun h => MBm.steer _ (getD_mem (by omega))
 show u_3 _ [some (.ref pl), some (.ref rl), some (.ref st), some (.ref r), some (.ref n0), some (.ref sa), some (.ref p), some (.ref a), some (.int m.div), some (.ref na), some (.int l.a), some (.int l.d), some (.int ((nv.length : Nat) : Int)), none, none] _
 rw [E_3]
 try dsimp only [cxOf, Cx.nox, Cx.wish]
 refine ⟨_, rfl, _, rfl, (by omega), (by omega), comp_range (lo := 0) (n := ((nv.length : Nat) : Int).toNat)
  (fun i ys σ H' => Paired (NewL H H') ys (((m.nexts.zip m.steer).take i).map fun q => mixM l.d q.1 q.2 l.ns) /\ (∃ o, σ = [o, some (.ref n0), some (.ref sa), some (.ref na), some (.int l.d), some (.int ((nv.length : Nat) : Int))]) /\ Same H H')
  ⟨.nil, ⟨none, rfl⟩, Same.refl _⟩ (fun i ys σ H' ⟨e1, _⟩ => by have := Paired.length e1; rw [List.length_map, List.length_take] at this; omega) (Nat.le_of_lt (small1000 (by omega))) ?_ ?_⟩
 ·rintro i ys σ H' hi ⟨hz, ⟨o1, rfl⟩, sm⟩
  have hv : nv[i]? = some (nv[i]'(by omega)) := List.getElem?_eq_getElem _
  obtain ⟨r1, hr', a1, e1, ea⟩ := paired_get PD.hnv hv
  have rl' := MO.nexts.2 r1 (List.mem_of_getElem? hr')
  have ai : atI nv (0 + (i : Int)) = some (.ref a1) := by rw [Int.zero_add]; exact atI_nat (hv.trans (by rw [e1]))
  have as' : atI (m.steer.map V.int) (0 + (i : Int)) = some (.int (m.steer.getD i 0)) := by rw [Int.zero_add]; exact at_int (by omega)
  refine ⟨_, rfl, _, rfl, (by omega), (by omega), comp_range (lo := 0) (n := ((nv.length : Nat) : Int).toNat)
   (fun j zs σ H2 => zs = ((List.range j).map fun j => l.d * r1.getD j 0 + m.steer.getD i 0 * l.ns.getD j 0).map V.int /\ (∃ o, σ = [o, some (.int (0 + (i : Int))), some (.ref n0), some (.ref sa), some (.ref na), some (.int l.d)]) /\ H2 = H')
   ⟨rfl, ⟨none, rfl⟩, rfl⟩ (fun j zs σ H2 ⟨e1, _⟩ => by rw [e1, List.length_map, List.length_map, List.length_range]; omega) (Nat.le_of_lt (small1000 (by omega))) ?_ ?_⟩
  ·rintro j zs σ H2 hj ⟨rfl, ⟨o2, rfl⟩, rfl⟩
   have aj : atI (r1.map V.int) (0 + (j : Int)) = some (.int (r1.getD j 0)) := by rw [Int.zero_add]; exact at_int (by omega)
   have ak : atI (l.ns.map V.int) (0 + (j : Int)) = some (.int (l.ns.getD j 0)) := by rw [Int.zero_add]; exact at_int (by omega)
   refine ⟨_, rfl, _, rfl, _, rfl, n0, _, _, _, rfl, rfl, SqL.of (sm _ _ PD.hn), ai, _, rfl, a1, _, _, _, rfl, rfl, SqL.of (sm _ _ ea), aj, _, _, rfl, rfl, ⟨PK.d.mono (by decide), (MBm.nexts r1 (List.mem_of_getElem? hr') _ (getD_mem (by omega))).mono (by decide)⟩, _, rfl, _, rfl, sa, _, _, _, rfl, rfl, SqL.of (sm _ _ PD.hs), as', _, rfl, _, rfl, na, _, _, _, rfl, rfl, SqL.of (sm _ _ ST.ns), ak, _, _, rfl, rfl, ⟨(stb (by omega)).mono (by decide), (PK.ns _ (getD_mem (by show j < l.ns.length; omega))).mono (by decide)⟩, _, _, rfl, rfl, ?_, ⟨_, rfl⟩, rfl⟩
   rw [List.range_succ, List.map_append, List.map_append]
   rfl
  rintro zs σ H2 ⟨rfl, ⟨o2, rfl⟩, hZ⟩ c hc
  rw [hZ] at hc |-
  rw [Int.toNat_natCast, mix_range _ _ _ _ _ (by omega) (by omega)]
  have zc := same_new hc (HO.lst ((mixM l.d r1 (m.steer.getD i 0) l.ns).map V.int))
  have hst : m.steer[i]? = some (m.steer.getD i 0) := by rw [List.getD_eq_getElem?_getD, List.getElem?_eq_getElem (by omega)]; rfl
  have hz' : (m.nexts.zip m.steer)[i]? = some (r1, m.steer.getD i 0) := by rw [List.getElem?_zip_eq_some]; exact ⟨hr', hst⟩
  refine ⟨?_, ⟨_, rfl⟩, sm.trans zc⟩
  rw [take_snoc hz', List.map_append]
  exact paired_snoc (R := NewL H _) ⟨c, rfl, sm.free hc, upd_same⟩ (newl_same zc hz)
 rintro tn σ J1 ⟨htn, ⟨o1, rfl⟩, y1⟩ n1 hn1
 rw [take_all (by rw [List.length_zip]; omega)] at htn
 have SG1 := y1
 have nn1 := SG1.free hn1
 have yG2 := same_new hn1 (HO.lst tn)
 have en1 := upd_same (H := J1) (a := n1) (o := HO.lst tn)
 generalize hhG2 : upd J1 n1 (HO.lst tn) = G2 at yG2 en1 |-
 have SG2 := SG1.trans yG2
 replace htn := (newl_same yG2 htn)
 show u_4 _ [some (.ref pl), some (.ref rl), some (.ref st), some (.ref r), some (.ref n0), some (.ref sa), some (.ref p), some (.ref a), some (.int m.div), some (.ref na), some (.int l.a), some (.int l.d), some (.int ((nv.length : Nat) : Int)), some (.ref n1), none] _
 rw [E_4]
 try dsimp only [cxOf, Cx.nox, Cx.wish]
 refine ⟨_, rfl, _, rfl, (by omega), (by omega), comp_range (lo := 0) (n := ((nv.length : Nat) : Int).toNat)
  (fun i ys σ H' => ys = ((List.range i).map fun k => l.d * m.add.getD k 0 + m.steer.getD k 0 * l.a).map V.int /\ (∃ o, σ = [o, some (.ref sa), some (.ref a), some (.int l.a), some (.int l.d)]) /\ H' = G2)
  ⟨rfl, ⟨none, rfl⟩, rfl⟩ (fun i ys σ H' ⟨e1, _⟩ => by rw [e1, List.length_map, List.length_map, List.length_range]; omega) (Nat.le_of_lt (small1000 (by omega))) ?_ ?_⟩
 ·rintro i ys σ H' hi ⟨rfl, ⟨o1, rfl⟩, rfl⟩
  have a1 : atI (m.add.map V.int) (0 + (i : Int)) = some (.int (m.add.getD i 0)) := by rw [Int.zero_add]; exact at_int (by omega)
  have as' : atI (m.steer.map V.int) (0 + (i : Int)) = some (.int (m.steer.getD i 0)) := by rw [Int.zero_add]; exact at_int (by omega)
  refine ⟨_, rfl, _, rfl, _, rfl, a, _, _, _, rfl, rfl, SqL.of (SG2 _ _ PD.ha), a1, _, _, rfl, rfl, ⟨PK.d.mono (by decide), (MBm.add _ (getD_mem (by omega))).mono (by decide)⟩, _, rfl, _, rfl, sa, _, _, _, rfl, rfl, SqL.of (SG2 _ _ PD.hs), as', _, rfl, _, _, rfl, rfl, ⟨(stb (by omega)).mono (by decide), PK.a.mono (by decide)⟩, _, _, rfl, rfl, ?_, ⟨_, rfl⟩, rfl⟩
  rw [List.range_succ, List.map_append, List.map_append]
  rfl
 rintro ys σ J2 ⟨rfl, ⟨o1, rfl⟩, hZ⟩ a1 ha1
 rw [hZ] at ha1 |-
 clear hZ
 have ems : (List.range ((nv.length : Nat) : Int).toNat).map (fun k => l.d * m.add.getD k 0 + m.steer.getD k 0 * l.a) = mixM l.d m.add l.a m.steer := by
  rw [<- mix_range l.d l.a m.add m.steer n (by omega) (by omega), Int.toNat_natCast, lnv, ln1]
  exact List.map_congr_left fun k _ => by rw [Int.mul_comm (m.steer.getD k 0)]
 rw [ems]
 have na1 := SG2.free ha1
 have yG3 := same_new ha1 (HO.lst ((mixM l.d m.add l.a m.steer).map V.int))
 have ea1 := upd_same (H := G2) (a := a1) (o := HO.lst ((mixM l.d m.add l.a m.steer).map V.int))
 generalize hhG3 : upd G2 a1 (HO.lst ((mixM l.d m.add l.a m.steer).map V.int)) = G3 at yG3 ea1 |-
 have SG3 := SG2.trans yG3
 replace htn := (newl_same yG3 htn)
 replace en1 := (yG3 _ _ en1)
 show u_5 _ [some (.ref pl), some (.ref rl), some (.ref st), some (.ref r), some (.ref n0), some (.ref sa), some (.ref p), some (.ref a), some (.int m.div), some (.ref na), some (.int l.a), some (.int l.d), some (.int ((nv.length : Nat) : Int)), some (.ref n1), some (.ref a1)] _
 rw [E_5]
 try dsimp only [cxOf, Cx.nox, Cx.wish]
 refine ⟨_, rfl, _, rfl, r, rl, _, _, rfl, rfl, (SG3 _ _ PD.hr), (SG3 _ _ hrl), Nat.le_of_lt (small1000 (by omega)), fun c1 hc1 => ?_⟩
 have nc1 := SG3.free hc1
 have yG4 := same_new hc1 (HO.lst (rv ++ rv2))
 have ec1 := upd_same (H := G3) (a := c1) (o := HO.lst (rv ++ rv2))
 generalize hhG4 : upd G3 c1 (HO.lst (rv ++ rv2)) = G4 at yG4 ec1 |-
 have SG4 := SG3.trans yG4
 replace htn := (newl_same yG4 htn)
 replace en1 := (yG4 _ _ en1)
 replace ea1 := (yG4 _ _ ea1)
 have hw1 : WaysV G4 (rv ++ rv2) (m.rows ++ rows) := paired_app (WaysV.same SG4 PD.hrv) (WaysV.same SG4 hrv2)
 refine ⟨_, rfl, (by show 1 <= sizeLine; decide), fun z0 hz0 => ?_⟩
 have yG5 := same_new hz0 (HO.lst [V.int 0])
 have ez0 := upd_same (H := G4) (a := z0) (o := HO.lst [V.int 0])
 generalize hhG5 : upd G4 z0 (HO.lst [V.int 0]) = G5 at yG5 ez0 |-
 have SG5 := SG4.trans yG5
 replace htn := (newl_same yG5 htn)
 replace en1 := (yG5 _ _ en1)
 replace ea1 := (yG5 _ _ ea1)
 replace ec1 := (yG5 _ _ ec1)
 replace hw1 := (WaysV.same yG5 hw1)
 refine ⟨_, rfl, z0, _, _, rfl, rfl, ez0, (by omega), (by omega), (by show 1 * ((nv.length : Nat) : Int).toNat <= _; exact Nat.le_of_lt (small1000 (by omega))), fun z1 hz1 => ?_⟩
 rw [Int.toNat_natCast, rep_zero, lnv, ln1, <- ln2, zeros_eq]
 have nz1 := SG5.free hz1
 have yG6 := same_new hz1 (HO.lst ((m.steer.map fun _ => (0 : Int)).map V.int))
 have ez1 := upd_same (H := G5) (a := z1) (o := HO.lst ((m.steer.map fun _ => (0 : Int)).map V.int))
 generalize hhG6 : upd G5 z1 (HO.lst ((m.steer.map fun _ => (0 : Int)).map V.int)) = G6 at yG6 ez1 |-
 have SG6 := SG5.trans yG6
 replace htn := (newl_same yG6 htn)
 replace en1 := (yG6 _ _ en1)
 replace ea1 := (yG6 _ _ ea1)
 replace ec1 := (yG6 _ _ ec1)
 replace hw1 := (WaysV.same yG6 hw1)
 replace ez0 := (yG6 _ _ ez0)
 refine ⟨_, rfl, p, rfl, ⟨_, SqL.of (SG6 _ _ PD.hp)⟩, comp_list (K := K) (a := p) (xs := pv) (fun i ys σ H' => Paired (NewL H H') ys ((m.push.take i).map (scM l.d)) /\ (∃ o, σ = [o, some (.int l.d)]) /\ Same G6 H')
  ⟨.nil, ⟨none, rfl⟩, Same.refl _⟩ (fun i ys σ H' hi ⟨e1, _, sm⟩ => ⟨SqL.of (sm _ _ (SG6 _ _ PD.hp)), by have := Paired.length e1; rw [List.length_map, List.length_take] at this; omega⟩) (Nat.le_of_lt (small1000 (by omega))) ?_ ?_⟩
 ·rintro i x ys σ H' hi ⟨hz, ⟨o1, rfl⟩, sm⟩
  obtain ⟨r1, hr', a1, rfl, ea⟩ := paired_get PD.hpv hi
  have rl' := MO.push.2 r1 (List.mem_of_getElem? hr')
  have s0 := SG6.trans sm
  refine ⟨_, rfl, _, rfl, l.d, a1, r1, rfl, s0 _ _ ea, (by omega), PK.d.mono (by decide), (fun x hx => (MBm.push r1 (List.mem_of_getElem? hr') x hx).mono (by decide)), fun l2 H2 s3 nl2 el2 => ?_⟩
  refine ⟨?_, ⟨_, rfl⟩, sm.trans s3⟩
  rw [take_snoc hr', List.map_append]
  exact paired_snoc (R := NewL H _) ⟨l2, rfl, s0.free nl2, el2⟩ (newl_same s3 hz)
 rintro tp σ J3 ⟨htp, ⟨o1, rfl⟩, yJ3⟩ p1 hp1
 rw [take_all (by omega)] at htp
 have SG7 := SG6.trans yJ3
 replace htn := (newl_same yJ3 htn)
 replace en1 := (yJ3 _ _ en1)
 replace ea1 := (yJ3 _ _ ea1)
 replace ec1 := (yJ3 _ _ ec1)
 replace hw1 := (WaysV.same yJ3 hw1)
 replace ez0 := (yJ3 _ _ ez0)
 replace ez1 := (yJ3 _ _ ez1)
 have np1 := SG7.free hp1
 have yG8 := same_new hp1 (HO.lst tp)
 have ep1 := upd_same (H := J3) (a := p1) (o := HO.lst tp)
 generalize hhG8 : upd J3 p1 (HO.lst tp) = G8 at yG8 ep1 |-
 have SG8 := SG7.trans yG8
 replace htn := (newl_same yG8 htn)
 replace en1 := (yG8 _ _ en1)
 replace ea1 := (yG8 _ _ ea1)
 replace ec1 := (yG8 _ _ ec1)
 replace hw1 := (WaysV.same yG8 hw1)
 replace ez0 := (yG8 _ _ ez0)
 replace ez1 := (yG8 _ _ ez1)
 replace htp := (newl_same yG8 htp)
 refine ⟨_, rfl, _, rfl, _, rfl, _, _, rfl, rfl, ⟨PK.d.mono (by decide), MBm.div.mono (by decide)⟩, (by show 6 <= sizeLine; decide), fun pl2 hpl2 => ?_⟩
 have BB : PBody G8 c1 n1 z1 p1 a1 (rv ++ rv2) tn tp (stM m (rows, l)) := ⟨ec1, hw1, en1, NewL.tab htn, ez1, ep1, NewL.tab htp, ea1⟩
 exact q pl2 c1 n1 z1 p1 a1 (rv ++ rv2) tn tp G8 SG8 hpl2 BB fun b xs hb => body_hid hb SG8 BB nc1 nn1 nz1 np1 na1 htn htp
end
theorem map0_app (xs : List Int) : List.replicate (xs.length + 1) (0 : Int) = (xs.map fun _ => 0) ++ [0] := by
 rw [List.replicate_succ', zeros_eq]
theorem scM_app (f : Int) (xs : List Int) (y : Int) : scM f xs ++ [f * y] = scM f (xs ++ [y]) := by
 unfold scM
 rw [List.map_append]
 rfl
section
variable {P : Program} {w : World} {K : PySem.W.Frag} {mg : Str -> Option Value} {base : Heap}
noncomputable abbrev s_l_put_late : Stmt := top 66
theorem sc_l_put_late : FnScope ["_law_parts_here", "_law_rows", "_law_straight_here", "_law_old", "_law_nexts", "_law_steer", "_law_push", "_law_add", "_law_divisor", "_law_numbers", "_law_more", "_law_by", "_law_many", "_law_wide", "_law_table", "_law_pushed"] ["_law_parts_here", "_law_rows", "_law_straight_here"] (defScope s_l_put_late) := ⟨rfl, rfl, rfl, by decide +kernel, rfl, by decide +kernel, by decide +kernel⟩
noncomputable abbrev s_l_told : Stmt := top 67
theorem sc_l_told : FnScope ["_law_thing", "_law_found", "_law_mode"] ["_law_thing"] (defScope s_l_told) := ⟨rfl, rfl, rfl, by decide +kernel, rfl, by decide +kernel, by decide +kernel⟩
noncomputable abbrev s_l_right : Stmt := top 68
theorem sc_l_right : FnScope ["_law_thing", "_law_many", "_law_pushes", "_law_due"] ["_law_thing", "_law_many", "_law_pushes", "_law_due"] (defScope s_l_right) := ⟨rfl, rfl, rfl, by decide +kernel, rfl, by decide +kernel, by decide +kernel⟩
variable {aStraight aStopped aParted aMode aThing : Addr} (TStraight : ClsF K mg "Straight" aStraight) (AStraight : AtStraight K aStraight) (TStopped : ClsF K mg "Stopped" aStopped) (AStopped : AtStopped K aStopped) (TParted : ClsF K mg "Parted" aParted) (AParted : AtParted K aParted) (TMode : ClsF K mg "Mode" aMode) (AMode : AtMode K aMode) (TThing : ClsF K mg "Thing" aThing) (AThing : AtThing K aThing) (Y : Kits K aStraight aStopped aParted)
include TStraight AStraight TStopped AStopped TParted AParted TMode AMode TThing AThing Y
theorem ok_l_put_late {k : Nat} {f : Addr} {fd : FuncData} (F : Fun K "_law_put_late" "_law_put_late" s_l_put_late f fd) (B : Bl mg) (c_l_scaled : Fn P w K mg base "_law_scaled" ["_law_numbers", "_law_by"] k spScaledL) : FnOk P w K mg base CX0 (k + 1) f fd ["_law_parts_here", "_law_rows", "_law_straight_here"] spPutL := by
 refine F.ok sc_l_put_late (fun vs H Q E h => ?_) (fun cdv A outer s H vs Q E hr h => ?_)
 ·obtain ⟨pl, rl, st, na, r, n0, sa, p, a, rv, nv, pv, rv2, m, rows, l, n, wd, rfl, _⟩ := h
  rfl
 obtain ⟨pl, rl, st, na, r, n0, sa, p, a, rv, nv, pv, rv2, m, rows, l, n, wd, rfl, hl, PD, MO, MBm, hrl, hrv2, ST, PK, n1', q⟩ := h
 obtain ⟨u_7, E_7, U_7⟩ := L2.hide_it (p := fun t => PSs (cxOf CX0 P w K mg base ["_law_parts_here", "_law_rows", "_law_straight_here", "_law_old", "_law_nexts", "_law_steer", "_law_push", "_law_add", "_law_divisor", "_law_numbers", "_law_more", "_law_by", "_law_many", "_law_wide", "_law_table", "_law_pushed"] "_law_put_late" (defScope s_l_put_late) f cdv A outer s H E).nox ((defBody s_l_put_late).drop 7) t) (pss_one (ps_ret (pe_lst (pa_cons (L2.pvj 13) (pa_cons (L2.pvj 14) (pa_cons (pe_op jrep (pe_lst (pa_cons pe_int pa_nil)) (pe_op (ji0 op_add) (L2.pvj 12) pe_int)) (pa_cons (L2.pvj 15) (pa_cons (pe_op jcat (pe_callF c_l_scaled hr rfl (pa_cons (L2.pvj 7) (pa_cons (L2.pvj 11) pa_nil))) (pe_lst (pa_cons (pe_op (ji op_mulW) (L2.pvj 8) (L2.pvj 10)) pa_nil))) (pa_cons (pe_op (ji op_mulW) (L2.pvj 11) (L2.pvj 8)) pa_nil)))))))))
 obtain ⟨u_6, E_6, U_6⟩ := L2.hide_it (p := fun t => PSs (cxOf CX0 P w K mg base ["_law_parts_here", "_law_rows", "_law_straight_here", "_law_old", "_law_nexts", "_law_steer", "_law_push", "_law_add", "_law_divisor", "_law_numbers", "_law_more", "_law_by", "_law_many", "_law_wide", "_law_table", "_law_pushed"] "_law_put_late" (defScope s_l_put_late) f cdv A outer s H E).nox ((defBody s_l_put_late).drop 6) t) (pss_cons (ps_set (i := 15) sc_l_put_late.nd rfl (Or.inl rfl) (pe_op jcat (pe_comp (own := ["_law_one"]) (caps := [(11, "_law_by")]) (blk_cap (S := defScope s_l_put_late) (N := ["_law_parts_here", "_law_rows", "_law_straight_here", "_law_old", "_law_nexts", "_law_steer", "_law_push", "_law_add", "_law_divisor", "_law_numbers", "_law_more", "_law_by", "_law_many", "_law_wide", "_law_table", "_law_pushed"]) rfl (by decide +kernel) rfl ⟨_, rfl⟩ rfl (by decide +kernel) (by decide +kernel)) rfl (pi_list (L2.pvj 6)) (fun _ _ _ _ => pg_name (i := 0) (show (["_law_one", "_law_by"] : List Str).Nodup by decide +kernel) rfl (Or.inl rfl)) (fun _ _ _ _ => (pe_callF c_l_scaled hr rfl (pa_cons (L2.pvj 0) (pa_cons (L2.pvj 1) pa_nil))))) (pe_lst (pa_cons (pe_op jrep (pe_lst (pa_cons pe_int pa_nil)) (pe_callB jlen rfl B.len_ boot_len_ (pa_cons (pe_ix jix_list (L2.pvj 6) pe_int (fun _ _ => rfl)) pa_nil))) pa_nil))))
 U_7)
 obtain ⟨u_5, E_5, U_5⟩ := L2.hide_it (p := fun t => PSs (cxOf CX0 P w K mg base ["_law_parts_here", "_law_rows", "_law_straight_here", "_law_old", "_law_nexts", "_law_steer", "_law_push", "_law_add", "_law_divisor", "_law_numbers", "_law_more", "_law_by", "_law_many", "_law_wide", "_law_table", "_law_pushed"] "_law_put_late" (defScope s_l_put_late) f cdv A outer s H E).nox ((defBody s_l_put_late).drop 5) t) (pss_cons (ps_expr (pe_bm PySem.F.plainAttrs_list PySem.F.slot_list_append PySem.F.type_list_append japp (L2.pvj 14) (pa_cons (pe_op jcat (pe_callF c_l_scaled hr rfl (pa_cons (L2.pvj 9) (pa_cons (L2.pvj 8) pa_nil))) (pe_lst (pa_cons pe_int pa_nil))) pa_nil)))
 U_6)
 obtain ⟨u_4, E_4, U_4⟩ := L2.hide_it (p := fun t => PSs (cxOf CX0 P w K mg base ["_law_parts_here", "_law_rows", "_law_straight_here", "_law_old", "_law_nexts", "_law_steer", "_law_push", "_law_add", "_law_divisor", "_law_numbers", "_law_more", "_law_by", "_law_many", "_law_wide", "_law_table", "_law_pushed"] "_law_put_late" (defScope s_l_put_late) f cdv A outer s H E).nox ((defBody s_l_put_late).drop 4) t) (pss_cons (ps_comp (i := 14) sc_l_put_late.nd rfl rfl (own := ["_law_i"]) (caps := [(4, "_law_nexts"), (5, "_law_steer"), (11, "_law_by")]) (blk_cap (S := defScope s_l_put_late) (N := ["_law_parts_here", "_law_rows", "_law_straight_here", "_law_old", "_law_nexts", "_law_steer", "_law_push", "_law_add", "_law_divisor", "_law_numbers", "_law_more", "_law_by", "_law_many", "_law_wide", "_law_table", "_law_pushed"]) rfl (by decide +kernel) rfl ⟨_, rfl⟩ rfl (by decide +kernel) (by decide +kernel)) rfl (pi_range1 rfl B.range_ (pa_cons (L2.pvj 12) pa_nil)) (fun _ _ _ _ => pg_name (i := 0) (show (["_law_i", "_law_nexts", "_law_steer", "_law_by"] : List Str).Nodup by decide +kernel) rfl (Or.inl rfl)) (fun _ _ _ _ => (pe_op jcat (pe_callF c_l_scaled hr rfl (pa_cons (pe_ix (show IxR _ (JIx (SqL K)) from jix_list) (L2.pvj 1) (L2.pvj 0) (fun _ _ => rfl)) (pa_cons (L2.pvj 3) pa_nil))) (pe_lst (pa_cons (pe_op (ji op_mulW) (L2.pvj 3) (pe_ix (show IxR _ (JIx (SqL K)) from jix_list) (L2.pvj 2) (L2.pvj 0) (fun _ _ => rfl))) pa_nil)))) rfl)
 U_5)
 obtain ⟨u_3, E_3, U_3⟩ := L2.hide_it (p := fun t => PSs (cxOf CX0 P w K mg base ["_law_parts_here", "_law_rows", "_law_straight_here", "_law_old", "_law_nexts", "_law_steer", "_law_push", "_law_add", "_law_divisor", "_law_numbers", "_law_more", "_law_by", "_law_many", "_law_wide", "_law_table", "_law_pushed"] "_law_put_late" (defScope s_l_put_late) f cdv A outer s H E).nox ((defBody s_l_put_late).drop 3) t) (pss_cons (ps_comp (i := 13) sc_l_put_late.nd rfl rfl (own := ["_law_row"]) (caps := []) (blk_mk rfl) rfl (pi_list (pe_op jcat (L2.pvj 3) (L2.pvj 1))) (fun _ _ _ _ => pg_name (i := 0) (show (["_law_row"] : List Str).Nodup by decide +kernel) rfl (Or.inl rfl)) (fun _ _ _ _ => (pe_op (show OpR _ _ (rCatT K) from op_catT) (pe_slice (show SlR _ (JSlT K) from jsl_tup) (L2.pvj 0) po_none (po_some (pe_un un_neg pe_int))) (pe_tup (pa_cons pe_int (pa_cons (pe_ix (show IxR _ (JIx (SqT K)) from jix_tup) (L2.pvj 0) (pe_un un_neg pe_int) (fun _ _ => rfl)) pa_nil))))) rfl)
 U_4)
 refine ⟨_, (pss_cons (ps_asg (L2.pvj 0) (pg_lst rfl (pgs_cons (pg_name (i := 3) sc_l_put_late.nd rfl (Or.inl rfl)) (pgs_cons (pg_name (i := 4) sc_l_put_late.nd rfl (Or.inr rfl)) (pgs_cons (pg_name (i := 5) sc_l_put_late.nd rfl (Or.inr rfl)) (pgs_cons (pg_name (i := 6) sc_l_put_late.nd rfl (Or.inl rfl)) (pgs_cons (pg_name (i := 7) sc_l_put_late.nd rfl (Or.inl rfl)) (pgs_cons (pg_name (i := 8) sc_l_put_late.nd rfl (Or.inl rfl)) pgs_nil))))))))
 (pss_cons (ps_asg (L2.pvj 2) (pg_tup rfl (pgs_cons (pg_name (i := 9) sc_l_put_late.nd rfl (Or.inl rfl)) (pgs_cons (pg_name (i := 10) sc_l_put_late.nd rfl (Or.inl rfl)) (pgs_cons (pg_name (i := 11) sc_l_put_late.nd rfl (Or.inr rfl)) pgs_nil)))))
 (pss_cons (ps_set (i := 12) sc_l_put_late.nd rfl (Or.inl rfl) (pe_callB jlen rfl B.len_ boot_len_ (pa_cons (L2.pvj 4) pa_nil)))
 U_3))), ?_⟩
 try dsimp only [cxOf, Cx.nox, Cx.wish]
 have n3 := MO.n3
 have p6 := MO.p6
 have ln1 := MO.nexts.1
 have ln2 := MO.steer
 have ln3 := MO.push.1
 have ln4 := MO.add
 have fw := MBm.few
 have fr : rows.length <= 100 := PK.few
 have lrv : rv.length = m.rows.length := Paired.length PD.hrv
 have lnv : nv.length = m.nexts.length := Paired.length PD.hnv
 have lpv : pv.length = m.push.length := Paired.length PD.hpv
 have lr2 : rv2.length = rows.length := Paired.length hrv2
 have kl : l.ns.length = n := PK.len
 refine ⟨_, rfl, pl, _, rfl, SqL.of hl, rfl, _, _, rfl, _, _, rfl, _, _, rfl, _, _, rfl, _, _, rfl, _, _, rfl, rfl, ?_⟩
 refine ⟨_, rfl, st, _, rfl, SqT.of ST.tup, rfl, _, _, rfl, _, _, rfl, _, _, rfl, rfl, ?_⟩
 refine ⟨_, rfl, n0, _, rfl, .inl (SqL.of PD.hn), ?_⟩
 have stb : ∀ {i : Nat}, i < n -> Bd 300 (m.steer.getD i 0) := fun h => MBm.steer _ (getD_mem (by omega))
 show u_3 _ [some (.ref pl), some (.ref rl), some (.ref st), some (.ref r), some (.ref n0), some (.ref sa), some (.ref p), some (.ref a), some (.int m.div), some (.ref na), some (.int l.a), some (.int l.d), some (.int ((nv.length : Nat) : Int)), none, none, none] _
 rw [E_3]
 try dsimp only [cxOf, Cx.nox, Cx.wish]
 refine ⟨_, rfl, _, rfl, r, rl, _, _, rfl, rfl, PD.hr, hrl, Nat.le_of_lt (small1000 (by omega)), fun c1 hc1 => ?_⟩
 have yG1 := same_new hc1 (HO.lst (rv ++ rv2))
 have ec1 := upd_same (H := H) (a := c1) (o := HO.lst (rv ++ rv2))
 generalize hhG1 : upd H c1 (HO.lst (rv ++ rv2)) = G1 at yG1 ec1 |-
 have SG1 := yG1
 have hw1 : WaysV G1 (rv ++ rv2) (m.rows ++ rows) := paired_app (WaysV.same SG1 PD.hrv) (WaysV.same SG1 hrv2)
 refine ⟨c1, rfl, ⟨_, SqL.of ec1⟩, comp_list (K := K) (a := c1) (xs := rv ++ rv2) (fun i ys σ H' => WaysV H' ys (((m.rows ++ rows).take i).map (ltR n)) /\ (∃ o, σ = [o]) /\ Same G1 H')
  ⟨.nil, ⟨none, rfl⟩, Same.refl _⟩ (fun i ys σ H' hi ⟨e1, _, sm⟩ => ⟨SqL.of (sm _ _ ec1), by have := Paired.length e1; rw [List.length_map, List.length_take] at this; omega⟩) (by rw [List.length_append]; exact Nat.le_of_lt (small1000 (by omega))) ?_ ?_⟩
 ·rintro i x ys σ H' hi ⟨hz, ⟨o1, rfl⟩, sm⟩
  obtain ⟨r1, hr', a1, rfl, ea0⟩ := paired_get hw1 hi
  have rl' : r1.length = n + 1 := (List.mem_append.mp (List.mem_of_getElem? hr')).elim (MO.rows r1) (PK.rows r1)
  have ea : H' a1 = some (.tup (rowV (r1.take n) (r1.getD n 0))) := by rw [rowV_split rl']; exact sm _ _ ea0
  refine ⟨_, rfl, _, rfl, _, rfl, a1, _, rfl, SqT.of ea, cut_last_no _ _, fun u1 hu1 => ?_⟩
  rw [show cutV (rowV (r1.take n) (r1.getD n 0)) none (some (-1)) = (r1.take n).map V.int from cut_last _ _]
  have z1 := same_new hu1 (HO.tup ((r1.take n).map V.int))
  refine ⟨_, rfl, _, rfl, a1, _, _, _, rfl, rfl, SqT.of (z1 _ _ ea), atI_last _ _, (by show 2 <= sizeLine; decide), fun u2 hu2 => ?_⟩
  have z2 := same_new hu2 (HO.tup [V.int 0, V.int (r1.getD n 0)])
  refine ⟨u1, u2, _, _, rfl, rfl, SqT.of (z2 _ _ upd_same), SqT.of upd_same, (fun z => ?_), ?_, (fun z => nomatch z), fun _ u3 hu3 => ?_⟩
  ·have := congrArg List.length z
   rw [List.length_map, List.length_take, List.length_nil] at this
   omega
  ·rw [List.length_map, List.length_take]
   show _ + 2 <= _
   exact Nat.le_of_lt (small1000 (by omega))
  have z3 := same_new hu3 (HO.tup ((r1.take n).map V.int ++ [V.int 0, V.int (r1.getD n 0)]))
  have sA := z1.trans (z2.trans z3)
  refine ⟨?_, ⟨_, rfl⟩, sm.trans sA⟩
  rw [take_snoc hr', List.map_append (l₁ := List.take i _)]
  refine paired_snoc ⟨u3, rfl, upd_same.trans ?_⟩ (WaysV.same sA hz)
  unfold ltR
  rw [List.map_append]
  rfl
 rintro wv σ J1 ⟨hwv, ⟨o1, rfl⟩, y1⟩ w1 hw9
 rw [take_all (by rw [List.length_append, List.length_append]; omega)] at hwv
 have SG2 := SG1.trans y1
 replace ec1 := (y1 _ _ ec1)
 have yG3 := same_new hw9 (HO.lst wv)
 have ew1 := upd_same (H := J1) (a := w1) (o := HO.lst wv)
 generalize hhG3 : upd J1 w1 (HO.lst wv) = G3 at yG3 ew1 |-
 have SG3 := SG2.trans yG3
 replace ec1 := (yG3 _ _ ec1)
 replace hwv := (WaysV.same yG3 hwv)
 show u_4 _ [some (.ref pl), some (.ref rl), some (.ref st), some (.ref r), some (.ref n0), some (.ref sa), some (.ref p), some (.ref a), some (.int m.div), some (.ref na), some (.int l.a), some (.int l.d), some (.int ((nv.length : Nat) : Int)), some (.ref w1), none, none] _
 rw [E_4]
 try dsimp only [cxOf, Cx.nox, Cx.wish]
 refine ⟨_, rfl, _, rfl, (by omega), (by omega), comp_range (lo := 0) (n := ((nv.length : Nat) : Int).toNat)
  (fun i ys σ H' => TabV H' ys (((m.nexts.zip m.steer).take i).map fun q => scM l.d (q.1 ++ [q.2])) /\ (∃ o, σ = [o, some (.ref n0), some (.ref sa), some (.int l.d)]) /\ Same G3 H')
  ⟨.nil, ⟨none, rfl⟩, Same.refl _⟩ (fun i ys σ H' ⟨e1, _⟩ => by have := Paired.length e1; rw [List.length_map, List.length_take] at this; omega) (Nat.le_of_lt (small1000 (by omega))) ?_ ?_⟩
 ·rintro i ys σ H' hi ⟨hz, ⟨o1, rfl⟩, sm⟩
  have s0 := SG3.trans sm
  have hv : nv[i]? = some (nv[i]'(by omega)) := List.getElem?_eq_getElem _
  obtain ⟨r1, hr', a1, e1, ea⟩ := paired_get PD.hnv hv
  have rl' := MO.nexts.2 r1 (List.mem_of_getElem? hr')
  have ai : atI nv (0 + (i : Int)) = some (.ref a1) := by rw [Int.zero_add]; exact atI_nat (hv.trans (by rw [e1]))
  have as' : atI (m.steer.map V.int) (0 + (i : Int)) = some (.int (m.steer.getD i 0)) := by rw [Int.zero_add]; exact at_int (by omega)
  refine ⟨_, rfl, _, rfl, n0, _, _, _, rfl, rfl, SqL.of (s0 _ _ PD.hn), ai, _, rfl, l.d, a1, r1, rfl, s0 _ _ ea, (by omega), PK.d.mono (by decide), (fun x hx => (MBm.nexts r1 (List.mem_of_getElem? hr') x hx).mono (by decide)), fun q1 H2 s2 _ eq1 => ?_⟩
  have s02 := s0.trans s2
  refine ⟨_, rfl, _, rfl, _, rfl, sa, _, _, _, rfl, rfl, SqL.of (s02 _ _ PD.hs), as', _, _, rfl, rfl, ⟨PK.d.mono (by decide), (stb (by omega)).mono (by decide)⟩, (by show 1 <= sizeLine; decide), fun z hz1 => ?_⟩
  have zz := same_new hz1 (HO.lst [V.int (l.d * m.steer.getD i 0)])
  refine ⟨q1, z, _, _, rfl, rfl, zz _ _ eq1, upd_same, (by rw [List.length_map, scM_len]; exact Nat.le_of_lt (small1000 (by show r1.length + 1 <= 1000; omega))), fun c hc => ?_⟩
  have zc := same_new hc (HO.lst ((scM l.d r1).map V.int ++ [V.int (l.d * m.steer.getD i 0)]))
  have hst : m.steer[i]? = some (m.steer.getD i 0) := by rw [List.getD_eq_getElem?_getD, List.getElem?_eq_getElem (by omega)]; rfl
  have hz' : (m.nexts.zip m.steer)[i]? = some (r1, m.steer.getD i 0) := by rw [List.getElem?_zip_eq_some]; exact ⟨hr', hst⟩
  have sA := s2.trans (zz.trans zc)
  refine ⟨?_, ⟨_, rfl⟩, sm.trans sA⟩
  rw [take_snoc hz', List.map_append (l₁ := List.take i _)]
  exact paired_snoc (R := LstI _) ⟨c, rfl, upd_same.trans (by show _ = some (HO.lst ((scM l.d (r1 ++ [m.steer.getD i 0])).map V.int)); rw [<- scM_app, List.map_append]; rfl)⟩ (TabV.same sA hz)
 rintro tn σ J2 ⟨htn, ⟨o1, rfl⟩, y2⟩ n1 hn1
 rw [take_all (by rw [List.length_zip]; omega)] at htn
 have lt0 := Paired.length htn
 rw [List.length_map, List.length_zip] at lt0
 have SG4 := SG3.trans y2
 replace ec1 := (y2 _ _ ec1)
 replace hwv := (WaysV.same y2 hwv)
 replace ew1 := (y2 _ _ ew1)
 have x1 := same_new hn1 (HO.lst tn)
 have en0 := upd_same (H := J2) (a := n1) (o := HO.lst tn)
 generalize hhX1 : upd J2 n1 (HO.lst tn) = X1 at x1 en0 |-
 have sx := SG4.trans x1
 show u_5 _ [some (.ref pl), some (.ref rl), some (.ref st), some (.ref r), some (.ref n0), some (.ref sa), some (.ref p), some (.ref a), some (.int m.div), some (.ref na), some (.int l.a), some (.int l.d), some (.int ((nv.length : Nat) : Int)), some (.ref w1), some (.ref n1), none] _
 rw [E_5]
 try dsimp only [cxOf, Cx.nox, Cx.wish]
 refine ⟨_, rfl, .inl ⟨rfl, _, SqL.of en0⟩, _, rfl, _, rfl, m.div, na, l.ns, rfl, sx _ _ ST.ns, (by omega), MBm.div.mono (by decide), (fun x hx => (PK.ns x hx).mono (by decide)), fun q1 X2 x2 nq1 eq1 => ?_⟩
 refine ⟨(by show 1 <= sizeLine; decide), fun z2 hz2 => ?_⟩
 have x3 := same_new hz2 (HO.lst [V.int 0])
 have ez2 := upd_same (H := X2) (a := z2) (o := HO.lst [V.int 0])
 generalize hhX3 : upd X2 z2 (HO.lst [V.int 0]) = X3 at x3 ez2 |-
 refine ⟨q1, z2, _, _, rfl, rfl, x3 _ _ eq1, ez2, (by rw [List.length_map, scM_len]; exact Nat.le_of_lt (small1000 (by show l.ns.length + 1 <= 1000; omega))), fun c2 hc2 => ?_⟩
 rw [show (scM m.div l.ns).map V.int ++ [V.int 0] = (scM m.div l.ns ++ [0]).map V.int from by rw [List.map_append]; rfl]
 have x4 := same_new hc2 (HO.lst ((scM m.div l.ns ++ [0]).map V.int))
 have ec2 := upd_same (H := X3) (a := c2) (o := HO.lst ((scM m.div l.ns ++ [0]).map V.int))
 generalize hhX4 : upd X3 c2 (HO.lst ((scM m.div l.ns ++ [0]).map V.int)) = X4 at x4 ec2 |-
 have en4 := x4 _ _ (x3 _ _ (x2 _ _ en0))
 have nc2 : c2 ≠ n1 := (ne_of_none (x3 _ _ (x2 _ _ en0)) hc2).symm
 refine ⟨n1, tn, _, rfl, rfl, en4, small1000 (by omega), ?_⟩
 have y3 : Same J2 (upd X4 n1 (HO.lst (tn ++ [V.ref c2]))) := fun b o e => by
  rw [upd_ne (ne_of_none e hn1)]
  exact x4 _ _ (x3 _ _ (x2 _ _ (x1 _ _ e)))
 have en1 := upd_same (H := X4) (a := n1) (o := HO.lst (tn ++ [V.ref c2]))
 have ec3 : upd X4 n1 (HO.lst (tn ++ [V.ref c2])) c2 = some (.lst ((scM m.div l.ns ++ [0]).map V.int)) := (upd_ne nc2).trans ec2
 generalize hhJ3 : upd X4 n1 (HO.lst (tn ++ [V.ref c2])) = J3 at y3 en1 ec3 |-
 have SG5 := SG4.trans y3
 replace ec1 := (y3 _ _ ec1)
 replace hwv := (WaysV.same y3 hwv)
 replace ew1 := (y3 _ _ ew1)
 replace htn := (TabV.same y3 htn)
 have htn2 : TabV J3 (tn ++ [V.ref c2]) (ltM n m (rows, l)).nexts := paired_snoc (R := LstI _) ⟨c2, rfl, ec3⟩ htn
 show u_6 _ [some (.ref pl), some (.ref rl), some (.ref st), some (.ref r), some (.ref n0), some (.ref sa), some (.ref p), some (.ref a), some (.int m.div), some (.ref na), some (.int l.a), some (.int l.d), some (.int ((nv.length : Nat) : Int)), some (.ref w1), some (.ref n1), none] _
 rw [E_6]
 try dsimp only [cxOf, Cx.nox, Cx.wish]
 refine ⟨_, rfl, p, rfl, ⟨_, SqL.of (SG5 _ _ PD.hp)⟩, comp_list (K := K) (a := p) (xs := pv) (fun i ys σ H' => Paired (NewL H H') ys ((m.push.take i).map (scM l.d)) /\ (∃ o, σ = [o, some (.int l.d)]) /\ Same J3 H')
  ⟨.nil, ⟨none, rfl⟩, Same.refl _⟩ (fun i ys σ H' hi ⟨e1, _, sm⟩ => ⟨SqL.of (sm _ _ (SG5 _ _ PD.hp)), by have := Paired.length e1; rw [List.length_map, List.length_take] at this; omega⟩) (Nat.le_of_lt (small1000 (by omega))) ?_ ?_⟩
 ·rintro i x ys σ H' hi ⟨hz, ⟨o1, rfl⟩, sm⟩
  obtain ⟨r1, hr', a1, rfl, ea⟩ := paired_get PD.hpv hi
  have rl' := MO.push.2 r1 (List.mem_of_getElem? hr')
  have s0 := SG5.trans sm
  refine ⟨_, rfl, _, rfl, l.d, a1, r1, rfl, s0 _ _ ea, (by omega), PK.d.mono (by decide), (fun x hx => (MBm.push r1 (List.mem_of_getElem? hr') x hx).mono (by decide)), fun l2 H2 s3 nl2 el2 => ?_⟩
  refine ⟨?_, ⟨_, rfl⟩, sm.trans s3⟩
  rw [take_snoc hr', List.map_append]
  exact paired_snoc (R := NewL H _) ⟨l2, rfl, s0.free nl2, el2⟩ (newl_same s3 hz)
 rintro tp σ J4 ⟨htp, ⟨o1, rfl⟩, yJ4⟩ p1 hp1
 rw [take_all (by omega)] at htp
 have SG6 := SG5.trans yJ4
 replace ec1 := (yJ4 _ _ ec1)
 replace hwv := (WaysV.same yJ4 hwv)
 replace ew1 := (yJ4 _ _ ew1)
 replace en1 := (yJ4 _ _ en1)
 replace htn2 := (TabV.same yJ4 htn2)
 have yG7 := same_new hp1 (HO.lst tp)
 have ep1 := upd_same (H := J4) (a := p1) (o := HO.lst tp)
 generalize hhG7 : upd J4 p1 (HO.lst tp) = G7 at yG7 ep1 |-
 have SG7 := SG6.trans yG7
 replace ec1 := (yG7 _ _ ec1)
 replace hwv := (WaysV.same yG7 hwv)
 replace ew1 := (yG7 _ _ ew1)
 replace en1 := (yG7 _ _ en1)
 replace htn2 := (TabV.same yG7 htn2)
 replace htp := (newl_same yG7 htp)
 refine ⟨(by show 1 <= sizeLine; decide), fun z4 hz4 => ?_⟩
 have yG8 := same_new hz4 (HO.lst [V.int 0])
 have ez4 := upd_same (H := G7) (a := z4) (o := HO.lst [V.int 0])
 generalize hhG8 : upd G7 z4 (HO.lst [V.int 0]) = G8 at yG8 ez4 |-
 have SG8 := SG7.trans yG8
 replace ec1 := (yG8 _ _ ec1)
 replace hwv := (WaysV.same yG8 hwv)
 replace ew1 := (yG8 _ _ ew1)
 replace en1 := (yG8 _ _ en1)
 replace htn2 := (TabV.same yG8 htn2)
 replace htp := (newl_same yG8 htp)
 replace ep1 := (yG8 _ _ ep1)
 have hv0 : pv[0]? = some (pv[0]'(by omega)) := List.getElem?_eq_getElem _
 obtain ⟨r0, hr0, a0, e0, ea0⟩ := paired_get PD.hpv hv0
 have av0 : atI pv (0 : Int) = some (.ref a0) := atI_nat (j := 0) (hv0.trans (by rw [e0]))
 have lr0 : r0.length = wd := MO.push.2 r0 (List.mem_of_getElem? hr0)
 refine ⟨_, rfl, p, _, _, _, rfl, rfl, SqL.of (SG8 _ _ PD.hp), av0, a0, _, rfl, .inl (SqL.of (SG8 _ _ ea0)), z4, _, _, rfl, rfl, ez4, (by rw [List.length_map]; omega), (by rw [List.length_map]; omega), (by rw [List.length_map]; show 1 * ((r0.length : Nat) : Int).toNat <= _; exact Nat.le_of_lt (small1000 (by omega))), fun z5 hz5 => ?_⟩
 rw [List.length_map, Int.toNat_natCast, rep_zero]
 have yG9 := same_new hz5 (HO.lst ((List.replicate r0.length (0 : Int)).map V.int))
 have ez5 := upd_same (H := G8) (a := z5) (o := HO.lst ((List.replicate r0.length (0 : Int)).map V.int))
 generalize hhG9 : upd G8 z5 (HO.lst ((List.replicate r0.length (0 : Int)).map V.int)) = G9 at yG9 ez5 |-
 have SG9 := SG8.trans yG9
 replace ec1 := (yG9 _ _ ec1)
 replace hwv := (WaysV.same yG9 hwv)
 replace ew1 := (yG9 _ _ ew1)
 replace en1 := (yG9 _ _ en1)
 replace htn2 := (TabV.same yG9 htn2)
 replace htp := (newl_same yG9 htp)
 replace ep1 := (yG9 _ _ ep1)
 replace ez4 := (yG9 _ _ ez4)
 refine ⟨(by show 1 <= sizeLine; decide), fun d3 hd3 => ?_⟩
 have yG10 := same_new hd3 (HO.lst [V.ref z5])
 have ed3 := upd_same (H := G9) (a := d3) (o := HO.lst [V.ref z5])
 generalize hhG10 : upd G9 d3 (HO.lst [V.ref z5]) = G10 at yG10 ed3 |-
 have SG10 := SG9.trans yG10
 replace ec1 := (yG10 _ _ ec1)
 replace hwv := (WaysV.same yG10 hwv)
 replace ew1 := (yG10 _ _ ew1)
 replace en1 := (yG10 _ _ en1)
 replace htn2 := (TabV.same yG10 htn2)
 replace htp := (newl_same yG10 htp)
 replace ep1 := (yG10 _ _ ep1)
 replace ez4 := (yG10 _ _ ez4)
 replace ez5 := (yG10 _ _ ez5)
 have ltp := Paired.length htp
 rw [List.length_map] at ltp
 refine ⟨p1, d3, _, _, rfl, rfl, ep1, ed3, Nat.le_of_lt (small1000 (by show tp.length + 1 <= 1000; omega)), fun p2 hp2 => ?_⟩
 have yG11 := same_new hp2 (HO.lst (tp ++ [V.ref z5]))
 have ep2 := upd_same (H := G10) (a := p2) (o := HO.lst (tp ++ [V.ref z5]))
 generalize hhG11 : upd G10 p2 (HO.lst (tp ++ [V.ref z5])) = G11 at yG11 ep2 |-
 have SG11 := SG10.trans yG11
 replace ec1 := (yG11 _ _ ec1)
 replace hwv := (WaysV.same yG11 hwv)
 replace ew1 := (yG11 _ _ ew1)
 replace en1 := (yG11 _ _ en1)
 replace htn2 := (TabV.same yG11 htn2)
 replace htp := (newl_same yG11 htp)
 replace ep1 := (yG11 _ _ ep1)
 replace ez4 := (yG11 _ _ ez4)
 replace ez5 := (yG11 _ _ ez5)
 replace ed3 := (yG11 _ _ ed3)
 have hr0' : (m.push.map (scM l.d))[0]? = some (scM l.d r0) := by rw [List.getElem?_map, hr0]; rfl
 have htp2 : TabV G11 (tp ++ [V.ref z5]) (ltM n m (rows, l)).push := paired_snoc (R := LstI _) ⟨z5, rfl, by rw [getD_get hr0', <- zeros_eq, scM_len]; exact ez5⟩ (NewL.tab htp)
 show u_7 _ [some (.ref pl), some (.ref rl), some (.ref st), some (.ref r), some (.ref n0), some (.ref sa), some (.ref p), some (.ref a), some (.int m.div), some (.ref na), some (.int l.a), some (.int l.d), some (.int ((nv.length : Nat) : Int)), some (.ref w1), some (.ref n1), some (.ref p2)] _
 rw [E_7]
 try dsimp only [cxOf, Cx.nox, Cx.wish]
 refine ⟨_, rfl, _, rfl, (by show 1 <= sizeLine; decide), fun z6 hz6 => ?_⟩
 have yG12 := same_new hz6 (HO.lst [V.int 0])
 have ez6 := upd_same (H := G11) (a := z6) (o := HO.lst [V.int 0])
 generalize hhG12 : upd G11 z6 (HO.lst [V.int 0]) = G12 at yG12 ez6 |-
 have SG12 := SG11.trans yG12
 replace ec1 := (yG12 _ _ ec1)
 replace hwv := (WaysV.same yG12 hwv)
 replace ew1 := (yG12 _ _ ew1)
 replace en1 := (yG12 _ _ en1)
 replace htn2 := (TabV.same yG12 htn2)
 replace htp := (newl_same yG12 htp)
 replace ep1 := (yG12 _ _ ep1)
 replace ez4 := (yG12 _ _ ez4)
 replace ez5 := (yG12 _ _ ez5)
 replace ed3 := (yG12 _ _ ed3)
 replace ep2 := (yG12 _ _ ep2)
 replace htp2 := (TabV.same yG12 htp2)
 refine ⟨_, rfl, _, _, rfl, rfl, z6, _, _, rfl, rfl, ez6, (by omega), (by omega), (by show 1 * (((nv.length : Nat) : Int) + 1).toNat <= _; exact Nat.le_of_lt (small1000 (by omega))), fun z7 hz7 => ?_⟩
 rw [rep_zero, show (((nv.length : Nat) : Int) + 1).toNat = m.steer.length + 1 by omega, map0_app]
 have yG13 := same_new hz7 (HO.lst (((m.steer.map fun _ => (0 : Int)) ++ [0]).map V.int))
 have ez7 := upd_same (H := G12) (a := z7) (o := HO.lst (((m.steer.map fun _ => (0 : Int)) ++ [0]).map V.int))
 generalize hhG13 : upd G12 z7 (HO.lst (((m.steer.map fun _ => (0 : Int)) ++ [0]).map V.int)) = G13 at yG13 ez7 |-
 have SG13 := SG12.trans yG13
 replace ec1 := (yG13 _ _ ec1)
 replace hwv := (WaysV.same yG13 hwv)
 replace ew1 := (yG13 _ _ ew1)
 replace en1 := (yG13 _ _ en1)
 replace htn2 := (TabV.same yG13 htn2)
 replace htp := (newl_same yG13 htp)
 replace ep1 := (yG13 _ _ ep1)
 replace ez4 := (yG13 _ _ ez4)
 replace ez5 := (yG13 _ _ ez5)
 replace ed3 := (yG13 _ _ ed3)
 replace ep2 := (yG13 _ _ ep2)
 replace htp2 := (TabV.same yG13 htp2)
 replace ez6 := (yG13 _ _ ez6)
 refine ⟨_, rfl, _, rfl, _, rfl, l.d, a, m.add, rfl, (SG13 _ _ PD.ha), (by omega), PK.d.mono (by decide), (fun x hx => (MBm.add x hx).mono (by decide)), fun q2 J7 y7 _ eq2 => ?_⟩
 have SG14 := SG13.trans y7
 replace ec1 := (y7 _ _ ec1)
 replace hwv := (WaysV.same y7 hwv)
 replace ew1 := (y7 _ _ ew1)
 replace en1 := (y7 _ _ en1)
 replace htn2 := (TabV.same y7 htn2)
 replace htp := (newl_same y7 htp)
 replace ep1 := (y7 _ _ ep1)
 replace ez4 := (y7 _ _ ez4)
 replace ez5 := (y7 _ _ ez5)
 replace ed3 := (y7 _ _ ed3)
 replace ep2 := (y7 _ _ ep2)
 replace htp2 := (TabV.same y7 htp2)
 replace ez6 := (y7 _ _ ez6)
 replace ez7 := (y7 _ _ ez7)
 refine ⟨_, rfl, _, rfl, _, _, rfl, rfl, ⟨MBm.div.mono (by decide), PK.a.mono (by decide)⟩, (by show 1 <= sizeLine; decide), fun d4 hd4 => ?_⟩
 have yG15 := same_new hd4 (HO.lst [V.int (m.div * l.a)])
 have ed4 := upd_same (H := J7) (a := d4) (o := HO.lst [V.int (m.div * l.a)])
 generalize hhG15 : upd J7 d4 (HO.lst [V.int (m.div * l.a)]) = G15 at yG15 ed4 |-
 have SG15 := SG14.trans yG15
 replace ec1 := (yG15 _ _ ec1)
 replace hwv := (WaysV.same yG15 hwv)
 replace ew1 := (yG15 _ _ ew1)
 replace en1 := (yG15 _ _ en1)
 replace htn2 := (TabV.same yG15 htn2)
 replace htp := (newl_same yG15 htp)
 replace ep1 := (yG15 _ _ ep1)
 replace ez4 := (yG15 _ _ ez4)
 replace ez5 := (yG15 _ _ ez5)
 replace ed3 := (yG15 _ _ ed3)
 replace ep2 := (yG15 _ _ ep2)
 replace htp2 := (TabV.same yG15 htp2)
 replace ez6 := (yG15 _ _ ez6)
 replace ez7 := (yG15 _ _ ez7)
 replace eq2 := (yG15 _ _ eq2)
 refine ⟨q2, d4, _, _, rfl, rfl, eq2, ed4, (by rw [List.length_map, scM_len]; exact Nat.le_of_lt (small1000 (by show m.add.length + 1 <= 1000; omega))), fun c4 hc4 => ?_⟩
 rw [show (scM l.d m.add).map V.int ++ [V.int (m.div * l.a)] = (scM l.d m.add ++ [m.div * l.a]).map V.int from by rw [List.map_append]; rfl]
 have yG16 := same_new hc4 (HO.lst ((scM l.d m.add ++ [m.div * l.a]).map V.int))
 have ec4 := upd_same (H := G15) (a := c4) (o := HO.lst ((scM l.d m.add ++ [m.div * l.a]).map V.int))
 generalize hhG16 : upd G15 c4 (HO.lst ((scM l.d m.add ++ [m.div * l.a]).map V.int)) = G16 at yG16 ec4 |-
 have SG16 := SG15.trans yG16
 replace ec1 := (yG16 _ _ ec1)
 replace hwv := (WaysV.same yG16 hwv)
 replace ew1 := (yG16 _ _ ew1)
 replace en1 := (yG16 _ _ en1)
 replace htn2 := (TabV.same yG16 htn2)
 replace htp := (newl_same yG16 htp)
 replace ep1 := (yG16 _ _ ep1)
 replace ez4 := (yG16 _ _ ez4)
 replace ez5 := (yG16 _ _ ez5)
 replace ed3 := (yG16 _ _ ed3)
 replace ep2 := (yG16 _ _ ep2)
 replace htp2 := (TabV.same yG16 htp2)
 replace ez6 := (yG16 _ _ ez6)
 replace ez7 := (yG16 _ _ ez7)
 replace eq2 := (yG16 _ _ eq2)
 replace ed4 := (yG16 _ _ ed4)
 refine ⟨_, rfl, _, rfl, _, _, rfl, rfl, ⟨PK.d.mono (by decide), MBm.div.mono (by decide)⟩, (by show 6 <= sizeLine; decide), fun pl2 hpl2 => ?_⟩
 rw [Int.mul_comm l.d m.div]
 have yG17 := same_new hpl2 (HO.lst [V.ref w1, V.ref n1, V.ref z7, V.ref p2, V.ref c4, V.int (m.div * l.d)])
 have epl2 := upd_same (H := G16) (a := pl2) (o := HO.lst [V.ref w1, V.ref n1, V.ref z7, V.ref p2, V.ref c4, V.int (m.div * l.d)])
 generalize hhG17 : upd G16 pl2 (HO.lst [V.ref w1, V.ref n1, V.ref z7, V.ref p2, V.ref c4, V.int (m.div * l.d)]) = G17 at yG17 epl2 |-
 have SG17 := SG16.trans yG17
 replace ec1 := (yG17 _ _ ec1)
 replace hwv := (WaysV.same yG17 hwv)
 replace ew1 := (yG17 _ _ ew1)
 replace en1 := (yG17 _ _ en1)
 replace htn2 := (TabV.same yG17 htn2)
 replace htp := (newl_same yG17 htp)
 replace ep1 := (yG17 _ _ ep1)
 replace ez4 := (yG17 _ _ ez4)
 replace ez5 := (yG17 _ _ ez5)
 replace ed3 := (yG17 _ _ ed3)
 replace ep2 := (yG17 _ _ ep2)
 replace htp2 := (TabV.same yG17 htp2)
 replace ez6 := (yG17 _ _ ez6)
 replace ez7 := (yG17 _ _ ez7)
 replace eq2 := (yG17 _ _ eq2)
 replace ed4 := (yG17 _ _ ed4)
 replace ec4 := (yG17 _ _ ec4)
 exact q (.ref pl2) G17 SG17 ⟨pl2, w1, n1, z7, p2, c4, wv, tn ++ [V.ref c2], tp ++ [V.ref z5], rfl, epl2, ⟨ew1, hwv, en1, htn2, ez7, ep2, htp2, ec4⟩⟩
theorem ok_l_told {k : Nat} {f : Addr} {fd : FuncData} (F : Fun K "_law_told" "_law_told" s_l_told f fd) (B : Bl mg) (c_Thing_modes : FnM P w K mg base aThing "modes" ["self"] k (spModes aThing aMode)) : FnOk P w K mg base CX0 (k + 1) f fd ["_law_thing"] (spTold32 aThing aMode) := by
 refine F.ok sc_l_told (fun vs H Q E h => ?_) (fun cdv A outer s H vs Q E hr h => ?_)
 ·obtain ⟨o, kp, km, n, bs, ms, pv, mv, rfl, _⟩ := h
  rfl
 obtain ⟨o, kp, km, n, bs, ms, pv, mv, rfl, TA, m40, q⟩ := h
 have hrm := hr
 refine ⟨_, (pss_cons (ps_set (i := 1) sc_l_told.nd rfl (Or.inl rfl) (pe_lst pa_nil))
  (pss_cons (ps_for PassesOwn.never rfl (pi_list (pe_methF0 c_Thing_modes TThing hrm (L2.pvj 0))) (pg_name (i := 2) sc_l_told.nd rfl (Or.inl rfl)) (pss_one (ps_expr (pe_bm PySem.F.plainAttrs_list PySem.F.slot_list_append PySem.F.type_list_append japp (L2.pvj 1) (pa_cons (pe_lst (pa_cons (pe_fld (L2.pvj 2) rfl) (pa_cons (pe_fld (L2.pvj 2) rfl) (pa_cons (pe_fld (L2.pvj 2) rfl) (pa_cons (pe_fld (L2.pvj 2) rfl) (pa_cons (pe_fld (L2.pvj 2) rfl) (pa_cons (pe_fld (L2.pvj 2) rfl) pa_nil))))))) pa_nil)))))
  (pss_one (ps_ret (L2.pvj 1))))), ?_⟩
 try dsimp only [cxOf, Cx.nox, Cx.wish]
 obtain ⟨dx, ins⟩ := TA.ins
 have lmv : mv.length = ms.length := Paired.length TA.hmv
 refine ⟨(by show 0 <= sizeLine; decide), fun fl hfl => ?_⟩
 have y2 := same_new hfl (HO.lst [])
 have efl0 := upd_same (H := H) (a := fl) (o := HO.lst [])
 generalize hhJ2 : upd H fl (HO.lst []) = J2 at y2 efl0 |-
 refine ⟨_, rfl, o, dx, _, rfl, (y2 _ _ ins), rfl, o, kp, km, n, bs, ms, pv, mv, rfl, TA.same y2, fun l2 J3 y3 nl2 el2 => ?_⟩
 have nel : l2 ≠ fl := (ne_of_none efl0 nl2).symm
 have s3 := hide_fresh (B := [fl]) (fun x hx => by rw [List.mem_singleton.mp hx]; exact hfl) (y2.trans y3)
 refine ⟨l2, rfl, ⟨_, SqL.of el2⟩, for_list (K := K) (a := l2) (xs := mv)
  (fun i σ H' => ∃ (xs : List V) (o2 : Option V), σ = [some (.ref o), some (.ref fl), o2] /\ Same H (hide [fl] H') /\ H' l2 = some (.lst mv) /\ H' fl = some (.lst xs) /\ Paired (PartsV (hide [fl] H')) xs (ms.take i))
  ⟨[], none, rfl, s3, el2, y3 _ _ efl0, .nil⟩ (fun i σ H' _ ⟨_, _, _, _, e, _⟩ => SqL.of e) ?_ ?_⟩
 ·rintro i x σ H' hix ⟨xs, o2, rfl, sm, e2, efl, hxs⟩
  obtain ⟨md, hmd, oo, M, rfl, k0⟩ := paired_get TA.hmv hix
  have sj := sm.trans hide_sub
  have im : i < ms.length := (List.getElem?_eq_some_iff.mp hmd).1
  have lx := Paired.length hxs
  rw [List.length_take] at lx
  refine ⟨_, rfl, .inl ⟨rfl, _, SqL.of efl⟩, _, rfl, oo, aMode, M.dx, _, _, rfl, (sj _ _ k0.ins), TMode.cl, AMode.n_rows, rfl, _, rfl, oo, aMode, M.dx, _, _, rfl, (sj _ _ k0.ins), TMode.cl, AMode.n_nexts, rfl, _, rfl, oo, aMode, M.dx, _, _, rfl, (sj _ _ k0.ins), TMode.cl, AMode.n_steer, rfl, _, rfl, oo, aMode, M.dx, _, _, rfl, (sj _ _ k0.ins), TMode.cl, AMode.n_push, rfl, _, rfl, oo, aMode, M.dx, _, _, rfl, (sj _ _ k0.ins), TMode.cl, AMode.n_add, rfl, _, rfl, oo, aMode, M.dx, _, _, rfl, (sj _ _ k0.ins), TMode.cl, AMode.n_divisor, rfl, (by show 6 <= sizeLine; decide), fun nl hnl => ?_⟩
  have nn : nl ≠ fl := (ne_of_none efl hnl).symm
  have zn := same_new hnl (HO.lst [V.ref M.r, V.ref M.n, V.ref M.s, V.ref M.p, V.ref M.a, V.int md.div])
  have enl := upd_same (H := H') (a := nl) (o := HO.lst [V.ref M.r, V.ref M.n, V.ref M.s, V.ref M.p, V.ref M.a, V.int md.div])
  generalize hhN : upd H' nl (HO.lst [V.ref M.r, V.ref M.n, V.ref M.s, V.ref M.p, V.ref M.a, V.int md.div]) = N at zn enl |-
  refine ⟨fl, xs, _, rfl, rfl, zn _ _ efl, small1000 (by omega), ?_⟩
  have h4 := (hide_same (B := [fl]) zn).trans (hide_put (x := fl) (HO.lst (xs ++ [V.ref nl])))
  have s4 := sm.trans h4
  refine ⟨xs ++ [V.ref nl], _, rfl, s4, (upd_ne nel).trans (zn _ _ e2), upd_same, ?_⟩
  rw [take_snoc hmd]
  refine paired_snoc (R := PartsV _) ⟨nl, M.r, M.n, M.s, M.p, M.a, M.rv, M.nv, M.pv, rfl, ?_, ⟨s4 _ _ k0.hr, WaysV.same s4 k0.hrv, s4 _ _ k0.hn, TabV.same s4 k0.hnv, s4 _ _ k0.hs, s4 _ _ k0.hp, TabV.same s4 k0.hpv, s4 _ _ k0.ha⟩⟩ (partss_same h4 hxs)
  rw [hide_at (fun z => nn (List.mem_singleton.mp z)), upd_ne nn]
  exact enl
 rintro σ H4 ⟨xs, o2, rfl, sm, e2, efl, hxs⟩
 rw [take_all (by omega)] at hxs
 exact ⟨_, rfl, q fl xs H4 (sm.trans hide_sub) efl (partss_same hide_sub hxs)⟩
theorem ok_l_right {k : Nat} {f : Addr} {fd : FuncData} (F : Fun K "_law_right" "_law_right" s_l_right f fd) (B : Bl mg) (c_Thing_is_closed : FnM P w K mg base aThing "is_closed" ["self"] k (spClosed aThing aMode)) (c_Thing_pushes : FnM P w K mg base aThing "pushes" ["self"] k (spPushes aThing aMode)) (c_l_told : Fn P w K mg base "_law_told" ["_law_thing"] k (spTold32 aThing aMode)) : FnOk P w K mg base CX0 (k + 1) f fd ["_law_thing", "_law_many", "_law_pushes", "_law_due"] (spRight32 aThing aMode) := by
 refine F.ok sc_l_right (fun vs H Q E h => ?_) (fun cdv A outer s H vs Q E hr h => ?_)
 ·obtain ⟨o, kp, km, pa, da, n, bs, ms, pv, mv, pv2, dv, rfl, _⟩ := h
  rfl
 obtain ⟨o, kp, km, pa, da, n, bs, ms, pv, mv, pv2, dv, rfl, TA, TO, hz, hpa, hpv2, hda, hdv, q⟩ := h
 have hrm := hr
 refine ⟨_, (pss_cons (ps_if (PW.pt (pw_or (pt_not (pt_val (pe_callB (show CallR _ _ (rInstO K) from call_isinstO) rfl B.isinstance_ boot_isinstance_ (pa_cons (L2.pvj 0) (pa_cons (pe_cls TThing rfl) pa_nil))))) (pw_or (pt_cmpR op_ne (pe_fld (L2.pvj 0) rfl) (L2.pvj 1) (nomark _)) (pw_or (pt_cmpR (op_neD hr.units) (pe_methF0 c_Thing_pushes TThing hrm (L2.pvj 0)) (L2.pvj 2) (nomark _)) (pw_or1 (pt_cmpR op_isnotB (pe_methF0 c_Thing_is_closed TThing hrm (L2.pvj 0)) pe_bl (nomark _))))))) (pss_one (ps_ret pe_bl)) pss_nil)
  (pss_one (ps_ret (pe_cmpR (op_eqD hr.units) (pe_callF c_l_told hr rfl (pa_cons (L2.pvj 0) pa_nil)) (L2.pvj 3) (nomark _))))), ?_⟩
 try dsimp only [cxOf, Cx.nox, Cx.wish]
 obtain ⟨dx, ins⟩ := TA.ins
 have eall : (ms.all fun m => m.steer.all (fun x => decide (x = 0))) = true := List.all_eq_true.mpr hz
 refine ⟨_, rfl, _, _, _, _, rfl, (TThing.ty ins), kit_self, _, rfl, iteF ?_⟩
 refine ⟨_, rfl, o, aThing, dx, _, _, rfl, ins, TThing.cl, AThing.n_many, rfl, _, rfl, rfl, _, rfl, iteB0 (ndec_yes rfl) ?_⟩
 refine ⟨_, rfl, o, dx, _, rfl, ins, rfl, o, kp, km, n, bs, ms, pv, mv, rfl, TA, fun l1 H1 s1 _ el1 => ?_⟩
 refine ⟨_, rfl, .list (bs.map puT), .lst (SqL.of el1) (dp_pu (pu_same s1 TA.hpv)), .lst (SqL.of (s1 _ _ hpa)) (dp_pu (pu_same s1 hpv2)), lay_pt bs, dep_pts bs, _, rfl, iteF ?_⟩
 refine ⟨_, rfl, o, dx, _, rfl, s1 _ _ ins, rfl, o, kp, km, n, bs, ms, pv, mv, rfl, TA.same s1, TO, fun H2 s2 => ?_⟩
 rw [eall]
 refine ⟨_, _, rfl, rfl, _, rfl, iteF ?_⟩
 have s12 := s1.trans s2
 refine ⟨_, rfl, o, kp, km, n, bs, ms, pv, mv, rfl, TA.same s12, TO.m40, fun l lv H3 s3 el hlv => ?_⟩
 have s13 := s12.trans s3
 refine ⟨_, rfl, .list (ms.map mdT), .lst (SqL.of el) (dp_mds hlv), .lst (SqL.of (s13 _ _ hda)) (dp_mds (partss_same s13 hdv)), lay_mds ms, dep_mdl ms, ?_⟩
 exact q _ s13
end
noncomputable def TcV (H : Hp) (v : V) (p : PC) : Prop := ∃ (tt rl st na : Addr) (rv : List V), v = .ref tt /\ H tt = some (.tup [.ref rl, .ref st]) /\ H rl = some (.lst rv) /\ WaysV H rv p.1 /\ StrT H st na p.2
theorem TcV.same {H H' : Hp} {v : V} {p : PC} (s : Same H H') (h : TcV H v p) : TcV H' v p :=
 let ⟨tt, rl, st, na, rv, e, h1, h2, h3, h4⟩ := h
 ⟨tt, rl, st, na, rv, e, s _ _ h1, s _ _ h2, WaysV.same s h3, h4.same s⟩
theorem tcs_same {H H' : Hp} {vs : List V} {ps : List PC} (s : Same H H') (h : Paired (TcV H) vs ps) : Paired (TcV H') vs ps := Paired.mapP h fun _ _ z => z.same s
theorem st_zero {ms : List MD} {ps : List PC} : ∀ m ∈ modesM stM ms ps, m.steer.all (fun x => decide (x = 0)) = true := fun m hm => by
 obtain ⟨a, _, hm⟩ := List.mem_flatMap.mp hm
 obtain ⟨p, _, rfl⟩ := List.mem_map.mp hm
 exact steer0 _
theorem lt_zero {n : Nat} {ms : List MD} {ps : List PC} : ∀ m ∈ modesM (ltM n) ms ps, m.steer.all (fun x => decide (x = 0)) = true := fun m hm => by
 obtain ⟨a, _, hm⟩ := List.mem_flatMap.mp hm
 obtain ⟨p, _, rfl⟩ := List.mem_map.mp hm
 show ((a.steer.map fun _ => (0 : Int)) ++ [0]).all _ = true
 rw [List.all_append, steer0]
 rfl
theorem rd_zero {ms : List MD} {l : LF} : ∀ m ∈ ms.map (fun m => rdM m l), m.steer.all (fun x => decide (x = 0)) = true := fun m hm => by
 obtain ⟨a, _, rfl⟩ := List.mem_map.mp hm
 exact steer0 _
theorem pu_rep {H : Hp} {a : Addr} {z : Int} (h : H a = some (.tup [.int 0, .int z])) : ∀ n : Nat, Paired (PuV H) (List.replicate n [V.ref a]).flatten (List.replicate n ((0 : Int), z))
 | 0 => .nil
 | n + 1 => by
  rw [List.replicate_succ, List.flatten_cons, List.replicate_succ]
  exact .cons ⟨a, rfl, h⟩ (pu_rep h n)
theorem hide2 {a b : Addr} {H H' : Hp} {o : HO} (s : Same H H') : Same (hide [a, b] H) (hide [a, b] (upd H' b o)) := hide_off fun c u e n => by
 rw [upd_ne (fun z => n (by rw [z]; simp))]
 exact s _ _ e
theorem neg_sub0 (x : Int) : 0 - x = -x := Int.zero_sub x
theorem LeafB.pb {n : Nat} {l : LF} (h1 : l.ns.length = n) (h2 : 0 < l.d) (h3 : ∀ x ∈ l.ns, Bd 101 x) (h4 : Bd 101 l.a) (h5 : Bd 31 l.d) : PB n ([], l) :=
 ⟨(fun _ h => nomatch h), Nat.zero_le _, h1, h2, fun x hx => (h3 x hx).mono (by decide), h4.mono (by decide), h5.mono (by decide)⟩
section
variable {P : Program} {w : World} {K : PySem.W.Frag} {mg : Str -> Option Value} {base : Heap}
noncomputable abbrev s_law : Stmt := top 69
theorem sc_law : FnScope ["_law_script", "_law_cell", "_law_many", "_law_wide", "_law_some", "_law_pushes", "_law_thing", "_law_rule_here", "_law_told_here", "_law_due", "_law_behind", "_law_parts_here", "_law_leaf", "_law_size", "_law_one"] ["_law_script"] (defScope s_law) := ⟨rfl, rfl, rfl, by decide +kernel, rfl, by decide +kernel, by decide +kernel⟩
variable {aStraight aStopped aParted aMode aThing : Addr} (TStraight : ClsF K mg "Straight" aStraight) (AStraight : AtStraight K aStraight) (TStopped : ClsF K mg "Stopped" aStopped) (AStopped : AtStopped K aStopped) (TParted : ClsF K mg "Parted" aParted) (AParted : AtParted K aParted) (TMode : ClsF K mg "Mode" aMode) (AMode : AtMode K aMode) (TThing : ClsF K mg "Thing" aThing) (AThing : AtThing K aThing) (Y : Kits K aStraight aStopped aParted)
include TStraight AStraight TStopped AStopped TParted AParted TMode AMode TThing AThing Y
theorem ok_law {k : Nat} {f : Addr} {fd : FuncData} (F : Fun K "law" "law" s_law f fd) (B : Bl mg) (c_l_cell_at : Fn P w K mg base "_law_cell_at" ["_law_script", "_law_k"] (k + 1) (spCell K)) (c_l_parts : Fn P w K mg base "_law_parts" ["_law_cell", "_law_many", "_law_wide"] (k + 1) spParts) (c_Thing___init__ : FnC P w K mg base aThing ["self", "many", "pushes", "modes"] k (spThingInit aThing aMode)) (c_Mode___init__ : FnC P w K mg base aMode ["self", "rows", "nexts", "steer", "push", "add", "divisor"] k (spModeInit aMode)) (c_l_rule : Fn P w K mg base "_law_rule" ["_law_cells", "_law_many"] (k + 1) (spRuleT32 aStraight aStopped aParted K)) (c_pieces : Fn P w K mg base "pieces" ["rule", "many"] (k + 1) (spPieces aStraight aStopped aParted 4)) (c_l_put : Fn P w K mg base "_law_put" ["_law_parts_here", "_law_rows", "_law_straight_here"] (k + 1) spPut) (c_l_put_late : Fn P w K mg base "_law_put_late" ["_law_parts_here", "_law_rows", "_law_straight_here"] (k + 1) spPutL) (c_l_right : Fn P w K mg base "_law_right" ["_law_thing", "_law_many", "_law_pushes", "_law_due"] (k + 1) (spRight32 aThing aMode)) (c_steered : Fn P w K mg base "steered" ["thing", "rule"] (k + 1) (spSteered aStraight aStopped aParted aThing aMode)) (c_late : Fn P w K mg base "late" ["thing", "rule"] (k + 1) (spLate aStraight aStopped aParted aThing aMode)) (c_l_straight : Fn P w K mg base "_law_straight" ["_law_cell", "_law_many"] (k + 1) (spStraightL aStraight)) (c_l_scaled : Fn P w K mg base "_law_scaled" ["_law_numbers", "_law_by"] (k + 1) spScaledL) (c_rounded : Fn P w K mg base "rounded" ["thing", "straight", "size"] (k + 1) (spRounded aStraight aStopped aParted aThing aMode)) (c_Thing_pushes : FnM P w K mg base aThing "pushes" ["self"] (k + 1) (spPushes aThing aMode)) (c_l_told : Fn P w K mg base "_law_told" ["_law_thing"] (k + 1) (spTold32 aThing aMode)) : FnOk P w K mg base CX0 (k + 1 + 1) f fd ["_law_script"] (spLaw K) := by
 refine F.ok sc_law (fun vs H Q E h => ?_) (fun cdv A outer s H vs Q E hr h => ?_)
 ·obtain ⟨a, ns, rfl, _⟩ := h
  rfl
 obtain ⟨sa, ns, rfl, hS, h63, qq⟩ := h
 have hrm := hr
 obtain ⟨t2, T2, R2⟩ : ∃ t2, PSs (cxOf CX0 P w K mg base ["_law_script", "_law_cell", "_law_many", "_law_wide", "_law_some", "_law_pushes", "_law_thing", "_law_rule_here", "_law_told_here", "_law_due", "_law_behind", "_law_parts_here", "_law_leaf", "_law_size", "_law_one"] "law" (defScope s_law) f cdv A outer s H E).nox ((defBody s_law).drop 3) t2 /\ ∀ (n p : Nat) (cc : Int), 1 <= n -> n <= 3 -> p <= 3 ->
  t2 { nx := fun _ H' => Q .non H', rt := Q } [some (.ref sa), some (.int cc), some (.int (n : Int)), some (.int (p : Int)), none, none, none, none, none, none, none, none, none, none, none] H := by
  obtain ⟨u_17, E_17, U_17⟩ := L2.hide_it (p := fun t => PSs (cxOf CX0 P w K mg base ["_law_script", "_law_cell", "_law_many", "_law_wide", "_law_some", "_law_pushes", "_law_thing", "_law_rule_here", "_law_told_here", "_law_due", "_law_behind", "_law_parts_here", "_law_leaf", "_law_size", "_law_one"] "law" (defScope s_law) f cdv A outer s H E).nox ((defBody s_law).drop 17) t) (pss_cons (ps_if (pt_not (pt_val (pe_callF c_l_right hr rfl (pa_cons (pe_callF c_rounded hr rfl (pa_cons (L2.pvj 6) (pa_cons (L2.pvj 12) (pa_cons (L2.pvj 13) pa_nil)))) (pa_cons (L2.pvj 2) (pa_cons (pe_op jcat (L2.pvj 5) (pe_op jrep (pe_lst (pa_cons (pe_tup (pa_cons pe_int (pa_cons (L2.pvj 13) pa_nil))) pa_nil)) (L2.pvj 2))) (pa_cons (L2.pvj 9) pa_nil))))))) (pss_one (ps_ret pe_bl)) pss_nil)
  (pss_one (ps_ret (pe_and (pe_cmpR (op_eqD hr.units) (pe_callF c_l_told hr rfl (pa_cons (L2.pvj 6) pa_nil)) (L2.pvj 4) (nomark _)) (pe_one (pe_cmpR (op_eqD hr.units) (pe_methF0 c_Thing_pushes TThing hrm (L2.pvj 6)) (L2.pvj 5) (nomark _)))))))
  obtain ⟨u_16, E_16, U_16⟩ := L2.hide_it (p := fun t => PSs (cxOf CX0 P w K mg base ["_law_script", "_law_cell", "_law_many", "_law_wide", "_law_some", "_law_pushes", "_law_thing", "_law_rule_here", "_law_told_here", "_law_due", "_law_behind", "_law_parts_here", "_law_leaf", "_law_size", "_law_one"] "law" (defScope s_law) f cdv A outer s H E).nox ((defBody s_law).drop 16) t) (pss_cons (ps_for PassesOwn.never rfl (pi_list (L2.pvj 4)) (pg_name (i := 11) sc_law.nd rfl (Or.inr rfl)) (pss_cons (ps_set (i := 14) sc_law.nd rfl (Or.inr rfl) (pe_callF c_l_put hr rfl (pa_cons (L2.pvj 11) (pa_cons (pe_lst pa_nil) (pa_cons (pe_tup (pa_cons (pe_fld (L2.pvj 12) rfl) (pa_cons (pe_fld (L2.pvj 12) rfl) (pa_cons (pe_fld (L2.pvj 12) rfl) pa_nil)))) pa_nil)))))
   (pss_cons (ps_asg (pe_comp (own := ["_law_i"]) (caps := [(11, "_law_parts_here"), (12, "_law_leaf"), (14, "_law_one")]) (blk_cap (S := defScope s_law) (N := ["_law_script", "_law_cell", "_law_many", "_law_wide", "_law_some", "_law_pushes", "_law_thing", "_law_rule_here", "_law_told_here", "_law_due", "_law_behind", "_law_parts_here", "_law_leaf", "_law_size", "_law_one"]) rfl (by decide +kernel) rfl ⟨_, rfl⟩ rfl (by decide +kernel) (by decide +kernel)) rfl (pi_range1 rfl B.range_ (pa_cons (L2.pvj 2) pa_nil)) (fun _ _ _ _ => pg_name (i := 0) (show (["_law_i", "_law_parts_here", "_law_leaf", "_law_one"] : List Str).Nodup by decide +kernel) rfl (Or.inl rfl)) (fun _ _ _ _ => (pe_op jcat (pe_ix (show IxR _ (JIx (SqL K)) from jix_list) (pe_ix (show IxR _ (JIx (SqL K)) from jix_list) (L2.pvj 3) pe_int (fun _ _ => rfl)) (L2.pvj 0) (fun _ _ => rfl)) (pe_callF c_l_scaled hr rfl (pa_cons (show PE _ _ (tFld K _ _) from pe_fld (L2.pvj 2) rfl) (pa_cons (pe_op (ji0 op_sub) pe_int (pe_ix (show IxR _ (JIx (SqL K)) from jix_list) (pe_ix (show IxR _ (JIx (SqL K)) from jix_list) (L2.pvj 1) pe_int (fun _ _ => rfl)) (L2.pvj 0) (fun _ _ => rfl))) pa_nil)))))) (pg_sub (L2.pvj 14) pe_int jset))
   (pss_one (ps_expr (pe_bm PySem.F.plainAttrs_list PySem.F.slot_list_append PySem.F.type_list_append japp (L2.pvj 9) (pa_cons (L2.pvj 14) pa_nil)))))))
  U_17)
  obtain ⟨u_15, E_15, U_15⟩ := L2.hide_it (p := fun t => PSs (cxOf CX0 P w K mg base ["_law_script", "_law_cell", "_law_many", "_law_wide", "_law_some", "_law_pushes", "_law_thing", "_law_rule_here", "_law_told_here", "_law_due", "_law_behind", "_law_parts_here", "_law_leaf", "_law_size", "_law_one"] "law" (defScope s_law) f cdv A outer s H E).nox ((defBody s_law).drop 15) t) (pss_cons (ps_set (i := 9) sc_law.nd rfl (Or.inl rfl) (pe_lst pa_nil))
  U_16)
  obtain ⟨u_14, E_14, U_14⟩ := L2.hide_it (p := fun t => PSs (cxOf CX0 P w K mg base ["_law_script", "_law_cell", "_law_many", "_law_wide", "_law_some", "_law_pushes", "_law_thing", "_law_rule_here", "_law_told_here", "_law_due", "_law_behind", "_law_parts_here", "_law_leaf", "_law_size", "_law_one"] "law" (defScope s_law) f cdv A outer s H E).nox ((defBody s_law).drop 14) t) (pss_cons (ps_set (i := 13) sc_law.nd rfl (Or.inl rfl) (pe_op (ji0 op_add) pe_int (pe_op (ji op_modN) (pe_callF c_l_cell_at hr rfl (pa_cons (L2.pvj 0) (pa_cons pe_int pa_nil))) (pe_ix jix_list (pe_lst (pa_cons pe_int (pa_cons (pe_op (ji op_pow) pe_int pe_int) pa_nil))) (pe_op (ji op_modN) (pe_callF c_l_cell_at hr rfl (pa_cons (L2.pvj 0) (pa_cons pe_int pa_nil))) pe_int) (fun _ _ => rfl)))))
  U_15)
  obtain ⟨u_13, E_13, U_13⟩ := L2.hide_it (p := fun t => PSs (cxOf CX0 P w K mg base ["_law_script", "_law_cell", "_law_many", "_law_wide", "_law_some", "_law_pushes", "_law_thing", "_law_rule_here", "_law_told_here", "_law_due", "_law_behind", "_law_parts_here", "_law_leaf", "_law_size", "_law_one"] "law" (defScope s_law) f cdv A outer s H E).nox ((defBody s_law).drop 13) t) (pss_cons (ps_set (i := 12) sc_law.nd rfl (Or.inr rfl) (pe_callF c_l_straight hr rfl (pa_cons (pe_callF c_l_cell_at hr rfl (pa_cons (L2.pvj 0) (pa_cons pe_int pa_nil))) (pa_cons (L2.pvj 2) pa_nil))))
  U_14)
  obtain ⟨u_12, E_12, U_12⟩ := L2.hide_it (p := fun t => PSs (cxOf CX0 P w K mg base ["_law_script", "_law_cell", "_law_many", "_law_wide", "_law_some", "_law_pushes", "_law_thing", "_law_rule_here", "_law_told_here", "_law_due", "_law_behind", "_law_parts_here", "_law_leaf", "_law_size", "_law_one"] "law" (defScope s_law) f cdv A outer s H E).nox ((defBody s_law).drop 12) t) (pss_cons (ps_if (PW.pt (pw_and (pt_cmpR (ji0 op_lt) (L2.pvj 2) pe_int (nomark _)) (pw_and1 (pt_not (pt_val (pe_callF c_l_right hr rfl (pa_cons (pe_callF c_late hr rfl (pa_cons (L2.pvj 6) (pa_cons (L2.pvj 7) pa_nil))) (pa_cons (pe_op (ji0 op_add) (L2.pvj 2) pe_int) (pa_cons (L2.pvj 5) (pa_cons (L2.pvj 10) pa_nil)))))))))) (pss_one (ps_ret pe_bl)) pss_nil)
  U_13)
  obtain ⟨u_11, E_11, U_11⟩ := L2.hide_it (p := fun t => PSs (cxOf CX0 P w K mg base ["_law_script", "_law_cell", "_law_many", "_law_wide", "_law_some", "_law_pushes", "_law_thing", "_law_rule_here", "_law_told_here", "_law_due", "_law_behind", "_law_parts_here", "_law_leaf", "_law_size", "_law_one"] "law" (defScope s_law) f cdv A outer s H E).nox ((defBody s_law).drop 11) t) (pss_cons (ps_if (pt_not (pt_val (pe_callF c_l_right hr rfl (pa_cons (pe_callF c_steered hr rfl (pa_cons (L2.pvj 6) (pa_cons (L2.pvj 7) pa_nil))) (pa_cons (L2.pvj 2) (pa_cons (L2.pvj 5) (pa_cons (L2.pvj 9) pa_nil))))))) (pss_one (ps_ret pe_bl)) pss_nil)
  U_12)
  obtain ⟨u_10, E_10, U_10⟩ := L2.hide_it (p := fun t => PSs (cxOf CX0 P w K mg base ["_law_script", "_law_cell", "_law_many", "_law_wide", "_law_some", "_law_pushes", "_law_thing", "_law_rule_here", "_law_told_here", "_law_due", "_law_behind", "_law_parts_here", "_law_leaf", "_law_size", "_law_one"] "law" (defScope s_law) f cdv A outer s H E).nox ((defBody s_law).drop 10) t) (pss_cons (ps_for PassesOwn.never rfl (pi_list (L2.pvj 4)) (pg_name (i := 11) sc_law.nd rfl (Or.inr rfl)) (pss_cons (ps_set (i := 9) sc_law.nd rfl (Or.inl rfl) (pe_op jcat (L2.pvj 9) (pe_comp (own := ["_law_rows", "_law_straight_here"]) (caps := [(11, "_law_parts_here")]) (blk_cap (S := defScope s_law) (N := ["_law_script", "_law_cell", "_law_many", "_law_wide", "_law_some", "_law_pushes", "_law_thing", "_law_rule_here", "_law_told_here", "_law_due", "_law_behind", "_law_parts_here", "_law_leaf", "_law_size", "_law_one"]) rfl (by decide +kernel) rfl ⟨_, rfl⟩ rfl (by decide +kernel) (by decide +kernel)) rfl (pi_list (L2.pvj 8)) (fun _ _ _ _ => show PG _ _ (gTup K 2 (gCons (gName 0) (gCons (gName 1) gNil))) from pg_tup (n := 2) rfl (pgs_cons (pg_name (i := 0) (show (["_law_rows", "_law_straight_here", "_law_parts_here"] : List Str).Nodup by decide +kernel) rfl (Or.inl rfl)) (pgs_cons (pg_name (i := 1) (show (["_law_rows", "_law_straight_here", "_law_parts_here"] : List Str).Nodup by decide +kernel) rfl (Or.inl rfl)) pgs_nil))) (fun _ _ _ _ => (pe_callF c_l_put hr rfl (pa_cons (L2.pvj 2) (pa_cons (L2.pvj 0) (pa_cons (L2.pvj 1) pa_nil))))))))
   (pss_one (ps_set (i := 10) sc_law.nd rfl (Or.inl rfl) (pe_op jcat (L2.pvj 10) (pe_comp (own := ["_law_rows", "_law_straight_here"]) (caps := [(11, "_law_parts_here")]) (blk_cap (S := defScope s_law) (N := ["_law_script", "_law_cell", "_law_many", "_law_wide", "_law_some", "_law_pushes", "_law_thing", "_law_rule_here", "_law_told_here", "_law_due", "_law_behind", "_law_parts_here", "_law_leaf", "_law_size", "_law_one"]) rfl (by decide +kernel) rfl ⟨_, rfl⟩ rfl (by decide +kernel) (by decide +kernel)) rfl (pi_list (L2.pvj 8)) (fun _ _ _ _ => show PG _ _ (gTup K 2 (gCons (gName 0) (gCons (gName 1) gNil))) from pg_tup (n := 2) rfl (pgs_cons (pg_name (i := 0) (show (["_law_rows", "_law_straight_here", "_law_parts_here"] : List Str).Nodup by decide +kernel) rfl (Or.inl rfl)) (pgs_cons (pg_name (i := 1) (show (["_law_rows", "_law_straight_here", "_law_parts_here"] : List Str).Nodup by decide +kernel) rfl (Or.inl rfl)) pgs_nil))) (fun _ _ _ _ => (pe_callF c_l_put_late hr rfl (pa_cons (L2.pvj 2) (pa_cons (L2.pvj 0) (pa_cons (L2.pvj 1) pa_nil)))))))))))
  U_11)
  obtain ⟨u_8, E_8, U_8⟩ := L2.hide_it (p := fun t => PSs (cxOf CX0 P w K mg base ["_law_script", "_law_cell", "_law_many", "_law_wide", "_law_some", "_law_pushes", "_law_thing", "_law_rule_here", "_law_told_here", "_law_due", "_law_behind", "_law_parts_here", "_law_leaf", "_law_size", "_law_one"] "law" (defScope s_law) f cdv A outer s H E).nox ((defBody s_law).drop 8) t) (pss_cons (ps_set (i := 9) sc_law.nd rfl (Or.inl rfl) (pe_lst pa_nil))
  (pss_cons (ps_set (i := 10) sc_law.nd rfl (Or.inl rfl) (pe_lst pa_nil))
  U_10))
  obtain ⟨u_7, E_7, U_7⟩ := L2.hide_it (p := fun t => PSs (cxOf CX0 P w K mg base ["_law_script", "_law_cell", "_law_many", "_law_wide", "_law_some", "_law_pushes", "_law_thing", "_law_rule_here", "_law_told_here", "_law_due", "_law_behind", "_law_parts_here", "_law_leaf", "_law_size", "_law_one"] "law" (defScope s_law) f cdv A outer s H E).nox ((defBody s_law).drop 7) t) (pss_cons (ps_comp (i := 8) sc_law.nd rfl rfl (own := ["_law_rows", "_law_straight_here"]) (caps := []) (blk_mk rfl) rfl (pi_list (pe_callF c_pieces hr rfl (pa_cons (L2.pvj 7) (pa_cons (L2.pvj 2) pa_nil)))) (fun _ _ _ _ => show PG _ _ (gTup K 2 (gCons (gName 0) (gCons (gName 1) gNil))) from pg_tup (n := 2) rfl (pgs_cons (pg_name (i := 0) (show (["_law_rows", "_law_straight_here"] : List Str).Nodup by decide +kernel) rfl (Or.inl rfl)) (pgs_cons (pg_name (i := 1) (show (["_law_rows", "_law_straight_here"] : List Str).Nodup by decide +kernel) rfl (Or.inl rfl)) pgs_nil))) (fun _ _ _ _ => (pe_tup (pa_cons (L2.pvj 0) (pa_cons (pe_tup (pa_cons (show PE _ _ (tFld K _ _) from pe_fld (L2.pvj 1) rfl) (pa_cons (show PE _ _ (tFld K _ _) from pe_fld (L2.pvj 1) rfl) (pa_cons (show PE _ _ (tFld K _ _) from pe_fld (L2.pvj 1) rfl) pa_nil)))) pa_nil)))) rfl)
  U_8)
  obtain ⟨u_6, E_6, U_6⟩ := L2.hide_it (p := fun t => PSs (cxOf CX0 P w K mg base ["_law_script", "_law_cell", "_law_many", "_law_wide", "_law_some", "_law_pushes", "_law_thing", "_law_rule_here", "_law_told_here", "_law_due", "_law_behind", "_law_parts_here", "_law_leaf", "_law_size", "_law_one"] "law" (defScope s_law) f cdv A outer s H E).nox ((defBody s_law).drop 6) t) (pss_cons (ps_set (i := 7) sc_law.nd rfl (Or.inl rfl) (pe_callF c_l_rule hr rfl (pa_cons (pe_slice jsl_list (L2.pvj 0) (po_some pe_int) (po_some (pe_op (ji0 op_add) pe_int (pe_op (ji op_modN) (pe_op (ji op_fdivW) (L2.pvj 1) pe_int) pe_int)))) (pa_cons (L2.pvj 2) pa_nil))))
  U_7)
  obtain ⟨u_5, E_5, U_5⟩ := L2.hide_it (p := fun t => PSs (cxOf CX0 P w K mg base ["_law_script", "_law_cell", "_law_many", "_law_wide", "_law_some", "_law_pushes", "_law_thing", "_law_rule_here", "_law_told_here", "_law_due", "_law_behind", "_law_parts_here", "_law_leaf", "_law_size", "_law_one"] "law" (defScope s_law) f cdv A outer s H E).nox ((defBody s_law).drop 5) t) (pss_cons (ps_set (i := 6) sc_law.nd rfl (Or.inl rfl) (pe_makeF c_Thing___init__ TThing hr rfl (pa_cons (L2.pvj 2) (pa_cons (pe_callTy call_list_of rfl B.list_ boot_list_ (pa_cons (L2.pvj 5) pa_nil)) (pa_cons (pe_comp (own := ["_law_one"]) (caps := []) (blk_mk rfl) rfl (pi_list (L2.pvj 4)) (fun _ _ _ _ => pg_name (i := 0) (show (["_law_one"] : List Str).Nodup by decide +kernel) rfl (Or.inl rfl)) (fun _ _ _ _ => (pe_makeF c_Mode___init__ TMode hr rfl (pa_cons (pe_ix (show IxR _ (JIx (SqL K)) from jix_list) (L2.pvj 0) pe_int (fun _ _ => rfl)) (pa_cons (pe_ix (show IxR _ (JIx (SqL K)) from jix_list) (L2.pvj 0) pe_int (fun _ _ => rfl)) (pa_cons (pe_ix (show IxR _ (JIx (SqL K)) from jix_list) (L2.pvj 0) pe_int (fun _ _ => rfl)) (pa_cons (pe_ix (show IxR _ (JIx (SqL K)) from jix_list) (L2.pvj 0) pe_int (fun _ _ => rfl)) (pa_cons (pe_ix (show IxR _ (JIx (SqL K)) from jix_list) (L2.pvj 0) pe_int (fun _ _ => rfl)) (pa_cons (pe_ix (show IxR _ (JIx (SqL K)) from jix_list) (L2.pvj 0) pe_int (fun _ _ => rfl)) pa_nil))))))))) pa_nil)))))
  U_6)
  obtain ⟨u_4, E_4, U_4⟩ := L2.hide_it (p := fun t => PSs (cxOf CX0 P w K mg base ["_law_script", "_law_cell", "_law_many", "_law_wide", "_law_some", "_law_pushes", "_law_thing", "_law_rule_here", "_law_told_here", "_law_due", "_law_behind", "_law_parts_here", "_law_leaf", "_law_size", "_law_one"] "law" (defScope s_law) f cdv A outer s H E).nox ((defBody s_law).drop 4) t) (pss_cons (ps_comp (i := 5) sc_law.nd rfl rfl (own := ["_law_k"]) (caps := [(1, "_law_cell")]) (blk_cap (S := defScope s_law) (N := ["_law_script", "_law_cell", "_law_many", "_law_wide", "_law_some", "_law_pushes", "_law_thing", "_law_rule_here", "_law_told_here", "_law_due", "_law_behind", "_law_parts_here", "_law_leaf", "_law_size", "_law_one"]) rfl (by decide +kernel) rfl ⟨_, rfl⟩ rfl (by decide +kernel) (by decide +kernel)) rfl (pi_range1 rfl B.range_ (pa_cons (L2.pvj 3) pa_nil)) (fun _ _ _ _ => pg_name (i := 0) (show (["_law_k", "_law_cell"] : List Str).Nodup by decide +kernel) rfl (Or.inl rfl)) (fun _ _ _ _ => (pe_tup (pa_cons (pe_op (ji0 op_sub) (pe_op (ji0 op_sub) pe_int (L2.pvj 0)) (pe_op (ji op_modN) (pe_op (ji op_fdivW) (L2.pvj 1) pe_int) pe_int)) (pa_cons (pe_op (ji op_mulW) (L2.pvj 0) (L2.pvj 0)) pa_nil)))) rfl)
  U_5)
  refine ⟨_, (pss_cons (ps_comp (i := 4) sc_law.nd rfl rfl (own := ["_law_k"]) (caps := [(0, "_law_script"), (2, "_law_many"), (3, "_law_wide")]) (blk_cap (S := defScope s_law) (N := ["_law_script", "_law_cell", "_law_many", "_law_wide", "_law_some", "_law_pushes", "_law_thing", "_law_rule_here", "_law_told_here", "_law_due", "_law_behind", "_law_parts_here", "_law_leaf", "_law_size", "_law_one"]) rfl (by decide +kernel) rfl ⟨_, rfl⟩ rfl (by decide +kernel) (by decide +kernel)) rfl (pi_range1 rfl B.range_ (pa_cons (pe_op (ji0 op_add) pe_int (pe_op (ji op_modN) (pe_op (ji op_fdivW) (L2.pvj 1) pe_int) pe_int)) pa_nil)) (fun _ _ _ _ => pg_name (i := 0) (show (["_law_k", "_law_script", "_law_many", "_law_wide"] : List Str).Nodup by decide +kernel) rfl (Or.inl rfl)) (fun _ _ _ _ => (pe_callF c_l_parts hr rfl (pa_cons (pe_op (ji0 op_add) (pe_callF c_l_cell_at hr rfl (pa_cons (L2.pvj 1) (pa_cons (pe_op (ji0 op_add) pe_int (L2.pvj 0)) pa_nil))) (pe_op (ji op_mulW) pe_int (L2.pvj 0))) (pa_cons (L2.pvj 2) (pa_cons (L2.pvj 3) pa_nil))))) rfl)
  U_4), ?_⟩
  try dsimp only [cxOf, Cx.nox, Cx.wish]
  intro n p cc n1 n3 p3
  have b12 : Bd 4 (12 : Int) := Bd.lit
  have b36 : Bd 6 (36 : Int) := Bd.lit
  have k0 := Int.fmod_nonneg_of_pos (cc.fdiv 12) (show (0 : Int) < 3 by decide)
  have k3 := Int.fmod_lt_of_pos (cc.fdiv 12) (show (0 : Int) < 3 by decide)
  have bdi : ∀ i : Nat, i < 100 -> Bd 10 ((0 : Int) + (i : Int)) := fun i h => by
   show ((0 : Int) + (i : Int)).natAbs < 2 ^ 10
   omega
  refine ⟨_, rfl, _, _, rfl, rfl, ⟨by decide, b12.mono (by decide)⟩, _, _, rfl, rfl, (show (3 : Int) ≠ 0 by decide), _, _, rfl, rfl, _, rfl, (by omega), (by omega), comp_range (lo := 0) (n := (1 + (cc.fdiv 12).fmod 3).toNat)
   (fun i ys σ H' => ∃ ms : List MD, Paired (PartsV H') ys ms /\ ms.length = i /\ (∀ m ∈ ms, MDOk m n p /\ MB m) /\ (∃ o, σ = [o, some (.ref sa), some (.int (n : Int)), some (.int (p : Int))]) /\ Same H H')
   ⟨[], .nil, rfl, (fun _ h => nomatch h), ⟨none, rfl⟩, Same.refl _⟩ (fun i ys σ H' ⟨ms, h, hl, _⟩ => by have := Paired.length h; omega) (Nat.le_of_lt (small1000 (by omega))) ?_ ?_⟩
  ·rintro i ys σ H' hi ⟨ms, hms, lms, oms, ⟨o, rfl⟩, sm⟩
   have bi := bdi i (by omega)
   have b79 : Bd 13 (7919 : Int) := Bd.lit
   refine ⟨_, rfl, _, rfl, _, _, rfl, rfl, sa, ns, 1 + (0 + (i : Int)), rfl, sm.seq hS, (by omega), _, rfl, _, _, rfl, rfl, ⟨b79.mono (by decide), bi.mono (by decide)⟩, _, _, rfl, rfl, _, rfl, _, rfl, _, (n : Int), (p : Int), rfl, (by omega), (by omega), (by omega), (by omega), fun v md H2 s2 hv mo mb => ?_⟩
   rw [Int.toNat_natCast, Int.toNat_natCast] at mo
   refine ⟨ms ++ [md], paired_snoc (R := PartsV _) hv (partss_same s2 hms), (by rw [List.length_append, lms]; rfl), fun x hx => ?_, ⟨_, rfl⟩, sm.trans s2⟩
   rcases List.mem_append.mp hx with hx | hx
   ·exact oms x hx
   ·rw [List.mem_singleton.mp hx]; exact ⟨mo, mb⟩
  rintro sv σ J1 ⟨ms, hms, lms, oms, ⟨o1, rfl⟩, y1⟩ sl hsl
  have ms1 : 1 <= ms.length := by omega
  have ms3 : ms.length <= 3 := by omega
  clear k0 k3 lms
  have SG1 := y1
  replace hS := (y1.seq hS)
  have yG2 := same_new hsl (HO.lst sv)
  have esl := upd_same (H := J1) (a := sl) (o := HO.lst sv)
  generalize hhG2 : upd J1 sl (HO.lst sv) = G2 at yG2 esl |-
  have SG2 := SG1.trans yG2
  replace hS := (yG2.seq hS)
  replace hms := (partss_same yG2 hms)
  have lsv : sv.length = ms.length := Paired.length hms
  show u_4 _ [some (.ref sa), some (.int cc), some (.int (n : Int)), some (.int (p : Int)), some (.ref sl), none, none, none, none, none, none, none, none, none, none] _
  rw [E_4]
  try dsimp only [cxOf, Cx.nox, Cx.wish]
  have c0 := Int.fmod_nonneg_of_pos (cc.fdiv 36) (show (0 : Int) < 5 by decide)
  refine ⟨_, rfl, _, rfl, (by omega), (by omega), comp_range (lo := 0) (n := ((p : Nat) : Int).toNat)
   (fun i ys σ H' => ∃ bs : List (Int × Int), Paired (PuV H') ys bs /\ bs.length = i /\ (∀ b ∈ bs, b.1 <= b.2) /\ (∃ o, σ = [o, some (.int cc)]) /\ Same G2 H')
   ⟨[], .nil, rfl, (fun _ h => nomatch h), ⟨none, rfl⟩, Same.refl _⟩ (fun i ys σ H' ⟨bs, h, hl, _⟩ => by have := Paired.length h; omega) (Nat.le_of_lt (small1000 (by omega))) ?_ ?_⟩
  ·rintro i ys σ H' hi ⟨bs, hbs, lbs, obs, ⟨o, rfl⟩, sm⟩
   have bi := bdi i (by omega)
   refine ⟨_, rfl, _, _, rfl, rfl, _, rfl, _, _, rfl, rfl, ⟨by decide, b36.mono (by decide)⟩, _, _, rfl, rfl, (show (5 : Int) ≠ 0 by decide), _, _, rfl, rfl, _, rfl, _, rfl, _, _, rfl, rfl, ⟨bi.mono (by decide), bi.mono (by decide)⟩, (by show 2 <= sizeLine; decide), fun a ha => ?_⟩
   have za := same_new ha (HO.tup [V.int (0 - (0 + (i : Int)) - (cc.fdiv 36).fmod 5), V.int ((0 + (i : Int)) * (0 + (i : Int)))])
   refine ⟨bs ++ [(0 - (0 + (i : Int)) - (cc.fdiv 36).fmod 5, (0 + (i : Int)) * (0 + (i : Int)))], paired_snoc (R := PuV _) (y := (0 - (0 + (i : Int)) - (cc.fdiv 36).fmod 5, (0 + (i : Int)) * (0 + (i : Int)))) ⟨a, rfl, upd_same⟩ (pu_same za hbs), (by rw [List.length_append, lbs]; rfl), fun b hb => ?_, ⟨_, rfl⟩, sm.trans za⟩
   rcases List.mem_append.mp hb with hb | hb
   ·exact obs b hb
   ·rw [List.mem_singleton.mp hb]
    have := Int.mul_nonneg (show (0 : Int) <= 0 + (i : Int) by omega) (show (0 : Int) <= 0 + (i : Int) by omega)
    show 0 - (0 + (i : Int)) - (cc.fdiv 36).fmod 5 <= (0 + (i : Int)) * (0 + (i : Int))
    generalize (0 + (i : Int)) * (0 + (i : Int)) = ii at this |-
    omega
  rintro pv σ J2 ⟨bs, hpv, lbs, obs, ⟨o1, rfl⟩, y2⟩ pa hpa
  rw [Int.toNat_natCast] at lbs
  have SG3 := SG2.trans y2
  replace hS := (y2.seq hS)
  replace hms := (partss_same y2 hms)
  replace esl := (y2 _ _ esl)
  have yG4 := same_new hpa (HO.lst pv)
  have epa := upd_same (H := J2) (a := pa) (o := HO.lst pv)
  generalize hhG4 : upd J2 pa (HO.lst pv) = G4 at yG4 epa |-
  have SG4 := SG3.trans yG4
  replace hS := (yG4.seq hS)
  replace hms := (partss_same yG4 hms)
  replace esl := (yG4 _ _ esl)
  replace hpv := (pu_same yG4 hpv)
  have lpv : pv.length = bs.length := Paired.length hpv
  show u_5 _ [some (.ref sa), some (.int cc), some (.int (n : Int)), some (.int (p : Int)), some (.ref sl), some (.ref pa), none, none, none, none, none, none, none, none, none] _
  rw [E_5]
  try dsimp only [cxOf, Cx.nox, Cx.wish]
  refine ⟨_, rfl, _, rfl, pa, _, rfl, .inl (SqL.of epa), fun lp hlp => ?_⟩
  have yG5 := same_new hlp (HO.lst pv)
  have elp := upd_same (H := G4) (a := lp) (o := HO.lst pv)
  generalize hhG5 : upd G4 lp (HO.lst pv) = G5 at yG5 elp |-
  have SG5 := SG4.trans yG5
  replace hS := (yG5.seq hS)
  replace hms := (partss_same yG5 hms)
  replace esl := (yG5 _ _ esl)
  replace hpv := (pu_same yG5 hpv)
  replace epa := (yG5 _ _ epa)
  refine ⟨_, rfl, sl, rfl, ⟨_, SqL.of esl⟩, comp_list (K := K) (a := sl) (xs := sv) (fun i ys σ H' => Paired (ModeV aMode H') ys (ms.take i) /\ (∃ o, σ = [o]) /\ Same G5 H')
   ⟨.nil, ⟨none, rfl⟩, Same.refl _⟩ (fun i ys σ H' hi ⟨e1, _, sm⟩ => ⟨SqL.of (sm _ _ esl), by have := Paired.length e1; rw [List.length_take] at this; omega⟩) (Nat.le_of_lt (small1000 (by omega))) ?_ ?_⟩
  ·rintro i x ys σ H' hix ⟨hys, ⟨o, rfl⟩, sm⟩
   obtain ⟨md, hmd, pl, r, n0, s0, p0, a0, rv, nv, pv0, rfl, hl, PD⟩ := paired_get hms hix
   obtain ⟨mo, mb⟩ := oms md (List.mem_of_getElem? hmd)
   refine ⟨_, rfl, pl, _, 0, _, rfl, rfl, SqL.of (sm _ _ hl), rfl, _, rfl, pl, _, 1, _, rfl, rfl, SqL.of (sm _ _ hl), rfl, _, rfl, pl, _, 2, _, rfl, rfl, SqL.of (sm _ _ hl), rfl, _, rfl, pl, _, 3, _, rfl, rfl, SqL.of (sm _ _ hl), rfl, _, rfl, pl, _, 4, _, rfl, rfl, SqL.of (sm _ _ hl), rfl, _, rfl, pl, _, 5, _, rfl, rfl, SqL.of (sm _ _ hl), rfl, ?_⟩
   intro mo2 dx hmo hdx ne
   have zm := same_make hmo hdx ne (HO.own mo2) (HO.ins aMode dx [])
   have eo := upd_same (H := upd H' dx (HO.own mo2)) (a := mo2) (o := HO.ins aMode dx [])
   generalize hhN : upd (upd H' dx (HO.own mo2)) mo2 (HO.ins aMode dx []) = N at zm eo |-
   have sz := sm.trans zm
   refine ⟨mo2, dx, r, n0, s0, p0, a0, rv, nv, pv0, md, n, p, rfl, eo, mo, sz _ _ PD.hr, WaysV.same sz PD.hrv, sz _ _ PD.hn, TabV.same sz PD.hnv, sz _ _ PD.hs, sz _ _ PD.hp, TabV.same sz PD.hpv, sz _ _ PD.ha, fun M2 N2 sb ok f1 f2 f3 f4 f5 m1 m2 => ⟨rfl, ?_⟩⟩
   have s2 := same_but zm sb hmo
   refine ⟨?_, ⟨_, rfl⟩, sm.trans s2⟩
   rw [take_snoc hmd]
   exact paired_snoc (R := ModeV aMode _) ⟨mo2, _, rfl, ok⟩ (modes_same s2 hys)
  rintro mv σ J3 ⟨hmv, ⟨o1, rfl⟩, y3⟩ ml hml
  rw [take_all (by omega)] at hmv
  have SG6 := SG5.trans y3
  replace hS := (y3.seq hS)
  replace hms := (partss_same y3 hms)
  replace esl := (y3 _ _ esl)
  replace hpv := (pu_same y3 hpv)
  replace epa := (y3 _ _ epa)
  replace elp := (y3 _ _ elp)
  have yG7 := same_new hml (HO.lst mv)
  have eml := upd_same (H := J3) (a := ml) (o := HO.lst mv)
  generalize hhG7 : upd J3 ml (HO.lst mv) = G7 at yG7 eml |-
  have SG7 := SG6.trans yG7
  replace hS := (yG7.seq hS)
  replace hms := (partss_same yG7 hms)
  replace esl := (yG7 _ _ esl)
  replace hpv := (pu_same yG7 hpv)
  replace epa := (yG7 _ _ epa)
  replace elp := (yG7 _ _ elp)
  replace hmv := (modes_same yG7 hmv)
  have THO : ThOk n bs ms := ⟨n1, n3, obs, by omega, ms1, by omega, fun m hm => by rw [lbs]; exact (oms m hm).1⟩
  have TB : ThB n bs ms := ⟨THO, fun m hm => (oms m hm).2, ms3, by omega⟩
  refine fun to dt hto hdt ne2 => ?_
  have zt := same_make hto hdt ne2 (HO.own to) (HO.ins aThing dt [])
  have et9 := upd_same (H := upd G7 dt (HO.own to)) (a := to) (o := HO.ins aThing dt [])
  generalize hhJ9 : upd (upd G7 dt (HO.own to)) to (HO.ins aThing dt []) = J9 at zt et9 |-
  refine ⟨to, dt, lp, ml, pv, mv, n, bs, ms, rfl, et9, zt _ _ elp, pu_same zt hpv, zt _ _ eml, modes_same zt hmv, THO, fun kp km J10 sb fk fm fne eo5 ek em => ⟨rfl, ?_⟩⟩
  have yT := same_but zt sb hto
  have SG8 := SG7.trans yT
  replace hS := (yT.seq hS)
  replace hms := (partss_same yT hms)
  replace esl := (yT _ _ esl)
  replace hpv := (pu_same yT hpv)
  replace epa := (yT _ _ epa)
  replace hmv := (modes_same yT hmv)
  have TH : ThingAt aThing aMode J10 to n bs ms pv mv kp km := ⟨⟨dt, eo5⟩, ek, hpv, em, hmv⟩
  clear hmv eo5 ek em et9
  show u_6 _ [some (.ref sa), some (.int cc), some (.int (n : Int)), some (.int (p : Int)), some (.ref sl), some (.ref pa), some (.ref to), none, none, none, none, none, none, none, none] _
  rw [E_6]
  try dsimp only [cxOf, Cx.nox, Cx.wish]
  have g0 := Int.fmod_nonneg_of_pos (cc.fdiv 36) (show (0 : Int) < 4 by decide)
  have g4 := Int.fmod_lt_of_pos (cc.fdiv 36) (show (0 : Int) < 4 by decide)
  refine ⟨_, rfl, _, rfl, _, rfl, _, _, rfl, rfl, ⟨by decide, b36.mono (by decide)⟩, _, _, rfl, rfl, (show (4 : Int) ≠ 0 by decide), _, _, rfl, rfl, _, rfl, sa, _, rfl, hS, fun cp hcp => ?_⟩
  obtain ⟨cs, ecs, lcs⟩ := cut_any ns 4 (5 + (cc.fdiv 36).fmod 4).toNat
  have ecs' : cutV (ns.map V.int) (some 4) (some (5 + (cc.fdiv 36).fmod 4)) = cs.map V.int := by
   rw [show (((5 + (cc.fdiv 36).fmod 4).toNat : Nat) : Int) = 5 + (cc.fdiv 36).fmod 4 by omega] at ecs
   exact ecs
  rw [ecs']
  have lc4 : cs.length <= 4 := by omega
  clear ecs ecs' lcs g0 g4
  have yG9 := same_new hcp (HO.lst (cs.map V.int))
  have ecp := upd_same (H := J10) (a := cp) (o := HO.lst (cs.map V.int))
  generalize hhG9 : upd J10 cp (HO.lst (cs.map V.int)) = G9 at yG9 ecp |-
  have SG9 := SG8.trans yG9
  replace hS := (yG9.seq hS)
  replace hms := (partss_same yG9 hms)
  replace esl := (yG9 _ _ esl)
  replace hpv := (pu_same yG9 hpv)
  replace epa := (yG9 _ _ epa)
  replace TH := (ThingAt.same yG9 TH)
  refine ⟨_, rfl, cp, cs, (n : Int), rfl, SqL.of ecp, lc4, (by omega), (by omega), fun v t J11 y11 hR RU0 => ?_⟩
  have RU : RuOk n t := by rw [Int.toNat_natCast] at RU0; exact RU0
  clear RU0
  have SG10 := SG9.trans y11
  replace hS := (y11.seq hS)
  replace hms := (partss_same y11 hms)
  replace esl := (y11 _ _ esl)
  replace hpv := (pu_same y11 hpv)
  replace epa := (y11 _ _ epa)
  replace TH := (ThingAt.same y11 TH)
  have PBs := RU.pb
  have lpc := pieces_len t
  have rc := RU.c
  have rd := RU.dp
  have rc1 := count_pos t
  show u_7 _ [some (.ref sa), some (.int cc), some (.int (n : Int)), some (.int (p : Int)), some (.ref sl), some (.ref pa), some (.ref to), some v, none, none, none, none, none, none, none] _
  rw [E_7]
  try dsimp only [cxOf, Cx.nox, Cx.wish]
  refine ⟨_, rfl, _, rfl, v, n, t, rfl, rd, (by omega), hR, RU.sh, n1, (by omega), RU.tf, (by omega), fun l0 lv J12 y12 _ el0 hlv => ?_⟩
  have llv : lv.length = countM t := (Paired.length hlv).trans lpc
  have SG11 := SG10.trans y12
  replace hS := (y12.seq hS)
  replace hms := (partss_same y12 hms)
  replace esl := (y12 _ _ esl)
  replace hpv := (pu_same y12 hpv)
  replace epa := (y12 _ _ epa)
  replace TH := (ThingAt.same y12 TH)
  replace hR := (RuleV.same y12 hR)
  refine ⟨l0, rfl, ⟨_, SqL.of el0⟩, comp_list (K := K) (a := l0) (xs := lv) (fun i ys σ H' => Paired (TcV H') ys ((piecesM t).take i) /\ (∃ o1 o2, σ = [o1, o2]) /\ Same J12 H')
   ⟨.nil, ⟨none, none, rfl⟩, Same.refl _⟩ (fun i ys σ H' hi ⟨e1, _, sm⟩ => ⟨SqL.of (sm _ _ el0), by have := Paired.length e1; rw [List.length_take] at this; omega⟩) (Nat.le_of_lt (small1000 (by omega))) ?_ ?_⟩
  ·rintro i x ys σ H' hix ⟨hys, ⟨o1, o2, rfl⟩, sm⟩
   obtain ⟨pp, hp, pc⟩ := paired_get hlv hix
   obtain ⟨tt, rl, so, dxs, la, rv, rfl, eT, _, eRl, eRv, eSo, eLa⟩ := pc.same sm
   refine ⟨tt, _, rfl, SqT.of eT, rfl, _, _, rfl, _, _, rfl, rfl, ?_⟩
   refine ⟨_, rfl, _, rfl, so, aStraight, dxs, _, _, rfl, eSo, TStraight.cl, AStraight.n_numbers, rfl, _, rfl, so, aStraight, dxs, _, _, rfl, eSo, TStraight.cl, AStraight.n_add, rfl, _, rfl, so, aStraight, dxs, _, _, rfl, eSo, TStraight.cl, AStraight.n_divisor, rfl, (by show 3 <= sizeLine; decide), fun t3 ht3 => ?_⟩
   have z3 := same_new ht3 (HO.tup [V.ref la, V.int pp.2.a, V.int pp.2.d])
   refine ⟨(by show 2 <= sizeLine; decide), fun t2 ht2 => ?_⟩
   have z2 := same_new ht2 (HO.tup [V.ref rl, V.ref t3])
   have z32 := z3.trans z2
   refine ⟨?_, ⟨_, _, rfl⟩, sm.trans z32⟩
   rw [take_snoc hp]
   exact paired_snoc (R := TcV _) ⟨t2, rl, t3, la, rv, rfl, upd_same, z32 _ _ eRl, WaysV.same z32 eRv, ⟨z2 _ _ upd_same, z32 _ _ eLa⟩⟩ (tcs_same z32 hys)
  rintro tv σ J13 ⟨htv, ⟨o1, o2, rfl⟩, y13⟩ tl htl
  rw [take_all (by omega)] at htv
  clear hlv
  have SG12 := SG11.trans y13
  replace hS := (y13.seq hS)
  replace hms := (partss_same y13 hms)
  replace esl := (y13 _ _ esl)
  replace hpv := (pu_same y13 hpv)
  replace epa := (y13 _ _ epa)
  replace TH := (ThingAt.same y13 TH)
  replace hR := (RuleV.same y13 hR)
  have yG13 := same_new htl (HO.lst tv)
  have etl := upd_same (H := J13) (a := tl) (o := HO.lst tv)
  generalize hhG13 : upd J13 tl (HO.lst tv) = G13 at yG13 etl |-
  have SG13 := SG12.trans yG13
  replace hS := (yG13.seq hS)
  replace hms := (partss_same yG13 hms)
  replace esl := (yG13 _ _ esl)
  replace hpv := (pu_same yG13 hpv)
  replace epa := (yG13 _ _ epa)
  replace TH := (ThingAt.same yG13 TH)
  replace hR := (RuleV.same yG13 hR)
  replace htv := (tcs_same yG13 htv)
  have ltv : tv.length = countM t := (Paired.length htv).trans lpc
  show u_8 _ [some (.ref sa), some (.int cc), some (.int (n : Int)), some (.int (p : Int)), some (.ref sl), some (.ref pa), some (.ref to), some v, some (.ref tl), none, none, none, none, none, none] _
  rw [E_8]
  try dsimp only [cxOf, Cx.nox, Cx.wish]
  refine ⟨(by show 0 <= sizeLine; decide), fun d0 hd0 => ?_⟩
  have yG14 := same_new hd0 (HO.lst [])
  have ed0 := upd_same (H := G13) (a := d0) (o := HO.lst [])
  generalize hhG14 : upd G13 d0 (HO.lst []) = G14 at yG14 ed0 |-
  have SG14 := SG13.trans yG14
  replace hS := (yG14.seq hS)
  replace hms := (partss_same yG14 hms)
  replace esl := (yG14 _ _ esl)
  replace hpv := (pu_same yG14 hpv)
  replace epa := (yG14 _ _ epa)
  replace TH := (ThingAt.same yG14 TH)
  replace hR := (RuleV.same yG14 hR)
  replace htv := (tcs_same yG14 htv)
  replace etl := (yG14 _ _ etl)
  refine ⟨(by show 0 <= sizeLine; decide), fun b0 hb0 => ?_⟩
  have yG15 := same_new hb0 (HO.lst [])
  have eb0 := upd_same (H := G14) (a := b0) (o := HO.lst [])
  generalize hhG15 : upd G14 b0 (HO.lst []) = G15 at yG15 eb0 |-
  have SG15 := SG14.trans yG15
  replace hS := (yG15.seq hS)
  replace hms := (partss_same yG15 hms)
  replace esl := (yG15 _ _ esl)
  replace hpv := (pu_same yG15 hpv)
  replace epa := (yG15 _ _ epa)
  replace TH := (ThingAt.same yG15 TH)
  replace hR := (RuleV.same yG15 hR)
  replace htv := (tcs_same yG15 htv)
  replace etl := (yG15 _ _ etl)
  replace ed0 := (yG15 _ _ ed0)
  show u_10 _ [some (.ref sa), some (.int cc), some (.int (n : Int)), some (.int (p : Int)), some (.ref sl), some (.ref pa), some (.ref to), some v, some (.ref tl), some (.ref d0), some (.ref b0), none, none, none, none] _
  rw [E_10]
  try dsimp only [cxOf, Cx.nox, Cx.wish]
  refine ⟨_, rfl, sl, rfl, ⟨_, SqL.of esl⟩, for_list (K := K) (a := sl) (xs := sv)
   (fun i σ H' => ∃ (da ba : Addr) (dv bv : List V) (o11 : Option V), σ = [some (.ref sa), some (.int cc), some (.int (n : Int)), some (.int (p : Int)), some (.ref sl), some (.ref pa), some (.ref to), some v, some (.ref tl), some (.ref da), some (.ref ba), o11, none, none, none] /\ Same G15 H' /\ H' da = some (.lst dv) /\ Paired (PartsV H') dv (modesM stM (ms.take i) (piecesM t)) /\ H' ba = some (.lst bv) /\ Paired (PartsV H') bv (modesM (ltM n) (ms.take i) (piecesM t)))
   ⟨d0, b0, [], [], none, rfl, Same.refl _, ed0, .nil, eb0, .nil⟩ (fun i σ H' _ ⟨_, _, _, _, _, _, s, _⟩ => SqL.of (s _ _ esl)) ?_ ?_⟩
  ·rintro i x σ H' hix ⟨da, ba, dv, bv, o11, rfl, sm, eda, hdv, eba, hbv⟩
   obtain ⟨md, hmd, pl, r, n0, s0, p0, a0, rv, nv, pv0, rfl, hl, PD⟩ := paired_get hms hix
   obtain ⟨mo, mb⟩ := oms md (List.mem_of_getElem? hmd)
   have im : i < ms.length := (List.getElem?_eq_some_iff.mp hmd).1
   have im2 : i * countM t <= 2 * 12 := Nat.mul_le_mul (by omega) rc
   have ld : dv.length = i * countM t := by rw [Paired.length hdv, modesM_len, lpc, List.length_take, Nat.min_eq_left (by omega)]
   have lb : bv.length = i * countM t := by rw [Paired.length hbv, modesM_len, lpc, List.length_take, Nat.min_eq_left (by omega)]
   refine ⟨_, rfl, _, rfl, tl, rfl, ⟨_, SqL.of (sm _ _ etl)⟩, comp_list (K := K) (a := tl) (xs := tv) (fun j ys σ H2 => Paired (PartsV H2) ys (((piecesM t).take j).map (stM md)) /\ (∃ o1 o2, σ = [o1, o2, some (.ref pl)]) /\ Same H' H2)
    ⟨.nil, ⟨none, none, rfl⟩, Same.refl _⟩ (fun j ys σ H2 hj ⟨e1, _, s⟩ => ⟨SqL.of (s _ _ (sm _ _ etl)), by have := Paired.length e1; rw [List.length_map, List.length_take] at this; omega⟩) (Nat.le_of_lt (small1000 (by omega))) ?_ ?_⟩
   ·rintro j y ys σ H2 hjy ⟨hys, ⟨o1, o2, rfl⟩, s⟩
    have cs' := sm.trans s
    obtain ⟨pp, hp, tc⟩ := paired_get htv hjy
    obtain ⟨tt, rl, st, na, rv2, rfl, eT, eRl, eRv, eSt⟩ := tc.same cs'
    refine ⟨tt, _, rfl, SqT.of eT, rfl, _, _, rfl, _, _, rfl, rfl, ?_⟩
    refine ⟨_, rfl, _, rfl, _, rfl, pl, rl, st, na, r, n0, s0, p0, a0, rv, nv, pv0, rv2, md, pp.1, pp.2, n, p, rfl, cs' _ _ hl, PD.same cs', mo, mb, eRl, eRv, eSt, PBs pp (List.mem_of_getElem? hp), fun pl2 r2 n2 s2' p2 a2 rv9 nv9 pv9 J sJ hpl2 bd _ => ?_⟩
    have zJ := same_new hpl2 (HO.lst [V.ref r2, V.ref n2, V.ref s2', V.ref p2, V.ref a2, V.int (pp.2.d * md.div)])
    have sA := sJ.trans zJ
    refine ⟨?_, ⟨_, _, rfl⟩, s.trans sA⟩
    rw [take_snoc hp, List.map_append]
    exact paired_snoc (R := PartsV _) ⟨pl2, r2, n2, s2', p2, a2, rv9, nv9, pv9, rfl, upd_same, bd.same zJ⟩ (partss_same sA hys)
   rintro cv σ K1 ⟨hcv, ⟨o1, o2, rfl⟩, k1⟩ cl hcl
   rw [take_all (xs := piecesM t) (by omega)] at hcv
   have lcv := Paired.length hcv
   rw [List.length_map, lpc] at lcv
   have k2 := same_new hcl (HO.lst cv)
   have ecl := upd_same (H := K1) (a := cl) (o := HO.lst cv)
   generalize hhK2 : upd K1 cl (HO.lst cv) = K2 at k2 ecl |-
   have k12 := k1.trans k2
   refine ⟨da, cl, _, _, rfl, rfl, k12 _ _ eda, ecl, Nat.le_of_lt (small1000 (by omega)), fun d2 hd2 => ?_⟩
   have k3 := same_new hd2 (HO.lst (dv ++ cv))
   have ed2 := upd_same (H := K2) (a := d2) (o := HO.lst (dv ++ cv))
   generalize hhK4 : upd K2 d2 (HO.lst (dv ++ cv)) = K4 at k3 ed2 |-
   have k23 := k2.trans k3
   have k13 := k12.trans k3
   have hd2v : Paired (PartsV K4) (dv ++ cv) (modesM stM (ms.take i) (piecesM t) ++ (piecesM t).map (stM md)) := paired_app (partss_same k13 hdv) (partss_same k23 hcv)
   have sm2 := sm.trans k13
   refine ⟨_, rfl, _, rfl, tl, rfl, ⟨_, SqL.of (sm2 _ _ etl)⟩, comp_list (K := K) (a := tl) (xs := tv) (fun j ys σ H2 => Paired (PartsV H2) ys (((piecesM t).take j).map (ltM n md)) /\ (∃ o1 o2, σ = [o1, o2, some (.ref pl)]) /\ Same K4 H2)
    ⟨.nil, ⟨none, none, rfl⟩, Same.refl _⟩ (fun j ys σ H2 hj ⟨e1, _, s⟩ => ⟨SqL.of (s _ _ (sm2 _ _ etl)), by have := Paired.length e1; rw [List.length_map, List.length_take] at this; omega⟩) (Nat.le_of_lt (small1000 (by omega))) ?_ ?_⟩
   ·rintro j y ys σ H2 hjy ⟨hys, ⟨o1, o2, rfl⟩, s⟩
    have cs' := sm2.trans s
    obtain ⟨pp, hp, tc⟩ := paired_get htv hjy
    obtain ⟨tt, rl, st, na, rv2, rfl, eT, eRl, eRv, eSt⟩ := tc.same cs'
    refine ⟨tt, _, rfl, SqT.of eT, rfl, _, _, rfl, _, _, rfl, rfl, ?_⟩
    refine ⟨_, rfl, _, rfl, _, rfl, pl, rl, st, na, r, n0, s0, p0, a0, rv, nv, pv0, rv2, md, pp.1, pp.2, n, p, rfl, cs' _ _ hl, PD.same cs', mo, mb, eRl, eRv, eSt, PBs pp (List.mem_of_getElem? hp), n1, fun u H3 sA hu => ?_⟩
    refine ⟨?_, ⟨_, _, rfl⟩, s.trans sA⟩
    rw [take_snoc hp, List.map_append]
    exact paired_snoc (R := PartsV _) hu (partss_same sA hys)
   rintro ev σ K5 ⟨hev, ⟨o3, o4, rfl⟩, k5⟩ el hel
   rw [take_all (xs := piecesM t) (by omega)] at hev
   have lev := Paired.length hev
   rw [List.length_map, lpc] at lev
   have k6 := same_new hel (HO.lst ev)
   have eel := upd_same (H := K5) (a := el) (o := HO.lst ev)
   generalize hhK6 : upd K5 el (HO.lst ev) = K6 at k6 eel |-
   have k56 := k5.trans k6
   refine ⟨ba, el, _, _, rfl, rfl, k56 _ _ (k13 _ _ eba), eel, Nat.le_of_lt (small1000 (by omega)), fun b2 hb2 => ?_⟩
   have k7 := same_new hb2 (HO.lst (bv ++ ev))
   have k57 := k56.trans k7
   refine ⟨d2, b2, dv ++ cv, bv ++ ev, _, rfl, sm2.trans k57, k57 _ _ ed2, ?_, upd_same, ?_⟩
   ·unfold modesM at hd2v |-
    rw [flat_snoc _ hmd]
    exact partss_same k57 hd2v
   ·have := paired_app (partss_same (k13.trans k57) hbv) (partss_same (k6.trans k7) hev)
    unfold modesM at this |-
    rw [flat_snoc _ hmd]
    exact this
  rintro σ J14 ⟨da, ba, dv, bv, o11, rfl, y14, eda, hdv, eba, hbv⟩
  rw [take_all (by omega)] at hdv hbv
  have SG16 := SG15.trans y14
  replace hS := (y14.seq hS)
  replace hms := (partss_same y14 hms)
  replace esl := (y14 _ _ esl)
  replace hpv := (pu_same y14 hpv)
  replace epa := (y14 _ _ epa)
  replace TH := (ThingAt.same y14 TH)
  replace hR := (RuleV.same y14 hR)
  replace htv := (tcs_same y14 htv)
  replace etl := (y14 _ _ etl)
  show u_11 _ [some (.ref sa), some (.int cc), some (.int (n : Int)), some (.int (p : Int)), some (.ref sl), some (.ref pa), some (.ref to), some v, some (.ref tl), some (.ref da), some (.ref ba), o11, none, none, none] _
  rw [E_11]
  try dsimp only [cxOf, Cx.nox, Cx.wish]
  refine ⟨_, rfl, _, rfl, to, kp, km, v, n, bs, ms, pv, mv, t, rfl, TH, TB, hR, RU, fun o2 mv2 kp2 km2 J15 y15 T2 => ?_⟩
  refine ⟨_, rfl, _, rfl, _, rfl, o2, kp2, km2, pa, da, n, bs, modesM stM ms (piecesM t), pv, mv2, pv, dv, rfl, T2, modes_ok TB RU n1 n3 (fun a ha p hp => stM_ok (TB.ok.mok a ha) (TB.mb a ha) (PBs p hp)), st_zero, y15 _ _ epa, pu_same y15 hpv, y15 _ _ eda, partss_same y15 hdv, fun J16 y16 => ⟨_, rfl, iteF ?_⟩⟩
  have y156 := y15.trans y16
  have SG17 := SG16.trans y156
  replace hS := (y156.seq hS)
  replace hms := (partss_same y156 hms)
  replace esl := (y156 _ _ esl)
  replace hpv := (pu_same y156 hpv)
  replace epa := (y156 _ _ epa)
  replace TH := (ThingAt.same y156 TH)
  replace hR := (RuleV.same y156 hR)
  replace htv := (tcs_same y156 htv)
  replace etl := (y156 _ _ etl)
  replace eba := (y156 _ _ eba)
  replace hbv := (partss_same y156 hbv)
  show u_12 _ [some (.ref sa), some (.int cc), some (.int (n : Int)), some (.int (p : Int)), some (.ref sl), some (.ref pa), some (.ref to), some v, some (.ref tl), some (.ref da), some (.ref ba), o11, none, none, none] _
  rw [E_12]
  try dsimp only [cxOf, Cx.nox, Cx.wish]
  have R13 : ∀ H9, Same J16 H9 -> u_13 { nx := fun _ H' => Q .non H', rt := Q } [some (.ref sa), some (.int cc), some (.int (n : Int)), some (.int (p : Int)), some (.ref sl), some (.ref pa), some (.ref to), some v, some (.ref tl), some (.ref da), some (.ref ba), o11, none, none, none] H9 := by
   intro H9 y17
   have SL1 := y17
   replace hS := (y17.seq hS)
   replace hms := (partss_same y17 hms)
   replace esl := (y17 _ _ esl)
   replace hpv := (pu_same y17 hpv)
   replace epa := (y17 _ _ epa)
   replace TH := (ThingAt.same y17 TH)
   rw [E_13]
   try dsimp only [cxOf, Cx.nox, Cx.wish]
   refine ⟨_, rfl, sa, ns, 10, rfl, hS, (by decide), _, rfl, _, (n : Int), rfl, (by omega), (by omega), fun so dxs la l L2 z2 SA bn ba' bd ll ld => ?_⟩
   rw [Int.toNat_natCast] at ll
   have PK : PB n ([], l) := LeafB.pb ll ld bn ba' bd
   have SL2 := SL1.trans z2
   replace hS := (z2.seq hS)
   replace hms := (partss_same z2 hms)
   replace esl := (z2 _ _ esl)
   replace hpv := (pu_same z2 hpv)
   replace epa := (z2 _ _ epa)
   replace TH := (ThingAt.same z2 TH)
   show u_14 _ [some (.ref sa), some (.int cc), some (.int (n : Int)), some (.int (p : Int)), some (.ref sl), some (.ref pa), some (.ref to), some v, some (.ref tl), some (.ref da), some (.ref ba), o11, some (.ref so), none, none] _
   rw [E_14]
   try dsimp only [cxOf, Cx.nox, Cx.wish]
   refine ⟨_, rfl, sa, ns, 11, rfl, hS, (by decide), _, _, rfl, rfl, ⟨by decide, by decide, by decide⟩, (by show 2 <= sizeLine; decide), fun ql hql => ?_⟩
   have yL3 := same_new hql (HO.lst [V.int 9, V.int ((10 : Int) ^ (20 : Int).toNat)])
   have eql := upd_same (H := L2) (a := ql) (o := HO.lst [V.int 9, V.int ((10 : Int) ^ (20 : Int).toNat)])
   generalize hhL3 : upd L2 ql (HO.lst [V.int 9, V.int ((10 : Int) ^ (20 : Int).toNat)]) = L3 at yL3 eql |-
   have SL3 := SL2.trans yL3
   replace hS := (yL3.seq hS)
   replace hms := (partss_same yL3 hms)
   replace esl := (yL3 _ _ esl)
   replace hpv := (pu_same yL3 hpv)
   replace epa := (yL3 _ _ epa)
   replace TH := (ThingAt.same yL3 TH)
   replace SA := (StrA.same yL3 SA)
   obtain ⟨dd, ed, dd0⟩ : ∃ dd : Int, atI [V.int 9, V.int ((10 : Int) ^ (20 : Int).toNat)] ((cellZ ns 10).fmod 2) = some (.int dd) /\ 0 < dd := by
    have h1 := Int.fmod_nonneg_of_pos (cellZ ns 10) (show (0 : Int) < 2 by decide)
    have h2 := Int.fmod_lt_of_pos (cellZ ns 10) (show (0 : Int) < 2 by decide)
    rcases (by omega : (cellZ ns 10).fmod 2 = 0 \/ (cellZ ns 10).fmod 2 = 1) with e | e
    ·exact ⟨_, by rw [e]; rfl, by decide⟩
    ·exact ⟨_, by rw [e]; rfl, by decide⟩
   refine ⟨_, rfl, sa, ns, 10, rfl, hS, (by decide), _, _, rfl, rfl, (show (2 : Int) ≠ 0 by decide), ql, _, _, .int dd, rfl, rfl, SqL.of eql, ed, _, _, rfl, rfl, (by omega), _, _, rfl, rfl, ?_⟩
   have z0 := Int.fmod_nonneg_of_pos (cellZ ns 11) dd0
   obtain ⟨sz, hsz⟩ : ∃ sz, sz = 1 + (cellZ ns 11).fmod dd := ⟨_, rfl⟩
   rw [<- hsz]
   have sz1 : 1 <= sz := by omega
   clear hsz z0 ed dd0
   show u_15 _ [some (.ref sa), some (.int cc), some (.int (n : Int)), some (.int (p : Int)), some (.ref sl), some (.ref pa), some (.ref to), some v, some (.ref tl), some (.ref da), some (.ref ba), o11, some (.ref so), some (.int sz), none] _
   rw [E_15]
   try dsimp only [cxOf, Cx.nox, Cx.wish]
   refine ⟨(by show 0 <= sizeLine; decide), fun de hde => ?_⟩
   have w2 := same_new hde (HO.lst [])
   have ede := upd_same (H := L3) (a := de) (o := HO.lst [])
   generalize hhM0 : upd L3 de (HO.lst []) = M0 at w2 ede |-
   have s0 := hide_fresh (B := [de]) (fun x hx => by rw [List.mem_singleton.mp hx]; exact hde) w2
   show u_16 _ [some (.ref sa), some (.int cc), some (.int (n : Int)), some (.int (p : Int)), some (.ref sl), some (.ref pa), some (.ref to), some v, some (.ref tl), some (.ref de), some (.ref ba), o11, some (.ref so), some (.int sz), none] _
   rw [E_16]
   try dsimp only [cxOf, Cx.nox, Cx.wish]
   refine ⟨_, rfl, sl, rfl, ⟨_, SqL.of (w2 _ _ esl)⟩, for_list (K := K) (a := sl) (xs := sv)
    (fun i σ H' => ∃ (xs : List V) (o9 o14 : Option V), σ = [some (.ref sa), some (.int cc), some (.int (n : Int)), some (.int (p : Int)), some (.ref sl), some (.ref pa), some (.ref to), some v, some (.ref tl), some (.ref de), some (.ref ba), o9, some (.ref so), some (.int sz), o14] /\ Same L3 (hide [de] H') /\ H' de = some (.lst xs) /\ Paired (PartsV (hide [de] H')) xs ((ms.take i).map fun m => rdM m l))
    ⟨[], o11, none, rfl, s0, ede, .nil⟩ (fun i σ H' _ ⟨_, _, _, _, s, _⟩ => SqL.of (hide_sub _ _ (s _ _ esl))) ?_ ?_⟩
   ·rintro i x σ H' hix ⟨xs, o9, o14, rfl, smh, ede', hxs⟩
    have sm := smh.trans hide_sub
    obtain ⟨md, hmd, pl, r, n0, s1, p0, a0, rv, nv, pv0, rfl, hl, PD⟩ := paired_get hms hix
    obtain ⟨mo, mb⟩ := oms md (List.mem_of_getElem? hmd)
    have im : i < ms.length := (List.getElem?_eq_some_iff.mp hmd).1
    have lxs := Paired.length hxs
    rw [List.length_map, List.length_take] at lxs
    -- one
    refine ⟨_, rfl, (by show 0 <= sizeLine; decide), fun e0 he0 => ?_⟩
    have q1 := same_new he0 (HO.lst [])
    have ee0 := upd_same (H := H') (a := e0) (o := HO.lst [])
    generalize hhM1 : upd H' e0 (HO.lst []) = M1 at q1 ee0 |-
    have sm1 := sm.trans q1
    refine ⟨_, rfl, so, aStraight, dxs, _, _, rfl, (sm1 _ _ SA.ins), TStraight.cl, AStraight.n_numbers, rfl, _, rfl, so, aStraight, dxs, _, _, rfl, (sm1 _ _ SA.ins), TStraight.cl, AStraight.n_add, rfl, _, rfl, so, aStraight, dxs, _, _, rfl, (sm1 _ _ SA.ins), TStraight.cl, AStraight.n_divisor, rfl, (by show 3 <= sizeLine; decide), fun t3 ht3 => ?_⟩
    have q2 := same_new ht3 (HO.tup [V.ref la, V.int l.a, V.int l.d])
    have et3 := upd_same (H := M1) (a := t3) (o := HO.tup [V.ref la, V.int l.a, V.int l.d])
    generalize hhM2 : upd M1 t3 (HO.tup [V.ref la, V.int l.a, V.int l.d]) = M2 at q2 et3 |-
    have q12 := q1.trans q2
    have sm2 := sm1.trans q2
    have ede2 := q12 _ _ ede'
    refine ⟨pl, e0, t3, la, r, n0, s1, p0, a0, rv, nv, pv0, [], md, [], l, n, p, rfl, sm2 _ _ hl, PD.same sm2, mo, mb, q2 _ _ ee0, .nil, ⟨et3, sm2 _ _ SA.ns⟩, PK, fun po r2 n2 s2 p2 a2 rv9 nv9 pv9 M3 q3 hpo bd0 bdh => ?_⟩
    have bd := bdh de _ ede2
    have ede3 := q3 _ _ ede2
    have npo : po ≠ de := (ne_of_none ede3 hpo).symm
    have q4 := same_new hpo (HO.lst [V.ref r2, V.ref n2, V.ref s2, V.ref p2, V.ref a2, V.int (l.d * md.div)])
    have epo := upd_same (H := M3) (a := po) (o := HO.lst [V.ref r2, V.ref n2, V.ref s2, V.ref p2, V.ref a2, V.int (l.d * md.div)])
    generalize hhM4 : upd M3 po (HO.lst [V.ref r2, V.ref n2, V.ref s2, V.ref p2, V.ref a2, V.int (l.d * md.div)]) = M4 at q4 epo |-
    have sm4 := sm2.trans (q3.trans q4)
    have ede4 := q4 _ _ ede3
    -- what was before po, off de
    have h34 : Same (hide [de] M3) (hide [de, po] M4) := fun b o e => by
     have nb := hide_mem e
     rw [hide_at nb] at e
     rw [hide_at (fun z => by
      rcases List.mem_cons.mp z with z | z
      ·exact nb (by rw [z]; simp)
      ·rw [List.mem_singleton.mp z, hpo] at e; cases e)]
     exact q4 _ _ e
    have BD := bd.same h34
    have so2 := stM_ok mo mb PK
    have lq1 := so2.push.1
    have lq2 : pv9.length = (stM md ([], l)).push.length := Paired.length BD.hpv
    have lst := mo.steer
    have M4f : ∀ {b : Addr} {o : HO}, hide [de, po] M4 b = some o -> M4 b = some o := fun e => hide_sub _ _ e
    refine ⟨_, rfl, _, rfl, (by omega), (by omega), comp_range (lo := 0) (n := ((n : Nat) : Int).toNat)
     (fun j ys σ H2 => TabV (hide [de, po] H2) ys ((((stM md ([], l)).push.zip md.steer).take j).map fun q => q.1 ++ scM (-q.2) l.ns) /\ (∃ o, σ = [o, some (.ref pl), some (.ref so), some (.ref po)]) /\ Same M4 H2)
     ⟨.nil, ⟨none, rfl⟩, Same.refl _⟩ (fun j ys σ H2 ⟨e1, _⟩ => by have := Paired.length e1; rw [List.length_map, List.length_take] at this; omega) (Nat.le_of_lt (small1000 (by omega))) ?_ ?_⟩
    ·rintro j ys σ H2 hj ⟨hys, ⟨o, rfl⟩, w⟩
     rw [Int.toNat_natCast] at hj
     have hv : pv9[j]? = some (pv9[j]'(by omega)) := List.getElem?_eq_getElem _
     obtain ⟨r1, hr', b1, e1, eb1⟩ := paired_get BD.hpv hv
     have rl' := so2.push.2 r1 (List.mem_of_getElem? hr')
     have aj : atI pv9 (0 + (j : Int)) = some (.ref b1) := by rw [Int.zero_add]; exact atI_nat (hv.trans (by rw [e1]))
     have as' : atI (md.steer.map V.int) (0 + (j : Int)) = some (.int (md.steer.getD j 0)) := by rw [Int.zero_add]; exact at_int (by omega)
     have sw := sm4.trans w
     have bst := mb.steer _ (getD_mem (show j < md.steer.length by omega))
     refine ⟨_, rfl, po, _, 3, _, rfl, rfl, SqL.of (w _ _ epo), rfl, _, rfl, p2, _, _, _, rfl, rfl, SqL.of (w _ _ (M4f BD.hp)), aj, _, rfl, so, aStraight, dxs, _, _, rfl, (sw _ _ SA.ins), TStraight.cl, AStraight.n_numbers, rfl, _, rfl, pl, _, 2, _, rfl, rfl, SqL.of (sw _ _ hl), rfl, _, rfl, s1, _, _, _, rfl, rfl, SqL.of (sw _ _ PD.hs), as', _, _, rfl, rfl, 0 - md.steer.getD j 0, la, l.ns, rfl, sw _ _ SA.ns, (by omega), (by rw [neg_sub0]; exact bst.neg.mono (by decide)), (fun x hx => (PK.ns x hx).mono (by decide)), fun c1 H3 w3 nc1 ec1 => ?_⟩
     rw [neg_sub0] at ec1
     refine ⟨b1, c1, _, _, rfl, rfl, w3 _ _ (w _ _ (M4f eb1)), ec1, ?_, fun c2 hc2 => ?_⟩
     ·rw [List.length_map, List.length_map, scM_len]
      exact Nat.le_of_lt (small1000 (by omega))
     have w4 := same_new hc2 (HO.lst (r1.map V.int ++ (scM (-md.steer.getD j 0) l.ns).map V.int))
     have w34 := w3.trans w4
     have nc : c2 ∉ [de, po] := fun z => by
      rcases List.mem_cons.mp z with z | z
      ·rw [z, w3 _ _ (w _ _ ede4)] at hc2; cases hc2
      ·rw [List.mem_singleton.mp z, w3 _ _ (w _ _ epo)] at hc2; cases hc2
     have hst : md.steer[j]? = some (md.steer.getD j 0) := by rw [List.getD_eq_getElem?_getD, List.getElem?_eq_getElem (by omega)]; rfl
     have hz' : ((stM md ([], l)).push.zip md.steer)[j]? = some (r1, md.steer.getD j 0) := by rw [List.getElem?_zip_eq_some]; exact ⟨hr', hst⟩
     refine ⟨?_, ⟨_, rfl⟩, w.trans w34⟩
     rw [take_snoc hz', List.map_append (l₁ := List.take j _)]
     exact paired_snoc (R := LstI _) ⟨c2, rfl, (hide_at nc).trans (upd_same.trans (by rw [List.map_append]))⟩ (TabV.same (hide_same w34) hys)
    rintro np σ M5 ⟨hnp, ⟨o, rfl⟩, w5⟩ nl hnl
    rw [take_all (by rw [List.length_zip]; omega)] at hnp
    have w6 := same_new hnl (HO.lst np)
    have nnl : nl ∉ [de, po] := fun z => by
     rcases List.mem_cons.mp z with z | z
     ·rw [z, w5 _ _ ede4] at hnl; cases hnl
     ·rw [List.mem_singleton.mp z, w5 _ _ epo] at hnl; cases hnl
    have enl : hide [de, po] (upd M5 nl (HO.lst np)) nl = some (.lst np) := (hide_at nnl).trans upd_same
    replace hnp := TabV.same (hide_same w6) hnp
    generalize hhM6 : upd M5 nl (HO.lst np) = M6 at w6 enl hnp |-
    have w46 := w5.trans w6
    refine ⟨_, rfl, po, _, _, 3, rfl, rfl, w46 _ _ epo, rfl, ?_⟩
    have e7 := upd_same (H := M6) (a := po) (o := HO.lst [V.ref r2, V.ref n2, V.ref s2, V.ref nl, V.ref a2, V.int (l.d * md.div)])
    have ede7 : upd M6 po (HO.lst [V.ref r2, V.ref n2, V.ref s2, V.ref nl, V.ref a2, V.int (l.d * md.div)]) de = some (.lst xs) := (upd_ne npo.symm).trans (w46 _ _ ede4)
    have h7 : Same (hide [de, po] M6) (hide [de, po] (upd M6 po (HO.lst [V.ref r2, V.ref n2, V.ref s2, V.ref nl, V.ref a2, V.int (l.d * md.div)]))) := hide2 (Same.refl _)
    rw [show [V.ref r2, V.ref n2, V.ref s2, V.ref p2, V.ref a2, V.int (l.d * md.div)].set 3 (V.ref nl) = [V.ref r2, V.ref n2, V.ref s2, V.ref nl, V.ref a2, V.int (l.d * md.div)] from rfl]
    generalize hhM7 : upd M6 po (HO.lst [V.ref r2, V.ref n2, V.ref s2, V.ref nl, V.ref a2, V.int (l.d * md.div)]) = M7 at e7 ede7 h7 |-
    refine ⟨_, rfl, .inl ⟨rfl, _, SqL.of ede7⟩, _, rfl, de, xs, _, rfl, rfl, ede7, small1000 (by omega), ?_⟩
    have h46 := hide_same (B := [de, po]) w46
    have h8 : Same (hide [de, po] M7) (hide [de] (upd M7 de (HO.lst (xs ++ [V.ref po])))) := fun b o e => by
     have nb := hide_mem e
     rw [hide_at nb] at e
     rw [hide_at (fun z => nb (by rw [List.mem_singleton.mp z]; simp)), upd_ne (fun z => nb (by rw [z]; simp))]
     exact e
    have h78 := h7.trans h8
    have hA := h46.trans h78
    have hB := (hide_same (B := [de]) (q12.trans q3)).trans (h34.trans hA)
    have e8 : hide [de] (upd M7 de (HO.lst (xs ++ [V.ref po]))) po = some (.lst [V.ref r2, V.ref n2, V.ref s2, V.ref nl, V.ref a2, V.int (l.d * md.div)]) := (hide_at (fun z => npo (List.mem_singleton.mp z))).trans ((upd_ne npo).trans e7)
    refine ⟨xs ++ [V.ref po], _, _, rfl, smh.trans hB, upd_same, ?_⟩
    rw [take_snoc hmd, List.map_append (l₁ := List.take i _)]
    exact paired_snoc (R := PartsV _) (y := rdM md l) ⟨po, r2, n2, s2, nl, a2, rv9, nv9, np, rfl, e8, ⟨hA _ _ BD.hr, WaysV.same hA BD.hrv, hA _ _ BD.hn, TabV.same hA BD.hnv, hA _ _ BD.hs, h78 _ _ enl, TabV.same h78 hnp, hA _ _ BD.ha⟩⟩ (partss_same hB hxs)
   rintro σ M9 ⟨xs, o9, o14, rfl, smh, ede9, hxs0⟩
   rw [take_all (by omega)] at hxs0
   have hxs := partss_same hide_sub hxs0
   have y9 := smh.trans hide_sub
   clear smh hxs0
   have SL4 := SL3.trans y9
   replace hS := (y9.seq hS)
   replace hms := (partss_same y9 hms)
   replace esl := (y9 _ _ esl)
   replace hpv := (pu_same y9 hpv)
   replace epa := (y9 _ _ epa)
   replace TH := (ThingAt.same y9 TH)
   replace SA := (StrA.same y9 SA)
   show u_17 _ [some (.ref sa), some (.int cc), some (.int (n : Int)), some (.int (p : Int)), some (.ref sl), some (.ref pa), some (.ref to), some v, some (.ref tl), some (.ref de), some (.ref ba), o9, some (.ref so), some (.int sz), o14] _
   rw [E_17]
   try dsimp only [cxOf, Cx.nox, Cx.wish]
   refine ⟨_, rfl, _, rfl, _, rfl, to, kp, km, so, dxs, la, n, bs, ms, pv, mv, l, sz, rfl, TH, TB, SA, PK, sz1, fun o2 pv2 mv2 kp2 km2 N1 x1 T2 => ?_⟩
   have SL5 := SL4.trans x1
   replace hS := (x1.seq hS)
   replace hms := (partss_same x1 hms)
   replace esl := (x1 _ _ esl)
   replace hpv := (pu_same x1 hpv)
   replace epa := (x1 _ _ epa)
   replace TH := (ThingAt.same x1 TH)
   replace SA := (StrA.same x1 SA)
   replace ede9 := (x1 _ _ ede9)
   replace hxs := (partss_same x1 hxs)
   refine ⟨_, rfl, _, rfl, _, rfl, (by show 2 <= sizeLine; decide), fun ta hta => ?_⟩
   have yL6 := same_new hta (HO.tup [V.int 0, V.int sz])
   have eta := upd_same (H := N1) (a := ta) (o := HO.tup [V.int 0, V.int sz])
   generalize hhL6 : upd N1 ta (HO.tup [V.int 0, V.int sz]) = L6 at yL6 eta |-
   have SL6 := SL5.trans yL6
   replace hS := (yL6.seq hS)
   replace hms := (partss_same yL6 hms)
   replace esl := (yL6 _ _ esl)
   replace hpv := (pu_same yL6 hpv)
   replace epa := (yL6 _ _ epa)
   replace TH := (ThingAt.same yL6 TH)
   replace SA := (StrA.same yL6 SA)
   replace ede9 := (yL6 _ _ ede9)
   replace hxs := (partss_same yL6 hxs)
   replace T2 := (ThingAt.same yL6 T2)
   refine ⟨(by show 1 <= sizeLine; decide), fun tb htb => ?_⟩
   have yL7 := same_new htb (HO.lst [V.ref ta])
   have etb := upd_same (H := L6) (a := tb) (o := HO.lst [V.ref ta])
   generalize hhL7 : upd L6 tb (HO.lst [V.ref ta]) = L7 at yL7 etb |-
   have SL7 := SL6.trans yL7
   replace hS := (yL7.seq hS)
   replace hms := (partss_same yL7 hms)
   replace esl := (yL7 _ _ esl)
   replace hpv := (pu_same yL7 hpv)
   replace epa := (yL7 _ _ epa)
   replace TH := (ThingAt.same yL7 TH)
   replace SA := (StrA.same yL7 SA)
   replace ede9 := (yL7 _ _ ede9)
   replace hxs := (partss_same yL7 hxs)
   replace T2 := (ThingAt.same yL7 T2)
   replace eta := (yL7 _ _ eta)
   refine ⟨_, rfl, tb, (n : Int), _, rfl, rfl, etb, (by omega), (by omega), (by show 1 * ((n : Nat) : Int).toNat <= _; exact Nat.le_of_lt (small1000 (by omega))), fun rp hrp => ?_⟩
   rw [Int.toNat_natCast]
   have yL8 := same_new hrp (HO.lst (List.replicate n [V.ref ta]).flatten)
   have erp := upd_same (H := L7) (a := rp) (o := HO.lst (List.replicate n [V.ref ta]).flatten)
   generalize hhL8 : upd L7 rp (HO.lst (List.replicate n [V.ref ta]).flatten) = L8 at yL8 erp |-
   have SL8 := SL7.trans yL8
   replace hS := (yL8.seq hS)
   replace hms := (partss_same yL8 hms)
   replace esl := (yL8 _ _ esl)
   replace hpv := (pu_same yL8 hpv)
   replace epa := (yL8 _ _ epa)
   replace TH := (ThingAt.same yL8 TH)
   replace SA := (StrA.same yL8 SA)
   replace ede9 := (yL8 _ _ ede9)
   replace hxs := (partss_same yL8 hxs)
   replace T2 := (ThingAt.same yL8 T2)
   replace eta := (yL8 _ _ eta)
   replace etb := (yL8 _ _ etb)
   have hrpv := pu_rep eta n
   have lrp := Paired.length hrpv
   rw [List.length_replicate] at lrp
   refine ⟨pa, rp, _, _, rfl, rfl, epa, erp, Nat.le_of_lt (small1000 (by omega)), fun cq hcq => ?_⟩
   have yL9 := same_new hcq (HO.lst (pv ++ (List.replicate n [V.ref ta]).flatten))
   have ecq := upd_same (H := L8) (a := cq) (o := HO.lst (pv ++ (List.replicate n [V.ref ta]).flatten))
   generalize hhL9 : upd L8 cq (HO.lst (pv ++ (List.replicate n [V.ref ta]).flatten)) = L9 at yL9 ecq |-
   have SL9 := SL8.trans yL9
   replace hS := (yL9.seq hS)
   replace hms := (partss_same yL9 hms)
   replace esl := (yL9 _ _ esl)
   replace hpv := (pu_same yL9 hpv)
   replace epa := (yL9 _ _ epa)
   replace TH := (ThingAt.same yL9 TH)
   replace SA := (StrA.same yL9 SA)
   replace ede9 := (yL9 _ _ ede9)
   replace hxs := (partss_same yL9 hxs)
   replace T2 := (ThingAt.same yL9 T2)
   replace eta := (yL9 _ _ eta)
   replace etb := (yL9 _ _ etb)
   replace erp := (yL9 _ _ erp)
   replace hrpv := (pu_same yL9 hrpv)
   refine ⟨_, rfl, o2, kp2, km2, cq, de, n, bs ++ List.replicate n (0, sz), ms.map (fun m => rdM m l), pv2, mv2, pv ++ (List.replicate n [V.ref ta]).flatten, xs, rfl, T2, rd_ok TB PK sz1, rd_zero, ecq, paired_app hpv hrpv, ede9, hxs, fun N6 x6 => ⟨_, rfl, iteF ?_⟩⟩
   have SL10 := SL9.trans x6
   replace hS := (x6.seq hS)
   replace hms := (partss_same x6 hms)
   replace esl := (x6 _ _ esl)
   replace hpv := (pu_same x6 hpv)
   replace epa := (x6 _ _ epa)
   replace TH := (ThingAt.same x6 TH)
   replace SA := (StrA.same x6 SA)
   refine ⟨_, rfl, to, kp, km, n, bs, ms, pv, mv, rfl, TH, (by omega), fun l9 lv9 N7 x7 el9 hlv9 => ?_⟩
   have SL11 := SL10.trans x7
   replace hS := (x7.seq hS)
   replace hms := (partss_same x7 hms)
   replace esl := (x7 _ _ esl)
   replace hpv := (pu_same x7 hpv)
   replace epa := (x7 _ _ epa)
   replace TH := (ThingAt.same x7 TH)
   replace SA := (StrA.same x7 SA)
   refine ⟨_, rfl, .list (ms.map mdT), .lst (SqL.of el9) (dp_mds hlv9), .lst (SqL.of esl) (dp_mds hms), lay_mds ms, dep_mdl ms, _, rfl, iteT ?_⟩
   obtain ⟨dt9, ins9⟩ := TH.ins
   refine ⟨_, rfl, to, dt9, _, rfl, ins9, rfl, to, kp, km, n, bs, ms, pv, mv, rfl, TH, fun l10 N8 x8 _ el10 => ?_⟩
   exact ⟨_, rfl, .list (bs.map puT), .lst (SqL.of el10) (dp_pu (pu_same x8 hpv)), .lst (SqL.of (x8 _ _ epa)) (dp_pu (pu_same x8 hpv)), lay_pt bs, dep_pts bs, qq _⟩
  refine ⟨_, rfl, _, _, rfl, rfl, _, rfl, ?_⟩
  by_cases c3 : (n : Int) < 3
  ·refine iteB1 (decide_eq_true c3) ?_
   refine ⟨_, rfl, _, rfl, to, kp, km, v, n, bs, ms, pv, mv, t, rfl, TH, TB, hR, RU, (by omega), fun o2 mv2 kp2 km2 J17 y17 T2 => ?_⟩
   refine ⟨_, rfl, _, _, rfl, rfl, _, rfl, _, rfl, o2, kp2, km2, pa, ba, n + 1, bs, modesM (ltM n) ms (piecesM t), pv, mv2, pv, bv, rfl, T2, modes_ok TB RU (by omega) (by omega) (fun a ha p hp => ltM_ok (TB.ok.mok a ha) (TB.mb a ha) (PBs p hp) n1 (by omega)), lt_zero, y17 _ _ epa, pu_same y17 hpv, y17 _ _ eba, partss_same y17 hbv, fun J18 y18 => ⟨_, rfl, iteF ?_⟩⟩
   exact R13 _ (y17.trans y18)
  ·refine iteB0 (decide_eq_false c3) (iteF ?_)
   exact R13 _ (Same.refl _)
 refine ⟨_, (pss_cons (ps_set (i := 1) sc_law.nd rfl (Or.inr rfl) (pe_callF c_l_cell_at hr rfl (pa_cons (L2.pvj 0) (pa_cons pe_int pa_nil))))
  (pss_cons (ps_set (i := 2) sc_law.nd rfl (Or.inr rfl) (pe_op (ji0 op_add) pe_int (pe_op (ji op_modN) (L2.pvj 1) pe_int)))
  (pss_cons (ps_set (i := 3) sc_law.nd rfl (Or.inr rfl) (pe_op (ji op_modN) (pe_op (ji op_fdivW) (L2.pvj 1) pe_int) pe_int))
  T2))), ?_⟩
 try dsimp only [cxOf, Cx.nox, Cx.wish]
 have b3 : Bd 4 (3 : Int) := Bd.lit
 refine ⟨_, rfl, sa, ns, 0, rfl, hS, (by decide), ?_⟩
 refine ⟨_, rfl, _, _, rfl, rfl, (show (3 : Int) ≠ 0 by decide), _, _, rfl, rfl, ?_⟩
 refine ⟨_, rfl, _, _, rfl, rfl, ⟨(show (3 : Int) ≠ 0 by decide), b3.mono (by decide)⟩, _, _, rfl, rfl, (show (4 : Int) ≠ 0 by decide), ?_⟩
 have g0 := Int.fmod_nonneg_of_pos (cellZ ns 0) (show (0 : Int) < 3 by decide)
 have g1 := Int.fmod_lt_of_pos (cellZ ns 0) (show (0 : Int) < 3 by decide)
 have c0 := Int.fmod_nonneg_of_pos ((cellZ ns 0).fdiv 3) (show (0 : Int) < 4 by decide)
 have c1 := Int.fmod_lt_of_pos ((cellZ ns 0).fdiv 3) (show (0 : Int) < 4 by decide)
 have R3 := R2 (1 + (cellZ ns 0).fmod 3).toNat (((cellZ ns 0).fdiv 3).fmod 4).toNat (cellZ ns 0) (by omega) (by omega) (by omega)
 rw [show ((((1 + (cellZ ns 0).fmod 3).toNat : Nat)) : Int) = 1 + (cellZ ns 0).fmod 3 by omega, show (((((cellZ ns 0).fdiv 3).fmod 4).toNat : Nat) : Int) = ((cellZ ns 0).fdiv 3).fmod 4 by omega] at R3
 exact R3
end

end K32
namespace L2
theorem arity1 {α : Type} {P : List α -> Prop} (h : ∀ x0 : α, P [x0]) : ∀ us : List α, us.length = 1 -> P us
 | [x0], _ => h x0
theorem arity2 {α : Type} {P : List α -> Prop} (h : ∀ x0 x1 : α, P [x0, x1]) : ∀ us : List α, us.length = 2 -> P us
 | [x0, x1], _ => h x0 x1
theorem arity3 {α : Type} {P : List α -> Prop} (h : ∀ x0 x1 x2 : α, P [x0, x1, x2]) : ∀ us : List α, us.length = 3 -> P us
 | [x0, x1, x2], _ => h x0 x1 x2
theorem arity4 {α : Type} {P : List α -> Prop} (h : ∀ x0 x1 x2 x3 : α, P [x0, x1, x2, x3]) : ∀ us : List α, us.length = 4 -> P us
 | [x0, x1, x2, x3], _ => h x0 x1 x2 x3
theorem arity7 {α : Type} {P : List α -> Prop} (h : ∀ x0 x1 x2 x3 x4 x5 x6 : α, P [x0, x1, x2, x3, x4, x5, x6]) : ∀ us : List α, us.length = 7 -> P us
 | [x0, x1, x2, x3, x4, x5, x6], _ => h x0 x1 x2 x3 x4 x5 x6
end L2
namespace K32
open PySem L2 Sh
theorem all_mk {l : PySem.W.OpenLaw} {w : World} {K : PySem.W.Frag} {h : Heap} {mg : Str -> Option Value} {fa f0 f1 f2 f3 f4 f5 f6 f7 f8 f9 f10 f11 f12 f13 f14 f15 f16 f17 f18 f19 f20 f21 f22 f23 f24 f25 f26 f27 f28 f29 f30 f31 f32 f33 f34 f35 f36 f37 f38 f39 f40 f41 f42 f43 f44 f45 f46 f47 : Addr} (X : K.In h) (G : h.Ns mainGlobals mg) (hfa : mg "law" = some (.ref fa))
  {od0 an0 od1 an1 od2 an2 od3 an3 od4 an4 od5 an5 od6 an6 od7 an7 od8 an8 od9 an9 od10 an10 od11 an11 od12 an12 od13 an13 od14 an14 od15 an15 od16 an16 od17 an17 od18 an18 od19 an19 od20 an20 od21 an21 od22 an22 od23 an23 od24 an24 od25 an25 od26 an26 od27 an27 od28 an28 od29 an29 od30 an30 od31 an31 od32 an32 od33 an33 od34 an34 od35 an35 od36 an36 od37 an37 od38 an38 od39 an39 od40 an40 od41 an41 od42 an42 od43 an43 od44 an44 od45 an45 od46 an46 od47 an47 : Option Addr} {sl0 sl1 sl2 sl3 sl4 sl5 sl6 sl7 sl8 sl9 sl10 sl11 sl12 sl13 sl14 sl15 sl16 sl17 sl18 sl19 sl20 sl21 sl22 sl23 sl24 sl25 sl26 sl27 sl28 sl29 sl30 sl31 sl32 sl33 sl34 sl35 sl36 sl37 sl38 sl39 sl40 sl41 sl42 sl43 sl44 sl45 sl46 sl47 : Array (Option Value)} {oc0 kV0 dc0 pm0 cd0 ct0 oc1 kV1 dc1 pm1 cd1 ct1 oc2 kV2 dc2 pm2 cd2 ct2 oc3 kV3 dc3 pm3 cd3 ct3 oc4 kV4 dc4 pm4 cd4 ct4 oc5 kV5 dc5 pm5 cd5 ct5 oc6 kV6 dc6 pm6 cd6 ct6 oc7 kV7 dc7 pm7 cd7 ct7 oc8 kV8 dc8 pm8 cd8 ct8 oc9 kV9 dc9 pm9 cd9 ct9 oc10 kV10 dc10 pm10 cd10 ct10 oc11 kV11 dc11 pm11 cd11 ct11 oc12 kV12 dc12 pm12 cd12 ct12 oc13 kV13 dc13 pm13 cd13 ct13 oc14 kV14 dc14 pm14 cd14 ct14 oc15 kV15 dc15 pm15 cd15 ct15 oc16 kV16 dc16 pm16 cd16 ct16 oc17 kV17 dc17 pm17 cd17 ct17 oc18 kV18 dc18 pm18 cd18 ct18 oc19 kV19 dc19 pm19 cd19 ct19 oc20 kV20 dc20 pm20 cd20 ct20 oc21 kV21 dc21 pm21 cd21 ct21 oc22 kV22 dc22 pm22 cd22 ct22 oc23 kV23 dc23 pm23 cd23 ct23 oc24 kV24 dc24 pm24 cd24 ct24 oc25 kV25 dc25 pm25 cd25 ct25 oc26 kV26 dc26 pm26 cd26 ct26 oc27 kV27 dc27 pm27 cd27 ct27 oc28 kV28 dc28 pm28 cd28 ct28 oc29 kV29 dc29 pm29 cd29 ct29 oc30 kV30 dc30 pm30 cd30 ct30 oc31 kV31 dc31 pm31 cd31 ct31 oc32 kV32 dc32 pm32 cd32 ct32 oc33 kV33 dc33 pm33 cd33 ct33 oc34 kV34 dc34 pm34 cd34 ct34 oc35 kV35 dc35 pm35 cd35 ct35 oc36 kV36 dc36 pm36 cd36 ct36 oc37 kV37 dc37 pm37 cd37 ct37 oc38 kV38 dc38 pm38 cd38 ct38 oc39 kV39 dc39 pm39 cd39 ct39 oc40 kV40 dc40 pm40 cd40 ct40 oc41 kV41 dc41 pm41 cd41 ct41 oc42 kV42 dc42 pm42 cd42 ct42 oc43 kV43 dc43 pm43 cd43 ct43 oc44 kV44 dc44 pm44 cd44 ct44 oc45 kV45 dc45 pm45 cd45 ct45 oc46 kV46 dc46 pm46 cd46 ct46 oc47 kV47 dc47 pm47 cd47 ct47 : Value}
  {aStraight aStopped aParted aMode aThing : Addr}
  (nm_Straight : PySem.W.nsIn K mainGlobals "Straight" = some (some (.ref aStraight)))
  (pg_Straight : PySem.W.plainGet K aStraight Str.empty = true)
  (hd_Straight : PySem.W.hasDictIn K aStraight = true)
  (po_Straight : PySem.W.plainOver K aStraight = true)
  (sa_Straight : PySem.W.findIn K (.ref aStraight) "__setattr__" = some (some (.builtin "object.__setattr__")))
  (mk_Straight : PySem.W.makesIn K aStraight = true)
  (kc_Straight : PySem.W.keepIn K (.ref aStraight) = true)
  (ha_Straight : PySem.W.findIn K (.ref aStraight) "__class__" = some (some (.builtin "object.__class__")))
  (hn_Straight : PySem.W.specialIn K (.builtin "object.__class__") "__get__" = some (some (.builtin "getset_descriptor.__get__")))
  (tk_Straight : PySem.W.takesIn K (.builtin "object.__class__") = some true)
  (hm_Straight : PySem.W.mroIn K aStraight (.type "object") = some true)
  (n_numbers_Straight : PySem.W.findIn K (.ref aStraight) "numbers" = some none)
  (n_add_Straight : PySem.W.findIn K (.ref aStraight) "add" = some none)
  (n_divisor_Straight : PySem.W.findIn K (.ref aStraight) "divisor" = some none)
  (nm_Stopped : PySem.W.nsIn K mainGlobals "Stopped" = some (some (.ref aStopped)))
  (pg_Stopped : PySem.W.plainGet K aStopped Str.empty = true)
  (hd_Stopped : PySem.W.hasDictIn K aStopped = true)
  (po_Stopped : PySem.W.plainOver K aStopped = true)
  (sa_Stopped : PySem.W.findIn K (.ref aStopped) "__setattr__" = some (some (.builtin "object.__setattr__")))
  (mk_Stopped : PySem.W.makesIn K aStopped = true)
  (kc_Stopped : PySem.W.keepIn K (.ref aStopped) = true)
  (ha_Stopped : PySem.W.findIn K (.ref aStopped) "__class__" = some (some (.builtin "object.__class__")))
  (hn_Stopped : PySem.W.specialIn K (.builtin "object.__class__") "__get__" = some (some (.builtin "getset_descriptor.__get__")))
  (tk_Stopped : PySem.W.takesIn K (.builtin "object.__class__") = some true)
  (hm_Stopped : PySem.W.mroIn K aStopped (.type "object") = some true)
  (n_rule_Stopped : PySem.W.findIn K (.ref aStopped) "rule" = some none)
  (n_low_Stopped : PySem.W.findIn K (.ref aStopped) "low" = some none)
  (n_high_Stopped : PySem.W.findIn K (.ref aStopped) "high" = some none)
  (nm_Parted : PySem.W.nsIn K mainGlobals "Parted" = some (some (.ref aParted)))
  (pg_Parted : PySem.W.plainGet K aParted Str.empty = true)
  (hd_Parted : PySem.W.hasDictIn K aParted = true)
  (po_Parted : PySem.W.plainOver K aParted = true)
  (sa_Parted : PySem.W.findIn K (.ref aParted) "__setattr__" = some (some (.builtin "object.__setattr__")))
  (mk_Parted : PySem.W.makesIn K aParted = true)
  (kc_Parted : PySem.W.keepIn K (.ref aParted) = true)
  (ha_Parted : PySem.W.findIn K (.ref aParted) "__class__" = some (some (.builtin "object.__class__")))
  (hn_Parted : PySem.W.specialIn K (.builtin "object.__class__") "__get__" = some (some (.builtin "getset_descriptor.__get__")))
  (tk_Parted : PySem.W.takesIn K (.builtin "object.__class__") = some true)
  (hm_Parted : PySem.W.mroIn K aParted (.type "object") = some true)
  (n_row_Parted : PySem.W.findIn K (.ref aParted) "row" = some none)
  (n_rule_Parted : PySem.W.findIn K (.ref aParted) "rule" = some none)
  (n_other_Parted : PySem.W.findIn K (.ref aParted) "other" = some none)
  (nm_Mode : PySem.W.nsIn K mainGlobals "Mode" = some (some (.ref aMode)))
  (pg_Mode : PySem.W.plainGet K aMode Str.empty = true)
  (hd_Mode : PySem.W.hasDictIn K aMode = true)
  (po_Mode : PySem.W.plainOver K aMode = true)
  (sa_Mode : PySem.W.findIn K (.ref aMode) "__setattr__" = some (some (.builtin "object.__setattr__")))
  (mk_Mode : PySem.W.makesIn K aMode = true)
  (kc_Mode : PySem.W.keepIn K (.ref aMode) = true)
  (ha_Mode : PySem.W.findIn K (.ref aMode) "__class__" = some (some (.builtin "object.__class__")))
  (hn_Mode : PySem.W.specialIn K (.builtin "object.__class__") "__get__" = some (some (.builtin "getset_descriptor.__get__")))
  (tk_Mode : PySem.W.takesIn K (.builtin "object.__class__") = some true)
  (hm_Mode : PySem.W.mroIn K aMode (.type "object") = some true)
  (n_rows_Mode : PySem.W.findIn K (.ref aMode) "rows" = some none)
  (n_nexts_Mode : PySem.W.findIn K (.ref aMode) "nexts" = some none)
  (n_steer_Mode : PySem.W.findIn K (.ref aMode) "steer" = some none)
  (n_push_Mode : PySem.W.findIn K (.ref aMode) "push" = some none)
  (n_add_Mode : PySem.W.findIn K (.ref aMode) "add" = some none)
  (n_divisor_Mode : PySem.W.findIn K (.ref aMode) "divisor" = some none)
  (nm_Thing : PySem.W.nsIn K mainGlobals "Thing" = some (some (.ref aThing)))
  (pg_Thing : PySem.W.plainGet K aThing Str.empty = true)
  (hd_Thing : PySem.W.hasDictIn K aThing = true)
  (po_Thing : PySem.W.plainOver K aThing = true)
  (sa_Thing : PySem.W.findIn K (.ref aThing) "__setattr__" = some (some (.builtin "object.__setattr__")))
  (mk_Thing : PySem.W.makesIn K aThing = true)
  (kc_Thing : PySem.W.keepIn K (.ref aThing) = true)
  (ha_Thing : PySem.W.findIn K (.ref aThing) "__class__" = some (some (.builtin "object.__class__")))
  (hn_Thing : PySem.W.specialIn K (.builtin "object.__class__") "__get__" = some (some (.builtin "getset_descriptor.__get__")))
  (tk_Thing : PySem.W.takesIn K (.builtin "object.__class__") = some true)
  (hm_Thing : PySem.W.mroIn K aThing (.type "object") = some true)
  (n_many_Thing : PySem.W.findIn K (.ref aThing) "many" = some none)
  (n_kept_pushes_Thing : PySem.W.findIn K (.ref aThing) "kept_pushes" = some none)
  (n_kept_modes_Thing : PySem.W.findIn K (.ref aThing) "kept_modes" = some none)
  (kt_k21 : PySem.W.kitOne K (.ref aStopped) (.ref aStraight) = some false)
  (kt_k31 : PySem.W.kitOne K (.ref aParted) (.ref aStraight) = some false)
  (kt_k12 : PySem.W.kitOne K (.ref aStraight) (.ref aStopped) = some false)
  (kt_k32 : PySem.W.kitOne K (.ref aParted) (.ref aStopped) = some false)
  (kt_k13 : PySem.W.kitOne K (.ref aStraight) (.ref aParted) = some false)
  {T1 : Addr} {ocT1 : Value} {odT1 : Option Addr} {nT1 : Nat} {slT1 : Array (Option Value)} {tk1 : Tok}
  {T15 : Addr} {ocT15 : Value} {odT15 : Option Addr} {nT15 : Nat} {slT15 : Array (Option Value)} {tk15 : Tok}
  (a0 : PySem.W.nsIn K mainGlobals "is_whole" = some (some (.ref f0))) (l0 : K.lookup f0 = some ⟨oc0, od0, .func (PySem.W.fnOf "is_whole" "is_whole" (defArgs s_is_whole) (defBody s_is_whole) (defScope s_is_whole) .none kV0 dc0 pm0 an0 cd0 ct0), sl0⟩) (c0 : PySem.W.codeIn K cd0 "is_whole" = true) (k0 : PySem.W.keepIn K (.ref f0) = true)
  (a1 : PySem.W.nsIn K mainGlobals "copied" = some (some (.ref f1))) (l1 : K.lookup f1 = some ⟨oc1, od1, .func (PySem.W.fnOf "copied" "copied" (defArgs s_copied) (defBody s_copied) (defScope s_copied) (.ref T1) kV1 dc1 pm1 an1 cd1 ct1), sl1⟩) (c1 : PySem.W.codeIn K cd1 "copied" = true) (k1 : PySem.W.keepIn K (.ref f1) = true)
  (t1 : K.lookup T1 = some ⟨ocT1, odT1, .seq #[.int 5 tk1] nT1, slT1⟩)
  (a2 : PySem.W.nsIn K mainGlobals "is_numbers" = some (some (.ref f2))) (l2 : K.lookup f2 = some ⟨oc2, od2, .func (PySem.W.fnOf "is_numbers" "is_numbers" (defArgs s_is_numbers) (defBody s_is_numbers) (defScope s_is_numbers) .none kV2 dc2 pm2 an2 cd2 ct2), sl2⟩) (c2 : PySem.W.codeIn K cd2 "is_numbers" = true) (k2 : PySem.W.keepIn K (.ref f2) = true)
  (a3 : PySem.W.nsIn K mainGlobals "is_table" = some (some (.ref f3))) (l3 : K.lookup f3 = some ⟨oc3, od3, .func (PySem.W.fnOf "is_table" "is_table" (defArgs s_is_table) (defBody s_is_table) (defScope s_is_table) .none kV3 dc3 pm3 an3 cd3 ct3), sl3⟩) (c3 : PySem.W.codeIn K cd3 "is_table" = true) (k3 : PySem.W.keepIn K (.ref f3) = true)
  (a4 : PySem.W.nsIn K mainGlobals "is_row" = some (some (.ref f4))) (l4 : K.lookup f4 = some ⟨oc4, od4, .func (PySem.W.fnOf "is_row" "is_row" (defArgs s_is_row) (defBody s_is_row) (defScope s_is_row) .none kV4 dc4 pm4 an4 cd4 ct4), sl4⟩) (c4 : PySem.W.codeIn K cd4 "is_row" = true) (k4 : PySem.W.keepIn K (.ref f4) = true)
  (a5 : PySem.W.nsIn K mainGlobals "is_room" = some (some (.ref f5))) (l5 : K.lookup f5 = some ⟨oc5, od5, .func (PySem.W.fnOf "is_room" "is_room" (defArgs s_is_room) (defBody s_is_room) (defScope s_is_room) .none kV5 dc5 pm5 an5 cd5 ct5), sl5⟩) (c5 : PySem.W.codeIn K cd5 "is_room" = true) (k5 : PySem.W.keepIn K (.ref f5) = true)
  (a6 : PySem.W.nsIn K mainGlobals "is_push" = some (some (.ref f6))) (l6 : K.lookup f6 = some ⟨oc6, od6, .func (PySem.W.fnOf "is_push" "is_push" (defArgs s_is_push) (defBody s_is_push) (defScope s_is_push) .none kV6 dc6 pm6 an6 cd6 ct6), sl6⟩) (c6 : PySem.W.codeIn K cd6 "is_push" = true) (k6 : PySem.W.keepIn K (.ref f6) = true)
  (a7 : PySem.W.findIn K (.ref aMode) "__init__" = some (some (.ref f7))) (i7 : PySem.W.isFn K (.ref f7) = true) (l7 : K.lookup f7 = some ⟨oc7, od7, .func (PySem.W.fnOf "__init__" "Mode.__init__" (defArgs s_Mode___init__) (defBody s_Mode___init__) (defScope s_Mode___init__) .none kV7 dc7 pm7 an7 cd7 ct7), sl7⟩) (c7 : PySem.W.codeIn K cd7 "Mode.__init__" = true) (k7 : PySem.W.keepIn K (.ref f7) = true)
  (a8 : PySem.W.nsIn K mainGlobals "is_mode" = some (some (.ref f8))) (l8 : K.lookup f8 = some ⟨oc8, od8, .func (PySem.W.fnOf "is_mode" "is_mode" (defArgs s_is_mode) (defBody s_is_mode) (defScope s_is_mode) .none kV8 dc8 pm8 an8 cd8 ct8), sl8⟩) (c8 : PySem.W.codeIn K cd8 "is_mode" = true) (k8 : PySem.W.keepIn K (.ref f8) = true)
  (a9 : PySem.W.nsIn K mainGlobals "is_sound" = some (some (.ref f9))) (l9 : K.lookup f9 = some ⟨oc9, od9, .func (PySem.W.fnOf "is_sound" "is_sound" (defArgs s_is_sound) (defBody s_is_sound) (defScope s_is_sound) .none kV9 dc9 pm9 an9 cd9 ct9), sl9⟩) (c9 : PySem.W.codeIn K cd9 "is_sound" = true) (k9 : PySem.W.keepIn K (.ref f9) = true)
  (a10 : PySem.W.findIn K (.ref aThing) "__init__" = some (some (.ref f10))) (i10 : PySem.W.isFn K (.ref f10) = true) (l10 : K.lookup f10 = some ⟨oc10, od10, .func (PySem.W.fnOf "__init__" "Thing.__init__" (defArgs s_Thing___init__) (defBody s_Thing___init__) (defScope s_Thing___init__) .none kV10 dc10 pm10 an10 cd10 ct10), sl10⟩) (c10 : PySem.W.codeIn K cd10 "Thing.__init__" = true) (k10 : PySem.W.keepIn K (.ref f10) = true)
  (a11 : PySem.W.findIn K (.ref aThing) "pushes" = some (some (.ref f11))) (i11 : PySem.W.isFn K (.ref f11) = true) (l11 : K.lookup f11 = some ⟨oc11, od11, .func (PySem.W.fnOf "pushes" "Thing.pushes" (defArgs s_Thing_pushes) (defBody s_Thing_pushes) (defScope s_Thing_pushes) .none kV11 dc11 pm11 an11 cd11 ct11), sl11⟩) (c11 : PySem.W.codeIn K cd11 "Thing.pushes" = true) (k11 : PySem.W.keepIn K (.ref f11) = true)
  (a12 : PySem.W.findIn K (.ref aThing) "modes" = some (some (.ref f12))) (i12 : PySem.W.isFn K (.ref f12) = true) (l12 : K.lookup f12 = some ⟨oc12, od12, .func (PySem.W.fnOf "modes" "Thing.modes" (defArgs s_Thing_modes) (defBody s_Thing_modes) (defScope s_Thing_modes) .none kV12 dc12 pm12 an12 cd12 ct12), sl12⟩) (c12 : PySem.W.codeIn K cd12 "Thing.modes" = true) (k12 : PySem.W.keepIn K (.ref f12) = true)
  (a13 : PySem.W.nsIn K mainGlobals "is_unsteered" = some (some (.ref f13))) (l13 : K.lookup f13 = some ⟨oc13, od13, .func (PySem.W.fnOf "is_unsteered" "is_unsteered" (defArgs s_is_unsteered) (defBody s_is_unsteered) (defScope s_is_unsteered) .none kV13 dc13 pm13 an13 cd13 ct13), sl13⟩) (c13 : PySem.W.codeIn K cd13 "is_unsteered" = true) (k13 : PySem.W.keepIn K (.ref f13) = true)
  (a14 : PySem.W.findIn K (.ref aThing) "is_closed" = some (some (.ref f14))) (i14 : PySem.W.isFn K (.ref f14) = true) (l14 : K.lookup f14 = some ⟨oc14, od14, .func (PySem.W.fnOf "is_closed" "Thing.is_closed" (defArgs s_Thing_is_closed) (defBody s_Thing_is_closed) (defScope s_Thing_is_closed) .none kV14 dc14 pm14 an14 cd14 ct14), sl14⟩) (c14 : PySem.W.codeIn K cd14 "Thing.is_closed" = true) (k14 : PySem.W.keepIn K (.ref f14) = true)
  (a15 : PySem.W.findIn K (.ref aStraight) "__init__" = some (some (.ref f15))) (i15 : PySem.W.isFn K (.ref f15) = true) (l15 : K.lookup f15 = some ⟨oc15, od15, .func (PySem.W.fnOf "__init__" "Straight.__init__" (defArgs s_Straight___init__) (defBody s_Straight___init__) (defScope s_Straight___init__) (.ref T15) kV15 dc15 pm15 an15 cd15 ct15), sl15⟩) (c15 : PySem.W.codeIn K cd15 "Straight.__init__" = true) (k15 : PySem.W.keepIn K (.ref f15) = true)
  (t15 : K.lookup T15 = some ⟨ocT15, odT15, .seq #[.int 1 tk15] nT15, slT15⟩)
  (a16 : PySem.W.findIn K (.ref aStopped) "__init__" = some (some (.ref f16))) (i16 : PySem.W.isFn K (.ref f16) = true) (l16 : K.lookup f16 = some ⟨oc16, od16, .func (PySem.W.fnOf "__init__" "Stopped.__init__" (defArgs s_Stopped___init__) (defBody s_Stopped___init__) (defScope s_Stopped___init__) .none kV16 dc16 pm16 an16 cd16 ct16), sl16⟩) (c16 : PySem.W.codeIn K cd16 "Stopped.__init__" = true) (k16 : PySem.W.keepIn K (.ref f16) = true)
  (a17 : PySem.W.findIn K (.ref aParted) "__init__" = some (some (.ref f17))) (i17 : PySem.W.isFn K (.ref f17) = true) (l17 : K.lookup f17 = some ⟨oc17, od17, .func (PySem.W.fnOf "__init__" "Parted.__init__" (defArgs s_Parted___init__) (defBody s_Parted___init__) (defScope s_Parted___init__) .none kV17 dc17 pm17 an17 cd17 ct17), sl17⟩) (c17 : PySem.W.codeIn K cd17 "Parted.__init__" = true) (k17 : PySem.W.keepIn K (.ref f17) = true)
  (a18 : PySem.W.nsIn K mainGlobals "other_side" = some (some (.ref f18))) (l18 : K.lookup f18 = some ⟨oc18, od18, .func (PySem.W.fnOf "other_side" "other_side" (defArgs s_other_side) (defBody s_other_side) (defScope s_other_side) .none kV18 dc18 pm18 an18 cd18 ct18), sl18⟩) (c18 : PySem.W.codeIn K cd18 "other_side" = true) (k18 : PySem.W.keepIn K (.ref f18) = true)
  (a19 : PySem.W.nsIn K mainGlobals "is_straight" = some (some (.ref f19))) (l19 : K.lookup f19 = some ⟨oc19, od19, .func (PySem.W.fnOf "is_straight" "is_straight" (defArgs s_is_straight) (defBody s_is_straight) (defScope s_is_straight) .none kV19 dc19 pm19 an19 cd19 ct19), sl19⟩) (c19 : PySem.W.codeIn K cd19 "is_straight" = true) (k19 : PySem.W.keepIn K (.ref f19) = true)
  (a20 : PySem.W.nsIn K mainGlobals "are_stops" = some (some (.ref f20))) (l20 : K.lookup f20 = some ⟨oc20, od20, .func (PySem.W.fnOf "are_stops" "are_stops" (defArgs s_are_stops) (defBody s_are_stops) (defScope s_are_stops) .none kV20 dc20 pm20 an20 cd20 ct20), sl20⟩) (c20 : PySem.W.codeIn K cd20 "are_stops" = true) (k20 : PySem.W.keepIn K (.ref f20) = true)
  (a21 : PySem.W.nsIn K mainGlobals "is_rule" = some (some (.ref f21))) (l21 : K.lookup f21 = some ⟨oc21, od21, .func (PySem.W.fnOf "is_rule" "is_rule" (defArgs s_is_rule) (defBody s_is_rule) (defScope s_is_rule) .none kV21 dc21 pm21 an21 cd21 ct21), sl21⟩) (c21 : PySem.W.codeIn K cd21 "is_rule" = true) (k21 : PySem.W.keepIn K (.ref f21) = true)
  (a22 : PySem.W.nsIn K mainGlobals "piece_count" = some (some (.ref f22))) (l22 : K.lookup f22 = some ⟨oc22, od22, .func (PySem.W.fnOf "piece_count" "piece_count" (defArgs s_piece_count) (defBody s_piece_count) (defScope s_piece_count) .none kV22 dc22 pm22 an22 cd22 ct22), sl22⟩) (c22 : PySem.W.codeIn K cd22 "piece_count" = true) (k22 : PySem.W.keepIn K (.ref f22) = true)
  (a23 : PySem.W.nsIn K mainGlobals "stop_row" = some (some (.ref f23))) (l23 : K.lookup f23 = some ⟨oc23, od23, .func (PySem.W.fnOf "stop_row" "stop_row" (defArgs s_stop_row) (defBody s_stop_row) (defScope s_stop_row) .none kV23 dc23 pm23 an23 cd23 ct23), sl23⟩) (c23 : PySem.W.codeIn K cd23 "stop_row" = true) (k23 : PySem.W.keepIn K (.ref f23) = true)
  (a24 : PySem.W.nsIn K mainGlobals "stopped_pieces" = some (some (.ref f24))) (l24 : K.lookup f24 = some ⟨oc24, od24, .func (PySem.W.fnOf "stopped_pieces" "stopped_pieces" (defArgs s_stopped_pieces) (defBody s_stopped_pieces) (defScope s_stopped_pieces) .none kV24 dc24 pm24 an24 cd24 ct24), sl24⟩) (c24 : PySem.W.codeIn K cd24 "stopped_pieces" = true) (k24 : PySem.W.keepIn K (.ref f24) = true)
  (a25 : PySem.W.nsIn K mainGlobals "parted_pieces" = some (some (.ref f25))) (l25 : K.lookup f25 = some ⟨oc25, od25, .func (PySem.W.fnOf "parted_pieces" "parted_pieces" (defArgs s_parted_pieces) (defBody s_parted_pieces) (defScope s_parted_pieces) .none kV25 dc25 pm25 an25 cd25 ct25), sl25⟩) (c25 : PySem.W.codeIn K cd25 "parted_pieces" = true) (k25 : PySem.W.keepIn K (.ref f25) = true)
  (a26 : PySem.W.nsIn K mainGlobals "listed" = some (some (.ref f26))) (l26 : K.lookup f26 = some ⟨oc26, od26, .func (PySem.W.fnOf "listed" "listed" (defArgs s_listed) (defBody s_listed) (defScope s_listed) .none kV26 dc26 pm26 an26 cd26 ct26), sl26⟩) (c26 : PySem.W.codeIn K cd26 "listed" = true) (k26 : PySem.W.keepIn K (.ref f26) = true)
  (a27 : PySem.W.nsIn K mainGlobals "pieces" = some (some (.ref f27))) (l27 : K.lookup f27 = some ⟨oc27, od27, .func (PySem.W.fnOf "pieces" "pieces" (defArgs s_pieces) (defBody s_pieces) (defScope s_pieces) .none kV27 dc27 pm27 an27 cd27 ct27), sl27⟩) (c27 : PySem.W.codeIn K cd27 "pieces" = true) (k27 : PySem.W.keepIn K (.ref f27) = true)
  (a28 : PySem.W.nsIn K mainGlobals "scaled" = some (some (.ref f28))) (l28 : K.lookup f28 = some ⟨oc28, od28, .func (PySem.W.fnOf "scaled" "scaled" (defArgs s_scaled) (defBody s_scaled) (defScope s_scaled) .none kV28 dc28 pm28 an28 cd28 ct28), sl28⟩) (c28 : PySem.W.codeIn K cd28 "scaled" = true) (k28 : PySem.W.keepIn K (.ref f28) = true)
  (a29 : PySem.W.nsIn K mainGlobals "mixed" = some (some (.ref f29))) (l29 : K.lookup f29 = some ⟨oc29, od29, .func (PySem.W.fnOf "mixed" "mixed" (defArgs s_mixed) (defBody s_mixed) (defScope s_mixed) .none kV29 dc29 pm29 an29 cd29 ct29), sl29⟩) (c29 : PySem.W.codeIn K cd29 "mixed" = true) (k29 : PySem.W.keepIn K (.ref f29) = true)
  (a30 : PySem.W.nsIn K mainGlobals "steered_mode" = some (some (.ref f30))) (l30 : K.lookup f30 = some ⟨oc30, od30, .func (PySem.W.fnOf "steered_mode" "steered_mode" (defArgs s_steered_mode) (defBody s_steered_mode) (defScope s_steered_mode) .none kV30 dc30 pm30 an30 cd30 ct30), sl30⟩) (c30 : PySem.W.codeIn K cd30 "steered_mode" = true) (k30 : PySem.W.keepIn K (.ref f30) = true)
  (a31 : PySem.W.nsIn K mainGlobals "rounded_mode" = some (some (.ref f31))) (l31 : K.lookup f31 = some ⟨oc31, od31, .func (PySem.W.fnOf "rounded_mode" "rounded_mode" (defArgs s_rounded_mode) (defBody s_rounded_mode) (defScope s_rounded_mode) .none kV31 dc31 pm31 an31 cd31 ct31), sl31⟩) (c31 : PySem.W.codeIn K cd31 "rounded_mode" = true) (k31 : PySem.W.keepIn K (.ref f31) = true)
  (a32 : PySem.W.nsIn K mainGlobals "late_mode" = some (some (.ref f32))) (l32 : K.lookup f32 = some ⟨oc32, od32, .func (PySem.W.fnOf "late_mode" "late_mode" (defArgs s_late_mode) (defBody s_late_mode) (defScope s_late_mode) .none kV32 dc32 pm32 an32 cd32 ct32), sl32⟩) (c32 : PySem.W.codeIn K cd32 "late_mode" = true) (k32 : PySem.W.keepIn K (.ref f32) = true)
  (a33 : PySem.W.nsIn K mainGlobals "steered" = some (some (.ref f33))) (l33 : K.lookup f33 = some ⟨oc33, od33, .func (PySem.W.fnOf "steered" "steered" (defArgs s_steered) (defBody s_steered) (defScope s_steered) .none kV33 dc33 pm33 an33 cd33 ct33), sl33⟩) (c33 : PySem.W.codeIn K cd33 "steered" = true) (k33 : PySem.W.keepIn K (.ref f33) = true)
  (a34 : PySem.W.nsIn K mainGlobals "late" = some (some (.ref f34))) (l34 : K.lookup f34 = some ⟨oc34, od34, .func (PySem.W.fnOf "late" "late" (defArgs s_late) (defBody s_late) (defScope s_late) .none kV34 dc34 pm34 an34 cd34 ct34), sl34⟩) (c34 : PySem.W.codeIn K cd34 "late" = true) (k34 : PySem.W.keepIn K (.ref f34) = true)
  (a35 : PySem.W.nsIn K mainGlobals "rounded" = some (some (.ref f35))) (l35 : K.lookup f35 = some ⟨oc35, od35, .func (PySem.W.fnOf "rounded" "rounded" (defArgs s_rounded) (defBody s_rounded) (defScope s_rounded) .none kV35 dc35 pm35 an35 cd35 ct35), sl35⟩) (c35 : PySem.W.codeIn K cd35 "rounded" = true) (k35 : PySem.W.keepIn K (.ref f35) = true)
  (a36 : PySem.W.nsIn K mainGlobals "_law_cell_at" = some (some (.ref f36))) (l36 : K.lookup f36 = some ⟨oc36, od36, .func (PySem.W.fnOf "_law_cell_at" "_law_cell_at" (defArgs s_l_cell_at) (defBody s_l_cell_at) (defScope s_l_cell_at) .none kV36 dc36 pm36 an36 cd36 ct36), sl36⟩) (c36 : PySem.W.codeIn K cd36 "_law_cell_at" = true) (k36 : PySem.W.keepIn K (.ref f36) = true)
  (a37 : PySem.W.nsIn K mainGlobals "_law_stream" = some (some (.ref f37))) (l37 : K.lookup f37 = some ⟨oc37, od37, .func (PySem.W.fnOf "_law_stream" "_law_stream" (defArgs s_l_stream) (defBody s_l_stream) (defScope s_l_stream) .none kV37 dc37 pm37 an37 cd37 ct37), sl37⟩) (c37 : PySem.W.codeIn K cd37 "_law_stream" = true) (k37 : PySem.W.keepIn K (.ref f37) = true)
  (a38 : PySem.W.nsIn K mainGlobals "_law_number" = some (some (.ref f38))) (l38 : K.lookup f38 = some ⟨oc38, od38, .func (PySem.W.fnOf "_law_number" "_law_number" (defArgs s_l_number) (defBody s_l_number) (defScope s_l_number) .none kV38 dc38 pm38 an38 cd38 ct38), sl38⟩) (c38 : PySem.W.codeIn K cd38 "_law_number" = true) (k38 : PySem.W.keepIn K (.ref f38) = true)
  (a39 : PySem.W.nsIn K mainGlobals "_law_parts" = some (some (.ref f39))) (l39 : K.lookup f39 = some ⟨oc39, od39, .func (PySem.W.fnOf "_law_parts" "_law_parts" (defArgs s_l_parts) (defBody s_l_parts) (defScope s_l_parts) .none kV39 dc39 pm39 an39 cd39 ct39), sl39⟩) (c39 : PySem.W.codeIn K cd39 "_law_parts" = true) (k39 : PySem.W.keepIn K (.ref f39) = true)
  (a40 : PySem.W.nsIn K mainGlobals "_law_straight" = some (some (.ref f40))) (l40 : K.lookup f40 = some ⟨oc40, od40, .func (PySem.W.fnOf "_law_straight" "_law_straight" (defArgs s_l_straight) (defBody s_l_straight) (defScope s_l_straight) .none kV40 dc40 pm40 an40 cd40 ct40), sl40⟩) (c40 : PySem.W.codeIn K cd40 "_law_straight" = true) (k40 : PySem.W.keepIn K (.ref f40) = true)
  (a41 : PySem.W.nsIn K mainGlobals "_law_rule" = some (some (.ref f41))) (l41 : K.lookup f41 = some ⟨oc41, od41, .func (PySem.W.fnOf "_law_rule" "_law_rule" (defArgs s_l_rule) (defBody s_l_rule) (defScope s_l_rule) .none kV41 dc41 pm41 an41 cd41 ct41), sl41⟩) (c41 : PySem.W.codeIn K cd41 "_law_rule" = true) (k41 : PySem.W.keepIn K (.ref f41) = true)
  (a42 : PySem.W.nsIn K mainGlobals "_law_scaled" = some (some (.ref f42))) (l42 : K.lookup f42 = some ⟨oc42, od42, .func (PySem.W.fnOf "_law_scaled" "_law_scaled" (defArgs s_l_scaled) (defBody s_l_scaled) (defScope s_l_scaled) .none kV42 dc42 pm42 an42 cd42 ct42), sl42⟩) (c42 : PySem.W.codeIn K cd42 "_law_scaled" = true) (k42 : PySem.W.keepIn K (.ref f42) = true)
  (a43 : PySem.W.nsIn K mainGlobals "_law_put" = some (some (.ref f43))) (l43 : K.lookup f43 = some ⟨oc43, od43, .func (PySem.W.fnOf "_law_put" "_law_put" (defArgs s_l_put) (defBody s_l_put) (defScope s_l_put) .none kV43 dc43 pm43 an43 cd43 ct43), sl43⟩) (c43 : PySem.W.codeIn K cd43 "_law_put" = true) (k43 : PySem.W.keepIn K (.ref f43) = true)
  (a44 : PySem.W.nsIn K mainGlobals "_law_put_late" = some (some (.ref f44))) (l44 : K.lookup f44 = some ⟨oc44, od44, .func (PySem.W.fnOf "_law_put_late" "_law_put_late" (defArgs s_l_put_late) (defBody s_l_put_late) (defScope s_l_put_late) .none kV44 dc44 pm44 an44 cd44 ct44), sl44⟩) (c44 : PySem.W.codeIn K cd44 "_law_put_late" = true) (k44 : PySem.W.keepIn K (.ref f44) = true)
  (a45 : PySem.W.nsIn K mainGlobals "_law_told" = some (some (.ref f45))) (l45 : K.lookup f45 = some ⟨oc45, od45, .func (PySem.W.fnOf "_law_told" "_law_told" (defArgs s_l_told) (defBody s_l_told) (defScope s_l_told) .none kV45 dc45 pm45 an45 cd45 ct45), sl45⟩) (c45 : PySem.W.codeIn K cd45 "_law_told" = true) (k45 : PySem.W.keepIn K (.ref f45) = true)
  (a46 : PySem.W.nsIn K mainGlobals "_law_right" = some (some (.ref f46))) (l46 : K.lookup f46 = some ⟨oc46, od46, .func (PySem.W.fnOf "_law_right" "_law_right" (defArgs s_l_right) (defBody s_l_right) (defScope s_l_right) .none kV46 dc46 pm46 an46 cd46 ct46), sl46⟩) (c46 : PySem.W.codeIn K cd46 "_law_right" = true) (k46 : PySem.W.keepIn K (.ref f46) = true)
  (a47 : PySem.W.nsIn K mainGlobals "law" = some (some (.ref f47))) (l47 : K.lookup f47 = some ⟨oc47, od47, .func (PySem.W.fnOf "law" "law" (defArgs s_law) (defBody s_law) (defScope s_law) .none kV47 dc47 pm47 an47 cd47 ct47), sl47⟩) (c47 : PySem.W.codeIn K cd47 "law" = true) (k47 : PySem.W.keepIn K (.ref f47) = true)
  (z0 : PySem.W.nsIn K mainGlobals "isinstance" = some none)
  (z1 : PySem.W.nsIn K mainGlobals "int" = some none)
  (z2 : PySem.W.nsIn K mainGlobals "bool" = some none)
  (z3 : PySem.W.nsIn K mainGlobals "tuple" = some none)
  (z4 : PySem.W.nsIn K mainGlobals "len" = some none)
  (z5 : PySem.W.nsIn K mainGlobals "all" = some none)
  (z6 : PySem.W.nsIn K mainGlobals "list" = some none)
  (z7 : PySem.W.nsIn K mainGlobals "range" = some none)
  (z8 : PySem.W.nsIn K mainGlobals "zip" = some none)
  {gt0 : Tok} (cst0 : PySem.W.nsIn K mainGlobals "MOST_PIECES" = some (some (.int 60 gt0)))
  {gt1 : Tok} (cst1 : PySem.W.nsIn K mainGlobals "MOST_NUMBERS" = some (some (.int 3 gt1)))
  {gt2 : Tok} (cst2 : PySem.W.nsIn K mainGlobals "MOST_PUSHES" = some (some (.int 6 gt2)))
  {gt3 : Tok} (cst3 : PySem.W.nsIn K mainGlobals "MOST_MODES" = some (some (.int 40 gt3)))
  : ∃ fd : FuncData, (∀ (s : Shared) (v : Value), BindsTo s fd ⟨[v], []⟩ [("_law_script", v)]) /\ ∀ base : Heap, K.In base -> base.Ns mainGlobals mg -> FnOk l.prog w K mg base CX0 16 fa fd ["_law_script"] (spLaw K) := by
 have e := hfa.symm.trans (PySem.W.mg_of X G a47)
 cases e
 have B : Bl mg := ⟨PySem.W.mg_none_of X G z0, PySem.W.mg_none_of X G z1, PySem.W.mg_none_of X G z2, PySem.W.mg_none_of X G z3, PySem.W.mg_none_of X G z4, PySem.W.mg_none_of X G z5, PySem.W.mg_none_of X G z6, PySem.W.mg_none_of X G z7, PySem.W.mg_none_of X G z8, ⟨_, PySem.W.mg_of X G cst0⟩, ⟨_, PySem.W.mg_of X G cst1⟩, ⟨_, PySem.W.mg_of X G cst2⟩, ⟨_, PySem.W.mg_of X G cst3⟩⟩
 have TStraight : ClsF K mg "Straight" aStraight := ⟨⟨pg_Straight, hd_Straight, po_Straight, sa_Straight⟩, PySem.W.mg_of X G nm_Straight, ha_Straight, hn_Straight, tk_Straight, hm_Straight⟩
 have AStraight : AtStraight K aStraight := ⟨n_numbers_Straight, n_add_Straight, n_divisor_Straight⟩
 have TStopped : ClsF K mg "Stopped" aStopped := ⟨⟨pg_Stopped, hd_Stopped, po_Stopped, sa_Stopped⟩, PySem.W.mg_of X G nm_Stopped, ha_Stopped, hn_Stopped, tk_Stopped, hm_Stopped⟩
 have AStopped : AtStopped K aStopped := ⟨n_rule_Stopped, n_low_Stopped, n_high_Stopped⟩
 have TParted : ClsF K mg "Parted" aParted := ⟨⟨pg_Parted, hd_Parted, po_Parted, sa_Parted⟩, PySem.W.mg_of X G nm_Parted, ha_Parted, hn_Parted, tk_Parted, hm_Parted⟩
 have AParted : AtParted K aParted := ⟨n_row_Parted, n_rule_Parted, n_other_Parted⟩
 have TMode : ClsF K mg "Mode" aMode := ⟨⟨pg_Mode, hd_Mode, po_Mode, sa_Mode⟩, PySem.W.mg_of X G nm_Mode, ha_Mode, hn_Mode, tk_Mode, hm_Mode⟩
 have AMode : AtMode K aMode := ⟨n_rows_Mode, n_nexts_Mode, n_steer_Mode, n_push_Mode, n_add_Mode, n_divisor_Mode⟩
 have TThing : ClsF K mg "Thing" aThing := ⟨⟨pg_Thing, hd_Thing, po_Thing, sa_Thing⟩, PySem.W.mg_of X G nm_Thing, ha_Thing, hn_Thing, tk_Thing, hm_Thing⟩
 have AThing : AtThing K aThing := ⟨n_many_Thing, n_kept_pushes_Thing, n_kept_modes_Thing⟩
 have Y : Kits K aStraight aStopped aParted := ⟨kt_k21, kt_k31, kt_k12, kt_k32, kt_k13⟩
 have F0 := fun_mk (st := s_is_whole) l0 c0 k0
 have b0 := F0.binds (ps := ["thing"]) fun _ _ _ _ _ _ us hl => by revert us; exact L2.arity1 (fun _ => rfl)
 have F1 := fund_mk (st := s_copied) l1 c1 k1 t1 rfl
 have b1 := F1.binds (ps := ["value", "depth"]) fun _ _ _ _ _ _ _ us hl => by revert us; exact L2.arity2 (fun _ _ => ⟨_, rfl, rfl⟩)
 have bd1 := F1.binds1 (ps := ["value", "depth"]) fun _ _ _ _ _ _ _ us hl => match us, hl with | [_], _ => ⟨_, rfl, rfl⟩
 have F2 := fun_mk (st := s_is_numbers) l2 c2 k2
 have b2 := F2.binds (ps := ["value", "count"]) fun _ _ _ _ _ _ us hl => by revert us; exact L2.arity2 (fun _ _ => rfl)
 have F3 := fun_mk (st := s_is_table) l3 c3 k3
 have b3 := F3.binds (ps := ["value", "tall", "wide"]) fun _ _ _ _ _ _ us hl => by revert us; exact L2.arity3 (fun _ _ _ => rfl)
 have F4 := fun_mk (st := s_is_row) l4 c4 k4
 have b4 := F4.binds (ps := ["value", "many"]) fun _ _ _ _ _ _ us hl => by revert us; exact L2.arity2 (fun _ _ => rfl)
 have F5 := fun_mk (st := s_is_room) l5 c5 k5
 have b5 := F5.binds (ps := ["value", "many"]) fun _ _ _ _ _ _ us hl => by revert us; exact L2.arity2 (fun _ _ => rfl)
 have F6 := fun_mk (st := s_is_push) l6 c6 k6
 have b6 := F6.binds (ps := ["value"]) fun _ _ _ _ _ _ us hl => by revert us; exact L2.arity1 (fun _ => rfl)
 have F7 := fun_mk (st := s_Mode___init__) l7 c7 k7
 have b7 := F7.binds (ps := ["self", "rows", "nexts", "steer", "push", "add", "divisor"]) fun _ _ _ _ _ _ us hl => by revert us; exact L2.arity7 (fun _ _ _ _ _ _ _ => rfl)
 have F8 := fun_mk (st := s_is_mode) l8 c8 k8
 have b8 := F8.binds (ps := ["value", "many", "wide"]) fun _ _ _ _ _ _ us hl => by revert us; exact L2.arity3 (fun _ _ _ => rfl)
 have F9 := fun_mk (st := s_is_sound) l9 c9 k9
 have b9 := F9.binds (ps := ["many", "pushes", "modes"]) fun _ _ _ _ _ _ us hl => by revert us; exact L2.arity3 (fun _ _ _ => rfl)
 have F10 := fun_mk (st := s_Thing___init__) l10 c10 k10
 have b10 := F10.binds (ps := ["self", "many", "pushes", "modes"]) fun _ _ _ _ _ _ us hl => by revert us; exact L2.arity4 (fun _ _ _ _ => rfl)
 have F11 := fun_mk (st := s_Thing_pushes) l11 c11 k11
 have b11 := F11.binds (ps := ["self"]) fun _ _ _ _ _ _ us hl => by revert us; exact L2.arity1 (fun _ => rfl)
 have F12 := fun_mk (st := s_Thing_modes) l12 c12 k12
 have b12 := F12.binds (ps := ["self"]) fun _ _ _ _ _ _ us hl => by revert us; exact L2.arity1 (fun _ => rfl)
 have F13 := fun_mk (st := s_is_unsteered) l13 c13 k13
 have b13 := F13.binds (ps := ["mode"]) fun _ _ _ _ _ _ us hl => by revert us; exact L2.arity1 (fun _ => rfl)
 have F14 := fun_mk (st := s_Thing_is_closed) l14 c14 k14
 have b14 := F14.binds (ps := ["self"]) fun _ _ _ _ _ _ us hl => by revert us; exact L2.arity1 (fun _ => rfl)
 have F15 := fund_mk (st := s_Straight___init__) l15 c15 k15 t15 rfl
 have b15 := F15.binds (ps := ["self", "numbers", "add", "divisor"]) fun _ _ _ _ _ _ _ us hl => by revert us; exact L2.arity4 (fun _ _ _ _ => ⟨_, rfl, rfl⟩)
 have bd15 := F15.binds1 (ps := ["self", "numbers", "add", "divisor"]) fun _ _ _ _ _ _ _ us hl => match us, hl with | [_, _, _], _ => ⟨_, rfl, rfl⟩
 have F16 := fun_mk (st := s_Stopped___init__) l16 c16 k16
 have b16 := F16.binds (ps := ["self", "rule", "low", "high"]) fun _ _ _ _ _ _ us hl => by revert us; exact L2.arity4 (fun _ _ _ _ => rfl)
 have F17 := fun_mk (st := s_Parted___init__) l17 c17 k17
 have b17 := F17.binds (ps := ["self", "row", "rule", "other"]) fun _ _ _ _ _ _ us hl => by revert us; exact L2.arity4 (fun _ _ _ _ => rfl)
 have F18 := fun_mk (st := s_other_side) l18 c18 k18
 have b18 := F18.binds (ps := ["row"]) fun _ _ _ _ _ _ us hl => by revert us; exact L2.arity1 (fun _ => rfl)
 have F19 := fun_mk (st := s_is_straight) l19 c19 k19
 have b19 := F19.binds (ps := ["value", "many"]) fun _ _ _ _ _ _ us hl => by revert us; exact L2.arity2 (fun _ _ => rfl)
 have F20 := fun_mk (st := s_are_stops) l20 c20 k20
 have b20 := F20.binds (ps := ["low", "high"]) fun _ _ _ _ _ _ us hl => by revert us; exact L2.arity2 (fun _ _ => rfl)
 have F21 := fun_mk (st := s_is_rule) l21 c21 k21
 have b21 := F21.binds (ps := ["value", "many"]) fun _ _ _ _ _ _ us hl => by revert us; exact L2.arity2 (fun _ _ => rfl)
 have F22 := fun_mk (st := s_piece_count) l22 c22 k22
 have b22 := F22.binds (ps := ["rule"]) fun _ _ _ _ _ _ us hl => by revert us; exact L2.arity1 (fun _ => rfl)
 have F23 := fun_mk (st := s_stop_row) l23 c23 k23
 have b23 := F23.binds (ps := ["straight", "stop"]) fun _ _ _ _ _ _ us hl => by revert us; exact L2.arity2 (fun _ _ => rfl)
 have F24 := fun_mk (st := s_stopped_pieces) l24 c24 k24
 have b24 := F24.binds (ps := ["rule"]) fun _ _ _ _ _ _ us hl => by revert us; exact L2.arity1 (fun _ => rfl)
 have F25 := fun_mk (st := s_parted_pieces) l25 c25 k25
 have b25 := F25.binds (ps := ["rule"]) fun _ _ _ _ _ _ us hl => by revert us; exact L2.arity1 (fun _ => rfl)
 have F26 := fun_mk (st := s_listed) l26 c26 k26
 have b26 := F26.binds (ps := ["rule"]) fun _ _ _ _ _ _ us hl => by revert us; exact L2.arity1 (fun _ => rfl)
 have F27 := fun_mk (st := s_pieces) l27 c27 k27
 have b27 := F27.binds (ps := ["rule", "many"]) fun _ _ _ _ _ _ us hl => by revert us; exact L2.arity2 (fun _ _ => rfl)
 have F28 := fun_mk (st := s_scaled) l28 c28 k28
 have b28 := F28.binds (ps := ["factor", "numbers"]) fun _ _ _ _ _ _ us hl => by revert us; exact L2.arity2 (fun _ _ => rfl)
 have F29 := fun_mk (st := s_mixed) l29 c29 k29
 have b29 := F29.binds (ps := ["factor", "numbers", "other_factor", "others"]) fun _ _ _ _ _ _ us hl => by revert us; exact L2.arity4 (fun _ _ _ _ => rfl)
 have F30 := fun_mk (st := s_steered_mode) l30 c30 k30
 have b30 := F30.binds (ps := ["mode", "rows", "straight"]) fun _ _ _ _ _ _ us hl => by revert us; exact L2.arity3 (fun _ _ _ => rfl)
 have F31 := fun_mk (st := s_rounded_mode) l31 c31 k31
 have b31 := F31.binds (ps := ["mode", "straight"]) fun _ _ _ _ _ _ us hl => by revert us; exact L2.arity2 (fun _ _ => rfl)
 have F32 := fun_mk (st := s_late_mode) l32 c32 k32
 have b32 := F32.binds (ps := ["mode", "rows", "straight"]) fun _ _ _ _ _ _ us hl => by revert us; exact L2.arity3 (fun _ _ _ => rfl)
 have F33 := fun_mk (st := s_steered) l33 c33 k33
 have b33 := F33.binds (ps := ["thing", "rule"]) fun _ _ _ _ _ _ us hl => by revert us; exact L2.arity2 (fun _ _ => rfl)
 have F34 := fun_mk (st := s_late) l34 c34 k34
 have b34 := F34.binds (ps := ["thing", "rule"]) fun _ _ _ _ _ _ us hl => by revert us; exact L2.arity2 (fun _ _ => rfl)
 have F35 := fun_mk (st := s_rounded) l35 c35 k35
 have b35 := F35.binds (ps := ["thing", "straight", "size"]) fun _ _ _ _ _ _ us hl => by revert us; exact L2.arity3 (fun _ _ _ => rfl)
 have F36 := fun_mk (st := s_l_cell_at) l36 c36 k36
 have b36 := F36.binds (ps := ["_law_script", "_law_k"]) fun _ _ _ _ _ _ us hl => by revert us; exact L2.arity2 (fun _ _ => rfl)
 have F37 := fun_mk (st := s_l_stream) l37 c37 k37
 have b37 := F37.binds (ps := ["_law_cell", "_law_many"]) fun _ _ _ _ _ _ us hl => by revert us; exact L2.arity2 (fun _ _ => rfl)
 have F38 := fun_mk (st := s_l_number) l38 c38 k38
 have b38 := F38.binds (ps := ["_law_number_here"]) fun _ _ _ _ _ _ us hl => by revert us; exact L2.arity1 (fun _ => rfl)
 have F39 := fun_mk (st := s_l_parts) l39 c39 k39
 have b39 := F39.binds (ps := ["_law_cell", "_law_many", "_law_wide"]) fun _ _ _ _ _ _ us hl => by revert us; exact L2.arity3 (fun _ _ _ => rfl)
 have F40 := fun_mk (st := s_l_straight) l40 c40 k40
 have b40 := F40.binds (ps := ["_law_cell", "_law_many"]) fun _ _ _ _ _ _ us hl => by revert us; exact L2.arity2 (fun _ _ => rfl)
 have F41 := fun_mk (st := s_l_rule) l41 c41 k41
 have b41 := F41.binds (ps := ["_law_cells", "_law_many"]) fun _ _ _ _ _ _ us hl => by revert us; exact L2.arity2 (fun _ _ => rfl)
 have F42 := fun_mk (st := s_l_scaled) l42 c42 k42
 have b42 := F42.binds (ps := ["_law_numbers", "_law_by"]) fun _ _ _ _ _ _ us hl => by revert us; exact L2.arity2 (fun _ _ => rfl)
 have F43 := fun_mk (st := s_l_put) l43 c43 k43
 have b43 := F43.binds (ps := ["_law_parts_here", "_law_rows", "_law_straight_here"]) fun _ _ _ _ _ _ us hl => by revert us; exact L2.arity3 (fun _ _ _ => rfl)
 have F44 := fun_mk (st := s_l_put_late) l44 c44 k44
 have b44 := F44.binds (ps := ["_law_parts_here", "_law_rows", "_law_straight_here"]) fun _ _ _ _ _ _ us hl => by revert us; exact L2.arity3 (fun _ _ _ => rfl)
 have F45 := fun_mk (st := s_l_told) l45 c45 k45
 have b45 := F45.binds (ps := ["_law_thing"]) fun _ _ _ _ _ _ us hl => by revert us; exact L2.arity1 (fun _ => rfl)
 have F46 := fun_mk (st := s_l_right) l46 c46 k46
 have b46 := F46.binds (ps := ["_law_thing", "_law_many", "_law_pushes", "_law_due"]) fun _ _ _ _ _ _ us hl => by revert us; exact L2.arity4 (fun _ _ _ _ => rfl)
 have F47 := fun_mk (st := s_law) l47 c47 k47
 have b47 := F47.binds (ps := ["_law_script"]) fun _ _ _ _ _ _ us hl => by revert us; exact L2.arity1 (fun _ => rfl)
 refine ⟨PySem.W.fnOf "law" "law" (defArgs s_law) (defBody s_law) (defScope s_law) .none kV47 dc47 pm47 an47 cd47 ct47, fun s v => .of_eq rfl, fun base _ _ => ?_⟩
 have N0 : Fn l.prog w K mg base "is_whole" ["thing"] 1 spIsWhole := ⟨_, _, ok_is_whole (k := 0) TStraight AStraight TStopped AStopped TParted AParted TMode AMode TThing AThing Y F0 B , PySem.W.mg_of X G a0, k0, b0⟩
 have N1_n : FnD l.prog w K mg base "copied" ["value", "depth"] 0 spNone (.int 5) := ⟨_, _, _, FnOk.none, PySem.W.mg_of X G a1, k1, b1, bd1, ⟨_, rfl⟩⟩
 have N1_0 : FnD l.prog w K mg base "copied" ["value", "depth"] 1 spC0 (.int 5) := ⟨_, _, _, ok_copied_0 (k := 0) TStraight AStraight TStopped AStopped TParted AParted TMode AMode TThing AThing Y F1 B N1_n, PySem.W.mg_of X G a1, k1, b1, bd1, ⟨_, rfl⟩⟩
 have N1_1 : FnD l.prog w K mg base "copied" ["value", "depth"] 2 spC1 (.int 5) := ⟨_, _, _, ok_copied_1 (k := 1) TStraight AStraight TStopped AStopped TParted AParted TMode AMode TThing AThing Y F1 B N1_0, PySem.W.mg_of X G a1, k1, b1, bd1, ⟨_, rfl⟩⟩
 have N1_2 : FnD l.prog w K mg base "copied" ["value", "depth"] 3 spC2 (.int 5) := ⟨_, _, _, ok_copied_2 (k := 2) TStraight AStraight TStopped AStopped TParted AParted TMode AMode TThing AThing Y F1 B N1_1, PySem.W.mg_of X G a1, k1, b1, bd1, ⟨_, rfl⟩⟩
 have N1 := N1_2
 have N2 : Fn l.prog w K mg base "is_numbers" ["value", "count"] 2 spIsNumbers := ⟨_, _, ok_is_numbers (k := 1) TStraight AStraight TStopped AStopped TParted AParted TMode AMode TThing AThing Y F2 B (N0.mono (by decide)), PySem.W.mg_of X G a2, k2, b2⟩
 have N3 : Fn l.prog w K mg base "is_table" ["value", "tall", "wide"] 3 spIsTable := ⟨_, _, ok_is_table (k := 2) TStraight AStraight TStopped AStopped TParted AParted TMode AMode TThing AThing Y F3 B (N2.mono (by decide)), PySem.W.mg_of X G a3, k3, b3⟩
 have N4 : Fn l.prog w K mg base "is_row" ["value", "many"] 2 spIsRow := ⟨_, _, ok_is_row (k := 1) TStraight AStraight TStopped AStopped TParted AParted TMode AMode TThing AThing Y F4 B (N0.mono (by decide)), PySem.W.mg_of X G a4, k4, b4⟩
 have N5 : Fn l.prog w K mg base "is_room" ["value", "many"] 3 spIsRoom := ⟨_, _, ok_is_room (k := 2) TStraight AStraight TStopped AStopped TParted AParted TMode AMode TThing AThing Y F5 B (N4.mono (by decide)), PySem.W.mg_of X G a5, k5, b5⟩
 have N6 : Fn l.prog w K mg base "is_push" ["value"] 2 spIsPush := ⟨_, _, ok_is_push (k := 1) TStraight AStraight TStopped AStopped TParted AParted TMode AMode TThing AThing Y F6 B (N0.mono (by decide)), PySem.W.mg_of X G a6, k6, b6⟩
 have N7 : FnC l.prog w K mg base aMode ["self", "rows", "nexts", "steer", "push", "add", "divisor"] 4 (spModeInit aMode) := ⟨_, _, ok_Mode___init__ (k := 3) TStraight AStraight TStopped AStopped TParted AParted TMode AMode TThing AThing Y F7 B (N1.mono (by decide)), ⟨mk_Mode, a7, i7, kc_Mode⟩, b7⟩
 have N8 : Fn l.prog w K mg base "is_mode" ["value", "many", "wide"] 4 (spIsMode aMode) := ⟨_, _, ok_is_mode (k := 3) TStraight AStraight TStopped AStopped TParted AParted TMode AMode TThing AThing Y F8 B (N5.mono (by decide)) (N3.mono (by decide)) (N2.mono (by decide)) (N0.mono (by decide)), PySem.W.mg_of X G a8, k8, b8⟩
 have N9 : Fn l.prog w K mg base "is_sound" ["many", "pushes", "modes"] 5 (spIsSound aMode) := ⟨_, _, ok_is_sound (k := 4) TStraight AStraight TStopped AStopped TParted AParted TMode AMode TThing AThing Y F9 B (N0.mono (by decide)) (N6.mono (by decide)) (N8.mono (by decide)), PySem.W.mg_of X G a9, k9, b9⟩
 have N10 : FnC l.prog w K mg base aThing ["self", "many", "pushes", "modes"] 6 (spThingInit aThing aMode) := ⟨_, _, ok_Thing___init__ (k := 5) TStraight AStraight TStopped AStopped TParted AParted TMode AMode TThing AThing Y F10 B (N9.mono (by decide)), ⟨mk_Thing, a10, i10, kc_Thing⟩, b10⟩
 have N11 : FnM l.prog w K mg base aThing "pushes" ["self"] 1 (spPushes aThing aMode) := ⟨_, _, ok_Thing_pushes (k := 0) TStraight AStraight TStopped AStopped TParted AParted TMode AMode TThing AThing Y F11 B , ⟨a11, i11, k11⟩, b11⟩
 have N12 : FnM l.prog w K mg base aThing "modes" ["self"] 1 (spModes aThing aMode) := ⟨_, _, ok_Thing_modes (k := 0) TStraight AStraight TStopped AStopped TParted AParted TMode AMode TThing AThing Y F12 B , ⟨a12, i12, k12⟩, b12⟩
 have N13 : Fn l.prog w K mg base "is_unsteered" ["mode"] 1 (spUnsteered aMode) := ⟨_, _, ok_is_unsteered (k := 0) TStraight AStraight TStopped AStopped TParted AParted TMode AMode TThing AThing Y F13 B , PySem.W.mg_of X G a13, k13, b13⟩
 have N14 : FnM l.prog w K mg base aThing "is_closed" ["self"] 2 (spClosed aThing aMode) := ⟨_, _, ok_Thing_is_closed (k := 1) TStraight AStraight TStopped AStopped TParted AParted TMode AMode TThing AThing Y F14 B (N13.mono (by decide)), ⟨a14, i14, k14⟩, b14⟩
 have N15 : FnCD l.prog w K mg base aStraight ["self", "numbers", "add", "divisor"] 4 (spStraightInit aStraight) (.int 1) := ⟨_, _, _, ok_Straight___init__ (k := 3) TStraight AStraight TStopped AStopped TParted AParted TMode AMode TThing AThing Y F15 B (N1.mono (by decide)), ⟨mk_Straight, a15, i15, kc_Straight⟩, b15, bd15, ⟨_, rfl⟩⟩
 have N16 : FnC l.prog w K mg base aStopped ["self", "rule", "low", "high"] 1 (spStoppedInit aStopped) := ⟨_, _, ok_Stopped___init__ (k := 0) TStraight AStraight TStopped AStopped TParted AParted TMode AMode TThing AThing Y F16 B , ⟨mk_Stopped, a16, i16, kc_Stopped⟩, b16⟩
 have N17 : FnC l.prog w K mg base aParted ["self", "row", "rule", "other"] 4 (spPartedInit aParted) := ⟨_, _, ok_Parted___init__ (k := 3) TStraight AStraight TStopped AStopped TParted AParted TMode AMode TThing AThing Y F17 B (N1.mono (by decide)), ⟨mk_Parted, a17, i17, kc_Parted⟩, b17⟩
 have N18 : Fn l.prog w K mg base "other_side" ["row"] 1 spOther := ⟨_, _, ok_other_side (k := 0) TStraight AStraight TStopped AStopped TParted AParted TMode AMode TThing AThing Y F18 B , PySem.W.mg_of X G a18, k18, b18⟩
 have N19 : Fn l.prog w K mg base "is_straight" ["value", "many"] 3 (spIsStraight aStraight aStopped aParted) := ⟨_, _, ok_is_straight (k := 2) TStraight AStraight TStopped AStopped TParted AParted TMode AMode TThing AThing Y F19 B (N2.mono (by decide)) (N0.mono (by decide)), PySem.W.mg_of X G a19, k19, b19⟩
 have N20 : Fn l.prog w K mg base "are_stops" ["low", "high"] 2 spStops := ⟨_, _, ok_are_stops (k := 1) TStraight AStraight TStopped AStopped TParted AParted TMode AMode TThing AThing Y F20 B (N0.mono (by decide)), PySem.W.mg_of X G a20, k20, b20⟩
 have N21_0 : Fn l.prog w K mg base "is_rule" ["value", "many"] 3 (spIsRule aStraight aStopped aParted 0) := ⟨_, _, FnOk.no spIsRule_no, PySem.W.mg_of X G a21, k21, b21⟩
 have N21_1 : Fn l.prog w K mg base "is_rule" ["value", "many"] 4 (spIsRule aStraight aStopped aParted 1) := ⟨_, _, ok_is_rule (k := 3) (d := 0) TStraight AStraight TStopped AStopped TParted AParted TMode AMode TThing AThing Y F21 B (N19.mono (by decide)) (N21_0.mono (by decide)) (N20.mono (by decide)) (N4.mono (by decide)), PySem.W.mg_of X G a21, k21, b21⟩
 have N21_2 : Fn l.prog w K mg base "is_rule" ["value", "many"] 5 (spIsRule aStraight aStopped aParted 2) := ⟨_, _, ok_is_rule (k := 4) (d := 1) TStraight AStraight TStopped AStopped TParted AParted TMode AMode TThing AThing Y F21 B (N19.mono (by decide)) (N21_1.mono (by decide)) (N20.mono (by decide)) (N4.mono (by decide)), PySem.W.mg_of X G a21, k21, b21⟩
 have N21_3 : Fn l.prog w K mg base "is_rule" ["value", "many"] 6 (spIsRule aStraight aStopped aParted 3) := ⟨_, _, ok_is_rule (k := 5) (d := 2) TStraight AStraight TStopped AStopped TParted AParted TMode AMode TThing AThing Y F21 B (N19.mono (by decide)) (N21_2.mono (by decide)) (N20.mono (by decide)) (N4.mono (by decide)), PySem.W.mg_of X G a21, k21, b21⟩
 have N21_4 : Fn l.prog w K mg base "is_rule" ["value", "many"] 7 (spIsRule aStraight aStopped aParted 4) := ⟨_, _, ok_is_rule (k := 6) (d := 3) TStraight AStraight TStopped AStopped TParted AParted TMode AMode TThing AThing Y F21 B (N19.mono (by decide)) (N21_3.mono (by decide)) (N20.mono (by decide)) (N4.mono (by decide)), PySem.W.mg_of X G a21, k21, b21⟩
 have N21 := N21_4
 have N22_0 : Fn l.prog w K mg base "piece_count" ["rule"] 1 (spCount aStraight aStopped aParted 0) := ⟨_, _, FnOk.no spCount_no, PySem.W.mg_of X G a22, k22, b22⟩
 have N22_1 : Fn l.prog w K mg base "piece_count" ["rule"] 2 (spCount aStraight aStopped aParted 1) := ⟨_, _, ok_piece_count (k := 1) (d := 0) TStraight AStraight TStopped AStopped TParted AParted TMode AMode TThing AThing Y F22 B (N22_0.mono (by decide)), PySem.W.mg_of X G a22, k22, b22⟩
 have N22_2 : Fn l.prog w K mg base "piece_count" ["rule"] 3 (spCount aStraight aStopped aParted 2) := ⟨_, _, ok_piece_count (k := 2) (d := 1) TStraight AStraight TStopped AStopped TParted AParted TMode AMode TThing AThing Y F22 B (N22_1.mono (by decide)), PySem.W.mg_of X G a22, k22, b22⟩
 have N22_3 : Fn l.prog w K mg base "piece_count" ["rule"] 4 (spCount aStraight aStopped aParted 3) := ⟨_, _, ok_piece_count (k := 3) (d := 2) TStraight AStraight TStopped AStopped TParted AParted TMode AMode TThing AThing Y F22 B (N22_2.mono (by decide)), PySem.W.mg_of X G a22, k22, b22⟩
 have N22_4 : Fn l.prog w K mg base "piece_count" ["rule"] 5 (spCount aStraight aStopped aParted 4) := ⟨_, _, ok_piece_count (k := 4) (d := 3) TStraight AStraight TStopped AStopped TParted AParted TMode AMode TThing AThing Y F22 B (N22_3.mono (by decide)), PySem.W.mg_of X G a22, k22, b22⟩
 have N22 := N22_4
 have N23 : Fn l.prog w K mg base "stop_row" ["straight", "stop"] 1 (spStopRow aStraight) := ⟨_, _, ok_stop_row (k := 0) TStraight AStraight TStopped AStopped TParted AParted TMode AMode TThing AThing Y F23 B , PySem.W.mg_of X G a23, k23, b23⟩
 have N26_0 : Fn l.prog w K mg base "listed" ["rule"] 5 (spListed aStraight aStopped aParted anyK 0) := ⟨_, _, FnOk.no spListed_no, PySem.W.mg_of X G a26, k26, b26⟩
 have N24_1 : Fn l.prog w K mg base "stopped_pieces" ["rule"] 6 (spListed aStraight aStopped aParted isStp 1) := ⟨_, _, ok_stopped_pieces (k := 4) (d := 0) TStraight AStraight TStopped AStopped TParted AParted TMode AMode TThing AThing Y F24 B (N26_0.mono (by decide)) (N23.mono (by decide)) (N15.mono (by decide)) (N18.mono (by decide)), PySem.W.mg_of X G a24, k24, b24⟩
 have N25_1 : Fn l.prog w K mg base "parted_pieces" ["rule"] 6 (spListed aStraight aStopped aParted isPrt 1) := ⟨_, _, ok_parted_pieces (k := 5) (d := 0) TStraight AStraight TStopped AStopped TParted AParted TMode AMode TThing AThing Y F25 B (N18.mono (by decide)) (N26_0.mono (by decide)), PySem.W.mg_of X G a25, k25, b25⟩
 have N26_1 : Fn l.prog w K mg base "listed" ["rule"] 7 (spListed aStraight aStopped aParted anyK 1) := ⟨_, _, ok_listed (k := 6) (d := 0) TStraight AStraight TStopped AStopped TParted AParted TMode AMode TThing AThing Y F26 B (N24_1.mono (by decide)) (N25_1.mono (by decide)), PySem.W.mg_of X G a26, k26, b26⟩
 have N24_2 : Fn l.prog w K mg base "stopped_pieces" ["rule"] 8 (spListed aStraight aStopped aParted isStp 2) := ⟨_, _, ok_stopped_pieces (k := 6) (d := 1) TStraight AStraight TStopped AStopped TParted AParted TMode AMode TThing AThing Y F24 B (N26_1.mono (by decide)) (N23.mono (by decide)) (N15.mono (by decide)) (N18.mono (by decide)), PySem.W.mg_of X G a24, k24, b24⟩
 have N25_2 : Fn l.prog w K mg base "parted_pieces" ["rule"] 8 (spListed aStraight aStopped aParted isPrt 2) := ⟨_, _, ok_parted_pieces (k := 7) (d := 1) TStraight AStraight TStopped AStopped TParted AParted TMode AMode TThing AThing Y F25 B (N18.mono (by decide)) (N26_1.mono (by decide)), PySem.W.mg_of X G a25, k25, b25⟩
 have N26_2 : Fn l.prog w K mg base "listed" ["rule"] 9 (spListed aStraight aStopped aParted anyK 2) := ⟨_, _, ok_listed (k := 8) (d := 1) TStraight AStraight TStopped AStopped TParted AParted TMode AMode TThing AThing Y F26 B (N24_2.mono (by decide)) (N25_2.mono (by decide)), PySem.W.mg_of X G a26, k26, b26⟩
 have N24_3 : Fn l.prog w K mg base "stopped_pieces" ["rule"] 10 (spListed aStraight aStopped aParted isStp 3) := ⟨_, _, ok_stopped_pieces (k := 8) (d := 2) TStraight AStraight TStopped AStopped TParted AParted TMode AMode TThing AThing Y F24 B (N26_2.mono (by decide)) (N23.mono (by decide)) (N15.mono (by decide)) (N18.mono (by decide)), PySem.W.mg_of X G a24, k24, b24⟩
 have N25_3 : Fn l.prog w K mg base "parted_pieces" ["rule"] 10 (spListed aStraight aStopped aParted isPrt 3) := ⟨_, _, ok_parted_pieces (k := 9) (d := 2) TStraight AStraight TStopped AStopped TParted AParted TMode AMode TThing AThing Y F25 B (N18.mono (by decide)) (N26_2.mono (by decide)), PySem.W.mg_of X G a25, k25, b25⟩
 have N26_3 : Fn l.prog w K mg base "listed" ["rule"] 11 (spListed aStraight aStopped aParted anyK 3) := ⟨_, _, ok_listed (k := 10) (d := 2) TStraight AStraight TStopped AStopped TParted AParted TMode AMode TThing AThing Y F26 B (N24_3.mono (by decide)) (N25_3.mono (by decide)), PySem.W.mg_of X G a26, k26, b26⟩
 have N24_4 : Fn l.prog w K mg base "stopped_pieces" ["rule"] 12 (spListed aStraight aStopped aParted isStp 4) := ⟨_, _, ok_stopped_pieces (k := 10) (d := 3) TStraight AStraight TStopped AStopped TParted AParted TMode AMode TThing AThing Y F24 B (N26_3.mono (by decide)) (N23.mono (by decide)) (N15.mono (by decide)) (N18.mono (by decide)), PySem.W.mg_of X G a24, k24, b24⟩
 have N25_4 : Fn l.prog w K mg base "parted_pieces" ["rule"] 12 (spListed aStraight aStopped aParted isPrt 4) := ⟨_, _, ok_parted_pieces (k := 11) (d := 3) TStraight AStraight TStopped AStopped TParted AParted TMode AMode TThing AThing Y F25 B (N18.mono (by decide)) (N26_3.mono (by decide)), PySem.W.mg_of X G a25, k25, b25⟩
 have N26_4 : Fn l.prog w K mg base "listed" ["rule"] 13 (spListed aStraight aStopped aParted anyK 4) := ⟨_, _, ok_listed (k := 12) (d := 3) TStraight AStraight TStopped AStopped TParted AParted TMode AMode TThing AThing Y F26 B (N24_4.mono (by decide)) (N25_4.mono (by decide)), PySem.W.mg_of X G a26, k26, b26⟩
 have N24 := N24_4
 have N25 := N25_4
 have N26 := N26_4
 have N27 : Fn l.prog w K mg base "pieces" ["rule", "many"] 14 (spPieces aStraight aStopped aParted 4) := ⟨_, _, ok_pieces (k := 13) TStraight AStraight TStopped AStopped TParted AParted TMode AMode TThing AThing Y F27 B (N21.mono (by decide)) (N22.mono (by decide)) (N26.mono (by decide)), PySem.W.mg_of X G a27, k27, b27⟩
 have N28 : Fn l.prog w K mg base "scaled" ["factor", "numbers"] 1 spScaled := ⟨_, _, ok_scaled (k := 0) TStraight AStraight TStopped AStopped TParted AParted TMode AMode TThing AThing Y F28 B , PySem.W.mg_of X G a28, k28, b28⟩
 have N29 : Fn l.prog w K mg base "mixed" ["factor", "numbers", "other_factor", "others"] 1 spMixed := ⟨_, _, ok_mixed (k := 0) TStraight AStraight TStopped AStopped TParted AParted TMode AMode TThing AThing Y F29 B , PySem.W.mg_of X G a29, k29, b29⟩
 have N30 : Fn l.prog w K mg base "steered_mode" ["mode", "rows", "straight"] 6 (spStMode aStraight aMode) := ⟨_, _, ok_steered_mode (k := 4) TStraight AStraight TStopped AStopped TParted AParted TMode AMode TThing AThing Y F30 B (N7.mono (by decide)) (N29.mono (by decide)) (N28.mono (by decide)), PySem.W.mg_of X G a30, k30, b30⟩
 have N31 : Fn l.prog w K mg base "rounded_mode" ["mode", "straight"] 7 (spRdMode aStraight aMode) := ⟨_, _, ok_rounded_mode (k := 5) TStraight AStraight TStopped AStopped TParted AParted TMode AMode TThing AThing Y F31 B (N30.mono (by decide)) (N28.mono (by decide)) (N7.mono (by decide)), PySem.W.mg_of X G a31, k31, b31⟩
 have N32 : Fn l.prog w K mg base "late_mode" ["mode", "rows", "straight"] 6 (spLtMode aStraight aMode) := ⟨_, _, ok_late_mode (k := 4) TStraight AStraight TStopped AStopped TParted AParted TMode AMode TThing AThing Y F32 B (N28.mono (by decide)) (N7.mono (by decide)), PySem.W.mg_of X G a32, k32, b32⟩
 have N33 : Fn l.prog w K mg base "steered" ["thing", "rule"] 15 (spSteered aStraight aStopped aParted aThing aMode) := ⟨_, _, ok_steered (k := 13) TStraight AStraight TStopped AStopped TParted AParted TMode AMode TThing AThing Y F33 B (N27.mono (by decide)) (N12.mono (by decide)) (N30.mono (by decide)) (N10.mono (by decide)) (N11.mono (by decide)), PySem.W.mg_of X G a33, k33, b33⟩
 have N34 : Fn l.prog w K mg base "late" ["thing", "rule"] 15 (spLate aStraight aStopped aParted aThing aMode) := ⟨_, _, ok_late (k := 13) TStraight AStraight TStopped AStopped TParted AParted TMode AMode TThing AThing Y F34 B (N27.mono (by decide)) (N12.mono (by decide)) (N32.mono (by decide)) (N10.mono (by decide)) (N11.mono (by decide)), PySem.W.mg_of X G a34, k34, b34⟩
 have N35 : Fn l.prog w K mg base "rounded" ["thing", "straight", "size"] 8 (spRounded aStraight aStopped aParted aThing aMode) := ⟨_, _, ok_rounded (k := 6) TStraight AStraight TStopped AStopped TParted AParted TMode AMode TThing AThing Y F35 B (N19.mono (by decide)) (N0.mono (by decide)) (N12.mono (by decide)) (N31.mono (by decide)) (N10.mono (by decide)) (N11.mono (by decide)), PySem.W.mg_of X G a35, k35, b35⟩
 have N36 : Fn l.prog w K mg base "_law_cell_at" ["_law_script", "_law_k"] 1 (spCell K) := ⟨_, _, ok_l_cell_at (k := 0) TStraight AStraight TStopped AStopped TParted AParted TMode AMode TThing AThing Y F36 B , PySem.W.mg_of X G a36, k36, b36⟩
 have N37 : Fn l.prog w K mg base "_law_stream" ["_law_cell", "_law_many"] 1 spStream := ⟨_, _, ok_l_stream (k := 0) TStraight AStraight TStopped AStopped TParted AParted TMode AMode TThing AThing Y F37 B , PySem.W.mg_of X G a37, k37, b37⟩
 have N38 : Fn l.prog w K mg base "_law_number" ["_law_number_here"] 1 spNum21 := ⟨_, _, ok_l_number (k := 0) TStraight AStraight TStopped AStopped TParted AParted TMode AMode TThing AThing Y F38 B , PySem.W.mg_of X G a38, k38, b38⟩
 have N39 : Fn l.prog w K mg base "_law_parts" ["_law_cell", "_law_many", "_law_wide"] 2 spParts := ⟨_, _, ok_l_parts (k := 1) TStraight AStraight TStopped AStopped TParted AParted TMode AMode TThing AThing Y F39 B (N37.mono (by decide)) (N38.mono (by decide)), PySem.W.mg_of X G a39, k39, b39⟩
 have N40 : Fn l.prog w K mg base "_law_straight" ["_law_cell", "_law_many"] 6 (spStraightL aStraight) := ⟨_, _, ok_l_straight (k := 4) TStraight AStraight TStopped AStopped TParted AParted TMode AMode TThing AThing Y F40 B (N37.mono (by decide)) (N15.mono (by decide)) (N38.mono (by decide)), PySem.W.mg_of X G a40, k40, b40⟩
 have N41 : Fn l.prog w K mg base "_law_rule" ["_law_cells", "_law_many"] 7 (spRuleT32 aStraight aStopped aParted K) := ⟨_, _, ok_l_rule (k := 5) TStraight AStraight TStopped AStopped TParted AParted TMode AMode TThing AThing Y F41 B (N40.mono (by decide)) (N36.mono (by decide)) (N37.mono (by decide)) (N16.mono (by decide)) (N38.mono (by decide)) (N17.mono (by decide)), PySem.W.mg_of X G a41, k41, b41⟩
 have N42 : Fn l.prog w K mg base "_law_scaled" ["_law_numbers", "_law_by"] 1 spScaledL := ⟨_, _, ok_l_scaled (k := 0) TStraight AStraight TStopped AStopped TParted AParted TMode AMode TThing AThing Y F42 B , PySem.W.mg_of X G a42, k42, b42⟩
 have N43 : Fn l.prog w K mg base "_law_put" ["_law_parts_here", "_law_rows", "_law_straight_here"] 2 spPut := ⟨_, _, ok_l_put (k := 1) TStraight AStraight TStopped AStopped TParted AParted TMode AMode TThing AThing Y F43 B (N42.mono (by decide)), PySem.W.mg_of X G a43, k43, b43⟩
 have N44 : Fn l.prog w K mg base "_law_put_late" ["_law_parts_here", "_law_rows", "_law_straight_here"] 2 spPutL := ⟨_, _, ok_l_put_late (k := 1) TStraight AStraight TStopped AStopped TParted AParted TMode AMode TThing AThing Y F44 B (N42.mono (by decide)), PySem.W.mg_of X G a44, k44, b44⟩
 have N45 : Fn l.prog w K mg base "_law_told" ["_law_thing"] 2 (spTold32 aThing aMode) := ⟨_, _, ok_l_told (k := 1) TStraight AStraight TStopped AStopped TParted AParted TMode AMode TThing AThing Y F45 B (N12.mono (by decide)), PySem.W.mg_of X G a45, k45, b45⟩
 have N46 : Fn l.prog w K mg base "_law_right" ["_law_thing", "_law_many", "_law_pushes", "_law_due"] 3 (spRight32 aThing aMode) := ⟨_, _, ok_l_right (k := 2) TStraight AStraight TStopped AStopped TParted AParted TMode AMode TThing AThing Y F46 B (N14.mono (by decide)) (N11.mono (by decide)) (N45.mono (by decide)), PySem.W.mg_of X G a46, k46, b46⟩
 exact ok_law (k := 14) TStraight AStraight TStopped AStopped TParted AParted TMode AMode TThing AThing Y F47 B (N36.mono (by decide)) (N39.mono (by decide)) (N10.mono (by decide)) (N7.mono (by decide)) (N41.mono (by decide)) (N27.mono (by decide)) (N43.mono (by decide)) (N44.mono (by decide)) (N46.mono (by decide)) (N33.mono (by decide)) (N34.mono (by decide)) (N40.mono (by decide)) (N42.mono (by decide)) (N35.mono (by decide)) (N11.mono (by decide)) (N45.mono (by decide))
theorem walk {l : PySem.W.OpenLaw} {q : Program} {loose : List Str} {XP : (Str -> Option Value) -> Heap -> Prop} {YP : World -> Heap -> Prop} {d : DefRec} {K : Params -> PySem.W.Frag} (hn : l.most = some 63) (hdf : d.params.defaults = [])
  (hY : ∀ (w : World) (h : Heap), YP w h -> (K w.params).In h)
  (F : ∀ (w : World) (mg : Str -> Option Value) (fa : Addr) (h : Heap), (K w.params).In h -> h.Ns mainGlobals mg -> mg d.name = some (.ref fa) ->
   ∃ fd : FuncData, (∀ (s : Shared) (u : Value), BindsTo s fd ⟨[u], []⟩ [("_law_script", u)]) /\ ∀ base : Heap, (K w.params).In base -> base.Ns mainGlobals mg -> FnOk l.prog w (K w.params) mg base CX0 16 fa fd ["_law_script"] (spLaw (K w.params))) :
  PySem.W.WalkO q loose XP YP l.row.toRowW d [] (fun f vs => PySem.call f vs) :=
 L2.walk_of (n := 63) (k := 16) (x := "_law_script") (CX := fun _ => CX0) (sp := fun w => spLaw (K w.params)) hn (by decide) hdf ⟨rfl, by decide, by decide⟩ hY F (fun _ _ a ns hl _ hS => ⟨a, ns, rfl, hS, hl, fun _ => rfl⟩) fun _ _ _ _ _ z => z
end K32
open PySem PySem.W PyProof.Rows
set_option maxRecDepth 100000 in
set_option maxHeartbeats 0 in
theorem PySem.Challenge.cw_steadyhand_k32_modes_of_steered_things_holds : PySem.Challenge.rw_steadyhand_k32_modes_of_steered_things.Holds := by
 w_on; o_law
 refine holds_open (q := H32.vw) (loose := H32.lo) (Xt := H32.xt) (XP := XL H32.vw []) (Yf := (kHook H32.KK H32.ks H32.ke).obs) (Ya := (kHook H32.KK H32.ks H32.ke).val) (YP := (kHook H32.KK H32.ks H32.ke).says) H32.left
  (kHook H32.KK H32.ks H32.ke).of (kHook H32.KK H32.ks H32.ke).keeps
  (fun s e => xl_of s (Bool.and_eq_true_iff.mp e).1) XL.keeps (by rfl) (by rfl) (by rfl)
  (fun s e => recFacts_of (Bool.and_eq_true_iff.mp e).2) (by rfl) (by assumption) (by decide +kernel)
  ⟨rfl, rfl, rfl, rfl, rfl, by decide +kernel⟩ ?hw ?hc
 case hw => w_witness2
 rename_i sd
 clear sd
 k_fill
 refine K32.walk (l := PySem.Challenge.rw_steadyhand_k32_modes_of_steered_things) rfl rfl (fun w h Y => PySem.W.kIn_of Y) ?F
 case F =>
  intro w mg fa h KX G hmg
  refine' K32.all_mk KX G hmg ?nm_Straight ?pg_Straight ?hd_Straight ?po_Straight ?sa_Straight ?mk_Straight ?kc_Straight ?ha_Straight ?hn_Straight ?tk_Straight ?hm_Straight ?n_numbers_Straight ?n_add_Straight ?n_divisor_Straight ?nm_Stopped ?pg_Stopped ?hd_Stopped ?po_Stopped ?sa_Stopped ?mk_Stopped ?kc_Stopped ?ha_Stopped ?hn_Stopped ?tk_Stopped ?hm_Stopped ?n_rule_Stopped ?n_low_Stopped ?n_high_Stopped ?nm_Parted ?pg_Parted ?hd_Parted ?po_Parted ?sa_Parted ?mk_Parted ?kc_Parted ?ha_Parted ?hn_Parted ?tk_Parted ?hm_Parted ?n_row_Parted ?n_rule_Parted ?n_other_Parted ?nm_Mode ?pg_Mode ?hd_Mode ?po_Mode ?sa_Mode ?mk_Mode ?kc_Mode ?ha_Mode ?hn_Mode ?tk_Mode ?hm_Mode ?n_rows_Mode ?n_nexts_Mode ?n_steer_Mode ?n_push_Mode ?n_add_Mode ?n_divisor_Mode ?nm_Thing ?pg_Thing ?hd_Thing ?po_Thing ?sa_Thing ?mk_Thing ?kc_Thing ?ha_Thing ?hn_Thing ?tk_Thing ?hm_Thing ?n_many_Thing ?n_kept_pushes_Thing ?n_kept_modes_Thing ?kt_k21 ?kt_k31 ?kt_k12 ?kt_k32 ?kt_k13 ?a0 ?l0 ?c0 ?k0 ?a1 ?l1 ?c1 ?k1 ?t1 ?a2 ?l2 ?c2 ?k2 ?a3 ?l3 ?c3 ?k3 ?a4 ?l4 ?c4 ?k4 ?a5 ?l5 ?c5 ?k5 ?a6 ?l6 ?c6 ?k6 ?i7 ?a7 ?l7 ?c7 ?k7 ?a8 ?l8 ?c8 ?k8 ?a9 ?l9 ?c9 ?k9 ?i10 ?a10 ?l10 ?c10 ?k10 ?i11 ?a11 ?l11 ?c11 ?k11 ?i12 ?a12 ?l12 ?c12 ?k12 ?a13 ?l13 ?c13 ?k13 ?i14 ?a14 ?l14 ?c14 ?k14 ?i15 ?a15 ?l15 ?c15 ?k15 ?t15 ?i16 ?a16 ?l16 ?c16 ?k16 ?i17 ?a17 ?l17 ?c17 ?k17 ?a18 ?l18 ?c18 ?k18 ?a19 ?l19 ?c19 ?k19 ?a20 ?l20 ?c20 ?k20 ?a21 ?l21 ?c21 ?k21 ?a22 ?l22 ?c22 ?k22 ?a23 ?l23 ?c23 ?k23 ?a24 ?l24 ?c24 ?k24 ?a25 ?l25 ?c25 ?k25 ?a26 ?l26 ?c26 ?k26 ?a27 ?l27 ?c27 ?k27 ?a28 ?l28 ?c28 ?k28 ?a29 ?l29 ?c29 ?k29 ?a30 ?l30 ?c30 ?k30 ?a31 ?l31 ?c31 ?k31 ?a32 ?l32 ?c32 ?k32 ?a33 ?l33 ?c33 ?k33 ?a34 ?l34 ?c34 ?k34 ?a35 ?l35 ?c35 ?k35 ?a36 ?l36 ?c36 ?k36 ?a37 ?l37 ?c37 ?k37 ?a38 ?l38 ?c38 ?k38 ?a39 ?l39 ?c39 ?k39 ?a40 ?l40 ?c40 ?k40 ?a41 ?l41 ?c41 ?k41 ?a42 ?l42 ?c42 ?k42 ?a43 ?l43 ?c43 ?k43 ?a44 ?l44 ?c44 ?k44 ?a45 ?l45 ?c45 ?k45 ?a46 ?l46 ?c46 ?k46 ?a47 ?l47 ?c47 ?k47 ?z0 ?z1 ?z2 ?z3 ?z4 ?z5 ?z6 ?z7 ?z8 ?cst0 ?cst1 ?cst2 ?cst3
  (case nm_Straight => k_is)
  (case pg_Straight => k_is)
  (case hd_Straight => k_is)
  (case po_Straight => k_is)
  (case sa_Straight => k_is)
  (case mk_Straight => k_is)
  (case kc_Straight => k_is)
  (case ha_Straight => k_is)
  (case hn_Straight => k_is)
  (case tk_Straight => k_is)
  (case hm_Straight => k_is)
  (case n_numbers_Straight => k_is)
  (case n_add_Straight => k_is)
  (case n_divisor_Straight => k_is)
  (case nm_Stopped => k_is)
  (case pg_Stopped => k_is)
  (case hd_Stopped => k_is)
  (case po_Stopped => k_is)
  (case sa_Stopped => k_is)
  (case mk_Stopped => k_is)
  (case kc_Stopped => k_is)
  (case ha_Stopped => k_is)
  (case hn_Stopped => k_is)
  (case tk_Stopped => k_is)
  (case hm_Stopped => k_is)
  (case n_rule_Stopped => k_is)
  (case n_low_Stopped => k_is)
  (case n_high_Stopped => k_is)
  (case nm_Parted => k_is)
  (case pg_Parted => k_is)
  (case hd_Parted => k_is)
  (case po_Parted => k_is)
  (case sa_Parted => k_is)
  (case mk_Parted => k_is)
  (case kc_Parted => k_is)
  (case ha_Parted => k_is)
  (case hn_Parted => k_is)
  (case tk_Parted => k_is)
  (case hm_Parted => k_is)
  (case n_row_Parted => k_is)
  (case n_rule_Parted => k_is)
  (case n_other_Parted => k_is)
  (case nm_Mode => k_is)
  (case pg_Mode => k_is)
  (case hd_Mode => k_is)
  (case po_Mode => k_is)
  (case sa_Mode => k_is)
  (case mk_Mode => k_is)
  (case kc_Mode => k_is)
  (case ha_Mode => k_is)
  (case hn_Mode => k_is)
  (case tk_Mode => k_is)
  (case hm_Mode => k_is)
  (case n_rows_Mode => k_is)
  (case n_nexts_Mode => k_is)
  (case n_steer_Mode => k_is)
  (case n_push_Mode => k_is)
  (case n_add_Mode => k_is)
  (case n_divisor_Mode => k_is)
  (case nm_Thing => k_is)
  (case pg_Thing => k_is)
  (case hd_Thing => k_is)
  (case po_Thing => k_is)
  (case sa_Thing => k_is)
  (case mk_Thing => k_is)
  (case kc_Thing => k_is)
  (case ha_Thing => k_is)
  (case hn_Thing => k_is)
  (case tk_Thing => k_is)
  (case hm_Thing => k_is)
  (case n_many_Thing => k_is)
  (case n_kept_pushes_Thing => k_is)
  (case n_kept_modes_Thing => k_is)
  (case kt_k21 => first | kit_is | k_is | rfl | decide +kernel)
  (case kt_k31 => first | kit_is | k_is | rfl | decide +kernel)
  (case kt_k12 => first | kit_is | k_is | rfl | decide +kernel)
  (case kt_k32 => first | kit_is | k_is | rfl | decide +kernel)
  (case kt_k13 => first | kit_is | k_is | rfl | decide +kernel)
  (case a0 => k_is)
  (case l0 => k_is)
  (case c0 => k_is)
  (case k0 => k_is)
  (case a1 => k_is)
  (case l1 => k_is)
  (case c1 => k_is)
  (case k1 => k_is)
  (case t1 => k_is)
  (case a2 => k_is)
  (case l2 => k_is)
  (case c2 => k_is)
  (case k2 => k_is)
  (case a3 => k_is)
  (case l3 => k_is)
  (case c3 => k_is)
  (case k3 => k_is)
  (case a4 => k_is)
  (case l4 => k_is)
  (case c4 => k_is)
  (case k4 => k_is)
  (case a5 => k_is)
  (case l5 => k_is)
  (case c5 => k_is)
  (case k5 => k_is)
  (case a6 => k_is)
  (case l6 => k_is)
  (case c6 => k_is)
  (case k6 => k_is)
  (case i7 => k_is)
  (case a7 => k_is)
  (case l7 => k_is)
  (case c7 => k_is)
  (case k7 => k_is)
  (case a8 => k_is)
  (case l8 => k_is)
  (case c8 => k_is)
  (case k8 => k_is)
  (case a9 => k_is)
  (case l9 => k_is)
  (case c9 => k_is)
  (case k9 => k_is)
  (case i10 => k_is)
  (case a10 => k_is)
  (case l10 => k_is)
  (case c10 => k_is)
  (case k10 => k_is)
  (case i11 => k_is)
  (case a11 => k_is)
  (case l11 => k_is)
  (case c11 => k_is)
  (case k11 => k_is)
  (case i12 => k_is)
  (case a12 => k_is)
  (case l12 => k_is)
  (case c12 => k_is)
  (case k12 => k_is)
  (case a13 => k_is)
  (case l13 => k_is)
  (case c13 => k_is)
  (case k13 => k_is)
  (case i14 => k_is)
  (case a14 => k_is)
  (case l14 => k_is)
  (case c14 => k_is)
  (case k14 => k_is)
  (case i15 => k_is)
  (case a15 => k_is)
  (case l15 => k_is)
  (case c15 => k_is)
  (case k15 => k_is)
  (case t15 => k_is)
  (case i16 => k_is)
  (case a16 => k_is)
  (case l16 => k_is)
  (case c16 => k_is)
  (case k16 => k_is)
  (case i17 => k_is)
  (case a17 => k_is)
  (case l17 => k_is)
  (case c17 => k_is)
  (case k17 => k_is)
  (case a18 => k_is)
  (case l18 => k_is)
  (case c18 => k_is)
  (case k18 => k_is)
  (case a19 => k_is)
  (case l19 => k_is)
  (case c19 => k_is)
  (case k19 => k_is)
  (case a20 => k_is)
  (case l20 => k_is)
  (case c20 => k_is)
  (case k20 => k_is)
  (case a21 => k_is)
  (case l21 => k_is)
  (case c21 => k_is)
  (case k21 => k_is)
  (case a22 => k_is)
  (case l22 => k_is)
  (case c22 => k_is)
  (case k22 => k_is)
  (case a23 => k_is)
  (case l23 => k_is)
  (case c23 => k_is)
  (case k23 => k_is)
  (case a24 => k_is)
  (case l24 => k_is)
  (case c24 => k_is)
  (case k24 => k_is)
  (case a25 => k_is)
  (case l25 => k_is)
  (case c25 => k_is)
  (case k25 => k_is)
  (case a26 => k_is)
  (case l26 => k_is)
  (case c26 => k_is)
  (case k26 => k_is)
  (case a27 => k_is)
  (case l27 => k_is)
  (case c27 => k_is)
  (case k27 => k_is)
  (case a28 => k_is)
  (case l28 => k_is)
  (case c28 => k_is)
  (case k28 => k_is)
  (case a29 => k_is)
  (case l29 => k_is)
  (case c29 => k_is)
  (case k29 => k_is)
  (case a30 => k_is)
  (case l30 => k_is)
  (case c30 => k_is)
  (case k30 => k_is)
  (case a31 => k_is)
  (case l31 => k_is)
  (case c31 => k_is)
  (case k31 => k_is)
  (case a32 => k_is)
  (case l32 => k_is)
  (case c32 => k_is)
  (case k32 => k_is)
  (case a33 => k_is)
  (case l33 => k_is)
  (case c33 => k_is)
  (case k33 => k_is)
  (case a34 => k_is)
  (case l34 => k_is)
  (case c34 => k_is)
  (case k34 => k_is)
  (case a35 => k_is)
  (case l35 => k_is)
  (case c35 => k_is)
  (case k35 => k_is)
  (case a36 => k_is)
  (case l36 => k_is)
  (case c36 => k_is)
  (case k36 => k_is)
  (case a37 => k_is)
  (case l37 => k_is)
  (case c37 => k_is)
  (case k37 => k_is)
  (case a38 => k_is)
  (case l38 => k_is)
  (case c38 => k_is)
  (case k38 => k_is)
  (case a39 => k_is)
  (case l39 => k_is)
  (case c39 => k_is)
  (case k39 => k_is)
  (case a40 => k_is)
  (case l40 => k_is)
  (case c40 => k_is)
  (case k40 => k_is)
  (case a41 => k_is)
  (case l41 => k_is)
  (case c41 => k_is)
  (case k41 => k_is)
  (case a42 => k_is)
  (case l42 => k_is)
  (case c42 => k_is)
  (case k42 => k_is)
  (case a43 => k_is)
  (case l43 => k_is)
  (case c43 => k_is)
  (case k43 => k_is)
  (case a44 => k_is)
  (case l44 => k_is)
  (case c44 => k_is)
  (case k44 => k_is)
  (case a45 => k_is)
  (case l45 => k_is)
  (case c45 => k_is)
  (case k45 => k_is)
  (case a46 => k_is)
  (case l46 => k_is)
  (case c46 => k_is)
  (case k46 => k_is)
  (case a47 => k_is)
  (case l47 => k_is)
  (case c47 => k_is)
  (case k47 => k_is)
  (case z0 => k_is)
  (case z1 => k_is)
  (case z2 => k_is)
  (case z3 => k_is)
  (case z4 => k_is)
  (case z5 => k_is)
  (case z6 => k_is)
  (case z7 => k_is)
  (case z8 => k_is)
  (case cst0 => k_is)
  (case cst1 => k_is)
  (case cst2 => k_is)
  (case cst3 => k_is)
#print axioms PySem.Challenge.cw_steadyhand_k32_modes_of_steered_things_holds

