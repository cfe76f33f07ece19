import PyProof.Rows.All
import Wide.All
import OpenK.AllK
import Wide.FinOn
import Lean
import PyProof.EqAt
import PyProof.EqKinds
import PyProof.TupleCall
import PyProof.ZipIter
import PyProof.Draws
import PyProof.StationsW
import PyProof.EnumStmt
import PyProof.EnumMake
import PyProof.CallType
import PyProof.Rows.CallKwBuiltin
import PyProof.EnumIter
import PyProof.Rows.SeqMore
import PySem.Challenge.RW_steadyhand_k73_boxes_grown
set_option Elab.async false
set_option linter.all false
set_option maxRecDepth 100000
set_option maxHeartbeats 0
namespace TT
open PySem PySem.W
def runT (tb:String->Option Builtin) (p:Program) (w:World) (k:Nat) (an:Option Value):Nat->SharedT->Thread->Option SharedT
 | 0,_,_=>none
 | j + 1,x,t=>match through t with
  | true=>some x
  | false=>match stepOk k an t with
   | false=>none
   | true=>match stepT (denote tb) p w x t with
    | none=>none
    | some y=>runT tb p w k an j y.1 y.2
theorem Jn {tb:String->Option Builtin} {p:Program} {w:World} {k:Nat} {an:Option Value}:∀ (j:Nat) (x y:SharedT) (t:Thread),runT tb p w k an j x t=some y->topRun tb p w k an j x.abs t=some y.abs
 | 0,_,_,_,e=>by cases e
 | j + 1,x,y,t,e=>by
  unfold runT at e
  unfold topRun
  cases e1:through t with
  | true=>
   rw [e1] at e
   cases e
   rfl
  | false=>
   rw [e1] at e
   cases e2:stepOk k an t with
   | false=>rw [e2] at e; cases e
   | true=>
    rw [e2] at e
    cases e3:stepT (denote tb) p w x t with
    | none=>rw [e3] at e; cases e
    | some z=>
     rw [e3] at e
     rw [stepT_spec e3]
     exact Jn j z.1 y z.2 e
theorem left_is {p q:Program} {lo:List Str} {xt:Shared->Bool} {α:Type} {Yf:Shared->α} {Ya:World->α} {N k n0:Nat} {an:Option Value} {tr:Params->BT} (op:∀ w:World,(fencedOpening treeTable p w N).map (λs=>(s.heap,s.gens,s.drawn,s.toks))=some (boot_heap w.params,Array.mk [],boot_drawn,boot_toks))
  (et:∀ P:Params,absHeap (tr P) n0 (boot_heap P).life=boot_heap P) (z1:∀ P:Params,(boot_heap P).isNs mainGlobals=true) (z2:∀ P:Params,(boot_heap P).objs.size=k) (z3:∀ P:Params,(boot_heap P).nsMap mainGlobals "__annotations__" = an)
  (h:∀ (w:World) (os:OsState),(runT treeTable p w k an N ⟨tr w.params,n0,(boot_heap w.params).life,Array.mk [],boot_drawn,boot_toks,os⟩ (topStub p)).map (λs=>((staticsOk (importedModules p.main.body) (boot_heap w.params) s.abs.heap && namesBound p s.abs.heap && gensDone s.abs && laidKept (boot_heap w.params) s.abs.heap),openSeen q lo (importedModules p.main.body) xt true s.abs,Yf s.abs))=some (true,openGood q lo,Ya w)) :
  LeftO p q lo xt Yf Ya N:=λw=>by
 obtain ⟨⟨hp,gs,d,tk,os⟩,e,e'⟩:=Option.map_eq_some_iff.mp (op w)
 injection e' with a1 e'
 injection e' with a2 e'
 injection e' with a3 a4
 subst a1 a2 a3 a4
 obtain ⟨y,ey,eo⟩:=Option.map_eq_some_iff.mp (h w os)
 injection eo with l1 eo
 injection eo with l2 l3
 have r:=Jn _ _ _ _ ey
 have r':topRun treeTable p w k an N ⟨boot_heap w.params,Array.mk [],boot_drawn,boot_toks,os⟩ (topStub p)=some y.abs:=by
  rw [<- r]
  unfold SharedT.abs
  rw [et]
 have f:topFrom treeTable p w N ⟨boot_heap w.params,Array.mk [],boot_drawn,boot_toks,os⟩=some y.abs:=by
  unfold topFrom
  show (match (boot_heap w.params).isNs mainGlobals && true with | true=>_ | false=>_)=_
  rw [z1,z2,z3,r']
  show (match (_ && _ && _ && _) with | true=>_ | false=>_)=_
  rw [l1]
 unfold openEnds
 rw [e]
 show (topFrom treeTable p w N _).map _=_
 rw [f]
 exact congrArg some (Prod.ext l2 l3)
end TT
namespace H73
open PySem PySem.W
set_option maxRecDepth 100000
def hT (i:Nat):Stmt:=PySem.Challenge.pw_steadyhand_k73_boxes_grown.main.body.getD i (.Pass ⟨0,0,0,0⟩)
def hI (i j:Nat):Stmt:=match hT i with
 | .ClassDef _ _ _ b _ _ _ _ _ _ _=>b.getD j (.Pass ⟨0,0,0,0⟩)
 | s=>s
def hA:Stmt->Arguments
 | .FunctionDef _ a _ _ _ _ _ _ _ _=>a
 | _=>⟨[],[],none,[],[],none,[]⟩
def hB:Stmt->List Stmt
 | .FunctionDef _ _ b _ _ _ _ _ _ _=>b
 | _=>[]
def hC:Stmt->Scope
 | .FunctionDef _ _ _ _ _ _ c _ _ _=>c
 | _=>{ kind:=.function,names:=[],isGenerator:=false,isCoroutine:=false }
abbrev hS (s:String) (n:Nat):Value:=.str (Str.ofString s) n
abbrev hE (P:Params) (s:String) (n:Nat) (v:Value):DictEntry:=⟨PyData.keyHash P (Str.ofString s),hS s n,v⟩
abbrev hU (x:Array Value):Obj:={ cls:=.type "tuple",data:=.seq x }
abbrev hD (s:String) (a:Nat) (s2:String) (b c:Nat) (i j f:Int) (r1 r2:Nat) (u v t r:Value) (y z:Int) (d:Nat):Obj:={ cls:=.type "code",data:=.fields #[hS s a,hS s2 b,hS "/claim/cut.py" c,.int i 0,.int j 0,.int 0 0,.int 0 0,.int f 0,.ref r1,.bool true,.int 181 0,.ref r2,u,v,t,r,.int y 0,.int z 0,hS "/claim/cut.py" d] }
abbrev hF (n q:String) (s:Stmt) (d k:Value) (m:String) (j c:Nat):Obj:={ cls:=.type "function",data:=.func { name:=n,qualname:=q,params:=hA s,body:=.stmts (hB s),scope:=hC s,globals:=3,closure:=[],defaults:=d,kwdefaults:=k,pyModule:=hS m j,code:=.ref c } }
noncomputable def KK:Params->Frag:=λP=>
 (nat_lit 2,{ cls:=.none,data:=.dict #[] })::(nat_lit 3,{ cls:=.type "dict",data:=.dict #[hE P "__name__" 165 (hS "law_steadyhand_k73_boxes_grown" 782),hE P "__doc__" 166 (.none),hE P "__package__" 167 (.none),hE P "__loader__" 168 (.builtin "__main__.__loader__#opaque"),hE P "__spec__" 169 (.none),hE P "__annotations__" 170 (.ref 6),hE P "__builtins__" 171 (.ref 4),hE P "__file__" 173 (hS "/claim/cut.py" 172),hE P "__cached__" 174 (.none),hE P "_wall" 193 (.ref 21),hE P "SteadyError" 213 (.ref 31),hE P "NoNumber" 229 (.ref 44),hE P "BadThing" 245 (.ref 56),hE P "TooMany" 261 (.ref 68),hE P "NotClosed" 277 (.ref 80),hE P "is_whole" 286 (.ref 89),hE P "common_divisor" 297 (.ref 96),hE P "fraction" 307 (.ref 104),hE P "minus" 315 (.ref 111),hE P "times" 323 (.ref 118),hE P "under" 331 (.ref 125),hE P "ceiling_of" 338 (.ref 132),hE P "is_numbers" 346 (.ref 137),hE P "is_table" 352 (.ref 142),hE P "copied" 359 (.ref 148),hE P "unit" 366 (.ref 154),hE P "paired" 372 (.ref 159),hE P "added_up" 378 (.ref 164),hE P "is_row" 386 (.ref 169),hE P "is_room" 392 (.ref 174),hE P "single" 402 (.ref 181),hE P "raw_sum" 414 (.ref 188),hE P "along" 423 (.ref 195),hE P "holds" 432 (.ref 202),hE P "solved" 440 (.ref 207),hE P "first_with" 449 (.ref 214),hE P "put_ahead" 459 (.ref 221),hE P "cleared" 465 (.ref 226),hE P "most" 473 (.ref 231),hE P "climbed" 479 (.ref 236),hE P "axes" 485 (.ref 241),hE P "first_corner" 491 (.ref 246),hE P "corner_point" 497 (.ref 251),hE P "weights_of" 503 (.ref 256),hE P "way_off" 509 (.ref 261),hE P "least_place" 515 (.ref 266),hE P "exchanged" 524 (.ref 273),hE P "first_broken" 534 (.ref 280),hE P "first_met" 549 (.ref 287),hE P "over_one_bottom" 555 (.ref 292),hE P "spread" 561 (.ref 297),hE P "reach" 574 (.ref 304),hE P "worst_pushes" 580 (.ref 309),hE P "without_pushes" 588 (.ref 316),hE P "MOST_NUMBERS" 592 (.int 3 591),hE P "MOST_PUSHES" 594 (.int 6 593),hE P "MOST_MODES" 596 (.int 40 595),hE P "Mode" 635 (.ref 333),hE P "Thing" 695 (.ref 380),hE P "is_sound" 701 (.ref 389),hE P "is_push" 708 (.ref 396),hE P "is_mode" 717 (.ref 403),hE P "is_unsteered" 723 (.ref 408),hE P "ask_closed" 730 (.ref 415),hE P "first_room" 743 (.ref 422),hE P "grown_once" 754 (.ref 429),hE P "grown_bound" 768 (.ref 436),hE P "grown" 781 (.ref 443),hE P "_law_cell_at" 791 (.ref 450),hE P "_law_stream" 803 (.ref 457),hE P "_law_number" 811 (.ref 464),hE P "_law_mode" 817 (.ref 469),hE P "_law_thing" 834 (.ref 476),hE P "_law_made" 840 (.ref 481),hE P "_law_box" 853 (.ref 488),hE P "_law_rows" 859 (.ref 493),hE P "_law_top" 870 (.ref 500),hE P "_law_image" 876 (.ref 505),hE P "_law_hull" 882 (.ref 510),hE P "_law_shape" 888 (.ref 515),hE P "_law_by" 894 (.ref 520),hE P "law" 912 (.ref 527)] 82 })::(nat_lit 15,hU #[])::(nat_lit 17,hU #[hS "k" 190])::(nat_lit 18,hU #[])::(nat_lit 20,hD "_wall" 187 "_wall" 188 189 1 1 3 15 16 .none (.ref 17) (.ref 18) (.ref 19) 191 1 192)::(nat_lit 21,hF "_wall" "_wall" (hT 0) .none .none "__main__" 164 20)::(nat_lit 22,hU #[.type "ValueError"])::(nat_lit 29,hU #[])::(nat_lit 30,{ cls:=.type "dict",data:=.dict #[hE P "__module__" 203 (hS "steadyhand.errors" 194),hE P "__firstlineno__" 207 (.int 5 206),hE P "__static_attributes__" 208 (.ref 29),hE P "__weakref__" 210 (.ref 32),hE P "__doc__" 211 (.none)] 3 })::(nat_lit 31,{ cls:=.type "type",data:=.cls { name:="SteadyError",bases:=[.type "ValueError"],mro:=[.ref 31,.type "ValueError",.type "Exception",.type "BaseException",.type "object"],ns:=30,qualname:="SteadyError",subclasses:=[.ref 44,.ref 56,.ref 68,.ref 80] },slots:=#[some (.ref 22),none,some (hS "SteadyError" 196),some (hS "SteadyError" 204),some (.builtin "ValueError.__new__"),some (.bool true)] })::(nat_lit 32,{ cls:=.type "getset_descriptor",data:=.fields #[hS "__weakref__" 209,.ref 31,.builtin "ExceptionGroup.__weakref__",.none] })::(nat_lit 35,hU #[.ref 31])::(nat_lit 42,hU #[])::(nat_lit 43,{ cls:=.type "dict",data:=.dict #[hE P "__module__" 221 (hS "steadyhand.errors" 194),hE P "__firstlineno__" 225 (.int 7 224),hE P "__static_attributes__" 226 (.ref 42),hE P "__doc__" 227 (.none)] 2 })::(nat_lit 44,{ cls:=.type "type",data:=.cls { name:="NoNumber",bases:=[.ref 31],mro:=[.ref 44,.ref 31,.type "ValueError",.type "Exception",.type "BaseException",.type "object"],ns:=43,qualname:="NoNumber" },slots:=#[some (.ref 35),none,some (hS "NoNumber" 214),some (hS "NoNumber" 222),some (.builtin "ValueError.__new__"),some (.bool true)] })::(nat_lit 47,hU #[.ref 31])::(nat_lit 54,hU #[])::(nat_lit 55,{ cls:=.type "dict",data:=.dict #[hE P "__module__" 237 (hS "steadyhand.errors" 194),hE P "__firstlineno__" 241 (.int 9 240),hE P "__static_attributes__" 242 (.ref 54),hE P "__doc__" 243 (.none)] 2 })::(nat_lit 56,{ cls:=.type "type",data:=.cls { name:="BadThing",bases:=[.ref 31],mro:=[.ref 56,.ref 31,.type "ValueError",.type "Exception",.type "BaseException",.type "object"],ns:=55,qualname:="BadThing" },slots:=#[some (.ref 47),none,some (hS "BadThing" 230),some (hS "BadThing" 238),some (.builtin "ValueError.__new__"),some (.bool true)] })::(nat_lit 59,hU #[.ref 31])::(nat_lit 66,hU #[])::(nat_lit 67,{ cls:=.type "dict",data:=.dict #[hE P "__module__" 253 (hS "steadyhand.errors" 194),hE P "__firstlineno__" 257 (.int 11 256),hE P "__static_attributes__" 258 (.ref 66),hE P "__doc__" 259 (.none)] 2 })::(nat_lit 68,{ cls:=.type "type",data:=.cls { name:="TooMany",bases:=[.ref 31],mro:=[.ref 68,.ref 31,.type "ValueError",.type "Exception",.type "BaseException",.type "object"],ns:=67,qualname:="TooMany" },slots:=#[some (.ref 59),none,some (hS "TooMany" 246),some (hS "TooMany" 254),some (.builtin "ValueError.__new__"),some (.bool true)] })::(nat_lit 71,hU #[.ref 31])::(nat_lit 78,hU #[])::(nat_lit 79,{ cls:=.type "dict",data:=.dict #[hE P "__module__" 269 (hS "steadyhand.errors" 194),hE P "__firstlineno__" 273 (.int 13 272),hE P "__static_attributes__" 274 (.ref 78),hE P "__doc__" 275 (.none)] 2 })::(nat_lit 80,{ cls:=.type "type",data:=.cls { name:="NotClosed",bases:=[.ref 31],mro:=[.ref 80,.ref 31,.type "ValueError",.type "Exception",.type "BaseException",.type "object"],ns:=79,qualname:="NotClosed" },slots:=#[some (.ref 71),none,some (hS "NotClosed" 262),some (hS "NotClosed" 270),some (.builtin "ValueError.__new__"),some (.bool true)] })::(nat_lit 83,hU #[])::(nat_lit 85,hU #[hS "thing" 283])::(nat_lit 86,hU #[])::(nat_lit 88,hD "is_whole" 280 "is_whole" 281 282 16 1 3 83 84 .none (.ref 85) (.ref 86) (.ref 87) 284 16 285)::(nat_lit 89,hF "is_whole" "is_whole" (hT 8) .none .none "steadyhand.fractions" 278 88)::(nat_lit 90,hU #[])::(nat_lit 92,hU #[hS "numbers" 290,hS "common" 291,hS "number" 292,hS "rest" 293,hS "left" 294])::(nat_lit 93,hU #[])::(nat_lit 95,hD "common_divisor" 287 "common_divisor" 288 289 18 1 3 90 91 .none (.ref 92) (.ref 93) (.ref 94) 295 18 296)::(nat_lit 96,hF "common_divisor" "common_divisor" (hT 9) .none .none "steadyhand.fractions" 278 95)::(nat_lit 97,hU #[.int 1 298])::(nat_lit 98,hU #[])::(nat_lit 100,hU #[hS "top" 302,hS "bottom" 303,hS "common" 304])::(nat_lit 101,hU #[])::(nat_lit 103,hD "fraction" 299 "fraction" 300 301 27 2 3 98 99 .none (.ref 100) (.ref 101) (.ref 102) 305 27 306)::(nat_lit 104,hF "fraction" "fraction" (hT 10) (.ref 97) .none "steadyhand.fractions" 278 103)::(nat_lit 105,hU #[])::(nat_lit 107,hU #[hS "one" 311,hS "other" 312])::(nat_lit 108,hU #[])::(nat_lit 110,hD "minus" 308 "minus" 309 310 36 2 3 105 106 .none (.ref 107) (.ref 108) (.ref 109) 313 36 314)::(nat_lit 111,hF "minus" "minus" (hT 11) .none .none "steadyhand.fractions" 278 110)::(nat_lit 112,hU #[])::(nat_lit 114,hU #[hS "one" 319,hS "other" 320])::(nat_lit 115,hU #[])::(nat_lit 117,hD "times" 316 "times" 317 318 38 2 3 112 113 .none (.ref 114) (.ref 115) (.ref 116) 321 38 322)::(nat_lit 118,hF "times" "times" (hT 12) .none .none "steadyhand.fractions" 278 117)::(nat_lit 119,hU #[])::(nat_lit 121,hU #[hS "one" 327,hS "other" 328])::(nat_lit 122,hU #[])::(nat_lit 124,hD "under" 324 "under" 325 326 40 2 3 119 120 .none (.ref 121) (.ref 122) (.ref 123) 329 40 330)::(nat_lit 125,hF "under" "under" (hT 13) .none .none "steadyhand.fractions" 278 124)::(nat_lit 126,hU #[])::(nat_lit 128,hU #[hS "value" 335])::(nat_lit 129,hU #[])::(nat_lit 131,hD "ceiling_of" 332 "ceiling_of" 333 334 42 1 3 126 127 .none (.ref 128) (.ref 129) (.ref 130) 336 42 337)::(nat_lit 132,hF "ceiling_of" "ceiling_of" (hT 14) .none .none "steadyhand.fractions" 278 131)::(nat_lit 133,hU #[])::(nat_lit 136,hD "is_numbers" 341 "is_numbers" 342 343 45 2 3 133 134 .none .none .none (.ref 135) 344 45 345)::(nat_lit 137,hF "is_numbers" "is_numbers" (hT 16) .none .none "steadyhand.tables" 339 136)::(nat_lit 138,hU #[])::(nat_lit 141,hD "is_table" 347 "is_table" 348 349 47 3 3 138 139 .none .none .none (.ref 140) 350 47 351)::(nat_lit 142,hF "is_table" "is_table" (hT 17) .none .none "steadyhand.tables" 339 141)::(nat_lit 143,hU #[.int 5 353])::(nat_lit 144,hU #[])::(nat_lit 147,hD "copied" 354 "copied" 355 356 49 2 3 144 145 .none .none .none (.ref 146) 357 49 358)::(nat_lit 148,hF "copied" "copied" (hT 18) (.ref 143) .none "steadyhand.tables" 339 147)::(nat_lit 149,hU #[.int 1 360])::(nat_lit 150,hU #[])::(nat_lit 153,hD "unit" 361 "unit" 362 363 57 3 3 150 151 .none .none .none (.ref 152) 364 57 365)::(nat_lit 154,hF "unit" "unit" (hT 19) (.ref 149) .none "steadyhand.tables" 339 153)::(nat_lit 155,hU #[])::(nat_lit 158,hD "paired" 367 "paired" 368 369 59 2 3 155 156 .none .none .none (.ref 157) 370 59 371)::(nat_lit 159,hF "paired" "paired" (hT 20) .none .none "steadyhand.tables" 339 158)::(nat_lit 160,hU #[])::(nat_lit 163,hD "added_up" 373 "added_up" 374 375 61 3 3 160 161 .none .none .none (.ref 162) 376 61 377)::(nat_lit 164,hF "added_up" "added_up" (hT 21) .none .none "steadyhand.tables" 339 163)::(nat_lit 165,hU #[])::(nat_lit 168,hD "is_row" 381 "is_row" 382 383 64 2 3 165 166 .none .none .none (.ref 167) 384 64 385)::(nat_lit 169,hF "is_row" "is_row" (hT 23) .none .none "steadyhand.rows" 379 168)::(nat_lit 170,hU #[])::(nat_lit 173,hD "is_room" 387 "is_room" 388 389 66 2 3 170 171 .none .none .none (.ref 172) 390 66 391)::(nat_lit 174,hF "is_room" "is_room" (hT 24) .none .none "steadyhand.rows" 379 173)::(nat_lit 175,hU #[])::(nat_lit 177,hU #[hS "place" 396,hS "many" 397,hS "number" 398,hS "bound" 399])::(nat_lit 178,hU #[])::(nat_lit 180,hD "single" 393 "single" 394 395 68 4 3 175 176 .none (.ref 177) (.ref 178) (.ref 179) 400 68 401)::(nat_lit 181,hF "single" "single" (hT 25) .none .none "steadyhand.rows" 379 180)::(nat_lit 182,hU #[])::(nat_lit 184,hU #[hS "numbers" 406,hS "point" 407,hS "top" 408,hS "bottom" 409,hS "number" 410,hS "part" 411])::(nat_lit 185,hU #[])::(nat_lit 187,hD "raw_sum" 403 "raw_sum" 404 405 70 2 3 182 183 .none (.ref 184) (.ref 185) (.ref 186) 412 70 413)::(nat_lit 188,hF "raw_sum" "raw_sum" (hT 26) .none .none "steadyhand.rows" 379 187)::(nat_lit 189,hU #[])::(nat_lit 191,hU #[hS "row" 418,hS "point" 419,hS "total" 420])::(nat_lit 192,hU #[])::(nat_lit 194,hD "along" 415 "along" 416 417 77 2 3 189 190 .none (.ref 191) (.ref 192) (.ref 193) 421 77 422)::(nat_lit 195,hF "along" "along" (hT 27) .none .none "steadyhand.rows" 379 194)::(nat_lit 196,hU #[])::(nat_lit 198,hU #[hS "row" 427,hS "point" 428,hS "total" 429])::(nat_lit 199,hU #[])::(nat_lit 201,hD "holds" 424 "holds" 425 426 80 2 3 196 197 .none (.ref 198) (.ref 199) (.ref 200) 430 80 431)::(nat_lit 202,hF "holds" "holds" (hT 28) .none .none "steadyhand.rows" 379 201)::(nat_lit 203,hU #[])::(nat_lit 206,hD "solved" 435 "solved" 436 437 84 1 3 203 204 .none .none .none (.ref 205) 438 84 439)::(nat_lit 207,hF "solved" "solved" (hT 30) .none .none "steadyhand.solving" 433 206)::(nat_lit 208,hU #[])::(nat_lit 210,hU #[hS "rows" 444,hS "place" 445,hS "number" 446])::(nat_lit 211,hU #[])::(nat_lit 213,hD "first_with" 441 "first_with" 442 443 96 2 3 208 209 .none (.ref 210) (.ref 211) (.ref 212) 447 96 448)::(nat_lit 214,hF "first_with" "first_with" (hT 31) .none .none "steadyhand.solving" 433 213)::(nat_lit 215,hU #[])::(nat_lit 217,hU #[hS "rows" 453,hS "place" 454,hS "found" 455,hS "told" 456])::(nat_lit 218,hU #[])::(nat_lit 220,hD "put_ahead" 450 "put_ahead" 451 452 101 3 3 215 216 .none (.ref 217) (.ref 218) (.ref 219) 457 101 458)::(nat_lit 221,hF "put_ahead" "put_ahead" (hT 32) .none .none "steadyhand.solving" 433 220)::(nat_lit 222,hU #[])::(nat_lit 225,hD "cleared" 460 "cleared" 461 462 106 4 3 222 223 .none .none .none (.ref 224) 463 106 464)::(nat_lit 226,hF "cleared" "cleared" (hT 33) .none .none "steadyhand.solving" 433 225)::(nat_lit 227,hU #[])::(nat_lit 230,hD "most" 468 "most" 469 470 109 2 3 227 228 .none .none .none (.ref 229) 471 109 472)::(nat_lit 231,hF "most" "most" (hT 35) .none .none "steadyhand.most" 466 230)::(nat_lit 232,hU #[])::(nat_lit 235,hD "climbed" 474 "climbed" 475 476 123 4 3 232 233 .none .none .none (.ref 234) 477 123 478)::(nat_lit 236,hF "climbed" "climbed" (hT 36) .none .none "steadyhand.most" 466 235)::(nat_lit 237,hU #[])::(nat_lit 240,hD "axes" 480 "axes" 481 482 135 1 3 237 238 .none .none .none (.ref 239) 483 135 484)::(nat_lit 241,hF "axes" "axes" (hT 37) .none .none "steadyhand.most" 466 240)::(nat_lit 242,hU #[])::(nat_lit 245,hD "first_corner" 486 "first_corner" 487 488 137 2 3 242 243 .none .none .none (.ref 244) 489 137 490)::(nat_lit 246,hF "first_corner" "first_corner" (hT 38) .none .none "steadyhand.most" 466 245)::(nat_lit 247,hU #[])::(nat_lit 250,hD "corner_point" 492 "corner_point" 493 494 147 2 3 247 248 .none .none .none (.ref 249) 495 147 496)::(nat_lit 251,hF "corner_point" "corner_point" (hT 39) .none .none "steadyhand.most" 466 250)::(nat_lit 252,hU #[])::(nat_lit 255,hD "weights_of" 498 "weights_of" 499 500 149 3 3 252 253 .none .none .none (.ref 254) 501 149 502)::(nat_lit 256,hF "weights_of" "weights_of" (hT 40) .none .none "steadyhand.most" 466 255)::(nat_lit 257,hU #[])::(nat_lit 260,hD "way_off" 504 "way_off" 505 506 151 4 3 257 258 .none .none .none (.ref 259) 507 151 508)::(nat_lit 261,hF "way_off" "way_off" (hT 41) .none .none "steadyhand.most" 466 260)::(nat_lit 262,hU #[])::(nat_lit 265,hD "least_place" 510 "least_place" 511 512 154 2 3 262 263 .none .none .none (.ref 264) 513 154 514)::(nat_lit 266,hF "least_place" "least_place" (hT 42) .none .none "steadyhand.most" 466 265)::(nat_lit 267,hU #[])::(nat_lit 269,hU #[hS "corner" 519,hS "place" 520,hS "number" 521])::(nat_lit 270,hU #[])::(nat_lit 272,hD "exchanged" 516 "exchanged" 517 518 157 3 3 267 268 .none (.ref 269) (.ref 270) (.ref 271) 522 157 523)::(nat_lit 273,hF "exchanged" "exchanged" (hT 43) .none .none "steadyhand.most" 466 272)::(nat_lit 274,hU #[])::(nat_lit 276,hU #[hS "room" 528,hS "point" 529,hS "number" 530,hS "row" 531])::(nat_lit 277,hU #[])::(nat_lit 279,hD "first_broken" 525 "first_broken" 526 527 159 2 3 274 275 .none (.ref 276) (.ref 277) (.ref 278) 532 159 533)::(nat_lit 280,hF "first_broken" "first_broken" (hT 44) .none .none "steadyhand.most" 466 279)::(nat_lit 281,hU #[])::(nat_lit 283,hU #[hS "room" 538,hS "point" 539,hS "way" 540,hS "met" 541,hS "least" 542,hS "number" 543,hS "row" 544,hS "speed" 545,hS "spare" 546])::(nat_lit 284,hU #[])::(nat_lit 286,hD "first_met" 535 "first_met" 536 537 164 3 3 281 282 .none (.ref 283) (.ref 284) (.ref 285) 547 164 548)::(nat_lit 287,hF "first_met" "first_met" (hT 45) .none .none "steadyhand.most" 466 286)::(nat_lit 288,hU #[])::(nat_lit 291,hD "over_one_bottom" 550 "over_one_bottom" 551 552 175 1 3 288 289 .none .none .none (.ref 290) 553 175 554)::(nat_lit 292,hF "over_one_bottom" "over_one_bottom" (hT 46) .none .none "steadyhand.most" 466 291)::(nat_lit 293,hU #[])::(nat_lit 296,hD "spread" 556 "spread" 557 558 180 3 3 293 294 .none .none .none (.ref 295) 559 180 560)::(nat_lit 297,hF "spread" "spread" (hT 47) .none .none "steadyhand.most" 466 296)::(nat_lit 298,hU #[])::(nat_lit 300,hU #[hS "thing" 567,hS "mode" 568,hS "row" 569,hS "numbers" 570,hS "ahead" 571])::(nat_lit 301,hU #[])::(nat_lit 303,hD "reach" 564 "reach" 565 566 188 3 3 298 299 .none (.ref 300) (.ref 301) (.ref 302) 572 188 573)::(nat_lit 304,hF "reach" "reach" (hT 49) .none .none "steadyhand.reach" 562 303)::(nat_lit 305,hU #[])::(nat_lit 308,hD "worst_pushes" 575 "worst_pushes" 576 577 192 2 3 305 306 .none .none .none (.ref 307) 578 192 579)::(nat_lit 309,hF "worst_pushes" "worst_pushes" (hT 50) .none .none "steadyhand.reach" 562 308)::(nat_lit 310,hU #[])::(nat_lit 312,hU #[hS "thing" 584,hS "row" 585])::(nat_lit 313,hU #[])::(nat_lit 315,hD "without_pushes" 581 "without_pushes" 582 583 194 2 3 310 311 .none (.ref 312) (.ref 313) (.ref 314) 586 194 587)::(nat_lit 316,hF "without_pushes" "without_pushes" (hT 51) .none .none "steadyhand.reach" 562 315)::(nat_lit 324,hU #[])::(nat_lit 326,hU #[hS "self" 612,hS "rows" 613,hS "nexts" 614,hS "steer" 615,hS "push" 616,hS "add" 617,hS "divisor" 618])::(nat_lit 327,hU #[])::(nat_lit 329,hD "__init__" 609 "Mode.__init__" 610 611 202 7 3 324 325 .none (.ref 326) (.ref 327) (.ref 328) 619 202 620)::(nat_lit 330,hF "__init__" "Mode.__init__" (hI 56 0) .none .none "steadyhand.things" 589 329)::(nat_lit 331,hU #[hS "add" 622,hS "divisor" 623,hS "nexts" 624,hS "push" 625,hS "rows" 626,hS "steer" 627])::(nat_lit 332,{ cls:=.type "dict",data:=.dict #[hE P "__module__" 604 (hS "steadyhand.things" 589),hE P "__firstlineno__" 608 (.int 200 607),hE P "__init__" 621 (.ref 330),hE P "__static_attributes__" 628 (.ref 331),hE P "__dict__" 630 (.ref 334),hE P "__weakref__" 632 (.ref 335),hE P "__doc__" 633 (.none)] 4 })::(nat_lit 333,{ cls:=.type "type",data:=.cls { name:="Mode",bases:=[.type "object"],mro:=[.ref 333,.type "object"],ns:=332,qualname:="Mode" },slots:=#[none,none,some (hS "Mode" 597),some (hS "Mode" 605),some (.builtin "object.__new__"),some (.bool true)] })::(nat_lit 334,{ cls:=.type "getset_descriptor",data:=.fields #[hS "__dict__" 629,.ref 333,.builtin "function.__dict__",.builtin "function.__dict__#set"] })::(nat_lit 335,{ cls:=.type "getset_descriptor",data:=.fields #[hS "__weakref__" 631,.ref 333,.builtin "ExceptionGroup.__weakref__",.none] })::(nat_lit 345,hU #[])::(nat_lit 347,hU #[hS "self" 651,hS "many" 652,hS "pushes" 653,hS "modes" 654])::(nat_lit 348,hU #[])::(nat_lit 350,hD "__init__" 648 "Thing.__init__" 649 650 211 4 3 345 346 .none (.ref 347) (.ref 348) (.ref 349) 655 211 656)::(nat_lit 351,hF "__init__" "Thing.__init__" (hI 57 0) .none .none "steadyhand.things" 589 350)::(nat_lit 352,hU #[])::(nat_lit 354,hU #[hS "self" 661])::(nat_lit 355,hU #[])::(nat_lit 357,hD "pushes" 658 "Thing.pushes" 659 660 220 1 3 352 353 .none (.ref 354) (.ref 355) (.ref 356) 662 220 663)::(nat_lit 358,hF "pushes" "Thing.pushes" (hI 57 1) .none .none "steadyhand.things" 589 357)::(nat_lit 359,hU #[])::(nat_lit 361,hU #[hS "self" 668])::(nat_lit 362,hU #[])::(nat_lit 364,hD "modes" 665 "Thing.modes" 666 667 223 1 3 359 360 .none (.ref 361) (.ref 362) (.ref 363) 669 223 670)::(nat_lit 365,hF "modes" "Thing.modes" (hI 57 2) .none .none "steadyhand.things" 589 364)::(nat_lit 366,hU #[])::(nat_lit 369,hD "is_closed" 672 "Thing.is_closed" 673 674 226 1 3 366 367 .none .none .none (.ref 368) 675 226 676)::(nat_lit 370,hF "is_closed" "Thing.is_closed" (hI 57 3) .none .none "steadyhand.things" 589 369)::(nat_lit 371,hU #[])::(nat_lit 373,hU #[hS "self" 681])::(nat_lit 374,hU #[])::(nat_lit 376,hD "is_plain" 678 "Thing.is_plain" 679 680 229 1 3 371 372 .none (.ref 373) (.ref 374) (.ref 375) 682 229 683)::(nat_lit 377,hF "is_plain" "Thing.is_plain" (hI 57 4) .none .none "steadyhand.things" 589 376)::(nat_lit 378,hU #[hS "kept_modes" 685,hS "kept_pushes" 686,hS "many" 687])::(nat_lit 379,{ cls:=.type "dict",data:=.dict #[hE P "__module__" 643 (hS "steadyhand.things" 589),hE P "__firstlineno__" 647 (.int 209 646),hE P "__init__" 657 (.ref 351),hE P "pushes" 664 (.ref 358),hE P "modes" 671 (.ref 365),hE P "is_closed" 677 (.ref 370),hE P "is_plain" 684 (.ref 377),hE P "__static_attributes__" 688 (.ref 378),hE P "__dict__" 690 (.ref 381),hE P "__weakref__" 692 (.ref 382),hE P "__doc__" 693 (.none)] 4 })::(nat_lit 380,{ cls:=.type "type",data:=.cls { name:="Thing",bases:=[.type "object"],mro:=[.ref 380,.type "object"],ns:=379,qualname:="Thing" },slots:=#[none,none,some (hS "Thing" 636),some (hS "Thing" 644),some (.builtin "object.__new__"),some (.bool true)] })::(nat_lit 381,{ cls:=.type "getset_descriptor",data:=.fields #[hS "__dict__" 689,.ref 380,.builtin "function.__dict__",.builtin "function.__dict__#set"] })::(nat_lit 382,{ cls:=.type "getset_descriptor",data:=.fields #[hS "__weakref__" 691,.ref 380,.builtin "ExceptionGroup.__weakref__",.none] })::(nat_lit 385,hU #[])::(nat_lit 388,hD "is_sound" 696 "is_sound" 697 698 231 3 3 385 386 .none .none .none (.ref 387) 699 231 700)::(nat_lit 389,hF "is_sound" "is_sound" (hT 58) .none .none "steadyhand.things" 589 388)::(nat_lit 390,hU #[])::(nat_lit 392,hU #[hS "value" 705])::(nat_lit 393,hU #[])::(nat_lit 395,hD "is_push" 702 "is_push" 703 704 239 1 3 390 391 .none (.ref 392) (.ref 393) (.ref 394) 706 239 707)::(nat_lit 396,hF "is_push" "is_push" (hT 59) .none .none "steadyhand.things" 589 395)::(nat_lit 397,hU #[])::(nat_lit 399,hU #[hS "value" 712,hS "many" 713,hS "wide" 714])::(nat_lit 400,hU #[])::(nat_lit 402,hD "is_mode" 709 "is_mode" 710 711 243 3 3 397 398 .none (.ref 399) (.ref 400) (.ref 401) 715 243 716)::(nat_lit 403,hF "is_mode" "is_mode" (hT 60) .none .none "steadyhand.things" 589 402)::(nat_lit 404,hU #[])::(nat_lit 407,hD "is_unsteered" 718 "is_unsteered" 719 720 251 1 3 404 405 .none .none .none (.ref 406) 721 251 722)::(nat_lit 408,hF "is_unsteered" "is_unsteered" (hT 61) .none .none "steadyhand.things" 589 407)::(nat_lit 409,hU #[])::(nat_lit 411,hU #[hS "thing" 727])::(nat_lit 412,hU #[])::(nat_lit 414,hD "ask_closed" 724 "ask_closed" 725 726 253 1 3 409 410 .none (.ref 411) (.ref 412) (.ref 413) 728 253 729)::(nat_lit 415,hF "ask_closed" "ask_closed" (hT 62) .none .none "steadyhand.things" 589 414)::(nat_lit 416,hU #[])::(nat_lit 418,hU #[hS "start" 736,hS "shape" 737,hS "told" 738,hS "numbers" 739,hS "found" 740])::(nat_lit 419,hU #[])::(nat_lit 421,hD "first_room" 733 "first_room" 734 735 257 2 3 416 417 .none (.ref 418) (.ref 419) (.ref 420) 741 257 742)::(nat_lit 422,hF "first_room" "first_room" (hT 64) .none .none "steadyhand.growing" 731 421)::(nat_lit 423,hU #[])::(nat_lit 425,hU #[hS "thing" 747,hS "room" 748,hS "told" 749,hS "row" 750,hS "bound" 751])::(nat_lit 426,hU #[])::(nat_lit 428,hD "grown_once" 744 "grown_once" 745 746 265 2 3 423 424 .none (.ref 425) (.ref 426) (.ref 427) 752 265 753)::(nat_lit 429,hF "grown_once" "grown_once" (hT 65) .none .none "steadyhand.growing" 731 428)::(nat_lit 430,hU #[])::(nat_lit 432,hU #[hS "thing" 758,hS "room" 759,hS "row" 760,hS "bound" 761,hS "mode" 762,hS "ahead" 763,hS "found" 764,hS "least" 765])::(nat_lit 433,hU #[])::(nat_lit 435,hD "grown_bound" 755 "grown_bound" 756 757 274 3 3 430 431 .none (.ref 432) (.ref 433) (.ref 434) 766 274 767)::(nat_lit 436,hF "grown_bound" "grown_bound" (hT 66) .none .none "steadyhand.growing" 731 435)::(nat_lit 437,hU #[])::(nat_lit 439,hU #[hS "thing" 772,hS "start" 773,hS "shape" 774,hS "tries" 775,hS "room" 776,hS "turn" 777,hS "larger" 778])::(nat_lit 440,hU #[])::(nat_lit 442,hD "grown" 769 "grown" 770 771 285 4 3 437 438 .none (.ref 439) (.ref 440) (.ref 441) 779 285 780)::(nat_lit 443,hF "grown" "grown" (hT 67) .none .none "steadyhand.growing" 731 442)::(nat_lit 444,hU #[])::(nat_lit 446,hU #[hS "_law_script" 787,hS "_law_k" 788])::(nat_lit 447,hU #[])::(nat_lit 449,hD "_law_cell_at" 784 "_law_cell_at" 785 786 297 2 3 444 445 .none (.ref 446) (.ref 447) (.ref 448) 789 297 790)::(nat_lit 450,hF "_law_cell_at" "_law_cell_at" (hT 69) .none .none "law_steadyhand_k73_boxes_grown" 782 449)::(nat_lit 451,hU #[])::(nat_lit 453,hU #[hS "_law_cell" 795,hS "_law_many" 796,hS "_law_found" 797,hS "_law_rest" 798,hS "_law_k" 799,hS "_law_number_here" 800])::(nat_lit 454,hU #[])::(nat_lit 456,hD "_law_stream" 792 "_law_stream" 793 794 301 2 3 451 452 .none (.ref 453) (.ref 454) (.ref 455) 801 301 802)::(nat_lit 457,hF "_law_stream" "_law_stream" (hT 70) .none .none "law_steadyhand_k73_boxes_grown" 782 456)::(nat_lit 458,hU #[])::(nat_lit 460,hU #[hS "_law_x" 807,hS "_law_far" 808])::(nat_lit 461,hU #[])::(nat_lit 463,hD "_law_number" 804 "_law_number" 805 806 314 2 3 458 459 .none (.ref 460) (.ref 461) (.ref 462) 809 314 810)::(nat_lit 464,hF "_law_number" "_law_number" (hT 71) .none .none "law_steadyhand_k73_boxes_grown" 782 463)::(nat_lit 465,hU #[])::(nat_lit 468,hD "_law_mode" 812 "_law_mode" 813 814 316 5 3 465 466 .none .none .none (.ref 467) 815 316 816)::(nat_lit 469,hF "_law_mode" "_law_mode" (hT 72) .none .none "law_steadyhand_k73_boxes_grown" 782 468)::(nat_lit 470,hU #[])::(nat_lit 472,hU #[hS "_law_script" 821,hS "_law_most_modes" 822,hS "_law_first" 823,hS "_law_second" 824,hS "_law_unit" 825,hS "_law_many" 826,hS "_law_pushes" 827,hS "_law_k" 828,hS "_law_x" 829,hS "_law_modes" 830,hS "_law_cell" 831])::(nat_lit 473,hU #[])::(nat_lit 475,hD "_law_thing" 818 "_law_thing" 819 820 330 2 3 470 471 .none (.ref 472) (.ref 473) (.ref 474) 832 330 833)::(nat_lit 476,hF "_law_thing" "_law_thing" (hT 73) .none .none "law_steadyhand_k73_boxes_grown" 782 475)::(nat_lit 477,hU #[])::(nat_lit 480,hD "_law_made" 835 "_law_made" 836 837 346 1 3 477 478 .none .none .none (.ref 479) 838 346 839)::(nat_lit 481,hF "_law_made" "_law_made" (hT 74) .none .none "law_steadyhand_k73_boxes_grown" 782 480)::(nat_lit 482,hU #[])::(nat_lit 484,hU #[hS "_law_cell" 844,hS "_law_many" 845,hS "_law_unit" 846,hS "_law_xs" 847,hS "_law_box_here" 848,hS "_law_i" 849,hS "_law_low" 850])::(nat_lit 485,hU #[])::(nat_lit 487,hD "_law_box" 841 "_law_box" 842 843 353 3 3 482 483 .none (.ref 484) (.ref 485) (.ref 486) 851 353 852)::(nat_lit 488,hF "_law_box" "_law_box" (hT 75) .none .none "law_steadyhand_k73_boxes_grown" 782 487)::(nat_lit 489,hU #[])::(nat_lit 492,hD "_law_rows" 854 "_law_rows" 855 856 360 1 3 489 490 .none .none .none (.ref 491) 857 360 858)::(nat_lit 493,hF "_law_rows" "_law_rows" (hT 76) .none .none "law_steadyhand_k73_boxes_grown" 782 492)::(nat_lit 494,hU #[])::(nat_lit 496,hU #[hS "_law_numbers" 863,hS "_law_box_here" 864,hS "_law_found" 865,hS "_law_number_here" 866,hS "_law_bounds" 867])::(nat_lit 497,hU #[])::(nat_lit 499,hD "_law_top" 860 "_law_top" 861 862 367 2 3 494 495 .none (.ref 496) (.ref 497) (.ref 498) 868 367 869)::(nat_lit 500,hF "_law_top" "_law_top" (hT 77) .none .none "law_steadyhand_k73_boxes_grown" 782 499)::(nat_lit 501,hU #[])::(nat_lit 504,hD "_law_image" 871 "_law_image" 872 873 372 2 3 501 502 .none .none .none (.ref 503) 874 372 875)::(nat_lit 505,hF "_law_image" "_law_image" (hT 78) .none .none "law_steadyhand_k73_boxes_grown" 782 504)::(nat_lit 506,hU #[])::(nat_lit 509,hD "_law_hull" 877 "_law_hull" 878 879 390 2 3 506 507 .none .none .none (.ref 508) 880 390 881)::(nat_lit 510,hF "_law_hull" "_law_hull" (hT 79) .none .none "law_steadyhand_k73_boxes_grown" 782 509)::(nat_lit 511,hU #[])::(nat_lit 514,hD "_law_shape" 883 "_law_shape" 884 885 392 2 3 511 512 .none .none .none (.ref 513) 886 392 887)::(nat_lit 515,hF "_law_shape" "_law_shape" (hT 80) .none .none "law_steadyhand_k73_boxes_grown" 782 514)::(nat_lit 516,hU #[])::(nat_lit 519,hD "_law_by" 889 "_law_by" 890 891 399 2 3 516 517 .none .none .none (.ref 518) 892 399 893)::(nat_lit 520,hF "_law_by" "_law_by" (hT 81) .none .none "law_steadyhand_k73_boxes_grown" 782 519)::(nat_lit 521,hU #[])::(nat_lit 523,hU #[hS "_law_script" 898,hS "_law_spec" 899,hS "_law_thing_here" 900,hS "_law_box_here" 901,hS "_law_start" 902,hS "_law_shape_here" 903,hS "_law_tries" 904,hS "_law_handed" 905,hS "_law_after" 906,hS "_law_room" 907,hS "_law_due" 908,hS "_law_turn" 909])::(nat_lit 524,hU #[])::(nat_lit 526,hD "law" 895 "law" 896 897 401 1 3 521 522 .none (.ref 523) (.ref 524) (.ref 525) 910 401 911)::(nat_lit 527,hF "law" "law" (hT 82) .none .none "law_steadyhand_k73_boxes_grown" 782 526) :: []
noncomputable def ks:List Addr:=[2,3,15,17,18,20,21,22,29,30,31,32,35,42,43,44,47,54,55,56,59,66,67,68,71,78,79,80,83,85,86,88,89,90,92,93,95,96,97,98,100,101,103,104,105,107,108,110,111,112,114,115,117,118,119,121,122,124,125,126,128,129,131,132,133,136,137,138,141,142,143,144,147,148,149,150,153,154,155,158,159,160,163,164,165,168,169,170,173,174,175,177,178,180,181,182,184,185,187,188,189,191,192,194,195,196,198,199,201,202,203,206,207,208,210,211,213,214,215,217,218,220,221,222,225,226,227,230,231,232,235,236,237,240,241,242,245,246,247,250,251,252,255,256,257,260,261,262,265,266,267,269,270,272,273,274,276,277,279,280,281,283,284,286,287,288,291,292,293,296,297,298,300,301,303,304,305,308,309,310,312,313,315,316,324,326,327,329,330,331,332,333,334,335,345,347,348,350,351,352,354,355,357,358,359,361,362,364,365,366,369,370,371,373,374,376,377,378,379,380,381,382,385,388,389,390,392,393,395,396,397,399,400,402,403,404,407,408,409,411,412,414,415,416,418,419,421,422,423,425,426,428,429,430,432,433,435,436,437,439,440,442,443,444,446,447,449,450,451,453,454,456,457,458,460,461,463,464,465,468,469,470,472,473,475,476,477,480,481,482,484,485,487,488,489,492,493,494,496,497,499,500,501,504,505,506,509,510,511,514,515,516,519,520,521,523,524,526,527]
theorem ke:∀ P:Params,ks=(KK P).map (·.1):=λ_=>by
 kernel_rfl
noncomputable def vw:Program:={ PySem.Challenge.pw_steadyhand_k73_boxes_grown with main:={ PySem.Challenge.pw_steadyhand_k73_boxes_grown.main with body:=[hT 0,hT 2,hT 3,hT 4,hT 5,hT 6,hT 8,hT 9,hT 11,hT 12,hT 13,hT 14,hT 16,hT 17,hT 20,hT 21,hT 23,hT 24,hT 25,hT 26,hT 27,hT 28,hT 30,hT 31,hT 32,hT 33,hT 35,hT 36,hT 37,hT 38,hT 39,hT 40,hT 41,hT 42,hT 43,hT 44,hT 45,hT 46,hT 47,hT 49,hT 50,hT 51,hT 53,hT 54,hT 55,hT 56,hT 57,hT 58,hT 59,hT 60,hT 61,hT 62,hT 64,hT 65,hT 66,hT 67,hT 69,hT 70,hT 71,hT 72,hT 73,hT 74,hT 75,hT 76,hT 77,hT 78,hT 79,hT 80,hT 81,hT 82] } }
noncomputable def lo:List Str:=[Str.ofString "fraction",Str.ofString "copied",Str.ofString "unit"]
abbrev rr:RowW:=(OpenLaw.row PySem.Challenge.rw_steadyhand_k73_boxes_grown).toRowW
noncomputable abbrev xt:Shared->Bool:=λs=>xlAt vw [] s && recOk rr.records s
noncomputable def bt:Params->BT:=λP=>(.node (boot_o_0 P) (.node (boot_o_1 P) (.node (boot_o_3 P) (.node (boot_o_7 P) .nil .nil) .nil) (.node (boot_o_5 P) (.node (boot_o_9 P) .nil .nil) .nil)) (.node (boot_o_2 P) (.node (boot_o_4 P) (.node (boot_o_8 P) .nil .nil) .nil) (.node (boot_o_6 P) (.node (boot_o_10 P) .nil .nil) .nil)))
noncomputable def lhs (T:Params->BT) (h:Params->Heap) (d:Drawn) (k:Nat) (w:World) (os:OsState):=(TT.runT treeTable PySem.Challenge.pw_steadyhand_k73_boxes_grown w 11 (some (.ref 6)) 7290 ⟨T w.params,11,(h w.params).life,Array.mk [],d,k,os⟩ (topStub PySem.Challenge.pw_steadyhand_k73_boxes_grown)).map (λs=>((staticsOk (importedModules PySem.Challenge.pw_steadyhand_k73_boxes_grown.main.body) (h w.params) s.abs.heap && namesBound PySem.Challenge.pw_steadyhand_k73_boxes_grown s.abs.heap && gensDone s.abs && laidKept (h w.params) s.abs.heap),openSeen vw lo (importedModules PySem.Challenge.pw_steadyhand_k73_boxes_grown.main.body) xt true s.abs))
noncomputable def lhs2 (T:Params->BT) (h:Params->Heap) (d:Drawn) (k:Nat) (w:World) (os:OsState):=(TT.runT treeTable PySem.Challenge.pw_steadyhand_k73_boxes_grown w 11 (some (.ref 6)) 7290 ⟨T w.params,11,(h w.params).life,Array.mk [],d,k,os⟩ (topStub PySem.Challenge.pw_steadyhand_k73_boxes_grown)).map (λs=>ks.map s.abs.heap.get?)
noncomputable def rhs (_:Params->Frag) (w:World) (_:OsState):=some (true,openGood vw lo)
noncomputable def rhs2 (F:Params->Frag) (w:World) (_:OsState):=some ((F w.params).map λp=>some p.2)
lay_quick lhs rhs
lay_quick lhs2 rhs2
theorem same (w:World) (os:OsState):PySem.W.Fast.tw13372435438440477643 bt boot_heap boot_drawn boot_toks w os=PySem.W.Fast.tw16569735406725160000 KK w os:=by
 kernel_rfl
theorem qt (w:World) (os:OsState):PySem.W.Fast.tw15150340168103442947 bt boot_heap boot_drawn boot_toks w os=PySem.W.Fast.tw11158723169535985270 KK w os:=by
 kernel_rfl
theorem two {α β γ δ:Type} {o:Option α} {f:α->β × γ} {g:α->δ} {b:β} {c:γ} {d:δ} (h1:o.map f=some (b,c)) (h2:o.map g=some d):o.map (λs=>((f s).1,(f s).2,g s))=some (b,c,d):=by
 cases o with
 | none=>cases h1
 | some a=>
  injection h1 with h1
  injection h2 with h2
  show some ((f a).1,(f a).2,g a)=_
  rw [h1,h2]
theorem left:LeftO rr.prog vw lo xt (kHook KK ks ke).obs (kHook KK ks ke).val 7290:=
 TT.left_is (boot_open (by kernel_rfl) (by decide) (λ_=>by kernel_rfl)) (λ_=>by kernel_rfl) (λ_=>by kernel_rfl) (λ_=>by kernel_rfl) (λ_=>by kernel_rfl)
  λw os=>two ((congrArg (λf=>f bt boot_heap boot_drawn boot_toks w os) PySem.W.Fast.te13372435438440477643).trans ((same w os).trans (congrFun (congrFun (congrFun PySem.W.Fast.te16569735406725160000 KK) w) os).symm)) ((congrArg (λf=>f bt boot_heap boot_drawn boot_toks w os) PySem.W.Fast.te15150340168103442947).trans ((qt w os).trans (congrFun (congrFun (congrFun PySem.W.Fast.te11158723169535985270 KK) w) os).symm))
end H73
namespace L2
open PySem PySem.Spec PyProof.Rows
abbrev yH:=Sum Int Str
def Jo:yH->Value->Bool
 | .inl k,v=>Value.isInt k v
 | .inr x,v=>Value.isStrOf x v
def Xh (w:World):yH->Int
 | .inl k=>hashInt k
 | .inr x=>hashStr w x
theorem uE:∀ {k:yH} {v:Value},Jo k v=true->(∃ i t,k=Sum.inl i/\v=Value.int i t)\/(∃ x t,k=Sum.inr x/\v=Value.str x t)
 | .inl i,v,h=>by
  obtain ⟨t,e⟩:=Value.isInt_shape (k:=i) (v:=v) h
  exact .inl ⟨i,t,rfl,e⟩
 | .inr x,v,h=>by
  obtain ⟨t,e⟩:=Value.isStrOf_shape (x:=x) (v:=v) h
  exact .inr ⟨x,t,rfl,e⟩
theorem zPO (a b:Int):decide ((Sum.inl a:yH)=Sum.inl b)=(a == b):=by
 by_cases e:a=b
 ·subst e; simp
 ·have h:¬ (Sum.inl a:yH)=Sum.inl b:=λq=>e (Sum.inl.inj q)
  rw [decide_eq_false h]
  exact (beq_eq_false_iff_ne.mpr e).symm
theorem zPL (a b:Str):decide ((Sum.inr a:yH)=Sum.inr b)=decide (a=b):=by
 by_cases e:a=b
 ·subst e; simp
 ·have h:¬ (Sum.inr a:yH)=Sum.inr b:=λq=>e (Sum.inr.inj q)
  rw [decide_eq_false h,decide_eq_false e]
theorem zPN (a:Int) (b:Str):decide ((Sum.inl a:yH)=Sum.inr b)=false:=decide_eq_false (λq=>nomatch q)
theorem zPM (a:Str) (b:Int):decide ((Sum.inr a:yH)=Sum.inl b)=false:=decide_eq_false (λq=>nomatch q)
def Jp (prog:Program) (w:World):PySem.KeyKind prog w yH where
 is:=Jo
 hash:=Xh w
 inj:=λv a b ha hb=>by
  rcases uE ha with ⟨i,t,rfl,rfl⟩ | ⟨x,t,rfl,rfl⟩
  ·rcases uE hb with ⟨j,u,rfl,e⟩ | ⟨y,u,rfl,e⟩
   ·injection e with e1 _; rw [e1]
   ·exact nomatch e
  ·rcases uE hb with ⟨j,u,rfl,e⟩ | ⟨y,u,rfl,e⟩
   ·exact nomatch e
   ·injection e with e1 _; rw [e1]
 byValue:=λk v h=>by
  rcases uE h with ⟨i,t,rfl,rfl⟩ | ⟨x,t,rfl,rfl⟩ <;> rfl
 pyHash:=λhv h=>by
  rcases uE hv with ⟨i,t,rfl,rfl⟩ | ⟨x,t,rfl,rfl⟩
  ·exact wpAny_pyHash_int h
  ·exact wpAny_pyHash_str h
 eqBool:=λhu hv h=>by
  rcases uE hu with ⟨i,t,rfl,rfl⟩ | ⟨x,t,rfl,rfl⟩
  ·rcases uE hv with ⟨j,u,rfl,rfl⟩ | ⟨y,u,rfl,rfl⟩
   ·rw [zPO] at h; exact wpAny_eqBool_int h
   ·rw [zPN] at h; exact SeqAt.EqAt.int_str i t y u _ _ _ _ h
  ·rcases uE hv with ⟨j,u,rfl,rfl⟩ | ⟨y,u,rfl,rfl⟩
   ·rw [zPM] at h; exact SeqAt.EqAt.str_int x t j u _ _ _ _ h
   ·rw [zPL] at h; exact wpAny_eqBool_str h
 «strs»:=λk x t v h=>by
  rcases uE h with ⟨i,u,rfl,e⟩ | ⟨y,u,rfl,e⟩
  ·exact nomatch e
  ·injection e with e1 _
   subst e1
   cases v <;> rfl
end L2
namespace L2
open PySem PySem.Spec PyProof.Rows
inductive V where
 | non | bl (b:Bool) | int (i:Int) | str (x:Str) | byt (b:Array UInt8) | flt (b:UInt64) | ref (a:Addr) | ty (n:String)
 deriving DecidableEq
def zN:V->Value->Prop
 | .non,u=>u=Value.none
 | .bl b,u=>u=Value.bool b
 | .int i,u=>∃ t,u=Value.int i t
 | .str x,u=>∃ t,u=Value.str x t
 | .byt b,u=>∃ t,u=Value.bytes b t
 | .flt b,u=>∃ t,u=Value.float b t
 | .ref a,u=>u=Value.ref a
 | .ty n,u=>u=Value.type n
abbrev zK:List V->List Value->Prop:=Paired zN
theorem zK.length {xs:List V} {us:List Value} (r:zK xs us):xs.length=us.length:=Paired.length r
theorem zK.get:∀ {xs:List V} {us:List Value} {i:Nat} {x:V},zK xs us->xs[i]? = some x->∃ u,us[i]? = some u/\zN x u
 | _,_,_,_,.nil,e=>by simp at e
 | _,_,0,_,.cons r _,e=>by simp at e; subst e; exact ⟨_,rfl,r⟩
 | _,_,i + 1,x,.cons _ t,e=>by
  obtain ⟨u,h1,h2⟩:=zK.get (i:=i) (x:=x) t (by simpa using e)
  exact ⟨u,by simpa using h1,h2⟩
theorem zK.set {x:V} {u:Value} (r:zN x u):∀ {xs:List V} {us:List Value} (i:Nat),zK xs us->zK (xs.set i x) (us.set i u)
 | _,_,_,.nil=>.nil
 | _,_,0,.cons _ t=>.cons r t
 | _,_,i + 1,.cons q t=>.cons q (zK.set r i t)
theorem zK.append:∀ {xs ys:List V} {us ws:List Value},zK xs us->zK ys ws->zK (xs++ys) (us++ws)
 | _,_,_,_,.nil,s=>s
 | _,_,_,_,.cons r t,s=>.cons r (zK.append t s)
theorem zK.take:∀ {xs:List V} {us:List Value} (n:Nat),zK xs us->zK (xs.take n) (us.take n)
 | _,_,0,_=>.nil
 | _,_,_ + 1,.nil=>.nil
 | _,_,n + 1,.cons r t=>.cons r (zK.take n t)
theorem zK.drop:∀ {xs:List V} {us:List Value} (n:Nat),zK xs us->zK (xs.drop n) (us.drop n)
 | _,_,0,r=>r
 | _,_,_ + 1,.nil=>.nil
 | _,_,n + 1,.cons _ t=>zK.drop n t
theorem zK.none_of:∀ {xs:List V} {us:List Value} {i:Nat},zK xs us->xs[i]? = none->us[i]? = none:=λ{xs us i} r e=>by
 have h1:=r.length
 have h2:xs.length<=i:=List.getElem?_eq_none_iff.mp e
 exact List.getElem?_eq_none_iff.mpr (by omega)
def ye:Option V->Option Value->Prop
 | some v,some u=>zN v u
 | none,none=>True
 | _,_=>False
def KV {κ:Type}:List (κ × V)->List (κ × Value)->Prop:=Paired λ(p:κ × V) (q:κ × Value)=>p.1=q.1/\zN p.2 q.2
def kV:yH->V
 | .inl i=>.int i
 | .inr x=>.str x
inductive HO where
 | lst (xs:List V)
 | tup (xs:List V)
 | dK (kvs:List (yH × V)) | dT (kvs:List (List yH × V))
 | set (S:Int->Bool) (n:Nat)
 | ins (C dx:Addr) (fs:List (Str × V))
 | own (x:Addr)
 | xd (fs:List (Str × V))
 | met (f x:Addr)
 | rng (lo hi:Int)
 | frz (o:Obj) (u:HO)
 | tbl (ps:Array Value)
 | ext (φ:Heap->Prop)
abbrev Hp:=Addr->Option HO
def upd (H:Hp) (a:Addr) (o:HO):Hp:=λb=>if b=a then some o else H b
theorem xB {H:Hp} {a:Addr} {o:HO}:upd H a o a=some o:=by unfold upd; rw [if_pos rfl]
theorem zh {H:Hp} {a b:Addr} {o:HO} (h:b≠a):upd H a o b=H b:=by unfold upd; rw [if_neg h]
theorem Jq {H:Hp} {a b:Addr} {o u:HO} (h:H a=some o) (h':H b=some u) (d:o≠u):a≠b:=by
 intro e; subst e; rw [h] at h'; exact d (Option.some.inj h')
theorem x9 {H:Hp} {a b:Addr} {o:HO} (h:H a=some o) (h':H b=none):a≠b:=by
 intro e; subst e; rw [h] at h'; cases h'
section
variable (P:Program) (w:World)
def xM (H:Hp) (h:Heap) (a:Addr):HO->Prop
 | .lst xs=>xs.length<=sizeLine/\∃ (its:List Value) (n:Nat),zK xs its/\h.get? a=some { cls:=.type "list",data:=.seq its.toArray n }
 | .tup xs=>xs.length<=sizeLine/\∃ its:List Value,zK xs its/\IsTup h a its.toArray
 | .dK kvs=>kvs.length<=sizeLine/\(a == sysModules)=false/\∃ vs,KV kvs vs/\h.DictOf (Jp P w) a vs
 | .dT kvs=>kvs.length<=sizeLine/\(a == sysModules)=false/\∃ xs:List (List yH × Addr × Value),
   Paired (λ(p:List yH × V) (q:List yH × Addr × Value)=>p.1=q.1/\H q.2.1=some (.tup (p.1.map kV))/\zN p.2 q.2.2) kvs xs∧
   ∃ o es ep,h.get? a=some o/\o.ExactDict/\o.data=.dict es ep/\es.toList=xs.map (entryOfKey (tupleKind (Jp P w)))/\(xs.map (·.1)).Nodup
 | .set S n=>h.SetOf (intKind P w) a S n
 | .ins C dx fs=>H dx=some (.own a)/\fs.length<=1000/\dx≠a/\h.get? a=some (PySem.W.instObj C dx)∧
   ∃ mA,h.Ns1 dx mA/\(∀ f,ye (fs.lookup f) (mA f))/\PySem.Within mA (fs.map (·.1))
 | .own _=>∃ o,h.get? a=some o
 | .xd fs=>∃ mA,h.Ns1 a mA/\∀ f,ye (fs.lookup f) (mA f)
 | .rng lo hi=>∃ t u v,h.get? a=some { cls:=.type "range",data:=.fields #[.int lo t,.int hi u,.int 1 v] }
 | .frz o u=>h.get? a=some o/\xM H h a u
 | .tbl ps=>h.get? a=some { cls:=.none,data:=.fields ps }
 | .met f x=>h.get? a=some (PySem.W.methodObj (.ref f) (.ref x))
 | .ext φ=>φ h/\(∃ o,h.get? a=some o)/\∀ h1 h2:Heap,φ h1->(∀ o,h1.get? a=some o->h2.get? a=some o)->φ h2
def yh (H:Hp) (h:Heap):Prop:=∀ a o,H a=some o->xM P w H h a o
end
section
variable {P:Program} {w:World} {H H':Hp} {h h':Heap} {a:Addr} {o:HO}
theorem xM.lt (x:xM P w H h a o):a < h.objs.size:=by
 cases o with
 | lst xs=>obtain ⟨_,_,_,_,e⟩:=x; exact Heap.lt_size e
 | tup xs=>obtain ⟨_,_,_,p⟩:=x; exact p.lt
 | dK kvs=>obtain ⟨_,_,_,_,o,_,_,e,_⟩:=x; exact Heap.lt_size e
 | dT kvs=>obtain ⟨_,_,_,_,o,_,_,e,_⟩:=x; exact Heap.lt_size e
 | set S n=>obtain ⟨o,_,_,_,e,_⟩:=x; exact Heap.lt_size e
 | ins C dx fs=>obtain ⟨_,_,_,e,_⟩:=x; exact Heap.lt_size e
 | own y=>obtain ⟨_,e⟩:=x; exact Heap.lt_size e
 | xd fs=>obtain ⟨_,⟨_,_,_,e,_⟩,_⟩:=x; exact Heap.lt_size e
 | rng lo hi=>obtain ⟨_,_,_,e⟩:=x; exact Heap.lt_size e
 | frz ob u=>obtain ⟨e,_⟩:=x; exact Heap.lt_size e
 | tbl ps=>exact Heap.lt_size (show h.get? a=some _ from x)
 | met f y=>exact Heap.lt_size (show h.get? a=some _ from x)
 | ext φ=>obtain ⟨_,⟨_,e⟩,_⟩:=x; exact Heap.lt_size e
theorem Paired.mapP {α β:Type} {F G:α->β->Prop}:∀ {l₁:List α} {l₂:List β},Paired F l₁ l₂->(∀ a b,F a b->G a b)->Paired G l₁ l₂
 | _,_,.nil,_=>.nil
 | _,_,.cons r t,f=>.cons (f _ _ r) (Paired.mapP t f)
theorem xM.stay (x:xM P w H h a o) (k:∀ b u,(b=a\/H b=some (.own a))->h.get? b=some u->h'.get? b=some u)
  (ho:∀ b,H b=some (.own a)->H' b=some (.own a)) (ht:∀ b xs,H b=some (.tup xs)->H' b=some (.tup xs)):xM P w H' h' a o:=by
 induction o with
 | lst xs=>obtain ⟨z,its,n,r,e⟩:=x; exact ⟨z,its,n,r,k _ _ (.inl rfl) e⟩
 | tup xs=>obtain ⟨z,its,r,ob,e,c⟩:=x; exact ⟨z,its,r,ob,k _ _ (.inl rfl) e,c⟩
 | dK kvs=>obtain ⟨z,y,vs,r,ob,es,ep,e,c⟩:=x; exact ⟨z,y,vs,r,ob,es,ep,k _ _ (.inl rfl) e,c⟩
 | dT kvs=>
  obtain ⟨z,y,xs,r,ob,es,ep,e,c⟩:=x
  exact ⟨z,y,xs,Paired.mapP r λp q z=>⟨z.1,ht _ _ z.2.1,z.2.2⟩,ob,es,ep,k _ _ (.inl rfl) e,c⟩
 | set S n=>obtain ⟨ob,es,ep,t,e,c⟩:=x; exact ⟨ob,es,ep,t,k _ _ (.inl rfl) e,c⟩
 | ins C dx fs=>
  obtain ⟨d,z,ne,e,mA,⟨od,es,ep,e2,c⟩,r⟩:=x
  exact ⟨ho _ d,z,ne,k _ _ (.inl rfl) e,mA,⟨od,es,ep,k _ _ (.inr d) e2,c⟩,r⟩
 | own y=>obtain ⟨ob,e⟩:=x; exact ⟨ob,k _ _ (.inl rfl) e⟩
 | xd fs=>obtain ⟨mA,⟨od,es,ep,e,c⟩,r⟩:=x; exact ⟨mA,⟨od,es,ep,k _ _ (.inl rfl) e,c⟩,r⟩
 | rng lo hi=>obtain ⟨t,u,v,e⟩:=x; exact ⟨t,u,v,k _ _ (.inl rfl) e⟩
 | frz ob u ih=>obtain ⟨e,q⟩:=x; exact ⟨k _ _ (.inl rfl) e,ih q⟩
 | tbl ps=>
  have e:h.get? a=some { cls:=.none,data:=.fields ps }:=x
  show h'.get? a=some { cls:=.none,data:=.fields ps }
  exact k a _ (.inl rfl) e
 | met f y=>
  have e:h.get? a=some (PySem.W.methodObj (.ref f) (.ref y)):=x
  show h'.get? a=some (PySem.W.methodObj (.ref f) (.ref y))
  exact k a _ (.inl rfl) e
 | ext φ=>obtain ⟨p,⟨o,e⟩,st⟩:=x; exact ⟨st _ _ p λo q=>k _ _ (.inl rfl) q,⟨o,k _ _ (.inl rfl) e⟩,st⟩
theorem yh.lt (x:yh P w H h) (e:H a=some o):a < h.objs.size:=(x a o e).lt
theorem yh.fresh (x:yh P w H h) (e:h.objs.size<=a):H a=none:=by
 cases q:H a with
 | none=>rfl
 | some u=>exact absurd (Nat.lt_of_lt_of_le (x.lt q) e) (Nat.lt_irrefl _)
theorem yh.kept (x:yh P w H h) (k:∀ b u,h.get? b=some u->h'.get? b=some u):yh P w H h':=λa o e=>
 (x a o e).stay (λb u _ q=>k b u q) (λ_ q=>q) λ_ _ q=>q
theorem yh.laid (x:yh P w H h) (k:∀ b u,h.get? b=some u->h'.get? b=some u) (hp:h.objs.size<=a) (new:xM P w (upd H a o) h' a o):yh P w (upd H a o) h':=λb u e=>by
 have hn:=x.fresh hp
 by_cases hb:b=a
 ·subst hb; rw [xB] at e; cases e; exact new
 ·rw [zh hb] at e
  exact (x b u e).stay (λc v _ q=>k c v q) (λc q=>by rw [zh (x9 q hn)]; exact q) λc xs q=>by rw [zh (x9 q hn)]; exact q
end
def Rd (H:Hp) (a:Addr) (u:HO):Prop:=H a=some u\/∃ o,H a=some (.frz o u)
theorem Rd.of {H:Hp} {a:Addr} {u:HO} (h:H a=some u):Rd H a u:=.inl h
theorem Rd.ok {P:Program} {w:World} {H:Hp} {h:Heap} {a:Addr} {u:HO} (r:Rd H a u) (x:yh P w H h):xM P w H h a u:=by
 rcases r with r | ⟨o,r⟩
 ·exact x a u r
 ·obtain ⟨_,q⟩:=x a _ r
  exact q
def Z4:Option HO->Prop
 | some (.lst _)=>True
 | some (.dK _)=>True
 | some (.dT _)=>True
 | some (.set _ _)=>True
 | some (.ins _ _ _)=>True
 | some (.ext _)=>True
 | _=>False
section
variable {P:Program} {w:World} {H:Hp} {h h':Heap} {x e:Addr} {o':HO}
theorem yh.write (ok:yh P w H h) (mu:Z4 (H x)) (he:e=x\/H e=some (.own x)) (k:∀ b u,b≠e->h.get? b=some u->h'.get? b=some u) (heo:∃ u,h'.get? e=some u)
  (new:xM P w (upd H x o') h' x o'):yh P w (upd H x o') h':=λb u q=>by
 have nown:∀ c y,H c=some (.own y)->c≠x:=λc y r z=>by subst z; rw [r] at mu; exact mu
 have ntup:∀ c xs,H c=some (.tup xs)->c≠x:=λc xs r z=>by subst z; rw [r] at mu; exact mu
 by_cases hb:b=x
 ·subst hb; rw [xB] at q; cases q; exact new
 ·rw [zh hb] at q
  by_cases hbe:b=e
  ·have q':H b=some (.own x):=by
    rcases he with z | z
    ·exact absurd (hbe.trans z) hb
    ·rw [hbe]; exact z
   rw [q] at q'; cases q'
   obtain ⟨v,hv⟩:=heo
   exact ⟨v,by rw [hbe]; exact hv⟩
  ·refine (ok b u q).stay (λc v hc r=>k c v ?_ r) (λc r=>by rw [zh (nown c b r)]; exact r) λc xs r=>by rw [zh (ntup c xs r)]; exact r
   rcases hc with rfl | hc
   ·exact hbe
   ·rintro rfl
    rcases he with z | z
    ·exact nown c b hc z
    ·rw [hc] at z; cases z; exact hb rfl
end
structure Un (fs ex:List Addr) (H H':Hp) (h h':Heap):Prop where
 keep:∀ b o,h.get? b=some o->H b=none->b∉fs->b∉ex->h'.get? b=some o
 slot:∀ b o,h.get? b=some o->H b=none->b∈fs->b∉ex->∃ sl,h'.get? b=some { o with slots:=sl }
 free:∀ b o,h.get? b=some o->H b=none->b∉ex->H' b=none
 there:∀ b o,h.get? b=some o->b∉ex->∃ o',h'.get? b=some o'
 tups:∀ b xs,H b=some (.tup xs)->H' b=some (.tup xs)
 frzs:∀ b o u,H b=some (.frz o u)->H' b=some (.frz o u)
 tbls:∀ b ps,H b=some (.tbl ps)->∃ more,H' b=some (.tbl (ps++more))
section
variable {fs fs' ex ex':List Addr} {H H1 H2:Hp} {h h1 h2 h':Heap} {a x e:Addr} {o:HO}
theorem Un.any (u:Un fs ex H H1 h h1) {b:Addr} {ob:Obj} (q:h.get? b=some ob) (n:H b=none) (hx:b∉ex):∃ sl,h1.get? b=some { ob with slots:=sl }:=by
 by_cases hb:b∈fs
 ·exact u.slot b ob q n hb hx
 ·exact ⟨ob.slots,u.keep b ob q n hb hx⟩
theorem Un.trans (a:Un fs ex H H1 h h1) (b:Un fs ex H1 H2 h1 h2):Un fs ex H H2 h h2 where
 keep:=λc ob q n hc hx=>b.keep c ob (a.keep c ob q n hc hx) (a.free c ob q n hx) hc hx
 slot:=λc ob q n hc hx=>by
  obtain ⟨sl,e1⟩:=a.slot c ob q n hc hx
  obtain ⟨sl',e2⟩:=b.slot c _ e1 (a.free c ob q n hx) hc hx
  exact ⟨sl',e2⟩
 free:=λc ob q n hx=>by
  obtain ⟨o',e1⟩:=a.there c ob q hx
  exact b.free c o' e1 (a.free c ob q n hx) hx
 there:=λc ob q hx=>by
  obtain ⟨o',e1⟩:=a.there c ob q hx
  exact b.there c o' e1 hx
 tups:=λc xs q=>b.tups c xs (a.tups c xs q)
 frzs:=λc ob xs q=>b.frzs c ob xs (a.frzs c ob xs q)
 tbls:=λc ps q=>by
  obtain ⟨m1,e1⟩:=a.tbls c ps q
  obtain ⟨m2,e2⟩:=b.tbls c _ e1
  exact ⟨m1++m2,by rw [e2,Array.append_assoc]⟩
theorem Un.kept (k:∀ b u,h.get? b=some u->h'.get? b=some u):Un fs ex H H h h':=
 ⟨λb ob q _ _ _=>k b ob q,λb ob q _ _ _=>⟨ob.slots,k b ob q⟩,λ_ _ _ n _=>n,λb ob q _=>⟨ob,k b ob q⟩,λ_ _ q=>q,λ_ _ _ q=>q,λ_ ps q=>⟨#[],by rw [q]; simp⟩⟩
theorem Un.refl:Un fs ex H H h h:=Un.kept λ_ _ q=>q
theorem Un.laid (k:∀ b u,h.get? b=some u->h'.get? b=some u) (hp:h.objs.size<=a) (hn:H a=none):Un fs ex H (upd H a o) h h' where
 keep:=λb u q _ _ _=>k b u q
 slot:=λb u q _ _ _=>⟨u.slots,k b u q⟩
 free:=λb u q n _=>by rw [zh (Nat.ne_of_lt (Nat.lt_of_lt_of_le (Heap.lt_size q) hp))]; exact n
 there:=λb u q _=>⟨u,k b u q⟩
 tups:=λb xs q=>by rw [zh (x9 q hn)]; exact q
 frzs:=λb u xs q=>by rw [zh (x9 q hn)]; exact q
 tbls:=λb ps q=>⟨#[],by rw [zh (x9 q hn),q]; simp⟩
theorem Un.write (mu:Z4 (H x)) (he:e=x\/H e=some (.own x)) (k:∀ b u,b≠e->h.get? b=some u->h'.get? b=some u) (heo:∃ u,h'.get? e=some u):Un fs ex H (upd H x o) h h':=by
 have hx:∀ b,H b=none->b≠x:=λb n z=>by subst z; rw [n] at mu; exact mu
 have hb:∀ b,H b=none->b≠e:=λb n z=>by
  subst z
  rcases he with r | r
  ·exact hx b n r
  ·rw [n] at r; cases r
 have hm:∀ b u,H b=some u->¬ Z4 (some u)->b≠x:=λb u q nm z=>by subst z; rw [q] at mu; exact nm mu
 refine ⟨λb u q n _ _=>k b u (hb b n) q,λb u q n _ _=>⟨u.slots,k b u (hb b n) q⟩,λb u q n _=>by rw [zh (hx b n)]; exact n,λb u q _=>?_,
  λb xs q=>by rw [zh (hm b _ q λz=>z)]; exact q,λb u xs q=>by rw [zh (hm b _ q λz=>z)]; exact q,λb ps q=>⟨#[],by rw [zh (hm b _ q λz=>z),q]; simp⟩⟩
 by_cases hbe:b=e
 ·subst hbe; exact heo
 ·exact ⟨u,k b u hbe q⟩
theorem Un.mono (u:Un fs ex H H1 h h1) (hs:∀ b∈fs,b∈fs') (hx:∀ b∈ex,b∈ex'):Un fs' ex' H H1 h h1:=
 ⟨λb ob q n hb he=>u.keep b ob q n (λz=>hb (hs b z)) λz=>he (hx b z),λ_ _ q n _ he=>u.any q n λz=>he (hx _ z),λb ob q n he=>u.free b ob q n λz=>he (hx b z),λb ob q he=>u.there b ob q λz=>he (hx b z),u.tups,u.frzs,u.tbls⟩
end
def vx (h:Heap) (H:Hp):List Addr:=(List.range h.objs.size).filter λa=>(H a).isSome
def xR (h:Heap) (H:Hp):Heap:=PySem.W.hideAll h (vx h H)
theorem zKG (h:Heap) (H:Hp):(xR h H).objs.size=h.objs.size:=PySem.W.hideAll_size _ _
theorem zLy {h:Heap} {H:Hp} {b:Addr} {o:Obj} (e:h.get? b=some o) (n:H b=none):(xR h H).get? b=some o:=
 PySem.W.hideAll_get _ e λhm=>by
  have q:(H b).isSome=true:=(List.mem_filter.mp hm).2
  rw [n] at q; simp at q
theorem zNX {h:Heap} {H:Hp} {b:Addr} {o:Obj} (e:(xR h H).get? b=some o):h.get? b=some o/\H b=none:=by
 have e':h.get? b=some o:=PySem.W.of_hideAll (vx h H) e
 refine ⟨e',?_⟩
 cases q:H b with
 | none=>rfl
 | some x=>
  have hm:b∈vx h H:=List.mem_filter.mpr ⟨List.mem_range.mpr (Heap.lt_size e'),by simp [q]⟩
  have z:(xR h H).get? b=none:=PySem.W.hideAll_none (vx h H) hm
  rw [z] at e; cases e
def zN1 (g h:Heap) (L:Addr):List (Addr × Obj):=(List.range h.objs.size).filterMap λa=>if a=L\/(g.get? a).isSome=true then none else (h.get? a).map λo=>(a,o)
def zx (g h:Heap) (L d:Addr):List (Addr × Obj):=(zN1 g h L).filter λp=>decide (p.1≠d)
end L2
namespace L2
open PySem PySem.Spec PyProof.Rows
structure Mod (K:PySem.W.Frag) (mg:Str->Option Value) (base:Heap):Prop where
 kin:K.In base
 glob:base.Ns mainGlobals mg
 blt:∃ mb,base.Ns builtinsNs mb/\∀ x:Str,x≠"__name__"->mb x=bootBuiltins x
 nolimit:base.NoLimit
structure Cx where
 prog:Program
 w:World
 K:PySem.W.Frag
 mg:Str->Option Value
 base:Heap
 A:Around
 N:List Str
 s₀:Shared
 H₀:Hp
 env:Env
 outer:List Env
 stack:List Env
 ex:List Addr
 fn:Str->Bool
 calm:Bool
 pn:List (Addr × Obj)
 xe:Value->Shared->Prop
def xg (l:List Env):List Addr:=l.filterMap (·.frame)
abbrev Cx.fs (X:Cx):List Addr:=xg X.outer
def qF (sc:Scope) (x:Str):Prop:=sc.names.lookup x=some .local\/sc.names.lookup x=some .cell\/sc.names.lookup x=some .free
def uF (sc:Scope) (x:Str):Prop:=sc.names.lookup x=some .local\/sc.names.lookup x=some .cell
def Xi (env:Env) (h:Heap) (m:Str->Option Value) (x:Str) (u:Value):Prop:=
 (env.kindOf x=some .local/\m x=some u)\/((env.kindOf x=some .cell\/env.kindOf x=some .free)/\∃ c,env.cells.lookup x=some c/\h.IsCell c (some u))
structure Cx.Ok (X:Cx):Prop where
 mod:Mod X.K X.mg X.base
 kind:X.env.scope.kind=.function
 glob:X.env.globals=mainGlobals
 blt:X.env.builtins=builtinsNs
 above:X.s₀.heap.objs.size<=X.env.locals
 inj:∀ x y c,X.env.cells.lookup x=some c->X.env.cells.lookup y=some c->x=y
 has:∀ x,(X.env.kindOf x=some .cell\/X.env.kindOf x=some .free)->∃ c,X.env.cells.lookup x=some c
 cab:∀ x c,X.fn x=true->X.env.cells.lookup x=some c->X.s₀.heap.objs.size<=c
 hd:X.calm=true->X.A.handled=none
 frames:X.A.frames=some X.stack
 stk:X.stack=X.outer\/(X.stack=X.env :: X.outer/\X.env.frame=some X.env.locals)
 exf:∀ b∈X.ex,b≠X.env.locals/\∀ x c,X.env.cells.lookup x=some c->c≠b
 bs:∀ b o,X.base.get? b=some o->X.s₀.heap.get? b=some o/\X.H₀ b=none
 bsz:X.base.objs.size<=X.s₀.heap.objs.size
 noex:∀ b o,X.base.get? b=some o->b∉X.ex
 exfs:∀ b∈X.ex,b∉X.fs
 funs:X.s₀.heap.FunFrames X.base X.outer
 frf:∀ b∈X.fs,X.H₀ b=none
structure zD (X:Cx) (pins:List (Addr × Obj)) (σ:List (Option V)) (H:Hp) (s:Shared):Prop where
 ok:X.Ok
 os:s.os=X.s₀.os
 bare:AllBare s.gens
 base:Un X.fs X.ex X.H₀ H X.s₀.heap s.heap
 loc:∃ m,s.heap.Ns X.env.locals m/\∀ (i:Nat) (x:Str) (v:V),X.N[i]? = some x->σ[i]? = some (some v)->qF X.env.scope x->∃ u,zN v u/\Xi X.env s.heap m x u
 cell:∀ x c,X.env.cells.lookup x=some c->∃ v,s.heap.IsCell c v
 free:H X.env.locals=none
 freeC:∀ x c,X.env.cells.lookup x=some c->H c=none
 pin:∀ p∈X.pn++pins,s.heap.get? p.1=some p.2/\H p.1=none/\p.1≠X.env.locals/\p.1∉X.fs/\∀ v,p.2.data≠.cell v
 hok:yh X.prog X.w H s.heap
 len:σ.length=X.N.length
section
variable {X:Cx} {pins:List (Addr × Obj)} {σ:List (Option V)} {H H':Hp} {s:Shared} {h':Heap}
theorem Cx.Ok.nofr (ok:X.Ok) {b:Addr} {o:Obj} (e:X.base.get? b=some o):b∉X.fs:=λhb=>by
 have:=(ok.funs.mem hb).1
 rw [e] at this; cases this
theorem zD.bs (I:zD X pins σ H s):∀ b o,X.base.get? b=some o->s.heap.get? b=some o/\H b=none:=λb o e=>
 ⟨I.base.keep b o (I.ok.bs b o e).1 (I.ok.bs b o e).2 (I.ok.nofr e) (I.ok.noex b o e),I.base.free b o (I.ok.bs b o e).1 (I.ok.bs b o e).2 (I.ok.noex b o e)⟩
theorem zD.bk (I:zD X pins σ H s):∀ b o,X.base.get? b=some o->s.heap.get? b=some o:=λb o e=>(I.bs b o e).1
theorem zD.mod (I:zD X pins σ H s):Mod X.K X.mg X.base:=I.ok.mod
theorem zD.kIn (I:zD X pins σ H s):X.K.In s.heap:=I.ok.mod.kin.keeps I.bk
theorem zD.nolimit (I:zD X pins σ H s):s.heap.NoLimit:=I.ok.mod.nolimit.keeps I.bk
theorem zD.fr (I:zD X pins σ H s):∃ m,Fr X.base X.env.locals s.heap m:=
 let ⟨m,hn,_⟩:=I.loc
 ⟨m,hn,I.bk,Nat.le_trans I.ok.bsz I.ok.above⟩
theorem zD.lt (I:zD X pins σ H s):X.env.locals < s.heap.objs.size:=let ⟨_,hn,_⟩:=I.loc; hn.lt
theorem zD.sz (I:zD X pins σ H s):X.s₀.heap.objs.size<=s.heap.objs.size:=Nat.le_trans I.ok.above (Nat.le_of_lt I.lt)
theorem zD.nofs (I:zD X pins σ H s) {a:Addr} (h:s.heap.objs.size<=a):a∉X.fs:=λhb=>by
 obtain ⟨_,o,ho,_⟩:=I.ok.funs.mem hb
 exact absurd (Nat.lt_of_lt_of_le (Heap.lt_size ho) (Nat.le_trans I.sz h)) (Nat.lt_irrefl _)
theorem zD.cne (I:zD X pins σ H s):∀ x c,X.env.cells.lookup x=some c->c≠X.env.locals:=λx c e z=>by
 obtain ⟨v,o,ho,hd⟩:=I.cell x c e
 obtain ⟨m,⟨o',es,ep,ho',hd',_⟩,_⟩:=I.loc
 rw [z,ho'] at ho; cases ho; rw [hd'] at hd; cases hd
theorem zD.funs (I:zD X pins σ H s):s.heap.FunFrames X.base X.outer:=by
 have all:∀ (l:List Env),(∀ b∈xg l,b∈X.fs)->X.s₀.heap.FunFrames X.base l->s.heap.FunFrames X.base l:=by
  intro l
  induction l with
  | nil=>intro _ _; trivial
  | cons env r ih=>
   intro hs hl
   obtain ⟨hk,⟨L,o,hf,hn,ho,hd⟩,hr⟩:=hl
   have hL:L∈X.fs:=hs L (by unfold xg; rw [List.filterMap_cons,hf]; exact List.mem_cons_self)
   obtain ⟨sl,e⟩:=I.base.slot L o ho (I.ok.frf L hL) hL λz=>I.ok.exfs L z hL
   exact ⟨hk,⟨L,_,hf,hn,e,hd⟩,ih (λb hb=>hs b (by unfold xg; rw [List.filterMap_cons,hf]; exact List.mem_cons_of_mem _ hb)) hr⟩
 exact all X.outer (λ_ hb=>hb) I.ok.funs
theorem zD.stack (I:zD X pins σ H s):s.heap.FunFrames X.base X.stack:=by
 rcases I.ok.stk with e | ⟨e,hf⟩
 ·rw [e]; exact I.funs
 ·rw [e]
  obtain ⟨m,hn,_⟩:=I.loc
  refine .cons (by rw [I.ok.kind]; decide) hf hn ?_ I.funs
  exact Heap.get?_none_of_le (Nat.le_trans I.ok.bsz I.ok.above)
theorem zD.stkSub (I:zD X pins σ H s):∀ b∈xg X.stack,b∈X.env.locals :: X.fs:=λb hb=>by
 rcases I.ok.stk with e | ⟨e,hf⟩
 ·rw [e] at hb; exact List.mem_cons_of_mem _ hb
 ·rw [e] at hb
  unfold xg at hb
  rw [List.filterMap_cons,hf] at hb
  exact hb
theorem zD.stkFree (I:zD X pins σ H s):∀ b∈xg X.stack,H b=none:=λb hb=>by
 rcases List.mem_cons.mp (I.stkSub b hb) with e | hb
 ·rw [e]; exact I.free
 ·obtain ⟨_,o,ho,_⟩:=I.ok.funs.mem hb
  exact I.base.free b o ho (I.ok.frf b hb) λz=>I.ok.exfs b z hb
theorem zD.step {g':Array GenState} {t':Nat} {d':Drawn} {ch:List Addr} (I:zD X pins σ H s)
  (hch:∀ b∈ch,(b∈X.ex\/X.s₀.heap.objs.size<=b)/\b≠X.env.locals/\(∀ x c,X.env.cells.lookup x=some c->c≠b)/\∀ p∈X.pn++pins,p.1≠b)
  (keep:∀ b o,b≠X.env.locals->b∉X.fs->b∉ch->s.heap.get? b=some o->H b=none->h'.get? b=some o)
  (slot:∀ b o,b≠X.env.locals->b∈X.fs->b∉ch->s.heap.get? b=some o->H b=none->∃ sl,h'.get? b=some { o with slots:=sl }) (free:∀ b o,b∉ch->s.heap.get? b=some o->H b=none->H' b=none)
  (there:∀ b o,b∉ch->s.heap.get? b=some o->∃ o',h'.get? b=some o')
  (tups:∀ b xs,H b=some (.tup xs)->H' b=some (.tup xs)) (frzs:∀ b o u,H b=some (.frz o u)->H' b=some (.frz o u)) (tbls:∀ b ps,H b=some (.tbl ps)->∃ more,H' b=some (.tbl (ps++more)))
  (ns:∀ m,s.heap.Ns X.env.locals m->h'.Ns X.env.locals m) (hok:yh X.prog X.w H' h') (hg:AllBare g') :
  zD X pins σ H' { s with heap:=h',gens:=g',drawn:=d',toks:=t' }:=by
 have neL:∀ b o,X.s₀.heap.get? b=some o->b≠X.env.locals:=λb o e=>Nat.ne_of_lt (Nat.lt_of_lt_of_le (Heap.lt_size e) I.ok.above)
 have neC:∀ b o,X.s₀.heap.get? b=some o->b∉X.ex->b∉ch:=λb o e hx hb=>by
  rcases (hch b hb).1 with z | z
  ·exact hx z
  ·exact absurd (Nat.lt_of_lt_of_le (Heap.lt_size e) z) (Nat.lt_irrefl _)
 have cellK:∀ x c,X.env.cells.lookup x=some c->∀ v,s.heap.IsCell c v->h'.IsCell c v:=λx c e v ⟨o,ho,hd⟩=>by
  have nch:c∉ch:=λz=>(hch c z).2.2.1 x c e rfl
  by_cases hc:c∈X.fs
  ·obtain ⟨sl,q⟩:=slot c o (I.cne x c e) hc nch ho (I.freeC x c e)
   exact ⟨_,q,hd⟩
  ·exact ⟨o,keep c o (I.cne x c e) hc nch ho (I.freeC x c e),hd⟩
 refine ⟨I.ok,I.os,hg,⟨λb o e n hb hx=>?_,λb o e n hb hx=>?_,λb o e n hx=>?_,λb o e hx=>?_,λb xs e=>tups b xs (I.base.tups b xs e),λb o xs e=>frzs b o xs (I.base.frzs b o xs e),λb ps e=>?_⟩,?_,λx c e=>?_,?_,λx c e=>?_,λp hp=>?_,hok,I.len⟩
 ·exact keep b o (neL b o e) hb (neC b o e hx) (I.base.keep b o e n hb hx) (I.base.free b o e n hx)
 ·obtain ⟨sl,e1⟩:=I.base.slot b o e n hb hx
  obtain ⟨sl',e2⟩:=slot b _ (neL b o e) hb (neC b o e hx) e1 (I.base.free b o e n hx)
  exact ⟨sl',e2⟩
 ·obtain ⟨o',e1⟩:=I.base.there b o e hx
  exact free b o' (neC b o e hx) e1 (I.base.free b o e n hx)
 ·obtain ⟨o',e1⟩:=I.base.there b o e hx
  exact there b o' (neC b o e hx) e1
 ·obtain ⟨m1,e1⟩:=I.base.tbls b ps e
  obtain ⟨m2,e2⟩:=tbls b _ e1
  exact ⟨m1++m2,by rw [e2,Array.append_assoc]⟩
 ·obtain ⟨m,hn,hl⟩:=I.loc
  refine ⟨m,ns m hn,λi x v e1 e2 e3=>?_⟩
  obtain ⟨u,r,l⟩:=hl i x v e1 e2 e3
  refine ⟨u,r,?_⟩
  rcases l with l | ⟨k,c,e,z⟩
  ·exact .inl l
  ·exact .inr ⟨k,c,e,cellK x c e _ z⟩
 ·obtain ⟨v,z⟩:=I.cell x c e
  exact ⟨v,cellK x c e v z⟩
 ·obtain ⟨m,⟨o,_,_,ho,_⟩,_⟩:=I.loc
  exact free _ o (λz=>(hch _ z).2.1 rfl) ho I.free
 ·obtain ⟨v,o,ho,hd⟩:=I.cell x c e
  exact free c o (λz=>(hch c z).2.2.1 x c e rfl) ho (I.freeC x c e)
 ·obtain ⟨e,n,ne,nf,d⟩:=I.pin p hp
  have nch:p.1∉ch:=λz=>(hch p.1 z).2.2.2 p hp rfl
  exact ⟨keep p.1 p.2 ne nf nch e n,free p.1 p.2 nch e n,ne,nf,d⟩
theorem zD.un {t':Nat} (I:zD X pins σ H s) (u:Un X.fs [] H H' s.heap h') (hok:yh X.prog X.w H' h'):zD X pins σ H' { s with heap:=h',toks:=t' }:=by
 obtain ⟨m,⟨o,es,ep,ho,r⟩,_⟩:=id I.loc
 obtain ⟨sl,hL⟩:=u.any ho I.free (by simp)
 exact I.step (g':=s.gens) (d':=s.drawn) (ch:=[]) (λ_ z=>nomatch z) (λb o _ hb _ e n=>u.keep b o e n hb (by simp)) (λb o _ hb _ e n=>u.slot b o e n hb (by simp)) (λb o _ e n=>u.free b o e n (by simp)) (λb o _ e=>u.there b o e (by simp)) u.tups u.frzs u.tbls (λm' hm=>by
  obtain ⟨o',es',ep',ho',r'⟩:=hm
  rw [ho] at ho'; cases ho'
  exact ⟨_,es',ep',hL,r'⟩) hok I.bare
theorem zD.call {g':Array GenState} {t':Nat} {d':Drawn} {ch:List Addr} (I:zD X pins σ H s) (u:Un (xg X.stack) ch H H' s.heap h') (hok:yh X.prog X.w H' h') (hg:AllBare g')
  (hch:∀ b∈ch,(b∈X.ex\/X.s₀.heap.objs.size<=b)/\b≠X.env.locals/\(∀ x c,X.env.cells.lookup x=some c->c≠b)/\∀ p∈X.pn++pins,p.1≠b) :
  zD X pins σ H' { s with heap:=h',gens:=g',drawn:=d',toks:=t' }:=by
 obtain ⟨m,⟨o,es,ep,ho,r⟩,_⟩:=id I.loc
 obtain ⟨sl,hL⟩:=u.any ho I.free λz=>(hch _ z).2.1 rfl
 exact I.step (ch:=ch) hch (λb o hL hb hc e n=>u.keep b o e n (λz=>(List.mem_cons.mp (I.stkSub b z)).elim hL hb) hc) (λb o _ _ hc e n=>u.any e n hc) (λb o hc e n=>u.free b o e n hc) (λb o hc e=>u.there b o e hc) u.tups u.frzs u.tbls (λm' hm=>by
  obtain ⟨o',es',ep',ho',r'⟩:=hm
  rw [ho] at ho'; cases ho'
  exact ⟨_,es',ep',hL,r'⟩) hok hg
theorem zD.turned {t':Nat} {it:Addr} (I:zD X pins σ H s) (k:∀ b o,b≠it->s.heap.get? b=some o->h'.get? b=some o) (hn:H it=none) (hL:it≠X.env.locals)
  (h1:it∈X.ex\/X.s₀.heap.objs.size<=it) (h2:∀ x c,X.env.cells.lookup x=some c->c≠it) (h3:∀ p∈X.pn++pins,p.1≠it):zD X pins σ H { s with heap:=h',toks:=t' }:=by
 have nit:∀ b u,H b=some u->b≠it:=λb u e z=>by rw [z,hn] at e; cases e
 refine I.step (g':=s.gens) (d':=s.drawn) (ch:=[it]) (λb hb=>?_) (λb o _ _ hc e _=>k b o (λz=>hc (by simp [z])) e) (λb o _ _ hc e _=>⟨o.slots,k b o (λz=>hc (by simp [z])) e⟩) (λ_ _ _ _ n=>n)
  (λb o hc e=>⟨o,k b o (λz=>hc (by simp [z])) e⟩) (λ_ _ e=>e) (λ_ _ _ e=>e) (λb ps e=>⟨#[],by rw [e]; simp⟩) (λm hm=>?_) (λb u e=>?_) I.bare
 ·have e:b=it:=by simpa using hb
  subst e
  exact ⟨h1,hL,h2,h3⟩
 ·obtain ⟨o,es,ep,ho,r⟩:=hm
  exact ⟨o,es,ep,k _ o (Ne.symm hL) ho,r⟩
 ·refine (I.hok b u e).stay (λc v hc q=>k c v ?_ q) (λ_ q=>q) λ_ _ q=>q
  rcases hc with z | z
  ·rw [z]; exact nit b u e
  ·exact nit c _ z
theorem zD.tok (I:zD X pins σ H s) (t:Nat):zD X pins σ H { s with toks:=t }:=I.un (h':=s.heap) (t':=t) Un.refl I.hok
theorem zD.kept {t':Nat} (I:zD X pins σ H s) (k:∀ b u,s.heap.get? b=some u->h'.get? b=some u):zD X pins σ H { s with heap:=h',toks:=t' }:=I.un (Un.kept k) (I.hok.kept k)
theorem zD.laid {a:Addr} {o:HO} {t':Nat} (I:zD X pins σ H s) (k:∀ b u,s.heap.get? b=some u->h'.get? b=some u) (hp:s.heap.objs.size<=a) (new:xM X.prog X.w (upd H a o) h' a o) :
  zD X pins σ (upd H a o) { s with heap:=h',toks:=t' }:=I.un (Un.laid k hp (I.hok.fresh hp)) (I.hok.laid k hp new)
theorem zD.write {x e:Addr} {o:HO} {t':Nat} (I:zD X pins σ H s) (mu:Z4 (H x)) (he:e=x\/H e=some (.own x)) (k:∀ b u,b≠e->s.heap.get? b=some u->h'.get? b=some u) (heo:∃ u,h'.get? e=some u)
  (new:xM X.prog X.w (upd H x o) h' x o):zD X pins σ (upd H x o) { s with heap:=h',toks:=t' }:=I.un (Un.write mu he k heo) (I.hok.write mu he k heo new)
theorem zD.pins_of {pins':List (Addr × Obj)} (I:zD X pins σ H s) (h:∀ p∈pins',s.heap.get? p.1=some p.2/\H p.1=none/\p.1≠X.env.locals/\p.1∉X.fs/\∀ v,p.2.data≠.cell v):zD X pins' σ H s:=
 ⟨I.ok,I.os,I.bare,I.base,I.loc,I.cell,I.free,I.freeC,λp hp=>(List.mem_append.mp hp).elim (λz=>I.pin p (List.mem_append_left _ z)) (h p),I.hok,I.len⟩
theorem Jr {N:List Str} (hN:N.Nodup) {i j:Nat} {x:Str} (a:N[i]? = some x) (b:N[j]? = some x):i=j:=by
 obtain ⟨h1,e1⟩:=List.getElem?_eq_some_iff.mp a
 obtain ⟨h2,e2⟩:=List.getElem?_eq_some_iff.mp b
 exact (List.getElem_inj hN).mp (e1.trans e2.symm)
theorem Xj {M:Model} {A:Around} {E:Value->Shared->Prop} {i:Nat} {x:Str} {v:V} {u:Value} {Q:Unit->Shared->Prop} (I:zD X pins σ H s) (hN:X.N.Nodup) (hi:X.N[i]? = some x) (hx:uF X.env.scope x) (r:zN v u)
  (h:∀ s',zD X pins (σ.set i (some v)) H s'->(∃ a,Heap.SameBut a s.heap s'.heap/\(a=X.env.locals\/X.env.cells.lookup x=some a))->Q () s') (hf:X.fn x=true\/X.env.scope.names.lookup x=some .local:=by first | exact .inl rfl | exact .inr rfl | assumption):wpAny M A (storeName X.env x u) Q E s:=by
 obtain ⟨m,hn,hl⟩:=id I.loc
 have hcls:(X.env.scope.kind == .class || (X.env.scope.kind == .module && X.env.locals != X.env.globals))=false:=by rw [I.ok.kind]; rfl
 have hiσ:i < σ.length:=by rw [I.len]; exact (List.getElem?_eq_some_iff.mp hi).1
 have cne:=I.cne
 have tracked:∀ {a:Addr} {h':Heap},(∃ o,s.heap.get? a=some o/\H a=none)->Heap.SameBut a s.heap h'->yh X.prog X.w H h':=λ{a h'} ha hs b ob e=>by
  obtain ⟨_,_,hfree⟩:=ha
  refine (I.hok b ob e).stay (λc w' hc q=>(hs.2 c ?_).trans q) (λ_ q=>q) λ_ _ q=>q
  rintro rfl
  rcases hc with rfl | hc
  ·rw [hfree] at e; cases e
  ·rw [hfree] at hc; cases hc
 rcases hx with hk | hk
 ·refine wpAny_storeName_local hk hn (λh' hn' hs=>?_) hcls
  obtain ⟨oL,_,_,hoL,_⟩:=id hn
  refine h _ ⟨I.ok,I.os,I.bare,⟨λb o e n hb hx=>?_,λb o e n hb hx=>?_,I.base.free,λb o e hx=>?_,I.base.tups,I.base.frzs,I.base.tbls⟩,⟨_,hn',λj y v' e1 e2 e3=>?_⟩,λy c e=>?_,I.free,I.freeC,λp hp=>?_,tracked ⟨oL,hoL,I.free⟩ hs,by simpa using I.len⟩ ⟨_,hs,.inl rfl⟩
  ·exact (hs.2 b (Nat.ne_of_lt (Nat.lt_of_lt_of_le (Heap.lt_size e) I.ok.above))).trans (I.base.keep b o e n hb hx)
  ·obtain ⟨sl,e1⟩:=I.base.slot b o e n hb hx
   exact ⟨sl,(hs.2 b (Nat.ne_of_lt (Nat.lt_of_lt_of_le (Heap.lt_size e) I.ok.above))).trans e1⟩
  ·obtain ⟨o',e1⟩:=I.base.there b o e hx
   exact ⟨o',(hs.2 b (Nat.ne_of_lt (Nat.lt_of_lt_of_le (Heap.lt_size e) I.ok.above))).trans e1⟩
  ·by_cases hj:j=i
   ·subst hj
    rw [hi] at e1; cases e1
    rw [List.getElem?_set_self hiσ] at e2
    cases e2
    exact ⟨u,r,.inl ⟨hk,by simp⟩⟩
   ·rw [List.getElem?_set_ne (Ne.symm hj)] at e2
    obtain ⟨u',r',q⟩:=hl j y v' e1 e2 e3
    refine ⟨u',r',?_⟩
    rcases q with ⟨k,e⟩ | ⟨k,c,e,z⟩
    ·refine .inl ⟨k,?_⟩
     have:y≠x:=λe=>hj (Jr hN e1 (e ▸ hi))
     simp [this,e]
    ·exact .inr ⟨k,c,e,z.sameBut hs (cne y c e)⟩
  ·obtain ⟨w',z⟩:=I.cell y c e
   exact ⟨w',z.sameBut hs (cne y c e)⟩
  ·obtain ⟨e,n,ne,nf,d⟩:=I.pin p hp
   exact ⟨(hs.2 p.1 ne).trans e,n,ne,nf,d⟩
 ·have hfn:X.fn x=true:=by
   rcases hf with z | z
   ·exact z
   ·rw [z] at hk; cases hk
  obtain ⟨c,hc⟩:=I.ok.has x (.inl hk)
  obtain ⟨w',z⟩:=I.cell x c hc
  refine wpAny_storeName_cell I.ok.kind hk hc z (λh' hc' hs=>?_)
  obtain ⟨oc,hoc,hocd⟩:=id z
  refine h { s with heap:=h' } ⟨I.ok,I.os,I.bare,⟨λb o e n hb hx=>?_,λb o e n hb hx=>?_,I.base.free,λb o e hx=>?_,I.base.tups,I.base.frzs,I.base.tbls⟩,⟨m,hn.sameBut hs (Ne.symm (cne x c hc)),λj y v' e1 e2 e3=>?_⟩,λy c' e=>?_,I.free,I.freeC,λp hp=>?_,tracked ⟨oc,hoc,I.freeC x c hc⟩ hs,by simpa using I.len⟩ ⟨c,hs,.inr hc⟩
  ·exact (hs.2 b (Nat.ne_of_lt (Nat.lt_of_lt_of_le (Heap.lt_size e) (I.ok.cab x c hfn hc)))).trans (I.base.keep b o e n hb hx)
  ·obtain ⟨sl,e1⟩:=I.base.slot b o e n hb hx
   exact ⟨sl,(hs.2 b (Nat.ne_of_lt (Nat.lt_of_lt_of_le (Heap.lt_size e) (I.ok.cab x c hfn hc)))).trans e1⟩
  ·obtain ⟨o',e1⟩:=I.base.there b o e hx
   exact ⟨o',(hs.2 b (Nat.ne_of_lt (Nat.lt_of_lt_of_le (Heap.lt_size e) (I.ok.cab x c hfn hc)))).trans e1⟩
  ·by_cases hj:j=i
   ·subst hj
    rw [hi] at e1; cases e1
    rw [List.getElem?_set_self hiσ] at e2
    cases e2
    exact ⟨u,r,.inr ⟨.inl hk,c,hc,hc'⟩⟩
   ·rw [List.getElem?_set_ne (Ne.symm hj)] at e2
    obtain ⟨u',r',q⟩:=hl j y v' e1 e2 e3
    refine ⟨u',r',?_⟩
    rcases q with q | ⟨k,c',e,z'⟩
    ·exact .inl q
    ·refine .inr ⟨k,c',e,z'.sameBut hs ?_⟩
     rintro rfl
     exact hj (Jr hN e1 (I.ok.inj _ _ _ e hc ▸ hi))
  ·by_cases hcc:c'=c
   ·subst hcc; exact ⟨_,hc'⟩
   ·obtain ⟨w2,z2⟩:=I.cell y c' e
    exact ⟨w2,z2.sameBut hs hcc⟩
  ·obtain ⟨e,n,ne,nf,d⟩:=I.pin p hp
   refine ⟨(hs.2 p.1 ?_).trans e,n,ne,nf,d⟩
   intro q
   rw [q,hoc] at e
   have q':oc=p.2:=Option.some.inj e
   exact d w' (by rw [<- q']; exact hocd)
theorem Js {M:Model} {A:Around} {E:Value->Shared->Prop} {i:Nat} {x:Str} {v:V} {u:Value} {Q:Unit->Shared->Prop} (I:zD X pins σ H s) (hN:X.N.Nodup) (hi:X.N[i]? = some x) (hx:uF X.env.scope x) (r:zN v u)
  (h:∀ s',zD X pins (σ.set i (some v)) H s'->Q () s') (hf:X.fn x=true\/X.env.scope.names.lookup x=some .local:=by first | exact .inl rfl | exact .inr rfl | assumption):wpAny M A (storeName X.env x u) Q E s:=
 Xj I hN hi hx r (λs' I' _=>h s' I') hf
theorem zD.call' {s':Shared} {ch:List Addr} (I:zD X pins σ H s) (ho:s'.os=s.os) (u:Un (xg X.stack) ch H H' s.heap s'.heap) (hok:yh X.prog X.w H' s'.heap) (hg:AllBare s'.gens)
  (hch:∀ b∈ch,(b∈X.ex\/X.s₀.heap.objs.size<=b)/\b≠X.env.locals/\(∀ x c,X.env.cells.lookup x=some c->c≠b)/\∀ p∈X.pn++pins,p.1≠b):zD X pins σ H' s':=by
 obtain ⟨h',g',d',t',o'⟩:=s'
 have e:o'=s.os:=ho
 subst e
 exact I.call (g':=g') (t':=t') (d':=d') u hok hg hch
end
abbrev XK:=Value->Option Addr->Hp->Prop
abbrev St:=List (Option V)
abbrev VK:=V->Hp->Prop
abbrev TE:=St->Hp->VK->Prop
abbrev TT:=St->Hp->(Bool->Hp->Prop)->Prop
abbrev TA:=St->Hp->(List V->Hp->Prop)->Prop
structure xS where
 nx:St->Hp->Prop
 rt:VK
 bk:St->Hp->Prop:=λ_ _=>False
 ct:St->Hp->Prop:=λ_ _=>False
abbrev TS:=xS->St->Hp->Prop
def EP (X:Cx) (pins:List (Addr × Obj)) (σ:St) (Q:VK) (u:Value) (s':Shared):Prop:=∃ v H',zD X pins σ H' s'/\zN v u/\Q v H'
def TP (X:Cx) (pins:List (Addr × Obj)) (σ:St) (Q:Bool->Hp->Prop) (b:Bool) (s':Shared):Prop:=∃ H',zD X pins σ H' s'/\Q b H'
def AP (X:Cx) (pins:List (Addr × Obj)) (σ:St) (Q:List V->Hp->Prop) (us:List Value) (s':Shared):Prop:=∃ vs H',zD X pins σ H' s'/\zK vs us/\Q vs H'
def SP (X:Cx) (pins:List (Addr × Obj)) (D:xS) (f:Flow) (s':Shared):Prop:=
 match f with
 | .next=>∃ σ' H',zD X pins σ' H' s'/\D.nx σ' H'
 | .brk=>∃ σ' H',zD X pins σ' H' s'/\D.bk σ' H'
 | .cont=>∃ σ' H',zD X pins σ' H' s'/\D.ct σ' H'
 | .ret u=>∃ v σ' H',zD X pins σ' H' s'/\zN v u/\D.rt v H'
def PE (X:Cx) (e:Expr) (t:TE):Prop:=
 ∀ (pins:List (Addr × Obj)) (s:Shared) (σ:St) (H:Hp) (Q:VK),zD X pins σ H s->t σ H Q->wpAny (model X.prog X.w) X.A (eval e X.env) (EP X pins σ Q) X.xe s
def PT (X:Cx) (e:Expr) (t:TT):Prop:=
 ∀ (pins:List (Addr × Obj)) (s:Shared) (σ:St) (H:Hp) (Q:Bool->Hp->Prop),zD X pins σ H s->t σ H Q->wpAny (model X.prog X.w) X.A (isTrue e X.env (eval e X.env)) (TP X pins σ Q) X.xe s
def PW (X:Cx) (e:Expr) (t:TT):Prop:=
 ∀ (whole:Sem Value) (pins:List (Addr × Obj)) (s:Shared) (σ:St) (H:Hp) (Q:Bool->Hp->Prop),zD X pins σ H s->t σ H Q->wpAny (model X.prog X.w) X.A (isTrue e X.env whole) (TP X pins σ Q) X.xe s
theorem PW.pt {X:Cx} {e:Expr} {t:TT} (h:PW X e t):PT X e t:=h _
def PA (X:Cx) (es:List Expr) (t:TA):Prop:=
 ∀ (pos:Pos) (pins:List (Addr × Obj)) (s:Shared) (σ:St) (H:Hp) (Q:List V->Hp->Prop),zD X pins σ H s->t σ H Q->wpAny (model X.prog X.w) X.A (spliced (backTo pos (starEach es X.env))) (AP X pins σ Q) X.xe s
def PS (X:Cx) (st:Stmt) (t:TS):Prop:=
 ∀ (pins:List (Addr × Obj)) (s:Shared) (σ:St) (H:Hp) (D:xS),zD X pins σ H s->t D σ H->wpAny (model X.prog X.w) X.A (exec st X.env) (SP X pins D) X.xe s
def yj (X:Cx) (st:List Stmt) (t:TS):Prop:=
 ∀ (pins:List (Addr × Obj)) (s:Shared) (σ:St) (H:Hp) (D:xS),zD X pins σ H s->t D σ H->wpAny (model X.prog X.w) X.A (execs st X.env) (SP X pins D) X.xe s
theorem zb {α:Type} {t:Sem α} {Q Q':α->Shared->Prop} {M:Model} {A:Around} {E:Value->Shared->Prop} {s:Shared} (h:wpAny M A t Q E s) (hQ:∀ a s,Q a s->Q' a s):wpAny M A t Q' E s:=wpAny_mono h hQ λ_ _ x=>x
end L2
namespace L2
open PySem PySem.Spec PyProof.Rows
section
variable {X:Cx}
def uG (i:Nat):TE:=λσ H Q=>∃ v,σ[i]? = some (some v)/\Q v H
def tC (v:V):TE:=λ_ H Q=>Q v H
theorem Xk {i:Nat} {x:Str} {pos:Pos} (hN:X.N[i]? = some x) (hv:qF X.env.scope x) (hd:(x == ("__debug__" : Str))=false:=by decide) (hcd:(x == ("__classdict__" : Str))=false:=by decide):PE X (.Name x pos) (uG i):=by
 intro pins s σ H Q I h
 obtain ⟨v,e,h⟩:=h
 obtain ⟨m,hn,hl⟩:=I.loc
 obtain ⟨u,r,l⟩:=hl i x v hN e hv
 have fin:EP X pins σ Q u s:=⟨v,H,I,r,h⟩
 rcases l with ⟨hk,hm⟩ | ⟨hk,c,hc,hcell⟩
 ·exact wpAny_Name (wpAny_loadName_local I.ok.kind hk hn hm fin) hd
 ·rcases hk with hk | hk
  ·exact wpAny_Name (wpAny_loadName_cell I.ok.kind hk hc hcell fin) hd
  ·exact wpAny_Name (wpAny_loadName_free I.ok.kind hk hc hcell fin hcd) hd
theorem zOw {i j pos}:PE X (.Constant (.int i) j pos) (tC (.int i)):=λ_ _ _ H _ I h=>wpAny_Constant_int ⟨.int i,H,I.tok _,⟨_,rfl⟩,h⟩
theorem qu {b j pos}:PE X (.Constant (.bool b) j pos) (tC (.bl b)):=λ_ _ _ H _ I h=>Constant_bool ⟨.bl b,H,I,rfl,h⟩
theorem Jt {j pos}:PE X (.Constant .none j pos) (tC .non):=λ_ _ _ H _ I h=>Constant_none ⟨.non,H,I,rfl,h⟩
theorem zOs {x j pos}:PE X (.Constant (.str x) j pos) (tC (.str x)):=λ_ _ _ H _ I h=>Calls.Constant_str ⟨.str x,H,I.tok _,⟨_,rfl⟩,h⟩
def Gl (X:Cx) (x:Str):Prop:=X.env.kindOf x=some .globalImplicit
theorem Xl {E:Value->Shared->Prop} {pins:List (Addr × Obj)} {s:Shared} {σ:St} {H:Hp} {x:Str} {u:Value} {pos:Pos} {Q:Value->Shared->Prop} (I:zD X pins σ H s) (hg:Gl X x) (hm:X.mg x=some u) (h:Q u s)
  (hd:(x == ("__debug__" : Str))=false:=by decide):wpAny (model X.prog X.w) X.A (eval (.Name x pos) X.env) Q E s:=
 Calls.Name_function_global I.ok.kind hg (Calls.loadGlobal_global (by rw [I.ok.glob]; exact I.mod.glob.keeps I.bk) hm h) hd
theorem ux {E:Value->Shared->Prop} {pins:List (Addr × Obj)} {s:Shared} {σ:St} {H:Hp} {x:Str} {u:Value} {pos:Pos} {Q:Value->Shared->Prop} (I:zD X pins σ H s) (hg:Gl X x) (hm:X.mg x=none) (hv:bootBuiltins x=some u) (h:Q u s)
  (hn:x≠"__name__":=by decide) (hd:(x == ("__debug__" : Str))=false:=by decide):wpAny (model X.prog X.w) X.A (eval (.Name x pos) X.env) Q E s:=by
 obtain ⟨mb,h1,h2⟩:=I.mod.blt
 exact Calls.Name_function_global I.ok.kind hg (Calls.loadGlobal_builtin (by rw [I.ok.glob]; exact I.mod.glob.keeps I.bk) hm (by rw [I.ok.blt]; exact h1.keeps I.bk) ((h2 x hn).trans hv) h) hd
theorem Ju {x:Str} {v:V} {u:Value} {pos:Pos} (hg:Gl X x) (hm:X.mg x=some u) (r:zN v u) (hd:(x == ("__debug__" : Str))=false:=by decide):PE X (.Name x pos) (tC v):=
 λ_ _ _ H _ I h=>Xl I hg hm ⟨v,H,I,r,h⟩ hd
theorem vW {x:Str} {v:V} {u:Value} {pos:Pos} (hg:Gl X x) (hm:X.mg x=none) (hv:bootBuiltins x=some u) (r:zN v u) (hn:x≠"__name__":=by decide) (hd:(x == ("__debug__" : Str))=false:=by decide):PE X (.Name x pos) (tC v):=
 λ_ _ _ H _ I h=>ux I hg hm hv ⟨v,H,I,r,h⟩ hn hd
variable {a b:Expr} {ta tb:TE} {pos:Pos}
def PC (X:Cx) (op:CmpOp) (a b:Expr) (t:TE):Prop:=
 ∀ (pins:List (Addr × Obj)) (s:Shared) (σ:St) (H:Hp) (Q:VK),zD X pins σ H s->t σ H Q->
  wpAny (model X.prog X.w) X.A (eval a X.env) (λv s₁=>wpAny (model X.prog X.w) X.A (eval b X.env) (λu s₂=>wpAny (model X.prog X.w) X.A (compareOp op v u) (EP X pins σ Q) X.xe s₂) X.xe s₁) X.xe s
def tB (t:TE):TT:=λσ H Q=>t σ H λx H1=>∃ c,x=.bl c/\Q c H1
theorem zOi {e:Expr} {t:TE} (h:PE X e t) (he:∀ whole,isTrue e X.env whole=(do let v <- whole; standAt e.pos; holding [v] (truthy v)):=by intro _; rfl):PT X e (tB t):=by
 intro pins s σ H Q I hw
 refine isTrue_plain (zb (h pins s σ H _ I hw) λv s1 ⟨x,H1,I1,r1,q1⟩=>?_) (he _)
 obtain ⟨d,rfl,q⟩:=q1
 cases r1
 exact wpAny_truthy_bool ⟨H1,I1,q⟩
variable {tA tB':TT} {zx:List Expr}
def Xm (t u:TT):TT:=λσ H Q=>t σ H λc H1=>if c=true then u σ H1 Q else Q false H1
def tOr (t u:TT):TT:=λσ H Q=>t σ H λc H1=>if c=true then Q true H1 else u σ H1 Q
def Xn (t:TT):TT:=λσ H Q=>t σ H λc H1=>Q (!c) H1
theorem zM2 (ha:PT X a tA):PW X (.BoolOp .And [a] pos) tA:=by
 intro wh pins s σ H Q I h
 refine isTrue_and (zb (ha pins s σ H Q I h) λc s1 e=>?_)
 cases c with
 | true=>exact isTrue_and_nil e
 | false=>exact e
theorem zOb (ha:PT X a tA):PW X (.BoolOp .Or [a] pos) tA:=by
 intro wh pins s σ H Q I h
 refine isTrue_or (zb (ha pins s σ H Q I h) λc s1 e=>?_)
 cases c with
 | false=>exact isTrue_or_nil e
 | true=>exact e
theorem zOc (ha:PT X a tA) (hb:PW X (.BoolOp .And (b :: zx) pos) tB'):PW X (.BoolOp .And (a :: b :: zx) pos) (Xm tA tB'):=by
 intro wh pins s σ H Q I h
 refine isTrue_and (zb (ha pins s σ H _ I h) λc s1 ⟨H1,I1,q1⟩=>?_)
 cases c with
 | true=>exact hb wh pins s1 σ H1 Q I1 q1
 | false=>exact ⟨H1,I1,q1⟩
theorem qv (ha:PT X a tA) (hb:PW X (.BoolOp .Or (b :: zx) pos) tB'):PW X (.BoolOp .Or (a :: b :: zx) pos) (tOr tA tB'):=by
 intro wh pins s σ H Q I h
 refine isTrue_or (zb (ha pins s σ H _ I h) λc s1 ⟨H1,I1,q1⟩=>?_)
 cases c with
 | true=>exact ⟨H1,I1,q1⟩
 | false=>exact hb wh pins s1 σ H1 Q I1 q1
theorem zOj (ha:PT X a tA):PT X (.UnaryOp .Not a pos) (Xn tA):=by
 intro pins s σ H Q I h
 exact isTrue_not (ha pins s σ H (λc H1=>Q (!c) H1) I h)
def qw (ta tb:TE):TE:=λσ H Q=>ta σ H λx H1=>∃ c,x=.bl c/\if c=true then tb σ H1 Q else Q (.bl false) H1
def Xo (ta tb:TE):TE:=λσ H Q=>ta σ H λx H1=>∃ c,x=.bl c/\if c=true then Q (.bl true) H1 else tb σ H1 Q
def qx (ta:TE):TE:=λσ H Q=>ta σ H λx H1=>∃ c,x=.bl c/\Q (.bl (!c)) H1
theorem zOt {op} {t:TE} (h:PE X a t):PE X (.BoolOp op [a] pos) t:=λpins s σ H Q I hw=>BoolOp_one (h pins s σ H Q I hw)
theorem zOz (ha:PE X a ta) (hb:PE X (.BoolOp .And (b :: zx) pos) tb):PE X (.BoolOp .And (a :: b :: zx) pos) (qw ta tb):=by
 intro pins s σ H Q I h
 refine BoolOp_and (zb (ha pins s σ H _ I h) λv s1 ⟨x,H1,I1,r1,q1⟩=>?_)
 obtain ⟨c,rfl,q1⟩:=q1
 cases r1
 refine wpAny_truthy_bool ?_
 cases c with
 | true=>exact hb pins s1 σ H1 Q I1 q1
 | false=>exact ⟨.bl false,H1,I1,rfl,q1⟩
theorem qy (ha:PE X a ta) (hb:PE X (.BoolOp .Or (b :: zx) pos) tb):PE X (.BoolOp .Or (a :: b :: zx) pos) (Xo ta tb):=by
 intro pins s σ H Q I h
 refine BoolOp_or (zb (ha pins s σ H _ I h) λv s1 ⟨x,H1,I1,r1,q1⟩=>?_)
 obtain ⟨c,rfl,q1⟩:=q1
 cases r1
 refine wpAny_truthy_bool ?_
 cases c with
 | false=>exact hb pins s1 σ H1 Q I1 q1
 | true=>exact ⟨.bl true,H1,I1,rfl,q1⟩
theorem zOu (ha:PE X a ta):PE X (.UnaryOp .Not a pos) (qx ta):=by
 intro pins s σ H Q I h
 refine UnaryOp_ (zb (ha pins s σ H _ I h) λv s1 ⟨x,H1,I1,r1,q1⟩=>?_)
 obtain ⟨c,rfl,q1⟩:=q1
 cases r1
 exact not_of (wpAny_truthy_bool ⟨.bl (!c),H1,I1,rfl,q1⟩)
def tIf (t:TT) (ta tb:TE):TE:=λσ H Q=>t σ H λc H1=>if c=true then ta σ H1 Q else tb σ H1 Q
theorem zLW {c:Expr} (hc:PT X c tA) (ha:PE X a ta) (hb:PE X b tb):PE X (.IfExp c a b pos) (tIf tA ta tb):=by
 intro pins s σ H Q I h
 refine wpAny_IfExp (zb (hc pins s σ H _ I h) λd s1 ⟨H1,I1,q1⟩=>?_)
 cases d with
 | true=>exact ha pins s1 σ H1 Q I1 q1
 | false=>exact hb pins s1 σ H1 Q I1 q1
end
end L2
namespace L2
open PySem PySem.Spec PyProof.Rows
def zV (K:PySem.W.Frag) (H:Hp) (a:Addr) (xs:List V):Prop:=
 Rd H a (.lst xs)∨
  ∃ (o:Obj) (its:Array Value) (n:Nat),K.lookup a=some o/\o.cls=.type "list"/\o.dict=none/\o.data=.seq its n/\its.size<=sizeLine/\zK xs its.toList
def zl (K:PySem.W.Frag) (H:Hp) (a:Addr) (xs:List V):Prop:=
 Rd H a (.tup xs)∨
  ∃ (o:Obj) (its:Array Value) (n:Nat),K.lookup a=some o/\o.cls=.type "tuple"/\o.data=.seq its n/\its.size<=sizeLine/\zK xs its.toList
def Xp:Value->Option V
 | .none=>some .non
 | .bool b=>some (.bl b)
 | .int i _=>some (.int i)
 | .str x _=>some (.str x)
 | .bytes b _=>some (.byt b)
 | .float b _=>some (.flt b)
 | .ref a=>some (.ref a)
 | .type n=>some (.ty n)
 | _=>none
theorem zN.abs {x:V} {u:Value} (r:zN x u):Xp u=some x:=by
 cases x with
 | non=>cases r; rfl
 | bl _=>cases r; rfl
 | int _=>obtain ⟨t,rfl⟩:=r; rfl
 | str _=>obtain ⟨t,rfl⟩:=r; rfl
 | byt _=>obtain ⟨t,rfl⟩:=r; rfl
 | flt _=>obtain ⟨t,rfl⟩:=r; rfl
 | ref _=>cases r; rfl
 | ty _=>cases r; rfl
theorem zN.inj {x y:V} {u:Value} (r:zN x u) (q:zN y u):x=y:=Option.some.inj (r.abs.symm.trans q.abs)
theorem zK.inj:∀ {xs ys:List V} {us:List Value},zK xs us->zK ys us->xs=ys
 | _,_,_,.nil,.nil=>rfl
 | _,_,_,.cons r t,.cons r' t'=>by rw [r.inj r',zK.inj t t']
section
variable {X:Cx} {pins:List (Addr × Obj)} {σ:St} {H:Hp} {s:Shared} {a:Addr} {xs ys:List V}
theorem zV.of {K:PySem.W.Frag} (h:H a=some (.lst xs)):zV K H a xs:=.inl (.inl h)
theorem zl.of {K:PySem.W.Frag} (h:H a=some (.tup xs)):zl K H a xs:=.inl (.inl h)
theorem zD.list (I:zD X pins σ H s) (h:zV X.K H a xs):∃ its:List Value,zK xs its/\PlainL s.heap a its.toArray/\xs.length<=sizeLine:=by
 rcases h with h | ⟨o,its,n,hk,hc,hd,hs,hz,r⟩
 ·obtain ⟨z,its,n,r,e⟩:=h.ok I.hok
  exact ⟨its,r,⟨_,n,e,rfl,rfl,rfl⟩,z⟩
 ·refine ⟨its.toList,r,⟨o,n,I.kIn a o hk,hc,hd,by simpa using hs⟩,?_⟩
  have e:=r.length
  simp only [Array.length_toList] at e
  omega
theorem zD.tuple (I:zD X pins σ H s) (h:zl X.K H a xs):∃ its:List Value,zK xs its/\IsTup s.heap a its.toArray/\xs.length<=sizeLine:=by
 rcases h with h | ⟨o,its,n,hk,hc,hs,hz,r⟩
 ·obtain ⟨z,its,r,p⟩:=h.ok I.hok
  exact ⟨its,r,p,z⟩
 ·refine ⟨its.toList,r,⟨o,I.kIn a o hk,hc,n,by simpa using hs⟩,?_⟩
  have e:=r.length
  simp only [Array.length_toList] at e
  omega
theorem zD.list_inj (I:zD X pins σ H s) (h:zV X.K H a xs) (h':zV X.K H a ys):xs=ys:=by
 obtain ⟨its,r,⟨o,n,e,_,_,d⟩,_⟩:=I.list h
 obtain ⟨its',r',⟨o',n',e',_,_,d'⟩,_⟩:=I.list h'
 rw [e] at e'; cases e'
 rw [d] at d'
 injection d' with d1 _
 have:its=its':=by simpa using congrArg Array.toList d1
 subst this
 exact r.inj r'
theorem zD.tuple_inj (I:zD X pins σ H s) (h:zl X.K H a xs) (h':zl X.K H a ys):xs=ys:=by
 obtain ⟨its,r,⟨o,e,_,n,d⟩,_⟩:=I.tuple h
 obtain ⟨its',r',⟨o',e',_,n',d'⟩,_⟩:=I.tuple h'
 rw [e] at e'; cases e'
 rw [d] at d'
 injection d' with d1 _
 have:its=its':=by simpa using congrArg Array.toList d1
 subst this
 exact r.inj r'
end
abbrev Cx.wish (X:Cx) (E:Value->Shared->Prop):Cx:={ X with xe:=E }
abbrev Cx.nox (X:Cx):Cx:=X.wish λ_ _=>False
theorem Cx.Ok.wish {X:Cx} (ok:X.Ok) (E:Value->Shared->Prop):(X.wish E).Ok:=
 ⟨ok.mod,ok.kind,ok.glob,ok.blt,ok.above,ok.inj,ok.has,ok.cab,ok.hd,ok.frames,ok.stk,ok.exf,ok.bs,ok.bsz,ok.noex,ok.exfs,ok.funs,ok.frf⟩
theorem Cx.Ok.unwish {X:Cx} {E:Value->Shared->Prop} (ok:(X.wish E).Ok):X.Ok:=
 ⟨ok.mod,ok.kind,ok.glob,ok.blt,ok.above,ok.inj,ok.has,ok.cab,ok.hd,ok.frames,ok.stk,ok.exf,ok.bs,ok.bsz,ok.noex,ok.exfs,ok.funs,ok.frf⟩
section
variable {X:Cx} {pins:List (Addr × Obj)} {σ:St} {H:Hp} {s:Shared} {E:Value->Shared->Prop}
theorem zD.wish (I:zD X pins σ H s) (E:Value->Shared->Prop):zD (X.wish E) pins σ H s:=⟨I.ok.wish E,I.os,I.bare,I.base,I.loc,I.cell,I.free,I.freeC,I.pin,I.hok,I.len⟩
theorem zD.unwish (I:zD (X.wish E) pins σ H s):zD X pins σ H s:=⟨I.ok.unwish,I.os,I.bare,I.base,I.loc,I.cell,I.free,I.freeC,I.pin,I.hok,I.len⟩
theorem SP.unwish {D:xS} {f:Flow} {s':Shared} (h:SP (X.wish E) pins D f s'):SP X pins D f s':=by
 cases f with
 | next=>obtain ⟨σ',H',I,q⟩:=h; exact ⟨σ',H',I.unwish,q⟩
 | brk=>obtain ⟨σ',H',I,q⟩:=h; exact ⟨σ',H',I.unwish,q⟩
 | cont=>obtain ⟨σ',H',I,q⟩:=h; exact ⟨σ',H',I.unwish,q⟩
 | ret u=>obtain ⟨v,σ',H',I,r,q⟩:=h; exact ⟨v,σ',H',I.unwish,r,q⟩
theorem PE.nox {e:Expr} {t:TE} (h:PE X.nox e t):PE X e t:=λpins s σ H Q I hw=>
 wpAny_mono (h pins s σ H Q (I.wish _) hw) (λ_ _ ⟨v,H',I',r,q⟩=>⟨v,H',I'.unwish,r,q⟩) λ_ _ z=>False.elim z
theorem PT.nox {e:Expr} {t:TT} (h:PT X.nox e t):PT X e t:=λpins s σ H Q I hw=>
 wpAny_mono (h pins s σ H Q (I.wish _) hw) (λ_ _ ⟨H',I',q⟩=>⟨H',I'.unwish,q⟩) λ_ _ z=>False.elim z
theorem yj.nox {st:List Stmt} {t:TS} (h:yj X.nox st t):yj X st t:=λpins s σ H D I hw=>
 wpAny_mono (h pins s σ H D (I.wish _) hw) (λ_ _ q=>q.unwish) λ_ _ z=>False.elim z
end
section
variable {X:Cx} {st:Stmt} {zx:List Stmt} {t u:TS} {e:Expr} {te:TE} {pos:Pos}
def qz:TS:=λD σ H=>D.nx σ H
def Xq (t u:TS):TS:=λD σ H=>t { D with nx:=u D } σ H
theorem zM7:yj X [] qz:=λ_ _ σ H _ I h=>wpAny_execs_nil ⟨σ,H,I,h⟩
theorem Jv (h1:PS X st t) (h2:yj X zx u):yj X (st :: zx) (Xq t u):=by
 intro pins s σ H D I h
 refine wpAny_execs_cons (zb (h1 pins s σ H { D with nx:=u D } I h) λf s1 q=>?_)
 cases f with
 | next=>
  obtain ⟨σ',H',I',q⟩:=q
  exact h2 pins s1 σ' H' D I' q
 | ret v=>exact q
 | brk=>exact q
 | cont=>exact q
theorem zM6 (h1:PS X st t):yj X [st] t:=by
 intro pins s σ H D I h
 refine wpAny_execs_cons (zb (h1 pins s σ H D I h) λf s1 q=>?_)
 cases f with
 | next=>exact wpAny_execs_nil q
 | ret v=>exact q
 | brk=>exact q
 | cont=>exact q
theorem zD.quiet {pins:List (Addr × Obj)} {σ:St} {H:Hp} {s:Shared} (I:zD X pins σ H s):interactive X.env=false:=by simp [interactive,I.ok.kind]
def Jw (te:TE):TS:=λD σ H=>te σ H λ_ H1=>D.nx σ H1
theorem wW (he:PE X e te) (hs:swapsWith e none pos.line X.env=pure false:=by rfl):PS X (.Expr e pos) (Jw te):=by
 intro pins s σ H D I h
 exact wpAny_Expr_any (zb (he pins s σ H _ I h) λv s1 ⟨x,H1,I1,r1,q1⟩=>⟨σ,H1,I1,q1⟩) I.quiet hs
def Xr (te:TE):TS:=λD σ H=>te σ H D.rt
theorem zOk (he:PE X e te):PS X (.Return (some e) pos) (Xr te):=by
 intro pins s σ H D I h
 exact wpAny_Return_some (zb (he pins s σ H _ I h) λv s1 ⟨x,H1,I1,r1,q1⟩=>⟨x,σ,H1,I1,r1,q1⟩)
def Xs (c:TT) (t u:TS):TS:=λD σ H=>c σ H λb H1=>if b=true then t D σ H1 else u D σ H1
theorem q9 {c:Expr} {a b:List Stmt} {tc:TT} (hc:PT X c tc) (ha:yj X a t) (hb:yj X b u):PS X (.If c a b pos) (Xs tc t u):=by
 intro pins s σ H D I h
 refine wpAny_If (zb (hc pins s σ H _ I h) λd s1 ⟨H1,I1,q1⟩=>?_)
 cases d with
 | true=>exact ha pins s1 σ H1 D I1 q1
 | false=>exact hb pins s1 σ H1 D I1 q1
def zOI:TS:=λ_ _ _=>False
theorem zLN:PS X st zOI:=λ_ _ _ _ _ _ h=>h.elim
end
abbrev TG:=V->St->Hp->(St->Hp->Prop)->Prop
abbrev uH:=List V->St->Hp->(St->Hp->Prop)->Prop
def PG (X:Cx) (target:Expr) (t:TG):Prop:=
 ∀ (pins:List (Addr × Obj)) (s:Shared) (σ:St) (H:Hp) (v:V) (u:Value) (Q:St->Hp->Prop),zD X pins σ H s->zN v u->t v σ H Q->
  wpAny (model X.prog X.w) X.A (assign target X.env u) (λ_ s'=>∃ σ' H',zD X pins σ' H' s'/\Q σ' H') X.xe s
def qG (X:Cx) (ts:List Expr) (t:uH):Prop:=
 ∀ (pins:List (Addr × Obj)) (s:Shared) (σ:St) (H:Hp) (vs:List V) (us:List Value) (Q:St->Hp->Prop),zD X pins σ H s->zK vs us->t vs σ H Q->
  wpAny (model X.prog X.w) X.A (assignInOrder ((assignEach ts X.env).map (·.2)) us) (λ_ s'=>∃ σ' H',zD X pins σ' H' s'/\Q σ' H') X.xe s
abbrev jR:=V->V->V->Hp->(Hp->Prop)->Prop
def jS (X:Cx) (t:jR):Prop:=
 ∀ (pins:List (Addr × Obj)) (s:Shared) (σ:St) (H:Hp) (o i v:V) (ov iv u:Value) (Q:Hp->Prop),zD X pins σ H s->zN o ov->zN i iv->zN v u->t o i v H Q->
  wpAny (model X.prog X.w) X.A (setItem ov iv u) (λ_ s'=>∃ H',zD X pins σ H' s'/\Q H') X.xe s
section
variable {X:Cx} {pos:Pos}
def gA (i:Nat):TG:=λv σ H Q=>Q (σ.set i (some v)) H
theorem Jx {i:Nat} {x:Str} (hN:X.N.Nodup) (hi:X.N[i]? = some x) (hx:uF X.env.scope x) (hf:X.fn x=true\/X.env.scope.names.lookup x=some .local:=by first | exact .inl rfl | exact .inr rfl | assumption):PG X (.Name x pos) (gA i):=by
 intro pins s σ H v u Q I r h
 exact wpAny_assign_Name (Js I hN hi hx r (λs' I'=>⟨_,H,I',h⟩) hf)
def Xu:uH:=λvs σ H Q=>vs=[]/\Q σ H
def gB (t:TG) (u:uH):uH:=λvs σ H Q=>∃ v r,vs=v :: r/\t v σ H λσ' H'=>u r σ' H' Q
theorem zNC:qG X [] Xu:=by
 intro pins s σ H vs us Q I r h
 obtain ⟨e,h⟩:=h
 subst e
 cases r
 exact assignInOrder_nil ⟨σ,H,I,h⟩
theorem zLS {e:Expr} {es:List Expr} {t:TG} {u:uH} (h1:PG X e t) (h2:qG X es u)
  (hs:(assignEach (e :: es) X.env).map (·.2)=assign e X.env :: (assignEach es X.env).map (·.2):=by rfl):qG X (e :: es) (gB t u):=by
 intro pins s σ H vs us Q I r h
 obtain ⟨v,vr,e1,h⟩:=h
 subst e1
 cases r with
 | cons r rr=>
  rw [hs]
  refine assignInOrder_cons (zb (h1 pins s σ H _ _ _ I r h) λ_ s1 ⟨σ1,H1,I1,q1⟩=>?_)
  exact h2 pins s1 σ1 H1 _ _ Q I1 rr q1
def Xv (K:PySem.W.Frag) (n:Nat) (t:uH):TG:=λv σ H Q=>∃ a xs,v=.ref a/\zl K H a xs/\xs.length=n/\t xs σ H Q
theorem zOp {es:List Expr} {k:Nat} {t:uH} {n:Nat} (hc:X.calm=true) (h:qG X es t)
  (hn:(assignEach es X.env).length=n:=by rfl) (hst:(assignEach es X.env).findIdx? (·.1)=none:=by rfl):PG X (.Tuple es k pos) (Xv X.K n t):=by
 intro pins s σ H v u Q I r hw
 obtain ⟨a,xs,e1,hq,hl,hw⟩:=hw
 subst e1
 cases r
 obtain ⟨its,rv,ht,hz⟩:=I.tuple hq
 refine assign_Tuple_tuple (I.ok.hd hc) ht (by simp [hn,<- hl,rv.length]) hst λh' hx=>?_
 have I1:zD X pins σ H { s with heap:=h' }:=I.kept (t':=s.toks) λb o e=>hx b o (Nat.ne_of_lt (Heap.lt_size e)) e
 exact h pins _ σ H xs _ Q I1 (by simpa using rv) hw
def gC (to ti:TE) (t:jR):TG:=λv σ H Q=>to σ H λo H1=>ti σ H1 λi H2=>t o i v H2 λH3=>Q σ H3
theorem Xw {o i:Expr} {to ti:TE} {t:jR} (ho:PE X o to) (hi:PE X i ti) (hs:jS X t)
  (ha:∀ v,assign (.Subscript o i pos) X.env v=(do
   let ov <- holding [v] (eval o X.env)
   let iv <- holding [v,ov] (eval i X.env)
   standAt pos
   holding [v,ov,iv] (setItem ov iv v)
   release [v,ov,iv] []):=by intro _; rfl):PG X (.Subscript o i pos) (gC to ti t):=by
 intro pins s σ H v u Q I r h
 rw [ha]
 refine wpAny_bind (wpAny_holding (zb (ho pins s σ H _ I h) λov s1 ⟨x,H1,I1,r1,q1⟩=>?_))
 refine wpAny_bind (wpAny_holding (zb (hi pins s1 σ H1 _ I1 q1) λiv s2 ⟨y,H2,I2,r2,q2⟩=>?_))
 refine wpAny_bind (wpAny_standAt (wpAny_bind (wpAny_holding (zb (hs pins s2 σ H2 x y v ov iv u _ I2 r1 r2 r q2) λ_ s3 ⟨H3,I3,q3⟩=>?_))))
 exact wpAny_release ⟨σ,H3,I3,q3⟩
def wp (te:TE) (g:TG):TS:=λD σ H=>te σ H λx H1=>g x σ H1 D.nx
theorem Z5 {tg e:Expr} {te:TE} {g:TG} (he:PE X e te) (hg:PG X tg g) (hs:swapsWithSole [tg] e pos.line X.env=pure false:=by rfl) (hw:swappedStores [tg] e X.env=pure none:=by rfl)
  (h1:(assignEach [tg] X.env).map (·.2)=[assign tg X.env]:=by rfl):PS X (.Assign [tg] e pos) (wp te g):=by
 intro pins s σ H D I h
 refine wpAny_Assign_stores (zb (he pins s σ H _ I h) λv s1 ⟨x,H1,I1,r1,q1⟩=>?_) hs hw
 rw [h1]
 exact zb (hg pins s1 σ H1 x v _ I1 r1 q1) λ_ s2 q=>q
theorem Xx {i:Nat} {x:Str} {e:Expr} {te:TE} {pos':Pos} (hN:X.N.Nodup) (hi:X.N[i]? = some x) (hx:uF X.env.scope x) (he:PE X e te) (hs:swapsWith e (some (.Name x pos')) pos.line X.env=pure false:=by rfl) (hf:X.fn x=true\/X.env.scope.names.lookup x=some .local:=by first | exact .inl rfl | exact .inr rfl | assumption) :
  PS X (.Assign [.Name x pos'] e pos) (wp te (gA i)):=by
 intro pins s σ H D I h
 refine wpAny_Assign_Name (zb (he pins s σ H _ I h) λv s1 ⟨y,H1,I1,r1,q1⟩=>?_) hs
 exact Js I1 hN hi hx r1 (λs2 I2=>⟨_,H1,I2,q1⟩) hf
end
section
variable {X:Cx} {pos:Pos}
def zOG (c:TT) (tb:TS):TS:=λD σ H=>∃ W:Nat->St->Hp->Prop,(∃ m,W m σ H)/\∀ m σ H,W m σ H->
 c σ H λb H1=>if b=true then ∃ N:St->Hp->Prop,(∀ σ' H',N σ' H'->∃ m',m' < m/\W m' σ' H')/\tb { D with nx:=N,ct:=N,bk:=D.nx } σ H1 else D.nx σ H1
theorem zLM {c:Expr} {body:List Stmt} {tc:TT} {tb:TS} (hp:PassesOwn (model X.prog X.w) X.A X.env X.xe) (hc:PT X c tc) (hb:yj X body tb):PS X (.While c body [] pos) (zOG tc tb):=by
 intro pins s σ H D I h
 obtain ⟨W,⟨m0,w0⟩,turn⟩:=h
 refine wpAny_While (codeAny_whileLoop (λn s'=>∃ σ' H',zD X pins σ' H' s'/\W n σ' H') ?_ m0 ⟨σ,H,I,w0⟩)
 rintro n s1 ⟨σ1,H1,I1,w1⟩
 refine wpAny_passesOwn hp (zb (hc pins s1 σ1 H1 _ I1 (turn n σ1 H1 w1)) λb s2 ⟨H2,I2,q2⟩=>?_)
 cases b with
 | true=>
  obtain ⟨N,hN,q2⟩:=q2
  rw [if_pos rfl]
  refine wpAny_passesOwn hp (zb (hb pins s2 σ1 H2 _ I2 q2) λf s3 q3=>?_)
  cases f with
  | next=>
   obtain ⟨σ3,H3,I3,n3⟩:=q3
   obtain ⟨m',hm,w3⟩:=hN σ3 H3 n3
   exact ⟨m',hm,σ3,H3,I3,w3⟩
  | cont=>
   obtain ⟨σ3,H3,I3,n3⟩:=q3
   obtain ⟨m',hm,w3⟩:=hN σ3 H3 n3
   exact ⟨m',hm,σ3,H3,I3,w3⟩
  | brk=>exact q3
  | ret v=>exact q3
 | false=>
  rw [if_neg Bool.false_ne_true]
  exact wpAny_execs_nil ⟨σ1,H2,I2,q2⟩
end
structure It where
 go:Nat->Hp->Prop
 yld:Nat->Hp->V->Hp->Prop
 stop:Nat->Hp->Prop
def zv (X:Cx) (pins:List (Addr × Obj)) (H:Hp) (b:Addr):Prop:=
 H b=none/\b≠X.env.locals/\b∉X.fs/\(b∈X.ex\/X.s₀.heap.objs.size<=b)/\(∀ x c,X.env.cells.lookup x=some c->c≠b)/\∀ p∈X.pn++pins,p.1≠b
theorem zD.fpOk {X:Cx} {pins:List (Addr × Obj)} {σ:St} {H H':Hp} {s:Shared} {b:Addr} (I:zD X pins σ H s) (hb:s.heap.objs.size<=b) (hn:H' b=none):zv X pins H' b:=by
 refine ⟨hn,Nat.ne_of_gt (Nat.lt_of_lt_of_le I.lt hb),I.nofs hb,.inr (Nat.le_trans I.sz hb),λx c e z=>?_,λp hp z=>?_⟩
 ·obtain ⟨v,q⟩:=I.cell x c e
  exact absurd (Nat.lt_of_lt_of_le q.lt (by rw [z]; exact hb)) (Nat.lt_irrefl _)
 ·exact absurd (Nat.lt_of_lt_of_le (Heap.lt_size (I.pin p hp).1) (by rw [z]; exact hb)) (Nat.lt_irrefl _)
structure xF (P:Program) (w:World) (K:PySem.W.Frag) (tg:Expr) (J:It) (fp:List Addr) (it:Addr) (tn:Nat->Heap->Prop):Prop where
 mem:it∈fp
 obj:∀ i h,tn i h->∀ b∈fp,∃ o,h.get? b=some o/\∀ v,o.data≠.cell v
 keep:∀ i h h',tn i h->(∀ b∈fp,∀ o,h.get? b=some o->h'.get? b=some o)->tn i h'
 item:∀ (X:Cx),X.prog=P->X.w=w->X.K=K->X.calm=true->∀ (i:Nat) (pins:List (Addr × Obj)) (s:Shared) (σ:St) (H:Hp) (E:Value->Shared->Prop),zD X pins σ H s->(∀ b∈fp,zv X pins H b)->tn i s.heap->J.go i H->
  wpAny (model P w) X.A (pyNext (.ref it)) (λr s1=>∃ u,r=some u∧
   wpAny (model P w) X.A (letOwnedTupleGo tg (.ref it) u) (λ_ s2=>∃ x H',zD X pins σ H' s2/\zN x u/\J.yld i H x H'/\tn (i + 1) s2.heap/\∀ b∈fp,H' b=none) E s1) E s
 done:∀ (X:Cx),X.prog=P->X.w=w->X.K=K->X.calm=true->∀ (i:Nat) (pins:List (Addr × Obj)) (s:Shared) (σ:St) (H:Hp) (E:Value->Shared->Prop),zD X pins σ H s->(∀ b∈fp,zv X pins H b)->tn i s.heap->J.stop i H->
  wpAny (model P w) X.A (pyNext (.ref it)) (λr s1=>r=none/\zD X pins σ H s1) E s
 self:∀ (A:Around) (i:Nat) (s:Shared) (Q:Value->Shared->Prop) (E:Value->Shared->Prop),tn i s.heap->Q (.ref it) s->wpAny (model P w) A (pyIter (.ref it)) Q E s
abbrev TI:=St->Hp->(It->Hp->Prop)->Prop
def Jy (X:Cx) (pins:List (Addr × Obj)) (σ:St) (tg:Expr) (R:It->Hp->Prop) (itv:Value) (s2:Shared):Prop:=
 ∃ (it:Addr) (fp:List Addr) (tn:Nat->Heap->Prop) (J:It) (H':Hp),itv=.ref it/\zD X pins σ H' s2/\xF X.prog X.w X.K tg J fp it tn/\tn 0 s2.heap/\(∀ b∈fp,zv X pins H' b)/\R J H'
def PI (X:Cx) (tg iter:Expr) (wi:TI):Prop:=
 ∀ (pins:List (Addr × Obj)) (s:Shared) (σ:St) (H:Hp) (R:It->Hp->Prop),zD X pins σ H s->wi σ H R->
  wpAny (model X.prog X.w) X.A (eval iter X.env) (λv s1=>wpAny (model X.prog X.w) X.A (pyIter v) (Jy X pins σ tg R) X.xe s1) X.xe s
theorem Xy {M:Model} {A:Around} {E:Value->Shared->Prop} {s:Shared} {tg:Expr} {it:Addr} {u:Value} {o:Obj} {n:String} {vs:Array Value} {Q:Unit->Shared->Prop} (ho:s.heap.get? it=some o) (hc:o.cls=.type n) (hd:o.data=.fields vs)
  (hn:["enumerate","zip","dict_itemiterator","dict_reverseitemiterator","odict_iterator","itertools.zip_longest","itertools.pairwise"].contains n=false) (hQ:Q () s):wpAny M A (letOwnedTupleGo tg (.ref it) u) Q E s:=by
 unfold letOwnedTupleGo
 cases tg <;> first
  | exact wpAny_pure hQ
  | (cases u <;> first
    | exact wpAny_pure hQ
    | (refine wpAny_bind (wpAny_load ho ?_)
       rw [hc,hd]
       show wpAny M A (if (["enumerate","zip","dict_itemiterator","dict_reverseitemiterator","odict_iterator","itertools.zip_longest","itertools.pairwise"].contains n && vs[0]? == some (rawInt _))=true then _ else _) Q E s
       rw [if_neg (by intro h; rw [hn,Bool.false_and] at h; cases h)]
       exact wpAny_pure hQ))
def Xz (K:PySem.W.Frag) (a:Addr):It:=
 ⟨λi H=>∃ xs x,zV K H a xs/\xs[i]? = some x,λi H x H'=>H'=H/\∀ xs,zV K H a xs->xs[i]? = some x,λi H=>∃ xs,zV K H a xs/\xs.length<=i⟩
def X0 (K:PySem.W.Frag) (a:Addr):It:=
 ⟨λi H=>∃ xs x,zl K H a xs/\xs[i]? = some x,λi H x H'=>H'=H/\∀ xs,zl K H a xs->xs[i]? = some x,λi H=>∃ xs,zl K H a xs/\xs.length<=i⟩
def gE (lo:Int) (n:Nat):It:=⟨λi _=>i < n,λi H x H'=>H'=H/\x=.int (lo + i),λi _=>n<=i⟩
theorem zJC {P:Program} {w:World} {K:PySem.W.Frag} {tg:Expr} (a it:Addr):xF P w K tg (Xz K a) [it] it (λi h=>h.IsListIter it a i) where
 mem:=by simp
 obj:=λi h st b hb=>by
  have e:b=it:=by simpa using hb
  subst e
  obtain ⟨o,e,c,d⟩:=st
  exact ⟨o,e,λv z=>by rw [d] at z; cases z⟩
 keep:=λi h h' st k=>st.at λo e=>k it (by simp) o e
 item:=by
  intro X hP hw hK hc i pins s σ H E I hf st hg
  subst hP hw hK
  obtain ⟨xs,x,hq,hx⟩:=hg
  obtain ⟨its,rv,p,hz⟩:=I.list hq
  obtain ⟨u,hu,ru⟩:=rv.get hx
  obtain ⟨f0,f1,f2,f3,f4,f5⟩:=hf it (by simp)
  refine wpAny_pyNext_list_item st p.isList (x:=u) (by simpa using hu) λh' st' sb=>?_
  have I1:zD X pins σ H { s with heap:=h' }:=I.turned (t':=s.toks) (λb o hb e=>(sb.2 b hb).trans e) f0 f1 f3 f4 f5
  obtain ⟨o,e,c,d⟩:=id st'
  exact ⟨u,rfl,Xy (s:={ s with heap:=h' }) e c d (by decide) ⟨x,H,I1,ru,⟨rfl,λys hy=>by rw [I.list_inj hy hq]; exact hx⟩,st',λb hb=>(hf b hb).1⟩⟩
 done:=by
  intro X hP hw hK hc i pins s σ H E I hf st hg
  subst hP hw hK
  obtain ⟨xs,hq,hx⟩:=hg
  obtain ⟨its,rv,p,hz⟩:=I.list hq
  obtain ⟨f0,f1,f2,f3,f4,f5⟩:=hf it (by simp)
  have hl:=rv.length
  exact wpAny_pyNext_list_end (I.ok.hd hc) st p.isList (by simp; omega) λh' eb=>⟨rfl,I.turned (t':=s.toks) (λb o hb e=>eb b o hb e) f0 f1 f3 f4 f5⟩
 self:=λ_ _ _ _ _ st h=>wpAny_pyIter_listiter st h
theorem zIb {P:Program} {w:World} {K:PySem.W.Frag} {tg:Expr} (a it:Addr):xF P w K tg (X0 K a) [it] it (λi h=>h.IsTupleIter it a i) where
 mem:=by simp
 obj:=λi h st b hb=>by
  have e:b=it:=by simpa using hb
  subst e
  obtain ⟨o,e,c,d⟩:=st
  exact ⟨o,e,λv z=>by rw [d] at z; cases z⟩
 keep:=λi h h' st k=>st.at λo e=>k it (by simp) o e
 item:=by
  intro X hP hw hK hc i pins s σ H E I hf st hg
  subst hP hw hK
  obtain ⟨xs,x,hq,hx⟩:=hg
  obtain ⟨its,rv,p,hz⟩:=I.tuple hq
  obtain ⟨u,hu,ru⟩:=rv.get hx
  obtain ⟨f0,f1,f2,f3,f4,f5⟩:=hf it (by simp)
  refine wpAny_pyNext_tuple_item st (show s.heap.IsTuple a its.toArray from p) (x:=u) (by simpa using hu) λh' st' sb=>?_
  have I1:zD X pins σ H { s with heap:=h' }:=I.turned (t':=s.toks) (λb o hb e=>(sb.2 b hb).trans e) f0 f1 f3 f4 f5
  obtain ⟨o,e,c,d⟩:=id st'
  exact ⟨u,rfl,Xy (s:={ s with heap:=h' }) e c d (by decide) ⟨x,H,I1,ru,⟨rfl,λys hy=>by rw [I.tuple_inj hy hq]; exact hx⟩,st',λb hb=>(hf b hb).1⟩⟩
 done:=by
  intro X hP hw hK hc i pins s σ H E I hf st hg
  subst hP hw hK
  obtain ⟨xs,hq,hx⟩:=hg
  obtain ⟨its,rv,p,hz⟩:=I.tuple hq
  obtain ⟨f0,f1,f2,f3,f4,f5⟩:=hf it (by simp)
  have hl:=rv.length
  exact wpAny_pyNext_tuple_end (I.ok.hd hc) st (show s.heap.IsTuple a its.toArray from p) (by simp; omega) λh' eb=>⟨rfl,I.turned (t':=s.toks) (λb o hb e=>eb b o hb e) f0 f1 f3 f4 f5⟩
 self:=λ_ _ _ _ _ st h=>wpAny_pyIter_tupleiter st h
theorem zIc {P:Program} {w:World} {K:PySem.W.Frag} {tg:Expr} (it:Addr) (lo:Int) (n:Nat):xF P w K tg (gE lo n) [it] it (λi h=>IsRangeIter h it (lo + (i:Nat) * 1) ((n:Int) - (i:Nat)) 1) where
 mem:=by simp
 obj:=λi h st b hb=>by
  have e:b=it:=by simpa using hb
  subst e
  exact ⟨_,st,λv z=>by
   have z':Data.fields _=Data.cell v:=z
   cases z'⟩
 keep:=λi h h' st k=>k it (by simp) _ st
 item:=by
  intro X hP hw hK hc i pins s σ H E I hf st hg
  subst hP hw hK
  obtain ⟨f0,f1,f2,f3,f4,f5⟩:=hf it (by simp)
  have W:=Walks.range (prog:=X.prog) (w:=X.w) (I.ok.hd hc) it lo 1 n
  refine W.item i s _ _ hg st λv h' tk hv st' kk=>?_
  obtain ⟨t,rfl⟩:=hv
  have I1:zD X pins σ H { s with heap:=h',toks:=tk }:=I.turned (λb o hb e=>kk b o (by simpa using hb) e) f0 f1 f3 f4 f5
  refine ⟨_,rfl,Xy (s:={ s with heap:=h',toks:=tk }) (n:="range_iterator") st' rfl rfl (by decide) ⟨.int (lo + i),H,I1,⟨t,?_⟩,⟨rfl,rfl⟩,st',λb hb=>(hf b hb).1⟩⟩
  rw [Int.mul_one]
 done:=by
  intro X hP hw hK hc i pins s σ H E I hf st hg
  subst hP hw hK
  obtain ⟨f0,f1,f2,f3,f4,f5⟩:=hf it (by simp)
  exact wpAny_pyNext_range_end (I.ok.hd hc) st (by have:n<=i:=hg; omega) λh' eb=>⟨rfl,I.turned (t':=s.toks) (λb o hb e=>eb b o hb e) f0 f1 f3 f4 f5⟩
 self:=λ_ _ _ _ _ st h=>wpAny_pyIter_rangeiter st h
end L2
namespace L2
open PySem PySem.Spec PyProof.Rows
section
variable {X:Cx} {tg:Expr}
theorem Jz {pins:List (Addr × Obj)} {σ:St} {H:Hp} {s:Shared} {R:It->Hp->Prop} {E:Value->Shared->Prop} {lo hi:Int} {t u v:Tok} {tk:Nat} (I:zD X pins σ H s) (h1 : -(2 ^ 62)<=lo) (h2:lo < 2 ^ 62) (h3 : -(2 ^ 62)<=hi) (h4:hi < 2 ^ 62)
  (q:R (gE lo (hi - lo).toNat) H):wpAny (model X.prog X.w) X.A (pyIter (.ref s.heap.objs.size)) (Jy X pins σ tg R) E { s with heap:=s.heap.push { cls:=.type "range",data:=.fields #[.int lo t,.int hi u,.int 1 v] },toks:=tk }:=by
 refine wpAny_pyIter_range (IsRange.new ..) (small_one h1 h2 h3 h4) ?_
 have I1:zD X pins σ H { s with heap:=s.heap.push { cls:=.type "range",data:=.fields #[.int lo t,.int hi u,.int 1 v] },toks:=tk }:=I.kept λb o e=>Heap.get?_push_of_some _ e
 refine ⟨(s.heap.push { cls:=.type "range",data:=.fields #[.int lo t,.int hi u,.int 1 v] }).objs.size,[(s.heap.push { cls:=.type "range",data:=.fields #[.int lo t,.int hi u,.int 1 v] }).objs.size],_,_,H,rfl,
  I1.kept (t':=tk) λb o e=>Heap.get?_push_of_some _ e,zIc _ lo (hi - lo).toNat,?_,λb hb=>?_,q⟩
 ·have e1:lo + ((0:Nat):Int) * 1=lo:=by simp
  have e2:(((hi - lo).toNat:Nat):Int) - ((0:Nat):Int)=Builtin.Range.rangeSize lo hi 1:=by rw [rangeSize_one]; split <;> omega
  show IsRangeIter _ _ (lo + ((0:Nat):Int) * 1) ((((hi - lo).toNat:Nat):Int) - ((0:Nat):Int)) 1
  rw [e1,e2]
  exact Heap.get?_push_size _ rfl
 ·have e:b=(s.heap.push { cls:=.type "range",data:=.fields #[.int lo t,.int hi u,.int 1 v] }).objs.size:=by simpa using hb
  subst e
  exact I1.fpOk (Nat.le_refl _) (I1.hok.fresh (Nat.le_refl _))
def gF (ta:TA):TI:=λσ H R=>ta σ H λvs H1=>∃ j:Int,vs=[.int j]/\-(2 ^ 62)<=j/\j < 2 ^ 62/\R (gE 0 j.toNat) H1
def gG (ta:TA):TI:=λσ H R=>ta σ H λvs H1=>∃ i j:Int,vs=[.int i,.int j]/\(-(2 ^ 62)<=i/\i < 2 ^ 62/\-(2 ^ 62)<=j/\j < 2 ^ 62)/\R (gE i (j - i).toNat) H1
theorem zJc {a:Expr} {ta:TA} {p pos:Pos} (hg:Gl X "range") (hm:X.mg "range" = none) (ha:PA X [a] ta) (hs:starEach [a] X.env=[(false,eval a X.env)]:=by rfl):PI X tg (.Call (.Name "range" p) [a] [] pos) (gF ta):=by
 intro pins s σ H R I h
 refine Call_ (ux I hg hm boot_range (PyProof.Rows.callWith_type1 (zb (ha pos pins s σ H _ I h) λus s1 ⟨vs,H1,I1,r1,q1⟩=>?_) hs rfl))
 obtain ⟨j,e,q1,q2,q⟩:=q1
 subst e
 cases r1 with
 | cons r rr=>
  cases rr
  obtain ⟨t,rfl⟩:=r
  exact call_range_1 (Jz I1 (by omega) (by omega) q1 q2 (by simpa using q))
theorem zJb {a b:Expr} {ta:TA} {p pos:Pos} (hg:Gl X "range") (hm:X.mg "range" = none) (ha:PA X [a,b] ta) (hs:starEach [a,b] X.env=[(false,eval a X.env),(false,eval b X.env)]:=by rfl) (hs2:starEach [b] X.env=[(false,eval b X.env)]:=by rfl) :
  PI X tg (.Call (.Name "range" p) [a,b] [] pos) (gG ta):=by
 intro pins s σ H R I h
 refine Call_ (ux I hg hm boot_range (PyProof.Rows.callWith_type1 (zb (ha pos pins s σ H _ I h) λus s1 ⟨vs,H1,I1,r1,q1⟩=>?_) (by rw [hs,hs2]) (by rw [hs2]; rfl)))
 obtain ⟨i,j,e,⟨q1,q2,q3,q4⟩,q⟩:=q1
 subst e
 cases r1 with
 | cons r rr=>
  cases rr with
  | cons r' rr=>
   cases rr
   obtain ⟨t,rfl⟩:=r
   obtain ⟨t',rfl⟩:=r'
   exact call_range_2 (Jz I1 q1 q2 q3 q4 q)
def X1 (wi:TI) (g:TG) (tb:TS):TS:=λD σ H=>wi σ H λJ H1=>∃ W:Nat->Nat->St->Hp->Prop,(∃ m,W 0 m σ H1)/\∀ i m σ H,W i m σ H->
 (J.stop i H/\D.nx σ H)\/(J.go i H/\∃ N:St->Hp->Prop,(∀ σ' H',N σ' H'->∃ m',m' < m/\W (i + 1) m' σ' H')/\∀ x H',J.yld i H x H'->g x σ H' λσ2 H2=>tb { D with nx:=N,ct:=N,bk:=D.nx } σ2 H2)
def qH (fp:List Addr) (h:Heap):List (Addr × Obj):=fp.filterMap λb=>(h.get? b).map λo=>(b,o)
theorem uz {fp:List Addr} {h:Heap} {b:Addr} {o:Obj} (hb:b∈fp) (e:h.get? b=some o):(b,o)∈qH fp h:=List.mem_filterMap.mpr ⟨b,hb,by rw [e]; rfl⟩
theorem zJ0 {fp:List Addr} {h:Heap} {p:Addr × Obj} (hp:p∈qH fp h):p.1∈fp/\h.get? p.1=some p.2:=by
 obtain ⟨b,hb,e⟩:=List.mem_filterMap.mp hp
 cases q:h.get? b with
 | none=>rw [q] at e; cases e
 | some o=>
  rw [q] at e
  have e':(b,o)=p:=Option.some.inj e
  subst e'
  exact ⟨hb,q⟩
theorem zD.pinned {pins:List (Addr × Obj)} {σ:St} {H:Hp} {s:Shared} {fp:List Addr} (I:zD X pins σ H s) (hf:∀ b∈fp,zv X pins H b) (ho:∀ b∈fp,∃ o,s.heap.get? b=some o/\∀ v,o.data≠.cell v):zD X (pins++qH fp s.heap) σ H s:=
 I.pins_of λp hp=>(List.mem_append.mp hp).elim (λz=>I.pin p (List.mem_append_right _ z)) λz=>by
  obtain ⟨hb,e⟩:=zJ0 z
  obtain ⟨f0,f1,f2,_⟩:=hf p.1 hb
  obtain ⟨o,e',d⟩:=ho p.1 hb
  rw [e] at e'; cases e'
  exact ⟨e,f0,f1,f2,d⟩
theorem zD.unpinned {pins pl:List (Addr × Obj)} {σ:St} {H:Hp} {s:Shared} (I:zD X (pins++pl) σ H s):zD X pins σ H s:=I.pins_of λp hp=>I.pin p (List.mem_append_right _ (List.mem_append_left _ hp))
theorem zOl {iter:Expr} {body:List Stmt} {wi:TI} {g:TG} {tb:TS} {pos:Pos} (hp:PassesOwn (model X.prog X.w) X.A X.env X.xe) (hc:X.calm=true) (hi:PI X tg iter wi) (hg:PG X tg g) (hb:yj X body tb)
  (hs:∀ x,foldedSetIterable iter X.env x=pure x:=by intro _; rfl):PS X (.For tg iter body [] pos) (X1 wi g tb):=by
 intro pins s σ H D I h
 refine wpAny_For (zb (hi pins s σ H _ I h) λv s1 h1=>zb h1 λitv s2 h2=>?_) hs
 obtain ⟨it,fp,tn,J,H2,e,I2,T,st2,f2,W,⟨m0,w0⟩,turn⟩:=h2
 subst e
 have stat:∀ {H':Hp},(∀ b∈fp,H' b=none)->∀ b∈fp,zv X pins H' b:=λhn b hb=>⟨hn b hb,(f2 b hb).2⟩
 refine codeAny_forLoop_any (λn s'=>∃ i σ' H',zD X pins σ' H' s'/\tn i s'.heap/\(∀ b∈fp,H' b=none)/\W i n σ' H') ?_ m0 ⟨0,σ,H2,I2,st2,λb hb=>(f2 b hb).1,w0⟩
 rintro n s3 ⟨i,σ3,H3,I3,st3,fr3,w3⟩
 rcases turn i n σ3 H3 w3 with ⟨stop,qn⟩ | ⟨go,N,hN,step⟩
 ·refine wpAny_passesOwn hp (zb (T.done X rfl rfl rfl hc i pins s3 σ3 H3 X.xe I3 (stat fr3) st3 stop) λr s4 ⟨hr,I4⟩=>?_)
  subst hr
  exact wpAny_execs_nil ⟨σ3,H3,I4,qn⟩
 ·refine wpAny_passesOwn hp (zb (T.item X rfl rfl rfl hc i pins s3 σ3 H3 X.xe I3 (stat fr3) st3 go) λr s4 ⟨u,hr,h4⟩=>?_)
  subst hr
  refine wpAny_passesOwn hp (zb h4 λ_ s5 ⟨x,H5,I5,r5,y5,st5,fr5⟩=>?_)
  have I5':=I5.pinned (stat fr5) (T.obj _ _ st5)
  refine wpAny_passesOwn hp (zb (hg _ s5 σ3 H5 x u _ I5' r5 (step x H5 y5)) λ_ s6 ⟨σ6,H6,I6,q6⟩=>?_)
  refine wpAny_passesOwn hp (zb (hb _ s6 σ6 H6 _ I6 q6) λf s7 q7=>?_)
  have again:∀ {σ7:St} {H7:Hp},zD X (pins++qH fp s5.heap) σ7 H7 s7->N σ7 H7->∃ m,m < n/\∃ i σ' H',zD X pins σ' H' s7/\tn i s7.heap/\(∀ b∈fp,H' b=none)/\W i m σ' H':=λ{σ7 H7} I7 n7=>by
   obtain ⟨m',hm,w7⟩:=hN σ7 H7 n7
   refine ⟨m',hm,i + 1,σ7,H7,I7.unpinned,T.keep _ _ _ st5 λb hb o e=>(I7.pin (b,o) (List.mem_append_right _ (List.mem_append_right _ (uz hb e)))).1,λb hb=>?_,w7⟩
   obtain ⟨o,e,d⟩:=T.obj _ _ st5 b hb
   exact (I7.pin (b,o) (List.mem_append_right _ (List.mem_append_right _ (uz hb e)))).2.1
  cases f with
  | next=>obtain ⟨σ7,H7,I7,n7⟩:=q7; exact again I7 n7
  | cont=>obtain ⟨σ7,H7,I7,n7⟩:=q7; exact again I7 n7
  | brk=>obtain ⟨σ7,H7,I7,q7⟩:=q7; exact ⟨σ7,H7,I7.unpinned,q7⟩
  | ret v=>obtain ⟨x7,σ7,H7,I7,r7,q7⟩:=q7; exact ⟨x7,σ7,H7,I7.unpinned,r7,q7⟩
end
end L2
namespace L2
open PySem PySem.Spec PyProof.Rows
abbrev R2:=V->V->Hp->VK->Prop
def yW (X:Cx) (f:Value->Value->Sem Value) (r:R2):Prop:=
 ∀ (pins:List (Addr × Obj)) (s:Shared) (σ:St) (H:Hp) (x y:V) (v u:Value) (Q:VK),zD X pins σ H s->zN x v->zN y u->r x y H Q->
  wpAny (model X.prog X.w) X.A (f v u) (EP X pins σ Q) X.xe s
def X2 (X:Cx) (f:Value->Sem Value) (r:V->Hp->VK->Prop):Prop:=
 ∀ (pins:List (Addr × Obj)) (s:Shared) (σ:St) (H:Hp) (x:V) (v:Value) (Q:VK),zD X pins σ H s->zN x v->r x H Q->
  wpAny (model X.prog X.w) X.A (f v) (EP X pins σ Q) X.xe s
def xN (X:Cx) (f:Value) (r:List V->Hp->VK->Prop):Prop:=
 ∀ (pins:List (Addr × Obj)) (s:Shared) (σ:St) (H:Hp) (xs:List V) (us:List Value) (Q:VK),zD X pins σ H s->zK xs us->r xs H Q->
  wpAny (model X.prog X.w) X.A (call f us) (EP X pins σ Q) X.xe s
def qI (r:R2) (ta tb:TE):TE:=λσ H Q=>ta σ H λx H1=>tb σ H1 λy H2=>r x y H2 Q
def tUn (r:V->Hp->VK->Prop) (ta:TE):TE:=λσ H Q=>ta σ H λx H1=>r x H1 Q
def rI (C:Int->Int->Prop) (g:Int->Int->V):R2:=λx y H Q=>∃ i j,x=.int i/\y=.int j/\C i j/\Q (g i j) H
def vF (g:Int->Int->V):R2:=λx y H Q=>∃ i j,x=.int i/\y=.int j/\Q (g i j) H
def rU (g:Int->V):V->Hp->VK->Prop:=λx H Q=>∃ i,x=.int i/\Q (g i) H
section
variable {X:Cx} {a b c:Expr} {ta tb tc:TE} {pos:Pos}
theorem jT (ha:PE X a ta) (hb:PE X b tb) {pins:List (Addr × Obj)} {s:Shared} {σ:St} {H:Hp} {R:V->V->Hp->Prop} (I:zD X pins σ H s)
  (h:ta σ H λx H1=>tb σ H1 λy H2=>R x y H2) {Q:Value->Shared->Prop} {f:Value->Value->Sem Value}
  (hf:∀ v u s2 x y H2,zD X pins σ H2 s2->zN x v->zN y u->R x y H2->wpAny (model X.prog X.w) X.A (f v u) Q X.xe s2) :
  wpAny (model X.prog X.w) X.A (eval a X.env) (λv s₁=>wpAny (model X.prog X.w) X.A (eval b X.env) (λu s₂=>wpAny (model X.prog X.w) X.A (f v u) Q X.xe s₂) X.xe s₁) X.xe s:=by
 refine zb (ha pins s σ H _ I h) λv s1 ⟨x,H1,I1,r1,q1⟩=>?_
 refine zb (hb pins s1 σ H1 _ I1 q1) λu s2 ⟨y,H2,I2,r2,q2⟩=>?_
 exact hf v u s2 x y H2 I2 r1 r2 q2
theorem gH {op:Operator} {r:R2} (ho:yW X (binaryOp op) r) (ha:PE X a ta) (hb:PE X b tb):PE X (.BinOp a op b pos) (qI r ta tb):=by
 intro pins s σ H Q I h
 exact wpAny_BinOp (jT ha hb I h λv u s2 x y H2 I2 rx ry q=>ho pins s2 σ H2 x y v u Q I2 rx ry q)
theorem gJ {op:UnaryOp} {r:V->Hp->VK->Prop} (ho:X2 X (unaryOp op) r) (ha:PE X a ta):PE X (.UnaryOp op a pos) (tUn r ta):=by
 intro pins s σ H Q I h
 exact UnaryOp_ (zb (ha pins s σ H _ I h) λv s1 ⟨x,H1,I1,r1,q1⟩=>ho pins s1 σ H1 x v Q I1 r1 q1)
theorem Z6 {f:Value->Value->Sem Value} {C:Int->Int->Prop} {g:Int->Int->Int}
  (rule:∀ (i j:Int) (t u:Tok) (s:Shared) (Q:Value->Shared->Prop) (E:Value->Shared->Prop),C i j->Q (.int (g i j) s.toks) { s with toks:=s.toks + 1 }->wpAny (model X.prog X.w) X.A (f (.int i t) (.int j u)) Q E s) :
  yW X f (rI C λi j=>.int (g i j)):=by
 intro pins s σ H x y v u Q I rx ry h
 obtain ⟨i,j,rfl,rfl,hc,q⟩:=h
 obtain ⟨t,rfl⟩:=rx
 obtain ⟨t',rfl⟩:=ry
 exact rule i j t t' s _ _ hc ⟨.int (g i j),H,I.tok _,⟨_,rfl⟩,q⟩
theorem gK {f:Value->Value->Sem Value} {g:Int->Int->Int}
  (rule:∀ (i j:Int) (t u:Tok) (s:Shared) (Q:Value->Shared->Prop) (E:Value->Shared->Prop),Q (.int (g i j) s.toks) { s with toks:=s.toks + 1 }->wpAny (model X.prog X.w) X.A (f (.int i t) (.int j u)) Q E s) :
  yW X f (vF λi j=>.int (g i j)):=by
 intro pins s σ H x y v u Q I rx ry h
 obtain ⟨i,j,rfl,rfl,q⟩:=h
 obtain ⟨t,rfl⟩:=rx
 obtain ⟨t',rfl⟩:=ry
 exact rule i j t t' s _ _ ⟨.int (g i j),H,I.tok _,⟨_,rfl⟩,q⟩
theorem uI {f:Value->Value->Sem Value} {g:Int->Int->Bool}
  (rule:∀ (i j:Int) (t u:Tok) (s:Shared) (Q:Value->Shared->Prop) (E:Value->Shared->Prop),Q (.bool (g i j)) s->wpAny (model X.prog X.w) X.A (f (.int i t) (.int j u)) Q E s) :
  yW X f (vF λi j=>.bl (g i j)):=by
 intro pins s σ H x y v u Q I rx ry h
 obtain ⟨i,j,rfl,rfl,q⟩:=h
 obtain ⟨t,rfl⟩:=rx
 obtain ⟨t',rfl⟩:=ry
 exact rule i j t t' s _ _ ⟨.bl (g i j),H,I,rfl,q⟩
def jU (i j:Int):Prop:=0<=j/\j<=1000000/\i.natAbs < 2 ^ 64
def gL (i j:Int):Prop:=(-(2 ^ 64) < i/\i < 2 ^ 64)\/(-(2 ^ 64) < j/\j < 2 ^ 64)
theorem gL.ok {i j:Int} (h:gL i j):IntMulOk i j:=by
 rcases h with ⟨h1,h2⟩ | ⟨h1,h2⟩
 ·exact .of_left (intBits_le_64 h1 h2)
 ·exact .of_right (intBits_le_64 h1 h2)
theorem zPC:yW X (binaryOp .Add) (vF λi j=>.int (i + j)):=gK λ_ _ _ _ _ _ _ q=>add_int q
theorem zO3:yW X (binaryOp .Sub) (vF λi j=>.int (i - j)):=gK λ_ _ _ _ _ _ _ q=>sub_int q
theorem zNJ:yW X (binaryOp .Mod) (rI (λ_ j=>j≠0) λi j=>.int (i.fmod j)):=Z6 λ_ _ _ _ _ _ _ hc q=>mod_int' hc q
theorem zO5:yW X (binaryOp .Pow) (rI jU λi j=>.int (i ^ j.toNat)):=Z6 λ_ _ _ _ _ _ _ hc q=>pow_int_small hc.1 hc.2.1 hc.2.2 q
theorem unI {f:Value->Sem Value} {g:Int->Int}
  (rule:∀ (i:Int) (t:Tok) (s:Shared) (Q:Value->Shared->Prop) (E:Value->Shared->Prop),Q (.int (g i) s.toks) { s with toks:=s.toks + 1 }->wpAny (model X.prog X.w) X.A (f (.int i t)) Q E s) :
  X2 X f (rU λi=>.int (g i)):=by
 intro pins s σ H x v Q I rx h
 obtain ⟨i,rfl,q⟩:=h
 obtain ⟨t,rfl⟩:=rx
 exact rule i t s _ _ ⟨.int (g i),H,I.tok _,⟨_,rfl⟩,q⟩
theorem zOB:X2 X (unaryOp .USub) (rU λi=>.int (-i)):=unI λ_ _ _ _ _ q=>neg_int q
end
def gM:V->V->Bool
 | .non,.non=>true | .non,.int _=>true | .int _,.non=>true | .non,.bl _=>true | .bl _,.non=>true | .non,.str _=>true | .str _,.non=>true
 | .int _,.int _=>true | .bl _,.bl _=>true | .str _,.str _=>true | .byt _,.byt _=>true
 | .int _,.str _=>true | .str _,.int _=>true | .bl _,.str _=>true | .str _,.bl _=>true
 | _,_=>false
def J0:R2:=λx y H Q=>gM x y=true/\Q (.bl (decide (x=y))) H
def J1:R2:=λx y H Q=>gM x y=true/\Q (.bl (!decide (x=y))) H
theorem Z7 {i j:Int}:decide (V.int i=V.int j)=(i == j):=by
 rw [Bool.eq_iff_iff]
 simp
theorem Z8 {i j:Bool}:decide (V.bl i=V.bl j)=(i == j):=by
 rw [Bool.eq_iff_iff]
 simp
theorem Z9 {i j:Str}:decide (V.str i=V.str j)=(i == j):=by
 rw [Bool.eq_iff_iff]
 simp
theorem J5 {i j:Array UInt8}:decide (V.byt i=V.byt j)=(i.toList == j.toList):=by
 rw [Bool.eq_iff_iff]
 cases i
 cases j
 simp
section
variable {X:Cx} {a b c:Expr} {ta tb tc:TE} {pos:Pos}
theorem yi {pins:List (Addr × Obj)} {σ:St} {H:Hp} {s:Shared} {Q:VK} {k k':Bool} (I:zD X pins σ H s) (q:Q (.bl k) H) (e:k=k'):EP X pins σ Q (.bool k') s:=by
 subst e
 exact ⟨.bl k,H,I,rfl,q⟩
theorem J7:yW X (compareOp .Eq) J0:=by
 intro pins s σ H x y v u Q I rx ry h
 obtain ⟨hs,q⟩:=h
 cases x with
 | non=>
  cases rx
  cases y with
  | non=>cases ry; exact PySem.EqNone.eq_none_none (yi I q (by simp))
  | bl j=>cases ry; exact PySem.EqNone.eq_none_bool (yi I q (by simp))
  | int j=>obtain ⟨t',rfl⟩:=ry; exact PySem.EqNone.eq_none_int (yi I q (by simp))
  | str j=>obtain ⟨t',rfl⟩:=ry; exact PySem.EqNone.eq_none_str (yi I q (by simp))
  | _=>exact absurd (show false=true from hs) Bool.false_ne_true
 | bl i=>
  cases rx
  cases y with
  | non=>cases ry; exact PySem.EqNone.eq_bool_none (yi I q (by simp))
  | bl j=>cases ry; exact eq_bool (yi I q Z8)
  | str j=>obtain ⟨t',rfl⟩:=ry; exact PySem.EqMixed.eq_bool_str (yi I q (by simp))
  | _=>exact absurd (show false=true from hs) Bool.false_ne_true
 | int i=>
  obtain ⟨t,rfl⟩:=rx
  cases y with
  | non=>cases ry; exact PySem.EqNone.eq_int_none (yi I q (by simp))
  | int j=>obtain ⟨t',rfl⟩:=ry; exact eq_int (yi I q Z7)
  | str j=>obtain ⟨t',rfl⟩:=ry; exact PySem.EqMixed.eq_int_str (yi I q (by simp))
  | _=>exact absurd (show false=true from hs) Bool.false_ne_true
 | str i=>
  obtain ⟨t,rfl⟩:=rx
  cases y with
  | non=>cases ry; exact PySem.EqNone.eq_str_none (yi I q (by simp))
  | bl j=>cases ry; exact PySem.EqMixed.eq_str_bool (yi I q (by simp))
  | int j=>obtain ⟨t',rfl⟩:=ry; exact PySem.EqMixed.eq_str_int (yi I q (by simp))
  | str j=>obtain ⟨t',rfl⟩:=ry; exact eq_str (yi I q Z9)
  | _=>exact absurd (show false=true from hs) Bool.false_ne_true
 | byt i=>
  obtain ⟨t,rfl⟩:=rx
  cases y with
  | byt j=>obtain ⟨t',rfl⟩:=ry; exact PySem.W.eq_bytes (yi I q J5)
  | _=>exact absurd (show false=true from hs) Bool.false_ne_true
 | _=>cases y <;> exact absurd (show false=true from hs) Bool.false_ne_true
theorem J8:yW X (compareOp .NotEq) J1:=by
 intro pins s σ H x y v u Q I rx ry h
 obtain ⟨hs,q⟩:=h
 cases x with
 | non=>
  cases rx
  cases y with
  | non=>cases ry; exact PySem.EqNone.ne_none_none (yi I q (by simp))
  | bl j=>cases ry; exact PySem.EqNone.ne_none_bool (yi I q (by simp))
  | int j=>obtain ⟨t',rfl⟩:=ry; exact PySem.EqNone.ne_none_int (yi I q (by simp))
  | str j=>obtain ⟨t',rfl⟩:=ry; exact PySem.EqNone.ne_none_str (yi I q (by simp))
  | _=>exact absurd (show false=true from hs) Bool.false_ne_true
 | bl i=>
  cases rx
  cases y with
  | non=>cases ry; exact PySem.EqNone.ne_bool_none (yi I q (by simp))
  | bl j=>cases ry; exact ne_bool (yi I q (congrArg not Z8))
  | str j=>obtain ⟨t',rfl⟩:=ry; exact PySem.EqMixed.ne_bool_str (yi I q (by simp))
  | _=>exact absurd (show false=true from hs) Bool.false_ne_true
 | int i=>
  obtain ⟨t,rfl⟩:=rx
  cases y with
  | non=>cases ry; exact PySem.EqNone.ne_int_none (yi I q (by simp))
  | int j=>obtain ⟨t',rfl⟩:=ry; exact ne_int (yi I q (congrArg not Z7))
  | str j=>obtain ⟨t',rfl⟩:=ry; exact PySem.EqMixed.ne_int_str (yi I q (by simp))
  | _=>exact absurd (show false=true from hs) Bool.false_ne_true
 | str i=>
  obtain ⟨t,rfl⟩:=rx
  cases y with
  | non=>cases ry; exact PySem.EqNone.ne_str_none (yi I q (by simp))
  | bl j=>cases ry; exact PySem.EqMixed.ne_str_bool (yi I q (by simp))
  | int j=>obtain ⟨t',rfl⟩:=ry; exact PySem.EqMixed.ne_str_int (yi I q (by simp))
  | str j=>obtain ⟨t',rfl⟩:=ry; exact ne_str (yi I q (congrArg not Z9))
  | _=>exact absurd (show false=true from hs) Bool.false_ne_true
 | byt i=>
  obtain ⟨t,rfl⟩:=rx
  cases y with
  | byt j=>obtain ⟨t',rfl⟩:=ry; exact PySem.W.ne_bytes (yi I q (congrArg not J5))
  | _=>exact absurd (show false=true from hs) Bool.false_ne_true
 | _=>cases y <;> exact absurd (show false=true from hs) Bool.false_ne_true
theorem J9:yW X (compareOp .Lt) (vF λi j=>.bl (decide (i < j))):=uI λ_ _ _ _ _ _ _ q=>lt_int q
theorem gN:yW X (compareOp .LtE) (vF λi j=>.bl (decide (i<=j))):=uI λ_ _ _ _ _ _ _ q=>le_int q
theorem QA:yW X (compareOp .Gt) (vF λi j=>.bl (decide (j < i))):=uI λ_ _ _ _ _ _ _ q=>gt_int q
theorem QB:yW X (compareOp .GtE) (vF λi j=>.bl (decide (j<=i))):=uI λ_ _ _ _ _ _ _ q=>ge_int q
theorem QC:yW X (compareOp .Is) (λx y H Q=>y=.non/\Q (.bl (decide (x=.non))) H):=by
 intro pins s σ H x y v u Q I rx ry h
 obtain ⟨rfl,q⟩:=h
 cases ry
 refine is_none_gen (yi I q ?_)
 cases x <;> first
  | (cases rx; rfl)
  | (obtain ⟨t,rfl⟩:=rx; rfl)
theorem zNH:yW X (compareOp .IsNot) (λx y H Q=>y=.non/\Q (.bl (!decide (x=.non))) H):=by
 intro pins s σ H x y v u Q I rx ry h
 obtain ⟨rfl,q⟩:=h
 cases ry
 refine isnot_none_gen (yi I q ?_)
 cases x <;> first
  | (cases rx; rfl)
  | (obtain ⟨t,rfl⟩:=rx; rfl)
def isObj:HO->Bool
 | .lst _=>true
 | .ins _ _ _=>true
 | _=>false
theorem yW.or {f:Value->Value->Sem Value} {r r':R2} (h:yW X f r) (h':yW X f r'):yW X f (λx y H Q=>r x y H Q\/r' x y H Q):=by
 intro pins s σ H x y v u Q I rx ry q
 rcases q with q | q
 ·exact h pins s σ H x y v u Q I rx ry q
 ·exact h' pins s σ H x y v u Q I rx ry q
theorem wq (b:Expr) {op:CmpOp} (h:op≠.In:=by decide) (h2:op≠.NotIn:=by decide):behindInMarks op b=false:=by
 have e1:(op == CmpOp.In)=false:=by cases op <;> first | rfl | exact absurd rfl h
 have e2:(op == CmpOp.NotIn)=false:=by cases op <;> first | rfl | exact absurd rfl h2
 cases b <;> simp [behindInMarks,e1,e2]
theorem zNE {op:CmpOp} {r:R2} (ho:yW X (compareOp op) r) (ha:PE X a ta) (hb:PE X b tb) (hm:behindInMarks op b=false):PE X (.Compare a [op] [b] pos) (qI r ta tb):=by
 intro pins s σ H Q I h
 exact wpAny_Compare1 (jT ha hb I h λv u s2 x y H2 I2 rx ry q=>ho pins s2 σ H2 x y v u Q I2 rx ry q) hm
def QD (t:TE):TT:=λσ H Q=>t σ H λx H'=>∃ k,x=.bl k/\Q k H'
theorem zM5 {op:CmpOp} {r:R2} (ho:yW X (compareOp op) r) (ha:PE X a ta) (hb:PE X b tb) (hm:behindInMarks op b=false):PT X (.Compare a [op] [b] pos) (QD (qI r ta tb)):=by
 intro pins s σ H Q I h
 refine wpAny_isTrue_Compare1 (zb (ha pins s σ H _ I h) λv s1 ⟨x,H1,I1,r1,q1⟩=>zb (hb pins s1 σ H1 _ I1 q1) λu s2 ⟨y,H2,I2,r2,q2⟩=>
  zb (ho pins s2 σ H2 x y v u _ I2 r1 r2 q2) λc s3 ⟨z,H3,I3,r3,k,e,q3⟩=>?_) hm
 subst e
 cases r3
 exact wpAny_truthy_bool ⟨H3,I3,q3⟩
theorem YA:(sizeLine:Nat) < 2 ^ 63:=by rw [sizeLine_eq]; decide
theorem vG {x:V} {us:List Value} (r:zK [x] us):∃ u,us=[u]/\zN x u:=by
 cases r with
 | cons r1 r2=>cases r2; exact ⟨_,rfl,r1⟩
theorem qJ {x y:V} {us:List Value} (r:zK [x,y] us):∃ u w',us=[u,w']/\zN x u/\zN y w':=by
 cases r with
 | cons r1 r2=>
  cases r2 with
  | cons r3 r4=>cases r4; exact ⟨_,_,rfl,r1,r3⟩
theorem zL4:xN X (.builtin "abs") (λxs H Q=>∃ i,xs=[.int i]/\Q (.int (if i < 0 then -i else i)) H):=by
 intro pins s σ H xs us Q I r h
 obtain ⟨i,rfl,q⟩:=h
 obtain ⟨u,rfl,t,rfl⟩:=vG r
 exact call_abs_int λu tk=>⟨.int (if i < 0 then -i else i),H,I.tok _,⟨_,rfl⟩,q⟩
theorem X3 (hc:X.calm=true):xN X (.builtin "max") (λxs H Q=>∃ i j,xs=[.int i,.int j]/\Q (.int (if j > i then j else i)) H):=by
 intro pins s σ H xs us Q I r h
 obtain ⟨i,j,rfl,q⟩:=h
 obtain ⟨u,w',rfl,⟨t,rfl⟩,⟨t',rfl⟩⟩:=qJ r
 refine max_two_ints (I.ok.hd hc) λh' tk k=>⟨_,H,I.kept k,?_,q⟩
 by_cases hj:j > i
 ·rw [if_pos hj,if_pos hj]; exact ⟨_,rfl⟩
 ·rw [if_neg hj,if_neg hj]; exact ⟨_,rfl⟩
theorem zKf (hc:X.calm=true):xN X (.builtin "min") (λxs H Q=>∃ i j,xs=[.int i,.int j]/\Q (.int (if j < i then j else i)) H):=by
 intro pins s σ H xs us Q I r h
 obtain ⟨i,j,rfl,q⟩:=h
 obtain ⟨u,w',rfl,⟨t,rfl⟩,⟨t',rfl⟩⟩:=qJ r
 refine min_two_ints (I.ok.hd hc) λh' tk k=>⟨_,H,I.kept k,?_,q⟩
 by_cases hj:j < i
 ·rw [if_pos hj,if_pos hj]; exact ⟨_,rfl⟩
 ·rw [if_neg hj,if_neg hj]; exact ⟨_,rfl⟩
theorem X4:xN X (.type "int") (λxs H Q=>(∃ i,xs=[.int i]/\Q (.int i) H)\/∃ k,xs=[.bl k]/\Q (.int (if k then 1 else 0)) H):=by
 intro pins s σ H xs us Q I r h
 rcases h with ⟨i,rfl,q⟩ | ⟨k,rfl,q⟩
 ·obtain ⟨u,rfl,t,rfl⟩:=vG r
  exact call_int_int ⟨.int i,H,I,⟨_,rfl⟩,q⟩
 ·obtain ⟨u,rfl,r1⟩:=vG r
  cases r1
  exact call_int_bool ⟨.int (if k then 1 else 0),H,I.tok _,⟨_,rfl⟩,q⟩
end
end L2
namespace L2
open PySem PySem.Spec PyProof.Rows
structure wX (h:Heap) (x dx C:Addr) (mA:Str->Option Value):Prop where
 obj:h.get? x=some (PySem.W.instObj C dx)
 ns:h.Ns1 dx mA
 ne:dx≠x
theorem zJ9 {h:Heap} {dx:Addr} {mA:Str->Option Value} (n:h.Ns1 dx mA):∃ od,h.get? dx=some od/\∀ name,PySem.W.lookIn name od=some (mA name):=by
 obtain ⟨o,es,ep,ho,hd,hk,_,hm⟩:=n
 refine ⟨o,ho,λname=>?_⟩
 have e:=hm name
 unfold nsFind findBy at e
 rw [<- Array.find?_toList] at e
 unfold PySem.W.lookIn
 rw [hd]
 dsimp only
 split
 ·rename_i y q
  rw [q] at e
  exact congrArg some e
 ·rename_i q
  rw [q] at e
  have a:es.toList.any (·.refKey)=false:=by
   rw [List.any_eq_false]
   intro y hy
   obtain ⟨z,t,hkey⟩:=hk y (Array.mem_toList_iff.mp hy)
   simp [DictEntry.refKey,hkey]
  have a':¬ es.toList.any (·.refKey)=true:=by rw [a]; exact Bool.false_ne_true
  rw [if_neg a']
  exact congrArg some e
theorem wX.look {h:Heap} {x dx C:Addr} {mA:Str->Option Value} (I:wX h x dx C mA):∃ od,PySem.W.InstAt h x (PySem.W.instObj C dx) C (some od)/\∀ name,PySem.W.lookIn name od=some (mA name):=
 let ⟨od,ho,hl⟩:=zJ9 I.ns
 ⟨od,⟨I.obj,rfl,rfl,ho⟩,hl⟩
section
variable {prog:Program} {w:World} {A:Around} {E:Value->Shared->Prop} {s:Shared} {K:PySem.W.Frag} {x dx C f:Addr} {mA:Str->Option Value} {name:Str} {v:Value}
theorem u3 {expr:Bool} {Q:Value->Shared->Prop} (X:K.In s.heap) (I:wX s.heap x dx C mA) (hg:PySem.W.plainGet K C name=true) (hh:PySem.W.hasDictIn K C=true)
  (ha:PySem.W.findIn K (.ref C) name=some none) (hv:mA name=some v) (hv':PySem.W.handedIn v=true) (h:Q v { s with toks:=s.toks + 1 }) :
  wpAny (model prog w) A (getAttr (.ref x) name expr) Q E s:=by
 obtain ⟨od,J,hl⟩:=I.look
 exact PySem.W.get_value X J (PySem.W.plainGet_of hg).1 (PySem.W.findObj_own hh ha rfl (by rw [hl,hv])) hv' h
theorem zLz {pl:Sem Bool} {Q:Value × List Value->Shared->Prop} (X:K.In s.heap) (I:wX s.heap x dx C mA) (hg:PySem.W.plainGet K C name=true)
  (hf:PySem.W.findIn K (.ref C) name=some (some (.ref f))) (ht:PySem.W.isFn K (.ref f)=true) (hv:mA name=none) (h:Q (.ref f,[.ref x]) s) :
  wpAny (model prog w) A (getMethod (.ref x) name pl) Q E s:=by
 obtain ⟨od,J,hl⟩:=I.look
 exact PySem.W.method_fn X J (PySem.W.plainGet_of hg).1 (PySem.W.plainGet_of hg).2 hf (beq_iff_eq.mp ht) (by show (PySem.W.lookIn name od).map (·.isSome)=some false; rw [hl,hv]; rfl) h
theorem zMu {ns:List Str} {Q:Unit->Shared->Prop} (X:K.In s.heap) (I:wX s.heap x dx C mA)
  (hs:PySem.W.findIn K (.ref C) "__setattr__" = some (some (.builtin "object.__setattr__"))) (hp:PySem.W.plainOver K C=true) (ht:PySem.W.takerIn K C name=some none) (hh:PySem.W.hasDictIn K C=true)
  (hw:PySem.Within mA ns) (hsz:ns.length<=sizeLine)
  (h:∀ h',wX h' x dx C (λy=>if y=name then some v else mA y)->Heap.SameBut dx s.heap h'->Q () { s with heap:=h',toks:=s.toks + 2 }) :
  wpAny (model prog w) A (setAttr (.ref x) name v) Q E s:=by
 obtain ⟨od,J,hl⟩:=I.look
 refine PySem.W.set_plain X J hs (PySem.W.osa_open (s:={ s with toks:=s.toks + 1 }) (r:=none) X J hp ht λb=>?_)
 obtain ⟨cd,hc,hd'⟩:=PySem.W.any_some hh
 have hx:s.heap.get? x=some ⟨.ref C,some dx,.plain,#[]⟩:=I.obj
 refine wpAny_bind (wpAny_pure (wpAny_bind (wpAny_bind (wpAny_loadPart hx (wpAny_bind (PySem.W.Looks.here (s:={ s with toks:=s.toks + 1 }) (PySem.W.looks_clsIn X hc) ?_))))))
 rw [hd']
 refine wpAny_pure (a:=some dx) (wpAny_bind (wpAny_pure (wpAny_bind ?_)))
 refine wpAny_nsSet1 (s:={ s with toks:=s.toks + 1 }) I.ns λh' hn2 hs2=>?_
 obtain ⟨oD,esD,epD,hoD,hdD,hcD⟩:=hn2.count (PySem.Within.cons name v hw)
 refine wpAny_bind (wpAny_lookBehind hoD (by rw [hdD]; exact pastItsLine_dict (Nat.le_trans hcD (by rw [List.length_cons]; omega))) ?_)
 exact wpAny_pure (h _ ⟨(hs2.2 _ (Ne.symm I.ne)).trans I.obj,hn2,I.ne⟩ hs2)
theorem zLr {R:Result->Shared->Prop} {vs:List Value} {kw:List (Str × Value)} (X:K.In s.heap) (hm:PySem.W.makesIn K C=true)
  (hi:PySem.W.findIn K (.ref C) "__init__" = some (some (.ref f))) (hf:PySem.W.typeIn K (.ref f)=some (.type "function"))
  (h:codeAny (model prog w) (A.under (.builtin "type.__call__" ⟨.ref C :: vs,kw⟩)) (.call (.ref f) ⟨.ref (s.heap.objs.size + 1) :: vs,kw⟩) (PySem.W.InitBack (s.heap.objs.size + 1) R)
   { s with heap:=(s.heap.push PySem.W.emptyDict).push (PySem.W.instObj C s.heap.objs.size) }) :
  codeAny (model prog w) A (.call (.ref C) ⟨vs,kw⟩) R s:=by
 obtain ⟨hh,g,d,t,os⟩:=s
 exact PySem.W.make_core (PySem.W.makes_of X hm) (PySem.W.looks_findIn X hi) (λself=>PySem.W.bind_fn X self hf) (.inl rfl) h
end
def yR (f:Str) (v:V):List (Str × V)->List (Str × V)
 | []=>[(f,v)]
 | (g,x) :: r=>if g=f then (g,v) :: r else (g,x) :: yR f v r
theorem QE (f g:Str) (v:V):∀ fs:List (Str × V),(yR f v fs).lookup g=if g=f then some v else fs.lookup g
 | []=>by
  show List.lookup g [(f,v)]=_
  by_cases h:g=f
  ·have hb:(g == f)=true:=beq_iff_eq.mpr h
   simp only [List.lookup,hb,if_pos h]
  ·have hb:(g == f)=false:=beq_eq_false_iff_ne.mpr h
   simp only [List.lookup,hb,if_neg h]
 | (k,x) :: r=>by
  have ih:=QE f g v r
  rw [show yR f v ((k,x) :: r)=(if k=f then (k,v) :: r else (k,x) :: yR f v r) from rfl]
  by_cases hk:k=f
  ·rw [if_pos hk]
   by_cases h:g=k
   ·have hb:(g == k)=true:=beq_iff_eq.mpr h
    simp only [List.lookup,hb,if_pos (h.trans hk)]
   ·have hb:(g == k)=false:=beq_eq_false_iff_ne.mpr h
    simp only [List.lookup,hb,if_neg (λe:g=f=>h (e.trans hk.symm))]
  ·rw [if_neg hk]
   by_cases h:g=k
   ·have hb:(g == k)=true:=beq_iff_eq.mpr h
    simp only [List.lookup,hb,if_neg (λe:g=f=>hk (h.symm.trans e))]
   ·have hb:(g == k)=false:=beq_eq_false_iff_ne.mpr h
    simp only [List.lookup,hb]
    exact ih
theorem X5 (f:Str) (v:V):∀ fs:List (Str × V),f∈(yR f v fs).map (·.1)/\∀ g,g∈fs.map (·.1)->g∈(yR f v fs).map (·.1)
 | []=>⟨by simp [yR],λg h=>by simp at h⟩
 | (k,x) :: r=>by
  obtain ⟨i1,i2⟩:=X5 f v r
  rw [show yR f v ((k,x) :: r)=(if k=f then (k,v) :: r else (k,x) :: yR f v r) from rfl]
  by_cases hk:k=f
  ·rw [if_pos hk]
   subst hk
   exact ⟨by simp,λg h=>by simpa using h⟩
  ·rw [if_neg hk]
   refine ⟨?_,λg h=>?_⟩
   ·rw [List.map_cons]
    exact List.mem_cons_of_mem _ i1
   ·rw [List.map_cons] at h |-
    rcases List.mem_cons.mp h with e | e
    ·exact List.mem_cons.mpr (.inl e)
    ·exact List.mem_cons_of_mem _ (i2 g e)
theorem QF (f:Str) (v:V):∀ fs:List (Str × V),(yR f v fs).length<=fs.length + 1
 | []=>by simp [yR]
 | (k,x) :: r=>by
  have ih:=QF f v r
  rw [show yR f v ((k,x) :: r)=(if k=f then (k,v) :: r else (k,x) :: yR f v r) from rfl]
  by_cases hk:k=f
  ·rw [if_pos hk,List.length_cons,List.length_cons]; omega
  ·rw [if_neg hk,List.length_cons,List.length_cons]; omega
theorem ye.some_of {v:V} {o:Option Value} (r:ye (some v) o):∃ u,o=some u/\zN v u:=by
 cases o with
 | none=>exact (show False from r).elim
 | some u=>exact ⟨u,rfl,r⟩
theorem ye.none_of {o:Option Value} (r:ye none o):o=none:=by
 cases o with
 | none=>rfl
 | some u=>exact (show False from r).elim
theorem zKH {v:V} {u:Value} (r:zN v u):PySem.W.handedIn u=true:=by
 cases v with
 | non=>cases (show u=Value.none from r); rfl
 | bl b=>cases (show u=Value.bool b from r); rfl
 | int i=>obtain ⟨t,e⟩:=(show ∃ t,u=Value.int i t from r); cases e; rfl
 | str x=>obtain ⟨t,e⟩:=(show ∃ t,u=Value.str x t from r); cases e; rfl
 | byt b=>obtain ⟨t,e⟩:=(show ∃ t,u=Value.bytes b t from r); cases e; rfl
 | flt b=>obtain ⟨t,e⟩:=(show ∃ t,u=Value.float b t from r); cases e; rfl
 | ref a=>cases (show u=Value.ref a from r); rfl
 | ty n=>cases (show u=Value.type n from r); rfl
section
variable {P:Program} {w:World} {H H':Hp} {h h':Heap} {a C dx:Addr} {fs fs':List (Str × V)}
theorem YB (hok:yh P w H h) (e:H a=some (.ins C dx fs)):∃ mA,wX h a dx C mA/\(∀ f,ye (fs.lookup f) (mA f))/\PySem.Within mA (fs.map (·.1))/\fs.length<=1000/\H dx=some (.own a):=by
 obtain ⟨d,z,ne,ob,mA,n,r,q⟩:=(show xM P w H h a (.ins C dx fs) from hok a _ e)
 exact ⟨mA,⟨ob,n,ne⟩,r,q,z,d⟩
end
structure vX (K:PySem.W.Frag) (C:Addr):Prop where
 pg:PySem.W.plainGet K C Str.empty=true
 hd:PySem.W.hasDictIn K C=true
 po:PySem.W.plainOver K C=true
 sa:PySem.W.findIn K (.ref C) "__setattr__" = some (some (.builtin "object.__setattr__"))
theorem vX.get {K:PySem.W.Frag} {C:Addr} (c:vX K C) (f:Str):PySem.W.plainGet K C f=true:=c.pg
def wP (K:PySem.W.Frag) (C:Addr) (f:Str):Prop:=PySem.W.findIn K (.ref C) f=some none
theorem wP.taker {K:PySem.W.Frag} {C:Addr} {f:Str} (n:wP K C f):PySem.W.takerIn K C f=some none:=by
 unfold PySem.W.takerIn
 rw [show PySem.W.findIn K (.ref C) f=some none from n]
 rfl
structure uJ (K:PySem.W.Frag) (C:Addr) (m:Str) (f:Addr):Prop where
 at_:PySem.W.findIn K (.ref C) m=some (some (.ref f))
 fn:PySem.W.isFn K (.ref f)=true
 kp:PySem.W.keepIn K (.ref f)=true
section
variable {X:Cx} {pins:List (Addr × Obj)} {σ:St} {H:Hp} {s:Shared} {a C dx:Addr} {fs:List (Str × V)} {f:Str} {v:V} {A:Around} {E:Value->Shared->Prop}
theorem zI1 {b:Bool} {Q:Value->Shared->Prop} (I:zD X pins σ H s) (e:H a=some (.ins C dx fs)) (c:vX X.K C) (n:wP X.K C f) (l:fs.lookup f=some v)
  (h:∀ u s',zD X pins σ H s'->zN v u->Q u s'):wpAny (model X.prog X.w) A (getAttr (.ref a) f b) Q E s:=by
 obtain ⟨mA,O,r,_,_,_⟩:=YB I.hok e
 obtain ⟨u,hu,ru⟩:=ye.some_of (v:=v) (o:=mA f) (by rw [<- l]; exact r f)
 exact u3 I.kIn O (c.get f) c.hd n hu (zKH ru) (h u _ (I.tok _) ru)
theorem zI0 {m:Str} {g:Addr} {pl:Sem Bool} {Q:Value × List Value->Shared->Prop} (I:zD X pins σ H s) (e:H a=some (.ins C dx fs)) (c:vX X.K C) (k:uJ X.K C m g) (l:fs.lookup m=none)
  (h:Q (.ref g,[.ref a]) s):wpAny (model X.prog X.w) A (getMethod (.ref a) m pl) Q E s:=by
 obtain ⟨mA,O,r,_,_,_⟩:=YB I.hok e
 have hn:mA m=none:=ye.none_of (by rw [<- l]; exact r m)
 exact zLz I.kIn O (c.get m) k.at_ k.fn hn h
theorem zIe {y:V} {u:Value} {Q:Unit->Shared->Prop} (I:zD X pins σ H s) (e:H a=some (.ins C dx fs)) (c:vX X.K C) (n:wP X.K C f) (hl:fs.length < 1000) (ry:zN y u)
  (h:∀ s',zD X pins σ (upd H a (.ins C dx (yR f y fs))) s'->Q () s'):wpAny (model X.prog X.w) A (setAttr (.ref a) f u) Q E s:=by
 obtain ⟨mA,O,r,wi,_,ho⟩:=YB I.hok e
 have hz:(fs.map (·.1)).length<=sizeLine:=by rw [List.length_map,sizeLine_eq]; omega
 refine zMu I.kIn O c.sa c.po n.taker c.hd wi hz λh' O' sb=>h _ ?_
 have hd:∃ o,h'.get? dx=some o:=let ⟨o,_,_,e',_⟩:=O'.ns; ⟨o,e'⟩
 refine I.write (x:=a) (e:=dx) (by rw [e]; exact True.intro) (.inr ho) (λb q hb z=>(sb.2 b hb).trans z) hd ?_
 refine ⟨by rw [zh O.ne]; exact ho,?_,O.ne,O'.obj,_,O'.ns,λg=>?_,λg hg=>?_⟩
 ·have:=QF f y fs; omega
 ·show ye ((yR f y fs).lookup g) (if g=f then some u else mA g)
  rw [QE]
  by_cases q:g=f
  ·rw [if_pos q,if_pos q]; exact ry
  ·rw [if_neg q,if_neg q]; exact r g
 ·by_cases q:g=f
  ·rw [q]; exact (X5 f y fs).1
  ·refine (X5 f y fs).2 g (wi g λz=>hg ?_)
   show (if g=f then some u else mA g)=none
   rw [if_neg q]; exact z
theorem zD.made (I:zD X pins σ H s):zD X pins σ (upd (upd H s.heap.objs.size (.own (s.heap.objs.size + 1))) (s.heap.objs.size + 1) (.ins C s.heap.objs.size []))
  { s with heap:=(s.heap.push PySem.W.emptyDict).push (PySem.W.instObj C s.heap.objs.size) }:=by
 have e1:(s.heap.push PySem.W.emptyDict).get? s.heap.objs.size=some PySem.W.emptyDict:=Heap.get?_push_size s.heap rfl
 have e2:((s.heap.push PySem.W.emptyDict).push (PySem.W.instObj C s.heap.objs.size)).get? (s.heap.objs.size + 1)=some (PySem.W.instObj C s.heap.objs.size):=by
  have:=Heap.get?_push_size (s.heap.push PySem.W.emptyDict) (o:=PySem.W.instObj C s.heap.objs.size) rfl
  rwa [Heap.size_push] at this
 have e3:(s.heap.push PySem.W.emptyDict).Ns s.heap.objs.size (λ_=>none):=⟨PySem.W.emptyDict,#[],_,e1,rfl,(λe he=>absurd he (by simp)),λ_=>rfl⟩
 have I1:=I.laid (a:=s.heap.objs.size) (o:=.own (s.heap.objs.size + 1)) (h':=s.heap.push PySem.W.emptyDict) (t':=s.toks) (λb u q=>Heap.get?_push_of_some _ q) (Nat.le_refl _) ⟨_,e1⟩
 refine I1.laid (a:=s.heap.objs.size + 1) (o:=.ins C s.heap.objs.size []) (t':=s.toks) (λb u q=>Heap.get?_push_of_some _ q) (Nat.le_of_eq (Heap.size_push _ _)) ?_
 have ne:s.heap.objs.size≠s.heap.objs.size + 1:=Nat.ne_of_lt (Nat.lt_succ_self _)
 refine ⟨by rw [zh ne,xB],Nat.zero_le _,ne,e2,λ_=>none,(Heap.Ns1.of_empty e3).at λo q=>Heap.get?_push_of_some _ q,λ_=>True.intro,λy hy=>absurd rfl hy⟩
theorem zNz {prog:Program} {w:World} {env:Env} {e:Expr} {f:Str} {pos:Pos} {s:Shared} {Q:Value->Shared->Prop} (hb:attributeBase e f env (eval e env)=eval e env)
  (h:wpAny (model prog w) A (eval e env) (λo s₁=>wpAny (model prog w) A (getAttr o f true) Q E s₁) E s):wpAny (model prog w) A (eval (.Attribute e f pos) env) Q E s:=
 Attribute_any_ h (by rw [arm_eval_Attribute,hb])
end
def X6 (K:PySem.W.Frag) (ta:TE) (f:Str):TE:=λσ H Q=>ta σ H λx H1=>∃ a C dx fs v,x=.ref a/\H1 a=some (.ins C dx fs)/\vX K C/\wP K C f/\fs.lookup f=some v/\Q v H1
def gO (K:PySem.W.Frag) (ta tv:TE) (f:Str):TS:=λD σ H=>tv σ H λy H1=>ta σ H1 λx H2=>∃ a C dx fs,x=.ref a/\H2 a=some (.ins C dx fs)/\vX K C/\wP K C f/\fs.length < 1000∧
 D.nx σ (upd H2 a (.ins C dx (yR f y fs)))
section
variable {X:Cx} {o e value:Expr} {f:Str} {pos pos' tpos:Pos} {ta tv:TE}
theorem zOx (he:PE X e ta) (hb:attributeBase e f X.env (eval e X.env)=eval e X.env):PE X (.Attribute e f pos) (X6 X.K ta f):=by
 intro pins s σ H Q I h
 refine zNz hb (zb (he pins s σ H _ I h) λu s1 ⟨x,H1,I1,rx,a,C,dx,fs,v,ex,ea,c,n,l,q⟩=>?_)
 subst ex
 obtain rfl:u=Value.ref a:=rx
 exact zI1 I1 ea c n l λu' s2 I2 ru=>⟨v,H1,I2,ru,q⟩
theorem uK (ha:PE X o ta) (hv:PE X value tv) (hs:swapsWith value (some (.Attribute o f pos')) pos.line X.env=pure false):PS X (.Assign [.Attribute o f pos'] value pos) (gO X.K ta tv f):=by
 intro pins s σ H D I h
 refine plainObj_wpAny_Assign_Attribute (zb (hv pins s σ H _ I h) λu s1 ⟨y,H1,I1,ry,q⟩=>zb (ha pins s1 σ H1 _ I1 q) λov s2 ⟨x,H2,I2,rx,a,C,dx,fs,ex,ea,c,n,l,q2⟩=>?_) hs
 subst ex
 obtain rfl:ov=Value.ref a:=rx
 exact zIe I2 ea c n l ry λs3 I3=>⟨σ,_,I3,q2⟩
end
section
variable {X:Cx} {pins:List (Addr × Obj)} {σ:St} {H:Hp} {s:Shared} {A:Around} {E:Value->Shared->Prop} {Q:Value->Shared->Prop} {c:Value} {b:Bool}
inductive yD (K:PySem.W.Frag) (H:Hp):V->Value->Prop where
 | non:yD K H .non (.type "NoneType")
 | bl (x:Bool):yD K H (.bl x) (.type "bool")
 | int (i:Int):yD K H (.int i) (.type "int")
 | str (x:Str):yD K H (.str x) (.type "str")
 | flt (x:UInt64):yD K H (.flt x) (.type "float")
 | lst {a:Addr} {xs:List V} (e:H a=some (.lst xs)):yD K H (.ref a) (.type "list")
 | frz {a:Addr} {o:Obj} {xs:List V} (e:H a=some (.frz o (.lst xs))):yD K H (.ref a) (.type "list")
 | tup {a:Addr} {xs:List V} (e:H a=some (.tup xs)):yD K H (.ref a) (.type "tuple")
 | dK {a:Addr} {kvs:List (yH × V)} (e:H a=some (.dK kvs)):yD K H (.ref a) (.type "dict")
 | dT {a:Addr} {kvs:List (List yH × V)} (e:H a=some (.dT kvs)):yD K H (.ref a) (.type "dict")
 | ins {a C dx:Addr} {fs:List (Str × V)} (e:H a=some (.ins C dx fs)) (cl:vX K C) (ha:PySem.W.findIn K (.ref C) "__class__" = some (some (.builtin "object.__class__")))
   (hn:PySem.W.specialIn K (.builtin "object.__class__") "__get__" = some (some (.builtin "getset_descriptor.__get__"))) (htk:PySem.W.takesIn K (.builtin "object.__class__")=some true)
   (hm:PySem.W.mroIn K C (.type "object")=some true):yD K H (.ref a) (.ref C)
theorem QG {x:V} {u t:Value} (I:zD X pins σ H s) (rx:zN x u) (ty:yD X.K H x t) (e:PySem.W.kitOne X.K t c=some b) (h:∀ tk,Q (.bool b) { s with toks:=tk }) :
  wpAny (model X.prog X.w) A (call (.builtin "isinstance") [u,c]) Q E s:=by
 cases ty with
 | non=>cases (show u=Value.none from rx); exact PySem.W.kia_one PySem.W.kitx_none I.kIn True.intro e (λz=>nomatch z) h
 | bl y=>cases (show u=Value.bool y from rx); exact PySem.W.kia_one PySem.W.kitx_bool I.kIn True.intro e (λz=>nomatch z) h
 | int i=>obtain ⟨t,q⟩:=(show ∃ t,u=Value.int i t from rx); cases q; exact PySem.W.kia_one PySem.W.kitx_int I.kIn True.intro e (λz=>nomatch z) h
 | str y=>obtain ⟨t,q⟩:=(show ∃ t,u=Value.str y t from rx); cases q; exact PySem.W.kia_one PySem.W.kitx_str I.kIn True.intro e (λz=>nomatch z) h
 | flt y=>obtain ⟨t,q⟩:=(show ∃ t,u=Value.float y t from rx); cases q; exact PySem.W.kia_one PySem.W.kitx_float I.kIn True.intro e (λz=>nomatch z) h
 | @lst a xs ea=>
  cases (show u=Value.ref a from rx)
  obtain ⟨_,_,n,_,h1⟩:=(show xM X.prog X.w H s.heap a (.lst xs) from I.hok a _ ea)
  exact PySem.W.kia_one PySem.W.kitx_list I.kIn ⟨_,h1,rfl⟩ e (λz=>nomatch z) h
 | @frz a ob xs ea=>
  cases (show u=Value.ref a from rx)
  obtain ⟨_,_,_,n,_,h1⟩:=(show xM X.prog X.w H s.heap a (.frz ob (.lst xs)) from I.hok a _ ea)
  exact PySem.W.kia_one PySem.W.kitx_list I.kIn ⟨_,h1,rfl⟩ e (λz=>nomatch z) h
 | @tup a xs ea=>
  cases (show u=Value.ref a from rx)
  obtain ⟨_,_,_,p⟩:=(show xM X.prog X.w H s.heap a (.tup xs) from I.hok a _ ea)
  obtain ⟨o,h1,h2,_⟩:=p
  exact PySem.W.kia_one PySem.W.kitx_tuple I.kIn ⟨o,h1,h2⟩ e (λz=>nomatch z) h
 | @dK a kvs ea=>
  cases (show u=Value.ref a from rx)
  obtain ⟨_,_,vs,_,p⟩:=(show xM X.prog X.w H s.heap a (.dK kvs) from I.hok a _ ea)
  obtain ⟨o,es,ep,h1,h2,_⟩:=p
  exact PySem.W.kia_one PySem.W.kitx_dict I.kIn ⟨o,h1,h2.1⟩ e (λz=>nomatch z) h
 | @dT a kvs ea=>
  cases (show u=Value.ref a from rx)
  obtain ⟨_,_,xs,_,o,es,ep,h1,h2,_⟩:=(show xM X.prog X.w H s.heap a (.dT kvs) from I.hok a _ ea)
  exact PySem.W.kia_one PySem.W.kitx_dict I.kIn ⟨o,h1,h2.1⟩ e (λz=>nomatch z) h
 | @ins a C dx fs ea cl ha hn htk hm=>
  cases (show u=Value.ref a from rx)
  obtain ⟨mA,O,_⟩:=YB I.hok ea
  obtain ⟨od,J,_⟩:=O.look
  exact PySem.W.kia_one (PySem.W.kitx_own (cl.get _) cl.hd ha hn htk hm) I.kIn J e (λz=>nomatch z) h
end
end L2
namespace L2
open PySem PySem.Spec PyProof.Rows
structure zZ (k:Nat) (A:Around):Prop where
 hd:A.handled=none
 dp:A.depth + 3 * k + 5 < recursionLimit
 un:A.units + 16 * k + 200 < cLine
theorem zZ.mono {j k:Nat} {A:Around} (r:zZ k A) (h:j<=k):zZ j A:=⟨r.hd,by have:=r.dp; omega,by have:=r.un; omega⟩
theorem zZ.deeper {k:Nat} {A:Around} (r:zZ (k + 1) A) (env:Env):zZ k (A.deeper env):=
 ⟨r.hd,by have:=r.dp; show A.depth + 1 + 3 * k + 5 < _; omega,by have:=r.un; show A.units + 3 + 16 * k + 200 < _; omega⟩
theorem zZ.in1 {k:Nat} {A:Around} (r:zZ (k + 1) A):zZ k A.in1:=
 ⟨r.hd,by have:=r.dp; show A.depth + 3 * k + 5 < _; omega,by have:=r.un; show A.units + 1 + 16 * k + 200 < _; omega⟩
theorem zIz {A:Around} {C:Addr} {us:List Value} {kw:List (Str × Value)}:(A.under (.builtin "type.__call__" ⟨.ref C :: us,kw⟩)).depth=A.depth + 1:=by
 first | rfl | simp [Around.under,Code.weight,Code.isCreation,Code.isGuard,Code.isCaller,Code.frames,Code.isFrame,guardIds]
theorem zIy {A:Around} {C:Addr} {us:List Value} {kw:List (Str × Value)}:(A.under (.builtin "type.__call__" ⟨.ref C :: us,kw⟩)).units=A.units + 1:=by
 first | rfl | simp [Around.under,Code.cUnits,Code.frames,Code.isFrame]
theorem zZ.make {k:Nat} {A:Around} (r:zZ (k + 1) A) (C:Addr) (us:List Value) (kw:List (Str × Value)):zZ k (A.under (.builtin "type.__call__" ⟨.ref C :: us,kw⟩)):=
 ⟨r.hd,by have:=r.dp; rw [zIz]; omega,by have:=r.un; rw [zIy]; omega⟩
theorem zZ.depth {k:Nat} {A:Around} (r:zZ k A):A.depth < recursionLimit:=by have:=r.dp; omega
theorem zZ.units {k:Nat} {A:Around} (r:zZ k A):A.units + 64 < cLine:=by have:=r.un; omega
def wr:TA:=λ_ H Q=>Q [] H
def qK (ta:TE) (tr:TA):TA:=λσ H Q=>ta σ H λx H1=>tr σ H1 λxs H2=>Q (x :: xs) H2
section
variable {X:Cx} {e:Expr} {es:List Expr} {te:TE} {t:TA} {pos:Pos}
theorem yn:PA X [] wr:=λ_ _ _ _ H Q I h=>Calls.spliced_nil ⟨[],H,I,.nil,h⟩
theorem yI (ha:PE X e te) (hr:PA X es t) (hs:starEach (e :: es) X.env=(false,eval e X.env) :: starEach es X.env:=by rfl):PA X (e :: es) (qK te t):=by
 intro pos pins s σ H Q I h
 rw [hs]
 show wpAny _ _ (spliced ((false,eval e X.env) :: backTo pos (starEach es X.env))) _ _ s
 refine Calls.spliced_cons (zb (ha pins s σ H _ I h) λu s1 ⟨x,H1,I1,r1,q1⟩=>?_)
 exact zb (hr pos pins s1 σ H1 _ I1 q1) λus s2 ⟨xs,H2,I2,r2,q2⟩=>⟨x :: xs,H2,I2,.cons r1 r2,q2⟩
def X7 (t:TA):TE:=λσ H Q=>t σ H λxs H1=>xs.length<=sizeLine/\∀ p,H1 p=none->Q (.ref p) (upd H1 p (.tup xs))
def X8 (t:TA):TE:=λσ H Q=>t σ H λxs H1=>xs.length<=sizeLine/\∀ p,H1 p=none->Q (.ref p) (upd H1 p (.lst xs))
theorem zOr {x1} (h:PA X es t):PE X (.Tuple es x1 pos) (X7 t):=by
 intro pins s σ H Q I hq
 refine wpAny_Tuple_spliced (zb (h pos pins s σ H _ I hq) λus s1 ⟨xs,H1,I1,r,z,q⟩=>⟨by rw [<- r.length]; exact z,?_⟩)
 have hf:H1 s1.heap.objs.size=none:=I1.hok.fresh (Nat.le_refl _)
 refine ⟨.ref s1.heap.objs.size,upd H1 s1.heap.objs.size (.tup xs),I1.laid (t':=s1.toks) (λb u e=>Heap.get?_push_of_some _ e) (Nat.le_refl _) ?_,rfl,q _ hf⟩
 exact ⟨z,us,r,⟨_,Heap.get?_push_size _ rfl,rfl,_,rfl⟩⟩
theorem QH (h:PA X es t):PE X (.List es pos) (X8 t):=by
 intro pins s σ H Q I hq
 refine wpAny_List_spliced (zb (h pos pins s σ H _ I hq) λus s1 ⟨xs,H1,I1,r,z,q⟩=>⟨by rw [<- r.length]; exact z,?_⟩)
 have hf:H1 s1.heap.objs.size=none:=I1.hok.fresh (Nat.le_refl _)
 refine ⟨.ref s1.heap.objs.size,upd H1 s1.heap.objs.size (.lst xs),I1.laid (t':=s1.toks) (λb u e=>Heap.get?_push_of_some _ e) (Nat.le_refl _) ?_,rfl,q _ hf⟩
 exact ⟨z,us,0,r,Heap.get?_push_size _ rfl⟩
end
abbrev Sp:=List V->Hp->VK->XK->Prop
abbrev wY:=List Env->Hp->Shared->XK->Value->Shared->Prop
structure xG (P:Program) (w:World) (K:PySem.W.Frag) (mg:Str->Option Value) (base:Heap) (A:Around) (outer:List Env) (s:Shared) (H:Hp):Prop where
 frames:A.frames=some outer
 mod:Mod K mg base
 bs:∀ b o,base.get? b=some o->s.heap.get? b=some o/\H b=none
 bsz:base.objs.size<=s.heap.objs.size
 funs:s.heap.FunFrames base outer
 frf:∀ b∈xg outer,H b=none
 hok:yh P w H s.heap
 bare:AllBare s.gens
def CE (outer:List Env) (P:Program) (w:World) (H:Hp) (s:Shared) (Q:VK) (u:Value) (s':Shared):Prop:=
 ∃ v H',s'.os=s.os/\AllBare s'.gens/\Un (xg outer) [] H H' s.heap s'.heap/\yh P w H' s'.heap/\zN v u/\Q v H'
def CR (CX:wY) (outer:List Env) (P:Program) (w:World) (H:Hp) (s:Shared) (Q:VK) (E:XK) (r:Result) (s':Shared):Prop:=
 match r with
 | .ok (.ret u)=>CE outer P w H s Q u s'
 | .ok _=>False
 | .error e=>CX outer H s E e s'
structure zF (P:Program) (w:World) (K:PySem.W.Frag) (mg:Str->Option Value) (base:Heap) (CX:wY) (k:Nat) (f:Addr) (fd:FuncData) (ps:List Str) (sp:Sp):Prop where
 len:∀ vs H Q E,sp vs H Q E->vs.length=ps.length
 run:∀ (A:Around) (outer:List Env) (s:Shared) (H:Hp) (args:Args) (us:List Value) (vs:List V) (Q:VK) (E:XK),zZ k A->xG P w K mg base A outer s H->BindsTo s fd args (ps.zip us)->zK vs us->sp vs H Q E->
  codeAny (model P w) A (.call (.ref f) args) (CR CX outer P w H s Q E) s
theorem zF.mono {P:Program} {w:World} {K:PySem.W.Frag} {mg:Str->Option Value} {base:Heap} {CX:wY} {j k:Nat} {f:Addr} {fd:FuncData} {ps:List Str} {sp:Sp} (F:zF P w K mg base CX j f fd ps sp) (h:j<=k) :
  zF P w K mg base CX k f fd ps sp:=⟨F.len,λA outer s H args us vs Q E hr=>F.run A outer s H args us vs Q E (hr.mono h)⟩
theorem zF.imp {P:Program} {w:World} {K:PySem.W.Frag} {mg:Str->Option Value} {base:Heap} {CX:wY} {k:Nat} {f:Addr} {fd:FuncData} {ps:List Str} {sp sp':Sp} (F:zF P w K mg base CX k f fd ps sp)
  (h:∀ vs H Q E,sp' vs H Q E->sp vs H Q E):zF P w K mg base CX k f fd ps sp':=
 ⟨λvs H Q E q=>F.len vs H Q E (h _ _ _ _ q),λA outer s H args us vs Q E hr he hb hv hs=>F.run A outer s H args us vs Q E hr he hb hv (h _ _ _ _ hs)⟩
theorem xG.make {P:Program} {w:World} {K:PySem.W.Frag} {mg:Str->Option Value} {base:Heap} {A:Around} {outer:List Env} {s:Shared} {H:Hp} (e:xG P w K mg base A outer s H) (C:Addr) (us:List Value) (kw:List (Str × Value)) :
  xG P w K mg base (A.under (.builtin "type.__call__" ⟨.ref C :: us,kw⟩)) outer s H:=⟨by first | exact e.frames | (simpa [Around.under,Code.envs,Code.isFrame,pushEnvs] using e.frames),e.mod,e.bs,e.bsz,e.funs,e.frf,e.hok,e.bare⟩
theorem xG.in1 {P:Program} {w:World} {K:PySem.W.Frag} {mg:Str->Option Value} {base:Heap} {A:Around} {outer:List Env} {s:Shared} {H:Hp} (e:xG P w K mg base A outer s H) :
  xG P w K mg base A.in1 outer s H:=⟨e.frames,e.mod,e.bs,e.bsz,e.funs,e.frf,e.hok,e.bare⟩
section
variable {X:Cx} {pins:List (Addr × Obj)} {σ:St} {H:Hp} {s s':Shared}
theorem zD.env0 (I:zD X pins σ H s):xG X.prog X.w X.K X.mg X.base X.A X.stack s H:=
 ⟨I.ok.frames,I.ok.mod,I.bs,Nat.le_trans I.ok.bsz I.sz,I.stack,I.stkFree,I.hok,I.bare⟩
theorem zD.after {Q:VK} {u:Value} (I:zD X pins σ H s) (h:CE X.stack X.prog X.w H s Q u s'):EP X pins σ Q u s':=by
 obtain ⟨v,H',os,bare,un,hok,r,q⟩:=h
 obtain ⟨hh,g,d,t,os'⟩:=s'
 obtain rfl:os'=s.os:=os
 exact ⟨v,H',I.call (h':=hh) (g':=g) (d':=d) (t':=t) (ch:=[]) un hok bare (λb z=>absurd z (by simp)),r,q⟩
end
def X9 (sp:Sp) (dvs:List V) (E:XK) (t:TA):TE:=λσ H Q=>t σ H λvs H1=>sp (vs++dvs) H1 Q E
def QI (C:Addr) (m:Str) (sp:Sp) (dvs:List V) (E:XK) (ta:TE) (t:TA):TE:=λσ H Q=>ta σ H λx H1=>∃ a dx fs,x=.ref a/\H1 a=some (.ins C dx fs)/\fs.lookup m=none∧
 t σ H1 λvs H2=>sp (x :: (vs++dvs)) H2 Q E
def YC (C:Addr) (sp:Sp) (dvs:List V) (E:XK) (t:TA):TE:=λσ H Q=>t σ H λvs H1=>∀ x dx,H1 x=none->H1 dx=none->dx≠x->
 sp (.ref x :: (vs++dvs)) (upd (upd H1 dx (.own x)) x (.ins C dx [])) (λv H2=>v=.non/\Q (.ref x) H2) E
def xh (K:PySem.W.Frag) (fd:FuncData) (ps:List Str) (ds:List Value):Prop:=
 ∀ (s:Shared) (us:List Value),K.In s.heap->(us++ds).length=ps.length->BindsTo s fd ⟨us,[]⟩ (ps.zip (us++ds))
theorem xh.all {K:PySem.W.Frag} {fd:FuncData} {ps:List Str} (h:∀ us:List Value,us.length=ps.length->bindArgs fd ⟨us,[]⟩=pure (ps.zip us)):xh K fd ps []:=λs us _ hl=>by
 rw [List.append_nil] at hl |-
 exact .of_eq (h us hl)
def qL (CX:wY) (X:Cx) (E:XK):Prop:=∀ (pins:List (Addr × Obj)) (σ:St) (H:Hp) (s:Shared) (e:Value) (s':Shared),zD X pins σ H s->CX X.stack H s E e s'->X.xe e s'
section
variable {X:Cx} {CX:wY} {k:Nat} {f C:Addr} {fd:FuncData} {ps:List Str} {sp:Sp} {dvs:List V} {ds:List Value} {E:XK} {x m:Str} {p pos apos:Pos} {e o:Expr} {es:List Expr} {ta:TE} {t:TA}
theorem QJ {pins:List (Addr × Obj)} {σ:St} {H:Hp} {s:Shared} {Q:VK} {us:List Value} {vs:List V} (F:zF X.prog X.w X.K X.mg X.base CX k f fd ps sp) (hr:zZ k X.A) (hb:xh X.K fd ps ds) (hd:zK dvs ds) (hx:qL CX X E)
  (I:zD X pins σ H s) (r:zK vs us) (h:sp (vs++dvs) H Q E):wpAny (model X.prog X.w) X.A (call (.ref f) us) (EP X pins σ Q) X.xe s:=by
 have r2:zK (vs++dvs) (us++ds):=r.append hd
 have hl:(us++ds).length=ps.length:=by rw [<- r2.length]; exact F.len _ _ _ _ h
 refine wpAny_call (codeAny_mono (F.run X.A X.stack s H ⟨us,[]⟩ (us++ds) (vs++dvs) Q E hr I.env0 (hb s us I.kIn hl) r2 h) λr s' hq=>?_)
 cases r with
 | error e=>exact hx pins σ H s e s' I hq
 | ok fl=>
  cases fl with
  | ret u=>exact I.after hq
  | next=>exact False.elim hq
  | brk=>exact False.elim hq
  | cont=>exact False.elim hq
theorem QK (F:zF X.prog X.w X.K X.mg X.base CX k f fd ps sp) (hr:zZ k X.A) (hg:Gl X x) (hm:X.mg x=some (.ref f)) (hk:PySem.W.keepIn X.K (.ref f)=true) (hb:xh X.K fd ps ds) (hd:zK dvs ds) (hx:qL CX X E)
  (ha:PA X (e :: es) t) (hdb:(x == ("__debug__" : Str))=false:=by decide) (he:starEach (e :: es) X.env=(false,eval e X.env) :: starEach es X.env:=by rfl) (hpl:(backTo pos (starEach es X.env)).any (·.1)=false:=by rfl) :
  PE X (.Call (.Name x p) (e :: es) [] pos) (X9 sp dvs E t):=by
 intro pins s σ H Q I h
 refine wpAny_Call_Name_kw (Xl I hg hm ?_ hdb)
 refine PySem.W.callWith_K (h₀:=X.base) I.ok.mod.kin hk (zb (ha pos pins s σ H _ I h) λus s1 ⟨vs,H1,I1,r,q⟩=>⟨I1.kIn,?_⟩) he hpl
 exact QJ F hr hb hd hx I1 r q
theorem zLU {pl:Sem Bool} (he:PE X o ta) (c:vX X.K C) (hm:uJ X.K C m f) (F:zF X.prog X.w X.K X.mg X.base CX k f fd ps sp) (hr:zZ k X.A) (hb:xh X.K fd ps ds) (hd:zK dvs ds) (hx:qL CX X E)
  (ht:eval (.Call (.Attribute o m apos) [] [] pos) X.env=(do
   let ov <- eval o X.env
   standAt apos.atName
   let (f,first) <- holding [ov] (getMethod ov m pl)
   callWith pos f first (backTo pos (starEach [] X.env)) (backToKw pos (keywordEach [] X.env))):=by rfl) :
  PE X (.Call (.Attribute o m apos) [] [] pos) (QI C m sp dvs E ta wr):=by
 intro pins s σ H Q I h
 refine PySem.W.methodCall_KW (pl:=pl) (zb (he pins s σ H _ I h) λu s1 ⟨x,H1,I1,rx,a,dx,fs,ex,ea,l,q⟩=>?_) ht
 subst ex
 obtain rfl:u=Value.ref a:=rx
 refine zI0 I1 ea c hm l ?_
 exact PySem.W.callWith_K0 (first:=[.ref a]) I1.kIn hm.kp (QJ (us:=[.ref a]) (vs:=[.ref a]) F hr hb hd hx I1 (.cons rfl .nil) q)
structure Mk (K:PySem.W.Frag) (C f:Addr):Prop where
 makes:PySem.W.makesIn K C=true
 init:PySem.W.findIn K (.ref C) "__init__" = some (some (.ref f))
 fn:PySem.W.isFn K (.ref f)=true
 kp:PySem.W.keepIn K (.ref C)=true
theorem zLI {pins:List (Addr × Obj)} {σ:St} {H:Hp} {s:Shared} {Q:VK} {us:List Value} {vs:List V} (M:Mk X.K C f) (F:zF X.prog X.w X.K X.mg X.base CX k f fd ps sp) (hr:zZ (k + 1) X.A) (hb:xh X.K fd ps ds) (hd:zK dvs ds)
  (hx:qL CX X E) (I:zD X pins σ H s) (r:zK vs us)
  (h:∀ x dx,H x=none->H dx=none->dx≠x->sp (.ref x :: (vs++dvs)) (upd (upd H dx (.own x)) x (.ins C dx [])) (λv H2=>v=.non/\Q (.ref x) H2) E) :
  wpAny (model X.prog X.w) X.A (call (.ref C) us) (EP X pins σ Q) X.xe s:=by
 have hq:=h (s.heap.objs.size + 1) s.heap.objs.size (I.hok.fresh (Nat.le_succ _)) (I.hok.fresh (Nat.le_refl _)) (Nat.ne_of_lt (Nat.lt_succ_self _))
 have I2:=zD.made (C:=C) I
 have r2:zK (V.ref (s.heap.objs.size + 1) :: (vs++dvs)) (Value.ref (s.heap.objs.size + 1) :: (us++ds)):=.cons rfl (r.append hd)
 have hl:(Value.ref (s.heap.objs.size + 1) :: us++ds).length=ps.length:=by
  have e:=r2.length
  rw [F.len _ _ _ _ hq] at e
  exact e.symm
 refine wpAny_call (zLr (f:=f) I.kIn M.makes M.init (beq_iff_eq.mp M.fn) (codeAny_mono (F.run _ X.stack _ _ ⟨Value.ref (s.heap.objs.size + 1) :: us,[]⟩ (Value.ref (s.heap.objs.size + 1) :: (us++ds)) _ _ E (hr.make C us [])
  (I2.env0.make C us []) (hb _ (Value.ref (s.heap.objs.size + 1) :: us) I2.kIn hl) r2 hq) λr s' hq'=>?_))
 cases r with
 | error e=>exact hx pins σ _ _ e s' I2 hq'
 | ok fl=>
  cases fl with
  | ret u=>
   obtain ⟨v,H',I3,rv,ev,q3⟩:=I2.after hq'
   subst ev
   exact ⟨rv,⟨V.ref (s.heap.objs.size + 1),H',I3,rfl,q3⟩⟩
  | next=>exact False.elim hq'
  | brk=>exact False.elim hq'
  | cont=>exact False.elim hq'
theorem zND (M:Mk X.K C f) (F:zF X.prog X.w X.K X.mg X.base CX k f fd ps sp) (hr:zZ (k + 1) X.A) (hg:Gl X x) (hm:X.mg x=some (.ref C)) (hb:xh X.K fd ps ds) (hd:zK dvs ds) (hx:qL CX X E)
  (ha:PA X (e :: es) t) (hdb:(x == ("__debug__" : Str))=false:=by decide) (he:starEach (e :: es) X.env=(false,eval e X.env) :: starEach es X.env:=by rfl) (hpl:(backTo pos (starEach es X.env)).any (·.1)=false:=by rfl) :
  PE X (.Call (.Name x p) (e :: es) [] pos) (YC C sp dvs E t):=by
 intro pins s σ H Q I h
 refine wpAny_Call_Name_kw (Xl I hg hm ?_ hdb)
 refine PySem.W.callWith_K (h₀:=X.base) I.ok.mod.kin M.kp (zb (ha pos pins s σ H _ I h) λus s1 ⟨vs,H1,I1,r,q⟩=>⟨I1.kIn,?_⟩) he hpl
 exact zLI M F hr hb hd hx I1 r q
end
section
variable {X:Cx} {CX:wY} {k:Nat} {f C:Addr} {fd:FuncData} {ps ks:List Str} {sp:Sp} {E:XK} {x m:Str} {p pos apos kpos:Pos} {e o:Expr} {es:List Expr} {kws:List Keyword} {te ta:TE} {t tk:TA} {nm:Option Str}
variable {g:List Value->List Value->List Value} {gV:List V->List V->List V}
end
structure zc (N P:List Str) (sc:Scope):Prop where
 kind:sc.kind=.function
 co:sc.isCoroutine=false
 gen:sc.isGenerator=false
 nd:N.Nodup
 pre:N.take P.length=P
 par:∀ x∈P,sc.names.lookup x=some .local\/sc.names.lookup x=some .cell
 nofree:∀ y∈sc.names,y.2≠.free
theorem zc.a {N P:List Str} {s:Scope} (a:s.kind=.function:=by rfl) (b:s.isCoroutine=false:=by rfl) (c:s.isGenerator=false:=by rfl) (d:N.Nodup:=by decide +kernel) (e:N.take P.length=P:=by rfl) (f:∀ x∈P,s.names.lookup x=some .local\/s.names.lookup x=some .cell:=by decide +kernel) (g:∀ y∈s.names,y.2≠.free:=by decide +kernel):zc N P s:=⟨a,b,c,d,e,f,g⟩
theorem QL {kindOf:Str->Option NameKind} {x:Str}:∀ {binds:List (Str × Value)} {m:Str->Option Value},(∀ v,(x,v)∉binds)->bindL kindOf binds m x=m x
 | [],_,_=>rfl
 | (n,v) :: r,m,h=>by
  unfold bindL
  rw [QL λw hw=>h w (List.mem_cons_of_mem _ hw)]
  split
  ·have:x≠n:=by rintro rfl; exact h v List.mem_cons_self
   simp [this]
  ·rfl
theorem QM {kindOf:Str->Option NameKind} {x:Str}:∀ {binds:List (Str × Value)} {m:Str->Option Value},(∀ v,(x,v)∉binds)->bindC kindOf binds m x=m x
 | [],_,_=>rfl
 | (n,v) :: r,m,h=>by
  unfold bindC
  rw [QM λw hw=>h w (List.mem_cons_of_mem _ hw)]
  split
  ·rfl
  ·have:x≠n:=by rintro rfl; exact h v List.mem_cons_self
   simp [this]
theorem QN {kindOf:Str->Option NameKind} {x:Str} {v:Value}:∀ {P:List Str} {vs:List Value} {i:Nat} {m:Str->Option Value},P.Nodup->P[i]? = some x->vs[i]? = some v->kindOf x=some .local->
  bindL kindOf (P.zip vs) m x=some v
 | [],_,_,_,_,h,_,_=>by simp at h
 | _ :: _,[],_,_,_,_,h,_=>by simp at h
 | p :: P,w :: vs,0,m,nd,h1,h2,hk=>by
  simp at h1 h2; subst h1; subst h2
  show bindL kindOf ((p,w) :: P.zip vs) m p=_
  unfold bindL
  rw [QL λv hv=>(List.nodup_cons.mp nd).1 (List.of_mem_zip hv).1,if_pos hk]
  simp
 | p :: P,w :: vs,i + 1,m,nd,h1,h2,hk=>by
  show bindL kindOf ((p,w) :: P.zip vs) m x=_
  unfold bindL
  exact QN (i:=i) (List.nodup_cons.mp nd).2 (by simpa using h1) (by simpa using h2) hk
theorem QO {kindOf:Str->Option NameKind} {x:Str} {v:Value}:∀ {P:List Str} {vs:List Value} {i:Nat} {m:Str->Option Value},P.Nodup->P[i]? = some x->vs[i]? = some v->kindOf x≠some .local->
  bindC kindOf (P.zip vs) m x=some v
 | [],_,_,_,_,h,_,_=>by simp at h
 | _ :: _,[],_,_,_,_,h,_=>by simp at h
 | p :: P,w :: vs,0,m,nd,h1,h2,hk=>by
  simp at h1 h2; subst h1; subst h2
  show bindC kindOf ((p,w) :: P.zip vs) m p=_
  unfold bindC
  rw [QM λv hv=>(List.nodup_cons.mp nd).1 (List.of_mem_zip hv).1,if_neg hk]
  simp
 | p :: P,w :: vs,i + 1,m,nd,h1,h2,hk=>by
  show bindC kindOf ((p,w) :: P.zip vs) m x=_
  unfold bindC
  exact QO (i:=i) (List.nodup_cons.mp nd).2 (by simpa using h1) (by simpa using h2) hk
def wQ (N:List Str) (vs:List V):St:=vs.map some++List.replicate (N.length - vs.length) none
def y6 (CX:wY) (P:Program) (w:World) (K:PySem.W.Frag) (mg:Str->Option Value) (base:Heap) (N:List Str) (qual:Str) (scope:Scope) (f:Addr) (cd:Value) (A:Around) (outer:List Env) (s:Shared) (H:Hp) (E:XK):Cx where
 prog:=P
 w:=w
 K:=K
 mg:=mg
 base:=base
 A:=A.deeper (envOfC qual scope s.heap.objs.size f cd)
 N:=N
 s₀:=s
 H₀:=H
 env:=envOfC qual scope s.heap.objs.size f cd
 outer:=outer
 stack:=envOfC qual scope s.heap.objs.size f cd :: outer
 ex:=[]
 calm:=true
 fn:=λ_=>true
 pn:=[]
 xe:=λe s'=>wpAny (model P w) (A.deeper (envOfC qual scope s.heap.objs.size f cd)) (leaving (envOfC qual scope s.heap.objs.size f cd) e) (λ_ s''=>CX outer H s E e s'') (λe' s''=>CX outer H s E e' s'') s'
theorem QP {sc:Scope} {n:Nat} {x:Str} (h:sc.names.lookup x=some .cell):∃ c,(cellsFrom n sc.names []).lookup x=some c:=by
 have q:=PySem.W.cellsFrom_some sc.names n [] (.inl h)
 exact Option.isSome_iff_exists.mp q
theorem zKE {CX:wY} {P:Program} {w:World} {K:PySem.W.Frag} {mg:Str->Option Value} {base:Heap} {N ps:List Str} {qual:Str} {scope:Scope} {f:Addr} {cd:Value} {A:Around} {outer:List Env} {s s1:Shared} {H:Hp} {E:XK} {us:List Value} {vs:List V}
  (S:zc N ps scope) (hd:A.handled=none) (e0:xG P w K mg base A outer s H) (hl:vs.length=ps.length) (r:zK vs us)
  (x:InCallC s s.heap.objs.size (bindL (envOfC qual scope s.heap.objs.size f cd).kindOf (ps.zip us) λ_=>none) (cellsFrom (s.heap.objs.size + 1) scope.names []) (bindC (envOfC qual scope s.heap.objs.size f cd).kindOf (ps.zip us) λ_=>none) s1) :
  zD (y6 CX P w K mg base N qual scope f cd A outer s H E) [] (wQ N vs) H s1:=by
 have hpl:ps.length<=N.length:=by have:=congrArg List.length S.pre; rw [List.length_take] at this; omega
 obtain ⟨h1,tk,rfl,hk⟩:=x.done
 have noA:∀ b:Addr,b∉(y6 CX P w K mg base N qual scope f cd A outer s H E).ex:=λb z=>absurd (show b∈([]:List Addr) from z) (by simp)
 refine ⟨⟨e0.mod,S.kind,rfl,rfl,Nat.le_refl _,λy z c h1 h2=>?_,λy hy=>?_,λy c _ h=>?_,λ_=>hd,Around.frames_deeper e0.frames,.inr ⟨rfl,rfl⟩,λb z=>absurd z (noA b),e0.bs,e0.bsz,λb _ _=>noA b,λb z=>absurd z (noA b),e0.funs,e0.frf⟩,
  rfl,e0.bare,Un.kept hk,⟨_,x.toInCall.ns,λi y v h1 h2 h3=>?_⟩,λy c h=>⟨_,x.cell y c h⟩,e0.hok.fresh (Nat.le_refl _),λy c h=>?_,λp hp=>absurd (show p∈([]:List (Addr × Obj)) from hp) (by simp),e0.hok.kept hk,?_⟩
 ·exact name_of_addr x.apart (PySem.mem_of_lookup h1) (PySem.mem_of_lookup h2)
 ·have hy:scope.names.lookup y=some .cell\/scope.names.lookup y=some .free:=hy
  rcases hy with hy | hy
  ·exact QP hy
  ·exact absurd rfl (S.nofree _ (PySem.mem_of_lookup hy))
 ·exact Nat.le_of_lt (x.above y c (PySem.mem_of_lookup h))
 ·have hi:i < vs.length:=by
   unfold wQ at h2
   by_cases hi:i < vs.length
   ·exact hi
   ·rw [List.getElem?_append_right (by simpa using hi)] at h2
    rw [List.getElem?_replicate] at h2
    split at h2 <;> cases h2
  have ha:vs[i]? = some v:=by
   unfold wQ at h2
   rw [List.getElem?_append_left (by simpa using hi),List.getElem?_map] at h2
   cases e:vs[i]? with
   | none=>rw [e] at h2; cases h2
   | some a=>rw [e] at h2; cases h2; rfl
  obtain ⟨u,hu,rv⟩:=r.get ha
  have hp:ps[i]? = some y:=by
   rw [<- S.pre,List.getElem?_take_of_lt (by omega)]; exact h1
  have ndP:ps.Nodup:=by rw [<- S.pre]; exact S.nd.sublist (List.take_sublist _ _)
  refine ⟨u,rv,?_⟩
  rcases S.par y (List.mem_of_getElem? hp) with k | k
  ·exact .inl ⟨k,QN ndP hp hu k⟩
  ·obtain ⟨c,e⟩:=QP (n:=s.heap.objs.size + 1) k
   refine .inr ⟨.inl k,c,e,?_⟩
   have q:=x.cell y c e
   rw [QO ndP hp hu (by show scope.names.lookup y≠_; rw [k]; decide)] at q
   exact q
 ·exact e0.hok.fresh (Nat.le_of_lt (x.above y c (PySem.mem_of_lookup h)))
 ·unfold wQ
  show _=N.length
  rw [List.length_append,List.length_map,List.length_replicate]
  omega
theorem WA {CX:wY} {P:Program} {w:World} {K:PySem.W.Frag} {mg:Str->Option Value} {base:Heap} {k:Nat} {f:Addr} {name qual:Str} {params:Arguments} {body:List Stmt} {scope:Scope} {dV kV doc pm cdv ct oc:Value} {an od:Option Addr}
  {osl:Array (Option Value)} {N ps:List Str} {sp:Sp} (lk:K.lookup f=some ⟨oc,od,.func (PySem.W.fnOf name qual params body scope dV kV doc pm an cdv ct),osl⟩) (hcd:PySem.W.codeIn K cdv qual=true) (S:zc N ps scope)
  (len:∀ vs H Q E,sp vs H Q E->vs.length=ps.length)
  (hbody:∀ (A:Around) (outer:List Env) (s:Shared) (H:Hp) (vs:List V) (Q:VK) (E:XK),zZ k (A.deeper (envOfC qual scope s.heap.objs.size f cdv))->sp vs H Q E->
   ∃ t,yj (y6 CX P w K mg base N qual scope f cdv A outer s H E) body t/\t { nx:=λ_ H'=>Q .non H',rt:=Q } (wQ N vs) H) :
  zF P w K mg base CX (k + 1) f (PySem.W.fnOf name qual params body scope dV kV doc pm an cdv ct) ps sp:=by
 refine ⟨len,λA outer s H args us vs Q E hr e0 hb r hsp=>?_⟩
 have hl:=len _ _ _ _ hsp
 have KX:K.In s.heap:=e0.mod.kin.keeps λb o e=>(e0.bs b o e).1
 have lim:s.heap.NoLimit:=e0.mod.nolimit.keeps λb o e=>(e0.bs b o e).1
 have hkind:∀ y∈ps.zip us,scope.names.lookup y.1=some .local\/(scope.names.lookup y.1=some .cell/\((cellsFrom (s.heap.objs.size + 1) scope.names []).lookup y.1).isSome=true):=λ⟨n,v⟩ hy=>by
  rcases S.par n (List.of_mem_zip hy).1 with q | q
  ·exact .inl q
  ·exact .inr ⟨q,PySem.W.cellsFrom_some _ _ _ (.inl q)⟩
 refine codeAny_call_function hr.depth (KX _ _ lk) rfl S.co S.gen rfl (PySem.W.codeRec_of KX hcd) (hb _ _ _ _ ?_)
 refine wpAny_newFunctionEnv_cells S.kind hkind λenv he s1 x=>?_
 subst he
 refine ⟨lim.keeps x.toInCall.keep,codeAny_func ?_⟩
 obtain ⟨t,ht,hq⟩:=hbody A outer s H vs Q E (hr.deeper _) hsp
 have I:zD (y6 CX P w K mg base N qual scope f cdv A outer s H E) [] (wQ N vs) H s1:=zKE S hr.hd e0 hl r x
 refine wpAny_mono (ht [] s1 (wQ N vs) H _ I hq) (λfl s' hs=>?_) λe s' hs=>hs
 have fin:∀ {σ':St} {H':Hp} {v:V} {u:Value},zD (y6 CX P w K mg base N qual scope f cdv A outer s H E) [] σ' H' s'->zN v u->Q v H'->CE outer P w H s Q u s':=
  λ{σ' H' v u} J rv q=>⟨v,H',J.os,J.bare,J.base,J.hok,rv,q⟩
 cases fl with
 | ret u=>
  obtain ⟨v,σ',H',J,rv,q⟩:=hs
  exact fin J rv q
 | next=>
  obtain ⟨σ',H',J,q⟩:=hs
  exact fin (v:=V.non) (u:=Value.none) J rfl q
 | brk=>
  obtain ⟨_,_,_,q⟩:=hs
  exact False.elim q
 | cont=>
  obtain ⟨_,_,_,q⟩:=hs
  exact False.elim q
end L2
namespace L2
open PySem PySem.Spec PyProof.Rows
section
variable {X:Cx} {x:Str} {p pos:Pos} {e:Expr} {es:List Expr} {t:TA} {id T:String} {r:List V->Hp->VK->Prop}
def gQ (r:List V->Hp->VK->Prop) (t:TA):TE:=λσ H Q=>t σ H λvs H1=>r vs H1 Q
theorem wu (hc:xN X (.builtin id) r) (hg:Gl X x) (hm:X.mg x=none) (hv:bootBuiltins x=some (.builtin id)) (ha:PA X (e :: es) t) (hn:x≠"__name__":=by decide) (hdb:(x == ("__debug__" : Str))=false:=by decide)
  (he:starEach (e :: es) X.env=(false,eval e X.env) :: starEach es X.env:=by rfl) (hpl:(backTo pos (starEach es X.env)).any (·.1)=false:=by rfl):PE X (.Call (.Name x p) (e :: es) [] pos) (gQ r t):=by
 intro pins s σ H Q I h
 refine wpAny_Call_Name_kw (ux I hg hm hv ?_ hn hdb)
 exact PyProof.Rows.callWith_builtin1 (zb (ha pos pins s σ H _ I h) λus s1 ⟨vs,H1,I1,r1,q1⟩=>hc pins s1 σ H1 vs us Q I1 r1 q1) he hpl
theorem YD (hc:xN X (.type T) r) (hg:Gl X x) (hm:X.mg x=none) (hv:bootBuiltins x=some (.type T)) (ha:PA X (e :: es) t) (hn:x≠"__name__":=by decide) (hdb:(x == ("__debug__" : Str))=false:=by decide)
  (he:starEach (e :: es) X.env=(false,eval e X.env) :: starEach es X.env:=by rfl) (hpl:(backTo pos (starEach es X.env)).any (·.1)=false:=by rfl):PE X (.Call (.Name x p) (e :: es) [] pos) (gQ r t):=by
 intro pins s σ H Q I h
 refine wpAny_Call_Name_kw (ux I hg hm hv ?_ hn hdb)
 exact PyProof.Rows.callWith_type1 (zb (ha pos pins s σ H _ I h) λus s1 ⟨vs,H1,I1,r1,q1⟩=>hc pins s1 σ H1 vs us Q I1 r1 q1) he hpl
end
end L2
namespace HT
open PySem PyProof.Rows
section
open PySem.SeqAt
open PySem.AutoSeq1 (wpAny_loadPart')
open PySem.MeetsSeq PySem.MeetsSeq2 PySem.MeetsSeq3
end
section
variable {prog:Program} {w:World} {A:Around} {E:Value->Shared->Prop} {s:Shared}
theorem cat_tup {t b:Addr} {vs ws:List Value} {Q:Value->Shared->Prop} (ht:IsTup s.heap t vs.toArray) (hb:IsTup s.heap b ws.toArray) (hv:vs≠[])
  (h1:ws=[]->Q (.ref t) s) (h2:ws≠[]->Q (.ref s.heap.objs.size) { s with heap:=s.heap.push { cls:=.type "tuple",data:=.seq (vs++ws).toArray } })
  (hsz:vs.length + ws.length<=sizeLine):wpAny (model prog w) A (binaryOp .Add (.ref t) (.ref b)) Q E s:=by
 obtain ⟨⟨cls,dd,data,sl⟩,ho,hc,n,hd⟩:=id ht
 obtain ⟨⟨cls2,dd2,data2,sl2⟩,ho2,hc2,n2,hd2⟩:=id hb
 simp only at hc hd hc2 hd2
 subst hc hd hc2 hd2
 have e:vs.toArray++ws.toArray=(vs++ws).toArray:=by simp
 by_cases hw:ws=[]
 ·exact concat_meets ⟨_,ho,rfl⟩ ⟨_,ho2,rfl⟩ noFill_tuple_add seq_tuple_add PySem.F.slot_tuple_add PySem.F.entry_tuple_add (PySem.F.args_tuple_add_2 _ _)
   (tuple_addW1 t b vs.toArray ws.toArray n n2 dd dd2 sl sl2 (by simpa using hv) (by simp [hw])) ⟨ho,ho2,h1 hw⟩
 ·refine concat_meets ⟨_,ho,rfl⟩ ⟨_,ho2,rfl⟩ noFill_tuple_add seq_tuple_add PySem.F.slot_tuple_add PySem.F.entry_tuple_add (PySem.F.args_tuple_add_2 _ _)
   (tuple_addW2 t b vs.toArray ws.toArray n n2 dd dd2 sl sl2 (by simpa using hv) (by simpa using hw) (by rw [List.size_toArray,List.size_toArray]; exact hsz)) ⟨ho,ho2,?_⟩
  rw [e]
  exact h2 hw
def sIx (n d:Nat):Option Int->Nat
 | none=>d
 | some v=>if v < 0 then (v + (n:Int)).toNat else min v.toNat n
theorem sIx_none (n d:Nat):sIx n d none=d:=rfl
theorem sIx_nat (n d k:Nat):sIx n d (some (k:Int))=min k n:=by
 show (if (k:Int) < 0 then ((k:Int) + (n:Int)).toNat else min (k:Int).toNat n)=min k n
 rw [if_neg (by omega),Int.toNat_natCast]
theorem zOU (n d:Nat) (hd:d<=n) (o:Option Int):sIx n d o<=n:=by
 cases o with
 | none=>exact hd
 | some v=>
  show (if v < 0 then (v + (n:Int)).toNat else min v.toNat n)<=n
  by_cases hv:v < 0
  ·rw [if_pos hv]; omega
  ·rw [if_neg hv]; exact Nat.min_le_right _ _
theorem QQ (v:Int) (n d:Nat):(if v < 0 then max (v + (n:Int)) 0 else min v (n:Int))=((sIx n d (some v):Nat):Int):=by
 show (if v < 0 then max (v + (n:Int)) 0 else min v (n:Int))=(((if v < 0 then (v + (n:Int)).toNat else min v.toNat n):Nat):Int)
 by_cases hv:v < 0
 ·simp only [if_pos hv]; omega
 ·simp only [if_neg hv]; omega
theorem zI6 (lo hi:Option Int) (n:Nat):Builtin.Slice.sliceAdjust lo hi 1 (n:Int)=(((sIx n 0 lo:Nat):Int),((sIx n n hi:Nat):Int)):=by
 have h1:¬ ((1:Int) < 0):=by omega
 unfold Builtin.Slice.sliceAdjust
 simp only [h1,if_false]
 refine Prod.ext ?_ ?_
 ·cases lo with
  | none=>rfl
  | some v=>exact QQ v n 0
 ·cases hi with
  | none=>rfl
  | some v=>exact QQ v n n
theorem zIm (i j:Nat):Builtin.Slice.slicePlaces (i:Int) (j:Int) 1=j - i:=by
 unfold Builtin.Slice.slicePlaces
 have h1:(1:Int) > 0:=by omega
 simp only [h1,if_true,Int.ediv_one]
 split <;> omega
theorem QR {v:Value} {o:Option Int} {Q:Option Int->Shared->Prop} (p:IsPart v o) (h:Q o s):wpAny (model prog w) A (Builtin.Slice.slicePartIndex v) Q E s:=by
 cases p with
 | none=>exact slicePart_none h
 | int i t=>exact slicePart_int h
theorem QS {sl:Addr} {vl vu:Value} {lo hi:Option Int} {n:Nat} {Q:Int × Int × Nat->Shared->Prop} (hs:s.heap.IsSliceOf sl vl vu .none) (pl:IsPart vl lo) (pu:IsPart vu hi)
  (h:Q (((sIx n 0 lo:Nat):Int),1,sIx n n hi - sIx n 0 lo) s):wpAny (model prog w) A (Builtin.Slice.sliceApplied (.ref sl) (pure (n:Int))) Q E s:=by
 obtain ⟨os,hos,hcs,hds⟩:=id hs
 unfold Builtin.Slice.sliceApplied Builtin.Slice.sliceFields
 refine wpAny_bind (wpAny_bind (wpAny_field hos hds (x:=vl) rfl (wpAny_bind (wpAny_field hos hds (x:=vu) rfl (wpAny_bind (wpAny_field hos hds (x:=.none) rfl (wpAny_pure ?_)))))))
 refine wpAny_bind (slicePart_none ?_)
 show wpAny _ _ (if ((1:Int) == 0)=true then _ else _) _ _ s
 rw [if_neg (by decide)]
 refine wpAny_bind (QR pl (wpAny_bind (QR pu (wpAny_bind (wpAny_pure ?_)))))
 show wpAny _ _ (match Builtin.Slice.sliceAdjust lo hi 1 (n:Int) with | (lo,hi)=>pure (lo,(1:Int),Builtin.Slice.slicePlaces lo hi 1)) _ _ s
 rw [zI6 lo hi n]
 show wpAny _ _ (pure (((sIx n 0 lo:Nat):Int),(1:Int),Builtin.Slice.slicePlaces ((sIx n 0 lo:Nat):Int) ((sIx n n hi:Nat):Int) 1)) _ _ s
 rw [zIm]
 exact wpAny_pure h
theorem zLR (xs:Array Value) (i k:Nat):((List.range k).filterMap λ(m:Nat)=>xs[((i:Int) + (m:Int) * 1).toNat]?).toArray=((xs.toList.drop i).take k).toArray:=by
 have e:(λ(m:Nat)=>xs[((i:Int) + (m:Int) * 1).toNat]?)=λm=>xs[i + m]?:=by
  funext m
  have:((i:Int) + (m:Int) * 1).toNat=i + m:=by omega
  rw [this]
 rw [e]
 have:=pick_run xs i k
 rw [List.filterMap_map] at this
 have e2:((λx=>xs[x]?) ∘ λx=>i + x)=λm=>xs[i + m]?:=rfl
 rw [e2] at this
 rw [this]
theorem getItem_tuple_cut {t sl:Addr} {items:Array Value} {vl vu:Value} {lo hi:Option Int} {Q:Value->Shared->Prop} (ht:IsTup s.heap t items) (hs:s.heap.IsSliceOf sl vl vu .none) (pl:IsPart vl lo) (pu:IsPart vu hi)
  (hw:¬ (sIx items.size 0 lo=0/\sIx items.size items.size hi=items.size))
  (h:Q (.ref s.heap.objs.size) { s with heap:=s.heap.push { cls:=.type "tuple",data:=.seq ((items.toList.drop (sIx items.size 0 lo)).take (sIx items.size items.size hi - sIx items.size 0 lo)).toArray } })
  (hsz:items.size<=sizeLine):wpAny (model prog w) A (getItem (.ref t) (.ref sl)) Q E s:=by
 have htake:sizeOk (.seq ((items.toList.drop (sIx items.size 0 lo)).take (sIx items.size items.size hi - sIx items.size 0 lo)).toArray):=by
  show ((items.toList.drop (sIx items.size 0 lo)).take (sIx items.size items.size hi - sIx items.size 0 lo)).toArray.size<=sizeLine
  rw [List.size_toArray,List.length_take,List.length_drop,Array.length_toList]
  omega
 have hj:sIx items.size items.size hi<=items.size:=zOU _ _ (Nat.le_refl _) hi
 obtain ⟨os,hos,hcs,hds⟩:=id hs
 have hTs:s.TypeIs (.ref sl) "slice":=⟨os,hos,hcs⟩
 unfold getItem
 try with_reducible refine wpAny_holding ?_
 first | refine wpAny_bind (wpAny_pure ?_) | skip
 refine wpAny_bind (wpAny_sequenceKey ht.typeIs (by decide) ?_)
 refine wpAny_bind (wpAny_callSpecial?_slot (name:=Str.ofString "__getitem__") ht.typeIs PyProof.Rows.slot_tuple_getitem
  (wpAny_call_entry PyProof.Rows.slot_tuple_getitem ht.typeIs entry_tuple_getitem ?_ (args_tuple_getitem _ _)))
 show wpAny _ _ (Builtin.Tuple.tupleItemsOf (.ref t) >>= _) _ _ s
 refine wpAny_bind (tupleItemsOf_ ht ?_)
 refine wpAny_bind (wpAny_typeOf hTs ?_)
 rw [if_pos (by decide)]
 refine wpAny_bind (QS hs pl pu ?_)
 have hno:¬ ((((sIx items.size 0 lo:Nat):Int) == 0 && (1:Int) == 1 && (sIx items.size items.size hi - sIx items.size 0 lo) == items.size)=true):=by
  intro q
  rw [Bool.and_eq_true,Bool.and_eq_true] at q
  have q1:((sIx items.size 0 lo:Nat):Int)=0:=eq_of_beq q.1.1
  have q2:sIx items.size items.size hi - sIx items.size 0 lo=items.size:=eq_of_beq q.2
  exact hw ⟨by omega,by omega⟩
 show wpAny _ _ (if (((sIx items.size 0 lo:Nat):Int) == 0 && (1:Int) == 1 && (sIx items.size items.size hi - sIx items.size 0 lo) == items.size)=true then _ else _) _ _ s
 rw [if_neg hno,zLR]
 first
  | exact wpAny_bind (m:=Builtin.Tuple.tupleExact _) (wpAny_newObj_type (wpAny_pure ⟨_,rfl,wpAny_pure h⟩) htake)
  | exact wpAny_bind (m:=Builtin.Tuple.tupleExact _) (wpAny_newObj_type (wpAny_bind (wpAny_pure (wpAny_pure ⟨_,rfl,wpAny_pure h⟩))) htake)
  | exact wpAny_bind (wpAny_bind (m:=Builtin.Tuple.tupleExact _) (wpAny_newObj_type (wpAny_pure (wpAny_pure ⟨_,rfl,wpAny_pure h⟩)) htake))
  | exact wpAny_bind (wpAny_bind (m:=Builtin.Tuple.tupleExact _) (wpAny_newObj_type (wpAny_pure ⟨_,rfl,wpAny_pure h⟩) htake))
end
end HT
namespace L2
open PySem PySem.Spec PyProof.Rows
abbrev TO:=St->Hp->(Option Int->Hp->Prop)->Prop
def PO (X:Cx) (e:Option Expr) (t:TO):Prop:=
 ∀ (pins:List (Addr × Obj)) (s:Shared) (σ:St) (H:Hp) (Q:Option Int->Hp->Prop),zD X pins σ H s->t σ H Q->
  wpAny (model X.prog X.w) X.A (evalPart e X.env) (λu s'=>∃ o H',zD X pins σ H' s'/\IsPart u o/\Q o H') X.xe s
def zMp:TO:=λ_ H Q=>Q none H
def gR (t:TE):TO:=λσ H Q=>t σ H λx H1=>∃ i,x=.int i/\Q (some i) H1
section
variable {X:Cx} {e:Expr} {te:TE} {lo hi:Option Expr} {tl th:TO} {pos p2:Pos}
theorem zM9:PO X none zMp:=by
 intro pins s σ H Q I h
 rw [evalPart_none]
 exact wpAny_pure ⟨none,H,I,.none,h⟩
theorem zM8 (h:PE X e te):PO X (some e) (gR te):=by
 intro pins s σ H Q I hw
 rw [evalPart_some]
 refine zb (h pins s σ H _ I hw) λu s1 ⟨x,H1,I1,r1,q1⟩=>?_
 obtain ⟨i,rfl,q⟩:=q1
 obtain ⟨t,rfl⟩:=r1
 exact ⟨some i,H1,I1,.int i t,q⟩
def vY (X:Cx) (r:V->Option Int->Option Int->Hp->VK->Prop):Prop:=
 ∀ (pins:List (Addr × Obj)) (s:Shared) (σ:St) (H:Hp) (x:V) (v vl vu:Value) (lo hi:Option Int) (sl:Addr) (Q:VK),zD X pins σ H s->zN x v->s.heap.IsSliceOf sl vl vu .none->IsPart vl lo->IsPart vu hi->r x lo hi H Q->
  ∃ T id,typeLookup (.type T) "__getitem__" = pure (some (.builtin id))/\s.TypeIs v T/\wpAny (model X.prog X.w) X.A (getItem v (.ref sl)) (EP X pins σ Q) X.xe s
theorem vY.or {r r':V->Option Int->Option Int->Hp->VK->Prop} (h:vY X r) (h':vY X r'):vY X (λx lo hi H Q=>r x lo hi H Q\/r' x lo hi H Q):=by
 intro pins s σ H x v vl vu lo hi sl Q I rx hs pl pu q
 rcases q with q | q
 ·exact h pins s σ H x v vl vu lo hi sl Q I rx hs pl pu q
 ·exact h' pins s σ H x v vl vu lo hi sl Q I rx hs pl pu q
def tSl (r:V->Option Int->Option Int->Hp->VK->Prop) (te:TE) (tl th:TO):TE:=λσ H Q=>te σ H λx H1=>tl σ H1 λl H2=>th σ H2 λu H3=>r x l u H3 Q
theorem zLT {r:V->Option Int->Option Int->Hp->VK->Prop} (hr:vY X r) (he:PE X e te) (hl:PO X lo tl) (hu:PO X hi th):PE X (.Subscript e (.Slice lo hi none p2) pos) (tSl r te tl th):=by
 intro pins s σ H Q I h
 refine Subscript_ (zb (he pins s σ H _ I h) λv s1 ⟨x,H1,I1,r1,q1⟩=>?_)
 refine wpAny_Slice (zb (hl pins s1 σ H1 _ I1 q1) λvl s2 ⟨l,H2,I2,pl,q2⟩=>zb (hu pins s2 σ H2 _ I2 q2) λvu s3 ⟨u,H3,I3,pu,q3⟩=>?_)
 rw [evalPart_none]
 refine wpAny_pure ?_
 have I4:zD X pins σ H3 { s3 with heap:=s3.heap.push { cls:=.type "slice",data:=.fields #[vl,vu,.none] } }:=I3.kept (t':=s3.toks) λb ob q=>Heap.get?_push_of_some _ q
 obtain ⟨T,id,hT,ht,hg⟩:=hr pins { s3 with heap:=s3.heap.push { cls:=.type "slice",data:=.fields #[vl,vu,.none] } } σ H3 x v vl vu l u s3.heap.objs.size Q I4 r1 (Heap.IsSliceOf.new ..) pl pu q3
 show wpAny (model X.prog X.w) X.A (subscriptTail e (.Slice lo hi none p2) v (.ref s3.heap.objs.size)) (EP X pins σ Q) X.xe { s3 with heap:=s3.heap.push { cls:=.type "slice",data:=.fields #[vl,vu,.none] } }
 exact tail_any (ops:=[.ref s3.heap.objs.size,v]) ht hT hg (by with_unfolding_all rfl)
def wI (xs:List V) (lo hi:Option Int):List V:=(xs.drop (HT.sIx xs.length 0 lo)).take (HT.sIx xs.length xs.length hi - HT.sIx xs.length 0 lo)
theorem QT (xs:List V) (lo hi:Option Int):(wI xs lo hi).length<=xs.length:=by
 unfold wI
 rw [List.length_take,List.length_drop]
 omega
def WB (K:PySem.W.Frag):V->Option Int->Option Int->Hp->VK->Prop:=λx lo hi H Q=>∃ a xs,x=.ref a/\zl K H a xs∧
 ¬ (HT.sIx xs.length 0 lo=0/\HT.sIx xs.length xs.length hi=xs.length)/\∀ p,H p=none->Q (.ref p) (upd H p (.tup (wI xs lo hi)))
theorem zOS:vY X (WB X.K):=by
 intro pins s σ H x v vl vu lo hi sl Q I rx hs pl pu h
 obtain ⟨a,xs,rfl,hx,hw,q⟩:=h
 cases rx
 obtain ⟨its,r,ht,hz⟩:=I.tuple hx
 have hlen:its.toArray.size=xs.length:=by rw [List.size_toArray]; exact r.length.symm
 refine ⟨"tuple",_,PyProof.Rows.slot_tuple_getitem.lookup,ht.typeIs,?_⟩
 refine HT.getItem_tuple_cut ht hs pl pu (by rw [hlen]; exact hw) ?_ (by rw [hlen]; exact hz)
 rw [hlen]
 refine ⟨.ref s.heap.objs.size,_,I.laid (t':=s.toks) (o:=.tup (wI xs lo hi)) (λb ob q=>Heap.get?_push_of_some _ q) (Nat.le_refl _) ?_,rfl,q _ (I.hok.fresh (Nat.le_refl _))⟩
 exact ⟨Nat.le_trans (QT xs lo hi) hz,_,(r.drop (HT.sIx xs.length 0 lo)).take (HT.sIx xs.length xs.length hi - HT.sIx xs.length 0 lo),IsTup.new _ _⟩
def gT (K:PySem.W.Frag):R2:=λx y H Q=>∃ a b xs ys,x=.ref a/\y=.ref b/\zl K H a xs/\zl K H b ys/\xs≠[]/\xs.length + ys.length<=sizeLine∧
 (ys=[]->Q (.ref a) H)/\(ys≠[]->∀ p,H p=none->Q (.ref p) (upd H p (.tup (xs++ys))))
theorem zK.nil_iff {xs:List V} {us:List Value} (r:zK xs us):us=[] ↔ xs=[]:=by
 cases r with
 | nil=>simp
 | cons _ _=>simp
theorem zNL:yW X (binaryOp .Add) (gT X.K):=by
 intro pins s σ H x y v u Q I rx ry h
 obtain ⟨a,b,xs,ys,rfl,rfl,ha,hb,hx,hz,q1,q2⟩:=h
 cases rx
 cases ry
 obtain ⟨its,r1,p1,_⟩:=I.tuple ha
 obtain ⟨its2,r2,p2,_⟩:=I.tuple hb
 refine HT.cat_tup p1 p2 (λz=>hx (r1.nil_iff.mp z)) (λz=>⟨.ref a,H,I,rfl,q1 (r2.nil_iff.mp z)⟩) (λz=>?_) (by rw [<- r1.length,<- r2.length]; exact hz)
 refine ⟨.ref s.heap.objs.size,_,I.laid (t':=s.toks) (o:=.tup (xs++ys)) (λb ob q=>Heap.get?_push_of_some _ q) (Nat.le_refl _) ?_,rfl,q2 (λw=>z (r2.nil_iff.mpr w)) _ (I.hok.fresh (Nat.le_refl _))⟩
 exact ⟨by rw [List.length_append]; exact hz,_,r1.append r2,IsTup.new _ _⟩
end
end L2
namespace L2
open PySem PySem.Spec PyProof.Rows
def xn (n:Nat) (i:Int):Option Nat:=if 0<=i then (if i < n then some i.toNat else none) else if -(n:Int)<=i then some (i + n).toNat else none
def yX {α:Type} (xs:List α) (i:Int):Option α:=(xn xs.length i).bind λj=>xs[j]?
theorem QU {n:Nat} {i:Int} {j:Nat} (h:xn n i=some j):seqIndex? i n=some j/\j < n/\-(n:Int)<=i/\i < n:=by
 unfold xn at h
 by_cases h0:0<=i
 ·rw [if_pos h0] at h
  by_cases h1:i < n
  ·rw [if_pos h1] at h
   have e:i.toNat=j:=Option.some.inj h
   exact ⟨by rw [seqIndex_of h0 h1,e],by omega,by omega,h1⟩
  ·rw [if_neg h1] at h; cases h
 ·rw [if_neg h0] at h
  by_cases h1 : -(n:Int)<=i
  ·rw [if_pos h1] at h
   have e:(i + n).toNat=j:=Option.some.inj h
   exact ⟨by rw [seqIndex_neg (by omega) h1,e],by omega,h1,by omega⟩
  ·rw [if_neg h1] at h; cases h
theorem QV {α:Type} {xs:List α} {i:Int} {v:α} (h:yX xs i=some v):∃ j,seqIndex? i xs.length=some j/\xs[j]? = some v/\j < xs.length/\-(xs.length:Int)<=i/\i < xs.length:=by
 unfold yX at h
 cases e:xn xs.length i with
 | none=>rw [e] at h; cases h
 | some j=>
  rw [e] at h
  obtain ⟨h1,h2,h3,h4⟩:=QU e
  exact ⟨j,h1,h,h2,h3,h4⟩
theorem zN0 {α:Type} {xs:List α} {j:Nat} {v:α} (h:xs[j]? = some v):yX xs (j:Int)=some v:=by
 have hj:j < xs.length:=(List.getElem?_eq_some_iff.mp h).1
 have e:xn xs.length (j:Int)=some j:=by
  unfold xn
  rw [if_pos (by omega),if_pos (by omega)]; simp
 unfold yX; rw [e]; exact h
def QW (b:Expr):Prop:=∀ o i,subscripted b false o i=operate [o,i] (getItem o i)
def u4 (X:Cx) (r:R2):Prop:=
 ∀ (value slice:Expr) (pins:List (Addr × Obj)) (s:Shared) (σ:St) (H:Hp) (x y:V) (v u:Value) (Q:VK),zD X pins σ H s->zN x v->zN y u->r x y H Q->
  subscripted slice false v u=operate [v,u] (getItem v u)->wpAny (model X.prog X.w) X.A (subscriptTail value slice v u) (EP X pins σ Q) X.xe s
def qM (X:Cx) (id:String) (r:V->List V->Hp->VK->Prop):Prop:=
 ∀ (pins:List (Addr × Obj)) (s:Shared) (σ:St) (H:Hp) (x:V) (xs:List V) (v:Value) (us:List Value) (Q:VK),zD X pins σ H s->zN x v->zK xs us->r x xs H Q->
  wpAny (model X.prog X.w) X.A (call (.builtin id) (v :: us)) (EP X pins σ Q) X.xe s
section
variable {X:Cx} {a b:Expr} {ta tb:TE} {pos:Pos}
theorem u4.or {r r':R2} (h:u4 X r) (h':u4 X r'):u4 X (λx y H Q=>r x y H Q\/r' x y H Q):=by
 intro value slice pins s σ H x y v u Q I rx ry q hs
 rcases q with q | q
 ·exact h value slice pins s σ H x y v u Q I rx ry q hs
 ·exact h' value slice pins s σ H x y v u Q I rx ry q hs
theorem qM.or {id:String} {r r':V->List V->Hp->VK->Prop} (h:qM X id r) (h':qM X id r'):qM X id (λx xs H Q=>r x xs H Q\/r' x xs H Q):=by
 intro pins s σ H x xs v us Q I rx rs q
 rcases q with q | q
 ·exact h pins s σ H x xs v us Q I rx rs q
 ·exact h' pins s σ H x xs v us Q I rx rs q
theorem QX {r:R2} (hr:u4 X r) (ha:PE X a ta) (hb:PE X b tb) (hs:QW b):PE X (.Subscript a b pos) (qI r ta tb):=by
 intro pins s σ H Q I h
 exact Subscript_ (jT ha hb I h λv u s2 x y H2 I2 rx ry q=>hr a b pins s2 σ H2 x y v u Q I2 rx ry q (hs _ _))
def gW (K:PySem.W.Frag):R2:=λx y H Q=>∃ p xs i v,x=.ref p/\y=.int i/\zV K H p xs/\yX xs i=some v/\Q v H
def WC (K:PySem.W.Frag):R2:=λx y H Q=>∃ p xs i v,x=.ref p/\y=.int i/\zl K H p xs/\yX xs i=some v/\Q v H
theorem QY:u4 X (gW X.K):=by
 intro value slice pins s σ H x y v u Q I rx ry h hs
 obtain ⟨p,xs,i,z,rfl,rfl,hq,he,q⟩:=h
 cases rx
 obtain ⟨t,rfl⟩:=ry
 obtain ⟨its,r,pl,hz⟩:=I.list hq
 obtain ⟨j,h1,h2,h3,h4,h5⟩:=QV he
 obtain ⟨w,ew,rw'⟩:=r.get h2
 have hl:=r.length
 have hn:=YA
 have fin:EP X pins σ Q w s:=⟨z,H,I,rw',q⟩
 by_cases h0:0<=i
 ·have hj:i.toNat=j:=by
   rw [seqIndex_of h0 h5] at h1
   exact Option.some.inj h1
  exact item_listR pl.isList h0 (by omega) (by rw [hj]; simpa using ew) fin hs
 ·have hj:(i + (its.toArray.size:Int)).toNat=j:=by
   rw [seqIndex_neg (by omega) h4] at h1
   rw [List.size_toArray,<- hl]
   exact Option.some.inj h1
  exact subscriptTail_builtinR (x:=w) pl.isList.typeIs slot_list_getitem.lookup
   (wpAny_getItem_list_neg (Q:=λr s'=>r=w/\EP X pins σ Q r s') pl.isList (by omega) (by rw [List.size_toArray] <;> omega) (by omega) (by rw [hj]; simpa using ew) ⟨rfl,fin⟩) hs
theorem zPQ:u4 X (WC X.K):=by
 intro value slice pins s σ H x y v u Q I rx ry h hs
 obtain ⟨p,xs,i,z,rfl,rfl,hq,he,q⟩:=h
 cases rx
 obtain ⟨t,rfl⟩:=ry
 obtain ⟨its,r,pl,hz⟩:=I.tuple hq
 obtain ⟨j,h1,h2,h3,h4,h5⟩:=QV he
 obtain ⟨w,ew,rw'⟩:=r.get h2
 have hl:=r.length
 have hn:=YA
 have fin:EP X pins σ Q w s:=⟨z,H,I,rw',q⟩
 exact subscriptTail_builtinR (x:=w) pl.typeIs slot_tuple_getitem.lookup
  (getItem_tuple (j:=j) (Q:=λr s'=>r=w/\EP X pins σ Q r s') pl (by omega) (by omega) (by rw [List.size_toArray,<- hl]; exact h1) (by simpa using ew) ⟨rfl,fin⟩) hs
theorem zIx (its:List Value) (n j:Nat) (u:Value):Obj.mapSeq (·.setIfInBounds j u) { cls:=.type "list",data:=.seq its.toArray n }={ cls:=.type "list",data:=.seq (its.set j u).toArray n }:=by
 simp [Obj.mapSeq]
theorem zD.lst {pins:List (Addr × Obj)} {σ:St} {H:Hp} {s:Shared} {p:Addr} {xs:List V} (I:zD X pins σ H s) (h:H p=some (.lst xs)) :
  ∃ (its:List Value) (n:Nat),zK xs its/\s.heap.get? p=some { cls:=.type "list",data:=.seq its.toArray n }/\xs.length<=sizeLine:=by
 obtain ⟨z,its,n,r,e⟩:=I.hok p _ h
 exact ⟨its,n,r,e,z⟩
theorem zD.lstUpd {pins:List (Addr × Obj)} {σ:St} {H:Hp} {s:Shared} {p:Addr} {xs ys:List V} {its its':List Value} {n n':Nat} {f:Obj->Obj} (I:zD X pins σ H s) (h:H p=some (.lst xs))
  (ho:s.heap.get? p=some { cls:=.type "list",data:=.seq its.toArray n }) (hf:f { cls:=.type "list",data:=.seq its.toArray n }={ cls:=.type "list",data:=.seq its'.toArray n' }) (r:zK ys its') (hz:ys.length<=sizeLine) (t:Nat) :
  zD X pins σ (upd H p (.lst ys)) { s with heap:=s.heap.update p f,toks:=t }:=by
 have e:(s.heap.update p f).get? p=some { cls:=.type "list",data:=.seq its'.toArray n' }:=by
  rw [Heap.get?_update_self f ho (by rw [hf] <;> rfl),hf]
 refine I.write (x:=p) (e:=p) (by rw [h]; trivial) (.inl rfl) (λb u hb q=>(Heap.get?_update_other _ _ (Ne.symm hb)).trans q) ⟨_,e⟩ ?_
 exact ⟨hz,its',n',r,e⟩
def gX:V->V->V->Hp->(Hp->Prop)->Prop:=λo i v H Q=>∃ p xs k j,o=.ref p/\i=.int k/\H p=some (.lst xs)/\xn xs.length k=some j/\Q (upd H p (.lst (xs.set j v)))
theorem zLE:jS X gX:=by
 intro pins s σ H o i v ov iv u Q I ro ri rv h
 obtain ⟨p,xs,k,j,rfl,rfl,hp,hj,q⟩:=h
 cases ro
 obtain ⟨t,rfl⟩:=ri
 obtain ⟨its,n,r,ho,hz⟩:=I.lst hp
 obtain ⟨h1,h2,h3,h4⟩:=QU hj
 have hl:=r.length
 have hn:=YA
 have I':zD X pins σ (upd H p (.lst (xs.set j v))) { s with heap:=s.heap.update p (Obj.mapSeq (·.setIfInBounds j u)) }:=
  I.lstUpd hp ho (zIx its n j u) (r.set rv j) (by rw [List.length_set]; exact hz) s.toks
 by_cases h0:0<=k
 ·have hk:k.toNat=j:=by
   rw [seqIndex_of h0 h4] at h1
   exact Option.some.inj h1
  exact PySem.W.ki_setAt ho h0 (by omega) (by rw [List.size_toArray,<- hl]; exact h4) (by rw [hk]; exact ⟨_,I',q⟩)
 ·have hk:(k + (its.toArray.size:Int)).toNat=j:=by
   rw [seqIndex_neg (by omega) h3] at h1
   rw [List.size_toArray,<- hl]
   exact Option.some.inj h1
  exact PySem.W.ki_setBack ho (by omega) (by rw [List.size_toArray,<- hl]; exact h3) (by omega) (by rw [hk]; exact ⟨_,I',q⟩)
theorem zGN (lo hi:Option Int) (n:Nat):(sliceBounds lo hi none n).1=((HT.sIx n 0 lo:Nat):Int)/\(sliceBounds lo hi none n).2.1=((HT.sIx n n hi:Nat):Int)/\(sliceBounds lo hi none n).2.2=1:=by
 refine ⟨?_,?_,rfl⟩
 ·cases lo with
  | none=>simp [sliceBounds,HT.sIx]
  | some i=>
   simp only [sliceBounds,HT.sIx,Option.getD_none,show (1:Int) > 0 by decide,if_true]
   by_cases h:i < 0
   ·simp only [h,if_true] <;> omega
   ·simp only [h,if_false] <;> omega
 ·cases hi with
  | none=>simp [sliceBounds,HT.sIx]
  | some i=>
   simp only [sliceBounds,HT.sIx,Option.getD_none,show (1:Int) > 0 by decide,if_true]
   by_cases h:i < 0
   ·simp only [h,if_true] <;> omega
   ·simp only [h,if_false] <;> omega
theorem zFi (its:List Value) (lo hi:Option Int):slicePick its.toArray lo hi none=((its.drop (HT.sIx its.length 0 lo)).take (HT.sIx its.length its.length hi - HT.sIx its.length 0 lo)).toArray:=by
 obtain ⟨h1,h2,h3⟩:=zGN lo hi its.toArray.size
 unfold slicePick
 rw [h1,h2,h3]
 simp only [sliceRange_one,pick_run,List.size_toArray] <;> rfl
def WD (K:PySem.W.Frag):V->Option Int->Option Int->Hp->VK->Prop:=λx lo hi H Q=>∃ a xs,x=.ref a/\zV K H a xs/\∀ p,H p=none->Q (.ref p) (upd H p (.lst (wI xs lo hi)))
theorem zMt:vY X (WD X.K):=by
 intro pins s σ H x v vl vu lo hi sl Q I rx hs pl pu h
 obtain ⟨a,xs,rfl,hx,q⟩:=h
 cases rx
 obtain ⟨its,r,ht,hz⟩:=I.list hx
 have hlen:=r.length
 refine ⟨"list",_,slot_list_getitem.lookup,ht.isList.typeIs,?_⟩
 refine wpAny_getItem_list_slice ht.isList hs pl pu .none (by simp) ?_ (by rw [List.size_toArray] <;> omega)
 rw [zFi,<- hlen]
 refine ⟨.ref s.heap.objs.size,_,I.laid (t':=s.toks) (o:=.lst (wI xs lo hi)) (λb ob q=>Heap.get?_push_of_some _ q) (Nat.le_refl _) ?_,rfl,q _ (I.hok.fresh (Nat.le_refl _))⟩
 exact ⟨Nat.le_trans (QT xs lo hi) hz,_,0,(r.drop (HT.sIx xs.length 0 lo)).take (HT.sIx xs.length xs.length hi - HT.sIx xs.length 0 lo),Heap.get?_push_size _ rfl⟩
theorem xT:xN X (.builtin "len") (λxs H Q=>∃ p ys,xs=[.ref p]/\(zV X.K H p ys\/zl X.K H p ys)/\Q (.int ys.length) H):=by
 intro pins s σ H xs us Q I r h
 obtain ⟨p,ys,rfl,hq,q⟩:=h
 obtain ⟨u,rfl,rx⟩:=vG r
 cases rx
 have hn:=YA
 rcases hq with hq | hq
 ·obtain ⟨its,r',pl,hz⟩:=I.list hq
  have hlen:=r'.length
  exact Calls.call_len_list pl.isList (by simp only [List.size_toArray] <;> omega) ⟨.int ys.length,H,I.tok _,⟨s.toks + 1,by rw [List.size_toArray,hlen]⟩,q⟩
 ·obtain ⟨its,r',pl,hz⟩:=I.tuple hq
  have hlen:=r'.length
  exact len_tuple pl (by simp only [List.size_toArray] <;> omega) ⟨.int ys.length,H,I.tok _,⟨s.toks + 1,by rw [List.size_toArray,hlen]⟩,q⟩
theorem xN.or {f:Value} {r r':List V->Hp->VK->Prop} (h:xN X f r) (h':xN X f r'):xN X f (λxs H Q=>r xs H Q\/r' xs H Q):=by
 intro pins s σ H xs us Q I rs q
 rcases q with q | q
 ·exact h pins s σ H xs us Q I rs q
 ·exact h' pins s σ H xs us Q I rs q
theorem wv:xN X (.type "list") (λxs H Q=>∃ p ys,xs=[.ref p]/\(zV X.K H p ys\/zl X.K H p ys)/\∀ l,H l=none->Q (.ref l) (upd H l (.lst ys))):=by
 intro pins s σ H xs us Q I r h
 obtain ⟨p,ys,rfl,hq,q⟩:=h
 obtain ⟨u,rfl,rx⟩:=vG r
 cases rx
 have fin:∀ (its:List Value),zK ys its->ys.length<=sizeLine->∀ (h':Heap) (c':Nat),(∀ b o',s.heap.get? b=some o'->h'.get? b=some o')->
   h'.get? s.heap.objs.size=some { cls:=.type "list",dict:=none,data:=.seq its.toArray c',slots:=#[] }->EP X pins σ Q (.ref s.heap.objs.size) { s with heap:=h' }:=λits r' hz h' c' kp e=>
  ⟨.ref s.heap.objs.size,_,I.laid (t':=s.toks) kp (Nat.le_refl _) (show xM X.prog X.w _ h' _ (.lst ys) from ⟨hz,its,c',r',e⟩),rfl,q _ (I.hok.fresh (Nat.le_refl _))⟩
 rcases hq with hq | hq
 ·obtain ⟨its,r',pl,hz⟩:=I.list hq
  have hlen:=r'.length
  obtain ⟨o,ho,hc,n,hd⟩:=pl.isList
  exact call_list_seq p (.inl rfl) ho hc hd (λh' c' kp e=>fin its r' hz h' c' kp e) (by simp only [List.size_toArray] <;> omega)
 ·obtain ⟨its,r',pl,hz⟩:=I.tuple hq
  have hlen:=r'.length
  obtain ⟨o,ho,hc,n,hd⟩:=pl
  exact call_list_seq p (.inr rfl) ho hc hd (λh' c' kp e=>fin its r' hz h' c' kp e) (by simp only [List.size_toArray] <;> omega)
theorem uL:xN X (.type "tuple") (λxs H Q=>∃ p ys,xs=[.ref p]/\((zV X.K H p ys/\∀ l,H l=none->Q (.ref l) (upd H l (.tup ys)))\/(zl X.K H p ys/\Q (.ref p) H))):=by
 intro pins s σ H xs us Q I r h
 obtain ⟨p,ys,rfl,h⟩:=h
 obtain ⟨u,rfl,rx⟩:=vG r
 cases rx
 rcases h with ⟨hq,q⟩ | ⟨hq,q⟩
 ·obtain ⟨its,r',pl,hz⟩:=I.list hq
  have hlen:=r'.length
  refine call_tuple_list pl.isList (λh' kp=>?_) (by simp only [List.size_toArray] <;> omega)
  have I1:zD X pins σ H { s with heap:=h' }:=I.kept (t':=s.toks) kp
  have I2:zD X pins σ (upd H h'.objs.size (.tup ys)) { s with heap:=h'.push { cls:=.type "tuple",data:=.seq its.toArray } }:=
   I1.laid (t':=s.toks) (λb o e=>Heap.get?_push_of_some _ e) (Nat.le_refl _) (show xM X.prog X.w _ _ _ (.tup ys) from ⟨hz,its,r',IsTup.new _ _⟩)
  exact ⟨.ref h'.objs.size,_,I2,rfl,q _ (I1.hok.fresh (Nat.le_refl _))⟩
 ·obtain ⟨its,r',pl,hz⟩:=I.tuple hq
  exact call_tuple_same pl ⟨.ref p,H,I,rfl,q⟩
def QZ (K:PySem.W.Frag) (T:String) (x:V) (H:Hp):Prop:=match x with
 | .str _=>T = "str"
 | .int _=>T = "int"
 | .ref p=>(T = "list"/\∃ xs,zV K H p xs)\/(T = "tuple"/\∃ o,K.lookup p=some o/\o.cls=.type "tuple"/\o.dict=none)∨
   (T = "dict"/\((∃ kvs,H p=some (.dK kvs))\/∃ kvs,H p=some (.dT kvs)))\/(T = "set"/\∃ S n,H p=some (.set S n))
 | _=>False
theorem zOC {pins:List (Addr × Obj)} {σ:St} {H:Hp} {s:Shared} {T:String} {x:V} {v:Value} (I:zD X pins σ H s) (r:zN x v) (ty:QZ X.K T x H) :
  s.TypeIs v T/\∀ a,v=.ref a->∃ ob,s.heap.get? a=some ob/\ob.dict=none:=by
 cases x with
 | str z=>
  obtain ⟨t,rfl⟩:=r
  cases (show T = "str" from ty)
  exact ⟨typeIs_str s z t,λ_ e=>nomatch e⟩
 | int i=>
  obtain ⟨t,rfl⟩:=r
  cases (show T = "int" from ty)
  exact ⟨typeIs_int s i t,λ_ e=>nomatch e⟩
 | ref p=>
  cases r
  rcases ty with ⟨rfl,xs,hq⟩ | ⟨rfl,o,hk,hc,hd⟩ | ⟨rfl,hk⟩ | ⟨rfl,S,n,hk⟩
  ·obtain ⟨its,_,pl,_⟩:=I.list hq
   refine ⟨pl.isList.typeIs,λa e=>?_⟩
   cases e
   obtain ⟨o,n,e,c,hd,_⟩:=pl
   exact ⟨o,e,hd⟩
  ·refine ⟨⟨o,I.kIn p o hk,hc⟩,λa e=>?_⟩
   cases e
   exact ⟨o,I.kIn _ o hk,hd⟩
  ·have z:∃ o,s.heap.get? p=some o/\o.ExactDict:=by
    rcases hk with ⟨kvs,hk⟩ | ⟨kvs,hk⟩
    ·obtain ⟨_,_,_,_,o,_,_,e,ex,_⟩:=I.hok p _ hk
     exact ⟨o,e,ex⟩
    ·obtain ⟨_,_,_,_,o,_,_,e,ex,_⟩:=I.hok p _ hk
     exact ⟨o,e,ex⟩
   obtain ⟨o,e,ex⟩:=z
   refine ⟨⟨o,e,ex.1⟩,λa e2=>?_⟩
   cases e2
   exact ⟨o,e,ex.2.1⟩
  ·obtain ⟨o,_,_,_,e,ex,_⟩:=I.hok p _ hk
   refine ⟨⟨o,e,ex.1⟩,λa e2=>?_⟩
   cases e2
   exact ⟨o,e,ex.2.1⟩
 | _=>exact False.elim ty
def Qa (K:PySem.W.Frag) (T:String) (r:V->List V->Hp->VK->Prop) (to:TE) (t:TA):TE:=λσ H Q=>to σ H λx H1=>QZ K T x H1/\t σ H1 λxs H2=>r x xs H2 Q
variable {o e:Expr} {es:List Expr} {to:TE} {t:TA} {name:Str} {apos cpos:Pos} {T id:String} {r:V->List V->Hp->VK->Prop}
theorem we (pa:PlainAttrs T) (slot:Slot T name id) (hty:typeOf (.builtin id)=pure (.type "method_descriptor")) (hm:qM X id r) (ho:PE X o to) (ha:PA X (e :: es) t)
  (hbase:attributeBase o name X.env (eval o X.env)=eval o X.env:=by rfl)
  (hfew:((backTo cpos (starEach (e :: es) X.env)).all (λx=>!x.1) && (backToKw cpos (keywordEach [] X.env)).all (λx=>x.1.isSome)
   && decide ((e :: es).length + ([]:List Keyword).length + (if ([]:List Keyword).isEmpty then 0 else 1) < 30))=true:=by rfl)
  (hline:(apos.endLine == cpos.line)=true:=by rfl) (hs:starEach (e :: es) X.env=(false,eval e X.env) :: starEach es X.env:=by rfl) (hplain:(backTo cpos (starEach es X.env)).any (·.1)=false:=by rfl) :
  PE X (.Call (.Attribute o name apos) (e :: es) [] cpos) (Qa X.K T r to t):=by
 intro pins s σ H Q I h
 refine wpAny_Call_method_late hbase hfew hline rfl (zb (ho pins s σ H _ I h) λv s1 ⟨x,H1,I1,r1,ty,q1⟩=>?_)
 obtain ⟨h1,h2⟩:=zOC I1 r1 ty
 refine ⟨T,id,pa,slot,hty,h1,h2,?_⟩
 have hA:=ha cpos pins s1 σ H1 _ I1 q1
 rw [hs] at hA |-
 refine Calls.callWith_builtin (by show (false || (backTo cpos (starEach es X.env)).any (·.1))=false; rw [hplain] <;> rfl) (Calls.evalArgs_plain ?_)
 exact zb hA λus s2 ⟨vs,H2,I2,r2,q2⟩=>hm pins s2 σ H2 x vs v us Q I2 r1 r2 q2
/- xs.append(e),list.index on a module's tuple .. are qM facts of 06m -/
end
end L2
namespace L2
open PySem PySem.Spec PyProof.Rows
def Qb (X:Cx) (id:String) (r:V->List V->Hp->VK->Prop):Prop:=
 ∀ (pins:List (Addr × Obj)) (s:Shared) (σ:St) (H:Hp) (x:V) (xs:List V) (v:Value) (us:List Value) (Q:VK),zD X pins σ H s->zN x v->zK xs us->r x xs H Q->
  wpAny (model X.prog X.w) X.A (call (.builtin id) (v :: us)) (EP X pins σ Q) X.xe s
theorem zK.one:∀ {x:V} {us:List Value},zK [x] us->∃ u,us=[u]/\zN x u
 | _,_,.cons r .nil=>⟨_,rfl,r⟩
theorem zK.two:∀ {x y:V} {us:List Value},zK [x,y] us->∃ u v,us=[u,v]/\zN x u/\zN y v
 | _,_,_,.cons r (.cons q .nil)=>⟨_,_,rfl,r,q⟩
theorem zK.zero:∀ {us:List Value},zK [] us->us=[]
 | _,.nil=>rfl
theorem zK.rep {xs:List V} {us:List Value} (h:zK xs us):∀ k:Nat,zK (List.replicate k xs).flatten (List.replicate k us).flatten
 | 0=>.nil
 | k + 1=>by
  rw [List.replicate_succ,List.replicate_succ,List.flatten_cons,List.flatten_cons]
  exact zK.append h (zK.rep h k)
theorem Qc (its:List Value):∀ (k:Nat) (acc:List Value),
  List.foldl (λx1 x2=>x1++x2) acc.toArray (List.replicate k its.toArray)=(acc++(List.replicate k its).flatten).toArray
 | 0,acc=>by simp
 | k + 1,acc=>by
  have e:acc.toArray++its.toArray=(acc++its).toArray:=by simp
  have e2:(acc++its)++(List.replicate k its).flatten=acc++(List.replicate (k + 1) its).flatten:=by
   rw [List.replicate_succ,List.flatten_cons,List.append_assoc]
  rw [<- e2,<- Qc its k (acc++its),<- e,List.replicate_succ,List.foldl_cons]
section
variable {X:Cx} {pins:List (Addr × Obj)} {σ:St} {H:Hp} {s:Shared} {l b:Addr} {xs ys zs:List V}
theorem zD.lset {its its':List Value} {n:Nat} {f:Array Value->Array Value} {t':Nat} (I:zD X pins σ H s) (hH:H l=some (.lst xs))
  (e:s.heap.get? l=some { cls:=.type "list",data:=.seq its.toArray n }) (hf:f its.toArray=its'.toArray) (hv:zK ys its') (hz:ys.length<=sizeLine) :
  zD X pins σ (upd H l (.lst ys)) { s with heap:=s.heap.update l (Obj.mapSeq f),toks:=t' }:=by
 have q:=PySem.IsL.update e f
 rw [hf] at q
 refine I.write (x:=l) (e:=l) (by rw [hH]; exact trivial) (.inl rfl) (λb' u hb hu=>(Heap.get?_update_other s.heap (Obj.mapSeq f) (Ne.symm hb)).trans hu) ⟨_,q⟩ ?_
 exact ⟨hz,its',_,hv,q⟩
theorem zD.lnew {its:List Value} {t':Nat} (I:zD X pins σ H s) (hv:zK ys its) (hz:ys.length<=sizeLine) :
  zD X pins σ (upd H s.heap.objs.size (.lst ys)) { s with heap:=s.heap.push { cls:=.type "list",data:=.seq its.toArray },toks:=t' }:=
 I.laid (λ_ _ q=>Heap.get?_push_of_some _ q) (Nat.le_refl _) ⟨hz,its,0,hv,Heap.get?_push_size _ rfl⟩
theorem zD.fresh (I:zD X pins σ H s):H s.heap.objs.size=none:=I.hok.fresh (Nat.le_refl _)
theorem zD.lstM (I:zD X pins σ H s) (hH:H l=some (.lst xs)):xs.length<=sizeLine/\∃ (its:List Value) (n:Nat),zK xs its/\xs.length=its.length/\s.heap.get? l=some { cls:=.type "list",data:=.seq its.toArray n }:=by
 obtain ⟨z,its,n,r,e⟩:=I.hok l _ hH
 exact ⟨z,its,n,r,r.length,e⟩
theorem zLo {n:Nat} (h:n<=sizeLine):Builtin.List.listTooLong n=false:=by
 unfold Builtin.List.listTooLong
 exact decide_eq_false (by omega)
end
section
variable {X:Cx}
def zM1:V->List V->Hp->VK->Prop:=λx vs H Q=>∃ l xs y,x=.ref l/\vs=[y]/\H l=some (.lst xs)/\xs.length < sizeLine/\Q .non (upd H l (.lst (xs++[y])))
theorem zJ5:Qb X "list.append" zM1:=by
 intro pins s σ H x vs v us Q I rx rv h
 obtain ⟨l,xs,y,rfl,rfl,hH,hz,q⟩:=h
 cases rx
 obtain ⟨u,rfl,ru⟩:=rv.one
 obtain ⟨z,its,n,r,hl,e⟩:=I.lstM hH
 refine call_meets F.slot_list_append ⟨_,e,rfl⟩ F.entry_list_append (F.args_list_append_2 _ _) (PySem.list_append l its.toArray n u (by rw [List.size_toArray]; omega)) ⟨e,?_⟩
 refine ⟨.non,_,I.lset (its':=its++[u]) hH e (by simp) (r.append (.cons ru .nil)) ?_,rfl,q⟩
 rw [List.length_append,List.length_singleton]
 omega
def gY:R2:=λx y H Q=>∃ l b xs zs,x=.ref l/\y=.ref b/\H l=some (.lst xs)/\H b=some (.lst zs)/\xs.length + zs.length<=sizeLine/\∀ p,H p=none->Q (.ref p) (upd H p (.lst (xs++zs)))
theorem zPB:yW X (binaryOp .Add) gY:=by
 intro pins s σ H x y v u Q I rx ry h
 obtain ⟨l,b,xs,zs,rfl,rfl,hH,hB,hz,q⟩:=h
 cases rx
 cases ry
 obtain ⟨z,its,n,r,hl,e⟩:=I.lstM hH
 obtain ⟨z2,its2,n2,r2,hl2,e2⟩:=I.lstM hB
 refine PySem.P.add_list e e2 ?_ (by rw [List.size_toArray,List.size_toArray]; omega)
 have ea:its.toArray++its2.toArray=(its++its2).toArray:=by simp
 rw [ea]
 exact ⟨.ref _,_,I.lnew (t':=s.toks) (r.append r2) (by rw [List.length_append]; omega),rfl,q _ I.fresh⟩
def gZ:R2:=λx y H Q=>∃ l k xs,x=.ref l/\y=.int k/\H l=some (.lst xs)/\-(2 ^ 63)<=k/\k < 2 ^ 63/\xs.length * k.toNat<=sizeLine∧
 ∀ p,H p=none->Q (.ref p) (upd H p (.lst (List.replicate k.toNat xs).flatten))
theorem zNZ {α:Type} (xs:List α) (k:Nat):(List.replicate k xs).flatten.length=k * xs.length:=by
 induction k with
 | zero=>simp
 | succ k ih=>rw [List.replicate_succ,List.flatten_cons,List.length_append,ih,Nat.succ_mul,Nat.add_comm]
theorem zO4:yW X (binaryOp .Mult) gZ:=by
 intro pins s σ H x y v u Q I rx ry h
 obtain ⟨l,k,xs,rfl,rfl,hH,h1,h2,hz,q⟩:=h
 cases rx
 obtain ⟨t,rfl⟩:=ry
 obtain ⟨z,its,n,r,hl,e⟩:=I.lstM hH
 have hlen:its.toArray.size * k.toNat<=sizeLine:=by rw [List.size_toArray,<- hl]; exact hz
 have hcap:¬ its.toArray.size * k.toNat > (2 ^ 63 - 1) / 8:=by
  have:(sizeLine:Nat)<=(2 ^ 63 - 1) / 8:=by decide
  omega
 have hfit:¬ (!Builtin.List.listFitsIndex k)=true:=by
  rw [fitsIndex_both h1 h2]
  exact Bool.false_ne_true
 have hlong:¬ Builtin.List.listTooLong (its.toArray.size * k.toNat)=true:=by
  rw [zLo hlen]
  exact Bool.false_ne_true
 have hnew:List.foldl (λx1 x2=>x1++x2) #[] (List.replicate (if its.toArray.isEmpty=true then 0 else k.toNat) its.toArray)=(List.replicate k.toNat its).flatten.toArray:=by
  have f0:∀ m:Nat,List.foldl (λx1 x2=>x1++x2) #[] (List.replicate m its.toArray)=(List.replicate m its).flatten.toArray:=λm=>by
   have:=Qc its m []
   rw [List.nil_append] at this
   exact this
  rw [f0]
  cases its with
  | nil=>simp
  | cons a r'=>rw [if_neg (by simp)]
 refine wpAny_binaryOp_repeat_ref (T:="list") (U:="int") (by decide) ⟨_,e,rfl⟩ (λs'=>typeIs_int s' k t) noFill_list_mul F.fills_int_mul F.slot_int_rmul repeat_list F.slot_int_index.lookup
  (call_meets F.slot_int_rmul (typeIs_int s k t) F.entry_int_rmul (F.args_int_rmul_2 _ _) (int___rmul___int_list k t l its.toArray n)
   ⟨e,rfl,⟨_,e,rfl⟩,call_meets F.slot_list_mul ⟨_,e,rfl⟩ F.entry_list_mul (F.args_list_mul_2 _ _) (AutoListH.list___mul___list_int_3 l its.toArray n k t hfit hcap hlong) ⟨e,?_⟩⟩)
 rw [hnew]
 exact ⟨.ref _,_,I.lnew (t':=s.toks) (r.rep k.toNat) (by rw [zNZ,Nat.mul_comm]; exact hz),rfl,q _ I.fresh⟩
end
section
variable {prog:Program} {w:World} {A:Around} {E:Value->Shared->Prop} {s:Shared}
end
section
variable {X:Cx}
end
end L2
namespace Att
open PySem PySem.W PySem.Calls PyProof.Rows
theorem zE4 {P:Params} {h:Heap}:∀ (ns:List Int) (vs:List Value),WellAll P h vs (ns.map WData.int)->IntsAre vs ns:=by
 intro ns
 induction ns with
 | nil=>
  intro vs w
  rw [List.map_nil] at w
  cases w
  exact .nil
 | cons n ns ih=>
  intro vs w
  rw [List.map_cons] at w
  cases w with
  | cons a b=>
   cases a
   exact .cons _ _ (ih _ b)
theorem zJK {l:OpenLaw} {n:Nat} (hn:l.most=some n) {P:Params} {h:Heap} {args:List WData} {vals:List Value}
  (hpre:l.row.toRowW.claim.pre args=true) (hwl:WellAll P h vals args) :
  ∃ a vs ns,vals=[Value.ref a]/\args=[WData.list (ns.map WData.int)]/\h.get? a=some { cls:=.type "list",data:=.seq vs.toArray }/\IntsAre vs ns/\ns.length<=n:=by
 have hsh:WShape.hasAll [] args [.list .int]=true:=(pre_splitW hpre).1
 have hc:l.pre.holds [] { args:=args }=true:=(pre_splitW hpre).2
 obtain ⟨d,r,rfl,h1,h2⟩:=hasAllW_cons hsh
 obtain rfl:=hasAllW_nil h2
 obtain ⟨xs,rfl,h3⟩:=hasW_list h1
 obtain ⟨ns,rfl⟩:=items_int h3
 have hlen:ns.length<=n:=by
  unfold OpenLaw.pre at hc
  have h4:(WTm.not (.lt (.lit (.int (n:Int))) (.len (.arg 0)))).holds [] { args:=[.list (ns.map .int)] }=true:=by
   have h4:=(holds_andW hc).1
   rw [hn] at h4
   exact h4
  have h5:=condW_of h4 (w_not (w_lt w_lit (w_len_list (w_arg rfl))))
  rw [List.length_map] at h5
  refine Nat.le_of_not_lt λq=>?_
  have q':(n:Int) < ((ns.length:Nat):Int):=by omega
  first
   | (rw [decide_eq_true q'] at h5; exact absurd h5 (by decide))
   | (simp at h5; omega)
 cases hwl with
 | cons w1 w2=>
  cases w2
  cases w1 with
  | list ho hall=>exact ⟨_,_,ns,rfl,rfl,ho,zE4 ns _ hall,hlen⟩
theorem zJZ (l:OpenLaw) (args:List WData):l.row.toRowW.claim.post args (.bool true) args=true:=
 postW_of (r:=l.row.toRowW) (X:=(true == true))
  (show WShape.has [] (.bool true) .bool=true by first | rfl | decide | simp [WShape.has,WShape.arms,WShape.armsAll])
  (show (WTm.eq .res (.lit (.bool true))).value [] { args:=args,res:=some (.bool true),after:=args }=some (.bool (true == true)) from w_eq_bool (w_res rfl) w_lit) rfl
theorem attach_call {l:OpenLaw} {n:Nat} {q:Program} {loose:List Str} {XP:(Str->Option Value)->Heap->Prop} {YP:World->Heap->Prop} {d:DefRec}
  (hn:l.most=some n) (hdf:d.params.defaults=[])
  (call:∀ (w:World) (s₀ s₁:Shared) (mg mb:Str->Option Value) (fa:Addr) (o:Obj) (pm cd doc:Value) (a:Addr) (vs:List Value) (ns:List Int),
   Ground q loose [] XP w s₀ mg mb s₁.heap->YP w s₁.heap->
   s₁.heap.get? fa=some o->o.data=.func (docDef d.name d.params d.body d.scope pm cd doc)->s₁.heap.CodeRec cd d.name->mg d.name=some (.ref fa)->
   s₁.heap.get? a=some { cls:=.type "list",data:=.seq vs.toArray }->IntsAre vs ns->ns.length<=n->s₁.gens=#[]->
   codeAny (model l.prog w) callerA (.call (.ref fa) ⟨[.ref a],[]⟩) (λr s'=>r=.ok (.ret (.bool true))/\OldK s₁.heap s'.heap/\s'.os=s₁.os/\AllBare s'.gens) s₁) :
  WalkO q loose XP YP l.row.toRowW d [] (λf vs=>PySem.call f vs):=by
 intro w s₀ s₁ mg mb G Y fa o pm cd doc dV kV ho hd hcd hD hmg hg args vals as hpre hlay hrd hwl hlo
 obtain rfl:dV=.none:=Dflts.none hD hdf
 obtain rfl:kV=.none:=Dflts.noKw hD
 obtain ⟨a,vs,ns,rfl,rfl,hobj,hints,hlen⟩:=zJK hn hpre hwl
 refine enter_call (codeAny_mono (call w s₀ s₁ mg mb fa o pm cd doc a vs ns G Y ho (fd_plain hd) hcd hmg hobj hints hlen hg) λr s' hq=>?_)
 obtain ⟨rfl,h2,h3,h4⟩:=hq
 exact ⟨.inl ⟨.bool true,.bool true,[],rfl,λ_=>rfl,.bool true,zJZ l _,λ_=>⟨List.Pairwise.nil,λ_ hm=>(nomatch hm)⟩⟩,h2,h3,h4⟩
section
variable {prog:Program} {w:World} {A:Around} {E:Value->Shared->Prop} {s:Shared} {K:Frag}
end
end Att
namespace L2
open PySem PySem.Spec PyProof.Rows
theorem Qd:∀ {vs:List Value} {ns:List Int},IntsAre vs ns->zK (ns.map V.int) vs
 | _,_,.nil=>.nil
 | _,_,.cons n t h=>.cons ⟨t,rfl⟩ (Qd h)
end L2
namespace L2
open PySem PySem.Spec PyProof.Rows
end L2
namespace L2
open PySem PySem.Spec PyProof.Rows
def ga (s:Stmt) (j:Nat):Stmt:=match s with
 | .ClassDef _ _ _ body _ _ _ _ _ _ _=>body.getD j (.Pass ⟨0,0,0,0⟩)
 | _=>.Pass ⟨0,0,0,0⟩
def wA (s:Stmt):Arguments:=match s with
 | .FunctionDef _ a _ _ _ _ _ _ _ _=>a
 | _=>{ posonlyargs:=[],args:=[],vararg:=none,kwonlyargs:=[],kw_defaults:=[],kwarg:=none,defaults:=[] }
def y8 (s:Stmt):List Stmt:=match s with
 | .FunctionDef _ _ b _ _ _ _ _ _ _=>b
 | _=>[]
def zL (s:Stmt):Scope:=match s with
 | .FunctionDef _ _ _ _ _ _ sc _ _ _=>sc
 | _=>{ kind:=.function,names:=[],isGenerator:=false,isCoroutine:=false }
abbrev zU:wY:=λ_ _ _ _ _ _=>False
abbrev E0:XK:=λ_ _ _=>False
theorem YE {X:Cx}:qL zU X E0:=λ_ _ _ _ _ _ _ h=>h.elim
structure ze (K:PySem.W.Frag) (x qual:Str) (st:Stmt) (f:Addr) (fd:FuncData):Prop where
 ex:∃ (oc:Value) (od:Option Addr) (kV doc pm:Value) (an:Option Addr) (cdv ct:Value) (osl:Array (Option Value)),
  fd=PySem.W.fnOf x qual (wA st) (y8 st) (zL st) .none kV doc pm an cdv ct/\K.lookup f=some ⟨oc,od,.func fd,osl⟩/\PySem.W.codeIn K cdv qual=true
 kp:PySem.W.keepIn K (.ref f)=true
section
variable {P:Program} {w:World} {K:PySem.W.Frag} {mg:Str->Option Value} {base:Heap}
theorem ze.ok {x qual:Str} {st:Stmt} {f:Addr} {fd:FuncData} {N ps:List Str} {k:Nat} {sp:Sp} (F:ze K x qual st f fd) (S:zc N ps (zL st)) (len:∀ vs H Q E,sp vs H Q E->vs.length=ps.length)
  (hbody:∀ (cdv:Value) (A:Around) (outer:List Env) (s:Shared) (H:Hp) (vs:List V) (Q:VK) (E:XK),zZ k (A.deeper (envOfC qual (zL st) s.heap.objs.size f cdv))->sp vs H Q E->
   ∃ t,yj (y6 zU P w K mg base N qual (zL st) f cdv A outer s H E).nox (y8 st) t/\t { nx:=λ_ H'=>Q .non H',rt:=Q } (wQ N vs) H):zF P w K mg base zU (k + 1) f fd ps sp:=by
 obtain ⟨oc,od,kV,doc,pm,an,cdv,ct,osl,rfl,lk,hcd⟩:=F.ex
 refine WA lk hcd S len λA outer s H vs Q E hr hsp=>?_
 obtain ⟨t,h,q⟩:=hbody cdv A outer s H vs Q E hr hsp
 exact ⟨t,h.nox,q⟩
theorem ze.binds {x qual:Str} {st:Stmt} {f:Addr} {fd:FuncData} {ps:List Str} (F:ze K x qual st f fd)
  (h:∀ (kV doc pm:Value) (an:Option Addr) (cdv ct:Value) (us:List Value),us.length=ps.length->bindArgs (PySem.W.fnOf x qual (wA st) (y8 st) (zL st) .none kV doc pm an cdv ct) ⟨us,[]⟩=pure (ps.zip us)):xh K fd ps []:=by
 obtain ⟨oc,od,kV,doc,pm,an,cdv,ct,osl,rfl,lk,hcd⟩:=F.ex
 exact .all (h kV doc pm an cdv ct)
theorem WE {x qual:Str} {st:Stmt} {f:Addr} {oc:Value} {od an:Option Addr} {osl:Array (Option Value)} {kV doc pm cdv ct:Value} (l:K.lookup f=some ⟨oc,od,.func (PySem.W.fnOf x qual (wA st) (y8 st) (zL st) .none kV doc pm an cdv ct),osl⟩)
  (c:PySem.W.codeIn K cdv qual=true) (k:PySem.W.keepIn K (.ref f)=true):ze K x qual st f (PySem.W.fnOf x qual (wA st) (y8 st) (zL st) .none kV doc pm an cdv ct):=⟨⟨oc,od,kV,doc,pm,an,cdv,ct,osl,rfl,l,c⟩,k⟩
end
theorem YF {n:Nat} (h:n<=1000):n < sizeLine:=Nat.lt_of_le_of_lt h (by decide)
section
variable {X:Cx}
theorem pv (i:Nat) {x:Str} {pos:Pos} (hN:X.N[i]? = some x:=by rfl) (hv:qF X.env.scope x:=by first | exact Or.inl rfl | exact Or.inr (Or.inl rfl) | exact Or.inr (Or.inr rfl)) (hd:(x == ("__debug__" : Str))=false:=by decide)
  (hcd:(x == ("__classdict__" : Str))=false:=by decide):PE X (.Name x pos) (uG i):=Xk hN hv hd hcd
end
def zJ (H H':Hp):Prop:=∀ b o,H b=some o->H' b=some o
theorem zJ.refl (H:Hp):zJ H H:=λ_ _ h=>h
theorem zJ.trans {H H1 H2:Hp} (a:zJ H H1) (b:zJ H1 H2):zJ H H2:=λc o h=>b c o (a c o h)
theorem zJ.free {H H':Hp} (e:zJ H H') {l:Addr} (h:H' l=Option.none):H l=Option.none:=by
 cases q:H l with
 | none=>rfl
 | some o=>
  rw [e l o q] at h
  cases h
theorem zJ.seq {K:PySem.W.Frag} {H H':Hp} {a:Addr} {xs:List V} (e:zJ H H') (h:zV K H a xs):zV K H' a xs:=by
 rcases h with (h | ⟨o,h⟩) | h
 ·exact .inl (.inl (e _ _ h))
 ·exact .inl (.inr ⟨o,e _ _ h⟩)
 ·exact .inr h
end L2
set_option maxHeartbeats 4000000
namespace Sh
def wf (ns:List Int):Int:=ns.foldl (λc n=>(Int.gcd c n:Int)) 0
theorem zHT (ns:List Int) (n:Int):wf (ns++[n])=(Int.gcd (wf ns) n:Int):=by
 unfold wf
 rw [List.foldl_append]
 rfl
theorem zF7 (ns:List Int):0<=wf ns:=by
 rcases List.eq_nil_or_concat ns with rfl | ⟨l,a,rfl⟩
 ·exact Int.le_refl 0
 ·rw [List.concat_eq_append,zHT]
  exact Int.natCast_nonneg _
def cm (t b:Int):Int:=if b < 0 then -(Int.gcd t b:Int) else (Int.gcd t b:Int)
def WF (t b:Int):Int:=t.fdiv (cm t b)
def WG (t b:Int):Int:=b.fdiv (cm t b)
end Sh
namespace Sh
def zPj (st:Int × Int) (p:Int × Int × Int):Int × Int:=(st.1 * p.2.2 + p.1 * p.2.1 * st.2,st.2 * p.2.2)
def u5 (ws:List Int) (pts:List (Int × Int)):Int × Int:=(ws.zip pts).foldl zPj (0,1)
end Sh
namespace Sh
def gc (ws:List Int):List Int:=ws.map (·.fdiv (wf ws))
section
variable {β γ:Type}
def look (m:List (List Int × β)) (k:List Int):Option β:=(m.find? λkv=>decide (kv.1=k)).map (·.2)
def put (m:List (List Int × β)) (k:List Int) (v:β):List (List Int × β):=
 if (m.any λkv=>decide (kv.1=k))=true then m.map (λkv=>if kv.1=k then (kv.1,v) else kv) else m++[(k,v)]
theorem Qe (m:List (List Int × β)) (k:List Int):(m.any λkv=>decide (kv.1=k))=(look m k).isSome:=by
 induction m with
 | nil=>rfl
 | cons p r ih=>
  unfold look at ih |-
  rw [List.any_cons,List.find?_cons,ih]
  by_cases e:p.1=k
  ·rw [decide_eq_true e]; rfl
  ·rw [decide_eq_false e]; rfl
theorem YG {m:List (List Int × β)} {k:List Int} (h:look m k=none):∀ p∈m,p.1≠k:=by
 intro p hp e
 have a:(m.any λkv=>decide (kv.1=k))=true:=List.any_eq_true.mpr ⟨p,hp,decide_eq_true e⟩
 rw [Qe,h] at a
 cases a
theorem Qf {m:List (List Int × β)} {k:List Int} {v:β} {p:List Int × β} (h:p∈put m k v):p=(k,v)\/p∈m:=by
 unfold put at h
 split at h
 ·obtain ⟨q,hq,e⟩:=List.mem_map.mp h
  by_cases c:q.1=k
  ·rw [if_pos c] at e
   exact .inl (by rw [<- e,c])
  ·rw [if_neg c] at e
   exact .inr (e ▸ hq)
 ·rcases List.mem_append.mp h with h | h
  ·exact .inr h
  ·exact .inl (List.mem_singleton.mp h)
theorem zLv (m:List (List Int × β)) (k:List Int) (v:β):(put m k v).map (·.1)=if (look m k).isSome=true then m.map (·.1) else m.map (·.1)++[k]:=by
 unfold put
 rw [Qe]
 split
 ·rw [List.map_map]
  refine List.map_congr_left λp _=>?_
  show (if p.1=k then (p.1,v) else p).1=p.1
  split <;> rfl
 ·rw [List.map_append]
  rfl
theorem zJ4 {m:List (List Int × β)} (k:List Int) (v:β) (h:(m.map (·.1)).Nodup):((put m k v).map (·.1)).Nodup:=by
 rw [zLv]
 split
 ·exact h
 ·rename_i c
  have n:look m k=none:=by
   cases e:look m k with
   | none=>rfl
   | some u=>rw [e] at c; exact absurd rfl c
  refine List.nodup_append.mpr ⟨h,by simp,λa ha b hb e=>?_⟩
  obtain ⟨p,hp,e1⟩:=List.mem_map.mp ha
  rw [List.mem_singleton.mp hb] at e
  exact YG n p hp (e1.trans e)
end
abbrev gd:=List (List Int × (List Int × Int)) × Option (List Int)
def Qg (st:gd) (r:List Int × Int):gd:=
 if wf r.1≠0 then
  match look st.1 (gc r.1) with
  | none=>(put st.1 (gc r.1) r,st.2)
  | some o=>if r.2 * wf o.1 < o.2 * wf r.1 then (put st.1 (gc r.1) r,st.2) else st
 else if r.2 < 0 then (st.1,some r.1) else st
structure qN (st:gd):Prop where
 g0:∀ p∈st.1,0 < wf p.2.1
 way:∀ p∈st.1,p.1=gc p.2.1
 nd:(st.1.map (·.1)).Nodup
 z:∀ ws,st.2=some ws->wf ws=0
theorem WH {ws:List Int} (h:wf ws≠0):0 < wf ws:=by
 have:=zF7 ws
 omega
theorem qN.put {st:gd} (h:qN st) {r:List Int × Int} (g:wf r.1≠0):qN (Sh.put st.1 (gc r.1) r,st.2):=by
 refine ⟨λp hp=>?_,λp hp=>?_,zJ4 _ _ h.nd,h.z⟩
 ·rcases Qf hp with e | hp
  ·rw [e]; exact WH g
  ·exact h.g0 p hp
 ·rcases Qf hp with e | hp
  ·rw [e]
  ·exact h.way p hp
theorem qN.step {st:gd} (h:qN st) (r:List Int × Int):qN (Qg st r):=by
 unfold Qg
 split
 ·rename_i g
  split
  ·exact h.put g
  ·split
   ·exact h.put g
   ·exact h
 ·rename_i g
  have g0:wf r.1=0:=Decidable.of_not_not g
  split
  ·refine ⟨h.g0,h.way,h.nd,λws e=>?_⟩
   cases e
   exact g0
  ·exact h
section
variable (num:List Int->Int) (den:Int)
def hl (r:List Int × Int):Bool:=decide (num r.1<=r.2 * den)
variable (hden:0 < den) (Q5:∀ (ws:List Int) (c:Int),num (ws.map (· * c))=num ws * c)
include hden Q5
end
end Sh
namespace L2
open PySem
def vZ (env:Env) (cs:List (Str × Addr)) (p:Str × NameKind):List (Str × Addr):=if (p.2 == .free)=true then (p.1,(env.cells.lookup p.1).getD 0) :: cs else cs
def xo (scope:Scope) (env:Env):List (Str × Addr):=scope.names.foldl (vZ env) []
theorem zI4 {env:Env}:∀ (names:List (Str × NameKind)) (cs:List (Str × Addr)),(∀ p∈names,p.2=.free->(env.cells.lookup p.1).isSome=true)->
  (forIn names cs (λ(p:Str × NameKind) (r:List (Str × Addr))=>(if (p.2 == .free)=true then do let a <- cellOf env p.1; pure (ForInStep.yield ((p.1,a) :: r)) else pure (ForInStep.yield r):Sem (ForInStep (List (Str × Addr))))))=pure (names.foldl (vZ env) cs):=by
 intro names
 induction names with
 | nil=>intro cs _; rfl
 | cons p r ih=>
  intro cs h
  obtain ⟨n,k⟩:=p
  rw [List.forIn_cons]
  by_cases hk:k=.free
  ·subst hk
   obtain ⟨c,hc⟩:=Option.isSome_iff_exists.mp (h (n,.free) List.mem_cons_self rfl)
   have e:cellOf env n=pure c:=by unfold cellOf; dsimp only at hc; rw [hc]
   have z:vZ env cs (n,.free)=(n,c) :: cs:=by unfold vZ; dsimp only at hc |-; rw [hc]; rfl
   simp only [e,beq_self_eq_true,if_true,pure_bind,List.foldl_cons,z]
   exact ih _ λq hq=>h q (List.mem_cons_of_mem _ hq)
  ·have b:(k == NameKind.free)=false:=by simpa using hk
   have z:vZ env cs (n,k)=cs:=by unfold vZ; dsimp only; rw [b]; rfl
   simp only [b,Bool.false_eq_true,if_false,pure_bind,List.foldl_cons,z]
   exact ih _ λq hq=>h q (List.mem_cons_of_mem _ hq)
theorem WI {scope:Scope} {env:Env} (h:∀ p∈scope.names,p.2=.free->(env.cells.lookup p.1).isSome=true):closureFor scope env=pure (xo scope env):=by
 unfold closureFor xo
 have:=zI4 scope.names [] h
 exact (congrArg (λm=>m >>= λr=>pure r) this).trans rfl
theorem zKb {env:Env}:∀ (names:List (Str × NameKind)) (cs:List (Str × Addr)) (x:Str) (c:Addr),(x,c)∈names.foldl (vZ env) cs->(x,c)∈cs\/((x,NameKind.free)∈names/\c=(env.cells.lookup x).getD 0):=by
 intro names
 induction names with
 | nil=>intro cs x c h; exact .inl h
 | cons p r ih=>
  intro cs x c h
  obtain ⟨n,k⟩:=p
  rw [List.foldl_cons] at h
  rcases ih _ x c h with h1 | ⟨h1,h2⟩
  ·unfold vZ at h1
   dsimp only at h1
   by_cases hk:k=.free
   ·subst hk
    simp only [beq_self_eq_true,if_true] at h1
    rcases List.mem_cons.mp h1 with e | h1
    ·injection e with e1 e2
     subst e1; subst e2
     exact .inr ⟨List.mem_cons_self,rfl⟩
    ·exact .inl h1
   ·have b:(k == NameKind.free)=false:=by simpa using hk
    simp only [b,Bool.false_eq_true,if_false] at h1
    exact .inl h1
  ·exact .inr ⟨List.mem_cons_of_mem _ h1,h2⟩
theorem qO {α β:Type} [BEq α] [LawfulBEq α]:∀ {l:List (α × β)} {a:α} {b:β},l.lookup a=some b->(a,b)∈l
 | [],_,_,h=>by simp at h
 | (x,y) :: r,a,b,h=>by
  rw [List.lookup_cons] at h
  by_cases e:a=x
  ·subst e
   simp only [beq_self_eq_true,if_true] at h
   cases h
   exact List.mem_cons_self
  ·have:(a == x)=false:=by simpa using e
   simp only [this] at h
   exact List.mem_cons_of_mem _ (qO h)
theorem Qh {α β:Type} [BEq α] [LawfulBEq α]:∀ {l:List (α × β)} {a:α} {b:β},(a,b)∈l->∃ c,l.lookup a=some c
 | [],_,_,h=>by cases h
 | (x,y) :: r,a,b,h=>by
  rw [List.lookup_cons]
  by_cases e:a=x
  ·subst e
   exact ⟨y,by simp⟩
  ·have z:(a == x)=false:=by simpa using e
   rcases List.mem_cons.mp h with q | q
   ·injection q with q1 _; exact absurd q1 e
   ·obtain ⟨c,hc⟩:=Qh q
    exact ⟨c,by simp only [z]; exact hc⟩
theorem zKc {env:Env}:∀ (names:List (Str × NameKind)) (cs:List (Str × Addr)) (x:Str),((x,NameKind.free)∈names\/∃ c,(x,c)∈cs)->∃ c,(x,c)∈names.foldl (vZ env) cs:=by
 intro names
 induction names with
 | nil=>
  intro cs x h
  rcases h with h | h
  ·cases h
  ·exact h
 | cons p r ih=>
  intro cs x h
  rw [List.foldl_cons]
  refine ih _ x ?_
  rcases h with h | ⟨c,h⟩
  ·rcases List.mem_cons.mp h with e | h
   ·subst e
    exact .inr ⟨_,by unfold vZ; simp only [beq_self_eq_true,if_true]; exact List.mem_cons_self⟩
   ·exact .inl h
  ·refine .inr ⟨c,?_⟩
   unfold vZ
   split
   ·exact List.mem_cons_of_mem _ h
   ·exact h
theorem jV {scope:Scope} {env:Env} (h:∀ p∈scope.names,p.2=.free->(env.cells.lookup p.1).isSome=true) {x:Str} {c:Addr} (e:(xo scope env).lookup x=some c) :
  env.cells.lookup x=some c/\(x,NameKind.free)∈scope.names:=by
 rcases zKb scope.names [] x c (qO e) with z | ⟨z,q⟩
 ·cases z
 ·obtain ⟨d,hd⟩:=Option.isSome_iff_exists.mp (h _ z rfl)
  dsimp only at hd
  rw [hd] at q
  exact ⟨by rw [hd,q]; rfl,z⟩
theorem WJ {scope:Scope} {env:Env} {x:Str} (h:(x,NameKind.free)∈scope.names):∃ c,(xo scope env).lookup x=some c:=by
 obtain ⟨c,hc⟩:=zKc (env:=env) scope.names [] x (.inl h)
 exact Qh hc
theorem Qi {scope:Scope} {env:Env} {x:Str} {k:NameKind} (h:(relabel scope env).names.lookup x=some k):(k=.cell/\((x,NameKind.free)∈scope.names\/(x,NameKind.cell)∈scope.names))\/(x,k)∈scope.names:=by
 have m:=qO h
 unfold relabel at m
 obtain ⟨⟨n,j⟩,hm,e⟩:=List.mem_map.mp m
 dsimp only at e
 split at e
 ·rename_i q
  injection e with e1 e2
  subst e1; subst e2
  have q1:j=NameKind.free:=by
   have:=(Bool.and_eq_true_iff.mp (Bool.and_eq_true_iff.mp q).1).1
   exact eq_of_beq this
  subst q1
  exact .inl ⟨rfl,.inl hm⟩
 ·injection e with e1 e2
  subst e1; subst e2
  exact .inr hm
end L2
namespace L2
open PySem
section
variable {prog:Program} {w:World} {A:Around} {R:Result->Shared->Prop} {s:Shared}
theorem zI2 {elt target iter:Expr} {scope:Scope} {pos:Pos} {it acc:Value} {env:Env} (Wd:Nat->Shared->Prop)
  (turn:∀ n s,Wd n s->wpAny (model prog w) A (pyNext it) (λr s1=>match r with
   | none=>R (.ok .next) s1
   | some v=>wpAny (model prog w) A (letOwnedTupleGo target it v) (λ_ s2=>wpAny (model prog w) A (assign target env v) (λ_ s3=>wpAny (model prog w) A (eval elt env) (λx s4=>
     wpAny (model prog w) A (call (.builtin "list.append") [acc,x]) (λ_ s5=>∃ m,m < n/\Wd m s5) (λ_ _=>False) s4) (λ_ _=>False) s3) (λ_ _=>False) s2) (λ_ _=>False) s1) (λ_ _=>False) s)
  (n:Nat) (h:Wd n s):codeAny (model prog w) A (.compLoop (.ListComp elt [⟨target,iter,[],0⟩] scope pos) 0 it acc env) R s:=by
 refine codeAny_loop rfl Wd (λn s hI=>?_) n h
 show wpAny _ _ (Sem.onRaise (compTurn (.ListComp elt [⟨target,iter,[],0⟩] scope pos) 0 it acc env) _) _ _ s
 refine wpAny_noted ?_
 rw [compTurn_list1]
 refine wpAny_bind (wpAny_standAt (wpAny_bind (wpAny_mono (turn n s hI) (λr s1 h1=>?_) λ_ _ z=>False.elim z)))
 cases r with
 | none=>exact wpAny_pure h1
 | some v=>
  refine wpAny_bind (wpAny_mono h1 (λ_ s2 h2=>?_) λ_ _ z=>False.elim z)
  refine wpAny_bind (wpAny_mono h2 (λ_ s3 h3=>?_) λ_ _ z=>False.elim z)
  refine wpAny_bind (wpAny_bind (wpAny_mono h3 (λx s4 h4=>?_) λ_ _ z=>False.elim z))
  exact wpAny_bind (wpAny_mono h4 (λ_ s5 h5=>wpAny_pure (wpAny_pure ⟨rfl,h5⟩)) λ_ _ z=>False.elim z)
end
end L2
namespace L2
open PySem PySem.Spec PyProof.Rows
def Bd (n:Nat) (i:Int):Prop:=i.natAbs < 2 ^ n
theorem Bd.mono {n m:Nat} {i:Int} (h:Bd n i) (k:n<=m:=by decide):Bd m i:=Nat.lt_of_lt_of_le h (Nat.pow_le_pow_right (by decide) k)
theorem Bd.of_le {n:Nat} {i j:Int} (h:Bd n j) (k:i.natAbs<=j.natAbs):Bd n i:=Nat.lt_of_le_of_lt k h
theorem Bd.mul {n m:Nat} {i j:Int} (h:Bd n i) (k:Bd m j):Bd (n + m) (i * j):=by
 unfold Bd
 rw [Int.natAbs_mul,Nat.pow_add]
 rcases Nat.eq_zero_or_pos j.natAbs with z | z
 ·rw [z,Nat.mul_zero]
  exact Nat.mul_pos (Nat.two_pow_pos _) (Nat.two_pow_pos _)
 ·exact Nat.lt_of_lt_of_le (Nat.mul_lt_mul_of_pos_right h z) (Nat.mul_le_mul_left _ (Nat.le_of_lt k))
theorem Bd.add {n:Nat} {i j:Int} (h:Bd n i) (k:Bd n j):Bd (n + 1) (i + j):=by
 have h':i.natAbs < 2 ^ n:=h
 have k':j.natAbs < 2 ^ n:=k
 unfold Bd
 rw [Nat.pow_succ]
 have:=Int.natAbs_add_le i j
 omega
theorem Bd.neg {n:Nat} {i:Int} (h:Bd n i):Bd n (-i):=by
 unfold Bd
 rw [Int.natAbs_neg]
 exact h
theorem Bd.sub {n:Nat} {i j:Int} (h:Bd n i) (k:Bd n j):Bd (n + 1) (i - j):=by
 rw [Int.sub_eq_add_neg]
 exact h.add k.neg
theorem Bd.lit {n:Nat} {i:Int} (h:i.natAbs < 2 ^ n:=by decide):Bd n i:=h
theorem Bd.bits {n:Nat} {i:Int} (h:Bd n i):Builtin.Int.intBits i<=n:=by
 have h':i.natAbs < 2 ^ n:=h
 unfold Builtin.Int.intBits
 split
 ·exact Nat.zero_le _
 ·rename_i z
  have nz:i.natAbs≠0:=by
   intro q
   apply z
   rw [Int.natAbs_eq_zero.mp q]
   rfl
  exact (Nat.log2_lt nz).mpr h'
theorem Bd.fdiv {n:Nat} {i:Int} (h:Bd n i) (j:Int):Bd n (i.fdiv j):=
 h.of_le (Int.natAbs_fdiv_le_natAbs i j)
def YH (i j:Int):Prop:=Bd 60000 i/\Bd 60000 j
def Qj (_ j:Int):Prop:=j≠0/\Bd 8000 j
section
variable {X:Cx}
theorem YH.ok {i j:Int} (h:YH i j):IntMulOk i j:=by
 have h1:=h.1.bits
 have h2:=h.2.bits
 have hc:Builtin.Int.intTooBig (Builtin.Int.intBits i + Builtin.Int.intBits j)=false:=by
  unfold Builtin.Int.intTooBig
  rw [bitsLine_eq]
  exact decide_eq_false (by omega)
 unfold IntMulOk
 rw [hc]
 simp
theorem zNI:yW X (binaryOp .Mult) (rI YH λi j=>.int (i * j)):=Z6 λ_ _ _ _ _ _ _ hc q=>mul_int q hc.ok
theorem zLa:yW X (binaryOp .FloorDiv) (rI Qj λi j=>.int (i.fdiv j)):=Z6 λ_ _ _ _ _ _ _ hc q=>by
 refine floordiv_int hc.1 q (.inl (PyProof.noPylong_of_log2 ?_))
 have h':_ < 2 ^ 8000:=hc.2
 have nz:_≠0:=λz=>hc.1 (Int.natAbs_eq_zero.mp z)
 exact Nat.lt_trans ((Nat.log2_lt nz).mpr h') (by decide)
end
section
variable {X:Cx}
def Qk (K:PySem.W.Frag):List V->Hp->VK->Prop:=λxs H Q=>∃ x c t b,xs=[x,.ty c]/\yD K H x t/\PySem.W.kitOne K t (.type c)=some b/\Q (.bl b) H
theorem va:xN X (.builtin "isinstance") (Qk X.K):=by
 intro pins s σ H xs us Q I r h
 obtain ⟨x,c,t,b,rfl,ty,e,q⟩:=h
 obtain ⟨u,v,rfl,ru,rv⟩:=qJ r
 cases (show v=Value.type c from rv)
 exact QG I ru ty e λtk=>⟨.bl b,H,I.tok tk,rfl,q⟩
end
mutual
inductive Dp (K:PySem.W.Frag) (H:Hp):V->PyData->Prop where
 | non:Dp K H .non .none
 | bl (b:Bool):Dp K H (.bl b) (.bool b)
 | int (i:Int):Dp K H (.int i) (.int i)
 | str (x:Str):Dp K H (.str x) (.str x)
 | lst {a:Addr} {xs:List V} {ds:List PyData} (e:zV K H a xs) (h:vb K H xs ds):Dp K H (.ref a) (.list ds)
 | tup {a:Addr} {xs:List V} {ds:List PyData} (e:zl K H a xs) (h:vb K H xs ds):Dp K H (.ref a) (.tuple ds)
inductive vb (K:PySem.W.Frag) (H:Hp):List V->List PyData->Prop where
 | nil:vb K H [] []
 | cons {x:V} {xs:List V} {d:PyData} {ds:List PyData} (h:Dp K H x d) (t:vb K H xs ds):vb K H (x :: xs) (d :: ds)
end
section
variable {X:Cx} {pins:List (Addr × Obj)} {σ:St} {H:Hp} {s:Shared}
mutual
theorem Dp.reads (I:zD X pins σ H s):∀ {x:V} {d:PyData} {u:Value},Dp X.K H x d->zN x u->∃ as,Reads s.heap u d as
 | _,_,_,.non,r=>by cases r; exact ⟨_,.none⟩
 | _,_,_,.bl b,r=>by cases r; exact ⟨_,.bool b⟩
 | _,_,_,.int i,r=>by obtain ⟨t,rfl⟩:=r; exact ⟨_,.int i t⟩
 | _,_,_,.str x,r=>by obtain ⟨t,rfl⟩:=r; exact ⟨_,.str x t⟩
 | _,_,_,.lst e h,r=>by
  cases r
  obtain ⟨its,rv,⟨o,n,e1,e2,_,e3⟩,_⟩:=I.list e
  obtain ⟨as,q⟩:=vb.reads I h rv
  exact ⟨_,.list e1 e2 e3 (by simpa using q)⟩
 | _,_,_,.tup e h,r=>by
  cases r
  obtain ⟨its,rv,⟨o,e1,e2,n,e3⟩,_⟩:=I.tuple e
  obtain ⟨as,q⟩:=vb.reads I h rv
  exact ⟨_,.tuple e1 e2 e3 (by simpa using q)⟩
theorem vb.reads (I:zD X pins σ H s):∀ {xs:List V} {ds:List PyData} {us:List Value},vb X.K H xs ds->zK xs us->∃ as,ReadsAll s.heap us ds as
 | _,_,_,.nil,r=>by cases r; exact ⟨_,.nil⟩
 | _,_,_,.cons h t,r=>by
  cases r with
  | cons r1 r2=>
   obtain ⟨_,q1⟩:=Dp.reads I h r1
   obtain ⟨_,q2⟩:=vb.reads I t r2
   exact ⟨_,.cons q1 q2⟩
end
end
section
variable {X:Cx}
end
section
variable {X:Cx}
theorem u6 (hc:X.calm=true):xN X (.builtin "all") (λxs H Q=>∃ (p:Addr) (bs:List Bool),xs=[.ref p]/\zV X.K H p (bs.map V.bl)/\Q (.bl (bs.all id)) H):=by
 intro pins s σ H xs us Q I r h
 obtain ⟨p,bs,rfl,hq,q⟩:=h
 obtain ⟨u,rfl,ru⟩:=vG r
 cases ru
 obtain ⟨its,rv,pl,hz⟩:=I.list hq
 have hh:X.A.in1.handled=none:=I.ok.hd hc
 have hlt:p < s.heap.objs.size:=by obtain ⟨o,n,e,_⟩:=pl; exact Heap.lt_size e
 refine call_all_walk (wpAny_pyIter_list pl.isList ?_)
 have hlen:its.length=bs.length:=by rw [<- rv.length,List.length_map]
 refine ⟨s.heap.objs.size,_,_,_,_,_,λi=>bs.getD i true,rfl,Walks.list hh s.heap.objs.size p (Nat.ne_of_lt hlt) its.toArray,⟨⟨_,Heap.get?_push_size _ rfl,rfl,rfl⟩,pl.isList.push _⟩,?_,λh' tk kk=>?_⟩
 ·intro i v s' Q' E' hP hQ'
  have e1:its[i]? = some v:=by simpa using hP
  have hi:i < its.length:=(List.getElem?_eq_some_iff.mp e1).1
  have hb:(bs.map V.bl)[i]? = some (.bl (bs.getD i true)):=by
   rw [List.getElem?_map,List.getElem?_eq_getElem (by omega),List.getD_eq_getElem?_getD,List.getElem?_eq_getElem (by omega)]
   rfl
  obtain ⟨u',e2,r2⟩:=rv.get hb
  rw [e1] at e2
  cases e2
  cases r2
  exact wpAny_truthy_bool hQ'
 ·have e:(List.range its.toArray.size).all (λi=>bs.getD i true)=bs.all id:=by
   rw [List.size_toArray,hlen]
   rw [Bool.eq_iff_iff,List.all_eq_true,List.all_eq_true]
   constructor
   ·intro z b hb
    obtain ⟨i,hi,rfl⟩:=List.mem_iff_getElem.mp hb
    have:=z i (List.mem_range.mpr hi)
    rw [List.getD_eq_getElem?_getD,List.getElem?_eq_getElem hi] at this
    exact this
   ·intro z i hi
    have hi':=List.mem_range.mp hi
    rw [List.getD_eq_getElem?_getD,List.getElem?_eq_getElem hi']
    exact z _ (List.getElem_mem hi')
  refine ⟨.bl (bs.all id),H,I.kept (h':=h') (t':=tk) λb o eb=>kk b o ?_ (Heap.get?_push_of_some _ eb),?_,q⟩
  ·intro hb
   have:b=s.heap.objs.size:=by simpa using hb
   rw [this] at eb
   exact absurd (Heap.lt_size eb) (Nat.lt_irrefl _)
  ·rw [e]
   rfl
end
end L2
namespace L2
open PySem PySem.Spec PyProof.Rows
def xq (own:List Str) (caps:List (Nat × Str)) (σ:St):St:=own.map (λ_=>none)++caps.map λp=>(σ[p.1]?).getD none
abbrev zW (own:List Str) (caps:List (Nat × Str)):List Str:=own++caps.map (·.2)
theorem Ql {scope:Scope} {env:Env} {x:Str}:(relabel scope env).names.lookup x=(scope.names.lookup x).map λk=>if (k == .free && env.scope.kind == .function && env.kindOf x == some .cell)=true then .cell else k:=by
 unfold relabel
 generalize scope.names=l
 induction l with
 | nil=>rfl
 | cons p r ih=>
  obtain ⟨n,k⟩:=p
  rw [List.map_cons]
  by_cases e:x=n
  ·subst e
   by_cases c:(k == NameKind.free && env.scope.kind == .function && env.kindOf x == some .cell)=true
   ·simp only [c,if_true,List.lookup_cons,beq_self_eq_true,Option.map_some]
   ·simp only [c,if_false,List.lookup_cons,beq_self_eq_true,Option.map_some,Bool.false_eq_true]
  ·have z:(x == n)=false:=by simpa using e
   dsimp only
   split <;> simp only [List.lookup_cons,z] <;> exact ih
def Qm (J:It) (g:TG) (te:TE) (Q:VK) (σ0:St) (H1:Hp):Prop:=∃ W:Nat->Nat->List V->St->Hp->Prop,(∃ m,W 0 m [] σ0 H1)∧
 ∀ i m ys σ1 H,W i m ys σ1 H->(J.stop i H/\∀ p,H p=none->Q (.ref p) (upd H p (.lst ys)))∨
  (J.go i H/\ys.length < sizeLine/\∃ N:V->St->Hp->Prop,(∀ y σ' H',N y σ' H'->∃ m',m' < m/\W (i + 1) m' (ys++[y]) σ' H')/\∀ x H',J.yld i H x H'->g x σ1 H' λσ2 H2=>te σ2 H2 λy H3=>N y σ2 H3)
def Qn (own:List Str) (caps:List (Nat × Str)) (wi:TI) (g:TG) (te:TE):TE:=λσ H Q=>wi σ H λJ H1=>Qm J g te Q (xq own caps σ) H1
section
variable {X:Cx} {scope:Scope} {own:List Str} {caps:List (Nat × Str)} {pins:List (Addr × Obj)} {σ:St} {H:Hp} {s s4:Shared} {C D:Addr} {fp:List Addr}
theorem zL6 {i:Nat} {x:Str} {v:V} (h1:(zW own caps)[i]? = some x) (h2:(xq own caps σ)[i]? = some (some v)):∃ j,(j,x)∈caps/\σ[j]? = some (some v):=by
 unfold xq at h2
 by_cases hi:i < own.length
 ·rw [List.getElem?_append_left (by simpa using hi),List.getElem?_map] at h2
  cases e:own[i]? with
  | none=>rw [e] at h2; cases h2
  | some a=>rw [e] at h2; cases h2
 ·rw [List.getElem?_append_right (by simpa using hi),List.length_map,List.getElem?_map] at h2
  unfold zW at h1
  rw [List.getElem?_append_right (by omega),List.getElem?_map] at h1
  cases e:caps[i - own.length]? with
  | none=>rw [e] at h1; cases h1
  | some p=>
   obtain ⟨j,n⟩:=p
   rw [e] at h1 h2
   cases h1
   refine ⟨j,List.mem_of_getElem? e,?_⟩
   simp only [Option.map_some,Option.some.injEq] at h2
   cases q:σ[j]? with
   | none=>rw [q] at h2; cases h2
   | some o=>rw [q] at h2; exact congrArg some h2
abbrev yS (its:List Value) (k:Nat):Obj:={ cls:=.type "list",data:=.seq its.toArray k }
theorem Qo {Y:Cx} {its:List Value} {k:Nat} {y:Value} {pl:List (Addr × Obj)} {Q:Value->Shared->Prop} {E:Value->Shared->Prop} (I:zD Y ((D,yS its k) :: pl) σ H s) (hn:zv Y [] H D) (hp:Y.pn=[]) (hz:its.length<=sizeLine)
  (q:∀ h' k' tk,(∀ b o,b≠D->s.heap.get? b=some o->h'.get? b=some o)->zD Y [(D,yS (its++[y]) k')] σ H { s with heap:=h',toks:=tk }->Q .none { s with heap:=h',toks:=tk }) :
  wpAny (model Y.prog Y.w) Y.A (call (.builtin "list.append") [.ref D,y]) Q E s:=by
 have pD:=I.pin (D,yS its k) (List.mem_append_right _ List.mem_cons_self)
 have e:s.heap.get? D=some (yS its k):=pD.1
 refine call_meets F.slot_list_append ⟨_,e,rfl⟩ F.entry_list_append (F.args_list_append_2 _ _) (PySem.list_append D its.toArray k y (by rw [List.size_toArray]; exact hz)) ⟨e,?_⟩
 have e2:=PySem.IsL.update e (·.push y)
 have ea:its.toArray.push y=(its++[y]).toArray:=by simp
 have keep:∀ b o,b≠D->s.heap.get? b=some o->(s.heap.update D (Obj.mapSeq (·.push y))).get? b=some o:=λb o hb eb=>(Heap.get?_update_other s.heap _ (Ne.symm hb)).trans eb
 have I0:zD Y [] σ H s:=I.pins_of λp hp'=>by cases hp'
 have I1:zD Y [] σ H { s with heap:=s.heap.update D (Obj.mapSeq (·.push y)),toks:=s.toks }:=I0.turned keep hn.1 hn.2.1 hn.2.2.2.1 hn.2.2.2.2.1 hn.2.2.2.2.2
 have e3:(s.heap.update D (Obj.mapSeq (·.push y))).get? D=some (yS (its++[y]) _):=e2.trans (by rw [ea])
 have I2:zD Y [(D,yS (its++[y]) (if ((its++[y]).toArray.size == its.toArray.size)=true then k else k + 1))] σ H { s with heap:=s.heap.update D (Obj.mapSeq (·.push y)),toks:=s.toks }:=I1.pins_of λp hp'=>by
  rw [List.mem_singleton.mp hp']
  exact ⟨e3,hn.1,hn.2.1,hn.2.2.1,λv z=>by cases z⟩
 exact q _ _ s.toks keep I2
end
section
variable {X:Cx} {scope:Scope} {own:List Str} {caps:List (Nat × Str)} {elt tg iter:Expr} {wi:TI} {g:TG} {te:TE} {pos:Pos}
end
end L2
namespace L2
open PySem PySem.Spec PyProof.Rows
structure Fn (P:Program) (w:World) (K:PySem.W.Frag) (mg:Str->Option Value) (base:Heap) (x:Str) (ps:List Str) (k:Nat) (sp:Sp):Prop where
 ex:∃ f fd,zF P w K mg base zU k f fd ps sp/\mg x=some (.ref f)/\PySem.W.keepIn K (.ref f)=true/\xh K fd ps []
theorem Fn.mono {P:Program} {w:World} {K:PySem.W.Frag} {mg:Str->Option Value} {base:Heap} {x:Str} {ps:List Str} {j k:Nat} {sp:Sp} (F:Fn P w K mg base x ps j sp) (h:j<=k:=by decide):Fn P w K mg base x ps k sp:=by
 obtain ⟨f,fd,a,b,c,d⟩:=F.ex
 exact ⟨f,fd,a.mono h,b,c,d⟩
theorem zLY {X:Cx} {x:Str} {ps:List Str} {k:Nat} {sp:Sp} {e:Expr} {es:List Expr} {t:TA} {p pos:Pos} (F:Fn X.prog X.w X.K X.mg X.base x ps k sp) (hr:zZ k X.A) (hg:Gl X x) (ha:PA X (e :: es) t)
  (hdb:(x == ("__debug__" : Str))=false:=by decide) (he:starEach (e :: es) X.env=(false,eval e X.env) :: starEach es X.env:=by rfl) (hpl:(backTo pos (starEach es X.env)).any (·.1)=false:=by rfl) :
  PE X (.Call (.Name x p) (e :: es) [] pos) (X9 sp [] E0 t):=by
 obtain ⟨f,fd,a,b,c,d⟩:=F.ex
 exact QK a hr hg b c d .nil YE ha hdb he hpl
end L2
namespace L2
open PySem PySem.Spec PyProof.Rows
theorem vH:bootBuiltins "isinstance" = some (.builtin "isinstance"):=by decide +kernel
theorem xU:bootBuiltins "len" = some (.builtin "len"):=by decide +kernel
theorem zKj:bootBuiltins "abs" = some (.builtin "abs"):=by decide +kernel
theorem u7:bootBuiltins "all" = some (.builtin "all"):=by decide +kernel
theorem YI:bootBuiltins "int" = some (.type "int"):=by decide +kernel
theorem zI5:bootBuiltins "bool" = some (.type "bool"):=by decide +kernel
theorem vI:bootBuiltins "tuple" = some (.type "tuple"):=by decide +kernel
theorem xi:bootBuiltins "list" = some (.type "list"):=by decide +kernel
section
variable (K:PySem.W.Frag)
end
structure yw (K:PySem.W.Frag) (x qual:Str) (st:Stmt) (f:Addr) (fd:FuncData) (d:Value):Prop where
 ex:∃ (oc:Value) (od:Option Addr) (kV doc pm:Value) (an:Option Addr) (cdv ct:Value) (osl:Array (Option Value)) (T:Addr) (oT:Obj) (n:Nat),
  fd=PySem.W.fnOf x qual (wA st) (y8 st) (zL st) (.ref T) kV doc pm an cdv ct/\K.lookup f=some ⟨oc,od,.func fd,osl⟩/\PySem.W.codeIn K cdv qual=true/\K.lookup T=some oT/\oT.data=.seq #[d] n
 kp:PySem.W.keepIn K (.ref f)=true
theorem yw.ok {P:Program} {w:World} {K:PySem.W.Frag} {mg:Str->Option Value} {base:Heap} {x qual:Str} {st:Stmt} {f:Addr} {fd:FuncData} {d:Value} {N ps:List Str} {k:Nat} {sp:Sp} (F:yw K x qual st f fd d) (S:zc N ps (zL st))
  (len:∀ vs H Q E,sp vs H Q E->vs.length=ps.length)
  (hbody:∀ (cdv:Value) (A:Around) (outer:List Env) (s:Shared) (H:Hp) (vs:List V) (Q:VK) (E:XK),zZ k (A.deeper (envOfC qual (zL st) s.heap.objs.size f cdv))->sp vs H Q E->
   ∃ t,yj (y6 zU P w K mg base N qual (zL st) f cdv A outer s H E).nox (y8 st) t/\t { nx:=λ_ H'=>Q .non H',rt:=Q } (wQ N vs) H):zF P w K mg base zU (k + 1) f fd ps sp:=by
 obtain ⟨oc,od,kV,doc,pm,an,cdv,ct,osl,T,oT,n,rfl,lk,hcd,_⟩:=F.ex
 refine WA lk hcd S len λA outer s H vs Q E hr hsp=>?_
 obtain ⟨t,h,q⟩:=hbody cdv A outer s H vs Q E hr hsp
 exact ⟨t,h.nox,q⟩
end L2
namespace L2
open PySem PySem.Spec PyProof.Rows
theorem Qp {K:PySem.W.Frag} {x qual:Str} {st:Stmt} {f T:Addr} {oc kV doc pm cdv ct d:Value} {od an:Option Addr} {osl:Array (Option Value)} {oT:Obj} {n:Nat} (l:K.lookup f=some ⟨oc,od,.func (PySem.W.fnOf x qual (wA st) (y8 st) (zL st) (.ref T) kV doc pm an cdv ct),osl⟩)
  (c:PySem.W.codeIn K cdv qual=true) (k:PySem.W.keepIn K (.ref f)=true) (t:K.lookup T=some oT) (e:oT.data=.seq #[d] n):yw K x qual st f (PySem.W.fnOf x qual (wA st) (y8 st) (zL st) (.ref T) kV doc pm an cdv ct) d:=
 ⟨⟨oc,od,kV,doc,pm,an,cdv,ct,osl,T,oT,n,rfl,l,c,t,e⟩,k⟩
theorem yw.binds {K:PySem.W.Frag} {x qual:Str} {st:Stmt} {f:Addr} {fd:FuncData} {d:Value} {ps:List Str} (F:yw K x qual st f fd d)
  (h:∀ (T:Addr) (kV doc pm:Value) (an:Option Addr) (cdv ct:Value) (us:List Value),us.length=ps.length->∃ k:Option (Array Value)->Sem (List (Str × Value)),
   bindArgs (PySem.W.fnOf x qual (wA st) (y8 st) (zL st) (.ref T) kV doc pm an cdv ct) ⟨us,[]⟩=seqItems? (.ref T) >>= k/\k (some #[d])=pure (ps.zip us)):xh K fd ps []:=by
 obtain ⟨oc,od,kV,doc,pm,an,cdv,ct,osl,T,oT,n,rfl,lk,hcd,t,e⟩:=F.ex
 intro s us X hl
 rw [List.append_nil] at hl |-
 obtain ⟨k,h1,h2⟩:=h T kV doc pm an cdv ct us hl
 exact .of_defaults (T:=T) rfl (X T oT t) e h1 h2
end L2
namespace L2
open PySem PySem.Spec PyProof.Rows
structure wB (P:Program) (w:World) (K:PySem.W.Frag) (mg:Str->Option Value) (base:Heap) (x:Str) (ps:List Str) (k:Nat) (sp:Sp) (dv:V):Prop where
 ex:∃ f fd d,zF P w K mg base zU k f fd ps sp/\mg x=some (.ref f)/\PySem.W.keepIn K (.ref f)=true/\xh K fd ps []/\xh K fd ps [d]/\zN dv d
theorem wB.mono {P:Program} {w:World} {K:PySem.W.Frag} {mg:Str->Option Value} {base:Heap} {x:Str} {ps:List Str} {j k:Nat} {sp:Sp} {dv:V} (F:wB P w K mg base x ps j sp dv) (h:j<=k:=by decide):wB P w K mg base x ps k sp dv:=by
 obtain ⟨f,fd,d,a,b,c,e⟩:=F.ex
 exact ⟨f,fd,d,a.mono h,b,c,e⟩
theorem wB.fn {P:Program} {w:World} {K:PySem.W.Frag} {mg:Str->Option Value} {base:Heap} {x:Str} {ps:List Str} {k:Nat} {sp:Sp} {dv:V} (F:wB P w K mg base x ps k sp dv):Fn P w K mg base x ps k sp:=by
 obtain ⟨f,fd,d,a,b,c,e,_⟩:=F.ex
 exact ⟨f,fd,a,b,c,e⟩
theorem zJj {X:Cx} {x:Str} {ps:List Str} {k:Nat} {sp:Sp} {e:Expr} {es:List Expr} {t:TA} {p pos:Pos} {dv:V} (F:wB X.prog X.w X.K X.mg X.base x ps k sp dv) (hr:zZ k X.A) (hg:Gl X x) (ha:PA X (e :: es) t)
  (hdb:(x == ("__debug__" : Str))=false:=by decide) (he:starEach (e :: es) X.env=(false,eval e X.env) :: starEach es X.env:=by rfl) (hpl:(backTo pos (starEach es X.env)).any (·.1)=false:=by rfl) :
  PE X (.Call (.Name x p) (e :: es) [] pos) (X9 sp [dv] E0 t):=by
 obtain ⟨f,fd,d,a,b,c,_,h2,r⟩:=F.ex
 exact QK a hr hg b c h2 (.cons r .nil) YE ha hdb he hpl
theorem yw.binds1 {K:PySem.W.Frag} {x qual:Str} {st:Stmt} {f:Addr} {fd:FuncData} {d:Value} {ps:List Str} (F:yw K x qual st f fd d)
  (h:∀ (T:Addr) (kV doc pm:Value) (an:Option Addr) (cdv ct:Value) (us:List Value),us.length + 1=ps.length->∃ k:Option (Array Value)->Sem (List (Str × Value)),
   bindArgs (PySem.W.fnOf x qual (wA st) (y8 st) (zL st) (.ref T) kV doc pm an cdv ct) ⟨us,[]⟩=seqItems? (.ref T) >>= k/\k (some #[d])=pure (ps.zip (us++[d]))):xh K fd ps [d]:=by
 obtain ⟨oc,od,kV,doc,pm,an,cdv,ct,osl,T,oT,n,rfl,lk,hcd,t,e⟩:=F.ex
 intro s us X hl
 rw [List.length_append,List.length_singleton] at hl
 obtain ⟨k,h1,h2⟩:=h T kV doc pm an cdv ct us hl
 exact .of_defaults (T:=T) rfl (X T oT t) e h1 h2
theorem zHj:bootBuiltins "range" = some (.type "range"):=by decide +kernel
end L2
namespace L2
end L2
set_option maxRecDepth 100000
namespace L2
open PySem
section
variable {prog:Program} {w:World} {A:Around} {E:Value->Shared->Prop} {s:Shared}
theorem u8 (hh:A.handled=none) (it t:Addr) (hne:t≠it) (items:Array Value) :
  Draws prog w A it [it,t] items.size (λi v=>items[i]? = some v) (λi h=>h.IsTupleIter it t i/\h.IsTuple t items) where
 live:=λ_ _ st=>let ⟨o,ho,_⟩:=st.1; ⟨o,ho⟩
 frame:=λ_ _ _ st hk=>⟨let ⟨o,e,r⟩:=st.1; ⟨o,hk it (by simp) o e,r⟩,let ⟨o,e,r⟩:=st.2; ⟨o,hk t (by simp) o e,r⟩⟩
 item:=λi s Q E hi st hQ=>by
  obtain ⟨hit,ht⟩:=st
  obtain ⟨o,ho,hc,hd⟩:=id hit
  obtain ⟨ol,hol,_,nl,hdl⟩:=id ht
  have hx:items[i]? = some items[i]:=by simp [hi]
  unfold Builtin.SmallTypes.nextOf
  refine wpAny_bind (wpAny_callSpecial?_slot (name:=Str.ofString "__next__") hit.typeIs F.slot_tuple_iterator_next (wpAny_call_entry F.slot_tuple_iterator_next hit.typeIs F.entry_tuple_iterator_next ?_ (F.args_tuple_iterator_next_1 _)))
  change wpAny _ _ (field (.ref it) 0 >>= _) _ _ s
  refine wpAny_bind (wpAny_field ho hd (x:=.ref t) rfl ?_)
  change wpAny _ _ (if (Value.ref t == Value.none)=true then _ else _) _ _ s
  rw [if_neg (show (Value.ref t == Value.none)≠true from Bool.false_ne_true)]
  change wpAny _ _ (field (.ref it) 1 >>= _) _ _ s
  refine wpAny_bind (wpAny_field ho hd (x:=.int i 0) rfl ?_)
  change wpAny _ _ (seqItems? (.ref t) >>= _) _ _ s
  refine wpAny_bind (wpAny_seqItems hol hdl ?_)
  simp only [Int.toNat_natCast,hx]
  refine wpAny_bind (wpAny_setField ho hd (by simp) (wpAny_pure ⟨items[i],rfl,wpAny_pure (hQ _ _ s.toks hx ⟨?_,?_⟩ (Heap.SameBut.update ..))⟩))
  ·exact ⟨_,Heap.get?_update_self _ ho (Obj.isFreed_of_fields (Obj.data_mapFields hd _)),(Obj.cls_mapFields ..).trans hc,by rw [Obj.data_mapFields hd]; simp [rawInt]⟩
  ·exact ht.extBut (Heap.SameBut.update ..).extBut hne
 done:=λs Q E st hE=>by
  obtain ⟨hit,ht⟩:=st
  obtain ⟨o,ho,hc,hd⟩:=id hit
  obtain ⟨ol,hol,_,nl,hdl⟩:=id ht
  have hx:items[items.size]? = none:=by simp
  unfold Builtin.SmallTypes.nextOf
  refine wpAny_bind (wpAny_callSpecial?_slot (name:=Str.ofString "__next__") hit.typeIs F.slot_tuple_iterator_next (wpAny_call_entry F.slot_tuple_iterator_next hit.typeIs F.entry_tuple_iterator_next ?_ (F.args_tuple_iterator_next_1 _)))
  change wpAny _ _ (field (.ref it) 0 >>= _) _ _ s
  refine wpAny_bind (wpAny_field ho hd (x:=.ref t) rfl ?_)
  change wpAny _ _ (if (Value.ref t == Value.none)=true then _ else _) _ _ s
  rw [if_neg (show (Value.ref t == Value.none)≠true from Bool.false_ne_true)]
  change wpAny _ _ (field (.ref it) 1 >>= _) _ _ s
  refine wpAny_bind (wpAny_field ho hd (x:=.int items.size 0) rfl ?_)
  change wpAny _ _ (seqItems? (.ref t) >>= _) _ _ s
  refine wpAny_bind (wpAny_seqItems hol hdl ?_)
  simp only [Int.toNat_natCast,hx]
  refine wpAny_bind (wpAny_rule (wpAny_bind (wpAny_setField ho hd (by simp) ?_)))
  change wpAny _ _ (newExc (.type "StopIteration") [] >>= _) _ _ _
  refine wpAny_bind ?_
  simp only [newExc,newTuple]
  refine wpAny_bind (wpAny_newObj_type ?_ (by size_fits))
  refine wpAny_bind (m:=firstArgMember _ _) (wpAny_of_eq (a:=Value.none) (by first | rfl | (simp only [firstArgMember]; rfl)) ?_)
  refine wpAny_newObj_type ?_ (by size_fits)
  simp only [raiseNew]
  refine wpAny_bind (wpAny_handled ?_)
  first | rw [show A.in1.handled=none from hh] | rw [hh]
  refine wpAny_bind (wpAny_pure (wpAny_throw ?_))
  exact hE _ _ (((Heap.SameBut.update ..).extBut.push _).push _) ⟨_,Heap.get?_push_size _ rfl,rfl⟩
structure Zp (z TI TO i1 i2:Addr) (f1 f2:List Addr):Prop where
 a1:TI≠z
 a2:TO≠z
 a3:i1≠z
 a4:i2≠z
 a5:TI≠TO
 a6:TI≠i1
 a7:TI≠i2
 a8:TO≠i1
 a9:TO≠i2
 b1:z∉f1
 b2:z∉f2
 b3:TO∉f1
 b4:TO∉f2
 b5:i1∉f2
 b6:i2∉f1
theorem zK5 {z TI TO i1 i2:Addr} {f1 f2:List Addr} {n1 n2 k:Nat} {P1 P2:Nat->Value->Prop} {S1 S2:Nat->Heap->Prop} {a b:Value} {Q:Value->Shared->Prop}
  (D1:Draws prog w A i1 f1 n1 P1 S1) (D2:Draws prog w A i2 f2 n2 P2 S2) (Z:Zp z TI TO i1 i2 f1 f2) (hz:IsZip s.heap z TI TO .none) (hI:IsPair s.heap TI (.ref i1) (.ref i2)) (hO:IsPair s.heap TO a b)
  (s1:S1 k s.heap) (s2:S2 k s.heap) (k1:k < n1) (k2:k < n2)
  (hQ:∀ x y h' tk,P1 k x->P2 k y->IsZip h' z TI TO (rawInt s.heap.objs.size)->IsPair h' TI (.ref i1) (.ref i2)->IsPair h' TO x y->S1 (k + 1) h'->S2 (k + 1) h'->IsPair h' s.heap.objs.size x y->
   (∀ c o,c≠z->c≠TO->c≠i1->c≠i2->s.heap.get? c=some o->h'.get? c=some o)->Q (.ref s.heap.objs.size) { s with heap:=h',toks:=tk }) :
  wpAny (model prog w) A (Builtin.«zip.__next__» ⟨[.ref z],[]⟩) (λfin s'=>∃ v,fin=.done (.ret v)/\Q v s') E s:=by
 change wpAny _ _ (field (.ref z) 2 >>= _) _ _ _
 refine wpAny_bind (wpAny_field hz rfl (x:=.bool false) rfl ?_)
 change wpAny _ _ (field (.ref z) 3 >>= _) _ _ _
 refine wpAny_bind (wpAny_field hz rfl (x:=.ref TI) rfl ?_)
 refine wpAny_bind (wpAny_seqItems hI rfl ?_)
 change wpAny _ _ (Builtin.SmallTypes.ownedTupleIsFree (.ref z) >>= _) _ _ _
 refine wpAny_bind ?_
 unfold Builtin.SmallTypes.ownedTupleIsFree
 refine wpAny_bind (wpAny_field hz rfl (x:=.none) rfl (wpAny_pure ?_))
 simp only [if_true]
 refine wpAny_bind (wpAny_rule ?_)
 refine wpAny_bind (wpAny_field hz rfl (x:=.ref TO) rfl ?_)
 refine wpAny_bind (wpAny_setField_rec hz (by simp) λg1 z1 m1=>?_)
 replace z1:IsZip g1 z TI TO .ellipsis:=z1
 refine wpAny_bind ?_
 simp only [List.zipIdx_cons,List.zipIdx_nil,List.forIn_cons,List.forIn_nil]
 refine wpAny_bind (wpAny_bind (wpAny_onRaise ?_))
 change wpAny _ _ (Builtin.SmallTypes.nextOf (.ref i1) >>= _) _ _ _
 refine wpAny_bind (D1.item k _ _ _ k1 (D1.frame _ _ _ s1 λc hc o e=>m1.extBut c o (λq=>Z.b1 (q ▸ hc)) e) λx g2 t2 px s12 m2=>wpAny_pure ?_)
 have o2:IsPair g2 TO a b:=m2.extBut _ _ Z.a8 (m1.extBut _ _ Z.a2 hO)
 refine wpAny_bind (wpAny_seqItems o2 rfl ?_)
 refine wpAny_bind (wpAny_updateSeq_pair o2 λg3 o3 m3=>?_)
 replace o3:IsPair g3 TO x b:=o3
 refine wpAny_bind (wpAny_letGo (wpAny_pure ?_))
 refine wpAny_bind (wpAny_bind (wpAny_onRaise ?_))
 change wpAny _ _ (Builtin.SmallTypes.nextOf (.ref i2) >>= _) _ _ _
 refine wpAny_bind (D2.item k _ _ _ k2 (D2.frame _ _ _ s2 λc hc o e=>m3.extBut c o (λq=>Z.b4 (q ▸ hc)) (m2.extBut c o (λq=>Z.b5 (q ▸ hc)) (m1.extBut c o (λq=>Z.b2 (q ▸ hc)) e))) λy g4 t4 py s24 m4=>wpAny_pure ?_)
 have o4:IsPair g4 TO x b:=m4.extBut _ _ Z.a9 o3
 refine wpAny_bind (wpAny_seqItems o4 rfl ?_)
 refine wpAny_bind (wpAny_updateSeq_pair o4 λg5 o5 m5=>?_)
 replace o5:IsPair g5 TO x y:=o5
 refine wpAny_bind (wpAny_letGo (wpAny_pure (wpAny_pure ?_)))
 refine wpAny_bind (wpAny_seqItems o5 rfl ?_)
 refine wpAny_bind (wpAny_newTuple ?_)
 have sz:g5.objs.size=s.heap.objs.size:=by
  have q5:g5.objs.size=g4.objs.size:=m5.1
  have q4:g4.objs.size=g3.objs.size:=m4.1
  have q3:g3.objs.size=g2.objs.size:=m3.1
  have q2:g2.objs.size=g1.objs.size:=m2.1
  have q1:g1.objs.size=s.heap.objs.size:=m1.1
  omega
 have all5:∀ c o,c≠z->c≠TO->c≠i1->c≠i2->s.heap.get? c=some o->g5.get? c=some o:=λc o c1 c2 c3 c4 e=>m5.extBut _ _ c2 (m4.extBut _ _ c4 (m3.extBut _ _ c2 (m2.extBut _ _ c3 (m1.extBut _ _ c1 e))))
 have z5:IsZip g5 z TI TO .ellipsis:=m5.extBut _ _ Z.a2.symm (m4.extBut _ _ Z.a4.symm (m3.extBut _ _ Z.a2.symm (m2.extBut _ _ Z.a3.symm z1)))
 have I5:IsPair g5 TI (.ref i1) (.ref i2):=all5 _ _ Z.a1 Z.a5 Z.a6 Z.a7 hI
 have u1:S1 (k + 1) g5:=D1.frame _ _ _ s12 λc hc o e=>m5.extBut c o (λq=>Z.b3 (q ▸ hc)) (m4.extBut c o (λq=>Z.b6 (q ▸ hc)) (m3.extBut c o (λq=>Z.b3 (q ▸ hc)) e))
 have u2:S2 (k + 1) g5:=D2.frame _ _ _ s24 λc hc o e=>m5.extBut c o (λq=>Z.b4 (q ▸ hc)) e
 have lt:z < g5.objs.size:=Heap.lt_size z5
 change wpAny _ _ (Builtin.SmallTypes.ownedTupleHandOut (.ref z) (.ref g5.objs.size) >>= _) _ _ _
 refine wpAny_bind ?_
 unfold Builtin.SmallTypes.ownedTupleHandOut
 have z6:IsZip (g5.push { cls:=.type "tuple",data:=.seq #[x,y] }) z TI TO .ellipsis:=Heap.get?_push_of_some _ z5
 refine wpAny_bind (wpAny_setField_rec z6 (by simp) λg7 z7 m7=>?_)
 replace z7:IsZip g7 z TI TO (rawInt g5.objs.size):=z7
 refine wpAny_setField_rec z7 (by simp) λg8 z8 m8=>?_
 replace z8:IsZip g8 z TI TO (rawInt g5.objs.size):=z8
 have up:∀ c o,c≠z->g5.get? c=some o->g8.get? c=some o:=λc o c1 e=>m8.extBut _ _ c1 (m7.extBut _ _ c1 (Heap.get?_push_of_some _ e))
 have T8:IsPair g8 g5.objs.size x y:=m8.extBut _ _ (Nat.ne_of_gt lt) (m7.extBut _ _ (Nat.ne_of_gt lt) (Heap.get?_push_size _ rfl))
 rw [sz] at z8 T8
 refine wpAny_pure ⟨_,rfl,?_⟩
 change Q (.ref g5.objs.size) _
 rw [sz]
 exact hQ x y g8 _ px py z8 (up _ _ Z.a1 I5) (up _ _ Z.a2 o5) (D1.frame _ _ _ u1 λc hc o e=>up c o (λq=>Z.b1 (q ▸ hc)) e) (D2.frame _ _ _ u2 λc hc o e=>up c o (λq=>Z.b2 (q ▸ hc)) e) T8
  λc o c1 c2 c3 c4 e=>up c o c1 (all5 c o c1 c2 c3 c4 e)
theorem zK4 {z TI TO i1 i2:Addr} {f1 f2:List Addr} {n1 n2 k:Nat} {P1 P2:Nat->Value->Prop} {S1 S2:Nat->Heap->Prop} {a b:Value} {Q:Fin->Shared->Prop}
  (D1:Draws prog w A i1 f1 n1 P1 S1) (D2:Draws prog w A i2 f2 n2 P2 S2) (Z:Zp z TI TO i1 i2 f1 f2) (hz:IsZip s.heap z TI TO .none) (hI:IsPair s.heap TI (.ref i1) (.ref i2)) (hO:IsPair s.heap TO a b)
  (s1:S1 k s.heap) (s2:S2 k s.heap) (k1:k<=n1) (k2:k<=n2) (ke:k=n1\/k=n2)
  (hE:∀ h' e tk,(∀ c o,c≠z->c≠TO->c≠i1->c≠i2->s.heap.get? c=some o->h'.get? c=some o)->(∃ o,h'.get? e=some o/\o.cls=.type "StopIteration")->E (.ref e) { s with heap:=h',toks:=tk }) :
  wpAny (model prog w) A (Builtin.«zip.__next__» ⟨[.ref z],[]⟩) Q E s:=by
 change wpAny _ _ (field (.ref z) 2 >>= _) _ _ _
 refine wpAny_bind (wpAny_field hz rfl (x:=.bool false) rfl ?_)
 change wpAny _ _ (field (.ref z) 3 >>= _) _ _ _
 refine wpAny_bind (wpAny_field hz rfl (x:=.ref TI) rfl ?_)
 refine wpAny_bind (wpAny_seqItems hI rfl ?_)
 change wpAny _ _ (Builtin.SmallTypes.ownedTupleIsFree (.ref z) >>= _) _ _ _
 refine wpAny_bind ?_
 unfold Builtin.SmallTypes.ownedTupleIsFree
 refine wpAny_bind (wpAny_field hz rfl (x:=.none) rfl (wpAny_pure ?_))
 simp only [if_true]
 refine wpAny_bind (wpAny_rule ?_)
 refine wpAny_bind (wpAny_field hz rfl (x:=.ref TO) rfl ?_)
 refine wpAny_bind (wpAny_setField_rec hz (by simp) λg1 z1 m1=>?_)
 replace z1:IsZip g1 z TI TO .ellipsis:=z1
 refine wpAny_bind ?_
 simp only [List.zipIdx_cons,List.zipIdx_nil,List.forIn_cons,List.forIn_nil]
 refine wpAny_bind (wpAny_bind (wpAny_onRaise ?_))
 change wpAny _ _ (Builtin.SmallTypes.nextOf (.ref i1) >>= _) _ _ _
 have s1':S1 k g1:=D1.frame _ _ _ s1 λc hc o e=>m1.extBut c o (λq=>Z.b1 (q ▸ hc)) e
 by_cases c1:k=n1
 ·subst c1
  refine wpAny_bind (D1.done _ _ _ s1' λg2 e m2 he=>?_)
  obtain ⟨oe,he1,he2⟩:=he
  have z2:IsZip g2 z TI TO .ellipsis:=m2 _ _ Z.a3.symm z1
  have nez:e≠z:=λq=>by subst q; rw [z2] at he1; cases he1; simp at he2
  exact wpAny_setField_rec z2 (by simp) λg3 _ m3=>hE g3 e _ (λc o c1 c2 c3 c4 q=>m3.extBut _ _ c1 (m2 _ _ c3 (m1.extBut _ _ c1 q))) ⟨oe,m3.extBut _ _ nez he1,he2⟩
 ·have c2:k=n2:=ke.resolve_left c1
  subst c2
  refine wpAny_bind (D1.item k _ _ _ (by omega) s1' λx g2 t2 px s12 m2=>wpAny_pure ?_)
  have o2:IsPair g2 TO a b:=m2.extBut _ _ Z.a8 (m1.extBut _ _ Z.a2 hO)
  refine wpAny_bind (wpAny_seqItems o2 rfl ?_)
  refine wpAny_bind (wpAny_updateSeq_pair o2 λg3 o3 m3=>?_)
  refine wpAny_bind (wpAny_letGo (wpAny_pure ?_))
  refine wpAny_bind (wpAny_bind (wpAny_onRaise ?_))
  change wpAny _ _ (Builtin.SmallTypes.nextOf (.ref i2) >>= _) _ _ _
  refine wpAny_bind (D2.done _ _ _ (D2.frame _ _ _ s2 λc hc o e=>m3.extBut c o (λq=>Z.b4 (q ▸ hc)) (m2.extBut c o (λq=>Z.b5 (q ▸ hc)) (m1.extBut c o (λq=>Z.b2 (q ▸ hc)) e))) λg4 e m4 he=>?_)
  obtain ⟨oe,he1,he2⟩:=he
  have z4:IsZip g4 z TI TO .ellipsis:=m4 _ _ Z.a4.symm (m3.extBut _ _ Z.a2.symm (m2.extBut _ _ Z.a3.symm z1))
  have nez:e≠z:=λq=>by subst q; rw [z4] at he1; cases he1; simp at he2
  exact wpAny_setField_rec z4 (by simp) λg5 _ m5=>hE g5 e _ (λc o c1 c2 c3 c4 q=>m5.extBut _ _ c1 (m4 _ _ c4 (m3.extBut _ _ c2 (m2.extBut _ _ c3 (m1.extBut _ _ c1 q))))) ⟨oe,m5.extBut _ _ nez he1,he2⟩
end
abbrev YJ (h:Heap) (t:Addr):Heap:=h.push { cls:=.type "tuple_iterator",data:=.fields #[.ref t,.int 0 0] }
abbrev YK (h:Heap) (t l:Addr):Heap:=(YJ h t).push { cls:=.type "list_iterator",data:=.fields #[.ref l,.int 0 0] }
abbrev YL (h:Heap) (t l:Addr):Heap:=(YK h t l).push { cls:=.type "tuple",data:=.seq #[.ref h.objs.size,.ref (YJ h t).objs.size] }
abbrev YM (h:Heap) (t l:Addr):Heap:=(YL h t l).push { cls:=.type "tuple",data:=.seq #[.none,.none] }
abbrev qP (h:Heap) (t l:Addr):Heap:=(YM h t l).push { cls:=.type "zip",data:=.fields #[.none,.bool false,.bool false,.ref (YK h t l).objs.size,.ref (YL h t l).objs.size] }
theorem zIW (t l:Addr) (xs ys:Array Value) :
  Meets (Builtin.«zip.__new__» ⟨[.type "zip",.ref t,.ref l],[]⟩) (λ_ R s=>s.heap.IsTuple t xs/\s.heap.IsList l ys/\R (.ok (.ret (.ref (YM s.heap t l).objs.size))) { s with heap:=qP s.heap t l }):=
 .of_wp λprog w A R s h=>by
  obtain ⟨hp,g,d,tk,os⟩:=s; obtain ⟨h1,h2,h⟩:=h
  have hsub:=sub_zip
  have e1:Heap.IsTuple (Shared.heap ⟨hp,g,d,tk,os⟩) t xs:=h1
  have e2:Heap.IsList (Shared.heap ⟨hp.push { cls:=.type "tuple_iterator",data:=.fields #[.ref t,.int 0 0] },g,d,tk,os⟩) l ys:=Heap.IsList.push h2 _
  wp_walk using wpAny_pyIter_tuple e1,wpAny_pyIter_list e2
  exact ⟨_,rfl,h⟩
theorem zHe {prog:Program} {w:World} {A:Around} {E:Value->Shared->Prop} {s:Shared} {t l:Addr} {xs ys:Array Value} {Q:Value->Shared->Prop} (h1:s.heap.IsTuple t xs) (h2:s.heap.IsList l ys)
  (h:∀ h',IsZip h' (s.heap.objs.size + 4) (s.heap.objs.size + 2) (s.heap.objs.size + 3) .none->IsPair h' (s.heap.objs.size + 2) (.ref s.heap.objs.size) (.ref (s.heap.objs.size + 1))->IsPair h' (s.heap.objs.size + 3) .none .none->
   h'.IsTupleIter s.heap.objs.size t 0->h'.IsListIter (s.heap.objs.size + 1) l 0->(∀ c o,s.heap.get? c=some o->h'.get? c=some o)->Q (.ref (s.heap.objs.size + 4)) { s with heap:=h' }) :
  wpAny (model prog w) A (call (.type "zip") [.ref t,.ref l]) Q E s:=by
 refine callType_new F.called_zip (by decide) (F.typeCall_zip_2 _ _) (F.newCall_zip_2 _ _) (λobj=>F.args_object_init_3 obj _ _) F.entry_zip_new (zIW t l xs ys) ⟨h1,h2,?_⟩
 have n1:(YJ s.heap t).objs.size=s.heap.objs.size + 1:=Heap.size_push ..
 have n2:(YK s.heap t l).objs.size=s.heap.objs.size + 2:=by rw [Heap.size_push,n1]
 have n3:(YL s.heap t l).objs.size=s.heap.objs.size + 3:=by rw [Heap.size_push,n2]
 have n4:(YM s.heap t l).objs.size=s.heap.objs.size + 4:=by rw [Heap.size_push,n3]
 have p5:(qP s.heap t l).get? (YM s.heap t l).objs.size=some _:=Heap.get?_push_size _ rfl
 have p4:(qP s.heap t l).get? (YL s.heap t l).objs.size=some _:=Heap.get?_push_of_some _ (Heap.get?_push_size _ rfl)
 have p3:(qP s.heap t l).get? (YK s.heap t l).objs.size=some _:=Heap.get?_push_of_some _ (Heap.get?_push_of_some _ (Heap.get?_push_size _ rfl))
 have p2:(qP s.heap t l).get? (YJ s.heap t).objs.size=some _:=Heap.get?_push_of_some _ (Heap.get?_push_of_some _ (Heap.get?_push_of_some _ (Heap.get?_push_size _ rfl)))
 have p1:(qP s.heap t l).get? s.heap.objs.size=some _:=Heap.get?_push_of_some _ (Heap.get?_push_of_some _ (Heap.get?_push_of_some _ (Heap.get?_push_of_some _ (Heap.get?_push_size _ rfl))))
 change _/\_
 rw [n2,n3,n4] at p5
 rw [n1,n2] at p3
 rw [n3] at p4
 rw [n1] at p2
 rw [n4]
 exact ⟨⟨_,p5,rfl⟩,h _ p5 p3 p4 ⟨_,p1,rfl,rfl⟩ ⟨_,p2,rfl,rfl⟩ λc o x=>Heap.get?_push_of_some _ (Heap.get?_push_of_some _ (Heap.get?_push_of_some _ (Heap.get?_push_of_some _ (Heap.get?_push_of_some _ x))))⟩
section
variable {prog:Program} {w:World} {A:Around} {E:Value->Shared->Prop} {s:Shared}
theorem YN {z TI TO i1 i2:Addr} {f1 f2:List Addr} {n1 n2 k:Nat} {P1 P2:Nat->Value->Prop} {S1 S2:Nat->Heap->Prop} {a b:Value} {Q:Option Value->Shared->Prop}
  (D1:Draws prog w A.in1 i1 f1 n1 P1 S1) (D2:Draws prog w A.in1 i2 f2 n2 P2 S2) (Z:Zp z TI TO i1 i2 f1 f2) (hz:IsZip s.heap z TI TO .none) (hI:IsPair s.heap TI (.ref i1) (.ref i2)) (hO:IsPair s.heap TO a b)
  (s1:S1 k s.heap) (s2:S2 k s.heap) (k1:k < n1) (k2:k < n2)
  (hQ:∀ x y h' tk,P1 k x->P2 k y->IsZip h' z TI TO (rawInt s.heap.objs.size)->IsPair h' TI (.ref i1) (.ref i2)->IsPair h' TO x y->S1 (k + 1) h'->S2 (k + 1) h'->IsPair h' s.heap.objs.size x y->
   (∀ c o,c≠z->c≠TO->c≠i1->c≠i2->s.heap.get? c=some o->h'.get? c=some o)->Q (some (.ref s.heap.objs.size)) { s with heap:=h',toks:=tk }) :
  wpAny (model prog w) A (pyNext (.ref z)) Q E s:=by
 have ty:s.TypeIs (.ref z) "zip":=⟨_,hz,rfl⟩
 unfold pyNext
 refine wpAny_bind (wpAny_attempt (wpAny_callSpecial?_slot (name:=Str.ofString "__next__") ty F.slot_zip_next (wpAny_call_entry F.slot_zip_next ty F.entry_zip_next ?_ (F.args_zip_next_1 _))))
 exact zK5 D1 D2 Z hz hI hO s1 s2 k1 k2 λx y h' tk c1 c2 c3 c4 c5 c6 c7 c8 c9=>wpAny_pure (hQ x y h' tk c1 c2 c3 c4 c5 c6 c7 c8 c9)
theorem YO {z TI TO i1 i2:Addr} {f1 f2:List Addr} {n1 n2 k:Nat} {P1 P2:Nat->Value->Prop} {S1 S2:Nat->Heap->Prop} {a b:Value} {Q:Option Value->Shared->Prop}
  (D1:Draws prog w A.in1 i1 f1 n1 P1 S1) (D2:Draws prog w A.in1 i2 f2 n2 P2 S2) (Z:Zp z TI TO i1 i2 f1 f2) (hz:IsZip s.heap z TI TO .none) (hI:IsPair s.heap TI (.ref i1) (.ref i2)) (hO:IsPair s.heap TO a b)
  (s1:S1 k s.heap) (s2:S2 k s.heap) (k1:k<=n1) (k2:k<=n2) (ke:k=n1\/k=n2)
  (hQ:∀ h' tk,(∀ c o,c≠z->c≠TO->c≠i1->c≠i2->s.heap.get? c=some o->h'.get? c=some o)->Q none { s with heap:=h',toks:=tk }) :
  wpAny (model prog w) A (pyNext (.ref z)) Q E s:=by
 have ty:s.TypeIs (.ref z) "zip":=⟨_,hz,rfl⟩
 unfold pyNext
 refine wpAny_bind (wpAny_attempt (wpAny_callSpecial?_slot (name:=Str.ofString "__next__") ty F.slot_zip_next (wpAny_call_entry F.slot_zip_next ty F.entry_zip_next
  (zK4 D1 D2 Z hz hI hO s1 s2 k1 k2 ke λh' e tk keep he=>?_) (F.args_zip_next_1 _))))
 obtain ⟨o,ho,hc⟩:=he
 refine wpAny_bind (wpAny_isInstance (T:="StopIteration") (b:=true) ⟨o,ho,hc⟩ isSubtype_stop ?_)
 exact wpAny_pure (hQ _ _ keep)
end
end L2
namespace L2
open PySem PySem.Spec PyProof.Rows
def Qq (K:PySem.W.Frag) (a b:Addr):It:=
 ⟨λi H=>∃ xs ys x y,zl K H a xs/\zV K H b ys/\xs[i]? = some x/\ys[i]? = some y,
  λi H v H'=>∃ T x y,v=.ref T/\H T=none/\H'=upd H T (.tup [x,y])/\(∀ xs,zl K H a xs->xs[i]? = some x)/\∀ ys,zV K H b ys->ys[i]? = some y,
  λi H=>∃ xs ys,zl K H a xs/\zV K H b ys/\i<=xs.length/\i<=ys.length/\(i=xs.length\/i=ys.length)⟩
theorem wg {vs:Array Value} (v:Option Value):Data.fields vs≠Data.cell v:=λz=>by cases z
theorem u9 {vs:Array Value} {n:Nat} (v:Option Value):Data.seq vs n≠Data.cell v:=λz=>by cases z
theorem zD.turnT {X:Cx} {pins:List (Addr × Obj)} {σ:St} {H:Hp} {s:Shared} {h':Heap} {tk:Nat} {ch:List Addr} {T:Addr} {x y:V} {u v:Value} (I:zD X pins σ H s) (hf:∀ b∈ch,zv X pins H b) (keep:∀ b o,b∉ch->s.heap.get? b=some o->h'.get? b=some o)
  (hT:s.heap.objs.size<=T) (p:IsPair h' T u v) (rx:zN x u) (ry:zN y v):zD X pins σ (upd H T (.tup [x,y])) { s with heap:=h',toks:=tk }:=by
 have fr:H T=none:=I.hok.fresh hT
 have nT:∀ b o,s.heap.get? b=some o->b≠T:=λb o e z=>by rw [z] at e; exact absurd (Nat.lt_of_lt_of_le (Heap.lt_size e) hT) (Nat.lt_irrefl _)
 have vx:∀ b o,H b=some o->b∉ch:=λb o e z=>by rw [(hf b z).1] at e; cases e
 refine I.step (ch:=ch) (λb hb=>⟨(hf b hb).2.2.2.1,(hf b hb).2.1,(hf b hb).2.2.2.2.1,(hf b hb).2.2.2.2.2⟩) (λb o _ _ hc e _=>keep b o hc e) (λb o _ _ hc e _=>⟨o.slots,keep b o hc e⟩)
  (λb o _ e n=>by rw [zh (nT b o e)]; exact n) (λb o hc e=>⟨o,keep b o hc e⟩) (λb xs e=>by rw [zh (x9 e fr)]; exact e) (λb o w e=>by rw [zh (x9 e fr)]; exact e)
  (λb ps e=>⟨#[],by rw [zh (x9 e fr),e]; simp⟩) (λm hm=>?_) (λb w e=>?_) I.bare
 ·obtain ⟨o,es,ep,ho,r⟩:=hm
  exact ⟨o,es,ep,keep _ o (λz=>(hf _ z).2.1 rfl) ho,r⟩
 ·by_cases hb:b=T
  ·subst hb
   rw [xB] at e
   cases e
   exact ⟨by show 2<=sizeLine; decide,[u,v],.cons rx (.cons ry .nil),⟨_,p,rfl,_,rfl⟩⟩
  ·rw [zh hb] at e
   refine (I.hok b w e).stay (λc q hc ec=>keep c q ?_ ec) (λc ec=>by rw [zh (x9 ec fr)]; exact ec) λc xs ec=>by rw [zh (x9 ec fr)]; exact ec
   rcases hc with z | z
   ·rw [z]
    exact vx b w e
   ·exact vx c _ z
theorem zD.turnN {X:Cx} {pins:List (Addr × Obj)} {σ:St} {H:Hp} {s:Shared} {h':Heap} {tk:Nat} {ch:List Addr} (I:zD X pins σ H s) (hf:∀ b∈ch,zv X pins H b) (keep:∀ b o,b∉ch->s.heap.get? b=some o->h'.get? b=some o) :
  zD X pins σ H { s with heap:=h',toks:=tk }:=by
 have vx:∀ b o,H b=some o->b∉ch:=λb o e z=>by rw [(hf b z).1] at e; cases e
 refine I.step (ch:=ch) (λb hb=>⟨(hf b hb).2.2.2.1,(hf b hb).2.1,(hf b hb).2.2.2.2.1,(hf b hb).2.2.2.2.2⟩) (λb o _ _ hc e _=>keep b o hc e) (λb o _ _ hc e _=>⟨o.slots,keep b o hc e⟩)
  (λb o _ e n=>n) (λb o hc e=>⟨o,keep b o hc e⟩) (λb xs e=>e) (λb o w e=>e) (λb ps e=>⟨#[],by rw [e]; simp⟩) (λm hm=>?_) (λb w e=>?_) I.bare
 ·obtain ⟨o,es,ep,ho,r⟩:=hm
  exact ⟨o,es,ep,keep _ o (λz=>(hf _ z).2.1 rfl) ho,r⟩
 ·refine (I.hok b w e).stay (λc q hc ec=>keep c q ?_ ec) (λc ec=>ec) λc xs ec=>ec
  rcases hc with z | z
  ·rw [z]
   exact vx b w e
  ·exact vx c _ z
theorem zK8 {P:Program} {w:World} {K:PySem.W.Frag} {es:List Expr} {kk:Nat} {tp:Pos} {a b z TI TO i1 i2:Addr} (Z:Zp z TI TO i1 i2 [i1,a] [i2,b]) (na:a≠i1) (nb:b≠i2) :
  xF P w K (.Tuple es kk tp) (Qq K a b) [z,TI,TO,i1,i2] z (λi h=>IsZip h z TI TO .none/\IsPair h TI (.ref i1) (.ref i2)/\(∃ x y,IsPair h TO x y)/\h.IsTupleIter i1 a i/\h.IsListIter i2 b i) where
 mem:=by simp
 obj:=λi h ⟨t1,t2,⟨x,y,t3⟩,t4,t5⟩ c hc=>by
  simp only [List.mem_cons,List.not_mem_nil,or_false] at hc
  rcases hc with rfl | rfl | rfl | rfl | rfl
  ·exact ⟨_,t1,wg⟩
  ·exact ⟨_,t2,u9⟩
  ·exact ⟨_,t3,u9⟩
  ·obtain ⟨o,e,_,d⟩:=t4
   exact ⟨o,e,by rw [d]; exact wg⟩
  ·obtain ⟨o,e,_,d⟩:=t5
   exact ⟨o,e,by rw [d]; exact wg⟩
 keep:=λi h h' ⟨t1,t2,⟨x,y,t3⟩,t4,t5⟩ k=>⟨k z (by simp) _ t1,k TI (by simp) _ t2,⟨x,y,k TO (by simp) _ t3⟩,(by obtain ⟨o,e,r⟩:=t4; exact ⟨o,k i1 (by simp) o e,r⟩),(by obtain ⟨o,e,r⟩:=t5; exact ⟨o,k i2 (by simp) o e,r⟩)⟩
 item:=by
  intro X hP hw hK hc i pins s σ H E I hf ⟨t1,t2,⟨x0,y0,t3⟩,t4,t5⟩ hg
  subst hP hw hK
  obtain ⟨xs,ys,x,y,hq1,hq2,hx,hy⟩:=hg
  obtain ⟨its1,rv1,p1,_⟩:=I.tuple hq1
  obtain ⟨its2,rv2,p2,_⟩:=I.list hq2
  obtain ⟨u,hu,ru⟩:=rv1.get hx
  obtain ⟨v,hv,rv⟩:=rv2.get hy
  have hh:X.A.in1.handled=none:=I.ok.hd hc
  have l1:i < its1.toArray.size:=by rw [List.size_toArray]; exact (List.getElem?_eq_some_iff.mp hu).1
  have l2:i < its2.toArray.size:=by rw [List.size_toArray]; exact (List.getElem?_eq_some_iff.mp hv).1
  refine YN (u8 hh i1 a na its1.toArray) (Draws.list hh i2 b nb its2.toArray) Z t1 t2 t3 ⟨t4,p1⟩ ⟨t5,p2.isList⟩ l1 l2 ?_
  intro x' y' h1 tk px py z1 z2 z3 z4 z5 z6 keep
  have ex:x'=u:=by
   have q:its1.toArray[i]? = some x':=px
   simp only [List.getElem?_toArray] at q
   rw [hu] at q
   exact (Option.some.inj q).symm
  have ey:y'=v:=by
   have q:its2.toArray[i]? = some y':=py
   simp only [List.getElem?_toArray] at q
   rw [hv] at q
   exact (Option.some.inj q).symm
  subst ex ey
  refine ⟨_,rfl,wpAny_letOwnedTupleGo_zip (s:={ s with heap:=h1,toks:=tk }) z1 λh2 z7 sb=>?_⟩
  have zlt:z < s.heap.objs.size:=Heap.lt_size t1
  have keep2:∀ c o,c∉[z,TI,TO,i1,i2]->s.heap.get? c=some o->h2.get? c=some o:=λc o hc e=>by
   simp only [List.mem_cons,List.not_mem_nil,or_false,not_or] at hc
   exact sb.extBut c o hc.1 (keep c o hc.1 hc.2.2.1 hc.2.2.2.1 hc.2.2.2.2 e)
  have pT:IsPair h2 s.heap.objs.size x' y':=sb.extBut _ _ (Nat.ne_of_gt zlt) z6
  have I':=I.turnT (h':=h2) (tk:=tk) (ch:=[z,TI,TO,i1,i2]) (x:=x) (y:=y) hf keep2 (Nat.le_refl _) pT ru rv
  refine ⟨.ref s.heap.objs.size,_,I',rfl,⟨s.heap.objs.size,x,y,rfl,I.hok.fresh (Nat.le_refl _),rfl,λxs' q=>by rw [I.tuple_inj q hq1]; exact hx,λys' q=>by rw [I.list_inj q hq2]; exact hy⟩,
   ⟨z7,sb.extBut _ _ Z.a1 z2,⟨_,_,sb.extBut _ _ Z.a2 z3⟩,z4.1.extBut sb.extBut Z.a3,z5.1.extBut sb.extBut Z.a4⟩,λc hc=>?_⟩
  have:=(hf c hc).1
  rw [zh]
  ·exact this
  ·intro q
   obtain ⟨o,e,_⟩:∃ o,s.heap.get? c=some o/\True:=by
    simp only [List.mem_cons,List.not_mem_nil,or_false] at hc
    rcases hc with rfl | rfl | rfl | rfl | rfl
    ·exact ⟨_,t1,trivial⟩
    ·exact ⟨_,t2,trivial⟩
    ·exact ⟨_,t3,trivial⟩
    ·obtain ⟨o,e,_⟩:=t4; exact ⟨o,e,trivial⟩
    ·obtain ⟨o,e,_⟩:=t5; exact ⟨o,e,trivial⟩
   rw [q] at e
   exact absurd (Heap.lt_size e) (Nat.lt_irrefl _)
 done:=by
  intro X hP hw hK hc i pins s σ H E I hf ⟨t1,t2,⟨x0,y0,t3⟩,t4,t5⟩ hg
  subst hP hw hK
  obtain ⟨xs,ys,hq1,hq2,e1,e2,e3⟩:=hg
  obtain ⟨its1,rv1,p1,_⟩:=I.tuple hq1
  obtain ⟨its2,rv2,p2,_⟩:=I.list hq2
  have hh:X.A.in1.handled=none:=I.ok.hd hc
  have n1:its1.toArray.size=xs.length:=by rw [List.size_toArray]; exact rv1.length.symm
  have n2:its2.toArray.size=ys.length:=by rw [List.size_toArray]; exact rv2.length.symm
  refine YO (u8 hh i1 a na its1.toArray) (Draws.list hh i2 b nb its2.toArray) Z t1 t2 t3 ⟨t4,p1⟩ ⟨t5,p2.isList⟩ (by omega) (by omega) (by omega) ?_
  intro h1 tk keep
  refine ⟨rfl,I.turnN (h':=h1) (tk:=tk) (ch:=[z,TI,TO,i1,i2]) hf λc o hc e=>?_⟩
  simp only [List.mem_cons,List.not_mem_nil,or_false,not_or] at hc
  exact keep c o hc.1 hc.2.2.1 hc.2.2.2.1 hc.2.2.2.2 e
 self:=λ_ _ _ _ _ st h=>wpAny_pyIter_zip st.1 h
theorem ww {x y z:Nat} (h1:x≠y) (h2:x≠z):x∉[y,z]:=by simp [h1,h2]
theorem YQ (n a b:Nat) (la:a < n) (lb:b < n):Zp (n + 4) (n + 2) (n + 3) n (n + 1) [n,a] [n + 1,b]:=by
 have e:∀ x y:Nat,x≠y->(x:Addr)≠y:=λ_ _ h=>h
 exact ⟨e _ _ (by omega),e _ _ (by omega),e _ _ (by omega),e _ _ (by omega),e _ _ (by omega),e _ _ (by omega),e _ _ (by omega),e _ _ (by omega),e _ _ (by omega),
  ww (by omega) (by omega),ww (by omega) (by omega),ww (by omega) (by omega),ww (by omega) (by omega),ww (by omega) (by omega),ww (by omega) (by omega)⟩
section
variable {X:Cx} {es:List Expr} {kk:Nat} {tp:Pos}
end
end L2
namespace L2
open PySem PySem.Spec PyProof.Rows
section
variable {κ:Type} [DecidableEq κ]
def y9 (kvs:List (κ × V)) (k:κ):Option V:=(kvs.find? λkv=>decide (kv.1=k)).map (·.2)
def wJ (kvs:List (κ × V)) (k:κ) (v:V):List (κ × V):=
 if (kvs.any λkv=>decide (kv.1=k))=true then kvs.map (λkv=>if kv.1=k then (kv.1,v) else kv) else kvs++[(k,v)]
def Qr (kvs:List (κ × V)) (k:κ):List (κ × V):=kvs.filter λkv=>decide (kv.1≠k)
theorem WK {p:κ × V} {r:List (κ × V)} {k:κ} (e:p.1=k):y9 (p :: r) k=some p.2:=by simp [y9,List.find?_cons,e]
theorem WL {p:κ × V} {r:List (κ × V)} {k:κ} (e:¬ p.1=k):y9 (p :: r) k=y9 r k:=by simp [y9,List.find?_cons,e]
theorem Qs (k:κ):∀ kvs:List (κ × V),(kvs.any λkv=>decide (kv.1=k))=(y9 kvs k).isSome
 | []=>rfl
 | p :: r=>by
  rw [List.any_cons]
  by_cases e:p.1=k
  ·simp only [WK e,decide_eq_true e,Bool.true_or,Option.isSome_some]
  ·rw [WL e,decide_eq_false e,Bool.false_or]; exact Qs k r
theorem ye.isSome_eq {o:Option V} {u:Option Value} (r:ye o u):o.isSome=u.isSome:=by
 cases o with
 | none=>cases u with
  | none=>rfl
  | some _=>exact (show False from r).elim
 | some _=>cases u with
  | none=>exact (show False from r).elim
  | some _=>rfl
theorem ye.getD {o:Option V} {u:Option Value} {d:V} {d':Value} (r:ye o u) (rd:zN d d'):zN (o.getD d) (u.getD d'):=by
 cases o with
 | none=>cases u with
  | none=>exact rd
  | some _=>exact (show False from r).elim
 | some _=>cases u with
  | none=>exact (show False from r).elim
  | some _=>exact r
theorem KV.val {kvs:List (κ × V)} {vs:List (κ × Value)} (r:KV kvs vs) (k:κ):ye (y9 kvs k) (valueAt vs k):=by
 unfold KV at r
 induction r with
 | nil=>exact True.intro
 | @cons p q ps qs h t ih=>
  obtain ⟨h1,h2⟩:=h
  by_cases e:p.1=k
  ·have e':q.1=k:=h1.symm.trans e
   have b:valueAt (q :: qs) k=some q.2:=by simp [valueAt,List.find?_cons,e']
   rw [WK e,b]; exact h2
  ·have e':¬ q.1=k:=λz=>e (h1.trans z)
   have b:valueAt (q :: qs) k=valueAt qs k:=by simp [valueAt,List.find?_cons,e']
   rw [WL e,b]; exact ih
theorem KV.any {kvs:List (κ × V)} {vs:List (κ × Value)} (r:KV kvs vs) (k:κ):(kvs.any λkv=>decide (kv.1=k))=vs.any λkv=>decide (kv.1=k):=by
 unfold KV at r
 induction r with
 | nil=>rfl
 | cons h t ih=>rw [List.any_cons,List.any_cons,ih,h.1]
theorem KV.repl {kvs:List (κ × V)} {vs:List (κ × Value)} (r:KV kvs vs) (k:κ) {y:V} {u:Value} (ry:zN y u) :
  KV (kvs.map λkv=>if kv.1=k then (kv.1,y) else kv) (vs.map λkv=>if kv.1=k then (kv.1,u) else kv):=by
 unfold KV at r |-
 induction r with
 | nil=>exact .nil
 | @cons p q ps qs h t ih=>
  rw [List.map_cons,List.map_cons]
  refine .cons ?_ ih
  obtain ⟨h1,h2⟩:=h
  by_cases e:p.1=k
  ·rw [if_pos e,if_pos (h1.symm.trans e)]; exact ⟨h1,ry⟩
  ·rw [if_neg e,if_neg (λz=>e (h1.trans z))]; exact ⟨h1,h2⟩
theorem KV.put {kvs:List (κ × V)} {vs:List (κ × Value)} (r:KV kvs vs) (k:κ) {y:V} {u:Value} (ry:zN y u):KV (wJ kvs k y) (stored vs k u):=by
 unfold wJ stored
 rw [r.any k]
 by_cases e:(vs.any λkv=>decide (kv.1=k))=true
 ·rw [if_pos e,if_pos e]; exact r.repl k ry
 ·rw [if_neg e,if_neg e]; exact Paired.snoc r ⟨rfl,ry⟩
theorem KV.drop {kvs:List (κ × V)} {vs:List (κ × Value)} (r:KV kvs vs) (k:κ):KV (Qr kvs k) (without vs k):=by
 unfold KV at r |-
 unfold Qr without
 induction r with
 | nil=>exact .nil
 | @cons p q ps qs h t ih=>
  obtain ⟨h1,h2⟩:=h
  rw [List.filter_cons,List.filter_cons]
  by_cases e:p.1=k
  ·have a:¬ decide (p.1≠k)=true:=by simp [e]
   have b:¬ decide (q.1≠k)=true:=by simp [h1.symm.trans e]
   rw [if_neg a,if_neg b]; exact ih
  ·have e':¬ q.1=k:=λz=>e (h1.trans z)
   have a:decide (p.1≠k)=true:=by simp [e]
   have b:decide (q.1≠k)=true:=by simp [e']
   rw [if_pos a,if_pos b]; exact .cons ⟨h1,h2⟩ ih
theorem KV.length {kvs:List (κ × V)} {vs:List (κ × Value)} (r:KV kvs vs):kvs.length=vs.length:=Paired.length r
end
abbrev KT (H:Hp):List (List yH × V)->List (List yH × Addr × Value)->Prop:=Paired λp q=>p.1=q.1/\H q.2.1=some (.tup (p.1.map kV))/\zN p.2 q.2.2
theorem KT.val {H:Hp} {kvs:List (List yH × V)} {xs:List (List yH × Addr × Value)} (r:KT H kvs xs) (k:List yH):ye (y9 kvs k) ((atKey xs k).map (·.2)):=by
 induction r with
 | nil=>exact True.intro
 | @cons p q ps qs h t ih=>
  obtain ⟨h1,_,h2⟩:=h
  by_cases e:p.1=k
  ·have e':q.1=k:=h1.symm.trans e
   have b:atKey (q :: qs) k=some q.2:=by simp [atKey,List.find?_cons,e']
   rw [WK e,b]; exact h2
  ·have e':¬ q.1=k:=λz=>e (h1.trans z)
   have b:atKey (q :: qs) k=atKey qs k:=by simp [atKey,List.find?_cons,e']
   rw [WL e,b]; exact ih
theorem KT.repl {H:Hp} {kvs:List (List yH × V)} {xs:List (List yH × Addr × Value)} (r:KT H kvs xs) (k:List yH) {y:V} {u:Value} (ry:zN y u) :
  KT H (kvs.map λkv=>if kv.1=k then (kv.1,y) else kv) (xs.map (putAt k u)):=by
 induction r with
 | nil=>exact .nil
 | @cons p q ps qs h t ih=>
  rw [List.map_cons,List.map_cons]
  refine .cons ?_ ih
  obtain ⟨h1,h2,h3⟩:=h
  unfold putAt
  by_cases e:p.1=k
  ·rw [if_pos e,if_pos (h1.symm.trans e)]; exact ⟨h1,h2,ry⟩
  ·rw [if_neg e,if_neg (λz=>e (h1.trans z))]; exact ⟨h1,h2,h3⟩
theorem KT.put {H:Hp} {kvs:List (List yH × V)} {xs:List (List yH × Addr × Value)} (r:KT H kvs xs) (k:List yH) {b:Addr} {y:V} {u:Value} (hb:H b=some (.tup (k.map kV))) (ry:zN y u) :
  KT H (wJ kvs k y) (storedH xs k b u):=by
 have e:(kvs.any λkv=>decide (kv.1=k))=(atKey xs k).isSome:=by
  rw [Qs,(r.val k).isSome_eq,Option.isSome_map]
 unfold wJ storedH
 rw [e]
 by_cases q:(atKey xs k).isSome=true
 ·rw [if_pos q,if_pos q]; exact r.repl k ry
 ·rw [if_neg q,if_neg q]; exact Paired.snoc r ⟨rfl,hb,ry⟩
theorem KT.keeps {H H':Hp} {kvs:List (List yH × V)} {xs:List (List yH × Addr × Value)} (r:KT H kvs xs) (ht:∀ b ys,H b=some (.tup ys)->H' b=some (.tup ys)):KT H' kvs xs:=
 Paired.mapP r λ_ _ z=>⟨z.1,ht _ _ z.2.1,z.2.2⟩
section
variable {P:Program} {w:World} {H:Hp} {h:Heap} {a:Addr}
end
def uM (H:Hp) (a:Addr) (y:V) (r:Option V):Prop:=
 (∃ kvs k,Rd H a (.dK kvs)/\y=kV k/\r=y9 kvs k)\/∃ kvs k b,Rd H a (.dT kvs)/\y=.ref b/\H b=some (.tup (k.map kV))/\r=y9 kvs k
def uN (H:Hp) (a:Addr) (y v:V) (H':Hp):Prop:=
 (∃ kvs k,H a=some (.dK kvs)/\y=kV k/\kvs.length < sizeLine/\H'=upd H a (.dK (wJ kvs k v)))∨
 ∃ kvs k b,H a=some (.dT kvs)/\y=.ref b/\H b=some (.tup (k.map kV))/\kvs.length < sizeLine/\H'=upd H a (.dT (wJ kvs k v))
theorem uM.k {H:Hp} {a:Addr} {kvs:List (yH × V)} {k:yH} (e:H a=some (.dK kvs)):uM H a (kV k) (y9 kvs k):=.inl ⟨kvs,k,.inl e,rfl,rfl⟩
theorem uM.t {H:Hp} {a b:Addr} {kvs:List (List yH × V)} {k:List yH} (e:H a=some (.dT kvs)) (eb:H b=some (.tup (k.map kV))):uM H a (.ref b) (y9 kvs k):=.inr ⟨kvs,k,b,.inl e,rfl,eb,rfl⟩
theorem uN.k {H:Hp} {a:Addr} {kvs:List (yH × V)} {k:yH} {v:V} (e:H a=some (.dK kvs)) (hl:kvs.length < sizeLine):uN H a (kV k) v (upd H a (.dK (wJ kvs k v))):=.inl ⟨kvs,k,e,rfl,hl,rfl⟩
theorem uN.t {H:Hp} {a b:Addr} {kvs:List (List yH × V)} {k:List yH} {v:V} (e:H a=some (.dT kvs)) (eb:H b=some (.tup (k.map kV))) (hl:kvs.length < sizeLine) :
  uN H a (.ref b) v (upd H a (.dT (wJ kvs k v))):=.inr ⟨kvs,k,b,e,rfl,eb,hl,rfl⟩
section
variable {X:Cx} {pins:List (Addr × Obj)} {σ:St} {H:Hp} {s:Shared} {a:Addr} {y v:V} {u r:Value} {o:Option V} {A:Around} {E:Value->Shared->Prop}
end
section
variable {X:Cx} {pins:List (Addr × Obj)} {σ:St} {H:Hp} {s:Shared} {a:Addr} {kvs:List (yH × V)} {k:yH} {u:Value} {A:Around} {E:Value->Shared->Prop}
end
section
variable {X:Cx} {o i e value:Expr} {pos pos' tpos:Pos} {td ty tv:TE}
end
section
variable {X:Cx} {pos:Pos}
end
end L2
namespace L2
open PySem
section
variable {prog:Program} {w:World} {A:Around} {R:Result->Shared->Prop} {s:Shared}
theorem zHb {elt target iter cond:Expr} {scope:Scope} {pos:Pos} {it acc:Value} {env:Env} (Wd:Nat->Shared->Prop)
  (turn:∀ n s,Wd n s->wpAny (model prog w) A (pyNext it) (λr s1=>match r with
   | none=>R (.ok .next) s1
   | some v=>wpAny (model prog w) A (letOwnedTupleGo target it v) (λ_ s2=>wpAny (model prog w) A (assign target env v) (λ_ s3=>wpAny (model prog w) A (isTrue cond env (eval cond env)) (λok s4=>
     if ok=true then wpAny (model prog w) A (eval elt env) (λx s5=>wpAny (model prog w) A (call (.builtin "list.append") [acc,x]) (λ_ s6=>∃ m,m < n/\Wd m s6) (λ_ _=>False) s5) (λ_ _=>False) s4
     else ∃ m,m < n/\Wd m s4) (λ_ _=>False) s3) (λ_ _=>False) s2) (λ_ _=>False) s1) (λ_ _=>False) s)
  (n:Nat) (h:Wd n s):codeAny (model prog w) A (.compLoop (.ListComp elt [⟨target,iter,[cond],0⟩] scope pos) 0 it acc env) R s:=by
 refine codeAny_loop rfl Wd (λn s hI=>?_) n h
 show wpAny _ _ (Sem.onRaise (compTurn (.ListComp elt [⟨target,iter,[cond],0⟩] scope pos) 0 it acc env) _) _ _ s
 refine wpAny_noted ?_
 rw [compTurn_list]
 refine wpAny_bind (wpAny_standAt (wpAny_bind (wpAny_mono (turn n s hI) (λr s1 h1=>?_) λ_ _ z=>False.elim z)))
 cases r with
 | none=>exact wpAny_pure h1
 | some v=>
  refine wpAny_bind (wpAny_mono h1 (λ_ s2 h2=>?_) λ_ _ z=>False.elim z)
  refine wpAny_bind (wpAny_mono h2 (λ_ s3 h3=>?_) λ_ _ z=>False.elim z)
  refine wpAny_bind (wpAny_tests_one (wpAny_mono h3 (λok s4 h4=>?_) λ_ _ z=>False.elim z))
  cases ok with
  | false=>exact wpAny_pure ⟨rfl,h4⟩
  | true=>exact wpAny_bind (wpAny_bind (wpAny_mono h4 (λx s5 h5=>wpAny_bind (wpAny_mono h5 (λ_ s6 h6=>wpAny_pure (wpAny_pure ⟨rfl,h6⟩)) λ_ _ z=>False.elim z)) λ_ _ z=>False.elim z))
end
end L2
namespace L2
open PySem PySem.Spec PyProof.Rows
def Qt (J:It) (g:TG) (tc:TT) (te:TE) (Q:VK) (σ0:St) (H0:Hp):Prop:=∃ W:Nat->Nat->List V->St->Hp->Prop,(∃ m,W 0 m [] σ0 H0)/\∀ i m ys σ1 H,W i m ys σ1 H->
 (J.stop i H/\∀ p,H p=none->Q (.ref p) (upd H p (.lst ys)))\/(J.go i H/\ys.length < sizeLine/\∃ (N:V->St->Hp->Prop) (N0:St->Hp->Prop),(∀ y σ' H',N y σ' H'->∃ m',m' < m/\W (i + 1) m' (ys++[y]) σ' H')/\(∀ σ' H',N0 σ' H'->∃ m',m' < m/\W (i + 1) m' ys σ' H')∧
    ∀ x H',J.yld i H x H'->g x σ1 H' λσ2 H2=>tc σ2 H2 λb H3=>if b=true then te σ2 H3 λy H4=>N y σ2 H4 else N0 σ2 H3)
def zOL (own:List Str) (caps:List (Nat × Str)) (wi:TI) (g:TG) (tc:TT) (te:TE):TE:=λσ H Q=>wi σ H λJ H1=>Qt J g tc te Q (xq own caps σ) H1
section
variable {X:Cx} {scope:Scope} {own:List Str} {caps:List (Nat × Str)} {elt tg iter cond:Expr} {wi:TI} {g:TG} {tc:TT} {te:TE} {pos:Pos}
end
end L2
namespace L2
open PySem PySem.Spec PyProof.Rows
section
variable {prog:Program} {w:World} {A:Around} {E:Value->Shared->Prop} {s:Shared}
end
end L2
namespace L2
open PySem PySem.Spec PyProof.Rows
section
variable {X:Cx}
theorem Qu (hu:X.A.units + 64 < cLine):yW X (compareOp .NotEq) (λx y H Q=>∃ d e:PyData,Dp X.K H x d/\Dp X.K H y e/\d.canLay0=true/\e.canLay0=true/\d.depth<=60/\e.depth<=60/\Q (.bl (!PyData.eqv d e)) H):=by
 intro pins s σ H x y v u Q I rx ry h
 obtain ⟨d,e,hx,hy,hc,hc',hd,hd',q⟩:=h
 obtain ⟨_,r1⟩:=hx.reads I rx
 obtain ⟨_,r2⟩:=hy.reads I ry
 exact SeqAt.compareNe_reads r1 r2 hc hc' (by omega) ⟨.bl _,H,I,rfl,q⟩
end
end L2
namespace L2
open PySem PySem.Spec PyProof.Rows
section
variable {X:Cx}
end
end L2
namespace L2
open PySem
theorem YR:bootBuiltins "max" = some (.builtin "max"):=by decide +kernel
end L2
namespace L2
open PySem PySem.Spec PyProof.Rows
theorem Qv:bootBuiltins "sum" = some (.builtin "sum"):=by decide +kernel
theorem Qw:∀ {ns:List Int} {its:List Value},zK (ns.map V.int) its->∃ zs:List (Int × Tok),its=zs.map (λp=>Value.int p.1 p.2)/\zs.map (·.1)=ns
 | [],_,.nil=>⟨[],rfl,rfl⟩
 | n :: r,_,.cons h t=>by
  obtain ⟨zs,e1,e2⟩:=Qw t
  obtain ⟨tk,rfl⟩:=h
  exact ⟨(n,tk) :: zs,by rw [e1]; rfl,by rw [List.map_cons,e2]⟩
section
variable {X:Cx}
theorem Qx (hc:X.calm=true):xN X (.builtin "sum") (λxs H Q=>∃ (p:Addr) (ns:List Int),xs=[.ref p]/\zV X.K H p (ns.map V.int)/\Q (.int ns.sum) H):=by
 intro pins s σ H xs us Q I r h
 obtain ⟨p,ns,rfl,hq,q⟩:=h
 obtain ⟨u,rfl,ru⟩:=vG r
 cases ru
 obtain ⟨its,rv,pl,hz⟩:=I.list hq
 obtain ⟨zs,e1,e2⟩:=Qw rv
 have e3:its.toArray=intItems zs.toArray:=by
  rw [e1]
  unfold intItems
  simp
 have hl:=pl.isList
 rw [e3] at hl
 refine sum_intListG (I.ok.hd hc) hl λh' tk t' kk=>⟨.int ns.sum,H,I.kept (h':=h') (t':=tk) kk,⟨t',?_⟩,q⟩
 rw [preSum_eq,List.take_of_length_le (by simp),e2]
end
end L2
namespace L2
open PySem PySem.Spec PyProof.Rows
theorem jW {a b c d:Nat} (h1:a < b) (h2:b<=c) (h3:c + 1<=d):d≠a:=by omega
theorem gf {a b c:Nat} (h1:c=a + 1) (h2:c + 1<=b):b≠a:=by omega
theorem YS {x:Str} {c:Addr}:∀ (names:List (Str × NameKind)) (n:Nat) (acc:List (Str × Addr)),(cellsFrom n names acc).lookup x=some c->((x,NameKind.cell)∈names/\n<=c)\/acc.lookup x=some c
 | [],_,_,h=>.inr h
 | (y,k) :: r,n,acc,h=>by
  unfold cellsFrom at h
  split at h
  ·rename_i hk
   rcases YS r (n + 1) ((y,n) :: acc) h with ⟨a,b⟩ | z
   ·exact .inl ⟨List.mem_cons_of_mem _ a,by omega⟩
   ·rw [List.lookup_cons] at z
    by_cases e:(x == y)=true
    ·simp only [e] at z
     have e1:x=y:=eq_of_beq e
     have e2:k=.cell:=eq_of_beq hk
     subst e1
     subst e2
     cases z
     exact .inl ⟨List.mem_cons_self,Nat.le_refl _⟩
    ·have e':(x == y)=false:=by simpa using e
     simp only [e'] at z
     exact .inr z
  ·rcases YS r n acc h with ⟨a,b⟩ | z
   ·exact .inl ⟨List.mem_cons_of_mem _ a,b⟩
   ·exact .inr z
theorem WM {x:Str}:∀ (names:List (Str × NameKind)) (n:Nat) (acc:List (Str × Addr)),(x,NameKind.cell)∉names->(cellsFrom n names acc).lookup x=acc.lookup x
 | [],_,_,_=>rfl
 | (y,k) :: r,n,acc,h=>by
  have hr:(x,NameKind.cell)∉r:=λz=>h (List.mem_cons_of_mem _ z)
  unfold cellsFrom
  split
  ·rename_i hk
   have e2:k=.cell:=eq_of_beq hk
   rw [WM r _ _ hr,List.lookup_cons]
   have e':(x == y)=false:=by
    cases q:x == y with
    | false=>rfl
    | true=>exact absurd (by rw [eq_of_beq q,e2]; exact List.mem_cons_self) h
   simp only [e']
  ·exact WM r _ _ hr
theorem WN:∀ (names:List (Str × NameKind)) (n:Nat) (acc:List (Str × Addr)),(∀ x c,acc.lookup x=some c->c < n)->(∀ x y c,acc.lookup x=some c->acc.lookup y=some c->x=y)->
  ∀ x y c,(cellsFrom n names acc).lookup x=some c->(cellsFrom n names acc).lookup y=some c->x=y
 | [],_,_,_,h2=>h2
 | (z,k) :: r,n,acc,h1,h2=>by
  unfold cellsFrom
  split
  ·have look:∀ x c,((z,n) :: acc).lookup x=some c->(x=z/\c=n)\/acc.lookup x=some c:=λx c e=>by
    rw [List.lookup_cons] at e
    cases q:x == z with
    | true=>
     simp only [q] at e
     exact .inl ⟨eq_of_beq q,(Option.some.inj e).symm⟩
    | false=>
     simp only [q] at e
     exact .inr e
   refine WN r (n + 1) ((z,n) :: acc) (λx c e=>?_) λx y c e1 e2=>?_
   ·rcases look x c e with ⟨_,e⟩ | e
    ·rw [e]
     exact Nat.lt_succ_self n
    ·exact Nat.lt_succ_of_lt (h1 x c e)
   ·rcases look x c e1 with ⟨a1,b1⟩ | a1 <;> rcases look y c e2 with ⟨a2,b2⟩ | a2
    ·rw [a1,a2]
    ·have:=h1 y c a2
     rw [b1] at this
     exact absurd this (Nat.lt_irrefl n)
    ·have:=h1 x c a1
     rw [b2] at this
     exact absurd this (Nat.lt_irrefl n)
    ·exact h2 x y c a1 a2
  ·exact WN r n acc h1 h2
theorem YT {x:Str} {c:Addr}:∀ (names:List (Str × NameKind)) (h:Heap) (acc:List (Str × Addr)),(cellsFrom h.objs.size names acc).lookup x=some c->acc.lookup x=some c\/(pushCells h names).IsCell c none
 | [],_,_,e=>.inl e
 | (y,k) :: r,h,acc,e=>by
  unfold cellsFrom at e
  unfold pushCells
  split at e
  ·rename_i hk
   rw [if_pos hk]
   have q:=YT (x:=x) (c:=c) r (h.push { cls:=.type "cell",data:=.cell none }) ((y,h.objs.size) :: acc) (by rw [Heap.size_push]; exact e)
   rcases q with q | q
   ·rw [List.lookup_cons] at q
    cases z:x == y with
    | true=>
     simp only [z] at q
     cases q
     exact .inr ⟨_,pushCells_keeps r _ _ _ (Heap.get?_push_size _ rfl),rfl⟩
    | false=>
     simp only [z] at q
     exact .inl q
   ·exact .inr q
  ·rename_i hk
   rw [if_neg hk]
   exact YT r h acc e
theorem qQ:∀ {l:List (Str × NameKind)} {x:Str} {k:NameKind},(l.map (·.1)).Nodup->(x,k)∈l->l.lookup x=some k
 | [],_,_,_,h=>by cases h
 | (y,j) :: r,x,k,nd,h=>by
  rw [List.map_cons,List.nodup_cons] at nd
  rw [List.lookup_cons]
  rcases List.mem_cons.mp h with e | h
  ·cases e
   rw [beq_self_eq_true]
  ·have ne:(x == y)=false:=by
    cases q:x == y with
    | false=>rfl
    | true=>exact absurd (by rw [<- eq_of_beq q]; exact List.mem_map.mpr ⟨(x,k),h,rfl⟩) nd.1
   simp only [ne]
   exact qQ nd.2 h
theorem Qy {M:Model} {A:Around} {E:Value->Shared->Prop} {s:Shared} {scope:Scope} {globals:Addr} {closure:List (Str × Addr)} {qual:Str} {func:Option Addr} {code:Value} {env:Env} {builtins:Addr} {Q:Env->Shared->Prop}
  (h:Q (newEnv scope s.heap.objs.size globals (cellsFrom (s.heap.objs.size + 1) scope.names closure) qual func code (some env) builtins) { s with heap:=pushCells (s.heap.push { cls:=.type "dict",data:=.dict #[] }) scope.names }) :
  wpAny M A (newFunctionEnv scope globals closure [] qual func code (some env) builtins) Q E s:=by
 simp only [newFunctionEnv,Option.isSome_some,if_true]
 refine wpAny_bind (wpAny_alloc ?_)
 refine wpAny_bind (wpAny_layCells _ (λname kind cells=>by cases hkc:kind == NameKind.cell <;> simp [hkc]) _ _ _ _ ?_)
 rw [show ({ s with heap:=s.heap.push { cls:=.type "dict",data:=.dict #[] } }:Shared).heap.objs.size=s.heap.objs.size + 1 from Heap.size_push ..]
 simp only [List.forIn_nil]
 exact wpAny_bind (wpAny_pure (wpAny_pure h))
abbrev yK (X:Cx) (scope:Scope) (N:List Str) (C:Addr) (s₀:Shared) (H₀:Hp) (ex:List Addr):Cx:=
 { X with N:=N,s₀:=s₀,H₀:=H₀,env:=compEnvC scope (cellsFrom (C + 1) scope.names (xo scope X.env)) C X.env,outer:=X.stack,ex:=ex,fn:=λx=>scope.names.lookup x == some .cell,pn:=[],xe:=λ_ _=>False }
structure wx (X:Cx) (scope:Scope) (own:List Str) (caps:List (Nat × Str)):Prop where
 kind:scope.kind=.function
 nod:(scope.names.map (·.1)).Nodup
 locs:∀ y∈scope.names,y.2=.local->scope.names.lookup y.1=some .local
 free:∀ y∈scope.names,y.2=.free->(X.env.cells.lookup y.1).isSome=true
 caps:∀ p∈caps,X.N[p.1]? = some p.2/\scope.names.lookup p.2=some .free/\(X.env.kindOf p.2=some .cell\/X.env.kindOf p.2=some .free)
section
variable {X:Cx} {scope:Scope} {own:List Str} {caps:List (Nat × Str)} {pins:List (Addr × Obj)} {σ:St} {H:Hp} {s s4:Shared} {C D:Addr} {fp:List Addr}
theorem qR (B:wx X scope own caps) {x:Str} {c n:Nat} (e:(cellsFrom n scope.names (xo scope X.env)).lookup x=some c):((x,NameKind.cell)∈scope.names/\n<=c)\/X.env.cells.lookup x=some c:=
 (YS _ _ _ e).imp id λz=>(jV B.free z).1
theorem WO (I:zD X pins σ H s) {x:Str} {c:Addr} (e:X.env.cells.lookup x=some c):c < s.heap.objs.size:=by
 obtain ⟨v,o,ho,_⟩:=I.cell x c e
 exact Heap.lt_size ho
theorem zNx (B:wx X scope own caps) (I:zD X pins σ H s) (hf:∀ b∈fp,zv X pins H b) (hC:s.heap.objs.size<=C) (hlt:∀ b∈fp,b < s.heap.objs.size):(yK X scope (zW own caps) C s H fp).Ok where
 mod:=I.ok.mod
 kind:=B.kind
 glob:=I.ok.glob
 blt:=I.ok.blt
 above:=hC
 inj:=WN _ _ _ (λx c e=>Nat.lt_of_lt_of_le (WO I (jV B.free e).1) (Nat.le_succ_of_le hC)) λx y c h1 h2=>I.ok.inj x y c (jV B.free h1).1 (jV B.free h2).1
 has:=λx h=>by
  have fr:(x,NameKind.free)∈scope.names->∃ c,(cellsFrom (C + 1) scope.names (xo scope X.env)).lookup x=some c:=λz=>by
   obtain ⟨c,e⟩:=WJ (env:=X.env) z
   exact Option.isSome_iff_exists.mp (PySem.W.cellsFrom_some _ _ _ (.inr (by rw [e]; rfl)))
  have ce:(x,NameKind.cell)∈scope.names->∃ c,(cellsFrom (C + 1) scope.names (xo scope X.env)).lookup x=some c:=λz=>
   Option.isSome_iff_exists.mp (PySem.W.cellsFrom_some _ _ _ (.inl (qQ B.nod z)))
  rcases h with h | h
  ·rcases Qi (show (relabel scope X.env).names.lookup x=some .cell from h) with ⟨_,z | z⟩ | z
   ·exact fr z
   ·exact ce z
   ·exact ce z
  ·rcases Qi (show (relabel scope X.env).names.lookup x=some .free from h) with ⟨z,_⟩ | z
   ·cases z
   ·exact fr z
 cab:=λx c h e=>by
  have hx:scope.names.lookup x=some .cell:=eq_of_beq h
  rcases YS _ _ _ e with ⟨_,z⟩ | z
  ·exact Nat.le_trans hC (Nat.le_of_succ_le z)
  ·have:=qQ B.nod (jV B.free z).2
   rw [hx] at this
   cases this
 hd:=I.ok.hd
 frames:=I.ok.frames
 stk:=.inl rfl
 exf:=λb hb=>⟨λe=>by have:=hlt b hb; rw [e] at this; exact absurd (Nat.lt_of_lt_of_le this hC) (Nat.lt_irrefl _),λx c e=>by
  rcases qR B e with ⟨_,z⟩ | z
  ·exact jW (hlt b hb) hC z
  ·exact (hf b hb).2.2.2.2.1 x c z⟩
 bs:=I.bs
 bsz:=Nat.le_trans I.ok.bsz I.sz
 noex:=λb o e hb=>by
  rcases (hf b hb).2.2.2.1 with z | z
  ·exact I.ok.noex b o e z
  ·exact absurd (Nat.lt_of_lt_of_le (Heap.lt_size e) (Nat.le_trans I.ok.bsz z)) (Nat.lt_irrefl _)
 exfs:=λb hb z=>by
  rcases List.mem_cons.mp (I.stkSub b z) with e | z
  ·exact (hf b hb).2.1 e
  ·exact (hf b hb).2.2.1 z
 funs:=I.stack
 frf:=I.stkFree
theorem Qz (B:wx X scope own caps) (I:zD X pins σ H s) (hf:∀ b∈fp,zv X pins H b) (hC:s.heap.objs.size<=C) (hlt:∀ b∈fp,b < s.heap.objs.size)
  {m:Str->Option Value} (hn:s4.heap.Ns C m) (hk:∀ b o,s.heap.get? b=some o->s4.heap.get? b=some o) (hcell:∀ x c,(cellsFrom (C + 1) scope.names (xo scope X.env)).lookup x=some c->(xo scope X.env).lookup x=some c\/s4.heap.IsCell c none) (ho:s4.os=s.os) (hb:AllBare s4.gens) :
  zD (yK X scope (zW own caps) C s H fp) [] (xq own caps σ) H s4 where
 ok:=zNx B I hf hC hlt
 os:=ho
 bare:=hb
 base:=Un.kept hk
 loc:=⟨m,hn,λi x v h1 h2 h3=>by
  obtain ⟨j,hm,hs⟩:=zL6 h1 h2
  obtain ⟨c1,c2,c3⟩:=B.caps _ hm
  obtain ⟨m',_,hl⟩:=I.loc
  have vis:qF X.env.scope x:=c3.elim (λz=>.inr (.inl z)) λz=>.inr (.inr z)
  obtain ⟨u,r,l⟩:=hl j x v c1 hs vis
  refine ⟨u,r,.inr ?_⟩
  have hm2:(x,NameKind.free)∈scope.names:=qO c2
  obtain ⟨c',hc'⟩:=WJ (env:=X.env) hm2
  have hc2:=(jV B.free hc').1
  have noc:(x,NameKind.cell)∉scope.names:=λz=>by
   have:=qQ B.nod z
   rw [c2] at this
   cases this
  refine ⟨?_,c',(WM _ _ _ noc).trans hc',?_⟩
  ·show (relabel scope X.env).names.lookup x=some .cell\/(relabel scope X.env).names.lookup x=some .free
   rw [Ql,c2,Option.map_some]
   split
   ·exact .inl rfl
   ·exact .inr rfl
  ·rcases l with ⟨k,_⟩ | ⟨_,c,e,z⟩
   ·rcases c3 with c3 | c3 <;> rw [c3] at k <;> cases k
   ·rw [hc2] at e
    cases e
    obtain ⟨o,e1,e2⟩:=z
    exact ⟨o,hk _ o e1,e2⟩⟩
 cell:=λx c e=>by
  rcases hcell x c e with z | z
  ·obtain ⟨v,o,e1,e2⟩:=I.cell x c (jV B.free z).1
   exact ⟨v,o,hk _ o e1,e2⟩
  ·exact ⟨none,z⟩
 free:=I.hok.fresh hC
 freeC:=λx c e=>by
  rcases qR B e with ⟨_,z⟩ | z
  ·exact I.hok.fresh (Nat.le_trans hC (Nat.le_of_succ_le z))
  ·exact I.freeC x c z
 pin:=λp hp=>by simp at hp
 hok:=I.hok.kept hk
 len:=by
  show (xq own caps σ).length=(zW own caps).length
  unfold xq zW
  simp
end
section
variable {X:Cx} {scope:Scope} {own:List Str} {caps:List (Nat × Str)} {elt tg iter cond:Expr} {wi:TI} {g:TG} {tc:TT} {te:TE} {pos:Pos}
theorem Q0 {pins:List (Addr × Obj)} {σ:St} {H2:Hp} {s2:Shared} {it:Addr} {fp:List Addr} {tn:Nat->Heap->Prop} {J:It} {W:Nat->Nat->List V->St->Hp->Prop} {m0:Nat} {Q:VK} {E:Value->Shared->Prop} {RR:Value->Addr->Result->Shared->Prop}
  (B:wx X scope own caps) (hc:X.calm=true) (hg:∀ C s₀ H₀ ex,PG (yK X scope (zW own caps) C s₀ H₀ ex) tg g) (he:∀ C s₀ H₀ ex,PE (yK X scope (zW own caps) C s₀ H₀ ex) elt te)
  (I2:zD X pins σ H2 s2) (T:xF X.prog X.w X.K tg J fp it tn) (st2:tn 0 s2.heap) (f2:∀ b∈fp,zv X pins H2 b) (w0:W 0 m0 [] (xq own caps σ) H2)
  (turn:∀ i m ys σ1 H,W i m ys σ1 H->(J.stop i H/\∀ p,H p=none->Q (.ref p) (upd H p (.lst ys)))∨
   (J.go i H/\ys.length < sizeLine/\∃ N:V->St->Hp->Prop,(∀ y σ' H',N y σ' H'->∃ m',m' < m/\W (i + 1) m' (ys++[y]) σ' H')/\∀ x H',J.yld i H x H'->g x σ1 H' λσ2 H2=>te σ2 H2 λy H3=>N y σ2 H3))
  (hRR:∀ D C s6 H6 ys m,s6.heap.Ns C m->s2.heap.objs.size<=C->(∀ h',Heap.SameBut C s6.heap h'->zD X pins σ (upd H6 D (.lst ys)) { s6 with heap:=h' })->upd H6 D (.lst ys) C=none->Q (.ref D) (upd H6 D (.lst ys))->RR (.ref D) C (.ok .next) s6) :
  wpAny (model X.prog X.w) X.A (newList []) (λacc s3=>wpAny (model X.prog X.w) X.A (newFunctionEnv scope X.env.globals (xo scope X.env) [] X.env.qual none .none (some X.env)) (λcenv s4=>
   codeAny (model X.prog X.w) X.A (.compStart (.ListComp elt [⟨tg,iter,[],0⟩] scope pos) 0 (.ref it) acc { cenv with scope:=relabel scope X.env }) (RR acc cenv.locals) s4) E s3) E s2:=by
 have hlt:∀ b∈fp,b < s2.heap.objs.size:=λb hb=>by
  obtain ⟨o,ho,_⟩:=T.obj _ _ st2 b hb
  exact Heap.lt_size ho
 refine wpAny_newObj_type (Qy ?_)
 dsimp only
 generalize hP:s2.heap.push { cls:=.type "list",dict:=none,data:=.seq ([]:List Value).toArray }=HD
 have hns:(pushCells (HD.push { cls:=.type "dict",data:=.dict #[] }) scope.names).Ns HD.objs.size (λ_=>none):=(Heap.Ns.new HD (.type "dict")).keeps (pushCells_keeps _ _)
 have hkp:∀ b o,HD.get? b=some o->(pushCells (HD.push { cls:=.type "dict",data:=.dict #[] }) scope.names).get? b=some o:=λb o e=>pushCells_keeps _ _ b o (Heap.get?_push_of_some _ e)
 have hcell:∀ x c,(cellsFrom (HD.objs.size + 1) scope.names (xo scope X.env)).lookup x=some c->(xo scope X.env).lookup x=some c\/(pushCells (HD.push { cls:=.type "dict",data:=.dict #[] }) scope.names).IsCell c none:=λx c e=>
  YT _ _ _ (by rw [Heap.size_push]; exact e)
 generalize hP4:pushCells (HD.push { cls:=.type "dict",data:=.dict #[] }) scope.names=h4 at hns hkp hcell |-
 have hCD:HD.objs.size=s2.heap.objs.size + 1:=by rw [<- hP,Heap.size_push]
 have hDC:s2.heap.objs.size≠HD.objs.size:=by omega
 have hle:s2.heap.objs.size<=HD.objs.size:=by omega
 have old:∀ b o,s2.heap.get? b=some o->h4.get? b=some o:=λb o eb=>hkp b o (by rw [<- hP]; exact Heap.get?_push_of_some _ eb)
 have hD4:h4.get? s2.heap.objs.size=some { cls:=.type "list",data:=.seq ([]:List Value).toArray 0 }:=hkp _ _ (by rw [<- hP]; exact Heap.get?_push_size _ rfl)
 have IY:zD (yK X scope (zW own caps) HD.objs.size s2 H2 fp) [] (xq own caps σ) H2 { s2 with heap:=h4 }:=
  Qz B I2 f2 (by omega) hlt hns old hcell rfl I2.bare
 have stat:∀ {H':Hp},(∀ b∈fp,H' b=none)->∀ b∈fp,zv (yK X scope (zW own caps) HD.objs.size s2 H2 fp) [] H' b:=λ{H'} hn b hb=>by
  have hb2:=hlt b hb
  refine ⟨hn b hb,?_,λz=>?_,.inl hb,λx c ec=>(match qR B ec with | .inl z=>jW hb2 hle z.2 | .inr z=>(f2 b hb).2.2.2.2.1 x c z),λp hp=>by simp at hp⟩
  ·exact Nat.ne_of_lt (Nat.lt_of_lt_of_le hb2 hle)
  ·rcases List.mem_cons.mp (I2.stkSub b z) with e | z
   ·exact (f2 b hb).2.1 e
   ·exact (f2 b hb).2.2.1 z
 have statD:∀ {H':Hp},H' s2.heap.objs.size=none->zv (yK X scope (zW own caps) HD.objs.size s2 H2 fp) [] H' s2.heap.objs.size:=λ{H'} hn=>by
  refine ⟨hn,hDC,λz=>?_,.inr (Nat.le_refl _),λx c ec z=>?_,λp hp=>by simp at hp⟩
  ·obtain ⟨_,o,ho,_⟩:=I2.stack.mem z
   exact absurd (Heap.lt_size ho) (Nat.lt_irrefl _)
  ·rcases qR B ec with ⟨_,y⟩ | y
   ·exact gf hCD y z
   ·have:=WO I2 y
    rw [z] at this
    exact Nat.lt_irrefl _ this
 have vg:∀ b∈fp,b≠s2.heap.objs.size:=λb hb=>Nat.ne_of_lt (hlt b hb)
 have IY':zD (yK X scope (zW own caps) HD.objs.size s2 H2 fp) [(s2.heap.objs.size,yS [] 0)] (xq own caps σ) H2 { s2 with heap:=h4 }:=
  IY.pins_of λp hp=>by
   rw [List.mem_singleton.mp hp]
   have z:=statD (I2.hok.fresh (Nat.le_refl _))
   exact ⟨hD4,z.1,z.2.1,z.2.2.1,λv z=>by cases z⟩
 have loop:∀ s3:Shared,s3={ s2 with heap:=h4 }->
   codeAny (model X.prog X.w) X.A (.compLoop (.ListComp elt [⟨tg,iter,[],0⟩] scope pos) 0 (.ref it) (.ref s2.heap.objs.size) (compEnvC scope (cellsFrom (HD.objs.size + 1) scope.names (xo scope X.env)) HD.objs.size X.env))
    (RR (.ref s2.heap.objs.size) HD.objs.size) s3:=by
  rintro s3 rfl
  refine zI2 (λn s'=>∃ i ys σ' H' its k,zD (yK X scope (zW own caps) HD.objs.size s2 H2 fp) [(s2.heap.objs.size,yS its k)] σ' H' s'/\tn i s'.heap/\(∀ b∈fp,H' b=none)∧
   zK ys its/\ys.length<=sizeLine/\W i n ys σ' H') ?_ m0 ⟨0,[],_,H2,[],0,IY',T.keep _ _ _ st2 λb hb o eb=>old b o eb,λb hb=>(f2 b hb).1,.nil,Nat.zero_le _,w0⟩
  rintro n s5 ⟨i,ys,σ5,H5,its,k,I5,st5,fr5,rv5,hz5,w5⟩
  have stat5:∀ {H':Hp},(∀ b∈fp,H' b=none)->∀ b∈fp,zv (yK X scope (zW own caps) HD.objs.size s2 H2 fp) [(s2.heap.objs.size,yS its k)] H' b:=λ{H'} hn b hb=>by
   obtain ⟨a1,a2,a3,a4,a5,_⟩:=stat hn b hb
   refine ⟨a1,a2,a3,a4,a5,λp hp=>?_⟩
   have hp':p∈[(s2.heap.objs.size,yS its k)]:=hp
   rw [List.mem_singleton.mp hp']
   exact Ne.symm (vg b hb)
  rcases turn i n ys σ5 H5 w5 with ⟨stop,qn⟩ | ⟨go,hlen,N,hN,step⟩
  ·refine zb (T.done (yK X scope (zW own caps) HD.objs.size s2 H2 fp) rfl rfl rfl hc i _ s5 σ5 H5 _ I5 (stat5 fr5) st5 stop) λr s6 ⟨hr,I6⟩=>?_
   subst hr
   obtain ⟨pD1,pD2,_⟩:=I6.pin (s2.heap.objs.size,yS its k) (List.mem_append_right _ List.mem_cons_self)
   obtain ⟨m6,hn6,_⟩:=I6.loc
   refine hRR _ _ s6 H5 ys m6 hn6 (by omega) (λh' sb=>?_) (by rw [zh (Ne.symm hDC)]; exact I6.free) (qn _ pD2)
   have hC5:H5 HD.objs.size=none:=I6.free
   have nb:∀ b o,s2.heap.get? b=some o->b≠HD.objs.size/\b≠s2.heap.objs.size:=λb o eb=>by
    have hb:=Heap.lt_size eb
    exact ⟨Nat.ne_of_lt (Nat.lt_of_lt_of_le hb hle),Nat.ne_of_lt hb⟩
   have nt:∀ b o,H5 b=some o->b≠s2.heap.objs.size:=λb o eb z=>by rw [z] at eb; rw [show H5 s2.heap.objs.size=none from pD2] at eb; cases eb
   have un:Un (xg X.stack) fp H2 (upd H5 s2.heap.objs.size (.lst ys)) s2.heap h':=
    ⟨λb o eb n1 n2 n3=>sb.extBut b o (nb b o eb).1 (I6.base.keep b o eb n1 n2 n3),
     λb o eb n1 n2 n3=>by
      obtain ⟨sl,e1⟩:=I6.base.slot b o eb n1 n2 n3
      exact ⟨sl,sb.extBut b _ (nb b o eb).1 e1⟩,
     λb o eb n1 n3=>by
      rw [zh (nb b o eb).2]
      exact I6.base.free b o eb n1 n3,
     λb o eb n3=>by
      obtain ⟨o',e1⟩:=I6.base.there b o eb n3
      exact ⟨o',sb.extBut b _ (nb b o eb).1 e1⟩,
     λb xs eb=>by
      have e1:=I6.base.tups b xs eb
      rw [zh (nt b _ e1)]
      exact e1,
     λb o u eb=>by
      have e1:=I6.base.frzs b o u eb
      rw [zh (nt b _ e1)]
      exact e1,
     λb ps eb=>by
      obtain ⟨more,e1⟩:=I6.base.tbls b ps eb
      refine ⟨more,?_⟩
      rw [zh (nt b _ e1)]
      exact e1⟩
   have ok5:yh X.prog X.w (upd H5 s2.heap.objs.size (.lst ys)) h':=λb u eb=>by
    by_cases hb:b=s2.heap.objs.size
    ·subst hb
     rw [xB] at eb
     cases eb
     exact ⟨hz5,its,k,rv5,sb.extBut _ _ hDC pD1⟩
    ·rw [zh hb] at eb
     refine (I6.hok b u eb).stay (λc v hcv ev=>sb.extBut c v ?_ ev) (λc ec=>by rw [zh (nt c _ ec)]; exact ec) λc xs ec=>by rw [zh (nt c _ ec)]; exact ec
     rintro rfl
     rcases hcv with z | z
     ·rw [<- z,hC5] at eb
      cases eb
     ·rw [hC5] at z
      cases z
   exact I2.call' (s':={ s6 with heap:=h' }) (ch:=fp) I6.os un ok5 I6.bare λb hb=>⟨(f2 b hb).2.2.2.1,(f2 b hb).2.1,(f2 b hb).2.2.2.2.1,(f2 b hb).2.2.2.2.2⟩
  ·refine zb (T.item (yK X scope (zW own caps) HD.objs.size s2 H2 fp) rfl rfl rfl hc i _ s5 σ5 H5 _ I5 (stat5 fr5) st5 go) λr s6 ⟨u,hr,h6⟩=>?_
   subst hr
   refine zb h6 λ_ s7 ⟨x,H7,I7,r7,y7,st7,fr7⟩=>?_
   have I7':=I7.pinned (stat5 fr7) (T.obj _ _ st7)
   refine zb (hg HD.objs.size s2 H2 fp _ s7 σ5 H7 x u _ I7' r7 (step x H7 y7)) λ_ s8 ⟨σ8,H8,I8,q8⟩=>?_
   refine zb (he HD.objs.size s2 H2 fp _ s8 σ8 H8 _ I8 q8) λyv s9 ⟨y,H9,I9,r9,n9⟩=>?_
   obtain ⟨m',hm',w9⟩:=hN y σ8 H9 n9
   have pD9:=(I9.pin (s2.heap.objs.size,yS its k) (List.mem_append_right _ (List.mem_append_left _ List.mem_cons_self))).2.1
   have hl:its.length=ys.length:=rv5.length.symm
   refine Qo (Y:=yK X scope (zW own caps) HD.objs.size s2 H2 fp) (its:=its) (k:=k) (pl:=qH fp s7.heap) I9 (statD pD9) rfl (by omega) λh' k' tk keep I'=>?_
   refine ⟨m',hm',i + 1,ys++[y],σ8,H9,its++[yv],k',I',?_,λb hb=>?_,rv5.append (.cons r9 .nil),?_,w9⟩
   ·refine T.keep _ _ _ st7 λb hb o eb=>keep b o (vg b hb) ?_
    exact (I9.pin (b,o) (List.mem_append_right _ (List.mem_append_right _ (uz hb eb)))).1
   ·obtain ⟨o,eb,_⟩:=T.obj _ _ st7 b hb
    exact (I9.pin (b,o) (List.mem_append_right _ (List.mem_append_right _ (uz hb eb)))).2.1
   ·rw [List.length_append,List.length_singleton]
    omega
 exact codeAny_compStart_list (loop _ rfl) (T.self _ 0 _ _ _ (T.keep _ _ _ st2 λb hb o eb=>old b o eb) (loop _ rfl))
theorem zLX (B:wx X scope own caps) (hc:X.calm=true) (hi:PI X tg iter wi) (hg:∀ C s₀ H₀ ex,PG (yK X scope (zW own caps) C s₀ H₀ ex) tg g)
  (he:∀ C s₀ H₀ ex,PE (yK X scope (zW own caps) C s₀ H₀ ex) elt te) (hs:∀ x,foldedSetIterable iter X.env x=pure x:=by intro _; rfl) :
  PE X (.ListComp elt [⟨tg,iter,[],0⟩] scope pos) (Qn own caps wi g te):=by
 intro pins s σ H Q I h
 rw [eval_ListComp]
 refine wpAny_comprehension_free (use:=none) rfl hs (WI B.free) B.kind B.locs ?_
 refine zb (hi pins s σ H _ I h) λxv s1 h1=>zb h1 λitv s2 h2=>?_
 obtain ⟨it,fp,tn,J,H2,e,I2,T,st2,f2,W,⟨m0,w0⟩,turn⟩:=h2
 subst e
 refine Q0 (RR:=λacc C=>compPost (model X.prog X.w) X.A X.xe none (EP X pins σ Q) acc C) B hc hg he I2 T st2 f2 w0 turn λD C s6 H6 ys m hn hC J6 hC6 q=>?_
 exact ⟨m,hn,λh' sb=>⟨.ref D,_,J6 h' sb,rfl,q⟩⟩
theorem zLO {i:Nat} {y:Str} {py spos:Pos} (hN:X.N.Nodup) (hy:X.N[i]? = some y) (hl:X.env.scope.names.lookup y=some .local) (B:wx X scope own caps) (hc:X.calm=true) (hi:PI X tg iter wi) (hg:∀ C s₀ H₀ ex,PG (yK X scope (zW own caps) C s₀ H₀ ex) tg g)
  (he:∀ C s₀ H₀ ex,PE (yK X scope (zW own caps) C s₀ H₀ ex) elt te) (hsw:swapsWith (.ListComp elt [⟨tg,iter,[],0⟩] scope pos) (some (.Name y py)) spos.line X.env=pure true) (hs:∀ x,foldedSetIterable iter X.env x=pure x:=by intro _; rfl) :
  PS X (.Assign [.Name y py] (.ListComp elt [⟨tg,iter,[],0⟩] scope pos) spos) (wp (Qn own caps wi g te) (gA i)):=by
 intro pins s σ H D0 I h
 rw [exec_Assign_Name_used _ _ _ _ hsw]
 refine wpAny_bind (wpAny_standAt (wpAny_bind ?_))
 change wpAny _ X.A (do let _ <- comprehension (.ListComp elt [⟨tg,iter,[],0⟩] scope pos) scope X.env _ (newList []) false (eval iter X.env) (some (assign (.Name y py) X.env))) _ _ s
 refine wpAny_bind (wpAny_mono (wpAny_comprehension_free (use:=some (assign (.Name y py) X.env)) (Q:=λ_ s'=>SP X pins D0 .next s') rfl hs (WI B.free) B.kind B.locs ?_) (λ_ s' hq=>wpAny_pure (wpAny_pure hq)) λ_ _ e=>e)
 refine zb (hi pins s σ H _ I h) λxv s1 h1=>zb h1 λitv s2 h2=>?_
 obtain ⟨it,fp,tn,J,H2,e,I2,T,st2,f2,W,⟨m0,w0⟩,turn⟩:=h2
 subst e
 refine Q0 (Q:=λx H1=>D0.nx (σ.set i (some x)) H1) (RR:=λacc C=>compPost (model X.prog X.w) X.A X.xe (some (assign (.Name y py) X.env)) (λ_ s'=>SP X pins D0 .next s') acc C) B hc hg he I2 T st2 f2 w0 turn λD C s6 H6 ys m hn hC J6 hC6 q=>?_
 have I6:zD X pins σ (upd H6 D (.lst ys)) s6:=J6 s6.heap (.refl ..)
 have CL:C≠X.env.locals:=λz=>by rw [z] at hC; exact absurd (Nat.lt_of_lt_of_le I2.lt hC) (Nat.lt_irrefl _)
 have CC:∀ x c,X.env.cells.lookup x=some c->c≠C:=λx c ec z=>by
  obtain ⟨v,o,ho,_⟩:=I2.cell x c ec
  rw [z] at ho
  exact absurd (Nat.lt_of_lt_of_le (Heap.lt_size ho) hC) (Nat.lt_irrefl _)
 have CP:∀ p∈X.pn++pins,p.1≠C:=λp hp z=>by
  have hl:=Heap.lt_size (I2.pin p hp).1
  rw [z] at hl
  exact absurd (Nat.lt_of_lt_of_le hl hC) (Nat.lt_irrefl _)
 change wpAny _ X.A (assign (.Name y py) X.env (.ref D)) _ _ s6
 refine wpAny_assign_Name (Xj I6 hN hy (.inl hl) (v:=.ref D) rfl (λs7 I7 ⟨a,sb,ha⟩=>?_) (.inr hl))
 have aC:C≠a:=λz=>by
  rcases ha with e | e
  ·exact CL (z.trans e)
  ·exact CC _ _ e z.symm
 refine ⟨m,hn.sameBut sb aC,λh' sb'=>⟨_,_,I7.turned (h':=h') (t':=s7.toks) (it:=C) (λb o hb eb=>sb'.extBut b o hb eb) hC6 CL (.inr (Nat.le_trans I2.sz hC)) CC CP,q⟩⟩
theorem zHc {pins:List (Addr × Obj)} {σ:St} {H2:Hp} {s2:Shared} {it:Addr} {fp:List Addr} {tn:Nat->Heap->Prop} {J:It} {W:Nat->Nat->List V->St->Hp->Prop} {m0:Nat} {Q:VK} {E:Value->Shared->Prop} {RR:Value->Addr->Result->Shared->Prop}
  (B:wx X scope own caps) (hc:X.calm=true) (hg:∀ C s₀ H₀ ex,PG (yK X scope (zW own caps) C s₀ H₀ ex) tg g) (ht:∀ C s₀ H₀ ex,PT (yK X scope (zW own caps) C s₀ H₀ ex) cond tc) (he:∀ C s₀ H₀ ex,PE (yK X scope (zW own caps) C s₀ H₀ ex) elt te)
  (I2:zD X pins σ H2 s2) (T:xF X.prog X.w X.K tg J fp it tn) (st2:tn 0 s2.heap) (f2:∀ b∈fp,zv X pins H2 b) (w0:W 0 m0 [] (xq own caps σ) H2)
  (turn:∀ i m ys σ1 H,W i m ys σ1 H->(J.stop i H/\∀ p,H p=none->Q (.ref p) (upd H p (.lst ys)))∨
   (J.go i H/\ys.length < sizeLine/\∃ (N:V->St->Hp->Prop) (N0:St->Hp->Prop),(∀ y σ' H',N y σ' H'->∃ m',m' < m/\W (i + 1) m' (ys++[y]) σ' H')/\(∀ σ' H',N0 σ' H'->∃ m',m' < m/\W (i + 1) m' ys σ' H')∧
    ∀ x H',J.yld i H x H'->g x σ1 H' λσ2 H2=>tc σ2 H2 λb H3=>if b=true then te σ2 H3 λy H4=>N y σ2 H4 else N0 σ2 H3))
  (hRR:∀ D C s6 H6 ys m,s6.heap.Ns C m->s2.heap.objs.size<=C->(∀ h',Heap.SameBut C s6.heap h'->zD X pins σ (upd H6 D (.lst ys)) { s6 with heap:=h' })->upd H6 D (.lst ys) C=none->Q (.ref D) (upd H6 D (.lst ys))->RR (.ref D) C (.ok .next) s6) :
  wpAny (model X.prog X.w) X.A (newList []) (λacc s3=>wpAny (model X.prog X.w) X.A (newFunctionEnv scope X.env.globals (xo scope X.env) [] X.env.qual none .none (some X.env)) (λcenv s4=>
   codeAny (model X.prog X.w) X.A (.compStart (.ListComp elt [⟨tg,iter,[cond],0⟩] scope pos) 0 (.ref it) acc { cenv with scope:=relabel scope X.env }) (RR acc cenv.locals) s4) E s3) E s2:=by
 have hlt:∀ b∈fp,b < s2.heap.objs.size:=λb hb=>by
  obtain ⟨o,ho,_⟩:=T.obj _ _ st2 b hb
  exact Heap.lt_size ho
 refine wpAny_newObj_type (Qy ?_)
 dsimp only
 generalize hP:s2.heap.push { cls:=.type "list",dict:=none,data:=.seq ([]:List Value).toArray }=HD
 have hns:(pushCells (HD.push { cls:=.type "dict",data:=.dict #[] }) scope.names).Ns HD.objs.size (λ_=>none):=(Heap.Ns.new HD (.type "dict")).keeps (pushCells_keeps _ _)
 have hkp:∀ b o,HD.get? b=some o->(pushCells (HD.push { cls:=.type "dict",data:=.dict #[] }) scope.names).get? b=some o:=λb o e=>pushCells_keeps _ _ b o (Heap.get?_push_of_some _ e)
 have hcell:∀ x c,(cellsFrom (HD.objs.size + 1) scope.names (xo scope X.env)).lookup x=some c->(xo scope X.env).lookup x=some c\/(pushCells (HD.push { cls:=.type "dict",data:=.dict #[] }) scope.names).IsCell c none:=λx c e=>
  YT _ _ _ (by rw [Heap.size_push]; exact e)
 generalize hP4:pushCells (HD.push { cls:=.type "dict",data:=.dict #[] }) scope.names=h4 at hns hkp hcell |-
 have hCD:HD.objs.size=s2.heap.objs.size + 1:=by rw [<- hP,Heap.size_push]
 have hDC:s2.heap.objs.size≠HD.objs.size:=by omega
 have hle:s2.heap.objs.size<=HD.objs.size:=by omega
 have old:∀ b o,s2.heap.get? b=some o->h4.get? b=some o:=λb o eb=>hkp b o (by rw [<- hP]; exact Heap.get?_push_of_some _ eb)
 have hD4:h4.get? s2.heap.objs.size=some { cls:=.type "list",data:=.seq ([]:List Value).toArray 0 }:=hkp _ _ (by rw [<- hP]; exact Heap.get?_push_size _ rfl)
 have IY:zD (yK X scope (zW own caps) HD.objs.size s2 H2 fp) [] (xq own caps σ) H2 { s2 with heap:=h4 }:=
  Qz B I2 f2 (by omega) hlt hns old hcell rfl I2.bare
 have stat:∀ {H':Hp},(∀ b∈fp,H' b=none)->∀ b∈fp,zv (yK X scope (zW own caps) HD.objs.size s2 H2 fp) [] H' b:=λ{H'} hn b hb=>by
  have hb2:=hlt b hb
  refine ⟨hn b hb,?_,λz=>?_,.inl hb,λx c ec=>(match qR B ec with | .inl z=>jW hb2 hle z.2 | .inr z=>(f2 b hb).2.2.2.2.1 x c z),λp hp=>by simp at hp⟩
  ·exact Nat.ne_of_lt (Nat.lt_of_lt_of_le hb2 hle)
  ·rcases List.mem_cons.mp (I2.stkSub b z) with e | z
   ·exact (f2 b hb).2.1 e
   ·exact (f2 b hb).2.2.1 z
 have statD:∀ {H':Hp},H' s2.heap.objs.size=none->zv (yK X scope (zW own caps) HD.objs.size s2 H2 fp) [] H' s2.heap.objs.size:=λ{H'} hn=>by
  refine ⟨hn,hDC,λz=>?_,.inr (Nat.le_refl _),λx c ec z=>?_,λp hp=>by simp at hp⟩
  ·obtain ⟨_,o,ho,_⟩:=I2.stack.mem z
   exact absurd (Heap.lt_size ho) (Nat.lt_irrefl _)
  ·rcases qR B ec with ⟨_,y⟩ | y
   ·exact gf hCD y z
   ·have:=WO I2 y
    rw [z] at this
    exact Nat.lt_irrefl _ this
 have vg:∀ b∈fp,b≠s2.heap.objs.size:=λb hb=>Nat.ne_of_lt (hlt b hb)
 have IY':zD (yK X scope (zW own caps) HD.objs.size s2 H2 fp) [(s2.heap.objs.size,yS [] 0)] (xq own caps σ) H2 { s2 with heap:=h4 }:=
  IY.pins_of λp hp=>by
   rw [List.mem_singleton.mp hp]
   have z:=statD (I2.hok.fresh (Nat.le_refl _))
   exact ⟨hD4,z.1,z.2.1,z.2.2.1,λv z=>by cases z⟩
 have loop:∀ s3:Shared,s3={ s2 with heap:=h4 }->
   codeAny (model X.prog X.w) X.A (.compLoop (.ListComp elt [⟨tg,iter,[cond],0⟩] scope pos) 0 (.ref it) (.ref s2.heap.objs.size) (compEnvC scope (cellsFrom (HD.objs.size + 1) scope.names (xo scope X.env)) HD.objs.size X.env))
    (RR (.ref s2.heap.objs.size) HD.objs.size) s3:=by
  rintro s3 rfl
  refine zHb (λn s'=>∃ i ys σ' H' its k,zD (yK X scope (zW own caps) HD.objs.size s2 H2 fp) [(s2.heap.objs.size,yS its k)] σ' H' s'/\tn i s'.heap/\(∀ b∈fp,H' b=none)∧
   zK ys its/\ys.length<=sizeLine/\W i n ys σ' H') ?_ m0 ⟨0,[],_,H2,[],0,IY',T.keep _ _ _ st2 λb hb o eb=>old b o eb,λb hb=>(f2 b hb).1,.nil,Nat.zero_le _,w0⟩
  rintro n s5 ⟨i,ys,σ5,H5,its,k,I5,st5,fr5,rv5,hz5,w5⟩
  have stat5:∀ {H':Hp},(∀ b∈fp,H' b=none)->∀ b∈fp,zv (yK X scope (zW own caps) HD.objs.size s2 H2 fp) [(s2.heap.objs.size,yS its k)] H' b:=λ{H'} hn b hb=>by
   obtain ⟨a1,a2,a3,a4,a5,_⟩:=stat hn b hb
   refine ⟨a1,a2,a3,a4,a5,λp hp=>?_⟩
   have hp':p∈[(s2.heap.objs.size,yS its k)]:=hp
   rw [List.mem_singleton.mp hp']
   exact Ne.symm (vg b hb)
  rcases turn i n ys σ5 H5 w5 with ⟨stop,qn⟩ | ⟨go,hlen,N,N0,hN,hN0,step⟩
  ·refine zb (T.done (yK X scope (zW own caps) HD.objs.size s2 H2 fp) rfl rfl rfl hc i _ s5 σ5 H5 _ I5 (stat5 fr5) st5 stop) λr s6 ⟨hr,I6⟩=>?_
   subst hr
   obtain ⟨pD1,pD2,_⟩:=I6.pin (s2.heap.objs.size,yS its k) (List.mem_append_right _ List.mem_cons_self)
   obtain ⟨m6,hn6,_⟩:=I6.loc
   refine hRR _ _ s6 H5 ys m6 hn6 (by omega) (λh' sb=>?_) (by rw [zh (Ne.symm hDC)]; exact I6.free) (qn _ pD2)
   have hC5:H5 HD.objs.size=none:=I6.free
   have nb:∀ b o,s2.heap.get? b=some o->b≠HD.objs.size/\b≠s2.heap.objs.size:=λb o eb=>by
    have hb:=Heap.lt_size eb
    exact ⟨Nat.ne_of_lt (Nat.lt_of_lt_of_le hb hle),Nat.ne_of_lt hb⟩
   have nt:∀ b o,H5 b=some o->b≠s2.heap.objs.size:=λb o eb z=>by rw [z] at eb; rw [show H5 s2.heap.objs.size=none from pD2] at eb; cases eb
   have un:Un (xg X.stack) fp H2 (upd H5 s2.heap.objs.size (.lst ys)) s2.heap h':=
    ⟨λb o eb n1 n2 n3=>sb.extBut b o (nb b o eb).1 (I6.base.keep b o eb n1 n2 n3),
     λb o eb n1 n2 n3=>by
      obtain ⟨sl,e1⟩:=I6.base.slot b o eb n1 n2 n3
      exact ⟨sl,sb.extBut b _ (nb b o eb).1 e1⟩,
     λb o eb n1 n3=>by
      rw [zh (nb b o eb).2]
      exact I6.base.free b o eb n1 n3,
     λb o eb n3=>by
      obtain ⟨o',e1⟩:=I6.base.there b o eb n3
      exact ⟨o',sb.extBut b _ (nb b o eb).1 e1⟩,
     λb xs eb=>by
      have e1:=I6.base.tups b xs eb
      rw [zh (nt b _ e1)]
      exact e1,
     λb o u eb=>by
      have e1:=I6.base.frzs b o u eb
      rw [zh (nt b _ e1)]
      exact e1,
     λb ps eb=>by
      obtain ⟨more,e1⟩:=I6.base.tbls b ps eb
      refine ⟨more,?_⟩
      rw [zh (nt b _ e1)]
      exact e1⟩
   have ok5:yh X.prog X.w (upd H5 s2.heap.objs.size (.lst ys)) h':=λb u eb=>by
    by_cases hb:b=s2.heap.objs.size
    ·subst hb
     rw [xB] at eb
     cases eb
     exact ⟨hz5,its,k,rv5,sb.extBut _ _ hDC pD1⟩
    ·rw [zh hb] at eb
     refine (I6.hok b u eb).stay (λc v hcv ev=>sb.extBut c v ?_ ev) (λc ec=>by rw [zh (nt c _ ec)]; exact ec) λc xs ec=>by rw [zh (nt c _ ec)]; exact ec
     rintro rfl
     rcases hcv with z | z
     ·rw [<- z,hC5] at eb
      cases eb
     ·rw [hC5] at z
      cases z
   exact I2.call' (s':={ s6 with heap:=h' }) (ch:=fp) I6.os un ok5 I6.bare λb hb=>⟨(f2 b hb).2.2.2.1,(f2 b hb).2.1,(f2 b hb).2.2.2.2.1,(f2 b hb).2.2.2.2.2⟩
  ·refine zb (T.item (yK X scope (zW own caps) HD.objs.size s2 H2 fp) rfl rfl rfl hc i _ s5 σ5 H5 _ I5 (stat5 fr5) st5 go) λr s6 ⟨u,hr,h6⟩=>?_
   subst hr
   refine zb h6 λ_ s7 ⟨x,H7,I7,r7,y7,st7,fr7⟩=>?_
   have I7':=I7.pinned (stat5 fr7) (T.obj _ _ st7)
   refine zb (hg HD.objs.size s2 H2 fp _ s7 σ5 H7 x u _ I7' r7 (step x H7 y7)) λ_ s8 ⟨σ8,H8,I8,q8⟩=>?_
   refine zb (ht HD.objs.size s2 H2 fp _ s8 σ8 H8 _ I8 q8) λok sT ⟨HT,IT,qT⟩=>?_
   cases ok with
   | false=>
    obtain ⟨m',hm',w9⟩:=hN0 σ8 HT qT
    refine ⟨m',hm',i + 1,ys,σ8,HT,its,k,IT.unpinned,?_,λb hb=>?_,rv5,hz5,w9⟩
    ·refine T.keep _ _ _ st7 λb hb o eb=>?_
     exact (IT.pin (b,o) (List.mem_append_right _ (List.mem_append_right _ (uz hb eb)))).1
    ·obtain ⟨o,eb,_⟩:=T.obj _ _ st7 b hb
     exact (IT.pin (b,o) (List.mem_append_right _ (List.mem_append_right _ (uz hb eb)))).2.1
   | true=>
    refine zb (he HD.objs.size s2 H2 fp _ sT σ8 HT _ IT qT) λyv s9 ⟨y,H9,I9,r9,n9⟩=>?_
    obtain ⟨m',hm',w9⟩:=hN y σ8 H9 n9
    have pD9:=(I9.pin (s2.heap.objs.size,yS its k) (List.mem_append_right _ (List.mem_append_left _ List.mem_cons_self))).2.1
    have hl:its.length=ys.length:=rv5.length.symm
    refine Qo (Y:=yK X scope (zW own caps) HD.objs.size s2 H2 fp) (its:=its) (k:=k) (pl:=qH fp s7.heap) I9 (statD pD9) rfl (by omega) λh' k' tk keep I'=>?_
    refine ⟨m',hm',i + 1,ys++[y],σ8,H9,its++[yv],k',I',?_,λb hb=>?_,rv5.append (.cons r9 .nil),?_,w9⟩
    ·refine T.keep _ _ _ st7 λb hb o eb=>keep b o (vg b hb) ?_
     exact (I9.pin (b,o) (List.mem_append_right _ (List.mem_append_right _ (uz hb eb)))).1
    ·obtain ⟨o,eb,_⟩:=T.obj _ _ st7 b hb
     exact (I9.pin (b,o) (List.mem_append_right _ (List.mem_append_right _ (uz hb eb)))).2.1
    ·rw [List.length_append,List.length_singleton]
     omega
 exact codeAny_compStart_list (loop _ rfl) (T.self _ 0 _ _ _ (T.keep _ _ _ st2 λb hb o eb=>old b o eb) (loop _ rfl))
theorem zJY {i:Nat} {y:Str} {py spos:Pos} (hN:X.N.Nodup) (hy:X.N[i]? = some y) (hl:X.env.scope.names.lookup y=some .local) (B:wx X scope own caps) (hc:X.calm=true) (hi:PI X tg iter wi) (hg:∀ C s₀ H₀ ex,PG (yK X scope (zW own caps) C s₀ H₀ ex) tg g)
  (ht:∀ C s₀ H₀ ex,PT (yK X scope (zW own caps) C s₀ H₀ ex) cond tc) (he:∀ C s₀ H₀ ex,PE (yK X scope (zW own caps) C s₀ H₀ ex) elt te) (hsw:swapsWith (.ListComp elt [⟨tg,iter,[cond],0⟩] scope pos) (some (.Name y py)) spos.line X.env=pure true) (hs:∀ x,foldedSetIterable iter X.env x=pure x:=by intro _; rfl) :
  PS X (.Assign [.Name y py] (.ListComp elt [⟨tg,iter,[cond],0⟩] scope pos) spos) (wp (zOL own caps wi g tc te) (gA i)):=by
 intro pins s σ H D0 I h
 rw [exec_Assign_Name_used _ _ _ _ hsw]
 refine wpAny_bind (wpAny_standAt (wpAny_bind ?_))
 change wpAny _ X.A (do let _ <- comprehension (.ListComp elt [⟨tg,iter,[cond],0⟩] scope pos) scope X.env _ (newList []) false (eval iter X.env) (some (assign (.Name y py) X.env))) _ _ s
 refine wpAny_bind (wpAny_mono (wpAny_comprehension_free (use:=some (assign (.Name y py) X.env)) (Q:=λ_ s'=>SP X pins D0 .next s') rfl hs (WI B.free) B.kind B.locs ?_) (λ_ s' hq=>wpAny_pure (wpAny_pure hq)) λ_ _ e=>e)
 refine zb (hi pins s σ H _ I h) λxv s1 h1=>zb h1 λitv s2 h2=>?_
 obtain ⟨it,fp,tn,J,H2,e,I2,T,st2,f2,W,⟨m0,w0⟩,turn⟩:=h2
 subst e
 refine zHc (Q:=λx H1=>D0.nx (σ.set i (some x)) H1) (RR:=λacc C=>compPost (model X.prog X.w) X.A X.xe (some (assign (.Name y py) X.env)) (λ_ s'=>SP X pins D0 .next s') acc C) B hc hg ht he I2 T st2 f2 w0 turn λD C s6 H6 ys m hn hC J6 hC6 q=>?_
 have I6:zD X pins σ (upd H6 D (.lst ys)) s6:=J6 s6.heap (.refl ..)
 have CL:C≠X.env.locals:=λz=>by rw [z] at hC; exact absurd (Nat.lt_of_lt_of_le I2.lt hC) (Nat.lt_irrefl _)
 have CC:∀ x c,X.env.cells.lookup x=some c->c≠C:=λx c ec z=>by
  obtain ⟨v,o,ho,_⟩:=I2.cell x c ec
  rw [z] at ho
  exact absurd (Nat.lt_of_lt_of_le (Heap.lt_size ho) hC) (Nat.lt_irrefl _)
 have CP:∀ p∈X.pn++pins,p.1≠C:=λp hp z=>by
  have hl:=Heap.lt_size (I2.pin p hp).1
  rw [z] at hl
  exact absurd (Nat.lt_of_lt_of_le hl hC) (Nat.lt_irrefl _)
 change wpAny _ X.A (assign (.Name y py) X.env (.ref D)) _ _ s6
 refine wpAny_assign_Name (Xj I6 hN hy (.inl hl) (v:=.ref D) rfl (λs7 I7 ⟨a,sb,ha⟩=>?_) (.inr hl))
 have aC:C≠a:=λz=>by
  rcases ha with e | e
  ·exact CL (z.trans e)
  ·exact CC _ _ e z.symm
 refine ⟨m,hn.sameBut sb aC,λh' sb'=>⟨_,_,I7.turned (h':=h') (t':=s7.toks) (it:=C) (λb o hb eb=>sb'.extBut b o hb eb) hC6 CL (.inr (Nat.le_trans I2.sz hC)) CC CP,q⟩⟩
end
theorem yJ {X:Cx} {scope S:Scope} {own N:List Str} {caps:List (Nat × Str)} (k:scope.kind=.function) (nd:(scope.names.map (·.1)).Nodup)
  (hS:X.env.scope=S) (hc:∃ n,X.env.cells=cellsFrom n S.names []) (hN:X.N=N) (fr:scope.names.all (λy=>y.2 != .free || S.names.lookup y.1 == some .cell)=true)
  (cp:caps.all (λp=>N[p.1]? == some p.2 && scope.names.lookup p.2 == some .free && S.names.lookup p.2 == some .cell)=true):wx X scope own caps:=by
 obtain ⟨nn,hc⟩:=hc
 refine ⟨k,nd,λy hy e=>?_,λy hy e=>?_,λp hp=>?_⟩
 ·exact qQ nd (by rw [<- e]; exact hy)
 ·have q:=List.all_eq_true.mp fr y hy
  rw [e] at q
  have q2:S.names.lookup y.1=some .cell:=by simpa using q
  rw [hc]
  exact PySem.W.cellsFrom_some S.names nn [] (.inl q2)
 ·have q:=List.all_eq_true.mp cp p hp
  simp only [Bool.and_eq_true,beq_iff_eq] at q
  refine ⟨by rw [hN]; exact q.1.1,q.1.2,.inl ?_⟩
  show X.env.scope.names.lookup p.2=some .cell
  rw [hS]
  exact q.2
theorem Q1 {Y:Cx} {scope S:Scope} {own own0:List Str} {caps caps0:List (Nat × Str)} {C:Addr} {s₀:Shared} {H₀:Hp} {ex:List Addr} (k:scope.kind=.function) (nd:(scope.names.map (·.1)).Nodup)
  (ndS:(S.names.map (·.1)).Nodup) (fr:scope.names.all (λy=>y.2 != .free || S.names.lookup y.1 == some .cell || S.names.lookup y.1 == some .free)=true)
  (cp:caps.all (λp=>(zW own0 caps0)[p.1]? == some p.2 && scope.names.lookup p.2 == some .free)=true):wx (yK Y S (zW own0 caps0) C s₀ H₀ ex) scope own caps:=by
 have fr':∀ y∈scope.names,y.2=.free->S.names.lookup y.1=some .cell\/S.names.lookup y.1=some .free:=λy hy e=>by
  have q:=List.all_eq_true.mp fr y hy
  rw [e] at q
  simpa using q
 refine ⟨k,nd,λy hy e=>?_,λy hy e=>?_,λp hp=>?_⟩
 ·exact qQ nd (by rw [<- e]; exact hy)
 ·show ((cellsFrom (C + 1) S.names (xo S Y.env)).lookup y.1).isSome=true
  refine PySem.W.cellsFrom_some _ _ _ ?_
  rcases fr' y hy e with z | z
  ·exact .inl z
  ·obtain ⟨c,e⟩:=WJ (env:=Y.env) (qO z)
   exact .inr (by rw [e]; rfl)
 ·have q:=List.all_eq_true.mp cp p hp
  simp only [Bool.and_eq_true,beq_iff_eq] at q
  refine ⟨q.1,q.2,?_⟩
  show (relabel S Y.env).names.lookup p.2=some .cell\/(relabel S Y.env).names.lookup p.2=some .free
  rw [Ql]
  rcases fr' _ (qO q.2) rfl with z | z
  ·left
   show (S.names.lookup p.2).map _=_
   rw [z]
   rfl
  ·show (S.names.lookup p.2).map _=_\/(S.names.lookup p.2).map _=_
   rw [z,Option.map_some]
   split
   ·exact .inl rfl
   ·exact .inr rfl
end L2
namespace Sh
open PySem L2
theorem qS {H:Hp} {p:Addr} (h:H p=none) (o:HO):zJ H (upd H p o):=λb u q=>by rw [zh (x9 q h)]; exact q
def Tp (H:Hp) (v:V) (xs:List V):Prop:=∃ a,v=.ref a/\H a=some (.tup xs)
theorem Tp.same {H H':Hp} {v:V} {xs:List V} (s:zJ H H') (h:Tp H v xs):Tp H' v xs:=let ⟨r,e,q⟩:=h; ⟨r,e,s _ _ q⟩
theorem Tp.upd {H:Hp} {v:V} {xs:List V} {l:Addr} {o o':HO} (hl:H l=some o) (n:∀ ys,o≠.tup ys) (h:Tp H v xs):Tp (upd H l o') v xs:=by
 obtain ⟨r,e,q⟩:=h
 exact ⟨r,e,by rw [zh (Jq q hl λz=>n _ z.symm)]; exact q⟩
theorem Q2 {α β:Type} {R:α->β->Prop}:∀ {xs:List α} {ys:List β} {i:Nat} {x:α},Paired R xs ys->xs[i]? = some x->∃ y,ys[i]? = some y/\R x y
 | _,_,_,_,.nil,e=>by simp at e
 | _,_,0,_,.cons r _,e=>by simp at e; subst e; exact ⟨_,rfl,r⟩
 | _,_,i + 1,x,.cons _ t,e=>by
  obtain ⟨y,h1,h2⟩:=Q2 (i:=i) (x:=x) t (by simpa using e)
  exact ⟨y,by simpa using h1,h2⟩
theorem jX {α β:Type} {R:α->β->Prop} {x:α} {y:β} (r:R x y):∀ {xs:List α} {ys:List β},Paired R xs ys->Paired R (xs++[x]) (ys++[y])
 | _,_,.nil=>.cons r .nil
 | _,_,.cons q t=>.cons q (jX r t)
theorem gg {α β:Type} {R:α->β->Prop}:∀ {xs zs:List α} {ys us:List β},Paired R xs ys->Paired R zs us->Paired R (xs++zs) (ys++us)
 | _,_,_,_,.nil,h=>h
 | _,_,_,_,.cons q t,h=>.cons q (gg t h)
theorem uO {α:Type} {l:List α} {i:Nat} {x:α} (h:l[i]? = some x):l.take (i + 1)=l.take i++[x]:=by
 obtain ⟨hi,e⟩:=List.getElem?_eq_some_iff.mp h
 rw [List.take_succ_eq_append_getElem hi,e]
abbrev vz (H:Hp) (vs:List V) (ks:List (List Int)):Prop:=Paired (λv (k:List Int)=>Tp H v (k.map V.int)) vs ks
theorem vz.same {H H':Hp} {vs:List V} {ks:List (List Int)} (s:zJ H H') (h:vz H vs ks):vz H' vs ks:=Paired.mapP h λ_ _ z=>Tp.same s z
theorem vz.upd {H:Hp} {vs:List V} {ks:List (List Int)} {l:Addr} {o o':HO} (hl:H l=some o) (n:∀ ys,o≠.tup ys) (h:vz H vs ks):vz (upd H l o') vs ks:=Paired.mapP h λ_ _ z=>Tp.upd hl n z
theorem YU {α β:Type} {R:α->β->Prop} {x:α} {y:β} (r:R x y):∀ k:Nat,Paired R (List.replicate k [x]).flatten (List.replicate k y)
 | 0=>.nil
 | k + 1=>by
  rw [List.replicate_succ,List.replicate_succ,List.flatten_cons]
  exact .cons r (YU r k)
end Sh
namespace L2
open PySem PySem.Spec PyProof.Rows
def gh (K:PySem.W.Frag) (a b:Addr):It:=
 ⟨λi H=>∃ xs ys x y,zV K H a xs/\zV K H b ys/\xs[i]? = some x/\ys[i]? = some y,
  λi H v H'=>∃ T x y,v=.ref T/\H T=none/\H'=upd H T (.tup [x,y])/\(∀ xs,zV K H a xs->xs[i]? = some x)/\∀ ys,zV K H b ys->ys[i]? = some y,
  λi H=>∃ xs ys,zV K H a xs/\zV K H b ys/\i<=xs.length/\i<=ys.length/\(i=xs.length\/i=ys.length)⟩
theorem zJB {P:Program} {w:World} {K:PySem.W.Frag} {es:List Expr} {kk:Nat} {tp:Pos} {a b z TI TO i1 i2:Addr} (Z:Zp z TI TO i1 i2 [i1,a] [i2,b]) (na:a≠i1) (nb:b≠i2) :
  xF P w K (.Tuple es kk tp) (gh K a b) [z,TI,TO,i1,i2] z (λi h=>IsZip h z TI TO .none/\IsPair h TI (.ref i1) (.ref i2)/\(∃ x y,IsPair h TO x y)/\h.IsListIter i1 a i/\h.IsListIter i2 b i) where
 mem:=by simp
 obj:=λi h ⟨t1,t2,⟨x,y,t3⟩,t4,t5⟩ c hc=>by
  simp only [List.mem_cons,List.not_mem_nil,or_false] at hc
  rcases hc with rfl | rfl | rfl | rfl | rfl
  ·exact ⟨_,t1,wg⟩
  ·exact ⟨_,t2,u9⟩
  ·exact ⟨_,t3,u9⟩
  ·obtain ⟨o,e,_,d⟩:=t4
   exact ⟨o,e,by rw [d]; exact wg⟩
  ·obtain ⟨o,e,_,d⟩:=t5
   exact ⟨o,e,by rw [d]; exact wg⟩
 keep:=λi h h' ⟨t1,t2,⟨x,y,t3⟩,t4,t5⟩ k=>⟨k z (by simp) _ t1,k TI (by simp) _ t2,⟨x,y,k TO (by simp) _ t3⟩,(by obtain ⟨o,e,r⟩:=t4; exact ⟨o,k i1 (by simp) o e,r⟩),(by obtain ⟨o,e,r⟩:=t5; exact ⟨o,k i2 (by simp) o e,r⟩)⟩
 item:=by
  intro X hP hw hK hc i pins s σ H E I hf ⟨t1,t2,⟨x0,y0,t3⟩,t4,t5⟩ hg
  subst hP hw hK
  obtain ⟨xs,ys,x,y,hq1,hq2,hx,hy⟩:=hg
  obtain ⟨its1,rv1,p1,_⟩:=I.list hq1
  obtain ⟨its2,rv2,p2,_⟩:=I.list hq2
  obtain ⟨u,hu,ru⟩:=rv1.get hx
  obtain ⟨v,hv,rv⟩:=rv2.get hy
  have hh:X.A.in1.handled=none:=I.ok.hd hc
  have l1:i < its1.toArray.size:=by rw [List.size_toArray]; exact (List.getElem?_eq_some_iff.mp hu).1
  have l2:i < its2.toArray.size:=by rw [List.size_toArray]; exact (List.getElem?_eq_some_iff.mp hv).1
  refine YN (Draws.list hh i1 a na its1.toArray) (Draws.list hh i2 b nb its2.toArray) Z t1 t2 t3 ⟨t4,p1.isList⟩ ⟨t5,p2.isList⟩ l1 l2 ?_
  intro x' y' h1 tk px py z1 z2 z3 z4 z5 z6 keep
  have ex:x'=u:=by
   have q:its1.toArray[i]? = some x':=px
   simp only [List.getElem?_toArray] at q
   rw [hu] at q
   exact (Option.some.inj q).symm
  have ey:y'=v:=by
   have q:its2.toArray[i]? = some y':=py
   simp only [List.getElem?_toArray] at q
   rw [hv] at q
   exact (Option.some.inj q).symm
  subst ex ey
  refine ⟨_,rfl,wpAny_letOwnedTupleGo_zip (s:={ s with heap:=h1,toks:=tk }) z1 λh2 z7 sb=>?_⟩
  have zlt:z < s.heap.objs.size:=Heap.lt_size t1
  have keep2:∀ c o,c∉[z,TI,TO,i1,i2]->s.heap.get? c=some o->h2.get? c=some o:=λc o hc e=>by
   simp only [List.mem_cons,List.not_mem_nil,or_false,not_or] at hc
   exact sb.extBut c o hc.1 (keep c o hc.1 hc.2.2.1 hc.2.2.2.1 hc.2.2.2.2 e)
  have pT:IsPair h2 s.heap.objs.size x' y':=sb.extBut _ _ (Nat.ne_of_gt zlt) z6
  have I':=I.turnT (h':=h2) (tk:=tk) (ch:=[z,TI,TO,i1,i2]) (x:=x) (y:=y) hf keep2 (Nat.le_refl _) pT ru rv
  refine ⟨.ref s.heap.objs.size,_,I',rfl,⟨s.heap.objs.size,x,y,rfl,I.hok.fresh (Nat.le_refl _),rfl,λxs' q=>by rw [I.list_inj q hq1]; exact hx,λys' q=>by rw [I.list_inj q hq2]; exact hy⟩,
   ⟨z7,sb.extBut _ _ Z.a1 z2,⟨_,_,sb.extBut _ _ Z.a2 z3⟩,z4.1.extBut sb.extBut Z.a3,z5.1.extBut sb.extBut Z.a4⟩,λc hc=>?_⟩
  have:=(hf c hc).1
  rw [zh]
  ·exact this
  ·intro q
   obtain ⟨o,e,_⟩:∃ o,s.heap.get? c=some o/\True:=by
    simp only [List.mem_cons,List.not_mem_nil,or_false] at hc
    rcases hc with rfl | rfl | rfl | rfl | rfl
    ·exact ⟨_,t1,trivial⟩
    ·exact ⟨_,t2,trivial⟩
    ·exact ⟨_,t3,trivial⟩
    ·obtain ⟨o,e,_⟩:=t4; exact ⟨o,e,trivial⟩
    ·obtain ⟨o,e,_⟩:=t5; exact ⟨o,e,trivial⟩
   rw [q] at e
   exact absurd (Heap.lt_size e) (Nat.lt_irrefl _)
 done:=by
  intro X hP hw hK hc i pins s σ H E I hf ⟨t1,t2,⟨x0,y0,t3⟩,t4,t5⟩ hg
  subst hP hw hK
  obtain ⟨xs,ys,hq1,hq2,e1,e2,e3⟩:=hg
  obtain ⟨its1,rv1,p1,_⟩:=I.list hq1
  obtain ⟨its2,rv2,p2,_⟩:=I.list hq2
  have hh:X.A.in1.handled=none:=I.ok.hd hc
  have n1:its1.toArray.size=xs.length:=by rw [List.size_toArray]; exact rv1.length.symm
  have n2:its2.toArray.size=ys.length:=by rw [List.size_toArray]; exact rv2.length.symm
  refine YO (Draws.list hh i1 a na its1.toArray) (Draws.list hh i2 b nb its2.toArray) Z t1 t2 t3 ⟨t4,p1.isList⟩ ⟨t5,p2.isList⟩ (by omega) (by omega) (by omega) ?_
  intro h1 tk keep
  refine ⟨rfl,I.turnN (h':=h1) (tk:=tk) (ch:=[z,TI,TO,i1,i2]) hf λc o hc e=>?_⟩
  simp only [List.mem_cons,List.not_mem_nil,or_false,not_or] at hc
  exact keep c o hc.1 hc.2.2.1 hc.2.2.2.1 hc.2.2.2.2 e
 self:=λ_ _ _ _ _ st h=>wpAny_pyIter_zip st.1 h
section
variable {X:Cx} {es:List Expr} {kk:Nat} {tp:Pos}
end
end L2
namespace L2
open PySem PySem.Spec PyProof.Rows
section
variable {X:Cx}
def gi (K:PySem.W.Frag):R2:=λx y H Q=>∃ d e:PyData,Dp K H x d/\Dp K H y e/\d.canLay0=true/\e.canLay0=true/\d.depth<=60/\e.depth<=60/\Q (.bl (PyData.eqv d e)) H
theorem Q3 (hu:X.A.units + 64 < cLine):yW X (compareOp .Eq) (gi X.K):=by
 intro pins s σ H x y v u Q I rx ry h
 obtain ⟨d,e,hx,hy,hc,hc',hd,hd',q⟩:=h
 obtain ⟨_,r1⟩:=hx.reads I rx
 obtain ⟨_,r2⟩:=hy.reads I ry
 exact SeqAt.compareEq_reads r1 r2 hc hc' (by omega) ⟨.bl _,H,I,rfl,q⟩
end
end L2
namespace Sh
open PySem L2
theorem Q4:∀ ns ms:List Int,PyData.eqvAll (ns.map PyData.int) (ms.map PyData.int)=decide (ns=ms)
 | [],[]=>by simp [PyData.eqvAll]
 | [],_ :: _=>by simp [PyData.eqvAll]
 | _ :: _,[]=>by simp [PyData.eqvAll]
 | a :: r,b :: t=>by
  have ih:=Q4 r t
  simp only [List.map_cons,PyData.eqvAll,PyData.eqv,ih,List.cons.injEq]
  by_cases h1:a=b <;> by_cases h2:r=t <;> simp [h1,h2]
def jY (H:Hp) (v:V) (p:Int × Int):Prop:=∃ r,v=.ref r/\H r=some (.tup [.int p.1,.int p.2])
abbrev qU (H:Hp) (vs:List V) (pts:List (Int × Int)):Prop:=Paired (jY H) vs pts
theorem jY.same {H H':Hp} {v:V} {p:Int × Int} (s:zJ H H') (h:jY H v p):jY H' v p:=let ⟨r,e,q⟩:=h; ⟨r,e,s _ _ q⟩
theorem qU.same {H H':Hp} {vs:List V} {pts:List (Int × Int)} (s:zJ H H') (h:qU H vs pts):qU H' vs pts:=Paired.mapP h λ_ _ z=>z.same s
theorem jY.upd {H:Hp} {v:V} {p:Int × Int} {l:Addr} {xs:List V} {o:HO} (hl:H l=some (.lst xs)) (h:jY H v p):jY (upd H l o) v p:=by
 obtain ⟨r,e,q⟩:=h
 exact ⟨r,e,by rw [zh (Jq q hl (by intro z; cases z))]; exact q⟩
theorem qU.upd {H:Hp} {vs:List V} {pts:List (Int × Int)} {l:Addr} {xs:List V} {o:HO} (hl:H l=some (.lst xs)) (h:qU H vs pts):qU (upd H l o) vs pts:=Paired.mapP h λ_ _ z=>z.upd hl
structure jZ (ws:List Int) (n:Nat):Prop where
 len:ws.length=n
 bd:∀ w∈ws,Bd 1000 w
structure gj (r:List Int) (n:Nat):Prop where
 len:r.length=n + 1
 bd:∀ x∈r,Bd 1000 x
theorem gj.rw {r:List Int} {n:Nat} (h:gj r n):jZ (r.take n) n:=⟨by rw [List.length_take,h.len]; omega,λw hw=>h.bd w (List.mem_of_mem_take hw)⟩
theorem gj.at {r:List Int} {n j:Nat} (h:gj r n) (hj:j<=n):r[j]? = some (r.getD j 0)/\Bd 1000 (r.getD j 0):=by
 have e:r[j]? = some (r.getD j 0):=by
  rw [List.getD_eq_getElem?_getD,List.getElem?_eq_getElem (by have:=h.len; omega)]
  rfl
 exact ⟨e,h.bd _ (List.mem_of_getElem? e)⟩
def Q5 (n:Nat) (c:Nat->Int) (r:List Int):Int:=((List.range n).map λi=>r.getD i 0 * c i).sum
end Sh
namespace L2
open PySem PySem.Spec PyProof.Rows
def WP (K:PySem.W.Frag) (a:Addr):It:=
 ⟨λi H=>∃ xs x,zV K H a xs/\xs[i]? = some x,
  λi H v H'=>∃ T x,v=.ref T/\H T=none/\H'=upd H T (.tup [.int (i:Int),x])/\∀ xs,zV K H a xs->xs[i]? = some x,
  λi H=>∃ xs,zV K H a xs/\i=xs.length⟩
theorem Q6 {c x y:Addr} (h:c∉[x,y]):c≠x/\c≠y:=by
 simp only [List.mem_cons,List.not_mem_nil,or_false,not_or] at h
 exact h
theorem zJD {P:Program} {w:World} {K:PySem.W.Frag} {es:List Expr} {kk:Nat} {tp:Pos} {a e it:Addr} (ne:e≠it) :
  xF P w K (.Tuple es kk tp) (WP K a) [e,it] e (λi h=>(∃ old,IsEnum h e it i old)/\h.IsListIter it a i) where
 mem:=by simp
 obj:=λi h ⟨⟨old,t1⟩,t2⟩ c hc=>by
  simp only [List.mem_cons,List.not_mem_nil,or_false] at hc
  rcases hc with rfl | rfl
  ·exact ⟨_,t1,wg⟩
  ·obtain ⟨o,e,_,d⟩:=t2
   exact ⟨o,e,by rw [d]; exact wg⟩
 keep:=λi h h' ⟨⟨old,t1⟩,t2⟩ k=>⟨⟨old,k e (by simp) _ t1⟩,(by obtain ⟨o,q,r⟩:=t2; exact ⟨o,k it (by simp) o q,r⟩)⟩
 item:=by
  intro X hP hw hK hc i pins s σ H E I hf ⟨⟨old,t1⟩,t2⟩ hg
  subst hP hw hK
  obtain ⟨xs,x,hq,hx⟩:=hg
  obtain ⟨its,rv,p,_⟩:=I.list hq
  obtain ⟨u,hu,ru⟩:=rv.get hx
  refine wpAny_pyNext_enum_item t1 t2 p.isList (x:=u) (by simpa using hu) ne ?_
  intro h1 z1 z2 z3 z4 keep
  refine ⟨_,rfl,wpAny_letOwnedTupleGo_enum (s:={ s with heap:=h1,toks:=s.toks + 1 }) z1 λh2 z5 sb=>?_⟩
  have elt:e < s.heap.objs.size:=Heap.lt_size t1
  have keep2:∀ c o,c∉[e,it]->s.heap.get? c=some o->h2.get? c=some o:=λc o hc q=>by
   obtain ⟨c1,c2⟩:=Q6 hc
   exact sb.extBut c o c1 (keep c o c1 c2 q)
  have pT:IsPair h2 s.heap.objs.size (.int i s.toks) u:=sb.extBut _ _ (Nat.ne_of_gt elt) z3
  have I':=I.turnT (h':=h2) (tk:=s.toks + 1) (ch:=[e,it]) (x:=.int (i:Int)) (y:=x) hf keep2 (Nat.le_refl _) pT ⟨_,rfl⟩ ru
  refine ⟨.ref s.heap.objs.size,_,I',rfl,⟨s.heap.objs.size,x,rfl,I.hok.fresh (Nat.le_refl _),rfl,λxs' q=>by rw [I.list_inj q hq]; exact hx⟩,
   ⟨⟨u,by simpa using z5⟩,z2.extBut sb.extBut (Ne.symm ne)⟩,λc hc=>?_⟩
  have:=(hf c hc).1
  rw [zh]
  ·exact this
  ·intro q
   obtain ⟨o,e1⟩:∃ o,s.heap.get? c=some o:=by
    simp only [List.mem_cons,List.not_mem_nil,or_false] at hc
    rcases hc with rfl | rfl
    ·exact ⟨_,t1⟩
    ·obtain ⟨o,e1,_⟩:=t2; exact ⟨o,e1⟩
   rw [q] at e1
   exact absurd (Heap.lt_size e1) (Nat.lt_irrefl _)
 done:=by
  intro X hP hw hK hc i pins s σ H E I hf ⟨⟨old,t1⟩,t2⟩ hg
  subst hP hw hK
  obtain ⟨xs,hq,e1⟩:=hg
  obtain ⟨its,rv,p,_⟩:=I.list hq
  have n1:its.length=xs.length:=rv.length.symm
  refine wpAny_pyNext_enum_end (I.ok.hd hc) t1 t2 p.isList (by simp; omega) ?_
  intro h1 ext
  refine ⟨rfl,I.turnN (h':=h1) (tk:=s.toks) (ch:=[e,it]) hf λc o hc q=>?_⟩
  exact ext c o (Q6 hc).2 q
 self:=λ_ _ _ _ _ ⟨⟨_,st⟩,_⟩ h=>wpAny_pyIter_enum st h
section
variable {X:Cx} {es:List Expr} {kk:Nat} {tp:Pos}
def gk (K:PySem.W.Frag) (ta:TA):TI:=λσ H R=>ta σ H λvs H1=>∃ a,vs=[.ref a]/\(∃ xs,zV K H1 a xs)/\R (WP K a) H1
theorem zNB {e1:Expr} {ta:TA} {p pos:Pos} (hg:Gl X "enumerate") (hm:X.mg "enumerate" = none) (ha:PA X [e1] ta) (hs:starEach [e1] X.env=[(false,eval e1 X.env)]:=by rfl) (hs2:starEach [] X.env=[]:=by rfl) :
  PI X (.Tuple es kk tp) (.Call (.Name "enumerate" p) [e1] [] pos) (gk X.K ta):=by
 intro pins s σ H R I h
 refine Call_ (ux I hg hm (show bootBuiltins "enumerate" = some (.type "enumerate") by decide +kernel) (PyProof.Rows.callWith_type1 (zb (ha pos pins s σ H _ I h) λus s1 ⟨vs,H1,I1,r1,q1⟩=>?_) (by rw [hs,hs2]) (by rw [hs2]; rfl)))
 obtain ⟨a,e,⟨xs,hx⟩,q⟩:=q1
 subst e
 obtain ⟨u,rfl,ru⟩:=vG r1
 cases ru
 obtain ⟨its,rv,p1,_⟩:=I1.list hx
 have la:a < s1.heap.objs.size:=by obtain ⟨o,n,e,_⟩:=p1; exact Heap.lt_size e
 refine call_enumerate_list p1.isList λh' z1 z2 _ keep=>wpAny_pyIter_enum z1 ?_
 have I2:zD X pins σ H1 { s1 with heap:=h' }:=I1.kept (t':=s1.toks) keep
 refine ⟨s1.heap.objs.size + 1,[s1.heap.objs.size + 1,s1.heap.objs.size],_,_,H1,rfl,I2,zJD (a:=a) (Nat.succ_ne_self _),⟨⟨_,z1⟩,z2⟩,λc hc=>?_,q⟩
 have ge:s1.heap.objs.size<=c:=by
  simp only [List.mem_cons,List.not_mem_nil,or_false] at hc
  rcases hc with rfl | rfl
  ·exact Nat.le_add_right _ 1
  ·exact Nat.le_refl _
 exact I1.fpOk ge (I1.hok.fresh ge)
end
end L2
namespace L2
open PySem PySem.Spec PyProof.Rows
section
variable {prog:Program} {w:World} {A:Around} {E:Value->Shared->Prop} {s:Shared}
end
section
variable {prog:Program} {w:World} {A:Around} {E:Value->Shared->Prop} {s:Shared}
end
section
variable {M:Model} {A:Around} {E:Value->Shared->Prop} {s:Shared}
end
section
variable {X:Cx} {es:List Expr} {kk:Nat} {tp:Pos}
end
end L2
namespace Sh
open PySem L2
inductive Kd where
 | int | bool | non | str | lst | tup | dic
 deriving DecidableEq
def Kd.nm:Kd->String
 | .int=>"int" | .bool=>"bool" | .non=>"NoneType" | .str=>"str" | .lst=>"list" | .tup=>"tuple" | .dic=>"dict"
def Kd.whole:Kd->Bool
 | .int=>true
 | _=>false
def Kd.isInt:Kd->Bool
 | .int=>true
 | .bool=>true
 | _=>false
def Kd.isBool:Kd->Bool
 | .bool=>true
 | _=>false
def Kd.isTup:Kd->Bool
 | .tup=>true
 | _=>false
inductive vJ (H:Hp):V->Kd->Prop where
 | non:vJ H .non .non
 | bl (b:Bool):vJ H (.bl b) .bool
 | int (i:Int):vJ H (.int i) .int
 | str (x:Str):vJ H (.str x) .str
 | lst {a:Addr} {xs:List V} (e:H a=some (.lst xs)):vJ H (.ref a) .lst
 | tup {a:Addr} {xs:List V} (e:H a=some (.tup xs)):vJ H (.ref a) .tup
 | dic {a:Addr} {kvs:List (yH × V)} (e:H a=some (.dK kvs)):vJ H (.ref a) .dic
theorem vJ.ty {K:PySem.W.Frag} {H:Hp} {x:V} {k:Kd} (h:vJ H x k):yD K H x (.type k.nm):=by
 cases h with
 | non=>exact .non
 | bl b=>exact .bl b
 | int i=>exact .int i
 | str x=>exact .str x
 | lst e=>exact .lst e
 | tup e=>exact .tup e
 | dic e=>exact .dK e
theorem vJ.same {H H':Hp} {x:V} {k:Kd} (s:zJ H H') (h:vJ H x k):vJ H' x k:=by
 cases h with
 | non=>exact .non
 | bl b=>exact .bl b
 | int i=>exact .int i
 | str x=>exact .str x
 | lst e=>exact .lst (s _ _ e)
 | tup e=>exact .tup (s _ _ e)
 | dic e=>exact .dic (s _ _ e)
def Kd.isLst:Kd->Bool
 | .lst=>true
 | _=>false
section
variable (K:PySem.W.Frag)
theorem jA (k:Kd):PySem.W.kitOne K (.type k.nm) (.type "int")=some k.isInt:=by
 cases k <;> first | rfl | decide +kernel | (unfold PySem.W.kitOne; rw [if_pos (by decide +kernel)]; rfl) | (unfold PySem.W.kitOne; rw [if_neg (by decide +kernel)]; rfl)
theorem jB (k:Kd):PySem.W.kitOne K (.type k.nm) (.type "bool")=some k.isBool:=by
 cases k <;> first | rfl | decide +kernel | (unfold PySem.W.kitOne; rw [if_pos (by decide +kernel)]; rfl) | (unfold PySem.W.kitOne; rw [if_neg (by decide +kernel)]; rfl)
theorem jC (k:Kd):PySem.W.kitOne K (.type k.nm) (.type "tuple")=some k.isTup:=by
 cases k <;> first | rfl | decide +kernel | (unfold PySem.W.kitOne; rw [if_pos (by decide +kernel)]; rfl) | (unfold PySem.W.kitOne; rw [if_neg (by decide +kernel)]; rfl)
theorem jD (k:Kd):PySem.W.kitOne K (.type k.nm) (.type "list")=some k.isLst:=by
 cases k <;> first | rfl | decide +kernel | (unfold PySem.W.kitOne; rw [if_pos (by decide +kernel)]; rfl) | (unfold PySem.W.kitOne; rw [if_neg (by decide +kernel)]; rfl)
end
end Sh
namespace L2
open PySem PySem.Spec PyProof.Rows
section
variable {X:Cx}
end
end L2
namespace L2
open PySem PySem.Spec PyProof.Rows
structure zT (K:PySem.W.Frag) (mg:Str->Option Value) (x:Str) (C:Addr):Prop where
 cl:vX K C
 mgC:mg x=some (.ref C)
 ha:PySem.W.findIn K (.ref C) "__class__" = some (some (.builtin "object.__class__"))
 hn:PySem.W.specialIn K (.builtin "object.__class__") "__get__" = some (some (.builtin "getset_descriptor.__get__"))
 htk:PySem.W.takesIn K (.builtin "object.__class__")=some true
 hm:PySem.W.mroIn K C (.type "object")=some true
theorem zT.ty {K:PySem.W.Frag} {mg:Str->Option Value} {x:Str} {C a dx:Addr} {H:Hp} {fs:List (Str × V)} (T:zT K mg x C) (e:H a=some (.ins C dx fs)):yD K H (.ref a) (.ref C):=.ins e T.cl T.ha T.hn T.htk T.hm
structure v4 (P:Program) (w:World) (K:PySem.W.Frag) (mg:Str->Option Value) (base:Heap) (C:Addr) (m:Str) (ps:List Str) (k:Nat) (sp:Sp):Prop where
 ex:∃ f fd,zF P w K mg base zU k f fd ps sp/\uJ K C m f/\xh K fd ps []
structure uP (P:Program) (w:World) (K:PySem.W.Frag) (mg:Str->Option Value) (base:Heap) (C:Addr) (ps:List Str) (k:Nat) (sp:Sp):Prop where
 ex:∃ f fd,zF P w K mg base zU k f fd ps sp/\Mk K C f/\xh K fd ps []
structure vd (P:Program) (w:World) (K:PySem.W.Frag) (mg:Str->Option Value) (base:Heap) (C:Addr) (ps:List Str) (k:Nat) (sp:Sp) (dv:V):Prop where
 ex:∃ f fd d,zF P w K mg base zU k f fd ps sp/\Mk K C f/\xh K fd ps []/\xh K fd ps [d]/\zN dv d
theorem v4.mono {P:Program} {w:World} {K:PySem.W.Frag} {mg:Str->Option Value} {base:Heap} {C:Addr} {m:Str} {ps:List Str} {j k:Nat} {sp:Sp} (F:v4 P w K mg base C m ps j sp) (h:j<=k:=by decide):v4 P w K mg base C m ps k sp:=by
 obtain ⟨f,fd,a,b,c⟩:=F.ex
 exact ⟨f,fd,a.mono h,b,c⟩
theorem uP.mono {P:Program} {w:World} {K:PySem.W.Frag} {mg:Str->Option Value} {base:Heap} {C:Addr} {ps:List Str} {j k:Nat} {sp:Sp} (F:uP P w K mg base C ps j sp) (h:j<=k:=by decide):uP P w K mg base C ps k sp:=by
 obtain ⟨f,fd,a,b,c⟩:=F.ex
 exact ⟨f,fd,a.mono h,b,c⟩
theorem vd.mono {P:Program} {w:World} {K:PySem.W.Frag} {mg:Str->Option Value} {base:Heap} {C:Addr} {ps:List Str} {j k:Nat} {sp:Sp} {dv:V} (F:vd P w K mg base C ps j sp dv) (h:j<=k:=by decide):vd P w K mg base C ps k sp dv:=by
 obtain ⟨f,fd,d,a,b,c⟩:=F.ex
 exact ⟨f,fd,d,a.mono h,b,c⟩
theorem vd.fn {P:Program} {w:World} {K:PySem.W.Frag} {mg:Str->Option Value} {base:Heap} {C:Addr} {ps:List Str} {k:Nat} {sp:Sp} {dv:V} (F:vd P w K mg base C ps k sp dv):uP P w K mg base C ps k sp:=by
 obtain ⟨f,fd,d,a,b,c,_⟩:=F.ex
 exact ⟨f,fd,a,b,c⟩
section
variable {X:Cx} {C:Addr} {m x:Str} {ps:List Str} {k:Nat} {sp:Sp} {o e:Expr} {es:List Expr} {ta:TE} {t:TA} {p pos apos:Pos} {dv:V}
theorem zJh {pl:Sem Bool} (F:v4 X.prog X.w X.K X.mg X.base C m ps k sp) (T:zT X.K X.mg x C) (hr:zZ k X.A) (he:PE X o ta)
  (ht:eval (.Call (.Attribute o m apos) [] [] pos) X.env=(do
   let ov <- eval o X.env
   standAt apos.atName
   let (f,first) <- holding [ov] (getMethod ov m pl)
   callWith pos f first (backTo pos (starEach [] X.env)) (backToKw pos (keywordEach [] X.env))):=by rfl) :
  PE X (.Call (.Attribute o m apos) [] [] pos) (QI C m sp [] E0 ta wr):=by
 obtain ⟨f,fd,a,b,c⟩:=F.ex
 exact zLU he T.cl b a hr c .nil YE ht
theorem zLV (F:uP X.prog X.w X.K X.mg X.base C ps k sp) (T:zT X.K X.mg x C) (hr:zZ (k + 1) X.A) (hg:Gl X x) (ha:PA X (e :: es) t)
  (hdb:(x == ("__debug__" : Str))=false:=by decide) (he:starEach (e :: es) X.env=(false,eval e X.env) :: starEach es X.env:=by rfl) (hpl:(backTo pos (starEach es X.env)).any (·.1)=false:=by rfl) :
  PE X (.Call (.Name x p) (e :: es) [] pos) (YC C sp [] E0 t):=by
 obtain ⟨f,fd,a,b,c⟩:=F.ex
 exact zND b a hr hg T.mgC c .nil YE ha hdb he hpl
theorem zOy (T:zT X.K X.mg x C) (hg:Gl X x) (hd:(x == ("__debug__" : Str))=false:=by decide):PE X (.Name x pos) (tC (.ref C)):=Ju hg T.mgC rfl hd
def Q7 (K:PySem.W.Frag):List V->Hp->VK->Prop:=λxs H Q=>∃ x C t b,xs=[x,.ref C]/\yD K H x t/\PySem.W.kitOne K t (.ref C)=some b/\Q (.bl b) H
theorem zGm:xN X (.builtin "isinstance") (Q7 X.K):=by
 intro pins s σ H xs us Q I r h
 obtain ⟨x,C,t,b,rfl,ty,e,q⟩:=h
 obtain ⟨u,v,rfl,ru,rv⟩:=qJ r
 cases (show v=Value.ref C from rv)
 exact QG I ru ty e λtk=>⟨.bl b,H,I.tok tk,rfl,q⟩
end
end L2
namespace L2
open PySem PySem.Spec PyProof.Rows
section
variable {X:Cx} {pos:Pos}
end
def zOO:Sp:=λ_ _ _ _=>False
theorem zF.none {P:Program} {w:World} {K:PySem.W.Frag} {mg:Str->Option Value} {base:Heap} {CX:wY} {k:Nat} {f:Addr} {fd:FuncData} {ps:List Str}:zF P w K mg base CX k f fd ps zOO:=
 ⟨λ_ _ _ _ h=>h.elim,λ_ _ _ _ _ _ _ _ _ _ _ _ _ h=>h.elim⟩
end L2
namespace L2
open PySem PySem.Spec PyProof.Rows PySem.SeqAt
section
variable {X:Cx}
end
end L2
namespace L2
open PySem PySem.Spec PyProof.Rows
open PySem
abbrev YV (h:Heap) (t:Addr):Heap:=h.push { cls:=.type "tuple_iterator",data:=.fields #[.ref t,.int 0 0] }
abbrev YW (h:Heap) (t l:Addr):Heap:=(YV h t).push { cls:=.type "tuple_iterator",data:=.fields #[.ref l,.int 0 0] }
abbrev YX (h:Heap) (t l:Addr):Heap:=(YW h t l).push { cls:=.type "tuple",data:=.seq #[.ref h.objs.size,.ref (YV h t).objs.size] }
abbrev YY (h:Heap) (t l:Addr):Heap:=(YX h t l).push { cls:=.type "tuple",data:=.seq #[.none,.none] }
abbrev qV (h:Heap) (t l:Addr):Heap:=(YY h t l).push { cls:=.type "zip",data:=.fields #[.none,.bool false,.bool false,.ref (YW h t l).objs.size,.ref (YX h t l).objs.size] }
theorem zIV (t l:Addr) (xs ys:Array Value) :
  Meets (Builtin.«zip.__new__» ⟨[.type "zip",.ref t,.ref l],[]⟩) (λ_ R s=>s.heap.IsTuple t xs/\s.heap.IsTuple l ys/\R (.ok (.ret (.ref (YY s.heap t l).objs.size))) { s with heap:=qV s.heap t l }):=
 .of_wp λprog w A R s h=>by
  obtain ⟨hp,g,d,tk,os⟩:=s; obtain ⟨h1,h2,h⟩:=h
  have hsub:=sub_zip
  have e1:Heap.IsTuple (Shared.heap ⟨hp,g,d,tk,os⟩) t xs:=h1
  have e2:Heap.IsTuple (Shared.heap ⟨hp.push { cls:=.type "tuple_iterator",data:=.fields #[.ref t,.int 0 0] },g,d,tk,os⟩) l ys:=(let ⟨o,e,r⟩:=h2; ⟨o,Heap.get?_push_of_some _ e,r⟩)
  wp_walk using wpAny_pyIter_tuple e1,wpAny_pyIter_tuple e2
  exact ⟨_,rfl,h⟩
theorem zHd {prog:Program} {w:World} {A:Around} {E:Value->Shared->Prop} {s:Shared} {t l:Addr} {xs ys:Array Value} {Q:Value->Shared->Prop} (h1:s.heap.IsTuple t xs) (h2:s.heap.IsTuple l ys)
  (h:∀ h',IsZip h' (s.heap.objs.size + 4) (s.heap.objs.size + 2) (s.heap.objs.size + 3) .none->IsPair h' (s.heap.objs.size + 2) (.ref s.heap.objs.size) (.ref (s.heap.objs.size + 1))->IsPair h' (s.heap.objs.size + 3) .none .none->
   h'.IsTupleIter s.heap.objs.size t 0->h'.IsTupleIter (s.heap.objs.size + 1) l 0->(∀ c o,s.heap.get? c=some o->h'.get? c=some o)->Q (.ref (s.heap.objs.size + 4)) { s with heap:=h' }) :
  wpAny (model prog w) A (call (.type "zip") [.ref t,.ref l]) Q E s:=by
 refine callType_new F.called_zip (by decide) (F.typeCall_zip_2 _ _) (F.newCall_zip_2 _ _) (λobj=>F.args_object_init_3 obj _ _) F.entry_zip_new (zIV t l xs ys) ⟨h1,h2,?_⟩
 have n1:(YV s.heap t).objs.size=s.heap.objs.size + 1:=Heap.size_push ..
 have n2:(YW s.heap t l).objs.size=s.heap.objs.size + 2:=by rw [Heap.size_push,n1]
 have n3:(YX s.heap t l).objs.size=s.heap.objs.size + 3:=by rw [Heap.size_push,n2]
 have n4:(YY s.heap t l).objs.size=s.heap.objs.size + 4:=by rw [Heap.size_push,n3]
 have p5:(qV s.heap t l).get? (YY s.heap t l).objs.size=some _:=Heap.get?_push_size _ rfl
 have p4:(qV s.heap t l).get? (YX s.heap t l).objs.size=some _:=Heap.get?_push_of_some _ (Heap.get?_push_size _ rfl)
 have p3:(qV s.heap t l).get? (YW s.heap t l).objs.size=some _:=Heap.get?_push_of_some _ (Heap.get?_push_of_some _ (Heap.get?_push_size _ rfl))
 have p2:(qV s.heap t l).get? (YV s.heap t).objs.size=some _:=Heap.get?_push_of_some _ (Heap.get?_push_of_some _ (Heap.get?_push_of_some _ (Heap.get?_push_size _ rfl)))
 have p1:(qV s.heap t l).get? s.heap.objs.size=some _:=Heap.get?_push_of_some _ (Heap.get?_push_of_some _ (Heap.get?_push_of_some _ (Heap.get?_push_of_some _ (Heap.get?_push_size _ rfl))))
 change _/\_
 rw [n2,n3,n4] at p5
 rw [n1,n2] at p3
 rw [n3] at p4
 rw [n1] at p2
 rw [n4]
 exact ⟨⟨_,p5,rfl⟩,h _ p5 p3 p4 ⟨_,p1,rfl,rfl⟩ ⟨_,p2,rfl,rfl⟩ λc o x=>Heap.get?_push_of_some _ (Heap.get?_push_of_some _ (Heap.get?_push_of_some _ (Heap.get?_push_of_some _ (Heap.get?_push_of_some _ x))))⟩
abbrev YZ (h:Heap) (t:Addr):Heap:=h.push { cls:=.type "list_iterator",data:=.fields #[.ref t,.int 0 0] }
abbrev Yb (h:Heap) (t l:Addr):Heap:=(YZ h t).push { cls:=.type "tuple_iterator",data:=.fields #[.ref l,.int 0 0] }
abbrev Yc (h:Heap) (t l:Addr):Heap:=(Yb h t l).push { cls:=.type "tuple",data:=.seq #[.ref h.objs.size,.ref (YZ h t).objs.size] }
abbrev Yd (h:Heap) (t l:Addr):Heap:=(Yc h t l).push { cls:=.type "tuple",data:=.seq #[.none,.none] }
abbrev qW (h:Heap) (t l:Addr):Heap:=(Yd h t l).push { cls:=.type "zip",data:=.fields #[.none,.bool false,.bool false,.ref (Yb h t l).objs.size,.ref (Yc h t l).objs.size] }
theorem zIX (t l:Addr) (xs ys:Array Value) :
  Meets (Builtin.«zip.__new__» ⟨[.type "zip",.ref t,.ref l],[]⟩) (λ_ R s=>s.heap.IsList t xs/\s.heap.IsTuple l ys/\R (.ok (.ret (.ref (Yd s.heap t l).objs.size))) { s with heap:=qW s.heap t l }):=
 .of_wp λprog w A R s h=>by
  obtain ⟨hp,g,d,tk,os⟩:=s; obtain ⟨h1,h2,h⟩:=h
  have hsub:=sub_zip
  have e1:Heap.IsList (Shared.heap ⟨hp,g,d,tk,os⟩) t xs:=h1
  have e2:Heap.IsTuple (Shared.heap ⟨hp.push { cls:=.type "list_iterator",data:=.fields #[.ref t,.int 0 0] },g,d,tk,os⟩) l ys:=(let ⟨o,e,r⟩:=h2; ⟨o,Heap.get?_push_of_some _ e,r⟩)
  wp_walk using wpAny_pyIter_list e1,wpAny_pyIter_tuple e2
  exact ⟨_,rfl,h⟩
theorem zHf {prog:Program} {w:World} {A:Around} {E:Value->Shared->Prop} {s:Shared} {t l:Addr} {xs ys:Array Value} {Q:Value->Shared->Prop} (h1:s.heap.IsList t xs) (h2:s.heap.IsTuple l ys)
  (h:∀ h',IsZip h' (s.heap.objs.size + 4) (s.heap.objs.size + 2) (s.heap.objs.size + 3) .none->IsPair h' (s.heap.objs.size + 2) (.ref s.heap.objs.size) (.ref (s.heap.objs.size + 1))->IsPair h' (s.heap.objs.size + 3) .none .none->
   h'.IsListIter s.heap.objs.size t 0->h'.IsTupleIter (s.heap.objs.size + 1) l 0->(∀ c o,s.heap.get? c=some o->h'.get? c=some o)->Q (.ref (s.heap.objs.size + 4)) { s with heap:=h' }) :
  wpAny (model prog w) A (call (.type "zip") [.ref t,.ref l]) Q E s:=by
 refine callType_new F.called_zip (by decide) (F.typeCall_zip_2 _ _) (F.newCall_zip_2 _ _) (λobj=>F.args_object_init_3 obj _ _) F.entry_zip_new (zIX t l xs ys) ⟨h1,h2,?_⟩
 have n1:(YZ s.heap t).objs.size=s.heap.objs.size + 1:=Heap.size_push ..
 have n2:(Yb s.heap t l).objs.size=s.heap.objs.size + 2:=by rw [Heap.size_push,n1]
 have n3:(Yc s.heap t l).objs.size=s.heap.objs.size + 3:=by rw [Heap.size_push,n2]
 have n4:(Yd s.heap t l).objs.size=s.heap.objs.size + 4:=by rw [Heap.size_push,n3]
 have p5:(qW s.heap t l).get? (Yd s.heap t l).objs.size=some _:=Heap.get?_push_size _ rfl
 have p4:(qW s.heap t l).get? (Yc s.heap t l).objs.size=some _:=Heap.get?_push_of_some _ (Heap.get?_push_size _ rfl)
 have p3:(qW s.heap t l).get? (Yb s.heap t l).objs.size=some _:=Heap.get?_push_of_some _ (Heap.get?_push_of_some _ (Heap.get?_push_size _ rfl))
 have p2:(qW s.heap t l).get? (YZ s.heap t).objs.size=some _:=Heap.get?_push_of_some _ (Heap.get?_push_of_some _ (Heap.get?_push_of_some _ (Heap.get?_push_size _ rfl)))
 have p1:(qW s.heap t l).get? s.heap.objs.size=some _:=Heap.get?_push_of_some _ (Heap.get?_push_of_some _ (Heap.get?_push_of_some _ (Heap.get?_push_of_some _ (Heap.get?_push_size _ rfl))))
 change _/\_
 rw [n2,n3,n4] at p5
 rw [n1,n2] at p3
 rw [n3] at p4
 rw [n1] at p2
 rw [n4]
 exact ⟨⟨_,p5,rfl⟩,h _ p5 p3 p4 ⟨_,p1,rfl,rfl⟩ ⟨_,p2,rfl,rfl⟩ λc o x=>Heap.get?_push_of_some _ (Heap.get?_push_of_some _ (Heap.get?_push_of_some _ (Heap.get?_push_of_some _ (Heap.get?_push_of_some _ x))))⟩
def Q8 (K:PySem.W.Frag) (a b:Addr):It:=
 ⟨λi H=>∃ xs ys x y,zl K H a xs/\zl K H b ys/\xs[i]? = some x/\ys[i]? = some y,
  λi H v H'=>∃ T x y,v=.ref T/\H T=none/\H'=upd H T (.tup [x,y])/\(∀ xs,zl K H a xs->xs[i]? = some x)/\∀ ys,zl K H b ys->ys[i]? = some y,
  λi H=>∃ xs ys,zl K H a xs/\zl K H b ys/\i<=xs.length/\i<=ys.length/\(i=xs.length\/i=ys.length)⟩
theorem zIZ {P:Program} {w:World} {K:PySem.W.Frag} {es:List Expr} {kk:Nat} {tp:Pos} {a b z TI TO i1 i2:Addr} (Z:Zp z TI TO i1 i2 [i1,a] [i2,b]) (na:a≠i1) (nb:b≠i2) :
  xF P w K (.Tuple es kk tp) (Q8 K a b) [z,TI,TO,i1,i2] z (λi h=>IsZip h z TI TO .none/\IsPair h TI (.ref i1) (.ref i2)/\(∃ x y,IsPair h TO x y)/\h.IsTupleIter i1 a i/\h.IsTupleIter i2 b i) where
 mem:=by simp
 obj:=λi h ⟨t1,t2,⟨x,y,t3⟩,t4,t5⟩ c hc=>by
  simp only [List.mem_cons,List.not_mem_nil,or_false] at hc
  rcases hc with rfl | rfl | rfl | rfl | rfl
  ·exact ⟨_,t1,wg⟩
  ·exact ⟨_,t2,u9⟩
  ·exact ⟨_,t3,u9⟩
  ·obtain ⟨o,e,_,d⟩:=t4
   exact ⟨o,e,by rw [d]; exact wg⟩
  ·obtain ⟨o,e,_,d⟩:=t5
   exact ⟨o,e,by rw [d]; exact wg⟩
 keep:=λi h h' ⟨t1,t2,⟨x,y,t3⟩,t4,t5⟩ k=>⟨k z (by simp) _ t1,k TI (by simp) _ t2,⟨x,y,k TO (by simp) _ t3⟩,(by obtain ⟨o,e,r⟩:=t4; exact ⟨o,k i1 (by simp) o e,r⟩),(by obtain ⟨o,e,r⟩:=t5; exact ⟨o,k i2 (by simp) o e,r⟩)⟩
 item:=by
  intro X hP hw hK hc i pins s σ H E I hf ⟨t1,t2,⟨x0,y0,t3⟩,t4,t5⟩ hg
  subst hP hw hK
  obtain ⟨xs,ys,x,y,hq1,hq2,hx,hy⟩:=hg
  obtain ⟨its1,rv1,p1,_⟩:=I.tuple hq1
  obtain ⟨its2,rv2,p2,_⟩:=I.tuple hq2
  obtain ⟨u,hu,ru⟩:=rv1.get hx
  obtain ⟨v,hv,rv⟩:=rv2.get hy
  have hh:X.A.in1.handled=none:=I.ok.hd hc
  have l1:i < its1.toArray.size:=by rw [List.size_toArray]; exact (List.getElem?_eq_some_iff.mp hu).1
  have l2:i < its2.toArray.size:=by rw [List.size_toArray]; exact (List.getElem?_eq_some_iff.mp hv).1
  refine YN (u8 hh i1 a na its1.toArray) (u8 hh i2 b nb its2.toArray) Z t1 t2 t3 ⟨t4,p1⟩ ⟨t5,p2⟩ l1 l2 ?_
  intro x' y' h1 tk px py z1 z2 z3 z4 z5 z6 keep
  have ex:x'=u:=by
   have q:its1.toArray[i]? = some x':=px
   simp only [List.getElem?_toArray] at q
   rw [hu] at q
   exact (Option.some.inj q).symm
  have ey:y'=v:=by
   have q:its2.toArray[i]? = some y':=py
   simp only [List.getElem?_toArray] at q
   rw [hv] at q
   exact (Option.some.inj q).symm
  subst ex ey
  refine ⟨_,rfl,wpAny_letOwnedTupleGo_zip (s:={ s with heap:=h1,toks:=tk }) z1 λh2 z7 sb=>?_⟩
  have zlt:z < s.heap.objs.size:=Heap.lt_size t1
  have keep2:∀ c o,c∉[z,TI,TO,i1,i2]->s.heap.get? c=some o->h2.get? c=some o:=λc o hc e=>by
   simp only [List.mem_cons,List.not_mem_nil,or_false,not_or] at hc
   exact sb.extBut c o hc.1 (keep c o hc.1 hc.2.2.1 hc.2.2.2.1 hc.2.2.2.2 e)
  have pT:IsPair h2 s.heap.objs.size x' y':=sb.extBut _ _ (Nat.ne_of_gt zlt) z6
  have I':=I.turnT (h':=h2) (tk:=tk) (ch:=[z,TI,TO,i1,i2]) (x:=x) (y:=y) hf keep2 (Nat.le_refl _) pT ru rv
  refine ⟨.ref s.heap.objs.size,_,I',rfl,⟨s.heap.objs.size,x,y,rfl,I.hok.fresh (Nat.le_refl _),rfl,λxs' q=>by rw [I.tuple_inj q hq1]; exact hx,λys' q=>by rw [I.tuple_inj q hq2]; exact hy⟩,
   ⟨z7,sb.extBut _ _ Z.a1 z2,⟨_,_,sb.extBut _ _ Z.a2 z3⟩,z4.1.extBut sb.extBut Z.a3,z5.1.extBut sb.extBut Z.a4⟩,λc hc=>?_⟩
  have:=(hf c hc).1
  rw [zh]
  ·exact this
  ·intro q
   obtain ⟨o,e,_⟩:∃ o,s.heap.get? c=some o/\True:=by
    simp only [List.mem_cons,List.not_mem_nil,or_false] at hc
    rcases hc with rfl | rfl | rfl | rfl | rfl
    ·exact ⟨_,t1,trivial⟩
    ·exact ⟨_,t2,trivial⟩
    ·exact ⟨_,t3,trivial⟩
    ·obtain ⟨o,e,_⟩:=t4; exact ⟨o,e,trivial⟩
    ·obtain ⟨o,e,_⟩:=t5; exact ⟨o,e,trivial⟩
   rw [q] at e
   exact absurd (Heap.lt_size e) (Nat.lt_irrefl _)
 done:=by
  intro X hP hw hK hc i pins s σ H E I hf ⟨t1,t2,⟨x0,y0,t3⟩,t4,t5⟩ hg
  subst hP hw hK
  obtain ⟨xs,ys,hq1,hq2,e1,e2,e3⟩:=hg
  obtain ⟨its1,rv1,p1,_⟩:=I.tuple hq1
  obtain ⟨its2,rv2,p2,_⟩:=I.tuple hq2
  have hh:X.A.in1.handled=none:=I.ok.hd hc
  have n1:its1.toArray.size=xs.length:=by rw [List.size_toArray]; exact rv1.length.symm
  have n2:its2.toArray.size=ys.length:=by rw [List.size_toArray]; exact rv2.length.symm
  refine YO (u8 hh i1 a na its1.toArray) (u8 hh i2 b nb its2.toArray) Z t1 t2 t3 ⟨t4,p1⟩ ⟨t5,p2⟩ (by omega) (by omega) (by omega) ?_
  intro h1 tk keep
  refine ⟨rfl,I.turnN (h':=h1) (tk:=tk) (ch:=[z,TI,TO,i1,i2]) hf λc o hc e=>?_⟩
  simp only [List.mem_cons,List.not_mem_nil,or_false,not_or] at hc
  exact keep c o hc.1 hc.2.2.1 hc.2.2.2.1 hc.2.2.2.2 e
 self:=λ_ _ _ _ _ st h=>wpAny_pyIter_zip st.1 h
def Q9 (K:PySem.W.Frag) (a b:Addr):It:=
 ⟨λi H=>∃ xs ys x y,zV K H a xs/\zl K H b ys/\xs[i]? = some x/\ys[i]? = some y,
  λi H v H'=>∃ T x y,v=.ref T/\H T=none/\H'=upd H T (.tup [x,y])/\(∀ xs,zV K H a xs->xs[i]? = some x)/\∀ ys,zl K H b ys->ys[i]? = some y,
  λi H=>∃ xs ys,zV K H a xs/\zl K H b ys/\i<=xs.length/\i<=ys.length/\(i=xs.length\/i=ys.length)⟩
theorem zIa {P:Program} {w:World} {K:PySem.W.Frag} {es:List Expr} {kk:Nat} {tp:Pos} {a b z TI TO i1 i2:Addr} (Z:Zp z TI TO i1 i2 [i1,a] [i2,b]) (na:a≠i1) (nb:b≠i2) :
  xF P w K (.Tuple es kk tp) (Q9 K a b) [z,TI,TO,i1,i2] z (λi h=>IsZip h z TI TO .none/\IsPair h TI (.ref i1) (.ref i2)/\(∃ x y,IsPair h TO x y)/\h.IsListIter i1 a i/\h.IsTupleIter i2 b i) where
 mem:=by simp
 obj:=λi h ⟨t1,t2,⟨x,y,t3⟩,t4,t5⟩ c hc=>by
  simp only [List.mem_cons,List.not_mem_nil,or_false] at hc
  rcases hc with rfl | rfl | rfl | rfl | rfl
  ·exact ⟨_,t1,wg⟩
  ·exact ⟨_,t2,u9⟩
  ·exact ⟨_,t3,u9⟩
  ·obtain ⟨o,e,_,d⟩:=t4
   exact ⟨o,e,by rw [d]; exact wg⟩
  ·obtain ⟨o,e,_,d⟩:=t5
   exact ⟨o,e,by rw [d]; exact wg⟩
 keep:=λi h h' ⟨t1,t2,⟨x,y,t3⟩,t4,t5⟩ k=>⟨k z (by simp) _ t1,k TI (by simp) _ t2,⟨x,y,k TO (by simp) _ t3⟩,(by obtain ⟨o,e,r⟩:=t4; exact ⟨o,k i1 (by simp) o e,r⟩),(by obtain ⟨o,e,r⟩:=t5; exact ⟨o,k i2 (by simp) o e,r⟩)⟩
 item:=by
  intro X hP hw hK hc i pins s σ H E I hf ⟨t1,t2,⟨x0,y0,t3⟩,t4,t5⟩ hg
  subst hP hw hK
  obtain ⟨xs,ys,x,y,hq1,hq2,hx,hy⟩:=hg
  obtain ⟨its1,rv1,p1,_⟩:=I.list hq1
  obtain ⟨its2,rv2,p2,_⟩:=I.tuple hq2
  obtain ⟨u,hu,ru⟩:=rv1.get hx
  obtain ⟨v,hv,rv⟩:=rv2.get hy
  have hh:X.A.in1.handled=none:=I.ok.hd hc
  have l1:i < its1.toArray.size:=by rw [List.size_toArray]; exact (List.getElem?_eq_some_iff.mp hu).1
  have l2:i < its2.toArray.size:=by rw [List.size_toArray]; exact (List.getElem?_eq_some_iff.mp hv).1
  refine YN (Draws.list hh i1 a na its1.toArray) (u8 hh i2 b nb its2.toArray) Z t1 t2 t3 ⟨t4,p1.isList⟩ ⟨t5,p2⟩ l1 l2 ?_
  intro x' y' h1 tk px py z1 z2 z3 z4 z5 z6 keep
  have ex:x'=u:=by
   have q:its1.toArray[i]? = some x':=px
   simp only [List.getElem?_toArray] at q
   rw [hu] at q
   exact (Option.some.inj q).symm
  have ey:y'=v:=by
   have q:its2.toArray[i]? = some y':=py
   simp only [List.getElem?_toArray] at q
   rw [hv] at q
   exact (Option.some.inj q).symm
  subst ex ey
  refine ⟨_,rfl,wpAny_letOwnedTupleGo_zip (s:={ s with heap:=h1,toks:=tk }) z1 λh2 z7 sb=>?_⟩
  have zlt:z < s.heap.objs.size:=Heap.lt_size t1
  have keep2:∀ c o,c∉[z,TI,TO,i1,i2]->s.heap.get? c=some o->h2.get? c=some o:=λc o hc e=>by
   simp only [List.mem_cons,List.not_mem_nil,or_false,not_or] at hc
   exact sb.extBut c o hc.1 (keep c o hc.1 hc.2.2.1 hc.2.2.2.1 hc.2.2.2.2 e)
  have pT:IsPair h2 s.heap.objs.size x' y':=sb.extBut _ _ (Nat.ne_of_gt zlt) z6
  have I':=I.turnT (h':=h2) (tk:=tk) (ch:=[z,TI,TO,i1,i2]) (x:=x) (y:=y) hf keep2 (Nat.le_refl _) pT ru rv
  refine ⟨.ref s.heap.objs.size,_,I',rfl,⟨s.heap.objs.size,x,y,rfl,I.hok.fresh (Nat.le_refl _),rfl,λxs' q=>by rw [I.list_inj q hq1]; exact hx,λys' q=>by rw [I.tuple_inj q hq2]; exact hy⟩,
   ⟨z7,sb.extBut _ _ Z.a1 z2,⟨_,_,sb.extBut _ _ Z.a2 z3⟩,z4.1.extBut sb.extBut Z.a3,z5.1.extBut sb.extBut Z.a4⟩,λc hc=>?_⟩
  have:=(hf c hc).1
  rw [zh]
  ·exact this
  ·intro q
   obtain ⟨o,e,_⟩:∃ o,s.heap.get? c=some o/\True:=by
    simp only [List.mem_cons,List.not_mem_nil,or_false] at hc
    rcases hc with rfl | rfl | rfl | rfl | rfl
    ·exact ⟨_,t1,trivial⟩
    ·exact ⟨_,t2,trivial⟩
    ·exact ⟨_,t3,trivial⟩
    ·obtain ⟨o,e,_⟩:=t4; exact ⟨o,e,trivial⟩
    ·obtain ⟨o,e,_⟩:=t5; exact ⟨o,e,trivial⟩
   rw [q] at e
   exact absurd (Heap.lt_size e) (Nat.lt_irrefl _)
 done:=by
  intro X hP hw hK hc i pins s σ H E I hf ⟨t1,t2,⟨x0,y0,t3⟩,t4,t5⟩ hg
  subst hP hw hK
  obtain ⟨xs,ys,hq1,hq2,e1,e2,e3⟩:=hg
  obtain ⟨its1,rv1,p1,_⟩:=I.list hq1
  obtain ⟨its2,rv2,p2,_⟩:=I.tuple hq2
  have hh:X.A.in1.handled=none:=I.ok.hd hc
  have n1:its1.toArray.size=xs.length:=by rw [List.size_toArray]; exact rv1.length.symm
  have n2:its2.toArray.size=ys.length:=by rw [List.size_toArray]; exact rv2.length.symm
  refine YO (Draws.list hh i1 a na its1.toArray) (u8 hh i2 b nb its2.toArray) Z t1 t2 t3 ⟨t4,p1.isList⟩ ⟨t5,p2⟩ (by omega) (by omega) (by omega) ?_
  intro h1 tk keep
  refine ⟨rfl,I.turnN (h':=h1) (tk:=tk) (ch:=[z,TI,TO,i1,i2]) hf λc o hc e=>?_⟩
  simp only [List.mem_cons,List.not_mem_nil,or_false,not_or] at hc
  exact keep c o hc.1 hc.2.2.1 hc.2.2.2.1 hc.2.2.2.2 e
 self:=λ_ _ _ _ _ st h=>wpAny_pyIter_zip st.1 h
theorem zJ.seqT {K:PySem.W.Frag} {H H':Hp} {a:Addr} {xs:List V} (e:zJ H H') (h:zl K H a xs):zl K H' a xs:=by
 rcases h with (h | ⟨o,h⟩) | h
 ·exact .inl (.inl (e _ _ h))
 ·exact .inl (.inr ⟨o,e _ _ h⟩)
 ·exact .inr h
def Ye (K:PySem.W.Frag) (H:Hp) (a:Addr) (xs:List V):Prop:=zl K H a xs\/zV K H a xs
theorem Ye.same {K:PySem.W.Frag} {H H':Hp} {a:Addr} {xs:List V} (s:zJ H H') (h:Ye K H a xs):Ye K H' a xs:=h.imp (λz=>s.seqT z) (λz=>s.seq z)
section
variable {X:Cx} {es:List Expr} {kk:Nat} {tp:Pos}
theorem uQ {pins:List (Addr × Obj)} {σ:St} {H:Hp} {s:Shared} (I:zD X pins σ H s) {c:Addr} (hc:c∈[s.heap.objs.size + 4,s.heap.objs.size + 2,s.heap.objs.size + 3,s.heap.objs.size,s.heap.objs.size + 1]):zv X pins H c:=by
 have ge:s.heap.objs.size<=c:=by
  simp only [List.mem_cons,List.not_mem_nil,or_false] at hc
  rcases hc with rfl | rfl | rfl | rfl | rfl
  ·exact Nat.le_add_right _ 4
  ·exact Nat.le_add_right _ 2
  ·exact Nat.le_add_right _ 3
  ·exact Nat.le_refl _
  ·exact Nat.le_add_right _ 1
 exact I.fpOk ge (I.hok.fresh ge)
def orZ (K:PySem.W.Frag) (H:Hp) (a b:Addr) (R:It->Hp->Prop):Prop:=
 ((∃ xs,zl K H a xs)/\(∃ ys,zV K H b ys)/\R (Qq K a b) H)\/((∃ xs,zV K H a xs)/\(∃ ys,zV K H b ys)/\R (gh K a b) H)\/((∃ xs,zl K H a xs)/\(∃ ys,zl K H b ys)/\R (Q8 K a b) H)\/((∃ xs,zV K H a xs)/\(∃ ys,zl K H b ys)/\R (Q9 K a b) H)
def gl (K:PySem.W.Frag) (ta:TA):TI:=λσ H R=>ta σ H λvs H1=>∃ a b,vs=[.ref a,.ref b]/\orZ K H1 a b R
theorem zNA {e1 e2:Expr} {ta:TA} {p pos:Pos} (hg:Gl X "zip") (hm:X.mg "zip" = none) (ha:PA X [e1,e2] ta) (hs:starEach [e1,e2] X.env=[(false,eval e1 X.env),(false,eval e2 X.env)]:=by rfl) (hs2:starEach [e2] X.env=[(false,eval e2 X.env)]:=by rfl) :
  PI X (.Tuple es kk tp) (.Call (.Name "zip" p) [e1,e2] [] pos) (gl X.K ta):=by
 intro pins s σ H R I h
 refine Call_ (ux I hg hm (show bootBuiltins "zip" = some (.type "zip") by decide +kernel) (PyProof.Rows.callWith_type1 (zb (ha pos pins s σ H _ I h) λus s1 ⟨vs,H1,I1,r1,q1⟩=>?_) (by rw [hs,hs2]) (by rw [hs2]; rfl)))
 obtain ⟨a,b,e,q1⟩:=q1
 subst e
 obtain ⟨u,v,rfl,ru,rv⟩:=qJ r1
 cases ru
 cases rv
 rcases q1 with ⟨⟨xs,hx⟩,⟨ys,hy⟩,q⟩ | ⟨⟨xs,hx⟩,⟨ys,hy⟩,q⟩ | ⟨⟨xs,hx⟩,⟨ys,hy⟩,q⟩ | ⟨⟨xs,hx⟩,⟨ys,hy⟩,q⟩
 ·obtain ⟨its1,rv1,p1,_⟩:=I1.tuple hx
  obtain ⟨its2,rv2,p2,_⟩:=I1.list hy
  have la:a < s1.heap.objs.size:=by obtain ⟨o,e,_⟩:=p1; exact Heap.lt_size e
  have lb:b < s1.heap.objs.size:=by obtain ⟨o,n,e,_⟩:=p2; exact Heap.lt_size e
  refine zHe p1 p2.isList λh' z1 z2 z3 z4 z5 keep=>wpAny_pyIter_zip z1 ?_
  have I2:zD X pins σ H1 { s1 with heap:=h' }:=I1.kept (t':=s1.toks) keep
  exact ⟨s1.heap.objs.size + 4,[s1.heap.objs.size + 4,s1.heap.objs.size + 2,s1.heap.objs.size + 3,s1.heap.objs.size,s1.heap.objs.size + 1],_,_,H1,rfl,I2,
   zK8 (a:=a) (b:=b) (YQ _ _ _ la lb) (Nat.ne_of_lt la) (Nat.ne_of_lt (Nat.lt_succ_of_lt lb)),⟨z1,z2,⟨_,_,z3⟩,z4,z5⟩,λc hc=>uQ I1 hc,q⟩
 ·obtain ⟨its1,rv1,p1,_⟩:=I1.list hx
  obtain ⟨its2,rv2,p2,_⟩:=I1.list hy
  have la:a < s1.heap.objs.size:=by obtain ⟨o,n,e,_⟩:=p1; exact Heap.lt_size e
  have lb:b < s1.heap.objs.size:=by obtain ⟨o,n,e,_⟩:=p2; exact Heap.lt_size e
  refine call_zip_2 p1.isList p2.isList λh' z1 z2 z3 z4 z5 _ keep=>wpAny_pyIter_zip z1 ?_
  have I2:zD X pins σ H1 { s1 with heap:=h' }:=I1.kept (t':=s1.toks) keep
  exact ⟨s1.heap.objs.size + 4,[s1.heap.objs.size + 4,s1.heap.objs.size + 2,s1.heap.objs.size + 3,s1.heap.objs.size,s1.heap.objs.size + 1],_,_,H1,rfl,I2,
   zJB (a:=a) (b:=b) (YQ _ _ _ la lb) (Nat.ne_of_lt la) (Nat.ne_of_lt (Nat.lt_succ_of_lt lb)),⟨z1,z2,⟨_,_,z3⟩,z4,z5⟩,λc hc=>uQ I1 hc,q⟩
 ·obtain ⟨its1,rv1,p1,_⟩:=I1.tuple hx
  obtain ⟨its2,rv2,p2,_⟩:=I1.tuple hy
  have la:a < s1.heap.objs.size:=by obtain ⟨o,e,_⟩:=p1; exact Heap.lt_size e
  have lb:b < s1.heap.objs.size:=by obtain ⟨o,e,_⟩:=p2; exact Heap.lt_size e
  refine zHd p1 p2 λh' z1 z2 z3 z4 z5 keep=>wpAny_pyIter_zip z1 ?_
  have I2:zD X pins σ H1 { s1 with heap:=h' }:=I1.kept (t':=s1.toks) keep
  exact ⟨s1.heap.objs.size + 4,[s1.heap.objs.size + 4,s1.heap.objs.size + 2,s1.heap.objs.size + 3,s1.heap.objs.size,s1.heap.objs.size + 1],_,_,H1,rfl,I2,
   zIZ (a:=a) (b:=b) (YQ _ _ _ la lb) (Nat.ne_of_lt la) (Nat.ne_of_lt (Nat.lt_succ_of_lt lb)),⟨z1,z2,⟨_,_,z3⟩,z4,z5⟩,λc hc=>uQ I1 hc,q⟩
 ·obtain ⟨its1,rv1,p1,_⟩:=I1.list hx
  obtain ⟨its2,rv2,p2,_⟩:=I1.tuple hy
  have la:a < s1.heap.objs.size:=by obtain ⟨o,n,e,_⟩:=p1; exact Heap.lt_size e
  have lb:b < s1.heap.objs.size:=by obtain ⟨o,e,_⟩:=p2; exact Heap.lt_size e
  refine zHf p1.isList p2 λh' z1 z2 z3 z4 z5 keep=>wpAny_pyIter_zip z1 ?_
  have I2:zD X pins σ H1 { s1 with heap:=h' }:=I1.kept (t':=s1.toks) keep
  exact ⟨s1.heap.objs.size + 4,[s1.heap.objs.size + 4,s1.heap.objs.size + 2,s1.heap.objs.size + 3,s1.heap.objs.size,s1.heap.objs.size + 1],_,_,H1,rfl,I2,
   zIa (a:=a) (b:=b) (YQ _ _ _ la lb) (Nat.ne_of_lt la) (Nat.ne_of_lt (Nat.lt_succ_of_lt lb)),⟨z1,z2,⟨_,_,z3⟩,z4,z5⟩,λc hc=>uQ I1 hc,q⟩
def gm (K:PySem.W.Frag):R2:=λx y H Q=>∃ p xs i v,x=.ref p/\y=.int i/\Ye K H p xs/\yX xs i=some v/\Q v H
theorem zNc:u4 X (gm X.K):=by
 intro value slice pins s σ H x y v u Q I rx ry h hs
 obtain ⟨p,xs,i,z,e1,e2,hq,he,q⟩:=h
 rcases hq with hq | hq
 ·exact zPQ value slice pins s σ H x y v u Q I rx ry ⟨p,xs,i,z,e1,e2,hq,he,q⟩ hs
 ·exact QY value slice pins s σ H x y v u Q I rx ry ⟨p,xs,i,z,e1,e2,hq,he,q⟩ hs
end
section
variable {prog:Program} {w:World} {A:Around} {E:Value->Shared->Prop}
theorem KA {it l:Addr} {xs:Array Value} (ne:l≠it):∀ (m j:Nat) (s:Shared) (R:List Value->Shared->Prop),s.heap.IsListIter it l j->s.heap.IsList l xs->j + m<=xs.size->
  (∀ g,g.IsListIter it l (j + m)->Heap.SameBut it s.heap g->R ((xs.toList.drop j).take m) { s with heap:=g })->wpAny (model prog w) A (draw (.ref it) m) R E s
 | 0,j,s,R,hi,_,_,k=>wpAny_pure (by simpa using k s.heap hi (Heap.SameBut.refl ..))
 | m + 1,j,s,R,hi,hl,le,k=>by
  have lt:j < xs.size:=by omega
  have step:=λg (z:Heap.SameBut it s.heap g)=>(hl.extBut z.extBut ne:g.IsList l xs)
  show wpAny _ _ (pyNext (.ref it) >>= _) R E s
  refine wpAny_bind (wpAny_pyNext_list_item hi hl (x:=xs[j]) (by simp [lt]) λg1 i1 b1=>?_)
  refine wpAny_bind (wpAny_holding (KA ne m (j + 1) _ _ i1 (step g1 b1) (by omega) λg2 i2 b2=>wpAny_pure ?_))
  have z:=k g2 (by rw [show j + (m + 1)=j + 1 + m by omega]; exact i2) (b1.trans b2)
  rw [show xs.toList.drop j=xs[j] :: xs.toList.drop (j + 1) by simp [List.drop_eq_getElem_cons,lt],List.take_succ_cons] at z
  exact z
theorem zPR {s:Shared} {l:Addr} {xs:Array Value} {R:List Value->Shared->Prop} (hd:A.handled=none) (hl:s.heap.IsList l xs)
  (k:∀ g,Heap.ExtBut s.heap.objs.size s.heap g->R xs.toList { s with heap:=g }):wpAny (model prog w) A (unpackItems (.ref l) xs.size none) R E s:=by
 have ne:l≠s.heap.objs.size:=by
  obtain ⟨o,eo,_⟩:=hl
  exact Nat.ne_of_lt (Heap.lt_size eo)
 unfold unpackItems
 refine wpAny_bind ?_
 unfold notIterableAtAll
 refine wpAny_bind (wpAny_specialOf hl.typeIs slot_list_iter.lookup ?_)
 refine wpAny_pure ?_
 simp only [Bool.false_eq_true,if_false]
 refine wpAny_bind (wpAny_holding (wpAny_pyIter_list hl ?_))
 refine wpAny_bind (wpAny_holding (KA ne xs.size 0 _ _ ⟨_,Heap.get?_push_size _ rfl,rfl,rfl⟩ (hl.push _) (by omega) λg1 i1 b1=>?_))
 rw [show List.take xs.size (List.drop 0 xs.toList)=xs.toList by rw [List.drop_zero]; exact List.take_of_length_le (by simp),if_neg (by simp)]
 refine wpAny_bind (wpAny_holding (wpAny_pyNext_list_end hd i1 ((hl.push _).extBut b1.extBut ne) (by simp) λg2 x2=>?_))
 simp only [Option.isSome_none,Bool.false_eq_true,if_false]
 exact wpAny_pure (k g2 λc o n e=>x2 c o n (b1.extBut c o n (Heap.get?_push_of_some _ e)))
end
section
variable {X:Cx} {pos:Pos}
def WQ (K:PySem.W.Frag) (n:Nat) (t:uH):TG:=λv σ H Q=>∃ a xs,v=.ref a/\zV K H a xs/\xs.length=n/\t xs σ H Q
theorem zOq {es:List Expr} {k:Nat} {t:uH} {n:Nat} (hc:X.calm=true) (h:qG X es t)
  (hn:(assignEach es X.env).length=n:=by rfl) (hst:(assignEach es X.env).findIdx? (·.1)=none:=by rfl):PG X (.Tuple es k pos) (WQ X.K n t):=by
 intro pins s σ H v u Q I r hw
 obtain ⟨a,xs,e1,hq,hl,hw⟩:=hw
 subst e1
 cases r
 obtain ⟨its,rv,ht,hz⟩:=I.list hq
 rw [assign_Tuple]
 refine wpAny_bind (wpAny_standAt ?_)
 unfold unpack
 rw [show (assignEach es X.env).length=its.toArray.size by simp [hn,<- hl,rv.length],hst]
 refine wpAny_bind (wpAny_holding (zPR (I.ok.hd hc) ht.isList λg hx=>?_))
 have I1:zD X pins σ H { s with heap:=g }:=I.kept (t':=s.toks) λb o e=>hx b o (Nat.ne_of_lt (Heap.lt_size e)) e
 exact h pins _ σ H xs _ Q I1 (by simpa using rv) hw
end
end L2
namespace L2
open PySem PySem.Spec PyProof.Rows
inductive ve (i:Nat) (σ:St) (H:Hp) (Q:VK):Prop
 | mk (v:V) (_:σ[i]? = some (some v)) (_:Q v H):ve i σ H Q
inductive ja (x:V) (vs:List V) (H:Hp) (Q:VK):Prop
 | mk (l:Addr) (xs:List V) (y:V) (_:x=.ref l) (_:vs=[y]) (_:H l=some (.lst xs)) (_:xs.length < sizeLine) (_:Q .non (upd H l (.lst (xs++[y])))):ja x vs H Q
inductive jb (o i v:V) (H:Hp) (Q:Hp->Prop):Prop
 | mk (p:Addr) (xs:List V) (k:Int) (j:Nat) (_:o=.ref p) (_:i=.int k) (_:H p=some (.lst xs)) (_:xn xs.length k=some j) (_:Q (upd H p (.lst (xs.set j v)))):jb o i v H Q
section
variable {X:Cx}
theorem yq:Qb X "list.append" ja:=λpins s σ H x xs v us Q I rx rv ⟨l,ys,y,h1,h2,h3,h4,q⟩=>zJ5 pins s σ H x xs v us Q I rx rv ⟨l,ys,y,h1,h2,h3,h4,q⟩
theorem jc:jS X jb:=λpins s σ H o i v ov iv u Q I h1 h2 h3 ⟨p,xs,k,j,a,b,c,d,q⟩=>zLE pins s σ H o i v ov iv u Q I h1 h2 h3 ⟨p,xs,k,j,a,b,c,d,q⟩
theorem yx (i:Nat) {x:Str} {pos:Pos} (hN:X.N[i]? = some x:=by rfl) (hv:qF X.env.scope x:=by first | exact Or.inl rfl | exact Or.inr (Or.inl rfl) | exact Or.inr (Or.inr rfl)) (hd:(x == ("__debug__" : Str))=false:=by decide)
  (hcd:(x == ("__classdict__" : Str))=false:=by decide):PE X (.Name x pos) (ve i):=λpins s σ H Q I ⟨v,e,h⟩=>Xk hN hv hd hcd pins s σ H Q I ⟨v,e,h⟩
end
end L2
namespace Sh
open PySem L2
def uR (H:Hp) (v:V) (r:List Int):Prop:=∃ a,v=.ref a/\H a=some (.lst (r.map V.int))
abbrev wK (H:Hp) (vs:List V) (tab:List (List Int)):Prop:=Paired (uR H) vs tab
theorem uR.same {H H':Hp} {v:V} {r:List Int} (s:zJ H H') (h:uR H v r):uR H' v r:=let ⟨a,e,q⟩:=h; ⟨a,e,s _ _ q⟩
theorem wK.same {H H':Hp} {vs:List V} {tab:List (List Int)} (s:zJ H H') (h:wK H vs tab):wK H' vs tab:=Paired.mapP h λ_ _ z=>z.same s
def gn (p:Addr) (H H':Hp):Prop:=∀ b o,H b=some o->b≠p->H' b=some o
theorem zJ.but {p:Addr} {H H':Hp} (s:zJ H H'):gn p H H':=λb o e _=>s b o e
theorem gn.trans {p:Addr} {H H1 H2:Hp} (a:gn p H H1) (b:gn p H1 H2):gn p H H2:=λc o e n=>b c o (a c o e n) n
def gq (H0 H:Hp) (v:V) (r:List Int):Prop:=∃ a,v=.ref a/\H0 a=none/\H a=some (.lst (r.map V.int))
structure MD where
 rows:List (List Int)
 nexts:List (List Int)
 steer:List Int
 push:List (List Int)
 add:List Int
 div:Int
structure uS (m:MD) (n p:Nat):Prop where
 rows:∀ r∈m.rows,r.length=n + 1
 few:m.rows.length<=900
 nexts:m.nexts.length=n/\∀ r∈m.nexts,r.length=n
 steer:m.steer.length=n
 push:m.push.length=n/\∀ r∈m.push,r.length=p
 add:m.add.length=n
 div:1<=m.div
 n3:n<=3
 p6:p<=12
def gr (r n s p a:V) (d:Int):List (Str × V):=[("rows",r),("nexts",n),("steer",s),("push",p),("add",a),("divisor",.int d)]
structure WR (C:Addr) (H:Hp) (o:Addr) (m:MD) where
 dx:Addr
 r:Addr
 rv:List V
 n:Addr
 nv:List V
 s:Addr
 p:Addr
 pv:List V
 a:Addr
structure WR.Ok {C:Addr} {H:Hp} {o:Addr} {m:MD} (M:WR C H o m):Prop where
 ins:H o=some (.ins C M.dx (gr (.ref M.r) (.ref M.n) (.ref M.s) (.ref M.p) (.ref M.a) m.div))
 hr:H M.r=some (.lst M.rv)
 hrv:vz H M.rv m.rows
 hn:H M.n=some (.lst M.nv)
 hnv:wK H M.nv m.nexts
 hs:H M.s=some (.lst (m.steer.map V.int))
 hp:H M.p=some (.lst M.pv)
 hpv:wK H M.pv m.push
 ha:H M.a=some (.lst (m.add.map V.int))
def Yg (C:Addr) (H:Hp) (v:V) (m:MD):Prop:=∃ (o:Addr) (M:WR C H o m),v=.ref o/\M.Ok
theorem Yg.same {C:Addr} {H H':Hp} {v:V} {m:MD} (s:zJ H H') (h:Yg C H v m):Yg C H' v m:=
 let ⟨o,M,e,k⟩:=h
 ⟨o,⟨M.dx,M.r,M.rv,M.n,M.nv,M.s,M.p,M.pv,M.a⟩,e,⟨s _ _ k.ins,s _ _ k.hr,vz.same s k.hrv,s _ _ k.hn,wK.same s k.hnv,s _ _ k.hs,s _ _ k.hp,wK.same s k.hpv,s _ _ k.ha⟩⟩
def Yh (H:Hp) (v:V) (b:Int × Int):Prop:=∃ a,v=.ref a/\H a=some (.tup [.int b.1,.int b.2])
theorem Yh.same {H H':Hp} {v:V} {b:Int × Int} (s:zJ H H') (h:Yh H v b):Yh H' v b:=let ⟨a,e,q⟩:=h; ⟨a,e,s _ _ q⟩
structure wZ (n:Nat) (bs:List (Int × Int)) (ms:List MD):Prop where
 n1:1<=n
 n3:n<=3
 bok:∀ b∈bs,b.1<=b.2
 b6:bs.length<=6
 m1:1<=ms.length
 m40:ms.length<=40
 mok:∀ m∈ms,uS m n bs.length
def zOF (n:Int) (p m:V):List (Str × V):=[("many",.int n),("kept_pushes",p),("kept_modes",m)]
structure WS (C CM:Addr) (H:Hp) (o:Addr) (n:Nat) (bs:List (Int × Int)) (ms:List MD) (pv mv:List V) (kp km:Addr):Prop where
 ins:∃ dx,H o=some (.ins C dx (zOF (n:Int) (.ref kp) (.ref km)))
 hp:H kp=some (.lst pv)
 hpv:Paired (Yh H) pv bs
 hm:H km=some (.lst mv)
 hmv:Paired (Yg CM H) mv ms
theorem WS.same {C CM:Addr} {H H':Hp} {o:Addr} {n:Nat} {bs:List (Int × Int)} {ms:List MD} {pv mv:List V} {kp km:Addr} (s:zJ H H') (h:WS C CM H o n bs ms pv mv kp km):WS C CM H' o n bs ms pv mv kp km:=
 ⟨let ⟨dx,e⟩:=h.ins; ⟨dx,s _ _ e⟩,s _ _ h.hp,Paired.mapP h.hpv λ_ _ z=>z.same s,s _ _ h.hm,Paired.mapP h.hmv λ_ _ z=>z.same s⟩
theorem zLu {K:PySem.W.Frag} {C:Addr}:PySem.W.kitOne K (.ref C) (.ref C)=some true:=by
 unfold PySem.W.kitOne
 rw [if_pos (by simp)]
theorem gq.tab {H0 H:Hp} {vs:List V} {tab:List (List Int)} (h:Paired (gq H0 H) vs tab):wK H vs tab:=Paired.mapP h λ_ _ ⟨a,e,_,q⟩=>⟨a,e,q⟩
end Sh
namespace Sh
open PySem L2
def yk (B:List Addr) (H H':Hp):Prop:=∀ b o,H b=some o->b∉B->H' b=some o
theorem yk.refl (B:List Addr) (H:Hp):yk B H H:=λ_ _ e _=>e
theorem yk.put {B:List Addr} {H H':Hp} {x:Addr} (o:HO) (h:yk B H H') (hx:x∈B):yk B H (upd H' x o):=λb u e nb=>by
 rw [zh (λe'=>by rw [e'] at nb; exact nb hx)]
 exact h b u e nb
theorem yk.new {B:List Addr} {H H':Hp} {x:Addr} (o:HO) (h:yk B H H') (hx:H' x=none):yk B H (upd H' x o):=λb u e nb=>by
 have z:=h b u e nb
 rw [zh (λe'=>by rw [e',hx] at z; cases z)]
 exact z
theorem yk.trans {B:List Addr} {H H1 H2:Hp} (a:yk B H H1) (b:yk B H1 H2):yk B H H2:=λc o e n=>b c o (a c o e n) n
theorem yk.same {B:List Addr} {H H1 H2:Hp} (a:yk B H H1) (b:zJ H1 H2):yk B H H2:=λc o e n=>b c o (a c o e n)
theorem yk.of {B:List Addr} {H H1:Hp} (s:zJ H H1):yk B H H1:=λc o e _=>s c o e
theorem yk.cut {A B:List Addr} {H H1:Hp} (h1:yk A H H1) (h:∀ x∈A,x∉B->H x=none):yk B H H1:=λb o e n=>h1 _ _ e λz=>by
 rw [h b z n] at e
 cases e
theorem yk.free {B:List Addr} {H H':Hp} (s:yk B H H') {l:Addr} (h:H' l=none) (n:l∉B):H l=none:=by
 cases e:H l with
 | none=>rfl
 | some u=>rw [s _ _ e n] at h; cases h
def hide (B:List Addr) (H:Hp):Hp:=λb=>if b∈B then none else H b
theorem KB {B:List Addr} {H:Hp} {b:Addr} (e:b∉B):hide B H b=H b:=by unfold hide; rw [if_neg e]
theorem zJQ {H:Hp} {x dx:Addr} (hx:H x=none) (hdx:H dx=none) (ne:dx≠x) (u o:HO):zJ H (upd (upd H dx u) x o):=
 (qS hdx _).trans (qS ((zh (Ne.symm ne)).trans hx) _)
end Sh
namespace L2
open PySem PySem.Spec PyProof.Rows
section
variable {X:Cx} {e:Expr}
end
theorem zF.no {P:Program} {w:World} {K:PySem.W.Frag} {mg:Str->Option Value} {base:Heap} {CX:wY} {k:Nat} {f:Addr} {fd:FuncData} {ps:List Str} {sp:Sp} (hn:∀ vs H Q E,¬ sp vs H Q E):zF P w K mg base CX k f fd ps sp:=
 ⟨λ_ _ _ _ h=>(hn _ _ _ _ h).elim,λ_ _ _ _ _ _ _ _ _ _ _ _ _ h=>(hn _ _ _ _ h).elim⟩
end L2
namespace Sh
inductive RT where
 | str (ns:List Int) (a d:Int)
 | stp (t:RT) (lo hi:Int)
 | prt (row:List Int) (x y:RT)
def RT.dep:RT->Nat
 | .str _ _ _=>1
 | .stp t _ _=>t.dep + 1
 | .prt _ x y=>max x.dep y.dep + 1
def RT.rows:RT->List (List Int)
 | .str _ _ _=>[]
 | .stp t _ _=>t.rows
 | .prt r x y=>[r]++x.rows++y.rows
def xH (pts:List (Int × Int)):RT->Int × Int
 | .str ns a d=>(WF ((u5 ns pts).1 + a * (u5 ns pts).2) ((u5 ns pts).2 * d),WG ((u5 ns pts).1 + a * (u5 ns pts).2) ((u5 ns pts).2 * d))
 | .stp t lo hi=>if (xH pts t).1 < lo * (xH pts t).2 then (lo,1) else if hi * (xH pts t).2 < (xH pts t).1 then (hi,1) else xH pts t
 | .prt row x y=>if (u5 (row.take pts.length) pts).1<=row.getD pts.length 0 * (u5 (row.take pts.length) pts).2 then xH pts x else xH pts y
end Sh
namespace Sh
open PySem L2
def xV (n:Nat):RT->Prop
 | .str ns a d=>ns.length=n/\(∀ x∈ns,Bd 300 x)/\Bd 300 a/\0 < d/\Bd 300 d
 | .stp t lo hi=>xV n t/\Bd 300 lo/\Bd 300 hi
 | .prt r x y=>(r.length=n + 1/\∀ z∈r,Bd 300 z)/\xV n x/\xV n y
def gt (l:V) (a d:Int):List (Str × V):=[("numbers",l),("add",.int a),("divisor",.int d)]
def WT (u:V) (lo hi:Int):List (Str × V):=[("rule",u),("low",.int lo),("high",.int hi)]
def WU (r u w:V):List (Str × V):=[("row",r),("rule",u),("other",w)]
def uT (C1 C2 C3:Addr) (H:Hp):V->RT->Prop
 | v,.str ns a d=>∃ o dx la,v=.ref o/\H o=some (.ins C1 dx (gt (.ref la) a d))/\H la=some (.lst (ns.map V.int))
 | v,.stp t lo hi=>∃ o dx u,v=.ref o/\H o=some (.ins C2 dx (WT u lo hi))/\uT C1 C2 C3 H u t
 | v,.prt r x y=>∃ o dx ra u w,v=.ref o/\H o=some (.ins C3 dx (WU (.ref ra) u w))/\H ra=some (.tup (r.map V.int))/\uT C1 C2 C3 H u x/\uT C1 C2 C3 H w y
theorem uT.same {C1 C2 C3:Addr} {H H':Hp} (s:zJ H H'):∀ {t:RT} {v:V},uT C1 C2 C3 H v t->uT C1 C2 C3 H' v t
 | .str ..,_,⟨o,dx,la,e,h1,h2⟩=>⟨o,dx,la,e,s _ _ h1,s _ _ h2⟩
 | .stp ..,_,⟨o,dx,u,e,h1,h2⟩=>⟨o,dx,u,e,s _ _ h1,uT.same s h2⟩
 | .prt ..,_,⟨o,dx,ra,u,w,e,h1,h2,h3,h4⟩=>⟨o,dx,ra,u,w,e,s _ _ h1,s _ _ h2,uT.same s h3,uT.same s h4⟩
def uU (H:Hp):V->RT->Prop
 | v,.str ns a d=>∃ o la,v=.ref o/\H o=some (.tup [.str "straight",.ref la,.int a,.int d])/\H la=some (.lst (ns.map V.int))
 | v,.stp t lo hi=>∃ o u,v=.ref o/\H o=some (.tup [.str "stopped",u,.int lo,.int hi])/\uU H u t
 | v,.prt r x y=>∃ o ra u w,v=.ref o/\H o=some (.tup [.str "parted",.ref ra,u,w])/\H ra=some (.tup (r.map V.int))/\uU H u x/\uU H w y
theorem uU.same {H H':Hp} (s:zJ H H'):∀ {t:RT} {v:V},uU H v t->uU H' v t
 | .str ..,_,⟨o,la,e,h1,h2⟩=>⟨o,la,e,s _ _ h1,s _ _ h2⟩
 | .stp ..,_,⟨o,u,e,h1,h2⟩=>⟨o,u,e,s _ _ h1,uU.same s h2⟩
 | .prt ..,_,⟨o,ra,u,w,e,h1,h2,h3,h4⟩=>⟨o,ra,u,w,e,s _ _ h1,s _ _ h2,uU.same s h3,uU.same s h4⟩
theorem xV.row {n:Nat} {r:List Int} (h:r.length=n + 1/\∀ z∈r,Bd 300 z):gj r n:=⟨h.1,λx hx=>(h.2 x hx).mono⟩
theorem xV.rows {n:Nat}:∀ {t:RT},xV n t->∀ r∈t.rows,r.length=n + 1/\∀ z∈r,Bd 300 z
 | .str ..,_=>λr hr=>by cases hr
 | .stp ..,h=>λr hr=>xV.rows h.1 r hr
 | .prt q x y,h=>λr hr=>by
  rcases List.mem_append.mp hr with hr | hr
  ·rcases List.mem_append.mp hr with hr | hr
   ·rw [List.mem_singleton.mp hr]; exact h.1
   ·exact xV.rows h.2.1 r hr
  ·exact xV.rows h.2.2 r hr
def WV (H:Hp) (a:Addr):Prop:=∃ ns:List Int,H a=some (.lst (ns.map V.int))/\1<=ns.length
end Sh
namespace Sh
open PySem L2
theorem WV.put {H:Hp} {b:Addr} {ns:List Int} (hn:1<=ns.length) {a:Addr} (h:WV H a):WV (upd H b (.lst (ns.map V.int))) a:=by
 by_cases e:a=b
 ·rw [e]; exact ⟨ns,xB,hn⟩
 ·obtain ⟨ms,h1,h2⟩:=h
  exact ⟨ms,(zh e).trans h1,h2⟩
end Sh
namespace L2
open PySem PySem.Spec PyProof.Rows Sh
section
variable {X:Cx}
inductive KC (K:PySem.W.Frag) (x y:V) (H:Hp) (Q:VK):Prop
 | mk (a b:Addr) (xs ys:List V) (_:x=.ref a) (_:y=.ref b) (_:H a=some (.tup xs)) (_:H b=some (.tup ys)) (_:xs≠[]) (_:xs.length + ys.length<=sizeLine) (_:∀ p H',zJ H H'->H' p=some (.tup (xs++ys))->Q (.ref p) H'):KC K x y H Q
theorem zNK:yW X (binaryOp .Add) (KC X.K):=by
 intro pins s σ H x y v u Q I rx ry h
 obtain ⟨a,b,xs,ys,rfl,rfl,ha,hb,hne,hz,q⟩:=h
 exact zNL pins s σ H _ _ v u Q I rx ry ⟨a,b,xs,ys,rfl,rfl,zl.of ha,zl.of hb,hne,hz,λz=>q a H (zJ.refl _) (ha.trans (by rw [z,List.append_nil])),λ_ p hp=>q p _ (qS hp _) xB⟩
end
end L2
namespace Sh
structure LF where
 ns:List Int
 a:Int
 d:Int
abbrev PC:=List (List Int) × LF
def uV (n:Nat):RT->Prop
 | .str ns _ d=>ns.length=n/\0 < d
 | .stp t lo hi=>uV n t/\lo<=hi
 | .prt r x y=>r.length=n + 1/\uV n x/\uV n y
section
variable {pts:List (Int × Int)} (hp:∀ p∈pts,0 < p.2)
include hp
end
end Sh
namespace Sh
open PySem L2
def qX (C:Addr) (H0 H:Hp) (v:V) (p:PC):Prop:=∃ (t rl so dx la:Addr) (rv:List V),v=.ref t/\H t=some (.tup [.ref rl,.ref so])/\H0 rl=none/\H rl=some (.lst rv)/\vz H rv p.1/\H so=some (.ins C dx (gt (.ref la) p.2.a p.2.d))/\H la=some (.lst (p.2.ns.map V.int))
theorem qX.same {C:Addr} {H0 H H':Hp} (s:zJ H H') {v:V} {p:PC} (h:qX C H0 H v p):qX C H0 H' v p:=
 let ⟨t,rl,so,dx,la,rv,e,h1,h2,h3,h4,h5,h6⟩:=h
 ⟨t,rl,so,dx,la,rv,e,s _ _ h1,h2,s _ _ h3,vz.same s h4,s _ _ h5,s _ _ h6⟩
def jE:RT->Prop
 | .str ns a d=>(∀ x∈ns,Bd 101 x)/\Bd 101 a/\Bd 31 d
 | .stp t lo hi=>jE t/\Bd 220 lo/\Bd 220 hi
 | .prt r x y=>(∀ z∈r,Bd 101 z)/\jE x/\jE y
theorem jE.ok {n:Nat}:∀ {t:RT},jE t->uV n t->xV n t
 | .str ..,h,s=>⟨s.1,λx hx=>(h.1 x hx).mono,h.2.1.mono,s.2,h.2.2.mono⟩
 | .stp ..,h,s=>⟨jE.ok h.1 s.1,h.2.1.mono,h.2.2.mono⟩
 | .prt ..,h,s=>⟨⟨s.1,λx hx=>(h.1 x hx).mono⟩,jE.ok h.2.1 s.2.1,jE.ok h.2.2 s.2.2⟩
theorem qX.hid {C tl:Addr} {H1 H2:Hp} {o:HO} (h1:H1 tl=some o) (h2:H2 tl=some (.lst [])) {v:V} {p:PC} (hn:1<=p.2.ns.length) (h:qX C H1 H2 v p):qX C H1 (hide [tl] H2) v p:=by
 obtain ⟨t,rl,so,dx,la,rv,e,a1,a2,a3,a4,a5,a6⟩:=h
 have ne:∀ {b:Addr} {u:HO},H2 b=some u->u≠.lst []->hide [tl] H2 b=some u:=λhb hu=>by
  rw [KB (λz=>by rw [List.mem_singleton.mp z,h2] at hb; exact hu (Option.some.inj hb).symm)]
  exact hb
 refine ⟨t,rl,so,dx,la,rv,e,ne a1 (λz=>by cases z),a2,?_,Paired.mapP a4 λ_ _ ⟨b,e,q⟩=>⟨b,e,ne q (λz=>by cases z)⟩,ne a5 (λz=>by cases z),ne a6 (λz=>?_)⟩
 ·rw [KB (λz=>by rw [List.mem_singleton.mp z,h1] at a2; cases a2)]
  exact a3
 ·cases e:p.2.ns with
  | nil=>rw [e] at hn; cases hn
  | cons x t=>rw [e] at z; cases z
end Sh
namespace Sh
open PySem L2
end Sh
namespace L2
open PySem PySem.Spec PyProof.Rows
abbrev WW:=Array Value->Option Addr->Prop
def uW (base:Heap) (l:List Env) (e:Addr) (cls:Value) (P:WW) (fl:Value) (h:Heap):Prop:=
 base.StaysIn h/\base.get? e=none/\h.FunFrames base l/\∃ (oe:Obj) (vs:Array Value) (T:Addr) (oT:Obj) (ts:Array Value),h.get? e=some oe/\oe.cls=cls/\oe.data=.fields vs/\P vs oe.dict/\vs[1]? = some (.ref T)/\base.get? T=none/\T≠e/\h.get? T=some oT/\oT.data=.fields ts/\ts[3]? = some fl
section
variable {M:Model} {A:Around} {E:Value->Shared->Prop} {s:Shared} {base:Heap} {env:Env} {outer:List Env} {L e:Addr} {cls:Value} {P:WW} {Q:Unit->Shared->Prop} {oe:Obj} {vs:Array Value}
end
def P0:WW:=λvs _=>vs[2]? = some .none
theorem uW.first {base h:Heap} {l:List Env} {e:Addr} {cls fl:Value} (x:uW base l e cls P0 fl h):∃ oe vs,h.get? e=some oe/\oe.cls=cls/\oe.data=.fields vs/\vs[2]? = some .none:=by
 obtain ⟨_,_,_,oe,vs,_,_,_,he,hc,hd,hP,_⟩:=x
 exact ⟨oe,vs,he,hc,hd,hP⟩
end L2
namespace L2
open PySem PySem.Spec PyProof.Rows
section
variable {P:Program} {w:World} {H:Hp} {h:Heap} {a:Addr}
theorem xM.there {o:HO} (x:xM P w H h a o):∃ ob,h.get? a=some ob:=by
 cases o with
 | lst xs=>obtain ⟨_,_,_,_,e⟩:=x; exact ⟨_,e⟩
 | tup xs=>obtain ⟨_,_,_,p⟩:=x; obtain ⟨ob,e,_⟩:=p; exact ⟨ob,e⟩
 | dK kvs=>obtain ⟨_,_,_,_,ob,_,_,e,_⟩:=x; exact ⟨ob,e⟩
 | dT kvs=>obtain ⟨_,_,_,_,ob,_,_,e,_⟩:=x; exact ⟨ob,e⟩
 | set S n=>obtain ⟨ob,_,_,_,e,_⟩:=x; exact ⟨ob,e⟩
 | ins C dx fs=>obtain ⟨_,_,_,e,_⟩:=x; exact ⟨_,e⟩
 | own y=>exact x
 | xd fs=>obtain ⟨_,⟨ob,_,_,e,_⟩,_⟩:=x; exact ⟨ob,e⟩
 | rng lo hi=>obtain ⟨_,_,_,e⟩:=x; exact ⟨_,e⟩
 | frz ob u=>obtain ⟨e,_⟩:=x; exact ⟨_,e⟩
 | tbl ps=>exact ⟨_,show h.get? a=some _ from x⟩
 | met f y=>exact ⟨_,show h.get? a=some _ from x⟩
 | ext φ=>obtain ⟨_,e,_⟩:=x; exact e
theorem yh.none_of (x:yh P w H h) (e:h.get? a=none):H a=none:=by
 cases q:H a with
 | none=>rfl
 | some o=>
  obtain ⟨ob,z⟩:=(x a o q).there
  rw [e] at z
  cases z
theorem yh.hide {as:List Addr} (x:yh P w H h) (f:∀ b∈as,H b=none):yh P w H (PySem.W.hideAll h as):=λa o e=>
 (x a o e).stay (λb u hb q=>PySem.W.hideAll_get _ q λz=>by
  have n:=f b z
  rcases hb with rfl | hb
  ·rw [n] at e; cases e
  ·rw [n] at hb; cases hb) (λ_ q=>q) λ_ _ q=>q
end
structure XL (P:Program) (w:World) (outer:List Env) (H H':Hp) (s s':Shared) (B:Heap) (e:Addr) (cls a0:Value):Prop where
 os:s'.os=s.os
 bare:AllBare s'.gens
 keep:∀ b o,s.heap.get? b=some o->H b=none->b∉xg outer->B.get? b=some o
 slot:∀ b o,s.heap.get? b=some o->H b=none->b∈xg outer->∃ sl,s'.heap.get? b=some { o with slots:=sl }
 free:∀ b o,s.heap.get? b=some o->H b=none->H' b=none
 there:∀ b o,s.heap.get? b=some o->b∉xg outer->∃ o',B.get? b=some o'
 tups:∀ b xs,H b=some (.tup xs)->H' b=some (.tup xs)
 frzs:∀ b o u,H b=some (.frz o u)->H' b=some (.frz o u)
 tbls:∀ b ps,H b=some (.tbl ps)->∃ more,H' b=some (.tbl (ps++more))
 hok:yh P w H' B
 fly:uW B outer e cls P0 .none s'.heap
def WX (P:Program) (w:World):wY:=λouter H s E ev s'=>∃ (e:Addr) (cls a0:Value) (B:Heap) (H':Hp),ev=.ref e/\XL P w outer H H' s s' B e cls a0/\E cls none H'
section
variable {P:Program} {w:World} {outer:List Env} {H H':Hp} {s s':Shared} {B:Heap} {e:Addr} {cls a0:Value}
theorem XL.un (x:XL P w outer H H' s s' B e cls a0):Un (xg outer) [] H H' s.heap s'.heap where
 keep:=λb o q n hb _=>x.fly.1 b o (x.keep b o q n hb)
 slot:=λb o q n hb _=>x.slot b o q n hb
 free:=λb o q n _=>x.free b o q n
 there:=λb o q _=>by
  by_cases hb:b∈xg outer
  ·obtain ⟨_,o',ho,_⟩:=x.fly.2.2.1.mem hb
   exact ⟨o',ho⟩
  ·obtain ⟨o',ho⟩:=x.there b o q hb
   exact ⟨o',x.fly.1 _ _ ho⟩
 tups:=x.tups
 frzs:=x.frzs
 tbls:=x.tbls
theorem XL.new (x:XL P w outer H H' s s' B e cls a0):s.heap.get? e=none/\H' e=none/\e∉xg outer:=by
 have nf:e∉xg outer:=λz=>by
  obtain ⟨_,o,ho,nd⟩:=x.fly.2.2.1.mem z
  obtain ⟨oe,vs,he,_,hd,_⟩:=uW.first x.fly
  rw [he] at ho
  cases ho
  exact nd _ hd
 refine ⟨?_,x.hok.none_of x.fly.2.1,nf⟩
 cases q:s.heap.get? e with
 | none=>rfl
 | some o=>
  obtain ⟨o',z⟩:=x.there e o q nf
  rw [x.fly.2.1] at z
  cases z
end
section
variable {P:Program} {w:World} {K:PySem.W.Frag} {mg:Str->Option Value} {base:Heap} {N:List Str} {qual:Str} {scope:Scope} {f:Addr} {cd:Value} {A:Around} {outer:List Env} {s:Shared} {H:Hp} {E:XK}
end
section
variable {P:Program} {w:World} {K:PySem.W.Frag} {mg:Str->Option Value} {base:Heap}
structure WY (P:Program) (w:World) (K:PySem.W.Frag) (mg:Str->Option Value) (base:Heap) (x:Str) (ps:List Str) (k:Nat) (sp:Sp):Prop where
 ex:∃ f fd,zF P w K mg base (WX P w) k f fd ps sp/\mg x=some (.ref f)/\PySem.W.keepIn K (.ref f)=true/\xh K fd ps []
theorem WY.mono {x:Str} {ps:List Str} {j k:Nat} {sp:Sp} (F:WY P w K mg base x ps j sp) (h:j<=k:=by decide):WY P w K mg base x ps k sp:=by
 obtain ⟨f,fd,a,b,c,d⟩:=F.ex
 exact ⟨f,fd,a.mono h,b,c,d⟩
end
section
variable {X:Cx}
end
section
variable {X:Cx} {pins:List (Addr × Obj)} {σ:St} {H:Hp} {s:Shared} {e:Addr}
end
end L2
namespace L2
open PySem PySem.Spec PyProof.Rows
def XP (X:Cx) (pins:List (Addr × Obj)) (ES:St->XK) (ev:Value) (s':Shared):Prop:=
 ∃ (σ1:St) (s1:Shared) (H1 H2:Hp) (e:Addr) (cls a0:Value) (B:Heap),zD X pins σ1 H1 s1/\ev=.ref e/\XL X.prog X.w X.stack H1 H2 s1 s' B e cls a0/\ES σ1 cls none H2
section
variable {X:Cx} {call:Expr} {tb:XK->TE} {pos pos':Pos}
end
end L2
namespace L2
open PySem PySem.Spec PyProof.Rows
structure jd (P:Program) (w:World) (K:PySem.W.Frag) (mg:Str->Option Value) (base:Heap) (C:Addr) (m:Str) (ps:List Str) (k:Nat) (sp:Sp):Prop where
 ex:∃ f fd,zF P w K mg base (WX P w) k f fd ps sp/\uJ K C m f/\xh K fd ps []
structure je (P:Program) (w:World) (K:PySem.W.Frag) (mg:Str->Option Value) (base:Heap) (C:Addr) (ps:List Str) (k:Nat) (sp:Sp):Prop where
 ex:∃ f fd,zF P w K mg base (WX P w) k f fd ps sp/\Mk K C f/\xh K fd ps []
theorem jd.mono {P:Program} {w:World} {K:PySem.W.Frag} {mg:Str->Option Value} {base:Heap} {C:Addr} {m:Str} {ps:List Str} {j k:Nat} {sp:Sp} (F:jd P w K mg base C m ps j sp) (h:j<=k):jd P w K mg base C m ps k sp:=by
 obtain ⟨f,fd,a,b,c⟩:=F.ex
 exact ⟨f,fd,a.mono h,b,c⟩
theorem je.mono {P:Program} {w:World} {K:PySem.W.Frag} {mg:Str->Option Value} {base:Heap} {C:Addr} {ps:List Str} {j k:Nat} {sp:Sp} (F:je P w K mg base C ps j sp) (h:j<=k:=by decide):je P w K mg base C ps k sp:=by
 obtain ⟨f,fd,a,b,c⟩:=F.ex
 exact ⟨f,fd,a.mono h,b,c⟩
section
variable {X:Cx} {C:Addr} {m x:Str} {ps:List Str} {k:Nat} {sp:Sp} {o e:Expr} {es:List Expr} {ta:TE} {t:TA} {p pos apos:Pos}
end
section
variable {P:Program} {w:World} {K:PySem.W.Frag} {mg:Str->Option Value} {base:Heap} {N:List Str} {qual:Str} {scope:Scope} {f:Addr} {cd:Value} {A:Around} {outer:List Env} {s:Shared} {H:Hp} {E:XK}
variable {C:Addr} {m x:Str} {ps:List Str} {k:Nat} {sp:Sp} {o e:Expr} {es:List Expr} {ta:TE} {t:TA} {p pos apos:Pos}
end
end L2
namespace L2
open PySem PySem.Spec PyProof.Rows
section
variable {P:Program} {w:World} {K:PySem.W.Frag} {mg:Str->Option Value} {base:Heap} {k:Nat} {f C:Addr} {fd:FuncData} {x m:Str} {ps:List Str} {sp:Sp}
end
end L2
namespace L2
open PySem PySem.Spec PyProof.Rows PySem.Builtin PySem.Builtin.ObjectAttr PySem.Builtin.Getset_descriptor
section
variable {prog:Program} {w:World} {A:Around} {E:Value->Shared->Prop} {K:PySem.W.Frag} {s:Shared} {e C:Addr} {oe:Obj}
end
section
variable {X:Cx}
end
end L2
namespace Sh
open PySem L2
inductive AK where
 | int (i:Int)
 | bool (b:Bool)
 | non
 | str (x:Str)
 | dic
 | lst (as:List AK)
 | tup (as:List AK)
 | mode (r n s p a d:AK)
def gu (r n s p a d:V):List (Str × V):=[("rows",r),("nexts",n),("steer",s),("push",p),("add",a),("divisor",d)]
inductive AV (C:Addr) (H:Hp):V->AK->Prop where
 | int (i:Int):AV C H (.int i) (.int i)
 | bool (b:Bool):AV C H (.bl b) (.bool b)
 | non:AV C H .non .non
 | str (x:Str):AV C H (.str x) (.str x)
 | dic {a:Addr} {kvs:List (yH × V)} (e:H a=some (.dK kvs)):AV C H (.ref a) .dic
 | lst {a:Addr} {xs:List V} {as:List AK} (e:H a=some (.lst xs)) (h:Paired (AV C H) xs as):AV C H (.ref a) (.lst as)
 | tup {a:Addr} {xs:List V} {as:List AK} (e:H a=some (.tup xs)) (h:Paired (AV C H) xs as):AV C H (.ref a) (.tup as)
 | mode {o dx:Addr} {r n s p a d:V} {R N S P A D:AK} (e:H o=some (.ins C dx (gu r n s p a d))) (hr:AV C H r R) (hn:AV C H n N) (hs:AV C H s S) (hp:AV C H p P) (ha:AV C H a A) (hd:AV C H d D):AV C H (.ref o) (.mode R N S P A D)
theorem AV.same {C:Addr} {H H':Hp} (s:zJ H H'):∀ {v:V} {a:AK},AV C H v a->AV C H' v a
 | _,_,.int i=>.int i
 | _,_,.bool b=>.bool b
 | _,_,.non=>.non
 | _,_,.str x=>.str x
 | _,_,.dic e=>.dic (s _ _ e)
 | _,_,.lst e h=>.lst (s _ _ e) (go s h)
 | _,_,.tup e h=>.tup (s _ _ e) (go s h)
 | _,_,.mode e h1 h2 h3 h4 h5 h6=>.mode (s _ _ e) (AV.same s h1) (AV.same s h2) (AV.same s h3) (AV.same s h4) (AV.same s h5) (AV.same s h6)
where
 go {C:Addr} {H H':Hp} (s:zJ H H'):∀ {xs:List V} {as:List AK},Paired (AV C H) xs as->Paired (AV C H') xs as
  | _,_,.nil=>.nil
  | _,_,.cons h t=>.cons (AV.same s h) (go s t)
def AK.isInt:AK->Bool
 | .int _=>true
 | .bool _=>true
 | _=>false
def AK.isBool:AK->Bool
 | .bool _=>true
 | _=>false
def AK.isLst:AK->Bool
 | .lst _=>true
 | _=>false
def AK.isTup:AK->Bool
 | .tup _=>true
 | _=>false
theorem AV.lst_inv {C:Addr} {H:Hp} {v:V} {a:AK} (h:AV C H v a) (e:a.isLst=true):∃ p xs as,v=.ref p/\a=.lst as/\H p=some (.lst xs)/\Paired (AV C H) xs as:=by
 cases h with
 | lst e0 h=>exact ⟨_,_,_,rfl,rfl,e0,h⟩
 | _=>cases e
theorem AV.tup_inv {C:Addr} {H:Hp} {v:V} {a:AK} (h:AV C H v a) (e:a.isTup=true):∃ p xs as,v=.ref p/\a=.tup as/\H p=some (.tup xs)/\Paired (AV C H) xs as:=by
 cases h with
 | tup e0 h=>exact ⟨_,_,_,rfl,rfl,e0,h⟩
 | _=>cases e
inductive gv where
 | made | bad | many
def gv.str:gv->Str
 | .made=>"made"
 | .bad=>"bad"
 | .many=>"many"
inductive FA:Nat->AK->Prop
 | int {k:Nat} (i:Int):FA (k + 1) (.int i)
 | bool {k:Nat} (b:Bool):FA (k + 1) (.bool b)
 | non {k:Nat}:FA (k + 1) .non
 | str {k:Nat} (x:Str):FA (k + 1) (.str x)
 | dic {k:Nat}:FA (k + 1) .dic
 | lst {k:Nat} {as:List AK} (l:as.length<=900) (h:∀ a∈as,FA k a):FA (k + 1) (.lst as)
 | tup {k:Nat} {as:List AK} (l:as.length<=900) (h:∀ a∈as,FA k a):FA (k + 1) (.tup as)
 | mode {k:Nat} {r n s p a d:AK} (hr:FA k r) (hn:FA k n) (hs:FA k s) (hp:FA k p) (ha:FA k a) (hd:FA k d):FA (k + 1) (.mode r n s p a d)
theorem FA.mono {j:Nat} {a:AK} (h:FA j a):∀ {k:Nat},j<=k->FA k a:=by
 induction h with
 | lst l _ ih=>
  intro k hk
  obtain ⟨m,rfl⟩:∃ m,k=m + 1:=⟨k - 1,by omega⟩
  exact .lst l λa ha=>ih a ha (by omega)
 | tup l _ ih=>
  intro k hk
  obtain ⟨m,rfl⟩:∃ m,k=m + 1:=⟨k - 1,by omega⟩
  exact .tup l λa ha=>ih a ha (by omega)
 | mode _ _ _ _ _ _ i1 i2 i3 i4 i5 i6=>
  intro k hk
  obtain ⟨m,rfl⟩:∃ m,k=m + 1:=⟨k - 1,by omega⟩
  exact .mode (i1 (by omega)) (i2 (by omega)) (i3 (by omega)) (i4 (by omega)) (i5 (by omega)) (i6 (by omega))
 | int i=>intro k hk; obtain ⟨m,rfl⟩:∃ m,k=m + 1:=⟨k - 1,by omega⟩; exact .int i
 | bool i=>intro k hk; obtain ⟨m,rfl⟩:∃ m,k=m + 1:=⟨k - 1,by omega⟩; exact .bool i
 | non=>intro k hk; obtain ⟨m,rfl⟩:∃ m,k=m + 1:=⟨k - 1,by omega⟩; exact .non
 | str i=>intro k hk; obtain ⟨m,rfl⟩:∃ m,k=m + 1:=⟨k - 1,by omega⟩; exact .str i
 | dic=>intro k hk; obtain ⟨m,rfl⟩:∃ m,k=m + 1:=⟨k - 1,by omega⟩; exact .dic
theorem FA.lst_inv {k:Nat} {as:List AK} (h:FA k (.lst as)):as.length<=900/\∀ a∈as,FA k a:=by
 cases h with
 | lst l h=>exact ⟨l,λa ha=>(h a ha).mono (by omega)⟩
theorem FA.tup_inv {k:Nat} {as:List AK} (h:FA k (.tup as)):as.length<=900/\∀ a∈as,FA k a:=by
 cases h with
 | tup l h=>exact ⟨l,λa ha=>(h a ha).mono (by omega)⟩
end Sh
namespace HT
open PySem PySem.Spec PyProof.Rows
section
variable {prog:Program} {w:World} {A:Around} {E:Value->Shared->Prop} {s:Shared}
theorem cat_tup0 {t b:Addr} {vs ws:List Value} {Q:Value->Shared->Prop} (ht:IsTup s.heap t vs.toArray) (hb:IsTup s.heap b ws.toArray) (hv:vs=[]) (h0:Q (.ref b) s):wpAny (model prog w) A (binaryOp .Add (.ref t) (.ref b)) Q E s:=by
 obtain ⟨⟨cls,dd,data,sl⟩,ho,hc,n,hd⟩:=id ht
 obtain ⟨⟨cls2,dd2,data2,sl2⟩,ho2,hc2,n2,hd2⟩:=id hb
 simp only at hc hd hc2 hd2
 subst hc hd hc2 hd2
 exact concat_meets ⟨_,ho,rfl⟩ ⟨_,ho2,rfl⟩ noFill_tuple_add seq_tuple_add PySem.F.slot_tuple_add PySem.F.entry_tuple_add (PySem.F.args_tuple_add_2 _ _)
  (tuple_addW0 t b vs.toArray ws.toArray n n2 dd dd2 sl sl2 (by simp [hv])) ⟨ho,ho2,h0⟩
theorem getItem_tuple_all {t sl:Addr} {items:Array Value} {vl vu:Value} {lo hi:Option Int} {Q:Value->Shared->Prop} (ht:IsTup s.heap t items) (hs:s.heap.IsSliceOf sl vl vu .none) (pl:IsPart vl lo) (pu:IsPart vu hi)
  (hw:sIx items.size 0 lo=0/\sIx items.size items.size hi=items.size) (h:Q (.ref t) s):wpAny (model prog w) A (getItem (.ref t) (.ref sl)) Q E s:=by
 obtain ⟨os,hos,hcs,hds⟩:=id hs
 have hTs:s.TypeIs (.ref sl) "slice":=⟨os,hos,hcs⟩
 unfold getItem
 try with_reducible refine wpAny_holding ?_
 first | refine wpAny_bind (wpAny_pure ?_) | skip
 refine wpAny_bind (wpAny_sequenceKey ht.typeIs (by decide) ?_)
 refine wpAny_bind (wpAny_callSpecial?_slot (name:=Str.ofString "__getitem__") ht.typeIs PyProof.Rows.slot_tuple_getitem
  (wpAny_call_entry PyProof.Rows.slot_tuple_getitem ht.typeIs entry_tuple_getitem ?_ (args_tuple_getitem _ _)))
 show wpAny _ _ (Builtin.Tuple.tupleItemsOf (.ref t) >>= _) _ _ s
 refine wpAny_bind (tupleItemsOf_ ht ?_)
 refine wpAny_bind (wpAny_typeOf hTs ?_)
 rw [if_pos (by decide)]
 refine wpAny_bind (QS hs pl pu ?_)
 have hyes:(((sIx items.size 0 lo:Nat):Int) == 0 && (1:Int) == 1 && (sIx items.size items.size hi - sIx items.size 0 lo) == items.size)=true:=by
  rw [hw.1,hw.2]
  simp
 show wpAny _ _ (if (((sIx items.size 0 lo:Nat):Int) == 0 && (1:Int) == 1 && (sIx items.size items.size hi - sIx items.size 0 lo) == items.size)=true then _ else _) _ _ s
 rw [if_pos hyes]
 unfold Builtin.Tuple.tupleIsExact
 refine wpAny_bind (wpAny_bind (wpAny_typeOf ht.typeIs (wpAny_pure ?_)))
 rw [if_pos (by decide)]
 refine wpAny_bind (wpAny_rule ?_)
 exact wpAny_pure ⟨_,rfl,wpAny_pure h⟩
end
end HT
namespace L2
open PySem PySem.Spec PyProof.Rows
section
variable {X:Cx}
inductive WZ (x y:V) (H:Hp) (Q:VK):Prop
 | mk (a b:Addr) (xs ys:List V) (_:x=.ref a) (_:y=.ref b) (_:H a=some (.tup xs)) (_:H b=some (.tup ys)) (_:xs.length + ys.length<=sizeLine) (_:∀ p H',zJ H H'->H' p=some (.tup (xs++ys))->Q (.ref p) H'):WZ x y H Q
theorem gw:yW X (binaryOp .Add) WZ:=by
 intro pins s σ H x y v u Q I rx ry h
 obtain ⟨a,b,xs,ys,rfl,rfl,ha,hb,hz,q⟩:=h
 by_cases hne:xs=[]
 ·subst hne
  cases rx
  cases ry
  obtain ⟨its,r1,p1,_⟩:=I.tuple (zl.of ha)
  obtain ⟨its2,r2,p2,_⟩:=I.tuple (zl.of hb)
  exact HT.cat_tup0 p1 p2 (r1.nil_iff.mpr rfl) ⟨.ref b,H,I,rfl,q b H (zJ.refl _) hb⟩
 ·exact zNK pins s σ H _ _ v u Q I rx ry ⟨a,b,xs,ys,rfl,rfl,ha,hb,hne,hz,q⟩
inductive gz (x:V) (lo hi:Option Int) (H:Hp) (Q:VK):Prop
 | mk (a:Addr) (xs:List V) (_:x=.ref a) (_:H a=some (.tup xs)) (_:∀ p H',zJ H H'->H' p=some (.tup (wI xs lo hi))->Q (.ref p) H'):gz x lo hi H Q
theorem zLw:vY X gz:=by
 intro pins s σ H x v vl vu lo hi sl Q I rx hs pl pu h
 obtain ⟨a,xs,rfl,hx,q⟩:=h
 by_cases hw:HT.sIx xs.length 0 lo=0/\HT.sIx xs.length xs.length hi=xs.length
 ·cases rx
  obtain ⟨its,r,ht,hz⟩:=I.tuple (zl.of hx)
  have hlen:its.toArray.size=xs.length:=by rw [List.size_toArray]; exact r.length.symm
  refine ⟨"tuple",_,PyProof.Rows.slot_tuple_getitem.lookup,ht.typeIs,?_⟩
  refine HT.getItem_tuple_all ht hs pl pu (by rw [hlen]; exact hw) ⟨.ref a,H,I,rfl,q a H (zJ.refl _) (hx.trans ?_)⟩
  unfold wI
  rw [hw.1,hw.2,List.drop_zero,Nat.sub_zero,List.take_length]
 ·exact zOS pins s σ H _ v vl vu lo hi sl Q I rx hs pl pu ⟨a,xs,rfl,zl.of hx,hw,λp hp=>q p _ (Sh.qS hp _) xB⟩
end
end L2
set_option linter.all false
namespace Sh
def bt:List (Int × Int)->Int
 | []=>1
 | p :: ps=>p.2 * bt ps
def tp:List Int->List (Int × Int)->Int
 | w :: ws,p :: ps=>w * p.1 * bt ps + p.2 * tp ws ps
 | _,_=>0
def uX:List Int->List (List Int)->List Int->List (Int × Int)->Int
 | r :: rs,c :: cs,a :: as,ps=>r * (tp c ps + a * bt ps) + uX rs cs as ps
 | _,_,_,_=>0
def zm:List Int->List Int->Int
 | r :: rs,a :: as=>r * a + zm rs as
 | _,_=>0
inductive jf (d:Int) (ps:List (Int × Int)):List (List Int)->List Int->List (Int × Int)->Prop
 | nil:jf d ps [] [] []
 | cons {c cs a as q qs}:0 < q.2->q.1 * (bt ps * d)=(tp c ps + a * bt ps) * q.2->jf d ps cs as qs->jf d ps (c :: cs) (a :: as) (q :: qs)
theorem jf.pos {d:Int} {ps:List (Int × Int)} {cs as qs} (h:jf d ps cs as qs):∀ p∈qs,0 < p.2:=by
 induction h with
 | nil=>simp
 | cons h1 _ _ ih=>
  intro p m
  rcases List.mem_cons.mp m with rfl | m
  ·exact h1
  ·exact ih p m
theorem jf.tp {d:Int} {ps:List (Int × Int)} {cs as qs} (h:jf d ps cs as qs):∀ {rs:List Int},rs.length=qs.length->tp rs qs * (bt ps * d)=uX rs cs as ps * bt qs:=by
 induction h with
 | nil=>intro rs h; cases rs with
  | nil=>simp [Sh.tp,uX]
  | cons=>simp at h
 | @cons c cs a as q qs h1 h2 h3 ih=>
  intro rs h
  cases rs with
  | nil=>simp at h
  | cons r rs=>
   have:=ih (rs:=rs) (by simpa using h)
   simp only [Sh.tp,uX,bt]
   grind
theorem KD:∀ (ps us:List (Int × Int)),bt (ps++us)=bt ps * bt us
 | [],us=>by simp [bt]
 | p :: ps,us=>by simp only [List.cons_append,bt,KD ps us]; grind
theorem wR:∀ (ws:List Int) (ps:List (Int × Int)) (vs:List Int) (us:List (Int × Int)),ws.length=ps.length->tp (ws++vs) (ps++us)=tp ws ps * bt us + bt ps * tp vs us
 | [],[],vs,us,_=>by simp [tp,bt]
 | w :: ws,p :: ps,vs,us,h=>by
  have:=wR ws ps vs us (by simpa using h)
  simp only [List.cons_append,tp,bt,this,KD]
  grind
def wL (nums:List Int) (ls:List (List Int)) (j:Nat):Int:=((nums.zip ls).map λq=>q.1 * q.2.getD j 0).sum
end Sh
set_option linter.all false
namespace Sh
def za (pl:Int) (n:Nat) (nu:Int):List Int:=(List.range n).map λ(i:Nat)=>if (i:Int)=pl then nu else 0
theorem xO (pl:Int) (n:Nat) (nu:Int):(za pl n nu).length=n:=by
 unfold za
 rw [List.length_map,List.length_range]
def hB (pts:List (Int × Int)) (ws:List Int) (b:Int):Bool:=decide (tp ws pts<=b * bt pts)
def hR (pts:List (Int × Int)) (r:List Int):Bool:=hB pts (r.take pts.length) (r.getD pts.length 0)
end Sh
set_option linter.all false
namespace Sh
theorem KE {f:Nat->Int} {n j:Nat} (h:j < n):((List.range n).map f).getD j 0=f j:=by
 rw [List.getD_eq_getElem?_getD,List.getElem?_map,List.getElem?_range h]
 rfl
theorem Wa (f g:Nat->Int):∀ l:List Nat,zm (l.map f) (l.map g)=(l.map λk=>f k * g k).sum
 | []=>rfl
 | a :: l=>by
  simp only [List.map_cons,zm,List.sum_cons,Wa f g l]
def vf:List (Int × Int)->List Int->Prop
 | [],[]=>True
 | p :: ps,x :: xs=>p.1 * 2=x * p.2/\0 < p.2/\vf ps xs
 | _,_=>False
theorem vf.len:∀ {ps:List (Int × Int)} {xs:List Int},vf ps xs->ps.length=xs.length
 | [],[],_=>rfl
 | _ :: _,_ :: _,h=>by rw [List.length_cons,List.length_cons,h.2.2.len]
 | [],_ :: _,h=>h.elim
 | _ :: _,[],h=>h.elim
theorem vf.pos:∀ {ps:List (Int × Int)} {xs:List Int},vf ps xs->∀ p∈ps,0 < p.2
 | [],[],_=>λ_ h=>nomatch h
 | _ :: _,_ :: _,h=>λq m=>by
  rcases List.mem_cons.mp m with rfl | m
  ·exact h.2.1
  ·exact h.2.2.pos q m
 | [],_ :: _,h=>h.elim
 | _ :: _,[],h=>h.elim
end Sh
set_option linter.all false
namespace Sh
end Sh
namespace Pu
open PySem L2 Sh
inductive D where
 | int (i:Int)
 | bool (b:Bool)
 | non
 | str (x:Str)
 | scr (ns:List Int)
 | lst (ds:List D)
 | tup (ds:List D)
 | obj (c:Addr) (ns:List Str) (ds:List D)
inductive DV (H:Hp):V->D->Prop where
 | int (i:Int):DV H (.int i) (.int i)
 | bool (b:Bool):DV H (.bl b) (.bool b)
 | non:DV H .non .non
 | str (x:Str):DV H (.str x) (.str x)
 | scr {a:Addr} {ns:List Int} (e:Rd H a (.lst (ns.map V.int))):DV H (.ref a) (.scr ns)
 | lst {a:Addr} {xs:List V} {ds:List D} (e:H a=some (.lst xs)) (h:Paired (DV H) xs ds):DV H (.ref a) (.lst ds)
 | tup {a:Addr} {xs:List V} {ds:List D} (e:H a=some (.tup xs)) (h:Paired (DV H) xs ds):DV H (.ref a) (.tup ds)
 | obj {o dx c:Addr} {ns:List Str} {xs:List V} {ds:List D} (e:H o=some (.ins c dx (ns.zip xs))) (l:ns.length=xs.length) (h:Paired (DV H) xs ds):DV H (.ref o) (.obj c ns ds)
theorem Wb {H H':Hp} (s:zJ H H') {a:Addr} {u:HO} (h:Rd H a u):Rd H' a u:=h.imp (s _ _) λ⟨o,e⟩=>⟨o,s _ _ e⟩
theorem DV.same {H H':Hp} (s:zJ H H'):∀ {v:V} {d:D},DV H v d->DV H' v d
 | _,_,.int i=>.int i
 | _,_,.bool b=>.bool b
 | _,_,.non=>.non
 | _,_,.str x=>.str x
 | _,_,.scr e=>.scr (Wb s e)
 | _,_,.lst e h=>.lst (s _ _ e) (go s h)
 | _,_,.tup e h=>.tup (s _ _ e) (go s h)
 | _,_,.obj e l h=>.obj (s _ _ e) l (go s h)
where
 go {H H':Hp} (s:zJ H H'):∀ {xs:List V} {ds:List D},Paired (DV H) xs ds->Paired (DV H') xs ds
  | _,_,.nil=>.nil
  | _,_,.cons h t=>.cons (DV.same s h) (go s t)
abbrev yE (H:Hp):List V->List D->Prop:=Paired (DV H)
theorem yr {H H':Hp} (s:zJ H H') {xs:List V} {ds:List D} (h:yE H xs ds):yE H' xs ds:=DV.same.go s h
theorem g6 {H:Hp}:∀ {xs:List V} {ns:List Int},yE H xs (ns.map D.int)->xs=ns.map V.int
 | _,[],.nil=>rfl
 | _,_ :: _,.cons h t=>by cases h; rw [g6 t]; rfl
theorem KF {H:Hp}:∀ {xs:List V} {bs:List Bool},yE H xs (bs.map D.bool)->xs=bs.map V.bl
 | _,[],.nil=>rfl
 | _,_ :: _,.cons h t=>by cases h; rw [KF t]; rfl
def v5:HO->Bool
 | .tbl _=>true
 | _=>false
def wy:HO->Bool
 | .lst _=>true
 | .ins _ _ _=>true
 | _=>false
class yL where
 I:Hp->Prop
 same:∀ {H H':Hp},I H->zJ H H'->I H'
 but:∀ {H H':Hp} {l:Addr} {o:HO},I H->H l=some o->wy o=true->(∀ b,b≠l->H' b=H b)->I H'
variable [yL]
theorem yL.put {H:Hp} {l:Addr} {u o:HO} (i:yL.I H) (e:H l=some u) (n:wy u=true:=by rfl):yL.I (upd H l o):=yL.but i e n λ_ c=>zh c
def less (l:Addr) (H:Hp):Hp:=λb=>if b=l then none else H b
theorem yL.less {H:Hp} {l:Addr} {u:HO} (i:yL.I H) (e:H l=some u) (n:wy u=true:=by rfl):yL.I (less l H):=yL.but i e n λ_ c=>if_neg c
theorem zLs {H:Hp} {l:Addr}:zJ (less l H) H:=λb o e=>by
 by_cases c:b=l
 ·rw [show less l H b=none from if_pos c] at e; cases e
 ·exact (if_neg c).symm.trans e
structure Sm (H H':Hp):Prop where
 s:∀ b o,H b=some o->v5 o=false->H' b=some o
 t:∀ b o,H b=some o->v5 o=true->∃ o',H' b=some o'/\v5 o'=true
 k:yL.I H->yL.I H'
theorem Sm.at {H H':Hp} (s:Sm H H') {b:Addr} {o:HO} (e:H b=some o) (n:v5 o=false:=by rfl):H' b=some o:=s.s b o e n
theorem Sm.of {H H':Hp} (s:zJ H H'):Sm H H':=⟨λb o e _=>s b o e,λb o e n=>⟨o,s b o e,n⟩,λi=>yL.same i s⟩
theorem Sm.refl (H:Hp):Sm H H:=.of (zJ.refl H)
theorem Sm.trans {H H1 H2:Hp} (a:Sm H H1) (b:Sm H1 H2):Sm H H2:=⟨λc o e n=>b.s c o (a.s c o e n) n,λc o e n=>let ⟨o1,e1,n1⟩:=a.t c o e n; b.t c o1 e1 n1,λi=>b.k (a.k i)⟩
theorem Sm.free {H H':Hp} (s:Sm H H') {b:Addr} (n:H' b=none):H b=none:=by
 cases e:H b with
 | none=>rfl
 | some o=>
  cases q:v5 o with
  | false=>have:=s.s b o e q; rw [n] at this; cases this
  | true=>obtain ⟨o',e',_⟩:=s.t b o e q; rw [n] at e'; cases e'
theorem Sm.put {H0 H:Hp} {l:Addr} {x o:HO} (s:Sm H0 H) (n:H0 l=none) (e:H l=some x) (li:wy x=true:=by rfl):Sm H0 (upd H l o):=⟨λb u q t=>(zh (x9 q n)).trans (s.s b u q t),λb u q t=>let ⟨o',e',t'⟩:=s.t b u q t; ⟨o',(zh (x9 q n)).trans e',t'⟩,λi=>yL.put (s.k i) e li⟩
theorem zOQ {H H1 H2:Hp} {x:Addr} {u:HO} (s:Sm H H1) (e:H1 x=some u) (b:Sm (less x H1) H2) (n:H x=none) (li:wy u=true:=by rfl):Sm H H2:=⟨λc o q t=>b.s c o ((if_neg (x9 q n)).trans (s.s c o q t)) t,λc o q t=>let ⟨o',e',t'⟩:=s.t c o q t; b.t c o' ((if_neg (x9 q n)).trans e') t',λi=>b.k (yL.less (s.k i) e li)⟩
theorem xj {H:Hp} {a:Addr} (h:H a=none) (o:HO):Sm H (upd H a o):=.of (qS h o)
open Classical in
noncomputable def hid (Z:Addr->Prop) (H:Hp):Hp:=λb=>if Z b then none else (H b).filter λo=>!(v5 o)
theorem wz {Z:Addr->Prop} {H:Hp} {b:Addr} {o:HO} (h:¬ Z b) (e:H b=some o) (n:v5 o=false:=by rfl):hid Z H b=some o:=by
 unfold hid
 rw [if_neg h,e,Option.filter_some,n]
 rfl
theorem jg {Z:Addr->Prop} {H:Hp} {b:Addr} {o:HO} (h:hid Z H b=some o):v5 o=false:=by
 unfold hid at h
 by_cases c:Z b
 ·rw [if_pos c] at h; cases h
 ·rw [if_neg c] at h
  have:=(Option.filter_eq_some_iff.mp h).2
  cases q:v5 o with
  | false=>rfl
  | true=>rw [q] at this; cases this
theorem jF {Z:Addr->Prop} {H:Hp} {b:Addr} {o:HO} (h:hid Z H b=some o):¬ Z b/\H b=some o:=by
 unfold hid at h
 by_cases c:Z b
 ·rw [if_pos c] at h; cases h
 ·rw [if_neg c] at h; exact ⟨c,(Option.filter_eq_some_iff.mp h).1⟩
theorem zo {Z:Addr->Prop} {H:Hp}:zJ (hid Z H) H:=λ_ _ h=>(jF h).2
theorem yU {Z:Addr->Prop} {H H':Hp} (s:Sm H H'):zJ (hid Z H) (hid Z H'):=λb o h=>by
 exact wz (jF h).1 (s.s _ _ (jF h).2 (jg h)) (jg h)
theorem g9 {Z Z':Addr->Prop} {H:Hp} (s:∀ b,Z' b->Z b):zJ (hid Z H) (hid Z' H):=λb o h=>by
 exact wz (λz=>(jF h).1 (s _ z)) (jF h).2 (jg h)
structure ZL (Z:Addr->Prop) (H:Hp):Prop where
 z:∀ b,Z b->∃ u,H b=some u/\∀ xs,u≠.tup xs
 i:yL.I H
theorem ZL.same {Z:Addr->Prop} {H H':Hp} (z:ZL Z H) (s:Sm H H'):ZL Z H':=⟨λb hb=>by
 obtain ⟨u,e,n⟩:=z.z b hb
 cases q:v5 u with
 | false=>exact ⟨u,s.s _ _ e q,n⟩
 | true=>
  obtain ⟨u',e',n'⟩:=s.t _ _ e q
  exact ⟨u',e',λxs y=>by rw [y] at n'; cases n'⟩,s.k z.i⟩
theorem ZL.new {Z:Addr->Prop} {H:Hp} (z:ZL Z H) {p:Addr} (h:H p=none):¬ Z p:=λq=>by
 obtain ⟨u,e,_⟩:=z.z p q
 rw [h] at e
 cases e
inductive Sl where
 | no
 | sh (d:D)
 | ow (ds:List D)
 | ob (o c:Addr) (ns:List Str) (ds:List D)
def slot:List Sl->Nat->Sl
 | [],_=>.no
 | x :: _,0=>x
 | _ :: t,i + 1=>slot t i
def zr:List Sl->Nat->Sl->List Sl
 | [],_,_=>[]
 | _ :: t,0,y=>y :: t
 | x :: t,i + 1,y=>x :: zr t i y
theorem jh:∀ (Γ:List Sl) (i:Nat) (y:Sl),(zr Γ i y).length=Γ.length
 | [],_,_=>rfl
 | _ :: _,0,_=>rfl
 | _ :: t,i + 1,y=>by show (zr t i y).length + 1=_; rw [jh t i y]; rfl
theorem yy:∀ (Γ:List Sl) (i j:Nat) (y:Sl),slot (zr Γ i y) j=if j=i/\i < Γ.length then y else slot Γ j
 | [],i,j,y=>by rw [if_neg (λh=>absurd h.2 (Nat.not_lt_zero _))]; rfl
 | x :: t,0,0,y=>(if_pos ⟨rfl,Nat.zero_lt_succ _⟩).symm
 | x :: t,0,j + 1,y=>(if_neg (λh=>nomatch h.1)).symm
 | x :: t,i + 1,0,y=>(if_neg (λh=>nomatch h.1)).symm
 | x :: t,i + 1,j + 1,y=>by
  show slot (zr t i y) j=if j + 1=i + 1/\i + 1 < t.length + 1 then y else slot t j
  rw [yy t i j y]
  by_cases c:j=i/\i < t.length
  ·rw [if_pos c,if_pos ⟨by omega,by omega⟩]
  ·rw [if_neg c,if_neg (λh=>c ⟨by omega,by omega⟩)]
theorem vK:∀ {Γ:List Sl} {i:Nat},slot Γ i≠.no->i < Γ.length
 | [],_,h=>absurd rfl h
 | _ :: _,0,_=>Nat.zero_lt_succ _
 | _ :: _,_ + 1,h=>Nat.succ_lt_succ (vK (Γ:=_) h)
structure zw (Z:Addr->Prop) (Γ:List Sl) (σ:St) (H:Hp):Prop where
 sh:∀ i d,slot Γ i=.sh d->∃ v,σ[i]? = some (some v)/\DV (hid Z H) v d
 ow:∀ i ds,slot Γ i=.ow ds->∃ l xs,σ[i]? = some (some (.ref l))/\Z l/\H l=some (.lst xs)/\yE (hid Z H) xs ds
 ob:∀ i o c ns ds,slot Γ i=.ob o c ns ds->∃ dx xs,σ[i]? = some (some (.ref o))/\Z o/\H o=some (.ins c dx (ns.zip xs))/\ns.length=xs.length/\yE (hid Z H) xs ds
 ne:∀ i j as bs l,slot Γ i=.ow as->slot Γ j=.ow bs->σ[i]? = some (some (.ref l))->σ[j]? = some (some (.ref l))->i=j
 zd:ZL Z H
 len:Γ.length=σ.length
theorem zw.same {Z:Addr->Prop} {Γ:List Sl} {σ:St} {H H':Hp} (E:zw Z Γ σ H) (s:Sm H H'):zw Z Γ σ H' where
 sh:=λi d e=>let ⟨v,h1,h2⟩:=E.sh i d e; ⟨v,h1,h2.same (yU s)⟩
 ow:=λi ds e=>let ⟨l,xs,h1,h2,h3,h4⟩:=E.ow i ds e; ⟨l,xs,h1,h2,s.at h3,yr (yU s) h4⟩
 ob:=λi o c ns ds e=>let ⟨dx,xs,h1,h2,h3,h5,h4⟩:=E.ob i o c ns ds e; ⟨dx,xs,h1,h2,s.at h3,h5,yr (yU s) h4⟩
 ne:=E.ne
 zd:=E.zd.same s
 len:=E.len
theorem zw.set {Z:Addr->Prop} {Γ:List Sl} {σ:St} {H:Hp} (E:zw Z Γ σ H) {v:V} {d:D} (h:DV (hid Z H) v d) (i:Nat):zw Z (zr Γ i (.sh d)) (σ.set i (some v)) H where
 sh:=λj e q=>by
  rw [yy] at q
  by_cases c:j=i/\i < Γ.length
  ·rw [if_pos c] at q
   cases q
   rw [c.1]
   exact ⟨v,by rw [List.getElem?_set_self (by have:=E.len; omega)],h⟩
  ·rw [if_neg c] at q
   obtain ⟨u,h1,h2⟩:=E.sh j e q
   have hj:=vK (Γ:=Γ) (i:=j) (by rw [q]; exact λz=>nomatch z)
   exact ⟨u,by rw [List.getElem?_set_ne (λz=>c ⟨z.symm,by omega⟩)]; exact h1,h2⟩
 ow:=λj e q=>by
  rw [yy] at q
  by_cases c:j=i/\i < Γ.length
  ·rw [if_pos c] at q; cases q
  ·rw [if_neg c] at q
   obtain ⟨l,xs,h1,h2⟩:=E.ow j e q
   have hj:=vK (Γ:=Γ) (i:=j) (by rw [q]; exact λz=>nomatch z)
   exact ⟨l,xs,by rw [List.getElem?_set_ne (λz=>c ⟨z.symm,by omega⟩)]; exact h1,h2⟩
 ob:=λj o0 c0 ns e q=>by
  rw [yy] at q
  by_cases c:j=i/\i < Γ.length
  ·rw [if_pos c] at q; cases q
  ·rw [if_neg c] at q
   obtain ⟨dx,xs,h1,h2⟩:=E.ob j o0 c0 ns e q
   have hj:=vK (Γ:=Γ) (i:=j) (by rw [q]; exact λz=>nomatch z)
   exact ⟨dx,xs,by rw [List.getElem?_set_ne (λz=>c ⟨z.symm,by omega⟩)]; exact h1,h2⟩
 ne:=λj k as bs l q r e f=>by
  rw [yy] at q r
  by_cases c:j=i/\i < Γ.length
  ·rw [if_pos c] at q; cases q
  ·by_cases c':k=i/\i < Γ.length
   ·rw [if_pos c'] at r; cases r
   ·rw [if_neg c] at q
    rw [if_neg c'] at r
    have hj:=vK (Γ:=Γ) (i:=j) (by rw [q]; exact λz=>nomatch z)
    have hk:=vK (Γ:=Γ) (i:=k) (by rw [r]; exact λz=>nomatch z)
    rw [List.getElem?_set_ne (λz=>c ⟨z.symm,by omega⟩)] at e
    rw [List.getElem?_set_ne (λz=>c' ⟨z.symm,by omega⟩)] at f
    exact E.ne j k as bs l q r e f
 zd:=E.zd
 len:=by rw [jh,List.length_set]; exact E.len
abbrev zp:=List Sl->(D->Prop)->Prop
abbrev xr:=List Sl->(Bool->Prop)->Prop
abbrev yf:=List Sl->(List D->Prop)->Prop
abbrev kA:=List Sl->(Option Int->Prop)->Prop
inductive tP (p:zp) (σ:St) (H:Hp) (Q:VK):Prop
 | mk (Z:Addr->Prop) (Γ:List Sl) (R:D->Prop) (E:zw Z Γ σ H) (h:p Γ R) (q:∀ d v H',R d->Sm H H'->DV (hid Z H') v d->Q v H'):tP p σ H Q
inductive yt (p:xr) (σ:St) (H:Hp) (Q:Bool->Hp->Prop):Prop
 | mk (Z:Addr->Prop) (Γ:List Sl) (R:Bool->Prop) (E:zw Z Γ σ H) (h:p Γ R) (q:∀ b H',R b->Sm H H'->Q b H'):yt p σ H Q
inductive xk (p:yf) (σ:St) (H:Hp) (Q:List V->Hp->Prop):Prop
 | mk (Z:Addr->Prop) (Γ:List Sl) (R:List D->Prop) (E:zw Z Γ σ H) (h:p Γ R) (q:∀ ds vs H',R ds->Sm H H'->yE (hid Z H') vs ds->Q vs H'):xk p σ H Q
inductive kB (p:kA) (σ:St) (H:Hp) (Q:Option Int->Hp->Prop):Prop
 | mk (Z:Addr->Prop) (Γ:List Sl) (R:Option Int->Prop) (E:zw Z Γ σ H) (h:p Γ R) (q:∀ o H',R o->Sm H H'->Q o H'):kB p σ H Q
section
variable {X:Cx} {a b e c:Expr} {es:List Expr} {pos:Pos} {pa pb pc:zp} {qa qb:xr} {pl:yf}
theorem yM {t t':TE} (h:PE X e t) (w:∀ σ H Q,t' σ H Q->t σ H Q):PE X e t':=λpins s σ H Q I q=>h pins s σ H Q I (w σ H Q q)
theorem Wc {t t':TT} (h:PT X e t) (w:∀ σ H Q,t' σ H Q->t σ H Q):PT X e t':=λpins s σ H Q I q=>h pins s σ H Q I (w σ H Q q)
theorem KG {t t':TT} (h:PW X e t) (w:∀ σ H Q,t' σ H Q->t σ H Q):PW X e t':=λwh pins s σ H Q I q=>h wh pins s σ H Q I (w σ H Q q)
theorem KH {t t':TA} (h:PA X es t) (w:∀ σ H Q,t' σ H Q->t σ H Q):PA X es t':=λpos pins s σ H Q I q=>h pos pins s σ H Q I (w σ H Q q)
def jG (i:Nat):zp:=λΓ R=>match slot Γ i with | .sh d=>R d | _=>False
theorem zA (i:Nat) {x:Str} {pos:Pos} (hN:X.N[i]? = some x:=by rfl) (hv:qF X.env.scope x:=by first | exact Or.inl rfl | exact Or.inr (Or.inl rfl) | exact Or.inr (Or.inr rfl)) (hd:(x == ("__debug__" : Str))=false:=by decide)
  (hcd:(x == ("__classdict__" : Str))=false:=by decide):PE X (.Name x pos) (tP (jG i)):=yM (Xk hN hv hd hcd) λσ H Q ⟨Z,Γ,R,E,h,q⟩=>by
 unfold jG at h
 cases s:slot Γ i with
 | sh d=>
  rw [s] at h
  obtain ⟨v,e,k⟩:=E.sh i d s
  exact ⟨v,e,q d v H h (Sm.refl _) k⟩
 | _=>rw [s] at h; exact h.elim
def pC (d:D):zp:=λ_ R=>R d
theorem zE {i j pos}:PE X (.Constant (.int i) j pos) (tP (pC (.int i))):=yM zOw λ_ H _ ⟨_,_,_,_,h,q⟩=>q _ _ H h (Sm.refl _) (.int i)
theorem vL {i j pos}:PE X (.Constant (.bool i) j pos) (tP (pC (.bool i))):=yM qu λ_ H _ ⟨_,_,_,_,h,q⟩=>q _ _ H h (Sm.refl _) (.bool i)
theorem xC {j pos}:PE X (.Constant .none j pos) (tP (pC .non)):=yM Jt λ_ H _ ⟨_,_,_,_,h,q⟩=>q _ _ H h (Sm.refl _) .non
theorem qY {i j pos}:PE X (.Constant (.str i) j pos) (tP (pC (.str i))):=yM zOs λ_ H _ ⟨_,_,_,_,h,q⟩=>q _ _ H h (Sm.refl _) (.str i)
theorem We {x:Str} {i:Int} {pos:Pos} (hg:Gl X x) (hm:∃ t,X.mg x=some (.int i t)) (hd:(x == ("__debug__" : Str))=false:=by decide):PE X (.Name x pos) (tP (pC (.int i))):=
 let ⟨_,e⟩:=hm
 yM (Ju (v:=.int i) hg e ⟨_,rfl⟩ hd) λ_ H _ ⟨_,_,_,_,h,q⟩=>q _ _ H h (Sm.refl _) (.int i)
abbrev F2:=D->D->(D->Prop)->Prop
def yz (f:F2) (pa pb:zp):zp:=λΓ R=>pa Γ λx=>pb Γ λy=>f x y R
def wC (r:R2) (f:F2):Prop:=∀ (Z:Addr->Prop) (H:Hp) (x y:V) (a b:D) (R:D->Prop) (Q:VK),ZL Z H->DV (hid Z H) x a->DV (hid Z H) y b->f a b R->(∀ d v H',R d->Sm H H'->DV (hid Z H') v d->Q v H')->r x y H Q
theorem Yi {r:R2} {f:F2} (o:wC r f) (σ:St) (H:Hp) (Q:VK):tP (yz f pa pb) σ H Q->qI r (tP pa) (tP pb) σ H Q:=λ⟨Z,Γ,R,E,h,q⟩=>
 ⟨Z,Γ,_,E,h,λd v H1 hd s1 hv=>⟨Z,Γ,_,E.same s1,hd,λd2 v2 H2 hd2 s2 hv2=>o Z H2 v v2 d d2 R Q (E.same (s1.trans s2)).zd (hv.same (yU s2)) hv2 hd2 λd3 v3 H3 h3 s3 hv3=>q d3 v3 H3 h3 (s1.trans (s2.trans s3)) hv3⟩⟩
theorem qZ {op:Operator} {r:R2} {f:F2} (ho:yW X (binaryOp op) r) (o:wC r f) (ha:PE X a (tP pa)) (hb:PE X b (tP pb)):PE X (.BinOp a op b pos) (tP (yz f pa pb)):=yM (gH ho ha hb) (Yi o)
theorem qc {op:CmpOp} {r:R2} {f:F2} (ho:yW X (compareOp op) r) (o:wC r f) (hm:behindInMarks op b=false) (ha:PE X a (tP pa)) (hb:PE X b (tP pb)):PE X (.Compare a [op] [b] pos) (tP (yz f pa pb)):=yM (zNE ho ha hb hm) (Yi o)
theorem v6 {Z:Addr->Prop} {H:Hp} {p:Addr} {xs:List V} {ds:List D} (zd:ZL Z H) (hp:H p=none) (h:yE (hid Z H) xs ds):DV (hid Z (upd H p (.lst xs))) (.ref p) (.lst ds):=
 .lst (wz (zd.new hp) xB) (yr (yU (xj hp _)) h)
theorem Yj {Z:Addr->Prop} {H:Hp} {p:Addr} {xs:List V} {ds:List D} (zd:ZL Z H) (hp:H p=none) (h:yE (hid Z H) xs ds):DV (hid Z (upd H p (.tup xs))) (.ref p) (.tup ds):=
 .tup (wz (zd.new hp) xB) (yr (yU (xj hp _)) h)
theorem KI {Z:Addr->Prop} {H:Hp} {p:Addr} {xs:List V} {ds:List D} (zd:ZL Z H) (e:H p=some (.tup xs)) (h:yE (hid Z H) xs ds):DV (hid Z H) (.ref p) (.tup ds):=
 .tup (wz (λz=>by
  obtain ⟨u,e',n⟩:=zd.z p z
  rw [e] at e'
  cases e'
  exact n xs rfl) e) h
theorem DV.lst_inv {H:Hp} {v:V} {ds:List D} (h:DV H v (.lst ds)):∃ p xs,v=.ref p/\H p=some (.lst xs)/\yE H xs ds:=by cases h with | lst e h=>exact ⟨_,_,rfl,e,h⟩
theorem DV.tup_inv {H:Hp} {v:V} {ds:List D} (h:DV H v (.tup ds)):∃ p xs,v=.ref p/\H p=some (.tup xs)/\yE H xs ds:=by cases h with | tup e h=>exact ⟨_,_,rfl,e,h⟩
theorem few {n:Nat} (h:n<=1000):n<=sizeLine:=Nat.le_of_lt (YF h)
def ji:F2
 | .int i,.int j,R=>R (.int (i + j))
 | .lst as,.lst bs,R=>as.length + bs.length<=1000/\R (.lst (as++bs))
 | .tup as,.tup bs,R=>as.length + bs.length<=1000/\R (.tup (as++bs))
 | _,_,_=>False
theorem zNS:wC (λx y H Q=>vF (λi j=>.int (i + j)) x y H Q\/(gY x y H Q\/WZ x y H Q)) ji:=λZ H x y a b R Q zd hx hy h q=>by
 unfold ji at h
 split at h
 ·cases hx; cases hy; exact .inl ⟨_,_,rfl,rfl,q _ _ H h (Sm.refl _) (.int _)⟩
 ·obtain ⟨p,xs,rfl,e1,h1⟩:=hx.lst_inv
  obtain ⟨r,ys,rfl,e2,h2⟩:=hy.lst_inv
  have l1:=Paired.length h1
  have l2:=Paired.length h2
  exact .inr (.inl ⟨p,r,xs,ys,rfl,rfl,zo _ _ e1,zo _ _ e2,few (by omega),λn hn=>q _ _ _ h.2 (xj hn _) (v6 zd hn (gg h1 h2))⟩)
 ·obtain ⟨p,xs,rfl,e1,h1⟩:=hx.tup_inv
  obtain ⟨r,ys,rfl,e2,h2⟩:=hy.tup_inv
  have l1:=Paired.length h1
  have l2:=Paired.length h2
  exact .inr (.inr ⟨p,r,xs,ys,rfl,rfl,zo _ _ e1,zo _ _ e2,few (by omega),λn H' s e=>have s:=Sm.of s; q _ _ _ h.2 s (KI (zd.same s) e (yr (yU s) (gg h1 h2)))⟩)
 ·exact h.elim
def jj:F2
 | .int i,.int j,R=>R (.int (i - j))
 | _,_,_=>False
theorem KJ {g:Int->Int->V} {k:Int->Int->D} {f:F2} (hg:∀ i j H,DV H (g i j) (k i j)) (hf:∀ a b R,f a b R->∃ i j,a=.int i/\b=.int j/\R (k i j)):wC (vF g) f:=λZ H x y a b R Q zd hx hy h q=>by
 obtain ⟨i,j,rfl,rfl,k⟩:=hf a b R h
 cases hx; cases hy
 exact ⟨_,_,rfl,rfl,q _ _ H k (Sm.refl _) (hg i j _)⟩
theorem Wf {C:Int->Int->Prop} {g:Int->Int->V} {k:Int->Int->D} {f:F2} (hg:∀ i j H,DV H (g i j) (k i j)) (hf:∀ a b R,f a b R->∃ i j,a=.int i/\b=.int j/\C i j/\R (k i j)):wC (rI C g) f:=λZ H x y a b R Q zd hx hy h q=>by
 obtain ⟨i,j,rfl,rfl,c,k⟩:=hf a b R h
 cases hx; cases hy
 exact ⟨_,_,rfl,rfl,c,q _ _ H k (Sm.refl _) (hg i j _)⟩
theorem zNM:wC (vF λi j=>.int (i - j)) jj:=KJ (k:=λi j=>.int (i - j)) (λ_ _ _=>.int _) λa b R h=>by
 unfold jj at h
 split at h
 ·exact ⟨_,_,rfl,rfl,h⟩
 ·exact h.elim
def jm:F2
 | .int i,.int j,R=>Bd 60000 i/\Bd 60000 j/\R (.int (i * j))
 | .lst [d],.int k,R=>0<=k/\k<=1000/\R (.lst (List.replicate k.toNat d))
 | _,_,_=>False
theorem kC {α:Type} (x:α):∀ n:Nat,(List.replicate n [x]).flatten=List.replicate n x
 | 0=>rfl
 | n + 1=>by rw [List.replicate_succ,List.flatten_cons,kC x n]; rfl
theorem YU {α β:Type} {R:α->β->Prop} {x:α} {y:β} (h:R x y):∀ n:Nat,Paired R (List.replicate n x) (List.replicate n y)
 | 0=>.nil
 | n + 1=>.cons h (YU h n)
theorem zNO:wC (λx y H Q=>rI YH (λi j=>.int (i * j)) x y H Q\/gZ x y H Q) jm:=λZ H x y a b R Q zd hx hy h q=>by
 unfold jm at h
 split at h
 ·cases hx; cases hy; exact .inl ⟨_,_,rfl,rfl,⟨h.1,h.2.1⟩,q _ _ H h.2.2 (Sm.refl _) (.int _)⟩
 ·rename_i d k
  obtain ⟨p,xs,rfl,e1,h1⟩:=hx.lst_inv
  cases hy
  cases h1 with
  | @cons x _ _ _ h1 h2=>
  cases h2
  refine .inr ⟨p,_,_,rfl,rfl,zo _ _ e1,by omega,by omega,few (by rw [List.length_singleton]; omega),λn hn=>?_⟩
  rw [kC]
  exact q _ _ _ h.2.2 (xj hn _) (v6 zd hn (YU h1 _))
 ·exact h.elim
def Wg:F2
 | .int i,.int j,R=>j≠0/\Bd 8000 j/\R (.int (i.fdiv j))
 | _,_,_=>False
theorem zLc:wC (rI Qj λi j=>.int (i.fdiv j)) Wg:=Wf (k:=λi j=>.int (i.fdiv j)) (λ_ _ _=>.int _) λa b R h=>by
 unfold Wg at h
 split at h
 ·exact ⟨_,_,rfl,rfl,⟨h.1,h.2.1⟩,h.2.2⟩
 ·exact h.elim
def uY:F2
 | .int i,.int j,R=>j≠0/\R (.int (i.fmod j))
 | _,_,_=>False
theorem zNP:wC (rI (λ_ j=>j≠0) λi j=>.int (i.fmod j)) uY:=Wf (k:=λi j=>.int (i.fmod j)) (λ_ _ _=>.int _) λa b R h=>by
 unfold uY at h
 split at h
 ·exact ⟨_,_,rfl,rfl,h.1,h.2⟩
 ·exact h.elim
def jn:F2
 | .int i,.int j,R=>jU i j/\R (.int (i ^ j.toNat))
 | _,_,_=>False
theorem zNN:wC (rI jU λi j=>.int (i ^ j.toNat)) jn:=Wf (k:=λi j=>.int (i ^ j.toNat)) (λ_ _ _=>.int _) λa b R h=>by
 unfold jn at h
 split at h
 ·exact ⟨_,_,rfl,rfl,h.1,h.2⟩
 ·exact h.elim
def xu (g:Int->Int->Bool):F2
 | .int i,.int j,R=>R (.bool (g i j))
 | _,_,_=>False
theorem jo {g:Int->Int->Bool}:wC (vF λi j=>.bl (g i j)) (xu g):=KJ (k:=λi j=>.bool (g i j)) (λ_ _ _=>.bool _) λa b R h=>by
 unfold xu at h
 split at h
 ·exact ⟨_,_,rfl,rfl,h⟩
 ·exact h.elim
theorem zt (ha:PE X a (tP pa)) (hb:PE X b (tP pb)):PE X (.BinOp a .Add b pos) (tP (yz ji pa pb)):=qZ (zPC.or (zPB.or gw)) zNS ha hb
theorem xv (ha:PE X a (tP pa)) (hb:PE X b (tP pb)):PE X (.BinOp a .Sub b pos) (tP (yz jj pa pb)):=qZ zO3 zNM ha hb
theorem yO (ha:PE X a (tP pa)) (hb:PE X b (tP pb)):PE X (.BinOp a .Mult b pos) (tP (yz jm pa pb)):=qZ (zNI.or zO4) zNO ha hb
theorem wS (ha:PE X a (tP pa)) (hb:PE X b (tP pb)):PE X (.BinOp a .FloorDiv b pos) (tP (yz Wg pa pb)):=qZ zLa zLc ha hb
theorem xw (ha:PE X a (tP pa)) (hb:PE X b (tP pb)):PE X (.BinOp a .Mod b pos) (tP (yz uY pa pb)):=qZ zNJ zNP ha hb
theorem jH (ha:PE X a (tP pa)) (hb:PE X b (tP pb)):PE X (.BinOp a .Pow b pos) (tP (yz jn pa pb)):=qZ zO5 zNN ha hb
theorem KL (ha:PE X a (tP pa)) (hb:PE X b (tP pb)):PE X (.Compare a [.Lt] [b] pos) (tP (yz (xu λi j=>decide (i < j)) pa pb)):=qc J9 jo (wq _) ha hb
theorem KM (ha:PE X a (tP pa)) (hb:PE X b (tP pb)):PE X (.Compare a [.LtE] [b] pos) (tP (yz (xu λi j=>decide (i<=j)) pa pb)):=qc gN jo (wq _) ha hb
theorem kD (ha:PE X a (tP pa)) (hb:PE X b (tP pb)):PE X (.Compare a [.Gt] [b] pos) (tP (yz (xu λi j=>decide (j < i)) pa pb)):=qc QA jo (wq _) ha hb
theorem Wi (ha:PE X a (tP pa)) (hb:PE X b (tP pb)):PE X (.Compare a [.GtE] [b] pos) (tP (yz (xu λi j=>decide (j<=i)) pa pb)):=qc QB jo (wq _) ha hb
def kE:D->(D->Prop)->Prop
 | .int i,R=>R (.int (-i))
 | _,_=>False
def kF (f:D->(D->Prop)->Prop) (pa:zp):zp:=λΓ R=>pa Γ λx=>f x R
theorem xW (ha:PE X a (tP pa)):PE X (.UnaryOp .USub a pos) (tP (kF kE pa)):=yM (gJ zOB ha) λσ H Q ⟨Z,Γ,R,E,h,q⟩=>
 ⟨Z,Γ,_,E,h,λd v H1 hd s1 hv=>by
  unfold kE at hd
  split at hd
  ·cases hv; exact ⟨_,rfl,q _ _ H1 hd s1 (.int _)⟩
  ·exact hd.elim⟩
end
end Pu
namespace Pu
open PySem L2 Sh
variable [yL]
mutual
def D.py:D->PyData
 | .int i=>.int i
 | .bool b=>.bool b
 | .non=>.none
 | .str x=>.str x
 | .scr _=>.none
 | .lst ds=>.list (xD ds)
 | .tup ds=>.tuple (xD ds)
 | .obj _ _ _=>.none
def xD:List D->List PyData
 | []=>[]
 | d :: ds=>d.py :: xD ds
end
def D.pl:Nat->D->Bool
 | 0,_=>false
 | _ + 1,.int _=>true
 | _ + 1,.bool _=>true
 | _ + 1,.non=>true
 | _ + 1,.str x=>PyData.strOk x
 | _ + 1,.scr _=>false
 | n + 1,.lst ds=>ds.all (D.pl n)
 | n + 1,.tup ds=>ds.all (D.pl n)
 | _ + 1,.obj ..=>false
structure KN (n:Nat) (d:D):Prop where
 dp:∀ K H v,DV H v d->Dp K H v d.py
 lay:d.py.canLay0=true
 dep:d.py.depth<=n
theorem Wj {n:Nat}:∀ {ds:List D},(∀ d∈ds,KN n d)->(∀ K H xs,yE H xs ds->vb K H xs (xD ds))/\PyData.canLayAll0 (xD ds)=true/\PyData.depthAll (xD ds)<=n
 | [],_=>⟨λK H xs h=>by cases h; exact .nil,by simp [xD,PyData.canLayAll0],by simp [xD,PyData.depthAll]⟩
 | d :: ds,h=>by
  obtain ⟨h1,h2,h3⟩:=Wj (ds:=ds) λx m=>h x (List.mem_cons_of_mem _ m)
  have g:=h d List.mem_cons_self
  have l:=g.lay
  have p:=g.dep
  refine ⟨λK H xs q=>?_,by simp [xD,PyData.canLayAll0,l,h2],by simp only [xD,PyData.depthAll]; omega⟩
  cases q with
  | cons q r=>exact .cons (g.dp K H _ q) (h1 K H _ r)
theorem v7:∀ (n:Nat) (d:D),D.pl n d=true->KN n d
 | 0,_,h=>by cases h
 | n + 1,.int i,_=>⟨λK H v h=>by cases h; exact .int i,by simp [D.py,PyData.canLay0],by simp [D.py,PyData.depth]⟩
 | n + 1,.bool i,_=>⟨λK H v h=>by cases h; exact .bl i,by simp [D.py,PyData.canLay0],by simp [D.py,PyData.depth]⟩
 | n + 1,.non,_=>⟨λK H v h=>by cases h; exact .non,by simp [D.py,PyData.canLay0],by simp [D.py,PyData.depth]⟩
 | n + 1,.str i,h=>⟨λK H v h=>by cases h; exact .str i,by simp only [D.py,PyData.canLay0]; exact h,by simp [D.py,PyData.depth]⟩
 | n + 1,.scr _,h=>by cases h
 | n + 1,.obj ..,h=>by cases h
 | n + 1,.lst ds,h=>by
  obtain ⟨h1,h2,h3⟩:=Wj (n:=n) (ds:=ds) λd m=>v7 n d (List.all_eq_true.mp h d m)
  refine ⟨λK H v q=>?_,by simp [D.py,PyData.canLay0,h2],by simp only [D.py,PyData.depth]; omega⟩
  obtain ⟨p,xs,rfl,e,q⟩:=q.lst_inv
  exact .lst (zV.of e) (h1 K H _ q)
 | n + 1,.tup ds,h=>by
  obtain ⟨h1,h2,h3⟩:=Wj (n:=n) (ds:=ds) λd m=>v7 n d (List.all_eq_true.mp h d m)
  refine ⟨λK H v q=>?_,by simp [D.py,PyData.canLay0,h2],by simp only [D.py,PyData.depth]; omega⟩
  obtain ⟨p,xs,rfl,e,q⟩:=q.tup_inv
  exact .tup (zl.of e) (h1 K H _ q)
theorem Wl:∀ ns:List Int,xD (ns.map D.int)=ns.map PyData.int
 | []=>rfl
 | n :: t=>by rw [List.map_cons,List.map_cons,xD,Wl t,D.py]
theorem Wm (n:Nat) (ns:List Int):(ns.map D.int).all (D.pl (n + 1))=true:=List.all_eq_true.mpr λd m=>by
 obtain ⟨i,_,rfl⟩:=List.mem_map.mp m
 rfl
abbrev L (ns:List Int):D:=.lst (ns.map D.int)
abbrev U (ns:List Int):D:=.tup (ns.map D.int)
section
variable {X:Cx} {a b e c:Expr} {es:List Expr} {pos:Pos} {pa pb pc:zp} {qa qb:xr} {pl:yf}
def kG:F2
 | .int i,.int j,R=>R (.bool (decide (i=j)))
 | .bool i,.bool j,R=>R (.bool (i == j))
 | .str i,.str j,R=>R (.bool (i == j))
 | .non,.non,R=>R (.bool true)
 | .lst as,.lst bs,R=>(D.lst as).pl 50=true/\(D.lst bs).pl 50=true/\R (.bool (PyData.eqv (D.lst as).py (D.lst bs).py))
 | .tup as,.tup bs,R=>(D.tup as).pl 50=true/\(D.tup bs).pl 50=true/\R (.bool (PyData.eqv (D.tup as).py (D.tup bs).py))
 | _,_,_=>False
theorem KO {K:PySem.W.Frag}:wC (λx y H Q=>J0 x y H Q\/gi K x y H Q) kG:=λZ H x y a b R Q zd hx hy h q=>by
 unfold kG at h
 split at h
 ·cases hx; cases hy
  refine .inl ⟨rfl,?_⟩
  rw [Z7,Bool.beq_eq_decide_eq]
  exact q _ _ H h (Sm.refl _) (.bool _)
 ·cases hx; cases hy
  refine .inl ⟨rfl,?_⟩
  rw [Z8]
  exact q _ _ H h (Sm.refl _) (.bool _)
 ·cases hx; cases hy
  refine .inl ⟨rfl,?_⟩
  rw [Z9]
  exact q _ _ H h (Sm.refl _) (.bool _)
 ·cases hx; cases hy
  refine .inl ⟨rfl,?_⟩
  rw [show decide (V.non=V.non)=true from decide_eq_true rfl]
  exact q _ _ H h (Sm.refl _) (.bool _)
 ·have d1:=v7 _ _ h.1
  have d2:=v7 _ _ h.2.1
  have e1:=d1.dep
  have e2:=d2.dep
  exact .inr ⟨_,_,d1.dp K H _ (hx.same zo),d2.dp K H _ (hy.same zo),d1.lay,d2.lay,by omega,by omega,q _ _ H h.2.2 (Sm.refl _) (.bool _)⟩
 ·have d1:=v7 _ _ h.1
  have d2:=v7 _ _ h.2.1
  have e1:=d1.dep
  have e2:=d2.dep
  exact .inr ⟨_,_,d1.dp K H _ (hx.same zo),d2.dp K H _ (hy.same zo),d1.lay,d2.lay,by omega,by omega,q _ _ H h.2.2 (Sm.refl _) (.bool _)⟩
 ·exact h.elim
def vg:F2
 | .int i,.int j,R=>R (.bool (!decide (i=j)))
 | .bool i,.bool j,R=>R (.bool (i != j))
 | .str i,.str j,R=>R (.bool (i != j))
 | .lst as,.lst bs,R=>(D.lst as).pl 50=true/\(D.lst bs).pl 50=true/\R (.bool (!PyData.eqv (D.lst as).py (D.lst bs).py))
 | .tup as,.tup bs,R=>(D.tup as).pl 50=true/\(D.tup bs).pl 50=true/\R (.bool (!PyData.eqv (D.tup as).py (D.tup bs).py))
 | _,_,_=>False
theorem KP {K:PySem.W.Frag}:wC (λx y H Q=>J1 x y H Q\/∃ d e:PyData,Dp K H x d/\Dp K H y e/\d.canLay0=true/\e.canLay0=true/\d.depth<=60/\e.depth<=60/\Q (.bl (!PyData.eqv d e)) H) vg:=λZ H x y a b R Q zd hx hy h q=>by
 unfold vg at h
 split at h
 ·cases hx; cases hy
  refine .inl ⟨rfl,?_⟩
  rw [Z7,Bool.beq_eq_decide_eq]
  exact q _ _ H h (Sm.refl _) (.bool _)
 ·cases hx; cases hy
  refine .inl ⟨rfl,?_⟩
  rw [Z8]
  exact q _ _ H h (Sm.refl _) (.bool _)
 ·cases hx; cases hy
  refine .inl ⟨rfl,?_⟩
  rw [Z9]
  exact q _ _ H h (Sm.refl _) (.bool _)
 ·have d1:=v7 _ _ h.1
  have d2:=v7 _ _ h.2.1
  have e1:=d1.dep
  have e2:=d2.dep
  exact .inr ⟨_,_,d1.dp K H _ (hx.same zo),d2.dp K H _ (hy.same zo),d1.lay,d2.lay,by omega,by omega,q _ _ H h.2.2 (Sm.refl _) (.bool _)⟩
 ·have d1:=v7 _ _ h.1
  have d2:=v7 _ _ h.2.1
  have e1:=d1.dep
  have e2:=d2.dep
  exact .inr ⟨_,_,d1.dp K H _ (hx.same zo),d2.dp K H _ (hy.same zo),d1.lay,d2.lay,by omega,by omega,q _ _ H h.2.2 (Sm.refl _) (.bool _)⟩
 ·exact h.elim
theorem KQ (hu:X.A.units + 64 < cLine) (ha:PE X a (tP pa)) (hb:PE X b (tP pb)):PE X (.Compare a [.NotEq] [b] pos) (tP (yz vg pa pb)):=qc (J8.or (Qu hu)) KP (wq _) ha hb
theorem uZ (hu:X.A.units + 64 < cLine) (ha:PE X a (tP pa)) (hb:PE X b (tP pb)):PE X (.Compare a [.Eq] [b] pos) (tP (yz kG pa pb)):=qc (J7.or (Q3 hu)) KO (wq _) ha hb
def bD:D->(Bool->Prop)->Prop
 | .bool b,R=>R b
 | _,_=>False
def xI (pa:zp):xr:=λΓ R=>pa Γ λd=>bD d R
theorem KR {t:TE} (w:∀ σ H Q,tP pa σ H Q->t σ H Q) (σ:St) (H:Hp) (Q:Bool->Hp->Prop):yt (xI pa) σ H Q->QD t σ H Q:=λ⟨Z,Γ,R,E,h,q⟩=>
 w _ _ _ ⟨Z,Γ,_,E,h,λd v H1 hd s1 hv=>by
  unfold bD at hd
  split at hd
  ·cases hv; exact ⟨_,rfl,q _ H1 hd s1⟩
  ·exact hd.elim⟩
theorem xJ (ha:PE X e (tP pa)) (he:∀ whole,isTrue e X.env whole=(do let v <- whole; standAt e.pos; holding [v] (truthy v)):=by intro _; rfl):PT X e (yt (xI pa)):=Wc (zOi ha he) (KR λ_ _ _ h=>h)
theorem jp {op:CmpOp} {r:R2} {f:F2} (ho:yW X (compareOp op) r) (o:wC r f) (hm:behindInMarks op b=false) (ha:PE X a (tP pa)) (hb:PE X b (tP pb)):PT X (.Compare a [op] [b] pos) (yt (xI (yz f pa pb))):=Wc (zM5 ho ha hb hm) (KR (Yi o))
theorem vM (hu:X.A.units + 64 < cLine) (ha:PE X a (tP pa)) (hb:PE X b (tP pb)):PT X (.Compare a [.Eq] [b] pos) (yt (xI (yz kG pa pb))):=jp (J7.or (Q3 hu)) KO (wq _) ha hb
theorem qd (hu:X.A.units + 64 < cLine) (ha:PE X a (tP pa)) (hb:PE X b (tP pb)):PT X (.Compare a [.NotEq] [b] pos) (yt (xI (yz vg pa pb))):=jp (J8.or (Qu hu)) KP (wq _) ha hb
theorem jq (ha:PE X a (tP pa)) (hb:PE X b (tP pb)):PT X (.Compare a [.Lt] [b] pos) (yt (xI (yz (xu λi j=>decide (i < j)) pa pb))):=jp J9 jo (wq _) ha hb
theorem jr (ha:PE X a (tP pa)) (hb:PE X b (tP pb)):PT X (.Compare a [.Gt] [b] pos) (yt (xI (yz (xu λi j=>decide (j < i)) pa pb))):=jp QA jo (wq _) ha hb
theorem zOd (ha:PE X a (tP pa)) (hb:PE X b (tP pb)):PT X (.Compare a [.GtE] [b] pos) (yt (xI (yz (xu λi j=>decide (j<=i)) pa pb))):=jp QB jo (wq _) ha hb
def xX (b:Bool) (A B:Prop):Prop:=(b=true->A)/\(b=false->B)
theorem wT {b:Bool} {A B:Prop} (e:b=true) (h:A):xX b A B:=⟨λ_=>h,λz=>nomatch e.symm.trans z⟩
theorem wF {b:Bool} {A B:Prop} (e:b=false) (h:B):xX b A B:=⟨λz=>(nomatch e.symm.trans z),λ_=>h⟩
theorem w2 {b:Bool} {A B:Prop} (h1:b=true->A) (h2:b=false->B):xX b A B:=⟨h1,h2⟩
def Wn (p q:xr):xr:=λΓ R=>p Γ λc=>xX c (q Γ R) (R false)
def pOr (p q:xr):xr:=λΓ R=>p Γ λc=>xX c (R true) (q Γ R)
def Wo (p:xr):xr:=λΓ R=>p Γ λc=>R (!c)
theorem KS (ha:PT X a (yt qa)):PW X (.BoolOp .And [a] pos) (yt qa):=zM2 ha
theorem vN (ha:PT X a (yt qa)):PW X (.BoolOp .Or [a] pos) (yt qa):=zOb ha
theorem KU {zx:List Expr} (ha:PT X a (yt qa)) (hb:PW X (.BoolOp .And (b :: zx) pos) (yt qb)):PW X (.BoolOp .And (a :: b :: zx) pos) (yt (Wn qa qb)):=KG (zOc ha hb) λσ H Q ⟨Z,Γ,R,E,h,q⟩=>
 ⟨Z,Γ,_,E,h,λc H1 hc s1=>by
  cases c with
  | true=>exact ⟨Z,Γ,R,E.same s1,hc.1 rfl,λb H2 hb s2=>q b H2 hb (s1.trans s2)⟩
  | false=>exact q _ H1 (hc.2 rfl) s1⟩
theorem w4 {zx:List Expr} (ha:PT X a (yt qa)) (hb:PW X (.BoolOp .Or (b :: zx) pos) (yt qb)):PW X (.BoolOp .Or (a :: b :: zx) pos) (yt (pOr qa qb)):=KG (qv ha hb) λσ H Q ⟨Z,Γ,R,E,h,q⟩=>
 ⟨Z,Γ,_,E,h,λc H1 hc s1=>by
  cases c with
  | true=>exact q _ H1 (hc.1 rfl) s1
  | false=>exact ⟨Z,Γ,R,E.same s1,hc.2 rfl,λb H2 hb s2=>q b H2 hb (s1.trans s2)⟩⟩
theorem wU (ha:PT X a (yt qa)):PT X (.UnaryOp .Not a pos) (yt (Wo qa)):=Wc (zOj ha) λσ H Q ⟨Z,Γ,R,E,h,q⟩=>⟨Z,Γ,_,E,h,λc H1 hc s1=>q _ H1 hc s1⟩
def kH (p q:zp):zp:=λΓ R=>p Γ λd=>bD d λc=>xX c (q Γ R) (R (.bool false))
def Wp (p q:zp):zp:=λΓ R=>p Γ λd=>bD d λc=>xX c (R (.bool true)) (q Γ R)
def kI (p:zp):zp:=λΓ R=>p Γ λd=>bD d λc=>R (.bool !c)
theorem vh {op} (ha:PE X a (tP pa)):PE X (.BoolOp op [a] pos) (tP pa):=zOt ha
theorem wj {zx:List Expr} (ha:PE X a (tP pa)) (hb:PE X (.BoolOp .And (b :: zx) pos) (tP pb)):PE X (.BoolOp .And (a :: b :: zx) pos) (tP (kH pa pb)):=yM (zOz ha hb) λσ H Q ⟨Z,Γ,R,E,h,q⟩=>
 ⟨Z,Γ,_,E,h,λd v H1 hd s1 hv=>by
  unfold bD at hd
  split at hd
  ·cases hv
   rename_i c
   refine ⟨c,rfl,?_⟩
   cases c with
   | true=>exact ⟨Z,Γ,R,E.same s1,hd.1 rfl,λb v H2 hb s2 k=>q b v H2 hb (s1.trans s2) k⟩
   | false=>exact q _ _ H1 (hd.2 rfl) s1 (.bool _)
  ·exact hd.elim⟩
theorem kJ {zx:List Expr} (ha:PE X a (tP pa)) (hb:PE X (.BoolOp .Or (b :: zx) pos) (tP pb)):PE X (.BoolOp .Or (a :: b :: zx) pos) (tP (Wp pa pb)):=yM (qy ha hb) λσ H Q ⟨Z,Γ,R,E,h,q⟩=>
 ⟨Z,Γ,_,E,h,λd v H1 hd s1 hv=>by
  unfold bD at hd
  split at hd
  ·cases hv
   rename_i c
   refine ⟨c,rfl,?_⟩
   cases c with
   | true=>exact q _ _ H1 (hd.1 rfl) s1 (.bool _)
   | false=>exact ⟨Z,Γ,R,E.same s1,hd.2 rfl,λb v H2 hb s2 k=>q b v H2 hb (s1.trans s2) k⟩
  ·exact hd.elim⟩
theorem zOe (ha:PE X a (tP pa)):PE X (.UnaryOp .Not a pos) (tP (kI pa)):=yM (zOu ha) λσ H Q ⟨Z,Γ,R,E,h,q⟩=>
 ⟨Z,Γ,_,E,h,λd v H1 hd s1 hv=>by
  unfold bD at hd
  split at hd
  ·cases hv; exact ⟨_,rfl,q _ _ H1 hd s1 (.bool _)⟩
  ·exact hd.elim⟩
def Wq (t:xr) (p q:zp):zp:=λΓ R=>t Γ λc=>xX c (p Γ R) (q Γ R)
theorem kK (hc:PT X c (yt qa)) (ha:PE X a (tP pa)) (hb:PE X b (tP pb)):PE X (.IfExp c a b pos) (tP (Wq qa pa pb)):=yM (zLW hc ha hb) λσ H Q ⟨Z,Γ,R,E,h,q⟩=>
 ⟨Z,Γ,_,E,h,λc H1 hd s1=>by
  cases c with
  | true=>exact ⟨Z,Γ,R,E.same s1,hd.1 rfl,λb v H2 hb s2 k=>q b v H2 hb (s1.trans s2) k⟩
  | false=>exact ⟨Z,Γ,R,E.same s1,hd.2 rfl,λb v H2 hb s2 k=>q b v H2 hb (s1.trans s2) k⟩⟩
def kL:yf:=λ_ R=>R []
def KW (pa:zp) (pl:yf):yf:=λΓ R=>pa Γ λd=>pl Γ λds=>R (d :: ds)
theorem zC:PA X [] (xk kL):=KH yn λσ H Q ⟨_,_,_,_,h,q⟩=>q _ _ H h (Sm.refl _) .nil
theorem zB (ha:PE X e (tP pa)) (hr:PA X es (xk pl)) (hs:starEach (e :: es) X.env=(false,eval e X.env) :: starEach es X.env:=by rfl):PA X (e :: es) (xk (KW pa pl)):=KH (yI ha hr hs) λσ H Q ⟨Z,Γ,R,E,h,q⟩=>
 ⟨Z,Γ,_,E,h,λd v H1 hd s1 hv=>⟨Z,Γ,_,E.same s1,hd,λds vs H2 hds s2 hvs=>q _ _ H2 hds (s1.trans s2) (.cons (hv.same (yU s2)) hvs)⟩⟩
def Wr (pl:yf):zp:=λΓ R=>pl Γ λds=>ds.length<=1000/\R (.tup ds)
def Ws (pl:yf):zp:=λΓ R=>pl Γ λds=>ds.length<=1000/\R (.lst ds)
theorem y3 {x1} (ha:PA X es (xk pl)):PE X (.Tuple es x1 pos) (tP (Wr pl)):=yM (zOr ha) λσ H Q ⟨Z,Γ,R,E,h,q⟩=>
 ⟨Z,Γ,_,E,h,λds vs H1 hd s1 hv=>⟨few (by rw [Paired.length hv]; exact hd.1),λp hp=>q _ _ _ hd.2 (s1.trans (xj hp _)) (Yj (E.same s1).zd hp hv)⟩⟩
theorem wl (ha:PA X es (xk pl)):PE X (.List es pos) (tP (Ws pl)):=yM (QH ha) λσ H Q ⟨Z,Γ,R,E,h,q⟩=>
 ⟨Z,Γ,_,E,h,λds vs H1 hd s1 hv=>⟨few (by rw [Paired.length hv]; exact hd.1),λp hp=>q _ _ _ hd.2 (s1.trans (xj hp _)) (v6 (E.same s1).zd hp hv)⟩⟩
theorem Wt {α β:Type} {R:α->β->Prop} {xs:List α} {ys:List β} (h:Paired R xs ys) {i:Int} {y:β} (e:yX ys i=some y):∃ x,yX xs i=some x/\R x y:=by
 unfold yX at e |-
 rw [Paired.length h]
 cases k:xn ys.length i with
 | none=>rw [k] at e; cases e
 | some j=>
  rw [k] at e
  exact go h e
where
 go:∀ {xs:List α} {ys:List β} {j:Nat} {y:β},Paired R xs ys->ys[j]? = some y->∃ x,xs[j]? = some x/\R x y
  | _,_,_,_,.nil,e=>by simp at e
  | _,_,0,_,.cons r _,e=>by simp at e; subst e; exact ⟨_,rfl,r⟩
  | _,_,j + 1,y,.cons _ t,e=>by
   obtain ⟨x,h1,h2⟩:=go (j:=j) (y:=y) t (by simpa using e)
   exact ⟨x,by simpa using h1,h2⟩
def ixD:F2
 | .lst ds,.int i,R=>∃ d,yX ds i=some d/\R d
 | .tup ds,.int i,R=>∃ d,yX ds i=some d/\R d
 | .scr ns,.int i,R=>∃ n,yX ns i=some n/\R (.int n)
 | _,_,_=>False
theorem kM {α β:Type} (f:α->β) (xs:List α) (i:Int):yX (xs.map f) i=(yX xs i).map f:=by
 unfold yX
 rw [List.length_map]
 cases xn xs.length i with
 | none=>rfl
 | some j=>exact List.getElem?_map ..
theorem zPD {K:PySem.W.Frag}:wC (gm K) ixD:=λZ H x y a b R Q zd hx hy h q=>by
 unfold ixD at h
 split at h
 ·obtain ⟨p,xs,rfl,e1,h1⟩:=hx.lst_inv
  cases hy
  obtain ⟨d,hd,hR⟩:=h
  obtain ⟨v,hv,hh⟩:=Wt h1 hd
  exact ⟨p,xs,_,v,rfl,rfl,.inr (zV.of (zo _ _ e1)),hv,q _ _ H hR (Sm.refl _) hh⟩
 ·obtain ⟨p,xs,rfl,e1,h1⟩:=hx.tup_inv
  cases hy
  obtain ⟨d,hd,hR⟩:=h
  obtain ⟨v,hv,hh⟩:=Wt h1 hd
  exact ⟨p,xs,_,v,rfl,rfl,.inl (zl.of (zo _ _ e1)),hv,q _ _ H hR (Sm.refl _) hh⟩
 ·cases hy
  cases hx with
  | scr e=>
  obtain ⟨n,hn,hR⟩:=h
  exact ⟨_,_,_,.int n,rfl,rfl,.inr (.inl (Wb zo e)),by rw [kM,hn]; rfl,q _ _ H hR (Sm.refl _) (.int n)⟩
 ·exact h.elim
theorem zQ (ha:PE X a (tP pa)) (hb:PE X b (tP pb)) (hs:QW b):PE X (.Subscript a b pos) (tP (yz ixD pa pb)):=yM (QX zNc ha hb hs) (Yi zPD)
theorem kN {X:Cx} {e:Option Expr} {t t':TO} (h:PO X e t) (w:∀ σ H Q,t' σ H Q->t σ H Q):PO X e t':=λpins s σ H Q I q=>h pins s σ H Q I (w σ H Q q)
def zNF:kA:=λ_ R=>R none
def iD:D->(Option Int->Prop)->Prop
 | .int i,R=>R (some i)
 | _,_=>False
def kO (pa:zp):kA:=λΓ R=>pa Γ λd=>iD d R
theorem wV:PO X none (kB zNF):=kN zM9 λσ H Q ⟨_,_,_,_,h,q⟩=>q _ H h (Sm.refl _)
theorem xl (h:PE X e (tP pa)):PO X (some e) (kB (kO pa)):=kN (zM8 h) λσ H Q ⟨Z,Γ,R,E,h,q⟩=>
 ⟨Z,Γ,_,E,h,λd v H1 hd s1 hv=>by
  unfold iD at hd
  split at hd
  ·cases hv; exact ⟨_,rfl,q _ H1 hd s1⟩
  ·exact hd.elim⟩
def zi {α:Type} (xs:List α) (lo hi:Option Int):List α:=(xs.drop (HT.sIx xs.length 0 lo)).take (HT.sIx xs.length xs.length hi - HT.sIx xs.length 0 lo)
theorem KY {α β:Type} {R:α->β->Prop}:∀ {xs:List α} {ys:List β} (n:Nat),Paired R xs ys->Paired R (xs.take n) (ys.take n)
 | _,_,0,_=>.nil
 | _,_,_ + 1,.nil=>.nil
 | _,_,n + 1,.cons h t=>.cons h (KY n t)
theorem KZ {α β:Type} {R:α->β->Prop}:∀ {xs:List α} {ys:List β} (n:Nat),Paired R xs ys->Paired R (xs.drop n) (ys.drop n)
 | _,_,0,h=>h
 | _,_,_ + 1,.nil=>.nil
 | _,_,n + 1,.cons _ t=>KZ n t
theorem Ka {α β:Type} {R:α->β->Prop} {xs:List α} {ys:List β} (h:Paired R xs ys) (lo hi:Option Int):Paired R (zi xs lo hi) (zi ys lo hi):=by
 unfold zi
 rw [Paired.length h]
 exact KY _ (KZ _ h)
def Kb:D->Option Int->Option Int->(D->Prop)->Prop
 | .lst ds,lo,hi,R=>R (.lst (zi ds lo hi))
 | .tup ds,lo,hi,R=>R (.tup (zi ds lo hi))
 | _,_,_,_=>False
def pSl (pa:zp) (po qo:kA):zp:=λΓ R=>pa Γ λd=>po Γ λl=>qo Γ λu=>Kb d l u R
theorem zOR {X:Cx} {r r':V->Option Int->Option Int->Hp->VK->Prop} (h:vY X r) (h':vY X r'):vY X (λx l u H Q=>r x l u H Q\/r' x l u H Q):=λpins s σ H x v vl vu lo hi sl Q I r1 r2 r3 r4 q=>
 q.elim (h pins s σ H x v vl vu lo hi sl Q I r1 r2 r3 r4) (h' pins s σ H x v vl vu lo hi sl Q I r1 r2 r3 r4)
theorem wD {lo hi:Option Expr} {po qo:kA} {p2:Pos} (ha:PE X a (tP pa)) (hl:PO X lo (kB po)) (hu:PO X hi (kB qo)):PE X (.Subscript a (.Slice lo hi none p2) pos) (tP (pSl pa po qo)):=yM (zLT (zOR zMt zLw) ha hl hu) λσ H Q ⟨Z,Γ,R,E,h,q⟩=>
 ⟨Z,Γ,_,E,h,λd v H1 hd s1 hv=>⟨Z,Γ,_,E.same s1,hd,λl H2 hl s2=>⟨Z,Γ,_,E.same (s1.trans s2),hl,λu H3 hu s3=>by
  have s:=s1.trans (s2.trans s3)
  have hv:=hv.same (yU (s2.trans s3))
  have zd:=(E.same s).zd
  unfold Kb at hu
  split at hu
  ·obtain ⟨p,xs,rfl,e1,h1⟩:=hv.lst_inv
   exact .inl ⟨p,xs,rfl,zV.of (zo _ _ e1),λn hn=>q _ _ _ hu (s.trans (xj hn _)) (v6 zd hn (Ka h1 _ _))⟩
  ·obtain ⟨p,xs,rfl,e1,h1⟩:=hv.tup_inv
   exact .inr ⟨p,xs,rfl,zo _ _ e1,λn H' s' e=>have s':=Sm.of s'; q _ _ _ hu (s.trans s') (KI (zd.same s') e (yr (yU s') (Ka h1 _ _)))⟩
  ·exact hu.elim⟩⟩⟩
abbrev FL:=List D->(D->Prop)->Prop
def w6 (r:List V->Hp->VK->Prop) (f:FL):Prop:=∀ (Z:Addr->Prop) (H:Hp) (vs:List V) (ds:List D) (R:D->Prop) (Q:VK),ZL Z H->yE (hid Z H) vs ds->f ds R->(∀ d v H',R d->Sm H H'->DV (hid Z H') v d->Q v H')->r vs H Q
def ua (f:FL) (pl:yf):zp:=λΓ R=>pl Γ λds=>f ds R
theorem Kc {r:List V->Hp->VK->Prop} {f:FL} (o:w6 r f) (σ:St) (H:Hp) (Q:VK):tP (ua f pl) σ H Q->gQ r (xk pl) σ H Q:=λ⟨Z,Γ,R,E,h,q⟩=>
 ⟨Z,Γ,_,E,h,λds vs H1 hd s1 hv=>o Z H1 vs ds R Q (E.same s1).zd hv hd λd v H2 h2 s2 hv2=>q d v H2 h2 (s1.trans s2) hv2⟩
theorem yT {x:Str} {id:String} {p:Pos} {r:List V->Hp->VK->Prop} {f:FL} (hc:xN X (.builtin id) r) (o:w6 r f) (hg:Gl X x) (hm:X.mg x=none) (hv:bootBuiltins x=some (.builtin id)) (ha:PA X (e :: es) (xk pl)) (hn:x≠"__name__":=by decide) (hdb:(x == ("__debug__" : Str))=false:=by decide)
  (he:starEach (e :: es) X.env=(false,eval e X.env) :: starEach es X.env:=by rfl) (hpl:(backTo pos (starEach es X.env)).any (·.1)=false:=by rfl):PE X (.Call (.Name x p) (e :: es) [] pos) (tP (ua f pl)):=yM (wu hc hg hm hv ha hn hdb he hpl) (Kc o)
theorem xE {x:Str} {T:String} {p:Pos} {r:List V->Hp->VK->Prop} {f:FL} (hc:xN X (.type T) r) (o:w6 r f) (hg:Gl X x) (hm:X.mg x=none) (hv:bootBuiltins x=some (.type T)) (ha:PA X (e :: es) (xk pl)) (hn:x≠"__name__":=by decide) (hdb:(x == ("__debug__" : Str))=false:=by decide)
  (he:starEach (e :: es) X.env=(false,eval e X.env) :: starEach es X.env:=by rfl) (hpl:(backTo pos (starEach es X.env)).any (·.1)=false:=by rfl):PE X (.Call (.Name x p) (e :: es) [] pos) (tP (ua f pl)):=yM (YD hc hg hm hv ha hn hdb he hpl) (Kc o)
def kP:FL
 | [.lst ds],R=>R (.int ds.length)
 | [.tup ds],R=>R (.int ds.length)
 | [.scr ns],R=>R (.int ns.length)
 | _,_=>False
theorem yY {H:Hp} {vs:List V} {d:D} (h:yE H vs [d]):∃ v,vs=[v]/\DV H v d:=by
 cases h with
 | cons h t=>cases t; exact ⟨_,rfl,h⟩
theorem wa {H:Hp} {vs:List V} {d e:D} (h:yE H vs [d,e]):∃ v w,vs=[v,w]/\DV H v d/\DV H w e:=by
 cases h with
 | cons h t=>obtain ⟨w,rfl,k⟩:=yY t; exact ⟨_,_,rfl,h,k⟩
theorem xY {K:PySem.W.Frag}:w6 (λxs H Q=>∃ p ys,xs=[.ref p]/\(zV K H p ys\/zl K H p ys)/\Q (.int ys.length) H) kP:=λZ H vs ds R Q zd hv h q=>by
 unfold kP at h
 split at h
 ·obtain ⟨v,rfl,hw⟩:=yY hv
  obtain ⟨p,xs,rfl,e1,h1⟩:=hw.lst_inv
  exact ⟨p,xs,rfl,.inl (zV.of (zo _ _ e1)),by rw [Paired.length h1]; exact q _ _ H h (Sm.refl _) (.int _)⟩
 ·obtain ⟨v,rfl,hw⟩:=yY hv
  obtain ⟨p,xs,rfl,e1,h1⟩:=hw.tup_inv
  exact ⟨p,xs,rfl,.inr (zl.of (zo _ _ e1)),by rw [Paired.length h1]; exact q _ _ H h (Sm.refl _) (.int _)⟩
 ·obtain ⟨v,rfl,hw⟩:=yY hv
  cases hw with
  | scr e=>exact ⟨_,_,rfl,.inl (.inl (Wb zo e)),by rw [List.length_map]; exact q _ _ H h (Sm.refl _) (.int _)⟩
 ·exact h.elim
def Ke:FL
 | [.lst ds],R=>R (.lst ds)
 | [.tup ds],R=>R (.lst ds)
 | _,_=>False
theorem vO {K:PySem.W.Frag}:w6 (λxs H Q=>∃ p ys,xs=[.ref p]/\(zV K H p ys\/zl K H p ys)/\∀ l,H l=none->Q (.ref l) (upd H l (.lst ys))) Ke:=λZ H vs ds R Q zd hv h q=>by
 unfold Ke at h
 split at h
 ·obtain ⟨v,rfl,hw⟩:=yY hv
  obtain ⟨p,xs,rfl,e1,h1⟩:=hw.lst_inv
  exact ⟨p,xs,rfl,.inl (zV.of (zo _ _ e1)),λl hl=>q _ _ _ h (xj hl _) (v6 zd hl h1)⟩
 ·obtain ⟨v,rfl,hw⟩:=yY hv
  obtain ⟨p,xs,rfl,e1,h1⟩:=hw.tup_inv
  exact ⟨p,xs,rfl,.inr (zl.of (zo _ _ e1)),λl hl=>q _ _ _ h (xj hl _) (v6 zd hl h1)⟩
 ·exact h.elim
def kQ:FL
 | [.lst ds],R=>R (.tup ds)
 | [.tup ds],R=>R (.tup ds)
 | _,_=>False
theorem ub {K:PySem.W.Frag}:w6 (λxs H Q=>∃ p ys,xs=[.ref p]/\((zV K H p ys/\∀ l,H l=none->Q (.ref l) (upd H l (.tup ys)))\/(zl K H p ys/\Q (.ref p) H))) kQ:=λZ H vs ds R Q zd hv h q=>by
 unfold kQ at h
 split at h
 ·obtain ⟨v,rfl,hw⟩:=yY hv
  obtain ⟨p,xs,rfl,e1,h1⟩:=hw.lst_inv
  exact ⟨p,xs,rfl,.inl ⟨zV.of (zo _ _ e1),λl hl=>q _ _ _ h (xj hl _) (Yj zd hl h1)⟩⟩
 ·obtain ⟨v,rfl,hw⟩:=yY hv
  obtain ⟨p,xs,rfl,e1,h1⟩:=hw.tup_inv
  exact ⟨p,xs,rfl,.inr ⟨zl.of (zo _ _ e1),q _ _ _ h (Sm.refl _) hw⟩⟩
 ·exact h.elim
def kR:FL
 | [.lst ds],R=>∃ ns:List Int,ds=ns.map D.int/\R (.int ns.sum)
 | _,_=>False
theorem Kf {K:PySem.W.Frag}:w6 (λxs H Q=>∃ (p:Addr) (ns:List Int),xs=[.ref p]/\zV K H p (ns.map V.int)/\Q (.int ns.sum) H) kR:=λZ H vs ds R Q zd hv h q=>by
 unfold kR at h
 split at h
 ·obtain ⟨v,rfl,hw⟩:=yY hv
  obtain ⟨p,xs,rfl,e1,h1⟩:=hw.lst_inv
  obtain ⟨ns,rfl,h⟩:=h
  cases g6 h1
  exact ⟨p,ns,rfl,zV.of (zo _ _ e1),q _ _ H h (Sm.refl _) (.int _)⟩
 ·exact h.elim
def kS:FL
 | [.lst ds],R=>∃ bs:List Bool,ds=bs.map D.bool/\R (.bool (bs.all id))
 | _,_=>False
theorem jI {K:PySem.W.Frag}:w6 (λxs H Q=>∃ (p:Addr) (bs:List Bool),xs=[V.ref p]/\zV K H p (bs.map V.bl)/\Q (V.bl (bs.all id)) H) kS:=λZ H vs ds R Q zd hv h q=>by
 unfold kS at h
 split at h
 ·obtain ⟨v,rfl,hw⟩:=yY hv
  obtain ⟨p,xs,rfl,e1,h1⟩:=hw.lst_inv
  obtain ⟨ns,rfl,h⟩:=h
  cases KF h1
  exact ⟨p,ns,rfl,zV.of (zo _ _ e1),q _ _ H h (Sm.refl _) (.bool _)⟩
 ·exact h.elim
def kT:FL
 | [.int i,.int j],R=>R (.int (max i j))
 | _,_=>False
theorem Wu:w6 (λxs H Q=>∃ i j,xs=[.int i,.int j]/\Q (.int (if j > i then j else i)) H) kT:=λZ H vs ds R Q zd hv h q=>by
 unfold kT at h
 split at h
 ·rename_i i j
  obtain ⟨v,w,rfl,hx,hy⟩:=wa hv
  cases hx; cases hy
  refine ⟨_,_,rfl,?_⟩
  have e:(if j > i then j else i)=max i j:=by rw [Int.max_def]; split <;> split <;> omega
  rw [e]
  exact q _ _ H h (Sm.refl _) (.int _)
 ·exact h.elim
def kU:FL
 | [.int i,.int j],R=>R (.int (min i j))
 | _,_=>False
theorem zNu:w6 (λxs H Q=>∃ i j,xs=[.int i,.int j]/\Q (.int (if j < i then j else i)) H) kU:=λZ H vs ds R Q zd hv h q=>by
 unfold kU at h
 split at h
 ·rename_i i j
  obtain ⟨v,w,rfl,hx,hy⟩:=wa hv
  cases hx; cases hy
  refine ⟨_,_,rfl,?_⟩
  have e:(if j < i then j else i)=min i j:=by rw [Int.min_def]; split <;> split <;> omega
  rw [e]
  exact q _ _ H h (Sm.refl _) (.int _)
 ·exact h.elim
def kW:FL
 | [.int i],R=>R (.int i)
 | [.bool b],R=>R (.int (if b=true then 1 else 0))
 | _,_=>False
theorem Wv:w6 (λxs H Q=>(∃ i,xs=[.int i]/\Q (.int i) H)\/∃ k,xs=[.bl k]/\Q (.int (if k then 1 else 0)) H) kW:=λZ H vs ds R Q zd hv h q=>by
 unfold kW at h
 split at h
 ·obtain ⟨v,rfl,hw⟩:=yY hv
  cases hw
  exact .inl ⟨_,rfl,q _ _ H h (Sm.refl _) (.int _)⟩
 ·obtain ⟨v,rfl,hw⟩:=yY hv
  cases hw
  exact .inr ⟨_,rfl,q _ _ H h (Sm.refl _) (.int _)⟩
 ·exact h.elim
end
end Pu
namespace Pu
open PySem L2 Sh
variable [yL]
def setN:St->List Nat->List V->St
 | σ,j :: js,v :: vs=>setN (σ.set j (some v)) js vs
 | σ,_,_=>σ
def kX:List Sl->List Nat->List D->List Sl
 | Γ,j :: js,d :: ds=>kX (zr Γ j (.sh d)) js ds
 | Γ,_,_=>Γ
theorem zw.setN {Z:Addr->Prop} {H:Hp}:∀ {js:List Nat} {vs:List V} {os:List D} {Γ:List Sl} {σ:St},zw Z Γ σ H->yE (hid Z H) vs os->zw Z (kX Γ js os) (Pu.setN σ js vs) H
 | [],_,_,_,_,E,_=>E
 | _ :: _,_,_,_,_,E,.nil=>E
 | _ :: js,_,_,_,_,E,.cons h t=>zw.setN (js:=js) (E.set h _) t
def v8:Option (List D)->(List D->Prop)->Prop
 | some os,k=>k os
 | none,_=>False
theorem kY {o:Option (List D)} {k:List D->Prop} (h:v8 o k):∃ os,o=some os/\k os:=by
 cases o with
 | none=>exact h.elim
 | some os=>exact ⟨os,rfl,h⟩
inductive tG (js:List Nat) (po:D->Option (List D)) (v:V) (σ:St) (H:Hp) (Q:St->Hp->Prop):Prop
 | mk (Z:Addr->Prop) (d:D) (os:List D) (hv:DV (hid Z H) v d) (ho:po d=some os) (q:∀ vs,yE (hid Z H) vs os->Q (setN σ js vs) H):tG js po v σ H Q
inductive Kg (js:List Nat) (po:List D->Option (List D)) (us:List V) (σ:St) (H:Hp) (Q:St->Hp->Prop):Prop
 | mk (Z:Addr->Prop) (ds os:List D) (hv:yE (hid Z H) us ds) (ho:po ds=some os) (q:∀ vs,yE (hid Z H) vs os->Q (setN σ js vs) H):Kg js po us σ H Q
structure Yk (X:Cx) (es:List Expr) (js:List Nat) (po:List D->Option (List D)) (n:Nat):Prop where
 g:qG X es (Kg js po)
 l:∀ ds os,po ds=some os->ds.length=n
 k:∀ ds os,po ds=some os->os.length=js.length
section
variable {X:Cx} {pos:Pos}
def Kh:D->Option (List D):=λd=>some [d]
theorem zu (i:Nat) {x:Str} (hN:X.N.Nodup) (hi:X.N[i]? = some x) (hx:uF X.env.scope x) (hf:X.fn x=true\/X.env.scope.names.lookup x=some .local:=by first | exact .inl rfl | exact .inr rfl | assumption):PG X (.Name x pos) (tG [i] Kh):=
 λpins s σ H v u Q I r ⟨_,_,_,hv,ho,q⟩=>Jx hN hi hx hf pins s σ H v u Q I r (by
  cases ho
  exact q [v] (.cons hv .nil))
def Ki:List D->Option (List D)
 | []=>some []
 | _=>none
def Kj (po:List D->Option (List D)):List D->Option (List D)
 | d :: ds=>(po ds).map (d :: ·)
 | []=>none
def Yl (po:List D->Option (List D)):D->Option (List D)
 | .tup ds=>po ds
 | .lst ds=>po ds
 | _=>none
theorem wE:Yk X [] [] Ki 0 where
 g:=λpins s σ H vs us Q I r ⟨_,ds,os,hv,ho,q⟩=>by
  cases ds with
  | nil=>cases hv; exact zNC pins s σ H [] us Q I r ⟨rfl,q [] (by cases ho; exact .nil)⟩
  | cons=>cases ho
 l:=λds os h=>by cases ds with | nil=>rfl | cons=>cases h
 k:=λds os h=>by cases ds with | nil=>cases h; rfl | cons=>cases h
theorem yA (i:Nat) {x:Str} {es:List Expr} {js:List Nat} {po:List D->Option (List D)} {n:Nat} (hN:X.N.Nodup) (hi:X.N[i]? = some x) (hx:uF X.env.scope x) (h:Yk X es js po n)
  (hs:(assignEach (.Name x pos :: es) X.env).map (·.2)=assign (.Name x pos) X.env :: (assignEach es X.env).map (·.2):=by rfl) (hf:X.fn x=true\/X.env.scope.names.lookup x=some .local:=by first | exact .inl rfl | exact .inr rfl | assumption):Yk X (.Name x pos :: es) (i :: js) (Kj po) (n + 1) where
 g:=λpins s σ H vs us Q I r ⟨Z,ds,os,hv,ho,q⟩=>by
  cases hv with
  | nil=>cases ho
  | @cons v d vt dt hv ht=>
   change (po dt).map (d :: ·)=some os at ho
   cases e:po dt with
   | none=>rw [e] at ho; cases ho
   | some os'=>
    rw [e] at ho
    cases ho
    exact zLS (Jx hN hi hx hf) h.g hs pins s σ H _ us Q I r ⟨v,vt,rfl,Z,dt,os',ht,e,λvs hvs=>q (v :: vs) (.cons hv hvs)⟩
 l:=λds os q=>by
  cases ds with
  | nil=>cases q
  | cons d dt=>
   change (po dt).map (d :: ·)=some os at q
   cases e:po dt with
   | none=>rw [e] at q; cases q
   | some os'=>rw [List.length_cons,h.l dt os' e]
 k:=λds os q=>by
  cases ds with
  | nil=>cases q
  | cons d dt=>
   change (po dt).map (d :: ·)=some os at q
   cases e:po dt with
   | none=>rw [e] at q; cases q
   | some os'=>rw [e] at q; cases q; rw [List.length_cons,List.length_cons,h.k dt os' e]
theorem xm {H:Hp} {vs:List V} {ds:List D} (h:yE H vs ds):vs.length=ds.length:=Paired.length h
theorem uc {po:List D->Option (List D)} {js:List Nat} (h:∀ ds os,po ds=some os->os.length=js.length):∀ d os,Yl po d=some os->os.length=js.length:=λd os q=>by
 unfold Yl at q
 split at q
 ·exact h _ _ q
 ·exact h _ _ q
 ·cases q
theorem wG {es:List Expr} {js:List Nat} {po:List D->Option (List D)} {n k:Nat} (hc:X.calm=true) (h:Yk X es js po n) (hn:(assignEach es X.env).length=n:=by rfl) (hst:(assignEach es X.env).findIdx? (·.1)=none:=by rfl):PG X (.Tuple es k pos) (tG js (Yl po)):=
 λpins s σ H v u Q I r ⟨Z,d,os,hv,ho,q⟩=>by
  unfold Yl at ho
  split at ho
  ·obtain ⟨p,xs,rfl,e,hx⟩:=hv.tup_inv
   exact zOp hc h.g hn hst pins s σ H _ u Q I r ⟨p,xs,rfl,zl.of (zo _ _ e),by rw [xm hx]; exact h.l _ _ ho,Z,_,os,hx,ho,q⟩
  ·obtain ⟨p,xs,rfl,e,hx⟩:=hv.lst_inv
   exact zOq hc h.g hn hst pins s σ H _ u Q I r ⟨p,xs,rfl,zV.of (zo _ _ e),by rw [xm hx]; exact h.l _ _ ho,Z,_,os,hx,ho,q⟩
  ·cases ho
end
def Wk (Z:Addr->Prop) (J:It) (H:Hp) (ds:List D):Prop:=∀ i Z' H',zJ (hid Z H) (hid Z' H')->ZL Z' H'->(∀ d,ds[i]? = some d->J.go i H'/\∀ x H'',J.yld i H' x H''->Sm H' H''/\DV (hid Z' H'') x d)/\(i=ds.length->J.stop i H')
inductive v9 (p:yf) (σ:St) (H:Hp) (Q:It->Hp->Prop):Prop
 | mk (Z:Addr->Prop) (Γ:List Sl) (R:List D->Prop) (E:zw Z Γ σ H) (h:p Γ R) (q:∀ ds J H',R ds->Sm H H'->Wk Z J H' ds->Q J H'):v9 p σ H Q
theorem kZ {α β:Type} {R:α->β->Prop} {xs:List α} {ys:List β} (h:Paired R xs ys) {j:Nat} {y:β} (e:ys[j]? = some y):∃ x,xs[j]? = some x/\R x y:=Wt.go h e
section
variable {X:Cx} {tg e e1 e2:Expr} {pos:Pos} {pa:zp} {pl:yf}
theorem ka {w w':TI} (h:PI X tg e w) (k:∀ σ H R,w' σ H R->w σ H R):PI X tg e w':=λpins s σ H R I q=>h pins s σ H R I (k σ H R q)
def Ww (K:PySem.W.Frag) (tl:TE):TI:=λσ H R=>tl σ H λx H1=>(∃ a,x=.ref a/\(∃ xs,zV K H1 a xs)/\R (Xz K a) H1)\/∃ a,x=.ref a/\(∃ xs,zl K H1 a xs)/\R (X0 K a) H1
theorem zOo {l:Expr} {tl:TE} (hl:PE X l tl):PI X tg l (Ww X.K tl):=by
 intro pins s σ H R I h
 refine zb (hl pins s σ H _ I h) λv s1 ⟨x,H1,I1,r1,q1⟩=>?_
 rcases q1 with ⟨a,e,⟨xs,hq⟩,q⟩ | ⟨a,e,⟨xs,hq⟩,q⟩
 ·subst e
  cases r1
  obtain ⟨its,rv,p,hz⟩:=I1.list hq
  refine PySem.wpAny_pyIter_list p.isList ?_
  refine ⟨s1.heap.objs.size,[s1.heap.objs.size],_,_,H1,rfl,I1.kept (t':=s1.toks) λb o e=>Heap.get?_push_of_some _ e,zJC a _,⟨_,Heap.get?_push_size _ rfl,rfl,rfl⟩,λb hb=>?_,q⟩
  have e:b=s1.heap.objs.size:=by simpa using hb
  subst e
  exact I1.fpOk (Nat.le_refl _) (I1.hok.fresh (Nat.le_refl _))
 ·subst e
  cases r1
  obtain ⟨its,rv,p,hz⟩:=I1.tuple hq
  refine PySem.wpAny_pyIter_tuple (show s1.heap.IsTuple a its.toArray from p) ?_
  refine ⟨s1.heap.objs.size,[s1.heap.objs.size],_,_,H1,rfl,I1.kept (t':=s1.toks) λb o e=>Heap.get?_push_of_some _ e,zIb a _,⟨_,Heap.get?_push_size _ rfl,rfl,rfl⟩,λb hb=>?_,q⟩
  have e:b=s1.heap.objs.size:=by simpa using hb
  subst e
  exact I1.fpOk (Nat.le_refl _) (I1.hok.fresh (Nat.le_refl _))
def jt:D->(List D->Prop)->Prop
 | .lst ds,R=>R ds
 | .tup ds,R=>R ds
 | _,_=>False
def kd (pa:zp):yf:=λΓ R=>pa Γ λd=>jt d R
theorem zMk {K:PySem.W.Frag} {Z:Addr->Prop} {H:Hp} {p:Addr} {xs:List V} {ds:List D} (e:hid Z H p=some (.lst xs)) (h:yE (hid Z H) xs ds):Wk Z (Xz K p) H ds:=λi Z' H' s zd=>by
 have e1:=zo _ _ (s _ _ e)
 refine ⟨λd hd=>?_,λhi=>⟨xs,zV.of e1,by rw [xm h]; omega⟩⟩
 obtain ⟨x,hx,hh⟩:=kZ h hd
 refine ⟨⟨xs,x,zV.of e1,hx⟩,λy H'' ⟨e2,hy⟩=>?_⟩
 subst e2
 have:=hy xs (zV.of e1)
 rw [hx] at this
 cases this
 exact ⟨Sm.refl _,hh.same s⟩
theorem zN8 {K:PySem.W.Frag} {Z:Addr->Prop} {H:Hp} {p:Addr} {xs:List V} {ds:List D} (e:hid Z H p=some (.tup xs)) (h:yE (hid Z H) xs ds):Wk Z (X0 K p) H ds:=λi Z' H' s zd=>by
 have e1:=zo _ _ (s _ _ e)
 refine ⟨λd hd=>?_,λhi=>⟨xs,zl.of e1,by rw [xm h]; omega⟩⟩
 obtain ⟨x,hx,hh⟩:=kZ h hd
 refine ⟨⟨xs,x,zl.of e1,hx⟩,λy H'' ⟨e2,hy⟩=>?_⟩
 subst e2
 have:=hy xs (zl.of e1)
 rw [hx] at this
 cases this
 exact ⟨Sm.refl _,hh.same s⟩
theorem yo (ha:PE X e (tP pa)):PI X tg e (v9 (kd pa)):=ka (zOo ha) λσ H Q ⟨Z,Γ,R,E,h,q⟩=>
 ⟨Z,Γ,_,E,h,λd v H1 hd s1 hv=>by
  unfold jt at hd
  split at hd
  ·obtain ⟨p,xs,rfl,e,hx⟩:=hv.lst_inv
   exact .inl ⟨p,rfl,⟨xs,zV.of (zo _ _ e)⟩,q _ _ H1 hd s1 (zMk e hx)⟩
  ·obtain ⟨p,xs,rfl,e,hx⟩:=hv.tup_inv
   exact .inr ⟨p,rfl,⟨xs,zl.of (zo _ _ e)⟩,q _ _ H1 hd s1 (zN8 e hx)⟩
  ·exact hd.elim⟩
def rng (lo:Int) (n:Nat):List D:=(List.range n).map λk:Nat=>D.int (lo + (k:Int))
theorem Kk {Z:Addr->Prop} {H:Hp} {lo:Int} {n:Nat}:Wk Z (gE lo n) H (rng lo n):=λi Z' H' s zd=>by
 refine ⟨λd hd=>?_,λhi=>?_⟩
 ·unfold rng at hd
  rw [List.getElem?_map] at hd
  have hlt:i < n:=by
   apply Classical.byContradiction
   intro c
   rw [List.getElem?_eq_none (by rw [List.length_range]; omega)] at hd
   cases hd
  rw [List.getElem?_range hlt] at hd
  cases hd
  exact ⟨hlt,λx H'' ⟨e1,e2⟩=>by subst e1; subst e2; exact ⟨Sm.refl _,.int _⟩⟩
 ·show n<=i
  rw [hi]
  unfold rng
  rw [List.length_map,List.length_range]
  exact Nat.le_refl _
def rng0 (n:Nat):List D:=(List.range n).map λk:Nat=>D.int (k:Int)
theorem Wx (n:Nat):rng0 n=rng 0 n:=List.map_congr_left λk _=>by rw [Int.zero_add]
theorem wm {n k:Nat} {d:D} (h:(rng0 n)[k]? = some d):k < n/\d=.int (k:Int):=by
 unfold rng0 at h
 rw [List.getElem?_map] at h
 by_cases c:k < n
 ·rw [List.getElem?_range c] at h
  exact ⟨c,(Option.some.inj h).symm⟩
 ·rw [List.getElem?_eq_none (by rw [List.length_range]; omega)] at h
  cases h
theorem w8 (n:Nat):(rng0 n).length=n:=by unfold rng0; rw [List.length_map,List.length_range]
def Kl:List D->(List D->Prop)->Prop
 | [.int j],R=>-1000<=j/\j<=1000/\R (rng0 j.toNat)
 | _,_=>False
def Km:List D->(List D->Prop)->Prop
 | [.int i,.int j],R=>-1000<=i/\i<=1000/\-1000<=j/\j<=1000/\R (rng i (j - i).toNat)
 | _,_=>False
def Wy (f:List D->(List D->Prop)->Prop) (pl:yf):yf:=λΓ R=>pl Γ λds=>f ds R
theorem xA {p:Pos} (hg:Gl X "range") (hm:X.mg "range" = none) (ha:PA X [e] (xk pl)) (hs:starEach [e] X.env=[(false,eval e X.env)]:=by rfl):PI X tg (.Call (.Name "range" p) [e] [] pos) (v9 (Wy Kl pl)):=ka (zJc hg hm ha hs) λσ H Q ⟨Z,Γ,R,E,h,q⟩=>
 ⟨Z,Γ,_,E,h,λds vs H1 hd s1 hv=>by
  unfold Kl at hd
  split at hd
  ·obtain ⟨h1,h2,hd⟩:=hd
   obtain ⟨v,rfl,hw⟩:=yY hv
   cases hw
   rw [Wx] at hd
   exact ⟨_,rfl,by omega,by omega,q _ _ H1 hd s1 Kk⟩
  ·exact hd.elim⟩
theorem zIk {p:Pos} (hg:Gl X "range") (hm:X.mg "range" = none) (ha:PA X [e1,e2] (xk pl)) (hs:starEach [e1,e2] X.env=[(false,eval e1 X.env),(false,eval e2 X.env)]:=by rfl) (hs2:starEach [e2] X.env=[(false,eval e2 X.env)]:=by rfl) :
  PI X tg (.Call (.Name "range" p) [e1,e2] [] pos) (v9 (Wy Km pl)):=ka (zJb hg hm ha hs hs2) λσ H Q ⟨Z,Γ,R,E,h,q⟩=>
 ⟨Z,Γ,_,E,h,λds vs H1 hd s1 hv=>by
  unfold Km at hd
  split at hd
  ·obtain ⟨h1,h2,h3,h4,hd⟩:=hd
   obtain ⟨v,w,rfl,hx,hy⟩:=wa hv
   cases hx; cases hy
   exact ⟨_,_,rfl,⟨by omega,by omega,by omega,by omega⟩,q _ _ H1 hd s1 Kk⟩
  ·exact hd.elim⟩
abbrev yZ (x y:D):D:=.tup [x,y]
theorem Wz {α β γ:Type} (f:α->β->γ):∀ {xs:List α} {ys:List β} {i:Nat} {z:γ},(List.zipWith f xs ys)[i]? = some z->∃ x y,xs[i]? = some x/\ys[i]? = some y/\z=f x y
 | [],_,_,_,h=>by simp at h
 | _ :: _,[],_,_,h=>by simp at h
 | x :: _,y :: _,0,_,h=>by simp at h; exact ⟨x,y,rfl,rfl,h.symm⟩
 | _ :: xs,_ :: ys,i + 1,z,h=>by
  obtain ⟨x,y,h1,h2,h3⟩:=Wz f (xs:=xs) (ys:=ys) (i:=i) (z:=z) (by simpa using h)
  exact ⟨x,y,by simpa using h1,by simpa using h2,h3⟩
theorem Ym {S1 S2:Hp->Addr->List V->Prop} {Z:Addr->Prop} {H:Hp} {p r:Addr} {xs ys:List V} {ds es:List D} (h1:∀ Z' H',zJ (hid Z H) (hid Z' H')->S1 H' p xs) (h2:∀ Z' H',zJ (hid Z H) (hid Z' H')->S2 H' r ys) (hx:yE (hid Z H) xs ds) (hy:yE (hid Z H) ys es) :
  Wk Z ⟨λi H=>∃ xs ys x y,S1 H p xs/\S2 H r ys/\xs[i]? = some x/\ys[i]? = some y,λi H v H'=>∃ T x y,v=.ref T/\H T=none/\H'=upd H T (.tup [x,y])/\(∀ xs,S1 H p xs->xs[i]? = some x)/\∀ ys,S2 H r ys->ys[i]? = some y,
   λi H=>∃ xs ys,S1 H p xs/\S2 H r ys/\i<=xs.length/\i<=ys.length/\(i=xs.length\/i=ys.length)⟩ H (List.zipWith yZ ds es):=λi Z' H' s zd=>by
 have a1:=h1 Z' H' s
 have a2:=h2 Z' H' s
 have l1:=xm hx
 have l2:=xm hy
 refine ⟨λd hd=>?_,λhi=>?_⟩
 ·obtain ⟨a,b,ha,hb,rfl⟩:=Wz _ hd
  obtain ⟨x,gx,kx⟩:=kZ hx ha
  obtain ⟨y,gy,ky⟩:=kZ hy hb
  refine ⟨⟨xs,ys,x,y,a1,a2,gx,gy⟩,λv H'' ⟨T,x',y',ev,hT,eH,q1,q2⟩=>?_⟩
  have:=q1 xs a1
  rw [gx] at this
  cases this
  have:=q2 ys a2
  rw [gy] at this
  cases this
  subst ev
  subst eH
  exact ⟨xj hT _,Yj zd hT (.cons (kx.same s) (.cons (ky.same s) .nil))⟩
 ·rw [List.length_zipWith] at hi
  exact ⟨xs,ys,a1,a2,by omega,by omega,by omega⟩
def vi:List D->(List D->Prop)->Prop
 | [.lst ds,.lst es],R=>R (List.zipWith yZ ds es)
 | [.lst ds,.tup es],R=>R (List.zipWith yZ ds es)
 | [.tup ds,.lst es],R=>R (List.zipWith yZ ds es)
 | [.tup ds,.tup es],R=>R (List.zipWith yZ ds es)
 | _,_=>False
theorem uA {ts:List Expr} {kk:Nat} {tp p:Pos} (hg:Gl X "zip") (hm:X.mg "zip" = none) (ha:PA X [e1,e2] (xk pl)) (hs:starEach [e1,e2] X.env=[(false,eval e1 X.env),(false,eval e2 X.env)]:=by rfl) (hs2:starEach [e2] X.env=[(false,eval e2 X.env)]:=by rfl) :
  PI X (.Tuple ts kk tp) (.Call (.Name "zip" p) [e1,e2] [] pos) (v9 (Wy vi pl)):=ka (zNA hg hm ha hs hs2) λσ H Q ⟨Z,Γ,R,E,h,q⟩=>
 ⟨Z,Γ,_,E,h,λds vs H1 hd s1 hv=>by
  unfold vi at hd
  split at hd
  ·obtain ⟨v,w,rfl,hx,hy⟩:=wa hv
   obtain ⟨a,xs,rfl,ea,ha⟩:=hx.lst_inv
   obtain ⟨b,ys,rfl,eb,hb⟩:=hy.lst_inv
   exact ⟨a,b,rfl,.inr (.inl ⟨⟨xs,zV.of (zo _ _ ea)⟩,⟨ys,zV.of (zo _ _ eb)⟩,q _ _ H1 hd s1 (Ym (λ_ _ s=>zV.of (zo _ _ (s _ _ ea))) (λ_ _ s=>zV.of (zo _ _ (s _ _ eb))) ha hb)⟩)⟩
  ·obtain ⟨v,w,rfl,hx,hy⟩:=wa hv
   obtain ⟨a,xs,rfl,ea,ha⟩:=hx.lst_inv
   obtain ⟨b,ys,rfl,eb,hb⟩:=hy.tup_inv
   exact ⟨a,b,rfl,.inr (.inr (.inr ⟨⟨xs,zV.of (zo _ _ ea)⟩,⟨ys,zl.of (zo _ _ eb)⟩,q _ _ H1 hd s1 (Ym (λ_ _ s=>zV.of (zo _ _ (s _ _ ea))) (λ_ _ s=>zl.of (zo _ _ (s _ _ eb))) ha hb)⟩))⟩
  ·obtain ⟨v,w,rfl,hx,hy⟩:=wa hv
   obtain ⟨a,xs,rfl,ea,ha⟩:=hx.tup_inv
   obtain ⟨b,ys,rfl,eb,hb⟩:=hy.lst_inv
   exact ⟨a,b,rfl,.inl ⟨⟨xs,zl.of (zo _ _ ea)⟩,⟨ys,zV.of (zo _ _ eb)⟩,q _ _ H1 hd s1 (Ym (λ_ _ s=>zl.of (zo _ _ (s _ _ ea))) (λ_ _ s=>zV.of (zo _ _ (s _ _ eb))) ha hb)⟩⟩
  ·obtain ⟨v,w,rfl,hx,hy⟩:=wa hv
   obtain ⟨a,xs,rfl,ea,ha⟩:=hx.tup_inv
   obtain ⟨b,ys,rfl,eb,hb⟩:=hy.tup_inv
   exact ⟨a,b,rfl,.inr (.inr (.inl ⟨⟨xs,zl.of (zo _ _ ea)⟩,⟨ys,zl.of (zo _ _ eb)⟩,q _ _ H1 hd s1 (Ym (λ_ _ s=>zl.of (zo _ _ (s _ _ ea))) (λ_ _ s=>zl.of (zo _ _ (s _ _ eb))) ha hb)⟩))⟩
  ·exact hd.elim⟩
end
end Pu
namespace Pu
open PySem L2 Sh
variable [yL]
def un:Sl->Sl
 | .sh d=>.sh d
 | _=>.no
theorem Kn:∀ (Γ:List Sl) (i:Nat),slot Γ i=(Γ[i]?).getD .no
 | [],_=>rfl
 | _ :: _,0=>rfl
 | _ :: t,i + 1=>(Kn t i).trans (by rw [List.getElem?_cons_succ])
theorem kg {s:Sl} {d:D} (h:un s=.sh d):s=.sh d:=by cases s <;> first | exact h | cases h
theorem kh {s:Sl} {ds:List D} (h:un s=.ow ds):False:=by cases s <;> cases h
theorem ki {s:Sl} {o c:Addr} {ns:List Str} {ds:List D} (h:un s=.ob o c ns ds):False:=by cases s <;> cases h
theorem Yn {os:List D} {l:List Sl} (hl:∀ i o c ns ds,slot l i≠.ob o c ns ds):∀ i o c ns ds,slot (os.map Sl.sh++l) i≠.ob o c ns ds:=λi o c ns ds h=>by
 induction os generalizing i with
 | nil=>exact hl i o c ns ds h
 | cons d t ih=>
  cases i with
  | zero=>cases h
  | succ i=>exact ih i h
theorem Yo {os:List D} {l:List Sl} (hl:∀ i ds,slot l i≠.ow ds):∀ i ds,slot (os.map Sl.sh++l) i≠.ow ds:=λi ds h=>by
 induction os generalizing i with
 | nil=>exact hl i ds h
 | cons d t ih=>
  cases i with
  | zero=>cases h
  | succ i=>exact ih i h
theorem Yp (Γ:List Sl):∀ (js:List Nat) (i:Nat),slot (js.map λj=>un (slot Γ j)) i=match js[i]? with | some j=>un (slot Γ j) | none=>.no
 | [],_=>rfl
 | _ :: _,0=>rfl
 | _ :: js,i + 1=>by
  rw [List.getElem?_cons_succ]
  exact Yp Γ js i
theorem W0 {Z:Addr->Prop} {Γ:List Sl} {σ:St} {H:Hp} (E:zw Z Γ σ H) {js:List Nat} {vs:List V} {os:List D} (h:yE (hid Z H) vs os):zw Z (os.map Sl.sh++js.map λj=>un (slot Γ j)) (vs.map some++js.map λj=>(σ[j]?).getD none) H:=by
 have no:∀ i ds,slot (os.map Sl.sh++js.map λj=>un (slot Γ j)) i≠.ow ds:=Yo λi ds h=>by
  rw [Yp] at h
  split at h
  ·exact kh h
  ·cases h
 have nob:∀ i o c ns ds,slot (os.map Sl.sh++js.map λj=>un (slot Γ j)) i≠.ob o c ns ds:=Yn λi o c ns ds h=>by
  rw [Yp] at h
  split at h
  ·exact ki h
  ·cases h
 refine ⟨?_,λi ds e=>absurd e (no i ds),λi o c ns ds e=>absurd e (nob i o c ns ds),λi _ ds _ _ e=>absurd e (no i ds),E.zd,?_⟩
 clear nob
 ·induction h with
  | nil=>
   intro i d e
   change slot (js.map λj=>un (slot Γ j)) i=_ at e
   show ∃ v,(js.map λj=>(σ[j]?).getD none)[i]? = some (some v)/\_
   rw [Yp] at e
   rw [List.getElem?_map]
   cases k:js[i]? with
   | none=>rw [k] at e; cases e
   | some j=>
    rw [k] at e
    obtain ⟨v,h1,h2⟩:=E.sh j d (kg e)
    exact ⟨v,by show some ((σ[j]?).getD none)=_; rw [h1]; rfl,h2⟩
  | @cons v d vs ds hv _ ih=>
   intro i e q
   cases i with
   | zero=>cases q; exact ⟨v,rfl,hv⟩
   | succ i=>
    obtain ⟨u,h1,h2⟩:=ih (λi=>no (i + 1)) i e q
    exact ⟨u,by rw [List.map_cons,List.cons_append,List.getElem?_cons_succ]; exact h1,h2⟩
 ·rw [List.length_append,List.length_append,List.length_map,List.length_map,List.length_map,List.length_map,xm h]
theorem W1 (c:St):∀ (pre o:St) (vs:List V),o.length=vs.length->setN (pre++(o++c)) (List.range' pre.length o.length) vs=pre++(vs.map some++c)
 | _,[],[],_=>rfl
 | _,[],_ :: _,h=>nomatch h
 | _,_ :: _,[],h=>nomatch h
 | pre,x :: o,v :: vs,h=>by
  rw [List.length_cons,List.range'_succ]
  show setN ((pre++((x :: o)++c)).set pre.length (some v)) (List.range' (pre.length + 1) o.length) vs=_
  rw [List.set_append_right _ _ (Nat.le_refl _),Nat.sub_self]
  have:=W1 c (pre++[some v]) o vs (Nat.succ.inj h)
  rw [List.length_append,List.append_assoc] at this
  rw [List.append_assoc] at this
  exact this
inductive zg (ds:List D) (G:D->(D->Prop)->Prop) (R:D->Prop):Prop
 | mk (few:ds.length<=1000) (F:D->D->Prop) (h:∀ d,d∈ds->G d (F d)) (q:∀ es,Paired F ds es->R (.lst es)):zg ds G R
def kj (caps:List Nat) (pi:yf) (po:D->Option (List D)) (pe:zp):zp:=λΓ R=>pi Γ λds=>zg ds (λd S=>v8 (po d) λos=>pe (os.map Sl.sh++caps.map λj=>un (slot Γ j)) S) R
theorem Ko {Z:Addr->Prop} {Γ:List Sl} {σ:St} {H:Hp} {own:List Str} {caps:List (Nat × Str)} {J:It} {ds:List D} {js:List Nat} {po:D->Option (List D)} {pe:zp} {Q:VK} {F:D->D->Prop} (E:zw Z Γ σ H) (wk:Wk Z J H ds) (hj:js=List.range' 0 own.length) (hk:∀ d os,po d=some os->os.length=js.length) (few:ds.length<=1000)
  (hF:∀ d,d∈ds->v8 (po d) λos=>pe (os.map Sl.sh++(caps.map (·.1)).map λj=>un (slot Γ j)) (F d))
  (q:∀ es ys H' p,Paired F ds es->Sm H H'->yE (hid Z H') ys es->H' p=none->Q (.ref p) (upd H' p (.lst ys))):Qm J (tG js po) (tP pe) Q (xq own caps σ) H:=by
 have hc:xq own caps σ=own.map (λ_=>none)++(caps.map (·.1)).map λj=>(σ[j]?).getD none:=by
  unfold xq
  rw [List.map_map]
  rfl
 refine ⟨λi m ys σ1 H1=>m + i=ds.length/\Sm H H1/\(∃ es,Paired F (ds.take i) es/\yE (hid Z H1) ys es)/\∃ o:St,o.length=own.length/\σ1=o++(caps.map (·.1)).map λj=>(σ[j]?).getD none,⟨ds.length,rfl,Sm.refl _,⟨[],.nil,.nil⟩,_,List.length_map ..,hc⟩,?_⟩
 rintro i m ys σ1 H1 ⟨hm,s1,⟨es,he,hy⟩,o,lo,rfl⟩
 obtain ⟨w1,w2⟩:=wk i Z H1 (yU s1) (E.zd.same s1)
 have le:es.length=i:=by
  have:=Paired.length he
  rw [List.length_take] at this
  omega
 by_cases hi:i < ds.length
 ·refine .inr ⟨(w1 _ (List.getElem?_eq_getElem hi)).1,by rw [xm hy,le]; exact YF (by omega),λy σ' H'=>m - 1 + (i + 1)=ds.length/\Sm H H'/\(∃ es,Paired F (ds.take (i + 1)) es/\yE (hid Z H') (ys++[y]) es)/\∃ o:St,o.length=own.length/\σ'=o++(caps.map (·.1)).map λj=>(σ[j]?).getD none,λy σ' H' k=>⟨m - 1,by omega,k⟩,λx H' yl=>?_⟩
  obtain ⟨s2,dv⟩:=(w1 _ (List.getElem?_eq_getElem hi)).2 x H' yl
  obtain ⟨os,ho,hp⟩:=kY (hF _ (List.getElem_mem hi))
  have lo2:=hk _ _ ho
  refine ⟨Z,_,os,dv,ho,λvs hvs=>?_⟩
  have lv:=xm hvs
  have e1:setN (o++(caps.map (·.1)).map λj=>(σ[j]?).getD none) js vs=vs.map some++(caps.map (·.1)).map λj=>(σ[j]?).getD none:=by
   rw [hj,<- lo]
   exact W1 _ [] o vs (by rw [lv,lo2,hj,List.length_range']; exact lo)
  rw [e1]
  refine ⟨Z,_,_,W0 (E.same (s1.trans s2)) hvs,hp,λd v H3 hd s3 hv=>⟨by omega,s1.trans (s2.trans s3),⟨es++[d],?_,jX hv (yr (yU (s2.trans s3)) hy)⟩,_,?_,rfl⟩⟩
  ·rw [List.take_succ_eq_append_getElem hi]
   exact jX hd he
  ·rw [List.length_map,lv,lo2,hj,List.length_range']
 ·have ei:i=ds.length:=by omega
  refine .inl ⟨w2 ei,λp hp=>q es ys H1 p ?_ s1 hy hp⟩
  rw [List.take_of_length_le (by omega)] at he
  exact he
section
variable {X:Cx} {scope:Scope} {own:List Str} {caps:List (Nat × Str)} {tg iter elt:Expr} {pos:Pos} {pi:yf} {po:D->Option (List D)} {pe:zp} {js:List Nat}
theorem yc (B:wx X scope own caps) (hc:X.calm=true) (hj:js=List.range' 0 own.length) (hk:∀ d os,po d=some os->os.length=js.length) (hi:PI X tg iter (v9 pi)) (hg:∀ C s₀ H₀ ex,PG (yK X scope (zW own caps) C s₀ H₀ ex) tg (tG js po))
  (he:∀ C s₀ H₀ ex,PE (yK X scope (zW own caps) C s₀ H₀ ex) elt (tP pe)) (hs:∀ x,foldedSetIterable iter X.env x=pure x:=by intro _; rfl):PE X (.ListComp elt [⟨tg,iter,[],0⟩] scope pos) (tP (kj (caps.map (·.1)) pi po pe)):=
 yM (zLX B hc hi hg he hs) λσ H Q ⟨Z,Γ,R,E,h,q⟩=>⟨Z,Γ,_,E,h,λds J H1 ⟨fw,F,hF,hR⟩ s1 wk=>Ko (E.same s1) wk hj hk fw hF λes ys H' p h1 s2 h2 hp=>q _ _ _ (hR es h1) (s1.trans (s2.trans (xj hp _))) (v6 ((E.same s1).zd.same s2) hp h2)⟩
end
theorem zg.map {ds:List D} {G:D->(D->Prop)->Prop} {R:D->Prop} (f:D->D) (few:ds.length<=1000) (h:∀ d,d∈ds->G d λe=>e=f d) (q:R (.lst (ds.map f))):zg ds G R:=⟨few,λd e=>e=f d,h,λes p=>by
 have:∀ {ds es:List D},Paired (λd e=>e=f d) ds es->es=ds.map f:=λ{ds es} p=>by
  induction p with
  | nil=>rfl
  | cons h _ ih=>rw [h,ih]; rfl
 rw [this p]
 exact q⟩
theorem zg.all {ds:List D} {G:D->(D->Prop)->Prop} {R:D->Prop} (P:D->Prop) (few:ds.length<=1000) (h:∀ d,d∈ds->G d P) (q:∀ es,es.length=ds.length->(∀ e∈es,P e)->R (.lst es)):zg ds G R:=⟨few,λ_=>P,h,λes p=>q es (Paired.length p).symm (by
 clear h few q
 induction p with
 | nil=>exact λ_ h=>nomatch h
 | cons h _ ih=>exact λe m=>(List.mem_cons.mp m).elim (λz=>z ▸ h) (ih e))⟩
theorem zg.at {ds:List D} {G:D->(D->Prop)->Prop} {R:D->Prop} (P:D->D->Prop) (few:ds.length<=1000) (h:∀ d,d∈ds->G d (P d)) (q:∀ es,Paired P ds es->R (.lst es)):zg ds G R:=⟨few,P,h,q⟩
def yB:D->Int
 | .int i=>i
 | _=>0
theorem zg.int {ns:List Int} {G:D->(D->Prop)->Prop} {R:D->Prop} (g:Int->Int) (few:ns.length<=1000) (h:∀ n,n∈ns->G (.int n) λe=>e=.int (g n)) (q:R (.lst ((ns.map g).map D.int))):zg (ns.map D.int) G R:=
 zg.map (λd=>.int (g (yB d))) (by rw [List.length_map]; exact few) (λd m=>by
  obtain ⟨n,hn,rfl⟩:=List.mem_map.mp m
  exact h n hn) (by rw [List.map_map] at q |-; exact q)
theorem zg.bool {ds:List D} {G:D->(D->Prop)->Prop} {R:D->Prop} (g:D->Bool) (few:ds.length<=1000) (h:∀ d,d∈ds->G d λe=>e=.bool (g d)) (q:R (.lst ((ds.map g).map D.bool))):zg ds G R:=
 zg.map (λd=>.bool (g d)) few h (by rw [List.map_map] at q; exact q)
theorem zg.rng {lo:Int} {n:Nat} {G:D->(D->Prop)->Prop} {R:D->Prop} (g:Nat->D) (few:n<=1000) (h:∀ k,k < n->G (.int (lo + (k:Int))) λe=>e=g k) (q:R (.lst ((List.range n).map g))):zg (Pu.rng lo n) G R:=
 zg.map (λd=>g (yB d - lo).toNat) (by unfold Pu.rng; rw [List.length_map,List.length_range]; exact few) (λd m=>by
  obtain ⟨k,hk,rfl⟩:=List.mem_map.mp m
  rw [show (yB (.int (lo + (k:Int))) - lo).toNat=k by show (lo + (k:Int) - lo).toNat=k; omega]
  exact h k (List.mem_range.mp hk)) (by
  have e:(Pu.rng lo n).map (λd=>g (yB d - lo).toNat)=(List.range n).map g:=by
   unfold Pu.rng
   rw [List.map_map]
   refine List.map_congr_left λk _=>?_
   show g (lo + (k:Int) - lo).toNat=g k
   rw [show (lo + (k:Int) - lo).toNat=k by omega]
  rw [e]
  exact q)
theorem zg.rngP {lo:Int} {n:Nat} {G:D->(D->Prop)->Prop} {R:D->Prop} (P:D->Prop) (few:n<=1000) (h:∀ k,k < n->G (.int (lo + (k:Int))) P) (q:∀ es,es.length=n->(∀ e∈es,P e)->R (.lst es)):zg (Pu.rng lo n) G R:=
 zg.all P (by unfold Pu.rng; rw [List.length_map,List.length_range]; exact few) (λd m=>by
  obtain ⟨k,hk,rfl⟩:=List.mem_map.mp m
  exact h k (List.mem_range.mp hk)) (λes l=>q es (by rw [l]; unfold Pu.rng; rw [List.length_map,List.length_range]))
theorem zg.rng0 {n:Nat} {G:D->(D->Prop)->Prop} {R:D->Prop} (g:Nat->D) (few:n<=1000) (h:∀ k,k < n->G (.int (k:Int)) λe=>e=g k) (q:R (.lst ((List.range n).map g))):zg (Pu.rng0 n) G R:=by
 rw [Wx]
 exact zg.rng g few (λk hk=>by rw [Int.zero_add]; exact h k hk) q
theorem zg.rng0P {n:Nat} {G:D->(D->Prop)->Prop} {R:D->Prop} (P:D->Prop) (few:n<=1000) (h:∀ k,k < n->G (.int (k:Int)) P) (q:∀ es,es.length=n->(∀ e∈es,P e)->R (.lst es)):zg (Pu.rng0 n) G R:=by
 rw [Wx]
 exact zg.rngP P few (λk hk=>by rw [Int.zero_add]; exact h k hk) q
def ud (P:Int->Prop) (d:D):Prop:=∃ i,d=.int i/\P i
theorem Kp {P:Int->Prop}:∀ {es:List D},(∀ e∈es,ud P e)->∃ ns:List Int,es=ns.map D.int/\∀ x∈ns,P x
 | [],_=>⟨[],rfl,λ_ h=>nomatch h⟩
 | e :: es,h=>by
  obtain ⟨ns,rfl,k⟩:=Kp (es:=es) λx m=>h x (List.mem_cons_of_mem _ m)
  obtain ⟨i,rfl,p⟩:=h e List.mem_cons_self
  exact ⟨i :: ns,rfl,λx m=>(List.mem_cons.mp m).elim (λz=>z ▸ p) (k x)⟩
theorem zg.nums {n:Nat} {G:D->(D->Prop)->Prop} {R:D->Prop} (P:Int->Prop) (few:n<=1000) (h:∀ k,k < n->G (.int (k:Int)) (ud P)) (q:∀ ns:List Int,ns.length=n->(∀ x∈ns,P x)->R (.lst (ns.map D.int))):zg (Pu.rng0 n) G R:=
 zg.rng0P (ud P) few h λes l k=>by
  obtain ⟨ns,rfl,p⟩:=Kp k
  exact q ns (by rw [<- l,List.length_map]) p
theorem ya {i:Nat}:∀ d os,Kh d=some os->os.length=[i].length:=λd os h=>by cases h; rfl
theorem ue:∀ ds os,Ki ds=some os->os.length=([]:List Nat).length:=λds os h=>by cases ds with | nil=>cases h; rfl | cons=>cases h
theorem wH {i:Nat} {js:List Nat} {po:List D->Option (List D)} (h:∀ ds os,po ds=some os->os.length=js.length):∀ ds os,Kj po ds=some os->os.length=(i :: js).length:=λds os q=>by
 cases ds with
 | nil=>cases q
 | cons d dt=>
  change (po dt).map (d :: ·)=some os at q
  cases e:po dt with
  | none=>rw [e] at q; cases q
  | some os'=>rw [e] at q; cases q; rw [List.length_cons,List.length_cons,h dt os' e]
structure yP (Z0:Addr->Prop) (H0:Hp) (Z:Addr->Prop) (Γ:List Sl) (σ:St) (H:Hp):Prop where
 e:zw Z Γ σ H
 z0:∀ b,Z0 b->Z b
 z0d:ZL Z0 H0
 same:Sm H0 H
 own:∀ i ds l,slot Γ i=.ow ds->σ[i]? = some (some (.ref l))->H0 l=none
 owb:∀ i o c ns ds,slot Γ i=.ob o c ns ds->H0 o=none
structure W2 where
 nx:List Sl->Prop
 rt:D->Prop
 bk:List Sl->Prop:=λ_=>False
 ct:List Sl->Prop:=λ_=>False
abbrev ym:=W2->List Sl->Prop
inductive yQ (p:ym) (D0:xS) (σ:St) (H:Hp):Prop
 | mk (Z0:Addr->Prop) (H0:Hp) (Z:Addr->Prop) (Γ:List Sl) (Dp:W2) (E:yP Z0 H0 Z Γ σ H) (h:p Dp Γ) (nx:∀ Z' Γ' σ' H',yP Z0 H0 Z' Γ' σ' H'->zJ (hid Z H) (hid Z' H')->Dp.nx Γ'->D0.nx σ' H')
  (rt:∀ d v H',Sm H0 H'->DV (hid Z0 H') v d->Dp.rt d->D0.rt v H') (bk:∀ Z' Γ' σ' H',yP Z0 H0 Z' Γ' σ' H'->zJ (hid Z H) (hid Z' H')->Dp.bk Γ'->D0.bk σ' H') (ct:∀ Z' Γ' σ' H',yP Z0 H0 Z' Γ' σ' H'->zJ (hid Z H) (hid Z' H')->Dp.ct Γ'->D0.ct σ' H'):yQ p D0 σ H
theorem yP.mv {Z0:Addr->Prop} {H0:Hp} {Z:Addr->Prop} {Γ:List Sl} {σ:St} {H H':Hp} (E:yP Z0 H0 Z Γ σ H) (s:Sm H H'):yP Z0 H0 Z Γ σ H':=⟨E.e.same s,E.z0,E.z0d,E.same.trans s,E.own,E.owb⟩
theorem yP.set {Z0:Addr->Prop} {H0:Hp} {Z:Addr->Prop} {Γ:List Sl} {σ:St} {H:Hp} (E:yP Z0 H0 Z Γ σ H) {v:V} {d:D} (h:DV (hid Z H) v d) (i:Nat):yP Z0 H0 Z (zr Γ i (.sh d)) (σ.set i (some v)) H:=
 ⟨E.e.set h i,E.z0,E.z0d,E.same,λj ds l q r=>by
  rw [yy] at q
  by_cases c:j=i/\i < Γ.length
  ·rw [if_pos c] at q; cases q
  ·rw [if_neg c] at q
   have hj:=vK (Γ:=Γ) (i:=j) (by rw [q]; exact λz=>nomatch z)
   rw [List.getElem?_set_ne (λz=>c ⟨z.symm,by omega⟩)] at r
   exact E.own j ds l q r,λj o0 c0 ns ds q=>by
  rw [yy] at q
  by_cases c:j=i/\i < Γ.length
  ·rw [if_pos c] at q; cases q
  ·rw [if_neg c] at q
   exact E.owb j o0 c0 ns ds q⟩
theorem yP.setN {Z0:Addr->Prop} {H0:Hp} {Z:Addr->Prop} {H:Hp}:∀ {js:List Nat} {vs:List V} {os:List D} {Γ:List Sl} {σ:St},yP Z0 H0 Z Γ σ H->yE (hid Z H) vs os->yP Z0 H0 Z (kX Γ js os) (Pu.setN σ js vs) H
 | [],_,_,_,_,E,_=>E
 | _ :: _,_,_,_,_,E,.nil=>E
 | _ :: js,_,_,_,_,E,.cons h t=>yP.setN (js:=js) (E.set h _) t
theorem ko {Z:Addr->Prop} {H:Hp} {l:Addr} {o:HO} (h:Z l):zJ (hid Z H) (hid Z (upd H l o)):=λb u e=>by
 obtain ⟨h1,h2⟩:=jF e
 have nb:b≠l:=λz=>h1 (by rw [z]; exact h)
 exact wz h1 ((zh nb).trans h2) (jg e)
theorem yP.put {Z0:Addr->Prop} {H0:Hp} {Z:Addr->Prop} {Γ:List Sl} {σ:St} {H:Hp} (E:yP Z0 H0 Z Γ σ H) {i:Nat} {ds ds':List D} {l:Addr} {xs:List V} (hs:slot Γ i=.ow ds) (hl:σ[i]? = some (some (.ref l))) (hz:Z l) (hx:yE (hid Z H) xs ds'):yP Z0 H0 Z (zr Γ i (.ow ds')) σ (upd H l (.lst xs)):=by
 obtain ⟨l0,xs0,hl0,_,el,_⟩:=E.e.ow i ds hs
 have el0:l0=l:=by rw [hl] at hl0; cases hl0; rfl
 rw [el0] at el
 have keyb:∀ j o c ns d,slot (zr Γ i (.ow ds')) j=.ob o c ns d->slot Γ j=.ob o c ns d:=λj o0 c0 ns d q=>by
  rw [yy] at q
  by_cases c:j=i/\i < Γ.length
  ·rw [if_pos c] at q; cases q
  ·rw [if_neg c] at q; exact q
 have li:=vK (Γ:=Γ) (i:=i) (by rw [hs]; exact λz=>nomatch z)
 have hp:zJ (hid Z H) (hid Z (upd H l (.lst xs))):=ko hz
 have key:∀ j ds'',slot (zr Γ i (.ow ds')) j=.ow ds''->∃ q,slot Γ j=.ow q:=λj d q=>by
  rw [yy] at q
  by_cases c:j=i/\i < Γ.length
  ·rw [c.1]; exact ⟨ds,hs⟩
  ·rw [if_neg c] at q; exact ⟨d,q⟩
 refine ⟨⟨λj d q=>?_,λj d q=>?_,λj o c ns d q=>?_,λj k as bs m q r=>?_,⟨λb hb=>?_,yL.put E.e.zd.i el⟩,by rw [jh]; exact E.e.len⟩,E.z0,E.z0d,?_,λj d m q=>?_,λj o c ns d q=>E.owb j o c ns d (keyb j o c ns d q)⟩
 ·rw [yy] at q
  by_cases c:j=i/\i < Γ.length
  ·rw [if_pos c] at q; cases q
  ·rw [if_neg c] at q
   obtain ⟨v,h1,h2⟩:=E.e.sh j d q
   exact ⟨v,h1,h2.same hp⟩
 ·rw [yy] at q
  by_cases c:j=i/\i < Γ.length
  ·rw [if_pos c] at q
   cases q
   rw [c.1]
   exact ⟨l,xs,hl,hz,xB,yr hp hx⟩
  ·rw [if_neg c] at q
   obtain ⟨m,ys,h1,h2,h3,h4⟩:=E.e.ow j d q
   have nm:m≠l:=λz=>c ⟨E.e.ne j i d ds l q hs (by rw [h1,z]) hl,li⟩
   exact ⟨m,ys,h1,h2,by rw [zh nm]; exact h3,yr hp h4⟩
 ·obtain ⟨dx,ys,h1,h2,h3,h5,h4⟩:=E.e.ob j o c ns d (keyb j o c ns d q)
  have nm:o≠l:=λz=>by rw [z,el] at h3; cases h3
  exact ⟨dx,ys,h1,h2,by rw [zh nm]; exact h3,h5,yr hp h4⟩
 ·obtain ⟨q1,hq⟩:=key j as q
  obtain ⟨r1,hr⟩:=key k bs r
  exact E.e.ne j k q1 r1 m hq hr
 ·obtain ⟨u,e,n⟩:=E.e.zd.z b hb
  by_cases c:b=l
  ·rw [c]; exact ⟨_,xB,λ_ z=>nomatch z⟩
  ·exact ⟨u,by rw [zh c]; exact e,n⟩
 ·exact E.same.put (E.own i ds l hs hl) el
 ·obtain ⟨q1,hq⟩:=key j d q
  exact E.own j q1 m hq
theorem yP.make {Z0:Addr->Prop} {H0:Hp} {Z:Addr->Prop} {Γ:List Sl} {σ:St} {H:Hp} (E:yP Z0 H0 Z Γ σ H) {p:Addr} {xs:List V} {ds:List D} (hp:H p=none) (hx:yE (hid Z H) xs ds) (i:Nat) :
  yP Z0 H0 (λb=>Z b\/b=p) (zr Γ i (.ow ds)) (σ.set i (some (.ref p))) (upd H p (.lst xs))/\zJ (hid Z H) (hid (λb=>Z b\/b=p) (upd H p (.lst xs))):=by
 have s:zJ (hid Z H) (hid (λb=>Z b\/b=p) (upd H p (.lst xs))):=λb o e=>by
  obtain ⟨h1,h2⟩:=jF e
  have nb:=x9 h2 hp
  exact wz (λz=>z.elim h1 nb) ((zh nb).trans h2) (jg e)
 have old:∀ j d,slot Γ j=.ow d->∀ m,σ[j]? = some (some (.ref m))->m≠p:=λj d q m h z=>by
  obtain ⟨l,ys,h1,h2,h3,_⟩:=E.e.ow j d q
  rw [h] at h1
  cases h1
  rw [z,hp] at h3
  cases h3
 have get:∀ j,¬ (j=i/\i < Γ.length)->slot Γ j≠.no->(σ.set i (some (V.ref p)))[j]? = σ[j]?:=λj c q=>by
  have hj:=vK q
  exact List.getElem?_set_ne (λz=>c ⟨z.symm,by omega⟩)
 have new:∀ j,j=i/\i < Γ.length->(σ.set i (some (V.ref p)))[j]? = some (some (.ref p)):=λj c=>by
  rw [c.1,List.getElem?_set_self (by have:=E.e.len; omega)]
 have keyb:∀ j o c ns d,slot (zr Γ i (.ow ds)) j=.ob o c ns d->slot Γ j=.ob o c ns d/\(σ.set i (some (V.ref p)))[j]? = σ[j]?:=λj o0 c0 ns d q=>by
  rw [yy] at q
  by_cases c:j=i/\i < Γ.length
  ·rw [if_pos c] at q; cases q
  ·rw [if_neg c] at q; exact ⟨q,get j c (by rw [q]; exact λz=>nomatch z)⟩
 refine ⟨⟨⟨λj d q=>?_,λj d q=>?_,λj o c ns d q=>?_,λj k as bs m q r e f=>?_,⟨λb hb=>?_,yL.same E.e.zd.i (qS hp _)⟩,by rw [jh,List.length_set]; exact E.e.len⟩,λb hb=>.inl (E.z0 b hb),E.z0d,E.same.trans (xj hp _),λj d m q e=>?_,λj o c ns d q=>E.owb j o c ns d (keyb j o c ns d q).1⟩,s⟩
 ·rw [yy] at q
  by_cases c:j=i/\i < Γ.length
  ·rw [if_pos c] at q; cases q
  ·rw [if_neg c] at q
   obtain ⟨v,h1,h2⟩:=E.e.sh j d q
   exact ⟨v,by rw [get j c (by rw [q]; exact λz=>nomatch z)]; exact h1,h2.same s⟩
 ·rw [yy] at q
  by_cases c:j=i/\i < Γ.length
  ·rw [if_pos c] at q
   cases q
   exact ⟨p,xs,new j c,.inr rfl,xB,yr s hx⟩
  ·rw [if_neg c] at q
   obtain ⟨m,ys,h1,h2,h3,h4⟩:=E.e.ow j d q
   exact ⟨m,ys,by rw [get j c (by rw [q]; exact λz=>nomatch z)]; exact h1,.inl h2,by rw [zh (old j d q m h1)]; exact h3,yr s h4⟩
 ·obtain ⟨q,g⟩:=keyb j o c ns d q
  obtain ⟨dx,ys,h1,h2,h3,h5,h4⟩:=E.e.ob j o c ns d q
  exact ⟨dx,ys,g.trans h1,.inl h2,by rw [zh (x9 h3 hp)]; exact h3,h5,yr s h4⟩
 ·rw [yy] at q r
  by_cases c:j=i/\i < Γ.length
  ·by_cases c':k=i/\i < Γ.length
   ·omega
   ·rw [if_neg c'] at r
    rw [new j c] at e
    rw [get k c' (by rw [r]; exact λz=>nomatch z)] at f
    cases e
    exact absurd rfl (old k bs r p f)
  ·rw [if_neg c] at q
   rw [get j c (by rw [q]; exact λz=>nomatch z)] at e
   by_cases c':k=i/\i < Γ.length
   ·rw [new k c'] at f
    cases f
    exact absurd rfl (old j as q p e)
   ·rw [if_neg c'] at r
    rw [get k c' (by rw [r]; exact λz=>nomatch z)] at f
    exact E.e.ne j k as bs m q r e f
 ·by_cases c:b=p
  ·rw [c]; exact ⟨_,xB,λ_ z=>nomatch z⟩
  ·obtain ⟨u,e,n⟩:=E.e.zd.z b (hb.resolve_right c)
   exact ⟨u,by rw [zh c]; exact e,n⟩
 ·rw [yy] at q
  by_cases c:j=i/\i < Γ.length
  ·rw [new j c] at e
   cases e
   exact E.same.free hp
  ·rw [if_neg c] at q
   rw [get j c (by rw [q]; exact λz=>nomatch z)] at e
   exact E.own j d m q e
def frz (Γ:List Sl) (i:Nat):List Sl:=match slot Γ i with
 | .ow ds=>zr Γ i (.sh (.lst ds))
 | _=>Γ
theorem yP.frz {Z0:Addr->Prop} {H0:Hp} {Z:Addr->Prop} {Γ:List Sl} {σ:St} {H:Hp} (E:yP Z0 H0 Z Γ σ H) (i:Nat):∃ Z',yP Z0 H0 Z' (Pu.frz Γ i) σ H/\zJ (hid Z H) (hid Z' H):=by
 unfold Pu.frz
 cases hs:slot Γ i with
 | no=>exact ⟨Z,E,zJ.refl _⟩
 | sh _=>exact ⟨Z,E,zJ.refl _⟩
 | ob _ _ _ _=>exact ⟨Z,E,zJ.refl _⟩
 | ow ds=>
  obtain ⟨l,xs,hl,hz,el,hx⟩:=E.e.ow i ds hs
  have s:zJ (hid Z H) (hid (λb=>Z b/\b≠l) H):=g9 λb h=>h.1
  have key:∀ j d,slot (zr Γ i (.sh (.lst ds))) j=.ow d->slot Γ j=.ow d/\j≠i:=λj d q=>by
   rw [yy] at q
   by_cases c:j=i/\i < Γ.length
   ·rw [if_pos c] at q; cases q
   ·rw [if_neg c] at q
    have hj:=vK (Γ:=Γ) (i:=j) (by rw [q]; exact λz=>nomatch z)
    exact ⟨q,λz=>c ⟨z,by omega⟩⟩
  have keyb:∀ j o c ns d,slot (zr Γ i (.sh (.lst ds))) j=.ob o c ns d->slot Γ j=.ob o c ns d:=λj o0 c0 ns d q=>by
   rw [yy] at q
   by_cases c:j=i/\i < Γ.length
   ·rw [if_pos c] at q; cases q
   ·rw [if_neg c] at q; exact q
  refine ⟨λb=>Z b/\b≠l,⟨⟨λj d q=>?_,λj d q=>?_,λj o c ns d q=>?_,λj k as bs m q r=>?_,⟨λb hb=>E.e.zd.z b hb.1,E.e.zd.i⟩,by rw [jh]; exact E.e.len⟩,λb hb=>⟨E.z0 b hb,λz=>?_⟩,E.z0d,E.same,λj d m q=>E.own j d m (key j d q).1,λj o c ns d q=>E.owb j o c ns d (keyb j o c ns d q)⟩,s⟩
  ·rw [yy] at q
   by_cases c:j=i/\i < Γ.length
   ·rw [if_pos c] at q
    cases q
    rw [c.1]
    exact ⟨.ref l,hl,.lst (wz (λz=>z.2 rfl) el) (yr s hx)⟩
   ·rw [if_neg c] at q
    obtain ⟨v,h1,h2⟩:=E.e.sh j d q
    exact ⟨v,h1,h2.same s⟩
  ·obtain ⟨q1,q2⟩:=key j d q
   obtain ⟨m,ys,h1,h2,h3,h4⟩:=E.e.ow j d q1
   exact ⟨m,ys,h1,⟨h2,λz=>q2 (E.e.ne j i d ds l q1 hs (by rw [h1,z]) hl)⟩,h3,yr s h4⟩
  ·obtain ⟨dx,ys,h1,h2,h3,h5,h4⟩:=E.e.ob j o c ns d (keyb j o c ns d q)
   exact ⟨dx,ys,h1,⟨h2,λz=>by rw [z,el] at h3; cases h3⟩,h3,h5,yr s h4⟩
  ·exact E.e.ne j k as bs m (key j as q).1 (key k bs r).1
  ·obtain ⟨ys,e,_⟩:=E.z0d.z b hb
   rw [z,E.own i ds l hs hl] at e
   cases e
theorem zw.frz {Z:Addr->Prop} {Γ:List Sl} {σ:St} {H:Hp} (E:zw Z Γ σ H) (i:Nat):∃ Z',zw Z' (Pu.frz Γ i) σ H:=by
 unfold Pu.frz
 cases hs:slot Γ i with
 | no=>exact ⟨Z,E⟩
 | sh _=>exact ⟨Z,E⟩
 | ob _ _ _ _=>exact ⟨Z,E⟩
 | ow ds=>
  obtain ⟨l,xs,hl,hz,el,hx⟩:=E.ow i ds hs
  have s:zJ (hid Z H) (hid (λb=>Z b/\b≠l) H):=g9 λb h=>h.1
  have key:∀ j d,slot (zr Γ i (.sh (.lst ds))) j=.ow d->slot Γ j=.ow d/\j≠i:=λj d q=>by
   rw [yy] at q
   by_cases c:j=i/\i < Γ.length
   ·rw [if_pos c] at q; cases q
   ·rw [if_neg c] at q
    have hj:=vK (Γ:=Γ) (i:=j) (by rw [q]; exact λz=>nomatch z)
    exact ⟨q,λz=>c ⟨z,by omega⟩⟩
  have keyb:∀ j o c ns d,slot (zr Γ i (.sh (.lst ds))) j=.ob o c ns d->slot Γ j=.ob o c ns d:=λj o0 c0 ns d q=>by
   rw [yy] at q
   by_cases c:j=i/\i < Γ.length
   ·rw [if_pos c] at q; cases q
   ·rw [if_neg c] at q; exact q
  refine ⟨λb=>Z b/\b≠l,⟨λj d q=>?_,λj d q=>?_,λj o c ns d q=>?_,λj k as bs m q r=>?_,⟨λb hb=>E.zd.z b hb.1,E.zd.i⟩,by rw [jh]; exact E.len⟩⟩
  ·rw [yy] at q
   by_cases c:j=i/\i < Γ.length
   ·rw [if_pos c] at q
    cases q
    rw [c.1]
    exact ⟨.ref l,hl,.lst (wz (λz=>z.2 rfl) el) (yr s hx)⟩
   ·rw [if_neg c] at q
    obtain ⟨v,h1,h2⟩:=E.sh j d q
    exact ⟨v,h1,h2.same s⟩
  ·obtain ⟨q1,q2⟩:=key j d q
   obtain ⟨m,ys,h1,h2,h3,h4⟩:=E.ow j d q1
   exact ⟨m,ys,h1,⟨h2,λz=>q2 (E.ne j i d ds l q1 hs (by rw [h1,z]) hl)⟩,h3,yr s h4⟩
  ·obtain ⟨dx,ys,h1,h2,h3,h5,h4⟩:=E.ob j o c ns d (keyb j o c ns d q)
   exact ⟨dx,ys,h1,⟨h2,λz=>by rw [z,el] at h3; cases h3⟩,h3,h5,yr s h4⟩
  ·exact E.ne j k as bs m (key j as q).1 (key k bs r).1
end Pu
namespace Pu
open PySem L2 Sh
variable [yL]
open PyProof.Rows (envOfC)
section
variable {X:Cx} {e:Expr} {es:List Expr} {st:Stmt} {sts:List Stmt} {pos:Pos} {pa pb:zp} {pl:yf} {p q:ym}
theorem yN {t t':TS} (h:PS X st t) (w:∀ D σ H,t' D σ H->t D σ H):PS X st t':=λpins s σ H D I k=>h pins s σ H D I (w D σ H k)
theorem ju {t t':TS} (h:yj X sts t) (w:∀ D σ H,t' D σ H->t D σ H):yj X sts t':=λpins s σ H D I k=>h pins s σ H D I (w D σ H k)
def kq:ym:=λD Γ=>D.nx Γ
def uf (p q:ym):ym:=λD Γ=>p { D with nx:=q D } Γ
theorem yF:yj X [] (yQ kq):=ju zM7 λD σ H ⟨Z0,H0,Z,Γ,Dp,E,h,nx,rt,bk,ct⟩=>nx Z Γ σ H E (zJ.refl _) h
theorem zH (h1:PS X st (yQ p)) (h2:yj X sts (yQ q)):yj X (st :: sts) (yQ (uf p q)):=ju (Jv h1 h2) λD σ H ⟨Z0,H0,Z,Γ,Dp,E,h,nx,rt,bk,ct⟩=>
 ⟨Z0,H0,Z,Γ,{ Dp with nx:=q Dp },E,h,λZ' Γ' σ' H' E' s' h'=>⟨Z0,H0,Z',Γ',Dp,E',h',λZ2 Γ2 σ2 H2 E2 s2=>nx Z2 Γ2 σ2 H2 E2 (s'.trans s2),rt,λZ2 Γ2 σ2 H2 E2 s2=>bk Z2 Γ2 σ2 H2 E2 (s'.trans s2),λZ2 Γ2 σ2 H2 E2 s2=>ct Z2 Γ2 σ2 H2 E2 (s'.trans s2)⟩,rt,bk,ct⟩
def kr (p q:ym):ym:=λD Γ=>∃ M:List Sl->Prop,p { D with nx:=M } Γ/\∀ Γ',M Γ'->q D Γ'
theorem jv (h1:PS X st (yQ p)) (h2:yj X sts (yQ q)):yj X (st :: sts) (yQ (kr p q)):=ju (Jv h1 h2) λD σ H ⟨Z0,H0,Z,Γ,Dp,E,⟨M,h,k⟩,nx,rt,bk,ct⟩=>
 ⟨Z0,H0,Z,Γ,{ Dp with nx:=M },E,h,λZ' Γ' σ' H' E' s' h'=>⟨Z0,H0,Z',Γ',Dp,E',k Γ' h',λZ2 Γ2 σ2 H2 E2 s2=>nx Z2 Γ2 σ2 H2 E2 (s'.trans s2),rt,λZ2 Γ2 σ2 H2 E2 s2=>bk Z2 Γ2 σ2 H2 E2 (s'.trans s2),λZ2 Γ2 σ2 H2 E2 s2=>ct Z2 Γ2 σ2 H2 E2 (s'.trans s2)⟩,rt,bk,ct⟩
theorem zM (h1:PS X st (yQ p)):yj X [st] (yQ p):=zM6 h1
def W3 (i:Nat) (p:ym):ym:=λD Γ=>p D (frz Γ i)
theorem wc (i:Nat) (h1:PS X st (yQ p)):PS X st (yQ (W3 i p)):=yN h1 λD σ H ⟨Z0,H0,Z,Γ,Dp,E,h,nx,rt,bk,ct⟩=>by
 obtain ⟨Z',E',s⟩:=E.frz i
 exact ⟨Z0,H0,Z',_,Dp,E',h,λZ2 Γ2 σ2 H2 E2 s2=>nx Z2 Γ2 σ2 H2 E2 (s.trans s2),rt,λZ2 Γ2 σ2 H2 E2 s2=>bk Z2 Γ2 σ2 H2 E2 (s.trans s2),λZ2 Γ2 σ2 H2 E2 s2=>ct Z2 Γ2 σ2 H2 E2 (s.trans s2)⟩
def vA (i:Nat) (pa:zp):ym:=λD Γ=>pa Γ λd=>D.nx (zr Γ i (.sh d))
theorem zOD {i:Nat} (D:xS) (σ:St) (H:Hp):yQ (vA i pa) D σ H->wp (tP pa) (gA i) D σ H:=λ⟨Z0,H0,Z,Γ,Dp,E,h,nx,rt,bk,ct⟩=>
 ⟨Z,Γ,_,E.e,h,λd v H1 hd s1 hv=>nx Z _ _ H1 ((E.mv s1).set hv i) (yU s1) hd⟩
theorem zS (i:Nat) {x:Str} {pos':Pos} (hN:X.N.Nodup) (hi:X.N[i]? = some x) (hx:uF X.env.scope x) (he:PE X e (tP pa)) (hs:swapsWith e (some (.Name x pos')) pos.line X.env=pure false:=by rfl) (hf:X.fn x=true\/X.env.scope.names.lookup x=some .local:=by first | exact .inl rfl | exact .inr rfl | assumption) :
  PS X (.Assign [.Name x pos'] e pos) (yQ (vA i pa)):=yN (Xx hN hi hx he hs hf) zOD
def W4 (js:List Nat) (po:D->Option (List D)) (pa:zp):ym:=λD Γ=>pa Γ λd=>v8 (po d) λos=>D.nx (kX Γ js os)
theorem Kq {tg:Expr} {js:List Nat} {po:D->Option (List D)} (he:PE X e (tP pa)) (hg:PG X tg (tG js po)) (hs:swapsWithSole [tg] e pos.line X.env=pure false:=by rfl) (hw:swappedStores [tg] e X.env=pure none:=by rfl)
  (h1:(assignEach [tg] X.env).map (·.2)=[assign tg X.env]:=by rfl):PS X (.Assign [tg] e pos) (yQ (W4 js po pa)):=yN (Z5 he hg hs hw h1) λD σ H ⟨Z0,H0,Z,Γ,Dp,E,h,nx,rt,bk,ct⟩=>
 ⟨Z,Γ,_,E.e,h,λd v H1 hd s1 hv=>by
  obtain ⟨os,ho,hd⟩:=kY hd
  exact ⟨Z,d,os,hv,ho,λvs hvs=>nx Z _ _ H1 ((E.mv s1).setN hvs) (yU s1) hd⟩⟩
def W5 (i:Nat) (pl:yf):ym:=λD Γ=>pl Γ λds=>ds.length<=1000/\D.nx (zr Γ i (.ow ds))
theorem vP (i:Nat) {x:Str} {pos' lp:Pos} (hN:X.N.Nodup) (hi:X.N[i]? = some x) (hx:uF X.env.scope x) (he:PA X es (xk pl)) (hs:swapsWith (.List es lp) (some (.Name x pos')) pos.line X.env=pure false:=by rfl) (hf:X.fn x=true\/X.env.scope.names.lookup x=some .local:=by first | exact .inl rfl | exact .inr rfl | assumption) :
  PS X (.Assign [.Name x pos'] (.List es lp) pos) (yQ (W5 i pl)):=yN (Xx hN hi hx (QH he) hs hf) λD σ H ⟨Z0,H0,Z,Γ,Dp,E,h,nx,rt,bk,ct⟩=>
 ⟨Z,Γ,_,E.e,h,λds vs H1 hd s1 hv=>⟨few (by rw [xm hv]; exact hd.1),λl hl=>by
  obtain ⟨E2,s2⟩:=(E.mv s1).make hl hv i
  exact nx _ _ _ _ E2 ((yU s1).trans s2) hd.2⟩⟩
def ku:D->(List D->Prop)->Prop
 | .lst es,k=>k es
 | _,_=>False
def zO2 (i:Nat) (ow:Bool) (caps:List Nat) (pi:yf) (po:D->Option (List D)) (pe:zp):ym:=λT Γ=>pi Γ λds=>zg ds (λd S=>v8 (po d) λos=>pe (os.map Sl.sh++caps.map λj=>un (slot Γ j)) S) λd=>ku d λes=>T.nx (zr Γ i (match ow with | true=>.ow es | false=>.sh (.lst es)))
theorem ug (i:Nat) (ow:Bool) {scope:Scope} {own:List Str} {caps:List (Nat × Str)} {tg iter elt:Expr} {pi:yf} {po:D->Option (List D)} {pe:zp} {js:List Nat} {y:Str} {py spos:Pos} (hN:X.N.Nodup) (hy:X.N[i]? = some y) (hl:X.env.scope.names.lookup y=some .local) (B:wx X scope own caps) (hc:X.calm=true) (hj:js=List.range' 0 own.length) (hk:∀ d os,po d=some os->os.length=js.length)
  (hi:PI X tg iter (v9 pi)) (hg:∀ C s₀ H₀ ex,PG (yK X scope (zW own caps) C s₀ H₀ ex) tg (tG js po)) (he:∀ C s₀ H₀ ex,PE (yK X scope (zW own caps) C s₀ H₀ ex) elt (tP pe)) (hsw:swapsWith (.ListComp elt [⟨tg,iter,[],0⟩] scope pos) (some (.Name y py)) spos.line X.env=pure true) (hs:∀ x,foldedSetIterable iter X.env x=pure x:=by intro _; rfl) :
  PS X (.Assign [.Name y py] (.ListComp elt [⟨tg,iter,[],0⟩] scope pos) spos) (yQ (zO2 i ow (caps.map (·.1)) pi po pe)):=yN (zLO hN hy hl B hc hi hg he hsw hs) λD σ H ⟨Z0,H0,Z,Γ,Dp,E,h,nx,rt,bk,ct⟩=>
 ⟨Z,Γ,_,E.e,h,λds J H1 ⟨fw,F,hF,hR⟩ s1 wk=>Ko (E.e.same s1) wk hj hk fw hF λes ys H' l h1 s2 h2 hp=>by
  have E1:=(E.mv s1).mv s2
  cases ow with
  | true=>
   obtain ⟨E2,s3⟩:=E1.make hp h2 i
   exact nx _ _ _ _ E2 ((yU (s1.trans s2)).trans s3) (hR es h1)
  | false=>exact nx Z _ _ _ ((E1.mv (xj hp _)).set (v6 E1.e.zd hp h2) i) (yU (s1.trans (s2.trans (xj hp _)))) (hR es h1)⟩
def W6 (pa:zp):ym:=λD Γ=>pa Γ D.rt
theorem zY (he:PE X e (tP pa)):PS X (.Return (some e) pos) (yQ (W6 pa)):=yN (zOk he) λD σ H ⟨Z0,H0,Z,Γ,Dp,E,h,nx,rt,bk,ct⟩=>
 ⟨Z,Γ,_,E.e,h,λd v H1 hd s1 hv=>rt d v H1 (E.same.trans s1) (hv.same (g9 E.z0)) hd⟩
def pIf (t:xr) (p q:ym):ym:=λD Γ=>t Γ λc=>xX c (p D Γ) (q D Γ)
theorem yG {c:Expr} {a b:List Stmt} {t:xr} (hc:PT X c (yt t)) (ha:yj X a (yQ p)) (hb:yj X b (yQ q)):PS X (.If c a b pos) (yQ (pIf t p q)):=yN (q9 hc ha hb) λD σ H ⟨Z0,H0,Z,Γ,Dp,E,h,nx,rt,bk,ct⟩=>
 ⟨Z,Γ,_,E.e,h,λc H1 hd s1=>by
  have f:∀ {P:List Sl->Prop} {Q:St->Hp->Prop},(∀ Z' Γ' σ' H',yP Z0 H0 Z' Γ' σ' H'->zJ (hid Z H) (hid Z' H')->P Γ'->Q σ' H')->∀ Z' Γ' σ' H',yP Z0 H0 Z' Γ' σ' H'->zJ (hid Z H1) (hid Z' H')->P Γ'->Q σ' H':=λg Z2 Γ2 σ2 H2 E2 s2=>g Z2 Γ2 σ2 H2 E2 ((yU s1).trans s2)
  cases c with
  | true=>exact ⟨Z0,H0,Z,Γ,Dp,E.mv s1,hd.1 rfl,f nx,rt,f bk,f ct⟩
  | false=>exact ⟨Z0,H0,Z,Γ,Dp,E.mv s1,hd.2 rfl,f nx,rt,f bk,f ct⟩⟩
def zO0:ym:=λ_ _=>False
theorem kz:PS X st (yQ zO0):=yN zLN λD σ H ⟨Z0,H0,Z,Γ,Dp,E,h,nx,rt,bk,ct⟩=>h
def W7 (pi:yf) (js:List Nat) (po:D->Option (List D)) (pb:ym):ym:=λD Γ=>pi Γ λds=>∃ I:Nat->List Sl->Prop,I 0 Γ/\(∀ k d Γ',ds[k]? = some d->I k Γ'->v8 (po d) λos=>pb ⟨I (k + 1),D.rt,D.nx,I (k + 1)⟩ (kX Γ' js os))/\∀ Γ',I ds.length Γ'->D.nx Γ'
theorem y4 {tg iter:Expr} {body:List Stmt} {pi:yf} {js:List Nat} {po:D->Option (List D)} (hp:PassesOwn (model X.prog X.w) X.A X.env X.xe) (hc:X.calm=true) (hi:PI X tg iter (v9 pi)) (hg:PG X tg (tG js po)) (hb:yj X body (yQ p))
  (hs:∀ x,foldedSetIterable iter X.env x=pure x:=by intro _; rfl):PS X (.For tg iter body [] pos) (yQ (W7 pi js po p)):=yN (zOl hp hc hi hg hb hs) λD σ H ⟨Z0,H0,Z,Γ,Dp,E,h,nx,rt,bk,ct⟩=>
 ⟨Z,Γ,_,E.e,h,λds J H1 ⟨I,h0,hst,hd⟩ s1 wk=>by
  have g:∀ {Q:List Sl->Prop} {T:St->Hp->Prop} {Z1 H2},zJ (hid Z H1) (hid Z1 H2)->(∀ Z' Γ' σ' H',yP Z0 H0 Z' Γ' σ' H'->zJ (hid Z H) (hid Z' H')->Q Γ'->T σ' H')->∀ Z' Γ' σ' H',yP Z0 H0 Z' Γ' σ' H'->zJ (hid Z1 H2) (hid Z' H')->Q Γ'->T σ' H':=λs k Z2 Γ2 σ2 H2 E2 s2=>k Z2 Γ2 σ2 H2 E2 ((yU s1).trans (s.trans s2))
  refine ⟨λi m σ' H'=>m + i=ds.length/\∃ Z' Γ',yP Z0 H0 Z' Γ' σ' H'/\zJ (hid Z H1) (hid Z' H')/\I i Γ',⟨ds.length,rfl,Z,Γ,E.mv s1,zJ.refl _,h0⟩,?_⟩
  rintro i m σ' H' ⟨hm,Z',Γ',E',s',hI⟩
  obtain ⟨w1,w2⟩:=wk i Z' H' s' E'.e.zd
  by_cases hi:i < ds.length
  ·refine .inr ⟨(w1 _ (List.getElem?_eq_getElem hi)).1,λσ' H'=>m - 1 + (i + 1)=ds.length/\∃ Z' Γ',yP Z0 H0 Z' Γ' σ' H'/\zJ (hid Z H1) (hid Z' H')/\I (i + 1) Γ',λσ2 H2 k=>⟨m - 1,by omega,k⟩,λx H2 yl=>?_⟩
   obtain ⟨s2,dv⟩:=(w1 _ (List.getElem?_eq_getElem hi)).2 x H2 yl
   obtain ⟨os,ho,hb⟩:=kY (hst i _ Γ' (List.getElem?_eq_getElem hi) hI)
   refine ⟨Z',_,os,dv,ho,λvs hvs=>?_⟩
   have s3:=s'.trans (yU s2)
   have again:∀ Z2 Γ2 σ2 H3,yP Z0 H0 Z2 Γ2 σ2 H3->zJ (hid Z' H2) (hid Z2 H3)->I (i + 1) Γ2->m - 1 + (i + 1)=ds.length/\∃ Z' Γ',yP Z0 H0 Z' Γ' σ2 H3/\zJ (hid Z H1) (hid Z' H3)/\I (i + 1) Γ':=λZ2 Γ2 σ2 H3 E3 k hI=>⟨by omega,Z2,Γ2,E3,s3.trans k,hI⟩
   exact ⟨Z0,H0,Z',_,_,(E'.mv s2).setN hvs,hb,again,rt,g s3 nx,again⟩
  ·have ei:i=ds.length:=by omega
   rw [ei] at hI
   exact .inl ⟨w2 ei,nx Z' Γ' σ' H' E' ((yU s1).trans s') (hd Γ' hI)⟩⟩
def W8:Sl->(List D->Prop)->Prop
 | .ow ds,R=>R ds
 | _,_=>False
theorem Kr {s:Sl} {R:List D->Prop} (h:W8 s R):∃ ds,s=.ow ds/\R ds:=by
 cases s with
 | ow ds=>exact ⟨ds,rfl,h⟩
 | _=>exact h.elim
def W9 (i:Nat) (pa:zp):ym:=λD Γ=>W8 (slot Γ i) λds=>pa Γ λd=>ds.length < 1000/\D.nx (zr Γ i (.ow (ds++[d])))
theorem wR {i:Nat} {K:PySem.W.Frag} (D:xS) (σ:St) (H:Hp):yQ (W9 i pa) D σ H->Jw (Qa K "list" ja (ve i) (qK (tP pa) wr)) D σ H:=λ⟨Z0,H0,Z,Γ,Dp,E,h,nx,rt,bk,ct⟩=>by
 obtain ⟨ds,hs,h⟩:=Kr h
 obtain ⟨l,xs,hl,hz,el,hx⟩:=E.e.ow i ds hs
 refine ⟨.ref l,hl,.inl ⟨rfl,xs,zV.of el⟩,Z,Γ,_,E.e,h,λd v H1 hd s1 hv=>?_⟩
 have hx1:=yr (yU s1) hx
 exact ⟨l,xs,v,rfl,rfl,s1.at el,YF (by rw [xm hx]; omega),nx Z _ _ _ ((E.mv s1).put hs hl hz (jX hv hx1)) ((yU s1).trans (ko hz)) hd.2⟩
def UA (i:Nat) (pa pb:zp):ym:=λD Γ=>pa Γ λd=>W8 (slot Γ i) λds=>pb Γ λk=>iD k λo=>∃ z j,o=some z/\xn ds.length z=some j/\D.nx (zr Γ i (.ow (ds.set j d)))
theorem Ks {α β:Type} {R:α->β->Prop} {x:α} {y:β} (r:R x y):∀ {xs:List α} {ys:List β} (i:Nat),Paired R xs ys->Paired R (xs.set i x) (ys.set i y)
 | _,_,_,.nil=>.nil
 | _,_,0,.cons _ t=>.cons r t
 | _,_,i + 1,.cons q t=>.cons q (Ks r i t)
theorem UB {i:Nat} (D:xS) (σ:St) (H:Hp):yQ (UA i pa pb) D σ H->wp (tP pa) (gC (ve i) (tP pb) jb) D σ H:=λ⟨Z0,H0,Z,Γ,Dp,E,h,nx,rt,bk,ct⟩=>
 ⟨Z,Γ,_,E.e,h,λd v H1 hd s1 hv=>by
  obtain ⟨ds,hs,h⟩:=Kr hd
  obtain ⟨l,xs,hl,hz,el,hx⟩:=(E.mv s1).e.ow i ds hs
  refine ⟨.ref l,hl,Z,Γ,_,(E.mv s1).e,h,λk u H2 hk s2 hu=>?_⟩
  unfold iD at hk
  split at hk
  ·obtain ⟨z,j,e1,e2,hd⟩:=hk
   cases e1
   cases hu
   have s:=s1.trans s2
   have hx1:=yr (yU s2) hx
   exact ⟨l,xs,_,j,rfl,rfl,s2.at el,by rw [xm hx]; exact e2,nx Z _ _ _ ((E.mv s).put hs hl hz (Ks (hv.same (yU s2)) j hx1)) ((yU s).trans (ko hz)) hd⟩
  ·exact hk.elim⟩
def ixL (ds:List D):D->(D->Prop)->Prop
 | .int i,R=>∃ d,yX ds i=some d/\R d
 | _,_=>False
def D.isInt:D->Bool
 | .int _=>true
 | .bool _=>true
 | _=>false
def D.isBool:D->Bool
 | .bool _=>true
 | _=>false
def D.isLst:D->Bool
 | .lst _=>true
 | .scr _=>true
 | _=>false
def D.isTup:D->Bool
 | .tup _=>true
 | _=>false
def D.isObj:D->Bool
 | .obj ..=>true
 | _=>false
def k3 (c:String) (f:D->Bool):D->(D->Prop)->Prop:=λd R=>d.isObj=false/\R (.bool (f d))
theorem Yq {K:PySem.W.Frag} {H:Hp} {v:V} {d:D} (h:DV H v d) (o:d.isObj=false):∃ t,yD K H v t/\PySem.W.kitOne K t (.type "int")=some d.isInt/\PySem.W.kitOne K t (.type "bool")=some d.isBool/\PySem.W.kitOne K t (.type "list")=some d.isLst/\PySem.W.kitOne K t (.type "tuple")=some d.isTup:=by
 cases h with
 | int i=>exact ⟨_,.int i,jA K .int,jB K .int,jD K .int,jC K .int⟩
 | bool b=>exact ⟨_,.bl b,jA K .bool,jB K .bool,jD K .bool,jC K .bool⟩
 | non=>exact ⟨_,.non,jA K .non,jB K .non,jD K .non,jC K .non⟩
 | str x=>exact ⟨_,.str x,jA K .str,jB K .str,jD K .str,jC K .str⟩
 | scr e=>
  rcases e with e | ⟨o,e⟩
  ·exact ⟨_,.lst e,jA K .lst,jB K .lst,jD K .lst,jC K .lst⟩
  ·exact ⟨_,.frz e,jA K .lst,jB K .lst,jD K .lst,jC K .lst⟩
 | lst e _=>exact ⟨_,.lst e,jA K .lst,jB K .lst,jD K .lst,jC K .lst⟩
 | tup e _=>exact ⟨_,.tup e,jA K .tup,jB K .tup,jD K .tup,jC K .tup⟩
 | obj e _ _=>cases o
theorem vj {K:PySem.W.Frag} {c:String} {f:D->Bool} (hf:∀ H v d,DV H v d->d.isObj=false->∃ t,yD K H v t/\PySem.W.kitOne K t (.type c)=some (f d)) (σ:St) (H:Hp) (Q:VK):tP (kF (k3 c f) pa) σ H Q->gQ (Qk K) (qK (tP pa) (qK (tC (.ty c)) wr)) σ H Q:=λ⟨Z,Γ,R,E,h,q⟩=>
 ⟨Z,Γ,_,E,h,λd v H1 hd s1 hv=>by
  obtain ⟨t,h1,h2⟩:=hf H1 v d (hv.same zo) hd.1
  exact ⟨v,c,t,_,rfl,h1,h2,q _ _ H1 hd.2 s1 (.bool _)⟩⟩
theorem zPS {K:PySem.W.Frag} (H:Hp) (v:V) (d:D) (h:DV H v d) (o:d.isObj=false):∃ t,yD K H v t/\PySem.W.kitOne K t (.type "int")=some d.isInt:=let ⟨t,h1,h2,_⟩:=Yq h o; ⟨t,h1,h2⟩
theorem zLx {K:PySem.W.Frag} (H:Hp) (v:V) (d:D) (h:DV H v d) (o:d.isObj=false):∃ t,yD K H v t/\PySem.W.kitOne K t (.type "bool")=some d.isBool:=let ⟨t,h1,_,h2,_⟩:=Yq h o; ⟨t,h1,h2⟩
theorem qe {K:PySem.W.Frag} (H:Hp) (v:V) (d:D) (h:DV H v d) (o:d.isObj=false):∃ t,yD K H v t/\PySem.W.kitOne K t (.type "list")=some d.isLst:=let ⟨t,h1,_,_,h2,_⟩:=Yq h o; ⟨t,h1,h2⟩
theorem UC {K:PySem.W.Frag} (H:Hp) (v:V) (d:D) (h:DV H v d) (o:d.isObj=false):∃ t,yD K H v t/\PySem.W.kitOne K t (.type "tuple")=some d.isTup:=let ⟨t,h1,_,_,_,h2⟩:=Yq h o; ⟨t,h1,h2⟩
end
inductive zG (F:FL) (vs:List V) (H:Hp) (Q:VK) (E:XK):Prop
 | mk (Z:Addr->Prop) (ds:List D) (R:D->Prop) (zd:ZL Z H) (hv:yE (hid Z H) vs ds) (h:F ds R) (q:∀ d v H',R d->Sm H H'->DV (hid Z H') v d->Q v H'):zG F vs H Q E
section
variable {P:Program} {w:World} {K:PySem.W.Frag} {mg:Str->Option Value} {base:Heap}
theorem jw (n i:Nat):slot (List.replicate n .no) i=.no:=by
 rw [Kn]
 cases h:(List.replicate n Sl.no)[i]? with
 | none=>rfl
 | some x=>exact List.eq_of_mem_replicate (List.mem_of_getElem? h)
theorem Kt {Z:Addr->Prop} {H:Hp} {vs:List V} {ds:List D} (zd:ZL Z H) (h:yE (hid Z H) vs ds) (n:Nat):zw Z (ds.map Sl.sh++List.replicate n .no) (vs.map some++List.replicate n none) H:=by
 have no:∀ i as,slot (ds.map Sl.sh++List.replicate n .no) i≠.ow as:=Yo λi as h=>by rw [jw] at h; cases h
 have nob:∀ i o c ns as,slot (ds.map Sl.sh++List.replicate n .no) i≠.ob o c ns as:=Yn λi o c ns as h=>by rw [jw] at h; cases h
 refine ⟨?_,λi as e=>absurd e (no i as),λi o c ns as e=>absurd e (nob i o c ns as),λi _ as _ _ e=>absurd e (no i as),zd,?_⟩
 clear nob
 ·induction h with
  | nil=>
   intro i d e
   change slot (List.replicate n .no) i=_ at e
   rw [jw] at e
   cases e
  | @cons v d vs ds hv _ ih=>
   intro i e q
   cases i with
   | zero=>cases q; exact ⟨v,rfl,hv⟩
   | succ i=>
    obtain ⟨u,h1,h2⟩:=ih (λi=>no (i + 1)) i e q
    exact ⟨u,by rw [List.map_cons,List.cons_append,List.getElem?_cons_succ]; exact h1,h2⟩
 ·rw [List.length_append,List.length_append,List.length_map,List.length_map,List.length_replicate,List.length_replicate,xm h]
theorem UD {N ps:List Str} {F:FL} {p:ym} (len:∀ ds R,F ds R->ds.length=ps.length) (h2:∀ ds R,F ds R->p { nx:=λ_=>R .non,rt:=R } (ds.map Sl.sh++List.replicate (N.length - ps.length) .no)) {H:Hp} {vs:List V} {Q:VK} {E:XK} (h:zG F vs H Q E):yQ p { nx:=λ_ H'=>Q .non H',rt:=Q } (L2.wQ N vs) H:=by
 obtain ⟨Z,ds,R,zd,hv,h,q⟩:=h
 have e:L2.wQ N vs=vs.map some++List.replicate (N.length - ps.length) none:=by
  unfold L2.wQ
  rw [xm hv,len ds R h]
 refine ⟨Z,H,Z,_,_,⟨?_,λ_ h=>h,zd,Sm.refl _,?_,?_⟩,h2 ds R h,λZ' Γ' σ' H' E' _ hn=>q .non .non H' hn E'.same .non,λd v H' s' hv' hd=>q d v H' hd s' hv',λ_ _ _ _ _ _ h=>h.elim,λ_ _ _ _ _ _ h=>h.elim⟩
 ·rw [e]
  exact Kt zd hv _
 ·exact λi as l e=>absurd e (Yo (λi as h=>by rw [jw] at h; cases h) i as)
 ·exact λi o c ns as e=>absurd e (Yn (λi o c ns as h=>by rw [jw] at h; cases h) i o c ns as)
theorem UE {ps:List Str} {F:FL} (len:∀ ds R,F ds R->ds.length=ps.length) (vs:List V) (H:Hp) (Q:VK) (E:XK):zG F vs H Q E->vs.length=ps.length:=λ⟨Z,ds,R,zd,hv,h,q⟩=>by rw [xm hv]; exact len ds R h
theorem zn {x qual:Str} {st:Stmt} {f:Addr} {fd:FuncData} {N ps:List Str} {k:Nat} {F:FL} (Fu:ze K x qual st f fd) (S:zc N ps (zL st)) (len:∀ ds R,F ds R->ds.length=ps.length)
  (hbody:∀ (cdv:Value) (A:Around) (outer:List Env) (s:Shared) (H:Hp) (E:XK),zZ k (A.deeper (envOfC qual (zL st) s.heap.objs.size f cdv))->
   ∃ p,yj (y6 zU P w K mg base N qual (zL st) f cdv A outer s H E).nox (y8 st) (yQ p)/\∀ ds R,F ds R->p { nx:=λ_=>R .non,rt:=R } (ds.map Sl.sh++List.replicate (N.length - ps.length) .no)):zF P w K mg base zU (k + 1) f fd ps (zG F):=
 Fu.ok S (UE len) λcdv A outer s H vs Q E hr h=>let ⟨p,h1,h2⟩:=hbody cdv A outer s H E hr; ⟨_,h1,UD len h2 h⟩
theorem jx {x qual:Str} {st:Stmt} {f:Addr} {fd:FuncData} {dv:Value} {N ps:List Str} {k:Nat} {F:FL} (Fu:yw K x qual st f fd dv) (S:zc N ps (zL st)) (len:∀ ds R,F ds R->ds.length=ps.length)
  (hbody:∀ (cdv:Value) (A:Around) (outer:List Env) (s:Shared) (H:Hp) (E:XK),zZ k (A.deeper (envOfC qual (zL st) s.heap.objs.size f cdv))->
   ∃ p,yj (y6 zU P w K mg base N qual (zL st) f cdv A outer s H E).nox (y8 st) (yQ p)/\∀ ds R,F ds R->p { nx:=λ_=>R .non,rt:=R } (ds.map Sl.sh++List.replicate (N.length - ps.length) .no)):zF P w K mg base zU (k + 1) f fd ps (zG F):=
 Fu.ok S (UE len) λcdv A outer s H vs Q E hr h=>let ⟨p,h1,h2⟩:=hbody cdv A outer s H E hr; ⟨_,h1,UD len h2 h⟩
theorem zP {X:Cx} {x:Str} {ps:List Str} {k:Nat} {F:FL} {e:Expr} {es:List Expr} {pl:yf} {p pos:Pos} (c:Fn X.prog X.w X.K X.mg X.base x ps k (zG F)) (hr:zZ k X.A) (hg:Gl X x) (ha:PA X (e :: es) (xk pl))
  (hdb:(x == ("__debug__" : Str))=false:=by decide) (he:starEach (e :: es) X.env=(false,eval e X.env) :: starEach es X.env:=by rfl) (hpl:(backTo pos (starEach es X.env)).any (·.1)=false:=by rfl) :
  PE X (.Call (.Name x p) (e :: es) [] pos) (tP (ua F pl)):=yM (zLY c hr hg ha hdb he hpl) λσ H Q ⟨Z,Γ,R,E,h,q⟩=>
 ⟨Z,Γ,_,E,h,λds vs H1 hd s1 hv=>⟨Z,ds,R,(E.same s1).zd,by rw [List.append_nil]; exact hv,hd,λd v H2 h2 s2 hv2=>q d v H2 h2 (s1.trans s2) hv2⟩⟩
end
end Pu
namespace Pu
open PySem L2 Sh
variable [yL]
open PyProof.Rows (envOfC)
theorem Ku {f:Str} {y:V}:∀ {ns:List Str} {xs:List V},ns.length=xs.length->f∉ns->yR f y (ns.zip xs)=(ns++[f]).zip (xs++[y])
 | [],[],_,_=>rfl
 | [],_ :: _,h,_=>nomatch h
 | _ :: _,[],h,_=>nomatch h
 | n :: ns,x :: xs,h,hf=>by
  show (if n=f then (n,y) :: ns.zip xs else (n,x) :: yR f y (ns.zip xs))=_
  rw [if_neg (λz=>hf (by rw [z]; exact List.mem_cons_self)),Ku (Nat.succ.inj h) (λz=>hf (List.mem_cons_of_mem _ z))]
  rfl
theorem yP.putO {Z0:Addr->Prop} {H0:Hp} {Z:Addr->Prop} {Γ:List Sl} {σ:St} {H:Hp} (E:yP Z0 H0 Z Γ σ H) {i:Nat} {o c dx:Addr} {ns ns':List Str} {ds ds':List D} {xs:List V} (hs:slot Γ i=.ob o c ns ds) (he:∃ fs,H o=some (.ins c dx fs)) (hl:ns'.length=xs.length) (hx:yE (hid Z H) xs ds') (one:∀ j o' c' ns' ds',slot Γ j=.ob o' c' ns' ds'->j=i):yP Z0 H0 Z (zr Γ i (.ob o c ns' ds')) σ (upd H o (.ins c dx (ns'.zip xs))):=by
 obtain ⟨dx0,xs0,hl0,hz,el,_⟩:=E.e.ob i o c ns ds hs
 have li:=vK (Γ:=Γ) (i:=i) (by rw [hs]; exact λz=>nomatch z)
 have hp:zJ (hid Z H) (hid Z (upd H o (.ins c dx (ns'.zip xs)))):=ko hz
 have keyw:∀ j d,slot (zr Γ i (.ob o c ns' ds')) j=.ow d->slot Γ j=.ow d:=λj d q=>by
  rw [yy] at q
  by_cases c:j=i/\i < Γ.length
  ·rw [if_pos c] at q; cases q
  ·rw [if_neg c] at q; exact q
 refine ⟨⟨λj d q=>?_,λj d q=>?_,λj o' c' ns1 d q=>?_,λj k as bs m q r=>E.e.ne j k as bs m (keyw j as q) (keyw k bs r),⟨λb hb=>?_,he.elim λ_ e=>yL.put E.e.zd.i e⟩,by rw [jh]; exact E.e.len⟩,E.z0,E.z0d,?_,λj d m q=>E.own j d m (keyw j d q),λj o' c' ns1 d q=>?_⟩
 ·rw [yy] at q
  by_cases c:j=i/\i < Γ.length
  ·rw [if_pos c] at q; cases q
  ·rw [if_neg c] at q
   obtain ⟨v,h1,h2⟩:=E.e.sh j d q
   exact ⟨v,h1,h2.same hp⟩
 ·obtain ⟨m,ys,h1,h2,h3,h4⟩:=E.e.ow j d (keyw j d q)
  have nm:m≠o:=λz=>by rw [z,el] at h3; cases h3
  exact ⟨m,ys,h1,h2,by rw [zh nm]; exact h3,yr hp h4⟩
 ·rw [yy] at q
  by_cases c:j=i/\i < Γ.length
  ·rw [if_pos c] at q
   cases q
   rw [c.1]
   exact ⟨dx,xs,hl0,hz,xB,hl,yr hp hx⟩
  ·rw [if_neg c] at q
   exact absurd ⟨one _ _ _ _ _ q,li⟩ c
 ·obtain ⟨u,e,n⟩:=E.e.zd.z b hb
  by_cases c:b=o
  ·rw [c]; exact ⟨_,xB,λ_ z=>nomatch z⟩
  ·exact ⟨u,by rw [zh c]; exact e,n⟩
 ·exact he.elim λ_ e=>E.same.put (E.owb i o c ns ds hs) e
 ·rw [yy] at q
  by_cases c:j=i/\i < Γ.length
  ·rw [if_pos c] at q
   cases q
   exact E.owb i o _ ns ds hs
  ·rw [if_neg c] at q
   exact E.owb j o' c' ns1 d q
def Yr:Sl->(Addr->Addr->List Str->List D->Prop)->Prop
 | .ob o c ns ds,R=>R o c ns ds
 | _,_=>False
theorem Kv {s:Sl} {R:Addr->Addr->List Str->List D->Prop} (h:Yr s R):∃ o c ns ds,s=.ob o c ns ds/\R o c ns ds:=by
 cases s with
 | ob o c ns ds=>exact ⟨o,c,ns,ds,rfl,h⟩
 | _=>exact h.elim
def jy:List Sl->Bool
 | []=>true
 | .ob _ _ _ _ :: _=>false
 | _ :: t=>jy t
theorem Ys:∀ {Γ:List Sl},jy Γ=true->∀ j o c ns ds,slot Γ j≠.ob o c ns ds
 | [],_,_,_,_,_,_,h=>nomatch h
 | .no :: _,_,0,_,_,_,_,h=>nomatch h
 | .sh _ :: _,_,0,_,_,_,_,h=>nomatch h
 | .ow _ :: _,_,0,_,_,_,_,h=>nomatch h
 | .ob .. :: _,g,_,_,_,_,_,_=>nomatch g
 | .no :: t,g,j + 1,o,c,ns,ds,h=>Ys (Γ:=t) g j o c ns ds h
 | .sh _ :: t,g,j + 1,o,c,ns,ds,h=>Ys (Γ:=t) g j o c ns ds h
 | .ow _ :: t,g,j + 1,o,c,ns,ds,h=>Ys (Γ:=t) g j o c ns ds h
def Kw (K:PySem.W.Frag) (c:Addr) (f:Str):Prop:=vX K c/\wP K c f
def UF (K:PySem.W.Frag) (f:Str) (pa:zp):ym:=λT Γ=>pa Γ λd=>Yr (slot Γ 0) λo c ns ds=>Kw K c f/\f∉ns/\ns.length < 900/\jy (Γ.drop 1)=true/\T.nx (zr Γ 0 (.ob o c (ns++[f]) (ds++[d])))
section
variable {X:Cx} {e:Expr} {es:List Expr} {pos:Pos} {pa:zp} {pl:yf} {C:Addr}
theorem uh {K:PySem.W.Frag} {f:Str} (D:xS) (σ:St) (H:Hp):yQ (UF K f pa) D σ H->gO K (ve 0) (tP pa) f D σ H:=λ⟨Z0,H0,Z,Γ,Dp,E,h,nx,rt,bk,ct⟩=>
 ⟨Z,Γ,_,E.e,h,λd v H1 hd s1 hv=>by
  obtain ⟨o,c,ns,ds,hs,hk,hf,hn,hn2,hd⟩:=Kv hd
  obtain ⟨dx,xs,hl,hz,el,ln,hx⟩:=(E.mv s1).e.ob 0 o c ns ds hs
  refine ⟨.ref o,hl,o,c,dx,_,rfl,el,hk.1,hk.2,by rw [List.length_zip]; omega,?_⟩
  rw [Ku ln hf]
  refine nx Z _ _ _ ((E.mv s1).putO hs ⟨_,el⟩ (by rw [List.length_append,List.length_append,ln]; rfl) (jX hv hx) ?_) ((yU s1).trans (ko hz)) hd
  intro j o' c' ns' ds' q
  cases j with
  | zero=>rfl
  | succ j=>
   cases Γ with
   | nil=>cases q
   | cons x t=>exact absurd q (Ys (Γ:=t) hn2 j o' c' ns' ds')⟩
inductive vk (C:Addr) (F:FL) (vs:List V) (H:Hp) (Q:VK) (E:XK):Prop
 | mk (Z:Addr->Prop) (ds:List D) (R:D->Prop) (o dx:Addr) (us:List V) (e:vs=.ref o :: us) (ho:H o=some (.ins C dx [])) (hz:¬ Z o) (zd:ZL Z H) (hv:yE (hid (λb=>Z b\/b=o) H) us ds) (h:F ds R) (q:∀ d H',R d->Sm (less o H) H'->DV (hid Z H') (.ref o) d->Q .non H'):vk C F vs H Q E
theorem zLm {N ps:List Str} {F:FL} {p:ym} (len:∀ ds R,F ds R->ds.length=ps.length) (h2:∀ o ds R,F ds R->p { nx:=λΓ=>Yr (slot Γ 0) λo' c ns es=>o'=o/\R (.obj c ns es),rt:=λ_=>False } (.ob o C [] [] :: (ds.map Sl.sh++List.replicate (N.length - (ps.length + 1)) .no))) {H:Hp} {vs:List V} {Q:VK} {E:XK} (h:vk C F vs H Q E):yQ p { nx:=λ_ H'=>Q .non H',rt:=Q } (L2.wQ N vs) H:=by
 obtain ⟨Z,ds,R,o,dx,us,e,ho,hz,zd,hv,h,q⟩:=h
 subst e
 have e:L2.wQ N (.ref o :: us)=some (.ref o) :: (us.map some++List.replicate (N.length - (ps.length + 1)) none):=by
  unfold L2.wQ
  rw [List.length_cons,xm hv,len ds R h]
  rfl
 have zd':ZL (λb=>Z b\/b=o) H:=⟨λb hb=>hb.elim (zd.z b) λz=>by rw [z]; exact ⟨_,ho,λ_ z=>nomatch z⟩,zd.i⟩
 have E0:=Kt zd' hv (N.length - (ps.length + 1))
 refine ⟨Z,less o H,λb=>Z b\/b=o,_,_,⟨?_,λ_ h=>.inl h,⟨λb hb=>?_,yL.less zd.i ho⟩,.of zLs,?_,?_⟩,h2 o ds R h,λZ' Γ' σ' H' E' _ hn=>?_,λ_ _ _ _ _ h=>h.elim,λ_ _ _ _ _ _ h=>h.elim,λ_ _ _ _ _ _ h=>h.elim⟩
 ·rw [e]
  refine ⟨λi d q=>?_,λi d q=>?_,λi o' c ns d q=>?_,λi j as bs l q r=>?_,zd',by rw [List.length_cons,List.length_cons,E0.len]⟩
  ·cases i with
   | zero=>cases q
   | succ i=>exact E0.sh i d q
  ·cases i with
   | zero=>cases q
   | succ i=>exact E0.ow i d q
  ·cases i with
   | zero=>cases q; exact ⟨dx,[],rfl,.inr rfl,ho,rfl,.nil⟩
   | succ i=>exact E0.ob i o' c ns d q
  ·cases i with
   | zero=>cases q
   | succ i=>
    cases j with
    | zero=>cases r
    | succ j=>exact λa b=>congrArg _ (E0.ne i j as bs l q r a b)
 ·obtain ⟨u,e1,n⟩:=zd.z b hb
  exact ⟨u,(if_neg λz=>hz (by rw [<- z]; exact hb)).trans e1,n⟩
 ·intro i as l q
  cases i with
  | zero=>cases q
  | succ i=>exact absurd q (Yo (λi as h=>by rw [jw] at h; cases h) i as)
 ·intro i o' c ns as q
  cases i with
  | zero=>cases q; exact if_pos rfl
  | succ i=>exact absurd q (Yn (λi o c ns as h=>by rw [jw] at h; cases h) i o' c ns as)
 ·obtain ⟨o',c,ns,es,hs,e2,hR⟩:=Kv hn
  subst e2
  obtain ⟨dx',xs,hl,hz',el,ln,hx⟩:=E'.e.ob 0 o' c ns es hs
  refine q _ H' hR E'.same (.obj (wz hz el) ln (yr (g9 E'.z0) hx))
theorem zMs {ps:List Str} {p0:Str} {F:FL} (len:∀ ds R,F ds R->ds.length=ps.length) (vs:List V) (H:Hp) (Q:VK) (E:XK):vk C F vs H Q E->vs.length=(p0 :: ps).length:=λ⟨Z,ds,R,o,dx,us,e,ho,hz,zd,hv,h,q⟩=>by rw [e,List.length_cons,List.length_cons,xm hv,len ds R h]
theorem Kx {P:Program} {w:World} {K:PySem.W.Frag} {mg:Str->Option Value} {base:Heap} {x qual:Str} {st:Stmt} {f:Addr} {fd:FuncData} {N ps:List Str} {p0:Str} {k:Nat} {F:FL} (Fu:ze K x qual st f fd) (S:zc N (p0 :: ps) (zL st)) (len:∀ ds R,F ds R->ds.length=ps.length)
  (hbody:∀ (cdv:Value) (A:Around) (outer:List Env) (s:Shared) (H:Hp) (E:XK),zZ k (A.deeper (envOfC qual (zL st) s.heap.objs.size f cdv))->
   ∃ p,yj (y6 zU P w K mg base N qual (zL st) f cdv A outer s H E).nox (y8 st) (yQ p)/\∀ o ds R,F ds R->p { nx:=λΓ=>Yr (slot Γ 0) λo' c ns es=>o'=o/\R (.obj c ns es),rt:=λ_=>False } (.ob o C [] [] :: (ds.map Sl.sh++List.replicate (N.length - (ps.length + 1)) .no))):zF P w K mg base zU (k + 1) f fd (p0 :: ps) (vk C F):=
 Fu.ok S (zMs len) λcdv A outer s H vs Q E hr h=>let ⟨p,h1,h2⟩:=hbody cdv A outer s H E hr; ⟨_,h1,zLm len h2 h⟩
theorem zLA {F:FL} {ev:List V} {ed:List D} (he:∀ H,yE H ev ed) (σ:St) (H:Hp) (Q:VK):tP (ua (λds=>F (ds++ed)) pl) σ H Q->YC C (vk C F) ev E0 (xk pl) σ H Q:=λ⟨Z,Γ,R,E,h,q⟩=>
 ⟨Z,Γ,_,E,h,λds vs H1 hd s1 hv x dx hx hdx ne=>by
  have zd:=(E.same s1).zd
  have s2:Sm H1 (upd (upd H1 dx (.own x)) x (.ins C dx [])):=.of (zJQ hx hdx ne _ _)
  refine ⟨Z,ds++ed,R,x,dx,vs++ev,rfl,xB,zd.new hx,zd.same s2,?_,hd,λd H' hR sb dv=>⟨rfl,q d _ H' hR (zOQ (s1.trans s2) xB sb ?_) dv⟩⟩
  ·refine gg (yr ?_ hv) (he _)
   intro b o e
   obtain ⟨n1,n2⟩:=jF e
   exact wz (λz=>z.elim n1 (x9 n2 hx)) (s2.at n2 (jg e)) (jg e)
  ·exact s1.free hx⟩
theorem zMm {F:FL} (σ:St) (H:Hp) (Q:VK) (h:tP (ua F pl) σ H Q):YC C (vk C F) [] E0 (xk pl) σ H Q:=zLA (ed:=[]) (λ_=>.nil) σ H Q (by rw [show (λds=>F (ds++[]))=F from funext λds=>by rw [List.append_nil]]; exact h)
theorem Ky {x:Str} {ps:List Str} {k:Nat} {F:FL} {p:Pos} (c:uP X.prog X.w X.K X.mg X.base C ps k (vk C F)) (T:zT X.K X.mg x C) (hr:zZ (k + 1) X.A) (hg:Gl X x) (ha:PA X (e :: es) (xk pl))
  (hdb:(x == ("__debug__" : Str))=false:=by decide) (he:starEach (e :: es) X.env=(false,eval e X.env) :: starEach es X.env:=by rfl) (hpl:(backTo pos (starEach es X.env)).any (·.1)=false:=by rfl) :
  PE X (.Call (.Name x p) (e :: es) [] pos) (tP (ua F pl)):=yM (zLV c T hr hg ha hdb he hpl) zMm
theorem ui {x:Str} {ps:List Str} {k:Nat} {F:FL} {p:Pos} {dv:V} (dd:D) (hd:∀ H,DV H dv dd) (c:wB X.prog X.w X.K X.mg X.base x ps k (zG F) dv) (hr:zZ k X.A) (hg:Gl X x) (ha:PA X (e :: es) (xk pl))
  (hdb:(x == ("__debug__" : Str))=false:=by decide) (he:starEach (e :: es) X.env=(false,eval e X.env) :: starEach es X.env:=by rfl) (hpl:(backTo pos (starEach es X.env)).any (·.1)=false:=by rfl) :
  PE X (.Call (.Name x p) (e :: es) [] pos) (tP (ua (λds=>F (ds++[dd])) pl)):=yM (zJj c hr hg ha hdb he hpl) λσ H Q ⟨Z,Γ,R,E,h,q⟩=>
 ⟨Z,Γ,_,E,h,λds vs H1 hd' s1 hv=>⟨Z,ds++[dd],R,(E.same s1).zd,gg hv (.cons (hd _) .nil),hd',λd v H2 h2 s2 hv2=>q d v H2 h2 (s1.trans s2) hv2⟩⟩
def k4 (K:PySem.W.Frag) (f:Str):D->(D->Prop)->Prop
 | .obj c ns ds,R=>Kw K c f/\∃ d,(ns.zip ds).lookup f=some d/\R d
 | _,_=>False
theorem Kz {H:Hp} {f:Str} {d:D}:∀ {ns:List Str} {xs:List V} {ds:List D},ns.length=xs.length->yE H xs ds->(ns.zip ds).lookup f=some d->∃ v,(ns.zip xs).lookup f=some v/\DV H v d
 | [],_,_,_,_,h=>nomatch h
 | _ :: _,[],_,h,_,_=>nomatch h
 | n :: ns,x :: xs,_,h,.cons (b:=d') (l₂:=dt) k t,q=>by
  change (match f == n with | true=>some d' | false=>(ns.zip dt).lookup f)=some d at q
  show ∃ v,(match f == n with | true=>some x | false=>(ns.zip xs).lookup f)=some v/\_
  cases e:f == n with
  | true=>rw [e] at q; cases q; exact ⟨x,rfl,k⟩
  | false=>rw [e] at q; exact Kz (Nat.succ.inj h) t q
theorem xZ (K:PySem.W.Frag) {f:Str} (ha:PE X e (tP pa)) (hb:attributeBase e f X.env (eval e X.env)=eval e X.env) (hK:X.K=K:=by rfl):PE X (.Attribute e f pos) (tP (kF (k4 K f) pa)):=yM (zOx ha hb) λσ H Q ⟨Z,Γ,R,E,h,q⟩=>
 ⟨Z,Γ,_,E,h,λd v H1 hd s1 hv=>by
  unfold k4 at hd
  split at hd
  ·obtain ⟨hk,d',hl,hR⟩:=hd
   cases hv with
   | obj e1 l1 h1=>
    obtain ⟨v,e2,dv⟩:=Kz l1 h1 hl
    exact ⟨_,_,_,_,v,rfl,zo _ _ e1,by rw [hK]; exact hk.1,by rw [hK]; exact hk.2,e2,q _ _ H1 hR s1 dv⟩
  ·exact hd.elim⟩
def K0 (C:Addr) (m:Str) (F:FL):D->(D->Prop)->Prop
 | .obj c ns ds,R=>c=C/\m∉ns/\F [.obj c ns ds] R
 | _,_=>False
theorem YG {f:Str}:∀ {ns:List Str} {xs:List V},f∉ns->(ns.zip xs).lookup f=none
 | [],_,_=>rfl
 | _ :: _,[],_=>rfl
 | n :: ns,x :: xs,h=>by
  show (match f == n with | true=>some x | false=>(ns.zip xs).lookup f)=none
  have e:(f == n)=false:=beq_eq_false_iff_ne.mpr λz=>h (by rw [z]; exact List.mem_cons_self)
  rw [e]
  exact YG λz=>h (List.mem_cons_of_mem _ z)
theorem Yt {x m:Str} {ps:List Str} {k:Nat} {F:FL} {apos:Pos} {pl:Sem Bool} (c:v4 X.prog X.w X.K X.mg X.base C m ps k (zG F)) (T:zT X.K X.mg x C) (hr:zZ k X.A) (ha:PE X e (tP pa))
  (ht:eval (.Call (.Attribute e m apos) [] [] pos) X.env=(do
   let ov <- eval e X.env
   standAt apos.atName
   let (f,first) <- holding [ov] (getMethod ov m pl)
   callWith pos f first (backTo pos (starEach [] X.env)) (backToKw pos (keywordEach [] X.env))):=by rfl) :
  PE X (.Call (.Attribute e m apos) [] [] pos) (tP (kF (K0 C m F) pa)):=yM (zJh c T hr ha ht) λσ H Q ⟨Z,Γ,R,E,h,q⟩=>
 ⟨Z,Γ,_,E,h,λd v H1 hd s1 hv=>by
  unfold K0 at hd
  split at hd
  ·obtain ⟨rfl,hm,hR⟩:=hd
   have hv0:=hv
   cases hv with
   | obj e1 l1 h1=>exact ⟨_,_,_,rfl,zo _ _ e1,YG hm,Z,_,R,(E.same s1).zd,.cons hv0 .nil,hR,λd v H2 h2 s2 hv2=>q d v H2 h2 (s1.trans s2) hv2⟩
  ·exact hd.elim⟩
def K1 (K:PySem.W.Frag) (C:Addr):D->(D->Prop)->Prop
 | .obj c _ _,R=>(∃ mg x,zT K mg x c)/\∃ b,PySem.W.kitOne K (.ref c) (.ref C)=some b/\R (.bool b)
 | _,_=>False
theorem zLB {K:PySem.W.Frag} (σ:St) (H:Hp) (Q:VK):tP (kF (K1 K C) pa) σ H Q->gQ (Q7 K) (qK (tP pa) (qK (tC (.ref C)) wr)) σ H Q:=λ⟨Z,Γ,R,E,h,q⟩=>
 ⟨Z,Γ,_,E,h,λd v H1 hd s1 hv=>by
  unfold K1 at hd
  split at hd
  ·obtain ⟨⟨mg,x,T⟩,b,hk,hR⟩:=hd
   cases hv with
   | obj e1 l1 h1=>exact ⟨_,_,_,b,rfl,T.ty (zo _ _ e1),hk,q _ _ H1 hR s1 (.bool _)⟩
  ·exact hd.elim⟩
def k5 (pa:zp):ym:=λT Γ=>pa Γ λ_=>T.nx Γ
theorem K2 (he:PE X e (tP pa)) (hs:swapsWith e none pos.line X.env=pure false:=by rfl):PS X (.Expr e pos) (yQ (k5 pa)):=yN (wW he hs) λD σ H ⟨Z0,H0,Z,Γ,Dp,E,h,nx,rt,bk,ct⟩=>
 ⟨Z,Γ,_,E.e,h,λd v H1 hd s1 hv=>nx Z Γ σ H1 (E.mv s1) (yU s1) hd⟩
end
end Pu
namespace Pu
open PySem L2 Sh
variable [yL]
def uB (k:Nat):List D->List D
 | []=>[]
 | d :: t=>yZ (.int (k:Int)) d :: uB (k + 1) t
theorem qf:∀ (k:Nat) (ds:List D),(uB k ds).length=ds.length
 | _,[]=>rfl
 | k,_ :: t=>congrArg (· + 1) (qf (k + 1) t)
theorem qg:∀ {k:Nat} {ds:List D} {i:Nat} {e:D},(uB k ds)[i]? = some e->∃ d,ds[i]? = some d/\e=yZ (.int ((k + i:Nat):Int)) d
 | _,[],_,_,h=>by simp [uB] at h
 | k,d :: t,0,e,h=>⟨d,rfl,by simp [uB] at h; exact h.symm⟩
 | k,d :: t,i + 1,e,h=>by
  obtain ⟨d',h1,h2⟩:=qg (k:=k + 1) (ds:=t) (i:=i) (e:=e) (by simpa [uB] using h)
  exact ⟨d',by simpa using h1,by rw [h2,show k + 1 + i=k + (i + 1) by omega]⟩
def uj:List D->(List D->Prop)->Prop
 | [.lst ds],R=>R ds
 | _,_=>False
section
variable {X:Cx} {e1 e2:Expr} {pos:Pos} {pb:zp} {pl:yf}
end
end Pu
namespace L2
open PySem PySem.Spec PyProof.Rows
theorem K3:bootBuiltins "min" = some (.builtin "min"):=by decide +kernel
section
variable {X:Cx}
end
end L2
namespace Pu
open PySem L2 Sh
variable [yL]
open PyProof.Rows (envOfC)
section
variable {X:Cx} {e a b:Expr} {es:List Expr} {st:Stmt} {sts:List Stmt} {pos:Pos} {pa pb:zp} {pl:yf} {p q:ym}
end
variable {P:Program} {w:World} {K:PySem.W.Frag} {mg:Str->Option Value} {base:Heap}
section
variable {X:Cx} {a b:Expr} {pos:Pos} {pa pb:zp}
end
end Pu
namespace Pu
open PySem L2 Sh
variable [yL]
section
variable {X:Cx} {a:Expr} {pos:Pos} {pa:zp}
end
inductive k6 (ds:List D) (T:D->(Bool->Prop)->Prop) (G:D->(D->Prop)->Prop) (R:D->Prop):Prop
 | mk (few:ds.length<=1000) (f:D->Bool) (F:D->D->Prop) (t:∀ d,d∈ds->T d λb=>b=f d) (h:∀ d,d∈ds->f d=true->G d (F d)) (q:∀ es,Paired F (ds.filter f) es->R (.lst es)):k6 ds T G R
theorem zL3 {Z:Addr->Prop} {Γ:List Sl} {σ:St} {H:Hp} {own:List Str} {caps:List (Nat × Str)} {J:It} {ds:List D} {js:List Nat} {po:D->Option (List D)} {pt:xr} {pe:zp} {Q:VK} {f:D->Bool} {F:D->D->Prop} {Zt:Addr->Prop} {Γt:List Sl} (E:zw Z Γ σ H) (Et:zw Zt Γt σ H) (sub:∀ b,Zt b->Z b) (wk:Wk Z J H ds) (hj:js=List.range' 0 own.length) (hk:∀ d os,po d=some os->os.length=js.length) (few:ds.length<=1000)
  (hT:∀ d,d∈ds->v8 (po d) λos=>pt (os.map Sl.sh++(caps.map (·.1)).map λj=>un (slot Γt j)) λb=>b=f d)
  (hF:∀ d,d∈ds->f d=true->v8 (po d) λos=>pe (os.map Sl.sh++(caps.map (·.1)).map λj=>un (slot Γ j)) (F d))
  (q:∀ es ys H' p,Paired F (ds.filter f) es->Sm H H'->yE (hid Z H') ys es->H' p=none->Q (.ref p) (upd H' p (.lst ys))):Qt J (tG js po) (yt pt) (tP pe) Q (xq own caps σ) H:=by
 have hc:xq own caps σ=own.map (λ_=>none)++(caps.map (·.1)).map λj=>(σ[j]?).getD none:=by
  unfold xq
  rw [List.map_map]
  rfl
 refine ⟨λi m ys σ1 H1=>m + i=ds.length/\Sm H H1/\(∃ es,Paired F ((ds.take i).filter f) es/\yE (hid Z H1) ys es)/\∃ o:St,o.length=own.length/\σ1=o++(caps.map (·.1)).map λj=>(σ[j]?).getD none,⟨ds.length,rfl,Sm.refl _,⟨[],.nil,.nil⟩,_,List.length_map ..,hc⟩,?_⟩
 rintro i m ys σ1 H1 ⟨hm,s1,⟨es,he,hy⟩,o,lo,rfl⟩
 obtain ⟨w1,w2⟩:=wk i Z H1 (yU s1) (E.zd.same s1)
 have le:es.length<=i:=by
  have h1:=Paired.length he
  have h2:=List.length_filter_le f (ds.take i)
  rw [List.length_take] at h2
  omega
 by_cases hi:i < ds.length
 ·have tk:(ds.take (i + 1)).filter f=(ds.take i).filter f++(if f ds[i]=true then [ds[i]] else []):=by
   rw [List.take_succ_eq_append_getElem hi,List.filter_append,List.filter_cons,List.filter_nil]
  refine .inr ⟨(w1 _ (List.getElem?_eq_getElem hi)).1,by rw [xm hy]; exact YF (by omega),λy σ' H'=>m - 1 + (i + 1)=ds.length/\Sm H H'/\(∃ es,Paired F ((ds.take (i + 1)).filter f) es/\yE (hid Z H') (ys++[y]) es)/\∃ o:St,o.length=own.length/\σ'=o++(caps.map (·.1)).map λj=>(σ[j]?).getD none,λσ' H'=>m - 1 + (i + 1)=ds.length/\Sm H H'/\(∃ es,Paired F ((ds.take (i + 1)).filter f) es/\yE (hid Z H') ys es)/\∃ o:St,o.length=own.length/\σ'=o++(caps.map (·.1)).map λj=>(σ[j]?).getD none,λy σ' H' k=>⟨m - 1,by omega,k⟩,λσ' H' k=>⟨m - 1,by omega,k⟩,λx H' yl=>?_⟩
  obtain ⟨s2,dv⟩:=(w1 _ (List.getElem?_eq_getElem hi)).2 x H' yl
  obtain ⟨os,ho,ht⟩:=kY (hT _ (List.getElem_mem hi))
  have lo2:=hk _ _ ho
  refine ⟨Z,_,os,dv,ho,λvs hvs=>?_⟩
  have lv:=xm hvs
  have e1:setN (o++(caps.map (·.1)).map λj=>(σ[j]?).getD none) js vs=vs.map some++(caps.map (·.1)).map λj=>(σ[j]?).getD none:=by
   rw [hj,<- lo]
   exact W1 _ [] o vs (by rw [lv,lo2,hj,List.length_range']; exact lo)
  rw [e1]
  have lw:(vs.map some).length=own.length:=by rw [List.length_map,lv,lo2,hj,List.length_range']
  refine ⟨Zt,_,_,W0 (Et.same (s1.trans s2)) (yr (g9 sub) hvs),ht,λb H3 hb s3=>?_⟩
  subst hb
  by_cases c:f ds[i]=true
  ·rw [if_pos c]
   obtain ⟨os',ho',hp⟩:=kY (hF _ (List.getElem_mem hi) c)
   cases ho.symm.trans ho'
   refine ⟨Z,_,_,W0 (E.same (s1.trans (s2.trans s3))) (yr (yU s3) hvs),hp,λd v H4 hd s4 hv=>⟨by omega,s1.trans (s2.trans (s3.trans s4)),⟨es++[d],?_,jX hv (yr (yU (s2.trans (s3.trans s4))) hy)⟩,_,lw,rfl⟩⟩
   rw [tk,if_pos c]
   exact jX hd he
  ·rw [if_neg c]
   refine ⟨by omega,s1.trans (s2.trans s3),⟨es,?_,yr (yU (s2.trans s3)) hy⟩,_,lw,rfl⟩
   rw [tk,if_neg c,List.append_nil]
   exact he
 ·have ei:i=ds.length:=by omega
  refine .inl ⟨w2 ei,λp hp=>q es ys H1 p ?_ s1 hy hp⟩
  rw [List.take_of_length_le (by omega)] at he
  exact he
section
variable {X:Cx} {scope:Scope} {own:List Str} {caps:List (Nat × Str)} {tg iter elt cond:Expr} {pos:Pos} {pi:yf} {po:D->Option (List D)} {pt:xr} {pe:zp} {js:List Nat}
end
def zNG (i:Nat) (ow:Bool) (caps:List Nat) (pi:yf) (po:D->Option (List D)) (pt:xr) (pe:zp):ym:=λT Γ=>pi Γ λds=>k6 ds (λd S=>v8 (po d) λos=>pt (os.map Sl.sh++caps.map λj=>un (slot Γ j)) S) (λd S=>v8 (po d) λos=>pe (os.map Sl.sh++caps.map λj=>un (slot Γ j)) S) λd=>ku d λes=>T.nx (zr Γ i (match ow with | true=>.ow es | false=>.sh (.lst es)))
theorem zJU {X:Cx} {pos:Pos} (i:Nat) (ow:Bool) {scope:Scope} {own:List Str} {caps:List (Nat × Str)} {tg iter elt cond:Expr} {pi:yf} {po:D->Option (List D)} {pt:xr} {pe:zp} {js:List Nat} {y:Str} {py spos:Pos} (hN:X.N.Nodup) (hy:X.N[i]? = some y) (hl:X.env.scope.names.lookup y=some .local) (B:wx X scope own caps) (hc:X.calm=true) (hj:js=List.range' 0 own.length) (hk:∀ d os,po d=some os->os.length=js.length)
  (hi:PI X tg iter (v9 pi)) (hg:∀ C s₀ H₀ ex,PG (yK X scope (zW own caps) C s₀ H₀ ex) tg (tG js po)) (ht:∀ C s₀ H₀ ex,PT (yK X scope (zW own caps) C s₀ H₀ ex) cond (yt pt)) (he:∀ C s₀ H₀ ex,PE (yK X scope (zW own caps) C s₀ H₀ ex) elt (tP pe)) (hsw:swapsWith (.ListComp elt [⟨tg,iter,[cond],0⟩] scope pos) (some (.Name y py)) spos.line X.env=pure true) (hs:∀ x,foldedSetIterable iter X.env x=pure x:=by intro _; rfl) :
  PS X (.Assign [.Name y py] (.ListComp elt [⟨tg,iter,[cond],0⟩] scope pos) spos) (yQ (zNG i ow (caps.map (·.1)) pi po pt pe)):=yN (zJY hN hy hl B hc hi hg ht he hsw hs) λD σ H ⟨Z0,H0,Z,Γ,Dp,E,h,nx,rt,bk,ct⟩=>
 ⟨Z,Γ,_,E.e,h,λds J H1 ⟨fw,f,F,hT,hF,hR⟩ s1 wk=>zL3 (E.e.same s1) (E.e.same s1) (λ_ z=>z) wk hj hk fw hT hF λes ys H' l h1 s2 h2 hp=>by
  have E1:=(E.mv s1).mv s2
  cases ow with
  | true=>
   obtain ⟨E2,s3⟩:=E1.make hp h2 i
   exact nx _ _ _ _ E2 ((yU (s1.trans s2)).trans s3) (hR es h1)
  | false=>exact nx Z _ _ _ ((E1.mv (xj hp _)).set (v6 E1.e.zd hp h2) i) (yU (s1.trans (s2.trans (xj hp _)))) (hR es h1)⟩
theorem zJo {α:Type} {ds es:List α} (p:Paired (λd e=>e=d) ds es):es=ds:=by
 induction p with
 | nil=>rfl
 | cons h _ ih=>rw [h,ih]
theorem k6.keep {ds:List D} {T:D->(Bool->Prop)->Prop} {G:D->(D->Prop)->Prop} {R:D->Prop} (f:D->Bool) (few:ds.length<=1000) (t:∀ d,d∈ds->T d λb=>b=f d) (h:∀ d,d∈ds->G d λe=>e=d) (q:R (.lst (ds.filter f))):k6 ds T G R:=⟨few,f,λd e=>e=d,t,λd m _=>h d m,λes p=>by rw [zJo p]; exact q⟩
end Pu
namespace L2
open PySem PySem.Spec PyProof.Rows
structure Zt (z TI TO i1 i2 i3:Addr) (f1 f2 f3:List Addr):Prop where
 zI:TI≠z
 zO:TO≠z
 z1:i1≠z
 z2:i2≠z
 z3:i3≠z
 IO:TI≠TO
 I1:TI≠i1
 I2:TI≠i2
 I3:TI≠i3
 O1:TO≠i1
 O2:TO≠i2
 O3:TO≠i3
 n1:z∉f1
 n2:z∉f2
 n3:z∉f3
 o1:TO∉f1
 o2:TO∉f2
 o3:TO∉f3
 e12:i1∉f2
 e13:i1∉f3
 e21:i2∉f1
 e23:i2∉f3
 e31:i3∉f1
 e32:i3∉f2
section
variable {prog:Program} {w:World} {A:Around} {E:Value->Shared->Prop} {s:Shared}
end
end L2
namespace L2
open PySem PySem.Spec PyProof.Rows
section
variable {prog:Program} {w:World} {A:Around} {E:Value->Shared->Prop} {s:Shared}
end
section
variable {X:Cx} {es:List Expr} {kk:Nat} {tp:Pos}
end
end L2
namespace Pu
open PySem L2 Sh
variable [yL]
section
variable {X:Cx} {a b:Expr} {pos:Pos} {pa pb:zp}
theorem QC:yW X (compareOp .Is) (λx y H Q=>y=.non/\((x=.non/\Q (.bl true) H)\/∃ i,x=.int i/\Q (.bl false) H)):=by
 intro pins s σ H x y v u Q I rx ry h
 obtain ⟨rfl,⟨rfl,q⟩ | ⟨i,rfl,q⟩⟩:=h
 ·cases rx
  cases ry
  exact PyProof.Rows.is_none_none ⟨.bl true,H,I,rfl,q⟩
 ·obtain ⟨t,rfl⟩:=rx
  cases ry
  exact PyProof.Rows.is_none_ne (λh=>by cases h) ⟨.bl false,H,I,rfl,q⟩
end
end Pu
namespace Pu
open PySem L2 Sh
variable [yL]
def K4:FL
 | [.lst ds],R=>∃ ns:List Int,ds=ns.map D.int/\0 < ns.length/\∀ M,M∈ns->(∀ a∈ns,a<=M)->R (.int M)
 | _,_=>False
theorem zL5 {K:PySem.W.Frag}:w6 (λxs H Q=>∃ (p:Addr) (ns:List Int),xs=[.ref p]/\zV K H p (ns.map V.int)/\0 < ns.length/\∀ M,M∈ns->(∀ a∈ns,a<=M)->Q (.int M) H) K4:=λZ H vs ds R Q zd hv h q=>by
 unfold K4 at h
 split at h
 ·obtain ⟨v,rfl,hw⟩:=yY hv
  obtain ⟨p,xs,rfl,e1,h1⟩:=hw.lst_inv
  obtain ⟨ns,rfl,l0,h⟩:=h
  cases g6 h1
  exact ⟨p,ns,rfl,zV.of (zo _ _ e1),l0,λM m1 m2=>q _ _ H (h M m1 m2) (Sm.refl _) (.int _)⟩
 ·exact h.elim
end Pu
namespace Pu
open PySem L2 Sh
variable [yL]
section
variable {X:Cx} {a b c:Expr} {pos:Pos} {pa pb pc:zp}
end
end Pu
namespace L2
open PySem PySem.Spec PyProof.Rows
def UG (P:Program) (w:World) (K:PySem.W.Frag) (mg:Str->Option Value) (base:Heap) (x y qual:Str) (scope:Scope) (q:Addr) (cd:Value) (clos:List (Str × Addr)) (A:Around) (outer:List Env) (s:Shared) (H:Hp):Cx where
 prog:=P
 w:=w
 K:=K
 mg:=mg
 base:=base
 A:=A.deeper (PySem.W.envX qual scope s.heap.objs.size q cd clos)
 N:=[x,y]
 s₀:=s
 H₀:=H
 env:=PySem.W.envX qual scope s.heap.objs.size q cd clos
 outer:=outer
 stack:=PySem.W.envX qual scope s.heap.objs.size q cd clos :: outer
 ex:=[]
 fn:=λ_=>false
 calm:=true
 pn:=[]
 xe:=λ_ _=>False
theorem Yu {x y z:Str} {c cy:Addr} (h:[(y,cy)].lookup z=some c):z=y/\c=cy:=by
 rw [List.lookup_cons] at h
 split at h
 ·rename_i e
  exact ⟨eq_of_beq e,(Option.some.inj h).symm⟩
 ·cases h
theorem zNa {P:Program} {w:World} {K:PySem.W.Frag} {mg:Str->Option Value} {base:Heap} {A:Around} {outer:List Env} {s:Shared} {H:Hp} {k:Nat} {x y name qual:Str} {params:Arguments} {body:Expr} {scope:Scope} {cy q c':Addr} {pm ctv u uy:Value}
  {v vy:V} {t:TE} {Q:VK} (hsc:scope.names=[(x,.local),(y,.free)]) (hxy:x≠y) (hk:scope.kind=.function) (hco:scope.isCoroutine=false) (hgen:scope.isGenerator=false) (hr:zZ (k + 1) A) (e0:xG P w K mg base A outer s H)
  (hq:s.heap.get? q=some (PySem.W.kla_obj name qual params body scope [(y,cy)] pm c' ctv)) (hcd:s.heap.CodeRec (.ref c') qual)
  (hbind:bindArgs (PySem.W.kla_fn name qual params body scope [(y,cy)] pm (.ref c') ctv) ⟨[u],[]⟩=pure [(x,u)]) (hc:s.heap.IsCell cy (some uy)) (hn:H cy=none) (ru:zN v u) (ry:zN vy uy)
  (hb:PE (UG P w K mg base x y qual scope q (.ref c') [(y,cy)] A outer s H) body t) (ht:t [some v,some vy] H Q):wpAny (model P w) A (call (.ref q) [u]) (CE outer P w H s Q) (λ_ _=>False) s:=by
 have lx:scope.names.lookup x=some .local:=by rw [hsc,List.lookup_cons,beq_self_eq_true]
 have ly:scope.names.lookup y=some .free:=by
  rw [hsc,List.lookup_cons,(by simpa using hxy.symm:(y == x)=false),List.lookup_cons,beq_self_eq_true]
 refine wpAny_call (PySem.W.kla_callFunE hr.depth hq rfl hco hgen rfl hcd ?_)
 rw [hbind]
 refine wpAny_pure (wpAny_newFunctionEnv (λz hz=>?_) (λz hz=>?_) (λh1 hns hsb=>?_) hk)
 ·have hz':z∈scope.names:=hz
  rw [hsc] at hz'
  rcases List.mem_cons.mp hz' with rfl | hz'
  ·exact λe=>by cases e
  ·rw [List.mem_singleton.mp hz']; exact λe=>by cases e
 ·rw [List.mem_singleton.mp hz]
  exact lx
 have k1:∀ b o,s.heap.get? b=some o->h1.get? b=some o:=λb o e=>hsb.extBut b o (Nat.ne_of_lt (Heap.lt_size e)) (Heap.get?_push_of_some _ e)
 refine ⟨(e0.mod.nolimit.keeps λb o e=>(e0.bs b o e).1).keeps k1,?_⟩
 show codeAny _ _ (.expr body (PySem.W.envX qual scope s.heap.objs.size q (.ref c') [(y,cy)])) _ _
 refine PySem.W.kla_codeExpr ?_
 have noA:∀ b:Addr,b∉(UG P w K mg base x y qual scope q (.ref c') [(y,cy)] A outer s H).ex:=λb z=>absurd (show b∈([]:List Addr) from z) (by simp)
 have I:zD (UG P w K mg base x y qual scope q (.ref c') [(y,cy)] A outer s H) [] [some v,some vy] H { s with heap:=h1,toks:=s.toks + [(x,u)].length }:=by
  refine ⟨⟨e0.mod,hk,rfl,rfl,Nat.le_refl _,λa b c h1 h2=>?_,λa ha=>?_,λa c h _=>(by cases h),λ_=>hr.hd,Around.frames_deeper e0.frames,.inr ⟨rfl,rfl⟩,λb z=>absurd z (noA b),e0.bs,e0.bsz,λb _ _=>noA b,λb z=>absurd z (noA b),e0.funs,e0.frf⟩,
   rfl,e0.bare,Un.kept k1,⟨_,hns,λi a v' h1 h2 h3=>?_⟩,λa c h=>?_,e0.hok.fresh (Nat.le_refl _),λa c h=>?_,λp hp=>absurd (show p∈([]:List (Addr × Obj)) from hp) (by simp),e0.hok.kept k1,rfl⟩
  ·rw [(Yu (x:=x) h1).1,(Yu (x:=x) h2).1]
  ·have ha':scope.names.lookup a=some .cell\/scope.names.lookup a=some .free:=ha
   rw [hsc] at ha'
   have:a=y:=by
    rw [List.lookup_cons] at ha'
    split at ha'
    ·rcases ha' with z | z <;> cases z
    ·rw [List.lookup_cons] at ha'
     split at ha'
     ·rename_i e
      exact eq_of_beq e
     ·rcases ha' with z | z <;> cases z
   exact ⟨cy,by show [(y,cy)].lookup a=some cy; rw [this,List.lookup_cons,beq_self_eq_true]⟩
  ·match i,h1,h2 with
   | 0,h1,h2=>
    cases h1
    cases h2
    exact ⟨u,ru,.inl ⟨lx,by show List.lookup x [(x,u)]=some u; rw [List.lookup_cons,beq_self_eq_true]⟩⟩
   | 1,h1,h2=>
    cases h1
    cases h2
    refine ⟨uy,ry,.inr ⟨.inr ly,cy,?_,?_⟩⟩
    ·show [(y,cy)].lookup y=some cy
     rw [List.lookup_cons,beq_self_eq_true]
    ·obtain ⟨o,ho,hd⟩:=hc
     exact ⟨o,k1 _ _ ho,hd⟩
   | i + 2,h1,h2=>cases h1
  ·obtain ⟨_,rfl⟩:=Yu (x:=x) h
   obtain ⟨o,ho,hd⟩:=hc
   exact ⟨_,o,k1 _ _ ho,hd⟩
  ·obtain ⟨_,rfl⟩:=Yu (x:=x) h
   exact hn
 exact wpAny_mono (hb [] _ _ H Q I ht) (λu' s' ⟨v',H',J,rv,q'⟩=>⟨v',H',J.os,J.bare,J.base,J.hok,rv,q'⟩) λ_ _ z=>z.elim
structure xx (base:Heap) (mg:Str->Option Value) (c P:Addr):Prop where
 hd:PySem.W.CodeHd base c P
 bm:∃ bm o,mg "__builtins__" = some (.ref bm)/\bm≠builtinsNs/\bm≠mainGlobals/\base.get? bm=some o/\o.cls=.type "module"/\o.dict=some builtinsNs/\o.data=.plain
def qh (q:Str) (c':Addr):HO:=.ext λh=>h.CodeRec (.ref c') q
def zy (P:Addr) (q:Str) (pos:Pos) (H:Hp):Prop:=H P=some (.tbl #[])\/∃ c',H P=some (.tbl #[rawInt pos.line,rawInt pos.col,.ref c'])/\H c'=some (qh q c')
theorem zy.same {P:Addr} {q:Str} {pos:Pos} {H H':Hp} (h:zy P q pos H) (s:zJ H H'):zy P q pos H':=by
 rcases h with h | ⟨c',h1,h2⟩
 ·exact .inl (s _ _ h)
 ·exact .inr ⟨c',s _ _ h1,s _ _ h2⟩
theorem zPi (pos:Pos) (c:Value):codeAmong pos [rawInt pos.line,rawInt pos.col,c]=some c:=by
 have z:=codeAmong_snoc (pos:=pos) (c:=c) [] trivial rfl
 exact z
theorem zLt {X:Cx} {pins:List (Addr × Obj)} {σ:St} {H:Hp} {s:Shared} {params:Arguments} {body:Expr} {scope:Scope} {lpos:Pos} {c P:Addr} {clos:List (Str × Addr)} {R:Value->Shared->Prop} {E:Value->Shared->Prop}
  (hcl:closureFor scope X.env=pure clos) (hdef:defaultsOf params X.env=([],[])) (hcode:X.env.code=.ref c) (T:xx X.base X.mg c P) (I:zD X pins σ H s) (hH:zy P (X.env.qual++"<lambda>") lpos H)
  (h:∀ (q c':Addr) (pm ctv:Value) (H':Hp) (s':Shared),Sh.yk [P] H H'->zy P (X.env.qual++"<lambda>") lpos H'->H' c'=some (qh (X.env.qual++"<lambda>") c')->
   zD X ((q,PySem.W.kla_obj "<lambda>" (X.env.qual++"<lambda>") params body scope clos pm c' ctv) :: pins) σ H' s'->R (.ref q) s') :
  wpAny (model X.prog X.w) X.A (eval (.Lambda params body scope lpos) X.env) R E s:=by
 have hPn:H P≠none:=by
  rcases hH with z | ⟨_,z,_⟩ <;> rw [z] <;> exact λe=>by cases e
 have nP:∀ b o,X.base.get? b=some o->b≠P:=λb o e z=>hPn (by rw [<- z]; exact (I.bs b o e).2)
 obtain ⟨bm,ob,b1,b2,b3,b4,b5⟩:=T.bm
 have hgs:=I.mod.glob.keeps I.bk
 have gP:mainGlobals≠P:=by
  obtain ⟨o,_,_,e,_⟩:=I.mod.glob
  exact nP _ o e
 have hb:s.heap.BuiltinsAt X.mg P:=⟨bm,ob,b1,b2,b3,nP _ _ b4,I.bk _ _ b4,b5⟩
 have C:PySem.W.CodeHd s.heap c P:=T.hd.keeps I.bk
 refine PySem.W.kla_eval hdef ?_
 have fin:∀ (H':Hp) (h':Heap) (tk:Nat) (c':Addr) (ctv:Value),Sh.yk [P] H H'->zy P (X.env.qual++"<lambda>") lpos H'->H' c'=some (qh (X.env.qual++"<lambda>") c')->
   zD X pins σ H' { s with heap:=h',toks:=tk }->R (.ref h'.objs.size) { s with heap:=h'.push (PySem.W.kla_obj "<lambda>" (X.env.qual++"<lambda>") params body scope clos ((X.mg "__name__").getD .none) c' ctv),toks:=tk }:=λH' h' tk c' ctv z1 z2 z3 J=>by
  have J2:zD X pins σ H' { s with heap:=h'.push (PySem.W.kla_obj "<lambda>" (X.env.qual++"<lambda>") params body scope clos ((X.mg "__name__").getD .none) c' ctv),toks:=tk }:=J.kept λb u e=>Heap.get?_push_of_some _ e
  refine h _ c' ((X.mg "__name__").getD .none) ctv H' _ z1 z2 z3 (J2.pins_of λp hp=>?_)
  rcases List.mem_cons.mp hp with rfl | hp
  ·have F:=J.fpOk (b:=h'.objs.size) (Nat.le_refl _) (J.hok.fresh (Nat.le_refl _))
   exact ⟨Heap.get?_push_size _ rfl,F.1,F.2.1,F.2.2.1,λv e=>by cases e⟩
  ·exact J2.pin p (List.mem_append_right _ hp)
 rcases hH with hH | ⟨c',hH,hc'⟩
 ·have hP:s.heap.get? P=some (PySem.W.tabObj #[]):=I.hok P _ hH
  refine PySem.W.kla_makeFunction (mg:=X.mg) hcl I.ok.glob hgs hcode C hP trivial rfl gP hb λc' ctv h' tk hx hge hlt hrec htb=>?_
  have hcP:c'≠P:=λz=>absurd (Heap.lt_size hP) (by rw [<- z]; exact Nat.not_lt.mpr hge)
  have hcn:H c'=none:=I.hok.fresh hge
  have hT:∀ b u,b≠P->b≠c'->(upd (upd H P (.tbl #[rawInt lpos.line,rawInt lpos.col,.ref c'])) c' (qh (X.env.qual++"<lambda>") c') b=u ↔ H b=u):=λb u n1 n2=>by rw [zh n2,zh n1]
  have hTP:upd (upd H P (.tbl #[rawInt lpos.line,rawInt lpos.col,.ref c'])) c' (qh (X.env.qual++"<lambda>") c') P=some (.tbl #[rawInt lpos.line,rawInt lpos.col,.ref c']):=by rw [zh (Ne.symm hcP),xB]
  have ne1:∀ b,H b=none->b≠P:=λb e z=>hPn (by rw [<- z]; exact e)
  have ne2:∀ b o,s.heap.get? b=some o->b≠c':=λb o e=>Nat.ne_of_lt (Nat.lt_of_lt_of_le (Heap.lt_size e) hge)
  have ne3:∀ b u,H b=some u->b≠c':=λb u e z=>by rw [z,hcn] at e; cases e
  have ne4:∀ b u,H b=some u->u≠.tbl #[]->b≠P:=λb u e n z=>by rw [z,hH] at e; cases e; exact n rfl
  refine fin _ h' tk c' ctv ?_ (.inr ⟨c',hTP,xB⟩) xB (I.un (H':=upd (upd H P (.tbl #[rawInt lpos.line,rawInt lpos.col,.ref c'])) c' (qh (X.env.qual++"<lambda>") c')) ⟨λb o e n _ _=>hx b o (ne1 b n) e,λb o e n _ _=>⟨o.slots,hx b o (ne1 b n) e⟩,λb o e n _=>(hT b _ (ne1 b n) (ne2 b o e)).mpr n,λb o e _=>?_,λb xs e=>(hT b _ (ne4 b _ e (by intro z; cases z)) (ne3 b _ e)).mpr e,λb o u e=>(hT b _ (ne4 b _ e (by intro z; cases z)) (ne3 b _ e)).mpr e,λb ps e=>?_⟩ λb u e=>?_)
  ·intro b u e nb
   exact (hT b _ (λz=>nb (by rw [z]; exact List.mem_singleton.mpr rfl)) (ne3 b _ e)).mpr e
  ·by_cases z:b=P
   ·exact ⟨_,by rw [z]; exact htb⟩
   ·exact ⟨o,hx b o z e⟩
  ·by_cases z:b=P
   ·rw [z,hH] at e
    cases e
    exact ⟨_,by rw [z,hTP,Array.empty_append]⟩
   ·exact ⟨#[],by rw [(hT b _ z (ne3 b _ e)).mpr e,Array.append_empty]⟩
  ·by_cases z:b=c'
   ·rw [z,xB] at e
    cases e
    obtain ⟨c2,o,vs,t,e2,ho,hd⟩:=id hrec
    cases e2
    rw [z]
    exact ⟨hrec,⟨o,ho⟩,λh1 h2 ⟨c3,o3,vs3,t3,e3,ho3,hd3⟩ k=>by cases e3; exact ⟨_,o3,vs3,t3,rfl,k _ ho3,hd3⟩⟩
   ·by_cases z2:b=P
    ·rw [z2,hTP] at e
     cases e
     rw [z2]
     exact htb
    ·have e':=(hT b _ z2 z).mp e
     refine (I.hok b u e').stay (λa v ha q=>hx a v ?_ q) (λa q=>(hT a _ (ne4 a _ q (by intro z; cases z)) (ne3 a _ q)).mpr q) λa xs q=>(hT a _ (ne4 a _ q (by intro z; cases z)) (ne3 a _ q)).mpr q
     rcases ha with ha | ha
     ·rw [ha]; exact z2
     ·exact ne4 a _ ha (by intro z; cases z)
 ·have hP:s.heap.get? P=some (PySem.W.tabObj #[rawInt lpos.line,rawInt lpos.col,.ref c']):=I.hok P _ hH
  refine PySem.W.kla_makeFunctionHit (mg:=X.mg) hcl I.ok.glob hgs hcode C hP (by simp [TriplesOk,rawInt]) (zPi lpos _) hb λctv h' tk hk hsz=>?_
  exact fin H h' tk c' ctv (Sh.yk.refl _ _) (.inr ⟨c',hH,hc'⟩) hc' (I.kept hk)
abbrev k7 (X:Cx) (σ:St) (H:Hp) (q:Addr) (qo:Obj) (ns:List Int) (kf:Int->Int):Prop:=
 ∀ n∈ns,∀ (t:Tok) (pins:List (Addr × Obj)) (s:Shared),(q,qo)∈pins->zD X pins σ H s->
  wpAny (model X.prog X.w) X.A.in1 (call (.ref q) [.int n t]) (λu s'=>(∃ t',u=.int (kf n) t')/\zD X pins σ H s') (λ_ _=>False) s
section
variable {X:Cx} {σ:St} {H:Hp} {pins:List (Addr × Obj)} {q l It S:Addr} {qo:Obj} {ns:List Int} {kf:Int->Int} {R:Result->Shared->Prop}
theorem K5 {s:Shared} {oI oS:Obj} (I:zD X pins σ H s) (FI:zv X pins H It) (FS:zv X pins H S) (hI:s.heap.get? It=some oI) (dI:∀ v,oI.data≠.cell v) (hS:s.heap.get? S=some oS) (dS:∀ v,oS.data≠.cell v):zD X ((It,oI) :: (S,oS) :: pins) σ H s:=
 I.pins_of λp hp=>by
  rcases List.mem_cons.mp hp with rfl | hp
  ·exact ⟨hI,FI.1,FI.2.1,FI.2.2.1,dI⟩
  ·rcases List.mem_cons.mp hp with rfl | hp
   ·exact ⟨hS,FS.1,FS.2.1,FS.2.2.1,dS⟩
   ·exact I.pin p (List.mem_append_right _ hp)
theorem K6 {s:Shared} {a b:Addr × Obj} (I:zD X (a :: b :: pins) σ H s):zD X pins σ H s:=I.pins_of λp hp=>I.pin p (List.mem_append_right _ (.tail _ (.tail _ hp)))
theorem zJ7 (hc:X.calm=true) (hl:zV X.K H l (ns.map V.int)) (hlI:l≠It) (hSI:S≠It) (FI:zv X pins H It) (FS:zv X pins H S) (hq:(q,qo)∈pins) (turn:k7 X σ H q qo ns kf)
  (hR:∀ n∈ns,(∀ m∈ns,kf n<=kf m)->∀ t s',zD X pins σ H s'->R (.ok (.ret (.int n t))) s') :
  ∀ (r j:Nat) (n:Int) (tn tb:Tok) (c:Nat) (s:Shared),ns.length - j=r->j<=ns.length->n∈ns->(∀ i m,i < j->ns[i]? = some m->kf n<=kf m)->zD X pins σ H s->s.heap.IsListIter It l j->s.heap.get? S=some (seqObj "list" #[.int n tn,.int (kf n) tb] c)->
   codeAny (model X.prog X.w) X.A (.builtin "min.loop" ⟨[.ref It,.ref q,.ref S],[(Str.ofString "default",.none)]⟩) R s:=by
 have hname:(toString "min"++toString ".loop" : String) = "min.loop":=by decide
 intro r
 induction r with
 | zero=>
  intro j n tn tb c s hr hj hn hbest I hit hS
  obtain ⟨its,rv,pl,hz⟩:=I.list hl
  have hsz:its.toArray.size=ns.length:=by rw [List.size_toArray,<- rv.length,List.length_map]
  have W:=Walks.list (prog:=X.prog) (w:=X.w) (A:=X.A.in1) (I.ok.hd hc) It l hlI its.toArray
  refine codeAny_builtin PySem.F.entry_min_loop ?_
  rw [Around.under_plainId PySem.F.plain_min_loop _]
  show wpAny _ X.A.in1 (seqItems? (.ref S) >>= _) _ _ _
  refine wpAny_bind (wpAny_seqItems hS rfl ?_)
  show wpAny _ X.A.in1 (tryCatch (pyNext (.ref It)) _ >>= _) _ _ _
  refine wpAny_bind (wpAny_tryCatch (W.done _ _ _ ⟨by rw [hsz,show ns.length=j by omega]; exact hit,pl.isList⟩ λh' tk' hk'=>?_))
  have I1:zD X pins σ H { s with heap:=h',toks:=tk' }:=I.turned (it:=It) (λb o hb e=>hk' b o (by simpa using hb) e) FI.1 FI.2.1 FI.2.2.2.1 FI.2.2.2.2.1 FI.2.2.2.2.2
  have hS':h'.get? S=_:=hk' S _ (by simpa using hSI) hS
  have s1:=Heap.SameBut.update h' S (Obj.mapSeq λ_=>(#[]:Array Value))
  show wpAny _ X.A.in1 (updateSeq S (λ_=>#[]) >>= _) _ _ _
  refine wpAny_bind ?_
  refine wpAny_updateSeq hS' rfl (wpAny_bind (wpAny_letGo (wpAny_pure ?_)))
  exact hR n hn (λm hm=>by
   obtain ⟨i,hi,e⟩:=List.getElem_of_mem hm
   exact hbest i m (by omega) (by rw [<- e]; exact List.getElem?_eq_getElem hi)) tn _ (I1.turned (it:=S) (λb o hb e=>(s1.2 b hb).trans e) FS.1 FS.2.1 FS.2.2.2.1 FS.2.2.2.2.1 FS.2.2.2.2.2)
 | succ r ih=>
  intro j n tn tb c s hr hj hn hbest I hit hS
  obtain ⟨its,rv,pl,hz⟩:=I.list hl
  have hsz:its.toArray.size=ns.length:=by rw [List.size_toArray,<- rv.length,List.length_map]
  have hlt:j < ns.length:=by omega
  have W:=Walks.list (prog:=X.prog) (w:=X.w) (A:=X.A.in1) (I.ok.hd hc) It l hlI its.toArray
  refine codeAny_builtin PySem.F.entry_min_loop ?_
  rw [Around.under_plainId PySem.F.plain_min_loop _]
  show wpAny _ X.A.in1 (seqItems? (.ref S) >>= _) _ _ _
  refine wpAny_bind (wpAny_seqItems hS rfl ?_)
  show wpAny _ X.A.in1 (tryCatch (pyNext (.ref It)) _ >>= _) _ _ _
  refine wpAny_bind (wpAny_tryCatch (W.item j _ _ _ (by rw [hsz]; exact hlt) ⟨hit,pl.isList⟩ λv h' tk' hP hst' hk'=>?_))
  have em:ns[j]? = some (ns[j]'hlt):=List.getElem?_eq_getElem hlt
  generalize ns[j]'hlt=m at em
  obtain ⟨w',ew,t,rfl⟩:=rv.get (show (ns.map V.int)[j]? = some (.int m) by rw [List.getElem?_map,em]; rfl)
  obtain rfl:v=.int m t:=by
   have:its[j]? = some v:=by simpa using hP
   rw [ew] at this
   exact (Option.some.inj this).symm
  have hm:m∈ns:=List.mem_of_getElem? em
  have I1:zD X pins σ H { s with heap:=h',toks:=tk' }:=I.turned (it:=It) (λb o hb e=>hk' b o (by simpa using hb) e) FI.1 FI.2.1 FI.2.2.2.1 FI.2.2.2.2.1 FI.2.2.2.2.2
  obtain ⟨oI',hoI',hoc,hod⟩:=id hst'.1
  have J:=K5 I1 FI FS hoI' (λv e=>by rw [hod] at e; cases e) (hk' S _ (by simpa using hSI) hS) (λv e=>by cases e)
  show wpAny _ X.A.in1 (tryCatch (holding [.int m t] (call (.ref q) [.int m t])) _ >>= _) _ _ _
  refine wpAny_bind (wpAny_tryCatch (wpAny_holding (wpAny_mono (turn m hm t _ _ (.tail _ (.tail _ hq)) J) (λx s2 he=>?_) λ_ _ hF=>hF.elim)))
  obtain ⟨⟨t2,rfl⟩,J2⟩:=he
  have nI2:=(J2.pin _ (List.mem_append_right _ (.head _))).1
  have nS2:=(J2.pin _ (List.mem_append_right _ (.tail _ (.head _)))).1
  have J3:=K6 J2
  have hit2:s2.heap.IsListIter It l (j + 1):=⟨oI',nI2,hoc,hod⟩
  show wpAny _ X.A.in1 (tryCatch (holding [.int m t,.int (kf m) t2] (richCompare .Lt (.int (kf m) t2) (.int (kf n) tb) >>= _)) _ >>= _) _ _ _
  refine wpAny_bind (wpAny_tryCatch (wpAny_holding (wpAny_bind (CmpOf.ints_lt (prog:=X.prog) (w:=X.w) (A:=X.A.in1) (P:=λi v=>∃ t,v=.int (if i=0 then kf m else kf n) t) (λi=>if i=0 then kf m else kf n) (λi v h=>h) 0 1 _ _ _ _ _ ⟨t2,rfl⟩ ⟨tb,rfl⟩ ?_))))
  refine wpAny_bind (wpAny_holding (wpAny_truthy_bool ?_))
  refine wpAny_bind (wpAny_letGo (wpAny_pure ?_))
  show wpAny _ X.A.in1 (if decide (kf m < kf n)=true then _ else _) _ _ _
  by_cases hb':kf m < kf n
  ·have s1:=Heap.SameBut.update s2.heap S (Obj.mapSeq λ_=>#[Value.int m t,.int (kf m) t2])
   obtain ⟨c2,hc2⟩:∃ c2,(s2.heap.update S (Obj.mapSeq λ_=>#[Value.int m t,.int (kf m) t2])).get? S=some (seqObj "list" #[.int m t,.int (kf m) t2] c2):=⟨_,get?_update_seq nS2 λ_=>#[Value.int m t,.int (kf m) t2]⟩
   rw [if_pos (decide_eq_true hb')]
   refine wpAny_bind ?_
   refine wpAny_updateSeq nS2 rfl (wpAny_bind (wpAny_letGo ?_))
   rw [hname]
   refine wpAny_pure ⟨plainId_quiet PySem.F.plain_min_loop _,ih (j + 1) m t t2 c2 _ (by omega) hlt hm (λi m' hi em'=>?_) (J3.turned (it:=S) (λb o hb e=>(s1.2 b hb).trans e) FS.1 FS.2.1 FS.2.2.2.1 FS.2.2.2.2.1 FS.2.2.2.2.2) ⟨oI',(s1.2 It hSI.symm).trans nI2,hoc,hod⟩ hc2⟩
   by_cases e:i=j
   ·rw [e,em] at em'
    cases em'
    exact Int.le_refl _
   ·have:=hbest i m' (by omega) em'
    omega
  ·rw [if_neg (by rw [decide_eq_false hb']; exact Bool.false_ne_true)]
   refine wpAny_bind (wpAny_letGo ?_)
   rw [hname]
   refine wpAny_pure ⟨plainId_quiet PySem.F.plain_min_loop _,ih (j + 1) n tn tb c _ (by omega) hlt hn (λi m' hi em'=>?_) J3 hit2 nS2⟩
   by_cases e:i=j
   ·rw [e,em] at em'
    cases em'
    omega
   ·exact hbest i m' (by omega) em'
theorem zLq (a v d:Value):argsOk "min" ⟨[a],[(Str.ofString "key",v),(Str.ofString "default",d)]⟩:=by unfold argsOk; kernel_rfl
theorem zNY {s:Shared} {Q:Value->Shared->Prop} {E:Value->Shared->Prop} (hc:X.calm=true) (I:zD X pins σ H s) (hl:zV X.K H l (ns.map V.int)) (hq:(q,qo)∈pins) (turn:k7 X σ H q qo ns kf)
  (h0:ns=[]->∀ s',zD X pins σ H s'->Q .none s') (h1:∀ n∈ns,(∀ m∈ns,kf n<=kf m)->∀ t s',zD X pins σ H s'->Q (.int n t) s') :
  wpAny (model X.prog X.w) X.A (call (.builtin "min") [.ref l] [(Str.ofString "key",.ref q),(Str.ofString "default",.none)]) Q E s:=by
 have hname:(toString "min"++toString ".loop" : String) = "min.loop":=by decide
 obtain ⟨its,rv,pl,hz⟩:=I.list hl
 have hls:=pl.isList
 obtain ⟨ol,hol,_⟩:=id hls
 have hll:l < s.heap.objs.size:=Heap.lt_size hol
 refine PyProof.Rows.kmk_tree PySem.F.kind_min PySem.F.plain_min PySem.F.entry_min (zLq _ _ _) ?_
 show wpAny _ X.A.in1 (Builtin.Builtins.bindParams "min" ["key","default"] 0 ⟨[],[(Str.ofString "key",.ref q),(Str.ofString "default",.none)]⟩ >>= _) _ _ s
 refine wpAny_bind (wpAny_of_eq (show Builtin.Builtins.bindParams "min" ["key","default"] 0 ⟨[],[(Str.ofString "key",.ref q),(Str.ofString "default",.none)]⟩=pure [some (.ref q),some .none] from rfl) ?_)
 refine wpAny_bind (wpAny_pure ?_)
 refine wpAny_bind (wpAny_pyIter_list hls ?_)
 refine wpAny_bind (wpAny_newList ?_ (Nat.zero_le _))
 rw [hname]
 have I1:zD X pins σ H { s with heap:=s.heap.push { cls:=.type "list_iterator",data:=.fields #[.ref l,.int 0 0] } }:=I.kept (t':=s.toks) λb u e=>Heap.get?_push_of_some _ e
 have FI:zv X pins H s.heap.objs.size:=I.fpOk (Nat.le_refl _) (I.hok.fresh (Nat.le_refl _))
 have FS:zv X pins H (s.heap.push { cls:=.type "list_iterator",data:=.fields #[.ref l,.int 0 0] }).objs.size:=I1.fpOk (Nat.le_refl _) (I1.hok.fresh (Nat.le_refl _))
 have I2:zD X pins σ H { s with heap:=(s.heap.push { cls:=.type "list_iterator",data:=.fields #[.ref l,.int 0 0] }).push (seqObj "list" #[] 0) }:=I1.kept (t':=s.toks) λb u e=>Heap.get?_push_of_some _ e
 have gI:((s.heap.push { cls:=.type "list_iterator",data:=.fields #[.ref l,.int 0 0] }).push (seqObj "list" #[] 0)).get? s.heap.objs.size=some { cls:=.type "list_iterator",data:=.fields #[.ref l,.int 0 0] }:=
  Heap.get?_push_of_some _ (Heap.get?_push_size _ rfl)
 have gS:((s.heap.push { cls:=.type "list_iterator",data:=.fields #[.ref l,.int 0 0] }).push (seqObj "list" #[] 0)).get? (s.heap.push { cls:=.type "list_iterator",data:=.fields #[.ref l,.int 0 0] }).objs.size=some (seqObj "list" #[] 0):=Heap.get?_push_size _ rfl
 have hS:(s.heap.push { cls:=.type "list_iterator",data:=.fields #[.ref l,.int 0 0] }).objs.size=s.heap.objs.size + 1:=size_push' ..
 have hlI:l≠s.heap.objs.size:=Nat.ne_of_lt hll
 have hSI:(s.heap.push { cls:=.type "list_iterator",data:=.fields #[.ref l,.int 0 0] }).objs.size≠s.heap.objs.size:=by rw [hS]; exact Nat.ne_of_gt (Nat.lt_succ_self _)
 refine wpAny_pure ⟨plainId_quiet PySem.F.plain_min_loop _,?_⟩
 generalize (s.heap.push { cls:=.type "list_iterator",data:=.fields #[.ref l,.int 0 0] }).objs.size=S at FS gS hS hSI |-
 generalize s.heap.objs.size=It at FI gI hlI hSI |-
 have hit:((s.heap.push { cls:=.type "list_iterator",data:=.fields #[.ref l,.int 0 0] }).push (seqObj "list" #[] 0)).IsListIter It l 0:=⟨_,gI,rfl,rfl⟩
 generalize (s.heap.push { cls:=.type "list_iterator",data:=.fields #[.ref l,.int 0 0] }).push (seqObj "list" #[] 0)=g at I2 gI gS hit |-
 obtain ⟨its,rv,pl,hz⟩:=I2.list hl
 have hsz:its.toArray.size=ns.length:=by rw [List.size_toArray,<- rv.length,List.length_map]
 have W:=Walks.list (prog:=X.prog) (w:=X.w) (A:=X.A.in1) (I.ok.hd hc) It l hlI its.toArray
 refine codeAny_builtin PySem.F.entry_min_loop ?_
 rw [Around.under_plainId PySem.F.plain_min_loop _]
 show wpAny _ X.A.in1 (seqItems? (.ref _) >>= _) _ _ _
 refine wpAny_bind (wpAny_seqItems gS rfl ?_)
 show wpAny _ X.A.in1 (tryCatch (pyNext (.ref It)) _ >>= _) _ _ _
 by_cases hne:0 < ns.length
 ·refine wpAny_bind (wpAny_tryCatch (W.item 0 _ _ _ (by rw [hsz]; exact hne) ⟨hit,pl.isList⟩ λv h' tk' hP hst' hk'=>?_))
  have em:ns[0]? = some (ns[0]'hne):=List.getElem?_eq_getElem hne
  generalize ns[0]'hne=m at em
  obtain ⟨w',ew,t,rfl⟩:=rv.get (show (ns.map V.int)[0]? = some (.int m) by rw [List.getElem?_map,em]; rfl)
  obtain rfl:v=.int m t:=by
   have:its[0]? = some v:=by simpa using hP
   rw [ew] at this
   exact (Option.some.inj this).symm
  have hm:m∈ns:=List.mem_of_getElem? em
  have I3:zD X pins σ H { s with heap:=h',toks:=tk' }:=zD.turned (s:={ s with heap:=g }) (h':=h') (t':=tk') I2 (it:=It) (λb o hb e=>hk' b o (by simpa using hb) e) FI.1 FI.2.1 FI.2.2.2.1 FI.2.2.2.2.1 FI.2.2.2.2.2
  obtain ⟨oI',hoI',hoc,hod⟩:=id hst'.1
  have J:=K5 I3 FI FS hoI' (λv e=>by rw [hod] at e; cases e) (hk' S _ (by simpa using hSI) gS) (λv e=>by cases e)
  show wpAny _ X.A.in1 (tryCatch (holding [.int m t] (call (.ref q) [.int m t])) _ >>= _) _ _ _
  refine wpAny_bind (wpAny_tryCatch (wpAny_holding (wpAny_mono (turn m hm t _ _ (.tail _ (.tail _ hq)) J) (λx s2 he=>?_) λ_ _ hF=>hF.elim)))
  obtain ⟨⟨t2,rfl⟩,J2⟩:=he
  have nI2:=(J2.pin _ (List.mem_append_right _ (.head _))).1
  have nS2:=(J2.pin _ (List.mem_append_right _ (.tail _ (.head _)))).1
  have J3:=K6 J2
  have s1:=Heap.SameBut.update s2.heap S (Obj.mapSeq λ_=>#[Value.int m t,.int (kf m) t2])
  obtain ⟨c2,hc2⟩:∃ c2,(s2.heap.update S (Obj.mapSeq λ_=>#[Value.int m t,.int (kf m) t2])).get? S=some (seqObj "list" #[.int m t,.int (kf m) t2] c2):=⟨_,get?_update_seq nS2 λ_=>#[Value.int m t,.int (kf m) t2]⟩
  show wpAny _ X.A.in1 (updateSeq S (λ_=>#[.int m t,.int (kf m) t2]) >>= _) _ _ _
  refine wpAny_bind ?_
  refine wpAny_updateSeq nS2 rfl ?_
  rw [hname]
  refine wpAny_pure ⟨plainId_quiet PySem.F.plain_min_loop _,zJ7 hc hl hlI hSI FI FS hq turn h1 _ 1 m t t2 c2 _ rfl hne hm (λi m' hi em'=>?_) (J3.turned (it:=S) (λb o hb e=>(s1.2 b hb).trans e) FS.1 FS.2.1 FS.2.2.2.1 FS.2.2.2.2.1 FS.2.2.2.2.2) ⟨oI',(s1.2 It hSI.symm).trans nI2,hoc,hod⟩ hc2⟩
  rw [show i=0 by omega,em] at em'
  cases em'
  exact Int.le_refl _
 ·have hn0:ns=[]:=List.length_eq_zero_iff.mp (by omega)
  refine wpAny_bind (wpAny_tryCatch (W.done _ _ _ ⟨by rw [hsz,show ns.length=0 by omega]; exact hit,pl.isList⟩ λh' tk' hk'=>?_))
  refine wpAny_bind (wpAny_rule (wpAny_pure ?_))
  exact h0 hn0 _ (I2.turned (it:=It) (λb o hb e=>hk' b o (by simpa using hb) e) FI.1 FI.2.1 FI.2.2.2.1 FI.2.2.2.2.1 FI.2.2.2.2.2)
end
theorem zy.ne {P:Addr} {q:Str} {pos:Pos} {H H':Hp} (h:zy P q pos H) (s:Sh.yk [P] H H') {a:Addr} {o:HO} (e:H a=some o) (n:∀ ps,o≠.tbl ps):H' a=some o:=s a o e λz=>by
 rw [List.mem_singleton.mp z] at e
 rcases h with h | ⟨_,h,_⟩ <;> rw [h] at e <;> cases e <;> exact n _ rfl
theorem zy.list {P:Addr} {q:Str} {pos:Pos} {H H':Hp} {K:PySem.W.Frag} {a:Addr} {xs:List V} (h:zy P q pos H) (s:Sh.yk [P] H H') (e:zV K H a xs):zV K H' a xs:=by
 rcases e with (e | ⟨o,e⟩) | e
 ·exact .inl (.inl (h.ne s e λ_ z=>by cases z))
 ·exact .inl (.inr ⟨o,h.ne s e λ_ z=>by cases z⟩)
 ·exact .inr e
def UH (K:PySem.W.Frag) (P:Addr) (qual:Str) (pos:Pos) (te:TE) (iy:Nat):TE:=λσ H Q=>te σ H λx H1=>∃ (l ca:Addr) (ns cs:List Int),x=.ref l/\σ[iy]? = some (some (.ref ca))/\zV K H1 l (ns.map V.int)/\zV K H1 ca (cs.map V.int)/\(∀ n∈ns,0<=n/\n < cs.length)/\zy P qual pos H1∧
 ∀ H2,Sh.yk [P] H1 H2->zy P qual pos H2->(ns=[]->Q .non H2)/\∀ n∈ns,(∀ m∈ns,cs.getD n.toNat 0<=cs.getD m.toNat 0)->Q (.int n) H2
theorem zJg {X:Cx} {e:Expr} {te:TE} {p pos kp kp2 lpos yp xp bp dp:Pos} {zk} {x y:Str} {params:Arguments} {scope:Scope} {cy c P:Addr} {iy:Nat} (T:xx X.base X.mg c P) (he:PE X e te) (hc:X.calm=true) (hr:zZ 2 X.A) (hg:Gl X "min") (hm:X.mg "min" = none) (hv:bootBuiltins "min" = some (.builtin "min"))
  (hcode:X.env.code=.ref c) (hN:X.N[iy]? = some y) (hky:X.env.kindOf y=some .cell) (hcl:closureFor scope X.env=pure [(y,cy)]) (hcy:X.env.cells.lookup y=some cy) (hdef:defaultsOf params X.env=([],[]))
  (hsc:scope.names=[(x,.local),(y,.free)]) (hxy:x≠y) (hk:scope.kind=.function) (hco:scope.isCoroutine=false) (hgen:scope.isGenerator=false)
  (hbind:∀ (pm ctv u:Value) (c':Addr),bindArgs (PySem.W.kla_fn "<lambda>" (X.env.qual++"<lambda>") params (.Subscript (.Name y yp) (.Name x xp) bp) scope [(y,cy)] pm (.ref c') ctv) ⟨[u],[]⟩=pure [(x,u)])
  (hdx:(x == ("__debug__" : Str))=false) (hdx2:(x == ("__classdict__" : Str))=false) (hdy:(y == ("__debug__" : Str))=false) (hdy2:(y == ("__classdict__" : Str))=false)
  (hs:starEach [e] X.env=(false,eval e X.env) :: starEach [] X.env:=by rfl) :
  PE X (.Call (.Name "min" p) [e] [⟨some "key",.Lambda params (.Subscript (.Name y yp) (.Name x xp) bp) scope lpos,kp⟩,⟨some "default",.Constant .none zk dp,kp2⟩] pos) (UH X.K P (X.env.qual++"<lambda>") lpos te iy):=by
 intro pins s σ H Q I h
 have lx:scope.names.lookup x=some .local:=by rw [hsc,List.lookup_cons,beq_self_eq_true]
 have ly:scope.names.lookup y=some .free:=by
  rw [hsc,List.lookup_cons,(by simpa using hxy.symm:(y == x)=false),List.lookup_cons,beq_self_eq_true]
 refine wpAny_Call_Name_kw (ux I hg hm hv ?_ (by decide) (by decide))
 refine PyProof.Rows.callWith_kw (zb ((yI he yn hs) pos pins s σ H (λvs H1=>∃ (l ca:Addr) (ns cs:List Int),vs=[.ref l]/\σ[iy]? = some (some (.ref ca))/\zV X.K H1 l (ns.map V.int)/\zV X.K H1 ca (cs.map V.int)/\(∀ n∈ns,0<=n/\n < cs.length)/\zy P (X.env.qual++"<lambda>") lpos H1∧
  ∀ H2,Sh.yk [P] H1 H2->zy P (X.env.qual++"<lambda>") lpos H2->(ns=[]->Q .non H2)/\∀ n∈ns,(∀ m∈ns,cs.getD n.toNat 0<=cs.getD m.toNat 0)->Q (.int n) H2) I ?h) λus s1 ⟨vs,H1,I1,r,l,ca,ns,cs,e1,hσ,hl,hca,hb,hT,q⟩=>?_) (by rw [hs]; rfl) (by rw [hs]; rfl)
 case h=>
  have z:UH X.K P (X.env.qual++"<lambda>") lpos te iy σ H Q=te σ H λx H1=>∃ (l ca:Addr) (ns cs:List Int),[x]=[.ref l]/\σ[iy]? = some (some (.ref ca))/\zV X.K H1 l (ns.map V.int)/\zV X.K H1 ca (cs.map V.int)/\(∀ n∈ns,0<=n/\n < cs.length)/\zy P (X.env.qual++"<lambda>") lpos H1∧
    ∀ H2,Sh.yk [P] H1 H2->zy P (X.env.qual++"<lambda>") lpos H2->(ns=[]->Q .non H2)/\∀ n∈ns,(∀ m∈ns,cs.getD n.toNat 0<=cs.getD m.toNat 0)->Q (.int n) H2:=by
   unfold UH
   simp only [List.cons.injEq,and_true]
  exact cast z h
 subst e1
 obtain ⟨u,rfl,ru⟩:=vG r
 obtain rfl:u=.ref l:=ru
 refine PyProof.Rows.kws_cons (zLt hcl hdef hcode T I1 hT λf c' pm ctv H' s' o1 hT' hc' J=>?_)
 refine PyProof.Rows.kws_cons (zb (Jt _ _ _ _ (λv H2=>v=.non/\H2=H') J ⟨rfl,rfl⟩) λu s2 ⟨v,H2,J2,rv,ev,eH⟩=>PyProof.Rows.kws_nil ?_)
 subst ev eH
 obtain rfl:u=.none:=rv
 have hl':=hT.list o1 hl
 have hca':=hT.list o1 hca
 obtain ⟨q0,q1⟩:=q _ o1 hT'
 have drop:∀ s',zD X ((f,PySem.W.kla_obj "<lambda>" (X.env.qual++"<lambda>") params (.Subscript (.Name y yp) (.Name x xp) bp) scope [(y,cy)] pm c' ctv) :: pins) σ H2 s'->zD X pins σ H2 s':=λs' J=>J.pins_of λp hp=>J.pin p (List.mem_append_right _ (.tail _ hp))
 refine zNY (kf:=λn=>cs.getD n.toNat 0) hc J2 hl' (.head _) (λn hn t pins' s3 hq3 J3=>?_) (λz s3 J3=>⟨.non,H2,drop _ J3,rfl,q0 z⟩) λn hn hmin t s3 J3=>⟨.int n,H2,drop _ J3,⟨_,rfl⟩,q1 n hn hmin⟩
 obtain ⟨m,hns,hlo⟩:=J3.loc
 obtain ⟨uy,ry,lk⟩:=hlo iy y (.ref ca) hN hσ (.inr (.inl hky))
 have hcell:s3.heap.IsCell cy (some uy):=by
  rcases lk with ⟨k,_⟩ | ⟨_,c2,e2,z⟩
  ·rw [hky] at k; cases k
  ·rw [hcy] at e2; cases e2; exact z
 have hcd:s3.heap.CodeRec (.ref c') (X.env.qual++"<lambda>"):=(J3.hok c' _ hc').1
 have bn:=hb n hn
 refine wpAny_mono (zNa (k:=0) (v:=.int n) (vy:=.ref ca) (t:=qI (gW X.K) (uG 1) (uG 0)) (Q:=λv H3=>v=.int (cs.getD n.toNat 0)/\H3=H2) hsc hxy hk hco hgen hr.in1 J3.env0.in1 (J3.pin _ (List.mem_append_right _ hq3)).1 hcd (hbind pm ctv _ c') hcell (J3.freeC y cy hcy) ⟨t,rfl⟩ ry
  (QX QY (pv 1 rfl (.inr (.inr ly)) hdy hdy2) (pv 0 rfl (.inl lx) hdx hdx2) λ_ _=>rfl) ?_) (λu s4 hce=>?_) λ_ _ z=>z
 ·refine ⟨_,rfl,_,rfl,ca,_,n,_,rfl,rfl,hca',?_,rfl,rfl⟩
  rw [show n=((n.toNat:Nat):Int) by omega]
  refine zN0 ?_
  rw [List.getElem?_map,Int.toNat_natCast,List.getD_eq_getElem?_getD,List.getElem?_eq_getElem (by omega)]
  rfl
 ·obtain ⟨v,H4,J4,rv4,ev,eH⟩:=J3.after hce
  subst ev eH
  obtain ⟨t',rfl⟩:=rv4
  exact ⟨⟨t',rfl⟩,J4⟩
end L2
namespace L2
open PySem PySem.Spec PyProof.Rows
section
variable {P:Program} {w:World} {K:PySem.W.Frag} {mg:Str->Option Value} {base:Heap}
theorem ze.okC {x qual:Str} {st:Stmt} {f c:Addr} {fd:FuncData} {N ps:List Str} {k:Nat} {sp:Sp} (F:ze K x qual st f fd) (hc:fd.code=.ref c) (S:zc N ps (zL st)) (len:∀ vs H Q E,sp vs H Q E->vs.length=ps.length)
  (hbody:∀ (A:Around) (outer:List Env) (s:Shared) (H:Hp) (vs:List V) (Q:VK) (E:XK),zZ k (A.deeper (envOfC qual (zL st) s.heap.objs.size f (.ref c)))->sp vs H Q E->
   ∃ t,yj (y6 zU P w K mg base N qual (zL st) f (.ref c) A outer s H E).nox (y8 st) t/\t { nx:=λ_ H'=>Q .non H',rt:=Q } (wQ N vs) H):zF P w K mg base zU (k + 1) f fd ps sp:=by
 obtain ⟨oc,od,kV,doc,pm,an,cdv,ct,osl,rfl,lk,hcd⟩:=F.ex
 obtain rfl:cdv=.ref c:=hc
 refine WA lk hcd S len λA outer s H vs Q E hr hsp=>?_
 obtain ⟨t,h,q⟩:=hbody A outer s H vs Q E hr hsp
 exact ⟨t,h.nox,q⟩
def UI (Pt:Addr) (H:Hp):Prop:=H Pt=some (.tbl #[])/\∀ b,b≠Pt->H b=none\/∃ o xs,H b=some (.frz o (.lst xs))
theorem zKA {mb:Str->Option Value} {CX:wY} {k:Nat} {fa a c Pt:Addr} {fd:FuncData} {x:Str} {sp:Sp} {s₁:Shared} {vs:List Value} {ns:List Int}
  (C:PySem.W.CodeHd s₁.heap c Pt) (hP:s₁.heap.get? Pt=some (PySem.W.tabObj #[])) (hKP:K.lookup Pt=none)
  (bm:∃ bm ob,mg "__builtins__" = some (.ref bm)/\bm≠builtinsNs/\s₁.heap.get? bm=some ob/\ob.cls=.type "module"/\ob.dict=some builtinsNs/\ob.data=.plain)
  (KX:K.In s₁.heap) (hns:s₁.heap.Ns mainGlobals mg) (hb:s₁.heap.Ns builtinsNs mb) (hbb:∀ x:Str,x≠"__name__"->mb x=bootBuiltins x) (hlim:s₁.heap.NoLimit) (hg:s₁.gens=#[])
  (ha:s₁.heap.get? a=some { cls:=.type "list",data:=.seq vs.toArray }) (hi:IntsAre vs ns) (hl:ns.length<=sizeLine) (hr:zZ k callerA)
  (F:∀ base:Heap,K.In base->base.Ns mainGlobals mg->xx base mg c Pt->zF P w K mg base CX k fa fd [x] sp) (hbind:∀ (s:Shared) (u:Value),BindsTo s fd ⟨[u],[]⟩ [(x,u)])
  (hsp:∀ H:Hp,UI Pt H->zV K H a (ns.map V.int)->sp [.ref a] H (λv _=>v=.bl true) λ_ _ _=>False)
  (hCX:∀ H e s',CX [] H s₁ (λ_ _ _=>False) e s'->False) :
  codeAny (model P w) callerA (.call (.ref fa) ⟨[.ref a],[]⟩) (λr s'=>r=.ok (.ret (.bool true))/\OldK s₁.heap s'.heap/\s'.os=s₁.os/\AllBare s'.gens) s₁:=by
 have rv:=Qd hi
 have lenV:=hi.length
 have aP:a≠Pt:=λz=>by rw [z,hP] at ha; cases ha
 have core:∀ H:Hp,UI Pt H->zV K H a (ns.map V.int)->yh P w H s₁.heap->(∀ b,b≠Pt->H b≠none->b=a)->(H a≠none->K.lookup a=none)->
   codeAny (model P w) callerA (.call (.ref fa) ⟨[.ref a],[]⟩) (λr s'=>r=.ok (.ret (.bool true))/\OldK s₁.heap s'.heap/\s'.os=s₁.os/\AllBare s'.gens) s₁:=by
  intro H hO hS hok hA hK
  have bo:∀ {b:Addr} {o:Obj},s₁.heap.get? b=some o->H b=none->(xR s₁.heap H).get? b=some o:=λe n=>zLy e n
  have noA:∀ {b:Addr} {o:Obj},s₁.heap.get? b=some o->(∀ z n,o.data≠.seq z n)->(∀ z,o.data≠.fields z)->H b=none:=λ{b o} e d1 d2=>by
   by_cases z:b=Pt
   ·rw [z,hP] at e; cases e; exact absurd rfl (d2 _)
   cases q:H b with
   | none=>rfl
   | some u=>
    have e':b=a:=hA b z (by rw [q]; exact λz=>by cases z)
    rw [e',ha] at e
    cases e
    exact absurd rfl (d1 _ _)
  have nsK:∀ {b:Addr} {m:Str->Option Value},s₁.heap.Ns b m->(xR s₁.heap H).Ns b m:=λ{b m} ⟨o,es,ep,e,d,r⟩=>⟨o,es,ep,bo e (noA e (λz n q=>by rw [d] at q; cases q) λz q=>by rw [d] at q; cases q),d,r⟩
  have hKb:K.In (xR s₁.heap H):=λb o e=>bo (KX b o e) (by
   cases q:H b with
   | none=>rfl
   | some u=>
    by_cases z:b=Pt
    ·rw [z,hKP] at e; cases e
    have e':b=a:=hA b z (by rw [q]; exact λz=>by cases z)
    subst e'
    rw [hK (by rw [q]; exact λz=>by cases z)] at e; cases e)
  have hM:Mod K mg (xR s₁.heap H):=⟨hKb,nsK hns,⟨mb,nsK hb,hbb⟩,let ⟨mc,h1,h2⟩:=hlim; ⟨mc,nsK h1,h2⟩⟩
  have hTB:xx (xR s₁.heap H) mg c Pt:=by
   obtain ⟨o,v0,file,tf,flags,tg,inF,text,tt,e1,r1,r2,r3,r4,r5,r6,r7,r8,hne⟩:=C
   obtain ⟨bm,ob,b1,b2,b3,b4,b5,b6⟩:=bm
   refine ⟨⟨o,v0,file,tf,flags,tg,inF,text,tt,bo e1 ?_,r1,r2,r3,r4,r5,r6,r7,r8,hne⟩,bm,ob,b1,b2,λz=>?_,bo b3 (noA b3 (λz n q=>by rw [b6] at q; cases q) λz q=>by rw [b6] at q; cases q),b4,b5,b6⟩
   ·cases q:H c with
    | none=>rfl
    | some u=>
     have e':c=a:=hA c hne (by rw [q]; exact λz=>by cases z)
     rw [e',ha] at e1
     cases e1
     cases r2
   ·obtain ⟨o2,es,ep,q1,q2,_⟩:=hns
    rw [z,q1] at b3
    cases b3
    rw [q2] at b6
    cases b6
  have e0:xG P w K mg (xR s₁.heap H) callerA [] s₁ H:=⟨rfl,hM,λb o e=>zNX e,Nat.le_of_eq (zKG _ _),trivial,λb hb=>absurd (show b∈([]:List Addr) from hb) (by simp),hok,.of_eq hg⟩
  refine codeAny_mono ((F _ hKb (nsK hns) hTB).run callerA [] s₁ H ⟨[.ref a],[]⟩ [.ref a] [.ref a] _ _ hr e0 (hbind s₁ (.ref a)) (.cons rfl .nil) (hsp H hO hS)) λr s' h=>?_
  cases r with
  | error e=>exact (hCX H e s' h).elim
  | ok fl=>
   cases fl with
   | next=>exact False.elim h
   | brk=>exact False.elim h
   | cont=>exact False.elim h
   | ret u=>
    obtain ⟨v,H',os,bare,un,hok',r',q⟩:=h
    have q':v=.bl true:=q
    subst q'
    obtain rfl:u=Value.bool true:=r'
    obtain ⟨more,hm⟩:=un.tbls Pt _ hO.1
    have hPm:s'.heap.get? Pt=some (PySem.W.tabObj (#[]++more)):=hok' Pt _ hm
    have kp:∀ b o,b≠Pt->s₁.heap.get? b=some o->s'.heap.get? b=some o:=λb o z e=>by
     cases q:H b with
     | none=>exact un.keep b o e q (by intro z; exact absurd (show b∈([]:List Addr) from z) (by simp)) (by simp)
     | some u=>
      rcases hO.2 b z with z | ⟨ob,xs,z⟩
      ·rw [q] at z; cases z
      ·have z2:=un.frzs b ob _ z
       obtain ⟨e1,_⟩:=hok b _ z
       obtain ⟨e2,_⟩:=hok' b _ z2
       rw [e] at e1; cases e1
       exact e2
    refine ⟨rfl,⟨λb o e=>?_,λb o e=>?_⟩,os,bare⟩
    ·by_cases z:b=Pt
     ·subst z
      rw [hP] at e
      cases e
      exact .inr (.inl ⟨(C.tab hP).isCodeTable,rfl,#[],_,rfl,by rw [Array.empty_append]; exact hPm⟩)
     ·exact .inl (kp b o z e)
    ·by_cases z:b=Pt
     ·exact ⟨_,by rw [z]; exact hPm⟩
     ·exact ⟨o,kp b o z e⟩
 cases hk:K.lookup a with
 | some o=>
  have e:=KX a o hk
  rw [ha] at e
  cases e
  refine core (λb=>if b=Pt then some (.tbl #[]) else none) ⟨if_pos rfl,λb z=>.inl (if_neg z)⟩ (.inr ⟨_,vs.toArray,_,hk,rfl,rfl,rfl,by rw [List.size_toArray,lenV]; exact hl,by simpa using rv⟩) (λb u z=>?_) (λb z1 z=>absurd (if_neg z1) z) λz=>absurd (if_neg aP) z
  by_cases hb:b=Pt
  ·have z':=(if_pos hb).symm.trans z
   cases z'
   subst hb
   exact hP
  ·have z':=(if_neg hb).symm.trans z
   cases z'
 | none=>
  refine core (λb=>if b=Pt then some (.tbl #[]) else if b=a then some (.frz { cls:=.type "list",data:=.seq vs.toArray } (.lst (ns.map V.int))) else none) ⟨if_pos rfl,λb z=>?_⟩ (.inl (.inr ⟨{ cls:=.type "list",data:=.seq vs.toArray },(if_neg aP).trans (if_pos rfl)⟩)) (λb u z=>?_) (λb z1 z=>?_) λ_=>hk
  ·by_cases hb:b=a
   ·exact .inr ⟨_,_,(if_neg z).trans (if_pos hb)⟩
   ·exact .inl ((if_neg z).trans (if_neg hb))
  ·by_cases hp:b=Pt
   ·have z':=(if_pos hp).symm.trans z
    cases z'
    subst hp
    exact hP
   by_cases hb:b=a
   ·have z':=((if_neg hp).trans (if_pos hb)).symm.trans z
    cases z'
    subst hb
    exact ⟨ha,by rw [List.length_map]; exact hl,vs,_,rv,ha⟩
   ·have z':=((if_neg hp).trans (if_neg hb)).symm.trans z
    cases z'
  ·by_cases hb:b=a
   ·exact hb
   ·exact absurd ((if_neg z1).trans (if_neg hb)) z
end
theorem zK6 {l:PySem.W.OpenLaw} {n k:Nat} {q:Program} {loose:List Str} {XP:(Str->Option Value)->Heap->Prop} {YP:World->Heap->Prop} {d d2:DefRec} {K:Params->PySem.W.Frag} {sp:World->Sp} {x x2:Str} {c Pt:Addr}
  (hn:l.most=some n) (hn2:n<=sizeLine) (hdf:d.params.defaults=[]) (hr:zZ k callerA)
  (hY:∀ (w:World) (h:Heap),YP w h->(K w.params).In h) (hrec:(recsOf q).find? (λe=>e.name == x2)=some d2) (htab:∀ w:World,PySem.W.tabIn (K w.params) x2=some (c,Pt)) (hKP:∀ w:World,(K w.params).lookup Pt=none)
  (F:∀ (w:World) (mg:Str->Option Value) (fa:Addr) (h:Heap),(K w.params).In h->h.Ns mainGlobals mg->mg d.name=some (.ref fa)->
   ∃ fd:FuncData,(∀ (s:Shared) (u:Value),BindsTo s fd ⟨[u],[]⟩ [(x,u)])∧
    ∀ base:Heap,(K w.params).In base->base.Ns mainGlobals mg->xx base mg c Pt->zF l.prog w (K w.params) mg base zU k fa fd [x] (sp w))
  (hsp:∀ (w:World) (H:Hp) (a:Addr) (ns:List Int),ns.length<=n->UI Pt H->zV (K w.params) H a (ns.map V.int)->sp w [.ref a] H (λv _=>v=.bl true) λ_ _ _=>False) :
  PySem.W.WalkO q loose XP YP l.row.toRowW d [] (λf vs=>PySem.call f vs):=by
 refine Att.attach_call hn hdf λw s₀ s₁ mg mb fa o pm cd doc a vs ns G Y ho hd hcd hmg hobj hints hlen hg=>?_
 have KX:=hY w _ Y
 obtain ⟨fd,hb,hF⟩:=F w mg fa _ KX G.T.g hmg
 obtain ⟨C,hP⟩:=PySem.W.tab_of G.T KX hrec (htab w)
 exact zKA C hP (hKP w) G.T.bmain KX G.T.g G.T.b G.T.builtins G.T.nolimit hg hobj hints (Nat.le_trans hlen hn2) hr hF hb (λH hO hS=>hsp w H a ns hlen hO hS) λH e s' z=>z
end L2
namespace L2
open PySem PySem.Spec PyProof.Rows
theorem K7 {α β:Type} {R:α->β->Prop}:∀ {xs:List α} {ys:List β},xs.length=ys.length->(∀ (k:Nat) x y,xs[k]? = some x->ys[k]? = some y->R x y)->Paired R xs ys
 | [],[],_,_=>.nil
 | [],_ :: _,h,_=>by cases h
 | _ :: _,[],h,_=>by cases h
 | x :: xs,y :: ys,h,g=>.cons (g 0 x y rfl rfl) (K7 (Nat.succ.inj h) λk a b h1 h2=>g (k + 1) a b h1 h2)
section
variable {X:Cx}
theorem zKe:xN X (.type "range") (λxs H Q=>∃ i j:Int,xs=[.int i,.int j]/\∀ p,H p=none->Q (.ref p) (upd H p (.rng i j))):=by
 intro pins s σ H xs us Q I r h
 obtain ⟨i,j,rfl,q⟩:=h
 obtain ⟨u,w',rfl,⟨t,rfl⟩,⟨t',rfl⟩⟩:=qJ r
 refine call_range_2 ⟨.ref s.heap.objs.size,_,I.laid (o:=.rng i j) (λb u e=>Heap.get?_push_of_some _ e) (Nat.le_refl _) ?_,rfl,q _ (I.hok.fresh (Nat.le_refl _))⟩
 exact ⟨_,_,_,Heap.get?_push_size _ rfl⟩
theorem zGG (hc:X.calm=true):xN X (.type "list") (λxs H Q=>∃ (p:Addr) (i j:Int),xs=[.ref p]/\H p=some (.rng i j)/\(-(2 ^ 62)<=i/\i < 2 ^ 62/\-(2 ^ 62)<=j/\j < 2 ^ 62)/\(j - i).toNat<=1000∧
  ∀ l,H l=none->Q (.ref l) (upd H l (.lst ((List.range (j - i).toNat).map λ(k:Nat)=>V.int (i + (k:Int)))))):=by
 intro pins s σ H xs us Q I r h
 obtain ⟨p,i,j,rfl,hp,⟨q1,q2,q3,q4⟩,hz,q⟩:=h
 obtain ⟨u,rfl,rx⟩:=vG r
 obtain rfl:u=.ref p:=rx
 obtain ⟨t,u,v,hr⟩:=I.hok p _ hp
 have hs:(2 ^ 24:Nat)=16777216:=by decide
 refine call_list_range (n:=(j - i).toNat) (I.ok.hd hc) (show IsRange s.heap p i j 1 t u v from hr) (small_one q1 q2 q3 q4) (by rw [rangeSize_one]; split <;> omega) (by omega) λh' tk acc' c' hk hS' hacc=>?_
 refine ⟨.ref s.heap.objs.size,_,I.laid (t':=tk) (o:=.lst ((List.range (j - i).toNat).map λ(k:Nat)=>V.int (i + (k:Int)))) hk (Nat.le_refl _) ⟨?_,acc'.toList,c',?_,by rw [hS']⟩,rfl,q _ (I.hok.fresh (Nat.le_refl _))⟩
 ·rw [List.length_map,List.length_range]
  exact Nat.le_trans hz (by decide)
 ·have la:acc'.toList.length=(j - i).toNat:=by rw [Array.length_toList]; exact hacc.1
  refine K7 (by rw [List.length_map,List.length_range,la]) λk x y hx hy=>?_
  have hk2:k < (j - i).toNat:=by
   have:=(List.getElem?_eq_some_iff.mp hy).1
   omega
  rw [List.getElem?_map,List.getElem?_range hk2] at hx
  cases hx
  obtain ⟨t,e⟩:=hacc.2 k y (by simpa using hy)
  exact ⟨t,by rw [e,Int.mul_one]⟩
theorem zKg (hc:X.calm=true):xN X (.builtin "max") (λxs H Q=>∃ (p:Addr) (ns:List Int),xs=[.ref p]/\zV X.K H p (ns.map V.int)/\0 < ns.length/\∀ M,M∈ns->(∀ a∈ns,a<=M)->Q (.int M) H):=by
 intro pins s σ H xs us Q I r h
 obtain ⟨p,ns,rfl,hl,h0,q⟩:=h
 obtain ⟨u,rfl,rx⟩:=vG r
 obtain rfl:u=.ref p:=rx
 obtain ⟨its,rv,pl,hz⟩:=I.list hl
 have hi:∀ {xs:List Int} {ys:List Value},zK (xs.map V.int) ys->IntsAre ys xs:=by
  intro xs
  induction xs with
  | nil=>intro ys h; cases h; exact .nil
  | cons x xs ih=>
   intro ys h
   cases h with
   | cons h1 h2=>
    obtain ⟨t,rfl⟩:=h1
    exact .cons x t (ih h2)
 have hA:=hi rv
 obtain ⟨xs,e⟩:=hA.allInts.items
 have hns:ns=xs.toList.map (·.1):=by rw [<- hA.numsOf,<- nums_intItems,<- e]
 have hsz:0 < xs.size:=by
  have h3:=h0
  rw [hns,List.length_map,Array.length_toList] at h3
  exact h3
 have hl2:=pl.isList
 rw [e] at hl2
 refine max_intList (I.ok.hd hc) hl2 hsz λv h' tk hv hk=>?_
 obtain ⟨t,rfl⟩:=intItems_at hv
 obtain ⟨h1,h2⟩:=argBest_gt (numAt xs) (xs.size - 1)
 refine ⟨.int _,H,I.kept hk,⟨t,rfl⟩,q _ ?_ λa ha=>?_⟩
 ·rw [hns,numAt_eq]
  rw [List.getD_eq_getElem?_getD,List.getElem?_eq_getElem (by rw [List.length_map,Array.length_toList]; omega)]
  exact List.getElem_mem _
 ·rw [hns] at ha
  obtain ⟨j,hj,rfl⟩:=mem_getD ha
  rw [List.length_map,Array.length_toList] at hj
  have:=h2 j (by omega)
  rw [numAt_eq] at this
  exact this
end
end L2
namespace Pu
open PySem L2 Sh
open PyProof.Rows (envOfC)
variable [yL]
def k8 (pa:zp) (iy:Nat):zp:=λΓ R=>pa Γ λd=>∃ ns cs:List Int,d=.lst (ns.map D.int)/\slot Γ iy=.sh (.lst (cs.map D.int))/\(∀ n∈ns,0<=n/\n < cs.length)/\(ns=[]->R .non)/\∀ n∈ns,(∀ m∈ns,cs.getD n.toNat 0<=cs.getD m.toNat 0)->R (.int n)
theorem zOP {P:Addr} {q:Str} {pos:Pos} {H H':Hp} (hI:∀ H,yL.I H ↔ zy P q pos H) (i:zy P q pos H) (o:yk [P] H H') (i':zy P q pos H'):Sm H H':=by
 refine ⟨λb u e n=>i.ne o e λps z=>(by rw [z] at n; cases n),λb u e n=>?_,λ_=>(hI H').mpr i'⟩
 by_cases c:b=P
 ·rw [c]
  rcases i' with h | ⟨_,h,_⟩
  ·exact ⟨_,h,rfl⟩
  ·exact ⟨_,h,rfl⟩
 ·exact ⟨u,o b u e (λz=>c (List.mem_singleton.mp z)),n⟩
theorem zJV {X:Cx} {e:Expr} {pa:zp} {p pos kp kp2 lpos yp xp bp dp:Pos} {zk} {x y:Str} {params:Arguments} {scope:Scope} {cy c P:Addr} {iy:Nat} (hI:∀ H,yL.I H ↔ zy P (X.env.qual++"<lambda>") lpos H) (T:xx X.base X.mg c P) (he:PE X e (tP pa)) (hc:X.calm=true) (hr:zZ 2 X.A) (hg:Gl X "min") (hm:X.mg "min" = none) (hv:bootBuiltins "min" = some (.builtin "min"))
  (hcode:X.env.code=.ref c) (hN:X.N[iy]? = some y) (hky:X.env.kindOf y=some .cell) (hcl:closureFor scope X.env=pure [(y,cy)]) (hcy:X.env.cells.lookup y=some cy) (hdef:defaultsOf params X.env=([],[]))
  (hsc:scope.names=[(x,.local),(y,.free)]) (hxy:x≠y) (hk:scope.kind=.function) (hco:scope.isCoroutine=false) (hgen:scope.isGenerator=false)
  (hbind:∀ (pm ctv u:Value) (c':Addr),bindArgs (PySem.W.kla_fn "<lambda>" (X.env.qual++"<lambda>") params (.Subscript (.Name y yp) (.Name x xp) bp) scope [(y,cy)] pm (.ref c') ctv) ⟨[u],[]⟩=pure [(x,u)])
  (hdx:(x == ("__debug__" : Str))=false) (hdx2:(x == ("__classdict__" : Str))=false) (hdy:(y == ("__debug__" : Str))=false) (hdy2:(y == ("__classdict__" : Str))=false)
  (hs:starEach [e] X.env=(false,eval e X.env) :: starEach [] X.env:=by rfl) :
  PE X (.Call (.Name "min" p) [e] [⟨some "key",.Lambda params (.Subscript (.Name y yp) (.Name x xp) bp) scope lpos,kp⟩,⟨some "default",.Constant .none zk dp,kp2⟩] pos) (tP (k8 pa iy)):=
 yM (zJg T he hc hr hg hm hv hcode hN hky hcl hcy hdef hsc hxy hk hco hgen hbind hdx hdx2 hdy hdy2 hs) λσ H Q ⟨Z,Γ,R,E,h,q⟩=>⟨Z,Γ,_,E,h,λd v H1 hd s1 hv=>by
  obtain ⟨ns,cs,rfl,hsl,hb,q0,q1⟩:=hd
  obtain ⟨l,xs,rfl,el,hx⟩:=hv.lst_inv
  cases g6 hx
  obtain ⟨vc,hvc,hdc⟩:=E.sh iy _ hsl
  obtain ⟨ca,ys,rfl,ec,hy⟩:=hdc.lst_inv
  cases g6 hy
  have i1:=(hI H1).mp (E.same s1).zd.i
  refine ⟨l,ca,ns,cs,rfl,hvc,zV.of (zo _ _ el),zV.of (s1.at (zo _ _ ec)),hb,i1,λH2 o i2=>?_⟩
  have s2:=s1.trans (zOP hI i1 o i2)
  exact ⟨λz=>q _ _ H2 (q0 z) s2 .non,λn hn hm=>q _ _ H2 (q1 n hn hm) s2 (.int n)⟩⟩
theorem UJ {P:Program} {w:World} {K:PySem.W.Frag} {mg:Str->Option Value} {base:Heap} {x qual:Str} {st:Stmt} {f c:Addr} {fd:FuncData} {N ps:List Str} {k:Nat} {F:FL} (Fu:ze K x qual st f fd) (hc:fd.code=.ref c) (S:zc N ps (zL st)) (len:∀ ds R,F ds R->ds.length=ps.length)
  (hbody:∀ (A:Around) (outer:List Env) (s:Shared) (H:Hp) (E:XK),zZ k (A.deeper (envOfC qual (zL st) s.heap.objs.size f (.ref c)))->
   ∃ p,yj (y6 zU P w K mg base N qual (zL st) f (.ref c) A outer s H E).nox (y8 st) (yQ p)/\∀ ds R,F ds R->p { nx:=λ_=>R .non,rt:=R } (ds.map Sl.sh++List.replicate (N.length - ps.length) .no)):zF P w K mg base zU (k + 1) f fd ps (zG F):=
 Fu.okC hc S (UE len) λA outer s H vs Q E hr h=>let ⟨p,h1,h2⟩:=hbody A outer s H E hr; ⟨_,h1,UD len h2 h⟩
def tbI (P:Addr) (q:Str) (pos:Pos):yL where
 I:=zy P q pos
 same:=λh s=>h.same s
 but:=λ{H H' l o} h e li k=>by
  have ne:∀ b u,H b=some u->wy u=false->H' b=some u:=λb u eb n=>by
   rw [k b λz=>by rw [z,e] at eb; cases eb; rw [n] at li; cases li]
   exact eb
  rcases h with h | ⟨c',h1,h2⟩
  ·exact .inl (ne _ _ h rfl)
  ·exact .inr ⟨c',ne _ _ h1 rfl,ne _ _ h2 rfl⟩
end Pu
namespace Pu
open PySem L2 Sh
variable [yL]
section
variable {X:Cx} {e a b c:Expr} {es:List Expr} {pos:Pos} {pa pb:zp} {pl:yf} {p:ym} {t:xr}
def K8 (t:xr) (p:ym):ym:=λD Γ=>∃ I:Nat->List Sl->Prop,(∃ m,I m Γ)/\∀ m Γ',I m Γ'->t Γ' λb=>xX b (p { D with nx:=λΓ2=>∃ m',m' < m/\I m' Γ2,ct:=λΓ2=>∃ m',m' < m/\I m' Γ2,bk:=D.nx } Γ') (D.nx Γ')
theorem UK {body:List Stmt} (hp:PassesOwn (model X.prog X.w) X.A X.env X.xe) (hc:PT X c (yt t)) (hb:yj X body (yQ p)):PS X (.While c body [] pos) (yQ (K8 t p)):=yN (zLM hp hc hb) λD σ H ⟨Z0,H0,Z,Γ,Dp,E,⟨I,⟨m0,h0⟩,hst⟩,nx,rt,bk,ct⟩=>by
 refine ⟨λm σ' H'=>∃ Z' Γ',yP Z0 H0 Z' Γ' σ' H'/\zJ (hid Z H) (hid Z' H')/\I m Γ',⟨m0,Z,Γ,E,zJ.refl _,h0⟩,?_⟩
 rintro m σ' H' ⟨Z',Γ',E',s',hI⟩
 refine ⟨Z',Γ',_,E'.e,hst m Γ' hI,λb H1 hd s1=>?_⟩
 have s2:=s'.trans (yU s1)
 cases b with
 | false=>exact nx Z' Γ' σ' H1 (E'.mv s1) s2 (hd.2 rfl)
 | true=>
  refine ⟨λσ2 H2=>∃ m',m' < m/\∃ Z2 Γ2,yP Z0 H0 Z2 Γ2 σ2 H2/\zJ (hid Z H) (hid Z2 H2)/\I m' Γ2,λ_ _ h=>h,?_⟩
  have again:∀ Z2 Γ2 σ2 H2,yP Z0 H0 Z2 Γ2 σ2 H2->zJ (hid Z' H1) (hid Z2 H2)->(∃ m',m' < m/\I m' Γ2)->∃ m',m' < m/\∃ Z2 Γ2,yP Z0 H0 Z2 Γ2 σ2 H2/\zJ (hid Z H) (hid Z2 H2)/\I m' Γ2:=λZ2 Γ2 σ2 H2 E2 k ⟨m',l,h⟩=>⟨m',l,Z2,Γ2,E2,s2.trans k,h⟩
  exact ⟨Z0,H0,Z',Γ',_,E'.mv s1,hd.1 rfl,again,rt,λZ2 Γ2 σ2 H2 E2 k h=>nx Z2 Γ2 σ2 H2 E2 (s2.trans k) h,again⟩
def jz:FL
 | [.int i],R=>R (.int (if i < 0 then -i else i))
 | _,_=>False
theorem zNv:w6 (λxs H Q=>∃ i,xs=[.int i]/\Q (.int (if i < 0 then -i else i)) H) jz:=λZ H vs ds R Q zd hv h q=>by
 unfold jz at h
 split at h
 ·obtain ⟨v,rfl,hx⟩:=yY hv
  cases hx
  exact ⟨_,rfl,q _ _ H h (Sm.refl _) (.int _)⟩
 ·exact h.elim
def UL:F2
 | d,.non,R=>R (.bool (match d with | .non=>true | _=>false))
 | _,_,_=>False
def j2:F2
 | d,.non,R=>R (.bool (match d with | .non=>false | _=>true))
 | _,_,_=>False
theorem zNQ:wC (λx y H Q=>y=.non/\Q (.bl (decide (x=.non))) H) UL:=λZ H x y a b R Q zd hx hy h q=>by
 unfold UL at h
 split at h
 ·cases hy
  refine ⟨rfl,?_⟩
  cases hx <;> exact q _ _ H h (Sm.refl _) (.bool _)
 ·exact h.elim
theorem zLb:wC (λx y H Q=>y=.non/\Q (.bl (!decide (x=.non))) H) j2:=λZ H x y a b R Q zd hx hy h q=>by
 unfold j2 at h
 split at h
 ·cases hy
  refine ⟨rfl,?_⟩
  cases hx <;> exact q _ _ H h (Sm.refl _) (.bool _)
 ·exact h.elim
theorem vm (ha:PE X a (tP pa)) (hb:PE X b (tP pb)):PT X (.Compare a [.Is] [b] pos) (yt (xI (yz UL pa pb))):=jp L2.QC zNQ (wq _) ha hb
theorem zLK (ha:PE X a (tP pa)) (hb:PE X b (tP pb)):PT X (.Compare a [.IsNot] [b] pos) (yt (xI (yz j2 pa pb))):=jp zNH zLb (wq _) ha hb
theorem zMl {K:PySem.W.Frag} {Z:Addr->Prop} {H:Hp} {p:Addr} {xs:List V} {ds:List D} (e:hid Z H p=some (.lst xs)) (h:yE (hid Z H) xs ds):Wk Z (WP K p) H (uB 0 ds):=λi Z' H' s zd=>by
 have e1:=zo _ _ (s _ _ e)
 refine ⟨λd hd=>?_,λhi=>⟨xs,zV.of e1,by rw [qf] at hi; rw [xm h]; omega⟩⟩
 obtain ⟨d',hd',rfl⟩:=qg hd
 obtain ⟨x,hx,hh⟩:=kZ h hd'
 refine ⟨⟨xs,x,zV.of e1,hx⟩,λy H'' ⟨T,x',ev,hT,eH,q⟩=>?_⟩
 have:=q xs (zV.of e1)
 rw [hx] at this
 cases this
 subst ev
 subst eH
 rw [Nat.zero_add]
 exact ⟨xj hT _,Yj zd hT (.cons (.int _) (.cons (hh.same s) .nil))⟩
def pEn (pl:yf):yf:=λΓ R=>pl Γ λds=>uj ds λes=>R (uB 0 es)
theorem Yv {ts:List Expr} {kk:Nat} {tp p:Pos} (hg:Gl X "enumerate") (hm:X.mg "enumerate" = none) (ha:PA X [e] (xk pl)) (hs:starEach [e] X.env=[(false,eval e X.env)]:=by rfl) (hs2:starEach [] X.env=[]:=by rfl) :
  PI X (.Tuple ts kk tp) (.Call (.Name "enumerate" p) [e] [] pos) (v9 (pEn pl)):=ka (zNB hg hm ha hs hs2) λσ H Q ⟨Z,Γ,R,E,h,q⟩=>
 ⟨Z,Γ,_,E,h,λds vs H1 hd s1 hv=>by
  unfold uj at hd
  split at hd
  ·obtain ⟨v,rfl,hw⟩:=yY hv
   obtain ⟨a,xs,rfl,ea,hx⟩:=hw.lst_inv
   exact ⟨a,rfl,⟨xs,zV.of (zo _ _ ea)⟩,q _ _ H1 hd s1 (zMl ea hx)⟩
  ·exact hd.elim⟩
def k9 (pa pb:zp):zp:=λΓ R=>pa Γ λd=>pb Γ λe=>∃ i j:Int,d=.int i/\e=.int j/\0<=i/\i<=1000/\0<=j/\j<=1000/\R (.lst ((List.range (j - i).toNat).map λ(k:Nat)=>.int (i + (k:Int))))
theorem zNp {H:Hp} {i:Int} (ks:List Nat):yE H (ks.map λ(k:Nat)=>V.int (i + (k:Int))) (ks.map λ(k:Nat)=>D.int (i + (k:Int))):=by
 induction ks with
 | nil=>exact .nil
 | cons k ks ih=>exact .cons (.int _) ih
theorem zM3 {lp rp:Pos} {p2:Pos} (hc:X.calm=true) (hgl:Gl X "list") (hml:X.mg "list" = none) (hgr:Gl X "range") (hmr:X.mg "range" = none) (ha:PE X a (tP pa)) (hb:PE X b (tP pb))
  (he:starEach [Expr.Call (.Name "range" rp) [a,b] [] p2] X.env=(false,eval (Expr.Call (.Name "range" rp) [a,b] [] p2) X.env) :: starEach [] X.env:=by rfl) (hpl:(backTo pos (starEach [] X.env)).any (·.1)=false:=by rfl)
  (he2:starEach [a,b] X.env=(false,eval a X.env) :: starEach [b] X.env:=by rfl) (he3:starEach [b] X.env=(false,eval b X.env) :: starEach [] X.env:=by rfl) (hpl2:(backTo p2 (starEach [b] X.env)).any (·.1)=false:=by rfl):PE X (.Call (.Name "list" lp) [.Call (.Name "range" rp) [a,b] [] p2] [] pos) (tP (k9 pa pb)):=
 yM (YD (zGG hc) hgl hml xi (yI (YD zKe hgr hmr zHj (yI ha (yI hb yn he3) he2) (by decide) (by decide) he2 hpl2) yn he) (by decide) (by decide) he hpl) λσ H Q ⟨Z,Γ,R,E,h,q⟩=>
  ⟨Z,Γ,_,E,h,λd v H1 hd s1 hv=>⟨Z,Γ,_,E.same s1,hd,λd2 v2 H2 hd2 s2 hv2=>by
   obtain ⟨i,j,rfl,rfl,i0,i1,j0,j1,hR⟩:=hd2
   cases hv
   cases hv2
   refine ⟨i,j,rfl,λr hr=>⟨r,i,j,rfl,xB,⟨by omega,by omega,by omega,by omega⟩,by omega,λl hl=>?_⟩⟩
   have s3:=s1.trans (s2.trans (xj hr (HO.rng i j)))
   exact q _ _ _ hR (s3.trans (xj hl _)) (v6 (E.same s3).zd hl (zNp _))⟩⟩
def ZA (i:Nat) (pl:yf):ym:=λD Γ=>pl Γ λds=>uj ds λes=>D.nx (zr Γ i (.ow es))
theorem zLL (i:Nat) {x:Str} {pos' lp p2:Pos} (hN:X.N.Nodup) (hi:X.N[i]? = some x) (hx:uF X.env.scope x) (hg:Gl X "list") (hm:X.mg "list" = none) (ha:PA X (e :: es) (xk pl)) (he:starEach (e :: es) X.env=(false,eval e X.env) :: starEach es X.env:=by rfl) (hpl:(backTo p2 (starEach es X.env)).any (·.1)=false:=by rfl)
  (hs:swapsWith (.Call (.Name "list" lp) (e :: es) [] p2) (some (.Name x pos')) pos.line X.env=pure false:=by rfl) (hf:X.fn x=true\/X.env.scope.names.lookup x=some .local:=by first | exact .inl rfl | exact .inr rfl | assumption) :
  PS X (.Assign [.Name x pos'] (.Call (.Name "list" lp) (e :: es) [] p2) pos) (yQ (ZA i pl)):=yN (Xx hN hi hx (YD wv hg hm xi ha (by decide) (by decide) he hpl) hs hf) λD σ H ⟨Z0,H0,Z,Γ,Dp,E,h,nx,rt,bk,ct⟩=>
 ⟨Z,Γ,_,E.e,h,λds vs H1 hd s1 hv=>by
  unfold uj at hd
  split at hd
  ·obtain ⟨v,rfl,hw⟩:=yY hv
   obtain ⟨r,xs,rfl,er,hx⟩:=hw.lst_inv
   refine ⟨r,xs,rfl,.inl (zV.of (zo _ _ er)),λl hl=>?_⟩
   obtain ⟨E2,s2⟩:=(E.mv s1).make hl hx i
   exact nx _ _ _ _ E2 ((yU s1).trans s2) hd
  ·exact hd.elim⟩
end
end Pu
namespace K73
open PySem L2 Sh Pu
def zj (i:Nat):Stmt:=PySem.Challenge.pw_steadyhand_k73_boxes_grown.main.body.getD i (.Pass ⟨0,0,0,0⟩)
structure Bl (mg:Str->Option Value):Prop where
 isinstance_:mg "isinstance" = none
 int_:mg "int" = none
 bool_:mg "bool" = none
 tuple_:mg "tuple" = none
 len_:mg "len" = none
 all_:mg "all" = none
 list_:mg "list" = none
 range_:mg "range" = none
 zip_:mg "zip" = none
 sum_:mg "sum" = none
 max_:mg "max" = none
 enumerate_:mg "enumerate" = none
 min_:mg "min" = none
 abs_:mg "abs" = none
 MOST_NUMBERS_:∃ t,mg "MOST_NUMBERS" = some (.int 3 t)
 MOST_PUSHES_:∃ t,mg "MOST_PUSHES" = some (.int 6 t)
 MOST_MODES_:∃ t,mg "MOST_MODES" = some (.int 40 t)
structure xa (K:PySem.W.Frag) (C:Addr):Prop where
 n_rows:wP K C "rows"
 n_nexts:wP K C "nexts"
 n_steer:wP K C "steer"
 n_push:wP K C "push"
 n_add:wP K C "add"
 n_divisor:wP K C "divisor"
structure xb (K:PySem.W.Frag) (C:Addr):Prop where
 n_many:wP K C "many"
 n_kept_pushes:wP K C "kept_pushes"
 n_kept_modes:wP K C "kept_modes"
variable [iT:yL]
inductive Fw:Nat->D->Prop
 | int {k:Nat} (i:Int):Fw (k + 1) (.int i)
 | bool {k:Nat} (b:Bool):Fw (k + 1) (.bool b)
 | non {k:Nat}:Fw (k + 1) .non
 | str {k:Nat} (x:Str):Fw (k + 1) (.str x)
 | lst {k:Nat} {ds:List D} (l:ds.length<=900) (h:∀ d∈ds,Fw k d):Fw (k + 1) (.lst ds)
 | tup {k:Nat} {ds:List D} (l:ds.length<=900) (h:∀ d∈ds,Fw k d):Fw (k + 1) (.tup ds)
theorem Fw.no {k:Nat} {d:D} (h:Fw k d):d.isObj=false:=by cases h <;> rfl
theorem Fw.lst_inv {k:Nat} {d:D} (h:Fw k d) (e:d.isLst=true):∃ ds,d=.lst ds/\ds.length<=900/\∃ j,k=j + 1/\∀ d∈ds,Fw j d:=by
 cases h with
 | lst l h=>exact ⟨_,rfl,l,_,rfl,h⟩
 | _=>cases e
theorem Fw.tup_inv {k:Nat} {d:D} (h:Fw k d) (e:d.isTup=true):∃ ds,d=.tup ds/\ds.length<=900/\∃ j,k=j + 1/\∀ d∈ds,Fw j d:=by
 cases h with
 | tup l h=>exact ⟨_,rfl,l,_,rfl,h⟩
 | _=>cases e
theorem K9 {k:Nat} {ns:List Int}:∀ d∈ns.map D.int,Fw (k + 1) d:=λd m=>by
 obtain ⟨i,_,rfl⟩:=List.mem_map.mp m
 exact .int i
theorem k0 {n:Nat} (h:n.ble 1000=true:=by rfl):n<=1000:=Nat.le_of_ble_eq_true h
theorem bR {R:D->Prop} {a b:Bool} (q:R (.bool a)) (e:a=b):R (.bool b):=e ▸ q
def jJ (d:D):Bool:=d.isInt && !d.isBool
def Yx (n:Int):D->Bool
 | .lst ds=>decide ((ds.length:Int)=n) && ds.all jJ
 | _=>false
def ZB (h w:Int):D->Bool
 | .lst ds=>decide ((ds.length:Int)=h) && ds.all (Yx w)
 | _=>false
def uk (n:Int):D->Bool
 | .tup ds=>decide ((ds.length:Int)=n + 1) && ds.all jJ
 | _=>false
def zOW (n:Int):D->Bool
 | .lst ds=>ds.all (uk n)
 | _=>false
theorem qi {α:Type} (f:α->Bool) (xs:List α):(xs.map f).all id=xs.all f:=by rw [List.all_map]; rfl
def j3:FL:=λds R=>∃ d,ds=[d]/\d.isObj=false/\R (.bool (jJ d))
def UM:FL:=λds R=>∃ d n k,ds=[d,.int n]/\Fw k d/\R (.bool (Yx n d))
def ZC:FL:=λds R=>∃ d h w k,ds=[d,.int h,.int w]/\Fw k d/\R (.bool (ZB h w d))
def ZD:FL:=λds R=>∃ d n k,ds=[d,.int n]/\Fw k d/\R (.bool (uk n d))
def zPW:FL:=λds R=>∃ d n k,ds=[d,.int n]/\Fw k d/\R (.bool (zOW n d))
def ZE (j:Nat):FL:=λds R=>∃ d n,ds=[d,.int n]/\Fw j d/\R d
def zPV:FL:=λds R=>∃ p w n:Int,ds=[.int p,.int w,.int n]/\0<=w/\w<=900/\R (L (za p w.toNat n))
def IS (d:D) (ns:List Int):Prop:=d=L ns\/d=U ns
theorem IS.seq {d:D} {ns:List Int} (h:IS d ns) {R:List D->Prop} (q:R (ns.map D.int)):jt d R:=by
 rcases h with rfl | rfl
 ·exact q
 ·exact q
def Yy:FL:=λds R=>∃ (d e:D) (ns os:List Int),ds=[d,e]/\IS d ns/\IS e os/\ns.length<=900/\(∀ x∈ns,Bd 9000 x)/\(∀ x∈os,Bd 9000 x)/\R (.int (zm ns os))
theorem zHm:∀ ns os:List Int,List.zipWith yZ (ns.map D.int) (os.map D.int)=(ns.zip os).map λq=>yZ (.int q.1) (.int q.2)
 | [],_=>rfl
 | _ :: _,[]=>rfl
 | _ :: ns,_ :: os=>by rw [List.map_cons,List.map_cons,List.zipWith_cons_cons,zHm ns os]; rfl
theorem IS.zip {d e:D} {ns os:List Int} (h:IS d ns) (k:IS e os) {R:List D->Prop} (q:R ((ns.zip os).map λq=>yZ (.int q.1) (.int q.2))):vi [d,e] R:=by
 rw [<- zHm] at q
 rcases h with rfl | rfl <;> rcases k with rfl | rfl <;> exact q
theorem zPe {qs:List (Int × Int)} {G:D->(D->Prop)->Prop} {R:D->Prop} (g:Int × Int->Int) (few:qs.length<=1000) (h:∀ q,q∈qs->G (yZ (.int q.1) (.int q.2)) λe=>e=.int (g q)) (k:R (.lst ((qs.map g).map D.int))):zg (qs.map λq=>yZ (.int q.1) (.int q.2)) G R:=
 zg.map (λd=>match d with | .tup [x,y]=>.int (g (yB x,yB y)) | _=>.non) (by rw [List.length_map]; exact few) (λd m=>by
  obtain ⟨q,hq,rfl⟩:=List.mem_map.mp m
  exact h q hq) (by rw [List.map_map] at k |-; exact k)
theorem UN:∀ ns os:List Int,((ns.zip os).map λq=>q.1 * q.2).sum=zm ns os
 | [],_=>rfl
 | _ :: _,[]=>rfl
 | n :: ns,o :: os=>by rw [List.zip_cons_cons,List.map_cons,List.sum_cons,UN ns os]; rfl
abbrev Tb (t:List (List Int)):D:=.lst (t.map L)
abbrev Rm (t:List (List Int)):D:=.lst (t.map U)
def zz:D->List Int
 | .lst ds=>ds.map yB
 | .tup ds=>ds.map yB
 | _=>[]
theorem zIC (ns:List Int):(ns.map D.int).map yB=ns:=by rw [List.map_map]; exact List.map_id _
theorem qj (ns:List Int):zz (L ns)=ns:=zIC ns
theorem Yz (ns:List Int):zz (U ns)=ns:=zIC ns
theorem vQ {α:Type} {xs:List α} {G:D->(D->Prop)->Prop} {R:D->Prop} (u:α->D) (v:D->α) (hv:∀ x,v (u x)=x) (g:α->D) (few:xs.length<=1000) (h:∀ x,x∈xs->G (u x) λe=>e=g x) (q:R (.lst (xs.map g))):zg (xs.map u) G R:=
 zg.map (λd=>g (v d)) (by rw [List.length_map]; exact few) (λd m=>by
  obtain ⟨x,hx,rfl⟩:=List.mem_map.mp m
  rw [hv]
  exact h x hx) (by
  rw [List.map_map,show ((λd=>g (v d)) ∘ u)=g from funext λx=>congrArg g (hv x)]
  exact q)
def IT (e:D) (ls:List (List Int)):Prop:=e=Tb ls\/e=Rm ls
theorem UO {α:Type} (u:α->D):∀ (ns:List Int) (ls:List α),List.zipWith yZ (ns.map D.int) (ls.map u)=(ns.zip ls).map λq=>yZ (.int q.1) (u q.2)
 | [],_=>rfl
 | _ :: _,[]=>rfl
 | _ :: ns,_ :: ls=>by rw [List.map_cons,List.map_cons,List.zipWith_cons_cons,UO u ns ls]; rfl
def v2 (d:D):Int × List Int:=match d with
 | .tup [x,y]=>(yB x,zz y)
 | _=>(0,[])
theorem vB {ns:List Int} {j:Nat} (h:j < ns.length) {i:Int} (e:i=(j:Int)):yX (ns.map D.int) i=some (.int (ns.getD j 0)):=by
 rw [kM,e]
 unfold yX xn
 rw [if_pos (by omega),if_pos (by omega)]
 show Option.map D.int ns[((j:Nat):Int).toNat]? = _
 rw [show ((j:Nat):Int).toNat=j by omega,List.getElem?_eq_getElem h,List.getD_eq_getElem?_getD,List.getElem?_eq_getElem h]
 rfl
theorem IS.zipT {d e:D} {ns:List Int} {ls:List (List Int)} (h:IS d ns) (k:IT e ls) {R:List D->Prop} (q:∀ u:List Int->D,u=L\/u=U->R ((ns.zip ls).map λq=>yZ (.int q.1) (u q.2))):vi [d,e] R:=by
 have q1:=q L (.inl rfl)
 have q2:=q U (.inr rfl)
 rw [<- UO] at q1 q2
 rcases h with rfl | rfl <;> rcases k with rfl | rfl <;> first | exact q1 | exact q2
theorem ZF {u:List Int->D} (hu:u=L\/u=U) (q:Int × List Int):v2 (yZ (.int q.1) (u q.2))=q:=by
 rcases hu with rfl | rfl
 ·show (q.1,zz (L q.2))=q
  rw [qj]
 ·show (q.1,zz (U q.2))=q
  rw [Yz]
def zMf:FL:=λds R=>∃ (d e:D) (ns:List Int) (ls:List (List Int)) (w:Nat),ds=[d,e,.int (w:Int)]/\IS d ns/\IT e ls/\w<=900/\ns.length<=900/\(∀ x∈ns,Bd 9000 x)/\(∀ r∈ls,w<=r.length/\∀ x∈r,Bd 9000 x)/\R (L ((List.range w).map (wL ns ls)))
def zKP:FL:=λds R=>∃ p w n b:Int,ds=[.int p,.int w,.int n,.int b]/\0<=w/\w<=900/\R (U (za p w.toNat n++[b]))
theorem jK {e:Nat} {r:List Int} (h:∀ x∈r,Bd e x) (j:Nat):Bd e (r.getD j 0):=by
 rw [List.getD_eq_getElem?_getD]
 cases hj:r[j]? with
 | none=>show (0:Int).natAbs < 2 ^ e; exact Nat.two_pow_pos e
 | some x=>exact h x (List.mem_of_getElem? hj)
section
variable {P:Program} {w:World} {K:PySem.W.Frag} {mg:Str->Option Value} {base:Heap}
abbrev UP:Stmt:=zj 8
theorem zG4:zc ["thing"] ["thing"] (zL UP):=.a
abbrev Y0:Stmt:=zj 16
theorem zFm:zc ["value","count"] ["value","count"] (zL Y0):=.a
abbrev Y1:Stmt:=zj 17
theorem zG5:zc ["value","tall","wide"] ["value","tall","wide"] (zL Y1):=.a
abbrev ZG:Stmt:=zj 18
theorem zJP:zc ["value","depth"] ["value","depth"] (zL ZG):=.a
abbrev Y2:Stmt:=zj 19
theorem zMv:zc ["place","wide","number"] ["place","wide","number"] (zL Y2):=.a
abbrev Y3:Stmt:=zj 20
theorem zJM:zc ["numbers","others"] ["numbers","others"] (zL Y3):=.a
variable {af ag:Addr} (aa:zT K mg "Mode" af) (ab:xa K af) (ac:zT K mg "Thing" ag) (ae:xb K ag)
include aa ab ac ae
theorem zHL {k:Nat} {f:Addr} {fd:FuncData} (F:ze K "is_whole" "is_whole" UP f fd) (B:Bl mg):zF P w K mg base zU (k + 1) f fd ["thing"] (zG (j3)):=by
 refine zn F zG4 (λds R h=>by obtain ⟨d,rfl,_⟩:=h; rfl) λcdv A outer s H E hr=>⟨_,(zM (zY (wj (yM (wu va rfl B.isinstance_ vH (yI (zA 0) (yI (vW (v:=.ty "int") (u:=.type "int") rfl B.int_ YI rfl) yn))) (vj zPS)) (vh (zOe (yM (wu va rfl B.isinstance_ vH (yI (zA 0) (yI (vW (v:=.ty "bool") (u:=.type "bool") rfl B.bool_ zI5 rfl) yn))) (vj zLx))))))),λds R h=>?_⟩
 obtain ⟨d,rfl,o,q⟩:=h
 refine ⟨o,λc=>⟨o,bR q ?_⟩,λc=>bR q ?_⟩
 ·unfold jJ; rw [c]; rfl
 ·unfold jJ; rw [c]; rfl
theorem zFw {k:Nat} {f:Addr} {fd:FuncData} (F:ze K "is_numbers" "is_numbers" Y0 f fd) (B:Bl mg) (ai:Fn P w K mg base "is_whole" ["thing"] k (zG (j3))):zF P w K mg base zU (k + 1) f fd ["value","count"] (zG (UM)):=by
 refine zn F zFm (λds R h=>by obtain ⟨d,n,k,rfl,_⟩:=h; rfl) λcdv A outer s H E hr=>⟨_,(zM (zY (wj (yM (wu va rfl B.isinstance_ vH (yI (zA 0) (yI (vW (v:=.ty "list") (u:=.type "list") rfl B.list_ xi rfl) yn))) (vj qe)) (wj (uZ hr.units (yT xT xY rfl B.len_ xU (zB (zA 0) zC)) (zA 1)) (vh (yT (u6 rfl) jI rfl B.all_ u7 (zB (yc (own:=["number"]) (caps:=[]) (yJ (S:=zL Y0) (N:=["value","count"]) rfl (by decide +kernel) rfl ⟨0,rfl⟩ rfl (by decide +kernel) (by decide +kernel)) rfl rfl ya (yo (zA 0)) (λ_ _ _ _=>(zu 0 (show (["number"]:List Str).Nodup by decide +kernel) rfl (Or.inl rfl))) (λ_ _ _ _=>(zP ai hr rfl (zB (zA 0) zC)))) zC))))))),λds R h=>?_⟩
 obtain ⟨d,n,k,rfl,f,q⟩:=h
 refine ⟨f.no,λc=>?_,λc=>bR q ?_⟩
 ·obtain ⟨es,rfl,le,j,rfl,hj⟩:=f.lst_inv c
  refine ⟨λc2=>?_,λc2=>bR q ?_⟩
  ·refine zg.bool jJ (by omega) (λd m=>⟨d,rfl,(hj d m).no,rfl⟩) ⟨_,rfl,bR q ?_⟩
   show (decide _ && _)=_
   rw [c2,qi]
   rfl
  ·show (decide _ && _)=_
   rw [c2]
   rfl
 ·cases d <;> first | rfl | cases c
theorem zHM {k:Nat} {f:Addr} {fd:FuncData} (F:ze K "is_table" "is_table" Y1 f fd) (B:Bl mg) (av:Fn P w K mg base "is_numbers" ["value","count"] k (zG (UM))):zF P w K mg base zU (k + 1) f fd ["value","tall","wide"] (zG (ZC)):=by
 refine zn F zG5 (λds R h=>by obtain ⟨d,h,w,k,rfl,_⟩:=h; rfl) λcdv A outer s H E hr=>⟨_,(zM (zY (wj (yM (wu va rfl B.isinstance_ vH (yI (zA 0) (yI (vW (v:=.ty "list") (u:=.type "list") rfl B.list_ xi rfl) yn))) (vj qe)) (wj (uZ hr.units (yT xT xY rfl B.len_ xU (zB (zA 0) zC)) (zA 1)) (vh (yT (u6 rfl) jI rfl B.all_ u7 (zB (yc (own:=["part"]) (caps:=[(2,"wide")]) (yJ (S:=zL Y1) (N:=["value","tall","wide"]) rfl (by decide +kernel) rfl ⟨_,rfl⟩ rfl (by decide +kernel) (by decide +kernel)) rfl rfl ya (yo (zA 0)) (λ_ _ _ _=>(zu 0 (show (["part","wide"]:List Str).Nodup by decide +kernel) rfl (Or.inl rfl))) (λ_ _ _ _=>(zP av hr rfl (zB (zA 0) (zB (zA 1) zC))))) zC))))))),λds R h=>?_⟩
 obtain ⟨d,h,w,k,rfl,f,q⟩:=h
 refine ⟨f.no,λc=>?_,λc=>bR q ?_⟩
 ·obtain ⟨es,rfl,le,j,rfl,hj⟩:=f.lst_inv c
  refine ⟨λc2=>?_,λc2=>bR q ?_⟩
  ·refine zg.bool (Yx w) (by omega) (λd m=>⟨d,w,j,rfl,hj d m,rfl⟩) ⟨_,rfl,bR q ?_⟩
   show (decide _ && _)=_
   rw [c2,qi]
   rfl
  ·show (decide _ && _)=_
   rw [c2]
   rfl
 ·cases d <;> first | rfl | cases c
theorem ZH {k:Nat} {f:Addr} {fd:FuncData} {dv:Value} {j:Nat} (F:yw K "copied" "copied" ZG f fd dv) (B:Bl mg) (aj:wB P w K mg base "copied" ["value","depth"] k (zG (ZE j)) (.int 5)):zF P w K mg base zU (k + 1) f fd ["value","depth"] (zG (ZE (j + 1))):=by
 refine jx F zJP (λds R h=>by obtain ⟨d,n,rfl,_⟩:=h; rfl) λcdv A outer s H E hr=>⟨_,(zH (yG (vM hr.units (zA 1) zE) (zM (zY (zA 0))) yF)
  (zH (yG (xJ (yM (wu va rfl B.isinstance_ vH (yI (zA 0) (yI (vW (v:=.ty "list") (u:=.type "list") rfl B.list_ xi rfl) yn))) (vj qe))) (zM (zY (yc (own:=["part"]) (caps:=[(1,"depth")]) (yJ (S:=zL ZG) (N:=["value","depth"]) rfl (by decide +kernel) rfl ⟨_,rfl⟩ rfl (by decide +kernel) (by decide +kernel)) rfl rfl ya (yo (zA 0)) (λ_ _ _ _=>(zu 0 (show (["part","depth"]:List Str).Nodup by decide +kernel) rfl (Or.inl rfl))) (λ_ _ _ _=>(zP aj.fn hr rfl (zB (zA 0) (zB (xv (zA 1) zE) zC))))))) yF)
  (zH (yG (xJ (yM (wu va rfl B.isinstance_ vH (yI (zA 0) (yI (vW (v:=.ty "tuple") (u:=.type "tuple") rfl B.tuple_ vI rfl) yn))) (vj UC))) (zM (zY (xE uL ub rfl B.tuple_ vI (zB (yc (own:=["part"]) (caps:=[(1,"depth")]) (yJ (S:=zL ZG) (N:=["value","depth"]) rfl (by decide +kernel) rfl ⟨_,rfl⟩ rfl (by decide +kernel) (by decide +kernel)) rfl rfl ya (yo (zA 0)) (λ_ _ _ _=>(zu 0 (show (["part","depth"]:List Str).Nodup by decide +kernel) rfl (Or.inl rfl))) (λ_ _ _ _=>(zP aj.fn hr rfl (zB (zA 0) (zB (xv (zA 1) zE) zC))))) zC)))) yF)
  (zM (zY (zA 0)))))),λds R h=>?_⟩
 obtain ⟨d,n,rfl,f,q⟩:=h
 refine ⟨λc=>q,λc=>?_⟩
 refine ⟨f.no,λc=>?_,λc=>?_⟩
 ·obtain ⟨es,rfl,le,i,e1,hj⟩:=f.lst_inv c
  cases e1
  refine zg.map id (by omega) (λd m=>⟨d,_,rfl,hj d m,rfl⟩) ?_
  rw [List.map_id]
  exact q
 refine ⟨f.no,λc=>?_,λc=>q⟩
 obtain ⟨es,rfl,le,i,e1,hj⟩:=f.tup_inv c
 cases e1
 refine zg.map id (by omega) (λd m=>⟨d,_,rfl,hj d m,rfl⟩) ?_
 rw [List.map_id]
 exact q
theorem zNT {k:Nat} {f:Addr} {fd:FuncData} {dv:Value} (F:yw K "unit" "unit" Y2 f fd dv) (B:Bl mg):zF P w K mg base zU (k + 1) f fd ["place","wide","number"] (zG (zPV)):=by
 refine jx F zMv (λds R h=>by obtain ⟨p,w,n,rfl,_⟩:=h; rfl) λcdv A outer s H E hr=>⟨_,(zM (zY (yc (own:=["other"]) (caps:=[(0,"place"),(2,"number")]) (yJ (S:=zL Y2) (N:=["place","wide","number"]) rfl (by decide +kernel) rfl ⟨_,rfl⟩ rfl (by decide +kernel) (by decide +kernel)) rfl rfl ya (xA rfl B.range_ (zB (zA 1) zC)) (λ_ _ _ _=>(zu 0 (show (["other","place","number"]:List Str).Nodup by decide +kernel) rfl (Or.inl rfl))) (λ_ _ _ _=>(kK (vM hr.units (zA 0) (zA 1)) (zA 2) zE))))),λds R h=>?_⟩
 obtain ⟨p,w,n,rfl,w0,w1,q⟩:=h
 refine ⟨by omega,by omega,zg.rng0 (λi=>.int (if (i:Int)=p then n else 0)) (by omega) (λk hk=>?_) ?_⟩
 ·refine ⟨λc=>?_,λc=>?_⟩
  ·show D.int n=_
   rw [if_pos (of_decide_eq_true c)]
  ·show D.int 0=_
   rw [if_neg (of_decide_eq_false c)]
 ·unfold za L at q
  rw [List.map_map] at q
  exact q
theorem zJu {k:Nat} {f:Addr} {fd:FuncData} (F:ze K "paired" "paired" Y3 f fd) (B:Bl mg):zF P w K mg base zU (k + 1) f fd ["numbers","others"] (zG (Yy)):=by
 refine zn F zJM (λds R h=>by obtain ⟨d,e,ns,os,rfl,_⟩:=h; rfl) λcdv A outer s H E hr=>⟨_,(zM (zY (yT (Qx rfl) Kf rfl B.sum_ Qv (zB (yc (own:=["number","other"]) (caps:=[]) (yJ (S:=zL Y3) (N:=["numbers","others"]) rfl (by decide +kernel) rfl ⟨0,rfl⟩ rfl (by decide +kernel) (by decide +kernel)) rfl rfl (uc (wH (wH ue))) (uA rfl B.zip_ (zB (zA 0) (zB (zA 1) zC))) (λ_ _ _ _=>(wG rfl (yA 0 (show (["number","other"]:List Str).Nodup by decide +kernel) rfl (Or.inl rfl) (yA 1 (show (["number","other"]:List Str).Nodup by decide +kernel) rfl (Or.inl rfl) wE)))) (λ_ _ _ _=>(yO (zA 0) (zA 1)))) zC)))),λds R h=>?_⟩
 obtain ⟨d,e,ns,os,rfl,h,k,l,bn,bo,q⟩:=h
 refine h.zip k (zPe (λq=>q.1 * q.2) (by rw [List.length_zip]; omega) (λp hp=>⟨(bn _ (List.of_mem_zip hp).1).mono,(bo _ (List.of_mem_zip hp).2).mono,rfl⟩) ⟨_,rfl,?_⟩)
 rw [UN]
 exact q
end
section
variable {P:Program} {w:World} {K:PySem.W.Frag} {mg:Str->Option Value} {base:Heap}
abbrev Y4:Stmt:=zj 21
theorem zG7:zc ["numbers","lists","wide"] ["numbers","lists","wide"] (zL Y4):=.a
abbrev Y5:Stmt:=zj 23
theorem zJO:zc ["value","many"] ["value","many"] (zL Y5):=.a
abbrev Y6:Stmt:=zj 24
theorem zIf:zc ["value","many"] ["value","many"] (zL Y6):=.a
abbrev UQ:Stmt:=zj 25
theorem zJL:zc ["place","many","number","bound"] ["place","many","number","bound"] (zL UQ):=.a
variable {af ag:Addr} (aa:zT K mg "Mode" af) (ab:xa K af) (ac:zT K mg "Thing" ag) (ae:xb K ag)
include aa ab ac ae
theorem zHP {k:Nat} {f:Addr} {fd:FuncData} (F:ze K "added_up" "added_up" Y4 f fd) (B:Bl mg):zF P w K mg base zU (k + 1) f fd ["numbers","lists","wide"] (zG (zMf)):=by
 refine zn F zG7 (λds R h=>by obtain ⟨d,e,ns,ls,w,rfl,_⟩:=h; rfl) λcdv A outer s H E hr=>⟨_,(zM (zY (yc (own:=["place"]) (caps:=[(0,"numbers"),(1,"lists")]) (yJ (S:=zL Y4) (N:=["numbers","lists","wide"]) rfl (by decide +kernel) rfl ⟨_,rfl⟩ rfl (by decide +kernel) (by decide +kernel)) rfl rfl ya (xA rfl B.range_ (zB (zA 2) zC)) (λ_ _ _ _=>(zu 0 (show (["place","numbers","lists"]:List Str).Nodup by decide +kernel) rfl (Or.inr rfl))) (λ_ _ _ _=>(yT (Qx rfl) Kf rfl B.sum_ Qv (zB (yc (own:=["number","part"]) (caps:=[(0,"place")]) (Q1 rfl (by decide +kernel) (by decide +kernel) (by decide +kernel) (by decide +kernel)) rfl rfl (uc (wH (wH ue))) (uA rfl B.zip_ (zB (zA 1) (zB (zA 2) zC))) (λ_ _ _ _=>(wG rfl (yA 0 (show (["number","part","place"]:List Str).Nodup by decide +kernel) rfl (Or.inl rfl) (yA 1 (show (["number","part","place"]:List Str).Nodup by decide +kernel) rfl (Or.inl rfl) wE)))) (λ_ _ _ _=>(yO (zA 0) (zQ (zA 1) (zA 2) (λ_ _=>rfl))))) zC)))))),λds R h=>?_⟩
 obtain ⟨d,e,ns,ls,w,rfl,h,k,lw,ln,bn,bl,q⟩:=h
 refine ⟨by omega,by omega,?_⟩
 rw [show ((w:Nat):Int).toNat=w by omega]
 refine zg.rng0 (λj=>.int (wL ns ls j)) (by omega) (λj hj=>?_) (by unfold L at q; rw [List.map_map] at q; exact q)
 refine h.zipT k λu hu=>vQ (λq=>yZ (.int q.1) (u q.2)) v2 (ZF hu) (λq=>.int (q.1 * q.2.getD j 0)) (by rw [List.length_zip]; omega) (λq hq=>?_) ⟨(ns.zip ls).map λq=>q.1 * q.2.getD j 0,by rw [List.map_map]; rfl,rfl⟩
 have hb:=bl q.2 (List.of_mem_zip hq).2
 rcases hu with rfl | rfl
 all_goals exact ⟨_,vB (j:=j) (by omega) (by omega),(bn _ (List.of_mem_zip hq).1).mono,(jK hb.2 j).mono,rfl⟩
theorem zJz {k:Nat} {f:Addr} {fd:FuncData} (F:ze K "is_row" "is_row" Y5 f fd) (B:Bl mg) (ai:Fn P w K mg base "is_whole" ["thing"] k (zG (j3))):zF P w K mg base zU (k + 1) f fd ["value","many"] (zG (ZD)):=by
 refine zn F zJO (λds R h=>by obtain ⟨d,n,k,rfl,_⟩:=h; rfl) λcdv A outer s H E hr=>⟨_,(zM (zY (wj (yM (wu va rfl B.isinstance_ vH (yI (zA 0) (yI (vW (v:=.ty "tuple") (u:=.type "tuple") rfl B.tuple_ vI rfl) yn))) (vj UC)) (wj (uZ hr.units (yT xT xY rfl B.len_ xU (zB (zA 0) zC)) (zt (zA 1) zE)) (vh (yT (u6 rfl) jI rfl B.all_ u7 (zB (yc (own:=["number"]) (caps:=[]) (yJ (S:=zL Y5) (N:=["value","many"]) rfl (by decide +kernel) rfl ⟨0,rfl⟩ rfl (by decide +kernel) (by decide +kernel)) rfl rfl ya (yo (zA 0)) (λ_ _ _ _=>(zu 0 (show (["number"]:List Str).Nodup by decide +kernel) rfl (Or.inl rfl))) (λ_ _ _ _=>(zP ai hr rfl (zB (zA 0) zC)))) zC))))))),λds R h=>?_⟩
 obtain ⟨d,n,k,rfl,f,q⟩:=h
 refine ⟨f.no,λc=>?_,λc=>bR q ?_⟩
 ·obtain ⟨es,rfl,le,j,rfl,hj⟩:=f.tup_inv c
  refine ⟨λc2=>?_,λc2=>bR q ?_⟩
  ·refine zg.bool jJ (by omega) (λd m=>⟨d,rfl,(hj d m).no,rfl⟩) ⟨_,rfl,bR q ?_⟩
   show (decide _ && _)=_
   rw [c2,qi]
   rfl
  ·show (decide _ && _)=_
   rw [c2]
   rfl
 ·cases d <;> first | rfl | cases c
theorem zIs {k:Nat} {f:Addr} {fd:FuncData} (F:ze K "is_room" "is_room" Y6 f fd) (B:Bl mg) (aS:Fn P w K mg base "is_row" ["value","many"] k (zG (ZD))):zF P w K mg base zU (k + 1) f fd ["value","many"] (zG (zPW)):=by
 refine zn F zIf (λds R h=>by obtain ⟨d,n,k,rfl,_⟩:=h; rfl) λcdv A outer s H E hr=>⟨_,(zM (zY (wj (yM (wu va rfl B.isinstance_ vH (yI (zA 0) (yI (vW (v:=.ty "list") (u:=.type "list") rfl B.list_ xi rfl) yn))) (vj qe)) (vh (yT (u6 rfl) jI rfl B.all_ u7 (zB (yc (own:=["row"]) (caps:=[(1,"many")]) (yJ (S:=zL Y6) (N:=["value","many"]) rfl (by decide +kernel) rfl ⟨_,rfl⟩ rfl (by decide +kernel) (by decide +kernel)) rfl rfl ya (yo (zA 0)) (λ_ _ _ _=>(zu 0 (show (["row","many"]:List Str).Nodup by decide +kernel) rfl (Or.inl rfl))) (λ_ _ _ _=>(zP aS hr rfl (zB (zA 0) (zB (zA 1) zC))))) zC)))))),λds R h=>?_⟩
 obtain ⟨d,n,k,rfl,f,q⟩:=h
 refine ⟨f.no,λc=>?_,λc=>bR q ?_⟩
 ·obtain ⟨es,rfl,le,j,rfl,hj⟩:=f.lst_inv c
  refine zg.bool (uk n) (by omega) (λd m=>⟨d,n,j,rfl,hj d m,rfl⟩) ⟨_,rfl,bR q ?_⟩
  rw [qi]
  rfl
 ·cases d <;> first | rfl | cases c
theorem zJt {k:Nat} {f:Addr} {fd:FuncData} (F:ze K "single" "single" UQ f fd) (B:Bl mg) (aT:wB P w K mg base "unit" ["place","wide","number"] k (zG (zPV)) (.int 1)):zF P w K mg base zU (k + 1) f fd ["place","many","number","bound"] (zG (zKP)):=by
 refine zn F zJL (λds R h=>by obtain ⟨p,w,n,b,rfl,_⟩:=h; rfl) λcdv A outer s H E hr=>⟨_,(zM (zY (zt (xE uL ub rfl B.tuple_ vI (zB (zP aT.fn hr rfl (zB (zA 0) (zB (zA 1) (zB (zA 2) zC)))) zC)) (y3 (zB (zA 3) zC))))),λds R h=>?_⟩
 obtain ⟨p,w,n,b,rfl,w0,w1,q⟩:=h
 refine ⟨p,w,n,rfl,w0,w1,k0,by rw [List.length_map,xO]; show _ + 1<=1000; omega,?_⟩
 unfold U at q
 rw [List.map_append] at q
 exact q
end
abbrev zMT:List Str:=["rows","nexts","steer","push","add","divisor"]
abbrev zMn:List Str:=["many","kept_pushes","kept_modes"]
abbrev vR (C:Addr) (m:MD):D:=.obj C zMT [Rm m.rows,Tb m.nexts,L m.steer,Tb m.push,L m.add,.int m.div]
abbrev yC (b:Int × Int):D:=.tup [.int b.1,.int b.2]
abbrev xy (C CM:Addr) (n:Nat) (bs:List (Int × Int)) (ms:List MD):D:=.obj C zMn [.int (n:Int),.lst (bs.map yC),.lst (ms.map (vR CM))]
theorem vn {k:Nat} {ns:List Int} (h:ns.length<=900):Fw (k + 2) (L ns):=.lst (by rw [List.length_map]; exact h) K9
theorem UR {k:Nat} {ns:List Int} (h:ns.length<=900):Fw (k + 2) (U ns):=.tup (by rw [List.length_map]; exact h) K9
theorem Y7 {k:Nat} {t:List (List Int)} (h:t.length<=900) (h2:∀ r∈t,r.length<=900):Fw (k + 3) (Tb t):=.lst (by rw [List.length_map]; exact h) λd m=>by
 obtain ⟨r,hr,rfl⟩:=List.mem_map.mp m
 exact vn (h2 r hr)
theorem zPU {k:Nat} {t:List (List Int)} (h:t.length<=900) (h2:∀ r∈t,r.length<=900):Fw (k + 3) (Rm t):=.lst (by rw [List.length_map]; exact h) λd m=>by
 obtain ⟨r,hr,rfl⟩:=List.mem_map.mp m
 exact UR (h2 r hr)
theorem zGx (ns:List Int):(ns.map D.int).all jJ=true:=List.all_eq_true.mpr λd m=>by
 obtain ⟨i,_,rfl⟩:=List.mem_map.mp m
 rfl
theorem US {n:Int} {ns:List Int} (h:(ns.length:Int)=n):Yx n (L ns)=true:=by
 show (decide _ && _)=true
 rw [List.length_map,decide_eq_true h,zGx]
 rfl
theorem zMD {h w:Int} {t:List (List Int)} (e:(t.length:Int)=h) (k:∀ r∈t,(r.length:Int)=w):ZB h w (Tb t)=true:=by
 show (decide _ && _)=true
 rw [List.length_map,decide_eq_true e]
 exact List.all_eq_true.mpr λd m=>by
  obtain ⟨r,hr,rfl⟩:=List.mem_map.mp m
  exact US (k r hr)
theorem zOV {n:Int} {ns:List Int} (h:(ns.length:Int)=n + 1):uk n (U ns)=true:=by
 show (decide _ && _)=true
 rw [List.length_map,decide_eq_true h,zGx]
 rfl
theorem zM0 {n:Int} {t:List (List Int)} (k:∀ r∈t,(r.length:Int)=n + 1):zOW n (Rm t)=true:=List.all_eq_true.mpr λd m=>by
 obtain ⟨r,hr,rfl⟩:=List.mem_map.mp m
 exact zOV (k r hr)
def zMc (C:Addr):FL:=λds R=>∃ r n s p a d,ds=[r,n,s,p,a,d]/\Fw 5 r/\Fw 5 n/\Fw 5 s/\Fw 5 p/\Fw 5 a/\R (.obj C zMT [r,n,s,p,a,d])
def zKR:FL:=λds R=>∃ b:Int × Int,ds=[yC b]/\b.1<=b.2/\R (.bool true)
def zKS (C:Addr):FL:=λds R=>∃ (m:MD) (n p:Nat),ds=[vR C m,.int (n:Int),.int (p:Int)]/\uS m n p/\R (.bool true)
def zIK (C:Addr):FL:=λds R=>∃ (n:Nat) (bs:List (Int × Int)) (ms:List MD),ds=[.int (n:Int),.lst (bs.map yC),.lst (ms.map (vR C))]/\wZ n bs ms/\R (.bool true)
def zKO (C CM:Addr):FL:=λds R=>∃ (n:Nat) (bs:List (Int × Int)) (ms:List MD),ds=[.int (n:Int),.lst (bs.map yC),.lst (ms.map (vR CM))]/\wZ n bs ms/\R (xy C CM n bs ms)
def UT (C CM:Addr):FL:=λds R=>∃ n bs ms,ds=[xy C CM n bs ms]/\R (.lst (bs.map yC))
def zMb (C CM:Addr):FL:=λds R=>∃ n bs ms,ds=[xy C CM n bs ms]/\R (.lst (ms.map (vR CM)))
def Y8 (ms:List MD):Bool:=ms.all λm=>m.steer.all λx=>decide (x=0)
def zFa (C:Addr):FL:=λds R=>∃ m,ds=[vR C m]/\m.steer.length<=900/\R (.bool (m.steer.all λx=>decide (x=0)))
def zKU (C CM:Addr):FL:=λds R=>∃ n bs ms,ds=[xy C CM n bs ms]/\wZ n bs ms/\R (.bool (Y8 ms))
def UU (C CM:Addr):FL:=λds R=>∃ n bs ms,ds=[xy C CM n bs ms]/\wZ n bs ms/\Y8 ms=true/\R .non
theorem ZI {ns:List Int} {G:D->(D->Prop)->Prop} {R:D->Prop} (g:Int->Bool) (few:ns.length<=1000) (h:∀ n,n∈ns->G (.int n) λe=>e=.bool (g n)) (q:R (.lst ((ns.map g).map D.bool))):zg (ns.map D.int) G R:=
 vQ D.int yB (λ_=>rfl) (λn=>.bool (g n)) few h (by rw [List.map_map] at q; exact q)
def xH (d:D):MD:=match d with
 | .obj _ _ [.lst r,.lst n,s,.lst p,a,d]=>⟨r.map zz,n.map zz,zz s,p.map zz,zz a,yB d⟩
 | _=>⟨[],[],[],[],[],0⟩
theorem zMB (t:List (List Int)):(t.map L).map zz=t:=by
 rw [List.map_map,show (zz ∘ L)=id from funext λr=>qj r]
 exact List.map_id _
theorem zN9 (t:List (List Int)):(t.map U).map zz=t:=by
 rw [List.map_map,show (zz ∘ U)=id from funext λr=>Yz r]
 exact List.map_id _
theorem zJA (C:Addr) (m:MD):xH (vR C m)=m:=by
 show MD.mk ((m.rows.map U).map zz) ((m.nexts.map L).map zz) (zz (L m.steer)) ((m.push.map L).map zz) (zz (L m.add)) m.div=m
 rw [zN9,zMB,zMB,qj,qj]
def UV (d:D):Int × Int:=match d with
 | .tup [x,y]=>(yB x,yB y)
 | _=>(0,0)
section
variable {P:Program} {w:World} {K:PySem.W.Frag} {mg:Str->Option Value} {base:Heap}
abbrev UW:Stmt:=ga (zj 56) 0
theorem zEQ:zc ["self","rows","nexts","steer","push","add","divisor"] ["self","rows","nexts","steer","push","add","divisor"] (zL UW):=.a
abbrev UX:Stmt:=zj 59
theorem zIg:zc ["value"] ["value"] (zL UX):=.a
abbrev UY:Stmt:=zj 60
theorem zIh:zc ["value","many","wide"] ["value","many","wide"] (zL UY):=.a
abbrev ZJ:Stmt:=zj 58
theorem zG6:zc ["many","pushes","modes"] ["many","pushes","modes"] (zL ZJ):=.a
abbrev UZ:Stmt:=ga (zj 57) 0
theorem zD1:zc ["self","many","pushes","modes"] ["self","many","pushes","modes"] (zL UZ):=.a
abbrev Ua:Stmt:=ga (zj 57) 1
theorem zEl:zc ["self"] ["self"] (zL Ua):=.a
abbrev Ub:Stmt:=ga (zj 57) 2
theorem zFJ:zc ["self"] ["self"] (zL Ub):=.a
abbrev Y9:Stmt:=zj 61
theorem zEj:zc ["mode"] ["mode"] (zL Y9):=.a
abbrev XA:Stmt:=ga (zj 57) 3
theorem zDZ:zc ["self"] ["self"] (zL XA):=.a
abbrev Uc:Stmt:=zj 62
theorem zFo:zc ["thing"] ["thing"] (zL Uc):=.a
variable {af ag:Addr} (aa:zT K mg "Mode" af) (ab:xa K af) (ac:zT K mg "Thing" ag) (ae:xb K ag)
include aa ab ac ae
theorem zES {k:Nat} {f:Addr} {fd:FuncData} (F:ze K "__init__" "Mode.__init__" UW f fd) (B:Bl mg) (aj:wB P w K mg base "copied" ["value","depth"] k (zG (ZE 5)) (.int 5)):zF P w K mg base zU (k + 1) f fd ["self","rows","nexts","steer","push","add","divisor"] (vk af (zMc af)):=by
 refine Kx F zEQ (λds R h=>by obtain ⟨r,n,s,p,a,d,rfl,_⟩:=h; rfl) λcdv A outer s H E hr=>⟨_,(zH (yN (uK (yx 0) (ui (.int 5) (λ_=>.int 5) aj hr rfl (zB (zA 1) zC)) rfl) uh)
  (zH (yN (uK (yx 0) (ui (.int 5) (λ_=>.int 5) aj hr rfl (zB (zA 2) zC)) rfl) uh)
  (zH (yN (uK (yx 0) (ui (.int 5) (λ_=>.int 5) aj hr rfl (zB (zA 3) zC)) rfl) uh)
  (zH (yN (uK (yx 0) (ui (.int 5) (λ_=>.int 5) aj hr rfl (zB (zA 4) zC)) rfl) uh)
  (zH (yN (uK (yx 0) (ui (.int 5) (λ_=>.int 5) aj hr rfl (zB (zA 5) zC)) rfl) uh)
  (zM (yN (uK (yx 0) (zA 6) rfl) uh))))))),λo ds R h=>?_⟩
 obtain ⟨r,n,s,p,a,d,rfl,f1,f2,f3,f4,f5,q⟩:=h
 refine ⟨r,5,rfl,f1,⟨aa.cl,ab.n_rows⟩,by decide +kernel,by decide,rfl,?_⟩
 refine ⟨n,5,rfl,f2,⟨aa.cl,ab.n_nexts⟩,by decide +kernel,by decide,rfl,?_⟩
 refine ⟨s,5,rfl,f3,⟨aa.cl,ab.n_steer⟩,by decide +kernel,by decide,rfl,?_⟩
 refine ⟨p,5,rfl,f4,⟨aa.cl,ab.n_push⟩,by decide +kernel,by decide,rfl,?_⟩
 refine ⟨a,5,rfl,f5,⟨aa.cl,ab.n_add⟩,by decide +kernel,by decide,rfl,?_⟩
 exact ⟨⟨aa.cl,ab.n_divisor⟩,by decide +kernel,by decide,rfl,rfl,q⟩
theorem zIt {k:Nat} {f:Addr} {fd:FuncData} (F:ze K "is_push" "is_push" UX f fd) (B:Bl mg) (ai:Fn P w K mg base "is_whole" ["thing"] k (zG (j3))):zF P w K mg base zU (k + 1) f fd ["value"] (zG (zKR)):=by
 refine zn F zIg (λds R h=>by obtain ⟨b,rfl,_⟩:=h; rfl) λcdv A outer s H E hr=>⟨_,(zH (yG (PW.pt (w4 (wU (xJ (yM (wu va rfl B.isinstance_ vH (yI (zA 0) (yI (vW (v:=.ty "tuple") (u:=.type "tuple") rfl B.tuple_ vI rfl) yn))) (vj UC)))) (vN (qd hr.units (yT xT xY rfl B.len_ xU (zB (zA 0) zC)) zE)))) (zM (zY vL)) yF)
  (zM (zY (wj (zP ai hr rfl (zB (zQ (zA 0) zE (λ_ _=>rfl)) zC)) (wj (zP ai hr rfl (zB (zQ (zA 0) zE (λ_ _=>rfl)) zC)) (vh (KM (zQ (zA 0) zE (λ_ _=>rfl)) (zQ (zA 0) zE (λ_ _=>rfl))))))))),λds R h=>?_⟩
 obtain ⟨b,rfl,h,q⟩:=h
 refine ⟨rfl,wF rfl (wF rfl ?_)⟩
 refine ⟨_,rfl,_,rfl,rfl,wT rfl ?_⟩
 refine ⟨_,rfl,_,rfl,rfl,wT rfl ?_⟩
 exact ⟨_,rfl,_,rfl,bR q (decide_eq_true h).symm⟩
theorem zIu {k:Nat} {f:Addr} {fd:FuncData} (F:ze K "is_mode" "is_mode" UY f fd) (B:Bl mg) (aU:Fn P w K mg base "is_room" ["value","many"] k (zG (zPW))) (aN:Fn P w K mg base "is_table" ["value","tall","wide"] k (zG (ZC))) (av:Fn P w K mg base "is_numbers" ["value","count"] k (zG (UM))) (ai:Fn P w K mg base "is_whole" ["thing"] k (zG (j3))):zF P w K mg base zU (k + 1) f fd ["value","many","wide"] (zG (zKS af)):=by
 refine zn F zIh (λds R h=>by obtain ⟨m,n,p,rfl,_⟩:=h; rfl) λcdv A outer s H E hr=>⟨_,(zH (yG (PW.pt (w4 (wU (xJ (yM (wu zGm rfl B.isinstance_ vH (yI (zA 0) (yI (zOy aa rfl) yn))) zLB))) (vN (wU (xJ (zP aU hr rfl (zB (xZ K (zA 0) rfl) (zB (zA 1) zC)))))))) (zM (zY vL)) yF)
  (zH (yG (PW.pt (w4 (wU (xJ (zP aN hr rfl (zB (xZ K (zA 0) rfl) (zB (zA 1) (zB (zA 1) zC)))))) (vN (wU (xJ (zP aN hr rfl (zB (xZ K (zA 0) rfl) (zB (zA 1) (zB (zA 2) zC))))))))) (zM (zY vL)) yF)
  (zH (yG (PW.pt (w4 (wU (xJ (zP av hr rfl (zB (xZ K (zA 0) rfl) (zB (zA 1) zC))))) (vN (wU (xJ (zP av hr rfl (zB (xZ K (zA 0) rfl) (zB (zA 1) zC)))))))) (zM (zY vL)) yF)
  (zM (zY (wj (zP ai hr rfl (zB (xZ K (zA 0) rfl) zC)) (vh (Wi (xZ K (zA 0) rfl) zE)))))))),λds R h=>?_⟩
 obtain ⟨m,n,p,rfl,h,q⟩:=h
 have n3:=h.n3
 have p6:=h.p6
 refine ⟨⟨_,_,aa⟩,_,zLu,wF rfl ?_⟩
 refine ⟨⟨aa.cl,ab.n_rows⟩,_,rfl,_,_,3,rfl,zPU h.few (λr hr=>by rw [h.rows r hr]; omega),wF (by rw [zM0 λr hr=>by rw [h.rows r hr]; rfl]; rfl) ?_⟩
 refine ⟨⟨aa.cl,ab.n_nexts⟩,_,rfl,_,_,_,3,rfl,Y7 (by rw [h.nexts.1]; omega) (λr hr=>by rw [h.nexts.2 r hr]; omega),wF (by rw [zMD (by rw [h.nexts.1]) (λr hr=>by rw [h.nexts.2 r hr])]; rfl) ?_⟩
 refine ⟨⟨aa.cl,ab.n_push⟩,_,rfl,_,_,_,3,rfl,Y7 (by rw [h.push.1]; omega) (λr hr=>by rw [h.push.2 r hr]; omega),wF (by rw [zMD (by rw [h.push.1]) (λr hr=>by rw [h.push.2 r hr])]; rfl) ?_⟩
 refine ⟨⟨aa.cl,ab.n_steer⟩,_,rfl,_,_,2,rfl,vn (by rw [h.steer]; omega),wF (by rw [US (by rw [h.steer])]; rfl) ?_⟩
 refine ⟨⟨aa.cl,ab.n_add⟩,_,rfl,_,_,2,rfl,vn (by rw [h.add]; omega),wF (by rw [US (by rw [h.add])]; rfl) ?_⟩
 refine ⟨⟨aa.cl,ab.n_divisor⟩,_,rfl,_,rfl,rfl,wT rfl ?_⟩
 exact ⟨⟨aa.cl,ab.n_divisor⟩,_,rfl,bR q (decide_eq_true h.div).symm⟩
theorem zHN {k:Nat} {f:Addr} {fd:FuncData} (F:ze K "is_sound" "is_sound" ZJ f fd) (B:Bl mg) (ai:Fn P w K mg base "is_whole" ["thing"] k (zG (j3))) (aV:Fn P w K mg base "is_push" ["value"] k (zG (zKR))) (aW:Fn P w K mg base "is_mode" ["value","many","wide"] k (zG (zKS af))):zF P w K mg base zU (k + 1) f fd ["many","pushes","modes"] (zG (zIK af)):=by
 refine zn F zG6 (λds R h=>by obtain ⟨n,bs,ms,rfl,_⟩:=h; rfl) λcdv A outer s H E hr=>⟨_,(zH (yG (PW.pt (w4 (wU (xJ (zP ai hr rfl (zB (zA 0) zC)))) (w4 (jq (zA 0) zE) (vN (jr (zA 0) (We rfl B.MOST_NUMBERS_)))))) (zM (zY vL)) yF)
  (zH (yG (PW.pt (w4 (wU (xJ (yM (wu va rfl B.isinstance_ vH (yI (zA 1) (yI (vW (v:=.ty "list") (u:=.type "list") rfl B.list_ xi rfl) yn))) (vj qe)))) (vN (wU (xJ (yT (u6 rfl) jI rfl B.all_ u7 (zB (yc (own:=["push"]) (caps:=[]) (yJ (S:=zL ZJ) (N:=["many","pushes","modes"]) rfl (by decide +kernel) rfl ⟨_,rfl⟩ rfl (by decide +kernel) (by decide +kernel)) rfl rfl ya (yo (zA 1)) (λ_ _ _ _=>(zu 0 (show (["push"]:List Str).Nodup by decide +kernel) rfl (Or.inl rfl))) (λ_ _ _ _=>(zP aV hr rfl (zB (zA 0) zC)))) zC))))))) (zM (zY vL)) yF)
  (zH (yG (PW.pt (w4 (wU (xJ (yM (wu va rfl B.isinstance_ vH (yI (zA 2) (yI (vW (v:=.ty "list") (u:=.type "list") rfl B.list_ xi rfl) yn))) (vj qe)))) (vN (vM hr.units (yT xT xY rfl B.len_ xU (zB (zA 2) zC)) zE)))) (zM (zY vL)) yF)
  (zM (zY (yT (u6 rfl) jI rfl B.all_ u7 (zB (yc (own:=["mode"]) (caps:=[(0,"many"),(1,"pushes")]) (yJ (S:=zL ZJ) (N:=["many","pushes","modes"]) rfl (by decide +kernel) rfl ⟨_,rfl⟩ rfl (by decide +kernel) (by decide +kernel)) rfl rfl ya (yo (zA 2)) (λ_ _ _ _=>(zu 0 (show (["mode","many","pushes"]:List Str).Nodup by decide +kernel) rfl (Or.inl rfl))) (λ_ _ _ _=>(zP aW hr rfl (zB (zA 0) (zB (zA 1) (zB (yT xT xY rfl B.len_ xU (zB (zA 2) zC)) zC)))))) zC))))))),λds R h=>?_⟩
 obtain ⟨n,bs,ms,rfl,h,q⟩:=h
 have n1:=h.n1
 have n3:=h.n3
 have m40:=h.m40
 have m1:=h.m1
 have b6:=h.b6
 refine ⟨_,rfl,rfl,wF rfl (wF (decide_eq_false (by omega)) (wF (decide_eq_false (by omega)) ?_))⟩
 refine ⟨rfl,wF rfl ?_⟩
 refine vQ yC UV (λ_=>rfl) (λ_=>.bool true) (by omega) (λb hb=>⟨b,rfl,h.bok b hb,rfl⟩) ⟨bs.map λ_=>true,by rw [List.map_map]; rfl,?_⟩
 rw [show (bs.map λ_=>true).all id=true from List.all_eq_true.mpr λx hx=>by obtain ⟨_,_,rfl⟩:=List.mem_map.mp hx; rfl]
 refine wF rfl ?_
 refine ⟨rfl,wF rfl (wF (decide_eq_false (by rw [List.length_map]; omega)) ?_)⟩
 refine vQ (vR af) xH (zJA _) (λ_=>.bool true) (by omega) (λm hm=>⟨m,n,bs.length,by rw [List.length_map],h.mok m hm,rfl⟩) ⟨ms.map λ_=>true,by rw [List.map_map]; rfl,bR q ?_⟩
 exact (List.all_eq_true.mpr λx hx=>by obtain ⟨_,_,rfl⟩:=List.mem_map.mp hx; rfl).symm
theorem zD9 {k:Nat} {f:Addr} {fd:FuncData} (F:ze K "__init__" "Thing.__init__" UZ f fd) (B:Bl mg) (aX:Fn P w K mg base "is_sound" ["many","pushes","modes"] k (zG (zIK af))):zF P w K mg base zU (k + 1) f fd ["self","many","pushes","modes"] (vk ag (zKO ag af)):=by
 refine Kx F zD1 (λds R h=>by obtain ⟨n,bs,ms,rfl,_⟩:=h; rfl) λcdv A outer s H E hr=>⟨_,(zH (yG (wU (xJ (zP aX hr rfl (zB (zA 1) (zB (zA 2) (zB (zA 3) zC)))))) (zM kz) yF)
  (zH (yG (PW.pt (w4 (jr (yT xT xY rfl B.len_ xU (zB (zA 2) zC)) (We rfl B.MOST_PUSHES_)) (vN (jr (yT xT xY rfl B.len_ xU (zB (zA 3) zC)) (We rfl B.MOST_MODES_))))) (zM kz) yF)
  (zH (yN (uK (yx 0) (zA 1) rfl) uh)
  (zH (yN (uK (yx 0) (xE wv vO rfl B.list_ xi (zB (zA 2) zC)) rfl) uh)
  (zM (yN (uK (yx 0) (xE wv vO rfl B.list_ xi (zB (zA 3) zC)) rfl) uh)))))),λo ds R h=>?_⟩
 obtain ⟨n,bs,ms,rfl,h,q⟩:=h
 have m40:=h.m40
 have b6:=h.b6
 refine ⟨n,bs,ms,rfl,h,wF rfl ?_⟩
 refine wF (decide_eq_false (by rw [List.length_map]; omega)) (wF (decide_eq_false (by rw [List.length_map]; omega)) ?_)
 refine ⟨⟨ac.cl,ae.n_many⟩,by decide +kernel,by decide,rfl,?_⟩
 refine ⟨⟨ac.cl,ae.n_kept_pushes⟩,by decide +kernel,by decide,rfl,?_⟩
 exact ⟨⟨ac.cl,ae.n_kept_modes⟩,by decide +kernel,by decide,rfl,rfl,q⟩
theorem zEz {k:Nat} {f:Addr} {fd:FuncData} (F:ze K "pushes" "Thing.pushes" Ua f fd) (B:Bl mg):zF P w K mg base zU (k + 1) f fd ["self"] (zG (UT ag af)):=by
 refine zn F zEl (λds R h=>by obtain ⟨n,bs,ms,rfl,_⟩:=h; rfl) λcdv A outer s H E hr=>⟨_,(zM (zY (xE wv vO rfl B.list_ xi (zB (xZ K (zA 0) rfl) zC)))),λds R h=>?_⟩
 obtain ⟨n,bs,ms,rfl,q⟩:=h
 exact ⟨⟨ac.cl,ae.n_kept_pushes⟩,_,rfl,q⟩
theorem zFM {k:Nat} {f:Addr} {fd:FuncData} (F:ze K "modes" "Thing.modes" Ub f fd) (B:Bl mg):zF P w K mg base zU (k + 1) f fd ["self"] (zG (zMb ag af)):=by
 refine zn F zFJ (λds R h=>by obtain ⟨n,bs,ms,rfl,_⟩:=h; rfl) λcdv A outer s H E hr=>⟨_,(zM (zY (xE wv vO rfl B.list_ xi (zB (xZ K (zA 0) rfl) zC)))),λds R h=>?_⟩
 obtain ⟨n,bs,ms,rfl,q⟩:=h
 exact ⟨⟨ac.cl,ae.n_kept_modes⟩,_,rfl,q⟩
theorem zEv {k:Nat} {f:Addr} {fd:FuncData} (F:ze K "is_unsteered" "is_unsteered" Y9 f fd) (B:Bl mg):zF P w K mg base zU (k + 1) f fd ["mode"] (zG (zFa af)):=by
 refine zn F zEj (λds R h=>by obtain ⟨m,rfl,_⟩:=h; rfl) λcdv A outer s H E hr=>⟨_,(zM (zY (yT (u6 rfl) jI rfl B.all_ u7 (zB (yc (own:=["number"]) (caps:=[]) (yJ (S:=zL Y9) (N:=["mode"]) rfl (by decide +kernel) rfl ⟨0,rfl⟩ rfl (by decide +kernel) (by decide +kernel)) rfl rfl ya (yo (xZ K (zA 0) rfl)) (λ_ _ _ _=>(zu 0 (show (["number"]:List Str).Nodup by decide +kernel) rfl (Or.inl rfl))) (λ_ _ _ _=>(uZ hr.units (zA 0) zE))) zC)))),λds R h=>?_⟩
 obtain ⟨m,rfl,h,q⟩:=h
 refine ⟨⟨aa.cl,ab.n_steer⟩,_,rfl,?_⟩
 refine ZI (λx=>decide (x=0)) (by omega) (λn hn=>rfl) ⟨_,rfl,bR q ?_⟩
 rw [qi]
theorem zDn {k:Nat} {f:Addr} {fd:FuncData} (F:ze K "is_closed" "Thing.is_closed" XA f fd) (B:Bl mg) (aY:Fn P w K mg base "is_unsteered" ["mode"] k (zG (zFa af))):zF P w K mg base zU (k + 1) f fd ["self"] (zG (zKU ag af)):=by
 refine zn F zDZ (λds R h=>by obtain ⟨n,bs,ms,rfl,_⟩:=h; rfl) λcdv A outer s H E hr=>⟨_,(zM (zY (yT (u6 rfl) jI rfl B.all_ u7 (zB (yc (own:=["mode"]) (caps:=[]) (yJ (S:=zL XA) (N:=["self"]) rfl (by decide +kernel) rfl ⟨0,rfl⟩ rfl (by decide +kernel) (by decide +kernel)) rfl rfl ya (yo (xZ K (zA 0) rfl)) (λ_ _ _ _=>(zu 0 (show (["mode"]:List Str).Nodup by decide +kernel) rfl (Or.inl rfl))) (λ_ _ _ _=>(zP aY hr rfl (zB (zA 0) zC)))) zC)))),λds R h=>?_⟩
 obtain ⟨n,bs,ms,rfl,h,q⟩:=h
 refine ⟨⟨ac.cl,ae.n_kept_modes⟩,_,rfl,?_⟩
 have m40:=h.m40
 refine vQ (vR af) xH (zJA _) (λm=>.bool (m.steer.all λx=>decide (x=0))) (by omega) (λm hm=>⟨m,rfl,by have:=(h.mok m hm).steer; have:=h.n3; omega,rfl⟩) ⟨ms.map λm=>m.steer.all λx=>decide (x=0),by rw [List.map_map]; rfl,bR q ?_⟩
 rw [qi]
 rfl
theorem zF1 {k:Nat} {f:Addr} {fd:FuncData} (F:ze K "ask_closed" "ask_closed" Uc f fd) (B:Bl mg) (aZ:v4 P w K mg base ag "is_closed" ["self"] k (zG (zKU ag af))):zF P w K mg base zU (k + 1) f fd ["thing"] (zG (UU ag af)):=by
 refine zn F zFo (λds R h=>by obtain ⟨n,bs,ms,rfl,_⟩:=h; rfl) λcdv A outer s H E hr=>⟨_,(zM (yG (wU (xJ (Yt aZ ac hr (zA 0)))) (zM kz) yF)),λds R h=>?_⟩
 obtain ⟨n,bs,ms,rfl,h,c,q⟩:=h
 exact ⟨rfl,by decide +kernel,n,bs,ms,rfl,h,wF (by rw [c]; rfl) q⟩
end
def XB (n p:Nat) (ws:List Int) (b:Int) (m:MD):List Int:=((List.range n).map (wL ws m.nexts)++(List.range p).map (wL ws m.push))++[m.div * b - zm ws m.add]
structure jZ (rows:List (List Int)) (n:Nat):Prop where
 row:∀ r∈rows,r.length=n + 1/\∀ x∈r,Bd 1000 x
 few:rows.length<=500
 nar:n<=100
theorem vo {e:Nat}:Bd e (0:Int):=by
 show (0:Int).natAbs < 2 ^ e
 exact Nat.two_pow_pos e
structure MS (m:MD):Prop where
 nexts:∀ r∈m.nexts,∀ x∈r,Bd 300 x
 push:∀ r∈m.push,∀ x∈r,Bd 300 x
 add:∀ x∈m.add,Bd 300 x
 div:Bd 300 m.div
 rows:∀ r∈m.rows,∀ x∈r,Bd 300 x
 few:m.rows.length<=100
structure RmS (room:List (List Int)) (n:Nat):Prop where
 row:∀ r∈room,r.length=n + 1/\∀ x∈r,Bd 300 x
 few:room.length<=100
theorem RmS.rw {room:List (List Int)} {n:Nat} (h:RmS room n) (n3:n<=3):jZ room n:=⟨λr hr=>⟨(h.row r hr).1,λx hx=>((h.row r hr).2 x hx).mono⟩,by have:=h.few; omega,by omega⟩
theorem jL {e n:Nat} {pl nu:Int} (h:Bd e nu):∀ x∈za pl n nu,Bd e x:=λx hx=>by
 obtain ⟨i,_,rfl⟩:=List.mem_map.mp hx
 show Bd e (if (i:Int)=pl then nu else 0)
 split
 ·exact h
 ·exact vo
structure ThS (n:Nat) (bs:List (Int × Int)) (ms:List MD):Prop where
 ok:wZ n bs ms
 ms:∀ m∈ms,MS m
 bs:∀ b∈bs,Bd 300 b.1/\Bd 300 b.2
theorem XC {r:List Int} {n:Nat} (h:r.length=n + 1):zi (r.map D.int) none (some (-1))=(r.take n).map D.int:=by
 have e1:HT.sIx (r.map D.int).length 0 none=0:=HT.sIx_none _ _
 have e2:HT.sIx (r.map D.int).length (r.map D.int).length (some (-1))=n:=by
  rw [List.length_map,h]
  show (if (-1:Int) < 0 then ((-1:Int) + ((n + 1:Nat):Int)).toNat else min (-1:Int).toNat (n + 1))=n
  rw [if_pos (by decide)]
  omega
 unfold zi
 rw [e1,e2,List.drop_zero,Nat.sub_zero,List.map_take]
theorem j4 (ws:List Int) (b:Int):zi ((ws++[b]).map D.int) none (some (-1))=ws.map D.int:=by
 rw [XC (n:=ws.length) (by rw [List.length_append]; rfl),List.take_append_of_le_length (Nat.le_refl _),List.take_of_length_le (Nat.le_refl _)]
theorem Ud {r:List Int} {n:Nat} (h:r.length=n + 1):yX (r.map D.int) (-1)=some (.int (r.getD n 0)):=by
 rw [kM]
 unfold yX xn
 rw [if_neg (by decide),if_pos (by omega)]
 show Option.map D.int r[((-1:Int) + (r.length:Int)).toNat]? = _
 rw [show ((-1:Int) + (r.length:Int)).toNat=n by omega,List.getElem?_eq_getElem (by omega),List.getD_eq_getElem?_getD,List.getElem?_eq_getElem (by omega)]
 rfl
theorem ZK (ws:List Int) (b:Int):yX ((ws++[b]).map D.int) (-1)=some (.int b):=by
 rw [Ud (n:=ws.length) (by rw [List.length_append]; rfl),List.getD_eq_getElem?_getD,List.getElem?_append_right (Nat.le_refl _),Nat.sub_self]
 rfl
theorem ZM {α:Type} (u:α->D):∀ (xs:List α) (ys:List D),List.zipWith yZ (xs.map u) ys=(xs.zip ys).map λq=>yZ (u q.1) q.2
 | [],_=>rfl
 | _ :: _,[]=>rfl
 | _ :: xs,_ :: ys=>by rw [List.map_cons,List.zipWith_cons_cons,ZM u xs ys]; rfl
theorem zPf {α:Type} {xs:List α} {ys:List D} {G:D->(D->Prop)->Prop} {R:D->Prop} (u:α->D) (v:D->α) (hv:∀ x,v (u x)=x) (g:α->D->Bool) (few:xs.length<=1000) (h:∀ x y,(x,y)∈xs.zip ys->G (yZ (u x) y) λe=>e=.bool (g x y)) (q:R (.lst (((xs.zip ys).map λp=>g p.1 p.2).map D.bool))):zg (List.zipWith yZ (xs.map u) ys) G R:=by
 rw [ZM]
 refine vQ (λp:α × D=>yZ (u p.1) p.2) (λd=>match d with | .tup [a,b]=>(v a,b) | _=>(v .non,.non)) (λp=>?_) (λp=>.bool (g p.1 p.2)) (by rw [List.length_zip]; omega) (λp hp=>h p.1 p.2 hp) (by rw [List.map_map] at q; exact q)
 show (v (u p.1),p.2)=p
 rw [hv]
theorem Fw.mono0 {j:Nat} {a:D} (h:Fw j a):∀ {k:Nat},j<=k->Fw k a:=by
 induction h with
 | lst l _ ih=>
  intro k hk
  obtain ⟨m,rfl⟩:∃ m,k=m + 1:=⟨k - 1,by omega⟩
  exact .lst l λa ha=>ih a ha (by omega)
 | tup l _ ih=>
  intro k hk
  obtain ⟨m,rfl⟩:∃ m,k=m + 1:=⟨k - 1,by omega⟩
  exact .tup l λa ha=>ih a ha (by omega)
 | int i=>intro k hk; obtain ⟨m,rfl⟩:∃ m,k=m + 1:=⟨k - 1,by omega⟩; exact .int i
 | bool i=>intro k hk; obtain ⟨m,rfl⟩:∃ m,k=m + 1:=⟨k - 1,by omega⟩; exact .bool i
 | non=>intro k hk; obtain ⟨m,rfl⟩:∃ m,k=m + 1:=⟨k - 1,by omega⟩; exact .non
 | str i=>intro k hk; obtain ⟨m,rfl⟩:∃ m,k=m + 1:=⟨k - 1,by omega⟩; exact .str i
structure MBd (m:MD):Prop where
 nexts:∀ r∈m.nexts,∀ x∈r,Bd 9000 x
 push:∀ r∈m.push,∀ x∈r,Bd 9000 x
 add:∀ x∈m.add,Bd 9000 x
 div:Bd 9000 m.div
theorem Fw.mono {j k:Nat} {a:D} (h:Fw j a) (l:j<=k:=by decide):Fw k a:=h.mono0 l
theorem MS.mbd {m:MD} (h:MS m):MBd m:=⟨λr hr x hx=>(h.nexts r hr x hx).mono,λr hr x hx=>(h.push r hr x hx).mono,λx hx=>(h.add x hx).mono,h.div.mono⟩
theorem zg.cast {ds ds':List D} {G:D->(D->Prop)->Prop} {R:D->Prop} (e:ds=ds') (h:zg ds' G R):zg ds G R:=by rw [e]; exact h
theorem zN7 {b:Bool} (h:(!b)=false):b=true:=by cases b <;> first | rfl | cases h
def zMa (C CM:Addr):FL:=λds R=>∃ n bs ms m r,ds=[xy C CM n bs ms,vR CM m,U r]/\n<=3/\bs.length<=6/\uS m n bs.length/\MBd m/\r.length=n + 1/\(∀ x∈r,Bd 9000 x)/\R (U (XB n bs.length (r.take n) (r.getD n 0) m))
section
variable {P:Program} {w:World} {K:PySem.W.Frag} {mg:Str->Option Value} {base:Heap}
abbrev Ue:Stmt:=zj 49
theorem Uf:zc ["thing","mode","row","numbers","ahead"] ["thing","mode","row"] (zL Ue):=.a
variable {af ag:Addr} (aa:zT K mg "Mode" af) (ab:xa K af) (ac:zT K mg "Thing" ag) (ae:xb K ag)
include aa ab ac ae
theorem zLf {k:Nat} {f:Addr} {fd:FuncData} (F:ze K "reach" "reach" Ue f fd) (B:Bl mg) (aO:Fn P w K mg base "added_up" ["numbers","lists","wide"] k (zG (zMf))) (ax:v4 P w K mg base ag "pushes" ["self"] k (zG (UT ag af))) (ao:Fn P w K mg base "paired" ["numbers","others"] k (zG (Yy))):zF P w K mg base zU (k + 1) f fd ["thing","mode","row"] (zG (zMa ag af)):=by
 refine zn F Uf (λds R h=>by obtain ⟨n,bs,ms,m,r,rfl,_⟩:=h; rfl) λcdv A outer s H E hr=>⟨_,(zH (zS 3 Uf.nd rfl (Or.inl rfl) (wD (zA 2) wV (xl (xW zE))))
  (zH (zS 4 Uf.nd rfl (Or.inl rfl) (zt (zP aO hr rfl (zB (zA 3) (zB (xZ K (zA 1) rfl) (zB (xZ K (zA 0) rfl) zC)))) (zP aO hr rfl (zB (zA 3) (zB (xZ K (zA 1) rfl) (zB (yT xT xY rfl B.len_ xU (zB (Yt ax ac hr (zA 0)) zC)) zC))))))
  (zM (zY (zt (xE uL ub rfl B.tuple_ vI (zB (zA 4) zC)) (y3 (zB (xv (yO (xZ K (zA 1) rfl) (zQ (zA 2) (xW zE) (λ_ _=>rfl))) (zP ao hr rfl (zB (zA 3) (zB (xZ K (zA 1) rfl) zC)))) zC))))))),λds R h=>?_⟩
 obtain ⟨n,bs,ms,m,r,rfl,n3,b6,MO,MB,lr,br,q⟩:=h
 have lt:(r.take n).length=n:=by rw [List.length_take]; omega
 have bt:∀ x∈r.take n,Bd 9000 x:=λx hx=>br x (List.mem_of_mem_take hx)
 have hp:(List.map yC bs).length=bs.length:=List.length_map ..
 refine ⟨⟨aa.cl,ab.n_nexts⟩,_,rfl,⟨ac.cl,ae.n_many⟩,_,rfl,_,_,r.take n,m.nexts,n,rfl,.inr (by rw [XC lr]),.inl rfl,by omega,by omega,bt,λx hx=>⟨by rw [MO.nexts.2 x hx]; omega,MB.nexts x hx⟩,?_⟩
 refine ⟨⟨aa.cl,ab.n_push⟩,_,rfl,rfl,by decide +kernel,n,bs,ms,rfl,_,_,r.take n,m.push,bs.length,by rw [hp],.inr (by rw [XC lr]),.inl rfl,by omega,by omega,bt,λx hx=>⟨by rw [MO.push.2 x hx]; omega,MB.push x hx⟩,?_⟩
 refine ⟨by rw [List.length_map,List.length_map,List.length_map,List.length_map,List.length_range,List.length_range]; omega,?_⟩
 refine ⟨⟨aa.cl,ab.n_divisor⟩,_,rfl,_,Ud lr,MB.div.mono,(jK br n).mono,⟨aa.cl,ab.n_add⟩,_,rfl,_,_,r.take n,m.add,rfl,.inr (by rw [XC lr]),.inl rfl,by omega,bt,MB.add,k0,?_,?_⟩
 ·rw [List.length_append,List.length_map,List.length_map,List.length_map,List.length_map,List.length_range,List.length_range]
  show _ + 1<=1000
  omega
 ·unfold XB U at q
  rw [List.map_append,List.map_append] at q
  exact q
end
abbrev dF (x:Int):D:=.tup [.int x,.int 1]
def gI (t b:Int):Int:=if b < 0 then -((Nat.gcd t.natAbs b.natAbs:Nat):Int) else ((Nat.gcd t.natAbs b.natAbs:Nat):Int)
def Ug:FL:=λds R=>∃ a b:Int,ds=[.tup [.int a,.int b]]/\R (.int ((Nat.gcd a.natAbs b.natAbs:Nat):Int))
def jM:FL:=λds R=>∃ t b:Int,ds=[.int t,.int b]/\b≠0/\Bd 7000 b/\R (.tup [.int (t.fdiv (gI t b)),.int (b.fdiv (gI t b))])
theorem zN2 (x:Int):(if x < 0 then -x else x)=((x.natAbs:Nat):Int):=by split <;> omega
theorem zL1 (a b:Nat):((a:Nat):Int).fmod ((b:Nat):Int)=((a % b:Nat):Int):=by
 rw [Int.fmod_eq_emod_of_nonneg _ (Int.natCast_nonneg b)]
 rfl
theorem ZN {t b:Int} (h:b≠0):gI t b≠0:=by
 have:0 < Nat.gcd t.natAbs b.natAbs:=Nat.gcd_pos_of_pos_right _ (by omega)
 unfold gI
 split <;> omega
theorem ZO {t b:Int} {e:Nat} (h:b≠0) (hb:Bd e b):Bd e (gI t b):=by
 have:=Nat.gcd_le_right t.natAbs (show 0 < b.natAbs by omega)
 refine hb.of_le ?_
 unfold gI
 split <;> omega
theorem Uh {t c:Int} (h:c=1\/c = -1):t.fdiv (gI t c)=t * c/\c.fdiv (gI t c)=1:=by
 rcases h with rfl | rfl
 ·have e:gI t 1=1:=by unfold gI; rw [if_neg (by decide)]; show ((Nat.gcd t.natAbs 1:Nat):Int)=1; rw [Nat.gcd_one_right]; rfl
  rw [e,Int.fdiv_one,Int.fdiv_one,Int.mul_one]
  exact ⟨rfl,rfl⟩
 ·have e:gI t (-1) = -1:=by unfold gI; rw [if_pos (by decide)]; show -((Nat.gcd t.natAbs 1:Nat):Int) = -1; rw [Nat.gcd_one_right]; rfl
  rw [e]
  constructor
  ·have:=Int.fdiv_neg (a:=t) (b:=1)
   rw [Int.mul_neg,Int.mul_one]
   have e2:t.fdiv (-1)=(-t).fdiv 1:=by
    have:=Int.neg_fdiv_neg (a:=-t) (b:=1)
    rw [Int.neg_neg] at this
    exact this
   rw [e2,Int.fdiv_one]
  ·rfl
section
variable {P:Program} {w:World} {K:PySem.W.Frag} {mg:Str->Option Value} {base:Heap}
abbrev Ui:Stmt:=zj 9
theorem j5:zc ["numbers","common","number","rest","left"] ["numbers"] (zL Ui):=.a
abbrev Uj:Stmt:=zj 10
theorem Uk:zc ["top","bottom","common"] ["top","bottom"] (zL Uj):=.a
variable {af ag:Addr} (aa:zT K mg "Mode" af) (ab:xa K af) (ac:zT K mg "Thing" ag) (ae:xb K ag)
include aa ab ac ae
theorem zD8 {k:Nat} {f:Addr} {fd:FuncData} (F:ze K "common_divisor" "common_divisor" Ui f fd) (B:Bl mg):zF P w K mg base zU (k + 1) f fd ["numbers"] (zG (Ug)):=by
 refine zn F j5 (λds R h=>by obtain ⟨a,b,rfl,_⟩:=h; rfl) λcdv A outer s H E hr=>⟨_,(zH (zS 1 j5.nd rfl (Or.inl rfl) zE)
  (zH (y4 PassesOwn.never rfl (yo (zA 0)) (zu 2 j5.nd rfl (Or.inl rfl)) (zH (zS 3 j5.nd rfl (Or.inl rfl) (yT zL4 zNv rfl B.abs_ zKj (zB (zA 2) zC)))
   (zM (UK PassesOwn.never (qd hr.units (zA 3) zE) (zH (zS 4 j5.nd rfl (Or.inl rfl) (xw (zA 1) (zA 3)))
    (zH (zS 1 j5.nd rfl (Or.inl rfl) (zA 3))
    (zM (zS 3 j5.nd rfl (Or.inl rfl) (zA 4)))))))))
  (zM (zY (zA 1))))),λds R h=>?_⟩
 obtain ⟨a,b,rfl,q⟩:=h
 refine ⟨λk Γ=>∃ s2 s3 s4,Γ=[.sh (.tup [.int a,.int b]),.sh (.int (((match k with | 0=>0 | 1=>a.natAbs | _=>Nat.gcd a.natAbs b.natAbs):Nat):Int)),s2,s3,s4],⟨_,_,_,rfl⟩,?_,?_⟩
 ·have key:∀ (x:Int) (g:Nat) (s3 s4:Sl) (T:W2),(∀ s2 s3 s4,T.nx [.sh (.tup [.int a,.int b]),.sh (.int ((Nat.gcd g x.natAbs:Nat):Int)),s2,s3,s4])->uf (vA 3 (ua jz (KW (jG 2) kL))) (K8 (xI (yz vg (jG 3) (pC (.int 0)))) (uf (vA 4 (yz uY (jG 1) (jG 3))) (uf (vA 1 (jG 3)) (vA 3 (jG 4))))) T [.sh (.tup [.int a,.int b]),.sh (.int ((g:Nat):Int)),.sh (.int x),s3,s4]:=λx g s3 s4 T hT=>by
   refine ⟨λm Γ=>∃ (c r:Nat) (s4:Sl),Γ=[.sh (.tup [.int a,.int b]),.sh (.int ((c:Nat):Int)),.sh (.int x),.sh (.int ((r:Nat):Int)),s4]/\Nat.gcd c r=Nat.gcd g x.natAbs/\r=m,⟨_,g,x.natAbs,s4,by rw [zN2]; rfl,rfl,rfl⟩,?_⟩
   rintro m Γ' ⟨c,r,s4,rfl,hG,rfl⟩
   refine w2 (λc1=>?_) λc1=>?_
   ·have r0:r≠0:=λz=>by rw [z] at c1; cases c1
    refine ⟨by omega,c % r,Nat.mod_lt _ (by omega),r,c % r,_,by rw [zL1]; rfl,?_,rfl⟩
    rw [<- hG,Nat.gcd_comm c r,Nat.gcd_rec r c,Nat.gcd_comm]
   ·have r0:r=0:=by have:=of_decide_eq_true (zN7 c1); omega
    rw [r0,Nat.gcd_zero_right] at hG
    rw [hG]
    exact hT _ _ _
  rintro k d Γ' hk ⟨s2,s3,s4,rfl⟩
  match k,hk with
  | 0,hk=>
   cases hk
   refine key a 0 s3 s4 _ λt2 t3 t4=>⟨t2,t3,t4,?_⟩
   rw [Nat.gcd_zero_left]
   rfl
  | 1,hk=>
   cases hk
   exact key b a.natAbs s3 s4 _ λt2 t3 t4=>⟨t2,t3,t4,rfl⟩
  | _ + 2,hk=>cases hk
 ·rintro Γ' ⟨s2,s3,s4,rfl⟩
  exact q
theorem zHO {k:Nat} {f:Addr} {fd:FuncData} {dv:Value} (F:yw K "fraction" "fraction" Uj f fd dv) (B:Bl mg) (ai:Fn P w K mg base "is_whole" ["thing"] k (zG (j3))) (ay:Fn P w K mg base "common_divisor" ["numbers"] k (zG (Ug))):zF P w K mg base zU (k + 1) f fd ["top","bottom"] (zG (jM)):=by
 refine jx F Uk (λds R h=>by obtain ⟨t,b,rfl,_⟩:=h; rfl) λcdv A outer s H E hr=>⟨_,(zH (yG (PW.pt (w4 (wU (xJ (zP ai hr rfl (zB (zA 0) zC)))) (vN (wU (xJ (zP ai hr rfl (zB (zA 1) zC))))))) (zM kz) yF)
  (zH (yG (vM hr.units (zA 1) zE) (zM kz) yF)
  (zH (zS 2 Uk.nd rfl (Or.inl rfl) (zP ay hr rfl (zB (y3 (zB (zA 0) (zB (zA 1) zC))) zC)))
  (jv (yG (jq (zA 1) zE) (zM (zS 2 Uk.nd rfl (Or.inl rfl) (xW (zA 2)))) yF)
  (zM (zY (y3 (zB (wS (zA 0) (zA 2)) (zB (wS (zA 1) (zA 2)) zC))))))))),λds R h=>?_⟩
 obtain ⟨t,b,rfl,b0,bb,q⟩:=h
 refine ⟨_,rfl,rfl,wF rfl ⟨_,rfl,rfl,wF rfl (wF (decide_eq_false b0) ⟨k0,t,b,rfl,?_⟩)⟩⟩
 refine ⟨λΓ=>Γ=[.sh (.int t),.sh (.int b),.sh (.int (gI t b))],w2 (λc1=>?_) λc1=>?_,?_⟩
 ·unfold gI
  rw [if_pos (of_decide_eq_true c1)]
  rfl
 ·unfold gI
  rw [if_neg (of_decide_eq_false c1)]
  rfl
 rintro Γ' rfl
 have g0:=ZN (t:=t) b0
 have gb:Bd 8000 (gI t b):=(ZO (t:=t) b0 bb).mono
 exact ⟨g0,gb,g0,gb,k0,q⟩
end
abbrev wM (vs:List Int):D:=.lst (vs.map dF)
abbrev ul (t b:Int):D:=.tup [.int (t.fdiv (gI t b)),.int (b.fdiv (gI t b))]
theorem j6 (t:Int):ul t 1=dF t:=by
 have:=Uh (t:=t) (c:=1) (.inl rfl)
 unfold ul dF
 rw [this.1,this.2,Int.mul_one]
theorem zwq {α β:Type} {u:α->D} {v:β->D} {xs:List α} {ys:List β} {k:Nat} {d:D} (h:(List.zipWith yZ (xs.map u) (ys.map v))[k]? = some d):∃ x y,xs[k]? = some x/\ys[k]? = some y/\d=yZ (u x) (v y):=by
 rw [List.getElem?_zipWith,List.getElem?_map,List.getElem?_map] at h
 cases h1:xs[k]? with
 | none=>rw [h1] at h; cases h
 | some x=>
  cases h2:ys[k]? with
  | none=>rw [h1,h2] at h; cases h
  | some y=>rw [h1,h2] at h; cases h; exact ⟨x,y,rfl,rfl,rfl⟩
theorem zGM:∀ {xs ys:List Int} {x y:Int},xs.length=ys.length->zm (xs++[x]) (ys++[y])=zm xs ys + x * y
 | [],[],x,y,_=>by show x * y + 0=0 + x * y; omega
 | a :: xs,b :: ys,x,y,h=>by
  show a * b + zm (xs++[x]) (ys++[y])=a * b + zm xs ys + x * y
  rw [zGM (Nat.succ.inj h)]
  omega
theorem yu {n:Nat} (h:1<=n):Bd n 1:=(Bd.lit (i:=1) (n:=1)).mono h
def j7:FL:=λds R=>∃ us vs:List Int,ds=[U us,wM vs]/\us.length=vs.length/\us.length<=100/\(∀ x∈us,Bd 400 x)/\(∀ x∈vs,Bd 400 x)/\(Bd 1000 (zm us vs)->R (dF (zm us vs)))
def Ul:FL:=λds R=>∃ (us vs:List Int) (b:Int),ds=[U (us++[b]),wM vs]/\us.length=vs.length/\us.length<=100/\(∀ x∈us,Bd 400 x)/\(∀ x∈vs,Bd 400 x)/\(Bd 1000 (zm us vs)->R (dF (zm us vs)))
def zMd:FL:=λds R=>∃ (us vs:List Int) (b:Int),ds=[U (us++[b]),wM vs]/\us.length=vs.length/\us.length<=100/\(∀ x∈us,Bd 400 x)/\(∀ x∈vs,Bd 400 x)/\Bd 1000 b/\R (.bool (decide (zm us vs<=b)))
def Um:FL:=λds R=>∃ x y:Int,ds=[dF x,dF y]/\Bd 1000 x/\Bd 1000 y/\R (dF (x - y))
def Uo:FL:=λds R=>∃ x d:Int,ds=[dF x,.tup [.int 1,.int d]]/\Bd 2000 x/\Bd 300 d/\1<=d/\R (ul x d)
def zMY:FL:=λds R=>∃ x y:Int,ds=[dF x,dF y]/\Bd 2000 x/\Bd 2000 y/\R (.bool (decide (x < y)))
def Up:FL:=λds R=>∃ t b:Int,ds=[ul t b]/\1<=b/\Bd 300 b/\R (.int (-((-t).fdiv b)))
theorem zNt {t b:Int} (h:1<=b):(-(t.fdiv (gI t b))).fdiv (b.fdiv (gI t b))=(-t).fdiv b/\b.fdiv (gI t b)≠0:=by
 have e:gI t b=((Nat.gcd t.natAbs b.natAbs:Nat):Int):=by unfold gI; rw [if_neg (by omega)]
 have gp:(0:Int) < gI t b:=by rw [e]; have:0 < Nat.gcd t.natAbs b.natAbs:=Nat.gcd_pos_of_pos_right _ (by omega); omega
 obtain ⟨t',ht⟩:gI t b ∣ t:=by rw [e]; exact Int.ofNat_dvd_left.mpr (Nat.gcd_dvd_left _ _)
 obtain ⟨b',hb⟩:gI t b ∣ b:=by rw [e]; exact Int.ofNat_dvd_left.mpr (Nat.gcd_dvd_right _ _)
 generalize gI t b=g at *
 have g0:g≠0:=by omega
 have b0:0 < b':=by
  rcases Int.lt_trichotomy b' 0 with z | z | z
  ·have:=Int.mul_neg_of_pos_of_neg gp z; omega
  ·rw [z,Int.mul_zero] at hb; omega
  ·exact z
 have e1:t.fdiv g=t':=by rw [ht]; exact Int.mul_fdiv_cancel_left _ g0
 have e2:b.fdiv g=b':=by rw [hb]; exact Int.mul_fdiv_cancel_left _ g0
 rw [e1,e2]
 refine ⟨?_,by omega⟩
 rw [Int.fdiv_eq_ediv_of_nonneg _ (by omega),Int.fdiv_eq_ediv_of_nonneg _ (by omega),ht,hb,<- Int.mul_neg,Int.mul_ediv_mul_of_pos _ _ gp]
theorem ZP {t b:Int} {e:Nat} (h:1<=b) (hb:Bd e b):Bd e (b.fdiv (gI t b)):=by
 have e1:gI t b=((Nat.gcd t.natAbs b.natAbs:Nat):Int):=by unfold gI; rw [if_neg (by omega)]
 have gp:0 < Nat.gcd t.natAbs b.natAbs:=Nat.gcd_pos_of_pos_right _ (by omega)
 refine hb.of_le ?_
 rw [e1,Int.fdiv_eq_ediv_of_nonneg _ (by omega)]
 have h1:=Int.ediv_nonneg (a:=b) (b:=((Nat.gcd t.natAbs b.natAbs:Nat):Int)) (by omega) (by omega)
 have h2:=Int.ediv_le_self (a:=b) ((Nat.gcd t.natAbs b.natAbs:Nat):Int) (by omega)
 omega
theorem ZQ {d:Int} (h:1<=d):ul 1 d=.tup [.int 1,.int d]:=by
 have e:gI 1 d=1:=by unfold gI; rw [if_neg (by omega)]; show ((Nat.gcd 1 d.natAbs:Nat):Int)=1; rw [Nat.gcd_one_left]; rfl
 unfold ul
 rw [e,Int.fdiv_one,Int.fdiv_one]
section
variable {P:Program} {w:World} {K:PySem.W.Frag} {mg:Str->Option Value} {base:Heap}
abbrev Uq:Stmt:=zj 11
theorem zLH:zc ["one","other"] ["one","other"] (zL Uq):=.a
abbrev Ur:Stmt:=zj 12
theorem zLG:zc ["one","other"] ["one","other"] (zL Ur):=.a
abbrev Us:Stmt:=zj 13
theorem zLF:zc ["one","other"] ["one","other"] (zL Us):=.a
abbrev Ut:Stmt:=zj 14
theorem zFn:zc ["value"] ["value"] (zL Ut):=.a
abbrev Uu:Stmt:=zj 26
theorem j8:zc ["numbers","point","top","bottom","number","part"] ["numbers","point"] (zL Uu):=.a
abbrev Uv:Stmt:=zj 27
theorem zH1:zc ["row","point","total"] ["row","point"] (zL Uv):=.a
abbrev Uw:Stmt:=zj 28
theorem zH0:zc ["row","point","total"] ["row","point"] (zL Uw):=.a
variable {af ag:Addr} (aa:zT K mg "Mode" af) (ab:xa K af) (ac:zT K mg "Thing" ag) (ae:xb K ag)
include aa ab ac ae
theorem zLg {k:Nat} {f:Addr} {fd:FuncData} (F:ze K "minus" "minus" Uq f fd) (B:Bl mg) (ah:wB P w K mg base "fraction" ["top","bottom"] k (zG (jM)) (.int 1)):zF P w K mg base zU (k + 1) f fd ["one","other"] (zG (Um)):=by
 refine zn F zLH (λds R h=>by obtain ⟨x,y,rfl,_⟩:=h; rfl) λcdv A outer s H E hr=>⟨_,(zM (zY (zP ah.fn hr rfl (zB (xv (yO (zQ (zA 0) zE (λ_ _=>rfl)) (zQ (zA 1) zE (λ_ _=>rfl))) (yO (zQ (zA 1) zE (λ_ _=>rfl)) (zQ (zA 0) zE (λ_ _=>rfl)))) (zB (yO (zQ (zA 0) zE (λ_ _=>rfl)) (zQ (zA 1) zE (λ_ _=>rfl))) zC))))),λds R h=>?_⟩
 obtain ⟨x,y,rfl,bx,by_,q⟩:=h
 refine ⟨_,rfl,_,rfl,bx.mono,yu (by decide),_,rfl,_,rfl,by_.mono,yu (by decide),_,rfl,_,rfl,yu (by decide),yu (by decide),_,_,rfl,by decide,yu (by decide),?_⟩
 rw [Int.mul_one,Int.mul_one]
 show R (ul (x - y) 1)
 rw [j6]
 exact q
theorem zLe {k:Nat} {f:Addr} {fd:FuncData} (F:ze K "times" "times" Ur f fd) (B:Bl mg) (ah:wB P w K mg base "fraction" ["top","bottom"] k (zG (jM)) (.int 1)):zF P w K mg base zU (k + 1) f fd ["one","other"] (zG (Uo)):=by
 refine zn F zLG (λds R h=>by obtain ⟨x,d,rfl,_⟩:=h; rfl) λcdv A outer s H E hr=>⟨_,(zM (zY (zP ah.fn hr rfl (zB (yO (zQ (zA 0) zE (λ_ _=>rfl)) (zQ (zA 1) zE (λ_ _=>rfl))) (zB (yO (zQ (zA 0) zE (λ_ _=>rfl)) (zQ (zA 1) zE (λ_ _=>rfl))) zC))))),λds R h=>?_⟩
 obtain ⟨x,d,rfl,bx,bd,d1,q⟩:=h
 refine ⟨_,rfl,_,rfl,bx.mono,yu (by decide),_,rfl,_,rfl,yu (by decide),bd.mono,_,_,rfl,by omega,by rw [Int.one_mul]; exact bd.mono,?_⟩
 rw [Int.mul_one,Int.one_mul]
 exact q
theorem zLd {k:Nat} {f:Addr} {fd:FuncData} (F:ze K "under" "under" Us f fd) (B:Bl mg):zF P w K mg base zU (k + 1) f fd ["one","other"] (zG (zMY)):=by
 refine zn F zLF (λds R h=>by obtain ⟨x,y,rfl,_⟩:=h; rfl) λcdv A outer s H E hr=>⟨_,(zM (zY (KL (yO (zQ (zA 0) zE (λ_ _=>rfl)) (zQ (zA 1) zE (λ_ _=>rfl))) (yO (zQ (zA 1) zE (λ_ _=>rfl)) (zQ (zA 0) zE (λ_ _=>rfl)))))),λds R h=>?_⟩
 obtain ⟨x,y,rfl,bx,by_,q⟩:=h
 refine ⟨_,rfl,_,rfl,bx.mono,yu (by decide),_,rfl,_,rfl,by_.mono,yu (by decide),?_⟩
 rw [Int.mul_one,Int.mul_one]
 exact q
theorem zF0 {k:Nat} {f:Addr} {fd:FuncData} (F:ze K "ceiling_of" "ceiling_of" Ut f fd) (B:Bl mg):zF P w K mg base zU (k + 1) f fd ["value"] (zG (Up)):=by
 refine zn F zFn (λds R h=>by obtain ⟨t,b,rfl,_⟩:=h; rfl) λcdv A outer s H E hr=>⟨_,(zM (zY (xW (wS (xW (zQ (zA 0) zE (λ_ _=>rfl))) (zQ (zA 0) zE (λ_ _=>rfl)))))),λds R h=>?_⟩
 obtain ⟨t,b,rfl,b1,bb,q⟩:=h
 have z:=zNt (t:=t) b1
 refine ⟨_,rfl,_,rfl,z.2,(ZP b1 bb).mono,?_⟩
 rw [z.1]
 exact q
theorem zIo {k:Nat} {f:Addr} {fd:FuncData} (F:ze K "raw_sum" "raw_sum" Uu f fd) (B:Bl mg):zF P w K mg base zU (k + 1) f fd ["numbers","point"] (zG (j7)):=by
 refine zn F j8 (λds R h=>by obtain ⟨us,vs,rfl,_⟩:=h; rfl) λcdv A outer s H E hr=>⟨_,(zH (zS 2 j8.nd rfl (Or.inl rfl) zE)
  (zH (zS 3 j8.nd rfl (Or.inl rfl) zE)
  (zH (y4 PassesOwn.never rfl (uA rfl B.zip_ (zB (zA 0) (zB (zA 1) zC))) (wG rfl (yA 4 j8.nd rfl (Or.inl rfl) (yA 5 j8.nd rfl (Or.inl rfl) wE))) (zH (zS 2 j8.nd rfl (Or.inl rfl) (zt (yO (zA 2) (zQ (zA 5) zE (λ_ _=>rfl))) (yO (yO (zA 4) (zQ (zA 5) zE (λ_ _=>rfl))) (zA 3))))
   (zM (zS 3 j8.nd rfl (Or.inl rfl) (yO (zA 3) (zQ (zA 5) zE (λ_ _=>rfl)))))))
  (zM (zY (y3 (zB (zA 2) (zB (zA 3) zC)))))))),λds R h=>?_⟩
 obtain ⟨us,vs,rfl,lu,l9,bu,bv,q⟩:=h
 refine ⟨λk Γ=>∃ s4 s5,Γ=[.sh (U us),.sh (wM vs),.sh (.int (zm (us.take k) (vs.take k))),.sh (.int 1),s4,s5]/\Bd (801 + k) (zm (us.take k) (vs.take k)),⟨_,_,rfl,vo⟩,?_,?_⟩
 ·rintro k d Γ' hk ⟨s4,s5,rfl,bs⟩
  obtain ⟨x,v,hx,hv,rfl⟩:=zwq hk
  have kl:=(List.getElem?_eq_some_iff.mp hx).1
  have e:zm (us.take (k + 1)) (vs.take (k + 1))=zm (us.take k) (vs.take k) + x * v:=by
   rw [uO hx,uO hv]
   exact zGM (by rw [List.length_take,List.length_take]; omega)
  have bx:=bu x (List.mem_of_getElem? hx)
  have bv':=bv v (List.mem_of_getElem? hv)
  have bxv:=bx.mul bv'
  refine ⟨_,rfl,bs.mono (by omega),yu (by decide),_,rfl,bx.mono,bv'.mono,bxv.mono,yu (by decide),_,rfl,yu (by decide),yu (by decide),.sh (.int x),.sh (dF v),?_,?_⟩
  ·rw [e,Int.mul_one,Int.mul_one]
   rfl
  ·rw [e]
   exact (bs.add (bxv.mono (by omega))).mono (by omega)
 ·rintro Γ' ⟨s4,s5,rfl,bs⟩
  rw [List.length_zipWith,List.length_map,List.length_map,<- lu,Nat.min_self,List.take_of_length_le (Nat.le_refl _),List.take_of_length_le (by omega)] at bs |-
  exact ⟨k0,q (bs.mono (by omega))⟩
theorem zLl {k:Nat} {f:Addr} {fd:FuncData} (F:ze K "along" "along" Uv f fd) (B:Bl mg) (az:Fn P w K mg base "raw_sum" ["numbers","point"] k (zG (j7))) (ah:wB P w K mg base "fraction" ["top","bottom"] k (zG (jM)) (.int 1)):zF P w K mg base zU (k + 1) f fd ["row","point"] (zG (Ul)):=by
 refine zn F zH1 (λds R h=>by obtain ⟨us,vs,b,rfl,_⟩:=h; rfl) λcdv A outer s H E hr=>⟨_,(zH (zS 2 zH1.nd rfl (Or.inl rfl) (zP az hr rfl (zB (wD (zA 0) wV (xl (xW zE))) (zB (zA 1) zC))))
  (zM (zY (zP ah.fn hr rfl (zB (zQ (zA 2) zE (λ_ _=>rfl)) (zB (zQ (zA 2) zE (λ_ _=>rfl)) zC)))))),λds R h=>?_⟩
 obtain ⟨us,vs,b,rfl,lu,l9,bu,bv,q⟩:=h
 refine ⟨us,vs,by rw [j4],lu,l9,bu,bv,λbs=>⟨_,rfl,_,rfl,_,_,rfl,by decide,yu (by decide),?_⟩⟩
 show R (ul (zm us vs) 1)
 rw [j6]
 exact q bs
theorem zLj {k:Nat} {f:Addr} {fd:FuncData} (F:ze K "holds" "holds" Uw f fd) (B:Bl mg) (az:Fn P w K mg base "raw_sum" ["numbers","point"] k (zG (j7))):zF P w K mg base zU (k + 1) f fd ["row","point"] (zG (zMd)):=by
 refine zn F zH0 (λds R h=>by obtain ⟨us,vs,b,rfl,_⟩:=h; rfl) λcdv A outer s H E hr=>⟨_,(zH (zS 2 zH0.nd rfl (Or.inl rfl) (zP az hr rfl (zB (wD (zA 0) wV (xl (xW zE))) (zB (zA 1) zC))))
  (zM (zY (KM (zQ (zA 2) zE (λ_ _=>rfl)) (yO (zQ (zA 0) (xW zE) (λ_ _=>rfl)) (zQ (zA 2) zE (λ_ _=>rfl))))))),λds R h=>?_⟩
 obtain ⟨us,vs,b,rfl,lu,l9,bu,bv,bb,q⟩:=h
 refine ⟨us,vs,by rw [j4],lu,l9,bu,bv,λbs=>⟨_,rfl,_,ZK us b,_,rfl,bb.mono,yu (by decide),?_⟩⟩
 rw [Int.mul_one]
 exact q
end
def zf (n i:Nat) (c r:Int):List Int:=za (i:Int) n c++[r]
theorem vp (n i:Nat) (c r:Int):(zf n i c r).length=n + 1:=by unfold zf; rw [List.length_append,xO]; rfl
theorem j9 {n i j:Nat} {c r:Int} (h:j < n):(zf n i c r).getD j 0=if j=i then c else 0:=by
 unfold zf za
 rw [List.getD_eq_getElem?_getD,List.getElem?_append_left (by rw [List.length_map,List.length_range]; exact h),List.getElem?_map,List.getElem?_range h]
 show (if (j:Int)=(i:Int) then c else 0)=_
 by_cases e:j=i
 ·rw [if_pos (by omega),if_pos e]
 ·rw [if_neg (by omega),if_neg e]
theorem zGR {n i:Nat} {c r:Int}:(zf n i c r).getD n 0=r:=by
 unfold zf
 rw [List.getD_eq_getElem?_getD,List.getElem?_append_right (by rw [xO]; exact Nat.le_refl _),xO,Nat.sub_self]
 rfl
theorem zLJ {n i:Nat} {c r:Int} (k:Int):(zf n i c r).map (λx=>k * x)=zf n i (k * c) (k * r):=by
 unfold zf za
 rw [List.map_append,List.map_map]
 congr 1
 refine List.map_congr_left λj _=>?_
 show k * (if (j:Int)=(i:Int) then c else 0)=_
 split
 ·rfl
 ·exact Int.mul_zero k
theorem zGy {P:Int->Prop} {xs:List Int} {y:Int} (h:∀ x∈xs,P x) (hy:P y):∀ x∈xs++[y],P x:=λx hx=>(List.mem_append.mp hx).elim (h x) λz=>by rw [List.mem_singleton.mp z]; exact hy
theorem zMz {n i e:Nat} {c r:Int} (hc:Bd e c) (hr:Bd e r):∀ x∈zf n i c r,Bd e x:=zGy (jL hc) hr
theorem zNh {z a:Int} (h:a=1\/a = -1):z.fdiv a=z * a:=by
 have:=Uh (t:=z) h
 rcases h with rfl | rfl
 ·rw [Int.fdiv_one,Int.mul_one]
 ·have e2:z.fdiv (-1)=(-z).fdiv 1:=by
   have:=Int.neg_fdiv_neg (a:=-z) (b:=1)
   rw [Int.neg_neg] at this
   exact this
  rw [e2,Int.fdiv_one,Int.mul_neg,Int.mul_one]
theorem vC {e:Nat} {a:Int} (h:a=1\/a = -1) (k:1<=e):Bd e a:=by
 rcases h with rfl | rfl
 ·exact yu k
 ·exact (yu k).neg
theorem XD {a b:Int} (h:a=1\/a = -1) (k:b=1\/b = -1):a * b=1\/a * b = -1:=by
 rcases h with rfl | rfl <;> rcases k with rfl | rfl <;> decide
theorem zOT {a:Int} (h:a=1\/a = -1):a * a=1:=by rcases h with rfl | rfl <;> rfl
theorem ZR {a:Int} (h:a=1\/a = -1):a≠0:=by rcases h with rfl | rfl <;> decide
theorem vq {e:Nat} {a x:Int} (h:a=1\/a = -1) (b:Bd e x):Bd e (a * x):=by
 rcases h with rfl | rfl
 ·rw [Int.one_mul]; exact b
 ·rw [Int.neg_mul,Int.one_mul]; exact b.neg
theorem IS.ixD {d:D} {ns:List Int} (h:IS d ns) {j:Nat} (hj:j < ns.length) {R:D->Prop} (q:R (.int (ns.getD j 0))):Pu.ixD d (.int (j:Int)) R:=by
 rcases h with rfl | rfl <;> exact ⟨_,vB hj rfl,q⟩
theorem IS.ixL {d:D} {ns:List Int} {n:Nat} (h:IS d ns) (hj:ns.length=n + 1) {R:D->Prop} (q:R (.int (ns.getD n 0))):Pu.ixD d (.int (-1)) R:=by
 rcases h with rfl | rfl <;> exact ⟨_,Ud hj,q⟩
theorem XE {es:List D} {i:Nat} {d:D} (h:es[i]? = some d):yX es (i:Int)=some d:=by
 have hl:=(List.getElem?_eq_some_iff.mp h).1
 unfold yX xn
 rw [if_pos (by omega),if_pos (by omega)]
 show es[((i:Nat):Int).toNat]? = _
 rw [show ((i:Nat):Int).toNat=i by omega]
 exact h
theorem zg.enum {es:List D} {G:D->(D->Prop)->Prop} {R:D->Prop} (P:Nat->D->Prop) (few:es.length<=1000) (h:∀ (i:Nat) (x:D),es[i]? = some x->G (yZ (.int (i:Int)) x) λe=>∃ (i':Nat) (x':D),yZ (.int (i:Int)) x=yZ (.int (i':Int)) x'/\P i' e) (q:∀ es',es'.length=es.length->(∀ (i:Nat) (e:D),es'[i]? = some e->P i e)->R (.lst es')):zg (uB 0 es) G R:=
 ⟨by rw [qf]; exact few,λd e=>∃ (i':Nat) (x':D),d=yZ (.int (i':Int)) x'/\P i' e,λd hd=>by
  obtain ⟨i,hi⟩:=List.mem_iff_getElem?.mp hd
  obtain ⟨x,hx,rfl⟩:=qg hi
  rw [Nat.zero_add]
  exact h i x hx,λes' p=>by
  have l:=Paired.length p
  rw [qf] at l
  refine q es' l.symm λi e he=>?_
  have hl:=(List.getElem?_eq_some_iff.mp he).1
  have hi:i < (uB 0 es).length:=by rw [qf]; omega
  obtain ⟨e',he',i',x',ed,hP⟩:=Q2 p (List.getElem?_eq_getElem hi)
  rw [he] at he'
  cases he'
  obtain ⟨x,hx,ex⟩:=qg (List.getElem?_eq_getElem hi)
  rw [ex,Nat.zero_add] at ed
  have:((i:Nat):Int)=((i':Nat):Int):=by injection ed with a; injection a with a b; injection a
  have:i=i':=by omega
  rw [this]
  exact hP⟩
def fFW:FL:=λds R=>∃ (es:List D) (p:Nat) (d:D) (ns:List Int),ds=[.lst es,.int (p:Int)]/\es[p]? = some d/\IS d ns/\p < ns.length/\ns.getD p 0≠0/\es.length<=100/\R (.int (p:Int))
def fPA:FL:=λds R=>∃ (es:List D) (p:Nat),ds=[.lst es,.int (p:Int),.int (p:Int)]/\p < es.length/\es.length<=100/\R (.lst es)
def ZS:FL:=λds R=>∃ (d e:D) (ns ps:List Int) (p:Nat) (la:Int),ds=[d,e,.int (p:Int),.int la]/\IS d ns/\IS e ps/\ns.length=ps.length/\p < ns.length/\ns.length<=100/\la≠0/\Bd 1000 la/\(∀ x∈ns,Bd 1000 x)/\(∀ x∈ps,Bd 1000 x)/\R (L ((ns.zip ps).map λq=>(ps.getD p 0 * q.1 - ns.getD p 0 * q.2).fdiv la))
structure Dg (n:Nat) (es:List D) (cs rs:Nat->Int):Prop where
 len:es.length=n
 row:∀ i d,es[i]? = some d->IS d (zf n i (cs i) (rs i))
def um:FL:=λds R=>∃ (n:Nat) (es:List D) (cs rs:Nat->Int),ds=[.lst es]/\n<=50/\Dg n es cs rs/\(∀ i,i < n->(cs i=1\/cs i = -1)/\Bd 900 (rs i))/\R (wM ((List.range n).map λi=>rs i * cs i))
theorem zI8 {α β γ:Type} (g:α->γ):∀ (xs:List α) (ys:List β),xs.length=ys.length->(xs.zip ys).map (λq=>g q.1)=xs.map g
 | [],[],_=>rfl
 | x :: xs,y :: ys,h=>by rw [List.zip_cons_cons,List.map_cons,zI8 g xs ys (Nat.succ.inj h)]; rfl
theorem zNs {n i j:Nat} {c r pi rho la:Int} (ij:j≠i) (hj:j < n) (hl:la=1\/la = -1):((zf n i c r).zip (zf n j pi rho)).map (λq=>((zf n j pi rho).getD j 0 * q.1 - (zf n i c r).getD j 0 * q.2).fdiv la)=zf n i (pi * la * c) (pi * la * r):=by
 rw [j9 hj,j9 hj,if_pos rfl,if_neg ij,<- zLJ]
 rw [<- zI8 (λx=>pi * la * x) (zf n i c r) (zf n j pi rho) (by rw [vp,vp])]
 refine List.map_congr_left λq _=>?_
 rw [Int.zero_mul,Int.sub_zero,zNh hl]
 rw [Int.mul_assoc,Int.mul_comm q.1 la,<- Int.mul_assoc]
section
variable {P:Program} {w:World} {K:PySem.W.Frag} {mg:Str->Option Value} {base:Heap}
abbrev Ux:Stmt:=zj 31
theorem zDY:zc ["rows","place","number"] ["rows","place"] (zL Ux):=.a
abbrev Uy:Stmt:=zj 32
theorem zEF:zc ["rows","place","found","told"] ["rows","place","found"] (zL Uy):=.a
abbrev XF:Stmt:=zj 33
theorem zIi:zc ["row","pivot","place","last"] ["row","pivot","place","last"] (zL XF):=.a
abbrev ZT:Stmt:=zj 30
theorem uo:zc ["rows","left","last","place","found","pivot"] ["rows"] (zL ZT):=.a
variable {af ag:Addr} (aa:zT K mg "Mode" af) (ab:xa K af) (ac:zT K mg "Thing" ag) (ae:xb K ag)
include aa ab ac ae
theorem zFy {k:Nat} {f:Addr} {fd:FuncData} (F:ze K "first_with" "first_with" Ux f fd) (B:Bl mg):zF P w K mg base zU (k + 1) f fd ["rows","place"] (zG (fFW)):=by
 refine zn F zDY (λds R h=>by obtain ⟨es,p,d,ns,rfl,_⟩:=h; rfl) λcdv A outer s H E hr=>⟨_,(zH (y4 PassesOwn.never rfl (zIk rfl B.range_ (zB (zA 1) (zB (yT xT xY rfl B.len_ xU (zB (zA 0) zC)) zC))) (zu 2 zDY.nd rfl (Or.inl rfl)) (zM (yG (qd hr.units (zQ (zQ (zA 0) (zA 2) (λ_ _=>rfl)) (zA 1) (λ_ _=>rfl)) zE) (zM (zY (zA 2))) yF)))
  (zM (zY xC))),λds R h=>?_⟩
 obtain ⟨es,p,d,ns,rfl,hd,h,pl,n0,few,q⟩:=h
 have hl:=(List.getElem?_eq_some_iff.mp hd).1
 refine ⟨by omega,by omega,by omega,by omega,?_⟩
 refine ⟨λk Γ=>k=0/\Γ=[.sh (.lst es),.sh (.int (p:Int)),.no],⟨rfl,rfl⟩,?_,?_⟩
 ·rintro k d' Γ' hk ⟨rfl,rfl⟩
  have e:d'=.int (p:Int):=by
   unfold rng at hk
   rw [List.getElem?_map] at hk
   rw [List.getElem?_range (by omega)] at hk
   have:=Option.some.inj hk
   rw [<- this]
   show D.int ((p:Int) + 0)=_
   rw [Int.add_zero]
  subst e
  refine ⟨_,XE hd,h.ixD pl (wT ?_ q)⟩
  show (!decide _)=true
  rw [decide_eq_false n0]
  rfl
 ·rintro Γ' ⟨e,rfl⟩
  unfold rng at e
  rw [List.length_map,List.length_range] at e
  omega
theorem zGV {k:Nat} {f:Addr} {fd:FuncData} (F:ze K "put_ahead" "put_ahead" Uy f fd) (B:Bl mg):zF P w K mg base zU (k + 1) f fd ["rows","place","found"] (zG (fPA)):=by
 refine zn F zEF (λds R h=>by obtain ⟨es,p,rfl,_⟩:=h; rfl) λcdv A outer s H E hr=>⟨_,(zH (zLL 3 zEF.nd rfl (Or.inl rfl) rfl B.list_ (zB (zA 0) zC))
  (zH (yN (Z5 (zQ (zA 0) (zA 2) (λ_ _=>rfl)) (Xw (yx 3) (zA 1) jc)) UB)
  (zH (yN (Z5 (zQ (zA 0) (zA 1) (λ_ _=>rfl)) (Xw (yx 3) (zA 2) jc)) UB)
  (zM (wc 3 (zY (zA 3))))))),λds R h=>?_⟩
 obtain ⟨es,p,rfl,pl,few,q⟩:=h
 have ha:yX es (p:Int)=some es[p]:=XE (List.getElem?_eq_getElem pl)
 have hx:xn es.length (p:Int)=some p:=by unfold xn; rw [if_pos (by omega),if_pos (by omega)]; congr 1
 have hs:es.set p es[p]=es:=List.set_getElem_self pl
 refine ⟨_,ha,_,_,rfl,hx,?_⟩
 rw [hs]
 refine ⟨_,ha,_,_,rfl,hx,?_⟩
 rw [hs]
 exact q
theorem zIw {k:Nat} {f:Addr} {fd:FuncData} (F:ze K "cleared" "cleared" XF f fd) (B:Bl mg):zF P w K mg base zU (k + 1) f fd ["row","pivot","place","last"] (zG (ZS)):=by
 refine zn F zIi (λds R h=>by obtain ⟨d,e,ns,ps,p,la,rfl,_⟩:=h; rfl) λcdv A outer s H E hr=>⟨_,(zM (zY (yc (own:=["number","other"]) (caps:=[(0,"row"),(1,"pivot"),(2,"place"),(3,"last")]) (yJ (S:=zL XF) (N:=["row","pivot","place","last"]) rfl (by decide +kernel) rfl ⟨_,rfl⟩ rfl (by decide +kernel) (by decide +kernel)) rfl rfl (uc (wH (wH ue))) (uA rfl B.zip_ (zB (zA 0) (zB (zA 1) zC))) (λ_ _ _ _=>(wG rfl (yA 0 (show (["number","other","row","pivot","place","last"]:List Str).Nodup by decide +kernel) rfl (Or.inl rfl) (yA 1 (show (["number","other","row","pivot","place","last"]:List Str).Nodup by decide +kernel) rfl (Or.inl rfl) wE)))) (λ_ _ _ _=>(wS (xv (yO (zQ (zA 3) (zA 4) (λ_ _=>rfl)) (zA 0)) (yO (zQ (zA 2) (zA 4) (λ_ _=>rfl)) (zA 1))) (zA 5)))))),λds R h=>?_⟩
 obtain ⟨d,e,ns,ps,p,la,rfl,h,k,ll,pl,few,l0,bl,bn,bp,q⟩:=h
 refine h.zip k (zPe (λq=>(ps.getD p 0 * q.1 - ns.getD p 0 * q.2).fdiv la) (by rw [List.length_zip]; omega) (λq hq=>?_) q)
 have h1:=bn _ (List.of_mem_zip hq).1
 have h2:=bp _ (List.of_mem_zip hq).2
 exact k.ixD (by omega) ⟨(jK bp p).mono,h1.mono,h.ixD pl ⟨(jK bn p).mono,h2.mono,l0,bl.mono,rfl⟩⟩
theorem zJs {k:Nat} {f:Addr} {fd:FuncData} (F:ze K "solved" "solved" ZT f fd) (B:Bl mg) (ba:Fn P w K mg base "first_with" ["rows","place"] k (zG (fFW))) (bg:Fn P w K mg base "put_ahead" ["rows","place","found"] k (zG (fPA))) (bh:Fn P w K mg base "cleared" ["row","pivot","place","last"] k (zG (ZS))) (ah:wB P w K mg base "fraction" ["top","bottom"] k (zG (jM)) (.int 1)):zF P w K mg base zU (k + 1) f fd ["rows"] (zG (um)):=by
 refine zn F uo (λds R h=>by obtain ⟨n,es,cs,rs,rfl,_⟩:=h; rfl) λcdv A outer s H E hr=>⟨_,(zH (zS 1 uo.nd rfl (Or.inl rfl) (zA 0))
  (zH (zS 2 uo.nd rfl (Or.inr rfl) zE)
  (zH (y4 PassesOwn.never rfl (xA rfl B.range_ (zB (yT xT xY rfl B.len_ xU (zB (zA 0) zC)) zC)) (zu 3 uo.nd rfl (Or.inr rfl)) (zH (zS 4 uo.nd rfl (Or.inl rfl) (zP ba hr rfl (zB (zA 1) (zB (zA 3) zC))))
   (zH (yG (vm (zA 4) xC) (zM (zY xC)) yF)
   (zH (zS 1 uo.nd rfl (Or.inl rfl) (zP bg hr rfl (zB (zA 1) (zB (zA 3) (zB (zA 4) zC)))))
   (zH (zS 5 uo.nd rfl (Or.inr rfl) (zQ (zA 1) (zA 3) (λ_ _=>rfl)))
   (zH (ug 1 false uo.nd rfl rfl (own:=["number","row"]) (caps:=[(2,"last"),(3,"place"),(5,"pivot")]) (yJ (S:=zL ZT) (N:=["rows","left","last","place","found","pivot"]) rfl (by decide +kernel) rfl ⟨_,rfl⟩ rfl (by decide +kernel) (by decide +kernel)) rfl rfl (uc (wH (wH ue))) (Yv rfl B.enumerate_ (zB (zA 1) zC)) (λ_ _ _ _=>(wG rfl (yA 0 (show (["number","row","last","place","pivot"]:List Str).Nodup by decide +kernel) rfl (Or.inl rfl) (yA 1 (show (["number","row","last","place","pivot"]:List Str).Nodup by decide +kernel) rfl (Or.inl rfl) wE)))) (λ_ _ _ _=>(kK (vM hr.units (zA 0) (zA 3)) (zA 1) (zP bh hr rfl (zB (zA 1) (zB (zA 4) (zB (zA 3) (zB (zA 2) zC))))))) rfl)
   (zM (zS 2 uo.nd rfl (Or.inr rfl) (zQ (zA 5) (zA 3) (λ_ _=>rfl))))))))))
  (zM (zY (yc (own:=["place","row"]) (caps:=[]) (yJ (S:=zL ZT) (N:=["rows","left","last","place","found","pivot"]) rfl (by decide +kernel) rfl ⟨_,rfl⟩ rfl (by decide +kernel) (by decide +kernel)) rfl rfl (uc (wH (wH ue))) (Yv rfl B.enumerate_ (zB (zA 1) zC)) (λ_ _ _ _=>(wG rfl (yA 0 (show (["place","row"]:List Str).Nodup by decide +kernel) rfl (Or.inl rfl) (yA 1 (show (["place","row"]:List Str).Nodup by decide +kernel) rfl (Or.inl rfl) wE)))) (λ_ _ _ _=>(zP ah.fn hr rfl (zB (zQ (zA 1) (xW zE) (λ_ _=>rfl)) (zB (zQ (zA 1) (zA 0) (λ_ _=>rfl)) zC)))))))))),λds R h=>?_⟩
 obtain ⟨n,es,cs,rs,rfl,few,G,hc,q⟩:=h
 have le:=G.len
 refine ⟨by omega,by omega,?_⟩
 rw [show ((es.length:Nat):Int).toNat=n by omega]
 refine ⟨λk Γ=>∃ (fs:List D) (c2 r2:Nat->Int) (la:Int) (s3 s4 s5:Sl),Γ=[.sh (.lst es),.sh (.lst fs),.sh (.int la),s3,s4,s5]/\Dg n fs c2 r2/\(la=1\/la = -1)/\∀ i,i < n->(c2 i=1\/c2 i = -1)/\Bd 900 (r2 i)/\r2 i * c2 i=rs i * cs i,⟨es,cs,rs,1,.no,.no,.no,rfl,G,.inl rfl,λi hi=>⟨(hc i hi).1,(hc i hi).2,rfl⟩⟩,?_,?_⟩
 ·rintro k d Γ' hk ⟨fs,c2,r2,la,s3,s4,s5,rfl,G2,hl,h2⟩
  obtain ⟨kn,rfl⟩:=wm hk
  have lf:=G2.len
  obtain ⟨ck,bk,_⟩:=h2 k kn
  have hd:fs[k]? = some fs[k]:=List.getElem?_eq_getElem (by omega)
  have hr:=G2.row k _ hd
  refine ⟨fs,k,fs[k],_,rfl,hd,hr,by rw [vp]; omega,by rw [j9 kn,if_pos rfl]; exact ZR ck,by omega,wF rfl ⟨fs,k,rfl,by omega,by omega,_,XE hd,?_⟩⟩
  have bR:∀ i,i < n->∀ x∈zf n i (c2 i) (r2 i),Bd 1000 x:=λi hi=>zMz (vC (h2 i hi).1 (by decide)) ((h2 i hi).2.1.mono)
  refine zg.enum (λi e=>IS e (if i=k then zf n i (c2 i) (r2 i) else zf n i (c2 k * la * c2 i) (c2 k * la * r2 i))) (by omega) (λi x hx=>?_) λfs' lf' hf=>?_
  ·have il:=(List.getElem?_eq_some_iff.mp hx).1
   refine w2 (λc1=>?_) λc1=>?_
   ·have e:i=k:=by have:=of_decide_eq_true c1; omega
    refine ⟨i,x,rfl,?_⟩
    rw [if_pos e]
    exact G2.row i x hx
   ·have e:i≠k:=by have:=of_decide_eq_false c1; omega
    refine ⟨x,fs[k],_,_,k,la,rfl,G2.row i x hx,hr,by rw [vp,vp],by rw [vp]; omega,by rw [vp]; omega,ZR hl,vC hl (by decide),bR i (by omega),bR k kn,i,x,rfl,?_⟩
    rw [if_neg e,zNs (λz=>e z.symm) kn hl]
    exact .inl rfl
  refine hr.ixD (by rw [vp]; omega) ?_
  rw [j9 kn,if_pos rfl]
  refine ⟨fs',λi=>if i=k then c2 i else c2 k * la * c2 i,λi=>if i=k then r2 i else c2 k * la * r2 i,c2 k,_,_,_,rfl,⟨by omega,λi e he=>?_⟩,ck,λi hi=>?_⟩
  ·have:=hf i e he
   by_cases c:i=k
   ·rw [if_pos c] at this
    simp only [if_pos c]
    exact this
   ·rw [if_neg c] at this
    simp only [if_neg c]
    exact this
  ·obtain ⟨a1,a2,a3⟩:=h2 i hi
   by_cases c:i=k
   ·simp only [if_pos c]
    exact ⟨a1,a2,a3⟩
   ·simp only [if_neg c]
    have sk:=XD ck hl
    refine ⟨XD sk a1,vq sk a2,?_⟩
    rw [<- a3]
    have:=zOT sk
    grind
 ·rintro Γ' ⟨fs,c2,r2,la,s3,s4,s5,rfl,G2,hl,h2⟩
  have lf:=G2.len
  refine zg.enum (λi e=>e=dF (rs i * cs i)) (by omega) (λi x hx=>?_) λfs' lf' hf=>?_
  ·have il:=(List.getElem?_eq_some_iff.mp hx).1
   obtain ⟨a1,a2,a3⟩:=h2 i (by omega)
   have hr:=G2.row i x hx
   refine hr.ixL (n:=n) (vp ..) (hr.ixD (by rw [vp]; omega) ?_)
   rw [zGR,j9 (by omega),if_pos rfl]
   refine ⟨_,_,rfl,ZR a1,vC a1 (by decide),i,x,rfl,?_⟩
   have z:=Uh (t:=r2 i) a1
   rw [z.1,z.2,a3]
  have e:fs'=((List.range n).map λi=>rs i * cs i).map dF:=by
   refine List.ext_getElem? λi=>?_
   rw [List.map_map,List.getElem?_map]
   by_cases c:i < n
   ·rw [List.getElem?_range c,List.getElem?_eq_getElem (by omega)]
    exact congrArg some (hf i _ (List.getElem?_eq_getElem (by omega)))
   ·rw [List.getElem?_eq_none (by omega),List.getElem?_eq_none (by rw [List.length_range]; omega)]
    rfl
  rw [e]
  exact q
end
theorem xK {α:Type} {f:α->D} {l:List α} {k:Nat} (z:α) (h:k < l.length):yX (l.map f) (k:Int)=some (f (l.getD k z)):=by
 rw [List.getD_eq_getElem?_getD,List.getElem?_eq_getElem h]
 exact XE (by rw [List.getElem?_map,List.getElem?_eq_getElem h]; rfl)
theorem xz {α:Type} {l:List α} {k:Nat} {z:α} (h:k < l.length):l.getD k z∈l:=by
 rw [List.getD_eq_getElem?_getD,List.getElem?_eq_getElem h]
 exact List.getElem_mem h
abbrev Br:=Nat × Int × Int
abbrev rI (n:Nat) (b:Br):List Int:=zf n b.1 b.2.1 (b.2.1 * b.2.2)
abbrev zq (n:Nat) (T:List Br):D:=.lst (T.map λb=>U (rI n b))
abbrev cN (cs:List Nat):D:=.lst (cs.map λx=>.int ((x:Nat):Int))
def yd (n:Nat):List Br:=(List.range n).map λp=>(p,1,0)
def tc (T:List Br) (cs:List Nat) (k:Nat):Br:=T.getD (cs.getD k 0) (0,0,0)
structure Gd (n:Nat) (T:List Br):Prop where
 n1:1<=n
 n3:n<=3
 few:T.length<=60
 ok:∀ b∈T,b.1 < n/\(b.2.1=1\/b.2.1 = -1)/\Bd 390 b.2.2
structure Co (n:Nat) (T:List Br) (cs:List Nat):Prop where
 len:cs.length=n
 lt:∀ k,k < n->cs.getD k 0 < T.length
 pl:∀ k,k < n->(tc T cs k).1=k
theorem Co.ok {n:Nat} {T:List Br} {cs:List Nat} (C:Co n T cs) (G:Gd n T) {k:Nat} (h:k < n):(tc T cs k).1=k/\((tc T cs k).2.1=1\/(tc T cs k).2.1 = -1)/\Bd 390 (tc T cs k).2.2:=⟨C.pl k h,(G.ok _ (xz (C.lt k h))).2⟩
theorem Co.mem {n:Nat} {T:List Br} {cs:List Nat} (C:Co n T cs):∀ c∈cs,c < T.length:=λc hc=>by
 obtain ⟨i,hi,rfl⟩:=List.mem_iff_getElem.mp hc
 have:=C.lt i (by have:=C.len; omega)
 rw [List.getD_eq_getElem?_getD,List.getElem?_eq_getElem hi] at this
 exact this
def vD (d:D):Nat:=(yB d).toNat
theorem XG (x:Nat):vD (.int ((x:Nat):Int))=x:=by show (((x:Nat):Int)).toNat=x; omega
theorem Uz {cs:List Nat} {G:D->(D->Prop)->Prop} {R:D->Prop} (g:Nat->D) (few:cs.length<=1000) (h:∀ c∈cs,G (.int ((c:Nat):Int)) λe=>e=g c) (q:R (.lst (cs.map g))):zg (cs.map λx=>D.int ((x:Nat):Int)) G R:=vQ (λx=>D.int ((x:Nat):Int)) vD XG g few h q
theorem u3 {α β:Type} {f:α->β} {l:List α} {i:Nat} {d:β} (z:α) (h:(l.map f)[i]? = some d):i < l.length/\d=f (l.getD i z):=by
 have hl:=(List.getElem?_eq_some_iff.mp h).1
 rw [List.length_map] at hl
 rw [List.getElem?_map,List.getElem?_eq_getElem hl] at h
 refine ⟨hl,?_⟩
 rw [List.getD_eq_getElem?_getD,List.getElem?_eq_getElem hl]
 exact (Option.some.inj h).symm
theorem KE {n i:Nat} (h:i < n) (z:Nat):(List.range n).getD i z=i:=by
 rw [List.getD_eq_getElem?_getD,List.getElem?_range h]
 rfl
def zPZ:FL:=λds R=>∃ n:Nat,ds=[.int (n:Int)]/\n<=3/\R (zq n (yd n))
def U0:FL:=λds R=>∃ n T cs,ds=[zq n T,cN cs]/\Gd n T/\Co n T cs/\R (wM ((List.range n).map λk=>(tc T cs k).2.2))
def XH:FL:=λds R=>∃ n T cs us b,ds=[zq n T,cN cs,U (us++[b])]/\Gd n T/\Co n T cs/\us.length=n/\(∀ x∈us,Bd 400 x)/\R (wM ((List.range n).map λk=>us.getD k 0 * (tc T cs k).2.1))
def qA:FL:=λds R=>∃ xs:List Int,ds=[wM xs]/\xs.length<=100/\(∀ x∈xs,Bd 1000 x)/\R (.tup [.int 1,L xs])
def ZU:FL:=λds R=>∃ n T cs q w,ds=[zq n T,cN cs,.int ((q:Nat):Int),.int w]/\Gd n T/\Co n T cs/\q < n/\(w=1\/w = -1)/\R (L ((List.range n).map λk=>if k=q then w * (tc T cs k).2.1 else 0))
def uq:FL:=λds R=>∃ (cs:List Nat) (p x:Nat),ds=[cN cs,.int ((p:Nat):Int),.int ((x:Nat):Int)]/\p < cs.length/\cs.length<=100/\R (cN (cs.set p x))
theorem U1 {T:List Br} {cs:List Nat} {k:Nat}:tc T cs k=T.getD (cs.getD k 0) (0,0,0):=rfl
theorem U2 {n:Nat} {us:List Int} (h:us.length=n):(List.range n).map (λk=>us.getD k 0)=us:=by
 refine List.ext_getElem (by rw [List.length_map,List.length_range]; omega) λi h1 h2=>?_
 rw [List.getElem_map,List.getElem_range,List.getD_eq_getElem?_getD,List.getElem?_eq_getElem h2]
 rfl
section
variable {P:Program} {w:World} {K:PySem.W.Frag} {mg:Str->Option Value} {base:Heap}
abbrev XI:Stmt:=zj 37
theorem zMx:zc ["many"] ["many"] (zL XI):=.a
abbrev XJ:Stmt:=zj 39
theorem zEk:zc ["rows","corner"] ["rows","corner"] (zL XJ):=.a
abbrev XM:Stmt:=zj 40
theorem zFk:zc ["rows","corner","row"] ["rows","corner","row"] (zL XM):=.a
abbrev XN:Stmt:=zj 46
theorem XO:zc ["values","bottom","value"] ["values"] (zL XN):=.a
abbrev U3:Stmt:=zj 43
theorem zGP:zc ["corner","place","number"] ["corner","place","number"] (zL U3):=.a
abbrev XQ:Stmt:=zj 41
theorem zFS:zc ["rows","corner","place","number","equations"] ["rows","corner","place","number"] (zL XQ):=.a
variable {af ag:Addr} (aa:zT K mg "Mode" af) (ab:xa K af) (ac:zT K mg "Thing" ag) (ae:xb K ag)
include aa ab ac ae
theorem zNW {k:Nat} {f:Addr} {fd:FuncData} (F:ze K "axes" "axes" XI f fd) (B:Bl mg) (bi:Fn P w K mg base "single" ["place","many","number","bound"] k (zG (zKP))):zF P w K mg base zU (k + 1) f fd ["many"] (zG (zPZ)):=by
 refine zn F zMx (λds R h=>by obtain ⟨n,rfl,_⟩:=h; rfl) λcdv A outer s H E hr=>⟨_,(zM (zY (yc (own:=["place"]) (caps:=[(0,"many")]) (yJ (S:=zL XI) (N:=["many"]) rfl (by decide +kernel) rfl ⟨_,rfl⟩ rfl (by decide +kernel) (by decide +kernel)) rfl rfl ya (xA rfl B.range_ (zB (zA 0) zC)) (λ_ _ _ _=>(zu 0 (show (["place","many"]:List Str).Nodup by decide +kernel) rfl (Or.inl rfl))) (λ_ _ _ _=>(zP bi hr rfl (zB (zA 0) (zB (zA 1) (zB zE (zB zE zC))))))))),λds R h=>?_⟩
 obtain ⟨n,rfl,n3,q⟩:=h
 refine ⟨by omega,by omega,?_⟩
 rw [show ((n:Nat):Int).toNat=n by omega]
 refine zg.rng0 (λp=>U (rI n (p,1,0))) (by omega) (λp hp=>⟨(p:Int),(n:Int),1,0,rfl,by omega,by omega,?_⟩) ?_
 ·rw [show ((n:Nat):Int).toNat=n by omega]
  rfl
 ·unfold zq yd at q
  rw [List.map_map] at q
  exact q
theorem zEy {k:Nat} {f:Addr} {fd:FuncData} (F:ze K "corner_point" "corner_point" XJ f fd) (B:Bl mg) (ap:Fn P w K mg base "solved" ["rows"] k (zG (um))):zF P w K mg base zU (k + 1) f fd ["rows","corner"] (zG (U0)):=by
 refine zn F zEk (λds R h=>by obtain ⟨n,T,cs,rfl,_⟩:=h; rfl) λcdv A outer s H E hr=>⟨_,(zM (zY (zP ap hr rfl (zB (yc (own:=["number"]) (caps:=[(0,"rows")]) (yJ (S:=zL XJ) (N:=["rows","corner"]) rfl (by decide +kernel) rfl ⟨_,rfl⟩ rfl (by decide +kernel) (by decide +kernel)) rfl rfl ya (yo (zA 1)) (λ_ _ _ _=>(zu 0 (show (["number","rows"]:List Str).Nodup by decide +kernel) rfl (Or.inl rfl))) (λ_ _ _ _=>(zQ (zA 1) (zA 0) (λ_ _=>rfl)))) zC)))),λds R h=>?_⟩
 obtain ⟨n,T,cs,rfl,G,C,q⟩:=h
 have n3:=G.n3
 have lc:=C.len
 refine Uz (λc=>U (rI n (T.getD c (0,0,0)))) (by omega) (λc hc=>⟨_,xK (0,0,0) (C.mem c hc),rfl⟩) ?_
 refine ⟨n,_,λk=>(tc T cs k).2.1,λk=>(tc T cs k).2.1 * (tc T cs k).2.2,rfl,by omega,⟨by rw [List.length_map]; exact lc,λi d hd=>?_⟩,λi hi=>⟨(C.ok G hi).2.1,(vq (C.ok G hi).2.1 (C.ok G hi).2.2).mono⟩,?_⟩
 ·obtain ⟨il,rfl⟩:=u3 0 hd
  have e:=C.pl i (by omega)
  refine .inr ?_
  show U (zf n (tc T cs i).1 _ _)=_
  rw [e]
  rfl
 ·have e:(List.range n).map (λk=>(tc T cs k).2.1 * (tc T cs k).2.2 * (tc T cs k).2.1)=(List.range n).map λk=>(tc T cs k).2.2:=List.map_congr_left λk hk=>by
   have:=zOT (C.ok G (List.mem_range.mp hk)).2.1
   grind
  rw [e]
  exact q
theorem zFv {k:Nat} {f:Addr} {fd:FuncData} (F:ze K "weights_of" "weights_of" XM f fd) (B:Bl mg) (ap:Fn P w K mg base "solved" ["rows"] k (zG (um))):zF P w K mg base zU (k + 1) f fd ["rows","corner","row"] (zG (XH)):=by
 refine zn F zFk (λds R h=>by obtain ⟨n,T,cs,us,b,rfl,_⟩:=h; rfl) λcdv A outer s H E hr=>⟨_,(zM (zY (zP ap hr rfl (zB (yc (own:=["place"]) (caps:=[(0,"rows"),(1,"corner"),(2,"row")]) (yJ (S:=zL XM) (N:=["rows","corner","row"]) rfl (by decide +kernel) rfl ⟨_,rfl⟩ rfl (by decide +kernel) (by decide +kernel)) rfl rfl ya (xA rfl B.range_ (zB (yT xT xY rfl B.len_ xU (zB (zA 1) zC)) zC)) (λ_ _ _ _=>(zu 0 (show (["place","rows","corner","row"]:List Str).Nodup by decide +kernel) rfl (Or.inr rfl))) (λ_ _ _ _=>(zt (xE uL ub rfl B.tuple_ vI (zB (yc (own:=["number"]) (caps:=[(0,"place"),(1,"rows")]) (Q1 rfl (by decide +kernel) (by decide +kernel) (by decide +kernel) (by decide +kernel)) rfl rfl ya (yo (zA 2)) (λ_ _ _ _=>(zu 0 (show (["number","place","rows"]:List Str).Nodup by decide +kernel) rfl (Or.inl rfl))) (λ_ _ _ _=>(zQ (zQ (zA 2) (zA 0) (λ_ _=>rfl)) (zA 1) (λ_ _=>rfl)))) zC)) (y3 (zB (zQ (zA 3) (zA 0) (λ_ _=>rfl)) zC))))) zC)))),λds R h=>?_⟩
 obtain ⟨n,T,cs,us,b,rfl,G,C,lu,bu,q⟩:=h
 have n3:=G.n3
 have lc:=C.len
 have lm:(cs.map λx=>D.int ((x:Nat):Int)).length=n:=by rw [List.length_map]; exact lc
 refine ⟨by omega,by omega,?_⟩
 rw [lm,show ((n:Nat):Int).toNat=n by omega]
 refine zg.rng0 (λp=>U (zf n p (tc T cs p).2.1 (us.getD p 0))) (by omega) (λp hp=>?_) ?_
 ·refine Uz (λc=>.int ((rI n (T.getD c (0,0,0))).getD p 0)) (by omega) (λc hc=>⟨_,xK (0,0,0) (C.mem c hc),_,vB (j:=p) (by rw [vp]; omega) rfl,rfl⟩) ?_
  refine ⟨_,vB (j:=p) (by rw [List.length_append]; show p < _ + 1; omega) rfl,k0,by rw [List.length_map]; show _ + 1<=1000; omega,?_⟩
  have e1:(us++[b]).getD p 0=us.getD p 0:=by rw [List.getD_eq_getElem?_getD,List.getD_eq_getElem?_getD,List.getElem?_append_left (by omega)]
  have e2:(cs.map λc=>D.int ((rI n (T.getD c (0,0,0))).getD p 0))=(za (p:Int) n (tc T cs p).2.1).map D.int:=by
   unfold za
   rw [List.map_map]
   refine List.ext_getElem (by rw [List.length_map,List.length_map,List.length_range]; exact lc) λi h1 h2=>?_
   rw [List.length_map] at h1
   rw [List.getElem_map,List.getElem_map,List.getElem_range]
   have e3:T.getD cs[i] (0,0,0)=tc T cs i:=by rw [U1,List.getD_eq_getElem?_getD (l:=cs),List.getElem?_eq_getElem h1]; rfl
   rw [e3]
   show D.int ((zf n (tc T cs i).1 _ _).getD p 0)=D.int (if (i:Int)=(p:Int) then _ else 0)
   rw [C.pl i (by omega),j9 hp]
   by_cases c:p=i
   ·rw [if_pos c,if_pos (by omega),c]
   ·rw [if_neg c,if_neg (by omega)]
  rw [e1,e2]
  unfold zf U
  rw [List.map_append]
  rfl
 ·refine ⟨n,_,λk=>(tc T cs k).2.1,λk=>us.getD k 0,rfl,by omega,⟨by rw [List.length_map,List.length_range],λi d hd=>?_⟩,λi hi=>⟨(C.ok G hi).2.1,(jK bu i).mono⟩,q⟩
  obtain ⟨il,rfl⟩:=u3 0 hd
  rw [List.length_range] at il
  rw [KE il]
  exact .inr rfl
theorem zDm {k:Nat} {f:Addr} {fd:FuncData} (F:ze K "over_one_bottom" "over_one_bottom" XN f fd) (B:Bl mg) (ay:Fn P w K mg base "common_divisor" ["numbers"] k (zG (Ug))):zF P w K mg base zU (k + 1) f fd ["values"] (zG (qA)):=by
 refine zn F XO (λds R h=>by obtain ⟨xs,rfl,_⟩:=h; rfl) λcdv A outer s H E hr=>⟨_,(zH (zS 1 XO.nd rfl (Or.inr rfl) zE)
  (zH (y4 PassesOwn.never rfl (yo (zA 0)) (zu 2 XO.nd rfl (Or.inl rfl)) (zM (zS 1 XO.nd rfl (Or.inr rfl) (wS (yO (zA 1) (zQ (zA 2) zE (λ_ _=>rfl))) (zP ay hr rfl (zB (y3 (zB (zA 1) (zB (zQ (zA 2) zE (λ_ _=>rfl)) zC))) zC))))))
  (zM (zY (y3 (zB (zA 1) (zB (yc (own:=["value"]) (caps:=[(1,"bottom")]) (yJ (S:=zL XN) (N:=["values","bottom","value"]) rfl (by decide +kernel) rfl ⟨_,rfl⟩ rfl (by decide +kernel) (by decide +kernel)) rfl rfl ya (yo (zA 0)) (λ_ _ _ _=>(zu 0 (show (["value","bottom"]:List Str).Nodup by decide +kernel) rfl (Or.inl rfl))) (λ_ _ _ _=>(yO (zQ (zA 0) zE (λ_ _=>rfl)) (wS (zA 1) (zQ (zA 0) zE (λ_ _=>rfl)))))) zC))))))),λds R h=>?_⟩
 obtain ⟨xs,rfl,l9,bx,q⟩:=h
 refine ⟨λk Γ=>∃ s2,Γ=[.sh (wM xs),.sh (.int 1),s2],⟨_,rfl⟩,?_,?_⟩
 ·rintro k d Γ' hk ⟨s2,rfl⟩
  obtain ⟨kl,rfl⟩:=u3 0 hk
  exact ⟨_,rfl,yu (by decide),yu (by decide),_,rfl,k0,1,1,rfl,by decide,yu (by decide),_,rfl⟩
 ·rintro Γ' ⟨s2,rfl⟩
  refine vQ dF (λd=>match d with | .tup [x,_]=>yB x | _=>0) (λ_=>rfl) (λx=>.int (x * 1)) (by omega) (λx hx=>⟨_,rfl,_,rfl,by decide,yu (by decide),(bx x hx).mono,yu (by decide),rfl⟩) ⟨k0,?_⟩
  have e:(xs.map λx=>D.int (x * 1))=xs.map D.int:=List.map_congr_left λx _=>by rw [Int.mul_one]
  rw [e]
  exact q
theorem zGY {k:Nat} {f:Addr} {fd:FuncData} (F:ze K "exchanged" "exchanged" U3 f fd) (B:Bl mg):zF P w K mg base zU (k + 1) f fd ["corner","place","number"] (zG (uq)):=by
 refine zn F zGP (λds R h=>by obtain ⟨cs,p,x,rfl,_⟩:=h; rfl) λcdv A outer s H E hr=>⟨_,(zM (zY (zt (zt (wD (zA 0) wV (xl (zA 1))) (wl (zB (zA 2) zC))) (wD (zA 0) (xl (zt (zA 1) zE)) wV)))),λds R h=>?_⟩
 obtain ⟨cs,p,x,rfl,pl,l9,q⟩:=h
 have e1:HT.sIx (cs.map λx=>D.int ((x:Nat):Int)).length (cs.map λx=>D.int ((x:Nat):Int)).length (some ((p:Nat):Int))=p:=by rw [HT.sIx_nat,List.length_map]; omega
 have e0:HT.sIx (cs.map λx=>D.int ((x:Nat):Int)).length 0 none=0:=HT.sIx_none _ _
 have e2:zi (cs.map λx=>D.int ((x:Nat):Int)) none (some ((p:Nat):Int))=(cs.take p).map λx=>D.int ((x:Nat):Int):=by
  unfold zi
  rw [e0,e1,List.drop_zero,Nat.sub_zero,List.map_take]
 have e3:zi (cs.map λx=>D.int ((x:Nat):Int)) (some (((p:Nat):Int) + 1)) none=(cs.drop (p + 1)).map λx=>D.int ((x:Nat):Int):=by
  unfold zi
  have f1:HT.sIx (cs.map λx=>D.int ((x:Nat):Int)).length 0 (some (((p + 1:Nat)):Int))=p + 1:=by rw [HT.sIx_nat,List.length_map]; omega
  have f2:HT.sIx (cs.map λx=>D.int ((x:Nat):Int)).length (cs.map λx=>D.int ((x:Nat):Int)).length none=cs.length:=by rw [HT.sIx_none,List.length_map]
  rw [show (((p:Nat):Int) + 1)=((p + 1:Nat):Int) by omega,f1,f2,List.take_of_length_le (by rw [List.length_drop,List.length_map]; omega),List.map_drop]
 have l1:(cs.take p).length<=100:=by rw [List.length_take]; omega
 have l2:(cs.drop (p + 1)).length<=100:=by rw [List.length_drop]; omega
 refine ⟨k0,?_,?_,?_⟩
 ·rw [e2,List.length_map]; show _ + 1<=1000; omega
 ·rw [e2,e3,List.length_append,List.length_map,List.length_map]; show _ + 1 + _<=1000; omega
 ·rw [e2,e3]
  unfold cN at q
  rw [List.set_eq_take_append_cons_drop,if_pos pl,List.map_append,List.map_cons] at q
  rw [List.append_assoc]
  exact q
theorem zIn {k:Nat} {f:Addr} {fd:FuncData} (F:ze K "way_off" "way_off" XQ f fd) (B:Bl mg) (aA:Fn P w K mg base "over_one_bottom" ["values"] k (zG (qA))) (ap:Fn P w K mg base "solved" ["rows"] k (zG (um))):zF P w K mg base zU (k + 1) f fd ["rows","corner","place","number"] (zG (ZU)):=by
 refine zn F zFS (λds R h=>by obtain ⟨n,T,cs,q,w,rfl,_⟩:=h; rfl) λcdv A outer s H E hr=>⟨_,(zH (ug 4 false zFS.nd rfl rfl (own:=["other"]) (caps:=[(0,"rows"),(1,"corner"),(2,"place"),(3,"number")]) (yJ (S:=zL XQ) (N:=["rows","corner","place","number","equations"]) rfl (by decide +kernel) rfl ⟨_,rfl⟩ rfl (by decide +kernel) (by decide +kernel)) rfl rfl ya (yo (zA 1)) (λ_ _ _ _=>(zu 0 (show (["other","rows","corner","place","number"]:List Str).Nodup by decide +kernel) rfl (Or.inl rfl))) (λ_ _ _ _=>(zt (wD (zQ (zA 1) (zA 0) (λ_ _=>rfl)) wV (xl (xW zE))) (y3 (zB (kK (vM hr.units (zA 0) (zQ (zA 2) (zA 3) (λ_ _=>rfl))) (zA 4) zE) zC)))) rfl)
  (zM (zY (zQ (zP aA hr rfl (zB (zP ap hr rfl (zB (zA 4) zC)) zC)) zE (λ_ _=>rfl))))),λds R h=>?_⟩
 obtain ⟨n,T,cs,p,w,rfl,G,C,pn,hw,q⟩:=h
 have n3:=G.n3
 have lc:=C.len
 refine Uz (λc=>U (za ((T.getD c (0,0,0)).1:Int) n (T.getD c (0,0,0)).2.1++[if c=cs.getD p 0 then w else 0])) (by omega) (λc hc=>?_) ?_
 ·refine ⟨_,xK (0,0,0) (C.mem c hc),_,xK 0 (by omega),?_⟩
  have e:zi ((rI n (T.getD c (0,0,0))).map D.int) none (some (-1))=(za ((T.getD c (0,0,0)).1:Int) n (T.getD c (0,0,0)).2.1).map D.int:=by
   show zi ((za _ _ _++[_]).map D.int) none (some (-1))=_
   rw [j4]
  have f:∀ z:Int,D.tup (zi ((rI n (T.getD c (0,0,0))).map D.int) none (some (-1))++[.int z])=U (za ((T.getD c (0,0,0)).1:Int) n (T.getD c (0,0,0)).2.1++[z]):=λz=>by
   rw [e]
   unfold U
   rw [List.map_append]
   rfl
  have lz:(zi ((rI n (T.getD c (0,0,0))).map D.int) none (some (-1))).length + 1<=1000:=by rw [e,List.length_map,xO]; omega
  refine w2 (λc1=>⟨k0,lz,?_⟩) λc1=>⟨k0,lz,?_⟩
  ·have z:c=cs.getD p 0:=by have:=of_decide_eq_true c1; omega
   rw [if_pos z]
   exact f w
  ·have z:c≠cs.getD p 0:=by have:=of_decide_eq_false c1; omega
   rw [if_neg z]
   exact f 0
 refine ⟨n,_,λk=>(tc T cs k).2.1,λk=>if k=p then w else 0,rfl,by omega,⟨by rw [List.length_map]; exact lc,λi d hd=>?_⟩,λi hi=>⟨(C.ok G hi).2.1,?_⟩,?_⟩
 ·obtain ⟨il,rfl⟩:=u3 0 hd
  refine .inr ?_
  show U (za (((tc T cs i).1:Nat):Int) n (tc T cs i).2.1++[if cs.getD i 0=cs.getD p 0 then w else 0])=_
  rw [C.pl i (by omega)]
  unfold zf
  by_cases c:i=p
  ·rw [c,if_pos rfl,if_pos rfl]
  ·rw [if_neg c,if_neg λz=>c ?_]
   have h1:=C.pl i (by omega)
   have h2:=C.pl p pn
   rw [U1,z] at h1
   rw [U1] at h2
   omega
 ·show Bd 900 (if i=p then w else 0)
  split
  ·exact vC hw (by decide)
  ·exact vo
 ·refine ⟨_,rfl,by rw [List.length_map,List.length_range]; omega,λx hx=>?_,⟨_,rfl,?_⟩⟩
  ·obtain ⟨k,hk,rfl⟩:=List.mem_map.mp hx
   have hk:=List.mem_range.mp hk
   show Bd 1000 ((if k=p then w else 0) * (tc T cs k).2.1)
   split
   ·exact vC (XD hw (C.ok G hk).2.1) (by decide)
   ·rw [Int.zero_mul]; exact vo
  ·have e:(List.range n).map (λk=>(if k=p then w else 0) * (tc T cs k).2.1)=(List.range n).map λk=>if k=p then w * (tc T cs k).2.1 else 0:=List.map_congr_left λk _=>by
    split
    ·rfl
    ·exact Int.zero_mul _
   rw [e]
   exact q
end
def XR:FL:=λds R=>∃ (cs:List Nat) (fs:List Bool),ds=[cN cs,.lst (fs.map D.bool)]/\fs.length=cs.length/\cs.length<=100/\((∀ p,p < cs.length->fs.getD p false=false)->R .non)/\∀ p,p < cs.length->fs.getD p false=true->R (.int ((p:Nat):Int))
def fFB:FL:=λds R=>∃ n T vs,ds=[zq n T,wM vs]/\Gd n T/\vs.length=n/\(∀ x∈vs,Bd 400 x)/\(∀ b∈T,b.2.1 * vs.getD b.1 0<=b.2.1 * b.2.2)/\R .non
def fFM:FL:=λds R=>∃ n T vs q w,ds=[zq n T,wM vs,L ((List.range n).map λk=>if k=q then w else 0)]/\Gd n T/\vs.length=n/\(∀ x∈vs,Bd 400 x)/\(w=1\/w = -1)/\q < n/\(∃ b∈T,b.1=q/\b.2.1 * w=1)/\∀ i,i < T.length->(T.getD i (0,0,0)).1=q->(T.getD i (0,0,0)).2.1 * w=1->R (.int ((i:Nat):Int))
def qB:FL:=λds R=>∃ (m:Nat) (cs:List Nat) (xs:List Int),ds=[.int (m:Int),cN cs,wM xs]/\m<=100/\cs.length<=100/\xs.length<=100/\(∀ x∈xs,Bd 1000 x)/\∀ zs:List Int,R (.tup [.int 1,L zs])
theorem ZV {n p:Nat} {c:Int} {vs:List Int} (hp:p < n) (hv:vs.length=n):zm (za (p:Int) n c) vs=c * vs.getD p 0:=by
 have e:za (p:Int) n c=(List.range n).map λk=>if k=p then c else 0:=by
  unfold za
  refine List.map_congr_left λk _=>?_
  by_cases h:k=p
  ·rw [if_pos h,if_pos (by omega)]
  ·rw [if_neg h,if_neg (by omega)]
 rw [e]
 have f:=Wa (λk=>if k=p then c else 0) (λk=>vs.getD k 0) (List.range n)
 rw [U2 hv] at f
 rw [f]
 clear f e
 have key:∀ m,((List.range m).map λk=>(if k=p then c else 0) * vs.getD k 0).sum=if p < m then c * vs.getD p 0 else 0:=λm=>by
  induction m with
  | zero=>rfl
  | succ m ih=>
   rw [List.range_succ,List.map_append,List.sum_append,ih]
   show _ + ((if m=p then c else 0) * vs.getD m 0 + 0)=_
   by_cases g:m=p
   ·rw [if_neg (show ¬ p < m by omega),if_pos (show p < m + 1 by omega),if_pos g,g]; omega
   ·rw [if_neg g,Int.zero_mul]
    by_cases h:p < m
    ·rw [if_pos h,if_pos (show p < m + 1 by omega)]; omega
    ·rw [if_neg h,if_neg (show ¬ p < m + 1 by omega)]; omega
 rw [key,if_pos hp]
theorem zJn {ds es:List D} (p:Paired (λd e=>e=d) ds es):es=ds:=by
 induction p with
 | nil=>rfl
 | cons h _ ih=>rw [h,ih]
section
variable {P:Program} {w:World} {K:PySem.W.Frag} {mg:Str->Option Value} {base:Heap}
abbrev XS:Stmt:=zj 42
theorem zDH:zc ["corner","fit","places"] ["corner","fit"] (zL XS):=.a
abbrev U4:Stmt:=zj 44
theorem U5:zc ["room","point","number","row"] ["room","point"] (zL U4):=.a
abbrev U6:Stmt:=zj 45
theorem ur:zc ["room","point","way","met","least","number","row","speed","spare"] ["room","point","way"] (zL U6):=.a
abbrev XT:Stmt:=zj 47
theorem ZW:zc ["count","corner","weights","whole","numbers","number","share"] ["count","corner","weights"] (zL XT):=.a
variable {af ag:Addr} (aa:zT K mg "Mode" af) (ab:xa K af) (ac:zT K mg "Thing" ag) (ae:xb K ag)
include aa ab ac ae
theorem zFK {k:Nat} {f:Addr} {fd:FuncData} {c Pt:Addr} (hI:∀ H,yL.I H ↔ zy Pt "least_place.<locals>.<lambda>" ⟨156,27,156,54⟩ H) (hc:fd.code=.ref c) (T:xx base mg c Pt) (k2:2<=k) (F:ze K "least_place" "least_place" XS f fd) (B:Bl mg):zF P w K mg base zU (k + 1) f fd ["corner","fit"] (zG (XR)):=by
 refine UJ F hc zDH (λds R h=>by obtain ⟨cs,fs,rfl,_⟩:=h; rfl) λA outer s H E hr=>?_
 have hr2:=hr.mono k2
 refine ⟨_,(zH (zJU 2 false zDH.nd rfl rfl (own:=["place"]) (caps:=[(1,"fit")]) (yJ (S:=zL XS) (N:=["corner","fit","places"]) rfl (by decide +kernel) rfl ⟨_,rfl⟩ rfl (by decide +kernel) (by decide +kernel)) rfl rfl ya (xA rfl B.range_ (zB (yT xT xY rfl B.len_ xU (zB (zA 0) zC)) zC)) (λ_ _ _ _=>(zu 0 (show (["place","fit"]:List Str).Nodup by decide +kernel) rfl (Or.inl rfl))) (λ_ _ _ _=>(xJ (zQ (zA 1) (zA 0) (λ_ _=>rfl)))) (λ_ _ _ _=>(zA 0)) rfl)
  (zM (zY (zJV (iy:=0) hI T (zA 2) rfl hr2 rfl B.min_ K3 rfl rfl rfl rfl rfl rfl rfl (by decide) rfl rfl rfl (λ_ _ _ _=>rfl) (by decide) (by decide) (by decide) (by decide))))),λds R h=>?_⟩
 obtain ⟨cs,fs,rfl,lf,l9,q0,q1⟩:=h
 have lm:(cs.map λx=>D.int ((x:Nat):Int)).length=cs.length:=List.length_map ..
 refine ⟨by omega,by omega,?_⟩
 rw [lm,show ((cs.length:Nat):Int).toNat=cs.length by omega]
 refine k6.mk (by rw [w8]; omega) (λd=>fs.getD (vD d) false) (λd e=>e=d) (λd hd=>?_) (λd hd _=>rfl) λes pe=>?_
 ·obtain ⟨j,hj⟩:=List.mem_iff_getElem?.mp hd
  obtain ⟨jl,rfl⟩:=wm hj
  refine ⟨_,xK false (by omega),?_⟩
  rw [XG]
  exact rfl
 cases zJn pe
 have e1:(rng0 cs.length).filter (λd=>fs.getD (vD d) false)=(((List.range cs.length).filter λk=>fs.getD k false).map λ(k:Nat)=>(k:Int)).map D.int:=by
  unfold rng0
  rw [List.filter_map,List.map_map]
  congr 1
 rw [e1]
 have e2:(cN cs)=.lst ((cs.map λ(k:Nat)=>(k:Int)).map D.int):=by rw [List.map_map]; rfl
 refine ⟨_,_,rfl,by rw [<- e2]; rfl,λn hn=>?_,λz=>q0 λp hp=>?_,λn hn _=>?_⟩
 ·obtain ⟨k,hk,rfl⟩:=List.mem_map.mp hn
  have:=List.mem_range.mp (List.mem_filter.mp hk).1
  rw [List.length_map]
  omega
 ·cases h:fs.getD p false with
  | false=>rfl
  | true=>
   have:((p:Nat):Int)∈((List.range cs.length).filter λk=>fs.getD k false).map λ(k:Nat)=>(k:Int):=List.mem_map.mpr ⟨p,List.mem_filter.mpr ⟨List.mem_range.mpr hp,h⟩,rfl⟩
   rw [z] at this
   cases this
 ·obtain ⟨k,hk,rfl⟩:=List.mem_map.mp hn
  exact q1 k (List.mem_range.mp (List.mem_filter.mp hk).1) (List.mem_filter.mp hk).2
theorem zEx {k:Nat} {f:Addr} {fd:FuncData} (F:ze K "first_broken" "first_broken" U4 f fd) (B:Bl mg) (bj:Fn P w K mg base "holds" ["row","point"] k (zG (zMd))):zF P w K mg base zU (k + 1) f fd ["room","point"] (zG (fFB)):=by
 refine zn F U5 (λds R h=>by obtain ⟨n,T,vs,rfl,_⟩:=h; rfl) λcdv A outer s H E hr=>⟨_,(zH (y4 PassesOwn.never rfl (Yv rfl B.enumerate_ (zB (zA 0) zC)) (wG rfl (yA 2 U5.nd rfl (Or.inl rfl) (yA 3 U5.nd rfl (Or.inl rfl) wE))) (zM (yG (wU (xJ (zP bj hr rfl (zB (zA 3) (zB (zA 1) zC))))) (zM (zY (zA 2))) yF)))
  (zM (zY xC))),λds R h=>?_⟩
 obtain ⟨n,T,vs,rfl,G,lv,bv,hh,q⟩:=h
 have n3:=G.n3
 refine ⟨λk Γ=>∃ s2 s3,Γ=[.sh (zq n T),.sh (wM vs),s2,s3],⟨_,_,rfl⟩,?_,?_⟩
 ·rintro k d Γ' hk ⟨s2,s3,rfl⟩
  obtain ⟨x,hx,rfl⟩:=qg hk
  obtain ⟨kl,rfl⟩:=u3 (0,0,0) hx
  have hm:T.getD k (0,0,0)∈T:=xz kl
  obtain ⟨h1,h2,h3⟩:=G.ok _ hm
  refine ⟨za ((T.getD k (0,0,0)).1:Int) n (T.getD k (0,0,0)).2.1,vs,(T.getD k (0,0,0)).2.1 * (T.getD k (0,0,0)).2.2,rfl,by rw [xO]; omega,by rw [xO]; omega,jL (vC h2 (by decide)),bv,(vq h2 h3).mono,wF ?_ ⟨_,_,rfl⟩⟩
  show (!decide _)=false
  rw [ZV h1 lv,decide_eq_true (hh _ hm)]
  rfl
 ·rintro Γ' ⟨s2,s3,rfl⟩
  exact q
theorem zGX {k:Nat} {f:Addr} {fd:FuncData} (F:ze K "first_met" "first_met" U6 f fd) (B:Bl mg) (ah:wB P w K mg base "fraction" ["top","bottom"] k (zG (jM)) (.int 1)) (ao:Fn P w K mg base "paired" ["numbers","others"] k (zG (Yy))) (aB:Fn P w K mg base "times" ["one","other"] k (zG (Uo))) (aD:Fn P w K mg base "minus" ["one","other"] k (zG (Um))) (aE:Fn P w K mg base "along" ["row","point"] k (zG (Ul))) (bw:Fn P w K mg base "under" ["one","other"] k (zG (zMY))):zF P w K mg base zU (k + 1) f fd ["room","point","way"] (zG (fFM)):=by
 refine zn F ur (λds R h=>by obtain ⟨n,T,vs,p,w,rfl,_⟩:=h; rfl) λcdv A outer s H E hr=>⟨_,(zH (zS 3 ur.nd rfl (Or.inl rfl) xC)
  (zH (zS 4 ur.nd rfl (Or.inl rfl) (ui (.int 1) (λ_=>.int 1) ah hr rfl (zB zE zC)))
  (zH (y4 PassesOwn.never rfl (Yv rfl B.enumerate_ (zB (zA 0) zC)) (wG rfl (yA 5 ur.nd rfl (Or.inl rfl) (yA 6 ur.nd rfl (Or.inl rfl) wE))) (zH (zS 7 ur.nd rfl (Or.inl rfl) (zP ao hr rfl (zB (wD (zA 6) wV (xl (xW zE))) (zB (zA 2) zC))))
   (zM (yG (jr (zA 7) zE) (zH (zS 8 ur.nd rfl (Or.inl rfl) (zP aB hr rfl (zB (zP aD hr rfl (zB (ui (.int 1) (λ_=>.int 1) ah hr rfl (zB (zQ (zA 6) (xW zE) (λ_ _=>rfl)) zC)) (zB (zP aE hr rfl (zB (zA 6) (zB (zA 1) zC))) zC))) (zB (zP ah.fn hr rfl (zB zE (zB (zA 7) zC))) zC))))
    (zM (yG (PW.pt (w4 (vm (zA 3) xC) (vN (xJ (zP bw hr rfl (zB (zA 8) (zB (zA 4) zC))))))) (zH (zS 3 ur.nd rfl (Or.inl rfl) (zA 5))
     (zM (zS 4 ur.nd rfl (Or.inl rfl) (zA 8)))) yF))) yF))))
  (zM (zY (zA 3)))))),λds R h=>?_⟩
 obtain ⟨n,T,vs,p,w,rfl,G,lv,bv,hw,pn,hex,q⟩:=h
 have n3:=G.n3
 have few:=G.few
 refine ⟨0,1,rfl,by decide,yu (by decide),?_⟩
 show _
 have lw:((List.range n).map λk=>if k=p then w else 0).length=n:=by rw [List.length_map,List.length_range]
 refine ⟨λk Γ=>∃ (me:D) (x:Int) (s5 s6 s7 s8:Sl),Γ=[.sh (zq n T),.sh (wM vs),.sh (L ((List.range n).map λk=>if k=p then w else 0)),.sh me,.sh (dF x),s5,s6,s7,s8]/\Bd 1100 x/\((me=.non/\∀ j,j < k->¬ ((T.getD j (0,0,0)).1=p/\(T.getD j (0,0,0)).2.1 * w=1))\/∃ i:Nat,me=.int (i:Int)/\i < T.length/\(T.getD i (0,0,0)).1=p/\(T.getD i (0,0,0)).2.1 * w=1),⟨.non,0,_,_,_,_,rfl,vo,.inl ⟨rfl,λj hj=>absurd hj (Nat.not_lt_zero j)⟩⟩,?_,?_⟩
 ·rintro k d Γ' hk ⟨me,x,s5,s6,s7,s8,rfl,bx,hme⟩
  obtain ⟨y,hy,rfl⟩:=qg hk
  obtain ⟨kl,rfl⟩:=u3 (0,0,0) hy
  have hm:T.getD k (0,0,0)∈T:=xz kl
  generalize hb:T.getD k (0,0,0)=b at hm
  obtain ⟨h1,h2,h3⟩:=G.ok b hm
  have er:rI n b=za (b.1:Int) n b.2.1++[b.2.1 * b.2.2]:=rfl
  refine ⟨_,_,za (b.1:Int) n b.2.1,(List.range n).map (λk=>if k=p then w else 0),rfl,.inr (by rw [er,j4]),.inl rfl,by rw [xO]; omega,jL (vC h2 (by decide)),λz hz=>?_,?_⟩
  ·obtain ⟨j,_,rfl⟩:=List.mem_map.mp hz
   split
   ·exact vC hw (by decide)
   ·exact vo
  have es:zm (za (b.1:Int) n b.2.1) ((List.range n).map λk=>if k=p then w else 0)=if b.1=p then b.2.1 * w else 0:=by
   rw [ZV h1 lw,List.getD_eq_getElem?_getD,List.getElem?_map,List.getElem?_range h1]
   show b.2.1 * (if b.1=p then w else 0)=_
   split
   ·rfl
   ·exact Int.mul_zero _
  rw [es]
  have hs:=XD h2 hw
  by_cases c:b.1=p/\b.2.1 * w=1
  ·rw [if_pos c.1,c.2]
   refine wT rfl ?_
   have bc:Bd 1000 (b.2.1 * b.2.2):=(vq h2 h3).mono
   have e1:yX ((rI n b).map D.int) (-1)=some (.int (b.2.1 * b.2.2)):=ZK _ _
   refine ⟨_,e1,_,_,rfl,by decide,yu (by decide),?_⟩
   show _
   refine ⟨za (b.1:Int) n b.2.1,vs,b.2.1 * b.2.2,rfl,by rw [xO]; omega,by rw [xO]; omega,jL (vC h2 (by decide)),bv,λbs=>?_⟩
   refine ⟨b.2.1 * b.2.2,_,by rw [show D.tup [D.int ((b.2.1 * b.2.2).fdiv (gI (b.2.1 * b.2.2) 1)),D.int (Int.fdiv 1 (gI (b.2.1 * b.2.2) 1))]=dF (b.2.1 * b.2.2) from j6 _],bc,bs,?_⟩
   refine ⟨_,_,rfl,by decide,yu (by decide),?_⟩
   have bd:Bd 1001 (b.2.1 * b.2.2 - zm (za (b.1:Int) n b.2.1) vs):=bc.sub bs
   refine ⟨_,1,by rw [show D.tup [D.int (Int.fdiv 1 (gI 1 1)),D.int (Int.fdiv 1 (gI 1 1))]=dF 1 from j6 1],bd.mono,yu (by decide),by decide,?_⟩
   rw [j6]
   have fin:∃ (me:D) (x:Int) (s5 s6 s7 s8:Sl),[Sl.sh (zq n T),.sh (wM vs),.sh (L ((List.range n).map λk=>if k=p then w else 0)),.sh (.int ((k:Nat):Int)),.sh (dF (b.2.1 * b.2.2 - zm (za (b.1:Int) n b.2.1) vs)),.sh (.int ((k:Nat):Int)),.sh (U (rI n b)),.sh (.int 1),.sh (dF (b.2.1 * b.2.2 - zm (za (b.1:Int) n b.2.1) vs))]=[.sh (zq n T),.sh (wM vs),.sh (L ((List.range n).map λk=>if k=p then w else 0)),.sh me,.sh (dF x),s5,s6,s7,s8]/\Bd 1100 x/\((me=.non/\∀ j,j < k + 1->¬ ((T.getD j (0,0,0)).1=p/\(T.getD j (0,0,0)).2.1 * w=1))\/∃ i:Nat,me=.int (i:Int)/\i < T.length/\(T.getD i (0,0,0)).1=p/\(T.getD i (0,0,0)).2.1 * w=1):=⟨_,_,_,_,_,_,rfl,bd.mono,.inr ⟨k,rfl,kl,by rw [hb]; exact c⟩⟩
   rcases hme with ⟨rfl,hno⟩ | ⟨i,rfl,il,hi⟩
   ·refine wT rfl (wT rfl ?_)
    rw [Nat.zero_add]
    exact fin
   ·refine wF rfl ⟨_,_,rfl,bd.mono,bx.mono,w2 (λ_=>?_) λ_=>?_⟩
    ·rw [Nat.zero_add]
     exact fin
    ·exact ⟨_,x,_,_,_,_,rfl,bx,.inr ⟨i,rfl,il,hi⟩⟩
  ·have z:decide ((0:Int) < (if b.1=p then b.2.1 * w else 0))=false:=by
    refine decide_eq_false ?_
    split
    ·rename_i h
     rcases hs with y | y
     ·exact absurd ⟨h,y⟩ c
     ·rw [y]; decide
    ·decide
   refine wF z ⟨me,x,_,_,_,_,rfl,bx,?_⟩
   rcases hme with ⟨rfl,hno⟩ | hi
   ·refine .inl ⟨rfl,λj hj=>?_⟩
    by_cases jk:j=k
    ·rw [jk,hb]; exact c
    ·exact hno j (by omega)
   ·exact .inr hi
 ·rintro Γ' ⟨me,x,s5,s6,s7,s8,rfl,bx,hme⟩
  rcases hme with ⟨rfl,hno⟩ | ⟨i,rfl,il,hi⟩
  ·obtain ⟨b,hb,h1⟩:=hex
   obtain ⟨j,hj,e⟩:=List.mem_iff_getElem.mp hb
   refine absurd ?_ (hno j (by rw [qf,List.length_map]; exact hj))
   rw [List.getD_eq_getElem?_getD,List.getElem?_eq_getElem hj]
   show T[j].1=p/\T[j].2.1 * w=1
   rw [e]
   exact h1
  ·exact q i il hi.1 hi.2
theorem zJr {k:Nat} {f:Addr} {fd:FuncData} (F:ze K "spread" "spread" XT f fd) (B:Bl mg) (aA:Fn P w K mg base "over_one_bottom" ["values"] k (zG (qA))):zF P w K mg base zU (k + 1) f fd ["count","corner","weights"] (zG (qB)):=by
 refine zn F ZW (λds R h=>by obtain ⟨m,cs,xs,rfl,_⟩:=h; rfl) λcdv A outer s H E hr=>⟨_,(zH (zS 3 ZW.nd rfl (Or.inl rfl) (zP aA hr rfl (zB (zA 2) zC)))
  (zH (ug 4 true ZW.nd rfl rfl (own:=["number"]) (caps:=[]) (yJ (S:=zL XT) (N:=["count","corner","weights","whole","numbers","number","share"]) rfl (by decide +kernel) rfl ⟨0,rfl⟩ rfl (by decide +kernel) (by decide +kernel)) rfl rfl ya (xA rfl B.range_ (zB (zA 0) zC)) (λ_ _ _ _=>(zu 0 (show (["number"]:List Str).Nodup by decide +kernel) rfl (Or.inl rfl))) (λ_ _ _ _=>zE) rfl)
  (zH (y4 PassesOwn.never rfl (uA rfl B.zip_ (zB (zA 1) (zB (zQ (zA 3) zE (λ_ _=>rfl)) zC))) (wG rfl (yA 5 ZW.nd rfl (Or.inl rfl) (yA 6 ZW.nd rfl (Or.inl rfl) wE))) (zM (yG (jq (zA 5) (zA 0)) (zM (yN (Z5 (zA 6) (Xw (yx 4) (zA 5) jc)) UB)) yF)))
  (zM (wc 4 (zY (y3 (zB (zQ (zA 3) zE (λ_ _=>rfl)) (zB (zA 4) zC))))))))),λds R h=>?_⟩
 obtain ⟨m,cs,xs,rfl,m1,l1,l2,bx,q⟩:=h
 refine ⟨xs,rfl,l2,bx,by omega,by omega,?_⟩
 rw [show ((m:Nat):Int).toNat=m by omega]
 refine zg.rng0 (λ_=>.int 0) (by omega) (λk hk=>rfl) ⟨_,rfl,?_⟩
 refine ⟨λk Γ=>∃ (zs:List Int) (s5 s6:Sl),Γ=[.sh (.int (m:Int)),.sh (cN cs),.sh (wM xs),.sh (.tup [.int 1,L xs]),.ow (zs.map D.int),s5,s6]/\zs.length=m,⟨List.replicate m 0,.no,.no,by rw [show ((List.range m).map λ_=>D.int 0)=(List.replicate m (0:Int)).map D.int by rw [List.map_replicate,List.map_const',List.length_range]]; rfl,List.length_replicate⟩,?_,?_⟩
 ·rintro k d Γ' hk ⟨zs,s5,s6,rfl,lz⟩
  obtain ⟨c,x,hc,hx,rfl⟩:=zwq (u:=λx:Nat=>D.int ((x:Nat):Int)) (v:=D.int) hk
  refine w2 (λc1=>?_) λc1=>⟨zs,_,_,rfl,lz⟩
  have cm:c < m:=by have:=of_decide_eq_true c1; omega
  refine ⟨_,c,rfl,?_,zs.set c x,.sh (.int ((c:Nat):Int)),.sh (.int x),?_,by rw [List.length_set]; exact lz⟩
  ·unfold xn
   rw [if_pos (by omega),if_pos (by rw [List.length_map]; omega)]
   congr 1
  ·rw [List.map_set]
   rfl
 ·rintro Γ' ⟨zs,s5,s6,rfl,lz⟩
  exact ⟨_,rfl,k0,q zs⟩
end
structure ZX (n:Nat) (T:List Br) (bx:List (Int × Int)):Prop where
 len:bx.length=n
 up:∀ b∈T,b.2.1=1->b.2.2=(bx.getD b.1 (0,0)).2
 dn:∀ b∈T,b.2.1 = -1->b.2.2=(bx.getD b.1 (0,0)).1
 le:∀ p,p < n->(bx.getD p (0,0)).1<=(bx.getD p (0,0)).2
 hasU:∀ p,p < n->∃ b∈T,b.1=p/\b.2.1=1
 hasD:∀ p,p < n->∃ b∈T,b.1=p/\b.2.1 = -1
def yV (us:List Int) (bx:List (Int × Int)):Int:=((us.zip bx).map λq=>max (q.1 * q.2.1) (q.1 * q.2.2)).sum
theorem U7 {n:Nat} {T:List Br} (G:Gd n T) (h:T.length<=50):Gd n (T++yd n):=by
 have la:(yd n).length=n:=by unfold yd; rw [List.length_map,List.length_range]
 refine ⟨G.n1,G.n3,by rw [List.length_append,la]; have:=G.n3; omega,λb hb=>?_⟩
 rcases List.mem_append.mp hb with hb | hb
 ·exact G.ok b hb
 ·obtain ⟨p,hp,rfl⟩:=List.mem_map.mp hb
  exact ⟨List.mem_range.mp hp,.inl rfl,vo⟩
theorem XU {α:Type} {xs ys:List α} {i:Nat} {z:α} (h:i < xs.length):(xs++ys).getD i z=xs.getD i z:=by
 rw [List.getD_eq_getElem?_getD,List.getD_eq_getElem?_getD,List.getElem?_append_left h]
theorem XV {T X:List Br} {cs:List Nat} {k:Nat} (h:cs.getD k 0 < T.length):tc (T++X) cs k=tc T cs k:=XU h
theorem Co.app {n:Nat} {T X:List Br} {cs:List Nat} (C:Co n T cs):Co n (T++X) cs:=⟨C.len,λk hk=>by have:=C.lt k hk; rw [List.length_append]; omega,λk hk=>by rw [XV (C.lt k hk)]; exact C.pl k hk⟩
theorem Co.cut {n:Nat} {T X:List Br} {cs:List Nat} (C:Co n (T++X) cs) (h:∀ k,k < n->cs.getD k 0 < T.length):Co n T cs:=⟨C.len,h,λk hk=>by rw [<- XV (X:=X) (h k hk)]; exact C.pl k hk⟩
theorem ZY {α:Type} {xs:List α} {p k:Nat} {x z:α} (hp:p < xs.length):(xs.set p x).getD k z=if k=p then x else xs.getD k z:=by
 rw [List.getD_eq_getElem?_getD,List.getD_eq_getElem?_getD]
 by_cases c:k=p
 ·rw [if_pos c,c,List.getElem?_set_self hp]; rfl
 ·rw [if_neg c,List.getElem?_set_ne λz=>c z.symm]
theorem Co.set {n:Nat} {T:List Br} {cs:List Nat} (C:Co n T cs) {p i:Nat} (hp:p < n) (hi:i < T.length) (e:(T.getD i (0,0,0)).1=p):Co n T (cs.set p i):=by
 have hl:p < cs.length:=by rw [C.len]; exact hp
 refine ⟨by rw [List.length_set]; exact C.len,λk hk=>?_,λk hk=>?_⟩
 ·rw [ZY hl]
  split
  ·exact hi
  ·exact C.lt k hk
 ·unfold tc
  rw [ZY hl]
  split
  ·rename_i z; rw [z]; exact e
  ·exact C.pl k hk
def wt:D->Int
 | .tup [.int x,_]=>x
 | _=>0
theorem zHn {cs:List Nat} {ys:List D} {g:Nat->D->Bool} {p:Nat} (h1:p < cs.length) (h2:p < ys.length):((cs.zip ys).map λq=>g q.1 q.2).getD p false=g (cs.getD p 0) (ys.getD p .non):=by
 rw [List.getD_eq_getElem?_getD,List.getElem?_eq_getElem (by rw [List.length_map,List.length_zip]; omega),List.getElem_map,List.getElem_zip,List.getD_eq_getElem?_getD,List.getD_eq_getElem?_getD,List.getElem?_eq_getElem h1,List.getElem?_eq_getElem h2]
 rfl
theorem zKY {n p:Nat} {f:Nat->Int} (h:p < n):(((List.range n).map f).map dF).getD p .non=dF (f p):=by
 rw [List.map_map,List.getD_eq_getElem?_getD,List.getElem?_map,List.getElem?_range h]
 rfl
theorem zGL {n p k:Nat} {c:Int} (h:k < n):(za (p:Int) n c).getD k 0=if k=p then c else 0:=by
 have:=j9 (n:=n) (i:=p) (j:=k) (c:=c) (r:=0) h
 unfold zf at this
 rw [XU (by rw [xO]; exact h)] at this
 exact this
theorem zME {f g:Nat->Nat} {p:Nat}:∀ n,p < n->(∀ k,k≠p->f k=g k)->f p < g p->((List.range n).map f).sum < ((List.range n).map g).sum
 | 0,h,_,_=>absurd h (Nat.not_lt_zero _)
 | n + 1,h,he,hp=>by
  rw [List.range_succ,List.map_append,List.map_append,List.sum_append,List.sum_append]
  show _ + (f n + 0) < _ + (g n + 0)
  by_cases c:n=p
  ·have e:(List.range n).map f=(List.range n).map g:=List.map_congr_left λk hk=>he k (by have:=List.mem_range.mp hk; omega)
   rw [e,c]
   omega
  ·have:=zME n (by omega) he hp
   rw [he n c]
   omega
theorem zOE {n:Nat} {us:List Int} {bx:List (Int × Int)} {v c:Nat->Int} (lu:us.length=n) (lb:bx.length=n) (h:∀ k,k < n->(bx.getD k (0,0)).1<=(bx.getD k (0,0)).2/\0<=us.getD k 0 * c k/\((c k=1/\v k=(bx.getD k (0,0)).2)\/(c k = -1/\v k=(bx.getD k (0,0)).1))):zm us ((List.range n).map v)=yV us bx:=by
 have e1:us=(List.range n).map λk=>us.getD k 0:=(U2 lu).symm
 have e2:bx=(List.range n).map λk=>bx.getD k (0,0):=by
  refine List.ext_getElem (by rw [List.length_map,List.length_range]; exact lb) λi h1 h2=>?_
  rw [List.getElem_map,List.getElem_range,List.getD_eq_getElem?_getD,List.getElem?_eq_getElem h1]
  rfl
 have e3:yV us bx=((List.range n).map λk=>max (us.getD k 0 * (bx.getD k (0,0)).1) (us.getD k 0 * (bx.getD k (0,0)).2)).sum:=by
  unfold yV
  conv=>lhs; rw [e1,e2]
  rw [List.zip_map',List.map_map]
  rfl
 have e4:zm us ((List.range n).map v)=((List.range n).map λk=>us.getD k 0 * v k).sum:=by
  conv=>lhs; rw [e1]
  exact Wa _ _ _
 rw [e3,e4]
 congr 1
 refine List.map_congr_left λk hk=>?_
 obtain ⟨h1,h2,h3⟩:=h k (List.mem_range.mp hk)
 generalize us.getD k 0=u at h2 |-
 generalize bx.getD k (0,0)=b at h1 h3 |-
 rcases h3 with ⟨hc,hv⟩ | ⟨hc,hv⟩
 ·rw [hc,Int.mul_one] at h2
  have:=Int.mul_le_mul_of_nonneg_left h1 h2
  rw [hv]; omega
 ·rw [hc,Int.mul_neg,Int.mul_one] at h2
  have:=Int.mul_le_mul_of_nonpos_left (a:=u) (by omega) h1
  rw [hv]; omega
theorem ZZ {T X:List Br} {f:Br->D}:zi ((T++X).map f) none (some ((T.length:Nat):Int))=T.map f:=by
 unfold zi
 have e0:HT.sIx ((T++X).map f).length 0 none=0:=HT.sIx_none _ _
 have e1:HT.sIx ((T++X).map f).length ((T++X).map f).length (some ((T.length:Nat):Int))=T.length:=by rw [HT.sIx_nat,List.length_map,List.length_append]; omega
 rw [e0,e1,List.drop_zero,Nat.sub_zero,<- List.map_take,List.take_append_of_le_length (Nat.le_refl _),List.take_of_length_le (Nat.le_refl _)]
def fFC:FL:=λds R=>∃ n T,ds=[zq n (T++yd n),.int ((T.length:Nat):Int)]/\Gd n T/\T.length<=50/\(∀ p,p < n->∃ b∈T,b.1=p)/\∀ cs,Co n T cs->R (cN cs)
def Za:FL:=λds R=>∃ n T cs us b bx,ds=[zq n (T++yd n),.int ((T.length:Nat):Int),cN cs,U (us++[b])]/\Gd n T/\T.length<=50/\Co n T cs/\ZX n T bx/\us.length=n/\(∀ x∈us,Bd 390 x)/\∀ X Y,R (.tup [.str "most",dF (yV us bx),X,Y])
def U8:FL:=λds R=>∃ n T us b bx,ds=[zq n T,U (us++[b])]/\Gd n T/\T.length<=50/\ZX n T bx/\us.length=n/\(∀ x∈us,Bd 390 x)/\∀ X Y,R (.tup [.str "most",dF (yV us bx),X,Y])
section
variable {P:Program} {w:World} {K:PySem.W.Frag} {mg:Str->Option Value} {base:Heap}
abbrev XW:Stmt:=zj 38
theorem qk:zc ["rows","count","corner","number","weights","place"] ["rows","count"] (zL XW):=.a
variable {af ag:Addr} (aa:zT K mg "Mode" af) (ab:xa K af) (ac:zT K mg "Thing" ag) (ae:xb K ag)
include aa ab ac ae
theorem zEw {k:Nat} {f:Addr} {fd:FuncData} (F:ze K "first_corner" "first_corner" XW f fd) (B:Bl mg) (aq:Fn P w K mg base "weights_of" ["rows","corner","row"] k (zG (XH))) (ar:Fn P w K mg base "least_place" ["corner","fit"] k (zG (XR))) (au:Fn P w K mg base "exchanged" ["corner","place","number"] k (zG (uq))):zF P w K mg base zU (k + 1) f fd ["rows","count"] (zG (fFC)):=by
 refine zn F qk (λds R h=>by obtain ⟨n,T,rfl,_⟩:=h; rfl) λcdv A outer s H E hr=>⟨_,(zH (zS 2 qk.nd rfl (Or.inl rfl) (zM3 rfl rfl B.list_ rfl B.range_ (zA 1) (yT xT xY rfl B.len_ xU (zB (zA 0) zC))))
  (zH (y4 PassesOwn.never rfl (xA rfl B.range_ (zB (zA 1) zC)) (zu 3 qk.nd rfl (Or.inl rfl)) (zH (yG (jq (yT (zKg rfl) zL5 rfl B.max_ YR (zB (zA 2) zC)) (zA 1)) (zM (zY (zA 2))) yF)
   (zH (zS 4 qk.nd rfl (Or.inl rfl) (zP aq hr rfl (zB (zA 0) (zB (zA 2) (zB (zQ (zA 0) (zA 3) (λ_ _=>rfl)) zC)))))
   (zH (zS 5 qk.nd rfl (Or.inl rfl) (zP ar hr rfl (zB (zA 2) (zB (yc (own:=["axis","weight"]) (caps:=[(1,"count")]) (yJ (S:=zL XW) (N:=["rows","count","corner","number","weights","place"]) rfl (by decide +kernel) rfl ⟨_,rfl⟩ rfl (by decide +kernel) (by decide +kernel)) rfl rfl (uc (wH (wH ue))) (uA rfl B.zip_ (zB (zA 2) (zB (zA 4) zC))) (λ_ _ _ _=>(wG rfl (yA 0 (show (["axis","weight","count"]:List Str).Nodup by decide +kernel) rfl (Or.inl rfl) (yA 1 (show (["axis","weight","count"]:List Str).Nodup by decide +kernel) rfl (Or.inl rfl) wE)))) (λ_ _ _ _=>(wj (Wi (zA 0) (zA 2)) (vh (KQ hr.units (zQ (zA 1) zE (λ_ _=>rfl)) zE))))) zC))))
   (zM (yG (zLK (zA 5) xC) (zM (zS 2 qk.nd rfl (Or.inl rfl) (zP au hr rfl (zB (zA 2) (zB (zA 5) (zB (zA 3) zC)))))) yF))))))
  (zM (zY (zA 2))))),λds R h=>?_⟩
 obtain ⟨n,T,rfl,G,T5,hc,q⟩:=h
 have n3:=G.n3
 have n1:=G.n1
 have GA:=U7 G T5
 have la:(yd n).length=n:=by unfold yd; rw [List.length_map,List.length_range]
 have lr:((T++yd n).map λb=>U (rI n b)).length=T.length + n:=by rw [List.length_map,List.length_append,la]
 refine ⟨_,_,rfl,rfl,by omega,by omega,by omega,by omega,?_⟩
 have e0:D.lst ((List.range ((((((T++yd n).map λb=>U (rI n b)).length:Nat):Int) - ((T.length:Nat):Int)).toNat)).map λ(k:Nat)=>D.int (((T.length:Nat):Int) + (k:Int)))=cN ((List.range n).map λk=>T.length + k):=by
  rw [lr,show ((((T.length + n:Nat)):Int) - ((T.length:Nat):Int)).toNat=n by omega]
  unfold cN
  rw [List.map_map]
  refine congrArg D.lst (List.map_congr_left λk _=>?_)
  show D.int (((T.length:Nat):Int) + ((k:Nat):Int))=D.int (((T.length + k:Nat)):Int)
  rw [Int.natCast_add]
 rw [e0]
 refine ⟨by omega,by omega,?_⟩
 rw [show ((T.length:Nat):Int).toNat=T.length by omega]
 refine ⟨λk Γ=>∃ cs s3 s4 s5,Γ=[.sh (zq n (T++yd n)),.sh (.int ((T.length:Nat):Int)),.sh (cN cs),s3,s4,s5]/\Co n (T++yd n) cs/\∀ p,p < n->T.length<=cs.getD p 0->∀ j,j < k->(T.getD j (0,0,0)).1≠p,⟨(List.range n).map λk=>T.length + k,.no,.no,.no,rfl,⟨by rw [List.length_map,List.length_range],λk hk=>?_,λk hk=>?_⟩,λp hp _ j hj=>absurd hj (Nat.not_lt_zero j)⟩,?_,?_⟩
 ·rw [List.getD_eq_getElem?_getD,List.getElem?_map,List.getElem?_range hk,List.length_append,la]
  show T.length + k < T.length + n
  omega
 ·unfold tc
  rw [List.getD_eq_getElem?_getD (l:=List.map _ _),List.getElem?_map,List.getElem?_range hk]
  show ((T++yd n).getD (T.length + k) (0,0,0)).1=k
  rw [List.getD_eq_getElem?_getD,List.getElem?_append_right (by omega),show T.length + k - T.length=k by omega]
  unfold yd
  rw [List.getElem?_map,List.getElem?_range hk]
  rfl
 ·rintro k d Γ' hk ⟨cs,s3,s4,s5,rfl,C,hno⟩
  obtain ⟨kl,rfl⟩:=wm hk
  have lc:=C.len
  refine ⟨cs.map λ(x:Nat)=>(x:Int),by rw [List.map_map]; rfl,by rw [List.length_map]; omega,λM hM hmax=>w2 (λc1=>?_) λc1=>?_⟩
  ·have c1:=of_decide_eq_true c1
   refine q cs (C.cut λp hp=>?_)
   have:((cs.getD p 0:Nat):Int)<=M:=hmax _ (List.mem_map.mpr ⟨_,xz (by omega),rfl⟩)
   omega
  have hm:T.getD k (0,0,0)∈T:=xz kl
  have hm2:(T++yd n).getD k (0,0,0)=T.getD k (0,0,0):=XU kl
  generalize hb:T.getD k (0,0,0)=b at hm hm2
  obtain ⟨h1,h2,h3⟩:=G.ok b hm
  refine ⟨_,xK (0,0,0) (by rw [List.length_append]; omega),n,T++yd n,cs,za (b.1:Int) n b.2.1,b.2.1 * b.2.2,by rw [hm2]; rfl,GA,C,xO ..,jL (vC h2 (by decide)),?_⟩
  refine zPf (λx:Nat=>D.int ((x:Nat):Int)) vD XG (λc y=>decide (T.length<=c) && !decide (wt y=0)) (by omega) (λc y hcy=>?_) ?_
  ·have hy:=(List.of_mem_zip hcy).2
   obtain ⟨x,_,rfl⟩:=List.mem_map.mp hy
   refine w2 (λc1=>⟨_,rfl,?_⟩) λc1=>?_
   ·have z:decide (T.length<=c)=true:=decide_eq_true (by have:=of_decide_eq_true c1; omega)
    show D.bool (!decide (x=0))=D.bool (_ && !decide (x=0))
    rw [z]
    rfl
   ·have z:decide (T.length<=c)=false:=decide_eq_false (by have:=of_decide_eq_false c1; omega)
    rw [z]
    rfl
  have key:∀ p,p < n->((cs.zip (((List.range n).map λk=>(za (b.1:Int) n b.2.1).getD k 0 * (tc (T++yd n) cs k).2.1).map dF)).map λq=>(λc y=>decide (T.length<=c) && !decide (wt y=0)) q.1 q.2).getD p false=(decide (T.length<=cs.getD p 0) && decide (p=b.1)):=λp hp=>by
   rw [zHn (g:=λc y=>decide (T.length<=c) && !decide (wt y=0)) (by omega) (by rw [List.length_map,List.length_map,List.length_range]; exact hp),zKY hp]
   show (_ && !decide ((za (b.1:Int) n b.2.1).getD p 0 * (tc (T++yd n) cs p).2.1=0))=_
   congr 1
   rw [zGL hp]
   have hs:=ZR (C.ok GA hp).2.1
   by_cases c:p=b.1
   ·rw [if_pos c,decide_eq_true c,decide_eq_false (Int.mul_ne_zero (ZR h2) hs)]
    rfl
   ·rw [if_neg c,Int.zero_mul,decide_eq_false c]
    rfl
  refine ⟨cs,_,rfl,by rw [List.length_map,List.length_zip,List.length_map,List.length_map,List.length_range]; omega,by omega,λhz=>wF rfl ⟨cs,_,_,_,rfl,C,λp hp hT j hj=>?_⟩,λp hp hf=>wT rfl ⟨cs,p,k,rfl,hp,by omega,cs.set p k,_,_,_,rfl,C.set (by omega) (by rw [List.length_append]; omega) ?_,λp' hp' hT j hj=>?_⟩⟩
  ·by_cases jk:j=k
   ·rw [jk,hb]
    intro z
    have:=hz p (by omega)
    rw [key p hp,decide_eq_true hT,decide_eq_true z.symm] at this
    cases this
   ·exact hno p hp hT j (by omega)
  ·rw [key p (by omega),Bool.and_eq_true] at hf
   rw [hm2]
   exact (of_decide_eq_true hf.2).symm
  ·rw [key p (by omega),Bool.and_eq_true] at hf
   rw [ZY hp] at hT
   by_cases pp:p'=p
   ·rw [if_pos pp] at hT
    omega
   ·rw [if_neg pp] at hT
    by_cases jk:j=k
    ·rw [jk,hb]
     have:=of_decide_eq_true hf.2
     omega
    ·exact hno p' hp' hT j (by omega)
 ·rintro Γ' ⟨cs,s3,s4,s5,rfl,C,hno⟩
  rw [w8] at hno
  refine q cs (C.cut λp hp=>?_)
  obtain ⟨b,hb,e⟩:=hc p hp
  obtain ⟨j,hj,ej⟩:=List.mem_iff_getElem.mp hb
  by_cases z:T.length<=cs.getD p 0
  ·refine absurd ?_ (hno p hp z j hj)
   rw [List.getD_eq_getElem?_getD,List.getElem?_eq_getElem hj]
   show T[j].1=p
   rw [ej]
   exact e
  ·omega
end
def U9 (n:Nat) (us:List Int) (T:List Br) (cs:List Nat):Nat:=((List.range n).map λk=>if us.getD k 0 * (tc T cs k).2.1 < 0 then 1 else 0).sum
theorem JA {n:Nat} {T:List Br} {bx:List (Int × Int)} {cs:List Nat} (B:ZX n T bx) (C:Co n T cs) (G:Gd n T) {k:Nat} (h:k < n):((tc T cs k).2.1=1/\(tc T cs k).2.2=(bx.getD k (0,0)).2)\/((tc T cs k).2.1 = -1/\(tc T cs k).2.2=(bx.getD k (0,0)).1):=by
 have hm:tc T cs k∈T:=xz (C.lt k h)
 have e:=C.pl k h
 rcases (C.ok G h).2.1 with c | c
 ·have:=B.up _ hm c
  rw [e] at this
  exact .inl ⟨c,this⟩
 ·have:=B.dn _ hm c
  rw [e] at this
  exact .inr ⟨c,this⟩
theorem zMW {n p:Nat} {f:Nat->Int} (h:p < n):((List.range n).map f).getD p 0=f p:=by
 rw [List.getD_eq_getElem?_getD,List.getElem?_map,List.getElem?_range h]
 rfl
section
variable {P:Program} {w:World} {K:PySem.W.Frag} {mg:Str->Option Value} {base:Heap}
abbrev XX:Stmt:=zj 36
theorem qC:zc ["rows","count","corner","row","point","weights","place","way","met"] ["rows","count","corner","row"] (zL XX):=.a
abbrev Zb:Stmt:=zj 35
theorem ut:zc ["room","row","count","rows","corner","broken","weights","place","turned_about"] ["room","row"] (zL Zb):=.a
variable {af ag:Addr} (aa:zT K mg "Mode" af) (ab:xa K af) (ac:zT K mg "Thing" ag) (ae:xb K ag)
include aa ab ac ae
theorem zIv {k:Nat} {f:Addr} {fd:FuncData} (F:ze K "climbed" "climbed" XX f fd) (B:Bl mg) (aF:Fn P w K mg base "corner_point" ["rows","corner"] k (zG (U0))) (aq:Fn P w K mg base "weights_of" ["rows","corner","row"] k (zG (XH))) (ar:Fn P w K mg base "least_place" ["corner","fit"] k (zG (XR))) (aG:Fn P w K mg base "spread" ["count","corner","weights"] k (zG (qB))) (aE:Fn P w K mg base "along" ["row","point"] k (zG (Ul))) (bz:Fn P w K mg base "way_off" ["rows","corner","place","number"] k (zG (ZU))) (bA:Fn P w K mg base "first_met" ["room","point","way"] k (zG (fFM))) (au:Fn P w K mg base "exchanged" ["corner","place","number"] k (zG (uq))):zF P w K mg base zU (k + 1) f fd ["rows","count","corner","row"] (zG (Za)):=by
 refine zn F qC (λds R h=>by obtain ⟨n,T,cs,us,b,bx,rfl,_⟩:=h; rfl) λcdv A outer s H E hr=>⟨_,(zM (UK PassesOwn.never (xJ vL) (zH (zS 4 qC.nd rfl (Or.inl rfl) (zP aF hr rfl (zB (zA 0) (zB (zA 2) zC))))
   (zH (zS 5 qC.nd rfl (Or.inl rfl) (zP aq hr rfl (zB (zA 0) (zB (zA 2) (zB (zA 3) zC)))))
   (zH (zS 6 qC.nd rfl (Or.inl rfl) (zP ar hr rfl (zB (zA 2) (zB (yc (own:=["number","weight"]) (caps:=[(1,"count")]) (yJ (S:=zL XX) (N:=["rows","count","corner","row","point","weights","place","way","met"]) rfl (by decide +kernel) rfl ⟨_,rfl⟩ rfl (by decide +kernel) (by decide +kernel)) rfl rfl (uc (wH (wH ue))) (uA rfl B.zip_ (zB (zA 2) (zB (zA 5) zC))) (λ_ _ _ _=>(wG rfl (yA 0 (show (["number","weight","count"]:List Str).Nodup by decide +kernel) rfl (Or.inl rfl) (yA 1 (show (["number","weight","count"]:List Str).Nodup by decide +kernel) rfl (Or.inl rfl) wE)))) (λ_ _ _ _=>(kJ (KL (zQ (zA 1) zE (λ_ _=>rfl)) zE) (vh (wj (Wi (zA 0) (zA 2)) (vh (KQ hr.units (zQ (zA 1) zE (λ_ _=>rfl)) zE))))))) zC))))
   (zH (yG (vm (zA 6) xC) (zM (zY (y3 (zB qY (zB (zP aE hr rfl (zB (zA 3) (zB (zA 4) zC))) (zB (zP aG hr rfl (zB (zA 1) (zB (zA 2) (zB (zA 5) zC)))) (zB (zA 4) zC))))))) yF)
   (zH (zS 7 qC.nd rfl (Or.inl rfl) (zP bz hr rfl (zB (zA 0) (zB (zA 2) (zB (zA 6) (zB (kK (jr (zQ (zQ (zA 5) (zA 6) (λ_ _=>rfl)) zE (λ_ _=>rfl)) zE) zE (xW zE)) zC))))))
   (zH (zS 8 qC.nd rfl (Or.inl rfl) (zP bA hr rfl (zB (wD (zA 0) wV (xl (zA 1))) (zB (zA 4) (zB (zA 7) zC)))))
   (zH (yG (vm (zA 8) xC) (zM (zY (y3 (zB qY (zB (zA 4) (zB (zA 7) zC)))))) yF)
   (zM (zS 2 qC.nd rfl (Or.inl rfl) (zP au hr rfl (zB (zA 2) (zB (zA 6) (zB (zA 8) zC))))))))))))))),λds R h=>?_⟩
 obtain ⟨n,T,cs,us,b,bx,rfl,G,T5,C,B,lu,bu,q⟩:=h
 have n3:=G.n3
 have n1:=G.n1
 have GA:=U7 G T5
 have bu4:∀ x∈us,Bd 400 x:=λx hx=>(bu x hx).mono
 refine ⟨λm Γ=>∃ cs s4 s5 s6 s7 s8,Γ=[.sh (zq n (T++yd n)),.sh (.int ((T.length:Nat):Int)),.sh (cN cs),.sh (U (us++[b])),s4,s5,s6,s7,s8]/\Co n T cs/\U9 n us T cs=m,⟨_,cs,.no,.no,.no,.no,.no,rfl,C,rfl⟩,?_⟩
 rintro m Γ' ⟨cs,s4,s5,s6,s7,s8,rfl,C,rfl⟩
 have lc:=C.len
 have CA:Co n (T++yd n) cs:=C.app
 refine wT rfl ⟨n,T++yd n,cs,rfl,GA,CA,n,T++yd n,cs,us,b,rfl,GA,CA,lu,bu4,?_⟩
 have ta:∀ k,k < n->tc (T++yd n) cs k=tc T cs k:=λk hk=>XV (C.lt k hk)
 have eP:((List.range n).map λk=>(tc (T++yd n) cs k).2.2)=(List.range n).map λk=>(tc T cs k).2.2:=List.map_congr_left λk hk=>by rw [ta k (List.mem_range.mp hk)]
 have eW:((List.range n).map λk=>us.getD k 0 * (tc (T++yd n) cs k).2.1)=(List.range n).map λk=>us.getD k 0 * (tc T cs k).2.1:=List.map_congr_left λk hk=>by rw [ta k (List.mem_range.mp hk)]
 rw [eP,eW]
 refine zPf (λx:Nat=>D.int ((x:Nat):Int)) vD XG (λc y=>decide (wt y < 0) || (decide (T.length<=c) && !decide (wt y=0))) (by omega) (λc y hcy=>?_) ?_
 ·have hy:=(List.of_mem_zip hcy).2
  obtain ⟨x,_,rfl⟩:=List.mem_map.mp hy
  refine ⟨_,rfl,w2 (λc0=>?_) λc0=>w2 (λc1=>⟨_,rfl,?_⟩) λc1=>?_⟩
  ·show D.bool true=D.bool (decide (x < 0) || _)
   rw [show decide (x < 0)=true from c0]
   rfl
  ·have z:decide (T.length<=c)=true:=decide_eq_true (by have:=of_decide_eq_true c1; omega)
   show D.bool (!decide (x=0))=D.bool (decide (x < 0) || (_ && !decide (x=0)))
   rw [show decide (x < 0)=false from c0,z]
   rfl
  ·have z:decide (T.length<=c)=false:=decide_eq_false (by have:=of_decide_eq_false c1; omega)
   show D.bool false=D.bool (decide (x < 0) || (_ && !decide (x=0)))
   rw [show decide (x < 0)=false from c0,z]
   rfl
 have key:∀ p,p < n->((cs.zip (((List.range n).map λk=>us.getD k 0 * (tc T cs k).2.1).map dF)).map λq=>(λc y=>decide (wt y < 0) || (decide (T.length<=c) && !decide (wt y=0))) q.1 q.2).getD p false=decide (us.getD p 0 * (tc T cs p).2.1 < 0):=λp hp=>by
  rw [zHn (g:=λc y=>decide (wt y < 0) || (decide (T.length<=c) && !decide (wt y=0))) (by omega) (by rw [List.length_map,List.length_map,List.length_range]; exact hp),zKY hp]
  show (decide (us.getD p 0 * (tc T cs p).2.1 < 0) || (decide (T.length<=cs.getD p 0) && _))=_
  rw [decide_eq_false (show ¬ T.length<=cs.getD p 0 by have:=C.lt p hp; omega),Bool.false_and,Bool.or_false]
 have bP:∀ x∈(List.range n).map (λk=>(tc T cs k).2.2),Bd 400 x:=λx hx=>by
  obtain ⟨k,hk,rfl⟩:=List.mem_map.mp hx
  exact (C.ok G (List.mem_range.mp hk)).2.2.mono
 have bW:∀ k,k < n->Bd 1000 (us.getD k 0 * (tc T cs k).2.1):=λk hk=>by
  rw [Int.mul_comm]
  exact (vq (C.ok G hk).2.1 (jK bu k)).mono
 refine ⟨cs,_,rfl,by rw [List.length_map,List.length_zip,List.length_map,List.length_map,List.length_range]; omega,by omega,λhz=>wT rfl ?_,λp hp hf=>wF rfl ?_⟩
 ·refine ⟨us,_,b,rfl,by rw [List.length_map,List.length_range]; exact lu,by omega,bu4,bP,λbs=>⟨T.length,cs,_,rfl,by omega,by omega,by rw [List.length_map,List.length_range]; omega,λx hx=>?_,λzs=>⟨k0,?_⟩⟩⟩
  ·obtain ⟨k,hk,rfl⟩:=List.mem_map.mp hx
   exact bW k (List.mem_range.mp hk)
  ·rw [zOE (c:=λk=>(tc T cs k).2.1) lu B.len λk hk=>⟨B.le k hk,?_,JA B C G hk⟩]
   ·exact q _ _
   ·have:=hz k (by omega)
    rw [key k hk] at this
    have:=of_decide_eq_false this
    omega
 ·have pn:p < n:=by omega
  rw [key p pn] at hf
  have wn:=of_decide_eq_true hf
  have cp:=(C.ok G pn).2.1
  refine ⟨_,xK 0 (by rw [List.length_map,List.length_range]; exact pn),?_⟩
  rw [zMW pn]
  refine ⟨_,rfl,wF (decide_eq_false (by omega)) ⟨n,T++yd n,cs,p,-1,rfl,GA,CA,pn,.inr rfl,?_⟩⟩
  have eV:((List.range n).map λk=>if k=p then -1 * (tc (T++yd n) cs k).2.1 else 0)=(List.range n).map λk=>if k=p then -1 * (tc T cs p).2.1 else 0:=List.map_congr_left λk hk=>by
   by_cases z:k=p
   ·rw [if_pos z,if_pos z,z,ta p pn]
   ·rw [if_neg z,if_neg z]
  rw [eV]
  have hw : -1 * (tc T cs p).2.1=1\/-1 * (tc T cs p).2.1 = -1:=by rcases cp with z | z <;> rw [z] <;> decide
  refine ⟨n,T,_,p,_,by rw [ZZ],G,by rw [List.length_map,List.length_range],bP,hw,pn,?_,λi hi e1 e2=>wF rfl ⟨cs,p,i,rfl,by omega,by omega,U9 n us T (cs.set p i),?_,cs.set p i,_,_,_,_,_,rfl,C.set pn hi e1,rfl⟩⟩
  ·rcases cp with z | z
   ·obtain ⟨b,hb,h1,h2⟩:=B.hasD p pn
    exact ⟨b,hb,h1,by rw [h2,z]; rfl⟩
   ·obtain ⟨b,hb,h1,h2⟩:=B.hasU p pn
    exact ⟨b,hb,h1,by rw [h2,z]; rfl⟩
  ·unfold U9
   have hl:p < cs.length:=by omega
   have ec:(T.getD i (0,0,0)).2.1 = -1 * (tc T cs p).2.1:=by
    rcases (G.ok _ (xz hi)).2.1 with z | z
    ·rw [z] at e2 |-; omega
    ·rw [z] at e2 |-; omega
   refine zME n pn (λk hk=>?_) ?_
   ·have:tc T (cs.set p i) k=tc T cs k:=by unfold tc; rw [ZY hl,if_neg hk]
    rw [this]
   ·have:tc T (cs.set p i) p=T.getD i (0,0,0):=by unfold tc; rw [ZY hl,if_pos rfl]
    show (if us.getD p 0 * (tc T (cs.set p i) p).2.1 < 0 then 1 else 0) < (if us.getD p 0 * (tc T cs p).2.1 < 0 then 1 else 0)
    rw [this,ec,if_pos wn,if_neg ?_]
    ·decide
    ·have:us.getD p 0 * (-1 * (tc T cs p).2.1) = -(us.getD p 0 * (tc T cs p).2.1):=by grind
     omega
theorem zNU {k:Nat} {f:Addr} {fd:FuncData} (F:ze K "most" "most" Zb f fd) (B:Bl mg) (bC:Fn P w K mg base "axes" ["many"] k (zG (zPZ))) (bE:Fn P w K mg base "first_corner" ["rows","count"] k (zG (fFC))) (bF:Fn P w K mg base "first_broken" ["room","point"] k (zG (fFB))) (aF:Fn P w K mg base "corner_point" ["rows","corner"] k (zG (U0))) (bG:Fn P w K mg base "climbed" ["rows","count","corner","row"] k (zG (Za))) (aq:Fn P w K mg base "weights_of" ["rows","corner","row"] k (zG (XH))) (ar:Fn P w K mg base "least_place" ["corner","fit"] k (zG (XR))) (ah:wB P w K mg base "fraction" ["top","bottom"] k (zG (jM)) (.int 1)) (aG:Fn P w K mg base "spread" ["count","corner","weights"] k (zG (qB))) (au:Fn P w K mg base "exchanged" ["corner","place","number"] k (zG (uq))):zF P w K mg base zU (k + 1) f fd ["room","row"] (zG (U8)):=by
 refine zn F ut (λds R h=>by obtain ⟨n,T,us,b,bx,rfl,_⟩:=h; rfl) λcdv A outer s H E hr=>⟨_,(zH (zS 2 ut.nd rfl (Or.inl rfl) (yT xT xY rfl B.len_ xU (zB (zA 0) zC)))
  (zH (zS 3 ut.nd rfl (Or.inl rfl) (zt (zA 0) (zP bC hr rfl (zB (xv (yT xT xY rfl B.len_ xU (zB (zA 1) zC)) zE) zC))))
  (zH (zS 4 ut.nd rfl (Or.inl rfl) (zP bE hr rfl (zB (zA 3) (zB (zA 2) zC))))
  (zM (UK PassesOwn.never (xJ vL) (zH (zS 5 ut.nd rfl (Or.inl rfl) (zP bF hr rfl (zB (zA 0) (zB (zP aF hr rfl (zB (zA 3) (zB (zA 4) zC))) zC))))
   (zH (yG (vm (zA 5) xC) (zM (zY (zP bG hr rfl (zB (zA 3) (zB (zA 2) (zB (zA 4) (zB (zA 1) zC))))))) yF)
   (zH (zS 6 ut.nd rfl (Or.inl rfl) (zP aq hr rfl (zB (zA 3) (zB (zA 4) (zB (zQ (zA 3) (zA 5) (λ_ _=>rfl)) zC)))))
   (zH (zS 7 ut.nd rfl (Or.inl rfl) (zP ar hr rfl (zB (zA 4) (zB (yc (own:=["weight"]) (caps:=[]) (yJ (S:=zL Zb) (N:=["room","row","count","rows","corner","broken","weights","place","turned_about"]) rfl (by decide +kernel) rfl ⟨0,rfl⟩ rfl (by decide +kernel) (by decide +kernel)) rfl rfl ya (yo (zA 6)) (λ_ _ _ _=>(zu 0 (show (["weight"]:List Str).Nodup by decide +kernel) rfl (Or.inl rfl))) (λ_ _ _ _=>(kD (zQ (zA 0) zE (λ_ _=>rfl)) zE))) zC))))
   (zH (yG (vm (zA 7) xC) (zH (ug 8 false ut.nd rfl rfl (own:=["weight"]) (caps:=[]) (yJ (S:=zL Zb) (N:=["room","row","count","rows","corner","broken","weights","place","turned_about"]) rfl (by decide +kernel) rfl ⟨0,rfl⟩ rfl (by decide +kernel) (by decide +kernel)) rfl rfl ya (yo (zA 6)) (λ_ _ _ _=>(zu 0 (show (["weight"]:List Str).Nodup by decide +kernel) rfl (Or.inl rfl))) (λ_ _ _ _=>(zP ah.fn hr rfl (zB (xW (zQ (zA 0) zE (λ_ _=>rfl))) (zB (zQ (zA 0) zE (λ_ _=>rfl)) zC)))) rfl)
    (zM (zY (y3 (zB qY (zB (y3 (zB zE (zB (zQ (zP aG hr rfl (zB (zA 2) (zB (zt (zA 4) (wl (zB (zA 5) zC))) (zB (zt (zA 8) (wl (zB (ui (.int 1) (λ_=>.int 1) ah hr rfl (zB zE zC)) zC))) zC)))) zE (λ_ _=>rfl)) zC))) zC)))))) yF)
   (zM (zS 4 ut.nd rfl (Or.inl rfl) (zP au hr rfl (zB (zA 4) (zB (zA 7) (zB (zA 5) zC)))))))))))))))),λds R h=>?_⟩
 obtain ⟨n,T,us,b,bx,rfl,G,T5,B,lu,bu,q⟩:=h
 have n3:=G.n3
 have n1:=G.n1
 have GA:=U7 G T5
 have lr:((us++[b]).map D.int).length=n + 1:=by rw [List.length_map,List.length_append,lu]; rfl
 have lT:(T.map λb=>U (rI n b)).length=T.length:=List.length_map ..
 have la:(yd n).length=n:=by unfold yd; rw [List.length_map,List.length_range]
 refine ⟨n,by rw [lr,show (((n + 1:Nat):Int) - 1)=(n:Int) by omega],n3,by rw [lT,List.length_map,la]; omega,?_⟩
 rw [<- List.map_append,lT]
 refine ⟨n,T,rfl,G,T5,λp hp=>let ⟨b,h1,h2,_⟩:=B.hasU p hp; ⟨b,h1,h2⟩,λcs C=>?_⟩
 refine ⟨λm Γ=>Γ=[.sh (zq n T),.sh (U (us++[b])),.sh (.int ((T.length:Nat):Int)),.sh (zq n (T++yd n)),.sh (cN cs),.no,.no,.no,.no],⟨0,rfl⟩,?_⟩
 rintro m Γ' rfl
 have CA:Co n (T++yd n) cs:=C.app
 refine wT rfl ⟨n,T++yd n,cs,rfl,GA,CA,?_⟩
 have eP:((List.range n).map λk=>(tc (T++yd n) cs k).2.2)=(List.range n).map λk=>(tc T cs k).2.2:=List.map_congr_left λk hk=>by rw [XV (C.lt k (List.mem_range.mp hk))]
 rw [eP]
 refine ⟨n,T,_,rfl,G,by rw [List.length_map,List.length_range],λx hx=>?_,λr hr=>?_,wT rfl ⟨n,T,cs,us,b,bx,rfl,G,T5,C,B,lu,bu,q⟩⟩
 ·obtain ⟨k,hk,rfl⟩:=List.mem_map.mp hx
  exact (C.ok G (List.mem_range.mp hk)).2.2.mono
 ·obtain ⟨h1,h2,h3⟩:=G.ok r hr
  rw [zMW h1]
  have hl:=B.le r.1 h1
  rcases h2 with z | z
  ·have e:=B.up r hr z
   rcases JA B C G h1 with ⟨_,y⟩ | ⟨_,y⟩ <;> rw [z,e,y] <;> omega
  ·have e:=B.dn r hr z
   rcases JA B C G h1 with ⟨_,y⟩ | ⟨_,y⟩ <;> rw [z,e,y] <;> omega
end
theorem JB:∀ xs ys:List (List Int),PyData.eqvAll (xD (xs.map U)) (xD (ys.map U))=decide (xs=ys)
 | [],[]=>rfl
 | [],_ :: _=>rfl
 | _ :: _,[]=>rfl
 | x :: xs,y :: ys=>by
  show (PyData.eqv (U x).py (U y).py && PyData.eqvAll (xD (xs.map U)) (xD (ys.map U)))=_
  rw [JB xs ys]
  have:PyData.eqv (U x).py (U y).py=decide (x=y):=by
   show PyData.eqvAll (xD (x.map D.int)) (xD (y.map D.int))=_
   rw [Wl,Wl]
   exact Q4 x y
  rw [this,Bool.eq_iff_iff,Bool.and_eq_true,decide_eq_true_iff,decide_eq_true_iff,decide_eq_true_iff,List.cons.injEq]
theorem zLQ {n i:Nat} {c:Int} {ls:List (List Int)} (hi:i < n) (hl:ls.length=n) (j:Nat):wL (za (i:Int) n c) ls j=c * (ls.getD i []).getD j 0:=by
 have e:wL (za (i:Int) n c) ls j=zm (za (i:Int) n c) (ls.map λr=>r.getD j 0):=by
  rw [<- UN]
  unfold wL
  rw [List.zip_map_right,List.map_map]
  rfl
 rw [e,ZV hi (by rw [List.length_map]; exact hl)]
 congr 1
 rw [List.getD_eq_getElem?_getD,List.getElem?_map,List.getElem?_eq_getElem (by omega),List.getD_eq_getElem?_getD (l:=ls),List.getElem?_eq_getElem (by omega)]
 rfl
theorem zJa {n i w:Nat} {c:Int} {ls:List (List Int)} (hi:i < n) (hl:ls.length=n) (hw:∀ r∈ls,r.length=w):(List.range w).map (wL (za (i:Int) n c) ls)=(ls.getD i []).map λx=>c * x:=by
 have lr:(ls.getD i []).length=w:=hw _ (xz (by omega))
 conv=>rhs; rw [<- U2 lr,List.map_map]
 exact List.map_congr_left λj _=>zLQ hi hl j
def xc (q:Int × Int × Int):Int:=if 0 < q.1 then q.2.2 else q.2.1
theorem JC:∀ {cs:List Int} {bs:List (Int × Int)},(∀ b∈bs,b.1<=b.2)->zm cs ((cs.zip bs).map xc)=yV cs bs
 | [],_,_=>rfl
 | _ :: _,[],_=>rfl
 | c :: cs,b :: bs,h=>by
  have hb:=h b List.mem_cons_self
  show c * (if 0 < c then b.2 else b.1) + zm cs ((cs.zip bs).map xc)=max (c * b.1) (c * b.2) + yV cs bs
  rw [JC λx hx=>h x (List.mem_cons_of_mem _ hx)]
  congr 1
  by_cases z:0 < c
  ·have:=Int.mul_le_mul_of_nonneg_left hb (Int.le_of_lt z)
   rw [if_pos z]; omega
  ·have:=Int.mul_le_mul_of_nonpos_left (a:=c) (by omega) hb
   rw [if_neg z]; omega
theorem Zc {a e:Nat}:∀ {us:List Int} {bx:List (Int × Int)},(∀ x∈us,Bd a x)->(∀ b∈bx,Bd e b.1/\Bd e b.2)->Bd (a + e + us.length) (yV us bx)
 | [],_,_,_=>vo
 | _ :: _,[],_,_=>vo
 | u :: us,b :: bx,hu,hb=>by
  have h1:=hu u List.mem_cons_self
  obtain ⟨h2,h3⟩:=hb b List.mem_cons_self
  have ih:=Zc (us:=us) (bx:=bx) (λx hx=>hu x (List.mem_cons_of_mem _ hx)) λx hx=>hb x (List.mem_cons_of_mem _ hx)
  show Bd (a + e + us.length + 1) (max (u * b.1) (u * b.2) + yV us bx)
  have m:Bd (a + e) (max (u * b.1) (u * b.2)):=by
   rcases Int.le_total (u * b.1) (u * b.2) with z | z
   ·rw [Int.max_eq_right z]; exact h1.mul h3
   ·rw [Int.max_eq_left z]; exact h1.mul h2
  exact (m.mono (Nat.le_add_right _ _)).add ih
structure ql (n:Nat) (bs:List (Int × Int)) (ms:List MD):Prop where
 ths:ThS n bs ms
 cl:Y8 ms=true
 rows:∀ m∈ms,m.rows=[]
 nx:∀ m∈ms,∀ r∈m.nexts,∀ x∈r,Bd 4 x
 ps:∀ m∈ms,∀ r∈m.push,∀ x∈r,Bd 4 x
 ad:∀ m∈ms,∀ x∈m.add,Bd 120 x
 dv:∀ m∈ms,Bd 4 m.div
 bb:∀ b∈bs,Bd 110 b.1/\Bd 110 b.2
 b2:bs.length<=2
def wo (x d:Int):Int:=-((-x).fdiv d)
def wN (bs bx:List (Int × Int)) (m:MD) (i:Nat) (c:Int):Int:=yV ((m.nexts.getD i []).map λx=>c * x) bx + yV ((m.push.getD i []).map λx=>c * x) bs + c * m.add.getD i 0
def yg (bs bx:List (Int × Int)) (ms:List MD) (i:Nat) (c v:Int):Int:=ms.foldl (λa m=>max a (wo (wN bs bx m i c) m.div)) v
def xL (n:Nat) (bs bx:List (Int × Int)) (ms:List MD):List (Int × Int):=(List.range n).map λi=>(-yg bs bx ms i (-1) (-(bx.getD i (0,0)).1),yg bs bx ms i 1 (bx.getD i (0,0)).2)
def zMX (C CM:Addr):FL:=λds R=>∃ n bs ms a c e,ds=[xy C CM n bs ms,U (a++c++[e])]/\a.length=n/\c.length=bs.length/\bs.length<=6/\n<=3/\R (L ((c.zip bs).map xc))
def zIJ (C CM:Addr):FL:=λds R=>∃ n bs ms a c e,ds=[xy C CM n bs ms,U (a++c++[e])]/\a.length=n/\c.length=bs.length/\bs.length<=6/\n<=3/\(∀ b∈bs,b.1<=b.2/\Bd 110 b.1/\Bd 110 b.2)/\(∀ x∈c,Bd 400 x)/\R (U (a++[e - yV c bs]))
def fGB (C CM:Addr):FL:=λds R=>∃ n bs ms T bx b e,ds=[xy C CM n bs ms,zq n T,U (rI n b)]/\ql n bs ms/\Gd n T/\T.length<=50/\ZX n T bx/\b∈T/\115<=e/\e<=300/\(∀ x∈bx,Bd e x.1/\Bd e x.2)/\R (.int (yg bs bx ms b.1 b.2.1 (b.2.1 * b.2.2)))
theorem JD {a c:List Int} {e:Int} {n:Nat} (h:a.length=n):zi ((a++c++[e]).map D.int) none (some ((n:Nat):Int))=a.map D.int:=by
 unfold zi
 have e0:HT.sIx ((a++c++[e]).map D.int).length 0 none=0:=HT.sIx_none _ _
 have e1:HT.sIx ((a++c++[e]).map D.int).length ((a++c++[e]).map D.int).length (some ((n:Nat):Int))=n:=by rw [HT.sIx_nat,List.length_map,List.length_append,List.length_append]; omega
 rw [e0,e1,List.drop_zero,Nat.sub_zero,<- List.map_take,List.append_assoc,List.take_append_of_le_length (by omega),List.take_of_length_le (by omega)]
theorem Zd {a c:List Int} {e:Int} {n:Nat} (h:a.length=n):zi ((a++c++[e]).map D.int) (some ((n:Nat):Int)) (some (-1))=c.map D.int:=by
 unfold zi
 have l:((a++c++[e]).map D.int).length=n + c.length + 1:=by rw [List.length_map,List.length_append,List.length_append,h]; rfl
 have e0:HT.sIx ((a++c++[e]).map D.int).length 0 (some ((n:Nat):Int))=n:=by rw [HT.sIx_nat,l]; omega
 have e1:HT.sIx ((a++c++[e]).map D.int).length ((a++c++[e]).map D.int).length (some (-1))=n + c.length:=by
  rw [l]
  show (if (-1:Int) < 0 then ((-1:Int) + ((n + c.length + 1:Nat):Int)).toNat else min (-1:Int).toNat (n + c.length + 1))=_
  rw [if_pos (by decide)]
  omega
 rw [e0,e1,<- List.map_drop,<- List.map_take,List.append_assoc,List.drop_append_of_le_length (by omega),List.drop_eq_nil_of_le (show a.length<=n by omega),List.nil_append,show n + c.length - n=c.length by omega,List.take_append_of_le_length (Nat.le_refl _),List.take_of_length_le (Nat.le_refl _)]
theorem JE {a c:List Int} {e:Int}:yX ((a++c++[e]).map D.int) (-1)=some (.int e):=ZK (a++c) e
theorem Ze {α β:Type} {f:α->β} {l:List α} {k:Nat} {d:β} (h:(l.map f)[k]? = some d):∃ x,l[k]? = some x/\d=f x:=by
 rw [List.getElem?_map] at h
 cases e:l[k]? with
 | none=>rw [e] at h; cases h
 | some x=>rw [e] at h; exact ⟨x,rfl,(Option.some.inj h).symm⟩
theorem JF {bs bx:List (Int × Int)} {ms:List MD} {k:Nat} {m:MD} {i:Nat} {c v:Int} (h:ms[k]? = some m):yg bs bx (ms.take (k + 1)) i c v=max (yg bs bx (ms.take k) i c v) (wo (wN bs bx m i c) m.div):=by
 unfold yg
 rw [uO h,List.foldl_append]
 rfl
section
variable {P:Program} {w:World} {K:PySem.W.Frag} {mg:Str->Option Value} {base:Heap}
abbrev XY:Stmt:=zj 50
theorem zEi:zc ["thing","row"] ["thing","row"] (zL XY):=.a
abbrev JG:Stmt:=zj 51
theorem zD0:zc ["thing","row"] ["thing","row"] (zL JG):=.a
abbrev JH:Stmt:=zj 66
theorem qD:zc ["thing","room","row","bound","mode","ahead","found","least"] ["thing","room","row"] (zL JH):=.a
variable {af ag:Addr} (aa:zT K mg "Mode" af) (ab:xa K af) (ac:zT K mg "Thing" ag) (ae:xb K ag)
include aa ab ac ae
theorem zEu {k:Nat} {f:Addr} {fd:FuncData} (F:ze K "worst_pushes" "worst_pushes" XY f fd) (B:Bl mg) (ax:v4 P w K mg base ag "pushes" ["self"] k (zG (UT ag af))):zF P w K mg base zU (k + 1) f fd ["thing","row"] (zG (zMX ag af)):=by
 refine zn F zEi (λds R h=>by obtain ⟨n,bs,ms,a,c,e,rfl,_⟩:=h; rfl) λcdv A outer s H E hr=>⟨_,(zM (zY (yc (own:=["number","push"]) (caps:=[]) (yJ (S:=zL XY) (N:=["thing","row"]) rfl (by decide +kernel) rfl ⟨0,rfl⟩ rfl (by decide +kernel) (by decide +kernel)) rfl rfl (uc (wH (wH ue))) (uA rfl B.zip_ (zB (wD (zA 1) (xl (xZ K (zA 0) rfl)) (xl (xW zE))) (zB (Yt ax ac hr (zA 0)) zC))) (λ_ _ _ _=>(wG rfl (yA 0 (show (["number","push"]:List Str).Nodup by decide +kernel) rfl (Or.inl rfl) (yA 1 (show (["number","push"]:List Str).Nodup by decide +kernel) rfl (Or.inl rfl) wE)))) (λ_ _ _ _=>(kK (jr (zA 0) zE) (zQ (zA 1) zE (λ_ _=>rfl)) (zQ (zA 1) zE (λ_ _=>rfl))))))),λds R h=>?_⟩
 obtain ⟨n,bs,ms,a,c,e,rfl,la,lc,b6,n3,q⟩:=h
 refine ⟨⟨ac.cl,ae.n_many⟩,_,rfl,rfl,by decide +kernel,n,bs,ms,rfl,?_⟩
 rw [Zd la]
 show zg (List.zipWith yZ (c.map D.int) (bs.map yC)) _ _
 rw [UO yC]
 refine vQ (λq:Int × Int × Int=>yZ (.int q.1) (yC q.2)) (λd=>match d with | .tup [x,.tup [y,z]]=>(yB x,yB y,yB z) | _=>(0,0,0)) (λ_=>rfl) (λq=>.int (xc q)) (by rw [List.length_zip]; omega) (λq hq=>?_) (by unfold L at q; rw [List.map_map] at q; exact q)
 refine w2 (λc1=>⟨_,rfl,?_⟩) λc1=>⟨_,rfl,?_⟩
 ·unfold xc
  rw [if_pos (of_decide_eq_true c1)]
 ·unfold xc
  rw [if_neg (of_decide_eq_false c1)]
theorem zD7 {k:Nat} {f:Addr} {fd:FuncData} (F:ze K "without_pushes" "without_pushes" JG f fd) (B:Bl mg) (ao:Fn P w K mg base "paired" ["numbers","others"] k (zG (Yy))) (bH:Fn P w K mg base "worst_pushes" ["thing","row"] k (zG (zMX ag af))):zF P w K mg base zU (k + 1) f fd ["thing","row"] (zG (zIJ ag af)):=by
 refine zn F zD0 (λds R h=>by obtain ⟨n,bs,ms,a,c,e,rfl,_⟩:=h; rfl) λcdv A outer s H E hr=>⟨_,(zM (zY (zt (wD (zA 1) wV (xl (xZ K (zA 0) rfl))) (y3 (zB (xv (zQ (zA 1) (xW zE) (λ_ _=>rfl)) (zP ao hr rfl (zB (wD (zA 1) (xl (xZ K (zA 0) rfl)) (xl (xW zE))) (zB (zP bH hr rfl (zB (zA 0) (zB (zA 1) zC))) zC)))) zC))))),λds R h=>?_⟩
 obtain ⟨n,bs,ms,a,c,e,rfl,la,lc,b6,n3,hb,bc,q⟩:=h
 refine ⟨⟨ac.cl,ae.n_many⟩,_,rfl,_,JE,⟨ac.cl,ae.n_many⟩,_,rfl,n,bs,ms,a,c,e,rfl,la,lc,b6,n3,_,_,c,(c.zip bs).map xc,rfl,.inr (by rw [Zd la]),.inl rfl,by omega,λx hx=>(bc x hx).mono,λx hx=>?_,?_⟩
 ·obtain ⟨q,hq,rfl⟩:=List.mem_map.mp hx
  have:=hb _ (List.of_mem_zip hq).2
  unfold xc
  split
  ·exact this.2.2.mono
  ·exact this.2.1.mono
 rw [JC λb hb'=>(hb b hb').1,JD la]
 refine ⟨k0,by rw [List.length_map]; show _ + 1<=1000; omega,?_⟩
 unfold U at q
 rw [List.map_append] at q
 exact q
theorem zFL {k:Nat} {f:Addr} {fd:FuncData} (F:ze K "grown_bound" "grown_bound" JH f fd) (B:Bl mg) (bI:v4 P w K mg base ag "modes" ["self"] k (zG (zMb ag af))) (bJ:Fn P w K mg base "without_pushes" ["thing","row"] k (zG (zIJ ag af))) (bK:Fn P w K mg base "reach" ["thing","mode","row"] k (zG (zMa ag af))) (aH:Fn P w K mg base "most" ["room","row"] k (zG (U8))) (aB:Fn P w K mg base "times" ["one","other"] k (zG (Uo))) (ah:wB P w K mg base "fraction" ["top","bottom"] k (zG (jM)) (.int 1)) (aD:Fn P w K mg base "minus" ["one","other"] k (zG (Um))) (aI:Fn P w K mg base "ceiling_of" ["value"] k (zG (Up))):zF P w K mg base zU (k + 1) f fd ["thing","room","row"] (zG (fGB ag af)):=by
 refine zn F qD (λds R h=>by obtain ⟨n,bs,ms,T,bx,b,e,rfl,_⟩:=h; rfl) λcdv A outer s H E hr=>⟨_,(zH (zS 3 qD.nd rfl (Or.inl rfl) (zQ (zA 2) (xW zE) (λ_ _=>rfl)))
  (zH (y4 PassesOwn.never rfl (yo (Yt bI ac hr (zA 0))) (zu 4 qD.nd rfl (Or.inl rfl)) (zH (zS 5 qD.nd rfl (Or.inl rfl) (zP bJ hr rfl (zB (zA 0) (zB (zP bK hr rfl (zB (zA 0) (zB (zA 4) (zB (zt (wD (zA 2) wV (xl (xW zE))) (y3 (zB zE zC))) zC)))) zC))))
   (zH (zS 6 qD.nd rfl (Or.inl rfl) (zP aH hr rfl (zB (zt (zA 1) (xZ K (zA 4) rfl)) (zB (zA 5) zC))))
   (zH (yG (vM hr.units (zQ (zA 6) zE (λ_ _=>rfl)) qY) (zM (zY xC)) yF)
   (zM (yG (vM hr.units (zQ (zA 6) zE (λ_ _=>rfl)) qY) (zH (zS 7 qD.nd rfl (Or.inl rfl) (zP aB hr rfl (zB (zP aD hr rfl (zB (zQ (zA 6) zE (λ_ _=>rfl)) (zB (ui (.int 1) (λ_=>.int 1) ah hr rfl (zB (zQ (zA 5) (xW zE) (λ_ _=>rfl)) zC)) zC))) (zB (zP ah.fn hr rfl (zB zE (zB (xZ K (zA 4) rfl) zC))) zC))))
    (zM (zS 3 qD.nd rfl (Or.inl rfl) (yT (X3 rfl) Wu rfl B.max_ YR (zB (zA 3) (zB (zP aI hr rfl (zB (zA 7) zC)) zC)))))) yF))))))
  (zM (zY (zA 3))))),λds R h=>?_⟩
 obtain ⟨n,bs,ms,T,bx,b,e,rfl,S,G,T5,B,hb,e1,e3,be,q⟩:=h
 have n3:=G.n3
 have n1:=G.n1
 obtain ⟨h1,h2,h3⟩:=G.ok b hb
 have TS:=S.ths
 have b2:=S.b2
 have er:rI n b=za (b.1:Int) n b.2.1++[b.2.1 * b.2.2]:=rfl
 refine ⟨_,ZK _ _,rfl,by decide +kernel,n,bs,ms,rfl,?_⟩
 refine ⟨λk Γ=>∃ s4 s5 s6 s7,Γ=[.sh (xy ag af n bs ms),.sh (zq n T),.sh (U (rI n b)),.sh (.int (yg bs bx (ms.take k) b.1 b.2.1 (b.2.1 * b.2.2))),s4,s5,s6,s7],⟨_,_,_,_,rfl⟩,?_,?_⟩
 ·rintro k d Γ' hk ⟨s4,s5,s6,s7,rfl⟩
  obtain ⟨m,hg,rfl⟩:=Ze hk
  have hm:=List.mem_of_getElem? hg
  have MO:=TS.ok.mok m hm
  have MSm:=TS.ms m hm
  have lu:(za (b.1:Int) n b.2.1).length=n:=xO ..
  have bun:∀ x∈za (b.1:Int) n b.2.1,Bd 10 x:=jL (vC h2 (by decide))
  have ex:D.tup ((za (b.1:Int) n b.2.1).map D.int++[.int 0])=U (za (b.1:Int) n b.2.1++[0]):=by unfold U; rw [List.map_append]; rfl
  refine ⟨k0,by rw [er,j4,List.length_map,lu]; show _ + 1<=1000; omega,?_⟩
  rw [er,j4,ex]
  refine ⟨n,bs,ms,m,_,rfl,n3,by omega,MO,MSm.mbd,by rw [List.length_append,lu]; rfl,zGy (λx hx=>(bun x hx).mono) vo,?_⟩
  have lni:(m.nexts.getD b.1 []).length=n:=MO.nexts.2 _ (xz (by rw [MO.nexts.1]; exact h1))
  have lpi:(m.push.getD b.1 []).length=bs.length:=MO.push.2 _ (xz (by rw [MO.push.1]; exact h1))
  have bni:∀ x∈(m.nexts.getD b.1 []).map (λx=>b.2.1 * x),Bd 5 x:=λx hx=>by
   obtain ⟨y,hy,rfl⟩:=List.mem_map.mp hx
   exact (vq h2 (S.nx m hm _ (xz (by rw [MO.nexts.1]; exact h1)) y hy)).mono
  have bpi:∀ x∈(m.push.getD b.1 []).map (λx=>b.2.1 * x),Bd 5 x:=λx hx=>by
   obtain ⟨y,hy,rfl⟩:=List.mem_map.mp hx
   exact (vq h2 (S.ps m hm _ (xz (by rw [MO.push.1]; exact h1)) y hy)).mono
  have bai:Bd 120 (b.2.1 * m.add.getD b.1 0):=vq h2 (jK (S.ad m hm) _)
  have eR:XB n bs.length ((za (b.1:Int) n b.2.1++[0]).take n) ((za (b.1:Int) n b.2.1++[0]).getD n 0) m=(m.nexts.getD b.1 []).map (λx=>b.2.1 * x)++(m.push.getD b.1 []).map (λx=>b.2.1 * x)++[0 - b.2.1 * m.add.getD b.1 0]:=by
   unfold XB
   rw [List.take_append_of_le_length (by omega),List.take_of_length_le (by omega),List.getD_eq_getElem?_getD (l:=_++_),List.getElem?_append_right (by omega),lu,Nat.sub_self,zJa h1 MO.nexts.1 MO.nexts.2,zJa h1 MO.push.1 MO.push.2,ZV h1 MO.add]
   show _++[m.div * 0 - _]=_
   rw [Int.mul_zero]
  rw [eR]
  have bq:∀ b∈bs,b.1<=b.2/\Bd 110 b.1/\Bd 110 b.2:=λx hx=>⟨TS.ok.bok x hx,S.bb x hx⟩
  refine ⟨n,bs,ms,_,_,_,rfl,by rw [List.length_map]; exact lni,by rw [List.length_map]; exact lpi,by omega,n3,bq,λx hx=>(bpi x hx).mono,?_⟩
  refine ⟨⟨aa.cl,ab.n_rows⟩,_,rfl,by rw [S.rows m hm,List.length_map]; show _ + 0<=1000; omega,?_⟩
  rw [S.rows m hm]
  refine ⟨n,T,_,_,bx,by rw [List.map_nil,List.append_nil],G,T5,B,by rw [List.length_map]; exact lni,λx hx=>(bni x hx).mono,λX Y=>?_⟩
  refine ⟨_,rfl,wF (by decide) ⟨_,rfl,wT (by decide) ?_⟩⟩
  have bt1:Bd 320 (yV ((m.nexts.getD b.1 []).map λx=>b.2.1 * x) bx):=(Zc bni be).mono (by rw [List.length_map]; omega)
  have bt2:Bd 121 (yV ((m.push.getD b.1 []).map λx=>b.2.1 * x) bs):=(Zc bpi S.bb).mono (by rw [List.length_map]; omega)
  have be1:Bd 122 (0 - b.2.1 * m.add.getD b.1 0 - yV ((m.push.getD b.1 []).map λx=>b.2.1 * x) bs):=by
   rw [Int.zero_sub]
   exact (bai.neg.mono).sub bt2
  refine ⟨_,rfl,_,ZK _ _,_,_,rfl,by decide,yu (by decide),?_⟩
  refine ⟨_,_,by rw [show D.tup [D.int ((0 - b.2.1 * m.add.getD b.1 0 - yV ((m.push.getD b.1 []).map λx=>b.2.1 * x) bs).fdiv (gI (0 - b.2.1 * m.add.getD b.1 0 - yV ((m.push.getD b.1 []).map λx=>b.2.1 * x) bs) 1)),D.int (Int.fdiv 1 (gI (0 - b.2.1 * m.add.getD b.1 0 - yV ((m.push.getD b.1 []).map λx=>b.2.1 * x) bs) 1))]=dF _ from j6 _],bt1.mono,be1.mono,?_⟩
  have d1:=MO.div
  have bdv:=S.dv m hm
  refine ⟨⟨aa.cl,ab.n_divisor⟩,_,rfl,_,_,rfl,by omega,bdv.mono,?_⟩
  have bx2:Bd 321 (yV ((m.nexts.getD b.1 []).map λx=>b.2.1 * x) bx - (0 - b.2.1 * m.add.getD b.1 0 - yV ((m.push.getD b.1 []).map λx=>b.2.1 * x) bs)):=bt1.sub be1.mono
  refine ⟨_,m.div,by rw [show D.tup [D.int (Int.fdiv 1 (gI 1 m.div)),D.int (m.div.fdiv (gI 1 m.div))]=.tup [.int 1,.int m.div] from ZQ d1],bx2.mono,bdv.mono,d1,?_⟩
  refine ⟨_,_,rfl,d1,bdv.mono,?_⟩
  refine ⟨.sh (vR af m),.sh (U (((m.nexts.getD b.1 []).map λx=>b.2.1 * x)++[(0 - b.2.1 * m.add.getD b.1 0 - yV ((m.push.getD b.1 []).map λx=>b.2.1 * x) bs)])),.sh (.tup [.str "most",dF (yV ((m.nexts.getD b.1 []).map λx=>b.2.1 * x) bx),X,Y]),.sh (ul (yV ((m.nexts.getD b.1 []).map λx=>b.2.1 * x) bx - (0 - b.2.1 * m.add.getD b.1 0 - yV ((m.push.getD b.1 []).map λx=>b.2.1 * x) bs)) m.div),?_⟩
  rw [JF hg]
  have eu:yV ((m.nexts.getD b.1 []).map λx=>b.2.1 * x) bx - (0 - b.2.1 * m.add.getD b.1 0 - yV ((m.push.getD b.1 []).map λx=>b.2.1 * x) bs)=wN bs bx m b.1 b.2.1:=by unfold wN; omega
  rw [eu]
  rfl
 ·rintro Γ' ⟨s4,s5,s6,s7,rfl⟩
  rw [List.length_map,List.take_of_length_le (Nat.le_refl _)]
  exact q
end
abbrev vS:=Nat × Int
def zR (S:List vS) (bx:List (Int × Int)):List Br:=S.map λs=>(s.1,s.2,if s.2=1 then (bx.getD s.1 (0,0)).2 else (bx.getD s.1 (0,0)).1)
abbrev xP (n:Nat) (S:List vS):D:=.lst (S.map λs=>U (za (s.1:Int) n s.2))
structure wd (n:Nat) (S:List vS):Prop where
 few:S.length<=50
 ok:∀ s∈S,s.1 < n/\(s.2=1\/s.2 = -1)
 hasU:∀ p,p < n->(p,1)∈S
 hasD:∀ p,p < n->(p,-1)∈S
structure Bk (n e:Nat) (bx:List (Int × Int)):Prop where
 len:bx.length=n
 ok:∀ b∈bx,b.1<=b.2/\Bd e b.1/\Bd e b.2
theorem Bk.at {n e:Nat} {bx:List (Int × Int)} (B:Bk n e bx) {p:Nat} (h:p < n):(bx.getD p (0,0)).1<=(bx.getD p (0,0)).2/\Bd e (bx.getD p (0,0)).1/\Bd e (bx.getD p (0,0)).2:=B.ok _ (xz (by rw [B.len]; exact h))
theorem zMh {n e:Nat} {S:List vS} {bx:List (Int × Int)} (n1:1<=n) (n3:n<=3) (hS:wd n S) (B:Bk n e bx) (he:e<=390):Gd n (zR S bx):=by
 refine ⟨n1,n3,by unfold zR; rw [List.length_map]; have:=hS.few; omega,λb hb=>?_⟩
 obtain ⟨s,hs,rfl⟩:=List.mem_map.mp hb
 obtain ⟨h1,h2⟩:=hS.ok s hs
 refine ⟨h1,h2,?_⟩
 have:=B.at h1
 show Bd 390 (if s.2=1 then _ else _)
 split
 ·exact this.2.2.mono he
 ·exact this.2.1.mono he
theorem Zf {S:List vS} {bx:List (Int × Int)}:(zR S bx).length=S.length:=List.length_map ..
theorem zKi {n e:Nat} {S:List vS} {bx:List (Int × Int)} (hS:wd n S) (B:Bk n e bx):ZX n (zR S bx) bx:=by
 refine ⟨B.len,λb hb c=>?_,λb hb c=>?_,λp hp=>(B.at hp).1,λp hp=>⟨_,List.mem_map.mpr ⟨_,hS.hasU p hp,rfl⟩,rfl,rfl⟩,λp hp=>⟨_,List.mem_map.mpr ⟨_,hS.hasD p hp,rfl⟩,rfl,rfl⟩⟩
 ·obtain ⟨s,hs,rfl⟩:=List.mem_map.mp hb
  exact if_pos c
 ·obtain ⟨s,hs,rfl⟩:=List.mem_map.mp hb
  have c:s.2 = -1:=c
  exact if_neg (by omega)
theorem zJE {n e i:Nat} {c:Int} {bx:List (Int × Int)} (B:Bk n e bx) (hi:i < n) (hc:c=1\/c = -1):yV (za (i:Int) n c) bx=c * (if c=1 then (bx.getD i (0,0)).2 else (bx.getD i (0,0)).1):=by
 have lz:((za (i:Int) n c).zip bx).length=n:=by rw [List.length_zip,xO,B.len,Nat.min_self]
 rw [<- JC λb hb=>(B.ok b hb).1,ZV hi (by rw [List.length_map]; exact lz)]
 congr 1
 have e:(((za (i:Int) n c).zip bx).map xc).getD i 0=xc ((za (i:Int) n c).getD i 0,bx.getD i (0,0)):=by
  have l1:i < (za (i:Int) n c).length:=by rw [xO]; exact hi
  have l2:i < bx.length:=by rw [B.len]; exact hi
  rw [List.getD_eq_getElem?_getD,List.getElem?_eq_getElem (by rw [List.length_map]; omega),List.getElem_map,List.getElem_zip,List.getD_eq_getElem?_getD,List.getD_eq_getElem?_getD,List.getElem?_eq_getElem l1,List.getElem?_eq_getElem l2]
  rfl
 rw [e,zGL hi,if_pos rfl]
 rcases hc with rfl | rfl
 ·show (if (0:Int) < 1 then (bx.getD i (0,0)).2 else (bx.getD i (0,0)).1)=_
  rw [if_pos (by decide),if_pos rfl]
 ·show (if (0:Int) < -1 then (bx.getD i (0,0)).2 else (bx.getD i (0,0)).1)=_
  rw [if_neg (by decide),if_neg (by decide)]
theorem JI {bs bx:List (Int × Int)} {i:Nat} {c:Int}:∀ {ms:List MD} {v:Int},v<=yg bs bx ms i c v
 | [],v=>Int.le_refl v
 | m :: ms,v=>by
  have:=JI (bs:=bs) (bx:=bx) (i:=i) (c:=c) (ms:=ms) (v:=max v (wo (wN bs bx m i c) m.div))
  show v<=yg bs bx ms i c (max v (wo (wN bs bx m i c) m.div))
  omega
theorem JJ {bs bx:List (Int × Int)} {i e:Nat} {c:Int}:∀ {ms:List MD} {v:Int},(∀ m∈ms,Bd e (wo (wN bs bx m i c) m.div))->Bd e v->Bd e (yg bs bx ms i c v)
 | [],v,_,h=>h
 | m :: ms,v,hm,h=>by
  show Bd e (yg bs bx ms i c (max v (wo (wN bs bx m i c) m.div)))
  refine JJ (λx hx=>hm x (List.mem_cons_of_mem _ hx)) ?_
  rcases Int.le_total v (wo (wN bs bx m i c) m.div) with z | z
  ·rw [Int.max_eq_right z]; exact hm m List.mem_cons_self
  ·rw [Int.max_eq_left z]; exact h
theorem zOA {n e i:Nat} {bs bx:List (Int × Int)} {ms:List MD} {m:MD} {c:Int} (S:ql n bs ms) (hm:m∈ms) (hi:i < n) (n3:n<=3) (hc:c=1\/c = -1) (B:Bk n e bx) (he:115<=e):Bd (e + 10) (wo (wN bs bx m i c) m.div):=by
 have MO:=S.ths.ok.mok m hm
 have lni:(m.nexts.getD i []).length=n:=MO.nexts.2 _ (xz (by rw [MO.nexts.1]; exact hi))
 have lpi:(m.push.getD i []).length=bs.length:=MO.push.2 _ (xz (by rw [MO.push.1]; exact hi))
 have b2:=S.b2
 have t1:Bd (4 + e + ((m.nexts.getD i []).map λx=>c * x).length) (yV ((m.nexts.getD i []).map λx=>c * x) bx):=Zc (λx hx=>by
  obtain ⟨y,hy,rfl⟩:=List.mem_map.mp hx
  exact vq hc (S.nx m hm _ (xz (by rw [MO.nexts.1]; exact hi)) y hy)) λb hb=>(B.ok b hb).2
 have t2:Bd (4 + 110 + ((m.push.getD i []).map λx=>c * x).length) (yV ((m.push.getD i []).map λx=>c * x) bs):=Zc (λx hx=>by
  obtain ⟨y,hy,rfl⟩:=List.mem_map.mp hx
  exact vq hc (S.ps m hm _ (xz (by rw [MO.push.1]; exact hi)) y hy)) S.bb
 rw [List.length_map] at t1 t2
 have t3:Bd 120 (c * m.add.getD i 0):=vq hc (jK (S.ad m hm) _)
 have s1:Bd (e + 8) (yV ((m.nexts.getD i []).map λx=>c * x) bx + yV ((m.push.getD i []).map λx=>c * x) bs):=((t1.mono (show _<=e + 7 by omega)).add (t2.mono (by omega))).mono (by omega)
 have s2:Bd (e + 10) (wN bs bx m i c):=(s1.add (t3.mono (by omega))).mono (by omega)
 exact (s2.neg.fdiv _).neg
theorem JK {n e:Nat} {bs bx:List (Int × Int)} {ms:List MD} (S:ql n bs ms) (n3:n<=3) (B:Bk n e bx) (he:115<=e):Bk n (e + 10) (xL n bs bx ms):=by
 refine ⟨by unfold xL; rw [List.length_map,List.length_range],λb hb=>?_⟩
 obtain ⟨i,hi,rfl⟩:=List.mem_map.mp hb
 have hi:=List.mem_range.mp hi
 have h:=B.at hi
 have g1:=JI (bs:=bs) (bx:=bx) (i:=i) (c:=-1) (ms:=ms) (v:=-(bx.getD i (0,0)).1)
 have g2:=JI (bs:=bs) (bx:=bx) (i:=i) (c:=1) (ms:=ms) (v:=(bx.getD i (0,0)).2)
 exact ⟨by show -yg _ _ _ _ _ _<=yg _ _ _ _ _ _; omega,(JJ (λm hm=>zOA S hm hi n3 (.inr rfl) B he) (h.2.1.neg.mono (by omega))).neg,JJ (λm hm=>zOA S hm hi n3 (.inl rfl) B he) (h.2.2.mono (by omega))⟩
theorem zLp {n i:Nat} {bs bx:List (Int × Int)} {ms:List MD} (h:i < n):(xL n bs bx ms).getD i (0,0)=(-yg bs bx ms i (-1) (-(bx.getD i (0,0)).1),yg bs bx ms i 1 (bx.getD i (0,0)).2):=by
 unfold xL
 rw [List.getD_eq_getElem?_getD,List.getElem?_map,List.getElem?_range h]
 rfl
def vv (n:Nat) (S:List vS) (bs:List (Int × Int)) (ms:List MD):Nat->List (Int × Int)->D
 | 0,_=>.non
 | t + 1,bx=>if (zR S (xL n bs bx ms)).map (rI n)=(zR S bx).map (rI n) then zq n (zR S bx) else vv n S bs ms t (xL n bs bx ms)
def JL:FL:=λds R=>∃ n S0 S bx,ds=[zq n (zR S0 bx),xP n S]/\1<=n/\n<=3/\wd n S0/\wd n S/\Bk n 380 bx/\R (zq n (zR S bx))
def JM (C CM:Addr):FL:=λds R=>∃ n bs ms S bx e,ds=[xy C CM n bs ms,zq n (zR S bx)]/\ql n bs ms/\wd n S/\Bk n e bx/\115<=e/\e<=300/\R (zq n (zR S (xL n bs bx ms)))
def zMe (C CM:Addr):FL:=λds R=>∃ n bs ms S0 S bx t,ds=[xy C CM n bs ms,zq n (zR S0 bx),xP n S,.int ((t:Nat):Int)]/\t<=10/\ql n bs ms/\wd n S0/\wd n S/\Bk n 115 bx/\R (vv n S bs ms (t + 1) bx)
theorem JN (n:Nat) (T T':List Br):PyData.eqv (zq n T).py (zq n T').py=decide (T.map (rI n)=T'.map (rI n)):=by
 have:=JB (T.map (rI n)) (T'.map (rI n))
 rw [List.map_map,List.map_map] at this
 exact this
theorem jN (n:Nat) (T:List Br):(zq n T).pl 50=true:=List.all_eq_true.mpr λd m=>by
 obtain ⟨r,_,rfl⟩:=List.mem_map.mp m
 exact Wm 47 (rI n r)
section
variable {P:Program} {w:World} {K:PySem.W.Frag} {mg:Str->Option Value} {base:Heap}
abbrev JO:Stmt:=zj 64
theorem XZ:zc ["start","shape","told","numbers","found"] ["start","shape"] (zL JO):=.a
abbrev JP:Stmt:=zj 65
theorem Xa:zc ["thing","room","told","row","bound"] ["thing","room"] (zL JP):=.a
abbrev JQ:Stmt:=zj 67
theorem Zg:zc ["thing","start","shape","tries","room","turn","larger"] ["thing","start","shape","tries"] (zL JQ):=.a
variable {af ag:Addr} (aa:zT K mg "Mode" af) (ab:xa K af) (ac:zT K mg "Thing" ag) (ae:xb K ag)
include aa ab ac ae
theorem zFz {k:Nat} {f:Addr} {fd:FuncData} (F:ze K "first_room" "first_room" JO f fd) (B:Bl mg) (aH:Fn P w K mg base "most" ["room","row"] k (zG (U8))) (aI:Fn P w K mg base "ceiling_of" ["value"] k (zG (Up))):zF P w K mg base zU (k + 1) f fd ["start","shape"] (zG (JL)):=by
 refine zn F XZ (λds R h=>by obtain ⟨n,S0,S,bx,rfl,_⟩:=h; rfl) λcdv A outer s H E hr=>⟨_,(zH (vP 2 XZ.nd rfl (Or.inl rfl) zC)
  (zH (y4 PassesOwn.never rfl (yo (zA 1)) (zu 3 XZ.nd rfl (Or.inl rfl)) (zH (zS 4 XZ.nd rfl (Or.inl rfl) (zP aH hr rfl (zB (zA 0) (zB (zt (zA 3) (y3 (zB zE zC))) zC))))
   (zH (yG (qd hr.units (zQ (zA 4) zE (λ_ _=>rfl)) qY) (zM (zY xC)) yF)
   (zM (yN (wW (we PySem.F.plainAttrs_list PySem.F.slot_list_append PySem.F.type_list_append yq (yx 2) (yI (zt (zA 3) (y3 (zB (zP aI hr rfl (zB (zQ (zA 4) zE (λ_ _=>rfl)) zC)) zC))) yn))) wR)))))
  (zM (wc 2 (zY (zA 2)))))),λds R h=>?_⟩
 obtain ⟨n,S0,S,bx,rfl,n1,n3,h0,hS,B,q⟩:=h
 have G:=zMh n1 n3 h0 B (by decide)
 have B0:=zKi h0 B
 have f0:=h0.few
 have fS:=hS.few
 refine ⟨k0,?_⟩
 refine ⟨λk Γ=>∃ s3 s4,Γ=[.sh (zq n (zR S0 bx)),.sh (xP n S),.ow ((zR (S.take k) bx).map λb=>U (rI n b)),s3,s4],⟨_,_,rfl⟩,?_,?_⟩
 ·rintro k d Γ' hk ⟨s3,s4,rfl⟩
  obtain ⟨s,hg,rfl⟩:=Ze hk
  have kl:=(List.getElem?_eq_some_iff.mp hg).1
  obtain ⟨h1,h2⟩:=hS.ok s (List.mem_of_getElem? hg)
  have lu:(za (s.1:Int) n s.2).length=n:=xO ..
  have ex:∀ z:Int,D.tup ((za (s.1:Int) n s.2).map D.int++[.int z])=U (za (s.1:Int) n s.2++[z]):=λz=>by unfold U; rw [List.map_append]; rfl
  have lz:((za (s.1:Int) n s.2).map D.int).length + 1<=1000:=by rw [List.length_map,lu]; omega
  refine ⟨k0,lz,?_⟩
  rw [ex]
  refine ⟨n,_,_,_,bx,rfl,G,by rw [Zf]; exact f0,B0,lu,jL (vC h2 (by decide)),λX Y=>?_⟩
  refine ⟨_,rfl,wF (by decide) ⟨_,rfl,_,1,by rw [j6],by decide,yu (by decide),k0,lz,?_⟩⟩
  rw [Int.fdiv_one,Int.neg_neg,ex,zJE B h1 h2]
  refine ⟨by rw [List.length_map,Zf,List.length_take]; omega,.sh (U (za (s.1:Int) n s.2)),.sh (.tup [.str "most",dF (s.2 * (if s.2=1 then (bx.getD s.1 (0,0)).2 else (bx.getD s.1 (0,0)).1)),X,Y]),?_⟩
  have e:zR (S.take (k + 1)) bx=zR (S.take k) bx++[(s.1,s.2,if s.2=1 then (bx.getD s.1 (0,0)).2 else (bx.getD s.1 (0,0)).1)]:=by unfold zR; rw [uO hg,List.map_append]; rfl
  rw [e,List.map_append]
  rfl
 ·rintro Γ' ⟨s3,s4,rfl⟩
  rw [List.length_map,List.take_of_length_le (Nat.le_refl _)]
  exact q
theorem zFx {k:Nat} {f:Addr} {fd:FuncData} (F:ze K "grown_once" "grown_once" JP f fd) (B:Bl mg) (aJ:Fn P w K mg base "ask_closed" ["thing"] k (zG (UU ag af))) (bL:Fn P w K mg base "grown_bound" ["thing","room","row"] k (zG (fGB ag af))):zF P w K mg base zU (k + 1) f fd ["thing","room"] (zG (JM ag af)):=by
 refine zn F Xa (λds R h=>by obtain ⟨n,bs,ms,S,bx,e,rfl,_⟩:=h; rfl) λcdv A outer s H E hr=>⟨_,(zH (K2 (zP aJ hr rfl (zB (zA 0) zC)))
  (zH (vP 2 Xa.nd rfl (Or.inl rfl) zC)
  (zH (y4 PassesOwn.never rfl (yo (zA 1)) (zu 3 Xa.nd rfl (Or.inl rfl)) (zH (zS 4 Xa.nd rfl (Or.inl rfl) (zP bL hr rfl (zB (zA 0) (zB (zA 1) (zB (zA 3) zC)))))
   (zH (yG (vm (zA 4) xC) (zM (zY xC)) yF)
   (zM (yN (wW (we PySem.F.plainAttrs_list PySem.F.slot_list_append PySem.F.type_list_append yq (yx 2) (yI (zt (wD (zA 3) wV (xl (xW zE))) (y3 (zB (zA 4) zC))) yn))) wR)))))
  (zM (wc 2 (zY (zA 2))))))),λds R h=>?_⟩
 obtain ⟨n,bs,ms,S,bx,e,rfl,Th,hS,B,e1,e3,q⟩:=h
 have n1:=Th.ths.ok.n1
 have n3:=Th.ths.ok.n3
 have G:=zMh n1 n3 hS B (by omega)
 have B0:=zKi hS B
 have fS:=hS.few
 refine ⟨n,bs,ms,rfl,Th.ths.ok,Th.cl,k0,?_⟩
 refine ⟨λk Γ=>∃ s3 s4,Γ=[.sh (xy ag af n bs ms),.sh (zq n (zR S bx)),.ow ((zR (S.take k) (xL n bs bx ms)).map λb=>U (rI n b)),s3,s4],⟨_,_,rfl⟩,?_,?_⟩
 ·rintro k d Γ' hk ⟨s3,s4,rfl⟩
  obtain ⟨b,hg,rfl⟩:=Ze hk
  obtain ⟨s,hg2,rfl⟩:=Ze hg
  have kl:=(List.getElem?_eq_some_iff.mp hg2).1
  obtain ⟨h1,h2⟩:=hS.ok s (List.mem_of_getElem? hg2)
  refine ⟨n,bs,ms,zR S bx,bx,_,e,rfl,Th,G,by rw [Zf]; exact fS,B0,List.mem_of_getElem? hg,e1,e3,λx hx=>(B.ok x hx).2,wF rfl ?_⟩
  have lu:(za (s.1:Int) n s.2).length=n:=xO ..
  have er:∀ v:Int,zi ((rI n (s.1,s.2,v)).map D.int) none (some (-1))=(za (s.1:Int) n s.2).map D.int:=λv=>j4 _ _
  have ex:∀ z:Int,D.tup ((za (s.1:Int) n s.2).map D.int++[.int z])=U (za (s.1:Int) n s.2++[z]):=λz=>by unfold U; rw [List.map_append]; rfl
  refine ⟨k0,by rw [er,List.length_map,lu]; show _ + 1<=1000; omega,?_⟩
  rw [er,ex]
  refine ⟨by rw [List.length_map,Zf,List.length_take]; omega,.sh (U (rI n (s.1,s.2,(if s.2=1 then (bx.getD s.1 (0,0)).2 else (bx.getD s.1 (0,0)).1)))),.sh (.int (yg bs bx ms s.1 s.2 (s.2 * (if s.2=1 then (bx.getD s.1 (0,0)).2 else (bx.getD s.1 (0,0)).1)))),?_⟩
  have e:zR (S.take (k + 1)) (xL n bs bx ms)=zR (S.take k) (xL n bs bx ms)++[(s.1,s.2,if s.2=1 then ((xL n bs bx ms).getD s.1 (0,0)).2 else ((xL n bs bx ms).getD s.1 (0,0)).1)]:=by unfold zR; rw [uO hg2,List.map_append]; rfl
  rw [e,List.map_append,zLp h1]
  have eb:s.2 * (if s.2=1 then yg bs bx ms s.1 1 (bx.getD s.1 (0,0)).2 else -yg bs bx ms s.1 (-1) (-(bx.getD s.1 (0,0)).1))=yg bs bx ms s.1 s.2 (s.2 * (if s.2=1 then (bx.getD s.1 (0,0)).2 else (bx.getD s.1 (0,0)).1)):=by
   rcases h2 with z | z
   ·rw [z,if_pos rfl,if_pos rfl,Int.one_mul,Int.one_mul]
   ·rw [z,if_neg (by decide),if_neg (by decide),Int.neg_mul,Int.neg_mul,Int.one_mul,Int.one_mul,Int.neg_neg]
  show _=[_,_,Sl.ow (_++[U (za (s.1:Int) n s.2++[s.2 * (if s.2=1 then yg bs bx ms s.1 1 (bx.getD s.1 (0,0)).2 else -yg bs bx ms s.1 (-1) (-(bx.getD s.1 (0,0)).1))])]),_,_]
  rw [eb]
  rfl
 ·rintro Γ' ⟨s3,s4,rfl⟩
  rw [List.length_map,Zf,List.take_of_length_le (Nat.le_refl _)]
  exact q
theorem zLk {k:Nat} {f:Addr} {fd:FuncData} (F:ze K "grown" "grown" JQ f fd) (B:Bl mg) (aJ:Fn P w K mg base "ask_closed" ["thing"] k (zG (UU ag af))) (aK:Fn P w K mg base "first_room" ["start","shape"] k (zG (JL))) (aL:Fn P w K mg base "grown_once" ["thing","room"] k (zG (JM ag af))):zF P w K mg base zU (k + 1) f fd ["thing","start","shape","tries"] (zG (zMe ag af)):=by
 refine zn F Zg (λds R h=>by obtain ⟨n,bs,ms,S0,S,bx,t,rfl,_⟩:=h; rfl) λcdv A outer s H E hr=>⟨_,(zH (K2 (zP aJ hr rfl (zB (zA 0) zC)))
  (zH (zS 4 Zg.nd rfl (Or.inl rfl) (zP aK hr rfl (zB (zA 1) (zB (zA 2) zC))))
  (zH (y4 PassesOwn.never rfl (xA rfl B.range_ (zB (zt (zA 3) zE) zC)) (zu 5 Zg.nd rfl (Or.inl rfl)) (zH (yG (vm (zA 4) xC) (zM (zY xC)) yF)
   (zH (zS 6 Zg.nd rfl (Or.inl rfl) (zP aL hr rfl (zB (zA 0) (zB (zA 4) zC))))
   (zH (yG (vM hr.units (zA 6) (zA 4)) (zM (zY (zA 4))) yF)
   (zM (zS 4 Zg.nd rfl (Or.inl rfl) (zA 6)))))))
  (zM (zY xC))))),λds R h=>?_⟩
 obtain ⟨n,bs,ms,S0,S,bx,t,rfl,t10,Th,h0,hS,B,q⟩:=h
 have n1:=Th.ths.ok.n1
 have n3:=Th.ths.ok.n3
 refine ⟨n,bs,ms,rfl,Th.ths.ok,Th.cl,n,S0,S,bx,rfl,n1,n3,h0,hS,⟨B.len,λb hb=>⟨(B.ok b hb).1,(B.ok b hb).2.1.mono,(B.ok b hb).2.2.mono⟩⟩,by omega,by omega,?_⟩
 rw [show (((t:Nat):Int) + 1).toNat=t + 1 by omega]
 refine ⟨λk Γ=>∃ bk s5 s6,Γ=[.sh (xy ag af n bs ms),.sh (zq n (zR S0 bx)),.sh (xP n S),.sh (.int ((t:Nat):Int)),.sh (zq n (zR S bk)),s5,s6]/\Bk n (115 + 10 * k) bk/\k<=t + 1/\vv n S bs ms (t + 1) bx=vv n S bs ms (t + 1 - k) bk,⟨bx,_,_,rfl,B,by omega,rfl⟩,?_,?_⟩
 ·rintro k d Γ' hk ⟨bk,s5,s6,rfl,Bb,kt,eq⟩
  obtain ⟨kl,rfl⟩:=wm hk
  refine wF rfl ⟨n,bs,ms,S,bk,115 + 10 * k,rfl,Th,hS,Bb,by omega,by omega,jN _ _,jN _ _,?_⟩
  rw [JN]
  have e1:t + 1 - k=(t - k) + 1:=by omega
  refine w2 (λc1=>?_) λc1=>?_
  ·have z:=of_decide_eq_true c1
   rw [eq,e1] at q
   unfold vv at q
   rw [if_pos z] at q
   exact q
  ·have z:=of_decide_eq_false c1
   refine ⟨xL n bs bk ms,_,_,rfl,?_,by omega,?_⟩
   ·have:=JK Th n3 Bb (by omega)
    rw [show 115 + 10 * (k + 1)=115 + 10 * k + 10 by omega]
    exact this
   ·rw [eq,e1]
    show (if _ then _ else _)=_
    rw [if_neg z,show t + 1 - (k + 1)=t - k by omega]
 ·rintro Γ' ⟨bk,s5,s6,rfl,Bb,kt,eq⟩
  rw [w8,Nat.sub_self] at eq
  rw [eq] at q
  exact q
end
structure JR (e:Nat) (m:MD):Prop where
 nexts:∀ r∈m.nexts,∀ x∈r,Bd e x
 steer:∀ x∈m.steer,Bd e x
 push:∀ r∈m.push,∀ x∈r,Bd e x
 add:∀ x∈m.add,Bd e x
 div:Bd e m.div
 rows:∀ r∈m.rows,∀ x∈r,Bd e x
 few:m.rows.length<=100
theorem JR.ms {e:Nat} {m:MD} (h:JR e m) (k:e<=300):MS m:=⟨λr hr x hx=>(h.nexts r hr x hx).mono k,λr hr x hx=>(h.push r hr x hx).mono k,λx hx=>(h.add x hx).mono k,h.div.mono k,λr hr x hx=>(h.rows r hr x hx).mono k,h.few⟩
section
variable {P:Program} {w:World} {K:PySem.W.Frag} {mg:Str->Option Value} {base:Heap}
variable {af ag:Addr} (aa:zT K mg "Mode" af) (ab:xa K af) (ac:zT K mg "Thing" ag) (ae:xb K ag)
include aa ab ac ae
end
theorem md (a:Int) {b:Int} (h:0 < b):0<=a.fmod b/\a.fmod b < b:=⟨Int.fmod_nonneg_of_pos a h,Int.fmod_lt_of_pos a h⟩
theorem vT {n:Nat} {a b:Int} (h:Bd n b) (p:0 < b):Bd n (a.fmod b):=by
 have:=md a p
 exact h.of_le (by omega)
theorem Xb {n:Nat} (h:n<=3):Bd 2 (n:Int):=by
 show (n:Int).natAbs < 2 ^ 2
 omega
theorem JS {α:Type} {xs:List α} {i:Int} (h0:0<=i) (h1:i < (xs.length:Int)):∃ x∈xs,yX xs i=some x:=by
 obtain ⟨k,rfl⟩:=Int.eq_ofNat_of_zero_le h0
 have hk:k < xs.length:=by omega
 refine ⟨xs[k],List.getElem_mem hk,?_⟩
 unfold yX xn
 rw [if_pos (by omega),if_pos (by omega)]
 show xs[((k:Nat):Int).toNat]? = _
 rw [show ((k:Nat):Int).toNat=k by omega,List.getElem?_eq_getElem hk]
theorem zPh {xs:List Int} {i:Int} (h0:0<=i) (h1:i < (xs.length:Int)):∃ x∈xs,yX (xs.map D.int) i=some (.int x):=by
 obtain ⟨x,hx,e⟩:=JS h0 h1
 exact ⟨x,hx,by rw [kM,e]; rfl⟩
theorem uC {xs:List Int} {i:Int} {R:D->Prop} (h0:0<=i) (h1:i < (xs.length:Int)) (q:∀ x∈xs,R (.int x)):∃ d,yX (xs.map D.int) i=some d/\R d:=by
 obtain ⟨x,hx,e⟩:=zPh h0 h1
 exact ⟨_,e,q x hx⟩
theorem JT {xs:List D} {i:Int} {R:D->Prop} (h0:0<=i) (h1:i < (xs.length:Int)) (q:∀ x∈xs,R x):∃ d,yX xs i=some d/\R d:=by
 obtain ⟨x,hx,e⟩:=JS h0 h1
 exact ⟨_,e,q x hx⟩
theorem zPg {y f:Int} {n:Nat} (h:Bd n f) (h1 : -f<=y) (h2:y<=f):Bd n y:=h.of_le (by omega)
theorem uu {α:Type} {P:α->Prop} {xs:List α} {y:α} (h:∀ x∈xs,P x) (k:P y):∀ x∈xs++[y],P x:=λx hx=>by
 rcases List.mem_append.mp hx with hx | hx
 ·exact h x hx
 ·rw [List.mem_singleton.mp hx]; exact k
theorem zIM {xs:List D} {k:Nat}:zi xs (some (k:Int)) none=xs.drop k:=by
 unfold zi
 rw [HT.sIx_none,HT.sIx_nat,List.take_of_length_le (by rw [List.length_drop]; omega)]
 by_cases h:k<=xs.length
 ·rw [Nat.min_eq_left h]
 ·rw [Nat.min_eq_right (by omega),List.drop_length,List.drop_of_length_le (by omega)]
abbrev Xc:Int:=10 ^ (45:Int).toNat
def JU:FL:=λds R=>∃ ns k,ds=[.scr ns,.int k]/\0<=k/\∀ c,R (.int c)
def JV (xs:List Int):Prop:=∀ x∈xs,0<=x/\Bd 150 x
def JW:FL:=λds R=>∃ (c:Int) (n:Nat),ds=[.int c,.int (n:Int)]/\n<=100/\∀ xs,xs.length=n->JV xs->R (L xs)
def JX:FL:=λds R=>∃ x far:Int,ds=[.int x,.int far]/\0<=far/\Bd 9000 far/\∀ y,-far<=y->y<=far->R (.int y)
def Zh:FL:=λds R=>∃ (c:Int) (n:Nat) (u:Int),ds=[.int c,.int (n:Int),.int u]/\n<=3/\0<=u/\Bd 100 u/\∀ bs:List (Int × Int),bs.length=n->(∀ b∈bs,b.1<=b.2/\Bd 105 b.1/\Bd 105 b.2)->R (.lst (bs.map yC))
def x8 (n i:Nat) (b:Int × Int):List (List Int):=[za (i:Int) n 1++[b.2],(za (i:Int) n 1).map (λx=>0 - x)++[0 - b.1]]
def JY (bs:List (Int × Int)):List (List Int):=(bs.mapIdx (x8 bs.length)).flatten
abbrev jO (m:MD):D:=.tup [Rm m.rows,Tb m.nexts,L m.steer,Tb m.push,L m.add,.int m.div]
abbrev vU (n:Nat) (bs:List (Int × Int)) (ms:List MD) (u:Int):D:=.tup [.int (n:Int),.lst (bs.map yC),.lst (ms.map jO),.int u]
def zPX (C CM:Addr):FL:=λds R=>∃ n bs ms u,ds=[vU n bs ms u]/\wZ n bs ms/\R (xy C CM n bs ms)
theorem zMV (i j:Nat):(if decide ((j:Int)=(i:Int))=true then (1:Int) else 0)=if (j:Int)=(i:Int) then 1 else 0:=by
 by_cases c:(j:Int)=(i:Int)
 ·rw [if_pos c,if_pos (decide_eq_true c)]
 ·rw [if_neg c,if_neg (by rw [decide_eq_false c]; exact Bool.false_ne_true)]
theorem zIH {bs:List (Int × Int)} {k:Nat} (h:k < bs.length) {i:Int} (e:i=(k:Int)):yX (bs.map yC) i=some (yC bs[k]):=by
 rw [kM,e]
 unfold yX xn
 rw [if_pos (by omega),if_pos (by omega)]
 show Option.map yC bs[((k:Nat):Int).toNat]? = _
 rw [show ((k:Nat):Int).toNat=k by omega,List.getElem?_eq_getElem h]
 rfl
theorem zLC {α:Type} {l:List (List α)} {k:Nat} {x:List α} (h:l[k]? = some x):(l.take (k + 1)).flatten=(l.take k).flatten++x:=by
 rw [uO h,List.flatten_append,List.flatten_singleton]
section
variable {P:Program} {w:World} {K:PySem.W.Frag} {mg:Str->Option Value} {base:Heap}
abbrev JZ:Stmt:=zj 69
theorem zGO:zc ["_law_script","_law_k"] ["_law_script","_law_k"] (zL JZ):=.a
abbrev Ja:Stmt:=zj 70
theorem jP:zc ["_law_cell","_law_many","_law_found","_law_rest","_law_k","_law_number_here"] ["_law_cell","_law_many"] (zL Ja):=.a
abbrev Jb:Stmt:=zj 71
theorem zG3:zc ["_law_x","_law_far"] ["_law_x","_law_far"] (zL Jb):=.a
abbrev Jc:Stmt:=zj 75
theorem Zi:zc ["_law_cell","_law_many","_law_unit","_law_xs","_law_box_here","_law_i","_law_low"] ["_law_cell","_law_many","_law_unit"] (zL Jc):=.a
variable {af ag:Addr} (aa:zT K mg "Mode" af) (ab:xa K af) (ac:zT K mg "Thing" ag) (ae:xb K ag)
include aa ab ac ae
theorem zGW {k:Nat} {f:Addr} {fd:FuncData} (F:ze K "_law_cell_at" "_law_cell_at" JZ f fd) (B:Bl mg):zF P w K mg base zU (k + 1) f fd ["_law_script","_law_k"] (zG (JU)):=by
 refine zn F zGO (λds R h=>by obtain ⟨ns,k,rfl,_⟩:=h; rfl) λcdv A outer s H E hr=>⟨_,(zH (yG (jq (zA 1) (yT xT xY rfl B.len_ xU (zB (zA 0) zC))) (zM (zY (zQ (zA 0) (zA 1) (λ_ _=>rfl)))) yF)
  (zM (zY zE))),λds R h=>?_⟩
 obtain ⟨ns,k,rfl,h0,q⟩:=h
 refine w2 (λc=>?_) λc=>q 0
 obtain ⟨x,_,e⟩:=JS h0 (of_decide_eq_true c)
 exact ⟨x,e,q x⟩
theorem zHJ {k:Nat} {f:Addr} {fd:FuncData} (F:ze K "_law_stream" "_law_stream" Ja f fd) (B:Bl mg):zF P w K mg base zU (k + 1) f fd ["_law_cell","_law_many"] (zG (JW)):=by
 refine zn F jP (λds R h=>by obtain ⟨c,n,rfl,_⟩:=h; rfl) λcdv A outer s H E hr=>⟨_,(zH (vP 2 jP.nd rfl (Or.inl rfl) zC)
  (zH (yG (zOd (zA 0) (jH zE zE)) (zH (zS 3 jP.nd rfl (Or.inl rfl) (xv (zA 0) (jH zE zE)))
   (zH (y4 PassesOwn.never rfl (xA rfl B.range_ (zB (zA 1) zC)) (zu 4 jP.nd rfl (Or.inl rfl)) (zH (yN (wW (we PySem.F.plainAttrs_list PySem.F.slot_list_append PySem.F.type_list_append yq (yx 2) (yI (xw (zA 3) (jH zE zE)) yn))) wR)
    (zM (zS 3 jP.nd rfl (Or.inl rfl) (wS (zA 3) (jH zE zE))))))
   (zM (wc 2 (zY (zA 2)))))) yF)
  (zH (zS 5 jP.nd rfl (Or.inl rfl) (zt (xw (zA 0) (zt (jH zE zE) zE)) zE))
  (zH (y4 PassesOwn.never rfl (xA rfl B.range_ (zB (zt (zA 1) zE) zC)) (zu 4 jP.nd rfl (Or.inl rfl)) (zH (zS 5 jP.nd rfl (Or.inl rfl) (xw (zt (zt (yO (zA 5) (zA 5)) (yO zE (zA 5))) (zA 4)) (zt (jH zE zE) zE)))
   (zM (yN (wW (we PySem.F.plainAttrs_list PySem.F.slot_list_append PySem.F.type_list_append yq (yx 2) (yI (zA 5) yn))) wR))))
  (zM (wc 2 (zY (wD (zA 2) (xl zE) wV)))))))),λds R h=>?_⟩
 obtain ⟨c,n,rfl,n1,q⟩:=h
 have b45:Bd 150 Xc:=Bd.lit
 have p45:(0:Int) < Xc:=by decide
 have b18:Bd 60 ((10:Int) ^ (18:Int).toNat + 9):=Bd.lit
 have p18:(0:Int) < (10:Int) ^ (18:Int).toNat + 9:=by decide
 refine ⟨k0,⟨by decide,by decide,by decide⟩,w2 (λc1=>?_) λc1=>?_⟩
 ·refine ⟨⟨by decide,by decide,by decide⟩,by omega,by omega,?_⟩
  rw [show ((n:Nat):Int).toNat=n by omega]
  refine ⟨λk Γ=>∃ (xs:List Int) (r:Int) (s4:Sl),Γ=[.sh (.int c),.sh (.int (n:Int)),.ow (xs.map D.int),.sh (.int r),s4,.no]/\xs.length=k/\JV xs,⟨[],_,.no,rfl,rfl,λ_ h=>nomatch h⟩,?_,?_⟩
  ·rintro k d Γ' hk ⟨xs,r,s4,rfl,lx,hx⟩
   obtain ⟨kn,rfl⟩:=wm hk
   refine ⟨⟨by decide,by decide,by decide⟩,by decide,by rw [List.length_map]; omega,?_⟩
   refine ⟨⟨by decide,by decide,by decide⟩,by decide,b45.mono,?_⟩
   refine ⟨xs++[r.fmod Xc],r.fdiv Xc,.sh (.int (k:Int)),?_,by rw [List.length_append,lx]; rfl,uu hx ⟨(md r p45).1,vT b45 p45⟩⟩
   rw [List.map_append]
   rfl
  ·rintro Γ' ⟨xs,r,s4,rfl,lx,hx⟩
   rw [w8] at lx
   exact q xs lx hx
 ·refine ⟨⟨by decide,by decide,by decide⟩,by decide,?_⟩
  have m0:=md c p18
  have bm:Bd 60 (c.fmod ((10:Int) ^ (18:Int).toNat + 9)):=vT b18 p18
  refine ⟨by omega,by omega,?_⟩
  rw [show ((n:Int) + 2).toNat=n + 2 by omega]
  refine ⟨λk Γ=>∃ (xs:List Int) (r:Int) (s4:Sl),Γ=[.sh (.int c),.sh (.int (n:Int)),.ow (xs.map D.int),.no,s4,.sh (.int r)]/\xs.length=k/\JV xs/\Bd 70 r,⟨[],_,.no,rfl,rfl,(λ_ h=>nomatch h),((bm.mono (show 60<=65 by decide)).add ((Bd.lit (i:=48271) (n:=16)).mono (show 16<=65 by decide))).mono⟩,?_,?_⟩
  ·rintro k d Γ' hk ⟨xs,r,s4,rfl,lx,hx,br⟩
   obtain ⟨kn,rfl⟩:=wm hk
   refine ⟨br.mono,br.mono,(Bd.lit (i:=48271) (n:=16)).mono,br.mono,⟨by decide,by decide,by decide⟩,by decide,by rw [List.length_map]; omega,?_⟩
   refine ⟨xs++[(r * r + 48271 * r + (k:Int)).fmod ((10:Int) ^ (18:Int).toNat + 9)],(r * r + 48271 * r + (k:Int)).fmod ((10:Int) ^ (18:Int).toNat + 9),.sh (.int (k:Int)),?_,?_,uu hx ⟨(md (r * r + 48271 * r + (k:Int)) p18).1,(vT b18 p18).mono⟩,(vT b18 p18).mono⟩
   ·rw [List.map_append]
    rfl
   ·rw [List.length_append,lx]; rfl
  ·rintro Γ' ⟨xs,r,s4,rfl,lx,hx,br⟩
   rw [w8] at lx
   have e:zi (xs.map D.int) (some 2) none=(xs.drop 2).map D.int:=by rw [show (2:Int)=((2:Nat):Int) from rfl,zIM,List.map_drop]
   have qq:=q (xs.drop 2) (by rw [List.length_drop]; omega) (λx hx'=>hx x (List.mem_of_mem_drop hx'))
   unfold L at qq
   rw [<- e] at qq
   exact qq
theorem zHK {k:Nat} {f:Addr} {fd:FuncData} (F:ze K "_law_number" "_law_number" Jb f fd) (B:Bl mg):zF P w K mg base zU (k + 1) f fd ["_law_x","_law_far"] (zG (JX)):=by
 refine zn F zG3 (λds R h=>by obtain ⟨x,far,rfl,_⟩:=h; rfl) λcdv A outer s H E hr=>⟨_,(zM (zY (xv (xw (zA 0) (zt (yO zE (zA 1)) zE)) (zA 1)))),λds R h=>?_⟩
 obtain ⟨x,far,rfl,f0,bf,q⟩:=h
 have:=md x (show (0:Int) < 2 * far + 1 by omega)
 exact ⟨(Bd.lit (i:=2) (n:=2)).mono,bf.mono,by omega,q _ (by omega) (by omega)⟩
theorem zLi {k:Nat} {f:Addr} {fd:FuncData} (F:ze K "_law_box" "_law_box" Jc f fd) (B:Bl mg) (aM:Fn P w K mg base "_law_stream" ["_law_cell","_law_many"] k (zG (JW))) (ak:Fn P w K mg base "_law_number" ["_law_x","_law_far"] k (zG (JX))):zF P w K mg base zU (k + 1) f fd ["_law_cell","_law_many","_law_unit"] (zG (Zh)):=by
 refine zn F Zi (λds R h=>by obtain ⟨c,n,u,rfl,_⟩:=h; rfl) λcdv A outer s H E hr=>⟨_,(zH (zS 3 Zi.nd rfl (Or.inl rfl) (zP aM hr rfl (zB (zA 0) (zB (yO zE (zA 1)) zC))))
  (zH (vP 4 Zi.nd rfl (Or.inl rfl) zC)
  (zH (y4 PassesOwn.never rfl (xA rfl B.range_ (zB (zA 1) zC)) (zu 5 Zi.nd rfl (Or.inl rfl)) (zH (zS 6 Zi.nd rfl (Or.inl rfl) (yO (zP ak hr rfl (zB (zQ (zA 3) (yO zE (zA 5)) (λ_ _=>rfl)) (zB zE zC))) (zA 2)))
   (zM (yN (wW (we PySem.F.plainAttrs_list PySem.F.slot_list_append PySem.F.type_list_append yq (yx 4) (yI (y3 (zB (zA 6) (zB (zt (zt (zA 6) (yO (xw (zQ (zA 3) (zt (yO zE (zA 5)) zE) (λ_ _=>rfl)) zE) (zA 2))) (xw (wS (zQ (zA 3) (zt (yO zE (zA 5)) zE) (λ_ _=>rfl)) zE) zE)) zC))) yn))) wR))))
  (zM (wc 4 (zY (zA 4))))))),λds R h=>?_⟩
 obtain ⟨c,n,u,rfl,n3,u0,bu,q⟩:=h
 have b2:Bd 2 (2:Int):=Bd.lit
 refine ⟨b2.mono,(Xb n3).mono,c,2 * n,by rw [show ((2 * n:Nat):Int)=2 * (n:Int) by omega],by omega,λxs lx hx=>?_⟩
 refine ⟨k0,by omega,by omega,?_⟩
 rw [show ((n:Nat):Int).toNat=n by omega]
 refine ⟨λk Γ=>∃ (bs:List (Int × Int)) (s5 s6:Sl),Γ=[.sh (.int c),.sh (.int (n:Int)),.sh (.int u),.sh (L xs),.ow (bs.map yC),s5,s6]/\bs.length=k/\∀ b∈bs,b.1<=b.2/\Bd 105 b.1/\Bd 105 b.2,⟨[],.no,.no,rfl,rfl,λ_ h=>nomatch h⟩,?_,?_⟩
 ·rintro k d Γ' hk ⟨bs,s5,s6,rfl,lb,hb⟩
  obtain ⟨kn,rfl⟩:=wm hk
  have bk:Bd 2 (k:Int):=Xb (by omega)
  refine ⟨b2.mono,bk.mono,uC (by omega) (by omega) λx hx1=>⟨x,3,rfl,by decide,(Bd.lit (i:=3) (n:=2)).mono,λy y1 y2=>?_⟩⟩
  have by2:Bd 2 y:=zPg (f:=3) Bd.lit y1 y2
  refine ⟨by2.mono,bu.mono,?_⟩
  refine ⟨b2.mono,bk.mono,uC (by omega) (by omega) λx2 hx2=>⟨by decide,(Bd.mono (n:=3) (vT Bd.lit (by decide)) (by decide)),bu.mono,b2.mono,bk.mono,uC (by omega) (by omega) λx3 hx3=>⟨by decide,(Bd.lit (i:=4) (n:=3)).mono,by decide,k0,by rw [List.length_map]; omega,?_⟩⟩⟩
  have m1:=md x2 (show (0:Int) < 4 by decide)
  have m2:=md (x3.fdiv 4) (show (0:Int) < 2 by decide)
  have g0:0<=x2.fmod 4 * u:=Int.mul_nonneg m1.1 u0
  have c1:Bd 102 (y * u):=by2.mul bu
  have c2:Bd 103 (x2.fmod 4 * u):=(vT (n:=3) Bd.lit (by decide)).mul bu
  have c3:Bd 2 ((x3.fdiv 4).fmod 2):=vT Bd.lit (by decide)
  refine ⟨bs++[(y * u,y * u + x2.fmod 4 * u + (x3.fdiv 4).fmod 2)],.sh (.int (k:Int)),.sh (.int (y * u)),?_,by rw [List.length_append,lb]; rfl,uu hb ⟨by show y * u<=y * u + x2.fmod 4 * u + (x3.fdiv 4).fmod 2; omega,c1.mono,((c1.mono (show 102<=103 by decide)).add c2 |>.add c3.mono).mono⟩⟩
  rw [List.map_append]
  rfl
 ·rintro Γ' ⟨bs,s5,s6,rfl,lb,hb⟩
  rw [w8] at lb
  exact q bs lb hb
end
theorem IS.zipL {d:D} {ns:List Int} {es:List D} (h:IS d ns) {R:List D->Prop} (q:R (List.zipWith yZ (ns.map D.int) es)):vi [d,.lst es] R:=by
 rcases h with rfl | rfl <;> exact q
theorem jQ {y:Int} {f n:Nat} (h:f < 2 ^ n) (h1 : -(f:Int)<=y) (h2:y<=(f:Int)):Bd n y:=by
 show y.natAbs < 2 ^ n
 omega
section
variable {P:Program} {w:World} {K:PySem.W.Frag} {mg:Str->Option Value} {base:Heap}
abbrev Zj:Stmt:=zj 74
theorem vE:zc ["_law_spec","_law_many","_law_pushes","_law_modes","_law_unit","_law_some","_law_rows_here","_law_nexts","_law_steer","_law_push","_law_add","_law_divisor","_law_lists"] ["_law_spec"] (zL Zj):=.a
variable {af ag:Addr} (aa:zT K mg "Mode" af) (ab:xa K af) (ac:zT K mg "Thing" ag) (ae:xb K ag)
include aa ab ac ae
theorem zJx {k:Nat} {f:Addr} {fd:FuncData} (F:ze K "_law_made" "_law_made" Zj f fd) (B:Bl mg) (bM:uP P w K mg base af ["self","rows","nexts","steer","push","add","divisor"] k (vk af (zMc af))) (bN:uP P w K mg base ag ["self","many","pushes","modes"] k (vk ag (zKO ag af))):zF P w K mg base zU (k + 1 + 1) f fd ["_law_spec"] (zG (zPX ag af)):=by
 refine zn F vE (λds R h=>by obtain ⟨n,bs,ms,u,rfl,_⟩:=h; rfl) λcdv A outer s H E hr=>⟨_,(zH (Kq (zA 0) (wG rfl (yA 1 vE.nd rfl (Or.inl rfl) (yA 2 vE.nd rfl (Or.inl rfl) (yA 3 vE.nd rfl (Or.inl rfl) (yA 4 vE.nd rfl (Or.inl rfl) wE))))))
  (zH (vP 5 vE.nd rfl (Or.inl rfl) zC)
  (zH (y4 PassesOwn.never rfl (yo (zA 3)) (wG rfl (yA 6 vE.nd rfl (Or.inl rfl) (yA 7 vE.nd rfl (Or.inl rfl) (yA 8 vE.nd rfl (Or.inl rfl) (yA 9 vE.nd rfl (Or.inl rfl) (yA 10 vE.nd rfl (Or.inl rfl) (yA 11 vE.nd rfl (Or.inl rfl) wE))))))) (zH (ug 12 false vE.nd rfl rfl (own:=["_law_one"]) (caps:=[]) (yJ (S:=zL Zj) (N:=["_law_spec","_law_many","_law_pushes","_law_modes","_law_unit","_law_some","_law_rows_here","_law_nexts","_law_steer","_law_push","_law_add","_law_divisor","_law_lists"]) rfl (by decide +kernel) rfl ⟨0,rfl⟩ rfl (by decide +kernel) (by decide +kernel)) rfl rfl ya (yo (zA 7)) (λ_ _ _ _=>(zu 0 (show (["_law_one"]:List Str).Nodup by decide +kernel) rfl (Or.inl rfl))) (λ_ _ _ _=>(xE wv vO rfl B.list_ xi (zB (zA 0) zC))) rfl)
   (zM (yN (wW (we PySem.F.plainAttrs_list PySem.F.slot_list_append PySem.F.type_list_append yq (yx 5) (yI (Ky bM aa hr rfl (zB (xE wv vO rfl B.list_ xi (zB (zA 6) zC)) (zB (zA 12) (zB (xE wv vO rfl B.list_ xi (zB (zA 8) zC)) (zB (yc (own:=["_law_one"]) (caps:=[]) (yJ (S:=zL Zj) (N:=["_law_spec","_law_many","_law_pushes","_law_modes","_law_unit","_law_some","_law_rows_here","_law_nexts","_law_steer","_law_push","_law_add","_law_divisor","_law_lists"]) rfl (by decide +kernel) rfl ⟨0,rfl⟩ rfl (by decide +kernel) (by decide +kernel)) rfl rfl ya (yo (zA 9)) (λ_ _ _ _=>(zu 0 (show (["_law_one"]:List Str).Nodup by decide +kernel) rfl (Or.inl rfl))) (λ_ _ _ _=>(xE wv vO rfl B.list_ xi (zB (zA 0) zC)))) (zB (xE wv vO rfl B.list_ xi (zB (zA 10) zC)) (zB (zA 11) zC))))))) yn))) wR))))
  (zM (wc 5 (zY (Ky bN ac hr rfl (zB (zA 1) (zB (xE wv vO rfl B.list_ xi (zB (zA 2) zC)) (zB (zA 5) zC)))))))))),λds R h=>?_⟩
 obtain ⟨n,bs,ms,u,rfl,TO,q⟩:=h
 have m40:=TO.m40
 have n3:=TO.n3
 have b6:=TO.b6
 refine ⟨k0,?_⟩
 refine ⟨λk Γ=>∃ s6 s7 s8 s9 s10 s11 s12:Sl,Γ=[.sh (vU n bs ms u),.sh (.int (n:Int)),.sh (.lst (bs.map yC)),.sh (.lst (ms.map jO)),.sh (.int u),.ow ((ms.take k).map (vR af)),s6,s7,s8,s9,s10,s11,s12],⟨_,_,_,_,_,_,_,rfl⟩,?_,?_⟩
 ·rintro k d Γ' hk ⟨s6,s7,s8,s9,s10,s11,s12,rfl⟩
  have kl:=(List.getElem?_eq_some_iff.mp hk).1
  rw [List.length_map] at kl
  rw [List.getElem?_map,List.getElem?_eq_getElem kl] at hk
  cases hk
  generalize hm:ms[k]=m
  have o:=TO.mok m (hm ▸ List.getElem_mem kl)
  have hk2:ms[k]? = some m:=by rw [List.getElem?_eq_getElem kl,hm]
  refine vQ L zz qj L (by rw [o.nexts.1]; omega) (λr hr=>rfl) ?_
  refine vQ L zz qj L (by rw [o.push.1]; omega) (λr hr=>rfl) ?_
  refine ⟨_,_,_,_,_,_,rfl,zPU o.few (λr hr=>by rw [o.rows r hr]; omega),Y7 (by rw [o.nexts.1]; omega) (λr hr=>by rw [o.nexts.2 r hr]; omega),vn (by rw [o.steer]; omega),Y7 (by rw [o.push.1]; omega) (λr hr=>by rw [o.push.2 r hr]; omega),vn (by rw [o.add]; omega),by rw [List.length_map,List.length_take]; omega,?_⟩
  refine ⟨.sh (Rm m.rows),.sh (Tb m.nexts),.sh (L m.steer),.sh (Tb m.push),.sh (L m.add),.sh (.int m.div),.sh (Tb m.nexts),?_⟩
  rw [uO hk2,List.map_append]
  rfl
 ·rintro Γ' ⟨s6,s7,s8,s9,s10,s11,s12,rfl⟩
  rw [List.length_map,List.take_length]
  exact ⟨n,bs,ms,rfl,TO,q⟩
end
theorem zII {α β:Type} {f:α->β} {l:List α} {k:Nat} {y:β} (h:(l.map f)[k]? = some y):∃ x,l[k]? = some x/\f x=y:=by
 rw [List.getElem?_map] at h
 cases c:l[k]? with
 | none=>rw [c] at h; cases h
 | some x=>rw [c] at h; cases h; exact ⟨x,rfl,rfl⟩
def yb:List Int->List (Int × Int)->Int
 | x :: xs,b :: bs=>max (x * b.1) (x * b.2) + yb xs bs
 | _,_=>0
theorem zHu:∀ {xs:List Int} {bs:List (Int × Int)} {x:Int} {b:Int × Int},xs.length=bs.length->yb (xs++[x]) (bs++[b])=yb xs bs + max (x * b.1) (x * b.2)
 | [],[],x,b,_=>by show max (x * b.1) (x * b.2) + 0=0 + max (x * b.1) (x * b.2); omega
 | [],_ :: _,_,_,h=>nomatch h
 | _ :: _,[],_,_,h=>nomatch h
 | y :: xs,c :: bs,x,b,h=>by
  show max (y * c.1) (y * c.2) + yb (xs++[x]) (bs++[b])=max (y * c.1) (y * c.2) + yb xs bs + max (x * b.1) (x * b.2)
  rw [zHu (Nat.succ.inj h)]
  omega
theorem zHt:∀ (xs:List Int) (bs:List (Int × Int)),yb (xs.take (min xs.length bs.length)) (bs.take (min xs.length bs.length))=yb xs bs
 | [],bs=>by rw [List.length_nil,Nat.zero_min]; rfl
 | x :: xs,[]=>by rw [List.length_nil,Nat.min_zero]; rfl
 | x :: xs,b :: bs=>by
  rw [List.length_cons,List.length_cons,Nat.succ_min_succ,List.take_succ_cons,List.take_succ_cons]
  show _ + yb _ _=_ + yb _ _
  rw [zHt xs bs]
def Jd:FL:=λds R=>∃ (d:D) (ns:List Int) (bs:List (Int × Int)) (e:Nat),ds=[d,.lst (bs.map yC)]/\IS d ns/\ns.length<=3/\(∀ x∈ns,Bd 10 x)/\e<=500/\(∀ b∈bs,Bd e b.1/\Bd e b.2)/\R (.int (yb ns bs))
structure Zk (n w:Nat) (m:MD):Prop where
 ok:uS m n w
 nx:∀ r∈m.nexts,∀ x∈r,Bd 4 x
 ps:∀ r∈m.push,∀ x∈r,Bd 4 x
 ad:∀ x∈m.add,Bd 110 x
 st:∀ x∈m.steer,x=0
 dv:Bd 3 m.div
 r1:m.rows.length<=1
 rb:∀ r∈m.rows,(∀ x∈r.take n,Bd 4 x)/\∀ x∈r,Bd 110 x
theorem Zk.mse {n w:Nat} {m:MD} (h:Zk n w m):JR 200 m:=⟨λr hr x hx=>(h.nx r hr x hx).mono,λx hx=>by rw [h.st x hx]; exact vo,λr hr x hx=>(h.ps r hr x hx).mono,λx hx=>(h.ad x hx).mono,h.dv.mono,λr hr x hx=>((h.rb r hr).2 x hx).mono,by have:=h.r1; omega⟩
def fMd:FL:=λds R=>∃ (c:Int) (n w:Nat) (u:Int) (sp:Bool),ds=[.int c,.int (n:Int),.int (w:Int),.int u,.bool sp]/\1<=n/\n<=3/\w<=2/\1<=u/\Bd 100 u/\∀ m,Zk n w m->(sp=false->m.rows=[])->R (jO m)
structure uD (n:Nat) (bs:List (Int × Int)) (ms:List MD) (u:Int):Prop where
 n1:1<=n
 n3:n<=3
 b2:bs.length<=2
 bb:∀ b∈bs,b.1<=b.2/\Bd 105 b.1/\Bd 105 b.2
 m1:1<=ms.length
 m3:ms.length<=3
 md:∀ m∈ms,Zk n bs.length m
 u1:1<=u
 bu:Bd 100 u
theorem uD.ok {n:Nat} {bs:List (Int × Int)} {ms:List MD} {u:Int} (h:uD n bs ms u):wZ n bs ms:=⟨h.n1,h.n3,λb hb=>(h.bb b hb).1,by have:=h.b2; omega,h.m1,by have:=h.m3; omega,λm hm=>(h.md m hm).ok⟩
theorem uD.cl {n:Nat} {bs:List (Int × Int)} {ms:List MD} {u:Int} (h:uD n bs ms u):Y8 ms=true:=List.all_eq_true.mpr λm hm=>List.all_eq_true.mpr λx hx=>decide_eq_true ((h.md m hm).st x hx)
theorem uD.ths {n:Nat} {bs:List (Int × Int)} {ms:List MD} {u:Int} (h:uD n bs ms u):ThS n bs ms:=⟨h.ok,λm hm=>(h.md m hm).mse.ms (by decide),λb hb=>⟨(h.bb b hb).2.1.mono,(h.bb b hb).2.2.mono⟩⟩
section
variable {P:Program} {w:World} {K:PySem.W.Frag} {mg:Str->Option Value} {base:Heap}
abbrev Je:Stmt:=zj 77
theorem Zl:zc ["_law_numbers","_law_box_here","_law_found","_law_number_here","_law_bounds"] ["_law_numbers","_law_box_here"] (zL Je):=.a
abbrev qE:Stmt:=zj 72
theorem uv:zc ["_law_cell","_law_many","_law_wide","_law_unit","_law_split","_law_xs","_law_divisor","_law_nexts","_law_push","_law_i","_law_add","_law_rows_here","_law_row"] ["_law_cell","_law_many","_law_wide","_law_unit","_law_split"] (zL qE):=.a
variable {af ag:Addr} (aa:zT K mg "Mode" af) (ab:xa K af) (ac:zT K mg "Thing" ag) (ae:xb K ag)
include aa ab ac ae
theorem zLh {k:Nat} {f:Addr} {fd:FuncData} (F:ze K "_law_top" "_law_top" Je f fd) (B:Bl mg):zF P w K mg base zU (k + 1) f fd ["_law_numbers","_law_box_here"] (zG (Jd)):=by
 refine zn F Zl (λds R h=>by obtain ⟨d,ns,bs,ee,rfl,_⟩:=h; rfl) λcdv A outer s H E hr=>⟨_,(zH (zS 2 Zl.nd rfl (Or.inl rfl) zE)
  (zH (y4 PassesOwn.never rfl (uA rfl B.zip_ (zB (zA 0) (zB (zA 1) zC))) (wG rfl (yA 3 Zl.nd rfl (Or.inl rfl) (yA 4 Zl.nd rfl (Or.inl rfl) wE))) (zM (zS 2 Zl.nd rfl (Or.inl rfl) (zt (zA 2) (yT (X3 rfl) Wu rfl B.max_ YR (zB (yO (zA 3) (zQ (zA 4) zE (λ_ _=>rfl))) (zB (yO (zA 3) (zQ (zA 4) zE (λ_ _=>rfl))) zC)))))))
  (zM (zY (zA 2))))),λds R h=>?_⟩
 obtain ⟨d,ns,bs,ee,rfl,h,l3,bn,e5,bb,q⟩:=h
 refine h.zipL ?_
 refine ⟨λk Γ=>∃ (s3 s4:Sl),Γ=[.sh d,.sh (.lst (bs.map yC)),.sh (.int (yb (ns.take k) (bs.take k))),s3,s4],⟨.no,.no,rfl⟩,?_,?_⟩
 ·rintro k d' Γ' hk ⟨s3,s4,rfl⟩
  obtain ⟨x1,b1,h1,h2,rfl⟩:=Wz _ hk
  obtain ⟨x,hx,rfl⟩:=zII h1
  obtain ⟨b,hb,rfl⟩:=zII h2
  have hx':=bn x (List.mem_of_getElem? hx)
  have hb':=bb b (List.mem_of_getElem? hb)
  have kx:=(List.getElem?_eq_some_iff.mp hx).1
  have kb:=(List.getElem?_eq_some_iff.mp hb).1
  refine ⟨_,rfl,hx'.mono,hb'.1.mono (by omega),_,rfl,hx'.mono,hb'.2.mono (by omega),.sh (.int x),.sh (yC b),?_⟩
  rw [uO hx,uO hb,zHu (by rw [List.length_take,List.length_take]; omega)]
  rfl
 ·rintro Γ' ⟨s3,s4,rfl⟩
  rw [List.length_zipWith,List.length_map,List.length_map,zHt]
  exact q
theorem zJw {k:Nat} {f:Addr} {fd:FuncData} (F:ze K "_law_mode" "_law_mode" qE f fd) (B:Bl mg) (aM:Fn P w K mg base "_law_stream" ["_law_cell","_law_many"] k (zG (JW))) (ak:Fn P w K mg base "_law_number" ["_law_x","_law_far"] k (zG (JX))):zF P w K mg base zU (k + 1) f fd ["_law_cell","_law_many","_law_wide","_law_unit","_law_split"] (zG (fMd)):=by
 refine zn F uv (λds R h=>by obtain ⟨c,n,w,u,sp,rfl,_⟩:=h; rfl) λcdv A outer s H E hr=>⟨_,(zH (zS 5 uv.nd rfl (Or.inr rfl) (zP aM hr rfl (zB (zA 0) (zB zE zC))))
  (zH (zS 6 uv.nd rfl (Or.inr rfl) (zt zE (xw (zQ (zA 5) zE (λ_ _=>rfl)) zE)))
  (zH (vP 7 uv.nd rfl (Or.inl rfl) zC)
  (zH (vP 8 uv.nd rfl (Or.inl rfl) zC)
  (zH (y4 PassesOwn.never rfl (xA rfl B.range_ (zB (zA 1) zC)) (zu 9 uv.nd rfl (Or.inr rfl)) (zH (yN (wW (we PySem.F.plainAttrs_list PySem.F.slot_list_append PySem.F.type_list_append yq (yx 7) (yI (yc (own:=["_law_j"]) (caps:=[(5,"_law_xs"),(6,"_law_divisor"),(9,"_law_i")]) (yJ (S:=zL qE) (N:=["_law_cell","_law_many","_law_wide","_law_unit","_law_split","_law_xs","_law_divisor","_law_nexts","_law_push","_law_i","_law_add","_law_rows_here","_law_row"]) rfl (by decide +kernel) rfl ⟨_,rfl⟩ rfl (by decide +kernel) (by decide +kernel)) rfl rfl ya (xA rfl B.range_ (zB (zA 1) zC)) (λ_ _ _ _=>(zu 0 (show (["_law_j","_law_xs","_law_divisor","_law_i"]:List Str).Nodup by decide +kernel) rfl (Or.inl rfl))) (λ_ _ _ _=>(zP ak hr rfl (zB (zQ (zA 1) (zt (zt zE (yO zE (zA 3))) (zA 0)) (λ_ _=>rfl)) (zB (zQ (wl (zB zE (zB (xv (zA 2) zE) zC))) (xE X4 Wv rfl B.int_ YI (zB (uZ hr.units (zA 3) (zA 0)) zC)) (λ_ _=>rfl)) zC))))) yn))) wR)
   (zM (yN (wW (we PySem.F.plainAttrs_list PySem.F.slot_list_append PySem.F.type_list_append yq (yx 8) (yI (yc (own:=["_law_j"]) (caps:=[(5,"_law_xs"),(9,"_law_i")]) (yJ (S:=zL qE) (N:=["_law_cell","_law_many","_law_wide","_law_unit","_law_split","_law_xs","_law_divisor","_law_nexts","_law_push","_law_i","_law_add","_law_rows_here","_law_row"]) rfl (by decide +kernel) rfl ⟨_,rfl⟩ rfl (by decide +kernel) (by decide +kernel)) rfl rfl ya (xA rfl B.range_ (zB (zA 2) zC)) (λ_ _ _ _=>(zu 0 (show (["_law_j","_law_xs","_law_i"]:List Str).Nodup by decide +kernel) rfl (Or.inl rfl))) (λ_ _ _ _=>(zP ak hr rfl (zB (zQ (zA 1) (zt (zt zE (yO zE (zA 2))) (zA 0)) (λ_ _=>rfl)) (zB zE zC))))) yn))) wR))))
  (zH (ug 10 false uv.nd rfl rfl (own:=["_law_i"]) (caps:=[(3,"_law_unit"),(5,"_law_xs")]) (yJ (S:=zL qE) (N:=["_law_cell","_law_many","_law_wide","_law_unit","_law_split","_law_xs","_law_divisor","_law_nexts","_law_push","_law_i","_law_add","_law_rows_here","_law_row"]) rfl (by decide +kernel) rfl ⟨_,rfl⟩ rfl (by decide +kernel) (by decide +kernel)) rfl rfl ya (xA rfl B.range_ (zB (zA 1) zC)) (λ_ _ _ _=>(zu 0 (show (["_law_i","_law_unit","_law_xs"]:List Str).Nodup by decide +kernel) rfl (Or.inl rfl))) (λ_ _ _ _=>(yO (zP ak hr rfl (zB (zQ (zA 2) (zt zE (zA 0)) (λ_ _=>rfl)) (zB zE zC))) (xw (zQ (zA 2) zE (λ_ _=>rfl)) (zA 1)))) rfl)
  (zH (vP 11 uv.nd rfl (Or.inl rfl) zC)
  (jv (yG (xJ (zA 4)) (zH (ug 12 false uv.nd rfl rfl (own:=["_law_i"]) (caps:=[(5,"_law_xs")]) (yJ (S:=zL qE) (N:=["_law_cell","_law_many","_law_wide","_law_unit","_law_split","_law_xs","_law_divisor","_law_nexts","_law_push","_law_i","_law_add","_law_rows_here","_law_row"]) rfl (by decide +kernel) rfl ⟨_,rfl⟩ rfl (by decide +kernel) (by decide +kernel)) rfl rfl ya (xA rfl B.range_ (zB (zA 1) zC)) (λ_ _ _ _=>(zu 0 (show (["_law_i","_law_xs"]:List Str).Nodup by decide +kernel) rfl (Or.inl rfl))) (λ_ _ _ _=>(zP ak hr rfl (zB (zQ (zA 1) (zt zE (zA 0)) (λ_ _=>rfl)) (zB zE zC)))) rfl)
   (zM (yN (wW (we PySem.F.plainAttrs_list PySem.F.slot_list_append PySem.F.type_list_append yq (yx 11) (yI (xE uL ub rfl B.tuple_ vI (zB (zt (zA 12) (wl (zB (yO (zP ak hr rfl (zB (zQ (zA 5) zE (λ_ _=>rfl)) (zB zE zC))) (zA 3)) zC))) zC)) yn))) wR))) yF)
  (zM (wc 7 (wc 8 (wc 11 (zY (y3 (zB (zA 11) (zB (zA 7) (zB (yO (wl (zB zE zC)) (zA 1)) (zB (zA 8) (zB (zA 10) (zB (zA 6) zC)))))))))))))))))))),λds R h=>?_⟩
 obtain ⟨c,n,w,u,sp,rfl,n1,n3,wb,u1,bu,q⟩:=h
 refine ⟨c,24,rfl,by decide,λxs lx hx=>?_⟩
 refine uC (by decide) (by omega) λx0 _=>⟨by decide,?_⟩
 have d0:=md x0 (show (0:Int) < 4 by decide)
 obtain ⟨dv,hdv⟩:∃ dv,dv=2 + x0.fmod 4:=⟨_,rfl⟩
 have dv1:2<=dv:=by omega
 have dv5:dv<=5:=by omega
 have bdv:Bd 3 dv:=jQ (f:=7) (by decide) (by omega) (by omega)
 refine ⟨k0,k0,by omega,by omega,?_⟩
 rw [show ((n:Nat):Int).toNat=n by omega]
 refine ⟨λk Γ=>∃ (N P:List (List Int)) (s9:Sl),Γ=[.sh (.int c),.sh (.int (n:Int)),.sh (.int (w:Int)),.sh (.int u),.sh (.bool sp),.sh (L xs),.sh (.int dv),.ow (N.map L),.ow (P.map L),s9,.no,.no,.no]/\N.length=k/\P.length=k/\(∀ r∈N,r.length=n/\∀ x∈r,Bd 4 x)/\∀ r∈P,r.length=w/\∀ x∈r,Bd 4 x,⟨[],[],.no,by rw [hdv]; rfl,rfl,rfl,λ_ h=>(nomatch h),λ_ h=>(nomatch h)⟩,?_,?_⟩
 ·rintro k d Γ' hk ⟨N,P,s9,rfl,lN,lP,hN,hP⟩
  obtain ⟨kn,rfl⟩:=wm hk
  have bk:Bd 2 (k:Int):=Xb (by omega)
  refine ⟨by omega,by omega,?_⟩
  rw [show ((n:Nat):Int).toNat=n by omega]
  refine zg.nums (λx=>Bd 4 x) (by omega) (λj hj=>?_) λns ln hn=>?_
  ·refine ⟨(Bd.lit (i:=3) (n:=2)).mono,bk.mono,uC (by omega) (by omega) λx1 _=>⟨k0,JT (by split <;> decide) (by show _ < (2:Int); split <;> decide) λz hz=>?_⟩⟩
   obtain ⟨f,rfl,f1,f4⟩:∃ f,z=.int f/\1<=f/\f<=4:=by
    simp only [List.mem_cons,List.not_mem_nil,or_false] at hz
    rcases hz with rfl | rfl
    ·exact ⟨_,rfl,by decide,by decide⟩
    ·exact ⟨_,rfl,by omega,by omega⟩
   exact ⟨_,f,rfl,by omega,Bd.mono (n:=3) (jQ (f:=7) (by decide) (by omega) (by omega)) (by decide),λy y1 y2=>⟨y,rfl,jQ (f:=15) (by decide) (by omega) (by omega)⟩⟩
  refine ⟨by rw [List.length_map]; omega,by omega,by omega,?_⟩
  rw [show ((w:Nat):Int).toNat=w by omega]
  refine zg.nums (λx=>Bd 4 x) (by omega) (λj hj=>?_) λps lps hps=>?_
  ·exact ⟨(Bd.lit (i:=2) (n:=2)).mono,bk.mono,uC (by omega) (by omega) λx1 _=>⟨_,2,rfl,by decide,(Bd.lit (i:=2) (n:=2)).mono,λy y1 y2=>⟨y,rfl,jQ (f:=15) (by decide) (by omega) (by omega)⟩⟩⟩
  refine ⟨by rw [List.length_map]; omega,N++[ns],P++[ps],.sh (.int (k:Int)),by rw [List.map_append,List.map_append]; rfl,by rw [List.length_append,lN]; rfl,by rw [List.length_append,lP]; rfl,uu hN ⟨ln,hn⟩,uu hP ⟨lps,hps⟩⟩
 rintro Γ' ⟨N,P,s9,rfl,lN,lP,hN,hP⟩
 rw [w8] at lN lP
 refine ⟨by omega,by omega,?_⟩
 rw [show ((n:Nat):Int).toNat=n by omega]
 refine zg.nums (λx=>Bd 110 x) (by omega) (λi hi=>?_) λad lad had=>?_
 ·refine uC (by omega) (by omega) λx1 _=>⟨_,2,rfl,by decide,(Bd.lit (i:=2) (n:=2)).mono,λy y1 y2=>uC (by decide) (by omega) λx2 _=>⟨by omega,?_⟩⟩
  have by2:Bd 2 y:=jQ (f:=3) (by decide) (by omega) (by omega)
  have bm:Bd 100 (x2.fmod u):=vT bu (by omega)
  exact ⟨by2.mono,bm.mono,_,rfl,(by2.mul bm).mono⟩
 refine ⟨k0,λΓ=>∃ (rows:List (List Int)) (s12:Sl),Γ=[.sh (.int c),.sh (.int (n:Int)),.sh (.int (w:Int)),.sh (.int u),.sh (.bool sp),.sh (L xs),.sh (.int dv),.ow (N.map L),.ow (P.map L),s9,.sh (L ad),.ow (rows.map U),s12]/\rows.length<=1/\(sp=false->rows=[])/\∀ r∈rows,r.length=n + 1/\(∀ x∈r.take n,Bd 4 x)/\∀ x∈r,Bd 110 x,w2 (λc1=>?_) λc1=>⟨[],_,rfl,by decide,λ_=>rfl,λ_ h=>nomatch h⟩,?_⟩
 ·refine ⟨by omega,by omega,?_⟩
  rw [show ((n:Nat):Int).toNat=n by omega]
  refine zg.nums (λx=>Bd 2 x) (by omega) (λi hi=>?_) λrw_ lrw hrw=>?_
  ·exact uC (by omega) (by omega) λx3 _=>⟨_,1,rfl,by decide,(Bd.lit (i:=1) (n:=1)).mono,λy y1 y2=>⟨y,rfl,jQ (f:=3) (by decide) (by omega) (by omega)⟩⟩
  refine uC (by decide) (by omega) λx4 _=>⟨_,3,rfl,by decide,(Bd.lit (i:=3) (n:=2)).mono,λy y1 y2=>?_⟩
  have by3:Bd 3 y:=jQ (f:=7) (by decide) (by omega) (by omega)
  refine ⟨by3.mono,bu.mono,k0,by rw [List.length_map]; show _ + 1<=1000; omega,by decide,[rw_++[y * u]],.sh (L rw_),?_,by show 1<=1; decide,λz=>(by rw [z] at c1; cases c1),λr hr=>?_⟩
  ·rw [List.map_cons,List.map_nil,U,List.map_append]
   rfl
  ·rw [List.mem_singleton.mp hr]
   exact ⟨by rw [List.length_append,lrw]; rfl,λx hx=>by
    rw [List.take_append_of_le_length (by omega),List.take_of_length_le (by omega)] at hx
    exact (hrw x hx).mono,uu (λx hx=>(hrw x hx).mono) ((by3.mul bu).mono)⟩
 rintro Γ' ⟨rows,s12,rfl,lr,hsp,hr⟩
 have rep:D.lst (List.replicate n (D.int 0))=L (List.replicate n 0):=by unfold L; rw [List.map_replicate]
 refine ⟨k0,by omega,by omega,?_⟩
 rw [show ((n:Nat):Int).toNat=n by omega,rep]
 exact ⟨k0,q ⟨rows,N,List.replicate n 0,P,ad,dv⟩ ⟨⟨λr h=>(hr r h).1,by show rows.length<=900; omega,⟨lN,λr h=>(hN r h).1⟩,List.length_replicate ..,⟨lP,λr h=>(hP r h).1⟩,lad,by show 1<=dv; omega,n3,by omega⟩,λr h=>(hN r h).2,λr h=>(hP r h).2,had,λx hx=>List.eq_of_mem_replicate hx,bdv,lr,λr h=>(hr r h).2⟩ hsp⟩
end
theorem qm:∀ (us:List Int) (bs:List (Int × Int)),yb us bs=yV us bs
 | [],_=>rfl
 | _ :: _,[]=>rfl
 | u :: us,b :: bs=>by
  show max (u * b.1) (u * b.2) + yb us bs=max (u * b.1) (u * b.2) + yV us bs
  rw [qm us bs]
def Zm:FL:=λds R=>∃ ns,ds=[.scr ns,.int 3]/\∀ n bs ms u,uD n bs ms u->(∀ m∈ms,m.rows=[])->R (vU n bs ms u)
theorem uD.th7 {n:Nat} {bs:List (Int × Int)} {ms:List MD} {u:Int} (h:uD n bs ms u) (hr:∀ m∈ms,m.rows=[]):ql n bs ms:=⟨h.ths,h.cl,hr,λm hm=>(h.md m hm).nx,λm hm=>(h.md m hm).ps,λm hm x hx=>((h.md m hm).ad x hx).mono,λm hm=>(h.md m hm).dv.mono,λb hb=>⟨(h.bb b hb).2.1.mono,(h.bb b hb).2.2.mono⟩,h.b2⟩
section
variable {P:Program} {w:World} {K:PySem.W.Frag} {mg:Str->Option Value} {base:Heap}
abbrev Jf:Stmt:=zj 73
theorem vV:zc ["_law_script","_law_most_modes","_law_first","_law_second","_law_unit","_law_many","_law_pushes","_law_k","_law_x","_law_modes","_law_cell"] ["_law_script","_law_most_modes"] (zL Jf):=.a
variable {af ag:Addr} (aa:zT K mg "Mode" af) (ab:xa K af) (ac:zT K mg "Thing" ag) (ae:xb K ag)
include aa ab ac ae
theorem zIp {k:Nat} {f:Addr} {fd:FuncData} (F:ze K "_law_thing" "_law_thing" Jf f fd) (B:Bl mg) (al:Fn P w K mg base "_law_cell_at" ["_law_script","_law_k"] k (zG (JU))) (bO:Fn P w K mg base "_law_mode" ["_law_cell","_law_many","_law_wide","_law_unit","_law_split"] k (zG (fMd))):zF P w K mg base zU (k + 1) f fd ["_law_script","_law_most_modes"] (zG (Zm)):=by
 refine zn F vV (λds R h=>by obtain ⟨ns,rfl,_⟩:=h; rfl) λcdv A outer s H E hr=>⟨_,(zH (zS 2 vV.nd rfl (Or.inl rfl) (zP al hr rfl (zB (zA 0) (zB zE zC))))
  (zH (zS 3 vV.nd rfl (Or.inl rfl) (zP al hr rfl (zB (zA 0) (zB zE zC))))
  (zH (zS 4 vV.nd rfl (Or.inl rfl) (zt zE (xw (wS (zA 2) zE) (zQ (wl (zB zE (zB zE (zB (jH zE zE) (zB (jH zE zE) zC))))) (xw (zA 2) zE) (λ_ _=>rfl)))))
  (zH (zS 5 vV.nd rfl (Or.inl rfl) (zQ (wl (zB zE (zB zE (zB zE (zB zE (zB zE (zB zE zC))))))) (xw (zA 3) zE) (λ_ _=>rfl)))
  (zH (vP 6 vV.nd rfl (Or.inl rfl) zC)
  (zH (y4 PassesOwn.never rfl (xA rfl B.range_ (zB (xw (wS (zA 3) zE) zE) zC)) (zu 7 vV.nd rfl (Or.inl rfl)) (zH (zS 8 vV.nd rfl (Or.inl rfl) (wS (zA 3) (zt zE (yO zE (zA 7)))))
   (zM (yN (wW (we PySem.F.plainAttrs_list PySem.F.slot_list_append PySem.F.type_list_append yq (yx 6) (yI (y3 (zB (xv zE (yO (xw (zA 8) zE) (zA 4))) (zB (yO (xw (wS (zA 8) zE) zE) (zA 4)) zC))) yn))) wR))))
  (zH (vP 9 vV.nd rfl (Or.inl rfl) zC)
  (jv (yG (vM hr.units (zA 5) zE) (zM (zS 1 vV.nd rfl (Or.inl rfl) zE)) yF)
  (zH (wc 6 (y4 PassesOwn.never rfl (xA rfl B.range_ (zB (zt zE (xw (wS (zA 3) zE) (zA 1))) zC)) (zu 7 vV.nd rfl (Or.inl rfl)) (zH (zS 10 vV.nd rfl (Or.inl rfl) (zt (zP al hr rfl (zB (zA 0) (zB (zt zE (zA 7)) zC))) (zA 7)))
   (zM (yN (wW (we PySem.F.plainAttrs_list PySem.F.slot_list_append PySem.F.type_list_append yq (yx 9) (yI (zP bO hr rfl (zB (zA 10) (zB (zA 5) (zB (yT xT xY rfl B.len_ xU (zB (zA 6) zC)) (zB (zA 4) (zB vL zC)))))) yn))) wR)))))
  (zM (wc 9 (zY (y3 (zB (zA 5) (zB (zA 6) (zB (zA 9) (zB (zA 4) zC))))))))))))))))),λds R h=>?_⟩
 obtain ⟨ns,rfl,q⟩:=h
 refine ⟨ns,0,rfl,by decide,λfirst=>⟨ns,1,rfl,by decide,λsecond=>?_⟩⟩
 have key:∀ x∈[D.int 3,D.int 9,D.int (10 ^ (15:Int).toNat),D.int (10 ^ (30:Int).toNat)],ud (λv=>1<=v/\Bd 100 v) x:=λx hx=>by
  simp only [List.mem_cons,List.not_mem_nil,or_false] at hx
  rcases hx with rfl | rfl | rfl | rfl <;> exact ⟨_,rfl,by decide,Bd.lit⟩
 have f4:=md first (show (0:Int) < 4 by decide)
 refine ⟨by decide,(Bd.lit (i:=4) (n:=3)).mono,⟨by decide,by decide,by decide⟩,⟨by decide,by decide,by decide⟩,k0,by decide,JT f4.1 (by show first.fmod 4 < 4; omega) λx hxk=>?_⟩
 obtain ⟨v,rfl,v1,bv⟩:=key x hxk
 have fv:=md (first.fdiv 4) (show (0:Int) < v by omega)
 obtain ⟨u,hu⟩:∃ u,u=1 + (first.fdiv 4).fmod v:=⟨_,rfl⟩
 have u1:1<=u:=by omega
 have bu:Bd 100 u:=bv.of_le (by omega)
 refine ⟨by omega,?_⟩
 have s6:=md second (show (0:Int) < 6 by decide)
 refine ⟨k0,by decide,JT s6.1 (by show second.fmod 6 < 6; omega) λz hz=>?_⟩
 obtain ⟨n,rfl,n1,n3⟩:∃ n:Nat,z=.int (n:Int)/\1<=n/\n<=3:=by
  simp only [List.mem_cons,List.not_mem_nil,or_false] at hz
  rcases hz with rfl | rfl | rfl | rfl | rfl | rfl
  ·exact ⟨1,rfl,by decide,by decide⟩
  ·exact ⟨2,rfl,by decide,by decide⟩
  ·exact ⟨2,rfl,by decide,by decide⟩
  ·exact ⟨1,rfl,by decide,by decide⟩
  ·exact ⟨3,rfl,by decide,by decide⟩
  ·exact ⟨2,rfl,by decide,by decide⟩
 have p3:=md (second.fdiv 6) (show (0:Int) < 3 by decide)
 refine ⟨k0,by decide,(Bd.lit (i:=6) (n:=3)).mono,by decide,by omega,by omega,?_⟩
 refine ⟨λk Γ=>∃ (bs:List (Int × Int)) (s6 s7:Sl),Γ=[.sh (.scr ns),.sh (.int 3),.sh (.int first),.sh (.int second),.sh (.int u),.sh (.int (n:Int)),.ow (bs.map yC),s6,s7,.no,.no]/\bs.length=k/\∀ b∈bs,b.1<=b.2/\Bd 105 b.1/\Bd 105 b.2,⟨[],.no,.no,by rw [hu]; rfl,rfl,λ_ h=>nomatch h⟩,?_,?_⟩
 ·rintro k d Γ' hk ⟨bs,s6,s7,rfl,lb,hb⟩
  obtain ⟨kn,rfl⟩:=wm hk
  have bk:Bd 2 (k:Int):=Xb (by omega)
  refine ⟨(Bd.lit (i:=11) (n:=4)).mono,bk.mono,by omega,Bd.mono (n:=10) (jQ (f:=1000) (by decide) (by omega) (by omega)) (by decide),?_⟩
  obtain ⟨x,hx⟩:∃ x,x=second.fdiv (18 + 11 * (k:Int)):=⟨_,rfl⟩
  have a1:=md x (show (0:Int) < 3 by decide)
  have a2:=md (x.fdiv 3) (show (0:Int) < 3 by decide)
  rw [<- hx]
  have g1:0<=x.fmod 3 * u:=Int.mul_nonneg a1.1 (by omega)
  have g2:0<=(x.fdiv 3).fmod 3 * u:=Int.mul_nonneg a2.1 (by omega)
  have c1:Bd 102 (x.fmod 3 * u):=(vT (n:=2) Bd.lit (by decide)).mul bu
  have c2:Bd 102 ((x.fdiv 3).fmod 3 * u):=(vT (n:=2) Bd.lit (by decide)).mul bu
  refine ⟨by decide,Bd.mono (n:=2) (vT Bd.lit (by decide)) (by decide),bu.mono,by decide,(Bd.lit (i:=3) (n:=2)).mono,by decide,Bd.mono (n:=2) (vT Bd.lit (by decide)) (by decide),bu.mono,k0,by rw [List.length_map]; omega,?_⟩
  exact ⟨bs++[(0 - x.fmod 3 * u,(x.fdiv 3).fmod 3 * u)],.sh (.int (k:Int)),.sh (.int x),by rw [List.map_append]; rfl,by rw [List.length_append,lb]; rfl,uu hb ⟨by show 0 - x.fmod 3 * u<=(x.fdiv 3).fmod 3 * u; omega,by rw [Int.zero_sub]; exact c1.neg.mono,c2.mono⟩⟩
 rintro Γ' ⟨bs,s6,s7,rfl,lb,hb⟩
 rw [w8] at lb
 have lm:(List.map yC bs).length=bs.length:=List.length_map ..
 refine ⟨k0,λΓ=>∃ (mm:Int),Γ=[.sh (.scr ns),.sh (.int mm),.sh (.int first),.sh (.int second),.sh (.int u),.sh (.int (n:Int)),.ow (bs.map yC),s6,s7,.ow [],.no]/\1<=mm/\mm<=3,w2 (λc1=>⟨1,rfl,by decide,by decide⟩) λc1=>⟨3,rfl,by decide,by decide⟩,?_⟩
 rintro Γ' ⟨mm,rfl,m1,m3⟩
 have p4:=md (second.fdiv 54) (show (0:Int) < mm by omega)
 refine ⟨by decide,(Bd.lit (i:=54) (n:=6)).mono,by omega,by omega,by omega,?_⟩
 refine ⟨λk Γ=>∃ (ms:List MD) (s6 s9:Sl),Γ=[.sh (.scr ns),.sh (.int mm),.sh (.int first),.sh (.int second),.sh (.int u),.sh (.int (n:Int)),.sh (.lst (bs.map yC)),s6,s7,.ow (ms.map jO),s9]/\ms.length=k/\(∀ m∈ms,Zk n bs.length m)/\∀ m∈ms,m.rows=[],⟨[],_,.no,rfl,rfl,λ_ h=>(nomatch h),λ_ h=>nomatch h⟩,?_,?_⟩
 ·rintro k d Γ' hk ⟨ms,s6,s9,rfl,lms,hms,hmr⟩
  obtain ⟨kn,rfl⟩:=wm hk
  refine ⟨ns,2 + (k:Int),rfl,by omega,λcc=>?_⟩
  refine ⟨cc + (k:Int),n,bs.length,u,false,by rw [<- lm],n1,n3,by omega,u1,bu,λm hm hmr'=>⟨by rw [List.length_map]; omega,ms++[m],.sh (.int (k:Int)),.sh (.int (cc + (k:Int))),by rw [List.map_append]; rfl,by rw [List.length_append,lms]; rfl,uu hms hm,uu hmr (hmr' rfl)⟩⟩
 rintro Γ' ⟨ms,s6,s9,rfl,lms,hms,hmr⟩
 rw [w8] at lms
 exact ⟨k0,q n bs ms u ⟨n1,n3,by omega,hb,by omega,by omega,hms,u1,bu⟩ hmr⟩
end
abbrev xf (bx:List (Int × Int)):D:=.lst (bx.map yC)
def zX (n:Nat):List vS:=(List.range n).flatMap λi=>[(i,1),(i,-1)]
theorem zMF {n:Nat} (n3:n<=3):wd n (zX n):=by
 have hm:∀ s,s∈zX n ↔ s.1 < n/\(s.2=1\/s.2 = -1):=λs=>by
  unfold zX
  rw [List.mem_flatMap]
  constructor
  ·rintro ⟨i,hi,h⟩
   have hi:=List.mem_range.mp hi
   simp only [List.mem_cons,List.not_mem_nil,or_false] at h
   rcases h with rfl | rfl
   ·exact ⟨hi,.inl rfl⟩
   ·exact ⟨hi,.inr rfl⟩
  ·rintro ⟨h1,h2⟩
   refine ⟨s.1,List.mem_range.mpr h1,?_⟩
   simp only [List.mem_cons,List.not_mem_nil,or_false]
   obtain ⟨a,b⟩:=s
   rcases h2 with h | h
   ·exact .inl (by rw [show b=1 from h])
   ·exact .inr (by rw [show b = -1 from h])
 have ll:(zX n).length<=50:=by
  unfold zX
  rw [List.length_flatMap]
  have:((List.range n).map λi=>[((i,1):vS),(i,-1)].length)=List.replicate n 2:=by
   rw [show (λi:Nat=>[((i,1):vS),(i,-1)].length)=λ_=>2 from rfl,List.map_const',List.length_range]
  rw [this,List.sum_replicate_nat]
  omega
 exact ⟨ll,λs hs=>(hm s).mp hs,λp hp=>(hm (p,1)).mpr ⟨hp,.inl rfl⟩,λp hp=>(hm (p,-1)).mpr ⟨hp,.inr rfl⟩⟩
theorem zHs {n i:Nat}:(za (i:Int) n 1).map (λx=>0 - x)=za (i:Int) n (-1):=by
 unfold za
 rw [List.map_map]
 refine List.map_congr_left λj _=>?_
 show 0 - (if (j:Int)=(i:Int) then (1:Int) else 0)=_
 split <;> rfl
theorem zMy {n:Nat} {bx:List (Int × Int)} (h:bx.length=n):Rm (JY bx)=zq n (zR (zX n) bx):=by
 have key:JY bx=(zR (zX n) bx).map (rI n):=by
  unfold JY zR zX
  rw [h,List.map_flatMap,List.map_flatMap,List.flatMap_def]
  congr 1
  refine List.ext_getElem (by simp [h]) λi h1 h2=>?_
  simp only [List.getElem_mapIdx,List.getElem_map,List.getElem_range]
  have hl:i < bx.length:=by simpa using h1
  have e:bx.getD i (0,0)=bx[i]:=by rw [List.getD_eq_getElem?_getD,List.getElem?_eq_getElem hl]; rfl
  unfold x8
  rw [zHs]
  show _=[zf n i 1 (1 * (if (1:Int)=1 then (bx.getD i (0,0)).2 else (bx.getD i (0,0)).1)),zf n i (-1) (-1 * (if (-1:Int)=1 then (bx.getD i (0,0)).2 else (bx.getD i (0,0)).1))]
  rw [if_pos rfl,if_neg (by decide),e,Int.one_mul,Int.neg_mul,Int.one_mul]
  unfold zf
  rw [Int.zero_sub]
 unfold Rm zq
 rw [key,List.map_map]
 rfl
def zMZ:FL:=λds R=>∃ n bx,ds=[xf bx]/\bx.length=n/\n<=3/\R (zq n (zR (zX n) bx))
def zPY:FL:=λds R=>∃ a b:List (Int × Int),ds=[xf a,xf b]/\a.length<=100/\R (xf ((a.zip b).map λq=>(min q.1.1 q.2.1,max q.1.2 q.2.2)))
def ImS (n:Nat) (bs bx:List (Int × Int)) (ms:List MD) (im:List (Int × Int)):Prop:=im.length=n/\∀ j,j < n->(∀ v,max v (im.getD j (0,0)).2=yg bs bx ms j 1 v)/\∀ v,max v (-(im.getD j (0,0)).1)=yg bs bx ms j (-1) v
def Zn:FL:=λds R=>∃ n bs ms u bx e,ds=[vU n bs ms u,xf bx]/\uD n bs ms u/\Bk n e bx/\115<=e/\e<=300/\∀ im,ImS n bs bx ms im->R (xf im)
theorem zGe {n:Nat} {bs bx im:List (Int × Int)} {ms:List MD} (hb:bx.length=n) (h:ImS n bs bx ms im):(bx.zip im).map (λq=>(min q.1.1 q.2.1,max q.1.2 q.2.2))=xL n bs bx ms:=by
 refine List.ext_getElem (by unfold xL; rw [List.length_map,List.length_zip,List.length_map,List.length_range,hb,h.1,Nat.min_self]) λi h1 h2=>?_
 have hi:i < n:=by unfold xL at h2; rw [List.length_map,List.length_range] at h2; exact h2
 obtain ⟨g1,g2⟩:=h.2 i hi
 have e1:bx[i]'(by omega)=bx.getD i (0,0):=by rw [List.getD_eq_getElem?_getD,List.getElem?_eq_getElem (by omega)]; rfl
 have e2:im[i]'(by have:=h.1; omega)=im.getD i (0,0):=by rw [List.getD_eq_getElem?_getD,List.getElem?_eq_getElem (by have:=h.1; omega)]; rfl
 have e3:(xL n bs bx ms)[i]=(-yg bs bx ms i (-1) (-(bx.getD i (0,0)).1),yg bs bx ms i 1 (bx.getD i (0,0)).2):=by simp only [xL,List.getElem_map,List.getElem_range]
 rw [e3,List.getElem_map,List.getElem_zip,e1,e2,<- g1,<- g2]
 refine Prod.ext ?_ rfl
 show min (bx.getD i (0,0)).1 (im.getD i (0,0)).1 = -max (-(bx.getD i (0,0)).1) (-(im.getD i (0,0)).1)
 omega
def Zo:FL:=λds R=>∃ (n:Nat) (c:Int),ds=[.int (n:Int),.int c]/\1<=n/\n<=3/\∀ S1 S2,wd n S1->S1.length=2 * n->wd n (S1++S2)->R (xP n (S1++S2))
def fBy:FL:=λds R=>∃ n e S bx,ds=[xP n S,xf bx]/\n<=3/\wd n S/\Bk n e bx/\e<=380/\R (zq n (zR S bx))
theorem zPJ (xs:List Int):xs.map (λx=>(1:Int) * x)=xs:=by
 conv=>rhs; rw [<- List.map_id xs]
 exact List.map_congr_left λx _=>Int.one_mul x
theorem zMU (xs:List Int):xs.map (λx=>(0:Int) - x)=xs.map λx=>(-1:Int) * x:=List.map_congr_left λx _=>by rw [Int.zero_sub,Int.neg_mul,Int.one_mul]
section
variable {P:Program} {w:World} {K:PySem.W.Frag} {mg:Str->Option Value} {base:Heap}
abbrev Zq:Stmt:=zj 76
theorem Xd:zc ["_law_box_here","_law_rows_here","_law_i","_law_ones"] ["_law_box_here"] (zL Zq):=.a
abbrev Xe:Stmt:=zj 79
theorem zJN:zc ["_law_one","_law_other"] ["_law_one","_law_other"] (zL Xe):=.a
abbrev Xf:Stmt:=zj 81
theorem zMw:zc ["_law_shape_here","_law_box_here"] ["_law_shape_here","_law_box_here"] (zL Xf):=.a
abbrev Zr:Stmt:=zj 78
theorem xQ:zc ["_law_spec","_law_box_here","_law_many","_law_pushes","_law_modes","_law_unit","_law_found","_law_j","_law_low","_law_high","_law_rows_here","_law_nexts","_law_steer","_law_push","_law_add","_law_divisor","_law_up","_law_down"] ["_law_spec","_law_box_here"] (zL Zr):=.a
variable {af ag:Addr} (aa:zT K mg "Mode" af) (ab:xa K af) (ac:zT K mg "Thing" ag) (ae:xb K ag)
include aa ab ac ae
theorem zJv {k:Nat} {f:Addr} {fd:FuncData} (F:ze K "_law_rows" "_law_rows" Zq f fd) (B:Bl mg):zF P w K mg base zU (k + 1) f fd ["_law_box_here"] (zG (zMZ)):=by
 refine zn F Xd (λds R h=>by obtain ⟨n,bs,rfl,_⟩:=h; rfl) λcdv A outer s H E hr=>⟨_,(zH (vP 1 Xd.nd rfl (Or.inl rfl) zC)
  (zH (y4 PassesOwn.never rfl (xA rfl B.range_ (zB (yT xT xY rfl B.len_ xU (zB (zA 0) zC)) zC)) (zu 2 Xd.nd rfl (Or.inr rfl)) (zH (ug 3 false Xd.nd rfl rfl (own:=["_law_j"]) (caps:=[(2,"_law_i")]) (yJ (S:=zL Zq) (N:=["_law_box_here","_law_rows_here","_law_i","_law_ones"]) rfl (by decide +kernel) rfl ⟨_,rfl⟩ rfl (by decide +kernel) (by decide +kernel)) rfl rfl ya (xA rfl B.range_ (zB (yT xT xY rfl B.len_ xU (zB (zA 0) zC)) zC)) (λ_ _ _ _=>(zu 0 (show (["_law_j","_law_i"]:List Str).Nodup by decide +kernel) rfl (Or.inl rfl))) (λ_ _ _ _=>(xE X4 Wv rfl B.int_ YI (zB (uZ hr.units (zA 0) (zA 1)) zC))) rfl)
   (zH (yN (wW (we PySem.F.plainAttrs_list PySem.F.slot_list_append PySem.F.type_list_append yq (yx 1) (yI (xE uL ub rfl B.tuple_ vI (zB (zt (zA 3) (wl (zB (zQ (zQ (zA 0) (zA 2) (λ_ _=>rfl)) zE (λ_ _=>rfl)) zC))) zC)) yn))) wR)
   (zM (yN (wW (we PySem.F.plainAttrs_list PySem.F.slot_list_append PySem.F.type_list_append yq (yx 1) (yI (xE uL ub rfl B.tuple_ vI (zB (zt (yc (own:=["_law_one"]) (caps:=[]) (yJ (S:=zL Zq) (N:=["_law_box_here","_law_rows_here","_law_i","_law_ones"]) rfl (by decide +kernel) rfl ⟨_,rfl⟩ rfl (by decide +kernel) (by decide +kernel)) rfl rfl ya (yo (zA 3)) (λ_ _ _ _=>(zu 0 (show (["_law_one"]:List Str).Nodup by decide +kernel) rfl (Or.inl rfl))) (λ_ _ _ _=>(xv zE (zA 0)))) (wl (zB (xv zE (zQ (zQ (zA 0) (zA 2) (λ_ _=>rfl)) zE (λ_ _=>rfl))) zC))) zC)) yn))) wR)))))
  (zM (wc 1 (zY (zA 1)))))),λds R h=>?_⟩
 obtain ⟨n,bs,rfl,ln,n3,q⟩:=h
 rw [<- zMy ln] at q
 have l1:bs.length<=100:=by omega
 have lp:(List.map yC bs).length=bs.length:=List.length_map ..
 refine ⟨k0,by omega,by omega,?_⟩
 rw [show ((List.length (List.map yC bs):Nat):Int).toNat=bs.length by omega]
 refine ⟨λk Γ=>∃ (s2 s3:Sl),Γ=[.sh (.lst (bs.map yC)),.ow ((((bs.mapIdx (x8 bs.length)).take k).flatten).map U),s2,s3],⟨.no,.no,rfl⟩,?_,?_⟩
 ·rintro k d Γ' hk ⟨s2,s3,rfl⟩
  obtain ⟨kn,rfl⟩:=wm hk
  have hx:(bs.mapIdx (x8 bs.length))[k]? = some (x8 bs.length k bs[k]):=by rw [List.getElem?_mapIdx,List.getElem?_eq_getElem kn]; rfl
  have ll:((bs.mapIdx (x8 bs.length)).take k).flatten.length=2 * k:=by
   rw [List.length_flatten]
   have e:((bs.mapIdx (x8 bs.length)).take k).map List.length=List.replicate k 2:=by
    refine List.ext_getElem (by simp; omega) λi h1 h2=>?_
    simp [x8]
   rw [e]
   simp
   omega
  refine ⟨by omega,by omega,?_⟩
  rw [show ((List.length (List.map yC bs):Nat):Int).toNat=bs.length by omega]
  refine zg.rng0 (λj=>.int (if (j:Int)=(k:Int) then 1 else 0)) (by omega) (λj hj=>by show D.int _=_; rw [zMV]) ?_
  have eu:(List.range bs.length).map (λj:Nat=>D.int (if (j:Int)=(k:Int) then 1 else 0))=(za (k:Int) bs.length 1).map D.int:=by unfold za; rw [List.map_map]; rfl
  rw [eu]
  refine ⟨_,zIH kn rfl,_,rfl,k0,by rw [List.length_map,xO]; show _ + 1<=1000; omega,by rw [List.length_map]; omega,?_⟩
  refine zg.int (λx=>0 - x) (by rw [xO]; omega) (λx hx=>rfl) ?_
  refine ⟨_,zIH kn rfl,_,rfl,k0,by rw [List.length_map,List.length_map,xO]; show _ + 1<=1000; omega,by rw [List.length_append,List.length_map]; show _ + 1 < 1000; omega,?_⟩
  refine ⟨.sh (.int (k:Int)),.sh (L (za (k:Int) bs.length 1)),?_⟩
  rw [zLC hx,List.map_append]
  unfold x8
  rw [List.map_cons,List.map_cons,List.map_nil,U,U,List.map_append,List.map_append,<- List.append_cons]
  rfl
 ·rintro Γ' ⟨s2,s3,rfl⟩
  rw [w8,List.take_of_length_le (by rw [List.length_mapIdx]; omega)]
  exact q
theorem zJy {k:Nat} {f:Addr} {fd:FuncData} (F:ze K "_law_hull" "_law_hull" Xe f fd) (B:Bl mg):zF P w K mg base zU (k + 1) f fd ["_law_one","_law_other"] (zG (zPY)):=by
 refine zn F zJN (λds R h=>by obtain ⟨a,b,rfl,_⟩:=h; rfl) λcdv A outer s H E hr=>⟨_,(zM (zY (yc (own:=["_law_a","_law_b"]) (caps:=[]) (yJ (S:=zL Xe) (N:=["_law_one","_law_other"]) rfl (by decide +kernel) rfl ⟨0,rfl⟩ rfl (by decide +kernel) (by decide +kernel)) rfl rfl (uc (wH (wH ue))) (uA rfl B.zip_ (zB (zA 0) (zB (zA 1) zC))) (λ_ _ _ _=>(wG rfl (yA 0 (show (["_law_a","_law_b"]:List Str).Nodup by decide +kernel) rfl (Or.inl rfl) (yA 1 (show (["_law_a","_law_b"]:List Str).Nodup by decide +kernel) rfl (Or.inl rfl) wE)))) (λ_ _ _ _=>(y3 (zB (yT (zKf rfl) zNu rfl B.min_ K3 (zB (zQ (zA 0) zE (λ_ _=>rfl)) (zB (zQ (zA 1) zE (λ_ _=>rfl)) zC))) (zB (yT (X3 rfl) Wu rfl B.max_ YR (zB (zQ (zA 0) zE (λ_ _=>rfl)) (zB (zQ (zA 1) zE (λ_ _=>rfl)) zC))) zC))))))),λds R h=>?_⟩
 obtain ⟨a,b,rfl,l1,q⟩:=h
 show zg (List.zipWith yZ (a.map yC) (b.map yC)) _ _
 have ez:List.zipWith yZ (a.map yC) (b.map yC)=(a.zip b).map λq=>yZ (yC q.1) (yC q.2):=by
  rw [List.zipWith_map,<- List.map_uncurry_zip_eq_zipWith]
  rfl
 rw [ez]
 refine vQ (λq:(Int × Int) × (Int × Int)=>yZ (yC q.1) (yC q.2)) (λd=>match d with | .tup [.tup [x,y],.tup [z,w]]=>((yB x,yB y),(yB z,yB w)) | _=>((0,0),(0,0))) (λ_=>rfl) (λq=>yC (min q.1.1 q.2.1,max q.1.2 q.2.2)) (by rw [List.length_zip]; omega) (λq hq=>⟨_,rfl,_,rfl,_,rfl,_,rfl,k0,rfl⟩) (by unfold xf at q; rw [List.map_map] at q; exact q)
theorem zNV {k:Nat} {f:Addr} {fd:FuncData} (F:ze K "_law_by" "_law_by" Xf f fd) (B:Bl mg) (am:Fn P w K mg base "_law_top" ["_law_numbers","_law_box_here"] k (zG (Jd))):zF P w K mg base zU (k + 1) f fd ["_law_shape_here","_law_box_here"] (zG (fBy)):=by
 refine zn F zMw (λds R h=>by obtain ⟨n,e,S,bx,rfl,_⟩:=h; rfl) λcdv A outer s H E hr=>⟨_,(zM (zY (yc (own:=["_law_numbers"]) (caps:=[(1,"_law_box_here")]) (yJ (S:=zL Xf) (N:=["_law_shape_here","_law_box_here"]) rfl (by decide +kernel) rfl ⟨_,rfl⟩ rfl (by decide +kernel) (by decide +kernel)) rfl rfl ya (yo (zA 0)) (λ_ _ _ _=>(zu 0 (show (["_law_numbers","_law_box_here"]:List Str).Nodup by decide +kernel) rfl (Or.inl rfl))) (λ_ _ _ _=>(zt (zA 0) (y3 (zB (zP am hr rfl (zB (zA 0) (zB (zA 1) zC))) zC))))))),λds R h=>?_⟩
 obtain ⟨n,e,S,bx,rfl,n3,hS,B,e3,q⟩:=h
 have fS:=hS.few
 refine zg.map (λd=>D.tup ((match d with | .tup ds=>ds | _=>[])++[.int (yV (zz d) bx)])) (by rw [List.length_map]; omega) (λd hd=>?_) ?_
 ·obtain ⟨s,hs,rfl⟩:=List.mem_map.mp hd
  obtain ⟨h1,h2⟩:=hS.ok s hs
  have lu:(za (s.1:Int) n s.2).length=n:=xO ..
  refine ⟨_,za (s.1:Int) n s.2,bx,e,rfl,.inr rfl,by omega,jL (vC h2 (by decide)),by omega,λb hb=>(B.ok b hb).2,k0,by rw [List.length_map,lu]; show _ + 1<=1000; omega,?_⟩
  rw [qm,Yz]
 ·have ez:(S.map λs=>U (za (s.1:Int) n s.2)).map (λd=>D.tup ((match d with | .tup ds=>ds | _=>[])++[.int (yV (zz d) bx)]))=(zR S bx).map λb=>U (rI n b):=by
   unfold zR
   rw [List.map_map,List.map_map]
   refine List.map_congr_left λs hs=>?_
   obtain ⟨h1,h2⟩:=hS.ok s hs
   show D.tup ((za (s.1:Int) n s.2).map D.int++[.int (yV (zz (U (za (s.1:Int) n s.2))) bx)])=U (zf n s.1 s.2 (s.2 * _))
   rw [Yz,zJE B h1 h2]
   unfold zf U
   rw [List.map_append]
   rfl
  rw [ez]
  exact q
theorem zIr {k:Nat} {f:Addr} {fd:FuncData} (F:ze K "_law_image" "_law_image" Zr f fd) (B:Bl mg) (am:Fn P w K mg base "_law_top" ["_law_numbers","_law_box_here"] k (zG (Jd))):zF P w K mg base zU (k + 1) f fd ["_law_spec","_law_box_here"] (zG (Zn)):=by
 refine zn F xQ (λds R h=>by obtain ⟨n,bs,ms,u,bx,e,rfl,_⟩:=h; rfl) λcdv A outer s H E hr=>⟨_,(zH (Kq (zA 0) (wG rfl (yA 2 xQ.nd rfl (Or.inl rfl) (yA 3 xQ.nd rfl (Or.inl rfl) (yA 4 xQ.nd rfl (Or.inl rfl) (yA 5 xQ.nd rfl (Or.inl rfl) wE))))))
  (zH (vP 6 xQ.nd rfl (Or.inl rfl) zC)
  (zH (y4 PassesOwn.never rfl (xA rfl B.range_ (zB (zA 2) zC)) (zu 7 xQ.nd rfl (Or.inl rfl)) (zH (zS 8 xQ.nd rfl (Or.inl rfl) xC)
   (zH (zS 9 xQ.nd rfl (Or.inl rfl) xC)
   (zH (y4 PassesOwn.never rfl (yo (zA 4)) (wG rfl (yA 10 xQ.nd rfl (Or.inl rfl) (yA 11 xQ.nd rfl (Or.inl rfl) (yA 12 xQ.nd rfl (Or.inl rfl) (yA 13 xQ.nd rfl (Or.inl rfl) (yA 14 xQ.nd rfl (Or.inl rfl) (yA 15 xQ.nd rfl (Or.inl rfl) wE))))))) (zH (zS 16 xQ.nd rfl (Or.inl rfl) (zt (zt (zP am hr rfl (zB (zQ (zA 11) (zA 7) (λ_ _=>rfl)) (zB (zA 1) zC))) (zP am hr rfl (zB (zQ (zA 13) (zA 7) (λ_ _=>rfl)) (zB (zA 3) zC)))) (zQ (zA 14) (zA 7) (λ_ _=>rfl))))
    (zH (zS 16 xQ.nd rfl (Or.inl rfl) (xv zE (wS (xv zE (zA 16)) (zA 15))))
    (zH (zS 17 xQ.nd rfl (Or.inl rfl) (zP am hr rfl (zB (yc (own:=["_law_c"]) (caps:=[]) (yJ (S:=zL Zr) (N:=["_law_spec","_law_box_here","_law_many","_law_pushes","_law_modes","_law_unit","_law_found","_law_j","_law_low","_law_high","_law_rows_here","_law_nexts","_law_steer","_law_push","_law_add","_law_divisor","_law_up","_law_down"]) rfl (by decide +kernel) rfl ⟨0,rfl⟩ rfl (by decide +kernel) (by decide +kernel)) rfl rfl ya (yo (zQ (zA 11) (zA 7) (λ_ _=>rfl))) (λ_ _ _ _=>(zu 0 (show (["_law_c"]:List Str).Nodup by decide +kernel) rfl (Or.inl rfl))) (λ_ _ _ _=>(xv zE (zA 0)))) (zB (zA 1) zC))))
    (zH (zS 17 xQ.nd rfl (Or.inl rfl) (zt (zA 17) (zP am hr rfl (zB (yc (own:=["_law_c"]) (caps:=[]) (yJ (S:=zL Zr) (N:=["_law_spec","_law_box_here","_law_many","_law_pushes","_law_modes","_law_unit","_law_found","_law_j","_law_low","_law_high","_law_rows_here","_law_nexts","_law_steer","_law_push","_law_add","_law_divisor","_law_up","_law_down"]) rfl (by decide +kernel) rfl ⟨0,rfl⟩ rfl (by decide +kernel) (by decide +kernel)) rfl rfl ya (yo (zQ (zA 13) (zA 7) (λ_ _=>rfl))) (λ_ _ _ _=>(zu 0 (show (["_law_c"]:List Str).Nodup by decide +kernel) rfl (Or.inl rfl))) (λ_ _ _ _=>(xv zE (zA 0)))) (zB (zA 3) zC)))))
    (zH (zS 17 xQ.nd rfl (Or.inl rfl) (wS (xv (zQ (zA 14) (zA 7) (λ_ _=>rfl)) (zA 17)) (zA 15)))
    (jv (yG (PW.pt (w4 (vm (zA 9) xC) (vN (jr (zA 16) (zA 9))))) (zM (zS 9 xQ.nd rfl (Or.inl rfl) (zA 16))) yF)
    (zM (yG (PW.pt (w4 (vm (zA 8) xC) (vN (jq (zA 17) (zA 8))))) (zM (zS 8 xQ.nd rfl (Or.inl rfl) (zA 17))) yF)))))))))
   (zM (yN (wW (we PySem.F.plainAttrs_list PySem.F.slot_list_append PySem.F.type_list_append yq (yx 6) (yI (y3 (zB (zA 8) (zB (zA 9) zC))) yn))) wR))))))
  (zM (wc 6 (zY (zA 6))))))),λds R h=>?_⟩
 obtain ⟨n,bs,ms,u,bx,e,rfl,T,B,e1,e3,q⟩:=h
 have n1:=T.n1
 have n3:=T.n3
 have m1:=T.m1
 have b2:=T.b2
 refine ⟨k0,by omega,by omega,?_⟩
 rw [show ((n:Nat):Int).toNat=n by omega]
 refine ⟨λk Γ=>∃ (im:List (Int × Int)) (s7 s8 s9 s10 s11 s12 s13 s14 s15 s16 s17:Sl),Γ=[.sh (vU n bs ms u),.sh (xf bx),.sh (.int (n:Int)),.sh (.lst (bs.map yC)),.sh (.lst (ms.map jO)),.sh (.int u),.ow (im.map yC),s7,s8,s9,s10,s11,s12,s13,s14,s15,s16,s17]/\im.length=k/\∀ j,j < k->(∀ v,max v (im.getD j (0,0)).2=yg bs bx ms j 1 v)/\∀ v,max v (-(im.getD j (0,0)).1)=yg bs bx ms j (-1) v,⟨[],_,_,_,_,_,_,_,_,_,_,_,rfl,rfl,λj hj=>absurd hj (Nat.not_lt_zero j)⟩,?_,?_⟩
 ·rintro k d Γ' hk ⟨im,s7,s8,s9,s10,s11,s12,s13,s14,s15,s16,s17,rfl,li,hi⟩
  obtain ⟨kn,rfl⟩:=wm hk
  refine ⟨λt Γ=>∃ (lo hi':D) (s10 s11 s12 s13 s14 s15 s16 s17:Sl),Γ=[.sh (vU n bs ms u),.sh (xf bx),.sh (.int (n:Int)),.sh (.lst (bs.map yC)),.sh (.lst (ms.map jO)),.sh (.int u),.ow (im.map yC),.sh (.int ((k:Nat):Int)),.sh lo,.sh hi',s10,s11,s12,s13,s14,s15,s16,s17]/\((t=0/\lo=.non/\hi'=.non)\/∃ x y:Int,lo=.int x/\hi'=.int y/\(∀ v,max v y=yg bs bx (ms.take t) k 1 v)/\∀ v,max v (-x)=yg bs bx (ms.take t) k (-1) v),⟨.non,.non,_,_,_,_,_,_,_,_,rfl,.inl ⟨rfl,rfl,rfl⟩⟩,?_,?_⟩
  ·rintro t d Γ' ht ⟨lo,hi',s10,s11,s12,s13,s14,s15,s16,s17,rfl,hlh⟩
   obtain ⟨m,hg,rfl⟩:=Ze ht
   have hm:=List.mem_of_getElem? hg
   have M:=T.md m hm
   have hk1:k < m.nexts.length:=by rw [M.ok.nexts.1]; exact kn
   have hk2:k < m.push.length:=by rw [M.ok.push.1]; exact kn
   have hk3:k < m.add.length:=by rw [M.ok.add]; exact kn
   have n1':=xz (z:=[]) hk1
   have p1':=xz (z:=[]) hk2
   have ln:=M.ok.nexts.2 _ n1'
   have lp:=M.ok.push.2 _ p1'
   have bn:=M.nx _ n1'
   have bp:=M.ps _ p1'
   have bB:∀ b∈bx,Bd e b.1/\Bd e b.2:=λb hb=>(B.ok b hb).2
   have bS:∀ b∈bs,Bd 105 b.1/\Bd 105 b.2:=λb hb=>(T.bb b hb).2
   have dv:=M.ok.div
   have bdv:Bd 8000 m.div:=M.dv.mono
   refine ⟨_,xK [] hk1,_,_,bx,e,rfl,.inl rfl,by omega,λx hx=>(bn x hx).mono,by omega,bB,_,xK [] hk2,_,_,bs,105,rfl,.inl rfl,by omega,λx hx=>(bp x hx).mono,by decide,bS,_,vB (j:=k) hk3 rfl,by omega,bdv,?_⟩
   refine ⟨_,xK [] hk1,zg.int (λx=>0 - x) (by omega) (λx hx=>rfl) ?_⟩
   refine ⟨_,_,bx,e,rfl,.inl rfl,by rw [List.length_map]; omega,λx hx=>?_,by omega,bB,?_⟩
   ·obtain ⟨y,hy,rfl⟩:=List.mem_map.mp hx
    rw [Int.zero_sub]
    exact (bn y hy).neg.mono
   refine ⟨_,xK [] hk2,zg.int (λx=>0 - x) (by omega) (λx hx=>rfl) ?_⟩
   refine ⟨_,_,bs,105,rfl,.inl rfl,by rw [List.length_map]; omega,λx hx=>?_,by decide,bS,?_⟩
   ·obtain ⟨y,hy,rfl⟩:=List.mem_map.mp hx
    rw [Int.zero_sub]
    exact (bp y hy).neg.mono
   refine ⟨_,vB (j:=k) hk3 rfl,by omega,bdv,?_⟩
   have eU:0 - (0 - (yb (m.nexts.getD k []) bx + yb (m.push.getD k []) bs + m.add.getD k 0)).fdiv m.div=wo (wN bs bx m k 1) m.div:=by
    unfold wo wN
    rw [zPJ,zPJ,qm,qm,Int.one_mul,Int.zero_sub,Int.zero_sub]
   have eD:(m.add.getD k 0 - (yb ((m.nexts.getD k []).map λx=>0 - x) bx + yb ((m.push.getD k []).map λx=>0 - x) bs)).fdiv m.div = -wo (wN bs bx m k (-1)) m.div:=by
    unfold wo wN
    rw [zMU,zMU,qm,qm,Int.neg_neg]
    congr 1
    omega
   rw [eU,eD]
   generalize hUu:wo (wN bs bx m k 1) m.div=up
   generalize hDd:wo (wN bs bx m k (-1)) m.div=dn
   have gU:∀ v,yg bs bx (ms.take (t + 1)) k 1 v=max (yg bs bx (ms.take t) k 1 v) up:=λv=>by rw [JF hg,hUu]
   have gD:∀ v,yg bs bx (ms.take (t + 1)) k (-1) v=max (yg bs bx (ms.take t) k (-1) v) dn:=λv=>by rw [JF hg,hDd]
   rcases hlh with ⟨rfl,rfl,rfl⟩ | ⟨x,y,rfl,rfl,hy,hx⟩
   ·refine ⟨λΓ=>Γ=[.sh (vU n bs ms u),.sh (xf bx),.sh (.int (n:Int)),.sh (.lst (bs.map yC)),.sh (.lst (ms.map jO)),.sh (.int u),.ow (im.map yC),.sh (.int ((k:Nat):Int)),.sh .non,.sh (.int up),.sh (Rm m.rows),.sh (Tb m.nexts),.sh (L m.steer),.sh (Tb m.push),.sh (L m.add),.sh (.int m.div),.sh (.int up),.sh (.int (-dn))],wT rfl (wT rfl rfl),?_⟩
    rintro Γ' rfl
    refine wT rfl (wT rfl ⟨_,_,_,_,_,_,_,_,_,_,rfl,.inr ⟨_,_,rfl,rfl,λv=>?_,λv=>?_⟩⟩)
    ·rw [gU]; rfl
    ·rw [gD,Int.neg_neg]; rfl
   ·refine ⟨λΓ=>∃ y':Int,Γ=[.sh (vU n bs ms u),.sh (xf bx),.sh (.int (n:Int)),.sh (.lst (bs.map yC)),.sh (.lst (ms.map jO)),.sh (.int u),.ow (im.map yC),.sh (.int ((k:Nat):Int)),.sh (.int x),.sh (.int y'),.sh (Rm m.rows),.sh (Tb m.nexts),.sh (L m.steer),.sh (Tb m.push),.sh (L m.add),.sh (.int m.div),.sh (.int up),.sh (.int (-dn))]/\y'=max y up,wF rfl (w2 (λc1=>⟨up,rfl,?_⟩) λc1=>⟨y,rfl,?_⟩),?_⟩
    ·have:=of_decide_eq_true c1; omega
    ·have:=of_decide_eq_false c1; omega
    rintro Γ' ⟨y',rfl,ey⟩
    refine wF rfl (w2 (λc1=>⟨_,_,_,_,_,_,_,_,_,_,rfl,.inr ⟨_,_,rfl,rfl,λv=>?_,λv=>?_⟩⟩) λc1=>⟨_,_,_,_,_,_,_,_,_,_,rfl,.inr ⟨_,_,rfl,rfl,λv=>?_,λv=>?_⟩⟩)
    ·rw [gU,<- hy,ey]; omega
    ·rw [gD,<- hx]; have:=of_decide_eq_true c1; omega
    ·rw [gU,<- hy,ey]; omega
    ·rw [gD,<- hx]; have:=of_decide_eq_false c1; omega
  ·rintro Γ' ⟨lo,hi',s10,s11,s12,s13,s14,s15,s16,s17,rfl,hlh⟩
   rw [List.length_map] at hlh
   rcases hlh with ⟨z,_,_⟩ | ⟨x,y,rfl,rfl,hy,hx⟩
   ·omega
   rw [List.take_of_length_le (Nat.le_refl _)] at hy hx
   refine ⟨k0,by rw [List.length_map]; omega,im++[(x,y)],_,_,_,_,_,_,_,_,_,_,_,by rw [List.map_append]; rfl,by rw [List.length_append,li]; rfl,λj hj=>?_⟩
   by_cases c:j=k
   ·have ez:(im++[(x,y)]).getD j (0,0)=(x,y):=by rw [c,List.getD_eq_getElem?_getD,List.getElem?_append_right (by omega),li,Nat.sub_self]; rfl
    rw [ez,c]
    exact ⟨hy,hx⟩
   ·rw [XU (show j < im.length by omega)]
    exact hi j (by omega)
 ·rintro Γ' ⟨im,s7,s8,s9,s10,s11,s12,s13,s14,s15,s16,s17,rfl,li,hi⟩
  rw [w8] at li hi
  exact q im ⟨li,hi⟩
end
theorem Jg:∀ {ds:List D},(∀ d∈ds,PyData.eqv d.py d.py=true)->PyData.eqvAll (xD ds) (xD ds)=true
 | [],_=>by simp [xD,PyData.eqvAll]
 | d :: ds,h=>by simp [xD,PyData.eqvAll,h d List.mem_cons_self,Jg λx hx=>h x (List.mem_cons_of_mem _ hx)]
theorem Jh:∀ (n:Nat) (d:D),D.pl n d=true->PyData.eqv d.py d.py=true
 | 0,_,h=>by cases h
 | _ + 1,.int i,_=>by simp [D.py,PyData.eqv]
 | _ + 1,.bool i,_=>by simp [D.py,PyData.eqv]
 | _ + 1,.non,_=>by simp [D.py,PyData.eqv]
 | _ + 1,.str i,_=>by simp [D.py,PyData.eqv]
 | _ + 1,.scr _,h=>by cases h
 | _ + 1,.obj ..,h=>by cases h
 | n + 1,.lst ds,h=>by
  simp only [D.py,PyData.eqv]
  exact Jg λd m=>Jh n d (List.all_eq_true.mp h d m)
 | n + 1,.tup ds,h=>by
  simp only [D.py,PyData.eqv]
  exact Jg λd m=>Jh n d (List.all_eq_true.mp h d m)
theorem zNq {α:Type} {A B:List α} {f:α->D}:zi ((A++B).map f) none (some ((A.length:Nat):Int))=A.map f:=by
 unfold zi
 have e0:HT.sIx ((A++B).map f).length 0 none=0:=HT.sIx_none _ _
 have e1:HT.sIx ((A++B).map f).length ((A++B).map f).length (some ((A.length:Nat):Int))=A.length:=by rw [HT.sIx_nat,List.length_map,List.length_append]; omega
 rw [e0,e1,List.drop_zero,Nat.sub_zero,<- List.map_take,List.take_append_of_le_length (Nat.le_refl _),List.take_of_length_le (Nat.le_refl _)]
theorem Zs {α:Type} {A:List α} {f:α->D} {k:Nat}:zi (A.map f) none (some ((k:Nat):Int))=(A.take k).map f:=by
 unfold zi
 have e0:HT.sIx (A.map f).length 0 none=0:=HT.sIx_none _ _
 have e1:HT.sIx (A.map f).length (A.map f).length (some ((k:Nat):Int))=min k A.length:=by rw [HT.sIx_nat,List.length_map]
 rw [e0,e1,List.drop_zero,Nat.sub_zero,<- List.map_take]
 congr 1
 rcases Nat.le_total k A.length with z | z
 ·rw [Nat.min_eq_left z]
 ·rw [Nat.min_eq_right z,List.take_of_length_le (Nat.le_refl _),List.take_of_length_le z]
theorem Ji {α:Type} {A:List α} {f:α->D} {k:Nat}:zi (A.map f) (some ((k:Nat):Int)) none=(A.drop k).map f:=by
 rw [zIM,List.map_drop]
theorem zHx (k:Nat):zX (k + 1)=zX k++[(k,1),(k,-1)]:=by
 unfold zX
 rw [List.range_succ,List.flatMap_append]
 rfl
theorem Zu (k:Nat):(zX k).length=2 * k:=by
 induction k with
 | zero=>rfl
 | succ k ih=>rw [zHx,List.length_append,ih]; rfl
theorem zPa (a b:List (Int × Int)):PyData.eqv (xf a).py (xf b).py=decide (a=b):=by
 have:=JB (a.map λx=>[x.1,x.2]) (b.map λx=>[x.1,x.2])
 rw [List.map_map,List.map_map] at this
 refine Eq.trans (show _=PyData.eqvAll (xD (a.map ((λx=>U x) ∘ λx=>[x.1,x.2]))) (xD (b.map ((λx=>U x) ∘ λx=>[x.1,x.2]))) from rfl) (this.trans ?_)
 rw [Bool.eq_iff_iff,decide_eq_true_iff,decide_eq_true_iff]
 constructor
 ·intro h
  have inj:∀ {a b:List (Int × Int)},a.map (λx=>[x.1,x.2])=b.map (λx=>[x.1,x.2])->a=b:=λ{a}=>by
   induction a with
   | nil=>intro b h; cases b with | nil=>rfl | cons=>cases h
   | cons x a ih=>
    intro b h
    cases b with
    | nil=>cases h
    | cons y b=>
     rw [List.map_cons,List.map_cons] at h
     injection h with h1 h2
     injection h1 with h3 h4
     injection h4 with h5 h6
     rw [ih h2,Prod.ext h3 h5]
  exact inj h
 ·intro h; rw [h]
theorem zOn (a:List (Int × Int)):(xf a).pl 50=true:=List.all_eq_true.mpr λd m=>by
 obtain ⟨r,_,rfl⟩:=List.mem_map.mp m
 rfl
theorem zNw {n e e':Nat} {S:List vS} {a b:List (Int × Int)} (hS:wd n S) (A:Bk n e a) (B:Bk n e' b) (h:(zR S a).map (rI n)=(zR S b).map (rI n)):a=b:=by
 unfold zR at h
 rw [List.map_map,List.map_map] at h
 have key:∀ s∈S,s.2 * (if s.2=1 then (a.getD s.1 (0,0)).2 else (a.getD s.1 (0,0)).1)=s.2 * (if s.2=1 then (b.getD s.1 (0,0)).2 else (b.getD s.1 (0,0)).1):=λs hs=>by
  have:=List.map_inj_left.mp h s hs
  have g:zf n s.1 s.2 (s.2 * (if s.2=1 then (a.getD s.1 (0,0)).2 else (a.getD s.1 (0,0)).1))=zf n s.1 s.2 (s.2 * (if s.2=1 then (b.getD s.1 (0,0)).2 else (b.getD s.1 (0,0)).1)):=this
  have:=congrArg (λr=>r.getD n 0) g
  simp only [zGR] at this
  exact this
 refine List.ext_getElem (by rw [A.len,B.len]) λi h1 h2=>?_
 have hi:i < n:=by rw [<- A.len]; exact h1
 have k1:(1:Int) * (if (1:Int)=1 then (a.getD i (0,0)).2 else (a.getD i (0,0)).1)=1 * (if (1:Int)=1 then (b.getD i (0,0)).2 else (b.getD i (0,0)).1):=key _ (hS.hasU i hi)
 have k2:(-1:Int) * (if (-1:Int)=1 then (a.getD i (0,0)).2 else (a.getD i (0,0)).1) = -1 * (if (-1:Int)=1 then (b.getD i (0,0)).2 else (b.getD i (0,0)).1):=key _ (hS.hasD i hi)
 have e1:a.getD i (0,0)=a[i]:=by rw [List.getD_eq_getElem?_getD,List.getElem?_eq_getElem h1]; rfl
 have e2:b.getD i (0,0)=b[i]:=by rw [List.getD_eq_getElem?_getD,List.getElem?_eq_getElem h2]; rfl
 rw [if_pos rfl,if_pos rfl] at k1
 rw [if_neg (by decide),if_neg (by decide)] at k2
 rw [e1,e2] at k1 k2
 exact Prod.ext (by omega) (by omega)
def uw:FL:=λds R=>∃ ns,ds=[.scr ns]/\R (.bool true)
section
variable {P:Program} {w:World} {K:PySem.W.Frag} {mg:Str->Option Value} {base:Heap}
abbrev Zv:Stmt:=zj 80
theorem qp:zc ["_law_many","_law_cell","_law_shape_here","_law_k","_law_ones","_law_at"] ["_law_many","_law_cell"] (zL Zv):=.a
abbrev qr:Stmt:=zj 82
theorem wO:zc ["_law_script","_law_spec","_law_thing_here","_law_box_here","_law_start","_law_shape_here","_law_tries","_law_handed","_law_after","_law_room","_law_due","_law_turn"] ["_law_script"] (zL qr):=.a
variable {af ag:Addr} (aa:zT K mg "Mode" af) (ab:xa K af) (ac:zT K mg "Thing" ag) (ae:xb K ag)
include aa ab ac ae
theorem zIq {k:Nat} {f:Addr} {fd:FuncData} (F:ze K "_law_shape" "_law_shape" Zv f fd) (B:Bl mg):zF P w K mg base zU (k + 1) f fd ["_law_many","_law_cell"] (zG (Zo)):=by
 refine zn F qp (λds R h=>by obtain ⟨n,c,rfl,_⟩:=h; rfl) λcdv A outer s H E hr=>⟨_,(zH (zS 2 qp.nd rfl (Or.inl rfl) (wl zC))
  (zH (y4 PassesOwn.never rfl (xA rfl B.range_ (zB (zA 0) zC)) (zu 3 qp.nd rfl (Or.inr rfl)) (zH (ug 4 false qp.nd rfl rfl (own:=["_law_j"]) (caps:=[(3,"_law_k")]) (yJ (S:=zL Zv) (N:=["_law_many","_law_cell","_law_shape_here","_law_k","_law_ones","_law_at"]) rfl (by decide +kernel) rfl ⟨_,rfl⟩ rfl (by decide +kernel) (by decide +kernel)) rfl rfl ya (xA rfl B.range_ (zB (zA 0) zC)) (λ_ _ _ _=>(zu 0 (show (["_law_j","_law_k"]:List Str).Nodup by decide +kernel) rfl (Or.inl rfl))) (λ_ _ _ _=>(xE X4 Wv rfl B.int_ YI (zB (uZ hr.units (zA 0) (zA 1)) zC))) rfl)
   (zM (zS 2 qp.nd rfl (Or.inl rfl) (zt (zA 2) (wl (zB (xE uL ub rfl B.tuple_ vI (zB (zA 4) zC)) (zB (xE uL ub rfl B.tuple_ vI (zB (yc (own:=["_law_one"]) (caps:=[]) (yJ (S:=zL Zv) (N:=["_law_many","_law_cell","_law_shape_here","_law_k","_law_ones","_law_at"]) rfl (by decide +kernel) rfl ⟨_,rfl⟩ rfl (by decide +kernel) (by decide +kernel)) rfl rfl ya (yo (zA 4)) (λ_ _ _ _=>(zu 0 (show (["_law_one"]:List Str).Nodup by decide +kernel) rfl (Or.inl rfl))) (λ_ _ _ _=>(xv zE (zA 0)))) zC)) zC))))))))
  (zH (zS 5 qp.nd rfl (Or.inl rfl) (xw (zA 1) (yT xT xY rfl B.len_ xU (zB (zA 2) zC))))
  (zM (zY (zt (zt (wD (zA 2) (xl (zA 5)) wV) (wD (zA 2) wV (xl (zA 5)))) (wD (zA 2) wV (xl (xw (wS (zA 1) zE) zE))))))))),λds R h=>?_⟩
 obtain ⟨n,c,rfl,n1,n3,q⟩:=h
 refine ⟨k0,by omega,by omega,?_⟩
 rw [show ((n:Nat):Int).toNat=n by omega]
 refine ⟨λk Γ=>∃ s3 s4,Γ=[.sh (.int (n:Int)),.sh (.int c),.sh (xP n (zX k)),s3,s4,.no],⟨_,_,rfl⟩,?_,?_⟩
 ·rintro k d Γ' hk ⟨s3,s4,rfl⟩
  obtain ⟨kn,rfl⟩:=wm hk
  refine ⟨by omega,by omega,?_⟩
  rw [show ((n:Nat):Int).toNat=n by omega]
  refine zg.rng0 (λj=>.int (if (j:Int)=(k:Int) then 1 else 0)) (by omega) (λj hj=>by show D.int _=_; rw [zMV]) ?_
  have eu:(List.range n).map (λj:Nat=>D.int (if (j:Int)=(k:Int) then 1 else 0))=(za (k:Int) n 1).map D.int:=by unfold za; rw [List.map_map]; rfl
  rw [eu]
  refine zg.int (λx=>0 - x) (by rw [xO]; omega) (λx hx=>rfl) ?_
  rw [zHs]
  refine ⟨k0,by rw [List.length_map,Zu]; show _ + 2<=1000; omega,.sh (.int (k:Int)),.sh (L (za (k:Int) n 1)),?_⟩
  have ed:xP n (zX k++[(k,1),(k,-1)])=.lst (((zX k).map λs=>U (za (s.1:Int) n s.2))++[U (za (k:Int) n 1),U (za (k:Int) n (-1))]):=by unfold xP; rw [List.map_append]; rfl
  rw [zHx,ed]
  rfl
 ·rintro Γ' ⟨s3,s4,rfl⟩
  rw [w8]
  have ls:((zX n).map λs=>U (za (s.1:Int) n s.2)).length=2 * n:=by rw [List.length_map,Zu]
  refine ⟨by omega,?_⟩
  have ma:=md c (show (0:Int) < ((((zX n).map λs=>U (za (s.1:Int) n s.2)).length:Nat):Int) by omega)
  generalize c.fmod ((((zX n).map λs=>U (za (s.1:Int) n s.2)).length:Nat):Int)=at' at ma
  obtain ⟨a,rfl⟩:=Int.eq_ofNat_of_zero_le ma.1
  have mz:=md (c.fdiv 7) (show (0:Int) < 2 by decide)
  have st:=zMF n3
  have l1:((zX n).drop a++(zX n).take a).length=2 * n:=by rw [List.length_append,List.length_drop,List.length_take,Zu]; omega
  have mem:∀ s,s∈zX n->s∈(zX n).drop a++(zX n).take a:=λs hs=>by
   rw [<- List.take_append_drop a (zX n)] at hs
   exact (List.mem_append.mp hs).elim (λh=>List.mem_append_right _ h) λh=>List.mem_append_left _ h
  have h1:wd n ((zX n).drop a++(zX n).take a):=⟨by omega,λs hs=>st.ok s ((List.mem_append.mp hs).elim List.mem_of_mem_drop List.mem_of_mem_take),λp hp=>mem _ (st.hasU p hp),λp hp=>mem _ (st.hasD p hp)⟩
  refine ⟨by rw [Ji,Zs,List.length_map,List.length_map,List.length_drop,List.length_take,Zu]; omega,by decide,(Bd.lit (i:=7) (n:=3)).mono,by decide,?_⟩
  generalize (c.fdiv 7).fmod 2=z' at mz
  obtain ⟨z,rfl⟩:=Int.eq_ofNat_of_zero_le mz.1
  have lz:((zX n).take z).length<=6:=by rw [List.length_take,Zu]; omega
  refine ⟨by rw [Ji,Zs,Zs,<- List.map_append,List.length_map,List.length_map,l1]; omega,?_⟩
  have h2:wd n (((zX n).drop a++(zX n).take a)++(zX n).take z):=⟨by rw [List.length_append,l1]; omega,λs hs=>(List.mem_append.mp hs).elim (h1.ok s) λh=>st.ok s (List.mem_of_mem_take h),λp hp=>List.mem_append_left _ (h1.hasU p hp),λp hp=>List.mem_append_left _ (h1.hasD p hp)⟩
  rw [Ji,Zs,Zs]
  have:=q _ _ h1 l1 h2
  unfold xP at this
  rw [List.map_append,List.map_append] at this
  exact this
theorem zPE {k:Nat} {f:Addr} {fd:FuncData} (F:ze K "law" "law" qr f fd) (B:Bl mg) (bQ:Fn P w K mg base "_law_thing" ["_law_script","_law_most_modes"] k (zG (Zm))) (bT:Fn P w K mg base "_law_made" ["_law_spec"] k (zG (zPX ag af))) (bU:Fn P w K mg base "_law_box" ["_law_cell","_law_many","_law_unit"] k (zG (Zh))) (al:Fn P w K mg base "_law_cell_at" ["_law_script","_law_k"] k (zG (JU))) (bV:Fn P w K mg base "_law_rows" ["_law_box_here"] k (zG (zMZ))) (bX:Fn P w K mg base "_law_shape" ["_law_many","_law_cell"] k (zG (Zo))) (aK:Fn P w K mg base "first_room" ["start","shape"] k (zG (JL))) (aw:Fn P w K mg base "_law_by" ["_law_shape_here","_law_box_here"] k (zG (fBy))) (aQ:Fn P w K mg base "_law_hull" ["_law_one","_law_other"] k (zG (zPY))) (aR:Fn P w K mg base "_law_image" ["_law_spec","_law_box_here"] k (zG (Zn))) (aL:Fn P w K mg base "grown_once" ["thing","room"] k (zG (JM ag af))) (bY:Fn P w K mg base "grown" ["thing","start","shape","tries"] k (zG (zMe ag af))):zF P w K mg base zU (k + 1) f fd ["_law_script"] (zG (uw)):=by
 refine zn F wO (λds R h=>by obtain ⟨ns,rfl,_⟩:=h; rfl) λcdv A outer s H E hr=>⟨_,(zH (zS 1 wO.nd rfl (Or.inl rfl) (zP bQ hr rfl (zB (zA 0) (zB zE zC))))
  (zH (zS 2 wO.nd rfl (Or.inl rfl) (zP bT hr rfl (zB (zA 1) zC)))
  (zH (zS 3 wO.nd rfl (Or.inl rfl) (zP bU hr rfl (zB (zP al hr rfl (zB (zA 0) (zB zE zC))) (zB (zQ (zA 1) zE (λ_ _=>rfl)) (zB (zQ (zA 1) zE (λ_ _=>rfl)) zC)))))
  (zH (zS 4 wO.nd rfl (Or.inl rfl) (zP bV hr rfl (zB (zA 3) zC)))
  (zH (zS 5 wO.nd rfl (Or.inl rfl) (zP bX hr rfl (zB (zQ (zA 1) zE (λ_ _=>rfl)) (zB (zP al hr rfl (zB (zA 0) (zB zE zC))) zC))))
  (zH (zS 6 wO.nd rfl (Or.inl rfl) (xw (zP al hr rfl (zB (zA 0) (zB zE zC))) zE))
  (jv (yG (vM hr.units (zQ (zA 1) zE (λ_ _=>rfl)) zE) (zH (zS 6 wO.nd rfl (Or.inl rfl) zE)
   (zM (zS 5 wO.nd rfl (Or.inl rfl) (wD (zA 5) wV (xl zE))))) yF)
  (zH (zS 7 wO.nd rfl (Or.inl rfl) (wl (zB (xE wv vO rfl B.list_ xi (zB (zA 4) zC)) (zB (xE wv vO rfl B.list_ xi (zB (zA 5) zC)) zC))))
  (zH (yG (qd hr.units (zP aK hr rfl (zB (zA 4) (zB (zA 5) zC))) (zP aw hr rfl (zB (zA 5) (zB (zA 3) zC)))) (zM (zY vL)) yF)
  (zH (zS 8 wO.nd rfl (Or.inl rfl) (zP aQ hr rfl (zB (zA 3) (zB (zP aR hr rfl (zB (zA 1) (zB (zA 3) zC))) zC))))
  (zH (zS 9 wO.nd rfl (Or.inl rfl) (zP aw hr rfl (zB (zA 5) (zB (zA 3) zC))))
  (jv (yG (PW.pt (KU (jq (zQ (zA 1) zE (λ_ _=>rfl)) zE) (KS (qd hr.units (zP aL hr rfl (zB (zA 2) (zB (zA 9) zC))) (zP aw hr rfl (zB (zA 5) (zB (zA 8) zC))))))) (zM (zY vL)) yF)
  (zH (zS 10 wO.nd rfl (Or.inl rfl) xC)
  (zH (y4 PassesOwn.never rfl (xA rfl B.range_ (zB (zt (zA 6) zE) zC)) (zu 11 wO.nd rfl (Or.inl rfl)) (zH (zS 8 wO.nd rfl (Or.inl rfl) (zP aQ hr rfl (zB (zA 3) (zB (zP aR hr rfl (zB (zA 1) (zB (zA 3) zC))) zC))))
   (jv (yG (PW.pt (KU (vm (zA 10) xC) (KS (vM hr.units (zA 8) (zA 3))))) (zM (zS 10 wO.nd rfl (Or.inl rfl) (zP aw hr rfl (zB (zA 5) (zB (zA 3) zC))))) yF)
   (zM (zS 3 wO.nd rfl (Or.inl rfl) (zA 8))))))
  (zM (zY (wj (uZ hr.units (zP bY hr rfl (zB (zA 2) (zB (zA 4) (zB (zA 5) (zB (zA 6) zC))))) (zA 10)) (vh (uZ hr.units (zA 7) (wl (zB (zA 4) (zB (zA 5) zC)))))))))))))))))))))),λds R h=>?_⟩
 obtain ⟨ns,rfl,q⟩:=h
 refine ⟨ns,rfl,λn bs ms u T hr=>⟨n,bs,ms,u,rfl,T.ok,?_⟩⟩
 have n1:=T.n1
 have n3:=T.n3
 have u1:=T.u1
 have Th:=T.th7 hr
 refine ⟨ns,5,rfl,by decide,λc5=>⟨_,rfl,_,rfl,c5,n,u,rfl,n3,by omega,T.bu,λbx lb hb=>?_⟩⟩
 have B:Bk n 115 bx:=⟨lb,λb h=>⟨(hb b h).1,(hb b h).2.1.mono,(hb b h).2.2.mono⟩⟩
 refine ⟨n,bx,rfl,lb,n3,?_⟩
 refine ⟨_,rfl,ns,6,rfl,by decide,λc6=>⟨n,c6,rfl,n1,n3,λS1 S2 h1 l1 h12=>?_⟩⟩
 refine ⟨ns,7,rfl,by decide,λc7=>⟨by decide,?_⟩⟩
 have m9:=md c7 (show (0:Int) < 9 by decide)
 refine ⟨λΓ=>∃ (t:Nat) (S:List vS),Γ=[.sh (.scr ns),.sh (vU n bs ms u),.sh (xy ag af n bs ms),.sh (xf bx),.sh (zq n (zR (zX n) bx)),.sh (xP n S),.sh (.int ((t:Nat):Int)),.no,.no,.no,.no,.no]/\t<=8/\wd n S,⟨_,rfl,w2 (λc1=>?_) λc1=>⟨(c7.fmod 9).toNat,S1++S2,?_,by omega,h12⟩⟩,?_⟩
 ·have e3:n=3:=by have:=of_decide_eq_true c1; omega
  refine ⟨0,S1,?_,by decide,h1⟩
  have e6:(6:Int)=((S1.length:Nat):Int):=by omega
  have ec:zi ((S1++S2).map λs=>U (za (s.1:Int) n s.2)) none (some 6)=S1.map λs=>U (za (s.1:Int) n s.2):=by rw [e6]; exact zNq
  show [_,_,_,_,_,Sl.sh (.lst (zi ((S1++S2).map λs=>U (za (s.1:Int) n s.2)) none (some 6))),_,_,_,_,_,_]=_
  rw [ec]
  rfl
 ·rw [show (((c7.fmod 9).toNat:Nat):Int)=c7.fmod 9 by omega]
  rfl
 rintro Γ' ⟨t,S,rfl,t8,hS⟩
 clear h1 l1 h12 m9
 have st:=zMF n3
 have n0:∀ T:List Br,(!PyData.eqv (zq n T).py (zq n T).py)=false:=λT=>by rw [JN,decide_eq_true rfl]; rfl
 have y0:∀ T:List Br,PyData.eqv (zq n T).py (zq n T).py=true:=λT=>by rw [JN,decide_eq_true rfl]
 have NB:=JK Th n3 B (by decide)
 refine ⟨k0,n,zX n,S,bx,rfl,n1,n3,st,hS,⟨lb,λb h=>⟨(B.ok b h).1,(B.ok b h).2.1.mono,(B.ok b h).2.2.mono⟩⟩,n,115,S,bx,rfl,n3,hS,B,by decide,jN _ _,jN _ _,wF (n0 _) ?_⟩
 refine ⟨n,bs,ms,u,bx,115,rfl,T,B,by decide,by decide,λim hi=>⟨bx,im,rfl,by omega,?_⟩⟩
 rw [zGe lb hi]
 refine ⟨n,115,S,bx,rfl,n3,hS,B,by decide,?_⟩
 refine ⟨λΓ=>Γ=[.sh (.scr ns),.sh (vU n bs ms u),.sh (xy ag af n bs ms),.sh (xf bx),.sh (zq n (zR (zX n) bx)),.sh (xP n S),.sh (.int ((t:Nat):Int)),.sh (.lst [zq n (zR (zX n) bx),xP n S]),.sh (xf (xL n bs bx ms)),.sh (zq n (zR S bx)),.no,.no],⟨_,rfl,w2 (λc1=>⟨n,bs,ms,S,bx,115,rfl,Th,hS,B,by decide,by decide,n,125,S,_,rfl,n3,hS,NB,by decide,jN _ _,jN _ _,wF (n0 _) rfl⟩) λc1=>wF rfl rfl⟩,?_⟩
 rintro Γ' rfl
 clear hi NB
 refine ⟨by omega,by omega,?_⟩
 rw [show (((t:Nat):Int) + 1).toNat=t + 1 by omega]
 refine ⟨λk Γ=>∃ (bk:List (Int × Int)) (due:D) (s8 s11:Sl),Γ=[.sh (.scr ns),.sh (vU n bs ms u),.sh (xy ag af n bs ms),.sh (xf bk),.sh (zq n (zR (zX n) bx)),.sh (xP n S),.sh (.int ((t:Nat):Int)),.sh (.lst [zq n (zR (zX n) bx),xP n S]),s8,.sh (zq n (zR S bx)),.sh due,s11]/\Bk n (115 + 10 * k) bk/\k<=t + 1/\((due=.non/\vv n S bs ms (t + 1) bx=vv n S bs ms (t + 1 - k) bk)\/∃ b',due=zq n (zR S b')/\vv n S bs ms (t + 1) bx=due),⟨bx,.non,_,_,rfl,B,by omega,.inl ⟨rfl,rfl⟩⟩,?_,?_⟩
 ·rintro k d Γ' hk ⟨bk,due,s8,s11,rfl,Bb,kt,hd⟩
  obtain ⟨kl,rfl⟩:=wm hk
  refine ⟨n,bs,ms,u,bk,115 + 10 * k,rfl,T,Bb,by omega,by omega,λim hi=>⟨bk,im,rfl,by rw [Bb.len]; omega,?_⟩⟩
  rw [zGe Bb.len hi]
  have NB:=JK Th n3 Bb (by omega)
  have e1:t + 1 - k=(t - k) + 1:=by omega
  have e2:t + 1 - (k + 1)=t - k:=by omega
  have NB':Bk n (115 + 10 * (k + 1)) (xL n bs bk ms):=by rw [show 115 + 10 * (k + 1)=115 + 10 * k + 10 by omega]; exact NB
  refine ⟨λΓ=>∃ due',Γ=[.sh (.scr ns),.sh (vU n bs ms u),.sh (xy ag af n bs ms),.sh (xf bk),.sh (zq n (zR (zX n) bx)),.sh (xP n S),.sh (.int ((t:Nat):Int)),.sh (.lst [zq n (zR (zX n) bx),xP n S]),.sh (xf (xL n bs bk ms)),.sh (zq n (zR S bx)),.sh due',.sh (.int (k:Int))]/\((due'=.non/\vv n S bs ms (t + 1) bx=vv n S bs ms (t - k) (xL n bs bk ms))\/∃ b',due'=zq n (zR S b')/\vv n S bs ms (t + 1) bx=due'),?_,?_⟩
  ·rcases hd with ⟨rfl,eq⟩ | ⟨b',rfl,eq⟩
   ·refine wT rfl ⟨zOn _,zOn _,?_⟩
    rw [zPa]
    refine w2 (λc1=>?_) λc1=>⟨_,rfl,.inl ⟨rfl,?_⟩⟩
    ·have z:=of_decide_eq_true c1
     refine ⟨n,115 + 10 * k,S,bk,rfl,n3,hS,Bb,by omega,_,rfl,.inr ⟨bk,rfl,?_⟩⟩
     rw [eq,e1]
     show (if _ then _ else _)=_
     rw [if_pos (by rw [z])]
    ·have z:=of_decide_eq_false c1
     rw [eq,e1]
     show (if _ then _ else _)=_
     rw [if_neg λh=>z (zNw hS NB Bb h)]
   ·exact wF rfl (wF rfl ⟨_,rfl,.inr ⟨b',rfl,eq⟩⟩)
  rintro Γ' ⟨due',rfl,hd'⟩
  refine ⟨xL n bs bk ms,due',_,_,rfl,NB',by omega,?_⟩
  rw [e2]
  exact hd'
 ·rintro Γ' ⟨bk,due,s8,s11,rfl,Bb,kt,hd⟩
  rw [w8,Nat.sub_self] at hd
  refine ⟨n,bs,ms,zX n,S,bx,t,rfl,by omega,Th,st,hS,B,?_⟩
  have pS:(xP n S).pl 49=true:=List.all_eq_true.mpr λd m=>by
   obtain ⟨s,_,rfl⟩:=List.mem_map.mp m
   exact Wm 46 _
  have pR:(zq n (zR (zX n) bx)).pl 49=true:=List.all_eq_true.mpr λd m=>by
   obtain ⟨s,_,rfl⟩:=List.mem_map.mp m
   exact Wm 46 _
  have pH:(D.lst [zq n (zR (zX n) bx),xP n S]).pl 50=true:=by
   show ([zq n (zR (zX n) bx),xP n S].all (D.pl 49))=true
   rw [List.all_cons,List.all_cons,List.all_nil,Bool.and_true]
   exact Bool.and_eq_true_iff.mpr ⟨pR,pS⟩
  have fin:∀ Rr:D->Prop,Rr (.bool true)->kG (.lst [zq n (zR (zX n) bx),xP n S]) (.lst [zq n (zR (zX n) bx),xP n S]) Rr:=λRr h=>⟨pH,pH,by rw [Jh 50 _ pH]; exact h⟩
  rcases hd with ⟨rfl,eq⟩ | ⟨b',rfl,eq⟩
  ·rw [eq]
   exact wT rfl ⟨k0,fin _ q⟩
  ·rw [eq]
   refine ⟨jN _ _,jN _ _,?_⟩
   rw [y0]
   exact wT rfl ⟨k0,fin _ q⟩
end
end K73
namespace L2
open PySem PySem.Spec PyProof.Rows
theorem Jj {α:Type} {P:List α->Prop} (h:∀ x0:α,P [x0]):∀ us:List α,us.length=1->P us
 | [x0],_=>h x0
theorem Zw {α:Type} {P:List α->Prop} (h:∀ x0 x1:α,P [x0,x1]):∀ us:List α,us.length=2->P us
 | [x0,x1],_=>h x0 x1
theorem Xg {α:Type} {P:List α->Prop} (h:∀ x0 x1 x2:α,P [x0,x1,x2]):∀ us:List α,us.length=3->P us
 | [x0,x1,x2],_=>h x0 x1 x2
theorem Jk {α:Type} {P:List α->Prop} (h:∀ x0 x1 x2 x3:α,P [x0,x1,x2,x3]):∀ us:List α,us.length=4->P us
 | [x0,x1,x2,x3],_=>h x0 x1 x2 x3
theorem Jl {α:Type} {P:List α->Prop} (h:∀ x0 x1 x2 x3 x4:α,P [x0,x1,x2,x3,x4]):∀ us:List α,us.length=5->P us
 | [x0,x1,x2,x3,x4],_=>h x0 x1 x2 x3 x4
theorem Jm {α:Type} {P:List α->Prop} (h:∀ x0 x1 x2 x3 x4 x5 x6:α,P [x0,x1,x2,x3,x4,x5,x6]):∀ us:List α,us.length=7->P us
 | [x0,x1,x2,x3,x4,x5,x6],_=>h x0 x1 x2 x3 x4 x5 x6
structure Gf (K:W.Frag) (x:Str) (st:Stmt) (f:Addr) (fd:FuncData):Prop where
 at_:W.nsIn K mainGlobals x=some (some (.ref f))
 F:ze K x x st f fd
abbrev Ge (K:W.Frag) (x:Str) (st:Stmt):Prop:=∃ f fd,Gf K x st f fd
structure Gm (K:W.Frag) (C:Addr) (x q:Str) (st:Stmt) (f:Addr) (fd:FuncData):Prop where
 at_:W.findIn K (.ref C) x=some (some (.ref f))
 fn:W.isFn K (.ref f)=true
 F:ze K x q st f fd
abbrev Gn (K:W.Frag) (C:Addr) (x q:Str) (st:Stmt):Prop:=∃ f fd,Gm K C x q st f fd
structure Gd (K:W.Frag) (x:Str) (st:Stmt) (f:Addr) (fd:FuncData) (d:Value):Prop where
 at_:W.nsIn K mainGlobals x=some (some (.ref f))
 F:yw K x x st f fd d
abbrev Gi (K:W.Frag) (x:Str) (st:Stmt) (i:Int):Prop:=∃ f fd t,Gd K x st f fd (.int i t)
structure Gk (K:W.Frag) (C:Addr) (x q:Str) (st:Stmt) (f:Addr) (fd:FuncData) (d:Value):Prop where
 at_:W.findIn K (.ref C) x=some (some (.ref f))
 fn:W.isFn K (.ref f)=true
 F:yw K x q st f fd d
abbrev Gj (K:W.Frag) (C:Addr) (x q:Str) (st:Stmt) (i:Int):Prop:=∃ f fd t,Gk K C x q st f fd (.int i t)
structure Gc (K:W.Frag) (x:Str) (C:Addr):Prop where
 nm:W.nsIn K mainGlobals x=some (some (.ref C))
 pg:W.plainGet K C Str.empty=true
 hd:W.hasDictIn K C=true
 po:W.plainOver K C=true
 sa:W.findIn K (.ref C) "__setattr__" = some (some (.builtin "object.__setattr__"))
 mk_:W.makesIn K C=true
 kc:W.keepIn K (.ref C)=true
 ha:W.findIn K (.ref C) "__class__" = some (some (.builtin "object.__class__"))
 hn:W.specialIn K (.builtin "object.__class__") "__get__" = some (some (.builtin "getset_descriptor.__get__"))
 tk:W.takesIn K (.builtin "object.__class__")=some true
 hm:W.mroIn K C (.type "object")=some true
section
variable {P:Program} {w:World} {K:W.Frag} {mg:Str->Option Value} {base h:Heap} {x q:Str} {st:Stmt} {f C T:Addr} {fd:FuncData} {ps:List Str} {k:Nat} {sp:Sp} {oc kV doc pm cdv ct oT:Value} {od an dT:Option Addr} {osl sT:Array (Option Value)}
theorem Zx (a:W.nsIn K mainGlobals x=some (some (.ref f))) (l:K.lookup f=some ⟨oc,od,.func (W.fnOf x x (wA st) (y8 st) (zL st) .none kV doc pm an cdv ct),osl⟩) (c:W.codeIn K cdv x=true) (k:W.keepIn K (.ref f)=true):Ge K x st:=⟨f,_,a,WE l c k⟩
theorem Zy (a:W.findIn K (.ref C) x=some (some (.ref f))) (i:W.isFn K (.ref f)=true) (l:K.lookup f=some ⟨oc,od,.func (W.fnOf x q (wA st) (y8 st) (zL st) .none kV doc pm an cdv ct),osl⟩) (c:W.codeIn K cdv q=true) (k:W.keepIn K (.ref f)=true):Gn K C x q st:=⟨f,_,a,i,WE l c k⟩
theorem Zz {i:Int} {t:Tok} {n:Nat} (a:W.nsIn K mainGlobals x=some (some (.ref f))) (l:K.lookup f=some ⟨oc,od,.func (W.fnOf x x (wA st) (y8 st) (zL st) (.ref T) kV doc pm an cdv ct),osl⟩) (c:W.codeIn K cdv x=true) (k:W.keepIn K (.ref f)=true) (d:K.lookup T=some ⟨oT,dT,.seq #[.int i t] n,sT⟩):Gi K x st i:=⟨f,_,t,a,Qp l c k d rfl⟩
theorem Z3 {i:Int} {t:Tok} {n:Nat} (a:W.findIn K (.ref C) x=some (some (.ref f))) (z:W.isFn K (.ref f)=true) (l:K.lookup f=some ⟨oc,od,.func (W.fnOf x q (wA st) (y8 st) (zL st) (.ref T) kV doc pm an cdv ct),osl⟩) (c:W.codeIn K cdv q=true) (k:W.keepIn K (.ref f)=true) (d:K.lookup T=some ⟨oT,dT,.seq #[.int i t] n,sT⟩):Gj K C x q st i:=⟨f,_,t,a,z,Qp l c k d rfl⟩
theorem Gc.cls (g:Gc K x C) (X:K.In h) (G:h.Ns mainGlobals mg):zT K mg x C:=⟨⟨g.pg,g.hd,g.po,g.sa⟩,W.mg_of X G g.nm,g.ha,g.hn,g.tk,g.hm⟩
abbrev Bn (x q:Str) (st:Stmt) (ps:List Str):Prop:=∀ (kV doc pm:Value) (an:Option Addr) (cdv ct:Value) (us:List Value),us.length=ps.length->bindArgs (W.fnOf x q (wA st) (y8 st) (zL st) .none kV doc pm an cdv ct) ⟨us,[]⟩=pure (ps.zip us)
structure Wh (P:Program) (w:World) (K:W.Frag) (mg:Str->Option Value) (base h:Heap):Prop where
 X:K.In h
 G:h.Ns mainGlobals mg
theorem Gf.fn (g:Gf K x st f fd) (Y:Wh P w K mg base h) (o:zF P w K mg base zU k f fd ps sp) (b:Bn x x st ps:=by intro _ _ _ _ _ _; first | exact L2.Jj λ_=>rfl | exact L2.Zw λ_ _=>rfl | exact L2.Xg λ_ _ _=>rfl | exact L2.Jk λ_ _ _ _=>rfl | exact L2.Jl λ_ _ _ _ _=>rfl | exact L2.Jm λ_ _ _ _ _ _ _=>rfl):Fn P w K mg base x ps k sp:=⟨f,fd,o,W.mg_of Y.X Y.G g.at_,g.F.kp,g.F.binds b⟩
theorem Gm.fm (g:Gm K C x q st f fd) (_:Wh P w K mg base h) (o:zF P w K mg base zU k f fd ps sp) (b:Bn x q st ps:=by intro _ _ _ _ _ _; first | exact L2.Jj λ_=>rfl | exact L2.Zw λ_ _=>rfl | exact L2.Xg λ_ _ _=>rfl | exact L2.Jk λ_ _ _ _=>rfl | exact L2.Jl λ_ _ _ _ _=>rfl | exact L2.Jm λ_ _ _ _ _ _ _=>rfl):v4 P w K mg base C x ps k sp:=⟨f,fd,o,⟨g.at_,g.fn,g.F.kp⟩,g.F.binds b⟩
theorem Gm.fc {y:Str} (g:Gm K C "__init__" q st f fd) (_:Wh P w K mg base h) (c:Gc K y C) (o:zF P w K mg base zU k f fd ps sp) (b:Bn "__init__" q st ps:=by intro _ _ _ _ _ _; first | exact L2.Jj λ_=>rfl | exact L2.Zw λ_ _=>rfl | exact L2.Xg λ_ _ _=>rfl | exact L2.Jk λ_ _ _ _=>rfl | exact L2.Jl λ_ _ _ _ _=>rfl | exact L2.Jm λ_ _ _ _ _ _ _=>rfl):uP P w K mg base C ps k sp:=⟨f,fd,o,⟨c.mk_,g.at_,g.fn,c.kc⟩,g.F.binds b⟩
theorem Gd.fn {i:Int} {t:Tok} (g:Gd K x st f fd (.int i t)) (Y:Wh P w K mg base h) (b:∀ (T:Addr) (kV doc pm:Value) (an:Option Addr) (cdv ct:Value) (us:List Value),us.length=ps.length->∃ k:Option (Array Value)->Sem (List (Str × Value)),bindArgs (W.fnOf x x (wA st) (y8 st) (zL st) (.ref T) kV doc pm an cdv ct) ⟨us,[]⟩=seqItems? (.ref T) >>= k/\k (some #[.int i t])=pure (ps.zip us))
  (d:∀ (T:Addr) (kV doc pm:Value) (an:Option Addr) (cdv ct:Value) (us:List Value),us.length + 1=ps.length->∃ k:Option (Array Value)->Sem (List (Str × Value)),bindArgs (W.fnOf x x (wA st) (y8 st) (zL st) (.ref T) kV doc pm an cdv ct) ⟨us,[]⟩=seqItems? (.ref T) >>= k/\k (some #[.int i t])=pure (ps.zip (us++[.int i t]))) (o:zF P w K mg base zU k f fd ps sp):wB P w K mg base x ps k sp (.int i):=
 ⟨f,fd,_,o,W.mg_of Y.X Y.G g.at_,g.F.kp,g.F.binds b,g.F.binds1 d,⟨_,rfl⟩⟩
end
end L2
namespace K73
open PySem L2 Sh Pu
abbrev Gq (K:W.Frag) (x:Str) (st:Stmt) (c:Addr):Prop:=∃ f fd,Gf K x st f fd/\fd.code=.ref c
theorem gq_mk {K:W.Frag} {x:Str} {st:Stmt} {f c0:Addr} {oc kV doc pm ct:Value} {od an:Option Addr} {osl:_} (a:W.nsIn K mainGlobals x=some (some (.ref f))) (l:K.lookup f=some ⟨oc,od,.func (W.fnOf x x (wA st) (y8 st) (zL st) .none kV doc pm an (.ref c0) ct),osl⟩) (c:W.codeIn K (.ref c0) x=true) (k:W.keepIn K (.ref f)=true):Gq K x st c0:=⟨f,_,⟨a,WE l c k⟩,rfl⟩
variable [iT:yL]
theorem zON {F:FL} (h:∀ ds R,¬ F ds R):∀ vs H Q E,¬ zG F vs H Q E:=λ_ _ _ _ ⟨_,ds,R,_,_,f,_⟩=>h ds R f
theorem zL2:∀ ds R,¬ ZE 0 ds R:=λ_ _ ⟨_,_,_,h,_⟩=>by cases h
theorem all_mk {cC Pt:Addr} (hI:∀ H,yL.I H ↔ zy Pt "least_place.<locals>.<lambda>" ⟨156,27,156,54⟩ H) {l:W.OpenLaw} {w:World} {K:W.Frag} {h:Heap} {mg:Str->Option Value} {fa:Addr} (X:K.In h) (G:h.Ns mainGlobals mg) (hfa:mg "law" = some (.ref fa))
  {af ag:Addr}
  (GMode:Gc K "Mode" af)
  (GThing:Gc K "Thing" ag)
  (bZ:W.findIn K (.ref af) "rows" = some none)
  (b7:W.findIn K (.ref af) "nexts" = some none)
  (b8:W.findIn K (.ref af) "steer" = some none)
  (b9:W.findIn K (.ref af) "push" = some none)
  (cb:W.findIn K (.ref af) "add" = some none)
  (cf:W.findIn K (.ref af) "divisor" = some none)
  (cg:W.findIn K (.ref ag) "many" = some none)
  (ci:W.findIn K (.ref ag) "kept_pushes" = some none)
  (cj:W.findIn K (.ref ag) "kept_modes" = some none)
  (z0:W.nsIn K mainGlobals "isinstance" = some none)
  (z1:W.nsIn K mainGlobals "int" = some none)
  (z2:W.nsIn K mainGlobals "bool" = some none)
  (z3:W.nsIn K mainGlobals "tuple" = some none)
  (z4:W.nsIn K mainGlobals "len" = some none)
  (z5:W.nsIn K mainGlobals "all" = some none)
  (z6:W.nsIn K mainGlobals "list" = some none)
  (z7:W.nsIn K mainGlobals "range" = some none)
  (z8:W.nsIn K mainGlobals "zip" = some none)
  (z9:W.nsIn K mainGlobals "sum" = some none)
  (z10:W.nsIn K mainGlobals "max" = some none)
  (z11:W.nsIn K mainGlobals "enumerate" = some none)
  (z12:W.nsIn K mainGlobals "min" = some none)
  (z13:W.nsIn K mainGlobals "abs" = some none)
  {gt0:Tok} (cst0:W.nsIn K mainGlobals "MOST_NUMBERS" = some (some (.int 3 gt0)))
  {gt1:Tok} (cst1:W.nsIn K mainGlobals "MOST_PUSHES" = some (some (.int 6 gt1)))
  {gt2:Tok} (cst2:W.nsIn K mainGlobals "MOST_MODES" = some (some (.int 40 gt2)))
  : Ge K "is_whole" UP->Ge K "is_numbers" Y0->Ge K "is_table" Y1->Gi K "copied" ZG 5->Gi K "unit" Y2 1->Ge K "paired" Y3->Ge K "added_up" Y4->Ge K "is_row" Y5->Ge K "is_room" Y6->Ge K "single" UQ->Gn K af "__init__" "Mode.__init__" UW->Ge K "is_push" UX->Ge K "is_mode" UY->Ge K "is_sound" ZJ->Gn K ag "__init__" "Thing.__init__" UZ->Gn K ag "pushes" "Thing.pushes" Ua->Gn K ag "modes" "Thing.modes" Ub->Ge K "is_unsteered" Y9->Gn K ag "is_closed" "Thing.is_closed" XA->Ge K "ask_closed" Uc->Ge K "reach" Ue->Ge K "common_divisor" Ui->Gi K "fraction" Uj 1->Ge K "minus" Uq->Ge K "times" Ur->Ge K "under" Us->Ge K "ceiling_of" Ut->Ge K "raw_sum" Uu->Ge K "along" Uv->Ge K "holds" Uw->Ge K "first_with" Ux->Ge K "put_ahead" Uy->Ge K "cleared" XF->Ge K "solved" ZT->Ge K "axes" XI->Ge K "corner_point" XJ->Ge K "weights_of" XM->Ge K "over_one_bottom" XN->Ge K "exchanged" U3->Ge K "way_off" XQ->Gq K "least_place" XS cC->Ge K "first_broken" U4->Ge K "first_met" U6->Ge K "spread" XT->Ge K "first_corner" XW->Ge K "climbed" XX->Ge K "most" Zb->Ge K "worst_pushes" XY->Ge K "without_pushes" JG->Ge K "grown_bound" JH->Ge K "first_room" JO->Ge K "grown_once" JP->Ge K "grown" JQ->Ge K "_law_cell_at" JZ->Ge K "_law_stream" Ja->Ge K "_law_number" Jb->Ge K "_law_box" Jc->Ge K "_law_made" Zj->Ge K "_law_top" Je->Ge K "_law_mode" qE->Ge K "_law_thing" Jf->Ge K "_law_rows" Zq->Ge K "_law_hull" Xe->Ge K "_law_by" Xf->Ge K "_law_image" Zr->Ge K "_law_shape" Zv->Ge K "law" qr->∃ fd:FuncData,(∀ (s:Shared) (v:Value),BindsTo s fd ⟨[v],[]⟩ [("_law_script",v)])/\∀ base:Heap,K.In base->base.Ns mainGlobals mg->xx base mg cC Pt->zF l.prog w K mg base zU 10 fa fd ["_law_script"] (zG uw):=by
 rintro ⟨_,_,G0⟩ ⟨_,_,G1⟩ ⟨_,_,G2⟩ ⟨_,_,_,G3⟩ ⟨_,_,_,G4⟩ ⟨_,_,G5⟩ ⟨_,_,G6⟩ ⟨_,_,G7⟩ ⟨_,_,G8⟩ ⟨_,_,G9⟩ ⟨_,_,G10⟩ ⟨_,_,G11⟩ ⟨_,_,G12⟩ ⟨_,_,G13⟩ ⟨_,_,G14⟩ ⟨_,_,G15⟩ ⟨_,_,G16⟩ ⟨_,_,G17⟩ ⟨_,_,G18⟩ ⟨_,_,G19⟩ ⟨_,_,G20⟩ ⟨_,_,G21⟩ ⟨_,_,_,G22⟩ ⟨_,_,G23⟩ ⟨_,_,G24⟩ ⟨_,_,G25⟩ ⟨_,_,G26⟩ ⟨_,_,G27⟩ ⟨_,_,G28⟩ ⟨_,_,G29⟩ ⟨_,_,G30⟩ ⟨_,_,G31⟩ ⟨_,_,G32⟩ ⟨_,_,G33⟩ ⟨_,_,G34⟩ ⟨_,_,G35⟩ ⟨_,_,G36⟩ ⟨_,_,G37⟩ ⟨_,_,G38⟩ ⟨_,_,G39⟩ ⟨_,_,G40,ecd⟩ ⟨_,_,G41⟩ ⟨_,_,G42⟩ ⟨_,_,G43⟩ ⟨_,_,G44⟩ ⟨_,_,G45⟩ ⟨_,_,G46⟩ ⟨_,_,G47⟩ ⟨_,_,G48⟩ ⟨_,_,G49⟩ ⟨_,_,G50⟩ ⟨_,_,G51⟩ ⟨_,_,G52⟩ ⟨_,_,G53⟩ ⟨_,_,G54⟩ ⟨_,_,G55⟩ ⟨_,_,G56⟩ ⟨_,_,G57⟩ ⟨_,_,G58⟩ ⟨_,_,G59⟩ ⟨_,_,G60⟩ ⟨_,_,G61⟩ ⟨_,_,G62⟩ ⟨_,_,G63⟩ ⟨_,_,G64⟩ ⟨_,_,G65⟩ ⟨_,_,G66⟩
 have e:=hfa.symm.trans (W.mg_of X G G66.at_)
 cases e
 have B:Bl mg:=⟨W.mg_none_of X G z0,W.mg_none_of X G z1,W.mg_none_of X G z2,W.mg_none_of X G z3,W.mg_none_of X G z4,W.mg_none_of X G z5,W.mg_none_of X G z6,W.mg_none_of X G z7,W.mg_none_of X G z8,W.mg_none_of X G z9,W.mg_none_of X G z10,W.mg_none_of X G z11,W.mg_none_of X G z12,W.mg_none_of X G z13,⟨_,W.mg_of X G cst0⟩,⟨_,W.mg_of X G cst1⟩,⟨_,W.mg_of X G cst2⟩⟩
 have aa:=GMode.cls X G
 have ab:xa K af:=⟨bZ,b7,b8,b9,cb,cf⟩
 have ac:=GThing.cls X G
 have ae:xb K ag:=⟨cg,ci,cj⟩
 obtain ⟨_,_,kV,dc,pm,an,cd,ct,_,rfl,_⟩:=G66.F.ex
 refine ⟨W.fnOf "law" "law" (wA qr) (y8 qr) (zL qr) .none kV dc pm an cd ct,λs v=>.of_eq rfl,λbase _ _ T=>?_⟩
 have Yw:Wh l.prog w K mg base h:=⟨X,G⟩
 have N0:=G0.fn Yw (zHL (k:=0) aa ab ac ae G0.F B )
 have N1:=G1.fn Yw (zFw (k:=1) aa ab ac ae G1.F B N0.mono)
 have N2:=G2.fn Yw (zHM (k:=2) aa ab ac ae G2.F B N1.mono)
 have D3:=λ{k sp}=>G3.fn (ps:=["value","depth"]) (k:=k) (sp:=sp) Yw (λ_ _ _ _ _ _ _=>L2.Zw λ_ _=>⟨_,rfl,rfl⟩) λ_ _ _ _ _ _ _ us hl=>match us,hl with | [_],_=>⟨_,rfl,rfl⟩
 have N3_0:=D3 (zF.no (k:=1) (sp:=(zG (ZE 0))) (zON zL2))
 have N3_1:=D3 (ZH (k:=1) (j:=0) aa ab ac ae G3.F B N3_0.mono)
 have N3_2:=D3 (ZH (k:=2) (j:=1) aa ab ac ae G3.F B N3_1.mono)
 have N3_3:=D3 (ZH (k:=3) (j:=2) aa ab ac ae G3.F B N3_2.mono)
 have N3_4:=D3 (ZH (k:=4) (j:=3) aa ab ac ae G3.F B N3_3.mono)
 have N3_5:=D3 (ZH (k:=5) (j:=4) aa ab ac ae G3.F B N3_4.mono)
 have N3:=N3_5
 have D4:=λ{k sp}=>G4.fn (ps:=["place","wide","number"]) (k:=k) (sp:=sp) Yw (λ_ _ _ _ _ _ _=>L2.Xg λ_ _ _=>⟨_,rfl,rfl⟩) λ_ _ _ _ _ _ _ us hl=>match us,hl with | [_,_],_=>⟨_,rfl,rfl⟩
 have N4:=D4 (zNT (k:=0) aa ab ac ae G4.F B )
 have N5:=G5.fn Yw (zJu (k:=0) aa ab ac ae G5.F B )
 have N6:=G6.fn Yw (zHP (k:=0) aa ab ac ae G6.F B )
 have N7:=G7.fn Yw (zJz (k:=1) aa ab ac ae G7.F B N0.mono)
 have N8:=G8.fn Yw (zIs (k:=2) aa ab ac ae G8.F B N7.mono)
 have N9:=G9.fn Yw (zJt (k:=1) aa ab ac ae G9.F B N4.mono)
 have N10:=G10.fc Yw GMode (zES (k:=6) aa ab ac ae G10.F B N3.mono)
 have N11:=G11.fn Yw (zIt (k:=1) aa ab ac ae G11.F B N0.mono)
 have N12:=G12.fn Yw (zIu (k:=3) aa ab ac ae G12.F B N8.mono N2.mono N1.mono N0.mono)
 have N13:=G13.fn Yw (zHN (k:=4) aa ab ac ae G13.F B N0.mono N11.mono N12.mono)
 have N14:=G14.fc Yw GThing (zD9 (k:=5) aa ab ac ae G14.F B N13.mono)
 have N15:=G15.fm Yw (zEz (k:=0) aa ab ac ae G15.F B )
 have N16:=G16.fm Yw (zFM (k:=0) aa ab ac ae G16.F B )
 have N17:=G17.fn Yw (zEv (k:=0) aa ab ac ae G17.F B )
 have N18:=G18.fm Yw (zDn (k:=1) aa ab ac ae G18.F B N17.mono)
 have N19:=G19.fn Yw (zF1 (k:=2) aa ab ac ae G19.F B N18.mono)
 have N20:=G20.fn Yw (zLf (k:=1) aa ab ac ae G20.F B N6.mono N15.mono N5.mono)
 have N21:=G21.fn Yw (zD8 (k:=0) aa ab ac ae G21.F B )
 have D22:=λ{k sp}=>G22.fn (ps:=["top","bottom"]) (k:=k) (sp:=sp) Yw (λ_ _ _ _ _ _ _=>L2.Zw λ_ _=>⟨_,rfl,rfl⟩) λ_ _ _ _ _ _ _ us hl=>match us,hl with | [_],_=>⟨_,rfl,rfl⟩
 have N22:=D22 (zHO (k:=1) aa ab ac ae G22.F B N0.mono N21.mono)
 have N23:=G23.fn Yw (zLg (k:=2) aa ab ac ae G23.F B N22.mono)
 have N24:=G24.fn Yw (zLe (k:=2) aa ab ac ae G24.F B N22.mono)
 have N25:=G25.fn Yw (zLd (k:=0) aa ab ac ae G25.F B )
 have N26:=G26.fn Yw (zF0 (k:=0) aa ab ac ae G26.F B )
 have N27:=G27.fn Yw (zIo (k:=0) aa ab ac ae G27.F B )
 have N28:=G28.fn Yw (zLl (k:=2) aa ab ac ae G28.F B N27.mono N22.mono)
 have N29:=G29.fn Yw (zLj (k:=1) aa ab ac ae G29.F B N27.mono)
 have N30:=G30.fn Yw (zFy (k:=0) aa ab ac ae G30.F B )
 have N31:=G31.fn Yw (zGV (k:=0) aa ab ac ae G31.F B )
 have N32:=G32.fn Yw (zIw (k:=0) aa ab ac ae G32.F B )
 have N33:=G33.fn Yw (zJs (k:=2) aa ab ac ae G33.F B N30.mono N31.mono N32.mono N22.mono)
 have N34:=G34.fn Yw (zNW (k:=2) aa ab ac ae G34.F B N9.mono)
 have N35:=G35.fn Yw (zEy (k:=3) aa ab ac ae G35.F B N33.mono)
 have N36:=G36.fn Yw (zFv (k:=3) aa ab ac ae G36.F B N33.mono)
 have N37:=G37.fn Yw (zDm (k:=1) aa ab ac ae G37.F B N21.mono)
 have N38:=G38.fn Yw (zGY (k:=0) aa ab ac ae G38.F B )
 have N39:=G39.fn Yw (zIn (k:=3) aa ab ac ae G39.F B N37.mono N33.mono)
 have N40:=G40.fn Yw (zFK (k:=2) (hI:=hI) (hc:=ecd) (T:=T) (k2:=by decide) aa ab ac ae G40.F B )
 have N41:=G41.fn Yw (zEx (k:=2) aa ab ac ae G41.F B N29.mono)
 have N42:=G42.fn Yw (zGX (k:=3) aa ab ac ae G42.F B N22.mono N5.mono N24.mono N23.mono N28.mono N25.mono)
 have N43:=G43.fn Yw (zJr (k:=2) aa ab ac ae G43.F B N37.mono)
 have N44:=G44.fn Yw (zEw (k:=4) aa ab ac ae G44.F B N36.mono N40.mono N38.mono)
 have N45:=G45.fn Yw (zIv (k:=4) aa ab ac ae G45.F B N35.mono N36.mono N40.mono N43.mono N28.mono N39.mono N42.mono N38.mono)
 have N46:=G46.fn Yw (zNU (k:=5) aa ab ac ae G46.F B N34.mono N44.mono N41.mono N35.mono N45.mono N36.mono N40.mono N22.mono N43.mono N38.mono)
 have N47:=G47.fn Yw (zEu (k:=1) aa ab ac ae G47.F B N15.mono)
 have N48:=G48.fn Yw (zD7 (k:=2) aa ab ac ae G48.F B N5.mono N47.mono)
 have N49:=G49.fn Yw (zFL (k:=6) aa ab ac ae G49.F B N16.mono N48.mono N20.mono N46.mono N24.mono N22.mono N23.mono N26.mono)
 have N50:=G50.fn Yw (zFz (k:=6) aa ab ac ae G50.F B N46.mono N26.mono)
 have N51:=G51.fn Yw (zFx (k:=7) aa ab ac ae G51.F B N19.mono N49.mono)
 have N52:=G52.fn Yw (zLk (k:=8) aa ab ac ae G52.F B N19.mono N50.mono N51.mono)
 have N53:=G53.fn Yw (zGW (k:=0) aa ab ac ae G53.F B )
 have N54:=G54.fn Yw (zHJ (k:=0) aa ab ac ae G54.F B )
 have N55:=G55.fn Yw (zHK (k:=0) aa ab ac ae G55.F B )
 have N56:=G56.fn Yw (zLi (k:=1) aa ab ac ae G56.F B N54.mono N55.mono)
 have N57:=G57.fn Yw (zJx (k:=7) aa ab ac ae G57.F B N10.mono N14.mono)
 have N58:=G58.fn Yw (zLh (k:=0) aa ab ac ae G58.F B )
 have N59:=G59.fn Yw (zJw (k:=1) aa ab ac ae G59.F B N54.mono N55.mono)
 have N60:=G60.fn Yw (zIp (k:=2) aa ab ac ae G60.F B N53.mono N59.mono)
 have N61:=G61.fn Yw (zJv (k:=0) aa ab ac ae G61.F B )
 have N62:=G62.fn Yw (zJy (k:=0) aa ab ac ae G62.F B )
 have N63:=G63.fn Yw (zNV (k:=1) aa ab ac ae G63.F B N58.mono)
 have N64:=G64.fn Yw (zIr (k:=1) aa ab ac ae G64.F B N58.mono)
 have N65:=G65.fn Yw (zIq (k:=0) aa ab ac ae G65.F B )
 exact zPE (k:=9) aa ab ac ae G66.F B N60.mono N57.mono N56.mono N53.mono N61.mono N65.mono N50.mono N63.mono N62.mono N64.mono N51.mono N52.mono
def zJ3 (o:Obj):Bool:=match o.cls with
 | .type t=>!(t == "list")
 | _=>true
theorem nolist {K:PySem.W.Frag} (h:K.all (λp=>zJ3 p.2)=true) (a:Addr) (o:Obj) (e:K.lookup a=some o):o.cls≠.type "list":=λz=>by
 have m:∃ b,(b,o)∈K:=by
  clear h
  induction K with
  | nil=>cases e
  | cons p K ih=>
   obtain ⟨b,o'⟩:=p
   rw [List.lookup_cons] at e
   cases q:a == b with
   | true=>rw [q] at e; cases e; exact ⟨b,List.mem_cons_self⟩
   | false=>rw [q] at e; obtain ⟨c,hc⟩:=ih e; exact ⟨c,List.mem_cons_of_mem _ hc⟩
 obtain ⟨b,hb⟩:=m
 have:=List.all_eq_true.mp h _ hb
 unfold zJ3 at this
 rw [z] at this
 exact absurd this (by decide)
theorem walk {l:PySem.W.OpenLaw} {q:Program} {loose:List Str} {XP:(Str->Option Value)->Heap->Prop} {YP:World->Heap->Prop} {d:DefRec} {K:Params->PySem.W.Frag} {cC Pt:Addr} (hI:∀ H,yL.I H ↔ zy Pt "least_place.<locals>.<lambda>" ⟨156,27,156,54⟩ H) (hn:l.most=some 63) (hdf:d.params.defaults=[])
  (hY:∀ (w:World) (h:Heap),YP w h->(K w.params).In h) (hrec:∃ d2,(PyProof.Rows.recsOf q).find? (λe=>e.name == ("least_place" : Str))=some d2) (htab:∀ w:World,PySem.W.tabIn (K w.params) "least_place" = some (cC,Pt)) (hKP:∀ w:World,(K w.params).lookup Pt=none)
  (hL:∀ (p:Params) (a:Addr) (o:Obj),(K p).lookup a=some o->o.cls≠.type "list")
  (F:∀ (w:World) (mg:Str->Option Value) (fa:Addr) (h:Heap),(K w.params).In h->h.Ns mainGlobals mg->mg d.name=some (.ref fa)->
   ∃ fd:FuncData,(∀ (s:Shared) (u:Value),BindsTo s fd ⟨[u],[]⟩ [("_law_script",u)])/\∀ base:Heap,(K w.params).In base->base.Ns mainGlobals mg->xx base mg cC Pt->zF l.prog w (K w.params) mg base zU 10 fa fd ["_law_script"] (zG uw)) :
  PySem.W.WalkO q loose XP YP l.row.toRowW d [] (λf vs=>PySem.call f vs):=
 hrec.elim λ_ hrec=>L2.zK6 (n:=63) (k:=10) (x:="_law_script") (x2:="least_place") (sp:=λ_=>zG uw) hn (by decide) hdf ⟨rfl,by decide,by decide⟩ hY hrec htab hKP F (λw H a ns _ hO hS=>⟨λ_=>False,[.scr ns],λd=>d=.bool true,⟨λ_ z=>z.elim,(hI H).mpr (.inl hO.1)⟩,.cons (.scr ((hS.elim id λ⟨o,_,_,h1,h2,_⟩=>absurd h2 (hL w.params a o h1)).imp (λe=>wz (λz=>z) e) λ⟨o,e⟩=>⟨o,wz (λz=>z) e⟩)) .nil,⟨ns,rfl,rfl⟩,λd v H2 e _ h=>by subst e; cases h; rfl⟩)
end K73
open PySem PySem.W PyProof.Rows
set_option maxRecDepth 100000 in
set_option maxHeartbeats 0 in
theorem PySem.Challenge.cw_steadyhand_k73_boxes_grown_holds : PySem.Challenge.rw_steadyhand_k73_boxes_grown.Holds := by
 w_on; o_law
 refine holds_open (q:=H73.vw) (loose:=H73.lo) (Xt:=H73.xt) (XP:=XL H73.vw []) (Yf:=(kHook H73.KK H73.ks H73.ke).obs) (Ya:=(kHook H73.KK H73.ks H73.ke).val) (YP:=(kHook H73.KK H73.ks H73.ke).says) H73.left
  (kHook H73.KK H73.ks H73.ke).of (kHook H73.KK H73.ks H73.ke).keeps
  (λs e=>xl_of s (Bool.and_eq_true_iff.mp e).1) XL.keeps (by rfl) (by rfl) (by rfl)
  (λs e=>recFacts_of (Bool.and_eq_true_iff.mp e).2) (by rfl) (by assumption) (by decide +kernel)
  ⟨rfl,rfl,rfl,rfl,rfl,by decide +kernel⟩ ?hw ?hc
 case hw=>w_witness2
 rename_i sd
 clear sd
 k_fill
 refine K73.walk (l:=PySem.Challenge.rw_steadyhand_k73_boxes_grown) (iT:=Pu.tbI 263 "least_place.<locals>.<lambda>" ⟨156,27,156,54⟩) (cC:=265) (Pt:=263) (λ_=>Iff.rfl) rfl rfl (λw h Y=>PySem.W.kIn_of Y) ?hrec ?htab ?hKP (λp a o=>K73.nolist (iT:=Pu.tbI 263 "least_place.<locals>.<lambda>" ⟨156,27,156,54⟩) (K:=H73.KK p) (by kernel_rfl) a o) ?F
 case hrec=>exact ⟨_,rfl⟩
 case htab=>intro w; first | rfl | kernel_rfl
 case hKP=>intro w; rfl
 case F=>
  intro w mg fa h KX G hmg
  refine' K73.all_mk (iT:=Pu.tbI 263 "least_place.<locals>.<lambda>" ⟨156,27,156,54⟩) (λ_=>Iff.rfl) KX G hmg ?g_Mode ?g_Thing ?_ ?_ ?_ ?_ ?_ ?_ ?_ ?_ ?_ ?_ ?_ ?_ ?_ ?_ ?_ ?_ ?_ ?_ ?_ ?_ ?_ ?_ ?_ ?_ ?_ ?_ ?_ ?_ ?_ ?_ ?_ ?_ ?_ ?_ ?_ ?_ ?_ ?_ ?_ ?_ ?_ ?_ ?_ ?_ ?_ ?_ ?_ ?_ ?_ ?_ ?_ ?_ ?_ ?_ ?_ ?_ ?_ ?_ ?_ ?_ ?_ ?_ ?_ ?_ ?_ ?_ ?_ ?_ ?_ ?_ ?_ ?_ ?_ ?_ ?_ ?_ ?_ ?_ ?_ ?_ ?_ ?_ ?_ ?_ ?_ ?_ ?_ ?_ ?_ ?_ ?_ ?_ ?_
  (case g_Mode=>refine' L2.Gc.mk ?a ?b ?c ?d ?e ?f ?g ?h ?i ?j ?k; (case a=>k_is); (case b=>k_is); (case c=>k_is); (case d=>k_is); (case e=>k_is); (case f=>k_is); (case g=>k_is); (case h=>k_is); (case i=>k_is); (case j=>k_is); (case k=>k_is))
  (case g_Thing=>refine' L2.Gc.mk ?a ?b ?c ?d ?e ?f ?g ?h ?i ?j ?k; (case a=>k_is); (case b=>k_is); (case c=>k_is); (case d=>k_is); (case e=>k_is); (case f=>k_is); (case g=>k_is); (case h=>k_is); (case i=>k_is); (case j=>k_is); (case k=>k_is))
  any_goals first | (refine' L2.Gc.mk ?a ?b ?c ?d ?e ?f ?g ?h ?i ?j ?k; (case a=>k_is); (case b=>k_is); (case c=>k_is); (case d=>k_is); (case e=>k_is); (case f=>k_is); (case g=>k_is); (case h=>k_is); (case i=>k_is); (case j=>k_is); (case k=>k_is)) | (refine' L2.Zx ?a ?l ?c ?k; (case a=>k_is); (case l=>k_is); (case c=>k_is); (case k=>k_is)) | (refine' K73.gq_mk ?a ?l ?c ?k; (case a=>k_is); (case l=>k_is); (case c=>k_is); (case k=>k_is)) | (refine' L2.Zy ?a ?i ?l ?c ?k; (case a=>k_is); (case i=>k_is); (case l=>k_is); (case c=>k_is); (case k=>k_is)) | (refine' L2.Zz ?a ?l ?c ?k ?d; (case a=>k_is); (case l=>k_is); (case c=>k_is); (case k=>k_is); (case d=>k_is)) | (refine' L2.Z3 ?a ?z ?l ?c ?k ?d; (case a=>k_is); (case z=>k_is); (case l=>k_is); (case c=>k_is); (case k=>k_is); (case d=>k_is)) | k_is
#print axioms PySem.Challenge.cw_steadyhand_k73_boxes_grown_holds
