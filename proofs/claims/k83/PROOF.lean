import PyProof.Rows.All
import Wide.All
import OpenK.AllK
import Wide.FinOn
import Lean
import PyProof.EqAt
import PyProof.EqKinds
import PyProof.TupleCall
import PyProof.ZipIter
import PyProof.Draws
import PyProof.EnumStmt
import PyProof.EnumMake
import PyProof.CallType
import PyProof.Rows.CallKwBuiltin
import PyProof.EnumIter
import PyProof.P3In
import PySem.Challenge.RW_steadyhand_k83_whole_the_foe_wins
set_option Elab.async false
set_option linter.all false
set_option maxRecDepth 100000
set_option maxHeartbeats 0
namespace TT
open PySem PySem.W
def runT (tb:String->Option Builtin) (p:Program) (w:World) (k:Nat) (an:Option Value):Nat->SharedT->Thread->Option SharedT
 | 0,_,_=>none
 | j + 1,x,t=>match through t with
  | true=>some x
  | false=>match stepOk k an t with
   | false=>none
   | true=>match stepT (denote tb) p w x t with
    | none=>none
    | some y=>runT tb p w k an j y.1 y.2
theorem U6 {tb:String->Option Builtin} {p:Program} {w:World} {k:Nat} {an:Option Value}:∀ (j:Nat) (x y:SharedT) (t:Thread),runT tb p w k an j x t=some y->topRun tb p w k an j x.abs t=some y.abs
 | 0,_,_,_,e=>by cases e
 | j + 1,x,y,t,e=>by
  unfold runT at e
  unfold topRun
  cases e1:through t with
  | true=>
   rw [e1] at e
   cases e
   rfl
  | false=>
   rw [e1] at e
   cases e2:stepOk k an t with
   | false=>rw [e2] at e; cases e
   | true=>
    rw [e2] at e
    cases e3:stepT (denote tb) p w x t with
    | none=>rw [e3] at e; cases e
    | some z=>
     rw [e3] at e
     rw [stepT_spec e3]
     exact U6 j z.1 y z.2 e
theorem left_is {p q:Program} {lo:List Str} {xt:Shared->Bool} {α:Type} {Yf:Shared->α} {Ya:World->α} {N k n0:Nat} {an:Option Value} {tr:Params->BT} (op:∀ w:World,(fencedOpening treeTable p w N).map (λs=>(s.heap,s.gens,s.drawn,s.toks))=some (boot_heap w.params,Array.mk [],boot_drawn,boot_toks))
  (et:∀ P:Params,absHeap (tr P) n0 (boot_heap P).life=boot_heap P) (z1:∀ P:Params,(boot_heap P).isNs mainGlobals=true) (z2:∀ P:Params,(boot_heap P).objs.size=k) (z3:∀ P:Params,(boot_heap P).nsMap mainGlobals "__annotations__" = an)
  (h:∀ (w:World) (os:OsState),(runT treeTable p w k an N ⟨tr w.params,n0,(boot_heap w.params).life,Array.mk [],boot_drawn,boot_toks,os⟩ (topStub p)).map (λs=>((staticsOk (importedModules p.main.body) (boot_heap w.params) s.abs.heap && namesBound p s.abs.heap && gensDone s.abs && laidKept (boot_heap w.params) s.abs.heap),openSeen q lo (importedModules p.main.body) xt true s.abs,Yf s.abs))=some (true,openGood q lo,Ya w)) :
  LeftO p q lo xt Yf Ya N:=λw=>by
 obtain ⟨⟨hp,gs,d,tk,os⟩,e,e'⟩:=Option.map_eq_some_iff.mp (op w)
 injection e' with a1 e'
 injection e' with a2 e'
 injection e' with a3 a4
 subst a1 a2 a3 a4
 obtain ⟨y,ey,eo⟩:=Option.map_eq_some_iff.mp (h w os)
 injection eo with l1 eo
 injection eo with l2 l3
 have r:=U6 _ _ _ _ ey
 have r':topRun treeTable p w k an N ⟨boot_heap w.params,Array.mk [],boot_drawn,boot_toks,os⟩ (topStub p)=some y.abs:=by
  rw [<- r]
  unfold SharedT.abs
  rw [et]
 have f:topFrom treeTable p w N ⟨boot_heap w.params,Array.mk [],boot_drawn,boot_toks,os⟩=some y.abs:=by
  unfold topFrom
  show (match (boot_heap w.params).isNs mainGlobals && true with | true=>_ | false=>_)=_
  rw [z1,z2,z3,r']
  show (match (_ && _ && _ && _) with | true=>_ | false=>_)=_
  rw [l1]
 unfold openEnds
 rw [e]
 show (topFrom treeTable p w N _).map _=_
 rw [f]
 exact congrArg some (Prod.ext l2 l3)
end TT
namespace H83
open PySem PySem.W
set_option maxRecDepth 100000
def hT (i:Nat):Stmt:=PySem.Challenge.pw_steadyhand_k83_whole_the_foe_wins.main.body.getD i (.Pass ⟨0,0,0,0⟩)
def hI (i j:Nat):Stmt:=match hT i with
 | .ClassDef _ _ _ b _ _ _ _ _ _ _=>b.getD j (.Pass ⟨0,0,0,0⟩)
 | s=>s
def hA:Stmt->Arguments
 | .FunctionDef _ a _ _ _ _ _ _ _ _=>a
 | _=>⟨[],[],none,[],[],none,[]⟩
def hB:Stmt->List Stmt
 | .FunctionDef _ _ b _ _ _ _ _ _ _=>b
 | _=>[]
def hC:Stmt->Scope
 | .FunctionDef _ _ _ _ _ _ c _ _ _=>c
 | _=>{ kind:=.function,names:=[],isGenerator:=false,isCoroutine:=false }
abbrev hS (s:String) (n:Nat):Value:=.str (Str.ofString s) n
abbrev hE (P:Params) (s:String) (n:Nat) (v:Value):DictEntry:=⟨PyData.keyHash P (Str.ofString s),hS s n,v⟩
abbrev hU (x:Array Value):Obj:={ cls:=.type "tuple",data:=.seq x }
abbrev hD (s:String) (a:Nat) (s2:String) (b c:Nat) (i j f:Int) (r1 r2:Nat) (u v t r:Value) (y z:Int) (d:Nat):Obj:={ cls:=.type "code",data:=.fields #[hS s a,hS s2 b,hS "/claim/cut.py" c,.int i 0,.int j 0,.int 0 0,.int 0 0,.int f 0,.ref r1,.bool true,.int 181 0,.ref r2,u,v,t,r,.int y 0,.int z 0,hS "/claim/cut.py" d] }
abbrev hF (n q:String) (s:Stmt) (d k:Value) (m:String) (j c:Nat):Obj:={ cls:=.type "function",data:=.func { name:=n,qualname:=q,params:=hA s,body:=.stmts (hB s),scope:=hC s,globals:=3,closure:=[],defaults:=d,kwdefaults:=k,pyModule:=hS m j,code:=.ref c } }
noncomputable def KK:Params->Frag:=λP=>
 (nat_lit 2,{ cls:=.none,data:=.dict #[] })::(nat_lit 3,{ cls:=.type "dict",data:=.dict #[hE P "__name__" 165 (hS "law_steadyhand_k83_whole_the_foe_wins" 693),hE P "__doc__" 166 (.none),hE P "__package__" 167 (.none),hE P "__loader__" 168 (.builtin "__main__.__loader__#opaque"),hE P "__spec__" 169 (.none),hE P "__annotations__" 170 (.ref 6),hE P "__builtins__" 171 (.ref 4),hE P "__file__" 173 (hS "/claim/cut.py" 172),hE P "__cached__" 174 (.none),hE P "_wall" 193 (.ref 21),hE P "SteadyError" 213 (.ref 31),hE P "NoNumber" 229 (.ref 44),hE P "BadThing" 245 (.ref 56),hE P "TooMany" 261 (.ref 68),hE P "NotPlain" 277 (.ref 80),hE P "is_whole" 286 (.ref 89),hE P "common_divisor" 297 (.ref 96),hE P "fraction" 307 (.ref 104),hE P "under" 315 (.ref 111),hE P "is_numbers" 323 (.ref 116),hE P "is_table" 329 (.ref 121),hE P "copied" 336 (.ref 127),hE P "unit" 343 (.ref 133),hE P "mixed" 349 (.ref 138),hE P "paired" 355 (.ref 143),hE P "added_up" 361 (.ref 148),hE P "is_row" 369 (.ref 153),hE P "is_room" 375 (.ref 158),hE P "single" 385 (.ref 165),hE P "raw_sum" 397 (.ref 172),hE P "divided_sum" 408 (.ref 179),hE P "holds" 417 (.ref 186),hE P "lies_in" 423 (.ref 191),hE P "direction" 429 (.ref 196),hE P "tidied" 435 (.ref 201),hE P "bounded" 441 (.ref 206),hE P "reach" 454 (.ref 213),hE P "worst_pushes" 460 (.ref 218),hE P "without_pushes" 468 (.ref 225),hE P "point_behind" 476 (.ref 230),hE P "number_behind" 489 (.ref 237),hE P "MOST_NUMBERS" 493 (.int 3 492),hE P "MOST_PUSHES" 495 (.int 6 494),hE P "MOST_MODES" 497 (.int 40 496),hE P "Mode" 536 (.ref 254),hE P "Thing" 597 (.ref 303),hE P "is_sound" 603 (.ref 312),hE P "is_push" 610 (.ref 319),hE P "is_mode" 619 (.ref 326),hE P "ask_plain" 626 (.ref 333),hE P "MOST_ROWS" 630 (.int 60 629),hE P "held_rooms" 643 (.ref 340),hE P "counted" 650 (.ref 347),hE P "steering_rows" 664 (.ref 354),hE P "without_steering" 670 (.ref 359),hE P "holder" 686 (.ref 366),hE P "foe" 692 (.ref 371),hE P "_law_cell_at" 702 (.ref 378),hE P "_law_stream" 714 (.ref 385),hE P "_law_divisor" 722 (.ref 392),hE P "_law_lowest" 731 (.ref 399),hE P "_law_plus" 739 (.ref 406),hE P "_law_along" 750 (.ref 413),hE P "_law_holds" 759 (.ref 420),hE P "_law_lies" 765 (.ref 425),hE P "_law_number" 773 (.ref 432),hE P "_law_mode" 779 (.ref 437),hE P "_law_thing" 795 (.ref 444),hE P "_law_made" 801 (.ref 449),hE P "_law_box" 814 (.ref 456),hE P "_law_rows" 820 (.ref 461),hE P "_law_point" 835 (.ref 468),hE P "_law_behind" 854 (.ref 475),hE P "_law_safe" 860 (.ref 480),hE P "_law_game" 866 (.ref 485),hE P "_law_near" 872 (.ref 490),hE P "_law_rooms" 884 (.ref 497),hE P "_law_corners" 890 (.ref 502),hE P "_law_best" 902 (.ref 509),hE P "_law_right_pushes" 912 (.ref 516),hE P "law" 931 (.ref 523)] 81 })::(nat_lit 15,hU #[])::(nat_lit 17,hU #[hS "k" 190])::(nat_lit 18,hU #[])::(nat_lit 20,hD "_wall" 187 "_wall" 188 189 1 1 3 15 16 .none (.ref 17) (.ref 18) (.ref 19) 191 1 192)::(nat_lit 21,hF "_wall" "_wall" (hT 0) .none .none "__main__" 164 20)::(nat_lit 22,hU #[.type "ValueError"])::(nat_lit 29,hU #[])::(nat_lit 30,{ cls:=.type "dict",data:=.dict #[hE P "__module__" 203 (hS "steadyhand.errors" 194),hE P "__firstlineno__" 207 (.int 5 206),hE P "__static_attributes__" 208 (.ref 29),hE P "__weakref__" 210 (.ref 32),hE P "__doc__" 211 (.none)] 3 })::(nat_lit 31,{ cls:=.type "type",data:=.cls { name:="SteadyError",bases:=[.type "ValueError"],mro:=[.ref 31,.type "ValueError",.type "Exception",.type "BaseException",.type "object"],ns:=30,qualname:="SteadyError",subclasses:=[.ref 44,.ref 56,.ref 68,.ref 80] },slots:=#[some (.ref 22),none,some (hS "SteadyError" 196),some (hS "SteadyError" 204),some (.builtin "ValueError.__new__"),some (.bool true)] })::(nat_lit 32,{ cls:=.type "getset_descriptor",data:=.fields #[hS "__weakref__" 209,.ref 31,.builtin "ExceptionGroup.__weakref__",.none] })::(nat_lit 35,hU #[.ref 31])::(nat_lit 42,hU #[])::(nat_lit 43,{ cls:=.type "dict",data:=.dict #[hE P "__module__" 221 (hS "steadyhand.errors" 194),hE P "__firstlineno__" 225 (.int 7 224),hE P "__static_attributes__" 226 (.ref 42),hE P "__doc__" 227 (.none)] 2 })::(nat_lit 44,{ cls:=.type "type",data:=.cls { name:="NoNumber",bases:=[.ref 31],mro:=[.ref 44,.ref 31,.type "ValueError",.type "Exception",.type "BaseException",.type "object"],ns:=43,qualname:="NoNumber" },slots:=#[some (.ref 35),none,some (hS "NoNumber" 214),some (hS "NoNumber" 222),some (.builtin "ValueError.__new__"),some (.bool true)] })::(nat_lit 47,hU #[.ref 31])::(nat_lit 54,hU #[])::(nat_lit 55,{ cls:=.type "dict",data:=.dict #[hE P "__module__" 237 (hS "steadyhand.errors" 194),hE P "__firstlineno__" 241 (.int 9 240),hE P "__static_attributes__" 242 (.ref 54),hE P "__doc__" 243 (.none)] 2 })::(nat_lit 56,{ cls:=.type "type",data:=.cls { name:="BadThing",bases:=[.ref 31],mro:=[.ref 56,.ref 31,.type "ValueError",.type "Exception",.type "BaseException",.type "object"],ns:=55,qualname:="BadThing" },slots:=#[some (.ref 47),none,some (hS "BadThing" 230),some (hS "BadThing" 238),some (.builtin "ValueError.__new__"),some (.bool true)] })::(nat_lit 59,hU #[.ref 31])::(nat_lit 66,hU #[])::(nat_lit 67,{ cls:=.type "dict",data:=.dict #[hE P "__module__" 253 (hS "steadyhand.errors" 194),hE P "__firstlineno__" 257 (.int 11 256),hE P "__static_attributes__" 258 (.ref 66),hE P "__doc__" 259 (.none)] 2 })::(nat_lit 68,{ cls:=.type "type",data:=.cls { name:="TooMany",bases:=[.ref 31],mro:=[.ref 68,.ref 31,.type "ValueError",.type "Exception",.type "BaseException",.type "object"],ns:=67,qualname:="TooMany" },slots:=#[some (.ref 59),none,some (hS "TooMany" 246),some (hS "TooMany" 254),some (.builtin "ValueError.__new__"),some (.bool true)] })::(nat_lit 71,hU #[.ref 31])::(nat_lit 78,hU #[])::(nat_lit 79,{ cls:=.type "dict",data:=.dict #[hE P "__module__" 269 (hS "steadyhand.errors" 194),hE P "__firstlineno__" 273 (.int 13 272),hE P "__static_attributes__" 274 (.ref 78),hE P "__doc__" 275 (.none)] 2 })::(nat_lit 80,{ cls:=.type "type",data:=.cls { name:="NotPlain",bases:=[.ref 31],mro:=[.ref 80,.ref 31,.type "ValueError",.type "Exception",.type "BaseException",.type "object"],ns:=79,qualname:="NotPlain" },slots:=#[some (.ref 71),none,some (hS "NotPlain" 262),some (hS "NotPlain" 270),some (.builtin "ValueError.__new__"),some (.bool true)] })::(nat_lit 83,hU #[])::(nat_lit 85,hU #[hS "thing" 283])::(nat_lit 86,hU #[])::(nat_lit 88,hD "is_whole" 280 "is_whole" 281 282 16 1 3 83 84 .none (.ref 85) (.ref 86) (.ref 87) 284 16 285)::(nat_lit 89,hF "is_whole" "is_whole" (hT 8) .none .none "steadyhand.fractions" 278 88)::(nat_lit 90,hU #[])::(nat_lit 92,hU #[hS "numbers" 290,hS "common" 291,hS "number" 292,hS "rest" 293,hS "left" 294])::(nat_lit 93,hU #[])::(nat_lit 95,hD "common_divisor" 287 "common_divisor" 288 289 18 1 3 90 91 .none (.ref 92) (.ref 93) (.ref 94) 295 18 296)::(nat_lit 96,hF "common_divisor" "common_divisor" (hT 9) .none .none "steadyhand.fractions" 278 95)::(nat_lit 97,hU #[.int 1 298])::(nat_lit 98,hU #[])::(nat_lit 100,hU #[hS "top" 302,hS "bottom" 303,hS "common" 304])::(nat_lit 101,hU #[])::(nat_lit 103,hD "fraction" 299 "fraction" 300 301 27 2 3 98 99 .none (.ref 100) (.ref 101) (.ref 102) 305 27 306)::(nat_lit 104,hF "fraction" "fraction" (hT 10) (.ref 97) .none "steadyhand.fractions" 278 103)::(nat_lit 105,hU #[])::(nat_lit 107,hU #[hS "one" 311,hS "other" 312])::(nat_lit 108,hU #[])::(nat_lit 110,hD "under" 308 "under" 309 310 36 2 3 105 106 .none (.ref 107) (.ref 108) (.ref 109) 313 36 314)::(nat_lit 111,hF "under" "under" (hT 11) .none .none "steadyhand.fractions" 278 110)::(nat_lit 112,hU #[])::(nat_lit 115,hD "is_numbers" 318 "is_numbers" 319 320 39 2 3 112 113 .none .none .none (.ref 114) 321 39 322)::(nat_lit 116,hF "is_numbers" "is_numbers" (hT 13) .none .none "steadyhand.tables" 316 115)::(nat_lit 117,hU #[])::(nat_lit 120,hD "is_table" 324 "is_table" 325 326 41 3 3 117 118 .none .none .none (.ref 119) 327 41 328)::(nat_lit 121,hF "is_table" "is_table" (hT 14) .none .none "steadyhand.tables" 316 120)::(nat_lit 122,hU #[.int 5 330])::(nat_lit 123,hU #[])::(nat_lit 126,hD "copied" 331 "copied" 332 333 43 2 3 123 124 .none .none .none (.ref 125) 334 43 335)::(nat_lit 127,hF "copied" "copied" (hT 15) (.ref 122) .none "steadyhand.tables" 316 126)::(nat_lit 128,hU #[.int 1 337])::(nat_lit 129,hU #[])::(nat_lit 132,hD "unit" 338 "unit" 339 340 51 3 3 129 130 .none .none .none (.ref 131) 341 51 342)::(nat_lit 133,hF "unit" "unit" (hT 16) (.ref 128) .none "steadyhand.tables" 316 132)::(nat_lit 134,hU #[])::(nat_lit 137,hD "mixed" 344 "mixed" 345 346 53 4 3 134 135 .none .none .none (.ref 136) 347 53 348)::(nat_lit 138,hF "mixed" "mixed" (hT 17) .none .none "steadyhand.tables" 316 137)::(nat_lit 139,hU #[])::(nat_lit 142,hD "paired" 350 "paired" 351 352 55 2 3 139 140 .none .none .none (.ref 141) 353 55 354)::(nat_lit 143,hF "paired" "paired" (hT 18) .none .none "steadyhand.tables" 316 142)::(nat_lit 144,hU #[])::(nat_lit 147,hD "added_up" 356 "added_up" 357 358 57 3 3 144 145 .none .none .none (.ref 146) 359 57 360)::(nat_lit 148,hF "added_up" "added_up" (hT 19) .none .none "steadyhand.tables" 316 147)::(nat_lit 149,hU #[])::(nat_lit 152,hD "is_row" 364 "is_row" 365 366 60 2 3 149 150 .none .none .none (.ref 151) 367 60 368)::(nat_lit 153,hF "is_row" "is_row" (hT 21) .none .none "steadyhand.rows" 362 152)::(nat_lit 154,hU #[])::(nat_lit 157,hD "is_room" 370 "is_room" 371 372 62 2 3 154 155 .none .none .none (.ref 156) 373 62 374)::(nat_lit 158,hF "is_room" "is_room" (hT 22) .none .none "steadyhand.rows" 362 157)::(nat_lit 159,hU #[])::(nat_lit 161,hU #[hS "place" 379,hS "many" 380,hS "number" 381,hS "bound" 382])::(nat_lit 162,hU #[])::(nat_lit 164,hD "single" 376 "single" 377 378 64 4 3 159 160 .none (.ref 161) (.ref 162) (.ref 163) 383 64 384)::(nat_lit 165,hF "single" "single" (hT 23) .none .none "steadyhand.rows" 362 164)::(nat_lit 166,hU #[])::(nat_lit 168,hU #[hS "numbers" 389,hS "point" 390,hS "top" 391,hS "bottom" 392,hS "number" 393,hS "part" 394])::(nat_lit 169,hU #[])::(nat_lit 171,hD "raw_sum" 386 "raw_sum" 387 388 66 2 3 166 167 .none (.ref 168) (.ref 169) (.ref 170) 395 66 396)::(nat_lit 172,hF "raw_sum" "raw_sum" (hT 24) .none .none "steadyhand.rows" 362 171)::(nat_lit 173,hU #[])::(nat_lit 175,hU #[hS "numbers" 401,hS "point" 402,hS "add" 403,hS "divisor" 404,hS "total" 405])::(nat_lit 176,hU #[])::(nat_lit 178,hD "divided_sum" 398 "divided_sum" 399 400 73 4 3 173 174 .none (.ref 175) (.ref 176) (.ref 177) 406 73 407)::(nat_lit 179,hF "divided_sum" "divided_sum" (hT 25) .none .none "steadyhand.rows" 362 178)::(nat_lit 180,hU #[])::(nat_lit 182,hU #[hS "row" 412,hS "point" 413,hS "total" 414])::(nat_lit 183,hU #[])::(nat_lit 185,hD "holds" 409 "holds" 410 411 76 2 3 180 181 .none (.ref 182) (.ref 183) (.ref 184) 415 76 416)::(nat_lit 186,hF "holds" "holds" (hT 26) .none .none "steadyhand.rows" 362 185)::(nat_lit 187,hU #[])::(nat_lit 190,hD "lies_in" 418 "lies_in" 419 420 79 2 3 187 188 .none .none .none (.ref 189) 421 79 422)::(nat_lit 191,hF "lies_in" "lies_in" (hT 27) .none .none "steadyhand.rows" 362 190)::(nat_lit 192,hU #[])::(nat_lit 195,hD "direction" 424 "direction" 425 426 81 1 3 192 193 .none .none .none (.ref 194) 427 81 428)::(nat_lit 196,hF "direction" "direction" (hT 28) .none .none "steadyhand.rows" 362 195)::(nat_lit 197,hU #[])::(nat_lit 200,hD "tidied" 430 "tidied" 431 432 86 1 3 197 198 .none .none .none (.ref 199) 433 86 434)::(nat_lit 201,hF "tidied" "tidied" (hT 29) .none .none "steadyhand.rows" 362 200)::(nat_lit 202,hU #[])::(nat_lit 205,hD "bounded" 436 "bounded" 437 438 99 2 3 202 203 .none .none .none (.ref 204) 439 99 440)::(nat_lit 206,hF "bounded" "bounded" (hT 30) .none .none "steadyhand.rows" 362 205)::(nat_lit 207,hU #[])::(nat_lit 209,hU #[hS "thing" 447,hS "mode" 448,hS "row" 449,hS "numbers" 450,hS "ahead" 451])::(nat_lit 210,hU #[])::(nat_lit 212,hD "reach" 444 "reach" 445 446 102 3 3 207 208 .none (.ref 209) (.ref 210) (.ref 211) 452 102 453)::(nat_lit 213,hF "reach" "reach" (hT 32) .none .none "steadyhand.reach" 442 212)::(nat_lit 214,hU #[])::(nat_lit 217,hD "worst_pushes" 455 "worst_pushes" 456 457 106 2 3 214 215 .none .none .none (.ref 216) 458 106 459)::(nat_lit 218,hF "worst_pushes" "worst_pushes" (hT 33) .none .none "steadyhand.reach" 442 217)::(nat_lit 219,hU #[])::(nat_lit 221,hU #[hS "thing" 464,hS "row" 465])::(nat_lit 222,hU #[])::(nat_lit 224,hD "without_pushes" 461 "without_pushes" 462 463 108 2 3 219 220 .none (.ref 221) (.ref 222) (.ref 223) 466 108 467)::(nat_lit 225,hF "without_pushes" "without_pushes" (hT 34) .none .none "steadyhand.reach" 442 224)::(nat_lit 226,hU #[])::(nat_lit 229,hD "point_behind" 471 "point_behind" 472 473 111 4 3 226 227 .none .none .none (.ref 228) 474 111 475)::(nat_lit 230,hF "point_behind" "point_behind" (hT 36) .none .none "steadyhand.runs" 469 229)::(nat_lit 231,hU #[])::(nat_lit 233,hU #[hS "mode" 480,hS "place" 481,hS "point" 482,hS "steering" 483,hS "pushes" 484,hS "numbers" 485,hS "values" 486])::(nat_lit 234,hU #[])::(nat_lit 236,hD "number_behind" 477 "number_behind" 478 479 113 5 3 231 232 .none (.ref 233) (.ref 234) (.ref 235) 487 113 488)::(nat_lit 237,hF "number_behind" "number_behind" (hT 37) .none .none "steadyhand.runs" 469 236)::(nat_lit 245,hU #[])::(nat_lit 247,hU #[hS "self" 513,hS "rows" 514,hS "nexts" 515,hS "steer" 516,hS "push" 517,hS "add" 518,hS "divisor" 519])::(nat_lit 248,hU #[])::(nat_lit 250,hD "__init__" 510 "Mode.__init__" 511 512 126 7 3 245 246 .none (.ref 247) (.ref 248) (.ref 249) 520 126 521)::(nat_lit 251,hF "__init__" "Mode.__init__" (hI 42 0) .none .none "steadyhand.things" 490 250)::(nat_lit 252,hU #[hS "add" 523,hS "divisor" 524,hS "nexts" 525,hS "push" 526,hS "rows" 527,hS "steer" 528])::(nat_lit 253,{ cls:=.type "dict",data:=.dict #[hE P "__module__" 505 (hS "steadyhand.things" 490),hE P "__firstlineno__" 509 (.int 124 508),hE P "__init__" 522 (.ref 251),hE P "__static_attributes__" 529 (.ref 252),hE P "__dict__" 531 (.ref 255),hE P "__weakref__" 533 (.ref 256),hE P "__doc__" 534 (.none)] 4 })::(nat_lit 254,{ cls:=.type "type",data:=.cls { name:="Mode",bases:=[.type "object"],mro:=[.ref 254,.type "object"],ns:=253,qualname:="Mode" },slots:=#[none,none,some (hS "Mode" 498),some (hS "Mode" 506),some (.builtin "object.__new__"),some (.bool true)] })::(nat_lit 255,{ cls:=.type "getset_descriptor",data:=.fields #[hS "__dict__" 530,.ref 254,.builtin "function.__dict__",.builtin "function.__dict__#set"] })::(nat_lit 256,{ cls:=.type "getset_descriptor",data:=.fields #[hS "__weakref__" 532,.ref 254,.builtin "ExceptionGroup.__weakref__",.none] })::(nat_lit 266,hU #[])::(nat_lit 268,hU #[hS "self" 552,hS "many" 553,hS "pushes" 554,hS "modes" 555])::(nat_lit 269,hU #[])::(nat_lit 271,hD "__init__" 549 "Thing.__init__" 550 551 135 4 3 266 267 .none (.ref 268) (.ref 269) (.ref 270) 556 135 557)::(nat_lit 272,hF "__init__" "Thing.__init__" (hI 43 0) .none .none "steadyhand.things" 490 271)::(nat_lit 273,hU #[])::(nat_lit 275,hU #[hS "self" 562])::(nat_lit 276,hU #[])::(nat_lit 278,hD "pushes" 559 "Thing.pushes" 560 561 144 1 3 273 274 .none (.ref 275) (.ref 276) (.ref 277) 563 144 564)::(nat_lit 279,hF "pushes" "Thing.pushes" (hI 43 1) .none .none "steadyhand.things" 490 278)::(nat_lit 280,hU #[])::(nat_lit 282,hU #[hS "self" 569])::(nat_lit 283,hU #[])::(nat_lit 285,hD "modes" 566 "Thing.modes" 567 568 147 1 3 280 281 .none (.ref 282) (.ref 283) (.ref 284) 570 147 571)::(nat_lit 286,hF "modes" "Thing.modes" (hI 43 2) .none .none "steadyhand.things" 490 285)::(nat_lit 287,hU #[])::(nat_lit 289,hU #[hS "self" 576])::(nat_lit 290,hU #[])::(nat_lit 292,hD "is_closed" 573 "Thing.is_closed" 574 575 150 1 3 287 288 .none (.ref 289) (.ref 290) (.ref 291) 577 150 578)::(nat_lit 293,hF "is_closed" "Thing.is_closed" (hI 43 3) .none .none "steadyhand.things" 490 292)::(nat_lit 294,hU #[])::(nat_lit 296,hU #[hS "self" 583])::(nat_lit 297,hU #[])::(nat_lit 299,hD "is_plain" 580 "Thing.is_plain" 581 582 153 1 3 294 295 .none (.ref 296) (.ref 297) (.ref 298) 584 153 585)::(nat_lit 300,hF "is_plain" "Thing.is_plain" (hI 43 4) .none .none "steadyhand.things" 490 299)::(nat_lit 301,hU #[hS "kept_modes" 587,hS "kept_pushes" 588,hS "many" 589])::(nat_lit 302,{ cls:=.type "dict",data:=.dict #[hE P "__module__" 544 (hS "steadyhand.things" 490),hE P "__firstlineno__" 548 (.int 133 547),hE P "__init__" 558 (.ref 272),hE P "pushes" 565 (.ref 279),hE P "modes" 572 (.ref 286),hE P "is_closed" 579 (.ref 293),hE P "is_plain" 586 (.ref 300),hE P "__static_attributes__" 590 (.ref 301),hE P "__dict__" 592 (.ref 304),hE P "__weakref__" 594 (.ref 305),hE P "__doc__" 595 (.none)] 4 })::(nat_lit 303,{ cls:=.type "type",data:=.cls { name:="Thing",bases:=[.type "object"],mro:=[.ref 303,.type "object"],ns:=302,qualname:="Thing" },slots:=#[none,none,some (hS "Thing" 537),some (hS "Thing" 545),some (.builtin "object.__new__"),some (.bool true)] })::(nat_lit 304,{ cls:=.type "getset_descriptor",data:=.fields #[hS "__dict__" 591,.ref 303,.builtin "function.__dict__",.builtin "function.__dict__#set"] })::(nat_lit 305,{ cls:=.type "getset_descriptor",data:=.fields #[hS "__weakref__" 593,.ref 303,.builtin "ExceptionGroup.__weakref__",.none] })::(nat_lit 308,hU #[])::(nat_lit 311,hD "is_sound" 598 "is_sound" 599 600 155 3 3 308 309 .none .none .none (.ref 310) 601 155 602)::(nat_lit 312,hF "is_sound" "is_sound" (hT 44) .none .none "steadyhand.things" 490 311)::(nat_lit 313,hU #[])::(nat_lit 315,hU #[hS "value" 607])::(nat_lit 316,hU #[])::(nat_lit 318,hD "is_push" 604 "is_push" 605 606 163 1 3 313 314 .none (.ref 315) (.ref 316) (.ref 317) 608 163 609)::(nat_lit 319,hF "is_push" "is_push" (hT 45) .none .none "steadyhand.things" 490 318)::(nat_lit 320,hU #[])::(nat_lit 322,hU #[hS "value" 614,hS "many" 615,hS "wide" 616])::(nat_lit 323,hU #[])::(nat_lit 325,hD "is_mode" 611 "is_mode" 612 613 167 3 3 320 321 .none (.ref 322) (.ref 323) (.ref 324) 617 167 618)::(nat_lit 326,hF "is_mode" "is_mode" (hT 46) .none .none "steadyhand.things" 490 325)::(nat_lit 327,hU #[])::(nat_lit 329,hU #[hS "thing" 623])::(nat_lit 330,hU #[])::(nat_lit 332,hD "ask_plain" 620 "ask_plain" 621 622 175 1 3 327 328 .none (.ref 329) (.ref 330) (.ref 331) 624 175 625)::(nat_lit 333,hF "ask_plain" "ask_plain" (hT 47) .none .none "steadyhand.things" 490 332)::(nat_lit 334,hU #[])::(nat_lit 336,hU #[hS "thing" 634,hS "safe" 635,hS "low" 636,hS "high" 637,hS "turns" 638,hS "rooms" 639,hS "turn" 640])::(nat_lit 337,hU #[])::(nat_lit 339,hD "held_rooms" 631 "held_rooms" 632 633 180 5 3 334 335 .none (.ref 336) (.ref 337) (.ref 338) 641 180 642)::(nat_lit 340,hF "held_rooms" "held_rooms" (hT 50) .none .none "steadyhand.games" 627 339)::(nat_lit 341,hU #[])::(nat_lit 343,hU #[hS "room" 647])::(nat_lit 344,hU #[])::(nat_lit 346,hD "counted" 644 "counted" 645 646 186 1 3 341 342 .none (.ref 343) (.ref 344) (.ref 345) 648 186 649)::(nat_lit 347,hF "counted" "counted" (hT 51) .none .none "steadyhand.games" 627 346)::(nat_lit 348,hU #[])::(nat_lit 350,hU #[hS "thing" 654,hS "room" 655,hS "low" 656,hS "high" 657,hS "mode" 658,hS "told" 659,hS "row" 660,hS "ahead" 661])::(nat_lit 351,hU #[])::(nat_lit 353,hD "steering_rows" 651 "steering_rows" 652 653 190 4 3 348 349 .none (.ref 350) (.ref 351) (.ref 352) 662 190 663)::(nat_lit 354,hF "steering_rows" "steering_rows" (hT 52) .none .none "steadyhand.games" 627 353)::(nat_lit 355,hU #[])::(nat_lit 358,hD "without_steering" 665 "without_steering" 666 667 197 1 3 355 356 .none .none .none (.ref 357) 668 197 669)::(nat_lit 359,hF "without_steering" "without_steering" (hT 53) .none .none "steadyhand.games" 627 358)::(nat_lit 360,hU #[])::(nat_lit 362,hU #[hS "thing" 674,hS "safe" 675,hS "low" 676,hS "high" 677,hS "turns" 678,hS "point" 679,hS "rooms" 680,hS "steering" 681,hS "row" 682,hS "bound" 683])::(nat_lit 363,hU #[])::(nat_lit 365,hD "holder" 671 "holder" 672 673 206 6 3 360 361 .none (.ref 362) (.ref 363) (.ref 364) 684 206 685)::(nat_lit 366,hF "holder" "holder" (hT 54) .none .none "steadyhand.games" 627 365)::(nat_lit 367,hU #[])::(nat_lit 370,hD "foe" 687 "foe" 688 689 217 7 3 367 368 .none .none .none (.ref 369) 690 217 691)::(nat_lit 371,hF "foe" "foe" (hT 55) .none .none "steadyhand.games" 627 370)::(nat_lit 372,hU #[])::(nat_lit 374,hU #[hS "_law_script" 698,hS "_law_k" 699])::(nat_lit 375,hU #[])::(nat_lit 377,hD "_law_cell_at" 695 "_law_cell_at" 696 697 226 2 3 372 373 .none (.ref 374) (.ref 375) (.ref 376) 700 226 701)::(nat_lit 378,hF "_law_cell_at" "_law_cell_at" (hT 57) .none .none "law_steadyhand_k83_whole_the_foe_wins" 693 377)::(nat_lit 379,hU #[])::(nat_lit 381,hU #[hS "_law_cell" 706,hS "_law_many" 707,hS "_law_found" 708,hS "_law_rest" 709,hS "_law_k" 710,hS "_law_number_here" 711])::(nat_lit 382,hU #[])::(nat_lit 384,hD "_law_stream" 703 "_law_stream" 704 705 230 2 3 379 380 .none (.ref 381) (.ref 382) (.ref 383) 712 230 713)::(nat_lit 385,hF "_law_stream" "_law_stream" (hT 58) .none .none "law_steadyhand_k83_whole_the_foe_wins" 693 384)::(nat_lit 386,hU #[])::(nat_lit 388,hU #[hS "_law_one" 718,hS "_law_other" 719])::(nat_lit 389,hU #[])::(nat_lit 391,hD "_law_divisor" 715 "_law_divisor" 716 717 243 2 3 386 387 .none (.ref 388) (.ref 389) (.ref 390) 720 243 721)::(nat_lit 392,hF "_law_divisor" "_law_divisor" (hT 59) .none .none "law_steadyhand_k83_whole_the_foe_wins" 693 391)::(nat_lit 393,hU #[])::(nat_lit 395,hU #[hS "_law_top" 726,hS "_law_bottom" 727,hS "_law_share" 728])::(nat_lit 396,hU #[])::(nat_lit 398,hD "_law_lowest" 723 "_law_lowest" 724 725 247 2 3 393 394 .none (.ref 395) (.ref 396) (.ref 397) 729 247 730)::(nat_lit 399,hF "_law_lowest" "_law_lowest" (hT 60) .none .none "law_steadyhand_k83_whole_the_foe_wins" 693 398)::(nat_lit 400,hU #[])::(nat_lit 402,hU #[hS "_law_one" 735,hS "_law_other" 736])::(nat_lit 403,hU #[])::(nat_lit 405,hD "_law_plus" 732 "_law_plus" 733 734 250 2 3 400 401 .none (.ref 402) (.ref 403) (.ref 404) 737 250 738)::(nat_lit 406,hF "_law_plus" "_law_plus" (hT 61) .none .none "law_steadyhand_k83_whole_the_foe_wins" 693 405)::(nat_lit 407,hU #[])::(nat_lit 409,hU #[hS "_law_numbers" 743,hS "_law_values" 744,hS "_law_found" 745,hS "_law_number_here" 746,hS "_law_value" 747])::(nat_lit 410,hU #[])::(nat_lit 412,hD "_law_along" 740 "_law_along" 741 742 252 2 3 407 408 .none (.ref 409) (.ref 410) (.ref 411) 748 252 749)::(nat_lit 413,hF "_law_along" "_law_along" (hT 62) .none .none "law_steadyhand_k83_whole_the_foe_wins" 693 412)::(nat_lit 414,hU #[])::(nat_lit 416,hU #[hS "_law_row" 754,hS "_law_point_here" 755,hS "_law_value" 756])::(nat_lit 417,hU #[])::(nat_lit 419,hD "_law_holds" 751 "_law_holds" 752 753 257 2 3 414 415 .none (.ref 416) (.ref 417) (.ref 418) 757 257 758)::(nat_lit 420,hF "_law_holds" "_law_holds" (hT 63) .none .none "law_steadyhand_k83_whole_the_foe_wins" 693 419)::(nat_lit 421,hU #[])::(nat_lit 424,hD "_law_lies" 760 "_law_lies" 761 762 260 2 3 421 422 .none .none .none (.ref 423) 763 260 764)::(nat_lit 425,hF "_law_lies" "_law_lies" (hT 64) .none .none "law_steadyhand_k83_whole_the_foe_wins" 693 424)::(nat_lit 426,hU #[])::(nat_lit 428,hU #[hS "_law_x" 769,hS "_law_far" 770])::(nat_lit 429,hU #[])::(nat_lit 431,hD "_law_number" 766 "_law_number" 767 768 262 2 3 426 427 .none (.ref 428) (.ref 429) (.ref 430) 771 262 772)::(nat_lit 432,hF "_law_number" "_law_number" (hT 65) .none .none "law_steadyhand_k83_whole_the_foe_wins" 693 431)::(nat_lit 433,hU #[])::(nat_lit 436,hD "_law_mode" 774 "_law_mode" 775 776 264 5 3 433 434 .none .none .none (.ref 435) 777 264 778)::(nat_lit 437,hF "_law_mode" "_law_mode" (hT 66) .none .none "law_steadyhand_k83_whole_the_foe_wins" 693 436)::(nat_lit 438,hU #[])::(nat_lit 440,hU #[hS "_law_script" 783,hS "_law_first" 784,hS "_law_second" 785,hS "_law_unit" 786,hS "_law_many" 787,hS "_law_pushes" 788,hS "_law_k" 789,hS "_law_x" 790,hS "_law_modes" 791,hS "_law_cell" 792])::(nat_lit 441,hU #[])::(nat_lit 443,hD "_law_thing" 780 "_law_thing" 781 782 278 1 3 438 439 .none (.ref 440) (.ref 441) (.ref 442) 793 278 794)::(nat_lit 444,hF "_law_thing" "_law_thing" (hT 67) .none .none "law_steadyhand_k83_whole_the_foe_wins" 693 443)::(nat_lit 445,hU #[])::(nat_lit 448,hD "_law_made" 796 "_law_made" 797 798 292 1 3 445 446 .none .none .none (.ref 447) 799 292 800)::(nat_lit 449,hF "_law_made" "_law_made" (hT 68) .none .none "law_steadyhand_k83_whole_the_foe_wins" 693 448)::(nat_lit 450,hU #[])::(nat_lit 452,hU #[hS "_law_cell" 805,hS "_law_many" 806,hS "_law_unit" 807,hS "_law_xs" 808,hS "_law_box_here" 809,hS "_law_i" 810,hS "_law_low" 811])::(nat_lit 453,hU #[])::(nat_lit 455,hD "_law_box" 802 "_law_box" 803 804 299 3 3 450 451 .none (.ref 452) (.ref 453) (.ref 454) 812 299 813)::(nat_lit 456,hF "_law_box" "_law_box" (hT 69) .none .none "law_steadyhand_k83_whole_the_foe_wins" 693 455)::(nat_lit 457,hU #[])::(nat_lit 460,hD "_law_rows" 815 "_law_rows" 816 817 306 1 3 457 458 .none .none .none (.ref 459) 818 306 819)::(nat_lit 461,hF "_law_rows" "_law_rows" (hT 70) .none .none "law_steadyhand_k83_whole_the_foe_wins" 693 460)::(nat_lit 462,hU #[])::(nat_lit 464,hU #[hS "_law_cell" 824,hS "_law_box_here" 825,hS "_law_xs" 826,hS "_law_parts" 827,hS "_law_point_here" 828,hS "_law_k" 829,hS "_law_low" 830,hS "_law_high" 831,hS "_law_share" 832])::(nat_lit 465,hU #[])::(nat_lit 467,hD "_law_point" 821 "_law_point" 822 823 313 2 3 462 463 .none (.ref 464) (.ref 465) (.ref 466) 833 313 834)::(nat_lit 468,hF "_law_point" "_law_point" (hT 71) .none .none "law_steadyhand_k83_whole_the_foe_wins" 693 467)::(nat_lit 469,hU #[])::(nat_lit 471,hU #[hS "_law_mode_here" 839,hS "_law_point_here" 840,hS "_law_steering" 841,hS "_law_pushes" 842,hS "_law_rows_here" 843,hS "_law_nexts" 844,hS "_law_steer" 845,hS "_law_push" 846,hS "_law_add" 847,hS "_law_divisor_here" 848,hS "_law_found" 849,hS "_law_i" 850,hS "_law_value" 851])::(nat_lit 472,hU #[])::(nat_lit 474,hD "_law_behind" 836 "_law_behind" 837 838 322 4 3 469 470 .none (.ref 471) (.ref 472) (.ref 473) 852 322 853)::(nat_lit 475,hF "_law_behind" "_law_behind" (hT 72) .none .none "law_steadyhand_k83_whole_the_foe_wins" 693 474)::(nat_lit 476,hU #[])::(nat_lit 479,hD "_law_safe" 855 "_law_safe" 856 857 330 2 3 476 477 .none .none .none (.ref 478) 858 330 859)::(nat_lit 480,hF "_law_safe" "_law_safe" (hT 73) .none .none "law_steadyhand_k83_whole_the_foe_wins" 693 479)::(nat_lit 481,hU #[])::(nat_lit 484,hD "_law_game" 861 "_law_game" 862 863 339 1 3 481 482 .none .none .none (.ref 483) 864 339 865)::(nat_lit 485,hF "_law_game" "_law_game" (hT 74) .none .none "law_steadyhand_k83_whole_the_foe_wins" 693 484)::(nat_lit 486,hU #[])::(nat_lit 489,hD "_law_near" 867 "_law_near" 868 869 348 3 3 486 487 .none .none .none (.ref 488) 870 348 871)::(nat_lit 490,hF "_law_near" "_law_near" (hT 75) .none .none "law_steadyhand_k83_whole_the_foe_wins" 693 489)::(nat_lit 491,hU #[])::(nat_lit 493,hU #[hS "_law_thing_here" 876,hS "_law_safe_here" 877,hS "_law_low" 878,hS "_law_high" 879,hS "_law_turns" 880,hS "_law_found" 881])::(nat_lit 494,hU #[])::(nat_lit 496,hD "_law_rooms" 873 "_law_rooms" 874 875 361 5 3 491 492 .none (.ref 493) (.ref 494) (.ref 495) 882 361 883)::(nat_lit 497,hF "_law_rooms" "_law_rooms" (hT 76) .none .none "law_steadyhand_k83_whole_the_foe_wins" 693 496)::(nat_lit 498,hU #[])::(nat_lit 501,hD "_law_corners" 885 "_law_corners" 886 887 368 1 3 498 499 .none .none .none (.ref 500) 888 368 889)::(nat_lit 502,hF "_law_corners" "_law_corners" (hT 77) .none .none "law_steadyhand_k83_whole_the_foe_wins" 693 501)::(nat_lit 503,hU #[])::(nat_lit 505,hU #[hS "_law_spec" 894,hS "_law_room" 895,hS "_law_point_here" 896,hS "_law_steering" 897,hS "_law_found" 898,hS "_law_corner" 899])::(nat_lit 506,hU #[])::(nat_lit 508,hD "_law_best" 891 "_law_best" 892 893 373 5 3 503 504 .none (.ref 505) (.ref 506) (.ref 507) 900 373 901)::(nat_lit 509,hF "_law_best" "_law_best" (hT 78) .none .none "law_steadyhand_k83_whole_the_foe_wins" 693 508)::(nat_lit 510,hU #[])::(nat_lit 512,hU #[hS "_law_found" 906,hS "_law_pushes" 907,hS "_law_value" 908,hS "_law_bounds" 909])::(nat_lit 513,hU #[])::(nat_lit 515,hD "_law_right_pushes" 903 "_law_right_pushes" 904 905 382 2 3 510 511 .none (.ref 512) (.ref 513) (.ref 514) 910 382 911)::(nat_lit 516,hF "_law_right_pushes" "_law_right_pushes" (hT 79) .none .none "law_steadyhand_k83_whole_the_foe_wins" 693 515)::(nat_lit 517,hU #[])::(nat_lit 519,hU #[hS "_law_script" 916,hS "_law_spec" 917,hS "_law_safe_here" 918,hS "_law_low" 919,hS "_law_high" 920,hS "_law_turns" 921,hS "_law_thing_here" 922,hS "_law_rooms_here" 923,hS "_law_point_here" 924,hS "_law_held" 925,hS "_law_steering" 926,hS "_law_found" 927,hS "_law_turn" 928])::(nat_lit 520,hU #[])::(nat_lit 522,hD "law" 913 "law" 914 915 389 1 3 517 518 .none (.ref 519) (.ref 520) (.ref 521) 929 389 930)::(nat_lit 523,hF "law" "law" (hT 80) .none .none "law_steadyhand_k83_whole_the_foe_wins" 693 522) :: []
noncomputable def ks:List Addr:=[2,3,15,17,18,20,21,22,29,30,31,32,35,42,43,44,47,54,55,56,59,66,67,68,71,78,79,80,83,85,86,88,89,90,92,93,95,96,97,98,100,101,103,104,105,107,108,110,111,112,115,116,117,120,121,122,123,126,127,128,129,132,133,134,137,138,139,142,143,144,147,148,149,152,153,154,157,158,159,161,162,164,165,166,168,169,171,172,173,175,176,178,179,180,182,183,185,186,187,190,191,192,195,196,197,200,201,202,205,206,207,209,210,212,213,214,217,218,219,221,222,224,225,226,229,230,231,233,234,236,237,245,247,248,250,251,252,253,254,255,256,266,268,269,271,272,273,275,276,278,279,280,282,283,285,286,287,289,290,292,293,294,296,297,299,300,301,302,303,304,305,308,311,312,313,315,316,318,319,320,322,323,325,326,327,329,330,332,333,334,336,337,339,340,341,343,344,346,347,348,350,351,353,354,355,358,359,360,362,363,365,366,367,370,371,372,374,375,377,378,379,381,382,384,385,386,388,389,391,392,393,395,396,398,399,400,402,403,405,406,407,409,410,412,413,414,416,417,419,420,421,424,425,426,428,429,431,432,433,436,437,438,440,441,443,444,445,448,449,450,452,453,455,456,457,460,461,462,464,465,467,468,469,471,472,474,475,476,479,480,481,484,485,486,489,490,491,493,494,496,497,498,501,502,503,505,506,508,509,510,512,513,515,516,517,519,520,522,523]
theorem ke:∀ P:Params,ks=(KK P).map (·.1):=λ_=>by
 kernel_rfl
noncomputable def vw:Program:={ PySem.Challenge.pw_steadyhand_k83_whole_the_foe_wins with main:={ PySem.Challenge.pw_steadyhand_k83_whole_the_foe_wins.main with body:=[hT 0,hT 2,hT 3,hT 4,hT 5,hT 6,hT 8,hT 9,hT 11,hT 13,hT 14,hT 17,hT 18,hT 19,hT 21,hT 22,hT 23,hT 24,hT 25,hT 26,hT 27,hT 28,hT 29,hT 30,hT 32,hT 33,hT 34,hT 36,hT 37,hT 39,hT 40,hT 41,hT 42,hT 43,hT 44,hT 45,hT 46,hT 47,hT 49,hT 50,hT 51,hT 52,hT 53,hT 54,hT 55,hT 57,hT 58,hT 59,hT 60,hT 61,hT 62,hT 63,hT 64,hT 65,hT 66,hT 67,hT 68,hT 69,hT 70,hT 71,hT 72,hT 73,hT 74,hT 75,hT 76,hT 77,hT 78,hT 79,hT 80] } }
noncomputable def lo:List Str:=[Str.ofString "fraction",Str.ofString "copied",Str.ofString "unit"]
abbrev rr:RowW:=(OpenLaw.row PySem.Challenge.rw_steadyhand_k83_whole_the_foe_wins).toRowW
noncomputable abbrev xt:Shared->Bool:=λs=>xlAt vw [] s && recOk rr.records s
noncomputable def bt:Params->BT:=λP=>(.node (boot_o_0 P) (.node (boot_o_1 P) (.node (boot_o_3 P) (.node (boot_o_7 P) .nil .nil) .nil) (.node (boot_o_5 P) (.node (boot_o_9 P) .nil .nil) .nil)) (.node (boot_o_2 P) (.node (boot_o_4 P) (.node (boot_o_8 P) .nil .nil) .nil) (.node (boot_o_6 P) (.node (boot_o_10 P) .nil .nil) .nil)))
noncomputable def lhs (T:Params->BT) (h:Params->Heap) (d:Drawn) (k:Nat) (w:World) (os:OsState):=(TT.runT treeTable PySem.Challenge.pw_steadyhand_k83_whole_the_foe_wins w 11 (some (.ref 6)) 7260 ⟨T w.params,11,(h w.params).life,Array.mk [],d,k,os⟩ (topStub PySem.Challenge.pw_steadyhand_k83_whole_the_foe_wins)).map (λs=>((staticsOk (importedModules PySem.Challenge.pw_steadyhand_k83_whole_the_foe_wins.main.body) (h w.params) s.abs.heap && namesBound PySem.Challenge.pw_steadyhand_k83_whole_the_foe_wins s.abs.heap && gensDone s.abs && laidKept (h w.params) s.abs.heap),openSeen vw lo (importedModules PySem.Challenge.pw_steadyhand_k83_whole_the_foe_wins.main.body) xt true s.abs,ks.map s.abs.heap.get?))
noncomputable def rhs (F:Params->Frag) (w:World) (_:OsState):=some (true,openGood vw lo,(F w.params).map λp=>some p.2)
lay_quick lhs rhs
theorem same (w:World) (os:OsState):PySem.W.Fast.tw15733355529017544124 bt boot_heap boot_drawn boot_toks w os=PySem.W.Fast.tw8926858202461291087 KK w os:=by
 kernel_rfl
theorem left:LeftO rr.prog vw lo xt (kHook KK ks ke).obs (kHook KK ks ke).val 7260:=
 TT.left_is (boot_open (by kernel_rfl) (by decide) (λ_=>by kernel_rfl)) (λ_=>by kernel_rfl) (λ_=>by kernel_rfl) (λ_=>by kernel_rfl) (λ_=>by kernel_rfl)
  λw os=>(congrArg (λf=>f bt boot_heap boot_drawn boot_toks w os) PySem.W.Fast.te15733355529017544124).trans ((same w os).trans (congrFun (congrFun (congrFun PySem.W.Fast.te8926858202461291087 KK) w) os).symm)
end H83
namespace L2
open PySem PySem.Spec PyProof.Rows
abbrev ye:=Sum Int Str
def qm:ye->Value->Bool
 | .inl k,v=>Value.isInt k v
 | .inr x,v=>Value.isStrOf x v
def Yp (w:World):ye->Int
 | .inl k=>hashInt k
 | .inr x=>hashStr w x
theorem jP:∀ {k:ye} {v:Value},qm k v=true->(∃ i t,k=Sum.inl i/\v=Value.int i t)\/(∃ x t,k=Sum.inr x/\v=Value.str x t)
 | .inl i,v,h=>by
  obtain ⟨t,e⟩:=Value.isInt_shape (k:=i) (v:=v) h
  exact .inl ⟨i,t,rfl,e⟩
 | .inr x,v,h=>by
  obtain ⟨t,e⟩:=Value.isStrOf_shape (x:=x) (v:=v) h
  exact .inr ⟨x,t,rfl,e⟩
theorem Ks (i:Int) (t:Tok):qm (.inl i) (.int i t)=true:=by simp [qm,Value.isInt]
theorem Kt (x:Str) (t:Tok):qm (.inr x) (.str x t)=true:=by simp [qm,Value.isStrOf]
theorem Ku (a b:Int):decide ((Sum.inl a:ye)=Sum.inl b)=(a == b):=by
 by_cases e:a=b
 ·subst e; simp
 ·have h:¬ (Sum.inl a:ye)=Sum.inl b:=λq=>e (Sum.inl.inj q)
  rw [decide_eq_false h]
  exact (beq_eq_false_iff_ne.mpr e).symm
theorem Kv (a b:Str):decide ((Sum.inr a:ye)=Sum.inr b)=decide (a=b):=by
 by_cases e:a=b
 ·subst e; simp
 ·have h:¬ (Sum.inr a:ye)=Sum.inr b:=λq=>e (Sum.inr.inj q)
  rw [decide_eq_false h,decide_eq_false e]
theorem Kw (a:Int) (b:Str):decide ((Sum.inl a:ye)=Sum.inr b)=false:=decide_eq_false (λq=>nomatch q)
theorem Kx (a:Str) (b:Int):decide ((Sum.inr a:ye)=Sum.inl b)=false:=decide_eq_false (λq=>nomatch q)
def uD (prog:Program) (w:World):PySem.KeyKind prog w ye where
 is:=qm
 hash:=Yp w
 inj:=λv a b ha hb=>by
  rcases jP ha with ⟨i,t,rfl,rfl⟩ | ⟨x,t,rfl,rfl⟩
  ·rcases jP hb with ⟨j,u,rfl,e⟩ | ⟨y,u,rfl,e⟩
   ·injection e with e1 _; rw [e1]
   ·exact nomatch e
  ·rcases jP hb with ⟨j,u,rfl,e⟩ | ⟨y,u,rfl,e⟩
   ·exact nomatch e
   ·injection e with e1 _; rw [e1]
 byValue:=λk v h=>by
  rcases jP h with ⟨i,t,rfl,rfl⟩ | ⟨x,t,rfl,rfl⟩ <;> rfl
 pyHash:=λhv h=>by
  rcases jP hv with ⟨i,t,rfl,rfl⟩ | ⟨x,t,rfl,rfl⟩
  ·exact wpAny_pyHash_int h
  ·exact wpAny_pyHash_str h
 eqBool:=λhu hv h=>by
  rcases jP hu with ⟨i,t,rfl,rfl⟩ | ⟨x,t,rfl,rfl⟩
  ·rcases jP hv with ⟨j,u,rfl,rfl⟩ | ⟨y,u,rfl,rfl⟩
   ·rw [Ku] at h; exact wpAny_eqBool_int h
   ·rw [Kw] at h; exact SeqAt.EqAt.int_str i t y u _ _ _ _ h
  ·rcases jP hv with ⟨j,u,rfl,rfl⟩ | ⟨y,u,rfl,rfl⟩
   ·rw [Kx] at h; exact SeqAt.EqAt.str_int x t j u _ _ _ _ h
   ·rw [Kv] at h; exact wpAny_eqBool_str h
 «strs»:=λk x t v h=>by
  rcases jP h with ⟨i,u,rfl,e⟩ | ⟨y,u,rfl,e⟩
  ·exact nomatch e
  ·injection e with e1 _
   subst e1
   cases v <;> rfl
theorem Ky (prog:Program) (w:World) (i:Int) (t:Tok):(uD prog w).is (.inl i) (.int i t)=true:=Ks i t
theorem Kz (prog:Program) (w:World) (x:Str) (t:Tok):(uD prog w).is (.inr x) (.str x t)=true:=Kt x t
end L2
namespace L2
open PySem PySem.Spec PyProof.Rows
inductive V where
 | non | bl (b:Bool) | int (i:Int) | str (x:Str) | byt (b:Array UInt8) | flt (b:UInt64) | ref (a:Addr) | ty (n:String)
 deriving DecidableEq
def zq:V->Value->Prop
 | .non,u=>u=Value.none
 | .bl b,u=>u=Value.bool b
 | .int i,u=>∃ t,u=Value.int i t
 | .str x,u=>∃ t,u=Value.str x t
 | .byt b,u=>∃ t,u=Value.bytes b t
 | .flt b,u=>∃ t,u=Value.float b t
 | .ref a,u=>u=Value.ref a
 | .ty n,u=>u=Value.type n
abbrev zf:List V->List Value->Prop:=Paired zq
theorem zf.length {xs:List V} {us:List Value} (r:zf xs us):xs.length=us.length:=Paired.length r
theorem zf.get:∀ {xs:List V} {us:List Value} {i:Nat} {x:V},zf xs us->xs[i]? = some x->∃ u,us[i]? = some u/\zq x u
 | _,_,_,_,.nil,e=>by simp at e
 | _,_,0,_,.cons r _,e=>by simp at e; subst e; exact ⟨_,rfl,r⟩
 | _,_,i + 1,x,.cons _ t,e=>by
  obtain ⟨u,h1,h2⟩:=zf.get (i:=i) (x:=x) t (by simpa using e)
  exact ⟨u,by simpa using h1,h2⟩
theorem zf.append:∀ {xs ys:List V} {us ws:List Value},zf xs us->zf ys ws->zf (xs++ys) (us++ws)
 | _,_,_,_,.nil,s=>s
 | _,_,_,_,.cons r t,s=>.cons r (zf.append t s)
theorem zf.take:∀ {xs:List V} {us:List Value} (n:Nat),zf xs us->zf (xs.take n) (us.take n)
 | _,_,0,_=>.nil
 | _,_,_ + 1,.nil=>.nil
 | _,_,n + 1,.cons r t=>.cons r (zf.take n t)
theorem zf.drop:∀ {xs:List V} {us:List Value} (n:Nat),zf xs us->zf (xs.drop n) (us.drop n)
 | _,_,0,r=>r
 | _,_,_ + 1,.nil=>.nil
 | _,_,n + 1,.cons _ t=>zf.drop n t
def xb:Option V->Option Value->Prop
 | some v,some u=>zq v u
 | none,none=>True
 | _,_=>False
def KV {κ:Type}:List (κ × V)->List (κ × Value)->Prop:=Paired λ(p:κ × V) (q:κ × Value)=>p.1=q.1/\zq p.2 q.2
def kV:ye->V
 | .inl i=>.int i
 | .inr x=>.str x
inductive HO where
 | lst (xs:List V)
 | tup (xs:List V)
 | dK (kvs:List (ye × V)) | dT (kvs:List (List ye × V))
 | set (S:Int->Bool) (n:Nat)
 | ins (C dx:Addr) (fs:List (Str × V))
 | own (x:Addr)
 | xd (fs:List (Str × V))
 | met (f x:Addr)
 | rng (lo hi:Int)
 | frz (o:Obj) (u:HO)
 | tbl (ps:Array Value)
 | ext (φ:Heap->Prop)
abbrev Hp:=Addr->Option HO
def upd (H:Hp) (a:Addr) (o:HO):Hp:=λb=>if b=a then some o else H b
theorem zj {H:Hp} {a:Addr} {o:HO}:upd H a o a=some o:=by unfold upd; rw [if_pos rfl]
theorem yW {H:Hp} {a b:Addr} {o:HO} (h:b≠a):upd H a o b=H b:=by unfold upd; rw [if_neg h]
theorem U7 {H:Hp} {a:Addr} {o u:HO}:upd (upd H a o) a u=upd H a u:=by
 funext b; unfold upd; split <;> rfl
theorem gS {H:Hp} {a b:Addr} {o u:HO} (h:H a=some o) (h':H b=some u) (d:o≠u):a≠b:=by
 intro e; subst e; rw [h] at h'; exact d (Option.some.inj h')
theorem wx {H:Hp} {a b:Addr} {o:HO} (h:H a=some o) (h':H b=none):a≠b:=by
 intro e; subst e; rw [h] at h'; cases h'
section
variable (P:Program) (w:World)
def xV (H:Hp) (h:Heap) (a:Addr):HO->Prop
 | .lst xs=>xs.length<=sizeLine/\∃ (its:List Value) (n:Nat),zf xs its/\h.get? a=some { cls:=.type "list",data:=.seq its.toArray n }
 | .tup xs=>xs.length<=sizeLine/\∃ its:List Value,zf xs its/\IsTup h a its.toArray
 | .dK kvs=>kvs.length<=sizeLine/\(a == sysModules)=false/\∃ vs,KV kvs vs/\h.DictOf (uD P w) a vs
 | .dT kvs=>kvs.length<=sizeLine/\(a == sysModules)=false/\∃ xs:List (List ye × Addr × Value),
   Paired (λ(p:List ye × V) (q:List ye × Addr × Value)=>p.1=q.1/\H q.2.1=some (.tup (p.1.map kV))/\zq p.2 q.2.2) kvs xs∧
   ∃ o es ep,h.get? a=some o/\o.ExactDict/\o.data=.dict es ep/\es.toList=xs.map (entryOfKey (tupleKind (uD P w)))/\(xs.map (·.1)).Nodup
 | .set S n=>h.SetOf (intKind P w) a S n
 | .ins C dx fs=>H dx=some (.own a)/\fs.length<=1000/\dx≠a/\h.get? a=some (PySem.W.instObj C dx)∧
   ∃ mA,h.Ns1 dx mA/\(∀ f,xb (fs.lookup f) (mA f))/\PySem.Within mA (fs.map (·.1))
 | .own _=>∃ o,h.get? a=some o
 | .xd fs=>∃ mA,h.Ns1 a mA/\∀ f,xb (fs.lookup f) (mA f)
 | .rng lo hi=>∃ t u v,h.get? a=some { cls:=.type "range",data:=.fields #[.int lo t,.int hi u,.int 1 v] }
 | .frz o u=>h.get? a=some o/\xV H h a u
 | .tbl ps=>h.get? a=some { cls:=.none,data:=.fields ps }
 | .met f x=>h.get? a=some (PySem.W.methodObj (.ref f) (.ref x))
 | .ext φ=>φ h/\(∃ o,h.get? a=some o)/\∀ h1 h2:Heap,φ h1->(∀ o,h1.get? a=some o->h2.get? a=some o)->φ h2
def xI (H:Hp) (h:Heap):Prop:=∀ a o,H a=some o->xV P w H h a o
end
section
variable {P:Program} {w:World} {H H':Hp} {h h':Heap} {a:Addr} {o:HO}
theorem xV.lt (x:xV P w H h a o):a < h.objs.size:=by
 cases o with
 | lst xs=>obtain ⟨_,_,_,_,e⟩:=x; exact Heap.lt_size e
 | tup xs=>obtain ⟨_,_,_,p⟩:=x; exact p.lt
 | dK kvs=>obtain ⟨_,_,_,_,o,_,_,e,_⟩:=x; exact Heap.lt_size e
 | dT kvs=>obtain ⟨_,_,_,_,o,_,_,e,_⟩:=x; exact Heap.lt_size e
 | set S n=>obtain ⟨o,_,_,_,e,_⟩:=x; exact Heap.lt_size e
 | ins C dx fs=>obtain ⟨_,_,_,e,_⟩:=x; exact Heap.lt_size e
 | own y=>obtain ⟨_,e⟩:=x; exact Heap.lt_size e
 | xd fs=>obtain ⟨_,⟨_,_,_,e,_⟩,_⟩:=x; exact Heap.lt_size e
 | rng lo hi=>obtain ⟨_,_,_,e⟩:=x; exact Heap.lt_size e
 | frz ob u=>obtain ⟨e,_⟩:=x; exact Heap.lt_size e
 | tbl ps=>exact Heap.lt_size (show h.get? a=some _ from x)
 | met f y=>exact Heap.lt_size (show h.get? a=some _ from x)
 | ext φ=>obtain ⟨_,⟨_,e⟩,_⟩:=x; exact Heap.lt_size e
theorem Paired.mapP {α β:Type} {F G:α->β->Prop}:∀ {l₁:List α} {l₂:List β},Paired F l₁ l₂->(∀ a b,F a b->G a b)->Paired G l₁ l₂
 | _,_,.nil,_=>.nil
 | _,_,.cons r t,f=>.cons (f _ _ r) (Paired.mapP t f)
theorem xV.stay (x:xV P w H h a o) (k:∀ b u,(b=a\/H b=some (.own a))->h.get? b=some u->h'.get? b=some u)
  (ho:∀ b,H b=some (.own a)->H' b=some (.own a)) (ht:∀ b xs,H b=some (.tup xs)->H' b=some (.tup xs)):xV P w H' h' a o:=by
 induction o with
 | lst xs=>obtain ⟨z,its,n,r,e⟩:=x; exact ⟨z,its,n,r,k _ _ (.inl rfl) e⟩
 | tup xs=>obtain ⟨z,its,r,ob,e,c⟩:=x; exact ⟨z,its,r,ob,k _ _ (.inl rfl) e,c⟩
 | dK kvs=>obtain ⟨z,y,vs,r,ob,es,ep,e,c⟩:=x; exact ⟨z,y,vs,r,ob,es,ep,k _ _ (.inl rfl) e,c⟩
 | dT kvs=>
  obtain ⟨z,y,xs,r,ob,es,ep,e,c⟩:=x
  exact ⟨z,y,xs,Paired.mapP r λp q z=>⟨z.1,ht _ _ z.2.1,z.2.2⟩,ob,es,ep,k _ _ (.inl rfl) e,c⟩
 | set S n=>obtain ⟨ob,es,ep,t,e,c⟩:=x; exact ⟨ob,es,ep,t,k _ _ (.inl rfl) e,c⟩
 | ins C dx fs=>
  obtain ⟨d,z,ne,e,mA,⟨od,es,ep,e2,c⟩,r⟩:=x
  exact ⟨ho _ d,z,ne,k _ _ (.inl rfl) e,mA,⟨od,es,ep,k _ _ (.inr d) e2,c⟩,r⟩
 | own y=>obtain ⟨ob,e⟩:=x; exact ⟨ob,k _ _ (.inl rfl) e⟩
 | xd fs=>obtain ⟨mA,⟨od,es,ep,e,c⟩,r⟩:=x; exact ⟨mA,⟨od,es,ep,k _ _ (.inl rfl) e,c⟩,r⟩
 | rng lo hi=>obtain ⟨t,u,v,e⟩:=x; exact ⟨t,u,v,k _ _ (.inl rfl) e⟩
 | frz ob u ih=>obtain ⟨e,q⟩:=x; exact ⟨k _ _ (.inl rfl) e,ih q⟩
 | tbl ps=>
  have e:h.get? a=some { cls:=.none,data:=.fields ps }:=x
  show h'.get? a=some { cls:=.none,data:=.fields ps }
  exact k a _ (.inl rfl) e
 | met f y=>
  have e:h.get? a=some (PySem.W.methodObj (.ref f) (.ref y)):=x
  show h'.get? a=some (PySem.W.methodObj (.ref f) (.ref y))
  exact k a _ (.inl rfl) e
 | ext φ=>obtain ⟨p,⟨o,e⟩,st⟩:=x; exact ⟨st _ _ p λo q=>k _ _ (.inl rfl) q,⟨o,k _ _ (.inl rfl) e⟩,st⟩
theorem xI.lt (x:xI P w H h) (e:H a=some o):a < h.objs.size:=(x a o e).lt
theorem xI.fresh (x:xI P w H h) (e:h.objs.size<=a):H a=none:=by
 cases q:H a with
 | none=>rfl
 | some u=>exact absurd (Nat.lt_of_lt_of_le (x.lt q) e) (Nat.lt_irrefl _)
theorem xI.kept (x:xI P w H h) (k:∀ b u,h.get? b=some u->h'.get? b=some u):xI P w H h':=λa o e=>
 (x a o e).stay (λb u _ q=>k b u q) (λ_ q=>q) λ_ _ q=>q
theorem xI.laid (x:xI P w H h) (k:∀ b u,h.get? b=some u->h'.get? b=some u) (hp:h.objs.size<=a) (new:xV P w (upd H a o) h' a o):xI P w (upd H a o) h':=λb u e=>by
 have hn:=x.fresh hp
 by_cases hb:b=a
 ·subst hb; rw [zj] at e; cases e; exact new
 ·rw [yW hb] at e
  exact (x b u e).stay (λc v _ q=>k c v q) (λc q=>by rw [yW (wx q hn)]; exact q) λc xs q=>by rw [yW (wx q hn)]; exact q
end
def Rd (H:Hp) (a:Addr) (u:HO):Prop:=H a=some u\/∃ o,H a=some (.frz o u)
theorem Rd.ok {P:Program} {w:World} {H:Hp} {h:Heap} {a:Addr} {u:HO} (r:Rd H a u) (x:xI P w H h):xV P w H h a u:=by
 rcases r with r | ⟨o,r⟩
 ·exact x a u r
 ·obtain ⟨_,q⟩:=x a _ r
  exact q
def gT:Option HO->Prop
 | some (.lst _)=>True
 | some (.dK _)=>True
 | some (.dT _)=>True
 | some (.set _ _)=>True
 | some (.ins _ _ _)=>True
 | some (.ext _)=>True
 | _=>False
section
variable {P:Program} {w:World} {H:Hp} {h h':Heap} {x e:Addr} {o':HO}
theorem xI.write (ok:xI P w H h) (mu:gT (H x)) (he:e=x\/H e=some (.own x)) (k:∀ b u,b≠e->h.get? b=some u->h'.get? b=some u) (heo:∃ u,h'.get? e=some u)
  (new:xV P w (upd H x o') h' x o'):xI P w (upd H x o') h':=λb u q=>by
 have nown:∀ c y,H c=some (.own y)->c≠x:=λc y r z=>by subst z; rw [r] at mu; exact mu
 have ntup:∀ c xs,H c=some (.tup xs)->c≠x:=λc xs r z=>by subst z; rw [r] at mu; exact mu
 by_cases hb:b=x
 ·subst hb; rw [zj] at q; cases q; exact new
 ·rw [yW hb] at q
  by_cases hbe:b=e
  ·have q':H b=some (.own x):=by
    rcases he with z | z
    ·exact absurd (hbe.trans z) hb
    ·rw [hbe]; exact z
   rw [q] at q'; cases q'
   obtain ⟨v,hv⟩:=heo
   exact ⟨v,by rw [hbe]; exact hv⟩
  ·refine (ok b u q).stay (λc v hc r=>k c v ?_ r) (λc r=>by rw [yW (nown c b r)]; exact r) λc xs r=>by rw [yW (ntup c xs r)]; exact r
   rcases hc with rfl | hc
   ·exact hbe
   ·rintro rfl
    rcases he with z | z
    ·exact nown c b hc z
    ·rw [hc] at z; cases z; exact hb rfl
end
structure Un (fs ex:List Addr) (H H':Hp) (h h':Heap):Prop where
 keep:∀ b o,h.get? b=some o->H b=none->b∉fs->b∉ex->h'.get? b=some o
 slot:∀ b o,h.get? b=some o->H b=none->b∈fs->b∉ex->∃ sl,h'.get? b=some { o with slots:=sl }
 free:∀ b o,h.get? b=some o->H b=none->b∉ex->H' b=none
 there:∀ b o,h.get? b=some o->b∉ex->∃ o',h'.get? b=some o'
 tups:∀ b xs,H b=some (.tup xs)->H' b=some (.tup xs)
 frzs:∀ b o u,H b=some (.frz o u)->H' b=some (.frz o u)
 tbls:∀ b ps,H b=some (.tbl ps)->∃ more,H' b=some (.tbl (ps++more))
section
variable {fs fs' ex ex':List Addr} {H H1 H2:Hp} {h h1 h2 h':Heap} {a x e:Addr} {o:HO}
theorem Un.any (u:Un fs ex H H1 h h1) {b:Addr} {ob:Obj} (q:h.get? b=some ob) (n:H b=none) (hx:b∉ex):∃ sl,h1.get? b=some { ob with slots:=sl }:=by
 by_cases hb:b∈fs
 ·exact u.slot b ob q n hb hx
 ·exact ⟨ob.slots,u.keep b ob q n hb hx⟩
theorem Un.trans (a:Un fs ex H H1 h h1) (b:Un fs ex H1 H2 h1 h2):Un fs ex H H2 h h2 where
 keep:=λc ob q n hc hx=>b.keep c ob (a.keep c ob q n hc hx) (a.free c ob q n hx) hc hx
 slot:=λc ob q n hc hx=>by
  obtain ⟨sl,e1⟩:=a.slot c ob q n hc hx
  obtain ⟨sl',e2⟩:=b.slot c _ e1 (a.free c ob q n hx) hc hx
  exact ⟨sl',e2⟩
 free:=λc ob q n hx=>by
  obtain ⟨o',e1⟩:=a.there c ob q hx
  exact b.free c o' e1 (a.free c ob q n hx) hx
 there:=λc ob q hx=>by
  obtain ⟨o',e1⟩:=a.there c ob q hx
  exact b.there c o' e1 hx
 tups:=λc xs q=>b.tups c xs (a.tups c xs q)
 frzs:=λc ob xs q=>b.frzs c ob xs (a.frzs c ob xs q)
 tbls:=λc ps q=>by
  obtain ⟨m1,e1⟩:=a.tbls c ps q
  obtain ⟨m2,e2⟩:=b.tbls c _ e1
  exact ⟨m1++m2,by rw [e2,Array.append_assoc]⟩
theorem Un.kept (k:∀ b u,h.get? b=some u->h'.get? b=some u):Un fs ex H H h h':=
 ⟨λb ob q _ _ _=>k b ob q,λb ob q _ _ _=>⟨ob.slots,k b ob q⟩,λ_ _ _ n _=>n,λb ob q _=>⟨ob,k b ob q⟩,λ_ _ q=>q,λ_ _ _ q=>q,λ_ ps q=>⟨#[],by rw [q]; simp⟩⟩
theorem Un.refl:Un fs ex H H h h:=Un.kept λ_ _ q=>q
theorem Un.laid (k:∀ b u,h.get? b=some u->h'.get? b=some u) (hp:h.objs.size<=a) (hn:H a=none):Un fs ex H (upd H a o) h h' where
 keep:=λb u q _ _ _=>k b u q
 slot:=λb u q _ _ _=>⟨u.slots,k b u q⟩
 free:=λb u q n _=>by rw [yW (Nat.ne_of_lt (Nat.lt_of_lt_of_le (Heap.lt_size q) hp))]; exact n
 there:=λb u q _=>⟨u,k b u q⟩
 tups:=λb xs q=>by rw [yW (wx q hn)]; exact q
 frzs:=λb u xs q=>by rw [yW (wx q hn)]; exact q
 tbls:=λb ps q=>⟨#[],by rw [yW (wx q hn),q]; simp⟩
theorem Un.write (mu:gT (H x)) (he:e=x\/H e=some (.own x)) (k:∀ b u,b≠e->h.get? b=some u->h'.get? b=some u) (heo:∃ u,h'.get? e=some u):Un fs ex H (upd H x o) h h':=by
 have hx:∀ b,H b=none->b≠x:=λb n z=>by subst z; rw [n] at mu; exact mu
 have hb:∀ b,H b=none->b≠e:=λb n z=>by
  subst z
  rcases he with r | r
  ·exact hx b n r
  ·rw [n] at r; cases r
 have hm:∀ b u,H b=some u->¬ gT (some u)->b≠x:=λb u q nm z=>by subst z; rw [q] at mu; exact nm mu
 refine ⟨λb u q n _ _=>k b u (hb b n) q,λb u q n _ _=>⟨u.slots,k b u (hb b n) q⟩,λb u q n _=>by rw [yW (hx b n)]; exact n,λb u q _=>?_,
  λb xs q=>by rw [yW (hm b _ q λz=>z)]; exact q,λb u xs q=>by rw [yW (hm b _ q λz=>z)]; exact q,λb ps q=>⟨#[],by rw [yW (hm b _ q λz=>z),q]; simp⟩⟩
 by_cases hbe:b=e
 ·subst hbe; exact heo
 ·exact ⟨u,k b u hbe q⟩
theorem Un.mono (u:Un fs ex H H1 h h1) (hs:∀ b∈fs,b∈fs') (hx:∀ b∈ex,b∈ex'):Un fs' ex' H H1 h h1:=
 ⟨λb ob q n hb he=>u.keep b ob q n (λz=>hb (hs b z)) λz=>he (hx b z),λ_ _ q n _ he=>u.any q n λz=>he (hx _ z),λb ob q n he=>u.free b ob q n λz=>he (hx b z),λb ob q he=>u.there b ob q λz=>he (hx b z),u.tups,u.frzs,u.tbls⟩
end
def u7 (h:Heap) (H:Hp):List Addr:=(List.range h.objs.size).filter λa=>(H a).isSome
def vA (h:Heap) (H:Hp):Heap:=PySem.W.hideAll h (u7 h H)
theorem K0 (h:Heap) (H:Hp):(vA h H).objs.size=h.objs.size:=PySem.W.hideAll_size _ _
theorem K1 {h:Heap} {H:Hp} {b:Addr} {o:Obj} (e:h.get? b=some o) (n:H b=none):(vA h H).get? b=some o:=
 PySem.W.hideAll_get _ e λhm=>by
  have q:(H b).isSome=true:=(List.mem_filter.mp hm).2
  rw [n] at q; simp at q
theorem K2 {h:Heap} {H:Hp} {b:Addr} {o:Obj} (e:(vA h H).get? b=some o):h.get? b=some o/\H b=none:=by
 have e':h.get? b=some o:=PySem.W.of_hideAll (u7 h H) e
 refine ⟨e',?_⟩
 cases q:H b with
 | none=>rfl
 | some x=>
  have hm:b∈u7 h H:=List.mem_filter.mpr ⟨List.mem_range.mpr (Heap.lt_size e'),by simp [q]⟩
  have z:(vA h H).get? b=none:=PySem.W.hideAll_none (u7 h H) hm
  rw [z] at e; cases e
def K3 (g h:Heap) (L:Addr):List (Addr × Obj):=(List.range h.objs.size).filterMap λa=>if a=L\/(g.get? a).isSome=true then none else (h.get? a).map λo=>(a,o)
def wk (g h:Heap) (L d:Addr):List (Addr × Obj):=(K3 g h L).filter λp=>decide (p.1≠d)
end L2
namespace L2
open PySem PySem.Spec PyProof.Rows
structure Mod (K:PySem.W.Frag) (mg:Str->Option Value) (base:Heap):Prop where
 kin:K.In base
 glob:base.Ns mainGlobals mg
 blt:∃ mb,base.Ns builtinsNs mb/\∀ x:Str,x≠"__name__"->mb x=bootBuiltins x
 nolimit:base.NoLimit
structure Cx where
 prog:Program
 w:World
 K:PySem.W.Frag
 mg:Str->Option Value
 base:Heap
 A:Around
 N:List Str
 s₀:Shared
 H₀:Hp
 env:Env
 outer:List Env
 stack:List Env
 ex:List Addr
 fn:Str->Bool
 calm:Bool
 pn:List (Addr × Obj)
 xe:Value->Shared->Prop
def xq (l:List Env):List Addr:=l.filterMap (·.frame)
abbrev Cx.fs (X:Cx):List Addr:=xq X.outer
def ZK (sc:Scope) (x:Str):Prop:=sc.names.lookup x=some .local\/sc.names.lookup x=some .cell\/sc.names.lookup x=some .free
def gU (sc:Scope) (x:Str):Prop:=sc.names.lookup x=some .local\/sc.names.lookup x=some .cell
def Yq (env:Env) (h:Heap) (m:Str->Option Value) (x:Str) (u:Value):Prop:=
 (env.kindOf x=some .local/\m x=some u)\/((env.kindOf x=some .cell\/env.kindOf x=some .free)/\∃ c,env.cells.lookup x=some c/\h.IsCell c (some u))
structure Cx.Ok (X:Cx):Prop where
 mod:Mod X.K X.mg X.base
 kind:X.env.scope.kind=.function
 glob:X.env.globals=mainGlobals
 blt:X.env.builtins=builtinsNs
 above:X.s₀.heap.objs.size<=X.env.locals
 inj:∀ x y c,X.env.cells.lookup x=some c->X.env.cells.lookup y=some c->x=y
 has:∀ x,(X.env.kindOf x=some .cell\/X.env.kindOf x=some .free)->∃ c,X.env.cells.lookup x=some c
 cab:∀ x c,X.fn x=true->X.env.cells.lookup x=some c->X.s₀.heap.objs.size<=c
 hd:X.calm=true->X.A.handled=none
 frames:X.A.frames=some X.stack
 stk:X.stack=X.outer\/(X.stack=X.env :: X.outer/\X.env.frame=some X.env.locals)
 exf:∀ b∈X.ex,b≠X.env.locals/\∀ x c,X.env.cells.lookup x=some c->c≠b
 bs:∀ b o,X.base.get? b=some o->X.s₀.heap.get? b=some o/\X.H₀ b=none
 bsz:X.base.objs.size<=X.s₀.heap.objs.size
 noex:∀ b o,X.base.get? b=some o->b∉X.ex
 exfs:∀ b∈X.ex,b∉X.fs
 funs:X.s₀.heap.FunFrames X.base X.outer
 frf:∀ b∈X.fs,X.H₀ b=none
structure zQ (X:Cx) (pins:List (Addr × Obj)) (σ:List (Option V)) (H:Hp) (s:Shared):Prop where
 ok:X.Ok
 os:s.os=X.s₀.os
 bare:AllBare s.gens
 base:Un X.fs X.ex X.H₀ H X.s₀.heap s.heap
 loc:∃ m,s.heap.Ns X.env.locals m/\∀ (i:Nat) (x:Str) (v:V),X.N[i]? = some x->σ[i]? = some (some v)->ZK X.env.scope x->∃ u,zq v u/\Yq X.env s.heap m x u
 cell:∀ x c,X.env.cells.lookup x=some c->∃ v,s.heap.IsCell c v
 free:H X.env.locals=none
 freeC:∀ x c,X.env.cells.lookup x=some c->H c=none
 pin:∀ p∈X.pn++pins,s.heap.get? p.1=some p.2/\H p.1=none/\p.1≠X.env.locals/\p.1∉X.fs/\∀ v,p.2.data≠.cell v
 hok:xI X.prog X.w H s.heap
 len:σ.length=X.N.length
section
variable {X:Cx} {pins:List (Addr × Obj)} {σ:List (Option V)} {H H':Hp} {s:Shared} {h':Heap}
theorem Cx.Ok.nofr (ok:X.Ok) {b:Addr} {o:Obj} (e:X.base.get? b=some o):b∉X.fs:=λhb=>by
 have:=(ok.funs.mem hb).1
 rw [e] at this; cases this
theorem zQ.bs (I:zQ X pins σ H s):∀ b o,X.base.get? b=some o->s.heap.get? b=some o/\H b=none:=λb o e=>
 ⟨I.base.keep b o (I.ok.bs b o e).1 (I.ok.bs b o e).2 (I.ok.nofr e) (I.ok.noex b o e),I.base.free b o (I.ok.bs b o e).1 (I.ok.bs b o e).2 (I.ok.noex b o e)⟩
theorem zQ.bk (I:zQ X pins σ H s):∀ b o,X.base.get? b=some o->s.heap.get? b=some o:=λb o e=>(I.bs b o e).1
theorem zQ.mod (I:zQ X pins σ H s):Mod X.K X.mg X.base:=I.ok.mod
theorem zQ.kIn (I:zQ X pins σ H s):X.K.In s.heap:=I.ok.mod.kin.keeps I.bk
theorem zQ.lt (I:zQ X pins σ H s):X.env.locals < s.heap.objs.size:=let ⟨_,hn,_⟩:=I.loc; hn.lt
theorem zQ.sz (I:zQ X pins σ H s):X.s₀.heap.objs.size<=s.heap.objs.size:=Nat.le_trans I.ok.above (Nat.le_of_lt I.lt)
theorem zQ.nofs (I:zQ X pins σ H s) {a:Addr} (h:s.heap.objs.size<=a):a∉X.fs:=λhb=>by
 obtain ⟨_,o,ho,_⟩:=I.ok.funs.mem hb
 exact absurd (Nat.lt_of_lt_of_le (Heap.lt_size ho) (Nat.le_trans I.sz h)) (Nat.lt_irrefl _)
theorem zQ.cne (I:zQ X pins σ H s):∀ x c,X.env.cells.lookup x=some c->c≠X.env.locals:=λx c e z=>by
 obtain ⟨v,o,ho,hd⟩:=I.cell x c e
 obtain ⟨m,⟨o',es,ep,ho',hd',_⟩,_⟩:=I.loc
 rw [z,ho'] at ho; cases ho; rw [hd'] at hd; cases hd
theorem zQ.funs (I:zQ X pins σ H s):s.heap.FunFrames X.base X.outer:=by
 have all:∀ (l:List Env),(∀ b∈xq l,b∈X.fs)->X.s₀.heap.FunFrames X.base l->s.heap.FunFrames X.base l:=by
  intro l
  induction l with
  | nil=>intro _ _; trivial
  | cons env r ih=>
   intro hs hl
   obtain ⟨hk,⟨L,o,hf,hn,ho,hd⟩,hr⟩:=hl
   have hL:L∈X.fs:=hs L (by unfold xq; rw [List.filterMap_cons,hf]; exact List.mem_cons_self)
   obtain ⟨sl,e⟩:=I.base.slot L o ho (I.ok.frf L hL) hL λz=>I.ok.exfs L z hL
   exact ⟨hk,⟨L,_,hf,hn,e,hd⟩,ih (λb hb=>hs b (by unfold xq; rw [List.filterMap_cons,hf]; exact List.mem_cons_of_mem _ hb)) hr⟩
 exact all X.outer (λ_ hb=>hb) I.ok.funs
theorem zQ.stack (I:zQ X pins σ H s):s.heap.FunFrames X.base X.stack:=by
 rcases I.ok.stk with e | ⟨e,hf⟩
 ·rw [e]; exact I.funs
 ·rw [e]
  obtain ⟨m,hn,_⟩:=I.loc
  refine .cons (by rw [I.ok.kind]; decide) hf hn ?_ I.funs
  exact Heap.get?_none_of_le (Nat.le_trans I.ok.bsz I.ok.above)
theorem zQ.stkSub (I:zQ X pins σ H s):∀ b∈xq X.stack,b∈X.env.locals :: X.fs:=λb hb=>by
 rcases I.ok.stk with e | ⟨e,hf⟩
 ·rw [e] at hb; exact List.mem_cons_of_mem _ hb
 ·rw [e] at hb
  unfold xq at hb
  rw [List.filterMap_cons,hf] at hb
  exact hb
theorem zQ.stkFree (I:zQ X pins σ H s):∀ b∈xq X.stack,H b=none:=λb hb=>by
 rcases List.mem_cons.mp (I.stkSub b hb) with e | hb
 ·rw [e]; exact I.free
 ·obtain ⟨_,o,ho,_⟩:=I.ok.funs.mem hb
  exact I.base.free b o ho (I.ok.frf b hb) λz=>I.ok.exfs b z hb
theorem zQ.step {g':Array GenState} {t':Nat} {d':Drawn} {ch:List Addr} (I:zQ X pins σ H s)
  (hch:∀ b∈ch,(b∈X.ex\/X.s₀.heap.objs.size<=b)/\b≠X.env.locals/\(∀ x c,X.env.cells.lookup x=some c->c≠b)/\∀ p∈X.pn++pins,p.1≠b)
  (keep:∀ b o,b≠X.env.locals->b∉X.fs->b∉ch->s.heap.get? b=some o->H b=none->h'.get? b=some o)
  (slot:∀ b o,b≠X.env.locals->b∈X.fs->b∉ch->s.heap.get? b=some o->H b=none->∃ sl,h'.get? b=some { o with slots:=sl }) (free:∀ b o,b∉ch->s.heap.get? b=some o->H b=none->H' b=none)
  (there:∀ b o,b∉ch->s.heap.get? b=some o->∃ o',h'.get? b=some o')
  (tups:∀ b xs,H b=some (.tup xs)->H' b=some (.tup xs)) (frzs:∀ b o u,H b=some (.frz o u)->H' b=some (.frz o u)) (tbls:∀ b ps,H b=some (.tbl ps)->∃ more,H' b=some (.tbl (ps++more)))
  (ns:∀ m,s.heap.Ns X.env.locals m->h'.Ns X.env.locals m) (hok:xI X.prog X.w H' h') (hg:AllBare g') :
  zQ X pins σ H' { s with heap:=h',gens:=g',drawn:=d',toks:=t' }:=by
 have neL:∀ b o,X.s₀.heap.get? b=some o->b≠X.env.locals:=λb o e=>Nat.ne_of_lt (Nat.lt_of_lt_of_le (Heap.lt_size e) I.ok.above)
 have neC:∀ b o,X.s₀.heap.get? b=some o->b∉X.ex->b∉ch:=λb o e hx hb=>by
  rcases (hch b hb).1 with z | z
  ·exact hx z
  ·exact absurd (Nat.lt_of_lt_of_le (Heap.lt_size e) z) (Nat.lt_irrefl _)
 have cellK:∀ x c,X.env.cells.lookup x=some c->∀ v,s.heap.IsCell c v->h'.IsCell c v:=λx c e v ⟨o,ho,hd⟩=>by
  have nch:c∉ch:=λz=>(hch c z).2.2.1 x c e rfl
  by_cases hc:c∈X.fs
  ·obtain ⟨sl,q⟩:=slot c o (I.cne x c e) hc nch ho (I.freeC x c e)
   exact ⟨_,q,hd⟩
  ·exact ⟨o,keep c o (I.cne x c e) hc nch ho (I.freeC x c e),hd⟩
 refine ⟨I.ok,I.os,hg,⟨λb o e n hb hx=>?_,λb o e n hb hx=>?_,λb o e n hx=>?_,λb o e hx=>?_,λb xs e=>tups b xs (I.base.tups b xs e),λb o xs e=>frzs b o xs (I.base.frzs b o xs e),λb ps e=>?_⟩,?_,λx c e=>?_,?_,λx c e=>?_,λp hp=>?_,hok,I.len⟩
 ·exact keep b o (neL b o e) hb (neC b o e hx) (I.base.keep b o e n hb hx) (I.base.free b o e n hx)
 ·obtain ⟨sl,e1⟩:=I.base.slot b o e n hb hx
  obtain ⟨sl',e2⟩:=slot b _ (neL b o e) hb (neC b o e hx) e1 (I.base.free b o e n hx)
  exact ⟨sl',e2⟩
 ·obtain ⟨o',e1⟩:=I.base.there b o e hx
  exact free b o' (neC b o e hx) e1 (I.base.free b o e n hx)
 ·obtain ⟨o',e1⟩:=I.base.there b o e hx
  exact there b o' (neC b o e hx) e1
 ·obtain ⟨m1,e1⟩:=I.base.tbls b ps e
  obtain ⟨m2,e2⟩:=tbls b _ e1
  exact ⟨m1++m2,by rw [e2,Array.append_assoc]⟩
 ·obtain ⟨m,hn,hl⟩:=I.loc
  refine ⟨m,ns m hn,λi x v e1 e2 e3=>?_⟩
  obtain ⟨u,r,l⟩:=hl i x v e1 e2 e3
  refine ⟨u,r,?_⟩
  rcases l with l | ⟨k,c,e,z⟩
  ·exact .inl l
  ·exact .inr ⟨k,c,e,cellK x c e _ z⟩
 ·obtain ⟨v,z⟩:=I.cell x c e
  exact ⟨v,cellK x c e v z⟩
 ·obtain ⟨m,⟨o,_,_,ho,_⟩,_⟩:=I.loc
  exact free _ o (λz=>(hch _ z).2.1 rfl) ho I.free
 ·obtain ⟨v,o,ho,hd⟩:=I.cell x c e
  exact free c o (λz=>(hch c z).2.2.1 x c e rfl) ho (I.freeC x c e)
 ·obtain ⟨e,n,ne,nf,d⟩:=I.pin p hp
  have nch:p.1∉ch:=λz=>(hch p.1 z).2.2.2 p hp rfl
  exact ⟨keep p.1 p.2 ne nf nch e n,free p.1 p.2 nch e n,ne,nf,d⟩
theorem zQ.un {t':Nat} (I:zQ X pins σ H s) (u:Un X.fs [] H H' s.heap h') (hok:xI X.prog X.w H' h'):zQ X pins σ H' { s with heap:=h',toks:=t' }:=by
 obtain ⟨m,⟨o,es,ep,ho,r⟩,_⟩:=id I.loc
 obtain ⟨sl,hL⟩:=u.any ho I.free (by simp)
 exact I.step (g':=s.gens) (d':=s.drawn) (ch:=[]) (λ_ z=>nomatch z) (λb o _ hb _ e n=>u.keep b o e n hb (by simp)) (λb o _ hb _ e n=>u.slot b o e n hb (by simp)) (λb o _ e n=>u.free b o e n (by simp)) (λb o _ e=>u.there b o e (by simp)) u.tups u.frzs u.tbls (λm' hm=>by
  obtain ⟨o',es',ep',ho',r'⟩:=hm
  rw [ho] at ho'; cases ho'
  exact ⟨_,es',ep',hL,r'⟩) hok I.bare
theorem zQ.call {g':Array GenState} {t':Nat} {d':Drawn} {ch:List Addr} (I:zQ X pins σ H s) (u:Un (xq X.stack) ch H H' s.heap h') (hok:xI X.prog X.w H' h') (hg:AllBare g')
  (hch:∀ b∈ch,(b∈X.ex\/X.s₀.heap.objs.size<=b)/\b≠X.env.locals/\(∀ x c,X.env.cells.lookup x=some c->c≠b)/\∀ p∈X.pn++pins,p.1≠b) :
  zQ X pins σ H' { s with heap:=h',gens:=g',drawn:=d',toks:=t' }:=by
 obtain ⟨m,⟨o,es,ep,ho,r⟩,_⟩:=id I.loc
 obtain ⟨sl,hL⟩:=u.any ho I.free λz=>(hch _ z).2.1 rfl
 exact I.step (ch:=ch) hch (λb o hL hb hc e n=>u.keep b o e n (λz=>(List.mem_cons.mp (I.stkSub b z)).elim hL hb) hc) (λb o _ _ hc e n=>u.any e n hc) (λb o hc e n=>u.free b o e n hc) (λb o hc e=>u.there b o e hc) u.tups u.frzs u.tbls (λm' hm=>by
  obtain ⟨o',es',ep',ho',r'⟩:=hm
  rw [ho] at ho'; cases ho'
  exact ⟨_,es',ep',hL,r'⟩) hok hg
theorem zQ.turned {t':Nat} {it:Addr} (I:zQ X pins σ H s) (k:∀ b o,b≠it->s.heap.get? b=some o->h'.get? b=some o) (hn:H it=none) (hL:it≠X.env.locals)
  (h1:it∈X.ex\/X.s₀.heap.objs.size<=it) (h2:∀ x c,X.env.cells.lookup x=some c->c≠it) (h3:∀ p∈X.pn++pins,p.1≠it):zQ X pins σ H { s with heap:=h',toks:=t' }:=by
 have nit:∀ b u,H b=some u->b≠it:=λb u e z=>by rw [z,hn] at e; cases e
 refine I.step (g':=s.gens) (d':=s.drawn) (ch:=[it]) (λb hb=>?_) (λb o _ _ hc e _=>k b o (λz=>hc (by simp [z])) e) (λb o _ _ hc e _=>⟨o.slots,k b o (λz=>hc (by simp [z])) e⟩) (λ_ _ _ _ n=>n)
  (λb o hc e=>⟨o,k b o (λz=>hc (by simp [z])) e⟩) (λ_ _ e=>e) (λ_ _ _ e=>e) (λb ps e=>⟨#[],by rw [e]; simp⟩) (λm hm=>?_) (λb u e=>?_) I.bare
 ·have e:b=it:=by simpa using hb
  subst e
  exact ⟨h1,hL,h2,h3⟩
 ·obtain ⟨o,es,ep,ho,r⟩:=hm
  exact ⟨o,es,ep,k _ o (Ne.symm hL) ho,r⟩
 ·refine (I.hok b u e).stay (λc v hc q=>k c v ?_ q) (λ_ q=>q) λ_ _ q=>q
  rcases hc with z | z
  ·rw [z]; exact nit b u e
  ·exact nit c _ z
theorem zQ.tok (I:zQ X pins σ H s) (t:Nat):zQ X pins σ H { s with toks:=t }:=I.un (h':=s.heap) (t':=t) Un.refl I.hok
theorem zQ.kept {t':Nat} (I:zQ X pins σ H s) (k:∀ b u,s.heap.get? b=some u->h'.get? b=some u):zQ X pins σ H { s with heap:=h',toks:=t' }:=I.un (Un.kept k) (I.hok.kept k)
theorem zQ.laid {a:Addr} {o:HO} {t':Nat} (I:zQ X pins σ H s) (k:∀ b u,s.heap.get? b=some u->h'.get? b=some u) (hp:s.heap.objs.size<=a) (new:xV X.prog X.w (upd H a o) h' a o) :
  zQ X pins σ (upd H a o) { s with heap:=h',toks:=t' }:=I.un (Un.laid k hp (I.hok.fresh hp)) (I.hok.laid k hp new)
theorem zQ.write {x e:Addr} {o:HO} {t':Nat} (I:zQ X pins σ H s) (mu:gT (H x)) (he:e=x\/H e=some (.own x)) (k:∀ b u,b≠e->s.heap.get? b=some u->h'.get? b=some u) (heo:∃ u,h'.get? e=some u)
  (new:xV X.prog X.w (upd H x o) h' x o):zQ X pins σ (upd H x o) { s with heap:=h',toks:=t' }:=I.un (Un.write mu he k heo) (I.hok.write mu he k heo new)
theorem zQ.pins_of {pins':List (Addr × Obj)} (I:zQ X pins σ H s) (h:∀ p∈pins',s.heap.get? p.1=some p.2/\H p.1=none/\p.1≠X.env.locals/\p.1∉X.fs/\∀ v,p.2.data≠.cell v):zQ X pins' σ H s:=
 ⟨I.ok,I.os,I.bare,I.base,I.loc,I.cell,I.free,I.freeC,λp hp=>(List.mem_append.mp hp).elim (λz=>I.pin p (List.mem_append_left _ z)) (h p),I.hok,I.len⟩
theorem U8 {N:List Str} (hN:N.Nodup) {i j:Nat} {x:Str} (a:N[i]? = some x) (b:N[j]? = some x):i=j:=by
 obtain ⟨h1,e1⟩:=List.getElem?_eq_some_iff.mp a
 obtain ⟨h2,e2⟩:=List.getElem?_eq_some_iff.mp b
 exact (List.getElem_inj hN).mp (e1.trans e2.symm)
theorem Yr {M:Model} {A:Around} {E:Value->Shared->Prop} {i:Nat} {x:Str} {v:V} {u:Value} {Q:Unit->Shared->Prop} (I:zQ X pins σ H s) (hN:X.N.Nodup) (hi:X.N[i]? = some x) (hx:gU X.env.scope x) (r:zq v u)
  (h:∀ s',zQ X pins (σ.set i (some v)) H s'->(∃ a,Heap.SameBut a s.heap s'.heap/\(a=X.env.locals\/X.env.cells.lookup x=some a))->Q () s') (hf:X.fn x=true\/X.env.scope.names.lookup x=some .local:=by first | exact .inl rfl | exact .inr rfl | assumption):wpAny M A (storeName X.env x u) Q E s:=by
 obtain ⟨m,hn,hl⟩:=id I.loc
 have hcls:(X.env.scope.kind == .class || (X.env.scope.kind == .module && X.env.locals != X.env.globals))=false:=by rw [I.ok.kind]; rfl
 have hiσ:i < σ.length:=by rw [I.len]; exact (List.getElem?_eq_some_iff.mp hi).1
 have cne:=I.cne
 have tracked:∀ {a:Addr} {h':Heap},(∃ o,s.heap.get? a=some o/\H a=none)->Heap.SameBut a s.heap h'->xI X.prog X.w H h':=λ{a h'} ha hs b ob e=>by
  obtain ⟨_,_,hfree⟩:=ha
  refine (I.hok b ob e).stay (λc w' hc q=>(hs.2 c ?_).trans q) (λ_ q=>q) λ_ _ q=>q
  rintro rfl
  rcases hc with rfl | hc
  ·rw [hfree] at e; cases e
  ·rw [hfree] at hc; cases hc
 rcases hx with hk | hk
 ·refine wpAny_storeName_local hk hn (λh' hn' hs=>?_) hcls
  obtain ⟨oL,_,_,hoL,_⟩:=id hn
  refine h _ ⟨I.ok,I.os,I.bare,⟨λb o e n hb hx=>?_,λb o e n hb hx=>?_,I.base.free,λb o e hx=>?_,I.base.tups,I.base.frzs,I.base.tbls⟩,⟨_,hn',λj y v' e1 e2 e3=>?_⟩,λy c e=>?_,I.free,I.freeC,λp hp=>?_,tracked ⟨oL,hoL,I.free⟩ hs,by simpa using I.len⟩ ⟨_,hs,.inl rfl⟩
  ·exact (hs.2 b (Nat.ne_of_lt (Nat.lt_of_lt_of_le (Heap.lt_size e) I.ok.above))).trans (I.base.keep b o e n hb hx)
  ·obtain ⟨sl,e1⟩:=I.base.slot b o e n hb hx
   exact ⟨sl,(hs.2 b (Nat.ne_of_lt (Nat.lt_of_lt_of_le (Heap.lt_size e) I.ok.above))).trans e1⟩
  ·obtain ⟨o',e1⟩:=I.base.there b o e hx
   exact ⟨o',(hs.2 b (Nat.ne_of_lt (Nat.lt_of_lt_of_le (Heap.lt_size e) I.ok.above))).trans e1⟩
  ·by_cases hj:j=i
   ·subst hj
    rw [hi] at e1; cases e1
    rw [List.getElem?_set_self hiσ] at e2
    cases e2
    exact ⟨u,r,.inl ⟨hk,by simp⟩⟩
   ·rw [List.getElem?_set_ne (Ne.symm hj)] at e2
    obtain ⟨u',r',q⟩:=hl j y v' e1 e2 e3
    refine ⟨u',r',?_⟩
    rcases q with ⟨k,e⟩ | ⟨k,c,e,z⟩
    ·refine .inl ⟨k,?_⟩
     have:y≠x:=λe=>hj (U8 hN e1 (e ▸ hi))
     simp [this,e]
    ·exact .inr ⟨k,c,e,z.sameBut hs (cne y c e)⟩
  ·obtain ⟨w',z⟩:=I.cell y c e
   exact ⟨w',z.sameBut hs (cne y c e)⟩
  ·obtain ⟨e,n,ne,nf,d⟩:=I.pin p hp
   exact ⟨(hs.2 p.1 ne).trans e,n,ne,nf,d⟩
 ·have hfn:X.fn x=true:=by
   rcases hf with z | z
   ·exact z
   ·rw [z] at hk; cases hk
  obtain ⟨c,hc⟩:=I.ok.has x (.inl hk)
  obtain ⟨w',z⟩:=I.cell x c hc
  refine wpAny_storeName_cell I.ok.kind hk hc z (λh' hc' hs=>?_)
  obtain ⟨oc,hoc,hocd⟩:=id z
  refine h { s with heap:=h' } ⟨I.ok,I.os,I.bare,⟨λb o e n hb hx=>?_,λb o e n hb hx=>?_,I.base.free,λb o e hx=>?_,I.base.tups,I.base.frzs,I.base.tbls⟩,⟨m,hn.sameBut hs (Ne.symm (cne x c hc)),λj y v' e1 e2 e3=>?_⟩,λy c' e=>?_,I.free,I.freeC,λp hp=>?_,tracked ⟨oc,hoc,I.freeC x c hc⟩ hs,by simpa using I.len⟩ ⟨c,hs,.inr hc⟩
  ·exact (hs.2 b (Nat.ne_of_lt (Nat.lt_of_lt_of_le (Heap.lt_size e) (I.ok.cab x c hfn hc)))).trans (I.base.keep b o e n hb hx)
  ·obtain ⟨sl,e1⟩:=I.base.slot b o e n hb hx
   exact ⟨sl,(hs.2 b (Nat.ne_of_lt (Nat.lt_of_lt_of_le (Heap.lt_size e) (I.ok.cab x c hfn hc)))).trans e1⟩
  ·obtain ⟨o',e1⟩:=I.base.there b o e hx
   exact ⟨o',(hs.2 b (Nat.ne_of_lt (Nat.lt_of_lt_of_le (Heap.lt_size e) (I.ok.cab x c hfn hc)))).trans e1⟩
  ·by_cases hj:j=i
   ·subst hj
    rw [hi] at e1; cases e1
    rw [List.getElem?_set_self hiσ] at e2
    cases e2
    exact ⟨u,r,.inr ⟨.inl hk,c,hc,hc'⟩⟩
   ·rw [List.getElem?_set_ne (Ne.symm hj)] at e2
    obtain ⟨u',r',q⟩:=hl j y v' e1 e2 e3
    refine ⟨u',r',?_⟩
    rcases q with q | ⟨k,c',e,z'⟩
    ·exact .inl q
    ·refine .inr ⟨k,c',e,z'.sameBut hs ?_⟩
     rintro rfl
     exact hj (U8 hN e1 (I.ok.inj _ _ _ e hc ▸ hi))
  ·by_cases hcc:c'=c
   ·subst hcc; exact ⟨_,hc'⟩
   ·obtain ⟨w2,z2⟩:=I.cell y c' e
    exact ⟨w2,z2.sameBut hs hcc⟩
  ·obtain ⟨e,n,ne,nf,d⟩:=I.pin p hp
   refine ⟨(hs.2 p.1 ?_).trans e,n,ne,nf,d⟩
   intro q
   rw [q,hoc] at e
   have q':oc=p.2:=Option.some.inj e
   exact d w' (by rw [<- q']; exact hocd)
theorem gW {M:Model} {A:Around} {E:Value->Shared->Prop} {i:Nat} {x:Str} {v:V} {u:Value} {Q:Unit->Shared->Prop} (I:zQ X pins σ H s) (hN:X.N.Nodup) (hi:X.N[i]? = some x) (hx:gU X.env.scope x) (r:zq v u)
  (h:∀ s',zQ X pins (σ.set i (some v)) H s'->Q () s') (hf:X.fn x=true\/X.env.scope.names.lookup x=some .local:=by first | exact .inl rfl | exact .inr rfl | assumption):wpAny M A (storeName X.env x u) Q E s:=
 Yr I hN hi hx r (λs' I' _=>h s' I') hf
theorem zQ.call' {s':Shared} {ch:List Addr} (I:zQ X pins σ H s) (ho:s'.os=s.os) (u:Un (xq X.stack) ch H H' s.heap s'.heap) (hok:xI X.prog X.w H' s'.heap) (hg:AllBare s'.gens)
  (hch:∀ b∈ch,(b∈X.ex\/X.s₀.heap.objs.size<=b)/\b≠X.env.locals/\(∀ x c,X.env.cells.lookup x=some c->c≠b)/\∀ p∈X.pn++pins,p.1≠b):zQ X pins σ H' s':=by
 obtain ⟨h',g',d',t',o'⟩:=s'
 have e:o'=s.os:=ho
 subst e
 exact I.call (g':=g') (t':=t') (d':=d') u hok hg hch
end
abbrev XK:=Value->Option Addr->Hp->Prop
abbrev St:=List (Option V)
abbrev VK:=V->Hp->Prop
abbrev TE:=St->Hp->VK->Prop
abbrev TT:=St->Hp->(Bool->Hp->Prop)->Prop
abbrev TA:=St->Hp->(List V->Hp->Prop)->Prop
structure xx where
 nx:St->Hp->Prop
 rt:VK
 bk:St->Hp->Prop:=λ_ _=>False
 ct:St->Hp->Prop:=λ_ _=>False
abbrev TS:=xx->St->Hp->Prop
def EP (X:Cx) (pins:List (Addr × Obj)) (σ:St) (Q:VK) (u:Value) (s':Shared):Prop:=∃ v H',zQ X pins σ H' s'/\zq v u/\Q v H'
def TP (X:Cx) (pins:List (Addr × Obj)) (σ:St) (Q:Bool->Hp->Prop) (b:Bool) (s':Shared):Prop:=∃ H',zQ X pins σ H' s'/\Q b H'
def AP (X:Cx) (pins:List (Addr × Obj)) (σ:St) (Q:List V->Hp->Prop) (us:List Value) (s':Shared):Prop:=∃ vs H',zQ X pins σ H' s'/\zf vs us/\Q vs H'
def SP (X:Cx) (pins:List (Addr × Obj)) (D:xx) (f:Flow) (s':Shared):Prop:=
 match f with
 | .next=>∃ σ' H',zQ X pins σ' H' s'/\D.nx σ' H'
 | .brk=>∃ σ' H',zQ X pins σ' H' s'/\D.bk σ' H'
 | .cont=>∃ σ' H',zQ X pins σ' H' s'/\D.ct σ' H'
 | .ret u=>∃ v σ' H',zQ X pins σ' H' s'/\zq v u/\D.rt v H'
def PE (X:Cx) (e:Expr) (t:TE):Prop:=
 ∀ (pins:List (Addr × Obj)) (s:Shared) (σ:St) (H:Hp) (Q:VK),zQ X pins σ H s->t σ H Q->wpAny (model X.prog X.w) X.A (eval e X.env) (EP X pins σ Q) X.xe s
def PT (X:Cx) (e:Expr) (t:TT):Prop:=
 ∀ (pins:List (Addr × Obj)) (s:Shared) (σ:St) (H:Hp) (Q:Bool->Hp->Prop),zQ X pins σ H s->t σ H Q->wpAny (model X.prog X.w) X.A (isTrue e X.env (eval e X.env)) (TP X pins σ Q) X.xe s
def PW (X:Cx) (e:Expr) (t:TT):Prop:=
 ∀ (whole:Sem Value) (pins:List (Addr × Obj)) (s:Shared) (σ:St) (H:Hp) (Q:Bool->Hp->Prop),zQ X pins σ H s->t σ H Q->wpAny (model X.prog X.w) X.A (isTrue e X.env whole) (TP X pins σ Q) X.xe s
theorem PW.pt {X:Cx} {e:Expr} {t:TT} (h:PW X e t):PT X e t:=h _
def PA (X:Cx) (es:List Expr) (t:TA):Prop:=
 ∀ (pos:Pos) (pins:List (Addr × Obj)) (s:Shared) (σ:St) (H:Hp) (Q:List V->Hp->Prop),zQ X pins σ H s->t σ H Q->wpAny (model X.prog X.w) X.A (spliced (backTo pos (starEach es X.env))) (AP X pins σ Q) X.xe s
def PS (X:Cx) (st:Stmt) (t:TS):Prop:=
 ∀ (pins:List (Addr × Obj)) (s:Shared) (σ:St) (H:Hp) (D:xx),zQ X pins σ H s->t D σ H->wpAny (model X.prog X.w) X.A (exec st X.env) (SP X pins D) X.xe s
def xc (X:Cx) (st:List Stmt) (t:TS):Prop:=
 ∀ (pins:List (Addr × Obj)) (s:Shared) (σ:St) (H:Hp) (D:xx),zQ X pins σ H s->t D σ H->wpAny (model X.prog X.w) X.A (execs st X.env) (SP X pins D) X.xe s
theorem yQ {α:Type} {t:Sem α} {Q Q':α->Shared->Prop} {M:Model} {A:Around} {E:Value->Shared->Prop} {s:Shared} (h:wpAny M A t Q E s) (hQ:∀ a s,Q a s->Q' a s):wpAny M A t Q' E s:=wpAny_mono h hQ λ_ _ x=>x
end L2
namespace L2
open PySem PySem.Spec PyProof.Rows
section
variable {X:Cx}
def Ys (i:Nat):TE:=λσ H Q=>∃ v,σ[i]? = some (some v)/\Q v H
def tC (v:V):TE:=λ_ H Q=>Q v H
theorem K4 {i:Nat} {x:Str} {pos:Pos} (hN:X.N[i]? = some x) (hv:ZK X.env.scope x) (hd:(x == ("__debug__" : Str))=false:=by decide) (hcd:(x == ("__classdict__" : Str))=false:=by decide):PE X (.Name x pos) (Ys i):=by
 intro pins s σ H Q I h
 obtain ⟨v,e,h⟩:=h
 obtain ⟨m,hn,hl⟩:=I.loc
 obtain ⟨u,r,l⟩:=hl i x v hN e hv
 have fin:EP X pins σ Q u s:=⟨v,H,I,r,h⟩
 rcases l with ⟨hk,hm⟩ | ⟨hk,c,hc,hcell⟩
 ·exact wpAny_Name (wpAny_loadName_local I.ok.kind hk hn hm fin) hd
 ·rcases hk with hk | hk
  ·exact wpAny_Name (wpAny_loadName_cell I.ok.kind hk hc hcell fin) hd
  ·exact wpAny_Name (wpAny_loadName_free I.ok.kind hk hc hcell fin hcd) hd
theorem zK {i j pos}:PE X (.Constant (.int i) j pos) (tC (.int i)):=λ_ _ _ H _ I h=>wpAny_Constant_int ⟨.int i,H,I.tok _,⟨_,rfl⟩,h⟩
theorem vH {b j pos}:PE X (.Constant (.bool b) j pos) (tC (.bl b)):=λ_ _ _ H _ I h=>Constant_bool ⟨.bl b,H,I,rfl,h⟩
theorem j5 {j pos}:PE X (.Constant .none j pos) (tC .non):=λ_ _ _ H _ I h=>Constant_none ⟨.non,H,I,rfl,h⟩
theorem U9 {x j pos}:PE X (.Constant (.str x) j pos) (tC (.str x)):=λ_ _ _ H _ I h=>Calls.Constant_str ⟨.str x,H,I.tok _,⟨_,rfl⟩,h⟩
def Gl (X:Cx) (x:Str):Prop:=X.env.kindOf x=some .globalImplicit
theorem qo {E:Value->Shared->Prop} {pins:List (Addr × Obj)} {s:Shared} {σ:St} {H:Hp} {x:Str} {u:Value} {pos:Pos} {Q:Value->Shared->Prop} (I:zQ X pins σ H s) (hg:Gl X x) (hm:X.mg x=some u) (h:Q u s)
  (hd:(x == ("__debug__" : Str))=false:=by decide):wpAny (model X.prog X.w) X.A (eval (.Name x pos) X.env) Q E s:=
 Calls.Name_function_global I.ok.kind hg (Calls.loadGlobal_global (by rw [I.ok.glob]; exact I.mod.glob.keeps I.bk) hm h) hd
theorem gX {E:Value->Shared->Prop} {pins:List (Addr × Obj)} {s:Shared} {σ:St} {H:Hp} {x:Str} {u:Value} {pos:Pos} {Q:Value->Shared->Prop} (I:zQ X pins σ H s) (hg:Gl X x) (hm:X.mg x=none) (hv:bootBuiltins x=some u) (h:Q u s)
  (hn:x≠"__name__":=by decide) (hd:(x == ("__debug__" : Str))=false:=by decide):wpAny (model X.prog X.w) X.A (eval (.Name x pos) X.env) Q E s:=by
 obtain ⟨mb,h1,h2⟩:=I.mod.blt
 exact Calls.Name_function_global I.ok.kind hg (Calls.loadGlobal_builtin (by rw [I.ok.glob]; exact I.mod.glob.keeps I.bk) hm (by rw [I.ok.blt]; exact h1.keeps I.bk) ((h2 x hn).trans hv) h) hd
theorem JA {x:Str} {v:V} {u:Value} {pos:Pos} (hg:Gl X x) (hm:X.mg x=some u) (r:zq v u) (hd:(x == ("__debug__" : Str))=false:=by decide):PE X (.Name x pos) (tC v):=
 λ_ _ _ H _ I h=>qo I hg hm ⟨v,H,I,r,h⟩ hd
theorem vN {x:Str} {v:V} {u:Value} {pos:Pos} (hg:Gl X x) (hm:X.mg x=none) (hv:bootBuiltins x=some u) (r:zq v u) (hn:x≠"__name__":=by decide) (hd:(x == ("__debug__" : Str))=false:=by decide):PE X (.Name x pos) (tC v):=
 λ_ _ _ H _ I h=>gX I hg hm hv ⟨v,H,I,r,h⟩ hn hd
variable {a b:Expr} {ta tb:TE} {pos:Pos}
def PC (X:Cx) (op:CmpOp) (a b:Expr) (t:TE):Prop:=
 ∀ (pins:List (Addr × Obj)) (s:Shared) (σ:St) (H:Hp) (Q:VK),zQ X pins σ H s->t σ H Q->
  wpAny (model X.prog X.w) X.A (eval a X.env) (λv s₁=>wpAny (model X.prog X.w) X.A (eval b X.env) (λu s₂=>wpAny (model X.prog X.w) X.A (compareOp op v u) (EP X pins σ Q) X.xe s₂) X.xe s₁) X.xe s
def tB (t:TE):TT:=λσ H Q=>t σ H λx H1=>∃ c,x=.bl c/\Q c H1
theorem K5 {op:CmpOp} {t:TE} (h:PC X op a b t) (h1:behindInMarks op b=false:=by first | exact nobehind _ (by decide) (by decide) | rfl):PT X (.Compare a [op] [b] pos) (tB t):=by
 intro pins s σ H Q I hw
 refine wpAny_isTrue_Compare1 (yQ (h pins s σ H _ I hw) λv s1 h1=>yQ h1 λu s2 h2=>yQ h2 λc s3 ⟨x,H1,I1,r1,q1⟩=>?_) h1
 obtain ⟨d,rfl,q⟩:=q1
 cases r1
 exact wpAny_truthy_bool ⟨H1,I1,q⟩
theorem xW {e:Expr} {t:TE} (h:PE X e t) (he:∀ whole,isTrue e X.env whole=(do let v <- whole; standAt e.pos; holding [v] (truthy v)):=by intro _; rfl):PT X e (tB t):=by
 intro pins s σ H Q I hw
 refine isTrue_plain (yQ (h pins s σ H _ I hw) λv s1 ⟨x,H1,I1,r1,q1⟩=>?_) (he _)
 obtain ⟨d,rfl,q⟩:=q1
 cases r1
 exact wpAny_truthy_bool ⟨H1,I1,q⟩
variable {tA tB':TT} {wk:List Expr}
def K6 (t u:TT):TT:=λσ H Q=>t σ H λc H1=>if c=true then Q true H1 else u σ H1 Q
def Yt (t:TT):TT:=λσ H Q=>t σ H λc H1=>Q (!c) H1
theorem uL (ha:PT X a tA):PW X (.BoolOp .Or [a] pos) tA:=by
 intro wh pins s σ H Q I h
 refine isTrue_or (yQ (ha pins s σ H Q I h) λc s1 e=>?_)
 cases c with
 | false=>exact isTrue_or_nil e
 | true=>exact e
theorem uE (ha:PT X a tA) (hb:PW X (.BoolOp .Or (b :: wk) pos) tB'):PW X (.BoolOp .Or (a :: b :: wk) pos) (K6 tA tB'):=by
 intro wh pins s σ H Q I h
 refine isTrue_or (yQ (ha pins s σ H _ I h) λc s1 ⟨H1,I1,q1⟩=>?_)
 cases c with
 | true=>exact ⟨H1,I1,q1⟩
 | false=>exact hb wh pins s1 σ H1 Q I1 q1
theorem wS (ha:PT X a tA):PT X (.UnaryOp .Not a pos) (Yt tA):=by
 intro pins s σ H Q I h
 exact isTrue_not (ha pins s σ H (λc H1=>Q (!c) H1) I h)
def gY (ta tb:TE):TE:=λσ H Q=>ta σ H λx H1=>∃ c,x=.bl c/\if c=true then tb σ H1 Q else Q (.bl false) H1
def gZ (ta:TE):TE:=λσ H Q=>ta σ H λx H1=>∃ c,x=.bl c/\Q (.bl (!c)) H1
theorem jh {op} {t:TE} (h:PE X a t):PE X (.BoolOp op [a] pos) t:=λpins s σ H Q I hw=>BoolOp_one (h pins s σ H Q I hw)
theorem ud (ha:PE X a ta) (hb:PE X (.BoolOp .And (b :: wk) pos) tb):PE X (.BoolOp .And (a :: b :: wk) pos) (gY ta tb):=by
 intro pins s σ H Q I h
 refine BoolOp_and (yQ (ha pins s σ H _ I h) λv s1 ⟨x,H1,I1,r1,q1⟩=>?_)
 obtain ⟨c,rfl,q1⟩:=q1
 cases r1
 refine wpAny_truthy_bool ?_
 cases c with
 | true=>exact hb pins s1 σ H1 Q I1 q1
 | false=>exact ⟨.bl false,H1,I1,rfl,q1⟩
theorem JB (ha:PE X a ta):PE X (.UnaryOp .Not a pos) (gZ ta):=by
 intro pins s σ H Q I h
 refine UnaryOp_ (yQ (ha pins s σ H _ I h) λv s1 ⟨x,H1,I1,r1,q1⟩=>?_)
 obtain ⟨c,rfl,q1⟩:=q1
 cases r1
 exact not_of (wpAny_truthy_bool ⟨.bl (!c),H1,I1,rfl,q1⟩)
def K8 (t:TT) (ta tb:TE):TE:=λσ H Q=>t σ H λc H1=>if c=true then ta σ H1 Q else tb σ H1 Q
theorem JC {c:Expr} (hc:PT X c tA) (ha:PE X a ta) (hb:PE X b tb):PE X (.IfExp c a b pos) (K8 tA ta tb):=by
 intro pins s σ H Q I h
 refine wpAny_IfExp (yQ (hc pins s σ H _ I h) λd s1 ⟨H1,I1,q1⟩=>?_)
 cases d with
 | true=>exact ha pins s1 σ H1 Q I1 q1
 | false=>exact hb pins s1 σ H1 Q I1 q1
end
end L2
namespace L2
open PySem PySem.Spec PyProof.Rows
def zJ (K:PySem.W.Frag) (H:Hp) (a:Addr) (xs:List V):Prop:=
 Rd H a (.lst xs)∨
  ∃ (o:Obj) (its:Array Value) (n:Nat),K.lookup a=some o/\o.cls=.type "list"/\o.dict=none/\o.data=.seq its n/\its.size<=sizeLine/\zf xs its.toList
def zT (K:PySem.W.Frag) (H:Hp) (a:Addr) (xs:List V):Prop:=
 Rd H a (.tup xs)∨
  ∃ (o:Obj) (its:Array Value) (n:Nat),K.lookup a=some o/\o.cls=.type "tuple"/\o.data=.seq its n/\its.size<=sizeLine/\zf xs its.toList
def Yu:Value->Option V
 | .none=>some .non
 | .bool b=>some (.bl b)
 | .int i _=>some (.int i)
 | .str x _=>some (.str x)
 | .bytes b _=>some (.byt b)
 | .float b _=>some (.flt b)
 | .ref a=>some (.ref a)
 | .type n=>some (.ty n)
 | _=>none
theorem zq.abs {x:V} {u:Value} (r:zq x u):Yu u=some x:=by
 cases x with
 | non=>cases r; rfl
 | bl _=>cases r; rfl
 | int _=>obtain ⟨t,rfl⟩:=r; rfl
 | str _=>obtain ⟨t,rfl⟩:=r; rfl
 | byt _=>obtain ⟨t,rfl⟩:=r; rfl
 | flt _=>obtain ⟨t,rfl⟩:=r; rfl
 | ref _=>cases r; rfl
 | ty _=>cases r; rfl
theorem zq.inj {x y:V} {u:Value} (r:zq x u) (q:zq y u):x=y:=Option.some.inj (r.abs.symm.trans q.abs)
theorem zf.inj:∀ {xs ys:List V} {us:List Value},zf xs us->zf ys us->xs=ys
 | _,_,_,.nil,.nil=>rfl
 | _,_,_,.cons r t,.cons r' t'=>by rw [r.inj r',zf.inj t t']
section
variable {X:Cx} {pins:List (Addr × Obj)} {σ:St} {H:Hp} {s:Shared} {a:Addr} {xs ys:List V}
theorem zJ.of {K:PySem.W.Frag} (h:H a=some (.lst xs)):zJ K H a xs:=.inl (.inl h)
theorem zT.of {K:PySem.W.Frag} (h:H a=some (.tup xs)):zT K H a xs:=.inl (.inl h)
theorem zQ.list (I:zQ X pins σ H s) (h:zJ X.K H a xs):∃ its:List Value,zf xs its/\PlainL s.heap a its.toArray/\xs.length<=sizeLine:=by
 rcases h with h | ⟨o,its,n,hk,hc,hd,hs,hz,r⟩
 ·obtain ⟨z,its,n,r,e⟩:=h.ok I.hok
  exact ⟨its,r,⟨_,n,e,rfl,rfl,rfl⟩,z⟩
 ·refine ⟨its.toList,r,⟨o,n,I.kIn a o hk,hc,hd,by simpa using hs⟩,?_⟩
  have e:=r.length
  simp only [Array.length_toList] at e
  omega
theorem zQ.tuple (I:zQ X pins σ H s) (h:zT X.K H a xs):∃ its:List Value,zf xs its/\IsTup s.heap a its.toArray/\xs.length<=sizeLine:=by
 rcases h with h | ⟨o,its,n,hk,hc,hs,hz,r⟩
 ·obtain ⟨z,its,r,p⟩:=h.ok I.hok
  exact ⟨its,r,p,z⟩
 ·refine ⟨its.toList,r,⟨o,I.kIn a o hk,hc,n,by simpa using hs⟩,?_⟩
  have e:=r.length
  simp only [Array.length_toList] at e
  omega
theorem zQ.list_inj (I:zQ X pins σ H s) (h:zJ X.K H a xs) (h':zJ X.K H a ys):xs=ys:=by
 obtain ⟨its,r,⟨o,n,e,_,_,d⟩,_⟩:=I.list h
 obtain ⟨its',r',⟨o',n',e',_,_,d'⟩,_⟩:=I.list h'
 rw [e] at e'; cases e'
 rw [d] at d'
 injection d' with d1 _
 have:its=its':=by simpa using congrArg Array.toList d1
 subst this
 exact r.inj r'
theorem zQ.tuple_inj (I:zQ X pins σ H s) (h:zT X.K H a xs) (h':zT X.K H a ys):xs=ys:=by
 obtain ⟨its,r,⟨o,e,_,n,d⟩,_⟩:=I.tuple h
 obtain ⟨its',r',⟨o',e',_,n',d'⟩,_⟩:=I.tuple h'
 rw [e] at e'; cases e'
 rw [d] at d'
 injection d' with d1 _
 have:its=its':=by simpa using congrArg Array.toList d1
 subst this
 exact r.inj r'
end
abbrev Cx.wish (X:Cx) (E:Value->Shared->Prop):Cx:={ X with xe:=E }
abbrev Cx.nox (X:Cx):Cx:=X.wish λ_ _=>False
theorem Cx.Ok.wish {X:Cx} (ok:X.Ok) (E:Value->Shared->Prop):(X.wish E).Ok:=
 ⟨ok.mod,ok.kind,ok.glob,ok.blt,ok.above,ok.inj,ok.has,ok.cab,ok.hd,ok.frames,ok.stk,ok.exf,ok.bs,ok.bsz,ok.noex,ok.exfs,ok.funs,ok.frf⟩
theorem Cx.Ok.unwish {X:Cx} {E:Value->Shared->Prop} (ok:(X.wish E).Ok):X.Ok:=
 ⟨ok.mod,ok.kind,ok.glob,ok.blt,ok.above,ok.inj,ok.has,ok.cab,ok.hd,ok.frames,ok.stk,ok.exf,ok.bs,ok.bsz,ok.noex,ok.exfs,ok.funs,ok.frf⟩
section
variable {X:Cx} {pins:List (Addr × Obj)} {σ:St} {H:Hp} {s:Shared} {E:Value->Shared->Prop}
theorem zQ.wish (I:zQ X pins σ H s) (E:Value->Shared->Prop):zQ (X.wish E) pins σ H s:=⟨I.ok.wish E,I.os,I.bare,I.base,I.loc,I.cell,I.free,I.freeC,I.pin,I.hok,I.len⟩
theorem zQ.unwish (I:zQ (X.wish E) pins σ H s):zQ X pins σ H s:=⟨I.ok.unwish,I.os,I.bare,I.base,I.loc,I.cell,I.free,I.freeC,I.pin,I.hok,I.len⟩
theorem SP.unwish {D:xx} {f:Flow} {s':Shared} (h:SP (X.wish E) pins D f s'):SP X pins D f s':=by
 cases f with
 | next=>obtain ⟨σ',H',I,q⟩:=h; exact ⟨σ',H',I.unwish,q⟩
 | brk=>obtain ⟨σ',H',I,q⟩:=h; exact ⟨σ',H',I.unwish,q⟩
 | cont=>obtain ⟨σ',H',I,q⟩:=h; exact ⟨σ',H',I.unwish,q⟩
 | ret u=>obtain ⟨v,σ',H',I,r,q⟩:=h; exact ⟨v,σ',H',I.unwish,r,q⟩
theorem xc.nox {st:List Stmt} {t:TS} (h:xc X.nox st t):xc X st t:=λpins s σ H D I hw=>
 wpAny_mono (h pins s σ H D (I.wish _) hw) (λ_ _ q=>q.unwish) λ_ _ z=>False.elim z
end
section
variable {X:Cx} {st:Stmt} {wk:List Stmt} {t u:TS} {e:Expr} {te:TE} {pos:Pos}
def gb:TS:=λD σ H=>D.nx σ H
def Yv (t u:TS):TS:=λD σ H=>t { D with nx:=u D } σ H
theorem yt:xc X [] gb:=λ_ _ σ H _ I h=>wpAny_execs_nil ⟨σ,H,I,h⟩
theorem zW (h1:PS X st t) (h2:xc X wk u):xc X (st :: wk) (Yv t u):=by
 intro pins s σ H D I h
 refine wpAny_execs_cons (yQ (h1 pins s σ H { D with nx:=u D } I h) λf s1 q=>?_)
 cases f with
 | next=>
  obtain ⟨σ',H',I',q⟩:=q
  exact h2 pins s1 σ' H' D I' q
 | ret v=>exact q
 | brk=>exact q
 | cont=>exact q
theorem zY (h1:PS X st t):xc X [st] t:=by
 intro pins s σ H D I h
 refine wpAny_execs_cons (yQ (h1 pins s σ H D I h) λf s1 q=>?_)
 cases f with
 | next=>exact wpAny_execs_nil q
 | ret v=>exact q
 | brk=>exact q
 | cont=>exact q
theorem zQ.quiet {pins:List (Addr × Obj)} {σ:St} {H:Hp} {s:Shared} (I:zQ X pins σ H s):interactive X.env=false:=by simp [interactive,I.ok.kind]
def gc (te:TE):TS:=λD σ H=>te σ H λ_ H1=>D.nx σ H1
theorem vB (he:PE X e te) (hs:swapsWith e none pos.line X.env=pure false:=by rfl):PS X (.Expr e pos) (gc te):=by
 intro pins s σ H D I h
 exact wpAny_Expr_any (yQ (he pins s σ H _ I h) λv s1 ⟨x,H1,I1,r1,q1⟩=>⟨σ,H1,I1,q1⟩) I.quiet hs
def Yw (te:TE):TS:=λD σ H=>te σ H D.rt
theorem yH (he:PE X e te):PS X (.Return (some e) pos) (Yw te):=by
 intro pins s σ H D I h
 exact wpAny_Return_some (yQ (he pins s σ H _ I h) λv s1 ⟨x,H1,I1,r1,q1⟩=>⟨x,σ,H1,I1,r1,q1⟩)
def Yx (c:TT) (t u:TS):TS:=λD σ H=>c σ H λb H1=>if b=true then t D σ H1 else u D σ H1
theorem yq {c:Expr} {a b:List Stmt} {tc:TT} (hc:PT X c tc) (ha:xc X a t) (hb:xc X b u):PS X (.If c a b pos) (Yx tc t u):=by
 intro pins s σ H D I h
 refine wpAny_If (yQ (hc pins s σ H _ I h) λd s1 ⟨H1,I1,q1⟩=>?_)
 cases d with
 | true=>exact ha pins s1 σ H1 D I1 q1
 | false=>exact hb pins s1 σ H1 D I1 q1
def K9:TS:=λ_ _ _=>False
theorem ZL:PS X st K9:=λ_ _ _ _ _ _ h=>h.elim
end
abbrev TG:=V->St->Hp->(St->Hp->Prop)->Prop
abbrev j6:=List V->St->Hp->(St->Hp->Prop)->Prop
def PG (X:Cx) (target:Expr) (t:TG):Prop:=
 ∀ (pins:List (Addr × Obj)) (s:Shared) (σ:St) (H:Hp) (v:V) (u:Value) (Q:St->Hp->Prop),zQ X pins σ H s->zq v u->t v σ H Q->
  wpAny (model X.prog X.w) X.A (assign target X.env u) (λ_ s'=>∃ σ' H',zQ X pins σ' H' s'/\Q σ' H') X.xe s
def ZM (X:Cx) (ts:List Expr) (t:j6):Prop:=
 ∀ (pins:List (Addr × Obj)) (s:Shared) (σ:St) (H:Hp) (vs:List V) (us:List Value) (Q:St->Hp->Prop),zQ X pins σ H s->zf vs us->t vs σ H Q->
  wpAny (model X.prog X.w) X.A (assignInOrder ((assignEach ts X.env).map (·.2)) us) (λ_ s'=>∃ σ' H',zQ X pins σ' H' s'/\Q σ' H') X.xe s
section
variable {X:Cx} {pos:Pos}
def uF (i:Nat):TG:=λv σ H Q=>Q (σ.set i (some v)) H
theorem zr {i:Nat} {x:Str} (hN:X.N.Nodup) (hi:X.N[i]? = some x) (hx:gU X.env.scope x) (hf:X.fn x=true\/X.env.scope.names.lookup x=some .local:=by first | exact .inl rfl | exact .inr rfl | assumption):PG X (.Name x pos) (uF i):=by
 intro pins s σ H v u Q I r h
 exact wpAny_assign_Name (gW I hN hi hx r (λs' I'=>⟨_,H,I',h⟩) hf)
def uM:j6:=λvs σ H Q=>vs=[]/\Q σ H
def ul (t:TG) (u:j6):j6:=λvs σ H Q=>∃ v r,vs=v :: r/\t v σ H λσ' H'=>u r σ' H' Q
theorem va:ZM X [] uM:=by
 intro pins s σ H vs us Q I r h
 obtain ⟨e,h⟩:=h
 subst e
 cases r
 exact assignInOrder_nil ⟨σ,H,I,h⟩
theorem yp {e:Expr} {es:List Expr} {t:TG} {u:j6} (h1:PG X e t) (h2:ZM X es u)
  (hs:(assignEach (e :: es) X.env).map (·.2)=assign e X.env :: (assignEach es X.env).map (·.2):=by rfl):ZM X (e :: es) (ul t u):=by
 intro pins s σ H vs us Q I r h
 obtain ⟨v,vr,e1,h⟩:=h
 subst e1
 cases r with
 | cons r rr=>
  rw [hs]
  refine assignInOrder_cons (yQ (h1 pins s σ H _ _ _ I r h) λ_ s1 ⟨σ1,H1,I1,q1⟩=>?_)
  exact h2 pins s1 σ1 H1 _ _ Q I1 rr q1
def uN (K:PySem.W.Frag) (n:Nat) (t:j6):TG:=λv σ H Q=>∃ a xs,v=.ref a/\zT K H a xs/\xs.length=n/\t xs σ H Q
theorem vb {es:List Expr} {k:Nat} {t:j6} {n:Nat} (hc:X.calm=true) (h:ZM X es t)
  (hn:(assignEach es X.env).length=n:=by rfl) (hst:(assignEach es X.env).findIdx? (·.1)=none:=by rfl):PG X (.Tuple es k pos) (uN X.K n t):=by
 intro pins s σ H v u Q I r hw
 obtain ⟨a,xs,e1,hq,hl,hw⟩:=hw
 subst e1
 cases r
 obtain ⟨its,rv,ht,hz⟩:=I.tuple hq
 refine assign_Tuple_tuple (I.ok.hd hc) ht (by simp [hn,<- hl,rv.length]) hst λh' hx=>?_
 have I1:zQ X pins σ H { s with heap:=h' }:=I.kept (t':=s.toks) λb o e=>hx b o (Nat.ne_of_lt (Heap.lt_size e)) e
 exact h pins _ σ H xs _ Q I1 (by simpa using rv) hw
def jQ (te:TE) (g:TG):TS:=λD σ H=>te σ H λx H1=>g x σ H1 D.nx
theorem qp {tg e:Expr} {te:TE} {g:TG} (he:PE X e te) (hg:PG X tg g) (hs:swapsWithSole [tg] e pos.line X.env=pure false:=by rfl) (hw:swappedStores [tg] e X.env=pure none:=by rfl)
  (h1:(assignEach [tg] X.env).map (·.2)=[assign tg X.env]:=by rfl):PS X (.Assign [tg] e pos) (jQ te g):=by
 intro pins s σ H D I h
 refine wpAny_Assign_stores (yQ (he pins s σ H _ I h) λv s1 ⟨x,H1,I1,r1,q1⟩=>?_) hs hw
 rw [h1]
 exact yQ (hg pins s1 σ H1 x v _ I1 r1 q1) λ_ s2 q=>q
theorem zy {i:Nat} {x:Str} {e:Expr} {te:TE} {pos':Pos} (hN:X.N.Nodup) (hi:X.N[i]? = some x) (hx:gU X.env.scope x) (he:PE X e te) (hs:swapsWith e (some (.Name x pos')) pos.line X.env=pure false:=by rfl) (hf:X.fn x=true\/X.env.scope.names.lookup x=some .local:=by first | exact .inl rfl | exact .inr rfl | assumption) :
  PS X (.Assign [.Name x pos'] e pos) (jQ te (uF i)):=by
 intro pins s σ H D I h
 refine wpAny_Assign_Name (yQ (he pins s σ H _ I h) λv s1 ⟨y,H1,I1,r1,q1⟩=>?_) hs
 exact gW I1 hN hi hx r1 (λs2 I2=>⟨_,H1,I2,q1⟩) hf
def Yy (i j:Nat) (ta:TA):TS:=λD σ H=>ta σ H λvs H1=>∃ v w,vs=[v,w]/\D.nx ((σ.set i (some v)).set j (some w)) H1
theorem zOa {i j:Nat} {x y:Str} {a b:Expr} {ta:TA} {px py pt:Pos} {kt k2 pt2} (hc:X.calm=true) (hN:X.N.Nodup) (hi:X.N[i]? = some x) (hj:X.N[j]? = some y) (hij:i≠j)
  (hx:X.env.scope.names.lookup x=some .local) (hy:X.env.scope.names.lookup y=some .local) (ha:PA X [a,b] ta)
  (hw:swappedStores [.Tuple [.Name x px,.Name y py] kt pt] (.Tuple [a,b] k2 pt2) X.env=pure (some [x,y]))
  (hs:swapsWithSole [.Tuple [.Name x px,.Name y py] kt pt] (.Tuple [a,b] k2 pt2) pos.line X.env=pure false:=by rfl) :
  PS X (.Assign [.Tuple [.Name x px,.Name y py] kt pt] (.Tuple [a,b] k2 pt2) pos) (Yy i j ta):=by
 intro pins s σ H D I h
 rw [exec_Assign_arm]
 refine wpAny_bind (wpAny_standAt ?_)
 rw [hs]
 refine wpAny_bind (wpAny_pure ?_)
 rw [if_neg (by decide)]
 refine wpAny_bind (Tuple_ (yQ (ha _ pins s σ H _ I h) λus s1 ⟨vs,H1,I1,r1,q1⟩=>?_))
 obtain ⟨v,w,e1,q1⟩:=q1
 subst e1
 obtain ⟨u1,u2,rfl,rv,rw'⟩:∃ u1 u2,us=[u1,u2]/\zq v u1/\zq w u2:=by
  cases r1 with
  | cons p q=>
   cases q with
   | cons p' q'=>
    cases q'
    exact ⟨_,_,rfl,p,p'⟩
 refine wpAny_newObj_type ?_ (by show 2<=sizeLine; decide)
 have I2:zQ X pins σ H1 { s1 with heap:=s1.heap.push { cls:=.type "tuple",data:=.seq [u1,u2].toArray } }:=I1.kept (t':=s1.toks) λb o e=>Heap.get?_push_of_some _ e
 rw [hw]
 refine wpAny_bind (wpAny_pure ?_)
 show wpAny (model X.prog X.w) X.A (do rule "assign.swapped-stores"; let items <- unpackItems (.ref s1.heap.objs.size) 2 none; assignInOrder [λv=>bindName X.env y v,λv=>bindName X.env x v] items.reverse; pure Flow.next) _ _ _
 refine wpAny_bind (wpAny_rule (wpAny_bind (unpackItems_tuple (items:=#[u1,u2]) (I.ok.hd hc) (IsTup.new s1.heap _) λh' hx'=>?_)))
 have I3:=I2.kept (h':=h') (t':=s1.toks) λb o e=>hx' b o (Nat.ne_of_lt (Heap.lt_size e)) e
 show wpAny _ _ (assignInOrder [λv=>bindName X.env y v,λv=>bindName X.env x v] [u2,u1] >>= λ_=>pure Flow.next) _ _ _
 refine wpAny_bind (assignInOrder_cons (wpAny_bindName (gW I3 hN hj (.inl hy) rw' (λs2 I4=>?_) (.inr hy))))
 refine assignInOrder_cons (wpAny_bindName (gW I4 hN hi (.inl hx) rv (λs3 I5=>assignInOrder_nil (wpAny_pure ?_)) (.inr hx)))
 rw [List.set_comm _ _ (Ne.symm hij)] at I5
 exact ⟨_,H1,I5,q1⟩
end
section
variable {X:Cx} {pos:Pos}
def JD (c:TT) (tb:TS):TS:=λD σ H=>∃ W:Nat->St->Hp->Prop,(∃ m,W m σ H)/\∀ m σ H,W m σ H->
 c σ H λb H1=>if b=true then ∃ N:St->Hp->Prop,(∀ σ' H',N σ' H'->∃ m',m' < m/\W m' σ' H')/\tb { D with nx:=N,ct:=N,bk:=D.nx } σ H1 else D.nx σ H1
theorem JE {c:Expr} {body:List Stmt} {tc:TT} {tb:TS} (hp:PassesOwn (model X.prog X.w) X.A X.env X.xe) (hc:PT X c tc) (hb:xc X body tb):PS X (.While c body [] pos) (JD tc tb):=by
 intro pins s σ H D I h
 obtain ⟨W,⟨m0,w0⟩,turn⟩:=h
 refine wpAny_While (codeAny_whileLoop (λn s'=>∃ σ' H',zQ X pins σ' H' s'/\W n σ' H') ?_ m0 ⟨σ,H,I,w0⟩)
 rintro n s1 ⟨σ1,H1,I1,w1⟩
 refine wpAny_passesOwn hp (yQ (hc pins s1 σ1 H1 _ I1 (turn n σ1 H1 w1)) λb s2 ⟨H2,I2,q2⟩=>?_)
 cases b with
 | true=>
  obtain ⟨N,hN,q2⟩:=q2
  rw [if_pos rfl]
  refine wpAny_passesOwn hp (yQ (hb pins s2 σ1 H2 _ I2 q2) λf s3 q3=>?_)
  cases f with
  | next=>
   obtain ⟨σ3,H3,I3,n3⟩:=q3
   obtain ⟨m',hm,w3⟩:=hN σ3 H3 n3
   exact ⟨m',hm,σ3,H3,I3,w3⟩
  | cont=>
   obtain ⟨σ3,H3,I3,n3⟩:=q3
   obtain ⟨m',hm,w3⟩:=hN σ3 H3 n3
   exact ⟨m',hm,σ3,H3,I3,w3⟩
  | brk=>exact q3
  | ret v=>exact q3
 | false=>
  rw [if_neg Bool.false_ne_true]
  exact wpAny_execs_nil ⟨σ1,H2,I2,q2⟩
end
structure It where
 go:Nat->Hp->Prop
 yld:Nat->Hp->V->Hp->Prop
 stop:Nat->Hp->Prop
def xG (X:Cx) (pins:List (Addr × Obj)) (H:Hp) (b:Addr):Prop:=
 H b=none/\b≠X.env.locals/\b∉X.fs/\(b∈X.ex\/X.s₀.heap.objs.size<=b)/\(∀ x c,X.env.cells.lookup x=some c->c≠b)/\∀ p∈X.pn++pins,p.1≠b
theorem zQ.fpOk {X:Cx} {pins:List (Addr × Obj)} {σ:St} {H H':Hp} {s:Shared} {b:Addr} (I:zQ X pins σ H s) (hb:s.heap.objs.size<=b) (hn:H' b=none):xG X pins H' b:=by
 refine ⟨hn,Nat.ne_of_gt (Nat.lt_of_lt_of_le I.lt hb),I.nofs hb,.inr (Nat.le_trans I.sz hb),λx c e z=>?_,λp hp z=>?_⟩
 ·obtain ⟨v,q⟩:=I.cell x c e
  exact absurd (Nat.lt_of_lt_of_le q.lt (by rw [z]; exact hb)) (Nat.lt_irrefl _)
 ·exact absurd (Nat.lt_of_lt_of_le (Heap.lt_size (I.pin p hp).1) (by rw [z]; exact hb)) (Nat.lt_irrefl _)
structure wW (P:Program) (w:World) (K:PySem.W.Frag) (tg:Expr) (J:It) (fp:List Addr) (it:Addr) (tn:Nat->Heap->Prop):Prop where
 mem:it∈fp
 obj:∀ i h,tn i h->∀ b∈fp,∃ o,h.get? b=some o/\∀ v,o.data≠.cell v
 keep:∀ i h h',tn i h->(∀ b∈fp,∀ o,h.get? b=some o->h'.get? b=some o)->tn i h'
 item:∀ (X:Cx),X.prog=P->X.w=w->X.K=K->X.calm=true->∀ (i:Nat) (pins:List (Addr × Obj)) (s:Shared) (σ:St) (H:Hp) (E:Value->Shared->Prop),zQ X pins σ H s->(∀ b∈fp,xG X pins H b)->tn i s.heap->J.go i H->
  wpAny (model P w) X.A (pyNext (.ref it)) (λr s1=>∃ u,r=some u∧
   wpAny (model P w) X.A (letOwnedTupleGo tg (.ref it) u) (λ_ s2=>∃ x H',zQ X pins σ H' s2/\zq x u/\J.yld i H x H'/\tn (i + 1) s2.heap/\∀ b∈fp,H' b=none) E s1) E s
 done:∀ (X:Cx),X.prog=P->X.w=w->X.K=K->X.calm=true->∀ (i:Nat) (pins:List (Addr × Obj)) (s:Shared) (σ:St) (H:Hp) (E:Value->Shared->Prop),zQ X pins σ H s->(∀ b∈fp,xG X pins H b)->tn i s.heap->J.stop i H->
  wpAny (model P w) X.A (pyNext (.ref it)) (λr s1=>r=none/\zQ X pins σ H s1) E s
 self:∀ (A:Around) (i:Nat) (s:Shared) (Q:Value->Shared->Prop) (E:Value->Shared->Prop),tn i s.heap->Q (.ref it) s->wpAny (model P w) A (pyIter (.ref it)) Q E s
abbrev TI:=St->Hp->(It->Hp->Prop)->Prop
def JG (X:Cx) (pins:List (Addr × Obj)) (σ:St) (tg:Expr) (R:It->Hp->Prop) (itv:Value) (s2:Shared):Prop:=
 ∃ (it:Addr) (fp:List Addr) (tn:Nat->Heap->Prop) (J:It) (H':Hp),itv=.ref it/\zQ X pins σ H' s2/\wW X.prog X.w X.K tg J fp it tn/\tn 0 s2.heap/\(∀ b∈fp,xG X pins H' b)/\R J H'
def PI (X:Cx) (tg iter:Expr) (wi:TI):Prop:=
 ∀ (pins:List (Addr × Obj)) (s:Shared) (σ:St) (H:Hp) (R:It->Hp->Prop),zQ X pins σ H s->wi σ H R->
  wpAny (model X.prog X.w) X.A (eval iter X.env) (λv s1=>wpAny (model X.prog X.w) X.A (pyIter v) (JG X pins σ tg R) X.xe s1) X.xe s
theorem Yz {M:Model} {A:Around} {E:Value->Shared->Prop} {s:Shared} {tg:Expr} {it:Addr} {u:Value} {o:Obj} {n:String} {vs:Array Value} {Q:Unit->Shared->Prop} (ho:s.heap.get? it=some o) (hc:o.cls=.type n) (hd:o.data=.fields vs)
  (hn:["enumerate","zip","dict_itemiterator","dict_reverseitemiterator","odict_iterator","itertools.zip_longest","itertools.pairwise"].contains n=false) (hQ:Q () s):wpAny M A (letOwnedTupleGo tg (.ref it) u) Q E s:=by
 unfold letOwnedTupleGo
 cases tg <;> first
  | exact wpAny_pure hQ
  | (cases u <;> first
    | exact wpAny_pure hQ
    | (refine wpAny_bind (wpAny_load ho ?_)
       rw [hc,hd]
       show wpAny M A (if (["enumerate","zip","dict_itemiterator","dict_reverseitemiterator","odict_iterator","itertools.zip_longest","itertools.pairwise"].contains n && vs[0]? == some (rawInt _))=true then _ else _) Q E s
       rw [if_neg (by intro h; rw [hn,Bool.false_and] at h; cases h)]
       exact wpAny_pure hQ))
def j7 (K:PySem.W.Frag) (a:Addr):It:=
 ⟨λi H=>∃ xs x,zJ K H a xs/\xs[i]? = some x,λi H x H'=>H'=H/\∀ xs,zJ K H a xs->xs[i]? = some x,λi H=>∃ xs,zJ K H a xs/\xs.length<=i⟩
def qr (K:PySem.W.Frag) (a:Addr):It:=
 ⟨λi H=>∃ xs x,zT K H a xs/\xs[i]? = some x,λi H x H'=>H'=H/\∀ xs,zT K H a xs->xs[i]? = some x,λi H=>∃ xs,zT K H a xs/\xs.length<=i⟩
def j8 (lo:Int) (n:Nat):It:=⟨λi _=>i < n,λi H x H'=>H'=H/\x=.int (lo + i),λi _=>n<=i⟩
theorem zKf {P:Program} {w:World} {K:PySem.W.Frag} {tg:Expr} (a it:Addr):wW P w K tg (j7 K a) [it] it (λi h=>h.IsListIter it a i) where
 mem:=by simp
 obj:=λi h st b hb=>by
  have e:b=it:=by simpa using hb
  subst e
  obtain ⟨o,e,c,d⟩:=st
  exact ⟨o,e,λv z=>by rw [d] at z; cases z⟩
 keep:=λi h h' st k=>st.at λo e=>k it (by simp) o e
 item:=by
  intro X hP hw hK hc i pins s σ H E I hf st hg
  subst hP hw hK
  obtain ⟨xs,x,hq,hx⟩:=hg
  obtain ⟨its,rv,p,hz⟩:=I.list hq
  obtain ⟨u,hu,ru⟩:=rv.get hx
  obtain ⟨f0,f1,f2,f3,f4,f5⟩:=hf it (by simp)
  refine wpAny_pyNext_list_item st p.isList (x:=u) (by simpa using hu) λh' st' sb=>?_
  have I1:zQ X pins σ H { s with heap:=h' }:=I.turned (t':=s.toks) (λb o hb e=>(sb.2 b hb).trans e) f0 f1 f3 f4 f5
  obtain ⟨o,e,c,d⟩:=id st'
  exact ⟨u,rfl,Yz (s:={ s with heap:=h' }) e c d (by decide) ⟨x,H,I1,ru,⟨rfl,λys hy=>by rw [I.list_inj hy hq]; exact hx⟩,st',λb hb=>(hf b hb).1⟩⟩
 done:=by
  intro X hP hw hK hc i pins s σ H E I hf st hg
  subst hP hw hK
  obtain ⟨xs,hq,hx⟩:=hg
  obtain ⟨its,rv,p,hz⟩:=I.list hq
  obtain ⟨f0,f1,f2,f3,f4,f5⟩:=hf it (by simp)
  have hl:=rv.length
  exact wpAny_pyNext_list_end (I.ok.hd hc) st p.isList (by simp; omega) λh' eb=>⟨rfl,I.turned (t':=s.toks) (λb o hb e=>eb b o hb e) f0 f1 f3 f4 f5⟩
 self:=λ_ _ _ _ _ st h=>wpAny_pyIter_listiter st h
theorem zJs {P:Program} {w:World} {K:PySem.W.Frag} {tg:Expr} (a it:Addr):wW P w K tg (qr K a) [it] it (λi h=>h.IsTupleIter it a i) where
 mem:=by simp
 obj:=λi h st b hb=>by
  have e:b=it:=by simpa using hb
  subst e
  obtain ⟨o,e,c,d⟩:=st
  exact ⟨o,e,λv z=>by rw [d] at z; cases z⟩
 keep:=λi h h' st k=>st.at λo e=>k it (by simp) o e
 item:=by
  intro X hP hw hK hc i pins s σ H E I hf st hg
  subst hP hw hK
  obtain ⟨xs,x,hq,hx⟩:=hg
  obtain ⟨its,rv,p,hz⟩:=I.tuple hq
  obtain ⟨u,hu,ru⟩:=rv.get hx
  obtain ⟨f0,f1,f2,f3,f4,f5⟩:=hf it (by simp)
  refine wpAny_pyNext_tuple_item st (show s.heap.IsTuple a its.toArray from p) (x:=u) (by simpa using hu) λh' st' sb=>?_
  have I1:zQ X pins σ H { s with heap:=h' }:=I.turned (t':=s.toks) (λb o hb e=>(sb.2 b hb).trans e) f0 f1 f3 f4 f5
  obtain ⟨o,e,c,d⟩:=id st'
  exact ⟨u,rfl,Yz (s:={ s with heap:=h' }) e c d (by decide) ⟨x,H,I1,ru,⟨rfl,λys hy=>by rw [I.tuple_inj hy hq]; exact hx⟩,st',λb hb=>(hf b hb).1⟩⟩
 done:=by
  intro X hP hw hK hc i pins s σ H E I hf st hg
  subst hP hw hK
  obtain ⟨xs,hq,hx⟩:=hg
  obtain ⟨its,rv,p,hz⟩:=I.tuple hq
  obtain ⟨f0,f1,f2,f3,f4,f5⟩:=hf it (by simp)
  have hl:=rv.length
  exact wpAny_pyNext_tuple_end (I.ok.hd hc) st (show s.heap.IsTuple a its.toArray from p) (by simp; omega) λh' eb=>⟨rfl,I.turned (t':=s.toks) (λb o hb e=>eb b o hb e) f0 f1 f3 f4 f5⟩
 self:=λ_ _ _ _ _ st h=>wpAny_pyIter_tupleiter st h
theorem zJt {P:Program} {w:World} {K:PySem.W.Frag} {tg:Expr} (it:Addr) (lo:Int) (n:Nat):wW P w K tg (j8 lo n) [it] it (λi h=>IsRangeIter h it (lo + (i:Nat) * 1) ((n:Int) - (i:Nat)) 1) where
 mem:=by simp
 obj:=λi h st b hb=>by
  have e:b=it:=by simpa using hb
  subst e
  exact ⟨_,st,λv z=>by
   have z':Data.fields _=Data.cell v:=z
   cases z'⟩
 keep:=λi h h' st k=>k it (by simp) _ st
 item:=by
  intro X hP hw hK hc i pins s σ H E I hf st hg
  subst hP hw hK
  obtain ⟨f0,f1,f2,f3,f4,f5⟩:=hf it (by simp)
  have W:=Walks.range (prog:=X.prog) (w:=X.w) (I.ok.hd hc) it lo 1 n
  refine W.item i s _ _ hg st λv h' tk hv st' kk=>?_
  obtain ⟨t,rfl⟩:=hv
  have I1:zQ X pins σ H { s with heap:=h',toks:=tk }:=I.turned (λb o hb e=>kk b o (by simpa using hb) e) f0 f1 f3 f4 f5
  refine ⟨_,rfl,Yz (s:={ s with heap:=h',toks:=tk }) (n:="range_iterator") st' rfl rfl (by decide) ⟨.int (lo + i),H,I1,⟨t,?_⟩,⟨rfl,rfl⟩,st',λb hb=>(hf b hb).1⟩⟩
  rw [Int.mul_one]
 done:=by
  intro X hP hw hK hc i pins s σ H E I hf st hg
  subst hP hw hK
  obtain ⟨f0,f1,f2,f3,f4,f5⟩:=hf it (by simp)
  exact wpAny_pyNext_range_end (I.ok.hd hc) st (by have:n<=i:=hg; omega) λh' eb=>⟨rfl,I.turned (t':=s.toks) (λb o hb e=>eb b o hb e) f0 f1 f3 f4 f5⟩
 self:=λ_ _ _ _ _ st h=>wpAny_pyIter_rangeiter st h
end L2
namespace L2
open PySem PySem.Spec PyProof.Rows
section
variable {X:Cx} {tg:Expr}
def gd (K:PySem.W.Frag) (tl:TE):TI:=λσ H R=>tl σ H λx H1=>∃ a,x=.ref a/\(∃ xs,zJ K H1 a xs)/\R (j7 K a) H1
def Y0 (K:PySem.W.Frag) (tl:TE):TI:=λσ H R=>tl σ H λx H1=>∃ a,x=.ref a/\(∃ xs,zT K H1 a xs)/\R (qr K a) H1
theorem xr {l:Expr} {tl:TE} (hl:PE X l tl):PI X tg l (gd X.K tl):=by
 intro pins s σ H R I h
 refine yQ (hl pins s σ H _ I h) λv s1 ⟨x,H1,I1,r1,q1⟩=>?_
 obtain ⟨a,e,⟨xs,hq⟩,q⟩:=q1
 subst e
 cases r1
 obtain ⟨its,rv,p,hz⟩:=I1.list hq
 refine wpAny_pyIter_list p.isList ?_
 refine ⟨s1.heap.objs.size,[s1.heap.objs.size],_,_,H1,rfl,I1.kept (t':=s1.toks) λb o e=>Heap.get?_push_of_some _ e,zKf a _,⟨_,Heap.get?_push_size _ rfl,rfl,rfl⟩,λb hb=>?_,q⟩
 have e:b=s1.heap.objs.size:=by simpa using hb
 subst e
 exact I1.fpOk (Nat.le_refl _) (I1.hok.fresh (Nat.le_refl _))
theorem j9 {l:Expr} {tl:TE} (hl:PE X l tl):PI X tg l (Y0 X.K tl):=by
 intro pins s σ H R I h
 refine yQ (hl pins s σ H _ I h) λv s1 ⟨x,H1,I1,r1,q1⟩=>?_
 obtain ⟨a,e,⟨xs,hq⟩,q⟩:=q1
 subst e
 cases r1
 obtain ⟨its,rv,p,hz⟩:=I1.tuple hq
 refine wpAny_pyIter_tuple (show s1.heap.IsTuple a its.toArray from p) ?_
 refine ⟨s1.heap.objs.size,[s1.heap.objs.size],_,_,H1,rfl,I1.kept (t':=s1.toks) λb o e=>Heap.get?_push_of_some _ e,zJs a _,⟨_,Heap.get?_push_size _ rfl,rfl,rfl⟩,λb hb=>?_,q⟩
 have e:b=s1.heap.objs.size:=by simpa using hb
 subst e
 exact I1.fpOk (Nat.le_refl _) (I1.hok.fresh (Nat.le_refl _))
theorem zMQ {pins:List (Addr × Obj)} {σ:St} {H:Hp} {s:Shared} {R:It->Hp->Prop} {E:Value->Shared->Prop} {lo hi:Int} {t u v:Tok} {tk:Nat} (I:zQ X pins σ H s) (h1 : -(2 ^ 62)<=lo) (h2:lo < 2 ^ 62) (h3 : -(2 ^ 62)<=hi) (h4:hi < 2 ^ 62)
  (q:R (j8 lo (hi - lo).toNat) H):wpAny (model X.prog X.w) X.A (pyIter (.ref s.heap.objs.size)) (JG X pins σ tg R) E { s with heap:=s.heap.push { cls:=.type "range",data:=.fields #[.int lo t,.int hi u,.int 1 v] },toks:=tk }:=by
 refine wpAny_pyIter_range (IsRange.new ..) (small_one h1 h2 h3 h4) ?_
 have I1:zQ X pins σ H { s with heap:=s.heap.push { cls:=.type "range",data:=.fields #[.int lo t,.int hi u,.int 1 v] },toks:=tk }:=I.kept λb o e=>Heap.get?_push_of_some _ e
 refine ⟨(s.heap.push { cls:=.type "range",data:=.fields #[.int lo t,.int hi u,.int 1 v] }).objs.size,[(s.heap.push { cls:=.type "range",data:=.fields #[.int lo t,.int hi u,.int 1 v] }).objs.size],_,_,H,rfl,
  I1.kept (t':=tk) λb o e=>Heap.get?_push_of_some _ e,zJt _ lo (hi - lo).toNat,?_,λb hb=>?_,q⟩
 ·have e1:lo + ((0:Nat):Int) * 1=lo:=by simp
  have e2:(((hi - lo).toNat:Nat):Int) - ((0:Nat):Int)=Builtin.Range.rangeSize lo hi 1:=by rw [rangeSize_one]; split <;> omega
  show IsRangeIter _ _ (lo + ((0:Nat):Int) * 1) ((((hi - lo).toNat:Nat):Int) - ((0:Nat):Int)) 1
  rw [e1,e2]
  exact Heap.get?_push_size _ rfl
 ·have e:b=(s.heap.push { cls:=.type "range",data:=.fields #[.int lo t,.int hi u,.int 1 v] }).objs.size:=by simpa using hb
  subst e
  exact I1.fpOk (Nat.le_refl _) (I1.hok.fresh (Nat.le_refl _))
def gf (ta:TA):TI:=λσ H R=>ta σ H λvs H1=>∃ j:Int,vs=[.int j]/\-(2 ^ 62)<=j/\j < 2 ^ 62/\R (j8 0 j.toNat) H1
theorem wX {a:Expr} {ta:TA} {p pos:Pos} (hg:Gl X "range") (hm:X.mg "range" = none) (ha:PA X [a] ta) (hs:starEach [a] X.env=[(false,eval a X.env)]:=by rfl):PI X tg (.Call (.Name "range" p) [a] [] pos) (gf ta):=by
 intro pins s σ H R I h
 refine Call_ (gX I hg hm boot_range (PyProof.Rows.callWith_type1 (yQ (ha pos pins s σ H _ I h) λus s1 ⟨vs,H1,I1,r1,q1⟩=>?_) hs rfl))
 obtain ⟨j,e,q1,q2,q⟩:=q1
 subst e
 cases r1 with
 | cons r rr=>
  cases rr
  obtain ⟨t,rfl⟩:=r
  exact call_range_1 (zMQ I1 (by omega) (by omega) q1 q2 (by simpa using q))
def Y1 (wi:TI) (g:TG) (tb:TS):TS:=λD σ H=>wi σ H λJ H1=>∃ W:Nat->Nat->St->Hp->Prop,(∃ m,W 0 m σ H1)/\∀ i m σ H,W i m σ H->
 (J.stop i H/\D.nx σ H)\/(J.go i H/\∃ N:St->Hp->Prop,(∀ σ' H',N σ' H'->∃ m',m' < m/\W (i + 1) m' σ' H')/\∀ x H',J.yld i H x H'->g x σ H' λσ2 H2=>tb { D with nx:=N,ct:=N,bk:=D.nx } σ2 H2)
def qt (fp:List Addr) (h:Heap):List (Addr × Obj):=fp.filterMap λb=>(h.get? b).map λo=>(b,o)
theorem jk {fp:List Addr} {h:Heap} {b:Addr} {o:Obj} (hb:b∈fp) (e:h.get? b=some o):(b,o)∈qt fp h:=List.mem_filterMap.mpr ⟨b,hb,by rw [e]; rfl⟩
theorem zLQ {fp:List Addr} {h:Heap} {p:Addr × Obj} (hp:p∈qt fp h):p.1∈fp/\h.get? p.1=some p.2:=by
 obtain ⟨b,hb,e⟩:=List.mem_filterMap.mp hp
 cases q:h.get? b with
 | none=>rw [q] at e; cases e
 | some o=>
  rw [q] at e
  have e':(b,o)=p:=Option.some.inj e
  subst e'
  exact ⟨hb,q⟩
theorem zQ.pinned {pins:List (Addr × Obj)} {σ:St} {H:Hp} {s:Shared} {fp:List Addr} (I:zQ X pins σ H s) (hf:∀ b∈fp,xG X pins H b) (ho:∀ b∈fp,∃ o,s.heap.get? b=some o/\∀ v,o.data≠.cell v):zQ X (pins++qt fp s.heap) σ H s:=
 I.pins_of λp hp=>(List.mem_append.mp hp).elim (λz=>I.pin p (List.mem_append_right _ z)) λz=>by
  obtain ⟨hb,e⟩:=zLQ z
  obtain ⟨f0,f1,f2,_⟩:=hf p.1 hb
  obtain ⟨o,e',d⟩:=ho p.1 hb
  rw [e] at e'; cases e'
  exact ⟨e,f0,f1,f2,d⟩
theorem zQ.unpinned {pins pl:List (Addr × Obj)} {σ:St} {H:Hp} {s:Shared} (I:zQ X (pins++pl) σ H s):zQ X pins σ H s:=I.pins_of λp hp=>I.pin p (List.mem_append_right _ (List.mem_append_left _ hp))
theorem wI {iter:Expr} {body:List Stmt} {wi:TI} {g:TG} {tb:TS} {pos:Pos} (hp:PassesOwn (model X.prog X.w) X.A X.env X.xe) (hc:X.calm=true) (hi:PI X tg iter wi) (hg:PG X tg g) (hb:xc X body tb)
  (hs:∀ x,foldedSetIterable iter X.env x=pure x:=by intro _; rfl):PS X (.For tg iter body [] pos) (Y1 wi g tb):=by
 intro pins s σ H D I h
 refine wpAny_For (yQ (hi pins s σ H _ I h) λv s1 h1=>yQ h1 λitv s2 h2=>?_) hs
 obtain ⟨it,fp,tn,J,H2,e,I2,T,st2,f2,W,⟨m0,w0⟩,turn⟩:=h2
 subst e
 have stat:∀ {H':Hp},(∀ b∈fp,H' b=none)->∀ b∈fp,xG X pins H' b:=λhn b hb=>⟨hn b hb,(f2 b hb).2⟩
 refine codeAny_forLoop_any (λn s'=>∃ i σ' H',zQ X pins σ' H' s'/\tn i s'.heap/\(∀ b∈fp,H' b=none)/\W i n σ' H') ?_ m0 ⟨0,σ,H2,I2,st2,λb hb=>(f2 b hb).1,w0⟩
 rintro n s3 ⟨i,σ3,H3,I3,st3,fr3,w3⟩
 rcases turn i n σ3 H3 w3 with ⟨stop,qn⟩ | ⟨go,N,hN,step⟩
 ·refine wpAny_passesOwn hp (yQ (T.done X rfl rfl rfl hc i pins s3 σ3 H3 X.xe I3 (stat fr3) st3 stop) λr s4 ⟨hr,I4⟩=>?_)
  subst hr
  exact wpAny_execs_nil ⟨σ3,H3,I4,qn⟩
 ·refine wpAny_passesOwn hp (yQ (T.item X rfl rfl rfl hc i pins s3 σ3 H3 X.xe I3 (stat fr3) st3 go) λr s4 ⟨u,hr,h4⟩=>?_)
  subst hr
  refine wpAny_passesOwn hp (yQ h4 λ_ s5 ⟨x,H5,I5,r5,y5,st5,fr5⟩=>?_)
  have I5':=I5.pinned (stat fr5) (T.obj _ _ st5)
  refine wpAny_passesOwn hp (yQ (hg _ s5 σ3 H5 x u _ I5' r5 (step x H5 y5)) λ_ s6 ⟨σ6,H6,I6,q6⟩=>?_)
  refine wpAny_passesOwn hp (yQ (hb _ s6 σ6 H6 _ I6 q6) λf s7 q7=>?_)
  have again:∀ {σ7:St} {H7:Hp},zQ X (pins++qt fp s5.heap) σ7 H7 s7->N σ7 H7->∃ m,m < n/\∃ i σ' H',zQ X pins σ' H' s7/\tn i s7.heap/\(∀ b∈fp,H' b=none)/\W i m σ' H':=λ{σ7 H7} I7 n7=>by
   obtain ⟨m',hm,w7⟩:=hN σ7 H7 n7
   refine ⟨m',hm,i + 1,σ7,H7,I7.unpinned,T.keep _ _ _ st5 λb hb o e=>(I7.pin (b,o) (List.mem_append_right _ (List.mem_append_right _ (jk hb e)))).1,λb hb=>?_,w7⟩
   obtain ⟨o,e,d⟩:=T.obj _ _ st5 b hb
   exact (I7.pin (b,o) (List.mem_append_right _ (List.mem_append_right _ (jk hb e)))).2.1
  cases f with
  | next=>obtain ⟨σ7,H7,I7,n7⟩:=q7; exact again I7 n7
  | cont=>obtain ⟨σ7,H7,I7,n7⟩:=q7; exact again I7 n7
  | brk=>obtain ⟨σ7,H7,I7,q7⟩:=q7; exact ⟨σ7,H7,I7.unpinned,q7⟩
  | ret v=>obtain ⟨x7,σ7,H7,I7,r7,q7⟩:=q7; exact ⟨x7,σ7,H7,I7.unpinned,r7,q7⟩
end
theorem jR {K:PySem.W.Frag} {a:Addr} {xs:List V} {g:TG} {tb:TS} {D:xx} {σ:St} {H:Hp} (Pv:Nat->St->Hp->Prop) (h0:Pv 0 σ H) (hl:∀ i σ H,i<=xs.length->Pv i σ H->zJ K H a xs)
  (hs:∀ i x σ H,xs[i]? = some x->Pv i σ H->g x σ H λσ2 H2=>tb { D with nx:=Pv (i + 1),ct:=Pv (i + 1),bk:=D.nx } σ2 H2) (hd:∀ σ H,Pv xs.length σ H->D.nx σ H) :
  ∃ W:Nat->Nat->St->Hp->Prop,(∃ m,W 0 m σ H)/\∀ i m σ H,W i m σ H->
   ((j7 K a).stop i H/\D.nx σ H)\/((j7 K a).go i H/\∃ N:St->Hp->Prop,(∀ σ' H',N σ' H'->∃ m',m' < m/\W (i + 1) m' σ' H')/\∀ x H',(j7 K a).yld i H x H'->g x σ H' λσ2 H2=>tb { D with nx:=N,ct:=N,bk:=D.nx } σ2 H2):=by
 refine ⟨λi m σ H=>m=xs.length - i/\i<=xs.length/\Pv i σ H,⟨xs.length,by simp,Nat.zero_le _,h0⟩,?_⟩
 rintro i m σ H ⟨rfl,hi,p⟩
 have q:=hl i σ H hi p
 by_cases hlt:i < xs.length
 ·refine .inr ⟨⟨xs,xs[i],q,by simp [hlt]⟩,Pv (i + 1),λσ' H' p'=>⟨xs.length - (i + 1),by omega,rfl,hlt,p'⟩,λx H' y=>?_⟩
  obtain ⟨e,y⟩:=y
  subst e
  exact hs i x σ _ (y xs q) p
 ·have e:i=xs.length:=by omega
  subst e
  exact .inl ⟨⟨xs,q,Nat.le_refl _⟩,hd σ H p⟩
theorem zN1 {K:PySem.W.Frag} {a:Addr} {xs:List V} {g:TG} {tb:TS} {D:xx} {σ:St} {H:Hp} (Pv:Nat->St->Hp->Prop) (h0:Pv 0 σ H) (hl:∀ i σ H,i<=xs.length->Pv i σ H->zT K H a xs)
  (hs:∀ i x σ H,xs[i]? = some x->Pv i σ H->g x σ H λσ2 H2=>tb { D with nx:=Pv (i + 1),ct:=Pv (i + 1),bk:=D.nx } σ2 H2) (hd:∀ σ H,Pv xs.length σ H->D.nx σ H) :
  ∃ W:Nat->Nat->St->Hp->Prop,(∃ m,W 0 m σ H)/\∀ i m σ H,W i m σ H->
   ((qr K a).stop i H/\D.nx σ H)\/((qr K a).go i H/\∃ N:St->Hp->Prop,(∀ σ' H',N σ' H'->∃ m',m' < m/\W (i + 1) m' σ' H')/\∀ x H',(qr K a).yld i H x H'->g x σ H' λσ2 H2=>tb { D with nx:=N,ct:=N,bk:=D.nx } σ2 H2):=by
 refine ⟨λi m σ H=>m=xs.length - i/\i<=xs.length/\Pv i σ H,⟨xs.length,by simp,Nat.zero_le _,h0⟩,?_⟩
 rintro i m σ H ⟨rfl,hi,p⟩
 have q:=hl i σ H hi p
 by_cases hlt:i < xs.length
 ·refine .inr ⟨⟨xs,xs[i],q,by simp [hlt]⟩,Pv (i + 1),λσ' H' p'=>⟨xs.length - (i + 1),by omega,rfl,hlt,p'⟩,λx H' y=>?_⟩
  obtain ⟨e,y⟩:=y
  subst e
  exact hs i x σ _ (y xs q) p
 ·have e:i=xs.length:=by omega
  subst e
  exact .inl ⟨⟨xs,q,Nat.le_refl _⟩,hd σ H p⟩
theorem uO {lo:Int} {n:Nat} {g:TG} {tb:TS} {D:xx} {σ:St} {H:Hp} (Pv:Nat->St->Hp->Prop) (h0:Pv 0 σ H)
  (hs:∀ i σ H,i < n->Pv i σ H->g (.int (lo + i)) σ H λσ2 H2=>tb { D with nx:=Pv (i + 1),ct:=Pv (i + 1),bk:=D.nx } σ2 H2) (hd:∀ σ H,Pv n σ H->D.nx σ H) :
  ∃ W:Nat->Nat->St->Hp->Prop,(∃ m,W 0 m σ H)/\∀ i m σ H,W i m σ H->
   ((j8 lo n).stop i H/\D.nx σ H)\/((j8 lo n).go i H/\∃ N:St->Hp->Prop,(∀ σ' H',N σ' H'->∃ m',m' < m/\W (i + 1) m' σ' H')/\∀ x H',(j8 lo n).yld i H x H'->g x σ H' λσ2 H2=>tb { D with nx:=N,ct:=N,bk:=D.nx } σ2 H2):=by
 refine ⟨λi m σ H=>m=n - i/\i<=n/\Pv i σ H,⟨n,by simp,Nat.zero_le _,h0⟩,?_⟩
 rintro i m σ H ⟨rfl,hi,p⟩
 by_cases hlt:i < n
 ·refine .inr ⟨hlt,Pv (i + 1),λσ' H' p'=>⟨n - (i + 1),by omega,rfl,hlt,p'⟩,λx H' y=>?_⟩
  obtain ⟨e,y⟩:=y
  subst e y
  exact hs i σ _ hlt p
 ·have e:i=n:=by omega
  subst e
  exact .inl ⟨Nat.le_refl _,hd σ H p⟩
theorem JH {c:TT} {tb:TS} {D:xx} {σ:St} {H:Hp} (Pv:St->Hp->Prop) (μ:St->Hp->Nat) (h0:Pv σ H)
  (hs:∀ σ H,Pv σ H->c σ H λb H1=>if b=true then tb { D with nx:=λσ' H'=>Pv σ' H'/\μ σ' H' < μ σ H,ct:=λσ' H'=>Pv σ' H'/\μ σ' H' < μ σ H,bk:=D.nx } σ H1 else D.nx σ H1)
  (mono:∀ σ H Q Q',(∀ b H1,Q b H1->Q' b H1)->c σ H Q->c σ H Q'):JD c tb D σ H:=by
 refine ⟨λm σ H=>m=μ σ H/\Pv σ H,⟨_,rfl,h0⟩,?_⟩
 rintro m σ H ⟨rfl,p⟩
 refine mono σ H _ _ (λb H1 q=>?_) (hs σ H p)
 cases b with
 | true=>exact ⟨_,λσ' H' ⟨p',l⟩=>⟨_,l,rfl,p'⟩,q⟩
 | false=>exact q
end L2
namespace L2
open PySem PySem.Spec PyProof.Rows
abbrev R2:=V->V->Hp->VK->Prop
def xj (X:Cx) (f:Value->Value->Sem Value) (r:R2):Prop:=
 ∀ (pins:List (Addr × Obj)) (s:Shared) (σ:St) (H:Hp) (x y:V) (v u:Value) (Q:VK),zQ X pins σ H s->zq x v->zq y u->r x y H Q->
  wpAny (model X.prog X.w) X.A (f v u) (EP X pins σ Q) X.xe s
def Y2 (X:Cx) (f:Value->Sem Value) (r:V->Hp->VK->Prop):Prop:=
 ∀ (pins:List (Addr × Obj)) (s:Shared) (σ:St) (H:Hp) (x:V) (v:Value) (Q:VK),zQ X pins σ H s->zq x v->r x H Q->
  wpAny (model X.prog X.w) X.A (f v) (EP X pins σ Q) X.xe s
def vC (X:Cx) (f:Value) (r:List V->Hp->VK->Prop):Prop:=
 ∀ (pins:List (Addr × Obj)) (s:Shared) (σ:St) (H:Hp) (xs:List V) (us:List Value) (Q:VK),zQ X pins σ H s->zf xs us->r xs H Q->
  wpAny (model X.prog X.w) X.A (call f us) (EP X pins σ Q) X.xe s
def ZN (r:R2) (ta tb:TE):TE:=λσ H Q=>ta σ H λx H1=>tb σ H1 λy H2=>r x y H2 Q
def tUn (r:V->Hp->VK->Prop) (ta:TE):TE:=λσ H Q=>ta σ H λx H1=>r x H1 Q
def rI (C:Int->Int->Prop) (g:Int->Int->V):R2:=λx y H Q=>∃ i j,x=.int i/\y=.int j/\C i j/\Q (g i j) H
def jS (g:Int->Int->V):R2:=λx y H Q=>∃ i j,x=.int i/\y=.int j/\Q (g i j) H
def rU (g:Int->V):V->Hp->VK->Prop:=λx H Q=>∃ i,x=.int i/\Q (g i) H
section
variable {X:Cx} {a b c:Expr} {ta tb tc:TE} {pos:Pos}
theorem qA (ha:PE X a ta) (hb:PE X b tb) {pins:List (Addr × Obj)} {s:Shared} {σ:St} {H:Hp} {R:V->V->Hp->Prop} (I:zQ X pins σ H s)
  (h:ta σ H λx H1=>tb σ H1 λy H2=>R x y H2) {Q:Value->Shared->Prop} {f:Value->Value->Sem Value}
  (hf:∀ v u s2 x y H2,zQ X pins σ H2 s2->zq x v->zq y u->R x y H2->wpAny (model X.prog X.w) X.A (f v u) Q X.xe s2) :
  wpAny (model X.prog X.w) X.A (eval a X.env) (λv s₁=>wpAny (model X.prog X.w) X.A (eval b X.env) (λu s₂=>wpAny (model X.prog X.w) X.A (f v u) Q X.xe s₂) X.xe s₁) X.xe s:=by
 refine yQ (ha pins s σ H _ I h) λv s1 ⟨x,H1,I1,r1,q1⟩=>?_
 refine yQ (hb pins s1 σ H1 _ I1 q1) λu s2 ⟨y,H2,I2,r2,q2⟩=>?_
 exact hf v u s2 x y H2 I2 r1 r2 q2
theorem zV {op:Operator} {r:R2} (ho:xj X (binaryOp op) r) (ha:PE X a ta) (hb:PE X b tb):PE X (.BinOp a op b pos) (ZN r ta tb):=by
 intro pins s σ H Q I h
 exact wpAny_BinOp (qA ha hb I h λv u s2 x y H2 I2 rx ry q=>ho pins s2 σ H2 x y v u Q I2 rx ry q)
theorem xD {op:UnaryOp} {r:V->Hp->VK->Prop} (ho:Y2 X (unaryOp op) r) (ha:PE X a ta):PE X (.UnaryOp op a pos) (tUn r ta):=by
 intro pins s σ H Q I h
 exact UnaryOp_ (yQ (ha pins s σ H _ I h) λv s1 ⟨x,H1,I1,r1,q1⟩=>ho pins s1 σ H1 x v Q I1 r1 q1)
theorem ZO {f:Value->Value->Sem Value} {C:Int->Int->Prop} {g:Int->Int->Int}
  (rule:∀ (i j:Int) (t u:Tok) (s:Shared) (Q:Value->Shared->Prop) (E:Value->Shared->Prop),C i j->Q (.int (g i j) s.toks) { s with toks:=s.toks + 1 }->wpAny (model X.prog X.w) X.A (f (.int i t) (.int j u)) Q E s) :
  xj X f (rI C λi j=>.int (g i j)):=by
 intro pins s σ H x y v u Q I rx ry h
 obtain ⟨i,j,rfl,rfl,hc,q⟩:=h
 obtain ⟨t,rfl⟩:=rx
 obtain ⟨t',rfl⟩:=ry
 exact rule i j t t' s _ _ hc ⟨.int (g i j),H,I.tok _,⟨_,rfl⟩,q⟩
theorem gg {f:Value->Value->Sem Value} {g:Int->Int->Int}
  (rule:∀ (i j:Int) (t u:Tok) (s:Shared) (Q:Value->Shared->Prop) (E:Value->Shared->Prop),Q (.int (g i j) s.toks) { s with toks:=s.toks + 1 }->wpAny (model X.prog X.w) X.A (f (.int i t) (.int j u)) Q E s) :
  xj X f (jS λi j=>.int (g i j)):=by
 intro pins s σ H x y v u Q I rx ry h
 obtain ⟨i,j,rfl,rfl,q⟩:=h
 obtain ⟨t,rfl⟩:=rx
 obtain ⟨t',rfl⟩:=ry
 exact rule i j t t' s _ _ ⟨.int (g i j),H,I.tok _,⟨_,rfl⟩,q⟩
theorem jT {f:Value->Value->Sem Value} {g:Int->Int->Bool}
  (rule:∀ (i j:Int) (t u:Tok) (s:Shared) (Q:Value->Shared->Prop) (E:Value->Shared->Prop),Q (.bool (g i j)) s->wpAny (model X.prog X.w) X.A (f (.int i t) (.int j u)) Q E s) :
  xj X f (jS λi j=>.bl (g i j)):=by
 intro pins s σ H x y v u Q I rx ry h
 obtain ⟨i,j,rfl,rfl,q⟩:=h
 obtain ⟨t,rfl⟩:=rx
 obtain ⟨t',rfl⟩:=ry
 exact rule i j t t' s _ _ ⟨.bl (g i j),H,I,rfl,q⟩
def Y3 (i j:Int):Prop:=0<=j/\j<=1000000/\i.natAbs < 2 ^ 64
theorem yz:xj X (binaryOp .Add) (jS λi j=>.int (i + j)):=gg λ_ _ _ _ _ _ _ q=>add_int q
theorem wz:xj X (binaryOp .Sub) (jS λi j=>.int (i - j)):=gg λ_ _ _ _ _ _ _ q=>sub_int q
theorem wA:xj X (binaryOp .Mod) (rI (λ_ j=>j≠0) λi j=>.int (i.fmod j)):=ZO λ_ _ _ _ _ _ _ hc q=>mod_int' hc q
theorem jm:xj X (binaryOp .Pow) (rI Y3 λi j=>.int (i ^ j.toNat)):=ZO λ_ _ _ _ _ _ _ hc q=>pow_int_small hc.1 hc.2.1 hc.2.2 q
theorem unI {f:Value->Sem Value} {g:Int->Int}
  (rule:∀ (i:Int) (t:Tok) (s:Shared) (Q:Value->Shared->Prop) (E:Value->Shared->Prop),Q (.int (g i) s.toks) { s with toks:=s.toks + 1 }->wpAny (model X.prog X.w) X.A (f (.int i t)) Q E s) :
  Y2 X f (rU λi=>.int (g i)):=by
 intro pins s σ H x v Q I rx h
 obtain ⟨i,rfl,q⟩:=h
 obtain ⟨t,rfl⟩:=rx
 exact rule i t s _ _ ⟨.int (g i),H,I.tok _,⟨_,rfl⟩,q⟩
theorem xE:Y2 X (unaryOp .USub) (rU λi=>.int (-i)):=unI λ_ _ _ _ _ q=>neg_int q
end
def gh:V->V->Bool
 | .non,.non=>true | .non,.int _=>true | .int _,.non=>true | .non,.bl _=>true | .bl _,.non=>true | .non,.str _=>true | .str _,.non=>true
 | .int _,.int _=>true | .bl _,.bl _=>true | .str _,.str _=>true | .byt _,.byt _=>true
 | .int _,.str _=>true | .str _,.int _=>true | .bl _,.str _=>true | .str _,.bl _=>true
 | _,_=>false
def rEq:R2:=λx y H Q=>gh x y=true/\Q (.bl (decide (x=y))) H
def rNe:R2:=λx y H Q=>gh x y=true/\Q (.bl (!decide (x=y))) H
theorem JJ {i j:Int}:decide (V.int i=V.int j)=(i == j):=by
 rw [Bool.eq_iff_iff]
 simp
theorem JK {i j:Bool}:decide (V.bl i=V.bl j)=(i == j):=by
 rw [Bool.eq_iff_iff]
 simp
theorem JL {i j:Str}:decide (V.str i=V.str j)=(i == j):=by
 rw [Bool.eq_iff_iff]
 simp
theorem JO {i j:Array UInt8}:decide (V.byt i=V.byt j)=(i.toList == j.toList):=by
 rw [Bool.eq_iff_iff]
 cases i
 cases j
 simp
section
variable {X:Cx} {a b c:Expr} {ta tb tc:TE} {pos:Pos}
theorem xk {pins:List (Addr × Obj)} {σ:St} {H:Hp} {s:Shared} {Q:VK} {k k':Bool} (I:zQ X pins σ H s) (q:Q (.bl k) H) (e:k=k'):EP X pins σ Q (.bool k') s:=by
 subst e
 exact ⟨.bl k,H,I,rfl,q⟩
theorem vc:xj X (compareOp .Eq) rEq:=by
 intro pins s σ H x y v u Q I rx ry h
 obtain ⟨hs,q⟩:=h
 cases x with
 | non=>
  cases rx
  cases y with
  | non=>cases ry; exact PySem.EqNone.eq_none_none (xk I q (by simp))
  | bl j=>cases ry; exact PySem.EqNone.eq_none_bool (xk I q (by simp))
  | int j=>obtain ⟨t',rfl⟩:=ry; exact PySem.EqNone.eq_none_int (xk I q (by simp))
  | str j=>obtain ⟨t',rfl⟩:=ry; exact PySem.EqNone.eq_none_str (xk I q (by simp))
  | _=>exact absurd (show false=true from hs) Bool.false_ne_true
 | bl i=>
  cases rx
  cases y with
  | non=>cases ry; exact PySem.EqNone.eq_bool_none (xk I q (by simp))
  | bl j=>cases ry; exact eq_bool (xk I q JK)
  | str j=>obtain ⟨t',rfl⟩:=ry; exact PySem.EqMixed.eq_bool_str (xk I q (by simp))
  | _=>exact absurd (show false=true from hs) Bool.false_ne_true
 | int i=>
  obtain ⟨t,rfl⟩:=rx
  cases y with
  | non=>cases ry; exact PySem.EqNone.eq_int_none (xk I q (by simp))
  | int j=>obtain ⟨t',rfl⟩:=ry; exact eq_int (xk I q JJ)
  | str j=>obtain ⟨t',rfl⟩:=ry; exact PySem.EqMixed.eq_int_str (xk I q (by simp))
  | _=>exact absurd (show false=true from hs) Bool.false_ne_true
 | str i=>
  obtain ⟨t,rfl⟩:=rx
  cases y with
  | non=>cases ry; exact PySem.EqNone.eq_str_none (xk I q (by simp))
  | bl j=>cases ry; exact PySem.EqMixed.eq_str_bool (xk I q (by simp))
  | int j=>obtain ⟨t',rfl⟩:=ry; exact PySem.EqMixed.eq_str_int (xk I q (by simp))
  | str j=>obtain ⟨t',rfl⟩:=ry; exact eq_str (xk I q JL)
  | _=>exact absurd (show false=true from hs) Bool.false_ne_true
 | byt i=>
  obtain ⟨t,rfl⟩:=rx
  cases y with
  | byt j=>obtain ⟨t',rfl⟩:=ry; exact PySem.W.eq_bytes (xk I q JO)
  | _=>exact absurd (show false=true from hs) Bool.false_ne_true
 | _=>cases y <;> exact absurd (show false=true from hs) Bool.false_ne_true
theorem jn:xj X (compareOp .NotEq) rNe:=by
 intro pins s σ H x y v u Q I rx ry h
 obtain ⟨hs,q⟩:=h
 cases x with
 | non=>
  cases rx
  cases y with
  | non=>cases ry; exact PySem.EqNone.ne_none_none (xk I q (by simp))
  | bl j=>cases ry; exact PySem.EqNone.ne_none_bool (xk I q (by simp))
  | int j=>obtain ⟨t',rfl⟩:=ry; exact PySem.EqNone.ne_none_int (xk I q (by simp))
  | str j=>obtain ⟨t',rfl⟩:=ry; exact PySem.EqNone.ne_none_str (xk I q (by simp))
  | _=>exact absurd (show false=true from hs) Bool.false_ne_true
 | bl i=>
  cases rx
  cases y with
  | non=>cases ry; exact PySem.EqNone.ne_bool_none (xk I q (by simp))
  | bl j=>cases ry; exact ne_bool (xk I q (congrArg not JK))
  | str j=>obtain ⟨t',rfl⟩:=ry; exact PySem.EqMixed.ne_bool_str (xk I q (by simp))
  | _=>exact absurd (show false=true from hs) Bool.false_ne_true
 | int i=>
  obtain ⟨t,rfl⟩:=rx
  cases y with
  | non=>cases ry; exact PySem.EqNone.ne_int_none (xk I q (by simp))
  | int j=>obtain ⟨t',rfl⟩:=ry; exact ne_int (xk I q (congrArg not JJ))
  | str j=>obtain ⟨t',rfl⟩:=ry; exact PySem.EqMixed.ne_int_str (xk I q (by simp))
  | _=>exact absurd (show false=true from hs) Bool.false_ne_true
 | str i=>
  obtain ⟨t,rfl⟩:=rx
  cases y with
  | non=>cases ry; exact PySem.EqNone.ne_str_none (xk I q (by simp))
  | bl j=>cases ry; exact PySem.EqMixed.ne_str_bool (xk I q (by simp))
  | int j=>obtain ⟨t',rfl⟩:=ry; exact PySem.EqMixed.ne_str_int (xk I q (by simp))
  | str j=>obtain ⟨t',rfl⟩:=ry; exact ne_str (xk I q (congrArg not JL))
  | _=>exact absurd (show false=true from hs) Bool.false_ne_true
 | byt i=>
  obtain ⟨t,rfl⟩:=rx
  cases y with
  | byt j=>obtain ⟨t',rfl⟩:=ry; exact PySem.W.ne_bytes (xk I q (congrArg not JO))
  | _=>exact absurd (show false=true from hs) Bool.false_ne_true
 | _=>cases y <;> exact absurd (show false=true from hs) Bool.false_ne_true
theorem qB:xj X (compareOp .Lt) (jS λi j=>.bl (decide (i < j))):=jT λ_ _ _ _ _ _ _ q=>lt_int q
theorem Y4:xj X (compareOp .LtE) (jS λi j=>.bl (decide (i<=j))):=jT λ_ _ _ _ _ _ _ q=>le_int q
theorem qC:xj X (compareOp .Gt) (jS λi j=>.bl (decide (j < i))):=jT λ_ _ _ _ _ _ _ q=>gt_int q
theorem JQ:xj X (compareOp .GtE) (jS λi j=>.bl (decide (j<=i))):=jT λ_ _ _ _ _ _ _ q=>ge_int q
theorem zOk:xj X (compareOp .Is) (λx y H Q=>y=.non/\Q (.bl (decide (x=.non))) H):=by
 intro pins s σ H x y v u Q I rx ry h
 obtain ⟨rfl,q⟩:=h
 cases ry
 refine is_none_gen (xk I q ?_)
 cases x <;> first
  | (cases rx; rfl)
  | (obtain ⟨t,rfl⟩:=rx; rfl)
theorem JR:xj X (compareOp .IsNot) (λx y H Q=>y=.non/\Q (.bl (!decide (x=.non))) H):=by
 intro pins s σ H x y v u Q I rx ry h
 obtain ⟨rfl,q⟩:=h
 cases ry
 refine isnot_none_gen (xk I q ?_)
 cases x <;> first
  | (cases rx; rfl)
  | (obtain ⟨t,rfl⟩:=rx; rfl)
theorem yu (b:Expr) {op:CmpOp} (h:op≠.In:=by decide) (h2:op≠.NotIn:=by decide):behindInMarks op b=false:=by
 have e1:(op == CmpOp.In)=false:=by cases op <;> first | rfl | exact absurd rfl h
 have e2:(op == CmpOp.NotIn)=false:=by cases op <;> first | rfl | exact absurd rfl h2
 cases b <;> simp [behindInMarks,e1,e2]
theorem uP {op:CmpOp} {r:R2} (ho:xj X (compareOp op) r) (ha:PE X a ta) (hb:PE X b tb) (hm:behindInMarks op b=false):PE X (.Compare a [op] [b] pos) (ZN r ta tb):=by
 intro pins s σ H Q I h
 exact wpAny_Compare1 (qA ha hb I h λv u s2 x y H2 I2 rx ry q=>ho pins s2 σ H2 x y v u Q I2 rx ry q) hm
def gi (t:TE):TT:=λσ H Q=>t σ H λx H'=>∃ k,x=.bl k/\Q k H'
theorem xX {op:CmpOp} {r:R2} (ho:xj X (compareOp op) r) (ha:PE X a ta) (hb:PE X b tb) (hm:behindInMarks op b=false):PT X (.Compare a [op] [b] pos) (gi (ZN r ta tb)):=by
 intro pins s σ H Q I h
 refine wpAny_isTrue_Compare1 (yQ (ha pins s σ H _ I h) λv s1 ⟨x,H1,I1,r1,q1⟩=>yQ (hb pins s1 σ H1 _ I1 q1) λu s2 ⟨y,H2,I2,r2,q2⟩=>
  yQ (ho pins s2 σ H2 x y v u _ I2 r1 r2 q2) λc s3 ⟨z,H3,I3,r3,k,e,q3⟩=>?_) hm
 subst e
 cases r3
 exact wpAny_truthy_bool ⟨H3,I3,q3⟩
theorem Y5:(sizeLine:Nat) < 2 ^ 63:=by rw [sizeLine_eq]; decide
theorem jo {x:V} {us:List Value} (r:zf [x] us):∃ u,us=[u]/\zq x u:=by
 cases r with
 | cons r1 r2=>cases r2; exact ⟨_,rfl,r1⟩
theorem Y6 {x y:V} {us:List Value} (r:zf [x,y] us):∃ u w',us=[u,w']/\zq x u/\zq y w':=by
 cases r with
 | cons r1 r2=>
  cases r2 with
  | cons r3 r4=>cases r4; exact ⟨_,_,rfl,r1,r3⟩
theorem JS:vC X (.builtin "abs") (λxs H Q=>∃ i,xs=[.int i]/\Q (.int (if i < 0 then -i else i)) H):=by
 intro pins s σ H xs us Q I r h
 obtain ⟨i,rfl,q⟩:=h
 obtain ⟨u,rfl,t,rfl⟩:=jo r
 exact call_abs_int λu tk=>⟨.int (if i < 0 then -i else i),H,I.tok _,⟨_,rfl⟩,q⟩
theorem JT:vC X (.type "int") (λxs H Q=>(∃ i,xs=[.int i]/\Q (.int i) H)\/∃ k,xs=[.bl k]/\Q (.int (if k then 1 else 0)) H):=by
 intro pins s σ H xs us Q I r h
 rcases h with ⟨i,rfl,q⟩ | ⟨k,rfl,q⟩
 ·obtain ⟨u,rfl,t,rfl⟩:=jo r
  exact call_int_int ⟨.int i,H,I,⟨_,rfl⟩,q⟩
 ·obtain ⟨u,rfl,r1⟩:=jo r
  cases r1
  exact call_int_bool ⟨.int (if k then 1 else 0),H,I.tok _,⟨_,rfl⟩,q⟩
end
end L2
namespace L2
open PySem PySem.Spec PyProof.Rows
structure vy (h:Heap) (x dx C:Addr) (mA:Str->Option Value):Prop where
 obj:h.get? x=some (PySem.W.instObj C dx)
 ns:h.Ns1 dx mA
 ne:dx≠x
theorem zLZ {h:Heap} {dx:Addr} {mA:Str->Option Value} (n:h.Ns1 dx mA):∃ od,h.get? dx=some od/\∀ name,PySem.W.lookIn name od=some (mA name):=by
 obtain ⟨o,es,ep,ho,hd,hk,_,hm⟩:=n
 refine ⟨o,ho,λname=>?_⟩
 have e:=hm name
 unfold nsFind findBy at e
 rw [<- Array.find?_toList] at e
 unfold PySem.W.lookIn
 rw [hd]
 dsimp only
 split
 ·rename_i y q
  rw [q] at e
  exact congrArg some e
 ·rename_i q
  rw [q] at e
  have a:es.toList.any (·.refKey)=false:=by
   rw [List.any_eq_false]
   intro y hy
   obtain ⟨z,t,hkey⟩:=hk y (Array.mem_toList_iff.mp hy)
   simp [DictEntry.refKey,hkey]
  have a':¬ es.toList.any (·.refKey)=true:=by rw [a]; exact Bool.false_ne_true
  rw [if_neg a']
  exact congrArg some e
theorem vy.look {h:Heap} {x dx C:Addr} {mA:Str->Option Value} (I:vy h x dx C mA):∃ od,PySem.W.InstAt h x (PySem.W.instObj C dx) C (some od)/\∀ name,PySem.W.lookIn name od=some (mA name):=
 let ⟨od,ho,hl⟩:=zLZ I.ns
 ⟨od,⟨I.obj,rfl,rfl,ho⟩,hl⟩
section
variable {prog:Program} {w:World} {A:Around} {E:Value->Shared->Prop} {s:Shared} {K:PySem.W.Frag} {x dx C f:Addr} {mA:Str->Option Value} {name:Str} {v:Value}
theorem zNx {expr:Bool} {Q:Value->Shared->Prop} (X:K.In s.heap) (I:vy s.heap x dx C mA) (hg:PySem.W.plainGet K C name=true) (hh:PySem.W.hasDictIn K C=true)
  (ha:PySem.W.findIn K (.ref C) name=some none) (hv:mA name=some v) (hv':PySem.W.handedIn v=true) (h:Q v { s with toks:=s.toks + 1 }) :
  wpAny (model prog w) A (getAttr (.ref x) name expr) Q E s:=by
 obtain ⟨od,J,hl⟩:=I.look
 exact PySem.W.get_value X J (PySem.W.plainGet_of hg).1 (PySem.W.findObj_own hh ha rfl (by rw [hl,hv])) hv' h
theorem zMn {pl:Sem Bool} {Q:Value × List Value->Shared->Prop} (X:K.In s.heap) (I:vy s.heap x dx C mA) (hg:PySem.W.plainGet K C name=true)
  (hf:PySem.W.findIn K (.ref C) name=some (some (.ref f))) (ht:PySem.W.isFn K (.ref f)=true) (hv:mA name=none) (h:Q (.ref f,[.ref x]) s) :
  wpAny (model prog w) A (getMethod (.ref x) name pl) Q E s:=by
 obtain ⟨od,J,hl⟩:=I.look
 exact PySem.W.method_fn X J (PySem.W.plainGet_of hg).1 (PySem.W.plainGet_of hg).2 hf (beq_iff_eq.mp ht) (by show (PySem.W.lookIn name od).map (·.isSome)=some false; rw [hl,hv]; rfl) h
theorem zNW {ns:List Str} {Q:Unit->Shared->Prop} (X:K.In s.heap) (I:vy s.heap x dx C mA)
  (hs:PySem.W.findIn K (.ref C) "__setattr__" = some (some (.builtin "object.__setattr__"))) (hp:PySem.W.plainOver K C=true) (ht:PySem.W.takerIn K C name=some none) (hh:PySem.W.hasDictIn K C=true)
  (hw:PySem.Within mA ns) (hsz:ns.length<=sizeLine)
  (h:∀ h',vy h' x dx C (λy=>if y=name then some v else mA y)->Heap.SameBut dx s.heap h'->Q () { s with heap:=h',toks:=s.toks + 2 }) :
  wpAny (model prog w) A (setAttr (.ref x) name v) Q E s:=by
 obtain ⟨od,J,hl⟩:=I.look
 refine PySem.W.set_plain X J hs (PySem.W.osa_open (s:={ s with toks:=s.toks + 1 }) (r:=none) X J hp ht λb=>?_)
 obtain ⟨cd,hc,hd'⟩:=PySem.W.any_some hh
 have hx:s.heap.get? x=some ⟨.ref C,some dx,.plain,#[]⟩:=I.obj
 refine wpAny_bind (wpAny_pure (wpAny_bind (wpAny_bind (wpAny_loadPart hx (wpAny_bind (PySem.W.Looks.here (s:={ s with toks:=s.toks + 1 }) (PySem.W.looks_clsIn X hc) ?_))))))
 rw [hd']
 refine wpAny_pure (a:=some dx) (wpAny_bind (wpAny_pure (wpAny_bind ?_)))
 refine wpAny_nsSet1 (s:={ s with toks:=s.toks + 1 }) I.ns λh' hn2 hs2=>?_
 obtain ⟨oD,esD,epD,hoD,hdD,hcD⟩:=hn2.count (PySem.Within.cons name v hw)
 refine wpAny_bind (wpAny_lookBehind hoD (by rw [hdD]; exact pastItsLine_dict (Nat.le_trans hcD (by rw [List.length_cons]; omega))) ?_)
 exact wpAny_pure (h _ ⟨(hs2.2 _ (Ne.symm I.ne)).trans I.obj,hn2,I.ne⟩ hs2)
theorem zMg {R:Result->Shared->Prop} {vs:List Value} {kw:List (Str × Value)} (X:K.In s.heap) (hm:PySem.W.makesIn K C=true)
  (hi:PySem.W.findIn K (.ref C) "__init__" = some (some (.ref f))) (hf:PySem.W.typeIn K (.ref f)=some (.type "function"))
  (h:codeAny (model prog w) (A.under (.builtin "type.__call__" ⟨.ref C :: vs,kw⟩)) (.call (.ref f) ⟨.ref (s.heap.objs.size + 1) :: vs,kw⟩) (PySem.W.InitBack (s.heap.objs.size + 1) R)
   { s with heap:=(s.heap.push PySem.W.emptyDict).push (PySem.W.instObj C s.heap.objs.size) }) :
  codeAny (model prog w) A (.call (.ref C) ⟨vs,kw⟩) R s:=by
 obtain ⟨hh,g,d,t,os⟩:=s
 exact PySem.W.make_core (PySem.W.makes_of X hm) (PySem.W.looks_findIn X hi) (λself=>PySem.W.bind_fn X self hf) (.inl rfl) h
end
def zS (f:Str) (v:V):List (Str × V)->List (Str × V)
 | []=>[(f,v)]
 | (g,x) :: r=>if g=f then (g,v) :: r else (g,x) :: zS f v r
theorem JU (f g:Str) (v:V):∀ fs:List (Str × V),(zS f v fs).lookup g=if g=f then some v else fs.lookup g
 | []=>by
  show List.lookup g [(f,v)]=_
  by_cases h:g=f
  ·have hb:(g == f)=true:=beq_iff_eq.mpr h
   simp only [List.lookup,hb,if_pos h]
  ·have hb:(g == f)=false:=beq_eq_false_iff_ne.mpr h
   simp only [List.lookup,hb,if_neg h]
 | (k,x) :: r=>by
  have ih:=JU f g v r
  rw [show zS f v ((k,x) :: r)=(if k=f then (k,v) :: r else (k,x) :: zS f v r) from rfl]
  by_cases hk:k=f
  ·rw [if_pos hk]
   by_cases h:g=k
   ·have hb:(g == k)=true:=beq_iff_eq.mpr h
    simp only [List.lookup,hb,if_pos (h.trans hk)]
   ·have hb:(g == k)=false:=beq_eq_false_iff_ne.mpr h
    simp only [List.lookup,hb,if_neg (λe:g=f=>h (e.trans hk.symm))]
  ·rw [if_neg hk]
   by_cases h:g=k
   ·have hb:(g == k)=true:=beq_iff_eq.mpr h
    simp only [List.lookup,hb,if_neg (λe:g=f=>hk (h.symm.trans e))]
   ·have hb:(g == k)=false:=beq_eq_false_iff_ne.mpr h
    simp only [List.lookup,hb]
    exact ih
theorem Y7 (f:Str) (v:V):∀ fs:List (Str × V),f∈(zS f v fs).map (·.1)/\∀ g,g∈fs.map (·.1)->g∈(zS f v fs).map (·.1)
 | []=>⟨by simp [zS],λg h=>by simp at h⟩
 | (k,x) :: r=>by
  obtain ⟨i1,i2⟩:=Y7 f v r
  rw [show zS f v ((k,x) :: r)=(if k=f then (k,v) :: r else (k,x) :: zS f v r) from rfl]
  by_cases hk:k=f
  ·rw [if_pos hk]
   subst hk
   exact ⟨by simp,λg h=>by simpa using h⟩
  ·rw [if_neg hk]
   refine ⟨?_,λg h=>?_⟩
   ·rw [List.map_cons]
    exact List.mem_cons_of_mem _ i1
   ·rw [List.map_cons] at h |-
    rcases List.mem_cons.mp h with e | e
    ·exact List.mem_cons.mpr (.inl e)
    ·exact List.mem_cons_of_mem _ (i2 g e)
theorem JV (f:Str) (v:V):∀ fs:List (Str × V),(zS f v fs).length<=fs.length + 1
 | []=>by simp [zS]
 | (k,x) :: r=>by
  have ih:=JV f v r
  rw [show zS f v ((k,x) :: r)=(if k=f then (k,v) :: r else (k,x) :: zS f v r) from rfl]
  by_cases hk:k=f
  ·rw [if_pos hk,List.length_cons,List.length_cons]; omega
  ·rw [if_neg hk,List.length_cons,List.length_cons]; omega
theorem xb.some_of {v:V} {o:Option Value} (r:xb (some v) o):∃ u,o=some u/\zq v u:=by
 cases o with
 | none=>exact (show False from r).elim
 | some u=>exact ⟨u,rfl,r⟩
theorem xb.none_of {o:Option Value} (r:xb none o):o=none:=by
 cases o with
 | none=>rfl
 | some u=>exact (show False from r).elim
theorem zLn {v:V} {u:Value} (r:zq v u):PySem.W.handedIn u=true:=by
 cases v with
 | non=>cases (show u=Value.none from r); rfl
 | bl b=>cases (show u=Value.bool b from r); rfl
 | int i=>obtain ⟨t,e⟩:=(show ∃ t,u=Value.int i t from r); cases e; rfl
 | str x=>obtain ⟨t,e⟩:=(show ∃ t,u=Value.str x t from r); cases e; rfl
 | byt b=>obtain ⟨t,e⟩:=(show ∃ t,u=Value.bytes b t from r); cases e; rfl
 | flt b=>obtain ⟨t,e⟩:=(show ∃ t,u=Value.float b t from r); cases e; rfl
 | ref a=>cases (show u=Value.ref a from r); rfl
 | ty n=>cases (show u=Value.type n from r); rfl
section
variable {P:Program} {w:World} {H H':Hp} {h h':Heap} {a C dx:Addr} {fs fs':List (Str × V)}
theorem ZP (hok:xI P w H h) (e:H a=some (.ins C dx fs)):∃ mA,vy h a dx C mA/\(∀ f,xb (fs.lookup f) (mA f))/\PySem.Within mA (fs.map (·.1))/\fs.length<=1000/\H dx=some (.own a):=by
 obtain ⟨d,z,ne,ob,mA,n,r,q⟩:=(show xV P w H h a (.ins C dx fs) from hok a _ e)
 exact ⟨mA,⟨ob,n,ne⟩,r,q,z,d⟩
end
structure u8 (K:PySem.W.Frag) (C:Addr):Prop where
 pg:PySem.W.plainGet K C Str.empty=true
 hd:PySem.W.hasDictIn K C=true
 po:PySem.W.plainOver K C=true
 sa:PySem.W.findIn K (.ref C) "__setattr__" = some (some (.builtin "object.__setattr__"))
theorem u8.get {K:PySem.W.Frag} {C:Addr} (c:u8 K C) (f:Str):PySem.W.plainGet K C f=true:=c.pg
def vz (K:PySem.W.Frag) (C:Addr) (f:Str):Prop:=PySem.W.findIn K (.ref C) f=some none
theorem vz.taker {K:PySem.W.Frag} {C:Addr} {f:Str} (n:vz K C f):PySem.W.takerIn K C f=some none:=by
 unfold PySem.W.takerIn
 rw [show PySem.W.findIn K (.ref C) f=some none from n]
 rfl
structure qD (K:PySem.W.Frag) (C:Addr) (m:Str) (f:Addr):Prop where
 at_:PySem.W.findIn K (.ref C) m=some (some (.ref f))
 fn:PySem.W.isFn K (.ref f)=true
 kp:PySem.W.keepIn K (.ref f)=true
section
variable {X:Cx} {pins:List (Addr × Obj)} {σ:St} {H:Hp} {s:Shared} {a C dx:Addr} {fs:List (Str × V)} {f:Str} {v:V} {A:Around} {E:Value->Shared->Prop}
theorem zKO {b:Bool} {Q:Value->Shared->Prop} (I:zQ X pins σ H s) (e:H a=some (.ins C dx fs)) (c:u8 X.K C) (n:vz X.K C f) (l:fs.lookup f=some v)
  (h:∀ u s',zQ X pins σ H s'->zq v u->Q u s'):wpAny (model X.prog X.w) A (getAttr (.ref a) f b) Q E s:=by
 obtain ⟨mA,O,r,_,_,_⟩:=ZP I.hok e
 obtain ⟨u,hu,ru⟩:=xb.some_of (v:=v) (o:=mA f) (by rw [<- l]; exact r f)
 exact zNx I.kIn O (c.get f) c.hd n hu (zLn ru) (h u _ (I.tok _) ru)
theorem zKN {m:Str} {g:Addr} {pl:Sem Bool} {Q:Value × List Value->Shared->Prop} (I:zQ X pins σ H s) (e:H a=some (.ins C dx fs)) (c:u8 X.K C) (k:qD X.K C m g) (l:fs.lookup m=none)
  (h:Q (.ref g,[.ref a]) s):wpAny (model X.prog X.w) A (getMethod (.ref a) m pl) Q E s:=by
 obtain ⟨mA,O,r,_,_,_⟩:=ZP I.hok e
 have hn:mA m=none:=xb.none_of (by rw [<- l]; exact r m)
 exact zMn I.kIn O (c.get m) k.at_ k.fn hn h
theorem zJv {y:V} {u:Value} {Q:Unit->Shared->Prop} (I:zQ X pins σ H s) (e:H a=some (.ins C dx fs)) (c:u8 X.K C) (n:vz X.K C f) (hl:fs.length < 1000) (ry:zq y u)
  (h:∀ s',zQ X pins σ (upd H a (.ins C dx (zS f y fs))) s'->Q () s'):wpAny (model X.prog X.w) A (setAttr (.ref a) f u) Q E s:=by
 obtain ⟨mA,O,r,wi,_,ho⟩:=ZP I.hok e
 have hz:(fs.map (·.1)).length<=sizeLine:=by rw [List.length_map,sizeLine_eq]; omega
 refine zNW I.kIn O c.sa c.po n.taker c.hd wi hz λh' O' sb=>h _ ?_
 have hd:∃ o,h'.get? dx=some o:=let ⟨o,_,_,e',_⟩:=O'.ns; ⟨o,e'⟩
 refine I.write (x:=a) (e:=dx) (by rw [e]; exact True.intro) (.inr ho) (λb q hb z=>(sb.2 b hb).trans z) hd ?_
 refine ⟨by rw [yW O.ne]; exact ho,?_,O.ne,O'.obj,_,O'.ns,λg=>?_,λg hg=>?_⟩
 ·have:=JV f y fs; omega
 ·show xb ((zS f y fs).lookup g) (if g=f then some u else mA g)
  rw [JU]
  by_cases q:g=f
  ·rw [if_pos q,if_pos q]; exact ry
  ·rw [if_neg q,if_neg q]; exact r g
 ·by_cases q:g=f
  ·rw [q]; exact (Y7 f y fs).1
  ·refine (Y7 f y fs).2 g (wi g λz=>hg ?_)
   show (if g=f then some u else mA g)=none
   rw [if_neg q]; exact z
theorem zQ.made (I:zQ X pins σ H s):zQ X pins σ (upd (upd H s.heap.objs.size (.own (s.heap.objs.size + 1))) (s.heap.objs.size + 1) (.ins C s.heap.objs.size []))
  { s with heap:=(s.heap.push PySem.W.emptyDict).push (PySem.W.instObj C s.heap.objs.size) }:=by
 have e1:(s.heap.push PySem.W.emptyDict).get? s.heap.objs.size=some PySem.W.emptyDict:=Heap.get?_push_size s.heap rfl
 have e2:((s.heap.push PySem.W.emptyDict).push (PySem.W.instObj C s.heap.objs.size)).get? (s.heap.objs.size + 1)=some (PySem.W.instObj C s.heap.objs.size):=by
  have:=Heap.get?_push_size (s.heap.push PySem.W.emptyDict) (o:=PySem.W.instObj C s.heap.objs.size) rfl
  rwa [Heap.size_push] at this
 have e3:(s.heap.push PySem.W.emptyDict).Ns s.heap.objs.size (λ_=>none):=⟨PySem.W.emptyDict,#[],_,e1,rfl,(λe he=>absurd he (by simp)),λ_=>rfl⟩
 have I1:=I.laid (a:=s.heap.objs.size) (o:=.own (s.heap.objs.size + 1)) (h':=s.heap.push PySem.W.emptyDict) (t':=s.toks) (λb u q=>Heap.get?_push_of_some _ q) (Nat.le_refl _) ⟨_,e1⟩
 refine I1.laid (a:=s.heap.objs.size + 1) (o:=.ins C s.heap.objs.size []) (t':=s.toks) (λb u q=>Heap.get?_push_of_some _ q) (Nat.le_of_eq (Heap.size_push _ _)) ?_
 have ne:s.heap.objs.size≠s.heap.objs.size + 1:=Nat.ne_of_lt (Nat.lt_succ_self _)
 refine ⟨by rw [yW ne,zj],Nat.zero_le _,ne,e2,λ_=>none,(Heap.Ns1.of_empty e3).at λo q=>Heap.get?_push_of_some _ q,λ_=>True.intro,λy hy=>absurd rfl hy⟩
theorem zOB {prog:Program} {w:World} {env:Env} {e:Expr} {f:Str} {pos:Pos} {s:Shared} {Q:Value->Shared->Prop} (hb:attributeBase e f env (eval e env)=eval e env)
  (h:wpAny (model prog w) A (eval e env) (λo s₁=>wpAny (model prog w) A (getAttr o f true) Q E s₁) E s):wpAny (model prog w) A (eval (.Attribute e f pos) env) Q E s:=
 Attribute_any_ h (by rw [arm_eval_Attribute,hb])
end
def Y8 (K:PySem.W.Frag) (ta:TE) (f:Str):TE:=λσ H Q=>ta σ H λx H1=>∃ a C dx fs v,x=.ref a/\H1 a=some (.ins C dx fs)/\u8 K C/\vz K C f/\fs.lookup f=some v/\Q v H1
def Y9 (K:PySem.W.Frag) (ta tv:TE) (f:Str):TS:=λD σ H=>tv σ H λy H1=>ta σ H1 λx H2=>∃ a C dx fs,x=.ref a/\H2 a=some (.ins C dx fs)/\u8 K C/\vz K C f/\fs.length < 1000∧
 D.nx σ (upd H2 a (.ins C dx (zS f y fs)))
section
variable {X:Cx} {o e value:Expr} {f:Str} {pos pos' tpos:Pos} {ta tv:TE}
theorem xm (he:PE X e ta) (hb:attributeBase e f X.env (eval e X.env)=eval e X.env):PE X (.Attribute e f pos) (Y8 X.K ta f):=by
 intro pins s σ H Q I h
 refine zOB hb (yQ (he pins s σ H _ I h) λu s1 ⟨x,H1,I1,rx,a,C,dx,fs,v,ex,ea,c,n,l,q⟩=>?_)
 subst ex
 obtain rfl:u=Value.ref a:=rx
 exact zKO I1 ea c n l λu' s2 I2 ru=>⟨v,H1,I2,ru,q⟩
theorem jU (ha:PE X o ta) (hv:PE X value tv) (hs:swapsWith value (some (.Attribute o f pos')) pos.line X.env=pure false):PS X (.Assign [.Attribute o f pos'] value pos) (Y9 X.K ta tv f):=by
 intro pins s σ H D I h
 refine plainObj_wpAny_Assign_Attribute (yQ (hv pins s σ H _ I h) λu s1 ⟨y,H1,I1,ry,q⟩=>yQ (ha pins s1 σ H1 _ I1 q) λov s2 ⟨x,H2,I2,rx,a,C,dx,fs,ex,ea,c,n,l,q2⟩=>?_) hs
 subst ex
 obtain rfl:ov=Value.ref a:=rx
 exact zJv I2 ea c n l ry λs3 I3=>⟨σ,_,I3,q2⟩
end
section
variable {X:Cx} {pins:List (Addr × Obj)} {σ:St} {H:Hp} {s:Shared} {A:Around} {E:Value->Shared->Prop} {Q:Value->Shared->Prop} {c:Value} {b:Bool}
inductive xf (K:PySem.W.Frag) (H:Hp):V->Value->Prop where
 | non:xf K H .non (.type "NoneType")
 | bl (x:Bool):xf K H (.bl x) (.type "bool")
 | int (i:Int):xf K H (.int i) (.type "int")
 | str (x:Str):xf K H (.str x) (.type "str")
 | flt (x:UInt64):xf K H (.flt x) (.type "float")
 | lst {a:Addr} {xs:List V} (e:H a=some (.lst xs)):xf K H (.ref a) (.type "list")
 | frz {a:Addr} {o:Obj} {xs:List V} (e:H a=some (.frz o (.lst xs))):xf K H (.ref a) (.type "list")
 | tup {a:Addr} {xs:List V} (e:H a=some (.tup xs)):xf K H (.ref a) (.type "tuple")
 | dK {a:Addr} {kvs:List (ye × V)} (e:H a=some (.dK kvs)):xf K H (.ref a) (.type "dict")
 | dT {a:Addr} {kvs:List (List ye × V)} (e:H a=some (.dT kvs)):xf K H (.ref a) (.type "dict")
 | ins {a C dx:Addr} {fs:List (Str × V)} (e:H a=some (.ins C dx fs)) (cl:u8 K C) (ha:PySem.W.findIn K (.ref C) "__class__" = some (some (.builtin "object.__class__")))
   (hn:PySem.W.specialIn K (.builtin "object.__class__") "__get__" = some (some (.builtin "getset_descriptor.__get__"))) (htk:PySem.W.takesIn K (.builtin "object.__class__")=some true)
   (hm:PySem.W.mroIn K C (.type "object")=some true):xf K H (.ref a) (.ref C)
theorem JW {x:V} {u t:Value} (I:zQ X pins σ H s) (rx:zq x u) (ty:xf X.K H x t) (e:PySem.W.kitOne X.K t c=some b) (h:∀ tk,Q (.bool b) { s with toks:=tk }) :
  wpAny (model X.prog X.w) A (call (.builtin "isinstance") [u,c]) Q E s:=by
 cases ty with
 | non=>cases (show u=Value.none from rx); exact PySem.W.kia_one PySem.W.kitx_none I.kIn True.intro e (λz=>nomatch z) h
 | bl y=>cases (show u=Value.bool y from rx); exact PySem.W.kia_one PySem.W.kitx_bool I.kIn True.intro e (λz=>nomatch z) h
 | int i=>obtain ⟨t,q⟩:=(show ∃ t,u=Value.int i t from rx); cases q; exact PySem.W.kia_one PySem.W.kitx_int I.kIn True.intro e (λz=>nomatch z) h
 | str y=>obtain ⟨t,q⟩:=(show ∃ t,u=Value.str y t from rx); cases q; exact PySem.W.kia_one PySem.W.kitx_str I.kIn True.intro e (λz=>nomatch z) h
 | flt y=>obtain ⟨t,q⟩:=(show ∃ t,u=Value.float y t from rx); cases q; exact PySem.W.kia_one PySem.W.kitx_float I.kIn True.intro e (λz=>nomatch z) h
 | @lst a xs ea=>
  cases (show u=Value.ref a from rx)
  obtain ⟨_,_,n,_,h1⟩:=(show xV X.prog X.w H s.heap a (.lst xs) from I.hok a _ ea)
  exact PySem.W.kia_one PySem.W.kitx_list I.kIn ⟨_,h1,rfl⟩ e (λz=>nomatch z) h
 | @frz a ob xs ea=>
  cases (show u=Value.ref a from rx)
  obtain ⟨_,_,_,n,_,h1⟩:=(show xV X.prog X.w H s.heap a (.frz ob (.lst xs)) from I.hok a _ ea)
  exact PySem.W.kia_one PySem.W.kitx_list I.kIn ⟨_,h1,rfl⟩ e (λz=>nomatch z) h
 | @tup a xs ea=>
  cases (show u=Value.ref a from rx)
  obtain ⟨_,_,_,p⟩:=(show xV X.prog X.w H s.heap a (.tup xs) from I.hok a _ ea)
  obtain ⟨o,h1,h2,_⟩:=p
  exact PySem.W.kia_one PySem.W.kitx_tuple I.kIn ⟨o,h1,h2⟩ e (λz=>nomatch z) h
 | @dK a kvs ea=>
  cases (show u=Value.ref a from rx)
  obtain ⟨_,_,vs,_,p⟩:=(show xV X.prog X.w H s.heap a (.dK kvs) from I.hok a _ ea)
  obtain ⟨o,es,ep,h1,h2,_⟩:=p
  exact PySem.W.kia_one PySem.W.kitx_dict I.kIn ⟨o,h1,h2.1⟩ e (λz=>nomatch z) h
 | @dT a kvs ea=>
  cases (show u=Value.ref a from rx)
  obtain ⟨_,_,xs,_,o,es,ep,h1,h2,_⟩:=(show xV X.prog X.w H s.heap a (.dT kvs) from I.hok a _ ea)
  exact PySem.W.kia_one PySem.W.kitx_dict I.kIn ⟨o,h1,h2.1⟩ e (λz=>nomatch z) h
 | @ins a C dx fs ea cl ha hn htk hm=>
  cases (show u=Value.ref a from rx)
  obtain ⟨mA,O,_⟩:=ZP I.hok ea
  obtain ⟨od,J,_⟩:=O.look
  exact PySem.W.kia_one (PySem.W.kitx_own (cl.get _) cl.hd ha hn htk hm) I.kIn J e (λz=>nomatch z) h
end
end L2
namespace L2
open PySem PySem.Spec PyProof.Rows
structure yf (k:Nat) (A:Around):Prop where
 hd:A.handled=none
 dp:A.depth + 3 * k + 5 < recursionLimit
 un:A.units + 16 * k + 200 < cLine
theorem yf.mono {j k:Nat} {A:Around} (r:yf k A) (h:j<=k):yf j A:=⟨r.hd,by have:=r.dp; omega,by have:=r.un; omega⟩
theorem yf.deeper {k:Nat} {A:Around} (r:yf (k + 1) A) (env:Env):yf k (A.deeper env):=
 ⟨r.hd,by have:=r.dp; show A.depth + 1 + 3 * k + 5 < _; omega,by have:=r.un; show A.units + 3 + 16 * k + 200 < _; omega⟩
theorem zKH {A:Around} {C:Addr} {us:List Value} {kw:List (Str × Value)}:(A.under (.builtin "type.__call__" ⟨.ref C :: us,kw⟩)).depth=A.depth + 1:=by
 first | rfl | simp [Around.under,Code.weight,Code.isCreation,Code.isGuard,Code.isCaller,Code.frames,Code.isFrame,guardIds]
theorem zKG {A:Around} {C:Addr} {us:List Value} {kw:List (Str × Value)}:(A.under (.builtin "type.__call__" ⟨.ref C :: us,kw⟩)).units=A.units + 1:=by
 first | rfl | simp [Around.under,Code.cUnits,Code.frames,Code.isFrame]
theorem yf.make {k:Nat} {A:Around} (r:yf (k + 1) A) (C:Addr) (us:List Value) (kw:List (Str × Value)):yf k (A.under (.builtin "type.__call__" ⟨.ref C :: us,kw⟩)):=
 ⟨r.hd,by have:=r.dp; rw [zKH]; omega,by have:=r.un; rw [zKG]; omega⟩
theorem yf.depth {k:Nat} {A:Around} (r:yf k A):A.depth < recursionLimit:=by have:=r.dp; omega
theorem yf.units {k:Nat} {A:Around} (r:yf k A):A.units + 64 < cLine:=by have:=r.un; omega
def qF:TA:=λ_ H Q=>Q [] H
def gj (ta:TE) (tr:TA):TA:=λσ H Q=>ta σ H λx H1=>tr σ H1 λxs H2=>Q (x :: xs) H2
section
variable {X:Cx} {e:Expr} {es:List Expr} {te:TE} {t:TA} {pos:Pos}
theorem zI:PA X [] qF:=λ_ _ _ _ H Q I h=>Calls.spliced_nil ⟨[],H,I,.nil,h⟩
theorem zD (ha:PE X e te) (hr:PA X es t) (hs:starEach (e :: es) X.env=(false,eval e X.env) :: starEach es X.env:=by rfl):PA X (e :: es) (gj te t):=by
 intro pos pins s σ H Q I h
 rw [hs]
 show wpAny _ _ (spliced ((false,eval e X.env) :: backTo pos (starEach es X.env))) _ _ s
 refine Calls.spliced_cons (yQ (ha pins s σ H _ I h) λu s1 ⟨x,H1,I1,r1,q1⟩=>?_)
 exact yQ (hr pos pins s1 σ H1 _ I1 q1) λus s2 ⟨xs,H2,I2,r2,q2⟩=>⟨x :: xs,H2,I2,.cons r1 r2,q2⟩
def XA (t:TA):TE:=λσ H Q=>t σ H λxs H1=>xs.length<=sizeLine/\∀ p,H1 p=none->Q (.ref p) (upd H1 p (.tup xs))
def XB (t:TA):TE:=λσ H Q=>t σ H λxs H1=>xs.length<=sizeLine/\∀ p,H1 p=none->Q (.ref p) (upd H1 p (.lst xs))
theorem xy {x1} (h:PA X es t):PE X (.Tuple es x1 pos) (XA t):=by
 intro pins s σ H Q I hq
 refine wpAny_Tuple_spliced (yQ (h pos pins s σ H _ I hq) λus s1 ⟨xs,H1,I1,r,z,q⟩=>⟨by rw [<- r.length]; exact z,?_⟩)
 have hf:H1 s1.heap.objs.size=none:=I1.hok.fresh (Nat.le_refl _)
 refine ⟨.ref s1.heap.objs.size,upd H1 s1.heap.objs.size (.tup xs),I1.laid (t':=s1.toks) (λb u e=>Heap.get?_push_of_some _ e) (Nat.le_refl _) ?_,rfl,q _ hf⟩
 exact ⟨z,us,r,⟨_,Heap.get?_push_size _ rfl,rfl,_,rfl⟩⟩
theorem xF (h:PA X es t):PE X (.List es pos) (XB t):=by
 intro pins s σ H Q I hq
 refine wpAny_List_spliced (yQ (h pos pins s σ H _ I hq) λus s1 ⟨xs,H1,I1,r,z,q⟩=>⟨by rw [<- r.length]; exact z,?_⟩)
 have hf:H1 s1.heap.objs.size=none:=I1.hok.fresh (Nat.le_refl _)
 refine ⟨.ref s1.heap.objs.size,upd H1 s1.heap.objs.size (.lst xs),I1.laid (t':=s1.toks) (λb u e=>Heap.get?_push_of_some _ e) (Nat.le_refl _) ?_,rfl,q _ hf⟩
 exact ⟨z,us,0,r,Heap.get?_push_size _ rfl⟩
end
abbrev Sp:=List V->Hp->VK->XK->Prop
abbrev uG:=List Env->Hp->Shared->XK->Value->Shared->Prop
structure v6 (P:Program) (w:World) (K:PySem.W.Frag) (mg:Str->Option Value) (base:Heap) (A:Around) (outer:List Env) (s:Shared) (H:Hp):Prop where
 frames:A.frames=some outer
 mod:Mod K mg base
 bs:∀ b o,base.get? b=some o->s.heap.get? b=some o/\H b=none
 bsz:base.objs.size<=s.heap.objs.size
 funs:s.heap.FunFrames base outer
 frf:∀ b∈xq outer,H b=none
 hok:xI P w H s.heap
 bare:AllBare s.gens
def CE (outer:List Env) (P:Program) (w:World) (H:Hp) (s:Shared) (Q:VK) (u:Value) (s':Shared):Prop:=
 ∃ v H',s'.os=s.os/\AllBare s'.gens/\Un (xq outer) [] H H' s.heap s'.heap/\xI P w H' s'.heap/\zq v u/\Q v H'
def CR (CX:uG) (outer:List Env) (P:Program) (w:World) (H:Hp) (s:Shared) (Q:VK) (E:XK) (r:Result) (s':Shared):Prop:=
 match r with
 | .ok (.ret u)=>CE outer P w H s Q u s'
 | .ok _=>False
 | .error e=>CX outer H s E e s'
structure zU (P:Program) (w:World) (K:PySem.W.Frag) (mg:Str->Option Value) (base:Heap) (CX:uG) (k:Nat) (f:Addr) (fd:FuncData) (ps:List Str) (sp:Sp):Prop where
 len:∀ vs H Q E,sp vs H Q E->vs.length=ps.length
 run:∀ (A:Around) (outer:List Env) (s:Shared) (H:Hp) (args:Args) (us:List Value) (vs:List V) (Q:VK) (E:XK),yf k A->v6 P w K mg base A outer s H->BindsTo s fd args (ps.zip us)->zf vs us->sp vs H Q E->
  codeAny (model P w) A (.call (.ref f) args) (CR CX outer P w H s Q E) s
theorem zU.mono {P:Program} {w:World} {K:PySem.W.Frag} {mg:Str->Option Value} {base:Heap} {CX:uG} {j k:Nat} {f:Addr} {fd:FuncData} {ps:List Str} {sp:Sp} (F:zU P w K mg base CX j f fd ps sp) (h:j<=k) :
  zU P w K mg base CX k f fd ps sp:=⟨F.len,λA outer s H args us vs Q E hr=>F.run A outer s H args us vs Q E (hr.mono h)⟩
theorem v6.make {P:Program} {w:World} {K:PySem.W.Frag} {mg:Str->Option Value} {base:Heap} {A:Around} {outer:List Env} {s:Shared} {H:Hp} (e:v6 P w K mg base A outer s H) (C:Addr) (us:List Value) (kw:List (Str × Value)) :
  v6 P w K mg base (A.under (.builtin "type.__call__" ⟨.ref C :: us,kw⟩)) outer s H:=⟨by first | exact e.frames | (simpa [Around.under,Code.envs,Code.isFrame,pushEnvs] using e.frames),e.mod,e.bs,e.bsz,e.funs,e.frf,e.hok,e.bare⟩
section
variable {X:Cx} {pins:List (Addr × Obj)} {σ:St} {H:Hp} {s s':Shared}
theorem zQ.env0 (I:zQ X pins σ H s):v6 X.prog X.w X.K X.mg X.base X.A X.stack s H:=
 ⟨I.ok.frames,I.ok.mod,I.bs,Nat.le_trans I.ok.bsz I.sz,I.stack,I.stkFree,I.hok,I.bare⟩
theorem zQ.after {Q:VK} {u:Value} (I:zQ X pins σ H s) (h:CE X.stack X.prog X.w H s Q u s'):EP X pins σ Q u s':=by
 obtain ⟨v,H',os,bare,un,hok,r,q⟩:=h
 obtain ⟨hh,g,d,t,os'⟩:=s'
 obtain rfl:os'=s.os:=os
 exact ⟨v,H',I.call (h':=hh) (g':=g) (d':=d) (t':=t) (ch:=[]) un hok bare (λb z=>absurd z (by simp)),r,q⟩
end
def gk (sp:Sp) (dvs:List V) (E:XK) (t:TA):TE:=λσ H Q=>t σ H λvs H1=>sp (vs++dvs) H1 Q E
def JX (C:Addr) (m:Str) (sp:Sp) (dvs:List V) (E:XK) (ta:TE) (t:TA):TE:=λσ H Q=>ta σ H λx H1=>∃ a dx fs,x=.ref a/\H1 a=some (.ins C dx fs)/\fs.lookup m=none∧
 t σ H1 λvs H2=>sp (x :: (vs++dvs)) H2 Q E
def JY (C:Addr) (sp:Sp) (dvs:List V) (E:XK) (t:TA):TE:=λσ H Q=>t σ H λvs H1=>∀ x dx,H1 x=none->H1 dx=none->dx≠x->
 sp (.ref x :: (vs++dvs)) (upd (upd H1 dx (.own x)) x (.ins C dx [])) (λv H2=>v=.non/\Q (.ref x) H2) E
def vd (K:PySem.W.Frag) (fd:FuncData) (ps:List Str) (ds:List Value):Prop:=
 ∀ (s:Shared) (us:List Value),K.In s.heap->(us++ds).length=ps.length->BindsTo s fd ⟨us,[]⟩ (ps.zip (us++ds))
theorem vd.all {K:PySem.W.Frag} {fd:FuncData} {ps:List Str} (h:∀ us:List Value,us.length=ps.length->bindArgs fd ⟨us,[]⟩=pure (ps.zip us)):vd K fd ps []:=λs us _ hl=>by
 rw [List.append_nil] at hl |-
 exact .of_eq (h us hl)
def qG (CX:uG) (X:Cx) (E:XK):Prop:=∀ (pins:List (Addr × Obj)) (σ:St) (H:Hp) (s:Shared) (e:Value) (s':Shared),zQ X pins σ H s->CX X.stack H s E e s'->X.xe e s'
section
variable {X:Cx} {CX:uG} {k:Nat} {f C:Addr} {fd:FuncData} {ps:List Str} {sp:Sp} {dvs:List V} {ds:List Value} {E:XK} {x m:Str} {p pos apos:Pos} {e o:Expr} {es:List Expr} {ta:TE} {t:TA}
theorem JZ {pins:List (Addr × Obj)} {σ:St} {H:Hp} {s:Shared} {Q:VK} {us:List Value} {vs:List V} (F:zU X.prog X.w X.K X.mg X.base CX k f fd ps sp) (hr:yf k X.A) (hb:vd X.K fd ps ds) (hd:zf dvs ds) (hx:qG CX X E)
  (I:zQ X pins σ H s) (r:zf vs us) (h:sp (vs++dvs) H Q E):wpAny (model X.prog X.w) X.A (call (.ref f) us) (EP X pins σ Q) X.xe s:=by
 have r2:zf (vs++dvs) (us++ds):=r.append hd
 have hl:(us++ds).length=ps.length:=by rw [<- r2.length]; exact F.len _ _ _ _ h
 refine wpAny_call (codeAny_mono (F.run X.A X.stack s H ⟨us,[]⟩ (us++ds) (vs++dvs) Q E hr I.env0 (hb s us I.kIn hl) r2 h) λr s' hq=>?_)
 cases r with
 | error e=>exact hx pins σ H s e s' I hq
 | ok fl=>
  cases fl with
  | ret u=>exact I.after hq
  | next=>exact False.elim hq
  | brk=>exact False.elim hq
  | cont=>exact False.elim hq
theorem XC (F:zU X.prog X.w X.K X.mg X.base CX k f fd ps sp) (hr:yf k X.A) (hg:Gl X x) (hm:X.mg x=some (.ref f)) (hk:PySem.W.keepIn X.K (.ref f)=true) (hb:vd X.K fd ps ds) (hd:zf dvs ds) (hx:qG CX X E)
  (ha:PA X (e :: es) t) (hdb:(x == ("__debug__" : Str))=false:=by decide) (he:starEach (e :: es) X.env=(false,eval e X.env) :: starEach es X.env:=by rfl) (hpl:(backTo pos (starEach es X.env)).any (·.1)=false:=by rfl) :
  PE X (.Call (.Name x p) (e :: es) [] pos) (gk sp dvs E t):=by
 intro pins s σ H Q I h
 refine wpAny_Call_Name_kw (qo I hg hm ?_ hdb)
 refine PySem.W.callWith_K (h₀:=X.base) I.ok.mod.kin hk (yQ (ha pos pins s σ H _ I h) λus s1 ⟨vs,H1,I1,r,q⟩=>⟨I1.kIn,?_⟩) he hpl
 exact JZ F hr hb hd hx I1 r q
theorem zMU {pl:Sem Bool} (he:PE X o ta) (c:u8 X.K C) (hm:qD X.K C m f) (F:zU X.prog X.w X.K X.mg X.base CX k f fd ps sp) (hr:yf k X.A) (hb:vd X.K fd ps ds) (hd:zf dvs ds) (hx:qG CX X E)
  (ht:eval (.Call (.Attribute o m apos) [] [] pos) X.env=(do
   let ov <- eval o X.env
   standAt apos.atName
   let (f,first) <- holding [ov] (getMethod ov m pl)
   callWith pos f first (backTo pos (starEach [] X.env)) (backToKw pos (keywordEach [] X.env))):=by rfl) :
  PE X (.Call (.Attribute o m apos) [] [] pos) (JX C m sp dvs E ta qF):=by
 intro pins s σ H Q I h
 refine PySem.W.methodCall_KW (pl:=pl) (yQ (he pins s σ H _ I h) λu s1 ⟨x,H1,I1,rx,a,dx,fs,ex,ea,l,q⟩=>?_) ht
 subst ex
 obtain rfl:u=Value.ref a:=rx
 refine zKN I1 ea c hm l ?_
 exact PySem.W.callWith_K0 (first:=[.ref a]) I1.kIn hm.kp (JZ (us:=[.ref a]) (vs:=[.ref a]) F hr hb hd hx I1 (.cons rfl .nil) q)
structure Mk (K:PySem.W.Frag) (C f:Addr):Prop where
 makes:PySem.W.makesIn K C=true
 init:PySem.W.findIn K (.ref C) "__init__" = some (some (.ref f))
 fn:PySem.W.isFn K (.ref f)=true
 kp:PySem.W.keepIn K (.ref C)=true
theorem zMP {pins:List (Addr × Obj)} {σ:St} {H:Hp} {s:Shared} {Q:VK} {us:List Value} {vs:List V} (M:Mk X.K C f) (F:zU X.prog X.w X.K X.mg X.base CX k f fd ps sp) (hr:yf (k + 1) X.A) (hb:vd X.K fd ps ds) (hd:zf dvs ds)
  (hx:qG CX X E) (I:zQ X pins σ H s) (r:zf vs us)
  (h:∀ x dx,H x=none->H dx=none->dx≠x->sp (.ref x :: (vs++dvs)) (upd (upd H dx (.own x)) x (.ins C dx [])) (λv H2=>v=.non/\Q (.ref x) H2) E) :
  wpAny (model X.prog X.w) X.A (call (.ref C) us) (EP X pins σ Q) X.xe s:=by
 have hq:=h (s.heap.objs.size + 1) s.heap.objs.size (I.hok.fresh (Nat.le_succ _)) (I.hok.fresh (Nat.le_refl _)) (Nat.ne_of_lt (Nat.lt_succ_self _))
 have I2:=zQ.made (C:=C) I
 have r2:zf (V.ref (s.heap.objs.size + 1) :: (vs++dvs)) (Value.ref (s.heap.objs.size + 1) :: (us++ds)):=.cons rfl (r.append hd)
 have hl:(Value.ref (s.heap.objs.size + 1) :: us++ds).length=ps.length:=by
  have e:=r2.length
  rw [F.len _ _ _ _ hq] at e
  exact e.symm
 refine wpAny_call (zMg (f:=f) I.kIn M.makes M.init (beq_iff_eq.mp M.fn) (codeAny_mono (F.run _ X.stack _ _ ⟨Value.ref (s.heap.objs.size + 1) :: us,[]⟩ (Value.ref (s.heap.objs.size + 1) :: (us++ds)) _ _ E (hr.make C us [])
  (I2.env0.make C us []) (hb _ (Value.ref (s.heap.objs.size + 1) :: us) I2.kIn hl) r2 hq) λr s' hq'=>?_))
 cases r with
 | error e=>exact hx pins σ _ _ e s' I2 hq'
 | ok fl=>
  cases fl with
  | ret u=>
   obtain ⟨v,H',I3,rv,ev,q3⟩:=I2.after hq'
   subst ev
   exact ⟨rv,⟨V.ref (s.heap.objs.size + 1),H',I3,rfl,q3⟩⟩
  | next=>exact False.elim hq'
  | brk=>exact False.elim hq'
  | cont=>exact False.elim hq'
theorem zNe (M:Mk X.K C f) (F:zU X.prog X.w X.K X.mg X.base CX k f fd ps sp) (hr:yf (k + 1) X.A) (hg:Gl X x) (hm:X.mg x=some (.ref C)) (hb:vd X.K fd ps ds) (hd:zf dvs ds) (hx:qG CX X E)
  (ha:PA X (e :: es) t) (hdb:(x == ("__debug__" : Str))=false:=by decide) (he:starEach (e :: es) X.env=(false,eval e X.env) :: starEach es X.env:=by rfl) (hpl:(backTo pos (starEach es X.env)).any (·.1)=false:=by rfl) :
  PE X (.Call (.Name x p) (e :: es) [] pos) (JY C sp dvs E t):=by
 intro pins s σ H Q I h
 refine wpAny_Call_Name_kw (qo I hg hm ?_ hdb)
 refine PySem.W.callWith_K (h₀:=X.base) I.ok.mod.kin M.kp (yQ (ha pos pins s σ H _ I h) λus s1 ⟨vs,H1,I1,r,q⟩=>⟨I1.kIn,?_⟩) he hpl
 exact zMP M F hr hb hd hx I1 r q
end
section
variable {X:Cx} {CX:uG} {k:Nat} {f C:Addr} {fd:FuncData} {ps ks:List Str} {sp:Sp} {E:XK} {x m:Str} {p pos apos kpos:Pos} {e o:Expr} {es:List Expr} {kws:List Keyword} {te ta:TE} {t tk:TA} {nm:Option Str}
variable {g:List Value->List Value->List Value} {gV:List V->List V->List V}
end
structure ya (N P:List Str) (sc:Scope):Prop where
 kind:sc.kind=.function
 co:sc.isCoroutine=false
 gen:sc.isGenerator=false
 nd:N.Nodup
 pre:N.take P.length=P
 par:∀ x∈P,sc.names.lookup x=some .local\/sc.names.lookup x=some .cell
 nofree:∀ y∈sc.names,y.2≠.free
theorem ya.a {N P:List Str} {s:Scope} (a:s.kind=.function:=by rfl) (b:s.isCoroutine=false:=by rfl) (c:s.isGenerator=false:=by rfl) (d:N.Nodup:=by decide +kernel) (e:N.take P.length=P:=by rfl) (f:∀ x∈P,s.names.lookup x=some .local\/s.names.lookup x=some .cell:=by decide +kernel) (g:∀ y∈s.names,y.2≠.free:=by decide +kernel):ya N P s:=⟨a,b,c,d,e,f,g⟩
theorem Jc {kindOf:Str->Option NameKind} {x:Str}:∀ {binds:List (Str × Value)} {m:Str->Option Value},(∀ v,(x,v)∉binds)->bindL kindOf binds m x=m x
 | [],_,_=>rfl
 | (n,v) :: r,m,h=>by
  unfold bindL
  rw [Jc λw hw=>h w (List.mem_cons_of_mem _ hw)]
  split
  ·have:x≠n:=by rintro rfl; exact h v List.mem_cons_self
   simp [this]
  ·rfl
theorem Jd {kindOf:Str->Option NameKind} {x:Str}:∀ {binds:List (Str × Value)} {m:Str->Option Value},(∀ v,(x,v)∉binds)->bindC kindOf binds m x=m x
 | [],_,_=>rfl
 | (n,v) :: r,m,h=>by
  unfold bindC
  rw [Jd λw hw=>h w (List.mem_cons_of_mem _ hw)]
  split
  ·rfl
  ·have:x≠n:=by rintro rfl; exact h v List.mem_cons_self
   simp [this]
theorem Je {kindOf:Str->Option NameKind} {x:Str} {v:Value}:∀ {P:List Str} {vs:List Value} {i:Nat} {m:Str->Option Value},P.Nodup->P[i]? = some x->vs[i]? = some v->kindOf x=some .local->
  bindL kindOf (P.zip vs) m x=some v
 | [],_,_,_,_,h,_,_=>by simp at h
 | _ :: _,[],_,_,_,_,h,_=>by simp at h
 | p :: P,w :: vs,0,m,nd,h1,h2,hk=>by
  simp at h1 h2; subst h1; subst h2
  show bindL kindOf ((p,w) :: P.zip vs) m p=_
  unfold bindL
  rw [Jc λv hv=>(List.nodup_cons.mp nd).1 (List.of_mem_zip hv).1,if_pos hk]
  simp
 | p :: P,w :: vs,i + 1,m,nd,h1,h2,hk=>by
  show bindL kindOf ((p,w) :: P.zip vs) m x=_
  unfold bindL
  exact Je (i:=i) (List.nodup_cons.mp nd).2 (by simpa using h1) (by simpa using h2) hk
theorem Jf {kindOf:Str->Option NameKind} {x:Str} {v:Value}:∀ {P:List Str} {vs:List Value} {i:Nat} {m:Str->Option Value},P.Nodup->P[i]? = some x->vs[i]? = some v->kindOf x≠some .local->
  bindC kindOf (P.zip vs) m x=some v
 | [],_,_,_,_,h,_,_=>by simp at h
 | _ :: _,[],_,_,_,_,h,_=>by simp at h
 | p :: P,w :: vs,0,m,nd,h1,h2,hk=>by
  simp at h1 h2; subst h1; subst h2
  show bindC kindOf ((p,w) :: P.zip vs) m p=_
  unfold bindC
  rw [Jd λv hv=>(List.nodup_cons.mp nd).1 (List.of_mem_zip hv).1,if_neg hk]
  simp
 | p :: P,w :: vs,i + 1,m,nd,h1,h2,hk=>by
  show bindC kindOf ((p,w) :: P.zip vs) m x=_
  unfold bindC
  exact Jf (i:=i) (List.nodup_cons.mp nd).2 (by simpa using h1) (by simpa using h2) hk
def u9 (N:List Str) (vs:List V):St:=vs.map some++List.replicate (N.length - vs.length) none
def zP (CX:uG) (P:Program) (w:World) (K:PySem.W.Frag) (mg:Str->Option Value) (base:Heap) (N:List Str) (qual:Str) (scope:Scope) (f:Addr) (cd:Value) (A:Around) (outer:List Env) (s:Shared) (H:Hp) (E:XK):Cx where
 prog:=P
 w:=w
 K:=K
 mg:=mg
 base:=base
 A:=A.deeper (envOfC qual scope s.heap.objs.size f cd)
 N:=N
 s₀:=s
 H₀:=H
 env:=envOfC qual scope s.heap.objs.size f cd
 outer:=outer
 stack:=envOfC qual scope s.heap.objs.size f cd :: outer
 ex:=[]
 calm:=true
 fn:=λ_=>true
 pn:=[]
 xe:=λe s'=>wpAny (model P w) (A.deeper (envOfC qual scope s.heap.objs.size f cd)) (leaving (envOfC qual scope s.heap.objs.size f cd) e) (λ_ s''=>CX outer H s E e s'') (λe' s''=>CX outer H s E e' s'') s'
theorem Jg {sc:Scope} {n:Nat} {x:Str} (h:sc.names.lookup x=some .cell):∃ c,(cellsFrom n sc.names []).lookup x=some c:=by
 have q:=PySem.W.cellsFrom_some sc.names n [] (.inl h)
 exact Option.isSome_iff_exists.mp q
theorem zLg {CX:uG} {P:Program} {w:World} {K:PySem.W.Frag} {mg:Str->Option Value} {base:Heap} {N ps:List Str} {qual:Str} {scope:Scope} {f:Addr} {cd:Value} {A:Around} {outer:List Env} {s s1:Shared} {H:Hp} {E:XK} {us:List Value} {vs:List V}
  (S:ya N ps scope) (hd:A.handled=none) (e0:v6 P w K mg base A outer s H) (hl:vs.length=ps.length) (r:zf vs us)
  (x:InCallC s s.heap.objs.size (bindL (envOfC qual scope s.heap.objs.size f cd).kindOf (ps.zip us) λ_=>none) (cellsFrom (s.heap.objs.size + 1) scope.names []) (bindC (envOfC qual scope s.heap.objs.size f cd).kindOf (ps.zip us) λ_=>none) s1) :
  zQ (zP CX P w K mg base N qual scope f cd A outer s H E) [] (u9 N vs) H s1:=by
 have hpl:ps.length<=N.length:=by have:=congrArg List.length S.pre; rw [List.length_take] at this; omega
 obtain ⟨h1,tk,rfl,hk⟩:=x.done
 have noA:∀ b:Addr,b∉(zP CX P w K mg base N qual scope f cd A outer s H E).ex:=λb z=>absurd (show b∈([]:List Addr) from z) (by simp)
 refine ⟨⟨e0.mod,S.kind,rfl,rfl,Nat.le_refl _,λy z c h1 h2=>?_,λy hy=>?_,λy c _ h=>?_,λ_=>hd,Around.frames_deeper e0.frames,.inr ⟨rfl,rfl⟩,λb z=>absurd z (noA b),e0.bs,e0.bsz,λb _ _=>noA b,λb z=>absurd z (noA b),e0.funs,e0.frf⟩,
  rfl,e0.bare,Un.kept hk,⟨_,x.toInCall.ns,λi y v h1 h2 h3=>?_⟩,λy c h=>⟨_,x.cell y c h⟩,e0.hok.fresh (Nat.le_refl _),λy c h=>?_,λp hp=>absurd (show p∈([]:List (Addr × Obj)) from hp) (by simp),e0.hok.kept hk,?_⟩
 ·exact name_of_addr x.apart (PySem.mem_of_lookup h1) (PySem.mem_of_lookup h2)
 ·have hy:scope.names.lookup y=some .cell\/scope.names.lookup y=some .free:=hy
  rcases hy with hy | hy
  ·exact Jg hy
  ·exact absurd rfl (S.nofree _ (PySem.mem_of_lookup hy))
 ·exact Nat.le_of_lt (x.above y c (PySem.mem_of_lookup h))
 ·have hi:i < vs.length:=by
   unfold u9 at h2
   by_cases hi:i < vs.length
   ·exact hi
   ·rw [List.getElem?_append_right (by simpa using hi)] at h2
    rw [List.getElem?_replicate] at h2
    split at h2 <;> cases h2
  have ha:vs[i]? = some v:=by
   unfold u9 at h2
   rw [List.getElem?_append_left (by simpa using hi),List.getElem?_map] at h2
   cases e:vs[i]? with
   | none=>rw [e] at h2; cases h2
   | some a=>rw [e] at h2; cases h2; rfl
  obtain ⟨u,hu,rv⟩:=r.get ha
  have hp:ps[i]? = some y:=by
   rw [<- S.pre,List.getElem?_take_of_lt (by omega)]; exact h1
  have ndP:ps.Nodup:=by rw [<- S.pre]; exact S.nd.sublist (List.take_sublist _ _)
  refine ⟨u,rv,?_⟩
  rcases S.par y (List.mem_of_getElem? hp) with k | k
  ·exact .inl ⟨k,Je ndP hp hu k⟩
  ·obtain ⟨c,e⟩:=Jg (n:=s.heap.objs.size + 1) k
   refine .inr ⟨.inl k,c,e,?_⟩
   have q:=x.cell y c e
   rw [Jf ndP hp hu (by show scope.names.lookup y≠_; rw [k]; decide)] at q
   exact q
 ·exact e0.hok.fresh (Nat.le_of_lt (x.above y c (PySem.mem_of_lookup h)))
 ·unfold u9
  show _=N.length
  rw [List.length_append,List.length_map,List.length_replicate]
  omega
theorem XD {CX:uG} {P:Program} {w:World} {K:PySem.W.Frag} {mg:Str->Option Value} {base:Heap} {k:Nat} {f:Addr} {name qual:Str} {params:Arguments} {body:List Stmt} {scope:Scope} {dV kV doc pm cdv ct oc:Value} {an od:Option Addr}
  {osl:Array (Option Value)} {N ps:List Str} {sp:Sp} (lk:K.lookup f=some ⟨oc,od,.func (PySem.W.fnOf name qual params body scope dV kV doc pm an cdv ct),osl⟩) (hcd:PySem.W.codeIn K cdv qual=true) (S:ya N ps scope)
  (len:∀ vs H Q E,sp vs H Q E->vs.length=ps.length)
  (hbody:∀ (A:Around) (outer:List Env) (s:Shared) (H:Hp) (vs:List V) (Q:VK) (E:XK),yf k (A.deeper (envOfC qual scope s.heap.objs.size f cdv))->sp vs H Q E->
   ∃ t,xc (zP CX P w K mg base N qual scope f cdv A outer s H E) body t/\t { nx:=λ_ H'=>Q .non H',rt:=Q } (u9 N vs) H) :
  zU P w K mg base CX (k + 1) f (PySem.W.fnOf name qual params body scope dV kV doc pm an cdv ct) ps sp:=by
 refine ⟨len,λA outer s H args us vs Q E hr e0 hb r hsp=>?_⟩
 have hl:=len _ _ _ _ hsp
 have KX:K.In s.heap:=e0.mod.kin.keeps λb o e=>(e0.bs b o e).1
 have lim:s.heap.NoLimit:=e0.mod.nolimit.keeps λb o e=>(e0.bs b o e).1
 have hkind:∀ y∈ps.zip us,scope.names.lookup y.1=some .local\/(scope.names.lookup y.1=some .cell/\((cellsFrom (s.heap.objs.size + 1) scope.names []).lookup y.1).isSome=true):=λ⟨n,v⟩ hy=>by
  rcases S.par n (List.of_mem_zip hy).1 with q | q
  ·exact .inl q
  ·exact .inr ⟨q,PySem.W.cellsFrom_some _ _ _ (.inl q)⟩
 refine codeAny_call_function hr.depth (KX _ _ lk) rfl S.co S.gen rfl (PySem.W.codeRec_of KX hcd) (hb _ _ _ _ ?_)
 refine wpAny_newFunctionEnv_cells S.kind hkind λenv he s1 x=>?_
 subst he
 refine ⟨lim.keeps x.toInCall.keep,codeAny_func ?_⟩
 obtain ⟨t,ht,hq⟩:=hbody A outer s H vs Q E (hr.deeper _) hsp
 have I:zQ (zP CX P w K mg base N qual scope f cdv A outer s H E) [] (u9 N vs) H s1:=zLg S hr.hd e0 hl r x
 refine wpAny_mono (ht [] s1 (u9 N vs) H _ I hq) (λfl s' hs=>?_) λe s' hs=>hs
 have fin:∀ {σ':St} {H':Hp} {v:V} {u:Value},zQ (zP CX P w K mg base N qual scope f cdv A outer s H E) [] σ' H' s'->zq v u->Q v H'->CE outer P w H s Q u s':=
  λ{σ' H' v u} J rv q=>⟨v,H',J.os,J.bare,J.base,J.hok,rv,q⟩
 cases fl with
 | ret u=>
  obtain ⟨v,σ',H',J,rv,q⟩:=hs
  exact fin J rv q
 | next=>
  obtain ⟨σ',H',J,q⟩:=hs
  exact fin (v:=V.non) (u:=Value.none) J rfl q
 | brk=>
  obtain ⟨_,_,_,q⟩:=hs
  exact False.elim q
 | cont=>
  obtain ⟨_,_,_,q⟩:=hs
  exact False.elim q
end L2
namespace L2
open PySem PySem.Spec PyProof.Rows
section
variable {X:Cx} {x:Str} {p pos:Pos} {e:Expr} {es:List Expr} {t:TA} {id T:String} {r:List V->Hp->VK->Prop}
def Jh (r:List V->Hp->VK->Prop) (t:TA):TE:=λσ H Q=>t σ H λvs H1=>r vs H1 Q
theorem ym (hc:vC X (.builtin id) r) (hg:Gl X x) (hm:X.mg x=none) (hv:bootBuiltins x=some (.builtin id)) (ha:PA X (e :: es) t) (hn:x≠"__name__":=by decide) (hdb:(x == ("__debug__" : Str))=false:=by decide)
  (he:starEach (e :: es) X.env=(false,eval e X.env) :: starEach es X.env:=by rfl) (hpl:(backTo pos (starEach es X.env)).any (·.1)=false:=by rfl):PE X (.Call (.Name x p) (e :: es) [] pos) (Jh r t):=by
 intro pins s σ H Q I h
 refine wpAny_Call_Name_kw (gX I hg hm hv ?_ hn hdb)
 exact PyProof.Rows.callWith_builtin1 (yQ (ha pos pins s σ H _ I h) λus s1 ⟨vs,H1,I1,r1,q1⟩=>hc pins s1 σ H1 vs us Q I1 r1 q1) he hpl
theorem xn (hc:vC X (.type T) r) (hg:Gl X x) (hm:X.mg x=none) (hv:bootBuiltins x=some (.type T)) (ha:PA X (e :: es) t) (hn:x≠"__name__":=by decide) (hdb:(x == ("__debug__" : Str))=false:=by decide)
  (he:starEach (e :: es) X.env=(false,eval e X.env) :: starEach es X.env:=by rfl) (hpl:(backTo pos (starEach es X.env)).any (·.1)=false:=by rfl):PE X (.Call (.Name x p) (e :: es) [] pos) (Jh r t):=by
 intro pins s σ H Q I h
 refine wpAny_Call_Name_kw (gX I hg hm hv ?_ hn hdb)
 exact PyProof.Rows.callWith_type1 (yQ (ha pos pins s σ H _ I h) λus s1 ⟨vs,H1,I1,r1,q1⟩=>hc pins s1 σ H1 vs us Q I1 r1 q1) he hpl
end
end L2
namespace HT
open PySem PyProof.Rows
section
open PySem.SeqAt
open PySem.AutoSeq1 (wpAny_loadPart')
open PySem.MeetsSeq PySem.MeetsSeq2 PySem.MeetsSeq3
end
section
variable {prog:Program} {w:World} {A:Around} {E:Value->Shared->Prop} {s:Shared}
theorem cat_tup {t b:Addr} {vs ws:List Value} {Q:Value->Shared->Prop} (ht:IsTup s.heap t vs.toArray) (hb:IsTup s.heap b ws.toArray) (hv:vs≠[])
  (h1:ws=[]->Q (.ref t) s) (h2:ws≠[]->Q (.ref s.heap.objs.size) { s with heap:=s.heap.push { cls:=.type "tuple",data:=.seq (vs++ws).toArray } })
  (hsz:vs.length + ws.length<=sizeLine):wpAny (model prog w) A (binaryOp .Add (.ref t) (.ref b)) Q E s:=by
 obtain ⟨⟨cls,dd,data,sl⟩,ho,hc,n,hd⟩:=id ht
 obtain ⟨⟨cls2,dd2,data2,sl2⟩,ho2,hc2,n2,hd2⟩:=id hb
 simp only at hc hd hc2 hd2
 subst hc hd hc2 hd2
 have e:vs.toArray++ws.toArray=(vs++ws).toArray:=by simp
 by_cases hw:ws=[]
 ·exact concat_meets ⟨_,ho,rfl⟩ ⟨_,ho2,rfl⟩ noFill_tuple_add seq_tuple_add PySem.F.slot_tuple_add PySem.F.entry_tuple_add (PySem.F.args_tuple_add_2 _ _)
   (tuple_addW1 t b vs.toArray ws.toArray n n2 dd dd2 sl sl2 (by simpa using hv) (by simp [hw])) ⟨ho,ho2,h1 hw⟩
 ·refine concat_meets ⟨_,ho,rfl⟩ ⟨_,ho2,rfl⟩ noFill_tuple_add seq_tuple_add PySem.F.slot_tuple_add PySem.F.entry_tuple_add (PySem.F.args_tuple_add_2 _ _)
   (tuple_addW2 t b vs.toArray ws.toArray n n2 dd dd2 sl sl2 (by simpa using hv) (by simpa using hw) (by rw [List.size_toArray,List.size_toArray]; exact hsz)) ⟨ho,ho2,?_⟩
  rw [e]
  exact h2 hw
def sIx (n d:Nat):Option Int->Nat
 | none=>d
 | some v=>if v < 0 then (v + (n:Int)).toNat else min v.toNat n
theorem sIx_none (n d:Nat):sIx n d none=d:=rfl
theorem sIx_nat (n d k:Nat):sIx n d (some (k:Int))=min k n:=by
 show (if (k:Int) < 0 then ((k:Int) + (n:Int)).toNat else min (k:Int).toNat n)=min k n
 rw [if_neg (by omega),Int.toNat_natCast]
theorem zOV (n d:Nat) (hd:d<=n) (o:Option Int):sIx n d o<=n:=by
 cases o with
 | none=>exact hd
 | some v=>
  show (if v < 0 then (v + (n:Int)).toNat else min v.toNat n)<=n
  by_cases hv:v < 0
  ·rw [if_pos hv]; omega
  ·rw [if_neg hv]; exact Nat.min_le_right _ _
theorem Ji (v:Int) (n d:Nat):(if v < 0 then max (v + (n:Int)) 0 else min v (n:Int))=((sIx n d (some v):Nat):Int):=by
 show (if v < 0 then max (v + (n:Int)) 0 else min v (n:Int))=(((if v < 0 then (v + (n:Int)).toNat else min v.toNat n):Nat):Int)
 by_cases hv:v < 0
 ·simp only [if_pos hv]; omega
 ·simp only [if_neg hv]; omega
theorem zKX (lo hi:Option Int) (n:Nat):Builtin.Slice.sliceAdjust lo hi 1 (n:Int)=(((sIx n 0 lo:Nat):Int),((sIx n n hi:Nat):Int)):=by
 have h1:¬ ((1:Int) < 0):=by omega
 unfold Builtin.Slice.sliceAdjust
 simp only [h1,if_false]
 refine Prod.ext ?_ ?_
 ·cases lo with
  | none=>rfl
  | some v=>exact Ji v n 0
 ·cases hi with
  | none=>rfl
  | some v=>exact Ji v n n
theorem zJ4 (i j:Nat):Builtin.Slice.slicePlaces (i:Int) (j:Int) 1=j - i:=by
 unfold Builtin.Slice.slicePlaces
 have h1:(1:Int) > 0:=by omega
 simp only [h1,if_true,Int.ediv_one]
 split <;> omega
theorem Jj {v:Value} {o:Option Int} {Q:Option Int->Shared->Prop} (p:IsPart v o) (h:Q o s):wpAny (model prog w) A (Builtin.Slice.slicePartIndex v) Q E s:=by
 cases p with
 | none=>exact slicePart_none h
 | int i t=>exact slicePart_int h
theorem zE1 {sl:Addr} {vl vu:Value} {lo hi:Option Int} {n:Nat} {Q:Int × Int × Nat->Shared->Prop} (hs:s.heap.IsSliceOf sl vl vu .none) (pl:IsPart vl lo) (pu:IsPart vu hi)
  (h:Q (((sIx n 0 lo:Nat):Int),1,sIx n n hi - sIx n 0 lo) s):wpAny (model prog w) A (Builtin.Slice.sliceApplied (.ref sl) (pure (n:Int))) Q E s:=by
 obtain ⟨os,hos,hcs,hds⟩:=id hs
 unfold Builtin.Slice.sliceApplied Builtin.Slice.sliceFields
 refine wpAny_bind (wpAny_bind (wpAny_field hos hds (x:=vl) rfl (wpAny_bind (wpAny_field hos hds (x:=vu) rfl (wpAny_bind (wpAny_field hos hds (x:=.none) rfl (wpAny_pure ?_)))))))
 refine wpAny_bind (slicePart_none ?_)
 show wpAny _ _ (if ((1:Int) == 0)=true then _ else _) _ _ s
 rw [if_neg (by decide)]
 refine wpAny_bind (Jj pl (wpAny_bind (Jj pu (wpAny_bind (wpAny_pure ?_)))))
 show wpAny _ _ (match Builtin.Slice.sliceAdjust lo hi 1 (n:Int) with | (lo,hi)=>pure (lo,(1:Int),Builtin.Slice.slicePlaces lo hi 1)) _ _ s
 rw [zKX lo hi n]
 show wpAny _ _ (pure (((sIx n 0 lo:Nat):Int),(1:Int),Builtin.Slice.slicePlaces ((sIx n 0 lo:Nat):Int) ((sIx n n hi:Nat):Int) 1)) _ _ s
 rw [zJ4]
 exact wpAny_pure h
theorem zMS (xs:Array Value) (i k:Nat):((List.range k).filterMap λ(m:Nat)=>xs[((i:Int) + (m:Int) * 1).toNat]?).toArray=((xs.toList.drop i).take k).toArray:=by
 have e:(λ(m:Nat)=>xs[((i:Int) + (m:Int) * 1).toNat]?)=λm=>xs[i + m]?:=by
  funext m
  have:((i:Int) + (m:Int) * 1).toNat=i + m:=by omega
  rw [this]
 rw [e]
 have:=pick_run xs i k
 rw [List.filterMap_map] at this
 have e2:((λx=>xs[x]?) ∘ λx=>i + x)=λm=>xs[i + m]?:=rfl
 rw [e2] at this
 rw [this]
theorem getItem_tuple_cut {t sl:Addr} {items:Array Value} {vl vu:Value} {lo hi:Option Int} {Q:Value->Shared->Prop} (ht:IsTup s.heap t items) (hs:s.heap.IsSliceOf sl vl vu .none) (pl:IsPart vl lo) (pu:IsPart vu hi)
  (hw:¬ (sIx items.size 0 lo=0/\sIx items.size items.size hi=items.size))
  (h:Q (.ref s.heap.objs.size) { s with heap:=s.heap.push { cls:=.type "tuple",data:=.seq ((items.toList.drop (sIx items.size 0 lo)).take (sIx items.size items.size hi - sIx items.size 0 lo)).toArray } })
  (hsz:items.size<=sizeLine):wpAny (model prog w) A (getItem (.ref t) (.ref sl)) Q E s:=by
 have htake:sizeOk (.seq ((items.toList.drop (sIx items.size 0 lo)).take (sIx items.size items.size hi - sIx items.size 0 lo)).toArray):=by
  show ((items.toList.drop (sIx items.size 0 lo)).take (sIx items.size items.size hi - sIx items.size 0 lo)).toArray.size<=sizeLine
  rw [List.size_toArray,List.length_take,List.length_drop,Array.length_toList]
  omega
 have hj:sIx items.size items.size hi<=items.size:=zOV _ _ (Nat.le_refl _) hi
 obtain ⟨os,hos,hcs,hds⟩:=id hs
 have hTs:s.TypeIs (.ref sl) "slice":=⟨os,hos,hcs⟩
 unfold getItem
 try with_reducible refine wpAny_holding ?_
 first | refine wpAny_bind (wpAny_pure ?_) | skip
 refine wpAny_bind (wpAny_sequenceKey ht.typeIs (by decide) ?_)
 refine wpAny_bind (wpAny_callSpecial?_slot (name:=Str.ofString "__getitem__") ht.typeIs PyProof.Rows.slot_tuple_getitem
  (wpAny_call_entry PyProof.Rows.slot_tuple_getitem ht.typeIs entry_tuple_getitem ?_ (args_tuple_getitem _ _)))
 show wpAny _ _ (Builtin.Tuple.tupleItemsOf (.ref t) >>= _) _ _ s
 refine wpAny_bind (tupleItemsOf_ ht ?_)
 refine wpAny_bind (wpAny_typeOf hTs ?_)
 rw [if_pos (by decide)]
 refine wpAny_bind (zE1 hs pl pu ?_)
 have hno:¬ ((((sIx items.size 0 lo:Nat):Int) == 0 && (1:Int) == 1 && (sIx items.size items.size hi - sIx items.size 0 lo) == items.size)=true):=by
  intro q
  rw [Bool.and_eq_true,Bool.and_eq_true] at q
  have q1:((sIx items.size 0 lo:Nat):Int)=0:=eq_of_beq q.1.1
  have q2:sIx items.size items.size hi - sIx items.size 0 lo=items.size:=eq_of_beq q.2
  exact hw ⟨by omega,by omega⟩
 show wpAny _ _ (if (((sIx items.size 0 lo:Nat):Int) == 0 && (1:Int) == 1 && (sIx items.size items.size hi - sIx items.size 0 lo) == items.size)=true then _ else _) _ _ s
 rw [if_neg hno,zMS]
 first
  | exact wpAny_bind (m:=Builtin.Tuple.tupleExact _) (wpAny_newObj_type (wpAny_pure ⟨_,rfl,wpAny_pure h⟩) htake)
  | exact wpAny_bind (m:=Builtin.Tuple.tupleExact _) (wpAny_newObj_type (wpAny_bind (wpAny_pure (wpAny_pure ⟨_,rfl,wpAny_pure h⟩))) htake)
  | exact wpAny_bind (wpAny_bind (m:=Builtin.Tuple.tupleExact _) (wpAny_newObj_type (wpAny_pure (wpAny_pure ⟨_,rfl,wpAny_pure h⟩)) htake))
  | exact wpAny_bind (wpAny_bind (m:=Builtin.Tuple.tupleExact _) (wpAny_newObj_type (wpAny_pure ⟨_,rfl,wpAny_pure h⟩) htake))
end
end HT
namespace L2
open PySem PySem.Spec PyProof.Rows
abbrev TO:=St->Hp->(Option Int->Hp->Prop)->Prop
def PO (X:Cx) (e:Option Expr) (t:TO):Prop:=
 ∀ (pins:List (Addr × Obj)) (s:Shared) (σ:St) (H:Hp) (Q:Option Int->Hp->Prop),zQ X pins σ H s->t σ H Q->
  wpAny (model X.prog X.w) X.A (evalPart e X.env) (λu s'=>∃ o H',zQ X pins σ H' s'/\IsPart u o/\Q o H') X.xe s
def zNQ:TO:=λ_ H Q=>Q none H
def gl (t:TE):TO:=λσ H Q=>t σ H λx H1=>∃ i,x=.int i/\Q (some i) H1
section
variable {X:Cx} {e:Expr} {te:TE} {lo hi:Option Expr} {tl th:TO} {pos p2:Pos}
theorem v7:PO X none zNQ:=by
 intro pins s σ H Q I h
 rw [evalPart_none]
 exact wpAny_pure ⟨none,H,I,.none,h⟩
theorem vD (h:PE X e te):PO X (some e) (gl te):=by
 intro pins s σ H Q I hw
 rw [evalPart_some]
 refine yQ (h pins s σ H _ I hw) λu s1 ⟨x,H1,I1,r1,q1⟩=>?_
 obtain ⟨i,rfl,q⟩:=q1
 obtain ⟨t,rfl⟩:=r1
 exact ⟨some i,H1,I1,.int i t,q⟩
def qu (X:Cx) (r:V->Option Int->Option Int->Hp->VK->Prop):Prop:=
 ∀ (pins:List (Addr × Obj)) (s:Shared) (σ:St) (H:Hp) (x:V) (v vl vu:Value) (lo hi:Option Int) (sl:Addr) (Q:VK),zQ X pins σ H s->zq x v->s.heap.IsSliceOf sl vl vu .none->IsPart vl lo->IsPart vu hi->r x lo hi H Q->
  ∃ T id,typeLookup (.type T) "__getitem__" = pure (some (.builtin id))/\s.TypeIs v T/\wpAny (model X.prog X.w) X.A (getItem v (.ref sl)) (EP X pins σ Q) X.xe s
def tSl (r:V->Option Int->Option Int->Hp->VK->Prop) (te:TE) (tl th:TO):TE:=λσ H Q=>te σ H λx H1=>tl σ H1 λl H2=>th σ H2 λu H3=>r x l u H3 Q
theorem vO {r:V->Option Int->Option Int->Hp->VK->Prop} (hr:qu X r) (he:PE X e te) (hl:PO X lo tl) (hu:PO X hi th):PE X (.Subscript e (.Slice lo hi none p2) pos) (tSl r te tl th):=by
 intro pins s σ H Q I h
 refine Subscript_ (yQ (he pins s σ H _ I h) λv s1 ⟨x,H1,I1,r1,q1⟩=>?_)
 refine wpAny_Slice (yQ (hl pins s1 σ H1 _ I1 q1) λvl s2 ⟨l,H2,I2,pl,q2⟩=>yQ (hu pins s2 σ H2 _ I2 q2) λvu s3 ⟨u,H3,I3,pu,q3⟩=>?_)
 rw [evalPart_none]
 refine wpAny_pure ?_
 have I4:zQ X pins σ H3 { s3 with heap:=s3.heap.push { cls:=.type "slice",data:=.fields #[vl,vu,.none] } }:=I3.kept (t':=s3.toks) λb ob q=>Heap.get?_push_of_some _ q
 obtain ⟨T,id,hT,ht,hg⟩:=hr pins { s3 with heap:=s3.heap.push { cls:=.type "slice",data:=.fields #[vl,vu,.none] } } σ H3 x v vl vu l u s3.heap.objs.size Q I4 r1 (Heap.IsSliceOf.new ..) pl pu q3
 show wpAny (model X.prog X.w) X.A (subscriptTail e (.Slice lo hi none p2) v (.ref s3.heap.objs.size)) (EP X pins σ Q) X.xe { s3 with heap:=s3.heap.push { cls:=.type "slice",data:=.fields #[vl,vu,.none] } }
 exact tail_any (ops:=[.ref s3.heap.objs.size,v]) ht hT hg (by with_unfolding_all rfl)
def yY (xs:List V) (lo hi:Option Int):List V:=(xs.drop (HT.sIx xs.length 0 lo)).take (HT.sIx xs.length xs.length hi - HT.sIx xs.length 0 lo)
theorem Jk (xs:List V) (lo hi:Option Int):(yY xs lo hi).length<=xs.length:=by
 unfold yY
 rw [List.length_take,List.length_drop]
 omega
def XE (K:PySem.W.Frag):V->Option Int->Option Int->Hp->VK->Prop:=λx lo hi H Q=>∃ a xs,x=.ref a/\zT K H a xs∧
 ¬ (HT.sIx xs.length 0 lo=0/\HT.sIx xs.length xs.length hi=xs.length)/\∀ p,H p=none->Q (.ref p) (upd H p (.tup (yY xs lo hi)))
theorem zOU:qu X (XE X.K):=by
 intro pins s σ H x v vl vu lo hi sl Q I rx hs pl pu h
 obtain ⟨a,xs,rfl,hx,hw,q⟩:=h
 cases rx
 obtain ⟨its,r,ht,hz⟩:=I.tuple hx
 have hlen:its.toArray.size=xs.length:=by rw [List.size_toArray]; exact r.length.symm
 refine ⟨"tuple",_,PyProof.Rows.slot_tuple_getitem.lookup,ht.typeIs,?_⟩
 refine HT.getItem_tuple_cut ht hs pl pu (by rw [hlen]; exact hw) ?_ (by rw [hlen]; exact hz)
 rw [hlen]
 refine ⟨.ref s.heap.objs.size,_,I.laid (t':=s.toks) (o:=.tup (yY xs lo hi)) (λb ob q=>Heap.get?_push_of_some _ q) (Nat.le_refl _) ?_,rfl,q _ (I.hok.fresh (Nat.le_refl _))⟩
 exact ⟨Nat.le_trans (Jk xs lo hi) hz,_,(r.drop (HT.sIx xs.length 0 lo)).take (HT.sIx xs.length xs.length hi - HT.sIx xs.length 0 lo),IsTup.new _ _⟩
def Jl (K:PySem.W.Frag):R2:=λx y H Q=>∃ a b xs ys,x=.ref a/\y=.ref b/\zT K H a xs/\zT K H b ys/\xs≠[]/\xs.length + ys.length<=sizeLine∧
 (ys=[]->Q (.ref a) H)/\(ys≠[]->∀ p,H p=none->Q (.ref p) (upd H p (.tup (xs++ys))))
theorem zf.nil_iff {xs:List V} {us:List Value} (r:zf xs us):us=[] ↔ xs=[]:=by
 cases r with
 | nil=>simp
 | cons _ _=>simp
theorem jp:xj X (binaryOp .Add) (Jl X.K):=by
 intro pins s σ H x y v u Q I rx ry h
 obtain ⟨a,b,xs,ys,rfl,rfl,ha,hb,hx,hz,q1,q2⟩:=h
 cases rx
 cases ry
 obtain ⟨its,r1,p1,_⟩:=I.tuple ha
 obtain ⟨its2,r2,p2,_⟩:=I.tuple hb
 refine HT.cat_tup p1 p2 (λz=>hx (r1.nil_iff.mp z)) (λz=>⟨.ref a,H,I,rfl,q1 (r2.nil_iff.mp z)⟩) (λz=>?_) (by rw [<- r1.length,<- r2.length]; exact hz)
 refine ⟨.ref s.heap.objs.size,_,I.laid (t':=s.toks) (o:=.tup (xs++ys)) (λb ob q=>Heap.get?_push_of_some _ q) (Nat.le_refl _) ?_,rfl,q2 (λw=>z (r2.nil_iff.mpr w)) _ (I.hok.fresh (Nat.le_refl _))⟩
 exact ⟨by rw [List.length_append]; exact hz,_,r1.append r2,IsTup.new _ _⟩
end
end L2
namespace L2
open PySem PySem.Spec PyProof.Rows
def jV (n:Nat) (i:Int):Option Nat:=if 0<=i then (if i < n then some i.toNat else none) else if -(n:Int)<=i then some (i + n).toNat else none
def yk {α:Type} (xs:List α) (i:Int):Option α:=(jV xs.length i).bind λj=>xs[j]?
theorem zNq {n:Nat} {i:Int} {j:Nat} (h:jV n i=some j):seqIndex? i n=some j/\j < n/\-(n:Int)<=i/\i < n:=by
 unfold jV at h
 by_cases h0:0<=i
 ·rw [if_pos h0] at h
  by_cases h1:i < n
  ·rw [if_pos h1] at h
   have e:i.toNat=j:=Option.some.inj h
   exact ⟨by rw [seqIndex_of h0 h1,e],by omega,by omega,h1⟩
  ·rw [if_neg h1] at h; cases h
 ·rw [if_neg h0] at h
  by_cases h1 : -(n:Int)<=i
  ·rw [if_pos h1] at h
   have e:(i + n).toNat=j:=Option.some.inj h
   exact ⟨by rw [seqIndex_neg (by omega) h1,e],by omega,h1,by omega⟩
  ·rw [if_neg h1] at h; cases h
theorem Jm {α:Type} {xs:List α} {i:Int} {v:α} (h:yk xs i=some v):∃ j,seqIndex? i xs.length=some j/\xs[j]? = some v/\j < xs.length/\-(xs.length:Int)<=i/\i < xs.length:=by
 unfold yk at h
 cases e:jV xs.length i with
 | none=>rw [e] at h; cases h
 | some j=>
  rw [e] at h
  obtain ⟨h1,h2,h3,h4⟩:=zNq e
  exact ⟨j,h1,h,h2,h3,h4⟩
theorem um {α:Type} {xs:List α} {j:Nat} {v:α} (h:xs[j]? = some v):yk xs (j:Int)=some v:=by
 have hj:j < xs.length:=(List.getElem?_eq_some_iff.mp h).1
 have e:jV xs.length (j:Int)=some j:=by
  unfold jV
  rw [if_pos (by omega),if_pos (by omega)]; simp
 unfold yk; rw [e]; exact h
theorem ue {α:Type} (xs:List α) (v:α):yk (xs++[v]) (-1)=some v:=by
 have hl:(xs++[v]).length=xs.length + 1:=by simp
 have e:jV (xs++[v]).length (-1)=some xs.length:=by
  unfold jV
  rw [hl,if_neg (by decide),if_pos (by omega)]
  congr 1
  omega
 unfold yk
 rw [e]
 show (xs++[v])[xs.length]? = some v
 simp
def zOG (b:Expr):Prop:=∀ o i,subscripted b false o i=operate [o,i] (getItem o i)
def wT (X:Cx) (r:R2):Prop:=
 ∀ (value slice:Expr) (pins:List (Addr × Obj)) (s:Shared) (σ:St) (H:Hp) (x y:V) (v u:Value) (Q:VK),zQ X pins σ H s->zq x v->zq y u->r x y H Q->
  subscripted slice false v u=operate [v,u] (getItem v u)->wpAny (model X.prog X.w) X.A (subscriptTail value slice v u) (EP X pins σ Q) X.xe s
def Jn (X:Cx) (id:String) (r:V->List V->Hp->VK->Prop):Prop:=
 ∀ (pins:List (Addr × Obj)) (s:Shared) (σ:St) (H:Hp) (x:V) (xs:List V) (v:Value) (us:List Value) (Q:VK),zQ X pins σ H s->zq x v->zf xs us->r x xs H Q->
  wpAny (model X.prog X.w) X.A (call (.builtin id) (v :: us)) (EP X pins σ Q) X.xe s
section
variable {X:Cx} {a b:Expr} {ta tb:TE} {pos:Pos}
theorem zh {r:R2} (hr:wT X r) (ha:PE X a ta) (hb:PE X b tb) (hs:zOG b):PE X (.Subscript a b pos) (ZN r ta tb):=by
 intro pins s σ H Q I h
 exact Subscript_ (qA ha hb I h λv u s2 x y H2 I2 rx ry q=>hr a b pins s2 σ H2 x y v u Q I2 rx ry q (hs _ _))
def XF (K:PySem.W.Frag):R2:=λx y H Q=>∃ p xs i v,x=.ref p/\y=.int i/\zJ K H p xs/\yk xs i=some v/\Q v H
def XG (K:PySem.W.Frag):R2:=λx y H Q=>∃ p xs i v,x=.ref p/\y=.int i/\zT K H p xs/\yk xs i=some v/\Q v H
theorem zNp:wT X (XF X.K):=by
 intro value slice pins s σ H x y v u Q I rx ry h hs
 obtain ⟨p,xs,i,z,rfl,rfl,hq,he,q⟩:=h
 cases rx
 obtain ⟨t,rfl⟩:=ry
 obtain ⟨its,r,pl,hz⟩:=I.list hq
 obtain ⟨j,h1,h2,h3,h4,h5⟩:=Jm he
 obtain ⟨w,ew,rw'⟩:=r.get h2
 have hl:=r.length
 have hn:=Y5
 have fin:EP X pins σ Q w s:=⟨z,H,I,rw',q⟩
 by_cases h0:0<=i
 ·have hj:i.toNat=j:=by
   rw [seqIndex_of h0 h5] at h1
   exact Option.some.inj h1
  exact item_listR pl.isList h0 (by omega) (by rw [hj]; simpa using ew) fin hs
 ·have hj:(i + (its.toArray.size:Int)).toNat=j:=by
   rw [seqIndex_neg (by omega) h4] at h1
   rw [List.size_toArray,<- hl]
   exact Option.some.inj h1
  exact subscriptTail_builtinR (x:=w) pl.isList.typeIs slot_list_getitem.lookup
   (wpAny_getItem_list_neg (Q:=λr s'=>r=w/\EP X pins σ Q r s') pl.isList (by omega) (by rw [List.size_toArray] <;> omega) (by omega) (by rw [hj]; simpa using ew) ⟨rfl,fin⟩) hs
theorem zOy:wT X (XG X.K):=by
 intro value slice pins s σ H x y v u Q I rx ry h hs
 obtain ⟨p,xs,i,z,rfl,rfl,hq,he,q⟩:=h
 cases rx
 obtain ⟨t,rfl⟩:=ry
 obtain ⟨its,r,pl,hz⟩:=I.tuple hq
 obtain ⟨j,h1,h2,h3,h4,h5⟩:=Jm he
 obtain ⟨w,ew,rw'⟩:=r.get h2
 have hl:=r.length
 have hn:=Y5
 have fin:EP X pins σ Q w s:=⟨z,H,I,rw',q⟩
 exact subscriptTail_builtinR (x:=w) pl.typeIs slot_tuple_getitem.lookup
  (getItem_tuple (j:=j) (Q:=λr s'=>r=w/\EP X pins σ Q r s') pl (by omega) (by omega) (by rw [List.size_toArray,<- hl]; exact h1) (by simpa using ew) ⟨rfl,fin⟩) hs
theorem zHX (lo hi:Option Int) (n:Nat):(sliceBounds lo hi none n).1=((HT.sIx n 0 lo:Nat):Int)/\(sliceBounds lo hi none n).2.1=((HT.sIx n n hi:Nat):Int)/\(sliceBounds lo hi none n).2.2=1:=by
 refine ⟨?_,?_,rfl⟩
 ·cases lo with
  | none=>simp [sliceBounds,HT.sIx]
  | some i=>
   simp only [sliceBounds,HT.sIx,Option.getD_none,show (1:Int) > 0 by decide,if_true]
   by_cases h:i < 0
   ·simp only [h,if_true] <;> omega
   ·simp only [h,if_false] <;> omega
 ·cases hi with
  | none=>simp [sliceBounds,HT.sIx]
  | some i=>
   simp only [sliceBounds,HT.sIx,Option.getD_none,show (1:Int) > 0 by decide,if_true]
   by_cases h:i < 0
   ·simp only [h,if_true] <;> omega
   ·simp only [h,if_false] <;> omega
theorem zG3 (its:List Value) (lo hi:Option Int):slicePick its.toArray lo hi none=((its.drop (HT.sIx its.length 0 lo)).take (HT.sIx its.length its.length hi - HT.sIx its.length 0 lo)).toArray:=by
 obtain ⟨h1,h2,h3⟩:=zHX lo hi its.toArray.size
 unfold slicePick
 rw [h1,h2,h3]
 simp only [sliceRange_one,pick_run,List.size_toArray] <;> rfl
def XH (K:PySem.W.Frag):V->Option Int->Option Int->Hp->VK->Prop:=λx lo hi H Q=>∃ a xs,x=.ref a/\zJ K H a xs/\∀ p,H p=none->Q (.ref p) (upd H p (.lst (yY xs lo hi)))
theorem zNV:qu X (XH X.K):=by
 intro pins s σ H x v vl vu lo hi sl Q I rx hs pl pu h
 obtain ⟨a,xs,rfl,hx,q⟩:=h
 cases rx
 obtain ⟨its,r,ht,hz⟩:=I.list hx
 have hlen:=r.length
 refine ⟨"list",_,slot_list_getitem.lookup,ht.isList.typeIs,?_⟩
 refine wpAny_getItem_list_slice ht.isList hs pl pu .none (by simp) ?_ (by rw [List.size_toArray] <;> omega)
 rw [zG3,<- hlen]
 refine ⟨.ref s.heap.objs.size,_,I.laid (t':=s.toks) (o:=.lst (yY xs lo hi)) (λb ob q=>Heap.get?_push_of_some _ q) (Nat.le_refl _) ?_,rfl,q _ (I.hok.fresh (Nat.le_refl _))⟩
 exact ⟨Nat.le_trans (Jk xs lo hi) hz,_,0,(r.drop (HT.sIx xs.length 0 lo)).take (HT.sIx xs.length xs.length hi - HT.sIx xs.length 0 lo),Heap.get?_push_size _ rfl⟩
theorem zHv:vC X (.builtin "len") (λxs H Q=>∃ p ys,xs=[.ref p]/\(zJ X.K H p ys\/zT X.K H p ys)/\Q (.int ys.length) H):=by
 intro pins s σ H xs us Q I r h
 obtain ⟨p,ys,rfl,hq,q⟩:=h
 obtain ⟨u,rfl,rx⟩:=jo r
 cases rx
 have hn:=Y5
 rcases hq with hq | hq
 ·obtain ⟨its,r',pl,hz⟩:=I.list hq
  have hlen:=r'.length
  exact Calls.call_len_list pl.isList (by simp only [List.size_toArray] <;> omega) ⟨.int ys.length,H,I.tok _,⟨s.toks + 1,by rw [List.size_toArray,hlen]⟩,q⟩
 ·obtain ⟨its,r',pl,hz⟩:=I.tuple hq
  have hlen:=r'.length
  exact len_tuple pl (by simp only [List.size_toArray] <;> omega) ⟨.int ys.length,H,I.tok _,⟨s.toks + 1,by rw [List.size_toArray,hlen]⟩,q⟩
theorem vP:vC X (.type "list") (λxs H Q=>∃ p ys,xs=[.ref p]/\(zJ X.K H p ys\/zT X.K H p ys)/\∀ l,H l=none->Q (.ref l) (upd H l (.lst ys))):=by
 intro pins s σ H xs us Q I r h
 obtain ⟨p,ys,rfl,hq,q⟩:=h
 obtain ⟨u,rfl,rx⟩:=jo r
 cases rx
 have fin:∀ (its:List Value),zf ys its->ys.length<=sizeLine->∀ (h':Heap) (c':Nat),(∀ b o',s.heap.get? b=some o'->h'.get? b=some o')->
   h'.get? s.heap.objs.size=some { cls:=.type "list",dict:=none,data:=.seq its.toArray c',slots:=#[] }->EP X pins σ Q (.ref s.heap.objs.size) { s with heap:=h' }:=λits r' hz h' c' kp e=>
  ⟨.ref s.heap.objs.size,_,I.laid (t':=s.toks) kp (Nat.le_refl _) (show xV X.prog X.w _ h' _ (.lst ys) from ⟨hz,its,c',r',e⟩),rfl,q _ (I.hok.fresh (Nat.le_refl _))⟩
 rcases hq with hq | hq
 ·obtain ⟨its,r',pl,hz⟩:=I.list hq
  have hlen:=r'.length
  obtain ⟨o,ho,hc,n,hd⟩:=pl.isList
  exact call_list_seq p (.inl rfl) ho hc hd (λh' c' kp e=>fin its r' hz h' c' kp e) (by simp only [List.size_toArray] <;> omega)
 ·obtain ⟨its,r',pl,hz⟩:=I.tuple hq
  have hlen:=r'.length
  obtain ⟨o,ho,hc,n,hd⟩:=pl
  exact call_list_seq p (.inr rfl) ho hc hd (λh' c' kp e=>fin its r' hz h' c' kp e) (by simp only [List.size_toArray] <;> omega)
theorem zHQ:vC X (.type "tuple") (λxs H Q=>∃ p ys,xs=[.ref p]/\((zJ X.K H p ys/\∀ l,H l=none->Q (.ref l) (upd H l (.tup ys)))\/(zT X.K H p ys/\Q (.ref p) H))):=by
 intro pins s σ H xs us Q I r h
 obtain ⟨p,ys,rfl,h⟩:=h
 obtain ⟨u,rfl,rx⟩:=jo r
 cases rx
 rcases h with ⟨hq,q⟩ | ⟨hq,q⟩
 ·obtain ⟨its,r',pl,hz⟩:=I.list hq
  have hlen:=r'.length
  refine call_tuple_list pl.isList (λh' kp=>?_) (by simp only [List.size_toArray] <;> omega)
  have I1:zQ X pins σ H { s with heap:=h' }:=I.kept (t':=s.toks) kp
  have I2:zQ X pins σ (upd H h'.objs.size (.tup ys)) { s with heap:=h'.push { cls:=.type "tuple",data:=.seq its.toArray } }:=
   I1.laid (t':=s.toks) (λb o e=>Heap.get?_push_of_some _ e) (Nat.le_refl _) (show xV X.prog X.w _ _ _ (.tup ys) from ⟨hz,its,r',IsTup.new _ _⟩)
  exact ⟨.ref h'.objs.size,_,I2,rfl,q _ (I1.hok.fresh (Nat.le_refl _))⟩
 ·obtain ⟨its,r',pl,hz⟩:=I.tuple hq
  exact call_tuple_same pl ⟨.ref p,H,I,rfl,q⟩
def Jo (K:PySem.W.Frag) (T:String) (x:V) (H:Hp):Prop:=match x with
 | .str _=>T = "str"
 | .int _=>T = "int"
 | .ref p=>(T = "list"/\∃ xs,zJ K H p xs)\/(T = "tuple"/\∃ o,K.lookup p=some o/\o.cls=.type "tuple"/\o.dict=none)∨
   (T = "dict"/\((∃ kvs,H p=some (.dK kvs))\/∃ kvs,H p=some (.dT kvs)))\/(T = "set"/\∃ S n,H p=some (.set S n))
 | _=>False
theorem Jp {pins:List (Addr × Obj)} {σ:St} {H:Hp} {s:Shared} {T:String} {x:V} {v:Value} (I:zQ X pins σ H s) (r:zq x v) (ty:Jo X.K T x H) :
  s.TypeIs v T/\∀ a,v=.ref a->∃ ob,s.heap.get? a=some ob/\ob.dict=none:=by
 cases x with
 | str z=>
  obtain ⟨t,rfl⟩:=r
  cases (show T = "str" from ty)
  exact ⟨typeIs_str s z t,λ_ e=>nomatch e⟩
 | int i=>
  obtain ⟨t,rfl⟩:=r
  cases (show T = "int" from ty)
  exact ⟨typeIs_int s i t,λ_ e=>nomatch e⟩
 | ref p=>
  cases r
  rcases ty with ⟨rfl,xs,hq⟩ | ⟨rfl,o,hk,hc,hd⟩ | ⟨rfl,hk⟩ | ⟨rfl,S,n,hk⟩
  ·obtain ⟨its,_,pl,_⟩:=I.list hq
   refine ⟨pl.isList.typeIs,λa e=>?_⟩
   cases e
   obtain ⟨o,n,e,c,hd,_⟩:=pl
   exact ⟨o,e,hd⟩
  ·refine ⟨⟨o,I.kIn p o hk,hc⟩,λa e=>?_⟩
   cases e
   exact ⟨o,I.kIn _ o hk,hd⟩
  ·have z:∃ o,s.heap.get? p=some o/\o.ExactDict:=by
    rcases hk with ⟨kvs,hk⟩ | ⟨kvs,hk⟩
    ·obtain ⟨_,_,_,_,o,_,_,e,ex,_⟩:=I.hok p _ hk
     exact ⟨o,e,ex⟩
    ·obtain ⟨_,_,_,_,o,_,_,e,ex,_⟩:=I.hok p _ hk
     exact ⟨o,e,ex⟩
   obtain ⟨o,e,ex⟩:=z
   refine ⟨⟨o,e,ex.1⟩,λa e2=>?_⟩
   cases e2
   exact ⟨o,e,ex.2.1⟩
  ·obtain ⟨o,_,_,_,e,ex,_⟩:=I.hok p _ hk
   refine ⟨⟨o,e,ex.1⟩,λa e2=>?_⟩
   cases e2
   exact ⟨o,e,ex.2.1⟩
 | _=>exact False.elim ty
def tBM (K:PySem.W.Frag) (T:String) (r:V->List V->Hp->VK->Prop) (to:TE) (t:TA):TE:=λσ H Q=>to σ H λx H1=>Jo K T x H1/\t σ H1 λxs H2=>r x xs H2 Q
variable {o e:Expr} {es:List Expr} {to:TE} {t:TA} {name:Str} {apos cpos:Pos} {T id:String} {r:V->List V->Hp->VK->Prop}
theorem vI (pa:PlainAttrs T) (slot:Slot T name id) (hty:typeOf (.builtin id)=pure (.type "method_descriptor")) (hm:Jn X id r) (ho:PE X o to) (ha:PA X (e :: es) t)
  (hbase:attributeBase o name X.env (eval o X.env)=eval o X.env:=by rfl)
  (hfew:((backTo cpos (starEach (e :: es) X.env)).all (λx=>!x.1) && (backToKw cpos (keywordEach [] X.env)).all (λx=>x.1.isSome)
   && decide ((e :: es).length + ([]:List Keyword).length + (if ([]:List Keyword).isEmpty then 0 else 1) < 30))=true:=by rfl)
  (hline:(apos.endLine == cpos.line)=true:=by rfl) (hs:starEach (e :: es) X.env=(false,eval e X.env) :: starEach es X.env:=by rfl) (hplain:(backTo cpos (starEach es X.env)).any (·.1)=false:=by rfl) :
  PE X (.Call (.Attribute o name apos) (e :: es) [] cpos) (tBM X.K T r to t):=by
 intro pins s σ H Q I h
 refine wpAny_Call_method_late hbase hfew hline rfl (yQ (ho pins s σ H _ I h) λv s1 ⟨x,H1,I1,r1,ty,q1⟩=>?_)
 obtain ⟨h1,h2⟩:=Jp I1 r1 ty
 refine ⟨T,id,pa,slot,hty,h1,h2,?_⟩
 have hA:=ha cpos pins s1 σ H1 _ I1 q1
 rw [hs] at hA |-
 refine Calls.callWith_builtin (by show (false || (backTo cpos (starEach es X.env)).any (·.1))=false; rw [hplain] <;> rfl) (Calls.evalArgs_plain ?_)
 exact yQ hA λus s2 ⟨vs,H2,I2,r2,q2⟩=>hm pins s2 σ H2 x vs v us Q I2 r1 r2 q2
/- xs.append(e),list.index on a module's tuple .. are Jn facts of 06m -/
end
end L2
namespace L2
open PySem PySem.Spec PyProof.Rows
def Jq (X:Cx) (id:String) (r:V->List V->Hp->VK->Prop):Prop:=
 ∀ (pins:List (Addr × Obj)) (s:Shared) (σ:St) (H:Hp) (x:V) (xs:List V) (v:Value) (us:List Value) (Q:VK),zQ X pins σ H s->zq x v->zf xs us->r x xs H Q->
  wpAny (model X.prog X.w) X.A (call (.builtin id) (v :: us)) (EP X pins σ Q) X.xe s
theorem zf.one:∀ {x:V} {us:List Value},zf [x] us->∃ u,us=[u]/\zq x u
 | _,_,.cons r .nil=>⟨_,rfl,r⟩
theorem zf.rep {xs:List V} {us:List Value} (h:zf xs us):∀ k:Nat,zf (List.replicate k xs).flatten (List.replicate k us).flatten
 | 0=>.nil
 | k + 1=>by
  rw [List.replicate_succ,List.replicate_succ,List.flatten_cons,List.flatten_cons]
  exact zf.append h (zf.rep h k)
theorem Jr (its:List Value):∀ (k:Nat) (acc:List Value),
  List.foldl (λx1 x2=>x1++x2) acc.toArray (List.replicate k its.toArray)=(acc++(List.replicate k its).flatten).toArray
 | 0,acc=>by simp
 | k + 1,acc=>by
  have e:acc.toArray++its.toArray=(acc++its).toArray:=by simp
  have e2:(acc++its)++(List.replicate k its).flatten=acc++(List.replicate (k + 1) its).flatten:=by
   rw [List.replicate_succ,List.flatten_cons,List.append_assoc]
  rw [<- e2,<- Jr its k (acc++its),<- e,List.replicate_succ,List.foldl_cons]
section
variable {X:Cx} {pins:List (Addr × Obj)} {σ:St} {H:Hp} {s:Shared} {l b:Addr} {xs ys zs:List V}
theorem zQ.lset {its its':List Value} {n:Nat} {f:Array Value->Array Value} {t':Nat} (I:zQ X pins σ H s) (hH:H l=some (.lst xs))
  (e:s.heap.get? l=some { cls:=.type "list",data:=.seq its.toArray n }) (hf:f its.toArray=its'.toArray) (hv:zf ys its') (hz:ys.length<=sizeLine) :
  zQ X pins σ (upd H l (.lst ys)) { s with heap:=s.heap.update l (Obj.mapSeq f),toks:=t' }:=by
 have q:=PySem.IsL.update e f
 rw [hf] at q
 refine I.write (x:=l) (e:=l) (by rw [hH]; exact trivial) (.inl rfl) (λb' u hb hu=>(Heap.get?_update_other s.heap (Obj.mapSeq f) (Ne.symm hb)).trans hu) ⟨_,q⟩ ?_
 exact ⟨hz,its',_,hv,q⟩
theorem zQ.lnew {its:List Value} {t':Nat} (I:zQ X pins σ H s) (hv:zf ys its) (hz:ys.length<=sizeLine) :
  zQ X pins σ (upd H s.heap.objs.size (.lst ys)) { s with heap:=s.heap.push { cls:=.type "list",data:=.seq its.toArray },toks:=t' }:=
 I.laid (λ_ _ q=>Heap.get?_push_of_some _ q) (Nat.le_refl _) ⟨hz,its,0,hv,Heap.get?_push_size _ rfl⟩
theorem zQ.fresh (I:zQ X pins σ H s):H s.heap.objs.size=none:=I.hok.fresh (Nat.le_refl _)
theorem zQ.lstM (I:zQ X pins σ H s) (hH:H l=some (.lst xs)):xs.length<=sizeLine/\∃ (its:List Value) (n:Nat),zf xs its/\xs.length=its.length/\s.heap.get? l=some { cls:=.type "list",data:=.seq its.toArray n }:=by
 obtain ⟨z,its,n,r,e⟩:=I.hok l _ hH
 exact ⟨z,its,n,r,r.length,e⟩
theorem zMc {n:Nat} (h:n<=sizeLine):Builtin.List.listTooLong n=false:=by
 unfold Builtin.List.listTooLong
 exact decide_eq_false (by omega)
end
section
variable {X:Cx}
def zNa:V->List V->Hp->VK->Prop:=λx vs H Q=>∃ l xs y,x=.ref l/\vs=[y]/\H l=some (.lst xs)/\xs.length < sizeLine/\Q .non (upd H l (.lst (xs++[y])))
theorem zLW:Jq X "list.append" zNa:=by
 intro pins s σ H x vs v us Q I rx rv h
 obtain ⟨l,xs,y,rfl,rfl,hH,hz,q⟩:=h
 cases rx
 obtain ⟨u,rfl,ru⟩:=rv.one
 obtain ⟨z,its,n,r,hl,e⟩:=I.lstM hH
 refine call_meets F.slot_list_append ⟨_,e,rfl⟩ F.entry_list_append (F.args_list_append_2 _ _) (PySem.list_append l its.toArray n u (by rw [List.size_toArray]; omega)) ⟨e,?_⟩
 refine ⟨.non,_,I.lset (its':=its++[u]) hH e (by simp) (r.append (.cons ru .nil)) ?_,rfl,q⟩
 rw [List.length_append,List.length_singleton]
 omega
def XI:R2:=λx y H Q=>∃ l b xs zs,x=.ref l/\y=.ref b/\H l=some (.lst xs)/\H b=some (.lst zs)/\xs.length + zs.length<=sizeLine/\∀ p,H p=none->Q (.ref p) (upd H p (.lst (xs++zs)))
theorem zOm:xj X (binaryOp .Add) XI:=by
 intro pins s σ H x y v u Q I rx ry h
 obtain ⟨l,b,xs,zs,rfl,rfl,hH,hB,hz,q⟩:=h
 cases rx
 cases ry
 obtain ⟨z,its,n,r,hl,e⟩:=I.lstM hH
 obtain ⟨z2,its2,n2,r2,hl2,e2⟩:=I.lstM hB
 refine PySem.P.add_list e e2 ?_ (by rw [List.size_toArray,List.size_toArray]; omega)
 have ea:its.toArray++its2.toArray=(its++its2).toArray:=by simp
 rw [ea]
 exact ⟨.ref _,_,I.lnew (t':=s.toks) (r.append r2) (by rw [List.length_append]; omega),rfl,q _ I.fresh⟩
def XJ:R2:=λx y H Q=>∃ l k xs,x=.ref l/\y=.int k/\H l=some (.lst xs)/\-(2 ^ 63)<=k/\k < 2 ^ 63/\xs.length * k.toNat<=sizeLine∧
 ∀ p,H p=none->Q (.ref p) (upd H p (.lst (List.replicate k.toNat xs).flatten))
theorem zNo {α:Type} (xs:List α) (k:Nat):(List.replicate k xs).flatten.length=k * xs.length:=by
 induction k with
 | zero=>simp
 | succ k ih=>rw [List.replicate_succ,List.flatten_cons,List.length_append,ih,Nat.succ_mul,Nat.add_comm]
theorem zOi:xj X (binaryOp .Mult) XJ:=by
 intro pins s σ H x y v u Q I rx ry h
 obtain ⟨l,k,xs,rfl,rfl,hH,h1,h2,hz,q⟩:=h
 cases rx
 obtain ⟨t,rfl⟩:=ry
 obtain ⟨z,its,n,r,hl,e⟩:=I.lstM hH
 have hlen:its.toArray.size * k.toNat<=sizeLine:=by rw [List.size_toArray,<- hl]; exact hz
 have hcap:¬ its.toArray.size * k.toNat > (2 ^ 63 - 1) / 8:=by
  have:(sizeLine:Nat)<=(2 ^ 63 - 1) / 8:=by decide
  omega
 have hfit:¬ (!Builtin.List.listFitsIndex k)=true:=by
  rw [fitsIndex_both h1 h2]
  exact Bool.false_ne_true
 have hlong:¬ Builtin.List.listTooLong (its.toArray.size * k.toNat)=true:=by
  rw [zMc hlen]
  exact Bool.false_ne_true
 have hnew:List.foldl (λx1 x2=>x1++x2) #[] (List.replicate (if its.toArray.isEmpty=true then 0 else k.toNat) its.toArray)=(List.replicate k.toNat its).flatten.toArray:=by
  have f0:∀ m:Nat,List.foldl (λx1 x2=>x1++x2) #[] (List.replicate m its.toArray)=(List.replicate m its).flatten.toArray:=λm=>by
   have:=Jr its m []
   rw [List.nil_append] at this
   exact this
  rw [f0]
  cases its with
  | nil=>simp
  | cons a r'=>rw [if_neg (by simp)]
 refine wpAny_binaryOp_repeat_ref (T:="list") (U:="int") (by decide) ⟨_,e,rfl⟩ (λs'=>typeIs_int s' k t) noFill_list_mul F.fills_int_mul F.slot_int_rmul repeat_list F.slot_int_index.lookup
  (call_meets F.slot_int_rmul (typeIs_int s k t) F.entry_int_rmul (F.args_int_rmul_2 _ _) (int___rmul___int_list k t l its.toArray n)
   ⟨e,rfl,⟨_,e,rfl⟩,call_meets F.slot_list_mul ⟨_,e,rfl⟩ F.entry_list_mul (F.args_list_mul_2 _ _) (AutoListH.list___mul___list_int_3 l its.toArray n k t hfit hcap hlong) ⟨e,?_⟩⟩)
 rw [hnew]
 exact ⟨.ref _,_,I.lnew (t':=s.toks) (r.rep k.toNat) (by rw [zNo,Nat.mul_comm]; exact hz),rfl,q _ I.fresh⟩
end
section
variable {prog:Program} {w:World} {A:Around} {E:Value->Shared->Prop} {s:Shared}
end
section
variable {X:Cx}
end
end L2
namespace Att
open PySem PySem.W PySem.Calls PyProof.Rows
theorem zF3 {P:Params} {h:Heap}:∀ (ns:List Int) (vs:List Value),WellAll P h vs (ns.map WData.int)->IntsAre vs ns:=by
 intro ns
 induction ns with
 | nil=>
  intro vs w
  rw [List.map_nil] at w
  cases w
  exact .nil
 | cons n ns ih=>
  intro vs w
  rw [List.map_cons] at w
  cases w with
  | cons a b=>
   cases a
   exact .cons _ _ (ih _ b)
theorem zKv {l:OpenLaw} {n:Nat} (hn:l.most=some n) {P:Params} {h:Heap} {args:List WData} {vals:List Value}
  (hpre:l.row.toRowW.claim.pre args=true) (hwl:WellAll P h vals args) :
  ∃ a vs ns,vals=[Value.ref a]/\args=[WData.list (ns.map WData.int)]/\h.get? a=some { cls:=.type "list",data:=.seq vs.toArray }/\IntsAre vs ns/\ns.length<=n:=by
 have hsh:WShape.hasAll [] args [.list .int]=true:=(pre_splitW hpre).1
 have hc:l.pre.holds [] { args:=args }=true:=(pre_splitW hpre).2
 obtain ⟨d,r,rfl,h1,h2⟩:=hasAllW_cons hsh
 obtain rfl:=hasAllW_nil h2
 obtain ⟨xs,rfl,h3⟩:=hasW_list h1
 obtain ⟨ns,rfl⟩:=items_int h3
 have hlen:ns.length<=n:=by
  unfold OpenLaw.pre at hc
  have h4:(WTm.not (.lt (.lit (.int (n:Int))) (.len (.arg 0)))).holds [] { args:=[.list (ns.map .int)] }=true:=by
   have h4:=(holds_andW hc).1
   rw [hn] at h4
   exact h4
  have h5:=condW_of h4 (w_not (w_lt w_lit (w_len_list (w_arg rfl))))
  rw [List.length_map] at h5
  refine Nat.le_of_not_lt λq=>?_
  have q':(n:Int) < ((ns.length:Nat):Int):=by omega
  first
   | (rw [decide_eq_true q'] at h5; exact absurd h5 (by decide))
   | (simp at h5; omega)
 cases hwl with
 | cons w1 w2=>
  cases w2
  cases w1 with
  | list ho hall=>exact ⟨_,_,ns,rfl,rfl,ho,zF3 ns _ hall,hlen⟩
theorem zK4 (l:OpenLaw) (args:List WData):l.row.toRowW.claim.post args (.bool true) args=true:=
 postW_of (r:=l.row.toRowW) (X:=(true == true))
  (show WShape.has [] (.bool true) .bool=true by first | rfl | decide | simp [WShape.has,WShape.arms,WShape.armsAll])
  (show (WTm.eq .res (.lit (.bool true))).value [] { args:=args,res:=some (.bool true),after:=args }=some (.bool (true == true)) from w_eq_bool (w_res rfl) w_lit) rfl
theorem attach_call {l:OpenLaw} {n:Nat} {q:Program} {loose:List Str} {XP:(Str->Option Value)->Heap->Prop} {YP:World->Heap->Prop} {d:DefRec}
  (hn:l.most=some n) (hdf:d.params.defaults=[])
  (call:∀ (w:World) (s₀ s₁:Shared) (mg mb:Str->Option Value) (fa:Addr) (o:Obj) (pm cd doc:Value) (a:Addr) (vs:List Value) (ns:List Int),
   Ground q loose [] XP w s₀ mg mb s₁.heap->YP w s₁.heap->
   s₁.heap.get? fa=some o->o.data=.func (docDef d.name d.params d.body d.scope pm cd doc)->s₁.heap.CodeRec cd d.name->mg d.name=some (.ref fa)->
   s₁.heap.get? a=some { cls:=.type "list",data:=.seq vs.toArray }->IntsAre vs ns->ns.length<=n->s₁.gens=#[]->
   codeAny (model l.prog w) callerA (.call (.ref fa) ⟨[.ref a],[]⟩) (λr s'=>r=.ok (.ret (.bool true))/\OldK s₁.heap s'.heap/\s'.os=s₁.os/\AllBare s'.gens) s₁) :
  WalkO q loose XP YP l.row.toRowW d [] (λf vs=>PySem.call f vs):=by
 intro w s₀ s₁ mg mb G Y fa o pm cd doc dV kV ho hd hcd hD hmg hg args vals as hpre hlay hrd hwl hlo
 obtain rfl:dV=.none:=Dflts.none hD hdf
 obtain rfl:kV=.none:=Dflts.noKw hD
 obtain ⟨a,vs,ns,rfl,rfl,hobj,hints,hlen⟩:=zKv hn hpre hwl
 refine enter_call (codeAny_mono (call w s₀ s₁ mg mb fa o pm cd doc a vs ns G Y ho (fd_plain hd) hcd hmg hobj hints hlen hg) λr s' hq=>?_)
 obtain ⟨rfl,h2,h3,h4⟩:=hq
 exact ⟨.inl ⟨.bool true,.bool true,[],rfl,λ_=>rfl,.bool true,zK4 l _,λ_=>⟨List.Pairwise.nil,λ_ hm=>(nomatch hm)⟩⟩,h2,h3,h4⟩
section
variable {prog:Program} {w:World} {A:Around} {E:Value->Shared->Prop} {s:Shared} {K:Frag}
end
end Att
namespace L2
open PySem PySem.Spec PyProof.Rows
theorem Js:∀ {vs:List Value} {ns:List Int},IntsAre vs ns->zf (ns.map V.int) vs
 | _,_,.nil=>.nil
 | _,_,.cons n t h=>.cons ⟨t,rfl⟩ (Js h)
def qH (H:Hp):Prop:=∀ b,H b=none\/∃ o xs,H b=some (.frz o (.lst xs))
theorem law_call {P:Program} {w:World} {K:PySem.W.Frag} {mg mb:Str->Option Value} {CX:uG} {k:Nat} {fa a:Addr} {fd:FuncData} {x:Str} {sp:Sp} {s₁:Shared} {vs:List Value} {ns:List Int}
  (KX:K.In s₁.heap) (hns:s₁.heap.Ns mainGlobals mg) (hb:s₁.heap.Ns builtinsNs mb) (hbb:∀ x:Str,x≠"__name__"->mb x=bootBuiltins x) (hlim:s₁.heap.NoLimit) (hg:s₁.gens=#[])
  (ha:s₁.heap.get? a=some { cls:=.type "list",data:=.seq vs.toArray }) (hi:IntsAre vs ns) (hl:ns.length<=sizeLine) (hr:yf k callerA)
  (F:∀ base:Heap,K.In base->base.Ns mainGlobals mg->zU P w K mg base CX k fa fd [x] sp) (hbind:∀ (s:Shared) (u:Value),BindsTo s fd ⟨[u],[]⟩ [(x,u)])
  (hsp:∀ H:Hp,qH H->zJ K H a (ns.map V.int)->sp [.ref a] H (λv _=>v=.bl true) λ_ _ _=>False)
  (hCX:∀ H e s',CX [] H s₁ (λ_ _ _=>False) e s'->False) :
  codeAny (model P w) callerA (.call (.ref fa) ⟨[.ref a],[]⟩) (λr s'=>r=.ok (.ret (.bool true))/\OldK s₁.heap s'.heap/\s'.os=s₁.os/\AllBare s'.gens) s₁:=by
 have rv:=Js hi
 have lenV:=hi.length
 have core:∀ H:Hp,qH H->zJ K H a (ns.map V.int)->xI P w H s₁.heap->(∀ b,H b≠none->b=a)->(H a≠none->K.lookup a=none)->
   codeAny (model P w) callerA (.call (.ref fa) ⟨[.ref a],[]⟩) (λr s'=>r=.ok (.ret (.bool true))/\OldK s₁.heap s'.heap/\s'.os=s₁.os/\AllBare s'.gens) s₁:=by
  intro H hO hS hok hA hK
  have base_of:∀ {b:Addr} {o:Obj},s₁.heap.get? b=some o->H b=none->(vA s₁.heap H).get? b=some o:=λe n=>K1 e n
  have noA:∀ {b:Addr} {o:Obj} {es:Array DictEntry} {ep:Nat},s₁.heap.get? b=some o->o.data=.dict es ep->H b=none:=λ{b o es ep} e d=>by
   cases q:H b with
   | none=>rfl
   | some u=>
    have e':b=a:=hA b (by rw [q]; simp)
    subst e'
    rw [ha] at e; cases e
    have d':Data.seq vs.toArray _=Data.dict es ep:=d
    cases d'
  have nsK:∀ {b:Addr} {m:Str->Option Value},s₁.heap.Ns b m->(vA s₁.heap H).Ns b m:=λ{b m} ⟨o,es,ep,e,d,r⟩=>⟨o,es,ep,base_of e (noA e d),d,r⟩
  have hKb:K.In (vA s₁.heap H):=λb o e=>base_of (KX b o e) (by
   cases q:H b with
   | none=>rfl
   | some u=>
    have e':b=a:=hA b (by rw [q]; simp)
    subst e'
    rw [hK (by rw [q]; simp)] at e; cases e)
  have hM:Mod K mg (vA s₁.heap H):=⟨hKb,nsK hns,⟨mb,nsK hb,hbb⟩,let ⟨mc,h1,h2⟩:=hlim; ⟨mc,nsK h1,h2⟩⟩
  have e0:v6 P w K mg (vA s₁.heap H) callerA [] s₁ H:=⟨rfl,hM,λb o e=>K2 e,Nat.le_of_eq (K0 _ _),trivial,λb hb=>absurd (show b∈([]:List Addr) from hb) (by simp),hok,.of_eq hg⟩
  refine codeAny_mono ((F _ hKb (nsK hns)).run callerA [] s₁ H ⟨[.ref a],[]⟩ [.ref a] [.ref a] _ _ hr e0 (hbind s₁ (.ref a)) (.cons rfl .nil) (hsp H hO hS)) λr s' h=>?_
  cases r with
  | error e=>exact (hCX H e s' h).elim
  | ok fl=>
   cases fl with
   | next=>exact False.elim h
   | brk=>exact False.elim h
   | cont=>exact False.elim h
   | ret u=>
    obtain ⟨v,H',os,bare,un,hok',r',q⟩:=h
    have q':v=.bl true:=q
    subst q'
    obtain rfl:u=Value.bool true:=r'
    refine ⟨rfl,OldK.of_keep λb o e=>?_,os,bare⟩
    cases q:H b with
    | none=>exact un.keep b o e q (by intro z; exact absurd (show b∈([]:List Addr) from z) (by simp)) (by simp)
    | some u=>
     rcases hO b with z | ⟨ob,xs,z⟩
     ·rw [q] at z; cases z
     ·have z2:=un.frzs b ob _ z
      obtain ⟨e1,_⟩:=hok b _ z
      obtain ⟨e2,_⟩:=hok' b _ z2
      rw [e] at e1; cases e1
      exact e2
 cases hk:K.lookup a with
 | some o=>
  have e:=KX a o hk
  rw [ha] at e
  cases e
  refine core (λ_=>none) (λ_=>.inl rfl) (.inr ⟨_,vs.toArray,_,hk,rfl,rfl,rfl,by rw [List.size_toArray,lenV]; exact hl,by simpa using rv⟩) (λb u z=>by have z':(none:Option HO)=some u:=z; cases z') (λb z=>absurd rfl z) λz=>absurd rfl z
 | none=>
  refine core (λb=>if b=a then some (.frz { cls:=.type "list",data:=.seq vs.toArray } (.lst (ns.map V.int))) else none) (λb=>?_) (.inl (.inr ⟨{ cls:=.type "list",data:=.seq vs.toArray },if_pos rfl⟩)) (λb u z=>?_) (λb z=>?_) λ_=>hk
  ·by_cases hb:b=a
   ·exact .inr ⟨_,_,if_pos hb⟩
   ·exact .inl (if_neg hb)
  ·by_cases hb:b=a
   ·have z':=(if_pos hb).symm.trans z
    cases z'
    subst hb
    exact ⟨ha,by rw [List.length_map]; exact hl,vs,_,rv,ha⟩
   ·have z':=(if_neg hb).symm.trans z
    cases z'
  ·by_cases hb:b=a
   ·exact hb
   ·exact absurd (if_neg hb) z
end L2
namespace L2
open PySem PySem.Spec PyProof.Rows
theorem zNL {l:PySem.W.OpenLaw} {n k:Nat} {q:Program} {loose:List Str} {XP:(Str->Option Value)->Heap->Prop} {YP:World->Heap->Prop} {d:DefRec} {K:Params->PySem.W.Frag} {CX:World->uG} {sp:World->Sp} {x:Str}
  (hn:l.most=some n) (hn2:n<=sizeLine) (hdf:d.params.defaults=[]) (hr:yf k callerA)
  (hY:∀ (w:World) (h:Heap),YP w h->(K w.params).In h)
  (F:∀ (w:World) (mg:Str->Option Value) (fa:Addr) (h:Heap),(K w.params).In h->h.Ns mainGlobals mg->mg d.name=some (.ref fa)->
   ∃ fd:FuncData,(∀ (s:Shared) (u:Value),BindsTo s fd ⟨[u],[]⟩ [(x,u)])∧
    ∀ base:Heap,(K w.params).In base->base.Ns mainGlobals mg->zU l.prog w (K w.params) mg base (CX w) k fa fd [x] (sp w))
  (hsp:∀ (w:World) (H:Hp) (a:Addr) (ns:List Int),ns.length<=n->qH H->zJ (K w.params) H a (ns.map V.int)->sp w [.ref a] H (λv _=>v=.bl true) λ_ _ _=>False)
  (hCX:∀ (w:World) (H:Hp) (s:Shared) (e:Value) (s':Shared),CX w [] H s (λ_ _ _=>False) e s'->False) :
  PySem.W.WalkO q loose XP YP l.row.toRowW d [] (λf vs=>PySem.call f vs):=by
 refine Att.attach_call hn hdf λw s₀ s₁ mg mb fa o pm cd doc a vs ns G Y ho hd hcd hmg hobj hints hlen hg=>?_
 have KX:=hY w _ Y
 obtain ⟨fd,hb,hF⟩:=F w mg fa _ KX G.T.g hmg
 exact law_call KX G.T.g G.T.b G.T.builtins G.T.nolimit hg hobj hints (Nat.le_trans hlen hn2) hr hF hb (λH hO hS=>hsp w H a ns hlen hO hS) λH e s'=>hCX w H s₁ e s'
end L2
namespace L2
open PySem PySem.Spec PyProof.Rows
def gm (s:Stmt) (j:Nat):Stmt:=match s with
 | .ClassDef _ _ _ body _ _ _ _ _ _ _=>body.getD j (.Pass ⟨0,0,0,0⟩)
 | _=>.Pass ⟨0,0,0,0⟩
def ve (s:Stmt):Arguments:=match s with
 | .FunctionDef _ a _ _ _ _ _ _ _ _=>a
 | _=>{ posonlyargs:=[],args:=[],vararg:=none,kwonlyargs:=[],kw_defaults:=[],kwarg:=none,defaults:=[] }
def xR (s:Stmt):List Stmt:=match s with
 | .FunctionDef _ _ b _ _ _ _ _ _ _=>b
 | _=>[]
def ze (s:Stmt):Scope:=match s with
 | .FunctionDef _ _ _ _ _ _ sc _ _ _=>sc
 | _=>{ kind:=.function,names:=[],isGenerator:=false,isCoroutine:=false }
abbrev yG:uG:=λ_ _ _ _ _ _=>False
abbrev E0:XK:=λ_ _ _=>False
theorem ZQ {X:Cx}:qG yG X E0:=λ_ _ _ _ _ _ _ h=>h.elim
structure yb (K:PySem.W.Frag) (x qual:Str) (st:Stmt) (f:Addr) (fd:FuncData):Prop where
 ex:∃ (oc:Value) (od:Option Addr) (kV doc pm:Value) (an:Option Addr) (cdv ct:Value) (osl:Array (Option Value)),
  fd=PySem.W.fnOf x qual (ve st) (xR st) (ze st) .none kV doc pm an cdv ct/\K.lookup f=some ⟨oc,od,.func fd,osl⟩/\PySem.W.codeIn K cdv qual=true
 kp:PySem.W.keepIn K (.ref f)=true
section
variable {P:Program} {w:World} {K:PySem.W.Frag} {mg:Str->Option Value} {base:Heap}
theorem yb.ok {x qual:Str} {st:Stmt} {f:Addr} {fd:FuncData} {N ps:List Str} {k:Nat} {sp:Sp} (F:yb K x qual st f fd) (S:ya N ps (ze st)) (len:∀ vs H Q E,sp vs H Q E->vs.length=ps.length)
  (hbody:∀ (cdv:Value) (A:Around) (outer:List Env) (s:Shared) (H:Hp) (vs:List V) (Q:VK) (E:XK),yf k (A.deeper (envOfC qual (ze st) s.heap.objs.size f cdv))->sp vs H Q E->
   ∃ t,xc (zP yG P w K mg base N qual (ze st) f cdv A outer s H E).nox (xR st) t/\t { nx:=λ_ H'=>Q .non H',rt:=Q } (u9 N vs) H):zU P w K mg base yG (k + 1) f fd ps sp:=by
 obtain ⟨oc,od,kV,doc,pm,an,cdv,ct,osl,rfl,lk,hcd⟩:=F.ex
 refine XD lk hcd S len λA outer s H vs Q E hr hsp=>?_
 obtain ⟨t,h,q⟩:=hbody cdv A outer s H vs Q E hr hsp
 exact ⟨t,h.nox,q⟩
theorem yb.binds {x qual:Str} {st:Stmt} {f:Addr} {fd:FuncData} {ps:List Str} (F:yb K x qual st f fd)
  (h:∀ (kV doc pm:Value) (an:Option Addr) (cdv ct:Value) (us:List Value),us.length=ps.length->bindArgs (PySem.W.fnOf x qual (ve st) (xR st) (ze st) .none kV doc pm an cdv ct) ⟨us,[]⟩=pure (ps.zip us)):vd K fd ps []:=by
 obtain ⟨oc,od,kV,doc,pm,an,cdv,ct,osl,rfl,lk,hcd⟩:=F.ex
 exact .all (h kV doc pm an cdv ct)
theorem Jt {x qual:Str} {st:Stmt} {f:Addr} {oc:Value} {od an:Option Addr} {osl:Array (Option Value)} {kV doc pm cdv ct:Value} (l:K.lookup f=some ⟨oc,od,.func (PySem.W.fnOf x qual (ve st) (xR st) (ze st) .none kV doc pm an cdv ct),osl⟩)
  (c:PySem.W.codeIn K cdv qual=true) (k:PySem.W.keepIn K (.ref f)=true):yb K x qual st f (PySem.W.fnOf x qual (ve st) (xR st) (ze st) .none kV doc pm an cdv ct):=⟨⟨oc,od,kV,doc,pm,an,cdv,ct,osl,rfl,l,c⟩,k⟩
end
theorem XM {A:Around} {k:Nat} (hr:yf k A):A.units + 1 < cLine:=Nat.lt_of_le_of_lt (Nat.add_le_add_left (by decide:1<=64) _) hr.units
theorem wY {n:Nat} (h:n<=1000):n < sizeLine:=Nat.lt_of_le_of_lt h (by decide)
section
variable {X:Cx}
end
theorem yn {A B:Prop} (h:B):if false=true then A else B:=by
 rw [if_neg Bool.false_ne_true]
 exact h
theorem xY {A B:Prop} (h:A):if true=true then A else B:=by
 rw [if_pos rfl]
 exact h
theorem vQ {c A B:Prop} [Decidable c] (h1:c->A) (h2:¬ c->B):if c then A else B:=by
 by_cases h:c
 ·rw [if_pos h]
  exact h1 h
 ·rw [if_neg h]
  exact h2 h
theorem XN {c A B:Prop} [Decidable c] (hc:c) (h:B):if (!decide c)=true then A else B:=by
 rw [decide_eq_true hc]
 exact yn h
def zG (H H':Hp):Prop:=∀ b o,H b=some o->H' b=some o
theorem zG.refl (H:Hp):zG H H:=λ_ _ h=>h
theorem zG.trans {H H1 H2:Hp} (a:zG H H1) (b:zG H1 H2):zG H H2:=λc o h=>b c o (a c o h)
theorem zG.free {H H':Hp} (e:zG H H') {l:Addr} (h:H' l=Option.none):H l=Option.none:=by
 cases q:H l with
 | none=>rfl
 | some o=>
  rw [e l o q] at h
  cases h
theorem zG.seq {K:PySem.W.Frag} {H H':Hp} {a:Addr} {xs:List V} (e:zG H H') (h:zJ K H a xs):zJ K H' a xs:=by
 rcases h with (h | ⟨o,h⟩) | h
 ·exact .inl (.inl (e _ _ h))
 ·exact .inl (.inr ⟨o,e _ _ h⟩)
 ·exact .inr h
end L2
set_option maxHeartbeats 4000000
namespace Sh
def zv (ns:List Int):Int:=ns.foldl (λc n=>(Int.gcd c n:Int)) 0
theorem zKP (a b:Int):zv [a,b]=(Int.gcd a b:Int):=by
 show ((Int.gcd (Int.gcd 0 a:Int) b:Nat):Int)=_
 congr 1
 rw [Int.gcd_zero_left,Int.gcd_eq_natAbs_gcd_natAbs,Int.gcd_eq_natAbs_gcd_natAbs,Int.natAbs_natCast]
theorem ZR (ns:List Int) (n:Int):zv (ns++[n])=(Int.gcd (zv ns) n:Int):=by
 unfold zv
 rw [List.foldl_append]
 rfl
theorem Ju (ns:List Int):0<=zv ns:=by
 rcases List.eq_nil_or_concat ns with rfl | ⟨l,a,rfl⟩
 ·exact Int.le_refl 0
 ·rw [List.concat_eq_append,ZR]
  exact Int.natCast_nonneg _
theorem Jv (c r:Int):Int.gcd r (c.fmod r)=Int.gcd c r:=by
 rw [Int.fmod_def,Int.gcd_sub_mul_left_right,Int.gcd_comm]
theorem zLq {c r:Int} (h:r≠0):(c.fmod r).natAbs < r.natAbs:=by
 rcases Int.lt_or_gt_of_ne h with hr | hr
 ·have e:c.fmod r = -((-c).fmod (-r)):=by rw [Int.neg_fmod_neg,Int.neg_neg]
  have h1:=Int.fmod_nonneg_of_pos (-c) (b:=-r) (by omega)
  have h2:=Int.fmod_lt_of_pos (-c) (b:=-r) (by omega)
  omega
 ·have h1:=Int.fmod_nonneg_of_pos c hr
  have h2:=Int.fmod_lt_of_pos c hr
  omega
theorem zO7 (i:Int):(if i < 0 then -i else i)=(i.natAbs:Int):=by
 split <;> omega
theorem zNy (c i:Int):Int.gcd c (if i < 0 then -i else i)=Int.gcd c i:=by
 split
 ·rw [Int.gcd_neg]
 ·rfl
def cm (t b:Int):Int:=if b < 0 then -(Int.gcd t b:Int) else (Int.gcd t b:Int)
def yg (t b:Int):Int:=t.fdiv (cm t b)
def yK (t b:Int):Int:=b.fdiv (cm t b)
theorem XO {t b:Int} (h:b≠0):0 < (Int.gcd t b:Int):=by
 have:0 < Int.gcd t b:=Int.gcd_pos_of_ne_zero_right _ h
 omega
theorem XQ {t b:Int} (h:b≠0):cm t b≠0:=by
 have:=XO (t:=t) h
 unfold cm
 split <;> omega
theorem Jw (t b:Int):cm t b ∣ t:=by
 unfold cm
 split
 ·exact Int.neg_dvd.mpr (Int.gcd_dvd_left t b)
 ·exact Int.gcd_dvd_left t b
theorem Jx (t b:Int):cm t b ∣ b:=by
 unfold cm
 split
 ·exact Int.neg_dvd.mpr (Int.gcd_dvd_right t b)
 ·exact Int.gcd_dvd_right t b
theorem XR (t b:Int):yg t b * cm t b=t:=Int.fdiv_mul_cancel (Jw t b)
theorem gr (t b:Int):yK t b * cm t b=b:=Int.fdiv_mul_cancel (Jx t b)
theorem gu {t b:Int} (h:b≠0):0 < yK t b:=by
 have e:=gr t b
 have g:=XO (t:=t) h
 rcases Int.lt_trichotomy (yK t b) 0 with hl | hl | hl
 ·exfalso
  unfold cm at e
  split at e
  ·rename_i hb
   have:=Int.mul_pos_of_neg_of_neg hl (show -(Int.gcd t b:Int) < 0 by omega)
   omega
  ·have:=Int.mul_neg_of_neg_of_pos hl g
   omega
 ·exfalso
  rw [hl,Int.zero_mul] at e
  omega
 ·exact hl
theorem XS {t b:Int} (h:b≠0):yg t b * b=t * yK t b:=by
 have e1:=XR t b
 have e2:=gr t b
 calc yg t b * b=yg t b * (yK t b * cm t b):=by rw [e2]
  _=(yg t b * cm t b) * yK t b:=by rw [Int.mul_assoc,Int.mul_comm (yK t b)]
  _=t * yK t b:=by rw [e1]
theorem ZS {t b:Int} (h:0 < b):cm t b=(Int.gcd t b:Int):=by
 unfold cm
 rw [if_neg (by omega)]
end Sh
namespace Sh
def vg (st:Int × Int) (p:Int × Int × Int):Int × Int:=(st.1 * p.2.2 + p.1 * p.2.1 * st.2,st.2 * p.2.2)
def uQ (ws:List Int) (pts:List (Int × Int)):Int × Int:=(ws.zip pts).foldl vg (0,1)
end Sh
namespace Sh
theorem Jy:∀ (ns:List Int) (c:Int),ns.foldl (λc n=>(Int.gcd c n:Int)) c ∣ c/\∀ x∈ns,ns.foldl (λc n=>(Int.gcd c n:Int)) c ∣ x
 | [],c=>⟨Int.dvd_refl c,λx hx=>by cases hx⟩
 | a :: r,c=>by
  obtain ⟨h1,h2⟩:=Jy r (Int.gcd c a:Int)
  rw [List.foldl_cons]
  refine ⟨Int.dvd_trans h1 (Int.gcd_dvd_left c a),λx hx=>?_⟩
  rcases List.mem_cons.mp hx with rfl | hx
  ·exact Int.dvd_trans h1 (Int.gcd_dvd_right c x)
  ·exact h2 x hx
theorem gv {ns:List Int} {x:Int} (h:x∈ns):zv ns ∣ x:=(Jy ns 0).2 x h
theorem Jz {k:Int} (hk:0<=k):∀ (ns:List Int) (c:Int),(ns.map (· * k)).foldl (λc n=>(Int.gcd c n:Int)) (c * k)=ns.foldl (λc n=>(Int.gcd c n:Int)) c * k
 | [],c=>rfl
 | a :: r,c=>by
  rw [List.map_cons,List.foldl_cons,List.foldl_cons,<- Jz hk r]
  congr 1
  rw [Int.gcd_mul_right]
  show ((Int.gcd c a * k.natAbs:Nat):Int)=_
  rw [Int.natCast_mul]
  congr 1
  omega
theorem zKQ {k:Int} (hk:0<=k) (ns:List Int):zv (ns.map (· * k))=zv ns * k:=by
 have h:=Jz hk ns 0
 rw [Int.zero_mul] at h
 exact h
def y8 (ws:List Int):List Int:=ws.map (·.fdiv (zv ws))
theorem J7 {ws:List Int} {g:Int} (h:∀ x∈ws,g ∣ x):(ws.map (·.fdiv g)).map (· * g)=ws:=by
 rw [List.map_map]
 refine (List.map_congr_left λx hx=>?_).trans (List.map_id ws)
 exact Int.fdiv_mul_cancel (h x hx)
theorem zNJ (ws:List Int):(y8 ws).map (· * zv ws)=ws:=J7 λ_ hx=>gv hx
theorem zNK (ws:List Int):(y8 ws).length=ws.length:=List.length_map _
theorem zNH {ws:List Int} (h:zv ws=0):ws.map (· * 0)=ws:=by
 refine (List.map_congr_left λx hx=>?_).trans (List.map_id ws)
 have d:=gv hx
 rw [h] at d
 rw [Int.mul_zero]
 exact (Int.zero_dvd.mp d).symm
section
variable {β γ:Type}
def look (m:List (List Int × β)) (k:List Int):Option β:=(m.find? λkv=>decide (kv.1=k)).map (·.2)
def put (m:List (List Int × β)) (k:List Int) (v:β):List (List Int × β):=
 if (m.any λkv=>decide (kv.1=k))=true then m.map (λkv=>if kv.1=k then (kv.1,v) else kv) else m++[(k,v)]
theorem qw (m:List (List Int × β)) (k:List Int):(m.any λkv=>decide (kv.1=k))=(look m k).isSome:=by
 induction m with
 | nil=>rfl
 | cons p r ih=>
  unfold look at ih |-
  rw [List.any_cons,List.find?_cons,ih]
  by_cases e:p.1=k
  ·rw [decide_eq_true e]; rfl
  ·rw [decide_eq_false e]; rfl
theorem ZT {m:List (List Int × β)} {k:List Int} {v:β} (h:look m k=some v):(k,v)∈m:=by
 unfold look at h
 obtain ⟨p,hp,e⟩:=Option.map_eq_some_iff.mp h
 have:=List.find?_some hp
 have e1:p.1=k:=of_decide_eq_true this
 have e2:=List.mem_of_find?_eq_some hp
 rw [<- e1,<- e]
 exact e2
theorem zLY {m:List (List Int × β)} {k:List Int} (h:look m k=none):∀ p∈m,p.1≠k:=by
 intro p hp e
 have a:(m.any λkv=>decide (kv.1=k))=true:=List.any_eq_true.mpr ⟨p,hp,decide_eq_true e⟩
 rw [qw,h] at a
 cases a
theorem XT {m:List (List Int × β)} {k:List Int} (v:β) (h:look m k=none):put m k v=m++[(k,v)]:=by
 unfold put
 rw [qw,h]
 exact if_neg Bool.false_ne_true
theorem J8 {m:List (List Int × β)} {k:List Int} {u:β} (v:β) (h:look m k=some u):put m k v=m.map (λkv=>if kv.1=k then (kv.1,v) else kv):=by
 unfold put
 rw [qw,h]
 exact if_pos rfl
theorem gw {m:List (List Int × β)} {k:List Int} {v:β} {p:List Int × β} (h:p∈put m k v):p=(k,v)\/p∈m:=by
 unfold put at h
 split at h
 ·obtain ⟨q,hq,e⟩:=List.mem_map.mp h
  by_cases c:q.1=k
  ·rw [if_pos c] at e
   exact .inl (by rw [<- e,c])
  ·rw [if_neg c] at e
   exact .inr (e ▸ hq)
 ·rcases List.mem_append.mp h with h | h
  ·exact .inr h
  ·exact .inl (List.mem_singleton.mp h)
theorem zOz (m:List (List Int × β)) (k:List Int) (v:β):(k,v)∈put m k v:=by
 cases h:look m k with
 | none=>
  rw [XT v h]
  exact List.mem_append_right _ List.mem_cons_self
 | some u=>
  rw [J8 v h]
  exact List.mem_map.mpr ⟨(k,u),ZT h,by rw [if_pos rfl]⟩
theorem zLh {m:List (List Int × β)} {k:List Int} {v:β} {p:List Int × β} (h:p∈m) (n:p.1≠k):p∈put m k v:=by
 unfold put
 split
 ·exact List.mem_map.mpr ⟨p,h,by rw [if_neg n]⟩
 ·exact List.mem_append_left _ h
theorem zMj (m:List (List Int × β)) (k:List Int) (v:β):(put m k v).map (·.1)=if (look m k).isSome=true then m.map (·.1) else m.map (·.1)++[k]:=by
 unfold put
 rw [qw]
 split
 ·rw [List.map_map]
  refine List.map_congr_left λp _=>?_
  show (if p.1=k then (p.1,v) else p).1=p.1
  split <;> rfl
 ·rw [List.map_append]
  rfl
theorem zLS {m:List (List Int × β)} (k:List Int) (v:β) (h:(m.map (·.1)).Nodup):((put m k v).map (·.1)).Nodup:=by
 rw [zMj]
 split
 ·exact h
 ·rename_i c
  have n:look m k=none:=by
   cases e:look m k with
   | none=>rfl
   | some u=>rw [e] at c; exact absurd rfl c
  refine List.nodup_append.mpr ⟨h,by simp,λa ha b hb e=>?_⟩
  obtain ⟨p,hp,e1⟩:=List.mem_map.mp ha
  rw [List.mem_singleton.mp hb] at e
  exact zLY n p hp (e1.trans e)
theorem QC (f:β->γ) (m:List (List Int × β)) (k:List Int):look (m.map λp=>(p.1,f p.2)) k=(look m k).map f:=by
 unfold look
 rw [List.find?_map]
 show Option.map _ (Option.map _ (m.find? λkv=>decide (kv.1=k)))=_
 cases m.find? λkv=>decide (kv.1=k) with
 | none=>rfl
 | some p=>rfl
theorem QD (f:β->γ) (m:List (List Int × β)) (k:List Int) (v:β):put (m.map λp=>(p.1,f p.2)) k (f v)=(put m k v).map λp=>(p.1,f p.2):=by
 unfold put
 rw [qw,qw,QC,Option.isSome_map]
 split
 ·rw [List.map_map,List.map_map]
  refine List.map_congr_left λp _=>?_
  show (if p.1=k then (p.1,f v) else (p.1,f p.2))=_
  by_cases c:p.1=k
  ·rw [if_pos c]
   show _=(((if p.1=k then (p.1,v) else p).1),f (if p.1=k then (p.1,v) else p).2)
   rw [if_pos c]
  ·rw [if_neg c]
   show _=(((if p.1=k then (p.1,v) else p).1),f (if p.1=k then (p.1,v) else p).2)
   rw [if_neg c]
 ·rw [List.map_append]
  rfl
end
abbrev XU:=List (List Int × (Int × Int)) × Option (List Int)
abbrev uR:=List (List Int × (List Int × Int)) × Option (List Int)
def xS (r:List Int × Int):Int × Int:=(yg r.2 (zv r.1),yK r.2 (zv r.1))
def wE (st:XU) (r:List Int × Int):XU:=
 if zv r.1≠0 then
  match look st.1 (y8 r.1) with
  | none=>(put st.1 (y8 r.1) (xS r),st.2)
  | some o=>if (xS r).1 * o.2 < o.1 * (xS r).2 then (put st.1 (y8 r.1) (xS r),st.2) else st
 else if r.2 < 0 then (st.1,some r.1) else st
def wU (st:uR) (r:List Int × Int):uR:=
 if zv r.1≠0 then
  match look st.1 (y8 r.1) with
  | none=>(put st.1 (y8 r.1) r,st.2)
  | some o=>if r.2 * zv o.1 < o.2 * zv r.1 then (put st.1 (y8 r.1) r,st.2) else st
 else if r.2 < 0 then (st.1,some r.1) else st
def qI (o:Option (List Int)):List (List Int × Int):=match o with
 | none=>[]
 | some ws=>[(ws,-1)]
def wL (rows:List (List Int × Int)):List (List Int × Int):=(rows.foldl wE ([],none)).1.map (λp=>(p.1.map (· * p.2.2),p.2.1))++qI (rows.foldl wE ([],none)).2
def jA (r:List Int × Int):List Int × Int:=(r.1.map (·.fdiv (max 1 (zv (r.1++[r.2])))),r.2.fdiv (max 1 (zv (r.1++[r.2]))))
def jW (rows:List (List Int × Int)):List (List Int × Int):=(rows.foldl wU ([],none)).1.map (λp=>jA p.2)++qI (rows.foldl wU ([],none)).2
structure vh (st:uR):Prop where
 g0:∀ p∈st.1,0 < zv p.2.1
 way:∀ p∈st.1,p.1=y8 p.2.1
 nd:(st.1.map (·.1)).Nodup
 z:∀ ws,st.2=some ws->zv ws=0
theorem jX {ws:List Int} (h:zv ws≠0):0 < zv ws:=by
 have:=Ju ws
 omega
theorem XV:vh ([],none):=⟨λp hp=>(by cases hp),λp hp=>(by cases hp),List.nodup_nil,λws h=>(by cases h)⟩
theorem vh.put {st:uR} (h:vh st) {r:List Int × Int} (g:zv r.1≠0):vh (Sh.put st.1 (y8 r.1) r,st.2):=by
 refine ⟨λp hp=>?_,λp hp=>?_,zLS _ _ h.nd,h.z⟩
 ·rcases gw hp with e | hp
  ·rw [e]; exact jX g
  ·exact h.g0 p hp
 ·rcases gw hp with e | hp
  ·rw [e]
  ·exact h.way p hp
theorem vh.step {st:uR} (h:vh st) (r:List Int × Int):vh (wU st r):=by
 unfold wU
 split
 ·rename_i g
  split
  ·exact h.put g
  ·split
   ·exact h.put g
   ·exact h
 ·rename_i g
  have g0:zv r.1=0:=Decidable.of_not_not g
  split
  ·refine ⟨h.g0,h.way,h.nd,λws e=>?_⟩
   cases e
   exact g0
  ·exact h
theorem vh.fold {st:uR} (h:vh st):∀ rows:List (List Int × Int),vh (rows.foldl wU st)
 | []=>h
 | r :: rs=>by
  rw [List.foldl_cons]
  exact vh.fold (h.step r) rs
theorem XW (rows:List (List Int × Int)):vh (rows.foldl wU ([],none)):=XV.fold rows
theorem ZU {t b:Int} (h:0 < b):0 < cm t b:=by
 rw [ZS h]
 exact XO (Int.ne_of_gt h)
theorem zMh {b g b' g':Int} (h:0 < g) (h':0 < g'):yg b g * yK b' g' < yg b' g' * yK b g ↔ b * g' < b' * g:=by
 have c:=ZU (t:=b) h
 have c':=ZU (t:=b') h'
 have e1:b * g'=yg b g * yK b' g' * (cm b g * cm b' g'):=by
  calc b * g'=(yg b g * cm b g) * (yK b' g' * cm b' g'):=by rw [XR,gr]
   _=_:=by rw [Int.mul_assoc,Int.mul_assoc,<- Int.mul_assoc (cm b g),Int.mul_comm (cm b g),Int.mul_assoc]
 have e2:b' * g=yg b' g' * yK b g * (cm b g * cm b' g'):=by
  calc b' * g=(yg b' g' * cm b' g') * (yK b g * cm b g):=by rw [XR,gr]
   _=_:=by rw [Int.mul_assoc,Int.mul_assoc,<- Int.mul_assoc (cm b' g'),Int.mul_comm (cm b' g'),Int.mul_assoc,Int.mul_comm (cm b' g')]
 rw [e1,e2]
 have p:=Int.mul_pos c c'
 exact ⟨λz=>Int.mul_lt_mul_of_pos_right z p,λz=>Int.lt_of_mul_lt_mul_right z (Int.le_of_lt p)⟩
theorem zKl {st:uR} (h:vh st) (r:List Int × Int):wE (st.1.map (λp=>(p.1,xS p.2)),st.2) r=((wU st r).1.map (λp=>(p.1,xS p.2)),(wU st r).2):=by
 unfold wE wU
 split
 ·rename_i g
  rw [QC]
  cases e:look st.1 (y8 r.1) with
  | none=>
   show (put _ _ _,st.2)=_
   rw [QD]
  | some o=>
   have go:0 < zv o.1:=h.g0 _ (ZT e)
   have li:(xS r).1 * (xS o).2 < (xS o).1 * (xS r).2 ↔ r.2 * zv o.1 < o.2 * zv r.1:=zMh (jX g) go
   show (if (xS r).1 * (xS o).2 < (xS o).1 * (xS r).2 then (put (st.1.map λp=>(p.1,xS p.2)) (y8 r.1) (xS r),st.2) else (st.1.map (λp=>(p.1,xS p.2)),st.2)) =
    ((if r.2 * zv o.1 < o.2 * zv r.1 then (put st.1 (y8 r.1) r,st.2) else st).1.map (λp=>(p.1,xS p.2)),(if r.2 * zv o.1 < o.2 * zv r.1 then (put st.1 (y8 r.1) r,st.2) else st).2)
   by_cases c:r.2 * zv o.1 < o.2 * zv r.1
   ·rw [if_pos (li.mpr c),if_pos c,QD]
   ·rw [if_neg λz=>c (li.mp z),if_neg c]
 ·split <;> rfl
theorem QE {st:uR} (h:vh st):∀ rows:List (List Int × Int),rows.foldl wE (st.1.map (λp=>(p.1,xS p.2)),st.2)=((rows.foldl wU st).1.map (λp=>(p.1,xS p.2)),(rows.foldl wU st).2)
 | []=>rfl
 | r :: rs=>by
  rw [List.foldl_cons,List.foldl_cons,zKl h r]
  exact QE (h.step r) rs
theorem QF (rows:List (List Int × Int)):rows.foldl wE ([],none)=((rows.foldl wU ([],none)).1.map (λp=>(p.1,xS p.2)),(rows.foldl wU ([],none)).2):=QE XV rows
theorem zNn {r:List Int × Int} (h:0 < zv r.1):((y8 r.1).map (· * (xS r).2),(xS r).1)=jA r:=by
 have c:=ZU (t:=r.2) h
 have e:max 1 (zv (r.1++[r.2]))=cm r.2 (zv r.1):=by
  rw [ZR,Int.gcd_comm,<- ZS h]
  omega
 unfold jA
 rw [e]
 refine Prod.ext ?_ rfl
 show (r.1.map (·.fdiv (zv r.1))).map (· * yK r.2 (zv r.1))=r.1.map (·.fdiv (cm r.2 (zv r.1)))
 rw [List.map_map]
 refine List.map_congr_left λx hx=>?_
 show x.fdiv (zv r.1) * yK r.2 (zv r.1)=x.fdiv (cm r.2 (zv r.1))
 have e1:=gr r.2 (zv r.1)
 have e2:x.fdiv (zv r.1) * zv r.1=x:=Int.fdiv_mul_cancel (gv hx)
 have e3:x=(x.fdiv (zv r.1) * yK r.2 (zv r.1)) * cm r.2 (zv r.1):=by rw [Int.mul_assoc,e1,e2]
 have e4:=Int.mul_fdiv_cancel (x.fdiv (zv r.1) * yK r.2 (zv r.1)) (Int.ne_of_gt c)
 rw [<- e3] at e4
 exact e4.symm
theorem QG (rows:List (List Int × Int)):wL rows=jW rows:=by
 have h:=XW rows
 unfold wL jW
 rw [QF]
 congr 1
 show ((rows.foldl wU ([],none)).1.map λp=>(p.1,xS p.2)).map (λp=>(p.1.map (· * p.2.2),p.2.1))=_
 rw [List.map_map]
 refine List.map_congr_left λp hp=>?_
 show (p.1.map (· * (xS p.2).2),(xS p.2).1)=jA p.2
 rw [h.way p hp]
 exact zNn (h.g0 p hp)
section
variable (num:List Int->Int) (den:Int)
def hl (r:List Int × Int):Bool:=decide (num r.1<=r.2 * den)
variable (hden:0 < den) (v9:∀ (ws:List Int) (c:Int),num (ws.map (· * c))=num ws * c)
include hden v9
theorem XX {ws:List Int} {b g:Int}:hl num den (ws.map (· * g),b)=true ↔ num ws * g<=b * den:=by
 unfold hl
 rw [decide_eq_true_iff,v9]
theorem QH {ws:List Int} {b:Int} (h:zv ws=0):hl num den (ws,b)=true ↔ 0<=b:=by
 have e:=XX num den hden v9 (ws:=ws) (b:=b) (g:=0)
 rw [zNH h,Int.mul_zero] at e
 rw [e]
 constructor
 ·intro z
  by_cases c:0<=b
  ·exact c
  ·have:=Int.mul_neg_of_neg_of_pos (show b < 0 by omega) hden
   omega
 ·intro z
  exact Int.mul_nonneg z (Int.le_of_lt hden)
theorem zO2 {r:List Int × Int}:hl num den r=true ↔ num (y8 r.1) * zv r.1<=r.2 * den:=by
 have e:=XX num den hden v9 (ws:=y8 r.1) (b:=r.2) (g:=zv r.1)
 rw [zNJ] at e
 exact e
theorem QI {r o:List Int × Int} (g:0 < zv r.1) (g':0 < zv o.1) (w:y8 o.1=y8 r.1) (c:r.2 * zv o.1<=o.2 * zv r.1) (h:hl num den r=true):hl num den o=true:=by
 rw [zO2 num den hden v9] at h |-
 rw [w]
 have h1:=Int.mul_le_mul_of_nonneg_right h (Int.le_of_lt g')
 have h2:=Int.mul_le_mul_of_nonneg_right c (Int.le_of_lt hden)
 have e1:r.2 * den * zv o.1=r.2 * zv o.1 * den:=by rw [Int.mul_assoc,Int.mul_comm den,Int.mul_assoc]
 have e2:o.2 * zv r.1 * den=o.2 * den * zv r.1:=by rw [Int.mul_assoc,Int.mul_comm _ den,Int.mul_assoc]
 have e3:num (y8 r.1) * zv r.1 * zv o.1=num (y8 r.1) * zv o.1 * zv r.1:=by rw [Int.mul_assoc,Int.mul_comm (zv r.1),Int.mul_assoc]
 have h3:num (y8 r.1) * zv o.1 * zv r.1<=o.2 * den * zv r.1:=by omega
 exact Int.le_of_mul_le_mul_right h3 g
theorem QJ {r:List Int × Int} (g:0 < zv r.1):hl num den (jA r)=hl num den r:=by
 have c:=ZU (t:=r.2) g
 have e:max 1 (zv (r.1++[r.2]))=cm r.2 (zv r.1):=by
  rw [ZR,Int.gcd_comm,<- ZS g]
  omega
 have dv:∀ x∈r.1,cm r.2 (zv r.1) ∣ x:=λx hx=>Int.dvd_trans (Jx _ _) (gv hx)
 have k1:hl num den (jA r)=true ↔ num (r.1.map (·.fdiv (cm r.2 (zv r.1))))<=r.2.fdiv (cm r.2 (zv r.1)) * den:=by
  unfold hl jA
  rw [e,decide_eq_true_iff]
 have k2:hl num den r=true ↔ num (r.1.map (·.fdiv (cm r.2 (zv r.1)))) * cm r.2 (zv r.1)<=r.2.fdiv (cm r.2 (zv r.1)) * den * cm r.2 (zv r.1):=by
  have z:=XX num den hden v9 (ws:=r.1.map (·.fdiv (cm r.2 (zv r.1)))) (b:=r.2) (g:=cm r.2 (zv r.1))
  rw [J7 dv] at z
  have y:r.2.fdiv (cm r.2 (zv r.1)) * den * cm r.2 (zv r.1)=r.2 * den:=by
   rw [Int.mul_assoc,Int.mul_comm den,<- Int.mul_assoc,Int.fdiv_mul_cancel (Jw _ _)]
  rw [y]
  exact z
 have k3:hl num den (jA r)=true ↔ hl num den r=true:=by
  rw [k1,k2]
  exact ⟨λz=>Int.mul_le_mul_of_nonneg_right z (Int.le_of_lt c),λz=>Int.le_of_mul_le_mul_right z c⟩
 cases a:hl num den (jA r) <;> cases b:hl num den r <;> simp_all
def HS (st:uR):Prop:=(∀ p∈st.1,hl num den p.2=true)/\st.2=none
theorem zNt {st:uR} (h:vh st) (r:List Int × Int):HS num den (wU st r) ↔ HS num den st/\hl num den r=true:=by
 unfold wU
 by_cases g:zv r.1≠0
 ·rw [if_pos g]
  have pg:=jX g
  cases e:look st.1 (y8 r.1) with
  | none=>
   show HS num den (put _ _ _,st.2) ↔ _
   rw [XT _ e]
   constructor
   ·rintro ⟨h1,h2⟩
    exact ⟨⟨λp hp=>h1 p (List.mem_append_left _ hp),h2⟩,h1 _ (List.mem_append_right _ List.mem_cons_self)⟩
   ·rintro ⟨⟨h1,h2⟩,h3⟩
    refine ⟨λp hp=>?_,h2⟩
    rcases List.mem_append.mp hp with hp | hp
    ·exact h1 p hp
    ·rw [List.mem_singleton.mp hp]; exact h3
  | some o=>
   have hm:=ZT e
   have go:0 < zv o.1:=h.g0 _ hm
   have wo:y8 o.1=y8 r.1:=(h.way _ hm).symm
   show HS num den (if r.2 * zv o.1 < o.2 * zv r.1 then (put st.1 (y8 r.1) r,st.2) else st) ↔ _
   by_cases c:r.2 * zv o.1 < o.2 * zv r.1
   ·rw [if_pos c]
    constructor
    ·rintro ⟨h1,h2⟩
     have h3:=h1 _ (zOz st.1 (y8 r.1) r)
     refine ⟨⟨λp hp=>?_,h2⟩,h3⟩
     by_cases q:p.1=y8 r.1
     ·have wp:y8 p.2.1=y8 r.1:=(h.way p hp).symm.trans q
      have same:p=(y8 r.1,o):=by
       have nd:=h.nd
       obtain ⟨i,hi,ei⟩:=List.getElem_of_mem hp
       obtain ⟨j,hj,ej⟩:=List.getElem_of_mem hm
       have k1:(st.1.map (·.1))[i]'(by simpa using hi)=(st.1.map (·.1))[j]'(by simpa using hj):=by
        rw [List.getElem_map,List.getElem_map,ei,ej,q]
       have k2:=(List.getElem_inj nd).mp k1
       subst k2
       rw [<- ei,<- ej]
      rw [same]
      exact QI num den hden v9 pg go wo (Int.le_of_lt c) h3
     ·exact h1 p (zLh hp q)
    ·rintro ⟨⟨h1,h2⟩,h3⟩
     refine ⟨λp hp=>?_,h2⟩
     rcases gw hp with q | hp
     ·rw [q]; exact h3
     ·exact h1 p hp
   ·rw [if_neg c]
    constructor
    ·rintro ⟨h1,h2⟩
     exact ⟨⟨h1,h2⟩,QI num den hden v9 (r:=o) (o:=r) go pg wo.symm (by omega) (h1 _ hm)⟩
    ·rintro ⟨h1,_⟩
     exact h1
 ·rw [if_neg g]
  have g0:zv r.1=0:=Decidable.of_not_not g
  have hz:=QH num den hden v9 (b:=r.2) g0
  by_cases c:r.2 < 0
  ·rw [if_pos c]
   constructor
   ·rintro ⟨_,h2⟩
    cases h2
   ·rintro ⟨_,h3⟩
    have:=hz.mp h3
    omega
  ·rw [if_neg c]
   constructor
   ·intro h1
    exact ⟨h1,hz.mpr (by omega)⟩
   ·rintro ⟨h1,_⟩
    exact h1
theorem QK {st:uR} (h:vh st):∀ rows:List (List Int × Int),HS num den (rows.foldl wU st) ↔ HS num den st/\∀ r∈rows,hl num den r=true
 | []=>⟨λz=>⟨z,λr hr=>by cases hr⟩,λz=>z.1⟩
 | r :: rs=>by
  rw [List.foldl_cons,QK (h.step r) rs,zNt num den hden v9 h r]
  constructor
  ·rintro ⟨⟨h1,h2⟩,h3⟩
   refine ⟨h1,λq hq=>?_⟩
   rcases List.mem_cons.mp hq with rfl | hq
   ·exact h2
   ·exact h3 q hq
  ·rintro ⟨h1,h2⟩
   exact ⟨⟨h1,h2 r List.mem_cons_self⟩,λq hq=>h2 q (List.mem_cons_of_mem _ hq)⟩
theorem zIJ (rows:List (List Int × Int)):(wL rows).all (hl num den)=rows.all (hl num den):=by
 have h:=XW rows
 have a:=QK num den hden v9 XV rows
 have k:(wL rows).all (hl num den)=true ↔ rows.all (hl num den)=true:=by
  rw [QG,List.all_eq_true,List.all_eq_true]
  have b:HS num den ([],none):=⟨λp hp=>(by cases hp),rfl⟩
  have a':HS num den (rows.foldl wU ([],none)) ↔ ∀ r∈rows,hl num den r=true:=⟨λz=>(a.mp z).2,λz=>a.mpr ⟨b,z⟩⟩
  rw [<- a']
  unfold jW
  constructor
  ·intro z
   refine ⟨λp hp=>?_,?_⟩
   ·rw [<- QJ num den hden v9 (h.g0 p hp)]
    exact z _ (List.mem_append_left _ (List.mem_map.mpr ⟨p,hp,rfl⟩))
   ·cases q:(rows.foldl wU ([],none)).2 with
    | none=>rfl
    | some ws=>
     have zz:=z (ws,-1) (List.mem_append_right _ (by rw [q]; exact List.mem_cons_self))
     have:=(QH num den hden v9 (h.z ws q)).mp zz
     omega
  ·rintro ⟨z1,z2⟩ x hx
   rw [z2] at hx
   rcases List.mem_append.mp hx with hx | hx
   ·obtain ⟨p,hp,e⟩:=List.mem_map.mp hx
    rw [<- e,QJ num den hden v9 (h.g0 p hp)]
    exact z1 p hp
   ·cases hx
 cases x:(wL rows).all (hl num den) <;> cases y:rows.all (hl num den) <;> simp_all
end
end Sh
namespace L2
open PySem
def uo (env:Env) (cs:List (Str × Addr)) (p:Str × NameKind):List (Str × Addr):=if (p.2 == .free)=true then (p.1,(env.cells.lookup p.1).getD 0) :: cs else cs
def vE (scope:Scope) (env:Env):List (Str × Addr):=scope.names.foldl (uo env) []
theorem zKV {env:Env}:∀ (names:List (Str × NameKind)) (cs:List (Str × Addr)),(∀ p∈names,p.2=.free->(env.cells.lookup p.1).isSome=true)->
  (forIn names cs (λ(p:Str × NameKind) (r:List (Str × Addr))=>(if (p.2 == .free)=true then do let a <- cellOf env p.1; pure (ForInStep.yield ((p.1,a) :: r)) else pure (ForInStep.yield r):Sem (ForInStep (List (Str × Addr))))))=pure (names.foldl (uo env) cs):=by
 intro names
 induction names with
 | nil=>intro cs _; rfl
 | cons p r ih=>
  intro cs h
  obtain ⟨n,k⟩:=p
  rw [List.forIn_cons]
  by_cases hk:k=.free
  ·subst hk
   obtain ⟨c,hc⟩:=Option.isSome_iff_exists.mp (h (n,.free) List.mem_cons_self rfl)
   have e:cellOf env n=pure c:=by unfold cellOf; dsimp only at hc; rw [hc]
   have z:uo env cs (n,.free)=(n,c) :: cs:=by unfold uo; dsimp only at hc |-; rw [hc]; rfl
   simp only [e,beq_self_eq_true,if_true,pure_bind,List.foldl_cons,z]
   exact ih _ λq hq=>h q (List.mem_cons_of_mem _ hq)
  ·have b:(k == NameKind.free)=false:=by simpa using hk
   have z:uo env cs (n,k)=cs:=by unfold uo; dsimp only; rw [b]; rfl
   simp only [b,Bool.false_eq_true,if_false,pure_bind,List.foldl_cons,z]
   exact ih _ λq hq=>h q (List.mem_cons_of_mem _ hq)
theorem ZV {scope:Scope} {env:Env} (h:∀ p∈scope.names,p.2=.free->(env.cells.lookup p.1).isSome=true):closureFor scope env=pure (vE scope env):=by
 unfold closureFor vE
 have:=zKV scope.names [] h
 exact (congrArg (λm=>m >>= λr=>pure r) this).trans rfl
theorem zL1 {env:Env}:∀ (names:List (Str × NameKind)) (cs:List (Str × Addr)) (x:Str) (c:Addr),(x,c)∈names.foldl (uo env) cs->(x,c)∈cs\/((x,NameKind.free)∈names/\c=(env.cells.lookup x).getD 0):=by
 intro names
 induction names with
 | nil=>intro cs x c h; exact .inl h
 | cons p r ih=>
  intro cs x c h
  obtain ⟨n,k⟩:=p
  rw [List.foldl_cons] at h
  rcases ih _ x c h with h1 | ⟨h1,h2⟩
  ·unfold uo at h1
   dsimp only at h1
   by_cases hk:k=.free
   ·subst hk
    simp only [beq_self_eq_true,if_true] at h1
    rcases List.mem_cons.mp h1 with e | h1
    ·injection e with e1 e2
     subst e1; subst e2
     exact .inr ⟨List.mem_cons_self,rfl⟩
    ·exact .inl h1
   ·have b:(k == NameKind.free)=false:=by simpa using hk
    simp only [b,Bool.false_eq_true,if_false] at h1
    exact .inl h1
  ·exact .inr ⟨List.mem_cons_of_mem _ h1,h2⟩
theorem qy {α β:Type} [BEq α] [LawfulBEq α]:∀ {l:List (α × β)} {a:α} {b:β},l.lookup a=some b->(a,b)∈l
 | [],_,_,h=>by simp at h
 | (x,y) :: r,a,b,h=>by
  rw [List.lookup_cons] at h
  by_cases e:a=x
  ·subst e
   simp only [beq_self_eq_true,if_true] at h
   cases h
   exact List.mem_cons_self
  ·have:(a == x)=false:=by simpa using e
   simp only [this] at h
   exact List.mem_cons_of_mem _ (qy h)
theorem QL {α β:Type} [BEq α] [LawfulBEq α]:∀ {l:List (α × β)} {a:α} {b:β},(a,b)∈l->∃ c,l.lookup a=some c
 | [],_,_,h=>by cases h
 | (x,y) :: r,a,b,h=>by
  rw [List.lookup_cons]
  by_cases e:a=x
  ·subst e
   exact ⟨y,by simp⟩
  ·have z:(a == x)=false:=by simpa using e
   rcases List.mem_cons.mp h with q | q
   ·injection q with q1 _; exact absurd q1 e
   ·obtain ⟨c,hc⟩:=QL q
    exact ⟨c,by simp only [z]; exact hc⟩
theorem zL2 {env:Env}:∀ (names:List (Str × NameKind)) (cs:List (Str × Addr)) (x:Str),((x,NameKind.free)∈names\/∃ c,(x,c)∈cs)->∃ c,(x,c)∈names.foldl (uo env) cs:=by
 intro names
 induction names with
 | nil=>
  intro cs x h
  rcases h with h | h
  ·cases h
  ·exact h
 | cons p r ih=>
  intro cs x h
  rw [List.foldl_cons]
  refine ih _ x ?_
  rcases h with h | ⟨c,h⟩
  ·rcases List.mem_cons.mp h with e | h
   ·subst e
    exact .inr ⟨_,by unfold uo; simp only [beq_self_eq_true,if_true]; exact List.mem_cons_self⟩
   ·exact .inl h
  ·refine .inr ⟨c,?_⟩
   unfold uo
   split
   ·exact List.mem_cons_of_mem _ h
   ·exact h
theorem qJ {scope:Scope} {env:Env} (h:∀ p∈scope.names,p.2=.free->(env.cells.lookup p.1).isSome=true) {x:Str} {c:Addr} (e:(vE scope env).lookup x=some c) :
  env.cells.lookup x=some c/\(x,NameKind.free)∈scope.names:=by
 rcases zL1 scope.names [] x c (qy e) with z | ⟨z,q⟩
 ·cases z
 ·obtain ⟨d,hd⟩:=Option.isSome_iff_exists.mp (h _ z rfl)
  dsimp only at hd
  rw [hd] at q
  exact ⟨by rw [hd,q]; rfl,z⟩
theorem XY {scope:Scope} {env:Env} {x:Str} (h:(x,NameKind.free)∈scope.names):∃ c,(vE scope env).lookup x=some c:=by
 obtain ⟨c,hc⟩:=zL2 (env:=env) scope.names [] x (.inl h)
 exact QL hc
theorem QM {scope:Scope} {env:Env} {x:Str} {k:NameKind} (h:(relabel scope env).names.lookup x=some k):(k=.cell/\((x,NameKind.free)∈scope.names\/(x,NameKind.cell)∈scope.names))\/(x,k)∈scope.names:=by
 have m:=qy h
 unfold relabel at m
 obtain ⟨⟨n,j⟩,hm,e⟩:=List.mem_map.mp m
 dsimp only at e
 split at e
 ·rename_i q
  injection e with e1 e2
  subst e1; subst e2
  have q1:j=NameKind.free:=by
   have:=(Bool.and_eq_true_iff.mp (Bool.and_eq_true_iff.mp q).1).1
   exact eq_of_beq this
  subst q1
  exact .inl ⟨rfl,.inl hm⟩
 ·injection e with e1 e2
  subst e1; subst e2
  exact .inr hm
end L2
namespace L2
open PySem
section
variable {prog:Program} {w:World} {A:Around} {R:Result->Shared->Prop} {s:Shared}
theorem zKT {elt target iter:Expr} {scope:Scope} {pos:Pos} {it acc:Value} {env:Env} (Wd:Nat->Shared->Prop)
  (turn:∀ n s,Wd n s->wpAny (model prog w) A (pyNext it) (λr s1=>match r with
   | none=>R (.ok .next) s1
   | some v=>wpAny (model prog w) A (letOwnedTupleGo target it v) (λ_ s2=>wpAny (model prog w) A (assign target env v) (λ_ s3=>wpAny (model prog w) A (eval elt env) (λx s4=>
     wpAny (model prog w) A (call (.builtin "list.append") [acc,x]) (λ_ s5=>∃ m,m < n/\Wd m s5) (λ_ _=>False) s4) (λ_ _=>False) s3) (λ_ _=>False) s2) (λ_ _=>False) s1) (λ_ _=>False) s)
  (n:Nat) (h:Wd n s):codeAny (model prog w) A (.compLoop (.ListComp elt [⟨target,iter,[],0⟩] scope pos) 0 it acc env) R s:=by
 refine codeAny_loop rfl Wd (λn s hI=>?_) n h
 show wpAny _ _ (Sem.onRaise (compTurn (.ListComp elt [⟨target,iter,[],0⟩] scope pos) 0 it acc env) _) _ _ s
 refine wpAny_noted ?_
 rw [compTurn_list1]
 refine wpAny_bind (wpAny_standAt (wpAny_bind (wpAny_mono (turn n s hI) (λr s1 h1=>?_) λ_ _ z=>False.elim z)))
 cases r with
 | none=>exact wpAny_pure h1
 | some v=>
  refine wpAny_bind (wpAny_mono h1 (λ_ s2 h2=>?_) λ_ _ z=>False.elim z)
  refine wpAny_bind (wpAny_mono h2 (λ_ s3 h3=>?_) λ_ _ z=>False.elim z)
  refine wpAny_bind (wpAny_bind (wpAny_mono h3 (λx s4 h4=>?_) λ_ _ z=>False.elim z))
  exact wpAny_bind (wpAny_mono h4 (λ_ s5 h5=>wpAny_pure (wpAny_pure ⟨rfl,h5⟩)) λ_ _ z=>False.elim z)
end
end L2
namespace L2
open PySem PySem.Spec PyProof.Rows
def Bd (n:Nat) (i:Int):Prop:=i.natAbs < 2 ^ n
theorem Bd.mono {n m:Nat} {i:Int} (h:Bd n i) (k:n<=m:=by decide):Bd m i:=Nat.lt_of_lt_of_le h (Nat.pow_le_pow_right (by decide) k)
theorem Bd.of_le {n:Nat} {i j:Int} (h:Bd n j) (k:i.natAbs<=j.natAbs):Bd n i:=Nat.lt_of_le_of_lt k h
theorem Bd.mul {n m:Nat} {i j:Int} (h:Bd n i) (k:Bd m j):Bd (n + m) (i * j):=by
 unfold Bd
 rw [Int.natAbs_mul,Nat.pow_add]
 rcases Nat.eq_zero_or_pos j.natAbs with z | z
 ·rw [z,Nat.mul_zero]
  exact Nat.mul_pos (Nat.two_pow_pos _) (Nat.two_pow_pos _)
 ·exact Nat.lt_of_lt_of_le (Nat.mul_lt_mul_of_pos_right h z) (Nat.mul_le_mul_left _ (Nat.le_of_lt k))
theorem Bd.add {n:Nat} {i j:Int} (h:Bd n i) (k:Bd n j):Bd (n + 1) (i + j):=by
 have h':i.natAbs < 2 ^ n:=h
 have k':j.natAbs < 2 ^ n:=k
 unfold Bd
 rw [Nat.pow_succ]
 have:=Int.natAbs_add_le i j
 omega
theorem Bd.neg {n:Nat} {i:Int} (h:Bd n i):Bd n (-i):=by
 unfold Bd
 rw [Int.natAbs_neg]
 exact h
theorem Bd.sub {n:Nat} {i j:Int} (h:Bd n i) (k:Bd n j):Bd (n + 1) (i - j):=by
 rw [Int.sub_eq_add_neg]
 exact h.add k.neg
theorem Bd.lit {n:Nat} {i:Int} (h:i.natAbs < 2 ^ n:=by decide):Bd n i:=h
theorem Bd.bits {n:Nat} {i:Int} (h:Bd n i):Builtin.Int.intBits i<=n:=by
 have h':i.natAbs < 2 ^ n:=h
 unfold Builtin.Int.intBits
 split
 ·exact Nat.zero_le _
 ·rename_i z
  have nz:i.natAbs≠0:=by
   intro q
   apply z
   rw [Int.natAbs_eq_zero.mp q]
   rfl
  exact (Nat.log2_lt nz).mpr h'
theorem Bd.fdiv {n:Nat} {i:Int} (h:Bd n i) (j:Int):Bd n (i.fdiv j):=
 h.of_le (Int.natAbs_fdiv_le_natAbs i j)
def XZ (i j:Int):Prop:=Bd 60000 i/\Bd 60000 j
def gx (_ j:Int):Prop:=j≠0/\Bd 8000 j
section
variable {X:Cx}
theorem XZ.ok {i j:Int} (h:XZ i j):IntMulOk i j:=by
 have h1:=h.1.bits
 have h2:=h.2.bits
 have hc:Builtin.Int.intTooBig (Builtin.Int.intBits i + Builtin.Int.intBits j)=false:=by
  unfold Builtin.Int.intTooBig
  rw [bitsLine_eq]
  exact decide_eq_false (by omega)
 unfold IntMulOk
 rw [hc]
 simp
theorem yy:xj X (binaryOp .Mult) (rI XZ λi j=>.int (i * j)):=ZO λ_ _ _ _ _ _ _ hc q=>mul_int q hc.ok
theorem v8:xj X (binaryOp .FloorDiv) (rI gx λi j=>.int (i.fdiv j)):=ZO λ_ _ _ _ _ _ _ hc q=>by
 refine floordiv_int hc.1 q (.inl (PyProof.noPylong_of_log2 ?_))
 have h':_ < 2 ^ 8000:=hc.2
 have nz:_≠0:=λz=>hc.1 (Int.natAbs_eq_zero.mp z)
 exact Nat.lt_trans ((Nat.log2_lt nz).mpr h') (by decide)
end
section
variable {X:Cx}
def gy (K:PySem.W.Frag):List V->Hp->VK->Prop:=λxs H Q=>∃ x c t b,xs=[x,.ty c]/\xf K H x t/\PySem.W.kitOne K t (.type c)=some b/\Q (.bl b) H
theorem zIv:vC X (.builtin "isinstance") (gy X.K):=by
 intro pins s σ H xs us Q I r h
 obtain ⟨x,c,t,b,rfl,ty,e,q⟩:=h
 obtain ⟨u,v,rfl,ru,rv⟩:=Y6 r
 cases (show v=Value.type c from rv)
 exact JW I ru ty e λtk=>⟨.bl b,H,I.tok tk,rfl,q⟩
end
mutual
inductive Dp (K:PySem.W.Frag) (H:Hp):V->PyData->Prop where
 | non:Dp K H .non .none
 | bl (b:Bool):Dp K H (.bl b) (.bool b)
 | int (i:Int):Dp K H (.int i) (.int i)
 | str (x:Str):Dp K H (.str x) (.str x)
 | lst {a:Addr} {xs:List V} {ds:List PyData} (e:zJ K H a xs) (h:uq K H xs ds):Dp K H (.ref a) (.list ds)
 | tup {a:Addr} {xs:List V} {ds:List PyData} (e:zT K H a xs) (h:uq K H xs ds):Dp K H (.ref a) (.tuple ds)
inductive uq (K:PySem.W.Frag) (H:Hp):List V->List PyData->Prop where
 | nil:uq K H [] []
 | cons {x:V} {xs:List V} {d:PyData} {ds:List PyData} (h:Dp K H x d) (t:uq K H xs ds):uq K H (x :: xs) (d :: ds)
end
section
variable {X:Cx} {pins:List (Addr × Obj)} {σ:St} {H:Hp} {s:Shared}
mutual
theorem Dp.reads (I:zQ X pins σ H s):∀ {x:V} {d:PyData} {u:Value},Dp X.K H x d->zq x u->∃ as,Reads s.heap u d as
 | _,_,_,.non,r=>by cases r; exact ⟨_,.none⟩
 | _,_,_,.bl b,r=>by cases r; exact ⟨_,.bool b⟩
 | _,_,_,.int i,r=>by obtain ⟨t,rfl⟩:=r; exact ⟨_,.int i t⟩
 | _,_,_,.str x,r=>by obtain ⟨t,rfl⟩:=r; exact ⟨_,.str x t⟩
 | _,_,_,.lst e h,r=>by
  cases r
  obtain ⟨its,rv,⟨o,n,e1,e2,_,e3⟩,_⟩:=I.list e
  obtain ⟨as,q⟩:=uq.reads I h rv
  exact ⟨_,.list e1 e2 e3 (by simpa using q)⟩
 | _,_,_,.tup e h,r=>by
  cases r
  obtain ⟨its,rv,⟨o,e1,e2,n,e3⟩,_⟩:=I.tuple e
  obtain ⟨as,q⟩:=uq.reads I h rv
  exact ⟨_,.tuple e1 e2 e3 (by simpa using q)⟩
theorem uq.reads (I:zQ X pins σ H s):∀ {xs:List V} {ds:List PyData} {us:List Value},uq X.K H xs ds->zf xs us->∃ as,ReadsAll s.heap us ds as
 | _,_,_,.nil,r=>by cases r; exact ⟨_,.nil⟩
 | _,_,_,.cons h t,r=>by
  cases r with
  | cons r1 r2=>
   obtain ⟨_,q1⟩:=Dp.reads I h r1
   obtain ⟨_,q2⟩:=uq.reads I t r2
   exact ⟨_,.cons q1 q2⟩
end
end
section
variable {X:Cx}
end
section
variable {X:Cx}
theorem jq (hc:X.calm=true):vC X (.builtin "all") (λxs H Q=>∃ (p:Addr) (bs:List Bool),xs=[.ref p]/\zJ X.K H p (bs.map V.bl)/\Q (.bl (bs.all id)) H):=by
 intro pins s σ H xs us Q I r h
 obtain ⟨p,bs,rfl,hq,q⟩:=h
 obtain ⟨u,rfl,ru⟩:=jo r
 cases ru
 obtain ⟨its,rv,pl,hz⟩:=I.list hq
 have hh:X.A.in1.handled=none:=I.ok.hd hc
 have hlt:p < s.heap.objs.size:=by obtain ⟨o,n,e,_⟩:=pl; exact Heap.lt_size e
 refine call_all_walk (wpAny_pyIter_list pl.isList ?_)
 have hlen:its.length=bs.length:=by rw [<- rv.length,List.length_map]
 refine ⟨s.heap.objs.size,_,_,_,_,_,λi=>bs.getD i true,rfl,Walks.list hh s.heap.objs.size p (Nat.ne_of_lt hlt) its.toArray,⟨⟨_,Heap.get?_push_size _ rfl,rfl,rfl⟩,pl.isList.push _⟩,?_,λh' tk kk=>?_⟩
 ·intro i v s' Q' E' hP hQ'
  have e1:its[i]? = some v:=by simpa using hP
  have hi:i < its.length:=(List.getElem?_eq_some_iff.mp e1).1
  have hb:(bs.map V.bl)[i]? = some (.bl (bs.getD i true)):=by
   rw [List.getElem?_map,List.getElem?_eq_getElem (by omega),List.getD_eq_getElem?_getD,List.getElem?_eq_getElem (by omega)]
   rfl
  obtain ⟨u',e2,r2⟩:=rv.get hb
  rw [e1] at e2
  cases e2
  cases r2
  exact wpAny_truthy_bool hQ'
 ·have e:(List.range its.toArray.size).all (λi=>bs.getD i true)=bs.all id:=by
   rw [List.size_toArray,hlen]
   rw [Bool.eq_iff_iff,List.all_eq_true,List.all_eq_true]
   constructor
   ·intro z b hb
    obtain ⟨i,hi,rfl⟩:=List.mem_iff_getElem.mp hb
    have:=z i (List.mem_range.mpr hi)
    rw [List.getD_eq_getElem?_getD,List.getElem?_eq_getElem hi] at this
    exact this
   ·intro z i hi
    have hi':=List.mem_range.mp hi
    rw [List.getD_eq_getElem?_getD,List.getElem?_eq_getElem hi']
    exact z _ (List.getElem_mem hi')
  refine ⟨.bl (bs.all id),H,I.kept (h':=h') (t':=tk) λb o eb=>kk b o ?_ (Heap.get?_push_of_some _ eb),?_,q⟩
  ·intro hb
   have:b=s.heap.objs.size:=by simpa using hb
   rw [this] at eb
   exact absurd (Heap.lt_size eb) (Nat.lt_irrefl _)
  ·rw [e]
   rfl
end
end L2
namespace L2
open PySem PySem.Spec PyProof.Rows
def uS (own:List Str) (caps:List (Nat × Str)) (σ:St):St:=own.map (λ_=>none)++caps.map λp=>(σ[p.1]?).getD none
abbrev yV (own:List Str) (caps:List (Nat × Str)):List Str:=own++caps.map (·.2)
theorem QN {scope:Scope} {env:Env} {x:Str}:(relabel scope env).names.lookup x=(scope.names.lookup x).map λk=>if (k == .free && env.scope.kind == .function && env.kindOf x == some .cell)=true then .cell else k:=by
 unfold relabel
 generalize scope.names=l
 induction l with
 | nil=>rfl
 | cons p r ih=>
  obtain ⟨n,k⟩:=p
  rw [List.map_cons]
  by_cases e:x=n
  ·subst e
   by_cases c:(k == NameKind.free && env.scope.kind == .function && env.kindOf x == some .cell)=true
   ·simp only [c,if_true,List.lookup_cons,beq_self_eq_true,Option.map_some]
   ·simp only [c,if_false,List.lookup_cons,beq_self_eq_true,Option.map_some,Bool.false_eq_true]
  ·have z:(x == n)=false:=by simpa using e
   dsimp only
   split <;> simp only [List.lookup_cons,z] <;> exact ih
def jB (J:It) (g:TG) (te:TE) (Q:VK) (σ0:St) (H1:Hp):Prop:=∃ W:Nat->Nat->List V->St->Hp->Prop,(∃ m,W 0 m [] σ0 H1)∧
 ∀ i m ys σ1 H,W i m ys σ1 H->(J.stop i H/\∀ p,H p=none->Q (.ref p) (upd H p (.lst ys)))∨
  (J.go i H/\ys.length < sizeLine/\∃ N:V->St->Hp->Prop,(∀ y σ' H',N y σ' H'->∃ m',m' < m/\W (i + 1) m' (ys++[y]) σ' H')/\∀ x H',J.yld i H x H'->g x σ1 H' λσ2 H2=>te σ2 H2 λy H3=>N y σ2 H3)
def QO (own:List Str) (caps:List (Nat × Str)) (wi:TI) (g:TG) (te:TE):TE:=λσ H Q=>wi σ H λJ H1=>jB J g te Q (uS own caps σ) H1
section
variable {X:Cx} {scope:Scope} {own:List Str} {caps:List (Nat × Str)} {pins:List (Addr × Obj)} {σ:St} {H:Hp} {s s4:Shared} {C D:Addr} {fp:List Addr}
theorem zMv {i:Nat} {x:Str} {v:V} (h1:(yV own caps)[i]? = some x) (h2:(uS own caps σ)[i]? = some (some v)):∃ j,(j,x)∈caps/\σ[j]? = some (some v):=by
 unfold uS at h2
 by_cases hi:i < own.length
 ·rw [List.getElem?_append_left (by simpa using hi),List.getElem?_map] at h2
  cases e:own[i]? with
  | none=>rw [e] at h2; cases h2
  | some a=>rw [e] at h2; cases h2
 ·rw [List.getElem?_append_right (by simpa using hi),List.length_map,List.getElem?_map] at h2
  unfold yV at h1
  rw [List.getElem?_append_right (by omega),List.getElem?_map] at h1
  cases e:caps[i - own.length]? with
  | none=>rw [e] at h1; cases h1
  | some p=>
   obtain ⟨j,n⟩:=p
   rw [e] at h1 h2
   cases h1
   refine ⟨j,List.mem_of_getElem? e,?_⟩
   simp only [Option.map_some,Option.some.injEq] at h2
   cases q:σ[j]? with
   | none=>rw [q] at h2; cases h2
   | some o=>rw [q] at h2; exact congrArg some h2
abbrev xN (its:List Value) (k:Nat):Obj:={ cls:=.type "list",data:=.seq its.toArray k }
theorem QP {Y:Cx} {its:List Value} {k:Nat} {y:Value} {pl:List (Addr × Obj)} {Q:Value->Shared->Prop} {E:Value->Shared->Prop} (I:zQ Y ((D,xN its k) :: pl) σ H s) (hn:xG Y [] H D) (hp:Y.pn=[]) (hz:its.length<=sizeLine)
  (q:∀ h' k' tk,(∀ b o,b≠D->s.heap.get? b=some o->h'.get? b=some o)->zQ Y [(D,xN (its++[y]) k')] σ H { s with heap:=h',toks:=tk }->Q .none { s with heap:=h',toks:=tk }) :
  wpAny (model Y.prog Y.w) Y.A (call (.builtin "list.append") [.ref D,y]) Q E s:=by
 have pD:=I.pin (D,xN its k) (List.mem_append_right _ List.mem_cons_self)
 have e:s.heap.get? D=some (xN its k):=pD.1
 refine call_meets F.slot_list_append ⟨_,e,rfl⟩ F.entry_list_append (F.args_list_append_2 _ _) (PySem.list_append D its.toArray k y (by rw [List.size_toArray]; exact hz)) ⟨e,?_⟩
 have e2:=PySem.IsL.update e (·.push y)
 have ea:its.toArray.push y=(its++[y]).toArray:=by simp
 have keep:∀ b o,b≠D->s.heap.get? b=some o->(s.heap.update D (Obj.mapSeq (·.push y))).get? b=some o:=λb o hb eb=>(Heap.get?_update_other s.heap _ (Ne.symm hb)).trans eb
 have I0:zQ Y [] σ H s:=I.pins_of λp hp'=>by cases hp'
 have I1:zQ Y [] σ H { s with heap:=s.heap.update D (Obj.mapSeq (·.push y)),toks:=s.toks }:=I0.turned keep hn.1 hn.2.1 hn.2.2.2.1 hn.2.2.2.2.1 hn.2.2.2.2.2
 have e3:(s.heap.update D (Obj.mapSeq (·.push y))).get? D=some (xN (its++[y]) _):=e2.trans (by rw [ea])
 have I2:zQ Y [(D,xN (its++[y]) (if ((its++[y]).toArray.size == its.toArray.size)=true then k else k + 1))] σ H { s with heap:=s.heap.update D (Obj.mapSeq (·.push y)),toks:=s.toks }:=I1.pins_of λp hp'=>by
  rw [List.mem_singleton.mp hp']
  exact ⟨e3,hn.1,hn.2.1,hn.2.2.1,λv z=>by cases z⟩
 exact q _ _ s.toks keep I2
end
section
variable {X:Cx} {scope:Scope} {own:List Str} {caps:List (Nat × Str)} {elt tg iter:Expr} {wi:TI} {g:TG} {te:TE} {pos:Pos}
end
end L2
namespace L2
open PySem PySem.Spec PyProof.Rows
theorem vR {K:PySem.W.Frag} {a:Addr} {xs:List V} {g:TG} {te:TE} {σ0:St} {H:Hp} {Q:VK} (Pv:Nat->List V->St->Hp->Prop) (h0:Pv 0 [] σ0 H) (hl:∀ i ys σ H,i<=xs.length->Pv i ys σ H->zJ K H a xs/\ys.length<=i) (hz:xs.length<=sizeLine)
  (hs:∀ i x ys σ H,xs[i]? = some x->Pv i ys σ H->g x σ H λσ2 H2=>te σ2 H2 λy H3=>Pv (i + 1) (ys++[y]) σ2 H3)
  (hd:∀ ys σ H,Pv xs.length ys σ H->∀ p,H p=none->Q (.ref p) (upd H p (.lst ys))) :
  jB (j7 K a) g te Q σ0 H:=by
 refine ⟨λi m ys σ H=>m=xs.length - i/\i<=xs.length/\Pv i ys σ H,⟨xs.length,by simp,Nat.zero_le _,h0⟩,?_⟩
 rintro i m ys σ H ⟨rfl,hi,p⟩
 obtain ⟨q,hy⟩:=hl i ys σ H hi p
 by_cases hlt:i < xs.length
 ·refine .inr ⟨⟨xs,xs[i],q,by simp [hlt]⟩,by omega,λy σ' H'=>Pv (i + 1) (ys++[y]) σ' H',λy σ' H' z=>⟨xs.length - (i + 1),by omega,rfl,hlt,z⟩,λx H' y=>?_⟩
  obtain ⟨e,y⟩:=y
  subst e
  exact hs i x ys σ _ (y xs q) p
 ·have e:i=xs.length:=by omega
  subst e
  exact .inl ⟨⟨xs,q,Nat.le_refl _⟩,hd ys σ H p⟩
theorem jC {lo:Int} {n:Nat} {g:TG} {te:TE} {σ0:St} {H:Hp} {Q:VK} (Pv:Nat->List V->St->Hp->Prop) (h0:Pv 0 [] σ0 H) (hl:∀ i ys σ H,Pv i ys σ H->ys.length<=i) (hz:n<=sizeLine)
  (hs:∀ i ys σ H,i < n->Pv i ys σ H->g (.int (lo + i)) σ H λσ2 H2=>te σ2 H2 λy H3=>Pv (i + 1) (ys++[y]) σ2 H3)
  (hd:∀ ys σ H,Pv n ys σ H->∀ p,H p=none->Q (.ref p) (upd H p (.lst ys))):jB (j8 lo n) g te Q σ0 H:=by
 refine ⟨λi m ys σ H=>m=n - i/\i<=n/\Pv i ys σ H,⟨n,by simp,Nat.zero_le _,h0⟩,?_⟩
 rintro i m ys σ H ⟨rfl,hi,p⟩
 have hy:=hl i ys σ H p
 by_cases hlt:i < n
 ·refine .inr ⟨hlt,by omega,λy σ' H'=>Pv (i + 1) (ys++[y]) σ' H',λy σ' H' z=>⟨n - (i + 1),by omega,rfl,hlt,z⟩,λx H' y=>?_⟩
  obtain ⟨e,y⟩:=y
  subst e y
  exact hs i ys σ _ hlt p
 ·have e:i=n:=by omega
  subst e
  exact .inl ⟨Nat.le_refl _,hd ys σ H p⟩
structure Fn (P:Program) (w:World) (K:PySem.W.Frag) (mg:Str->Option Value) (base:Heap) (x:Str) (ps:List Str) (k:Nat) (sp:Sp):Prop where
 ex:∃ f fd,zU P w K mg base yG k f fd ps sp/\mg x=some (.ref f)/\PySem.W.keepIn K (.ref f)=true/\vd K fd ps []
theorem Fn.mono {P:Program} {w:World} {K:PySem.W.Frag} {mg:Str->Option Value} {base:Heap} {x:Str} {ps:List Str} {j k:Nat} {sp:Sp} (F:Fn P w K mg base x ps j sp) (h:j<=k:=by decide):Fn P w K mg base x ps k sp:=by
 obtain ⟨f,fd,a,b,c,d⟩:=F.ex
 exact ⟨f,fd,a.mono h,b,c,d⟩
theorem zk {X:Cx} {x:Str} {ps:List Str} {k:Nat} {sp:Sp} {e:Expr} {es:List Expr} {t:TA} {p pos:Pos} (F:Fn X.prog X.w X.K X.mg X.base x ps k sp) (hr:yf k X.A) (hg:Gl X x) (ha:PA X (e :: es) t)
  (hdb:(x == ("__debug__" : Str))=false:=by decide) (he:starEach (e :: es) X.env=(false,eval e X.env) :: starEach es X.env:=by rfl) (hpl:(backTo pos (starEach es X.env)).any (·.1)=false:=by rfl) :
  PE X (.Call (.Name x p) (e :: es) [] pos) (gk sp [] E0 t):=by
 obtain ⟨f,fd,a,b,c,d⟩:=F.ex
 exact XC a hr hg b c d .nil ZQ ha hdb he hpl
end L2
namespace L2
open PySem PySem.Spec PyProof.Rows
theorem vJ:bootBuiltins "isinstance" = some (.builtin "isinstance"):=by decide +kernel
theorem wZ:bootBuiltins "len" = some (.builtin "len"):=by decide +kernel
theorem QQ:bootBuiltins "abs" = some (.builtin "abs"):=by decide +kernel
theorem jr:bootBuiltins "all" = some (.builtin "all"):=by decide +kernel
theorem Xa:bootBuiltins "int" = some (.type "int"):=by decide +kernel
theorem zKW:bootBuiltins "bool" = some (.type "bool"):=by decide +kernel
theorem vK:bootBuiltins "tuple" = some (.type "tuple"):=by decide +kernel
theorem wJ:bootBuiltins "list" = some (.type "list"):=by decide +kernel
section
variable (K:PySem.W.Frag)
theorem zIk:PySem.W.kitOne K (.type "int") (.type "int")=some true:=by first | rfl | decide +kernel | (unfold PySem.W.kitOne; rw [if_pos (by decide +kernel)])
theorem zHm:PySem.W.kitOne K (.type "int") (.type "bool")=some false:=by first | rfl | decide +kernel | (unfold PySem.W.kitOne; rw [if_neg (by decide +kernel)]; rfl)
theorem gz:PySem.W.kitOne K (.type "tuple") (.type "tuple")=some true:=by first | rfl | decide +kernel | (unfold PySem.W.kitOne; rw [if_pos (by decide +kernel)])
end
structure wF (K:PySem.W.Frag) (x qual:Str) (st:Stmt) (f:Addr) (fd:FuncData) (d:Value):Prop where
 ex:∃ (oc:Value) (od:Option Addr) (kV doc pm:Value) (an:Option Addr) (cdv ct:Value) (osl:Array (Option Value)) (T:Addr) (oT:Obj) (n:Nat),
  fd=PySem.W.fnOf x qual (ve st) (xR st) (ze st) (.ref T) kV doc pm an cdv ct/\K.lookup f=some ⟨oc,od,.func fd,osl⟩/\PySem.W.codeIn K cdv qual=true/\K.lookup T=some oT/\oT.data=.seq #[d] n
 kp:PySem.W.keepIn K (.ref f)=true
theorem wF.ok {P:Program} {w:World} {K:PySem.W.Frag} {mg:Str->Option Value} {base:Heap} {x qual:Str} {st:Stmt} {f:Addr} {fd:FuncData} {d:Value} {N ps:List Str} {k:Nat} {sp:Sp} (F:wF K x qual st f fd d) (S:ya N ps (ze st))
  (len:∀ vs H Q E,sp vs H Q E->vs.length=ps.length)
  (hbody:∀ (cdv:Value) (A:Around) (outer:List Env) (s:Shared) (H:Hp) (vs:List V) (Q:VK) (E:XK),yf k (A.deeper (envOfC qual (ze st) s.heap.objs.size f cdv))->sp vs H Q E->
   ∃ t,xc (zP yG P w K mg base N qual (ze st) f cdv A outer s H E).nox (xR st) t/\t { nx:=λ_ H'=>Q .non H',rt:=Q } (u9 N vs) H):zU P w K mg base yG (k + 1) f fd ps sp:=by
 obtain ⟨oc,od,kV,doc,pm,an,cdv,ct,osl,T,oT,n,rfl,lk,hcd,_⟩:=F.ex
 refine XD lk hcd S len λA outer s H vs Q E hr hsp=>?_
 obtain ⟨t,h,q⟩:=hbody cdv A outer s H vs Q E hr hsp
 exact ⟨t,h.nox,q⟩
end L2
namespace L2
open PySem PySem.Spec PyProof.Rows
theorem zNz {K:PySem.W.Frag} {x qual:Str} {st:Stmt} {f T:Addr} {oc kV doc pm cdv ct d:Value} {od an:Option Addr} {osl:Array (Option Value)} {oT:Obj} {n:Nat} (l:K.lookup f=some ⟨oc,od,.func (PySem.W.fnOf x qual (ve st) (xR st) (ze st) (.ref T) kV doc pm an cdv ct),osl⟩)
  (c:PySem.W.codeIn K cdv qual=true) (k:PySem.W.keepIn K (.ref f)=true) (t:K.lookup T=some oT) (e:oT.data=.seq #[d] n):wF K x qual st f (PySem.W.fnOf x qual (ve st) (xR st) (ze st) (.ref T) kV doc pm an cdv ct) d:=
 ⟨⟨oc,od,kV,doc,pm,an,cdv,ct,osl,T,oT,n,rfl,l,c,t,e⟩,k⟩
theorem wF.binds {K:PySem.W.Frag} {x qual:Str} {st:Stmt} {f:Addr} {fd:FuncData} {d:Value} {ps:List Str} (F:wF K x qual st f fd d)
  (h:∀ (T:Addr) (kV doc pm:Value) (an:Option Addr) (cdv ct:Value) (us:List Value),us.length=ps.length->∃ k:Option (Array Value)->Sem (List (Str × Value)),
   bindArgs (PySem.W.fnOf x qual (ve st) (xR st) (ze st) (.ref T) kV doc pm an cdv ct) ⟨us,[]⟩=seqItems? (.ref T) >>= k/\k (some #[d])=pure (ps.zip us)):vd K fd ps []:=by
 obtain ⟨oc,od,kV,doc,pm,an,cdv,ct,osl,T,oT,n,rfl,lk,hcd,t,e⟩:=F.ex
 intro s us X hl
 rw [List.append_nil] at hl |-
 obtain ⟨k,h1,h2⟩:=h T kV doc pm an cdv ct us hl
 exact .of_defaults (T:=T) rfl (X T oT t) e h1 h2
end L2
namespace L2
open PySem PySem.Spec PyProof.Rows
structure vi (P:Program) (w:World) (K:PySem.W.Frag) (mg:Str->Option Value) (base:Heap) (x:Str) (ps:List Str) (k:Nat) (sp:Sp) (dv:V):Prop where
 ex:∃ f fd d,zU P w K mg base yG k f fd ps sp/\mg x=some (.ref f)/\PySem.W.keepIn K (.ref f)=true/\vd K fd ps []/\vd K fd ps [d]/\zq dv d
theorem vi.mono {P:Program} {w:World} {K:PySem.W.Frag} {mg:Str->Option Value} {base:Heap} {x:Str} {ps:List Str} {j k:Nat} {sp:Sp} {dv:V} (F:vi P w K mg base x ps j sp dv) (h:j<=k:=by decide):vi P w K mg base x ps k sp dv:=by
 obtain ⟨f,fd,d,a,b,c,e⟩:=F.ex
 exact ⟨f,fd,d,a.mono h,b,c,e⟩
theorem vi.fn {P:Program} {w:World} {K:PySem.W.Frag} {mg:Str->Option Value} {base:Heap} {x:Str} {ps:List Str} {k:Nat} {sp:Sp} {dv:V} (F:vi P w K mg base x ps k sp dv):Fn P w K mg base x ps k sp:=by
 obtain ⟨f,fd,d,a,b,c,e,_⟩:=F.ex
 exact ⟨f,fd,a,b,c,e⟩
theorem qK {X:Cx} {x:Str} {ps:List Str} {k:Nat} {sp:Sp} {e:Expr} {es:List Expr} {t:TA} {p pos:Pos} {dv:V} (F:vi X.prog X.w X.K X.mg X.base x ps k sp dv) (hr:yf k X.A) (hg:Gl X x) (ha:PA X (e :: es) t)
  (hdb:(x == ("__debug__" : Str))=false:=by decide) (he:starEach (e :: es) X.env=(false,eval e X.env) :: starEach es X.env:=by rfl) (hpl:(backTo pos (starEach es X.env)).any (·.1)=false:=by rfl) :
  PE X (.Call (.Name x p) (e :: es) [] pos) (gk sp [dv] E0 t):=by
 obtain ⟨f,fd,d,a,b,c,_,h2,r⟩:=F.ex
 exact XC a hr hg b c h2 (.cons r .nil) ZQ ha hdb he hpl
theorem wF.binds1 {K:PySem.W.Frag} {x qual:Str} {st:Stmt} {f:Addr} {fd:FuncData} {d:Value} {ps:List Str} (F:wF K x qual st f fd d)
  (h:∀ (T:Addr) (kV doc pm:Value) (an:Option Addr) (cdv ct:Value) (us:List Value),us.length + 1=ps.length->∃ k:Option (Array Value)->Sem (List (Str × Value)),
   bindArgs (PySem.W.fnOf x qual (ve st) (xR st) (ze st) (.ref T) kV doc pm an cdv ct) ⟨us,[]⟩=seqItems? (.ref T) >>= k/\k (some #[d])=pure (ps.zip (us++[d]))):vd K fd ps [d]:=by
 obtain ⟨oc,od,kV,doc,pm,an,cdv,ct,osl,T,oT,n,rfl,lk,hcd,t,e⟩:=F.ex
 intro s us X hl
 rw [List.length_append,List.length_singleton] at hl
 obtain ⟨k,h1,h2⟩:=h T kV doc pm an cdv ct us hl
 exact .of_defaults (T:=T) rfl (X T oT t) e h1 h2
theorem qL (xs:List V) (v:V):yY (xs++[v]) none (some (-1))=xs:=by
 unfold yY
 have e1:HT.sIx (xs++[v]).length 0 none=0:=rfl
 have e2:HT.sIx (xs++[v]).length (xs++[v]).length (some (-1))=xs.length:=by
  show (if (-1:Int) < 0 then ((-1:Int) + ((xs++[v]).length:Int)).toNat else min (-1:Int).toNat (xs++[v]).length)=xs.length
  rw [if_pos (by decide),List.length_append,List.length_singleton]
  omega
 rw [e1,e2]
 simp
theorem jD (xs:List V) (v:V):¬ (HT.sIx (xs++[v]).length 0 none=0/\HT.sIx (xs++[v]).length (xs++[v]).length (some (-1))=(xs++[v]).length):=by
 rintro ⟨_,e⟩
 have e2:HT.sIx (xs++[v]).length (xs++[v]).length (some (-1))=xs.length:=by
  show (if (-1:Int) < 0 then ((-1:Int) + ((xs++[v]).length:Int)).toNat else min (-1:Int).toNat (xs++[v]).length)=xs.length
  rw [if_pos (by decide),List.length_append,List.length_singleton]
  omega
 rw [e2,List.length_append,List.length_singleton] at e
 omega
end L2
namespace L2
theorem xo {b:Bool} {A B:Prop} (e:b=true) (h:A):if b=true then A else B:=by
 rw [if_pos e]
 exact h
theorem xA {b:Bool} {A B:Prop} (e:b=false) (h:B):if b=true then A else B:=by
 rw [if_neg (by rw [e]; exact Bool.false_ne_true)]
 exact h
theorem jE {i j:Int} (h:i=j):decide (V.int i=V.int j)=true:=decide_eq_true (by rw [h])
theorem vk {i j:Int} (h:i≠j):decide (V.int i=V.int j)=false:=decide_eq_false λe=>h (by injection e)
theorem g6 {i j:Int} (h:i≠j):(!decide (V.int i=V.int j))=true:=by rw [vk h]; rfl
theorem ZW {i j:Int} (h:i=j):(!decide (V.int i=V.int j))=false:=by rw [jE h]; rfl
end L2
set_option maxRecDepth 100000
namespace L2
open PySem
section
variable {prog:Program} {w:World} {A:Around} {E:Value->Shared->Prop} {s:Shared}
theorem js (hh:A.handled=none) (it t:Addr) (hne:t≠it) (items:Array Value) :
  Draws prog w A it [it,t] items.size (λi v=>items[i]? = some v) (λi h=>h.IsTupleIter it t i/\h.IsTuple t items) where
 live:=λ_ _ st=>let ⟨o,ho,_⟩:=st.1; ⟨o,ho⟩
 frame:=λ_ _ _ st hk=>⟨let ⟨o,e,r⟩:=st.1; ⟨o,hk it (by simp) o e,r⟩,let ⟨o,e,r⟩:=st.2; ⟨o,hk t (by simp) o e,r⟩⟩
 item:=λi s Q E hi st hQ=>by
  obtain ⟨hit,ht⟩:=st
  obtain ⟨o,ho,hc,hd⟩:=id hit
  obtain ⟨ol,hol,_,nl,hdl⟩:=id ht
  have hx:items[i]? = some items[i]:=by simp [hi]
  unfold Builtin.SmallTypes.nextOf
  refine wpAny_bind (wpAny_callSpecial?_slot (name:=Str.ofString "__next__") hit.typeIs F.slot_tuple_iterator_next (wpAny_call_entry F.slot_tuple_iterator_next hit.typeIs F.entry_tuple_iterator_next ?_ (F.args_tuple_iterator_next_1 _)))
  change wpAny _ _ (field (.ref it) 0 >>= _) _ _ s
  refine wpAny_bind (wpAny_field ho hd (x:=.ref t) rfl ?_)
  change wpAny _ _ (if (Value.ref t == Value.none)=true then _ else _) _ _ s
  rw [if_neg (show (Value.ref t == Value.none)≠true from Bool.false_ne_true)]
  change wpAny _ _ (field (.ref it) 1 >>= _) _ _ s
  refine wpAny_bind (wpAny_field ho hd (x:=.int i 0) rfl ?_)
  change wpAny _ _ (seqItems? (.ref t) >>= _) _ _ s
  refine wpAny_bind (wpAny_seqItems hol hdl ?_)
  simp only [Int.toNat_natCast,hx]
  refine wpAny_bind (wpAny_setField ho hd (by simp) (wpAny_pure ⟨items[i],rfl,wpAny_pure (hQ _ _ s.toks hx ⟨?_,?_⟩ (Heap.SameBut.update ..))⟩))
  ·exact ⟨_,Heap.get?_update_self _ ho (Obj.isFreed_of_fields (Obj.data_mapFields hd _)),(Obj.cls_mapFields ..).trans hc,by rw [Obj.data_mapFields hd]; simp [rawInt]⟩
  ·exact ht.extBut (Heap.SameBut.update ..).extBut hne
 done:=λs Q E st hE=>by
  obtain ⟨hit,ht⟩:=st
  obtain ⟨o,ho,hc,hd⟩:=id hit
  obtain ⟨ol,hol,_,nl,hdl⟩:=id ht
  have hx:items[items.size]? = none:=by simp
  unfold Builtin.SmallTypes.nextOf
  refine wpAny_bind (wpAny_callSpecial?_slot (name:=Str.ofString "__next__") hit.typeIs F.slot_tuple_iterator_next (wpAny_call_entry F.slot_tuple_iterator_next hit.typeIs F.entry_tuple_iterator_next ?_ (F.args_tuple_iterator_next_1 _)))
  change wpAny _ _ (field (.ref it) 0 >>= _) _ _ s
  refine wpAny_bind (wpAny_field ho hd (x:=.ref t) rfl ?_)
  change wpAny _ _ (if (Value.ref t == Value.none)=true then _ else _) _ _ s
  rw [if_neg (show (Value.ref t == Value.none)≠true from Bool.false_ne_true)]
  change wpAny _ _ (field (.ref it) 1 >>= _) _ _ s
  refine wpAny_bind (wpAny_field ho hd (x:=.int items.size 0) rfl ?_)
  change wpAny _ _ (seqItems? (.ref t) >>= _) _ _ s
  refine wpAny_bind (wpAny_seqItems hol hdl ?_)
  simp only [Int.toNat_natCast,hx]
  refine wpAny_bind (wpAny_rule (wpAny_bind (wpAny_setField ho hd (by simp) ?_)))
  change wpAny _ _ (newExc (.type "StopIteration") [] >>= _) _ _ _
  refine wpAny_bind ?_
  simp only [newExc,newTuple]
  refine wpAny_bind (wpAny_newObj_type ?_ (by size_fits))
  refine wpAny_bind (m:=firstArgMember _ _) (wpAny_of_eq (a:=Value.none) (by first | rfl | (simp only [firstArgMember]; rfl)) ?_)
  refine wpAny_newObj_type ?_ (by size_fits)
  simp only [raiseNew]
  refine wpAny_bind (wpAny_handled ?_)
  first | rw [show A.in1.handled=none from hh] | rw [hh]
  refine wpAny_bind (wpAny_pure (wpAny_throw ?_))
  exact hE _ _ (((Heap.SameBut.update ..).extBut.push _).push _) ⟨_,Heap.get?_push_size _ rfl,rfl⟩
structure Zp (z TI TO i1 i2:Addr) (f1 f2:List Addr):Prop where
 a1:TI≠z
 a2:TO≠z
 a3:i1≠z
 a4:i2≠z
 a5:TI≠TO
 a6:TI≠i1
 a7:TI≠i2
 a8:TO≠i1
 a9:TO≠i2
 b1:z∉f1
 b2:z∉f2
 b3:TO∉f1
 b4:TO∉f2
 b5:i1∉f2
 b6:i2∉f1
theorem zMJ {z TI TO i1 i2:Addr} {f1 f2:List Addr} {n1 n2 k:Nat} {P1 P2:Nat->Value->Prop} {S1 S2:Nat->Heap->Prop} {a b:Value} {Q:Value->Shared->Prop}
  (D1:Draws prog w A i1 f1 n1 P1 S1) (D2:Draws prog w A i2 f2 n2 P2 S2) (Z:Zp z TI TO i1 i2 f1 f2) (hz:IsZip s.heap z TI TO .none) (hI:IsPair s.heap TI (.ref i1) (.ref i2)) (hO:IsPair s.heap TO a b)
  (s1:S1 k s.heap) (s2:S2 k s.heap) (k1:k < n1) (k2:k < n2)
  (hQ:∀ x y h' tk,P1 k x->P2 k y->IsZip h' z TI TO (rawInt s.heap.objs.size)->IsPair h' TI (.ref i1) (.ref i2)->IsPair h' TO x y->S1 (k + 1) h'->S2 (k + 1) h'->IsPair h' s.heap.objs.size x y->
   (∀ c o,c≠z->c≠TO->c≠i1->c≠i2->s.heap.get? c=some o->h'.get? c=some o)->Q (.ref s.heap.objs.size) { s with heap:=h',toks:=tk }) :
  wpAny (model prog w) A (Builtin.«zip.__next__» ⟨[.ref z],[]⟩) (λfin s'=>∃ v,fin=.done (.ret v)/\Q v s') E s:=by
 change wpAny _ _ (field (.ref z) 2 >>= _) _ _ _
 refine wpAny_bind (wpAny_field hz rfl (x:=.bool false) rfl ?_)
 change wpAny _ _ (field (.ref z) 3 >>= _) _ _ _
 refine wpAny_bind (wpAny_field hz rfl (x:=.ref TI) rfl ?_)
 refine wpAny_bind (wpAny_seqItems hI rfl ?_)
 change wpAny _ _ (Builtin.SmallTypes.ownedTupleIsFree (.ref z) >>= _) _ _ _
 refine wpAny_bind ?_
 unfold Builtin.SmallTypes.ownedTupleIsFree
 refine wpAny_bind (wpAny_field hz rfl (x:=.none) rfl (wpAny_pure ?_))
 simp only [if_true]
 refine wpAny_bind (wpAny_rule ?_)
 refine wpAny_bind (wpAny_field hz rfl (x:=.ref TO) rfl ?_)
 refine wpAny_bind (wpAny_setField_rec hz (by simp) λg1 z1 m1=>?_)
 replace z1:IsZip g1 z TI TO .ellipsis:=z1
 refine wpAny_bind ?_
 simp only [List.zipIdx_cons,List.zipIdx_nil,List.forIn_cons,List.forIn_nil]
 refine wpAny_bind (wpAny_bind (wpAny_onRaise ?_))
 change wpAny _ _ (Builtin.SmallTypes.nextOf (.ref i1) >>= _) _ _ _
 refine wpAny_bind (D1.item k _ _ _ k1 (D1.frame _ _ _ s1 λc hc o e=>m1.extBut c o (λq=>Z.b1 (q ▸ hc)) e) λx g2 t2 px s12 m2=>wpAny_pure ?_)
 have o2:IsPair g2 TO a b:=m2.extBut _ _ Z.a8 (m1.extBut _ _ Z.a2 hO)
 refine wpAny_bind (wpAny_seqItems o2 rfl ?_)
 refine wpAny_bind (wpAny_updateSeq_pair o2 λg3 o3 m3=>?_)
 replace o3:IsPair g3 TO x b:=o3
 refine wpAny_bind (wpAny_letGo (wpAny_pure ?_))
 refine wpAny_bind (wpAny_bind (wpAny_onRaise ?_))
 change wpAny _ _ (Builtin.SmallTypes.nextOf (.ref i2) >>= _) _ _ _
 refine wpAny_bind (D2.item k _ _ _ k2 (D2.frame _ _ _ s2 λc hc o e=>m3.extBut c o (λq=>Z.b4 (q ▸ hc)) (m2.extBut c o (λq=>Z.b5 (q ▸ hc)) (m1.extBut c o (λq=>Z.b2 (q ▸ hc)) e))) λy g4 t4 py s24 m4=>wpAny_pure ?_)
 have o4:IsPair g4 TO x b:=m4.extBut _ _ Z.a9 o3
 refine wpAny_bind (wpAny_seqItems o4 rfl ?_)
 refine wpAny_bind (wpAny_updateSeq_pair o4 λg5 o5 m5=>?_)
 replace o5:IsPair g5 TO x y:=o5
 refine wpAny_bind (wpAny_letGo (wpAny_pure (wpAny_pure ?_)))
 refine wpAny_bind (wpAny_seqItems o5 rfl ?_)
 refine wpAny_bind (wpAny_newTuple ?_)
 have sz:g5.objs.size=s.heap.objs.size:=by
  have q5:g5.objs.size=g4.objs.size:=m5.1
  have q4:g4.objs.size=g3.objs.size:=m4.1
  have q3:g3.objs.size=g2.objs.size:=m3.1
  have q2:g2.objs.size=g1.objs.size:=m2.1
  have q1:g1.objs.size=s.heap.objs.size:=m1.1
  omega
 have all5:∀ c o,c≠z->c≠TO->c≠i1->c≠i2->s.heap.get? c=some o->g5.get? c=some o:=λc o c1 c2 c3 c4 e=>m5.extBut _ _ c2 (m4.extBut _ _ c4 (m3.extBut _ _ c2 (m2.extBut _ _ c3 (m1.extBut _ _ c1 e))))
 have z5:IsZip g5 z TI TO .ellipsis:=m5.extBut _ _ Z.a2.symm (m4.extBut _ _ Z.a4.symm (m3.extBut _ _ Z.a2.symm (m2.extBut _ _ Z.a3.symm z1)))
 have I5:IsPair g5 TI (.ref i1) (.ref i2):=all5 _ _ Z.a1 Z.a5 Z.a6 Z.a7 hI
 have u1:S1 (k + 1) g5:=D1.frame _ _ _ s12 λc hc o e=>m5.extBut c o (λq=>Z.b3 (q ▸ hc)) (m4.extBut c o (λq=>Z.b6 (q ▸ hc)) (m3.extBut c o (λq=>Z.b3 (q ▸ hc)) e))
 have u2:S2 (k + 1) g5:=D2.frame _ _ _ s24 λc hc o e=>m5.extBut c o (λq=>Z.b4 (q ▸ hc)) e
 have lt:z < g5.objs.size:=Heap.lt_size z5
 change wpAny _ _ (Builtin.SmallTypes.ownedTupleHandOut (.ref z) (.ref g5.objs.size) >>= _) _ _ _
 refine wpAny_bind ?_
 unfold Builtin.SmallTypes.ownedTupleHandOut
 have z6:IsZip (g5.push { cls:=.type "tuple",data:=.seq #[x,y] }) z TI TO .ellipsis:=Heap.get?_push_of_some _ z5
 refine wpAny_bind (wpAny_setField_rec z6 (by simp) λg7 z7 m7=>?_)
 replace z7:IsZip g7 z TI TO (rawInt g5.objs.size):=z7
 refine wpAny_setField_rec z7 (by simp) λg8 z8 m8=>?_
 replace z8:IsZip g8 z TI TO (rawInt g5.objs.size):=z8
 have up:∀ c o,c≠z->g5.get? c=some o->g8.get? c=some o:=λc o c1 e=>m8.extBut _ _ c1 (m7.extBut _ _ c1 (Heap.get?_push_of_some _ e))
 have T8:IsPair g8 g5.objs.size x y:=m8.extBut _ _ (Nat.ne_of_gt lt) (m7.extBut _ _ (Nat.ne_of_gt lt) (Heap.get?_push_size _ rfl))
 rw [sz] at z8 T8
 refine wpAny_pure ⟨_,rfl,?_⟩
 change Q (.ref g5.objs.size) _
 rw [sz]
 exact hQ x y g8 _ px py z8 (up _ _ Z.a1 I5) (up _ _ Z.a2 o5) (D1.frame _ _ _ u1 λc hc o e=>up c o (λq=>Z.b1 (q ▸ hc)) e) (D2.frame _ _ _ u2 λc hc o e=>up c o (λq=>Z.b2 (q ▸ hc)) e) T8
  λc o c1 c2 c3 c4 e=>up c o c1 (all5 c o c1 c2 c3 c4 e)
theorem zMI {z TI TO i1 i2:Addr} {f1 f2:List Addr} {n1 n2 k:Nat} {P1 P2:Nat->Value->Prop} {S1 S2:Nat->Heap->Prop} {a b:Value} {Q:Fin->Shared->Prop}
  (D1:Draws prog w A i1 f1 n1 P1 S1) (D2:Draws prog w A i2 f2 n2 P2 S2) (Z:Zp z TI TO i1 i2 f1 f2) (hz:IsZip s.heap z TI TO .none) (hI:IsPair s.heap TI (.ref i1) (.ref i2)) (hO:IsPair s.heap TO a b)
  (s1:S1 k s.heap) (s2:S2 k s.heap) (k1:k<=n1) (k2:k<=n2) (ke:k=n1\/k=n2)
  (hE:∀ h' e tk,(∀ c o,c≠z->c≠TO->c≠i1->c≠i2->s.heap.get? c=some o->h'.get? c=some o)->(∃ o,h'.get? e=some o/\o.cls=.type "StopIteration")->E (.ref e) { s with heap:=h',toks:=tk }) :
  wpAny (model prog w) A (Builtin.«zip.__next__» ⟨[.ref z],[]⟩) Q E s:=by
 change wpAny _ _ (field (.ref z) 2 >>= _) _ _ _
 refine wpAny_bind (wpAny_field hz rfl (x:=.bool false) rfl ?_)
 change wpAny _ _ (field (.ref z) 3 >>= _) _ _ _
 refine wpAny_bind (wpAny_field hz rfl (x:=.ref TI) rfl ?_)
 refine wpAny_bind (wpAny_seqItems hI rfl ?_)
 change wpAny _ _ (Builtin.SmallTypes.ownedTupleIsFree (.ref z) >>= _) _ _ _
 refine wpAny_bind ?_
 unfold Builtin.SmallTypes.ownedTupleIsFree
 refine wpAny_bind (wpAny_field hz rfl (x:=.none) rfl (wpAny_pure ?_))
 simp only [if_true]
 refine wpAny_bind (wpAny_rule ?_)
 refine wpAny_bind (wpAny_field hz rfl (x:=.ref TO) rfl ?_)
 refine wpAny_bind (wpAny_setField_rec hz (by simp) λg1 z1 m1=>?_)
 replace z1:IsZip g1 z TI TO .ellipsis:=z1
 refine wpAny_bind ?_
 simp only [List.zipIdx_cons,List.zipIdx_nil,List.forIn_cons,List.forIn_nil]
 refine wpAny_bind (wpAny_bind (wpAny_onRaise ?_))
 change wpAny _ _ (Builtin.SmallTypes.nextOf (.ref i1) >>= _) _ _ _
 have s1':S1 k g1:=D1.frame _ _ _ s1 λc hc o e=>m1.extBut c o (λq=>Z.b1 (q ▸ hc)) e
 by_cases c1:k=n1
 ·subst c1
  refine wpAny_bind (D1.done _ _ _ s1' λg2 e m2 he=>?_)
  obtain ⟨oe,he1,he2⟩:=he
  have z2:IsZip g2 z TI TO .ellipsis:=m2 _ _ Z.a3.symm z1
  have nez:e≠z:=λq=>by subst q; rw [z2] at he1; cases he1; simp at he2
  exact wpAny_setField_rec z2 (by simp) λg3 _ m3=>hE g3 e _ (λc o c1 c2 c3 c4 q=>m3.extBut _ _ c1 (m2 _ _ c3 (m1.extBut _ _ c1 q))) ⟨oe,m3.extBut _ _ nez he1,he2⟩
 ·have c2:k=n2:=ke.resolve_left c1
  subst c2
  refine wpAny_bind (D1.item k _ _ _ (by omega) s1' λx g2 t2 px s12 m2=>wpAny_pure ?_)
  have o2:IsPair g2 TO a b:=m2.extBut _ _ Z.a8 (m1.extBut _ _ Z.a2 hO)
  refine wpAny_bind (wpAny_seqItems o2 rfl ?_)
  refine wpAny_bind (wpAny_updateSeq_pair o2 λg3 o3 m3=>?_)
  refine wpAny_bind (wpAny_letGo (wpAny_pure ?_))
  refine wpAny_bind (wpAny_bind (wpAny_onRaise ?_))
  change wpAny _ _ (Builtin.SmallTypes.nextOf (.ref i2) >>= _) _ _ _
  refine wpAny_bind (D2.done _ _ _ (D2.frame _ _ _ s2 λc hc o e=>m3.extBut c o (λq=>Z.b4 (q ▸ hc)) (m2.extBut c o (λq=>Z.b5 (q ▸ hc)) (m1.extBut c o (λq=>Z.b2 (q ▸ hc)) e))) λg4 e m4 he=>?_)
  obtain ⟨oe,he1,he2⟩:=he
  have z4:IsZip g4 z TI TO .ellipsis:=m4 _ _ Z.a4.symm (m3.extBut _ _ Z.a2.symm (m2.extBut _ _ Z.a3.symm z1))
  have nez:e≠z:=λq=>by subst q; rw [z4] at he1; cases he1; simp at he2
  exact wpAny_setField_rec z4 (by simp) λg5 _ m5=>hE g5 e _ (λc o c1 c2 c3 c4 q=>m5.extBut _ _ c1 (m4 _ _ c4 (m3.extBut _ _ c2 (m2.extBut _ _ c3 (m1.extBut _ _ c1 q))))) ⟨oe,m5.extBut _ _ nez he1,he2⟩
end
abbrev ZX (h:Heap) (t:Addr):Heap:=h.push { cls:=.type "tuple_iterator",data:=.fields #[.ref t,.int 0 0] }
abbrev ZY (h:Heap) (t l:Addr):Heap:=(ZX h t).push { cls:=.type "list_iterator",data:=.fields #[.ref l,.int 0 0] }
abbrev Za (h:Heap) (t l:Addr):Heap:=(ZY h t l).push { cls:=.type "tuple",data:=.seq #[.ref h.objs.size,.ref (ZX h t).objs.size] }
abbrev Zb (h:Heap) (t l:Addr):Heap:=(Za h t l).push { cls:=.type "tuple",data:=.seq #[.none,.none] }
abbrev qz (h:Heap) (t l:Addr):Heap:=(Zb h t l).push { cls:=.type "zip",data:=.fields #[.none,.bool false,.bool false,.ref (ZY h t l).objs.size,.ref (Za h t l).objs.size] }
theorem zJn (t l:Addr) (xs ys:Array Value) :
  Meets (Builtin.«zip.__new__» ⟨[.type "zip",.ref t,.ref l],[]⟩) (λ_ R s=>s.heap.IsTuple t xs/\s.heap.IsList l ys/\R (.ok (.ret (.ref (Zb s.heap t l).objs.size))) { s with heap:=qz s.heap t l }):=
 .of_wp λprog w A R s h=>by
  obtain ⟨hp,g,d,tk,os⟩:=s; obtain ⟨h1,h2,h⟩:=h
  have hsub:=sub_zip
  have e1:Heap.IsTuple (Shared.heap ⟨hp,g,d,tk,os⟩) t xs:=h1
  have e2:Heap.IsList (Shared.heap ⟨hp.push { cls:=.type "tuple_iterator",data:=.fields #[.ref t,.int 0 0] },g,d,tk,os⟩) l ys:=Heap.IsList.push h2 _
  wp_walk using wpAny_pyIter_tuple e1,wpAny_pyIter_list e2
  exact ⟨_,rfl,h⟩
theorem zIt {prog:Program} {w:World} {A:Around} {E:Value->Shared->Prop} {s:Shared} {t l:Addr} {xs ys:Array Value} {Q:Value->Shared->Prop} (h1:s.heap.IsTuple t xs) (h2:s.heap.IsList l ys)
  (h:∀ h',IsZip h' (s.heap.objs.size + 4) (s.heap.objs.size + 2) (s.heap.objs.size + 3) .none->IsPair h' (s.heap.objs.size + 2) (.ref s.heap.objs.size) (.ref (s.heap.objs.size + 1))->IsPair h' (s.heap.objs.size + 3) .none .none->
   h'.IsTupleIter s.heap.objs.size t 0->h'.IsListIter (s.heap.objs.size + 1) l 0->(∀ c o,s.heap.get? c=some o->h'.get? c=some o)->Q (.ref (s.heap.objs.size + 4)) { s with heap:=h' }) :
  wpAny (model prog w) A (call (.type "zip") [.ref t,.ref l]) Q E s:=by
 refine callType_new F.called_zip (by decide) (F.typeCall_zip_2 _ _) (F.newCall_zip_2 _ _) (λobj=>F.args_object_init_3 obj _ _) F.entry_zip_new (zJn t l xs ys) ⟨h1,h2,?_⟩
 have n1:(ZX s.heap t).objs.size=s.heap.objs.size + 1:=Heap.size_push ..
 have n2:(ZY s.heap t l).objs.size=s.heap.objs.size + 2:=by rw [Heap.size_push,n1]
 have n3:(Za s.heap t l).objs.size=s.heap.objs.size + 3:=by rw [Heap.size_push,n2]
 have n4:(Zb s.heap t l).objs.size=s.heap.objs.size + 4:=by rw [Heap.size_push,n3]
 have p5:(qz s.heap t l).get? (Zb s.heap t l).objs.size=some _:=Heap.get?_push_size _ rfl
 have p4:(qz s.heap t l).get? (Za s.heap t l).objs.size=some _:=Heap.get?_push_of_some _ (Heap.get?_push_size _ rfl)
 have p3:(qz s.heap t l).get? (ZY s.heap t l).objs.size=some _:=Heap.get?_push_of_some _ (Heap.get?_push_of_some _ (Heap.get?_push_size _ rfl))
 have p2:(qz s.heap t l).get? (ZX s.heap t).objs.size=some _:=Heap.get?_push_of_some _ (Heap.get?_push_of_some _ (Heap.get?_push_of_some _ (Heap.get?_push_size _ rfl)))
 have p1:(qz s.heap t l).get? s.heap.objs.size=some _:=Heap.get?_push_of_some _ (Heap.get?_push_of_some _ (Heap.get?_push_of_some _ (Heap.get?_push_of_some _ (Heap.get?_push_size _ rfl))))
 change _/\_
 rw [n2,n3,n4] at p5
 rw [n1,n2] at p3
 rw [n3] at p4
 rw [n1] at p2
 rw [n4]
 exact ⟨⟨_,p5,rfl⟩,h _ p5 p3 p4 ⟨_,p1,rfl,rfl⟩ ⟨_,p2,rfl,rfl⟩ λc o x=>Heap.get?_push_of_some _ (Heap.get?_push_of_some _ (Heap.get?_push_of_some _ (Heap.get?_push_of_some _ (Heap.get?_push_of_some _ x))))⟩
section
variable {prog:Program} {w:World} {A:Around} {E:Value->Shared->Prop} {s:Shared}
theorem Zc {z TI TO i1 i2:Addr} {f1 f2:List Addr} {n1 n2 k:Nat} {P1 P2:Nat->Value->Prop} {S1 S2:Nat->Heap->Prop} {a b:Value} {Q:Option Value->Shared->Prop}
  (D1:Draws prog w A.in1 i1 f1 n1 P1 S1) (D2:Draws prog w A.in1 i2 f2 n2 P2 S2) (Z:Zp z TI TO i1 i2 f1 f2) (hz:IsZip s.heap z TI TO .none) (hI:IsPair s.heap TI (.ref i1) (.ref i2)) (hO:IsPair s.heap TO a b)
  (s1:S1 k s.heap) (s2:S2 k s.heap) (k1:k < n1) (k2:k < n2)
  (hQ:∀ x y h' tk,P1 k x->P2 k y->IsZip h' z TI TO (rawInt s.heap.objs.size)->IsPair h' TI (.ref i1) (.ref i2)->IsPair h' TO x y->S1 (k + 1) h'->S2 (k + 1) h'->IsPair h' s.heap.objs.size x y->
   (∀ c o,c≠z->c≠TO->c≠i1->c≠i2->s.heap.get? c=some o->h'.get? c=some o)->Q (some (.ref s.heap.objs.size)) { s with heap:=h',toks:=tk }) :
  wpAny (model prog w) A (pyNext (.ref z)) Q E s:=by
 have ty:s.TypeIs (.ref z) "zip":=⟨_,hz,rfl⟩
 unfold pyNext
 refine wpAny_bind (wpAny_attempt (wpAny_callSpecial?_slot (name:=Str.ofString "__next__") ty F.slot_zip_next (wpAny_call_entry F.slot_zip_next ty F.entry_zip_next ?_ (F.args_zip_next_1 _))))
 exact zMJ D1 D2 Z hz hI hO s1 s2 k1 k2 λx y h' tk c1 c2 c3 c4 c5 c6 c7 c8 c9=>wpAny_pure (hQ x y h' tk c1 c2 c3 c4 c5 c6 c7 c8 c9)
theorem Zd {z TI TO i1 i2:Addr} {f1 f2:List Addr} {n1 n2 k:Nat} {P1 P2:Nat->Value->Prop} {S1 S2:Nat->Heap->Prop} {a b:Value} {Q:Option Value->Shared->Prop}
  (D1:Draws prog w A.in1 i1 f1 n1 P1 S1) (D2:Draws prog w A.in1 i2 f2 n2 P2 S2) (Z:Zp z TI TO i1 i2 f1 f2) (hz:IsZip s.heap z TI TO .none) (hI:IsPair s.heap TI (.ref i1) (.ref i2)) (hO:IsPair s.heap TO a b)
  (s1:S1 k s.heap) (s2:S2 k s.heap) (k1:k<=n1) (k2:k<=n2) (ke:k=n1\/k=n2)
  (hQ:∀ h' tk,(∀ c o,c≠z->c≠TO->c≠i1->c≠i2->s.heap.get? c=some o->h'.get? c=some o)->Q none { s with heap:=h',toks:=tk }) :
  wpAny (model prog w) A (pyNext (.ref z)) Q E s:=by
 have ty:s.TypeIs (.ref z) "zip":=⟨_,hz,rfl⟩
 unfold pyNext
 refine wpAny_bind (wpAny_attempt (wpAny_callSpecial?_slot (name:=Str.ofString "__next__") ty F.slot_zip_next (wpAny_call_entry F.slot_zip_next ty F.entry_zip_next
  (zMI D1 D2 Z hz hI hO s1 s2 k1 k2 ke λh' e tk keep he=>?_) (F.args_zip_next_1 _))))
 obtain ⟨o,ho,hc⟩:=he
 refine wpAny_bind (wpAny_isInstance (T:="StopIteration") (b:=true) ⟨o,ho,hc⟩ isSubtype_stop ?_)
 exact wpAny_pure (hQ _ _ keep)
end
end L2
namespace L2
open PySem PySem.Spec PyProof.Rows
def q9 (K:PySem.W.Frag) (a b:Addr):It:=
 ⟨λi H=>∃ xs ys x y,zT K H a xs/\zJ K H b ys/\xs[i]? = some x/\ys[i]? = some y,
  λi H v H'=>∃ T x y,v=.ref T/\H T=none/\H'=upd H T (.tup [x,y])/\(∀ xs,zT K H a xs->xs[i]? = some x)/\∀ ys,zJ K H b ys->ys[i]? = some y,
  λi H=>∃ xs ys,zT K H a xs/\zJ K H b ys/\i<=xs.length/\i<=ys.length/\(i=xs.length\/i=ys.length)⟩
theorem uT {vs:Array Value} (v:Option Value):Data.fields vs≠Data.cell v:=λz=>by cases z
theorem jt {vs:Array Value} {n:Nat} (v:Option Value):Data.seq vs n≠Data.cell v:=λz=>by cases z
theorem zQ.turnT {X:Cx} {pins:List (Addr × Obj)} {σ:St} {H:Hp} {s:Shared} {h':Heap} {tk:Nat} {ch:List Addr} {T:Addr} {x y:V} {u v:Value} (I:zQ X pins σ H s) (hf:∀ b∈ch,xG X pins H b) (keep:∀ b o,b∉ch->s.heap.get? b=some o->h'.get? b=some o)
  (hT:s.heap.objs.size<=T) (p:IsPair h' T u v) (rx:zq x u) (ry:zq y v):zQ X pins σ (upd H T (.tup [x,y])) { s with heap:=h',toks:=tk }:=by
 have fr:H T=none:=I.hok.fresh hT
 have nT:∀ b o,s.heap.get? b=some o->b≠T:=λb o e z=>by rw [z] at e; exact absurd (Nat.lt_of_lt_of_le (Heap.lt_size e) hT) (Nat.lt_irrefl _)
 have u7:∀ b o,H b=some o->b∉ch:=λb o e z=>by rw [(hf b z).1] at e; cases e
 refine I.step (ch:=ch) (λb hb=>⟨(hf b hb).2.2.2.1,(hf b hb).2.1,(hf b hb).2.2.2.2.1,(hf b hb).2.2.2.2.2⟩) (λb o _ _ hc e _=>keep b o hc e) (λb o _ _ hc e _=>⟨o.slots,keep b o hc e⟩)
  (λb o _ e n=>by rw [yW (nT b o e)]; exact n) (λb o hc e=>⟨o,keep b o hc e⟩) (λb xs e=>by rw [yW (wx e fr)]; exact e) (λb o w e=>by rw [yW (wx e fr)]; exact e)
  (λb ps e=>⟨#[],by rw [yW (wx e fr),e]; simp⟩) (λm hm=>?_) (λb w e=>?_) I.bare
 ·obtain ⟨o,es,ep,ho,r⟩:=hm
  exact ⟨o,es,ep,keep _ o (λz=>(hf _ z).2.1 rfl) ho,r⟩
 ·by_cases hb:b=T
  ·subst hb
   rw [zj] at e
   cases e
   exact ⟨by show 2<=sizeLine; decide,[u,v],.cons rx (.cons ry .nil),⟨_,p,rfl,_,rfl⟩⟩
  ·rw [yW hb] at e
   refine (I.hok b w e).stay (λc q hc ec=>keep c q ?_ ec) (λc ec=>by rw [yW (wx ec fr)]; exact ec) λc xs ec=>by rw [yW (wx ec fr)]; exact ec
   rcases hc with z | z
   ·rw [z]
    exact u7 b w e
   ·exact u7 c _ z
theorem zQ.turnN {X:Cx} {pins:List (Addr × Obj)} {σ:St} {H:Hp} {s:Shared} {h':Heap} {tk:Nat} {ch:List Addr} (I:zQ X pins σ H s) (hf:∀ b∈ch,xG X pins H b) (keep:∀ b o,b∉ch->s.heap.get? b=some o->h'.get? b=some o) :
  zQ X pins σ H { s with heap:=h',toks:=tk }:=by
 have u7:∀ b o,H b=some o->b∉ch:=λb o e z=>by rw [(hf b z).1] at e; cases e
 refine I.step (ch:=ch) (λb hb=>⟨(hf b hb).2.2.2.1,(hf b hb).2.1,(hf b hb).2.2.2.2.1,(hf b hb).2.2.2.2.2⟩) (λb o _ _ hc e _=>keep b o hc e) (λb o _ _ hc e _=>⟨o.slots,keep b o hc e⟩)
  (λb o _ e n=>n) (λb o hc e=>⟨o,keep b o hc e⟩) (λb xs e=>e) (λb o w e=>e) (λb ps e=>⟨#[],by rw [e]; simp⟩) (λm hm=>?_) (λb w e=>?_) I.bare
 ·obtain ⟨o,es,ep,ho,r⟩:=hm
  exact ⟨o,es,ep,keep _ o (λz=>(hf _ z).2.1 rfl) ho,r⟩
 ·refine (I.hok b w e).stay (λc q hc ec=>keep c q ?_ ec) (λc ec=>ec) λc xs ec=>ec
  rcases hc with z | z
  ·rw [z]
   exact u7 b w e
  ·exact u7 c _ z
theorem zMK {P:Program} {w:World} {K:PySem.W.Frag} {es:List Expr} {kk:Nat} {tp:Pos} {a b z TI TO i1 i2:Addr} (Z:Zp z TI TO i1 i2 [i1,a] [i2,b]) (na:a≠i1) (nb:b≠i2) :
  wW P w K (.Tuple es kk tp) (q9 K a b) [z,TI,TO,i1,i2] z (λi h=>IsZip h z TI TO .none/\IsPair h TI (.ref i1) (.ref i2)/\(∃ x y,IsPair h TO x y)/\h.IsTupleIter i1 a i/\h.IsListIter i2 b i) where
 mem:=by simp
 obj:=λi h ⟨t1,t2,⟨x,y,t3⟩,t4,t5⟩ c hc=>by
  simp only [List.mem_cons,List.not_mem_nil,or_false] at hc
  rcases hc with rfl | rfl | rfl | rfl | rfl
  ·exact ⟨_,t1,uT⟩
  ·exact ⟨_,t2,jt⟩
  ·exact ⟨_,t3,jt⟩
  ·obtain ⟨o,e,_,d⟩:=t4
   exact ⟨o,e,by rw [d]; exact uT⟩
  ·obtain ⟨o,e,_,d⟩:=t5
   exact ⟨o,e,by rw [d]; exact uT⟩
 keep:=λi h h' ⟨t1,t2,⟨x,y,t3⟩,t4,t5⟩ k=>⟨k z (by simp) _ t1,k TI (by simp) _ t2,⟨x,y,k TO (by simp) _ t3⟩,(by obtain ⟨o,e,r⟩:=t4; exact ⟨o,k i1 (by simp) o e,r⟩),(by obtain ⟨o,e,r⟩:=t5; exact ⟨o,k i2 (by simp) o e,r⟩)⟩
 item:=by
  intro X hP hw hK hc i pins s σ H E I hf ⟨t1,t2,⟨x0,y0,t3⟩,t4,t5⟩ hg
  subst hP hw hK
  obtain ⟨xs,ys,x,y,hq1,hq2,hx,hy⟩:=hg
  obtain ⟨its1,rv1,p1,_⟩:=I.tuple hq1
  obtain ⟨its2,rv2,p2,_⟩:=I.list hq2
  obtain ⟨u,hu,ru⟩:=rv1.get hx
  obtain ⟨v,hv,rv⟩:=rv2.get hy
  have hh:X.A.in1.handled=none:=I.ok.hd hc
  have l1:i < its1.toArray.size:=by rw [List.size_toArray]; exact (List.getElem?_eq_some_iff.mp hu).1
  have l2:i < its2.toArray.size:=by rw [List.size_toArray]; exact (List.getElem?_eq_some_iff.mp hv).1
  refine Zc (js hh i1 a na its1.toArray) (Draws.list hh i2 b nb its2.toArray) Z t1 t2 t3 ⟨t4,p1⟩ ⟨t5,p2.isList⟩ l1 l2 ?_
  intro x' y' h1 tk px py z1 z2 z3 z4 z5 z6 keep
  have ex:x'=u:=by
   have q:its1.toArray[i]? = some x':=px
   simp only [List.getElem?_toArray] at q
   rw [hu] at q
   exact (Option.some.inj q).symm
  have ey:y'=v:=by
   have q:its2.toArray[i]? = some y':=py
   simp only [List.getElem?_toArray] at q
   rw [hv] at q
   exact (Option.some.inj q).symm
  subst ex ey
  refine ⟨_,rfl,wpAny_letOwnedTupleGo_zip (s:={ s with heap:=h1,toks:=tk }) z1 λh2 z7 sb=>?_⟩
  have zlt:z < s.heap.objs.size:=Heap.lt_size t1
  have keep2:∀ c o,c∉[z,TI,TO,i1,i2]->s.heap.get? c=some o->h2.get? c=some o:=λc o hc e=>by
   simp only [List.mem_cons,List.not_mem_nil,or_false,not_or] at hc
   exact sb.extBut c o hc.1 (keep c o hc.1 hc.2.2.1 hc.2.2.2.1 hc.2.2.2.2 e)
  have pT:IsPair h2 s.heap.objs.size x' y':=sb.extBut _ _ (Nat.ne_of_gt zlt) z6
  have I':=I.turnT (h':=h2) (tk:=tk) (ch:=[z,TI,TO,i1,i2]) (x:=x) (y:=y) hf keep2 (Nat.le_refl _) pT ru rv
  refine ⟨.ref s.heap.objs.size,_,I',rfl,⟨s.heap.objs.size,x,y,rfl,I.hok.fresh (Nat.le_refl _),rfl,λxs' q=>by rw [I.tuple_inj q hq1]; exact hx,λys' q=>by rw [I.list_inj q hq2]; exact hy⟩,
   ⟨z7,sb.extBut _ _ Z.a1 z2,⟨_,_,sb.extBut _ _ Z.a2 z3⟩,z4.1.extBut sb.extBut Z.a3,z5.1.extBut sb.extBut Z.a4⟩,λc hc=>?_⟩
  have:=(hf c hc).1
  rw [yW]
  ·exact this
  ·intro q
   obtain ⟨o,e,_⟩:∃ o,s.heap.get? c=some o/\True:=by
    simp only [List.mem_cons,List.not_mem_nil,or_false] at hc
    rcases hc with rfl | rfl | rfl | rfl | rfl
    ·exact ⟨_,t1,trivial⟩
    ·exact ⟨_,t2,trivial⟩
    ·exact ⟨_,t3,trivial⟩
    ·obtain ⟨o,e,_⟩:=t4; exact ⟨o,e,trivial⟩
    ·obtain ⟨o,e,_⟩:=t5; exact ⟨o,e,trivial⟩
   rw [q] at e
   exact absurd (Heap.lt_size e) (Nat.lt_irrefl _)
 done:=by
  intro X hP hw hK hc i pins s σ H E I hf ⟨t1,t2,⟨x0,y0,t3⟩,t4,t5⟩ hg
  subst hP hw hK
  obtain ⟨xs,ys,hq1,hq2,e1,e2,e3⟩:=hg
  obtain ⟨its1,rv1,p1,_⟩:=I.tuple hq1
  obtain ⟨its2,rv2,p2,_⟩:=I.list hq2
  have hh:X.A.in1.handled=none:=I.ok.hd hc
  have n1:its1.toArray.size=xs.length:=by rw [List.size_toArray]; exact rv1.length.symm
  have n2:its2.toArray.size=ys.length:=by rw [List.size_toArray]; exact rv2.length.symm
  refine Zd (js hh i1 a na its1.toArray) (Draws.list hh i2 b nb its2.toArray) Z t1 t2 t3 ⟨t4,p1⟩ ⟨t5,p2.isList⟩ (by omega) (by omega) (by omega) ?_
  intro h1 tk keep
  refine ⟨rfl,I.turnN (h':=h1) (tk:=tk) (ch:=[z,TI,TO,i1,i2]) hf λc o hc e=>?_⟩
  simp only [List.mem_cons,List.not_mem_nil,or_false,not_or] at hc
  exact keep c o hc.1 hc.2.2.1 hc.2.2.2.1 hc.2.2.2.2 e
 self:=λ_ _ _ _ _ st h=>wpAny_pyIter_zip st.1 h
theorem uU {x y z:Nat} (h1:x≠y) (h2:x≠z):x∉[y,z]:=by simp [h1,h2]
theorem Ze (n a b:Nat) (la:a < n) (lb:b < n):Zp (n + 4) (n + 2) (n + 3) n (n + 1) [n,a] [n + 1,b]:=by
 have e:∀ x y:Nat,x≠y->(x:Addr)≠y:=λ_ _ h=>h
 exact ⟨e _ _ (by omega),e _ _ (by omega),e _ _ (by omega),e _ _ (by omega),e _ _ (by omega),e _ _ (by omega),e _ _ (by omega),e _ _ (by omega),e _ _ (by omega),
  uU (by omega) (by omega),uU (by omega) (by omega),uU (by omega) (by omega),uU (by omega) (by omega),uU (by omega) (by omega),uU (by omega) (by omega)⟩
section
variable {X:Cx} {es:List Expr} {kk:Nat} {tp:Pos}
end
theorem zN0 {K:PySem.W.Frag} {a b:Addr} {xs ys:List V} {g:TG} {tb:TS} {D:xx} {σ:St} {H:Hp} (Pv:Nat->St->Hp->Prop) (h0:Pv 0 σ H) (hl:∀ i σ H,i<=xs.length->Pv i σ H->zT K H a xs/\zJ K H b ys) (hlen:xs.length<=ys.length)
  (hs:∀ i x y T σ H,xs[i]? = some x->ys[i]? = some y->H T=none->Pv i σ H->g (.ref T) σ (upd H T (.tup [x,y])) λσ2 H2=>tb { D with nx:=Pv (i + 1),ct:=Pv (i + 1),bk:=D.nx } σ2 H2) (hd:∀ σ H,Pv xs.length σ H->D.nx σ H) :
  ∃ W:Nat->Nat->St->Hp->Prop,(∃ m,W 0 m σ H)/\∀ i m σ H,W i m σ H->
   ((q9 K a b).stop i H/\D.nx σ H)\/((q9 K a b).go i H/\∃ N:St->Hp->Prop,(∀ σ' H',N σ' H'->∃ m',m' < m/\W (i + 1) m' σ' H')/\∀ x H',(q9 K a b).yld i H x H'->g x σ H' λσ2 H2=>tb { D with nx:=N,ct:=N,bk:=D.nx } σ2 H2):=by
 refine ⟨λi m σ H=>m=xs.length - i/\i<=xs.length/\Pv i σ H,⟨xs.length,by simp,Nat.zero_le _,h0⟩,?_⟩
 rintro i m σ H ⟨rfl,hi,p⟩
 obtain ⟨q1,q2⟩:=hl i σ H hi p
 by_cases hlt:i < xs.length
 ·have hlt2:i < ys.length:=by omega
  refine .inr ⟨⟨xs,ys,xs[i],ys[i],q1,q2,by simp [hlt],by simp [hlt2]⟩,Pv (i + 1),λσ' H' p'=>⟨xs.length - (i + 1),by omega,rfl,hlt,p'⟩,λv H' y=>?_⟩
  obtain ⟨T,x,y,rfl,hT,rfl,c1,c2⟩:=y
  exact hs i x y T σ H (c1 xs q1) (c2 ys q2) hT p
 ·have e:i=xs.length:=by omega
  subst e
  exact .inl ⟨⟨xs,ys,q1,q2,Nat.le_refl _,hlen,.inl rfl⟩,hd σ H p⟩
end L2
namespace L2
open PySem PySem.Spec PyProof.Rows
section
variable {κ:Type} [DecidableEq κ]
def wG (kvs:List (κ × V)) (k:κ):Option V:=(kvs.find? λkv=>decide (kv.1=k)).map (·.2)
def xO (kvs:List (κ × V)) (k:κ) (v:V):List (κ × V):=
 if (kvs.any λkv=>decide (kv.1=k))=true then kvs.map (λkv=>if kv.1=k then (kv.1,v) else kv) else kvs++[(k,v)]
theorem Zf {p:κ × V} {r:List (κ × V)} {k:κ} (e:p.1=k):wG (p :: r) k=some p.2:=by simp [wG,List.find?_cons,e]
theorem Zg {p:κ × V} {r:List (κ × V)} {k:κ} (e:¬ p.1=k):wG (p :: r) k=wG r k:=by simp [wG,List.find?_cons,e]
theorem Xb (k:κ):∀ kvs:List (κ × V),(kvs.any λkv=>decide (kv.1=k))=(wG kvs k).isSome
 | []=>rfl
 | p :: r=>by
  rw [List.any_cons]
  by_cases e:p.1=k
  ·simp only [Zf e,decide_eq_true e,Bool.true_or,Option.isSome_some]
  ·rw [Zg e,decide_eq_false e,Bool.false_or]; exact Xb k r
theorem QR (kvs:List (κ × V)) (k:κ) (v:V):(xO kvs k v).length<=kvs.length + 1:=by
 unfold xO
 split
 ·rw [List.length_map]; omega
 ·rw [List.length_append,List.length_cons,List.length_nil]; omega
theorem xb.isSome_eq {o:Option V} {u:Option Value} (r:xb o u):o.isSome=u.isSome:=by
 cases o with
 | none=>cases u with
  | none=>rfl
  | some _=>exact (show False from r).elim
 | some _=>cases u with
  | none=>exact (show False from r).elim
  | some _=>rfl
theorem KV.val {kvs:List (κ × V)} {vs:List (κ × Value)} (r:KV kvs vs) (k:κ):xb (wG kvs k) (valueAt vs k):=by
 unfold KV at r
 induction r with
 | nil=>exact True.intro
 | @cons p q ps qs h t ih=>
  obtain ⟨h1,h2⟩:=h
  by_cases e:p.1=k
  ·have e':q.1=k:=h1.symm.trans e
   have b:valueAt (q :: qs) k=some q.2:=by simp [valueAt,List.find?_cons,e']
   rw [Zf e,b]; exact h2
  ·have e':¬ q.1=k:=λz=>e (h1.trans z)
   have b:valueAt (q :: qs) k=valueAt qs k:=by simp [valueAt,List.find?_cons,e']
   rw [Zg e,b]; exact ih
theorem KV.any {kvs:List (κ × V)} {vs:List (κ × Value)} (r:KV kvs vs) (k:κ):(kvs.any λkv=>decide (kv.1=k))=vs.any λkv=>decide (kv.1=k):=by
 unfold KV at r
 induction r with
 | nil=>rfl
 | cons h t ih=>rw [List.any_cons,List.any_cons,ih,h.1]
theorem KV.repl {kvs:List (κ × V)} {vs:List (κ × Value)} (r:KV kvs vs) (k:κ) {y:V} {u:Value} (ry:zq y u) :
  KV (kvs.map λkv=>if kv.1=k then (kv.1,y) else kv) (vs.map λkv=>if kv.1=k then (kv.1,u) else kv):=by
 unfold KV at r |-
 induction r with
 | nil=>exact .nil
 | @cons p q ps qs h t ih=>
  rw [List.map_cons,List.map_cons]
  refine .cons ?_ ih
  obtain ⟨h1,h2⟩:=h
  by_cases e:p.1=k
  ·rw [if_pos e,if_pos (h1.symm.trans e)]; exact ⟨h1,ry⟩
  ·rw [if_neg e,if_neg (λz=>e (h1.trans z))]; exact ⟨h1,h2⟩
theorem KV.put {kvs:List (κ × V)} {vs:List (κ × Value)} (r:KV kvs vs) (k:κ) {y:V} {u:Value} (ry:zq y u):KV (xO kvs k y) (stored vs k u):=by
 unfold xO stored
 rw [r.any k]
 by_cases e:(vs.any λkv=>decide (kv.1=k))=true
 ·rw [if_pos e,if_pos e]; exact r.repl k ry
 ·rw [if_neg e,if_neg e]; exact Paired.snoc r ⟨rfl,ry⟩
theorem KV.length {kvs:List (κ × V)} {vs:List (κ × Value)} (r:KV kvs vs):kvs.length=vs.length:=Paired.length r
end
theorem Zh {P:Program} {w:World} {k:ye} {u:Value} (r:zq (kV k) u):(uD P w).is k u=true:=by
 cases k with
 | inl i=>obtain ⟨t,e⟩:=(show ∃ t,u=Value.int i t from r); subst e; exact Ky P w i t
 | inr x=>obtain ⟨t,e⟩:=(show ∃ t,u=Value.str x t from r); subst e; exact Kz P w x t
theorem QS {P:Program} {w:World}:∀ {ks:List ye} {us:List Value},zf (ks.map kV) us->ItemsAre (uD P w) ks us
 | [],_,r=>by rw [List.map_nil] at r; cases r; exact .nil
 | k :: ks,_,r=>by
  rw [List.map_cons] at r
  cases r with
  | cons h t=>exact .cons (Zh h) (QS t)
abbrev KT (H:Hp):List (List ye × V)->List (List ye × Addr × Value)->Prop:=Paired λp q=>p.1=q.1/\H q.2.1=some (.tup (p.1.map kV))/\zq p.2 q.2.2
theorem KT.val {H:Hp} {kvs:List (List ye × V)} {xs:List (List ye × Addr × Value)} (r:KT H kvs xs) (k:List ye):xb (wG kvs k) ((atKey xs k).map (·.2)):=by
 induction r with
 | nil=>exact True.intro
 | @cons p q ps qs h t ih=>
  obtain ⟨h1,_,h2⟩:=h
  by_cases e:p.1=k
  ·have e':q.1=k:=h1.symm.trans e
   have b:atKey (q :: qs) k=some q.2:=by simp [atKey,List.find?_cons,e']
   rw [Zf e,b]; exact h2
  ·have e':¬ q.1=k:=λz=>e (h1.trans z)
   have b:atKey (q :: qs) k=atKey qs k:=by simp [atKey,List.find?_cons,e']
   rw [Zg e,b]; exact ih
theorem KT.repl {H:Hp} {kvs:List (List ye × V)} {xs:List (List ye × Addr × Value)} (r:KT H kvs xs) (k:List ye) {y:V} {u:Value} (ry:zq y u) :
  KT H (kvs.map λkv=>if kv.1=k then (kv.1,y) else kv) (xs.map (putAt k u)):=by
 induction r with
 | nil=>exact .nil
 | @cons p q ps qs h t ih=>
  rw [List.map_cons,List.map_cons]
  refine .cons ?_ ih
  obtain ⟨h1,h2,h3⟩:=h
  unfold putAt
  by_cases e:p.1=k
  ·rw [if_pos e,if_pos (h1.symm.trans e)]; exact ⟨h1,h2,ry⟩
  ·rw [if_neg e,if_neg (λz=>e (h1.trans z))]; exact ⟨h1,h2,h3⟩
theorem KT.put {H:Hp} {kvs:List (List ye × V)} {xs:List (List ye × Addr × Value)} (r:KT H kvs xs) (k:List ye) {b:Addr} {y:V} {u:Value} (hb:H b=some (.tup (k.map kV))) (ry:zq y u) :
  KT H (xO kvs k y) (storedH xs k b u):=by
 have e:(kvs.any λkv=>decide (kv.1=k))=(atKey xs k).isSome:=by
  rw [Xb,(r.val k).isSome_eq,Option.isSome_map]
 unfold xO storedH
 rw [e]
 by_cases q:(atKey xs k).isSome=true
 ·rw [if_pos q,if_pos q]; exact r.repl k ry
 ·rw [if_neg q,if_neg q]; exact Paired.snoc r ⟨rfl,hb,ry⟩
theorem KT.keeps {H H':Hp} {kvs:List (List ye × V)} {xs:List (List ye × Addr × Value)} (r:KT H kvs xs) (ht:∀ b ys,H b=some (.tup ys)->H' b=some (.tup ys)):KT H' kvs xs:=
 Paired.mapP r λ_ _ z=>⟨z.1,ht _ _ z.2.1,z.2.2⟩
section
variable {P:Program} {w:World} {H:Hp} {h:Heap} {a:Addr}
theorem QT {u:HO} (ok:xI P w H h) (e:Rd H a u):xV P w H h a u:=e.ok ok
theorem Zi {kvs:List (ye × V)} (ok:xI P w H h) (e:Rd H a (.dK kvs)):kvs.length<=sizeLine/\(a == sysModules)=false/\∃ vs,KV kvs vs/\h.DictOf (uD P w) a vs:=
 show xV P w H h a (.dK kvs) from QT ok e
theorem g9 {kvs:List (ye × V)} (ok:xI P w H h) (e:H a=some (.dK kvs)):kvs.length<=sizeLine/\(a == sysModules)=false/\∃ vs,KV kvs vs/\h.DictOf (uD P w) a vs:=Zi ok (.inl e)
theorem Zj {ks:List ye} (ok:xI P w H h) (e:H a=some (.tup (ks.map kV))):(tupleKind (uD P w)).is h ks a:=by
 obtain ⟨_,its,r,o,h1,h2,n,h3⟩:=(show xV P w H h a (.tup (ks.map kV)) from ok a _ e)
 exact ⟨o,its.toArray,n,h1,h2,h3,by simpa using QS r⟩
theorem Zk {kvs:List (List ye × V)} (ok:xI P w H h) (e:Rd H a (.dT kvs)):kvs.length<=sizeLine/\(a == sysModules)=false∧
  ∃ xs,KT H kvs xs/\h.DictOfH (tupleKind (uD P w)) a xs:=by
 obtain ⟨z,y,xs,r,o,es,ep,h1,h2,h3,h4,h5⟩:=(show xV P w H h a (.dT kvs) from QT ok e)
 refine ⟨z,y,xs,r,o,es,ep,h1,h2,h3,h4,λx hx=>?_,h5⟩
 have all:∀ {l:List (List ye × V)} {m:List (List ye × Addr × Value)},KT H l m->∀ x∈m,(tupleKind (uD P w)).is h x.1 x.2.1:=by
  intro l m q
  induction q with
  | nil=>intro x hx; exact nomatch hx
  | @cons p q ps qs hq t ih=>
   intro x hx
   rcases List.mem_cons.mp hx with e | hx
   ·subst e
    exact Zj ok (by rw [<- hq.1]; exact hq.2.1)
   ·exact ih x hx
 exact all r x hx
theorem kA {kvs:List (List ye × V)} (ok:xI P w H h) (e:H a=some (.dT kvs)):kvs.length<=sizeLine/\(a == sysModules)=false∧
  ∃ xs,KT H kvs xs/\h.DictOfH (tupleKind (uD P w)) a xs:=Zk ok (.inl e)
end
def wm (H:Hp) (a:Addr) (y:V) (r:Option V):Prop:=
 (∃ kvs k,Rd H a (.dK kvs)/\y=kV k/\r=wG kvs k)\/∃ kvs k b,Rd H a (.dT kvs)/\y=.ref b/\H b=some (.tup (k.map kV))/\r=wG kvs k
def uV (H:Hp) (a:Addr) (y v:V) (H':Hp):Prop:=
 (∃ kvs k,H a=some (.dK kvs)/\y=kV k/\kvs.length < sizeLine/\H'=upd H a (.dK (xO kvs k v)))∨
 ∃ kvs k b,H a=some (.dT kvs)/\y=.ref b/\H b=some (.tup (k.map kV))/\kvs.length < sizeLine/\H'=upd H a (.dT (xO kvs k v))
theorem wm.t {H:Hp} {a b:Addr} {kvs:List (List ye × V)} {k:List ye} (e:H a=some (.dT kvs)) (eb:H b=some (.tup (k.map kV))):wm H a (.ref b) (wG kvs k):=.inr ⟨kvs,k,b,.inl e,rfl,eb,rfl⟩
theorem uV.t {H:Hp} {a b:Addr} {kvs:List (List ye × V)} {k:List ye} {v:V} (e:H a=some (.dT kvs)) (eb:H b=some (.tup (k.map kV))) (hl:kvs.length < sizeLine) :
  uV H a (.ref b) v (upd H a (.dT (xO kvs k v))):=.inr ⟨kvs,k,b,e,rfl,eb,hl,rfl⟩
section
variable {X:Cx} {pins:List (Addr × Obj)} {σ:St} {H:Hp} {s:Shared} {a:Addr} {y v:V} {u r:Value} {o:Option V} {A:Around} {E:Value->Shared->Prop}
theorem zQ.big (I:zQ X pins σ H s):sysModules < s.heap.objs.size:=by
 have h:mainGlobals < s.heap.objs.size:=(I.mod.glob.keeps I.bk).lt
 exact Nat.lt_trans (by decide) h
theorem zLy {Q:Value->Shared->Prop} (hu:A.units + 1 < cLine) (I:zQ X pins σ H s) (g:wm H a y (some v)) (ry:zq y u) (h:∀ w' s',zQ X pins σ H s'->zq v w'->Q w' s') :
  wpAny (model X.prog X.w) A (getItem (.ref a) u) Q E s:=by
 rcases g with ⟨kvs,k,e,ey,l⟩ | ⟨kvs,k,b,e,ey,eb,l⟩
 ·subst ey
  obtain ⟨z,hd,vs,rel,dd⟩:=Zi I.hok e
  obtain ⟨w',hw,rw'⟩:=xb.some_of (v:=v) (o:=valueAt vs k) (by rw [l]; exact rel.val k)
  exact wpAny_getItem_of (Zh ry) dd.mapOf hw (h w' _ (I.tok _) rw')
 ·subst ey
  cases (show u=Value.ref b from ry)
  obtain ⟨z,hd,xs,rel,dd⟩:=Zk I.hok e
  obtain ⟨w',hw,rw'⟩:=xb.some_of (v:=v) (o:=(atKey xs k).map (·.2)) (by rw [l]; exact rel.val k)
  obtain ⟨p,hp,hp2⟩:=Option.map_eq_some_iff.mp hw
  refine wpAny_getItem_heap (tupleKind_room_in1 hu) (Zj I.hok eb) dd hp ?_
  rw [hp2]
  exact h w' _ (I.tok _) rw'
theorem zN6 {Q:Value->Shared->Prop} (hu:A.units + 1 < cLine) (I:zQ X pins σ H s) (g:wm H a y o) (ry:zq y u) (h:∀ s',zQ X pins σ H s'->Q (.bool (!o.isSome)) s') :
  wpAny (model X.prog X.w) A (compareOp .NotIn u (.ref a)) Q E s:=by
 rcases g with ⟨kvs,k,e,ey,l⟩ | ⟨kvs,k,b,e,ey,eb,l⟩
 ·subst ey
  obtain ⟨z,hd,vs,rel,dd⟩:=Zi I.hok e
  refine wpAny_notIn_of (Zh ry) hd dd.mapOf ?_
  rw [<- (rel.val k).isSome_eq,<- l]
  exact h _ (I.tok _)
 ·subst ey
  cases (show u=Value.ref b from ry)
  obtain ⟨z,hd,xs,rel,dd⟩:=Zk I.hok e
  refine wpAny_notIn_heap (tupleKind_room_in1 hu) (Zj I.hok eb) hd dd ?_
  have q:=(rel.val k).isSome_eq
  rw [Option.isSome_map] at q
  rw [<- q,<- l]
  exact h _ (I.tok _)
theorem QU {h':Heap} {t':Nat} {ob:HO} (I:zQ X pins σ H s) (mu:gT (H a)) (hs:Heap.SameBut a s.heap h') (he:∃ q,h'.get? a=some q) (new:xV X.prog X.w (upd H a ob) h' a ob) :
  zQ X pins σ (upd H a ob) { s with heap:=h',toks:=t' }:=
 I.write (x:=a) (e:=a) mu (.inl rfl) (λb q hb z=>(hs.2 b hb).trans z) he new
theorem zO3 {P:Program} {w:World} {H':Hp} {h':Heap} {kvs:List (ye × V)} {vs:List (ye × Value)} (z:kvs.length<=sizeLine) (hd:(a == sysModules)=false) (rel:KV kvs vs) (dd:h'.DictOf (uD P w) a vs) :
  xV P w H' h' a (.dK kvs):=⟨z,hd,vs,rel,dd⟩
theorem zLx {H':Hp} {Q:Unit->Shared->Prop} (hu:A.units + 1 < cLine) (I:zQ X pins σ H s) (g:uV H a y v H') (ry:zq y u) (rv:zq v r) (h:∀ s',zQ X pins σ H' s'->Q () s') :
  wpAny (model X.prog X.w) A (setItem (.ref a) u r) Q E s:=by
 rcases g with ⟨kvs,k,e,ey,l,eH⟩ | ⟨kvs,k,b,e,ey,eb,l,eH⟩
 ·subst ey eH
  obtain ⟨z,hd,vs,rel,dd⟩:=g9 I.hok e
  have hz:vs.length<=sizeLine:=by rw [<- rel.length]; exact z
  have hl:(xO kvs k v).length<=sizeLine:=by have:=QR kvs k v; omega
  refine wpAny_setItem_pairs (hsz:=hz) (Zh ry) dd λh' dd' hs=>h _ ?_
  have he:∃ q,h'.get? a=some q:=let ⟨q,_,_,hq,_⟩:=dd'; ⟨q,hq⟩
  exact QU I (by rw [e]; exact True.intro) hs he (zO3 hl hd (rel.put k rv) dd')
 ·subst ey eH
  cases (show u=Value.ref b from ry)
  obtain ⟨z,hd,xs,rel,dd⟩:=kA I.hok e
  have hz:xs.length<=sizeLine:=by rw [<- Paired.length rel]; exact z
  have hl:(xO kvs k v).length<=sizeLine:=by have:=QR kvs k v; omega
  refine wpAny_setItem_heap (hsz:=hz) (tupleKind_room_in1 hu) (Zj I.hok eb) dd λh' dd' hs=>h _ ?_
  obtain ⟨q,es,ep,hq,h2,h3,h4,_,h5⟩:=dd'
  refine QU I (by rw [e]; exact True.intro) hs ⟨q,hq⟩ ⟨hl,hd,_,(rel.put k eb rv).keeps λc ys ec=>?_,q,es,ep,hq,h2,h3,h4,h5⟩
  rw [yW (gS ec e (λz=>nomatch z))]
  exact ec
end
section
variable {X:Cx} {pins:List (Addr × Obj)} {σ:St} {H:Hp} {s:Shared} {a:Addr} {kvs:List (ye × V)} {k:ye} {u:Value} {A:Around} {E:Value->Shared->Prop}
end
def kB (i:Expr):Prop:=∀ ov iv,subscripted i false ov iv=operate [ov,iv] (getItem ov iv)
theorem zNS {prog:Program} {w:World} {A:Around} {E:Value->Shared->Prop} {s:Shared} {env:Env} {value slice:Expr} {pos:Pos} {T id:String} {Q:Value->Shared->Prop}
  (hl:typeLookup (.type T) "__getitem__" = pure (some (.builtin id))) (hs:kB slice)
  (h:wpAny (model prog w) A (eval value env) (λo s₁=>wpAny (model prog w) A (eval slice env) (λi s₂=>s₂.TypeIs o T/\wpAny (model prog w) A (getItem o i) Q E s₂) E s₁) E s) :
  wpAny (model prog w) A (eval (.Subscript value slice pos) env) Q E s:=by
 refine Subscript_ (wpAny_mono h (λo s₁ h₁=>wpAny_mono h₁ (λi s₂ h₂=>?_) λ_ _ x=>x) λ_ _ x=>x)
 obtain ⟨hT,h₂⟩:=h₂
 unfold subscriptTail
 refine wpAny_bind ?_
 rw [getitemInPython_of_ne hT.not_modules]
 refine wpAny_bind (wpAny_specialOf hT hl ?_)
 have fin:wpAny (model prog w) A (subscripted slice false o i) (λr s₃=>wpAny (model prog w) A (letTemporaryGo value o r >>= λ_=>pure r) Q E s₃) E s₂:=by
  rw [hs o i]
  exact wpAny_operating (wpAny_mono h₂ (λr s₃ h₃=>wpAny_bind (wpAny_letTemporaryGo (wpAny_pure h₃))) λ_ _ x=>x)
 first
  | exact wpAny_pure (wpAny_bind fin)
  | exact wpAny_bind (wpAny_pure (wpAny_bind fin))
  | exact wpAny_bind fin
theorem zIq {X:Cx} {pins:List (Addr × Obj)} {σ:St} {H:Hp} {s:Shared} {a:Addr} {y:V} {o:Option V} (I:zQ X pins σ H s) (g:wm H a y o):s.TypeIs (.ref a) "dict":=by
 rcases g with ⟨kvs,k,e,_,_⟩ | ⟨kvs,k,b,e,_,_,_⟩
 ·obtain ⟨_,_,vs,_,dd⟩:=Zi I.hok e
  exact dd.typeIs
 ·obtain ⟨_,_,xs,_,dd⟩:=Zk I.hok e
  exact dd.typeIs
def kC (td ty:TE):TE:=λσ H Q=>td σ H λx H1=>ty σ H1 λy H2=>∃ a v,x=.ref a/\wm H2 a y (some v)/\Q v H2
def zNR (ty td:TE):TE:=λσ H Q=>ty σ H λy H1=>td σ H1 λx H2=>∃ a o,x=.ref a/\wm H2 a y o/\Q (.bl (!o.isSome)) H2
def kD (td ty tv:TE):TS:=λD σ H=>tv σ H λv H1=>td σ H1 λx H2=>ty σ H2 λy H3=>∃ a H4,x=.ref a/\uV H3 a y v H4/\D.nx σ H4
section
variable {X:Cx} {o i e value:Expr} {pos pos' tpos:Pos} {td ty tv:TE}
theorem zNf (hu:X.A.units + 1 < cLine) (ho:PE X o td) (hi:PE X i ty) (hs:kB i):PE X (.Subscript o i pos) (kC td ty):=by
 intro pins s σ H Q I h
 refine zNS PySem.F.slot_dict_getitem.lookup hs (yQ (ho pins s σ H _ I h) λu s1 ⟨x,H1,I1,rx,q1⟩=>yQ (hi pins s1 σ H1 _ I1 q1) λiv s2 ⟨y,H2,I2,ry,a,v,ex,g,q2⟩=>?_)
 subst ex
 obtain rfl:u=Value.ref a:=rx
 exact ⟨zIq I2 g,zLy hu I2 g ry λw' s3 I3 rw'=>⟨v,H2,I3,rw',q2⟩⟩
theorem zK8 (hu:X.A.units + 1 < cLine) (hi:PE X i ty) (ho:PE X o td):PC X .NotIn i o (zNR ty td):=by
 intro pins s σ H Q I h
 refine yQ (hi pins s σ H _ I h) λiv s1 ⟨y,H1,I1,ry,q1⟩=>yQ (ho pins s1 σ H1 _ I1 q1) λu s2 ⟨x,H2,I2,rx,a,ov,ex,g,q2⟩=>?_
 subst ex
 obtain rfl:u=Value.ref a:=rx
 exact zN6 hu I2 g ry λs3 I3=>⟨.bl (!ov.isSome),H2,I3,rfl,q2⟩
theorem zNd (hu:X.A.units + 1 < cLine) (ho:PE X o td) (hi:PE X i ty) (hv:PE X value tv) (hs:swapsWith value (some (.Subscript o i pos')) pos.line X.env=pure false) :
  PS X (.Assign [.Subscript o i pos'] value pos) (kD td ty tv):=by
 intro pins s σ H D I h
 refine wpAny_Assign_Subscript (yQ (hv pins s σ H _ I h) λr s1 ⟨v,H1,I1,rv,q1⟩=>yQ (ho pins s1 σ H1 _ I1 q1) λu s2 ⟨x,H2,I2,rx,q2⟩=>yQ (hi pins s2 σ H2 _ I2 q2) λiv s3 ⟨y,H3,I3,ry,a,H4,ex,g,q3⟩=>?_) hs
 subst ex
 obtain rfl:u=Value.ref a:=rx
 exact zLx hu I3 g ry rv λs4 I4=>⟨σ,H4,I4,q3⟩
end
theorem zMq {P:Program} {w:World} {H:Hp} (h:Heap) (hb:sysModules < h.objs.size):xV P w H (h.push { cls:=.type "dict",data:=.dict #[] }) h.objs.size (.dT []):=
 ⟨Nat.zero_le _,beq_eq_false_iff_ne.mpr (Ne.symm (Nat.ne_of_lt hb)),[],.nil,_,#[],0,Heap.get?_push_size _ rfl,⟨rfl,rfl,rfl⟩,rfl,rfl,List.nodup_nil⟩
def zOQ:TE:=λ_ H Q=>∀ p,H p=none->Q (.ref p) (upd H p (.dT []))
section
variable {X:Cx} {pos:Pos}
theorem zMV:PE X (.Dict [] [] pos) zOQ:=λpins s σ H Q I h=>
 wpAny_Dict_empty ⟨.ref s.heap.objs.size,_,I.laid (a:=s.heap.objs.size) (o:=.dT []) (t':=s.toks) (λ_ _ q=>Heap.get?_push_of_some _ q) (Nat.le_refl _) (zMq s.heap I.big),rfl,h _ (I.hok.fresh (Nat.le_refl _))⟩
end
end L2
namespace L2
open PySem
section
variable {prog:Program} {w:World} {A:Around} {R:Result->Shared->Prop} {s:Shared}
theorem zIr {elt target iter cond:Expr} {scope:Scope} {pos:Pos} {it acc:Value} {env:Env} (Wd:Nat->Shared->Prop)
  (turn:∀ n s,Wd n s->wpAny (model prog w) A (pyNext it) (λr s1=>match r with
   | none=>R (.ok .next) s1
   | some v=>wpAny (model prog w) A (letOwnedTupleGo target it v) (λ_ s2=>wpAny (model prog w) A (assign target env v) (λ_ s3=>wpAny (model prog w) A (isTrue cond env (eval cond env)) (λok s4=>
     if ok=true then wpAny (model prog w) A (eval elt env) (λx s5=>wpAny (model prog w) A (call (.builtin "list.append") [acc,x]) (λ_ s6=>∃ m,m < n/\Wd m s6) (λ_ _=>False) s5) (λ_ _=>False) s4
     else ∃ m,m < n/\Wd m s4) (λ_ _=>False) s3) (λ_ _=>False) s2) (λ_ _=>False) s1) (λ_ _=>False) s)
  (n:Nat) (h:Wd n s):codeAny (model prog w) A (.compLoop (.ListComp elt [⟨target,iter,[cond],0⟩] scope pos) 0 it acc env) R s:=by
 refine codeAny_loop rfl Wd (λn s hI=>?_) n h
 show wpAny _ _ (Sem.onRaise (compTurn (.ListComp elt [⟨target,iter,[cond],0⟩] scope pos) 0 it acc env) _) _ _ s
 refine wpAny_noted ?_
 rw [compTurn_list]
 refine wpAny_bind (wpAny_standAt (wpAny_bind (wpAny_mono (turn n s hI) (λr s1 h1=>?_) λ_ _ z=>False.elim z)))
 cases r with
 | none=>exact wpAny_pure h1
 | some v=>
  refine wpAny_bind (wpAny_mono h1 (λ_ s2 h2=>?_) λ_ _ z=>False.elim z)
  refine wpAny_bind (wpAny_mono h2 (λ_ s3 h3=>?_) λ_ _ z=>False.elim z)
  refine wpAny_bind (wpAny_tests_one (wpAny_mono h3 (λok s4 h4=>?_) λ_ _ z=>False.elim z))
  cases ok with
  | false=>exact wpAny_pure ⟨rfl,h4⟩
  | true=>exact wpAny_bind (wpAny_bind (wpAny_mono h4 (λx s5 h5=>wpAny_bind (wpAny_mono h5 (λ_ s6 h6=>wpAny_pure (wpAny_pure ⟨rfl,h6⟩)) λ_ _ z=>False.elim z)) λ_ _ z=>False.elim z))
end
end L2
namespace L2
open PySem PySem.Spec PyProof.Rows
def QV (J:It) (g:TG) (tc:TT) (te:TE) (Q:VK) (σ0:St) (H0:Hp):Prop:=∃ W:Nat->Nat->List V->St->Hp->Prop,(∃ m,W 0 m [] σ0 H0)/\∀ i m ys σ1 H,W i m ys σ1 H->
 (J.stop i H/\∀ p,H p=none->Q (.ref p) (upd H p (.lst ys)))\/(J.go i H/\ys.length < sizeLine/\∃ (N:V->St->Hp->Prop) (N0:St->Hp->Prop),(∀ y σ' H',N y σ' H'->∃ m',m' < m/\W (i + 1) m' (ys++[y]) σ' H')/\(∀ σ' H',N0 σ' H'->∃ m',m' < m/\W (i + 1) m' ys σ' H')∧
    ∀ x H',J.yld i H x H'->g x σ1 H' λσ2 H2=>tc σ2 H2 λb H3=>if b=true then te σ2 H3 λy H4=>N y σ2 H4 else N0 σ2 H3)
def QW (own:List Str) (caps:List (Nat × Str)) (wi:TI) (g:TG) (tc:TT) (te:TE):TE:=λσ H Q=>wi σ H λJ H1=>QV J g tc te Q (uS own caps σ) H1
section
variable {X:Cx} {scope:Scope} {own:List Str} {caps:List (Nat × Str)} {elt tg iter cond:Expr} {wi:TI} {g:TG} {tc:TT} {te:TE} {pos:Pos}
end
theorem kE {K:PySem.W.Frag} {a:Addr} {xs:List V} {g:TG} {tc:TT} {te:TE} {σ0:St} {H:Hp} {Q:VK} (Pv:Nat->List V->St->Hp->Prop) (h0:Pv 0 [] σ0 H) (hl:∀ i ys σ H,i<=xs.length->Pv i ys σ H->zJ K H a xs/\ys.length<=i) (hz:xs.length<=sizeLine)
  (hs:∀ i x ys σ H,xs[i]? = some x->Pv i ys σ H->g x σ H λσ2 H2=>tc σ2 H2 λb H3=>if b=true then te σ2 H3 λy H4=>Pv (i + 1) (ys++[y]) σ2 H4 else Pv (i + 1) ys σ2 H3)
  (hd:∀ ys σ H,Pv xs.length ys σ H->∀ p,H p=none->Q (.ref p) (upd H p (.lst ys))) :
  QV (j7 K a) g tc te Q σ0 H:=by
 refine ⟨λi m ys σ H=>m=xs.length - i/\i<=xs.length/\Pv i ys σ H,⟨xs.length,by simp,Nat.zero_le _,h0⟩,?_⟩
 rintro i m ys σ H ⟨rfl,hi,p⟩
 obtain ⟨q,hy⟩:=hl i ys σ H hi p
 by_cases hlt:i < xs.length
 ·refine .inr ⟨⟨xs,xs[i],q,by simp [hlt]⟩,by omega,λy σ' H'=>Pv (i + 1) (ys++[y]) σ' H',λσ' H'=>Pv (i + 1) ys σ' H',λy σ' H' z=>⟨xs.length - (i + 1),by omega,rfl,hlt,z⟩,λσ' H' z=>⟨xs.length - (i + 1),by omega,rfl,hlt,z⟩,λx H' y=>?_⟩
  obtain ⟨e,y⟩:=y
  subst e
  exact hs i x ys σ _ (y xs q) p
 ·have e:i=xs.length:=by omega
  subst e
  exact .inl ⟨⟨xs,q,Nat.le_refl _⟩,hd ys σ H p⟩
end L2
namespace L2
open PySem PySem.Spec PyProof.Rows
section
variable {prog:Program} {w:World} {A:Around} {E:Value->Shared->Prop} {s:Shared}
theorem zKJ {d:Addr} {Q:Value->Shared->Prop} (hd:(d == sysModules)=false) (hT:s.TypeIs (.ref d) "dict")
  (q:Q (.ref s.heap.objs.size) { s with heap:=s.heap.push { cls:=.type "dict_items",data:=.fields #[.ref d] } }):wpAny (model prog w) A (call (.builtin "dict.items") [.ref d]) Q E s:=by
 refine call_meets (S:=λ_ R s=>s.TypeIs (.ref d) "dict"/\R (.ok (.ret (.ref s.heap.objs.size))) { s with heap:=s.heap.push { cls:=.type "dict_items",data:=.fields #[.ref d] } }) F.slot_dict_items hT F.entry_dict_items (F.args_dict_items_1 _)
  (.of_wp λprog w A R s ⟨ht,hk⟩=>?_) ⟨hT,q⟩
 unfold Builtin.«dict.items» Builtin.Dict.noArgs
 refine wpAny_bind (wpAny_bind (wpAny_notOrdered_dict ht ?_))
 show wpAny _ _ (pure d) _ _ s
 refine wpAny_pure ?_
 show wpAny _ _ (Builtin.Dict.showsAll d >>= _) _ _ s
 unfold Builtin.Dict.showsAll
 rw [if_neg (by rw [hd]; exact Bool.false_ne_true)]
 exact wpAny_bind (wpAny_pure (wpAny_bind (wpAny_newObj_type (wpAny_pure ⟨_,rfl,hk⟩))))
theorem zIl {v d:Addr} {od:Obj} {es:Array DictEntry} {ep:Nat} {Q:Value->Shared->Prop} (hv:s.heap.IsItemsView v d) (ho:s.heap.get? d=some od) (hdat:od.data=.dict es ep)
  (q:Q (.ref s.heap.objs.size) { s with heap:=s.heap.push { cls:=.type "dict_itemiterator",data:=.fields #[.none,.bool false,.ref d,.int 0 0,.int es.size 0,.int ep 0,.none,.none] } }) :
  wpAny (model prog w) A (pyIter (.ref v)) Q E s:=by
 obtain ⟨vo,hvo,_,vdat⟩:=id hv
 refine wpAny_pyIter_slot hv.typeIs F.slot_dict_items_iter (wpAny_call_entry F.slot_dict_items_iter hv.typeIs F.entry_dict_items_iter ?_ (F.args_dict_items_iter_1 _))
 unfold Builtin.«dict_items.__iter__» Builtin.Dict_items.dictOf Builtin.Dict_items.newIterator
 refine wpAny_bind (wpAny_pure (wpAny_bind (wpAny_bind (wpAny_field hvo vdat (x:=.ref d) rfl (wpAny_pure (wpAny_bind (wpAny_bind (wpAny_dictEntries ho hdat (wpAny_bind (wpAny_dictEpoch ho hdat ?_))))))))))
 have owns:Builtin.Dict_items.ownsTuple "dict_itemiterator" = true:=by decide
 simp only [owns,if_true]
 refine wpAny_newObj_type (wpAny_pure ⟨_,rfl,"dict_itemiterator",_,⟨_,Heap.get?_push_size _ rfl,rfl⟩,F.slot_dict_itemiterator_next.lookup,?_⟩)
  (by simp only [sizeOk,Builtin.Dict_items.ownedTupleFields,List.size_toArray,List.length_append,List.length_cons,List.length_nil,sizeLine_eq]; omega)
 simpa [rawInt,Builtin.Dict_items.ownedTupleFields] using q
theorem zKL {it d:Addr} {i n ep:Nat} {od:Obj} {es:Array DictEntry} {ok ov:Value} {en:DictEntry} {Q:Option Value->Shared->Prop} (hit:IsItemIter s.heap it d i n ep ok ov) (hod:s.heap.get? d=some od) (hdd:od.data=.dict es ep) (hsz:es.size=n) (hx:es[i]? = some en)
  (hQ:∀ h',IsItemIterOut h' it d (i + 1) n ep en.key en.val s.heap.objs.size->h'.get? s.heap.objs.size=some { cls:=.type "tuple",data:=.seq #[en.key,en.val] }->
   (∀ b o,b≠it->s.heap.get? b=some o->h'.get? b=some o)->Q (some (.ref s.heap.objs.size)) { s with heap:=h' }) :
  wpAny (model prog w) A (pyNext (.ref it)) Q E s:=by
 obtain ⟨h0,gs,dr,t0,o0⟩:=s
 have ty:Shared.TypeIs ⟨h0,gs,dr,t0,o0⟩ (.ref it) "dict_itemiterator":=⟨_,hit,rfl⟩
 unfold pyNext
 refine wpAny_bind (wpAny_attempt (wpAny_callSpecial?_slot (name:=Str.ofString "__next__") ty F.slot_dict_itemiterator_next (wpAny_call_entry F.slot_dict_itemiterator_next ty F.entry_dict_itemiterator_next ?_ (F.args_dict_itemiterator_next_1 _))))
 refine wpAny_bind (wpAny_pure (wpAny_bind (wpAny_bind ?_)))
 first | refine wpAny_bind (wpAny_typeNameOfWhole_itemiter ty (wpAny_pure ?_)) | refine wpAny_bind (wpAny_typeNameOf_itemiter ty (wpAny_pure ?_))
 refine wpAny_bind (wpAny_fieldsOf hit rfl ?_)
 have owns:Builtin.Dict_items.ownsTuple "dict_itemiterator" = true:=by decide
 simp only [owns,if_true]
 show wpAny _ _ (if (Value.ref d == Value.none)=true then _ else _) _ _ _
 rw [if_neg (show ¬ ((Value.ref d == Value.none)=true) from λz=>Bool.false_ne_true z)]
 refine wpAny_bind (wpAny_pure (wpAny_bind (wpAny_dictEntries hod hdd ?_)))
 rw [if_neg (by rw [hsz]; simp)]
 refine wpAny_bind (wpAny_pure (wpAny_bind (wpAny_dictEpoch hod hdd ?_)))
 rw [if_neg (by simp)]
 refine wpAny_pure ?_
 obtain ⟨il,ie⟩:=Array.getElem?_eq_some_iff.mp hx
 simp only [show ¬ ((i:Int) < 0) from by omega,if_false,Int.toNat_natCast,hx]
 refine wpAny_bind ?_
 first | refine wpAny_bind (wpAny_typeNameOfWhole_itemiter ty (wpAny_pure ?_)) | refine wpAny_bind (wpAny_typeNameOf_itemiter ty (wpAny_pure ?_))
 refine wpAny_bind (wpAny_isOneOf_itemiter ty ?_)
 show wpAny _ _ (setField (.ref it) 3 (rawInt ((i:Int) + 1)) >>= _) _ _ _
 refine wpAny_bind (wpAny_setField_rec hit (by simp) λu1 e1 b1=>?_)
 replace b1:Heap.SameBut it h0 u1:=b1
 replace e1:IsItemIter u1 it d (i + 1) n ep ok ov:=by
  have e:((i + 1:Nat):Int)=(i:Int) + 1:=by omega
  unfold IsItemIter
  rw [e]
  simpa [rawInt] using e1
 have ty1:Shared.TypeIs ⟨u1,gs,dr,t0,o0⟩ (.ref it) "dict_itemiterator":=⟨_,e1,rfl⟩
 refine wpAny_bind (wpAny_holding (wpAny_bind (wpAny_isOneOf_itemiter ty1 (wpAny_bind (wpAny_isOneOf_itemiter ty1 ?_)))))
 show wpAny _ _ (Builtin.Dict_items.pairFromOwner (.ref it) 6 en.key en.val) _ _ _
 unfold Builtin.Dict_items.pairFromOwner
 refine wpAny_bind (wpAny_newTuple ?_)
 have e2:IsItemIter (u1.push { cls:=.type "tuple",data:=.seq #[en.key,en.val] }) it d (i + 1) n ep ok ov:=Heap.get?_push_of_some _ e1
 generalize eq2:u1.push { cls:=.type "tuple",data:=.seq #[en.key,en.val] }=u2 at e2
 have z1:u1.objs.size=h0.objs.size:=b1.1
 have il0:it < h0.objs.size:=Heap.lt_size hit
 have t2:u2.get? h0.objs.size=some { cls:=.type "tuple",data:=.seq #[en.key,en.val] }:=by rw [<- eq2,<- z1]; exact Heap.get?_push_size _ rfl
 have k2:∀ b o,b≠it->h0.get? b=some o->u2.get? b=some o:=λb o hb e=>by rw [<- eq2]; exact Heap.get?_push_of_some _ (b1.extBut b o hb e)
 show wpAny _ _ (Builtin.Dict_items.ownedTupleIsFree (.ref it) >>= _) _ _ ⟨u2,gs,dr,t0,o0⟩
 rw [z1]
 clear eq2 e1 b1 ty1 z1 u1
 unfold Builtin.Dict_items.ownedTupleIsFree
 refine wpAny_bind (wpAny_bind (wpAny_field e2 rfl (x:=.none) rfl (wpAny_pure ?_)))
 simp only [if_true]
 refine wpAny_bind (wpAny_field e2 rfl (x:=ok) rfl (wpAny_bind (wpAny_field e2 rfl (x:=ov) rfl (wpAny_bind (wpAny_setField_rec e2 (by simp) λu3 e3 b3=>?_)))))
 replace b3:Heap.SameBut it u2 u3:=b3
 replace e3:IsItemIter u3 it d (i + 1) n ep en.key ov:=e3
 refine wpAny_bind (wpAny_setField_rec e3 (by simp) λu4 e4 b4=>?_)
 replace b4:Heap.SameBut it u3 u4:=b4
 replace e4:IsItemIter u4 it d (i + 1) n ep en.key en.val:=e4
 refine wpAny_bind (wpAny_setField_rec e4 (by simp) λu5 e5 b5=>?_)
 replace b5:Heap.SameBut it u4 u5:=b5
 replace e5:IsItemIterOut u5 it d (i + 1) n ep en.key en.val h0.objs.size:=e5
 refine wpAny_bind (wpAny_setField_rec e5 (by simp) λu6 e6 b6=>?_)
 replace b6:Heap.SameBut it u5 u6:=b6
 replace e6:IsItemIterOut u6 it d (i + 1) n ep en.key en.val h0.objs.size:=e6
 have far:h0.objs.size≠it:=Nat.ne_of_gt il0
 refine wpAny_bind (wpAny_letGo (wpAny_pure (wpAny_pure ⟨_,rfl,wpAny_pure (hQ u6 e6 ?_ λb o hb e=>?_)⟩)))
 ·exact b6.extBut _ _ far (b5.extBut _ _ far (b4.extBut _ _ far (b3.extBut _ _ far t2)))
 ·exact b6.extBut b o hb (b5.extBut b o hb (b4.extBut b o hb (b3.extBut b o hb (k2 b o hb e))))
theorem zLf {it d:Addr} {i n ep:Nat} {od:Obj} {es:Array DictEntry} {ok ov:Value} {Q:Option Value->Shared->Prop} (hh:A.handled=none) (hit:IsItemIter s.heap it d i n ep ok ov) (hod:s.heap.get? d=some od) (hdd:od.data=.dict es ep) (hsz:es.size=n) (hx:es.size<=i)
  (hQ:∀ h',Heap.ExtBut it s.heap h'->Q none { s with heap:=h' }):wpAny (model prog w) A (pyNext (.ref it)) Q E s:=by
 have ty:s.TypeIs (.ref it) "dict_itemiterator":=⟨_,hit,rfl⟩
 unfold pyNext
 refine wpAny_bind (wpAny_attempt (wpAny_callSpecial?_slot (name:=Str.ofString "__next__") ty F.slot_dict_itemiterator_next (wpAny_call_entry F.slot_dict_itemiterator_next ty F.entry_dict_itemiterator_next ?_ (F.args_dict_itemiterator_next_1 _))))
 refine wpAny_bind (wpAny_pure (wpAny_bind (wpAny_bind ?_)))
 first | refine wpAny_bind (wpAny_typeNameOfWhole_itemiter ty (wpAny_pure ?_)) | refine wpAny_bind (wpAny_typeNameOf_itemiter ty (wpAny_pure ?_))
 refine wpAny_bind (wpAny_fieldsOf hit rfl ?_)
 have owns:Builtin.Dict_items.ownsTuple "dict_itemiterator" = true:=by decide
 simp only [owns,if_true]
 show wpAny _ _ (if (Value.ref d == Value.none)=true then _ else _) _ _ _
 rw [if_neg (show ¬ ((Value.ref d == Value.none)=true) from λz=>Bool.false_ne_true z)]
 refine wpAny_bind (wpAny_pure (wpAny_bind (wpAny_dictEntries hod hdd ?_)))
 rw [if_neg (by rw [hsz]; simp)]
 refine wpAny_bind (wpAny_pure (wpAny_bind (wpAny_dictEpoch hod hdd ?_)))
 rw [if_neg (by simp)]
 refine wpAny_pure ?_
 simp only [show ¬ ((i:Int) < 0) from by omega,if_false,Int.toNat_natCast,Array.getElem?_eq_none hx]
 refine wpAny_bind ?_
 first | refine wpAny_bind (wpAny_typeNameOfWhole_itemiter ty (wpAny_pure ?_)) | refine wpAny_bind (wpAny_typeNameOf_itemiter ty (wpAny_pure ?_))
 show wpAny _ _ (setField (.ref it) 2 .none >>= _) _ _ _
 refine wpAny_bind (wpAny_setField hit rfl (by simp) ?_)
 show wpAny _ _ (newExc (.type "StopIteration") [] >>= _) _ _ _
 simp only [newExc,newTuple]
 refine wpAny_bind (wpAny_bind (wpAny_newObj_type ?_ (by size_fits)))
 refine wpAny_bind (m:=firstArgMember _ _) (wpAny_of_eq (a:=Value.none) (by first | rfl | (simp only [firstArgMember]; rfl)) (wpAny_newObj_type ?_ (by size_fits)))
 simp only [raiseNew]
 refine wpAny_bind (wpAny_handled ?_)
 rw [show A.in1.handled=none from hh]
 refine wpAny_bind (wpAny_pure (wpAny_throw ?_))
 refine wpAny_bind (wpAny_isInstance (b:=true) (T:="StopIteration") ⟨_,Heap.get?_push_size _ rfl,rfl⟩ isSubtype_stop ?_)
 exact wpAny_pure (hQ _ (((Heap.SameBut.update ..).extBut.push _).push _))
theorem zD4:entryFor table "dict_itemiterator.__iter__" = some Builtin.«dict_keyiterator.__iter__»:=entryFor_alias (id':="dict_keyiterator.__iter__") (by kernel_rfl) rfl (by decide +kernel) (by kernel_rfl)
theorem zKK {it d:Addr} {i n ep:Nat} {ok ov:Value} {Q:Value->Shared->Prop} (hit:IsItemIter s.heap it d i n ep ok ov) (h:Q (.ref it) s):wpAny (model prog w) A (pyIter (.ref it)) Q E s:=by
 have ty:s.TypeIs (.ref it) "dict_itemiterator":=⟨_,hit,rfl⟩
 refine wpAny_pyIter_slot ty F.slot_dict_itemiterator_iter (wpAny_call_entry F.slot_dict_itemiterator_iter ty zD4 ?_ (F.args_dict_itemiterator_iter_1 _))
 show wpAny _ _ (ret (.ref it)) _ _ s
 exact wpAny_pure ⟨_,rfl,"dict_itemiterator",_,ty,F.slot_dict_itemiterator_next.lookup,h⟩
end
theorem zQ.freeze {X:Cx} {pins:List (Addr × Obj)} {σ:St} {H:Hp} {s:Shared} {d:Addr} {ob:Obj} {kvs:List (List ye × V)} (I:zQ X pins σ H s) (e:H d=some (.dT kvs)) (ho:s.heap.get? d=some ob):zQ X pins σ (upd H d (.frz ob (.dT kvs))) s:=by
 have ne:∀ b u,H b=some u->u≠.dT kvs->b≠d:=λb u q n=>gS q e n
 refine ⟨I.ok,I.os,I.bare,⟨I.base.keep,I.base.slot,λb o q n hx=>?_,I.base.there,λb xs q=>?_,λb o u q=>?_,λb ps q=>?_⟩,I.loc,I.cell,?_,λx c q=>?_,λp hp=>?_,λb u q=>?_,I.len⟩
 ·have z:=I.base.free b o q n hx
  rw [yW λy=>by rw [y,e] at z; cases z]
  exact z
 ·have z:=I.base.tups b xs q
  rw [yW (ne _ _ z (by intro y; cases y))]
  exact z
 ·have z:=I.base.frzs b o u q
  rw [yW (ne _ _ z (by intro y; cases y))]
  exact z
 ·obtain ⟨m,z⟩:=I.base.tbls b ps q
  exact ⟨m,by rw [yW (ne _ _ z (by intro y; cases y))]; exact z⟩
 ·rw [yW λy=>by have z:=I.free; rw [y,e] at z; cases z]
  exact I.free
 ·rw [yW λy=>by have z:=I.freeC x c q; rw [y,e] at z; cases z]
  exact I.freeC x c q
 ·obtain ⟨a1,a2,a3,a4,a5⟩:=I.pin p hp
  exact ⟨a1,by rw [yW λy=>by rw [y,e] at a2; cases a2]; exact a2,a3,a4,a5⟩
 ·have st:∀ {b:Addr} {u:HO},xV X.prog X.w H s.heap b u->xV X.prog X.w (upd H d (.frz ob (.dT kvs))) s.heap b u:=λx=>x.stay (λ_ _ _ r=>r) (λc r=>by rw [yW (ne _ _ r (by intro y; cases y))]; exact r) λc xs r=>by rw [yW (ne _ _ r (by intro y; cases y))]; exact r
  by_cases hb:b=d
  ·subst hb
   rw [zj] at q
   cases q
   exact ⟨ho,st (I.hok b _ e)⟩
  ·rw [yW hb] at q
   exact st (I.hok b u q)
def Zl (d:Addr) (od:Obj):It:=
 ⟨λi H=>∃ kvs p,H d=some (.frz od (.dT kvs))/\kvs[i]? = some p,
  λi H v H'=>∃ (T b:Addr) (x:V) (k:List ye),v=.ref T/\H T=none/\H'=upd H T (.tup [.ref b,x])/\H b=some (.tup (k.map kV))/\∀ kvs,H d=some (.frz od (.dT kvs))->kvs[i]? = some (k,x),
  λi H=>∃ kvs,H d=some (.frz od (.dT kvs))/\kvs.length<=i⟩
theorem QX {H:Hp}:∀ {kvs:List (List ye × V)} {xs:List (List ye × Addr × Value)} {i:Nat} {p:List ye × V},KT H kvs xs->kvs[i]? = some p->∃ q,xs[i]? = some q/\p.1=q.1/\H q.2.1=some (.tup (p.1.map kV))/\zq p.2 q.2.2
 | _,_,_,_,.nil,e=>by simp at e
 | _,_,0,_,.cons r _,e=>by simp at e; subst e; exact ⟨_,rfl,r⟩
 | _,_,i + 1,p,.cons _ t,e=>by
  obtain ⟨q,h1,h2⟩:=QX (i:=i) (p:=p) t (by simpa using e)
  exact ⟨q,by simpa using h1,h2⟩
theorem zJu {P:Program} {w:World} {K:PySem.W.Frag} {ts:List Expr} {kk:Nat} {tp:Pos} {d it:Addr} {od:Obj} {es:Array DictEntry} {ep:Nat} (hdd:od.data=.dict es ep) :
  wW P w K (.Tuple ts kk tp) (Zl d od) [it] it (λi h=>∃ ok ov,IsItemIter h it d i es.size ep ok ov) where
 mem:=by simp
 obj:=λi h ⟨ok,ov,t⟩ b hb=>by
  rw [List.mem_singleton.mp hb]
  exact ⟨_,t,uT⟩
 keep:=λi h h' ⟨ok,ov,t⟩ k=>⟨ok,ov,k it (by simp) _ t⟩
 item:=by
  intro X hP hw hK hc i pins s σ H E I hf ⟨ok,ov,t⟩ hg
  subst hP hw hK
  obtain ⟨kvs,p,hd,hp⟩:=hg
  obtain ⟨ho,_,_,xs,rel,o,es',ep',h1,_,h3,h4,_⟩:=(show xV X.prog X.w H s.heap d (.frz od (.dT kvs)) from I.hok d _ hd)
  rw [ho] at h1
  cases h1
  rw [hdd] at h3
  cases h3
  obtain ⟨q,hq,e1,e2,e3⟩:=QX rel hp
  have hen:es[i]? = some (entryOfKey (tupleKind (uD X.prog X.w)) q):=by
   rw [<- Array.getElem?_toList,h4,List.getElem?_map,hq]
   rfl
  refine zKL t ho hdd rfl hen λh' o1 o2 keep=>?_
  refine ⟨_,rfl,wpAny_letOwnedTupleGo_items (s:={ s with heap:=h' }) o1 λh2 i2 sb=>?_⟩
  have il:it < s.heap.objs.size:=Heap.lt_size t
  have keep2:∀ c ob,c∉[it]->s.heap.get? c=some ob->h2.get? c=some ob:=λc ob hcn e=>by
   have n:c≠it:=λz=>hcn (by rw [z]; exact List.mem_singleton.mpr rfl)
   exact sb.extBut c ob n (keep c ob n e)
  have pT:IsPair h2 s.heap.objs.size (.ref q.2.1) q.2.2:=sb.extBut _ _ (Nat.ne_of_gt il) o2
  have I':=I.turnT (h':=h2) (tk:=s.toks) (ch:=[it]) (x:=.ref q.2.1) (y:=p.2) hf keep2 (Nat.le_refl _) pT rfl e3
  refine ⟨.ref s.heap.objs.size,_,I',rfl,⟨s.heap.objs.size,q.2.1,p.2,p.1,rfl,I.hok.fresh (Nat.le_refl _),rfl,e2,λkvs' z=>?_⟩,⟨_,_,i2⟩,λc hcn=>?_⟩
  ·rw [hd] at z
   cases z
   exact hp
  ·rw [List.mem_singleton.mp hcn,yW (Nat.ne_of_lt il)]
   exact (hf it (List.mem_singleton.mpr rfl)).1
 done:=by
  intro X hP hw hK hc i pins s σ H E I hf ⟨ok,ov,t⟩ hg
  subst hP hw hK
  obtain ⟨kvs,hd,hl⟩:=hg
  obtain ⟨ho,_,_,xs,rel,o,es',ep',h1,_,h3,h4,_⟩:=(show xV X.prog X.w H s.heap d (.frz od (.dT kvs)) from I.hok d _ hd)
  rw [ho] at h1
  cases h1
  rw [hdd] at h3
  cases h3
  have n1:es.size=kvs.length:=by
   rw [<- Array.length_toList,h4,List.length_map]
   exact (Paired.length rel).symm
  refine zLf (I.ok.hd hc) t ho hdd rfl (by omega) λh' k=>⟨rfl,?_⟩
  refine I.turnN (h':=h') (tk:=s.toks) (ch:=[it]) hf λc ob hcn e=>k c ob (λz=>hcn (by rw [z]; exact List.mem_singleton.mpr rfl)) e
 self:=by
  intro A i s Q E ⟨ok,ov,t⟩ q
  exact zKK t q
def zO1 (td:TE):TI:=λσ H R=>td σ H λx H1=>∃ (d:Addr) (kvs:List (List ye × V)),x=.ref d/\H1 d=some (.dT kvs)/\∀ od,R (Zl d od) (upd H1 d (.frz od (.dT kvs)))
theorem zMT {X:Cx} {o:Expr} {td:TE} {ts:List Expr} {kk:Nat} {tp apos cpos:Pos} (ho:PE X o td) (hbase:attributeBase o "items" X.env (eval o X.env)=eval o X.env:=by rfl) (hline:(apos.endLine == cpos.line)=true:=by rfl) :
  PI X (.Tuple ts kk tp) (.Call (.Attribute o "items" apos) [] [] cpos) (zO1 td):=by
 intro pins s σ H R I h
 refine wpAny_Call_method0_late hbase hline (yQ (ho pins s σ H _ I h) λv s1 ⟨x,H1,I1,r1,d,kvs,ex,e,q⟩=>?_)
 subst ex
 cases r1
 obtain ⟨h1,h2⟩:=Jp (T:="dict") (x:=.ref d) I1 rfl (.inr (.inr (.inl ⟨rfl,.inr ⟨kvs,e⟩⟩)))
 obtain ⟨z,hsm,xs,rel,od,es,ep,o1,o2,o3,o4,o5⟩:=(show xV X.prog X.w H1 s1.heap d (.dT kvs) from I1.hok d _ e)
 refine ⟨"dict","dict.items",PySem.F.plainAttrs_dict,F.slot_dict_items,F.type_dict_items,h1,h2,Calls.callWith_builtin rfl (PySem.evalArgs_none (zKJ hsm h1 ?_))⟩
 have I2:zQ X pins σ H1 { s1 with heap:=s1.heap.push { cls:=.type "dict_items",data:=.fields #[.ref d] },toks:=s1.toks }:=I1.kept λb u q=>Heap.get?_push_of_some _ q
 refine zIl (s:={ s1 with heap:=s1.heap.push { cls:=.type "dict_items",data:=.fields #[.ref d] } }) ⟨_,Heap.get?_push_size _ rfl,rfl,rfl⟩ (Heap.get?_push_of_some _ o1) o3 ?_
 have sz:(s1.heap.push { cls:=.type "dict_items",data:=.fields #[.ref d] }).objs.size=s1.heap.objs.size + 1:=Heap.size_push ..
 have I3:=I2.kept (h':=(s1.heap.push { cls:=.type "dict_items",data:=.fields #[.ref d] }).push { cls:=.type "dict_itemiterator",data:=.fields #[.none,.bool false,.ref d,.int 0 0,.int es.size 0,.int ep 0,.none,.none] }) (t':=s1.toks) λb u q=>Heap.get?_push_of_some _ q
 have I4:=I3.freeze e (Heap.get?_push_of_some _ (Heap.get?_push_of_some _ o1))
 refine ⟨_,[_],_,Zl d od,_,rfl,I4,zJu o3,⟨.none,.none,Heap.get?_push_size _ rfl⟩,λb hb=>?_,q od⟩
 rw [List.mem_singleton.mp hb]
 refine I1.fpOk (by rw [sz]; omega) ?_
 rw [yW λy=>?_]
 ·exact I1.hok.fresh (by rw [sz]; omega)
 ·have small:=Heap.lt_size o1
  rw [sz] at y
  exact absurd small (by rw [<- y]; exact Nat.not_lt.mpr (Nat.le_succ _))
end L2
namespace L2
open PySem PySem.Spec PyProof.Rows
theorem kF {K:PySem.W.Frag} {a:Addr} {xs:List V} {g:TG} {te:TE} {σ0:St} {H:Hp} {Q:VK} (Pv:Nat->List V->St->Hp->Prop) (h0:Pv 0 [] σ0 H) (hl:∀ i ys σ H,i<=xs.length->Pv i ys σ H->zT K H a xs/\ys.length<=i) (hz:xs.length<=sizeLine)
  (hs:∀ i x ys σ H,xs[i]? = some x->Pv i ys σ H->g x σ H λσ2 H2=>te σ2 H2 λy H3=>Pv (i + 1) (ys++[y]) σ2 H3)
  (hd:∀ ys σ H,Pv xs.length ys σ H->∀ p,H p=none->Q (.ref p) (upd H p (.lst ys))) :
  jB (qr K a) g te Q σ0 H:=by
 refine ⟨λi m ys σ H=>m=xs.length - i/\i<=xs.length/\Pv i ys σ H,⟨xs.length,by simp,Nat.zero_le _,h0⟩,?_⟩
 rintro i m ys σ H ⟨rfl,hi,p⟩
 obtain ⟨q,hy⟩:=hl i ys σ H hi p
 by_cases hlt:i < xs.length
 ·refine .inr ⟨⟨xs,xs[i],q,by simp [hlt]⟩,by omega,λy σ' H'=>Pv (i + 1) (ys++[y]) σ' H',λy σ' H' z=>⟨xs.length - (i + 1),by omega,rfl,hlt,z⟩,λx H' y=>?_⟩
  obtain ⟨e,y⟩:=y
  subst e
  exact hs i x ys σ _ (y xs q) p
 ·have e:i=xs.length:=by omega
  subst e
  exact .inl ⟨⟨xs,q,Nat.le_refl _⟩,hd ys σ H p⟩
theorem zKU {d:Addr} {od:Obj} {kvs:List (List ye × V)} {g:TG} {te:TE} {σ0:St} {H:Hp} {Q:VK} (Pv:Nat->List V->St->Hp->Prop) (h0:Pv 0 [] σ0 H) (hl:∀ i ys σ H,i<=kvs.length->Pv i ys σ H->H d=some (.frz od (.dT kvs))/\ys.length<=i) (hz:kvs.length<=sizeLine)
  (hs:∀ i k x T b ys σ H,kvs[i]? = some (k,x)->H T=none->H b=some (.tup (k.map kV))->Pv i ys σ H->g (.ref T) σ (upd H T (.tup [.ref b,x])) λσ2 H2=>te σ2 H2 λy H3=>Pv (i + 1) (ys++[y]) σ2 H3)
  (hd:∀ ys σ H,Pv kvs.length ys σ H->∀ p,H p=none->Q (.ref p) (upd H p (.lst ys))) :
  jB (Zl d od) g te Q σ0 H:=by
 refine ⟨λi m ys σ H=>m=kvs.length - i/\i<=kvs.length/\Pv i ys σ H,⟨kvs.length,by simp,Nat.zero_le _,h0⟩,?_⟩
 rintro i m ys σ H ⟨rfl,hi,p⟩
 obtain ⟨q,hy⟩:=hl i ys σ H hi p
 by_cases hlt:i < kvs.length
 ·refine .inr ⟨⟨kvs,kvs[i],q,by simp [hlt]⟩,by omega,λy σ' H'=>Pv (i + 1) (ys++[y]) σ' H',λy σ' H' z=>⟨kvs.length - (i + 1),by omega,rfl,hlt,z⟩,λx H' y=>?_⟩
  obtain ⟨T,b,v,k,rfl,hT,rfl,hb,hk⟩:=y
  exact hs i k v T b ys σ _ (hk kvs q) hT hb p
 ·have e:i=kvs.length:=by omega
  subst e
  exact .inl ⟨⟨kvs,q,Nat.le_refl _⟩,hd ys σ H p⟩
section
variable {X:Cx}
theorem zOj (hu:X.A.units + 64 < cLine):xj X (compareOp .NotEq) (λx y H Q=>∃ d e:PyData,Dp X.K H x d/\Dp X.K H y e/\d.canLay0=true/\e.canLay0=true/\d.depth<=60/\e.depth<=60/\Q (.bl (!PyData.eqv d e)) H):=by
 intro pins s σ H x y v u Q I rx ry h
 obtain ⟨d,e,hx,hy,hc,hc',hd,hd',q⟩:=h
 obtain ⟨_,r1⟩:=hx.reads I rx
 obtain ⟨_,r2⟩:=hy.reads I ry
 exact SeqAt.compareNe_reads r1 r2 hc hc' (by omega) ⟨.bl _,H,I,rfl,q⟩
end
end L2
namespace L2
open PySem PySem.Spec PyProof.Rows
section
variable {X:Cx}
end
end L2
namespace L2
open PySem
end L2
namespace L2
open PySem PySem.Spec PyProof.Rows
theorem QY:bootBuiltins "sum" = some (.builtin "sum"):=by decide +kernel
theorem QZ:∀ {ns:List Int} {its:List Value},zf (ns.map V.int) its->∃ zs:List (Int × Tok),its=zs.map (λp=>Value.int p.1 p.2)/\zs.map (·.1)=ns
 | [],_,.nil=>⟨[],rfl,rfl⟩
 | n :: r,_,.cons h t=>by
  obtain ⟨zs,e1,e2⟩:=QZ t
  obtain ⟨tk,rfl⟩:=h
  exact ⟨(n,tk) :: zs,by rw [e1]; rfl,by rw [List.map_cons,e2]⟩
section
variable {X:Cx}
theorem Qa (hc:X.calm=true):vC X (.builtin "sum") (λxs H Q=>∃ (p:Addr) (ns:List Int),xs=[.ref p]/\zJ X.K H p (ns.map V.int)/\Q (.int ns.sum) H):=by
 intro pins s σ H xs us Q I r h
 obtain ⟨p,ns,rfl,hq,q⟩:=h
 obtain ⟨u,rfl,ru⟩:=jo r
 cases ru
 obtain ⟨its,rv,pl,hz⟩:=I.list hq
 obtain ⟨zs,e1,e2⟩:=QZ rv
 have e3:its.toArray=intItems zs.toArray:=by
  rw [e1]
  unfold intItems
  simp
 have hl:=pl.isList
 rw [e3] at hl
 refine sum_intListG (I.ok.hd hc) hl λh' tk t' kk=>⟨.int ns.sum,H,I.kept (h':=h') (t':=tk) kk,⟨t',?_⟩,q⟩
 rw [preSum_eq,List.take_of_length_le (by simp),e2]
end
end L2
namespace L2
open PySem PySem.Spec PyProof.Rows
theorem qM {a b c d:Nat} (h1:a < b) (h2:b<=c) (h3:c + 1<=d):d≠a:=by omega
theorem kG {a b c:Nat} (h1:c=a + 1) (h2:c + 1<=b):b≠a:=by omega
theorem Zm {x:Str} {c:Addr}:∀ (names:List (Str × NameKind)) (n:Nat) (acc:List (Str × Addr)),(cellsFrom n names acc).lookup x=some c->((x,NameKind.cell)∈names/\n<=c)\/acc.lookup x=some c
 | [],_,_,h=>.inr h
 | (y,k) :: r,n,acc,h=>by
  unfold cellsFrom at h
  split at h
  ·rename_i hk
   rcases Zm r (n + 1) ((y,n) :: acc) h with ⟨a,b⟩ | z
   ·exact .inl ⟨List.mem_cons_of_mem _ a,by omega⟩
   ·rw [List.lookup_cons] at z
    by_cases e:(x == y)=true
    ·simp only [e] at z
     have e1:x=y:=eq_of_beq e
     have e2:k=.cell:=eq_of_beq hk
     subst e1
     subst e2
     cases z
     exact .inl ⟨List.mem_cons_self,Nat.le_refl _⟩
    ·have e':(x == y)=false:=by simpa using e
     simp only [e'] at z
     exact .inr z
  ·rcases Zm r n acc h with ⟨a,b⟩ | z
   ·exact .inl ⟨List.mem_cons_of_mem _ a,b⟩
   ·exact .inr z
theorem Xc {x:Str}:∀ (names:List (Str × NameKind)) (n:Nat) (acc:List (Str × Addr)),(x,NameKind.cell)∉names->(cellsFrom n names acc).lookup x=acc.lookup x
 | [],_,_,_=>rfl
 | (y,k) :: r,n,acc,h=>by
  have hr:(x,NameKind.cell)∉r:=λz=>h (List.mem_cons_of_mem _ z)
  unfold cellsFrom
  split
  ·rename_i hk
   have e2:k=.cell:=eq_of_beq hk
   rw [Xc r _ _ hr,List.lookup_cons]
   have e':(x == y)=false:=by
    cases q:x == y with
    | false=>rfl
    | true=>exact absurd (by rw [eq_of_beq q,e2]; exact List.mem_cons_self) h
   simp only [e']
  ·exact Xc r _ _ hr
theorem Xd:∀ (names:List (Str × NameKind)) (n:Nat) (acc:List (Str × Addr)),(∀ x c,acc.lookup x=some c->c < n)->(∀ x y c,acc.lookup x=some c->acc.lookup y=some c->x=y)->
  ∀ x y c,(cellsFrom n names acc).lookup x=some c->(cellsFrom n names acc).lookup y=some c->x=y
 | [],_,_,_,h2=>h2
 | (z,k) :: r,n,acc,h1,h2=>by
  unfold cellsFrom
  split
  ·have look:∀ x c,((z,n) :: acc).lookup x=some c->(x=z/\c=n)\/acc.lookup x=some c:=λx c e=>by
    rw [List.lookup_cons] at e
    cases q:x == z with
    | true=>
     simp only [q] at e
     exact .inl ⟨eq_of_beq q,(Option.some.inj e).symm⟩
    | false=>
     simp only [q] at e
     exact .inr e
   refine Xd r (n + 1) ((z,n) :: acc) (λx c e=>?_) λx y c e1 e2=>?_
   ·rcases look x c e with ⟨_,e⟩ | e
    ·rw [e]
     exact Nat.lt_succ_self n
    ·exact Nat.lt_succ_of_lt (h1 x c e)
   ·rcases look x c e1 with ⟨a1,b1⟩ | a1 <;> rcases look y c e2 with ⟨a2,b2⟩ | a2
    ·rw [a1,a2]
    ·have:=h1 y c a2
     rw [b1] at this
     exact absurd this (Nat.lt_irrefl n)
    ·have:=h1 x c a1
     rw [b2] at this
     exact absurd this (Nat.lt_irrefl n)
    ·exact h2 x y c a1 a2
  ·exact Xd r n acc h1 h2
theorem Zn {x:Str} {c:Addr}:∀ (names:List (Str × NameKind)) (h:Heap) (acc:List (Str × Addr)),(cellsFrom h.objs.size names acc).lookup x=some c->acc.lookup x=some c\/(pushCells h names).IsCell c none
 | [],_,_,e=>.inl e
 | (y,k) :: r,h,acc,e=>by
  unfold cellsFrom at e
  unfold pushCells
  split at e
  ·rename_i hk
   rw [if_pos hk]
   have q:=Zn (x:=x) (c:=c) r (h.push { cls:=.type "cell",data:=.cell none }) ((y,h.objs.size) :: acc) (by rw [Heap.size_push]; exact e)
   rcases q with q | q
   ·rw [List.lookup_cons] at q
    cases z:x == y with
    | true=>
     simp only [z] at q
     cases q
     exact .inr ⟨_,pushCells_keeps r _ _ _ (Heap.get?_push_size _ rfl),rfl⟩
    | false=>
     simp only [z] at q
     exact .inl q
   ·exact .inr q
  ·rename_i hk
   rw [if_neg hk]
   exact Zn r h acc e
theorem qN:∀ {l:List (Str × NameKind)} {x:Str} {k:NameKind},(l.map (·.1)).Nodup->(x,k)∈l->l.lookup x=some k
 | [],_,_,_,h=>by cases h
 | (y,j) :: r,x,k,nd,h=>by
  rw [List.map_cons,List.nodup_cons] at nd
  rw [List.lookup_cons]
  rcases List.mem_cons.mp h with e | h
  ·cases e
   rw [beq_self_eq_true]
  ·have ne:(x == y)=false:=by
    cases q:x == y with
    | false=>rfl
    | true=>exact absurd (by rw [<- eq_of_beq q]; exact List.mem_map.mpr ⟨(x,k),h,rfl⟩) nd.1
   simp only [ne]
   exact qN nd.2 h
theorem Qb {M:Model} {A:Around} {E:Value->Shared->Prop} {s:Shared} {scope:Scope} {globals:Addr} {closure:List (Str × Addr)} {qual:Str} {func:Option Addr} {code:Value} {env:Env} {builtins:Addr} {Q:Env->Shared->Prop}
  (h:Q (newEnv scope s.heap.objs.size globals (cellsFrom (s.heap.objs.size + 1) scope.names closure) qual func code (some env) builtins) { s with heap:=pushCells (s.heap.push { cls:=.type "dict",data:=.dict #[] }) scope.names }) :
  wpAny M A (newFunctionEnv scope globals closure [] qual func code (some env) builtins) Q E s:=by
 simp only [newFunctionEnv,Option.isSome_some,if_true]
 refine wpAny_bind (wpAny_alloc ?_)
 refine wpAny_bind (wpAny_layCells _ (λname kind cells=>by cases hkc:kind == NameKind.cell <;> simp [hkc]) _ _ _ _ ?_)
 rw [show ({ s with heap:=s.heap.push { cls:=.type "dict",data:=.dict #[] } }:Shared).heap.objs.size=s.heap.objs.size + 1 from Heap.size_push ..]
 simp only [List.forIn_nil]
 exact wpAny_bind (wpAny_pure (wpAny_pure h))
abbrev xT (X:Cx) (scope:Scope) (N:List Str) (C:Addr) (s₀:Shared) (H₀:Hp) (ex:List Addr):Cx:=
 { X with N:=N,s₀:=s₀,H₀:=H₀,env:=compEnvC scope (cellsFrom (C + 1) scope.names (vE scope X.env)) C X.env,outer:=X.stack,ex:=ex,fn:=λx=>scope.names.lookup x == some .cell,pn:=[],xe:=λ_ _=>False }
structure uW (X:Cx) (scope:Scope) (own:List Str) (caps:List (Nat × Str)):Prop where
 kind:scope.kind=.function
 nod:(scope.names.map (·.1)).Nodup
 locs:∀ y∈scope.names,y.2=.local->scope.names.lookup y.1=some .local
 free:∀ y∈scope.names,y.2=.free->(X.env.cells.lookup y.1).isSome=true
 caps:∀ p∈caps,X.N[p.1]? = some p.2/\scope.names.lookup p.2=some .free/\(X.env.kindOf p.2=some .cell\/X.env.kindOf p.2=some .free)
section
variable {X:Cx} {scope:Scope} {own:List Str} {caps:List (Nat × Str)} {pins:List (Addr × Obj)} {σ:St} {H:Hp} {s s4:Shared} {C D:Addr} {fp:List Addr}
theorem gA (B:uW X scope own caps) {x:Str} {c n:Nat} (e:(cellsFrom n scope.names (vE scope X.env)).lookup x=some c):((x,NameKind.cell)∈scope.names/\n<=c)\/X.env.cells.lookup x=some c:=
 (Zm _ _ _ e).imp id λz=>(qJ B.free z).1
theorem Xe (I:zQ X pins σ H s) {x:Str} {c:Addr} (e:X.env.cells.lookup x=some c):c < s.heap.objs.size:=by
 obtain ⟨v,o,ho,_⟩:=I.cell x c e
 exact Heap.lt_size ho
theorem zN8 (B:uW X scope own caps) (I:zQ X pins σ H s) (hf:∀ b∈fp,xG X pins H b) (hC:s.heap.objs.size<=C) (hlt:∀ b∈fp,b < s.heap.objs.size):(xT X scope (yV own caps) C s H fp).Ok where
 mod:=I.ok.mod
 kind:=B.kind
 glob:=I.ok.glob
 blt:=I.ok.blt
 above:=hC
 inj:=Xd _ _ _ (λx c e=>Nat.lt_of_lt_of_le (Xe I (qJ B.free e).1) (Nat.le_succ_of_le hC)) λx y c h1 h2=>I.ok.inj x y c (qJ B.free h1).1 (qJ B.free h2).1
 has:=λx h=>by
  have fr:(x,NameKind.free)∈scope.names->∃ c,(cellsFrom (C + 1) scope.names (vE scope X.env)).lookup x=some c:=λz=>by
   obtain ⟨c,e⟩:=XY (env:=X.env) z
   exact Option.isSome_iff_exists.mp (PySem.W.cellsFrom_some _ _ _ (.inr (by rw [e]; rfl)))
  have ce:(x,NameKind.cell)∈scope.names->∃ c,(cellsFrom (C + 1) scope.names (vE scope X.env)).lookup x=some c:=λz=>
   Option.isSome_iff_exists.mp (PySem.W.cellsFrom_some _ _ _ (.inl (qN B.nod z)))
  rcases h with h | h
  ·rcases QM (show (relabel scope X.env).names.lookup x=some .cell from h) with ⟨_,z | z⟩ | z
   ·exact fr z
   ·exact ce z
   ·exact ce z
  ·rcases QM (show (relabel scope X.env).names.lookup x=some .free from h) with ⟨z,_⟩ | z
   ·cases z
   ·exact fr z
 cab:=λx c h e=>by
  have hx:scope.names.lookup x=some .cell:=eq_of_beq h
  rcases Zm _ _ _ e with ⟨_,z⟩ | z
  ·exact Nat.le_trans hC (Nat.le_of_succ_le z)
  ·have:=qN B.nod (qJ B.free z).2
   rw [hx] at this
   cases this
 hd:=I.ok.hd
 frames:=I.ok.frames
 stk:=.inl rfl
 exf:=λb hb=>⟨λe=>by have:=hlt b hb; rw [e] at this; exact absurd (Nat.lt_of_lt_of_le this hC) (Nat.lt_irrefl _),λx c e=>by
  rcases gA B e with ⟨_,z⟩ | z
  ·exact qM (hlt b hb) hC z
  ·exact (hf b hb).2.2.2.2.1 x c z⟩
 bs:=I.bs
 bsz:=Nat.le_trans I.ok.bsz I.sz
 noex:=λb o e hb=>by
  rcases (hf b hb).2.2.2.1 with z | z
  ·exact I.ok.noex b o e z
  ·exact absurd (Nat.lt_of_lt_of_le (Heap.lt_size e) (Nat.le_trans I.ok.bsz z)) (Nat.lt_irrefl _)
 exfs:=λb hb z=>by
  rcases List.mem_cons.mp (I.stkSub b z) with e | z
  ·exact (hf b hb).2.1 e
  ·exact (hf b hb).2.2.1 z
 funs:=I.stack
 frf:=I.stkFree
theorem Qc (B:uW X scope own caps) (I:zQ X pins σ H s) (hf:∀ b∈fp,xG X pins H b) (hC:s.heap.objs.size<=C) (hlt:∀ b∈fp,b < s.heap.objs.size)
  {m:Str->Option Value} (hn:s4.heap.Ns C m) (hk:∀ b o,s.heap.get? b=some o->s4.heap.get? b=some o) (hcell:∀ x c,(cellsFrom (C + 1) scope.names (vE scope X.env)).lookup x=some c->(vE scope X.env).lookup x=some c\/s4.heap.IsCell c none) (ho:s4.os=s.os) (hb:AllBare s4.gens) :
  zQ (xT X scope (yV own caps) C s H fp) [] (uS own caps σ) H s4 where
 ok:=zN8 B I hf hC hlt
 os:=ho
 bare:=hb
 base:=Un.kept hk
 loc:=⟨m,hn,λi x v h1 h2 h3=>by
  obtain ⟨j,hm,hs⟩:=zMv h1 h2
  obtain ⟨c1,c2,c3⟩:=B.caps _ hm
  obtain ⟨m',_,hl⟩:=I.loc
  have vis:ZK X.env.scope x:=c3.elim (λz=>.inr (.inl z)) λz=>.inr (.inr z)
  obtain ⟨u,r,l⟩:=hl j x v c1 hs vis
  refine ⟨u,r,.inr ?_⟩
  have hm2:(x,NameKind.free)∈scope.names:=qy c2
  obtain ⟨c',hc'⟩:=XY (env:=X.env) hm2
  have hc2:=(qJ B.free hc').1
  have noc:(x,NameKind.cell)∉scope.names:=λz=>by
   have:=qN B.nod z
   rw [c2] at this
   cases this
  refine ⟨?_,c',(Xc _ _ _ noc).trans hc',?_⟩
  ·show (relabel scope X.env).names.lookup x=some .cell\/(relabel scope X.env).names.lookup x=some .free
   rw [QN,c2,Option.map_some]
   split
   ·exact .inl rfl
   ·exact .inr rfl
  ·rcases l with ⟨k,_⟩ | ⟨_,c,e,z⟩
   ·rcases c3 with c3 | c3 <;> rw [c3] at k <;> cases k
   ·rw [hc2] at e
    cases e
    obtain ⟨o,e1,e2⟩:=z
    exact ⟨o,hk _ o e1,e2⟩⟩
 cell:=λx c e=>by
  rcases hcell x c e with z | z
  ·obtain ⟨v,o,e1,e2⟩:=I.cell x c (qJ B.free z).1
   exact ⟨v,o,hk _ o e1,e2⟩
  ·exact ⟨none,z⟩
 free:=I.hok.fresh hC
 freeC:=λx c e=>by
  rcases gA B e with ⟨_,z⟩ | z
  ·exact I.hok.fresh (Nat.le_trans hC (Nat.le_of_succ_le z))
  ·exact I.freeC x c z
 pin:=λp hp=>by simp at hp
 hok:=I.hok.kept hk
 len:=by
  show (uS own caps σ).length=(yV own caps).length
  unfold uS yV
  simp
end
section
variable {X:Cx} {scope:Scope} {own:List Str} {caps:List (Nat × Str)} {elt tg iter cond:Expr} {wi:TI} {g:TG} {tc:TT} {te:TE} {pos:Pos}
theorem Qd {pins:List (Addr × Obj)} {σ:St} {H2:Hp} {s2:Shared} {it:Addr} {fp:List Addr} {tn:Nat->Heap->Prop} {J:It} {W:Nat->Nat->List V->St->Hp->Prop} {m0:Nat} {Q:VK} {E:Value->Shared->Prop} {RR:Value->Addr->Result->Shared->Prop}
  (B:uW X scope own caps) (hc:X.calm=true) (hg:∀ C s₀ H₀ ex,PG (xT X scope (yV own caps) C s₀ H₀ ex) tg g) (he:∀ C s₀ H₀ ex,PE (xT X scope (yV own caps) C s₀ H₀ ex) elt te)
  (I2:zQ X pins σ H2 s2) (T:wW X.prog X.w X.K tg J fp it tn) (st2:tn 0 s2.heap) (f2:∀ b∈fp,xG X pins H2 b) (w0:W 0 m0 [] (uS own caps σ) H2)
  (turn:∀ i m ys σ1 H,W i m ys σ1 H->(J.stop i H/\∀ p,H p=none->Q (.ref p) (upd H p (.lst ys)))∨
   (J.go i H/\ys.length < sizeLine/\∃ N:V->St->Hp->Prop,(∀ y σ' H',N y σ' H'->∃ m',m' < m/\W (i + 1) m' (ys++[y]) σ' H')/\∀ x H',J.yld i H x H'->g x σ1 H' λσ2 H2=>te σ2 H2 λy H3=>N y σ2 H3))
  (hRR:∀ D C s6 H6 ys m,s6.heap.Ns C m->s2.heap.objs.size<=C->(∀ h',Heap.SameBut C s6.heap h'->zQ X pins σ (upd H6 D (.lst ys)) { s6 with heap:=h' })->upd H6 D (.lst ys) C=none->Q (.ref D) (upd H6 D (.lst ys))->RR (.ref D) C (.ok .next) s6) :
  wpAny (model X.prog X.w) X.A (newList []) (λacc s3=>wpAny (model X.prog X.w) X.A (newFunctionEnv scope X.env.globals (vE scope X.env) [] X.env.qual none .none (some X.env)) (λcenv s4=>
   codeAny (model X.prog X.w) X.A (.compStart (.ListComp elt [⟨tg,iter,[],0⟩] scope pos) 0 (.ref it) acc { cenv with scope:=relabel scope X.env }) (RR acc cenv.locals) s4) E s3) E s2:=by
 have hlt:∀ b∈fp,b < s2.heap.objs.size:=λb hb=>by
  obtain ⟨o,ho,_⟩:=T.obj _ _ st2 b hb
  exact Heap.lt_size ho
 refine wpAny_newObj_type (Qb ?_)
 dsimp only
 generalize hP:s2.heap.push { cls:=.type "list",dict:=none,data:=.seq ([]:List Value).toArray }=HD
 have hns:(pushCells (HD.push { cls:=.type "dict",data:=.dict #[] }) scope.names).Ns HD.objs.size (λ_=>none):=(Heap.Ns.new HD (.type "dict")).keeps (pushCells_keeps _ _)
 have hkp:∀ b o,HD.get? b=some o->(pushCells (HD.push { cls:=.type "dict",data:=.dict #[] }) scope.names).get? b=some o:=λb o e=>pushCells_keeps _ _ b o (Heap.get?_push_of_some _ e)
 have hcell:∀ x c,(cellsFrom (HD.objs.size + 1) scope.names (vE scope X.env)).lookup x=some c->(vE scope X.env).lookup x=some c\/(pushCells (HD.push { cls:=.type "dict",data:=.dict #[] }) scope.names).IsCell c none:=λx c e=>
  Zn _ _ _ (by rw [Heap.size_push]; exact e)
 generalize hP4:pushCells (HD.push { cls:=.type "dict",data:=.dict #[] }) scope.names=h4 at hns hkp hcell |-
 have hCD:HD.objs.size=s2.heap.objs.size + 1:=by rw [<- hP,Heap.size_push]
 have hDC:s2.heap.objs.size≠HD.objs.size:=by omega
 have hle:s2.heap.objs.size<=HD.objs.size:=by omega
 have old:∀ b o,s2.heap.get? b=some o->h4.get? b=some o:=λb o eb=>hkp b o (by rw [<- hP]; exact Heap.get?_push_of_some _ eb)
 have hD4:h4.get? s2.heap.objs.size=some { cls:=.type "list",data:=.seq ([]:List Value).toArray 0 }:=hkp _ _ (by rw [<- hP]; exact Heap.get?_push_size _ rfl)
 have IY:zQ (xT X scope (yV own caps) HD.objs.size s2 H2 fp) [] (uS own caps σ) H2 { s2 with heap:=h4 }:=
  Qc B I2 f2 (by omega) hlt hns old hcell rfl I2.bare
 have stat:∀ {H':Hp},(∀ b∈fp,H' b=none)->∀ b∈fp,xG (xT X scope (yV own caps) HD.objs.size s2 H2 fp) [] H' b:=λ{H'} hn b hb=>by
  have hb2:=hlt b hb
  refine ⟨hn b hb,?_,λz=>?_,.inl hb,λx c ec=>(match gA B ec with | .inl z=>qM hb2 hle z.2 | .inr z=>(f2 b hb).2.2.2.2.1 x c z),λp hp=>by simp at hp⟩
  ·exact Nat.ne_of_lt (Nat.lt_of_lt_of_le hb2 hle)
  ·rcases List.mem_cons.mp (I2.stkSub b z) with e | z
   ·exact (f2 b hb).2.1 e
   ·exact (f2 b hb).2.2.1 z
 have statD:∀ {H':Hp},H' s2.heap.objs.size=none->xG (xT X scope (yV own caps) HD.objs.size s2 H2 fp) [] H' s2.heap.objs.size:=λ{H'} hn=>by
  refine ⟨hn,hDC,λz=>?_,.inr (Nat.le_refl _),λx c ec z=>?_,λp hp=>by simp at hp⟩
  ·obtain ⟨_,o,ho,_⟩:=I2.stack.mem z
   exact absurd (Heap.lt_size ho) (Nat.lt_irrefl _)
  ·rcases gA B ec with ⟨_,y⟩ | y
   ·exact kG hCD y z
   ·have:=Xe I2 y
    rw [z] at this
    exact Nat.lt_irrefl _ this
 have neD:∀ b∈fp,b≠s2.heap.objs.size:=λb hb=>Nat.ne_of_lt (hlt b hb)
 have IY':zQ (xT X scope (yV own caps) HD.objs.size s2 H2 fp) [(s2.heap.objs.size,xN [] 0)] (uS own caps σ) H2 { s2 with heap:=h4 }:=
  IY.pins_of λp hp=>by
   rw [List.mem_singleton.mp hp]
   have z:=statD (I2.hok.fresh (Nat.le_refl _))
   exact ⟨hD4,z.1,z.2.1,z.2.2.1,λv z=>by cases z⟩
 have loop:∀ s3:Shared,s3={ s2 with heap:=h4 }->
   codeAny (model X.prog X.w) X.A (.compLoop (.ListComp elt [⟨tg,iter,[],0⟩] scope pos) 0 (.ref it) (.ref s2.heap.objs.size) (compEnvC scope (cellsFrom (HD.objs.size + 1) scope.names (vE scope X.env)) HD.objs.size X.env))
    (RR (.ref s2.heap.objs.size) HD.objs.size) s3:=by
  rintro s3 rfl
  refine zKT (λn s'=>∃ i ys σ' H' its k,zQ (xT X scope (yV own caps) HD.objs.size s2 H2 fp) [(s2.heap.objs.size,xN its k)] σ' H' s'/\tn i s'.heap/\(∀ b∈fp,H' b=none)∧
   zf ys its/\ys.length<=sizeLine/\W i n ys σ' H') ?_ m0 ⟨0,[],_,H2,[],0,IY',T.keep _ _ _ st2 λb hb o eb=>old b o eb,λb hb=>(f2 b hb).1,.nil,Nat.zero_le _,w0⟩
  rintro n s5 ⟨i,ys,σ5,H5,its,k,I5,st5,fr5,rv5,hz5,w5⟩
  have stat5:∀ {H':Hp},(∀ b∈fp,H' b=none)->∀ b∈fp,xG (xT X scope (yV own caps) HD.objs.size s2 H2 fp) [(s2.heap.objs.size,xN its k)] H' b:=λ{H'} hn b hb=>by
   obtain ⟨a1,a2,a3,a4,a5,_⟩:=stat hn b hb
   refine ⟨a1,a2,a3,a4,a5,λp hp=>?_⟩
   have hp':p∈[(s2.heap.objs.size,xN its k)]:=hp
   rw [List.mem_singleton.mp hp']
   exact Ne.symm (neD b hb)
  rcases turn i n ys σ5 H5 w5 with ⟨stop,qn⟩ | ⟨go,hlen,N,hN,step⟩
  ·refine yQ (T.done (xT X scope (yV own caps) HD.objs.size s2 H2 fp) rfl rfl rfl hc i _ s5 σ5 H5 _ I5 (stat5 fr5) st5 stop) λr s6 ⟨hr,I6⟩=>?_
   subst hr
   obtain ⟨pD1,pD2,_⟩:=I6.pin (s2.heap.objs.size,xN its k) (List.mem_append_right _ List.mem_cons_self)
   obtain ⟨m6,hn6,_⟩:=I6.loc
   refine hRR _ _ s6 H5 ys m6 hn6 (by omega) (λh' sb=>?_) (by rw [yW (Ne.symm hDC)]; exact I6.free) (qn _ pD2)
   have hC5:H5 HD.objs.size=none:=I6.free
   have nb:∀ b o,s2.heap.get? b=some o->b≠HD.objs.size/\b≠s2.heap.objs.size:=λb o eb=>by
    have hb:=Heap.lt_size eb
    exact ⟨Nat.ne_of_lt (Nat.lt_of_lt_of_le hb hle),Nat.ne_of_lt hb⟩
   have nt:∀ b o,H5 b=some o->b≠s2.heap.objs.size:=λb o eb z=>by rw [z] at eb; rw [show H5 s2.heap.objs.size=none from pD2] at eb; cases eb
   have un:Un (xq X.stack) fp H2 (upd H5 s2.heap.objs.size (.lst ys)) s2.heap h':=
    ⟨λb o eb n1 n2 n3=>sb.extBut b o (nb b o eb).1 (I6.base.keep b o eb n1 n2 n3),
     λb o eb n1 n2 n3=>by
      obtain ⟨sl,e1⟩:=I6.base.slot b o eb n1 n2 n3
      exact ⟨sl,sb.extBut b _ (nb b o eb).1 e1⟩,
     λb o eb n1 n3=>by
      rw [yW (nb b o eb).2]
      exact I6.base.free b o eb n1 n3,
     λb o eb n3=>by
      obtain ⟨o',e1⟩:=I6.base.there b o eb n3
      exact ⟨o',sb.extBut b _ (nb b o eb).1 e1⟩,
     λb xs eb=>by
      have e1:=I6.base.tups b xs eb
      rw [yW (nt b _ e1)]
      exact e1,
     λb o u eb=>by
      have e1:=I6.base.frzs b o u eb
      rw [yW (nt b _ e1)]
      exact e1,
     λb ps eb=>by
      obtain ⟨more,e1⟩:=I6.base.tbls b ps eb
      refine ⟨more,?_⟩
      rw [yW (nt b _ e1)]
      exact e1⟩
   have ok5:xI X.prog X.w (upd H5 s2.heap.objs.size (.lst ys)) h':=λb u eb=>by
    by_cases hb:b=s2.heap.objs.size
    ·subst hb
     rw [zj] at eb
     cases eb
     exact ⟨hz5,its,k,rv5,sb.extBut _ _ hDC pD1⟩
    ·rw [yW hb] at eb
     refine (I6.hok b u eb).stay (λc v hcv ev=>sb.extBut c v ?_ ev) (λc ec=>by rw [yW (nt c _ ec)]; exact ec) λc xs ec=>by rw [yW (nt c _ ec)]; exact ec
     rintro rfl
     rcases hcv with z | z
     ·rw [<- z,hC5] at eb
      cases eb
     ·rw [hC5] at z
      cases z
   exact I2.call' (s':={ s6 with heap:=h' }) (ch:=fp) I6.os un ok5 I6.bare λb hb=>⟨(f2 b hb).2.2.2.1,(f2 b hb).2.1,(f2 b hb).2.2.2.2.1,(f2 b hb).2.2.2.2.2⟩
  ·refine yQ (T.item (xT X scope (yV own caps) HD.objs.size s2 H2 fp) rfl rfl rfl hc i _ s5 σ5 H5 _ I5 (stat5 fr5) st5 go) λr s6 ⟨u,hr,h6⟩=>?_
   subst hr
   refine yQ h6 λ_ s7 ⟨x,H7,I7,r7,y7,st7,fr7⟩=>?_
   have I7':=I7.pinned (stat5 fr7) (T.obj _ _ st7)
   refine yQ (hg HD.objs.size s2 H2 fp _ s7 σ5 H7 x u _ I7' r7 (step x H7 y7)) λ_ s8 ⟨σ8,H8,I8,q8⟩=>?_
   refine yQ (he HD.objs.size s2 H2 fp _ s8 σ8 H8 _ I8 q8) λyv s9 ⟨y,H9,I9,r9,n9⟩=>?_
   obtain ⟨m',hm',w9⟩:=hN y σ8 H9 n9
   have pD9:=(I9.pin (s2.heap.objs.size,xN its k) (List.mem_append_right _ (List.mem_append_left _ List.mem_cons_self))).2.1
   have hl:its.length=ys.length:=rv5.length.symm
   refine QP (Y:=xT X scope (yV own caps) HD.objs.size s2 H2 fp) (its:=its) (k:=k) (pl:=qt fp s7.heap) I9 (statD pD9) rfl (by omega) λh' k' tk keep I'=>?_
   refine ⟨m',hm',i + 1,ys++[y],σ8,H9,its++[yv],k',I',?_,λb hb=>?_,rv5.append (.cons r9 .nil),?_,w9⟩
   ·refine T.keep _ _ _ st7 λb hb o eb=>keep b o (neD b hb) ?_
    exact (I9.pin (b,o) (List.mem_append_right _ (List.mem_append_right _ (jk hb eb)))).1
   ·obtain ⟨o,eb,_⟩:=T.obj _ _ st7 b hb
    exact (I9.pin (b,o) (List.mem_append_right _ (List.mem_append_right _ (jk hb eb)))).2.1
   ·rw [List.length_append,List.length_singleton]
    omega
 exact codeAny_compStart_list (loop _ rfl) (T.self _ 0 _ _ _ (T.keep _ _ _ st2 λb hb o eb=>old b o eb) (loop _ rfl))
theorem xu (B:uW X scope own caps) (hc:X.calm=true) (hi:PI X tg iter wi) (hg:∀ C s₀ H₀ ex,PG (xT X scope (yV own caps) C s₀ H₀ ex) tg g)
  (he:∀ C s₀ H₀ ex,PE (xT X scope (yV own caps) C s₀ H₀ ex) elt te) (hs:∀ x,foldedSetIterable iter X.env x=pure x:=by intro _; rfl) :
  PE X (.ListComp elt [⟨tg,iter,[],0⟩] scope pos) (QO own caps wi g te):=by
 intro pins s σ H Q I h
 rw [eval_ListComp]
 refine wpAny_comprehension_free (use:=none) rfl hs (ZV B.free) B.kind B.locs ?_
 refine yQ (hi pins s σ H _ I h) λxv s1 h1=>yQ h1 λitv s2 h2=>?_
 obtain ⟨it,fp,tn,J,H2,e,I2,T,st2,f2,W,⟨m0,w0⟩,turn⟩:=h2
 subst e
 refine Qd (RR:=λacc C=>compPost (model X.prog X.w) X.A X.xe none (EP X pins σ Q) acc C) B hc hg he I2 T st2 f2 w0 turn λD C s6 H6 ys m hn hC J6 hC6 q=>?_
 exact ⟨m,hn,λh' sb=>⟨.ref D,_,J6 h' sb,rfl,q⟩⟩
theorem qO {i:Nat} {y:Str} {py spos:Pos} (hN:X.N.Nodup) (hy:X.N[i]? = some y) (hl:X.env.scope.names.lookup y=some .local) (B:uW X scope own caps) (hc:X.calm=true) (hi:PI X tg iter wi) (hg:∀ C s₀ H₀ ex,PG (xT X scope (yV own caps) C s₀ H₀ ex) tg g)
  (he:∀ C s₀ H₀ ex,PE (xT X scope (yV own caps) C s₀ H₀ ex) elt te) (hsw:swapsWith (.ListComp elt [⟨tg,iter,[],0⟩] scope pos) (some (.Name y py)) spos.line X.env=pure true) (hs:∀ x,foldedSetIterable iter X.env x=pure x:=by intro _; rfl) :
  PS X (.Assign [.Name y py] (.ListComp elt [⟨tg,iter,[],0⟩] scope pos) spos) (jQ (QO own caps wi g te) (uF i)):=by
 intro pins s σ H D0 I h
 rw [exec_Assign_Name_used _ _ _ _ hsw]
 refine wpAny_bind (wpAny_standAt (wpAny_bind ?_))
 change wpAny _ X.A (do let _ <- comprehension (.ListComp elt [⟨tg,iter,[],0⟩] scope pos) scope X.env _ (newList []) false (eval iter X.env) (some (assign (.Name y py) X.env))) _ _ s
 refine wpAny_bind (wpAny_mono (wpAny_comprehension_free (use:=some (assign (.Name y py) X.env)) (Q:=λ_ s'=>SP X pins D0 .next s') rfl hs (ZV B.free) B.kind B.locs ?_) (λ_ s' hq=>wpAny_pure (wpAny_pure hq)) λ_ _ e=>e)
 refine yQ (hi pins s σ H _ I h) λxv s1 h1=>yQ h1 λitv s2 h2=>?_
 obtain ⟨it,fp,tn,J,H2,e,I2,T,st2,f2,W,⟨m0,w0⟩,turn⟩:=h2
 subst e
 refine Qd (Q:=λx H1=>D0.nx (σ.set i (some x)) H1) (RR:=λacc C=>compPost (model X.prog X.w) X.A X.xe (some (assign (.Name y py) X.env)) (λ_ s'=>SP X pins D0 .next s') acc C) B hc hg he I2 T st2 f2 w0 turn λD C s6 H6 ys m hn hC J6 hC6 q=>?_
 have I6:zQ X pins σ (upd H6 D (.lst ys)) s6:=J6 s6.heap (.refl ..)
 have CL:C≠X.env.locals:=λz=>by rw [z] at hC; exact absurd (Nat.lt_of_lt_of_le I2.lt hC) (Nat.lt_irrefl _)
 have CC:∀ x c,X.env.cells.lookup x=some c->c≠C:=λx c ec z=>by
  obtain ⟨v,o,ho,_⟩:=I2.cell x c ec
  rw [z] at ho
  exact absurd (Nat.lt_of_lt_of_le (Heap.lt_size ho) hC) (Nat.lt_irrefl _)
 have CP:∀ p∈X.pn++pins,p.1≠C:=λp hp z=>by
  have hl:=Heap.lt_size (I2.pin p hp).1
  rw [z] at hl
  exact absurd (Nat.lt_of_lt_of_le hl hC) (Nat.lt_irrefl _)
 change wpAny _ X.A (assign (.Name y py) X.env (.ref D)) _ _ s6
 refine wpAny_assign_Name (Yr I6 hN hy (.inl hl) (v:=.ref D) rfl (λs7 I7 ⟨a,sb,ha⟩=>?_) (.inr hl))
 have aC:C≠a:=λz=>by
  rcases ha with e | e
  ·exact CL (z.trans e)
  ·exact CC _ _ e z.symm
 refine ⟨m,hn.sameBut sb aC,λh' sb'=>⟨_,_,I7.turned (h':=h') (t':=s7.toks) (it:=C) (λb o hb eb=>sb'.extBut b o hb eb) hC6 CL (.inr (Nat.le_trans I2.sz hC)) CC CP,q⟩⟩
theorem Qe {pins:List (Addr × Obj)} {σ:St} {H2:Hp} {s2:Shared} {it:Addr} {fp:List Addr} {tn:Nat->Heap->Prop} {J:It} {W:Nat->Nat->List V->St->Hp->Prop} {m0:Nat} {Q:VK} {E:Value->Shared->Prop} {RR:Value->Addr->Result->Shared->Prop}
  (B:uW X scope own caps) (hc:X.calm=true) (hg:∀ C s₀ H₀ ex,PG (xT X scope (yV own caps) C s₀ H₀ ex) tg g) (ht:∀ C s₀ H₀ ex,PT (xT X scope (yV own caps) C s₀ H₀ ex) cond tc) (he:∀ C s₀ H₀ ex,PE (xT X scope (yV own caps) C s₀ H₀ ex) elt te)
  (I2:zQ X pins σ H2 s2) (T:wW X.prog X.w X.K tg J fp it tn) (st2:tn 0 s2.heap) (f2:∀ b∈fp,xG X pins H2 b) (w0:W 0 m0 [] (uS own caps σ) H2)
  (turn:∀ i m ys σ1 H,W i m ys σ1 H->(J.stop i H/\∀ p,H p=none->Q (.ref p) (upd H p (.lst ys)))∨
   (J.go i H/\ys.length < sizeLine/\∃ (N:V->St->Hp->Prop) (N0:St->Hp->Prop),(∀ y σ' H',N y σ' H'->∃ m',m' < m/\W (i + 1) m' (ys++[y]) σ' H')/\(∀ σ' H',N0 σ' H'->∃ m',m' < m/\W (i + 1) m' ys σ' H')∧
    ∀ x H',J.yld i H x H'->g x σ1 H' λσ2 H2=>tc σ2 H2 λb H3=>if b=true then te σ2 H3 λy H4=>N y σ2 H4 else N0 σ2 H3))
  (hRR:∀ D C s6 H6 ys m,s6.heap.Ns C m->s2.heap.objs.size<=C->(∀ h',Heap.SameBut C s6.heap h'->zQ X pins σ (upd H6 D (.lst ys)) { s6 with heap:=h' })->upd H6 D (.lst ys) C=none->Q (.ref D) (upd H6 D (.lst ys))->RR (.ref D) C (.ok .next) s6) :
  wpAny (model X.prog X.w) X.A (newList []) (λacc s3=>wpAny (model X.prog X.w) X.A (newFunctionEnv scope X.env.globals (vE scope X.env) [] X.env.qual none .none (some X.env)) (λcenv s4=>
   codeAny (model X.prog X.w) X.A (.compStart (.ListComp elt [⟨tg,iter,[cond],0⟩] scope pos) 0 (.ref it) acc { cenv with scope:=relabel scope X.env }) (RR acc cenv.locals) s4) E s3) E s2:=by
 have hlt:∀ b∈fp,b < s2.heap.objs.size:=λb hb=>by
  obtain ⟨o,ho,_⟩:=T.obj _ _ st2 b hb
  exact Heap.lt_size ho
 refine wpAny_newObj_type (Qb ?_)
 dsimp only
 generalize hP:s2.heap.push { cls:=.type "list",dict:=none,data:=.seq ([]:List Value).toArray }=HD
 have hns:(pushCells (HD.push { cls:=.type "dict",data:=.dict #[] }) scope.names).Ns HD.objs.size (λ_=>none):=(Heap.Ns.new HD (.type "dict")).keeps (pushCells_keeps _ _)
 have hkp:∀ b o,HD.get? b=some o->(pushCells (HD.push { cls:=.type "dict",data:=.dict #[] }) scope.names).get? b=some o:=λb o e=>pushCells_keeps _ _ b o (Heap.get?_push_of_some _ e)
 have hcell:∀ x c,(cellsFrom (HD.objs.size + 1) scope.names (vE scope X.env)).lookup x=some c->(vE scope X.env).lookup x=some c\/(pushCells (HD.push { cls:=.type "dict",data:=.dict #[] }) scope.names).IsCell c none:=λx c e=>
  Zn _ _ _ (by rw [Heap.size_push]; exact e)
 generalize hP4:pushCells (HD.push { cls:=.type "dict",data:=.dict #[] }) scope.names=h4 at hns hkp hcell |-
 have hCD:HD.objs.size=s2.heap.objs.size + 1:=by rw [<- hP,Heap.size_push]
 have hDC:s2.heap.objs.size≠HD.objs.size:=by omega
 have hle:s2.heap.objs.size<=HD.objs.size:=by omega
 have old:∀ b o,s2.heap.get? b=some o->h4.get? b=some o:=λb o eb=>hkp b o (by rw [<- hP]; exact Heap.get?_push_of_some _ eb)
 have hD4:h4.get? s2.heap.objs.size=some { cls:=.type "list",data:=.seq ([]:List Value).toArray 0 }:=hkp _ _ (by rw [<- hP]; exact Heap.get?_push_size _ rfl)
 have IY:zQ (xT X scope (yV own caps) HD.objs.size s2 H2 fp) [] (uS own caps σ) H2 { s2 with heap:=h4 }:=
  Qc B I2 f2 (by omega) hlt hns old hcell rfl I2.bare
 have stat:∀ {H':Hp},(∀ b∈fp,H' b=none)->∀ b∈fp,xG (xT X scope (yV own caps) HD.objs.size s2 H2 fp) [] H' b:=λ{H'} hn b hb=>by
  have hb2:=hlt b hb
  refine ⟨hn b hb,?_,λz=>?_,.inl hb,λx c ec=>(match gA B ec with | .inl z=>qM hb2 hle z.2 | .inr z=>(f2 b hb).2.2.2.2.1 x c z),λp hp=>by simp at hp⟩
  ·exact Nat.ne_of_lt (Nat.lt_of_lt_of_le hb2 hle)
  ·rcases List.mem_cons.mp (I2.stkSub b z) with e | z
   ·exact (f2 b hb).2.1 e
   ·exact (f2 b hb).2.2.1 z
 have statD:∀ {H':Hp},H' s2.heap.objs.size=none->xG (xT X scope (yV own caps) HD.objs.size s2 H2 fp) [] H' s2.heap.objs.size:=λ{H'} hn=>by
  refine ⟨hn,hDC,λz=>?_,.inr (Nat.le_refl _),λx c ec z=>?_,λp hp=>by simp at hp⟩
  ·obtain ⟨_,o,ho,_⟩:=I2.stack.mem z
   exact absurd (Heap.lt_size ho) (Nat.lt_irrefl _)
  ·rcases gA B ec with ⟨_,y⟩ | y
   ·exact kG hCD y z
   ·have:=Xe I2 y
    rw [z] at this
    exact Nat.lt_irrefl _ this
 have neD:∀ b∈fp,b≠s2.heap.objs.size:=λb hb=>Nat.ne_of_lt (hlt b hb)
 have IY':zQ (xT X scope (yV own caps) HD.objs.size s2 H2 fp) [(s2.heap.objs.size,xN [] 0)] (uS own caps σ) H2 { s2 with heap:=h4 }:=
  IY.pins_of λp hp=>by
   rw [List.mem_singleton.mp hp]
   have z:=statD (I2.hok.fresh (Nat.le_refl _))
   exact ⟨hD4,z.1,z.2.1,z.2.2.1,λv z=>by cases z⟩
 have loop:∀ s3:Shared,s3={ s2 with heap:=h4 }->
   codeAny (model X.prog X.w) X.A (.compLoop (.ListComp elt [⟨tg,iter,[cond],0⟩] scope pos) 0 (.ref it) (.ref s2.heap.objs.size) (compEnvC scope (cellsFrom (HD.objs.size + 1) scope.names (vE scope X.env)) HD.objs.size X.env))
    (RR (.ref s2.heap.objs.size) HD.objs.size) s3:=by
  rintro s3 rfl
  refine zIr (λn s'=>∃ i ys σ' H' its k,zQ (xT X scope (yV own caps) HD.objs.size s2 H2 fp) [(s2.heap.objs.size,xN its k)] σ' H' s'/\tn i s'.heap/\(∀ b∈fp,H' b=none)∧
   zf ys its/\ys.length<=sizeLine/\W i n ys σ' H') ?_ m0 ⟨0,[],_,H2,[],0,IY',T.keep _ _ _ st2 λb hb o eb=>old b o eb,λb hb=>(f2 b hb).1,.nil,Nat.zero_le _,w0⟩
  rintro n s5 ⟨i,ys,σ5,H5,its,k,I5,st5,fr5,rv5,hz5,w5⟩
  have stat5:∀ {H':Hp},(∀ b∈fp,H' b=none)->∀ b∈fp,xG (xT X scope (yV own caps) HD.objs.size s2 H2 fp) [(s2.heap.objs.size,xN its k)] H' b:=λ{H'} hn b hb=>by
   obtain ⟨a1,a2,a3,a4,a5,_⟩:=stat hn b hb
   refine ⟨a1,a2,a3,a4,a5,λp hp=>?_⟩
   have hp':p∈[(s2.heap.objs.size,xN its k)]:=hp
   rw [List.mem_singleton.mp hp']
   exact Ne.symm (neD b hb)
  rcases turn i n ys σ5 H5 w5 with ⟨stop,qn⟩ | ⟨go,hlen,N,N0,hN,hN0,step⟩
  ·refine yQ (T.done (xT X scope (yV own caps) HD.objs.size s2 H2 fp) rfl rfl rfl hc i _ s5 σ5 H5 _ I5 (stat5 fr5) st5 stop) λr s6 ⟨hr,I6⟩=>?_
   subst hr
   obtain ⟨pD1,pD2,_⟩:=I6.pin (s2.heap.objs.size,xN its k) (List.mem_append_right _ List.mem_cons_self)
   obtain ⟨m6,hn6,_⟩:=I6.loc
   refine hRR _ _ s6 H5 ys m6 hn6 (by omega) (λh' sb=>?_) (by rw [yW (Ne.symm hDC)]; exact I6.free) (qn _ pD2)
   have hC5:H5 HD.objs.size=none:=I6.free
   have nb:∀ b o,s2.heap.get? b=some o->b≠HD.objs.size/\b≠s2.heap.objs.size:=λb o eb=>by
    have hb:=Heap.lt_size eb
    exact ⟨Nat.ne_of_lt (Nat.lt_of_lt_of_le hb hle),Nat.ne_of_lt hb⟩
   have nt:∀ b o,H5 b=some o->b≠s2.heap.objs.size:=λb o eb z=>by rw [z] at eb; rw [show H5 s2.heap.objs.size=none from pD2] at eb; cases eb
   have un:Un (xq X.stack) fp H2 (upd H5 s2.heap.objs.size (.lst ys)) s2.heap h':=
    ⟨λb o eb n1 n2 n3=>sb.extBut b o (nb b o eb).1 (I6.base.keep b o eb n1 n2 n3),
     λb o eb n1 n2 n3=>by
      obtain ⟨sl,e1⟩:=I6.base.slot b o eb n1 n2 n3
      exact ⟨sl,sb.extBut b _ (nb b o eb).1 e1⟩,
     λb o eb n1 n3=>by
      rw [yW (nb b o eb).2]
      exact I6.base.free b o eb n1 n3,
     λb o eb n3=>by
      obtain ⟨o',e1⟩:=I6.base.there b o eb n3
      exact ⟨o',sb.extBut b _ (nb b o eb).1 e1⟩,
     λb xs eb=>by
      have e1:=I6.base.tups b xs eb
      rw [yW (nt b _ e1)]
      exact e1,
     λb o u eb=>by
      have e1:=I6.base.frzs b o u eb
      rw [yW (nt b _ e1)]
      exact e1,
     λb ps eb=>by
      obtain ⟨more,e1⟩:=I6.base.tbls b ps eb
      refine ⟨more,?_⟩
      rw [yW (nt b _ e1)]
      exact e1⟩
   have ok5:xI X.prog X.w (upd H5 s2.heap.objs.size (.lst ys)) h':=λb u eb=>by
    by_cases hb:b=s2.heap.objs.size
    ·subst hb
     rw [zj] at eb
     cases eb
     exact ⟨hz5,its,k,rv5,sb.extBut _ _ hDC pD1⟩
    ·rw [yW hb] at eb
     refine (I6.hok b u eb).stay (λc v hcv ev=>sb.extBut c v ?_ ev) (λc ec=>by rw [yW (nt c _ ec)]; exact ec) λc xs ec=>by rw [yW (nt c _ ec)]; exact ec
     rintro rfl
     rcases hcv with z | z
     ·rw [<- z,hC5] at eb
      cases eb
     ·rw [hC5] at z
      cases z
   exact I2.call' (s':={ s6 with heap:=h' }) (ch:=fp) I6.os un ok5 I6.bare λb hb=>⟨(f2 b hb).2.2.2.1,(f2 b hb).2.1,(f2 b hb).2.2.2.2.1,(f2 b hb).2.2.2.2.2⟩
  ·refine yQ (T.item (xT X scope (yV own caps) HD.objs.size s2 H2 fp) rfl rfl rfl hc i _ s5 σ5 H5 _ I5 (stat5 fr5) st5 go) λr s6 ⟨u,hr,h6⟩=>?_
   subst hr
   refine yQ h6 λ_ s7 ⟨x,H7,I7,r7,y7,st7,fr7⟩=>?_
   have I7':=I7.pinned (stat5 fr7) (T.obj _ _ st7)
   refine yQ (hg HD.objs.size s2 H2 fp _ s7 σ5 H7 x u _ I7' r7 (step x H7 y7)) λ_ s8 ⟨σ8,H8,I8,q8⟩=>?_
   refine yQ (ht HD.objs.size s2 H2 fp _ s8 σ8 H8 _ I8 q8) λok sT ⟨HT,IT,qT⟩=>?_
   cases ok with
   | false=>
    obtain ⟨m',hm',w9⟩:=hN0 σ8 HT qT
    refine ⟨m',hm',i + 1,ys,σ8,HT,its,k,IT.unpinned,?_,λb hb=>?_,rv5,hz5,w9⟩
    ·refine T.keep _ _ _ st7 λb hb o eb=>?_
     exact (IT.pin (b,o) (List.mem_append_right _ (List.mem_append_right _ (jk hb eb)))).1
    ·obtain ⟨o,eb,_⟩:=T.obj _ _ st7 b hb
     exact (IT.pin (b,o) (List.mem_append_right _ (List.mem_append_right _ (jk hb eb)))).2.1
   | true=>
    refine yQ (he HD.objs.size s2 H2 fp _ sT σ8 HT _ IT qT) λyv s9 ⟨y,H9,I9,r9,n9⟩=>?_
    obtain ⟨m',hm',w9⟩:=hN y σ8 H9 n9
    have pD9:=(I9.pin (s2.heap.objs.size,xN its k) (List.mem_append_right _ (List.mem_append_left _ List.mem_cons_self))).2.1
    have hl:its.length=ys.length:=rv5.length.symm
    refine QP (Y:=xT X scope (yV own caps) HD.objs.size s2 H2 fp) (its:=its) (k:=k) (pl:=qt fp s7.heap) I9 (statD pD9) rfl (by omega) λh' k' tk keep I'=>?_
    refine ⟨m',hm',i + 1,ys++[y],σ8,H9,its++[yv],k',I',?_,λb hb=>?_,rv5.append (.cons r9 .nil),?_,w9⟩
    ·refine T.keep _ _ _ st7 λb hb o eb=>keep b o (neD b hb) ?_
     exact (I9.pin (b,o) (List.mem_append_right _ (List.mem_append_right _ (jk hb eb)))).1
    ·obtain ⟨o,eb,_⟩:=T.obj _ _ st7 b hb
     exact (I9.pin (b,o) (List.mem_append_right _ (List.mem_append_right _ (jk hb eb)))).2.1
    ·rw [List.length_append,List.length_singleton]
     omega
 exact codeAny_compStart_list (loop _ rfl) (T.self _ 0 _ _ _ (T.keep _ _ _ st2 λb hb o eb=>old b o eb) (loop _ rfl))
theorem zK7 (B:uW X scope own caps) (hc:X.calm=true) (hi:PI X tg iter wi) (hg:∀ C s₀ H₀ ex,PG (xT X scope (yV own caps) C s₀ H₀ ex) tg g)
  (ht:∀ C s₀ H₀ ex,PT (xT X scope (yV own caps) C s₀ H₀ ex) cond tc) (he:∀ C s₀ H₀ ex,PE (xT X scope (yV own caps) C s₀ H₀ ex) elt te) (hs:∀ x,foldedSetIterable iter X.env x=pure x:=by intro _; rfl) :
  PE X (.ListComp elt [⟨tg,iter,[cond],0⟩] scope pos) (QW own caps wi g tc te):=by
 intro pins s σ H Q I h
 rw [eval_ListComp]
 refine wpAny_comprehension_free (use:=none) rfl hs (ZV B.free) B.kind B.locs ?_
 refine yQ (hi pins s σ H _ I h) λxv s1 h1=>yQ h1 λitv s2 h2=>?_
 obtain ⟨it,fp,tn,J,H2,e,I2,T,st2,f2,W,⟨m0,w0⟩,turn⟩:=h2
 subst e
 refine Qe (RR:=λacc C=>compPost (model X.prog X.w) X.A X.xe none (EP X pins σ Q) acc C) B hc hg ht he I2 T st2 f2 w0 turn λD C s6 H6 ys m hn hC J6 hC6 q=>?_
 exact ⟨m,hn,λh' sb=>⟨.ref D,_,J6 h' sb,rfl,q⟩⟩
theorem Zo {i:Nat} {y:Str} {py spos:Pos} (hN:X.N.Nodup) (hy:X.N[i]? = some y) (hl:X.env.scope.names.lookup y=some .local) (B:uW X scope own caps) (hc:X.calm=true) (hi:PI X tg iter wi) (hg:∀ C s₀ H₀ ex,PG (xT X scope (yV own caps) C s₀ H₀ ex) tg g)
  (ht:∀ C s₀ H₀ ex,PT (xT X scope (yV own caps) C s₀ H₀ ex) cond tc) (he:∀ C s₀ H₀ ex,PE (xT X scope (yV own caps) C s₀ H₀ ex) elt te) (hsw:swapsWith (.ListComp elt [⟨tg,iter,[cond],0⟩] scope pos) (some (.Name y py)) spos.line X.env=pure true) (hs:∀ x,foldedSetIterable iter X.env x=pure x:=by intro _; rfl) :
  PS X (.Assign [.Name y py] (.ListComp elt [⟨tg,iter,[cond],0⟩] scope pos) spos) (jQ (QW own caps wi g tc te) (uF i)):=by
 intro pins s σ H D0 I h
 rw [exec_Assign_Name_used _ _ _ _ hsw]
 refine wpAny_bind (wpAny_standAt (wpAny_bind ?_))
 change wpAny _ X.A (do let _ <- comprehension (.ListComp elt [⟨tg,iter,[cond],0⟩] scope pos) scope X.env _ (newList []) false (eval iter X.env) (some (assign (.Name y py) X.env))) _ _ s
 refine wpAny_bind (wpAny_mono (wpAny_comprehension_free (use:=some (assign (.Name y py) X.env)) (Q:=λ_ s'=>SP X pins D0 .next s') rfl hs (ZV B.free) B.kind B.locs ?_) (λ_ s' hq=>wpAny_pure (wpAny_pure hq)) λ_ _ e=>e)
 refine yQ (hi pins s σ H _ I h) λxv s1 h1=>yQ h1 λitv s2 h2=>?_
 obtain ⟨it,fp,tn,J,H2,e,I2,T,st2,f2,W,⟨m0,w0⟩,turn⟩:=h2
 subst e
 refine Qe (Q:=λx H1=>D0.nx (σ.set i (some x)) H1) (RR:=λacc C=>compPost (model X.prog X.w) X.A X.xe (some (assign (.Name y py) X.env)) (λ_ s'=>SP X pins D0 .next s') acc C) B hc hg ht he I2 T st2 f2 w0 turn λD C s6 H6 ys m hn hC J6 hC6 q=>?_
 have I6:zQ X pins σ (upd H6 D (.lst ys)) s6:=J6 s6.heap (.refl ..)
 have CL:C≠X.env.locals:=λz=>by rw [z] at hC; exact absurd (Nat.lt_of_lt_of_le I2.lt hC) (Nat.lt_irrefl _)
 have CC:∀ x c,X.env.cells.lookup x=some c->c≠C:=λx c ec z=>by
  obtain ⟨v,o,ho,_⟩:=I2.cell x c ec
  rw [z] at ho
  exact absurd (Nat.lt_of_lt_of_le (Heap.lt_size ho) hC) (Nat.lt_irrefl _)
 have CP:∀ p∈X.pn++pins,p.1≠C:=λp hp z=>by
  have hl:=Heap.lt_size (I2.pin p hp).1
  rw [z] at hl
  exact absurd (Nat.lt_of_lt_of_le hl hC) (Nat.lt_irrefl _)
 change wpAny _ X.A (assign (.Name y py) X.env (.ref D)) _ _ s6
 refine wpAny_assign_Name (Yr I6 hN hy (.inl hl) (v:=.ref D) rfl (λs7 I7 ⟨a,sb,ha⟩=>?_) (.inr hl))
 have aC:C≠a:=λz=>by
  rcases ha with e | e
  ·exact CL (z.trans e)
  ·exact CC _ _ e z.symm
 refine ⟨m,hn.sameBut sb aC,λh' sb'=>⟨_,_,I7.turned (h':=h') (t':=s7.toks) (it:=C) (λb o hb eb=>sb'.extBut b o hb eb) hC6 CL (.inr (Nat.le_trans I2.sz hC)) CC CP,q⟩⟩
end
theorem zMw {X:Cx} {scope S:Scope} {own N:List Str} {caps:List (Nat × Str)} (k:scope.kind=.function) (nd:(scope.names.map (·.1)).Nodup)
  (hS:X.env.scope=S) (hc:∃ n,X.env.cells=cellsFrom n S.names []) (hN:X.N=N) (fr:scope.names.all (λy=>y.2 != .free || S.names.lookup y.1 == some .cell)=true)
  (cp:caps.all (λp=>N[p.1]? == some p.2 && scope.names.lookup p.2 == some .free && S.names.lookup p.2 == some .cell)=true):uW X scope own caps:=by
 obtain ⟨nn,hc⟩:=hc
 refine ⟨k,nd,λy hy e=>?_,λy hy e=>?_,λp hp=>?_⟩
 ·exact qN nd (by rw [<- e]; exact hy)
 ·have q:=List.all_eq_true.mp fr y hy
  rw [e] at q
  have q2:S.names.lookup y.1=some .cell:=by simpa using q
  rw [hc]
  exact PySem.W.cellsFrom_some S.names nn [] (.inl q2)
 ·have q:=List.all_eq_true.mp cp p hp
  simp only [Bool.and_eq_true,beq_iff_eq] at q
  refine ⟨by rw [hN]; exact q.1.1,q.1.2,.inl ?_⟩
  show X.env.scope.names.lookup p.2=some .cell
  rw [hS]
  exact q.2
theorem zO4 {Y:Cx} {scope S:Scope} {own own0:List Str} {caps caps0:List (Nat × Str)} {C:Addr} {s₀:Shared} {H₀:Hp} {ex:List Addr} (k:scope.kind=.function) (nd:(scope.names.map (·.1)).Nodup)
  (ndS:(S.names.map (·.1)).Nodup) (fr:scope.names.all (λy=>y.2 != .free || S.names.lookup y.1 == some .cell || S.names.lookup y.1 == some .free)=true)
  (cp:caps.all (λp=>(yV own0 caps0)[p.1]? == some p.2 && scope.names.lookup p.2 == some .free)=true):uW (xT Y S (yV own0 caps0) C s₀ H₀ ex) scope own caps:=by
 have fr':∀ y∈scope.names,y.2=.free->S.names.lookup y.1=some .cell\/S.names.lookup y.1=some .free:=λy hy e=>by
  have q:=List.all_eq_true.mp fr y hy
  rw [e] at q
  simpa using q
 refine ⟨k,nd,λy hy e=>?_,λy hy e=>?_,λp hp=>?_⟩
 ·exact qN nd (by rw [<- e]; exact hy)
 ·show ((cellsFrom (C + 1) S.names (vE S Y.env)).lookup y.1).isSome=true
  refine PySem.W.cellsFrom_some _ _ _ ?_
  rcases fr' y hy e with z | z
  ·exact .inl z
  ·obtain ⟨c,e⟩:=XY (env:=Y.env) (qy z)
   exact .inr (by rw [e]; rfl)
 ·have q:=List.all_eq_true.mp cp p hp
  simp only [Bool.and_eq_true,beq_iff_eq] at q
  refine ⟨q.1,q.2,?_⟩
  show (relabel S Y.env).names.lookup p.2=some .cell\/(relabel S Y.env).names.lookup p.2=some .free
  rw [QN]
  rcases fr' _ (qy q.2) rfl with z | z
  ·left
   show (S.names.lookup p.2).map _=_
   rw [z]
   rfl
  ·show (S.names.lookup p.2).map _=_\/(S.names.lookup p.2).map _=_
   rw [z,Option.map_some]
   split
   ·exact .inl rfl
   ·exact .inr rfl
end L2
namespace Sh
open PySem L2
def xB (ns:List Int) (k:Int):Int:=(ns[k.toNat]?).getD 0
inductive kH (K:PySem.W.Frag) (vs:List V) (H:Hp) (Q:VK) (E:XK):Prop
 | mk (a:Addr) (ns:List Int) (k:Int) (_:vs=[.ref a,.int k]) (_:zJ K H a (ns.map V.int)) (_:0<=k) (_:Q (.int (xB ns k)) H):kH K vs H Q E
theorem zx {H:Hp} {p:Addr} (h:H p=none) (o:HO):zG H (upd H p o):=λb u q=>by rw [yW (wx q h)]; exact q
theorem vm {x y:V}:yk [x,y] 0=some x:=rfl
theorem w4 {x y:V}:yk [x,y] 1=some y:=rfl
def Tp (H:Hp) (v:V) (xs:List V):Prop:=∃ a,v=.ref a/\H a=some (.tup xs)
theorem Tp.same {H H':Hp} {v:V} {xs:List V} (s:zG H H') (h:Tp H v xs):Tp H' v xs:=let ⟨r,e,q⟩:=h; ⟨r,e,s _ _ q⟩
theorem Tp.upd {H:Hp} {v:V} {xs:List V} {l:Addr} {o o':HO} (hl:H l=some o) (n:∀ ys,o≠.tup ys) (h:Tp H v xs):Tp (upd H l o') v xs:=by
 obtain ⟨r,e,q⟩:=h
 exact ⟨r,e,by rw [yW (gS q hl λz=>n _ z.symm)]; exact q⟩
theorem xU {α β:Type} {R:α->β->Prop}:∀ {xs:List α} {ys:List β} {i:Nat} {x:α},Paired R xs ys->xs[i]? = some x->∃ y,ys[i]? = some y/\R x y
 | _,_,_,_,.nil,e=>by simp at e
 | _,_,0,_,.cons r _,e=>by simp at e; subst e; exact ⟨_,rfl,r⟩
 | _,_,i + 1,x,.cons _ t,e=>by
  obtain ⟨y,h1,h2⟩:=xU (i:=i) (x:=x) t (by simpa using e)
  exact ⟨y,by simpa using h1,h2⟩
theorem xg {α β:Type} {R:α->β->Prop} {x:α} {y:β} (r:R x y):∀ {xs:List α} {ys:List β},Paired R xs ys->Paired R (xs++[x]) (ys++[y])
 | _,_,.nil=>.cons r .nil
 | _,_,.cons q t=>.cons q (xg r t)
theorem ju {α β:Type} {R:α->β->Prop}:∀ {xs zs:List α} {ys us:List β},Paired R xs ys->Paired R zs us->Paired R (xs++zs) (ys++us)
 | _,_,_,_,.nil,h=>h
 | _,_,_,_,.cons q t,h=>.cons q (ju t h)
theorem xH {α:Type} {l:List α} {i:Nat} {x:α} (h:l[i]? = some x):l.take (i + 1)=l.take i++[x]:=by
 obtain ⟨hi,e⟩:=List.getElem?_eq_some_iff.mp h
 rw [List.take_succ_eq_append_getElem hi,e]
theorem zMO {H H':Hp} {g:Addr} {o:HO} (h:zG H H') (hg:H g=none):zG H (upd H' g o):=λb u e=>by
 rw [yW (wx e hg)]
 exact h b u e
abbrev xC (H:Hp) (vs:List V) (ks:List (List Int)):Prop:=Paired (λv (k:List Int)=>Tp H v (k.map V.int)) vs ks
theorem xC.same {H H':Hp} {vs:List V} {ks:List (List Int)} (s:zG H H') (h:xC H vs ks):xC H' vs ks:=Paired.mapP h λ_ _ z=>Tp.same s z
theorem jF (K:PySem.W.Frag):PySem.W.kitOne K (.type "list") (.type "list")=some true:=by first | rfl | decide +kernel | (unfold PySem.W.kitOne; rw [if_pos (by decide +kernel)])
def xJ (ws:List Int):List ye:=ws.map Sum.inl
inductive kI (K:PySem.W.Frag) (vs:List V) (H:Hp) (Q:VK) (E:XK):Prop
 | mk (a:Addr) (ns:List Int) (_:vs=[.ref a]) (_:zJ K H a (ns.map V.int)) (_:ns.length<=63) (_:∀ H',Q (.bl true) H'):kI K vs H Q E
inductive jv (vs:List V) (H:Hp) (Q:VK) (E:XK):Prop
 | mk (c m:Int) (_:vs=[.int c,.int m]) (_:0<=m) (_:m<=100) (_:∀ (r:Addr) (H':Hp) (xs:List Int),zG H H'->H r=none->H' r=some (.lst (xs.map V.int))->xs.length=m.toNat->(∀ x∈xs,0<=x/\x < 10 ^ 45)->Q (.ref r) H'):jv vs H Q E
theorem zOD {xs:List Int} {j:Nat} (h:j < xs.length):yk (xs.map V.int) (j:Int)=some (.int (xs[j]'h)):=um (by rw [List.getElem?_map,List.getElem?_eq_getElem h]; rfl)
theorem vn {xs:List Int} {i:Nat} {x:V} (h:(xs.map V.int)[i]? = some x):∃ z,xs[i]? = some z/\x=V.int z:=by
 rw [List.getElem?_map] at h
 cases e:xs[i]? with
 | none=>rw [e] at h; cases h
 | some z=>rw [e] at h; exact ⟨z,rfl,(Option.some.inj h).symm⟩
end Sh
namespace L2
open PySem PySem.Spec PyProof.Rows
def uX (K:PySem.W.Frag) (a b:Addr):It:=
 ⟨λi H=>∃ xs ys x y,zJ K H a xs/\zJ K H b ys/\xs[i]? = some x/\ys[i]? = some y,
  λi H v H'=>∃ T x y,v=.ref T/\H T=none/\H'=upd H T (.tup [x,y])/\(∀ xs,zJ K H a xs->xs[i]? = some x)/\∀ ys,zJ K H b ys->ys[i]? = some y,
  λi H=>∃ xs ys,zJ K H a xs/\zJ K H b ys/\i<=xs.length/\i<=ys.length/\(i=xs.length\/i=ys.length)⟩
theorem zKe {P:Program} {w:World} {K:PySem.W.Frag} {es:List Expr} {kk:Nat} {tp:Pos} {a b z TI TO i1 i2:Addr} (Z:Zp z TI TO i1 i2 [i1,a] [i2,b]) (na:a≠i1) (nb:b≠i2) :
  wW P w K (.Tuple es kk tp) (uX K a b) [z,TI,TO,i1,i2] z (λi h=>IsZip h z TI TO .none/\IsPair h TI (.ref i1) (.ref i2)/\(∃ x y,IsPair h TO x y)/\h.IsListIter i1 a i/\h.IsListIter i2 b i) where
 mem:=by simp
 obj:=λi h ⟨t1,t2,⟨x,y,t3⟩,t4,t5⟩ c hc=>by
  simp only [List.mem_cons,List.not_mem_nil,or_false] at hc
  rcases hc with rfl | rfl | rfl | rfl | rfl
  ·exact ⟨_,t1,uT⟩
  ·exact ⟨_,t2,jt⟩
  ·exact ⟨_,t3,jt⟩
  ·obtain ⟨o,e,_,d⟩:=t4
   exact ⟨o,e,by rw [d]; exact uT⟩
  ·obtain ⟨o,e,_,d⟩:=t5
   exact ⟨o,e,by rw [d]; exact uT⟩
 keep:=λi h h' ⟨t1,t2,⟨x,y,t3⟩,t4,t5⟩ k=>⟨k z (by simp) _ t1,k TI (by simp) _ t2,⟨x,y,k TO (by simp) _ t3⟩,(by obtain ⟨o,e,r⟩:=t4; exact ⟨o,k i1 (by simp) o e,r⟩),(by obtain ⟨o,e,r⟩:=t5; exact ⟨o,k i2 (by simp) o e,r⟩)⟩
 item:=by
  intro X hP hw hK hc i pins s σ H E I hf ⟨t1,t2,⟨x0,y0,t3⟩,t4,t5⟩ hg
  subst hP hw hK
  obtain ⟨xs,ys,x,y,hq1,hq2,hx,hy⟩:=hg
  obtain ⟨its1,rv1,p1,_⟩:=I.list hq1
  obtain ⟨its2,rv2,p2,_⟩:=I.list hq2
  obtain ⟨u,hu,ru⟩:=rv1.get hx
  obtain ⟨v,hv,rv⟩:=rv2.get hy
  have hh:X.A.in1.handled=none:=I.ok.hd hc
  have l1:i < its1.toArray.size:=by rw [List.size_toArray]; exact (List.getElem?_eq_some_iff.mp hu).1
  have l2:i < its2.toArray.size:=by rw [List.size_toArray]; exact (List.getElem?_eq_some_iff.mp hv).1
  refine Zc (Draws.list hh i1 a na its1.toArray) (Draws.list hh i2 b nb its2.toArray) Z t1 t2 t3 ⟨t4,p1.isList⟩ ⟨t5,p2.isList⟩ l1 l2 ?_
  intro x' y' h1 tk px py z1 z2 z3 z4 z5 z6 keep
  have ex:x'=u:=by
   have q:its1.toArray[i]? = some x':=px
   simp only [List.getElem?_toArray] at q
   rw [hu] at q
   exact (Option.some.inj q).symm
  have ey:y'=v:=by
   have q:its2.toArray[i]? = some y':=py
   simp only [List.getElem?_toArray] at q
   rw [hv] at q
   exact (Option.some.inj q).symm
  subst ex ey
  refine ⟨_,rfl,wpAny_letOwnedTupleGo_zip (s:={ s with heap:=h1,toks:=tk }) z1 λh2 z7 sb=>?_⟩
  have zlt:z < s.heap.objs.size:=Heap.lt_size t1
  have keep2:∀ c o,c∉[z,TI,TO,i1,i2]->s.heap.get? c=some o->h2.get? c=some o:=λc o hc e=>by
   simp only [List.mem_cons,List.not_mem_nil,or_false,not_or] at hc
   exact sb.extBut c o hc.1 (keep c o hc.1 hc.2.2.1 hc.2.2.2.1 hc.2.2.2.2 e)
  have pT:IsPair h2 s.heap.objs.size x' y':=sb.extBut _ _ (Nat.ne_of_gt zlt) z6
  have I':=I.turnT (h':=h2) (tk:=tk) (ch:=[z,TI,TO,i1,i2]) (x:=x) (y:=y) hf keep2 (Nat.le_refl _) pT ru rv
  refine ⟨.ref s.heap.objs.size,_,I',rfl,⟨s.heap.objs.size,x,y,rfl,I.hok.fresh (Nat.le_refl _),rfl,λxs' q=>by rw [I.list_inj q hq1]; exact hx,λys' q=>by rw [I.list_inj q hq2]; exact hy⟩,
   ⟨z7,sb.extBut _ _ Z.a1 z2,⟨_,_,sb.extBut _ _ Z.a2 z3⟩,z4.1.extBut sb.extBut Z.a3,z5.1.extBut sb.extBut Z.a4⟩,λc hc=>?_⟩
  have:=(hf c hc).1
  rw [yW]
  ·exact this
  ·intro q
   obtain ⟨o,e,_⟩:∃ o,s.heap.get? c=some o/\True:=by
    simp only [List.mem_cons,List.not_mem_nil,or_false] at hc
    rcases hc with rfl | rfl | rfl | rfl | rfl
    ·exact ⟨_,t1,trivial⟩
    ·exact ⟨_,t2,trivial⟩
    ·exact ⟨_,t3,trivial⟩
    ·obtain ⟨o,e,_⟩:=t4; exact ⟨o,e,trivial⟩
    ·obtain ⟨o,e,_⟩:=t5; exact ⟨o,e,trivial⟩
   rw [q] at e
   exact absurd (Heap.lt_size e) (Nat.lt_irrefl _)
 done:=by
  intro X hP hw hK hc i pins s σ H E I hf ⟨t1,t2,⟨x0,y0,t3⟩,t4,t5⟩ hg
  subst hP hw hK
  obtain ⟨xs,ys,hq1,hq2,e1,e2,e3⟩:=hg
  obtain ⟨its1,rv1,p1,_⟩:=I.list hq1
  obtain ⟨its2,rv2,p2,_⟩:=I.list hq2
  have hh:X.A.in1.handled=none:=I.ok.hd hc
  have n1:its1.toArray.size=xs.length:=by rw [List.size_toArray]; exact rv1.length.symm
  have n2:its2.toArray.size=ys.length:=by rw [List.size_toArray]; exact rv2.length.symm
  refine Zd (Draws.list hh i1 a na its1.toArray) (Draws.list hh i2 b nb its2.toArray) Z t1 t2 t3 ⟨t4,p1.isList⟩ ⟨t5,p2.isList⟩ (by omega) (by omega) (by omega) ?_
  intro h1 tk keep
  refine ⟨rfl,I.turnN (h':=h1) (tk:=tk) (ch:=[z,TI,TO,i1,i2]) hf λc o hc e=>?_⟩
  simp only [List.mem_cons,List.not_mem_nil,or_false,not_or] at hc
  exact keep c o hc.1 hc.2.2.1 hc.2.2.2.1 hc.2.2.2.2 e
 self:=λ_ _ _ _ _ st h=>wpAny_pyIter_zip st.1 h
section
variable {X:Cx} {es:List Expr} {kk:Nat} {tp:Pos}
end
theorem zMo {K:PySem.W.Frag} {a b:Addr} {xs ys:List V} {g:TG} {tb:TS} {D:xx} {σ:St} {H:Hp} (Pv:Nat->St->Hp->Prop) (h0:Pv 0 σ H) (hl:∀ i σ H,i<=xs.length->Pv i σ H->zJ K H a xs/\zJ K H b ys) (hlen:xs.length<=ys.length)
  (hs:∀ i x y T σ H,xs[i]? = some x->ys[i]? = some y->H T=none->Pv i σ H->g (.ref T) σ (upd H T (.tup [x,y])) λσ2 H2=>tb { D with nx:=Pv (i + 1),ct:=Pv (i + 1),bk:=D.nx } σ2 H2) (hd:∀ σ H,Pv xs.length σ H->D.nx σ H) :
  ∃ W:Nat->Nat->St->Hp->Prop,(∃ m,W 0 m σ H)/\∀ i m σ H,W i m σ H->
   ((uX K a b).stop i H/\D.nx σ H)\/((uX K a b).go i H/\∃ N:St->Hp->Prop,(∀ σ' H',N σ' H'->∃ m',m' < m/\W (i + 1) m' σ' H')/\∀ x H',(uX K a b).yld i H x H'->g x σ H' λσ2 H2=>tb { D with nx:=N,ct:=N,bk:=D.nx } σ2 H2):=by
 refine ⟨λi m σ H=>m=xs.length - i/\i<=xs.length/\Pv i σ H,⟨xs.length,by simp,Nat.zero_le _,h0⟩,?_⟩
 rintro i m σ H ⟨rfl,hi,p⟩
 obtain ⟨q1,q2⟩:=hl i σ H hi p
 by_cases hlt:i < xs.length
 ·have hlt2:i < ys.length:=by omega
  refine .inr ⟨⟨xs,ys,xs[i],ys[i],q1,q2,by simp [hlt],by simp [hlt2]⟩,Pv (i + 1),λσ' H' p'=>⟨xs.length - (i + 1),by omega,rfl,hlt,p'⟩,λv H' y=>?_⟩
  obtain ⟨T,x,y,rfl,hT,rfl,c1,c2⟩:=y
  exact hs i x y T σ H (c1 xs q1) (c2 ys q2) hT p
 ·have e:i=xs.length:=by omega
  subst e
  exact .inl ⟨⟨xs,ys,q1,q2,Nat.le_refl _,hlen,.inl rfl⟩,hd σ H p⟩
theorem zL0 {K:PySem.W.Frag} {a b:Addr} {xs ys:List V} {g:TG} {te:TE} {σ0:St} {H:Hp} {Q:VK} (Pv:Nat->List V->St->Hp->Prop) (h0:Pv 0 [] σ0 H) (hl:∀ i zs σ H,i<=xs.length->Pv i zs σ H->zJ K H a xs/\zJ K H b ys/\zs.length<=i) (hlen:xs.length<=ys.length) (hz:xs.length<=sizeLine)
  (hs:∀ i x y T zs σ H,xs[i]? = some x->ys[i]? = some y->H T=none->Pv i zs σ H->g (.ref T) σ (upd H T (.tup [x,y])) λσ2 H2=>te σ2 H2 λz H3=>Pv (i + 1) (zs++[z]) σ2 H3)
  (hd:∀ zs σ H,Pv xs.length zs σ H->∀ p,H p=none->Q (.ref p) (upd H p (.lst zs))):jB (uX K a b) g te Q σ0 H:=by
 refine ⟨λi m zs σ H=>m=xs.length - i/\i<=xs.length/\Pv i zs σ H,⟨xs.length,by simp,Nat.zero_le _,h0⟩,?_⟩
 rintro i m zs σ H ⟨rfl,hi,p⟩
 obtain ⟨q1,q2,hy⟩:=hl i zs σ H hi p
 by_cases hlt:i < xs.length
 ·have hlt2:i < ys.length:=by omega
  refine .inr ⟨⟨xs,ys,xs[i],ys[i],q1,q2,by simp [hlt],by simp [hlt2]⟩,by omega,λz σ' H'=>Pv (i + 1) (zs++[z]) σ' H',λz σ' H' p'=>⟨xs.length - (i + 1),by omega,rfl,hlt,p'⟩,λv H' y=>?_⟩
  obtain ⟨T,x,y,rfl,hT,rfl,c1,c2⟩:=y
  exact hs i x y T zs σ H (c1 xs q1) (c2 ys q2) hT p
 ·have e:i=xs.length:=by omega
  subst e
  exact .inl ⟨⟨xs,ys,q1,q2,Nat.le_refl _,hlen,.inl rfl⟩,hd zs σ H p⟩
theorem zMt {K:PySem.W.Frag} {a b:Addr} {xs ys:List V} {g:TG} {te:TE} {σ0:St} {H:Hp} {Q:VK} (Pv:Nat->List V->St->Hp->Prop) (h0:Pv 0 [] σ0 H) (hl:∀ i zs σ H,i<=xs.length->Pv i zs σ H->zT K H a xs/\zJ K H b ys/\zs.length<=i) (hlen:xs.length<=ys.length) (hz:xs.length<=sizeLine)
  (hs:∀ i x y T zs σ H,xs[i]? = some x->ys[i]? = some y->H T=none->Pv i zs σ H->g (.ref T) σ (upd H T (.tup [x,y])) λσ2 H2=>te σ2 H2 λz H3=>Pv (i + 1) (zs++[z]) σ2 H3)
  (hd:∀ zs σ H,Pv xs.length zs σ H->∀ p,H p=none->Q (.ref p) (upd H p (.lst zs))):jB (q9 K a b) g te Q σ0 H:=by
 refine ⟨λi m zs σ H=>m=xs.length - i/\i<=xs.length/\Pv i zs σ H,⟨xs.length,by simp,Nat.zero_le _,h0⟩,?_⟩
 rintro i m zs σ H ⟨rfl,hi,p⟩
 obtain ⟨q1,q2,hy⟩:=hl i zs σ H hi p
 by_cases hlt:i < xs.length
 ·have hlt2:i < ys.length:=by omega
  refine .inr ⟨⟨xs,ys,xs[i],ys[i],q1,q2,by simp [hlt],by simp [hlt2]⟩,by omega,λz σ' H'=>Pv (i + 1) (zs++[z]) σ' H',λz σ' H' p'=>⟨xs.length - (i + 1),by omega,rfl,hlt,p'⟩,λv H' y=>?_⟩
  obtain ⟨T,x,y,rfl,hT,rfl,c1,c2⟩:=y
  exact hs i x y T zs σ H (c1 xs q1) (c2 ys q2) hT p
 ·have e:i=xs.length:=by omega
  subst e
  exact .inl ⟨⟨xs,ys,q1,q2,Nat.le_refl _,hlen,.inl rfl⟩,hd zs σ H p⟩
end L2
namespace L2
open PySem PySem.Spec PyProof.Rows
section
variable {X:Cx}
end
end L2
namespace Sh
open PySem L2
theorem Qf:∀ ns ms:List Int,PyData.eqvAll (ns.map PyData.int) (ms.map PyData.int)=decide (ns=ms)
 | [],[]=>by simp [PyData.eqvAll]
 | [],_ :: _=>by simp [PyData.eqvAll]
 | _ :: _,[]=>by simp [PyData.eqvAll]
 | a :: r,b :: t=>by
  have ih:=Qf r t
  simp only [List.map_cons,PyData.eqvAll,PyData.eqv,ih,List.cons.injEq]
  by_cases h1:a=b <;> by_cases h2:r=t <;> simp [h1,h2]
theorem Qg (ns ms:List Int):PyData.eqv (.tuple (ns.map PyData.int)) (.tuple (ms.map PyData.int))=decide (ns=ms):=Qf ns ms
def vp (H:Hp) (v:V) (p:Int × Int):Prop:=∃ r,v=.ref r/\H r=some (.tup [.int p.1,.int p.2])
abbrev yX (H:Hp) (vs:List V) (pts:List (Int × Int)):Prop:=Paired (vp H) vs pts
def zo (ws:List Int) (b:Int):List V:=ws.map V.int++[.int b]
theorem vp.same {H H':Hp} {v:V} {p:Int × Int} (s:zG H H') (h:vp H v p):vp H' v p:=let ⟨r,e,q⟩:=h; ⟨r,e,s _ _ q⟩
theorem yX.same {H H':Hp} {vs:List V} {pts:List (Int × Int)} (s:zG H H') (h:yX H vs pts):yX H' vs pts:=Paired.mapP h λ_ _ z=>z.same s
theorem zOW {r:List Int} {j n:Nat} (h:r.length=n + 1) (hj:j<=n):r[j]? = some (r.getD j 0):=by
 have:j < r.length:=by omega
 rw [List.getD_eq_getElem?_getD,List.getElem?_eq_getElem this]
 rfl
def v9 (n:Nat) (c:Nat->Int) (r:List Int):Int:=((List.range n).map λi=>r.getD i 0 * c i).sum
end Sh
namespace L2
open PySem PySem.Spec PyProof.Rows
section
variable {X:Cx} {es:List Expr} {kk:Nat} {tp:Pos}
end
end L2
namespace L2
open PySem PySem.Spec PyProof.Rows
section
variable {prog:Program} {w:World} {A:Around} {E:Value->Shared->Prop} {s:Shared}
end
section
variable {prog:Program} {w:World} {A:Around} {E:Value->Shared->Prop} {s:Shared}
end
section
variable {M:Model} {A:Around} {E:Value->Shared->Prop} {s:Shared}
end
section
variable {X:Cx} {es:List Expr} {kk:Nat} {tp:Pos}
end
end L2
namespace Sh
open PySem L2
inductive Kd where
 | int | bool | non | str | lst | tup | dic
 deriving DecidableEq
def Kd.nm:Kd->String
 | .int=>"int" | .bool=>"bool" | .non=>"NoneType" | .str=>"str" | .lst=>"list" | .tup=>"tuple" | .dic=>"dict"
def Kd.whole:Kd->Bool
 | .int=>true
 | _=>false
def Kd.isInt:Kd->Bool
 | .int=>true
 | .bool=>true
 | _=>false
def Kd.isTup:Kd->Bool
 | .tup=>true
 | _=>false
def Kd.isLst:Kd->Bool
 | .lst=>true
 | _=>false
section
variable (K:PySem.W.Frag)
theorem Xf (k:Kd):PySem.W.kitOne K (.type k.nm) (.type "tuple")=some k.isTup:=by
 cases k <;> first | rfl | decide +kernel | (unfold PySem.W.kitOne; rw [if_pos (by decide +kernel)]; rfl) | (unfold PySem.W.kitOne; rw [if_neg (by decide +kernel)]; rfl)
theorem kJ (k:Kd):PySem.W.kitOne K (.type k.nm) (.type "list")=some k.isLst:=by
 cases k <;> first | rfl | decide +kernel | (unfold PySem.W.kitOne; rw [if_pos (by decide +kernel)]; rfl) | (unfold PySem.W.kitOne; rw [if_neg (by decide +kernel)]; rfl)
end
end Sh
namespace L2
open PySem PySem.Spec PyProof.Rows
section
variable {X:Cx}
end
end L2
namespace L2
open PySem PySem.Spec PyProof.Rows
structure yJ (K:PySem.W.Frag) (mg:Str->Option Value) (x:Str) (C:Addr):Prop where
 cl:u8 K C
 mgC:mg x=some (.ref C)
 ha:PySem.W.findIn K (.ref C) "__class__" = some (some (.builtin "object.__class__"))
 hn:PySem.W.specialIn K (.builtin "object.__class__") "__get__" = some (some (.builtin "getset_descriptor.__get__"))
 htk:PySem.W.takesIn K (.builtin "object.__class__")=some true
 hm:PySem.W.mroIn K C (.type "object")=some true
theorem yJ.ty {K:PySem.W.Frag} {mg:Str->Option Value} {x:Str} {C a dx:Addr} {H:Hp} {fs:List (Str × V)} (T:yJ K mg x C) (e:H a=some (.ins C dx fs)):xf K H (.ref a) (.ref C):=.ins e T.cl T.ha T.hn T.htk T.hm
structure jG (P:Program) (w:World) (K:PySem.W.Frag) (mg:Str->Option Value) (base:Heap) (C:Addr) (m:Str) (ps:List Str) (k:Nat) (sp:Sp):Prop where
 ex:∃ f fd,zU P w K mg base yG k f fd ps sp/\qD K C m f/\vd K fd ps []
structure qP (P:Program) (w:World) (K:PySem.W.Frag) (mg:Str->Option Value) (base:Heap) (C:Addr) (ps:List Str) (k:Nat) (sp:Sp):Prop where
 ex:∃ f fd,zU P w K mg base yG k f fd ps sp/\Mk K C f/\vd K fd ps []
theorem jG.mono {P:Program} {w:World} {K:PySem.W.Frag} {mg:Str->Option Value} {base:Heap} {C:Addr} {m:Str} {ps:List Str} {j k:Nat} {sp:Sp} (F:jG P w K mg base C m ps j sp) (h:j<=k:=by decide):jG P w K mg base C m ps k sp:=by
 obtain ⟨f,fd,a,b,c⟩:=F.ex
 exact ⟨f,fd,a.mono h,b,c⟩
theorem qP.mono {P:Program} {w:World} {K:PySem.W.Frag} {mg:Str->Option Value} {base:Heap} {C:Addr} {ps:List Str} {j k:Nat} {sp:Sp} (F:qP P w K mg base C ps j sp) (h:j<=k:=by decide):qP P w K mg base C ps k sp:=by
 obtain ⟨f,fd,a,b,c⟩:=F.ex
 exact ⟨f,fd,a.mono h,b,c⟩
section
variable {X:Cx} {C:Addr} {m x:Str} {ps:List Str} {k:Nat} {sp:Sp} {o e:Expr} {es:List Expr} {ta:TE} {t:TA} {p pos apos:Pos} {dv:V}
theorem kK {pl:Sem Bool} (F:jG X.prog X.w X.K X.mg X.base C m ps k sp) (T:yJ X.K X.mg x C) (hr:yf k X.A) (he:PE X o ta)
  (ht:eval (.Call (.Attribute o m apos) [] [] pos) X.env=(do
   let ov <- eval o X.env
   standAt apos.atName
   let (f,first) <- holding [ov] (getMethod ov m pl)
   callWith pos f first (backTo pos (starEach [] X.env)) (backToKw pos (keywordEach [] X.env))):=by rfl) :
  PE X (.Call (.Attribute o m apos) [] [] pos) (JX C m sp [] E0 ta qF):=by
 obtain ⟨f,fd,a,b,c⟩:=F.ex
 exact zMU he T.cl b a hr c .nil ZQ ht
theorem Qh (F:qP X.prog X.w X.K X.mg X.base C ps k sp) (T:yJ X.K X.mg x C) (hr:yf (k + 1) X.A) (hg:Gl X x) (ha:PA X (e :: es) t)
  (hdb:(x == ("__debug__" : Str))=false:=by decide) (he:starEach (e :: es) X.env=(false,eval e X.env) :: starEach es X.env:=by rfl) (hpl:(backTo pos (starEach es X.env)).any (·.1)=false:=by rfl) :
  PE X (.Call (.Name x p) (e :: es) [] pos) (JY C sp [] E0 t):=by
 obtain ⟨f,fd,a,b,c⟩:=F.ex
 exact zNe b a hr hg T.mgC c .nil ZQ ha hdb he hpl
theorem zOh (T:yJ X.K X.mg x C) (hg:Gl X x) (hd:(x == ("__debug__" : Str))=false:=by decide):PE X (.Name x pos) (tC (.ref C)):=JA hg T.mgC rfl hd
def Qi (K:PySem.W.Frag):List V->Hp->VK->Prop:=λxs H Q=>∃ x C t b,xs=[x,.ref C]/\xf K H x t/\PySem.W.kitOne K t (.ref C)=some b/\Q (.bl b) H
theorem zHw:vC X (.builtin "isinstance") (Qi X.K):=by
 intro pins s σ H xs us Q I r h
 obtain ⟨x,C,t,b,rfl,ty,e,q⟩:=h
 obtain ⟨u,v,rfl,ru,rv⟩:=Y6 r
 cases (show v=Value.ref C from rv)
 exact JW I ru ty e λtk=>⟨.bl b,H,I.tok tk,rfl,q⟩
end
end L2
namespace L2
open PySem PySem.Spec PyProof.Rows
section
variable {X:Cx} {pos:Pos}
theorem Zq {x:Str} {n:Int} (hg:Gl X x) (h:∃ t,X.mg x=some (.int n t)) (hd:(x == ("__debug__" : Str))=false:=by decide):PE X (.Name x pos) (tC (.int n)):=
 let ⟨t,e⟩:=h
 JA hg e ⟨t,rfl⟩ hd
end
def Qj:Sp:=λ_ _ _ _=>False
theorem zU.none {P:Program} {w:World} {K:PySem.W.Frag} {mg:Str->Option Value} {base:Heap} {CX:uG} {k:Nat} {f:Addr} {fd:FuncData} {ps:List Str}:zU P w K mg base CX k f fd ps Qj:=
 ⟨λ_ _ _ _ h=>h.elim,λ_ _ _ _ _ _ _ _ _ _ _ _ _ h=>h.elim⟩
end L2
namespace L2
open PySem PySem.Spec PyProof.Rows PySem.SeqAt
section
variable {X:Cx}
end
end L2
namespace L2
open PySem PySem.Spec PyProof.Rows
open PySem
abbrev Zr (h:Heap) (t:Addr):Heap:=h.push { cls:=.type "tuple_iterator",data:=.fields #[.ref t,.int 0 0] }
abbrev Zs (h:Heap) (t l:Addr):Heap:=(Zr h t).push { cls:=.type "tuple_iterator",data:=.fields #[.ref l,.int 0 0] }
abbrev Zt (h:Heap) (t l:Addr):Heap:=(Zs h t l).push { cls:=.type "tuple",data:=.seq #[.ref h.objs.size,.ref (Zr h t).objs.size] }
abbrev Zu (h:Heap) (t l:Addr):Heap:=(Zt h t l).push { cls:=.type "tuple",data:=.seq #[.none,.none] }
abbrev gB (h:Heap) (t l:Addr):Heap:=(Zu h t l).push { cls:=.type "zip",data:=.fields #[.none,.bool false,.bool false,.ref (Zs h t l).objs.size,.ref (Zt h t l).objs.size] }
theorem zJm (t l:Addr) (xs ys:Array Value) :
  Meets (Builtin.«zip.__new__» ⟨[.type "zip",.ref t,.ref l],[]⟩) (λ_ R s=>s.heap.IsTuple t xs/\s.heap.IsTuple l ys/\R (.ok (.ret (.ref (Zu s.heap t l).objs.size))) { s with heap:=gB s.heap t l }):=
 .of_wp λprog w A R s h=>by
  obtain ⟨hp,g,d,tk,os⟩:=s; obtain ⟨h1,h2,h⟩:=h
  have hsub:=sub_zip
  have e1:Heap.IsTuple (Shared.heap ⟨hp,g,d,tk,os⟩) t xs:=h1
  have e2:Heap.IsTuple (Shared.heap ⟨hp.push { cls:=.type "tuple_iterator",data:=.fields #[.ref t,.int 0 0] },g,d,tk,os⟩) l ys:=(let ⟨o,e,r⟩:=h2; ⟨o,Heap.get?_push_of_some _ e,r⟩)
  wp_walk using wpAny_pyIter_tuple e1,wpAny_pyIter_tuple e2
  exact ⟨_,rfl,h⟩
theorem zIs {prog:Program} {w:World} {A:Around} {E:Value->Shared->Prop} {s:Shared} {t l:Addr} {xs ys:Array Value} {Q:Value->Shared->Prop} (h1:s.heap.IsTuple t xs) (h2:s.heap.IsTuple l ys)
  (h:∀ h',IsZip h' (s.heap.objs.size + 4) (s.heap.objs.size + 2) (s.heap.objs.size + 3) .none->IsPair h' (s.heap.objs.size + 2) (.ref s.heap.objs.size) (.ref (s.heap.objs.size + 1))->IsPair h' (s.heap.objs.size + 3) .none .none->
   h'.IsTupleIter s.heap.objs.size t 0->h'.IsTupleIter (s.heap.objs.size + 1) l 0->(∀ c o,s.heap.get? c=some o->h'.get? c=some o)->Q (.ref (s.heap.objs.size + 4)) { s with heap:=h' }) :
  wpAny (model prog w) A (call (.type "zip") [.ref t,.ref l]) Q E s:=by
 refine callType_new F.called_zip (by decide) (F.typeCall_zip_2 _ _) (F.newCall_zip_2 _ _) (λobj=>F.args_object_init_3 obj _ _) F.entry_zip_new (zJm t l xs ys) ⟨h1,h2,?_⟩
 have n1:(Zr s.heap t).objs.size=s.heap.objs.size + 1:=Heap.size_push ..
 have n2:(Zs s.heap t l).objs.size=s.heap.objs.size + 2:=by rw [Heap.size_push,n1]
 have n3:(Zt s.heap t l).objs.size=s.heap.objs.size + 3:=by rw [Heap.size_push,n2]
 have n4:(Zu s.heap t l).objs.size=s.heap.objs.size + 4:=by rw [Heap.size_push,n3]
 have p5:(gB s.heap t l).get? (Zu s.heap t l).objs.size=some _:=Heap.get?_push_size _ rfl
 have p4:(gB s.heap t l).get? (Zt s.heap t l).objs.size=some _:=Heap.get?_push_of_some _ (Heap.get?_push_size _ rfl)
 have p3:(gB s.heap t l).get? (Zs s.heap t l).objs.size=some _:=Heap.get?_push_of_some _ (Heap.get?_push_of_some _ (Heap.get?_push_size _ rfl))
 have p2:(gB s.heap t l).get? (Zr s.heap t).objs.size=some _:=Heap.get?_push_of_some _ (Heap.get?_push_of_some _ (Heap.get?_push_of_some _ (Heap.get?_push_size _ rfl)))
 have p1:(gB s.heap t l).get? s.heap.objs.size=some _:=Heap.get?_push_of_some _ (Heap.get?_push_of_some _ (Heap.get?_push_of_some _ (Heap.get?_push_of_some _ (Heap.get?_push_size _ rfl))))
 change _/\_
 rw [n2,n3,n4] at p5
 rw [n1,n2] at p3
 rw [n3] at p4
 rw [n1] at p2
 rw [n4]
 exact ⟨⟨_,p5,rfl⟩,h _ p5 p3 p4 ⟨_,p1,rfl,rfl⟩ ⟨_,p2,rfl,rfl⟩ λc o x=>Heap.get?_push_of_some _ (Heap.get?_push_of_some _ (Heap.get?_push_of_some _ (Heap.get?_push_of_some _ (Heap.get?_push_of_some _ x))))⟩
abbrev Zv (h:Heap) (t:Addr):Heap:=h.push { cls:=.type "list_iterator",data:=.fields #[.ref t,.int 0 0] }
abbrev Zw (h:Heap) (t l:Addr):Heap:=(Zv h t).push { cls:=.type "tuple_iterator",data:=.fields #[.ref l,.int 0 0] }
abbrev Zx (h:Heap) (t l:Addr):Heap:=(Zw h t l).push { cls:=.type "tuple",data:=.seq #[.ref h.objs.size,.ref (Zv h t).objs.size] }
abbrev Zy (h:Heap) (t l:Addr):Heap:=(Zx h t l).push { cls:=.type "tuple",data:=.seq #[.none,.none] }
abbrev gC (h:Heap) (t l:Addr):Heap:=(Zy h t l).push { cls:=.type "zip",data:=.fields #[.none,.bool false,.bool false,.ref (Zw h t l).objs.size,.ref (Zx h t l).objs.size] }
theorem zJo (t l:Addr) (xs ys:Array Value) :
  Meets (Builtin.«zip.__new__» ⟨[.type "zip",.ref t,.ref l],[]⟩) (λ_ R s=>s.heap.IsList t xs/\s.heap.IsTuple l ys/\R (.ok (.ret (.ref (Zy s.heap t l).objs.size))) { s with heap:=gC s.heap t l }):=
 .of_wp λprog w A R s h=>by
  obtain ⟨hp,g,d,tk,os⟩:=s; obtain ⟨h1,h2,h⟩:=h
  have hsub:=sub_zip
  have e1:Heap.IsList (Shared.heap ⟨hp,g,d,tk,os⟩) t xs:=h1
  have e2:Heap.IsTuple (Shared.heap ⟨hp.push { cls:=.type "list_iterator",data:=.fields #[.ref t,.int 0 0] },g,d,tk,os⟩) l ys:=(let ⟨o,e,r⟩:=h2; ⟨o,Heap.get?_push_of_some _ e,r⟩)
  wp_walk using wpAny_pyIter_list e1,wpAny_pyIter_tuple e2
  exact ⟨_,rfl,h⟩
theorem zIu {prog:Program} {w:World} {A:Around} {E:Value->Shared->Prop} {s:Shared} {t l:Addr} {xs ys:Array Value} {Q:Value->Shared->Prop} (h1:s.heap.IsList t xs) (h2:s.heap.IsTuple l ys)
  (h:∀ h',IsZip h' (s.heap.objs.size + 4) (s.heap.objs.size + 2) (s.heap.objs.size + 3) .none->IsPair h' (s.heap.objs.size + 2) (.ref s.heap.objs.size) (.ref (s.heap.objs.size + 1))->IsPair h' (s.heap.objs.size + 3) .none .none->
   h'.IsListIter s.heap.objs.size t 0->h'.IsTupleIter (s.heap.objs.size + 1) l 0->(∀ c o,s.heap.get? c=some o->h'.get? c=some o)->Q (.ref (s.heap.objs.size + 4)) { s with heap:=h' }) :
  wpAny (model prog w) A (call (.type "zip") [.ref t,.ref l]) Q E s:=by
 refine callType_new F.called_zip (by decide) (F.typeCall_zip_2 _ _) (F.newCall_zip_2 _ _) (λobj=>F.args_object_init_3 obj _ _) F.entry_zip_new (zJo t l xs ys) ⟨h1,h2,?_⟩
 have n1:(Zv s.heap t).objs.size=s.heap.objs.size + 1:=Heap.size_push ..
 have n2:(Zw s.heap t l).objs.size=s.heap.objs.size + 2:=by rw [Heap.size_push,n1]
 have n3:(Zx s.heap t l).objs.size=s.heap.objs.size + 3:=by rw [Heap.size_push,n2]
 have n4:(Zy s.heap t l).objs.size=s.heap.objs.size + 4:=by rw [Heap.size_push,n3]
 have p5:(gC s.heap t l).get? (Zy s.heap t l).objs.size=some _:=Heap.get?_push_size _ rfl
 have p4:(gC s.heap t l).get? (Zx s.heap t l).objs.size=some _:=Heap.get?_push_of_some _ (Heap.get?_push_size _ rfl)
 have p3:(gC s.heap t l).get? (Zw s.heap t l).objs.size=some _:=Heap.get?_push_of_some _ (Heap.get?_push_of_some _ (Heap.get?_push_size _ rfl))
 have p2:(gC s.heap t l).get? (Zv s.heap t).objs.size=some _:=Heap.get?_push_of_some _ (Heap.get?_push_of_some _ (Heap.get?_push_of_some _ (Heap.get?_push_size _ rfl)))
 have p1:(gC s.heap t l).get? s.heap.objs.size=some _:=Heap.get?_push_of_some _ (Heap.get?_push_of_some _ (Heap.get?_push_of_some _ (Heap.get?_push_of_some _ (Heap.get?_push_size _ rfl))))
 change _/\_
 rw [n2,n3,n4] at p5
 rw [n1,n2] at p3
 rw [n3] at p4
 rw [n1] at p2
 rw [n4]
 exact ⟨⟨_,p5,rfl⟩,h _ p5 p3 p4 ⟨_,p1,rfl,rfl⟩ ⟨_,p2,rfl,rfl⟩ λc o x=>Heap.get?_push_of_some _ (Heap.get?_push_of_some _ (Heap.get?_push_of_some _ (Heap.get?_push_of_some _ (Heap.get?_push_of_some _ x))))⟩
def Xg (K:PySem.W.Frag) (a b:Addr):It:=
 ⟨λi H=>∃ xs ys x y,zT K H a xs/\zT K H b ys/\xs[i]? = some x/\ys[i]? = some y,
  λi H v H'=>∃ T x y,v=.ref T/\H T=none/\H'=upd H T (.tup [x,y])/\(∀ xs,zT K H a xs->xs[i]? = some x)/\∀ ys,zT K H b ys->ys[i]? = some y,
  λi H=>∃ xs ys,zT K H a xs/\zT K H b ys/\i<=xs.length/\i<=ys.length/\(i=xs.length\/i=ys.length)⟩
theorem zJq {P:Program} {w:World} {K:PySem.W.Frag} {es:List Expr} {kk:Nat} {tp:Pos} {a b z TI TO i1 i2:Addr} (Z:Zp z TI TO i1 i2 [i1,a] [i2,b]) (na:a≠i1) (nb:b≠i2) :
  wW P w K (.Tuple es kk tp) (Xg K a b) [z,TI,TO,i1,i2] z (λi h=>IsZip h z TI TO .none/\IsPair h TI (.ref i1) (.ref i2)/\(∃ x y,IsPair h TO x y)/\h.IsTupleIter i1 a i/\h.IsTupleIter i2 b i) where
 mem:=by simp
 obj:=λi h ⟨t1,t2,⟨x,y,t3⟩,t4,t5⟩ c hc=>by
  simp only [List.mem_cons,List.not_mem_nil,or_false] at hc
  rcases hc with rfl | rfl | rfl | rfl | rfl
  ·exact ⟨_,t1,uT⟩
  ·exact ⟨_,t2,jt⟩
  ·exact ⟨_,t3,jt⟩
  ·obtain ⟨o,e,_,d⟩:=t4
   exact ⟨o,e,by rw [d]; exact uT⟩
  ·obtain ⟨o,e,_,d⟩:=t5
   exact ⟨o,e,by rw [d]; exact uT⟩
 keep:=λi h h' ⟨t1,t2,⟨x,y,t3⟩,t4,t5⟩ k=>⟨k z (by simp) _ t1,k TI (by simp) _ t2,⟨x,y,k TO (by simp) _ t3⟩,(by obtain ⟨o,e,r⟩:=t4; exact ⟨o,k i1 (by simp) o e,r⟩),(by obtain ⟨o,e,r⟩:=t5; exact ⟨o,k i2 (by simp) o e,r⟩)⟩
 item:=by
  intro X hP hw hK hc i pins s σ H E I hf ⟨t1,t2,⟨x0,y0,t3⟩,t4,t5⟩ hg
  subst hP hw hK
  obtain ⟨xs,ys,x,y,hq1,hq2,hx,hy⟩:=hg
  obtain ⟨its1,rv1,p1,_⟩:=I.tuple hq1
  obtain ⟨its2,rv2,p2,_⟩:=I.tuple hq2
  obtain ⟨u,hu,ru⟩:=rv1.get hx
  obtain ⟨v,hv,rv⟩:=rv2.get hy
  have hh:X.A.in1.handled=none:=I.ok.hd hc
  have l1:i < its1.toArray.size:=by rw [List.size_toArray]; exact (List.getElem?_eq_some_iff.mp hu).1
  have l2:i < its2.toArray.size:=by rw [List.size_toArray]; exact (List.getElem?_eq_some_iff.mp hv).1
  refine Zc (js hh i1 a na its1.toArray) (js hh i2 b nb its2.toArray) Z t1 t2 t3 ⟨t4,p1⟩ ⟨t5,p2⟩ l1 l2 ?_
  intro x' y' h1 tk px py z1 z2 z3 z4 z5 z6 keep
  have ex:x'=u:=by
   have q:its1.toArray[i]? = some x':=px
   simp only [List.getElem?_toArray] at q
   rw [hu] at q
   exact (Option.some.inj q).symm
  have ey:y'=v:=by
   have q:its2.toArray[i]? = some y':=py
   simp only [List.getElem?_toArray] at q
   rw [hv] at q
   exact (Option.some.inj q).symm
  subst ex ey
  refine ⟨_,rfl,wpAny_letOwnedTupleGo_zip (s:={ s with heap:=h1,toks:=tk }) z1 λh2 z7 sb=>?_⟩
  have zlt:z < s.heap.objs.size:=Heap.lt_size t1
  have keep2:∀ c o,c∉[z,TI,TO,i1,i2]->s.heap.get? c=some o->h2.get? c=some o:=λc o hc e=>by
   simp only [List.mem_cons,List.not_mem_nil,or_false,not_or] at hc
   exact sb.extBut c o hc.1 (keep c o hc.1 hc.2.2.1 hc.2.2.2.1 hc.2.2.2.2 e)
  have pT:IsPair h2 s.heap.objs.size x' y':=sb.extBut _ _ (Nat.ne_of_gt zlt) z6
  have I':=I.turnT (h':=h2) (tk:=tk) (ch:=[z,TI,TO,i1,i2]) (x:=x) (y:=y) hf keep2 (Nat.le_refl _) pT ru rv
  refine ⟨.ref s.heap.objs.size,_,I',rfl,⟨s.heap.objs.size,x,y,rfl,I.hok.fresh (Nat.le_refl _),rfl,λxs' q=>by rw [I.tuple_inj q hq1]; exact hx,λys' q=>by rw [I.tuple_inj q hq2]; exact hy⟩,
   ⟨z7,sb.extBut _ _ Z.a1 z2,⟨_,_,sb.extBut _ _ Z.a2 z3⟩,z4.1.extBut sb.extBut Z.a3,z5.1.extBut sb.extBut Z.a4⟩,λc hc=>?_⟩
  have:=(hf c hc).1
  rw [yW]
  ·exact this
  ·intro q
   obtain ⟨o,e,_⟩:∃ o,s.heap.get? c=some o/\True:=by
    simp only [List.mem_cons,List.not_mem_nil,or_false] at hc
    rcases hc with rfl | rfl | rfl | rfl | rfl
    ·exact ⟨_,t1,trivial⟩
    ·exact ⟨_,t2,trivial⟩
    ·exact ⟨_,t3,trivial⟩
    ·obtain ⟨o,e,_⟩:=t4; exact ⟨o,e,trivial⟩
    ·obtain ⟨o,e,_⟩:=t5; exact ⟨o,e,trivial⟩
   rw [q] at e
   exact absurd (Heap.lt_size e) (Nat.lt_irrefl _)
 done:=by
  intro X hP hw hK hc i pins s σ H E I hf ⟨t1,t2,⟨x0,y0,t3⟩,t4,t5⟩ hg
  subst hP hw hK
  obtain ⟨xs,ys,hq1,hq2,e1,e2,e3⟩:=hg
  obtain ⟨its1,rv1,p1,_⟩:=I.tuple hq1
  obtain ⟨its2,rv2,p2,_⟩:=I.tuple hq2
  have hh:X.A.in1.handled=none:=I.ok.hd hc
  have n1:its1.toArray.size=xs.length:=by rw [List.size_toArray]; exact rv1.length.symm
  have n2:its2.toArray.size=ys.length:=by rw [List.size_toArray]; exact rv2.length.symm
  refine Zd (js hh i1 a na its1.toArray) (js hh i2 b nb its2.toArray) Z t1 t2 t3 ⟨t4,p1⟩ ⟨t5,p2⟩ (by omega) (by omega) (by omega) ?_
  intro h1 tk keep
  refine ⟨rfl,I.turnN (h':=h1) (tk:=tk) (ch:=[z,TI,TO,i1,i2]) hf λc o hc e=>?_⟩
  simp only [List.mem_cons,List.not_mem_nil,or_false,not_or] at hc
  exact keep c o hc.1 hc.2.2.1 hc.2.2.2.1 hc.2.2.2.2 e
 self:=λ_ _ _ _ _ st h=>wpAny_pyIter_zip st.1 h
theorem zKR {K:PySem.W.Frag} {a b:Addr} {xs ys:List V} {g:TG} {te:TE} {σ0:St} {H:Hp} {Q:VK} (Pv:Nat->List V->St->Hp->Prop) (h0:Pv 0 [] σ0 H) (hl:∀ i zs σ H,i<=xs.length->Pv i zs σ H->zT K H a xs/\zT K H b ys/\zs.length<=i) (hlen:xs.length<=ys.length) (hz:xs.length<=sizeLine)
  (hs:∀ i x y T zs σ H,xs[i]? = some x->ys[i]? = some y->H T=none->Pv i zs σ H->g (.ref T) σ (upd H T (.tup [x,y])) λσ2 H2=>te σ2 H2 λz H3=>Pv (i + 1) (zs++[z]) σ2 H3)
  (hd:∀ zs σ H,Pv xs.length zs σ H->∀ p,H p=none->Q (.ref p) (upd H p (.lst zs))):jB (Xg K a b) g te Q σ0 H:=by
 refine ⟨λi m zs σ H=>m=xs.length - i/\i<=xs.length/\Pv i zs σ H,⟨xs.length,by simp,Nat.zero_le _,h0⟩,?_⟩
 rintro i m zs σ H ⟨rfl,hi,p⟩
 obtain ⟨q1,q2,hy⟩:=hl i zs σ H hi p
 by_cases hlt:i < xs.length
 ·have hlt2:i < ys.length:=by omega
  refine .inr ⟨⟨xs,ys,xs[i],ys[i],q1,q2,by simp [hlt],by simp [hlt2]⟩,by omega,λz σ' H'=>Pv (i + 1) (zs++[z]) σ' H',λz σ' H' p'=>⟨xs.length - (i + 1),by omega,rfl,hlt,p'⟩,λv H' y=>?_⟩
  obtain ⟨T,x,y,rfl,hT,rfl,c1,c2⟩:=y
  exact hs i x y T zs σ H (c1 xs q1) (c2 ys q2) hT p
 ·have e:i=xs.length:=by omega
  subst e
  exact .inl ⟨⟨xs,ys,q1,q2,Nat.le_refl _,hlen,.inl rfl⟩,hd zs σ H p⟩
def Xh (K:PySem.W.Frag) (a b:Addr):It:=
 ⟨λi H=>∃ xs ys x y,zJ K H a xs/\zT K H b ys/\xs[i]? = some x/\ys[i]? = some y,
  λi H v H'=>∃ T x y,v=.ref T/\H T=none/\H'=upd H T (.tup [x,y])/\(∀ xs,zJ K H a xs->xs[i]? = some x)/\∀ ys,zT K H b ys->ys[i]? = some y,
  λi H=>∃ xs ys,zJ K H a xs/\zT K H b ys/\i<=xs.length/\i<=ys.length/\(i=xs.length\/i=ys.length)⟩
theorem zJr {P:Program} {w:World} {K:PySem.W.Frag} {es:List Expr} {kk:Nat} {tp:Pos} {a b z TI TO i1 i2:Addr} (Z:Zp z TI TO i1 i2 [i1,a] [i2,b]) (na:a≠i1) (nb:b≠i2) :
  wW P w K (.Tuple es kk tp) (Xh K a b) [z,TI,TO,i1,i2] z (λi h=>IsZip h z TI TO .none/\IsPair h TI (.ref i1) (.ref i2)/\(∃ x y,IsPair h TO x y)/\h.IsListIter i1 a i/\h.IsTupleIter i2 b i) where
 mem:=by simp
 obj:=λi h ⟨t1,t2,⟨x,y,t3⟩,t4,t5⟩ c hc=>by
  simp only [List.mem_cons,List.not_mem_nil,or_false] at hc
  rcases hc with rfl | rfl | rfl | rfl | rfl
  ·exact ⟨_,t1,uT⟩
  ·exact ⟨_,t2,jt⟩
  ·exact ⟨_,t3,jt⟩
  ·obtain ⟨o,e,_,d⟩:=t4
   exact ⟨o,e,by rw [d]; exact uT⟩
  ·obtain ⟨o,e,_,d⟩:=t5
   exact ⟨o,e,by rw [d]; exact uT⟩
 keep:=λi h h' ⟨t1,t2,⟨x,y,t3⟩,t4,t5⟩ k=>⟨k z (by simp) _ t1,k TI (by simp) _ t2,⟨x,y,k TO (by simp) _ t3⟩,(by obtain ⟨o,e,r⟩:=t4; exact ⟨o,k i1 (by simp) o e,r⟩),(by obtain ⟨o,e,r⟩:=t5; exact ⟨o,k i2 (by simp) o e,r⟩)⟩
 item:=by
  intro X hP hw hK hc i pins s σ H E I hf ⟨t1,t2,⟨x0,y0,t3⟩,t4,t5⟩ hg
  subst hP hw hK
  obtain ⟨xs,ys,x,y,hq1,hq2,hx,hy⟩:=hg
  obtain ⟨its1,rv1,p1,_⟩:=I.list hq1
  obtain ⟨its2,rv2,p2,_⟩:=I.tuple hq2
  obtain ⟨u,hu,ru⟩:=rv1.get hx
  obtain ⟨v,hv,rv⟩:=rv2.get hy
  have hh:X.A.in1.handled=none:=I.ok.hd hc
  have l1:i < its1.toArray.size:=by rw [List.size_toArray]; exact (List.getElem?_eq_some_iff.mp hu).1
  have l2:i < its2.toArray.size:=by rw [List.size_toArray]; exact (List.getElem?_eq_some_iff.mp hv).1
  refine Zc (Draws.list hh i1 a na its1.toArray) (js hh i2 b nb its2.toArray) Z t1 t2 t3 ⟨t4,p1.isList⟩ ⟨t5,p2⟩ l1 l2 ?_
  intro x' y' h1 tk px py z1 z2 z3 z4 z5 z6 keep
  have ex:x'=u:=by
   have q:its1.toArray[i]? = some x':=px
   simp only [List.getElem?_toArray] at q
   rw [hu] at q
   exact (Option.some.inj q).symm
  have ey:y'=v:=by
   have q:its2.toArray[i]? = some y':=py
   simp only [List.getElem?_toArray] at q
   rw [hv] at q
   exact (Option.some.inj q).symm
  subst ex ey
  refine ⟨_,rfl,wpAny_letOwnedTupleGo_zip (s:={ s with heap:=h1,toks:=tk }) z1 λh2 z7 sb=>?_⟩
  have zlt:z < s.heap.objs.size:=Heap.lt_size t1
  have keep2:∀ c o,c∉[z,TI,TO,i1,i2]->s.heap.get? c=some o->h2.get? c=some o:=λc o hc e=>by
   simp only [List.mem_cons,List.not_mem_nil,or_false,not_or] at hc
   exact sb.extBut c o hc.1 (keep c o hc.1 hc.2.2.1 hc.2.2.2.1 hc.2.2.2.2 e)
  have pT:IsPair h2 s.heap.objs.size x' y':=sb.extBut _ _ (Nat.ne_of_gt zlt) z6
  have I':=I.turnT (h':=h2) (tk:=tk) (ch:=[z,TI,TO,i1,i2]) (x:=x) (y:=y) hf keep2 (Nat.le_refl _) pT ru rv
  refine ⟨.ref s.heap.objs.size,_,I',rfl,⟨s.heap.objs.size,x,y,rfl,I.hok.fresh (Nat.le_refl _),rfl,λxs' q=>by rw [I.list_inj q hq1]; exact hx,λys' q=>by rw [I.tuple_inj q hq2]; exact hy⟩,
   ⟨z7,sb.extBut _ _ Z.a1 z2,⟨_,_,sb.extBut _ _ Z.a2 z3⟩,z4.1.extBut sb.extBut Z.a3,z5.1.extBut sb.extBut Z.a4⟩,λc hc=>?_⟩
  have:=(hf c hc).1
  rw [yW]
  ·exact this
  ·intro q
   obtain ⟨o,e,_⟩:∃ o,s.heap.get? c=some o/\True:=by
    simp only [List.mem_cons,List.not_mem_nil,or_false] at hc
    rcases hc with rfl | rfl | rfl | rfl | rfl
    ·exact ⟨_,t1,trivial⟩
    ·exact ⟨_,t2,trivial⟩
    ·exact ⟨_,t3,trivial⟩
    ·obtain ⟨o,e,_⟩:=t4; exact ⟨o,e,trivial⟩
    ·obtain ⟨o,e,_⟩:=t5; exact ⟨o,e,trivial⟩
   rw [q] at e
   exact absurd (Heap.lt_size e) (Nat.lt_irrefl _)
 done:=by
  intro X hP hw hK hc i pins s σ H E I hf ⟨t1,t2,⟨x0,y0,t3⟩,t4,t5⟩ hg
  subst hP hw hK
  obtain ⟨xs,ys,hq1,hq2,e1,e2,e3⟩:=hg
  obtain ⟨its1,rv1,p1,_⟩:=I.list hq1
  obtain ⟨its2,rv2,p2,_⟩:=I.tuple hq2
  have hh:X.A.in1.handled=none:=I.ok.hd hc
  have n1:its1.toArray.size=xs.length:=by rw [List.size_toArray]; exact rv1.length.symm
  have n2:its2.toArray.size=ys.length:=by rw [List.size_toArray]; exact rv2.length.symm
  refine Zd (Draws.list hh i1 a na its1.toArray) (js hh i2 b nb its2.toArray) Z t1 t2 t3 ⟨t4,p1.isList⟩ ⟨t5,p2⟩ (by omega) (by omega) (by omega) ?_
  intro h1 tk keep
  refine ⟨rfl,I.turnN (h':=h1) (tk:=tk) (ch:=[z,TI,TO,i1,i2]) hf λc o hc e=>?_⟩
  simp only [List.mem_cons,List.not_mem_nil,or_false,not_or] at hc
  exact keep c o hc.1 hc.2.2.1 hc.2.2.2.1 hc.2.2.2.2 e
 self:=λ_ _ _ _ _ st h=>wpAny_pyIter_zip st.1 h
theorem zKS {K:PySem.W.Frag} {a b:Addr} {xs ys:List V} {g:TG} {te:TE} {σ0:St} {H:Hp} {Q:VK} (Pv:Nat->List V->St->Hp->Prop) (h0:Pv 0 [] σ0 H) (hl:∀ i zs σ H,i<=xs.length->Pv i zs σ H->zJ K H a xs/\zT K H b ys/\zs.length<=i) (hlen:xs.length<=ys.length) (hz:xs.length<=sizeLine)
  (hs:∀ i x y T zs σ H,xs[i]? = some x->ys[i]? = some y->H T=none->Pv i zs σ H->g (.ref T) σ (upd H T (.tup [x,y])) λσ2 H2=>te σ2 H2 λz H3=>Pv (i + 1) (zs++[z]) σ2 H3)
  (hd:∀ zs σ H,Pv xs.length zs σ H->∀ p,H p=none->Q (.ref p) (upd H p (.lst zs))):jB (Xh K a b) g te Q σ0 H:=by
 refine ⟨λi m zs σ H=>m=xs.length - i/\i<=xs.length/\Pv i zs σ H,⟨xs.length,by simp,Nat.zero_le _,h0⟩,?_⟩
 rintro i m zs σ H ⟨rfl,hi,p⟩
 obtain ⟨q1,q2,hy⟩:=hl i zs σ H hi p
 by_cases hlt:i < xs.length
 ·have hlt2:i < ys.length:=by omega
  refine .inr ⟨⟨xs,ys,xs[i],ys[i],q1,q2,by simp [hlt],by simp [hlt2]⟩,by omega,λz σ' H'=>Pv (i + 1) (zs++[z]) σ' H',λz σ' H' p'=>⟨xs.length - (i + 1),by omega,rfl,hlt,p'⟩,λv H' y=>?_⟩
  obtain ⟨T,x,y,rfl,hT,rfl,c1,c2⟩:=y
  exact hs i x y T zs σ H (c1 xs q1) (c2 ys q2) hT p
 ·have e:i=xs.length:=by omega
  subst e
  exact .inl ⟨⟨xs,ys,q1,q2,Nat.le_refl _,hlen,.inl rfl⟩,hd zs σ H p⟩
theorem zG.seqT {K:PySem.W.Frag} {H H':Hp} {a:Addr} {xs:List V} (e:zG H H') (h:zT K H a xs):zT K H' a xs:=by
 rcases h with (h | ⟨o,h⟩) | h
 ·exact .inl (.inl (e _ _ h))
 ·exact .inl (.inr ⟨o,e _ _ h⟩)
 ·exact .inr h
def vq (K:PySem.W.Frag) (H:Hp) (a:Addr) (xs:List V):Prop:=zT K H a xs\/zJ K H a xs
theorem vq.same {K:PySem.W.Frag} {H H':Hp} {a:Addr} {xs:List V} (s:zG H H') (h:vq K H a xs):vq K H' a xs:=h.imp (λz=>s.seqT z) (λz=>s.seq z)
section
variable {X:Cx} {es:List Expr} {kk:Nat} {tp:Pos}
theorem jY {pins:List (Addr × Obj)} {σ:St} {H:Hp} {s:Shared} (I:zQ X pins σ H s) {c:Addr} (hc:c∈[s.heap.objs.size + 4,s.heap.objs.size + 2,s.heap.objs.size + 3,s.heap.objs.size,s.heap.objs.size + 1]):xG X pins H c:=by
 have ge:s.heap.objs.size<=c:=by
  simp only [List.mem_cons,List.not_mem_nil,or_false] at hc
  rcases hc with rfl | rfl | rfl | rfl | rfl
  ·exact Nat.le_add_right _ 4
  ·exact Nat.le_add_right _ 2
  ·exact Nat.le_add_right _ 3
  ·exact Nat.le_refl _
  ·exact Nat.le_add_right _ 1
 exact I.fpOk ge (I.hok.fresh ge)
def Xi (K:PySem.W.Frag) (H:Hp) (a b:Addr) (R:It->Hp->Prop):Prop:=
 ((∃ xs,zT K H a xs)/\(∃ ys,zJ K H b ys)/\R (q9 K a b) H)\/((∃ xs,zJ K H a xs)/\(∃ ys,zJ K H b ys)/\R (uX K a b) H)\/((∃ xs,zT K H a xs)/\(∃ ys,zT K H b ys)/\R (Xg K a b) H)\/((∃ xs,zJ K H a xs)/\(∃ ys,zT K H b ys)/\R (Xh K a b) H)
def Qk (K:PySem.W.Frag) (ta:TA):TI:=λσ H R=>ta σ H λvs H1=>∃ a b,vs=[.ref a,.ref b]/\Xi K H1 a b R
theorem qQ {e1 e2:Expr} {ta:TA} {p pos:Pos} (hg:Gl X "zip") (hm:X.mg "zip" = none) (ha:PA X [e1,e2] ta) (hs:starEach [e1,e2] X.env=[(false,eval e1 X.env),(false,eval e2 X.env)]:=by rfl) (hs2:starEach [e2] X.env=[(false,eval e2 X.env)]:=by rfl) :
  PI X (.Tuple es kk tp) (.Call (.Name "zip" p) [e1,e2] [] pos) (Qk X.K ta):=by
 intro pins s σ H R I h
 refine Call_ (gX I hg hm (show bootBuiltins "zip" = some (.type "zip") by decide +kernel) (PyProof.Rows.callWith_type1 (yQ (ha pos pins s σ H _ I h) λus s1 ⟨vs,H1,I1,r1,q1⟩=>?_) (by rw [hs,hs2]) (by rw [hs2]; rfl)))
 obtain ⟨a,b,e,q1⟩:=q1
 subst e
 obtain ⟨u,v,rfl,ru,rv⟩:=Y6 r1
 cases ru
 cases rv
 rcases q1 with ⟨⟨xs,hx⟩,⟨ys,hy⟩,q⟩ | ⟨⟨xs,hx⟩,⟨ys,hy⟩,q⟩ | ⟨⟨xs,hx⟩,⟨ys,hy⟩,q⟩ | ⟨⟨xs,hx⟩,⟨ys,hy⟩,q⟩
 ·obtain ⟨its1,rv1,p1,_⟩:=I1.tuple hx
  obtain ⟨its2,rv2,p2,_⟩:=I1.list hy
  have la:a < s1.heap.objs.size:=by obtain ⟨o,e,_⟩:=p1; exact Heap.lt_size e
  have lb:b < s1.heap.objs.size:=by obtain ⟨o,n,e,_⟩:=p2; exact Heap.lt_size e
  refine zIt p1 p2.isList λh' z1 z2 z3 z4 z5 keep=>wpAny_pyIter_zip z1 ?_
  have I2:zQ X pins σ H1 { s1 with heap:=h' }:=I1.kept (t':=s1.toks) keep
  exact ⟨s1.heap.objs.size + 4,[s1.heap.objs.size + 4,s1.heap.objs.size + 2,s1.heap.objs.size + 3,s1.heap.objs.size,s1.heap.objs.size + 1],_,_,H1,rfl,I2,
   zMK (a:=a) (b:=b) (Ze _ _ _ la lb) (Nat.ne_of_lt la) (Nat.ne_of_lt (Nat.lt_succ_of_lt lb)),⟨z1,z2,⟨_,_,z3⟩,z4,z5⟩,λc hc=>jY I1 hc,q⟩
 ·obtain ⟨its1,rv1,p1,_⟩:=I1.list hx
  obtain ⟨its2,rv2,p2,_⟩:=I1.list hy
  have la:a < s1.heap.objs.size:=by obtain ⟨o,n,e,_⟩:=p1; exact Heap.lt_size e
  have lb:b < s1.heap.objs.size:=by obtain ⟨o,n,e,_⟩:=p2; exact Heap.lt_size e
  refine call_zip_2 p1.isList p2.isList λh' z1 z2 z3 z4 z5 _ keep=>wpAny_pyIter_zip z1 ?_
  have I2:zQ X pins σ H1 { s1 with heap:=h' }:=I1.kept (t':=s1.toks) keep
  exact ⟨s1.heap.objs.size + 4,[s1.heap.objs.size + 4,s1.heap.objs.size + 2,s1.heap.objs.size + 3,s1.heap.objs.size,s1.heap.objs.size + 1],_,_,H1,rfl,I2,
   zKe (a:=a) (b:=b) (Ze _ _ _ la lb) (Nat.ne_of_lt la) (Nat.ne_of_lt (Nat.lt_succ_of_lt lb)),⟨z1,z2,⟨_,_,z3⟩,z4,z5⟩,λc hc=>jY I1 hc,q⟩
 ·obtain ⟨its1,rv1,p1,_⟩:=I1.tuple hx
  obtain ⟨its2,rv2,p2,_⟩:=I1.tuple hy
  have la:a < s1.heap.objs.size:=by obtain ⟨o,e,_⟩:=p1; exact Heap.lt_size e
  have lb:b < s1.heap.objs.size:=by obtain ⟨o,e,_⟩:=p2; exact Heap.lt_size e
  refine zIs p1 p2 λh' z1 z2 z3 z4 z5 keep=>wpAny_pyIter_zip z1 ?_
  have I2:zQ X pins σ H1 { s1 with heap:=h' }:=I1.kept (t':=s1.toks) keep
  exact ⟨s1.heap.objs.size + 4,[s1.heap.objs.size + 4,s1.heap.objs.size + 2,s1.heap.objs.size + 3,s1.heap.objs.size,s1.heap.objs.size + 1],_,_,H1,rfl,I2,
   zJq (a:=a) (b:=b) (Ze _ _ _ la lb) (Nat.ne_of_lt la) (Nat.ne_of_lt (Nat.lt_succ_of_lt lb)),⟨z1,z2,⟨_,_,z3⟩,z4,z5⟩,λc hc=>jY I1 hc,q⟩
 ·obtain ⟨its1,rv1,p1,_⟩:=I1.list hx
  obtain ⟨its2,rv2,p2,_⟩:=I1.tuple hy
  have la:a < s1.heap.objs.size:=by obtain ⟨o,n,e,_⟩:=p1; exact Heap.lt_size e
  have lb:b < s1.heap.objs.size:=by obtain ⟨o,e,_⟩:=p2; exact Heap.lt_size e
  refine zIu p1.isList p2 λh' z1 z2 z3 z4 z5 keep=>wpAny_pyIter_zip z1 ?_
  have I2:zQ X pins σ H1 { s1 with heap:=h' }:=I1.kept (t':=s1.toks) keep
  exact ⟨s1.heap.objs.size + 4,[s1.heap.objs.size + 4,s1.heap.objs.size + 2,s1.heap.objs.size + 3,s1.heap.objs.size,s1.heap.objs.size + 1],_,_,H1,rfl,I2,
   zJr (a:=a) (b:=b) (Ze _ _ _ la lb) (Nat.ne_of_lt la) (Nat.ne_of_lt (Nat.lt_succ_of_lt lb)),⟨z1,z2,⟨_,_,z3⟩,z4,z5⟩,λc hc=>jY I1 hc,q⟩
end
theorem Zz {K:PySem.W.Frag} {a b:Addr} {xs ys:List V} {g:TG} {te:TE} {σ0:St} {H:Hp} {Q:VK} (ha:vq K H a xs) (hb:vq K H b ys) (Pv:Nat->List V->St->Hp->Prop) (h0:Pv 0 [] σ0 H) (hl:∀ i zs σ H',i<=xs.length->Pv i zs σ H'->zG H H'/\zs.length<=i) (hlen:xs.length<=ys.length) (hz:xs.length<=sizeLine)
  (hs:∀ i x y T zs σ H,xs[i]? = some x->ys[i]? = some y->H T=none->Pv i zs σ H->g (.ref T) σ (upd H T (.tup [x,y])) λσ2 H2=>te σ2 H2 λz H3=>Pv (i + 1) (zs++[z]) σ2 H3)
  (hd:∀ zs σ H,Pv xs.length zs σ H->∀ p,H p=none->Q (.ref p) (upd H p (.lst zs))):Xi K H a b λJ H'=>jB J g te Q σ0 H':=by
 rcases ha with ha | ha
 ·rcases hb with hb | hb
  ·exact .inr (.inr (.inl ⟨⟨_,ha⟩,⟨_,hb⟩,zKR Pv h0 (λi zs σ H' hi p=>⟨(hl i zs σ H' hi p).1.seqT ha,(hl i zs σ H' hi p).1.seqT hb,(hl i zs σ H' hi p).2⟩) hlen hz hs hd⟩))
  ·exact .inl ⟨⟨_,ha⟩,⟨_,hb⟩,zMt Pv h0 (λi zs σ H' hi p=>⟨(hl i zs σ H' hi p).1.seqT ha,(hl i zs σ H' hi p).1.seq hb,(hl i zs σ H' hi p).2⟩) hlen hz hs hd⟩
 ·rcases hb with hb | hb
  ·exact .inr (.inr (.inr ⟨⟨_,ha⟩,⟨_,hb⟩,zKS Pv h0 (λi zs σ H' hi p=>⟨(hl i zs σ H' hi p).1.seq ha,(hl i zs σ H' hi p).1.seqT hb,(hl i zs σ H' hi p).2⟩) hlen hz hs hd⟩))
  ·exact .inr (.inl ⟨⟨_,ha⟩,⟨_,hb⟩,zL0 Pv h0 (λi zs σ H' hi p=>⟨(hl i zs σ H' hi p).1.seq ha,(hl i zs σ H' hi p).1.seq hb,(hl i zs σ H' hi p).2⟩) hlen hz hs hd⟩)
section
variable {prog:Program} {w:World} {A:Around} {E:Value->Shared->Prop}
end
section
variable {X:Cx} {pos:Pos}
end
end L2
namespace L2
open PySem PySem.Spec PyProof.Rows
inductive kL (i:Nat) (σ:St) (H:Hp) (Q:VK):Prop
 | mk (v:V) (_:σ[i]? = some (some v)) (_:Q v H):kL i σ H Q
inductive JI (C:Int->Int->Prop) (g:Int->Int->V) (x y:V) (H:Hp) (Q:VK):Prop
 | mk (i j:Int) (_:x=.int i) (_:y=.int j) (_:C i j) (_:Q (g i j) H):JI C g x y H Q
inductive Ql (g:Int->Int->V) (x y:V) (H:Hp) (Q:VK):Prop
 | mk (i j:Int) (_:x=.int i) (_:y=.int j) (_:Q (g i j) H):Ql g x y H Q
inductive we (S:Hp->Addr->List V->Prop) (x y:V) (H:Hp) (Q:VK):Prop
 | mk (p:Addr) (xs:List V) (i:Int) (v:V) (_:x=.ref p) (_:y=.int i) (_:S H p xs) (_:yk xs i=some v) (_:Q v H):we S x y H Q
inductive kM (x y:V) (H:Hp) (Q:VK):Prop
 | mk (l b:Addr) (xs zs:List V) (_:x=.ref l) (_:y=.ref b) (_:H l=some (.lst xs)) (_:H b=some (.lst zs)) (_:xs.length + zs.length<=sizeLine) (_:∀ p,H p=none->Q (.ref p) (upd H p (.lst (xs++zs)))):kM x y H Q
inductive qR (K:PySem.W.Frag) (xs:List V) (H:Hp) (Q:VK):Prop
 | mk (p:Addr) (ys:List V) (_:xs=[.ref p]) (_:zJ K H p ys\/zT K H p ys) (_:Q (.int ys.length) H):qR K xs H Q
inductive kN (x:V) (vs:List V) (H:Hp) (Q:VK):Prop
 | mk (l:Addr) (xs:List V) (y:V) (_:x=.ref l) (_:vs=[y]) (_:H l=some (.lst xs)) (_:xs.length < sizeLine) (_:Q .non (upd H l (.lst (xs++[y])))):kN x vs H Q
inductive Qm (K:PySem.W.Frag) (xs:List V) (H:Hp) (Q:VK):Prop
 | mk (x:V) (c:String) (t:Value) (b:Bool) (_:xs=[x,.ty c]) (_:xf K H x t) (_:PySem.W.kitOne K t (.type c)=some b) (_:Q (.bl b) H):Qm K xs H Q
inductive qS (K:PySem.W.Frag) (x:V) (lo hi:Option Int) (H:Hp) (Q:VK):Prop
 | mk (a:Addr) (xs:List V) (_:x=.ref a) (_:zT K H a xs) (_:¬ (HT.sIx xs.length 0 lo=0/\HT.sIx xs.length xs.length hi=xs.length)) (_:∀ p,H p=none->Q (.ref p) (upd H p (.tup (yY xs lo hi)))):qS K x lo hi H Q
inductive kO (K:PySem.W.Frag) (x:V) (lo hi:Option Int) (H:Hp) (Q:VK):Prop
 | mk (a:Addr) (xs:List V) (_:x=.ref a) (_:zJ K H a xs) (_:∀ p,H p=none->Q (.ref p) (upd H p (.lst (yY xs lo hi)))):kO K x lo hi H Q
inductive kP (K:PySem.W.Frag) (xs:List V) (H:Hp) (Q:VK):Prop
 | mk (p:Addr) (ys:List V) (_:xs=[.ref p]) (_:(zJ K H p ys/\∀ l,H l=none->Q (.ref l) (upd H l (.tup ys)))\/(zT K H p ys/\Q (.ref p) H)):kP K xs H Q
inductive kQ (x y:V) (H:Hp) (Q:VK):Prop
 | mk (l:Addr) (k:Int) (xs:List V) (_:x=.ref l) (_:y=.int k) (_:H l=some (.lst xs)) (_ : -(2 ^ 63)<=k) (_:k < 2 ^ 63) (_:xs.length * k.toNat<=sizeLine) (_:∀ p,H p=none->Q (.ref p) (upd H p (.lst (List.replicate k.toNat xs).flatten))):kQ x y H Q
section
variable {X:Cx}
theorem xP:Jq X "list.append" kN:=λpins s σ H x xs v us Q I rx rv ⟨l,ys,y,h1,h2,h3,h4,q⟩=>zLW pins s σ H x xs v us Q I rx rv ⟨l,ys,y,h1,h2,h3,h4,q⟩
theorem vS:vC X (.builtin "isinstance") (Qm X.K):=λpins s σ H xs us Q I r ⟨x,c,t,b,h1,h2,h3,q⟩=>zIv pins s σ H xs us Q I r ⟨x,c,t,b,h1,h2,h3,q⟩
theorem uA:qu X (qS X.K):=λpins s σ H x v vl vu lo hi sl Q I h1 h2 h3 h4 ⟨a,xs,b,c,d,q⟩=>zOU pins s σ H x v vl vu lo hi sl Q I h1 h2 h3 h4 ⟨a,xs,b,c,d,q⟩
theorem Qn:qu X (kO X.K):=λpins s σ H x v vl vu lo hi sl Q I h1 h2 h3 h4 ⟨a,xs,b,c,q⟩=>zNV pins s σ H x v vl vu lo hi sl Q I h1 h2 h3 h4 ⟨a,xs,b,c,q⟩
theorem wM:vC X (.type "tuple") (kP X.K):=λpins s σ H xs us Q I r ⟨p,ys,e,q⟩=>zHQ pins s σ H xs us Q I r ⟨p,ys,e,q⟩
theorem Xj:xj X (binaryOp .Mult) kQ:=λpins s σ H x y v u Q I rx ry ⟨l,k,xs,a,b,c,d,e,f,q⟩=>zOi pins s σ H x y v u Q I rx ry ⟨l,k,xs,a,b,c,d,e,f,q⟩
theorem zC (i:Nat) {x:Str} {pos:Pos} (hN:X.N[i]? = some x:=by rfl) (hv:ZK X.env.scope x:=by first | exact Or.inl rfl | exact Or.inr (Or.inl rfl) | exact Or.inr (Or.inr rfl)) (hd:(x == ("__debug__" : Str))=false:=by decide)
  (hcd:(x == ("__classdict__" : Str))=false:=by decide):PE X (.Name x pos) (kL i):=λpins s σ H Q I ⟨v,e,h⟩=>K4 hN hv hd hcd pins s σ H Q I ⟨v,e,h⟩
theorem ji {f:Value->Value->Sem Value} {C:Int->Int->Prop} {g:Int->Int->V} (h:xj X f (rI C g)):xj X f (JI C g):=λpins s σ H x y v u Q I rx ry ⟨i,j,hx,hy,c,q⟩=>h pins s σ H x y v u Q I rx ry ⟨i,j,hx,hy,c,q⟩
theorem yU {f:Value->Value->Sem Value} {g:Int->Int->V} (h:xj X f (jS g)):xj X f (Ql g):=λpins s σ H x y v u Q I rx ry ⟨i,j,hx,hy,q⟩=>h pins s σ H x y v u Q I rx ry ⟨i,j,hx,hy,q⟩
theorem yi:wT X (we (zJ X.K)):=λa b pins s σ H x y v u Q I rx ry ⟨p,xs,i,w,hx,hy,hs,ha,q⟩=>zNp a b pins s σ H x y v u Q I rx ry ⟨p,xs,i,w,hx,hy,hs,ha,q⟩
theorem yc:wT X (we (zT X.K)):=λa b pins s σ H x y v u Q I rx ry ⟨p,xs,i,w,hx,hy,hs,ha,q⟩=>zOy a b pins s σ H x y v u Q I rx ry ⟨p,xs,i,w,hx,hy,hs,ha,q⟩
theorem xh:xj X (binaryOp .Add) kM:=λpins s σ H x y v u Q I rx ry ⟨l,b,xs,zs,hx,hy,h1,h2,h3,q⟩=>zOm pins s σ H x y v u Q I rx ry ⟨l,b,xs,zs,hx,hy,h1,h2,h3,q⟩
theorem yw:vC X (.builtin "len") (qR X.K):=λpins s σ H xs us Q I r ⟨p,ys,e,h,q⟩=>zHv pins s σ H xs us Q I r ⟨p,ys,e,h,q⟩
end
end L2
namespace Sh
open PySem L2
def vT (H:Hp) (v:V) (r:List Int):Prop:=∃ a,v=.ref a/\H a=some (.lst (r.map V.int))
abbrev zX (H:Hp) (vs:List V) (tab:List (List Int)):Prop:=Paired (vT H) vs tab
theorem vT.same {H H':Hp} {v:V} {r:List Int} (s:zG H H') (h:vT H v r):vT H' v r:=let ⟨a,e,q⟩:=h; ⟨a,e,s _ _ q⟩
theorem zX.same {H H':Hp} {vs:List V} {tab:List (List Int)} (s:zG H H') (h:zX H vs tab):zX H' vs tab:=Paired.mapP h λ_ _ z=>z.same s
def xL (p:Addr) (H H':Hp):Prop:=∀ b o,H b=some o->b≠p->H' b=some o
theorem zG.but {p:Addr} {H H':Hp} (s:zG H H'):xL p H H':=λb o e _=>s b o e
theorem xL.trans {p:Addr} {H H1 H2:Hp} (a:xL p H H1) (b:xL p H1 H2):xL p H H2:=λc o e n=>b c o (a c o e n) n
theorem uH (p:Addr) (H:Hp) (o:HO):xL p H (upd H p o):=λb u e n=>by rw [yW n]; exact e
def wN (H0 H:Hp) (v:V) (r:List Int):Prop:=∃ a,v=.ref a/\H0 a=none/\H a=some (.lst (r.map V.int))
inductive qU (vs:List V) (H:Hp) (Q:VK) (E:XK):Prop
 | mk (i d:Int) (_:vs=[.int i,.int d]) (_:Q (.int i) H):qU vs H Q E
def qV:Sp:=λvs H Q _=>(∃ i d:Int,vs=[.int i,.int d]/\Q (.int i) H)∨
 (∃ (a:Addr) (ns:List Int) (d:Int),vs=[.ref a,.int d]/\1<=d/\H a=some (.lst (ns.map V.int))/\ns.length<=900/\∀ l H',zG H H'->H l=none->H' l=some (.lst (ns.map V.int))->Q (.ref l) H')∨
 (∃ (a:Addr) (ns:List Int) (d:Int),vs=[.ref a,.int d]/\1<=d/\H a=some (.tup (ns.map V.int))/\ns.length<=900/\∀ t H',zG H H'->H t=none->H' t=some (.tup (ns.map V.int))->Q (.ref t) H')
def kR:Sp:=λvs H Q E=>qV vs H Q E∨
 (∃ (a:Addr) (rv:List V) (rows:List (List Int)) (d:Int),vs=[.ref a,.int d]/\2<=d/\H a=some (.lst rv)/\xC H rv rows/\rows.length<=900/\(∀ r∈rows,r.length<=900)/\∀ l lv H',zG H H'->H l=none->H' l=some (.lst lv)->xC H' lv rows->Q (.ref l) H')∨
 (∃ (a:Addr) (tv:List V) (tab:List (List Int)) (d:Int),vs=[.ref a,.int d]/\2<=d/\H a=some (.lst tv)/\zX H tv tab/\tab.length<=900/\(∀ r∈tab,r.length<=900)/\∀ l lv H',zG H H'->H l=none->H' l=some (.lst lv)->Paired (wN H H') lv tab->Q (.ref l) H')
inductive jw (vs:List V) (H:Hp) (Q:VK) (E:XK):Prop
 | mk (i:Int) (_:vs=[.int i]) (_:Q (.bl true) H):jw vs H Q E
inductive Z0 (vs:List V) (H:Hp) (Q:VK) (E:XK):Prop
 | mk (a:Addr) (ns:List Int) (_:vs=[.ref a,.int (ns.length:Int)]) (_:H a=some (.lst (ns.map V.int))) (_:ns.length<=900) (_:∀ H',zG H H'->Q (.bl true) H'):Z0 vs H Q E
inductive Xk (vs:List V) (H:Hp) (Q:VK) (E:XK):Prop
 | mk (a:Addr) (tv:List V) (tab:List (List Int)) (w:Nat) (_:vs=[.ref a,.int (tab.length:Int),.int (w:Int)]) (_:H a=some (.lst tv)) (_:zX H tv tab) (_:tab.length<=900) (_:(∀ r∈tab,r.length=w)) (_:w<=900) (_:∀ H',zG H H'->Q (.bl true) H'):Xk vs H Q E
inductive Xl (vs:List V) (H:Hp) (Q:VK) (E:XK):Prop
 | mk (a:Addr) (ns:List Int) (n:Nat) (_:vs=[.ref a,.int (n:Int)]) (_:H a=some (.tup (ns.map V.int))) (_:ns.length=n + 1) (_:n<=800) (_:∀ H',zG H H'->Q (.bl true) H'):Xl vs H Q E
inductive Xm (vs:List V) (H:Hp) (Q:VK) (E:XK):Prop
 | mk (a:Addr) (rv:List V) (rows:List (List Int)) (n:Nat) (_:vs=[.ref a,.int (n:Int)]) (_:H a=some (.lst rv)) (_:xC H rv rows) (_:rows.length<=900) (_:(∀ r∈rows,r.length=n + 1)) (_:n<=800) (_:∀ H',zG H H'->Q (.bl true) H'):Xm vs H Q E
inductive Xn (vs:List V) (H:Hp) (Q:VK) (E:XK):Prop
 | mk (a:Addr) (lo hi:Int) (_:vs=[.ref a]) (_:H a=some (.tup [.int lo,.int hi])) (_:lo<=hi) (_:Q (.bl true) H):Xn vs H Q E
structure MD where
 rows:List (List Int)
 nexts:List (List Int)
 steer:List Int
 push:List (List Int)
 add:List Int
 div:Int
structure wO (m:MD) (n p:Nat):Prop where
 rows:∀ r∈m.rows,r.length=n + 1
 few:m.rows.length<=900
 nexts:m.nexts.length=n/\∀ r∈m.nexts,r.length=n
 steer:m.steer.length=n
 push:m.push.length=n/\∀ r∈m.push,r.length=p
 add:m.add.length=n
 div:1<=m.div
 n3:n<=3
 p6:p<=12
def Xo (r n s p a:V) (d:Int):List (Str × V):=[("rows",r),("nexts",n),("steer",s),("push",p),("add",a),("divisor",.int d)]
structure gD (C:Addr) (H:Hp) (o:Addr) (m:MD) where
 dx:Addr
 r:Addr
 rv:List V
 n:Addr
 nv:List V
 s:Addr
 p:Addr
 pv:List V
 a:Addr
structure gD.Ok {C:Addr} {H:Hp} {o:Addr} {m:MD} (M:gD C H o m):Prop where
 ins:H o=some (.ins C M.dx (Xo (.ref M.r) (.ref M.n) (.ref M.s) (.ref M.p) (.ref M.a) m.div))
 hr:H M.r=some (.lst M.rv)
 hrv:xC H M.rv m.rows
 hn:H M.n=some (.lst M.nv)
 hnv:zX H M.nv m.nexts
 hs:H M.s=some (.lst (m.steer.map V.int))
 hp:H M.p=some (.lst M.pv)
 hpv:zX H M.pv m.push
 ha:H M.a=some (.lst (m.add.map V.int))
def wn (C:Addr) (H:Hp) (v:V) (m:MD):Prop:=∃ (o:Addr) (M:gD C H o m),v=.ref o/\M.Ok
theorem wn.same {C:Addr} {H H':Hp} {v:V} {m:MD} (s:zG H H') (h:wn C H v m):wn C H' v m:=
 let ⟨o,M,e,k⟩:=h
 ⟨o,⟨M.dx,M.r,M.rv,M.n,M.nv,M.s,M.p,M.pv,M.a⟩,e,⟨s _ _ k.ins,s _ _ k.hr,xC.same s k.hrv,s _ _ k.hn,zX.same s k.hnv,s _ _ k.hs,s _ _ k.hp,zX.same s k.hpv,s _ _ k.ha⟩⟩
inductive Xp (C:Addr) (vs:List V) (H:Hp) (Q:VK) (E:XK):Prop
 | mk (o dx ra na sa pa aa:Addr) (rv nv pv:List V) (m:MD) (n p:Nat) (_:vs=[.ref o,.ref ra,.ref na,.ref sa,.ref pa,.ref aa,.int m.div]) (_:H o=some (.ins C dx [])) (_:wO m n p) (_:H ra=some (.lst rv)) (_:xC H rv m.rows) (_:H na=some (.lst nv)) (_:zX H nv m.nexts) (_:H sa=some (.lst (m.steer.map V.int))) (_:H pa=some (.lst pv)) (_:zX H pv m.push) (_:H aa=some (.lst (m.add.map V.int))) (_:∀ (M:gD C H o m) (H':Hp),xL o H H'->(gD.mk (C:=C) (H:=H') (o:=o) (m:=m) M.dx M.r M.rv M.n M.nv M.s M.p M.pv M.a).Ok->H M.r=none->H M.n=none->H M.s=none->H M.p=none->H M.a=none->Paired (wN H H') M.nv m.nexts->Paired (wN H H') M.pv m.push->Q .non H'):Xp C vs H Q E
inductive Xq (C:Addr) (vs:List V) (H:Hp) (Q:VK) (E:XK):Prop
 | mk (v:V) (m:MD) (n p:Nat) (_:vs=[v,.int (n:Int),.int (p:Int)]) (_:wn C H v m) (_:wO m n p) (_:∀ H',zG H H'->Q (.bl true) H'):Xq C vs H Q E
def wq (H:Hp) (v:V) (b:Int × Int):Prop:=∃ a,v=.ref a/\H a=some (.tup [.int b.1,.int b.2])
theorem wq.same {H H':Hp} {v:V} {b:Int × Int} (s:zG H H') (h:wq H v b):wq H' v b:=let ⟨a,e,q⟩:=h; ⟨a,e,s _ _ q⟩
structure wH (n:Nat) (bs:List (Int × Int)) (ms:List MD):Prop where
 n1:1<=n
 n3:n<=3
 bok:∀ b∈bs,b.1<=b.2
 b6:bs.length<=6
 m1:1<=ms.length
 m40:ms.length<=40
 mok:∀ m∈ms,wO m n bs.length
inductive Xr (C:Addr) (vs:List V) (H:Hp) (Q:VK) (E:XK):Prop
 | mk (pa ma:Addr) (pv mv:List V) (n:Nat) (bs:List (Int × Int)) (ms:List MD) (_:vs=[.int (n:Int),.ref pa,.ref ma]) (_:H pa=some (.lst pv)) (_:Paired (wq H) pv bs) (_:H ma=some (.lst mv)) (_:Paired (wn C H) mv ms) (_:wH n bs ms) (_:∀ H',zG H H'->Q (.bl true) H'):Xr C vs H Q E
def Qo (n:Int) (p m:V):List (Str × V):=[("many",.int n),("kept_pushes",p),("kept_modes",m)]
structure yr (C CM:Addr) (H:Hp) (o:Addr) (n:Nat) (bs:List (Int × Int)) (ms:List MD) (pv mv:List V) (kp km:Addr):Prop where
 ins:∃ dx,H o=some (.ins C dx (Qo (n:Int) (.ref kp) (.ref km)))
 hp:H kp=some (.lst pv)
 hpv:Paired (wq H) pv bs
 hm:H km=some (.lst mv)
 hmv:Paired (wn CM H) mv ms
theorem yr.same {C CM:Addr} {H H':Hp} {o:Addr} {n:Nat} {bs:List (Int × Int)} {ms:List MD} {pv mv:List V} {kp km:Addr} (s:zG H H') (h:yr C CM H o n bs ms pv mv kp km):yr C CM H' o n bs ms pv mv kp km:=
 ⟨let ⟨dx,e⟩:=h.ins; ⟨dx,s _ _ e⟩,s _ _ h.hp,Paired.mapP h.hpv λ_ _ z=>z.same s,s _ _ h.hm,Paired.mapP h.hmv λ_ _ z=>z.same s⟩
inductive Xs (C CM:Addr) (vs:List V) (H:Hp) (Q:VK) (E:XK):Prop
 | mk (o dx pa ma:Addr) (pv mv:List V) (n:Nat) (bs:List (Int × Int)) (ms:List MD) (_:vs=[.ref o,.int (n:Int),.ref pa,.ref ma]) (_:H o=some (.ins C dx [])) (_:H pa=some (.lst pv)) (_:Paired (wq H) pv bs) (_:H ma=some (.lst mv)) (_:Paired (wn CM H) mv ms) (_:wH n bs ms) (_:∀ (kp km:Addr) (H':Hp),xL o H H'->H kp=none->H km=none->kp≠km->H' o=some (.ins C dx (Qo (n:Int) (.ref kp) (.ref km)))->H' kp=some (.lst pv)->H' km=some (.lst mv)->Q .non H'):Xs C CM vs H Q E
inductive Z1 (C CM:Addr) (vs:List V) (H:Hp) (Q:VK) (E:XK):Prop
 | mk (o kp km:Addr) (n:Nat) (bs:List (Int × Int)) (ms:List MD) (pv mv:List V) (_:vs=[.ref o]) (_:yr C CM H o n bs ms pv mv kp km) (_:∀ l H',zG H H'->H l=none->H' l=some (.lst pv)->Q (.ref l) H'):Z1 C CM vs H Q E
inductive Z2 (C CM:Addr) (vs:List V) (H:Hp) (Q:VK) (E:XK):Prop
 | mk (o kp km:Addr) (n:Nat) (bs:List (Int × Int)) (ms:List MD) (pv mv:List V) (_:vs=[.ref o]) (_:yr C CM H o n bs ms pv mv kp km) (_:∀ l H',zG H H'->H l=none->H' l=some (.lst mv)->Q (.ref l) H'):Z2 C CM vs H Q E
inductive Xu (C CM:Addr) (vs:List V) (H:Hp) (Q:VK) (E:XK):Prop
 | mk (o kp km:Addr) (n:Nat) (bs:List (Int × Int)) (ms:List MD) (pv mv:List V) (_:vs=[.ref o]) (_:yr C CM H o n bs ms pv mv kp km) (_:wH n bs ms) (_:Q (.bl (decide (ms.length=1) && decide ((ms.map MD.rows).getD 0 []=[]))) H):Xu C CM vs H Q E
theorem zMs (a b:Int):decide (V.int a=V.int b)=decide (a=b):=by
 by_cases h:a=b
 ·rw [h,decide_eq_true rfl,decide_eq_true rfl]
 ·rw [decide_eq_false h,decide_eq_false λz=>h (by injection z)]
theorem zMi {K:PySem.W.Frag} {C:Addr}:PySem.W.kitOne K (.ref C) (.ref C)=some true:=by
 unfold PySem.W.kitOne
 rw [if_pos (by simp)]
theorem qW:∀ n:Nat,(List.replicate n true).all id=true
 | 0=>rfl
 | n + 1=>by rw [List.replicate_succ,List.all_cons,qW n]; rfl
theorem keepB {o:Addr} {H H':Hp} {C dx:Addr} {fs:List (Str × V)} (ho:H o=some (.ins C dx fs)) (s:xL o H H') {a:Addr} {u:HO} (h:H a=some u) (hu:u≠.ins C dx fs):H' a=some u:=
 s _ _ h λe=>hu (by rw [e,ho] at h; exact (Option.some.inj h).symm)
theorem qX {o:Addr} {H H':Hp} (s:xL o H H') {x:HO} (ho:H' o=some x) {l:Addr} (h:H' l=none):H l=none:=by
 cases e:H l with
 | none=>rfl
 | some u=>
  have n:l≠o:=λz=>by rw [z,ho] at h; cases h
  rw [s _ _ e n] at h
  cases h
theorem xC.keepB {o:Addr} {H H':Hp} {C dx:Addr} {fs:List (Str × V)} (ho:H o=some (.ins C dx fs)) (s:xL o H H') {vs:List V} {rows:List (List Int)} (h:xC H vs rows):xC H' vs rows:=
 Paired.mapP h λ_ _ ⟨a,e,q⟩=>⟨a,e,Sh.keepB ho s q λz=>by cases z⟩
theorem zX.keepB {o:Addr} {H H':Hp} {C dx:Addr} {fs:List (Str × V)} (ho:H o=some (.ins C dx fs)) (s:xL o H H') {vs:List V} {tab:List (List Int)} (h:zX H vs tab):zX H' vs tab:=
 Paired.mapP h λ_ _ ⟨a,e,q⟩=>⟨a,e,Sh.keepB ho s q λz=>by cases z⟩
theorem wN.tab {H0 H:Hp} {vs:List V} {tab:List (List Int)} (h:Paired (wN H0 H) vs tab):zX H vs tab:=Paired.mapP h λ_ _ ⟨a,e,_,q⟩=>⟨a,e,q⟩
theorem zMe (r n s p a:V) (d:Int):zS "divisor" (.int d) (zS "add" a (zS "push" p (zS "steer" s (zS "nexts" n (zS "rows" r [])))))=Xo r n s p a d:=rfl
end Sh
namespace Sh
open PySem L2
def jx (B:List Addr) (H H':Hp):Prop:=∀ b o,H b=some o->b∉B->H' b=some o
theorem jx.refl (B:List Addr) (H:Hp):jx B H H:=λ_ _ e _=>e
theorem jx.put {B:List Addr} {H H':Hp} {x:Addr} (o:HO) (h:jx B H H') (hx:x∈B):jx B H (upd H' x o):=λb u e nb=>by
 rw [yW (λe'=>by rw [e'] at nb; exact nb hx)]
 exact h b u e nb
def hide (B:List Addr) (H:Hp):Hp:=λb=>if b∈B then none else H b
theorem yx {B:List Addr} {H:Hp}:zG (hide B H) H:=λb o h=>by
 unfold hide at h
 by_cases e:b∈B
 ·rw [if_pos e] at h; cases h
 ·rw [if_neg e] at h; exact h
theorem wV {B:List Addr} {H:Hp} {b:Addr} (e:b∉B):hide B H b=H b:=by unfold hide; rw [if_neg e]
theorem zNu {B:List Addr} {H:Hp} {b:Addr} (e:b∈B):hide B H b=none:=by unfold hide; rw [if_pos e]
theorem Qp {B:List Addr} {H:Hp} {b:Addr} {o:HO} (h:hide B H b=some o):b∉B:=λe=>by rw [zNu e] at h; cases h
theorem Xv {B:List Addr} {H H':Hp} (s:jx B H H'):zG (hide B H) (hide B H'):=λb o h=>by
 have e:=Qp h
 rw [wV e] at h |-
 exact s _ _ h e
theorem wC {B:List Addr} {H H':Hp} (s:zG H H'):zG (hide B H) (hide B H'):=Xv λb o h _=>s _ _ h
theorem Qq {B:List Addr} {H H':Hp} (f:∀ x∈B,H x=none) (s:zG H H'):zG H (hide B H'):=λb o h=>by
 rw [wV (λe=>by rw [f b e] at h; cases h)]
 exact s _ _ h
theorem Qr {H H1 H2:Hp} {x:Addr} (s:zG H H1) (b:xL x H1 H2) (n:H x=none):zG H H2:=λc o e=>b _ _ (s _ _ e) (wx e n)
theorem Qs {H:Hp} {x dx:Addr} (hx:H x=none) (hdx:H dx=none) (ne:dx≠x) (u o:HO):zG H (upd (upd H dx u) x o):=
 (zx hdx _).trans (zx ((yW (Ne.symm ne)).trans hx) _)
end Sh
namespace L2
open PySem PySem.Spec PyProof.Rows
section
variable {X:Cx} {e:Expr}
end
theorem Xw {K:PySem.W.Frag} {a b:Addr} {xs ys:List V} {g:TG} {tb:TS} {D:xx} {σ:St} {H:Hp} (ha:vq K H a xs) (hb:zJ K H b ys) (Pv:Nat->St->Hp->Prop) (h0:Pv 0 σ H) (hl:∀ i σ H',i<=xs.length->Pv i σ H'->zG H H') (hlen:xs.length<=ys.length)
  (hs:∀ i x y T σ H,xs[i]? = some x->ys[i]? = some y->H T=none->Pv i σ H->g (.ref T) σ (upd H T (.tup [x,y])) λσ2 H2=>tb { D with nx:=Pv (i + 1),ct:=Pv (i + 1),bk:=D.nx } σ2 H2) (hd:∀ σ H,Pv xs.length σ H->D.nx σ H) :
  Xi K H a b λJ H'=>∃ W:Nat->Nat->St->Hp->Prop,(∃ m,W 0 m σ H')/\∀ i m σ H,W i m σ H->
   (J.stop i H/\D.nx σ H)\/(J.go i H/\∃ N:St->Hp->Prop,(∀ σ' H',N σ' H'->∃ m',m' < m/\W (i + 1) m' σ' H')/\∀ x H',J.yld i H x H'->g x σ H' λσ2 H2=>tb { D with nx:=N,ct:=N,bk:=D.nx } σ2 H2):=by
 rcases ha with ha | ha
 ·exact .inl ⟨⟨_,ha⟩,⟨_,hb⟩,zN0 Pv h0 (λi σ H' hi p=>⟨(hl i σ H' hi p).seqT ha,(hl i σ H' hi p).seq hb⟩) hlen hs hd⟩
 ·exact .inr (.inl ⟨⟨_,ha⟩,⟨_,hb⟩,zMo Pv h0 (λi σ H' hi p=>⟨(hl i σ H' hi p).seq ha,(hl i σ H' hi p).seq hb⟩) hlen hs hd⟩)
end L2
namespace Sh
inductive RT where
 | str (ns:List Int) (a d:Int)
 | stp (t:RT) (lo hi:Int)
 | prt (row:List Int) (x y:RT)
def RT.rows:RT->List (List Int)
 | .str _ _ _=>[]
 | .stp t _ _=>t.rows
 | .prt r x y=>[r]++x.rows++y.rows
end Sh
namespace Sh
open PySem L2
theorem Qt {n:Nat} {t b:Int} (h:Bd n b) (hb:b≠0):Bd n (Int.gcd t b:Int):=by
 refine h.of_le ?_
 rw [Int.natAbs_natCast]
 exact Int.gcd_le_natAbs_right t hb
theorem Xx {n:Nat} {t b:Int} (h:Bd n b) (hb:b≠0):Bd n (cm t b):=by
 unfold cm
 split
 ·exact (Qt h hb).neg
 ·exact Qt h hb
theorem jy {n:Nat} {t b:Int} (h:Bd n t):Bd n (yg t b):=h.fdiv _
theorem jH {n:Nat} {t b:Int} (h:Bd n b):Bd n (yK t b):=h.fdiv _
inductive kS (K:PySem.W.Frag) (vs:List V) (H:Hp) (Q:VK) (E:XK):Prop
 | mk (a:Addr) (ns:List Int) (_:vs=[.ref a]) (_:zT K H a (ns.map V.int)) (_:Q (.int (zv ns)) H):kS K vs H Q E
inductive gE (vs:List V) (H:Hp) (Q:VK) (E:XK):Prop
 | mk (t b:Int) (_:vs=[.int t,.int b]) (_:b≠0) (_:Bd 8000 b) (_:∀ r H',zG H H'->H' r=some (.tup [.int (yg t b),.int (yK t b)])->Q (.ref r) H'):gE vs H Q E
structure Two (H:Hp) (p q:Addr) (a b c d:Int):Prop where
 p:H p=some (.tup [.int a,.int b])
 q:H q=some (.tup [.int c,.int d])
 b0:0 < b
 d0:0 < d
 ab:Bd 9000 a
 bb:Bd 9000 b
 cb:Bd 9000 c
 db:Bd 9000 d
inductive Z3 (vs:List V) (H:Hp) (Q:VK) (E:XK):Prop
 | mk (p q:Addr) (a b c d:Int) (_:vs=[.ref p,.ref q]) (_:Two H p q a b c d) (_:Q (.bl (decide (a * d < c * b))) H):Z3 vs H Q E
inductive Xy (vs:List V) (H:Hp) (Q:VK) (E:XK):Prop
 | mk (a b:Int) (_:vs=[.int a,.int b]) (_:Q (.int (Int.gcd a b)) H):Xy vs H Q E
inductive gF (vs:List V) (H:Hp) (Q:VK) (E:XK):Prop
 | mk (t b:Int) (_:vs=[.int t,.int b]) (_:0 < b) (_:Bd 8000 b) (_:∀ r H',zG H H'->H' r=some (.tup [.int (yg t b),.int (yK t b)])->Q (.ref r) H'):gF vs H Q E
end Sh
namespace Sh
open PySem L2
theorem uY {x:Int} (h:0<=x/\x < 10 ^ 45):Bd 150 x:=by
 have:(10:Int) ^ 45 < 2 ^ 150:=by decide
 show x.natAbs < 2 ^ 150
 omega
end Sh
namespace L2
open PySem PySem.Spec PyProof.Rows Sh
theorem vU {α:Sort _} {p:α->Prop} {a:α} (h:p a):∃ b,b=a/\p b:=⟨a,rfl,h⟩
section
variable {X:Cx}
end
end L2
namespace Sh
structure LF where
 ns:List Int
 a:Int
 d:Int
abbrev PC:=List (List Int) × LF
section
variable {pts:List (Int × Int)} (hp:∀ p∈pts,0 < p.2)
include hp
end
end Sh
namespace Sh
open PySem L2
theorem w6 {x:Addr} {H:Hp} (o:HO):zG (hide [x] H) (hide [x] (upd H x o)):=Xv ((jx.refl [x] H).put o (List.mem_singleton.mpr rfl))
end Sh
namespace Sh
open PySem L2
end Sh
namespace L2
open PySem PySem.Spec PyProof.Rows
section
variable {P:Program} {w:World} {H:Hp} {h:Heap} {a:Addr}
theorem xV.there {o:HO} (x:xV P w H h a o):∃ ob,h.get? a=some ob:=by
 cases o with
 | lst xs=>obtain ⟨_,_,_,_,e⟩:=x; exact ⟨_,e⟩
 | tup xs=>obtain ⟨_,_,_,p⟩:=x; obtain ⟨ob,e,_⟩:=p; exact ⟨ob,e⟩
 | dK kvs=>obtain ⟨_,_,_,_,ob,_,_,e,_⟩:=x; exact ⟨ob,e⟩
 | dT kvs=>obtain ⟨_,_,_,_,ob,_,_,e,_⟩:=x; exact ⟨ob,e⟩
 | set S n=>obtain ⟨ob,_,_,_,e,_⟩:=x; exact ⟨ob,e⟩
 | ins C dx fs=>obtain ⟨_,_,_,e,_⟩:=x; exact ⟨_,e⟩
 | own y=>exact x
 | xd fs=>obtain ⟨_,⟨ob,_,_,e,_⟩,_⟩:=x; exact ⟨ob,e⟩
 | rng lo hi=>obtain ⟨_,_,_,e⟩:=x; exact ⟨_,e⟩
 | frz ob u=>obtain ⟨e,_⟩:=x; exact ⟨_,e⟩
 | tbl ps=>exact ⟨_,show h.get? a=some _ from x⟩
 | met f y=>exact ⟨_,show h.get? a=some _ from x⟩
 | ext φ=>obtain ⟨_,e,_⟩:=x; exact e
theorem xI.none_of (x:xI P w H h) (e:h.get? a=none):H a=none:=by
 cases q:H a with
 | none=>rfl
 | some o=>
  obtain ⟨ob,z⟩:=(x a o q).there
  rw [e] at z
  cases z
theorem xI.hide {as:List Addr} (x:xI P w H h) (f:∀ b∈as,H b=none):xI P w H (PySem.W.hideAll h as):=λa o e=>
 (x a o e).stay (λb u hb q=>PySem.W.hideAll_get _ q λz=>by
  have n:=f b z
  rcases hb with rfl | hb
  ·rw [n] at e; cases e
  ·rw [n] at hb; cases hb) (λ_ q=>q) λ_ _ q=>q
end
structure XL (P:Program) (w:World) (outer:List Env) (H H':Hp) (s s':Shared) (B:Heap) (e:Addr) (cls a0:Value):Prop where
 os:s'.os=s.os
 bare:AllBare s'.gens
 keep:∀ b o,s.heap.get? b=some o->H b=none->b∉xq outer->B.get? b=some o
 slot:∀ b o,s.heap.get? b=some o->H b=none->b∈xq outer->∃ sl,s'.heap.get? b=some { o with slots:=sl }
 free:∀ b o,s.heap.get? b=some o->H b=none->H' b=none
 there:∀ b o,s.heap.get? b=some o->b∉xq outer->∃ o',B.get? b=some o'
 tups:∀ b xs,H b=some (.tup xs)->H' b=some (.tup xs)
 frzs:∀ b o u,H b=some (.frz o u)->H' b=some (.frz o u)
 tbls:∀ b ps,H b=some (.tbl ps)->∃ more,H' b=some (.tbl (ps++more))
 hok:xI P w H' B
 fly:Heap.FlyingW B outer e cls a0 s'.heap
def wP (P:Program) (w:World):uG:=λouter H s E ev s'=>∃ (e:Addr) (cls a0:Value) (B:Heap) (H':Hp),ev=.ref e/\XL P w outer H H' s s' B e cls a0/\E cls none H'
section
variable {P:Program} {w:World} {outer:List Env} {H H':Hp} {s s':Shared} {B:Heap} {e:Addr} {cls a0:Value}
theorem XL.un (x:XL P w outer H H' s s' B e cls a0):Un (xq outer) [] H H' s.heap s'.heap where
 keep:=λb o q n hb _=>x.fly.1 b o (x.keep b o q n hb)
 slot:=λb o q n hb _=>x.slot b o q n hb
 free:=λb o q n _=>x.free b o q n
 there:=λb o q _=>by
  by_cases hb:b∈xq outer
  ·obtain ⟨_,o',ho,_⟩:=x.fly.2.2.1.mem hb
   exact ⟨o',ho⟩
  ·obtain ⟨o',ho⟩:=x.there b o q hb
   exact ⟨o',x.fly.1 _ _ ho⟩
 tups:=x.tups
 frzs:=x.frzs
 tbls:=x.tbls
theorem XL.held (x:XL P w outer H H' s s' B e cls a0):xI P w H' s'.heap:=x.hok.kept x.fly.1
theorem XL.move {h':Heap} {tk:Nat} (x:XL P w outer H H' s s' B e cls a0) (f:Heap.FlyingW B outer e cls a0 h') (u:s'.heap.UpToSlots h'):XL P w outer H H' s { s' with heap:=h',toks:=tk } B e cls a0 where
 os:=x.os
 bare:=x.bare
 keep:=x.keep
 slot:=λb o q n hb=>by
  obtain ⟨sl,e1⟩:=x.slot b o q n hb
  obtain ⟨_,o',ho,nf⟩:=x.fly.2.2.1.mem hb
  rw [e1] at ho
  cases ho
  obtain ⟨sl',e2⟩:=u b _ e1 nf
  exact ⟨sl',e2⟩
 free:=x.free
 there:=x.there
 tups:=x.tups
 frzs:=x.frzs
 tbls:=x.tbls
 hok:=x.hok
 fly:=f
theorem XL.new (x:XL P w outer H H' s s' B e cls a0):s.heap.get? e=none/\H' e=none/\e∉xq outer:=by
 have nf:e∉xq outer:=λz=>by
  obtain ⟨_,o,ho,nd⟩:=x.fly.2.2.1.mem z
  obtain ⟨oe,vs,he,_,hd,_⟩:=x.fly.first
  rw [he] at ho
  cases ho
  exact nd _ hd
 refine ⟨?_,x.hok.none_of x.fly.2.1,nf⟩
 cases q:s.heap.get? e with
 | none=>rfl
 | some o=>
  obtain ⟨o',z⟩:=x.there e o q nf
  rw [x.fly.2.1] at z
  cases z
end
section
variable {P:Program} {w:World} {K:PySem.W.Frag} {mg:Str->Option Value} {base:Heap} {N:List Str} {qual:Str} {scope:Scope} {f:Addr} {cd:Value} {A:Around} {outer:List Env} {s:Shared} {H:Hp} {E:XK}
theorem Z4 {X:Cx} {pins:List (Addr × Obj)} {σ:St} {H1:Hp} {s1:Shared} {b:Addr} {o:Obj} (I:zQ X pins σ H1 s1) (q:X.s₀.heap.get? b=some o) (hb:b∉X.fs):b∉xq X.stack:=λz=>by
 rcases List.mem_cons.mp (I.stkSub b z) with e | z
 ·exact absurd (Nat.lt_of_lt_of_le (Heap.lt_size q) I.ok.above) (by rw [e]; exact Nat.lt_irrefl _)
 ·exact hb z
theorem Qu {pins:List (Addr × Obj)} {σ:St} {H1:Hp} {s1:Shared} {h2:Heap} {e:Addr} {cls:Value} {args:List Value}
  (I:zQ (zP (wP P w) P w K mg base N qual scope f cd A outer s H E) pins σ H1 s1) (hx:Heap.MadeExcOf s1.heap h2 e cls args) (q:E cls none H1) :
  (zP (wP P w) P w K mg base N qual scope f cd A outer s H E).xe (.ref e) { s1 with heap:=h2 }:=by
 have fr:=I.stack
 have fh:=PySem.W.funFrames_hide (as:=xq (zP (wP P w) P w K mg base N qual scope f cd A outer s H E).stack) fr λenv he b hb=>List.mem_filterMap.mpr ⟨env,he,hb⟩
 refine wpAny_leaves_madeW (base:=PySem.W.hideAll s1.heap (xq (zP (wP P w) P w K mg base N qual scope f cd A outer s H E).stack)) I.ok.frames rfl (λb o q=>PySem.W.of_hideAll _ q) fh hx λh' t x1 x2 x3 x4=>?_
 refine ⟨e,cls,.ref t,_,H1,rfl,⟨I.os,I.bare,λb o eb n hb=>?_,λb o eb n hb=>?_,λb o eb n=>I.base.free b o eb n (by simp [zP]),λb o eb hb=>?_,I.base.tups,I.base.frzs,I.base.tbls,I.hok.hide λb hb=>I.stkFree b hb,x1⟩,q⟩
 ·exact PySem.W.hideAll_get _ (I.base.keep b o eb n hb (by simp [zP])) (Z4 I eb hb)
 ·obtain ⟨sl,e1⟩:=I.base.slot b o eb n hb (by simp [zP])
  obtain ⟨_,o',ho,nf⟩:=I.funs.mem hb
  rw [e1] at ho
  cases ho
  obtain ⟨sl',e2⟩:=x4 b _ (hx.keeps _ _ e1) nf
  exact ⟨sl',e2⟩
 ·obtain ⟨o',e1⟩:=I.base.there b o eb (by simp [zP])
  exact ⟨o',PySem.W.hideAll_get _ e1 (Z4 I eb hb)⟩
theorem zK9 {E':XK} (hE:∀ c d H,E' c d H->E c d H):qG (wP P w) (zP (wP P w) P w K mg base N qual scope f cd A outer s H E) E':=by
 intro pins σ H1 s1 ev s2 I h
 obtain ⟨e,cls,a0,B,H2,rfl,x,q⟩:=h
 have un:=(I.base.mono (fs':=xq (zP (wP P w) P w K mg base N qual scope f cd A outer s H E).stack) (ex':=[]) (λb hb=>by
  show b∈xq (_ :: outer)
  unfold xq
  rw [List.filterMap_cons]
  split
  ·exact hb
  ·exact List.mem_cons_of_mem _ hb) λb hb=>hb).trans x.un
 have hx:Heap.FlyingW B ((zP (wP P w) P w K mg base N qual scope f cd A outer s H E).env :: outer) e cls a0 s2.heap:=x.fly
 refine wpAny_leaves_onW I.ok.frames rfl hx λh' fl up=>?_
 refine ⟨e,cls,a0,B,H2,rfl,⟨x.os.trans I.os,x.bare,λb o eb n hb=>?_,λb o eb n hb=>?_,λb o eb n=>un.free b o eb n (by simp),λb o eb hb=>?_,un.tups,un.frzs,un.tbls,x.hok,fl⟩,hE _ _ _ q⟩
 ·exact x.keep b o (I.base.keep b o eb n hb (by simp [zP])) (I.base.free b o eb n (by simp [zP])) (Z4 I eb hb)
 ·obtain ⟨sl,e1⟩:=I.base.slot b o eb n hb (by simp [zP])
  have hb2:b∈xq (zP (wP P w) P w K mg base N qual scope f cd A outer s H E).stack:=by
   show b∈xq (_ :: outer)
   unfold xq
   rw [List.filterMap_cons]
   split
   ·exact hb
   ·exact List.mem_cons_of_mem _ hb
  obtain ⟨sl1,e2⟩:=x.slot b _ e1 (I.base.free b o eb n (by simp [zP])) hb2
  obtain ⟨_,o',ho,nf⟩:=x.fly.2.2.1.mem hb2
  rw [e2] at ho
  cases ho
  obtain ⟨sl2,e3⟩:=up b _ e2 nf
  exact ⟨sl2,e3⟩
 ·obtain ⟨o',e1⟩:=I.base.there b o eb (by simp [zP])
  exact x.there b o' e1 (Z4 I eb hb)
end
theorem zN3 {K:PySem.W.Frag} {h:Heap} {C:Addr} {bmB:List Value} {newId:String} (X:K.In h) (q:PySem.W.excIn K C bmB newId=true) :
  ∃ bm N nm qn bs hdct sn sub ab col dd k0 k1 k2 k3 k5 mN,h.get? C=some (excClassObj nm qn C N bs bm hdct sn sub ab col dd k0 k1 k2 k3 k5 newId)/\h.Ns N mN/\mN "__init__" = none/\OwnTail h bmB bm:=by
 unfold PySem.W.excIn at q
 split at q
 case h_1 dd cd sl look=>
  split at q
  case h_1 C1 tl k0 k1 k2 k3 made k5 eqm eqs=>
   simp only [Bool.and_eq_true,beq_iff_eq,Bool.not_eq_true'] at q
   obtain ⟨⟨⟨⟨⟨e1,e2⟩,e3⟩,e4⟩,e5⟩,e6⟩:=q
   subst e1 e2
   obtain ⟨nm,bs,mro,ns,qn,hd,sn,sub,ab,col,del⟩:=cd
   obtain ⟨sll⟩:=sl
   dsimp only at eqm e3 e5 e6 eqs
   subst eqm e3 eqs
   exact ⟨tl,ns,nm,qn,bs,hd,sn,sub,ab,col,dd,k0,k1,k2,k3,k5,h.nsMap ns,X _ _ look,.of_isNs (PySem.W.isNs_of_in X e5),PySem.W.nsMap_none_of_in X e5 e6,PySem.W.tail_of_in X e4⟩
  all_goals cases q
 all_goals cases q
abbrev Xz:List Value:=[.type "ValueError",.type "Exception",.type "BaseException",.type "object"]
def zOM (C:Addr) (E:XK) (ta:TA):TS:=λ_ σ H=>ta σ H λvs H1=>vs.length<=sizeLine/\E (.ref C) none H1
def zO8 (X:Cx) (E:XK):Prop:=∀ (pins:List (Addr × Obj)) (σ:St) (H:Hp) (s:Shared) (h':Heap) (e:Addr) (cls:Value) (args:List Value),zQ X pins σ H s->Heap.MadeExcOf s.heap h' e cls args->E cls none H->X.xe (.ref e) { s with heap:=h' }
theorem Qv {X:Cx} {C:Addr} {E:XK} {x:Str} {np cpos pos:Pos} {e0:Expr} {es:List Expr} {ta:TA} (R:zO8 X E) (hC:PySem.W.excIn X.K C Xz "ValueError.__new__" = true) (hg:Gl X x) (hm:X.mg x=some (.ref C)) (hc:X.calm=true) (ha:PA X (e0 :: es) ta)
  (hdb:(x == ("__debug__" : Str))=false:=by decide) (he:starEach (e0 :: es) X.env=(false,eval e0 X.env) :: starEach es X.env:=by rfl) (hpl:(backTo cpos (starEach es X.env)).any (·.1)=false:=by rfl) :
  PS X (.Raise (some (.Call (.Name x np) (e0 :: es) [] cpos)) none pos) (zOM C E ta):=by
 intro pins s σ H D I h
 obtain ⟨bm,N,nm,qn,bs,hdct,sn,sub,ab,col,dd,k0,k1,k2,k3,k5,mN,oC,oN,oi,oT⟩:=zN3 I.ok.mod.kin hC
 have hp:(backTo cpos (starEach (e0 :: es) X.env)).any (·.1)=false:=by
  rw [he]
  show (false || (backTo cpos (starEach es X.env)).any (·.1))=false
  rw [hpl]
  rfl
 refine wpAny_Raise_call_subT (C:=C) (nm:=nm) (q:=qn) (N:=N) (bs:=bs) (bm:=bm) (hdct:=hdct) (sn:=sn) (sub:=sub) (ab:=ab) (col:=col) (dd:=dd) (k0:=k0) (k1:=k1) (k2:=k2) (k3:=k3) (k5:=k5) PySem.F.excBase_ValueError (mN:=mN)
  (oT.hasType PySem.F.excBase_ValueError.hasBase) (I.ok.hd hc) hp oi (qo I hg hm ⟨rfl,?_⟩ hdb)
 have ha':=ha cpos pins s σ H _ I h
 rw [he] at ha' |-
 refine Calls.evalArgs_plain (yQ ha' λus s2 ⟨vs,H1,I2,r,hl,qE⟩=>?_)
 exact ⟨rfl,(by rw [<- r.length]; exact hl),I2.bk _ _ oC,oN.keeps I2.bk,oT.keeps I2.bk,λh' e hm'=>R pins σ H1 s2 h' e _ _ I2 hm' qE⟩
section
variable {P:Program} {w:World} {K:PySem.W.Frag} {mg:Str->Option Value} {base:Heap}
theorem yb.okX {x qual:Str} {st:Stmt} {f:Addr} {fd:FuncData} {N ps:List Str} {k:Nat} {sp:Sp} (F:yb K x qual st f fd) (S:ya N ps (ze st)) (len:∀ vs H Q E,sp vs H Q E->vs.length=ps.length)
  (hbody:∀ (cdv:Value) (A:Around) (outer:List Env) (s:Shared) (H:Hp) (vs:List V) (Q:VK) (E:XK),yf k (A.deeper (envOfC qual (ze st) s.heap.objs.size f cdv))->sp vs H Q E->
   ∃ t,xc (zP (wP P w) P w K mg base N qual (ze st) f cdv A outer s H E) (xR st) t/\t { nx:=λ_ H'=>Q .non H',rt:=Q } (u9 N vs) H):zU P w K mg base (wP P w) (k + 1) f fd ps sp:=by
 obtain ⟨oc,od,kV,doc,pm,an,cdv,ct,osl,rfl,lk,hcd⟩:=F.ex
 exact XD lk hcd S len λA outer s H vs Q E hr hsp=>hbody cdv A outer s H vs Q E hr hsp
structure ur (P:Program) (w:World) (K:PySem.W.Frag) (mg:Str->Option Value) (base:Heap) (x:Str) (ps:List Str) (k:Nat) (sp:Sp):Prop where
 ex:∃ f fd,zU P w K mg base (wP P w) k f fd ps sp/\mg x=some (.ref f)/\PySem.W.keepIn K (.ref f)=true/\vd K fd ps []
theorem ur.mono {x:Str} {ps:List Str} {j k:Nat} {sp:Sp} (F:ur P w K mg base x ps j sp) (h:j<=k:=by decide):ur P w K mg base x ps k sp:=by
 obtain ⟨f,fd,a,b,c,d⟩:=F.ex
 exact ⟨f,fd,a.mono h,b,c,d⟩
end
def kT (e C:Addr):HO:=.ext λh=>∃ oe vs,h.get? e=some oe/\oe.cls=.ref C/\oe.data=.fields vs
section
variable {X:Cx}
end
abbrev Cx.mark (X:Cx) (e:Addr):Cx:={ X with A:=X.A.mark (some (.ref e)),calm:=false,xe:=λ_ _=>False }
section
variable {X:Cx} {pins:List (Addr × Obj)} {σ:St} {H:Hp} {s:Shared} {e:Addr}
theorem zQ.mark (I:zQ X pins σ H s) (e:Addr):zQ (X.mark e) pins σ H s:=
 ⟨⟨I.ok.mod,I.ok.kind,I.ok.glob,I.ok.blt,I.ok.above,I.ok.inj,I.ok.has,I.ok.cab,λz=>(nomatch z),I.ok.frames,I.ok.stk,I.ok.exf,I.ok.bs,I.ok.bsz,I.ok.noex,I.ok.exfs,I.ok.funs,I.ok.frf⟩,I.os,I.bare,I.base,I.loc,I.cell,I.free,I.freeC,I.pin,I.hok,I.len⟩
theorem zQ.unmark (hh:X.calm=true->X.A.handled=none) (I:zQ (X.mark e) pins σ H s):zQ X pins σ H s:=
 ⟨⟨I.ok.mod,I.ok.kind,I.ok.glob,I.ok.blt,I.ok.above,I.ok.inj,I.ok.has,I.ok.cab,hh,I.ok.frames,I.ok.stk,I.ok.exf,I.ok.bs,I.ok.bsz,I.ok.noex,I.ok.exfs,I.ok.funs,I.ok.frf⟩,I.os,I.bare,I.base,I.loc,I.cell,I.free,I.freeC,I.pin,I.hok,I.len⟩
theorem zQ.track {o:HO} (I:zQ X pins σ H s) (hn:H e=none) (h0:e∈X.ex\/X.s₀.heap.get? e=none) (hL:e≠X.env.locals) (hc:∀ x c,X.env.cells.lookup x=some c->c≠e) (hp:∀ p∈X.pn++pins,p.1≠e)
  (new:xV X.prog X.w (upd H e o) s.heap e o):zQ X pins σ (upd H e o) s:=by
 have ne:∀ b u,H b=some u->b≠e:=λb u q=>wx q hn
 refine ⟨I.ok,I.os,I.bare,⟨I.base.keep,I.base.slot,λb ob q n hx=>?_,I.base.there,λb xs q=>?_,λb ob u q=>?_,λb ps q=>?_⟩,I.loc,I.cell,?_,λx c q=>?_,λp hq=>?_,λb u q=>?_,I.len⟩
 ·rw [yW λz=>?_]
  ·exact I.base.free b ob q n hx
  ·subst z
   rcases h0 with z | z
   ·exact hx z
   ·rw [q] at z; cases z
 ·have z:=I.base.tups b xs q
  rw [yW (ne _ _ z)]
  exact z
 ·have z:=I.base.frzs b ob u q
  rw [yW (ne _ _ z)]
  exact z
 ·obtain ⟨m,z⟩:=I.base.tbls b ps q
  exact ⟨m,by rw [yW (ne _ _ z)]; exact z⟩
 ·rw [yW (Ne.symm hL)]
  exact I.free
 ·rw [yW (hc x c q)]
  exact I.freeC x c q
 ·obtain ⟨a1,a2,a3,a4,a5⟩:=I.pin p hq
  exact ⟨a1,by rw [yW (hp p hq)]; exact a2,a3,a4,a5⟩
 ·by_cases z:b=e
  ·subst z
   rw [zj] at q
   cases q
   exact new
  ·rw [yW z] at q
   exact (I.hok b u q).stay (λ_ _ _ r=>r) (λc r=>by rw [yW (ne _ _ r)]; exact r) λc xs r=>by rw [yW (ne _ _ r)]; exact r
end
def Qw (X:Cx) (ex:Expr) (t:XK->TE):Prop:=
 ∀ (pins:List (Addr × Obj)) (s:Shared) (σ:St) (H:Hp) (Q:VK) (E:XK),zQ X pins σ H s->t E σ H Q->
  wpAny (model X.prog X.w) X.A (eval ex X.env) (EP X pins σ Q) (λev s'=>∃ (s1:Shared) (H1 H2:Hp) (e:Addr) (cls a0:Value) (B:Heap),zQ X pins σ H1 s1/\ev=.ref e/\XL X.prog X.w X.stack H1 H2 s1 s' B e cls a0/\E cls none H2) s
theorem zK5 {X:Cx} {x:Str} {ps:List Str} {k:Nat} {sp:Sp} {e:Expr} {es:List Expr} {t:TA} {p pos:Pos} (F:ur X.prog X.w X.K X.mg X.base x ps k sp) (hr:yf k X.A) (hg:Gl X x) (ha:PA X.nox (e :: es) t)
  (hdb:(x == ("__debug__" : Str))=false:=by decide) (he:starEach (e :: es) X.env=(false,eval e X.env) :: starEach es X.env:=by rfl) (hpl:(backTo pos (starEach es X.env)).any (·.1)=false:=by rfl) :
  Qw X (.Call (.Name x p) (e :: es) [] pos) (λE=>gk sp [] E t):=by
 intro pins s σ H Q E I h
 obtain ⟨f,fd,Fk,hm,hk,hb⟩:=F.ex
 refine wpAny_Call_Name_kw (qo I hg hm ?_ hdb)
 refine PySem.W.callWith_K (h₀:=X.base) I.ok.mod.kin hk (wpAny_mono (ha pos pins s σ H _ (I.wish _) h) (λus s1 ⟨vs,H1,I1,r,q⟩=>⟨I1.unwish.kIn,?_⟩) λ_ _ z=>False.elim z) he hpl
 have I1':=I1.unwish
 have r2:zf (vs++[]) (us++[]):=r.append .nil
 have hl:(us++[]).length=ps.length:=by rw [<- r2.length]; exact Fk.len _ _ _ _ q
 refine wpAny_call (codeAny_mono (Fk.run X.A X.stack s1 H1 ⟨us,[]⟩ (us++[]) (vs++[]) Q E hr I1'.env0 (hb s1 us I1'.kIn hl) r2 q) λr s' hq=>?_)
 cases r with
 | error ev=>
  obtain ⟨ee,cls,a0,B,H2,rfl,x,qE⟩:=hq
  exact ⟨s1,H1,H2,ee,cls,a0,B,I1',rfl,x,qE⟩
 | ok fl=>
  cases fl with
  | ret u=>exact I1'.after hq
  | next=>exact False.elim hq
  | brk=>exact False.elim hq
  | cont=>exact False.elim hq
end L2
namespace L2
open PySem PySem.Spec PyProof.Rows
def XP (X:Cx) (pins:List (Addr × Obj)) (ES:St->XK) (ev:Value) (s':Shared):Prop:=
 ∃ (σ1:St) (s1:Shared) (H1 H2:Hp) (e:Addr) (cls a0:Value) (B:Heap),zQ X pins σ1 H1 s1/\ev=.ref e/\XL X.prog X.w X.stack H1 H2 s1 s' B e cls a0/\ES σ1 cls none H2
abbrev TX:=(St->XK)->TS
def Qx (X:Cx) (st:Stmt) (t:TX):Prop:=∀ (pins:List (Addr × Obj)) (s:Shared) (σ:St) (H:Hp) (D:xx) (ES:St->XK),zQ X pins σ H s->t ES D σ H->wpAny (model X.prog X.w) X.A (exec st X.env) (SP X pins D) (XP X pins ES) s
def jZ (X:Cx) (ss:List Stmt) (t:TX):Prop:=∀ (pins:List (Addr × Obj)) (s:Shared) (σ:St) (H:Hp) (D:xx) (ES:St->XK),zQ X pins σ H s->t ES D σ H->wpAny (model X.prog X.w) X.A (execs ss X.env) (SP X pins D) (XP X pins ES) s
section
variable {X:Cx} {call:Expr} {tb:XK->TE} {pos pos':Pos}
theorem zNb {i:Nat} {x:Str} (hN:X.N.Nodup) (hi:X.N[i]? = some x) (hx:gU X.env.scope x) (hb:Qw X call tb) (hs:swapsWith call (some (.Name x pos')) pos.line X.env=pure false:=by rfl)
  (hf:X.fn x=true\/X.env.scope.names.lookup x=some .local:=by first | exact .inl rfl | exact .inr rfl | assumption):Qx X (.Assign [.Name x pos'] call pos) (λES D σ H=>tb (ES σ) σ H λv H1=>D.nx (σ.set i (some v)) H1):=by
 intro pins s σ H D ES I h
 refine wpAny_Assign_Name (wpAny_mono (hb pins s σ H _ _ I h) (λv s1 ⟨y,H1,I1,r1,q1⟩=>?_) λev s1 ⟨s0,H1,H2,e,cls,a0,B,I0,e1,xl,q⟩=>⟨σ,s0,H1,H2,e,cls,a0,B,I0,e1,xl,q⟩) hs
 exact gW I1 hN hi hx r1 (λs2 I2=>⟨_,H1,I2,q1⟩) hf
theorem zMR:jZ X [] (λ_ D σ H=>D.nx σ H):=λ_ _ σ H _ _ I h=>wpAny_execs_nil ⟨σ,H,I,h⟩
theorem zK3 {st:Stmt} {ss:List Stmt} {t u:TX} (h1:Qx X st t) (h2:jZ X ss u):jZ X (st :: ss) (λES D σ H=>t ES { D with nx:=u ES D } σ H):=by
 intro pins s σ H D ES I h
 refine wpAny_execs_cons (wpAny_mono (h1 pins s σ H _ ES I h) (λf s1 q=>?_) λ_ _ z=>z)
 cases f with
 | next=>obtain ⟨σ',H',I',q'⟩:=q; exact h2 pins s1 σ' H' D ES I' q'
 | brk=>exact q
 | cont=>exact q
 | ret u=>exact q
end
def kU (K:PySem.W.Frag) (Cb:Addr) (tb:TX) (th:TS):TS:=λD σ H=>
 tb (λσ1 cls _ H2=>∃ C,cls=.ref C/\PySem.W.exmOne K (.ref C) (.ref Cb)=some true/\∀ e,H2 e=none->
  th D σ1 (upd H2 e (kT e C))) D σ H
theorem zNc {X:Cx} {Cb:Addr} {x:Str} {body:List Stmt} {tb:TX} {th:TS} {b₀:Stmt} {suite:List Stmt} {np hpos pos:Pos} (hg:Gl X x) (hm:X.mg x=some (.ref Cb)) (hc:X.calm=true)
  (hf:X.env.frame=some X.env.locals) (hst:X.stack=X.env :: X.outer) (hb:jZ X body tb) (hh:∀ e,xc (X.mark e) (b₀ :: suite) th)
  (hdb:(x == ("__debug__" : Str))=false:=by decide) :
  PS X (.Try body [.ExceptHandler (some (.Name x np)) none (b₀ :: suite) hpos] [] [] pos) (kU X.K Cb tb th):=by
 intro pins s σ H D I h
 refine wpAny_Try_except (wpAny_mono (hb pins s σ H D _ I h) (λfl s1 q1=>?_) λev s1 hx=>?_)
 ·cases fl with
  | next=>exact wpAny_execs_nil q1
  | brk=>exact q1
  | cont=>exact q1
  | ret u=>exact q1
 obtain ⟨σ1,s0,H1,H2,e,cls,a0,B,I0,rfl,xl,C,rfl,hx,q⟩:=hx
 have hfr:X.A.frames=some (X.env :: X.outer):=by rw [<- hst]; exact I.ok.frames
 have xl':XL X.prog X.w (X.env :: X.outer) H1 H2 s0 s1 B e (.ref C) a0:=by rw [<- hst]; exact xl
 have behind:∀ {h':Heap} {tk:Nat},XL X.prog X.w (X.env :: X.outer) H1 H2 s0 { s1 with heap:=h',toks:=tk } B e (.ref C) a0->zQ X pins σ1 H2 { s1 with heap:=h',toks:=tk }:=λ{h' tk} z=>by
  have z':XL X.prog X.w X.stack H1 H2 s0 { s1 with heap:=h',toks:=tk } B e (.ref C) a0:=by rw [hst]; exact z
  exact I0.call' (ch:=[]) z'.os z'.un z'.held z'.bare λb hb=>absurd hb (by simp)
 have hE:∀ (Y:Around) (v:Value) (sx:Shared),False->notedBy (model X.prog X.w) Y X.env (cameBackBy (model X.prog X.w) X.A X.env X.xe) v sx:=λ_ _ _ z=>z.elim
 refine wpAny_looks_onW hfr hf xl'.fly λh4 held4 up4=>?_
 refine wpAny_landsW held4 λh5 fly5 up5=>?_
 have x5:=xl'.move (tk:=s1.toks) fly5 (up4.trans up5)
 have I5:=behind x5
 refine wpAny_handleBy_cons (codeAny_handlers_test (qo (I5.mark e) hg hm ?_ hdb)) (by intro q; cases q)
 obtain ⟨oe,ws,he,hcl,hd,_⟩:=fly5.first
 have LT:PySem.W.Looks (model X.prog X.w) h5 (typeOf (.ref e)) (.ref C):=hcl ▸ (PySem.W.Looks.ld he).andThen .now
 refine (PySem.W.exm_one (K:=X.K) I5.kIn LT hx).here (codeAny_handlers_suite ?_)
 refine lands_againW (s:={ s1 with heap:=h5 }) fly5 λh6 fly6 up6=>?_
 have x6:=xl'.move (tk:=s1.toks) fly6 ((up4.trans up5).trans up6)
 have I6:=behind x6
 obtain ⟨oe6,ws6,he6,hcl6,hd6,_⟩:=fly6.first
 obtain ⟨new,hH,nfr⟩:=xl.new
 have eL:e≠X.env.locals:=λz=>nfr (by
  rw [hst]
  unfold xq
  rw [List.filterMap_cons,hf,z]
  exact List.mem_cons_self)
 have J6:zQ X pins σ1 (upd H2 e (kT e C)) { s1 with heap:=h6,toks:=s1.toks }:=by
  refine I6.track hH ?_ eL (λy c q z=>?_) (λp hp z=>?_) ⟨⟨oe6,ws6,he6,hcl6,hd6⟩,⟨oe6,he6⟩,λg1 g2 ⟨o,v,p1,p2,p3⟩ k=>⟨o,v,k _ p1,p2,p3⟩⟩
  ·by_cases hx:e∈X.ex
   ·exact .inl hx
   ·refine .inr ?_
    cases q:X.s₀.heap.get? e with
    | none=>rfl
    | some o=>
     obtain ⟨o',z⟩:=I0.base.there e o q hx
     rw [new] at z
     cases z
  ·obtain ⟨v,o,ho,_⟩:=I0.cell y c q
   rw [z,new] at ho
   cases ho
  ·have z1:=(I0.pin p hp).1
   rw [z,new] at z1
   cases z1
 refine wpAny_mono (hh e pins _ _ _ _ (J6.mark e) (q e hH)) (λfl s8 h8=>?_) λ_ _ z=>False.elim z
 cases fl with
 | ret u=>obtain ⟨v,σ8,H8,I8,r8,q8⟩:=h8; exact ⟨v,σ8,H8,I8.unmark λz=>I.ok.hd z,r8,q8⟩
 | brk=>obtain ⟨σ8,H8,I8,q8⟩:=h8; exact ⟨σ8,H8,I8.unmark λz=>I.ok.hd z,q8⟩
 | cont=>obtain ⟨σ8,H8,I8,q8⟩:=h8; exact ⟨σ8,H8,I8.unmark λz=>I.ok.hd z,q8⟩
 | next=>obtain ⟨σ8,H8,I8,q8⟩:=h8; exact ⟨σ8,H8,I8.unmark λz=>I.ok.hd z,q8⟩
end L2
namespace L2
open PySem PySem.Spec PyProof.Rows
section
variable {X:Cx} {C:Addr} {m x:Str} {ps:List Str} {k:Nat} {sp:Sp} {o e:Expr} {es:List Expr} {ta:TE} {t:TA} {p pos apos:Pos}
end
section
variable {P:Program} {w:World} {K:PySem.W.Frag} {mg:Str->Option Value} {base:Heap} {N:List Str} {qual:Str} {scope:Scope} {f:Addr} {cd:Value} {A:Around} {outer:List Env} {s:Shared} {H:Hp} {E:XK}
variable {C:Addr} {m x:Str} {ps:List Str} {k:Nat} {sp:Sp} {o e:Expr} {es:List Expr} {ta:TE} {t:TA} {p pos apos:Pos}
theorem X0 (F:ur P w K mg base x ps k sp) (hr:yf k (zP (wP P w) P w K mg base N qual scope f cd A outer s H E).A) (hg:Gl (zP (wP P w) P w K mg base N qual scope f cd A outer s H E) x) (ha:PA (zP (wP P w) P w K mg base N qual scope f cd A outer s H E) (e :: es) t)
  (hdb:(x == ("__debug__" : Str))=false:=by decide) (he:starEach (e :: es) (zP (wP P w) P w K mg base N qual scope f cd A outer s H E).env=(false,eval e (zP (wP P w) P w K mg base N qual scope f cd A outer s H E).env) :: starEach es (zP (wP P w) P w K mg base N qual scope f cd A outer s H E).env:=by rfl)
  (hpl:(backTo pos (starEach es (zP (wP P w) P w K mg base N qual scope f cd A outer s H E).env)).any (·.1)=false:=by rfl) :
  PE (zP (wP P w) P w K mg base N qual scope f cd A outer s H E) (.Call (.Name x p) (e :: es) [] pos) (gk sp [] E t):=by
 obtain ⟨f',fd,a,b,c,d⟩:=F.ex
 exact XC (X:=zP (wP P w) P w K mg base N qual scope f cd A outer s H E) a hr hg b c d .nil (zK9 λ_ _ _ z=>z) ha hdb he hpl
end
end L2
namespace L2
open PySem PySem.Spec PyProof.Rows
def zH (sp:Sp):Sp:=λvs H Q _=>sp vs H Q λ_ _ _=>False
section
variable {P:Program} {w:World} {K:PySem.W.Frag} {mg:Str->Option Value} {base:Heap} {k:Nat} {f C:Addr} {fd:FuncData} {x m:Str} {ps:List Str} {sp:Sp}
end
end L2
namespace L2
open PySem PySem.Spec PyProof.Rows PySem.Builtin PySem.Builtin.ObjectAttr PySem.Builtin.Getset_descriptor
section
variable {prog:Program} {w:World} {A:Around} {E:Value->Shared->Prop} {K:PySem.W.Frag} {s:Shared} {e C:Addr} {oe:Obj}
end
section
variable {X:Cx}
end
end L2
namespace L2
open PySem PySem.Spec PyProof.Rows
section
variable {X:Cx}
end
section
open Sh
variable {X:Cx}
end
end L2
namespace L2
open PySem PySem.Spec PyProof.Rows
abbrev X1 (sp:Sp):Sp:=λvs H Q _=>sp vs H Q (λ_ _ _=>False)
theorem ur.calm {P:Program} {w:World} {K:PySem.W.Frag} {mg:Str->Option Value} {base:Heap} {x:Str} {ps:List Str} {k:Nat} {sp:Sp} (F:ur P w K mg base x ps k sp):Fn P w K mg base x ps k (X1 sp):=by
 obtain ⟨f,fd,a,b,c,d⟩:=F.ex
 refine ⟨f,fd,⟨λvs H Q E h=>a.len _ _ _ _ h,λA outer s H args us vs Q E hr he hb hv hs=>?_⟩,b,c,d⟩
 refine codeAny_mono (a.run A outer s H args us vs Q (λ_ _ _=>False) hr he hb hv hs) λr s' h=>?_
 cases r with
 | ok o=>cases o <;> exact h
 | error ev=>
  obtain ⟨e,cls,a0,B,H',_,_,z⟩:=h
  exact z.elim
end L2
namespace L2
open PySem PySem.Spec PyProof.Rows
section
variable {X:Cx}
def zNZ (K:PySem.W.Frag):R2:=λx y H Q=>∃ (d:PyData) (xs:List PyData),Dp K H x d/\Dp K H y (.tuple xs)/\d.canLay0=true/\PyData.canLayAll0 xs=true/\d.depth<=60/\Q (.bl (!xs.any λy=>PyData.eqv y d)) H
theorem zLA (hu:X.A.units + 64 < cLine):xj X (compareOp .NotIn) (zNZ X.K):=by
 intro pins s σ H x y v u Q I rx ry h
 obtain ⟨d,xs,hx,hy,hc,hxs,hd,q⟩:=h
 obtain ⟨_,r1⟩:=hx.reads I rx
 obtain ⟨_,r2⟩:=hy.reads I ry
 exact SeqAt.notIn_tuple_reads r2 r1 hxs hc (by omega) ⟨.bl _,H,I,rfl,q⟩
end
end L2
set_option linter.all false
namespace Sh
def bt:List (Int × Int)->Int
 | []=>1
 | p :: ps=>p.2 * bt ps
def tp:List Int->List (Int × Int)->Int
 | w :: ws,p :: ps=>w * p.1 * bt ps + p.2 * tp ws ps
 | _,_=>0
def yj:List Int->List Int->Int
 | r :: rs,a :: as=>r * a + yj rs as
 | _,_=>0
def zu (nums:List Int) (ls:List (List Int)) (j:Nat):Int:=((nums.zip ls).map λq=>q.1 * q.2.getD j 0).sum
end Sh
set_option linter.all false
namespace Sh
def uf (pl:Int) (n:Nat) (nu:Int):List Int:=(List.range n).map λ(i:Nat)=>if (i:Int)=pl then nu else 0
theorem X2 (pl:Int) (n:Nat) (nu:Int):(uf pl n nu).length=n:=by
 unfold uf
 rw [List.length_map,List.length_range]
theorem Qy (pl:Int) (n:Nat) (nu:Int):uf pl (n + 1) nu=uf pl n nu++[if (n:Int)=pl then nu else 0]:=by
 unfold uf
 rw [List.range_succ,List.map_append]
 rfl
def hB (pts:List (Int × Int)) (ws:List Int) (b:Int):Bool:=decide (tp ws pts<=b * bt pts)
end Sh
namespace K83
open PySem L2 Sh
theorem zw {H:Hp} {a:Addr} (o:HO) (h:H a=none):∃ G,upd H a o=G/\zG H G/\G a=some o:=⟨_,rfl,zx h o,zj⟩
theorem vL:0<=sizeLine:=by decide
theorem wQ:1<=sizeLine:=by decide
theorem wf:2<=sizeLine:=by decide
theorem Z5:3<=sizeLine:=by decide
theorem Z6:4<=sizeLine:=by decide
theorem sz5:5<=sizeLine:=by decide
theorem Z7:6<=sizeLine:=by decide
theorem yd {n:Nat} (h:n<=1000):n<=sizeLine:=Nat.le_of_lt (wY h)
theorem uZ {X:Cx} {scope:Scope} {own:List Str} (k:scope.kind=.function) (nd:(scope.names.map (·.1)).Nodup:=by decide +kernel) (fr:scope.names.all (λy=>y.2 != .free)=true:=by decide +kernel):uW X scope own []:=
 ⟨k,nd,λy hy e=>qN nd (by rw [<- e]; exact hy),λy hy e=>(by
  have q:=List.all_eq_true.mp fr y hy
  rw [e] at q
  exact absurd q (by decide)),λp hp=>by cases hp⟩
theorem wD {X:Cx} {scope S:Scope} {own N:List Str} {caps:List (Nat × Str)} (hc:∃ n,X.env.cells=cellsFrom n S.names []) (k:scope.kind=.function:=by rfl) (nd:(scope.names.map (·.1)).Nodup:=by decide +kernel) (hS:X.env.scope=S:=by rfl) (hN:X.N=N:=by rfl) (fr:scope.names.all (λy=>y.2 != .free || S.names.lookup y.1 == some .cell)=true:=by decide +kernel)
  (cp:caps.all (λp=>N[p.1]? == some p.2 && scope.names.lookup p.2 == some .free && S.names.lookup p.2 == some .cell)=true:=by decide +kernel):uW X scope own caps:=zMw k nd hS hc hN fr cp
theorem ug {l:Addr} {H H':Hp} (h:H l=none) (s:zG H H'):zG H (hide [l] H'):=Qq (λx hx=>by rw [List.mem_singleton.mp hx]; exact h) s
abbrev ja:List Str:=["_law_script","_law_many","_law_pushes","_law_modes","_law_unit","_law_xs","_law_rows_here","_law_nexts","_law_steer","_law_push","_law_add","_law_divisor_here","_law_spec","_law_low","_law_turns"]
abbrev gG:List Str:=["_law_mode_here","_law_point_here","_law_steering","_law_pushes","_law_rows_here","_law_nexts","_law_steer","_law_push","_law_add","_law_divisor_here","_law_found","_law_i","_law_value"]
abbrev jb:List Str:=["_law_script","_law_spec","_law_safe_here","_law_low","_law_high","_law_turns","_law_thing_here","_law_rooms_here","_law_point_here","_law_held","_law_steering","_law_found","_law_turn"]
abbrev kW:List Str:=["_law_cell","_law_many","_law_wide","_law_unit","_law_split","_law_xs","_law_divisor_here","_law_nexts","_law_push","_law_i","_law_add","_law_rows_here","_law_row"]
abbrev X3:List Str:=["_law_spec","_law_safe_here","_law_cell","_law_xs","_law_parts","_law_point_here","_law_i","_law_ends","_law_middle","_law_row","_law_off"]
abbrev kX:List Str:=["_law_thing_here","_law_safe_here","_law_low","_law_high","_law_turns"]
abbrev X4:List Str:=["_law_spec","_law_room","_law_point_here","_law_steering","_law_found"]
abbrev Z8:List Str:=["_law_mode_here","_law_point_here","_law_steering","_law_pushes"]
abbrev X5:List Str:=["_law_cell","_law_many","_law_wide","_law_unit","_law_split"]
abbrev X6:List Str:=["thing","safe","low","high","turns","point","steering"]
abbrev jc:List Str:=["self","rows","nexts","steer","push","add","divisor"]
def yh (i:Nat):Stmt:=PySem.Challenge.pw_steadyhand_k83_whole_the_foe_wins.main.body.getD i (.Pass ⟨0,0,0,0⟩)
structure Bl (mg:Str->Option Value):Prop where
 isinstance_:mg "isinstance" = none
 int_:mg "int" = none
 bool_:mg "bool" = none
 tuple_:mg "tuple" = none
 len_:mg "len" = none
 abs_:mg "abs" = none
 all_:mg "all" = none
 list_:mg "list" = none
 range_:mg "range" = none
 zip_:mg "zip" = none
 sum_:mg "sum" = none
 MOST_NUMBERS_:∃ t,mg "MOST_NUMBERS" = some (.int 3 t)
 MOST_PUSHES_:∃ t,mg "MOST_PUSHES" = some (.int 6 t)
 MOST_MODES_:∃ t,mg "MOST_MODES" = some (.int 40 t)
 MOST_ROWS_:∃ t,mg "MOST_ROWS" = some (.int 60 t)
structure wr (K:PySem.W.Frag) (C:Addr):Prop where
 n_rows:vz K C "rows"
 n_nexts:vz K C "nexts"
 n_steer:vz K C "steer"
 n_push:vz K C "push"
 n_add:vz K C "add"
 n_divisor:vz K C "divisor"
structure wt (K:PySem.W.Frag) (C:Addr):Prop where
 n_many:vz K C "many"
 n_kept_pushes:vz K C "kept_pushes"
 n_kept_modes:vz K C "kept_modes"
theorem X7 {n:Nat} {ns:List Int} (h:∀ x∈ns,Bd n x):Bd n (zv ns):=by
 by_cases g:zv ns=0
 ·rw [g]
  exact Nat.two_pow_pos n
 ·by_cases z:∀ x∈ns,x=0
  ·exfalso
   apply g
   have e:ns=ns.map (· * 0):=by
    refine ((List.map_congr_left λx hx=>?_).trans (List.map_id ns)).symm
    rw [z x hx]
    rfl
   have:=zKQ (Int.le_refl 0) ns
   rw [<- e,Int.mul_zero] at this
   exact this
  ·obtain ⟨x,hx,nx⟩:∃ x,x∈ns/\x≠0:=by
    apply Classical.byContradiction
    intro c
    exact z λx hx=>Classical.byContradiction λnx=>c ⟨x,hx,nx⟩
   obtain ⟨c,hc⟩:=gv hx
   refine (h x hx).of_le ?_
   have nc:c≠0:=λe=>nx (by rw [hc,e,Int.mul_zero])
   rw [hc,Int.natAbs_mul]
   exact Nat.le_mul_of_pos_right _ (Int.natAbs_pos.mpr nc)
def jI (H:Hp) (v:V) (r:List Int × Int):Prop:=Tp H v (zo r.1 r.2)
abbrev yI (H:Hp) (vs:List V) (rows:List (List Int × Int)):Prop:=Paired (jI H) vs rows
theorem yI.same {H H':Hp} {vs:List V} {rows:List (List Int × Int)} (s:zG H H') (h:yI H vs rows):yI H' vs rows:=Paired.mapP h λ_ _ z=>Tp.same s z
theorem yI.upd {H:Hp} {vs:List V} {rows:List (List Int × Int)} {l:Addr} {o o':HO} (hl:H l=some o) (n:∀ ys,o≠.tup ys) (h:yI H vs rows):yI (upd H l o') vs rows:=Paired.mapP h λ_ _ z=>Tp.upd hl n z
structure RwB (ws:List Int) (n:Nat):Prop where
 len:ws.length=n
 bd:∀ w∈ws,Bd 2000 w
def gH (rows:List (List Int × Int)) (n:Nat):Prop:=∀ r∈rows,RwB r.1 n/\Bd 2000 r.2
theorem X8 {st:uR}:∀ (rows:List (List Int × Int)) (p:List Int × (List Int × Int)),p∈(rows.foldl wU st).1->p∈st.1\/p.2∈rows
 | [],p,h=>.inl h
 | r :: rs,p,h=>by
  rw [List.foldl_cons] at h
  rcases X8 rs p h with z | z
  ·unfold wU at z
   split at z
   ·split at z
    ·rcases gw z with y | y
     ·exact .inr (by rw [y]; exact List.mem_cons_self)
     ·exact .inl y
    ·split at z
     ·rcases gw z with y | y
      ·exact .inr (by rw [y]; exact List.mem_cons_self)
      ·exact .inl y
     ·exact .inl z
   ·split at z
    ·exact .inl z
    ·exact .inl z
  ·exact .inr (List.mem_cons_of_mem _ z)
theorem Qz {st:uR}:∀ (rows:List (List Int × Int)) (ws:List Int),(rows.foldl wU st).2=some ws->st.2=some ws\/∃ r∈rows,r.1=ws
 | [],ws,h=>.inl h
 | r :: rs,ws,h=>by
  rw [List.foldl_cons] at h
  rcases Qz rs ws h with z | ⟨q,hq,e⟩
  ·unfold wU at z
   split at z
   ·split at z
    ·exact .inl z
    ·split at z
     ·exact .inl z
     ·exact .inl z
   ·split at z
    ·cases z
     exact .inr ⟨r,List.mem_cons_self,rfl⟩
    ·exact .inl z
  ·exact .inr ⟨q,List.mem_cons_of_mem _ hq,e⟩
theorem X9:∀ (rows:List (List Int × Int)) (st:XU),(rows.foldl wE st).1.length<=st.1.length + rows.length
 | [],st=>Nat.le_refl _
 | r :: rs,st=>by
  rw [List.foldl_cons]
  have ih:=X9 rs (wE st r)
  have pl:∀ v,(put st.1 (y8 r.1) v).length<=st.1.length + 1:=λv=>by
   unfold put
   split
   ·rw [List.length_map]; omega
   ·rw [List.length_append,List.length_singleton]
    exact Nat.le_refl _
  have s1:(wE st r).1.length<=st.1.length + 1:=by
   unfold wE
   split
   ·split
    ·exact pl _
    ·split
     ·exact pl _
     ·omega
   ·split
    ·show st.1.length<=_; omega
    ·omega
  rw [List.length_cons]
  omega
def ut (ws:List Int):List Int:=if zv ws=0 then ws else y8 ws
def xJ (ws:List Int):List ye:=ws.map Sum.inl
theorem Q0 (ws:List Int):(xJ ws).map kV=ws.map V.int:=by
 unfold xJ
 rw [List.map_map]
 rfl
theorem WA:∀ {a b:List Int},xJ a=xJ b->a=b
 | [],[],_=>rfl
 | [],_ :: _,e=>by cases e
 | _ :: _,[],e=>by cases e
 | x :: xs,y :: ys,e=>by
  unfold xJ at e
  rw [List.map_cons,List.map_cons] at e
  injection e with e1 e2
  have e1':x=y:=Sum.inl.inj e1
  rw [e1',WA e2]
abbrev KM {β:Type} (R:V->β->Prop) (kvs:List (List ye × V)) (m:List (List Int × β)):Prop:=Paired (λ(p:List ye × V) (q:List Int × β)=>p.1=xJ q.1/\R p.2 q.2) kvs m
theorem WC {β:Type} {R:V->β->Prop} (k:List Int):∀ {kvs:List (List ye × V)} {m:List (List Int × β)},KM R kvs m->(wG kvs (xJ k)=none/\look m k=none)\/∃ v o,wG kvs (xJ k)=some v/\look m k=some o/\R v o
 | _,_,.nil=>.inl ⟨rfl,rfl⟩
 | p :: ps,q :: qs,.cons h t=>by
  obtain ⟨h1,h2⟩:=h
  by_cases e:q.1=k
  ·refine .inr ⟨p.2,q.2,Zf (by rw [h1,e]),?_,h2⟩
   unfold look
   rw [List.find?_cons,decide_eq_true e]
   rfl
  ·have e':¬ p.1=xJ k:=λz=>e (WA (h1.symm.trans z))
   have b:look (q :: qs) k=look qs k:=by
    unfold look
    rw [List.find?_cons,decide_eq_false e]
   rw [Zg e',b]
   exact WC k t
theorem zOt {β:Type} {R:V->β->Prop} (k:List Int) {v:V} {o:β} (hv:R v o) {kvs:List (List ye × V)} {m:List (List Int × β)} (h:KM R kvs m):KM R (xO kvs (xJ k) v) (put m k o):=by
 have rep:∀ {kvs:List (List ye × V)} {m:List (List Int × β)},KM R kvs m->KM R (kvs.map λkv=>if kv.1=xJ k then (kv.1,v) else kv) (m.map λkv=>if kv.1=k then (kv.1,o) else kv):=by
  intro kvs m h
  induction h with
  | nil=>exact .nil
  | @cons p q ps qs h t ih=>
   rw [List.map_cons,List.map_cons]
   refine .cons ?_ ih
   by_cases e:q.1=k
   ·rw [if_pos e,if_pos (by rw [h.1,e])]
    exact ⟨h.1,hv⟩
   ·rw [if_neg e,if_neg λz=>e (WA (h.1.symm.trans z))]
    exact h
 unfold xO
 rw [Xb]
 rcases WC k h with ⟨a,b⟩ | ⟨v',o',a,b,_⟩
 ·rw [a,XT _ b]
  rw [if_neg (show ¬ (none:Option V).isSome=true from Bool.false_ne_true)]
  exact xg ⟨rfl,hv⟩ h
 ·rw [a,J8 _ b]
  rw [if_pos (show (some v').isSome=true from rfl)]
  exact rep h
theorem KM.imp {β:Type} {R S:V->β->Prop} (f:∀ v o,R v o->S v o) {kvs:List (List ye × V)} {m:List (List Int × β)} (h:KM R kvs m):KM S kvs m:=Paired.mapP h λ_ _ z=>⟨z.1,f _ _ z.2⟩
theorem kY {K:PySem.W.Frag} {H:Hp}:∀ ws:List Int,uq K H (ws.map V.int) (ws.map PyData.int)
 | []=>.nil
 | w :: r=>.cons (.int w) (kY r)
theorem Q3:∀ ws:List Int,PyData.canLayAll0 (ws.map PyData.int)=true
 | []=>rfl
 | w :: r=>by
  show (PyData.canLay0 (.int w) && PyData.canLayAll0 (r.map PyData.int))=true
  rw [Q3 r]
  rfl
theorem WD:∀ ws:List Int,PyData.depthAll (ws.map PyData.int)=0
 | []=>rfl
 | w :: r=>by
  show max 0 (PyData.depthAll (r.map PyData.int))=0
  rw [WD r]
  rfl
inductive WE (vs:List V) (H:Hp) (Q:VK) (E:XK):Prop
 | mk (ra:Addr) (ws:List Int) (b:Int) (_:vs=[.ref ra]) (_:H ra=some (.tup (zo ws b))) (_:ws.length<=100) (_:(∀ x∈ws,Bd 2000 x)) (_:∀ t H',zG H H'->H' t=some (.tup ((ut ws).map V.int))->Q (.ref t) H'):WE vs H Q E
inductive WF (vs:List V) (H:Hp) (Q:VK) (E:XK):Prop
 | mk (wa ba:Addr) (ws:List Int) (t b:Int) (_:vs=[.ref wa,.ref ba]) (_:H wa=some (.tup (ws.map V.int))) (_:H ba=some (.tup [.int t,.int b])) (_:1<=ws.length) (_:ws.length<=100) (_:(∀ x∈ws,Bd 2000 x)) (_:Bd 2000 b) (_:∀ r H',zG H H'->H' r=some (.tup (zo (ws.map (· * b)) t))->Q (.ref r) H'):WF vs H Q E
inductive WG (K:PySem.W.Frag) (vs:List V) (H:Hp) (Q:VK) (E:XK):Prop
 | mk (rm:Addr) (rv:List V) (rows:List (List Int × Int)) (n:Nat) (_:vs=[.ref rm]) (_:zJ K H rm rv) (_:yI H rv rows) (_:gH rows n) (_:1<=n) (_:n<=3) (_:rows.length<=990) (_:∀ l rv' H',zG H H'->H l=none->H' l=some (.lst rv')->yI H' rv' (wL rows)->Q (.ref l) H'):WG K vs H Q E
section
variable {P:Program} {w:World} {K:PySem.W.Frag} {mg:Str->Option Value} {base:Heap}
abbrev WH:Stmt:=yh 8
theorem zIF:ya ["thing"] ["thing"] (ze WH):=.a
abbrev WI:Stmt:=yh 9
theorem qY:ya ["numbers","common","number","rest","left"] ["numbers"] (ze WI):=.a
abbrev WJ:Stmt:=yh 10
theorem WK:ya ["top","bottom","common"] ["top","bottom"] (ze WJ):=.a
abbrev WL:Stmt:=yh 11
theorem zMM:ya ["one","other"] ["one","other"] (ze WL):=.a
abbrev Z9:Stmt:=yh 28
theorem Q4:ya ["row","common"] ["row"] (ze Z9):=.a
abbrev YA:Stmt:=yh 30
theorem zJ1:ya ["way","bound"] ["way","bound"] (ze YA):=.a
theorem Q5 {rows:List (List Int × Int)} {n:Nat} (h:gH rows n):∀ p∈(rows.foldl wE ([],none)).1,0 < p.2.2/\Bd 2000 p.2.1/\Bd 2000 p.2.2/\p.1.length=n/\∀ x∈p.1,Bd 2000 x:=by
 intro p hp
 rw [QF] at hp
 obtain ⟨q,hq,e⟩:=List.mem_map.mp hp
 have D:=XW rows
 rcases X8 rows q hq with y | y
 ·cases y
 obtain ⟨W,B⟩:=h _ y
 have g:=D.g0 q hq
 have bg:=X7 W.bd
 rw [<- e]
 refine ⟨gu (Int.ne_of_gt g),jy B,jH bg,?_,λx hx=>?_⟩
 ·show q.1.length=n
  rw [D.way q hq,zNK]
  exact W.len
 ·have hx':x∈q.1:=hx
  rw [D.way q hq] at hx'
  obtain ⟨z,hz,e2⟩:=List.mem_map.mp hx'
  rw [<- e2]
  exact (W.bd z hz).fdiv _
theorem zLo {α β:Type} (f:β->α->β) (b:β) {l:List α} {i:Nat} {x:α} (h:l[i]? = some x):(l.take (i + 1)).foldl f b=f ((l.take i).foldl f b) x:=by
 rw [xH h,List.foldl_append]
 rfl
theorem zIO {rows:List (List Int × Int)} {n:Nat} (h:gH rows n) (i:Nat):gH (rows.take i) n:=λr hr=>h r (List.mem_of_mem_take hr)
theorem zOs {ws:List Int} {H:Hp} {t:Addr} (h:H t=some (.tup (ws.map V.int))):H t=some (.tup ((xJ ws).map kV)):=by rw [Q0]; exact h
abbrev WM:Stmt:=yh 29
theorem jz:ya ["room","least","shut","row","common","way","bound"] ["room"] (ze WM):=.a
variable {ac af:Addr} (ae:yJ K mg "Mode" ac) (ag:wr K ac) (ah:yJ K mg "Thing" af) (ai:wt K af)
include ae ag ah ai
theorem zIZ {k:Nat} {f:Addr} {fd:FuncData} (F:yb K "is_whole" "is_whole" WH f fd) (B:Bl mg):zU P w K mg base yG (k + 1) f fd ["thing"] jw:=by
 refine F.ok zIF ?_ ?_
 ·rintro vs H Q E ⟨i,rfl,_⟩
  rfl
 rintro cdv A outer s H vs Q E hr ⟨i,rfl,q⟩
 refine ⟨_,(zY (yH (ud (ym vS rfl B.isinstance_ vJ (zD (zC 0) (zD (vN (v:=.ty "int") (u:=.type "int") rfl B.int_ Xa rfl) zI))) (jh (JB (ym vS rfl B.isinstance_ vJ (zD (zC 0) (zD (vN (v:=.ty "bool") (u:=.type "bool") rfl B.bool_ zKW rfl) zI)))))))),?_⟩
 try dsimp only [zP,Cx.nox,Cx.wish]
 refine ⟨_,rfl,_,_,_,_,rfl,.int _,zIk _,_,rfl,xY ?_⟩
 exact ⟨_,rfl,_,_,_,_,rfl,.int _,zHm _,_,rfl,q⟩
theorem zEo {k:Nat} {f:Addr} {fd:FuncData} (F:yb K "common_divisor" "common_divisor" WI f fd) (B:Bl mg):zU P w K mg base yG (k + 1) f fd ["numbers"] (kS K):=by
 refine F.ok qY ?_ ?_
 ·rintro vs H Q E ⟨a,ns,rfl,_⟩
  rfl
 rintro cdv A outer s H vs Q E hr ⟨a,ns,rfl,hS,q⟩
 refine ⟨_,(zW (zy (i:=1) qY.nd rfl (Or.inl rfl) zK)
  (zW (wI PassesOwn.never rfl (j9 (zC 0)) (zr (i:=2) qY.nd rfl (Or.inl rfl)) (zW (zy (i:=3) qY.nd rfl (Or.inl rfl) (ym JS rfl B.abs_ QQ (zD (zC 2) zI)))
   (zY (JE PassesOwn.never (xX jn (zC 3) zK (yu _)) (zW (zy (i:=4) qY.nd rfl (Or.inl rfl) (zV (ji wA) (zC 1) (zC 3)))
    (zW (zy (i:=1) qY.nd rfl (Or.inl rfl) (zC 3))
    (zY (zy (i:=3) qY.nd rfl (Or.inl rfl) (zC 4)))))))))
  (zY (yH (zC 1))))),?_⟩
 try dsimp only [zP,Cx.nox,Cx.wish]
 refine ⟨_,rfl,a,rfl,⟨_,hS⟩,zN1 (K:=K) (a:=a) (xs:=ns.map V.int) (λi σ H2=>∃ n r l,σ=[some (.ref a),some (.int (zv (ns.take i))),n,r,l]/\H2=H)
  ⟨none,none,none,rfl,rfl⟩ (λi σ H2 _ ⟨_,_,_,_,e⟩=>e ▸ hS) ?_ ?_⟩
 ·rintro i x σ H2 hi ⟨n,r,l,rfl,rfl⟩
  obtain ⟨z,hz,rfl⟩:∃ z,ns[i]? = some z/\x=V.int z:=by
   rw [List.getElem?_map] at hi
   cases e:ns[i]? with
   | none=>rw [e] at hi; cases hi
   | some z=>rw [e] at hi; exact ⟨z,rfl,(Option.some.inj hi).symm⟩
  have hlt:i < ns.length:=(List.getElem?_eq_some_iff.mp hz).1
  have ez:ns[i]=z:=(List.getElem?_eq_some_iff.mp hz).2
  have tk:zv (ns.take (i + 1))=(Int.gcd (zv (ns.take i)) z:Int):=by rw [List.take_succ_eq_append_getElem hlt,ZR,ez]
  refine ⟨_,rfl,z,rfl,?_⟩
  refine JH (λσ H'=>∃ (c r:Int) (l:Option V),σ=[some (.ref a),some (.int c),some (.int z),some (.int r),l]/\H'=H2/\0<=c/\0<=r/\Int.gcd c r=Int.gcd (zv (ns.take i)) z)
   (λσ _=>match σ with | [_,_,_,some (.int r),_]=>r.toNat | _=>0) ⟨_,_,l,rfl,rfl,Ju _,(by split <;> omega),zNy _ _⟩ ?_ ?_
  ·rintro σ H' ⟨c,r,l,rfl,rfl,hc,hr0,hg⟩
   refine ⟨_,rfl,rfl,_,rfl,?_⟩
   by_cases z0:r=0
   ·subst z0
    refine XN rfl ?_
    rw [Int.gcd_zero_right] at hg
    have ec:c=zv (ns.take (i + 1)):=by rw [tk]; omega
    exact ⟨_,_,_,by rw [ec],rfl⟩
   ·have ne:¬ (V.int r=V.int 0):=λe=>z0 (by injection e)
    refine xo (g6 z0) ?_
    refine ⟨_,rfl,_,rfl,_,_,rfl,rfl,z0,_,rfl,_,rfl,?_⟩
    have h1:=Int.fmod_nonneg_of_pos c (show 0 < r by omega)
    have h2:=Int.fmod_lt_of_pos c (show 0 < r by omega)
    refine ⟨⟨r,c.fmod r,_,rfl,rfl,hr0,h1,by rw [Jv]; exact hg⟩,?_⟩
    show (c.fmod r).toNat < r.toNat
    omega
  ·rintro σ H' Q1 Q2 h ⟨v,e,sc,k,ek,q1⟩
   exact ⟨v,e,sc,k,ek,h _ _ q1⟩
 ·rintro σ H2 ⟨n,r,l,rfl,rfl⟩
  refine ⟨_,rfl,?_⟩
  rw [List.length_map,List.take_length]
  exact q
theorem zIc {k:Nat} {f:Addr} {fd:FuncData} {dv:Value} (F:wF K "fraction" "fraction" WJ f fd dv) (B:Bl mg) (ao:Fn P w K mg base "is_whole" ["thing"] k jw) (ay:Fn P w K mg base "common_divisor" ["numbers"] k (kS K)):zU P w K mg base yG (k + 1) f fd ["top","bottom"] gE:=by
 refine F.ok WK ?_ ?_
 ·rintro vs H Q E ⟨t,b,rfl,_⟩
  rfl
 rintro cdv A outer s H vs Q E hr ⟨t,b,rfl,b0,bb,q⟩
 refine ⟨_,(zW (yq (PW.pt (uE (wS (xW (zk ao hr rfl (zD (zC 0) zI)))) (uL (wS (xW (zk ao hr rfl (zD (zC 1) zI))))))) (zY ZL) yt)
  (zW (yq (xX vc (zC 1) zK (yu _)) (zY ZL) yt)
  (zW (zy (i:=2) WK.nd rfl (Or.inl rfl) (zk ay hr rfl (zD (xy (zD (zC 0) (zD (zC 1) zI))) zI)))
  (zW (yq (xX (yU qB) (zC 1) zK (yu _)) (zY (zy (i:=2) WK.nd rfl (Or.inl rfl) (xD xE (zC 2)))) yt)
  (zY (yH (xy (zD (zV (ji v8) (zC 0) (zC 2)) (zD (zV (ji v8) (zC 1) (zC 2)) zI))))))))),?_⟩
 try dsimp only [zP,Cx.nox,Cx.wish]
 refine ⟨_,rfl,t,rfl,_,rfl,yn ?_⟩
 refine ⟨_,rfl,b,rfl,_,rfl,yn ?_⟩
 refine ⟨_,rfl,rfl,_,rfl,?_⟩
 refine xA (vk b0) ?_
 refine ⟨_,rfl,_,rfl,wf,λp hp=>?_⟩
 refine ⟨p,[t,b],rfl,zT.of zj,?_⟩
 rw [zKP]
 have sm:=zx hp (HO.tup [.int t,.int b])
 have fin:∀ c:Int,c=cm t b->∀ D':Hp,D'=upd H p (.tup [.int t,.int b])->(t.fdiv c)=yg t b/\b.fdiv c=yK t b/\c≠0/\Bd 8000 c:=λc e _ _=>by
  subst e
  exact ⟨rfl,rfl,XQ b0,Xx bb b0⟩
 refine ⟨_,rfl,_,_,rfl,rfl,_,rfl,?_⟩
 refine vQ (λhb=>?_) (λhb=>?_)
 ·have hb':b < 0:=of_decide_eq_true hb
  refine ⟨_,rfl,_,rfl,?_⟩
  have ec : -(Int.gcd t b:Int)=cm t b:=by unfold cm; rw [if_pos hb']
  obtain ⟨e1,e2,e3,e4⟩:=fin _ ec _ rfl
  refine ⟨_,rfl,_,rfl,_,_,rfl,rfl,⟨e3,e4⟩,_,rfl,_,rfl,_,_,rfl,rfl,⟨e3,e4⟩,wf,λr hr'=>?_⟩
  exact q r _ (sm.trans (zx hr' _)) (zj.trans (by show some (HO.tup [V.int (t.fdiv _),V.int (b.fdiv _)])=_; rw [e1,e2]))
 ·have hb':¬ b < 0:=λz=>hb (decide_eq_true z)
  have ec:(Int.gcd t b:Int)=cm t b:=by unfold cm; rw [if_neg hb']
  obtain ⟨e1,e2,e3,e4⟩:=fin _ ec _ rfl
  refine ⟨_,rfl,_,rfl,_,_,rfl,rfl,⟨e3,e4⟩,_,rfl,_,rfl,_,_,rfl,rfl,⟨e3,e4⟩,wf,λr hr'=>?_⟩
  exact q r _ (sm.trans (zx hr' _)) (zj.trans (by show some (HO.tup [V.int (t.fdiv _),V.int (b.fdiv _)])=_; rw [e1,e2]))
theorem zMX {k:Nat} {f:Addr} {fd:FuncData} (F:yb K "under" "under" WL f fd) (B:Bl mg):zU P w K mg base yG (k + 1) f fd ["one","other"] Z3:=by
 refine F.ok zMM ?_ ?_
 ·rintro vs H Q E ⟨p,q,a,b,c,d,rfl,_⟩
  rfl
 rintro cdv A outer s H vs Q E hr ⟨p,q,a,b,c,d,rfl,T,qq⟩
 refine ⟨_,(zY (yH (uP (yU qB) (zV (ji yy) (zh yc (zC 0) zK (λ_ _=>rfl)) (zh yc (zC 1) zK (λ_ _=>rfl))) (zV (ji yy) (zh yc (zC 1) zK (λ_ _=>rfl)) (zh yc (zC 0) zK (λ_ _=>rfl))) (yu _)))),?_⟩
 try dsimp only [zP,Cx.nox,Cx.wish]
 refine ⟨_,rfl,p,_,0,_,rfl,rfl,zT.of T.p,vm,_,rfl,q,_,1,_,rfl,rfl,zT.of T.q,w4,_,_,rfl,rfl,⟨(T.ab).mono,(T.db).mono⟩,?_⟩
 refine ⟨_,rfl,q,_,0,_,rfl,rfl,zT.of T.q,vm,_,rfl,p,_,1,_,rfl,rfl,zT.of T.p,w4,_,_,rfl,rfl,⟨(T.cb).mono,(T.bb).mono⟩,_,_,rfl,rfl,?_⟩
 exact qq
theorem zHj {k:Nat} {f:Addr} {fd:FuncData} (F:yb K "direction" "direction" Z9 f fd) (B:Bl mg) (ay:Fn P w K mg base "common_divisor" ["numbers"] k (kS K)):zU P w K mg base yG (k + 1) f fd ["row"] WE:=by
 refine F.ok Q4 ?_ ?_
 ·rintro vs H Q E ⟨ra,ws,b,rfl,_⟩
  rfl
 rintro cdv A outer s H vs Q E hr ⟨ra,ws,b,rfl,hra,hl,hb,q⟩
 refine ⟨_,(zW (zy (i:=1) Q4.nd rfl (Or.inr rfl) (zk ay hr rfl (zD (vO uA (zC 0) v7 (vD (xD xE zK))) zI)))
  (zW (yq (xX vc (zC 1) zK (yu _)) (zY (yH (vO uA (zC 0) v7 (vD (xD xE zK))))) yt)
  (zY (yH (xn wM rfl B.tuple_ vK (zD (xu (own:=["number"]) (caps:=[(1,"common")]) (wD (S:=ze Z9) (N:=["row","common"]) ⟨_,rfl⟩) rfl (j9 (vO uA (zC 0) v7 (vD (xD xE zK)))) (λ_ _ _ _=>zr (i:=0) (show (["number","common"]:List Str).Nodup by decide +kernel) rfl (Or.inl rfl)) (λ_ _ _ _=>(zV (ji v8) (zC 0) (zC 1)))) zI)))))),?_⟩
 try dsimp only [zP,Cx.nox,Cx.wish]
 have ec:yY (zo ws b) none (some (-1))=ws.map V.int:=qL _ _
 refine ⟨_,rfl,_,rfl,_,rfl,ra,_,rfl,zT.of hra,jD _ _,λp hp=>?_⟩
 have s1:=zx hp (HO.tup (yY (zo ws b) none (some (-1))))
 refine ⟨p,ws,rfl,zT.of (zj.trans (by rw [ec])),?_⟩
 refine ⟨_,rfl,rfl,_,rfl,?_⟩
 by_cases g:zv ws=0
 ·refine xo (jE g) ?_
  refine ⟨_,rfl,_,rfl,_,rfl,ra,_,rfl,zT.of (s1 _ _ hra),jD _ _,λp2 hp2=>?_⟩
  refine q p2 _ (s1.trans (zx hp2 _)) (zj.trans ?_)
  unfold ut
  rw [if_pos g]
  show some (HO.tup (yY (zo ws b) none (some (-1))))=_
  rw [ec]
 ·refine xA (vk g) ?_
  refine ⟨_,rfl,_,rfl,_,rfl,ra,_,rfl,zT.of (s1 _ _ hra),jD _ _,λp2 hp2=>?_⟩
  have s2:=zx hp2 (HO.tup (yY (zo ws b) none (some (-1))))
  have e2:upd (upd H p (HO.tup (yY (zo ws b) none (some (-1))))) p2 (HO.tup (yY (zo ws b) none (some (-1)))) p2=some (.tup (ws.map V.int)):=zj.trans (by rw [ec])
  refine ⟨p2,rfl,⟨_,zT.of e2⟩,kF (K:=K) (a:=p2) (xs:=ws.map V.int) (λi ys σ H'=>ys=((ws.take i).map (·.fdiv (zv ws))).map V.int/\(∃ o,σ=[o,some (.int (zv ws))])/\H'=upd (upd H p (HO.tup (yY (zo ws b) none (some (-1))))) p2 (HO.tup (yY (zo ws b) none (some (-1)))))
   ⟨rfl,⟨none,rfl⟩,rfl⟩ (λi ys σ H' hi ⟨e1,_,e3⟩=>⟨by rw [e3]; exact zT.of e2,by rw [e1,List.length_map,List.length_map,List.length_take]; exact Nat.min_le_left _ _⟩) (by rw [List.length_map]; exact yd (by omega)) ?_ ?_⟩
  ·rintro i x ys σ H' hi ⟨rfl,⟨o,rfl⟩,rfl⟩
   obtain ⟨z,hz,rfl⟩:∃ z,ws[i]? = some z/\x=V.int z:=by
    rw [List.getElem?_map] at hi
    cases e:ws[i]? with
    | none=>rw [e] at hi; cases hi
    | some z=>rw [e] at hi; exact ⟨z,rfl,(Option.some.inj hi).symm⟩
   refine ⟨_,rfl,_,rfl,_,_,rfl,rfl,⟨g,(X7 hb).mono⟩,?_,⟨_,rfl⟩,rfl⟩
   rw [xH hz,List.map_append,List.map_append]
   rfl
  ·rintro ys σ H' ⟨rfl,⟨o,rfl⟩,rfl⟩ l hl'
   refine ⟨l,_,rfl,.inl ⟨zJ.of zj,λt ht=>?_⟩⟩
   refine q t _ (s1.trans (s2.trans ((zx hl' _).trans (zx ht _)))) (zj.trans ?_)
   unfold ut
   rw [if_neg g,List.length_map,List.take_length]
   rfl
theorem zKF {k:Nat} {f:Addr} {fd:FuncData} (F:yb K "bounded" "bounded" YA f fd) (B:Bl mg):zU P w K mg base yG (k + 1) f fd ["way","bound"] WF:=by
 refine F.ok zJ1 ?_ ?_
 ·rintro vs H Q E ⟨wa,ba,ws,t,b,rfl,_⟩
  rfl
 rintro cdv A outer s H vs Q E hr ⟨wa,ba,ws,t,b,rfl,hwa,hba,l1,l2,hb,bb,q⟩
 refine ⟨_,(zY (yH (zV jp (xn wM rfl B.tuple_ vK (zD (xu (own:=["number"]) (caps:=[(1,"bound")]) (wD (S:=ze YA) (N:=["way","bound"]) ⟨_,rfl⟩) rfl (j9 (zC 0)) (λ_ _ _ _=>zr (i:=0) (show (["number","bound"]:List Str).Nodup by decide +kernel) rfl (Or.inl rfl)) (λ_ _ _ _=>(zV (ji yy) (zC 0) (zh (show wT _ (we (zT K)) from yc) (zC 1) zK (λ_ _=>rfl))))) zI)) (xy (zD (zh yc (zC 1) zK (λ_ _=>rfl)) zI))))),?_⟩
 try dsimp only [zP,Cx.nox,Cx.wish]
 refine ⟨_,rfl,wa,rfl,⟨_,zT.of hwa⟩,kF (K:=K) (a:=wa) (xs:=ws.map V.int) (λi ys σ H'=>ys=((ws.take i).map (· * b)).map V.int/\(∃ o,σ=[o,some (.ref ba)])/\H'=H)
  ⟨rfl,⟨none,rfl⟩,rfl⟩ (λi ys σ H' hi ⟨e1,_,e3⟩=>⟨by rw [e3]; exact zT.of hwa,by rw [e1,List.length_map,List.length_map,List.length_take]; exact Nat.min_le_left _ _⟩) (by rw [List.length_map]; exact yd (by omega)) ?_ ?_⟩
 ·rintro i x ys σ H' hi ⟨rfl,⟨o,rfl⟩,rfl⟩
  obtain ⟨z,hz,rfl⟩:∃ z,ws[i]? = some z/\x=V.int z:=by
   rw [List.getElem?_map] at hi
   cases e:ws[i]? with
   | none=>rw [e] at hi; cases hi
   | some z=>rw [e] at hi; exact ⟨z,rfl,(Option.some.inj hi).symm⟩
  have bz:=hb z (List.mem_of_getElem? hz)
  refine ⟨_,rfl,_,rfl,ba,_,1,_,rfl,rfl,zT.of hba,w4,_,_,rfl,rfl,⟨bz.mono,bb.mono⟩,?_,⟨_,rfl⟩,rfl⟩
  rw [xH hz,List.map_append,List.map_append]
  rfl
 rintro ys σ H' ⟨rfl,⟨o,rfl⟩,rfl⟩ l hl'
 refine ⟨l,_,rfl,.inl ⟨zJ.of zj,λt1 ht1=>?_⟩⟩
 have sA:=(zx hl' (HO.lst (((ws.take (ws.map V.int).length).map (· * b)).map V.int))).trans (zx ht1 (HO.tup (((ws.take (ws.map V.int).length).map (· * b)).map V.int)))
 have eT:((ws.take (ws.map V.int).length).map (· * b)).map V.int=(ws.map (· * b)).map V.int:=by rw [List.length_map,List.take_length]
 have hT:=zj (H:=upd H' l (HO.lst (((ws.take (ws.map V.int).length).map (· * b)).map V.int))) (a:=t1) (o:=HO.tup (((ws.take (ws.map V.int).length).map (· * b)).map V.int))
 refine ⟨_,rfl,ba,_,0,_,rfl,rfl,zT.of (sA _ _ hba),vm,wQ,λt2 ht2=>?_⟩
 have s2:=zx ht2 (HO.tup [V.int t])
 have wne:((ws.take (ws.map V.int).length).map (· * b)).map V.int≠[]:=λe=>by
  have h:=congrArg List.length e
  rw [eT,List.length_map,List.length_map] at h
  rw [h] at l1
  exact absurd l1 (by decide)
 refine ⟨t1,t2,_,_,rfl,rfl,zT.of (s2 _ _ hT),zT.of zj,wne,(by rw [eT,List.length_map,List.length_map]; exact yd ((by show ws.length + 1<=1000; omega))),(λe=>by cases e),λ_ t3 ht3=>?_⟩
 refine q t3 _ (sA.trans (s2.trans (zx ht3 _))) (zj.trans ?_)
 rw [eT]
 rfl
theorem zLC {k:Nat} {f:Addr} {fd:FuncData} (F:yb K "tidied" "tidied" WM f fd) (B:Bl mg) (ay:Fn P w K mg base "common_divisor" ["numbers"] k (kS K)) (aY:Fn P w K mg base "direction" ["row"] k WE) (au:vi P w K mg base "fraction" ["top","bottom"] k gE (.int 1)) (aF:Fn P w K mg base "under" ["one","other"] k Z3) (aZ:Fn P w K mg base "bounded" ["way","bound"] k WF):zU P w K mg base yG (k + 1) f fd ["room"] (WG K):=by
 refine F.ok jz ?_ ?_
 ·rintro vs H Q E ⟨rm,rv,rows,n,rfl,_⟩
  rfl
 rintro cdv A outer s H vs Q E hr ⟨rm,rv,rows,n,rfl,hrm,hrv,RO,n1,n3,r100,q⟩
 refine ⟨_,(zW (zy (i:=1) jz.nd rfl (Or.inl rfl) zMV)
  (zW (zy (i:=2) jz.nd rfl (Or.inl rfl) (xF zI))
  (zW (wI PassesOwn.never rfl (xr (zC 0)) (zr (i:=3) jz.nd rfl (Or.inl rfl)) (zW (zy (i:=4) jz.nd rfl (Or.inl rfl) (zk ay hr rfl (zD (vO uA (zC 3) v7 (vD (xD xE zK))) zI)))
   (zY (yq (xX jn (zC 4) zK (yu _)) (zW (zy (i:=5) jz.nd rfl (Or.inl rfl) (zk aY hr rfl (zD (zC 3) zI)))
    (zW (zy (i:=6) jz.nd rfl (Or.inl rfl) (zk au.fn hr rfl (zD (zh yc (zC 3) (xD xE zK) (λ_ _=>rfl)) (zD (zC 4) zI))))
    (zY (yq (PW.pt (uE (K5 (zK8 (XM hr) (zC 5) (zC 1))) (uL (xW (zk aF hr rfl (zD (zC 6) (zD (zNf (XM hr) (zC 1) (zC 5) (λ_ _=>rfl)) zI))))))) (zY (zNd (XM hr) (zC 1) (zC 5) (zC 6) rfl)) yt)))) (zY (yq (xX (yU qB) (zh yc (zC 3) (xD xE zK) (λ_ _=>rfl)) zK (yu _)) (zY (zy (i:=2) jz.nd rfl (Or.inl rfl) (xF (zD (zV jp (vO uA (zC 3) v7 (vD (xD xE zK))) (xy (zD (xD xE zK) zI))) zI)))) yt))))))
  (zY (yH (zV xh (xu (own:=["way","bound"]) (caps:=[]) (uZ rfl) rfl (zMT (zC 1)) (λ_ _ _ _=>show PG _ _ (uN K 2 (ul (uF 0) (ul (uF 1) uM))) from vb (n:=2) rfl (yp (zr (i:=0) (show (["way","bound"]:List Str).Nodup by decide +kernel) rfl (Or.inl rfl)) (yp (zr (i:=1) (show (["way","bound"]:List Str).Nodup by decide +kernel) rfl (Or.inl rfl)) va))) (λ_ _ _ _=>(zk aZ hr rfl (zD (zC 0) (zD (zC 1) zI))))) (zC 2))))))),?_⟩
 try dsimp only [zP,Cx.nox,Cx.wish]
 intro d hd
 refine ⟨vL,λs0 hs0=>?_⟩
 have lr:rv.length=rows.length:=Paired.length hrv
 have sD:=zx hd (HO.dT [])
 have sS:=zx hs0 (HO.lst [])
 refine ⟨_,rfl,rm,rfl,⟨_,(sD.trans sS).seq hrm⟩,jR (K:=K) (a:=rm) (xs:=rv)
  (λi σ H'=>∃ (kvs:List (List ye × V)) (sh:Addr) (sv:List V) (o3 o4 o5 o6:Option V),σ=[some (.ref rm),some (.ref d),some (.ref sh),o3,o4,o5,o6]/\zG H H'/\H' d=some (.dT kvs)/\H' sh=some (.lst sv)∧
   KM (vp H') kvs ((rows.take i).foldl wE ([],none)).1/\yI H' sv (qI ((rows.take i).foldl wE ([],none)).2))
  ⟨[],s0,[],none,none,none,none,rfl,sD.trans sS,sS _ _ zj,zj,.nil,.nil⟩ (λi σ H' _ ⟨_,_,_,_,_,_,_,_,sm,_⟩=>sm.seq hrm) ?_ ?_⟩
 ·rintro i x σ H' hi ⟨kvs,sh,sv,o3,o4,o5,o6,rfl,sm,hd',hsh,km,hsv⟩
  obtain ⟨⟨ws,b⟩,hrow,a,rfl,ea0⟩:=xU hrv hi
  obtain ⟨W,bb⟩:=RO _ (List.mem_of_getElem? hrow)
  have wl:ws.length=n:=W.len
  have wb:∀ x∈ws,Bd 2000 x:=W.bd
  have il:i < rows.length:=(List.getElem?_eq_some_iff.mp hrow).1
  have ea:=sm _ _ ea0
  have ec:yY (zo ws b) none (some (-1))=ws.map V.int:=qL _ _
  have tk:=zLo wE ([],none) hrow
  have kl:kvs.length<=1000:=by
   have z:=Paired.length km
   have y:=X9 (rows.take i) ([],none)
   rw [List.length_take] at y
   have y':((rows.take i).foldl wE ([],none)).1.length<=0 + min i rows.length:=y
   omega
  have tok:=Q5 (zIO RO i)
  generalize (rows.take i).foldl wE ([],none)=st at tk km hsv tok
  refine ⟨_,rfl,_,rfl,_,rfl,a,_,rfl,zT.of ea,jD _ _,λp hp=>?_⟩
  have s1:=zx hp (HO.tup (yY (zo ws b) none (some (-1))))
  refine ⟨p,ws,rfl,zT.of (zj.trans (by rw [ec])),?_⟩
  refine ⟨_,rfl,rfl,_,rfl,?_⟩
  by_cases g:zv ws=0
  ·refine xA (ZW g) ?_
   refine ⟨_,rfl,_,rfl,a,_,_,_,rfl,rfl,zT.of (s1 _ _ ea),ue _ _,_,_,rfl,rfl,_,rfl,?_⟩
   have stp:wE st (ws,b)=if b < 0 then (st.1,some ws) else st:=by
    unfold wE
    rw [if_neg (show ¬ zv ws≠0 from λz=>z g)]
   rw [stp] at tk
   refine vQ (λc=>?_) (λc=>?_)
   ·have c':b < 0:=of_decide_eq_true c
    rw [if_pos c'] at tk
    refine ⟨_,rfl,_,rfl,_,rfl,a,_,rfl,zT.of (s1 _ _ ea),jD _ _,λp2 hp2=>?_⟩
    have s2:=zx hp2 (HO.tup (yY (zo ws b) none (some (-1))))
    refine ⟨_,rfl,wQ,λp3 hp3=>?_⟩
    have s3:=zx hp3 (HO.tup [V.int (-1)])
    have wne:yY (zo ws b) none (some (-1))≠[]:=λe=>by
     rw [ec] at e
     have h:=congrArg List.length e
     rw [List.length_map,wl] at h
     rw [h] at n1
     exact absurd n1 (by decide)
    refine ⟨p2,p3,_,_,rfl,rfl,zT.of (s3 _ _ zj),zT.of zj,wne,(by rw [ec,List.length_map]; exact yd ((by show ws.length + 1<=1000; omega))),(λe=>by cases e),λ_ p4 hp4=>?_⟩
    have s4:=zx hp4 (HO.tup (yY (zo ws b) none (some (-1))++[V.int (-1)]))
    refine ⟨wQ,λl hl=>?_⟩
    have s5:=zx hl (HO.lst [V.ref p4])
    have sF:=s1.trans (s2.trans (s3.trans (s4.trans s5)))
    refine ⟨kvs,l,[V.ref p4],_,_,_,_,rfl,sm.trans sF,sF _ _ hd',zj,?_,?_⟩
    ·rw [tk]
     exact KM.imp (λ_ _ z=>z.same sF) km
    ·rw [tk]
     refine .cons ⟨p4,rfl,(s5 _ _ zj).trans ?_⟩ .nil
     rw [ec]
     rfl
   ·have c':¬ b < 0:=λz=>c (decide_eq_true z)
    rw [if_neg c'] at tk
    refine ⟨kvs,sh,sv,_,_,_,_,rfl,sm.trans s1,s1 _ _ hd',s1 _ _ hsh,?_,?_⟩
    ·rw [tk]
     exact KM.imp (λ_ _ z=>z.same s1) km
    ·rw [tk]
     exact hsv.same s1
  ·refine xo (g6 g) ?_
   refine ⟨_,rfl,a,ws,b,rfl,s1 _ _ ea,(by omega),wb,λt H2 s2 e2=>?_⟩
   have dm:ut ws=y8 ws:=by
    unfold ut
    rw [if_neg g]
   rw [dm] at e2
   have s12:=s1.trans s2
   have gp:=jX g
   have bg:Bd 2000 (zv ws):=X7 wb
   refine ⟨_,rfl,_,rfl,a,_,_,_,rfl,rfl,zT.of (s12 _ _ ea),ue _ _,_,rfl,b,zv ws,rfl,g,bg.mono,λr H3 s3 e3=>?_⟩
   have s13:=s12.trans s3
   have et:=zOs (s3 _ _ e2)
   have hd3:=s13 _ _ hd'
   have km3:KM (vp H3) kvs st.1:=KM.imp (λ_ _ z=>z.same s13) km
   have stp:wE st (ws,b)=match look st.1 (y8 ws) with
     | none=>(put st.1 (y8 ws) (xS (ws,b)),st.2)
     | some o=>if (xS (ws,b)).1 * o.2 < o.1 * (xS (ws,b)).2 then (put st.1 (y8 ws) (xS (ws,b)),st.2) else st:=by
    unfold wE
    rw [if_pos (show zv ws≠0 from g)]
    all_goals rfl
   rw [stp] at tk
   have store:∀ o3 o4 o5 o6:Option V,(rows.take (i + 1)).foldl wE ([],none)=(put st.1 (y8 ws) (xS (ws,b)),st.2)->
     ∃ (kvs':List (List ye × V)) (sh':Addr) (sv':List V) (p3 p4 p5 p6:Option V),[some (V.ref rm),some (.ref d),some (.ref sh),o3,o4,o5,o6]=[some (V.ref rm),some (.ref d),some (.ref sh'),p3,p4,p5,p6]/\zG H (upd H3 d (.dT (xO kvs (xJ (y8 ws)) (.ref r))))∧
      upd H3 d (.dT (xO kvs (xJ (y8 ws)) (.ref r))) d=some (.dT kvs')/\upd H3 d (.dT (xO kvs (xJ (y8 ws)) (.ref r))) sh'=some (.lst sv')∧
      KM (vp (upd H3 d (.dT (xO kvs (xJ (y8 ws)) (.ref r))))) kvs' ((rows.take (i + 1)).foldl wE ([],none)).1/\yI (upd H3 d (.dT (xO kvs (xJ (y8 ws)) (.ref r)))) sv' (qI ((rows.take (i + 1)).foldl wE ([],none)).2):=by
    intro o3 o4 o5 o6 e
    have nt:∀ ys,HO.dT kvs≠.tup ys:=λys z=>by cases z
    refine ⟨_,sh,sv,o3,o4,o5,o6,rfl,zMO (sm.trans s13) hd,zj,?_,?_,?_⟩
    ·have hs3:=s13 _ _ hsh
     rw [yW (gS hs3 hd3 (by intro z; cases z))]
     exact hs3
    ·rw [e]
     refine zOt (y8 ws) (v:=.ref r) (o:=xS (ws,b)) ?_ (KM.imp (λ_ _ z=>Tp.upd hd3 nt z) km3)
     exact Tp.upd hd3 nt ⟨r,rfl,e3⟩
    ·rw [e]
     exact yI.upd hd3 nt (hsv.same s13)
   rcases WC (y8 ws) km3 with ⟨v0,l0⟩ | ⟨v,o,v0,l0,rel⟩
   ·rw [l0] at tk
    refine ⟨_,rfl,_,rfl,d,_,rfl,wm.t hd3 et,_,rfl,xo (by rw [v0]; rfl) (xY ?_)⟩
    refine ⟨_,rfl,_,rfl,_,rfl,d,_,rfl,uV.t hd3 et (wY kl),?_⟩
    exact store _ _ _ _ tk
   ·rw [l0] at tk
    refine ⟨_,rfl,_,rfl,d,_,rfl,wm.t hd3 et,_,rfl,xA (by rw [v0]; rfl) ?_⟩
    obtain ⟨r0,rfl,e0⟩:=rel
    obtain ⟨t1,t2,t3,_⟩:=tok _ (ZT l0)
    refine ⟨_,rfl,_,rfl,_,rfl,d,.ref r0,rfl,(by rw [<- v0]; exact wm.t hd3 et),r,r0,_,_,_,_,rfl,⟨e3,e0,gu g,t1,(jy bb).mono,(jH bg).mono,t2.mono,t3.mono⟩,_,rfl,?_⟩
    refine vQ (λc=>?_) (λc=>?_)
    ·have c':(xS (ws,b)).1 * o.2 < o.1 * (xS (ws,b)).2:=of_decide_eq_true c
     dsimp only at tk
     rw [if_pos c'] at tk
     refine ⟨_,rfl,_,rfl,_,rfl,d,_,rfl,uV.t hd3 et (wY kl),?_⟩
     exact store _ _ _ _ tk
    ·have c':¬ (xS (ws,b)).1 * o.2 < o.1 * (xS (ws,b)).2:=λz=>c (decide_eq_true z)
     dsimp only at tk
     rw [if_neg c'] at tk
     refine ⟨kvs,sh,sv,_,_,_,_,rfl,sm.trans s13,hd3,s13 _ _ hsh,?_,?_⟩
     ·rw [tk]
      exact km3
     ·rw [tk]
      exact hsv.same s13
 ·rintro σ H' ⟨kvs,sh,sv,o3,o4,o5,o6,rfl,sm,hd',hsh,km,hsv⟩
  rw [lr,List.take_length] at km hsv
  have tok:=Q5 RO
  have kl:kvs.length<=1000:=by
   have z:=Paired.length km
   have y:=X9 rows ([],none)
   have y':(rows.foldl wE ([],none)).1.length<=0 + rows.length:=y
   omega
  have tid:wL rows=(rows.foldl wE ([],none)).1.map (λp=>(p.1.map (· * p.2.2),p.2.1))++qI (rows.foldl wE ([],none)).2:=rfl
  generalize rows.foldl wE ([],none)=st at km hsv tok tid
  refine ⟨_,rfl,d,kvs,rfl,hd',λod=>zKU (d:=d) (od:=od) (kvs:=kvs)
   (λi ys σ H3=>yI H3 ys ((st.1.take i).map λp=>(p.1.map (· * p.2.2),p.2.1))/\(∃ o1 o2,σ=[o1,o2])/\zG (upd H' d (.frz od (.dT kvs))) H3)
   ⟨.nil,⟨none,none,rfl⟩,zG.refl _⟩ (λi ys σ H3 hi ⟨e1,_,e2⟩=>⟨e2 _ _ zj,by have:=Paired.length e1; rw [List.length_map,List.length_take] at this; omega⟩) (yd (kl)) ?_ ?_⟩
  ·rintro i k x T b0 ys σ H3 hi hT hb0 ⟨hys,⟨o1,o2,rfl⟩,s3⟩
   have km3:KM (vp H3) kvs st.1:=KM.imp (λ_ _ z=>Tp.same s3 (Tp.upd hd' (λys z=>by cases z) z)) km
   obtain ⟨⟨wy,tb⟩,hq,e1,r,rfl,er⟩:=xU km3 hi
   have e1':k=xJ wy:=e1
   subst e1'
   obtain ⟨t1,t2,t3,t4,t5⟩:=tok _ (List.mem_of_getElem? hq)
   have s4:=zx hT (HO.tup [V.ref b0,V.ref r])
   rw [Q0] at hb0
   refine ⟨T,_,rfl,zT.of zj,rfl,_,_,rfl,_,_,rfl,rfl,?_⟩
   refine ⟨_,rfl,_,rfl,b0,r,wy,tb.1,tb.2,rfl,s4 _ _ hb0,s4 _ _ er,(by rw [t4]; exact n1),(by rw [t4]; omega),t5,t3,λr' H4 s5 e4=>?_⟩
   refine ⟨?_,⟨_,_,rfl⟩,s3.trans (s4.trans s5)⟩
   rw [xH hq,List.map_append]
   exact xg ⟨r',rfl,e4⟩ (hys.same (s4.trans s5))
  ·rintro ys σ H3 ⟨hys,⟨o1,o2,rfl⟩,s3⟩ l hl
   have s4:=zx hl (HO.lst ys)
   have nd:∀ b u,H' b=some u->b≠d->H3 b=some u:=λb u e ne=>s3 _ _ (by rw [yW ne]; exact e)
   have shne:sh≠d:=gS hsh hd' (by intro z; cases z)
   have hsh3:=nd _ _ hsh shne
   have kl2:kvs.length=st.1.length:=Paired.length km
   have yl:=Paired.length hys
   rw [List.length_map,List.length_take,kl2,Nat.min_self] at yl
   have svl:sv.length<=1:=by
    have z:=Paired.length hsv
    have y:(qI st.2).length<=1:=by cases st.2 with | none=>decide | some ws=>exact Nat.le_refl 1
    omega
   have sH:zG H H3:=λb u e=>by
    have ne:b≠d:=wx e hd
    exact nd _ _ (sm _ _ e) ne
   refine ⟨_,rfl,l,sh,ys,sv,rfl,rfl,zj,s4 _ _ hsh3,(by have:=wY (n:=1000) (Nat.le_refl _); omega),λl2 hl2=>?_⟩
   have s5:=zx hl2 (HO.lst (ys++sv))
   have sF:=sH.trans (s4.trans s5)
   refine q l2 _ _ sF ((sH.trans s4).free hl2) zj ?_
   rw [tid]
   have hsv3:yI H3 sv (qI st.2):=Paired.mapP hsv λ_ _ z=>Tp.same s3 (Tp.upd hd' (λys z=>by cases z) z)
   refine ju ?_ (hsv3.same (s4.trans s5))
   have hy:yI H3 ys (st.1.map λp=>(p.1.map (· * p.2.2),p.2.1)):=by
    have z:=hys
    rw [kl2,List.take_length] at z
    exact z
   exact hy.same (s4.trans s5)
end
section
variable {P:Program} {w:World} {K:PySem.W.Frag} {mg:Str->Option Value} {base:Heap}
abbrev uu:Stmt:=yh 15
theorem WN:ya ["value","depth"] ["value","depth"] (ze uu):=.a
abbrev WO:Stmt:=yh 13
theorem zG5:ya ["value","count"] ["value","count"] (ze WO):=.a
abbrev YB:Stmt:=yh 14
theorem zIG:ya ["value","tall","wide"] ["value","tall","wide"] (ze YB):=.a
abbrev WP:Stmt:=yh 21
theorem zK0:ya ["value","many"] ["value","many"] (ze WP):=.a
abbrev YC:Stmt:=yh 22
theorem zJx:ya ["value","many"] ["value","many"] (ze YC):=.a
abbrev WQ:Stmt:=yh 45
theorem zJy:ya ["value"] ["value"] (ze WQ):=.a
abbrev WR:Stmt:=gm (yh 42) 0
theorem zE2:ya jc jc (ze WR):=.a
abbrev WU:Stmt:=yh 46
theorem zJz:ya ["value","many","wide"] ["value","many","wide"] (ze WU):=.a
abbrev YD:Stmt:=yh 44
theorem zIH:ya ["many","pushes","modes"] ["many","pushes","modes"] (ze YD):=.a
abbrev WV:Stmt:=gm (yh 43) 0
theorem zEg:ya ["self","many","pushes","modes"] ["self","many","pushes","modes"] (ze WV):=.a
abbrev WW:Stmt:=gm (yh 43) 1
theorem zFf:ya ["self"] ["self"] (ze WW):=.a
abbrev WX:Stmt:=gm (yh 43) 2
theorem zGL:ya ["self"] ["self"] (ze WX):=.a
abbrev WY:Stmt:=gm (yh 43) 4
theorem zEf:ya ["self"] ["self"] (ze WY):=.a
variable {ac af:Addr} (ae:yJ K mg "Mode" ac) (ag:wr K ac) (ah:yJ K mg "Thing" af) (ai:wt K af)
include ae ag ah ai
theorem zIf {k:Nat} {f:Addr} {fd:FuncData} {dv:Value} (F:wF K "copied" "copied" uu f fd dv) (B:Bl mg) (am:vi P w K mg base "copied" ["value","depth"] k Qj (.int 5)):zU P w K mg base yG (k + 1) f fd ["value","depth"] qU:=by
 refine F.ok WN (λvs H Q E h=>?_) (λcdv A outer s H vs Q E hr h=>?_)
 ·obtain ⟨_,_,rfl,_⟩:=h
  rfl
 refine ⟨_,(zW (yq (xX vc (zC 1) zK (yu _)) (zY (yH (zC 0))) yt)
  (zW (yq (xW (ym vS rfl B.isinstance_ vJ (zD (zC 0) (zD (vN (v:=.ty "list") (u:=.type "list") rfl B.list_ wJ rfl) zI)))) (zY (yH (xu (own:=["part"]) (caps:=[(1,"depth")]) (wD (S:=ze uu) (N:=["value","depth"]) ⟨_,rfl⟩) rfl (xr (zC 0)) (λ_ _ _ _=>zr (i:=0) (show (["part","depth"]:List Str).Nodup by decide +kernel) rfl (Or.inl rfl)) (λ_ _ _ _=>(zk am.fn hr rfl (zD (zC 0) (zD (zV (yU wz) (zC 1) zK) zI))))))) yt)
  (zW (yq (xW (ym vS rfl B.isinstance_ vJ (zD (zC 0) (zD (vN (v:=.ty "tuple") (u:=.type "tuple") rfl B.tuple_ vK rfl) zI)))) (zY (yH (xn wM rfl B.tuple_ vK (zD (xu (own:=["part"]) (caps:=[(1,"depth")]) (wD (S:=ze uu) (N:=["value","depth"]) ⟨_,rfl⟩) rfl (j9 (zC 0)) (λ_ _ _ _=>zr (i:=0) (show (["part","depth"]:List Str).Nodup by decide +kernel) rfl (Or.inl rfl)) (λ_ _ _ _=>(zk am.fn hr rfl (zD (zC 0) (zD (zV (yU wz) (zC 1) zK) zI))))) zI)))) yt)
  (zY (yH (zC 0)))))),?_⟩
 try dsimp only [zP,Cx.nox,Cx.wish]
 obtain ⟨i,d,rfl,q⟩:=h
 refine ⟨_,rfl,rfl,_,rfl,?_⟩
 by_cases d0:d=0
 ·exact xo (jE d0) ⟨_,rfl,q⟩
 refine xA (vk d0) ?_
 refine ⟨_,rfl,_,_,_,_,rfl,.int i,kJ K .int,_,rfl,yn ?_⟩
 refine ⟨_,rfl,_,_,_,_,rfl,.int i,Xf K .int,_,rfl,yn ?_⟩
 exact ⟨_,rfl,q⟩
theorem zIe {k:Nat} {f:Addr} {fd:FuncData} {dv:Value} (F:wF K "copied" "copied" uu f fd dv) (B:Bl mg) (am:vi P w K mg base "copied" ["value","depth"] k qU (.int 5)):zU P w K mg base yG (k + 1) f fd ["value","depth"] qV:=by
 refine F.ok WN (λvs H Q E h=>?_) (λcdv A outer s H vs Q E hr h=>?_)
 ·obtain ⟨i,d,rfl,_⟩ | ⟨a,ns,d,rfl,_⟩ | ⟨a,ns,d,rfl,_⟩:=h
  all_goals rfl
 refine ⟨_,(zW (yq (xX vc (zC 1) zK (yu _)) (zY (yH (zC 0))) yt)
  (zW (yq (xW (ym vS rfl B.isinstance_ vJ (zD (zC 0) (zD (vN (v:=.ty "list") (u:=.type "list") rfl B.list_ wJ rfl) zI)))) (zY (yH (xu (own:=["part"]) (caps:=[(1,"depth")]) (wD (S:=ze uu) (N:=["value","depth"]) ⟨_,rfl⟩) rfl (xr (zC 0)) (λ_ _ _ _=>zr (i:=0) (show (["part","depth"]:List Str).Nodup by decide +kernel) rfl (Or.inl rfl)) (λ_ _ _ _=>(zk am.fn hr rfl (zD (zC 0) (zD (zV (yU wz) (zC 1) zK) zI))))))) yt)
  (zW (yq (xW (ym vS rfl B.isinstance_ vJ (zD (zC 0) (zD (vN (v:=.ty "tuple") (u:=.type "tuple") rfl B.tuple_ vK rfl) zI)))) (zY (yH (xn wM rfl B.tuple_ vK (zD (xu (own:=["part"]) (caps:=[(1,"depth")]) (wD (S:=ze uu) (N:=["value","depth"]) ⟨_,rfl⟩) rfl (j9 (zC 0)) (λ_ _ _ _=>zr (i:=0) (show (["part","depth"]:List Str).Nodup by decide +kernel) rfl (Or.inl rfl)) (λ_ _ _ _=>(zk am.fn hr rfl (zD (zC 0) (zD (zV (yU wz) (zC 1) zK) zI))))) zI)))) yt)
  (zY (yH (zC 0)))))),?_⟩
 try dsimp only [zP,Cx.nox,Cx.wish]
 rcases h with h | h | h
 ·obtain ⟨i,d,rfl,q⟩:=h
  refine ⟨_,rfl,rfl,_,rfl,?_⟩
  by_cases d0:d=0
  ·exact xo (jE d0) ⟨_,rfl,q⟩
  refine xA (vk d0) ?_
  refine ⟨_,rfl,_,_,_,_,rfl,.int i,kJ K .int,_,rfl,yn ?_⟩
  refine ⟨_,rfl,_,_,_,_,rfl,.int i,Xf K .int,_,rfl,yn ?_⟩
  exact ⟨_,rfl,q⟩
 ·obtain ⟨a,ns,d,rfl,d1,ha,few,q⟩:=h
  refine ⟨_,rfl,rfl,_,rfl,xA (vk (by omega)) ?_⟩
  refine ⟨_,rfl,_,_,_,_,rfl,.lst ha,jF K,_,rfl,xY ?_⟩
  refine ⟨_,rfl,a,rfl,⟨_,zJ.of ha⟩,vR (K:=K) (a:=a) (xs:=ns.map V.int) (λi ys σ H'=>ys=(ns.take i).map V.int/\(∃ o,σ=[o,some (.int d)])/\H'=H)
   ⟨rfl,⟨none,rfl⟩,rfl⟩ (λi ys σ H' hi ⟨e1,_,e3⟩=>⟨by rw [e3]; exact zJ.of ha,by rw [e1,List.length_map,List.length_take]; exact Nat.min_le_left _ _⟩) (by rw [List.length_map]; exact yd (by omega)) ?_ ?_⟩
  ·rintro i x ys σ H' hi ⟨rfl,⟨o,rfl⟩,rfl⟩
   obtain ⟨z,hz,rfl⟩:=vn hi
   refine ⟨_,rfl,_,rfl,_,_,rfl,rfl,⟨z,d - 1,rfl,?_,⟨_,rfl⟩,rfl⟩⟩
   rw [xH hz,List.map_append]
   rfl
  rintro ys σ H' ⟨rfl,⟨o,rfl⟩,rfl⟩ l hl
  refine q l _ (zx hl _) hl (zj.trans ?_)
  rw [List.length_map,List.take_length]
 ·obtain ⟨a,ns,d,rfl,d1,ha,few,q⟩:=h
  refine ⟨_,rfl,rfl,_,rfl,xA (vk (by omega)) ?_⟩
  refine ⟨_,rfl,_,_,_,_,rfl,.tup ha,kJ K .tup,_,rfl,yn ?_⟩
  refine ⟨_,rfl,_,_,_,_,rfl,.tup ha,gz K,_,rfl,xY ?_⟩
  refine ⟨_,rfl,a,rfl,⟨_,zT.of ha⟩,kF (K:=K) (a:=a) (xs:=ns.map V.int) (λi ys σ H'=>ys=(ns.take i).map V.int/\(∃ o,σ=[o,some (.int d)])/\H'=H)
   ⟨rfl,⟨none,rfl⟩,rfl⟩ (λi ys σ H' hi ⟨e1,_,e3⟩=>⟨by rw [e3]; exact zT.of ha,by rw [e1,List.length_map,List.length_take]; exact Nat.min_le_left _ _⟩) (by rw [List.length_map]; exact yd (by omega)) ?_ ?_⟩
  ·rintro i x ys σ H' hi ⟨rfl,⟨o,rfl⟩,rfl⟩
   obtain ⟨z,hz,rfl⟩:=vn hi
   refine ⟨_,rfl,_,rfl,_,_,rfl,rfl,⟨z,d - 1,rfl,?_,⟨_,rfl⟩,rfl⟩⟩
   rw [xH hz,List.map_append]
   rfl
  rintro ys σ H' ⟨rfl,⟨o,rfl⟩,rfl⟩ l hl
  refine ⟨l,_,rfl,.inl ⟨zJ.of zj,λt ht=>?_⟩⟩
  refine q t _ ((zx hl _).trans (zx ht _)) ((zx hl _).free ht) (zj.trans ?_)
  rw [List.length_map,List.take_length]
theorem zId {k:Nat} {f:Addr} {fd:FuncData} {dv:Value} (F:wF K "copied" "copied" uu f fd dv) (B:Bl mg) (am:vi P w K mg base "copied" ["value","depth"] k qV (.int 5)):zU P w K mg base yG (k + 1) f fd ["value","depth"] kR:=by
 refine F.ok WN (λvs H Q E h=>?_) (λcdv A outer s H vs Q E hr h=>?_)
 ·obtain (⟨i,d,rfl,_⟩ | ⟨a,ns,d,rfl,_⟩ | ⟨a,ns,d,rfl,_⟩) | ⟨a,rv,rows,d,rfl,_⟩ | ⟨a,tv,tab,d,rfl,_⟩:=h
  all_goals rfl
 refine ⟨_,(zW (yq (xX vc (zC 1) zK (yu _)) (zY (yH (zC 0))) yt)
  (zW (yq (xW (ym vS rfl B.isinstance_ vJ (zD (zC 0) (zD (vN (v:=.ty "list") (u:=.type "list") rfl B.list_ wJ rfl) zI)))) (zY (yH (xu (own:=["part"]) (caps:=[(1,"depth")]) (wD (S:=ze uu) (N:=["value","depth"]) ⟨_,rfl⟩) rfl (xr (zC 0)) (λ_ _ _ _=>zr (i:=0) (show (["part","depth"]:List Str).Nodup by decide +kernel) rfl (Or.inl rfl)) (λ_ _ _ _=>(zk am.fn hr rfl (zD (zC 0) (zD (zV (yU wz) (zC 1) zK) zI))))))) yt)
  (zW (yq (xW (ym vS rfl B.isinstance_ vJ (zD (zC 0) (zD (vN (v:=.ty "tuple") (u:=.type "tuple") rfl B.tuple_ vK rfl) zI)))) (zY (yH (xn wM rfl B.tuple_ vK (zD (xu (own:=["part"]) (caps:=[(1,"depth")]) (wD (S:=ze uu) (N:=["value","depth"]) ⟨_,rfl⟩) rfl (j9 (zC 0)) (λ_ _ _ _=>zr (i:=0) (show (["part","depth"]:List Str).Nodup by decide +kernel) rfl (Or.inl rfl)) (λ_ _ _ _=>(zk am.fn hr rfl (zD (zC 0) (zD (zV (yU wz) (zC 1) zK) zI))))) zI)))) yt)
  (zY (yH (zC 0)))))),?_⟩
 try dsimp only [zP,Cx.nox,Cx.wish]
 rcases h with (h | h | h) | h | h
 ·obtain ⟨i,d,rfl,q⟩:=h
  refine ⟨_,rfl,rfl,_,rfl,?_⟩
  by_cases d0:d=0
  ·exact xo (jE d0) ⟨_,rfl,q⟩
  refine xA (vk d0) ?_
  refine ⟨_,rfl,_,_,_,_,rfl,.int i,kJ K .int,_,rfl,yn ?_⟩
  refine ⟨_,rfl,_,_,_,_,rfl,.int i,Xf K .int,_,rfl,yn ?_⟩
  exact ⟨_,rfl,q⟩
 ·obtain ⟨a,ns,d,rfl,d1,ha,few,q⟩:=h
  refine ⟨_,rfl,rfl,_,rfl,xA (vk (by omega)) ?_⟩
  refine ⟨_,rfl,_,_,_,_,rfl,.lst ha,jF K,_,rfl,xY ?_⟩
  refine ⟨_,rfl,a,rfl,⟨_,zJ.of ha⟩,vR (K:=K) (a:=a) (xs:=ns.map V.int) (λi ys σ H'=>ys=(ns.take i).map V.int/\(∃ o,σ=[o,some (.int d)])/\H'=H)
   ⟨rfl,⟨none,rfl⟩,rfl⟩ (λi ys σ H' hi ⟨e1,_,e3⟩=>⟨by rw [e3]; exact zJ.of ha,by rw [e1,List.length_map,List.length_take]; exact Nat.min_le_left _ _⟩) (by rw [List.length_map]; exact yd (by omega)) ?_ ?_⟩
  ·rintro i x ys σ H' hi ⟨rfl,⟨o,rfl⟩,rfl⟩
   obtain ⟨z,hz,rfl⟩:=vn hi
   refine ⟨_,rfl,_,rfl,_,_,rfl,rfl,.inl ⟨z,d - 1,rfl,?_,⟨_,rfl⟩,rfl⟩⟩
   rw [xH hz,List.map_append]
   rfl
  rintro ys σ H' ⟨rfl,⟨o,rfl⟩,rfl⟩ l hl
  refine q l _ (zx hl _) hl (zj.trans ?_)
  rw [List.length_map,List.take_length]
 ·obtain ⟨a,ns,d,rfl,d1,ha,few,q⟩:=h
  refine ⟨_,rfl,rfl,_,rfl,xA (vk (by omega)) ?_⟩
  refine ⟨_,rfl,_,_,_,_,rfl,.tup ha,kJ K .tup,_,rfl,yn ?_⟩
  refine ⟨_,rfl,_,_,_,_,rfl,.tup ha,gz K,_,rfl,xY ?_⟩
  refine ⟨_,rfl,a,rfl,⟨_,zT.of ha⟩,kF (K:=K) (a:=a) (xs:=ns.map V.int) (λi ys σ H'=>ys=(ns.take i).map V.int/\(∃ o,σ=[o,some (.int d)])/\H'=H)
   ⟨rfl,⟨none,rfl⟩,rfl⟩ (λi ys σ H' hi ⟨e1,_,e3⟩=>⟨by rw [e3]; exact zT.of ha,by rw [e1,List.length_map,List.length_take]; exact Nat.min_le_left _ _⟩) (by rw [List.length_map]; exact yd (by omega)) ?_ ?_⟩
  ·rintro i x ys σ H' hi ⟨rfl,⟨o,rfl⟩,rfl⟩
   obtain ⟨z,hz,rfl⟩:=vn hi
   refine ⟨_,rfl,_,rfl,_,_,rfl,rfl,.inl ⟨z,d - 1,rfl,?_,⟨_,rfl⟩,rfl⟩⟩
   rw [xH hz,List.map_append]
   rfl
  rintro ys σ H' ⟨rfl,⟨o,rfl⟩,rfl⟩ l hl
  refine ⟨l,_,rfl,.inl ⟨zJ.of zj,λt ht=>?_⟩⟩
  refine q t _ ((zx hl _).trans (zx ht _)) ((zx hl _).free ht) (zj.trans ?_)
  rw [List.length_map,List.take_length]
 ·obtain ⟨a,rv,rows,d,rfl,d1,ha,hrv,few,rl,q⟩:=h
  have lr:rv.length=rows.length:=Paired.length hrv
  refine ⟨_,rfl,rfl,_,rfl,xA (vk (by omega)) ?_⟩
  refine ⟨_,rfl,_,_,_,_,rfl,.lst ha,jF K,_,rfl,xY ?_⟩
  refine ⟨_,rfl,a,rfl,⟨_,zJ.of ha⟩,vR (K:=K) (a:=a) (xs:=rv) (λi ys σ H'=>xC H' ys (rows.take i)/\(∃ o,σ=[o,some (.int d)])/\zG H H')
   ⟨.nil,⟨none,rfl⟩,zG.refl _⟩ (λi ys σ H' hi ⟨e1,_,sm⟩=>⟨zJ.of (sm _ _ ha),by have:=Paired.length e1; rw [List.length_take] at this; omega⟩) (yd (by omega)) ?_ ?_⟩
  ·rintro i x ys σ H' hi ⟨hys,⟨o,rfl⟩,sm⟩
   obtain ⟨r,hr',b,rfl,eb⟩:=xU hrv hi
   refine ⟨_,rfl,_,rfl,_,_,rfl,rfl,.inr (.inr ⟨b,r,d - 1,rfl,(by omega),sm _ _ eb,rl r (List.mem_of_getElem? hr'),λt H2 s2 _ et=>?_⟩)⟩
   refine ⟨?_,⟨_,rfl⟩,sm.trans s2⟩
   rw [xH hr']
   exact xg (R:=λv (k:List Int)=>Tp H2 v (k.map V.int)) ⟨t,rfl,et⟩ (xC.same s2 hys)
  rintro ys σ H' ⟨hys,⟨o,rfl⟩,sm⟩ l hl
  rw [lr,List.take_length] at hys
  exact q l ys _ (sm.trans (zx hl _)) (sm.free hl) zj (xC.same (zx hl _) hys)
 ·obtain ⟨a,tv,tab,d,rfl,d1,ha,htv,few,rl,q⟩:=h
  have lr:tv.length=tab.length:=Paired.length htv
  refine ⟨_,rfl,rfl,_,rfl,xA (vk (by omega)) ?_⟩
  refine ⟨_,rfl,_,_,_,_,rfl,.lst ha,jF K,_,rfl,xY ?_⟩
  refine ⟨_,rfl,a,rfl,⟨_,zJ.of ha⟩,vR (K:=K) (a:=a) (xs:=tv) (λi ys σ H'=>Paired (wN H H') ys (tab.take i)/\(∃ o,σ=[o,some (.int d)])/\zG H H')
   ⟨.nil,⟨none,rfl⟩,zG.refl _⟩ (λi ys σ H' hi ⟨e1,_,sm⟩=>⟨zJ.of (sm _ _ ha),by have:=Paired.length e1; rw [List.length_take] at this; omega⟩) (yd (by omega)) ?_ ?_⟩
  ·rintro i x ys σ H' hi ⟨hys,⟨o,rfl⟩,sm⟩
   obtain ⟨r,hr',b,rfl,eb⟩:=xU htv hi
   refine ⟨_,rfl,_,rfl,_,_,rfl,rfl,.inr (.inl ⟨b,r,d - 1,rfl,(by omega),sm _ _ eb,rl r (List.mem_of_getElem? hr'),λt H2 s2 tn et=>?_⟩)⟩
   refine ⟨?_,⟨_,rfl⟩,sm.trans s2⟩
   rw [xH hr']
   exact xg (R:=wN H H2) ⟨t,rfl,sm.free tn,et⟩ (Paired.mapP hys λ_ _ ⟨c,e,n,k⟩=>⟨c,e,n,s2 _ _ k⟩)
  rintro ys σ H' ⟨hys,⟨o,rfl⟩,sm⟩ l hl
  rw [lr,List.take_length] at hys
  have z:=zx hl (HO.lst ys)
  exact q l ys _ (sm.trans z) (sm.free hl) zj (Paired.mapP hys λ_ _ ⟨c,e,n,k⟩=>⟨c,e,n,z _ _ k⟩)
theorem zHI {k:Nat} {f:Addr} {fd:FuncData} (F:yb K "is_numbers" "is_numbers" WO f fd) (B:Bl mg) (ao:Fn P w K mg base "is_whole" ["thing"] k jw):zU P w K mg base yG (k + 1) f fd ["value","count"] Z0:=by
 refine F.ok zG5 ?_ ?_
 ·rintro vs H Q E ⟨a,ns,rfl,_⟩
  rfl
 rintro cdv A outer s H vs Q E hr ⟨a,ns,rfl,ha,few,q⟩
 refine ⟨_,(zY (yH (ud (ym vS rfl B.isinstance_ vJ (zD (zC 0) (zD (vN (v:=.ty "list") (u:=.type "list") rfl B.list_ wJ rfl) zI))) (ud (uP vc (ym yw rfl B.len_ wZ (zD (zC 0) zI)) (zC 1) (yu _)) (jh (ym (jq rfl) rfl B.all_ jr (zD (xu (own:=["number"]) (caps:=[]) (uZ rfl) rfl (xr (zC 0)) (λ_ _ _ _=>zr (i:=0) (show (["number"]:List Str).Nodup by decide +kernel) rfl (Or.inl rfl)) (λ_ _ _ _=>(zk ao hr rfl (zD (zC 0) zI)))) zI))))))),?_⟩
 try dsimp only [zP,Cx.nox,Cx.wish]
 refine ⟨_,rfl,_,_,_,_,rfl,.lst ha,jF K,_,rfl,xY ?_⟩
 refine ⟨_,rfl,a,_,rfl,.inl (zJ.of ha),_,rfl,rfl,_,rfl,xo (jE (by rw [List.length_map])) ?_⟩
 refine ⟨_,rfl,a,rfl,⟨_,zJ.of ha⟩,vR (K:=K) (a:=a) (xs:=ns.map V.int) (λi ys σ H'=>ys=(List.replicate i true).map V.bl/\(∃ o,σ=[o])/\H'=H)
  ⟨rfl,⟨none,rfl⟩,rfl⟩ (λi ys σ H' hi ⟨e1,_,e3⟩=>⟨by rw [e3]; exact zJ.of ha,by rw [e1,List.length_map,List.length_replicate]; exact Nat.le_refl _⟩) (by rw [List.length_map]; exact yd (by omega)) ?_ ?_⟩
 ·rintro i x ys σ H' hi ⟨rfl,⟨o,rfl⟩,rfl⟩
  obtain ⟨z,hz,rfl⟩:=vn hi
  refine ⟨_,rfl,z,rfl,?_,⟨_,rfl⟩,rfl⟩
  rw [List.replicate_succ',List.map_append]
  rfl
 rintro ys σ H' ⟨rfl,⟨o,rfl⟩,rfl⟩ l hl
 refine ⟨l,List.replicate _ true,rfl,zJ.of zj,?_⟩
 rw [qW]
 exact q _ (zx hl _)
theorem zIa {k:Nat} {f:Addr} {fd:FuncData} (F:yb K "is_table" "is_table" YB f fd) (B:Bl mg) (aB:Fn P w K mg base "is_numbers" ["value","count"] k Z0):zU P w K mg base yG (k + 1) f fd ["value","tall","wide"] Xk:=by
 refine F.ok zIG ?_ ?_
 ·rintro vs H Q E ⟨a,tv,tab,w0,rfl,_⟩
  rfl
 rintro cdv A outer s H vs Q E hr ⟨a,tv,tab,w0,rfl,ha,htv,few,tw,w9,q⟩
 refine ⟨_,(zY (yH (ud (ym vS rfl B.isinstance_ vJ (zD (zC 0) (zD (vN (v:=.ty "list") (u:=.type "list") rfl B.list_ wJ rfl) zI))) (ud (uP vc (ym yw rfl B.len_ wZ (zD (zC 0) zI)) (zC 1) (yu _)) (jh (ym (jq rfl) rfl B.all_ jr (zD (xu (own:=["part"]) (caps:=[(2,"wide")]) (wD (S:=ze YB) (N:=["value","tall","wide"]) ⟨_,rfl⟩) rfl (xr (zC 0)) (λ_ _ _ _=>zr (i:=0) (show (["part","wide"]:List Str).Nodup by decide +kernel) rfl (Or.inl rfl)) (λ_ _ _ _=>(zk aB hr rfl (zD (zC 0) (zD (zC 1) zI))))) zI))))))),?_⟩
 try dsimp only [zP,Cx.nox,Cx.wish]
 have lt:tv.length=tab.length:=Paired.length htv
 refine ⟨_,rfl,_,_,_,_,rfl,.lst ha,jF K,_,rfl,xY ?_⟩
 refine ⟨_,rfl,a,_,rfl,.inl (zJ.of ha),_,rfl,rfl,_,rfl,xo (jE (by omega)) ?_⟩
 refine ⟨_,rfl,a,rfl,⟨_,zJ.of ha⟩,vR (K:=K) (a:=a) (xs:=tv) (λi ys σ H'=>ys=(List.replicate i true).map V.bl/\(∃ o,σ=[o,some (.int (w0:Int))])/\zG H H')
  ⟨rfl,⟨none,rfl⟩,zG.refl _⟩ (λi ys σ H' hi ⟨e1,_,sm⟩=>⟨zJ.of (sm _ _ ha),by rw [e1,List.length_map,List.length_replicate]; exact Nat.le_refl _⟩) (yd (by omega)) ?_ ?_⟩
 ·rintro i x ys σ H' hi ⟨rfl,⟨o,rfl⟩,sm⟩
  obtain ⟨r,hr',b,rfl,eb⟩:=xU htv hi
  have lw:=tw r (List.mem_of_getElem? hr')
  refine ⟨_,rfl,_,rfl,b,r,(by rw [lw]; rfl),sm _ _ eb,(by omega),λH2 s2=>⟨?_,⟨_,rfl⟩,sm.trans s2⟩⟩
  rw [List.replicate_succ',List.map_append]
  rfl
 rintro ys σ H' ⟨rfl,⟨o,rfl⟩,sm⟩ l hl
 refine ⟨l,List.replicate _ true,rfl,zJ.of zj,?_⟩
 rw [qW]
 exact q _ (sm.trans (zx hl _))
theorem zLO {k:Nat} {f:Addr} {fd:FuncData} (F:yb K "is_row" "is_row" WP f fd) (B:Bl mg) (ao:Fn P w K mg base "is_whole" ["thing"] k jw):zU P w K mg base yG (k + 1) f fd ["value","many"] Xl:=by
 refine F.ok zK0 ?_ ?_
 ·rintro vs H Q E ⟨a,ns,n,rfl,_⟩
  rfl
 rintro cdv A outer s H vs Q E hr ⟨a,ns,n,rfl,ha,ln,few,q⟩
 refine ⟨_,(zY (yH (ud (ym vS rfl B.isinstance_ vJ (zD (zC 0) (zD (vN (v:=.ty "tuple") (u:=.type "tuple") rfl B.tuple_ vK rfl) zI))) (ud (uP vc (ym yw rfl B.len_ wZ (zD (zC 0) zI)) (zV (yU yz) (zC 1) zK) (yu _)) (jh (ym (jq rfl) rfl B.all_ jr (zD (xu (own:=["number"]) (caps:=[]) (uZ rfl) rfl (j9 (zC 0)) (λ_ _ _ _=>zr (i:=0) (show (["number"]:List Str).Nodup by decide +kernel) rfl (Or.inl rfl)) (λ_ _ _ _=>(zk ao hr rfl (zD (zC 0) zI)))) zI))))))),?_⟩
 try dsimp only [zP,Cx.nox,Cx.wish]
 refine ⟨_,rfl,_,_,_,_,rfl,.tup ha,gz K,_,rfl,xY ?_⟩
 refine ⟨_,rfl,a,_,rfl,.inr (zT.of ha),_,rfl,_,_,rfl,rfl,rfl,_,rfl,xo (jE (by rw [List.length_map,ln]; omega)) ?_⟩
 refine ⟨_,rfl,a,rfl,⟨_,zT.of ha⟩,kF (K:=K) (a:=a) (xs:=ns.map V.int) (λi ys σ H'=>ys=(List.replicate i true).map V.bl/\(∃ o,σ=[o])/\H'=H)
  ⟨rfl,⟨none,rfl⟩,rfl⟩ (λi ys σ H' hi ⟨e1,_,e3⟩=>⟨by rw [e3]; exact zT.of ha,by rw [e1,List.length_map,List.length_replicate]; exact Nat.le_refl _⟩) (by rw [List.length_map]; exact yd (by omega)) ?_ ?_⟩
 ·rintro i x ys σ H' hi ⟨rfl,⟨o,rfl⟩,rfl⟩
  obtain ⟨z,hz,rfl⟩:=vn hi
  refine ⟨_,rfl,z,rfl,?_,⟨_,rfl⟩,rfl⟩
  rw [List.replicate_succ',List.map_append]
  rfl
 rintro ys σ H' ⟨rfl,⟨o,rfl⟩,rfl⟩ l hl
 refine ⟨l,List.replicate _ true,rfl,zJ.of zj,?_⟩
 rw [qW]
 exact q _ (zx hl _)
theorem zKC {k:Nat} {f:Addr} {fd:FuncData} (F:yb K "is_room" "is_room" YC f fd) (B:Bl mg) (be:Fn P w K mg base "is_row" ["value","many"] k Xl):zU P w K mg base yG (k + 1) f fd ["value","many"] Xm:=by
 refine F.ok zJx ?_ ?_
 ·rintro vs H Q E ⟨a,rv,rows,n,rfl,_⟩
  rfl
 rintro cdv A outer s H vs Q E hr ⟨a,rv,rows,n,rfl,ha,hrv,few,rl,n8,q⟩
 refine ⟨_,(zY (yH (ud (ym vS rfl B.isinstance_ vJ (zD (zC 0) (zD (vN (v:=.ty "list") (u:=.type "list") rfl B.list_ wJ rfl) zI))) (jh (ym (jq rfl) rfl B.all_ jr (zD (xu (own:=["row"]) (caps:=[(1,"many")]) (wD (S:=ze YC) (N:=["value","many"]) ⟨_,rfl⟩) rfl (xr (zC 0)) (λ_ _ _ _=>zr (i:=0) (show (["row","many"]:List Str).Nodup by decide +kernel) rfl (Or.inl rfl)) (λ_ _ _ _=>(zk be hr rfl (zD (zC 0) (zD (zC 1) zI))))) zI)))))),?_⟩
 try dsimp only [zP,Cx.nox,Cx.wish]
 have lr:rv.length=rows.length:=Paired.length hrv
 refine ⟨_,rfl,_,_,_,_,rfl,.lst ha,jF K,_,rfl,xY ?_⟩
 refine ⟨_,rfl,a,rfl,⟨_,zJ.of ha⟩,vR (K:=K) (a:=a) (xs:=rv) (λi ys σ H'=>ys=(List.replicate i true).map V.bl/\(∃ o,σ=[o,some (.int (n:Int))])/\zG H H')
  ⟨rfl,⟨none,rfl⟩,zG.refl _⟩ (λi ys σ H' hi ⟨e1,_,sm⟩=>⟨zJ.of (sm _ _ ha),by rw [e1,List.length_map,List.length_replicate]; exact Nat.le_refl _⟩) (yd (by omega)) ?_ ?_⟩
 ·rintro i x ys σ H' hi ⟨rfl,⟨o,rfl⟩,sm⟩
  obtain ⟨r,hr',b,rfl,eb⟩:=xU hrv hi
  refine ⟨_,rfl,_,rfl,b,r,n,rfl,sm _ _ eb,rl r (List.mem_of_getElem? hr'),(by omega),λH2 s2=>⟨?_,⟨_,rfl⟩,sm.trans s2⟩⟩
  rw [List.replicate_succ',List.map_append]
  rfl
 rintro ys σ H' ⟨rfl,⟨o,rfl⟩,sm⟩ l hl
 refine ⟨l,List.replicate _ true,rfl,zJ.of zj,?_⟩
 rw [qW]
 exact q _ (sm.trans (zx hl _))
theorem zKD {k:Nat} {f:Addr} {fd:FuncData} (F:yb K "is_push" "is_push" WQ f fd) (B:Bl mg) (ao:Fn P w K mg base "is_whole" ["thing"] k jw):zU P w K mg base yG (k + 1) f fd ["value"] Xn:=by
 refine F.ok zJy ?_ ?_
 ·rintro vs H Q E ⟨a,lo,hi,rfl,_⟩
  rfl
 rintro cdv A outer s H vs Q E hr ⟨a,lo,hi,rfl,ha,lh,q⟩
 refine ⟨_,(zW (yq (PW.pt (uE (wS (xW (ym vS rfl B.isinstance_ vJ (zD (zC 0) (zD (vN (v:=.ty "tuple") (u:=.type "tuple") rfl B.tuple_ vK rfl) zI))))) (uL (xX jn (ym yw rfl B.len_ wZ (zD (zC 0) zI)) zK (yu _))))) (zY (yH vH)) yt)
  (zY (yH (ud (zk ao hr rfl (zD (zh yc (zC 0) zK (λ_ _=>rfl)) zI)) (ud (zk ao hr rfl (zD (zh yc (zC 0) zK (λ_ _=>rfl)) zI)) (jh (uP (yU Y4) (zh yc (zC 0) zK (λ_ _=>rfl)) (zh yc (zC 0) zK (λ_ _=>rfl)) (yu _)))))))),?_⟩
 try dsimp only [zP,Cx.nox,Cx.wish]
 refine ⟨_,rfl,_,_,_,_,rfl,.tup ha,gz K,_,rfl,yn ?_⟩
 refine ⟨_,rfl,a,_,rfl,.inr (zT.of ha),rfl,_,rfl,XN rfl ?_⟩
 refine ⟨_,rfl,a,_,0,_,rfl,rfl,zT.of ha,vm,lo,rfl,_,rfl,xY ?_⟩
 refine ⟨_,rfl,a,_,1,_,rfl,rfl,zT.of ha,w4,hi,rfl,_,rfl,xY ?_⟩
 refine ⟨_,rfl,a,_,0,_,rfl,rfl,zT.of ha,vm,_,rfl,a,_,1,_,rfl,rfl,zT.of ha,w4,_,_,rfl,rfl,?_⟩
 have z:decide (lo<=hi)=true:=decide_eq_true lh
 show Q (.bl (decide (lo<=hi))) H
 rw [z]
 exact q
theorem zE5 {k:Nat} {f:Addr} {fd:FuncData} (F:yb K "__init__" "Mode.__init__" WR f fd) (B:Bl mg) (am:vi P w K mg base "copied" ["value","depth"] k kR (.int 5)):zU P w K mg base yG (k + 1) f fd jc (Xp ac):=by
 refine F.ok zE2 ?_ ?_
 ·rintro vs H Q E ⟨o,dx,ra,na,sa,pa,aa,rv,nv,pv,m,n0,p0,rfl,_⟩
  rfl
 rintro cdv A outer s H vs Q E hr ⟨o,dx,ra,na,sa,pa,aa,rv,nv,pv,m,n0,p0,rfl,ho,MO,hra,hrv,hna,hnv,hsa,hpa,hpv,haa,q⟩
 refine ⟨_,(zW (jU (zC 0) (qK am hr rfl (zD (zC 1) zI)) rfl)
  (zW (jU (zC 0) (qK am hr rfl (zD (zC 2) zI)) rfl)
  (zW (jU (zC 0) (qK am hr rfl (zD (zC 3) zI)) rfl)
  (zW (jU (zC 0) (qK am hr rfl (zD (zC 4) zI)) rfl)
  (zW (jU (zC 0) (qK am hr rfl (zD (zC 5) zI)) rfl)
  (zY (jU (zC 0) (zC 6) rfl))))))),?_⟩
 try dsimp only [zP,Cx.nox,Cx.wish]
 have n3:=MO.n3
 have p6:=MO.p6
 have G0:xL o H H:=λ_ _ e _=>e
 refine ⟨_,rfl,.inr (.inl ⟨ra,rv,m.rows,5,rfl,(by decide),hra,hrv,MO.few,(λx hx=>by have:=MO.rows x hx; omega),λr lr H1 s1 fr er hr=>?_⟩)⟩
 refine ⟨_,rfl,o,ac,dx,_,rfl,(s1 _ _ ho),ae.cl,ag.n_rows,(by show 0 < 1000; decide),?_⟩
 have o1:=zj (H:=H1) (a:=o) (o:=HO.ins ac dx (zS "rows" (.ref r) []))
 have G1:xL o H (upd H1 o (HO.ins ac dx (zS "rows" (.ref r) []))):=G0.trans ((zG.but s1).trans (uH o H1 _))
 have T1:xL o H1 (upd H1 o (HO.ins ac dx (zS "rows" (.ref r) []))):=uH o H1 _
 have b1:=s1 _ _ ho
 obtain ⟨J1,hJ1⟩:∃ J,J=upd H1 o (HO.ins ac dx (zS "rows" (.ref r) [])):=⟨_,rfl⟩
 rw [<- hJ1] at o1 G1 T1 |-
 refine ⟨_,rfl,.inr (.inr ⟨na,nv,m.nexts,5,rfl,(by decide),(keepB ho G1 hna (λz=>by cases z)),(zX.keepB ho G1 hnv),(by have:=MO.nexts.1; omega),(λx hx=>by have:=MO.nexts.2 x hx; omega),λn ln H2 s2 fn en hn=>?_⟩)⟩
 refine ⟨_,rfl,o,ac,dx,_,rfl,(s2 _ _ o1),ae.cl,ag.n_nexts,(by show 1 < 1000; decide),?_⟩
 have o2:=zj (H:=H2) (a:=o) (o:=HO.ins ac dx (zS "nexts" (.ref n) (zS "rows" (.ref r) [])))
 have G2:xL o H (upd H2 o (HO.ins ac dx (zS "nexts" (.ref n) (zS "rows" (.ref r) [])))):=G1.trans ((zG.but s2).trans (uH o H2 _))
 have T2:xL o H2 (upd H2 o (HO.ins ac dx (zS "nexts" (.ref n) (zS "rows" (.ref r) [])))):=uH o H2 _
 have b2:=s2 _ _ o1
 obtain ⟨J2,hJ2⟩:∃ J,J=upd H2 o (HO.ins ac dx (zS "nexts" (.ref n) (zS "rows" (.ref r) []))):=⟨_,rfl⟩
 rw [<- hJ2] at o2 G2 T2 |-
 refine ⟨_,rfl,.inl (.inr (.inl ⟨sa,m.steer,5,rfl,(by decide),(keepB ho G2 hsa (λz=>by cases z)),(by have:=MO.steer; omega),λs H3 s3 fs es=>?_⟩))⟩
 refine ⟨_,rfl,o,ac,dx,_,rfl,(s3 _ _ o2),ae.cl,ag.n_steer,(by show 2 < 1000; decide),?_⟩
 have o3:=zj (H:=H3) (a:=o) (o:=HO.ins ac dx (zS "steer" (.ref s) (zS "nexts" (.ref n) (zS "rows" (.ref r) []))))
 have G3:xL o H (upd H3 o (HO.ins ac dx (zS "steer" (.ref s) (zS "nexts" (.ref n) (zS "rows" (.ref r) []))))):=G2.trans ((zG.but s3).trans (uH o H3 _))
 have T3:xL o H3 (upd H3 o (HO.ins ac dx (zS "steer" (.ref s) (zS "nexts" (.ref n) (zS "rows" (.ref r) []))))):=uH o H3 _
 have b3:=s3 _ _ o2
 obtain ⟨J3,hJ3⟩:∃ J,J=upd H3 o (HO.ins ac dx (zS "steer" (.ref s) (zS "nexts" (.ref n) (zS "rows" (.ref r) [])))):=⟨_,rfl⟩
 rw [<- hJ3] at o3 G3 T3 |-
 refine ⟨_,rfl,.inr (.inr ⟨pa,pv,m.push,5,rfl,(by decide),(keepB ho G3 hpa (λz=>by cases z)),(zX.keepB ho G3 hpv),(by have:=MO.push.1; omega),(λx hx=>by have:=MO.push.2 x hx; omega),λp lp H4 s4 fp ep hp=>?_⟩)⟩
 refine ⟨_,rfl,o,ac,dx,_,rfl,(s4 _ _ o3),ae.cl,ag.n_push,(by show 3 < 1000; decide),?_⟩
 have o4:=zj (H:=H4) (a:=o) (o:=HO.ins ac dx (zS "push" (.ref p) (zS "steer" (.ref s) (zS "nexts" (.ref n) (zS "rows" (.ref r) [])))))
 have G4:xL o H (upd H4 o (HO.ins ac dx (zS "push" (.ref p) (zS "steer" (.ref s) (zS "nexts" (.ref n) (zS "rows" (.ref r) [])))))):=G3.trans ((zG.but s4).trans (uH o H4 _))
 have T4:xL o H4 (upd H4 o (HO.ins ac dx (zS "push" (.ref p) (zS "steer" (.ref s) (zS "nexts" (.ref n) (zS "rows" (.ref r) [])))))):=uH o H4 _
 have b4:=s4 _ _ o3
 obtain ⟨J4,hJ4⟩:∃ J,J=upd H4 o (HO.ins ac dx (zS "push" (.ref p) (zS "steer" (.ref s) (zS "nexts" (.ref n) (zS "rows" (.ref r) []))))):=⟨_,rfl⟩
 rw [<- hJ4] at o4 G4 T4 |-
 refine ⟨_,rfl,.inl (.inr (.inl ⟨aa,m.add,5,rfl,(by decide),(keepB ho G4 haa (λz=>by cases z)),(by have:=MO.add; omega),λa H5 s5 fa ea=>?_⟩))⟩
 refine ⟨_,rfl,o,ac,dx,_,rfl,(s5 _ _ o4),ae.cl,ag.n_add,(by show 4 < 1000; decide),?_⟩
 have o5:=zj (H:=H5) (a:=o) (o:=HO.ins ac dx (zS "add" (.ref a) (zS "push" (.ref p) (zS "steer" (.ref s) (zS "nexts" (.ref n) (zS "rows" (.ref r) []))))))
 have G5:xL o H (upd H5 o (HO.ins ac dx (zS "add" (.ref a) (zS "push" (.ref p) (zS "steer" (.ref s) (zS "nexts" (.ref n) (zS "rows" (.ref r) []))))))):=G4.trans ((zG.but s5).trans (uH o H5 _))
 have T5:xL o H5 (upd H5 o (HO.ins ac dx (zS "add" (.ref a) (zS "push" (.ref p) (zS "steer" (.ref s) (zS "nexts" (.ref n) (zS "rows" (.ref r) []))))))):=uH o H5 _
 have b5:=s5 _ _ o4
 obtain ⟨J5,hJ5⟩:∃ J,J=upd H5 o (HO.ins ac dx (zS "add" (.ref a) (zS "push" (.ref p) (zS "steer" (.ref s) (zS "nexts" (.ref n) (zS "rows" (.ref r) [])))))):=⟨_,rfl⟩
 rw [<- hJ5] at o5 G5 T5 |-
 refine ⟨_,rfl,_,rfl,o,ac,dx,_,rfl,o5,ae.cl,ag.n_divisor,(by show 5 < 1000; decide),?_⟩
 have e6:upd J5 o (HO.ins ac dx (zS "divisor" (.int m.div) (zS "add" (.ref a) (zS "push" (.ref p) (zS "steer" (.ref s) (zS "nexts" (.ref n) (zS "rows" (.ref r) []))))))) o=some (.ins ac dx (Xo (.ref r) (.ref n) (.ref s) (.ref p) (.ref a) m.div)):=zj.trans (by rw [zMe])
 have T6:xL o J5 (upd J5 o (HO.ins ac dx (zS "divisor" (.int m.div) (zS "add" (.ref a) (zS "push" (.ref p) (zS "steer" (.ref s) (zS "nexts" (.ref n) (zS "rows" (.ref r) [])))))))):=uH o J5 _
 obtain ⟨J6,hJ6⟩:∃ J,J=upd J5 o (HO.ins ac dx (zS "divisor" (.int m.div) (zS "add" (.ref a) (zS "push" (.ref p) (zS "steer" (.ref s) (zS "nexts" (.ref n) (zS "rows" (.ref r) []))))))):=⟨_,rfl⟩
 rw [<- hJ6] at e6 T6 |-
 have U5:xL o H5 J6:=T5.trans T6
 have U4:xL o H4 J6:=T4.trans ((zG.but s5).trans U5)
 have U3:xL o H3 J6:=T3.trans ((zG.but s4).trans U4)
 have U2:xL o H2 J6:=T2.trans ((zG.but s3).trans U3)
 have U1:xL o H1 J6:=T1.trans ((zG.but s2).trans U2)
 have G6:xL o H J6:=G5.trans T6
 have nH:∀ {k:Nat} {Hk:Hp} {x:HO},xL o H Hk->Hk o=some x->∀ {vs:List V} {tab:List (List Int)} {Hj:Hp},Paired (wN Hk Hj) vs tab->xL o Hj J6->(∃ y,Hj o=some y/\∀ l,HO.lst l≠y)->Paired (wN H J6) vs tab:=λG e _ _ _ z U ⟨y,ey,ny⟩=>
  Paired.mapP z λ_ _ ⟨c,e1,e2,e3⟩=>⟨c,e1,qX G e e2,U _ _ e3 λw=>by rw [w,ey] at e3; exact ny _ (Option.some.inj e3).symm⟩
 have NI:∀ (fs:List (Str × V)) (l:List V),HO.lst l≠.ins ac dx fs:=λ_ _ z=>by cases z
 refine q ⟨dx,r,lr,n,ln,s,p,lp,a⟩ J6 G6 ⟨e6,keepB b1 U1 er (NI _ _),xC.keepB b1 U1 hr,keepB b2 U2 en (NI _ _),zX.keepB b2 U2 (wN.tab hn),keepB b3 U3 es (NI _ _),keepB b4 U4 ep (NI _ _),zX.keepB b4 U4 (wN.tab hp),keepB b5 U5 ea (NI _ _)⟩ fr (qX G1 o1 fn) (qX G2 o2 fs) (qX G3 o3 fp) (qX G4 o4 fa) (nH (k:=0) G1 o1 hn U2 ⟨_,b2,NI _⟩) (nH (k:=0) G3 o3 hp U4 ⟨_,b4,NI _⟩)
theorem zKE {k:Nat} {f:Addr} {fd:FuncData} (F:yb K "is_mode" "is_mode" WU f fd) (B:Bl mg) (bh:Fn P w K mg base "is_room" ["value","many"] k Xm) (aT:Fn P w K mg base "is_table" ["value","tall","wide"] k Xk) (aB:Fn P w K mg base "is_numbers" ["value","count"] k Z0) (ao:Fn P w K mg base "is_whole" ["thing"] k jw):zU P w K mg base yG (k + 1) f fd ["value","many","wide"] (Xq ac):=by
 refine F.ok zJz ?_ ?_
 ·rintro vs H Q E ⟨v,m,n,p,rfl,_⟩
  rfl
 rintro cdv A outer s H vs Q E hr ⟨v,m,n,p,rfl,⟨o,M,rfl,k0⟩,MO,q⟩
 refine ⟨_,(zW (yq (PW.pt (uE (wS (xW (ym (show vC _ _ (Qi K) from zHw) rfl B.isinstance_ vJ (zD (zC 0) (zD (zOh ae rfl) zI))))) (uL (wS (xW (zk bh hr rfl (zD (xm (zC 0) rfl) (zD (zC 1) zI)))))))) (zY (yH vH)) yt)
  (zW (yq (PW.pt (uE (wS (xW (zk aT hr rfl (zD (xm (zC 0) rfl) (zD (zC 1) (zD (zC 1) zI)))))) (uL (wS (xW (zk aT hr rfl (zD (xm (zC 0) rfl) (zD (zC 1) (zD (zC 2) zI))))))))) (zY (yH vH)) yt)
  (zW (yq (PW.pt (uE (wS (xW (zk aB hr rfl (zD (xm (zC 0) rfl) (zD (zC 1) zI))))) (uL (wS (xW (zk aB hr rfl (zD (xm (zC 0) rfl) (zD (zC 1) zI)))))))) (zY (yH vH)) yt)
  (zY (yH (ud (zk ao hr rfl (zD (xm (zC 0) rfl) zI)) (jh (uP (yU JQ) (xm (zC 0) rfl) zK (yu _))))))))),?_⟩
 try dsimp only [zP,Cx.nox,Cx.wish]
 have n3:=MO.n3
 have p6:=MO.p6
 refine ⟨_,rfl,_,_,_,_,rfl,(ae.ty k0.ins),zMi,_,rfl,yn ?_⟩
 refine ⟨_,rfl,o,ac,M.dx,_,_,rfl,k0.ins,ae.cl,ag.n_rows,rfl,_,rfl,M.r,M.rv,m.rows,n,rfl,k0.hr,k0.hrv,MO.few,MO.rows,(by omega),λH1 s1=>?_⟩
 refine ⟨_,rfl,yn ?_⟩
 refine ⟨_,rfl,o,ac,M.dx,_,_,rfl,(s1 _ _ k0.ins),ae.cl,ag.n_nexts,rfl,_,rfl,_,rfl,M.n,M.nv,m.nexts,n,(by rw [MO.nexts.1]; rfl),s1 _ _ k0.hn,k0.hnv.same s1,(by have:=MO.nexts.1; omega),MO.nexts.2,(by omega),λH2 s2=>?_⟩
 have s12:=s1.trans s2
 refine ⟨_,rfl,yn ?_⟩
 refine ⟨_,rfl,o,ac,M.dx,_,_,rfl,(s12 _ _ k0.ins),ae.cl,ag.n_push,rfl,_,rfl,_,rfl,M.p,M.pv,m.push,p,(by rw [MO.push.1]; rfl),s12 _ _ k0.hp,k0.hpv.same s12,(by have:=MO.push.1; omega),MO.push.2,(by omega),λH3 s3=>?_⟩
 have s13:=s12.trans s3
 refine ⟨_,rfl,yn ?_⟩
 refine ⟨_,rfl,o,ac,M.dx,_,_,rfl,(s13 _ _ k0.ins),ae.cl,ag.n_steer,rfl,_,rfl,M.s,m.steer,(by rw [MO.steer]; rfl),s13 _ _ k0.hs,(by have:=MO.steer; omega),λH4 s4=>?_⟩
 have s14:=s13.trans s4
 refine ⟨_,rfl,yn ?_⟩
 refine ⟨_,rfl,o,ac,M.dx,_,_,rfl,(s14 _ _ k0.ins),ae.cl,ag.n_add,rfl,_,rfl,M.a,m.add,(by rw [MO.add]; rfl),s14 _ _ k0.ha,(by have:=MO.add; omega),λH5 s5=>?_⟩
 have s15:=s14.trans s5
 refine ⟨_,rfl,yn ?_⟩
 refine ⟨_,rfl,o,ac,M.dx,_,_,rfl,(s15 _ _ k0.ins),ae.cl,ag.n_divisor,rfl,m.div,rfl,_,rfl,xY ?_⟩
 refine ⟨_,rfl,o,ac,M.dx,_,_,rfl,(s15 _ _ k0.ins),ae.cl,ag.n_divisor,rfl,_,_,rfl,rfl,?_⟩
 have z:decide (m.div ≥ 1)=true:=decide_eq_true MO.div
 show Q (.bl (decide (m.div ≥ 1))) H5
 rw [z]
 exact q _ s15
theorem zIb {k:Nat} {f:Addr} {fd:FuncData} (F:yb K "is_sound" "is_sound" YD f fd) (B:Bl mg) (ao:Fn P w K mg base "is_whole" ["thing"] k jw) (bi:Fn P w K mg base "is_push" ["value"] k Xn) (bj:Fn P w K mg base "is_mode" ["value","many","wide"] k (Xq ac)):zU P w K mg base yG (k + 1) f fd ["many","pushes","modes"] (Xr ac):=by
 refine F.ok zIH ?_ ?_
 ·rintro vs H Q E ⟨pa,ma,pv,mv,n,bs,ms,rfl,_⟩
  rfl
 rintro cdv A outer s H vs Q E hr ⟨pa,ma,pv,mv,n,bs,ms,rfl,hpa,hpv,hma,hmv,TO,q⟩
 refine ⟨_,(zW (yq (PW.pt (uE (wS (xW (zk ao hr rfl (zD (zC 0) zI)))) (uE (xX (yU qB) (zC 0) zK (yu _)) (uL (xX (yU qC) (zC 0) (Zq rfl B.MOST_NUMBERS_) (yu _)))))) (zY (yH vH)) yt)
  (zW (yq (PW.pt (uE (wS (xW (ym vS rfl B.isinstance_ vJ (zD (zC 1) (zD (vN (v:=.ty "list") (u:=.type "list") rfl B.list_ wJ rfl) zI))))) (uL (wS (xW (ym (jq rfl) rfl B.all_ jr (zD (xu (own:=["push"]) (caps:=[]) (uZ rfl) rfl (xr (zC 1)) (λ_ _ _ _=>zr (i:=0) (show (["push"]:List Str).Nodup by decide +kernel) rfl (Or.inl rfl)) (λ_ _ _ _=>(zk bi hr rfl (zD (zC 0) zI)))) zI))))))) (zY (yH vH)) yt)
  (zW (yq (PW.pt (uE (wS (xW (ym vS rfl B.isinstance_ vJ (zD (zC 2) (zD (vN (v:=.ty "list") (u:=.type "list") rfl B.list_ wJ rfl) zI))))) (uL (xX vc (ym yw rfl B.len_ wZ (zD (zC 2) zI)) zK (yu _))))) (zY (yH vH)) yt)
  (zY (yH (ym (jq rfl) rfl B.all_ jr (zD (xu (own:=["mode"]) (caps:=[(0,"many"),(1,"pushes")]) (wD (S:=ze YD) (N:=["many","pushes","modes"]) ⟨_,rfl⟩) rfl (xr (zC 2)) (λ_ _ _ _=>zr (i:=0) (show (["mode","many","pushes"]:List Str).Nodup by decide +kernel) rfl (Or.inl rfl)) (λ_ _ _ _=>(zk bj hr rfl (zD (zC 0) (zD (zC 1) (zD (ym (show vC _ _ (qR K) from yw) rfl B.len_ wZ (zD (zC 2) zI)) zI)))))) zI))))))),?_⟩
 try dsimp only [zP,Cx.nox,Cx.wish]
 have n1:=TO.n1
 have n3:=TO.n3
 have b6:=TO.b6
 have m1:=TO.m1
 have m40:=TO.m40
 have lp:pv.length=bs.length:=Paired.length hpv
 have lm:mv.length=ms.length:=Paired.length hmv
 refine ⟨_,rfl,(n:Int),rfl,_,rfl,yn ?_⟩
 refine ⟨_,rfl,_,_,rfl,rfl,_,rfl,xA (decide_eq_false (show ¬ ((n:Int) < 1) by omega)) ?_⟩
 refine ⟨_,rfl,_,_,rfl,rfl,_,rfl,xA (decide_eq_false (show ¬ ((n:Int) > 3) by omega)) ?_⟩
 refine ⟨_,rfl,_,_,_,_,rfl,.lst hpa,jF K,_,rfl,yn ?_⟩
 refine ⟨_,rfl,pa,rfl,⟨_,zJ.of hpa⟩,vR (K:=K) (a:=pa) (xs:=pv) (λi ys σ H'=>ys=(List.replicate i true).map V.bl/\(∃ o,σ=[o])/\H'=H)
  ⟨rfl,⟨none,rfl⟩,rfl⟩ (λi ys σ H' hi ⟨e1,_,e3⟩=>⟨by rw [e3]; exact zJ.of hpa,by rw [e1,List.length_map,List.length_replicate]; exact Nat.le_refl _⟩) (yd (by omega)) ?_ ?_⟩
 ·rintro i x ys σ H' hi ⟨rfl,⟨o,rfl⟩,rfl⟩
  obtain ⟨b,hb,c,rfl,ec⟩:=xU hpv hi
  refine ⟨_,rfl,c,b.1,b.2,rfl,ec,TO.bok b (List.mem_of_getElem? hb),?_,⟨_,rfl⟩,rfl⟩
  rw [List.replicate_succ',List.map_append]
  rfl
 rintro ys σ H1 ⟨rfl,⟨o,rfl⟩,rfl⟩ l1 hl1
 refine ⟨l1,List.replicate _ true,rfl,zJ.of zj,?_⟩
 rw [qW]
 refine ⟨_,rfl,yn ?_⟩
 have s1:=zx hl1 (HO.lst ((List.replicate pv.length true).map V.bl))
 obtain ⟨H2,hH2⟩:∃ H2,H2=upd H1 l1 (HO.lst ((List.replicate pv.length true).map V.bl)):=⟨_,rfl⟩
 rw [<- hH2] at s1 |-
 have hma2:=s1 _ _ hma
 refine ⟨_,rfl,_,_,_,_,rfl,.lst hma2,jF K,_,rfl,yn ?_⟩
 refine ⟨_,rfl,ma,_,rfl,.inl (zJ.of hma2),rfl,_,rfl,xA (vk (by omega)) ?_⟩
 refine ⟨_,rfl,ma,rfl,⟨_,zJ.of hma2⟩,vR (K:=K) (a:=ma) (xs:=mv) (λi ys σ H'=>ys=(List.replicate i true).map V.bl/\(∃ o,σ=[o,some (.int (n:Int)),some (.ref pa)])/\zG H2 H')
  ⟨rfl,⟨none,rfl⟩,zG.refl _⟩ (λi ys σ H' hi ⟨e1,_,sm⟩=>⟨zJ.of (sm _ _ hma2),by rw [e1,List.length_map,List.length_replicate]; exact Nat.le_refl _⟩) (yd (by omega)) ?_ ?_⟩
 ·rintro i x ys σ H' hi ⟨rfl,⟨o,rfl⟩,sm⟩
  obtain ⟨md,hmd,hx⟩:=xU hmv hi
  have s2:=s1.trans sm
  refine ⟨_,rfl,_,rfl,_,rfl,pa,_,rfl,.inl (zJ.of (s2 _ _ hpa)),x,md,n,bs.length,(by rw [lp]; rfl),hx.same s2,TO.mok md (List.mem_of_getElem? hmd),λH3 s3=>⟨?_,⟨_,rfl⟩,sm.trans s3⟩⟩
  rw [List.replicate_succ',List.map_append]
  rfl
 rintro ys σ H3 ⟨rfl,⟨o,rfl⟩,sm⟩ l hl
 refine ⟨l,List.replicate _ true,rfl,zJ.of zj,?_⟩
 rw [qW]
 exact q _ (s1.trans (sm.trans (zx hl _)))
theorem zEq {k:Nat} {f:Addr} {fd:FuncData} (F:yb K "__init__" "Thing.__init__" WV f fd) (B:Bl mg) (bp:Fn P w K mg base "is_sound" ["many","pushes","modes"] k (Xr ac)):zU P w K mg base yG (k + 1) f fd ["self","many","pushes","modes"] (Xs af ac):=by
 refine F.ok zEg ?_ ?_
 ·rintro vs H Q E ⟨o,dx,pa,ma,pv,mv,n,bs,ms,rfl,_⟩
  rfl
 rintro cdv A outer s H vs Q E hr ⟨o,dx,pa,ma,pv,mv,n,bs,ms,rfl,ho,hpa,hpv,hma,hmv,TO,q⟩
 refine ⟨_,(zW (yq (wS (xW (zk bp hr rfl (zD (zC 1) (zD (zC 2) (zD (zC 3) zI)))))) (zY ZL) yt)
  (zW (yq (PW.pt (uE (xX (yU qC) (ym yw rfl B.len_ wZ (zD (zC 2) zI)) (Zq rfl B.MOST_PUSHES_) (yu _)) (uL (xX (yU qC) (ym yw rfl B.len_ wZ (zD (zC 3) zI)) (Zq rfl B.MOST_MODES_) (yu _))))) (zY ZL) yt)
  (zW (jU (zC 0) (zC 1) rfl)
  (zW (jU (zC 0) (xn vP rfl B.list_ wJ (zD (zC 2) zI)) rfl)
  (zY (jU (zC 0) (xn vP rfl B.list_ wJ (zD (zC 3) zI)) rfl)))))),?_⟩
 try dsimp only [zP,Cx.nox,Cx.wish]
 have b6:=TO.b6
 have m40:=TO.m40
 have lp:pv.length=bs.length:=Paired.length hpv
 have lm:mv.length=ms.length:=Paired.length hmv
 refine ⟨_,rfl,_,rfl,_,rfl,pa,ma,pv,mv,n,bs,ms,rfl,hpa,hpv,hma,hmv,TO,λH1 s1=>?_⟩
 refine ⟨_,rfl,yn ?_⟩
 refine ⟨_,rfl,pa,_,rfl,.inl (zJ.of (s1 _ _ hpa)),_,_,rfl,rfl,_,rfl,xA (decide_eq_false (show ¬ ((pv.length:Int) > 6) by omega)) ?_⟩
 refine ⟨_,rfl,ma,_,rfl,.inl (zJ.of (s1 _ _ hma)),_,_,rfl,rfl,_,rfl,xA (decide_eq_false (show ¬ ((mv.length:Int) > 40) by omega)) ?_⟩
 have ho1:=s1 _ _ ho
 refine ⟨_,rfl,_,rfl,o,af,dx,_,rfl,ho1,ah.cl,ai.n_many,(by show 0 < 1000; decide),?_⟩
 have NI:∀ (fs:List (Str × V)) (l:List V),HO.lst l≠.ins af dx fs:=λ_ _ z=>by cases z
 have e2:=zj (H:=H1) (a:=o) (o:=HO.ins af dx (zS "many" (.int (n:Int)) []))
 have T2:xL o H1 (upd H1 o (HO.ins af dx (zS "many" (.int (n:Int)) []))):=uH o H1 _
 obtain ⟨H2,hH2⟩:∃ H2,H2=upd H1 o (HO.ins af dx (zS "many" (.int (n:Int)) [])):=⟨_,rfl⟩
 rw [<- hH2] at e2 T2 |-
 have hpa2:=keepB ho1 T2 (s1 _ _ hpa) (NI _ _)
 have hma2:=keepB ho1 T2 (s1 _ _ hma) (NI _ _)
 refine ⟨_,rfl,pa,pv,rfl,.inl (zJ.of hpa2),λkp hkp=>?_⟩
 have z3:=zx hkp (HO.lst pv)
 have ekp:=zj (H:=H2) (a:=kp) (o:=HO.lst pv)
 have G2:xL o H H2:=(zG.but s1).trans T2
 have nkp:=qX G2 e2 hkp
 obtain ⟨H3,hH3⟩:∃ H3,H3=upd H2 kp (HO.lst pv):=⟨_,rfl⟩
 rw [<- hH3] at z3 ekp |-
 refine ⟨_,rfl,o,af,dx,_,rfl,(z3 _ _ e2),ah.cl,ai.n_kept_pushes,(by show 1 < 1000; decide),?_⟩
 have e4:=zj (H:=H3) (a:=o) (o:=HO.ins af dx (zS "kept_pushes" (.ref kp) (zS "many" (.int (n:Int)) [])))
 have T4:xL o H3 (upd H3 o (HO.ins af dx (zS "kept_pushes" (.ref kp) (zS "many" (.int (n:Int)) [])))):=uH o H3 _
 obtain ⟨H4,hH4⟩:∃ H4,H4=upd H3 o (HO.ins af dx (zS "kept_pushes" (.ref kp) (zS "many" (.int (n:Int)) []))):=⟨_,rfl⟩
 rw [<- hH4] at e4 T4 |-
 have e23:=z3 _ _ e2
 have hma4:=keepB e23 T4 (z3 _ _ hma2) (NI _ _)
 have hkp4:=keepB e23 T4 ekp (NI _ _)
 refine ⟨_,rfl,ma,mv,rfl,.inl (zJ.of hma4),λkm hkm=>?_⟩
 have z5:=zx hkm (HO.lst mv)
 have ekm:=zj (H:=H4) (a:=km) (o:=HO.lst mv)
 have G4:xL o H H4:=G2.trans ((zG.but z3).trans T4)
 have nkm:=qX G4 e4 hkm
 have nkk:kp≠km:=wx hkp4 hkm
 obtain ⟨H5,hH5⟩:∃ H5,H5=upd H4 km (HO.lst mv):=⟨_,rfl⟩
 rw [<- hH5] at z5 ekm |-
 have e45:=z5 _ _ e4
 refine ⟨_,rfl,o,af,dx,_,rfl,(z5 _ _ e4),ah.cl,ai.n_kept_modes,(by show 2 < 1000; decide),?_⟩
 have T6:xL o H5 (upd H5 o (HO.ins af dx (zS "kept_modes" (.ref km) (zS "kept_pushes" (.ref kp) (zS "many" (.int (n:Int)) []))))):=uH o H5 _
 exact q kp km _ (G4.trans ((zG.but z5).trans T6)) nkp nkm nkk zj (keepB e45 T6 (z5 _ _ hkp4) (NI _ _)) (keepB e45 T6 ekm (NI _ _))
theorem zFt {k:Nat} {f:Addr} {fd:FuncData} (F:yb K "pushes" "Thing.pushes" WW f fd) (B:Bl mg):zU P w K mg base yG (k + 1) f fd ["self"] (Z1 af ac):=by
 refine F.ok zFf ?_ ?_
 ·rintro vs H Q E ⟨o,kp,km,n,bs,ms,pv,mv,rfl,_⟩
  rfl
 rintro cdv A outer s H vs Q E hr ⟨o,kp,km,n,bs,ms,pv,mv,rfl,TA,q⟩
 refine ⟨_,(zY (yH (xn vP rfl B.list_ wJ (zD (xm (zC 0) rfl) zI)))),?_⟩
 try dsimp only [zP,Cx.nox,Cx.wish]
 obtain ⟨dx,ins⟩:=TA.ins
 refine ⟨_,rfl,o,af,dx,_,_,rfl,ins,ah.cl,ai.n_kept_pushes,rfl,kp,pv,rfl,.inl (zJ.of TA.hp),λl hl=>?_⟩
 exact q l _ (zx hl _) hl zj
theorem zGO {k:Nat} {f:Addr} {fd:FuncData} (F:yb K "modes" "Thing.modes" WX f fd) (B:Bl mg):zU P w K mg base yG (k + 1) f fd ["self"] (Z2 af ac):=by
 refine F.ok zGL ?_ ?_
 ·rintro vs H Q E ⟨o,kp,km,n,bs,ms,pv,mv,rfl,_⟩
  rfl
 rintro cdv A outer s H vs Q E hr ⟨o,kp,km,n,bs,ms,pv,mv,rfl,TA,q⟩
 refine ⟨_,(zY (yH (xn vP rfl B.list_ wJ (zD (xm (zC 0) rfl) zI)))),?_⟩
 try dsimp only [zP,Cx.nox,Cx.wish]
 obtain ⟨dx,ins⟩:=TA.ins
 refine ⟨_,rfl,o,af,dx,_,_,rfl,ins,ah.cl,ai.n_kept_modes,rfl,km,mv,rfl,.inl (zJ.of TA.hm),λl hl=>?_⟩
 exact q l _ (zx hl _) hl zj
theorem zEp {k:Nat} {f:Addr} {fd:FuncData} (F:yb K "is_plain" "Thing.is_plain" WY f fd) (B:Bl mg):zU P w K mg base yG (k + 1) f fd ["self"] (Xu af ac):=by
 refine F.ok zEf ?_ ?_
 ·rintro vs H Q E ⟨o,kp,km,n,bs,ms,pv,mv,rfl,_⟩
  rfl
 rintro cdv A outer s H vs Q E hr ⟨o,kp,km,n,bs,ms,pv,mv,rfl,TA,TO,q⟩
 refine ⟨_,(zY (yH (ud (uP vc (ym yw rfl B.len_ wZ (zD (xm (zC 0) rfl) zI)) zK (yu _)) (jh (uP vc (ym yw rfl B.len_ wZ (zD (xm (zh yi (xm (zC 0) rfl) zK (λ_ _=>rfl)) rfl) zI)) zK (yu _)))))),?_⟩
 try dsimp only [zP,Cx.nox,Cx.wish]
 obtain ⟨dx,ins⟩:=TA.ins
 have m1:=TO.m1
 have lm:mv.length=ms.length:=Paired.length TA.hmv
 have hv:mv[0]? = some (mv[0]'(by omega)):=List.getElem?_eq_getElem _
 obtain ⟨md,hmd,ob,M,e0,k0⟩:=xU TA.hmv hv
 have av:yk mv (0:Int)=some (.ref ob):=um (j:=0) (hv.trans (by rw [e0]))
 have lrv:M.rv.length=md.rows.length:=Paired.length k0.hrv
 have eg:(ms.map MD.rows).getD 0 []=md.rows:=by rw [List.getD_eq_getElem?_getD,List.getElem?_map,hmd]; rfl
 rw [eg] at q
 refine ⟨_,rfl,o,af,dx,_,_,rfl,ins,ah.cl,ai.n_kept_modes,rfl,km,_,rfl,.inl (zJ.of TA.hm),rfl,_,rfl,?_⟩
 by_cases c:ms.length=1
 ·refine xo (jE (by omega)) ?_
  refine ⟨_,rfl,o,af,dx,_,_,rfl,ins,ah.cl,ai.n_kept_modes,rfl,km,_,0,_,rfl,rfl,zJ.of TA.hm,av,ob,ac,M.dx,_,_,rfl,k0.ins,ae.cl,ag.n_rows,rfl,M.r,_,rfl,.inl (zJ.of k0.hr),rfl,?_⟩
  have z:decide (V.int (M.rv.length:Int)=V.int 0)=decide (md.rows=[]):=by
   rw [zMs]
   by_cases h:md.rows=[]
   ·rw [decide_eq_true h,decide_eq_true (by rw [lrv,h]; rfl)]
   ·have:md.rows.length≠0:=λy=>h (List.length_eq_zero_iff.mp y)
    rw [decide_eq_false h,decide_eq_false (by omega)]
  rw [decide_eq_true c,Bool.true_and,<- z] at q
  exact q
 ·refine xA (vk (by omega)) ?_
  rw [decide_eq_false c,Bool.false_and] at q
  exact q
end
inductive WZ (vs:List V) (H:Hp) (Q:VK) (E:XK):Prop
 | mk (pl wd nu:Int) (_:vs=[.int pl,.int wd,.int nu]) (_:0<=wd) (_:wd<=100) (_:∀ l H',zG H H'->H l=none->H' l=some (.lst ((uf pl wd.toNat nu).map V.int))->Q (.ref l) H'):WZ vs H Q E
inductive Wa (vs:List V) (H:Hp) (Q:VK) (E:XK):Prop
 | mk (pl wd nu b:Int) (_:vs=[.int pl,.int wd,.int nu,.int b]) (_:1<=wd) (_:wd<=100) (_:∀ t H',zG H H'->H t=none->H' t=some (.tup ((uf pl wd.toNat nu++[b]).map V.int))->Q (.ref t) H'):Wa vs H Q E
inductive kZ (K:PySem.W.Frag) (vs:List V) (H:Hp) (Q:VK) (E:XK):Prop
 | mk (a b:Addr) (ns os:List Int) (_:vs=[.ref a,.ref b]) (_:vq K H a (ns.map V.int)) (_:vq K H b (os.map V.int)) (_:ns.length=os.length) (_:ns.length<=100) (_:(∀ x∈ns,Bd 2500 x)) (_:(∀ x∈os,Bd 2500 x)) (_:∀ H',zG H H'->Q (.int (yj ns os)) H'):kZ K vs H Q E
theorem Wb:∀ (ns os:List Int),((ns.zip os).map λq=>q.1 * q.2).sum=yj ns os
 | [],_=>by simp [yj]
 | _ :: _,[]=>by simp [yj]
 | n :: ns,o :: os=>by simp only [List.zip_cons_cons,List.map_cons,List.sum_cons,yj,Wb ns os]
structure qZ (nums:List Int) (ls:List (List Int)) (n:Nat):Prop where
 len:nums.length=ls.length
 row:∀ r∈ls,r.length=n/\∀ x∈r,Bd 2500 x
 num:∀ x∈nums,Bd 2500 x
 few:nums.length<=100
inductive Wc (K:PySem.W.Frag) (vs:List V) (H:Hp) (Q:VK) (E:XK):Prop
 | mk (na rm:Addr) (nums:List Int) (rv:List V) (ls:List (List Int)) (w:Int) (_:vs=[.ref na,.ref rm,.int w]) (_:0<=w) (_:w<=100) (_:vq K H na (nums.map V.int)) (_:zJ K H rm rv) (_:zX H rv ls) (_:qZ nums ls w.toNat) (_:∀ l H',zG H H'->H l=none->H' l=some (.lst (((List.range w.toNat).map (zu nums ls)).map V.int))->Q (.ref l) H'):Wc K vs H Q E
def gI (n p:Nat) (ws:List Int) (b:Int) (m:MD):List Int:=((List.range n).map (zu ws m.nexts)++(List.range p).map (zu ws m.push))++[m.div * b - yj ws m.add]
structure We (m:MD):Prop where
 nexts:∀ r∈m.nexts,∀ x∈r,Bd 2500 x
 push:∀ r∈m.push,∀ x∈r,Bd 2500 x
 add:∀ x∈m.add,Bd 2500 x
 div:Bd 2500 m.div
inductive YE (C CM:Addr) (vs:List V) (H:Hp) (Q:VK) (E:XK):Prop
 | mk (o kp km ra:Addr) (n:Nat) (bs:List (Int × Int)) (ms:List MD) (pv mv:List V) (v:V) (m:MD) (ws:List Int) (b:Int) (_:vs=[.ref o,v,.ref ra]) (_:yr C CM H o n bs ms pv mv kp km) (_:wn CM H v m) (_:wO m n bs.length) (_:We m) (_:1<=n) (_:n<=3) (_:bs.length<=6) (_:H ra=some (.tup (zo ws b))) (_:ws.length=n) (_:(∀ x∈ws,Bd 2500 x)) (_:Bd 2500 b) (_:∀ t H',zG H H'->H t=none->H' t=some (.tup ((gI n bs.length ws b m).map V.int))->Q (.ref t) H'):YE C CM vs H Q E
section
variable {P:Program} {w:World} {K:PySem.W.Frag} {mg:Str->Option Value} {base:Heap}
abbrev YF:Stmt:=yh 16
theorem zNX:ya ["place","wide","number"] ["place","wide","number"] (ze YF):=.a
abbrev Wf:Stmt:=yh 23
theorem zKw:ya ["place","many","number","bound"] ["place","many","number","bound"] (ze Wf):=.a
abbrev Wg:Stmt:=yh 18
theorem zKx:ya ["numbers","others"] ["numbers","others"] (ze Wg):=.a
abbrev YG:Stmt:=yh 19
theorem zII:ya ["numbers","lists","wide"] ["numbers","lists","wide"] (ze YG):=.a
abbrev Wi:Stmt:=yh 32
theorem Wj:ya ["thing","mode","row","numbers","ahead"] ["thing","mode","row"] (ze Wi):=.a
variable {ac af:Addr} (ae:yJ K mg "Mode" ac) (ag:wr K ac) (ah:yJ K mg "Thing" af) (ai:wt K af)
include ae ag ah ai
theorem zNj {k:Nat} {f:Addr} {fd:FuncData} {dv:Value} (F:wF K "unit" "unit" YF f fd dv) (B:Bl mg):zU P w K mg base yG (k + 1) f fd ["place","wide","number"] WZ:=by
 refine F.ok zNX ?_ ?_
 ·rintro vs H Q E ⟨pl,wd,nu,rfl,_⟩
  rfl
 rintro cdv A outer s H vs Q E hr ⟨pl,wd,nu,rfl,w0,w1,q⟩
 refine ⟨_,(zY (yH (xu (own:=["other"]) (caps:=[(0,"place"),(2,"number")]) (wD (S:=ze YF) (N:=["place","wide","number"]) ⟨_,rfl⟩) rfl (wX rfl B.range_ (zD (zC 1) zI)) (λ_ _ _ _=>zr (i:=0) (show (["other","place","number"]:List Str).Nodup by decide +kernel) rfl (Or.inl rfl)) (λ_ _ _ _=>(JC (xX vc (zC 0) (zC 1) (yu _)) (zC 2) zK))))),?_⟩
 try dsimp only [zP,Cx.nox,Cx.wish]
 refine ⟨_,rfl,wd,rfl,(by omega),(by omega),jC (lo:=0) (n:=wd.toNat)
  (λj ys σ H'=>ys=(uf pl j nu).map V.int/\(∃ o,σ=[o,some (.int pl),some (.int nu)])/\H'=H)
  ⟨rfl,⟨none,rfl⟩,rfl⟩ (λj ys σ H' ⟨e,_⟩=>by rw [e,List.length_map,X2]; exact Nat.le_refl _) (yd (by omega)) ?_ ?_⟩
 ·rintro j ys σ H' hj ⟨rfl,⟨o,rfl⟩,rfl⟩
  refine ⟨_,rfl,_,rfl,rfl,_,rfl,?_⟩
  by_cases e:(j:Int)=pl
  ·refine xo (decide_eq_true (by rw [<- e,Int.zero_add])) ?_
   refine ⟨_,rfl,?_,⟨_,rfl⟩,rfl⟩
   rw [Qy,if_pos e,List.map_append]
   rfl
  ·refine xA (decide_eq_false (λz=>e (by injection z; omega))) ?_
   refine ⟨?_,⟨_,rfl⟩,rfl⟩
   rw [Qy,if_neg e,List.map_append]
   rfl
 rintro ys σ H' ⟨rfl,⟨o,rfl⟩,rfl⟩ l hl
 exact q l _ (zx hl _) hl zj
theorem zLD {k:Nat} {f:Addr} {fd:FuncData} (F:yb K "single" "single" Wf f fd) (B:Bl mg) (bq:vi P w K mg base "unit" ["place","wide","number"] k WZ (.int 1)):zU P w K mg base yG (k + 1) f fd ["place","many","number","bound"] Wa:=by
 refine F.ok zKw ?_ ?_
 ·rintro vs H Q E ⟨pl,wd,nu,b,rfl,_⟩
  rfl
 rintro cdv A outer s H vs Q E hr ⟨pl,wd,nu,b,rfl,w0,w1,q⟩
 refine ⟨_,(zY (yH (zV jp (xn wM rfl B.tuple_ vK (zD (zk bq.fn hr rfl (zD (zC 0) (zD (zC 1) (zD (zC 2) zI)))) zI)) (xy (zD (zC 3) zI))))),?_⟩
 try dsimp only [zP,Cx.nox,Cx.wish]
 refine ⟨_,rfl,_,rfl,_,rfl,pl,wd,nu,rfl,(by omega),w1,λl H1 s1 nl el=>?_⟩
 refine ⟨l,_,rfl,.inl ⟨zJ.of el,λt ht=>?_⟩⟩
 refine ⟨_,rfl,wQ,λt2 ht2=>?_⟩
 have ne:(uf pl wd.toNat nu).map V.int≠[]:=λz=>by
  have:=congrArg List.length z
  rw [List.length_map,X2] at this
  simp at this
  omega
 refine ⟨t,t2,_,_,rfl,rfl,zT.of (zx ht2 _ _ _ zj),zT.of zj,ne,?_,(λz=>nomatch z),λ_ p hp=>?_⟩
 ·rw [List.length_map,X2]
  exact yd ((by simp; omega))
 have S3:=(s1.trans (zx ht _)).trans (zx ht2 (HO.tup [V.int b]))
 refine q p _ (S3.trans (zx hp _)) (S3.free hp) (zj.trans ?_)
 rw [List.map_append]
 rfl
theorem zLE {k:Nat} {f:Addr} {fd:FuncData} (F:yb K "paired" "paired" Wg f fd) (B:Bl mg):zU P w K mg base yG (k + 1) f fd ["numbers","others"] (kZ K):=by
 refine F.ok zKx ?_ ?_
 ·rintro vs H Q E ⟨a,b,ns,os,rfl,_⟩
  rfl
 rintro cdv A outer s H vs Q E hr ⟨a,b,ns,os,rfl,ha,hb,ln,l1,bn,bo,q⟩
 refine ⟨_,(zY (yH (ym (Qa rfl) rfl B.sum_ QY (zD (xu (own:=["number","other"]) (caps:=[]) (uZ rfl) rfl (qQ rfl B.zip_ (zD (zC 0) (zD (zC 1) zI))) (λ_ _ _ _=>show PG _ _ (uN K 2 (ul (uF 0) (ul (uF 1) uM))) from vb (n:=2) rfl (yp (zr (i:=0) (show (["number","other"]:List Str).Nodup by decide +kernel) rfl (Or.inl rfl)) (yp (zr (i:=1) (show (["number","other"]:List Str).Nodup by decide +kernel) rfl (Or.inl rfl)) va))) (λ_ _ _ _=>(zV (ji yy) (zC 0) (zC 1)))) zI)))),?_⟩
 try dsimp only [zP,Cx.nox,Cx.wish]
 refine ⟨_,rfl,_,rfl,a,b,rfl,Zz (K:=K) (a:=a) (b:=b) (xs:=ns.map V.int) (ys:=os.map V.int) ha hb
  (λi zs σ H'=>zs=(((ns.zip os).take i).map λq=>q.1 * q.2).map V.int/\(∃ o1 o2,σ=[o1,o2])/\zG H H')
  ⟨rfl,⟨none,none,rfl⟩,zG.refl _⟩ (λi zs σ H' hi ⟨e1,_,sm⟩=>⟨sm,by rw [e1,List.length_map,List.length_map,List.length_take]; exact Nat.min_le_left _ _⟩) (by rw [List.length_map,List.length_map,ln]; exact Nat.le_refl _) (by rw [List.length_map]; exact yd (by omega)) ?_ ?_⟩
 ·rintro i x y T zs σ H' hx hy hT ⟨rfl,⟨o1,o2,rfl⟩,sm⟩
  obtain ⟨x0,hx0,rfl⟩:=vn hx
  obtain ⟨y0,hy0,rfl⟩:=vn hy
  have s2:=sm.trans (zx hT (HO.tup [V.int x0,V.int y0]))
  refine ⟨T,_,rfl,zT.of zj,rfl,_,_,rfl,_,_,rfl,rfl,?_⟩
  refine ⟨_,rfl,_,rfl,_,_,rfl,rfl,⟨(bn _ (List.mem_of_getElem? hx0)).mono,(bo _ (List.mem_of_getElem? hy0)).mono⟩,?_,⟨_,_,rfl⟩,s2⟩
  have hz:(ns.zip os)[i]? = some (x0,y0):=by rw [List.getElem?_zip_eq_some]; exact ⟨hx0,hy0⟩
  rw [xH hz,List.map_append,List.map_append]
  rfl
 rintro zs σ H' ⟨rfl,⟨o1,o2,rfl⟩,sm⟩ l hl
 refine ⟨l,_,rfl,zJ.of zj,?_⟩
 rw [List.take_of_length_le (by rw [List.length_zip,List.length_map]; omega),Wb]
 exact q _ (sm.trans (zx hl _))
theorem zIg {k:Nat} {f:Addr} {fd:FuncData} (F:yb K "added_up" "added_up" YG f fd) (B:Bl mg):zU P w K mg base yG (k + 1) f fd ["numbers","lists","wide"] (Wc K):=by
 refine F.ok zII ?_ ?_
 ·rintro vs H Q E ⟨na,rm,nums,rv,ls,w,rfl,_⟩
  rfl
 rintro cdv A outer s H vs Q E hr ⟨na,rm,nums,rv,ls,w,rfl,w0,w1,hna,hrm,hrv,RN,q⟩
 refine ⟨_,(zY (yH (xu (own:=["place"]) (caps:=[(0,"numbers"),(1,"lists")]) (wD (S:=ze YG) (N:=["numbers","lists","wide"]) ⟨_,rfl⟩) rfl (wX rfl B.range_ (zD (zC 2) zI)) (λ_ _ _ _=>zr (i:=0) (show (["place","numbers","lists"]:List Str).Nodup by decide +kernel) rfl (Or.inr rfl)) (λ_ _ _ _=>(ym (show vC _ _ (λxs H Q=>∃ (p:Addr) (ns:List Int),xs=[V.ref p]/\zJ K H p (ns.map V.int)/\Q (V.int ns.sum) H) from Qa rfl) rfl B.sum_ QY (zD (xu (own:=["number","part"]) (caps:=[(0,"place")]) (zO4 rfl (by decide +kernel) (by decide +kernel) (by decide +kernel) (by decide +kernel)) rfl (show PI _ _ _ (Qk K _) from qQ rfl B.zip_ (zD (zC 1) (zD (zC 2) zI))) (λ_ _ _ _=>show PG _ _ (uN K 2 (ul (uF 0) (ul (uF 1) uM))) from vb (n:=2) rfl (yp (zr (i:=0) (show (["number","part","place"]:List Str).Nodup by decide +kernel) rfl (Or.inl rfl)) (yp (zr (i:=1) (show (["number","part","place"]:List Str).Nodup by decide +kernel) rfl (Or.inl rfl)) va))) (λ_ _ _ _=>(zV (ji yy) (zC 0) (zh (show wT _ (we (zJ K)) from yi) (zC 1) (zC 2) (λ_ _=>rfl))))) zI)))))),?_⟩
 try dsimp only [zP,Cx.nox,Cx.wish]
 have lr:rv.length=ls.length:=Paired.length hrv
 have ln:=RN.len
 have lf:=RN.few
 refine ⟨_,rfl,w,rfl,(by omega),(by omega),jC (lo:=0) (n:=w.toNat)
  (λi ys σ H'=>ys=((List.range i).map (zu nums ls)).map V.int/\(∃ o,σ=[o,some (.ref na),some (.ref rm)])/\zG H H')
  ⟨rfl,⟨none,rfl⟩,zG.refl _⟩ (λi ys σ H' ⟨e1,_,_⟩=>by rw [e1,List.length_map,List.length_map,List.length_range]; omega) (yd (by omega)) ?_ ?_⟩
 ·rintro j ys σ H1 hj ⟨rfl,⟨o,rfl⟩,sm⟩
  have hrm5:=sm.seq hrm
  have hrv5:=zX.same sm hrv
  have hna5:=hna.same sm
  refine ⟨_,rfl,_,rfl,na,rm,rfl,Zz (K:=K) (a:=na) (b:=rm) (xs:=nums.map V.int) (ys:=rv) hna5 (.inr hrm5)
   (λi zs σ H'=>zs=(((nums.zip ls).take i).map (λp=>p.1 * p.2.getD j 0)).map V.int/\(∃ o1 o2,σ=[o1,o2,some (.int (0 + (j:Int)))])/\zG H1 H')
   ⟨rfl,⟨none,none,rfl⟩,zG.refl _⟩ (λi zs σ H' hi ⟨e1,_,s5⟩=>⟨s5,by rw [e1,List.length_map,List.length_map,List.length_take]; omega⟩)
   (by rw [List.length_map,lr,ln]; exact Nat.le_refl _) (by rw [List.length_map]; exact yd (by omega)) ?_ ?_⟩
  ·rintro i x y T zs σ H' hx hy hT ⟨rfl,⟨o1,o2,rfl⟩,s5⟩
   obtain ⟨z,hz,rfl⟩:=vn hx
   obtain ⟨r,hr',a,rfl,ea⟩:=xU hrv5 hy
   obtain ⟨rl,rb⟩:=RN.row r (List.mem_of_getElem? hr')
   have s6:=s5.trans (zx hT (HO.tup [V.int z,V.ref a]))
   have hp:=zOW (n:=w.toNat - 1) (r:=r) (by omega) (j:=j) (by omega)
   have ap:yk (r.map V.int) (0 + (j:Int))=some (.int (r.getD j 0)):=(by rw [Int.zero_add]; exact um (by rw [List.getElem?_map,hp]; rfl))
   refine ⟨T,_,rfl,zT.of zj,rfl,_,_,rfl,_,_,rfl,rfl,?_⟩
   refine ⟨_,rfl,_,rfl,_,rfl,a,_,_,_,rfl,rfl,zJ.of (s6 _ _ ea),ap,_,_,rfl,rfl,⟨(RN.num _ (List.mem_of_getElem? hz)).mono,(rb _ (List.mem_of_getElem? hp)).mono⟩,?_⟩
   refine ⟨?_,⟨_,_,rfl⟩,s6⟩
   have zg:(nums.zip ls)[i]? = some (z,r):=by rw [List.getElem?_zip_eq_some]; exact ⟨hz,hr'⟩
   rw [xH zg,List.map_append,List.map_append]
   rfl
  rintro zs σ H' ⟨rfl,⟨o1,o2,rfl⟩,s5⟩ l hl
  have eS:(((nums.zip ls).take (nums.map V.int).length).map (λp=>p.1 * p.2.getD j 0)).sum=zu nums ls j:=by
   rw [List.take_of_length_le (by rw [List.length_zip,List.length_map]; omega)]
   rfl
  refine ⟨l,_,rfl,zJ.of zj,?_⟩
  rw [eS]
  refine ⟨?_,⟨_,rfl⟩,sm.trans (s5.trans (zx hl _))⟩
  rw [List.range_succ,List.map_append,List.map_append]
  rfl
 rintro ys σ H' ⟨rfl,⟨o,rfl⟩,sm⟩ l hl
 exact q l _ (sm.trans (zx hl _)) (sm.free hl) zj
theorem zMY {k:Nat} {f:Addr} {fd:FuncData} (F:yb K "reach" "reach" Wi f fd) (B:Bl mg) (aU:Fn P w K mg base "added_up" ["numbers","lists","wide"] k (Wc K)) (aG:jG P w K mg base af "pushes" ["self"] k (Z1 af ac)) (az:Fn P w K mg base "paired" ["numbers","others"] k (kZ K)):zU P w K mg base yG (k + 1) f fd ["thing","mode","row"] (YE af ac):=by
 refine F.ok Wj ?_ ?_
 ·rintro vs H Q E ⟨o,kp,km,ra,n,bs,ms,pv,mv,v,m,ws,b,rfl,_⟩
  rfl
 rintro cdv A outer s H vs Q E hr ⟨o,kp,km,ra,n,bs,ms,pv,mv,v,m,ws,b,rfl,TA,⟨om,M,rfl,k0⟩,MO,MB,n1,n3,b6,hra,lw,bw,bb,q⟩
 have hrm:=hr
 refine ⟨_,(zW (zy (i:=3) Wj.nd rfl (Or.inl rfl) (vO uA (zC 2) v7 (vD (xD xE zK))))
  (zW (zy (i:=4) Wj.nd rfl (Or.inl rfl) (zV xh (zk aU hr rfl (zD (zC 3) (zD (xm (zC 1) rfl) (zD (xm (zC 0) rfl) zI)))) (zk aU hr rfl (zD (zC 3) (zD (xm (zC 1) rfl) (zD (ym yw rfl B.len_ wZ (zD (kK aG ah hrm (zC 0)) zI)) zI))))))
  (zY (yH (zV jp (xn wM rfl B.tuple_ vK (zD (zC 4) zI)) (xy (zD (zV (yU wz) (zV (ji yy) (xm (zC 1) rfl) (zh yc (zC 2) (xD xE zK) (λ_ _=>rfl))) (zk az hr rfl (zD (zC 3) (zD (xm (zC 1) rfl) zI)))) zI))))))),?_⟩
 try dsimp only [zP,Cx.nox,Cx.wish]
 obtain ⟨dx,ins⟩:=TA.ins
 have ec:yY (zo ws b) none (some (-1))=ws.map V.int:=qL _ _
 have lp:pv.length=bs.length:=Paired.length TA.hpv
 refine ⟨_,rfl,_,rfl,_,rfl,ra,_,rfl,zT.of hra,jD _ _,λp1 hp1=>?_⟩
 rw [ec]
 obtain ⟨G1,hG1,s1,e1⟩:=zw (HO.tup (ws.map V.int)) hp1
 rw [hG1]
 have NL:qZ ws m.nexts ((n:Int)).toNat:=⟨by rw [lw,MO.nexts.1],λr hr'=>⟨by rw [MO.nexts.2 r hr']; omega,MB.nexts r hr'⟩,bw,by omega⟩
 have NP:qZ ws m.push ((pv.length:Nat):Int).toNat:=⟨by rw [lw,MO.push.1],λr hr'=>⟨by rw [MO.push.2 r hr',lp]; omega,MB.push r hr'⟩,bw,by omega⟩
 refine ⟨_,rfl,_,rfl,om,ac,M.dx,_,_,rfl,(s1 _ _ k0.ins),ae.cl,ag.n_nexts,rfl,_,rfl,o,af,dx,_,_,rfl,(s1 _ _ ins),ah.cl,ai.n_many,rfl,p1,M.n,ws,M.nv,m.nexts,(n:Int),rfl,(by omega),(by omega),.inl (zT.of e1),zJ.of (s1 _ _ k0.hn),zX.same s1 k0.hnv,NL,λl1 G2 s2 n2 el1=>?_⟩
 have s12:=s1.trans s2
 refine ⟨_,rfl,_,rfl,om,ac,M.dx,_,_,rfl,(s12 _ _ k0.ins),ae.cl,ag.n_push,rfl,_,rfl,o,dx,_,rfl,(s12 _ _ ins),rfl,o,kp,km,n,bs,ms,pv,mv,rfl,TA.same s12,λl2 G3 s3 _ el2=>?_⟩
 have s13:=s12.trans s3
 refine ⟨l2,_,rfl,.inl (zJ.of el2),?_⟩
 refine ⟨p1,M.p,ws,M.pv,m.push,_,rfl,(by omega),(by omega),.inl (zT.of ((s2.trans s3) _ _ e1)),zJ.of (s13 _ _ k0.hp),zX.same s13 k0.hpv,NP,λl3 G4 s4 _ el3=>?_⟩
 have s14:=s13.trans s4
 refine ⟨l1,l3,_,_,rfl,rfl,(s3.trans s4) _ _ el1,el3,?_,λp4 hp4=>?_⟩
 ·simp only [List.length_map,List.length_range]
  exact yd (by omega)
 rw [<- List.map_append]
 have s5:=zx hp4 (HO.lst (((List.range (n:Int).toNat).map (zu ws m.nexts)++(List.range ((pv.length:Nat):Int).toNat).map (zu ws m.push)).map V.int))
 have e4:=zj (H:=G4) (a:=p4) (o:=HO.lst (((List.range (n:Int).toNat).map (zu ws m.nexts)++(List.range ((pv.length:Nat):Int).toNat).map (zu ws m.push)).map V.int))
 have s15:=s14.trans s5
 refine ⟨_,rfl,p4,_,rfl,.inl ⟨zJ.of e4,λt5 ht5=>?_⟩⟩
 have s6:=zx ht5 (HO.tup (((List.range (n:Int).toNat).map (zu ws m.nexts)++(List.range ((pv.length:Nat):Int).toNat).map (zu ws m.push)).map V.int))
 have e5:=zj (H:=upd G4 p4 (HO.lst (((List.range (n:Int).toNat).map (zu ws m.nexts)++(List.range ((pv.length:Nat):Int).toNat).map (zu ws m.push)).map V.int))) (a:=t5) (o:=HO.tup (((List.range (n:Int).toNat).map (zu ws m.nexts)++(List.range ((pv.length:Nat):Int).toNat).map (zu ws m.push)).map V.int))
 have s16:=s15.trans s6
 have sP:=(s2.trans s3).trans (s4.trans (s5.trans s6))
 refine ⟨_,rfl,om,ac,M.dx,_,_,rfl,(s16 _ _ k0.ins),ae.cl,ag.n_divisor,rfl,_,rfl,_,rfl,ra,_,_,_,rfl,rfl,zT.of (s16 _ _ hra),ue _ _,_,_,rfl,rfl,⟨MB.div.mono,bb.mono⟩,?_⟩
 refine ⟨_,rfl,_,rfl,om,ac,M.dx,_,_,rfl,(s16 _ _ k0.ins),ae.cl,ag.n_add,rfl,p1,M.a,ws,m.add,rfl,.inl (zT.of (sP _ _ e1)),.inr (zJ.of (s16 _ _ k0.ha)),(by rw [lw,MO.add]),(by omega),bw,MB.add,λG6 s7=>?_⟩
 have s17:=s16.trans s7
 refine ⟨_,_,rfl,rfl,wQ,λt7 ht7=>?_⟩
 refine ⟨t5,t7,_,_,rfl,rfl,zT.of (zx ht7 _ _ _ (s7 _ _ e5)),zT.of zj,(λz=>?_),?_,(λz=>nomatch z),λ_ p8 hp8=>?_⟩
 ·have:=congrArg List.length z
  simp at this
  omega
 ·simp only [List.length_map,List.length_append,List.length_range]
  exact yd ((by simp; omega))
 have s18:=s17.trans (zx ht7 (HO.tup [V.int (m.div * b - yj ws m.add)]))
 refine q p8 _ (s18.trans (zx hp8 _)) (s18.free hp8) (zj.trans ?_)
 show some (HO.tup (_++[V.int (m.div * b - yj ws m.add)]))=_
 unfold gI
 simp only [List.map_append,lp,Int.toNat_natCast]
 rfl
end
theorem Q6 (xs:List V) (v:V) {n:Nat} (h:n<=xs.length):yY (xs++[v]) (some (n:Int)) (some (-1))=xs.drop n/\¬ (HT.sIx (xs++[v]).length 0 (some (n:Int))=0/\HT.sIx (xs++[v]).length (xs++[v]).length (some (-1))=(xs++[v]).length):=by
 have e1:HT.sIx (xs++[v]).length 0 (some (n:Int))=n:=by
  have:HT.sIx (xs++[v]).length 0 (some (n:Int))=min n (xs++[v]).length:=HT.sIx_nat _ 0 n
  rw [List.length_append] at this |-
  exact this.trans (by omega)
 have e2:HT.sIx (xs++[v]).length (xs++[v]).length (some (-1))=xs.length:=by
  show (if (-1:Int) < 0 then ((-1:Int) + ((xs++[v]).length:Int)).toNat else min (-1:Int).toNat (xs++[v]).length)=xs.length
  rw [if_pos (by decide),List.length_append,List.length_singleton]
  omega
 constructor
 ·unfold yY
  rw [e1,e2,List.drop_append_of_le_length h,List.take_append_of_le_length (by rw [List.length_drop]; omega),List.take_of_length_le (by rw [List.length_drop]; omega)]
 ·rintro ⟨_,a⟩
  rw [e2,List.length_append,List.length_singleton] at a
  omega
theorem zLz (xs:List V) {n:Nat} (h:n < xs.length):yY xs none (some (n:Int))=xs.take n/\¬ (HT.sIx xs.length 0 none=0/\HT.sIx xs.length xs.length (some (n:Int))=xs.length):=by
 have e1:HT.sIx xs.length 0 none=0:=rfl
 have e2:HT.sIx xs.length xs.length (some (n:Int))=n:=by
  have:HT.sIx xs.length xs.length (some (n:Int))=min n xs.length:=HT.sIx_nat _ _ n
  exact this.trans (by omega)
 constructor
 ·unfold yY
  rw [e1,e2,List.drop_zero,Nat.sub_zero]
 ·rintro ⟨_,a⟩
  rw [e2] at a
  omega
theorem ka (xs:List V) (u v:V):yY (xs++[u,v]) none (some (-2))=xs/\¬ (HT.sIx (xs++[u,v]).length 0 none=0/\HT.sIx (xs++[u,v]).length (xs++[u,v]).length (some (-2))=(xs++[u,v]).length):=by
 have e1:HT.sIx (xs++[u,v]).length 0 none=0:=rfl
 have l:(xs++[u,v]).length=xs.length + 2:=by rw [List.length_append]; rfl
 have e2:HT.sIx (xs++[u,v]).length (xs++[u,v]).length (some (-2))=xs.length:=by
  show (if (-2:Int) < 0 then ((-2:Int) + ((xs++[u,v]).length:Int)).toNat else min (-2:Int).toNat (xs++[u,v]).length)=xs.length
  rw [if_pos (by decide),l]
  omega
 constructor
 ·unfold yY
  rw [e1,e2]
  simp
 ·rintro ⟨_,a⟩
  rw [e2,l] at a
  omega
def vF (us:List Int) (bs:List (Int × Int)):List Int:=(us.zip bs).map λq=>if q.1 > 0 then q.2.2 else q.2.1
theorem YH {us:List Int} {bs:List (Int × Int)} (h:us.length=bs.length):(vF us bs).length=us.length:=by
 unfold vF
 rw [List.length_map,List.length_zip,<- h,Nat.min_self]
theorem Q7 {us:List Int} {bs:List (Int × Int)} {n:Nat} (h:∀ b∈bs,Bd n b.1/\Bd n b.2):∀ x∈vF us bs,Bd n x:=λx hx=>by
 obtain ⟨q,hq,rfl⟩:=List.mem_map.mp hx
 obtain ⟨h1,h2⟩:=h q.2 (List.of_mem_zip hq).2
 show Bd n (if q.1 > 0 then q.2.2 else q.2.1)
 split
 ·exact h2
 ·exact h1
def xQ (f:Int) (ns:List Int) (g:Int) (os:List Int):List Int:=(ns.zip os).map λq=>f * q.1 + g * q.2
inductive Wk (K:PySem.W.Frag) (vs:List V) (H:Hp) (Q:VK) (E:XK):Prop
 | mk (f g:Int) (a b:Addr) (ns os:List Int) (_:vs=[.int f,.ref a,.int g,.ref b]) (_:vq K H a (ns.map V.int)) (_:vq K H b (os.map V.int)) (_:ns.length=os.length) (_:ns.length<=100) (_:Bd 5000 f) (_:Bd 5000 g) (_:(∀ x∈ns,Bd 5000 x)) (_:(∀ x∈os,Bd 5000 x)) (_:∀ l H',zG H H'->H l=none->H' l=some (.lst ((xQ f ns g os).map V.int))->Q (.ref l) H'):Wk K vs H Q E
inductive YI (C CM:Addr) (vs:List V) (H:Hp) (Q:VK) (E:XK):Prop
 | mk (o kp km ra:Addr) (n:Nat) (bs:List (Int × Int)) (ms:List MD) (pv mv:List V) (ws us:List Int) (b:Int) (_:vs=[.ref o,.ref ra]) (_:yr C CM H o n bs ms pv mv kp km) (_:H ra=some (.tup (zo (ws++us) b))) (_:ws.length=n) (_:us.length=bs.length) (_:bs.length<=12) (_:∀ l H',zG H H'->H l=none->H' l=some (.lst ((vF us bs).map V.int))->Q (.ref l) H'):YI C CM vs H Q E
inductive Wl (C CM:Addr) (vs:List V) (H:Hp) (Q:VK) (E:XK):Prop
 | mk (o kp km ra:Addr) (n:Nat) (bs:List (Int × Int)) (ms:List MD) (pv mv:List V) (ws us:List Int) (b:Int) (_:vs=[.ref o,.ref ra]) (_:yr C CM H o n bs ms pv mv kp km) (_:H ra=some (.tup (zo (ws++us) b))) (_:ws.length=n) (_:1<=n) (_:n<=3) (_:us.length=bs.length) (_:bs.length<=12) (_:(∀ x∈us,Bd 2500 x)) (_:(∀ b∈bs,Bd 2500 b.1/\Bd 2500 b.2)) (_:∀ t H',zG H H'->H t=none->H' t=some (.tup (zo ws (b - yj us (vF us bs))))->Q (.ref t) H'):Wl C CM vs H Q E
section
variable {P:Program} {w:World} {K:PySem.W.Frag} {mg:Str->Option Value} {base:Heap}
abbrev YJ:Stmt:=yh 17
theorem zMN:ya ["factor","numbers","other_factor","others"] ["factor","numbers","other_factor","others"] (ze YJ):=.a
abbrev Wm:Stmt:=yh 33
theorem zFb:ya ["thing","row"] ["thing","row"] (ze Wm):=.a
abbrev Wn:Stmt:=yh 34
theorem zEe:ya ["thing","row"] ["thing","row"] (ze Wn):=.a
variable {ac af:Addr} (ae:yJ K mg "Mode" ac) (ag:wr K ac) (ah:yJ K mg "Thing" af) (ai:wt K af)
include ae ag ah ai
theorem zMZ {k:Nat} {f:Addr} {fd:FuncData} (F:yb K "mixed" "mixed" YJ f fd) (B:Bl mg):zU P w K mg base yG (k + 1) f fd ["factor","numbers","other_factor","others"] (Wk K):=by
 refine F.ok zMN ?_ ?_
 ·rintro vs H Q E ⟨f,g,a,b,ns,os,rfl,_⟩
  rfl
 rintro cdv A outer s H vs Q E hr ⟨f,g,a,b,ns,os,rfl,ha,hb,ln,few,bf,bg,bn,bo,q⟩
 refine ⟨_,(zY (yH (xu (own:=["number","other"]) (caps:=[(0,"factor"),(2,"other_factor")]) (wD (S:=ze YJ) (N:=["factor","numbers","other_factor","others"]) ⟨_,rfl⟩) rfl (qQ rfl B.zip_ (zD (zC 1) (zD (zC 3) zI))) (λ_ _ _ _=>show PG _ _ (uN K 2 (ul (uF 0) (ul (uF 1) uM))) from vb (n:=2) rfl (yp (zr (i:=0) (show (["number","other","factor","other_factor"]:List Str).Nodup by decide +kernel) rfl (Or.inl rfl)) (yp (zr (i:=1) (show (["number","other","factor","other_factor"]:List Str).Nodup by decide +kernel) rfl (Or.inl rfl)) va))) (λ_ _ _ _=>(zV (yU yz) (zV (ji yy) (zC 2) (zC 0)) (zV (ji yy) (zC 3) (zC 1))))))),?_⟩
 try dsimp only [zP,Cx.nox,Cx.wish]
 refine ⟨_,rfl,_,rfl,a,b,rfl,Zz (K:=K) (a:=a) (b:=b) (xs:=ns.map V.int) (ys:=os.map V.int) ha hb
  (λi zs σ H'=>zs=(((ns.zip os).take i).map λq=>f * q.1 + g * q.2).map V.int/\(∃ o1 o2,σ=[o1,o2,some (.int f),some (.int g)])/\zG H H')
  ⟨rfl,⟨none,none,rfl⟩,zG.refl _⟩ (λi zs σ H' hi ⟨e1,_,sm⟩=>⟨sm,by rw [e1,List.length_map,List.length_map,List.length_take]; exact Nat.min_le_left _ _⟩) (by rw [List.length_map,List.length_map,ln]; exact Nat.le_refl _) (by rw [List.length_map]; exact yd (by omega)) ?_ ?_⟩
 ·rintro i x y T zs σ H' hx hy hT ⟨rfl,⟨o1,o2,rfl⟩,sm⟩
  obtain ⟨x0,hx0,rfl⟩:=vn hx
  obtain ⟨y0,hy0,rfl⟩:=vn hy
  have s2:=sm.trans (zx hT (HO.tup [V.int x0,V.int y0]))
  refine ⟨T,_,rfl,zT.of zj,rfl,_,_,rfl,_,_,rfl,rfl,?_⟩
  refine ⟨_,rfl,_,rfl,_,_,rfl,rfl,⟨bf.mono,(bn _ (List.mem_of_getElem? hx0)).mono⟩,_,rfl,_,rfl,_,_,rfl,rfl,⟨bg.mono,(bo _ (List.mem_of_getElem? hy0)).mono⟩,_,_,rfl,rfl,?_,⟨_,_,rfl⟩,s2⟩
  have hz:(ns.zip os)[i]? = some (x0,y0):=by rw [List.getElem?_zip_eq_some]; exact ⟨hx0,hy0⟩
  rw [xH hz,List.map_append,List.map_append]
  rfl
 rintro zs σ H' ⟨rfl,⟨o1,o2,rfl⟩,sm⟩ l hl
 refine q l _ (sm.trans (zx hl _)) (sm.free hl) (zj.trans ?_)
 rw [List.take_of_length_le (by rw [List.length_zip,List.length_map]; omega)]
 rfl
theorem zFr {k:Nat} {f:Addr} {fd:FuncData} (F:yb K "worst_pushes" "worst_pushes" Wm f fd) (B:Bl mg) (aG:jG P w K mg base af "pushes" ["self"] k (Z1 af ac)):zU P w K mg base yG (k + 1) f fd ["thing","row"] (YI af ac):=by
 refine F.ok zFb ?_ ?_
 ·rintro vs H Q E ⟨o,kp,km,ra,n,bs,ms,pv,mv,ws,us,b,rfl,_⟩
  rfl
 rintro cdv A outer s H vs Q E hr ⟨o,kp,km,ra,n,bs,ms,pv,mv,ws,us,b,rfl,TA,hra,lw,lu,b12,q⟩
 have hrm:=hr
 refine ⟨_,(zY (yH (xu (own:=["number","push"]) (caps:=[]) (uZ rfl) rfl (qQ rfl B.zip_ (zD (vO uA (zC 1) (vD (xm (zC 0) rfl)) (vD (xD xE zK))) (zD (kK aG ah hrm (zC 0)) zI))) (λ_ _ _ _=>show PG _ _ (uN K 2 (ul (uF 0) (ul (uF 1) uM))) from vb (n:=2) rfl (yp (zr (i:=0) (show (["number","push"]:List Str).Nodup by decide +kernel) rfl (Or.inl rfl)) (yp (zr (i:=1) (show (["number","push"]:List Str).Nodup by decide +kernel) rfl (Or.inl rfl)) va))) (λ_ _ _ _=>(JC (xX (yU qC) (zC 0) zK (yu _)) (zh (show wT _ (we (zT K)) from yc) (zC 1) zK (λ_ _=>rfl)) (zh (show wT _ (we (zT K)) from yc) (zC 1) zK (λ_ _=>rfl))))))),?_⟩
 try dsimp only [zP,Cx.nox,Cx.wish]
 obtain ⟨dx,ins⟩:=TA.ins
 have lpv:pv.length=bs.length:=Paired.length TA.hpv
 obtain ⟨ec,nw⟩:=Q6 ((ws++us).map V.int) (.int b) (n:=n) (by rw [List.length_map,List.length_append]; omega)
 have ed:((ws++us).map V.int).drop n=us.map V.int:=by rw [<- List.map_drop,<- lw,List.drop_left]
 rw [ed] at ec
 refine ⟨_,rfl,_,rfl,o,af,dx,_,_,rfl,ins,ah.cl,ai.n_many,rfl,_,rfl,_,rfl,_,rfl,ra,_,rfl,zT.of hra,nw,λp1 hp1=>?_⟩
 have ec':yY (zo (ws++us) b) (some (n:Int)) (some (-1))=us.map V.int:=ec
 rw [ec']
 obtain ⟨G1,hhG1,yG1,ep1⟩:=zw (HO.tup (us.map V.int)) hp1
 rw [hhG1]
 have SG1:=yG1
 refine ⟨_,rfl,o,dx,_,rfl,(SG1 _ _ ins),rfl,o,kp,km,n,bs,ms,pv,mv,rfl,(yr.same SG1 TA),λl2 G9 s9 _ el2=>?_⟩
 have SG2:=SG1.trans s9
 replace ep1:=(s9 _ _ ep1)
 have hpv9:Paired (wq G9) pv bs:=Paired.mapP TA.hpv λ_ _ z=>z.same SG2
 refine ⟨p1,l2,rfl,Zz (K:=K) (a:=p1) (b:=l2) (xs:=us.map V.int) (ys:=pv) (.inl (zT.of ep1)) (.inr (zJ.of el2))
  (λi zs σ H'=>zs=((vF us bs).take i).map V.int/\(∃ o1 o2,σ=[o1,o2])/\zG G9 H')
  ⟨rfl,⟨none,none,rfl⟩,zG.refl _⟩ (λi zs σ H' hi ⟨e1,_,sm⟩=>⟨sm,by rw [e1,List.length_map,List.length_take]; exact Nat.min_le_left _ _⟩) (by rw [List.length_map]; omega) (by rw [List.length_map]; exact yd (by omega)) ?_ ?_⟩
 ·rintro i x y T zs σ H' hx hy hT ⟨rfl,⟨o1,o2,rfl⟩,sm⟩
  obtain ⟨u,hu,rfl⟩:=vn hx
  obtain ⟨c,hc,a,rfl,ea⟩:=xU hpv9 hy
  have s2:=sm.trans (zx hT (HO.tup [V.int u,V.ref a]))
  have eA:=s2 _ _ ea
  have hz:(vF us bs)[i]? = some (if u > 0 then c.2 else c.1):=by
   unfold vF
   have hzp:(us.zip bs)[i]? = some (u,c):=by rw [List.getElem?_zip_eq_some]; exact ⟨hu,hc⟩
   rw [List.getElem?_map,hzp]
   rfl
  refine ⟨T,_,rfl,zT.of zj,rfl,_,_,rfl,_,_,rfl,rfl,?_⟩
  refine ⟨_,rfl,_,_,rfl,rfl,_,rfl,?_⟩
  by_cases k:u > 0
  ·refine xo (decide_eq_true k) ?_
   refine ⟨_,rfl,a,_,1,_,rfl,rfl,zT.of eA,w4,?_,⟨_,_,rfl⟩,s2⟩
   rw [xH hz,if_pos k,List.map_append]
   rfl
  ·refine xA (decide_eq_false k) ?_
   refine ⟨_,rfl,a,_,0,_,rfl,rfl,zT.of eA,vm,?_,⟨_,_,rfl⟩,s2⟩
   rw [xH hz,if_neg k,List.map_append]
   rfl
 rintro zs σ H' ⟨rfl,⟨o1,o2,rfl⟩,sm⟩ l hl
 refine q l _ (SG2.trans (sm.trans (zx hl _))) ((SG2.trans sm).free hl) (zj.trans ?_)
 rw [List.take_of_length_le (by rw [YH lu,List.length_map]; exact Nat.le_refl _)]
theorem zEm {k:Nat} {f:Addr} {fd:FuncData} (F:yb K "without_pushes" "without_pushes" Wn f fd) (B:Bl mg) (az:Fn P w K mg base "paired" ["numbers","others"] k (kZ K)) (aH:Fn P w K mg base "worst_pushes" ["thing","row"] k (YI af ac)):zU P w K mg base yG (k + 1) f fd ["thing","row"] (Wl af ac):=by
 refine F.ok zEe ?_ ?_
 ·rintro vs H Q E ⟨o,kp,km,ra,n,bs,ms,pv,mv,ws,us,b,rfl,_⟩
  rfl
 rintro cdv A outer s H vs Q E hr ⟨o,kp,km,ra,n,bs,ms,pv,mv,ws,us,b,rfl,TA,hra,lw,n1,n3,lu,b12,bu,bb,q⟩
 refine ⟨_,(zY (yH (zV jp (vO uA (zC 1) v7 (vD (xm (zC 0) rfl))) (xy (zD (zV (yU wz) (zh yc (zC 1) (xD xE zK) (λ_ _=>rfl)) (zk az hr rfl (zD (vO uA (zC 1) (vD (xm (zC 0) rfl)) (vD (xD xE zK))) (zD (zk aH hr rfl (zD (zC 0) (zD (zC 1) zI))) zI)))) zI))))),?_⟩
 try dsimp only [zP,Cx.nox,Cx.wish]
 obtain ⟨dx,ins⟩:=TA.ins
 obtain ⟨ec,nw⟩:=Q6 ((ws++us).map V.int) (.int b) (n:=n) (by rw [List.length_map,List.length_append]; omega)
 have ed:((ws++us).map V.int).drop n=us.map V.int:=by rw [<- List.map_drop,<- lw,List.drop_left]
 rw [ed] at ec
 have lr:n < (zo (ws++us) b).length:=by
  unfold zo
  rw [List.length_append,List.length_map,List.length_append,List.length_singleton]
  omega
 obtain ⟨ec2,nw2⟩:=zLz (zo (ws++us) b) lr
 have et:(zo (ws++us) b).take n=ws.map V.int:=by
  unfold zo
  rw [List.map_append,List.append_assoc,<- lw,<- List.length_map (f:=V.int),List.take_left]
 rw [et] at ec2
 have ec':yY (zo (ws++us) b) (some (n:Int)) (some (-1))=us.map V.int:=ec
 refine ⟨_,rfl,_,rfl,o,af,dx,_,_,rfl,ins,ah.cl,ai.n_many,rfl,_,rfl,ra,_,rfl,zT.of hra,nw2,λp1 hp1=>?_⟩
 rw [ec2]
 obtain ⟨G1,hhG1,yG1,ep1⟩:=zw (HO.tup (ws.map V.int)) hp1
 rw [hhG1]
 have SG1:=yG1
 refine ⟨_,rfl,_,rfl,ra,_,_,_,rfl,rfl,zT.of (SG1 _ _ hra),ue _ _,?_⟩
 refine ⟨_,rfl,_,rfl,o,af,dx,_,_,rfl,(SG1 _ _ ins),ah.cl,ai.n_many,rfl,_,rfl,_,rfl,_,rfl,ra,_,rfl,zT.of (SG1 _ _ hra),nw,λp2 hp2=>?_⟩
 rw [ec']
 obtain ⟨G2,hhG2,yG2,ep2⟩:=zw (HO.tup (us.map V.int)) hp2
 rw [hhG2]
 have SG2:=SG1.trans yG2
 replace ep1:=(yG2 _ _ ep1)
 refine ⟨_,rfl,_,rfl,o,kp,km,ra,n,bs,ms,pv,mv,ws,us,b,rfl,(yr.same SG2 TA),(SG2 _ _ hra),lw,lu,b12,λl3 G7 s7 _ el3=>?_⟩
 have SG3:=SG2.trans s7
 replace ep1:=(s7 _ _ ep1)
 replace ep2:=(s7 _ _ ep2)
 refine ⟨p2,l3,us,vF us bs,rfl,.inl (zT.of ep2),.inr (zJ.of el3),(YH lu).symm,(by omega),bu,Q7 bb,λG8 s8=>?_⟩
 have SG4:=SG3.trans s8
 replace ep1:=(s8 _ _ ep1)
 refine ⟨_,_,rfl,rfl,wQ,λt2 ht2=>?_⟩
 obtain ⟨G5,hhG5,yG5,et2⟩:=zw (HO.tup [V.int (b - yj us (vF us bs))]) ht2
 rw [hhG5]
 have SG5:=SG4.trans yG5
 replace ep1:=(yG5 _ _ ep1)
 have ne:ws.map V.int≠[]:=λz=>by
  have h:=congrArg List.length z
  rw [List.length_map,lw] at h
  have h0:n=0:=h
  omega
 refine ⟨p1,t2,_,_,rfl,rfl,zT.of ep1,zT.of et2,ne,(by rw [List.length_map]; exact yd ((by show ws.length + 1<=1000; omega))),(λz=>nomatch z),λ_ p hp=>?_⟩
 exact q p _ (SG5.trans (zx hp _)) (SG5.free hp) zj
end
def Wo (n:Nat) (bs:List (Int × Int)) (m:MD) (r:List Int × Int):List Int:=(List.range n).map (zu r.1 m.nexts)++[yj r.1 m.steer,(m.div * r.2 - yj r.1 m.add) - yj ((List.range bs.length).map (zu r.1 m.push)) (vF ((List.range bs.length).map (zu r.1 m.push)) bs)]
def Wp (n:Nat) (bs:List (Int × Int)) (m:MD) (lo hi:Int) (rows:List (List Int × Int)):List (List Int):=rows.map (Wo n bs m)++[uf (n:Int) (n + 1) 1++[hi],uf (n:Int) (n + 1) (-1)++[-lo]]
inductive YK (C CM:Addr) (vs:List V) (H:Hp) (Q:VK) (E:XK):Prop
 | mk (o kp km rm:Addr) (n:Nat) (bs:List (Int × Int)) (m:MD) (pv mv rv:List V) (lo hi:Int) (rows:List (List Int × Int)) (_:vs=[.ref o,.ref rm,.int lo,.int hi]) (_:yr C CM H o n bs [m] pv mv kp km) (_:wH n bs [m]) (_:We m) (_:(∀ x∈m.steer,Bd 2500 x)) (_:(∀ b∈bs,Bd 2500 b.1/\Bd 2500 b.2)) (_:H rm=some (.lst rv)) (_:yI H rv rows) (_:gH rows n) (_:rows.length<=60) (_:(∀ r∈rows,∀ x∈(List.range bs.length).map (zu r.1 m.push),Bd 2500 x)) (_:∀ l lv H',zG H H'->H l=none->H' l=some (.lst lv)->xC H' lv (Wp n bs m lo hi rows)->Q (.ref l) H'):YK C CM vs H Q E
theorem Q8 {H:Hp} {l:Addr} {xs:List V} (hl:H l=some (.lst xs)) {v:V} {k:List Int} (h:Tp H v (k.map V.int)):Tp (hide [l] H) v (k.map V.int):=by
 obtain ⟨r,e,q⟩:=h
 exact ⟨r,e,(wV λz=>by rw [List.mem_singleton.mp z,hl] at q; cases q).trans q⟩
section
variable {P:Program} {w:World} {K:PySem.W.Frag} {mg:Str->Option Value} {base:Heap}
abbrev Wq:Stmt:=yh 52
theorem kd:ya ["thing","room","low","high","mode","told","row","ahead"] ["thing","room","low","high"] (ze Wq):=.a
variable {ac af:Addr} (ae:yJ K mg "Mode" ac) (ag:wr K ac) (ah:yJ K mg "Thing" af) (ai:wt K af)
include ae ag ah ai
theorem zE3 {k:Nat} {f:Addr} {fd:FuncData} (F:yb K "steering_rows" "steering_rows" Wq f fd) (B:Bl mg) (aI:jG P w K mg base af "modes" ["self"] k (Z2 af ac)) (bA:Fn P w K mg base "without_pushes" ["thing","row"] k (Wl af ac)) (aJ:Fn P w K mg base "reach" ["thing","mode","row"] k (YE af ac)) (az:Fn P w K mg base "paired" ["numbers","others"] k (kZ K)) (aV:Fn P w K mg base "single" ["place","many","number","bound"] k Wa):zU P w K mg base yG (k + 1) f fd ["thing","room","low","high"] (YK af ac):=by
 refine F.ok kd ?_ ?_
 ·rintro vs H Q E ⟨o,kp,km,rm,n,bs,m,pv,mv,rv,lo,hi,rows,rfl,_⟩
  rfl
 rintro cdv A outer s H vs Q E hr ⟨o,kp,km,rm,n,bs,m,pv,mv,rv,lo,hi,rows,rfl,TA,TO,MB,BS,BB,hroom,hrv,RO,r60,BP,q⟩
 have hrm:=hr
 refine ⟨_,(zW (zy (i:=4) kd.nd rfl (Or.inl rfl) (zh yi (kK aI ah hrm (zC 0)) zK (λ_ _=>rfl)))
  (zW (zy (i:=5) kd.nd rfl (Or.inl rfl) (xF zI))
  (zW (wI PassesOwn.never rfl (xr (zC 1)) (zr (i:=6) kd.nd rfl (Or.inl rfl)) (zW (zy (i:=7) kd.nd rfl (Or.inl rfl) (zk bA hr rfl (zD (zC 0) (zD (zk aJ hr rfl (zD (zC 0) (zD (zC 4) (zD (zC 6) zI)))) zI))))
   (zY (vB (vI PySem.F.plainAttrs_list PySem.F.slot_list_append PySem.F.type_list_append xP (zC 5) (zD (zV jp (vO uA (zC 7) v7 (vD (xD xE zK))) (xy (zD (zk az hr rfl (zD (vO uA (zC 6) v7 (vD (xD xE zK))) (zD (xm (zC 4) rfl) zI))) (zD (zh yc (zC 7) (xD xE zK) (λ_ _=>rfl)) zI)))) zI))))))
  (zY (yH (zV xh (zC 5) (xF (zD (zk aV hr rfl (zD (xm (zC 0) rfl) (zD (zV (yU yz) (xm (zC 0) rfl) zK) (zD zK (zD (zC 3) zI))))) (zD (zk aV hr rfl (zD (xm (zC 0) rfl) (zD (zV (yU yz) (xm (zC 0) rfl) zK) (zD (xD xE zK) (zD (xD xE (zC 2)) zI))))) zI))))))))),?_⟩
 try dsimp only [zP,Cx.nox,Cx.wish]
 obtain ⟨dx,ins⟩:=TA.ins
 have n1:=TO.n1
 have n3:=TO.n3
 have b6:=TO.b6
 have MO:=TO.mok m (List.mem_singleton.mpr rfl)
 have lrv:rv.length=rows.length:=Paired.length hrv
 have hmv:=TA.hmv
 obtain ⟨v0,emv⟩:∃ v0,mv=[v0]:=by
  have:=Paired.length hmv
  match mv,this with
  | [x],_=>exact ⟨x,rfl⟩
 subst emv
 have hM0:wn ac H v0 m:=by
  cases hmv with
  | cons h _=>exact h
 refine ⟨_,rfl,o,dx,_,rfl,ins,rfl,o,kp,km,n,bs,_,pv,_,rfl,TA,λl1 J1 y1 _ el1=>?_⟩
 have SG1:=y1
 refine ⟨l1,_,0,v0,rfl,rfl,zJ.of el1,rfl,?_⟩
 refine ⟨vL,λfl hfl=>?_⟩
 have nfl:H fl=none:=y1.free hfl
 obtain ⟨J2,hhJ2,y2,ef2⟩:=zw (HO.lst []) hfl
 rw [hhJ2]
 have s2:=y1.trans (ug hfl y2)
 refine ⟨_,rfl,rm,rfl,⟨_,zJ.of ((y1.trans y2) _ _ hroom)⟩,jR (K:=K) (a:=rm) (xs:=rv)
  (λi σ H'=>∃ (tv:List V) (o6 o7:Option V),σ=[some (.ref o),some (.ref rm),some (.int lo),some (.int hi),some v0,some (.ref fl),o6,o7]/\zG H (hide [fl] H')/\H' fl=some (.lst tv)/\xC (hide [fl] H') tv ((rows.take i).map (Wo n bs m)))
  ⟨[],none,none,rfl,s2,ef2,.nil⟩ (λi σ H' _ ⟨_,_,_,_,sm,_⟩=>zJ.of (yx _ _ (sm _ _ hroom))) ?_ ?_⟩
 ·rintro i x σ H' hix ⟨tv,o6,o7,rfl,sm,ef,htv⟩
  obtain ⟨⟨ws,b⟩,hrow,a,rfl,ea0⟩:=xU hrv hix
  obtain ⟨W,bb⟩:=RO _ (List.mem_of_getElem? hrow)
  have lw:ws.length=n:=W.len
  have bP:∀ x∈(List.range bs.length).map (zu ws m.push),Bd 2500 x:=BP _ (List.mem_of_getElem? hrow)
  have il:i < rows.length:=(List.getElem?_eq_some_iff.mp hrow).1
  have sj:=sm.trans yx
  have lA:((List.range n).map (zu ws m.nexts)).length=n:=by rw [List.length_map,List.length_range]
  have lP:((List.range bs.length).map (zu ws m.push)).length=bs.length:=by rw [List.length_map,List.length_range]
  have eR:(gI n bs.length ws b m).map V.int=zo ((List.range n).map (zu ws m.nexts)++(List.range bs.length).map (zu ws m.push)) (m.div * b - yj ws m.add):=by
   unfold gI zo
   rw [List.map_append]
   rfl
  refine ⟨_,rfl,_,rfl,_,rfl,_,rfl,o,kp,km,a,n,bs,[m],pv,_,v0,m,ws,b,rfl,TA.same sj,wn.same sj hM0,MO,MB,n1,n3,(by omega),sj _ _ ea0,lw,(λx hx=>(W.bd x hx).mono),bb.mono,λt1 M1 z1 _ et1=>?_⟩
  rw [eR] at et1
  have SL1:=sj.trans z1
  replace ef:=(z1 _ _ ef)
  refine ⟨o,kp,km,t1,n,bs,[m],pv,_,_,_,_,rfl,TA.same SL1,et1,lA,n1,n3,lP,(by omega),bP,BB,λt2 M2 z2 _ et2=>?_⟩
  have SL2:=SL1.trans z2
  replace ef:=(z2 _ _ ef)
  generalize hB:(m.div * b - yj ws m.add) - yj ((List.range bs.length).map (zu ws m.push)) (vF ((List.range bs.length).map (zu ws m.push)) bs)=B9 at et2
  have ec:yY (zo ((List.range n).map (zu ws m.nexts)) B9) none (some (-1))=((List.range n).map (zu ws m.nexts)).map V.int:=qL _ _
  refine ⟨_,rfl,.inl ⟨rfl,_,zJ.of ef⟩,_,rfl,_,rfl,_,rfl,t2,_,rfl,zT.of et2,jD _ _,λp1 hp1=>?_⟩
  rw [ec]
  obtain ⟨L3,hhL3,yL3,ep1⟩:=zw (HO.tup (((List.range n).map (zu ws m.nexts)).map V.int)) hp1
  rw [hhL3]
  have SL3:=SL2.trans yL3
  replace ef:=(yL3 _ _ ef)
  replace et2:=(yL3 _ _ et2)
  have ec2:yY (zo ws b) none (some (-1))=ws.map V.int:=qL _ _
  refine ⟨_,rfl,_,rfl,_,rfl,a,_,rfl,zT.of (SL3 _ _ ea0),jD _ _,λp2 hp2=>?_⟩
  rw [ec2]
  obtain ⟨L4,hhL4,yL4,ep2⟩:=zw (HO.tup (ws.map V.int)) hp2
  rw [hhL4]
  have SL4:=SL3.trans yL4
  replace ef:=(yL4 _ _ ef)
  replace et2:=(yL4 _ _ et2)
  replace ep1:=(yL4 _ _ ep1)
  obtain ⟨om,M,rfl,k0⟩:=hM0
  refine ⟨_,rfl,om,ac,M.dx,_,_,rfl,(SL4 _ _ k0.ins),ae.cl,ag.n_steer,rfl,p2,M.s,ws,m.steer,rfl,.inl (zT.of ep2),.inr (zJ.of (SL4 _ _ k0.hs)),(by rw [lw,MO.steer]),(by omega),(λx hx=>(W.bd x hx).mono),BS,λM3 z3=>?_⟩
  have SL5:=SL4.trans z3
  replace ef:=(z3 _ _ ef)
  replace et2:=(z3 _ _ et2)
  replace ep1:=(z3 _ _ ep1)
  refine ⟨_,rfl,_,rfl,t2,_,_,_,rfl,rfl,zT.of et2,ue _ _,wf,λt3 ht3=>?_⟩
  obtain ⟨L6,hhL6,yL6,et3⟩:=zw (HO.tup [V.int (yj ws m.steer),V.int B9]) ht3
  rw [hhL6]
  have SL6:=SL5.trans yL6
  replace ef:=(yL6 _ _ ef)
  replace et2:=(yL6 _ _ et2)
  replace ep1:=(yL6 _ _ ep1)
  have ne:((List.range n).map (zu ws m.nexts)).map V.int≠[]:=λz=>by
   have h:=congrArg List.length z
   rw [List.length_map,lA] at h
   have h0:n=0:=h
   omega
  refine ⟨p1,t3,_,_,rfl,rfl,zT.of ep1,zT.of et3,ne,(by rw [List.length_map,lA]; exact yd ((by show n + 2<=1000; omega))),(λz=>nomatch z),λ_ p hp=>?_⟩
  obtain ⟨L7,hhL7,yL7,ep⟩:=zw (HO.tup (((List.range n).map (zu ws m.nexts)).map V.int++[V.int (yj ws m.steer),V.int B9])) hp
  rw [hhL7]
  have SL7:=SL6.trans yL7
  replace ef:=(yL7 _ _ ef)
  replace et2:=(yL7 _ _ et2)
  have ltv:=Paired.length htv
  rw [List.length_map,List.length_take] at ltv
  refine ⟨fl,tv,.ref p,rfl,rfl,ef,wY (by omega),?_⟩
  have np:p∉[fl]:=λz=>by rw [List.mem_singleton.mp z,ef] at ep; cases ep
  have h4:=(wC (B:=[fl]) (z1.trans (z2.trans (yL3.trans (yL4.trans (z3.trans (yL6.trans (yL7)))))))).trans (w6 (x:=fl) (HO.lst (tv++[V.ref p])))
  refine ⟨tv++[V.ref p],_,_,rfl,sm.trans h4,zj,?_⟩
  rw [xH hrow,List.map_append]
  refine xg (R:=λv (k:List Int)=>Tp _ v (k.map V.int)) ⟨p,rfl,w6 (x:=fl) _ _ _ ((wV np).trans (ep.trans ?_))⟩ (xC.same h4 htv)
  unfold Wo
  rw [hB,List.map_append]
  rfl
 rintro σ N0 ⟨tv,o6,o7,rfl,sm,ef,htv⟩
 rw [lrv,List.take_length] at htv
 have sj:=sm.trans yx
 replace htv:=xC.same yx htv
 refine ⟨_,rfl,_,rfl,o,af,dx,_,_,rfl,(sj _ _ ins),ah.cl,ai.n_many,rfl,_,rfl,o,af,dx,_,_,rfl,(sj _ _ ins),ah.cl,ai.n_many,rfl,_,_,rfl,rfl,_,rfl,(n:Int),(n:Int) + 1,1,hi,rfl,(by omega),(by omega),λt1 M1 z1 _ et1=>?_⟩
 have SN1:=sj.trans z1
 replace ef:=(z1 _ _ ef)
 replace htv:=(xC.same z1 htv)
 refine ⟨_,rfl,o,af,dx,_,_,rfl,(SN1 _ _ ins),ah.cl,ai.n_many,rfl,_,rfl,o,af,dx,_,_,rfl,(SN1 _ _ ins),ah.cl,ai.n_many,rfl,_,_,rfl,rfl,_,rfl,_,rfl,_,rfl,(n:Int),(n:Int) + 1,-1,-lo,rfl,(by omega),(by omega),λt2 M2 z2 _ et2=>?_⟩
 have SN2:=SN1.trans z2
 replace ef:=(z2 _ _ ef)
 replace htv:=(xC.same z2 htv)
 replace et1:=(z2 _ _ et1)
 refine ⟨wf,λl9 hl9=>?_⟩
 obtain ⟨N3,hhN3,yN3,el9⟩:=zw (HO.lst [V.ref t1,V.ref t2]) hl9
 rw [hhN3]
 have SN3:=SN2.trans yN3
 replace ef:=(yN3 _ _ ef)
 replace htv:=(xC.same yN3 htv)
 replace et1:=(yN3 _ _ et1)
 replace et2:=(yN3 _ _ et2)
 have ltv:=Paired.length htv
 rw [List.length_map] at ltv
 refine ⟨fl,l9,_,_,rfl,rfl,ef,el9,yd ((by show tv.length + 2<=1000; omega)),λc hc=>?_⟩
 have zc:=zx hc (HO.lst (tv++[V.ref t1,V.ref t2]))
 have en:((n:Int) + 1).toNat=n + 1:=by omega
 rw [en] at et1 et2
 refine q c _ _ (SN3.trans zc) (SN3.free hc) zj ?_
 exact ju (xC.same zc htv) (.cons ⟨t1,rfl,zc _ _ et1⟩ (.cons ⟨t2,rfl,zc _ _ et2⟩ .nil))
end
abbrev yL:=List Int × (Int × Int)
def vV (r:yL):List Int:=r.1++[r.2.1,r.2.2]
def jJ (rows:List yL):List (List Int × Int):=(rows.filter λr:yL=>decide (r.2.1=0)).map λr=>(r.1,r.2.2)
def vW (rows:List yL):List yL:=rows.filter λr:yL=>decide (r.2.1 > 0)
def xp (rows:List yL):List yL:=rows.filter λr:yL=>decide (r.2.1 < 0)
def jK (u l:yL):List Int × Int:=(xQ (-l.2.1) u.1 u.2.1 l.1,-l.2.1 * u.2.2 + u.2.1 * l.2.2)
def xK (rows:List yL):List (List Int × Int):=jJ rows++(vW rows).flatMap λu=>(xp rows).map (jK u)
theorem kf {α:Type} {p:α->Bool} {l:List α} {i:Nat} {x:α} (h:l[i]? = some x) (k:p x=true):(l.take (i + 1)).filter p=(l.take i).filter p++[x]:=by
 rw [xH h,List.filter_append,List.filter_cons_of_pos k]
 rfl
theorem kg {α:Type} {p:α->Bool} {l:List α} {i:Nat} {x:α} (h:l[i]? = some x) (k:p x=false):(l.take (i + 1)).filter p=(l.take i).filter p:=by
 rw [xH h,List.filter_append,List.filter_cons_of_neg (by rw [k]; decide),List.filter_nil,List.append_nil]
theorem kh (r:yL):(vV r).map V.int=r.1.map V.int++[.int r.2.1,.int r.2.2]:=by
 unfold vV
 rw [List.map_append]
 rfl
theorem qb (xs:List V) (u v:V):yk (xs++[u,v]) (-2)=some u:=by
 have e:xs++[u,v]=(xs++[u])++[v]:=by rw [List.append_assoc]; rfl
 have l:(xs++[u,v]).length=xs.length + 2:=by rw [List.length_append]; rfl
 have h:(xs++[u,v])[xs.length]? = some u:=by
  rw [List.getElem?_append_right (Nat.le_refl _),Nat.sub_self]
  rfl
 unfold yk jV
 rw [l]
 simp
 rw [if_pos (by omega)]
 show (xs++[u,v])[(-2 + ((xs.length:Int) + 2)).toNat]? = some u
 rw [show (-2 + ((xs.length:Int) + 2)).toNat=xs.length by omega]
 exact h
theorem Wr (xs:List V) (u v:V):yk (xs++[u,v]) (-1)=some v:=by
 have e:xs++[u,v]=(xs++[u])++[v]:=by rw [List.append_assoc]; rfl
 rw [e]
 exact ue _ _
theorem zOp {u l:yL} {f g:Int} (h:u.1.length=l.1.length):xQ f (vV u) g (vV l)=xQ f u.1 g l.1++[f * u.2.1 + g * l.2.1,f * u.2.2 + g * l.2.2]:=by
 unfold xQ vV
 rw [List.zip_append h,List.map_append]
 rfl
inductive Ws (vs:List V) (H:Hp) (Q:VK) (E:XK):Prop
 | mk (rm:Addr) (rv:List V) (n:Nat) (rows:List yL) (_:vs=[.ref rm]) (_:H rm=some (.lst rv)) (_:xC H rv (rows.map vV)) (_:(∀ r∈rows,r.1.length=n/\(∀ x∈r.1,Bd 5000 x)/\Bd 5000 r.2.1/\Bd 5000 r.2.2)) (_:1<=n) (_:n<=3) (_:rows.length<=62) (_:(xK rows).length<=990) (_:∀ l lv H',zG H H'->H l=none->H' l=some (.lst lv)->yI H' lv (xK rows)->Q (.ref l) H'):Ws vs H Q E
theorem zLT (rows:List yL) (i j:Nat) {u:yL} (hu:(vW rows)[i]? = some u):(jJ rows++(((vW rows).take i).flatMap λu=>(xp rows).map (jK u))++((xp rows).take j).map (jK u)).length<=(xK rows).length:=by
 have e:(vW rows)=(vW rows).take i++u :: (vW rows).drop (i + 1):=by
  have hi:=(List.getElem?_eq_some_iff.mp hu).1
  have eu:u=(vW rows)[i]:=((List.getElem?_eq_some_iff.mp hu).2).symm
  rw [eu,<- List.drop_eq_getElem_cons hi,List.take_append_drop]
 have l1:((xp rows).take j).length<=(xp rows).length:=by rw [List.length_take]; exact Nat.min_le_right _ _
 unfold xK
 conv=>rhs; rw [e]
 rw [List.flatMap_append,List.flatMap_cons]
 simp only [List.length_append,List.length_map]
 omega
theorem ki {rows:List yL} {n:Nat} {p:yL->Bool} (h:∀ r∈rows,r.1.length=n/\(∀ x∈r.1,Bd 5000 x)/\Bd 5000 r.2.1/\Bd 5000 r.2.2):∀ r∈rows.filter p,r.1.length=n/\(∀ x∈vV r,Bd 5000 x)/\Bd 5000 r.2.1:=λr hr=>by
 obtain ⟨h1,h2,h3,h4⟩:=h r (List.mem_filter.mp hr).1
 refine ⟨h1,λx hx=>?_,h3⟩
 rcases List.mem_append.mp hx with hx | hx
 ·exact h2 x hx
 ·rcases List.mem_cons.mp hx with rfl | hx
  ·exact h3
  ·rw [List.mem_singleton.mp hx]
   exact h4
theorem gJ {v:V} {rv:List V} {H:Hp} {rows:List yL} {i:Nat} (h:xC H rv (rows.map vV)) (e:rv[i]? = some v):∃ (r:yL) (a:Addr),rows[i]? = some r/\v=.ref a/\H a=some (.tup (r.1.map V.int++[.int r.2.1,.int r.2.2])):=by
 obtain ⟨r0,hr0,a,rfl,ea0⟩:=xU h e
 rw [List.getElem?_map] at hr0
 cases e:rows[i]? with
 | none=>rw [e] at hr0; cases hr0
 | some r=>
  rw [e] at hr0
  rw [<- Option.some.inj hr0,kh] at ea0
  exact ⟨r,a,rfl,rfl,ea0⟩
theorem Q9 {H:Hp} {l:Addr} {xs:List V} (hl:H l=some (.lst xs)) {v:V} {k:List Int × Int} (h:jI H v k):jI (hide [l] H) v k:=by
 obtain ⟨r,e,q⟩:=h
 exact ⟨r,e,(wV λz=>by rw [List.mem_singleton.mp z,hl] at q; cases q).trans q⟩
section
variable {P:Program} {w:World} {K:PySem.W.Frag} {mg:Str->Option Value} {base:Heap}
abbrev Wt:Stmt:=yh 53
theorem qc:ya ["rows","told","uppers","lowers","upper","lower","both"] ["rows"] (ze Wt):=.a
variable {ac af:Addr} (ae:yJ K mg "Mode" ac) (ag:wr K ac) (ah:yJ K mg "Thing" af) (ai:wt K af)
include ae ag ah ai
theorem zD2 {k:Nat} {f:Addr} {fd:FuncData} (F:yb K "without_steering" "without_steering" Wt f fd) (B:Bl mg) (bB:Fn P w K mg base "mixed" ["factor","numbers","other_factor","others"] k (Wk K)):zU P w K mg base yG (k + 1) f fd ["rows"] Ws:=by
 refine F.ok qc ?_ ?_
 ·rintro vs H Q E ⟨rm,rv,n,rows,rfl,_⟩
  rfl
 rintro cdv A outer s H vs Q E hr ⟨rm,rv,n,rows,rfl,hrm0,hrv,RO,n1,n3,r62,z990,q⟩
 refine ⟨_,(zW (Zo (i:=1) qc.nd rfl rfl (own:=["row"]) (caps:=[]) (uZ rfl) rfl (xr (zC 0)) (λ_ _ _ _=>zr (i:=0) (show (["row"]:List Str).Nodup by decide +kernel) rfl (Or.inl rfl)) (λ_ _ _ _=>(xX vc (zh (show wT _ (we (zT K)) from yc) (zC 0) (xD xE zK) (λ_ _=>rfl)) zK (yu _))) (λ_ _ _ _=>(zV (show xj _ _ (Jl K) from jp) (vO (show qu _ (qS K) from uA) (zC 0) v7 (vD (xD xE zK))) (xy (zD (zh (show wT _ (we (zT K)) from yc) (zC 0) (xD xE zK) (λ_ _=>rfl)) zI)))) rfl)
  (zW (Zo (i:=2) qc.nd rfl rfl (own:=["row"]) (caps:=[]) (uZ rfl) rfl (xr (zC 0)) (λ_ _ _ _=>zr (i:=0) (show (["row"]:List Str).Nodup by decide +kernel) rfl (Or.inl rfl)) (λ_ _ _ _=>(xX (yU qC) (zh (show wT _ (we (zT K)) from yc) (zC 0) (xD xE zK) (λ_ _=>rfl)) zK (yu _))) (λ_ _ _ _=>(zC 0)) rfl)
  (zW (Zo (i:=3) qc.nd rfl rfl (own:=["row"]) (caps:=[]) (uZ rfl) rfl (xr (zC 0)) (λ_ _ _ _=>zr (i:=0) (show (["row"]:List Str).Nodup by decide +kernel) rfl (Or.inl rfl)) (λ_ _ _ _=>(xX (yU qB) (zh (show wT _ (we (zT K)) from yc) (zC 0) (xD xE zK) (λ_ _=>rfl)) zK (yu _))) (λ_ _ _ _=>(zC 0)) rfl)
  (zW (wI PassesOwn.never rfl (xr (zC 2)) (zr (i:=4) qc.nd rfl (Or.inl rfl)) (zY (wI PassesOwn.never rfl (xr (zC 3)) (zr (i:=5) qc.nd rfl (Or.inl rfl)) (zW (zy (i:=6) qc.nd rfl (Or.inl rfl) (zk bB hr rfl (zD (xD xE (zh yc (zC 5) (xD xE zK) (λ_ _=>rfl))) (zD (zC 4) (zD (zh yc (zC 4) (xD xE zK) (λ_ _=>rfl)) (zD (zC 5) zI))))))
    (zY (vB (vI PySem.F.plainAttrs_list PySem.F.slot_list_append PySem.F.type_list_append xP (zC 1) (zD (zV jp (xn wM rfl B.tuple_ vK (zD (vO Qn (zC 6) v7 (vD (xD xE zK))) zI)) (xy (zD (zh yi (zC 6) (xD xE zK) (λ_ _=>rfl)) zI))) zI))))))))
  (zY (yH (zC 1))))))),?_⟩
 try dsimp only [zP,Cx.nox,Cx.wish]
 have hrm:=hrm0
 have lrv:rv.length=rows.length:=(Paired.length hrv).trans (List.length_map _)
 refine ⟨_,rfl,rm,rfl,⟨_,zJ.of ((zG.refl H) _ _ hrm)⟩,kE (K:=K) (a:=rm) (xs:=rv) (λi ys σ H'=>Paired (jI H') ys (((rows.take i).filter λr:yL=>decide (r.2.1=0)).map λr=>(r.1,r.2.2))/\(∃ o,σ=[o])/\zG H H')
  ⟨.nil,⟨none,rfl⟩,zG.refl _⟩ (λi ys σ H' hi ⟨e1,_,sm⟩=>⟨zJ.of (sm _ _ ((zG.refl H) _ _ hrm)),by have h1:=Paired.length e1; have h2:=List.length_filter_le (λr:yL=>decide (r.2.1=0)) (rows.take i); rw [List.length_map] at h1; rw [List.length_take] at h2; omega⟩) (yd (by omega)) ?_ ?_⟩
 ·rintro i x ys σ H' hix ⟨hys,⟨o,rfl⟩,sm⟩
  obtain ⟨r,a,hr3,rfl,ea0⟩:=gJ hrv hix
  have eA:=sm _ _ ((zG.refl H) _ _ ea0)
  refine ⟨_,rfl,_,rfl,a,_,_,_,rfl,rfl,zT.of eA,qb _ _ _,rfl,_,rfl,?_⟩
  by_cases c:r.2.1=0
  ·refine xo (jE c) ?_
   have ft:=kf (p:=λr:yL=>decide (r.2.1=0)) hr3 (decide_eq_true c)
   refine ⟨_,rfl,_,rfl,_,rfl,a,_,rfl,zT.of eA,(ka _ _ _).2,λp1 hp1=>?_⟩
   rw [(ka _ _ _).1]
   obtain ⟨L1,hhL1,yL1,ep1⟩:=zw (HO.tup (r.1.map V.int)) hp1
   rw [hhL1]
   have SL1:=sm.trans yL1
   replace eA:=(yL1 _ _ eA)
   refine ⟨_,rfl,_,rfl,a,_,_,_,rfl,rfl,zT.of eA,Wr _ _ _,wQ,λt2 ht2=>?_⟩
   obtain ⟨L2,hhL2,yL2,et2⟩:=zw (HO.tup [V.int r.2.2]) ht2
   rw [hhL2]
   have SL2:=SL1.trans yL2
   replace eA:=(yL2 _ _ eA)
   replace ep1:=(yL2 _ _ ep1)
   have lr:=(RO r (List.mem_of_getElem? hr3)).1
   have ne:r.1.map V.int≠[]:=λz=>by
    have h:=congrArg List.length z
    rw [List.length_map] at h
    have h0:r.1.length=0:=h
    omega
   refine ⟨p1,t2,_,_,rfl,rfl,zT.of ep1,zT.of et2,ne,(by rw [List.length_map]; exact yd ((by show r.1.length + 1<=1000; omega))),(λz=>nomatch z),λ_ p hp=>?_⟩
   obtain ⟨L3,hhL3,yL3,ep⟩:=zw (HO.tup (r.1.map V.int++[V.int r.2.2])) hp
   rw [hhL3]
   have SL3:=SL2.trans yL3
   replace eA:=(yL3 _ _ eA)
   replace ep1:=(yL3 _ _ ep1)
   refine ⟨?_,⟨_,rfl⟩,SL3⟩
   rw [ft,List.map_append]
   exact xg (R:=jI _) ⟨p,rfl,ep⟩ (yI.same (yL1.trans (yL2.trans yL3)) hys)
  ·refine xA (vk c) ?_
   refine ⟨?_,⟨_,rfl⟩,sm⟩
   rw [kg (p:=λr:yL=>decide (r.2.1=0)) hr3 (decide_eq_false c)]
   exact hys
 rintro ys1 σ H1 ⟨hys1,⟨o1,rfl⟩,s1⟩ l1 hl1
 rw [lrv,List.take_length] at hys1
 have gG:H l1=none:=s1.free hl1
 have SG1:=s1
 obtain ⟨G2,hhG2,yG2,el1⟩:=zw (HO.lst ys1) hl1
 rw [hhG2]
 have SG2:=SG1.trans yG2
 replace hys1:=(yI.same yG2 hys1)
 refine ⟨_,rfl,rm,rfl,⟨_,zJ.of (SG2 _ _ hrm)⟩,kE (K:=K) (a:=rm) (xs:=rv) (λi ys σ H'=>Paired (λv (k:List Int)=>Tp H' v (k.map V.int)) ys (((rows.take i).filter λr:yL=>decide (r.2.1 > 0)).map vV)/\(∃ o,σ=[o])/\zG G2 H')
  ⟨.nil,⟨none,rfl⟩,zG.refl _⟩ (λi ys σ H' hi ⟨e1,_,sm⟩=>⟨zJ.of (sm _ _ (SG2 _ _ hrm)),by have h1:=Paired.length e1; have h2:=List.length_filter_le (λr:yL=>decide (r.2.1 > 0)) (rows.take i); rw [List.length_map] at h1; rw [List.length_take] at h2; omega⟩) (yd (by omega)) ?_ ?_⟩
 ·rintro i x ys σ H' hix ⟨hys,⟨o,rfl⟩,sm⟩
  obtain ⟨r,a,hr3,rfl,ea0⟩:=gJ hrv hix
  have eA:=sm _ _ (SG2 _ _ ea0)
  refine ⟨_,rfl,_,rfl,a,_,_,_,rfl,rfl,zT.of eA,qb _ _ _,_,_,rfl,rfl,_,rfl,?_⟩
  by_cases c:r.2.1 > 0
  ·refine xo (decide_eq_true c) ?_
   have ft:=kf (p:=λr:yL=>decide (r.2.1 > 0)) hr3 (decide_eq_true c)
   refine ⟨_,rfl,?_,⟨_,rfl⟩,sm⟩
   rw [ft,List.map_append]
   exact xg (R:=λv (k:List Int)=>Tp H' v (k.map V.int)) ⟨a,rfl,eA.trans (by rw [kh])⟩ hys
  ·refine xA (decide_eq_false c) ?_
   refine ⟨?_,⟨_,rfl⟩,sm⟩
   rw [kg (p:=λr:yL=>decide (r.2.1 > 0)) hr3 (decide_eq_false c)]
   exact hys
 rintro ys2 σ H2 ⟨hys2,⟨o2,rfl⟩,s2⟩ l2 hl2
 rw [lrv,List.take_length] at hys2
 have SG3:=SG2.trans s2
 replace hys1:=(yI.same s2 hys1)
 replace el1:=(s2 _ _ el1)
 have n21:l2≠l1:=λz=>by rw [z,el1] at hl2; cases hl2
 obtain ⟨G4,hhG4,yG4,el2⟩:=zw (HO.lst ys2) hl2
 rw [hhG4]
 have SG4:=SG3.trans yG4
 replace hys1:=(yI.same yG4 hys1)
 replace el1:=(yG4 _ _ el1)
 replace hys2:=(xC.same yG4 hys2)
 refine ⟨_,rfl,rm,rfl,⟨_,zJ.of (SG4 _ _ hrm)⟩,kE (K:=K) (a:=rm) (xs:=rv) (λi ys σ H'=>Paired (λv (k:List Int)=>Tp H' v (k.map V.int)) ys (((rows.take i).filter λr:yL=>decide (r.2.1 < 0)).map vV)/\(∃ o,σ=[o])/\zG G4 H')
  ⟨.nil,⟨none,rfl⟩,zG.refl _⟩ (λi ys σ H' hi ⟨e1,_,sm⟩=>⟨zJ.of (sm _ _ (SG4 _ _ hrm)),by have h1:=Paired.length e1; have h2:=List.length_filter_le (λr:yL=>decide (r.2.1 < 0)) (rows.take i); rw [List.length_map] at h1; rw [List.length_take] at h2; omega⟩) (yd (by omega)) ?_ ?_⟩
 ·rintro i x ys σ H' hix ⟨hys,⟨o,rfl⟩,sm⟩
  obtain ⟨r,a,hr3,rfl,ea0⟩:=gJ hrv hix
  have eA:=sm _ _ (SG4 _ _ ea0)
  refine ⟨_,rfl,_,rfl,a,_,_,_,rfl,rfl,zT.of eA,qb _ _ _,_,_,rfl,rfl,_,rfl,?_⟩
  by_cases c:r.2.1 < 0
  ·refine xo (decide_eq_true c) ?_
   have ft:=kf (p:=λr:yL=>decide (r.2.1 < 0)) hr3 (decide_eq_true c)
   refine ⟨_,rfl,?_,⟨_,rfl⟩,sm⟩
   rw [ft,List.map_append]
   exact xg (R:=λv (k:List Int)=>Tp H' v (k.map V.int)) ⟨a,rfl,eA.trans (by rw [kh])⟩ hys
  ·refine xA (decide_eq_false c) ?_
   refine ⟨?_,⟨_,rfl⟩,sm⟩
   rw [kg (p:=λr:yL=>decide (r.2.1 < 0)) hr3 (decide_eq_false c)]
   exact hys
 rintro ys3 σ H3 ⟨hys3,⟨o3,rfl⟩,s3⟩ l3 hl3
 rw [lrv,List.take_length] at hys3
 have SG5:=SG4.trans s3
 replace hys1:=(yI.same s3 hys1)
 replace el1:=(s3 _ _ el1)
 replace hys2:=(xC.same s3 hys2)
 replace el2:=(s3 _ _ el2)
 have n31:l3≠l1:=λz=>by rw [z,el1] at hl3; cases hl3
 obtain ⟨G6,hhG6,yG6,el3⟩:=zw (HO.lst ys3) hl3
 rw [hhG6]
 have SG6:=SG5.trans yG6
 replace hys1:=(yI.same yG6 hys1)
 replace el1:=(yG6 _ _ el1)
 replace hys2:=(xC.same yG6 hys2)
 replace el2:=(yG6 _ _ el2)
 replace hys3:=(xC.same yG6 hys3)
 have rh:yI (hide [l1] G6) ys1 (jJ rows):=Paired.mapP hys1 λ_ _ z=>Q9 el1 z
 have uh:xC (hide [l1] G6) ys2 ((vW rows).map vV):=Paired.mapP hys2 λ_ _ z=>Q8 el1 z
 have lh:xC (hide [l1] G6) ys3 ((xp rows).map vV):=Paired.mapP hys3 λ_ _ z=>Q8 el1 z
 have gl2:hide [l1] G6 l2=some (.lst ys2):=(wV λz=>n21 (List.mem_singleton.mp z)).trans el2
 have gl3:hide [l1] G6 l3=some (.lst ys3):=(wV λz=>n31 (List.mem_singleton.mp z)).trans el3
 have sHG:zG H (hide [l1] G6):=ug gG SG6
 have UP:=ki (p:=λr:yL=>decide (r.2.1 > 0)) RO
 have LO:=ki (p:=λr:yL=>decide (r.2.1 < 0)) RO
 have lu:ys2.length=(vW rows).length:=(Paired.length uh).trans (List.length_map _)
 have ll:ys3.length=(xp rows).length:=(Paired.length lh).trans (List.length_map _)
 have lz:(jJ rows).length + 0<=(xK rows).length:=by
  unfold xK
  rw [List.length_append]
  omega
 generalize hid:hide [l1] G6=G at rh uh lh gl2 gl3 sHG
 refine ⟨_,rfl,l2,rfl,⟨_,zJ.of el2⟩,jR (K:=K) (a:=l2) (xs:=ys2)
  (λi σ H'=>∃ (tv:List V) (o4 o5 o6:Option V),σ=[some (.ref rm),some (.ref l1),some (.ref l2),some (.ref l3),o4,o5,o6]/\zG G (hide [l1] H')/\H' l1=some (.lst tv)/\yI (hide [l1] H') tv (jJ rows++((vW rows).take i).flatMap λu=>(xp rows).map (jK u)))
  ⟨ys1,none,none,none,rfl,by rw [hid]; exact zG.refl _,el1,by rw [hid,List.take_zero,List.flatMap_nil,List.append_nil]; exact rh⟩ (λi σ H' _ ⟨_,_,_,_,_,sm,_⟩=>zJ.of (yx _ _ (sm _ _ gl2))) ?_ ?_⟩
 ·rintro i x σ M0 hix ⟨tv,o4,o5,o6,rfl,sm,ef,htv⟩
  obtain ⟨u,ua,hu,rfl,eu0⟩:=gJ uh hix
  obtain ⟨u1,u2,u3⟩:=UP u (List.mem_of_getElem? hu)
  refine ⟨_,rfl,l3,rfl,⟨_,zJ.of (yx _ _ (sm _ _ gl3))⟩,jR (K:=K) (a:=l3) (xs:=ys3)
   (λj σ H'=>∃ (tv:List V) (o5 o6:Option V),σ=[some (.ref rm),some (.ref l1),some (.ref l2),some (.ref l3),some (.ref ua),o5,o6]/\zG G (hide [l1] H')/\H' l1=some (.lst tv)/\yI (hide [l1] H') tv (jJ rows++(((vW rows).take i).flatMap λu=>(xp rows).map (jK u))++((xp rows).take j).map (jK u)))
   ⟨tv,o5,o6,rfl,sm,ef,by rw [List.take_zero,List.map_nil,List.append_nil]; exact htv⟩ (λi σ H' _ ⟨_,_,_,_,sm,_⟩=>zJ.of (yx _ _ (sm _ _ gl3))) ?_ ?_⟩
  ·rintro j x σ H' hjx ⟨tv2,o5,o6,rfl,sm2,ef,htv2⟩
   obtain ⟨lo,la,hlo,rfl,eo0⟩:=gJ lh hjx
   obtain ⟨v1,v2,v3⟩:=LO lo (List.mem_of_getElem? hlo)
   have sj:=sm2.trans yx
   have eU:=sj _ _ eu0
   have eO:=sj _ _ eo0
   refine ⟨_,rfl,_,rfl,la,_,_,_,rfl,rfl,zT.of eO,qb _ _ _,_,rfl,_,rfl,_,rfl,_,rfl,ua,_,_,_,rfl,rfl,zT.of eU,qb _ _ _,_,rfl,-lo.2.1,u.2.1,ua,la,vV u,vV lo,rfl,.inl (zT.of (eU.trans (by rw [kh]))),.inl (zT.of (eO.trans (by rw [kh]))),(by unfold vV; rw [List.length_append,List.length_append,u1,v1]; rfl),(by unfold vV; rw [List.length_append,u1]; show n + 2<=100; omega),Bd.neg v3,u3,u2,v2,λl9 M1 z1 _ el9=>?_⟩
   rw [zOp (u1.trans v1.symm),List.map_append] at el9
   have SL1:=sj.trans z1
   replace ef:=(z1 _ _ ef)
   have lm:(xQ (-lo.2.1) u.1 u.2.1 lo.1).length=n:=by
    unfold xQ
    rw [List.length_map,List.length_zip,u1,v1,Nat.min_self]
   have ne:(xQ (-lo.2.1) u.1 u.2.1 lo.1).map V.int≠[]:=λz=>by
    have h:=congrArg List.length z
    rw [List.length_map,lm] at h
    have h0:n=0:=h
    omega
   refine ⟨_,rfl,.inl ⟨rfl,_,zJ.of ef⟩,_,rfl,_,rfl,_,rfl,l9,_,rfl,zJ.of el9,λp1 hp1=>?_⟩
   have ec2:=(ka ((xQ (-lo.2.1) u.1 u.2.1 lo.1).map V.int) (.int (-lo.2.1 * u.2.1 + u.2.1 * lo.2.1)) (.int (-lo.2.1 * u.2.2 + u.2.1 * lo.2.2))).1
   rw [show yY (_++[_,_].map V.int) none (some (-2))=_ from ec2]
   obtain ⟨L2,hhL2,yL2,ep1⟩:=zw (HO.lst ((xQ (-lo.2.1) u.1 u.2.1 lo.1).map V.int)) hp1
   rw [hhL2]
   have SL2:=SL1.trans yL2
   replace ef:=(yL2 _ _ ef)
   replace el9:=(yL2 _ _ el9)
   refine ⟨p1,_,rfl,.inl ⟨zJ.of ep1,λp2 hp2=>?_⟩⟩
   obtain ⟨L3,hhL3,yL3,ep2⟩:=zw (HO.tup ((xQ (-lo.2.1) u.1 u.2.1 lo.1).map V.int)) hp2
   rw [hhL3]
   have SL3:=SL2.trans yL3
   replace ef:=(yL3 _ _ ef)
   replace el9:=(yL3 _ _ el9)
   refine ⟨_,rfl,_,rfl,l9,_,_,_,rfl,rfl,zJ.of el9,Wr _ _ _,wQ,λt3 ht3=>?_⟩
   obtain ⟨L4,hhL4,yL4,et3⟩:=zw (HO.tup [V.int (-lo.2.1 * u.2.2 + u.2.1 * lo.2.2)]) ht3
   rw [hhL4]
   have SL4:=SL3.trans yL4
   replace ef:=(yL4 _ _ ef)
   replace ep2:=(yL4 _ _ ep2)
   refine ⟨p2,t3,_,_,rfl,rfl,zT.of ep2,zT.of et3,ne,(by rw [List.length_map,lm]; exact yd ((by show n + 1<=1000; omega))),(λz=>nomatch z),λ_ p hp=>?_⟩
   obtain ⟨L5,hhL5,yL5,ep⟩:=zw (HO.tup ((xQ (-lo.2.1) u.1 u.2.1 lo.1).map V.int++[V.int (-lo.2.1 * u.2.2 + u.2.1 * lo.2.2)])) hp
   rw [hhL5]
   have SL5:=SL4.trans yL5
   replace ef:=(yL5 _ _ ef)
   have ltv:=Paired.length htv2
   have ltk:=zLT rows i j hu
   refine ⟨l1,tv2,.ref p,rfl,rfl,ef,wY (by omega),?_⟩
   have np:p∉[l1]:=λz=>by rw [List.mem_singleton.mp z,ef] at ep; cases ep
   have h4:=(wC (B:=[l1]) (z1.trans (yL2.trans (yL3.trans (yL4.trans yL5))))).trans (w6 (x:=l1) (HO.lst (tv2++[V.ref p])))
   refine ⟨tv2++[V.ref p],_,_,rfl,sm2.trans h4,zj,?_⟩
   rw [xH hlo,List.map_append,<- List.append_assoc]
   exact xg (R:=jI _) ⟨p,rfl,w6 (x:=l1) _ _ _ ((wV np).trans ep)⟩ (yI.same h4 htv2)
  rintro σ M9 ⟨tv2,o5,o6,rfl,sm2,ef,htv2⟩
  refine ⟨tv2,_,_,_,rfl,sm2,ef,?_⟩
  rw [ll,List.take_length] at htv2
  rw [xH hu,List.flatMap_append,<- List.append_assoc,List.flatMap_cons,List.flatMap_nil,List.append_nil]
  exact htv2
 rintro σ M9 ⟨tv,o4,o5,o6,rfl,sm,ef,htv⟩
 rw [lu,List.take_length] at htv
 exact ⟨_,rfl,q l1 tv M9 (sHG.trans (sm.trans yx)) gG ef (yI.same yx htv)⟩
end
def jd (n:Nat) (bs:List (Int × Int)) (m:MD) (r:List Int × Int):yL:=((List.range n).map (zu r.1 m.nexts),yj r.1 m.steer,(m.div * r.2 - yj r.1 m.add) - yj ((List.range bs.length).map (zu r.1 m.push)) (vF ((List.range bs.length).map (zu r.1 m.push)) bs))
def uB (n:Nat) (bs:List (Int × Int)) (m:MD) (lo hi:Int) (rows:List (List Int × Int)):List yL:=rows.map (jd n bs m)++[(List.replicate n 0,1,hi),(List.replicate n 0,-1,-lo)]
theorem KA {n:Nat} (h:n<=3) (x y:Int):uf (n:Int) (n + 1) x++[y]=List.replicate n 0++[x,y]:=by
 match n,h with
 | 0,_=>rfl
 | 1,_=>rfl
 | 2,_=>rfl
 | 3,_=>rfl
theorem KC {n:Nat} (h:n<=3) (bs:List (Int × Int)) (m:MD) (lo hi:Int) (rows:List (List Int × Int)):Wp n bs m lo hi rows=(uB n bs m lo hi rows).map vV:=by
 unfold Wp uB
 rw [List.map_append,List.map_map,KA h,KA h]
 rfl
def uw (n:Nat) (bs:List (Int × Int)) (m:MD) (lo hi:Int) (zH rows:List (List Int × Int)):List (List Int × Int):=zH++xK (uB n bs m lo hi rows)
def xi (n:Nat) (bs:List (Int × Int)) (m:MD) (lo hi:Int) (zH:List (List Int × Int)):Nat->List (List Int × Int)
 | 0=>wL zH
 | k + 1=>wL (uw n bs m lo hi zH (xi n bs m lo hi zH k))
def wK:Nat->Nat
 | 0=>2
 | k + 1=>2 * wK k + 10
def bK:Nat->Nat
 | 0=>106
 | k + 1=>bK k + wK k + 10
theorem je:∀ k,wK k + 104<=bK k/\2<=wK k
 | 0=>⟨by decide,by decide⟩
 | k + 1=>by
  obtain ⟨h,h2⟩:=je k
  show 2 * wK k + 10 + 104<=bK k + wK k + 10/\2<=2 * wK k + 10
  omega
theorem qd:∀ {k:Nat},k<=6->wK k<=800/\bK k<=900
 | 0,_=>by decide
 | 1,_=>by decide
 | 2,_=>by decide
 | 3,_=>by decide
 | 4,_=>by decide
 | 5,_=>by decide
 | 6,_=>by decide
def WB (rows:List (List Int × Int)) (n w b:Nat):Prop:=∀ r∈rows,r.1.length=n/\(∀ x∈r.1,Bd w x)/\Bd b r.2
theorem WB.tid {rows:List (List Int × Int)} {n w b:Nat} (h:WB rows n w b) (h1:1<=b):WB (wL rows) n w b:=by
 intro r hr
 rw [QG] at hr
 unfold jW at hr
 rcases List.mem_append.mp hr with z | z
 ·obtain ⟨p,hp,e⟩:=List.mem_map.mp z
  rcases X8 rows p hp with y | y
  ·cases y
  obtain ⟨l,W,B⟩:=h _ y
  rw [<- e]
  refine ⟨by unfold jA; rw [List.length_map]; exact l,λw hw=>?_,B.fdiv _⟩
  obtain ⟨x,hx,e2⟩:=List.mem_map.mp hw
  rw [<- e2]
  exact (W x hx).fdiv _
 ·cases q:(rows.foldl wU ([],none)).2 with
  | none=>rw [q] at z; cases z
  | some ws=>
   rw [q] at z
   rw [List.mem_singleton.mp z]
   rcases Qz rows ws q with y | ⟨r',hr',e⟩
   ·cases y
   rw [<- e]
   exact ⟨(h _ hr').1,(h _ hr').2.1,Bd.mono (i:=-1) (n:=1) Bd.lit h1⟩
theorem WB.ok {rows:List (List Int × Int)} {n w b:Nat} (h:WB rows n w b) (hw:w<=2000) (hb:b<=2000):gH rows n:=λr hr=>⟨⟨(h r hr).1,λx hx=>((h r hr).2.1 x hx).mono hw⟩,(h r hr).2.2.mono hb⟩
theorem j0 (n:Nat):Bd n 0:=Nat.pow_pos (by decide)
theorem KD {k:Nat}:∀ {l:List Int},(∀ x∈l,Bd k x)->l.length<=3->Bd (k + 2) l.sum
 | [],_,_=>j0 _
 | [a],h,_=>by
  show Bd (k + 2) (a + 0)
  rw [Int.add_zero]
  exact (h a List.mem_cons_self).mono (by omega)
 | [a,b],h,_=>by
  show Bd (k + 2) (a + (b + 0))
  rw [Int.add_zero]
  exact ((h a (by simp)).add (h b (by simp))).mono (by omega)
 | [a,b,c],h,_=>by
  show Bd (k + 2) (a + (b + (c + 0)))
  rw [Int.add_zero]
  exact ((h a (by simp)).mono (by omega)).add ((h b (by simp)).add (h c (by simp)))
theorem jL {k:Nat} {l:List Int} (h:∀ x∈l,Bd k x) (j:Nat):Bd k (l.getD j 0):=by
 rw [List.getD_eq_getElem?_getD]
 cases e:l[j]? with
 | none=>exact j0 _
 | some x=>exact h x (List.mem_of_getElem? e)
theorem YL {w c:Nat} {ws:List Int} {ls:List (List Int)} (hw:∀ x∈ws,Bd w x) (hl:∀ r∈ls,∀ x∈r,Bd c x) (h3:ws.length<=3) (j:Nat):Bd (w + c + 2) (zu ws ls j):=by
 unfold zu
 refine KD (λx hx=>?_) (by rw [List.length_map,List.length_zip]; omega)
 obtain ⟨q,hq,rfl⟩:=List.mem_map.mp hx
 exact (hw _ (List.of_mem_zip hq).1).mul (jL (hl _ (List.of_mem_zip hq).2) j)
theorem Wu {w c:Nat} {xs ys:List Int} (hx:∀ x∈xs,Bd w x) (hy:∀ x∈ys,Bd c x) (h3:xs.length<=3):Bd (w + c + 2) (yj xs ys):=by
 rw [<- Wb]
 refine KD (λx h=>?_) (by rw [List.length_map,List.length_zip]; omega)
 obtain ⟨q,hq,rfl⟩:=List.mem_map.mp h
 exact (hx _ (List.of_mem_zip hq).1).mul (hy _ (List.of_mem_zip hq).2)
structure wu (n:Nat) (bs:List (Int × Int)) (m:MD) (lo hi:Int) (zH:List (List Int × Int)):Prop where
 n1:1<=n
 n3:n<=3
 b2:bs.length<=2
 bb:∀ b∈bs,Bd 102 b.1/\Bd 102 b.2
 nx:∀ r∈m.nexts,∀ x∈r,Bd 3 x
 st:∀ x∈m.steer,Bd 2 x
 pu:∀ r∈m.push,∀ x∈r,Bd 2 x
 ad:∀ x∈m.add,Bd 102 x
 dv:Bd 3 m.div
 sf:WB zH n 2 106
 s8:zH.length<=8
 lo:Bd 106 lo
 hi:Bd 106 hi
theorem wu.mbd {n:Nat} {bs:List (Int × Int)} {m:MD} {lo hi:Int} {zH:List (List Int × Int)} (G:wu n bs m lo hi zH):We m:=⟨λr hr x hx=>(G.nx r hr x hx).mono,λr hr x hx=>(G.pu r hr x hx).mono,λx hx=>(G.ad x hx).mono,G.dv.mono⟩
def W3 (rows:List yL) (n w b:Nat):Prop:=∀ r∈rows,r.1.length=n/\(∀ x∈r.1,Bd (w + 5) x)/\Bd (w + 4) r.2.1/\Bd (b + 5) r.2.2
theorem wu.three {n:Nat} {bs:List (Int × Int)} {m:MD} {lo hi:Int} {zH rows:List (List Int × Int)} (G:wu n bs m lo hi zH) {w b:Nat} (h:WB rows n w b) (hw:w + 104<=b) (h6:2<=w):W3 (uB n bs m lo hi rows) n w b:=by
 intro r hr
 unfold uB at hr
 have n3:=G.n3
 have b2:=G.b2
 have zz:∀ x∈List.replicate n (0:Int),Bd (w + 5) x:=λx hx=>by
  rw [List.eq_of_mem_replicate hx]
  exact j0 _
 rcases List.mem_append.mp hr with hr | hr
 ·obtain ⟨q,hq,rfl⟩:=List.mem_map.mp hr
  obtain ⟨l,W,B⟩:=h q hq
  have hp:∀ x∈(List.range bs.length).map (zu q.1 m.push),Bd (w + 2 + 2) x:=λx hx=>by
   obtain ⟨j,_,rfl⟩:=List.mem_map.mp hx
   exact YL W G.pu (by omega) j
  have h1:=(G.dv.mul B).mono (m:=b + 3) (by omega)
  have h2:=(Wu W G.ad (by omega)).mono (m:=b + 3) (by omega)
  have h3:=(Wu hp (Q7 (us:=(List.range bs.length).map (zu q.1 m.push)) G.bb) (by rw [List.length_map,List.length_range]; omega)).mono (m:=b + 3 + 1) (by omega)
  refine ⟨by unfold jd; rw [List.length_map,List.length_range],λx hx=>?_,(Wu W G.st (by omega)).mono (by omega),(h1.sub h2).sub h3⟩
  obtain ⟨j,_,rfl⟩:=List.mem_map.mp hx
  exact (YL W G.nx (by omega) j).mono (by omega)
 ·rcases List.mem_cons.mp hr with rfl | hr
  ·exact ⟨List.length_replicate,zz,Bd.mono (i:=1) (n:=1) Bd.lit (by omega),G.hi.mono (by omega)⟩
  ·rw [List.mem_singleton.mp hr]
   exact ⟨List.length_replicate,zz,Bd.mono (i:=-1) (n:=1) Bd.lit (by omega),G.lo.neg.mono (by omega)⟩
theorem W3.no {rows:List yL} {n w b:Nat} (h:W3 rows n w b):WB (xK rows) n (2 * w + 10) (b + w + 10):=by
 intro r hr
 unfold xK at hr
 rcases List.mem_append.mp hr with hr | hr
 ·obtain ⟨q,hq,rfl⟩:=List.mem_map.mp hr
  obtain ⟨a,b,c,d⟩:=h q (List.mem_filter.mp hq).1
  exact ⟨a,λx hx=>(b x hx).mono (by omega),d.mono (by omega)⟩
 ·obtain ⟨u,hu,hr⟩:=List.mem_flatMap.mp hr
  obtain ⟨l,hl,rfl⟩:=List.mem_map.mp hr
  obtain ⟨a,b,c,d⟩:=h u (List.mem_filter.mp hu).1
  obtain ⟨a',b',c',d'⟩:=h l (List.mem_filter.mp hl).1
  refine ⟨by unfold jK xQ; rw [List.length_map,List.length_zip,a,a',Nat.min_self],λx hx=>?_,?_⟩
  ·obtain ⟨q,hq,rfl⟩:=List.mem_map.mp hx
   have h1:=c'.neg.mul (b _ (List.of_mem_zip hq).1)
   have h2:=c.mul (b' _ (List.of_mem_zip hq).2)
   exact (h1.add h2).mono (by omega)
  ·exact ((c'.neg.mul d).add (c.mul d')).mono (by omega)
theorem WB.app {xs ys:List (List Int × Int)} {n w b w' b':Nat} (h:WB xs n w b) (k:WB ys n w' b') (hw:w<=w') (hb:b<=b'):WB (xs++ys) n w' b':=λr hr=>by
 rcases List.mem_append.mp hr with hr | hr
 ·exact ⟨(h r hr).1,λx hx=>((h r hr).2.1 x hx).mono hw,(h r hr).2.2.mono hb⟩
 ·exact k r hr
theorem wu.aft {n:Nat} {bs:List (Int × Int)} {m:MD} {lo hi:Int} {zH rows:List (List Int × Int)} (G:wu n bs m lo hi zH) {k:Nat} (h:WB rows n (wK k) (bK k)):WB (uw n bs m lo hi zH rows) n (wK (k + 1)) (bK (k + 1)):=by
 obtain ⟨h1,h2⟩:=je k
 exact G.sf.app (W3.no (G.three h h1 h2)) (by show 2<=2 * wK k + 10; omega) (by show 106<=bK k + wK k + 10; omega)
theorem wu.held {n:Nat} {bs:List (Int × Int)} {m:MD} {lo hi:Int} {zH:List (List Int × Int)} (G:wu n bs m lo hi zH):∀ k:Nat,WB (xi n bs m lo hi zH k) n (wK k) (bK k)
 | 0=>WB.tid G.sf (by decide)
 | k + 1=>WB.tid (G.aft (wu.held G k)) (by have:=je (k + 1); omega)
theorem kj (rows:List yL):(jJ rows).length + ((vW rows).length + (xp rows).length)=rows.length:=by
 unfold jJ vW xp
 rw [List.length_map]
 induction rows with
 | nil=>rfl
 | cons r rs ih=>
  rw [List.filter_cons,List.filter_cons,List.filter_cons,List.length_cons,<- ih]
  rcases Int.lt_trichotomy r.2.1 0 with h | h | h
  ·rw [if_neg (by rw [decide_eq_false (by omega)]; decide),if_neg (by rw [decide_eq_false (by omega)]; decide),if_pos (decide_eq_true h),List.length_cons]
   omega
  ·rw [if_pos (decide_eq_true h),if_neg (by rw [decide_eq_false (by omega)]; decide),if_neg (by rw [decide_eq_false (by omega)]; decide),List.length_cons]
   omega
  ·rw [if_neg (by rw [decide_eq_false (by omega)]; decide),if_pos (decide_eq_true h),if_neg (by rw [decide_eq_false (by omega)]; decide),List.length_cons]
   omega
theorem zMd (rows:List yL):(xK rows).length=(jJ rows).length + (vW rows).length * (xp rows).length:=by
 unfold xK
 rw [List.length_append]
 congr 1
 induction vW rows with
 | nil=>exact (Nat.zero_mul _).symm
 | cons u us ih=>rw [List.flatMap_cons,List.length_append,List.length_map,List.length_cons,ih,Nat.succ_mul,Nat.add_comm]
theorem zNg {u l:Nat} (h:u + l<=62):2 * (u * l)<=31 * (u + l):=by
 have h1:(0:Int)<=((u:Int) - l) * ((u:Int) - l):=by
  rcases Int.le_total 0 ((u:Int) - l) with h | h
  ·exact Int.mul_nonneg h h
  ·exact Int.mul_nonneg_of_nonpos_of_nonpos h h
 have h2:(u + l) * (u + l)<=62 * (u + l):=Nat.mul_le_mul_right _ h
 have e1:((u:Int) - l) * ((u:Int) - l)=u * u + l * l - 2 * (u * l):=by grind
 have e2:(u + l) * (u + l)=u * u + l * l + 2 * (u * l):=by grind
 have e3:((u * u:Nat):Int)=(u:Int) * u:=by simp
 have e4:((l * l:Nat):Int)=(l:Int) * l:=by simp
 have e5:((u * l:Nat):Int)=(u:Int) * l:=by simp
 omega
theorem zNl {rows:List yL} (h:rows.length<=62):(xK rows).length<=961:=by
 have h1:=kj rows
 rw [zMd]
 have h2:=zNg (u:=(vW rows).length) (l:=(xp rows).length) (by omega)
 omega
def xz (n:Nat) (bs:List (Int × Int)) (m:MD) (lo hi:Int) (zH:List (List Int × Int)) (k:Nat):Prop:=∀ j,j<=k->(xi n bs m lo hi zH j).length<=60
theorem xz.step {n:Nat} {bs:List (Int × Int)} {m:MD} {lo hi:Int} {zH:List (List Int × Int)} {k:Nat} (h:xz n bs m lo hi zH k) (q:(xi n bs m lo hi zH (k + 1)).length<=60):xz n bs m lo hi zH (k + 1):=λj hj=>by
 by_cases e:j=k + 1
 ·rw [e]; exact q
 ·exact h j (by omega)
def ui (n:Nat) (bs:List (Int × Int)) (m:MD) (lo hi:Int) (zH:List (List Int × Int)) (k:Nat):List (List (List Int × Int)):=(List.range (k + 1)).map (xi n bs m lo hi zH)
theorem zKM (n:Nat) (bs:List (Int × Int)) (m:MD) (lo hi:Int) (zH:List (List Int × Int)) (k:Nat):ui n bs m lo hi zH (k + 1)=ui n bs m lo hi zH k++[xi n bs m lo hi zH (k + 1)]:=by
 unfold ui
 rw [List.range_succ,List.map_append]
 rfl
structure Er (K:PySem.W.Frag) (mg:Str->Option Value) (cM cP:Addr):Prop where
 mgM:mg "TooMany" = some (.ref cM)
 mgP:mg "NotPlain" = some (.ref cP)
 excM:PySem.W.excIn K cM Xz "ValueError.__new__" = true
 excP:PySem.W.excIn K cP Xz "ValueError.__new__" = true
 mm:PySem.W.exmOne K (.ref cM) (.ref cM)=some true
def ko (ms:List MD):Prop:=ms.length=1/\(ms.map MD.rows).getD 0 []=[]
def w8 (H:Hp) (vs:List V) (rooms:List (List (List Int × Int))):Prop:=Paired (λv rows=>∃ a rv,v=V.ref a/\H a=some (.lst rv)/\yI H rv rows) vs rooms
theorem w8.same {H H':Hp} {vs:List V} {rooms:List (List (List Int × Int))} (s:zG H H') (h:w8 H vs rooms):w8 H' vs rooms:=Paired.mapP h λ_ _ ⟨a,rv,e,q,r⟩=>⟨a,rv,e,s _ _ q,yI.same s r⟩
inductive Wv (C CM cP:Addr) (vs:List V) (H:Hp) (Q:VK) (E:XK):Prop
 | mk (o kp km:Addr) (n:Nat) (bs:List (Int × Int)) (ms:List MD) (pv mv:List V) (_:vs=[.ref o]) (_:yr C CM H o n bs ms pv mv kp km) (_:wH n bs ms) (_:(ko ms->Q .non H)) (_:(¬ ko ms->E (.ref cP) none H)):Wv C CM cP vs H Q E
inductive Ww (cM:Addr) (vs:List V) (H:Hp) (Q:VK) (E:XK):Prop
 | mk (a:Addr) (xs:List V) (_:vs=[.ref a]) (_:H a=some (.lst xs)) (_:(xs.length<=60->Q (.ref a) H)) (_:(60 < xs.length->E (.ref cM) none H)):Ww cM vs H Q E
inductive kq (C CM cM cP:Addr) (vs:List V) (H:Hp) (Q:VK) (E:XK):Prop
 | mk (o kp km sa:Addr) (n:Nat) (bs:List (Int × Int)) (ms:List MD) (pv mv sv:List V) (lo hi:Int) (k:Nat) (zH:List (List Int × Int)) (_:vs=[.ref o,.ref sa,.int lo,.int hi,.int (k:Int)]) (_:yr C CM H o n bs ms pv mv kp km) (_:wH n bs ms) (_:H sa=some (.lst sv)) (_:yI H sv zH) (_:((¬ ko ms/\∀ H',zG H H'->E (.ref cP) none H')\/∃ m,ms=[m]/\ko ms/\wu n bs m lo hi zH/\k<=6/\(∀ l lv H',zG H H'->H l=none->H' l=some (.lst lv)->w8 H' lv (ui n bs m lo hi zH k)->xz n bs m lo hi zH k->Q (.ref l) H')/\(¬ xz n bs m lo hi zH k->∀ H',zG H H'->E (.ref cM) none H'))):kq C CM cM cP vs H Q E
theorem KE {H:Hp} {l:Addr} {xs:List V} (hl:H l=some (.lst xs)) {a:Addr} {rv:List V} {rows:List (List Int × Int)} (n:a≠l) (h:H a=some (.lst rv)) (hr:yI H rv rows):hide [l] H a=some (.lst rv)/\yI (hide [l] H) rv rows:=
 ⟨(wV λz=>n (List.mem_singleton.mp z)).trans h,Paired.mapP hr λ_ _ z=>Q9 hl z⟩
section
variable {P:Program} {w:World} {K:PySem.W.Frag} {mg:Str->Option Value} {base:Heap} {cM cP:Addr}
abbrev Wx:Stmt:=yh 47
theorem zHb:ya ["thing"] ["thing"] (ze Wx):=.a
abbrev Wy:Stmt:=yh 51
theorem zJ0:ya ["room"] ["room"] (ze Wy):=.a
abbrev Wz:Stmt:=yh 50
theorem W0:ya ["thing","safe","low","high","turns","rooms","turn"] ["thing","safe","low","high","turns"] (ze Wz):=.a
variable {ac af:Addr} (ae:yJ K mg "Mode" ac) (ag:wr K ac) (ah:yJ K mg "Thing" af) (ai:wt K af)
include ae ag ah ai
theorem zHH {k:Nat} {f:Addr} {fd:FuncData} (F:yb K "ask_plain" "ask_plain" Wx f fd) (B:Bl mg) (Z:Er K mg cM cP) (bC:jG P w K mg base af "is_plain" ["self"] k (Xu af ac)):zU P w K mg base (wP P w) (k + 1) f fd ["thing"] (Wv af ac cP):=by
 refine F.okX zHb ?_ ?_
 ·rintro vs H Q E ⟨o,kp,km,n,bs,ms,pv,mv,rfl,_⟩
  rfl
 rintro cdv A outer s H vs Q E hr ⟨o,kp,km,n,bs,ms,pv,mv,rfl,TA,TO,q,q2⟩
 have ZZ:=Z
 have hrm:=hr
 refine ⟨_,(zY (yq (wS (xW (kK bC ah hrm (zC 0)))) (zY (Qv (C:=cP) (E:=E) (λ_ _ _ _ _ _ _ _ I mx qx=>Qu I mx qx) ZZ.excP rfl ZZ.mgP rfl (zD U9 zI))) yt)),?_⟩
 obtain ⟨dx,ins⟩:=TA.ins
 refine ⟨_,rfl,o,dx,_,rfl,ins,rfl,o,kp,km,n,bs,ms,pv,mv,rfl,TA,TO,_,rfl,?_⟩
 by_cases c:ko ms
 ·refine xA ?_ (q c)
  rw [decide_eq_true c.1,decide_eq_true c.2]
  rfl
 ·refine xo ?_ ⟨wQ,q2 c⟩
  show (!(decide (ms.length=1) && decide ((ms.map MD.rows).getD 0 []=[])))=true
  rw [<- Bool.decide_and,decide_eq_false (show ¬ (ms.length=1/\(ms.map MD.rows).getD 0 []=[]) from c)]
  rfl
theorem zIU {k:Nat} {f:Addr} {fd:FuncData} (F:yb K "counted" "counted" Wy f fd) (B:Bl mg) (Z:Er K mg cM cP):zU P w K mg base (wP P w) (k + 1) f fd ["room"] (Ww cM):=by
 refine F.okX zJ0 ?_ ?_
 ·rintro vs H Q E ⟨a,xs,rfl,_⟩
  rfl
 rintro cdv A outer s H vs Q E hr ⟨a,xs,rfl,ha,q,q2⟩
 have ZZ:=Z
 have hrm:=hr
 refine ⟨_,(zW (yq (xX (yU qC) (ym yw rfl B.len_ wZ (zD (zC 0) zI)) (Zq rfl B.MOST_ROWS_) (yu _)) (zY (Qv (C:=cM) (E:=E) (λ_ _ _ _ _ _ _ _ I mx qx=>Qu I mx qx) ZZ.excM rfl ZZ.mgM rfl (zD U9 zI))) yt)
  (zY (yH (zC 0)))),?_⟩
 refine ⟨_,rfl,a,_,rfl,.inl (zJ.of ha),_,_,rfl,rfl,_,rfl,?_⟩
 by_cases c:xs.length<=60
 ·exact xA (decide_eq_false (show ¬ ((xs.length:Int) > 60) by omega)) ⟨_,rfl,q c⟩
 ·exact xo (decide_eq_true (show ((xs.length:Int) > 60) by omega)) ⟨wQ,q2 (by omega)⟩
theorem zGM {k:Nat} {f:Addr} {fd:FuncData} (F:yb K "held_rooms" "held_rooms" Wz f fd) (B:Bl mg) (Z:Er K mg cM cP) (x_ask_plain:ur P w K mg base "ask_plain" ["thing"] k (Wv af ac cP)) (x_counted:ur P w K mg base "counted" ["room"] k (Ww cM)) (aW:Fn P w K mg base "tidied" ["room"] k (WG K)) (bD:Fn P w K mg base "without_steering" ["rows"] k Ws) (aK:Fn P w K mg base "steering_rows" ["thing","room","low","high"] k (YK af ac)):zU P w K mg base (wP P w) (k + 1) f fd ["thing","safe","low","high","turns"] (kq af ac cM cP):=by
 refine F.okX W0 ?_ ?_
 ·rintro vs H Q E ⟨o,kp,km,sa,n,bs,ms,pv,mv,sv,lo,hi,k,zH,rfl,_⟩
  rfl
 rintro cdv A outer s H vs Q E hr ⟨o,kp,km,sa,n,bs,ms,pv,mv,sv,lo,hi,k,zH,rfl,TA,TO,hsa,hsv,W⟩
 have ZZ:=Z
 have hrm:=hr
 refine ⟨_,(zW (vB (X0 x_ask_plain hr rfl (zD (zC 0) zI)))
  (zW (zy (i:=5) W0.nd rfl (Or.inl rfl) (xF (zD (X0 x_counted hr rfl (zD (zk aW hr rfl (zD (zC 1) zI)) zI)) zI)))
  (zW (wI PassesOwn.leaving rfl (wX rfl B.range_ (zD (zC 4) zI)) (zr (i:=6) W0.nd rfl (Or.inl rfl)) (zY (vB (vI PySem.F.plainAttrs_list PySem.F.slot_list_append PySem.F.type_list_append xP (zC 5) (zD (X0 x_counted hr rfl (zD (zk aW hr rfl (zD (zV xh (zC 1) (zk bD hr rfl (zD (zk aK hr rfl (zD (zC 0) (zD (zh yi (zC 5) (xD xE zK) (λ_ _=>rfl)) (zD (zC 2) (zD (zC 3) zI))))) zI))) zI)) zI)) zI)))))
  (zY (yH (zC 5)))))),?_⟩
 obtain ⟨dx,ins⟩:=TA.ins
 refine ⟨_,rfl,o,kp,km,n,bs,ms,pv,mv,rfl,TA,TO,λpl=>?_,λnp=>?_⟩
 case _=>
  rcases W with ⟨np,_⟩ | W
  ·exact absurd pl np
  obtain ⟨m,rfl,_,G,k6,q,qx⟩:=W
  have n1:=G.n1
  have n3:=G.n3
  have s8:=G.s8
  have ok0:=G.held 0
  refine ⟨_,rfl,sa,sv,zH,n,rfl,zJ.of hsa,hsv,G.sf.ok (by decide) (by decide),n1,n3,(by omega),λl1 rv1 H1 s1 f1 e1 hr1=>?_⟩
  have SG1:=s1
  have len1:rv1.length=(xi n bs m lo hi zH 0).length:=Paired.length hr1
  refine ⟨l1,rv1,rfl,e1,λle=>?_,λgt=>qx (λz=>by have:=z 0 (Nat.zero_le _); omega) _ s1⟩
  refine ⟨wQ,λfl hfl=>?_⟩
  have nfl:H fl=none:=s1.free hfl
  have n1f:l1≠fl:=λz=>by rw [<- z,e1] at hfl; cases hfl
  obtain ⟨G2,hhG2,yG2,efl⟩:=zw (HO.lst [V.ref l1]) hfl
  rw [hhG2]
  have SG2:=SG1.trans yG2
  replace e1:=(yG2 _ _ e1)
  replace hr1:=(yI.same yG2 hr1)
  obtain ⟨g1,g2⟩:=KE efl n1f e1 hr1
  have sHG:zG H (hide [fl] G2):=ug nfl SG2
  refine ⟨_,rfl,(k:Int),rfl,(by omega),(by omega),uO (lo:=0) (n:=(k:Int).toNat)
   (λi σ H'=>∃ (lv:List V) (o6:Option V),σ=[some (.ref o),some (.ref sa),some (.int lo),some (.int hi),some (.int (k:Int)),some (.ref fl),o6]/\zG H (hide [fl] H')/\H' fl=some (.lst lv)/\w8 (hide [fl] H') lv (ui n bs m lo hi zH i)/\xz n bs m lo hi zH i)
   ⟨[.ref l1],none,rfl,sHG,efl,.cons ⟨l1,rv1,rfl,g1,g2⟩ .nil,λj hj=>by rw [Nat.le_zero.mp hj]; omega⟩ ?_ ?_⟩
  ·rintro i σ J0 hi6 ⟨lv,o6,rfl,sm,ef,hlv,OK⟩
   have i6:i < k:=by omega
   have sj:=sm.trans yx
   have llv:lv.length=i + 1:=(Paired.length hlv).trans (by unfold ui; rw [List.length_map,List.length_range])
   obtain ⟨v,hv⟩:∃ v,lv[i]? = some v:=⟨_,List.getElem?_eq_getElem (by omega)⟩
   obtain ⟨rows,hrows,a,rv,rfl,ea,era⟩:=xU hlv hv
   have erows:rows=xi n bs m lo hi zH i:=by
    unfold ui at hrows
    rw [List.getElem?_map,List.getElem?_range (by omega)] at hrows
    exact (Option.some.inj hrows).symm
   have HB:WB rows n (wK i) (bK i):=erows ▸ G.held i
   have six:=qd (k:=i) (by omega)
   have six1:=qd (k:=i + 1) (by omega)
   have wb:=je i
   have r60:rows.length<=60:=erows ▸ OK i (Nat.le_refl _)
   have W3r:=G.three HB wb.1 wb.2
   have hlast:yk lv (-1)=some (.ref a):=by
    have e:lv=lv.take i++[V.ref a]:=by rw [<- xH hv,List.take_of_length_le (by omega)]
    rw [e]
    exact ue _ _
   have eA:=yx _ _ ea
   have eR:=yI.same yx era
   refine ⟨_,rfl,.inl ⟨rfl,_,zJ.of ef⟩,_,rfl,_,rfl,_,rfl,_,rfl,fl,_,_,_,rfl,rfl,zJ.of ef,hlast,_,rfl,_,rfl,o,kp,km,a,n,bs,m,pv,mv,rv,lo,hi,rows,rfl,yr.same sj TA,TO,G.mbd,(λx hx=>(G.st x hx).mono),(λb hb=>⟨((G.bb b hb).1).mono,((G.bb b hb).2).mono⟩),eA,eR,HB.ok (by omega) (by omega),r60,(λr hr x hx=>?_),λl2 lv2 J1 z1 _ el2 hl2=>?_⟩
   ·obtain ⟨j,_,rfl⟩:=List.mem_map.mp hx
    exact (YL (HB r hr).2.1 G.pu (by have:=(HB r hr).1; omega) j).mono (by omega)
   rw [KC n3] at hl2
   have SJ1:=sj.trans z1
   replace ef:=(z1 _ _ ef)
   have l62:(uB n bs m lo hi rows).length<=62:=by
    unfold uB
    rw [List.length_append,List.length_map]
    show rows.length + 2<=62
    omega
   have n961:=zNl l62
   refine ⟨l2,lv2,n,uB n bs m lo hi rows,rfl,el2,hl2,(λr hr=>?_),n1,n3,l62,(by omega),λl3 lv3 J2 z2 _ el3 hl3=>?_⟩
   ·obtain ⟨x1,x2,x3,x4⟩:=W3r r hr
    exact ⟨x1,λx hx=>(x2 x hx).mono (by omega),x3.mono (by omega),x4.mono (by omega)⟩
   have SJ2:=SJ1.trans z2
   replace ef:=(z2 _ _ ef)
   have len3:=Paired.length hl3
   have len0:=Paired.length hsv
   refine ⟨sa,l3,_,_,rfl,rfl,SJ2 _ _ hsa,el3,yd (by omega),λl4 hl4=>?_⟩
   obtain ⟨J3,hhJ3,yJ3,el4⟩:=zw (HO.lst (sv++lv3)) hl4
   rw [hhJ3]
   have SJ3:=SJ2.trans yJ3
   replace ef:=(yJ3 _ _ ef)
   replace hl3:=(yI.same yJ3 hl3)
   have EF3:=ef
   have hcat:yI J3 (sv++lv3) (uw n bs m lo hi zH rows):=ju (yI.same SJ3 hsv) hl3
   have lcat:(uw n bs m lo hi zH rows).length<=990:=by
    unfold uw
    rw [List.length_append]
    omega
   refine ⟨l4,_,_,n,rfl,zJ.of el4,hcat,(G.aft HB).ok (by omega) (by omega),n1,n3,lcat,λl5 rv5 J4 z4 f5 el5 hr5=>?_⟩
   have SJ4:=SJ3.trans z4
   replace ef:=(z4 _ _ ef)
   rw [erows] at hr5
   have len5:rv5.length=(xi n bs m lo hi zH (i + 1)).length:=Paired.length hr5
   refine ⟨l5,rv5,rfl,el5,λle=>?_,λgt=>qx (λz=>by have:=z (i + 1) (by omega); omega) _ SJ4⟩
   have kX:l5≠fl:=λz=>by rw [z] at f5; rw [EF3] at f5; cases f5
   obtain ⟨g1,g2⟩:=KE ef kX el5 hr5
   have h4:=(wC (B:=[fl]) (z1.trans (z2.trans (yJ3.trans z4)))).trans (w6 (x:=fl) (HO.lst (lv++[V.ref l5])))
   refine ⟨fl,lv,.ref l5,rfl,rfl,ef,wY (by omega),?_⟩
   refine ⟨lv++[V.ref l5],_,rfl,sm.trans h4,zj,?_,OK.step (by omega)⟩
   rw [zKM]
   exact xg ⟨l5,rv5,rfl,w6 (x:=fl) _ _ _ g1,yI.same (w6 (x:=fl) _) g2⟩ (w8.same h4 hlv)
  rintro σ J0 ⟨lv,o6,rfl,sm,ef,hlv,OK⟩
  refine ⟨_,rfl,q fl lv J0 (sm.trans yx) nfl ef ?_ ?_⟩
  ·rw [show (k:Int).toNat=k by omega] at hlv
   exact w8.same yx hlv
  ·rw [show (k:Int).toNat=k by omega] at OK
   exact OK
 rcases W with ⟨_,q⟩ | ⟨m,_,pl,_⟩
 ·exact q _ (zG.refl _)
 ·exact absurd pl np
end
theorem ux {n:Nat} {a b:Int} (h:Bd n b) (p:0 < b):Bd n (a.fmod b):=by
 have h1:=Int.fmod_nonneg_of_pos a p
 have h2:=Int.fmod_lt_of_pos a p
 exact h.of_le (by omega)
theorem j1 {i:Nat} (h:i < 16):Bd 4 (0 + (i:Int)):=by
 show (0 + (i:Int)).natAbs < 2 ^ 4
 omega
theorem x8 {xs:List Int} {i:Int} {k:Nat} (h:k < xs.length) (e:i=(k:Int)):yk (xs.map V.int) i=some (.int (xs.getD k 0)):=by
 rw [e,zOD h,List.getD_eq_getElem?_getD,List.getElem?_eq_getElem h]
 rfl
theorem zO5 {b:Bool} {x y:Int}:yk [V.int x,V.int y] (if b then 1 else 0)=some (.int (if b then y else x)):=by cases b <;> rfl
theorem vX {α:Type} {P:α->Prop} {xs:List α} {y:α} (h:∀ x∈xs,P x) (k:P y):∀ x∈xs++[y],P x:=λx hx=>by
 rcases List.mem_append.mp hx with hx | hx
 ·exact h x hx
 ·rw [List.mem_singleton.mp hx]; exact k
theorem wg {y f:Int} {n:Nat} (h:Bd n f) (h1 : -f<=y) (h2:y<=f):Bd n y:=h.of_le (by omega)
theorem YM {B:List Addr} {x:Addr} {H:Hp} (h:x∈B) (o:HO):zG (hide B H) (hide B (upd H x o)):=Xv ((jx.refl B H).put o h)
theorem YN {B:List Addr} {x:Addr} {H:Hp}:zG (hide (x :: B) H) (hide B H):=λb o h=>by
 have e:=Qp h
 rw [wV e] at h
 rw [wV λz=>e (List.mem_cons_of_mem _ z)]
 exact h
theorem qe {B:List Addr} {H G:Hp} {c:Addr} (hB:∀ b∈B,∃ o,H b=some o) (s:zG H G) (hc:G c=none):c∉B:=λz=>by
 obtain ⟨o,ho⟩:=hB c z
 rw [s _ _ ho] at hc
 cases hc
structure W4 (n w:Nat) (nx pu:List (List Int)) (ad:List Int) (dv:Int):Prop where
 nl:nx.length=n
 nr:∀ r∈nx,r.length=n/\∀ x∈r,Bd 3 x
 pl:pu.length=n
 pr:∀ r∈pu,r.length=w/\∀ x∈r,Bd 2 x
 al:ad.length=n
 ab:∀ x∈ad,Bd 102 x
 d1:1<=dv
 d3:Bd 3 dv
inductive qf (H:Hp) (n w:Nat) (v:V):Prop
 | mk (t ra na sa pa aa:Addr) (nv pv:List V) (nx pu:List (List Int)) (ad:List Int) (dv:Int) (_:v=.ref t) (_:H t=some (.tup [.ref ra,.ref na,.ref sa,.ref pa,.ref aa,.int dv])) (_:H na=some (.lst nv)) (_:zX H nv nx) (_:H pa=some (.lst pv)) (_:zX H pv pu) (_:H aa=some (.lst (ad.map V.int))) (_:W4 n w nx pu ad dv):qf H n w v
theorem qf.same {H H':Hp} {n w:Nat} {v:V} (s:zG H H') (h:qf H n w v):qf H' n w v:=by
 obtain ⟨t,ra,na,sa,pa,aa,nv,pv,nx,pu,ad,dv,e,h1,h2,h3,h4,h5,h6,h7⟩:=h
 exact ⟨t,ra,na,sa,pa,aa,nv,pv,nx,pu,ad,dv,e,s _ _ h1,s _ _ h2,zX.same s h3,s _ _ h4,zX.same s h5,s _ _ h6,h7⟩
inductive qg (vs:List V) (H:Hp) (Q:VK) (E:XK):Prop
 | mk (x far:Int) (_:vs=[.int x,.int far]) (_:0<=far) (_:Bd 100 far) (_:∀ y:Int,-far<=y->y<=far->Q (.int y) H):qg vs H Q E
inductive W5 (vs:List V) (H:Hp) (Q:VK) (E:XK):Prop
 | mk (c u:Int) (n w:Nat) (sp:Bool) (B:List Addr) (_:vs=[.int c,.int (n:Int),.int (w:Int),.int u,.bl sp]) (_:1<=n) (_:n<=3) (_:w<=2) (_:0 < u) (_:Bd 100 u) (_:(∀ b∈B,∃ o,H b=some o)) (_:∀ v H',zG H H'->qf (hide B H') n w v->Q v H'):W5 vs H Q E
section
variable {P:Program} {w:World} {K:PySem.W.Frag} {mg:Str->Option Value} {base:Heap} {cM cP:Addr}
abbrev W6:Stmt:=yh 57
theorem zHY:ya ["_law_script","_law_k"] ["_law_script","_law_k"] (ze W6):=.a
abbrev W7:Stmt:=yh 58
theorem j2:ya ["_law_cell","_law_many","_law_found","_law_rest","_law_k","_law_number_here"] ["_law_cell","_law_many"] (ze W7):=.a
abbrev W8:Stmt:=yh 65
theorem zIE:ya ["_law_x","_law_far"] ["_law_x","_law_far"] (ze W8):=.a
abbrev qh:Stmt:=yh 66
theorem jf:ya kW X5 (ze qh):=.a
variable {ac af:Addr} (ae:yJ K mg "Mode" ac) (ag:wr K ac) (ah:yJ K mg "Thing" af) (ai:wt K af)
include ae ag ah ai
theorem zHi {k:Nat} {f:Addr} {fd:FuncData} (F:yb K "_law_cell_at" "_law_cell_at" W6 f fd) (B:Bl mg):zU P w K mg base yG (k + 1) f fd ["_law_script","_law_k"] (kH K):=by
 refine F.ok zHY ?_ ?_
 ·rintro vs H Q E ⟨a,ns,k,rfl,_⟩
  rfl
 rintro cdv A outer s H vs Q E hr ⟨a,ns,k,rfl,hS,h0,q⟩
 refine ⟨_,(zW (yq (xX (yU qB) (zC 1) (ym yw rfl B.len_ wZ (zD (zC 0) zI)) (yu _)) (zY (yH (zh yi (zC 0) (zC 1) (λ_ _=>rfl)))) yt)
  (zY (yH zK))),?_⟩
 try dsimp only [zP,Cx.nox,Cx.wish]
 refine ⟨_,rfl,_,rfl,a,_,rfl,.inl hS,_,_,rfl,rfl,_,rfl,?_⟩
 refine vQ (λc=>?_) (λc=>?_)
 ·have c':k < ((ns.map V.int).length:Int):=of_decide_eq_true c
  rw [List.length_map] at c'
  have hk:k.toNat < ns.length:=by omega
  have ek:k=((k.toNat:Nat):Int):=by omega
  have q0:yk (ns.map V.int) ((k.toNat:Nat):Int)=some (.int ns[k.toNat]):=um (by rw [List.getElem?_map,List.getElem?_eq_getElem hk]; rfl)
  rw [<- ek] at q0
  refine ⟨_,rfl,_,rfl,a,_,k,.int (ns[k.toNat]),rfl,rfl,hS,q0,?_⟩
  ·have e:ns[k.toNat]=xB ns k:=by unfold xB; rw [List.getElem?_eq_getElem hk]; rfl
   rw [e]
   exact q
 ·have c':¬ k < ((ns.map V.int).length:Int):=λz=>c (decide_eq_true z)
  rw [List.length_map] at c'
  have e:(0:Int)=xB ns k:=by unfold xB; rw [List.getElem?_eq_none (by omega)]; rfl
  show Q (.int 0) H
  rw [e]
  exact q
theorem zIV {k:Nat} {f:Addr} {fd:FuncData} (F:yb K "_law_stream" "_law_stream" W7 f fd) (B:Bl mg):zU P w K mg base yG (k + 1) f fd ["_law_cell","_law_many"] jv:=by
 refine F.ok j2 ?_ ?_
 ·rintro vs H Q E ⟨c,mm,rfl,_⟩
  rfl
 rintro cdv A outer s H vs Q E hr ⟨c,mm,rfl,m0,m10,q⟩
 refine ⟨_,(zW (zy (i:=2) j2.nd rfl (Or.inl rfl) (xF zI))
  (zW (yq (xX (yU JQ) (zC 0) (zV (ji jm) zK zK) (yu _)) (zW (zy (i:=3) j2.nd rfl (Or.inl rfl) (zV (yU wz) (zC 0) (zV (ji jm) zK zK)))
   (zW (wI PassesOwn.never rfl (wX rfl B.range_ (zD (zC 1) zI)) (zr (i:=4) j2.nd rfl (Or.inl rfl)) (zW (vB (vI PySem.F.plainAttrs_list PySem.F.slot_list_append PySem.F.type_list_append xP (zC 2) (zD (zV (ji wA) (zC 3) (zV (ji jm) zK zK)) zI)))
    (zY (zy (i:=3) j2.nd rfl (Or.inl rfl) (zV (ji v8) (zC 3) (zV (ji jm) zK zK))))))
   (zY (yH (zC 2))))) yt)
  (zW (zy (i:=5) j2.nd rfl (Or.inl rfl) (zV (yU yz) (zV (ji wA) (zC 0) (zV (yU yz) (zV (ji jm) zK zK) zK)) zK))
  (zW (wI PassesOwn.never rfl (wX rfl B.range_ (zD (zV (yU yz) (zC 1) zK) zI)) (zr (i:=4) j2.nd rfl (Or.inl rfl)) (zW (zy (i:=5) j2.nd rfl (Or.inl rfl) (zV (ji wA) (zV (yU yz) (zV (yU yz) (zV (ji yy) (zC 5) (zC 5)) (zV (ji yy) zK (zC 5))) (zC 4)) (zV (yU yz) (zV (ji jm) zK zK) zK)))
   (zY (vB (vI PySem.F.plainAttrs_list PySem.F.slot_list_append PySem.F.type_list_append xP (zC 2) (zD (zC 5) zI))))))
  (zY (yH (vO Qn (zC 2) (vD zK) v7))))))),?_⟩
 try dsimp only [zP,Cx.nox,Cx.wish]
 refine ⟨vL,λl hl=>?_⟩
 refine ⟨_,rfl,_,_,rfl,rfl,⟨by decide,by decide,by decide⟩,_,_,rfl,rfl,_,rfl,?_⟩
 refine vQ (λcc=>?_) (λcc=>?_)
 ·refine ⟨_,rfl,_,_,rfl,rfl,⟨by decide,by decide,by decide⟩,_,_,rfl,rfl,?_⟩
  refine ⟨_,rfl,mm,rfl,(by omega),(by omega),uO (lo:=0) (n:=mm.toNat)
   (λi σ H2=>∃ (xs:List Int) (rs:Int) (kk:Option V),σ=[some (.int c),some (.int mm),some (.ref l),some (.int rs),kk,none]/\H2=upd H l (.lst (xs.map V.int))/\xs.length=i/\∀ x∈xs,0<=x/\x < 10 ^ 45)
   ⟨[],_,none,rfl,rfl,rfl,λx hx=>by cases hx⟩ ?_ ?_⟩
  ·rintro i σ H2 hi ⟨xs,rs,kk,rfl,rfl,hlen,hxs⟩
   refine ⟨_,rfl,.inl ⟨rfl,_,zJ.of zj⟩,_,rfl,_,_,rfl,rfl,⟨by decide,by decide,by decide⟩,_,_,rfl,rfl,(show (10:Int) ^ (45:Int).toNat≠0 by decide),l,_,_,rfl,rfl,zj,?_,?_⟩
   ·rw [List.length_map]
    exact wY (by omega)
   refine ⟨_,rfl,_,_,rfl,rfl,⟨by decide,by decide,by decide⟩,_,_,rfl,rfl,⟨(show (10:Int) ^ (45:Int).toNat≠0 by decide),(show Bd 150 ((10:Int) ^ (45:Int).toNat) from Bd.lit).mono⟩,?_⟩
   refine ⟨xs++[rs.fmod ((10:Int) ^ (45:Int).toNat)],_,_,rfl,?_,?_,λx hx=>?_⟩
   ·rw [U7,List.map_append]
    rfl
   ·rw [List.length_append,hlen]
    rfl
   ·rcases List.mem_append.mp hx with hx | hx
    ·exact hxs x hx
    ·rw [List.mem_singleton.mp hx]
     exact ⟨Int.fmod_nonneg_of_pos _ (by decide),Int.fmod_lt_of_pos _ (by decide)⟩
  ·rintro σ H2 ⟨xs,rs,kk,rfl,rfl,hlen,hxs⟩
   exact ⟨_,rfl,q l _ xs (zx hl _) hl zj hlen hxs⟩
 ·have p0:(0:Int) < 10 ^ (18:Int).toNat + 9:=by decide
  have b0:Bd 61 ((10:Int) ^ (18:Int).toNat + 9):=Bd.lit
  have bmod:∀ z:Int,Bd 61 (z.fmod ((10:Int) ^ (18:Int).toNat + 9)):=λz=>by
   have h1:=Int.fmod_nonneg_of_pos z p0
   have h2:=Int.fmod_lt_of_pos z p0
   have h3:((10:Int) ^ (18:Int).toNat + 9).natAbs < 2 ^ 61:=b0
   show (z.fmod ((10:Int) ^ (18:Int).toNat + 9)).natAbs < 2 ^ 61
   omega
  refine ⟨_,rfl,_,_,rfl,rfl,⟨by decide,by decide,by decide⟩,_,_,rfl,rfl,_,_,rfl,rfl,(show (10:Int) ^ (18:Int).toNat + 9≠0 by decide),_,_,rfl,rfl,?_⟩
  have bk:Bd 61 (48271:Int):=Bd.lit
  have hb0:Bd 62 (c.fmod ((10:Int) ^ (18:Int).toNat + 9) + 48271):=(bmod c).add bk
  refine ⟨_,rfl,_,_,rfl,rfl,mm + 2,rfl,(by omega),(by omega),uO (lo:=0) (n:=(mm + 2).toNat)
   (λi σ H2=>∃ (xs:List Int) (nh:Int) (kk:Option V),σ=[some (.int c),some (.int mm),some (.ref l),none,kk,some (.int nh)]/\H2=upd H l (.lst (xs.map V.int))/\xs.length=i/\Bd 62 nh/\∀ x∈xs,0<=x/\x < 10 ^ 45)
   ⟨[],_,none,rfl,rfl,rfl,hb0,λx hx=>by cases hx⟩ ?_ ?_⟩
  ·rintro i σ H2 hi ⟨xs,nh,kk,rfl,rfl,hlen,hnh,hxs⟩
   refine ⟨_,rfl,_,rfl,_,_,rfl,rfl,⟨hnh.mono,hnh.mono⟩,_,rfl,_,_,rfl,rfl,⟨bk.mono,hnh.mono⟩,_,_,rfl,rfl,_,rfl,_,_,rfl,rfl,_,_,rfl,rfl,⟨by decide,by decide,by decide⟩,_,_,rfl,rfl,
    _,_,rfl,rfl,(show (10:Int) ^ (18:Int).toNat + 9≠0 by decide),?_⟩
   refine ⟨_,rfl,.inl ⟨rfl,_,zJ.of zj⟩,_,rfl,l,_,_,rfl,rfl,zj,?_,?_⟩
   ·rw [List.length_map]
    exact wY (by omega)
   refine ⟨xs++[(nh * nh + 48271 * nh + (0 + (i:Int))).fmod ((10:Int) ^ (18:Int).toNat + 9)],_,_,rfl,?_,?_,(bmod _).mono,λx hx=>?_⟩
   ·rw [U7,List.map_append]
    rfl
   ·rw [List.length_append,hlen]
    rfl
   ·rcases List.mem_append.mp hx with hx | hx
    ·exact hxs x hx
    ·rw [List.mem_singleton.mp hx]
     have h2:=Int.fmod_lt_of_pos (nh * nh + 48271 * nh + (0 + (i:Int))) p0
     have h3:(10:Int) ^ (18:Int).toNat + 9 < 10 ^ 45:=by decide
     exact ⟨Int.fmod_nonneg_of_pos _ p0,by omega⟩
  ·rintro σ H2 ⟨xs,nh,kk,rfl,rfl,hlen,hnh,hxs⟩
   refine ⟨_,rfl,_,rfl,l,_,rfl,zJ.of zj,λp hp=>?_⟩
   have ec:yY (xs.map V.int) (some 2) none=(xs.drop 2).map V.int:=by
    have e1:HT.sIx (xs.map V.int).length 0 (some 2)=min 2 (xs.map V.int).length:=HT.sIx_nat _ 0 2
    unfold yY
    rw [e1,HT.sIx_none,List.length_map,hlen,show min 2 (mm + 2).toNat=2 by omega,<- List.map_drop,List.take_of_length_le (by rw [List.length_map,List.length_drop]; omega)]
   refine q p _ (xs.drop 2) ((zx hl _).trans (zx hp _)) ((zx hl _).free hp) (zj.trans (by rw [ec])) (by rw [List.length_drop]; omega) λx hx=>hxs x (List.mem_of_mem_drop hx)
theorem zIW {k:Nat} {f:Addr} {fd:FuncData} (F:yb K "_law_number" "_law_number" W8 f fd) (B:Bl mg):zU P w K mg base yG (k + 1) f fd ["_law_x","_law_far"] qg:=by
 refine F.ok zIE ?_ ?_
 ·rintro vs H Q E ⟨x,far,rfl,_⟩
  rfl
 rintro cdv A outer s H vs Q E hr ⟨x,far,rfl,f0,bf,q⟩
 refine ⟨_,(zY (yH (zV (yU wz) (zV (ji wA) (zC 0) (zV (yU yz) (zV (ji yy) zK (zC 1)) zK)) (zC 1)))),?_⟩
 try dsimp only [zP,Cx.nox,Cx.wish]
 refine ⟨_,rfl,_,rfl,_,_,rfl,rfl,⟨Bd.mono (i:=2) (n:=3) Bd.lit (by decide),bf.mono⟩,_,_,rfl,rfl,_,_,rfl,rfl,(show (2:Int) * far + 1≠0 by omega),_,rfl,_,_,rfl,rfl,?_⟩
 have h1:=Int.fmod_nonneg_of_pos x (show (0:Int) < 2 * far + 1 by omega)
 have h2:=Int.fmod_lt_of_pos x (show (0:Int) < 2 * far + 1 by omega)
 exact q (x.fmod (2 * far + 1) - far) (by omega) (by omega)
theorem zLJ {k:Nat} {f:Addr} {fd:FuncData} (F:yb K "_law_mode" "_law_mode" qh f fd) (B:Bl mg) (aq:Fn P w K mg base "_law_stream" ["_law_cell","_law_many"] k jv) (ak:Fn P w K mg base "_law_number" ["_law_x","_law_far"] k qg):zU P w K mg base yG (k + 1) f fd X5 W5:=by
 refine F.ok jf ?_ ?_
 ·rintro vs H Q E ⟨c,u,n,w,sp,Bs,rfl,_⟩
  rfl
 rintro cdv A outer s H vs Q E hr ⟨c,u,n,w,sp,Bs,rfl,n1,n3,w2,u0,bu,hB,q⟩
 refine ⟨_,(zW (zy (i:=5) jf.nd rfl (Or.inr rfl) (zk aq hr rfl (zD (zC 0) (zD zK zI))))
  (zW (zy (i:=6) jf.nd rfl (Or.inr rfl) (zV (yU yz) zK (zV (ji wA) (zh yi (zC 5) zK (λ_ _=>rfl)) zK)))
  (zW (zy (i:=7) jf.nd rfl (Or.inl rfl) (xF zI))
  (zW (zy (i:=8) jf.nd rfl (Or.inl rfl) (xF zI))
  (zW (wI PassesOwn.never rfl (wX rfl B.range_ (zD (zC 1) zI)) (zr (i:=9) jf.nd rfl (Or.inr rfl)) (zW (vB (vI PySem.F.plainAttrs_list PySem.F.slot_list_append PySem.F.type_list_append xP (zC 7) (zD (xu (own:=["_law_j"]) (caps:=[(5,"_law_xs"),(6,"_law_divisor_here"),(9,"_law_i")]) (wD (S:=ze qh) (N:=kW) ⟨_,rfl⟩) rfl (wX rfl B.range_ (zD (zC 1) zI)) (λ_ _ _ _=>zr (i:=0) (show (["_law_j","_law_xs","_law_divisor_here","_law_i"]:List Str).Nodup by decide +kernel) rfl (Or.inl rfl)) (λ_ _ _ _=>(zk ak hr rfl (zD (zh (show wT _ (we (zJ K)) from yi) (zC 1) (zV (yU yz) (zV (yU yz) zK (zV (ji yy) zK (zC 3))) (zC 0)) (λ_ _=>rfl)) (zD (zh (show wT _ (we (zJ K)) from yi) (xF (zD zK (zD (zV (yU wz) (zC 2) zK) zI))) (xn JT rfl B.int_ Xa (zD (uP vc (zC 3) (zC 0) (yu _)) zI)) (λ_ _=>rfl)) zI))))) zI)))
   (zY (vB (vI PySem.F.plainAttrs_list PySem.F.slot_list_append PySem.F.type_list_append xP (zC 8) (zD (xu (own:=["_law_j"]) (caps:=[(5,"_law_xs"),(9,"_law_i")]) (wD (S:=ze qh) (N:=kW) ⟨_,rfl⟩) rfl (wX rfl B.range_ (zD (zC 2) zI)) (λ_ _ _ _=>zr (i:=0) (show (["_law_j","_law_xs","_law_i"]:List Str).Nodup by decide +kernel) rfl (Or.inl rfl)) (λ_ _ _ _=>(zk ak hr rfl (zD (zh (show wT _ (we (zJ K)) from yi) (zC 1) (zV (yU yz) (zV (yU yz) zK (zV (ji yy) zK (zC 2))) (zC 0)) (λ_ _=>rfl)) (zD zK zI))))) zI))))))
  (zW (qO (i:=10) jf.nd rfl rfl (own:=["_law_i"]) (caps:=[(3,"_law_unit"),(5,"_law_xs")]) (wD (S:=ze qh) (N:=kW) ⟨_,rfl⟩) rfl (wX rfl B.range_ (zD (zC 1) zI)) (λ_ _ _ _=>zr (i:=0) (show (["_law_i","_law_unit","_law_xs"]:List Str).Nodup by decide +kernel) rfl (Or.inl rfl)) (λ_ _ _ _=>(zV (ji yy) (zk ak hr rfl (zD (zh (show wT _ (we (zJ K)) from yi) (zC 2) (zV (yU yz) zK (zC 0)) (λ_ _=>rfl)) (zD zK zI))) (zV (ji wA) (zh (show wT _ (we (zJ K)) from yi) (zC 2) zK (λ_ _=>rfl)) (zC 1)))) rfl)
  (zW (zy (i:=11) jf.nd rfl (Or.inl rfl) (xF zI))
  (zW (yq (xW (zC 4)) (zW (qO (i:=12) jf.nd rfl rfl (own:=["_law_i"]) (caps:=[(5,"_law_xs")]) (wD (S:=ze qh) (N:=kW) ⟨_,rfl⟩) rfl (wX rfl B.range_ (zD (zC 1) zI)) (λ_ _ _ _=>zr (i:=0) (show (["_law_i","_law_xs"]:List Str).Nodup by decide +kernel) rfl (Or.inl rfl)) (λ_ _ _ _=>(zk ak hr rfl (zD (zh (show wT _ (we (zJ K)) from yi) (zC 1) (zV (yU yz) zK (zC 0)) (λ_ _=>rfl)) (zD zK zI)))) rfl)
   (zY (vB (vI PySem.F.plainAttrs_list PySem.F.slot_list_append PySem.F.type_list_append xP (zC 11) (zD (xn wM rfl B.tuple_ vK (zD (zV xh (zC 12) (xF (zD (zV (ji yy) (zk ak hr rfl (zD (zh yi (zC 5) zK (λ_ _=>rfl)) (zD zK zI))) (zC 3)) zI))) zI)) zI))))) yt)
  (zY (yH (xy (zD (zC 11) (zD (zC 7) (zD (zV Xj (xF (zD zK zI)) (zC 1)) (zD (zC 8) (zD (zC 10) (zD (zC 6) zI))))))))))))))))),?_⟩
 try dsimp only [zP,Cx.nox,Cx.wish]
 refine ⟨_,rfl,_,24,rfl,(by decide),(by decide),λxa J1 xs y1 _ ex lx bx0=>?_⟩
 have lx24:xs.length=24:=lx
 have exJ:=ex
 have px:∀ k,0<=xs.getD k 0:=λk=>by
  rw [List.getD_eq_getElem?_getD]
  cases e:xs[k]? with
  | none=>exact Int.le_refl 0
  | some x=>exact (bx0 x (List.mem_of_getElem? e)).1
 have bx:∀ k,Bd 150 (xs.getD k 0):=λk=>jL (λx hx=>uY (bx0 x hx)) k
 have SG1:=y1
 have d0:=Int.fmod_nonneg_of_pos (xs.getD 0 0) (show (0:Int) < 4 by decide)
 have d4:=Int.fmod_lt_of_pos (xs.getD 0 0) (show (0:Int) < 4 by decide)
 refine ⟨_,rfl,xa,_,_,_,rfl,rfl,zJ.of ex,x8 (xs:=xs) (k:=0) (by omega) (by omega),_,_,rfl,rfl,(show (4:Int)≠0 by decide),_,_,rfl,rfl,?_⟩
 refine ⟨vL,λnl hnl=>?_⟩
 obtain ⟨G2,hhG2,yG2,enl⟩:=zw (HO.lst ([]:List V)) hnl
 rw [hhG2]
 have SG2:=SG1.trans yG2
 refine ⟨vL,λpl hpl=>?_⟩
 have nnp:pl≠nl:=λz=>by rw [z,enl] at hpl; cases hpl
 have hnl0:=hnl
 have hpl0:=yG2.free hpl
 have SN:=SG2
 obtain ⟨G3,hhG3,yG3,epl⟩:=zw (HO.lst ([]:List V)) hpl
 rw [hhG3]
 have SG3:=SG2.trans yG3
 replace enl:=(yG3 _ _ enl)
 have s4:zG J1 (hide [nl,pl] G3):=Qq (λx hx=>by
  rcases List.mem_cons.mp hx with rfl | hx
  ·exact hnl0
  ·rw [List.mem_singleton.mp hx]; exact hpl0) (yG2.trans yG3)
 have hB1:∀ b∈Bs,∃ o,J1 b=some o:=λb hb=>(hB b hb).elim λo ho=>⟨o,y1 _ _ ho⟩
 have nlB:nl∉Bs:=qe hB y1 hnl0
 have plB:pl∉Bs:=qe hB y1 hpl0
 refine ⟨_,rfl,_,rfl,(by omega),(by omega),uO (lo:=0) (n:=((n:Nat):Int).toNat)
  (λi σ H'=>∃ (nv pv:List V) (nx pu:List (List Int)) (o9:Option V),σ=[some (.int c),some (.int (n:Int)),some (.int (w:Int)),some (.int u),some (.bl sp),some (.ref xa),some (.int (2 + (xs.getD 0 0).fmod 4)),some (.ref nl),some (.ref pl),o9,none,none,none]/\zG J1 (hide [nl,pl] H')/\H' nl=some (.lst nv)/\H' pl=some (.lst pv)/\zX (hide (nl :: pl :: Bs) H') nv nx/\zX (hide (nl :: pl :: Bs) H') pv pu/\nx.length=i/\pu.length=i/\(∀ r∈nx,r.length=n/\∀ x∈r,Bd 3 x)/\(∀ r∈pu,r.length=w/\∀ x∈r,Bd 2 x))
  ⟨[],[],[],[],none,rfl,s4,enl,epl,.nil,.nil,rfl,rfl,(λr hr=>by cases hr),(λr hr=>by cases hr)⟩ ?_ ?_⟩
 ·rintro i σ L0 hi ⟨nv,pv,nx,pu,o9,rfl,sm,enl,epl,hnv,hpv,ln,lp,hnr,hpr⟩
  have i3:i < 3:=by omega
  have sj:=sm.trans yx
  have exL:=sj _ _ exJ
  have ln1:=Paired.length hnv
  have ln2:=Paired.length hpv
  refine ⟨_,rfl,.inl ⟨rfl,_,zJ.of enl⟩,?_⟩
  refine ⟨_,rfl,_,rfl,(by omega),(by omega),jC (lo:=0) (n:=((n:Nat):Int).toNat)
   (λk zs σ H2=>∃ ws:List Int,zs=ws.map V.int/\ws.length=k/\(∀ x∈ws,Bd 3 x)/\(∃ o,σ=[o,some (.ref xa),some (.int (2 + (xs.getD 0 0).fmod 4)),some (.int (0 + (i:Int)))])/\zG L0 H2)
   ⟨[],rfl,rfl,(λx hx=>by cases hx),⟨none,rfl⟩,zG.refl _⟩ (λk zs σ H2 ⟨ws,e1,l1,_⟩=>by rw [e1,List.length_map]; omega) (yd (by omega)) ?_ ?_⟩
  ·rintro k zs σ H2 hk ⟨ws,rfl,lw,bw,⟨o,rfl⟩,sk⟩
   refine ⟨_,rfl,_,rfl,_,_,rfl,rfl,⟨(Bd.lit (i:=3) (n:=2)).mono,(j1 (i:=i) (by omega)).mono⟩,_,_,rfl,rfl,_,rfl,_,_,rfl,rfl,xa,_,_,_,rfl,rfl,zJ.of (sk _ _ exL),x8 (xs:=xs) (k:=((1 + (3 * i)) + k)) (by omega) (by omega),_,rfl,_,_,rfl,rfl,wf,λl2 hl2=>?_⟩
   have z2:=sk.trans (zx hl2 (HO.lst [V.int 1,V.int ((2 + (xs.getD 0 0).fmod 4) - 1)]))
   refine ⟨_,rfl,_,rfl,rfl,.inr ⟨_,rfl,l2,_,_,_,rfl,rfl,zJ.of zj,zO5,_,_,rfl,?_,?_,λy v1 v2=>?_⟩⟩
   ·split <;> omega
   ·exact wg (f:=4) (n:=100) (Bd.mono (n:=3) Bd.lit (by decide)) (by split <;> omega) (by split <;> omega)
   exact ⟨ws++[y],(by rw [List.map_append]; rfl),(by rw [List.length_append,lw]; rfl),vX bw (wg (f:=4) (n:=3) Bd.lit (by split at v1 <;> omega) (by split at v2 <;> omega)),⟨_,rfl⟩,z2⟩
  rintro zs σ H2k ⟨ws,rfl,lw,bw,⟨o,rfl⟩,sk⟩ c1 hc1
  have lw1:ws.length=n:=by omega
  have c1n:c1≠nl:=(wx (sk _ _ enl) hc1).symm
  have c1p:c1≠pl:=(wx (sk _ _ epl) hc1).symm
  have c1B:c1∉Bs:=qe hB1 (sj.trans sk) hc1
  obtain ⟨M,hhM,zn,ec1⟩:=zw (HO.lst (ws.map V.int)) hc1
  rw [hhM]
  have z2:=sk.trans zn
  refine ⟨nl,nv,_,rfl,rfl,z2 _ _ enl,wY (by omega),?_⟩
  have h4:=(wC (B:=[nl,pl]) z2).trans (YM (x:=nl) List.mem_cons_self (HO.lst (nv++[V.ref c1])))
  have h4B:=(wC (B:=nl :: pl :: Bs) z2).trans (YM (x:=nl) List.mem_cons_self (HO.lst (nv++[V.ref c1])))
  have en2:=zj (H:=M) (a:=nl) (o:=HO.lst (nv++[V.ref c1]))
  have ep2:upd M nl (HO.lst (nv++[V.ref c1])) pl=some (.lst pv):=(yW nnp).trans (z2 _ _ epl)
  have hnv2:zX (hide (nl :: pl :: Bs) (upd M nl (HO.lst (nv++[V.ref c1])))) (nv++[V.ref c1]) (nx++[ws]):=xg (R:=vT _) ⟨c1,rfl,(wV (by simp [c1n,c1p,c1B])).trans ((yW c1n).trans ec1)⟩ (zX.same h4B hnv)
  have hpv2:=zX.same h4B hpv
  have hnr2:=vX hnr ⟨lw1,bw⟩
  have sm2:=sm.trans h4
  have exM:upd M nl (HO.lst (nv++[V.ref c1])) xa=some (.lst (xs.map V.int)):=(sm2.trans yx) _ _ exJ
  generalize hhM2:upd M nl (HO.lst (nv++[V.ref c1]))=M2 at en2 ep2 hnv2 hpv2 sm2 exM |-
  refine ⟨_,rfl,.inl ⟨rfl,_,zJ.of ep2⟩,?_⟩
  refine ⟨_,rfl,_,rfl,(by omega),(by omega),jC (lo:=0) (n:=((w:Nat):Int).toNat)
   (λk zs σ H2=>∃ us:List Int,zs=us.map V.int/\us.length=k/\(∀ x∈us,Bd 2 x)/\(∃ o,σ=[o,some (.ref xa),some (.int (0 + (i:Int)))])/\zG M2 H2)
   ⟨[],rfl,rfl,(λx hx=>by cases hx),⟨none,rfl⟩,zG.refl _⟩ (λk zs σ H2 ⟨ws,e1,l1,_⟩=>by rw [e1,List.length_map]; omega) (yd (by omega)) ?_ ?_⟩
  ·rintro k zs σ H2 hk ⟨us,rfl,lu,bv,⟨o,rfl⟩,sk⟩
   refine ⟨_,rfl,_,rfl,_,_,rfl,rfl,⟨(Bd.lit (i:=2) (n:=2)).mono,(j1 (i:=i) (by omega)).mono⟩,_,_,rfl,rfl,_,rfl,_,_,rfl,rfl,xa,_,_,_,rfl,rfl,zJ.of (sk _ _ exM),x8 (xs:=xs) (k:=((10 + (2 * i)) + k)) (by omega) (by omega),_,_,rfl,(by decide),Bd.lit,λy v1 v2=>?_⟩
   exact ⟨us++[y],(by rw [List.map_append]; rfl),(by rw [List.length_append,lu]; rfl),vX bv (wg (f:=2) (n:=2) Bd.lit v1 v2),⟨_,rfl⟩,sk⟩
  rintro zs σ H2k ⟨us,rfl,lu,bv,⟨o,rfl⟩,sk⟩ c2 hc2
  have lu1:us.length=w:=by omega
  have c2n:c2≠nl:=(wx (sk _ _ en2) hc2).symm
  have c2p:c2≠pl:=(wx (sk _ _ ep2) hc2).symm
  have c2B:c2∉Bs:=qe hB1 ((sm2.trans yx).trans sk) hc2
  obtain ⟨M3,hhM3,zn,ec2⟩:=zw (HO.lst (us.map V.int)) hc2
  rw [hhM3]
  have z3:=sk.trans zn
  refine ⟨pl,pv,_,rfl,rfl,z3 _ _ ep2,wY (by omega),?_⟩
  have mpl:pl∈[nl,pl]:=List.mem_cons_of_mem _ (List.mem_singleton.mpr rfl)
  have mplB:pl∈nl :: pl :: Bs:=List.mem_cons_of_mem _ List.mem_cons_self
  have h5:=(wC (B:=[nl,pl]) z3).trans (YM (x:=pl) mpl (HO.lst (pv++[V.ref c2])))
  have h5B:=(wC (B:=nl :: pl :: Bs) z3).trans (YM (x:=pl) mplB (HO.lst (pv++[V.ref c2])))
  refine ⟨nv++[V.ref c1],pv++[V.ref c2],nx++[ws],pu++[us],_,rfl,sm2.trans h5,(yW nnp.symm).trans (z3 _ _ en2),zj,zX.same h5B hnv2,?_,(by rw [List.length_append,ln]; rfl),(by rw [List.length_append,lp]; rfl),hnr2,vX hpr ⟨lu1,bv⟩⟩
  exact xg (R:=vT _) ⟨c2,rfl,(wV (by simp [c2n,c2p,c2B])).trans ((yW c2p).trans ec2)⟩ (zX.same h5B hpv2)
 rintro σ L0 ⟨nv,pv,nx,pu,o9,rfl,sm,enl,epl,hnv,hpv,ln,lp,hnr,hpr⟩
 have sj:=sm.trans yx
 have hnv:zX (hide Bs L0) nv nx:=zX.same (YN.trans YN) hnv
 have hpv:zX (hide Bs L0) pv pu:=zX.same (YN.trans YN) hpv
 have exL:=sj _ _ exJ
 refine ⟨_,rfl,_,rfl,(by omega),(by omega),jC (lo:=0) (n:=((n:Nat):Int).toNat)
  (λk zs σ H2=>∃ ws:List Int,zs=ws.map V.int/\ws.length=k/\(∀ x∈ws,Bd 102 x)/\(∃ o,σ=[o,some (.int u),some (.ref xa)])/\zG L0 H2)
  ⟨[],rfl,rfl,(λx hx=>by cases hx),⟨none,rfl⟩,zG.refl _⟩ (λk zs σ H2 ⟨ws,e1,l1,_⟩=>by rw [e1,List.length_map]; omega) (yd (by omega)) ?_ ?_⟩
 ·rintro k zs σ H2 hk ⟨ws,rfl,lw,bw,⟨o,rfl⟩,sk⟩
  refine ⟨_,rfl,_,rfl,_,_,rfl,rfl,xa,_,_,_,rfl,rfl,zJ.of (sk _ _ exL),x8 (xs:=xs) (k:=(16 + k)) (by omega) (by omega),_,_,rfl,(by decide),Bd.lit,λy v1 v2=>?_⟩
  have by2:Bd 2 y:=wg (f:=2) Bd.lit v1 v2
  have bm:Bd 100 ((xs.getD 19 0).fmod u):=ux bu (by omega)
  refine ⟨_,rfl,xa,_,_,_,rfl,rfl,zJ.of (sk _ _ exL),x8 (xs:=xs) (k:=19) (by omega) (by omega),_,rfl,_,_,rfl,rfl,(show u≠0 by omega),_,_,rfl,rfl,⟨by2.mono,bm.mono⟩,?_⟩
  exact ⟨ws++[y * (xs.getD 19 0).fmod u],(by rw [List.map_append]; rfl),(by rw [List.length_append,lw]; rfl),vX bw (by2.mul bm),⟨_,rfl⟩,sk⟩
 rintro zs σ H2k ⟨ws,rfl,lw,bw,⟨o,rfl⟩,sk⟩ aa haa
 have aaB:aa∉Bs:=qe hB1 (sj.trans sk) haa
 obtain ⟨A0,hhA,yA,eaa⟩:=zw (HO.lst (ws.map V.int)) haa
 rw [hhA]
 have enlA:=(sk.trans yA) _ _ enl
 have eplA:=(sk.trans yA) _ _ epl
 have exA:=(sk.trans yA) _ _ exL
 refine ⟨vL,λrl hrl=>?_⟩
 obtain ⟨R0,hhR,yR,erl⟩:=zw (HO.lst ([]:List V)) hrl
 rw [hhR]
 refine ⟨_,rfl,_,rfl,?_⟩
 refine vQ (λcs=>?_) (λcs=>?_)
 ·refine ⟨_,rfl,_,rfl,(by omega),(by omega),jC (lo:=0) (n:=((n:Nat):Int).toNat)
   (λk zs σ H2=>∃ rs:List Int,zs=rs.map V.int/\rs.length=k/\(∀ x∈rs,Bd 2 x)/\(∃ o,σ=[o,some (.ref xa)])/\zG R0 H2)
   ⟨[],rfl,rfl,(λx hx=>by cases hx),⟨none,rfl⟩,zG.refl _⟩ (λk zs σ H2 ⟨ws,e1,l1,_⟩=>by rw [e1,List.length_map]; omega) (yd (by omega)) ?_ ?_⟩
  ·rintro k zs σ H2 hk ⟨rs,rfl,lr,br,⟨o,rfl⟩,sr⟩
   refine ⟨_,rfl,_,rfl,_,_,rfl,rfl,xa,_,_,_,rfl,rfl,zJ.of (sr _ _ (yR _ _ exA)),x8 (xs:=xs) (k:=(20 + k)) (by omega) (by omega),_,_,rfl,(by decide),Bd.lit,λy v1 v2=>?_⟩
   exact ⟨rs++[y],(by rw [List.map_append]; rfl),(by rw [List.length_append,lr]; rfl),vX br (wg (f:=1) (n:=2) Bd.lit v1 v2),⟨_,rfl⟩,sr⟩
  rintro zs σ H2k ⟨rs,rfl,lr,br,⟨o,rfl⟩,sr⟩ rr hrr
  obtain ⟨C0,hhC,yC,err⟩:=zw (HO.lst (rs.map V.int)) hrr
  rw [hhC]
  have zR:=yR.trans (sr.trans yC)
  refine ⟨_,rfl,.inl ⟨rfl,_,zJ.of ((sr.trans yC) _ _ erl)⟩,_,rfl,_,rfl,xa,_,_,_,rfl,rfl,zJ.of (zR _ _ exA),x8 (xs:=xs) (k:=23) (by omega) (by omega),_,_,rfl,(by decide),Bd.lit,λy v1 v2=>?_⟩
  refine ⟨_,rfl,_,_,rfl,rfl,⟨(wg (f:=3) (n:=2) Bd.lit v1 v2).mono,bu.mono⟩,wQ,λl1 hl1=>?_⟩
  obtain ⟨D0,hhD,yD,el1⟩:=zw (HO.lst [V.int (y * u)]) hl1
  rw [hhD]
  refine ⟨rr,l1,_,_,rfl,rfl,yD _ _ err,el1,yd ((by rw [List.length_map]; show rs.length + 1<=1000; omega)),λl3 hl3=>?_⟩
  obtain ⟨E0,hhE,yE,el3⟩:=zw (HO.lst (rs.map V.int++[V.int (y * u)])) hl3
  rw [hhE]
  refine ⟨l3,_,rfl,.inl ⟨zJ.of el3,λt3 ht3=>?_⟩⟩
  have yF:=zx ht3 (HO.tup (rs.map V.int++[V.int (y * u)]))
  generalize hhF:upd E0 t3 (HO.tup (rs.map V.int++[V.int (y * u)]))=F0 at yF |-
  have zF:=(sr.trans yC).trans (yD.trans (yE.trans yF))
  refine ⟨rl,[],_,rfl,rfl,zF _ _ erl,wY (by decide),?_⟩
  have zA:zG A0 (upd F0 rl (HO.lst ([]++[V.ref t3]))):=λb o e=>by
   have nb:b≠rl:=λz=>by rw [z,hrl] at e; cases e
   rw [yW nb]
   exact (yR.trans zF) _ _ e
  generalize hhG:upd F0 rl (HO.lst ([]++[V.ref t3]))=G0 at zA |-
  refine ⟨_,rfl,_,rfl,wQ,λz0 hz0=>?_⟩
  obtain ⟨W1,hhW1,w1,ez0⟩:=zw (HO.lst [V.int 0]) hz0
  rw [hhW1]
  refine ⟨_,rfl,z0,_,_,rfl,rfl,ez0,(by omega),(by omega),yd ((by show 1 * ((n:Nat):Int).toNat<=1000; omega)),λsa hsa=>?_⟩
  have w2:=zx hsa (HO.lst (List.replicate ((n:Nat):Int).toNat [V.int 0]).flatten)
  generalize hhW2:upd W1 sa (HO.lst (List.replicate ((n:Nat):Int).toNat [V.int 0]).flatten)=W2 at w2 |-
  refine ⟨_,rfl,_,rfl,_,rfl,Z7,λt ht=>?_⟩
  obtain ⟨W3,hhW3,w3,et⟩:=zw (HO.tup [V.ref rl,V.ref nl,V.ref sa,V.ref pl,V.ref aa,V.int (2 + (xs.getD 0 0).fmod 4)]) ht
  rw [hhW3]
  have w:=zA.trans (w1.trans (w2.trans w3))
  have tB:t∉Bs:=qe hB1 ((sj.trans (sk.trans yA)).trans (zA.trans (w1.trans w2))) ht
  have wB:=wC (B:=Bs) w
  have yB:=(wC (B:=Bs) sk).trans (wC (B:=Bs) yA)
  refine q (.ref t) _ (y1.trans ((sj.trans (sk.trans yA)).trans w)) ⟨t,rl,nl,sa,pl,aa,nv,pv,nx,pu,ws,(2 + (xs.getD 0 0).fmod 4),rfl,(wV tB).trans et,(wV nlB).trans (w _ _ enlA),zX.same (yB.trans wB) hnv,(wV plB).trans (w _ _ eplA),zX.same (yB.trans wB) hpv,(wV aaB).trans (w _ _ eaa),⟨by omega,hnr,by omega,hpr,by omega,bw,by omega,wg (f:=5) (n:=3) Bd.lit (by omega) (by omega)⟩⟩
 ·refine ⟨_,rfl,_,rfl,wQ,λz0 hz0=>?_⟩
  obtain ⟨W1,hhW1,w1,ez0⟩:=zw (HO.lst [V.int 0]) hz0
  rw [hhW1]
  refine ⟨_,rfl,z0,_,_,rfl,rfl,ez0,(by omega),(by omega),yd ((by show 1 * ((n:Nat):Int).toNat<=1000; omega)),λsa hsa=>?_⟩
  have w2:=zx hsa (HO.lst (List.replicate ((n:Nat):Int).toNat [V.int 0]).flatten)
  generalize hhW2:upd W1 sa (HO.lst (List.replicate ((n:Nat):Int).toNat [V.int 0]).flatten)=W2 at w2 |-
  refine ⟨_,rfl,_,rfl,_,rfl,Z7,λt ht=>?_⟩
  obtain ⟨W3,hhW3,w3,et⟩:=zw (HO.tup [V.ref rl,V.ref nl,V.ref sa,V.ref pl,V.ref aa,V.int (2 + (xs.getD 0 0).fmod 4)]) ht
  rw [hhW3]
  have w:=yR.trans (w1.trans (w2.trans w3))
  have tB:t∉Bs:=qe hB1 ((sj.trans (sk.trans yA)).trans (yR.trans (w1.trans w2))) ht
  have wB:=wC (B:=Bs) w
  have yB:=(wC (B:=Bs) sk).trans (wC (B:=Bs) yA)
  refine q (.ref t) _ (y1.trans ((sj.trans (sk.trans yA)).trans w)) ⟨t,rl,nl,sa,pl,aa,nv,pv,nx,pu,ws,(2 + (xs.getD 0 0).fmod 4),rfl,(wV tB).trans et,(wV nlB).trans (w _ _ enlA),zX.same (yB.trans wB) hnv,(wV plB).trans (w _ _ eplA),zX.same (yB.trans wB) hpv,(wV aaB).trans (w _ _ eaa),⟨by omega,hnr,by omega,hpr,by omega,bw,by omega,wg (f:=5) (n:=3) Bd.lit (by omega) (by omega)⟩⟩
end
theorem zOc {g:Int} (g0:0<=g) (g1:g < 4):∃ k:Int,yk [V.int 3,V.int 9,V.int ((10:Int) ^ (15:Int).toNat),V.int ((10:Int) ^ (30:Int).toNat)] g=some (.int k)/\0 < k/\Bd 100 k:=by
 rcases (show g=0\/g=1\/g=2\/g=3 by omega) with e | e | e | e
 ·exact ⟨_,by rw [e]; rfl,by decide,Bd.lit⟩
 ·exact ⟨_,by rw [e]; rfl,by decide,Bd.lit⟩
 ·exact ⟨_,by rw [e]; rfl,by decide,Bd.lit⟩
 ·exact ⟨_,by rw [e]; rfl,by decide,Bd.lit⟩
theorem zOb {g:Int} (g0:0<=g) (g1:g < 6):∃ n:Nat,yk [V.int 1,V.int 2,V.int 2,V.int 1,V.int 3,V.int 2] g=some (.int (n:Int))/\1<=n/\n<=3:=by
 rcases (show g=0\/g=1\/g=2\/g=3\/g=4\/g=5 by omega) with e | e | e | e | e | e
 ·exact ⟨1,by rw [e]; rfl,by decide,by decide⟩
 ·exact ⟨2,by rw [e]; rfl,by decide,by decide⟩
 ·exact ⟨2,by rw [e]; rfl,by decide,by decide⟩
 ·exact ⟨1,by rw [e]; rfl,by decide,by decide⟩
 ·exact ⟨3,by rw [e]; rfl,by decide,by decide⟩
 ·exact ⟨2,by rw [e]; rfl,by decide,by decide⟩
theorem xZ {H H':Hp} {vs:List V} {bs:List (Int × Int)} (s:zG H H') (h:Paired (wq H) vs bs):Paired (wq H') vs bs:=Paired.mapP h λ_ _ z=>z.same s
def kr (bs:List (Int × Int)):Prop:=∀ b∈bs,b.1<=b.2/\Bd 102 b.1/\Bd 102 b.2
inductive KF (H:Hp) (v:V):Prop
 | mk (t pa ma:Addr) (n:Nat) (u:Int) (pv mv:List V) (bs:List (Int × Int)) (_:v=.ref t) (_:H t=some (.tup [.int (n:Int),.ref pa,.ref ma,.int u])) (_:H pa=some (.lst pv)) (_:Paired (wq H) pv bs) (_:bs.length<=2) (_:kr bs) (_:H ma=some (.lst mv)) (_:1<=mv.length) (_:∀ x∈mv,qf H n pv.length x) (_:1<=n) (_:n<=3) (_:0 < u) (_:Bd 100 u):KF H v
inductive xw (H:Hp) (v:V) (m:MD):Prop
 | mk (t ra na sa pa aa:Addr) (rv nv pv:List V) (_:v=.ref t) (_:H t=some (.tup [.ref ra,.ref na,.ref sa,.ref pa,.ref aa,.int m.div])) (_:H ra=some (.lst rv)) (_:xC H rv m.rows) (_:H na=some (.lst nv)) (_:zX H nv m.nexts) (_:H sa=some (.lst (m.steer.map V.int))) (_:H pa=some (.lst pv)) (_:zX H pv m.push) (_:H aa=some (.lst (m.add.map V.int))):xw H v m
theorem xw.same {H H':Hp} {v:V} {m:MD} (s:zG H H') (h:xw H v m):xw H' v m:=by
 obtain ⟨t,ra,na,sa,pa,aa,rv,nv,pv,e,h1,h2,h3,h4,h5,h6,h7,h8,h9⟩:=h
 exact ⟨t,ra,na,sa,pa,aa,rv,nv,pv,e,s _ _ h1,s _ _ h2,xC.same s h3,s _ _ h4,zX.same s h5,s _ _ h6,s _ _ h7,zX.same s h8,s _ _ h9⟩
theorem zLV {H H':Hp} {vs:List V} {ms:List MD} (s:zG H H') (h:Paired (xw H) vs ms):Paired (xw H') vs ms:=Paired.mapP h λ_ _ z=>z.same s
inductive uj (H:Hp) (v:V) (n:Nat) (bs:List (Int × Int)) (ms:List MD) (u:Int):Prop
 | mk (t pa ma:Addr) (pv mv:List V) (_:v=.ref t) (_:H t=some (.tup [.int (n:Int),.ref pa,.ref ma,.int u])) (_:H pa=some (.lst pv)) (_:Paired (wq H) pv bs) (_:H ma=some (.lst mv)) (_:Paired (xw H) mv ms):uj H v n bs ms u
theorem uj.same {H H':Hp} {v:V} {n:Nat} {bs:List (Int × Int)} {ms:List MD} {u:Int} (s:zG H H') (h:uj H v n bs ms u):uj H' v n bs ms u:=by
 obtain ⟨t,pa,ma,pv,mv,e,h1,h2,h3,h4,h5⟩:=h
 exact ⟨t,pa,ma,pv,mv,e,s _ _ h1,s _ _ h2,xZ s h3,s _ _ h4,zLV s h5⟩
inductive W9 (K:PySem.W.Frag) (vs:List V) (H:Hp) (Q:VK) (E:XK):Prop
 | mk (a:Addr) (ns:List Int) (_:vs=[.ref a]) (_:zJ K H a (ns.map V.int)) (_:∀ v H',zG H H'->KF H' v->Q v H'):W9 K vs H Q E
inductive UA (C CM:Addr) (vs:List V) (H:Hp) (Q:VK) (E:XK):Prop
 | mk (v:V) (n:Nat) (bs:List (Int × Int)) (ms:List MD) (u:Int) (_:vs=[v]) (_:uj H v n bs ms u) (_:wH n bs ms) (_:∀ o kp km pv mv H',zG H H'->yr C CM H' o n bs ms pv mv kp km->Q (.ref o) H'):UA C CM vs H Q E
inductive UB (vs:List V) (H:Hp) (Q:VK) (E:XK):Prop
 | mk (c u:Int) (n:Nat) (_:vs=[.int c,.int (n:Int),.int u]) (_:1<=n) (_:n<=3) (_:0 < u) (_:Bd 100 u) (_:∀ l bv bx H',zG H H'->H' l=some (.lst bv)->Paired (wq H') bv bx->bx.length=n->(∀ b∈bx,Bd 106 b.1/\Bd 106 b.2)->Q (.ref l) H'):UB vs H Q E
inductive UC (vs:List V) (H:Hp) (Q:VK) (E:XK):Prop
 | mk (a:Addr) (bv:List V) (bx:List (Int × Int)) (n:Nat) (_:vs=[.ref a]) (_:H a=some (.lst bv)) (_:Paired (wq H) bv bx) (_:bx.length=n) (_:1<=n) (_:n<=3) (_:(∀ b∈bx,Bd 106 b.1/\Bd 106 b.2)) (_:∀ l rv rows H',zG H H'->H' l=some (.lst rv)->yI H' rv rows->rows.length=2 * n->WB rows n 2 106->Q (.ref l) H'):UC vs H Q E
theorem jM {H:Hp} {l:Addr} {xs:List V} (hl:H l=some (.lst xs)) {a:Addr} {vs:List V} (h:H a=some (.tup vs)):hide [l] H a=some (.tup vs):=(wV λz=>by
 rw [List.mem_singleton.mp z,hl] at h
 cases h).trans h
theorem UD {rows:List (List Int × Int)} {n w b:Nat} {r:List Int × Int} (h:WB rows n w b) (l:r.1.length=n) (hw:∀ x∈r.1,Bd w x) (hb:Bd b r.2):WB (rows++[r]) n w b:=λq hq=>by
 rcases List.mem_append.mp hq with hq | hq
 ·exact h q hq
 ·rw [List.mem_singleton.mp hq]; exact ⟨l,hw,hb⟩
theorem KG {H0 H:Hp} {sl:Addr} (hN:∀ {z:Addr},H0 z=none->z≠sl) {vs:List V} {tab:List (List Int)} (h:Paired (wN H0 H) vs tab):zX (hide [sl] H) vs tab:=Paired.mapP h λ_ _ ⟨a,e,n,q⟩=>⟨a,e,(wV λz=>hN n (List.mem_singleton.mp z)).trans q⟩
theorem zKZ {H:Hp} {l:Addr} {xs:List V} (hl:H l=some (.lst xs)) {vs:List V} {rows:List (List Int)} (h:xC H vs rows):xC (hide [l] H) vs rows:=Paired.mapP h λ_ _ ⟨a,e,q⟩=>⟨a,e,jM hl q⟩
theorem zMf {C:Addr} {H:Hp} {o sl:Addr} {m:MD} {M:gD C H o m} (ok:M.Ok) (n0:o≠sl) (n1:M.r≠sl) (n2:M.n≠sl) (n3:M.s≠sl) (n4:M.p≠sl) (n5:M.a≠sl) {xs:List V} (hl:H sl=some (.lst xs)) (t1:zX (hide [sl] H) M.nv m.nexts) (t2:zX (hide [sl] H) M.pv m.push):wn C (hide [sl] H) (.ref o) m:=
 have g:∀ {a:Addr},a≠sl->hide [sl] H a=H a:=λn=>wV λz=>n (List.mem_singleton.mp z)
 ⟨o,⟨M.dx,M.r,M.rv,M.n,M.nv,M.s,M.p,M.pv,M.a⟩,rfl,⟨(g n0).trans ok.ins,(g n1).trans ok.hr,zKZ hl ok.hrv,(g n2).trans ok.hn,t1,(g n3).trans ok.hs,(g n4).trans ok.hp,t2,(g n5).trans ok.ha⟩⟩
section
variable {P:Program} {w:World} {K:PySem.W.Frag} {mg:Str->Option Value} {base:Heap} {cM cP:Addr}
abbrev UE:Stmt:=yh 67
theorem uy:ya ["_law_script","_law_first","_law_second","_law_unit","_law_many","_law_pushes","_law_k","_law_x","_law_modes","_law_cell"] ["_law_script"] (ze UE):=.a
abbrev UF:Stmt:=yh 68
theorem ub:ya ["_law_spec","_law_many","_law_pushes","_law_modes","_law_unit","_law_some","_law_rows_here","_law_nexts","_law_steer","_law_push","_law_add","_law_divisor_here","_law_lists"] ["_law_spec"] (ze UF):=.a
variable {ac af:Addr} (ae:yJ K mg "Mode" ac) (ag:wr K ac) (ah:yJ K mg "Thing" af) (ai:wt K af)
include ae ag ah ai
theorem zJ7 {k:Nat} {f:Addr} {fd:FuncData} (F:yb K "_law_thing" "_law_thing" UE f fd) (B:Bl mg) (ar:Fn P w K mg base "_law_cell_at" ["_law_script","_law_k"] k (kH K)) (bE:Fn P w K mg base "_law_mode" X5 k W5):zU P w K mg base yG (k + 1) f fd ["_law_script"] (W9 K):=by
 refine F.ok uy ?_ ?_
 ·rintro vs H Q E ⟨a,ns,rfl,_⟩
  rfl
 rintro cdv A outer s H vs Q E hr ⟨a,ns,rfl,hS,q⟩
 refine ⟨_,(zW (zy (i:=1) uy.nd rfl (Or.inl rfl) (zk ar hr rfl (zD (zC 0) (zD zK zI))))
  (zW (zy (i:=2) uy.nd rfl (Or.inl rfl) (zk ar hr rfl (zD (zC 0) (zD zK zI))))
  (zW (zy (i:=3) uy.nd rfl (Or.inl rfl) (zV (yU yz) zK (zV (ji wA) (zV (ji v8) (zC 1) zK) (zh yi (xF (zD zK (zD zK (zD (zV (ji jm) zK zK) (zD (zV (ji jm) zK zK) zI))))) (zV (ji wA) (zC 1) zK) (λ_ _=>rfl)))))
  (zW (zy (i:=4) uy.nd rfl (Or.inl rfl) (zh yi (xF (zD zK (zD zK (zD zK (zD zK (zD zK (zD zK zI))))))) (zV (ji wA) (zC 2) zK) (λ_ _=>rfl)))
  (zW (zy (i:=5) uy.nd rfl (Or.inl rfl) (xF zI))
  (zW (wI PassesOwn.never rfl (wX rfl B.range_ (zD (zV (ji wA) (zV (ji v8) (zC 2) zK) zK) zI)) (zr (i:=6) uy.nd rfl (Or.inl rfl)) (zW (zy (i:=7) uy.nd rfl (Or.inl rfl) (zV (ji v8) (zC 2) (zV (yU yz) zK (zV (ji yy) zK (zC 6)))))
   (zY (vB (vI PySem.F.plainAttrs_list PySem.F.slot_list_append PySem.F.type_list_append xP (zC 5) (zD (xy (zD (zV (yU wz) zK (zV (ji yy) (zV (ji wA) (zC 7) zK) (zC 3))) (zD (zV (ji yy) (zV (ji wA) (zV (ji v8) (zC 7) zK) zK) (zC 3)) zI))) zI))))))
  (zW (zy (i:=8) uy.nd rfl (Or.inl rfl) (xF zI))
  (zW (wI PassesOwn.never rfl (wX rfl B.range_ (zD (zV (yU yz) zK (zV (ji wA) (zV (ji v8) (zC 2) zK) zK)) zI)) (zr (i:=6) uy.nd rfl (Or.inl rfl)) (zW (zy (i:=9) uy.nd rfl (Or.inl rfl) (zV (yU yz) (zk ar hr rfl (zD (zC 0) (zD (zV (yU yz) zK (zC 6)) zI))) (zC 6)))
   (zY (vB (vI PySem.F.plainAttrs_list PySem.F.slot_list_append PySem.F.type_list_append xP (zC 8) (zD (zk bE hr rfl (zD (zC 9) (zD (zC 4) (zD (ym yw rfl B.len_ wZ (zD (zC 5) zI)) (zD (zC 3) (zD (uP vc (zV (ji wA) (zV (ji v8) (zC 2) zK) zK) zK (yu _)) zI)))))) zI))))))
  (zY (yH (xy (zD (zC 4) (zD (zC 5) (zD (zC 8) (zD (zC 3) zI))))))))))))))),?_⟩
 try dsimp only [zP,Cx.nox,Cx.wish]
 refine ⟨_,rfl,a,ns,0,rfl,hS,(by decide),?_⟩
 refine ⟨_,rfl,a,ns,1,rfl,hS,(by decide),?_⟩
 obtain ⟨kk,ekk,kk0,bkk⟩:=zOc (Int.fmod_nonneg_of_pos (xB ns 0) (show (0:Int) < 4 by decide)) (Int.fmod_lt_of_pos (xB ns 0) (show (0:Int) < 4 by decide))
 obtain ⟨n,en,n1,n3⟩:=zOb (Int.fmod_nonneg_of_pos (xB ns 1) (show (0:Int) < 6 by decide)) (Int.fmod_lt_of_pos (xB ns 1) (show (0:Int) < 6 by decide))
 have q0:=Int.fmod_nonneg_of_pos ((xB ns 0).fdiv 4) kk0
 have q1:=Int.fmod_lt_of_pos ((xB ns 0).fdiv 4) kk0
 have u0:0 < (1 + ((xB ns 0).fdiv 4).fmod kk):=by omega
 have bu:Bd 100 (1 + ((xB ns 0).fdiv 4).fmod kk):=wg bkk (by omega) (by omega)
 refine ⟨_,rfl,_,_,rfl,rfl,⟨(show (4:Int)≠0 by decide),(Bd.lit (i:=4) (n:=3)).mono⟩,_,_,rfl,rfl,⟨by decide,by decide,by decide⟩,_,_,rfl,rfl,⟨by decide,by decide,by decide⟩,Z6,λl4 hl4=>?_⟩
 obtain ⟨G1,hhG1,yG1,el4⟩:=zw (HO.lst [V.int 3,V.int 9,V.int ((10:Int) ^ (15:Int).toNat),V.int ((10:Int) ^ (30:Int).toNat)]) hl4
 rw [hhG1]
 have SG1:=yG1
 refine ⟨_,rfl,_,_,rfl,rfl,(show (4:Int)≠0 by decide),l4,_,_,_,rfl,rfl,zJ.of el4,ekk,_,_,rfl,rfl,(show kk≠0 by omega),_,_,rfl,rfl,?_⟩
 refine ⟨Z7,λl6 hl6=>?_⟩
 obtain ⟨G2,hhG2,yG2,el6⟩:=zw (HO.lst [V.int 1,V.int 2,V.int 2,V.int 1,V.int 3,V.int 2]) hl6
 rw [hhG2]
 have SG2:=SG1.trans yG2
 refine ⟨_,rfl,_,_,rfl,rfl,(show (6:Int)≠0 by decide),l6,_,_,_,rfl,rfl,zJ.of el6,en,?_⟩
 refine ⟨vL,λpl hpl=>?_⟩
 have hpl0:=SG2.free hpl
 obtain ⟨G3,hhG3,yG3,epl⟩:=zw (HO.lst ([]:List V)) hpl
 rw [hhG3]
 have SG3:=SG2.trans yG3
 have sP:zG H (hide [pl] G3):=ug hpl0 SG3
 have r0:=Int.fmod_nonneg_of_pos ((xB ns 1).fdiv 6) (show (0:Int) < 3 by decide)
 have r3:=Int.fmod_lt_of_pos ((xB ns 1).fdiv 6) (show (0:Int) < 3 by decide)
 refine ⟨_,rfl,_,_,rfl,rfl,⟨(show (6:Int)≠0 by decide),(Bd.lit (i:=6) (n:=3)).mono⟩,_,_,rfl,rfl,(show (3:Int)≠0 by decide),(((xB ns 1).fdiv 6).fmod 3),rfl,(by omega),(by omega),uO (lo:=0) (n:=((((xB ns 1).fdiv 6).fmod 3)).toNat)
  (λi σ H'=>∃ (pv:List V) (bs:List (Int × Int)) (o6 o7:Option V),σ=[some (.ref a),some (.int (xB ns 0)),some (.int (xB ns 1)),some (.int (1 + ((xB ns 0).fdiv 4).fmod kk)),some (.int (n:Int)),some (.ref pl),o6,o7,none,none]/\zG H (hide [pl] H')/\H' pl=some (.lst pv)/\Paired (wq (hide [pl] H')) pv bs/\bs.length=i/\kr bs)
  ⟨[],[],none,none,rfl,sP,epl,.nil,rfl,(λb hb=>by cases hb)⟩ ?_ ?_⟩
 ·rintro i σ L0 hi ⟨pv,bs,o6,o7,rfl,sm,epl,hpv,lb,ob⟩
  have lv:=Paired.length hpv
  refine ⟨_,rfl,_,rfl,_,_,rfl,rfl,⟨(Bd.lit (i:=11) (n:=4)).mono,(j1 (i:=i) (by omega)).mono⟩,_,_,rfl,rfl,_,_,rfl,rfl,⟨(show ((18:Int) + ((11:Int) * (0 + (i:Int))))≠0 by omega),(((Bd.lit (i:=18) (n:=5)).mono (m:=8) (by decide)).add ((Bd.lit (i:=11) (n:=4)).mul (j1 (i:=i) (by omega)))).mono⟩,?_⟩
  refine ⟨_,rfl,.inl ⟨rfl,_,zJ.of epl⟩,_,rfl,_,_,rfl,rfl,(show (3:Int)≠0 by decide),_,rfl,_,_,rfl,rfl,⟨(ux (a:=((xB ns 1).fdiv (18 + 11 * (0 + (i:Int))))) (Bd.lit (i:=3) (n:=2)) (show (0:Int) < (3:Int) by decide)).mono,bu.mono⟩,_,_,rfl,rfl,_,rfl,_,_,rfl,rfl,⟨(show (3:Int)≠0 by decide),(Bd.lit (i:=3) (n:=2)).mono⟩,_,_,rfl,rfl,(show (3:Int)≠0 by decide),_,rfl,_,_,rfl,rfl,⟨(ux (a:=(((xB ns 1).fdiv (18 + 11 * (0 + (i:Int)))).fdiv (3:Int))) (Bd.lit (i:=3) (n:=2)) (show (0:Int) < (3:Int) by decide)).mono,bu.mono⟩,wf,λp hp=>?_⟩
  have x0:=Int.fmod_nonneg_of_pos ((xB ns 1).fdiv (18 + 11 * (0 + (i:Int)))) (show (0:Int) < 3 by decide)
  have x3:=Int.fmod_nonneg_of_pos (((xB ns 1).fdiv (18 + 11 * (0 + (i:Int)))).fdiv 3) (show (0:Int) < 3 by decide)
  have z0:=Int.mul_nonneg x0 (Int.le_of_lt u0)
  have z1:=Int.mul_nonneg x3 (Int.le_of_lt u0)
  have B1:Bd 102 ((0:Int) - ((((xB ns 1).fdiv (18 + 11 * (0 + (i:Int)))).fmod (3:Int)) * (1 + ((xB ns 0).fdiv 4).fmod kk))):=by
   have:=(((Bd.lit (i:=0) (n:=1)).mono (m:=102) (by decide)).sub ((ux (a:=((xB ns 1).fdiv (18 + 11 * (0 + (i:Int))))) (Bd.lit (i:=3) (n:=2)) (show (0:Int) < (3:Int) by decide)).mul bu))
   exact Bd.of_le (j:=((xB ns 1).fdiv (18 + 11 * (0 + (i:Int)))).fmod 3 * (1 + ((xB ns 0).fdiv 4).fmod kk)) (Bd.mul (n:=2) (m:=100) (ux (Bd.lit (i:=3) (n:=2)) (by decide)) bu) (by omega)
  have B2:Bd 102 (((((xB ns 1).fdiv (18 + 11 * (0 + (i:Int)))).fdiv (3:Int)).fmod (3:Int)) * (1 + ((xB ns 0).fdiv 4).fmod kk)):=((ux (a:=(((xB ns 1).fdiv (18 + 11 * (0 + (i:Int)))).fdiv (3:Int))) (Bd.lit (i:=3) (n:=2)) (show (0:Int) < (3:Int) by decide)).mul bu)
  generalize hlo:((0:Int) - ((((xB ns 1).fdiv (18 + 11 * (0 + (i:Int)))).fmod (3:Int)) * (1 + ((xB ns 0).fdiv 4).fmod kk)))=lo at *
  generalize hhi:(((((xB ns 1).fdiv (18 + 11 * (0 + (i:Int)))).fdiv (3:Int)).fmod (3:Int)) * (1 + ((xB ns 0).fdiv 4).fmod kk))=hi' at *
  have lh:lo<=hi':=by omega
  obtain ⟨M,hhM,zn,ep⟩:=zw (HO.tup [V.int lo,V.int hi']) hp
  rw [hhM]
  refine ⟨pl,pv,_,rfl,rfl,zn _ _ epl,wY (by omega),?_⟩
  have h4:=(wC (B:=[pl]) zn).trans (w6 (x:=pl) (HO.lst (pv++[V.ref p])))
  refine ⟨pv++[V.ref p],bs++[(lo,hi')],_,_,rfl,sm.trans h4,zj,?_,(by rw [List.length_append,lb]; rfl),vX ob ⟨lh,B1,B2⟩⟩
  exact xg (R:=wq _) ⟨p,rfl,(w6 (x:=pl) _) _ _ (jM (zn _ _ epl) ep)⟩ (xZ h4 hpv)
 rintro σ L0 ⟨pv,bs,o6,o7,rfl,sm,epl,hpv,lb,ob⟩
 have lv:=Paired.length hpv
 have sj:=sm.trans yx
 have hpv:=xZ yx hpv
 refine ⟨vL,λml hml=>?_⟩
 obtain ⟨M0,hhM,yM,eml⟩:=zw (HO.lst ([]:List V)) hml
 rw [hhM]
 have sM:zG L0 (hide [ml] M0):=ug hml yM
 have t0:=Int.fmod_nonneg_of_pos ((xB ns 1).fdiv 54) (show (0:Int) < 3 by decide)
 have t3:=Int.fmod_lt_of_pos ((xB ns 1).fdiv 54) (show (0:Int) < 3 by decide)
 refine ⟨_,rfl,_,_,rfl,rfl,⟨(show (54:Int)≠0 by decide),(Bd.lit (i:=54) (n:=6)).mono⟩,_,_,rfl,rfl,(show (3:Int)≠0 by decide),_,_,rfl,rfl,(1 + ((xB ns 1).fdiv 54).fmod 3),rfl,(by omega),(by omega),uO (lo:=0) (n:=((1 + ((xB ns 1).fdiv 54).fmod 3)).toNat)
  (λi σ H'=>∃ (mv:List V) (p6 p9:Option V),σ=[some (.ref a),some (.int (xB ns 0)),some (.int (xB ns 1)),some (.int (1 + ((xB ns 0).fdiv 4).fmod kk)),some (.int (n:Int)),some (.ref pl),p6,o7,some (.ref ml),p9]/\zG L0 (hide [ml] H')/\H' ml=some (.lst mv)/\(∀ x∈mv,qf (hide [ml] H') n pv.length x)/\mv.length=i)
  ⟨[],o6,none,rfl,sM,eml,(λx hx=>by cases hx),rfl⟩ ?_ ?_⟩
 ·rintro i σ N0 hi ⟨mv,p6,p9,rfl,sn,eml,hmv,lm⟩
  have sk:=sn.trans yx
  refine ⟨_,rfl,_,rfl,_,_,rfl,rfl,a,ns,_,rfl,(sj.trans sk).seq hS,(by omega),_,rfl,_,_,rfl,rfl,?_⟩
  refine ⟨_,rfl,.inl ⟨rfl,_,zJ.of eml⟩,_,rfl,_,rfl,_,rfl,pl,_,rfl,.inl (zJ.of (sk _ _ epl)),_,rfl,_,rfl,_,_,rfl,rfl,⟨(show (162:Int)≠0 by decide),(Bd.lit (i:=162) (n:=8)).mono⟩,_,_,rfl,rfl,(show (2:Int)≠0 by decide),rfl,_,_,n,pv.length,_,[ml],rfl,n1,n3,(by omega),u0,bu,(λb hb=>by rw [List.mem_singleton.mp hb]; exact ⟨_,eml⟩),λv N1 z1 MP=>?_⟩
  refine ⟨ml,mv,_,rfl,rfl,z1 _ _ eml,wY (by omega),?_⟩
  have h5:=w6 (x:=ml) (H:=N1) (HO.lst (mv++[v]))
  have h4:=(wC (B:=[ml]) z1).trans h5
  exact ⟨mv++[v],_,_,rfl,sn.trans h4,zj,vX (λx hx=>(hmv x hx).same h4) (MP.same h5),(by rw [List.length_append,lm]; rfl)⟩
 rintro σ N0 ⟨mv,p6,p9,rfl,sn,eml,hmv,lm⟩
 have sk:=sn.trans yx
 refine ⟨_,rfl,_,rfl,_,rfl,_,rfl,Z6,λtt htt=>?_⟩
 have yT:=zx htt (HO.tup [V.int (n:Int),V.ref pl,V.ref ml,V.int (1 + ((xB ns 0).fdiv 4).fmod kk)])
 exact q (.ref tt) _ (sj.trans (sk.trans yT)) ⟨tt,pl,ml,n,_,pv,mv,bs,rfl,zj,(sk.trans yT) _ _ epl,xZ (sk.trans yT) hpv,by omega,ob,yT _ _ eml,by omega,λx hx=>((hmv x hx).same yx).same yT,n1,n3,u0,bu⟩
theorem zLK {k:Nat} {f:Addr} {fd:FuncData} (F:yb K "_law_made" "_law_made" UF f fd) (B:Bl mg) (bF:qP P w K mg base ac jc k (Xp ac)) (bG:qP P w K mg base af ["self","many","pushes","modes"] k (Xs af ac)):zU P w K mg base yG (k + 1 + 1) f fd ["_law_spec"] (UA af ac):=by
 refine F.ok ub ?_ ?_
 ·rintro vs H Q E ⟨v,n,bs,ms,u,rfl,_⟩
  rfl
 rintro cdv A outer s H vs Q E hr ⟨v,n,bs,ms,u,rfl,SV,TO,q⟩
 refine ⟨_,(zW (qp (zC 0) (vb rfl (yp (zr (i:=1) ub.nd rfl (Or.inl rfl)) (yp (zr (i:=2) ub.nd rfl (Or.inl rfl)) (yp (zr (i:=3) ub.nd rfl (Or.inl rfl)) (yp (zr (i:=4) ub.nd rfl (Or.inl rfl)) va))))))
  (zW (zy (i:=5) ub.nd rfl (Or.inl rfl) (xF zI))
  (zW (wI PassesOwn.never rfl (xr (zC 3)) (vb rfl (yp (zr (i:=6) ub.nd rfl (Or.inl rfl)) (yp (zr (i:=7) ub.nd rfl (Or.inl rfl)) (yp (zr (i:=8) ub.nd rfl (Or.inl rfl)) (yp (zr (i:=9) ub.nd rfl (Or.inl rfl)) (yp (zr (i:=10) ub.nd rfl (Or.inl rfl)) (yp (zr (i:=11) ub.nd rfl (Or.inl rfl)) va))))))) (zW (qO (i:=12) ub.nd rfl rfl (own:=["_law_one"]) (caps:=[]) (uZ rfl) rfl (xr (zC 7)) (λ_ _ _ _=>zr (i:=0) (show (["_law_one"]:List Str).Nodup by decide +kernel) rfl (Or.inl rfl)) (λ_ _ _ _=>(xn (show vC _ _ (λxs H Q=>∃ p ys,xs=[V.ref p]/\(zJ K H p ys\/zT K H p ys)/\∀ l,H l=none->Q (V.ref l) (upd H l (HO.lst ys))) from vP) rfl B.list_ wJ (zD (zC 0) zI))) rfl)
   (zY (vB (vI PySem.F.plainAttrs_list PySem.F.slot_list_append PySem.F.type_list_append xP (zC 5) (zD (Qh bF ae hr rfl (zD (xn vP rfl B.list_ wJ (zD (zC 6) zI)) (zD (zC 12) (zD (xn vP rfl B.list_ wJ (zD (zC 8) zI)) (zD (xu (own:=["_law_one"]) (caps:=[]) (uZ rfl) rfl (xr (zC 9)) (λ_ _ _ _=>zr (i:=0) (show (["_law_one"]:List Str).Nodup by decide +kernel) rfl (Or.inl rfl)) (λ_ _ _ _=>(xn (show vC _ _ (λxs H Q=>∃ p ys,xs=[V.ref p]/\(zJ K H p ys\/zT K H p ys)/\∀ l,H l=none->Q (V.ref l) (upd H l (HO.lst ys))) from vP) rfl B.list_ wJ (zD (zC 0) zI)))) (zD (xn vP rfl B.list_ wJ (zD (zC 10) zI)) (zD (zC 11) zI))))))) zI))))))
  (zY (yH (Qh bG ah hr rfl (zD (zC 1) (zD (xn vP rfl B.list_ wJ (zD (zC 2) zI)) (zD (zC 5) zI))))))))),?_⟩
 try dsimp only [zP,Cx.nox,Cx.wish]
 obtain ⟨st,pa,ma,pv,mv,rfl,est,epa,hpv,ema,hmv⟩:=SV
 have lmv:=Paired.length hmv
 have m40:=TO.m40
 have n3:=TO.n3
 refine ⟨_,rfl,st,_,rfl,zT.of est,rfl,_,_,rfl,_,_,rfl,_,_,rfl,_,_,rfl,rfl,?_⟩
 refine ⟨vL,λsl hsl=>?_⟩
 obtain ⟨J0,hhS,yS,esl⟩:=zw (HO.lst ([]:List V)) hsl
 rw [hhS]
 have s0:zG H (hide [sl] J0):=ug hsl yS
 refine ⟨_,rfl,ma,rfl,⟨_,zJ.of (yS _ _ ema)⟩,jR (K:=K) (a:=ma) (xs:=mv)
  (λi σ H'=>∃ (sv:List V) (o6 o7 o8 o9 oa ob oc:Option V),σ=[some (.ref st),some (.int (n:Int)),some (.ref pa),some (.ref ma),some (.int u),some (.ref sl),o6,o7,o8,o9,oa,ob,oc]/\zG H (hide [sl] H')/\H' sl=some (.lst sv)/\Paired (wn ac (hide [sl] H')) sv (ms.take i))
  ⟨[],none,none,none,none,none,none,none,rfl,s0,esl,.nil⟩ (λi σ H' _ ⟨_,_,_,_,_,_,_,_,_,sm,_⟩=>zJ.of (yx _ _ (sm _ _ ema))) ?_ ?_⟩
 ·rintro i x σ L0 hi ⟨sv,o6,o7,o8,o9,oa,ob,oc,rfl,sm,esl,hsv⟩
  have sj:=sm.trans yx
  obtain ⟨md,hmd,MT⟩:=xU hmv hi
  have MO:=TO.mok md (List.mem_of_getElem? hmd)
  obtain ⟨tt,ra,na,sa,qa,aa,rv,nv,wv,rfl,ett,era,hrv,ena,hnv,esa,eqa,hqv,eaa⟩:=MT.same sj
  have lsv:=Paired.length hsv
  rw [List.length_take] at lsv
  have ilt:i < ms.length:=(List.getElem?_eq_some_iff.mp hmd).1
  have lnx:=MO.nexts.1
  have lpu:=MO.push.1
  have lnv:=Paired.length hnv
  have lqv:=Paired.length hqv
  have lrv:=Paired.length hrv
  have few:=MO.few
  have lst9:=MO.steer
  have lad9:=MO.add
  refine ⟨tt,_,rfl,zT.of ett,rfl,_,_,rfl,_,_,rfl,_,_,rfl,_,_,rfl,_,_,rfl,_,_,rfl,rfl,?_⟩
  refine ⟨_,rfl,na,rfl,⟨_,zJ.of ena⟩,vR (K:=K) (a:=na) (xs:=nv) (λi ys σ H'=>zX H' ys (List.take i md.nexts)/\(∃ o,σ=[o])/\zG L0 H')
   ⟨.nil,⟨none,rfl⟩,zG.refl _⟩ (λi ys σ H' hi ⟨e1,_,s1⟩=>⟨zJ.of (s1 _ _ ena),by have:=Paired.length e1; rw [List.length_take] at this; omega⟩) (yd ((by have:=Paired.length hnv; omega))) ?_ ?_⟩
  ·rintro i x ys σ H' hi ⟨hys,⟨o,rfl⟩,s1⟩
   obtain ⟨r,hr',a9,rfl,ea9⟩:=xU hnv hi
   refine ⟨_,rfl,a9,_,rfl,.inl (zJ.of (s1 _ _ ea9)),λl9 hl9=>?_⟩
   have z9:=zx hl9 (HO.lst (r.map V.int))
   refine ⟨?_,⟨_,rfl⟩,s1.trans z9⟩
   rw [xH hr']
   exact xg (R:=vT _) ⟨l9,rfl,zj⟩ (zX.same z9 hys)
  rintro cn σ Hcn ⟨hcn,⟨o,rfl⟩,ycn⟩ la hla
  have SL1:=sj.trans ycn
  replace era:=(ycn _ _ era)
  replace hrv:=(xC.same ycn hrv)
  replace esa:=(ycn _ _ esa)
  replace eqa:=(ycn _ _ eqa)
  replace hqv:=(zX.same ycn hqv)
  replace eaa:=(ycn _ _ eaa)
  replace esl:=(ycn _ _ esl)
  obtain ⟨L2,hhL2,yL2,ela⟩:=zw (HO.lst cn) hla
  rw [hhL2]
  have SL2:=SL1.trans yL2
  replace era:=(yL2 _ _ era)
  replace hrv:=(xC.same yL2 hrv)
  replace esa:=(yL2 _ _ esa)
  replace eqa:=(yL2 _ _ eqa)
  replace hqv:=(zX.same yL2 hqv)
  replace eaa:=(yL2 _ _ eaa)
  replace esl:=(yL2 _ _ esl)
  replace hcn:=(zX.same yL2 hcn)
  refine ⟨_,rfl,.inl ⟨rfl,_,zJ.of esl⟩,_,rfl,ra,_,rfl,.inl (zJ.of era),λr2 hr2=>?_⟩
  obtain ⟨L3,hhL3,yL3,er2⟩:=zw (HO.lst rv) hr2
  rw [hhL3]
  have SL3:=SL2.trans yL3
  replace hrv:=(xC.same yL3 hrv)
  replace esa:=(yL3 _ _ esa)
  replace eqa:=(yL3 _ _ eqa)
  replace hqv:=(zX.same yL3 hqv)
  replace eaa:=(yL3 _ _ eaa)
  replace esl:=(yL3 _ _ esl)
  replace hcn:=(zX.same yL3 hcn)
  replace ela:=(yL3 _ _ ela)
  refine ⟨_,rfl,_,rfl,sa,_,rfl,.inl (zJ.of esa),λs2 hs2=>?_⟩
  obtain ⟨L4,hhL4,yL4,es2⟩:=zw (HO.lst (md.steer.map V.int)) hs2
  rw [hhL4]
  have SL4:=SL3.trans yL4
  replace hrv:=(xC.same yL4 hrv)
  replace eqa:=(yL4 _ _ eqa)
  replace hqv:=(zX.same yL4 hqv)
  replace eaa:=(yL4 _ _ eaa)
  replace esl:=(yL4 _ _ esl)
  replace hcn:=(zX.same yL4 hcn)
  replace ela:=(yL4 _ _ ela)
  replace er2:=(yL4 _ _ er2)
  refine ⟨_,rfl,qa,rfl,⟨_,zJ.of eqa⟩,vR (K:=K) (a:=qa) (xs:=wv) (λi ys σ H'=>zX H' ys (List.take i md.push)/\(∃ o,σ=[o])/\zG L4 H')
   ⟨.nil,⟨none,rfl⟩,zG.refl _⟩ (λi ys σ H' hi ⟨e1,_,s1⟩=>⟨zJ.of (s1 _ _ eqa),by have:=Paired.length e1; rw [List.length_take] at this; omega⟩) (yd ((by have:=Paired.length hqv; omega))) ?_ ?_⟩
  ·rintro i x ys σ H' hi ⟨hys,⟨o,rfl⟩,s1⟩
   obtain ⟨r,hr',a9,rfl,ea9⟩:=xU hqv hi
   refine ⟨_,rfl,a9,_,rfl,.inl (zJ.of (s1 _ _ ea9)),λl9 hl9=>?_⟩
   have z9:=zx hl9 (HO.lst (r.map V.int))
   refine ⟨?_,⟨_,rfl⟩,s1.trans z9⟩
   rw [xH hr']
   exact xg (R:=vT _) ⟨l9,rfl,zj⟩ (zX.same z9 hys)
  rintro cp σ Hcp ⟨hcp,⟨o,rfl⟩,ycp⟩ lp hlp
  have SL5:=SL4.trans ycp
  replace hrv:=(xC.same ycp hrv)
  replace eaa:=(ycp _ _ eaa)
  replace esl:=(ycp _ _ esl)
  replace hcn:=(zX.same ycp hcn)
  replace ela:=(ycp _ _ ela)
  replace er2:=(ycp _ _ er2)
  replace es2:=(ycp _ _ es2)
  obtain ⟨L6,hhL6,yL6,elp⟩:=zw (HO.lst cp) hlp
  rw [hhL6]
  have SL6:=SL5.trans yL6
  replace hrv:=(xC.same yL6 hrv)
  replace eaa:=(yL6 _ _ eaa)
  replace esl:=(yL6 _ _ esl)
  replace hcn:=(zX.same yL6 hcn)
  replace ela:=(yL6 _ _ ela)
  replace er2:=(yL6 _ _ er2)
  replace es2:=(yL6 _ _ es2)
  replace hcp:=(zX.same yL6 hcp)
  refine ⟨_,rfl,aa,_,rfl,.inl (zJ.of eaa),λa2 ha2=>?_⟩
  obtain ⟨L7,hhL7,yL7,ea2⟩:=zw (HO.lst (md.add.map V.int)) ha2
  rw [hhL7]
  have SL7:=SL6.trans yL7
  replace hrv:=(xC.same yL7 hrv)
  replace esl:=(yL7 _ _ esl)
  replace hcn:=(zX.same yL7 hcn)
  replace ela:=(yL7 _ _ ela)
  replace er2:=(yL7 _ _ er2)
  replace es2:=(yL7 _ _ es2)
  replace hcp:=(zX.same yL7 hcp)
  replace elp:=(yL7 _ _ elp)
  rw [List.take_of_length_le (by omega)] at hcn
  rw [List.take_of_length_le (by omega)] at hcp
  refine ⟨_,rfl,λmo dx hmo hdx ne=>?_⟩
  have zm:=Qs hmo hdx ne (HO.own mo) (HO.ins ac dx [])
  have eo:=zj (H:=upd L7 dx (HO.own mo)) (a:=mo) (o:=HO.ins ac dx [])
  generalize hhJ1:upd (upd L7 dx (HO.own mo)) mo (HO.ins ac dx [])=JJ1 at zm eo |-
  refine ⟨mo,dx,r2,la,s2,lp,a2,rv,cn,cp,md,n,bs.length,rfl,eo,MO,zm _ _ er2,xC.same zm hrv,zm _ _ ela,zX.same zm hcn,zm _ _ es2,zm _ _ elp,zX.same zm hcp,zm _ _ ea2,λM2 JJ2 sb ok f1 f2 f3 f4 f5 m1 m2=>⟨rfl,?_⟩⟩
  have zz:=Qr zm sb hmo
  have zL:=(ycn.trans (yL2.trans (yL3.trans (yL4.trans (ycp.trans (yL6.trans (yL7))))))).trans zz
  have eslJ:=zz _ _ esl
  have hN:∀ {z:Addr},JJ1 z=none->z≠sl:=λh e=>by rw [e,zm _ _ esl] at h; cases h
  have nmo:mo≠sl:=λe=>by rw [e,esl] at hmo; cases hmo
  refine ⟨sl,sv,_,rfl,rfl,eslJ,wY (by omega),?_⟩
  have h5:=w6 (x:=sl) (H:=JJ2) (HO.lst (sv++[V.ref mo]))
  have h4:=(wC (B:=[sl]) zL).trans h5
  refine ⟨sv++[V.ref mo],_,_,_,_,_,_,_,rfl,sm.trans h4,zj,?_⟩
  rw [xH hmd]
  exact xg (wn.same h5 (zMf ok nmo (hN f1) (hN f2) (hN f3) (hN f4) (hN f5) eslJ (KG hN m1) (KG hN m2))) (Paired.mapP hsv λ_ _ z=>z.same h4)
 rintro σ L0 ⟨sv,o6,o7,o8,o9,oa,ob,oc,rfl,sm,esl,hsv⟩
 rw [List.take_of_length_le (by omega)] at hsv
 have sj:=sm.trans yx
 have hsv:Paired (wn ac L0) sv ms:=Paired.mapP hsv λ_ _ z=>z.same yx
 refine ⟨_,rfl,_,rfl,pa,_,rfl,.inl (zJ.of (sj _ _ epa)),λp2 hp2=>?_⟩
 obtain ⟨P0,hhP,yP,ep2⟩:=zw (HO.lst pv) hp2
 rw [hhP]
 refine ⟨_,rfl,λto dt hto hdt ne2=>?_⟩
 have zt:=Qs hto hdt ne2 (HO.own to) (HO.ins af dt [])
 have et9:=zj (H:=upd P0 dt (HO.own to)) (a:=to) (o:=HO.ins af dt [])
 generalize hhJ9:upd (upd P0 dt (HO.own to)) to (HO.ins af dt [])=J9 at zt et9 |-
 have hpv9:=xZ ((sj.trans yP).trans zt) hpv
 have hmv9:Paired (wn ac J9) sv ms:=Paired.mapP hsv λ_ _ z=>z.same (yP.trans zt)
 refine ⟨to,dt,p2,sl,pv,sv,n,bs,ms,rfl,et9,zt _ _ ep2,hpv9,zt _ _ (yP _ _ esl),hmv9,TO,λkp km J10 sb fk fm fne eo5 ek em=>⟨rfl,?_⟩⟩
 have yT:=Qr zt sb hto
 exact q to kp km pv sv J10 ((sj.trans yP).trans yT) ⟨⟨dt,eo5⟩,ek,xZ ((sj.trans yP).trans yT) hpv,em,Paired.mapP hsv λ_ _ z=>z.same (yP.trans yT)⟩
end
theorem zOd {g:Int} (g0:0<=g) (g1:g < 4):∃ k:Nat,yk [V.int 0,V.int 1,V.int 1,V.int 2] g=some (.int (k:Int))/\k<=2:=by
 rcases (show g=0\/g=1\/g=2\/g=3 by omega) with e | e | e | e
 ·exact ⟨0,by rw [e]; rfl,by decide⟩
 ·exact ⟨1,by rw [e]; rfl,by decide⟩
 ·exact ⟨1,by rw [e]; rfl,by decide⟩
 ·exact ⟨2,by rw [e]; rfl,by decide⟩
theorem zOe {n:Nat} (n1:1<=n) (n3:n<=3):∃ k:Int,yk [V.int 4,V.int 2,V.int 1] ((n:Int) - 1)=some (.int k)/\0 < k/\((n=1/\k<=4)\/(n=2/\k<=2)\/(n=3/\k<=1)):=by
 rcases (show n=1\/n=2\/n=3 by omega) with e | e | e
 ·exact ⟨4,by rw [e]; rfl,by decide,by omega⟩
 ·exact ⟨2,by rw [e]; rfl,by decide,by omega⟩
 ·exact ⟨1,by rw [e]; rfl,by decide,by omega⟩
theorem UG {n:Nat} (h:n < 16):Bd 4 (n:Int):=by
 show (n:Int).natAbs < 2 ^ 4
 omega
inductive UH (vs:List V) (H:Hp) (Q:VK) (E:XK):Prop
 | mk (st:Addr) (x y:V) (c u:Int) (n:Nat) (_:vs=[.ref st,.int c]) (_:H st=some (.tup [.int (n:Int),x,y,.int u])) (_:1<=n) (_:n<=3) (_:0 < u) (_:Bd 100 u) (_:∀ l rv rows H',zG H H'->H' l=some (.lst rv)->yI H' rv rows->WB rows n 2 106->rows.length<=8->Q (.ref l) H'):UH vs H Q E
inductive KH (H:Hp) (v:V):Prop
 | mk (t st sa:Addr) (n k:Nat) (bs:List (Int × Int)) (m:MD) (u lo hi:Int) (sv:List V) (zH:List (List Int × Int)) (_:v=.ref t) (_:H t=some (.tup [.ref st,.ref sa,.int lo,.int hi,.int (k:Int)])) (_:uj H (.ref st) n bs [m] u) (_:H sa=some (.lst sv)) (_:yI H sv zH) (_:wu n bs m lo hi zH) (_:wH n bs [m]) (_:m.rows=[]) (_:1<=k) (_:(n=1/\k<=4)\/(n=2/\k<=2)\/(n=3/\k<=1)) (_:0 < u) (_:Bd 100 u) (_:lo<=hi):KH H v
inductive UI (K:PySem.W.Frag) (vs:List V) (H:Hp) (Q:VK) (E:XK):Prop
 | mk (a:Addr) (ns:List Int) (_:vs=[.ref a]) (_:zJ K H a (ns.map V.int)) (_:∀ v H',zG H H'->KH H' v->Q v H'):UI K vs H Q E
theorem UJ {vs:List V} {i:Nat} {x:V} (h:vs[i]? = some x):yk vs (0 + (i:Int))=some x:=by
 rw [Int.zero_add]
 exact um h
section
variable {P:Program} {w:World} {K:PySem.W.Frag} {mg:Str->Option Value} {base:Heap} {cM cP:Addr}
abbrev UK:Stmt:=yh 69
theorem ku:ya ["_law_cell","_law_many","_law_unit","_law_xs","_law_box_here","_law_i","_law_low"] ["_law_cell","_law_many","_law_unit"] (ze UK):=.a
abbrev YO:Stmt:=yh 70
theorem YQ:ya ["_law_box_here","_law_rows_here","_law_i","_law_ones"] ["_law_box_here"] (ze YO):=.a
abbrev YR:Stmt:=yh 73
theorem gK:ya ["_law_spec","_law_cell","_law_xs","_law_rows_here","_law_k","_law_numbers"] ["_law_spec","_law_cell"] (ze YR):=.a
abbrev vM:Stmt:=yh 74
theorem vt:ya ja ["_law_script"] (ze vM):=.a
variable {ac af:Addr} (ae:yJ K mg "Mode" ac) (ag:wr K ac) (ah:yJ K mg "Thing" af) (ai:wt K af)
include ae ag ah ai
theorem zMa {k:Nat} {f:Addr} {fd:FuncData} (F:yb K "_law_box" "_law_box" UK f fd) (B:Bl mg) (aq:Fn P w K mg base "_law_stream" ["_law_cell","_law_many"] k jv) (ak:Fn P w K mg base "_law_number" ["_law_x","_law_far"] k qg):zU P w K mg base yG (k + 1) f fd ["_law_cell","_law_many","_law_unit"] UB:=by
 refine F.ok ku ?_ ?_
 ·rintro vs H Q E ⟨c,u,n,rfl,_⟩
  rfl
 rintro cdv A outer s H vs Q E hr ⟨c,u,n,rfl,n1,n3,u0,bu,q⟩
 refine ⟨_,(zW (zy (i:=3) ku.nd rfl (Or.inl rfl) (zk aq hr rfl (zD (zC 0) (zD (zV (ji yy) zK (zC 1)) zI))))
  (zW (zy (i:=4) ku.nd rfl (Or.inl rfl) (xF zI))
  (zW (wI PassesOwn.never rfl (wX rfl B.range_ (zD (zC 1) zI)) (zr (i:=5) ku.nd rfl (Or.inl rfl)) (zW (zy (i:=6) ku.nd rfl (Or.inl rfl) (zV (ji yy) (zk ak hr rfl (zD (zh yi (zC 3) (zV (ji yy) zK (zC 5)) (λ_ _=>rfl)) (zD zK zI))) (zC 2)))
   (zY (vB (vI PySem.F.plainAttrs_list PySem.F.slot_list_append PySem.F.type_list_append xP (zC 4) (zD (xy (zD (zC 6) (zD (zV (yU yz) (zV (yU yz) (zC 6) (zV (ji yy) (zV (ji wA) (zh yi (zC 3) (zV (yU yz) (zV (ji yy) zK (zC 5)) zK) (λ_ _=>rfl)) zK) (zC 2))) (zV (ji wA) (zV (ji v8) (zh yi (zC 3) (zV (yU yz) (zV (ji yy) zK (zC 5)) zK) (λ_ _=>rfl)) zK) zK)) zI))) zI))))))
  (zY (yH (zC 4)))))),?_⟩
 try dsimp only [zP,Cx.nox,Cx.wish]
 have bn:Bd 4 (n:Int):=UG (by omega)
 refine ⟨_,rfl,_,rfl,_,_,rfl,rfl,⟨Bd.mono (i:=2) (n:=3) Bd.lit (by decide),bn.mono⟩,_,(2 * (n:Int)),rfl,(by omega),(by omega),λxa J1 xs y1 _ ex lx bx0=>?_⟩
 have lx2:xs.length=2 * n:=by omega
 have px:∀ k,0<=xs.getD k 0:=λk=>by
  rw [List.getD_eq_getElem?_getD]
  cases e:xs[k]? with
  | none=>exact Int.le_refl 0
  | some x=>exact (bx0 x (List.mem_of_getElem? e)).1
 have bx:∀ k,Bd 150 (xs.getD k 0):=λk=>jL (λx hx=>uY (bx0 x hx)) k
 refine ⟨vL,λbl hbl=>?_⟩
 obtain ⟨J2,hhJ2,y2,ebl⟩:=zw (HO.lst ([]:List V)) hbl
 rw [hhJ2]
 have s3:=ug hbl y2
 refine ⟨_,rfl,_,rfl,(by omega),(by omega),uO (lo:=0) (n:=((n:Nat):Int).toNat)
  (λi σ H'=>∃ (bv:List V) (bx:List (Int × Int)) (o5 o6:Option V),σ=[some (.int c),some (.int (n:Int)),some (.int u),some (.ref xa),some (.ref bl),o5,o6]/\zG J1 (hide [bl] H')/\H' bl=some (.lst bv)/\Paired (wq (hide [bl] H')) bv bx/\bx.length=i/\(∀ b∈bx,Bd 106 b.1/\Bd 106 b.2))
  ⟨[],[],none,none,rfl,s3,ebl,.nil,rfl,(λb hb=>by cases hb)⟩ ?_ ?_⟩
 ·rintro i σ L0 hi ⟨bv,bx',o5,o6,rfl,sm,ebl,hbv,lb,ob⟩
  have sj:=sm.trans yx
  have exL:=sj _ _ ex
  have lv:=Paired.length hbv
  refine ⟨_,rfl,_,rfl,_,_,rfl,rfl,⟨(Bd.lit (i:=2) (n:=2)).mono,(j1 (i:=i) (by omega)).mono⟩,xa,_,_,_,rfl,rfl,zJ.of exL,x8 (xs:=xs) (k:=(2 * i)) (by omega) (by omega),_,_,rfl,(by decide),Bd.lit,λy z1 z2=>?_⟩
  have b3:Bd 2 y:=wg (f:=3) Bd.lit z1 z2
  have bl2:Bd 102 (y * u):=b3.mul bu
  refine ⟨_,rfl,_,_,rfl,rfl,⟨b3.mono,bu.mono⟩,?_⟩
  refine ⟨_,rfl,.inl ⟨rfl,_,zJ.of ebl⟩,_,rfl,_,rfl,_,rfl,_,rfl,_,_,rfl,rfl,⟨(Bd.lit (i:=2) (n:=2)).mono,(j1 (i:=i) (by omega)).mono⟩,_,_,rfl,rfl,xa,_,_,_,rfl,rfl,zJ.of exL,x8 (xs:=xs) (k:=((2 * i) + 1)) (by omega) (by omega),_,_,rfl,rfl,(show (4:Int)≠0 by decide),_,rfl,_,_,rfl,rfl,⟨(ux (a:=(xs.getD (((2 * i) + 1)) 0)) (Bd.lit (i:=4) (n:=3)) (show (0:Int) < (4:Int) by decide)).mono,bu.mono⟩,_,_,rfl,rfl,_,rfl,_,rfl,_,_,rfl,rfl,⟨(Bd.lit (i:=2) (n:=2)).mono,(j1 (i:=i) (by omega)).mono⟩,_,_,rfl,rfl,xa,_,_,_,rfl,rfl,zJ.of exL,x8 (xs:=xs) (k:=((2 * i) + 1)) (by omega) (by omega),_,_,rfl,rfl,⟨(show (4:Int)≠0 by decide),(Bd.lit (i:=4) (n:=3)).mono⟩,_,_,rfl,rfl,(show (2:Int)≠0 by decide),_,_,rfl,rfl,wf,λp hp=>?_⟩
  have B2:=(((bl2.mono (m:=103) (by decide)).add ((ux (a:=(xs.getD (((2 * i) + 1)) 0)) (Bd.lit (i:=4) (n:=3)) (show (0:Int) < (4:Int) by decide)).mul bu)).add ((ux (a:=((xs.getD (((2 * i) + 1)) 0).fdiv (4:Int))) (Bd.lit (i:=2) (n:=2)) (show (0:Int) < (2:Int) by decide)).mono (m:=104) (by decide)))
  generalize (((y * u) + (((xs.getD (((2 * i) + 1)) 0).fmod (4:Int)) * u)) + (((xs.getD (((2 * i) + 1)) 0).fdiv (4:Int)).fmod (2:Int)))=hh at B2 hp |-
  obtain ⟨M,hhM,zn,ep⟩:=zw (HO.tup [V.int (y * u),V.int hh]) hp
  rw [hhM]
  refine ⟨bl,bv,_,rfl,rfl,zn _ _ ebl,wY (by omega),?_⟩
  have h4:=(wC (B:=[bl]) zn).trans (w6 (x:=bl) (HO.lst (bv++[V.ref p])))
  refine ⟨bv++[V.ref p],bx'++[(y * u,hh)],_,_,rfl,sm.trans h4,zj,?_,(by rw [List.length_append,lb]; rfl),vX ob ⟨bl2.mono,B2.mono⟩⟩
  exact xg (R:=wq _) ⟨p,rfl,(w6 (x:=bl) _) _ _ (jM (zn _ _ ebl) ep)⟩ (xZ h4 hbv)
 rintro σ L0 ⟨bv,bx',o5,o6,rfl,sm,ebl,hbv,lb,ob⟩
 exact ⟨_,rfl,q bl bv bx' L0 (y1.trans (sm.trans yx)) ebl (xZ yx hbv) (by omega) ob⟩
theorem zLG {k:Nat} {f:Addr} {fd:FuncData} (F:yb K "_law_rows" "_law_rows" YO f fd) (B:Bl mg):zU P w K mg base yG (k + 1) f fd ["_law_box_here"] UC:=by
 refine F.ok YQ ?_ ?_
 ·rintro vs H Q E ⟨a,bv,bx,n,rfl,_⟩
  rfl
 rintro cdv A outer s H vs Q E hr ⟨a,bv,bx,n,rfl,ha,hbv,lbx,n1,n3,ob,q⟩
 refine ⟨_,(zW (zy (i:=1) YQ.nd rfl (Or.inl rfl) (xF zI))
  (zW (wI PassesOwn.never rfl (wX rfl B.range_ (zD (ym yw rfl B.len_ wZ (zD (zC 0) zI)) zI)) (zr (i:=2) YQ.nd rfl (Or.inr rfl)) (zW (qO (i:=3) YQ.nd rfl rfl (own:=["_law_j"]) (caps:=[(2,"_law_i")]) (wD (S:=ze YO) (N:=["_law_box_here","_law_rows_here","_law_i","_law_ones"]) ⟨_,rfl⟩) rfl (wX rfl B.range_ (zD (ym yw rfl B.len_ wZ (zD (zC 0) zI)) zI)) (λ_ _ _ _=>zr (i:=0) (show (["_law_j","_law_i"]:List Str).Nodup by decide +kernel) rfl (Or.inl rfl)) (λ_ _ _ _=>(xn JT rfl B.int_ Xa (zD (uP vc (zC 0) (zC 1) (yu _)) zI))) rfl)
   (zW (vB (vI PySem.F.plainAttrs_list PySem.F.slot_list_append PySem.F.type_list_append xP (zC 1) (zD (xn wM rfl B.tuple_ vK (zD (zV xh (zC 3) (xF (zD (zh yc (zh yi (zC 0) (zC 2) (λ_ _=>rfl)) zK (λ_ _=>rfl)) zI))) zI)) zI)))
   (zY (vB (vI PySem.F.plainAttrs_list PySem.F.slot_list_append PySem.F.type_list_append xP (zC 1) (zD (xn wM rfl B.tuple_ vK (zD (zV xh (xu (own:=["_law_one"]) (caps:=[]) (uZ rfl) rfl (xr (zC 3)) (λ_ _ _ _=>zr (i:=0) (show (["_law_one"]:List Str).Nodup by decide +kernel) rfl (Or.inl rfl)) (λ_ _ _ _=>(zV (yU wz) zK (zC 0)))) (xF (zD (zV (yU wz) zK (zh yc (zh yi (zC 0) (zC 2) (λ_ _=>rfl)) zK (λ_ _=>rfl))) zI))) zI)) zI)))))))
  (zY (yH (zC 1))))),?_⟩
 try dsimp only [zP,Cx.nox,Cx.wish]
 have lbv:=Paired.length hbv
 refine ⟨vL,λrl hrl=>?_⟩
 obtain ⟨J2,hhJ2,y2,erl⟩:=zw (HO.lst ([]:List V)) hrl
 rw [hhJ2]
 have s3:=ug hrl y2
 refine ⟨_,rfl,a,_,rfl,.inl (zJ.of (y2 _ _ ha)),_,rfl,(by omega),(by omega),uO (lo:=0) (n:=((bv.length:Nat):Int).toNat)
  (λi σ H'=>∃ (rv:List V) (rows:List (List Int × Int)) (o2 o3:Option V),σ=[some (.ref a),some (.ref rl),o2,o3]/\zG H (hide [rl] H')/\H' rl=some (.lst rv)/\yI (hide [rl] H') rv rows/\rows.length=2 * i/\WB rows n 2 106)
  ⟨[],[],none,none,rfl,s3,erl,.nil,rfl,(λb hb=>by cases hb)⟩ ?_ ?_⟩
 ·rintro i σ L0 hi ⟨rv,rows,o2,o3,rfl,sm,erl,hrv,lr,WBr⟩
  have i3:i < n:=by omega
  have sj:=sm.trans yx
  have lrv:=Paired.length hrv
  obtain ⟨xv,hxv⟩:∃ x,bv[i]? = some x:=⟨_,List.getElem?_eq_getElem (by omega)⟩
  obtain ⟨bb,hbb,p,rfl,ep⟩:=xU hbv hxv
  have bbd:=ob bb (List.mem_of_getElem? hbb)
  refine ⟨_,rfl,a,_,rfl,.inl (zJ.of (sj _ _ ha)),_,rfl,(by omega),(by omega),jC (lo:=0) (n:=((bv.length:Nat):Int).toNat)
   (λk zs σ H2=>∃ ws:List Int,zs=ws.map V.int/\ws.length=k/\(∀ x∈ws,Bd 2 x)/\(∃ o,σ=[o,some (.int (0 + (i:Int)))])/\zG L0 H2)
   ⟨[],rfl,rfl,(λx hx=>by cases hx),⟨none,rfl⟩,zG.refl _⟩ (λk zs σ H2 ⟨ws,e1,l1,_⟩=>by rw [e1,List.length_map]; omega) (yd (by omega)) ?_ ?_⟩
  ·rintro k zs σ H2 hk ⟨ws,rfl,lw,bw,⟨o,rfl⟩,sk⟩
   refine ⟨_,rfl,_,rfl,rfl,.inr ⟨_,rfl,?_⟩⟩
   exact ⟨ws++[(if decide (V.int (0 + (k:Int))=V.int (0 + (i:Int))) then 1 else 0)],(by rw [List.map_append]; rfl),(by rw [List.length_append,lw]; rfl),vX bw ((by split <;> exact Bd.lit)),⟨_,rfl⟩,sk⟩
  rintro zs σ H2k ⟨ws,rfl,lw,bw,⟨o,rfl⟩,sk⟩ c1 hc1
  obtain ⟨M,hhM,zc,ec1⟩:=zw (HO.lst (ws.map V.int)) hc1
  rw [hhM]
  have zM:=sk.trans zc
  have erM:=zM _ _ erl
  have sM:=sj.trans zM
  have hrM:=yI.same (wC (B:=[rl]) zM) hrv
  have smM:=sm.trans (wC (B:=[rl]) zM)
  refine ⟨_,rfl,.inl ⟨rfl,_,zJ.of erM⟩,_,rfl,_,rfl,_,rfl,a,_,_,_,rfl,rfl,zJ.of (sM _ _ ha),UJ hxv,p,_,_,_,rfl,rfl,zT.of (sM _ _ ep),w4,wQ,λlA hlA=>?_⟩
  obtain ⟨PA,hhPA,zA1,elA⟩:=zw (HO.lst [V.int bb.2]) hlA
  rw [hhPA]
  refine ⟨c1,lA,_,_,rfl,rfl,zA1 _ _ ec1,elA,yd ((by rw [List.length_map]; show List.length ws + 1<=1000; omega)),λmA hmA=>?_⟩
  have zA2:=zx hmA (HO.lst (zo ws bb.2))
  have emA:=zj (H:=PA) (a:=mA) (o:=HO.lst (zo ws bb.2))
  unfold zo at zA2 emA
  generalize hhQA:upd PA mA (HO.lst ((ws).map V.int++[V.int bb.2]))=QA at zA2 emA |-
  refine ⟨mA,_,rfl,.inl ⟨zJ.of emA,λtA htA=>?_⟩⟩
  have zA3:=zx htA (HO.tup (zo ws bb.2))
  have etA:=zj (H:=QA) (a:=tA) (o:=HO.tup (zo ws bb.2))
  unfold zo at zA3
  generalize hhRA:upd QA tA (HO.tup ((ws).map V.int++[V.int bb.2]))=RA at zA3 |-
  replace etA:RA tA=some (.tup (zo ws bb.2)):=by rw [<- hhRA]; exact etA
  have zA:=zA1.trans (zA2.trans zA3)
  refine ⟨rl,rv,_,rfl,rfl,zA _ _ erM,wY (by omega),?_⟩
  have h5:=w6 (x:=rl) (H:=RA) (HO.lst (rv++[V.ref tA]))
  have h4:=(wC (B:=[rl]) zA).trans h5
  have er2:=zj (H:=RA) (a:=rl) (o:=HO.lst (rv++[V.ref tA]))
  have hr2:yI (hide [rl] (upd RA rl (HO.lst (rv++[V.ref tA])))) (rv++[V.ref tA]) (rows++[(ws,bb.2)]):=xg (R:=jI _) ⟨tA,rfl,h5 _ _ (jM (zA _ _ erM) etA)⟩ (yI.same h4 hrM)
  have c1r:c1≠rl:=λe=>by rw [e,sk _ _ erl] at hc1; cases hc1
  have ec2:upd RA rl (HO.lst (rv++[V.ref tA])) c1=some (.lst (ws.map V.int)):=(yW c1r).trans (zA _ _ ec1)
  have sm2:=smM.trans h4
  generalize hhU:upd RA rl (HO.lst (rv++[V.ref tA]))=U0 at er2 hr2 ec2 sm2 |-
  have sj2:=sm2.trans yx
  refine ⟨_,rfl,.inl ⟨rfl,_,zJ.of er2⟩,_,rfl,c1,rfl,⟨_,zJ.of ec2⟩,vR (K:=K) (a:=c1) (xs:=ws.map V.int) (λj ys σ H'=>ys=((ws.map λx=>0 - x).take j).map V.int/\(∃ o,σ=[o])/\H'=U0)
   ⟨rfl,⟨none,rfl⟩,rfl⟩ (λj ys σ H' hj ⟨e1,_,e3⟩=>⟨by rw [e3]; exact zJ.of ec2,by rw [e1,List.length_map,List.length_take]; exact Nat.min_le_left _ _⟩) (yd ((by rw [List.length_map]; omega))) ?_ ?_⟩
  ·rintro j x ys σ H' hj ⟨rfl,⟨o,rfl⟩,rfl⟩
   obtain ⟨z,hz,rfl⟩:=vn hj
   refine ⟨_,rfl,_,_,rfl,rfl,?_,⟨_,rfl⟩,rfl⟩
   have hz2:(ws.map λx=>0 - x)[j]? = some (0 - z):=by rw [List.getElem?_map,hz]; rfl
   rw [xH hz2,List.map_append]
   rfl
  rintro ys σ H' ⟨rfl,⟨o,rfl⟩,hZ⟩ c2 hc2
  rw [hZ] at hc2 |-
  clear hZ
  rw [List.take_of_length_le (by rw [List.length_map,List.length_map]; exact Nat.le_refl _)]
  have lw2:(ws.map λx=>0 - x).length=n:=by rw [List.length_map]; omega
  have bw2:∀ x∈ws.map (λx=>0 - x),Bd 2 x:=λx hx=>by
   obtain ⟨y,hy,rfl⟩:=List.mem_map.mp hx
   rw [Int.zero_sub]
   exact (bw y hy).neg
  generalize ws.map (λx=>0 - x)=us at lw2 bw2 hc2 |-
  obtain ⟨N0,hhN,zd,ec3⟩:=zw (HO.lst (us.map V.int)) hc2
  rw [hhN]
  have sN:=sj2.trans zd
  refine ⟨_,rfl,_,rfl,a,_,_,_,rfl,rfl,zJ.of (sN _ _ ha),UJ hxv,p,_,_,_,rfl,rfl,zT.of (sN _ _ ep),vm,_,_,rfl,rfl,wQ,λlB hlB=>?_⟩
  obtain ⟨PB,hhPB,zB1,elB⟩:=zw (HO.lst [V.int (0 - bb.1)]) hlB
  rw [hhPB]
  refine ⟨c2,lB,_,_,rfl,rfl,zB1 _ _ ec3,elB,yd ((by rw [List.length_map]; show List.length us + 1<=1000; omega)),λmB hmB=>?_⟩
  have zB2:=zx hmB (HO.lst (zo us (0 - bb.1)))
  have emB:=zj (H:=PB) (a:=mB) (o:=HO.lst (zo us (0 - bb.1)))
  unfold zo at zB2 emB
  generalize hhQB:upd PB mB (HO.lst ((us).map V.int++[V.int (0 - bb.1)]))=QB at zB2 emB |-
  refine ⟨mB,_,rfl,.inl ⟨zJ.of emB,λtB htB=>?_⟩⟩
  have zB3:=zx htB (HO.tup (zo us (0 - bb.1)))
  have etB:=zj (H:=QB) (a:=tB) (o:=HO.tup (zo us (0 - bb.1)))
  unfold zo at zB3
  generalize hhRB:upd QB tB (HO.tup ((us).map V.int++[V.int (0 - bb.1)]))=RB at zB3 |-
  replace etB:RB tB=some (.tup (zo us (0 - bb.1))):=by rw [<- hhRB]; exact etB
  have zB:=zB1.trans (zB2.trans zB3)
  have zz:=zd.trans zB
  refine ⟨rl,_,_,rfl,rfl,zz _ _ er2,wY (by rw [List.length_append,List.length_singleton]; omega),?_⟩
  have h7:=w6 (x:=rl) (H:=RB) (HO.lst (rv++[V.ref tA]++[V.ref tB]))
  have h6:=(wC (B:=[rl]) zz).trans h7
  refine ⟨rv++[V.ref tA]++[V.ref tB],rows++[(ws,bb.2)]++[(us,0 - bb.1)],_,_,rfl,sm2.trans h6,zj,?_,(by rw [List.length_append,List.length_append,lr]; show 2 * i + 1 + 1=2 * (i + 1); omega),UD (UD WBr (by show ws.length=n; omega) bw bbd.2) lw2 bw2 (by show Bd 106 (0 - bb.1); rw [Int.zero_sub]; exact bbd.1.neg)⟩
  exact xg (R:=jI _) ⟨tB,rfl,h7 _ _ (jM (zz _ _ er2) etB)⟩ (yI.same h6 hr2)
 rintro σ L0 ⟨rv,rows,o2,o3,rfl,sm,erl,hrv,lr,WBr⟩
 exact ⟨_,rfl,q rl rv rows L0 (sm.trans yx) erl (yI.same yx hrv) (by omega) WBr⟩
theorem zLF {k:Nat} {f:Addr} {fd:FuncData} (F:yb K "_law_safe" "_law_safe" YR f fd) (B:Bl mg) (aq:Fn P w K mg base "_law_stream" ["_law_cell","_law_many"] k jv) (ak:Fn P w K mg base "_law_number" ["_law_x","_law_far"] k qg) (bH:Fn P w K mg base "_law_rows" ["_law_box_here"] k UC) (bI:Fn P w K mg base "_law_box" ["_law_cell","_law_many","_law_unit"] k UB):zU P w K mg base yG (k + 1) f fd ["_law_spec","_law_cell"] UH:=by
 refine F.ok gK ?_ ?_
 ·rintro vs H Q E ⟨st,x,y,c,u,n,rfl,_⟩
  rfl
 rintro cdv A outer s H vs Q E hr ⟨st,x,y,c,u,n,rfl,est,n1,n3,u0,bu,q⟩
 refine ⟨_,(zW (zy (i:=2) gK.nd rfl (Or.inr rfl) (zk aq hr rfl (zD (zC 1) (zD zK zI))))
  (zW (zy (i:=3) gK.nd rfl (Or.inl rfl) (xF zI))
  (zW (wI PassesOwn.never rfl (wX rfl B.range_ (zD (zh yi (xF (zD zK (zD zK (zD zK (zD zK zI))))) (zV (ji wA) (zh yi (zC 2) zK (λ_ _=>rfl)) zK) (λ_ _=>rfl)) zI)) (zr (i:=4) gK.nd rfl (Or.inr rfl)) (zW (qO (i:=5) gK.nd rfl rfl (own:=["_law_j"]) (caps:=[(2,"_law_xs"),(4,"_law_k")]) (wD (S:=ze YR) (N:=["_law_spec","_law_cell","_law_xs","_law_rows_here","_law_k","_law_numbers"]) ⟨_,rfl⟩) rfl (wX rfl B.range_ (zD (zh yc (zC 0) zK (λ_ _=>rfl)) zI)) (λ_ _ _ _=>zr (i:=0) (show (["_law_j","_law_xs","_law_k"]:List Str).Nodup by decide +kernel) rfl (Or.inl rfl)) (λ_ _ _ _=>(zk ak hr rfl (zD (zh (show wT _ (we (zJ K)) from yi) (zC 1) (zV (yU yz) (zV (yU yz) zK (zV (ji yy) zK (zC 2))) (zC 0)) (λ_ _=>rfl)) (zD zK zI)))) rfl)
   (zY (vB (vI PySem.F.plainAttrs_list PySem.F.slot_list_append PySem.F.type_list_append xP (zC 3) (zD (xn wM rfl B.tuple_ vK (zD (zV xh (zC 5) (xF (zD (zV (ji yy) (zk ak hr rfl (zD (zh yi (zC 2) (zV (yU yz) zK (zC 4)) (λ_ _=>rfl)) (zD zK zI))) (zh yc (zC 0) zK (λ_ _=>rfl))) zI))) zI)) zI))))))
  (zW (yq (xX (yU qC) (zV (ji wA) (zh yi (zC 2) zK (λ_ _=>rfl)) zK) zK (yu _)) (zY (zy (i:=3) gK.nd rfl (Or.inl rfl) (zV xh (zk bH hr rfl (zD (zk bI hr rfl (zD (zh yi (zC 2) zK (λ_ _=>rfl)) (zD (zh yc (zC 0) zK (λ_ _=>rfl)) (zD (zh yc (zC 0) zK (λ_ _=>rfl)) zI)))) zI)) (zC 3)))) yt)
  (zY (yH (zC 3))))))),?_⟩
 try dsimp only [zP,Cx.nox,Cx.wish]
 refine ⟨_,rfl,_,12,rfl,(by decide),(by decide),λxa J1 xs y1 _ ex lx bx0=>?_⟩
 have lx12:xs.length=12:=lx
 have px:∀ k,0<=xs.getD k 0:=λk=>by
  rw [List.getD_eq_getElem?_getD]
  cases e:xs[k]? with
  | none=>exact Int.le_refl 0
  | some x=>exact (bx0 x (List.mem_of_getElem? e)).1
 have bx:∀ k,Bd 150 (xs.getD k 0):=λk=>jL (λx hx=>uY (bx0 x hx)) k
 refine ⟨vL,λrl hrl=>?_⟩
 obtain ⟨J2,hhJ2,y2,erl⟩:=zw (HO.lst ([]:List V)) hrl
 rw [hhJ2]
 refine ⟨Z6,λl4 hl4=>?_⟩
 obtain ⟨J3,hhJ3,y3,el4⟩:=zw (HO.lst [V.int 0,V.int 1,V.int 1,V.int 2]) hl4
 rw [hhJ3]
 obtain ⟨kk,ekk,kk2⟩:=zOd (Int.fmod_nonneg_of_pos (xs.getD 0 0) (show (0:Int) < 4 by decide)) (Int.fmod_lt_of_pos (xs.getD 0 0) (show (0:Int) < 4 by decide))
 have s3:=ug hrl (y2.trans y3)
 refine ⟨_,rfl,xa,_,_,_,rfl,rfl,zJ.of (y3 _ _ (y2 _ _ ex)),x8 (xs:=xs) (k:=0) (by omega) (by omega),_,_,rfl,rfl,(show (4:Int)≠0 by decide),l4,_,_,_,rfl,rfl,zJ.of el4,ekk,_,rfl,(by omega),(by omega),uO (lo:=0) (n:=((kk:Nat):Int).toNat)
  (λi σ H'=>∃ (rv:List V) (rows:List (List Int × Int)) (o4 o5:Option V),σ=[some (.ref st),some (.int c),some (.ref xa),some (.ref rl),o4,o5]/\zG J1 (hide [rl] H')/\H' rl=some (.lst rv)/\yI (hide [rl] H') rv rows/\rows.length=i/\WB rows n 2 106)
  ⟨[],[],none,none,rfl,s3,y3 _ _ erl,.nil,rfl,(λb hb=>by cases hb)⟩ ?_ ?_⟩
 ·rintro i σ L0 hi ⟨rv,rows,o4,o5,rfl,sm,erl,hrv,lr,WBr⟩
  have i3:i < 2:=by omega
  have sj:=sm.trans yx
  have lrv:=Paired.length hrv
  have exL:=sj _ _ ex
  have estL:=sj _ _ (y1 _ _ est)
  refine ⟨_,rfl,st,_,_,_,rfl,rfl,zT.of estL,(show yk [V.int (n:Int),x,y,V.int u] 0=some (.int (n:Int)) from rfl),_,rfl,(by omega),(by omega),jC (lo:=0) (n:=((n:Nat):Int).toNat)
   (λk zs σ H2=>∃ ws:List Int,zs=ws.map V.int/\ws.length=k/\(∀ x∈ws,Bd 2 x)/\(∃ o,σ=[o,some (.ref xa),some (.int (0 + (i:Int)))])/\zG L0 H2)
   ⟨[],rfl,rfl,(λx hx=>by cases hx),⟨none,rfl⟩,zG.refl _⟩ (λk zs σ H2 ⟨ws,e1,l1,_⟩=>by rw [e1,List.length_map]; omega) (yd (by omega)) ?_ ?_⟩
  ·rintro k zs σ H2 hk ⟨ws,rfl,lw,bw,⟨o,rfl⟩,sk⟩
   refine ⟨_,rfl,_,rfl,_,_,rfl,rfl,⟨(Bd.lit (i:=3) (n:=2)).mono,(j1 (i:=i) (by omega)).mono⟩,_,_,rfl,rfl,_,rfl,_,_,rfl,rfl,xa,_,_,_,rfl,rfl,zJ.of (sk _ _ exL),x8 (xs:=xs) (k:=((1 + (3 * i)) + k)) (by omega) (by omega),_,_,rfl,(by decide),Bd.lit,λy v1 v2=>?_⟩
   exact ⟨ws++[y],(by rw [List.map_append]; rfl),(by rw [List.length_append,lw]; rfl),vX bw (wg (f:=2) (n:=2) Bd.lit v1 v2),⟨_,rfl⟩,sk⟩
  rintro zs σ H2k ⟨ws,rfl,lw,bw,⟨o,rfl⟩,sk⟩ c1 hc1
  have lwn:ws.length=n:=by omega
  obtain ⟨M,hhM,zc,ec1⟩:=zw (HO.lst (ws.map V.int)) hc1
  rw [hhM]
  have zM:=sk.trans zc
  have erM:=zM _ _ erl
  have hrM:=yI.same (wC (B:=[rl]) zM) hrv
  have smM:=sm.trans (wC (B:=[rl]) zM)
  refine ⟨_,rfl,.inl ⟨rfl,_,zJ.of erM⟩,_,rfl,_,rfl,_,rfl,_,_,rfl,rfl,xa,_,_,_,rfl,rfl,zJ.of (zM _ _ exL),x8 (xs:=xs) (k:=(7 + i)) (by omega) (by omega),_,_,rfl,(by decide),Bd.lit,λy' y4 y5=>?_⟩
  have b4:Bd 3 y':=wg (f:=4) Bd.lit y4 y5
  refine ⟨_,rfl,st,_,_,_,rfl,rfl,zT.of (zM _ _ estL),(show yk [V.int (n:Int),x,y,V.int u] 3=some (.int u) from rfl),_,_,rfl,rfl,⟨b4.mono,bu.mono⟩,wQ,λlA hlA=>?_⟩
  obtain ⟨PA,hhPA,zA1,elA⟩:=zw (HO.lst [V.int (y' * u)]) hlA
  rw [hhPA]
  refine ⟨c1,lA,_,_,rfl,rfl,zA1 _ _ ec1,elA,yd ((by rw [List.length_map]; show List.length ws + 1<=1000; omega)),λmA hmA=>?_⟩
  have zA2:=zx hmA (HO.lst (zo ws (y' * u)))
  have emA:=zj (H:=PA) (a:=mA) (o:=HO.lst (zo ws (y' * u)))
  unfold zo at zA2 emA
  generalize hhQA:upd PA mA (HO.lst ((ws).map V.int++[V.int (y' * u)]))=QA at zA2 emA |-
  refine ⟨mA,_,rfl,.inl ⟨zJ.of emA,λtA htA=>?_⟩⟩
  have zA3:=zx htA (HO.tup (zo ws (y' * u)))
  have etA:=zj (H:=QA) (a:=tA) (o:=HO.tup (zo ws (y' * u)))
  unfold zo at zA3
  generalize hhRA:upd QA tA (HO.tup ((ws).map V.int++[V.int (y' * u)]))=RA at zA3 |-
  replace etA:RA tA=some (.tup (zo ws (y' * u))):=by rw [<- hhRA]; exact etA
  have zA:=zA1.trans (zA2.trans zA3)
  refine ⟨rl,rv,_,rfl,rfl,zA _ _ erM,wY (by omega),?_⟩
  have h5:=w6 (x:=rl) (H:=RA) (HO.lst (rv++[V.ref tA]))
  have h4:=(wC (B:=[rl]) zA).trans h5
  refine ⟨rv++[V.ref tA],rows++[(ws,y' * u)],_,_,rfl,smM.trans h4,zj,?_,(by rw [List.length_append,lr]; rfl),UD WBr lwn bw (Bd.mono (n:=103) (b4.mul bu) (by decide))⟩
  exact xg (R:=jI _) ⟨tA,rfl,h5 _ _ (jM (zA _ _ erM) etA)⟩ (yI.same h4 hrM)
 rintro σ L0 ⟨rv,rows,o4,o5,rfl,sm,erl,hrv,lr,WBr⟩
 have sj:=sm.trans yx
 have exL:=sj _ _ ex
 have estL:=sj _ _ (y1 _ _ est)
 have hrv:=yI.same yx hrv
 have lrv:=Paired.length hrv
 refine ⟨_,rfl,xa,_,_,_,rfl,rfl,zJ.of exL,x8 (xs:=xs) (k:=9) (by omega) (by omega),_,_,rfl,rfl,(show (4:Int)≠0 by decide),_,_,rfl,rfl,_,rfl,?_⟩
 refine vQ (λcs=>?_) (λcs=>?_)
 ·refine ⟨_,rfl,xa,_,_,_,rfl,rfl,zJ.of exL,x8 (xs:=xs) (k:=10) (by omega) (by omega),_,rfl,st,_,_,_,rfl,rfl,zT.of estL,(show yk [V.int (n:Int),x,y,V.int u] 0=some (.int (n:Int)) from rfl),_,rfl,st,_,_,_,rfl,rfl,zT.of estL,(show yk [V.int (n:Int),x,y,V.int u] 3=some (.int u) from rfl),_,u,n,rfl,n1,n3,u0,bu,λbl bv bx' B1 z1 ebl hbv lb ob=>?_⟩
  refine ⟨bl,bv,bx',n,rfl,ebl,hbv,lb,n1,n3,ob,λl2 rv2 rows2 B2 z2 el2 hr2 lr2 WB2=>?_⟩
  have len2:=Paired.length hr2
  have zz:=z1.trans z2
  refine ⟨_,rfl,l2,rl,_,_,rfl,rfl,el2,zz _ _ erl,yd (by omega),λl3 hl3=>?_⟩
  have z3:=zx hl3 (HO.lst (rv2++rv))
  refine ⟨_,rfl,q l3 (rv2++rv) (rows2++rows) _ (y1.trans (sj.trans (zz.trans z3))) zj (ju (yI.same z3 hr2) (yI.same (zz.trans z3) hrv)) (WB2.app WBr (Nat.le_refl _) (Nat.le_refl _)) (by rw [List.length_append]; omega)⟩
 ·exact ⟨_,rfl,q rl rv rows L0 (y1.trans sj) erl hrv WBr (by omega)⟩
theorem zLM {k:Nat} {f:Addr} {fd:FuncData} (F:yb K "_law_game" "_law_game" vM f fd) (B:Bl mg) (bJ:Fn P w K mg base "_law_thing" ["_law_script"] k (W9 K)) (aq:Fn P w K mg base "_law_stream" ["_law_cell","_law_many"] k jv) (ar:Fn P w K mg base "_law_cell_at" ["_law_script","_law_k"] k (kH K)) (ak:Fn P w K mg base "_law_number" ["_law_x","_law_far"] k qg) (bL:Fn P w K mg base "_law_safe" ["_law_spec","_law_cell"] k UH):zU P w K mg base yG (k + 1) f fd ["_law_script"] (UI K):=by
 refine F.ok vt ?_ ?_
 ·rintro vs H Q E ⟨a,ns,rfl,_⟩
  rfl
 rintro cdv A outer s H vs Q E hr ⟨a,ns,rfl,hS,q⟩
 obtain ⟨u_7,E_7,U_7⟩:=L2.vU (p:=λt=>xc (zP yG P w K mg base ja "_law_game" (ze vM) f cdv A outer s H E).nox ((xR vM).drop 7) t) (zY (yH (xy (zD (zC 12) (zD (zk bL hr rfl (zD (zC 12) (zD (zk ar hr rfl (zD (zC 0) (zD zK zI))) zI))) (zD (zC 13) (zD (zV (yU yz) (zC 13) (zV (ji yy) (zV (ji wA) (zh yi (zC 5) zK (λ_ _=>rfl)) zK) (zC 4))) (zD (zC 14) zI))))))))
 obtain ⟨u_6,E_6,U_6⟩:=L2.vU (p:=λt=>xc (zP yG P w K mg base ja "_law_game" (ze vM) f cdv A outer s H E).nox ((xR vM).drop 6) t) (zW (zy (i:=14) vt.nd rfl (Or.inl rfl) (zV (yU yz) zK (zV (ji wA) (zh yi (zC 5) zK (λ_ _=>rfl)) (zh yi (xF (zD zK (zD zK (zD zK zI)))) (zV (yU wz) (zC 1) zK) (λ_ _=>rfl)))))
 U_7)
 obtain ⟨u_5,E_5,U_5⟩:=L2.vU (p:=λt=>xc (zP yG P w K mg base ja "_law_game" (ze vM) f cdv A outer s H E).nox ((xR vM).drop 5) t) (zW (zy (i:=13) vt.nd rfl (Or.inl rfl) (zV (ji yy) (zk ak hr rfl (zD (zh yi (zC 5) zK (λ_ _=>rfl)) (zD zK zI))) (zC 4)))
 U_6)
 obtain ⟨u_4,E_4,U_4⟩:=L2.vU (p:=λt=>xc (zP yG P w K mg base ja "_law_game" (ze vM) f cdv A outer s H E).nox ((xR vM).drop 4) t) (zW (zy (i:=12) vt.nd rfl (Or.inl rfl) (xy (zD (zC 1) (zD (zC 2) (zD (xF (zD (xy (zD (xF zI) (zD (zC 7) (zD (zC 8) (zD (zC 9) (zD (zC 10) (zD (zC 11) zI))))))) zI)) (zD (zC 4) zI))))))
 U_5)
 obtain ⟨u_3,E_3,U_3⟩:=L2.vU (p:=λt=>xc (zP yG P w K mg base ja "_law_game" (ze vM) f cdv A outer s H E).nox ((xR vM).drop 3) t) (zW (qO (i:=8) vt.nd rfl rfl (own:=["_law_i"]) (caps:=[(5,"_law_xs")]) (wD (S:=ze vM) (N:=ja) ⟨_,rfl⟩) rfl (wX rfl B.range_ (zD (zC 1) zI)) (λ_ _ _ _=>zr (i:=0) (show (["_law_i","_law_xs"]:List Str).Nodup by decide +kernel) rfl (Or.inl rfl)) (λ_ _ _ _=>(zk ak hr rfl (zD (zh (show wT _ (we (zJ K)) from yi) (zC 1) (zC 0) (λ_ _=>rfl)) (zD zK zI)))) rfl)
 U_4)
 obtain ⟨u_2,E_2,U_2⟩:=L2.vU (p:=λt=>xc (zP yG P w K mg base ja "_law_game" (ze vM) f cdv A outer s H E).nox ((xR vM).drop 2) t) (zW (qp (zh yi (zC 3) zK (λ_ _=>rfl)) (vb rfl (yp (zr (i:=6) vt.nd rfl (Or.inl rfl)) (yp (zr (i:=7) vt.nd rfl (Or.inl rfl)) (yp (zr (i:=8) vt.nd rfl (Or.inl rfl)) (yp (zr (i:=9) vt.nd rfl (Or.inl rfl)) (yp (zr (i:=10) vt.nd rfl (Or.inl rfl)) (yp (zr (i:=11) vt.nd rfl (Or.inl rfl)) va))))))))
 U_3)
 obtain ⟨u_1,E_1,U_1⟩:=L2.vU (p:=λt=>xc (zP yG P w K mg base ja "_law_game" (ze vM) f cdv A outer s H E).nox ((xR vM).drop 1) t) (zW (zy (i:=5) vt.nd rfl (Or.inr rfl) (zk aq hr rfl (zD (zk ar hr rfl (zD (zC 0) (zD zK zI))) (zD zK zI))))
 U_2)
 refine ⟨_,(zW (qp (zk bJ hr rfl (zD (zC 0) zI)) (vb rfl (yp (zr (i:=1) vt.nd rfl (Or.inl rfl)) (yp (zr (i:=2) vt.nd rfl (Or.inl rfl)) (yp (zr (i:=3) vt.nd rfl (Or.inl rfl)) (yp (zr (i:=4) vt.nd rfl (Or.inl rfl)) va))))))
 U_1),?_⟩
 try dsimp only [zP,Cx.nox,Cx.wish]
 refine ⟨_,rfl,a,ns,rfl,hS,λv J0 y0 TV=>?_⟩
 obtain ⟨tt,pa,ma,n,u,pv,mv,bs,rfl,ett,epa,hpv,b2,ob,ema,lm1,hmv,n1,n3,u0,bu⟩:=TV
 have lpv:=Paired.length hpv
 refine ⟨tt,_,rfl,zT.of ett,rfl,_,_,rfl,_,_,rfl,_,_,rfl,_,_,rfl,rfl,?_⟩
 show u_1 _ [some (.ref a),some (.int (n:Int)),some (.ref pa),some (.ref ma),some (.int u),none,none,none,none,none,none,none,none,none,none] _
 rw [E_1]
 try dsimp only [zP,Cx.nox,Cx.wish]
 refine ⟨_,rfl,a,ns,5,rfl,y0.seq hS,(by decide),_,6,rfl,(by decide),(by decide),λxa J1 xs y1 _ ex lx bx0=>?_⟩
 have lx6:xs.length=6:=lx
 have px:∀ k,0<=xs.getD k 0:=λk=>by
  rw [List.getD_eq_getElem?_getD]
  cases e:xs[k]? with
  | none=>exact Int.le_refl 0
  | some x=>exact (bx0 x (List.mem_of_getElem? e)).1
 have bx:∀ k,Bd 150 (xs.getD k 0):=λk=>jL (λx hx=>uY (bx0 x hx)) k
 show u_2 _ [some (.ref a),some (.int (n:Int)),some (.ref pa),some (.ref ma),some (.int u),some (.ref xa),none,none,none,none,none,none,none,none,none] _
 rw [E_2]
 try dsimp only [zP,Cx.nox,Cx.wish]
 obtain ⟨v0,hv0⟩:∃ v,mv[0]? = some v:=⟨_,List.getElem?_eq_getElem (by omega)⟩
 obtain ⟨t6,ra,na,sa0,qa,aa,nv,wv,nx,pu,ad,dv,rfl,et6,ena,hnv,eqa,hqv,eaa,MP⟩:=(hmv v0 (List.mem_of_getElem? hv0)).same y1
 refine ⟨_,rfl,ma,_,_,_,rfl,rfl,zJ.of (y1 _ _ ema),um hv0,t6,_,rfl,zT.of et6,rfl,_,_,rfl,_,_,rfl,_,_,rfl,_,_,rfl,_,_,rfl,_,_,rfl,rfl,?_⟩
 show u_3 _ [some (.ref a),some (.int (n:Int)),some (.ref pa),some (.ref ma),some (.int u),some (.ref xa),some (.ref ra),some (.ref na),some (.ref sa0),some (.ref qa),some (.ref aa),some (.int dv),none,none,none] _
 rw [E_3]
 try dsimp only [zP,Cx.nox,Cx.wish]
 refine ⟨_,rfl,_,rfl,(by omega),(by omega),jC (lo:=0) (n:=((n:Nat):Int).toNat)
  (λk zs σ H2=>∃ ws:List Int,zs=ws.map V.int/\ws.length=k/\(∀ x∈ws,Bd 2 x)/\(∃ o,σ=[o,some (.ref xa)])/\zG J1 H2)
  ⟨[],rfl,rfl,(λx hx=>by cases hx),⟨none,rfl⟩,zG.refl _⟩ (λk zs σ H2 ⟨ws,e1,l1,_⟩=>by rw [e1,List.length_map]; omega) (yd (by omega)) ?_ ?_⟩
 ·rintro k zs σ H2 hk ⟨ws,rfl,lw,bw,⟨o,rfl⟩,sk⟩
  refine ⟨_,rfl,_,rfl,xa,_,_,_,rfl,rfl,zJ.of (sk _ _ ex),x8 (xs:=xs) (k:=k) (by omega) (by omega),_,_,rfl,(by decide),Bd.lit,λy v1 v2=>?_⟩
  exact ⟨ws++[y],(by rw [List.map_append]; rfl),(by rw [List.length_append,lw]; rfl),vX bw (wg (f:=2) (n:=2) Bd.lit v1 v2),⟨_,rfl⟩,sk⟩
 rintro zs σ H2k ⟨ws,rfl,lw,bw,⟨o,rfl⟩,sk⟩ sa hsa
 have lwn:ws.length=n:=by omega
 have sK:=y0.trans (y1.trans sk)
 have ett:=(y1.trans sk) _ _ ett
 have epa:=(y1.trans sk) _ _ epa
 have hpv:=xZ (y1.trans sk) hpv
 have ena:=sk _ _ ena
 have hnv:=zX.same sk hnv
 have eqa:=sk _ _ eqa
 have hqv:=zX.same sk hqv
 have eaa:=sk _ _ eaa
 have ex:=sk _ _ ex
 obtain ⟨G1,hhG1,yG1,esa⟩:=zw (HO.lst (ws.map V.int)) hsa
 rw [hhG1]
 have SG1:=sK.trans yG1
 replace epa:=(yG1 _ _ epa)
 replace hpv:=(xZ yG1 hpv)
 replace ena:=(yG1 _ _ ena)
 replace hnv:=(zX.same yG1 hnv)
 replace eqa:=(yG1 _ _ eqa)
 replace hqv:=(zX.same yG1 hqv)
 replace eaa:=(yG1 _ _ eaa)
 replace ex:=(yG1 _ _ ex)
 show u_4 _ [some (.ref a),some (.int (n:Int)),some (.ref pa),some (.ref ma),some (.int u),some (.ref xa),some (.ref ra),some (.ref na),some (.ref sa),some (.ref qa),some (.ref aa),some (.int dv),none,none,none] _
 rw [E_4]
 try dsimp only [zP,Cx.nox,Cx.wish]
 refine ⟨_,rfl,_,rfl,vL,λe0 he0=>?_⟩
 obtain ⟨G2,hhG2,yG2,ee0⟩:=zw (HO.lst ([]:List V)) he0
 rw [hhG2]
 have SG2:=SG1.trans yG2
 replace epa:=(yG2 _ _ epa)
 replace hpv:=(xZ yG2 hpv)
 replace ena:=(yG2 _ _ ena)
 replace hnv:=(zX.same yG2 hnv)
 replace eqa:=(yG2 _ _ eqa)
 replace hqv:=(zX.same yG2 hqv)
 replace eaa:=(yG2 _ _ eaa)
 replace ex:=(yG2 _ _ ex)
 replace esa:=(yG2 _ _ esa)
 refine ⟨_,rfl,_,rfl,_,rfl,_,rfl,_,rfl,Z7,λq6 hq6=>?_⟩
 obtain ⟨G3,hhG3,yG3,eq6⟩:=zw (HO.tup [V.ref e0,V.ref na,V.ref sa,V.ref qa,V.ref aa,V.int dv]) hq6
 rw [hhG3]
 have SG3:=SG2.trans yG3
 replace epa:=(yG3 _ _ epa)
 replace hpv:=(xZ yG3 hpv)
 replace ena:=(yG3 _ _ ena)
 replace hnv:=(zX.same yG3 hnv)
 replace eqa:=(yG3 _ _ eqa)
 replace hqv:=(zX.same yG3 hqv)
 replace eaa:=(yG3 _ _ eaa)
 replace ex:=(yG3 _ _ ex)
 replace esa:=(yG3 _ _ esa)
 replace ee0:=(yG3 _ _ ee0)
 refine ⟨wQ,λm1 hm1=>?_⟩
 obtain ⟨G4,hhG4,yG4,em1⟩:=zw (HO.lst [V.ref q6]) hm1
 rw [hhG4]
 have SG4:=SG3.trans yG4
 replace epa:=(yG4 _ _ epa)
 replace hpv:=(xZ yG4 hpv)
 replace ena:=(yG4 _ _ ena)
 replace hnv:=(zX.same yG4 hnv)
 replace eqa:=(yG4 _ _ eqa)
 replace hqv:=(zX.same yG4 hqv)
 replace eaa:=(yG4 _ _ eaa)
 replace ex:=(yG4 _ _ ex)
 replace esa:=(yG4 _ _ esa)
 replace ee0:=(yG4 _ _ ee0)
 replace eq6:=(yG4 _ _ eq6)
 refine ⟨_,rfl,Z6,λst hst=>?_⟩
 obtain ⟨G5,hhG5,yG5,est⟩:=zw (HO.tup [V.int (n:Int),V.ref pa,V.ref m1,V.int u]) hst
 rw [hhG5]
 have SG5:=SG4.trans yG5
 replace epa:=(yG5 _ _ epa)
 replace hpv:=(xZ yG5 hpv)
 replace ena:=(yG5 _ _ ena)
 replace hnv:=(zX.same yG5 hnv)
 replace eqa:=(yG5 _ _ eqa)
 replace hqv:=(zX.same yG5 hqv)
 replace eaa:=(yG5 _ _ eaa)
 replace ex:=(yG5 _ _ ex)
 replace esa:=(yG5 _ _ esa)
 replace ee0:=(yG5 _ _ ee0)
 replace eq6:=(yG5 _ _ eq6)
 replace em1:=(yG5 _ _ em1)
 have SV:uj G5 (.ref st) n bs [⟨[],nx,ws,pu,ad,dv⟩] u:=⟨st,pa,m1,pv,[V.ref q6],rfl,est,epa,hpv,em1,.cons ⟨q6,e0,na,sa,qa,aa,[],nv,wv,rfl,eq6,ee0,.nil,ena,hnv,esa,eqa,hqv,eaa⟩ .nil⟩
 clear epa hpv em1 eq6 ee0 ena hnv esa eqa hqv eaa
 show u_5 _ [some (.ref a),some (.int (n:Int)),some (.ref pa),some (.ref ma),some (.int u),some (.ref xa),some (.ref ra),some (.ref na),some (.ref sa),some (.ref qa),some (.ref aa),some (.int dv),some (.ref st),none,none] _
 rw [E_5]
 try dsimp only [zP,Cx.nox,Cx.wish]
 refine ⟨_,rfl,xa,_,_,_,rfl,rfl,zJ.of ex,x8 (xs:=xs) (k:=3) (by omega) (by omega),_,_,rfl,(by decide),Bd.lit,λlo z1 z2=>?_⟩
 have b3:Bd 2 lo:=wg (f:=3) Bd.lit z1 z2
 have blo:Bd 102 (lo * u):=b3.mul bu
 refine ⟨_,rfl,_,_,rfl,rfl,⟨b3.mono,bu.mono⟩,?_⟩
 show u_6 _ [some (.ref a),some (.int (n:Int)),some (.ref pa),some (.ref ma),some (.int u),some (.ref xa),some (.ref ra),some (.ref na),some (.ref sa),some (.ref qa),some (.ref aa),some (.int dv),some (.ref st),some (.int (lo * u)),none] _
 rw [E_6]
 try dsimp only [zP,Cx.nox,Cx.wish]
 refine ⟨_,rfl,xa,_,_,_,rfl,rfl,zJ.of ex,x8 (xs:=xs) (k:=5) (by omega) (by omega),Z5,λl3 hl3=>?_⟩
 obtain ⟨G6,hhG6,yG6,el3⟩:=zw (HO.lst [V.int 4,V.int 2,V.int 1]) hl3
 rw [hhG6]
 have SG6:=SG5.trans yG6
 replace est:=(yG6 _ _ est)
 replace ex:=(yG6 _ _ ex)
 replace SV:=(uj.same yG6 SV)
 obtain ⟨kk,ekk,kk0,kk7⟩:=zOe n1 n3
 refine ⟨_,rfl,_,_,rfl,rfl,l3,_,_,_,rfl,rfl,zJ.of el3,ekk,_,_,rfl,rfl,(show kk≠0 by omega),_,_,rfl,rfl,?_⟩
 have q0:=Int.fmod_nonneg_of_pos (xs.getD 5 0) kk0
 have q1:=Int.fmod_lt_of_pos (xs.getD 5 0) kk0
 obtain ⟨kt,hkt⟩:∃ kt:Nat,1 + (xs.getD 5 0).fmod kk=(kt:Int):=⟨(1 + (xs.getD 5 0).fmod kk).toNat,by omega⟩
 show u_7 _ [some (.ref a),some (.int (n:Int)),some (.ref pa),some (.ref ma),some (.int u),some (.ref xa),some (.ref ra),some (.ref na),some (.ref sa),some (.ref qa),some (.ref aa),some (.int dv),some (.ref st),some (.int (lo * u)),some (.int (1 + (xs.getD 5 0).fmod kk))] _
 rw [E_7]
 try dsimp only [zP,Cx.nox,Cx.wish]
 refine ⟨_,rfl,_,rfl,_,rfl,a,ns,6,rfl,(SG6.seq hS),(by decide),st,_,_,_,u,n,rfl,est,n1,n3,u0,bu,λsl rv rows B1 z1' esl hrv WBr l8=>?_⟩
 have SG7:=SG6.trans z1'
 replace ex:=(z1' _ _ ex)
 replace SV:=(uj.same z1' SV)
 refine ⟨_,rfl,_,rfl,_,rfl,xa,_,_,_,rfl,rfl,zJ.of ex,x8 (xs:=xs) (k:=4) (by omega) (by omega),_,_,rfl,rfl,(show (4:Int)≠0 by decide),_,rfl,_,_,rfl,rfl,⟨(ux (a:=(xs.getD (4) 0)) (Bd.lit (i:=4) (n:=3)) (show (0:Int) < (4:Int) by decide)).mono,bu.mono⟩,_,_,rfl,rfl,_,rfl,sz5,λgt hgt=>?_⟩
 have bhi:=((blo.mono (m:=103) (by decide)).add ((ux (a:=(xs.getD (4) 0)) (Bd.lit (i:=4) (n:=3)) (show (0:Int) < (4:Int) by decide)).mul bu))
 have lohi:lo * u<=((lo * u) + (((xs.getD (4) 0).fmod (4:Int)) * u)):=by
  have h:=Int.mul_nonneg (Int.fmod_nonneg_of_pos (xs.getD 4 0) (show (0:Int) < 4 by decide)) (Int.le_of_lt u0)
  omega
 generalize ((lo * u) + (((xs.getD (4) 0).fmod (4:Int)) * u))=hi at bhi lohi hgt |-
 obtain ⟨G8,hhG8,yG8,egt⟩:=zw (HO.tup [V.ref st,V.ref sl,V.int (lo * u),V.int hi,V.int (1 + (xs.getD 5 0).fmod kk)]) hgt
 rw [hhG8]
 have SG8:=SG7.trans yG8
 replace SV:=(uj.same yG8 SV)
 replace esl:=(yG8 _ _ esl)
 replace hrv:=(yI.same yG8 hrv)
 rw [hkt] at egt
 have MO:wO ⟨[],nx,ws,pu,ad,dv⟩ n bs.length:=⟨(λr hr=>by cases hr),Nat.zero_le _,⟨MP.nl,λr hr=>(MP.nr r hr).1⟩,lwn,⟨MP.pl,λr hr=>(MP.pr r hr).1.trans lpv⟩,MP.al,MP.d1,n3,by omega⟩
 exact q (.ref gt) _ SG8 ⟨gt,st,sl,n,kt,bs,⟨[],nx,ws,pu,ad,dv⟩,u,lo * u,hi,rv,rows,rfl,egt,SV,esl,hrv,⟨n1,n3,b2,λb hb=>(ob b hb).2,λr hr=>(MP.nr r hr).2,bw,λr hr=>(MP.pr r hr).2,MP.ab,MP.d3,WBr,l8,blo.mono,bhi.mono⟩,⟨n1,n3,λb hb=>(ob b hb).1,by omega,Nat.le_refl 1,(show 1<=40 by decide),λm hm=>by rw [List.mem_singleton.mp hm]; exact MO⟩,rfl,by omega,by omega,u0,bu,lohi⟩
end
def zi:Nat->(Nat->Rat)->Rat
 | 0,_=>0
 | n + 1,f=>zi n f + f n
theorem uC {f g:Nat->Rat}:∀ {n:Nat},(∀ j,j < n->f j=g j)->zi n f=zi n g
 | 0,_=>rfl
 | n + 1,h=>by
  show zi n f + f n=zi n g + g n
  rw [uC λj hj=>h j (Nat.lt_succ_of_lt hj),h n (Nat.lt_succ_self n)]
theorem gL (f g:Nat->Rat):∀ n:Nat,zi n (λj=>f j + g j)=zi n f + zi n g
 | 0=>by show (0:Rat)=0 + 0; grind
 | n + 1=>by
  show zi n (λj=>f j + g j) + (f n + g n)=(zi n f + f n) + (zi n g + g n)
  rw [gL f g n]
  grind
theorem qi (c:Rat) (f:Nat->Rat):∀ n:Nat,zi n (λj=>c * f j)=c * zi n f
 | 0=>by show (0:Rat)=c * 0; grind
 | n + 1=>by
  show zi n (λj=>c * f j) + c * f n=c * (zi n f + f n)
  rw [qi c f n]
  grind
theorem UL:∀ n:Nat,zi n (λ_=>0)=0
 | 0=>rfl
 | n + 1=>by
  show zi n (λ_=>0) + 0=0
  rw [UL n]
  grind
theorem KI (f:Nat->Nat->Rat) (m:Nat):∀ n:Nat,zi n (λj=>zi m (λi=>f i j))=zi m (λi=>zi n (λj=>f i j))
 | 0=>by
  show (0:Rat)=zi m (λi=>0)
  rw [UL]
 | n + 1=>by
  show zi n (λj=>zi m (λi=>f i j)) + zi m (λi=>f i n)=zi m (λi=>zi n (λj=>f i j) + f i n)
  rw [KI f m n,gL]
theorem KJ {f g:Nat->Rat}:∀ {n:Nat},(∀ j,j < n->f j<=g j)->zi n f<=zi n g
 | 0,_=>Rat.le_refl
 | n + 1,h=>by
  have h1:=KJ λj hj=>h j (Nat.lt_succ_of_lt hj)
  have h2:=h n (Nat.lt_succ_self n)
  show zi n f + f n<=zi n g + g n
  grind
theorem kx (f:Nat->Rat):∀ n:Nat,zi (n + 1) f=f 0 + zi n (λj=>f (j + 1))
 | 0=>by show (0:Rat) + f 0=f 0 + 0; grind
 | n + 1=>by
  show zi (n + 1) f + f (n + 1)=f 0 + (zi n (λj=>f (j + 1)) + f (n + 1))
  rw [kx f n]
  grind
def yO (ws:List Int) (q:Nat->Rat):Rat:=zi ws.length λj=>(ws.getD j 0:Rat) * q j
def xM (r:List Int × Int) (q:Nat->Rat):Prop:=yO r.1 q<=(r.2:Rat)
theorem ky:∀ {xs ys:List Int},xs.length=ys.length->((yj xs ys:Int):Rat)=zi xs.length λi=>(xs.getD i 0:Rat) * (ys.getD i 0:Rat)
 | [],[],_=>by show ((0:Int):Rat)=0; rfl
 | [],_ :: _,h=>nomatch h
 | _ :: _,[],h=>nomatch h
 | x :: xs,y :: ys,h=>by
  show ((x * y + yj xs ys:Int):Rat)=zi (xs.length + 1) λi=>((x :: xs).getD i 0:Rat) * ((y :: ys).getD i 0:Rat)
  rw [kx,Rat.intCast_add,Rat.intCast_mul,ky (Nat.succ.inj h)]
  rfl
theorem KL (j:Nat):∀ {r:List Int} {ls:List (List Int)},r.length=ls.length->((zu r ls j:Int):Rat)=zi r.length λi=>(r.getD i 0:Rat) * ((ls.getD i []).getD j 0:Rat)
 | [],[],_=>by show ((0:Int):Rat)=0; rfl
 | [],_ :: _,h=>nomatch h
 | _ :: _,[],h=>nomatch h
 | x :: xs,y :: ys,h=>by
  show ((x * y.getD j 0 + zu xs ys j:Int):Rat)=zi (xs.length + 1) λi=>((x :: xs).getD i 0:Rat) * (((y :: ys).getD i []).getD j 0:Rat)
  rw [kx,Rat.intCast_add,Rat.intCast_mul,KL j (Nat.succ.inj h)]
  rfl
theorem zGP {n j:Nat} (f:Nat->Int) (h:j < n):((List.range n).map f).getD j 0=f j:=by
 rw [List.getD_eq_getElem?_getD,List.getElem?_map,List.getElem?_range h]
 rfl
theorem KN {r:List Int} {ls:List (List Int)} {n:Nat} (hl:r.length=ls.length) (q:Nat->Rat):yO ((List.range n).map (zu r ls)) q=zi r.length λi=>(r.getD i 0:Rat) * zi n λj=>((ls.getD i []).getD j 0:Rat) * q j:=by
 unfold yO
 rw [List.length_map,List.length_range]
 rw [uC (g:=λj=>zi r.length λi=>(r.getD i 0:Rat) * (((ls.getD i []).getD j 0:Rat) * q j)) λj hj=>?_]
 ·rw [KI]
  exact uC λi hi=>qi _ _ _
 ·rw [zGP _ hj,KL j hl]
  rw [show zi r.length (λi=>(r.getD i 0:Rat) * (((ls.getD i []).getD j 0:Rat) * q j))=zi r.length (λi=>q j * ((r.getD i 0:Rat) * ((ls.getD i []).getD j 0:Rat))) from uC λi _=>by grind,qi]
  grind
theorem KO (q:Nat->Rat):∀ n:Nat,∃ (D:Int) (N:Nat->Int),0 < D/\∀ j,j < n->q j * (D:Rat)=(N j:Rat)
 | 0=>⟨1,λ_=>0,by decide,λj hj=>absurd hj (Nat.not_lt_zero j)⟩
 | n + 1=>by
  obtain ⟨D,N,D0,h⟩:=KO q n
  have d0:(0:Int) < ((q n).den:Int):=by
   have:=(q n).den_pos
   omega
  refine ⟨D * ((q n).den:Int),λj=>if j=n then (q n).num * D else N j * ((q n).den:Int),Int.mul_pos D0 d0,λj hj=>?_⟩
  have e0:((q n).num:Rat) / ((q n).den:Rat)=q n:=(Rat.mkRat_eq_div _ _).symm.trans (Rat.mkRat_self (q n))
  have dne:((q n).den:Rat)≠0:=by
   intro z
   have:((q n).den:Nat)=0:=by exact_mod_cast z
   omega
  have e:q n * ((q n).den:Rat)=((q n).num:Rat):=by
   conv=>lhs; lhs; rw [<- e0]
   grind
  have ec:(((q n).den:Int):Rat)=((q n).den:Rat):=rfl
  show q j * _=((if j=n then (q n).num * D else N j * ((q n).den:Int):Int):Rat)
  by_cases c:j=n
  ·rw [if_pos c,c,Rat.intCast_mul,Rat.intCast_mul,ec]
   grind
  ·rw [if_neg c,Rat.intCast_mul,Rat.intCast_mul,<- h j (by omega)]
   grind
def wR (N:Nat->Int):List Int->Nat->Int
 | [],_=>0
 | w :: ws,k=>w * N k + wR N ws (k + 1)
theorem KP (N:Nat->Int) (c:Int):∀ (ws:List Int) (k:Nat),wR N (ws.map (· * c)) k=wR N ws k * c
 | [],_=>(Int.zero_mul c).symm
 | w :: ws,k=>by
  show w * c * N k + wR N (ws.map (· * c)) (k + 1)=(w * N k + wR N ws (k + 1)) * c
  rw [KP N c ws (k + 1)]
  grind
theorem KQ {q:Nat->Rat} {D:Int} {N:Nat->Int} {n:Nat} (h:∀ j,j < n->q j * (D:Rat)=(N j:Rat)):∀ (ws:List Int) (k:Nat),k + ws.length<=n->((wR N ws k:Int):Rat)=(zi ws.length λj=>(ws.getD j 0:Rat) * q (k + j)) * (D:Rat)
 | [],_,_=>by
  show ((0:Int):Rat)=0 * (D:Rat)
  rw [Rat.zero_mul]
  rfl
 | w :: ws,k,hk=>by
  show ((w * N k + wR N ws (k + 1):Int):Rat)=(zi (ws.length + 1) λj=>((w :: ws).getD j 0:Rat) * q (k + j)) * (D:Rat)
  have hk':k + (ws.length + 1)<=n:=hk
  rw [kx,Rat.intCast_add,Rat.intCast_mul,KQ h ws (k + 1) (by omega),<- h k (by omega)]
  have e:(zi ws.length λj=>(ws.getD j 0:Rat) * q (k + 1 + j))=zi ws.length λj=>((w :: ws).getD (j + 1) 0:Rat) * q (k + (j + 1)):=uC λj _=>by
   rw [show k + 1 + j=k + (j + 1) by omega]
   rfl
  rw [e]
  show (w:Rat) * (q k * (D:Rat)) + _=((w:Rat) * q (k + 0) + _) * (D:Rat)
  rw [Nat.add_zero]
  grind
theorem vG {D:Int} (h:0 < D):(0:Rat) < (D:Rat):=by exact_mod_cast h
theorem UM {rows:List (List Int × Int)} {n w b:Nat} (W:WB rows n w b) (b1:1<=b) (q:Nat->Rat):(∀ r∈wL rows,xM r q) ↔ ∀ r∈rows,xM r q:=by
 obtain ⟨D,N,D0,h⟩:=KO q n
 have DQ:=vG D0
 have one:∀ r:List Int × Int,r.1.length=n->(hl (λws=>wR N ws 0) D r=true ↔ xM r q):=λr hr=>by
  unfold hl xM
  rw [decide_eq_true_iff]
  have e:=KQ h r.1 0 (by omega)
  have e2:(zi r.1.length λj=>(r.1.getD j 0:Rat) * q (0 + j))=yO r.1 q:=uC λj _=>by rw [Nat.zero_add]
  rw [e2] at e
  constructor
  ·intro z
   have z':((wR N r.1 0:Int):Rat)<=((r.2 * D:Int):Rat):=by exact_mod_cast z
   rw [e,Rat.intCast_mul] at z'
   exact Rat.le_of_mul_le_mul_right z' DQ
  ·intro z
   have z':=Rat.mul_le_mul_of_nonneg_right z (Rat.le_of_lt DQ)
   rw [<- e,<- Rat.intCast_mul] at z'
   exact_mod_cast z'
 have sp:=zIJ (λws=>wR N ws 0) D D0 (λws c=>KP N c ws 0) rows
 have WT:=W.tid b1
 have k:(∀ r∈wL rows,hl (λws=>wR N ws 0) D r=true) ↔ ∀ r∈rows,hl (λws=>wR N ws 0) D r=true:=by
  rw [<- List.all_eq_true,<- List.all_eq_true,sp]
 constructor
 ·intro z r hr
  exact (one r (W r hr).1).mp (k.mp (λr' hr'=>(one r' (WT r' hr').1).mpr (z r' hr')) r hr)
 ·intro z r hr
  exact (one r (WT r hr).1).mp (k.mpr (λr' hr'=>(one r' (W r' hr').1).mpr (z r' hr')) r hr)
def uI (r:yL) (q:Nat->Rat) (x:Rat):Prop:=yO r.1 q + (r.2.1:Rat) * x<=(r.2.2:Rat)
theorem KR (f g:Int) (q:Nat->Rat) {us ls:List Int} (h:us.length=ls.length):yO (xQ f us g ls) q=(f:Rat) * yO us q + (g:Rat) * yO ls q:=by
 unfold yO
 rw [<- h,<- qi,<- qi,<- gL]
 have l:(xQ f us g ls).length=us.length:=by unfold xQ; rw [List.length_map,List.length_zip,<- h,Nat.min_self]
 rw [l]
 refine uC λj hj=>?_
 have e:(xQ f us g ls).getD j 0=f * us.getD j 0 + g * ls.getD j 0:=by
  unfold xQ
  have hz:(us.zip ls)[j]? = some (us[j],ls[j]'(by omega)):=by
   rw [List.getElem?_zip_eq_some]
   exact ⟨List.getElem?_eq_getElem hj,List.getElem?_eq_getElem _⟩
  rw [List.getD_eq_getElem?_getD,List.getElem?_map,hz,List.getD_eq_getElem?_getD,List.getElem?_eq_getElem hj,List.getD_eq_getElem?_getD,List.getElem?_eq_getElem (show j < ls.length by omega)]
  rfl
 rw [e,Rat.intCast_add,Rat.intCast_mul,Rat.intCast_mul]
 grind
theorem YS {z:Int} (h:z < 0):(0:Rat) < -(z:Rat):=by
 have:=vG (show 0 < -z by omega)
 rw [Rat.intCast_neg] at this
 exact this
theorem fm {rows:List yL} {n:Nat} {q:Nat->Rat} {x:Rat} (len:∀ r∈rows,r.1.length=n) (h:∀ r∈xK rows,xM r q) (h1:∀ l∈rows,l.2.1 < 0->yO l.1 q - (l.2.2:Rat)<=-(l.2.1:Rat) * x) (h2:∃ l∈rows,l.2.1 < 0/\yO l.1 q - (l.2.2:Rat) = -(l.2.1:Rat) * x):∀ r∈rows,uI r q x:=λr hr=>by
 unfold uI
 rcases Int.lt_trichotomy r.2.1 0 with c | c | c
 ·have:=h1 r hr c
  grind
 ·have m:(r.1,r.2.2)∈xK rows:=by
   unfold xK jJ
   exact List.mem_append_left _ (List.mem_map.mpr ⟨r,List.mem_filter.mpr ⟨hr,decide_eq_true c⟩,rfl⟩)
  have z:=h _ m
  unfold xM at z
  rw [c]
  have e:((0:Int):Rat)=0:=rfl
  rw [e]
  grind
 ·obtain ⟨l,hl,lc,le⟩:=h2
  have m:jK r l∈xK rows:=by
   unfold xK vW xp
   exact List.mem_append_right _ (List.mem_flatMap.mpr ⟨r,List.mem_filter.mpr ⟨hr,decide_eq_true c⟩,List.mem_map.mpr ⟨l,List.mem_filter.mpr ⟨hl,decide_eq_true lc⟩,rfl⟩⟩)
  have z:=h _ m
  unfold xM jK at z
  dsimp only at z
  rw [KR _ _ _ ((len r hr).trans (len l hl).symm),Rat.intCast_add,Rat.intCast_mul,Rat.intCast_mul,Rat.intCast_neg] at z
  have ln:=YS lc
  refine Rat.le_of_mul_le_mul_left (c:=-(l.2.1:Rat)) ?_ ln
  have e:(r.2.1:Rat) * (yO l.1 q - (l.2.2:Rat))=(r.2.1:Rat) * (-(l.2.1:Rat) * x):=by rw [le]
  grind
def vv (n w:Nat) (m:MD) (q:Nat->Rat) (v:Nat->Rat) (x:Rat) (i:Nat):Rat:=
 (zi n (λj=>((m.nexts.getD i []).getD j 0:Rat) * q j) + zi w (λj=>((m.push.getD i []).getD j 0:Rat) * v j) + ((m.steer.getD i 0:Rat) * x + (m.add.getD i 0:Rat))) / (m.div:Rat)
theorem kz {α:Type} {l:List α} {d:α} {j:Nat} {x:α} (h:l[j]? = some x):l.getD j d=x:=by
 rw [List.getD_eq_getElem?_getD,h]
 rfl
theorem zJ3 {us:List Int} {bs:List (Int × Int)} (l:us.length=bs.length) {v:Nat->Rat} (hv:∀ j b,bs[j]? = some b->(b.1:Rat)<=v j/\v j<=(b.2:Rat)):yO us v<=((yj us (vF us bs):Int):Rat):=by
 rw [ky (YH l).symm]
 unfold yO
 refine KJ λj hj=>?_
 have hb:bs[j]? = some (bs[j]'(by omega)):=List.getElem?_eq_getElem _
 have hu:us[j]? = some us[j]:=List.getElem?_eq_getElem hj
 obtain ⟨v1,v2⟩:=hv j _ hb
 have hz:(vF us bs)[j]? = some (if us[j] > 0 then (bs[j]'(by omega)).2 else (bs[j]'(by omega)).1):=by
  unfold vF
  have hzp:(us.zip bs)[j]? = some (us[j],bs[j]'(by omega)):=by rw [List.getElem?_zip_eq_some]; exact ⟨hu,hb⟩
  rw [List.getElem?_map,hzp]
  rfl
 rw [kz hu,kz hz]
 by_cases c:us[j] > 0
 ·rw [if_pos c]
  exact Rat.mul_le_mul_of_nonneg_left v2 (Rat.le_of_lt (vG c))
 ·rw [if_neg c]
  have c':(0:Rat)<=-((us[j]:Int):Rat):=by
   have:(0:Int)<=-us[j]:=by omega
   have:(0:Rat)<=((-us[j]:Int):Rat):=by exact_mod_cast this
   rwa [Rat.intCast_neg] at this
  have:=Rat.mul_le_mul_of_nonneg_left v1 c'
  grind
theorem KS {n w:Nat} {m:MD} {r:List Int × Int} (MO:wO m n w) (lr:r.1.length=n) (q v:Nat->Rat) (x:Rat):(m.div:Rat) * yO r.1 (vv n w m q v x)=yO ((List.range n).map (zu r.1 m.nexts)) q + yO ((List.range w).map (zu r.1 m.push)) v + (((yj r.1 m.steer:Int):Rat) * x + ((yj r.1 m.add:Int):Rat)):=by
 have dv:(0:Rat) < (m.div:Rat):=vG (by have:=MO.div; omega)
 rw [KN (lr.trans MO.nexts.1.symm),KN (lr.trans MO.push.1.symm),ky (lr.trans MO.steer.symm),ky (lr.trans MO.add.symm),Rat.mul_comm _ x,<- qi,<- gL,<- gL,<- gL]
 unfold yO
 rw [<- qi]
 refine uC λi _=>?_
 unfold vv
 have dne:(m.div:Rat)≠0:=λz=>by rw [z] at dv; exact absurd dv (Rat.lt_irrefl)
 generalize zi n (λj=>((m.nexts.getD i []).getD j 0:Rat) * q j)=a
 generalize zi w (λj=>((m.push.getD i []).getD j 0:Rat) * v j)=b
 generalize (m.steer.getD i 0:Rat)=c
 generalize (m.add.getD i 0:Rat)=d
 generalize (r.1.getD i 0:Rat)=w
 generalize (m.div:Rat)=dd at dne dv |-
 have e:dd * ((a + b + (c * x + d)) / dd)=a + b + (c * x + d):=by
  rw [Rat.div_def,Rat.mul_comm _ dd⁻¹,<- Rat.mul_assoc,Rat.mul_inv_cancel _ dne,Rat.one_mul]
 have e2:dd * (w * ((a + b + (c * x + d)) / dd))=w * (dd * ((a + b + (c * x + d)) / dd)):=by
  rw [<- Rat.mul_assoc,Rat.mul_comm dd w,Rat.mul_assoc]
 rw [e2,e]
 grind
theorem KU {n:Nat} {bs:List (Int × Int)} {m:MD} {r:List Int × Int} (MO:wO m n bs.length) (lr:r.1.length=n) {q v:Nat->Rat} {x:Rat} (hv:∀ j b,bs[j]? = some b->(b.1:Rat)<=v j/\v j<=(b.2:Rat)) (h:uI (jd n bs m r) q x):xM r (vv n bs.length m q v x):=by
 have dv:(0:Rat) < (m.div:Rat):=vG (by have:=MO.div; omega)
 unfold uI jd at h
 dsimp only at h
 have pw:=zJ3 (us:=(List.range bs.length).map (zu r.1 m.push)) (bs:=bs) (by rw [List.length_map,List.length_range]) hv
 rw [Rat.intCast_sub,Rat.intCast_sub,Rat.intCast_mul] at h
 unfold xM
 refine Rat.le_of_mul_le_mul_left (c:=(m.div:Rat)) ?_ dv
 rw [KS MO lr]
 grind
def jg (bs:List (Int × Int)) (m:MD) (r:List Int × Int):List Int:=vF ((List.range bs.length).map (zu r.1 m.push)) bs
theorem KW (bs:List (Int × Int)) (m:MD) (r:List Int × Int):(jg bs m r).length=bs.length:=by
 unfold jg
 rw [YH (by rw [List.length_map,List.length_range]),List.length_map,List.length_range]
theorem zJp {n:Nat} {bs:List (Int × Int)} {m:MD} {r:List Int × Int} (MO:wO m n bs.length) (lr:r.1.length=n) {q v:Nat->Rat} {x:Rat} (hv:∀ j,j < bs.length->v j=((jg bs m r).getD j 0:Rat)) (h:xM r (vv n bs.length m q v x)):uI (jd n bs m r) q x:=by
 have dv:(0:Rat) < (m.div:Rat):=vG (by have:=MO.div; omega)
 unfold xM at h
 have h':=Rat.mul_le_mul_of_nonneg_left h (Rat.le_of_lt dv)
 rw [KS MO lr] at h'
 have lu:((List.range bs.length).map (zu r.1 m.push)).length=bs.length:=by rw [List.length_map,List.length_range]
 have pw:yO ((List.range bs.length).map (zu r.1 m.push)) v=((yj ((List.range bs.length).map (zu r.1 m.push)) (jg bs m r):Int):Rat):=by
  rw [ky (lu.trans (KW bs m r).symm)]
  exact uC λj hj=>by rw [hv j (by omega)]
 rw [pw] at h'
 unfold uI jd
 dsimp only
 rw [Rat.intCast_sub,Rat.intCast_sub,Rat.intCast_mul]
 unfold jg at h'
 grind
theorem fm2 {rows:List yL} {n:Nat} {q:Nat->Rat} {x:Rat} (len:∀ r∈rows,r.1.length=n) (h:∀ r∈rows,uI r q x):∀ r∈xK rows,xM r q:=λr hr=>by
 unfold xK at hr
 rcases List.mem_append.mp hr with hr | hr
 ·obtain ⟨u,hu,rfl⟩:=List.mem_map.mp hr
  obtain ⟨hu,uc⟩:=List.mem_filter.mp hu
  have z:=h u hu
  unfold uI at z
  rw [of_decide_eq_true uc] at z
  have e:((0:Int):Rat)=0:=rfl
  rw [e] at z
  unfold xM
  dsimp only
  grind
 ·obtain ⟨u,hu,hr⟩:=List.mem_flatMap.mp hr
  obtain ⟨l,hl,rfl⟩:=List.mem_map.mp hr
  obtain ⟨hu,uc⟩:=List.mem_filter.mp hu
  obtain ⟨hl,lc⟩:=List.mem_filter.mp hl
  have up:=vG (of_decide_eq_true uc)
  have ln:=YS (of_decide_eq_true lc)
  have z1:=Rat.mul_le_mul_of_nonneg_left (h u hu) (Rat.le_of_lt ln)
  have z2:=Rat.mul_le_mul_of_nonneg_left (h l hl) (Rat.le_of_lt up)
  unfold xM jK
  dsimp only
  rw [KR _ _ _ ((len u hu).trans (len l hl).symm),Rat.intCast_add,Rat.intCast_mul,Rat.intCast_mul,Rat.intCast_neg]
  grind
theorem KY (n:Nat) (q:Nat->Rat):yO (List.replicate n 0) q=0:=by
 unfold yO
 rw [uC (g:=λ_=>0) λj hj=>?_,UL]
 rw [List.length_replicate] at hj
 rw [List.getD_eq_getElem?_getD,List.getElem?_replicate_of_lt hj]
 show ((0:Int):Rat) * q j=0
 have:((0:Int):Rat)=0:=rfl
 rw [this,Rat.zero_mul]
theorem YT {n:Nat} (lo hi:Int) {q:Nat->Rat} {x:Rat}:(uI (List.replicate n 0,1,hi) q x ↔ x<=(hi:Rat))/\(uI (List.replicate n 0,-1,-lo) q x ↔ (lo:Rat)<=x):=by
 unfold uI
 dsimp only
 rw [KY,Rat.intCast_neg,Rat.intCast_neg]
 have e:((1:Int):Rat)=1:=rfl
 rw [e]
 constructor
 ·constructor
  ·intro h
   grind
  ·intro h
   grind
 ·constructor
  ·intro h
   grind
  ·intro h
   grind
theorem zLm {n:Nat} {bs:List (Int × Int)} {m:MD} {lo hi:Int} {zH:List (List Int × Int)} (G:wu n bs m lo hi zH) (MO:wO m n bs.length) {q v:Nat->Rat} {x:Rat} {k:Nat} (h:∀ r∈xi n bs m lo hi zH (k + 1),xM r q) (hv:∀ j b,bs[j]? = some b->(b.1:Rat)<=v j/\v j<=(b.2:Rat))
  (h1:∀ l∈uB n bs m lo hi (xi n bs m lo hi zH k),l.2.1 < 0->yO l.1 q - (l.2.2:Rat)<=-(l.2.1:Rat) * x) (h2:∃ l∈uB n bs m lo hi (xi n bs m lo hi zH k),l.2.1 < 0/\yO l.1 q - (l.2.2:Rat) = -(l.2.1:Rat) * x):(∀ r∈xi n bs m lo hi zH k,xM r (vv n bs.length m q v x))/\(lo:Rat)<=x/\x<=(hi:Rat):=by
 have hall:=(UM (G.aft (G.held k)) (by have:=je (k + 1); omega) q).mp h
 have wb:=je k
 have W3:=G.three (G.held k) wb.1 wb.2
 have F:=fm (λr hr=>(W3 r hr).1) (λr hr=>hall r (List.mem_append_right _ hr)) h1 h2
 exact ⟨λr hr=>KU MO ((G.held k) r hr).1 hv (F _ (List.mem_append_left _ (List.mem_map.mpr ⟨r,hr,rfl⟩))),(YT lo hi).2.mp (F _ (List.mem_append_right _ (List.mem_cons_of_mem _ List.mem_cons_self))),(YT lo hi).1.mp (F _ (List.mem_append_right _ List.mem_cons_self))⟩
theorem zNv {n:Nat} {bs:List (Int × Int)} {m:MD} {lo hi:Int} {zH:List (List Int × Int)} (G:wu n bs m lo hi zH) {q:Nat->Rat} {x:Rat} {k:Nat} (hs:∀ r∈zH,xM r q) (h:∀ r∈xi n bs m lo hi zH k,uI (jd n bs m r) q x) (h1:(lo:Rat)<=x) (h2:x<=(hi:Rat)):∀ r∈xi n bs m lo hi zH (k + 1),xM r q:=by
 have wb:=je k
 have W3:=G.three (G.held k) wb.1 wb.2
 refine (UM (G.aft (G.held k)) (by have:=je (k + 1); omega) q).mpr λr hr=>?_
 rcases List.mem_append.mp hr with hr | hr
 ·exact hs r hr
 refine fm2 (λr hr=>(W3 r hr).1) (x:=x) (λr hr=>?_) r hr
 rcases List.mem_append.mp hr with hr | hr
 ·obtain ⟨r',hr',rfl⟩:=List.mem_map.mp hr
  exact h r' hr'
 rcases List.mem_cons.mp hr with rfl | hr
 ·exact (YT lo hi).1.mpr h2
 ·rw [List.mem_singleton.mp hr]
  exact (YT lo hi).2.mpr h1
def zZ (p:Int × Int):Rat:=(p.1:Rat) / (p.2:Rat)
def yZ (pts:List (Int × Int)) (j:Nat):Rat:=zZ (pts.getD j (0,1))
theorem uk {p:Int × Int} (h:0 < p.2):zZ p * (p.2:Rat)=(p.1:Rat):=by
 unfold zZ
 have d:=vG h
 have ne:(p.2:Rat)≠0:=λz=>by rw [z] at d; exact absurd d Rat.lt_irrefl
 rw [Rat.div_def,Rat.mul_assoc,Rat.inv_mul_cancel _ ne,Rat.mul_one]
theorem jN {p:Int × Int} {x:Rat} (h:0 < p.2) (e:(p.1:Rat)=x * (p.2:Rat)):zZ p=x:=by
 have d:=vG h
 have ne:(p.2:Rat)≠0:=λz=>by rw [z] at d; exact absurd d Rat.lt_irrefl
 unfold zZ
 rw [e,Rat.div_def,Rat.mul_assoc,Rat.mul_inv_cancel _ ne,Rat.mul_one]
structure GQ (ws:List Int) (pts:List (Int × Int)) (w a e d:Nat):Prop where
 len:ws.length=pts.length
 n3:pts.length<=6
 bw:∀ x∈ws,Bd w x
 ok:∀ p∈pts,0 < p.2/\Bd a p.1/\Bd e p.2
 nd:e * pts.length<=d
 sz:w + a + d + 10<=7000
theorem UN {ws:List Int} {pts:List (Int × Int)} {w a e d:Nat} (G:GQ ws pts w a e d):∀ p∈ws.zip pts,0 < p.2.2/\Bd w p.1/\Bd a p.2.1/\Bd e p.2.2:=λp hp=>by
 obtain ⟨x,y⟩:=List.of_mem_zip hp
 obtain ⟨c1,c2,c3⟩:=G.ok _ y
 exact ⟨c1,G.bw _ x,c2,c3⟩
theorem UO {ws:List Int} {pts:List (Int × Int)} {w a e d:Nat} (G:GQ ws pts w a e d):(ws.zip pts).length=pts.length:=by
 rw [List.length_zip,G.len,Nat.min_self]
theorem UQ {w a e:Nat}:∀ (n:Nat) (l:List (Int × Int × Int)),l.length=n->(∀ p∈l,Bd w p.1/\Bd a p.2.1/\Bd e p.2.2)->Bd (w + a + e * n + n + 1) (l.foldl vg (0,1)).1/\Bd (e * n + 1) (l.foldl vg (0,1)).2
 | 0,l,h,_=>by
  have:l=[]:=List.length_eq_zero_iff.mp h
  subst this
  exact ⟨j0 _,Bd.mono (i:=1) (n:=1) Bd.lit (by omega)⟩
 | n + 1,l,h,k=>by
  rcases List.eq_nil_or_concat l with rfl | ⟨r,p,rfl⟩
  ·cases h
  rw [List.concat_eq_append] at *
  rw [List.length_append,List.length_singleton] at h
  obtain ⟨i1,i2⟩:=UQ n r (by omega) λq hq=>k q (List.mem_append_left _ hq)
  obtain ⟨h1,h2,h3⟩:=k p (List.mem_append_right _ (List.mem_singleton.mpr rfl))
  rw [List.foldl_append]
  generalize r.foldl vg (0,1)=st at i1 i2
  have en:e * (n + 1)=e * n + e:=Nat.mul_succ e n
  constructor
  ·show Bd (w + a + e * (n + 1) + (n + 1) + 1) (st.1 * p.2.2 + p.1 * p.2.1 * st.2)
   exact (((i1.mul h3).mono (m:=w + a + e * (n + 1) + n + 1) (by omega)).add (((h1.mul h2).mul i2).mono (by omega))).mono (by omega)
  ·show Bd (e * (n + 1) + 1) (st.2 * p.2.2)
   exact (i2.mul h3).mono (by omega)
theorem KZ (q:Nat->Rat):∀ (ws:List Int) (pts:List (Int × Int)) (st:Int × Int) (k:Nat),ws.length=pts.length->(∀ p∈pts,0 < p.2)->(∀ j,j < pts.length->q (k + j)=zZ (pts.getD j (0,1)))->0 < st.2->
  0 < ((ws.zip pts).foldl vg st).2/\((((ws.zip pts).foldl vg st).1:Int):Rat)=(zZ st + zi ws.length λj=>(ws.getD j 0:Rat) * q (k + j)) * ((((ws.zip pts).foldl vg st).2:Int):Rat)
 | [],[],st,k,_,_,_,s0=>⟨s0,by
  show (st.1:Rat)=(zZ st + 0) * (st.2:Rat)
  rw [Rat.add_zero,uk s0]⟩
 | [],_ :: _,_,_,h,_,_,_=>nomatch h
 | _ :: _,[],_,_,h,_,_,_=>nomatch h
 | x :: ws,p :: pts,st,k,h,hp,hq,s0=>by
  have p0:=hp p List.mem_cons_self
  have s1:0 < (vg st (x,p)).2:=Int.mul_pos s0 p0
  obtain ⟨z1,z2⟩:=KZ q ws pts (vg st (x,p)) (k + 1) (Nat.succ.inj h) (λr hr=>hp r (List.mem_cons_of_mem _ hr)) (λj hj=>by
   have:=hq (j + 1) (Nat.succ_lt_succ hj)
   rw [show k + 1 + j=k + (j + 1) by omega,this]
   rfl) s1
  refine ⟨z1,z2.trans ?_⟩
  show _=(zZ st + zi (ws.length + 1) λj=>((x :: ws).getD j 0:Rat) * q (k + j)) * _
  rw [kx]
  congr 1
  have e1:zZ (vg st (x,p))=zZ st + (x:Rat) * zZ p:=jN s1 (by
   show ((st.1 * p.2 + x * p.1 * st.2:Int):Rat)=_ * ((st.2 * p.2:Int):Rat)
   rw [Rat.intCast_add,Rat.intCast_mul,Rat.intCast_mul,Rat.intCast_mul,Rat.intCast_mul,<- uk s0,<- uk p0]
   grind)
  have e2:q (k + 0)=zZ p:=hq 0 (Nat.succ_pos _)
  have e3:(zi ws.length λj=>(ws.getD j 0:Rat) * q (k + 1 + j))=zi ws.length λj=>((x :: ws).getD (j + 1) 0:Rat) * q (k + (j + 1)):=uC λj _=>by
   rw [show k + 1 + j=k + (j + 1) by omega]
   rfl
  rw [e1,e3,e2,Rat.add_assoc]
  rfl
theorem UR {ws:List Int} {pts:List (Int × Int)} {w a e d:Nat} (G:GQ ws pts w a e d):0 < (uQ ws pts).2/\(((uQ ws pts).1:Int):Rat)=yO ws (yZ pts) * (((uQ ws pts).2:Int):Rat)/\Bd (w + a + d + 7) (uQ ws pts).1/\Bd (d + 1) (uQ ws pts).2:=by
 obtain ⟨h1,h2⟩:=KZ (yZ pts) ws pts (0,1) 0 G.len (λp hp=>(G.ok p hp).1) (λj _=>by rw [Nat.zero_add]; rfl) (by decide)
 have n3:=G.n3
 obtain ⟨b1,b2⟩:=UQ (w:=w) (a:=a) (e:=e) pts.length (ws.zip pts) (UO G) λp hp=>(UN G p hp).2
 have en:=G.nd
 refine ⟨h1,h2.trans ?_,b1.mono (by omega),b2.mono (by omega)⟩
 show _=yO ws (yZ pts) * ((((ws.zip pts).foldl vg (0,1)).2:Int):Rat)
 congr 1
 have z:zZ (0,1)=0:=by
  refine jN (by decide) ?_
  show ((0:Int):Rat)=0 * ((1:Int):Rat)
  rw [Rat.zero_mul]
  rfl
 rw [z,Rat.zero_add]
 exact uC λj _=>by rw [Nat.zero_add]
theorem Ka {t b:Int} (h:b≠0):0 < yK t b/\zZ (yg t b,yK t b)=(t:Rat) / (b:Rat):=by
 have p:=gu (t:=t) h
 refine ⟨p,jN p ?_⟩
 have c:=XS (t:=t) h
 have ne:(b:Rat)≠0:=λz=>h (by exact_mod_cast z)
 have c':((yg t b * b:Int):Rat)=((t * yK t b:Int):Rat):=by rw [c]
 rw [Rat.intCast_mul,Rat.intCast_mul] at c'
 show ((yg t b:Int):Rat)=(t:Rat) / (b:Rat) * ((yK t b:Int):Rat)
 rw [Rat.div_def]
 have e:(yg t b:Rat)=(yg t b:Rat) * (b:Rat) * (b:Rat)⁻¹:=by rw [Rat.mul_assoc,Rat.mul_inv_cancel _ ne,Rat.mul_one]
 rw [e,c']
 grind
inductive YU (K:PySem.W.Frag) (vs:List V) (H:Hp) (Q:VK) (E:XK):Prop
 | mk (na pa:Addr) (ws:List Int) (pv:List V) (pts:List (Int × Int)) (w a e d:Nat) (_:vs=[.ref na,.ref pa]) (_:vq K H na (ws.map V.int)) (_:zJ K H pa pv) (_:yX H pv pts) (_:GQ ws pts w a e d) (_:∀ r H',zG H H'->H' r=some (.tup [.int (uQ ws pts).1,.int (uQ ws pts).2])->Q (.ref r) H'):YU K vs H Q E
inductive YV (K:PySem.W.Frag) (vs:List V) (H:Hp) (Q:VK) (E:XK):Prop
 | mk (na pa:Addr) (ws:List Int) (pv:List V) (pts:List (Int × Int)) (w a e d:Nat) (x z:Int) (_:vs=[.ref na,.ref pa,.int x,.int z]) (_:vq K H na (ws.map V.int)) (_:zJ K H pa pv) (_:yX H pv pts) (_:GQ ws pts w a e d) (_:Bd (w + a) x) (_:0 < z) (_:Bd w z) (_:∀ r (t b:Int) H',zG H H'->H' r=some (.tup [.int t,.int b])->0 < b->zZ (t,b) * (z:Rat)=yO ws (yZ pts) + (x:Rat)->Bd (w + a + d + 8) t->Bd (w + d + 1) b->Q (.ref r) H'):YV K vs H Q E
inductive gM (K:PySem.W.Frag) (vs:List V) (H:Hp) (Q:VK) (E:XK):Prop
 | mk (ra pa:Addr) (ws:List Int) (b:Int) (pv:List V) (pts:List (Int × Int)) (w a e d:Nat) (_:vs=[.ref ra,.ref pa]) (_:H ra=some (.tup (zo ws b))) (_:zJ K H pa pv) (_:yX H pv pts) (_:GQ ws pts w a e d) (_:Bd 1000 b) (_:∀ (y:Bool) H',zG H H'->(y=true ↔ xM (ws,b) (yZ pts))->Q (.bl y) H'):gM K vs H Q E
inductive gN (K:PySem.W.Frag) (vs:List V) (H:Hp) (Q:VK) (E:XK):Prop
 | mk (rm pa:Addr) (rv pv:List V) (rows:List (List Int × Int)) (pts:List (Int × Int)) (n w a e d:Nat) (_:vs=[.ref rm,.ref pa]) (_:zJ K H rm rv) (_:yI H rv rows) (_:zJ K H pa pv) (_:yX H pv pts) (_:WB rows n w 1000) (_:rows.length<=900) (_:pts.length=n) (_:n<=3) (_:(∀ p∈pts,0 < p.2/\Bd a p.1/\Bd e p.2)) (_:e * pts.length<=d) (_:w + a + d + 10<=7000) (_:∀ (y:Bool) H',zG H H'->(y=true ↔ ∀ r∈rows,xM r (yZ pts))->Q (.bl y) H'):gN K vs H Q E
theorem zMl {ws:List Int} {pts:List (Int × Int)} {w a e d:Nat} (G:GQ ws pts w a e d) (b:Int):decide ((uQ ws pts).1<=b * (uQ ws pts).2)=true ↔ xM (ws,b) (yZ pts):=by
 obtain ⟨h1,h2,_,_⟩:=UR G
 have d:=vG h1
 rw [decide_eq_true_iff]
 unfold xM
 constructor
 ·intro z
  have z':(((uQ ws pts).1:Int):Rat)<=((b * (uQ ws pts).2:Int):Rat):=by exact_mod_cast z
  rw [h2,Rat.intCast_mul] at z'
  exact Rat.le_of_mul_le_mul_right z' d
 ·intro z
  have z':=Rat.mul_le_mul_of_nonneg_right z (Rat.le_of_lt d)
  rw [<- h2,<- Rat.intCast_mul] at z'
  exact_mod_cast z'
section
variable {P:Program} {w:World} {K:PySem.W.Frag} {mg:Str->Option Value} {base:Heap} {cM cP:Addr}
abbrev US:Stmt:=yh 24
theorem qj:ya ["numbers","point","top","bottom","number","part"] ["numbers","point"] (ze US):=.a
abbrev UT:Stmt:=yh 25
theorem Kb:ya ["numbers","point","add","divisor","total"] ["numbers","point","add","divisor"] (ze UT):=.a
abbrev UU:Stmt:=yh 26
theorem Kc:ya ["row","point","total"] ["row","point"] (ze UU):=.a
abbrev YW:Stmt:=yh 27
theorem zJw:ya ["room","point"] ["room","point"] (ze YW):=.a
variable {ac af:Addr} (ae:yJ K mg "Mode" ac) (ag:wr K ac) (ah:yJ K mg "Thing" af) (ai:wt K af)
include ae ag ah ai
theorem zJ5 {k:Nat} {f:Addr} {fd:FuncData} (F:yb K "raw_sum" "raw_sum" US f fd) (B:Bl mg):zU P w K mg base yG (k + 1) f fd ["numbers","point"] (YU K):=by
 refine F.ok qj ?_ ?_
 ·rintro vs H Q E ⟨na,pa,ws,pv,pts,w,a,e,d,rfl,_⟩
  rfl
 rintro cdv A outer s H vs Q E hr ⟨na,pa,ws,pv,pts,w,a,e,d,rfl,hna,hpa,hpt,GW,q⟩
 refine ⟨_,(zW (zy (i:=2) qj.nd rfl (Or.inl rfl) zK)
  (zW (zy (i:=3) qj.nd rfl (Or.inl rfl) zK)
  (zW (wI PassesOwn.never rfl (qQ rfl B.zip_ (zD (zC 0) (zD (zC 1) zI))) (vb rfl (yp (zr (i:=4) qj.nd rfl (Or.inl rfl)) (yp (zr (i:=5) qj.nd rfl (Or.inl rfl)) va))) (zW (zy (i:=2) qj.nd rfl (Or.inl rfl) (zV (yU yz) (zV (ji yy) (zC 2) (zh yc (zC 5) zK (λ_ _=>rfl))) (zV (ji yy) (zV (ji yy) (zC 4) (zh yc (zC 5) zK (λ_ _=>rfl))) (zC 3))))
   (zY (zy (i:=3) qj.nd rfl (Or.inl rfl) (zV (ji yy) (zC 3) (zh yc (zC 5) zK (λ_ _=>rfl)))))))
  (zY (yH (xy (zD (zC 2) (zD (zC 3) zI)))))))),?_⟩
 try dsimp only [zP,Cx.nox,Cx.wish]
 have lp:pv.length=pts.length:=Paired.length hpt
 have hlen:(ws.map V.int).length<=pv.length:=by rw [List.length_map,GW.len,lp]; exact Nat.le_refl _
 refine ⟨_,rfl,_,rfl,na,pa,rfl,Xw (xs:=ws.map V.int) (ys:=pv) hna hpa
  (λi σ H2=>∃ n1 p1,σ=[some (.ref na),some (.ref pa),some (.int (((ws.zip pts).take i).foldl vg (0,1)).1),some (.int (((ws.zip pts).take i).foldl vg (0,1)).2),n1,p1]/\zG H H2)
  ⟨none,none,rfl,zG.refl _⟩ (λi σ H2 _ ⟨_,_,_,sm⟩=>sm) hlen ?_ ?_⟩
 ·rintro i x y T σ H2 hx hy hT ⟨n1,p1,rfl,sm⟩
  obtain ⟨wv,hw,rfl⟩:=vn hx
  obtain ⟨pr,hpr,r,rfl,er⟩:=xU hpt hy
  have hz:(ws.zip pts)[i]? = some (wv,pr):=by rw [List.getElem?_zip_eq_some]; exact ⟨hw,hpr⟩
  have hzm:=List.mem_of_getElem? hz
  obtain ⟨z1,z2,z3,z4⟩:=UN GW _ hzm
  have hil:i < pts.length:=(List.getElem?_eq_some_iff.mp hpr).1
  obtain ⟨b1,b2⟩:=UQ (w:=w) (a:=a) (e:=e) i ((ws.zip pts).take i) (by rw [List.length_take,UO GW]; omega) λq hq=>(UN GW q (List.mem_of_mem_take hq)).2
  have n3:=GW.n3
  have sz:=GW.sz
  have en:e * i<=d:=Nat.le_trans (Nat.mul_le_mul_left e (by omega)) GW.nd
  have e9:e<=d:=Nat.le_trans (by have:=Nat.mul_le_mul_left e (show 1<=pts.length by omega); omega) GW.nd
  have s2:=sm.trans (zx hT (HO.tup [V.int wv,V.ref r]))
  have er2:=s2 _ _ er
  have tk:((ws.zip pts).take (i + 1)).foldl vg (0,1)=vg (((ws.zip pts).take i).foldl vg (0,1)) (wv,pr):=by rw [xH hz,List.foldl_append]; rfl
  refine ⟨T,_,rfl,zT.of zj,rfl,_,_,rfl,_,_,rfl,rfl,?_⟩
  refine ⟨_,rfl,_,rfl,r,_,1,_,rfl,rfl,zT.of er2,w4,_,_,rfl,rfl,⟨b1.mono (by omega),z4.mono (by omega)⟩,?_⟩
  refine ⟨_,rfl,_,rfl,r,_,0,_,rfl,rfl,zT.of er2,vm,_,_,rfl,rfl,⟨z2.mono (by omega),z3.mono (by omega)⟩,_,rfl,_,_,rfl,rfl,⟨(z2.mul z3).mono (by omega),b2.mono (by omega)⟩,_,_,rfl,rfl,?_⟩
  refine ⟨_,rfl,_,rfl,r,_,1,_,rfl,rfl,zT.of er2,w4,_,_,rfl,rfl,⟨b2.mono (by omega),z4.mono (by omega)⟩,?_⟩
  refine ⟨some (.int wv),some (.ref r),?_,s2⟩
  rw [tk]
  rfl
 ·rintro σ H2 ⟨n1,p1,rfl,sm⟩
  have tk:(ws.zip pts).take (ws.map V.int).length=ws.zip pts:=List.take_of_length_le (by rw [UO GW,List.length_map,GW.len]; exact Nat.le_refl _)
  rw [tk]
  refine ⟨_,rfl,_,rfl,wf,λr hr'=>?_⟩
  exact q r _ (sm.trans (zx hr' _)) zj
theorem zGN {k:Nat} {f:Addr} {fd:FuncData} (F:yb K "divided_sum" "divided_sum" UT f fd) (B:Bl mg) (aL:Fn P w K mg base "raw_sum" ["numbers","point"] k (YU K)) (au:vi P w K mg base "fraction" ["top","bottom"] k gE (.int 1)):zU P w K mg base yG (k + 1) f fd ["numbers","point","add","divisor"] (YV K):=by
 refine F.ok Kb ?_ ?_
 ·rintro vs H Q E ⟨na,pa,ws,pv,pts,w,a,e,d,x,z,rfl,_⟩
  rfl
 rintro cdv A outer s H vs Q E hr ⟨na,pa,ws,pv,pts,w,a,e,d,x,z,rfl,hna,hpa,hpt,GW,bx,d0,bd,q⟩
 refine ⟨_,(zW (zy (i:=4) Kb.nd rfl (Or.inl rfl) (zk aL hr rfl (zD (zC 0) (zD (zC 1) zI))))
  (zY (yH (zk au.fn hr rfl (zD (zV (yU yz) (zh yc (zC 4) zK (λ_ _=>rfl)) (zV (ji yy) (zC 2) (zh yc (zC 4) zK (λ_ _=>rfl)))) (zD (zV (ji yy) (zh yc (zC 4) zK (λ_ _=>rfl)) (zC 3)) zI)))))),?_⟩
 try dsimp only [zP,Cx.nox,Cx.wish]
 obtain ⟨p0,ev,b1,b2⟩:=UR GW
 have sz:=GW.sz
 have pq:=Int.mul_pos p0 d0
 refine ⟨_,rfl,_,rfl,na,pa,ws,pv,pts,w,a,e,d,rfl,hna,hpa,hpt,GW,λr1 H1 s1 e1=>?_⟩
 refine ⟨_,rfl,r1,_,0,_,rfl,rfl,zT.of e1,vm,_,rfl,_,rfl,r1,_,1,_,rfl,rfl,zT.of e1,w4,_,_,rfl,rfl,⟨bx.mono (by omega),b2.mono (by omega)⟩,_,_,rfl,rfl,_,rfl,r1,_,1,_,rfl,rfl,zT.of e1,w4,_,rfl,_,_,rfl,rfl,⟨b2.mono (by omega),bd.mono (by omega)⟩,_,_,rfl,(by omega),(b2.mul bd).mono (by omega),λr H2 s2 e2=>?_⟩
 generalize (uQ ws pts).1=t at *
 generalize (uQ ws pts).2=b at *
 obtain ⟨l0,lv⟩:=Ka (t:=t + x * b) (b:=b * z) (by omega)
 have bt:Bd (w + a + d + 8) (t + x * b):=(b1.add ((bx.mul b2).mono (by omega))).mono (by omega)
 have bb:Bd (w + d + 1) (b * z):=(b2.mul bd).mono (by omega)
 refine q r _ _ H2 (s1.trans s2) e2 l0 ?_ (jy bt) (jH bb)
 rw [lv,Rat.intCast_add,Rat.intCast_mul,Rat.intCast_mul,ev,Rat.div_def]
 have db:=vG p0
 have dd:=vG d0
 have n1:(b:Rat)≠0:=λy=>by rw [y] at db; exact absurd db Rat.lt_irrefl
 have n2:(z:Rat)≠0:=λy=>by rw [y] at dd; exact absurd dd Rat.lt_irrefl
 have i1:=Rat.mul_inv_cancel _ n1
 have i2:=Rat.mul_inv_cancel _ n2
 rw [Rat.inv_mul_rev]
 grind
theorem zMb {k:Nat} {f:Addr} {fd:FuncData} (F:yb K "holds" "holds" UU f fd) (B:Bl mg) (aL:Fn P w K mg base "raw_sum" ["numbers","point"] k (YU K)):zU P w K mg base yG (k + 1) f fd ["row","point"] (gM K):=by
 refine F.ok Kc ?_ ?_
 ·rintro vs H Q E ⟨ra,pa,ws,b,pv,pts,w,a,e,d,rfl,_⟩
  rfl
 rintro cdv A outer s H vs Q E hr ⟨ra,pa,ws,b,pv,pts,w,a,e,d,rfl,hra,hpa,hpt,GW,bb,q⟩
 refine ⟨_,(zW (zy (i:=2) Kc.nd rfl (Or.inl rfl) (zk aL hr rfl (zD (vO uA (zC 0) v7 (vD (xD xE zK))) (zD (zC 1) zI))))
  (zY (yH (uP (yU Y4) (zh yc (zC 2) zK (λ_ _=>rfl)) (zV (ji yy) (zh yc (zC 0) (xD xE zK) (λ_ _=>rfl)) (zh yc (zC 2) zK (λ_ _=>rfl))) (yu _))))),?_⟩
 try dsimp only [zP,Cx.nox,Cx.wish]
 refine ⟨_,rfl,_,rfl,_,rfl,ra,_,rfl,zT.of hra,jD _ _,λp hp=>?_⟩
 have ec:yY (zo ws b) none (some (-1))=ws.map V.int:=qL _ _
 rw [ec]
 have s1:=zx hp (HO.tup (ws.map V.int))
 obtain ⟨p0,ev,b1,b2⟩:=UR GW
 have sz:=GW.sz
 refine ⟨_,rfl,p,pa,ws,pv,pts,w,a,e,d,rfl,.inl (zT.of zj),s1.seq hpa,hpt.same s1,GW,λr1 H1 s2 e1=>?_⟩
 refine ⟨_,rfl,r1,_,0,_,rfl,rfl,zT.of e1,vm,_,rfl,_,rfl,ra,_,_,_,rfl,rfl,zT.of (s2 _ _ (s1 _ _ hra)),ue _ _,_,rfl,r1,_,1,_,rfl,rfl,zT.of e1,w4,_,_,rfl,rfl,⟨bb.mono,b2.mono (by omega)⟩,_,_,rfl,rfl,?_⟩
 exact q _ H1 (s1.trans s2) (zMl GW b)
theorem zJ6 {k:Nat} {f:Addr} {fd:FuncData} (F:yb K "lies_in" "lies_in" YW f fd) (B:Bl mg) (aN:Fn P w K mg base "holds" ["row","point"] k (gM K)):zU P w K mg base yG (k + 1) f fd ["room","point"] (gN K):=by
 refine F.ok zJw ?_ ?_
 ·rintro vs H Q E ⟨rm,pa,rv,pv,rows,pts,n,w,a,e,d,rfl,_⟩
  rfl
 rintro cdv A outer s H vs Q E hr ⟨rm,pa,rv,pv,rows,pts,n,w,a,e,d,rfl,hrm,hrv,hpa,hpt,W,r9,lp,n3,PO,nd,sz,q⟩
 refine ⟨_,(zY (yH (ym (jq rfl) rfl B.all_ jr (zD (xu (own:=["row"]) (caps:=[(1,"point")]) (wD (S:=ze YW) (N:=["room","point"]) ⟨_,rfl⟩) rfl (xr (zC 0)) (λ_ _ _ _=>zr (i:=0) (show (["row","point"]:List Str).Nodup by decide +kernel) rfl (Or.inl rfl)) (λ_ _ _ _=>(zk aN hr rfl (zD (zC 0) (zD (zC 1) zI))))) zI)))),?_⟩
 try dsimp only [zP,Cx.nox,Cx.wish]
 have lrv:=Paired.length hrv
 refine ⟨_,rfl,rm,rfl,⟨_,hrm⟩,vR (K:=K) (a:=rm) (xs:=rv) (λi ys σ H'=>∃ bs:List Bool,ys=bs.map V.bl/\bs.length=i/\(bs.all id=true ↔ ∀ r∈rows.take i,xM r (yZ pts))/\(∃ o,σ=[o,some (.ref pa)])/\zG H H')
  ⟨[],rfl,rfl,⟨(λ_ r hr=>by cases hr),λ_=>rfl⟩,⟨none,rfl⟩,zG.refl _⟩ (λi ys σ H' hi ⟨bs,e1,l1,_,_,s1⟩=>⟨s1.seq hrm,by rw [e1,List.length_map]; omega⟩) (yd (by omega)) ?_ ?_⟩
 ·rintro i x ys σ H' hi ⟨bs,rfl,lb,hb,⟨o,rfl⟩,s1⟩
  obtain ⟨r,hr',a9,rfl,ea⟩:=xU hrv hi
  obtain ⟨w1,w2,w3⟩:=W r (List.mem_of_getElem? hr')
  refine ⟨_,rfl,_,rfl,a9,pa,r.1,r.2,pv,pts,w,a,e,d,rfl,s1 _ _ ea,s1.seq hpa,hpt.same s1,⟨w1.trans lp.symm,by omega,w2,PO,nd,sz⟩,w3,λy H2 s2 hy=>?_⟩
  refine ⟨bs++[y],(by rw [List.map_append]; rfl),(by rw [List.length_append,lb]; rfl),?_,⟨_,rfl⟩,s1.trans s2⟩
  rw [List.all_append,Bool.and_eq_true,hb,xH hr']
  constructor
  ·rintro ⟨z1,z2⟩ r' hr2
   rcases List.mem_append.mp hr2 with hr2 | hr2
   ·exact z1 r' hr2
   ·rw [List.mem_singleton.mp hr2]
    refine hy.mp ?_
    cases y with
    | true=>rfl
    | false=>cases z2
  ·intro z
   refine ⟨λr' hr2=>z r' (List.mem_append_left _ hr2),?_⟩
   have:=hy.mpr (z r (List.mem_append_right _ List.mem_cons_self))
   rw [this]
   rfl
 rintro ys σ H' ⟨bs,rfl,lb,hb,⟨o,rfl⟩,s1⟩ l hl
 rw [List.take_of_length_le (by omega)] at hb
 exact ⟨l,bs,rfl,zJ.of zj,q _ _ (s1.trans (zx hl _)) hb⟩
end
structure UV (rows:List yL) (q:Nat->Rat) (x:Rat):Prop where
 all:∀ l∈rows,l.2.1 < 0->yO l.1 q - (l.2.2:Rat)<=-(l.2.1:Rat) * x
 one:∃ l∈rows,l.2.1 < 0/\yO l.1 q - (l.2.2:Rat) = -(l.2.1:Rat) * x
theorem k7 {H:Hp} {lv:List V} {n:Nat} {bs:List (Int × Int)} {m:MD} {lo hi:Int} {zH:List (List Int × Int)} {k j:Nat} (h:w8 H lv (ui n bs m lo hi zH k)) (hj:j<=k):∃ a rv,yk lv (j:Int)=some (.ref a)/\H a=some (.lst rv)/\yI H rv (xi n bs m lo hi zH j):=by
 have llv:lv.length=k + 1:=(Paired.length h).trans (by unfold ui; rw [List.length_map,List.length_range])
 obtain ⟨v,hv⟩:∃ v,lv[j]? = some v:=⟨_,List.getElem?_eq_getElem (by omega)⟩
 obtain ⟨rows,hrows,a,rv,rfl,ea,era⟩:=xU h hv
 have erows:rows=xi n bs m lo hi zH j:=by
  unfold ui at hrows
  rw [List.getElem?_map,List.getElem?_range (by omega)] at hrows
  exact (Option.some.inj hrows).symm
 exact ⟨a,rv,um hv,ea,erows ▸ era⟩
theorem xz.less {n:Nat} {bs:List (Int × Int)} {m:MD} {lo hi:Int} {zH:List (List Int × Int)} {k j:Nat} (h:xz n bs m lo hi zH k) (hj:j<=k):xz n bs m lo hi zH j:=λi hi=>h i (by omega)
theorem YX:∀ k:Nat,bK k=wK k + 104
 | 0=>rfl
 | k + 1=>by
  have:=YX k
  show bK k + wK k + 10=2 * wK k + 10 + 104
  omega
theorem Ke {t b t' b':Int} (hb:0 < b) (hb':0 < b'):t * b' < t' * b ↔ zZ (t,b) < zZ (t',b'):=by
 have d:=vG hb
 have d':=vG hb'
 have e:=uk (p:=(t,b)) hb
 have e':=uk (p:=(t',b')) hb'
 have dd:=Rat.mul_pos d d'
 dsimp only at e e'
 constructor
 ·intro z
  have z':((t * b':Int):Rat) < ((t' * b:Int):Rat):=by exact_mod_cast z
  rw [Rat.intCast_mul,Rat.intCast_mul,<- e,<- e'] at z'
  refine Rat.lt_of_mul_lt_mul_right (c:=(b:Rat) * (b':Rat)) ?_ (Rat.le_of_lt dd)
  grind
 ·intro z
  have z':=Rat.mul_lt_mul_of_pos_right z dd
  have z2:((t * b':Int):Rat) < ((t' * b:Int):Rat):=by
   rw [Rat.intCast_mul,Rat.intCast_mul,<- e,<- e']
   grind
  exact_mod_cast z2
inductive UW (C CM:Addr) (K:PySem.W.Frag) (vs:List V) (H:Hp) (Q:VK) (E:XK):Prop
 | mk (o kp km sa pa:Addr) (n k a e d:Nat) (bs:List (Int × Int)) (m:MD) (pv mv sv qv:List V) (lo hi:Int) (zH:List (List Int × Int)) (pts:List (Int × Int)) (lf:Int) (_:vs=[.ref o,.ref sa,.int lo,.int hi,.int lf,.ref pa]) (_:lf=((k + 1:Nat):Int)) (_:yr C CM H o n bs [m] pv mv kp km) (_:wH n bs [m]) (_:m.rows=[]) (_:wu n bs m lo hi zH) (_:H sa=some (.lst sv)) (_:yI H sv zH) (_:k + 1<=6) (_:xz n bs m lo hi zH (k + 1)) (_:zJ K H pa qv) (_:yX H qv pts) (_:pts.length=n) (_:(∀ p∈pts,0 < p.2/\Bd a p.1/\Bd e p.2)) (_:e * n<=d) (_:110<=a) (_:wK (k + 1) + a + d + 30<=7000) (_:((¬ ∀ r∈xi n bs m lo hi zH (k + 1),xM r (yZ pts))->∀ H',zG H H'->Q .non H')) (_:((∀ r∈xi n bs m lo hi zH (k + 1),xM r (yZ pts))->∀ r (t b:Int) H',zG H H'->H' r=some (.tup [.int t,.int b])->0 < b->UV (uB n bs m lo hi (xi n bs m lo hi zH k)) (yZ pts) (zZ (t,b))->Bd (wK k + a + d + 13) t->Bd (wK k + d + 6) b->Q (.ref r) H')):UW C CM K vs H Q E
section
variable {P:Program} {w:World} {K:PySem.W.Frag} {mg:Str->Option Value} {base:Heap} {cM cP:Addr}
abbrev UX:Stmt:=yh 54
theorem gO:ya ["thing","safe","low","high","turns","point","rooms","steering","row","bound"] ["thing","safe","low","high","turns","point"] (ze UX):=.a
variable {ac af:Addr} (ae:yJ K mg "Mode" ac) (ag:wr K ac) (ah:yJ K mg "Thing" af) (ai:wt K af)
include ae ag ah ai
theorem zLP {k:Nat} {f:Addr} {fd:FuncData} (F:yb K "holder" "holder" UX f fd) (B:Bl mg) (aO:Fn P w K mg base "held_rooms" ["thing","safe","low","high","turns"] k (X1 (kq af ac cM cP))) (bM:Fn P w K mg base "lies_in" ["room","point"] k (gN K)) (au:vi P w K mg base "fraction" ["top","bottom"] k gE (.int 1)) (aK:Fn P w K mg base "steering_rows" ["thing","room","low","high"] k (YK af ac)) (aQ:Fn P w K mg base "divided_sum" ["numbers","point","add","divisor"] k (YV K)) (aF:Fn P w K mg base "under" ["one","other"] k Z3):zU P w K mg base yG (k + 1) f fd ["thing","safe","low","high","turns","point"] (UW af ac K):=by
 refine F.ok gO ?_ ?_
 ·rintro vs H Q E ⟨o,kp,km,sa,pa,n,k,a,e,d,bs,m,pv,mv,sv,qv,lo,hi,zH,pts,lf,rfl,_⟩
  rfl
 rintro cdv A outer s H vs Q E hr ⟨o,kp,km,sa,pa,n,k,a,e,d,bs,m,pv,mv,sv,qv,lo,hi,zH,pts,lf,rfl,elf,TA,TO,r0,G,hsa,hsv,k6,ok,hpa,hpt,lp,PO,nd,a1,sz,qn,q⟩
 refine ⟨_,(zW (zy (i:=6) gO.nd rfl (Or.inl rfl) (zk aO hr rfl (zD (zC 0) (zD (zC 1) (zD (zC 2) (zD (zC 3) (zD (zC 4) zI)))))))
  (zW (yq (wS (xW (zk bM hr rfl (zD (zh yi (zC 6) (zC 4) (λ_ _=>rfl)) (zD (zC 5) zI))))) (zY (yH j5)) yt)
  (zW (zy (i:=7) gO.nd rfl (Or.inl rfl) (qK au hr rfl (zD (zC 2) zI)))
  (zW (wI PassesOwn.never rfl (xr (zk aK hr rfl (zD (zC 0) (zD (zh yi (zC 6) (zV (yU wz) (zC 4) zK) (λ_ _=>rfl)) (zD (zC 2) (zD (zC 3) zI)))))) (zr (i:=8) gO.nd rfl (Or.inl rfl)) (zY (yq (xX (yU qB) (zh yc (zC 8) (xD xE zK) (λ_ _=>rfl)) zK (yu _)) (zW (zy (i:=9) gO.nd rfl (Or.inl rfl) (zk aQ hr rfl (zD (vO uA (zC 8) v7 (vD (xD xE zK))) (zD (zC 5) (zD (xD xE (zh yc (zC 8) (xD xE zK) (λ_ _=>rfl))) (zD (xD xE (zh yc (zC 8) (xD xE zK) (λ_ _=>rfl))) zI))))))
    (zY (yq (xW (zk aF hr rfl (zD (zC 7) (zD (zC 9) zI)))) (zY (zy (i:=7) gO.nd rfl (Or.inl rfl) (zC 9))) yt))) yt)))
  (zY (yH (zC 7))))))),?_⟩
 try dsimp only [zP,Cx.nox,Cx.wish]
 subst elf
 have n1:=G.n1
 have n3:=G.n3
 refine ⟨_,rfl,_,rfl,_,rfl,_,rfl,_,rfl,o,kp,km,sa,n,bs,[m],pv,mv,sv,lo,hi,k + 1,zH,rfl,TA,TO,hsa,hsv,.inr ⟨m,rfl,⟨rfl,r0⟩,G,k6,λrl lv H1 s1 _ erl hlv _=>?_,λno=>absurd ok no⟩⟩
 have six:=qd (k:=k) (by omega)
 have six1:=qd (k:=k + 1) (by omega)
 have wk1:wK (k + 1)=2 * wK k + 10:=rfl
 have bwk:=YX k
 have bwk1:=YX (k + 1)
 obtain ⟨a1,rv1,at1',ea1,hr1⟩:=k7 hlv (Nat.le_refl _)
 obtain ⟨a0,rv0,at0',ea0,hr0⟩:=k7 hlv (Nat.le_succ k)
 have HB:=G.held k
 have HB1:=G.held (k + 1)
 have l60:=ok (k + 1) (Nat.le_refl _)
 have l60':=ok k (Nat.le_succ k)
 have SG1:=s1
 refine ⟨_,rfl,_,rfl,rl,_,_,_,rfl,rfl,zJ.of erl,at1',_,rfl,a1,pa,rv1,qv,_,pts,n,wK (k + 1),a,e,d,rfl,zJ.of ea1,hr1,s1.seq hpa,yX.same s1 hpt,(λr hr=>⟨(HB1 r hr).1,(HB1 r hr).2.1,(HB1 r hr).2.2.mono (by omega)⟩),(by omega),lp,n3,PO,(by rw [lp]; exact nd),(by omega),λy H2 s2 hy=>?_⟩
 refine ⟨_,rfl,?_⟩
 by_cases c:∀ r∈xi n bs m lo hi zH (k + 1),xM r (yZ pts)
 case neg=>
  have y0:y=false:=by
   cases y with
   | false=>rfl
   | true=>exact absurd (hy.mp rfl) c
  subst y0
  refine xo rfl ?_
  exact qn c _ (s1.trans s2)
 have y1:y=true:=hy.mpr c
 subst y1
 refine xA rfl ?_
 refine ⟨_,rfl,lo,1,rfl,(by decide),Bd.lit,λst H3 s3 est=>?_⟩
 have s13:=s1.trans (s2.trans s3)
 have l1:yK lo 1=1/\yg lo 1=lo:=by
  have h:=XS (t:=lo) (b:=1) (by decide)
  have p:=gu (t:=lo) (b:=1) (by decide)
  have b1:Bd 1 (yK lo 1):=jH (n:=1) Bd.lit
  have b2:(yK lo 1).natAbs < 2 ^ 1:=b1
  have e1:yK lo 1=1:=by omega
  rw [e1] at h
  exact ⟨e1,by omega⟩
 rw [l1.1,l1.2] at est
 have at0'':yk lv (((k + 1:Nat):Int) - 1)=some (.ref a0):=by rw [show ((k + 1:Nat):Int) - 1=(k:Int) by omega]; exact at0'
 have W3r:=G.three HB (by omega) (by have:=je k; omega)
 refine ⟨_,rfl,_,rfl,_,rfl,_,_,rfl,rfl,rl,_,_,_,rfl,rfl,zJ.of ((s2.trans s3) _ _ erl),at0'',_,rfl,_,rfl,o,kp,km,a0,n,bs,m,pv,mv,rv0,lo,hi,_,rfl,yr.same s13 TA,TO,G.mbd,(λx hx=>(G.st x hx).mono),(λb hb=>⟨((G.bb b hb).1).mono,((G.bb b hb).2).mono⟩),(s2.trans s3) _ _ ea0,yI.same (s2.trans s3) hr0,HB.ok (by omega) (by omega),l60',(λr hr x hx=>?_),λl2 lv2 J1 z1 _ el2 hl2=>?_⟩
 ·obtain ⟨j,_,rfl⟩:=List.mem_map.mp hx
  exact (YL (HB r hr).2.1 G.pu (by have:=(HB r hr).1; omega) j).mono (by omega)
 rw [KC n3] at hl2
 have sJ:=s13.trans z1
 have LAST:(List.replicate n 0,-1,-lo)∈uB n bs m lo hi (xi n bs m lo hi zH k):=List.mem_append_right _ (List.mem_cons_of_mem _ List.mem_cons_self)
 have l62:(uB n bs m lo hi (xi n bs m lo hi zH k)).length<=62:=by
  unfold uB
  rw [List.length_append,List.length_map]
  show (xi n bs m lo hi zH k).length + 2<=62
  omega
 generalize hA:uB n bs m lo hi (xi n bs m lo hi zH k)=A3 at *
 have lx:lv2.length=A3.length:=(Paired.length hl2).trans (List.length_map _)
 have q0:zZ (lo,1)=(lo:Rat):=jN (show (0:Int) < 1 by decide) (by show (lo:Rat)=(lo:Rat) * ((1:Int):Rat); have:((1:Int):Rat)=1:=rfl; rw [this,Rat.mul_one])
 refine ⟨l2,rfl,⟨_,zJ.of el2⟩,jR (K:=K) (a:=l2) (xs:=lv2)
  (λi σ H'=>∃ (sr:Addr) (tt bb:Int) (o8 o9:Option V),σ=[some (.ref o),some (.ref sa),some (.int lo),some (.int hi),some (.int ((k + 1:Nat):Int)),some (.ref pa),some (.ref rl),some (.ref sr),o8,o9]/\zG J1 H'/\H' sr=some (.tup [.int tt,.int bb])/\0 < bb/\Bd (wK k + a + d + 13) tt/\Bd (wK k + d + 6) bb/\(∀ l∈A3.take i,l.2.1 < 0->yO l.1 (yZ pts) - (l.2.2:Rat)<=-(l.2.1:Rat) * zZ (tt,bb))/\(zZ (tt,bb)=(lo:Rat)\/∃ l∈A3.take i,l.2.1 < 0/\yO l.1 (yZ pts) - (l.2.2:Rat) = -(l.2.1:Rat) * zZ (tt,bb)))
  ⟨st,lo,1,none,none,rfl,zG.refl _,z1 _ _ est,by decide,G.lo.mono (by omega),Bd.mono (i:=1) (n:=1) Bd.lit (by omega),(λl hl=>by cases hl),.inl q0⟩ (λi σ H' _ ⟨_,_,_,_,_,_,s9,_⟩=>zJ.of (s9 _ _ el2)) ?_ ?_⟩
 ·rintro i x σ M0 hix ⟨sr,tt,bb,o8,o9,rfl,sm,esr,bb0,btt,bbb,hall,hone⟩
  obtain ⟨r,ra,hr3,rfl,er0⟩:=gJ hl2 hix
  have eR:=sm _ _ er0
  obtain ⟨x1,x2,x3,x4⟩:=W3r r (List.mem_of_getElem? hr3)
  refine ⟨_,rfl,_,rfl,ra,_,_,_,rfl,rfl,zT.of eR,qb _ _ _,_,_,rfl,rfl,_,rfl,?_⟩
  by_cases cn:r.2.1 < 0
  case neg=>
   refine xA (decide_eq_false cn) ?_
   refine ⟨sr,tt,bb,_,_,rfl,sm,esr,bb0,btt,bbb,λl hl ln=>?_,?_⟩
   ·rw [xH hr3] at hl
    rcases List.mem_append.mp hl with hl | hl
    ·exact hall l hl ln
    ·rw [List.mem_singleton.mp hl] at ln
     exact absurd ln cn
   ·rcases hone with h | ⟨l,hl,h⟩
    ·exact .inl h
    ·exact .inr ⟨l,by rw [xH hr3]; exact List.mem_append_left _ hl,h⟩
  refine xo (decide_eq_true cn) ?_
  refine ⟨_,rfl,_,rfl,_,rfl,ra,_,rfl,zT.of eR,(ka _ _ _).2,λp1 hp1=>?_⟩
  rw [(ka _ _ _).1]
  obtain ⟨L1,hhL1,yL1,ep1⟩:=zw (HO.tup (r.1.map V.int)) hp1
  rw [hhL1]
  have SL1:=sm.trans yL1
  replace eR:=(yL1 _ _ eR)
  replace esr:=(yL1 _ _ esr)
  have sM:=sJ.trans SL1
  refine ⟨_,rfl,_,rfl,_,rfl,ra,_,_,_,rfl,rfl,zT.of eR,Wr _ _ _,_,rfl,_,rfl,_,rfl,ra,_,_,_,rfl,rfl,zT.of eR,qb _ _ _,_,rfl,p1,pa,r.1,qv,pts,wK k + 5,a,e,d,-r.2.2,-r.2.1,rfl,.inl (zT.of ep1),sM.seq hpa,yX.same sM hpt,⟨x1.trans lp.symm,by omega,x2,PO,by rw [lp]; exact nd,by omega⟩,x4.neg.mono (by omega),(by omega),x3.neg.mono (by omega),λbr t' b' M2 s2' ebr b0' ev bt' bb'=>?_⟩
  have SL2:=SL1.trans s2'
  replace esr:=(s2' _ _ esr)
  refine ⟨_,rfl,_,rfl,sr,br,tt,bb,t',b',rfl,⟨esr,ebr,bb0,b0',btt.mono (by omega),bbb.mono (by omega),bt'.mono (by omega),bb'.mono (by omega)⟩,_,rfl,?_⟩
  have nz:=YS cn
  have ev':yO r.1 (yZ pts) - (r.2.2:Rat) = -(r.2.1:Rat) * zZ (t',b'):=by
   rw [Rat.intCast_neg,Rat.intCast_neg] at ev
   grind
  by_cases cu:tt * b' < t' * bb
  ·refine xo (decide_eq_true cu) ?_
   have lt:=(Ke bb0 b0').mp cu
   refine ⟨_,rfl,br,t',b',_,_,rfl,SL2,ebr,b0',bt'.mono (by omega),bb'.mono (by omega),λl hl ln=>?_,.inr ⟨r,by rw [xH hr3]; exact List.mem_append_right _ List.mem_cons_self,cn,ev'⟩⟩
   rw [xH hr3] at hl
   rcases List.mem_append.mp hl with hl | hl
   ·have h:=hall l hl ln
    have ln':=YS ln
    have:=Rat.mul_le_mul_of_nonneg_left (Rat.le_of_lt lt) (Rat.le_of_lt ln')
    grind
   ·rw [List.mem_singleton.mp hl]
    rw [ev']
    exact Rat.le_refl
  ·refine xA (decide_eq_false cu) ?_
   have le:zZ (t',b')<=zZ (tt,bb):=Rat.not_lt.mp λz=>cu ((Ke bb0 b0').mpr z)
   refine ⟨sr,tt,bb,_,_,rfl,SL2,esr,bb0,btt,bbb,λl hl ln=>?_,?_⟩
   ·rw [xH hr3] at hl
    rcases List.mem_append.mp hl with hl | hl
    ·exact hall l hl ln
    ·rw [List.mem_singleton.mp hl,ev']
     exact Rat.mul_le_mul_of_nonneg_left le (Rat.le_of_lt nz)
   ·rcases hone with h | ⟨l,hl,h⟩
    ·exact .inl h
    ·exact .inr ⟨l,by rw [xH hr3]; exact List.mem_append_left _ hl,h⟩
 rintro σ M0 ⟨sr,tt,bb,o8,o9,rfl,sm,esr,bb0,btt,bbb,hall,hone⟩
 rw [lx,List.take_length] at hall hone
 refine ⟨_,rfl,q c sr tt bb M0 (sJ.trans sm) esr bb0 ⟨hall,?_⟩ btt bbb⟩
 rcases hone with h | h
 ·refine ⟨_,LAST,(show (-1:Int) < 0 by decide),?_⟩
  rw [h,KY,Rat.intCast_neg,Rat.intCast_neg]
  have:((1:Int):Rat)=1:=rfl
  rw [this]
  grind
 ·exact h
end
theorem zML {K:PySem.W.Frag} {H H':Hp} {a:Addr} {xs:List V} (s:zG H H') (h:vq K H a xs):vq K H' a xs:=h.elim (λz=>.inl (s.seqT z)) λz=>.inr (s.seq z)
inductive YY (vs:List V) (H:Hp) (Q:VK) (E:XK):Prop
 | mk (p q:Addr) (a b c d:Int) (A B C D X:Nat) (_:vs=[.ref p,.ref q]) (_:H p=some (.tup [.int a,.int b])) (_:H q=some (.tup [.int c,.int d])) (_:0 < b) (_:0 < d) (_:Bd A a) (_:Bd B b) (_:Bd C c) (_:Bd D d) (_:A + D < X) (_:C + B < X) (_:A<=7900) (_:C<=7900) (_:B + D<=7900) (_:∀ r (t s:Int) H',zG H H'->H' r=some (.tup [.int t,.int s])->0 < s->zZ (t,s)=zZ (a,b) + zZ (c,d)->Bd X t->Bd (B + D) s->Q (.ref r) H'):YY vs H Q E
def ww (e:Nat->Nat):Nat->Nat
 | 0=>0
 | n + 1=>ww e n + e n
structure GA (ws:List Int) (pts:List (Int × Int)) (c e T:Nat->Nat):Prop where
 len:ws.length=pts.length
 n3:pts.length<=6
 ok:∀ (j:Nat) (wv:Int) (p:Int × Int),ws[j]? = some wv->pts[j]? = some p->0 < p.2/\Bd 7500 wv/\Bd 7500 p.1/\Bd (c j) (wv * p.1)/\Bd (e j) p.2
 st:∀ j,j < pts.length->T j + e j < T (j + 1)/\c j + (ww e j + 1) < T (j + 1)
 sz:∀ j,j<=pts.length->T j<=7500/\ww e j<=7500/\c j<=7500
theorem gP (e:Nat):∀ n:Nat,ww (λ_=>e) n=e * n
 | 0=>rfl
 | n + 1=>by
  show ww (λ_=>e) n + e=e * (n + 1)
  rw [gP e n,Nat.mul_succ]
theorem GQ.ga {ws:List Int} {pts:List (Int × Int)} {w a e d:Nat} (G:GQ ws pts w a e d):GA ws pts (λ_=>w + a) (λ_=>e) (λi=>w + a + e * i + i + 1):=by
 have n3:=G.n3
 have sz:=G.sz
 have nd:=G.nd
 refine ⟨G.len,G.n3,λj wv p hw hp=>?_,λj hj=>?_,λj hj=>?_⟩
 ·obtain ⟨h1,h2,h3⟩:=G.ok p (List.mem_of_getElem? hp)
  have h4:=G.bw wv (List.mem_of_getElem? hw)
  exact ⟨h1,h4.mono (by omega),h2.mono (by omega),h4.mul h2,h3⟩
 ·rw [gP]
  have em:e * (j + 1)=e * j + e:=Nat.mul_succ e j
  exact ⟨by show w + a + e * j + j + 1 + e < w + a + e * (j + 1) + (j + 1) + 1; omega,by show w + a + (e * j + 1) < w + a + e * (j + 1) + (j + 1) + 1; omega⟩
 ·rw [gP]
  have:=Nat.le_trans (Nat.mul_le_mul_left e hj) nd
  exact ⟨by show w + a + e * j + j + 1<=7500; omega,by omega,by omega⟩
inductive YZ (K:PySem.W.Frag) (vs:List V) (H:Hp) (Q:VK) (E:XK):Prop
 | mk (na pa:Addr) (ws:List Int) (pv:List V) (pts:List (Int × Int)) (c e T:Nat->Nat) (_:vs=[.ref na,.ref pa]) (_:vq K H na (ws.map V.int)) (_:zJ K H pa pv) (_:yX H pv pts) (_:GA ws pts c e T) (_:∀ r (t s:Int) H',zG H H'->H' r=some (.tup [.int t,.int s])->0 < s->zZ (t,s)=yO ws (yZ pts)->Bd (T pts.length) t->Bd (ww e pts.length + 1) s->Q (.ref r) H'):YZ K vs H Q E
theorem zNP {a b c d:Int} (hb:0 < b) (hd:0 < d):zZ (a * d + c * b,b * d)=zZ (a,b) + zZ (c,d):=by
 have e:=uk (p:=(a,b)) hb
 have e':=uk (p:=(c,d)) hd
 dsimp only at e e'
 refine jN (Int.mul_pos hb hd) ?_
 show ((a * d + c * b:Int):Rat)=_ * ((b * d:Int):Rat)
 rw [Rat.intCast_add,Rat.intCast_mul,Rat.intCast_mul,Rat.intCast_mul,<- e,<- e']
 grind
theorem zKa {w a b:Int} (hb:0 < b):zZ (w * a,b)=(w:Rat) * zZ (a,b):=by
 have e:=uk (p:=(a,b)) hb
 dsimp only at e
 refine jN hb ?_
 show ((w * a:Int):Rat)=_ * (b:Rat)
 rw [Rat.intCast_mul,<- e]
 grind
theorem zNN:zZ (0,1)=0:=jN (by decide) (by
 show ((0:Int):Rat)=0 * ((1:Int):Rat)
 rw [Rat.zero_mul]
 rfl)
theorem k8 {t b:Int} (h:0 < b):0 < yK t b/\zZ (yg t b,yK t b)=zZ (t,b):=by
 obtain ⟨h1,h2⟩:=Ka (t:=t) (b:=b) (by omega)
 exact ⟨h1,h2⟩
theorem zKc {ws:List Int} {q:Nat->Rat} {t s b:Int} (h:0 < s) (e:zZ (t,s)=yO ws q):decide (t<=b * s)=true ↔ xM (ws,b) q:=by
 have d:=vG h
 have m:=uk (p:=(t,s)) h
 dsimp only at m
 rw [e] at m
 rw [decide_eq_true_iff]
 unfold xM
 constructor
 ·intro z
  have z':(t:Rat)<=((b * s:Int):Rat):=by exact_mod_cast z
  rw [<- m,Rat.intCast_mul] at z'
  exact Rat.le_of_mul_le_mul_right z' d
 ·intro z
  have z':=Rat.mul_le_mul_of_nonneg_right z (Rat.le_of_lt d)
  rw [m,<- Rat.intCast_mul] at z'
  exact_mod_cast z'
section
variable {P:Program} {w:World} {K:PySem.W.Frag} {mg:Str->Option Value} {base:Heap} {cM cP:Addr}
abbrev UY:Stmt:=yh 59
theorem Kf:ya ["_law_one","_law_other"] ["_law_one","_law_other"] (ze UY):=.a
abbrev UZ:Stmt:=yh 60
theorem Kg:ya ["_law_top","_law_bottom","_law_share"] ["_law_top","_law_bottom"] (ze UZ):=.a
abbrev Ua:Stmt:=yh 61
theorem zKy:ya ["_law_one","_law_other"] ["_law_one","_law_other"] (ze Ua):=.a
abbrev Ub:Stmt:=yh 62
theorem k9:ya ["_law_numbers","_law_values","_law_found","_law_number_here","_law_value"] ["_law_numbers","_law_values"] (ze Ub):=.a
abbrev Uc:Stmt:=yh 63
theorem Kh:ya ["_law_row","_law_point_here","_law_value"] ["_law_row","_law_point_here"] (ze Uc):=.a
abbrev Yb:Stmt:=yh 64
theorem zKz:ya ["_law_room","_law_point_here"] ["_law_room","_law_point_here"] (ze Yb):=.a
variable {ac af:Addr} (ae:yJ K mg "Mode" ac) (ag:wr K ac) (ah:yJ K mg "Thing" af) (ai:wt K af)
include ae ag ah ai
theorem zHg {k:Nat} {f:Addr} {fd:FuncData} (F:yb K "_law_divisor" "_law_divisor" UY f fd) (B:Bl mg):zU P w K mg base yG (k + 1) f fd ["_law_one","_law_other"] Xy:=by
 refine F.ok Kf ?_ ?_
 ·rintro vs H Q E ⟨a,b,rfl,_⟩
  rfl
 rintro cdv A outer s H vs Q E hr ⟨a,b,rfl,q⟩
 refine ⟨_,(zW (JE PassesOwn.never (xX jn (zC 1) zK (yu _)) (zY (zOa (i:=0) (j:=1) rfl Kf.nd rfl rfl (by decide) rfl rfl (zD (zC 1) (zD (zV (ji wA) (zC 0) (zC 1)) zI)) rfl)))
  (zY (yH (ym JS rfl B.abs_ QQ (zD (zC 0) zI))))),?_⟩
 try dsimp only [zP,Cx.nox,Cx.wish]
 refine JH (λσ H'=>∃ c r:Int,σ=[some (.int c),some (.int r)]/\H'=H/\Int.gcd c r=Int.gcd a b) (λσ _=>match σ with | [_,some (.int r)]=>r.natAbs | _=>0) ⟨a,b,rfl,rfl,rfl⟩ ?_ ?_
 ·rintro σ H' ⟨c,r,rfl,rfl,hg⟩
  refine ⟨_,rfl,rfl,_,rfl,?_⟩
  by_cases z0:r=0
  ·subst z0
   refine XN rfl ?_
   refine ⟨_,rfl,c,rfl,?_⟩
   rw [zO7]
   rw [Int.gcd_zero_right] at hg
   rw [hg]
   exact q
  ·have ne:¬ (V.int r=V.int 0):=λe=>z0 (by injection e)
   refine xo (g6 z0) ?_
   refine ⟨_,rfl,_,rfl,_,rfl,_,_,rfl,rfl,z0,_,_,rfl,?_⟩
   exact ⟨⟨r,c.fmod r,rfl,rfl,by rw [Jv]; exact hg⟩,zLq z0⟩
 ·rintro σ H' Q1 Q2 h ⟨v,e,sc,k,ek,q1⟩
  exact ⟨v,e,sc,k,ek,h _ _ q1⟩
theorem zIX {k:Nat} {f:Addr} {fd:FuncData} (F:yb K "_law_lowest" "_law_lowest" UZ f fd) (B:Bl mg) (bN:Fn P w K mg base "_law_divisor" ["_law_one","_law_other"] k Xy):zU P w K mg base yG (k + 1) f fd ["_law_top","_law_bottom"] gF:=by
 refine F.ok Kg ?_ ?_
 ·rintro vs H Q E ⟨t,b,rfl,_⟩
  rfl
 rintro cdv A outer s H vs Q E hr ⟨t,b,rfl,b0,bb,q⟩
 refine ⟨_,(zW (zy (i:=2) Kg.nd rfl (Or.inl rfl) (zk bN hr rfl (zD (zC 0) (zD (zC 1) zI))))
  (zY (yH (xy (zD (zV (ji v8) (zC 0) (zC 2)) (zD (zV (ji v8) (zC 1) (zC 2)) zI)))))),?_⟩
 try dsimp only [zP,Cx.nox,Cx.wish]
 refine ⟨_,rfl,_,rfl,_,_,rfl,?_⟩
 have nb:b≠0:=by omega
 have ec:(Int.gcd t b:Int)=cm t b:=(ZS b0).symm
 rw [ec]
 refine ⟨_,rfl,_,rfl,_,_,rfl,rfl,⟨XQ nb,Xx bb nb⟩,_,rfl,_,rfl,_,_,rfl,rfl,⟨XQ nb,Xx bb nb⟩,wf,λr hr'=>?_⟩
 exact q r _ (zx hr' _) zj
theorem zLH {k:Nat} {f:Addr} {fd:FuncData} (F:yb K "_law_plus" "_law_plus" Ua f fd) (B:Bl mg) (aw:Fn P w K mg base "_law_lowest" ["_law_top","_law_bottom"] k gF):zU P w K mg base yG (k + 1) f fd ["_law_one","_law_other"] YY:=by
 refine F.ok zKy ?_ ?_
 ·rintro vs H Q E ⟨p,q,a,b,c,d,A,B,C,D,X,rfl,_⟩
  rfl
 rintro cdv A outer s H vs Q E hr ⟨p,q,a,b,c,d,A,B,C,D,X,rfl,ep,eq,b0,d0,ba,bb,bc,bd,x1,x2,sA,sC,sz,qq⟩
 refine ⟨_,(zY (yH (zk aw hr rfl (zD (zV (yU yz) (zV (ji yy) (zh yc (zC 0) zK (λ_ _=>rfl)) (zh yc (zC 1) zK (λ_ _=>rfl))) (zV (ji yy) (zh yc (zC 1) zK (λ_ _=>rfl)) (zh yc (zC 0) zK (λ_ _=>rfl)))) (zD (zV (ji yy) (zh yc (zC 0) zK (λ_ _=>rfl)) (zh yc (zC 1) zK (λ_ _=>rfl))) zI))))),?_⟩
 try dsimp only [zP,Cx.nox,Cx.wish]
 have bt:Bd X (a * d + c * b):=((((ba.mul bd).mono (m:=X - 1) (by omega)).add ((bc.mul bb).mono (by omega)))).mono (by omega)
 have bs:Bd (B + D) (b * d):=bb.mul bd
 refine ⟨_,rfl,p,_,0,_,rfl,rfl,zT.of ep,vm,_,rfl,q,_,1,_,rfl,rfl,zT.of eq,w4,_,_,rfl,rfl,⟨ba.mono (by omega),bd.mono (by omega)⟩,_,rfl,q,_,0,_,rfl,rfl,zT.of eq,vm,_,rfl,p,_,1,_,rfl,rfl,zT.of ep,w4,_,_,rfl,rfl,⟨bc.mono (by omega),bb.mono (by omega)⟩,_,_,rfl,rfl,_,rfl,p,_,1,_,rfl,rfl,zT.of ep,w4,_,rfl,q,_,1,_,rfl,rfl,zT.of eq,w4,_,_,rfl,rfl,⟨bb.mono (by omega),bd.mono (by omega)⟩,_,_,rfl,Int.mul_pos b0 d0,bs.mono (by omega),λr H1 s1 e1=>?_⟩
 obtain ⟨l0,lv⟩:=k8 (t:=a * d + c * b) (Int.mul_pos b0 d0)
 exact qq r _ _ H1 s1 e1 l0 (lv.trans (zNP b0 d0)) (jy bt) (jH bs)
theorem zKB {k:Nat} {f:Addr} {fd:FuncData} (F:yb K "_law_along" "_law_along" Ub f fd) (B:Bl mg) (aD:Fn P w K mg base "_law_plus" ["_law_one","_law_other"] k YY):zU P w K mg base yG (k + 1) f fd ["_law_numbers","_law_values"] (YZ K):=by
 refine F.ok k9 ?_ ?_
 ·rintro vs H Q E ⟨na,pa,ws,pv,pts,cc,e,TT,rfl,_⟩
  rfl
 rintro cdv A outer s H vs Q E hr ⟨na,pa,ws,pv,pts,cc,e,TT,rfl,hna,hpa,hpt,GW,q⟩
 refine ⟨_,(zW (zy (i:=2) k9.nd rfl (Or.inl rfl) (xy (zD zK (zD zK zI))))
  (zW (wI PassesOwn.never rfl (qQ rfl B.zip_ (zD (zC 0) (zD (zC 1) zI))) (vb rfl (yp (zr (i:=3) k9.nd rfl (Or.inl rfl)) (yp (zr (i:=4) k9.nd rfl (Or.inl rfl)) va))) (zY (zy (i:=2) k9.nd rfl (Or.inl rfl) (zk aD hr rfl (zD (zC 2) (zD (xy (zD (zV (ji yy) (zC 3) (zh yc (zC 4) zK (λ_ _=>rfl))) (zD (zh yc (zC 4) zK (λ_ _=>rfl)) zI))) zI))))))
  (zY (yH (zC 2))))),?_⟩
 try dsimp only [zP,Cx.nox,Cx.wish]
 have lp:pv.length=pts.length:=Paired.length hpt
 have n3:=GW.n3
 have hlen:(ws.map V.int).length<=pv.length:=by rw [List.length_map,GW.len,lp]; exact Nat.le_refl _
 refine ⟨wf,λf0 hf0=>?_⟩
 obtain ⟨J,hh0,y0,ef0⟩:=zw (HO.tup [V.int 0,V.int 1]) hf0
 rw [hh0]
 refine ⟨_,rfl,_,rfl,na,pa,rfl,Xw (xs:=ws.map V.int) (ys:=pv) (zML y0 hna) (y0.seq hpa)
  (λi σ H2=>∃ (fr:Addr) (t s:Int) (n1 p1:Option V),σ=[some (.ref na),some (.ref pa),some (.ref fr),n1,p1]/\zG J H2/\H2 fr=some (.tup [.int t,.int s])/\0 < s/\zZ (t,s)=zi i (λj=>(ws.getD j 0:Rat) * yZ pts j)/\Bd (TT i) t/\Bd (ww e i + 1) s)
  ⟨f0,0,1,none,none,rfl,zG.refl _,ef0,by decide,zNN,j0 _,(show Bd 1 1 from Bd.lit)⟩ (λi σ H2 _ ⟨_,_,_,_,_,_,sm,_⟩=>sm) hlen ?_ ?_⟩
 ·rintro i x y T σ H2 hx hy hT ⟨fr,t,s,n1,p1,rfl,sm,ef,s0,ev,bt,bs⟩
  obtain ⟨wv,hw,rfl⟩:=vn hx
  obtain ⟨pr,hpr,r,rfl,er⟩:=xU hpt hy
  obtain ⟨z1,z2,z3,zc,z4⟩:=GW.ok i wv pr hw hpr
  have hil:i < pts.length:=(List.getElem?_eq_some_iff.mp hpr).1
  obtain ⟨M,hhT,zn,eT⟩:=zw (HO.tup [V.int wv,V.ref r]) hT
  rw [hhT]
  have er2:=(y0.trans (sm.trans zn)) _ _ er
  obtain ⟨st1,st2⟩:=GW.st i hil
  obtain ⟨q1,q2,q3⟩:=GW.sz i (by omega)
  have q4:=(GW.sz (i + 1) (by omega)).2.1
  have em:ww e (i + 1)=ww e i + e i:=rfl
  refine ⟨T,_,rfl,zT.of eT,rfl,_,_,rfl,_,_,rfl,rfl,?_⟩
  refine ⟨_,rfl,_,rfl,_,rfl,r,_,0,_,rfl,rfl,zT.of er2,vm,_,_,rfl,rfl,⟨z2.mono,z3.mono⟩,_,rfl,r,_,1,_,rfl,rfl,zT.of er2,w4,wf,λg hg=>?_⟩
  have zg:=zx hg (HO.tup [V.int (wv * pr.1),V.int pr.2])
  refine ⟨fr,g,t,s,wv * pr.1,pr.2,TT i,ww e i + 1,cc i,e i,TT (i + 1),rfl,zg _ _ (zn _ _ ef),zj,s0,z1,bt,bs,zc,z4,by omega,by omega,by omega,by omega,by omega,λr2 t' s' H3 s3 e3 s0' ev' bt' bs'=>?_⟩
  refine ⟨r2,t',s',_,_,rfl,sm.trans (zn.trans (zg.trans s3)),e3,s0',?_,bt',bs'.mono (by omega)⟩
  rw [ev',ev,zKa z1]
  show _=zi i (λj=>(ws.getD j 0:Rat) * yZ pts j) + (ws.getD i 0:Rat) * yZ pts i
  unfold yZ
  rw [kz hw,kz hpr]
 ·rintro σ H2 ⟨fr,t,s,n1,p1,rfl,sm,ef,s0,ev,bt,bs⟩
  rw [List.length_map,GW.len] at ev bt bs
  refine ⟨_,rfl,q fr t s H2 (y0.trans sm) ef s0 ?_ bt bs⟩
  unfold yO
  rw [GW.len]
  exact ev
theorem zKA {k:Nat} {f:Addr} {fd:FuncData} (F:yb K "_law_holds" "_law_holds" Uc f fd) (B:Bl mg) (aA:Fn P w K mg base "_law_along" ["_law_numbers","_law_values"] k (YZ K)):zU P w K mg base yG (k + 1) f fd ["_law_row","_law_point_here"] (gM K):=by
 refine F.ok Kh ?_ ?_
 ·rintro vs H Q E ⟨ra,pa,ws,b,pv,pts,w,a,e,d,rfl,_⟩
  rfl
 rintro cdv A outer s H vs Q E hr ⟨ra,pa,ws,b,pv,pts,w,a,e,d,rfl,hra,hpa,hpt,GW,bb,q⟩
 refine ⟨_,(zW (zy (i:=2) Kh.nd rfl (Or.inl rfl) (zk aA hr rfl (zD (vO uA (zC 0) v7 (vD (xD xE zK))) (zD (zC 1) zI))))
  (zY (yH (uP (yU Y4) (zh yc (zC 2) zK (λ_ _=>rfl)) (zV (ji yy) (zh yc (zC 0) (xD xE zK) (λ_ _=>rfl)) (zh yc (zC 2) zK (λ_ _=>rfl))) (yu _))))),?_⟩
 try dsimp only [zP,Cx.nox,Cx.wish]
 refine ⟨_,rfl,_,rfl,_,rfl,ra,_,rfl,zT.of hra,jD _ _,λp hp=>?_⟩
 have ec:yY (zo ws b) none (some (-1))=ws.map V.int:=qL _ _
 rw [ec]
 have s1:=zx hp (HO.tup (ws.map V.int))
 have sz:=GW.sz
 refine ⟨_,rfl,p,pa,ws,pv,pts,_,_,_,rfl,.inl (zT.of zj),s1.seq hpa,hpt.same s1,GW.ga,λr1 t s H1 s2 e1 s0 ev bt bs=>?_⟩
 rw [gP] at bs
 have nd:=GW.nd
 refine ⟨_,rfl,r1,_,0,_,rfl,rfl,zT.of e1,vm,_,rfl,_,rfl,ra,_,_,_,rfl,rfl,zT.of (s2 _ _ (s1 _ _ hra)),ue _ _,_,rfl,r1,_,1,_,rfl,rfl,zT.of e1,w4,_,_,rfl,rfl,⟨bb.mono,bs.mono (by omega)⟩,_,_,rfl,rfl,?_⟩
 exact q _ H1 (s1.trans s2) (zKc s0 ev)
theorem zLL {k:Nat} {f:Addr} {fd:FuncData} (F:yb K "_law_lies" "_law_lies" Yb f fd) (B:Bl mg) (bO:Fn P w K mg base "_law_holds" ["_law_row","_law_point_here"] k (gM K)):zU P w K mg base yG (k + 1) f fd ["_law_room","_law_point_here"] (gN K):=by
 refine F.ok zKz ?_ ?_
 ·rintro vs H Q E ⟨rm,pa,rv,pv,rows,pts,n,w,a,e,d,rfl,_⟩
  rfl
 rintro cdv A outer s H vs Q E hr ⟨rm,pa,rv,pv,rows,pts,n,w,a,e,d,rfl,hrm,hrv,hpa,hpt,W,r9,lp,n3,PO,nd,sz,q⟩
 refine ⟨_,(zY (yH (ym (jq rfl) rfl B.all_ jr (zD (xu (own:=["_law_row"]) (caps:=[(1,"_law_point_here")]) (wD (S:=ze Yb) (N:=["_law_room","_law_point_here"]) ⟨_,rfl⟩) rfl (xr (zC 0)) (λ_ _ _ _=>zr (i:=0) (show (["_law_row","_law_point_here"]:List Str).Nodup by decide +kernel) rfl (Or.inl rfl)) (λ_ _ _ _=>(zk bO hr rfl (zD (zC 0) (zD (zC 1) zI))))) zI)))),?_⟩
 try dsimp only [zP,Cx.nox,Cx.wish]
 have lrv:=Paired.length hrv
 refine ⟨_,rfl,rm,rfl,⟨_,hrm⟩,vR (K:=K) (a:=rm) (xs:=rv) (λi ys σ H'=>∃ bs:List Bool,ys=bs.map V.bl/\bs.length=i/\(bs.all id=true ↔ ∀ r∈rows.take i,xM r (yZ pts))/\(∃ o,σ=[o,some (.ref pa)])/\zG H H')
  ⟨[],rfl,rfl,⟨(λ_ r hr=>by cases hr),λ_=>rfl⟩,⟨none,rfl⟩,zG.refl _⟩ (λi ys σ H' hi ⟨bs,e1,l1,_,_,s1⟩=>⟨s1.seq hrm,by rw [e1,List.length_map]; omega⟩) (yd (by omega)) ?_ ?_⟩
 ·rintro i x ys σ H' hi ⟨bs,rfl,lb,hb,⟨o,rfl⟩,s1⟩
  obtain ⟨r,hr',a9,rfl,ea⟩:=xU hrv hi
  obtain ⟨w1,w2,w3⟩:=W r (List.mem_of_getElem? hr')
  refine ⟨_,rfl,_,rfl,a9,pa,r.1,r.2,pv,pts,w,a,e,d,rfl,s1 _ _ ea,s1.seq hpa,hpt.same s1,⟨w1.trans lp.symm,by omega,w2,PO,nd,sz⟩,w3,λy H2 s2 hy=>?_⟩
  refine ⟨bs++[y],(by rw [List.map_append]; rfl),(by rw [List.length_append,lb]; rfl),?_,⟨_,rfl⟩,s1.trans s2⟩
  rw [List.all_append,Bool.and_eq_true,hb,xH hr']
  constructor
  ·rintro ⟨z1,z2⟩ r' hr2
   rcases List.mem_append.mp hr2 with hr2 | hr2
   ·exact z1 r' hr2
   ·rw [List.mem_singleton.mp hr2]
    refine hy.mp ?_
    cases y with
    | true=>rfl
    | false=>cases z2
  ·intro z
   refine ⟨λr' hr2=>z r' (List.mem_append_left _ hr2),?_⟩
   have:=hy.mpr (z r (List.mem_append_right _ List.mem_cons_self))
   rw [this]
   rfl
 rintro ys σ H' ⟨bs,rfl,lb,hb,⟨o,rfl⟩,s1⟩ l hl
 rw [List.take_of_length_le (by omega)] at hb
 exact ⟨l,bs,rfl,zJ.of zj,q _ _ (s1.trans (zx hl _)) hb⟩
end
theorem zO6 {xs:List Int} {k:Nat} (h:xs.length=k + 1):yk (xs.map V.int) (-1)=some (.int (xs.getD k 0)):=by
 have hk:xs[k]? = some (xs.getD k 0):=by rw [List.getD_eq_getElem?_getD,List.getElem?_eq_getElem (show k < xs.length by omega)]; rfl
 have e:xs.map V.int=(xs.take k).map V.int++[V.int (xs.getD k 0)]:=by
  rw [<- List.map_singleton,<- List.map_append,<- xH hk,List.take_of_length_le (by omega)]
 rw [e]
 exact ue _ _
theorem zOK {t b c:Int} (hb:0 < b):t<=c * b ↔ zZ (t,b)<=(c:Rat):=by
 have d:=vG hb
 have e:=uk (p:=(t,b)) hb
 dsimp only at e
 constructor
 ·intro z
  have z':(t:Rat)<=((c * b:Int):Rat):=by exact_mod_cast z
  rw [Rat.intCast_mul,<- e] at z'
  exact Rat.le_of_mul_le_mul_right z' d
 ·intro z
  have z':=Rat.mul_le_mul_of_nonneg_right z (Rat.le_of_lt d)
  rw [e,<- Rat.intCast_mul] at z'
  exact_mod_cast z'
theorem zOq {t b c:Int} (hb:0 < b):c * b<=t ↔ (c:Rat)<=zZ (t,b):=by
 have d:=vG hb
 have e:=uk (p:=(t,b)) hb
 dsimp only at e
 constructor
 ·intro z
  have z':((c * b:Int):Rat)<=(t:Rat):=by exact_mod_cast z
  rw [Rat.intCast_mul,<- e] at z'
  exact Rat.le_of_mul_le_mul_right z' d
 ·intro z
  have z':=Rat.mul_le_mul_of_nonneg_right z (Rat.le_of_lt d)
  rw [e,<- Rat.intCast_mul] at z'
  exact_mod_cast z'
theorem zN9 {L U P s:Int} (P0:0 < P) (s0:0<=s) (s1:s<=P) (h:L<=U):(L:Rat)<=zZ (L * (P - s) + U * s,P)/\zZ (L * (P - s) + U * s,P)<=(U:Rat):=by
 have h1:=Int.mul_le_mul_of_nonneg_right h s0
 have h2:=Int.mul_le_mul_of_nonneg_right h (show 0<=P - s by omega)
 have e1:L * (P - s) + L * s=L * P:=by grind
 have e2:U * (P - s) + U * s=U * P:=by grind
 exact ⟨(zOq P0).mp (by omega),(zOK P0).mp (by omega)⟩
theorem zOf {P x g:Int} (P0:0 < P) (g0:0<=g) (g3:g < 3):∃ s:Int,yk [V.int 0,V.int P,V.int (x.fmod (P + 1))] g=some (.int s)/\0<=s/\s<=P:=by
 have h1:=Int.fmod_nonneg_of_pos x (show 0 < P + 1 by omega)
 have h2:=Int.fmod_lt_of_pos x (show 0 < P + 1 by omega)
 rcases (show g=0\/g=1\/g=2 by omega) with e | e | e
 ·exact ⟨0,by rw [e]; rfl,by omega,by omega⟩
 ·exact ⟨P,by rw [e]; rfl,by omega,by omega⟩
 ·exact ⟨x.fmod (P + 1),by rw [e]; rfl,by omega,by omega⟩
def vx (pts:List (Int × Int)) (a e:Nat):Prop:=∀ p∈pts,0 < p.2/\Bd a p.1/\Bd e p.2
theorem Ki {pts:List (Int × Int)} {j:Nat} {p:Int × Int} (h:pts[j]? = some p):yZ pts j=zZ p:=by
 unfold yZ
 rw [kz h]
theorem Ud {pts:List (Int × Int)} {p:Int × Int} {j:Nat} (h:j < pts.length):yZ (pts++[p]) j=yZ pts j:=by
 unfold yZ
 rw [List.getD_eq_getElem?_getD,List.getElem?_append_left h,List.getD_eq_getElem?_getD]
theorem Ue {pts:List (Int × Int)} {p:Int × Int} {j:Nat} (h:pts.length=j):yZ (pts++[p]) j=zZ p:=Ki (by rw [<- h]; simp)
inductive Uf (vs:List V) (H:Hp) (Q:VK) (E:XK):Prop
 | mk (c:Int) (ba:Addr) (bv:List V) (bs:List (Int × Int)) (_:vs=[.int c,.ref ba]) (_:H ba=some (.lst bv)) (_:Paired (wq H) bv bs) (_:bs.length<=2) (_:(∀ b∈bs,b.1<=b.2/\Bd 106 b.1/\Bd 106 b.2)) (_:∀ l pv pts H',zG H H'->H' l=some (.lst pv)->yX H' pv pts->pts.length=bs.length->vx pts 110 3->(∀ j b,bs[j]? = some b->(b.1:Rat)<=yZ pts j/\yZ pts j<=(b.2:Rat))->Q (.ref l) H'):Uf vs H Q E
section
variable {P:Program} {w:World} {K:PySem.W.Frag} {mg:Str->Option Value} {base:Heap} {cM cP:Addr}
abbrev Ug:Stmt:=yh 71
theorem j3:ya ["_law_cell","_law_box_here","_law_xs","_law_parts","_law_point_here","_law_k","_law_low","_law_high","_law_share"] ["_law_cell","_law_box_here"] (ze Ug):=.a
variable {ac af:Addr} (ae:yJ K mg "Mode" ac) (ag:wr K ac) (ah:yJ K mg "Thing" af) (ai:wt K af)
include ae ag ah ai
theorem zJ9 {k:Nat} {f:Addr} {fd:FuncData} (F:yb K "_law_point" "_law_point" Ug f fd) (B:Bl mg) (aq:Fn P w K mg base "_law_stream" ["_law_cell","_law_many"] k jv) (aw:Fn P w K mg base "_law_lowest" ["_law_top","_law_bottom"] k gF):zU P w K mg base yG (k + 1) f fd ["_law_cell","_law_box_here"] Uf:=by
 refine F.ok j3 ?_ ?_
 ·rintro vs H Q E ⟨c,ba,bv,bs,rfl,_⟩
  rfl
 rintro cdv A outer s H vs Q E hr ⟨c,ba,bv,bs,rfl,hba,hbv,b2,OB,q⟩
 refine ⟨_,(zW (zy (i:=2) j3.nd rfl (Or.inl rfl) (zk aq hr rfl (zD (zC 0) (zD (zV (yU yz) (ym yw rfl B.len_ wZ (zD (zC 1) zI)) zK) zI))))
  (zW (zy (i:=3) j3.nd rfl (Or.inl rfl) (zV (yU yz) zK (zV (ji wA) (zh yi (zC 2) (xD xE zK) (λ_ _=>rfl)) zK)))
  (zW (zy (i:=4) j3.nd rfl (Or.inl rfl) (xF zI))
  (zW (wI PassesOwn.never rfl (wX rfl B.range_ (zD (ym yw rfl B.len_ wZ (zD (zC 1) zI)) zI)) (zr (i:=5) j3.nd rfl (Or.inl rfl)) (zW (qp (zh yi (zC 1) (zC 5) (λ_ _=>rfl)) (vb rfl (yp (zr (i:=6) j3.nd rfl (Or.inl rfl)) (yp (zr (i:=7) j3.nd rfl (Or.inl rfl)) va))))
   (zW (zy (i:=8) j3.nd rfl (Or.inl rfl) (zh yi (xF (zD zK (zD (zC 3) (zD (zV (ji wA) (zh yi (zC 2) (zC 5) (λ_ _=>rfl)) (zV (yU yz) (zC 3) zK)) zI)))) (zV (ji wA) (zV (ji v8) (zh yi (zC 2) (zC 5) (λ_ _=>rfl)) zK) zK) (λ_ _=>rfl)))
   (zY (vB (vI PySem.F.plainAttrs_list PySem.F.slot_list_append PySem.F.type_list_append xP (zC 4) (zD (zk aw hr rfl (zD (zV (yU yz) (zV (ji yy) (zC 6) (zV (yU wz) (zC 3) (zC 8))) (zV (ji yy) (zC 7) (zC 8))) (zD (zC 3) zI))) zI)))))))
  (zY (yH (zC 4))))))),?_⟩
 try dsimp only [zP,Cx.nox,Cx.wish]
 have lbv:=Paired.length hbv
 refine ⟨_,rfl,_,rfl,ba,_,rfl,.inl (zJ.of hba),_,_,rfl,rfl,_,((bv.length:Int) + 1),rfl,(by omega),(by omega),λxa J1 xs y1 _ ex lx bx0=>?_⟩
 have lx1:xs.length=bv.length + 1:=by omega
 have px:∀ k,0<=xs.getD k 0:=λk=>by
  rw [List.getD_eq_getElem?_getD]
  cases e:xs[k]? with
  | none=>exact Int.le_refl 0
  | some x=>exact (bx0 x (List.mem_of_getElem? e)).1
 have bx:∀ k,Bd 150 (xs.getD k 0):=λk=>jL (λx hx=>uY (bx0 x hx)) k
 have d0:=Int.fmod_nonneg_of_pos (xs.getD bv.length 0) (show (0:Int) < 4 by decide)
 have d4:=Int.fmod_lt_of_pos (xs.getD bv.length 0) (show (0:Int) < 4 by decide)
 have P0:0 < (1 + (xs.getD bv.length 0).fmod 4):=by omega
 have bP:Bd 3 (1 + (xs.getD bv.length 0).fmod 4):=wg (f:=4) Bd.lit (by omega) (by omega)
 refine ⟨_,rfl,_,rfl,xa,_,_,_,rfl,rfl,zJ.of ex,zO6 lx1,_,_,rfl,rfl,(show (4:Int)≠0 by decide),_,_,rfl,rfl,?_⟩
 refine ⟨vL,λpl hpl=>?_⟩
 obtain ⟨J2,hhJ2,y2,epl⟩:=zw (HO.lst ([]:List V)) hpl
 rw [hhJ2]
 have s3:=ug hpl y2
 have hba1:=y1 _ _ hba
 have hbv1:=xZ y1 hbv
 refine ⟨_,rfl,ba,_,rfl,.inl (zJ.of (y2 _ _ hba1)),_,rfl,(by omega),(by omega),uO (lo:=0) (n:=((bv.length:Nat):Int).toNat)
  (λi σ H'=>∃ (pv:List V) (pts:List (Int × Int)) (o5 o6 o7 o8:Option V),σ=[some (.int c),some (.ref ba),some (.ref xa),some (.int (1 + (xs.getD bv.length 0).fmod 4)),some (.ref pl),o5,o6,o7,o8]/\zG J1 (hide [pl] H')/\H' pl=some (.lst pv)/\yX (hide [pl] H') pv pts/\pts.length=i/\vx pts 110 3/\(∀ j b,j < i->bs[j]? = some b->(b.1:Rat)<=yZ pts j/\yZ pts j<=(b.2:Rat)))
  ⟨[],[],none,none,none,none,rfl,s3,epl,.nil,rfl,(λp hp=>by cases hp),λj b hj=>absurd hj (Nat.not_lt_zero j)⟩ ?_ ?_⟩
 ·rintro i σ L0 hi ⟨pv,pts,o5,o6,o7,o8,rfl,sm,epl,hpv,lp,PO,IB⟩
  have sj:=sm.trans yx
  have exL:=sj _ _ ex
  have i2:i < bv.length:=by omega
  obtain ⟨xv,hxv⟩:∃ x,bv[i]? = some x:=⟨_,List.getElem?_eq_getElem i2⟩
  obtain ⟨bb,hbb,p,rfl,ep⟩:=xU hbv1 hxv
  obtain ⟨le,B1,B2⟩:=OB bb (List.mem_of_getElem? hbb)
  have lpv:=Paired.length hpv
  refine ⟨_,rfl,_,rfl,ba,_,_,_,rfl,rfl,zJ.of (sj _ _ hba1),UJ hxv,p,_,rfl,zT.of (sj _ _ ep),rfl,_,_,rfl,_,_,rfl,rfl,?_⟩
  obtain ⟨s,es,s0,s1⟩:=zOf (x:=xs.getD i 0) P0 (Int.fmod_nonneg_of_pos ((xs.getD i 0).fdiv 8) (show (0:Int) < 3 by decide)) (Int.fmod_lt_of_pos ((xs.getD i 0).fdiv 8) (show (0:Int) < 3 by decide))
  refine ⟨_,rfl,_,rfl,_,rfl,xa,_,_,_,rfl,rfl,zJ.of exL,x8 (xs:=xs) (k:=i) (by omega) (by omega),_,rfl,_,_,rfl,rfl,_,_,rfl,rfl,(show (1 + (xs.getD bv.length 0).fmod 4) + 1≠0 by omega),Z5,λl3 hl3=>?_⟩
  obtain ⟨M,hhM,zl,el3⟩:=zw (HO.lst [V.int 0,V.int (1 + (xs.getD bv.length 0).fmod 4),V.int ((xs.getD i 0).fmod ((1 + (xs.getD bv.length 0).fmod 4) + 1))]) hl3
  rw [hhM]
  refine ⟨_,rfl,_,rfl,xa,_,_,_,rfl,rfl,zJ.of (zl _ _ exL),x8 (xs:=xs) (k:=i) (by omega) (by omega),_,_,rfl,rfl,⟨(show (8:Int)≠0 by decide),(Bd.lit (i:=8) (n:=4)).mono⟩,_,_,rfl,rfl,(show (3:Int)≠0 by decide),l3,_,_,_,rfl,rfl,zJ.of el3,es,?_⟩
  have bs3:Bd 3 s:=wg (f:=4) Bd.lit (by omega) (by omega)
  have bs4:Bd 3 ((1 + (xs.getD bv.length 0).fmod 4) - s):=wg (f:=4) Bd.lit (by omega) (by omega)
  refine ⟨_,rfl,.inl ⟨rfl,_,zJ.of (zl _ _ epl)⟩,_,rfl,_,rfl,_,rfl,_,_,rfl,rfl,_,_,rfl,rfl,⟨B1.mono,bs4.mono⟩,_,rfl,_,rfl,_,_,rfl,rfl,⟨B2.mono,bs3.mono⟩,_,_,rfl,rfl,_,rfl,_,_,rfl,P0,bP.mono,λr H1 s2 e1=>?_⟩
  have bt:Bd 110 (bb.1 * ((1 + (xs.getD bv.length 0).fmod 4) - s) + bb.2 * s):=(B1.mul bs4).add (B2.mul bs3)
  obtain ⟨l0,lv⟩:=k8 (t:=bb.1 * ((1 + (xs.getD bv.length 0).fmod 4) - s) + bb.2 * s) P0
  have btw:=zN9 P0 s0 s1 le
  rw [<- lv] at btw
  have zz:=zl.trans s2
  have epl2:=zz _ _ epl
  refine ⟨pl,pv,_,rfl,rfl,epl2,wY (by omega),?_⟩
  have h5:=w6 (x:=pl) (H:=H1) (HO.lst (pv++[V.ref r]))
  have h4:=(wC (B:=[pl]) zz).trans h5
  refine ⟨pv++[V.ref r],pts++[(yg (bb.1 * ((1 + (xs.getD bv.length 0).fmod 4) - s) + bb.2 * s) (1 + (xs.getD bv.length 0).fmod 4),yK (bb.1 * ((1 + (xs.getD bv.length 0).fmod 4) - s) + bb.2 * s) (1 + (xs.getD bv.length 0).fmod 4))],_,_,_,_,rfl,sm.trans h4,zj,?_,(by rw [List.length_append,lp]; rfl),vX PO ⟨l0,jy bt,jH bP⟩,λj b hj hb=>?_⟩
  ·exact xg (R:=vp _) (y:=(yg (bb.1 * ((1 + (xs.getD bv.length 0).fmod 4) - s) + bb.2 * s) (1 + (xs.getD bv.length 0).fmod 4),yK (bb.1 * ((1 + (xs.getD bv.length 0).fmod 4) - s) + bb.2 * s) (1 + (xs.getD bv.length 0).fmod 4))) ⟨r,rfl,h5 _ _ (jM epl2 e1)⟩ (yX.same h4 hpv)
  by_cases cj:j=i
  ·rw [cj] at hb
   rw [hbb] at hb
   cases hb
   rw [Ue (lp.trans cj.symm)]
   exact btw
  ·rw [Ud (by omega)]
   exact IB j b (by omega) hb
 rintro σ L0 ⟨pv,pts,o5,o6,o7,o8,rfl,sm,epl,hpv,lp,PO,IB⟩
 refine ⟨_,rfl,q pl pv pts L0 (y1.trans (sm.trans yx)) epl (yX.same yx hpv) (by omega) PO λj b hb=>IB j b ?_ hb⟩
 have:=(List.getElem?_eq_some_iff.mp hb).1
 omega
end
theorem Yc {H:Hp} {tv:List V} {T:List (List Int)} {i:Nat} (h:zX H tv T) (hi:i < T.length):∃ a,yk tv (i:Int)=some (.ref a)/\H a=some (.lst ((T.getD i []).map V.int))/\T.getD i []∈T:=by
 have l:tv.length=T.length:=Paired.length h
 have hv:tv[i]? = some (tv[i]'(by omega)):=List.getElem?_eq_getElem _
 obtain ⟨r,hr,a,e1,ea⟩:=xU h hv
 have e:T.getD i []=r:=by rw [List.getD_eq_getElem?_getD,hr]; rfl
 rw [e]
 exact ⟨a,um (hv.trans (by rw [e1])),ea,List.mem_of_getElem? hr⟩
theorem zNO {t s c:Int} (hs:0 < s) (hc:0 < c):zZ (t,s * c)=zZ (t,s) / (c:Rat):=by
 have d:=vG hc
 have ne:(c:Rat)≠0:=λz=>by rw [z] at d; exact absurd d Rat.lt_irrefl
 have e:=uk (p:=(t,s)) hs
 dsimp only at e
 refine jN (Int.mul_pos hs hc) ?_
 show (t:Rat)=_ * ((s * c:Int):Rat)
 rw [Rat.intCast_mul,<- e,Rat.div_def]
 have i:=Rat.mul_inv_cancel _ ne
 grind
theorem zN4 (x y:Int) (q:Nat->Rat):yO [x,y] q=(x:Rat) * q 0 + (y:Rat) * q 1:=by
 show (0:Rat) + (x:Rat) * q 0 + (y:Rat) * q 1=_
 rw [Rat.zero_add]
theorem zOL {x y t b:Int} {A B:Nat} (hx:Bd 2 x) (hy:Bd 102 y) (b0:0 < b) (bt:Bd A t) (bb:Bd B b) (sB:B + 110<=A) (sA:A<=7000):GA [x,y] [(t,b),(1,1)] (λj=>if j=0 then 2 + A else 103) (λj=>if j=0 then B else 1) (λj=>if j=0 then 0 else if j=1 then A + 4 else A + 6):=by
 refine ⟨rfl,(show 2<=6 by decide),λj wv p hw hp=>?_,λj hj=>?_,λj hj=>?_⟩
 ·match j,hw,hp with
  | 0,hw,hp=>
   cases hw
   cases hp
   exact ⟨b0,hx.mono,bt.mono (by omega),hx.mul bt,bb⟩
  | 1,hw,hp=>
   cases hw
   cases hp
   exact ⟨by decide,hy.mono,Bd.mono (i:=1) (n:=1) Bd.lit (by decide),hy.mul (Bd.lit (i:=1) (n:=1)),(show Bd 1 1 from Bd.lit)⟩
  | j + 2,hw,_=>cases hw
 ·have hj':j < 2:=hj
  rcases (show j=0\/j=1 by omega) with rfl | rfl
  ·exact ⟨by show 0 + B < A + 4; omega,by show 2 + A + (0 + 1) < A + 4; omega⟩
  ·exact ⟨by show A + 4 + 1 < A + 6; omega,by show 103 + (0 + B + 1) < A + 6; omega⟩
 ·have hj':j<=2:=hj
  rcases (show j=0\/j=1\/j=2 by omega) with rfl | rfl | rfl
  ·exact ⟨by show 0<=7500; omega,by show 0<=7500; omega,by show 2 + A<=7500; omega⟩
  ·exact ⟨by show A + 4<=7500; omega,by show 0 + B<=7500; omega,by show 103<=7500; omega⟩
  ·exact ⟨by show A + 6<=7500; omega,by show 0 + B + 1<=7500; omega,by show 103<=7500; omega⟩
inductive Yd (K:PySem.W.Frag) (vs:List V) (H:Hp) (Q:VK) (E:XK):Prop
 | mk (tt pa sr da:Addr) (n a e d A B X:Nat) (bs:List (Int × Int)) (m:MD) (lo hi t b:Int) (zH:List (List Int × Int)) (qv dv:List V) (pts vts:List (Int × Int)) (_:vs=[.ref tt,.ref pa,.ref sr,.ref da]) (_:xw H (.ref tt) m) (_:wO m n bs.length) (_:wu n bs m lo hi zH) (_:H pa=some (.lst qv)) (_:yX H qv pts) (_:pts.length=n) (_:vx pts a e) (_:e * n<=d) (_:H sr=some (.tup [.int t,.int b])) (_:0 < b) (_:Bd A t) (_:Bd B b) (_:H da=some (.lst dv)) (_:yX H dv vts) (_:vts.length=bs.length) (_:vx vts 106 3) (_:B + 110<=A) (_:A<=7000) (_:a + d + B + 140<=7000) (_:a + d + B + 123 < X) (_:A + d + 14 < X) (_:∀ l pv' pts' H',zG H H'->H' l=some (.lst pv')->yX H' pv' pts'->pts'.length=n->vx pts' X (d + B + 13)->(∀ i,i < n->yZ pts' i=vv n bs.length m (yZ pts) (yZ vts) (zZ (t,b)) i)->Q (.ref l) H'):Yd K vs H Q E
section
variable {P:Program} {w:World} {K:PySem.W.Frag} {mg:Str->Option Value} {base:Heap} {cM cP:Addr}
abbrev qk:Stmt:=yh 72
theorem uz:ya gG Z8 (ze qk):=.a
variable {ac af:Addr} (ae:yJ K mg "Mode" ac) (ag:wr K ac) (ah:yJ K mg "Thing" af) (ai:wt K af)
include ae ag ah ai
theorem zIY {k:Nat} {f:Addr} {fd:FuncData} (F:yb K "_law_behind" "_law_behind" qk f fd) (B:Bl mg) (aD:Fn P w K mg base "_law_plus" ["_law_one","_law_other"] k YY) (aA:Fn P w K mg base "_law_along" ["_law_numbers","_law_values"] k (YZ K)) (aw:Fn P w K mg base "_law_lowest" ["_law_top","_law_bottom"] k gF):zU P w K mg base yG (k + 1) f fd Z8 (Yd K):=by
 refine F.ok uz ?_ ?_
 ·rintro vs H Q E ⟨tt,pa,sr,da,n,a,e,d,Ab,Bb,X,bs,m,lo,hi,t,b,zH,qv,dv,pts,vts,rfl,_⟩
  rfl
 rintro cdv A outer s H vs Q E hr ⟨tt,pa,sr,da,n,a,e,d,Ab,Bb,X,bs,m,lo,hi,t,b,zH,qv,dv,pts,vts,rfl,MT,MO,G,hpa,hpt,lp,PO,nd,esr,b0,bt,bb,hda,hvt,lv,PV,sB,sA,sz,x1,x2,q⟩
 obtain ⟨u_2,E_2,U_2⟩:=L2.vU (p:=λt=>xc (zP yG P w K mg base gG "_law_behind" (ze qk) f cdv A outer s H E).nox ((xR qk).drop 2) t) (zW (wI PassesOwn.never rfl (wX rfl B.range_ (zD (ym yw rfl B.len_ wZ (zD (zC 1) zI)) zI)) (zr (i:=11) uz.nd rfl (Or.inl rfl)) (zW (zy (i:=12) uz.nd rfl (Or.inl rfl) (zk aD hr rfl (zD (zk aA hr rfl (zD (zh yi (zC 5) (zC 11) (λ_ _=>rfl)) (zD (zC 1) zI))) (zD (zk aA hr rfl (zD (zh yi (zC 7) (zC 11) (λ_ _=>rfl)) (zD (zC 3) zI))) zI))))
  (zW (zy (i:=12) uz.nd rfl (Or.inl rfl) (zk aD hr rfl (zD (zC 12) (zD (zk aA hr rfl (zD (xF (zD (zh yi (zC 6) (zC 11) (λ_ _=>rfl)) (zD (zh yi (zC 8) (zC 11) (λ_ _=>rfl)) zI))) (zD (xF (zD (zC 2) (zD (xy (zD zK (zD zK zI))) zI))) zI))) zI))))
  (zY (vB (vI PySem.F.plainAttrs_list PySem.F.slot_list_append PySem.F.type_list_append xP (zC 10) (zD (zk aw hr rfl (zD (zh yc (zC 12) zK (λ_ _=>rfl)) (zD (zV (ji yy) (zh yc (zC 12) zK (λ_ _=>rfl)) (zC 9)) zI))) zI)))))))
 (zY (yH (zC 10))))
 obtain ⟨u_1,E_1,U_1⟩:=L2.vU (p:=λt=>xc (zP yG P w K mg base gG "_law_behind" (ze qk) f cdv A outer s H E).nox ((xR qk).drop 1) t) (zW (zy (i:=10) uz.nd rfl (Or.inl rfl) (xF zI))
 U_2)
 refine ⟨_,(zW (qp (zC 0) (vb rfl (yp (zr (i:=4) uz.nd rfl (Or.inl rfl)) (yp (zr (i:=5) uz.nd rfl (Or.inl rfl)) (yp (zr (i:=6) uz.nd rfl (Or.inl rfl)) (yp (zr (i:=7) uz.nd rfl (Or.inl rfl)) (yp (zr (i:=8) uz.nd rfl (Or.inl rfl)) (yp (zr (i:=9) uz.nd rfl (Or.inl rfl)) va))))))))
 U_1),?_⟩
 try dsimp only [zP,Cx.nox,Cx.wish]
 obtain ⟨tt',rl,na,sa,ua,aa,rv,nv,wv,ztt,ett,erl,hrv,ena,hnv,esa,eua,huv,eaa⟩:=MT
 cases ztt
 have n3:=G.n3
 have b2:=G.b2
 have lnx:=MO.nexts.1
 have lnr:=MO.nexts.2
 have lpx:=MO.push.1
 have lpr:=MO.push.2
 have lst:=MO.steer
 have lad:=MO.add
 have lqv:=Paired.length hpt
 have div0:0 < m.div:=by have:=MO.div; omega
 have nd':e * pts.length<=d:=by rw [lp]; exact nd
 refine ⟨_,rfl,tt,_,rfl,zT.of ett,rfl,_,_,rfl,_,_,rfl,_,_,rfl,_,_,rfl,_,_,rfl,_,_,rfl,rfl,?_⟩
 show u_1 _ [some (.ref tt),some (.ref pa),some (.ref sr),some (.ref da),some (.ref rl),some (.ref na),some (.ref sa),some (.ref ua),some (.ref aa),some (.int m.div),none,none,none] _
 rw [E_1]
 try dsimp only [zP,Cx.nox,Cx.wish]
 refine ⟨vL,λfl hfl=>?_⟩
 obtain ⟨J2,hhJ2,y2,efl⟩:=zw (HO.lst ([]:List V)) hfl
 rw [hhJ2]
 have s3:=ug hfl y2
 show u_2 _ [some (.ref tt),some (.ref pa),some (.ref sr),some (.ref da),some (.ref rl),some (.ref na),some (.ref sa),some (.ref ua),some (.ref aa),some (.int m.div),some (.ref fl),none,none] _
 rw [E_2]
 try dsimp only [zP,Cx.nox,Cx.wish]
 refine ⟨_,rfl,pa,_,rfl,.inl (zJ.of (y2 _ _ hpa)),_,rfl,(by omega),(by omega),uO (lo:=0) (n:=((qv.length:Nat):Int).toNat)
  (λi σ H'=>∃ (pv':List V) (pts':List (Int × Int)) (o11 o12:Option V),σ=[some (.ref tt),some (.ref pa),some (.ref sr),some (.ref da),some (.ref rl),some (.ref na),some (.ref sa),some (.ref ua),some (.ref aa),some (.int m.div),some (.ref fl),o11,o12]/\zG H (hide [fl] H')/\H' fl=some (.lst pv')/\yX (hide [fl] H') pv' pts'/\pts'.length=i/\vx pts' X (d + Bb + 13)/\(∀ j,j < i->yZ pts' j=vv n bs.length m (yZ pts) (yZ vts) (zZ (t,b)) j))
  ⟨[],[],none,none,rfl,s3,efl,.nil,rfl,(λp hp=>by cases hp),λj hj=>absurd hj (Nat.not_lt_zero j)⟩ ?_ ?_⟩
 ·rintro i σ L0 hi' ⟨pv',pts',o11,o12,rfl,sm,efl,hpv',lp',PO',IB⟩
  have sj:=sm.trans yx
  have i3:i < n:=by omega
  have lpv':=Paired.length hpv'
  obtain ⟨c1,ac1,ec1,mc1⟩:=Yc (i:=i) (zX.same sj hnv) (by omega)
  obtain ⟨c2,ac2,ec2,mc2⟩:=Yc (i:=i) (zX.same sj huv) (by omega)
  have a1:yk nv (0 + (i:Int))=some (.ref c1):=by rw [Int.zero_add]; exact ac1
  have a2:yk wv (0 + (i:Int))=some (.ref c2):=by rw [Int.zero_add]; exact ac2
  have lc1:=lnr _ mc1
  have lc2:=lpr _ mc2
  have G1:GQ (m.nexts.getD i []) pts 3 a e d:=⟨lc1.trans lp.symm,by omega,G.nx _ mc1,PO,nd',by omega⟩
  have G2:GQ (m.push.getD i []) vts 2 106 3 6:=⟨lc2.trans lv.symm,by omega,G.pu _ mc2,PV,by omega,by decide⟩
  refine ⟨_,rfl,_,rfl,na,_,_,_,rfl,rfl,zJ.of (sj _ _ ena),a1,_,rfl,c1,pa,_,qv,pts,_,_,_,rfl,.inr (zJ.of ec1),zJ.of (sj _ _ hpa),yX.same sj hpt,G1.ga,λr1 t1 s1 H1 z1 e1 p1 v1 b1 d1=>?_⟩
  rw [gP] at d1
  replace b1:Bd (a + d + 11) t1:=b1.mono (by show 3 + a + e * pts.length + pts.length + 1<=a + d + 11; omega)
  replace d1:Bd (d + 1) s1:=d1.mono (by omega)
  have SL1:=sj.trans z1
  replace efl:=(z1 _ _ efl)
  replace ec2:=(z1 _ _ ec2)
  refine ⟨_,rfl,_,rfl,ua,_,_,_,rfl,rfl,zJ.of (SL1 _ _ eua),a2,_,rfl,c2,da,_,dv,vts,_,_,_,rfl,.inr (zJ.of ec2),zJ.of (SL1 _ _ hda),yX.same SL1 hvt,G2.ga,λr2 t2 s2 H2 z2 e2 p2 v2 b2' d2=>?_⟩
  rw [gP] at d2
  replace b2':Bd 119 t2:=b2'.mono (by show 2 + 106 + 3 * vts.length + vts.length + 1<=119; omega)
  replace d2:Bd 7 s2:=d2.mono (by omega)
  have SL2:=SL1.trans z2
  replace efl:=(z2 _ _ efl)
  replace e1:=(z2 _ _ e1)
  refine ⟨r1,r2,t1,s1,t2,s2,a + d + 11,d + 1,119,7,a + d + 121,rfl,e1,e2,p1,p2,b1,d1,b2',d2,by omega,by omega,by omega,by omega,by omega,λr3 t3 s3' H3 z3 e3 p3 v3 b3 d3=>?_⟩
  have SL3:=SL2.trans z3
  replace efl:=(z3 _ _ efl)
  have bx1:=jL G.st i
  have bx2:=jL G.ad i
  refine ⟨_,rfl,_,rfl,_,rfl,sa,_,_,_,rfl,rfl,zJ.of (SL3 _ _ esa),x8 (xs:=m.steer) (k:=i) (by omega) (by omega),_,rfl,_,rfl,aa,_,_,_,rfl,rfl,zJ.of (SL3 _ _ eaa),x8 (xs:=m.add) (k:=i) (by omega) (by omega),wf,λl1 hl1=>?_⟩
  obtain ⟨L4,hhL4,yL4,el1⟩:=zw (HO.lst [V.int (m.steer.getD i 0),V.int (m.add.getD i 0)]) hl1
  rw [hhL4]
  have SL4:=SL3.trans yL4
  replace efl:=(yL4 _ _ efl)
  replace e3:=(yL4 _ _ e3)
  refine ⟨_,rfl,wf,λo1 ho1=>?_⟩
  obtain ⟨L5,hhL5,yL5,eo1⟩:=zw (HO.tup [V.int 1,V.int 1]) ho1
  rw [hhL5]
  have SL5:=SL4.trans yL5
  replace efl:=(yL5 _ _ efl)
  replace e3:=(yL5 _ _ e3)
  replace el1:=(yL5 _ _ el1)
  refine ⟨wf,λl2 hl2=>?_⟩
  obtain ⟨L6,hhL6,yL6,el2⟩:=zw (HO.lst [V.ref sr,V.ref o1]) hl2
  rw [hhL6]
  have SL6:=SL5.trans yL6
  replace efl:=(yL6 _ _ efl)
  replace e3:=(yL6 _ _ e3)
  replace el1:=(yL6 _ _ el1)
  replace eo1:=(yL6 _ _ eo1)
  refine ⟨l1,l2,[m.steer.getD i 0,m.add.getD i 0],[V.ref sr,V.ref o1],[(t,b),(1,1)],_,_,_,rfl,.inr (zJ.of el1),zJ.of el2,.cons ⟨sr,rfl,(SL6 _ _ esr)⟩ (.cons ⟨o1,rfl,eo1⟩ .nil),zOL bx1 bx2 b0 bt bb sB sA,λr4 t4 s4 H4 z4 e4 p4 v4 b4 d4=>?_⟩
  replace b4:Bd (Ab + 6) t4:=b4
  replace d4:Bd (Bb + 2) s4:=d4.mono (by show 0 + Bb + 1 + 1<=Bb + 2; omega)
  have SL7:=SL6.trans z4
  replace efl:=(z4 _ _ efl)
  replace e3:=(z4 _ _ e3)
  refine ⟨r3,r4,t3,s3',t4,s4,a + d + 121,d + 1 + 7,Ab + 6,Bb + 2,X,rfl,e3,e4,p3,p4,b3,d3,b4,d4,by omega,by omega,by omega,by omega,by omega,λr5 t5 s5 H5 z5 e5 p5 v5 b5 d5=>?_⟩
  have SL8:=SL7.trans z5
  replace efl:=(z5 _ _ efl)
  refine ⟨_,rfl,.inl ⟨rfl,_,zJ.of efl⟩,_,rfl,r5,_,0,_,rfl,rfl,zT.of e5,vm,_,rfl,r5,_,1,_,rfl,rfl,zT.of e5,w4,_,rfl,_,_,rfl,rfl,⟨d5.mono (by omega),G.dv.mono⟩,_,_,rfl,Int.mul_pos p5 div0,((d5.mul G.dv).mono (by omega)),λr6 H6 z6 e6=>?_⟩
  obtain ⟨l0,lw⟩:=k8 (t:=t5) (Int.mul_pos p5 div0)
  have bd6:Bd (d + Bb + 13) (s5 * m.div):=(d5.mul G.dv).mono (by omega)
  have zz:zG L0 H6:=z1.trans (z2.trans (z3.trans (yL4.trans (yL5.trans (yL6.trans (z4.trans (z5.trans z6)))))))
  have efl6:=z6 _ _ efl
  refine ⟨fl,pv',_,rfl,rfl,efl6,wY (by omega),?_⟩
  have h5:=w6 (x:=fl) (H:=H6) (HO.lst (pv'++[V.ref r6]))
  have h4:=(wC (B:=[fl]) zz).trans h5
  refine ⟨pv'++[V.ref r6],pts'++[(yg t5 (s5 * m.div),yK t5 (s5 * m.div))],_,_,rfl,sm.trans h4,zj,?_,(by rw [List.length_append,lp']; rfl),vX PO' ⟨l0,jy b5,jH bd6⟩,λj hj=>?_⟩
  ·exact xg (R:=vp _) (y:=(yg t5 (s5 * m.div),yK t5 (s5 * m.div))) ⟨r6,rfl,h5 _ _ (jM efl6 e6)⟩ (yX.same h4 hpv')
  by_cases cj:j=i
  ·rw [Ue (lp'.trans cj.symm),lw,zNO p5 div0,v5,v3,v1,v2,v4,zN4,cj]
   unfold vv yO
   rw [lc1,lc2]
   have q0:yZ [(t,b),(1,1)] 0=zZ (t,b):=rfl
   have q1:yZ [(t,b),(1,1)] 1=1:=by
    show zZ (1,1)=1
    refine jN (by decide) ?_
    show ((1:Int):Rat)=1 * ((1:Int):Rat)
    rw [Rat.one_mul]
   rw [q0,q1,Rat.mul_one]
  ·rw [Ud (by omega)]
   exact IB j (by omega)
 rintro σ L0 ⟨pv',pts',o11,o12,rfl,sm,efl,hpv',lp',PO',IB⟩
 exact ⟨_,rfl,q fl pv' pts' L0 (sm.trans yx) efl (yX.same yx hpv') (by omega) PO' λj hj=>IB j (by omega)⟩
end
theorem Uh {ws:List Int} {b:Int} {k:Nat} (h:k < ws.length):yk (zo ws b) (0 + (k:Int))=some (.int (ws.getD k 0)):=by
 rw [Int.zero_add]
 refine um ?_
 unfold zo
 rw [List.getElem?_append_left (by rw [List.length_map]; exact h),List.getElem?_map,List.getElem?_eq_getElem h,List.getD_eq_getElem?_getD,List.getElem?_eq_getElem h]
 rfl
def uJ (i:Nat) (zH:List (List Int × Int)):List (List Int × Int):=zH.filter λr=>decide (r.1.getD i 0≠0)
theorem Kj {u g:Int} (u0:0 < u) (bu:Bd 100 u) (g0:0<=g) (g3:g < 3):∃ s:Int,yk [V.int 0,V.int 1,V.int u] g=some (.int s)/\Bd 100 s:=by
 rcases (show g=0\/g=1\/g=2 by omega) with e | e | e
 ·exact ⟨0,by rw [e]; rfl,j0 _⟩
 ·exact ⟨1,by rw [e]; rfl,Bd.mono (i:=1) (n:=1) Bd.lit (by decide)⟩
 ·exact ⟨u,by rw [e]; rfl,bu⟩
inductive Ui (vs:List V) (H:Hp) (Q:VK) (E:XK):Prop
 | mk (st sa:Addr) (x y:V) (c u:Int) (n:Nat) (sv:List V) (zH:List (List Int × Int)) (_:vs=[.ref st,.ref sa,.int c]) (_:H st=some (.tup [.int (n:Int),x,y,.int u])) (_:1<=n) (_:n<=3) (_:0 < u) (_:Bd 100 u) (_:H sa=some (.lst sv)) (_:yI H sv zH) (_:WB zH n 2 106) (_:zH.length<=8) (_:∀ l pv pts H',zG H H'->H' l=some (.lst pv)->yX H' pv pts->pts.length=n->vx pts 110 3->Q (.ref l) H'):Ui vs H Q E
inductive Ye (C CM:Addr) (vs:List V) (H:Hp) (Q:VK) (E:XK):Prop
 | mk (o kp km sa:Addr) (n k:Nat) (bs:List (Int × Int)) (m:MD) (pv mv sv:List V) (lo hi:Int) (zH:List (List Int × Int)) (_:vs=[.ref o,.ref sa,.int lo,.int hi,.int (k:Int)]) (_:yr C CM H o n bs [m] pv mv kp km) (_:wH n bs [m]) (_:m.rows=[]) (_:wu n bs m lo hi zH) (_:H sa=some (.lst sv)) (_:yI H sv zH) (_:k<=6) (_:(xz n bs m lo hi zH k->∀ l lv H',zG H H'->H' l=some (.lst lv)->w8 H' lv (ui n bs m lo hi zH k)->Q (.ref l) H')) (_:(¬ xz n bs m lo hi zH k->∀ H',zG H H'->Q .non H')):Ye C CM vs H Q E
section
variable {P:Program} {w:World} {K:PySem.W.Frag} {mg:Str->Option Value} {base:Heap} {cM cP:Addr}
abbrev Uj:Stmt:=yh 76
theorem Yg:ya ["_law_thing_here","_law_safe_here","_law_low","_law_high","_law_turns","_law_found"] kX (ze Uj):=.a
abbrev ZA:Stmt:=yh 75
theorem jO:ya X3 ["_law_spec","_law_safe_here","_law_cell"] (ze ZA):=.a
variable {ac af:Addr} (ae:yJ K mg "Mode" ac) (ag:wr K ac) (ah:yJ K mg "Thing" af) (ai:wt K af)
include ae ag ah ai
theorem zJ8 {k:Nat} {f:Addr} {fd:FuncData} (Z:Er K mg cM cP) (F:yb K "_law_rooms" "_law_rooms" Uj f fd) (B:Bl mg) (x_held_rooms:ur P w K mg base "held_rooms" ["thing","safe","low","high","turns"] k (kq af ac cM cP)):zU P w K mg base yG (k + 1) f fd kX (Ye af ac):=by
 refine F.ok Yg ?_ ?_
 ·rintro vs H Q E ⟨o,kp,km,sa,n,k,bs,m,pv,mv,sv,lo,hi,zH,rfl,_⟩
  rfl
 rintro cdv A outer s H vs Q E hr ⟨o,kp,km,sa,n,k,bs,m,pv,mv,sv,lo,hi,zH,rfl,TA,TO,r0,G,hsa,hsv,k6,q,qx⟩
 refine ⟨_,(zW (zy (i:=5) Yg.nd rfl (Or.inl rfl) j5)
  (zW (zNc rfl Z.mgM rfl rfl rfl (zK3 (zNb (i:=5) Yg.nd rfl (Or.inl rfl) (zK5 x_held_rooms hr rfl (zD (zC 0) (zD (xn vP rfl B.list_ wJ (zD (zC 1) zI)) (zD (zC 2) (zD (zC 3) (zD (zC 4) zI))))))) zMR) (λ_=>(zY (zy (i:=5) Yg.nd rfl (Or.inl rfl) j5))))
  (zY (yH (zC 5))))),?_⟩
 try dsimp only [zP,Cx.nox,Cx.wish]
 refine ⟨_,rfl,_,rfl,sa,_,rfl,.inl (zJ.of hsa),λs2 hs2=>?_⟩
 have y2:=zx hs2 (HO.lst sv)
 refine ⟨_,rfl,_,rfl,_,rfl,o,kp,km,s2,n,bs,[m],pv,mv,sv,lo,hi,k,zH,rfl,yr.same y2 TA,TO,zj,yI.same y2 hsv,.inr ⟨m,rfl,⟨rfl,r0⟩,G,k6,λl lv H1 s1 _ el hl ok=>⟨_,rfl,q ok l lv H1 (y2.trans s1) el hl⟩,λno H1 s1=>⟨cM,rfl,Z.mm,λe he=>?_⟩⟩⟩
 exact ⟨_,rfl,qx no _ (y2.trans (s1.trans (zx he _)))⟩
theorem zLI {k:Nat} {f:Addr} {fd:FuncData} (F:yb K "_law_near" "_law_near" ZA f fd) (B:Bl mg) (aq:Fn P w K mg base "_law_stream" ["_law_cell","_law_many"] k jv) (ak:Fn P w K mg base "_law_number" ["_law_x","_law_far"] k qg) (aw:Fn P w K mg base "_law_lowest" ["_law_top","_law_bottom"] k gF):zU P w K mg base yG (k + 1) f fd ["_law_spec","_law_safe_here","_law_cell"] Ui:=by
 refine F.ok jO ?_ ?_
 ·rintro vs H Q E ⟨st,sa,x,y,c,u,n,sv,zH,rfl,_⟩
  rfl
 rintro cdv A outer s H vs Q E hr ⟨st,sa,x,y,c,u,n,sv,zH,rfl,est,n1,n3,u0,bu,hsa,hsv,WS,s8,q⟩
 refine ⟨_,(zW (zy (i:=3) jO.nd rfl (Or.inl rfl) (zk aq hr rfl (zD (zC 2) (zD zK zI))))
  (zW (zy (i:=4) jO.nd rfl (Or.inl rfl) (zV (yU yz) zK (zV (ji wA) (zh yi (zC 3) zK (λ_ _=>rfl)) zK)))
  (zW (zy (i:=5) jO.nd rfl (Or.inl rfl) (xF zI))
  (zW (wI PassesOwn.never rfl (wX rfl B.range_ (zD (zh yc (zC 0) zK (λ_ _=>rfl)) zI)) (zr (i:=6) jO.nd rfl (Or.inr rfl)) (zW (Zo (i:=7) jO.nd rfl rfl (own:=["_law_row"]) (caps:=[(6,"_law_i")]) (wD (S:=ze ZA) (N:=X3) ⟨_,rfl⟩) rfl (xr (zC 1)) (λ_ _ _ _=>zr (i:=0) (show (["_law_row","_law_i"]:List Str).Nodup by decide +kernel) rfl (Or.inl rfl)) (λ_ _ _ _=>(xX jn (zh (show wT _ (we (zT K)) from yc) (zC 0) (zC 1) (λ_ _=>rfl)) zK (yu _))) (λ_ _ _ _=>(zh (show wT _ (we (zT K)) from yc) (zC 0) (xD xE zK) (λ_ _=>rfl))) rfl)
   (zW (zy (i:=8) jO.nd rfl (Or.inl rfl) zK)
   (zW (yq (xX (zOj hr.units) (zC 7) (xF zI) (yu _)) (zW (zy (i:=9) jO.nd rfl (Or.inl rfl) (zh yi (zK7 (own:=["_law_row"]) (caps:=[(6,"_law_i")]) (wD (S:=ze ZA) (N:=X3) ⟨_,rfl⟩) rfl (xr (zC 1)) (λ_ _ _ _=>zr (i:=0) (show (["_law_row","_law_i"]:List Str).Nodup by decide +kernel) rfl (Or.inl rfl)) (λ_ _ _ _=>(xX jn (zh (show wT _ (we (zT K)) from yc) (zC 0) (zC 1) (λ_ _=>rfl)) zK (yu _))) (λ_ _ _ _=>(zC 0))) (zV (ji wA) (zh yi (zC 3) (zV (yU yz) zK (zC 6)) (λ_ _=>rfl)) (ym yw rfl B.len_ wZ (zD (zC 7) zI))) (λ_ _=>rfl)))
    (zY (zy (i:=8) jO.nd rfl (Or.inl rfl) (zV (ji v8) (zh yc (zC 9) (xD xE zK) (λ_ _=>rfl)) (zh yc (zC 9) (zC 6) (λ_ _=>rfl)))))) yt)
   (zW (zy (i:=10) jO.nd rfl (Or.inl rfl) (zV (ji yy) (zk ak hr rfl (zD (zh yi (zC 3) (zV (yU yz) zK (zC 6)) (λ_ _=>rfl)) (zD (zV (ji yy) zK (zC 4)) zI))) (zh yi (xF (zD zK (zD zK (zD (zh yc (zC 0) zK (λ_ _=>rfl)) zI)))) (zV (ji wA) (zh yi (zC 3) zK (λ_ _=>rfl)) zK) (λ_ _=>rfl))))
   (zY (vB (vI PySem.F.plainAttrs_list PySem.F.slot_list_append PySem.F.type_list_append xP (zC 5) (zD (zk aw hr rfl (zD (zV (yU yz) (zV (ji yy) (zC 8) (zC 4)) (zC 10)) (zD (zC 4) zI))) zI)))))))))
  (zY (yH (zC 5))))))),?_⟩
 try dsimp only [zP,Cx.nox,Cx.wish]
 refine ⟨_,rfl,_,9,rfl,(by decide),(by decide),λxa J1 xs y1 _ ex lx bx0=>?_⟩
 have lx9:xs.length=9:=lx
 have px:∀ k,0<=xs.getD k 0:=λk=>by
  rw [List.getD_eq_getElem?_getD]
  cases e:xs[k]? with
  | none=>exact Int.le_refl 0
  | some x=>exact (bx0 x (List.mem_of_getElem? e)).1
 have bx:∀ k,Bd 150 (xs.getD k 0):=λk=>jL (λx hx=>uY (bx0 x hx)) k
 have d0:=Int.fmod_nonneg_of_pos (xs.getD 0 0) (show (0:Int) < 4 by decide)
 have d4:=Int.fmod_lt_of_pos (xs.getD 0 0) (show (0:Int) < 4 by decide)
 have P0:0 < (1 + (xs.getD 0 0).fmod 4):=by omega
 have bP:Bd 3 (1 + (xs.getD 0 0).fmod 4):=wg (f:=4) Bd.lit (by omega) (by omega)
 have est1:=y1 _ _ est
 have hsa1:=y1 _ _ hsa
 have hsv1:=yI.same y1 hsv
 have lsv:=Paired.length hsv
 refine ⟨_,rfl,xa,_,_,_,rfl,rfl,zJ.of ex,x8 (xs:=xs) (k:=0) (by omega) (by omega),_,_,rfl,rfl,(show (4:Int)≠0 by decide),_,_,rfl,rfl,?_⟩
 refine ⟨vL,λpl hpl=>?_⟩
 obtain ⟨J2,hhJ2,y2,epl⟩:=zw (HO.lst ([]:List V)) hpl
 rw [hhJ2]
 have s3:=ug hpl y2
 refine ⟨_,rfl,st,_,_,_,rfl,rfl,zT.of (y2 _ _ est1),(show yk [V.int (n:Int),x,y,V.int u] 0=some (.int (n:Int)) from rfl),_,rfl,(by omega),(by omega),uO (lo:=0) (n:=((n:Nat):Int).toNat)
  (λi σ H'=>∃ (pv:List V) (pts:List (Int × Int)) (o6 o7 o8 o9 oa:Option V),σ=[some (.ref st),some (.ref sa),some (.int c),some (.ref xa),some (.int (1 + (xs.getD 0 0).fmod 4)),some (.ref pl),o6,o7,o8,o9,oa]/\zG J1 (hide [pl] H')/\H' pl=some (.lst pv)/\yX (hide [pl] H') pv pts/\pts.length=i/\vx pts 110 3)
  ⟨[],[],none,none,none,none,none,rfl,s3,epl,.nil,rfl,(λp hp=>by cases hp)⟩ ?_ ?_⟩
 ·rintro i σ L0 hi ⟨pv,pts,o6,o7,o8,o9,oa,rfl,sm,epl,hpv,lp,PO⟩
  have sj:=sm.trans yx
  have exL:=sj _ _ ex
  have estL:=sj _ _ est1
  have hsaL:=sj _ _ hsa1
  have i3:i < n:=by omega
  have lpv:=Paired.length hpv
  refine ⟨_,rfl,sa,rfl,⟨_,zJ.of hsaL⟩,kE (K:=K) (a:=sa) (xs:=sv) (λj ys σ H'=>ys=((uJ i (zH.take j)).map (·.2)).map V.int/\(∃ o,σ=[o,some (.int (0 + (i:Int)))])/\H'=L0)
   ⟨rfl,⟨none,rfl⟩,rfl⟩ (λj ys σ H' hj ⟨e1,_,e3⟩=>⟨by rw [e3]; exact zJ.of hsaL,by have h2:=List.length_filter_le (λr:List Int × Int=>decide (r.1.getD i 0≠0)) (zH.take j); rw [List.length_take] at h2; rw [e1,List.length_map,List.length_map]; show (uJ i (zH.take j)).length<=_; unfold uJ; omega⟩) (yd (by omega)) ?_ ?_⟩
  ·rintro j x ys σ H' hj ⟨hys,⟨o,rfl⟩,rfl⟩
   obtain ⟨r,hr',a9,rfl,ea⟩:=xU hsv1 hj
   obtain ⟨w1,w2,w3⟩:=WS r (List.mem_of_getElem? hr')
   have eA:=sj _ _ ea
   refine ⟨_,rfl,_,rfl,a9,_,_,_,rfl,rfl,zT.of eA,Uh (k:=i) (by omega),rfl,_,rfl,?_⟩
   by_cases cz:r.1.getD i 0=0
   ·refine xA (ZW cz) ?_
    refine ⟨?_,⟨_,rfl⟩,rfl⟩
    unfold uJ at hys |-
    rw [kg (p:=λr:List Int × Int=>decide (r.1.getD i 0≠0)) hr' (decide_eq_false λz=>z cz)]
    exact hys
   ·refine xo (g6 cz) ?_
    refine ⟨_,rfl,_,rfl,a9,_,_,_,rfl,rfl,zT.of eA,ue _ _,?_,⟨_,rfl⟩,rfl⟩
    unfold uJ at hys |-
    rw [kf (p:=λr:List Int × Int=>decide (r.1.getD i 0≠0)) hr' (decide_eq_true cz)]
    rw [hys,List.map_append,List.map_append]
    rfl
  rintro ysen σ H' ⟨hysen,⟨o,rfl⟩,hZ⟩ en hen
  rw [hZ] at hen |-
  clear hZ
  rw [List.take_of_length_le (by omega)] at hysen
  obtain ⟨N1,hhN,zN,een⟩:=zw (HO.lst ysen) hen
  rw [hhN]
  refine ⟨_,rfl,vL,λe0 he0=>?_⟩
  obtain ⟨E1,hhE,z0,ee0⟩:=zw (HO.lst ([]:List V)) he0
  rw [hhE]
  have zE:=zN.trans z0
  have lnz:(uJ i zH).length<=8:=Nat.le_trans (List.length_filter_le _ _) s8
  refine ⟨.list (((uJ i zH).map (·.2)).map PyData.int),.list [],.lst (zJ.of (z0 _ _ een)) (by rw [hysen]; exact kY _),.lst (zJ.of ee0) .nil,Q3 _,rfl,(by show PyData.depthAll _ + 1<=60; rw [WD]; decide),(by decide),_,rfl,?_⟩
  cases hnz:uJ i zH with
  | nil=>
   refine xA rfl ?_
   refine ⟨_,rfl,_,rfl,_,_,rfl,rfl,xa,_,_,_,rfl,rfl,zJ.of (zE _ _ exL),x8 (xs:=xs) (k:=(4 + i)) (by omega) (by omega),_,rfl,_,_,rfl,rfl,⟨Bd.mono (i:=2) (n:=2) Bd.lit (by decide),bP.mono⟩,_,(2 * (1 + (xs.getD 0 0).fmod 4)),rfl,(by omega),(wg (f:=8) (n:=100) (Bd.mono (n:=4) Bd.lit (by decide)) (by omega) (by omega)),λyo v1 v2=>?_⟩
   have byo:Bd 4 yo:=wg (f:=8) Bd.lit (by omega) (by omega)
   refine ⟨_,rfl,st,_,_,_,rfl,rfl,zT.of (zE _ _ estL),(show yk [V.int (n:Int),x,y,V.int u] 3=some (.int u) from rfl),Z5,λlo3 hlo3=>?_⟩
   obtain ⟨O1,hhO,zO,elo3⟩:=zw (HO.lst [V.int 0,V.int 1,V.int u]) hlo3
   rw [hhO]
   obtain ⟨so,eso,bso⟩:=Kj u0 bu (Int.fmod_nonneg_of_pos (xs.getD 7 0) (show (0:Int) < 3 by decide)) (Int.fmod_lt_of_pos (xs.getD 7 0) (show (0:Int) < 3 by decide))
   refine ⟨_,rfl,xa,_,_,_,rfl,rfl,zJ.of ((zE.trans zO) _ _ exL),x8 (xs:=xs) (k:=7) (by omega) (by omega),_,_,rfl,rfl,(show (3:Int)≠0 by decide),lo3,_,_,_,rfl,rfl,zJ.of elo3,eso,_,_,rfl,rfl,⟨byo.mono,bso.mono⟩,?_⟩
   have zA:=zE.trans zO
   refine ⟨_,rfl,.inl ⟨rfl,_,zJ.of (zA _ _ epl)⟩,_,rfl,_,rfl,_,_,rfl,rfl,⟨(j0 106).mono,bP.mono⟩,_,rfl,_,_,rfl,rfl,_,rfl,_,_,rfl,P0,bP.mono,λr H9 s9 e9=>?_⟩
   have bt:Bd 110 (0 * (1 + (xs.getD 0 0).fmod 4) + yo * so):=Bd.add (n:=109) (((j0 106).mul bP).mono) ((byo.mul bso).mono)
   obtain ⟨l0,lv⟩:=k8 (t:=0 * (1 + (xs.getD 0 0).fmod 4) + yo * so) P0
   have zz:=zA.trans s9
   have epl2:=zz _ _ epl
   refine ⟨pl,pv,_,rfl,rfl,epl2,wY (by omega),?_⟩
   have h5:=w6 (x:=pl) (H:=H9) (HO.lst (pv++[V.ref r]))
   have h4:=(wC (B:=[pl]) zz).trans h5
   refine ⟨pv++[V.ref r],pts++[(yg (0 * (1 + (xs.getD 0 0).fmod 4) + yo * so) (1 + (xs.getD 0 0).fmod 4),yK (0 * (1 + (xs.getD 0 0).fmod 4) + yo * so) (1 + (xs.getD 0 0).fmod 4))],_,_,_,_,_,rfl,sm.trans h4,zj,?_,(by rw [List.length_append,lp]; rfl),vX PO ⟨l0,jy bt,jH bP⟩⟩
   exact xg (R:=vp _) (y:=(yg (0 * (1 + (xs.getD 0 0).fmod 4) + yo * so) (1 + (xs.getD 0 0).fmod 4),yK (0 * (1 + (xs.getD 0 0).fmod 4) + yo * so) (1 + (xs.getD 0 0).fmod 4))) ⟨r,rfl,h5 _ _ (jM epl2 e9)⟩ (yX.same h4 hpv)
  | cons rr0 rrs=>
   refine xo rfl ?_
   refine ⟨_,rfl,sa,rfl,⟨_,zJ.of (zE _ _ hsaL)⟩,kE (K:=K) (a:=sa) (xs:=sv) (λj ys σ H'=>yI H' ys (uJ i (zH.take j))/\(∃ o,σ=[o,some (.int (0 + (i:Int)))])/\H'=E1)
    ⟨.nil,⟨none,rfl⟩,rfl⟩ (λj ys σ H' hj ⟨e1,_,e3⟩=>⟨by rw [e3]; exact zJ.of (zE _ _ hsaL),by have h2:=List.length_filter_le (λr:List Int × Int=>decide (r.1.getD i 0≠0)) (zH.take j); rw [List.length_take] at h2; have h3:=Paired.length e1; unfold uJ at h3; omega⟩) (yd (by omega)) ?_ ?_⟩
   ·rintro j x ys σ H' hj ⟨hys,⟨o,rfl⟩,rfl⟩
    obtain ⟨r,hr',a9,rfl,ea⟩:=xU hsv1 hj
    obtain ⟨w1,w2,w3⟩:=WS r (List.mem_of_getElem? hr')
    have eA:=(sj.trans zE) _ _ ea
    refine ⟨_,rfl,_,rfl,a9,_,_,_,rfl,rfl,zT.of eA,Uh (k:=i) (by omega),rfl,_,rfl,?_⟩
    by_cases cz:r.1.getD i 0=0
    ·refine xA (ZW cz) ?_
     refine ⟨?_,⟨_,rfl⟩,rfl⟩
     unfold uJ at hys |-
     rw [kg (p:=λr:List Int × Int=>decide (r.1.getD i 0≠0)) hr' (decide_eq_false λz=>z cz)]
     exact hys
    ·refine xo (g6 cz) ?_
     refine ⟨_,rfl,?_,⟨_,rfl⟩,rfl⟩
     unfold uJ at hys |-
     rw [kf (p:=λr:List Int × Int=>decide (r.1.getD i 0≠0)) hr' (decide_eq_true cz)]
     exact xg (R:=jI _) ⟨a9,rfl,eA⟩ hys
   rintro ysrn σ H' ⟨hysrn,⟨o,rfl⟩,hZ⟩ rn hrn
   rw [hZ] at hrn hysrn |-
   clear hZ
   rw [List.take_of_length_le (by omega)] at hysrn
   obtain ⟨R1,hhR,zR0,ern⟩:=zw (HO.lst ysrn) hrn
   rw [hhR]
   have zR:=zE.trans zR0
   have lrn:=Paired.length hysrn
   have len1:ysen.length=(uJ i zH).length:=by rw [hysen,List.length_map,List.length_map]
   have ln0:0 < (uJ i zH).length:=by rw [hnz]; exact Nat.succ_pos _
   have f0:=Int.fmod_nonneg_of_pos (xs.getD (1 + i) 0) (show (0:Int) < (ysen.length:Int) by omega)
   have f1:=Int.fmod_lt_of_pos (xs.getD (1 + i) 0) (show (0:Int) < (ysen.length:Int) by omega)
   obtain ⟨jj,hjj⟩:∃ jj:Nat,(xs.getD (1 + i) 0).fmod (ysen.length:Int)=(jj:Int):=⟨((xs.getD (1 + i) 0).fmod (ysen.length:Int)).toNat,by omega⟩
   obtain ⟨vj,hvj⟩:∃ v,ysrn[jj]? = some v:=⟨_,List.getElem?_eq_getElem (by omega)⟩
   obtain ⟨rj,hrj,aj,rfl,eaj⟩:=xU hysrn hvj
   have atj:yk ysrn ((xs.getD (1 + i) 0).fmod (ysen.length:Int))=some (.ref aj):=by rw [hjj]; exact um hvj
   have mrj:rj∈zH/\rj.1.getD i 0≠0:=by
    have:=List.mem_filter.mp (List.mem_of_getElem? hrj)
    exact ⟨this.1,of_decide_eq_true this.2⟩
   obtain ⟨w1,w2,w3⟩:=WS rj mrj.1
   have eaj2:=zR0 _ _ eaj
   refine ⟨_,rfl,_,rfl,_,_,rfl,rfl,xa,_,_,_,rfl,rfl,zJ.of (zR _ _ exL),x8 (xs:=xs) (k:=(1 + i)) (by omega) (by omega),_,rfl,en,_,rfl,.inl (zJ.of ((z0.trans zR0) _ _ een)),_,_,rfl,rfl,(show (ysen.length:Int)≠0 by omega),rn,_,_,_,rfl,rfl,zJ.of ern,atj,?_⟩
   refine ⟨_,rfl,_,rfl,aj,_,_,_,rfl,rfl,zT.of eaj2,ue _ _,_,rfl,_,rfl,aj,_,_,_,rfl,rfl,zT.of eaj2,Uh (k:=i) (by omega),_,_,rfl,rfl,⟨mrj.2,(jL w2 i).mono⟩,?_⟩
   have bmid:Bd 106 (rj.2.fdiv (rj.1.getD i 0)):=w3.fdiv _
   refine ⟨_,rfl,_,rfl,_,_,rfl,rfl,xa,_,_,_,rfl,rfl,zJ.of (zR _ _ exL),x8 (xs:=xs) (k:=(4 + i)) (by omega) (by omega),_,rfl,_,_,rfl,rfl,⟨Bd.mono (i:=2) (n:=2) Bd.lit (by decide),bP.mono⟩,_,(2 * (1 + (xs.getD 0 0).fmod 4)),rfl,(by omega),(wg (f:=8) (n:=100) (Bd.mono (n:=4) Bd.lit (by decide)) (by omega) (by omega)),λyo v1 v2=>?_⟩
   have byo:Bd 4 yo:=wg (f:=8) Bd.lit (by omega) (by omega)
   refine ⟨_,rfl,st,_,_,_,rfl,rfl,zT.of (zR _ _ estL),(show yk [V.int (n:Int),x,y,V.int u] 3=some (.int u) from rfl),Z5,λlo3 hlo3=>?_⟩
   obtain ⟨O1,hhO,zO,elo3⟩:=zw (HO.lst [V.int 0,V.int 1,V.int u]) hlo3
   rw [hhO]
   obtain ⟨so,eso,bso⟩:=Kj u0 bu (Int.fmod_nonneg_of_pos (xs.getD 7 0) (show (0:Int) < 3 by decide)) (Int.fmod_lt_of_pos (xs.getD 7 0) (show (0:Int) < 3 by decide))
   refine ⟨_,rfl,xa,_,_,_,rfl,rfl,zJ.of ((zR.trans zO) _ _ exL),x8 (xs:=xs) (k:=7) (by omega) (by omega),_,_,rfl,rfl,(show (3:Int)≠0 by decide),lo3,_,_,_,rfl,rfl,zJ.of elo3,eso,_,_,rfl,rfl,⟨byo.mono,bso.mono⟩,?_⟩
   have zA:=zR.trans zO
   refine ⟨_,rfl,.inl ⟨rfl,_,zJ.of (zA _ _ epl)⟩,_,rfl,_,rfl,_,_,rfl,rfl,⟨bmid.mono,bP.mono⟩,_,rfl,_,_,rfl,rfl,_,rfl,_,_,rfl,P0,bP.mono,λr H9 s9 e9=>?_⟩
   have bt:Bd 110 ((rj.2.fdiv (rj.1.getD i 0)) * (1 + (xs.getD 0 0).fmod 4) + yo * so):=Bd.add (n:=109) ((bmid.mul bP).mono) ((byo.mul bso).mono)
   obtain ⟨l0,lv⟩:=k8 (t:=(rj.2.fdiv (rj.1.getD i 0)) * (1 + (xs.getD 0 0).fmod 4) + yo * so) P0
   have zz:=zA.trans s9
   have epl2:=zz _ _ epl
   refine ⟨pl,pv,_,rfl,rfl,epl2,wY (by omega),?_⟩
   have h5:=w6 (x:=pl) (H:=H9) (HO.lst (pv++[V.ref r]))
   have h4:=(wC (B:=[pl]) zz).trans h5
   refine ⟨pv++[V.ref r],pts++[(yg ((rj.2.fdiv (rj.1.getD i 0)) * (1 + (xs.getD 0 0).fmod 4) + yo * so) (1 + (xs.getD 0 0).fmod 4),yK ((rj.2.fdiv (rj.1.getD i 0)) * (1 + (xs.getD 0 0).fmod 4) + yo * so) (1 + (xs.getD 0 0).fmod 4))],_,_,_,_,_,rfl,sm.trans h4,zj,?_,(by rw [List.length_append,lp]; rfl),vX PO ⟨l0,jy bt,jH bP⟩⟩
   exact xg (R:=vp _) (y:=(yg ((rj.2.fdiv (rj.1.getD i 0)) * (1 + (xs.getD 0 0).fmod 4) + yo * so) (1 + (xs.getD 0 0).fmod 4),yK ((rj.2.fdiv (rj.1.getD i 0)) * (1 + (xs.getD 0 0).fmod 4) + yo * so) (1 + (xs.getD 0 0).fmod 4))) ⟨r,rfl,h5 _ _ (jM epl2 e9)⟩ (yX.same h4 hpv)
 rintro σ L0 ⟨pv,pts,o6,o7,o8,o9,oa,rfl,sm,epl,hpv,lp,PO⟩
 exact ⟨_,rfl,q pl pv pts L0 (y1.trans (sm.trans yx)) epl (yX.same yx hpv) (by omega) PO⟩
end
theorem Kk (f:Nat->Rat) (a:Nat):∀ b:Nat,zi (a + b) f=zi a f + zi b (λj=>f (a + j))
 | 0=>(Rat.add_zero _).symm
 | b + 1=>by
  show zi (a + b) f + f (a + b)=zi a f + (zi b (λj=>f (a + j)) + f (a + b))
  rw [Kk f a b,Rat.add_assoc]
theorem Uk {xs ys:List Int} {ps qs:List (Int × Int)} (h:xs.length=ps.length):yO (xs++ys) (yZ (ps++qs))=yO xs (yZ ps) + yO ys (yZ qs):=by
 unfold yO yZ
 rw [List.length_append,Kk]
 congr 1
 ·refine uC λj hj=>?_
  rw [List.getD_eq_getElem?_getD,List.getD_eq_getElem?_getD,List.getD_eq_getElem?_getD,List.getD_eq_getElem?_getD,List.getElem?_append_left hj,List.getElem?_append_left (by omega)]
 ·refine uC λj hj=>?_
  rw [List.getD_eq_getElem?_getD,List.getD_eq_getElem?_getD,List.getD_eq_getElem?_getD,List.getD_eq_getElem?_getD,List.getElem?_append_right (by omega),List.getElem?_append_right (by omega),h,Nat.add_sub_cancel_left]
theorem Kl {r:List Int} {j:Nat} (h:j < r.length):yk (r.map V.int) (j:Int)=some (.int (r.getD j 0))/\r.getD j 0∈r:=by
 have e:r[j]? = some (r.getD j 0):=by rw [List.getD_eq_getElem?_getD,List.getElem?_eq_getElem h]; rfl
 exact ⟨um (by rw [List.getElem?_map,e]; rfl),List.mem_of_getElem? e⟩
structure Km (p us:List (Int × Int)) (sv:Int × Int) (n w a e d:Nat):Prop where
 lp:p.length=n
 lu:us.length=w
 n3:n<=3
 w2:w<=2
 ok:vx (p++us++[sv]) a e
 ed:e * 6<=d
 a1:102<=a
 sz:a + d + 13<=7000
inductive Ul (CM:Addr) (vs:List V) (H:Hp) (Q:VK) (E:XK):Prop
 | mk (v:V) (m:MD) (i n:Nat) (bs:List (Int × Int)) (lo hi:Int) (zH:List (List Int × Int)) (a e d:Nat) (pa sa ua:Addr) (pv uv:List V) (p us:List (Int × Int)) (sv:Int × Int) (_:vs=[v,.int (i:Int),.ref pa,.ref sa,.ref ua]) (_:wn CM H v m) (_:wO m n bs.length) (_:wu n bs m lo hi zH) (_:i < n) (_:H pa=some (.lst pv)) (_:yX H pv p) (_:H sa=some (.tup [.int sv.1,.int sv.2])) (_:H ua=some (.lst uv)) (_:yX H uv us) (_:Km p us sv n bs.length a e d) (_:∀ r (t b:Int) H',zG H H'->H' r=some (.tup [.int t,.int b])->0 < b->zZ (t,b)=vv n bs.length m (yZ p) (yZ us) (zZ sv) i->Bd (a + d + 11) t->Bd (d + 4) b->Q (.ref r) H'):Ul CM vs H Q E
inductive Um (CM:Addr) (vs:List V) (H:Hp) (Q:VK) (E:XK):Prop
 | mk (v:V) (m:MD) (n:Nat) (bs:List (Int × Int)) (lo hi:Int) (zH:List (List Int × Int)) (a e d:Nat) (pa sa ua:Addr) (pv uv:List V) (p us:List (Int × Int)) (sv:Int × Int) (_:vs=[v,.ref pa,.ref sa,.ref ua]) (_:wn CM H v m) (_:wO m n bs.length) (_:wu n bs m lo hi zH) (_:H pa=some (.lst pv)) (_:yX H pv p) (_:H sa=some (.tup [.int sv.1,.int sv.2])) (_:H ua=some (.lst uv)) (_:yX H uv us) (_:Km p us sv n bs.length a e d) (_:∀ l lv pts H',zG H H'->H' l=some (.lst lv)->yX H' lv pts->pts.length=n->vx pts (a + d + 11) (d + 4)->(∀ i,i < n->yZ pts i=vv n bs.length m (yZ p) (yZ us) (zZ sv) i)->Q (.ref l) H'):Um CM vs H Q E
section
variable {P:Program} {w:World} {K:PySem.W.Frag} {mg:Str->Option Value} {base:Heap} {cM cP:Addr}
abbrev Uo:Stmt:=yh 37
theorem ZB:ya ["mode","place","point","steering","pushes","numbers","values"] ["mode","place","point","steering","pushes"] (ze Uo):=.a
abbrev Yh:Stmt:=yh 36
theorem zFc:ya ["mode","point","steering","pushes"] ["mode","point","steering","pushes"] (ze Yh):=.a
variable {ac af:Addr} (ae:yJ K mg "Mode" ac) (ag:wr K ac) (ah:yJ K mg "Thing" af) (ai:wt K af)
include ae ag ah ai
theorem zE4 {k:Nat} {f:Addr} {fd:FuncData} (F:yb K "number_behind" "number_behind" Uo f fd) (B:Bl mg) (aQ:Fn P w K mg base "divided_sum" ["numbers","point","add","divisor"] k (YV K)):zU P w K mg base yG (k + 1) f fd ["mode","place","point","steering","pushes"] (Ul ac):=by
 refine F.ok ZB ?_ ?_
 ·rintro vs H Q E ⟨v,m,i,n,bs,lo,hh,zH,a,e,d,pa,sa,ua,pv,uv,p,us,sv,rfl,_⟩
  rfl
 rintro cdv A outer s H vs Q E hr ⟨v,m,i,n,bs,lo,hh,zH,a,e,d,pa,sa,ua,pv,uv,p,us,sv,rfl,hM,MO,G,hi,hpa,hpt,hsa,hua,hut,S,q⟩
 refine ⟨_,(zW (zy (i:=5) ZB.nd rfl (Or.inl rfl) (zV xh (zh yi (xm (zC 0) rfl) (zC 1) (λ_ _=>rfl)) (zh yi (xm (zC 0) rfl) (zC 1) (λ_ _=>rfl))))
  (zW (zy (i:=6) ZB.nd rfl (Or.inl rfl) (zV xh (zC 2) (zC 4)))
  (zW (yq (xX jn (zh yi (xm (zC 0) rfl) (zC 1) (λ_ _=>rfl)) zK (yu _)) (zW (zy (i:=5) ZB.nd rfl (Or.inl rfl) (zV xh (zC 5) (xF (zD (zh yi (xm (zC 0) rfl) (zC 1) (λ_ _=>rfl)) zI))))
   (zY (zy (i:=6) ZB.nd rfl (Or.inl rfl) (zV xh (zC 6) (xF (zD (zC 3) zI)))))) yt)
  (zY (yH (zk aQ hr rfl (zD (zC 5) (zD (zC 6) (zD (zh yi (xm (zC 0) rfl) (zC 1) (λ_ _=>rfl)) (zD (xm (zC 0) rfl) zI)))))))))),?_⟩
 try dsimp only [zP,Cx.nox,Cx.wish]
 obtain ⟨o,M,rfl,k0⟩:=hM
 have l1:=MO.nexts.1
 have l2:=MO.push.1
 have l3:=MO.steer
 have l4:=MO.add
 obtain ⟨na,en,gn,mn⟩:=Yc (i:=i) k0.hnv (by omega)
 obtain ⟨qa,eq',gq,mq⟩:=Yc (i:=i) k0.hpv (by omega)
 obtain ⟨es,ms⟩:=Kl (r:=m.steer) (j:=i) (by omega)
 obtain ⟨ea,ma⟩:=Kl (r:=m.add) (j:=i) (by omega)
 have ln:=MO.nexts.2 _ mn
 have lq:=MO.push.2 _ mq
 obtain ⟨lp,lu,n3,w2,PO,ed,a1,sz⟩:=S
 have lpv:pv.length=p.length:=Paired.length hpt
 have luv:uv.length=us.length:=Paired.length hut
 have d0:0 < m.div:=by have:=MO.div; omega
 have lnp:(m.nexts.getD i []).length=p.length:=by omega
 have lqu:(m.push.getD i []).length=us.length:=by omega
 have bx:∀ x∈(m.nexts.getD i [])++(m.push.getD i []),Bd 3 x:=λx hx=>(List.mem_append.mp hx).elim (G.nx _ mn x) λz=>(G.pu _ mq x z).mono
 have fin:∀ (t b:Int),zZ (t,b) * (m.div:Rat)=yO (m.nexts.getD i []) (yZ p) + yO (m.push.getD i []) (yZ us) + ((m.steer.getD i 0):Rat) * zZ sv + ((m.add.getD i 0):Rat)->zZ (t,b)=vv n bs.length m (yZ p) (yZ us) (zZ sv) i:=λt b h=>by
  have dd:=vG d0
  have ne:(m.div:Rat)≠0:=λz=>by rw [z] at dd; exact absurd dd Rat.lt_irrefl
  have e1:vv n bs.length m (yZ p) (yZ us) (zZ sv) i=zZ (t,b) * (m.div:Rat) / (m.div:Rat):=by
   rw [h]
   unfold vv yO
   rw [ln,lq,Rat.add_assoc _ _ ((m.add.getD i 0):Rat)]
  rw [e1,Rat.div_def,Rat.mul_assoc,Rat.mul_inv_cancel _ ne,Rat.mul_one]
 refine ⟨_,rfl,o,ac,M.dx,_,_,rfl,k0.ins,ae.cl,ag.n_nexts,rfl,_,rfl,M.n,_,_,_,rfl,rfl,zJ.of k0.hn,en,_,rfl,o,ac,M.dx,_,_,rfl,k0.ins,ae.cl,ag.n_push,rfl,_,rfl,M.p,_,_,_,rfl,rfl,zJ.of k0.hp,eq',na,qa,_,_,rfl,rfl,gn,gq,yd ((by rw [List.length_map,List.length_map]; omega)),λc1 hc1=>?_⟩
 obtain ⟨G1,hhG1,yG1,ec1⟩:=zw (HO.lst ((m.nexts.getD i []).map V.int++(m.push.getD i []).map V.int)) hc1
 rw [hhG1]
 have SG1:=yG1
 refine ⟨_,rfl,_,rfl,pa,ua,_,_,rfl,rfl,(SG1 _ _ hpa),(SG1 _ _ hua),yd (by omega),λc2 hc2=>?_⟩
 obtain ⟨G2,hhG2,yG2,ec2⟩:=zw (HO.lst (pv++uv)) hc2
 rw [hhG2]
 have SG2:=SG1.trans yG2
 replace ec1:=(yG2 _ _ ec1)
 refine ⟨_,rfl,o,ac,M.dx,_,_,rfl,(SG2 _ _ k0.ins),ae.cl,ag.n_steer,rfl,_,rfl,M.s,_,_,_,rfl,rfl,zJ.of (SG2 _ _ k0.hs),es,rfl,_,rfl,?_⟩
 refine vQ (λc=>?_) (λc=>?_)
 ·refine ⟨_,rfl,_,rfl,o,ac,M.dx,_,_,rfl,(SG2 _ _ k0.ins),ae.cl,ag.n_steer,rfl,_,rfl,M.s,_,_,_,rfl,rfl,zJ.of (SG2 _ _ k0.hs),es,wQ,λd1 hd1=>?_⟩
  obtain ⟨E1,hhE1,yE1,ed1⟩:=zw (HO.lst [V.int (m.steer.getD i 0)]) hd1
  rw [hhE1]
  have SE1:=SG2.trans yE1
  replace ec1:=(yE1 _ _ ec1)
  replace ec2:=(yE1 _ _ ec2)
  refine ⟨c1,d1,_,_,rfl,rfl,ec1,ed1,yd ((by rw [List.length_append,List.length_map,List.length_map]; show _ + 1<=1000; omega)),λc3 hc3=>?_⟩
  obtain ⟨E2,hhE2,yE2,ec3⟩:=zw (HO.lst ((m.nexts.getD i []).map V.int++(m.push.getD i []).map V.int++[V.int (m.steer.getD i 0)])) hc3
  rw [hhE2]
  have SE2:=SE1.trans yE2
  replace ec1:=(yE2 _ _ ec1)
  replace ec2:=(yE2 _ _ ec2)
  refine ⟨_,rfl,_,rfl,wQ,λd2 hd2=>?_⟩
  obtain ⟨E3,hhE3,yE3,ed2⟩:=zw (HO.lst [V.ref sa]) hd2
  rw [hhE3]
  have SE3:=SE2.trans yE3
  replace ec1:=(yE3 _ _ ec1)
  replace ec2:=(yE3 _ _ ec2)
  replace ec3:=(yE3 _ _ ec3)
  refine ⟨c2,d2,_,_,rfl,rfl,ec2,ed2,yd ((by rw [List.length_append]; show _ + 1<=1000; omega)),λc4 hc4=>?_⟩
  obtain ⟨E4,hhE4,yE4,ec4⟩:=zw (HO.lst (pv++uv++[V.ref sa])) hc4
  rw [hhE4]
  have SE4:=SE3.trans yE4
  replace ec1:=(yE4 _ _ ec1)
  replace ec2:=(yE4 _ _ ec2)
  replace ec3:=(yE4 _ _ ec3)
  have e3:E4 c3=some (.lst (((m.nexts.getD i [])++(m.push.getD i [])++[(m.steer.getD i 0)]).map V.int)):=ec3.trans (by rw [List.map_append,List.map_append]; rfl)
  have ht:yX E4 (pv++uv++[V.ref sa]) (p++us++[sv]):=xg ⟨sa,rfl,(SE4 _ _ hsa)⟩ (ju (hpt.same SE4) (hut.same SE4))
  have l6:(p++us++[sv]).length<=6:=by rw [List.length_append,List.length_append]; show _ + 1<=6; omega
  have G2:GQ ((m.nexts.getD i [])++(m.push.getD i [])++[(m.steer.getD i 0)]) (p++us++[sv]) 3 a e d:=⟨by rw [List.length_append,List.length_append,List.length_append,List.length_append]; show _ + 1=_ + 1; omega,l6,λx hx=>(List.mem_append.mp hx).elim (bx x) λz=>by rw [List.mem_singleton.mp z]; exact (G.st _ ms).mono,PO,Nat.le_trans (Nat.mul_le_mul_left e l6) ed,by omega⟩
  refine ⟨_,rfl,_,rfl,_,rfl,o,ac,M.dx,_,_,rfl,(SE4 _ _ k0.ins),ae.cl,ag.n_add,rfl,_,rfl,M.a,_,_,_,rfl,rfl,zJ.of (SE4 _ _ k0.ha),ea,_,rfl,o,ac,M.dx,_,_,rfl,(SE4 _ _ k0.ins),ae.cl,ag.n_divisor,rfl,c3,c4,_,_,_,3,a,e,d,_,_,rfl,.inr (zJ.of e3),zJ.of ec4,ht,G2,(G.ad _ ma).mono (by omega),d0,G.dv,λr t b H9 s9 e9 b0 ev bt bb=>?_⟩
  refine q r t b H9 (SE4.trans s9) e9 b0 (fin t b ?_) (bt.mono (by omega)) (bb.mono (by omega))
  rw [ev,Uk (by rw [List.length_append,List.length_append]; omega),Uk lnp]
  have e1:yO [(m.steer.getD i 0)] (yZ [sv])=((m.steer.getD i 0):Rat) * zZ sv:=by
   show (0:Rat) + ((m.steer.getD i 0):Rat) * zZ sv=_
   rw [Rat.zero_add]
  rw [e1]
 have st0:(m.steer.getD i 0)=0:=by
  by_cases z:(m.steer.getD i 0)=0
  ·exact z
  ·exact absurd (by rw [vk z]; rfl) c
 have e3:G2 c1=some (.lst (((m.nexts.getD i [])++(m.push.getD i [])).map V.int)):=ec1.trans (by rw [List.map_append])
 have ht:yX G2 (pv++uv) (p++us):=ju (hpt.same SG2) (hut.same SG2)
 have l6:(p++us).length<=6:=by rw [List.length_append]; omega
 have G2:GQ ((m.nexts.getD i [])++(m.push.getD i [])) (p++us) 3 a e d:=⟨by rw [List.length_append,List.length_append]; omega,l6,bx,λx hx=>PO x (List.mem_append_left _ hx),Nat.le_trans (Nat.mul_le_mul_left e l6) ed,by omega⟩
 refine ⟨_,rfl,_,rfl,_,rfl,o,ac,M.dx,_,_,rfl,(SG2 _ _ k0.ins),ae.cl,ag.n_add,rfl,_,rfl,M.a,_,_,_,rfl,rfl,zJ.of (SG2 _ _ k0.ha),ea,_,rfl,o,ac,M.dx,_,_,rfl,(SG2 _ _ k0.ins),ae.cl,ag.n_divisor,rfl,c1,c2,_,_,_,3,a,e,d,_,_,rfl,.inr (zJ.of e3),zJ.of ec2,ht,G2,(G.ad _ ma).mono (by omega),d0,G.dv,λr t b H9 s9 e9 b0 ev bt bb=>?_⟩
 refine q r t b H9 (SG2.trans s9) e9 b0 (fin t b ?_) (bt.mono (by omega)) (bb.mono (by omega))
 rw [ev,Uk lnp,st0]
 have e0:((0:Int):Rat)=0:=rfl
 rw [e0,Rat.zero_mul,Rat.add_zero]
theorem zFs {k:Nat} {f:Addr} {fd:FuncData} (F:yb K "point_behind" "point_behind" Yh f fd) (B:Bl mg) (bQ:Fn P w K mg base "number_behind" ["mode","place","point","steering","pushes"] k (Ul ac)):zU P w K mg base yG (k + 1) f fd ["mode","point","steering","pushes"] (Um ac):=by
 refine F.ok zFc ?_ ?_
 ·rintro vs H Q E ⟨v,m,n,bs,lo,hh,zH,a,e,d,pa,sa,ua,pv,uv,p,us,sv,rfl,_⟩
  rfl
 rintro cdv A outer s H vs Q E hr ⟨v,m,n,bs,lo,hh,zH,a,e,d,pa,sa,ua,pv,uv,p,us,sv,rfl,hM,MO,G,hpa,hpt,hsa,hua,hut,S,q⟩
 refine ⟨_,(zY (yH (xu (own:=["place"]) (caps:=[(0,"mode"),(1,"point"),(2,"steering"),(3,"pushes")]) (wD (S:=ze Yh) (N:=["mode","point","steering","pushes"]) ⟨_,rfl⟩) rfl (wX rfl B.range_ (zD (ym yw rfl B.len_ wZ (zD (xm (zC 0) rfl) zI)) zI)) (λ_ _ _ _=>zr (i:=0) (show (["place","mode","point","steering","pushes"]:List Str).Nodup by decide +kernel) rfl (Or.inl rfl)) (λ_ _ _ _=>(zk bQ hr rfl (zD (zC 1) (zD (zC 0) (zD (zC 2) (zD (zC 3) (zD (zC 4) zI)))))))))),?_⟩
 try dsimp only [zP,Cx.nox,Cx.wish]
 have hM2:=hM
 obtain ⟨o,M,rfl,k0⟩:=hM
 have l1:=MO.nexts.1
 have n3:=MO.n3
 have lnv:M.nv.length=m.nexts.length:=Paired.length k0.hnv
 refine ⟨_,rfl,o,ac,M.dx,_,_,rfl,k0.ins,ae.cl,ag.n_nexts,rfl,M.n,_,rfl,.inl (zJ.of k0.hn),_,rfl,(by omega),(by omega),jC (lo:=0) (n:=((M.nv.length:Nat):Int).toNat)
  (λi ys σ H'=>∃ pts,yX H' ys pts/\pts.length=i/\vx pts (a + d + 11) (d + 4)/\(∀ j,j < i->yZ pts j=vv n bs.length m (yZ p) (yZ us) (zZ sv) j)/\(∃ o1,σ=[o1,some (.ref o),some (.ref pa),some (.ref sa),some (.ref ua)])/\zG H H')
  ⟨[],.nil,rfl,(λp hp=>by cases hp),(λj hj=>absurd hj (Nat.not_lt_zero j)),⟨none,rfl⟩,zG.refl _⟩ (λi ys σ H' ⟨_,e1,l,_⟩=>by have:=Paired.length e1; omega) (yd (by omega)) ?_ ?_⟩
 ·rintro i ys σ H' hi ⟨pts,hys,lpt,PO,IB,⟨o1,rfl⟩,sm⟩
  refine ⟨_,rfl,_,rfl,_,rfl,_,rfl,_,rfl,.ref o,m,i,n,bs,lo,hh,zH,a,e,d,pa,sa,ua,pv,uv,p,us,sv,(by rw [Int.zero_add]; rfl),wn.same sm hM2,MO,G,(by omega),sm _ _ hpa,hpt.same sm,sm _ _ hsa,sm _ _ hua,hut.same sm,S,λr t b H2 s2 e2 b0 ev bt bb=>?_⟩
  refine ⟨pts++[(t,b)],xg (R:=vp _) ⟨r,rfl,e2⟩ (yX.same s2 hys),(by rw [List.length_append,lpt]; rfl),vX PO ⟨b0,bt,bb⟩,λj hj=>?_,⟨_,rfl⟩,sm.trans s2⟩
  by_cases c:j=i
  ·rw [Ue (lpt.trans c.symm),ev,c]
  ·rw [Ud (by omega)]
   exact IB j (by omega)
 rintro ys σ H' ⟨pts,hys,lpt,PO,IB,⟨o1,rfl⟩,sm⟩ l hl
 have z:=zx hl (HO.lst ys)
 exact q l ys pts _ (sm.trans z) zj (yX.same z hys) (by omega) PO λj hj=>IB j (by omega)
end
def wc (us:List Int):List (Int × Int):=us.map λu=>(u,1)
structure uK (bs:List (Int × Int)) (us:List Int):Prop where
 len:us.length=bs.length
 ends:∀ (j:Nat) (b:Int × Int) (u:Int),bs[j]? = some b->us[j]? = some u->u=b.1\/u=b.2
theorem Kn {us:List Int} {j:Nat} (h:j < us.length):yZ (wc us) j=(us.getD j 0:Rat):=by
 have e:us[j]? = some (us.getD j 0):=by rw [List.getD_eq_getElem?_getD,List.getElem?_eq_getElem h]; rfl
 rw [Ki (p:=(us.getD j 0,1)) (by unfold wc; rw [List.getElem?_map,e]; rfl)]
 refine jN (show (0:Int) < 1 by decide) ?_
 show ((us.getD j 0:Int):Rat)=((us.getD j 0:Int):Rat) * ((1:Int):Rat)
 have:((1:Int):Rat)=1:=rfl
 rw [this,Rat.mul_one]
theorem j4 (us:List Int):(wc us).length=us.length:=by unfold wc; rw [List.length_map]
theorem uK.mem {bs:List (Int × Int)} {us:List Int} (h:uK bs us) {P:Int->Prop} (k:∀ b∈bs,P b.1/\P b.2):∀ u∈us,P u:=λu hu=>by
 obtain ⟨j,hj⟩:=List.getElem?_of_mem hu
 have l:=h.len
 have jl:=(List.getElem?_eq_some_iff.mp hj).1
 have hb:bs[j]? = some (bs[j]'(by omega)):=List.getElem?_eq_getElem _
 have z:=k _ (List.mem_of_getElem? hb)
 rcases h.ends j _ u hb hj with e | e
 ·rw [e]; exact z.1
 ·rw [e]; exact z.2
theorem uK.ptb {bs:List (Int × Int)} {us:List Int} (h:uK bs us) {a e:Nat} (k:∀ b∈bs,Bd 102 b.1/\Bd 102 b.2) (a1:102<=a) (e1:1<=e):vx (wc us) a e:=λp hp=>by
 obtain ⟨u,hu,rfl⟩:=List.mem_map.mp hp
 exact ⟨Int.one_pos,(h.mem k u hu).mono a1,Bd.mono (i:=1) (n:=1) Bd.lit e1⟩
theorem zNI (bs:List (Int × Int)) (m:MD) (r:List Int × Int):uK bs (jg bs m r):=⟨KW bs m r,λj b u hb hu=>by
 unfold jg vF at hu
 rw [List.getElem?_map] at hu
 cases hz:(((List.range bs.length).map (zu r.1 m.push)).zip bs)[j]? with
 | none=>rw [hz] at hu; cases hu
 | some z=>
  rw [hz] at hu
  have e:=(List.getElem?_zip_eq_some.mp hz).2
  rw [hb] at e
  cases e
  cases hu
  dsimp only
  split
  ·exact .inr rfl
  ·exact .inl rfl⟩
theorem Yi {r:List Int × Int} {n:Nat} (lr:r.1.length=n) {q q':Nat->Rat} (h:∀ i,i < n->q' i=q i):xM r q' ↔ xM r q:=by
 unfold xM yO
 rw [uC (f:=λj=>(r.1.getD j 0:Rat) * q' j) (g:=λj=>(r.1.getD j 0:Rat) * q j) λj hj=>by rw [h j (by omega)]]
theorem Ko (u:Int):yg u 1=u/\yK u 1=1:=by
 have h:=XS (t:=u) (b:=1) (by decide)
 have p:=gu (t:=u) (b:=1) (by decide)
 have b1:Bd 1 (yK u 1):=jH (n:=1) Bd.lit
 have b2:(yK u 1).natAbs < 2 ^ 1:=b1
 have e1:yK u 1=1:=by omega
 rw [e1] at h
 exact ⟨by omega,e1⟩
inductive FV (H:Hp) (n:Nat) (bs:List (Int × Int)) (m:MD) (lo hi:Int) (zH:List (List Int × Int)) (k:Nat) (q:Nat->Rat) (x:Rat) (v:V):Prop
 | non (e:v=.non) (h:∀ r∈xi n bs m lo hi zH k,uI (jd n bs m r) q x):FV H n bs m lo hi zH k q x v
 | cor (us:List Int) (l:Addr) (lv:List V) (e:v=.ref l) (h:H l=some (.lst lv)) (p:yX H lv (wc us)) (c:uK bs us) (no:¬ ∀ r∈xi n bs m lo hi zH k,xM r (vv n bs.length m q (yZ (wc us)) x)):FV H n bs m lo hi zH k q x v
inductive Up (C CM:Addr) (vs:List V) (H:Hp) (Q:VK) (E:XK):Prop
 | mk (o kp km sa pa sr:Addr) (n k a e d:Nat) (bs:List (Int × Int)) (m:MD) (pv mv sv qv:List V) (lo hi:Int) (zH:List (List Int × Int)) (pts:List (Int × Int)) (lf:Int) (s:Int × Int) (_:vs=[.ref o,.ref sa,.int lo,.int hi,.int lf,.ref pa,.ref sr]) (_:lf=((k + 1:Nat):Int)) (_:yr C CM H o n bs [m] pv mv kp km) (_:wH n bs [m]) (_:m.rows=[]) (_:wu n bs m lo hi zH) (_:H sa=some (.lst sv)) (_:yI H sv zH) (_:k + 1<=6) (_:xz n bs m lo hi zH (k + 1)) (_:H pa=some (.lst qv)) (_:yX H qv pts) (_:pts.length=n) (_:vx pts a e) (_:H sr=some (.tup [.int s.1,.int s.2])) (_:0 < s.2) (_:Bd a s.1) (_:Bd e s.2) (_:1<=e) (_:102<=a) (_:e * 6<=d) (_:wK k + a + 4 * d + 50<=7000) (_:∀ v H',zG H H'->FV H' n bs m lo hi zH k (yZ pts) (zZ s) v->Q v H'):Up C CM vs H Q E
section
variable {P:Program} {w:World} {K:PySem.W.Frag} {mg:Str->Option Value} {base:Heap} {cM cP:Addr}
abbrev Uq:Stmt:=yh 55
theorem ZC:ya ["thing","safe","low","high","turns","point","steering","rooms","mode","row","pushes"] X6 (ze Uq):=.a
variable {ac af:Addr} (ae:yJ K mg "Mode" ac) (ag:wr K ac) (ah:yJ K mg "Thing" af) (ai:wt K af)
include ae ag ah ai
theorem zOo {k:Nat} {f:Addr} {fd:FuncData} (F:yb K "foe" "foe" Uq f fd) (B:Bl mg) (aO:Fn P w K mg base "held_rooms" ["thing","safe","low","high","turns"] k (X1 (kq af ac cM cP))) (aI:jG P w K mg base af "modes" ["self"] k (Z2 af ac)) (aH:Fn P w K mg base "worst_pushes" ["thing","row"] k (YI af ac)) (aJ:Fn P w K mg base "reach" ["thing","mode","row"] k (YE af ac)) (au:vi P w K mg base "fraction" ["top","bottom"] k gE (.int 1)) (aN:Fn P w K mg base "holds" ["row","point"] k (gM K)) (bR:Fn P w K mg base "point_behind" ["mode","point","steering","pushes"] k (Um ac)):zU P w K mg base yG (k + 1) f fd X6 (Up af ac):=by
 refine F.ok ZC ?_ ?_
 ·rintro vs H Q E ⟨o,kp,km,sa,pa,sr,n,k,a,e,d,bs,m,pv,mv,sv,qv,lo,hh,zH,pts,lf,sv',rfl,_⟩
  rfl
 rintro cdv A outer s H vs Q E hr ⟨o,kp,km,sa,pa,sr,n,k,a,e,d,bs,m,pv,mv,sv,qv,lo,hh,zH,pts,lf,sv',rfl,elf,TA,TO,r0,G,hsa,hsv,k6,ok,hpa,hpt,lp,PO,hsr,s0,bs1,bs2,e1,a1,ed,sz,q⟩
 have hrm:=hr
 refine ⟨_,(zW (zy (i:=7) ZC.nd rfl (Or.inl rfl) (zk aO hr rfl (zD (zC 0) (zD (zC 1) (zD (zC 2) (zD (zC 3) (zD (zC 4) zI)))))))
  (zW (zy (i:=8) ZC.nd rfl (Or.inl rfl) (zh yi (kK aI ah hrm (zC 0)) zK (λ_ _=>rfl)))
  (zW (wI PassesOwn.never rfl (xr (zh yi (zC 7) (zV (yU wz) (zC 4) zK) (λ_ _=>rfl))) (zr (i:=9) ZC.nd rfl (Or.inl rfl)) (zW (qO (i:=10) ZC.nd rfl rfl (own:=["push"]) (caps:=[]) (uZ rfl) rfl (xr (zk aH hr rfl (zD (zC 0) (zD (zk aJ hr rfl (zD (zC 0) (zD (zC 8) (zD (zC 9) zI)))) zI)))) (λ_ _ _ _=>zr (i:=0) (show (["push"]:List Str).Nodup by decide +kernel) rfl (Or.inl rfl)) (λ_ _ _ _=>(qK au hr rfl (zD (zC 0) zI))) rfl)
   (zY (yq (wS (xW (zk aN hr rfl (zD (zC 9) (zD (zk bR hr rfl (zD (zC 8) (zD (zC 5) (zD (zC 6) (zD (zC 10) zI))))) zI))))) (zY (yH (zC 10))) yt))))
  (zY (yH j5))))),?_⟩
 try dsimp only [zP,Cx.nox,Cx.wish]
 subst elf
 obtain ⟨dx,ins⟩:=TA.ins
 have n1:=G.n1
 have n3:=G.n3
 have b2:=G.b2
 have MO:=TO.mok m (List.mem_singleton.mpr rfl)
 have six:=qd (k:=k) (by omega)
 have bwk:=YX k
 have HB:=G.held k
 have l60':=ok k (Nat.le_succ k)
 have hmv:=TA.hmv
 obtain ⟨v0,emv⟩:∃ v0,mv=[v0]:=by
  have:=Paired.length hmv
  match mv,this with
  | [x],_=>exact ⟨x,rfl⟩
 subst emv
 have hM0:wn ac H v0 m:=by
  cases hmv with
  | cons h _=>exact h
 refine ⟨_,rfl,_,rfl,_,rfl,_,rfl,_,rfl,o,kp,km,sa,n,bs,[m],pv,_,sv,lo,hh,k + 1,zH,rfl,TA,TO,hsa,hsv,.inr ⟨m,rfl,⟨rfl,r0⟩,G,k6,λrl lv H1 s1 _ erl hlv _=>?_,λno=>absurd ok no⟩⟩
 obtain ⟨a0,rv0,at0',ea0,hr0⟩:=k7 hlv (Nat.le_succ k)
 have lrv:=Paired.length hr0
 refine ⟨_,rfl,o,dx,_,rfl,(s1 _ _ ins),rfl,o,kp,km,n,bs,_,pv,_,rfl,(yr.same s1 TA),λl1 J1 y1 _ el1=>?_⟩
 refine ⟨l1,_,0,v0,rfl,rfl,zJ.of el1,rfl,?_⟩
 have at0'':yk lv (((k + 1:Nat):Int) - 1)=some (.ref a0):=by rw [show ((k + 1:Nat):Int) - 1=(k:Int) by omega]; exact at0'
 have sJ:=s1.trans y1
 refine ⟨_,rfl,_,rfl,_,_,rfl,rfl,rl,_,_,_,rfl,rfl,zJ.of (y1 _ _ erl),at0'',a0,rfl,⟨_,zJ.of (y1 _ _ ea0)⟩,jR (K:=K) (a:=a0) (xs:=rv0)
  (λi σ H'=>∃ (o9 o10:Option V),σ=[some (.ref o),some (.ref sa),some (.int lo),some (.int hh),some (.int ((k + 1:Nat):Int)),some (.ref pa),some (.ref sr),some (.ref rl),some v0,o9,o10]/\zG J1 H'/\∀ r∈(xi n bs m lo hh zH k).take i,uI (jd n bs m r) (yZ pts) (zZ sv'))
  ⟨none,none,rfl,zG.refl _,(λr hr=>by cases hr)⟩ (λi σ H' _ ⟨_,_,_,s9,_⟩=>zJ.of (s9 _ _ (y1 _ _ ea0))) ?_ ?_⟩
 ·rintro i x σ M0 hix ⟨o9,o10,rfl,sm,hall⟩
  obtain ⟨⟨ws,b⟩,hrow,ra,rfl,ea9⟩:=xU hr0 hix
  obtain ⟨lw,W,bb⟩:=HB _ (List.mem_of_getElem? hrow)
  dsimp only at lw W bb
  have lA:((List.range n).map (zu ws m.nexts)).length=n:=by rw [List.length_map,List.length_range]
  have lP:((List.range bs.length).map (zu ws m.push)).length=bs.length:=by rw [List.length_map,List.length_range]
  have eR:(gI n bs.length ws b m).map V.int=zo ((List.range n).map (zu ws m.nexts)++(List.range bs.length).map (zu ws m.push)) (m.div * b - yj ws m.add):=by
   unfold gI zo
   rw [List.map_append]
   rfl
  have sM:=sJ.trans sm
  have eRow:=sm _ _ (y1 _ _ ea9)
  refine ⟨_,rfl,_,rfl,_,rfl,_,rfl,o,kp,km,ra,n,bs,[m],pv,_,v0,m,ws,b,rfl,TA.same sM,wn.same sM hM0,MO,G.mbd,n1,n3,(by omega),eRow,lw,(λx hx=>(W x hx).mono (by omega)),bb.mono (by omega),λt1 M1 z1 _ et1=>?_⟩
  rw [eR] at et1
  refine ⟨o,kp,km,t1,n,bs,[m],pv,_,_,_,_,rfl,TA.same (sM.trans z1),et1,lA,lP,(by omega),λl2 M2 z2 _ el2=>?_⟩
  have sN:=sM.trans (z1.trans z2)
  have CW:=zNI bs m (ws,b)
  have eW:vF ((List.range bs.length).map (zu ws m.push)) bs=jg bs m (ws,b):=rfl
  rw [eW] at el2
  have sr0:=sr
  generalize hU:jg bs m (ws,b)=us at CW el2
  have lus:=CW.len
  have BU:=CW.mem G.bb
  refine ⟨l2,rfl,⟨_,zJ.of el2⟩,vR (K:=K) (a:=l2) (xs:=us.map V.int) (λi ys σ H'=>yX H' ys (wc (us.take i))/\(∃ o,σ=[o])/\zG M2 H')
   ⟨.nil,⟨none,rfl⟩,zG.refl _⟩ (λi ys σ H' hi ⟨e1,_,s9⟩=>⟨zJ.of (s9 _ _ el2),by have:=Paired.length e1; rw [j4,List.length_take] at this; rw [List.length_map] at hi; omega⟩) (yd ((by rw [List.length_map]; omega))) ?_ ?_⟩
  ·rintro j x ys σ H' hj ⟨hys,⟨o1,rfl⟩,s9⟩
   obtain ⟨u,hu,rfl⟩:=vn hj
   refine ⟨_,rfl,u,1,rfl,(by decide),Bd.lit,λf H2 s2 e2=>⟨?_,⟨_,rfl⟩,s9.trans s2⟩⟩
   rw [(Ko u).1,(Ko u).2] at e2
   unfold wc at hys |-
   rw [xH hu,List.map_append]
   exact xg (R:=vp _) ⟨f,rfl,e2⟩ (yX.same s2 hys)
  rintro ys σ H' ⟨hys,⟨o1,rfl⟩,s9⟩ pl hpl
  rw [List.length_map,List.take_length] at hys
  have zp:=zx hpl (HO.lst ys)
  have epl:=zj (H:=H') (a:=pl) (o:=HO.lst ys)
  replace hys:=yX.same zp hys
  generalize hhP:upd H' pl (HO.lst ys)=P1 at zp epl hys |-
  have zA:=z1.trans (z2.trans (s9.trans zp))
  have sP:=sM.trans zA
  have PT:vx (pts++wc us++[sv']) a e:=λp hp=>by
   rcases List.mem_append.mp hp with hp | hp
   ·rcases List.mem_append.mp hp with hp | hp
    ·exact PO p hp
    ·exact CW.ptb G.bb a1 e1 p hp
   ·rw [List.mem_singleton.mp hp]
    exact ⟨s0,bs1,bs2⟩
  refine ⟨_,rfl,_,rfl,_,rfl,_,rfl,_,rfl,v0,m,n,bs,lo,hh,zH,a,e,d,pa,sr,pl,qv,ys,pts,wc us,sv',rfl,wn.same sP hM0,MO,G,sP _ _ hpa,hpt.same sP,sP _ _ hsr,epl,hys,⟨lp,by rw [j4]; exact lus,n3,b2,PT,ed,a1,by omega⟩,λnl nlv npts M5 s5 enl hnl lnp NPO NQ=>?_⟩
  refine ⟨ra,nl,ws,b,nlv,npts,wK k,a + d + 11,d + 4,(d + 4) * 3,rfl,(zA.trans s5) _ _ eRow,zJ.of enl,hnl,⟨lw.trans lnp.symm,by omega,W,NPO,Nat.mul_le_mul_left _ (by omega),by omega⟩,bb.mono (by omega),λy M6 s6 hy=>?_⟩
  refine ⟨_,rfl,?_⟩
  have hy2:y=true ↔ xM (ws,b) (vv n bs.length m (yZ pts) (yZ (wc us)) (zZ sv')):=hy.trans (Yi lw NQ)
  have s56:=s5.trans s6
  cases y with
  | false=>
   refine xo rfl ?_
   refine ⟨_,rfl,q _ M6 (sP.trans s56) (.cor us pl ys rfl (s56 _ _ epl) (yX.same s56 hys) CW λz=>?_)⟩
   have:=hy2.mpr (z _ (List.mem_of_getElem? hrow))
   cases this
  | true=>
   refine xA rfl ?_
   refine ⟨_,_,rfl,sm.trans (zA.trans s56),λr hr=>?_⟩
   rw [xH hrow] at hr
   rcases List.mem_append.mp hr with hr | hr
   ·exact hall r hr
   ·rw [List.mem_singleton.mp hr]
    exact zJp MO lw (λj hj=>by rw [Kn (by omega),<- hU]) (hy2.mp rfl)
 rintro σ M0 ⟨o9,o10,rfl,sm,hall⟩
 rw [lrv,List.take_length] at hall
 exact q _ _ (sJ.trans sm) (.non rfl hall)
end
def vY (H:Hp) (v:V) (us:List Int):Prop:=∃ a pv,v=.ref a/\H a=some (.lst pv)/\yX H pv (wc us)
theorem gQ {H H':Hp} {lv:List V} {cs:List (List Int)} (s:zG H H') (h:Paired (vY H) lv cs):Paired (vY H') lv cs:=Paired.mapP h λ_ _ ⟨a,pv,e,h,p⟩=>⟨a,pv,e,s _ _ h,yX.same s p⟩
theorem uK.snoc {bs:List (Int × Int)} {us:List Int} {b:Int × Int} {z:Int} (h:uK bs us) (hz:z=b.1\/z=b.2):uK (bs++[b]) (us++[z]):=by
 have l:=h.len
 refine ⟨by rw [List.length_append,List.length_append,l]; rfl,λj c u hc hu=>?_⟩
 by_cases k:j < bs.length
 ·rw [List.getElem?_append_left k] at hc
  rw [List.getElem?_append_left (by omega)] at hu
  exact h.ends j c u hc hu
 ·rw [List.getElem?_append_right (by omega)] at hc hu
  rw [l] at hu
  cases hj:j - bs.length with
  | zero=>rw [hj] at hc hu; cases hc; cases hu; exact hz
  | succ i=>rw [hj] at hc; cases hc
theorem uK.inb {bs:List (Int × Int)} {us:List Int} (h:uK bs us) (k:∀ b∈bs,b.1<=b.2) (j:Nat) (b:Int × Int) (hb:bs[j]? = some b):(b.1:Rat)<=yZ (wc us) j/\yZ (wc us) j<=(b.2:Rat):=by
 have l:=h.len
 have jl:=(List.getElem?_eq_some_iff.mp hb).1
 have hu:us[j]? = some (us.getD j 0):=by rw [List.getD_eq_getElem?_getD,List.getElem?_eq_getElem (show j < us.length by omega)]; rfl
 rw [Kn (by omega)]
 have z:=k b (List.mem_of_getElem? hb)
 have z':(b.1:Rat)<=(b.2:Rat):=by exact_mod_cast z
 rcases h.ends j b _ hb hu with e | e
 ·rw [e]; exact ⟨Rat.le_refl,z'⟩
 ·rw [e]; exact ⟨z',Rat.le_refl⟩
theorem ZD {rows:List (List Int × Int)} {n w b b':Nat} (h:WB rows n w b) (k:b<=b'):WB rows n w b':=λr hr=>⟨(h r hr).1,(h r hr).2.1,(h r hr).2.2.mono k⟩
inductive Ur (vs:List V) (H:Hp) (Q:VK) (E:XK):Prop
 | mk (ba:Addr) (bv:List V) (bs:List (Int × Int)) (_:vs=[.ref ba]) (_:H ba=some (.lst bv)) (_:Paired (wq H) bv bs) (_:bs.length<=2) (_:∀ l lv cs H',zG H H'->H' l=some (.lst lv)->Paired (vY H') lv cs->cs.length<=4->(∀ us∈cs,uK bs us)->Q (.ref l) H'):Ur vs H Q E
inductive Yj (vs:List V) (H:Hp) (Q:VK) (E:XK):Prop
 | mk (l ba:Addr) (lv bv:List V) (us:List Int) (bs:List (Int × Int)) (_:vs=[.ref l,.ref ba]) (_:H l=some (.lst lv)) (_:yX H lv (wc us)) (_:H ba=some (.lst bv)) (_:Paired (wq H) bv bs) (_:uK bs us) (_:∀ H',zG H H'->Q (.bl true) H'):Yj vs H Q E
inductive Us (K:PySem.W.Frag) (vs:List V) (H:Hp) (Q:VK) (E:XK):Prop
 | mk (st rm pa sr pb ma tt:Addr) (u:Int) (vf:V) (n k:Nat) (bs:List (Int × Int)) (m:MD) (lo hi t b:Int) (zH:List (List Int × Int)) (bv rv qv:List V) (pts:List (Int × Int)) (_:vs=[.ref st,.ref rm,.ref pa,.ref sr,vf]) (_:H st=some (.tup [.int (n:Int),.ref pb,.ref ma,.int u])) (_:H pb=some (.lst bv)) (_:Paired (wq H) bv bs) (_:H ma=some (.lst [.ref tt])) (_:xw H (.ref tt) m) (_:wH n bs [m]) (_:wu n bs m lo hi zH) (_:k<=6) (_:H rm=some (.lst rv)) (_:yI H rv (xi n bs m lo hi zH k)) (_:(xi n bs m lo hi zH k).length<=60) (_:H pa=some (.lst qv)) (_:yX H qv pts) (_:pts.length=n) (_:vx pts 110 3) (_:H sr=some (.tup [.int t,.int b])) (_:0 < b) (_:Bd 113 t) (_:Bd 3 b) (_:FV H n bs m lo hi zH k (yZ pts) (zZ (t,b)) vf) (_:∀ H',zG H H'->Q (.bl true) H'):Us K vs H Q E
section
variable {P:Program} {w:World} {K:PySem.W.Frag} {mg:Str->Option Value} {base:Heap} {cM cP:Addr}
abbrev ZE:Stmt:=yh 77
theorem ZF:ya ["_law_pushes","_law_found","_law_low","_law_high"] ["_law_pushes"] (ze ZE):=.a
abbrev Ut:Stmt:=yh 79
theorem Uu:ya ["_law_found","_law_pushes","_law_value","_law_bounds"] ["_law_found","_law_pushes"] (ze Ut):=.a
abbrev Uv:Stmt:=yh 78
theorem Kp:ya ["_law_spec","_law_room","_law_point_here","_law_steering","_law_found","_law_corner"] X4 (ze Uv):=.a
variable {ac af:Addr} (ae:yJ K mg "Mode" ac) (ag:wr K ac) (ah:yJ K mg "Thing" af) (ai:wt K af)
include ae ag ah ai
theorem zHh {k:Nat} {f:Addr} {fd:FuncData} (F:yb K "_law_corners" "_law_corners" ZE f fd) (B:Bl mg):zU P w K mg base yG (k + 1) f fd ["_law_pushes"] Ur:=by
 refine F.ok ZF ?_ ?_
 ·rintro vs H Q E ⟨ba,bv,bs,rfl,_⟩
  rfl
 rintro cdv A outer s H vs Q E hr ⟨ba,bv,bs,rfl,hba,hbv,b2,q⟩
 refine ⟨_,(zW (zy (i:=1) ZF.nd rfl (Or.inl rfl) (xF (zD (xF zI) zI)))
  (zW (wI PassesOwn.never rfl (xr (zC 0)) (vb rfl (yp (zr (i:=2) ZF.nd rfl (Or.inr rfl)) (yp (zr (i:=3) ZF.nd rfl (Or.inr rfl)) va))) (zY (zy (i:=1) ZF.nd rfl (Or.inl rfl) (zV xh (xu (own:=["_law_some"]) (caps:=[(2,"_law_low")]) (wD (S:=ze ZE) (N:=["_law_pushes","_law_found","_law_low","_law_high"]) ⟨_,rfl⟩) rfl (xr (zC 1)) (λ_ _ _ _=>zr (i:=0) (show (["_law_some","_law_low"]:List Str).Nodup by decide +kernel) rfl (Or.inl rfl)) (λ_ _ _ _=>(zV xh (zC 0) (xF (zD (xy (zD (zC 1) (zD zK zI))) zI))))) (xu (own:=["_law_some"]) (caps:=[(3,"_law_high")]) (wD (S:=ze ZE) (N:=["_law_pushes","_law_found","_law_low","_law_high"]) ⟨_,rfl⟩) rfl (xr (zC 1)) (λ_ _ _ _=>zr (i:=0) (show (["_law_some","_law_high"]:List Str).Nodup by decide +kernel) rfl (Or.inl rfl)) (λ_ _ _ _=>(zV xh (zC 0) (xF (zD (xy (zD (zC 1) (zD zK zI))) zI)))))))))
  (zY (yH (zC 1))))),?_⟩
 try dsimp only [zP,Cx.nox,Cx.wish]
 have lbv:=Paired.length hbv
 refine ⟨vL,λe0 he0=>?_⟩
 obtain ⟨G1,hhG1,yG1,ee0⟩:=zw (HO.lst ([]:List V)) he0
 rw [hhG1]
 have SG1:=yG1
 refine ⟨wQ,λf0 hf0=>?_⟩
 obtain ⟨G2,hhG2,yG2,ef0⟩:=zw (HO.lst [V.ref e0]) hf0
 rw [hhG2]
 have SG2:=SG1.trans yG2
 replace ee0:=(yG2 _ _ ee0)
 have hbv1:=xZ SG2 hbv
 have hba1:=SG2 _ _ hba
 refine ⟨_,rfl,ba,rfl,⟨_,zJ.of hba1⟩,jR (K:=K) (a:=ba) (xs:=bv)
  (λi σ H'=>∃ (fl:Addr) (lv:List V) (cs:List (List Int)) (o2 o3:Option V),σ=[some (.ref ba),some (.ref fl),o2,o3]/\zG G2 H'/\H' fl=some (.lst lv)/\Paired (vY H') lv cs/\cs.length<=2 ^ i/\(∀ us∈cs,uK (bs.take i) us))
  ⟨f0,_,[[]],none,none,rfl,zG.refl _,ef0,.cons ⟨e0,_,rfl,ee0,.nil⟩ .nil,Nat.le_refl _,λus hu=>by rw [List.mem_singleton.mp hu]; exact ⟨rfl,λ_ _ _ h=>nomatch h⟩⟩ (λi σ H' _ ⟨_,_,_,_,_,_,s9,_⟩=>zJ.of (s9 _ _ hba1)) ?_ ?_⟩
 ·rintro i x σ M0 hix ⟨fl,lv,cs,o2,o3,rfl,sm,efl,hcs,c4,HC⟩
  have i2:i < bv.length:=(List.getElem?_eq_some_iff.mp hix).1
  have p2:2 ^ i<=2 ^ 1:=Nat.pow_le_pow_right (by decide) (by omega)
  have llv:=Paired.length hcs
  obtain ⟨bb,hbb,p,rfl,ep⟩:=xU hbv1 hix
  refine ⟨p,_,rfl,zT.of (sm _ _ ep),rfl,_,_,rfl,_,_,rfl,rfl,?_⟩
  refine ⟨_,rfl,fl,rfl,⟨_,zJ.of ((zG.refl M0) _ _ efl)⟩,vR (K:=K) (a:=fl) (xs:=lv) (λj ys σ H'=>Paired (vY H') ys ((cs.take j).map λus=>us++[bb.1])/\(∃ o,σ=[o,some (.int bb.1)])/\zG M0 H')
   ⟨.nil,⟨none,rfl⟩,(zG.refl M0)⟩ (λj ys σ H' hj ⟨e1,_,s9⟩=>⟨zJ.of (s9 _ _ efl),by have:=Paired.length e1; rw [List.length_map,List.length_take] at this; omega⟩) (yd (by omega)) ?_ ?_⟩
  ·rintro j x ys σ H' hj ⟨hys,⟨o1,rfl⟩,s9⟩
   obtain ⟨us,hus,a9,pv,rfl,ea9,hp9⟩:=xU hcs hj
   have CU:=HC us (List.mem_of_getElem? hus)
   have lpv:=Paired.length hp9
   rw [j4,CU.len,List.length_take] at lpv
   refine ⟨_,rfl,_,rfl,wf,λtp htp=>?_⟩
   obtain ⟨N1,hh1,y1,etp⟩:=zw (HO.tup [V.int bb.1,V.int 1]) htp
   rw [hh1]
   refine ⟨wQ,λt1 ht1=>?_⟩
   obtain ⟨N2,hh2,y2,et1⟩:=zw (HO.lst [V.ref tp]) ht1
   rw [hh2]
   have s12:=s9.trans (y1.trans y2)
   refine ⟨a9,t1,_,_,rfl,rfl,s12 _ _ ea9,et1,yd ((by show pv.length + 1<=1000; omega)),λc hc=>?_⟩
   have y3:=zx hc (HO.lst (pv++[V.ref tp]))
   refine ⟨?_,⟨_,rfl⟩,s12.trans y3⟩
   rw [xH hus,List.map_append]
   refine xg (R:=vY _) ⟨c,_,rfl,zj,?_⟩ (gQ (y1.trans (y2.trans y3)) hys)
   unfold wc
   rw [List.map_append]
   exact xg (R:=vp _) (y:=(bb.1,1)) ⟨tp,rfl,y3 _ _ (y2 _ _ etp)⟩ (yX.same (s12.trans y3) hp9)
  rintro ysa σ H' ⟨hysa,⟨o1,rfl⟩,s9a⟩ la hla
  rw [llv,List.take_length] at hysa
  have za:=zx hla (HO.lst ysa)
  have ela:=zj (H:=H') (a:=la) (o:=HO.lst ysa)
  replace hysa:=gQ za hysa
  replace s9a:=s9a.trans za
  generalize hha:upd H' la (HO.lst ysa)=Ja at za ela hysa s9a |-
  clear za
  refine ⟨_,rfl,fl,rfl,⟨_,zJ.of (s9a _ _ efl)⟩,vR (K:=K) (a:=fl) (xs:=lv) (λj ys σ H'=>Paired (vY H') ys ((cs.take j).map λus=>us++[bb.2])/\(∃ o,σ=[o,some (.int bb.2)])/\zG Ja H')
   ⟨.nil,⟨none,rfl⟩,zG.refl _⟩ (λj ys σ H' hj ⟨e1,_,s9⟩=>⟨zJ.of (s9 _ _ (s9a _ _ efl)),by have:=Paired.length e1; rw [List.length_map,List.length_take] at this; omega⟩) (yd (by omega)) ?_ ?_⟩
  ·rintro j x ys σ H' hj ⟨hys,⟨o1,rfl⟩,s9⟩
   obtain ⟨us,hus,a9,pv,rfl,ea9,hp9⟩:=xU hcs hj
   have CU:=HC us (List.mem_of_getElem? hus)
   have lpv:=Paired.length hp9
   rw [j4,CU.len,List.length_take] at lpv
   refine ⟨_,rfl,_,rfl,wf,λtp htp=>?_⟩
   obtain ⟨N1,hh1,y1,etp⟩:=zw (HO.tup [V.int bb.2,V.int 1]) htp
   rw [hh1]
   refine ⟨wQ,λt1 ht1=>?_⟩
   obtain ⟨N2,hh2,y2,et1⟩:=zw (HO.lst [V.ref tp]) ht1
   rw [hh2]
   have s12:=s9a.trans (s9.trans (y1.trans y2))
   refine ⟨a9,t1,_,_,rfl,rfl,s12 _ _ ea9,et1,yd ((by show pv.length + 1<=1000; omega)),λc hc=>?_⟩
   have y3:=zx hc (HO.lst (pv++[V.ref tp]))
   refine ⟨?_,⟨_,rfl⟩,s9.trans (y1.trans (y2.trans y3))⟩
   rw [xH hus,List.map_append]
   refine xg (R:=vY _) ⟨c,_,rfl,zj,?_⟩ (gQ (y1.trans (y2.trans y3)) hys)
   unfold wc
   rw [List.map_append]
   exact xg (R:=vp _) (y:=(bb.2,1)) ⟨tp,rfl,y3 _ _ (y2 _ _ etp)⟩ (yX.same (s12.trans y3) hp9)
  rintro ysb σ H' ⟨hysb,⟨o1,rfl⟩,s9b⟩ lb hlb
  rw [llv,List.take_length] at hysb
  have zb:=zx hlb (HO.lst ysb)
  have elb:=zj (H:=H') (a:=lb) (o:=HO.lst ysb)
  replace hysb:=gQ zb hysb
  replace s9b:=s9b.trans zb
  generalize hhb:upd H' lb (HO.lst ysb)=Jb at zb elb hysb s9b |-
  clear zb
  have sab:=s9b
  have na:=Paired.length hysa
  have nb:=Paired.length hysb
  rw [List.length_map] at na nb
  refine ⟨la,lb,_,_,rfl,rfl,sab _ _ ela,elb,yd (by omega),λc hc=>?_⟩
  have zc:=zx hc (HO.lst (ysa++ysb))
  have pw:2 ^ (i + 1)=2 ^ i * 2:=Nat.pow_succ 2 i
  refine ⟨c,_,(cs.map λus=>us++[bb.1])++cs.map λus=>us++[bb.2],_,_,rfl,sm.trans (s9a.trans (sab.trans zc)),zj,gQ zc (ju (gQ sab hysa) hysb),(by rw [List.length_append,List.length_map,List.length_map]; omega),λus hu=>?_⟩
  rw [xH hbb]
  rcases List.mem_append.mp hu with hu | hu
  ·obtain ⟨v,hv,rfl⟩:=List.mem_map.mp hu
   exact (HC v hv).snoc (.inl rfl)
  ·obtain ⟨v,hv,rfl⟩:=List.mem_map.mp hu
   exact (HC v hv).snoc (.inr rfl)
 rintro σ M0 ⟨fl,lv,cs,o2,o3,rfl,sm,efl,hcs,c4,HC⟩
 have p2:2 ^ bv.length<=2 ^ 2:=Nat.pow_le_pow_right (by decide) (by omega)
 rw [lbv,List.take_length] at HC
 exact ⟨_,rfl,q fl lv cs M0 (SG2.trans sm) efl hcs (by omega) HC⟩
theorem zEn {k:Nat} {f:Addr} {fd:FuncData} (F:yb K "_law_right_pushes" "_law_right_pushes" Ut f fd) (B:Bl mg):zU P w K mg base yG (k + 1) f fd ["_law_found","_law_pushes"] Yj:=by
 refine F.ok Uu ?_ ?_
 ·rintro vs H Q E ⟨l,ba,lv,bv,us,bs,rfl,_⟩
  rfl
 rintro cdv A outer s H vs Q E hr ⟨l,ba,lv,bv,us,bs,rfl,hl,hp,hba,hbv,CW,q⟩
 refine ⟨_,(zW (yq (PW.pt (uE (wS (xW (ym vS rfl B.isinstance_ vJ (zD (zC 0) (zD (vN (v:=.ty "list") (u:=.type "list") rfl B.list_ wJ rfl) zI))))) (uL (xX jn (ym yw rfl B.len_ wZ (zD (zC 0) zI)) (ym yw rfl B.len_ wZ (zD (zC 1) zI)) (yu _))))) (zY (yH vH)) yt)
  (zW (wI PassesOwn.never rfl (qQ rfl B.zip_ (zD (zC 0) (zD (zC 1) zI))) (vb rfl (yp (zr (i:=2) Uu.nd rfl (Or.inl rfl)) (yp (zr (i:=3) Uu.nd rfl (Or.inl rfl)) va))) (zY (yq (PW.pt (uE (wS (xW (ym vS rfl B.isinstance_ vJ (zD (zC 2) (zD (vN (v:=.ty "tuple") (u:=.type "tuple") rfl B.tuple_ vK rfl) zI))))) (uL (xX (zLA hr.units) (zC 2) (xy (zD (xy (zD (zh yc (zC 3) zK (λ_ _=>rfl)) (zD zK zI))) (zD (xy (zD (zh yc (zC 3) zK (λ_ _=>rfl)) (zD zK zI))) zI))) (by rfl))))) (zY (yH vH)) yt)))
  (zY (yH vH)))),?_⟩
 try dsimp only [zP,Cx.nox,Cx.wish]
 have llv:=Paired.length hp
 have lbv:=Paired.length hbv
 rw [j4] at llv
 have len:=CW.len
 refine ⟨_,rfl,_,_,_,_,rfl,.lst hl,jF _,_,rfl,yn ?_⟩
 refine ⟨_,rfl,l,_,rfl,.inl (zJ.of hl),_,rfl,ba,_,rfl,.inl (zJ.of hba),rfl,_,rfl,xA (ZW (by omega)) ?_⟩
 refine ⟨_,rfl,_,rfl,l,ba,rfl,Xw (xs:=lv) (ys:=bv) (.inr (zJ.of hl)) (zJ.of hba)
  (λi σ H2=>∃ (o2 o3:Option V),σ=[some (.ref l),some (.ref ba),o2,o3]/\zG H H2) ⟨none,none,rfl,zG.refl _⟩ (λi σ H2 _ ⟨_,_,_,sm⟩=>sm) (by omega) ?_ ?_⟩
 ·rintro i x y T σ H2 hx hy hT ⟨o2,o3,rfl,sm⟩
  obtain ⟨pr,hpr,f,rfl,ef⟩:=xU hp hx
  obtain ⟨bb,hbb,p,rfl,ep⟩:=xU hbv hy
  obtain ⟨u,hu,rfl⟩:∃ u,us[i]? = some u/\pr=(u,1):=by
   unfold wc at hpr
   rw [List.getElem?_map] at hpr
   cases hz:us[i]? with
   | none=>rw [hz] at hpr; cases hpr
   | some u=>rw [hz] at hpr; cases hpr; exact ⟨u,rfl,rfl⟩
  have EU:=CW.ends i bb u hbb hu
  obtain ⟨L1,hhL1,yL1,eT⟩:=zw (HO.tup [V.ref f,V.ref p]) hT
  rw [hhL1]
  have SL1:=sm.trans yL1
  have eF:=SL1 _ _ ef
  have eP:=SL1 _ _ ep
  refine ⟨T,_,rfl,zT.of eT,rfl,_,_,rfl,_,_,rfl,rfl,?_⟩
  refine ⟨_,rfl,_,_,_,_,rfl,.tup eF,gz _,_,rfl,yn ?_⟩
  refine ⟨_,rfl,_,rfl,p,_,0,_,rfl,rfl,zT.of eP,vm,wf,λq1 hq1=>?_⟩
  obtain ⟨L2,hhL2,yL2,eq1⟩:=zw (HO.tup [V.int bb.1,V.int 1]) hq1
  rw [hhL2]
  have SL2:=SL1.trans yL2
  replace eF:=(yL2 _ _ eF)
  replace eP:=(yL2 _ _ eP)
  refine ⟨_,rfl,p,_,1,_,rfl,rfl,zT.of eP,w4,wf,λq2 hq2=>?_⟩
  obtain ⟨L3,hhL3,yL3,eq2⟩:=zw (HO.tup [V.int bb.2,V.int 1]) hq2
  rw [hhL3]
  have SL3:=SL2.trans yL3
  replace eF:=(yL3 _ _ eF)
  replace eq1:=(yL3 _ _ eq1)
  refine ⟨wf,λq3 hq3=>?_⟩
  obtain ⟨L4,hhL4,yL4,eq3⟩:=zw (HO.tup [V.ref q1,V.ref q2]) hq3
  rw [hhL4]
  have SL4:=SL3.trans yL4
  replace eF:=(yL4 _ _ eF)
  replace eq1:=(yL4 _ _ eq1)
  replace eq2:=(yL4 _ _ eq2)
  refine ⟨.tuple ([u,1].map PyData.int),[.tuple ([bb.1,1].map PyData.int),.tuple ([bb.2,1].map PyData.int)],.tup (zT.of eF) (kY [u,1]),.tup (zT.of eq3) (.cons (.tup (zT.of eq1) (kY [bb.1,1])) (.cons (.tup (zT.of eq2) (kY [bb.2,1])) .nil)),rfl,rfl,(by show PyData.depthAll ([u,1].map PyData.int) + 1<=60; rw [WD]; decide),_,rfl,xA ?_ ?_⟩
  ·rw [List.any_cons,List.any_cons,Qg,Qg]
   rcases EU with e | e
   ·rw [e,decide_eq_true rfl]
    rfl
   ·rw [e,decide_eq_true (p:=[bb.2,1]=[bb.2,1]) rfl,Bool.true_or,Bool.or_true]
    rfl
  exact ⟨_,_,rfl,SL4⟩
 rintro σ H2 ⟨o2,o3,rfl,sm⟩
 exact q _ sm
theorem zLN {k:Nat} {f:Addr} {fd:FuncData} (F:yb K "_law_best" "_law_best" Uv f fd) (B:Bl mg) (aR:Fn P w K mg base "_law_right_pushes" ["_law_found","_law_pushes"] k Yj) (ax:Fn P w K mg base "_law_lies" ["_law_room","_law_point_here"] k (gN K)) (aE:Fn P w K mg base "_law_behind" Z8 k (Yd K)) (bT:Fn P w K mg base "_law_corners" ["_law_pushes"] k Ur):zU P w K mg base yG (k + 1) f fd X4 (Us K):=by
 refine F.ok Kp ?_ ?_
 ·rintro vs H Q E ⟨st,rm,pa,sr,pb,ma,tt,u,vf,n,k,bs,m,lo,hh,t,b,zH,bv,rv,qv,pts,rfl,_⟩
  rfl
 rintro cdv A outer s H vs Q E hr ⟨st,rm,pa,sr,pb,ma,tt,u,vf,n,k,bs,m,lo,hh,t,b,zH,bv,rv,qv,pts,rfl,est,hpb,hbv,hma,MT,TO,G,k6,hrm,hrv,r60,hpa,hpt,lp,PO,hsr,b0,bt,bb,hf,q⟩
 refine ⟨_,(zW (yq (xX JR (zC 4) j5 (yu _)) (zW (yq (wS (xW (zk aR hr rfl (zD (zC 4) (zD (zh yc (zC 0) zK (λ_ _=>rfl)) zI))))) (zY (yH vH)) yt)
   (zY (yH (JB (zk ax hr rfl (zD (zC 1) (zD (zk aE hr rfl (zD (zh yi (zh yc (zC 0) zK (λ_ _=>rfl)) zK (λ_ _=>rfl)) (zD (zC 2) (zD (zC 3) (zD (zC 4) zI))))) zI))))))) yt)
  (zW (wI PassesOwn.never rfl (xr (zk bT hr rfl (zD (zh yc (zC 0) zK (λ_ _=>rfl)) zI))) (zr (i:=5) Kp.nd rfl (Or.inl rfl)) (zY (yq (wS (xW (zk ax hr rfl (zD (zC 1) (zD (zk aE hr rfl (zD (zh yi (zh yc (zC 0) zK (λ_ _=>rfl)) zK (λ_ _=>rfl)) (zD (zC 2) (zD (zC 3) (zD (zC 5) zI))))) zI))))) (zY (yH vH)) yt)))
  (zY (yH vH)))),?_⟩
 try dsimp only [zP,Cx.nox,Cx.wish]
 have n1:=G.n1
 have n3:=G.n3
 have b2:=G.b2
 have MO:=TO.mok m (List.mem_singleton.mpr rfl)
 have six:=qd k6
 have HBk:=G.held k
 cases hf with
 | cor us l lv e el hp CW no=>
  cases e
  refine ⟨_,rfl,rfl,_,rfl,xo rfl ?_⟩
  refine ⟨_,rfl,_,rfl,st,_,_,_,rfl,rfl,zT.of est,(show yk [V.int (n:Int),V.ref pb,V.ref ma,V.int u] 1=some (.ref pb) from rfl),l,pb,lv,bv,us,bs,rfl,el,hp,hpb,hbv,CW,λJ1 y1=>?_⟩
  refine ⟨_,rfl,xA rfl ?_⟩
  refine ⟨_,rfl,_,rfl,st,_,_,_,rfl,rfl,zT.of (y1 _ _ est),(show yk [V.int (n:Int),V.ref pb,V.ref ma,V.int u] 2=some (.ref ma) from rfl),ma,_,_,_,rfl,rfl,zJ.of (y1 _ _ hma),(show yk [V.ref tt] 0=some (.ref tt) from rfl),_,rfl,_,rfl,_,rfl,tt,pa,sr,l,n,110,3,9,113,3,246,bs,m,lo,hh,t,b,zH,qv,lv,pts,wc us,rfl,xw.same y1 MT,MO,G,y1 _ _ hpa,hpt.same y1,lp,PO,(by omega),y1 _ _ hsr,b0,bt,bb,y1 _ _ el,yX.same y1 hp,(by rw [j4]; exact CW.len),CW.ptb G.bb (by decide) (by decide),(by decide),(by decide),(by decide),(by decide),(by decide),λnp nqv npts J5 y5 enp hnp lnp NPO NQ=>?_⟩
  have s5:=y1.trans y5
  refine ⟨rm,np,rv,nqv,_,npts,n,wK k,246,25,75,rfl,zJ.of (s5 _ _ hrm),yI.same s5 hrv,zJ.of enp,hnp,ZD HBk (by omega),(by omega),lnp,n3,NPO,(by rw [lnp]; omega),(by omega),λy J6 y6 hy=>?_⟩
  refine ⟨_,rfl,?_⟩
  have hn:y=false:=by
   cases y with
   | false=>rfl
   | true=>exact absurd (λr hr=>(Yi (HBk r hr).1 NQ).mp (hy.mp rfl r hr)) no
  subst hn
  exact q _ (s5.trans y6)
 | non e hall=>
 cases e
 refine ⟨_,rfl,rfl,_,rfl,xA rfl ?_⟩
 refine ⟨_,rfl,st,_,_,_,rfl,rfl,zT.of est,(show yk [V.int (n:Int),V.ref pb,V.ref ma,V.int u] 1=some (.ref pb) from rfl),pb,bv,bs,rfl,hpb,hbv,b2,λcl cv cs J1 y1 ecl hcs c4 HC=>?_⟩
 have lcv:=Paired.length hcs
 refine ⟨cl,rfl,⟨_,zJ.of ecl⟩,jR (K:=K) (a:=cl) (xs:=cv) (λi σ H'=>∃ (o5:Option V),σ=[some (.ref st),some (.ref rm),some (.ref pa),some (.ref sr),some .non,o5]/\zG J1 H') ⟨none,rfl,zG.refl _⟩ (λi σ H' _ ⟨_,_,s9⟩=>zJ.of (s9 _ _ ecl)) ?_ ?_⟩
 ·rintro i x σ M0 hix ⟨o5,rfl,sm⟩
  obtain ⟨us,hus,l,lv,rfl,el,hp⟩:=xU hcs hix
  have CW:=HC us (List.mem_of_getElem? hus)
  have sM:=y1.trans sm
  refine ⟨_,rfl,_,rfl,st,_,_,_,rfl,rfl,zT.of (sM _ _ est),(show yk [V.int (n:Int),V.ref pb,V.ref ma,V.int u] 2=some (.ref ma) from rfl),ma,_,_,_,rfl,rfl,zJ.of (sM _ _ hma),(show yk [V.ref tt] 0=some (.ref tt) from rfl),_,rfl,_,rfl,_,rfl,tt,pa,sr,l,n,110,3,9,113,3,246,bs,m,lo,hh,t,b,zH,qv,lv,pts,wc us,rfl,xw.same sM MT,MO,G,sM _ _ hpa,hpt.same sM,lp,PO,(by omega),sM _ _ hsr,b0,bt,bb,sm _ _ el,yX.same sm hp,(by rw [j4]; exact CW.len),CW.ptb G.bb (by decide) (by decide),(by decide),(by decide),(by decide),(by decide),(by decide),λnp nqv npts J5 y5 enp hnp lnp NPO NQ=>?_⟩
  have s5:=sM.trans y5
  refine ⟨rm,np,rv,nqv,_,npts,n,wK k,246,25,75,rfl,zJ.of (s5 _ _ hrm),yI.same s5 hrv,zJ.of enp,hnp,ZD HBk (by omega),(by omega),lnp,n3,NPO,(by rw [lnp]; omega),(by omega),λy J6 y6 hy=>?_⟩
  have hyt:y=true:=hy.mpr λr hr=>(Yi (HBk r hr).1 NQ).mpr (KU MO (HBk r hr).1 (CW.inb TO.bok) (hall r hr))
  subst hyt
  refine ⟨_,rfl,xA rfl ?_⟩
  exact ⟨_,rfl,sm.trans (y5.trans y6)⟩
 rintro σ M0 ⟨o5,rfl,sm⟩
 exact q _ (y1.trans sm)
end
def x9 (n:Nat):Nat->Nat × Nat
 | 0=>(110,3)
 | i + 1=>((x9 n i).1 + (x9 n i).2 * n + 130,(x9 n i).2 * n + 16)
theorem Uw:∀ i,i < 5->110<=(x9 1 i).1/\(x9 1 i).1<=1000/\3<=(x9 1 i).2/\(x9 1 i).2<=100:=by decide
theorem Ux:∀ i,i < 3->110<=(x9 2 i).1/\(x9 2 i).1<=1000/\3<=(x9 2 i).2/\(x9 2 i).2<=100:=by decide
theorem Uy:∀ i,i < 2->110<=(x9 3 i).1/\(x9 3 i).1<=1000/\3<=(x9 3 i).2/\(x9 3 i).2<=100:=by decide
theorem zOS {n k i:Nat} (h:(n=1/\k<=4)\/(n=2/\k<=2)\/(n=3/\k<=1)) (hi:i<=k):110<=(x9 n i).1/\(x9 n i).1<=1000/\3<=(x9 n i).2/\(x9 n i).2<=100:=by
 rcases h with ⟨rfl,h⟩ | ⟨rfl,h⟩ | ⟨rfl,h⟩
 ·exact Uw i (by omega)
 ·exact Ux i (by omega)
 ·exact Uy i (by omega)
theorem Kq:∀ {k:Nat},k < 4->wK k<=90:=by decide
theorem zNh {T E:Hp->Prop} {J:Hp} {y:Bool} {B:Prop} (kb:∀ J',zG J J'->T J') (h:(∀ J',zG J J'->T J')->y=false->B):if y=true then (if true=true then T J else E J) else B:=by
 cases y with
 | true=>exact xY (xY (kb J (zG.refl _)))
 | false=>exact yn (h kb rfl)
inductive RV (H:Hp) (n:Nat) (bs:List (Int × Int)) (m:MD) (lo hi:Int) (zH:List (List Int × Int)) (k:Nat) (v:V):Prop
 | yes (ok:xz n bs m lo hi zH k) (l:Addr) (lv:List V) (e:v=.ref l) (h:H l=some (.lst lv)) (r:w8 H lv (ui n bs m lo hi zH k)):RV H n bs m lo hi zH k v
 | non (e:v=.non):RV H n bs m lo hi zH k v
theorem zJ2 {C CM:Addr} {H:Hp} {Q:VK} {E:XK} {o kp km sa:Addr} {n k:Nat} {bs:List (Int × Int)} {m:MD} {lo hi:Int} {pv mv sv:List V} {zH:List (List Int × Int)} (TA:yr C CM H o n bs [m] pv mv kp km) (TO:wH n bs [m]) (r0:m.rows=[]) (G:wu n bs m lo hi zH) (hsa:H sa=some (.lst sv)) (hsv:yI H sv zH) (k6:k<=6) (h:∀ d H',zG H H'->RV H' n bs m lo hi zH k d->Q d H'):Ye C CM [.ref o,.ref sa,.int lo,.int hi,.int (k:Int)] H Q E:=
 ⟨o,kp,km,sa,n,k,bs,m,pv,mv,sv,lo,hi,zH,rfl,TA,TO,r0,G,hsa,hsv,k6,λok l lv H' s e r=>h _ _ s (.yes ok l lv rfl e r),λ_ H' s=>h _ _ s (.non rfl)⟩
theorem RV.same {H H':Hp} {n:Nat} {bs:List (Int × Int)} {m:MD} {lo hi:Int} {zH:List (List Int × Int)} {k:Nat} {v:V} (s:zG H H'):RV H n bs m lo hi zH k v->RV H' n bs m lo hi zH k v
 | .yes ok l lv e h r=>.yes ok l lv e (s _ _ h) (w8.same s r)
 | .non e=>.non e
theorem Kr {H:Hp} {vs:List V} {pts:List (Int × Int)} (h:yX H vs pts) (l:pts.length=1):∃ (r:Addr) (t b:Int),vs=[.ref r]/\pts=[(t,b)]/\H r=some (.tup [.int t,.int b]):=by
 cases h with
 | nil=>cases l
 | cons h r=>
  cases r with
  | cons _ _=>cases l
  | nil=>
   obtain ⟨r,e,q⟩:=h
   exact ⟨r,_,_,by rw [e],rfl,q⟩
section
variable {P:Program} {w:World} {K:PySem.W.Frag} {mg:Str->Option Value} {base:Heap} {cM cP:Addr}
abbrev wj:Stmt:=yh 80
theorem vZ:ya jb ["_law_script"] (ze wj):=.a
variable {ac af:Addr} (ae:yJ K mg "Mode" ac) (ag:wr K ac) (ah:yJ K mg "Thing" af) (ai:wt K af)
include ae ag ah ai
theorem zOn {k:Nat} {f:Addr} {fd:FuncData} (F:yb K "law" "law" wj f fd) (B:Bl mg) (bU:Fn P w K mg base "_law_game" ["_law_script"] k (UI K)) (bV:Fn P w K mg base "_law_made" ["_law_spec"] k (UA af ac)) (bW:Fn P w K mg base "_law_rooms" kX k (Ye af ac)) (bX:Fn P w K mg base "_law_near" ["_law_spec","_law_safe_here","_law_cell"] k Ui) (ar:Fn P w K mg base "_law_cell_at" ["_law_script","_law_k"] k (kH K)) (ax:Fn P w K mg base "_law_lies" ["_law_room","_law_point_here"] k (gN K)) (bY:Fn P w K mg base "holder" ["thing","safe","low","high","turns","point"] k (UW af ac K)) (aS:Fn P w K mg base "foe" X6 k (Up af ac)) (aX:Fn P w K mg base "_law_point" ["_law_cell","_law_box_here"] k Uf) (bZ:Fn P w K mg base "_law_best" X4 k (Us K)) (aR:Fn P w K mg base "_law_right_pushes" ["_law_found","_law_pushes"] k Yj) (aE:Fn P w K mg base "_law_behind" Z8 k (Yd K)):zU P w K mg base yG (k + 1) f fd ["_law_script"] (kI K):=by
 refine F.ok vZ ?_ ?_
 ·rintro vs H Q E ⟨a,ns,rfl,_⟩
  rfl
 rintro cdv A outer s H vs Q E hr ⟨a,ns,rfl,hS,lns,q⟩
 obtain ⟨u_8,E_8,U_8⟩:=L2.vU (p:=λt=>xc (zP yG P w K mg base jb "law" (ze wj) f cdv A outer s H E).nox ((xR wj).drop 8) t) (zW (wI PassesOwn.never rfl (wX rfl B.range_ (zD (zC 5) zI)) (zr (i:=12) vZ.nd rfl (Or.inl rfl)) (zW (zy (i:=10) vZ.nd rfl (Or.inl rfl) (zh yi (zk aX hr rfl (zD (zV (yU yz) (zk ar hr rfl (zD (zC 0) (zD (zV (yU yz) zK (zC 12)) zI))) (zC 12)) (zD (xF (zD (xy (zD (zC 3) (zD (zC 4) zI))) zI)) zI))) zK (λ_ _=>rfl)))
  (zW (zy (i:=11) vZ.nd rfl (Or.inl rfl) (zk aS hr rfl (zD (zC 6) (zD (xn vP rfl B.list_ wJ (zD (zC 2) zI)) (zD (zC 3) (zD (zC 4) (zD (zV (yU wz) (zC 5) (zC 12)) (zD (xn vP rfl B.list_ wJ (zD (zC 8) zI)) (zD (zC 10) zI)))))))))
  (zW (yq (wS (xW (zk aR hr rfl (zD (zC 11) (zD (zh yc (zC 1) zK (λ_ _=>rfl)) zI))))) (zY (yH vH)) yt)
  (zW (zy (i:=8) vZ.nd rfl (Or.inl rfl) (zk aE hr rfl (zD (zh yi (zh yc (zC 1) zK (λ_ _=>rfl)) zK (λ_ _=>rfl)) (zD (zC 8) (zD (zC 10) (zD (zC 11) zI))))))
  (zY (yq (wS (xW (zk ax hr rfl (zD (zC 2) (zD (zC 8) zI))))) (zY (yH vH)) yt)))))))
 (zY (yH vH)))
 obtain ⟨u_7,E_7,U_7⟩:=L2.vU (p:=λt=>xc (zP yG P w K mg base jb "law" (ze wj) f cdv A outer s H E).nox ((xR wj).drop 7) t) (zW (yq (PW.pt (uE (xW (zC 9)) (uL (wS (xW (zk ax hr rfl (zD (zC 2) (zD (zC 8) zI)))))))) (zW (zy (i:=10) vZ.nd rfl (Or.inl rfl) (zh yi (zk aX hr rfl (zD (zk ar hr rfl (zD (zC 0) (zD zK zI))) (zD (xF (zD (xy (zD (zC 3) (zD (zC 4) zI))) zI)) zI))) zK (λ_ _=>rfl)))
  (zW (zy (i:=11) vZ.nd rfl (Or.inl rfl) (zk aS hr rfl (zD (zC 6) (zD (xn vP rfl B.list_ wJ (zD (zC 2) zI)) (zD (zC 3) (zD (zC 4) (zD (zC 5) (zD (xn vP rfl B.list_ wJ (zD (zC 8) zI)) (zD (zC 10) zI)))))))))
  (zY (yH (zk bZ hr rfl (zD (zC 1) (zD (zh yi (zC 7) (zV (yU wz) (zC 5) zK) (λ_ _=>rfl)) (zD (zC 8) (zD (zC 10) (zD (zC 11) zI)))))))))) yt)
 U_8)
 obtain ⟨u_6,E_6,U_6⟩:=L2.vU (p:=λt=>xc (zP yG P w K mg base jb "law" (ze wj) f cdv A outer s H E).nox ((xR wj).drop 6) t) (zW (yq (xW (zC 9)) (zW (zy (i:=10) vZ.nd rfl (Or.inl rfl) (zk bY hr rfl (zD (zC 6) (zD (zC 2) (zD (zC 3) (zD (zC 4) (zD (zC 5) (zD (zC 8) zI))))))))
  (zY (yq (xX JR (zk aS hr rfl (zD (zC 6) (zD (xn vP rfl B.list_ wJ (zD (zC 2) zI)) (zD (zC 3) (zD (zC 4) (zD (zC 5) (zD (xn vP rfl B.list_ wJ (zD (zC 8) zI)) (zD (zC 10) zI)))))))) j5 (yu _)) (zY (yH vH)) yt))) yt)
 U_7)
 obtain ⟨u_5,E_5,U_5⟩:=L2.vU (p:=λt=>xc (zP yG P w K mg base jb "law" (ze wj) f cdv A outer s H E).nox ((xR wj).drop 5) t) (zW (zy (i:=9) vZ.nd rfl (Or.inl rfl) (zk ax hr rfl (zD (zh yi (zC 7) (zC 5) (λ_ _=>rfl)) (zD (zC 8) zI))))
 U_6)
 obtain ⟨u_4,E_4,U_4⟩:=L2.vU (p:=λt=>xc (zP yG P w K mg base jb "law" (ze wj) f cdv A outer s H E).nox ((xR wj).drop 4) t) (zW (yq (xX zOk (zC 7) j5 (yu _)) (zY (yH vH)) yt)
 U_5)
 obtain ⟨u_3,E_3,U_3⟩:=L2.vU (p:=λt=>xc (zP yG P w K mg base jb "law" (ze wj) f cdv A outer s H E).nox ((xR wj).drop 3) t) (zW (zy (i:=8) vZ.nd rfl (Or.inl rfl) (zk bX hr rfl (zD (zC 1) (zD (zC 2) (zD (zk ar hr rfl (zD (zC 0) (zD zK zI))) zI)))))
 U_4)
 obtain ⟨u_2,E_2,U_2⟩:=L2.vU (p:=λt=>xc (zP yG P w K mg base jb "law" (ze wj) f cdv A outer s H E).nox ((xR wj).drop 2) t) (zW (zy (i:=7) vZ.nd rfl (Or.inl rfl) (zk bW hr rfl (zD (zC 6) (zD (zC 2) (zD (zC 3) (zD (zC 4) (zD (zC 5) zI)))))))
 U_3)
 obtain ⟨u_1,E_1,U_1⟩:=L2.vU (p:=λt=>xc (zP yG P w K mg base jb "law" (ze wj) f cdv A outer s H E).nox ((xR wj).drop 1) t) (zW (zy (i:=6) vZ.nd rfl (Or.inl rfl) (zk bV hr rfl (zD (zC 1) zI)))
 U_2)
 refine ⟨_,(zW (qp (zk bU hr rfl (zD (zC 0) zI)) (vb rfl (yp (zr (i:=1) vZ.nd rfl (Or.inl rfl)) (yp (zr (i:=2) vZ.nd rfl (Or.inl rfl)) (yp (zr (i:=3) vZ.nd rfl (Or.inl rfl)) (yp (zr (i:=4) vZ.nd rfl (Or.inl rfl)) (yp (zr (i:=5) vZ.nd rfl (Or.inl rfl)) va)))))))
 U_1),?_⟩
 try dsimp only [zP,Cx.nox,Cx.wish]
 refine ⟨_,rfl,a,ns,rfl,hS,λv J0 y0 GV=>?_⟩
 obtain ⟨gt,st,sa,n,k,bs,m,u,lo,hi,sv,zH,rfl,egt,SV,esa,hsv,G,TO,r0,k1,kn,u0,bu,lohi⟩:=GV
 have n1:=G.n1
 have n3:=G.n3
 have b2:=G.b2
 have s8:=G.s8
 have k4:k<=4:=by omega
 have MO:=TO.mok m List.mem_cons_self
 refine ⟨gt,_,rfl,zT.of egt,rfl,_,_,rfl,_,_,rfl,_,_,rfl,_,_,rfl,_,_,rfl,rfl,?_⟩
 show u_1 _ [some (.ref a),some (.ref st),some (.ref sa),some (.int lo),some (.int hi),some (.int (k:Int)),none,none,none,none,none,none,none] _
 rw [E_1]
 try dsimp only [zP,Cx.nox,Cx.wish]
 have SG1:=y0
 refine ⟨_,rfl,.ref st,n,bs,[m],u,rfl,SV,TO,λo kp km pv mv J1 y1 TA=>?_⟩
 have SG2:=SG1.trans y1
 replace esa:=(y1 _ _ esa)
 replace hsv:=(yI.same y1 hsv)
 replace SV:=(uj.same y1 SV)
 show u_2 _ [some (.ref a),some (.ref st),some (.ref sa),some (.int lo),some (.int hi),some (.int (k:Int)),some (.ref o),none,none,none,none,none,none] _
 rw [E_2]
 try dsimp only [zP,Cx.nox,Cx.wish]
 refine ⟨_,rfl,_,rfl,_,rfl,_,rfl,_,rfl,zJ2 TA TO r0 G esa hsv (by omega) (λdV J2 y2 hd=>?_)⟩
 have SG3:=SG2.trans y2
 replace esa:=(y2 _ _ esa)
 replace hsv:=(yI.same y2 hsv)
 replace SV:=(uj.same y2 SV)
 replace TA:=(yr.same y2 TA)
 show u_3 _ [some (.ref a),some (.ref st),some (.ref sa),some (.int lo),some (.int hi),some (.int (k:Int)),some (.ref o),some dV,none,none,none,none,none] _
 rw [E_3]
 try dsimp only [zP,Cx.nox,Cx.wish]
 obtain ⟨st',pb,ma,bv,mv0,zst,est,epb,hbv,ema,hmv⟩:=SV
 cases zst
 cases hmv with
 | cons MT wk=>
 cases wk
 rename_i v0
 obtain ⟨tt,rfl⟩:∃ tt,v0=.ref tt:=by
  obtain ⟨tt,_,_,_,_,_,_,_,_,e,_⟩:=MT
  exact ⟨tt,e⟩
 refine ⟨_,rfl,_,rfl,_,rfl,a,ns,7,rfl,SG3.seq hS,(by decide),st,sa,_,_,_,u,n,sv,zH,rfl,est,n1,n3,u0,bu,esa,hsv,G.sf,s8,λpa0 qv0 pts0 J3 y3 epa0 hqv0 lp0 PO0=>?_⟩
 have SG4:=SG3.trans y3
 replace esa:=(y3 _ _ esa)
 replace hsv:=(yI.same y3 hsv)
 replace TA:=(yr.same y3 TA)
 replace hd:=(RV.same y3 hd)
 replace est:=(y3 _ _ est)
 replace epb:=(y3 _ _ epb)
 replace hbv:=(xZ y3 hbv)
 replace ema:=(y3 _ _ ema)
 replace MT:=(xw.same y3 MT)
 show u_4 _ [some (.ref a),some (.ref st),some (.ref sa),some (.int lo),some (.int hi),some (.int (k:Int)),some (.ref o),some dV,some (.ref pa0),none,none,none,none] _
 rw [E_4]
 try dsimp only [zP,Cx.nox,Cx.wish]
 cases hd with
 | non e=>
  cases e
  refine ⟨_,rfl,rfl,_,rfl,xo rfl ?_⟩
  exact q _
 | yes ok rl lv e erl hlv=>
 cases e
 refine ⟨_,rfl,rfl,_,rfl,xA rfl ?_⟩
 show u_5 _ [some (.ref a),some (.ref st),some (.ref sa),some (.int lo),some (.int hi),some (.int (k:Int)),some (.ref o),some (.ref rl),some (.ref pa0),none,none,none,none] _
 rw [E_5]
 try dsimp only [zP,Cx.nox,Cx.wish]
 obtain ⟨kk,ek⟩:∃ kk:Nat,k=kk + 1:=⟨k - 1,by omega⟩
 obtain ⟨a1,rv1,at1',ea1,hr1⟩:=k7 hlv (Nat.le_refl k)
 have six:=qd (k:=k) (by omega)
 have HBk:=G.held k
 have okk:=ok k (Nat.le_refl _)
 have wk3:=Kq (k:=kk) (by omega)
 refine ⟨_,rfl,_,rfl,rl,_,_,_,rfl,rfl,zJ.of erl,at1',_,rfl,a1,pa0,rv1,qv0,_,pts0,n,wK k,110,3,3 * n,rfl,zJ.of ea1,hr1,zJ.of epa0,hqv0,ZD HBk (by omega),(by omega),lp0,n3,PO0,(by rw [lp0]; exact Nat.le_refl _),(by omega),λy J4 y4 hy=>?_⟩
 have SG5:=SG4.trans y4
 replace esa:=(y4 _ _ esa)
 replace hsv:=(yI.same y4 hsv)
 replace TA:=(yr.same y4 TA)
 replace est:=(y4 _ _ est)
 replace epb:=(y4 _ _ epb)
 replace hbv:=(xZ y4 hbv)
 replace ema:=(y4 _ _ ema)
 replace MT:=(xw.same y4 MT)
 replace epa0:=(y4 _ _ epa0)
 replace hqv0:=(yX.same y4 hqv0)
 replace erl:=(y4 _ _ erl)
 replace hlv:=(w8.same y4 hlv)
 have K7:∀ (o10:Option V) (J5:Hp),zG J4 J5->u_7 { nx:=λ_ H'=>Q .non H',rt:=Q } [some (.ref a),some (.ref st),some (.ref sa),some (.int lo),some (.int hi),some (.int (k:Int)),some (.ref o),some (.ref rl),some (.ref pa0),some (.bl y),o10,none,none] J5:=by
  intro o10 J5 y5
  rw [E_7]
  try dsimp only [zP,Cx.nox,Cx.wish]
  have esa:=(y5 _ _ esa)
  have hsv:=(yI.same y5 hsv)
  have TA:=(yr.same y5 TA)
  have est:=(y5 _ _ est)
  have epb:=(y5 _ _ epb)
  have hbv:=(xZ y5 hbv)
  have ema:=(y5 _ _ ema)
  have MT:=(xw.same y5 MT)
  have epa0:=(y5 _ _ epa0)
  have hqv0:=(yX.same y5 hqv0)
  have erl:=(y5 _ _ erl)
  have hlv:=(w8.same y5 hlv)
  refine ⟨_,rfl,_,rfl,zNh ?_ ?_⟩
  ·intro J6 y6
   have esa:=(y6 _ _ esa)
   have hsv:=(yI.same y6 hsv)
   have TA:=(yr.same y6 TA)
   have est:=(y6 _ _ est)
   have epb:=(y6 _ _ epb)
   have hbv:=(xZ y6 hbv)
   have ema:=(y6 _ _ ema)
   have MT:=(xw.same y6 MT)
   have epa0:=(y6 _ _ epa0)
   have hqv0:=(yX.same y6 hqv0)
   have erl:=(y6 _ _ erl)
   have hlv:=(w8.same y6 hlv)
   refine ⟨_,rfl,a,ns,8,rfl,(SG5.trans (y5.trans y6)).seq hS,(by decide),_,rfl,_,rfl,wf,λt2 ht2=>?_⟩
   obtain ⟨C1,hhC1,yC1,et2⟩:=zw (HO.tup [V.int lo,V.int hi]) ht2
   rw [hhC1]
   have SC1:=y6.trans yC1
   replace esa:=(yC1 _ _ esa)
   replace hsv:=(yI.same yC1 hsv)
   replace TA:=(yr.same yC1 TA)
   replace est:=(yC1 _ _ est)
   replace epb:=(yC1 _ _ epb)
   replace hbv:=(xZ yC1 hbv)
   replace ema:=(yC1 _ _ ema)
   replace MT:=(xw.same yC1 MT)
   replace epa0:=(yC1 _ _ epa0)
   replace hqv0:=(yX.same yC1 hqv0)
   replace erl:=(yC1 _ _ erl)
   replace hlv:=(w8.same yC1 hlv)
   refine ⟨wQ,λl2 hl2=>?_⟩
   obtain ⟨C2,hhC2,yC2,el2⟩:=zw (HO.lst [V.ref t2]) hl2
   rw [hhC2]
   have SC2:=SC1.trans yC2
   replace esa:=(yC2 _ _ esa)
   replace hsv:=(yI.same yC2 hsv)
   replace TA:=(yr.same yC2 TA)
   replace est:=(yC2 _ _ est)
   replace epb:=(yC2 _ _ epb)
   replace hbv:=(xZ yC2 hbv)
   replace ema:=(yC2 _ _ ema)
   replace MT:=(xw.same yC2 MT)
   replace epa0:=(yC2 _ _ epa0)
   replace hqv0:=(yX.same yC2 hqv0)
   replace erl:=(yC2 _ _ erl)
   replace hlv:=(w8.same yC2 hlv)
   replace et2:=(yC2 _ _ et2)
   refine ⟨_,l2,[V.ref t2],[(lo,hi)],rfl,el2,.cons ⟨t2,rfl,et2⟩ .nil,(show 1<=2 by decide),(λb hb=>by rw [List.mem_singleton.mp hb]; exact ⟨lohi,G.lo,G.hi⟩),λsl slv spts JP yP esl hsl lsl PSL ISL=>?_⟩
   obtain ⟨sr,tS,bS,rfl,rfl,esr⟩:=Kr hsl lsl
   obtain ⟨bS0,btS,bbS⟩:=PSL _ List.mem_cons_self
   have inS:=ISL 0 (lo,hi) rfl
   clear hsl ISL PSL
   have SC3:=SC2.trans yP
   replace esa:=(yP _ _ esa)
   replace hsv:=(yI.same yP hsv)
   replace TA:=(yr.same yP TA)
   replace est:=(yP _ _ est)
   replace epb:=(yP _ _ epb)
   replace hbv:=(xZ yP hbv)
   replace ema:=(yP _ _ ema)
   replace MT:=(xw.same yP MT)
   replace epa0:=(yP _ _ epa0)
   replace hqv0:=(yX.same yP hqv0)
   replace erl:=(yP _ _ erl)
   replace hlv:=(w8.same yP hlv)
   refine ⟨sl,_,_,_,rfl,rfl,zJ.of esl,rfl,?_⟩
   refine ⟨_,rfl,_,rfl,sa,_,rfl,.inl (zJ.of esa),λs2 hs2=>?_⟩
   obtain ⟨C4,hhC4,yC4,es2⟩:=zw (HO.lst sv) hs2
   rw [hhC4]
   have SC4:=SC3.trans yC4
   replace esa:=(yC4 _ _ esa)
   replace hsv:=(yI.same yC4 hsv)
   replace TA:=(yr.same yC4 TA)
   replace est:=(yC4 _ _ est)
   replace epb:=(yC4 _ _ epb)
   replace hbv:=(xZ yC4 hbv)
   replace ema:=(yC4 _ _ ema)
   replace MT:=(xw.same yC4 MT)
   replace epa0:=(yC4 _ _ epa0)
   replace hqv0:=(yX.same yC4 hqv0)
   replace erl:=(yC4 _ _ erl)
   replace hlv:=(w8.same yC4 hlv)
   replace esr:=(yC4 _ _ esr)
   refine ⟨_,rfl,_,rfl,_,rfl,_,rfl,pa0,_,rfl,.inl (zJ.of epa0),λp2 hp2=>?_⟩
   obtain ⟨C5,hhC5,yC5,ep2⟩:=zw (HO.lst qv0) hp2
   rw [hhC5]
   have SC5:=SC4.trans yC5
   replace esa:=(yC5 _ _ esa)
   replace hsv:=(yI.same yC5 hsv)
   replace TA:=(yr.same yC5 TA)
   replace est:=(yC5 _ _ est)
   replace epb:=(yC5 _ _ epb)
   replace hbv:=(xZ yC5 hbv)
   replace ema:=(yC5 _ _ ema)
   replace MT:=(xw.same yC5 MT)
   replace epa0:=(yC5 _ _ epa0)
   replace hqv0:=(yX.same yC5 hqv0)
   replace erl:=(yC5 _ _ erl)
   replace hlv:=(w8.same yC5 hlv)
   replace esr:=(yC5 _ _ esr)
   replace es2:=(yC5 _ _ es2)
   refine ⟨_,rfl,o,kp,km,s2,p2,sr,n,kk,110,3,18,bs,m,pv,mv,sv,qv0,lo,hi,zH,pts0,_,(tS,bS),rfl,(by omega),TA,TO,r0,G,es2,hsv,(by omega),ek ▸ ok,ep2,hqv0,lp0,PO0,esr,bS0,btS,bbS,(by decide),(by decide),(by decide),(by omega),λvf JF yF hf=>?_⟩
   have SC6:=SC5.trans yF
   replace esa:=(yF _ _ esa)
   replace hsv:=(yI.same yF hsv)
   replace TA:=(yr.same yF TA)
   replace est:=(yF _ _ est)
   replace epb:=(yF _ _ epb)
   replace hbv:=(xZ yF hbv)
   replace ema:=(yF _ _ ema)
   replace MT:=(xw.same yF MT)
   replace epa0:=(yF _ _ epa0)
   replace hqv0:=(yX.same yF hqv0)
   replace erl:=(yF _ _ erl)
   replace hlv:=(w8.same yF hlv)
   replace esr:=(yF _ _ esr)
   obtain ⟨a0,rv0,at0',ea0,hr0⟩:=k7 (j:=kk) hlv (by omega)
   have at0'':yk lv ((k:Int) - 1)=some (.ref a0):=by rw [show (k:Int) - 1=(kk:Int) by omega]; exact at0'
   refine ⟨_,rfl,_,rfl,_,rfl,_,_,rfl,rfl,rl,_,_,_,rfl,rfl,zJ.of erl,at0'',_,rfl,_,rfl,_,rfl,st,a0,pa0,sr,pb,ma,tt,u,vf,n,kk,bs,m,lo,hi,tS,bS,zH,bv,rv0,qv0,pts0,rfl,est,epb,hbv,ema,MT,TO,G,(by omega),ea0,hr0,ok kk (by omega),epa0,hqv0,lp0,PO0,esr,bS0,btS.mono,bbS,hf,λH' s'=>q _⟩
  intro KB y0
  subst y0
  have c:¬ ∀ r∈xi n bs m lo hi zH k,xM r (yZ pts0):=λz=>by cases hy.mpr z
  refine ⟨_,rfl,_,rfl,sa,pa0,sv,qv0,zH,pts0,n,2,110,3,3 * n,rfl,zJ.of esa,hsv,zJ.of epa0,hqv0,ZD G.sf (by decide),(by omega),lp0,n3,PO0,(by rw [lp0]; exact Nat.le_refl _),(by omega),λy2 J6 y6 hy2=>?_⟩
  refine ⟨_,rfl,?_⟩
  cases y2 with
  | false=>exact xo rfl (KB J6 y6)
  | true=>
  have c2:=hy2.mp rfl
  clear KB
  refine xA rfl ?_
  have SB1:=y5.trans y6
  replace esa:=(y6 _ _ esa)
  replace hsv:=(yI.same y6 hsv)
  replace TA:=(yr.same y6 TA)
  replace est:=(y6 _ _ est)
  replace epb:=(y6 _ _ epb)
  replace hbv:=(xZ y6 hbv)
  replace ema:=(y6 _ _ ema)
  replace MT:=(xw.same y6 MT)
  replace epa0:=(y6 _ _ epa0)
  replace hqv0:=(yX.same y6 hqv0)
  show u_8 _ [some (.ref a),some (.ref st),some (.ref sa),some (.int lo),some (.int hi),some (.int (k:Int)),some (.ref o),some (.ref rl),some (.ref pa0),some (.bl false),o10,none,none] _
  rw [E_8]
  try dsimp only [zP,Cx.nox,Cx.wish]
  refine ⟨_,rfl,_,rfl,(by omega),(by omega),uO (lo:=0) (n:=((k:Nat):Int).toNat)
   (λi σ H'=>∃ (pa2:Addr) (qv:List V) (pts:List (Int × Int)) (o10 o11 o12:Option V),σ=[some (.ref a),some (.ref st),some (.ref sa),some (.int lo),some (.int hi),some (.int (k:Int)),some (.ref o),some (.ref rl),some (.ref pa2),some (.bl false),o10,o11,o12]/\zG J6 H'/\H' pa2=some (.lst qv)/\yX H' qv pts/\pts.length=n/\vx pts (x9 n i).1 (x9 n i).2/\(∀ r∈zH,xM r (yZ pts))/\¬ ∀ r∈xi n bs m lo hi zH (k - i),xM r (yZ pts))
   ⟨pa0,qv0,pts0,o10,none,none,rfl,zG.refl _,epa0,hqv0,lp0,PO0,c2,c⟩ ?_ ?_⟩
  ·rintro i σ L0 hik ⟨pa2,qv,pts,o10,o11,o12,rfl,sm,epa2,hqv,lp,PO,HS,HN⟩
   have ik:i < k:=by omega
   obtain ⟨j,ej⟩:∃ j:Nat,k - i=j + 1:=⟨k - i - 1,by omega⟩
   rw [ej] at HN
   obtain ⟨z1,z2,z3,z4⟩:=zOS kn (Nat.le_of_lt ik)
   have e1:k - (i + 1)=j:=by omega
   have es:x9 n (i + 1)=((x9 n i).1 + (x9 n i).2 * n + 130,(x9 n i).2 * n + 16):=rfl
   have en:(x9 n i).2 * n<=(x9 n i).2 * 3:=Nat.mul_le_mul_left _ n3
   generalize hA:(x9 n i).1=A1 at *
   generalize hE:(x9 n i).2=E1 at *
   generalize hD:E1 * n=D1 at *
   have wj3:=Kq (k:=j) (by omega)
   have esa:=(sm _ _ esa)
   have hsv:=(yI.same sm hsv)
   have TA:=(yr.same sm TA)
   have est:=(sm _ _ est)
   have epb:=(sm _ _ epb)
   have hbv:=(xZ sm hbv)
   have ema:=(sm _ _ ema)
   have MT:=(xw.same sm MT)
   refine ⟨_,rfl,_,rfl,_,_,rfl,rfl,a,ns,_,rfl,(SG5.trans (y5.trans (y6.trans sm))).seq hS,(by omega),_,rfl,_,_,rfl,rfl,_,rfl,_,rfl,wf,λt2 ht2=>?_⟩
   obtain ⟨L1,hhL1,yL1,et2⟩:=zw (HO.tup [V.int lo,V.int hi]) ht2
   rw [hhL1]
   have SL1:=sm.trans yL1
   replace esa:=(yL1 _ _ esa)
   replace hsv:=(yI.same yL1 hsv)
   replace TA:=(yr.same yL1 TA)
   replace est:=(yL1 _ _ est)
   replace epb:=(yL1 _ _ epb)
   replace hbv:=(xZ yL1 hbv)
   replace ema:=(yL1 _ _ ema)
   replace MT:=(xw.same yL1 MT)
   replace epa2:=(yL1 _ _ epa2)
   replace hqv:=(yX.same yL1 hqv)
   refine ⟨wQ,λl2 hl2=>?_⟩
   obtain ⟨L2,hhL2,yL2,el2⟩:=zw (HO.lst [V.ref t2]) hl2
   rw [hhL2]
   have SL2:=SL1.trans yL2
   replace esa:=(yL2 _ _ esa)
   replace hsv:=(yI.same yL2 hsv)
   replace TA:=(yr.same yL2 TA)
   replace est:=(yL2 _ _ est)
   replace epb:=(yL2 _ _ epb)
   replace hbv:=(xZ yL2 hbv)
   replace ema:=(yL2 _ _ ema)
   replace MT:=(xw.same yL2 MT)
   replace epa2:=(yL2 _ _ epa2)
   replace hqv:=(yX.same yL2 hqv)
   replace et2:=(yL2 _ _ et2)
   refine ⟨_,l2,[V.ref t2],[(lo,hi)],rfl,el2,.cons ⟨t2,rfl,et2⟩ .nil,(show 1<=2 by decide),(λb hb=>by rw [List.mem_singleton.mp hb]; exact ⟨lohi,G.lo,G.hi⟩),λsl slv spts JP yP esl hsl lsl PSL ISL=>?_⟩
   obtain ⟨sr,tS,bS,rfl,rfl,esr⟩:=Kr hsl lsl
   obtain ⟨bS0,btS,bbS⟩:=PSL _ List.mem_cons_self
   have inS:=ISL 0 (lo,hi) rfl
   clear hsl ISL PSL
   have SL3:=SL2.trans yP
   replace esa:=(yP _ _ esa)
   replace hsv:=(yI.same yP hsv)
   replace TA:=(yr.same yP TA)
   replace est:=(yP _ _ est)
   replace epb:=(yP _ _ epb)
   replace hbv:=(xZ yP hbv)
   replace ema:=(yP _ _ ema)
   replace MT:=(xw.same yP MT)
   replace epa2:=(yP _ _ epa2)
   replace hqv:=(yX.same yP hqv)
   refine ⟨sl,_,_,_,rfl,rfl,zJ.of esl,rfl,?_⟩
   refine ⟨_,rfl,_,rfl,sa,_,rfl,.inl (zJ.of esa),λs2 hs2=>?_⟩
   obtain ⟨L4,hhL4,yL4,es2⟩:=zw (HO.lst sv) hs2
   rw [hhL4]
   have SL4:=SL3.trans yL4
   replace esa:=(yL4 _ _ esa)
   replace hsv:=(yI.same yL4 hsv)
   replace TA:=(yr.same yL4 TA)
   replace est:=(yL4 _ _ est)
   replace epb:=(yL4 _ _ epb)
   replace hbv:=(xZ yL4 hbv)
   replace ema:=(yL4 _ _ ema)
   replace MT:=(xw.same yL4 MT)
   replace epa2:=(yL4 _ _ epa2)
   replace hqv:=(yX.same yL4 hqv)
   replace esr:=(yL4 _ _ esr)
   refine ⟨_,rfl,_,rfl,_,rfl,_,rfl,_,_,rfl,rfl,_,rfl,pa2,_,rfl,.inl (zJ.of epa2),λp2 hp2=>?_⟩
   obtain ⟨L5,hhL5,yL5,ep2⟩:=zw (HO.lst qv) hp2
   rw [hhL5]
   have SL5:=SL4.trans yL5
   replace esa:=(yL5 _ _ esa)
   replace hsv:=(yI.same yL5 hsv)
   replace TA:=(yr.same yL5 TA)
   replace est:=(yL5 _ _ est)
   replace epb:=(yL5 _ _ epb)
   replace hbv:=(xZ yL5 hbv)
   replace ema:=(yL5 _ _ ema)
   replace MT:=(xw.same yL5 MT)
   replace epa2:=(yL5 _ _ epa2)
   replace hqv:=(yX.same yL5 hqv)
   replace esr:=(yL5 _ _ esr)
   replace es2:=(yL5 _ _ es2)
   refine ⟨_,rfl,o,kp,km,s2,p2,sr,n,j,A1,E1,E1 * 6,bs,m,pv,mv,sv,qv,lo,hi,zH,pts,_,(tS,bS),rfl,(by omega),TA,TO,r0,G,es2,hsv,(by omega),ok.less (by omega),ep2,hqv,lp,PO,esr,bS0,btS.mono z1,bbS.mono z3,(by omega),(by omega),Nat.le_refl _,(by omega),λvf JF yF hf=>?_⟩
   have SL6:=SL5.trans yF
   replace esa:=(yF _ _ esa)
   replace hsv:=(yI.same yF hsv)
   replace TA:=(yr.same yF TA)
   replace est:=(yF _ _ est)
   replace epb:=(yF _ _ epb)
   replace hbv:=(xZ yF hbv)
   replace ema:=(yF _ _ ema)
   replace MT:=(xw.same yF MT)
   replace epa2:=(yF _ _ epa2)
   replace hqv:=(yX.same yF hqv)
   replace esr:=(yF _ _ esr)
   cases hf with
   | non e h=>exact absurd (zNv G HS h inS.1 inS.2) HN
   | cor us fl flv e efl hp CW no=>
   cases e
   refine ⟨_,rfl,_,rfl,st,_,_,_,rfl,rfl,zT.of est,(show yk [V.int (n:Int),V.ref pb,V.ref ma,V.int u] 1=some (.ref pb) from rfl),fl,pb,flv,bv,us,bs,rfl,efl,hp,epb,hbv,CW,λJR yR=>?_⟩
   refine ⟨_,rfl,xA rfl ?_⟩
   have SL7:=SL6.trans yR
   replace esa:=(yR _ _ esa)
   replace hsv:=(yI.same yR hsv)
   replace TA:=(yr.same yR TA)
   replace est:=(yR _ _ est)
   replace ema:=(yR _ _ ema)
   replace MT:=(xw.same yR MT)
   replace epa2:=(yR _ _ epa2)
   replace hqv:=(yX.same yR hqv)
   replace esr:=(yR _ _ esr)
   replace efl:=(yR _ _ efl)
   replace hp:=(yX.same yR hp)
   refine ⟨_,rfl,st,_,_,_,rfl,rfl,zT.of est,(show yk [V.int (n:Int),V.ref pb,V.ref ma,V.int u] 2=some (.ref ma) from rfl),ma,_,_,_,rfl,rfl,zJ.of ema,(show yk [V.ref tt] 0=some (.ref tt) from rfl),_,rfl,_,rfl,_,rfl,tt,pa2,sr,fl,n,A1,E1,D1,113,3,A1 + D1 + 130,bs,m,lo,hi,tS,bS,zH,qv,flv,pts,wc us,rfl,MT,MO,G,epa2,hqv,lp,PO,(by omega),esr,bS0,btS.mono,bbS,efl,hp,(by rw [j4]; exact CW.len),CW.ptb G.bb (by decide) (by decide),(by decide),(by decide),(by omega),(by omega),(by omega),λnp nqv npts JN yN enp hnp lnp NPO NQ=>?_⟩
   have SL8:=SL7.trans yN
   replace esa:=(yN _ _ esa)
   replace hsv:=(yI.same yN hsv)
   replace TA:=(yr.same yN TA)
   replace epa2:=(yN _ _ epa2)
   replace hqv:=(yX.same yN hqv)
   replace esr:=(yN _ _ esr)
   replace efl:=(yN _ _ efl)
   replace hp:=(yX.same yN hp)
   have HBj:=G.held j
   have NN:¬ ∀ r∈xi n bs m lo hi zH j,xM r (yZ npts):=λz=>no λr hr=>(Yi (HBj r hr).1 NQ).mp (z r hr)
   refine ⟨_,rfl,_,rfl,sa,np,sv,nqv,zH,npts,n,2,A1 + D1 + 130,D1 + 3 + 13,(D1 + 3 + 13) * 3,rfl,zJ.of esa,hsv,zJ.of enp,hnp,ZD G.sf (by decide),(by omega),lnp,n3,NPO,(by rw [lnp]; exact Nat.mul_le_mul_left _ n3),(by omega),λy3 JM yM hy3=>?_⟩
   refine ⟨_,rfl,?_⟩
   cases y3 with
   | false=>
    refine xo rfl ?_
    exact q _
   | true=>
   refine xA rfl ?_
   have SL9:=SL8.trans yM
   replace esa:=(yM _ _ esa)
   replace hsv:=(yI.same yM hsv)
   replace TA:=(yr.same yM TA)
   replace epa2:=(yM _ _ epa2)
   replace hqv:=(yX.same yM hqv)
   replace esr:=(yM _ _ esr)
   replace efl:=(yM _ _ efl)
   replace hp:=(yX.same yM hp)
   replace enp:=(yM _ _ enp)
   replace hnp:=(yX.same yM hnp)
   refine ⟨np,nqv,npts,_,_,_,rfl,SL9,enp,hnp,lnp,?_,hy3.mp rfl,?_⟩
   ·rw [es]
    exact NPO
   rw [e1]
   exact NN
  rintro σ L0 ⟨pa2,qv,pts,o10,o11,o12,rfl,sm,epa2,hqv,lp,PO,HS,HN⟩
  rw [show ((k:Nat):Int).toNat=k by omega,Nat.sub_self] at HN
  exact absurd ((UM G.sf (by decide) (yZ pts)).mpr HS) HN
 show u_6 _ [some (.ref a),some (.ref st),some (.ref sa),some (.int lo),some (.int hi),some (.int (k:Int)),some (.ref o),some (.ref rl),some (.ref pa0),some (.bl y),none,none,none] _
 rw [E_6]
 try dsimp only [zP,Cx.nox,Cx.wish]
 refine ⟨_,rfl,_,rfl,?_⟩
 cases y with
 | false=>exact xA rfl (K7 none J4 (zG.refl _))
 | true=>
 have c:=hy.mp rfl
 refine xo rfl ?_
 refine ⟨_,rfl,_,rfl,_,rfl,_,rfl,_,rfl,_,rfl,o,kp,km,sa,pa0,n,kk,110,3,9,bs,m,pv,mv,sv,qv0,lo,hi,zH,pts0,_,rfl,(by omega),TA,TO,r0,G,esa,hsv,(by omega),ek ▸ ok,zJ.of epa0,hqv0,lp0,PO0,(by omega),(by decide),(by rw [<- ek]; omega),λc'=>absurd (ek ▸ c) c',λ_ sr tS bS J9 y9 esr bS0 LW btS bbS=>?_⟩
 have SE1:=SG5.trans y9
 replace esa:=(y9 _ _ esa)
 replace hsv:=(yI.same y9 hsv)
 replace TA:=(yr.same y9 TA)
 replace epa0:=(y9 _ _ epa0)
 replace hqv0:=(yX.same y9 hqv0)
 refine ⟨_,rfl,_,rfl,sa,_,rfl,.inl (zJ.of esa),λs2 hs2=>?_⟩
 obtain ⟨E2,hhE2,yE2,es2⟩:=zw (HO.lst sv) hs2
 rw [hhE2]
 have SE2:=SE1.trans yE2
 replace hsv:=(yI.same yE2 hsv)
 replace TA:=(yr.same yE2 TA)
 replace epa0:=(yE2 _ _ epa0)
 replace hqv0:=(yX.same yE2 hqv0)
 replace esr:=(yE2 _ _ esr)
 refine ⟨_,rfl,_,rfl,_,rfl,_,rfl,pa0,_,rfl,.inl (zJ.of epa0),λp2 hp2=>?_⟩
 obtain ⟨E3,hhE3,yE3,ep2⟩:=zw (HO.lst qv0) hp2
 rw [hhE3]
 have SE3:=SE2.trans yE3
 replace hsv:=(yI.same yE3 hsv)
 replace TA:=(yr.same yE3 TA)
 replace hqv0:=(yX.same yE3 hqv0)
 replace esr:=(yE3 _ _ esr)
 replace es2:=(yE3 _ _ es2)
 refine ⟨_,rfl,o,kp,km,s2,p2,sr,n,kk,wK kk + 140,wK kk + 20,(wK kk + 20) * 6,bs,m,pv,mv,sv,qv0,lo,hi,zH,pts0,_,(tS,bS),rfl,(by omega),TA,TO,r0,G,es2,hsv,(by omega),ek ▸ ok,ep2,hqv0,lp0,λp hp=>⟨(PO0 p hp).1,(PO0 p hp).2.1.mono (by omega),(PO0 p hp).2.2.mono (by omega)⟩,esr,bS0,btS.mono (by omega),bbS.mono (by omega),(by omega),(by omega),Nat.le_refl _,(by omega),λvf JF yF hf=>?_⟩
 have SE4:=SE3.trans yF
 cases hf with
 | cor us fl flv e efl hp CW no=>
  exact absurd (zLm (v:=yZ (wc us)) G MO (ek ▸ c) (CW.inb TO.bok) LW.all LW.one).1 no
 | non e h=>
 cases e
 refine ⟨rfl,_,rfl,xA rfl ?_⟩
 exact K7 _ _ (y9.trans (yE2.trans (yE3.trans yF)))
end
end K83
namespace L2
open PySem PySem.Spec PyProof.Rows
theorem Yk {α:Type} {P:List α->Prop} (h:∀ x0:α,P [x0]):∀ us:List α,us.length=1->P us
 | [x0],_=>h x0
theorem gR {α:Type} {P:List α->Prop} (h:∀ x0 x1:α,P [x0,x1]):∀ us:List α,us.length=2->P us
 | [x0,x1],_=>h x0 x1
theorem ZG {α:Type} {P:List α->Prop} (h:∀ x0 x1 x2:α,P [x0,x1,x2]):∀ us:List α,us.length=3->P us
 | [x0,x1,x2],_=>h x0 x1 x2
theorem Yl {α:Type} {P:List α->Prop} (h:∀ x0 x1 x2 x3:α,P [x0,x1,x2,x3]):∀ us:List α,us.length=4->P us
 | [x0,x1,x2,x3],_=>h x0 x1 x2 x3
theorem Ym {α:Type} {P:List α->Prop} (h:∀ x0 x1 x2 x3 x4:α,P [x0,x1,x2,x3,x4]):∀ us:List α,us.length=5->P us
 | [x0,x1,x2,x3,x4],_=>h x0 x1 x2 x3 x4
theorem Yn {α:Type} {P:List α->Prop} (h:∀ x0 x1 x2 x3 x4 x5:α,P [x0,x1,x2,x3,x4,x5]):∀ us:List α,us.length=6->P us
 | [x0,x1,x2,x3,x4,x5],_=>h x0 x1 x2 x3 x4 x5
theorem Yo {α:Type} {P:List α->Prop} (h:∀ x0 x1 x2 x3 x4 x5 x6:α,P [x0,x1,x2,x3,x4,x5,x6]):∀ us:List α,us.length=7->P us
 | [x0,x1,x2,x3,x4,x5,x6],_=>h x0 x1 x2 x3 x4 x5 x6
structure Gf (K:W.Frag) (x:Str) (st:Stmt) (f:Addr) (fd:FuncData):Prop where
 at_:W.nsIn K mainGlobals x=some (some (.ref f))
 F:yb K x x st f fd
abbrev Ge (K:W.Frag) (x:Str) (st:Stmt):Prop:=∃ f fd,Gf K x st f fd
structure Gm (K:W.Frag) (C:Addr) (x q:Str) (st:Stmt) (f:Addr) (fd:FuncData):Prop where
 at_:W.findIn K (.ref C) x=some (some (.ref f))
 fn:W.isFn K (.ref f)=true
 F:yb K x q st f fd
abbrev Gn (K:W.Frag) (C:Addr) (x q:Str) (st:Stmt):Prop:=∃ f fd,Gm K C x q st f fd
structure Gd (K:W.Frag) (x:Str) (st:Stmt) (f:Addr) (fd:FuncData) (d:Value):Prop where
 at_:W.nsIn K mainGlobals x=some (some (.ref f))
 F:wF K x x st f fd d
abbrev Gi (K:W.Frag) (x:Str) (st:Stmt) (i:Int):Prop:=∃ f fd t,Gd K x st f fd (.int i t)
structure Gc (K:W.Frag) (x:Str) (C:Addr):Prop where
 nm:W.nsIn K mainGlobals x=some (some (.ref C))
 pg:W.plainGet K C Str.empty=true
 hd:W.hasDictIn K C=true
 po:W.plainOver K C=true
 sa:W.findIn K (.ref C) "__setattr__" = some (some (.builtin "object.__setattr__"))
 mk_:W.makesIn K C=true
 kc:W.keepIn K (.ref C)=true
 ha:W.findIn K (.ref C) "__class__" = some (some (.builtin "object.__class__"))
 hn:W.specialIn K (.builtin "object.__class__") "__get__" = some (some (.builtin "getset_descriptor.__get__"))
 tk:W.takesIn K (.builtin "object.__class__")=some true
 hm:W.mroIn K C (.type "object")=some true
section
variable {P:Program} {w:World} {K:W.Frag} {mg:Str->Option Value} {base h:Heap} {x q:Str} {st:Stmt} {f C T:Addr} {fd:FuncData} {ps:List Str} {k:Nat} {sp:Sp} {oc kV doc pm cdv ct oT:Value} {od an dT:Option Addr} {osl sT:Array (Option Value)}
theorem ZH (a:W.nsIn K mainGlobals x=some (some (.ref f))) (l:K.lookup f=some ⟨oc,od,.func (W.fnOf x x (ve st) (xR st) (ze st) .none kV doc pm an cdv ct),osl⟩) (c:W.codeIn K cdv x=true) (k:W.keepIn K (.ref f)=true):Ge K x st:=⟨f,_,a,Jt l c k⟩
theorem ZI (a:W.findIn K (.ref C) x=some (some (.ref f))) (i:W.isFn K (.ref f)=true) (l:K.lookup f=some ⟨oc,od,.func (W.fnOf x q (ve st) (xR st) (ze st) .none kV doc pm an cdv ct),osl⟩) (c:W.codeIn K cdv q=true) (k:W.keepIn K (.ref f)=true):Gn K C x q st:=⟨f,_,a,i,Jt l c k⟩
theorem ZJ {i:Int} {t:Tok} {n:Nat} (a:W.nsIn K mainGlobals x=some (some (.ref f))) (l:K.lookup f=some ⟨oc,od,.func (W.fnOf x x (ve st) (xR st) (ze st) (.ref T) kV doc pm an cdv ct),osl⟩) (c:W.codeIn K cdv x=true) (k:W.keepIn K (.ref f)=true) (d:K.lookup T=some ⟨oT,dT,.seq #[.int i t] n,sT⟩):Gi K x st i:=⟨f,_,t,a,zNz l c k d rfl⟩
theorem Gc.cls (g:Gc K x C) (X:K.In h) (G:h.Ns mainGlobals mg):yJ K mg x C:=⟨⟨g.pg,g.hd,g.po,g.sa⟩,W.mg_of X G g.nm,g.ha,g.hn,g.tk,g.hm⟩
abbrev Bn (x q:Str) (st:Stmt) (ps:List Str):Prop:=∀ (kV doc pm:Value) (an:Option Addr) (cdv ct:Value) (us:List Value),us.length=ps.length->bindArgs (W.fnOf x q (ve st) (xR st) (ze st) .none kV doc pm an cdv ct) ⟨us,[]⟩=pure (ps.zip us)
structure Wh (P:Program) (w:World) (K:W.Frag) (mg:Str->Option Value) (base h:Heap):Prop where
 X:K.In h
 G:h.Ns mainGlobals mg
theorem Gf.fn (g:Gf K x st f fd) (Y:Wh P w K mg base h) (o:zU P w K mg base yG k f fd ps sp) (b:Bn x x st ps:=by intro _ _ _ _ _ _; first | exact L2.Yk λ_=>rfl | exact L2.gR λ_ _=>rfl | exact L2.ZG λ_ _ _=>rfl | exact L2.Yl λ_ _ _ _=>rfl | exact L2.Ym λ_ _ _ _ _=>rfl | exact L2.Yn λ_ _ _ _ _ _=>rfl | exact L2.Yo λ_ _ _ _ _ _ _=>rfl):Fn P w K mg base x ps k sp:=⟨f,fd,o,W.mg_of Y.X Y.G g.at_,g.F.kp,g.F.binds b⟩
theorem Gf.fx (g:Gf K x st f fd) (Y:Wh P w K mg base h) (o:zU P w K mg base (wP P w) k f fd ps sp) (b:Bn x x st ps:=by intro _ _ _ _ _ _; first | exact L2.Yk λ_=>rfl | exact L2.gR λ_ _=>rfl | exact L2.ZG λ_ _ _=>rfl | exact L2.Yl λ_ _ _ _=>rfl | exact L2.Ym λ_ _ _ _ _=>rfl | exact L2.Yn λ_ _ _ _ _ _=>rfl | exact L2.Yo λ_ _ _ _ _ _ _=>rfl):ur P w K mg base x ps k sp:=⟨f,fd,o,W.mg_of Y.X Y.G g.at_,g.F.kp,g.F.binds b⟩
theorem Gm.fm (g:Gm K C x q st f fd) (_:Wh P w K mg base h) (o:zU P w K mg base yG k f fd ps sp) (b:Bn x q st ps:=by intro _ _ _ _ _ _; first | exact L2.Yk λ_=>rfl | exact L2.gR λ_ _=>rfl | exact L2.ZG λ_ _ _=>rfl | exact L2.Yl λ_ _ _ _=>rfl | exact L2.Ym λ_ _ _ _ _=>rfl | exact L2.Yn λ_ _ _ _ _ _=>rfl | exact L2.Yo λ_ _ _ _ _ _ _=>rfl):jG P w K mg base C x ps k sp:=⟨f,fd,o,⟨g.at_,g.fn,g.F.kp⟩,g.F.binds b⟩
theorem Gm.fc {y:Str} (g:Gm K C "__init__" q st f fd) (_:Wh P w K mg base h) (c:Gc K y C) (o:zU P w K mg base yG k f fd ps sp) (b:Bn "__init__" q st ps:=by intro _ _ _ _ _ _; first | exact L2.Yk λ_=>rfl | exact L2.gR λ_ _=>rfl | exact L2.ZG λ_ _ _=>rfl | exact L2.Yl λ_ _ _ _=>rfl | exact L2.Ym λ_ _ _ _ _=>rfl | exact L2.Yn λ_ _ _ _ _ _=>rfl | exact L2.Yo λ_ _ _ _ _ _ _=>rfl):qP P w K mg base C ps k sp:=⟨f,fd,o,⟨c.mk_,g.at_,g.fn,c.kc⟩,g.F.binds b⟩
theorem Gd.fn {i:Int} {t:Tok} (g:Gd K x st f fd (.int i t)) (Y:Wh P w K mg base h) (b:∀ (T:Addr) (kV doc pm:Value) (an:Option Addr) (cdv ct:Value) (us:List Value),us.length=ps.length->∃ k:Option (Array Value)->Sem (List (Str × Value)),bindArgs (W.fnOf x x (ve st) (xR st) (ze st) (.ref T) kV doc pm an cdv ct) ⟨us,[]⟩=seqItems? (.ref T) >>= k/\k (some #[.int i t])=pure (ps.zip us))
  (d:∀ (T:Addr) (kV doc pm:Value) (an:Option Addr) (cdv ct:Value) (us:List Value),us.length + 1=ps.length->∃ k:Option (Array Value)->Sem (List (Str × Value)),bindArgs (W.fnOf x x (ve st) (xR st) (ze st) (.ref T) kV doc pm an cdv ct) ⟨us,[]⟩=seqItems? (.ref T) >>= k/\k (some #[.int i t])=pure (ps.zip (us++[.int i t]))) (o:zU P w K mg base yG k f fd ps sp):vi P w K mg base x ps k sp (.int i):=
 ⟨f,fd,_,o,W.mg_of Y.X Y.G g.at_,g.F.kp,g.F.binds b,g.F.binds1 d,⟨_,rfl⟩⟩
end
end L2
namespace K83
open PySem L2 Sh
theorem ql {l:W.OpenLaw} {w:World} {K:W.Frag} {h:Heap} {mg:Str->Option Value} {fa:Addr} (X:K.In h) (G:h.Ns mainGlobals mg) (hfa:mg "law" = some (.ref fa))
  {ac af cM cP:Addr}
  (GMode:Gc K "Mode" ac)
  (b7:W.findIn K (.ref ac) "rows" = some none)
  (b8:W.findIn K (.ref ac) "nexts" = some none)
  (b9:W.findIn K (.ref ac) "steer" = some none)
  (ca:W.findIn K (.ref ac) "push" = some none)
  (cf:W.findIn K (.ref ac) "add" = some none)
  (cg:W.findIn K (.ref ac) "divisor" = some none)
  (GThing:Gc K "Thing" af)
  (ci:W.findIn K (.ref af) "many" = some none)
  (ck:W.findIn K (.ref af) "kept_pushes" = some none)
  (cq:W.findIn K (.ref af) "kept_modes" = some none)
  (aM:W.nsIn K mainGlobals "TooMany" = some (some (.ref cM)))
  (aP:W.nsIn K mainGlobals "NotPlain" = some (some (.ref cP)))
  (exM:W.excIn K cM [.type "ValueError",.type "Exception",.type "BaseException",.type "object"] "ValueError.__new__" = true)
  (exP:W.excIn K cP [.type "ValueError",.type "Exception",.type "BaseException",.type "object"] "ValueError.__new__" = true)
  (em_mm:W.exmOne K (.ref cM) (.ref cM)=some true)
  (z0:W.nsIn K mainGlobals "isinstance" = some none)
  (z1:W.nsIn K mainGlobals "int" = some none)
  (z2:W.nsIn K mainGlobals "bool" = some none)
  (z3:W.nsIn K mainGlobals "tuple" = some none)
  (z4:W.nsIn K mainGlobals "len" = some none)
  (z5:W.nsIn K mainGlobals "abs" = some none)
  (z6:W.nsIn K mainGlobals "all" = some none)
  (z7:W.nsIn K mainGlobals "list" = some none)
  (z8:W.nsIn K mainGlobals "range" = some none)
  (z9:W.nsIn K mainGlobals "zip" = some none)
  (z10:W.nsIn K mainGlobals "sum" = some none)
  {gt0:Tok} (cst0:W.nsIn K mainGlobals "MOST_NUMBERS" = some (some (.int 3 gt0)))
  {gt1:Tok} (cst1:W.nsIn K mainGlobals "MOST_PUSHES" = some (some (.int 6 gt1)))
  {gt2:Tok} (cst2:W.nsIn K mainGlobals "MOST_MODES" = some (some (.int 40 gt2)))
  {gt3:Tok} (cst3:W.nsIn K mainGlobals "MOST_ROWS" = some (some (.int 60 gt3)))
  : Ge K "is_whole" WH->Ge K "common_divisor" WI->Gi K "fraction" WJ 1->Ge K "under" WL->Ge K "direction" Z9->Ge K "bounded" YA->Ge K "tidied" WM->Gi K "copied" uu 5->Ge K "is_numbers" WO->Ge K "is_table" YB->Ge K "is_row" WP->Ge K "is_room" YC->Ge K "is_push" WQ->Gn K ac "__init__" "Mode.__init__" WR->Ge K "is_mode" WU->Ge K "is_sound" YD->Gn K af "__init__" "Thing.__init__" WV->Gn K af "pushes" "Thing.pushes" WW->Gn K af "modes" "Thing.modes" WX->Gn K af "is_plain" "Thing.is_plain" WY->Gi K "unit" YF 1->Ge K "single" Wf->Ge K "paired" Wg->Ge K "added_up" YG->Ge K "reach" Wi->Ge K "mixed" YJ->Ge K "worst_pushes" Wm->Ge K "without_pushes" Wn->Ge K "steering_rows" Wq->Ge K "without_steering" Wt->Ge K "ask_plain" Wx->Ge K "counted" Wy->Ge K "held_rooms" Wz->Ge K "_law_cell_at" W6->Ge K "_law_stream" W7->Ge K "_law_number" W8->Ge K "_law_mode" qh->Ge K "_law_thing" UE->Ge K "_law_made" UF->Ge K "_law_box" UK->Ge K "_law_rows" YO->Ge K "_law_safe" YR->Ge K "_law_game" vM->Ge K "raw_sum" US->Ge K "divided_sum" UT->Ge K "holds" UU->Ge K "lies_in" YW->Ge K "holder" UX->Ge K "_law_divisor" UY->Ge K "_law_lowest" UZ->Ge K "_law_plus" Ua->Ge K "_law_along" Ub->Ge K "_law_holds" Uc->Ge K "_law_lies" Yb->Ge K "_law_point" Ug->Ge K "_law_behind" qk->Ge K "_law_rooms" Uj->Ge K "_law_near" ZA->Ge K "number_behind" Uo->Ge K "point_behind" Yh->Ge K "foe" Uq->Ge K "_law_corners" ZE->Ge K "_law_right_pushes" Ut->Ge K "_law_best" Uv->Ge K "law" wj->∃ fd:FuncData,(∀ (s:Shared) (v:Value),BindsTo s fd ⟨[v],[]⟩ [("_law_script",v)])/\∀ base:Heap,K.In base->base.Ns mainGlobals mg->zU l.prog w K mg base yG 9 fa fd ["_law_script"] (kI K):=by
 rintro ⟨_,_,G0⟩ ⟨_,_,G1⟩ ⟨_,_,_,G2⟩ ⟨_,_,G3⟩ ⟨_,_,G4⟩ ⟨_,_,G5⟩ ⟨_,_,G6⟩ ⟨_,_,_,G7⟩ ⟨_,_,G8⟩ ⟨_,_,G9⟩ ⟨_,_,G10⟩ ⟨_,_,G11⟩ ⟨_,_,G12⟩ ⟨_,_,G13⟩ ⟨_,_,G14⟩ ⟨_,_,G15⟩ ⟨_,_,G16⟩ ⟨_,_,G17⟩ ⟨_,_,G18⟩ ⟨_,_,G19⟩ ⟨_,_,_,G20⟩ ⟨_,_,G21⟩ ⟨_,_,G22⟩ ⟨_,_,G23⟩ ⟨_,_,G24⟩ ⟨_,_,G25⟩ ⟨_,_,G26⟩ ⟨_,_,G27⟩ ⟨_,_,G28⟩ ⟨_,_,G29⟩ ⟨_,_,G30⟩ ⟨_,_,G31⟩ ⟨_,_,G32⟩ ⟨_,_,G33⟩ ⟨_,_,G34⟩ ⟨_,_,G35⟩ ⟨_,_,G36⟩ ⟨_,_,G37⟩ ⟨_,_,G38⟩ ⟨_,_,G39⟩ ⟨_,_,G40⟩ ⟨_,_,G41⟩ ⟨_,_,G42⟩ ⟨_,_,G43⟩ ⟨_,_,G44⟩ ⟨_,_,G45⟩ ⟨_,_,G46⟩ ⟨_,_,G47⟩ ⟨_,_,G48⟩ ⟨_,_,G49⟩ ⟨_,_,G50⟩ ⟨_,_,G51⟩ ⟨_,_,G52⟩ ⟨_,_,G53⟩ ⟨_,_,G54⟩ ⟨_,_,G55⟩ ⟨_,_,G56⟩ ⟨_,_,G57⟩ ⟨_,_,G58⟩ ⟨_,_,G59⟩ ⟨_,_,G60⟩ ⟨_,_,G61⟩ ⟨_,_,G62⟩ ⟨_,_,G63⟩ ⟨_,_,G64⟩
 have e:=hfa.symm.trans (W.mg_of X G G64.at_)
 cases e
 have B:Bl mg:=⟨W.mg_none_of X G z0,W.mg_none_of X G z1,W.mg_none_of X G z2,W.mg_none_of X G z3,W.mg_none_of X G z4,W.mg_none_of X G z5,W.mg_none_of X G z6,W.mg_none_of X G z7,W.mg_none_of X G z8,W.mg_none_of X G z9,W.mg_none_of X G z10,⟨_,W.mg_of X G cst0⟩,⟨_,W.mg_of X G cst1⟩,⟨_,W.mg_of X G cst2⟩,⟨_,W.mg_of X G cst3⟩⟩
 have ae:=GMode.cls X G
 have ag:wr K ac:=⟨b7,b8,b9,ca,cf,cg⟩
 have ah:=GThing.cls X G
 have ai:wt K af:=⟨ci,ck,cq⟩
 have Z:Er K mg cM cP:=⟨W.mg_of X G aM,W.mg_of X G aP,exM,exP,em_mm⟩
 obtain ⟨_,_,kV,dc,pm,an,cd,ct,_,rfl,_⟩:=G64.F.ex
 refine ⟨W.fnOf "law" "law" (ve wj) (xR wj) (ze wj) .none kV dc pm an cd ct,λs v=>.of_eq rfl,λbase _ _=>?_⟩
 have Y:Wh l.prog w K mg base h:=⟨X,G⟩
 have N0:=G0.fn Y (zIZ (k:=0) ae ag ah ai G0.F B )
 have N1:=G1.fn Y (zEo (k:=0) ae ag ah ai G1.F B )
 have D2:=λ{k sp}=>G2.fn (ps:=["top","bottom"]) (k:=k) (sp:=sp) Y (λ_ _ _ _ _ _ _=>L2.gR λ_ _=>⟨_,rfl,rfl⟩) λ_ _ _ _ _ _ _ us hl=>match us,hl with | [_],_=>⟨_,rfl,rfl⟩
 have N2:=D2 (zIc (k:=1) ae ag ah ai G2.F B N0.mono N1.mono)
 have N3:=G3.fn Y (zMX (k:=0) ae ag ah ai G3.F B )
 have N4:=G4.fn Y (zHj (k:=1) ae ag ah ai G4.F B N1.mono)
 have N5:=G5.fn Y (zKF (k:=0) ae ag ah ai G5.F B )
 have N6:=G6.fn Y (zLC (k:=2) ae ag ah ai G6.F B N1.mono N4.mono N2.mono N3.mono N5.mono)
 have D7:=λ{k sp}=>G7.fn (ps:=["value","depth"]) (k:=k) (sp:=sp) Y (λ_ _ _ _ _ _ _=>L2.gR λ_ _=>⟨_,rfl,rfl⟩) λ_ _ _ _ _ _ _ us hl=>match us,hl with | [_],_=>⟨_,rfl,rfl⟩
 have N7_n:=D7 (zU.none (k:=0))
 have N7_0:=D7 (zIf (k:=0) ae ag ah ai G7.F B N7_n)
 have N7_1:=D7 (zIe (k:=1) ae ag ah ai G7.F B N7_0)
 have N7_2:=D7 (zId (k:=2) ae ag ah ai G7.F B N7_1)
 have N7:=N7_2
 have N8:=G8.fn Y (zHI (k:=1) ae ag ah ai G8.F B N0.mono)
 have N9:=G9.fn Y (zIa (k:=2) ae ag ah ai G9.F B N8.mono)
 have N10:=G10.fn Y (zLO (k:=1) ae ag ah ai G10.F B N0.mono)
 have N11:=G11.fn Y (zKC (k:=2) ae ag ah ai G11.F B N10.mono)
 have N12:=G12.fn Y (zKD (k:=1) ae ag ah ai G12.F B N0.mono)
 have N13:=G13.fc Y GMode (zE5 (k:=3) ae ag ah ai G13.F B N7.mono)
 have N14:=G14.fn Y (zKE (k:=3) ae ag ah ai G14.F B N11.mono N9.mono N8.mono N0.mono)
 have N15:=G15.fn Y (zIb (k:=4) ae ag ah ai G15.F B N0.mono N12.mono N14.mono)
 have N16:=G16.fc Y GThing (zEq (k:=5) ae ag ah ai G16.F B N15.mono)
 have N17:=G17.fm Y (zFt (k:=0) ae ag ah ai G17.F B )
 have N18:=G18.fm Y (zGO (k:=0) ae ag ah ai G18.F B )
 have N19:=G19.fm Y (zEp (k:=0) ae ag ah ai G19.F B )
 have D20:=λ{k sp}=>G20.fn (ps:=["place","wide","number"]) (k:=k) (sp:=sp) Y (λ_ _ _ _ _ _ _=>L2.ZG λ_ _ _=>⟨_,rfl,rfl⟩) λ_ _ _ _ _ _ _ us hl=>match us,hl with | [_,_],_=>⟨_,rfl,rfl⟩
 have N20:=D20 (zNj (k:=0) ae ag ah ai G20.F B )
 have N21:=G21.fn Y (zLD (k:=1) ae ag ah ai G21.F B N20.mono)
 have N22:=G22.fn Y (zLE (k:=0) ae ag ah ai G22.F B )
 have N23:=G23.fn Y (zIg (k:=0) ae ag ah ai G23.F B )
 have N24:=G24.fn Y (zMY (k:=1) ae ag ah ai G24.F B N23.mono N17.mono N22.mono)
 have N25:=G25.fn Y (zMZ (k:=0) ae ag ah ai G25.F B )
 have N26:=G26.fn Y (zFr (k:=1) ae ag ah ai G26.F B N17.mono)
 have N27:=G27.fn Y (zEm (k:=2) ae ag ah ai G27.F B N22.mono N26.mono)
 have N28:=G28.fn Y (zE3 (k:=3) ae ag ah ai G28.F B N18.mono N27.mono N24.mono N22.mono N21.mono)
 have N29:=G29.fn Y (zD2 (k:=1) ae ag ah ai G29.F B N25.mono)
 have NX30:=G30.fx Y (zHH (k:=1) ae ag ah ai G30.F B Z N19.mono)
 have NX31:=G31.fx Y (zIU (k:=0) ae ag ah ai G31.F B Z )
 have NX32:=G32.fx Y (zGM (k:=4) ae ag ah ai G32.F B Z NX30.mono NX31.mono N6.mono N29.mono N28.mono)
 have N32:=NX32.calm
 have N33:=G33.fn Y (zHi (k:=0) ae ag ah ai G33.F B )
 have N34:=G34.fn Y (zIV (k:=0) ae ag ah ai G34.F B )
 have N35:=G35.fn Y (zIW (k:=0) ae ag ah ai G35.F B )
 have N36:=G36.fn Y (zLJ (k:=1) ae ag ah ai G36.F B N34.mono N35.mono)
 have N37:=G37.fn Y (zJ7 (k:=2) ae ag ah ai G37.F B N33.mono N36.mono)
 have N38:=G38.fn Y (zLK (k:=6) ae ag ah ai G38.F B N13.mono N16.mono)
 have N39:=G39.fn Y (zMa (k:=1) ae ag ah ai G39.F B N34.mono N35.mono)
 have N40:=G40.fn Y (zLG (k:=0) ae ag ah ai G40.F B )
 have N41:=G41.fn Y (zLF (k:=2) ae ag ah ai G41.F B N34.mono N35.mono N40.mono N39.mono)
 have N42:=G42.fn Y (zLM (k:=3) ae ag ah ai G42.F B N37.mono N34.mono N33.mono N35.mono N41.mono)
 have N43:=G43.fn Y (zJ5 (k:=0) ae ag ah ai G43.F B )
 have N44:=G44.fn Y (zGN (k:=2) ae ag ah ai G44.F B N43.mono N2.mono)
 have N45:=G45.fn Y (zMb (k:=1) ae ag ah ai G45.F B N43.mono)
 have N46:=G46.fn Y (zJ6 (k:=2) ae ag ah ai G46.F B N45.mono)
 have N47:=G47.fn Y (zLP (k:=5) ae ag ah ai G47.F B N32.mono N46.mono N2.mono N28.mono N44.mono N3.mono)
 have N48:=G48.fn Y (zHg (k:=0) ae ag ah ai G48.F B )
 have N49:=G49.fn Y (zIX (k:=1) ae ag ah ai G49.F B N48.mono)
 have N50:=G50.fn Y (zLH (k:=2) ae ag ah ai G50.F B N49.mono)
 have N51:=G51.fn Y (zKB (k:=3) ae ag ah ai G51.F B N50.mono)
 have N52:=G52.fn Y (zKA (k:=4) ae ag ah ai G52.F B N51.mono)
 have N53:=G53.fn Y (zLL (k:=5) ae ag ah ai G53.F B N52.mono)
 have N54:=G54.fn Y (zJ9 (k:=2) ae ag ah ai G54.F B N34.mono N49.mono)
 have N55:=G55.fn Y (zIY (k:=4) ae ag ah ai G55.F B N50.mono N51.mono N49.mono)
 have N56:=G56.fn Y (zJ8 (k:=5) (Z:=Z) ae ag ah ai G56.F B NX32.mono)
 have N57:=G57.fn Y (zLI (k:=2) ae ag ah ai G57.F B N34.mono N35.mono N49.mono)
 have N58:=G58.fn Y (zE4 (k:=3) ae ag ah ai G58.F B N44.mono)
 have N59:=G59.fn Y (zFs (k:=4) ae ag ah ai G59.F B N58.mono)
 have N60:=G60.fn Y (zOo (k:=5) ae ag ah ai G60.F B N32.mono N18.mono N26.mono N24.mono N2.mono N45.mono N59.mono)
 have N61:=G61.fn Y (zHh (k:=0) ae ag ah ai G61.F B )
 have N62:=G62.fn Y (zEn (k:=0) ae ag ah ai G62.F B )
 have N63:=G63.fn Y (zLN (k:=6) ae ag ah ai G63.F B N62.mono N53.mono N55.mono N61.mono)
 exact zOn (k:=8) ae ag ah ai G64.F B N42.mono N38.mono N56.mono N57.mono N33.mono N53.mono N47.mono N60.mono N54.mono N63.mono N62.mono N55.mono
theorem Uz {l:PySem.W.OpenLaw} {q:Program} {loose:List Str} {XP:(Str->Option Value)->Heap->Prop} {YP:World->Heap->Prop} {d:DefRec} {K:Params->PySem.W.Frag} (hn:l.most=some 63) (hdf:d.params.defaults=[])
  (hY:∀ (w:World) (h:Heap),YP w h->(K w.params).In h)
  (F:∀ (w:World) (mg:Str->Option Value) (fa:Addr) (h:Heap),(K w.params).In h->h.Ns mainGlobals mg->mg d.name=some (.ref fa)->
   ∃ fd:FuncData,(∀ (s:Shared) (u:Value),BindsTo s fd ⟨[u],[]⟩ [("_law_script",u)])/\∀ base:Heap,(K w.params).In base->base.Ns mainGlobals mg->zU l.prog w (K w.params) mg base yG 9 fa fd ["_law_script"] (kI (K w.params))) :
  PySem.W.WalkO q loose XP YP l.row.toRowW d [] (λf vs=>PySem.call f vs):=
 L2.zNL (n:=63) (k:=9) (x:="_law_script") (CX:=λ_=>yG) (sp:=λw=>kI (K w.params)) hn (by decide) hdf ⟨rfl,by decide,by decide⟩ hY F (λ_ _ a ns hl _ hS=>⟨a,ns,rfl,hS,hl,λ_=>rfl⟩) λ_ _ _ _ _ z=>z
end K83
open PySem PySem.W PyProof.Rows
set_option maxRecDepth 100000 in
set_option maxHeartbeats 0 in
theorem PySem.Challenge.cw_steadyhand_k83_whole_the_foe_wins_holds : PySem.Challenge.rw_steadyhand_k83_whole_the_foe_wins.Holds := by
 w_on; o_law
 refine holds_open (q:=H83.vw) (loose:=H83.lo) (Xt:=H83.xt) (XP:=XL H83.vw []) (Yf:=(kHook H83.KK H83.ks H83.ke).obs) (Ya:=(kHook H83.KK H83.ks H83.ke).val) (YP:=(kHook H83.KK H83.ks H83.ke).says) H83.left
  (kHook H83.KK H83.ks H83.ke).of (kHook H83.KK H83.ks H83.ke).keeps
  (λs e=>xl_of s (Bool.and_eq_true_iff.mp e).1) XL.keeps (by rfl) (by rfl) (by rfl)
  (λs e=>recFacts_of (Bool.and_eq_true_iff.mp e).2) (by rfl) (by assumption) (by decide +kernel)
  ⟨rfl,rfl,rfl,rfl,rfl,by decide +kernel⟩ ?hw ?hc
 case hw=>w_witness2
 rename_i sd
 clear sd
 k_fill
 refine K83.Uz (l:=PySem.Challenge.rw_steadyhand_k83_whole_the_foe_wins) rfl rfl (λw h Y=>PySem.W.kIn_of Y) ?F
 case F=>
  intro w mg fa h KX G hmg
  refine' K83.ql KX G hmg ?_ ?_ ?_ ?_ ?_ ?_ ?_ ?_ ?_ ?_ ?_ ?_ ?_ ?x0 ?x1 ?y0 ?_ ?_ ?_ ?_ ?_ ?_ ?_ ?_ ?_ ?_ ?_ ?_ ?_ ?_ ?_ ?_ ?_ ?_ ?_ ?_ ?_ ?_ ?_ ?_ ?_ ?_ ?_ ?_ ?_ ?_ ?_ ?_ ?_ ?_ ?_ ?_ ?_ ?_ ?_ ?_ ?_ ?_ ?_ ?_ ?_ ?_ ?_ ?_ ?_ ?_ ?_ ?_ ?_ ?_ ?_ ?_ ?_ ?_ ?_ ?_ ?_ ?_ ?_ ?_ ?_ ?_ ?_ ?_ ?_ ?_ ?_ ?_ ?_ ?_ ?_ ?_ ?_ ?_ ?_ ?_
  any_goals first | (refine' L2.Gc.mk ?a ?b ?c ?d ?e ?f ?g ?h ?i ?j ?k; (case a=>k_is); (case b=>k_is); (case c=>k_is); (case d=>k_is); (case e=>k_is); (case f=>k_is); (case g=>k_is); (case h=>k_is); (case i=>k_is); (case j=>k_is); (case k=>k_is)) | (refine' L2.ZH ?a ?l ?c ?k; (case a=>k_is); (case l=>k_is); (case c=>k_is); (case k=>k_is)) | (refine' L2.ZI ?a ?i ?l ?c ?k; (case a=>k_is); (case i=>k_is); (case l=>k_is); (case c=>k_is); (case k=>k_is)) | (refine' L2.ZJ ?a ?l ?c ?k ?d; (case a=>k_is); (case l=>k_is); (case c=>k_is); (case k=>k_is); (case d=>k_is)) | k_is
  (case x0=>k_exc)
  (case x1=>k_exc)
  (case y0=>first | kit_is | k_is | rfl | decide +kernel)
#print axioms PySem.Challenge.cw_steadyhand_k83_whole_the_foe_wins_holds
