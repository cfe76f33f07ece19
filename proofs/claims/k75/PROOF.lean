import PyProof.Rows.All
import Wide.All
import OpenK.AllK
import Wide.FinOn
import Lean
import PyProof.EqAt
import PyProof.EqKinds
import PyProof.TupleCall
import PyProof.ZipIter
import PyProof.Draws
import PyProof.StationsW
import PyProof.EnumStmt
import PyProof.EnumMake
import PyProof.CallType
import PyProof.Rows.CallKwBuiltin
import PyProof.EnumIter
import PyProof.Rows.SeqMore
import PyProof.P3In
import PySem.Challenge.RW_steadyhand_k75_the_worst
set_option Elab.async false
set_option linter.all false
set_option maxRecDepth 100000
set_option maxHeartbeats 0
namespace TT
open PySem PySem.W
def runT (tb:String->Option Builtin) (p:Program) (w:World) (k:Nat) (an:Option Value):Nat->SharedT->Thread->Option SharedT
 | 0,_,_=>none
 | j + 1,x,t=>match through t with
  | true=>some x
  | false=>match stepOk k an t with
   | false=>none
   | true=>match stepT (denote tb) p w x t with
    | none=>none
    | some y=>runT tb p w k an j y.1 y.2
theorem Km {tb:String->Option Builtin} {p:Program} {w:World} {k:Nat} {an:Option Value}:∀ (j:Nat) (x y:SharedT) (t:Thread),runT tb p w k an j x t=some y->topRun tb p w k an j x.abs t=some y.abs
 | 0,_,_,_,e=>by cases e
 | j + 1,x,y,t,e=>by
  unfold runT at e
  unfold topRun
  cases e1:through t with
  | true=>
   rw [e1] at e
   cases e
   rfl
  | false=>
   rw [e1] at e
   cases e2:stepOk k an t with
   | false=>rw [e2] at e; cases e
   | true=>
    rw [e2] at e
    cases e3:stepT (denote tb) p w x t with
    | none=>rw [e3] at e; cases e
    | some z=>
     rw [e3] at e
     rw [stepT_spec e3]
     exact Km j z.1 y z.2 e
theorem left_is {p q:Program} {lo:List Str} {xt:Shared->Bool} {α:Type} {Yf:Shared->α} {Ya:World->α} {N k n0:Nat} {an:Option Value} {tr:Params->BT} (op:∀ w:World,(fencedOpening treeTable p w N).map (λs=>(s.heap,s.gens,s.drawn,s.toks))=some (boot_heap w.params,Array.mk [],boot_drawn,boot_toks))
  (et:∀ P:Params,absHeap (tr P) n0 (boot_heap P).life=boot_heap P) (z1:∀ P:Params,(boot_heap P).isNs mainGlobals=true) (z2:∀ P:Params,(boot_heap P).objs.size=k) (z3:∀ P:Params,(boot_heap P).nsMap mainGlobals "__annotations__" = an)
  (h:∀ (w:World) (os:OsState),(runT treeTable p w k an N ⟨tr w.params,n0,(boot_heap w.params).life,Array.mk [],boot_drawn,boot_toks,os⟩ (topStub p)).map (λs=>((staticsOk (importedModules p.main.body) (boot_heap w.params) s.abs.heap && namesBound p s.abs.heap && gensDone s.abs && laidKept (boot_heap w.params) s.abs.heap),openSeen q lo (importedModules p.main.body) xt true s.abs,Yf s.abs))=some (true,openGood q lo,Ya w)) :
  LeftO p q lo xt Yf Ya N:=λw=>by
 obtain ⟨⟨hp,gs,d,tk,os⟩,e,e'⟩:=Option.map_eq_some_iff.mp (op w)
 injection e' with a1 e'
 injection e' with a2 e'
 injection e' with a3 a4
 subst a1 a2 a3 a4
 obtain ⟨y,ey,eo⟩:=Option.map_eq_some_iff.mp (h w os)
 injection eo with l1 eo
 injection eo with l2 l3
 have r:=Km _ _ _ _ ey
 have r':topRun treeTable p w k an N ⟨boot_heap w.params,Array.mk [],boot_drawn,boot_toks,os⟩ (topStub p)=some y.abs:=by
  rw [<- r]
  unfold SharedT.abs
  rw [et]
 have f:topFrom treeTable p w N ⟨boot_heap w.params,Array.mk [],boot_drawn,boot_toks,os⟩=some y.abs:=by
  unfold topFrom
  show (match (boot_heap w.params).isNs mainGlobals && true with | true=>_ | false=>_)=_
  rw [z1,z2,z3,r']
  show (match (_ && _ && _ && _) with | true=>_ | false=>_)=_
  rw [l1]
 unfold openEnds
 rw [e]
 show (topFrom treeTable p w N _).map _=_
 rw [f]
 exact congrArg some (Prod.ext l2 l3)
end TT
namespace H75
open PySem PySem.W
set_option maxRecDepth 100000
def hT (i:Nat):Stmt:=PySem.Challenge.pw_steadyhand_k75_the_worst.main.body.getD i (.Pass ⟨0,0,0,0⟩)
def hI (i j:Nat):Stmt:=match hT i with
 | .ClassDef _ _ _ b _ _ _ _ _ _ _=>b.getD j (.Pass ⟨0,0,0,0⟩)
 | s=>s
def hA:Stmt->Arguments
 | .FunctionDef _ a _ _ _ _ _ _ _ _=>a
 | _=>⟨[],[],none,[],[],none,[]⟩
def hB:Stmt->List Stmt
 | .FunctionDef _ _ b _ _ _ _ _ _ _=>b
 | _=>[]
def hC:Stmt->Scope
 | .FunctionDef _ _ _ _ _ _ c _ _ _=>c
 | _=>{ kind:=.function,names:=[],isGenerator:=false,isCoroutine:=false }
abbrev hS (s:String) (n:Nat):Value:=.str (Str.ofString s) n
abbrev hE (P:Params) (s:String) (n:Nat) (v:Value):DictEntry:=⟨PyData.keyHash P (Str.ofString s),hS s n,v⟩
abbrev hU (x:Array Value):Obj:={ cls:=.type "tuple",data:=.seq x }
abbrev hD (s:String) (a:Nat) (s2:String) (b c:Nat) (i j f:Int) (r1 r2:Nat) (u v t r:Value) (y z:Int) (d:Nat):Obj:={ cls:=.type "code",data:=.fields #[hS s a,hS s2 b,hS "/claim/cut.py" c,.int i 0,.int j 0,.int 0 0,.int 0 0,.int f 0,.ref r1,.bool true,.int 181 0,.ref r2,u,v,t,r,.int y 0,.int z 0,hS "/claim/cut.py" d] }
abbrev hF (n q:String) (s:Stmt) (d k:Value) (m:String) (j c:Nat):Obj:={ cls:=.type "function",data:=.func { name:=n,qualname:=q,params:=hA s,body:=.stmts (hB s),scope:=hC s,globals:=3,closure:=[],defaults:=d,kwdefaults:=k,pyModule:=hS m j,code:=.ref c } }
noncomputable def KK:Params->Frag:=λP=>
 (nat_lit 2,{ cls:=.none,data:=.dict #[] })::(nat_lit 3,{ cls:=.type "dict",data:=.dict #[hE P "__name__" 165 (hS "law_steadyhand_k75_the_worst" 852),hE P "__doc__" 166 (.none),hE P "__package__" 167 (.none),hE P "__loader__" 168 (.builtin "__main__.__loader__#opaque"),hE P "__spec__" 169 (.none),hE P "__annotations__" 170 (.ref 6),hE P "__builtins__" 171 (.ref 4),hE P "__file__" 173 (hS "/claim/cut.py" 172),hE P "__cached__" 174 (.none),hE P "SteadyError" 206 (.ref 24),hE P "NoNumber" 222 (.ref 37),hE P "BadThing" 238 (.ref 49),hE P "TooMany" 254 (.ref 61),hE P "NoRun" 279 (.ref 80),hE P "NotClosed" 295 (.ref 92),hE P "NotPlain" 311 (.ref 104),hE P "is_whole" 320 (.ref 113),hE P "common_divisor" 331 (.ref 120),hE P "fraction" 341 (.ref 128),hE P "minus" 349 (.ref 135),hE P "times" 357 (.ref 142),hE P "under" 365 (.ref 149),hE P "is_numbers" 373 (.ref 154),hE P "is_table" 379 (.ref 159),hE P "copied" 386 (.ref 165),hE P "unit" 393 (.ref 171),hE P "paired" 399 (.ref 176),hE P "added_up" 405 (.ref 181),hE P "is_row" 413 (.ref 186),hE P "is_room" 419 (.ref 191),hE P "single" 429 (.ref 198),hE P "raw_sum" 441 (.ref 205),hE P "along" 450 (.ref 212),hE P "divided_sum" 461 (.ref 219),hE P "holds" 470 (.ref 226),hE P "lies_in" 476 (.ref 231),hE P "solved" 484 (.ref 236),hE P "first_with" 493 (.ref 243),hE P "put_ahead" 503 (.ref 250),hE P "cleared" 509 (.ref 255),hE P "most" 517 (.ref 260),hE P "climbed" 523 (.ref 265),hE P "axes" 529 (.ref 270),hE P "first_corner" 535 (.ref 275),hE P "corner_point" 541 (.ref 280),hE P "weights_of" 547 (.ref 285),hE P "way_off" 553 (.ref 290),hE P "least_place" 559 (.ref 295),hE P "exchanged" 568 (.ref 302),hE P "first_broken" 578 (.ref 309),hE P "first_met" 593 (.ref 316),hE P "over_one_bottom" 599 (.ref 321),hE P "spread" 605 (.ref 326),hE P "reach" 618 (.ref 333),hE P "worst_pushes" 624 (.ref 338),hE P "without_pushes" 632 (.ref 345),hE P "point_behind" 640 (.ref 350),hE P "number_behind" 653 (.ref 357),hE P "walked" 667 (.ref 364),hE P "can_be_made" 673 (.ref 369),hE P "lies_between" 681 (.ref 376),hE P "MOST_NUMBERS" 685 (.int 3 684),hE P "MOST_PUSHES" 687 (.int 6 686),hE P "MOST_MODES" 689 (.int 40 688),hE P "Mode" 728 (.ref 393),hE P "Thing" 788 (.ref 440),hE P "is_sound" 794 (.ref 449),hE P "is_push" 801 (.ref 456),hE P "is_mode" 810 (.ref 463),hE P "is_unsteered" 816 (.ref 468),hE P "ask_closed" 823 (.ref 475),hE P "ask_plain" 830 (.ref 482),hE P "pulled_back" 838 (.ref 487),hE P "worst" 851 (.ref 494),hE P "_law_cell_at" 861 (.ref 501),hE P "_law_stream" 873 (.ref 508),hE P "_law_number" 881 (.ref 515),hE P "_law_mode" 887 (.ref 520),hE P "_law_thing" 904 (.ref 527),hE P "_law_made" 910 (.ref 532),hE P "_law_box" 923 (.ref 539),hE P "_law_rows" 929 (.ref 544),hE P "_law_top" 940 (.ref 551),hE P "_law_divisor" 948 (.ref 558),hE P "_law_lowest" 957 (.ref 565),hE P "_law_plus" 965 (.ref 572),hE P "_law_along" 976 (.ref 579),hE P "_law_holds" 985 (.ref 586),hE P "_law_lies" 991 (.ref 591),hE P "_law_point" 1006 (.ref 598),hE P "_law_behind" 1025 (.ref 605),hE P "_law_led" 1031 (.ref 610),hE P "_law_end" 1042 (.ref 617),hE P "_law_start" 1048 (.ref 622),hE P "_law_wants" 1056 (.ref 629),hE P "_law_refused" 1075 (.ref 636),hE P "law" 1081 (.ref 641)] 97 })::(nat_lit 15,hU #[.type "ValueError"])::(nat_lit 22,hU #[])::(nat_lit 23,{ cls:=.type "dict",data:=.dict #[hE P "__module__" 196 (hS "steadyhand.errors" 187),hE P "__firstlineno__" 200 (.int 2 199),hE P "__static_attributes__" 201 (.ref 22),hE P "__weakref__" 203 (.ref 25),hE P "__doc__" 204 (.none)] 3 })::(nat_lit 24,{ cls:=.type "type",data:=.cls { name:="SteadyError",bases:=[.type "ValueError"],mro:=[.ref 24,.type "ValueError",.type "Exception",.type "BaseException",.type "object"],ns:=23,qualname:="SteadyError",subclasses:=[.ref 37,.ref 49,.ref 61,.ref 80,.ref 92,.ref 104] },slots:=#[some (.ref 15),none,some (hS "SteadyError" 189),some (hS "SteadyError" 197),some (.builtin "ValueError.__new__"),some (.bool true)] })::(nat_lit 25,{ cls:=.type "getset_descriptor",data:=.fields #[hS "__weakref__" 202,.ref 24,.builtin "ExceptionGroup.__weakref__",.none] })::(nat_lit 28,hU #[.ref 24])::(nat_lit 35,hU #[])::(nat_lit 36,{ cls:=.type "dict",data:=.dict #[hE P "__module__" 214 (hS "steadyhand.errors" 187),hE P "__firstlineno__" 218 (.int 4 217),hE P "__static_attributes__" 219 (.ref 35),hE P "__doc__" 220 (.none)] 2 })::(nat_lit 37,{ cls:=.type "type",data:=.cls { name:="NoNumber",bases:=[.ref 24],mro:=[.ref 37,.ref 24,.type "ValueError",.type "Exception",.type "BaseException",.type "object"],ns:=36,qualname:="NoNumber" },slots:=#[some (.ref 28),none,some (hS "NoNumber" 207),some (hS "NoNumber" 215),some (.builtin "ValueError.__new__"),some (.bool true)] })::(nat_lit 40,hU #[.ref 24])::(nat_lit 47,hU #[])::(nat_lit 48,{ cls:=.type "dict",data:=.dict #[hE P "__module__" 230 (hS "steadyhand.errors" 187),hE P "__firstlineno__" 234 (.int 6 233),hE P "__static_attributes__" 235 (.ref 47),hE P "__doc__" 236 (.none)] 2 })::(nat_lit 49,{ cls:=.type "type",data:=.cls { name:="BadThing",bases:=[.ref 24],mro:=[.ref 49,.ref 24,.type "ValueError",.type "Exception",.type "BaseException",.type "object"],ns:=48,qualname:="BadThing" },slots:=#[some (.ref 40),none,some (hS "BadThing" 223),some (hS "BadThing" 231),some (.builtin "ValueError.__new__"),some (.bool true)] })::(nat_lit 52,hU #[.ref 24])::(nat_lit 59,hU #[])::(nat_lit 60,{ cls:=.type "dict",data:=.dict #[hE P "__module__" 246 (hS "steadyhand.errors" 187),hE P "__firstlineno__" 250 (.int 8 249),hE P "__static_attributes__" 251 (.ref 59),hE P "__doc__" 252 (.none)] 2 })::(nat_lit 61,{ cls:=.type "type",data:=.cls { name:="TooMany",bases:=[.ref 24],mro:=[.ref 61,.ref 24,.type "ValueError",.type "Exception",.type "BaseException",.type "object"],ns:=60,qualname:="TooMany" },slots:=#[some (.ref 52),none,some (hS "TooMany" 239),some (hS "TooMany" 247),some (.builtin "ValueError.__new__"),some (.bool true)] })::(nat_lit 64,hU #[.ref 24])::(nat_lit 71,hU #[])::(nat_lit 73,hU #[hS "self" 270,hS "step" 271])::(nat_lit 74,hU #[])::(nat_lit 76,hD "__init__" 267 "NoRun.__init__" 268 269 12 2 3 71 72 .none (.ref 73) (.ref 74) (.ref 75) 272 12 273)::(nat_lit 77,hF "__init__" "NoRun.__init__" (hI 5 0) .none .none "steadyhand.errors" 187 76)::(nat_lit 78,hU #[hS "step" 275])::(nat_lit 79,{ cls:=.type "dict",data:=.dict #[hE P "__module__" 262 (hS "steadyhand.errors" 187),hE P "__firstlineno__" 266 (.int 10 265),hE P "__init__" 274 (.ref 77),hE P "__static_attributes__" 276 (.ref 78),hE P "__doc__" 277 (.none)] 2 })::(nat_lit 80,{ cls:=.type "type",data:=.cls { name:="NoRun",bases:=[.ref 24],mro:=[.ref 80,.ref 24,.type "ValueError",.type "Exception",.type "BaseException",.type "object"],ns:=79,qualname:="NoRun" },slots:=#[some (.ref 64),none,some (hS "NoRun" 255),some (hS "NoRun" 263),some (.builtin "ValueError.__new__"),some (.bool true)] })::(nat_lit 83,hU #[.ref 24])::(nat_lit 90,hU #[])::(nat_lit 91,{ cls:=.type "dict",data:=.dict #[hE P "__module__" 287 (hS "steadyhand.errors" 187),hE P "__firstlineno__" 291 (.int 15 290),hE P "__static_attributes__" 292 (.ref 90),hE P "__doc__" 293 (.none)] 2 })::(nat_lit 92,{ cls:=.type "type",data:=.cls { name:="NotClosed",bases:=[.ref 24],mro:=[.ref 92,.ref 24,.type "ValueError",.type "Exception",.type "BaseException",.type "object"],ns:=91,qualname:="NotClosed" },slots:=#[some (.ref 83),none,some (hS "NotClosed" 280),some (hS "NotClosed" 288),some (.builtin "ValueError.__new__"),some (.bool true)] })::(nat_lit 95,hU #[.ref 24])::(nat_lit 102,hU #[])::(nat_lit 103,{ cls:=.type "dict",data:=.dict #[hE P "__module__" 303 (hS "steadyhand.errors" 187),hE P "__firstlineno__" 307 (.int 17 306),hE P "__static_attributes__" 308 (.ref 102),hE P "__doc__" 309 (.none)] 2 })::(nat_lit 104,{ cls:=.type "type",data:=.cls { name:="NotPlain",bases:=[.ref 24],mro:=[.ref 104,.ref 24,.type "ValueError",.type "Exception",.type "BaseException",.type "object"],ns:=103,qualname:="NotPlain" },slots:=#[some (.ref 95),none,some (hS "NotPlain" 296),some (hS "NotPlain" 304),some (.builtin "ValueError.__new__"),some (.bool true)] })::(nat_lit 107,hU #[])::(nat_lit 109,hU #[hS "thing" 317])::(nat_lit 110,hU #[])::(nat_lit 112,hD "is_whole" 314 "is_whole" 315 316 20 1 3 107 108 .none (.ref 109) (.ref 110) (.ref 111) 318 20 319)::(nat_lit 113,hF "is_whole" "is_whole" (hT 9) .none .none "steadyhand.fractions" 312 112)::(nat_lit 114,hU #[])::(nat_lit 116,hU #[hS "numbers" 324,hS "common" 325,hS "number" 326,hS "rest" 327,hS "left" 328])::(nat_lit 117,hU #[])::(nat_lit 119,hD "common_divisor" 321 "common_divisor" 322 323 22 1 3 114 115 .none (.ref 116) (.ref 117) (.ref 118) 329 22 330)::(nat_lit 120,hF "common_divisor" "common_divisor" (hT 10) .none .none "steadyhand.fractions" 312 119)::(nat_lit 121,hU #[.int 1 332])::(nat_lit 122,hU #[])::(nat_lit 124,hU #[hS "top" 336,hS "bottom" 337,hS "common" 338])::(nat_lit 125,hU #[])::(nat_lit 127,hD "fraction" 333 "fraction" 334 335 31 2 3 122 123 .none (.ref 124) (.ref 125) (.ref 126) 339 31 340)::(nat_lit 128,hF "fraction" "fraction" (hT 11) (.ref 121) .none "steadyhand.fractions" 312 127)::(nat_lit 129,hU #[])::(nat_lit 131,hU #[hS "one" 345,hS "other" 346])::(nat_lit 132,hU #[])::(nat_lit 134,hD "minus" 342 "minus" 343 344 40 2 3 129 130 .none (.ref 131) (.ref 132) (.ref 133) 347 40 348)::(nat_lit 135,hF "minus" "minus" (hT 12) .none .none "steadyhand.fractions" 312 134)::(nat_lit 136,hU #[])::(nat_lit 138,hU #[hS "one" 353,hS "other" 354])::(nat_lit 139,hU #[])::(nat_lit 141,hD "times" 350 "times" 351 352 42 2 3 136 137 .none (.ref 138) (.ref 139) (.ref 140) 355 42 356)::(nat_lit 142,hF "times" "times" (hT 13) .none .none "steadyhand.fractions" 312 141)::(nat_lit 143,hU #[])::(nat_lit 145,hU #[hS "one" 361,hS "other" 362])::(nat_lit 146,hU #[])::(nat_lit 148,hD "under" 358 "under" 359 360 44 2 3 143 144 .none (.ref 145) (.ref 146) (.ref 147) 363 44 364)::(nat_lit 149,hF "under" "under" (hT 14) .none .none "steadyhand.fractions" 312 148)::(nat_lit 150,hU #[])::(nat_lit 153,hD "is_numbers" 368 "is_numbers" 369 370 47 2 3 150 151 .none .none .none (.ref 152) 371 47 372)::(nat_lit 154,hF "is_numbers" "is_numbers" (hT 16) .none .none "steadyhand.tables" 366 153)::(nat_lit 155,hU #[])::(nat_lit 158,hD "is_table" 374 "is_table" 375 376 49 3 3 155 156 .none .none .none (.ref 157) 377 49 378)::(nat_lit 159,hF "is_table" "is_table" (hT 17) .none .none "steadyhand.tables" 366 158)::(nat_lit 160,hU #[.int 5 380])::(nat_lit 161,hU #[])::(nat_lit 164,hD "copied" 381 "copied" 382 383 51 2 3 161 162 .none .none .none (.ref 163) 384 51 385)::(nat_lit 165,hF "copied" "copied" (hT 18) (.ref 160) .none "steadyhand.tables" 366 164)::(nat_lit 166,hU #[.int 1 387])::(nat_lit 167,hU #[])::(nat_lit 170,hD "unit" 388 "unit" 389 390 59 3 3 167 168 .none .none .none (.ref 169) 391 59 392)::(nat_lit 171,hF "unit" "unit" (hT 19) (.ref 166) .none "steadyhand.tables" 366 170)::(nat_lit 172,hU #[])::(nat_lit 175,hD "paired" 394 "paired" 395 396 61 2 3 172 173 .none .none .none (.ref 174) 397 61 398)::(nat_lit 176,hF "paired" "paired" (hT 20) .none .none "steadyhand.tables" 366 175)::(nat_lit 177,hU #[])::(nat_lit 180,hD "added_up" 400 "added_up" 401 402 63 3 3 177 178 .none .none .none (.ref 179) 403 63 404)::(nat_lit 181,hF "added_up" "added_up" (hT 21) .none .none "steadyhand.tables" 366 180)::(nat_lit 182,hU #[])::(nat_lit 185,hD "is_row" 408 "is_row" 409 410 66 2 3 182 183 .none .none .none (.ref 184) 411 66 412)::(nat_lit 186,hF "is_row" "is_row" (hT 23) .none .none "steadyhand.rows" 406 185)::(nat_lit 187,hU #[])::(nat_lit 190,hD "is_room" 414 "is_room" 415 416 68 2 3 187 188 .none .none .none (.ref 189) 417 68 418)::(nat_lit 191,hF "is_room" "is_room" (hT 24) .none .none "steadyhand.rows" 406 190)::(nat_lit 192,hU #[])::(nat_lit 194,hU #[hS "place" 423,hS "many" 424,hS "number" 425,hS "bound" 426])::(nat_lit 195,hU #[])::(nat_lit 197,hD "single" 420 "single" 421 422 70 4 3 192 193 .none (.ref 194) (.ref 195) (.ref 196) 427 70 428)::(nat_lit 198,hF "single" "single" (hT 25) .none .none "steadyhand.rows" 406 197)::(nat_lit 199,hU #[])::(nat_lit 201,hU #[hS "numbers" 433,hS "point" 434,hS "top" 435,hS "bottom" 436,hS "number" 437,hS "part" 438])::(nat_lit 202,hU #[])::(nat_lit 204,hD "raw_sum" 430 "raw_sum" 431 432 72 2 3 199 200 .none (.ref 201) (.ref 202) (.ref 203) 439 72 440)::(nat_lit 205,hF "raw_sum" "raw_sum" (hT 26) .none .none "steadyhand.rows" 406 204)::(nat_lit 206,hU #[])::(nat_lit 208,hU #[hS "row" 445,hS "point" 446,hS "total" 447])::(nat_lit 209,hU #[])::(nat_lit 211,hD "along" 442 "along" 443 444 79 2 3 206 207 .none (.ref 208) (.ref 209) (.ref 210) 448 79 449)::(nat_lit 212,hF "along" "along" (hT 27) .none .none "steadyhand.rows" 406 211)::(nat_lit 213,hU #[])::(nat_lit 215,hU #[hS "numbers" 454,hS "point" 455,hS "add" 456,hS "divisor" 457,hS "total" 458])::(nat_lit 216,hU #[])::(nat_lit 218,hD "divided_sum" 451 "divided_sum" 452 453 82 4 3 213 214 .none (.ref 215) (.ref 216) (.ref 217) 459 82 460)::(nat_lit 219,hF "divided_sum" "divided_sum" (hT 28) .none .none "steadyhand.rows" 406 218)::(nat_lit 220,hU #[])::(nat_lit 222,hU #[hS "row" 465,hS "point" 466,hS "total" 467])::(nat_lit 223,hU #[])::(nat_lit 225,hD "holds" 462 "holds" 463 464 85 2 3 220 221 .none (.ref 222) (.ref 223) (.ref 224) 468 85 469)::(nat_lit 226,hF "holds" "holds" (hT 29) .none .none "steadyhand.rows" 406 225)::(nat_lit 227,hU #[])::(nat_lit 230,hD "lies_in" 471 "lies_in" 472 473 88 2 3 227 228 .none .none .none (.ref 229) 474 88 475)::(nat_lit 231,hF "lies_in" "lies_in" (hT 30) .none .none "steadyhand.rows" 406 230)::(nat_lit 232,hU #[])::(nat_lit 235,hD "solved" 479 "solved" 480 481 91 1 3 232 233 .none .none .none (.ref 234) 482 91 483)::(nat_lit 236,hF "solved" "solved" (hT 32) .none .none "steadyhand.solving" 477 235)::(nat_lit 237,hU #[])::(nat_lit 239,hU #[hS "rows" 488,hS "place" 489,hS "number" 490])::(nat_lit 240,hU #[])::(nat_lit 242,hD "first_with" 485 "first_with" 486 487 103 2 3 237 238 .none (.ref 239) (.ref 240) (.ref 241) 491 103 492)::(nat_lit 243,hF "first_with" "first_with" (hT 33) .none .none "steadyhand.solving" 477 242)::(nat_lit 244,hU #[])::(nat_lit 246,hU #[hS "rows" 497,hS "place" 498,hS "found" 499,hS "told" 500])::(nat_lit 247,hU #[])::(nat_lit 249,hD "put_ahead" 494 "put_ahead" 495 496 108 3 3 244 245 .none (.ref 246) (.ref 247) (.ref 248) 501 108 502)::(nat_lit 250,hF "put_ahead" "put_ahead" (hT 34) .none .none "steadyhand.solving" 477 249)::(nat_lit 251,hU #[])::(nat_lit 254,hD "cleared" 504 "cleared" 505 506 113 4 3 251 252 .none .none .none (.ref 253) 507 113 508)::(nat_lit 255,hF "cleared" "cleared" (hT 35) .none .none "steadyhand.solving" 477 254)::(nat_lit 256,hU #[])::(nat_lit 259,hD "most" 512 "most" 513 514 116 2 3 256 257 .none .none .none (.ref 258) 515 116 516)::(nat_lit 260,hF "most" "most" (hT 37) .none .none "steadyhand.most" 510 259)::(nat_lit 261,hU #[])::(nat_lit 264,hD "climbed" 518 "climbed" 519 520 130 4 3 261 262 .none .none .none (.ref 263) 521 130 522)::(nat_lit 265,hF "climbed" "climbed" (hT 38) .none .none "steadyhand.most" 510 264)::(nat_lit 266,hU #[])::(nat_lit 269,hD "axes" 524 "axes" 525 526 142 1 3 266 267 .none .none .none (.ref 268) 527 142 528)::(nat_lit 270,hF "axes" "axes" (hT 39) .none .none "steadyhand.most" 510 269)::(nat_lit 271,hU #[])::(nat_lit 274,hD "first_corner" 530 "first_corner" 531 532 144 2 3 271 272 .none .none .none (.ref 273) 533 144 534)::(nat_lit 275,hF "first_corner" "first_corner" (hT 40) .none .none "steadyhand.most" 510 274)::(nat_lit 276,hU #[])::(nat_lit 279,hD "corner_point" 536 "corner_point" 537 538 154 2 3 276 277 .none .none .none (.ref 278) 539 154 540)::(nat_lit 280,hF "corner_point" "corner_point" (hT 41) .none .none "steadyhand.most" 510 279)::(nat_lit 281,hU #[])::(nat_lit 284,hD "weights_of" 542 "weights_of" 543 544 156 3 3 281 282 .none .none .none (.ref 283) 545 156 546)::(nat_lit 285,hF "weights_of" "weights_of" (hT 42) .none .none "steadyhand.most" 510 284)::(nat_lit 286,hU #[])::(nat_lit 289,hD "way_off" 548 "way_off" 549 550 158 4 3 286 287 .none .none .none (.ref 288) 551 158 552)::(nat_lit 290,hF "way_off" "way_off" (hT 43) .none .none "steadyhand.most" 510 289)::(nat_lit 291,hU #[])::(nat_lit 294,hD "least_place" 554 "least_place" 555 556 161 2 3 291 292 .none .none .none (.ref 293) 557 161 558)::(nat_lit 295,hF "least_place" "least_place" (hT 44) .none .none "steadyhand.most" 510 294)::(nat_lit 296,hU #[])::(nat_lit 298,hU #[hS "corner" 563,hS "place" 564,hS "number" 565])::(nat_lit 299,hU #[])::(nat_lit 301,hD "exchanged" 560 "exchanged" 561 562 164 3 3 296 297 .none (.ref 298) (.ref 299) (.ref 300) 566 164 567)::(nat_lit 302,hF "exchanged" "exchanged" (hT 45) .none .none "steadyhand.most" 510 301)::(nat_lit 303,hU #[])::(nat_lit 305,hU #[hS "room" 572,hS "point" 573,hS "number" 574,hS "row" 575])::(nat_lit 306,hU #[])::(nat_lit 308,hD "first_broken" 569 "first_broken" 570 571 166 2 3 303 304 .none (.ref 305) (.ref 306) (.ref 307) 576 166 577)::(nat_lit 309,hF "first_broken" "first_broken" (hT 46) .none .none "steadyhand.most" 510 308)::(nat_lit 310,hU #[])::(nat_lit 312,hU #[hS "room" 582,hS "point" 583,hS "way" 584,hS "met" 585,hS "least" 586,hS "number" 587,hS "row" 588,hS "speed" 589,hS "spare" 590])::(nat_lit 313,hU #[])::(nat_lit 315,hD "first_met" 579 "first_met" 580 581 171 3 3 310 311 .none (.ref 312) (.ref 313) (.ref 314) 591 171 592)::(nat_lit 316,hF "first_met" "first_met" (hT 47) .none .none "steadyhand.most" 510 315)::(nat_lit 317,hU #[])::(nat_lit 320,hD "over_one_bottom" 594 "over_one_bottom" 595 596 182 1 3 317 318 .none .none .none (.ref 319) 597 182 598)::(nat_lit 321,hF "over_one_bottom" "over_one_bottom" (hT 48) .none .none "steadyhand.most" 510 320)::(nat_lit 322,hU #[])::(nat_lit 325,hD "spread" 600 "spread" 601 602 187 3 3 322 323 .none .none .none (.ref 324) 603 187 604)::(nat_lit 326,hF "spread" "spread" (hT 49) .none .none "steadyhand.most" 510 325)::(nat_lit 327,hU #[])::(nat_lit 329,hU #[hS "thing" 611,hS "mode" 612,hS "row" 613,hS "numbers" 614,hS "ahead" 615])::(nat_lit 330,hU #[])::(nat_lit 332,hD "reach" 608 "reach" 609 610 195 3 3 327 328 .none (.ref 329) (.ref 330) (.ref 331) 616 195 617)::(nat_lit 333,hF "reach" "reach" (hT 51) .none .none "steadyhand.reach" 606 332)::(nat_lit 334,hU #[])::(nat_lit 337,hD "worst_pushes" 619 "worst_pushes" 620 621 199 2 3 334 335 .none .none .none (.ref 336) 622 199 623)::(nat_lit 338,hF "worst_pushes" "worst_pushes" (hT 52) .none .none "steadyhand.reach" 606 337)::(nat_lit 339,hU #[])::(nat_lit 341,hU #[hS "thing" 628,hS "row" 629])::(nat_lit 342,hU #[])::(nat_lit 344,hD "without_pushes" 625 "without_pushes" 626 627 201 2 3 339 340 .none (.ref 341) (.ref 342) (.ref 343) 630 201 631)::(nat_lit 345,hF "without_pushes" "without_pushes" (hT 53) .none .none "steadyhand.reach" 606 344)::(nat_lit 346,hU #[])::(nat_lit 349,hD "point_behind" 635 "point_behind" 636 637 204 4 3 346 347 .none .none .none (.ref 348) 638 204 639)::(nat_lit 350,hF "point_behind" "point_behind" (hT 55) .none .none "steadyhand.runs" 633 349)::(nat_lit 351,hU #[])::(nat_lit 353,hU #[hS "mode" 644,hS "place" 645,hS "point" 646,hS "steering" 647,hS "pushes" 648,hS "numbers" 649,hS "values" 650])::(nat_lit 354,hU #[])::(nat_lit 356,hD "number_behind" 641 "number_behind" 642 643 206 5 3 351 352 .none (.ref 353) (.ref 354) (.ref 355) 651 206 652)::(nat_lit 357,hF "number_behind" "number_behind" (hT 56) .none .none "steadyhand.runs" 633 356)::(nat_lit 358,hU #[])::(nat_lit 360,hU #[hS "thing" 657,hS "point" 658,hS "run" 659,hS "modes" 660,hS "bounds" 661,hS "points" 662,hS "number" 663,hS "step" 664])::(nat_lit 361,hU #[])::(nat_lit 363,hD "walked" 654 "walked" 655 656 213 3 3 358 359 .none (.ref 360) (.ref 361) (.ref 362) 665 213 666)::(nat_lit 364,hF "walked" "walked" (hT 57) .none .none "steadyhand.runs" 633 363)::(nat_lit 365,hU #[])::(nat_lit 368,hD "can_be_made" 668 "can_be_made" 669 670 222 4 3 365 366 .none .none .none (.ref 367) 671 222 672)::(nat_lit 369,hF "can_be_made" "can_be_made" (hT 58) .none .none "steadyhand.runs" 633 368)::(nat_lit 370,hU #[])::(nat_lit 372,hU #[hS "push" 677,hS "bound" 678])::(nat_lit 373,hU #[])::(nat_lit 375,hD "lies_between" 674 "lies_between" 675 676 228 2 3 370 371 .none (.ref 372) (.ref 373) (.ref 374) 679 228 680)::(nat_lit 376,hF "lies_between" "lies_between" (hT 59) .none .none "steadyhand.runs" 633 375)::(nat_lit 384,hU #[])::(nat_lit 386,hU #[hS "self" 705,hS "rows" 706,hS "nexts" 707,hS "steer" 708,hS "push" 709,hS "add" 710,hS "divisor" 711])::(nat_lit 387,hU #[])::(nat_lit 389,hD "__init__" 702 "Mode.__init__" 703 704 236 7 3 384 385 .none (.ref 386) (.ref 387) (.ref 388) 712 236 713)::(nat_lit 390,hF "__init__" "Mode.__init__" (hI 64 0) .none .none "steadyhand.things" 682 389)::(nat_lit 391,hU #[hS "add" 715,hS "divisor" 716,hS "nexts" 717,hS "push" 718,hS "rows" 719,hS "steer" 720])::(nat_lit 392,{ cls:=.type "dict",data:=.dict #[hE P "__module__" 697 (hS "steadyhand.things" 682),hE P "__firstlineno__" 701 (.int 234 700),hE P "__init__" 714 (.ref 390),hE P "__static_attributes__" 721 (.ref 391),hE P "__dict__" 723 (.ref 394),hE P "__weakref__" 725 (.ref 395),hE P "__doc__" 726 (.none)] 4 })::(nat_lit 393,{ cls:=.type "type",data:=.cls { name:="Mode",bases:=[.type "object"],mro:=[.ref 393,.type "object"],ns:=392,qualname:="Mode" },slots:=#[none,none,some (hS "Mode" 690),some (hS "Mode" 698),some (.builtin "object.__new__"),some (.bool true)] })::(nat_lit 394,{ cls:=.type "getset_descriptor",data:=.fields #[hS "__dict__" 722,.ref 393,.builtin "function.__dict__",.builtin "function.__dict__#set"] })::(nat_lit 395,{ cls:=.type "getset_descriptor",data:=.fields #[hS "__weakref__" 724,.ref 393,.builtin "ExceptionGroup.__weakref__",.none] })::(nat_lit 405,hU #[])::(nat_lit 407,hU #[hS "self" 744,hS "many" 745,hS "pushes" 746,hS "modes" 747])::(nat_lit 408,hU #[])::(nat_lit 410,hD "__init__" 741 "Thing.__init__" 742 743 245 4 3 405 406 .none (.ref 407) (.ref 408) (.ref 409) 748 245 749)::(nat_lit 411,hF "__init__" "Thing.__init__" (hI 65 0) .none .none "steadyhand.things" 682 410)::(nat_lit 412,hU #[])::(nat_lit 414,hU #[hS "self" 754])::(nat_lit 415,hU #[])::(nat_lit 417,hD "pushes" 751 "Thing.pushes" 752 753 254 1 3 412 413 .none (.ref 414) (.ref 415) (.ref 416) 755 254 756)::(nat_lit 418,hF "pushes" "Thing.pushes" (hI 65 1) .none .none "steadyhand.things" 682 417)::(nat_lit 419,hU #[])::(nat_lit 421,hU #[hS "self" 761])::(nat_lit 422,hU #[])::(nat_lit 424,hD "modes" 758 "Thing.modes" 759 760 257 1 3 419 420 .none (.ref 421) (.ref 422) (.ref 423) 762 257 763)::(nat_lit 425,hF "modes" "Thing.modes" (hI 65 2) .none .none "steadyhand.things" 682 424)::(nat_lit 426,hU #[])::(nat_lit 429,hD "is_closed" 765 "Thing.is_closed" 766 767 260 1 3 426 427 .none .none .none (.ref 428) 768 260 769)::(nat_lit 430,hF "is_closed" "Thing.is_closed" (hI 65 3) .none .none "steadyhand.things" 682 429)::(nat_lit 431,hU #[])::(nat_lit 433,hU #[hS "self" 774])::(nat_lit 434,hU #[])::(nat_lit 436,hD "is_plain" 771 "Thing.is_plain" 772 773 263 1 3 431 432 .none (.ref 433) (.ref 434) (.ref 435) 775 263 776)::(nat_lit 437,hF "is_plain" "Thing.is_plain" (hI 65 4) .none .none "steadyhand.things" 682 436)::(nat_lit 438,hU #[hS "kept_modes" 778,hS "kept_pushes" 779,hS "many" 780])::(nat_lit 439,{ cls:=.type "dict",data:=.dict #[hE P "__module__" 736 (hS "steadyhand.things" 682),hE P "__firstlineno__" 740 (.int 243 739),hE P "__init__" 750 (.ref 411),hE P "pushes" 757 (.ref 418),hE P "modes" 764 (.ref 425),hE P "is_closed" 770 (.ref 430),hE P "is_plain" 777 (.ref 437),hE P "__static_attributes__" 781 (.ref 438),hE P "__dict__" 783 (.ref 441),hE P "__weakref__" 785 (.ref 442),hE P "__doc__" 786 (.none)] 4 })::(nat_lit 440,{ cls:=.type "type",data:=.cls { name:="Thing",bases:=[.type "object"],mro:=[.ref 440,.type "object"],ns:=439,qualname:="Thing" },slots:=#[none,none,some (hS "Thing" 729),some (hS "Thing" 737),some (.builtin "object.__new__"),some (.bool true)] })::(nat_lit 441,{ cls:=.type "getset_descriptor",data:=.fields #[hS "__dict__" 782,.ref 440,.builtin "function.__dict__",.builtin "function.__dict__#set"] })::(nat_lit 442,{ cls:=.type "getset_descriptor",data:=.fields #[hS "__weakref__" 784,.ref 440,.builtin "ExceptionGroup.__weakref__",.none] })::(nat_lit 445,hU #[])::(nat_lit 448,hD "is_sound" 789 "is_sound" 790 791 265 3 3 445 446 .none .none .none (.ref 447) 792 265 793)::(nat_lit 449,hF "is_sound" "is_sound" (hT 66) .none .none "steadyhand.things" 682 448)::(nat_lit 450,hU #[])::(nat_lit 452,hU #[hS "value" 798])::(nat_lit 453,hU #[])::(nat_lit 455,hD "is_push" 795 "is_push" 796 797 273 1 3 450 451 .none (.ref 452) (.ref 453) (.ref 454) 799 273 800)::(nat_lit 456,hF "is_push" "is_push" (hT 67) .none .none "steadyhand.things" 682 455)::(nat_lit 457,hU #[])::(nat_lit 459,hU #[hS "value" 805,hS "many" 806,hS "wide" 807])::(nat_lit 460,hU #[])::(nat_lit 462,hD "is_mode" 802 "is_mode" 803 804 277 3 3 457 458 .none (.ref 459) (.ref 460) (.ref 461) 808 277 809)::(nat_lit 463,hF "is_mode" "is_mode" (hT 68) .none .none "steadyhand.things" 682 462)::(nat_lit 464,hU #[])::(nat_lit 467,hD "is_unsteered" 811 "is_unsteered" 812 813 285 1 3 464 465 .none .none .none (.ref 466) 814 285 815)::(nat_lit 468,hF "is_unsteered" "is_unsteered" (hT 69) .none .none "steadyhand.things" 682 467)::(nat_lit 469,hU #[])::(nat_lit 471,hU #[hS "thing" 820])::(nat_lit 472,hU #[])::(nat_lit 474,hD "ask_closed" 817 "ask_closed" 818 819 287 1 3 469 470 .none (.ref 471) (.ref 472) (.ref 473) 821 287 822)::(nat_lit 475,hF "ask_closed" "ask_closed" (hT 70) .none .none "steadyhand.things" 682 474)::(nat_lit 476,hU #[])::(nat_lit 478,hU #[hS "thing" 827])::(nat_lit 479,hU #[])::(nat_lit 481,hD "ask_plain" 824 "ask_plain" 825 826 290 1 3 476 477 .none (.ref 478) (.ref 479) (.ref 480) 828 290 829)::(nat_lit 482,hF "ask_plain" "ask_plain" (hT 71) .none .none "steadyhand.things" 682 481)::(nat_lit 483,hU #[])::(nat_lit 486,hD "pulled_back" 833 "pulled_back" 834 835 294 3 3 483 484 .none .none .none (.ref 485) 836 294 837)::(nat_lit 487,hF "pulled_back" "pulled_back" (hT 73) .none .none "steadyhand.worst" 831 486)::(nat_lit 488,hU #[])::(nat_lit 490,hU #[hS "thing" 842,hS "start" 843,hS "row" 844,hS "turns" 845,hS "pulled" 846,hS "found" 847,hS "points" 848])::(nat_lit 491,hU #[])::(nat_lit 493,hD "worst" 839 "worst" 840 841 303 4 3 488 489 .none (.ref 490) (.ref 491) (.ref 492) 849 303 850)::(nat_lit 494,hF "worst" "worst" (hT 74) .none .none "steadyhand.worst" 831 493)::(nat_lit 495,hU #[])::(nat_lit 497,hU #[hS "_law_script" 857,hS "_law_k" 858])::(nat_lit 498,hU #[])::(nat_lit 500,hD "_law_cell_at" 854 "_law_cell_at" 855 856 313 2 3 495 496 .none (.ref 497) (.ref 498) (.ref 499) 859 313 860)::(nat_lit 501,hF "_law_cell_at" "_law_cell_at" (hT 76) .none .none "law_steadyhand_k75_the_worst" 852 500)::(nat_lit 502,hU #[])::(nat_lit 504,hU #[hS "_law_cell" 865,hS "_law_many" 866,hS "_law_found" 867,hS "_law_rest" 868,hS "_law_k" 869,hS "_law_number_here" 870])::(nat_lit 505,hU #[])::(nat_lit 507,hD "_law_stream" 862 "_law_stream" 863 864 317 2 3 502 503 .none (.ref 504) (.ref 505) (.ref 506) 871 317 872)::(nat_lit 508,hF "_law_stream" "_law_stream" (hT 77) .none .none "law_steadyhand_k75_the_worst" 852 507)::(nat_lit 509,hU #[])::(nat_lit 511,hU #[hS "_law_x" 877,hS "_law_far" 878])::(nat_lit 512,hU #[])::(nat_lit 514,hD "_law_number" 874 "_law_number" 875 876 330 2 3 509 510 .none (.ref 511) (.ref 512) (.ref 513) 879 330 880)::(nat_lit 515,hF "_law_number" "_law_number" (hT 78) .none .none "law_steadyhand_k75_the_worst" 852 514)::(nat_lit 516,hU #[])::(nat_lit 519,hD "_law_mode" 882 "_law_mode" 883 884 332 5 3 516 517 .none .none .none (.ref 518) 885 332 886)::(nat_lit 520,hF "_law_mode" "_law_mode" (hT 79) .none .none "law_steadyhand_k75_the_worst" 852 519)::(nat_lit 521,hU #[])::(nat_lit 523,hU #[hS "_law_script" 891,hS "_law_most_modes" 892,hS "_law_first" 893,hS "_law_second" 894,hS "_law_unit" 895,hS "_law_many" 896,hS "_law_pushes" 897,hS "_law_k" 898,hS "_law_x" 899,hS "_law_modes" 900,hS "_law_cell" 901])::(nat_lit 524,hU #[])::(nat_lit 526,hD "_law_thing" 888 "_law_thing" 889 890 346 2 3 521 522 .none (.ref 523) (.ref 524) (.ref 525) 902 346 903)::(nat_lit 527,hF "_law_thing" "_law_thing" (hT 80) .none .none "law_steadyhand_k75_the_worst" 852 526)::(nat_lit 528,hU #[])::(nat_lit 531,hD "_law_made" 905 "_law_made" 906 907 360 1 3 528 529 .none .none .none (.ref 530) 908 360 909)::(nat_lit 532,hF "_law_made" "_law_made" (hT 81) .none .none "law_steadyhand_k75_the_worst" 852 531)::(nat_lit 533,hU #[])::(nat_lit 535,hU #[hS "_law_cell" 914,hS "_law_many" 915,hS "_law_unit" 916,hS "_law_xs" 917,hS "_law_box_here" 918,hS "_law_i" 919,hS "_law_low" 920])::(nat_lit 536,hU #[])::(nat_lit 538,hD "_law_box" 911 "_law_box" 912 913 367 3 3 533 534 .none (.ref 535) (.ref 536) (.ref 537) 921 367 922)::(nat_lit 539,hF "_law_box" "_law_box" (hT 82) .none .none "law_steadyhand_k75_the_worst" 852 538)::(nat_lit 540,hU #[])::(nat_lit 543,hD "_law_rows" 924 "_law_rows" 925 926 374 1 3 540 541 .none .none .none (.ref 542) 927 374 928)::(nat_lit 544,hF "_law_rows" "_law_rows" (hT 83) .none .none "law_steadyhand_k75_the_worst" 852 543)::(nat_lit 545,hU #[])::(nat_lit 547,hU #[hS "_law_numbers" 933,hS "_law_box_here" 934,hS "_law_found" 935,hS "_law_number_here" 936,hS "_law_bounds" 937])::(nat_lit 548,hU #[])::(nat_lit 550,hD "_law_top" 930 "_law_top" 931 932 381 2 3 545 546 .none (.ref 547) (.ref 548) (.ref 549) 938 381 939)::(nat_lit 551,hF "_law_top" "_law_top" (hT 84) .none .none "law_steadyhand_k75_the_worst" 852 550)::(nat_lit 552,hU #[])::(nat_lit 554,hU #[hS "_law_one" 944,hS "_law_other" 945])::(nat_lit 555,hU #[])::(nat_lit 557,hD "_law_divisor" 941 "_law_divisor" 942 943 386 2 3 552 553 .none (.ref 554) (.ref 555) (.ref 556) 946 386 947)::(nat_lit 558,hF "_law_divisor" "_law_divisor" (hT 85) .none .none "law_steadyhand_k75_the_worst" 852 557)::(nat_lit 559,hU #[])::(nat_lit 561,hU #[hS "_law_top_here" 952,hS "_law_bottom" 953,hS "_law_share" 954])::(nat_lit 562,hU #[])::(nat_lit 564,hD "_law_lowest" 949 "_law_lowest" 950 951 390 2 3 559 560 .none (.ref 561) (.ref 562) (.ref 563) 955 390 956)::(nat_lit 565,hF "_law_lowest" "_law_lowest" (hT 86) .none .none "law_steadyhand_k75_the_worst" 852 564)::(nat_lit 566,hU #[])::(nat_lit 568,hU #[hS "_law_one" 961,hS "_law_other" 962])::(nat_lit 569,hU #[])::(nat_lit 571,hD "_law_plus" 958 "_law_plus" 959 960 393 2 3 566 567 .none (.ref 568) (.ref 569) (.ref 570) 963 393 964)::(nat_lit 572,hF "_law_plus" "_law_plus" (hT 87) .none .none "law_steadyhand_k75_the_worst" 852 571)::(nat_lit 573,hU #[])::(nat_lit 575,hU #[hS "_law_numbers" 969,hS "_law_values" 970,hS "_law_found" 971,hS "_law_number_here" 972,hS "_law_value" 973])::(nat_lit 576,hU #[])::(nat_lit 578,hD "_law_along" 966 "_law_along" 967 968 395 2 3 573 574 .none (.ref 575) (.ref 576) (.ref 577) 974 395 975)::(nat_lit 579,hF "_law_along" "_law_along" (hT 88) .none .none "law_steadyhand_k75_the_worst" 852 578)::(nat_lit 580,hU #[])::(nat_lit 582,hU #[hS "_law_row" 980,hS "_law_point_here" 981,hS "_law_value" 982])::(nat_lit 583,hU #[])::(nat_lit 585,hD "_law_holds" 977 "_law_holds" 978 979 400 2 3 580 581 .none (.ref 582) (.ref 583) (.ref 584) 983 400 984)::(nat_lit 586,hF "_law_holds" "_law_holds" (hT 89) .none .none "law_steadyhand_k75_the_worst" 852 585)::(nat_lit 587,hU #[])::(nat_lit 590,hD "_law_lies" 986 "_law_lies" 987 988 403 2 3 587 588 .none .none .none (.ref 589) 989 403 990)::(nat_lit 591,hF "_law_lies" "_law_lies" (hT 90) .none .none "law_steadyhand_k75_the_worst" 852 590)::(nat_lit 592,hU #[])::(nat_lit 594,hU #[hS "_law_cell" 995,hS "_law_box_here" 996,hS "_law_xs" 997,hS "_law_parts" 998,hS "_law_point_here" 999,hS "_law_k" 1000,hS "_law_low" 1001,hS "_law_high" 1002,hS "_law_share" 1003])::(nat_lit 595,hU #[])::(nat_lit 597,hD "_law_point" 992 "_law_point" 993 994 405 2 3 592 593 .none (.ref 594) (.ref 595) (.ref 596) 1004 405 1005)::(nat_lit 598,hF "_law_point" "_law_point" (hT 91) .none .none "law_steadyhand_k75_the_worst" 852 597)::(nat_lit 599,hU #[])::(nat_lit 601,hU #[hS "_law_mode_here" 1010,hS "_law_point_here" 1011,hS "_law_steering" 1012,hS "_law_pushes" 1013,hS "_law_rows_here" 1014,hS "_law_nexts" 1015,hS "_law_steer" 1016,hS "_law_push" 1017,hS "_law_add" 1018,hS "_law_divisor_here" 1019,hS "_law_found" 1020,hS "_law_i" 1021,hS "_law_value" 1022])::(nat_lit 602,hU #[])::(nat_lit 604,hD "_law_behind" 1007 "_law_behind" 1008 1009 414 4 3 599 600 .none (.ref 601) (.ref 602) (.ref 603) 1023 414 1024)::(nat_lit 605,hF "_law_behind" "_law_behind" (hT 92) .none .none "law_steadyhand_k75_the_worst" 852 604)::(nat_lit 606,hU #[])::(nat_lit 609,hD "_law_led" 1026 "_law_led" 1027 1028 422 3 3 606 607 .none .none .none (.ref 608) 1029 422 1030)::(nat_lit 610,hF "_law_led" "_law_led" (hT 93) .none .none "law_steadyhand_k75_the_worst" 852 609)::(nat_lit 611,hU #[])::(nat_lit 613,hU #[hS "_law_spec" 1035,hS "_law_point_here" 1036,hS "_law_run" 1037,hS "_law_step" 1038,hS "_law_k" 1039])::(nat_lit 614,hU #[])::(nat_lit 616,hD "_law_end" 1032 "_law_end" 1033 1034 433 3 3 611 612 .none (.ref 613) (.ref 614) (.ref 615) 1040 433 1041)::(nat_lit 617,hF "_law_end" "_law_end" (hT 94) .none .none "law_steadyhand_k75_the_worst" 852 616)::(nat_lit 618,hU #[])::(nat_lit 621,hD "_law_start" 1043 "_law_start" 1044 1045 442 2 3 618 619 .none .none .none (.ref 620) 1046 442 1047)::(nat_lit 622,hF "_law_start" "_law_start" (hT 95) .none .none "law_steadyhand_k75_the_worst" 852 621)::(nat_lit 623,hU #[])::(nat_lit 625,hU #[hS "_law_numbers" 1052,hS "_law_open_at" 1053])::(nat_lit 626,hU #[])::(nat_lit 628,hD "_law_wants" 1049 "_law_wants" 1050 1051 452 2 3 623 624 .none (.ref 625) (.ref 626) (.ref 627) 1054 452 1055)::(nat_lit 629,hF "_law_wants" "_law_wants" (hT 96) .none .none "law_steadyhand_k75_the_worst" 852 628)::(nat_lit 630,hU #[])::(nat_lit 632,hU #[hS "_law_spec" 1060,hS "_law_cell" 1061,hS "_law_row" 1062,hS "_law_rows_here" 1063,hS "_law_nexts" 1064,hS "_law_steer" 1065,hS "_law_push" 1066,hS "_law_add" 1067,hS "_law_divisor_here" 1068,hS "_law_modes" 1069,hS "_law_due" 1070,hS "_law_found" 1071,hS "e" 1072])::(nat_lit 633,hU #[])::(nat_lit 635,hD "_law_refused" 1057 "_law_refused" 1058 1059 456 3 3 630 631 .none (.ref 632) (.ref 633) (.ref 634) 1073 456 1074)::(nat_lit 636,hF "_law_refused" "_law_refused" (hT 97) .none .none "law_steadyhand_k75_the_worst" 852 635)::(nat_lit 637,hU #[])::(nat_lit 640,hD "law" 1076 "law" 1077 1078 472 1 3 637 638 .none .none .none (.ref 639) 1079 472 1080)::(nat_lit 641,hF "law" "law" (hT 98) .none .none "law_steadyhand_k75_the_worst" 852 640) :: []
noncomputable def ks:List Addr:=[2,3,15,22,23,24,25,28,35,36,37,40,47,48,49,52,59,60,61,64,71,73,74,76,77,78,79,80,83,90,91,92,95,102,103,104,107,109,110,112,113,114,116,117,119,120,121,122,124,125,127,128,129,131,132,134,135,136,138,139,141,142,143,145,146,148,149,150,153,154,155,158,159,160,161,164,165,166,167,170,171,172,175,176,177,180,181,182,185,186,187,190,191,192,194,195,197,198,199,201,202,204,205,206,208,209,211,212,213,215,216,218,219,220,222,223,225,226,227,230,231,232,235,236,237,239,240,242,243,244,246,247,249,250,251,254,255,256,259,260,261,264,265,266,269,270,271,274,275,276,279,280,281,284,285,286,289,290,291,294,295,296,298,299,301,302,303,305,306,308,309,310,312,313,315,316,317,320,321,322,325,326,327,329,330,332,333,334,337,338,339,341,342,344,345,346,349,350,351,353,354,356,357,358,360,361,363,364,365,368,369,370,372,373,375,376,384,386,387,389,390,391,392,393,394,395,405,407,408,410,411,412,414,415,417,418,419,421,422,424,425,426,429,430,431,433,434,436,437,438,439,440,441,442,445,448,449,450,452,453,455,456,457,459,460,462,463,464,467,468,469,471,472,474,475,476,478,479,481,482,483,486,487,488,490,491,493,494,495,497,498,500,501,502,504,505,507,508,509,511,512,514,515,516,519,520,521,523,524,526,527,528,531,532,533,535,536,538,539,540,543,544,545,547,548,550,551,552,554,555,557,558,559,561,562,564,565,566,568,569,571,572,573,575,576,578,579,580,582,583,585,586,587,590,591,592,594,595,597,598,599,601,602,604,605,606,609,610,611,613,614,616,617,618,621,622,623,625,626,628,629,630,632,633,635,636,637,640,641]
theorem ke:∀ P:Params,ks=(KK P).map (·.1):=λ_=>by
 kernel_rfl
noncomputable def vw:Program:={ PySem.Challenge.pw_steadyhand_k75_the_worst with main:={ PySem.Challenge.pw_steadyhand_k75_the_worst.main with body:=[hT 1,hT 2,hT 3,hT 4,hT 5,hT 6,hT 7,hT 9,hT 10,hT 12,hT 13,hT 14,hT 16,hT 17,hT 20,hT 21,hT 23,hT 24,hT 25,hT 26,hT 27,hT 28,hT 29,hT 30,hT 32,hT 33,hT 34,hT 35,hT 37,hT 38,hT 39,hT 40,hT 41,hT 42,hT 43,hT 44,hT 45,hT 46,hT 47,hT 48,hT 49,hT 51,hT 52,hT 53,hT 55,hT 56,hT 57,hT 58,hT 59,hT 61,hT 62,hT 63,hT 64,hT 65,hT 66,hT 67,hT 68,hT 69,hT 70,hT 71,hT 73,hT 74,hT 76,hT 77,hT 78,hT 79,hT 80,hT 81,hT 82,hT 83,hT 84,hT 85,hT 86,hT 87,hT 88,hT 89,hT 90,hT 91,hT 92,hT 93,hT 94,hT 95,hT 96,hT 97,hT 98] } }
noncomputable def lo:List Str:=[Str.ofString "fraction",Str.ofString "copied",Str.ofString "unit"]
abbrev rr:RowW:=(OpenLaw.row PySem.Challenge.rw_steadyhand_k75_the_worst).toRowW
noncomputable abbrev xt:Shared->Bool:=λs=>xlAt vw [] s && recOk rr.records s
noncomputable def bt:Params->BT:=λP=>(.node (boot_o_0 P) (.node (boot_o_1 P) (.node (boot_o_3 P) (.node (boot_o_7 P) .nil .nil) .nil) (.node (boot_o_5 P) (.node (boot_o_9 P) .nil .nil) .nil)) (.node (boot_o_2 P) (.node (boot_o_4 P) (.node (boot_o_8 P) .nil .nil) .nil) (.node (boot_o_6 P) (.node (boot_o_10 P) .nil .nil) .nil)))
noncomputable def lhs (T:Params->BT) (h:Params->Heap) (d:Drawn) (k:Nat) (w:World) (os:OsState):=(TT.runT treeTable PySem.Challenge.pw_steadyhand_k75_the_worst w 11 (some (.ref 6)) 9032 ⟨T w.params,11,(h w.params).life,Array.mk [],d,k,os⟩ (topStub PySem.Challenge.pw_steadyhand_k75_the_worst)).map (λs=>((staticsOk (importedModules PySem.Challenge.pw_steadyhand_k75_the_worst.main.body) (h w.params) s.abs.heap && namesBound PySem.Challenge.pw_steadyhand_k75_the_worst s.abs.heap && gensDone s.abs && laidKept (h w.params) s.abs.heap),openSeen vw lo (importedModules PySem.Challenge.pw_steadyhand_k75_the_worst.main.body) xt true s.abs))
noncomputable def lhs2 (T:Params->BT) (h:Params->Heap) (d:Drawn) (k:Nat) (w:World) (os:OsState):=(TT.runT treeTable PySem.Challenge.pw_steadyhand_k75_the_worst w 11 (some (.ref 6)) 9032 ⟨T w.params,11,(h w.params).life,Array.mk [],d,k,os⟩ (topStub PySem.Challenge.pw_steadyhand_k75_the_worst)).map (λs=>ks.map s.abs.heap.get?)
noncomputable def rhs (_:Params->Frag) (w:World) (_:OsState):=some (true,openGood vw lo)
noncomputable def rhs2 (F:Params->Frag) (w:World) (_:OsState):=some ((F w.params).map λp=>some p.2)
lay_quick lhs rhs
lay_quick lhs2 rhs2
theorem same (w:World) (os:OsState):PySem.W.Fast.tw15576809275144649343 bt boot_heap boot_drawn boot_toks w os=PySem.W.Fast.tw8494335676189121420 KK w os:=by
 kernel_rfl
theorem kG (w:World) (os:OsState):PySem.W.Fast.tw6861501466286848519 bt boot_heap boot_drawn boot_toks w os=PySem.W.Fast.tw15214671054651575594 KK w os:=by
 kernel_rfl
theorem two {α β γ δ:Type} {o:Option α} {f:α->β × γ} {g:α->δ} {b:β} {c:γ} {d:δ} (h1:o.map f=some (b,c)) (h2:o.map g=some d):o.map (λs=>((f s).1,(f s).2,g s))=some (b,c,d):=by
 cases o with
 | none=>cases h1
 | some a=>
  injection h1 with h1
  injection h2 with h2
  show some ((f a).1,(f a).2,g a)=_
  rw [h1,h2]
theorem left:LeftO rr.prog vw lo xt (kHook KK ks ke).obs (kHook KK ks ke).val 9032:=
 TT.left_is (boot_open (by kernel_rfl) (by decide) (λ_=>by kernel_rfl)) (λ_=>by kernel_rfl) (λ_=>by kernel_rfl) (λ_=>by kernel_rfl) (λ_=>by kernel_rfl)
  λw os=>two ((congrArg (λf=>f bt boot_heap boot_drawn boot_toks w os) PySem.W.Fast.te15576809275144649343).trans ((same w os).trans (congrFun (congrFun (congrFun PySem.W.Fast.te8494335676189121420 KK) w) os).symm)) ((congrArg (λf=>f bt boot_heap boot_drawn boot_toks w os) PySem.W.Fast.te6861501466286848519).trans ((kG w os).trans (congrFun (congrFun (congrFun PySem.W.Fast.te15214671054651575594 KK) w) os).symm))
end H75
namespace L2
open PySem PySem.Spec PyProof.Rows
abbrev wL:=Sum Int Str
def Kn:wL->Value->Bool
 | .inl k,v=>Value.isInt k v
 | .inr x,v=>Value.isStrOf x v
def Wo (w:World):wL->Int
 | .inl k=>hashInt k
 | .inr x=>hashStr w x
theorem u9:∀ {k:wL} {v:Value},Kn k v=true->(∃ i t,k=Sum.inl i/\v=Value.int i t)\/(∃ x t,k=Sum.inr x/\v=Value.str x t)
 | .inl i,v,h=>by
  obtain ⟨t,e⟩:=Value.isInt_shape (k:=i) (v:=v) h
  exact .inl ⟨i,t,rfl,e⟩
 | .inr x,v,h=>by
  obtain ⟨t,e⟩:=Value.isStrOf_shape (x:=x) (v:=v) h
  exact .inr ⟨x,t,rfl,e⟩
theorem zRU (a b:Int):decide ((Sum.inl a:wL)=Sum.inl b)=(a == b):=by
 by_cases e:a=b
 ·subst e; simp
 ·have h:¬ (Sum.inl a:wL)=Sum.inl b:=λq=>e (Sum.inl.inj q)
  rw [decide_eq_false h]
  exact (beq_eq_false_iff_ne.mpr e).symm
theorem zRR (a b:Str):decide ((Sum.inr a:wL)=Sum.inr b)=decide (a=b):=by
 by_cases e:a=b
 ·subst e; simp
 ·have h:¬ (Sum.inr a:wL)=Sum.inr b:=λq=>e (Sum.inr.inj q)
  rw [decide_eq_false h,decide_eq_false e]
theorem zRT (a:Int) (b:Str):decide ((Sum.inl a:wL)=Sum.inr b)=false:=decide_eq_false (λq=>nomatch q)
theorem zRS (a:Str) (b:Int):decide ((Sum.inr a:wL)=Sum.inl b)=false:=decide_eq_false (λq=>nomatch q)
def Ko (prog:Program) (w:World):PySem.KeyKind prog w wL where
 is:=Kn
 hash:=Wo w
 inj:=λv a b ha hb=>by
  rcases u9 ha with ⟨i,t,rfl,rfl⟩ | ⟨x,t,rfl,rfl⟩
  ·rcases u9 hb with ⟨j,u,rfl,e⟩ | ⟨y,u,rfl,e⟩
   ·injection e with e1 _; rw [e1]
   ·exact nomatch e
  ·rcases u9 hb with ⟨j,u,rfl,e⟩ | ⟨y,u,rfl,e⟩
   ·exact nomatch e
   ·injection e with e1 _; rw [e1]
 byValue:=λk v h=>by
  rcases u9 h with ⟨i,t,rfl,rfl⟩ | ⟨x,t,rfl,rfl⟩ <;> rfl
 pyHash:=λhv h=>by
  rcases u9 hv with ⟨i,t,rfl,rfl⟩ | ⟨x,t,rfl,rfl⟩
  ·exact wpAny_pyHash_int h
  ·exact wpAny_pyHash_str h
 eqBool:=λhu hv h=>by
  rcases u9 hu with ⟨i,t,rfl,rfl⟩ | ⟨x,t,rfl,rfl⟩
  ·rcases u9 hv with ⟨j,u,rfl,rfl⟩ | ⟨y,u,rfl,rfl⟩
   ·rw [zRU] at h; exact wpAny_eqBool_int h
   ·rw [zRT] at h; exact SeqAt.EqAt.int_str i t y u _ _ _ _ h
  ·rcases u9 hv with ⟨j,u,rfl,rfl⟩ | ⟨y,u,rfl,rfl⟩
   ·rw [zRS] at h; exact SeqAt.EqAt.str_int x t j u _ _ _ _ h
   ·rw [zRR] at h; exact wpAny_eqBool_str h
 «strs»:=λk x t v h=>by
  rcases u9 h with ⟨i,u,rfl,e⟩ | ⟨y,u,rfl,e⟩
  ·exact nomatch e
  ·injection e with e1 _
   subst e1
   cases v <;> rfl
end L2
namespace L2
open PySem PySem.Spec PyProof.Rows
inductive V where
 | non | bl (b:Bool) | int (i:Int) | str (x:Str) | byt (b:Array UInt8) | flt (b:UInt64) | ref (a:Addr) | ty (n:String)
 deriving DecidableEq
def zU:V->Value->Prop
 | .non,u=>u=Value.none
 | .bl b,u=>u=Value.bool b
 | .int i,u=>∃ t,u=Value.int i t
 | .str x,u=>∃ t,u=Value.str x t
 | .byt b,u=>∃ t,u=Value.bytes b t
 | .flt b,u=>∃ t,u=Value.float b t
 | .ref a,u=>u=Value.ref a
 | .ty n,u=>u=Value.type n
abbrev zM:List V->List Value->Prop:=Paired zU
theorem zM.length {xs:List V} {us:List Value} (r:zM xs us):xs.length=us.length:=Paired.length r
theorem zM.get:∀ {xs:List V} {us:List Value} {i:Nat} {x:V},zM xs us->xs[i]? = some x->∃ u,us[i]? = some u/\zU x u
 | _,_,_,_,.nil,e=>by simp at e
 | _,_,0,_,.cons r _,e=>by simp at e; subst e; exact ⟨_,rfl,r⟩
 | _,_,i + 1,x,.cons _ t,e=>by
  obtain ⟨u,h1,h2⟩:=zM.get (i:=i) (x:=x) t (by simpa using e)
  exact ⟨u,by simpa using h1,h2⟩
theorem zM.set {x:V} {u:Value} (r:zU x u):∀ {xs:List V} {us:List Value} (i:Nat),zM xs us->zM (xs.set i x) (us.set i u)
 | _,_,_,.nil=>.nil
 | _,_,0,.cons _ t=>.cons r t
 | _,_,i + 1,.cons q t=>.cons q (zM.set r i t)
theorem zM.append:∀ {xs ys:List V} {us ws:List Value},zM xs us->zM ys ws->zM (xs++ys) (us++ws)
 | _,_,_,_,.nil,s=>s
 | _,_,_,_,.cons r t,s=>.cons r (zM.append t s)
theorem zM.take:∀ {xs:List V} {us:List Value} (n:Nat),zM xs us->zM (xs.take n) (us.take n)
 | _,_,0,_=>.nil
 | _,_,_ + 1,.nil=>.nil
 | _,_,n + 1,.cons r t=>.cons r (zM.take n t)
theorem zM.drop:∀ {xs:List V} {us:List Value} (n:Nat),zM xs us->zM (xs.drop n) (us.drop n)
 | _,_,0,r=>r
 | _,_,_ + 1,.nil=>.nil
 | _,_,n + 1,.cons _ t=>zM.drop n t
def wG:Option V->Option Value->Prop
 | some v,some u=>zU v u
 | none,none=>True
 | _,_=>False
def KV {κ:Type}:List (κ × V)->List (κ × Value)->Prop:=Paired λ(p:κ × V) (q:κ × Value)=>p.1=q.1/\zU p.2 q.2
def kV:wL->V
 | .inl i=>.int i
 | .inr x=>.str x
inductive HO where
 | lst (xs:List V)
 | tup (xs:List V)
 | dK (kvs:List (wL × V)) | dT (kvs:List (List wL × V))
 | set (S:Int->Bool) (n:Nat)
 | ins (C dx:Addr) (fs:List (Str × V))
 | own (x:Addr)
 | xd (fs:List (Str × V))
 | met (f x:Addr)
 | rng (lo hi:Int)
 | frz (o:Obj) (u:HO)
 | tbl (ps:Array Value)
 | ext (φ:Heap->Prop)
abbrev Hp:=Addr->Option HO
def zb (H:Hp) (a:Addr) (o:HO):Hp:=λb=>if b=a then some o else H b
theorem xb {H:Hp} {a:Addr} {o:HO}:zb H a o a=some o:=by unfold zb; rw [if_pos rfl]
theorem zv {H:Hp} {a b:Addr} {o:HO} (h:b≠a):zb H a o b=H b:=by unfold zb; rw [if_neg h]
theorem wV {H:Hp} {a b:Addr} {o:HO} (h:H a=some o) (h':H b=none):a≠b:=by
 intro e; subst e; rw [h] at h'; cases h'
section
variable (P:Program) (w:World)
def xk (H:Hp) (h:Heap) (a:Addr):HO->Prop
 | .lst xs=>xs.length<=sizeLine/\∃ (its:List Value) (n:Nat),zM xs its/\h.get? a=some { cls:=.type "list",data:=.seq its.toArray n }
 | .tup xs=>xs.length<=sizeLine/\∃ its:List Value,zM xs its/\IsTup h a its.toArray
 | .dK kvs=>kvs.length<=sizeLine/\(a == sysModules)=false/\∃ vs,KV kvs vs/\h.DictOf (Ko P w) a vs
 | .dT kvs=>kvs.length<=sizeLine/\(a == sysModules)=false/\∃ xs:List (List wL × Addr × Value),
   Paired (λ(p:List wL × V) (q:List wL × Addr × Value)=>p.1=q.1/\H q.2.1=some (.tup (p.1.map kV))/\zU p.2 q.2.2) kvs xs∧
   ∃ o es ep,h.get? a=some o/\o.ExactDict/\o.data=.dict es ep/\es.toList=xs.map (entryOfKey (tupleKind (Ko P w)))/\(xs.map (·.1)).Nodup
 | .set S n=>h.SetOf (intKind P w) a S n
 | .ins C dx fs=>H dx=some (.own a)/\fs.length<=1000/\dx≠a/\h.get? a=some (PySem.W.instObj C dx)∧
   ∃ mA,h.Ns1 dx mA/\(∀ f,wG (fs.lookup f) (mA f))/\PySem.Within mA (fs.map (·.1))
 | .own _=>∃ o,h.get? a=some o
 | .xd fs=>∃ mA,h.Ns1 a mA/\∀ f,wG (fs.lookup f) (mA f)
 | .rng lo hi=>∃ t u v,h.get? a=some { cls:=.type "range",data:=.fields #[.int lo t,.int hi u,.int 1 v] }
 | .frz o u=>h.get? a=some o/\xk H h a u
 | .tbl ps=>h.get? a=some { cls:=.none,data:=.fields ps }
 | .met f x=>h.get? a=some (PySem.W.methodObj (.ref f) (.ref x))
 | .ext φ=>φ h/\(∃ o,h.get? a=some o)/\∀ h1 h2:Heap,φ h1->(∀ o,h1.get? a=some o->h2.get? a=some o)->φ h2
def xD (H:Hp) (h:Heap):Prop:=∀ a o,H a=some o->xk P w H h a o
end
section
variable {P:Program} {w:World} {H H':Hp} {h h':Heap} {a:Addr} {o:HO}
theorem xk.lt (x:xk P w H h a o):a < h.objs.size:=by
 cases o with
 | lst xs=>obtain ⟨_,_,_,_,e⟩:=x; exact Heap.lt_size e
 | tup xs=>obtain ⟨_,_,_,p⟩:=x; exact p.lt
 | dK kvs=>obtain ⟨_,_,_,_,o,_,_,e,_⟩:=x; exact Heap.lt_size e
 | dT kvs=>obtain ⟨_,_,_,_,o,_,_,e,_⟩:=x; exact Heap.lt_size e
 | set S n=>obtain ⟨o,_,_,_,e,_⟩:=x; exact Heap.lt_size e
 | ins C dx fs=>obtain ⟨_,_,_,e,_⟩:=x; exact Heap.lt_size e
 | own y=>obtain ⟨_,e⟩:=x; exact Heap.lt_size e
 | xd fs=>obtain ⟨_,⟨_,_,_,e,_⟩,_⟩:=x; exact Heap.lt_size e
 | rng lo hi=>obtain ⟨_,_,_,e⟩:=x; exact Heap.lt_size e
 | frz ob u=>obtain ⟨e,_⟩:=x; exact Heap.lt_size e
 | tbl ps=>exact Heap.lt_size (show h.get? a=some _ from x)
 | met f y=>exact Heap.lt_size (show h.get? a=some _ from x)
 | ext φ=>obtain ⟨_,⟨_,e⟩,_⟩:=x; exact Heap.lt_size e
theorem Paired.mapP {α β:Type} {F G:α->β->Prop}:∀ {l₁:List α} {l₂:List β},Paired F l₁ l₂->(∀ a b,F a b->G a b)->Paired G l₁ l₂
 | _,_,.nil,_=>.nil
 | _,_,.cons r t,f=>.cons (f _ _ r) (Paired.mapP t f)
theorem xk.stay (x:xk P w H h a o) (k:∀ b u,(b=a\/H b=some (.own a))->h.get? b=some u->h'.get? b=some u)
  (ho:∀ b,H b=some (.own a)->H' b=some (.own a)) (ht:∀ b xs,H b=some (.tup xs)->H' b=some (.tup xs)):xk P w H' h' a o:=by
 induction o with
 | lst xs=>obtain ⟨z,its,n,r,e⟩:=x; exact ⟨z,its,n,r,k _ _ (.inl rfl) e⟩
 | tup xs=>obtain ⟨z,its,r,ob,e,c⟩:=x; exact ⟨z,its,r,ob,k _ _ (.inl rfl) e,c⟩
 | dK kvs=>obtain ⟨z,y,vs,r,ob,es,ep,e,c⟩:=x; exact ⟨z,y,vs,r,ob,es,ep,k _ _ (.inl rfl) e,c⟩
 | dT kvs=>
  obtain ⟨z,y,xs,r,ob,es,ep,e,c⟩:=x
  exact ⟨z,y,xs,Paired.mapP r λp q z=>⟨z.1,ht _ _ z.2.1,z.2.2⟩,ob,es,ep,k _ _ (.inl rfl) e,c⟩
 | set S n=>obtain ⟨ob,es,ep,t,e,c⟩:=x; exact ⟨ob,es,ep,t,k _ _ (.inl rfl) e,c⟩
 | ins C dx fs=>
  obtain ⟨d,z,ne,e,mA,⟨od,es,ep,e2,c⟩,r⟩:=x
  exact ⟨ho _ d,z,ne,k _ _ (.inl rfl) e,mA,⟨od,es,ep,k _ _ (.inr d) e2,c⟩,r⟩
 | own y=>obtain ⟨ob,e⟩:=x; exact ⟨ob,k _ _ (.inl rfl) e⟩
 | xd fs=>obtain ⟨mA,⟨od,es,ep,e,c⟩,r⟩:=x; exact ⟨mA,⟨od,es,ep,k _ _ (.inl rfl) e,c⟩,r⟩
 | rng lo hi=>obtain ⟨t,u,v,e⟩:=x; exact ⟨t,u,v,k _ _ (.inl rfl) e⟩
 | frz ob u ih=>obtain ⟨e,q⟩:=x; exact ⟨k _ _ (.inl rfl) e,ih q⟩
 | tbl ps=>
  have e:h.get? a=some { cls:=.none,data:=.fields ps }:=x
  show h'.get? a=some { cls:=.none,data:=.fields ps }
  exact k a _ (.inl rfl) e
 | met f y=>
  have e:h.get? a=some (PySem.W.methodObj (.ref f) (.ref y)):=x
  show h'.get? a=some (PySem.W.methodObj (.ref f) (.ref y))
  exact k a _ (.inl rfl) e
 | ext φ=>obtain ⟨p,⟨o,e⟩,st⟩:=x; exact ⟨st _ _ p λo q=>k _ _ (.inl rfl) q,⟨o,k _ _ (.inl rfl) e⟩,st⟩
theorem xD.lt (x:xD P w H h) (e:H a=some o):a < h.objs.size:=(x a o e).lt
theorem xD.fresh (x:xD P w H h) (e:h.objs.size<=a):H a=none:=by
 cases q:H a with
 | none=>rfl
 | some u=>exact absurd (Nat.lt_of_lt_of_le (x.lt q) e) (Nat.lt_irrefl _)
theorem xD.kept (x:xD P w H h) (k:∀ b u,h.get? b=some u->h'.get? b=some u):xD P w H h':=λa o e=>
 (x a o e).stay (λb u _ q=>k b u q) (λ_ q=>q) λ_ _ q=>q
theorem xD.laid (x:xD P w H h) (k:∀ b u,h.get? b=some u->h'.get? b=some u) (hp:h.objs.size<=a) (new:xk P w (zb H a o) h' a o):xD P w (zb H a o) h':=λb u e=>by
 have hn:=x.fresh hp
 by_cases hb:b=a
 ·subst hb; rw [xb] at e; cases e; exact new
 ·rw [zv hb] at e
  exact (x b u e).stay (λc v _ q=>k c v q) (λc q=>by rw [zv (wV q hn)]; exact q) λc xs q=>by rw [zv (wV q hn)]; exact q
end
def Rd (H:Hp) (a:Addr) (u:HO):Prop:=H a=some u\/∃ o,H a=some (.frz o u)
theorem Rd.ok {P:Program} {w:World} {H:Hp} {h:Heap} {a:Addr} {u:HO} (r:Rd H a u) (x:xD P w H h):xk P w H h a u:=by
 rcases r with r | ⟨o,r⟩
 ·exact x a u r
 ·obtain ⟨_,q⟩:=x a _ r
  exact q
def XS:Option HO->Prop
 | some (.lst _)=>True
 | some (.dK _)=>True
 | some (.dT _)=>True
 | some (.set _ _)=>True
 | some (.ins _ _ _)=>True
 | some (.ext _)=>True
 | _=>False
section
variable {P:Program} {w:World} {H:Hp} {h h':Heap} {x e:Addr} {o':HO}
theorem xD.write (ok:xD P w H h) (mu:XS (H x)) (he:e=x\/H e=some (.own x)) (k:∀ b u,b≠e->h.get? b=some u->h'.get? b=some u) (heo:∃ u,h'.get? e=some u)
  (new:xk P w (zb H x o') h' x o'):xD P w (zb H x o') h':=λb u q=>by
 have nown:∀ c y,H c=some (.own y)->c≠x:=λc y r z=>by subst z; rw [r] at mu; exact mu
 have ntup:∀ c xs,H c=some (.tup xs)->c≠x:=λc xs r z=>by subst z; rw [r] at mu; exact mu
 by_cases hb:b=x
 ·subst hb; rw [xb] at q; cases q; exact new
 ·rw [zv hb] at q
  by_cases hbe:b=e
  ·have q':H b=some (.own x):=by
    rcases he with z | z
    ·exact absurd (hbe.trans z) hb
    ·rw [hbe]; exact z
   rw [q] at q'; cases q'
   obtain ⟨v,hv⟩:=heo
   exact ⟨v,by rw [hbe]; exact hv⟩
  ·refine (ok b u q).stay (λc v hc r=>k c v ?_ r) (λc r=>by rw [zv (nown c b r)]; exact r) λc xs r=>by rw [zv (ntup c xs r)]; exact r
   rcases hc with rfl | hc
   ·exact hbe
   ·rintro rfl
    rcases he with z | z
    ·exact nown c b hc z
    ·rw [hc] at z; cases z; exact hb rfl
end
structure Un (fs ex:List Addr) (H H':Hp) (h h':Heap):Prop where
 keep:∀ b o,h.get? b=some o->H b=none->b∉fs->b∉ex->h'.get? b=some o
 slot:∀ b o,h.get? b=some o->H b=none->b∈fs->b∉ex->∃ sl,h'.get? b=some { o with slots:=sl }
 free:∀ b o,h.get? b=some o->H b=none->b∉ex->H' b=none
 there:∀ b o,h.get? b=some o->b∉ex->∃ o',h'.get? b=some o'
 tups:∀ b xs,H b=some (.tup xs)->H' b=some (.tup xs)
 frzs:∀ b o u,H b=some (.frz o u)->H' b=some (.frz o u)
 tbls:∀ b ps,H b=some (.tbl ps)->∃ more,H' b=some (.tbl (ps++more))
section
variable {fs fs' ex ex':List Addr} {H H1 H2:Hp} {h h1 h2 h':Heap} {a x e:Addr} {o:HO}
theorem Un.any (u:Un fs ex H H1 h h1) {b:Addr} {ob:Obj} (q:h.get? b=some ob) (n:H b=none) (hx:b∉ex):∃ sl,h1.get? b=some { ob with slots:=sl }:=by
 by_cases hb:b∈fs
 ·exact u.slot b ob q n hb hx
 ·exact ⟨ob.slots,u.keep b ob q n hb hx⟩
theorem Un.trans (a:Un fs ex H H1 h h1) (b:Un fs ex H1 H2 h1 h2):Un fs ex H H2 h h2 where
 keep:=λc ob q n hc hx=>b.keep c ob (a.keep c ob q n hc hx) (a.free c ob q n hx) hc hx
 slot:=λc ob q n hc hx=>by
  obtain ⟨sl,e1⟩:=a.slot c ob q n hc hx
  obtain ⟨sl',e2⟩:=b.slot c _ e1 (a.free c ob q n hx) hc hx
  exact ⟨sl',e2⟩
 free:=λc ob q n hx=>by
  obtain ⟨o',e1⟩:=a.there c ob q hx
  exact b.free c o' e1 (a.free c ob q n hx) hx
 there:=λc ob q hx=>by
  obtain ⟨o',e1⟩:=a.there c ob q hx
  exact b.there c o' e1 hx
 tups:=λc xs q=>b.tups c xs (a.tups c xs q)
 frzs:=λc ob xs q=>b.frzs c ob xs (a.frzs c ob xs q)
 tbls:=λc ps q=>by
  obtain ⟨m1,e1⟩:=a.tbls c ps q
  obtain ⟨m2,e2⟩:=b.tbls c _ e1
  exact ⟨m1++m2,by rw [e2,Array.append_assoc]⟩
theorem Un.kept (k:∀ b u,h.get? b=some u->h'.get? b=some u):Un fs ex H H h h':=
 ⟨λb ob q _ _ _=>k b ob q,λb ob q _ _ _=>⟨ob.slots,k b ob q⟩,λ_ _ _ n _=>n,λb ob q _=>⟨ob,k b ob q⟩,λ_ _ q=>q,λ_ _ _ q=>q,λ_ ps q=>⟨#[],by rw [q]; simp⟩⟩
theorem Un.refl:Un fs ex H H h h:=Un.kept λ_ _ q=>q
theorem Un.laid (k:∀ b u,h.get? b=some u->h'.get? b=some u) (hp:h.objs.size<=a) (hn:H a=none):Un fs ex H (zb H a o) h h' where
 keep:=λb u q _ _ _=>k b u q
 slot:=λb u q _ _ _=>⟨u.slots,k b u q⟩
 free:=λb u q n _=>by rw [zv (Nat.ne_of_lt (Nat.lt_of_lt_of_le (Heap.lt_size q) hp))]; exact n
 there:=λb u q _=>⟨u,k b u q⟩
 tups:=λb xs q=>by rw [zv (wV q hn)]; exact q
 frzs:=λb u xs q=>by rw [zv (wV q hn)]; exact q
 tbls:=λb ps q=>⟨#[],by rw [zv (wV q hn),q]; simp⟩
theorem Un.write (mu:XS (H x)) (he:e=x\/H e=some (.own x)) (k:∀ b u,b≠e->h.get? b=some u->h'.get? b=some u) (heo:∃ u,h'.get? e=some u):Un fs ex H (zb H x o) h h':=by
 have hx:∀ b,H b=none->b≠x:=λb n z=>by subst z; rw [n] at mu; exact mu
 have hb:∀ b,H b=none->b≠e:=λb n z=>by
  subst z
  rcases he with r | r
  ·exact hx b n r
  ·rw [n] at r; cases r
 have hm:∀ b u,H b=some u->¬ XS (some u)->b≠x:=λb u q nm z=>by subst z; rw [q] at mu; exact nm mu
 refine ⟨λb u q n _ _=>k b u (hb b n) q,λb u q n _ _=>⟨u.slots,k b u (hb b n) q⟩,λb u q n _=>by rw [zv (hx b n)]; exact n,λb u q _=>?_,
  λb xs q=>by rw [zv (hm b _ q λz=>z)]; exact q,λb u xs q=>by rw [zv (hm b _ q λz=>z)]; exact q,λb ps q=>⟨#[],by rw [zv (hm b _ q λz=>z),q]; simp⟩⟩
 by_cases hbe:b=e
 ·subst hbe; exact heo
 ·exact ⟨u,k b u hbe q⟩
theorem Un.mono (u:Un fs ex H H1 h h1) (hs:∀ b∈fs,b∈fs') (hx:∀ b∈ex,b∈ex'):Un fs' ex' H H1 h h1:=
 ⟨λb ob q n hb he=>u.keep b ob q n (λz=>hb (hs b z)) λz=>he (hx b z),λ_ _ q n _ he=>u.any q n λz=>he (hx _ z),λb ob q n he=>u.free b ob q n λz=>he (hx b z),λb ob q he=>u.there b ob q λz=>he (hx b z),u.tups,u.frzs,u.tbls⟩
end
def ur (h:Heap) (H:Hp):List Addr:=(List.range h.objs.size).filter λa=>(H a).isSome
def wH (h:Heap) (H:Hp):Heap:=PySem.W.hideAll h (ur h H)
theorem zLe (h:Heap) (H:Hp):(wH h H).objs.size=h.objs.size:=PySem.W.hideAll_size _ _
theorem zNV {h:Heap} {H:Hp} {b:Addr} {o:Obj} (e:h.get? b=some o) (n:H b=none):(wH h H).get? b=some o:=
 PySem.W.hideAll_get _ e λhm=>by
  have q:(H b).isSome=true:=(List.mem_filter.mp hm).2
  rw [n] at q; simp at q
theorem zPW {h:Heap} {H:Hp} {b:Addr} {o:Obj} (e:(wH h H).get? b=some o):h.get? b=some o/\H b=none:=by
 have e':h.get? b=some o:=PySem.W.of_hideAll (ur h H) e
 refine ⟨e',?_⟩
 cases q:H b with
 | none=>rfl
 | some x=>
  have hm:b∈ur h H:=List.mem_filter.mpr ⟨List.mem_range.mpr (Heap.lt_size e'),by simp [q]⟩
  have z:(wH h H).get? b=none:=PySem.W.hideAll_none (ur h H) hm
  rw [z] at e; cases e
def zP8 (g h:Heap) (L:Addr):List (Addr × Obj):=(List.range h.objs.size).filterMap λa=>if a=L\/(g.get? a).isSome=true then none else (h.get? a).map λo=>(a,o)
def yc (g h:Heap) (L d:Addr):List (Addr × Obj):=(zP8 g h L).filter λp=>decide (p.1≠d)
end L2
namespace L2
open PySem PySem.Spec PyProof.Rows
structure Mod (K:PySem.W.Frag) (mg:Str->Option Value) (base:Heap):Prop where
 kin:K.In base
 glob:base.Ns mainGlobals mg
 blt:∃ mb,base.Ns builtinsNs mb/\∀ x:Str,x≠"__name__"->mb x=bootBuiltins x
 nolimit:base.NoLimit
structure Cx where
 prog:Program
 w:World
 K:PySem.W.Frag
 mg:Str->Option Value
 base:Heap
 A:Around
 N:List Str
 s₀:Shared
 H₀:Hp
 env:Env
 outer:List Env
 stack:List Env
 ex:List Addr
 fn:Str->Bool
 calm:Bool
 pn:List (Addr × Obj)
 xe:Value->Shared->Prop
def xH (l:List Env):List Addr:=l.filterMap (·.frame)
abbrev Cx.fs (X:Cx):List Addr:=xH X.outer
def jj (sc:Scope) (x:Str):Prop:=sc.names.lookup x=some .local\/sc.names.lookup x=some .cell\/sc.names.lookup x=some .free
def v7 (sc:Scope) (x:Str):Prop:=sc.names.lookup x=some .local\/sc.names.lookup x=some .cell
def kH (env:Env) (h:Heap) (m:Str->Option Value) (x:Str) (u:Value):Prop:=
 (env.kindOf x=some .local/\m x=some u)\/((env.kindOf x=some .cell\/env.kindOf x=some .free)/\∃ c,env.cells.lookup x=some c/\h.IsCell c (some u))
structure Cx.Ok (X:Cx):Prop where
 mod:Mod X.K X.mg X.base
 kind:X.env.scope.kind=.function
 glob:X.env.globals=mainGlobals
 blt:X.env.builtins=builtinsNs
 above:X.s₀.heap.objs.size<=X.env.locals
 inj:∀ x y c,X.env.cells.lookup x=some c->X.env.cells.lookup y=some c->x=y
 has:∀ x,(X.env.kindOf x=some .cell\/X.env.kindOf x=some .free)->∃ c,X.env.cells.lookup x=some c
 cab:∀ x c,X.fn x=true->X.env.cells.lookup x=some c->X.s₀.heap.objs.size<=c
 hd:X.calm=true->X.A.handled=none
 frames:X.A.frames=some X.stack
 stk:X.stack=X.outer\/(X.stack=X.env :: X.outer/\X.env.frame=some X.env.locals)
 exf:∀ b∈X.ex,b≠X.env.locals/\∀ x c,X.env.cells.lookup x=some c->c≠b
 bs:∀ b o,X.base.get? b=some o->X.s₀.heap.get? b=some o/\X.H₀ b=none
 bsz:X.base.objs.size<=X.s₀.heap.objs.size
 noex:∀ b o,X.base.get? b=some o->b∉X.ex
 exfs:∀ b∈X.ex,b∉X.fs
 funs:X.s₀.heap.FunFrames X.base X.outer
 frf:∀ b∈X.fs,X.H₀ b=none
structure zE (X:Cx) (pins:List (Addr × Obj)) (σ:List (Option V)) (H:Hp) (s:Shared):Prop where
 ok:X.Ok
 os:s.os=X.s₀.os
 bare:AllBare s.gens
 base:Un X.fs X.ex X.H₀ H X.s₀.heap s.heap
 loc:∃ m,s.heap.Ns X.env.locals m/\∀ (i:Nat) (x:Str) (v:V),X.N[i]? = some x->σ[i]? = some (some v)->jj X.env.scope x->∃ u,zU v u/\kH X.env s.heap m x u
 cell:∀ x c,X.env.cells.lookup x=some c->∃ v,s.heap.IsCell c v
 free:H X.env.locals=none
 freeC:∀ x c,X.env.cells.lookup x=some c->H c=none
 pin:∀ p∈X.pn++pins,s.heap.get? p.1=some p.2/\H p.1=none/\p.1≠X.env.locals/\p.1∉X.fs/\∀ v,p.2.data≠.cell v
 hok:xD X.prog X.w H s.heap
 len:σ.length=X.N.length
section
variable {X:Cx} {pins:List (Addr × Obj)} {σ:List (Option V)} {H H':Hp} {s:Shared} {h':Heap}
theorem Cx.Ok.nofr (ok:X.Ok) {b:Addr} {o:Obj} (e:X.base.get? b=some o):b∉X.fs:=λhb=>by
 have:=(ok.funs.mem hb).1
 rw [e] at this; cases this
theorem zE.bs (I:zE X pins σ H s):∀ b o,X.base.get? b=some o->s.heap.get? b=some o/\H b=none:=λb o e=>
 ⟨I.base.keep b o (I.ok.bs b o e).1 (I.ok.bs b o e).2 (I.ok.nofr e) (I.ok.noex b o e),I.base.free b o (I.ok.bs b o e).1 (I.ok.bs b o e).2 (I.ok.noex b o e)⟩
theorem zE.bk (I:zE X pins σ H s):∀ b o,X.base.get? b=some o->s.heap.get? b=some o:=λb o e=>(I.bs b o e).1
theorem zE.mod (I:zE X pins σ H s):Mod X.K X.mg X.base:=I.ok.mod
theorem zE.kIn (I:zE X pins σ H s):X.K.In s.heap:=I.ok.mod.kin.keeps I.bk
theorem zE.lt (I:zE X pins σ H s):X.env.locals < s.heap.objs.size:=let ⟨_,hn,_⟩:=I.loc; hn.lt
theorem zE.sz (I:zE X pins σ H s):X.s₀.heap.objs.size<=s.heap.objs.size:=Nat.le_trans I.ok.above (Nat.le_of_lt I.lt)
theorem zE.nofs (I:zE X pins σ H s) {a:Addr} (h:s.heap.objs.size<=a):a∉X.fs:=λhb=>by
 obtain ⟨_,o,ho,_⟩:=I.ok.funs.mem hb
 exact absurd (Nat.lt_of_lt_of_le (Heap.lt_size ho) (Nat.le_trans I.sz h)) (Nat.lt_irrefl _)
theorem zE.cne (I:zE X pins σ H s):∀ x c,X.env.cells.lookup x=some c->c≠X.env.locals:=λx c e z=>by
 obtain ⟨v,o,ho,hd⟩:=I.cell x c e
 obtain ⟨m,⟨o',es,ep,ho',hd',_⟩,_⟩:=I.loc
 rw [z,ho'] at ho; cases ho; rw [hd'] at hd; cases hd
theorem zE.funs (I:zE X pins σ H s):s.heap.FunFrames X.base X.outer:=by
 have all:∀ (l:List Env),(∀ b∈xH l,b∈X.fs)->X.s₀.heap.FunFrames X.base l->s.heap.FunFrames X.base l:=by
  intro l
  induction l with
  | nil=>intro _ _; trivial
  | cons env r ih=>
   intro hs hl
   obtain ⟨hk,⟨L,o,hf,hn,ho,hd⟩,hr⟩:=hl
   have hL:L∈X.fs:=hs L (by unfold xH; rw [List.filterMap_cons,hf]; exact List.mem_cons_self)
   obtain ⟨sl,e⟩:=I.base.slot L o ho (I.ok.frf L hL) hL λz=>I.ok.exfs L z hL
   exact ⟨hk,⟨L,_,hf,hn,e,hd⟩,ih (λb hb=>hs b (by unfold xH; rw [List.filterMap_cons,hf]; exact List.mem_cons_of_mem _ hb)) hr⟩
 exact all X.outer (λ_ hb=>hb) I.ok.funs
theorem zE.stack (I:zE X pins σ H s):s.heap.FunFrames X.base X.stack:=by
 rcases I.ok.stk with e | ⟨e,hf⟩
 ·rw [e]; exact I.funs
 ·rw [e]
  obtain ⟨m,hn,_⟩:=I.loc
  refine .cons (by rw [I.ok.kind]; decide) hf hn ?_ I.funs
  exact Heap.get?_none_of_le (Nat.le_trans I.ok.bsz I.ok.above)
theorem zE.stkSub (I:zE X pins σ H s):∀ b∈xH X.stack,b∈X.env.locals :: X.fs:=λb hb=>by
 rcases I.ok.stk with e | ⟨e,hf⟩
 ·rw [e] at hb; exact List.mem_cons_of_mem _ hb
 ·rw [e] at hb
  unfold xH at hb
  rw [List.filterMap_cons,hf] at hb
  exact hb
theorem zE.stkFree (I:zE X pins σ H s):∀ b∈xH X.stack,H b=none:=λb hb=>by
 rcases List.mem_cons.mp (I.stkSub b hb) with e | hb
 ·rw [e]; exact I.free
 ·obtain ⟨_,o,ho,_⟩:=I.ok.funs.mem hb
  exact I.base.free b o ho (I.ok.frf b hb) λz=>I.ok.exfs b z hb
theorem zE.step {g':Array GenState} {t':Nat} {d':Drawn} {ch:List Addr} (I:zE X pins σ H s)
  (hch:∀ b∈ch,(b∈X.ex\/X.s₀.heap.objs.size<=b)/\b≠X.env.locals/\(∀ x c,X.env.cells.lookup x=some c->c≠b)/\∀ p∈X.pn++pins,p.1≠b)
  (keep:∀ b o,b≠X.env.locals->b∉X.fs->b∉ch->s.heap.get? b=some o->H b=none->h'.get? b=some o)
  (slot:∀ b o,b≠X.env.locals->b∈X.fs->b∉ch->s.heap.get? b=some o->H b=none->∃ sl,h'.get? b=some { o with slots:=sl }) (free:∀ b o,b∉ch->s.heap.get? b=some o->H b=none->H' b=none)
  (there:∀ b o,b∉ch->s.heap.get? b=some o->∃ o',h'.get? b=some o')
  (tups:∀ b xs,H b=some (.tup xs)->H' b=some (.tup xs)) (frzs:∀ b o u,H b=some (.frz o u)->H' b=some (.frz o u)) (tbls:∀ b ps,H b=some (.tbl ps)->∃ more,H' b=some (.tbl (ps++more)))
  (ns:∀ m,s.heap.Ns X.env.locals m->h'.Ns X.env.locals m) (hok:xD X.prog X.w H' h') (hg:AllBare g') :
  zE X pins σ H' { s with heap:=h',gens:=g',drawn:=d',toks:=t' }:=by
 have neL:∀ b o,X.s₀.heap.get? b=some o->b≠X.env.locals:=λb o e=>Nat.ne_of_lt (Nat.lt_of_lt_of_le (Heap.lt_size e) I.ok.above)
 have neC:∀ b o,X.s₀.heap.get? b=some o->b∉X.ex->b∉ch:=λb o e hx hb=>by
  rcases (hch b hb).1 with z | z
  ·exact hx z
  ·exact absurd (Nat.lt_of_lt_of_le (Heap.lt_size e) z) (Nat.lt_irrefl _)
 have cellK:∀ x c,X.env.cells.lookup x=some c->∀ v,s.heap.IsCell c v->h'.IsCell c v:=λx c e v ⟨o,ho,hd⟩=>by
  have nch:c∉ch:=λz=>(hch c z).2.2.1 x c e rfl
  by_cases hc:c∈X.fs
  ·obtain ⟨sl,q⟩:=slot c o (I.cne x c e) hc nch ho (I.freeC x c e)
   exact ⟨_,q,hd⟩
  ·exact ⟨o,keep c o (I.cne x c e) hc nch ho (I.freeC x c e),hd⟩
 refine ⟨I.ok,I.os,hg,⟨λb o e n hb hx=>?_,λb o e n hb hx=>?_,λb o e n hx=>?_,λb o e hx=>?_,λb xs e=>tups b xs (I.base.tups b xs e),λb o xs e=>frzs b o xs (I.base.frzs b o xs e),λb ps e=>?_⟩,?_,λx c e=>?_,?_,λx c e=>?_,λp hp=>?_,hok,I.len⟩
 ·exact keep b o (neL b o e) hb (neC b o e hx) (I.base.keep b o e n hb hx) (I.base.free b o e n hx)
 ·obtain ⟨sl,e1⟩:=I.base.slot b o e n hb hx
  obtain ⟨sl',e2⟩:=slot b _ (neL b o e) hb (neC b o e hx) e1 (I.base.free b o e n hx)
  exact ⟨sl',e2⟩
 ·obtain ⟨o',e1⟩:=I.base.there b o e hx
  exact free b o' (neC b o e hx) e1 (I.base.free b o e n hx)
 ·obtain ⟨o',e1⟩:=I.base.there b o e hx
  exact there b o' (neC b o e hx) e1
 ·obtain ⟨m1,e1⟩:=I.base.tbls b ps e
  obtain ⟨m2,e2⟩:=tbls b _ e1
  exact ⟨m1++m2,by rw [e2,Array.append_assoc]⟩
 ·obtain ⟨m,hn,hl⟩:=I.loc
  refine ⟨m,ns m hn,λi x v e1 e2 e3=>?_⟩
  obtain ⟨u,r,l⟩:=hl i x v e1 e2 e3
  refine ⟨u,r,?_⟩
  rcases l with l | ⟨k,c,e,z⟩
  ·exact .inl l
  ·exact .inr ⟨k,c,e,cellK x c e _ z⟩
 ·obtain ⟨v,z⟩:=I.cell x c e
  exact ⟨v,cellK x c e v z⟩
 ·obtain ⟨m,⟨o,_,_,ho,_⟩,_⟩:=I.loc
  exact free _ o (λz=>(hch _ z).2.1 rfl) ho I.free
 ·obtain ⟨v,o,ho,hd⟩:=I.cell x c e
  exact free c o (λz=>(hch c z).2.2.1 x c e rfl) ho (I.freeC x c e)
 ·obtain ⟨e,n,ne,nf,d⟩:=I.pin p hp
  have nch:p.1∉ch:=λz=>(hch p.1 z).2.2.2 p hp rfl
  exact ⟨keep p.1 p.2 ne nf nch e n,free p.1 p.2 nch e n,ne,nf,d⟩
theorem zE.un {t':Nat} (I:zE X pins σ H s) (u:Un X.fs [] H H' s.heap h') (hok:xD X.prog X.w H' h'):zE X pins σ H' { s with heap:=h',toks:=t' }:=by
 obtain ⟨m,⟨o,es,ep,ho,r⟩,_⟩:=id I.loc
 obtain ⟨sl,hL⟩:=u.any ho I.free (by simp)
 exact I.step (g':=s.gens) (d':=s.drawn) (ch:=[]) (λ_ z=>nomatch z) (λb o _ hb _ e n=>u.keep b o e n hb (by simp)) (λb o _ hb _ e n=>u.slot b o e n hb (by simp)) (λb o _ e n=>u.free b o e n (by simp)) (λb o _ e=>u.there b o e (by simp)) u.tups u.frzs u.tbls (λm' hm=>by
  obtain ⟨o',es',ep',ho',r'⟩:=hm
  rw [ho] at ho'; cases ho'
  exact ⟨_,es',ep',hL,r'⟩) hok I.bare
theorem zE.call {g':Array GenState} {t':Nat} {d':Drawn} {ch:List Addr} (I:zE X pins σ H s) (u:Un (xH X.stack) ch H H' s.heap h') (hok:xD X.prog X.w H' h') (hg:AllBare g')
  (hch:∀ b∈ch,(b∈X.ex\/X.s₀.heap.objs.size<=b)/\b≠X.env.locals/\(∀ x c,X.env.cells.lookup x=some c->c≠b)/\∀ p∈X.pn++pins,p.1≠b) :
  zE X pins σ H' { s with heap:=h',gens:=g',drawn:=d',toks:=t' }:=by
 obtain ⟨m,⟨o,es,ep,ho,r⟩,_⟩:=id I.loc
 obtain ⟨sl,hL⟩:=u.any ho I.free λz=>(hch _ z).2.1 rfl
 exact I.step (ch:=ch) hch (λb o hL hb hc e n=>u.keep b o e n (λz=>(List.mem_cons.mp (I.stkSub b z)).elim hL hb) hc) (λb o _ _ hc e n=>u.any e n hc) (λb o hc e n=>u.free b o e n hc) (λb o hc e=>u.there b o e hc) u.tups u.frzs u.tbls (λm' hm=>by
  obtain ⟨o',es',ep',ho',r'⟩:=hm
  rw [ho] at ho'; cases ho'
  exact ⟨_,es',ep',hL,r'⟩) hok hg
theorem zE.turned {t':Nat} {it:Addr} (I:zE X pins σ H s) (k:∀ b o,b≠it->s.heap.get? b=some o->h'.get? b=some o) (hn:H it=none) (hL:it≠X.env.locals)
  (h1:it∈X.ex\/X.s₀.heap.objs.size<=it) (h2:∀ x c,X.env.cells.lookup x=some c->c≠it) (h3:∀ p∈X.pn++pins,p.1≠it):zE X pins σ H { s with heap:=h',toks:=t' }:=by
 have nit:∀ b u,H b=some u->b≠it:=λb u e z=>by rw [z,hn] at e; cases e
 refine I.step (g':=s.gens) (d':=s.drawn) (ch:=[it]) (λb hb=>?_) (λb o _ _ hc e _=>k b o (λz=>hc (by simp [z])) e) (λb o _ _ hc e _=>⟨o.slots,k b o (λz=>hc (by simp [z])) e⟩) (λ_ _ _ _ n=>n)
  (λb o hc e=>⟨o,k b o (λz=>hc (by simp [z])) e⟩) (λ_ _ e=>e) (λ_ _ _ e=>e) (λb ps e=>⟨#[],by rw [e]; simp⟩) (λm hm=>?_) (λb u e=>?_) I.bare
 ·have e:b=it:=by simpa using hb
  subst e
  exact ⟨h1,hL,h2,h3⟩
 ·obtain ⟨o,es,ep,ho,r⟩:=hm
  exact ⟨o,es,ep,k _ o (Ne.symm hL) ho,r⟩
 ·refine (I.hok b u e).stay (λc v hc q=>k c v ?_ q) (λ_ q=>q) λ_ _ q=>q
  rcases hc with z | z
  ·rw [z]; exact nit b u e
  ·exact nit c _ z
theorem zE.tok (I:zE X pins σ H s) (t:Nat):zE X pins σ H { s with toks:=t }:=I.un (h':=s.heap) (t':=t) Un.refl I.hok
theorem zE.kept {t':Nat} (I:zE X pins σ H s) (k:∀ b u,s.heap.get? b=some u->h'.get? b=some u):zE X pins σ H { s with heap:=h',toks:=t' }:=I.un (Un.kept k) (I.hok.kept k)
theorem zE.laid {a:Addr} {o:HO} {t':Nat} (I:zE X pins σ H s) (k:∀ b u,s.heap.get? b=some u->h'.get? b=some u) (hp:s.heap.objs.size<=a) (new:xk X.prog X.w (zb H a o) h' a o) :
  zE X pins σ (zb H a o) { s with heap:=h',toks:=t' }:=I.un (Un.laid k hp (I.hok.fresh hp)) (I.hok.laid k hp new)
theorem zE.write {x e:Addr} {o:HO} {t':Nat} (I:zE X pins σ H s) (mu:XS (H x)) (he:e=x\/H e=some (.own x)) (k:∀ b u,b≠e->s.heap.get? b=some u->h'.get? b=some u) (heo:∃ u,h'.get? e=some u)
  (new:xk X.prog X.w (zb H x o) h' x o):zE X pins σ (zb H x o) { s with heap:=h',toks:=t' }:=I.un (Un.write mu he k heo) (I.hok.write mu he k heo new)
theorem zE.pins_of {pins':List (Addr × Obj)} (I:zE X pins σ H s) (h:∀ p∈pins',s.heap.get? p.1=some p.2/\H p.1=none/\p.1≠X.env.locals/\p.1∉X.fs/\∀ v,p.2.data≠.cell v):zE X pins' σ H s:=
 ⟨I.ok,I.os,I.bare,I.base,I.loc,I.cell,I.free,I.freeC,λp hp=>(List.mem_append.mp hp).elim (λz=>I.pin p (List.mem_append_left _ z)) (h p),I.hok,I.len⟩
theorem Wp {N:List Str} (hN:N.Nodup) {i j:Nat} {x:Str} (a:N[i]? = some x) (b:N[j]? = some x):i=j:=by
 obtain ⟨h1,e1⟩:=List.getElem?_eq_some_iff.mp a
 obtain ⟨h2,e2⟩:=List.getElem?_eq_some_iff.mp b
 exact (List.getElem_inj hN).mp (e1.trans e2.symm)
theorem Kp {M:Model} {A:Around} {E:Value->Shared->Prop} {i:Nat} {x:Str} {v:V} {u:Value} {Q:Unit->Shared->Prop} (I:zE X pins σ H s) (hN:X.N.Nodup) (hi:X.N[i]? = some x) (hx:v7 X.env.scope x) (r:zU v u)
  (h:∀ s',zE X pins (σ.set i (some v)) H s'->(∃ a,Heap.SameBut a s.heap s'.heap/\(a=X.env.locals\/X.env.cells.lookup x=some a))->Q () s') (hf:X.fn x=true\/X.env.scope.names.lookup x=some .local:=by first | exact .inl rfl | exact .inr rfl | assumption):wpAny M A (storeName X.env x u) Q E s:=by
 obtain ⟨m,hn,hl⟩:=id I.loc
 have hcls:(X.env.scope.kind == .class || (X.env.scope.kind == .module && X.env.locals != X.env.globals))=false:=by rw [I.ok.kind]; rfl
 have hiσ:i < σ.length:=by rw [I.len]; exact (List.getElem?_eq_some_iff.mp hi).1
 have cne:=I.cne
 have tracked:∀ {a:Addr} {h':Heap},(∃ o,s.heap.get? a=some o/\H a=none)->Heap.SameBut a s.heap h'->xD X.prog X.w H h':=λ{a h'} ha hs b ob e=>by
  obtain ⟨_,_,hfree⟩:=ha
  refine (I.hok b ob e).stay (λc w' hc q=>(hs.2 c ?_).trans q) (λ_ q=>q) λ_ _ q=>q
  rintro rfl
  rcases hc with rfl | hc
  ·rw [hfree] at e; cases e
  ·rw [hfree] at hc; cases hc
 rcases hx with hk | hk
 ·refine wpAny_storeName_local hk hn (λh' hn' hs=>?_) hcls
  obtain ⟨oL,_,_,hoL,_⟩:=id hn
  refine h _ ⟨I.ok,I.os,I.bare,⟨λb o e n hb hx=>?_,λb o e n hb hx=>?_,I.base.free,λb o e hx=>?_,I.base.tups,I.base.frzs,I.base.tbls⟩,⟨_,hn',λj y v' e1 e2 e3=>?_⟩,λy c e=>?_,I.free,I.freeC,λp hp=>?_,tracked ⟨oL,hoL,I.free⟩ hs,by simpa using I.len⟩ ⟨_,hs,.inl rfl⟩
  ·exact (hs.2 b (Nat.ne_of_lt (Nat.lt_of_lt_of_le (Heap.lt_size e) I.ok.above))).trans (I.base.keep b o e n hb hx)
  ·obtain ⟨sl,e1⟩:=I.base.slot b o e n hb hx
   exact ⟨sl,(hs.2 b (Nat.ne_of_lt (Nat.lt_of_lt_of_le (Heap.lt_size e) I.ok.above))).trans e1⟩
  ·obtain ⟨o',e1⟩:=I.base.there b o e hx
   exact ⟨o',(hs.2 b (Nat.ne_of_lt (Nat.lt_of_lt_of_le (Heap.lt_size e) I.ok.above))).trans e1⟩
  ·by_cases hj:j=i
   ·subst hj
    rw [hi] at e1; cases e1
    rw [List.getElem?_set_self hiσ] at e2
    cases e2
    exact ⟨u,r,.inl ⟨hk,by simp⟩⟩
   ·rw [List.getElem?_set_ne (Ne.symm hj)] at e2
    obtain ⟨u',r',q⟩:=hl j y v' e1 e2 e3
    refine ⟨u',r',?_⟩
    rcases q with ⟨k,e⟩ | ⟨k,c,e,z⟩
    ·refine .inl ⟨k,?_⟩
     have:y≠x:=λe=>hj (Wp hN e1 (e ▸ hi))
     simp [this,e]
    ·exact .inr ⟨k,c,e,z.sameBut hs (cne y c e)⟩
  ·obtain ⟨w',z⟩:=I.cell y c e
   exact ⟨w',z.sameBut hs (cne y c e)⟩
  ·obtain ⟨e,n,ne,nf,d⟩:=I.pin p hp
   exact ⟨(hs.2 p.1 ne).trans e,n,ne,nf,d⟩
 ·have hfn:X.fn x=true:=by
   rcases hf with z | z
   ·exact z
   ·rw [z] at hk; cases hk
  obtain ⟨c,hc⟩:=I.ok.has x (.inl hk)
  obtain ⟨w',z⟩:=I.cell x c hc
  refine wpAny_storeName_cell I.ok.kind hk hc z (λh' hc' hs=>?_)
  obtain ⟨oc,hoc,hocd⟩:=id z
  refine h { s with heap:=h' } ⟨I.ok,I.os,I.bare,⟨λb o e n hb hx=>?_,λb o e n hb hx=>?_,I.base.free,λb o e hx=>?_,I.base.tups,I.base.frzs,I.base.tbls⟩,⟨m,hn.sameBut hs (Ne.symm (cne x c hc)),λj y v' e1 e2 e3=>?_⟩,λy c' e=>?_,I.free,I.freeC,λp hp=>?_,tracked ⟨oc,hoc,I.freeC x c hc⟩ hs,by simpa using I.len⟩ ⟨c,hs,.inr hc⟩
  ·exact (hs.2 b (Nat.ne_of_lt (Nat.lt_of_lt_of_le (Heap.lt_size e) (I.ok.cab x c hfn hc)))).trans (I.base.keep b o e n hb hx)
  ·obtain ⟨sl,e1⟩:=I.base.slot b o e n hb hx
   exact ⟨sl,(hs.2 b (Nat.ne_of_lt (Nat.lt_of_lt_of_le (Heap.lt_size e) (I.ok.cab x c hfn hc)))).trans e1⟩
  ·obtain ⟨o',e1⟩:=I.base.there b o e hx
   exact ⟨o',(hs.2 b (Nat.ne_of_lt (Nat.lt_of_lt_of_le (Heap.lt_size e) (I.ok.cab x c hfn hc)))).trans e1⟩
  ·by_cases hj:j=i
   ·subst hj
    rw [hi] at e1; cases e1
    rw [List.getElem?_set_self hiσ] at e2
    cases e2
    exact ⟨u,r,.inr ⟨.inl hk,c,hc,hc'⟩⟩
   ·rw [List.getElem?_set_ne (Ne.symm hj)] at e2
    obtain ⟨u',r',q⟩:=hl j y v' e1 e2 e3
    refine ⟨u',r',?_⟩
    rcases q with q | ⟨k,c',e,z'⟩
    ·exact .inl q
    ·refine .inr ⟨k,c',e,z'.sameBut hs ?_⟩
     rintro rfl
     exact hj (Wp hN e1 (I.ok.inj _ _ _ e hc ▸ hi))
  ·by_cases hcc:c'=c
   ·subst hcc; exact ⟨_,hc'⟩
   ·obtain ⟨w2,z2⟩:=I.cell y c' e
    exact ⟨w2,z2.sameBut hs hcc⟩
  ·obtain ⟨e,n,ne,nf,d⟩:=I.pin p hp
   refine ⟨(hs.2 p.1 ?_).trans e,n,ne,nf,d⟩
   intro q
   rw [q,hoc] at e
   have q':oc=p.2:=Option.some.inj e
   exact d w' (by rw [<- q']; exact hocd)
theorem kI {M:Model} {A:Around} {E:Value->Shared->Prop} {i:Nat} {x:Str} {v:V} {u:Value} {Q:Unit->Shared->Prop} (I:zE X pins σ H s) (hN:X.N.Nodup) (hi:X.N[i]? = some x) (hx:v7 X.env.scope x) (r:zU v u)
  (h:∀ s',zE X pins (σ.set i (some v)) H s'->Q () s') (hf:X.fn x=true\/X.env.scope.names.lookup x=some .local:=by first | exact .inl rfl | exact .inr rfl | assumption):wpAny M A (storeName X.env x u) Q E s:=
 Kp I hN hi hx r (λs' I' _=>h s' I') hf
theorem zE.call' {s':Shared} {ch:List Addr} (I:zE X pins σ H s) (ho:s'.os=s.os) (u:Un (xH X.stack) ch H H' s.heap s'.heap) (hok:xD X.prog X.w H' s'.heap) (hg:AllBare s'.gens)
  (hch:∀ b∈ch,(b∈X.ex\/X.s₀.heap.objs.size<=b)/\b≠X.env.locals/\(∀ x c,X.env.cells.lookup x=some c->c≠b)/\∀ p∈X.pn++pins,p.1≠b):zE X pins σ H' s':=by
 obtain ⟨h',g',d',t',o'⟩:=s'
 have e:o'=s.os:=ho
 subst e
 exact I.call (g':=g') (t':=t') (d':=d') u hok hg hch
end
abbrev XK:=Value->Option Addr->Hp->Prop
abbrev St:=List (Option V)
abbrev VK:=V->Hp->Prop
abbrev TE:=St->Hp->VK->Prop
abbrev TT:=St->Hp->(Bool->Hp->Prop)->Prop
abbrev TA:=St->Hp->(List V->Hp->Prop)->Prop
structure yu where
 nx:St->Hp->Prop
 rt:VK
 bk:St->Hp->Prop:=λ_ _=>False
 ct:St->Hp->Prop:=λ_ _=>False
abbrev TS:=yu->St->Hp->Prop
def EP (X:Cx) (pins:List (Addr × Obj)) (σ:St) (Q:VK) (u:Value) (s':Shared):Prop:=∃ v H',zE X pins σ H' s'/\zU v u/\Q v H'
def TP (X:Cx) (pins:List (Addr × Obj)) (σ:St) (Q:Bool->Hp->Prop) (b:Bool) (s':Shared):Prop:=∃ H',zE X pins σ H' s'/\Q b H'
def AP (X:Cx) (pins:List (Addr × Obj)) (σ:St) (Q:List V->Hp->Prop) (us:List Value) (s':Shared):Prop:=∃ vs H',zE X pins σ H' s'/\zM vs us/\Q vs H'
def SP (X:Cx) (pins:List (Addr × Obj)) (D:yu) (f:Flow) (s':Shared):Prop:=
 match f with
 | .next=>∃ σ' H',zE X pins σ' H' s'/\D.nx σ' H'
 | .brk=>∃ σ' H',zE X pins σ' H' s'/\D.bk σ' H'
 | .cont=>∃ σ' H',zE X pins σ' H' s'/\D.ct σ' H'
 | .ret u=>∃ v σ' H',zE X pins σ' H' s'/\zU v u/\D.rt v H'
def PE (X:Cx) (e:Expr) (t:TE):Prop:=
 ∀ (pins:List (Addr × Obj)) (s:Shared) (σ:St) (H:Hp) (Q:VK),zE X pins σ H s->t σ H Q->wpAny (model X.prog X.w) X.A (eval e X.env) (EP X pins σ Q) X.xe s
def PT (X:Cx) (e:Expr) (t:TT):Prop:=
 ∀ (pins:List (Addr × Obj)) (s:Shared) (σ:St) (H:Hp) (Q:Bool->Hp->Prop),zE X pins σ H s->t σ H Q->wpAny (model X.prog X.w) X.A (isTrue e X.env (eval e X.env)) (TP X pins σ Q) X.xe s
def PW (X:Cx) (e:Expr) (t:TT):Prop:=
 ∀ (whole:Sem Value) (pins:List (Addr × Obj)) (s:Shared) (σ:St) (H:Hp) (Q:Bool->Hp->Prop),zE X pins σ H s->t σ H Q->wpAny (model X.prog X.w) X.A (isTrue e X.env whole) (TP X pins σ Q) X.xe s
theorem PW.pt {X:Cx} {e:Expr} {t:TT} (h:PW X e t):PT X e t:=h _
def PA (X:Cx) (es:List Expr) (t:TA):Prop:=
 ∀ (pos:Pos) (pins:List (Addr × Obj)) (s:Shared) (σ:St) (H:Hp) (Q:List V->Hp->Prop),zE X pins σ H s->t σ H Q->wpAny (model X.prog X.w) X.A (spliced (backTo pos (starEach es X.env))) (AP X pins σ Q) X.xe s
def PS (X:Cx) (st:Stmt) (t:TS):Prop:=
 ∀ (pins:List (Addr × Obj)) (s:Shared) (σ:St) (H:Hp) (D:yu),zE X pins σ H s->t D σ H->wpAny (model X.prog X.w) X.A (exec st X.env) (SP X pins D) X.xe s
def yq (X:Cx) (st:List Stmt) (t:TS):Prop:=
 ∀ (pins:List (Addr × Obj)) (s:Shared) (σ:St) (H:Hp) (D:yu),zE X pins σ H s->t D σ H->wpAny (model X.prog X.w) X.A (execs st X.env) (SP X pins D) X.xe s
theorem zm {α:Type} {t:Sem α} {Q Q':α->Shared->Prop} {M:Model} {A:Around} {E:Value->Shared->Prop} {s:Shared} (h:wpAny M A t Q E s) (hQ:∀ a s,Q a s->Q' a s):wpAny M A t Q' E s:=wpAny_mono h hQ λ_ _ x=>x
end L2
namespace L2
open PySem PySem.Spec PyProof.Rows
section
variable {X:Cx}
def vi (i:Nat):TE:=λσ H Q=>∃ v,σ[i]? = some (some v)/\Q v H
def tC (v:V):TE:=λ_ H Q=>Q v H
theorem kJ {i:Nat} {x:Str} {pos:Pos} (hN:X.N[i]? = some x) (hv:jj X.env.scope x) (hd:(x == ("__debug__" : Str))=false:=by decide) (hcd:(x == ("__classdict__" : Str))=false:=by decide):PE X (.Name x pos) (vi i):=by
 intro pins s σ H Q I h
 obtain ⟨v,e,h⟩:=h
 obtain ⟨m,hn,hl⟩:=I.loc
 obtain ⟨u,r,l⟩:=hl i x v hN e hv
 have fin:EP X pins σ Q u s:=⟨v,H,I,r,h⟩
 rcases l with ⟨hk,hm⟩ | ⟨hk,c,hc,hcell⟩
 ·exact wpAny_Name (wpAny_loadName_local I.ok.kind hk hn hm fin) hd
 ·rcases hk with hk | hk
  ·exact wpAny_Name (wpAny_loadName_cell I.ok.kind hk hc hcell fin) hd
  ·exact wpAny_Name (wpAny_loadName_free I.ok.kind hk hc hcell fin hcd) hd
theorem Kq {i j pos}:PE X (.Constant (.int i) j pos) (tC (.int i)):=λ_ _ _ H _ I h=>wpAny_Constant_int ⟨.int i,H,I.tok _,⟨_,rfl⟩,h⟩
theorem kK {b j pos}:PE X (.Constant (.bool b) j pos) (tC (.bl b)):=λ_ _ _ H _ I h=>Constant_bool ⟨.bl b,H,I,rfl,h⟩
theorem Kr {j pos}:PE X (.Constant .none j pos) (tC .non):=λ_ _ _ H _ I h=>Constant_none ⟨.non,H,I,rfl,h⟩
theorem zQx {x j pos}:PE X (.Constant (.str x) j pos) (tC (.str x)):=λ_ _ _ H _ I h=>Calls.Constant_str ⟨.str x,H,I.tok _,⟨_,rfl⟩,h⟩
def Gl (X:Cx) (x:Str):Prop:=X.env.kindOf x=some .globalImplicit
theorem gL {E:Value->Shared->Prop} {pins:List (Addr × Obj)} {s:Shared} {σ:St} {H:Hp} {x:Str} {u:Value} {pos:Pos} {Q:Value->Shared->Prop} (I:zE X pins σ H s) (hg:Gl X x) (hm:X.mg x=some u) (h:Q u s)
  (hd:(x == ("__debug__" : Str))=false:=by decide):wpAny (model X.prog X.w) X.A (eval (.Name x pos) X.env) Q E s:=
 Calls.Name_function_global I.ok.kind hg (Calls.loadGlobal_global (by rw [I.ok.glob]; exact I.mod.glob.keeps I.bk) hm h) hd
theorem jm {E:Value->Shared->Prop} {pins:List (Addr × Obj)} {s:Shared} {σ:St} {H:Hp} {x:Str} {u:Value} {pos:Pos} {Q:Value->Shared->Prop} (I:zE X pins σ H s) (hg:Gl X x) (hm:X.mg x=none) (hv:bootBuiltins x=some u) (h:Q u s)
  (hn:x≠"__name__":=by decide) (hd:(x == ("__debug__" : Str))=false:=by decide):wpAny (model X.prog X.w) X.A (eval (.Name x pos) X.env) Q E s:=by
 obtain ⟨mb,h1,h2⟩:=I.mod.blt
 exact Calls.Name_function_global I.ok.kind hg (Calls.loadGlobal_builtin (by rw [I.ok.glob]; exact I.mod.glob.keeps I.bk) hm (by rw [I.ok.blt]; exact h1.keeps I.bk) ((h2 x hn).trans hv) h) hd
theorem XT {x:Str} {v:V} {u:Value} {pos:Pos} (hg:Gl X x) (hm:X.mg x=some u) (r:zU v u) (hd:(x == ("__debug__" : Str))=false:=by decide):PE X (.Name x pos) (tC v):=
 λ_ _ _ H _ I h=>gL I hg hm ⟨v,H,I,r,h⟩ hd
theorem vV {x:Str} {v:V} {u:Value} {pos:Pos} (hg:Gl X x) (hm:X.mg x=none) (hv:bootBuiltins x=some u) (r:zU v u) (hn:x≠"__name__":=by decide) (hd:(x == ("__debug__" : Str))=false:=by decide):PE X (.Name x pos) (tC v):=
 λ_ _ _ H _ I h=>jm I hg hm hv ⟨v,H,I,r,h⟩ hn hd
variable {a b:Expr} {ta tb:TE} {pos:Pos}
def tB (t:TE):TT:=λσ H Q=>t σ H λx H1=>∃ c,x=.bl c/\Q c H1
theorem zQo {e:Expr} {t:TE} (h:PE X e t) (he:∀ whole,isTrue e X.env whole=(do let v <- whole; standAt e.pos; holding [v] (truthy v)):=by intro _; rfl):PT X e (tB t):=by
 intro pins s σ H Q I hw
 refine isTrue_plain (zm (h pins s σ H _ I hw) λv s1 ⟨x,H1,I1,r1,q1⟩=>?_) (he _)
 obtain ⟨d,rfl,q⟩:=q1
 cases r1
 exact wpAny_truthy_bool ⟨H1,I1,q⟩
variable {tA tB':TT} {yc:List Expr}
def tOr (t u:TT):TT:=λσ H Q=>t σ H λc H1=>if c=true then Q true H1 else u σ H1 Q
def Wq (t:TT):TT:=λσ H Q=>t σ H λc H1=>Q (!c) H1
theorem zQk (ha:PT X a tA):PW X (.BoolOp .Or [a] pos) tA:=by
 intro wh pins s σ H Q I h
 refine isTrue_or (zm (ha pins s σ H Q I h) λc s1 e=>?_)
 cases c with
 | false=>exact isTrue_or_nil e
 | true=>exact e
theorem kL (ha:PT X a tA) (hb:PW X (.BoolOp .Or (b :: yc) pos) tB'):PW X (.BoolOp .Or (a :: b :: yc) pos) (tOr tA tB'):=by
 intro wh pins s σ H Q I h
 refine isTrue_or (zm (ha pins s σ H _ I h) λc s1 ⟨H1,I1,q1⟩=>?_)
 cases c with
 | true=>exact ⟨H1,I1,q1⟩
 | false=>exact hb wh pins s1 σ H1 Q I1 q1
theorem zQp (ha:PT X a tA):PT X (.UnaryOp .Not a pos) (Wq tA):=by
 intro pins s σ H Q I h
 exact isTrue_not (ha pins s σ H (λc H1=>Q (!c) H1) I h)
def kM (ta tb:TE):TE:=λσ H Q=>ta σ H λx H1=>∃ c,x=.bl c/\if c=true then tb σ H1 Q else Q (.bl false) H1
def Wr (ta tb:TE):TE:=λσ H Q=>ta σ H λx H1=>∃ c,x=.bl c/\if c=true then Q (.bl true) H1 else tb σ H1 Q
def kN (ta:TE):TE:=λσ H Q=>ta σ H λx H1=>∃ c,x=.bl c/\Q (.bl (!c)) H1
theorem zQz {op} {t:TE} (h:PE X a t):PE X (.BoolOp op [a] pos) t:=λpins s σ H Q I hw=>BoolOp_one (h pins s σ H Q I hw)
theorem zQ3 (ha:PE X a ta) (hb:PE X (.BoolOp .And (b :: yc) pos) tb):PE X (.BoolOp .And (a :: b :: yc) pos) (kM ta tb):=by
 intro pins s σ H Q I h
 refine BoolOp_and (zm (ha pins s σ H _ I h) λv s1 ⟨x,H1,I1,r1,q1⟩=>?_)
 obtain ⟨c,rfl,q1⟩:=q1
 cases r1
 refine wpAny_truthy_bool ?_
 cases c with
 | true=>exact hb pins s1 σ H1 Q I1 q1
 | false=>exact ⟨.bl false,H1,I1,rfl,q1⟩
theorem kO (ha:PE X a ta) (hb:PE X (.BoolOp .Or (b :: yc) pos) tb):PE X (.BoolOp .Or (a :: b :: yc) pos) (Wr ta tb):=by
 intro pins s σ H Q I h
 refine BoolOp_or (zm (ha pins s σ H _ I h) λv s1 ⟨x,H1,I1,r1,q1⟩=>?_)
 obtain ⟨c,rfl,q1⟩:=q1
 cases r1
 refine wpAny_truthy_bool ?_
 cases c with
 | false=>exact hb pins s1 σ H1 Q I1 q1
 | true=>exact ⟨.bl true,H1,I1,rfl,q1⟩
theorem zQ0 (ha:PE X a ta):PE X (.UnaryOp .Not a pos) (kN ta):=by
 intro pins s σ H Q I h
 refine UnaryOp_ (zm (ha pins s σ H _ I h) λv s1 ⟨x,H1,I1,r1,q1⟩=>?_)
 obtain ⟨c,rfl,q1⟩:=q1
 cases r1
 exact not_of (wpAny_truthy_bool ⟨.bl (!c),H1,I1,rfl,q1⟩)
def tIf (t:TT) (ta tb:TE):TE:=λσ H Q=>t σ H λc H1=>if c=true then ta σ H1 Q else tb σ H1 Q
theorem zMy {c:Expr} (hc:PT X c tA) (ha:PE X a ta) (hb:PE X b tb):PE X (.IfExp c a b pos) (tIf tA ta tb):=by
 intro pins s σ H Q I h
 refine wpAny_IfExp (zm (hc pins s σ H _ I h) λd s1 ⟨H1,I1,q1⟩=>?_)
 cases d with
 | true=>exact ha pins s1 σ H1 Q I1 q1
 | false=>exact hb pins s1 σ H1 Q I1 q1
end
end L2
namespace L2
open PySem PySem.Spec PyProof.Rows
def zo (K:PySem.W.Frag) (H:Hp) (a:Addr) (xs:List V):Prop:=
 Rd H a (.lst xs)∨
  ∃ (o:Obj) (its:Array Value) (n:Nat),K.lookup a=some o/\o.cls=.type "list"/\o.dict=none/\o.data=.seq its n/\its.size<=sizeLine/\zM xs its.toList
def yZ (K:PySem.W.Frag) (H:Hp) (a:Addr) (xs:List V):Prop:=
 Rd H a (.tup xs)∨
  ∃ (o:Obj) (its:Array Value) (n:Nat),K.lookup a=some o/\o.cls=.type "tuple"/\o.data=.seq its n/\its.size<=sizeLine/\zM xs its.toList
def Ws:Value->Option V
 | .none=>some .non
 | .bool b=>some (.bl b)
 | .int i _=>some (.int i)
 | .str x _=>some (.str x)
 | .bytes b _=>some (.byt b)
 | .float b _=>some (.flt b)
 | .ref a=>some (.ref a)
 | .type n=>some (.ty n)
 | _=>none
theorem zU.abs {x:V} {u:Value} (r:zU x u):Ws u=some x:=by
 cases x with
 | non=>cases r; rfl
 | bl _=>cases r; rfl
 | int _=>obtain ⟨t,rfl⟩:=r; rfl
 | str _=>obtain ⟨t,rfl⟩:=r; rfl
 | byt _=>obtain ⟨t,rfl⟩:=r; rfl
 | flt _=>obtain ⟨t,rfl⟩:=r; rfl
 | ref _=>cases r; rfl
 | ty _=>cases r; rfl
theorem zU.inj {x y:V} {u:Value} (r:zU x u) (q:zU y u):x=y:=Option.some.inj (r.abs.symm.trans q.abs)
theorem zM.inj:∀ {xs ys:List V} {us:List Value},zM xs us->zM ys us->xs=ys
 | _,_,_,.nil,.nil=>rfl
 | _,_,_,.cons r t,.cons r' t'=>by rw [r.inj r',zM.inj t t']
section
variable {X:Cx} {pins:List (Addr × Obj)} {σ:St} {H:Hp} {s:Shared} {a:Addr} {xs ys:List V}
theorem zo.of {K:PySem.W.Frag} (h:H a=some (.lst xs)):zo K H a xs:=.inl (.inl h)
theorem yZ.of {K:PySem.W.Frag} (h:H a=some (.tup xs)):yZ K H a xs:=.inl (.inl h)
theorem zE.list (I:zE X pins σ H s) (h:zo X.K H a xs):∃ its:List Value,zM xs its/\PlainL s.heap a its.toArray/\xs.length<=sizeLine:=by
 rcases h with h | ⟨o,its,n,hk,hc,hd,hs,hz,r⟩
 ·obtain ⟨z,its,n,r,e⟩:=h.ok I.hok
  exact ⟨its,r,⟨_,n,e,rfl,rfl,rfl⟩,z⟩
 ·refine ⟨its.toList,r,⟨o,n,I.kIn a o hk,hc,hd,by simpa using hs⟩,?_⟩
  have e:=r.length
  simp only [Array.length_toList] at e
  omega
theorem zE.tuple (I:zE X pins σ H s) (h:yZ X.K H a xs):∃ its:List Value,zM xs its/\IsTup s.heap a its.toArray/\xs.length<=sizeLine:=by
 rcases h with h | ⟨o,its,n,hk,hc,hs,hz,r⟩
 ·obtain ⟨z,its,r,p⟩:=h.ok I.hok
  exact ⟨its,r,p,z⟩
 ·refine ⟨its.toList,r,⟨o,I.kIn a o hk,hc,n,by simpa using hs⟩,?_⟩
  have e:=r.length
  simp only [Array.length_toList] at e
  omega
theorem zE.list_inj (I:zE X pins σ H s) (h:zo X.K H a xs) (h':zo X.K H a ys):xs=ys:=by
 obtain ⟨its,r,⟨o,n,e,_,_,d⟩,_⟩:=I.list h
 obtain ⟨its',r',⟨o',n',e',_,_,d'⟩,_⟩:=I.list h'
 rw [e] at e'; cases e'
 rw [d] at d'
 injection d' with d1 _
 have:its=its':=by simpa using congrArg Array.toList d1
 subst this
 exact r.inj r'
theorem zE.tuple_inj (I:zE X pins σ H s) (h:yZ X.K H a xs) (h':yZ X.K H a ys):xs=ys:=by
 obtain ⟨its,r,⟨o,e,_,n,d⟩,_⟩:=I.tuple h
 obtain ⟨its',r',⟨o',e',_,n',d'⟩,_⟩:=I.tuple h'
 rw [e] at e'; cases e'
 rw [d] at d'
 injection d' with d1 _
 have:its=its':=by simpa using congrArg Array.toList d1
 subst this
 exact r.inj r'
end
abbrev Cx.wish (X:Cx) (E:Value->Shared->Prop):Cx:={ X with xe:=E }
abbrev Cx.nox (X:Cx):Cx:=X.wish λ_ _=>False
theorem Cx.Ok.wish {X:Cx} (ok:X.Ok) (E:Value->Shared->Prop):(X.wish E).Ok:=
 ⟨ok.mod,ok.kind,ok.glob,ok.blt,ok.above,ok.inj,ok.has,ok.cab,ok.hd,ok.frames,ok.stk,ok.exf,ok.bs,ok.bsz,ok.noex,ok.exfs,ok.funs,ok.frf⟩
theorem Cx.Ok.unwish {X:Cx} {E:Value->Shared->Prop} (ok:(X.wish E).Ok):X.Ok:=
 ⟨ok.mod,ok.kind,ok.glob,ok.blt,ok.above,ok.inj,ok.has,ok.cab,ok.hd,ok.frames,ok.stk,ok.exf,ok.bs,ok.bsz,ok.noex,ok.exfs,ok.funs,ok.frf⟩
section
variable {X:Cx} {pins:List (Addr × Obj)} {σ:St} {H:Hp} {s:Shared} {E:Value->Shared->Prop}
theorem zE.wish (I:zE X pins σ H s) (E:Value->Shared->Prop):zE (X.wish E) pins σ H s:=⟨I.ok.wish E,I.os,I.bare,I.base,I.loc,I.cell,I.free,I.freeC,I.pin,I.hok,I.len⟩
theorem zE.unwish (I:zE (X.wish E) pins σ H s):zE X pins σ H s:=⟨I.ok.unwish,I.os,I.bare,I.base,I.loc,I.cell,I.free,I.freeC,I.pin,I.hok,I.len⟩
theorem SP.unwish {D:yu} {f:Flow} {s':Shared} (h:SP (X.wish E) pins D f s'):SP X pins D f s':=by
 cases f with
 | next=>obtain ⟨σ',H',I,q⟩:=h; exact ⟨σ',H',I.unwish,q⟩
 | brk=>obtain ⟨σ',H',I,q⟩:=h; exact ⟨σ',H',I.unwish,q⟩
 | cont=>obtain ⟨σ',H',I,q⟩:=h; exact ⟨σ',H',I.unwish,q⟩
 | ret u=>obtain ⟨v,σ',H',I,r,q⟩:=h; exact ⟨v,σ',H',I.unwish,r,q⟩
theorem yq.nox {st:List Stmt} {t:TS} (h:yq X.nox st t):yq X st t:=λpins s σ H D I hw=>
 wpAny_mono (h pins s σ H D (I.wish _) hw) (λ_ _ q=>q.unwish) λ_ _ z=>False.elim z
end
section
variable {X:Cx} {st:Stmt} {yc:List Stmt} {t u:TS} {e:Expr} {te:TE} {pos:Pos}
def XU:TS:=λD σ H=>D.nx σ H
def uO (t u:TS):TS:=λD σ H=>t { D with nx:=u D } σ H
theorem jo:yq X [] XU:=λ_ _ σ H _ I h=>wpAny_execs_nil ⟨σ,H,I,h⟩
theorem uP (h1:PS X st t) (h2:yq X yc u):yq X (st :: yc) (uO t u):=by
 intro pins s σ H D I h
 refine wpAny_execs_cons (zm (h1 pins s σ H { D with nx:=u D } I h) λf s1 q=>?_)
 cases f with
 | next=>
  obtain ⟨σ',H',I',q⟩:=q
  exact h2 pins s1 σ' H' D I' q
 | ret v=>exact q
 | brk=>exact q
 | cont=>exact q
theorem Wt (h1:PS X st t):yq X [st] t:=by
 intro pins s σ H D I h
 refine wpAny_execs_cons (zm (h1 pins s σ H D I h) λf s1 q=>?_)
 cases f with
 | next=>exact wpAny_execs_nil q
 | ret v=>exact q
 | brk=>exact q
 | cont=>exact q
theorem zE.quiet {pins:List (Addr × Obj)} {σ:St} {H:Hp} {s:Shared} (I:zE X pins σ H s):interactive X.env=false:=by simp [interactive,I.ok.kind]
def Wu (te:TE):TS:=λD σ H=>te σ H λ_ H1=>D.nx σ H1
theorem wm (he:PE X e te) (hs:swapsWith e none pos.line X.env=pure false:=by rfl):PS X (.Expr e pos) (Wu te):=by
 intro pins s σ H D I h
 exact wpAny_Expr_any (zm (he pins s σ H _ I h) λv s1 ⟨x,H1,I1,r1,q1⟩=>⟨σ,H1,I1,q1⟩) I.quiet hs
def Wv (te:TE):TS:=λD σ H=>te σ H D.rt
theorem Ks (he:PE X e te):PS X (.Return (some e) pos) (Wv te):=by
 intro pins s σ H D I h
 exact wpAny_Return_some (zm (he pins s σ H _ I h) λv s1 ⟨x,H1,I1,r1,q1⟩=>⟨x,σ,H1,I1,r1,q1⟩)
def kP (c:TT) (t u:TS):TS:=λD σ H=>c σ H λb H1=>if b=true then t D σ H1 else u D σ H1
theorem Ww {c:Expr} {a b:List Stmt} {tc:TT} (hc:PT X c tc) (ha:yq X a t) (hb:yq X b u):PS X (.If c a b pos) (kP tc t u):=by
 intro pins s σ H D I h
 refine wpAny_If (zm (hc pins s σ H _ I h) λd s1 ⟨H1,I1,q1⟩=>?_)
 cases d with
 | true=>exact ha pins s1 σ H1 D I1 q1
 | false=>exact hb pins s1 σ H1 D I1 q1
def zQQ:TS:=λ_ _ _=>False
theorem zMr:PS X st zQQ:=λ_ _ _ _ _ _ h=>h.elim
end
abbrev TG:=V->St->Hp->(St->Hp->Prop)->Prop
abbrev jA:=List V->St->Hp->(St->Hp->Prop)->Prop
def PG (X:Cx) (target:Expr) (t:TG):Prop:=
 ∀ (pins:List (Addr × Obj)) (s:Shared) (σ:St) (H:Hp) (v:V) (u:Value) (Q:St->Hp->Prop),zE X pins σ H s->zU v u->t v σ H Q->
  wpAny (model X.prog X.w) X.A (assign target X.env u) (λ_ s'=>∃ σ' H',zE X pins σ' H' s'/\Q σ' H') X.xe s
def gM (X:Cx) (ts:List Expr) (t:jA):Prop:=
 ∀ (pins:List (Addr × Obj)) (s:Shared) (σ:St) (H:Hp) (vs:List V) (us:List Value) (Q:St->Hp->Prop),zE X pins σ H s->zM vs us->t vs σ H Q->
  wpAny (model X.prog X.w) X.A (assignInOrder ((assignEach ts X.env).map (·.2)) us) (λ_ s'=>∃ σ' H',zE X pins σ' H' s'/\Q σ' H') X.xe s
abbrev qH:=V->V->V->Hp->(Hp->Prop)->Prop
def qI (X:Cx) (t:qH):Prop:=
 ∀ (pins:List (Addr × Obj)) (s:Shared) (σ:St) (H:Hp) (o i v:V) (ov iv u:Value) (Q:Hp->Prop),zE X pins σ H s->zU o ov->zU i iv->zU v u->t o i v H Q->
  wpAny (model X.prog X.w) X.A (setItem ov iv u) (λ_ s'=>∃ H',zE X pins σ H' s'/\Q H') X.xe s
section
variable {X:Cx} {pos:Pos}
def kQ (i:Nat):TG:=λv σ H Q=>Q (σ.set i (some v)) H
theorem Kt {i:Nat} {x:Str} (hN:X.N.Nodup) (hi:X.N[i]? = some x) (hx:v7 X.env.scope x) (hf:X.fn x=true\/X.env.scope.names.lookup x=some .local:=by first | exact .inl rfl | exact .inr rfl | assumption):PG X (.Name x pos) (kQ i):=by
 intro pins s σ H v u Q I r h
 exact wpAny_assign_Name (kI I hN hi hx r (λs' I'=>⟨_,H,I',h⟩) hf)
def Wx:jA:=λvs σ H Q=>vs=[]/\Q σ H
def kR (t:TG) (u:jA):jA:=λvs σ H Q=>∃ v r,vs=v :: r/\t v σ H λσ' H'=>u r σ' H' Q
theorem zPA:gM X [] Wx:=by
 intro pins s σ H vs us Q I r h
 obtain ⟨e,h⟩:=h
 subst e
 cases r
 exact assignInOrder_nil ⟨σ,H,I,h⟩
theorem zMu {e:Expr} {es:List Expr} {t:TG} {u:jA} (h1:PG X e t) (h2:gM X es u)
  (hs:(assignEach (e :: es) X.env).map (·.2)=assign e X.env :: (assignEach es X.env).map (·.2):=by rfl):gM X (e :: es) (kR t u):=by
 intro pins s σ H vs us Q I r h
 obtain ⟨v,vr,e1,h⟩:=h
 subst e1
 cases r with
 | cons r rr=>
  rw [hs]
  refine assignInOrder_cons (zm (h1 pins s σ H _ _ _ I r h) λ_ s1 ⟨σ1,H1,I1,q1⟩=>?_)
  exact h2 pins s1 σ1 H1 _ _ Q I1 rr q1
def Wy (K:PySem.W.Frag) (n:Nat) (t:jA):TG:=λv σ H Q=>∃ a xs,v=.ref a/\yZ K H a xs/\xs.length=n/\t xs σ H Q
theorem zQu {es:List Expr} {k:Nat} {t:jA} {n:Nat} (hc:X.calm=true) (h:gM X es t)
  (hn:(assignEach es X.env).length=n:=by rfl) (hst:(assignEach es X.env).findIdx? (·.1)=none:=by rfl):PG X (.Tuple es k pos) (Wy X.K n t):=by
 intro pins s σ H v u Q I r hw
 obtain ⟨a,xs,e1,hq,hl,hw⟩:=hw
 subst e1
 cases r
 obtain ⟨its,rv,ht,hz⟩:=I.tuple hq
 refine assign_Tuple_tuple (I.ok.hd hc) ht (by simp [hn,<- hl,rv.length]) hst λh' hx=>?_
 have I1:zE X pins σ H { s with heap:=h' }:=I.kept (t':=s.toks) λb o e=>hx b o (Nat.ne_of_lt (Heap.lt_size e)) e
 exact h pins _ σ H xs _ Q I1 (by simpa using rv) hw
def kS (to ti:TE) (t:qH):TG:=λv σ H Q=>to σ H λo H1=>ti σ H1 λi H2=>t o i v H2 λH3=>Q σ H3
theorem Wz {o i:Expr} {to ti:TE} {t:qH} (ho:PE X o to) (hi:PE X i ti) (hs:qI X t)
  (ha:∀ v,assign (.Subscript o i pos) X.env v=(do
   let ov <- holding [v] (eval o X.env)
   let iv <- holding [v,ov] (eval i X.env)
   standAt pos
   holding [v,ov,iv] (setItem ov iv v)
   release [v,ov,iv] []):=by intro _; rfl):PG X (.Subscript o i pos) (kS to ti t):=by
 intro pins s σ H v u Q I r h
 rw [ha]
 refine wpAny_bind (wpAny_holding (zm (ho pins s σ H _ I h) λov s1 ⟨x,H1,I1,r1,q1⟩=>?_))
 refine wpAny_bind (wpAny_holding (zm (hi pins s1 σ H1 _ I1 q1) λiv s2 ⟨y,H2,I2,r2,q2⟩=>?_))
 refine wpAny_bind (wpAny_standAt (wpAny_bind (wpAny_holding (zm (hs pins s2 σ H2 x y v ov iv u _ I2 r1 r2 r q2) λ_ s3 ⟨H3,I3,q3⟩=>?_))))
 exact wpAny_release ⟨σ,H3,I3,q3⟩
def vj (te:TE) (g:TG):TS:=λD σ H=>te σ H λx H1=>g x σ H1 D.nx
theorem XV {tg e:Expr} {te:TE} {g:TG} (he:PE X e te) (hg:PG X tg g) (hs:swapsWithSole [tg] e pos.line X.env=pure false:=by rfl) (hw:swappedStores [tg] e X.env=pure none:=by rfl)
  (h1:(assignEach [tg] X.env).map (·.2)=[assign tg X.env]:=by rfl):PS X (.Assign [tg] e pos) (vj te g):=by
 intro pins s σ H D I h
 refine wpAny_Assign_stores (zm (he pins s σ H _ I h) λv s1 ⟨x,H1,I1,r1,q1⟩=>?_) hs hw
 rw [h1]
 exact zm (hg pins s1 σ H1 x v _ I1 r1 q1) λ_ s2 q=>q
theorem XW {i:Nat} {x:Str} {e:Expr} {te:TE} {pos':Pos} (hN:X.N.Nodup) (hi:X.N[i]? = some x) (hx:v7 X.env.scope x) (he:PE X e te) (hs:swapsWith e (some (.Name x pos')) pos.line X.env=pure false:=by rfl) (hf:X.fn x=true\/X.env.scope.names.lookup x=some .local:=by first | exact .inl rfl | exact .inr rfl | assumption) :
  PS X (.Assign [.Name x pos'] e pos) (vj te (kQ i)):=by
 intro pins s σ H D I h
 refine wpAny_Assign_Name (zm (he pins s σ H _ I h) λv s1 ⟨y,H1,I1,r1,q1⟩=>?_) hs
 exact kI I1 hN hi hx r1 (λs2 I2=>⟨_,H1,I2,q1⟩) hf
def W0 (i j:Nat) (ta:TA):TS:=λD σ H=>ta σ H λvs H1=>∃ v w,vs=[v,w]/\D.nx ((σ.set i (some v)).set j (some w)) H1
theorem zQq {i j:Nat} {x y:Str} {a b:Expr} {ta:TA} {px py pt:Pos} {kt k2 pt2} (hc:X.calm=true) (hN:X.N.Nodup) (hi:X.N[i]? = some x) (hj:X.N[j]? = some y) (hij:i≠j)
  (hx:X.env.scope.names.lookup x=some .local) (hy:X.env.scope.names.lookup y=some .local) (ha:PA X [a,b] ta)
  (hw:swappedStores [.Tuple [.Name x px,.Name y py] kt pt] (.Tuple [a,b] k2 pt2) X.env=pure (some [x,y]))
  (hs:swapsWithSole [.Tuple [.Name x px,.Name y py] kt pt] (.Tuple [a,b] k2 pt2) pos.line X.env=pure false:=by rfl) :
  PS X (.Assign [.Tuple [.Name x px,.Name y py] kt pt] (.Tuple [a,b] k2 pt2) pos) (W0 i j ta):=by
 intro pins s σ H D I h
 rw [exec_Assign_arm]
 refine wpAny_bind (wpAny_standAt ?_)
 rw [hs]
 refine wpAny_bind (wpAny_pure ?_)
 rw [if_neg (by decide)]
 refine wpAny_bind (Tuple_ (zm (ha _ pins s σ H _ I h) λus s1 ⟨vs,H1,I1,r1,q1⟩=>?_))
 obtain ⟨v,w,e1,q1⟩:=q1
 subst e1
 obtain ⟨u1,u2,rfl,rv,rw'⟩:∃ u1 u2,us=[u1,u2]/\zU v u1/\zU w u2:=by
  cases r1 with
  | cons p q=>
   cases q with
   | cons p' q'=>
    cases q'
    exact ⟨_,_,rfl,p,p'⟩
 refine wpAny_newObj_type ?_ (by show 2<=sizeLine; decide)
 have I2:zE X pins σ H1 { s1 with heap:=s1.heap.push { cls:=.type "tuple",data:=.seq [u1,u2].toArray } }:=I1.kept (t':=s1.toks) λb o e=>Heap.get?_push_of_some _ e
 rw [hw]
 refine wpAny_bind (wpAny_pure ?_)
 show wpAny (model X.prog X.w) X.A (do rule "assign.swapped-stores"; let items <- unpackItems (.ref s1.heap.objs.size) 2 none; assignInOrder [λv=>bindName X.env y v,λv=>bindName X.env x v] items.reverse; pure Flow.next) _ _ _
 refine wpAny_bind (wpAny_rule (wpAny_bind (unpackItems_tuple (items:=#[u1,u2]) (I.ok.hd hc) (IsTup.new s1.heap _) λh' hx'=>?_)))
 have I3:=I2.kept (h':=h') (t':=s1.toks) λb o e=>hx' b o (Nat.ne_of_lt (Heap.lt_size e)) e
 show wpAny _ _ (assignInOrder [λv=>bindName X.env y v,λv=>bindName X.env x v] [u2,u1] >>= λ_=>pure Flow.next) _ _ _
 refine wpAny_bind (assignInOrder_cons (wpAny_bindName (kI I3 hN hj (.inl hy) rw' (λs2 I4=>?_) (.inr hy))))
 refine assignInOrder_cons (wpAny_bindName (kI I4 hN hi (.inl hx) rv (λs3 I5=>assignInOrder_nil (wpAny_pure ?_)) (.inr hx)))
 rw [List.set_comm _ _ (Ne.symm hij)] at I5
 exact ⟨_,H1,I5,q1⟩
end
section
variable {X:Cx} {pos:Pos}
def Ku (c:TT) (tb:TS):TS:=λD σ H=>∃ W:Nat->St->Hp->Prop,(∃ m,W m σ H)/\∀ m σ H,W m σ H->
 c σ H λb H1=>if b=true then ∃ N:St->Hp->Prop,(∀ σ' H',N σ' H'->∃ m',m' < m/\W m' σ' H')/\tb { D with nx:=N,ct:=N,bk:=D.nx } σ H1 else D.nx σ H1
theorem Kv {c:Expr} {body:List Stmt} {tc:TT} {tb:TS} (hp:PassesOwn (model X.prog X.w) X.A X.env X.xe) (hc:PT X c tc) (hb:yq X body tb):PS X (.While c body [] pos) (Ku tc tb):=by
 intro pins s σ H D I h
 obtain ⟨W,⟨m0,w0⟩,turn⟩:=h
 refine wpAny_While (codeAny_whileLoop (λn s'=>∃ σ' H',zE X pins σ' H' s'/\W n σ' H') ?_ m0 ⟨σ,H,I,w0⟩)
 rintro n s1 ⟨σ1,H1,I1,w1⟩
 refine wpAny_passesOwn hp (zm (hc pins s1 σ1 H1 _ I1 (turn n σ1 H1 w1)) λb s2 ⟨H2,I2,q2⟩=>?_)
 cases b with
 | true=>
  obtain ⟨N,hN,q2⟩:=q2
  rw [if_pos rfl]
  refine wpAny_passesOwn hp (zm (hb pins s2 σ1 H2 _ I2 q2) λf s3 q3=>?_)
  cases f with
  | next=>
   obtain ⟨σ3,H3,I3,n3⟩:=q3
   obtain ⟨m',hm,w3⟩:=hN σ3 H3 n3
   exact ⟨m',hm,σ3,H3,I3,w3⟩
  | cont=>
   obtain ⟨σ3,H3,I3,n3⟩:=q3
   obtain ⟨m',hm,w3⟩:=hN σ3 H3 n3
   exact ⟨m',hm,σ3,H3,I3,w3⟩
  | brk=>exact q3
  | ret v=>exact q3
 | false=>
  rw [if_neg Bool.false_ne_true]
  exact wpAny_execs_nil ⟨σ1,H2,I2,q2⟩
end
structure It where
 go:Nat->Hp->Prop
 yld:Nat->Hp->V->Hp->Prop
 stop:Nat->Hp->Prop
def yN (X:Cx) (pins:List (Addr × Obj)) (H:Hp) (b:Addr):Prop:=
 H b=none/\b≠X.env.locals/\b∉X.fs/\(b∈X.ex\/X.s₀.heap.objs.size<=b)/\(∀ x c,X.env.cells.lookup x=some c->c≠b)/\∀ p∈X.pn++pins,p.1≠b
theorem zE.fpOk {X:Cx} {pins:List (Addr × Obj)} {σ:St} {H H':Hp} {s:Shared} {b:Addr} (I:zE X pins σ H s) (hb:s.heap.objs.size<=b) (hn:H' b=none):yN X pins H' b:=by
 refine ⟨hn,Nat.ne_of_gt (Nat.lt_of_lt_of_le I.lt hb),I.nofs hb,.inr (Nat.le_trans I.sz hb),λx c e z=>?_,λp hp z=>?_⟩
 ·obtain ⟨v,q⟩:=I.cell x c e
  exact absurd (Nat.lt_of_lt_of_le q.lt (by rw [z]; exact hb)) (Nat.lt_irrefl _)
 ·exact absurd (Nat.lt_of_lt_of_le (Heap.lt_size (I.pin p hp).1) (by rw [z]; exact hb)) (Nat.lt_irrefl _)
structure vI (P:Program) (w:World) (K:PySem.W.Frag) (tg:Expr) (J:It) (fp:List Addr) (it:Addr) (tn:Nat->Heap->Prop):Prop where
 mem:it∈fp
 obj:∀ i h,tn i h->∀ b∈fp,∃ o,h.get? b=some o/\∀ v,o.data≠.cell v
 keep:∀ i h h',tn i h->(∀ b∈fp,∀ o,h.get? b=some o->h'.get? b=some o)->tn i h'
 item:∀ (X:Cx),X.prog=P->X.w=w->X.K=K->X.calm=true->∀ (i:Nat) (pins:List (Addr × Obj)) (s:Shared) (σ:St) (H:Hp) (E:Value->Shared->Prop),zE X pins σ H s->(∀ b∈fp,yN X pins H b)->tn i s.heap->J.go i H->
  wpAny (model P w) X.A (pyNext (.ref it)) (λr s1=>∃ u,r=some u∧
   wpAny (model P w) X.A (letOwnedTupleGo tg (.ref it) u) (λ_ s2=>∃ x H',zE X pins σ H' s2/\zU x u/\J.yld i H x H'/\tn (i + 1) s2.heap/\∀ b∈fp,H' b=none) E s1) E s
 done:∀ (X:Cx),X.prog=P->X.w=w->X.K=K->X.calm=true->∀ (i:Nat) (pins:List (Addr × Obj)) (s:Shared) (σ:St) (H:Hp) (E:Value->Shared->Prop),zE X pins σ H s->(∀ b∈fp,yN X pins H b)->tn i s.heap->J.stop i H->
  wpAny (model P w) X.A (pyNext (.ref it)) (λr s1=>r=none/\zE X pins σ H s1) E s
 self:∀ (A:Around) (i:Nat) (s:Shared) (Q:Value->Shared->Prop) (E:Value->Shared->Prop),tn i s.heap->Q (.ref it) s->wpAny (model P w) A (pyIter (.ref it)) Q E s
abbrev TI:=St->Hp->(It->Hp->Prop)->Prop
def Kw (X:Cx) (pins:List (Addr × Obj)) (σ:St) (tg:Expr) (R:It->Hp->Prop) (itv:Value) (s2:Shared):Prop:=
 ∃ (it:Addr) (fp:List Addr) (tn:Nat->Heap->Prop) (J:It) (H':Hp),itv=.ref it/\zE X pins σ H' s2/\vI X.prog X.w X.K tg J fp it tn/\tn 0 s2.heap/\(∀ b∈fp,yN X pins H' b)/\R J H'
def PI (X:Cx) (tg iter:Expr) (wi:TI):Prop:=
 ∀ (pins:List (Addr × Obj)) (s:Shared) (σ:St) (H:Hp) (R:It->Hp->Prop),zE X pins σ H s->wi σ H R->
  wpAny (model X.prog X.w) X.A (eval iter X.env) (λv s1=>wpAny (model X.prog X.w) X.A (pyIter v) (Kw X pins σ tg R) X.xe s1) X.xe s
theorem W1 {M:Model} {A:Around} {E:Value->Shared->Prop} {s:Shared} {tg:Expr} {it:Addr} {u:Value} {o:Obj} {n:String} {vs:Array Value} {Q:Unit->Shared->Prop} (ho:s.heap.get? it=some o) (hc:o.cls=.type n) (hd:o.data=.fields vs)
  (hn:["enumerate","zip","dict_itemiterator","dict_reverseitemiterator","odict_iterator","itertools.zip_longest","itertools.pairwise"].contains n=false) (hQ:Q () s):wpAny M A (letOwnedTupleGo tg (.ref it) u) Q E s:=by
 unfold letOwnedTupleGo
 cases tg <;> first
  | exact wpAny_pure hQ
  | (cases u <;> first
    | exact wpAny_pure hQ
    | (refine wpAny_bind (wpAny_load ho ?_)
       rw [hc,hd]
       show wpAny M A (if (["enumerate","zip","dict_itemiterator","dict_reverseitemiterator","odict_iterator","itertools.zip_longest","itertools.pairwise"].contains n && vs[0]? == some (rawInt _))=true then _ else _) Q E s
       rw [if_neg (by intro h; rw [hn,Bool.false_and] at h; cases h)]
       exact wpAny_pure hQ))
def W2 (K:PySem.W.Frag) (a:Addr):It:=
 ⟨λi H=>∃ xs x,zo K H a xs/\xs[i]? = some x,λi H x H'=>H'=H/\∀ xs,zo K H a xs->xs[i]? = some x,λi H=>∃ xs,zo K H a xs/\xs.length<=i⟩
def W3 (K:PySem.W.Frag) (a:Addr):It:=
 ⟨λi H=>∃ xs x,yZ K H a xs/\xs[i]? = some x,λi H x H'=>H'=H/\∀ xs,yZ K H a xs->xs[i]? = some x,λi H=>∃ xs,yZ K H a xs/\xs.length<=i⟩
def kT (lo:Int) (n:Nat):It:=⟨λi _=>i < n,λi H x H'=>H'=H/\x=.int (lo + i),λi _=>n<=i⟩
theorem zKQ {P:Program} {w:World} {K:PySem.W.Frag} {tg:Expr} (a it:Addr):vI P w K tg (W2 K a) [it] it (λi h=>h.IsListIter it a i) where
 mem:=by simp
 obj:=λi h st b hb=>by
  have e:b=it:=by simpa using hb
  subst e
  obtain ⟨o,e,c,d⟩:=st
  exact ⟨o,e,λv z=>by rw [d] at z; cases z⟩
 keep:=λi h h' st k=>st.at λo e=>k it (by simp) o e
 item:=by
  intro X hP hw hK hc i pins s σ H E I hf st hg
  subst hP hw hK
  obtain ⟨xs,x,hq,hx⟩:=hg
  obtain ⟨its,rv,p,hz⟩:=I.list hq
  obtain ⟨u,hu,ru⟩:=rv.get hx
  obtain ⟨f0,f1,f2,f3,f4,f5⟩:=hf it (by simp)
  refine wpAny_pyNext_list_item st p.isList (x:=u) (by simpa using hu) λh' st' sb=>?_
  have I1:zE X pins σ H { s with heap:=h' }:=I.turned (t':=s.toks) (λb o hb e=>(sb.2 b hb).trans e) f0 f1 f3 f4 f5
  obtain ⟨o,e,c,d⟩:=id st'
  exact ⟨u,rfl,W1 (s:={ s with heap:=h' }) e c d (by decide) ⟨x,H,I1,ru,⟨rfl,λys hy=>by rw [I.list_inj hy hq]; exact hx⟩,st',λb hb=>(hf b hb).1⟩⟩
 done:=by
  intro X hP hw hK hc i pins s σ H E I hf st hg
  subst hP hw hK
  obtain ⟨xs,hq,hx⟩:=hg
  obtain ⟨its,rv,p,hz⟩:=I.list hq
  obtain ⟨f0,f1,f2,f3,f4,f5⟩:=hf it (by simp)
  have hl:=rv.length
  exact wpAny_pyNext_list_end (I.ok.hd hc) st p.isList (by simp; omega) λh' eb=>⟨rfl,I.turned (t':=s.toks) (λb o hb e=>eb b o hb e) f0 f1 f3 f4 f5⟩
 self:=λ_ _ _ _ _ st h=>wpAny_pyIter_listiter st h
theorem zJi {P:Program} {w:World} {K:PySem.W.Frag} {tg:Expr} (a it:Addr):vI P w K tg (W3 K a) [it] it (λi h=>h.IsTupleIter it a i) where
 mem:=by simp
 obj:=λi h st b hb=>by
  have e:b=it:=by simpa using hb
  subst e
  obtain ⟨o,e,c,d⟩:=st
  exact ⟨o,e,λv z=>by rw [d] at z; cases z⟩
 keep:=λi h h' st k=>st.at λo e=>k it (by simp) o e
 item:=by
  intro X hP hw hK hc i pins s σ H E I hf st hg
  subst hP hw hK
  obtain ⟨xs,x,hq,hx⟩:=hg
  obtain ⟨its,rv,p,hz⟩:=I.tuple hq
  obtain ⟨u,hu,ru⟩:=rv.get hx
  obtain ⟨f0,f1,f2,f3,f4,f5⟩:=hf it (by simp)
  refine wpAny_pyNext_tuple_item st (show s.heap.IsTuple a its.toArray from p) (x:=u) (by simpa using hu) λh' st' sb=>?_
  have I1:zE X pins σ H { s with heap:=h' }:=I.turned (t':=s.toks) (λb o hb e=>(sb.2 b hb).trans e) f0 f1 f3 f4 f5
  obtain ⟨o,e,c,d⟩:=id st'
  exact ⟨u,rfl,W1 (s:={ s with heap:=h' }) e c d (by decide) ⟨x,H,I1,ru,⟨rfl,λys hy=>by rw [I.tuple_inj hy hq]; exact hx⟩,st',λb hb=>(hf b hb).1⟩⟩
 done:=by
  intro X hP hw hK hc i pins s σ H E I hf st hg
  subst hP hw hK
  obtain ⟨xs,hq,hx⟩:=hg
  obtain ⟨its,rv,p,hz⟩:=I.tuple hq
  obtain ⟨f0,f1,f2,f3,f4,f5⟩:=hf it (by simp)
  have hl:=rv.length
  exact wpAny_pyNext_tuple_end (I.ok.hd hc) st (show s.heap.IsTuple a its.toArray from p) (by simp; omega) λh' eb=>⟨rfl,I.turned (t':=s.toks) (λb o hb e=>eb b o hb e) f0 f1 f3 f4 f5⟩
 self:=λ_ _ _ _ _ st h=>wpAny_pyIter_tupleiter st h
theorem zJj {P:Program} {w:World} {K:PySem.W.Frag} {tg:Expr} (it:Addr) (lo:Int) (n:Nat):vI P w K tg (kT lo n) [it] it (λi h=>IsRangeIter h it (lo + (i:Nat) * 1) ((n:Int) - (i:Nat)) 1) where
 mem:=by simp
 obj:=λi h st b hb=>by
  have e:b=it:=by simpa using hb
  subst e
  exact ⟨_,st,λv z=>by
   have z':Data.fields _=Data.cell v:=z
   cases z'⟩
 keep:=λi h h' st k=>k it (by simp) _ st
 item:=by
  intro X hP hw hK hc i pins s σ H E I hf st hg
  subst hP hw hK
  obtain ⟨f0,f1,f2,f3,f4,f5⟩:=hf it (by simp)
  have W:=Walks.range (prog:=X.prog) (w:=X.w) (I.ok.hd hc) it lo 1 n
  refine W.item i s _ _ hg st λv h' tk hv st' kk=>?_
  obtain ⟨t,rfl⟩:=hv
  have I1:zE X pins σ H { s with heap:=h',toks:=tk }:=I.turned (λb o hb e=>kk b o (by simpa using hb) e) f0 f1 f3 f4 f5
  refine ⟨_,rfl,W1 (s:={ s with heap:=h',toks:=tk }) (n:="range_iterator") st' rfl rfl (by decide) ⟨.int (lo + i),H,I1,⟨t,?_⟩,⟨rfl,rfl⟩,st',λb hb=>(hf b hb).1⟩⟩
  rw [Int.mul_one]
 done:=by
  intro X hP hw hK hc i pins s σ H E I hf st hg
  subst hP hw hK
  obtain ⟨f0,f1,f2,f3,f4,f5⟩:=hf it (by simp)
  exact wpAny_pyNext_range_end (I.ok.hd hc) st (by have:n<=i:=hg; omega) λh' eb=>⟨rfl,I.turned (t':=s.toks) (λb o hb e=>eb b o hb e) f0 f1 f3 f4 f5⟩
 self:=λ_ _ _ _ _ st h=>wpAny_pyIter_rangeiter st h
end L2
namespace L2
open PySem PySem.Spec PyProof.Rows
section
variable {X:Cx} {tg:Expr}
theorem Kx {pins:List (Addr × Obj)} {σ:St} {H:Hp} {s:Shared} {R:It->Hp->Prop} {E:Value->Shared->Prop} {lo hi:Int} {t u v:Tok} {tk:Nat} (I:zE X pins σ H s) (h1 : -(2 ^ 62)<=lo) (h2:lo < 2 ^ 62) (h3 : -(2 ^ 62)<=hi) (h4:hi < 2 ^ 62)
  (q:R (kT lo (hi - lo).toNat) H):wpAny (model X.prog X.w) X.A (pyIter (.ref s.heap.objs.size)) (Kw X pins σ tg R) E { s with heap:=s.heap.push { cls:=.type "range",data:=.fields #[.int lo t,.int hi u,.int 1 v] },toks:=tk }:=by
 refine wpAny_pyIter_range (IsRange.new ..) (small_one h1 h2 h3 h4) ?_
 have I1:zE X pins σ H { s with heap:=s.heap.push { cls:=.type "range",data:=.fields #[.int lo t,.int hi u,.int 1 v] },toks:=tk }:=I.kept λb o e=>Heap.get?_push_of_some _ e
 refine ⟨(s.heap.push { cls:=.type "range",data:=.fields #[.int lo t,.int hi u,.int 1 v] }).objs.size,[(s.heap.push { cls:=.type "range",data:=.fields #[.int lo t,.int hi u,.int 1 v] }).objs.size],_,_,H,rfl,
  I1.kept (t':=tk) λb o e=>Heap.get?_push_of_some _ e,zJj _ lo (hi - lo).toNat,?_,λb hb=>?_,q⟩
 ·have e1:lo + ((0:Nat):Int) * 1=lo:=by simp
  have e2:(((hi - lo).toNat:Nat):Int) - ((0:Nat):Int)=Builtin.Range.rangeSize lo hi 1:=by rw [rangeSize_one]; split <;> omega
  show IsRangeIter _ _ (lo + ((0:Nat):Int) * 1) ((((hi - lo).toNat:Nat):Int) - ((0:Nat):Int)) 1
  rw [e1,e2]
  exact Heap.get?_push_size _ rfl
 ·have e:b=(s.heap.push { cls:=.type "range",data:=.fields #[.int lo t,.int hi u,.int 1 v] }).objs.size:=by simpa using hb
  subst e
  exact I1.fpOk (Nat.le_refl _) (I1.hok.fresh (Nat.le_refl _))
def kU (ta:TA):TI:=λσ H R=>ta σ H λvs H1=>∃ j:Int,vs=[.int j]/\-(2 ^ 62)<=j/\j < 2 ^ 62/\R (kT 0 j.toNat) H1
def kW (ta:TA):TI:=λσ H R=>ta σ H λvs H1=>∃ i j:Int,vs=[.int i,.int j]/\(-(2 ^ 62)<=i/\i < 2 ^ 62/\-(2 ^ 62)<=j/\j < 2 ^ 62)/\R (kT i (j - i).toNat) H1
theorem zKz {a:Expr} {ta:TA} {p pos:Pos} (hg:Gl X "range") (hm:X.mg "range" = none) (ha:PA X [a] ta) (hs:starEach [a] X.env=[(false,eval a X.env)]:=by rfl):PI X tg (.Call (.Name "range" p) [a] [] pos) (kU ta):=by
 intro pins s σ H R I h
 refine Call_ (jm I hg hm boot_range (PyProof.Rows.callWith_type1 (zm (ha pos pins s σ H _ I h) λus s1 ⟨vs,H1,I1,r1,q1⟩=>?_) hs rfl))
 obtain ⟨j,e,q1,q2,q⟩:=q1
 subst e
 cases r1 with
 | cons r rr=>
  cases rr
  obtain ⟨t,rfl⟩:=r
  exact call_range_1 (Kx I1 (by omega) (by omega) q1 q2 (by simpa using q))
theorem zKy {a b:Expr} {ta:TA} {p pos:Pos} (hg:Gl X "range") (hm:X.mg "range" = none) (ha:PA X [a,b] ta) (hs:starEach [a,b] X.env=[(false,eval a X.env),(false,eval b X.env)]:=by rfl) (hs2:starEach [b] X.env=[(false,eval b X.env)]:=by rfl) :
  PI X tg (.Call (.Name "range" p) [a,b] [] pos) (kW ta):=by
 intro pins s σ H R I h
 refine Call_ (jm I hg hm boot_range (PyProof.Rows.callWith_type1 (zm (ha pos pins s σ H _ I h) λus s1 ⟨vs,H1,I1,r1,q1⟩=>?_) (by rw [hs,hs2]) (by rw [hs2]; rfl)))
 obtain ⟨i,j,e,⟨q1,q2,q3,q4⟩,q⟩:=q1
 subst e
 cases r1 with
 | cons r rr=>
  cases rr with
  | cons r' rr=>
   cases rr
   obtain ⟨t,rfl⟩:=r
   obtain ⟨t',rfl⟩:=r'
   exact call_range_2 (Kx I1 q1 q2 q3 q4 q)
def W4 (wi:TI) (g:TG) (tb:TS):TS:=λD σ H=>wi σ H λJ H1=>∃ W:Nat->Nat->St->Hp->Prop,(∃ m,W 0 m σ H1)/\∀ i m σ H,W i m σ H->
 (J.stop i H/\D.nx σ H)\/(J.go i H/\∃ N:St->Hp->Prop,(∀ σ' H',N σ' H'->∃ m',m' < m/\W (i + 1) m' σ' H')/\∀ x H',J.yld i H x H'->g x σ H' λσ2 H2=>tb { D with nx:=N,ct:=N,bk:=D.nx } σ2 H2)
def kX (fp:List Addr) (h:Heap):List (Addr × Obj):=fp.filterMap λb=>(h.get? b).map λo=>(b,o)
theorem gN {fp:List Addr} {h:Heap} {b:Addr} {o:Obj} (hb:b∈fp) (e:h.get? b=some o):(b,o)∈kX fp h:=List.mem_filterMap.mpr ⟨b,hb,by rw [e]; rfl⟩
theorem zLQ {fp:List Addr} {h:Heap} {p:Addr × Obj} (hp:p∈kX fp h):p.1∈fp/\h.get? p.1=some p.2:=by
 obtain ⟨b,hb,e⟩:=List.mem_filterMap.mp hp
 cases q:h.get? b with
 | none=>rw [q] at e; cases e
 | some o=>
  rw [q] at e
  have e':(b,o)=p:=Option.some.inj e
  subst e'
  exact ⟨hb,q⟩
theorem zE.pinned {pins:List (Addr × Obj)} {σ:St} {H:Hp} {s:Shared} {fp:List Addr} (I:zE X pins σ H s) (hf:∀ b∈fp,yN X pins H b) (ho:∀ b∈fp,∃ o,s.heap.get? b=some o/\∀ v,o.data≠.cell v):zE X (pins++kX fp s.heap) σ H s:=
 I.pins_of λp hp=>(List.mem_append.mp hp).elim (λz=>I.pin p (List.mem_append_right _ z)) λz=>by
  obtain ⟨hb,e⟩:=zLQ z
  obtain ⟨f0,f1,f2,_⟩:=hf p.1 hb
  obtain ⟨o,e',d⟩:=ho p.1 hb
  rw [e] at e'; cases e'
  exact ⟨e,f0,f1,f2,d⟩
theorem zE.unpinned {pins pl:List (Addr × Obj)} {σ:St} {H:Hp} {s:Shared} (I:zE X (pins++pl) σ H s):zE X pins σ H s:=I.pins_of λp hp=>I.pin p (List.mem_append_right _ (List.mem_append_left _ hp))
theorem zQr {iter:Expr} {body:List Stmt} {wi:TI} {g:TG} {tb:TS} {pos:Pos} (hp:PassesOwn (model X.prog X.w) X.A X.env X.xe) (hc:X.calm=true) (hi:PI X tg iter wi) (hg:PG X tg g) (hb:yq X body tb)
  (hs:∀ x,foldedSetIterable iter X.env x=pure x:=by intro _; rfl):PS X (.For tg iter body [] pos) (W4 wi g tb):=by
 intro pins s σ H D I h
 refine wpAny_For (zm (hi pins s σ H _ I h) λv s1 h1=>zm h1 λitv s2 h2=>?_) hs
 obtain ⟨it,fp,tn,J,H2,e,I2,T,st2,f2,W,⟨m0,w0⟩,turn⟩:=h2
 subst e
 have stat:∀ {H':Hp},(∀ b∈fp,H' b=none)->∀ b∈fp,yN X pins H' b:=λhn b hb=>⟨hn b hb,(f2 b hb).2⟩
 refine codeAny_forLoop_any (λn s'=>∃ i σ' H',zE X pins σ' H' s'/\tn i s'.heap/\(∀ b∈fp,H' b=none)/\W i n σ' H') ?_ m0 ⟨0,σ,H2,I2,st2,λb hb=>(f2 b hb).1,w0⟩
 rintro n s3 ⟨i,σ3,H3,I3,st3,fr3,w3⟩
 rcases turn i n σ3 H3 w3 with ⟨stop,qn⟩ | ⟨go,N,hN,step⟩
 ·refine wpAny_passesOwn hp (zm (T.done X rfl rfl rfl hc i pins s3 σ3 H3 X.xe I3 (stat fr3) st3 stop) λr s4 ⟨hr,I4⟩=>?_)
  subst hr
  exact wpAny_execs_nil ⟨σ3,H3,I4,qn⟩
 ·refine wpAny_passesOwn hp (zm (T.item X rfl rfl rfl hc i pins s3 σ3 H3 X.xe I3 (stat fr3) st3 go) λr s4 ⟨u,hr,h4⟩=>?_)
  subst hr
  refine wpAny_passesOwn hp (zm h4 λ_ s5 ⟨x,H5,I5,r5,y5,st5,fr5⟩=>?_)
  have I5':=I5.pinned (stat fr5) (T.obj _ _ st5)
  refine wpAny_passesOwn hp (zm (hg _ s5 σ3 H5 x u _ I5' r5 (step x H5 y5)) λ_ s6 ⟨σ6,H6,I6,q6⟩=>?_)
  refine wpAny_passesOwn hp (zm (hb _ s6 σ6 H6 _ I6 q6) λf s7 q7=>?_)
  have again:∀ {σ7:St} {H7:Hp},zE X (pins++kX fp s5.heap) σ7 H7 s7->N σ7 H7->∃ m,m < n/\∃ i σ' H',zE X pins σ' H' s7/\tn i s7.heap/\(∀ b∈fp,H' b=none)/\W i m σ' H':=λ{σ7 H7} I7 n7=>by
   obtain ⟨m',hm,w7⟩:=hN σ7 H7 n7
   refine ⟨m',hm,i + 1,σ7,H7,I7.unpinned,T.keep _ _ _ st5 λb hb o e=>(I7.pin (b,o) (List.mem_append_right _ (List.mem_append_right _ (gN hb e)))).1,λb hb=>?_,w7⟩
   obtain ⟨o,e,d⟩:=T.obj _ _ st5 b hb
   exact (I7.pin (b,o) (List.mem_append_right _ (List.mem_append_right _ (gN hb e)))).2.1
  cases f with
  | next=>obtain ⟨σ7,H7,I7,n7⟩:=q7; exact again I7 n7
  | cont=>obtain ⟨σ7,H7,I7,n7⟩:=q7; exact again I7 n7
  | brk=>obtain ⟨σ7,H7,I7,q7⟩:=q7; exact ⟨σ7,H7,I7.unpinned,q7⟩
  | ret v=>obtain ⟨x7,σ7,H7,I7,r7,q7⟩:=q7; exact ⟨x7,σ7,H7,I7.unpinned,r7,q7⟩
end
theorem zMS {c:TT} {tb:TS} {D:yu} {σ:St} {H:Hp} (Pv:St->Hp->Prop) (μ:St->Hp->Nat) (h0:Pv σ H)
  (hs:∀ σ H,Pv σ H->c σ H λb H1=>if b=true then tb { D with nx:=λσ' H'=>Pv σ' H'/\μ σ' H' < μ σ H,ct:=λσ' H'=>Pv σ' H'/\μ σ' H' < μ σ H,bk:=D.nx } σ H1 else D.nx σ H1)
  (mono:∀ σ H Q Q',(∀ b H1,Q b H1->Q' b H1)->c σ H Q->c σ H Q'):Ku c tb D σ H:=by
 refine ⟨λm σ H=>m=μ σ H/\Pv σ H,⟨_,rfl,h0⟩,?_⟩
 rintro m σ H ⟨rfl,p⟩
 refine mono σ H _ _ (λb H1 q=>?_) (hs σ H p)
 cases b with
 | true=>exact ⟨_,λσ' H' ⟨p',l⟩=>⟨_,l,rfl,p'⟩,q⟩
 | false=>exact q
end L2
namespace L2
open PySem PySem.Spec PyProof.Rows
abbrev R2:=V->V->Hp->VK->Prop
def yw (X:Cx) (f:Value->Value->Sem Value) (r:R2):Prop:=
 ∀ (pins:List (Addr × Obj)) (s:Shared) (σ:St) (H:Hp) (x y:V) (v u:Value) (Q:VK),zE X pins σ H s->zU x v->zU y u->r x y H Q->
  wpAny (model X.prog X.w) X.A (f v u) (EP X pins σ Q) X.xe s
def W5 (X:Cx) (f:Value->Sem Value) (r:V->Hp->VK->Prop):Prop:=
 ∀ (pins:List (Addr × Obj)) (s:Shared) (σ:St) (H:Hp) (x:V) (v:Value) (Q:VK),zE X pins σ H s->zU x v->r x H Q->
  wpAny (model X.prog X.w) X.A (f v) (EP X pins σ Q) X.xe s
def wM (X:Cx) (f:Value) (r:List V->Hp->VK->Prop):Prop:=
 ∀ (pins:List (Addr × Obj)) (s:Shared) (σ:St) (H:Hp) (xs:List V) (us:List Value) (Q:VK),zE X pins σ H s->zM xs us->r xs H Q->
  wpAny (model X.prog X.w) X.A (call f us) (EP X pins σ Q) X.xe s
def gO (r:R2) (ta tb:TE):TE:=λσ H Q=>ta σ H λx H1=>tb σ H1 λy H2=>r x y H2 Q
def tUn (r:V->Hp->VK->Prop) (ta:TE):TE:=λσ H Q=>ta σ H λx H1=>r x H1 Q
def rI (C:Int->Int->Prop) (g:Int->Int->V):R2:=λx y H Q=>∃ i j,x=.int i/\y=.int j/\C i j/\Q (g i j) H
def v8 (g:Int->Int->V):R2:=λx y H Q=>∃ i j,x=.int i/\y=.int j/\Q (g i j) H
def rU (g:Int->V):V->Hp->VK->Prop:=λx H Q=>∃ i,x=.int i/\Q (g i) H
section
variable {X:Cx} {a b c:Expr} {ta tb tc:TE} {pos:Pos}
theorem qJ (ha:PE X a ta) (hb:PE X b tb) {pins:List (Addr × Obj)} {s:Shared} {σ:St} {H:Hp} {R:V->V->Hp->Prop} (I:zE X pins σ H s)
  (h:ta σ H λx H1=>tb σ H1 λy H2=>R x y H2) {Q:Value->Shared->Prop} {f:Value->Value->Sem Value}
  (hf:∀ v u s2 x y H2,zE X pins σ H2 s2->zU x v->zU y u->R x y H2->wpAny (model X.prog X.w) X.A (f v u) Q X.xe s2) :
  wpAny (model X.prog X.w) X.A (eval a X.env) (λv s₁=>wpAny (model X.prog X.w) X.A (eval b X.env) (λu s₂=>wpAny (model X.prog X.w) X.A (f v u) Q X.xe s₂) X.xe s₁) X.xe s:=by
 refine zm (ha pins s σ H _ I h) λv s1 ⟨x,H1,I1,r1,q1⟩=>?_
 refine zm (hb pins s1 σ H1 _ I1 q1) λu s2 ⟨y,H2,I2,r2,q2⟩=>?_
 exact hf v u s2 x y H2 I2 r1 r2 q2
theorem Ky {op:Operator} {r:R2} (ho:yw X (binaryOp op) r) (ha:PE X a ta) (hb:PE X b tb):PE X (.BinOp a op b pos) (gO r ta tb):=by
 intro pins s σ H Q I h
 exact wpAny_BinOp (qJ ha hb I h λv u s2 x y H2 I2 rx ry q=>ho pins s2 σ H2 x y v u Q I2 rx ry q)
theorem kY {op:UnaryOp} {r:V->Hp->VK->Prop} (ho:W5 X (unaryOp op) r) (ha:PE X a ta):PE X (.UnaryOp op a pos) (tUn r ta):=by
 intro pins s σ H Q I h
 exact UnaryOp_ (zm (ha pins s σ H _ I h) λv s1 ⟨x,H1,I1,r1,q1⟩=>ho pins s1 σ H1 x v Q I1 r1 q1)
theorem XX {f:Value->Value->Sem Value} {C:Int->Int->Prop} {g:Int->Int->Int}
  (rule:∀ (i j:Int) (t u:Tok) (s:Shared) (Q:Value->Shared->Prop) (E:Value->Shared->Prop),C i j->Q (.int (g i j) s.toks) { s with toks:=s.toks + 1 }->wpAny (model X.prog X.w) X.A (f (.int i t) (.int j u)) Q E s) :
  yw X f (rI C λi j=>.int (g i j)):=by
 intro pins s σ H x y v u Q I rx ry h
 obtain ⟨i,j,rfl,rfl,hc,q⟩:=h
 obtain ⟨t,rfl⟩:=rx
 obtain ⟨t',rfl⟩:=ry
 exact rule i j t t' s _ _ hc ⟨.int (g i j),H,I.tok _,⟨_,rfl⟩,q⟩
theorem kZ {f:Value->Value->Sem Value} {g:Int->Int->Int}
  (rule:∀ (i j:Int) (t u:Tok) (s:Shared) (Q:Value->Shared->Prop) (E:Value->Shared->Prop),Q (.int (g i j) s.toks) { s with toks:=s.toks + 1 }->wpAny (model X.prog X.w) X.A (f (.int i t) (.int j u)) Q E s) :
  yw X f (v8 λi j=>.int (g i j)):=by
 intro pins s σ H x y v u Q I rx ry h
 obtain ⟨i,j,rfl,rfl,q⟩:=h
 obtain ⟨t,rfl⟩:=rx
 obtain ⟨t',rfl⟩:=ry
 exact rule i j t t' s _ _ ⟨.int (g i j),H,I.tok _,⟨_,rfl⟩,q⟩
theorem jB {f:Value->Value->Sem Value} {g:Int->Int->Bool}
  (rule:∀ (i j:Int) (t u:Tok) (s:Shared) (Q:Value->Shared->Prop) (E:Value->Shared->Prop),Q (.bool (g i j)) s->wpAny (model X.prog X.w) X.A (f (.int i t) (.int j u)) Q E s) :
  yw X f (v8 λi j=>.bl (g i j)):=by
 intro pins s σ H x y v u Q I rx ry h
 obtain ⟨i,j,rfl,rfl,q⟩:=h
 obtain ⟨t,rfl⟩:=rx
 obtain ⟨t',rfl⟩:=ry
 exact rule i j t t' s _ _ ⟨.bl (g i j),H,I,rfl,q⟩
def qK (i j:Int):Prop:=0<=j/\j<=1000000/\i.natAbs < 2 ^ 64
theorem zRI:yw X (binaryOp .Add) (v8 λi j=>.int (i + j)):=kZ λ_ _ _ _ _ _ _ q=>add_int q
theorem zQ9:yw X (binaryOp .Sub) (v8 λi j=>.int (i - j)):=kZ λ_ _ _ _ _ _ _ q=>sub_int q
theorem Kz:yw X (binaryOp .Mod) (rI (λ_ j=>j≠0) λi j=>.int (i.fmod j)):=XX λ_ _ _ _ _ _ _ hc q=>mod_int' hc q
theorem zRB:yw X (binaryOp .Pow) (rI qK λi j=>.int (i ^ j.toNat)):=XX λ_ _ _ _ _ _ _ hc q=>pow_int_small hc.1 hc.2.1 hc.2.2 q
theorem unI {f:Value->Sem Value} {g:Int->Int}
  (rule:∀ (i:Int) (t:Tok) (s:Shared) (Q:Value->Shared->Prop) (E:Value->Shared->Prop),Q (.int (g i) s.toks) { s with toks:=s.toks + 1 }->wpAny (model X.prog X.w) X.A (f (.int i t)) Q E s) :
  W5 X f (rU λi=>.int (g i)):=by
 intro pins s σ H x v Q I rx h
 obtain ⟨i,rfl,q⟩:=h
 obtain ⟨t,rfl⟩:=rx
 exact rule i t s _ _ ⟨.int (g i),H,I.tok _,⟨_,rfl⟩,q⟩
theorem zQI:W5 X (unaryOp .USub) (rU λi=>.int (-i)):=unI λ_ _ _ _ _ q=>neg_int q
end
def ka:V->V->Bool
 | .non,.non=>true | .non,.int _=>true | .int _,.non=>true | .non,.bl _=>true | .bl _,.non=>true | .non,.str _=>true | .str _,.non=>true
 | .int _,.int _=>true | .bl _,.bl _=>true | .str _,.str _=>true | .byt _,.byt _=>true
 | .int _,.str _=>true | .str _,.int _=>true | .bl _,.str _=>true | .str _,.bl _=>true
 | _,_=>false
def K0:R2:=λx y H Q=>ka x y=true/\Q (.bl (decide (x=y))) H
def K1:R2:=λx y H Q=>ka x y=true/\Q (.bl (!decide (x=y))) H
theorem XY {i j:Int}:decide (V.int i=V.int j)=(i == j):=by
 rw [Bool.eq_iff_iff]
 simp
theorem XZ {i j:Bool}:decide (V.bl i=V.bl j)=(i == j):=by
 rw [Bool.eq_iff_iff]
 simp
theorem Xa {i j:Str}:decide (V.str i=V.str j)=(i == j):=by
 rw [Bool.eq_iff_iff]
 simp
theorem K2 {i j:Array UInt8}:decide (V.byt i=V.byt j)=(i.toList == j.toList):=by
 rw [Bool.eq_iff_iff]
 cases i
 cases j
 simp
section
variable {X:Cx} {a b c:Expr} {ta tb tc:TE} {pos:Pos}
theorem xE {pins:List (Addr × Obj)} {σ:St} {H:Hp} {s:Shared} {Q:VK} {k k':Bool} (I:zE X pins σ H s) (q:Q (.bl k) H) (e:k=k'):EP X pins σ Q (.bool k') s:=by
 subst e
 exact ⟨.bl k,H,I,rfl,q⟩
theorem K3:yw X (compareOp .Eq) K0:=by
 intro pins s σ H x y v u Q I rx ry h
 obtain ⟨hs,q⟩:=h
 cases x with
 | non=>
  cases rx
  cases y with
  | non=>cases ry; exact PySem.EqNone.eq_none_none (xE I q (by simp))
  | bl j=>cases ry; exact PySem.EqNone.eq_none_bool (xE I q (by simp))
  | int j=>obtain ⟨t',rfl⟩:=ry; exact PySem.EqNone.eq_none_int (xE I q (by simp))
  | str j=>obtain ⟨t',rfl⟩:=ry; exact PySem.EqNone.eq_none_str (xE I q (by simp))
  | _=>exact absurd (show false=true from hs) Bool.false_ne_true
 | bl i=>
  cases rx
  cases y with
  | non=>cases ry; exact PySem.EqNone.eq_bool_none (xE I q (by simp))
  | bl j=>cases ry; exact eq_bool (xE I q XZ)
  | str j=>obtain ⟨t',rfl⟩:=ry; exact PySem.EqMixed.eq_bool_str (xE I q (by simp))
  | _=>exact absurd (show false=true from hs) Bool.false_ne_true
 | int i=>
  obtain ⟨t,rfl⟩:=rx
  cases y with
  | non=>cases ry; exact PySem.EqNone.eq_int_none (xE I q (by simp))
  | int j=>obtain ⟨t',rfl⟩:=ry; exact eq_int (xE I q XY)
  | str j=>obtain ⟨t',rfl⟩:=ry; exact PySem.EqMixed.eq_int_str (xE I q (by simp))
  | _=>exact absurd (show false=true from hs) Bool.false_ne_true
 | str i=>
  obtain ⟨t,rfl⟩:=rx
  cases y with
  | non=>cases ry; exact PySem.EqNone.eq_str_none (xE I q (by simp))
  | bl j=>cases ry; exact PySem.EqMixed.eq_str_bool (xE I q (by simp))
  | int j=>obtain ⟨t',rfl⟩:=ry; exact PySem.EqMixed.eq_str_int (xE I q (by simp))
  | str j=>obtain ⟨t',rfl⟩:=ry; exact eq_str (xE I q Xa)
  | _=>exact absurd (show false=true from hs) Bool.false_ne_true
 | byt i=>
  obtain ⟨t,rfl⟩:=rx
  cases y with
  | byt j=>obtain ⟨t',rfl⟩:=ry; exact PySem.W.eq_bytes (xE I q K2)
  | _=>exact absurd (show false=true from hs) Bool.false_ne_true
 | _=>cases y <;> exact absurd (show false=true from hs) Bool.false_ne_true
theorem W6:yw X (compareOp .NotEq) K1:=by
 intro pins s σ H x y v u Q I rx ry h
 obtain ⟨hs,q⟩:=h
 cases x with
 | non=>
  cases rx
  cases y with
  | non=>cases ry; exact PySem.EqNone.ne_none_none (xE I q (by simp))
  | bl j=>cases ry; exact PySem.EqNone.ne_none_bool (xE I q (by simp))
  | int j=>obtain ⟨t',rfl⟩:=ry; exact PySem.EqNone.ne_none_int (xE I q (by simp))
  | str j=>obtain ⟨t',rfl⟩:=ry; exact PySem.EqNone.ne_none_str (xE I q (by simp))
  | _=>exact absurd (show false=true from hs) Bool.false_ne_true
 | bl i=>
  cases rx
  cases y with
  | non=>cases ry; exact PySem.EqNone.ne_bool_none (xE I q (by simp))
  | bl j=>cases ry; exact ne_bool (xE I q (congrArg not XZ))
  | str j=>obtain ⟨t',rfl⟩:=ry; exact PySem.EqMixed.ne_bool_str (xE I q (by simp))
  | _=>exact absurd (show false=true from hs) Bool.false_ne_true
 | int i=>
  obtain ⟨t,rfl⟩:=rx
  cases y with
  | non=>cases ry; exact PySem.EqNone.ne_int_none (xE I q (by simp))
  | int j=>obtain ⟨t',rfl⟩:=ry; exact ne_int (xE I q (congrArg not XY))
  | str j=>obtain ⟨t',rfl⟩:=ry; exact PySem.EqMixed.ne_int_str (xE I q (by simp))
  | _=>exact absurd (show false=true from hs) Bool.false_ne_true
 | str i=>
  obtain ⟨t,rfl⟩:=rx
  cases y with
  | non=>cases ry; exact PySem.EqNone.ne_str_none (xE I q (by simp))
  | bl j=>cases ry; exact PySem.EqMixed.ne_str_bool (xE I q (by simp))
  | int j=>obtain ⟨t',rfl⟩:=ry; exact PySem.EqMixed.ne_str_int (xE I q (by simp))
  | str j=>obtain ⟨t',rfl⟩:=ry; exact ne_str (xE I q (congrArg not Xa))
  | _=>exact absurd (show false=true from hs) Bool.false_ne_true
 | byt i=>
  obtain ⟨t,rfl⟩:=rx
  cases y with
  | byt j=>obtain ⟨t',rfl⟩:=ry; exact PySem.W.ne_bytes (xE I q (congrArg not K2))
  | _=>exact absurd (show false=true from hs) Bool.false_ne_true
 | _=>cases y <;> exact absurd (show false=true from hs) Bool.false_ne_true
theorem K4:yw X (compareOp .Lt) (v8 λi j=>.bl (decide (i < j))):=jB λ_ _ _ _ _ _ _ q=>lt_int q
theorem kg:yw X (compareOp .LtE) (v8 λi j=>.bl (decide (i<=j))):=jB λ_ _ _ _ _ _ _ q=>le_int q
theorem K5:yw X (compareOp .Gt) (v8 λi j=>.bl (decide (j < i))):=jB λ_ _ _ _ _ _ _ q=>gt_int q
theorem K6:yw X (compareOp .GtE) (v8 λi j=>.bl (decide (j<=i))):=jB λ_ _ _ _ _ _ _ q=>ge_int q
theorem zRD:yw X (compareOp .Is) (λx y H Q=>y=.non/\Q (.bl (decide (x=.non))) H):=by
 intro pins s σ H x y v u Q I rx ry h
 obtain ⟨rfl,q⟩:=h
 cases ry
 refine is_none_gen (xE I q ?_)
 cases x <;> first
  | (cases rx; rfl)
  | (obtain ⟨t,rfl⟩:=rx; rfl)
theorem zPG:yw X (compareOp .IsNot) (λx y H Q=>y=.non/\Q (.bl (!decide (x=.non))) H):=by
 intro pins s σ H x y v u Q I rx ry h
 obtain ⟨rfl,q⟩:=h
 cases ry
 refine isnot_none_gen (xE I q ?_)
 cases x <;> first
  | (cases rx; rfl)
  | (obtain ⟨t,rfl⟩:=rx; rfl)
def isObj:HO->Bool
 | .lst _=>true
 | .ins _ _ _=>true
 | _=>false
theorem yw.or {f:Value->Value->Sem Value} {r r':R2} (h:yw X f r) (h':yw X f r'):yw X f (λx y H Q=>r x y H Q\/r' x y H Q):=by
 intro pins s σ H x y v u Q I rx ry q
 rcases q with q | q
 ·exact h pins s σ H x y v u Q I rx ry q
 ·exact h' pins s σ H x y v u Q I rx ry q
theorem vW (b:Expr) {op:CmpOp} (h:op≠.In:=by decide) (h2:op≠.NotIn:=by decide):behindInMarks op b=false:=by
 have e1:(op == CmpOp.In)=false:=by cases op <;> first | rfl | exact absurd rfl h
 have e2:(op == CmpOp.NotIn)=false:=by cases op <;> first | rfl | exact absurd rfl h2
 cases b <;> simp [behindInMarks,e1,e2]
theorem zPD {op:CmpOp} {r:R2} (ho:yw X (compareOp op) r) (ha:PE X a ta) (hb:PE X b tb) (hm:behindInMarks op b=false):PE X (.Compare a [op] [b] pos) (gO r ta tb):=by
 intro pins s σ H Q I h
 exact wpAny_Compare1 (qJ ha hb I h λv u s2 x y H2 I2 rx ry q=>ho pins s2 σ H2 x y v u Q I2 rx ry q) hm
def K7 (t:TE):TT:=λσ H Q=>t σ H λx H'=>∃ k,x=.bl k/\Q k H'
theorem K8 {op:CmpOp} {r:R2} (ho:yw X (compareOp op) r) (ha:PE X a ta) (hb:PE X b tb) (hm:behindInMarks op b=false):PT X (.Compare a [op] [b] pos) (K7 (gO r ta tb)):=by
 intro pins s σ H Q I h
 refine wpAny_isTrue_Compare1 (zm (ha pins s σ H _ I h) λv s1 ⟨x,H1,I1,r1,q1⟩=>zm (hb pins s1 σ H1 _ I1 q1) λu s2 ⟨y,H2,I2,r2,q2⟩=>
  zm (ho pins s2 σ H2 x y v u _ I2 r1 r2 q2) λc s3 ⟨z,H3,I3,r3,k,e,q3⟩=>?_) hm
 subst e
 cases r3
 exact wpAny_truthy_bool ⟨H3,I3,q3⟩
theorem Xb:(sizeLine:Nat) < 2 ^ 63:=by rw [sizeLine_eq]; decide
theorem uA {x:V} {us:List Value} (r:zM [x] us):∃ u,us=[u]/\zU x u:=by
 cases r with
 | cons r1 r2=>cases r2; exact ⟨_,rfl,r1⟩
theorem gQ {x y:V} {us:List Value} (r:zM [x,y] us):∃ u w',us=[u,w']/\zU x u/\zU y w':=by
 cases r with
 | cons r1 r2=>
  cases r2 with
  | cons r3 r4=>cases r4; exact ⟨_,_,rfl,r1,r3⟩
theorem K9:wM X (.builtin "abs") (λxs H Q=>∃ i,xs=[.int i]/\Q (.int (if i < 0 then -i else i)) H):=by
 intro pins s σ H xs us Q I r h
 obtain ⟨i,rfl,q⟩:=h
 obtain ⟨u,rfl,t,rfl⟩:=uA r
 exact call_abs_int λu tk=>⟨.int (if i < 0 then -i else i),H,I.tok _,⟨_,rfl⟩,q⟩
theorem zMG (hc:X.calm=true):wM X (.builtin "max") (λxs H Q=>∃ i j,xs=[.int i,.int j]/\Q (.int (if j > i then j else i)) H):=by
 intro pins s σ H xs us Q I r h
 obtain ⟨i,j,rfl,q⟩:=h
 obtain ⟨u,w',rfl,⟨t,rfl⟩,⟨t',rfl⟩⟩:=gQ r
 refine max_two_ints (I.ok.hd hc) λh' tk k=>⟨_,H,I.kept k,?_,q⟩
 by_cases hj:j > i
 ·rw [if_pos hj,if_pos hj]; exact ⟨_,rfl⟩
 ·rw [if_neg hj,if_neg hj]; exact ⟨_,rfl⟩
theorem zH2:wM X (.type "int") (λxs H Q=>(∃ i,xs=[.int i]/\Q (.int i) H)\/∃ k,xs=[.bl k]/\Q (.int (if k then 1 else 0)) H):=by
 intro pins s σ H xs us Q I r h
 rcases h with ⟨i,rfl,q⟩ | ⟨k,rfl,q⟩
 ·obtain ⟨u,rfl,t,rfl⟩:=uA r
  exact call_int_int ⟨.int i,H,I,⟨_,rfl⟩,q⟩
 ·obtain ⟨u,rfl,r1⟩:=uA r
  cases r1
  exact call_int_bool ⟨.int (if k then 1 else 0),H,I.tok _,⟨_,rfl⟩,q⟩
end
end L2
namespace L2
open PySem PySem.Spec PyProof.Rows
structure vJ (h:Heap) (x dx C:Addr) (mA:Str->Option Value):Prop where
 obj:h.get? x=some (PySem.W.instObj C dx)
 ns:h.Ns1 dx mA
 ne:dx≠x
theorem zLa {h:Heap} {dx:Addr} {mA:Str->Option Value} (n:h.Ns1 dx mA):∃ od,h.get? dx=some od/\∀ name,PySem.W.lookIn name od=some (mA name):=by
 obtain ⟨o,es,ep,ho,hd,hk,_,hm⟩:=n
 refine ⟨o,ho,λname=>?_⟩
 have e:=hm name
 unfold nsFind findBy at e
 rw [<- Array.find?_toList] at e
 unfold PySem.W.lookIn
 rw [hd]
 dsimp only
 split
 ·rename_i y q
  rw [q] at e
  exact congrArg some e
 ·rename_i q
  rw [q] at e
  have a:es.toList.any (·.refKey)=false:=by
   rw [List.any_eq_false]
   intro y hy
   obtain ⟨z,t,hkey⟩:=hk y (Array.mem_toList_iff.mp hy)
   simp [DictEntry.refKey,hkey]
  have a':¬ es.toList.any (·.refKey)=true:=by rw [a]; exact Bool.false_ne_true
  rw [if_neg a']
  exact congrArg some e
theorem vJ.look {h:Heap} {x dx C:Addr} {mA:Str->Option Value} (I:vJ h x dx C mA):∃ od,PySem.W.InstAt h x (PySem.W.instObj C dx) C (some od)/\∀ name,PySem.W.lookIn name od=some (mA name):=
 let ⟨od,ho,hl⟩:=zLa I.ns
 ⟨od,⟨I.obj,rfl,rfl,ho⟩,hl⟩
section
variable {prog:Program} {w:World} {A:Around} {E:Value->Shared->Prop} {s:Shared} {K:PySem.W.Frag} {x dx C f:Addr} {mA:Str->Option Value} {name:Str} {v:Value}
theorem jp {expr:Bool} {Q:Value->Shared->Prop} (X:K.In s.heap) (I:vJ s.heap x dx C mA) (hg:PySem.W.plainGet K C name=true) (hh:PySem.W.hasDictIn K C=true)
  (ha:PySem.W.findIn K (.ref C) name=some none) (hv:mA name=some v) (hv':PySem.W.handedIn v=true) (h:Q v { s with toks:=s.toks + 1 }) :
  wpAny (model prog w) A (getAttr (.ref x) name expr) Q E s:=by
 obtain ⟨od,J,hl⟩:=I.look
 exact PySem.W.get_value X J (PySem.W.plainGet_of hg).1 (PySem.W.findObj_own hh ha rfl (by rw [hl,hv])) hv' h
theorem zNW {pl:Sem Bool} {Q:Value × List Value->Shared->Prop} (X:K.In s.heap) (I:vJ s.heap x dx C mA) (hg:PySem.W.plainGet K C name=true)
  (hf:PySem.W.findIn K (.ref C) name=some (some (.ref f))) (ht:PySem.W.isFn K (.ref f)=true) (hv:mA name=none) (h:Q (.ref f,[.ref x]) s) :
  wpAny (model prog w) A (getMethod (.ref x) name pl) Q E s:=by
 obtain ⟨od,J,hl⟩:=I.look
 exact PySem.W.method_fn X J (PySem.W.plainGet_of hg).1 (PySem.W.plainGet_of hg).2 hf (beq_iff_eq.mp ht) (by show (PySem.W.lookIn name od).map (·.isSome)=some false; rw [hl,hv]; rfl) h
theorem zOt {ns:List Str} {Q:Unit->Shared->Prop} (X:K.In s.heap) (I:vJ s.heap x dx C mA)
  (hs:PySem.W.findIn K (.ref C) "__setattr__" = some (some (.builtin "object.__setattr__"))) (hp:PySem.W.plainOver K C=true) (ht:PySem.W.takerIn K C name=some none) (hh:PySem.W.hasDictIn K C=true)
  (hw:PySem.Within mA ns) (hsz:ns.length<=sizeLine)
  (h:∀ h',vJ h' x dx C (λy=>if y=name then some v else mA y)->Heap.SameBut dx s.heap h'->Q () { s with heap:=h',toks:=s.toks + 2 }) :
  wpAny (model prog w) A (setAttr (.ref x) name v) Q E s:=by
 obtain ⟨od,J,hl⟩:=I.look
 refine PySem.W.set_plain X J hs (PySem.W.osa_open (s:={ s with toks:=s.toks + 1 }) (r:=none) X J hp ht λb=>?_)
 obtain ⟨cd,hc,hd'⟩:=PySem.W.any_some hh
 have hx:s.heap.get? x=some ⟨.ref C,some dx,.plain,#[]⟩:=I.obj
 refine wpAny_bind (wpAny_pure (wpAny_bind (wpAny_bind (wpAny_loadPart hx (wpAny_bind (PySem.W.Looks.here (s:={ s with toks:=s.toks + 1 }) (PySem.W.looks_clsIn X hc) ?_))))))
 rw [hd']
 refine wpAny_pure (a:=some dx) (wpAny_bind (wpAny_pure (wpAny_bind ?_)))
 refine wpAny_nsSet1 (s:={ s with toks:=s.toks + 1 }) I.ns λh' hn2 hs2=>?_
 obtain ⟨oD,esD,epD,hoD,hdD,hcD⟩:=hn2.count (PySem.Within.cons name v hw)
 refine wpAny_bind (wpAny_lookBehind hoD (by rw [hdD]; exact pastItsLine_dict (Nat.le_trans hcD (by rw [List.length_cons]; omega))) ?_)
 exact wpAny_pure (h _ ⟨(hs2.2 _ (Ne.symm I.ne)).trans I.obj,hn2,I.ne⟩ hs2)
theorem zNK {R:Result->Shared->Prop} {vs:List Value} {kw:List (Str × Value)} (X:K.In s.heap) (hm:PySem.W.makesIn K C=true)
  (hi:PySem.W.findIn K (.ref C) "__init__" = some (some (.ref f))) (hf:PySem.W.typeIn K (.ref f)=some (.type "function"))
  (h:codeAny (model prog w) (A.under (.builtin "type.__call__" ⟨.ref C :: vs,kw⟩)) (.call (.ref f) ⟨.ref (s.heap.objs.size + 1) :: vs,kw⟩) (PySem.W.InitBack (s.heap.objs.size + 1) R)
   { s with heap:=(s.heap.push PySem.W.emptyDict).push (PySem.W.instObj C s.heap.objs.size) }) :
  codeAny (model prog w) A (.call (.ref C) ⟨vs,kw⟩) R s:=by
 obtain ⟨hh,g,d,t,os⟩:=s
 exact PySem.W.make_core (PySem.W.makes_of X hm) (PySem.W.looks_findIn X hi) (λself=>PySem.W.bind_fn X self hf) (.inl rfl) h
end
def yj (f:Str) (v:V):List (Str × V)->List (Str × V)
 | []=>[(f,v)]
 | (g,x) :: r=>if g=f then (g,v) :: r else (g,x) :: yj f v r
theorem zFs (f g:Str) (v:V):∀ fs:List (Str × V),(yj f v fs).lookup g=if g=f then some v else fs.lookup g
 | []=>by
  show List.lookup g [(f,v)]=_
  by_cases h:g=f
  ·have hb:(g == f)=true:=beq_iff_eq.mpr h
   simp only [List.lookup,hb,if_pos h]
  ·have hb:(g == f)=false:=beq_eq_false_iff_ne.mpr h
   simp only [List.lookup,hb,if_neg h]
 | (k,x) :: r=>by
  have ih:=zFs f g v r
  rw [show yj f v ((k,x) :: r)=(if k=f then (k,v) :: r else (k,x) :: yj f v r) from rfl]
  by_cases hk:k=f
  ·rw [if_pos hk]
   by_cases h:g=k
   ·have hb:(g == k)=true:=beq_iff_eq.mpr h
    simp only [List.lookup,hb,if_pos (h.trans hk)]
   ·have hb:(g == k)=false:=beq_eq_false_iff_ne.mpr h
    simp only [List.lookup,hb,if_neg (λe:g=f=>h (e.trans hk.symm))]
  ·rw [if_neg hk]
   by_cases h:g=k
   ·have hb:(g == k)=true:=beq_iff_eq.mpr h
    simp only [List.lookup,hb,if_neg (λe:g=f=>hk (h.symm.trans e))]
   ·have hb:(g == k)=false:=beq_eq_false_iff_ne.mpr h
    simp only [List.lookup,hb]
    exact ih
theorem W7 (f:Str) (v:V):∀ fs:List (Str × V),f∈(yj f v fs).map (·.1)/\∀ g,g∈fs.map (·.1)->g∈(yj f v fs).map (·.1)
 | []=>⟨by simp [yj],λg h=>by simp at h⟩
 | (k,x) :: r=>by
  obtain ⟨i1,i2⟩:=W7 f v r
  rw [show yj f v ((k,x) :: r)=(if k=f then (k,v) :: r else (k,x) :: yj f v r) from rfl]
  by_cases hk:k=f
  ·rw [if_pos hk]
   subst hk
   exact ⟨by simp,λg h=>by simpa using h⟩
  ·rw [if_neg hk]
   refine ⟨?_,λg h=>?_⟩
   ·rw [List.map_cons]
    exact List.mem_cons_of_mem _ i1
   ·rw [List.map_cons] at h |-
    rcases List.mem_cons.mp h with e | e
    ·exact List.mem_cons.mpr (.inl e)
    ·exact List.mem_cons_of_mem _ (i2 g e)
theorem zFu (f:Str) (v:V):∀ fs:List (Str × V),(yj f v fs).length<=fs.length + 1
 | []=>by simp [yj]
 | (k,x) :: r=>by
  have ih:=zFu f v r
  rw [show yj f v ((k,x) :: r)=(if k=f then (k,v) :: r else (k,x) :: yj f v r) from rfl]
  by_cases hk:k=f
  ·rw [if_pos hk,List.length_cons,List.length_cons]; omega
  ·rw [if_neg hk,List.length_cons,List.length_cons]; omega
theorem wG.some_of {v:V} {o:Option Value} (r:wG (some v) o):∃ u,o=some u/\zU v u:=by
 cases o with
 | none=>exact (show False from r).elim
 | some u=>exact ⟨u,rfl,r⟩
theorem wG.none_of {o:Option Value} (r:wG none o):o=none:=by
 cases o with
 | none=>rfl
 | some u=>exact (show False from r).elim
theorem zLf {v:V} {u:Value} (r:zU v u):PySem.W.handedIn u=true:=by
 cases v with
 | non=>cases (show u=Value.none from r); rfl
 | bl b=>cases (show u=Value.bool b from r); rfl
 | int i=>obtain ⟨t,e⟩:=(show ∃ t,u=Value.int i t from r); cases e; rfl
 | str x=>obtain ⟨t,e⟩:=(show ∃ t,u=Value.str x t from r); cases e; rfl
 | byt b=>obtain ⟨t,e⟩:=(show ∃ t,u=Value.bytes b t from r); cases e; rfl
 | flt b=>obtain ⟨t,e⟩:=(show ∃ t,u=Value.float b t from r); cases e; rfl
 | ref a=>cases (show u=Value.ref a from r); rfl
 | ty n=>cases (show u=Value.type n from r); rfl
section
variable {P:Program} {w:World} {H H':Hp} {h h':Heap} {a C dx:Addr} {fs fs':List (Str × V)}
theorem Xc (hok:xD P w H h) (e:H a=some (.ins C dx fs)):∃ mA,vJ h a dx C mA/\(∀ f,wG (fs.lookup f) (mA f))/\PySem.Within mA (fs.map (·.1))/\fs.length<=1000/\H dx=some (.own a):=by
 obtain ⟨d,z,ne,ob,mA,n,r,q⟩:=(show xk P w H h a (.ins C dx fs) from hok a _ e)
 exact ⟨mA,⟨ob,n,ne⟩,r,q,z,d⟩
end
structure uQ (K:PySem.W.Frag) (C:Addr):Prop where
 pg:PySem.W.plainGet K C Str.empty=true
 hd:PySem.W.hasDictIn K C=true
 po:PySem.W.plainOver K C=true
 sa:PySem.W.findIn K (.ref C) "__setattr__" = some (some (.builtin "object.__setattr__"))
theorem uQ.get {K:PySem.W.Frag} {C:Addr} (c:uQ K C) (f:Str):PySem.W.plainGet K C f=true:=c.pg
def w8 (K:PySem.W.Frag) (C:Addr) (f:Str):Prop:=PySem.W.findIn K (.ref C) f=some none
theorem w8.taker {K:PySem.W.Frag} {C:Addr} {f:Str} (n:w8 K C f):PySem.W.takerIn K C f=some none:=by
 unfold PySem.W.takerIn
 rw [show PySem.W.findIn K (.ref C) f=some none from n]
 rfl
structure qL (K:PySem.W.Frag) (C:Addr) (m:Str) (f:Addr):Prop where
 at_:PySem.W.findIn K (.ref C) m=some (some (.ref f))
 fn:PySem.W.isFn K (.ref f)=true
 kp:PySem.W.keepIn K (.ref f)=true
section
variable {X:Cx} {pins:List (Addr × Obj)} {σ:St} {H:Hp} {s:Shared} {a C dx:Addr} {fs:List (Str × V)} {f:Str} {v:V} {A:Around} {E:Value->Shared->Prop}
theorem zKD {b:Bool} {Q:Value->Shared->Prop} (I:zE X pins σ H s) (e:H a=some (.ins C dx fs)) (c:uQ X.K C) (n:w8 X.K C f) (l:fs.lookup f=some v)
  (h:∀ u s',zE X pins σ H s'->zU v u->Q u s'):wpAny (model X.prog X.w) A (getAttr (.ref a) f b) Q E s:=by
 obtain ⟨mA,O,r,_,_,_⟩:=Xc I.hok e
 obtain ⟨u,hu,ru⟩:=wG.some_of (v:=v) (o:=mA f) (by rw [<- l]; exact r f)
 exact jp I.kIn O (c.get f) c.hd n hu (zLf ru) (h u _ (I.tok _) ru)
theorem zKC {m:Str} {g:Addr} {pl:Sem Bool} {Q:Value × List Value->Shared->Prop} (I:zE X pins σ H s) (e:H a=some (.ins C dx fs)) (c:uQ X.K C) (k:qL X.K C m g) (l:fs.lookup m=none)
  (h:Q (.ref g,[.ref a]) s):wpAny (model X.prog X.w) A (getMethod (.ref a) m pl) Q E s:=by
 obtain ⟨mA,O,r,_,_,_⟩:=Xc I.hok e
 have hn:mA m=none:=wG.none_of (by rw [<- l]; exact r m)
 exact zNW I.kIn O (c.get m) k.at_ k.fn hn h
theorem zJm {y:V} {u:Value} {Q:Unit->Shared->Prop} (I:zE X pins σ H s) (e:H a=some (.ins C dx fs)) (c:uQ X.K C) (n:w8 X.K C f) (hl:fs.length < 1000) (ry:zU y u)
  (h:∀ s',zE X pins σ (zb H a (.ins C dx (yj f y fs))) s'->Q () s'):wpAny (model X.prog X.w) A (setAttr (.ref a) f u) Q E s:=by
 obtain ⟨mA,O,r,wi,_,ho⟩:=Xc I.hok e
 have hz:(fs.map (·.1)).length<=sizeLine:=by rw [List.length_map,sizeLine_eq]; omega
 refine zOt I.kIn O c.sa c.po n.taker c.hd wi hz λh' O' sb=>h _ ?_
 have hd:∃ o,h'.get? dx=some o:=let ⟨o,_,_,e',_⟩:=O'.ns; ⟨o,e'⟩
 refine I.write (x:=a) (e:=dx) (by rw [e]; exact True.intro) (.inr ho) (λb q hb z=>(sb.2 b hb).trans z) hd ?_
 refine ⟨by rw [zv O.ne]; exact ho,?_,O.ne,O'.obj,_,O'.ns,λg=>?_,λg hg=>?_⟩
 ·have:=zFu f y fs; omega
 ·show wG ((yj f y fs).lookup g) (if g=f then some u else mA g)
  rw [zFs]
  by_cases q:g=f
  ·rw [if_pos q,if_pos q]; exact ry
  ·rw [if_neg q,if_neg q]; exact r g
 ·by_cases q:g=f
  ·rw [q]; exact (W7 f y fs).1
  ·refine (W7 f y fs).2 g (wi g λz=>hg ?_)
   show (if g=f then some u else mA g)=none
   rw [if_neg q]; exact z
theorem zE.made (I:zE X pins σ H s):zE X pins σ (zb (zb H s.heap.objs.size (.own (s.heap.objs.size + 1))) (s.heap.objs.size + 1) (.ins C s.heap.objs.size []))
  { s with heap:=(s.heap.push PySem.W.emptyDict).push (PySem.W.instObj C s.heap.objs.size) }:=by
 have e1:(s.heap.push PySem.W.emptyDict).get? s.heap.objs.size=some PySem.W.emptyDict:=Heap.get?_push_size s.heap rfl
 have e2:((s.heap.push PySem.W.emptyDict).push (PySem.W.instObj C s.heap.objs.size)).get? (s.heap.objs.size + 1)=some (PySem.W.instObj C s.heap.objs.size):=by
  have:=Heap.get?_push_size (s.heap.push PySem.W.emptyDict) (o:=PySem.W.instObj C s.heap.objs.size) rfl
  rwa [Heap.size_push] at this
 have e3:(s.heap.push PySem.W.emptyDict).Ns s.heap.objs.size (λ_=>none):=⟨PySem.W.emptyDict,#[],_,e1,rfl,(λe he=>absurd he (by simp)),λ_=>rfl⟩
 have I1:=I.laid (a:=s.heap.objs.size) (o:=.own (s.heap.objs.size + 1)) (h':=s.heap.push PySem.W.emptyDict) (t':=s.toks) (λb u q=>Heap.get?_push_of_some _ q) (Nat.le_refl _) ⟨_,e1⟩
 refine I1.laid (a:=s.heap.objs.size + 1) (o:=.ins C s.heap.objs.size []) (t':=s.toks) (λb u q=>Heap.get?_push_of_some _ q) (Nat.le_of_eq (Heap.size_push _ _)) ?_
 have ne:s.heap.objs.size≠s.heap.objs.size + 1:=Nat.ne_of_lt (Nat.lt_succ_self _)
 refine ⟨by rw [zv ne,xb],Nat.zero_le _,ne,e2,λ_=>none,(Heap.Ns1.of_empty e3).at λo q=>Heap.get?_push_of_some _ q,λ_=>True.intro,λy hy=>absurd rfl hy⟩
theorem zP6 {prog:Program} {w:World} {env:Env} {e:Expr} {f:Str} {pos:Pos} {s:Shared} {Q:Value->Shared->Prop} (hb:attributeBase e f env (eval e env)=eval e env)
  (h:wpAny (model prog w) A (eval e env) (λo s₁=>wpAny (model prog w) A (getAttr o f true) Q E s₁) E s):wpAny (model prog w) A (eval (.Attribute e f pos) env) Q E s:=
 Attribute_any_ h (by rw [arm_eval_Attribute,hb])
end
def W8 (K:PySem.W.Frag) (ta:TE) (f:Str):TE:=λσ H Q=>ta σ H λx H1=>∃ a C dx fs v,x=.ref a/\H1 a=some (.ins C dx fs)/\uQ K C/\w8 K C f/\fs.lookup f=some v/\Q v H1
def kh (K:PySem.W.Frag) (ta tv:TE) (f:Str):TS:=λD σ H=>tv σ H λy H1=>ta σ H1 λx H2=>∃ a C dx fs,x=.ref a/\H2 a=some (.ins C dx fs)/\uQ K C/\w8 K C f/\fs.length < 1000∧
 D.nx σ (zb H2 a (.ins C dx (yj f y fs)))
section
variable {X:Cx} {o e value:Expr} {f:Str} {pos pos' tpos:Pos} {ta tv:TE}
theorem zQ1 (he:PE X e ta) (hb:attributeBase e f X.env (eval e X.env)=eval e X.env):PE X (.Attribute e f pos) (W8 X.K ta f):=by
 intro pins s σ H Q I h
 refine zP6 hb (zm (he pins s σ H _ I h) λu s1 ⟨x,H1,I1,rx,a,C,dx,fs,v,ex,ea,c,n,l,q⟩=>?_)
 subst ex
 obtain rfl:u=Value.ref a:=rx
 exact zKD I1 ea c n l λu' s2 I2 ru=>⟨v,H1,I2,ru,q⟩
theorem jC (ha:PE X o ta) (hv:PE X value tv) (hs:swapsWith value (some (.Attribute o f pos')) pos.line X.env=pure false):PS X (.Assign [.Attribute o f pos'] value pos) (kh X.K ta tv f):=by
 intro pins s σ H D I h
 refine plainObj_wpAny_Assign_Attribute (zm (hv pins s σ H _ I h) λu s1 ⟨y,H1,I1,ry,q⟩=>zm (ha pins s1 σ H1 _ I1 q) λov s2 ⟨x,H2,I2,rx,a,C,dx,fs,ex,ea,c,n,l,q2⟩=>?_) hs
 subst ex
 obtain rfl:ov=Value.ref a:=rx
 exact zJm I2 ea c n l ry λs3 I3=>⟨σ,_,I3,q2⟩
end
section
variable {X:Cx} {pins:List (Addr × Obj)} {σ:St} {H:Hp} {s:Shared} {A:Around} {E:Value->Shared->Prop} {Q:Value->Shared->Prop} {c:Value} {b:Bool}
inductive yR (K:PySem.W.Frag) (H:Hp):V->Value->Prop where
 | non:yR K H .non (.type "NoneType")
 | bl (x:Bool):yR K H (.bl x) (.type "bool")
 | int (i:Int):yR K H (.int i) (.type "int")
 | str (x:Str):yR K H (.str x) (.type "str")
 | flt (x:UInt64):yR K H (.flt x) (.type "float")
 | lst {a:Addr} {xs:List V} (e:H a=some (.lst xs)):yR K H (.ref a) (.type "list")
 | frz {a:Addr} {o:Obj} {xs:List V} (e:H a=some (.frz o (.lst xs))):yR K H (.ref a) (.type "list")
 | tup {a:Addr} {xs:List V} (e:H a=some (.tup xs)):yR K H (.ref a) (.type "tuple")
 | dK {a:Addr} {kvs:List (wL × V)} (e:H a=some (.dK kvs)):yR K H (.ref a) (.type "dict")
 | dT {a:Addr} {kvs:List (List wL × V)} (e:H a=some (.dT kvs)):yR K H (.ref a) (.type "dict")
 | ins {a C dx:Addr} {fs:List (Str × V)} (e:H a=some (.ins C dx fs)) (cl:uQ K C) (ha:PySem.W.findIn K (.ref C) "__class__" = some (some (.builtin "object.__class__")))
   (hn:PySem.W.specialIn K (.builtin "object.__class__") "__get__" = some (some (.builtin "getset_descriptor.__get__"))) (htk:PySem.W.takesIn K (.builtin "object.__class__")=some true)
   (hm:PySem.W.mroIn K C (.type "object")=some true):yR K H (.ref a) (.ref C)
theorem zHv {x:V} {u t:Value} (I:zE X pins σ H s) (rx:zU x u) (ty:yR X.K H x t) (e:PySem.W.kitOne X.K t c=some b) (h:∀ tk,Q (.bool b) { s with toks:=tk }) :
  wpAny (model X.prog X.w) A (call (.builtin "isinstance") [u,c]) Q E s:=by
 cases ty with
 | non=>cases (show u=Value.none from rx); exact PySem.W.kia_one PySem.W.kitx_none I.kIn True.intro e (λz=>nomatch z) h
 | bl y=>cases (show u=Value.bool y from rx); exact PySem.W.kia_one PySem.W.kitx_bool I.kIn True.intro e (λz=>nomatch z) h
 | int i=>obtain ⟨t,q⟩:=(show ∃ t,u=Value.int i t from rx); cases q; exact PySem.W.kia_one PySem.W.kitx_int I.kIn True.intro e (λz=>nomatch z) h
 | str y=>obtain ⟨t,q⟩:=(show ∃ t,u=Value.str y t from rx); cases q; exact PySem.W.kia_one PySem.W.kitx_str I.kIn True.intro e (λz=>nomatch z) h
 | flt y=>obtain ⟨t,q⟩:=(show ∃ t,u=Value.float y t from rx); cases q; exact PySem.W.kia_one PySem.W.kitx_float I.kIn True.intro e (λz=>nomatch z) h
 | @lst a xs ea=>
  cases (show u=Value.ref a from rx)
  obtain ⟨_,_,n,_,h1⟩:=(show xk X.prog X.w H s.heap a (.lst xs) from I.hok a _ ea)
  exact PySem.W.kia_one PySem.W.kitx_list I.kIn ⟨_,h1,rfl⟩ e (λz=>nomatch z) h
 | @frz a ob xs ea=>
  cases (show u=Value.ref a from rx)
  obtain ⟨_,_,_,n,_,h1⟩:=(show xk X.prog X.w H s.heap a (.frz ob (.lst xs)) from I.hok a _ ea)
  exact PySem.W.kia_one PySem.W.kitx_list I.kIn ⟨_,h1,rfl⟩ e (λz=>nomatch z) h
 | @tup a xs ea=>
  cases (show u=Value.ref a from rx)
  obtain ⟨_,_,_,p⟩:=(show xk X.prog X.w H s.heap a (.tup xs) from I.hok a _ ea)
  obtain ⟨o,h1,h2,_⟩:=p
  exact PySem.W.kia_one PySem.W.kitx_tuple I.kIn ⟨o,h1,h2⟩ e (λz=>nomatch z) h
 | @dK a kvs ea=>
  cases (show u=Value.ref a from rx)
  obtain ⟨_,_,vs,_,p⟩:=(show xk X.prog X.w H s.heap a (.dK kvs) from I.hok a _ ea)
  obtain ⟨o,es,ep,h1,h2,_⟩:=p
  exact PySem.W.kia_one PySem.W.kitx_dict I.kIn ⟨o,h1,h2.1⟩ e (λz=>nomatch z) h
 | @dT a kvs ea=>
  cases (show u=Value.ref a from rx)
  obtain ⟨_,_,xs,_,o,es,ep,h1,h2,_⟩:=(show xk X.prog X.w H s.heap a (.dT kvs) from I.hok a _ ea)
  exact PySem.W.kia_one PySem.W.kitx_dict I.kIn ⟨o,h1,h2.1⟩ e (λz=>nomatch z) h
 | @ins a C dx fs ea cl ha hn htk hm=>
  cases (show u=Value.ref a from rx)
  obtain ⟨mA,O,_⟩:=Xc I.hok ea
  obtain ⟨od,J,_⟩:=O.look
  exact PySem.W.kia_one (PySem.W.kitx_own (cl.get _) cl.hd ha hn htk hm) I.kIn J e (λz=>nomatch z) h
end
end L2
namespace L2
open PySem PySem.Spec PyProof.Rows
structure zW (k:Nat) (A:Around):Prop where
 hd:A.handled=none
 dp:A.depth + 3 * k + 5 < recursionLimit
 un:A.units + 16 * k + 200 < cLine
theorem zW.mono {j k:Nat} {A:Around} (r:zW k A) (h:j<=k):zW j A:=⟨r.hd,by have:=r.dp; omega,by have:=r.un; omega⟩
theorem zW.deeper {k:Nat} {A:Around} (r:zW (k + 1) A) (env:Env):zW k (A.deeper env):=
 ⟨r.hd,by have:=r.dp; show A.depth + 1 + 3 * k + 5 < _; omega,by have:=r.un; show A.units + 3 + 16 * k + 200 < _; omega⟩
theorem zW.in1 {k:Nat} {A:Around} (r:zW (k + 1) A):zW k A.in1:=
 ⟨r.hd,by have:=r.dp; show A.depth + 3 * k + 5 < _; omega,by have:=r.un; show A.units + 1 + 16 * k + 200 < _; omega⟩
theorem zKB {A:Around} {C:Addr} {us:List Value} {kw:List (Str × Value)}:(A.under (.builtin "type.__call__" ⟨.ref C :: us,kw⟩)).depth=A.depth + 1:=by
 first | rfl | simp [Around.under,Code.weight,Code.isCreation,Code.isGuard,Code.isCaller,Code.frames,Code.isFrame,guardIds]
theorem zKA {A:Around} {C:Addr} {us:List Value} {kw:List (Str × Value)}:(A.under (.builtin "type.__call__" ⟨.ref C :: us,kw⟩)).units=A.units + 1:=by
 first | rfl | simp [Around.under,Code.cUnits,Code.frames,Code.isFrame]
theorem zW.make {k:Nat} {A:Around} (r:zW (k + 1) A) (C:Addr) (us:List Value) (kw:List (Str × Value)):zW k (A.under (.builtin "type.__call__" ⟨.ref C :: us,kw⟩)):=
 ⟨r.hd,by have:=r.dp; rw [zKB]; omega,by have:=r.un; rw [zKA]; omega⟩
theorem zW.depth {k:Nat} {A:Around} (r:zW k A):A.depth < recursionLimit:=by have:=r.dp; omega
theorem zW.units {k:Nat} {A:Around} (r:zW k A):A.units + 64 < cLine:=by have:=r.un; omega
def wW:TA:=λ_ H Q=>Q [] H
def uB (ta:TE) (tr:TA):TA:=λσ H Q=>ta σ H λx H1=>tr σ H1 λxs H2=>Q (x :: xs) H2
section
variable {X:Cx} {e:Expr} {es:List Expr} {te:TE} {t:TA} {pos:Pos}
theorem yf:PA X [] wW:=λ_ _ _ _ H Q I h=>Calls.spliced_nil ⟨[],H,I,.nil,h⟩
theorem zz (ha:PE X e te) (hr:PA X es t) (hs:starEach (e :: es) X.env=(false,eval e X.env) :: starEach es X.env:=by rfl):PA X (e :: es) (uB te t):=by
 intro pos pins s σ H Q I h
 rw [hs]
 show wpAny _ _ (spliced ((false,eval e X.env) :: backTo pos (starEach es X.env))) _ _ s
 refine Calls.spliced_cons (zm (ha pins s σ H _ I h) λu s1 ⟨x,H1,I1,r1,q1⟩=>?_)
 exact zm (hr pos pins s1 σ H1 _ I1 q1) λus s2 ⟨xs,H2,I2,r2,q2⟩=>⟨x :: xs,H2,I2,.cons r1 r2,q2⟩
def W9 (t:TA):TE:=λσ H Q=>t σ H λxs H1=>xs.length<=sizeLine/\∀ p,H1 p=none->Q (.ref p) (zb H1 p (.tup xs))
def ki (t:TA):TE:=λσ H Q=>t σ H λxs H1=>xs.length<=sizeLine/\∀ p,H1 p=none->Q (.ref p) (zb H1 p (.lst xs))
theorem zQw {x1} (h:PA X es t):PE X (.Tuple es x1 pos) (W9 t):=by
 intro pins s σ H Q I hq
 refine wpAny_Tuple_spliced (zm (h pos pins s σ H _ I hq) λus s1 ⟨xs,H1,I1,r,z,q⟩=>⟨by rw [<- r.length]; exact z,?_⟩)
 have hf:H1 s1.heap.objs.size=none:=I1.hok.fresh (Nat.le_refl _)
 refine ⟨.ref s1.heap.objs.size,zb H1 s1.heap.objs.size (.tup xs),I1.laid (t':=s1.toks) (λb u e=>Heap.get?_push_of_some _ e) (Nat.le_refl _) ?_,rfl,q _ hf⟩
 exact ⟨z,us,r,⟨_,Heap.get?_push_size _ rfl,rfl,_,rfl⟩⟩
theorem UA (h:PA X es t):PE X (.List es pos) (ki t):=by
 intro pins s σ H Q I hq
 refine wpAny_List_spliced (zm (h pos pins s σ H _ I hq) λus s1 ⟨xs,H1,I1,r,z,q⟩=>⟨by rw [<- r.length]; exact z,?_⟩)
 have hf:H1 s1.heap.objs.size=none:=I1.hok.fresh (Nat.le_refl _)
 refine ⟨.ref s1.heap.objs.size,zb H1 s1.heap.objs.size (.lst xs),I1.laid (t':=s1.toks) (λb u e=>Heap.get?_push_of_some _ e) (Nat.le_refl _) ?_,rfl,q _ hf⟩
 exact ⟨z,us,0,r,Heap.get?_push_size _ rfl⟩
end
abbrev Sp:=List V->Hp->VK->XK->Prop
abbrev vk:=List Env->Hp->Shared->XK->Value->Shared->Prop
structure xw (P:Program) (w:World) (K:PySem.W.Frag) (mg:Str->Option Value) (base:Heap) (A:Around) (outer:List Env) (s:Shared) (H:Hp):Prop where
 frames:A.frames=some outer
 mod:Mod K mg base
 bs:∀ b o,base.get? b=some o->s.heap.get? b=some o/\H b=none
 bsz:base.objs.size<=s.heap.objs.size
 funs:s.heap.FunFrames base outer
 frf:∀ b∈xH outer,H b=none
 hok:xD P w H s.heap
 bare:AllBare s.gens
def CE (outer:List Env) (P:Program) (w:World) (H:Hp) (s:Shared) (Q:VK) (u:Value) (s':Shared):Prop:=
 ∃ v H',s'.os=s.os/\AllBare s'.gens/\Un (xH outer) [] H H' s.heap s'.heap/\xD P w H' s'.heap/\zU v u/\Q v H'
def CR (CX:vk) (outer:List Env) (P:Program) (w:World) (H:Hp) (s:Shared) (Q:VK) (E:XK) (r:Result) (s':Shared):Prop:=
 match r with
 | .ok (.ret u)=>CE outer P w H s Q u s'
 | .ok _=>False
 | .error e=>CX outer H s E e s'
structure zF (P:Program) (w:World) (K:PySem.W.Frag) (mg:Str->Option Value) (base:Heap) (CX:vk) (k:Nat) (f:Addr) (fd:FuncData) (ps:List Str) (sp:Sp):Prop where
 len:∀ vs H Q E,sp vs H Q E->vs.length=ps.length
 run:∀ (A:Around) (outer:List Env) (s:Shared) (H:Hp) (args:Args) (us:List Value) (vs:List V) (Q:VK) (E:XK),zW k A->xw P w K mg base A outer s H->BindsTo s fd args (ps.zip us)->zM vs us->sp vs H Q E->
  codeAny (model P w) A (.call (.ref f) args) (CR CX outer P w H s Q E) s
theorem zF.mono {P:Program} {w:World} {K:PySem.W.Frag} {mg:Str->Option Value} {base:Heap} {CX:vk} {j k:Nat} {f:Addr} {fd:FuncData} {ps:List Str} {sp:Sp} (F:zF P w K mg base CX j f fd ps sp) (h:j<=k) :
  zF P w K mg base CX k f fd ps sp:=⟨F.len,λA outer s H args us vs Q E hr=>F.run A outer s H args us vs Q E (hr.mono h)⟩
theorem xw.make {P:Program} {w:World} {K:PySem.W.Frag} {mg:Str->Option Value} {base:Heap} {A:Around} {outer:List Env} {s:Shared} {H:Hp} (e:xw P w K mg base A outer s H) (C:Addr) (us:List Value) (kw:List (Str × Value)) :
  xw P w K mg base (A.under (.builtin "type.__call__" ⟨.ref C :: us,kw⟩)) outer s H:=⟨by first | exact e.frames | (simpa [Around.under,Code.envs,Code.isFrame,pushEnvs] using e.frames),e.mod,e.bs,e.bsz,e.funs,e.frf,e.hok,e.bare⟩
theorem xw.in1 {P:Program} {w:World} {K:PySem.W.Frag} {mg:Str->Option Value} {base:Heap} {A:Around} {outer:List Env} {s:Shared} {H:Hp} (e:xw P w K mg base A outer s H) :
  xw P w K mg base A.in1 outer s H:=⟨e.frames,e.mod,e.bs,e.bsz,e.funs,e.frf,e.hok,e.bare⟩
section
variable {X:Cx} {pins:List (Addr × Obj)} {σ:St} {H:Hp} {s s':Shared}
theorem zE.env0 (I:zE X pins σ H s):xw X.prog X.w X.K X.mg X.base X.A X.stack s H:=
 ⟨I.ok.frames,I.ok.mod,I.bs,Nat.le_trans I.ok.bsz I.sz,I.stack,I.stkFree,I.hok,I.bare⟩
theorem zE.after {Q:VK} {u:Value} (I:zE X pins σ H s) (h:CE X.stack X.prog X.w H s Q u s'):EP X pins σ Q u s':=by
 obtain ⟨v,H',os,bare,un,hok,r,q⟩:=h
 obtain ⟨hh,g,d,t,os'⟩:=s'
 obtain rfl:os'=s.os:=os
 exact ⟨v,H',I.call (h':=hh) (g':=g) (d':=d) (t':=t) (ch:=[]) un hok bare (λb z=>absurd z (by simp)),r,q⟩
end
def qM (sp:Sp) (dvs:List V) (E:XK) (t:TA):TE:=λσ H Q=>t σ H λvs H1=>sp (vs++dvs) H1 Q E
def zQR (C:Addr) (m:Str) (sp:Sp) (dvs:List V) (E:XK) (ta:TE) (t:TA):TE:=λσ H Q=>ta σ H λx H1=>∃ a dx fs,x=.ref a/\H1 a=some (.ins C dx fs)/\fs.lookup m=none∧
 t σ H1 λvs H2=>sp (x :: (vs++dvs)) H2 Q E
def Xd (C:Addr) (sp:Sp) (dvs:List V) (E:XK) (t:TA):TE:=λσ H Q=>t σ H λvs H1=>∀ x dx,H1 x=none->H1 dx=none->dx≠x->
 sp (.ref x :: (vs++dvs)) (zb (zb H1 dx (.own x)) x (.ins C dx [])) (λv H2=>v=.non/\Q (.ref x) H2) E
def vA (K:PySem.W.Frag) (fd:FuncData) (ps:List Str) (ds:List Value):Prop:=
 ∀ (s:Shared) (us:List Value),K.In s.heap->(us++ds).length=ps.length->BindsTo s fd ⟨us,[]⟩ (ps.zip (us++ds))
theorem vA.all {K:PySem.W.Frag} {fd:FuncData} {ps:List Str} (h:∀ us:List Value,us.length=ps.length->bindArgs fd ⟨us,[]⟩=pure (ps.zip us)):vA K fd ps []:=λs us _ hl=>by
 rw [List.append_nil] at hl |-
 exact .of_eq (h us hl)
def qN (CX:vk) (X:Cx) (E:XK):Prop:=∀ (pins:List (Addr × Obj)) (σ:St) (H:Hp) (s:Shared) (e:Value) (s':Shared),zE X pins σ H s->CX X.stack H s E e s'->X.xe e s'
section
variable {X:Cx} {CX:vk} {k:Nat} {f C:Addr} {fd:FuncData} {ps:List Str} {sp:Sp} {dvs:List V} {ds:List Value} {E:XK} {x m:Str} {p pos apos:Pos} {e o:Expr} {es:List Expr} {ta:TE} {t:TA}
theorem zN3 {pins:List (Addr × Obj)} {σ:St} {H:Hp} {s:Shared} {Q:VK} {us:List Value} {vs:List V} (F:zF X.prog X.w X.K X.mg X.base CX k f fd ps sp) (hr:zW k X.A) (hb:vA X.K fd ps ds) (hd:zM dvs ds) (hx:qN CX X E)
  (I:zE X pins σ H s) (r:zM vs us) (h:sp (vs++dvs) H Q E):wpAny (model X.prog X.w) X.A (call (.ref f) us) (EP X pins σ Q) X.xe s:=by
 have r2:zM (vs++dvs) (us++ds):=r.append hd
 have hl:(us++ds).length=ps.length:=by rw [<- r2.length]; exact F.len _ _ _ _ h
 refine wpAny_call (codeAny_mono (F.run X.A X.stack s H ⟨us,[]⟩ (us++ds) (vs++dvs) Q E hr I.env0 (hb s us I.kIn hl) r2 h) λr s' hq=>?_)
 cases r with
 | error e=>exact hx pins σ H s e s' I hq
 | ok fl=>
  cases fl with
  | ret u=>exact I.after hq
  | next=>exact False.elim hq
  | brk=>exact False.elim hq
  | cont=>exact False.elim hq
theorem UB (F:zF X.prog X.w X.K X.mg X.base CX k f fd ps sp) (hr:zW k X.A) (hg:Gl X x) (hm:X.mg x=some (.ref f)) (hk:PySem.W.keepIn X.K (.ref f)=true) (hb:vA X.K fd ps ds) (hd:zM dvs ds) (hx:qN CX X E)
  (ha:PA X (e :: es) t) (hdb:(x == ("__debug__" : Str))=false:=by decide) (he:starEach (e :: es) X.env=(false,eval e X.env) :: starEach es X.env:=by rfl) (hpl:(backTo pos (starEach es X.env)).any (·.1)=false:=by rfl) :
  PE X (.Call (.Name x p) (e :: es) [] pos) (qM sp dvs E t):=by
 intro pins s σ H Q I h
 refine wpAny_Call_Name_kw (gL I hg hm ?_ hdb)
 refine PySem.W.callWith_K (h₀:=X.base) I.ok.mod.kin hk (zm (ha pos pins s σ H _ I h) λus s1 ⟨vs,H1,I1,r,q⟩=>⟨I1.kIn,?_⟩) he hpl
 exact zN3 F hr hb hd hx I1 r q
theorem zMw {pl:Sem Bool} (he:PE X o ta) (c:uQ X.K C) (hm:qL X.K C m f) (F:zF X.prog X.w X.K X.mg X.base CX k f fd ps sp) (hr:zW k X.A) (hb:vA X.K fd ps ds) (hd:zM dvs ds) (hx:qN CX X E)
  (ht:eval (.Call (.Attribute o m apos) [] [] pos) X.env=(do
   let ov <- eval o X.env
   standAt apos.atName
   let (f,first) <- holding [ov] (getMethod ov m pl)
   callWith pos f first (backTo pos (starEach [] X.env)) (backToKw pos (keywordEach [] X.env))):=by rfl) :
  PE X (.Call (.Attribute o m apos) [] [] pos) (zQR C m sp dvs E ta wW):=by
 intro pins s σ H Q I h
 refine PySem.W.methodCall_KW (pl:=pl) (zm (he pins s σ H _ I h) λu s1 ⟨x,H1,I1,rx,a,dx,fs,ex,ea,l,q⟩=>?_) ht
 subst ex
 obtain rfl:u=Value.ref a:=rx
 refine zKC I1 ea c hm l ?_
 exact PySem.W.callWith_K0 (first:=[.ref a]) I1.kIn hm.kp (zN3 (us:=[.ref a]) (vs:=[.ref a]) F hr hb hd hx I1 (.cons rfl .nil) q)
structure Mk (K:PySem.W.Frag) (C f:Addr):Prop where
 makes:PySem.W.makesIn K C=true
 init:PySem.W.findIn K (.ref C) "__init__" = some (some (.ref f))
 fn:PySem.W.isFn K (.ref f)=true
 kp:PySem.W.keepIn K (.ref C)=true
theorem zMi {pins:List (Addr × Obj)} {σ:St} {H:Hp} {s:Shared} {Q:VK} {us:List Value} {vs:List V} (M:Mk X.K C f) (F:zF X.prog X.w X.K X.mg X.base CX k f fd ps sp) (hr:zW (k + 1) X.A) (hb:vA X.K fd ps ds) (hd:zM dvs ds)
  (hx:qN CX X E) (I:zE X pins σ H s) (r:zM vs us)
  (h:∀ x dx,H x=none->H dx=none->dx≠x->sp (.ref x :: (vs++dvs)) (zb (zb H dx (.own x)) x (.ins C dx [])) (λv H2=>v=.non/\Q (.ref x) H2) E) :
  wpAny (model X.prog X.w) X.A (call (.ref C) us) (EP X pins σ Q) X.xe s:=by
 have hq:=h (s.heap.objs.size + 1) s.heap.objs.size (I.hok.fresh (Nat.le_succ _)) (I.hok.fresh (Nat.le_refl _)) (Nat.ne_of_lt (Nat.lt_succ_self _))
 have I2:=zE.made (C:=C) I
 have r2:zM (V.ref (s.heap.objs.size + 1) :: (vs++dvs)) (Value.ref (s.heap.objs.size + 1) :: (us++ds)):=.cons rfl (r.append hd)
 have hl:(Value.ref (s.heap.objs.size + 1) :: us++ds).length=ps.length:=by
  have e:=r2.length
  rw [F.len _ _ _ _ hq] at e
  exact e.symm
 refine wpAny_call (zNK (f:=f) I.kIn M.makes M.init (beq_iff_eq.mp M.fn) (codeAny_mono (F.run _ X.stack _ _ ⟨Value.ref (s.heap.objs.size + 1) :: us,[]⟩ (Value.ref (s.heap.objs.size + 1) :: (us++ds)) _ _ E (hr.make C us [])
  (I2.env0.make C us []) (hb _ (Value.ref (s.heap.objs.size + 1) :: us) I2.kIn hl) r2 hq) λr s' hq'=>?_))
 cases r with
 | error e=>exact hx pins σ _ _ e s' I2 hq'
 | ok fl=>
  cases fl with
  | ret u=>
   obtain ⟨v,H',I3,rv,ev,q3⟩:=I2.after hq'
   subst ev
   exact ⟨rv,⟨V.ref (s.heap.objs.size + 1),H',I3,rfl,q3⟩⟩
  | next=>exact False.elim hq'
  | brk=>exact False.elim hq'
  | cont=>exact False.elim hq'
theorem zPB (M:Mk X.K C f) (F:zF X.prog X.w X.K X.mg X.base CX k f fd ps sp) (hr:zW (k + 1) X.A) (hg:Gl X x) (hm:X.mg x=some (.ref C)) (hb:vA X.K fd ps ds) (hd:zM dvs ds) (hx:qN CX X E)
  (ha:PA X (e :: es) t) (hdb:(x == ("__debug__" : Str))=false:=by decide) (he:starEach (e :: es) X.env=(false,eval e X.env) :: starEach es X.env:=by rfl) (hpl:(backTo pos (starEach es X.env)).any (·.1)=false:=by rfl) :
  PE X (.Call (.Name x p) (e :: es) [] pos) (Xd C sp dvs E t):=by
 intro pins s σ H Q I h
 refine wpAny_Call_Name_kw (gL I hg hm ?_ hdb)
 refine PySem.W.callWith_K (h₀:=X.base) I.ok.mod.kin M.kp (zm (ha pos pins s σ H _ I h) λus s1 ⟨vs,H1,I1,r,q⟩=>⟨I1.kIn,?_⟩) he hpl
 exact zMi M F hr hb hd hx I1 r q
end
section
variable {X:Cx} {CX:vk} {k:Nat} {f C:Addr} {fd:FuncData} {ps ks:List Str} {sp:Sp} {E:XK} {x m:Str} {p pos apos kpos:Pos} {e o:Expr} {es:List Expr} {kws:List Keyword} {te ta:TE} {t tk:TA} {nm:Option Str}
variable {g:List Value->List Value->List Value} {gV:List V->List V->List V}
end
structure zX (N P:List Str) (sc:Scope):Prop where
 kind:sc.kind=.function
 co:sc.isCoroutine=false
 gen:sc.isGenerator=false
 nd:N.Nodup
 pre:N.take P.length=P
 par:∀ x∈P,sc.names.lookup x=some .local\/sc.names.lookup x=some .cell
 nofree:∀ y∈sc.names,y.2≠.free
theorem zX.a {N P:List Str} {s:Scope} (a:s.kind=.function:=by rfl) (b:s.isCoroutine=false:=by rfl) (c:s.isGenerator=false:=by rfl) (d:N.Nodup:=by decide +kernel) (e:N.take P.length=P:=by rfl) (f:∀ x∈P,s.names.lookup x=some .local\/s.names.lookup x=some .cell:=by decide +kernel) (g:∀ y∈s.names,y.2≠.free:=by decide +kernel):zX N P s:=⟨a,b,c,d,e,f,g⟩
theorem zH5 {kindOf:Str->Option NameKind} {x:Str}:∀ {binds:List (Str × Value)} {m:Str->Option Value},(∀ v,(x,v)∉binds)->bindL kindOf binds m x=m x
 | [],_,_=>rfl
 | (n,v) :: r,m,h=>by
  unfold bindL
  rw [zH5 λw hw=>h w (List.mem_cons_of_mem _ hw)]
  split
  ·have:x≠n:=by rintro rfl; exact h v List.mem_cons_self
   simp [this]
  ·rfl
theorem zH7 {kindOf:Str->Option NameKind} {x:Str}:∀ {binds:List (Str × Value)} {m:Str->Option Value},(∀ v,(x,v)∉binds)->bindC kindOf binds m x=m x
 | [],_,_=>rfl
 | (n,v) :: r,m,h=>by
  unfold bindC
  rw [zH7 λw hw=>h w (List.mem_cons_of_mem _ hw)]
  split
  ·rfl
  ·have:x≠n:=by rintro rfl; exact h v List.mem_cons_self
   simp [this]
theorem zH6 {kindOf:Str->Option NameKind} {x:Str} {v:Value}:∀ {P:List Str} {vs:List Value} {i:Nat} {m:Str->Option Value},P.Nodup->P[i]? = some x->vs[i]? = some v->kindOf x=some .local->
  bindL kindOf (P.zip vs) m x=some v
 | [],_,_,_,_,h,_,_=>by simp at h
 | _ :: _,[],_,_,_,_,h,_=>by simp at h
 | p :: P,w :: vs,0,m,nd,h1,h2,hk=>by
  simp at h1 h2; subst h1; subst h2
  show bindL kindOf ((p,w) :: P.zip vs) m p=_
  unfold bindL
  rw [zH5 λv hv=>(List.nodup_cons.mp nd).1 (List.of_mem_zip hv).1,if_pos hk]
  simp
 | p :: P,w :: vs,i + 1,m,nd,h1,h2,hk=>by
  show bindL kindOf ((p,w) :: P.zip vs) m x=_
  unfold bindL
  exact zH6 (i:=i) (List.nodup_cons.mp nd).2 (by simpa using h1) (by simpa using h2) hk
theorem zH8 {kindOf:Str->Option NameKind} {x:Str} {v:Value}:∀ {P:List Str} {vs:List Value} {i:Nat} {m:Str->Option Value},P.Nodup->P[i]? = some x->vs[i]? = some v->kindOf x≠some .local->
  bindC kindOf (P.zip vs) m x=some v
 | [],_,_,_,_,h,_,_=>by simp at h
 | _ :: _,[],_,_,_,_,h,_=>by simp at h
 | p :: P,w :: vs,0,m,nd,h1,h2,hk=>by
  simp at h1 h2; subst h1; subst h2
  show bindC kindOf ((p,w) :: P.zip vs) m p=_
  unfold bindC
  rw [zH7 λv hv=>(List.nodup_cons.mp nd).1 (List.of_mem_zip hv).1,if_neg hk]
  simp
 | p :: P,w :: vs,i + 1,m,nd,h1,h2,hk=>by
  show bindC kindOf ((p,w) :: P.zip vs) m x=_
  unfold bindC
  exact zH8 (i:=i) (List.nodup_cons.mp nd).2 (by simpa using h1) (by simpa using h2) hk
def wN (N:List Str) (vs:List V):St:=vs.map some++List.replicate (N.length - vs.length) none
def za (CX:vk) (P:Program) (w:World) (K:PySem.W.Frag) (mg:Str->Option Value) (base:Heap) (N:List Str) (qual:Str) (scope:Scope) (f:Addr) (cd:Value) (A:Around) (outer:List Env) (s:Shared) (H:Hp) (E:XK):Cx where
 prog:=P
 w:=w
 K:=K
 mg:=mg
 base:=base
 A:=A.deeper (envOfC qual scope s.heap.objs.size f cd)
 N:=N
 s₀:=s
 H₀:=H
 env:=envOfC qual scope s.heap.objs.size f cd
 outer:=outer
 stack:=envOfC qual scope s.heap.objs.size f cd :: outer
 ex:=[]
 calm:=true
 fn:=λ_=>true
 pn:=[]
 xe:=λe s'=>wpAny (model P w) (A.deeper (envOfC qual scope s.heap.objs.size f cd)) (leaving (envOfC qual scope s.heap.objs.size f cd) e) (λ_ s''=>CX outer H s E e s'') (λe' s''=>CX outer H s E e' s'') s'
theorem zJZ {sc:Scope} {n:Nat} {x:Str} (h:sc.names.lookup x=some .cell):∃ c,(cellsFrom n sc.names []).lookup x=some c:=by
 have q:=PySem.W.cellsFrom_some sc.names n [] (.inl h)
 exact Option.isSome_iff_exists.mp q
theorem zLd {CX:vk} {P:Program} {w:World} {K:PySem.W.Frag} {mg:Str->Option Value} {base:Heap} {N ps:List Str} {qual:Str} {scope:Scope} {f:Addr} {cd:Value} {A:Around} {outer:List Env} {s s1:Shared} {H:Hp} {E:XK} {us:List Value} {vs:List V}
  (S:zX N ps scope) (hd:A.handled=none) (e0:xw P w K mg base A outer s H) (hl:vs.length=ps.length) (r:zM vs us)
  (x:InCallC s s.heap.objs.size (bindL (envOfC qual scope s.heap.objs.size f cd).kindOf (ps.zip us) λ_=>none) (cellsFrom (s.heap.objs.size + 1) scope.names []) (bindC (envOfC qual scope s.heap.objs.size f cd).kindOf (ps.zip us) λ_=>none) s1) :
  zE (za CX P w K mg base N qual scope f cd A outer s H E) [] (wN N vs) H s1:=by
 have hpl:ps.length<=N.length:=by have:=congrArg List.length S.pre; rw [List.length_take] at this; omega
 obtain ⟨h1,tk,rfl,hk⟩:=x.done
 have noA:∀ b:Addr,b∉(za CX P w K mg base N qual scope f cd A outer s H E).ex:=λb z=>absurd (show b∈([]:List Addr) from z) (by simp)
 refine ⟨⟨e0.mod,S.kind,rfl,rfl,Nat.le_refl _,λy z c h1 h2=>?_,λy hy=>?_,λy c _ h=>?_,λ_=>hd,Around.frames_deeper e0.frames,.inr ⟨rfl,rfl⟩,λb z=>absurd z (noA b),e0.bs,e0.bsz,λb _ _=>noA b,λb z=>absurd z (noA b),e0.funs,e0.frf⟩,
  rfl,e0.bare,Un.kept hk,⟨_,x.toInCall.ns,λi y v h1 h2 h3=>?_⟩,λy c h=>⟨_,x.cell y c h⟩,e0.hok.fresh (Nat.le_refl _),λy c h=>?_,λp hp=>absurd (show p∈([]:List (Addr × Obj)) from hp) (by simp),e0.hok.kept hk,?_⟩
 ·exact name_of_addr x.apart (PySem.mem_of_lookup h1) (PySem.mem_of_lookup h2)
 ·have hy:scope.names.lookup y=some .cell\/scope.names.lookup y=some .free:=hy
  rcases hy with hy | hy
  ·exact zJZ hy
  ·exact absurd rfl (S.nofree _ (PySem.mem_of_lookup hy))
 ·exact Nat.le_of_lt (x.above y c (PySem.mem_of_lookup h))
 ·have hi:i < vs.length:=by
   unfold wN at h2
   by_cases hi:i < vs.length
   ·exact hi
   ·rw [List.getElem?_append_right (by simpa using hi)] at h2
    rw [List.getElem?_replicate] at h2
    split at h2 <;> cases h2
  have ha:vs[i]? = some v:=by
   unfold wN at h2
   rw [List.getElem?_append_left (by simpa using hi),List.getElem?_map] at h2
   cases e:vs[i]? with
   | none=>rw [e] at h2; cases h2
   | some a=>rw [e] at h2; cases h2; rfl
  obtain ⟨u,hu,rv⟩:=r.get ha
  have hp:ps[i]? = some y:=by
   rw [<- S.pre,List.getElem?_take_of_lt (by omega)]; exact h1
  have ndP:ps.Nodup:=by rw [<- S.pre]; exact S.nd.sublist (List.take_sublist _ _)
  refine ⟨u,rv,?_⟩
  rcases S.par y (List.mem_of_getElem? hp) with k | k
  ·exact .inl ⟨k,zH6 ndP hp hu k⟩
  ·obtain ⟨c,e⟩:=zJZ (n:=s.heap.objs.size + 1) k
   refine .inr ⟨.inl k,c,e,?_⟩
   have q:=x.cell y c e
   rw [zH8 ndP hp hu (by show scope.names.lookup y≠_; rw [k]; decide)] at q
   exact q
 ·exact e0.hok.fresh (Nat.le_of_lt (x.above y c (PySem.mem_of_lookup h)))
 ·unfold wN
  show _=N.length
  rw [List.length_append,List.length_map,List.length_replicate]
  omega
theorem Xe {CX:vk} {P:Program} {w:World} {K:PySem.W.Frag} {mg:Str->Option Value} {base:Heap} {k:Nat} {f:Addr} {name qual:Str} {params:Arguments} {body:List Stmt} {scope:Scope} {dV kV doc pm cdv ct oc:Value} {an od:Option Addr}
  {osl:Array (Option Value)} {N ps:List Str} {sp:Sp} (lk:K.lookup f=some ⟨oc,od,.func (PySem.W.fnOf name qual params body scope dV kV doc pm an cdv ct),osl⟩) (hcd:PySem.W.codeIn K cdv qual=true) (S:zX N ps scope)
  (len:∀ vs H Q E,sp vs H Q E->vs.length=ps.length)
  (hbody:∀ (A:Around) (outer:List Env) (s:Shared) (H:Hp) (vs:List V) (Q:VK) (E:XK),zW k (A.deeper (envOfC qual scope s.heap.objs.size f cdv))->sp vs H Q E->
   ∃ t,yq (za CX P w K mg base N qual scope f cdv A outer s H E) body t/\t { nx:=λ_ H'=>Q .non H',rt:=Q } (wN N vs) H) :
  zF P w K mg base CX (k + 1) f (PySem.W.fnOf name qual params body scope dV kV doc pm an cdv ct) ps sp:=by
 refine ⟨len,λA outer s H args us vs Q E hr e0 hb r hsp=>?_⟩
 have hl:=len _ _ _ _ hsp
 have KX:K.In s.heap:=e0.mod.kin.keeps λb o e=>(e0.bs b o e).1
 have lim:s.heap.NoLimit:=e0.mod.nolimit.keeps λb o e=>(e0.bs b o e).1
 have hkind:∀ y∈ps.zip us,scope.names.lookup y.1=some .local\/(scope.names.lookup y.1=some .cell/\((cellsFrom (s.heap.objs.size + 1) scope.names []).lookup y.1).isSome=true):=λ⟨n,v⟩ hy=>by
  rcases S.par n (List.of_mem_zip hy).1 with q | q
  ·exact .inl q
  ·exact .inr ⟨q,PySem.W.cellsFrom_some _ _ _ (.inl q)⟩
 refine codeAny_call_function hr.depth (KX _ _ lk) rfl S.co S.gen rfl (PySem.W.codeRec_of KX hcd) (hb _ _ _ _ ?_)
 refine wpAny_newFunctionEnv_cells S.kind hkind λenv he s1 x=>?_
 subst he
 refine ⟨lim.keeps x.toInCall.keep,codeAny_func ?_⟩
 obtain ⟨t,ht,hq⟩:=hbody A outer s H vs Q E (hr.deeper _) hsp
 have I:zE (za CX P w K mg base N qual scope f cdv A outer s H E) [] (wN N vs) H s1:=zLd S hr.hd e0 hl r x
 refine wpAny_mono (ht [] s1 (wN N vs) H _ I hq) (λfl s' hs=>?_) λe s' hs=>hs
 have fin:∀ {σ':St} {H':Hp} {v:V} {u:Value},zE (za CX P w K mg base N qual scope f cdv A outer s H E) [] σ' H' s'->zU v u->Q v H'->CE outer P w H s Q u s':=
  λ{σ' H' v u} J rv q=>⟨v,H',J.os,J.bare,J.base,J.hok,rv,q⟩
 cases fl with
 | ret u=>
  obtain ⟨v,σ',H',J,rv,q⟩:=hs
  exact fin J rv q
 | next=>
  obtain ⟨σ',H',J,q⟩:=hs
  exact fin (v:=V.non) (u:=Value.none) J rfl q
 | brk=>
  obtain ⟨_,_,_,q⟩:=hs
  exact False.elim q
 | cont=>
  obtain ⟨_,_,_,q⟩:=hs
  exact False.elim q
end L2
namespace L2
open PySem PySem.Spec PyProof.Rows
section
variable {X:Cx} {x:Str} {p pos:Pos} {e:Expr} {es:List Expr} {t:TA} {id T:String} {r:List V->Hp->VK->Prop}
def qO (r:List V->Hp->VK->Prop) (t:TA):TE:=λσ H Q=>t σ H λvs H1=>r vs H1 Q
theorem wX (hc:wM X (.builtin id) r) (hg:Gl X x) (hm:X.mg x=none) (hv:bootBuiltins x=some (.builtin id)) (ha:PA X (e :: es) t) (hn:x≠"__name__":=by decide) (hdb:(x == ("__debug__" : Str))=false:=by decide)
  (he:starEach (e :: es) X.env=(false,eval e X.env) :: starEach es X.env:=by rfl) (hpl:(backTo pos (starEach es X.env)).any (·.1)=false:=by rfl):PE X (.Call (.Name x p) (e :: es) [] pos) (qO r t):=by
 intro pins s σ H Q I h
 refine wpAny_Call_Name_kw (jm I hg hm hv ?_ hn hdb)
 exact PyProof.Rows.callWith_builtin1 (zm (ha pos pins s σ H _ I h) λus s1 ⟨vs,H1,I1,r1,q1⟩=>hc pins s1 σ H1 vs us Q I1 r1 q1) he hpl
theorem Xf (hc:wM X (.type T) r) (hg:Gl X x) (hm:X.mg x=none) (hv:bootBuiltins x=some (.type T)) (ha:PA X (e :: es) t) (hn:x≠"__name__":=by decide) (hdb:(x == ("__debug__" : Str))=false:=by decide)
  (he:starEach (e :: es) X.env=(false,eval e X.env) :: starEach es X.env:=by rfl) (hpl:(backTo pos (starEach es X.env)).any (·.1)=false:=by rfl):PE X (.Call (.Name x p) (e :: es) [] pos) (qO r t):=by
 intro pins s σ H Q I h
 refine wpAny_Call_Name_kw (jm I hg hm hv ?_ hn hdb)
 exact PyProof.Rows.callWith_type1 (zm (ha pos pins s σ H _ I h) λus s1 ⟨vs,H1,I1,r1,q1⟩=>hc pins s1 σ H1 vs us Q I1 r1 q1) he hpl
end
end L2
namespace HT
open PySem PyProof.Rows
section
open PySem.SeqAt
open PySem.AutoSeq1 (wpAny_loadPart')
open PySem.MeetsSeq PySem.MeetsSeq2 PySem.MeetsSeq3
end
section
variable {prog:Program} {w:World} {A:Around} {E:Value->Shared->Prop} {s:Shared}
theorem cat_tup {t b:Addr} {vs ws:List Value} {Q:Value->Shared->Prop} (ht:IsTup s.heap t vs.toArray) (hb:IsTup s.heap b ws.toArray) (hv:vs≠[])
  (h1:ws=[]->Q (.ref t) s) (h2:ws≠[]->Q (.ref s.heap.objs.size) { s with heap:=s.heap.push { cls:=.type "tuple",data:=.seq (vs++ws).toArray } })
  (hsz:vs.length + ws.length<=sizeLine):wpAny (model prog w) A (binaryOp .Add (.ref t) (.ref b)) Q E s:=by
 obtain ⟨⟨cls,dd,data,sl⟩,ho,hc,n,hd⟩:=id ht
 obtain ⟨⟨cls2,dd2,data2,sl2⟩,ho2,hc2,n2,hd2⟩:=id hb
 simp only at hc hd hc2 hd2
 subst hc hd hc2 hd2
 have e:vs.toArray++ws.toArray=(vs++ws).toArray:=by simp
 by_cases hw:ws=[]
 ·exact concat_meets ⟨_,ho,rfl⟩ ⟨_,ho2,rfl⟩ noFill_tuple_add seq_tuple_add PySem.F.slot_tuple_add PySem.F.entry_tuple_add (PySem.F.args_tuple_add_2 _ _)
   (tuple_addW1 t b vs.toArray ws.toArray n n2 dd dd2 sl sl2 (by simpa using hv) (by simp [hw])) ⟨ho,ho2,h1 hw⟩
 ·refine concat_meets ⟨_,ho,rfl⟩ ⟨_,ho2,rfl⟩ noFill_tuple_add seq_tuple_add PySem.F.slot_tuple_add PySem.F.entry_tuple_add (PySem.F.args_tuple_add_2 _ _)
   (tuple_addW2 t b vs.toArray ws.toArray n n2 dd dd2 sl sl2 (by simpa using hv) (by simpa using hw) (by rw [List.size_toArray,List.size_toArray]; exact hsz)) ⟨ho,ho2,?_⟩
  rw [e]
  exact h2 hw
def sIx (n d:Nat):Option Int->Nat
 | none=>d
 | some v=>if v < 0 then (v + (n:Int)).toNat else min v.toNat n
theorem sIx_none (n d:Nat):sIx n d none=d:=rfl
theorem sIx_nat (n d k:Nat):sIx n d (some (k:Int))=min k n:=by
 show (if (k:Int) < 0 then ((k:Int) + (n:Int)).toNat else min (k:Int).toNat n)=min k n
 rw [if_neg (by omega),Int.toNat_natCast]
theorem zQc (n d:Nat) (hd:d<=n) (o:Option Int):sIx n d o<=n:=by
 cases o with
 | none=>exact hd
 | some v=>
  show (if v < 0 then (v + (n:Int)).toNat else min v.toNat n)<=n
  by_cases hv:v < 0
  ·rw [if_pos hv]; omega
  ·rw [if_neg hv]; exact Nat.min_le_right _ _
theorem zMC (v:Int) (n d:Nat):(if v < 0 then max (v + (n:Int)) 0 else min v (n:Int))=((sIx n d (some v):Nat):Int):=by
 show (if v < 0 then max (v + (n:Int)) 0 else min v (n:Int))=(((if v < 0 then (v + (n:Int)).toNat else min v.toNat n):Nat):Int)
 by_cases hv:v < 0
 ·simp only [if_pos hv]; omega
 ·simp only [if_neg hv]; omega
theorem zKJ (lo hi:Option Int) (n:Nat):Builtin.Slice.sliceAdjust lo hi 1 (n:Int)=(((sIx n 0 lo:Nat):Int),((sIx n n hi:Nat):Int)):=by
 have h1:¬ ((1:Int) < 0):=by omega
 unfold Builtin.Slice.sliceAdjust
 simp only [h1,if_false]
 refine Prod.ext ?_ ?_
 ·cases lo with
  | none=>rfl
  | some v=>exact zMC v n 0
 ·cases hi with
  | none=>rfl
  | some v=>exact zMC v n n
theorem zJu (i j:Nat):Builtin.Slice.slicePlaces (i:Int) (j:Int) 1=j - i:=by
 unfold Builtin.Slice.slicePlaces
 have h1:(1:Int) > 0:=by omega
 simp only [h1,if_true,Int.ediv_one]
 split <;> omega
theorem zGQ {v:Value} {o:Option Int} {Q:Option Int->Shared->Prop} (p:IsPart v o) (h:Q o s):wpAny (model prog w) A (Builtin.Slice.slicePartIndex v) Q E s:=by
 cases p with
 | none=>exact slicePart_none h
 | int i t=>exact slicePart_int h
theorem zC7 {sl:Addr} {vl vu:Value} {lo hi:Option Int} {n:Nat} {Q:Int × Int × Nat->Shared->Prop} (hs:s.heap.IsSliceOf sl vl vu .none) (pl:IsPart vl lo) (pu:IsPart vu hi)
  (h:Q (((sIx n 0 lo:Nat):Int),1,sIx n n hi - sIx n 0 lo) s):wpAny (model prog w) A (Builtin.Slice.sliceApplied (.ref sl) (pure (n:Int))) Q E s:=by
 obtain ⟨os,hos,hcs,hds⟩:=id hs
 unfold Builtin.Slice.sliceApplied Builtin.Slice.sliceFields
 refine wpAny_bind (wpAny_bind (wpAny_field hos hds (x:=vl) rfl (wpAny_bind (wpAny_field hos hds (x:=vu) rfl (wpAny_bind (wpAny_field hos hds (x:=.none) rfl (wpAny_pure ?_)))))))
 refine wpAny_bind (slicePart_none ?_)
 show wpAny _ _ (if ((1:Int) == 0)=true then _ else _) _ _ s
 rw [if_neg (by decide)]
 refine wpAny_bind (zGQ pl (wpAny_bind (zGQ pu (wpAny_bind (wpAny_pure ?_)))))
 show wpAny _ _ (match Builtin.Slice.sliceAdjust lo hi 1 (n:Int) with | (lo,hi)=>pure (lo,(1:Int),Builtin.Slice.slicePlaces lo hi 1)) _ _ s
 rw [zKJ lo hi n]
 show wpAny _ _ (pure (((sIx n 0 lo:Nat):Int),(1:Int),Builtin.Slice.slicePlaces ((sIx n 0 lo:Nat):Int) ((sIx n n hi:Nat):Int) 1)) _ _ s
 rw [zJu]
 exact wpAny_pure h
theorem zMt (xs:Array Value) (i k:Nat):((List.range k).filterMap λ(m:Nat)=>xs[((i:Int) + (m:Int) * 1).toNat]?).toArray=((xs.toList.drop i).take k).toArray:=by
 have e:(λ(m:Nat)=>xs[((i:Int) + (m:Int) * 1).toNat]?)=λm=>xs[i + m]?:=by
  funext m
  have:((i:Int) + (m:Int) * 1).toNat=i + m:=by omega
  rw [this]
 rw [e]
 have:=pick_run xs i k
 rw [List.filterMap_map] at this
 have e2:((λx=>xs[x]?) ∘ λx=>i + x)=λm=>xs[i + m]?:=rfl
 rw [e2] at this
 rw [this]
theorem getItem_tuple_cut {t sl:Addr} {items:Array Value} {vl vu:Value} {lo hi:Option Int} {Q:Value->Shared->Prop} (ht:IsTup s.heap t items) (hs:s.heap.IsSliceOf sl vl vu .none) (pl:IsPart vl lo) (pu:IsPart vu hi)
  (hw:¬ (sIx items.size 0 lo=0/\sIx items.size items.size hi=items.size))
  (h:Q (.ref s.heap.objs.size) { s with heap:=s.heap.push { cls:=.type "tuple",data:=.seq ((items.toList.drop (sIx items.size 0 lo)).take (sIx items.size items.size hi - sIx items.size 0 lo)).toArray } })
  (hsz:items.size<=sizeLine):wpAny (model prog w) A (getItem (.ref t) (.ref sl)) Q E s:=by
 have htake:sizeOk (.seq ((items.toList.drop (sIx items.size 0 lo)).take (sIx items.size items.size hi - sIx items.size 0 lo)).toArray):=by
  show ((items.toList.drop (sIx items.size 0 lo)).take (sIx items.size items.size hi - sIx items.size 0 lo)).toArray.size<=sizeLine
  rw [List.size_toArray,List.length_take,List.length_drop,Array.length_toList]
  omega
 have hj:sIx items.size items.size hi<=items.size:=zQc _ _ (Nat.le_refl _) hi
 obtain ⟨os,hos,hcs,hds⟩:=id hs
 have hTs:s.TypeIs (.ref sl) "slice":=⟨os,hos,hcs⟩
 unfold getItem
 try with_reducible refine wpAny_holding ?_
 first | refine wpAny_bind (wpAny_pure ?_) | skip
 refine wpAny_bind (wpAny_sequenceKey ht.typeIs (by decide) ?_)
 refine wpAny_bind (wpAny_callSpecial?_slot (name:=Str.ofString "__getitem__") ht.typeIs PyProof.Rows.slot_tuple_getitem
  (wpAny_call_entry PyProof.Rows.slot_tuple_getitem ht.typeIs entry_tuple_getitem ?_ (args_tuple_getitem _ _)))
 show wpAny _ _ (Builtin.Tuple.tupleItemsOf (.ref t) >>= _) _ _ s
 refine wpAny_bind (tupleItemsOf_ ht ?_)
 refine wpAny_bind (wpAny_typeOf hTs ?_)
 rw [if_pos (by decide)]
 refine wpAny_bind (zC7 hs pl pu ?_)
 have hno:¬ ((((sIx items.size 0 lo:Nat):Int) == 0 && (1:Int) == 1 && (sIx items.size items.size hi - sIx items.size 0 lo) == items.size)=true):=by
  intro q
  rw [Bool.and_eq_true,Bool.and_eq_true] at q
  have q1:((sIx items.size 0 lo:Nat):Int)=0:=eq_of_beq q.1.1
  have q2:sIx items.size items.size hi - sIx items.size 0 lo=items.size:=eq_of_beq q.2
  exact hw ⟨by omega,by omega⟩
 show wpAny _ _ (if (((sIx items.size 0 lo:Nat):Int) == 0 && (1:Int) == 1 && (sIx items.size items.size hi - sIx items.size 0 lo) == items.size)=true then _ else _) _ _ s
 rw [if_neg hno,zMt]
 first
  | exact wpAny_bind (m:=Builtin.Tuple.tupleExact _) (wpAny_newObj_type (wpAny_pure ⟨_,rfl,wpAny_pure h⟩) htake)
  | exact wpAny_bind (m:=Builtin.Tuple.tupleExact _) (wpAny_newObj_type (wpAny_bind (wpAny_pure (wpAny_pure ⟨_,rfl,wpAny_pure h⟩))) htake)
  | exact wpAny_bind (wpAny_bind (m:=Builtin.Tuple.tupleExact _) (wpAny_newObj_type (wpAny_pure (wpAny_pure ⟨_,rfl,wpAny_pure h⟩)) htake))
  | exact wpAny_bind (wpAny_bind (m:=Builtin.Tuple.tupleExact _) (wpAny_newObj_type (wpAny_pure ⟨_,rfl,wpAny_pure h⟩) htake))
end
end HT
namespace L2
open PySem PySem.Spec PyProof.Rows
abbrev TO:=St->Hp->(Option Int->Hp->Prop)->Prop
def PO (X:Cx) (e:Option Expr) (t:TO):Prop:=
 ∀ (pins:List (Addr × Obj)) (s:Shared) (σ:St) (H:Hp) (Q:Option Int->Hp->Prop),zE X pins σ H s->t σ H Q->
  wpAny (model X.prog X.w) X.A (evalPart e X.env) (λu s'=>∃ o H',zE X pins σ H' s'/\IsPart u o/\Q o H') X.xe s
def zOm:TO:=λ_ H Q=>Q none H
def kj (t:TE):TO:=λσ H Q=>t σ H λx H1=>∃ i,x=.int i/\Q (some i) H1
section
variable {X:Cx} {e:Expr} {te:TE} {lo hi:Option Expr} {tl th:TO} {pos p2:Pos}
theorem zO7:PO X none zOm:=by
 intro pins s σ H Q I h
 rw [evalPart_none]
 exact wpAny_pure ⟨none,H,I,.none,h⟩
theorem zO6 (h:PE X e te):PO X (some e) (kj te):=by
 intro pins s σ H Q I hw
 rw [evalPart_some]
 refine zm (h pins s σ H _ I hw) λu s1 ⟨x,H1,I1,r1,q1⟩=>?_
 obtain ⟨i,rfl,q⟩:=q1
 obtain ⟨t,rfl⟩:=r1
 exact ⟨some i,H1,I1,.int i t,q⟩
def qP (X:Cx) (r:V->Option Int->Option Int->Hp->VK->Prop):Prop:=
 ∀ (pins:List (Addr × Obj)) (s:Shared) (σ:St) (H:Hp) (x:V) (v vl vu:Value) (lo hi:Option Int) (sl:Addr) (Q:VK),zE X pins σ H s->zU x v->s.heap.IsSliceOf sl vl vu .none->IsPart vl lo->IsPart vu hi->r x lo hi H Q->
  ∃ T id,typeLookup (.type T) "__getitem__" = pure (some (.builtin id))/\s.TypeIs v T/\wpAny (model X.prog X.w) X.A (getItem v (.ref sl)) (EP X pins σ Q) X.xe s
def tSl (r:V->Option Int->Option Int->Hp->VK->Prop) (te:TE) (tl th:TO):TE:=λσ H Q=>te σ H λx H1=>tl σ H1 λl H2=>th σ H2 λu H3=>r x l u H3 Q
theorem zMv {r:V->Option Int->Option Int->Hp->VK->Prop} (hr:qP X r) (he:PE X e te) (hl:PO X lo tl) (hu:PO X hi th):PE X (.Subscript e (.Slice lo hi none p2) pos) (tSl r te tl th):=by
 intro pins s σ H Q I h
 refine Subscript_ (zm (he pins s σ H _ I h) λv s1 ⟨x,H1,I1,r1,q1⟩=>?_)
 refine wpAny_Slice (zm (hl pins s1 σ H1 _ I1 q1) λvl s2 ⟨l,H2,I2,pl,q2⟩=>zm (hu pins s2 σ H2 _ I2 q2) λvu s3 ⟨u,H3,I3,pu,q3⟩=>?_)
 rw [evalPart_none]
 refine wpAny_pure ?_
 have I4:zE X pins σ H3 { s3 with heap:=s3.heap.push { cls:=.type "slice",data:=.fields #[vl,vu,.none] } }:=I3.kept (t':=s3.toks) λb ob q=>Heap.get?_push_of_some _ q
 obtain ⟨T,id,hT,ht,hg⟩:=hr pins { s3 with heap:=s3.heap.push { cls:=.type "slice",data:=.fields #[vl,vu,.none] } } σ H3 x v vl vu l u s3.heap.objs.size Q I4 r1 (Heap.IsSliceOf.new ..) pl pu q3
 show wpAny (model X.prog X.w) X.A (subscriptTail e (.Slice lo hi none p2) v (.ref s3.heap.objs.size)) (EP X pins σ Q) X.xe { s3 with heap:=s3.heap.push { cls:=.type "slice",data:=.fields #[vl,vu,.none] } }
 exact tail_any (ops:=[.ref s3.heap.objs.size,v]) ht hT hg (by with_unfolding_all rfl)
def wu (xs:List V) (lo hi:Option Int):List V:=(xs.drop (HT.sIx xs.length 0 lo)).take (HT.sIx xs.length xs.length hi - HT.sIx xs.length 0 lo)
theorem zF4 (xs:List V) (lo hi:Option Int):(wu xs lo hi).length<=xs.length:=by
 unfold wu
 rw [List.length_take,List.length_drop]
 omega
def UC (K:PySem.W.Frag):V->Option Int->Option Int->Hp->VK->Prop:=λx lo hi H Q=>∃ a xs,x=.ref a/\yZ K H a xs∧
 ¬ (HT.sIx xs.length 0 lo=0/\HT.sIx xs.length xs.length hi=xs.length)/\∀ p,H p=none->Q (.ref p) (zb H p (.tup (wu xs lo hi)))
theorem zQa:qP X (UC X.K):=by
 intro pins s σ H x v vl vu lo hi sl Q I rx hs pl pu h
 obtain ⟨a,xs,rfl,hx,hw,q⟩:=h
 cases rx
 obtain ⟨its,r,ht,hz⟩:=I.tuple hx
 have hlen:its.toArray.size=xs.length:=by rw [List.size_toArray]; exact r.length.symm
 refine ⟨"tuple",_,PyProof.Rows.slot_tuple_getitem.lookup,ht.typeIs,?_⟩
 refine HT.getItem_tuple_cut ht hs pl pu (by rw [hlen]; exact hw) ?_ (by rw [hlen]; exact hz)
 rw [hlen]
 refine ⟨.ref s.heap.objs.size,_,I.laid (t':=s.toks) (o:=.tup (wu xs lo hi)) (λb ob q=>Heap.get?_push_of_some _ q) (Nat.le_refl _) ?_,rfl,q _ (I.hok.fresh (Nat.le_refl _))⟩
 exact ⟨Nat.le_trans (zF4 xs lo hi) hz,_,(r.drop (HT.sIx xs.length 0 lo)).take (HT.sIx xs.length xs.length hi - HT.sIx xs.length 0 lo),IsTup.new _ _⟩
def km (K:PySem.W.Frag):R2:=λx y H Q=>∃ a b xs ys,x=.ref a/\y=.ref b/\yZ K H a xs/\yZ K H b ys/\xs≠[]/\xs.length + ys.length<=sizeLine∧
 (ys=[]->Q (.ref a) H)/\(ys≠[]->∀ p,H p=none->Q (.ref p) (zb H p (.tup (xs++ys))))
theorem zM.nil_iff {xs:List V} {us:List Value} (r:zM xs us):us=[] ↔ xs=[]:=by
 cases r with
 | nil=>simp
 | cons _ _=>simp
theorem zPK:yw X (binaryOp .Add) (km X.K):=by
 intro pins s σ H x y v u Q I rx ry h
 obtain ⟨a,b,xs,ys,rfl,rfl,ha,hb,hx,hz,q1,q2⟩:=h
 cases rx
 cases ry
 obtain ⟨its,r1,p1,_⟩:=I.tuple ha
 obtain ⟨its2,r2,p2,_⟩:=I.tuple hb
 refine HT.cat_tup p1 p2 (λz=>hx (r1.nil_iff.mp z)) (λz=>⟨.ref a,H,I,rfl,q1 (r2.nil_iff.mp z)⟩) (λz=>?_) (by rw [<- r1.length,<- r2.length]; exact hz)
 refine ⟨.ref s.heap.objs.size,_,I.laid (t':=s.toks) (o:=.tup (xs++ys)) (λb ob q=>Heap.get?_push_of_some _ q) (Nat.le_refl _) ?_,rfl,q2 (λw=>z (r2.nil_iff.mpr w)) _ (I.hok.fresh (Nat.le_refl _))⟩
 exact ⟨by rw [List.length_append]; exact hz,_,r1.append r2,IsTup.new _ _⟩
end
end L2
namespace L2
open PySem PySem.Spec PyProof.Rows
def wI (n:Nat) (i:Int):Option Nat:=if 0<=i then (if i < n then some i.toNat else none) else if -(n:Int)<=i then some (i + n).toNat else none
def ya {α:Type} (xs:List α) (i:Int):Option α:=(wI xs.length i).bind λj=>xs[j]?
theorem zLc {n:Nat} {i:Int} {j:Nat} (h:wI n i=some j):seqIndex? i n=some j/\j < n/\-(n:Int)<=i/\i < n:=by
 unfold wI at h
 by_cases h0:0<=i
 ·rw [if_pos h0] at h
  by_cases h1:i < n
  ·rw [if_pos h1] at h
   have e:i.toNat=j:=Option.some.inj h
   exact ⟨by rw [seqIndex_of h0 h1,e],by omega,by omega,h1⟩
  ·rw [if_neg h1] at h; cases h
 ·rw [if_neg h0] at h
  by_cases h1 : -(n:Int)<=i
  ·rw [if_pos h1] at h
   have e:(i + n).toNat=j:=Option.some.inj h
   exact ⟨by rw [seqIndex_neg (by omega) h1,e],by omega,h1,by omega⟩
  ·rw [if_neg h1] at h; cases h
theorem zML {α:Type} {xs:List α} {i:Int} {v:α} (h:ya xs i=some v):∃ j,seqIndex? i xs.length=some j/\xs[j]? = some v/\j < xs.length/\-(xs.length:Int)<=i/\i < xs.length:=by
 unfold ya at h
 cases e:wI xs.length i with
 | none=>rw [e] at h; cases h
 | some j=>
  rw [e] at h
  obtain ⟨h1,h2,h3,h4⟩:=zLc e
  exact ⟨j,h1,h,h2,h3,h4⟩
theorem zP7 {α:Type} {xs:List α} {j:Nat} {v:α} (h:xs[j]? = some v):ya xs (j:Int)=some v:=by
 have hj:j < xs.length:=(List.getElem?_eq_some_iff.mp h).1
 have e:wI xs.length (j:Int)=some j:=by
  unfold wI
  rw [if_pos (by omega),if_pos (by omega)]; simp
 unfold ya; rw [e]; exact h
def Xg (b:Expr):Prop:=∀ o i,subscripted b false o i=operate [o,i] (getItem o i)
def Xh (X:Cx) (r:R2):Prop:=
 ∀ (value slice:Expr) (pins:List (Addr × Obj)) (s:Shared) (σ:St) (H:Hp) (x y:V) (v u:Value) (Q:VK),zE X pins σ H s->zU x v->zU y u->r x y H Q->
  subscripted slice false v u=operate [v,u] (getItem v u)->wpAny (model X.prog X.w) X.A (subscriptTail value slice v u) (EP X pins σ Q) X.xe s
def MtR (X:Cx) (id:String) (r:V->List V->Hp->VK->Prop):Prop:=
 ∀ (pins:List (Addr × Obj)) (s:Shared) (σ:St) (H:Hp) (x:V) (xs:List V) (v:Value) (us:List Value) (Q:VK),zE X pins σ H s->zU x v->zM xs us->r x xs H Q->
  wpAny (model X.prog X.w) X.A (call (.builtin id) (v :: us)) (EP X pins σ Q) X.xe s
section
variable {X:Cx} {a b:Expr} {ta tb:TE} {pos:Pos}
theorem UD {r:R2} (hr:Xh X r) (ha:PE X a ta) (hb:PE X b tb) (hs:Xg b):PE X (.Subscript a b pos) (gO r ta tb):=by
 intro pins s σ H Q I h
 exact Subscript_ (qJ ha hb I h λv u s2 x y H2 I2 rx ry q=>hr a b pins s2 σ H2 x y v u Q I2 rx ry q (hs _ _))
def ko (K:PySem.W.Frag):R2:=λx y H Q=>∃ p xs i v,x=.ref p/\y=.int i/\zo K H p xs/\ya xs i=some v/\Q v H
def UE (K:PySem.W.Frag):R2:=λx y H Q=>∃ p xs i v,x=.ref p/\y=.int i/\yZ K H p xs/\ya xs i=some v/\Q v H
theorem UF:Xh X (ko X.K):=by
 intro value slice pins s σ H x y v u Q I rx ry h hs
 obtain ⟨p,xs,i,z,rfl,rfl,hq,he,q⟩:=h
 cases rx
 obtain ⟨t,rfl⟩:=ry
 obtain ⟨its,r,pl,hz⟩:=I.list hq
 obtain ⟨j,h1,h2,h3,h4,h5⟩:=zML he
 obtain ⟨w,ew,rw'⟩:=r.get h2
 have hl:=r.length
 have hn:=Xb
 have fin:EP X pins σ Q w s:=⟨z,H,I,rw',q⟩
 by_cases h0:0<=i
 ·have hj:i.toNat=j:=by
   rw [seqIndex_of h0 h5] at h1
   exact Option.some.inj h1
  exact item_listR pl.isList h0 (by omega) (by rw [hj]; simpa using ew) fin hs
 ·have hj:(i + (its.toArray.size:Int)).toNat=j:=by
   rw [seqIndex_neg (by omega) h4] at h1
   rw [List.size_toArray,<- hl]
   exact Option.some.inj h1
  exact subscriptTail_builtinR (x:=w) pl.isList.typeIs slot_list_getitem.lookup
   (wpAny_getItem_list_neg (Q:=λr s'=>r=w/\EP X pins σ Q r s') pl.isList (by omega) (by rw [List.size_toArray] <;> omega) (by omega) (by rw [hj]; simpa using ew) ⟨rfl,fin⟩) hs
theorem zRW:Xh X (UE X.K):=by
 intro value slice pins s σ H x y v u Q I rx ry h hs
 obtain ⟨p,xs,i,z,rfl,rfl,hq,he,q⟩:=h
 cases rx
 obtain ⟨t,rfl⟩:=ry
 obtain ⟨its,r,pl,hz⟩:=I.tuple hq
 obtain ⟨j,h1,h2,h3,h4,h5⟩:=zML he
 obtain ⟨w,ew,rw'⟩:=r.get h2
 have hl:=r.length
 have hn:=Xb
 have fin:EP X pins σ Q w s:=⟨z,H,I,rw',q⟩
 exact subscriptTail_builtinR (x:=w) pl.typeIs slot_tuple_getitem.lookup
  (getItem_tuple (j:=j) (Q:=λr s'=>r=w/\EP X pins σ Q r s') pl (by omega) (by omega) (by rw [List.size_toArray,<- hl]; exact h1) (by simpa using ew) ⟨rfl,fin⟩) hs
theorem zJ9 (its:List Value) (n j:Nat) (u:Value):Obj.mapSeq (·.setIfInBounds j u) { cls:=.type "list",data:=.seq its.toArray n }={ cls:=.type "list",data:=.seq (its.set j u).toArray n }:=by
 simp [Obj.mapSeq]
theorem zE.lst {pins:List (Addr × Obj)} {σ:St} {H:Hp} {s:Shared} {p:Addr} {xs:List V} (I:zE X pins σ H s) (h:H p=some (.lst xs)) :
  ∃ (its:List Value) (n:Nat),zM xs its/\s.heap.get? p=some { cls:=.type "list",data:=.seq its.toArray n }/\xs.length<=sizeLine:=by
 obtain ⟨z,its,n,r,e⟩:=I.hok p _ h
 exact ⟨its,n,r,e,z⟩
theorem zE.lstUpd {pins:List (Addr × Obj)} {σ:St} {H:Hp} {s:Shared} {p:Addr} {xs ys:List V} {its its':List Value} {n n':Nat} {f:Obj->Obj} (I:zE X pins σ H s) (h:H p=some (.lst xs))
  (ho:s.heap.get? p=some { cls:=.type "list",data:=.seq its.toArray n }) (hf:f { cls:=.type "list",data:=.seq its.toArray n }={ cls:=.type "list",data:=.seq its'.toArray n' }) (r:zM ys its') (hz:ys.length<=sizeLine) (t:Nat) :
  zE X pins σ (zb H p (.lst ys)) { s with heap:=s.heap.update p f,toks:=t }:=by
 have e:(s.heap.update p f).get? p=some { cls:=.type "list",data:=.seq its'.toArray n' }:=by
  rw [Heap.get?_update_self f ho (by rw [hf] <;> rfl),hf]
 refine I.write (x:=p) (e:=p) (by rw [h]; trivial) (.inl rfl) (λb u hb q=>(Heap.get?_update_other _ _ (Ne.symm hb)).trans q) ⟨_,e⟩ ?_
 exact ⟨hz,its',n',r,e⟩
def kq:V->V->V->Hp->(Hp->Prop)->Prop:=λo i v H Q=>∃ p xs k j,o=.ref p/\i=.int k/\H p=some (.lst xs)/\wI xs.length k=some j/\Q (zb H p (.lst (xs.set j v)))
theorem zMd:qI X kq:=by
 intro pins s σ H o i v ov iv u Q I ro ri rv h
 obtain ⟨p,xs,k,j,rfl,rfl,hp,hj,q⟩:=h
 cases ro
 obtain ⟨t,rfl⟩:=ri
 obtain ⟨its,n,r,ho,hz⟩:=I.lst hp
 obtain ⟨h1,h2,h3,h4⟩:=zLc hj
 have hl:=r.length
 have hn:=Xb
 have I':zE X pins σ (zb H p (.lst (xs.set j v))) { s with heap:=s.heap.update p (Obj.mapSeq (·.setIfInBounds j u)) }:=
  I.lstUpd hp ho (zJ9 its n j u) (r.set rv j) (by rw [List.length_set]; exact hz) s.toks
 by_cases h0:0<=k
 ·have hk:k.toNat=j:=by
   rw [seqIndex_of h0 h4] at h1
   exact Option.some.inj h1
  exact PySem.W.ki_setAt ho h0 (by omega) (by rw [List.size_toArray,<- hl]; exact h4) (by rw [hk]; exact ⟨_,I',q⟩)
 ·have hk:(k + (its.toArray.size:Int)).toNat=j:=by
   rw [seqIndex_neg (by omega) h3] at h1
   rw [List.size_toArray,<- hl]
   exact Option.some.inj h1
  exact PySem.W.ki_setBack ho (by omega) (by rw [List.size_toArray,<- hl]; exact h3) (by omega) (by rw [hk]; exact ⟨_,I',q⟩)
theorem zHY (lo hi:Option Int) (n:Nat):(sliceBounds lo hi none n).1=((HT.sIx n 0 lo:Nat):Int)/\(sliceBounds lo hi none n).2.1=((HT.sIx n n hi:Nat):Int)/\(sliceBounds lo hi none n).2.2=1:=by
 refine ⟨?_,?_,rfl⟩
 ·cases lo with
  | none=>simp [sliceBounds,HT.sIx]
  | some i=>
   simp only [sliceBounds,HT.sIx,Option.getD_none,show (1:Int) > 0 by decide,if_true]
   by_cases h:i < 0
   ·simp only [h,if_true] <;> omega
   ·simp only [h,if_false] <;> omega
 ·cases hi with
  | none=>simp [sliceBounds,HT.sIx]
  | some i=>
   simp only [sliceBounds,HT.sIx,Option.getD_none,show (1:Int) > 0 by decide,if_true]
   by_cases h:i < 0
   ·simp only [h,if_true] <;> omega
   ·simp only [h,if_false] <;> omega
theorem zGl (its:List Value) (lo hi:Option Int):slicePick its.toArray lo hi none=((its.drop (HT.sIx its.length 0 lo)).take (HT.sIx its.length its.length hi - HT.sIx its.length 0 lo)).toArray:=by
 obtain ⟨h1,h2,h3⟩:=zHY lo hi its.toArray.size
 unfold slicePick
 rw [h1,h2,h3]
 simp only [sliceRange_one,pick_run,List.size_toArray] <;> rfl
def UG (K:PySem.W.Frag):V->Option Int->Option Int->Hp->VK->Prop:=λx lo hi H Q=>∃ a xs,x=.ref a/\zo K H a xs/\∀ p,H p=none->Q (.ref p) (zb H p (.lst (wu xs lo hi)))
theorem zOs:qP X (UG X.K):=by
 intro pins s σ H x v vl vu lo hi sl Q I rx hs pl pu h
 obtain ⟨a,xs,rfl,hx,q⟩:=h
 cases rx
 obtain ⟨its,r,ht,hz⟩:=I.list hx
 have hlen:=r.length
 refine ⟨"list",_,slot_list_getitem.lookup,ht.isList.typeIs,?_⟩
 refine wpAny_getItem_list_slice ht.isList hs pl pu .none (by simp) ?_ (by rw [List.size_toArray] <;> omega)
 rw [zGl,<- hlen]
 refine ⟨.ref s.heap.objs.size,_,I.laid (t':=s.toks) (o:=.lst (wu xs lo hi)) (λb ob q=>Heap.get?_push_of_some _ q) (Nat.le_refl _) ?_,rfl,q _ (I.hok.fresh (Nat.le_refl _))⟩
 exact ⟨Nat.le_trans (zF4 xs lo hi) hz,_,0,(r.drop (HT.sIx xs.length 0 lo)).take (HT.sIx xs.length xs.length hi - HT.sIx xs.length 0 lo),Heap.get?_push_size _ rfl⟩
theorem yk:wM X (.builtin "len") (λxs H Q=>∃ p ys,xs=[.ref p]/\(zo X.K H p ys\/yZ X.K H p ys)/\Q (.int ys.length) H):=by
 intro pins s σ H xs us Q I r h
 obtain ⟨p,ys,rfl,hq,q⟩:=h
 obtain ⟨u,rfl,rx⟩:=uA r
 cases rx
 have hn:=Xb
 rcases hq with hq | hq
 ·obtain ⟨its,r',pl,hz⟩:=I.list hq
  have hlen:=r'.length
  exact Calls.call_len_list pl.isList (by simp only [List.size_toArray] <;> omega) ⟨.int ys.length,H,I.tok _,⟨s.toks + 1,by rw [List.size_toArray,hlen]⟩,q⟩
 ·obtain ⟨its,r',pl,hz⟩:=I.tuple hq
  have hlen:=r'.length
  exact len_tuple pl (by simp only [List.size_toArray] <;> omega) ⟨.int ys.length,H,I.tok _,⟨s.toks + 1,by rw [List.size_toArray,hlen]⟩,q⟩
theorem vX:wM X (.type "list") (λxs H Q=>∃ p ys,xs=[.ref p]/\(zo X.K H p ys\/yZ X.K H p ys)/\∀ l,H l=none->Q (.ref l) (zb H l (.lst ys))):=by
 intro pins s σ H xs us Q I r h
 obtain ⟨p,ys,rfl,hq,q⟩:=h
 obtain ⟨u,rfl,rx⟩:=uA r
 cases rx
 have fin:∀ (its:List Value),zM ys its->ys.length<=sizeLine->∀ (h':Heap) (c':Nat),(∀ b o',s.heap.get? b=some o'->h'.get? b=some o')->
   h'.get? s.heap.objs.size=some { cls:=.type "list",dict:=none,data:=.seq its.toArray c',slots:=#[] }->EP X pins σ Q (.ref s.heap.objs.size) { s with heap:=h' }:=λits r' hz h' c' kp e=>
  ⟨.ref s.heap.objs.size,_,I.laid (t':=s.toks) kp (Nat.le_refl _) (show xk X.prog X.w _ h' _ (.lst ys) from ⟨hz,its,c',r',e⟩),rfl,q _ (I.hok.fresh (Nat.le_refl _))⟩
 rcases hq with hq | hq
 ·obtain ⟨its,r',pl,hz⟩:=I.list hq
  have hlen:=r'.length
  obtain ⟨o,ho,hc,n,hd⟩:=pl.isList
  exact call_list_seq p (.inl rfl) ho hc hd (λh' c' kp e=>fin its r' hz h' c' kp e) (by simp only [List.size_toArray] <;> omega)
 ·obtain ⟨its,r',pl,hz⟩:=I.tuple hq
  have hlen:=r'.length
  obtain ⟨o,ho,hc,n,hd⟩:=pl
  exact call_list_seq p (.inr rfl) ho hc hd (λh' c' kp e=>fin its r' hz h' c' kp e) (by simp only [List.size_toArray] <;> omega)
theorem jD:wM X (.type "tuple") (λxs H Q=>∃ p ys,xs=[.ref p]/\((zo X.K H p ys/\∀ l,H l=none->Q (.ref l) (zb H l (.tup ys)))\/(yZ X.K H p ys/\Q (.ref p) H))):=by
 intro pins s σ H xs us Q I r h
 obtain ⟨p,ys,rfl,h⟩:=h
 obtain ⟨u,rfl,rx⟩:=uA r
 cases rx
 rcases h with ⟨hq,q⟩ | ⟨hq,q⟩
 ·obtain ⟨its,r',pl,hz⟩:=I.list hq
  have hlen:=r'.length
  refine call_tuple_list pl.isList (λh' kp=>?_) (by simp only [List.size_toArray] <;> omega)
  have I1:zE X pins σ H { s with heap:=h' }:=I.kept (t':=s.toks) kp
  have I2:zE X pins σ (zb H h'.objs.size (.tup ys)) { s with heap:=h'.push { cls:=.type "tuple",data:=.seq its.toArray } }:=
   I1.laid (t':=s.toks) (λb o e=>Heap.get?_push_of_some _ e) (Nat.le_refl _) (show xk X.prog X.w _ _ _ (.tup ys) from ⟨hz,its,r',IsTup.new _ _⟩)
  exact ⟨.ref h'.objs.size,_,I2,rfl,q _ (I1.hok.fresh (Nat.le_refl _))⟩
 ·obtain ⟨its,r',pl,hz⟩:=I.tuple hq
  exact call_tuple_same pl ⟨.ref p,H,I,rfl,q⟩
def tyV (K:PySem.W.Frag) (T:String) (x:V) (H:Hp):Prop:=match x with
 | .str _=>T = "str"
 | .int _=>T = "int"
 | .ref p=>(T = "list"/\∃ xs,zo K H p xs)\/(T = "tuple"/\∃ o,K.lookup p=some o/\o.cls=.type "tuple"/\o.dict=none)∨
   (T = "dict"/\((∃ kvs,H p=some (.dK kvs))\/∃ kvs,H p=some (.dT kvs)))\/(T = "set"/\∃ S n,H p=some (.set S n))
 | _=>False
theorem zQJ {pins:List (Addr × Obj)} {σ:St} {H:Hp} {s:Shared} {T:String} {x:V} {v:Value} (I:zE X pins σ H s) (r:zU x v) (ty:tyV X.K T x H) :
  s.TypeIs v T/\∀ a,v=.ref a->∃ ob,s.heap.get? a=some ob/\ob.dict=none:=by
 cases x with
 | str z=>
  obtain ⟨t,rfl⟩:=r
  cases (show T = "str" from ty)
  exact ⟨typeIs_str s z t,λ_ e=>nomatch e⟩
 | int i=>
  obtain ⟨t,rfl⟩:=r
  cases (show T = "int" from ty)
  exact ⟨typeIs_int s i t,λ_ e=>nomatch e⟩
 | ref p=>
  cases r
  rcases ty with ⟨rfl,xs,hq⟩ | ⟨rfl,o,hk,hc,hd⟩ | ⟨rfl,hk⟩ | ⟨rfl,S,n,hk⟩
  ·obtain ⟨its,_,pl,_⟩:=I.list hq
   refine ⟨pl.isList.typeIs,λa e=>?_⟩
   cases e
   obtain ⟨o,n,e,c,hd,_⟩:=pl
   exact ⟨o,e,hd⟩
  ·refine ⟨⟨o,I.kIn p o hk,hc⟩,λa e=>?_⟩
   cases e
   exact ⟨o,I.kIn _ o hk,hd⟩
  ·have z:∃ o,s.heap.get? p=some o/\o.ExactDict:=by
    rcases hk with ⟨kvs,hk⟩ | ⟨kvs,hk⟩
    ·obtain ⟨_,_,_,_,o,_,_,e,ex,_⟩:=I.hok p _ hk
     exact ⟨o,e,ex⟩
    ·obtain ⟨_,_,_,_,o,_,_,e,ex,_⟩:=I.hok p _ hk
     exact ⟨o,e,ex⟩
   obtain ⟨o,e,ex⟩:=z
   refine ⟨⟨o,e,ex.1⟩,λa e2=>?_⟩
   cases e2
   exact ⟨o,e,ex.2.1⟩
  ·obtain ⟨o,_,_,_,e,ex,_⟩:=I.hok p _ hk
   refine ⟨⟨o,e,ex.1⟩,λa e2=>?_⟩
   cases e2
   exact ⟨o,e,ex.2.1⟩
 | _=>exact False.elim ty
def tBM (K:PySem.W.Frag) (T:String) (r:V->List V->Hp->VK->Prop) (to:TE) (t:TA):TE:=λσ H Q=>to σ H λx H1=>tyV K T x H1/\t σ H1 λxs H2=>r x xs H2 Q
variable {o e:Expr} {es:List Expr} {to:TE} {t:TA} {name:Str} {apos cpos:Pos} {T id:String} {r:V->List V->Hp->VK->Prop}
theorem vY (pa:PlainAttrs T) (slot:Slot T name id) (hty:typeOf (.builtin id)=pure (.type "method_descriptor")) (hm:MtR X id r) (ho:PE X o to) (ha:PA X (e :: es) t)
  (hbase:attributeBase o name X.env (eval o X.env)=eval o X.env:=by rfl)
  (hfew:((backTo cpos (starEach (e :: es) X.env)).all (λx=>!x.1) && (backToKw cpos (keywordEach [] X.env)).all (λx=>x.1.isSome)
   && decide ((e :: es).length + ([]:List Keyword).length + (if ([]:List Keyword).isEmpty then 0 else 1) < 30))=true:=by rfl)
  (hline:(apos.endLine == cpos.line)=true:=by rfl) (hs:starEach (e :: es) X.env=(false,eval e X.env) :: starEach es X.env:=by rfl) (hplain:(backTo cpos (starEach es X.env)).any (·.1)=false:=by rfl) :
  PE X (.Call (.Attribute o name apos) (e :: es) [] cpos) (tBM X.K T r to t):=by
 intro pins s σ H Q I h
 refine wpAny_Call_method_late hbase hfew hline rfl (zm (ho pins s σ H _ I h) λv s1 ⟨x,H1,I1,r1,ty,q1⟩=>?_)
 obtain ⟨h1,h2⟩:=zQJ I1 r1 ty
 refine ⟨T,id,pa,slot,hty,h1,h2,?_⟩
 have hA:=ha cpos pins s1 σ H1 _ I1 q1
 rw [hs] at hA |-
 refine Calls.callWith_builtin (by show (false || (backTo cpos (starEach es X.env)).any (·.1))=false; rw [hplain] <;> rfl) (Calls.evalArgs_plain ?_)
 exact zm hA λus s2 ⟨vs,H2,I2,r2,q2⟩=>hm pins s2 σ H2 x vs v us Q I2 r1 r2 q2
/- xs.append(e),list.index on a module's tuple .. are MtR facts of 06m -/
end
end L2
namespace L2
open PySem PySem.Spec PyProof.Rows
def MtM (X:Cx) (id:String) (r:V->List V->Hp->VK->Prop):Prop:=
 ∀ (pins:List (Addr × Obj)) (s:Shared) (σ:St) (H:Hp) (x:V) (xs:List V) (v:Value) (us:List Value) (Q:VK),zE X pins σ H s->zU x v->zM xs us->r x xs H Q->
  wpAny (model X.prog X.w) X.A (call (.builtin id) (v :: us)) (EP X pins σ Q) X.xe s
theorem zM.one:∀ {x:V} {us:List Value},zM [x] us->∃ u,us=[u]/\zU x u
 | _,_,.cons r .nil=>⟨_,rfl,r⟩
theorem zM.rep {xs:List V} {us:List Value} (h:zM xs us):∀ k:Nat,zM (List.replicate k xs).flatten (List.replicate k us).flatten
 | 0=>.nil
 | k + 1=>by
  rw [List.replicate_succ,List.replicate_succ,List.flatten_cons,List.flatten_cons]
  exact zM.append h (zM.rep h k)
theorem zHx (its:List Value):∀ (k:Nat) (acc:List Value),
  List.foldl (λx1 x2=>x1++x2) acc.toArray (List.replicate k its.toArray)=(acc++(List.replicate k its).flatten).toArray
 | 0,acc=>by simp
 | k + 1,acc=>by
  have e:acc.toArray++its.toArray=(acc++its).toArray:=by simp
  have e2:(acc++its)++(List.replicate k its).flatten=acc++(List.replicate (k + 1) its).flatten:=by
   rw [List.replicate_succ,List.flatten_cons,List.append_assoc]
  rw [<- e2,<- zHx its k (acc++its),<- e,List.replicate_succ,List.foldl_cons]
section
variable {X:Cx} {pins:List (Addr × Obj)} {σ:St} {H:Hp} {s:Shared} {l b:Addr} {xs ys zs:List V}
theorem zE.lset {its its':List Value} {n:Nat} {f:Array Value->Array Value} {t':Nat} (I:zE X pins σ H s) (hH:H l=some (.lst xs))
  (e:s.heap.get? l=some { cls:=.type "list",data:=.seq its.toArray n }) (hf:f its.toArray=its'.toArray) (hv:zM ys its') (hz:ys.length<=sizeLine) :
  zE X pins σ (zb H l (.lst ys)) { s with heap:=s.heap.update l (Obj.mapSeq f),toks:=t' }:=by
 have q:=PySem.IsL.update e f
 rw [hf] at q
 refine I.write (x:=l) (e:=l) (by rw [hH]; exact trivial) (.inl rfl) (λb' u hb hu=>(Heap.get?_update_other s.heap (Obj.mapSeq f) (Ne.symm hb)).trans hu) ⟨_,q⟩ ?_
 exact ⟨hz,its',_,hv,q⟩
theorem zE.lnew {its:List Value} {t':Nat} (I:zE X pins σ H s) (hv:zM ys its) (hz:ys.length<=sizeLine) :
  zE X pins σ (zb H s.heap.objs.size (.lst ys)) { s with heap:=s.heap.push { cls:=.type "list",data:=.seq its.toArray },toks:=t' }:=
 I.laid (λ_ _ q=>Heap.get?_push_of_some _ q) (Nat.le_refl _) ⟨hz,its,0,hv,Heap.get?_push_size _ rfl⟩
theorem zE.fresh (I:zE X pins σ H s):H s.heap.objs.size=none:=I.hok.fresh (Nat.le_refl _)
theorem zE.lstM (I:zE X pins σ H s) (hH:H l=some (.lst xs)):xs.length<=sizeLine/\∃ (its:List Value) (n:Nat),zM xs its/\xs.length=its.length/\s.heap.get? l=some { cls:=.type "list",data:=.seq its.toArray n }:=by
 obtain ⟨z,its,n,r,e⟩:=I.hok l _ hH
 exact ⟨z,its,n,r,r.length,e⟩
theorem zNI {n:Nat} (h:n<=sizeLine):Builtin.List.listTooLong n=false:=by
 unfold Builtin.List.listTooLong
 exact decide_eq_false (by omega)
end
section
variable {X:Cx}
def zOy:V->List V->Hp->VK->Prop:=λx vs H Q=>∃ l xs y,x=.ref l/\vs=[y]/\H l=some (.lst xs)/\xs.length < sizeLine/\Q .non (zb H l (.lst (xs++[y])))
theorem zLV:MtM X "list.append" zOy:=by
 intro pins s σ H x vs v us Q I rx rv h
 obtain ⟨l,xs,y,rfl,rfl,hH,hz,q⟩:=h
 cases rx
 obtain ⟨u,rfl,ru⟩:=rv.one
 obtain ⟨z,its,n,r,hl,e⟩:=I.lstM hH
 refine call_meets F.slot_list_append ⟨_,e,rfl⟩ F.entry_list_append (F.args_list_append_2 _ _) (PySem.list_append l its.toArray n u (by rw [List.size_toArray]; omega)) ⟨e,?_⟩
 refine ⟨.non,_,I.lset (its':=its++[u]) hH e (by simp) (r.append (.cons ru .nil)) ?_,rfl,q⟩
 rw [List.length_append,List.length_singleton]
 omega
def kr:R2:=λx y H Q=>∃ l b xs zs,x=.ref l/\y=.ref b/\H l=some (.lst xs)/\H b=some (.lst zs)/\xs.length + zs.length<=sizeLine/\∀ p,H p=none->Q (.ref p) (zb H p (.lst (xs++zs)))
theorem zRH:yw X (binaryOp .Add) kr:=by
 intro pins s σ H x y v u Q I rx ry h
 obtain ⟨l,b,xs,zs,rfl,rfl,hH,hB,hz,q⟩:=h
 cases rx
 cases ry
 obtain ⟨z,its,n,r,hl,e⟩:=I.lstM hH
 obtain ⟨z2,its2,n2,r2,hl2,e2⟩:=I.lstM hB
 refine PySem.P.add_list e e2 ?_ (by rw [List.size_toArray,List.size_toArray]; omega)
 have ea:its.toArray++its2.toArray=(its++its2).toArray:=by simp
 rw [ea]
 exact ⟨.ref _,_,I.lnew (t':=s.toks) (r.append r2) (by rw [List.length_append]; omega),rfl,q _ I.fresh⟩
def ku:R2:=λx y H Q=>∃ l k xs,x=.ref l/\y=.int k/\H l=some (.lst xs)/\-(2 ^ 63)<=k/\k < 2 ^ 63/\xs.length * k.toNat<=sizeLine∧
 ∀ p,H p=none->Q (.ref p) (zb H p (.lst (List.replicate k.toNat xs).flatten))
theorem zPZ {α:Type} (xs:List α) (k:Nat):(List.replicate k xs).flatten.length=k * xs.length:=by
 induction k with
 | zero=>simp
 | succ k ih=>rw [List.replicate_succ,List.flatten_cons,List.length_append,ih,Nat.succ_mul,Nat.add_comm]
theorem zRA:yw X (binaryOp .Mult) ku:=by
 intro pins s σ H x y v u Q I rx ry h
 obtain ⟨l,k,xs,rfl,rfl,hH,h1,h2,hz,q⟩:=h
 cases rx
 obtain ⟨t,rfl⟩:=ry
 obtain ⟨z,its,n,r,hl,e⟩:=I.lstM hH
 have hlen:its.toArray.size * k.toNat<=sizeLine:=by rw [List.size_toArray,<- hl]; exact hz
 have hcap:¬ its.toArray.size * k.toNat > (2 ^ 63 - 1) / 8:=by
  have:(sizeLine:Nat)<=(2 ^ 63 - 1) / 8:=by decide
  omega
 have hfit:¬ (!Builtin.List.listFitsIndex k)=true:=by
  rw [fitsIndex_both h1 h2]
  exact Bool.false_ne_true
 have hlong:¬ Builtin.List.listTooLong (its.toArray.size * k.toNat)=true:=by
  rw [zNI hlen]
  exact Bool.false_ne_true
 have hnew:List.foldl (λx1 x2=>x1++x2) #[] (List.replicate (if its.toArray.isEmpty=true then 0 else k.toNat) its.toArray)=(List.replicate k.toNat its).flatten.toArray:=by
  have f0:∀ m:Nat,List.foldl (λx1 x2=>x1++x2) #[] (List.replicate m its.toArray)=(List.replicate m its).flatten.toArray:=λm=>by
   have:=zHx its m []
   rw [List.nil_append] at this
   exact this
  rw [f0]
  cases its with
  | nil=>simp
  | cons a r'=>rw [if_neg (by simp)]
 refine wpAny_binaryOp_repeat_ref (T:="list") (U:="int") (by decide) ⟨_,e,rfl⟩ (λs'=>typeIs_int s' k t) noFill_list_mul F.fills_int_mul F.slot_int_rmul repeat_list F.slot_int_index.lookup
  (call_meets F.slot_int_rmul (typeIs_int s k t) F.entry_int_rmul (F.args_int_rmul_2 _ _) (int___rmul___int_list k t l its.toArray n)
   ⟨e,rfl,⟨_,e,rfl⟩,call_meets F.slot_list_mul ⟨_,e,rfl⟩ F.entry_list_mul (F.args_list_mul_2 _ _) (AutoListH.list___mul___list_int_3 l its.toArray n k t hfit hcap hlong) ⟨e,?_⟩⟩)
 rw [hnew]
 exact ⟨.ref _,_,I.lnew (t':=s.toks) (r.rep k.toNat) (by rw [zPZ,Nat.mul_comm]; exact hz),rfl,q _ I.fresh⟩
end
section
variable {prog:Program} {w:World} {A:Around} {E:Value->Shared->Prop} {s:Shared}
end
section
variable {X:Cx}
end
end L2
namespace Att
open PySem PySem.W PySem.Calls PyProof.Rows
theorem zFw {P:Params} {h:Heap}:∀ (ns:List Int) (vs:List Value),WellAll P h vs (ns.map WData.int)->IntsAre vs ns:=by
 intro ns
 induction ns with
 | nil=>
  intro vs w
  rw [List.map_nil] at w
  cases w
  exact .nil
 | cons n ns ih=>
  intro vs w
  rw [List.map_cons] at w
  cases w with
  | cons a b=>
   cases a
   exact .cons _ _ (ih _ b)
theorem zKY {l:OpenLaw} {n:Nat} (hn:l.most=some n) {P:Params} {h:Heap} {args:List WData} {vals:List Value}
  (hpre:l.row.toRowW.claim.pre args=true) (hwl:WellAll P h vals args) :
  ∃ a vs ns,vals=[Value.ref a]/\args=[WData.list (ns.map WData.int)]/\h.get? a=some { cls:=.type "list",data:=.seq vs.toArray }/\IntsAre vs ns/\ns.length<=n:=by
 have hsh:WShape.hasAll [] args [.list .int]=true:=(pre_splitW hpre).1
 have hc:l.pre.holds [] { args:=args }=true:=(pre_splitW hpre).2
 obtain ⟨d,r,rfl,h1,h2⟩:=hasAllW_cons hsh
 obtain rfl:=hasAllW_nil h2
 obtain ⟨xs,rfl,h3⟩:=hasW_list h1
 obtain ⟨ns,rfl⟩:=items_int h3
 have hlen:ns.length<=n:=by
  unfold OpenLaw.pre at hc
  have h4:(WTm.not (.lt (.lit (.int (n:Int))) (.len (.arg 0)))).holds [] { args:=[.list (ns.map .int)] }=true:=by
   have h4:=(holds_andW hc).1
   rw [hn] at h4
   exact h4
  have h5:=condW_of h4 (w_not (w_lt w_lit (w_len_list (w_arg rfl))))
  rw [List.length_map] at h5
  refine Nat.le_of_not_lt λq=>?_
  have q':(n:Int) < ((ns.length:Nat):Int):=by omega
  first
   | (rw [decide_eq_true q'] at h5; exact absurd h5 (by decide))
   | (simp at h5; omega)
 cases hwl with
 | cons w1 w2=>
  cases w2
  cases w1 with
  | list ho hall=>exact ⟨_,_,ns,rfl,rfl,ho,zFw ns _ hall,hlen⟩
theorem zKu (l:OpenLaw) (args:List WData):l.row.toRowW.claim.post args (.bool true) args=true:=
 postW_of (r:=l.row.toRowW) (X:=(true == true))
  (show WShape.has [] (.bool true) .bool=true by first | rfl | decide | simp [WShape.has,WShape.arms,WShape.armsAll])
  (show (WTm.eq .res (.lit (.bool true))).value [] { args:=args,res:=some (.bool true),after:=args }=some (.bool (true == true)) from w_eq_bool (w_res rfl) w_lit) rfl
theorem attach_call {l:OpenLaw} {n:Nat} {q:Program} {loose:List Str} {XP:(Str->Option Value)->Heap->Prop} {YP:World->Heap->Prop} {d:DefRec}
  (hn:l.most=some n) (hdf:d.params.defaults=[])
  (call:∀ (w:World) (s₀ s₁:Shared) (mg mb:Str->Option Value) (fa:Addr) (o:Obj) (pm cd doc:Value) (a:Addr) (vs:List Value) (ns:List Int),
   Ground q loose [] XP w s₀ mg mb s₁.heap->YP w s₁.heap->
   s₁.heap.get? fa=some o->o.data=.func (docDef d.name d.params d.body d.scope pm cd doc)->s₁.heap.CodeRec cd d.name->mg d.name=some (.ref fa)->
   s₁.heap.get? a=some { cls:=.type "list",data:=.seq vs.toArray }->IntsAre vs ns->ns.length<=n->s₁.gens=#[]->
   codeAny (model l.prog w) callerA (.call (.ref fa) ⟨[.ref a],[]⟩) (λr s'=>r=.ok (.ret (.bool true))/\OldK s₁.heap s'.heap/\s'.os=s₁.os/\AllBare s'.gens) s₁) :
  WalkO q loose XP YP l.row.toRowW d [] (λf vs=>PySem.call f vs):=by
 intro w s₀ s₁ mg mb G Y fa o pm cd doc dV kV ho hd hcd hD hmg hg args vals as hpre hlay hrd hwl hlo
 obtain rfl:dV=.none:=Dflts.none hD hdf
 obtain rfl:kV=.none:=Dflts.noKw hD
 obtain ⟨a,vs,ns,rfl,rfl,hobj,hints,hlen⟩:=zKY hn hpre hwl
 refine enter_call (codeAny_mono (call w s₀ s₁ mg mb fa o pm cd doc a vs ns G Y ho (fd_plain hd) hcd hmg hobj hints hlen hg) λr s' hq=>?_)
 obtain ⟨rfl,h2,h3,h4⟩:=hq
 exact ⟨.inl ⟨.bool true,.bool true,[],rfl,λ_=>rfl,.bool true,zKu l _,λ_=>⟨List.Pairwise.nil,λ_ hm=>(nomatch hm)⟩⟩,h2,h3,h4⟩
section
variable {prog:Program} {w:World} {A:Around} {E:Value->Shared->Prop} {s:Shared} {K:Frag}
end
end Att
namespace L2
open PySem PySem.Spec PyProof.Rows
theorem zHS:∀ {vs:List Value} {ns:List Int},IntsAre vs ns->zM (ns.map V.int) vs
 | _,_,.nil=>.nil
 | _,_,.cons n t h=>.cons ⟨t,rfl⟩ (zHS h)
end L2
namespace L2
open PySem PySem.Spec PyProof.Rows
end L2
namespace L2
open PySem PySem.Spec PyProof.Rows
def gR (s:Stmt) (j:Nat):Stmt:=match s with
 | .ClassDef _ _ _ body _ _ _ _ _ _ _=>body.getD j (.Pass ⟨0,0,0,0⟩)
 | _=>.Pass ⟨0,0,0,0⟩
def wv (s:Stmt):Arguments:=match s with
 | .FunctionDef _ a _ _ _ _ _ _ _ _=>a
 | _=>{ posonlyargs:=[],args:=[],vararg:=none,kwonlyargs:=[],kw_defaults:=[],kwarg:=none,defaults:=[] }
def xS (s:Stmt):List Stmt:=match s with
 | .FunctionDef _ _ b _ _ _ _ _ _ _=>b
 | _=>[]
def zN (s:Stmt):Scope:=match s with
 | .FunctionDef _ _ _ _ _ _ sc _ _ _=>sc
 | _=>{ kind:=.function,names:=[],isGenerator:=false,isCoroutine:=false }
abbrev zT:vk:=λ_ _ _ _ _ _=>False
abbrev E0:XK:=λ_ _ _=>False
theorem Xi {X:Cx}:qN zT X E0:=λ_ _ _ _ _ _ _ h=>h.elim
structure zY (K:PySem.W.Frag) (x qual:Str) (st:Stmt) (f:Addr) (fd:FuncData):Prop where
 ex:∃ (oc:Value) (od:Option Addr) (kV doc pm:Value) (an:Option Addr) (cdv ct:Value) (osl:Array (Option Value)),
  fd=PySem.W.fnOf x qual (wv st) (xS st) (zN st) .none kV doc pm an cdv ct/\K.lookup f=some ⟨oc,od,.func fd,osl⟩/\PySem.W.codeIn K cdv qual=true
 kp:PySem.W.keepIn K (.ref f)=true
section
variable {P:Program} {w:World} {K:PySem.W.Frag} {mg:Str->Option Value} {base:Heap}
theorem zY.ok {x qual:Str} {st:Stmt} {f:Addr} {fd:FuncData} {N ps:List Str} {k:Nat} {sp:Sp} (F:zY K x qual st f fd) (S:zX N ps (zN st)) (len:∀ vs H Q E,sp vs H Q E->vs.length=ps.length)
  (hbody:∀ (cdv:Value) (A:Around) (outer:List Env) (s:Shared) (H:Hp) (vs:List V) (Q:VK) (E:XK),zW k (A.deeper (envOfC qual (zN st) s.heap.objs.size f cdv))->sp vs H Q E->
   ∃ t,yq (za zT P w K mg base N qual (zN st) f cdv A outer s H E).nox (xS st) t/\t { nx:=λ_ H'=>Q .non H',rt:=Q } (wN N vs) H):zF P w K mg base zT (k + 1) f fd ps sp:=by
 obtain ⟨oc,od,kV,doc,pm,an,cdv,ct,osl,rfl,lk,hcd⟩:=F.ex
 refine Xe lk hcd S len λA outer s H vs Q E hr hsp=>?_
 obtain ⟨t,h,q⟩:=hbody cdv A outer s H vs Q E hr hsp
 exact ⟨t,h.nox,q⟩
theorem zY.binds {x qual:Str} {st:Stmt} {f:Addr} {fd:FuncData} {ps:List Str} (F:zY K x qual st f fd)
  (h:∀ (kV doc pm:Value) (an:Option Addr) (cdv ct:Value) (us:List Value),us.length=ps.length->bindArgs (PySem.W.fnOf x qual (wv st) (xS st) (zN st) .none kV doc pm an cdv ct) ⟨us,[]⟩=pure (ps.zip us)):vA K fd ps []:=by
 obtain ⟨oc,od,kV,doc,pm,an,cdv,ct,osl,rfl,lk,hcd⟩:=F.ex
 exact .all (h kV doc pm an cdv ct)
theorem UH {x qual:Str} {st:Stmt} {f:Addr} {oc:Value} {od an:Option Addr} {osl:Array (Option Value)} {kV doc pm cdv ct:Value} (l:K.lookup f=some ⟨oc,od,.func (PySem.W.fnOf x qual (wv st) (xS st) (zN st) .none kV doc pm an cdv ct),osl⟩)
  (c:PySem.W.codeIn K cdv qual=true) (k:PySem.W.keepIn K (.ref f)=true):zY K x qual st f (PySem.W.fnOf x qual (wv st) (xS st) (zN st) .none kV doc pm an cdv ct):=⟨⟨oc,od,kV,doc,pm,an,cdv,ct,osl,rfl,l,c⟩,k⟩
end
theorem UI {n:Nat} (h:n<=1000):n < sizeLine:=Nat.lt_of_le_of_lt h (by decide)
section
variable {X:Cx}
theorem pv (i:Nat) {x:Str} {pos:Pos} (hN:X.N[i]? = some x:=by rfl) (hv:jj X.env.scope x:=by first | exact Or.inl rfl | exact Or.inr (Or.inl rfl) | exact Or.inr (Or.inr rfl)) (hd:(x == ("__debug__" : Str))=false:=by decide)
  (hcd:(x == ("__classdict__" : Str))=false:=by decide):PE X (.Name x pos) (vi i):=kJ hN hv hd hcd
end
theorem UJ {A B:Prop} (h:B):if false=true then A else B:=by
 rw [if_neg Bool.false_ne_true]
 exact h
theorem kz {c A B:Prop} [Decidable c] (hc:c) (h:B):if (!decide c)=true then A else B:=by
 rw [decide_eq_true hc]
 exact UJ h
def zP (H H':Hp):Prop:=∀ b o,H b=some o->H' b=some o
theorem zP.refl (H:Hp):zP H H:=λ_ _ h=>h
theorem zP.trans {H H1 H2:Hp} (a:zP H H1) (b:zP H1 H2):zP H H2:=λc o h=>b c o (a c o h)
end L2
set_option maxHeartbeats 4000000
namespace Sh
def vZ (ns:List Int):Int:=ns.foldl (λc n=>(Int.gcd c n:Int)) 0
theorem zIn (ns:List Int) (n:Int):vZ (ns++[n])=(Int.gcd (vZ ns) n:Int):=by
 unfold vZ
 rw [List.foldl_append]
 rfl
theorem zHF (ns:List Int):0<=vZ ns:=by
 rcases List.eq_nil_or_concat ns with rfl | ⟨l,a,rfl⟩
 ·exact Int.le_refl 0
 ·rw [List.concat_eq_append,zIn]
  exact Int.natCast_nonneg _
theorem zNX (c r:Int):Int.gcd r (c.fmod r)=Int.gcd c r:=by
 rw [Int.fmod_def,Int.gcd_sub_mul_left_right,Int.gcd_comm]
theorem zLo {c r:Int} (h:r≠0):(c.fmod r).natAbs < r.natAbs:=by
 rcases Int.lt_or_gt_of_ne h with hr | hr
 ·have e:c.fmod r = -((-c).fmod (-r)):=by rw [Int.neg_fmod_neg,Int.neg_neg]
  have h1:=Int.fmod_nonneg_of_pos (-c) (b:=-r) (by omega)
  have h2:=Int.fmod_lt_of_pos (-c) (b:=-r) (by omega)
  omega
 ·have h1:=Int.fmod_nonneg_of_pos c hr
  have h2:=Int.fmod_lt_of_pos c hr
  omega
theorem zR1 (i:Int):(if i < 0 then -i else i)=(i.natAbs:Int):=by
 split <;> omega
def cm (t b:Int):Int:=if b < 0 then -(Int.gcd t b:Int) else (Int.gcd t b:Int)
def UK (t b:Int):Int:=t.fdiv (cm t b)
def UL (t b:Int):Int:=b.fdiv (cm t b)
theorem zPf {t b:Int} (h:b≠0):0 < (Int.gcd t b:Int):=by
 have:0 < Int.gcd t b:=Int.gcd_pos_of_ne_zero_right _ h
 omega
end Sh
namespace Sh
def zR0 (st:Int × Int) (p:Int × Int × Int):Int × Int:=(st.1 * p.2.2 + p.1 * p.2.1 * st.2,st.2 * p.2.2)
def jq (ws:List Int) (pts:List (Int × Int)):Int × Int:=(ws.zip pts).foldl zR0 (0,1)
end Sh
namespace Sh
def k6 (ws:List Int):List Int:=ws.map (·.fdiv (vZ ws))
section
variable {β γ:Type}
def look (m:List (List Int × β)) (k:List Int):Option β:=(m.find? λkv=>decide (kv.1=k)).map (·.2)
def put (m:List (List Int × β)) (k:List Int) (v:β):List (List Int × β):=
 if (m.any λkv=>decide (kv.1=k))=true then m.map (λkv=>if kv.1=k then (kv.1,v) else kv) else m++[(k,v)]
theorem zJM (m:List (List Int × β)) (k:List Int):(m.any λkv=>decide (kv.1=k))=(look m k).isSome:=by
 induction m with
 | nil=>rfl
 | cons p r ih=>
  unfold look at ih |-
  rw [List.any_cons,List.find?_cons,ih]
  by_cases e:p.1=k
  ·rw [decide_eq_true e]; rfl
  ·rw [decide_eq_false e]; rfl
theorem Xj {m:List (List Int × β)} {k:List Int} (h:look m k=none):∀ p∈m,p.1≠k:=by
 intro p hp e
 have a:(m.any λkv=>decide (kv.1=k))=true:=List.any_eq_true.mpr ⟨p,hp,decide_eq_true e⟩
 rw [zJM,h] at a
 cases a
theorem zLZ {m:List (List Int × β)} {k:List Int} {v:β} {p:List Int × β} (h:p∈put m k v):p=(k,v)\/p∈m:=by
 unfold put at h
 split at h
 ·obtain ⟨q,hq,e⟩:=List.mem_map.mp h
  by_cases c:q.1=k
  ·rw [if_pos c] at e
   exact .inl (by rw [<- e,c])
  ·rw [if_neg c] at e
   exact .inr (e ▸ hq)
 ·rcases List.mem_append.mp h with h | h
  ·exact .inr h
  ·exact .inl (List.mem_singleton.mp h)
theorem zNR (m:List (List Int × β)) (k:List Int) (v:β):(put m k v).map (·.1)=if (look m k).isSome=true then m.map (·.1) else m.map (·.1)++[k]:=by
 unfold put
 rw [zJM]
 split
 ·rw [List.map_map]
  refine List.map_congr_left λp _=>?_
  show (if p.1=k then (p.1,v) else p).1=p.1
  split <;> rfl
 ·rw [List.map_append]
  rfl
theorem zLU {m:List (List Int × β)} (k:List Int) (v:β) (h:(m.map (·.1)).Nodup):((put m k v).map (·.1)).Nodup:=by
 rw [zNR]
 split
 ·exact h
 ·rename_i c
  have n:look m k=none:=by
   cases e:look m k with
   | none=>rfl
   | some u=>rw [e] at c; exact absurd rfl c
  refine List.nodup_append.mpr ⟨h,by simp,λa ha b hb e=>?_⟩
  obtain ⟨p,hp,e1⟩:=List.mem_map.mp ha
  rw [List.mem_singleton.mp hb] at e
  exact Xj n p hp (e1.trans e)
end
abbrev k7:=List (List Int × (List Int × Int)) × Option (List Int)
def zRr (st:k7) (r:List Int × Int):k7:=
 if vZ r.1≠0 then
  match look st.1 (k6 r.1) with
  | none=>(put st.1 (k6 r.1) r,st.2)
  | some o=>if r.2 * vZ o.1 < o.2 * vZ r.1 then (put st.1 (k6 r.1) r,st.2) else st
 else if r.2 < 0 then (st.1,some r.1) else st
structure gT (st:k7):Prop where
 g0:∀ p∈st.1,0 < vZ p.2.1
 way:∀ p∈st.1,p.1=k6 p.2.1
 nd:(st.1.map (·.1)).Nodup
 z:∀ ws,st.2=some ws->vZ ws=0
theorem UM {ws:List Int} (h:vZ ws≠0):0 < vZ ws:=by
 have:=zHF ws
 omega
theorem gT.put {st:k7} (h:gT st) {r:List Int × Int} (g:vZ r.1≠0):gT (Sh.put st.1 (k6 r.1) r,st.2):=by
 refine ⟨λp hp=>?_,λp hp=>?_,zLU _ _ h.nd,h.z⟩
 ·rcases zLZ hp with e | hp
  ·rw [e]; exact UM g
  ·exact h.g0 p hp
 ·rcases zLZ hp with e | hp
  ·rw [e]
  ·exact h.way p hp
theorem gT.step {st:k7} (h:gT st) (r:List Int × Int):gT (zRr st r):=by
 unfold zRr
 split
 ·rename_i g
  split
  ·exact h.put g
  ·split
   ·exact h.put g
   ·exact h
 ·rename_i g
  have g0:vZ r.1=0:=Decidable.of_not_not g
  split
  ·refine ⟨h.g0,h.way,h.nd,λws e=>?_⟩
   cases e
   exact g0
  ·exact h
section
variable (num:List Int->Int) (den:Int)
def hl (r:List Int × Int):Bool:=decide (num r.1<=r.2 * den)
variable (hden:0 < den) (lin:∀ (ws:List Int) (c:Int),num (ws.map (· * c))=num ws * c)
include hden lin
end
end Sh
namespace L2
open PySem
def uR (env:Env) (cs:List (Str × Addr)) (p:Str × NameKind):List (Str × Addr):=if (p.2 == .free)=true then (p.1,(env.cells.lookup p.1).getD 0) :: cs else cs
def vK (scope:Scope) (env:Env):List (Str × Addr):=scope.names.foldl (uR env) []
theorem zKG {env:Env}:∀ (names:List (Str × NameKind)) (cs:List (Str × Addr)),(∀ p∈names,p.2=.free->(env.cells.lookup p.1).isSome=true)->
  (forIn names cs (λ(p:Str × NameKind) (r:List (Str × Addr))=>(if (p.2 == .free)=true then do let a <- cellOf env p.1; pure (ForInStep.yield ((p.1,a) :: r)) else pure (ForInStep.yield r):Sem (ForInStep (List (Str × Addr))))))=pure (names.foldl (uR env) cs):=by
 intro names
 induction names with
 | nil=>intro cs _; rfl
 | cons p r ih=>
  intro cs h
  obtain ⟨n,k⟩:=p
  rw [List.forIn_cons]
  by_cases hk:k=.free
  ·subst hk
   obtain ⟨c,hc⟩:=Option.isSome_iff_exists.mp (h (n,.free) List.mem_cons_self rfl)
   have e:cellOf env n=pure c:=by unfold cellOf; dsimp only at hc; rw [hc]
   have z:uR env cs (n,.free)=(n,c) :: cs:=by unfold uR; dsimp only at hc |-; rw [hc]; rfl
   simp only [e,beq_self_eq_true,if_true,pure_bind,List.foldl_cons,z]
   exact ih _ λq hq=>h q (List.mem_cons_of_mem _ hq)
  ·have b:(k == NameKind.free)=false:=by simpa using hk
   have z:uR env cs (n,k)=cs:=by unfold uR; dsimp only; rw [b]; rfl
   simp only [b,Bool.false_eq_true,if_false,pure_bind,List.foldl_cons,z]
   exact ih _ λq hq=>h q (List.mem_cons_of_mem _ hq)
theorem zGg {scope:Scope} {env:Env} (h:∀ p∈scope.names,p.2=.free->(env.cells.lookup p.1).isSome=true):closureFor scope env=pure (vK scope env):=by
 unfold closureFor vK
 have:=zKG scope.names [] h
 exact (congrArg (λm=>m >>= λr=>pure r) this).trans rfl
theorem zMA {env:Env}:∀ (names:List (Str × NameKind)) (cs:List (Str × Addr)) (x:Str) (c:Addr),(x,c)∈names.foldl (uR env) cs->(x,c)∈cs\/((x,NameKind.free)∈names/\c=(env.cells.lookup x).getD 0):=by
 intro names
 induction names with
 | nil=>intro cs x c h; exact .inl h
 | cons p r ih=>
  intro cs x c h
  obtain ⟨n,k⟩:=p
  rw [List.foldl_cons] at h
  rcases ih _ x c h with h1 | ⟨h1,h2⟩
  ·unfold uR at h1
   dsimp only at h1
   by_cases hk:k=.free
   ·subst hk
    simp only [beq_self_eq_true,if_true] at h1
    rcases List.mem_cons.mp h1 with e | h1
    ·injection e with e1 e2
     subst e1; subst e2
     exact .inr ⟨List.mem_cons_self,rfl⟩
    ·exact .inl h1
   ·have b:(k == NameKind.free)=false:=by simpa using hk
    simp only [b,Bool.false_eq_true,if_false] at h1
    exact .inl h1
  ·exact .inr ⟨List.mem_cons_of_mem _ h1,h2⟩
theorem gU {α β:Type} [BEq α] [LawfulBEq α]:∀ {l:List (α × β)} {a:α} {b:β},l.lookup a=some b->(a,b)∈l
 | [],_,_,h=>by simp at h
 | (x,y) :: r,a,b,h=>by
  rw [List.lookup_cons] at h
  by_cases e:a=x
  ·subst e
   simp only [beq_self_eq_true,if_true] at h
   cases h
   exact List.mem_cons_self
  ·have:(a == x)=false:=by simpa using e
   simp only [this] at h
   exact List.mem_cons_of_mem _ (gU h)
theorem zFt {α β:Type} [BEq α] [LawfulBEq α]:∀ {l:List (α × β)} {a:α} {b:β},(a,b)∈l->∃ c,l.lookup a=some c
 | [],_,_,h=>by cases h
 | (x,y) :: r,a,b,h=>by
  rw [List.lookup_cons]
  by_cases e:a=x
  ·subst e
   exact ⟨y,by simp⟩
  ·have z:(a == x)=false:=by simpa using e
   rcases List.mem_cons.mp h with q | q
   ·injection q with q1 _; exact absurd q1 e
   ·obtain ⟨c,hc⟩:=zFt q
    exact ⟨c,by simp only [z]; exact hc⟩
theorem zMB {env:Env}:∀ (names:List (Str × NameKind)) (cs:List (Str × Addr)) (x:Str),((x,NameKind.free)∈names\/∃ c,(x,c)∈cs)->∃ c,(x,c)∈names.foldl (uR env) cs:=by
 intro names
 induction names with
 | nil=>
  intro cs x h
  rcases h with h | h
  ·cases h
  ·exact h
 | cons p r ih=>
  intro cs x h
  rw [List.foldl_cons]
  refine ih _ x ?_
  rcases h with h | ⟨c,h⟩
  ·rcases List.mem_cons.mp h with e | h
   ·subst e
    exact .inr ⟨_,by unfold uR; simp only [beq_self_eq_true,if_true]; exact List.mem_cons_self⟩
   ·exact .inl h
  ·refine .inr ⟨c,?_⟩
   unfold uR
   split
   ·exact List.mem_cons_of_mem _ h
   ·exact h
theorem qQ {scope:Scope} {env:Env} (h:∀ p∈scope.names,p.2=.free->(env.cells.lookup p.1).isSome=true) {x:Str} {c:Addr} (e:(vK scope env).lookup x=some c) :
  env.cells.lookup x=some c/\(x,NameKind.free)∈scope.names:=by
 rcases zMA scope.names [] x c (gU e) with z | ⟨z,q⟩
 ·cases z
 ·obtain ⟨d,hd⟩:=Option.isSome_iff_exists.mp (h _ z rfl)
  dsimp only at hd
  rw [hd] at q
  exact ⟨by rw [hd,q]; rfl,z⟩
theorem UN {scope:Scope} {env:Env} {x:Str} (h:(x,NameKind.free)∈scope.names):∃ c,(vK scope env).lookup x=some c:=by
 obtain ⟨c,hc⟩:=zMB (env:=env) scope.names [] x (.inl h)
 exact zFt hc
theorem zEu {scope:Scope} {env:Env} {x:Str} {k:NameKind} (h:(relabel scope env).names.lookup x=some k):(k=.cell/\((x,NameKind.free)∈scope.names\/(x,NameKind.cell)∈scope.names))\/(x,k)∈scope.names:=by
 have m:=gU h
 unfold relabel at m
 obtain ⟨⟨n,j⟩,hm,e⟩:=List.mem_map.mp m
 dsimp only at e
 split at e
 ·rename_i q
  injection e with e1 e2
  subst e1; subst e2
  have q1:j=NameKind.free:=by
   have:=(Bool.and_eq_true_iff.mp (Bool.and_eq_true_iff.mp q).1).1
   exact eq_of_beq this
  subst q1
  exact .inl ⟨rfl,.inl hm⟩
 ·injection e with e1 e2
  subst e1; subst e2
  exact .inr hm
end L2
namespace L2
open PySem
section
variable {prog:Program} {w:World} {A:Around} {R:Result->Shared->Prop} {s:Shared}
end
end L2
namespace L2
open PySem PySem.Spec PyProof.Rows
def Bd (n:Nat) (i:Int):Prop:=i.natAbs < 2 ^ n
theorem Bd.mono {n m:Nat} {i:Int} (h:Bd n i) (k:n<=m:=by decide):Bd m i:=Nat.lt_of_lt_of_le h (Nat.pow_le_pow_right (by decide) k)
theorem Bd.of_le {n:Nat} {i j:Int} (h:Bd n j) (k:i.natAbs<=j.natAbs):Bd n i:=Nat.lt_of_le_of_lt k h
theorem Bd.mul {n m:Nat} {i j:Int} (h:Bd n i) (k:Bd m j):Bd (n + m) (i * j):=by
 unfold Bd
 rw [Int.natAbs_mul,Nat.pow_add]
 rcases Nat.eq_zero_or_pos j.natAbs with z | z
 ·rw [z,Nat.mul_zero]
  exact Nat.mul_pos (Nat.two_pow_pos _) (Nat.two_pow_pos _)
 ·exact Nat.lt_of_lt_of_le (Nat.mul_lt_mul_of_pos_right h z) (Nat.mul_le_mul_left _ (Nat.le_of_lt k))
theorem Bd.add {n:Nat} {i j:Int} (h:Bd n i) (k:Bd n j):Bd (n + 1) (i + j):=by
 have h':i.natAbs < 2 ^ n:=h
 have k':j.natAbs < 2 ^ n:=k
 unfold Bd
 rw [Nat.pow_succ]
 have:=Int.natAbs_add_le i j
 omega
theorem Bd.neg {n:Nat} {i:Int} (h:Bd n i):Bd n (-i):=by
 unfold Bd
 rw [Int.natAbs_neg]
 exact h
theorem Bd.sub {n:Nat} {i j:Int} (h:Bd n i) (k:Bd n j):Bd (n + 1) (i - j):=by
 rw [Int.sub_eq_add_neg]
 exact h.add k.neg
theorem Bd.lit {n:Nat} {i:Int} (h:i.natAbs < 2 ^ n:=by decide):Bd n i:=h
theorem Bd.bits {n:Nat} {i:Int} (h:Bd n i):Builtin.Int.intBits i<=n:=by
 have h':i.natAbs < 2 ^ n:=h
 unfold Builtin.Int.intBits
 split
 ·exact Nat.zero_le _
 ·rename_i z
  have nz:i.natAbs≠0:=by
   intro q
   apply z
   rw [Int.natAbs_eq_zero.mp q]
   rfl
  exact (Nat.log2_lt nz).mpr h'
def Xk (i j:Int):Prop:=Bd 60000 i/\Bd 60000 j
def zR4 (_ j:Int):Prop:=j≠0/\Bd 8000 j
section
variable {X:Cx}
theorem Xk.ok {i j:Int} (h:Xk i j):IntMulOk i j:=by
 have h1:=h.1.bits
 have h2:=h.2.bits
 have hc:Builtin.Int.intTooBig (Builtin.Int.intBits i + Builtin.Int.intBits j)=false:=by
  unfold Builtin.Int.intTooBig
  rw [bitsLine_eq]
  exact decide_eq_false (by omega)
 unfold IntMulOk
 rw [hc]
 simp
theorem zPI:yw X (binaryOp .Mult) (rI Xk λi j=>.int (i * j)):=XX λ_ _ _ _ _ _ _ hc q=>mul_int q hc.ok
theorem zM2:yw X (binaryOp .FloorDiv) (rI zR4 λi j=>.int (i.fdiv j)):=XX λ_ _ _ _ _ _ _ hc q=>by
 refine floordiv_int hc.1 q (.inl (PyProof.noPylong_of_log2 ?_))
 have h':_ < 2 ^ 8000:=hc.2
 have nz:_≠0:=λz=>hc.1 (Int.natAbs_eq_zero.mp z)
 exact Nat.lt_trans ((Nat.log2_lt nz).mpr h') (by decide)
end
section
variable {X:Cx}
def zQh (K:PySem.W.Frag):List V->Hp->VK->Prop:=λxs H Q=>∃ x c t b,xs=[x,.ty c]/\yR K H x t/\PySem.W.kitOne K t (.type c)=some b/\Q (.bl b) H
theorem va:wM X (.builtin "isinstance") (zQh X.K):=by
 intro pins s σ H xs us Q I r h
 obtain ⟨x,c,t,b,rfl,ty,e,q⟩:=h
 obtain ⟨u,v,rfl,ru,rv⟩:=gQ r
 cases (show v=Value.type c from rv)
 exact zHv I ru ty e λtk=>⟨.bl b,H,I.tok tk,rfl,q⟩
end
mutual
inductive Dp (K:PySem.W.Frag) (H:Hp):V->PyData->Prop where
 | non:Dp K H .non .none
 | bl (b:Bool):Dp K H (.bl b) (.bool b)
 | int (i:Int):Dp K H (.int i) (.int i)
 | str (x:Str):Dp K H (.str x) (.str x)
 | lst {a:Addr} {xs:List V} {ds:List PyData} (e:zo K H a xs) (h:uS K H xs ds):Dp K H (.ref a) (.list ds)
 | tup {a:Addr} {xs:List V} {ds:List PyData} (e:yZ K H a xs) (h:uS K H xs ds):Dp K H (.ref a) (.tuple ds)
inductive uS (K:PySem.W.Frag) (H:Hp):List V->List PyData->Prop where
 | nil:uS K H [] []
 | cons {x:V} {xs:List V} {d:PyData} {ds:List PyData} (h:Dp K H x d) (t:uS K H xs ds):uS K H (x :: xs) (d :: ds)
end
section
variable {X:Cx} {pins:List (Addr × Obj)} {σ:St} {H:Hp} {s:Shared}
mutual
theorem Dp.reads (I:zE X pins σ H s):∀ {x:V} {d:PyData} {u:Value},Dp X.K H x d->zU x u->∃ as,Reads s.heap u d as
 | _,_,_,.non,r=>by cases r; exact ⟨_,.none⟩
 | _,_,_,.bl b,r=>by cases r; exact ⟨_,.bool b⟩
 | _,_,_,.int i,r=>by obtain ⟨t,rfl⟩:=r; exact ⟨_,.int i t⟩
 | _,_,_,.str x,r=>by obtain ⟨t,rfl⟩:=r; exact ⟨_,.str x t⟩
 | _,_,_,.lst e h,r=>by
  cases r
  obtain ⟨its,rv,⟨o,n,e1,e2,_,e3⟩,_⟩:=I.list e
  obtain ⟨as,q⟩:=uS.reads I h rv
  exact ⟨_,.list e1 e2 e3 (by simpa using q)⟩
 | _,_,_,.tup e h,r=>by
  cases r
  obtain ⟨its,rv,⟨o,e1,e2,n,e3⟩,_⟩:=I.tuple e
  obtain ⟨as,q⟩:=uS.reads I h rv
  exact ⟨_,.tuple e1 e2 e3 (by simpa using q)⟩
theorem uS.reads (I:zE X pins σ H s):∀ {xs:List V} {ds:List PyData} {us:List Value},uS X.K H xs ds->zM xs us->∃ as,ReadsAll s.heap us ds as
 | _,_,_,.nil,r=>by cases r; exact ⟨_,.nil⟩
 | _,_,_,.cons h t,r=>by
  cases r with
  | cons r1 r2=>
   obtain ⟨_,q1⟩:=Dp.reads I h r1
   obtain ⟨_,q2⟩:=uS.reads I t r2
   exact ⟨_,.cons q1 q2⟩
end
end
section
variable {X:Cx}
end
section
variable {X:Cx}
theorem uT (hc:X.calm=true):wM X (.builtin "all") (λxs H Q=>∃ (p:Addr) (bs:List Bool),xs=[.ref p]/\zo X.K H p (bs.map V.bl)/\Q (.bl (bs.all id)) H):=by
 intro pins s σ H xs us Q I r h
 obtain ⟨p,bs,rfl,hq,q⟩:=h
 obtain ⟨u,rfl,ru⟩:=uA r
 cases ru
 obtain ⟨its,rv,pl,hz⟩:=I.list hq
 have hh:X.A.in1.handled=none:=I.ok.hd hc
 have hlt:p < s.heap.objs.size:=by obtain ⟨o,n,e,_⟩:=pl; exact Heap.lt_size e
 refine call_all_walk (wpAny_pyIter_list pl.isList ?_)
 have hlen:its.length=bs.length:=by rw [<- rv.length,List.length_map]
 refine ⟨s.heap.objs.size,_,_,_,_,_,λi=>bs.getD i true,rfl,Walks.list hh s.heap.objs.size p (Nat.ne_of_lt hlt) its.toArray,⟨⟨_,Heap.get?_push_size _ rfl,rfl,rfl⟩,pl.isList.push _⟩,?_,λh' tk kk=>?_⟩
 ·intro i v s' Q' E' hP hQ'
  have e1:its[i]? = some v:=by simpa using hP
  have hi:i < its.length:=(List.getElem?_eq_some_iff.mp e1).1
  have hb:(bs.map V.bl)[i]? = some (.bl (bs.getD i true)):=by
   rw [List.getElem?_map,List.getElem?_eq_getElem (by omega),List.getD_eq_getElem?_getD,List.getElem?_eq_getElem (by omega)]
   rfl
  obtain ⟨u',e2,r2⟩:=rv.get hb
  rw [e1] at e2
  cases e2
  cases r2
  exact wpAny_truthy_bool hQ'
 ·have e:(List.range its.toArray.size).all (λi=>bs.getD i true)=bs.all id:=by
   rw [List.size_toArray,hlen]
   rw [Bool.eq_iff_iff,List.all_eq_true,List.all_eq_true]
   constructor
   ·intro z b hb
    obtain ⟨i,hi,rfl⟩:=List.mem_iff_getElem.mp hb
    have:=z i (List.mem_range.mpr hi)
    rw [List.getD_eq_getElem?_getD,List.getElem?_eq_getElem hi] at this
    exact this
   ·intro z i hi
    have hi':=List.mem_range.mp hi
    rw [List.getD_eq_getElem?_getD,List.getElem?_eq_getElem hi']
    exact z _ (List.getElem_mem hi')
  refine ⟨.bl (bs.all id),H,I.kept (h':=h') (t':=tk) λb o eb=>kk b o ?_ (Heap.get?_push_of_some _ eb),?_,q⟩
  ·intro hb
   have:b=s.heap.objs.size:=by simpa using hb
   rw [this] at eb
   exact absurd (Heap.lt_size eb) (Nat.lt_irrefl _)
  ·rw [e]
   rfl
end
end L2
namespace L2
open PySem PySem.Spec PyProof.Rows
def vm (own:List Str) (caps:List (Nat × Str)) (σ:St):St:=own.map (λ_=>none)++caps.map λp=>(σ[p.1]?).getD none
abbrev zn (own:List Str) (caps:List (Nat × Str)):List Str:=own++caps.map (·.2)
theorem zEt {scope:Scope} {env:Env} {x:Str}:(relabel scope env).names.lookup x=(scope.names.lookup x).map λk=>if (k == .free && env.scope.kind == .function && env.kindOf x == some .cell)=true then .cell else k:=by
 unfold relabel
 generalize scope.names=l
 induction l with
 | nil=>rfl
 | cons p r ih=>
  obtain ⟨n,k⟩:=p
  rw [List.map_cons]
  by_cases e:x=n
  ·subst e
   by_cases c:(k == NameKind.free && env.scope.kind == .function && env.kindOf x == some .cell)=true
   ·simp only [c,if_true,List.lookup_cons,beq_self_eq_true,Option.map_some]
   ·simp only [c,if_false,List.lookup_cons,beq_self_eq_true,Option.map_some,Bool.false_eq_true]
  ·have z:(x == n)=false:=by simpa using e
   dsimp only
   split <;> simp only [List.lookup_cons,z] <;> exact ih
section
variable {X:Cx} {scope:Scope} {own:List Str} {caps:List (Nat × Str)} {pins:List (Addr × Obj)} {σ:St} {H:Hp} {s s4:Shared} {C D:Addr} {fp:List Addr}
theorem zNi {i:Nat} {x:Str} {v:V} (h1:(zn own caps)[i]? = some x) (h2:(vm own caps σ)[i]? = some (some v)):∃ j,(j,x)∈caps/\σ[j]? = some (some v):=by
 unfold vm at h2
 by_cases hi:i < own.length
 ·rw [List.getElem?_append_left (by simpa using hi),List.getElem?_map] at h2
  cases e:own[i]? with
  | none=>rw [e] at h2; cases h2
  | some a=>rw [e] at h2; cases h2
 ·rw [List.getElem?_append_right (by simpa using hi),List.length_map,List.getElem?_map] at h2
  unfold zn at h1
  rw [List.getElem?_append_right (by omega),List.getElem?_map] at h1
  cases e:caps[i - own.length]? with
  | none=>rw [e] at h1; cases h1
  | some p=>
   obtain ⟨j,n⟩:=p
   rw [e] at h1 h2
   cases h1
   refine ⟨j,List.mem_of_getElem? e,?_⟩
   simp only [Option.map_some,Option.some.injEq] at h2
   cases q:σ[j]? with
   | none=>rw [q] at h2; cases h2
   | some o=>rw [q] at h2; exact congrArg some h2
abbrev xf (its:List Value) (k:Nat):Obj:={ cls:=.type "list",data:=.seq its.toArray k }
theorem zNj {Y:Cx} {its:List Value} {k:Nat} {y:Value} {pl:List (Addr × Obj)} {Q:Value->Shared->Prop} {E:Value->Shared->Prop} (I:zE Y ((D,xf its k) :: pl) σ H s) (hn:yN Y [] H D) (hp:Y.pn=[]) (hz:its.length<=sizeLine)
  (q:∀ h' k' tk,(∀ b o,b≠D->s.heap.get? b=some o->h'.get? b=some o)->zE Y [(D,xf (its++[y]) k')] σ H { s with heap:=h',toks:=tk }->Q .none { s with heap:=h',toks:=tk }) :
  wpAny (model Y.prog Y.w) Y.A (call (.builtin "list.append") [.ref D,y]) Q E s:=by
 have pD:=I.pin (D,xf its k) (List.mem_append_right _ List.mem_cons_self)
 have e:s.heap.get? D=some (xf its k):=pD.1
 refine call_meets F.slot_list_append ⟨_,e,rfl⟩ F.entry_list_append (F.args_list_append_2 _ _) (PySem.list_append D its.toArray k y (by rw [List.size_toArray]; exact hz)) ⟨e,?_⟩
 have e2:=PySem.IsL.update e (·.push y)
 have ea:its.toArray.push y=(its++[y]).toArray:=by simp
 have keep:∀ b o,b≠D->s.heap.get? b=some o->(s.heap.update D (Obj.mapSeq (·.push y))).get? b=some o:=λb o hb eb=>(Heap.get?_update_other s.heap _ (Ne.symm hb)).trans eb
 have I0:zE Y [] σ H s:=I.pins_of λp hp'=>by cases hp'
 have I1:zE Y [] σ H { s with heap:=s.heap.update D (Obj.mapSeq (·.push y)),toks:=s.toks }:=I0.turned keep hn.1 hn.2.1 hn.2.2.2.1 hn.2.2.2.2.1 hn.2.2.2.2.2
 have e3:(s.heap.update D (Obj.mapSeq (·.push y))).get? D=some (xf (its++[y]) _):=e2.trans (by rw [ea])
 have I2:zE Y [(D,xf (its++[y]) (if ((its++[y]).toArray.size == its.toArray.size)=true then k else k + 1))] σ H { s with heap:=s.heap.update D (Obj.mapSeq (·.push y)),toks:=s.toks }:=I1.pins_of λp hp'=>by
  rw [List.mem_singleton.mp hp']
  exact ⟨e3,hn.1,hn.2.1,hn.2.2.1,λv z=>by cases z⟩
 exact q _ _ s.toks keep I2
end
section
variable {X:Cx} {scope:Scope} {own:List Str} {caps:List (Nat × Str)} {elt tg iter:Expr} {wi:TI} {g:TG} {te:TE} {pos:Pos}
end
end L2
namespace L2
open PySem PySem.Spec PyProof.Rows
structure Fn (P:Program) (w:World) (K:PySem.W.Frag) (mg:Str->Option Value) (base:Heap) (x:Str) (ps:List Str) (k:Nat) (sp:Sp):Prop where
 ex:∃ f fd,zF P w K mg base zT k f fd ps sp/\mg x=some (.ref f)/\PySem.W.keepIn K (.ref f)=true/\vA K fd ps []
theorem Fn.mono {P:Program} {w:World} {K:PySem.W.Frag} {mg:Str->Option Value} {base:Heap} {x:Str} {ps:List Str} {j k:Nat} {sp:Sp} (F:Fn P w K mg base x ps j sp) (h:j<=k:=by decide):Fn P w K mg base x ps k sp:=by
 obtain ⟨f,fd,a,b,c,d⟩:=F.ex
 exact ⟨f,fd,a.mono h,b,c,d⟩
theorem zM0 {X:Cx} {x:Str} {ps:List Str} {k:Nat} {sp:Sp} {e:Expr} {es:List Expr} {t:TA} {p pos:Pos} (F:Fn X.prog X.w X.K X.mg X.base x ps k sp) (hr:zW k X.A) (hg:Gl X x) (ha:PA X (e :: es) t)
  (hdb:(x == ("__debug__" : Str))=false:=by decide) (he:starEach (e :: es) X.env=(false,eval e X.env) :: starEach es X.env:=by rfl) (hpl:(backTo pos (starEach es X.env)).any (·.1)=false:=by rfl) :
  PE X (.Call (.Name x p) (e :: es) [] pos) (qM sp [] E0 t):=by
 obtain ⟨f,fd,a,b,c,d⟩:=F.ex
 exact UB a hr hg b c d .nil Xi ha hdb he hpl
end L2
namespace L2
open PySem PySem.Spec PyProof.Rows
theorem ww:bootBuiltins "isinstance" = some (.builtin "isinstance"):=by decide +kernel
theorem ym:bootBuiltins "len" = some (.builtin "len"):=by decide +kernel
theorem zH4:bootBuiltins "abs" = some (.builtin "abs"):=by decide +kernel
theorem uU:bootBuiltins "all" = some (.builtin "all"):=by decide +kernel
theorem UO:bootBuiltins "int" = some (.type "int"):=by decide +kernel
theorem zKH:bootBuiltins "bool" = some (.type "bool"):=by decide +kernel
theorem vb:bootBuiltins "tuple" = some (.type "tuple"):=by decide +kernel
theorem wB:bootBuiltins "list" = some (.type "list"):=by decide +kernel
section
variable (K:PySem.W.Frag)
end
structure xT (K:PySem.W.Frag) (x qual:Str) (st:Stmt) (f:Addr) (fd:FuncData) (d:Value):Prop where
 ex:∃ (oc:Value) (od:Option Addr) (kV doc pm:Value) (an:Option Addr) (cdv ct:Value) (osl:Array (Option Value)) (T:Addr) (oT:Obj) (n:Nat),
  fd=PySem.W.fnOf x qual (wv st) (xS st) (zN st) (.ref T) kV doc pm an cdv ct/\K.lookup f=some ⟨oc,od,.func fd,osl⟩/\PySem.W.codeIn K cdv qual=true/\K.lookup T=some oT/\oT.data=.seq #[d] n
 kp:PySem.W.keepIn K (.ref f)=true
theorem xT.ok {P:Program} {w:World} {K:PySem.W.Frag} {mg:Str->Option Value} {base:Heap} {x qual:Str} {st:Stmt} {f:Addr} {fd:FuncData} {d:Value} {N ps:List Str} {k:Nat} {sp:Sp} (F:xT K x qual st f fd d) (S:zX N ps (zN st))
  (len:∀ vs H Q E,sp vs H Q E->vs.length=ps.length)
  (hbody:∀ (cdv:Value) (A:Around) (outer:List Env) (s:Shared) (H:Hp) (vs:List V) (Q:VK) (E:XK),zW k (A.deeper (envOfC qual (zN st) s.heap.objs.size f cdv))->sp vs H Q E->
   ∃ t,yq (za zT P w K mg base N qual (zN st) f cdv A outer s H E).nox (xS st) t/\t { nx:=λ_ H'=>Q .non H',rt:=Q } (wN N vs) H):zF P w K mg base zT (k + 1) f fd ps sp:=by
 obtain ⟨oc,od,kV,doc,pm,an,cdv,ct,osl,T,oT,n,rfl,lk,hcd,_⟩:=F.ex
 refine Xe lk hcd S len λA outer s H vs Q E hr hsp=>?_
 obtain ⟨t,h,q⟩:=hbody cdv A outer s H vs Q E hr hsp
 exact ⟨t,h.nox,q⟩
end L2
namespace L2
open PySem PySem.Spec PyProof.Rows
theorem zPg {K:PySem.W.Frag} {x qual:Str} {st:Stmt} {f T:Addr} {oc kV doc pm cdv ct d:Value} {od an:Option Addr} {osl:Array (Option Value)} {oT:Obj} {n:Nat} (l:K.lookup f=some ⟨oc,od,.func (PySem.W.fnOf x qual (wv st) (xS st) (zN st) (.ref T) kV doc pm an cdv ct),osl⟩)
  (c:PySem.W.codeIn K cdv qual=true) (k:PySem.W.keepIn K (.ref f)=true) (t:K.lookup T=some oT) (e:oT.data=.seq #[d] n):xT K x qual st f (PySem.W.fnOf x qual (wv st) (xS st) (zN st) (.ref T) kV doc pm an cdv ct) d:=
 ⟨⟨oc,od,kV,doc,pm,an,cdv,ct,osl,T,oT,n,rfl,l,c,t,e⟩,k⟩
theorem xT.binds {K:PySem.W.Frag} {x qual:Str} {st:Stmt} {f:Addr} {fd:FuncData} {d:Value} {ps:List Str} (F:xT K x qual st f fd d)
  (h:∀ (T:Addr) (kV doc pm:Value) (an:Option Addr) (cdv ct:Value) (us:List Value),us.length=ps.length->∃ k:Option (Array Value)->Sem (List (Str × Value)),
   bindArgs (PySem.W.fnOf x qual (wv st) (xS st) (zN st) (.ref T) kV doc pm an cdv ct) ⟨us,[]⟩=seqItems? (.ref T) >>= k/\k (some #[d])=pure (ps.zip us)):vA K fd ps []:=by
 obtain ⟨oc,od,kV,doc,pm,an,cdv,ct,osl,T,oT,n,rfl,lk,hcd,t,e⟩:=F.ex
 intro s us X hl
 rw [List.append_nil] at hl |-
 obtain ⟨k,h1,h2⟩:=h T kV doc pm an cdv ct us hl
 exact .of_defaults (T:=T) rfl (X T oT t) e h1 h2
end L2
namespace L2
open PySem PySem.Spec PyProof.Rows
structure wO (P:Program) (w:World) (K:PySem.W.Frag) (mg:Str->Option Value) (base:Heap) (x:Str) (ps:List Str) (k:Nat) (sp:Sp) (dv:V):Prop where
 ex:∃ f fd d,zF P w K mg base zT k f fd ps sp/\mg x=some (.ref f)/\PySem.W.keepIn K (.ref f)=true/\vA K fd ps []/\vA K fd ps [d]/\zU dv d
theorem wO.mono {P:Program} {w:World} {K:PySem.W.Frag} {mg:Str->Option Value} {base:Heap} {x:Str} {ps:List Str} {j k:Nat} {sp:Sp} {dv:V} (F:wO P w K mg base x ps j sp dv) (h:j<=k:=by decide):wO P w K mg base x ps k sp dv:=by
 obtain ⟨f,fd,d,a,b,c,e⟩:=F.ex
 exact ⟨f,fd,d,a.mono h,b,c,e⟩
theorem wO.fn {P:Program} {w:World} {K:PySem.W.Frag} {mg:Str->Option Value} {base:Heap} {x:Str} {ps:List Str} {k:Nat} {sp:Sp} {dv:V} (F:wO P w K mg base x ps k sp dv):Fn P w K mg base x ps k sp:=by
 obtain ⟨f,fd,d,a,b,c,e,_⟩:=F.ex
 exact ⟨f,fd,a,b,c,e⟩
theorem zK6 {X:Cx} {x:Str} {ps:List Str} {k:Nat} {sp:Sp} {e:Expr} {es:List Expr} {t:TA} {p pos:Pos} {dv:V} (F:wO X.prog X.w X.K X.mg X.base x ps k sp dv) (hr:zW k X.A) (hg:Gl X x) (ha:PA X (e :: es) t)
  (hdb:(x == ("__debug__" : Str))=false:=by decide) (he:starEach (e :: es) X.env=(false,eval e X.env) :: starEach es X.env:=by rfl) (hpl:(backTo pos (starEach es X.env)).any (·.1)=false:=by rfl) :
  PE X (.Call (.Name x p) (e :: es) [] pos) (qM sp [dv] E0 t):=by
 obtain ⟨f,fd,d,a,b,c,_,h2,r⟩:=F.ex
 exact UB a hr hg b c h2 (.cons r .nil) Xi ha hdb he hpl
theorem xT.binds1 {K:PySem.W.Frag} {x qual:Str} {st:Stmt} {f:Addr} {fd:FuncData} {d:Value} {ps:List Str} (F:xT K x qual st f fd d)
  (h:∀ (T:Addr) (kV doc pm:Value) (an:Option Addr) (cdv ct:Value) (us:List Value),us.length + 1=ps.length->∃ k:Option (Array Value)->Sem (List (Str × Value)),
   bindArgs (PySem.W.fnOf x qual (wv st) (xS st) (zN st) (.ref T) kV doc pm an cdv ct) ⟨us,[]⟩=seqItems? (.ref T) >>= k/\k (some #[d])=pure (ps.zip (us++[d]))):vA K fd ps [d]:=by
 obtain ⟨oc,od,kV,doc,pm,an,cdv,ct,osl,T,oT,n,rfl,lk,hcd,t,e⟩:=F.ex
 intro s us X hl
 rw [List.length_append,List.length_singleton] at hl
 obtain ⟨k,h1,h2⟩:=h T kV doc pm an cdv ct us hl
 exact .of_defaults (T:=T) rfl (X T oT t) e h1 h2
theorem zIs:bootBuiltins "range" = some (.type "range"):=by decide +kernel
end L2
namespace L2
theorem k8 {b:Bool} {A B:Prop} (e:b=true) (h:A):if b=true then A else B:=by
 rw [if_pos e]
 exact h
theorem zRq {i j:Int} (h:i≠j):decide (V.int i=V.int j)=false:=decide_eq_false λe=>h (by injection e)
theorem zPX {i j:Int} (h:i≠j):(!decide (V.int i=V.int j))=true:=by rw [zRq h]; rfl
end L2
set_option maxRecDepth 100000
namespace L2
open PySem
section
variable {prog:Program} {w:World} {A:Around} {E:Value->Shared->Prop} {s:Shared}
theorem zL4 (hh:A.handled=none) (it t:Addr) (hne:t≠it) (items:Array Value) :
  Draws prog w A it [it,t] items.size (λi v=>items[i]? = some v) (λi h=>h.IsTupleIter it t i/\h.IsTuple t items) where
 live:=λ_ _ st=>let ⟨o,ho,_⟩:=st.1; ⟨o,ho⟩
 frame:=λ_ _ _ st hk=>⟨let ⟨o,e,r⟩:=st.1; ⟨o,hk it (by simp) o e,r⟩,let ⟨o,e,r⟩:=st.2; ⟨o,hk t (by simp) o e,r⟩⟩
 item:=λi s Q E hi st hQ=>by
  obtain ⟨hit,ht⟩:=st
  obtain ⟨o,ho,hc,hd⟩:=id hit
  obtain ⟨ol,hol,_,nl,hdl⟩:=id ht
  have hx:items[i]? = some items[i]:=by simp [hi]
  unfold Builtin.SmallTypes.nextOf
  refine wpAny_bind (wpAny_callSpecial?_slot (name:=Str.ofString "__next__") hit.typeIs F.slot_tuple_iterator_next (wpAny_call_entry F.slot_tuple_iterator_next hit.typeIs F.entry_tuple_iterator_next ?_ (F.args_tuple_iterator_next_1 _)))
  change wpAny _ _ (field (.ref it) 0 >>= _) _ _ s
  refine wpAny_bind (wpAny_field ho hd (x:=.ref t) rfl ?_)
  change wpAny _ _ (if (Value.ref t == Value.none)=true then _ else _) _ _ s
  rw [if_neg (show (Value.ref t == Value.none)≠true from Bool.false_ne_true)]
  change wpAny _ _ (field (.ref it) 1 >>= _) _ _ s
  refine wpAny_bind (wpAny_field ho hd (x:=.int i 0) rfl ?_)
  change wpAny _ _ (seqItems? (.ref t) >>= _) _ _ s
  refine wpAny_bind (wpAny_seqItems hol hdl ?_)
  simp only [Int.toNat_natCast,hx]
  refine wpAny_bind (wpAny_setField ho hd (by simp) (wpAny_pure ⟨items[i],rfl,wpAny_pure (hQ _ _ s.toks hx ⟨?_,?_⟩ (Heap.SameBut.update ..))⟩))
  ·exact ⟨_,Heap.get?_update_self _ ho (Obj.isFreed_of_fields (Obj.data_mapFields hd _)),(Obj.cls_mapFields ..).trans hc,by rw [Obj.data_mapFields hd]; simp [rawInt]⟩
  ·exact ht.extBut (Heap.SameBut.update ..).extBut hne
 done:=λs Q E st hE=>by
  obtain ⟨hit,ht⟩:=st
  obtain ⟨o,ho,hc,hd⟩:=id hit
  obtain ⟨ol,hol,_,nl,hdl⟩:=id ht
  have hx:items[items.size]? = none:=by simp
  unfold Builtin.SmallTypes.nextOf
  refine wpAny_bind (wpAny_callSpecial?_slot (name:=Str.ofString "__next__") hit.typeIs F.slot_tuple_iterator_next (wpAny_call_entry F.slot_tuple_iterator_next hit.typeIs F.entry_tuple_iterator_next ?_ (F.args_tuple_iterator_next_1 _)))
  change wpAny _ _ (field (.ref it) 0 >>= _) _ _ s
  refine wpAny_bind (wpAny_field ho hd (x:=.ref t) rfl ?_)
  change wpAny _ _ (if (Value.ref t == Value.none)=true then _ else _) _ _ s
  rw [if_neg (show (Value.ref t == Value.none)≠true from Bool.false_ne_true)]
  change wpAny _ _ (field (.ref it) 1 >>= _) _ _ s
  refine wpAny_bind (wpAny_field ho hd (x:=.int items.size 0) rfl ?_)
  change wpAny _ _ (seqItems? (.ref t) >>= _) _ _ s
  refine wpAny_bind (wpAny_seqItems hol hdl ?_)
  simp only [Int.toNat_natCast,hx]
  refine wpAny_bind (wpAny_rule (wpAny_bind (wpAny_setField ho hd (by simp) ?_)))
  change wpAny _ _ (newExc (.type "StopIteration") [] >>= _) _ _ _
  refine wpAny_bind ?_
  simp only [newExc,newTuple]
  refine wpAny_bind (wpAny_newObj_type ?_ (by size_fits))
  refine wpAny_bind (m:=firstArgMember _ _) (wpAny_of_eq (a:=Value.none) (by first | rfl | (simp only [firstArgMember]; rfl)) ?_)
  refine wpAny_newObj_type ?_ (by size_fits)
  simp only [raiseNew]
  refine wpAny_bind (wpAny_handled ?_)
  first | rw [show A.in1.handled=none from hh] | rw [hh]
  refine wpAny_bind (wpAny_pure (wpAny_throw ?_))
  exact hE _ _ (((Heap.SameBut.update ..).extBut.push _).push _) ⟨_,Heap.get?_push_size _ rfl,rfl⟩
structure Zp (z TI TO i1 i2:Addr) (f1 f2:List Addr):Prop where
 a1:TI≠z
 a2:TO≠z
 a3:i1≠z
 a4:i2≠z
 a5:TI≠TO
 a6:TI≠i1
 a7:TI≠i2
 a8:TO≠i1
 a9:TO≠i2
 b1:z∉f1
 b2:z∉f2
 b3:TO∉f1
 b4:TO∉f2
 b5:i1∉f2
 b6:i2∉f1
theorem zMR {z TI TO i1 i2:Addr} {f1 f2:List Addr} {n1 n2 k:Nat} {P1 P2:Nat->Value->Prop} {S1 S2:Nat->Heap->Prop} {a b:Value} {Q:Value->Shared->Prop}
  (D1:Draws prog w A i1 f1 n1 P1 S1) (D2:Draws prog w A i2 f2 n2 P2 S2) (Z:Zp z TI TO i1 i2 f1 f2) (hz:IsZip s.heap z TI TO .none) (hI:IsPair s.heap TI (.ref i1) (.ref i2)) (hO:IsPair s.heap TO a b)
  (s1:S1 k s.heap) (s2:S2 k s.heap) (k1:k < n1) (k2:k < n2)
  (hQ:∀ x y h' tk,P1 k x->P2 k y->IsZip h' z TI TO (rawInt s.heap.objs.size)->IsPair h' TI (.ref i1) (.ref i2)->IsPair h' TO x y->S1 (k + 1) h'->S2 (k + 1) h'->IsPair h' s.heap.objs.size x y->
   (∀ c o,c≠z->c≠TO->c≠i1->c≠i2->s.heap.get? c=some o->h'.get? c=some o)->Q (.ref s.heap.objs.size) { s with heap:=h',toks:=tk }) :
  wpAny (model prog w) A (Builtin.«zip.__next__» ⟨[.ref z],[]⟩) (λfin s'=>∃ v,fin=.done (.ret v)/\Q v s') E s:=by
 change wpAny _ _ (field (.ref z) 2 >>= _) _ _ _
 refine wpAny_bind (wpAny_field hz rfl (x:=.bool false) rfl ?_)
 change wpAny _ _ (field (.ref z) 3 >>= _) _ _ _
 refine wpAny_bind (wpAny_field hz rfl (x:=.ref TI) rfl ?_)
 refine wpAny_bind (wpAny_seqItems hI rfl ?_)
 change wpAny _ _ (Builtin.SmallTypes.ownedTupleIsFree (.ref z) >>= _) _ _ _
 refine wpAny_bind ?_
 unfold Builtin.SmallTypes.ownedTupleIsFree
 refine wpAny_bind (wpAny_field hz rfl (x:=.none) rfl (wpAny_pure ?_))
 simp only [if_true]
 refine wpAny_bind (wpAny_rule ?_)
 refine wpAny_bind (wpAny_field hz rfl (x:=.ref TO) rfl ?_)
 refine wpAny_bind (wpAny_setField_rec hz (by simp) λg1 z1 m1=>?_)
 replace z1:IsZip g1 z TI TO .ellipsis:=z1
 refine wpAny_bind ?_
 simp only [List.zipIdx_cons,List.zipIdx_nil,List.forIn_cons,List.forIn_nil]
 refine wpAny_bind (wpAny_bind (wpAny_onRaise ?_))
 change wpAny _ _ (Builtin.SmallTypes.nextOf (.ref i1) >>= _) _ _ _
 refine wpAny_bind (D1.item k _ _ _ k1 (D1.frame _ _ _ s1 λc hc o e=>m1.extBut c o (λq=>Z.b1 (q ▸ hc)) e) λx g2 t2 px s12 m2=>wpAny_pure ?_)
 have o2:IsPair g2 TO a b:=m2.extBut _ _ Z.a8 (m1.extBut _ _ Z.a2 hO)
 refine wpAny_bind (wpAny_seqItems o2 rfl ?_)
 refine wpAny_bind (wpAny_updateSeq_pair o2 λg3 o3 m3=>?_)
 replace o3:IsPair g3 TO x b:=o3
 refine wpAny_bind (wpAny_letGo (wpAny_pure ?_))
 refine wpAny_bind (wpAny_bind (wpAny_onRaise ?_))
 change wpAny _ _ (Builtin.SmallTypes.nextOf (.ref i2) >>= _) _ _ _
 refine wpAny_bind (D2.item k _ _ _ k2 (D2.frame _ _ _ s2 λc hc o e=>m3.extBut c o (λq=>Z.b4 (q ▸ hc)) (m2.extBut c o (λq=>Z.b5 (q ▸ hc)) (m1.extBut c o (λq=>Z.b2 (q ▸ hc)) e))) λy g4 t4 py s24 m4=>wpAny_pure ?_)
 have o4:IsPair g4 TO x b:=m4.extBut _ _ Z.a9 o3
 refine wpAny_bind (wpAny_seqItems o4 rfl ?_)
 refine wpAny_bind (wpAny_updateSeq_pair o4 λg5 o5 m5=>?_)
 replace o5:IsPair g5 TO x y:=o5
 refine wpAny_bind (wpAny_letGo (wpAny_pure (wpAny_pure ?_)))
 refine wpAny_bind (wpAny_seqItems o5 rfl ?_)
 refine wpAny_bind (wpAny_newTuple ?_)
 have sz:g5.objs.size=s.heap.objs.size:=by
  have q5:g5.objs.size=g4.objs.size:=m5.1
  have q4:g4.objs.size=g3.objs.size:=m4.1
  have q3:g3.objs.size=g2.objs.size:=m3.1
  have q2:g2.objs.size=g1.objs.size:=m2.1
  have q1:g1.objs.size=s.heap.objs.size:=m1.1
  omega
 have all5:∀ c o,c≠z->c≠TO->c≠i1->c≠i2->s.heap.get? c=some o->g5.get? c=some o:=λc o c1 c2 c3 c4 e=>m5.extBut _ _ c2 (m4.extBut _ _ c4 (m3.extBut _ _ c2 (m2.extBut _ _ c3 (m1.extBut _ _ c1 e))))
 have z5:IsZip g5 z TI TO .ellipsis:=m5.extBut _ _ Z.a2.symm (m4.extBut _ _ Z.a4.symm (m3.extBut _ _ Z.a2.symm (m2.extBut _ _ Z.a3.symm z1)))
 have I5:IsPair g5 TI (.ref i1) (.ref i2):=all5 _ _ Z.a1 Z.a5 Z.a6 Z.a7 hI
 have u1:S1 (k + 1) g5:=D1.frame _ _ _ s12 λc hc o e=>m5.extBut c o (λq=>Z.b3 (q ▸ hc)) (m4.extBut c o (λq=>Z.b6 (q ▸ hc)) (m3.extBut c o (λq=>Z.b3 (q ▸ hc)) e))
 have u2:S2 (k + 1) g5:=D2.frame _ _ _ s24 λc hc o e=>m5.extBut c o (λq=>Z.b4 (q ▸ hc)) e
 have lt:z < g5.objs.size:=Heap.lt_size z5
 change wpAny _ _ (Builtin.SmallTypes.ownedTupleHandOut (.ref z) (.ref g5.objs.size) >>= _) _ _ _
 refine wpAny_bind ?_
 unfold Builtin.SmallTypes.ownedTupleHandOut
 have z6:IsZip (g5.push { cls:=.type "tuple",data:=.seq #[x,y] }) z TI TO .ellipsis:=Heap.get?_push_of_some _ z5
 refine wpAny_bind (wpAny_setField_rec z6 (by simp) λg7 z7 m7=>?_)
 replace z7:IsZip g7 z TI TO (rawInt g5.objs.size):=z7
 refine wpAny_setField_rec z7 (by simp) λg8 z8 m8=>?_
 replace z8:IsZip g8 z TI TO (rawInt g5.objs.size):=z8
 have up:∀ c o,c≠z->g5.get? c=some o->g8.get? c=some o:=λc o c1 e=>m8.extBut _ _ c1 (m7.extBut _ _ c1 (Heap.get?_push_of_some _ e))
 have T8:IsPair g8 g5.objs.size x y:=m8.extBut _ _ (Nat.ne_of_gt lt) (m7.extBut _ _ (Nat.ne_of_gt lt) (Heap.get?_push_size _ rfl))
 rw [sz] at z8 T8
 refine wpAny_pure ⟨_,rfl,?_⟩
 change Q (.ref g5.objs.size) _
 rw [sz]
 exact hQ x y g8 _ px py z8 (up _ _ Z.a1 I5) (up _ _ Z.a2 o5) (D1.frame _ _ _ u1 λc hc o e=>up c o (λq=>Z.b1 (q ▸ hc)) e) (D2.frame _ _ _ u2 λc hc o e=>up c o (λq=>Z.b2 (q ▸ hc)) e) T8
  λc o c1 c2 c3 c4 e=>up c o c1 (all5 c o c1 c2 c3 c4 e)
theorem zMO {z TI TO i1 i2:Addr} {f1 f2:List Addr} {n1 n2 k:Nat} {P1 P2:Nat->Value->Prop} {S1 S2:Nat->Heap->Prop} {a b:Value} {Q:Fin->Shared->Prop}
  (D1:Draws prog w A i1 f1 n1 P1 S1) (D2:Draws prog w A i2 f2 n2 P2 S2) (Z:Zp z TI TO i1 i2 f1 f2) (hz:IsZip s.heap z TI TO .none) (hI:IsPair s.heap TI (.ref i1) (.ref i2)) (hO:IsPair s.heap TO a b)
  (s1:S1 k s.heap) (s2:S2 k s.heap) (k1:k<=n1) (k2:k<=n2) (ke:k=n1\/k=n2)
  (hE:∀ h' e tk,(∀ c o,c≠z->c≠TO->c≠i1->c≠i2->s.heap.get? c=some o->h'.get? c=some o)->(∃ o,h'.get? e=some o/\o.cls=.type "StopIteration")->E (.ref e) { s with heap:=h',toks:=tk }) :
  wpAny (model prog w) A (Builtin.«zip.__next__» ⟨[.ref z],[]⟩) Q E s:=by
 change wpAny _ _ (field (.ref z) 2 >>= _) _ _ _
 refine wpAny_bind (wpAny_field hz rfl (x:=.bool false) rfl ?_)
 change wpAny _ _ (field (.ref z) 3 >>= _) _ _ _
 refine wpAny_bind (wpAny_field hz rfl (x:=.ref TI) rfl ?_)
 refine wpAny_bind (wpAny_seqItems hI rfl ?_)
 change wpAny _ _ (Builtin.SmallTypes.ownedTupleIsFree (.ref z) >>= _) _ _ _
 refine wpAny_bind ?_
 unfold Builtin.SmallTypes.ownedTupleIsFree
 refine wpAny_bind (wpAny_field hz rfl (x:=.none) rfl (wpAny_pure ?_))
 simp only [if_true]
 refine wpAny_bind (wpAny_rule ?_)
 refine wpAny_bind (wpAny_field hz rfl (x:=.ref TO) rfl ?_)
 refine wpAny_bind (wpAny_setField_rec hz (by simp) λg1 z1 m1=>?_)
 replace z1:IsZip g1 z TI TO .ellipsis:=z1
 refine wpAny_bind ?_
 simp only [List.zipIdx_cons,List.zipIdx_nil,List.forIn_cons,List.forIn_nil]
 refine wpAny_bind (wpAny_bind (wpAny_onRaise ?_))
 change wpAny _ _ (Builtin.SmallTypes.nextOf (.ref i1) >>= _) _ _ _
 have s1':S1 k g1:=D1.frame _ _ _ s1 λc hc o e=>m1.extBut c o (λq=>Z.b1 (q ▸ hc)) e
 by_cases c1:k=n1
 ·subst c1
  refine wpAny_bind (D1.done _ _ _ s1' λg2 e m2 he=>?_)
  obtain ⟨oe,he1,he2⟩:=he
  have z2:IsZip g2 z TI TO .ellipsis:=m2 _ _ Z.a3.symm z1
  have nez:e≠z:=λq=>by subst q; rw [z2] at he1; cases he1; simp at he2
  exact wpAny_setField_rec z2 (by simp) λg3 _ m3=>hE g3 e _ (λc o c1 c2 c3 c4 q=>m3.extBut _ _ c1 (m2 _ _ c3 (m1.extBut _ _ c1 q))) ⟨oe,m3.extBut _ _ nez he1,he2⟩
 ·have c2:k=n2:=ke.resolve_left c1
  subst c2
  refine wpAny_bind (D1.item k _ _ _ (by omega) s1' λx g2 t2 px s12 m2=>wpAny_pure ?_)
  have o2:IsPair g2 TO a b:=m2.extBut _ _ Z.a8 (m1.extBut _ _ Z.a2 hO)
  refine wpAny_bind (wpAny_seqItems o2 rfl ?_)
  refine wpAny_bind (wpAny_updateSeq_pair o2 λg3 o3 m3=>?_)
  refine wpAny_bind (wpAny_letGo (wpAny_pure ?_))
  refine wpAny_bind (wpAny_bind (wpAny_onRaise ?_))
  change wpAny _ _ (Builtin.SmallTypes.nextOf (.ref i2) >>= _) _ _ _
  refine wpAny_bind (D2.done _ _ _ (D2.frame _ _ _ s2 λc hc o e=>m3.extBut c o (λq=>Z.b4 (q ▸ hc)) (m2.extBut c o (λq=>Z.b5 (q ▸ hc)) (m1.extBut c o (λq=>Z.b2 (q ▸ hc)) e))) λg4 e m4 he=>?_)
  obtain ⟨oe,he1,he2⟩:=he
  have z4:IsZip g4 z TI TO .ellipsis:=m4 _ _ Z.a4.symm (m3.extBut _ _ Z.a2.symm (m2.extBut _ _ Z.a3.symm z1))
  have nez:e≠z:=λq=>by subst q; rw [z4] at he1; cases he1; simp at he2
  exact wpAny_setField_rec z4 (by simp) λg5 _ m5=>hE g5 e _ (λc o c1 c2 c3 c4 q=>m5.extBut _ _ c1 (m4 _ _ c4 (m3.extBut _ _ c2 (m2.extBut _ _ c3 (m1.extBut _ _ c1 q))))) ⟨oe,m5.extBut _ _ nez he1,he2⟩
end
section
variable {prog:Program} {w:World} {A:Around} {E:Value->Shared->Prop} {s:Shared}
theorem zMP {z TI TO i1 i2:Addr} {f1 f2:List Addr} {n1 n2 k:Nat} {P1 P2:Nat->Value->Prop} {S1 S2:Nat->Heap->Prop} {a b:Value} {Q:Option Value->Shared->Prop}
  (D1:Draws prog w A.in1 i1 f1 n1 P1 S1) (D2:Draws prog w A.in1 i2 f2 n2 P2 S2) (Z:Zp z TI TO i1 i2 f1 f2) (hz:IsZip s.heap z TI TO .none) (hI:IsPair s.heap TI (.ref i1) (.ref i2)) (hO:IsPair s.heap TO a b)
  (s1:S1 k s.heap) (s2:S2 k s.heap) (k1:k < n1) (k2:k < n2)
  (hQ:∀ x y h' tk,P1 k x->P2 k y->IsZip h' z TI TO (rawInt s.heap.objs.size)->IsPair h' TI (.ref i1) (.ref i2)->IsPair h' TO x y->S1 (k + 1) h'->S2 (k + 1) h'->IsPair h' s.heap.objs.size x y->
   (∀ c o,c≠z->c≠TO->c≠i1->c≠i2->s.heap.get? c=some o->h'.get? c=some o)->Q (some (.ref s.heap.objs.size)) { s with heap:=h',toks:=tk }) :
  wpAny (model prog w) A (pyNext (.ref z)) Q E s:=by
 have ty:s.TypeIs (.ref z) "zip":=⟨_,hz,rfl⟩
 unfold pyNext
 refine wpAny_bind (wpAny_attempt (wpAny_callSpecial?_slot (name:=Str.ofString "__next__") ty F.slot_zip_next (wpAny_call_entry F.slot_zip_next ty F.entry_zip_next ?_ (F.args_zip_next_1 _))))
 exact zMR D1 D2 Z hz hI hO s1 s2 k1 k2 λx y h' tk c1 c2 c3 c4 c5 c6 c7 c8 c9=>wpAny_pure (hQ x y h' tk c1 c2 c3 c4 c5 c6 c7 c8 c9)
theorem zOc {z TI TO i1 i2:Addr} {f1 f2:List Addr} {n1 n2 k:Nat} {P1 P2:Nat->Value->Prop} {S1 S2:Nat->Heap->Prop} {a b:Value} {Q:Option Value->Shared->Prop}
  (D1:Draws prog w A.in1 i1 f1 n1 P1 S1) (D2:Draws prog w A.in1 i2 f2 n2 P2 S2) (Z:Zp z TI TO i1 i2 f1 f2) (hz:IsZip s.heap z TI TO .none) (hI:IsPair s.heap TI (.ref i1) (.ref i2)) (hO:IsPair s.heap TO a b)
  (s1:S1 k s.heap) (s2:S2 k s.heap) (k1:k<=n1) (k2:k<=n2) (ke:k=n1\/k=n2)
  (hQ:∀ h' tk,(∀ c o,c≠z->c≠TO->c≠i1->c≠i2->s.heap.get? c=some o->h'.get? c=some o)->Q none { s with heap:=h',toks:=tk }) :
  wpAny (model prog w) A (pyNext (.ref z)) Q E s:=by
 have ty:s.TypeIs (.ref z) "zip":=⟨_,hz,rfl⟩
 unfold pyNext
 refine wpAny_bind (wpAny_attempt (wpAny_callSpecial?_slot (name:=Str.ofString "__next__") ty F.slot_zip_next (wpAny_call_entry F.slot_zip_next ty F.entry_zip_next
  (zMO D1 D2 Z hz hI hO s1 s2 k1 k2 ke λh' e tk keep he=>?_) (F.args_zip_next_1 _))))
 obtain ⟨o,ho,hc⟩:=he
 refine wpAny_bind (wpAny_isInstance (T:="StopIteration") (b:=true) ⟨o,ho,hc⟩ isSubtype_stop ?_)
 exact wpAny_pure (hQ _ _ keep)
end
end L2
namespace L2
open PySem PySem.Spec PyProof.Rows
theorem k9 {vs:Array Value} (v:Option Value):Data.fields vs≠Data.cell v:=λz=>by cases z
theorem zFI {vs:Array Value} {n:Nat} (v:Option Value):Data.seq vs n≠Data.cell v:=λz=>by cases z
theorem zE.turnT {X:Cx} {pins:List (Addr × Obj)} {σ:St} {H:Hp} {s:Shared} {h':Heap} {tk:Nat} {ch:List Addr} {T:Addr} {x y:V} {u v:Value} (I:zE X pins σ H s) (hf:∀ b∈ch,yN X pins H b) (keep:∀ b o,b∉ch->s.heap.get? b=some o->h'.get? b=some o)
  (hT:s.heap.objs.size<=T) (p:IsPair h' T u v) (rx:zU x u) (ry:zU y v):zE X pins σ (zb H T (.tup [x,y])) { s with heap:=h',toks:=tk }:=by
 have fr:H T=none:=I.hok.fresh hT
 have nT:∀ b o,s.heap.get? b=some o->b≠T:=λb o e z=>by rw [z] at e; exact absurd (Nat.lt_of_lt_of_le (Heap.lt_size e) hT) (Nat.lt_irrefl _)
 have ur:∀ b o,H b=some o->b∉ch:=λb o e z=>by rw [(hf b z).1] at e; cases e
 refine I.step (ch:=ch) (λb hb=>⟨(hf b hb).2.2.2.1,(hf b hb).2.1,(hf b hb).2.2.2.2.1,(hf b hb).2.2.2.2.2⟩) (λb o _ _ hc e _=>keep b o hc e) (λb o _ _ hc e _=>⟨o.slots,keep b o hc e⟩)
  (λb o _ e n=>by rw [zv (nT b o e)]; exact n) (λb o hc e=>⟨o,keep b o hc e⟩) (λb xs e=>by rw [zv (wV e fr)]; exact e) (λb o w e=>by rw [zv (wV e fr)]; exact e)
  (λb ps e=>⟨#[],by rw [zv (wV e fr),e]; simp⟩) (λm hm=>?_) (λb w e=>?_) I.bare
 ·obtain ⟨o,es,ep,ho,r⟩:=hm
  exact ⟨o,es,ep,keep _ o (λz=>(hf _ z).2.1 rfl) ho,r⟩
 ·by_cases hb:b=T
  ·subst hb
   rw [xb] at e
   cases e
   exact ⟨by show 2<=sizeLine; decide,[u,v],.cons rx (.cons ry .nil),⟨_,p,rfl,_,rfl⟩⟩
  ·rw [zv hb] at e
   refine (I.hok b w e).stay (λc q hc ec=>keep c q ?_ ec) (λc ec=>by rw [zv (wV ec fr)]; exact ec) λc xs ec=>by rw [zv (wV ec fr)]; exact ec
   rcases hc with z | z
   ·rw [z]
    exact ur b w e
   ·exact ur c _ z
theorem zE.turnN {X:Cx} {pins:List (Addr × Obj)} {σ:St} {H:Hp} {s:Shared} {h':Heap} {tk:Nat} {ch:List Addr} (I:zE X pins σ H s) (hf:∀ b∈ch,yN X pins H b) (keep:∀ b o,b∉ch->s.heap.get? b=some o->h'.get? b=some o) :
  zE X pins σ H { s with heap:=h',toks:=tk }:=by
 have ur:∀ b o,H b=some o->b∉ch:=λb o e z=>by rw [(hf b z).1] at e; cases e
 refine I.step (ch:=ch) (λb hb=>⟨(hf b hb).2.2.2.1,(hf b hb).2.1,(hf b hb).2.2.2.2.1,(hf b hb).2.2.2.2.2⟩) (λb o _ _ hc e _=>keep b o hc e) (λb o _ _ hc e _=>⟨o.slots,keep b o hc e⟩)
  (λb o _ e n=>n) (λb o hc e=>⟨o,keep b o hc e⟩) (λb xs e=>e) (λb o w e=>e) (λb ps e=>⟨#[],by rw [e]; simp⟩) (λm hm=>?_) (λb w e=>?_) I.bare
 ·obtain ⟨o,es,ep,ho,r⟩:=hm
  exact ⟨o,es,ep,keep _ o (λz=>(hf _ z).2.1 rfl) ho,r⟩
 ·refine (I.hok b w e).stay (λc q hc ec=>keep c q ?_ ec) (λc ec=>ec) λc xs ec=>ec
  rcases hc with z | z
  ·rw [z]
   exact ur b w e
  ·exact ur c _ z
theorem vn {x y z:Nat} (h1:x≠y) (h2:x≠z):x∉[y,z]:=by simp [h1,h2]
theorem ZA (n a b:Nat) (la:a < n) (lb:b < n):Zp (n + 4) (n + 2) (n + 3) n (n + 1) [n,a] [n + 1,b]:=by
 have e:∀ x y:Nat,x≠y->(x:Addr)≠y:=λ_ _ h=>h
 exact ⟨e _ _ (by omega),e _ _ (by omega),e _ _ (by omega),e _ _ (by omega),e _ _ (by omega),e _ _ (by omega),e _ _ (by omega),e _ _ (by omega),e _ _ (by omega),
  vn (by omega) (by omega),vn (by omega) (by omega),vn (by omega) (by omega),vn (by omega) (by omega),vn (by omega) (by omega),vn (by omega) (by omega)⟩
section
variable {X:Cx} {es:List Expr} {kk:Nat} {tp:Pos}
end
end L2
namespace L2
open PySem PySem.Spec PyProof.Rows
section
variable {κ:Type} [DecidableEq κ]
end
section
variable {P:Program} {w:World} {H:Hp} {h:Heap} {a:Addr}
end
section
variable {X:Cx} {pins:List (Addr × Obj)} {σ:St} {H:Hp} {s:Shared} {a:Addr} {y v:V} {u r:Value} {o:Option V} {A:Around} {E:Value->Shared->Prop}
end
section
variable {X:Cx} {pins:List (Addr × Obj)} {σ:St} {H:Hp} {s:Shared} {a:Addr} {kvs:List (wL × V)} {k:wL} {u:Value} {A:Around} {E:Value->Shared->Prop}
end
section
variable {X:Cx} {o i e value:Expr} {pos pos' tpos:Pos} {td ty tv:TE}
end
section
variable {X:Cx} {pos:Pos}
end
end L2
namespace L2
open PySem
section
variable {prog:Program} {w:World} {A:Around} {R:Result->Shared->Prop} {s:Shared}
end
end L2
namespace L2
open PySem PySem.Spec PyProof.Rows
def UP (J:It) (g:TG) (tc:TT) (te:TE) (Q:VK) (σ0:St) (H0:Hp):Prop:=∃ W:Nat->Nat->List V->St->Hp->Prop,(∃ m,W 0 m [] σ0 H0)/\∀ i m ys σ1 H,W i m ys σ1 H->
 (J.stop i H/\∀ p,H p=none->Q (.ref p) (zb H p (.lst ys)))\/(J.go i H/\ys.length < sizeLine/\∃ (N:V->St->Hp->Prop) (N0:St->Hp->Prop),(∀ y σ' H',N y σ' H'->∃ m',m' < m/\W (i + 1) m' (ys++[y]) σ' H')/\(∀ σ' H',N0 σ' H'->∃ m',m' < m/\W (i + 1) m' ys σ' H')∧
    ∀ x H',J.yld i H x H'->g x σ1 H' λσ2 H2=>tc σ2 H2 λb H3=>if b=true then te σ2 H3 λy H4=>N y σ2 H4 else N0 σ2 H3)
def zNx (own:List Str) (caps:List (Nat × Str)) (wi:TI) (g:TG) (tc:TT) (te:TE):TE:=λσ H Q=>wi σ H λJ H1=>UP J g tc te Q (vm own caps σ) H1
section
variable {X:Cx} {scope:Scope} {own:List Str} {caps:List (Nat × Str)} {elt tg iter cond:Expr} {wi:TI} {g:TG} {tc:TT} {te:TE} {pos:Pos}
end
end L2
namespace L2
open PySem PySem.Spec PyProof.Rows
section
variable {prog:Program} {w:World} {A:Around} {E:Value->Shared->Prop} {s:Shared}
end
end L2
namespace L2
open PySem PySem.Spec PyProof.Rows
section
variable {X:Cx}
theorem zOC (hu:X.A.units + 64 < cLine):yw X (compareOp .NotEq) (λx y H Q=>∃ d e:PyData,Dp X.K H x d/\Dp X.K H y e/\d.canLay0=true/\e.canLay0=true/\d.depth<=60/\e.depth<=60/\Q (.bl (!PyData.eqv d e)) H):=by
 intro pins s σ H x y v u Q I rx ry h
 obtain ⟨d,e,hx,hy,hc,hc',hd,hd',q⟩:=h
 obtain ⟨_,r1⟩:=hx.reads I rx
 obtain ⟨_,r2⟩:=hy.reads I ry
 exact SeqAt.compareNe_reads r1 r2 hc hc' (by omega) ⟨.bl _,H,I,rfl,q⟩
end
end L2
namespace L2
open PySem PySem.Spec PyProof.Rows
section
variable {X:Cx}
end
end L2
namespace L2
open PySem
theorem zH3:bootBuiltins "max" = some (.builtin "max"):=by decide +kernel
end L2
namespace L2
open PySem PySem.Spec PyProof.Rows
theorem ZB:bootBuiltins "sum" = some (.builtin "sum"):=by decide +kernel
theorem zHw:∀ {ns:List Int} {its:List Value},zM (ns.map V.int) its->∃ zs:List (Int × Tok),its=zs.map (λp=>Value.int p.1 p.2)/\zs.map (·.1)=ns
 | [],_,.nil=>⟨[],rfl,rfl⟩
 | n :: r,_,.cons h t=>by
  obtain ⟨zs,e1,e2⟩:=zHw t
  obtain ⟨tk,rfl⟩:=h
  exact ⟨(n,tk) :: zs,by rw [e1]; rfl,by rw [List.map_cons,e2]⟩
section
variable {X:Cx}
theorem ZC (hc:X.calm=true):wM X (.builtin "sum") (λxs H Q=>∃ (p:Addr) (ns:List Int),xs=[.ref p]/\zo X.K H p (ns.map V.int)/\Q (.int ns.sum) H):=by
 intro pins s σ H xs us Q I r h
 obtain ⟨p,ns,rfl,hq,q⟩:=h
 obtain ⟨u,rfl,ru⟩:=uA r
 cases ru
 obtain ⟨its,rv,pl,hz⟩:=I.list hq
 obtain ⟨zs,e1,e2⟩:=zHw rv
 have e3:its.toArray=intItems zs.toArray:=by
  rw [e1]
  unfold intItems
  simp
 have hl:=pl.isList
 rw [e3] at hl
 refine sum_intListG (I.ok.hd hc) hl λh' tk t' kk=>⟨.int ns.sum,H,I.kept (h':=h') (t':=tk) kk,⟨t',?_⟩,q⟩
 rw [preSum_eq,List.take_of_length_le (by simp),e2]
end
end L2
namespace L2
open PySem PySem.Spec PyProof.Rows
theorem ZD {a b c d:Nat} (h1:a < b) (h2:b<=c) (h3:c + 1<=d):d≠a:=by omega
theorem UQ {a b c:Nat} (h1:c=a + 1) (h2:c + 1<=b):b≠a:=by omega
theorem Xl {x:Str} {c:Addr}:∀ (names:List (Str × NameKind)) (n:Nat) (acc:List (Str × Addr)),(cellsFrom n names acc).lookup x=some c->((x,NameKind.cell)∈names/\n<=c)\/acc.lookup x=some c
 | [],_,_,h=>.inr h
 | (y,k) :: r,n,acc,h=>by
  unfold cellsFrom at h
  split at h
  ·rename_i hk
   rcases Xl r (n + 1) ((y,n) :: acc) h with ⟨a,b⟩ | z
   ·exact .inl ⟨List.mem_cons_of_mem _ a,by omega⟩
   ·rw [List.lookup_cons] at z
    by_cases e:(x == y)=true
    ·simp only [e] at z
     have e1:x=y:=eq_of_beq e
     have e2:k=.cell:=eq_of_beq hk
     subst e1
     subst e2
     cases z
     exact .inl ⟨List.mem_cons_self,Nat.le_refl _⟩
    ·have e':(x == y)=false:=by simpa using e
     simp only [e'] at z
     exact .inr z
  ·rcases Xl r n acc h with ⟨a,b⟩ | z
   ·exact .inl ⟨List.mem_cons_of_mem _ a,b⟩
   ·exact .inr z
theorem UR {x:Str}:∀ (names:List (Str × NameKind)) (n:Nat) (acc:List (Str × Addr)),(x,NameKind.cell)∉names->(cellsFrom n names acc).lookup x=acc.lookup x
 | [],_,_,_=>rfl
 | (y,k) :: r,n,acc,h=>by
  have hr:(x,NameKind.cell)∉r:=λz=>h (List.mem_cons_of_mem _ z)
  unfold cellsFrom
  split
  ·rename_i hk
   have e2:k=.cell:=eq_of_beq hk
   rw [UR r _ _ hr,List.lookup_cons]
   have e':(x == y)=false:=by
    cases q:x == y with
    | false=>rfl
    | true=>exact absurd (by rw [eq_of_beq q,e2]; exact List.mem_cons_self) h
   simp only [e']
  ·exact UR r _ _ hr
theorem US:∀ (names:List (Str × NameKind)) (n:Nat) (acc:List (Str × Addr)),(∀ x c,acc.lookup x=some c->c < n)->(∀ x y c,acc.lookup x=some c->acc.lookup y=some c->x=y)->
  ∀ x y c,(cellsFrom n names acc).lookup x=some c->(cellsFrom n names acc).lookup y=some c->x=y
 | [],_,_,_,h2=>h2
 | (z,k) :: r,n,acc,h1,h2=>by
  unfold cellsFrom
  split
  ·have look:∀ x c,((z,n) :: acc).lookup x=some c->(x=z/\c=n)\/acc.lookup x=some c:=λx c e=>by
    rw [List.lookup_cons] at e
    cases q:x == z with
    | true=>
     simp only [q] at e
     exact .inl ⟨eq_of_beq q,(Option.some.inj e).symm⟩
    | false=>
     simp only [q] at e
     exact .inr e
   refine US r (n + 1) ((z,n) :: acc) (λx c e=>?_) λx y c e1 e2=>?_
   ·rcases look x c e with ⟨_,e⟩ | e
    ·rw [e]
     exact Nat.lt_succ_self n
    ·exact Nat.lt_succ_of_lt (h1 x c e)
   ·rcases look x c e1 with ⟨a1,b1⟩ | a1 <;> rcases look y c e2 with ⟨a2,b2⟩ | a2
    ·rw [a1,a2]
    ·have:=h1 y c a2
     rw [b1] at this
     exact absurd this (Nat.lt_irrefl n)
    ·have:=h1 x c a1
     rw [b2] at this
     exact absurd this (Nat.lt_irrefl n)
    ·exact h2 x y c a1 a2
  ·exact US r n acc h1 h2
theorem UT {x:Str} {c:Addr}:∀ (names:List (Str × NameKind)) (h:Heap) (acc:List (Str × Addr)),(cellsFrom h.objs.size names acc).lookup x=some c->acc.lookup x=some c\/(pushCells h names).IsCell c none
 | [],_,_,e=>.inl e
 | (y,k) :: r,h,acc,e=>by
  unfold cellsFrom at e
  unfold pushCells
  split at e
  ·rename_i hk
   rw [if_pos hk]
   have q:=UT (x:=x) (c:=c) r (h.push { cls:=.type "cell",data:=.cell none }) ((y,h.objs.size) :: acc) (by rw [Heap.size_push]; exact e)
   rcases q with q | q
   ·rw [List.lookup_cons] at q
    cases z:x == y with
    | true=>
     simp only [z] at q
     cases q
     exact .inr ⟨_,pushCells_keeps r _ _ _ (Heap.get?_push_size _ rfl),rfl⟩
    | false=>
     simp only [z] at q
     exact .inl q
   ·exact .inr q
  ·rename_i hk
   rw [if_neg hk]
   exact UT r h acc e
theorem gW:∀ {l:List (Str × NameKind)} {x:Str} {k:NameKind},(l.map (·.1)).Nodup->(x,k)∈l->l.lookup x=some k
 | [],_,_,_,h=>by cases h
 | (y,j) :: r,x,k,nd,h=>by
  rw [List.map_cons,List.nodup_cons] at nd
  rw [List.lookup_cons]
  rcases List.mem_cons.mp h with e | h
  ·cases e
   rw [beq_self_eq_true]
  ·have ne:(x == y)=false:=by
    cases q:x == y with
    | false=>rfl
    | true=>exact absurd (by rw [<- eq_of_beq q]; exact List.mem_map.mpr ⟨(x,k),h,rfl⟩) nd.1
   simp only [ne]
   exact gW nd.2 h
theorem zHD {M:Model} {A:Around} {E:Value->Shared->Prop} {s:Shared} {scope:Scope} {globals:Addr} {closure:List (Str × Addr)} {qual:Str} {func:Option Addr} {code:Value} {env:Env} {builtins:Addr} {Q:Env->Shared->Prop}
  (h:Q (newEnv scope s.heap.objs.size globals (cellsFrom (s.heap.objs.size + 1) scope.names closure) qual func code (some env) builtins) { s with heap:=pushCells (s.heap.push { cls:=.type "dict",data:=.dict #[] }) scope.names }) :
  wpAny M A (newFunctionEnv scope globals closure [] qual func code (some env) builtins) Q E s:=by
 simp only [newFunctionEnv,Option.isSome_some,if_true]
 refine wpAny_bind (wpAny_alloc ?_)
 refine wpAny_bind (wpAny_layCells _ (λname kind cells=>by cases hkc:kind == NameKind.cell <;> simp [hkc]) _ _ _ _ ?_)
 rw [show ({ s with heap:=s.heap.push { cls:=.type "dict",data:=.dict #[] } }:Shared).heap.objs.size=s.heap.objs.size + 1 from Heap.size_push ..]
 simp only [List.forIn_nil]
 exact wpAny_bind (wpAny_pure (wpAny_pure h))
abbrev y8 (X:Cx) (scope:Scope) (N:List Str) (C:Addr) (s₀:Shared) (H₀:Hp) (ex:List Addr):Cx:=
 { X with N:=N,s₀:=s₀,H₀:=H₀,env:=compEnvC scope (cellsFrom (C + 1) scope.names (vK scope X.env)) C X.env,outer:=X.stack,ex:=ex,fn:=λx=>scope.names.lookup x == some .cell,pn:=[],xe:=λ_ _=>False }
structure vo (X:Cx) (scope:Scope) (own:List Str) (caps:List (Nat × Str)):Prop where
 kind:scope.kind=.function
 nod:(scope.names.map (·.1)).Nodup
 locs:∀ y∈scope.names,y.2=.local->scope.names.lookup y.1=some .local
 free:∀ y∈scope.names,y.2=.free->(X.env.cells.lookup y.1).isSome=true
 caps:∀ p∈caps,X.N[p.1]? = some p.2/\scope.names.lookup p.2=some .free/\(X.env.kindOf p.2=some .cell\/X.env.kindOf p.2=some .free)
section
variable {X:Cx} {scope:Scope} {own:List Str} {caps:List (Nat × Str)} {pins:List (Addr × Obj)} {σ:St} {H:Hp} {s s4:Shared} {C D:Addr} {fp:List Addr}
theorem Xm (B:vo X scope own caps) {x:Str} {c n:Nat} (e:(cellsFrom n scope.names (vK scope X.env)).lookup x=some c):((x,NameKind.cell)∈scope.names/\n<=c)\/X.env.cells.lookup x=some c:=
 (Xl _ _ _ e).imp id λz=>(qQ B.free z).1
theorem zJa (I:zE X pins σ H s) {x:Str} {c:Addr} (e:X.env.cells.lookup x=some c):c < s.heap.objs.size:=by
 obtain ⟨v,o,ho,_⟩:=I.cell x c e
 exact Heap.lt_size ho
theorem zP0 (B:vo X scope own caps) (I:zE X pins σ H s) (hf:∀ b∈fp,yN X pins H b) (hC:s.heap.objs.size<=C) (hlt:∀ b∈fp,b < s.heap.objs.size):(y8 X scope (zn own caps) C s H fp).Ok where
 mod:=I.ok.mod
 kind:=B.kind
 glob:=I.ok.glob
 blt:=I.ok.blt
 above:=hC
 inj:=US _ _ _ (λx c e=>Nat.lt_of_lt_of_le (zJa I (qQ B.free e).1) (Nat.le_succ_of_le hC)) λx y c h1 h2=>I.ok.inj x y c (qQ B.free h1).1 (qQ B.free h2).1
 has:=λx h=>by
  have fr:(x,NameKind.free)∈scope.names->∃ c,(cellsFrom (C + 1) scope.names (vK scope X.env)).lookup x=some c:=λz=>by
   obtain ⟨c,e⟩:=UN (env:=X.env) z
   exact Option.isSome_iff_exists.mp (PySem.W.cellsFrom_some _ _ _ (.inr (by rw [e]; rfl)))
  have ce:(x,NameKind.cell)∈scope.names->∃ c,(cellsFrom (C + 1) scope.names (vK scope X.env)).lookup x=some c:=λz=>
   Option.isSome_iff_exists.mp (PySem.W.cellsFrom_some _ _ _ (.inl (gW B.nod z)))
  rcases h with h | h
  ·rcases zEu (show (relabel scope X.env).names.lookup x=some .cell from h) with ⟨_,z | z⟩ | z
   ·exact fr z
   ·exact ce z
   ·exact ce z
  ·rcases zEu (show (relabel scope X.env).names.lookup x=some .free from h) with ⟨z,_⟩ | z
   ·cases z
   ·exact fr z
 cab:=λx c h e=>by
  have hx:scope.names.lookup x=some .cell:=eq_of_beq h
  rcases Xl _ _ _ e with ⟨_,z⟩ | z
  ·exact Nat.le_trans hC (Nat.le_of_succ_le z)
  ·have:=gW B.nod (qQ B.free z).2
   rw [hx] at this
   cases this
 hd:=I.ok.hd
 frames:=I.ok.frames
 stk:=.inl rfl
 exf:=λb hb=>⟨λe=>by have:=hlt b hb; rw [e] at this; exact absurd (Nat.lt_of_lt_of_le this hC) (Nat.lt_irrefl _),λx c e=>by
  rcases Xm B e with ⟨_,z⟩ | z
  ·exact ZD (hlt b hb) hC z
  ·exact (hf b hb).2.2.2.2.1 x c z⟩
 bs:=I.bs
 bsz:=Nat.le_trans I.ok.bsz I.sz
 noex:=λb o e hb=>by
  rcases (hf b hb).2.2.2.1 with z | z
  ·exact I.ok.noex b o e z
  ·exact absurd (Nat.lt_of_lt_of_le (Heap.lt_size e) (Nat.le_trans I.ok.bsz z)) (Nat.lt_irrefl _)
 exfs:=λb hb z=>by
  rcases List.mem_cons.mp (I.stkSub b z) with e | z
  ·exact (hf b hb).2.1 e
  ·exact (hf b hb).2.2.1 z
 funs:=I.stack
 frf:=I.stkFree
theorem zNk (B:vo X scope own caps) (I:zE X pins σ H s) (hf:∀ b∈fp,yN X pins H b) (hC:s.heap.objs.size<=C) (hlt:∀ b∈fp,b < s.heap.objs.size)
  {m:Str->Option Value} (hn:s4.heap.Ns C m) (hk:∀ b o,s.heap.get? b=some o->s4.heap.get? b=some o) (hcell:∀ x c,(cellsFrom (C + 1) scope.names (vK scope X.env)).lookup x=some c->(vK scope X.env).lookup x=some c\/s4.heap.IsCell c none) (ho:s4.os=s.os) (hb:AllBare s4.gens) :
  zE (y8 X scope (zn own caps) C s H fp) [] (vm own caps σ) H s4 where
 ok:=zP0 B I hf hC hlt
 os:=ho
 bare:=hb
 base:=Un.kept hk
 loc:=⟨m,hn,λi x v h1 h2 h3=>by
  obtain ⟨j,hm,hs⟩:=zNi h1 h2
  obtain ⟨c1,c2,c3⟩:=B.caps _ hm
  obtain ⟨m',_,hl⟩:=I.loc
  have vis:jj X.env.scope x:=c3.elim (λz=>.inr (.inl z)) λz=>.inr (.inr z)
  obtain ⟨u,r,l⟩:=hl j x v c1 hs vis
  refine ⟨u,r,.inr ?_⟩
  have hm2:(x,NameKind.free)∈scope.names:=gU c2
  obtain ⟨c',hc'⟩:=UN (env:=X.env) hm2
  have hc2:=(qQ B.free hc').1
  have noc:(x,NameKind.cell)∉scope.names:=λz=>by
   have:=gW B.nod z
   rw [c2] at this
   cases this
  refine ⟨?_,c',(UR _ _ _ noc).trans hc',?_⟩
  ·show (relabel scope X.env).names.lookup x=some .cell\/(relabel scope X.env).names.lookup x=some .free
   rw [zEt,c2,Option.map_some]
   split
   ·exact .inl rfl
   ·exact .inr rfl
  ·rcases l with ⟨k,_⟩ | ⟨_,c,e,z⟩
   ·rcases c3 with c3 | c3 <;> rw [c3] at k <;> cases k
   ·rw [hc2] at e
    cases e
    obtain ⟨o,e1,e2⟩:=z
    exact ⟨o,hk _ o e1,e2⟩⟩
 cell:=λx c e=>by
  rcases hcell x c e with z | z
  ·obtain ⟨v,o,e1,e2⟩:=I.cell x c (qQ B.free z).1
   exact ⟨v,o,hk _ o e1,e2⟩
  ·exact ⟨none,z⟩
 free:=I.hok.fresh hC
 freeC:=λx c e=>by
  rcases Xm B e with ⟨_,z⟩ | z
  ·exact I.hok.fresh (Nat.le_trans hC (Nat.le_of_succ_le z))
  ·exact I.freeC x c z
 pin:=λp hp=>by simp at hp
 hok:=I.hok.kept hk
 len:=by
  show (vm own caps σ).length=(zn own caps).length
  unfold vm zn
  simp
end
section
variable {X:Cx} {scope:Scope} {own:List Str} {caps:List (Nat × Str)} {elt tg iter cond:Expr} {wi:TI} {g:TG} {tc:TT} {te:TE} {pos:Pos}
end
theorem zNl {X:Cx} {scope S:Scope} {own N:List Str} {caps:List (Nat × Str)} (k:scope.kind=.function) (nd:(scope.names.map (·.1)).Nodup)
  (hS:X.env.scope=S) (hc:∃ n,X.env.cells=cellsFrom n S.names []) (hN:X.N=N) (fr:scope.names.all (λy=>y.2 != .free || S.names.lookup y.1 == some .cell)=true)
  (cp:caps.all (λp=>N[p.1]? == some p.2 && scope.names.lookup p.2 == some .free && S.names.lookup p.2 == some .cell)=true):vo X scope own caps:=by
 obtain ⟨nn,hc⟩:=hc
 refine ⟨k,nd,λy hy e=>?_,λy hy e=>?_,λp hp=>?_⟩
 ·exact gW nd (by rw [<- e]; exact hy)
 ·have q:=List.all_eq_true.mp fr y hy
  rw [e] at q
  have q2:S.names.lookup y.1=some .cell:=by simpa using q
  rw [hc]
  exact PySem.W.cellsFrom_some S.names nn [] (.inl q2)
 ·have q:=List.all_eq_true.mp cp p hp
  simp only [Bool.and_eq_true,beq_iff_eq] at q
  refine ⟨by rw [hN]; exact q.1.1,q.1.2,.inl ?_⟩
  show X.env.scope.names.lookup p.2=some .cell
  rw [hS]
  exact q.2
theorem zRu {Y:Cx} {scope S:Scope} {own own0:List Str} {caps caps0:List (Nat × Str)} {C:Addr} {s₀:Shared} {H₀:Hp} {ex:List Addr} (k:scope.kind=.function) (nd:(scope.names.map (·.1)).Nodup)
  (ndS:(S.names.map (·.1)).Nodup) (fr:scope.names.all (λy=>y.2 != .free || S.names.lookup y.1 == some .cell || S.names.lookup y.1 == some .free)=true)
  (cp:caps.all (λp=>(zn own0 caps0)[p.1]? == some p.2 && scope.names.lookup p.2 == some .free)=true):vo (y8 Y S (zn own0 caps0) C s₀ H₀ ex) scope own caps:=by
 have fr':∀ y∈scope.names,y.2=.free->S.names.lookup y.1=some .cell\/S.names.lookup y.1=some .free:=λy hy e=>by
  have q:=List.all_eq_true.mp fr y hy
  rw [e] at q
  simpa using q
 refine ⟨k,nd,λy hy e=>?_,λy hy e=>?_,λp hp=>?_⟩
 ·exact gW nd (by rw [<- e]; exact hy)
 ·show ((cellsFrom (C + 1) S.names (vK S Y.env)).lookup y.1).isSome=true
  refine PySem.W.cellsFrom_some _ _ _ ?_
  rcases fr' y hy e with z | z
  ·exact .inl z
  ·obtain ⟨c,e⟩:=UN (env:=Y.env) (gU z)
   exact .inr (by rw [e]; rfl)
 ·have q:=List.all_eq_true.mp cp p hp
  simp only [Bool.and_eq_true,beq_iff_eq] at q
  refine ⟨q.1,q.2,?_⟩
  show (relabel S Y.env).names.lookup p.2=some .cell\/(relabel S Y.env).names.lookup p.2=some .free
  rw [zEt]
  rcases fr' _ (gU q.2) rfl with z | z
  ·left
   show (S.names.lookup p.2).map _=_
   rw [z]
   rfl
  ·show (S.names.lookup p.2).map _=_\/(S.names.lookup p.2).map _=_
   rw [z,Option.map_some]
   split
   ·exact .inl rfl
   ·exact .inr rfl
end L2
namespace Sh
open PySem L2
theorem gX {H:Hp} {p:Addr} (h:H p=none) (o:HO):zP H (zb H p o):=λb u q=>by rw [zv (wV q h)]; exact q
def Tp (H:Hp) (v:V) (xs:List V):Prop:=∃ a,v=.ref a/\H a=some (.tup xs)
theorem zGb {α β:Type} {R:α->β->Prop}:∀ {xs:List α} {ys:List β} {i:Nat} {x:α},Paired R xs ys->xs[i]? = some x->∃ y,ys[i]? = some y/\R x y
 | _,_,_,_,.nil,e=>by simp at e
 | _,_,0,_,.cons r _,e=>by simp at e; subst e; exact ⟨_,rfl,r⟩
 | _,_,i + 1,x,.cons _ t,e=>by
  obtain ⟨y,h1,h2⟩:=zGb (i:=i) (x:=x) t (by simpa using e)
  exact ⟨y,by simpa using h1,h2⟩
theorem ZE {α β:Type} {R:α->β->Prop} {x:α} {y:β} (r:R x y):∀ {xs:List α} {ys:List β},Paired R xs ys->Paired R (xs++[x]) (ys++[y])
 | _,_,.nil=>.cons r .nil
 | _,_,.cons q t=>.cons q (ZE r t)
theorem ZF {α β:Type} {R:α->β->Prop}:∀ {xs zs:List α} {ys us:List β},Paired R xs ys->Paired R zs us->Paired R (xs++zs) (ys++us)
 | _,_,_,_,.nil,h=>h
 | _,_,_,_,.cons q t,h=>.cons q (ZF t h)
theorem ut {α:Type} {l:List α} {i:Nat} {x:α} (h:l[i]? = some x):l.take (i + 1)=l.take i++[x]:=by
 obtain ⟨hi,e⟩:=List.getElem?_eq_some_iff.mp h
 rw [List.take_succ_eq_append_getElem hi,e]
abbrev ZG (H:Hp) (vs:List V) (ks:List (List Int)):Prop:=Paired (λv (k:List Int)=>Tp H v (k.map V.int)) vs ks
end Sh
namespace L2
open PySem PySem.Spec PyProof.Rows
section
variable {X:Cx} {es:List Expr} {kk:Nat} {tp:Pos}
end
end L2
namespace L2
open PySem PySem.Spec PyProof.Rows
section
variable {X:Cx}
def ZH (K:PySem.W.Frag):R2:=λx y H Q=>∃ d e:PyData,Dp K H x d/\Dp K H y e/\d.canLay0=true/\e.canLay0=true/\d.depth<=60/\e.depth<=60/\Q (.bl (PyData.eqv d e)) H
theorem zOD (hu:X.A.units + 64 < cLine):yw X (compareOp .Eq) (ZH X.K):=by
 intro pins s σ H x y v u Q I rx ry h
 obtain ⟨d,e,hx,hy,hc,hc',hd,hd',q⟩:=h
 obtain ⟨_,r1⟩:=hx.reads I rx
 obtain ⟨_,r2⟩:=hy.reads I ry
 exact SeqAt.compareEq_reads r1 r2 hc hc' (by omega) ⟨.bl _,H,I,rfl,q⟩
end
end L2
namespace Sh
open PySem L2
def lin (n:Nat) (c:Nat->Int) (r:List Int):Int:=((List.range n).map λi=>r.getD i 0 * c i).sum
end Sh
namespace L2
open PySem PySem.Spec PyProof.Rows
def UU (K:PySem.W.Frag) (a:Addr):It:=
 ⟨λi H=>∃ xs x,zo K H a xs/\xs[i]? = some x,
  λi H v H'=>∃ T x,v=.ref T/\H T=none/\H'=zb H T (.tup [.int (i:Int),x])/\∀ xs,zo K H a xs->xs[i]? = some x,
  λi H=>∃ xs,zo K H a xs/\i=xs.length⟩
theorem zRM {c x y:Addr} (h:c∉[x,y]):c≠x/\c≠y:=by
 simp only [List.mem_cons,List.not_mem_nil,or_false,not_or] at h
 exact h
theorem zKR {P:Program} {w:World} {K:PySem.W.Frag} {es:List Expr} {kk:Nat} {tp:Pos} {a e it:Addr} (ne:e≠it) :
  vI P w K (.Tuple es kk tp) (UU K a) [e,it] e (λi h=>(∃ old,IsEnum h e it i old)/\h.IsListIter it a i) where
 mem:=by simp
 obj:=λi h ⟨⟨old,t1⟩,t2⟩ c hc=>by
  simp only [List.mem_cons,List.not_mem_nil,or_false] at hc
  rcases hc with rfl | rfl
  ·exact ⟨_,t1,k9⟩
  ·obtain ⟨o,e,_,d⟩:=t2
   exact ⟨o,e,by rw [d]; exact k9⟩
 keep:=λi h h' ⟨⟨old,t1⟩,t2⟩ k=>⟨⟨old,k e (by simp) _ t1⟩,(by obtain ⟨o,q,r⟩:=t2; exact ⟨o,k it (by simp) o q,r⟩)⟩
 item:=by
  intro X hP hw hK hc i pins s σ H E I hf ⟨⟨old,t1⟩,t2⟩ hg
  subst hP hw hK
  obtain ⟨xs,x,hq,hx⟩:=hg
  obtain ⟨its,rv,p,_⟩:=I.list hq
  obtain ⟨u,hu,ru⟩:=rv.get hx
  refine wpAny_pyNext_enum_item t1 t2 p.isList (x:=u) (by simpa using hu) ne ?_
  intro h1 z1 z2 z3 z4 keep
  refine ⟨_,rfl,wpAny_letOwnedTupleGo_enum (s:={ s with heap:=h1,toks:=s.toks + 1 }) z1 λh2 z5 sb=>?_⟩
  have elt:e < s.heap.objs.size:=Heap.lt_size t1
  have keep2:∀ c o,c∉[e,it]->s.heap.get? c=some o->h2.get? c=some o:=λc o hc q=>by
   obtain ⟨c1,c2⟩:=zRM hc
   exact sb.extBut c o c1 (keep c o c1 c2 q)
  have pT:IsPair h2 s.heap.objs.size (.int i s.toks) u:=sb.extBut _ _ (Nat.ne_of_gt elt) z3
  have I':=I.turnT (h':=h2) (tk:=s.toks + 1) (ch:=[e,it]) (x:=.int (i:Int)) (y:=x) hf keep2 (Nat.le_refl _) pT ⟨_,rfl⟩ ru
  refine ⟨.ref s.heap.objs.size,_,I',rfl,⟨s.heap.objs.size,x,rfl,I.hok.fresh (Nat.le_refl _),rfl,λxs' q=>by rw [I.list_inj q hq]; exact hx⟩,
   ⟨⟨u,by simpa using z5⟩,z2.extBut sb.extBut (Ne.symm ne)⟩,λc hc=>?_⟩
  have:=(hf c hc).1
  rw [zv]
  ·exact this
  ·intro q
   obtain ⟨o,e1⟩:∃ o,s.heap.get? c=some o:=by
    simp only [List.mem_cons,List.not_mem_nil,or_false] at hc
    rcases hc with rfl | rfl
    ·exact ⟨_,t1⟩
    ·obtain ⟨o,e1,_⟩:=t2; exact ⟨o,e1⟩
   rw [q] at e1
   exact absurd (Heap.lt_size e1) (Nat.lt_irrefl _)
 done:=by
  intro X hP hw hK hc i pins s σ H E I hf ⟨⟨old,t1⟩,t2⟩ hg
  subst hP hw hK
  obtain ⟨xs,hq,e1⟩:=hg
  obtain ⟨its,rv,p,_⟩:=I.list hq
  have n1:its.length=xs.length:=rv.length.symm
  refine wpAny_pyNext_enum_end (I.ok.hd hc) t1 t2 p.isList (by simp; omega) ?_
  intro h1 ext
  refine ⟨rfl,I.turnN (h':=h1) (tk:=s.toks) (ch:=[e,it]) hf λc o hc q=>?_⟩
  exact ext c o (zRM hc).2 q
 self:=λ_ _ _ _ _ ⟨⟨_,st⟩,_⟩ h=>wpAny_pyIter_enum st h
section
variable {X:Cx} {es:List Expr} {kk:Nat} {tp:Pos}
def ZI (K:PySem.W.Frag) (ta:TA):TI:=λσ H R=>ta σ H λvs H1=>∃ a,vs=[.ref a]/\(∃ xs,zo K H1 a xs)/\R (UU K a) H1
theorem zO9 {e1:Expr} {ta:TA} {p pos:Pos} (hg:Gl X "enumerate") (hm:X.mg "enumerate" = none) (ha:PA X [e1] ta) (hs:starEach [e1] X.env=[(false,eval e1 X.env)]:=by rfl) (hs2:starEach [] X.env=[]:=by rfl) :
  PI X (.Tuple es kk tp) (.Call (.Name "enumerate" p) [e1] [] pos) (ZI X.K ta):=by
 intro pins s σ H R I h
 refine Call_ (jm I hg hm (show bootBuiltins "enumerate" = some (.type "enumerate") by decide +kernel) (PyProof.Rows.callWith_type1 (zm (ha pos pins s σ H _ I h) λus s1 ⟨vs,H1,I1,r1,q1⟩=>?_) (by rw [hs,hs2]) (by rw [hs2]; rfl)))
 obtain ⟨a,e,⟨xs,hx⟩,q⟩:=q1
 subst e
 obtain ⟨u,rfl,ru⟩:=uA r1
 cases ru
 obtain ⟨its,rv,p1,_⟩:=I1.list hx
 have la:a < s1.heap.objs.size:=by obtain ⟨o,n,e,_⟩:=p1; exact Heap.lt_size e
 refine call_enumerate_list p1.isList λh' z1 z2 _ keep=>wpAny_pyIter_enum z1 ?_
 have I2:zE X pins σ H1 { s1 with heap:=h' }:=I1.kept (t':=s1.toks) keep
 refine ⟨s1.heap.objs.size + 1,[s1.heap.objs.size + 1,s1.heap.objs.size],_,_,H1,rfl,I2,zKR (a:=a) (Nat.succ_ne_self _),⟨⟨_,z1⟩,z2⟩,λc hc=>?_,q⟩
 have ge:s1.heap.objs.size<=c:=by
  simp only [List.mem_cons,List.not_mem_nil,or_false] at hc
  rcases hc with rfl | rfl
  ·exact Nat.le_add_right _ 1
  ·exact Nat.le_refl _
 exact I1.fpOk ge (I1.hok.fresh ge)
end
end L2
namespace L2
open PySem PySem.Spec PyProof.Rows
section
variable {prog:Program} {w:World} {A:Around} {E:Value->Shared->Prop} {s:Shared}
end
section
variable {prog:Program} {w:World} {A:Around} {E:Value->Shared->Prop} {s:Shared}
end
section
variable {M:Model} {A:Around} {E:Value->Shared->Prop} {s:Shared}
end
section
variable {X:Cx} {es:List Expr} {kk:Nat} {tp:Pos}
end
end L2
namespace Sh
open PySem L2
inductive Kd where
 | int | bool | non | str | lst | tup | dic
 deriving DecidableEq
def Kd.nm:Kd->String
 | .int=>"int" | .bool=>"bool" | .non=>"NoneType" | .str=>"str" | .lst=>"list" | .tup=>"tuple" | .dic=>"dict"
def Kd.whole:Kd->Bool
 | .int=>true
 | _=>false
def Kd.isInt:Kd->Bool
 | .int=>true
 | .bool=>true
 | _=>false
def Kd.isBool:Kd->Bool
 | .bool=>true
 | _=>false
def Kd.isTup:Kd->Bool
 | .tup=>true
 | _=>false
def Kd.isLst:Kd->Bool
 | .lst=>true
 | _=>false
section
variable (K:PySem.W.Frag)
theorem jr (k:Kd):PySem.W.kitOne K (.type k.nm) (.type "int")=some k.isInt:=by
 cases k <;> first | rfl | decide +kernel | (unfold PySem.W.kitOne; rw [if_pos (by decide +kernel)]; rfl) | (unfold PySem.W.kitOne; rw [if_neg (by decide +kernel)]; rfl)
theorem jt (k:Kd):PySem.W.kitOne K (.type k.nm) (.type "bool")=some k.isBool:=by
 cases k <;> first | rfl | decide +kernel | (unfold PySem.W.kitOne; rw [if_pos (by decide +kernel)]; rfl) | (unfold PySem.W.kitOne; rw [if_neg (by decide +kernel)]; rfl)
theorem ju (k:Kd):PySem.W.kitOne K (.type k.nm) (.type "tuple")=some k.isTup:=by
 cases k <;> first | rfl | decide +kernel | (unfold PySem.W.kitOne; rw [if_pos (by decide +kernel)]; rfl) | (unfold PySem.W.kitOne; rw [if_neg (by decide +kernel)]; rfl)
theorem jv (k:Kd):PySem.W.kitOne K (.type k.nm) (.type "list")=some k.isLst:=by
 cases k <;> first | rfl | decide +kernel | (unfold PySem.W.kitOne; rw [if_pos (by decide +kernel)]; rfl) | (unfold PySem.W.kitOne; rw [if_neg (by decide +kernel)]; rfl)
end
end Sh
namespace L2
open PySem PySem.Spec PyProof.Rows
section
variable {X:Cx}
end
end L2
namespace L2
open PySem PySem.Spec PyProof.Rows
structure xx (K:PySem.W.Frag) (mg:Str->Option Value) (x:Str) (C:Addr):Prop where
 cl:uQ K C
 mgC:mg x=some (.ref C)
 ha:PySem.W.findIn K (.ref C) "__class__" = some (some (.builtin "object.__class__"))
 hn:PySem.W.specialIn K (.builtin "object.__class__") "__get__" = some (some (.builtin "getset_descriptor.__get__"))
 htk:PySem.W.takesIn K (.builtin "object.__class__")=some true
 hm:PySem.W.mroIn K C (.type "object")=some true
theorem xx.ty {K:PySem.W.Frag} {mg:Str->Option Value} {x:Str} {C a dx:Addr} {H:Hp} {fs:List (Str × V)} (T:xx K mg x C) (e:H a=some (.ins C dx fs)):yR K H (.ref a) (.ref C):=.ins e T.cl T.ha T.hn T.htk T.hm
structure vL (P:Program) (w:World) (K:PySem.W.Frag) (mg:Str->Option Value) (base:Heap) (C:Addr) (m:Str) (ps:List Str) (k:Nat) (sp:Sp):Prop where
 ex:∃ f fd,zF P w K mg base zT k f fd ps sp/\qL K C m f/\vA K fd ps []
structure jw (P:Program) (w:World) (K:PySem.W.Frag) (mg:Str->Option Value) (base:Heap) (C:Addr) (ps:List Str) (k:Nat) (sp:Sp):Prop where
 ex:∃ f fd,zF P w K mg base zT k f fd ps sp/\Mk K C f/\vA K fd ps []
theorem vL.mono {P:Program} {w:World} {K:PySem.W.Frag} {mg:Str->Option Value} {base:Heap} {C:Addr} {m:Str} {ps:List Str} {j k:Nat} {sp:Sp} (F:vL P w K mg base C m ps j sp) (h:j<=k:=by decide):vL P w K mg base C m ps k sp:=by
 obtain ⟨f,fd,a,b,c⟩:=F.ex
 exact ⟨f,fd,a.mono h,b,c⟩
theorem jw.mono {P:Program} {w:World} {K:PySem.W.Frag} {mg:Str->Option Value} {base:Heap} {C:Addr} {ps:List Str} {j k:Nat} {sp:Sp} (F:jw P w K mg base C ps j sp) (h:j<=k:=by decide):jw P w K mg base C ps k sp:=by
 obtain ⟨f,fd,a,b,c⟩:=F.ex
 exact ⟨f,fd,a.mono h,b,c⟩
section
variable {X:Cx} {C:Addr} {m x:Str} {ps:List Str} {k:Nat} {sp:Sp} {o e:Expr} {es:List Expr} {ta:TE} {t:TA} {p pos apos:Pos} {dv:V}
theorem zK4 {pl:Sem Bool} (F:vL X.prog X.w X.K X.mg X.base C m ps k sp) (T:xx X.K X.mg x C) (hr:zW k X.A) (he:PE X o ta)
  (ht:eval (.Call (.Attribute o m apos) [] [] pos) X.env=(do
   let ov <- eval o X.env
   standAt apos.atName
   let (f,first) <- holding [ov] (getMethod ov m pl)
   callWith pos f first (backTo pos (starEach [] X.env)) (backToKw pos (keywordEach [] X.env))):=by rfl) :
  PE X (.Call (.Attribute o m apos) [] [] pos) (zQR C m sp [] E0 ta wW):=by
 obtain ⟨f,fd,a,b,c⟩:=F.ex
 exact zMw he T.cl b a hr c .nil Xi ht
theorem zMx (F:jw X.prog X.w X.K X.mg X.base C ps k sp) (T:xx X.K X.mg x C) (hr:zW (k + 1) X.A) (hg:Gl X x) (ha:PA X (e :: es) t)
  (hdb:(x == ("__debug__" : Str))=false:=by decide) (he:starEach (e :: es) X.env=(false,eval e X.env) :: starEach es X.env:=by rfl) (hpl:(backTo pos (starEach es X.env)).any (·.1)=false:=by rfl) :
  PE X (.Call (.Name x p) (e :: es) [] pos) (Xd C sp [] E0 t):=by
 obtain ⟨f,fd,a,b,c⟩:=F.ex
 exact zPB b a hr hg T.mgC c .nil Xi ha hdb he hpl
theorem zQ2 (T:xx X.K X.mg x C) (hg:Gl X x) (hd:(x == ("__debug__" : Str))=false:=by decide):PE X (.Name x pos) (tC (.ref C)):=XT hg T.mgC rfl hd
def zN4 (K:PySem.W.Frag):List V->Hp->VK->Prop:=λxs H Q=>∃ x C t b,xs=[x,.ref C]/\yR K H x t/\PySem.W.kitOne K t (.ref C)=some b/\Q (.bl b) H
theorem zH1:wM X (.builtin "isinstance") (zN4 X.K):=by
 intro pins s σ H xs us Q I r h
 obtain ⟨x,C,t,b,rfl,ty,e,q⟩:=h
 obtain ⟨u,v,rfl,ru,rv⟩:=gQ r
 cases (show v=Value.ref C from rv)
 exact zHv I ru ty e λtk=>⟨.bl b,H,I.tok tk,rfl,q⟩
end
end L2
namespace L2
open PySem PySem.Spec PyProof.Rows
section
variable {X:Cx} {pos:Pos}
end
end L2
namespace L2
open PySem PySem.Spec PyProof.Rows PySem.SeqAt
section
variable {X:Cx}
end
end L2
namespace L2
open PySem PySem.Spec PyProof.Rows
open PySem
def SqE (K:PySem.W.Frag) (H:Hp) (a:Addr) (xs:List V):Prop:=yZ K H a xs\/zo K H a xs
section
variable {X:Cx} {es:List Expr} {kk:Nat} {tp:Pos}
theorem UV {pins:List (Addr × Obj)} {σ:St} {H:Hp} {s:Shared} (I:zE X pins σ H s) {c:Addr} (hc:c∈[s.heap.objs.size + 4,s.heap.objs.size + 2,s.heap.objs.size + 3,s.heap.objs.size,s.heap.objs.size + 1]):yN X pins H c:=by
 have ge:s.heap.objs.size<=c:=by
  simp only [List.mem_cons,List.not_mem_nil,or_false] at hc
  rcases hc with rfl | rfl | rfl | rfl | rfl
  ·exact Nat.le_add_right _ 4
  ·exact Nat.le_add_right _ 2
  ·exact Nat.le_add_right _ 3
  ·exact Nat.le_refl _
  ·exact Nat.le_add_right _ 1
 exact I.fpOk ge (I.hok.fresh ge)
def ZJ (K:PySem.W.Frag):R2:=λx y H Q=>∃ p xs i v,x=.ref p/\y=.int i/\SqE K H p xs/\ya xs i=some v/\Q v H
theorem zPd:Xh X (ZJ X.K):=by
 intro value slice pins s σ H x y v u Q I rx ry h hs
 obtain ⟨p,xs,i,z,e1,e2,hq,he,q⟩:=h
 rcases hq with hq | hq
 ·exact zRW value slice pins s σ H x y v u Q I rx ry ⟨p,xs,i,z,e1,e2,hq,he,q⟩ hs
 ·exact UF value slice pins s σ H x y v u Q I rx ry ⟨p,xs,i,z,e1,e2,hq,he,q⟩ hs
end
section
variable {prog:Program} {w:World} {A:Around} {E:Value->Shared->Prop}
theorem zRp {it l:Addr} {xs:Array Value} (ne:l≠it):∀ (m j:Nat) (s:Shared) (R:List Value->Shared->Prop),s.heap.IsListIter it l j->s.heap.IsList l xs->j + m<=xs.size->
  (∀ g,g.IsListIter it l (j + m)->Heap.SameBut it s.heap g->R ((xs.toList.drop j).take m) { s with heap:=g })->wpAny (model prog w) A (draw (.ref it) m) R E s
 | 0,j,s,R,hi,_,_,k=>wpAny_pure (by simpa using k s.heap hi (Heap.SameBut.refl ..))
 | m + 1,j,s,R,hi,hl,le,k=>by
  have lt:j < xs.size:=by omega
  have step:=λg (z:Heap.SameBut it s.heap g)=>(hl.extBut z.extBut ne:g.IsList l xs)
  show wpAny _ _ (pyNext (.ref it) >>= _) R E s
  refine wpAny_bind (wpAny_pyNext_list_item hi hl (x:=xs[j]) (by simp [lt]) λg1 i1 b1=>?_)
  refine wpAny_bind (wpAny_holding (zRp ne m (j + 1) _ _ i1 (step g1 b1) (by omega) λg2 i2 b2=>wpAny_pure ?_))
  have z:=k g2 (by rw [show j + (m + 1)=j + 1 + m by omega]; exact i2) (b1.trans b2)
  rw [show xs.toList.drop j=xs[j] :: xs.toList.drop (j + 1) by simp [List.drop_eq_getElem_cons,lt],List.take_succ_cons] at z
  exact z
theorem zRY {s:Shared} {l:Addr} {xs:Array Value} {R:List Value->Shared->Prop} (hd:A.handled=none) (hl:s.heap.IsList l xs)
  (k:∀ g,Heap.ExtBut s.heap.objs.size s.heap g->R xs.toList { s with heap:=g }):wpAny (model prog w) A (unpackItems (.ref l) xs.size none) R E s:=by
 have ne:l≠s.heap.objs.size:=by
  obtain ⟨o,eo,_⟩:=hl
  exact Nat.ne_of_lt (Heap.lt_size eo)
 unfold unpackItems
 refine wpAny_bind ?_
 unfold notIterableAtAll
 refine wpAny_bind (wpAny_specialOf hl.typeIs slot_list_iter.lookup ?_)
 refine wpAny_pure ?_
 simp only [Bool.false_eq_true,if_false]
 refine wpAny_bind (wpAny_holding (wpAny_pyIter_list hl ?_))
 refine wpAny_bind (wpAny_holding (zRp ne xs.size 0 _ _ ⟨_,Heap.get?_push_size _ rfl,rfl,rfl⟩ (hl.push _) (by omega) λg1 i1 b1=>?_))
 rw [show List.take xs.size (List.drop 0 xs.toList)=xs.toList by rw [List.drop_zero]; exact List.take_of_length_le (by simp),if_neg (by simp)]
 refine wpAny_bind (wpAny_holding (wpAny_pyNext_list_end hd i1 ((hl.push _).extBut b1.extBut ne) (by simp) λg2 x2=>?_))
 simp only [Option.isSome_none,Bool.false_eq_true,if_false]
 exact wpAny_pure (k g2 λc o n e=>x2 c o n (b1.extBut c o n (Heap.get?_push_of_some _ e)))
end
section
variable {X:Cx} {pos:Pos}
def UW (K:PySem.W.Frag) (n:Nat) (t:jA):TG:=λv σ H Q=>∃ a xs,v=.ref a/\zo K H a xs/\xs.length=n/\t xs σ H Q
theorem zQv {es:List Expr} {k:Nat} {t:jA} {n:Nat} (hc:X.calm=true) (h:gM X es t)
  (hn:(assignEach es X.env).length=n:=by rfl) (hst:(assignEach es X.env).findIdx? (·.1)=none:=by rfl):PG X (.Tuple es k pos) (UW X.K n t):=by
 intro pins s σ H v u Q I r hw
 obtain ⟨a,xs,e1,hq,hl,hw⟩:=hw
 subst e1
 cases r
 obtain ⟨its,rv,ht,hz⟩:=I.list hq
 rw [assign_Tuple]
 refine wpAny_bind (wpAny_standAt ?_)
 unfold unpack
 rw [show (assignEach es X.env).length=its.toArray.size by simp [hn,<- hl,rv.length],hst]
 refine wpAny_bind (wpAny_holding (zRY (I.ok.hd hc) ht.isList λg hx=>?_))
 have I1:zE X pins σ H { s with heap:=g }:=I.kept (t':=s.toks) λb o e=>hx b o (Nat.ne_of_lt (Heap.lt_size e)) e
 exact h pins _ σ H xs _ Q I1 (by simpa using rv) hw
end
end L2
namespace L2
open PySem PySem.Spec PyProof.Rows
inductive uV (i:Nat) (σ:St) (H:Hp) (Q:VK):Prop
 | mk (v:V) (_:σ[i]? = some (some v)) (_:Q v H):uV i σ H Q
inductive qR (x:V) (vs:List V) (H:Hp) (Q:VK):Prop
 | mk (l:Addr) (xs:List V) (y:V) (_:x=.ref l) (_:vs=[y]) (_:H l=some (.lst xs)) (_:xs.length < sizeLine) (_:Q .non (zb H l (.lst (xs++[y])))):qR x vs H Q
inductive qS (o i v:V) (H:Hp) (Q:Hp->Prop):Prop
 | mk (p:Addr) (xs:List V) (k:Int) (j:Nat) (_:o=.ref p) (_:i=.int k) (_:H p=some (.lst xs)) (_:wI xs.length k=some j) (_:Q (zb H p (.lst (xs.set j v)))):qS o i v H Q
section
variable {X:Cx}
theorem xL:MtM X "list.append" qR:=λpins s σ H x xs v us Q I rx rv ⟨l,ys,y,h1,h2,h3,h4,q⟩=>zLV pins s σ H x xs v us Q I rx rv ⟨l,ys,y,h1,h2,h3,h4,q⟩
theorem qU:qI X qS:=λpins s σ H o i v ov iv u Q I h1 h2 h3 ⟨p,xs,k,j,a,b,c,d,q⟩=>zMd pins s σ H o i v ov iv u Q I h1 h2 h3 ⟨p,xs,k,j,a,b,c,d,q⟩
theorem xU (i:Nat) {x:Str} {pos:Pos} (hN:X.N[i]? = some x:=by rfl) (hv:jj X.env.scope x:=by first | exact Or.inl rfl | exact Or.inr (Or.inl rfl) | exact Or.inr (Or.inr rfl)) (hd:(x == ("__debug__" : Str))=false:=by decide)
  (hcd:(x == ("__classdict__" : Str))=false:=by decide):PE X (.Name x pos) (uV i):=λpins s σ H Q I ⟨v,e,h⟩=>kJ hN hv hd hcd pins s σ H Q I ⟨v,e,h⟩
end
end L2
namespace Sh
open PySem L2
def UX (H:Hp) (v:V) (r:List Int):Prop:=∃ a,v=.ref a/\H a=some (.lst (r.map V.int))
abbrev ZK (H:Hp) (vs:List V) (tab:List (List Int)):Prop:=Paired (UX H) vs tab
structure MD where
 rows:List (List Int)
 nexts:List (List Int)
 steer:List Int
 push:List (List Int)
 add:List Int
 div:Int
structure uW (m:MD) (n p:Nat):Prop where
 rows:∀ r∈m.rows,r.length=n + 1
 few:m.rows.length<=900
 nexts:m.nexts.length=n/\∀ r∈m.nexts,r.length=n
 steer:m.steer.length=n
 push:m.push.length=n/\∀ r∈m.push,r.length=p
 add:m.add.length=n
 div:1<=m.div
 n3:n<=3
 p6:p<=12
def ZM (r n s p a:V) (d:Int):List (Str × V):=[("rows",r),("nexts",n),("steer",s),("push",p),("add",a),("divisor",.int d)]
structure zOa (C:Addr) (H:Hp) (o:Addr) (m:MD) where
 dx:Addr
 r:Addr
 rv:List V
 n:Addr
 nv:List V
 s:Addr
 p:Addr
 pv:List V
 a:Addr
structure zOa.Ok {C:Addr} {H:Hp} {o:Addr} {m:MD} (M:zOa C H o m):Prop where
 ins:H o=some (.ins C M.dx (ZM (.ref M.r) (.ref M.n) (.ref M.s) (.ref M.p) (.ref M.a) m.div))
 hr:H M.r=some (.lst M.rv)
 hrv:ZG H M.rv m.rows
 hn:H M.n=some (.lst M.nv)
 hnv:ZK H M.nv m.nexts
 hs:H M.s=some (.lst (m.steer.map V.int))
 hp:H M.p=some (.lst M.pv)
 hpv:ZK H M.pv m.push
 ha:H M.a=some (.lst (m.add.map V.int))
structure wJ (n:Nat) (bs:List (Int × Int)) (ms:List MD):Prop where
 n1:1<=n
 n3:n<=3
 bok:∀ b∈bs,b.1<=b.2
 b6:bs.length<=6
 m1:1<=ms.length
 m40:ms.length<=40
 mok:∀ m∈ms,uW m n bs.length
theorem zNQ {K:PySem.W.Frag} {C:Addr}:PySem.W.kitOne K (.ref C) (.ref C)=some true:=by
 unfold PySem.W.kitOne
 rw [if_pos (by simp)]
end Sh
namespace Sh
open PySem L2
def uX (B:List Addr) (H H':Hp):Prop:=∀ b o,H b=some o->b∉B->H' b=some o
theorem uX.refl (B:List Addr) (H:Hp):uX B H H:=λ_ _ e _=>e
def hide (B:List Addr) (H:Hp):Hp:=λb=>if b∈B then none else H b
theorem zKd {H:Hp} {x dx:Addr} (hx:H x=none) (hdx:H dx=none) (ne:dx≠x) (u o:HO):zP H (zb (zb H dx u) x o):=
 (gX hdx _).trans (gX ((zv (Ne.symm ne)).trans hx) _)
end Sh
namespace L2
open PySem PySem.Spec PyProof.Rows
section
variable {X:Cx} {e:Expr}
end
theorem zF.no {P:Program} {w:World} {K:PySem.W.Frag} {mg:Str->Option Value} {base:Heap} {CX:vk} {k:Nat} {f:Addr} {fd:FuncData} {ps:List Str} {sp:Sp} (hn:∀ vs H Q E,¬ sp vs H Q E):zF P w K mg base CX k f fd ps sp:=
 ⟨λ_ _ _ _ h=>(hn _ _ _ _ h).elim,λ_ _ _ _ _ _ _ _ _ _ _ _ _ h=>(hn _ _ _ _ h).elim⟩
end L2
namespace Sh
inductive RT where
 | str (ns:List Int) (a d:Int)
 | stp (t:RT) (lo hi:Int)
 | prt (row:List Int) (x y:RT)
def RT.dep:RT->Nat
 | .str _ _ _=>1
 | .stp t _ _=>t.dep + 1
 | .prt _ x y=>max x.dep y.dep + 1
def RT.rows:RT->List (List Int)
 | .str _ _ _=>[]
 | .stp t _ _=>t.rows
 | .prt r x y=>[r]++x.rows++y.rows
def xy (pts:List (Int × Int)):RT->Int × Int
 | .str ns a d=>(UK ((jq ns pts).1 + a * (jq ns pts).2) ((jq ns pts).2 * d),UL ((jq ns pts).1 + a * (jq ns pts).2) ((jq ns pts).2 * d))
 | .stp t lo hi=>if (xy pts t).1 < lo * (xy pts t).2 then (lo,1) else if hi * (xy pts t).2 < (xy pts t).1 then (hi,1) else xy pts t
 | .prt row x y=>if (jq (row.take pts.length) pts).1<=row.getD pts.length 0 * (jq (row.take pts.length) pts).2 then xy pts x else xy pts y
end Sh
namespace Sh
open PySem L2
end Sh
namespace Sh
open PySem L2
end Sh
namespace L2
open PySem PySem.Spec PyProof.Rows Sh
section
variable {X:Cx}
inductive zQi (K:PySem.W.Frag) (x y:V) (H:Hp) (Q:VK):Prop
 | mk (a b:Addr) (xs ys:List V) (_:x=.ref a) (_:y=.ref b) (_:H a=some (.tup xs)) (_:H b=some (.tup ys)) (_:xs≠[]) (_:xs.length + ys.length<=sizeLine) (_:∀ p H',zP H H'->H' p=some (.tup (xs++ys))->Q (.ref p) H'):zQi K x y H Q
theorem zPJ:yw X (binaryOp .Add) (zQi X.K):=by
 intro pins s σ H x y v u Q I rx ry h
 obtain ⟨a,b,xs,ys,rfl,rfl,ha,hb,hne,hz,q⟩:=h
 exact zPK pins s σ H _ _ v u Q I rx ry ⟨a,b,xs,ys,rfl,rfl,yZ.of ha,yZ.of hb,hne,hz,λz=>q a H (zP.refl _) (ha.trans (by rw [z,List.append_nil])),λ_ p hp=>q p _ (gX hp _) xb⟩
end
end L2
namespace Sh
section
variable {pts:List (Int × Int)} (hp:∀ p∈pts,0 < p.2)
include hp
end
end Sh
namespace Sh
open PySem L2
end Sh
namespace Sh
open PySem L2
end Sh
namespace L2
open PySem PySem.Spec PyProof.Rows
abbrev Xn:=Array Value->Option Addr->Prop
def yW (base:Heap) (l:List Env) (e:Addr) (cls:Value) (P:Xn) (fl:Value) (h:Heap):Prop:=
 base.StaysIn h/\base.get? e=none/\h.FunFrames base l/\∃ (oe:Obj) (vs:Array Value) (T:Addr) (oT:Obj) (ts:Array Value),h.get? e=some oe/\oe.cls=cls/\oe.data=.fields vs/\P vs oe.dict/\vs[1]? = some (.ref T)/\base.get? T=none/\T≠e/\h.get? T=some oT/\oT.data=.fields ts/\ts[3]? = some fl
def gY (P:Xn):Prop:=∀ (vs:Array Value) (d:Option Addr) (v:Value),P vs d->P (vs.setIfInBounds 1 v) d
section
variable {M:Model} {A:Around} {E:Value->Shared->Prop} {s:Shared} {base:Heap} {env:Env} {outer:List Env} {L e:Addr} {cls:Value} {P:Xn} {Q:Unit->Shared->Prop} {oe:Obj} {vs:Array Value}
theorem gZ {h:Heap} {T:Addr} {oT:Obj} {ts:Array Value} (hT:h.get? T=some oT) (hd:oT.data=.fields ts) {b:Addr} {o:Obj} (hb:h.get? b=some o) (n:∀ ws,o.data≠.fields ws):b≠T:=by
 rintro rfl
 rw [hT] at hb
 cases hb
 exact n ts hd
theorem zOW {head:Value} {hn:Bool} (st:gY P) (hfr:A.frames=some (env :: outer)) (hl:s.heap.FunFrames base (env :: outer)) (hf:env.frame=some L) (he:s.heap.get? e=some oe) (hkb:base.StaysIn s.heap) (hen:base.get? e=none) (hd:oe.data=.fields vs) (hsz:1 < vs.size) (hP:P vs oe.dict)
  (h:∀ h',yW base (env :: outer) e oe.cls P (rawInt L) h'->s.heap.UpToSlots h'->Q () { s with heap:=h' }) :
  wpAny M A (do let a <- frameOf env; let pl <- entryPlaceOf L hn; let b <- EntryCells.newEntry head a .none (rawInt L) .none pl; setField (.ref e) 1 b) Q E s:=by
 have nf:e∉(env :: outer).filterMap (·.frame):=λz=>by
  obtain ⟨_,o,ho,n⟩:=hl.mem z
  rw [he] at ho
  cases ho
  exact n vs hd
 refine wpAny_bind (wpAny_frameOf_fun hfr hl hf λg sg=>wpAny_bind (wpAny_entryPlaceOf λpl hpl=>?_))
 unfold EntryCells.newEntry newFields
 refine wpAny_bind (wpAny_newObj_type ?_ (hpl.sizeOk5 _ _ _ _ _))
 have e1:g.get? e=some oe:=(sg.2.1 e nf).trans he
 have k1:base.StaysIn g:=λb o q=>(sg.2.1 b λz=>by rw [(hl.mem z).1] at q; cases q).trans (hkb b o q)
 generalize hO:({ cls:=.type "traceback",dict:=none,data:=.fields ([head,.ref L,.none,rawInt L,.none]++(if pl.isEmpty then List.replicate 6 Value.none else pl)).toArray }:Obj)=O
 have dO:∃ ws,O.data=.fields ws/\ws[3]? = some (rawInt L):=by
  rw [<- hO]
  refine ⟨_,rfl,?_⟩
  first | (simp; done) | (rcases hpl with rfl | ⟨_,_,_,_,_,_,_,rfl⟩ <;> simp)
 have fO:O.isFreed=false:=by rw [<- hO]; rfl
 obtain ⟨ws,dw,w3⟩:=dO
 have e2:=Heap.get?_push_of_some (h:=g) O e1
 refine wpAny_setField e2 hd hsz (h _ ?_ ?_)
 ·have ne:g.objs.size≠e:=Nat.ne_of_gt (Heap.lt_size e1)
  have d3:=Obj.data_mapFields hd (·.setIfInBounds 1 (Value.ref g.objs.size))
  refine ⟨λb o q=>?_,hen,hl.of_keeps λb o q n=>?_,_,_,g.objs.size,O,ws,Heap.get?_update_self (Obj.mapFields (·.setIfInBounds 1 (Value.ref g.objs.size))) e2 (Obj.isFreed_of_fields d3),Obj.cls_mapFields _ _,d3,?_,by simp [hsz],k1.fresh,ne,?_,dw,w3⟩
  ·have nb:b≠e:=λz=>by rw [z,hen] at q; cases q
   rw [Heap.get?_update_other _ _ (Ne.symm nb)]
   exact Heap.get?_push_of_some _ (k1 b o q)
  ·obtain ⟨sl,q1⟩:=sg.2.2 b o q
   refine ⟨{ o with slots:=sl },?_,rfl⟩
   rw [Heap.get?_update_other _ _ (Ne.symm (gZ he hd q n))]
   exact Heap.get?_push_of_some _ q1
  ·have z:=st vs oe.dict (Value.ref g.objs.size) hP
   first | exact z | (rw [show (oe.mapFields (·.setIfInBounds 1 (Value.ref g.objs.size))).dict=oe.dict by unfold Obj.mapFields; split <;> rfl]; exact z)
  ·rw [Heap.get?_update_other _ _ (Ne.symm ne)]
   exact Heap.get?_push_size g fO
 ·intro b o q n
  obtain ⟨sl,q1⟩:=sg.2.2 b o q
  refine ⟨sl,?_⟩
  rw [Heap.get?_update_other _ _ (Ne.symm (gZ he hd q n))]
  exact Heap.get?_push_of_some _ q1
theorem zRL (st:gY P) (hfr:A.frames=some (env :: outer)) (hf:env.frame=some L) (x:yW base (env :: outer) e cls P .none s.heap)
  (h:∀ h',yW base (env :: outer) e cls P (rawInt L) h'->s.heap.UpToSlots h'->Q () { s with heap:=h' }):wpAny M A (noteFrame (.ref e) env) Q E s:=by
 obtain ⟨k,en,fr,oe,vs,T,oT,ts,he,rfl,hd,hP,h1,nT,ne,hT,dT,h3⟩:=x
 unfold noteFrame
 simp only [hf]
 refine wpAny_bind (wpAny_field he hd h1 ?_)
 rw [if_pos (show (Value.ref T != Value.none)=true by simp)]
 refine wpAny_bind (wpAny_field hT dT h3 ?_)
 rw [if_neg (show ¬ ((Value.none == rawInt L)=true) by simp [rawInt])]
 refine wpAny_bind (wpAny_setField hT dT (Array.getElem?_eq_some_iff.mp h3).1 ?_)
 have oth:∀ b,b≠T->(s.heap.update T (Obj.mapFields (·.setIfInBounds 3 Value.none))).get? b=s.heap.get? b:=λb nb=>Heap.get?_update_other _ _ (Ne.symm nb)
 refine zOW st hfr (fr.of_keeps λb o q n=>⟨o,(oth b (gZ hT dT q n)).trans q,rfl⟩) hf ((oth e (Ne.symm ne)).trans he) (λb o q=>(oth b λz=>by rw [z,nT] at q; cases q).trans (k b o q)) en hd (Array.getElem?_eq_some_iff.mp h1).1 hP λh' f u=>h h' f λb o q n=>u b o ((oth b (gZ hT dT q n)).trans q) n
theorem zLS (st:gY P) (hfr:A.frames=some (env :: outer)) (hf:env.frame=some L) (hl:s.heap.FunFrames base (env :: outer)) (he:s.heap.get? e=some oe) (hkb:base.StaysIn s.heap) (hen:base.get? e=none) (hd:oe.data=.fields vs) (h1:vs[1]? = some .none) (hP:P vs oe.dict)
  (h:∀ h',yW base (env :: outer) e oe.cls P (rawInt L) h'->s.heap.UpToSlots h'->Q () { s with heap:=h' }):wpAny M A (noteFrame (.ref e) env) Q E s:=by
 unfold noteFrame
 simp only [hf]
 refine wpAny_bind (wpAny_field he hd h1 ?_)
 rw [if_neg (by decide)]
 exact zOW st hfr hl hf he hkb hen hd (Array.getElem?_eq_some_iff.mp h1).1 hP h
theorem Xo {l:List Env} {fl:Value} (x:yW base l e cls P fl s.heap) (h:∀ h',yW base l e cls P .none h'->s.heap.UpToSlots h'->Q () { s with heap:=h' }):wpAny M A (setFlight (.ref e) none) Q E s:=by
 obtain ⟨k,en,fr,oe,vs,T,oT,ts,he,hc,hd,hP,h1,nT,ne,hT,dT,h3⟩:=x
 have sz:3 < ts.size:=(Array.getElem?_eq_some_iff.mp h3).1
 have oth:∀ b,b≠T->(s.heap.update T (Obj.mapFields (·.setIfInBounds 3 ((none:Option Addr).elim Value.none λf=>rawInt f)))).get? b=s.heap.get? b:=λb nb=>Heap.get?_update_other _ _ (Ne.symm nb)
 unfold setFlight
 refine wpAny_bind (wpAny_field he hd h1 ?_)
 rw [if_pos (show (Value.ref T != Value.none)=true by simp)]
 refine wpAny_setField hT dT sz (h _ ⟨λb o q=>(oth b λz=>by rw [z,nT] at q; cases q).trans (k b o q),en,fr.of_keeps λb o q n=>⟨o,(oth b (gZ hT dT q n)).trans q,rfl⟩,oe,vs,T,_,_,(oth e (Ne.symm ne)).trans he,hc,hd,hP,h1,nT,ne,Heap.get?_update_self _ hT (Obj.isFreed_of_fields (Obj.data_mapFields dT _)),Obj.data_mapFields dT _,by simp [sz]⟩ λb o q n=>⟨o.slots,(oth b (gZ hT dT q n)).trans q⟩)
theorem yW.out {fl:Value} {h:Heap} (x:yW base (env :: outer) e cls P fl h):yW base outer e cls P fl h:=by
 obtain ⟨k,en,⟨_,_,fr⟩,r⟩:=x
 exact ⟨k,en,fr,r⟩
theorem zPa (st:gY P) (hfr:A.frames=some (env :: outer)) (hf:env.frame=some L) (x:yW base (env :: outer) e cls P .none s.heap)
  (h:∀ h',yW base outer e cls P .none h'->s.heap.UpToSlots h'->Q () { s with heap:=h' }):wpAny M A (leaving env (.ref e)) Q E s:=by
 unfold leaving
 exact wpAny_bind (zRL st hfr hf x λh1 f1 u1=>Xo f1 λh2 f2 u2=>h h2 f2.out (u1.trans u2))
theorem zIl (st:gY P) (hfr:A.frames=some (env :: outer)) (hf:env.frame=some L) (hl:s.heap.FunFrames base (env :: outer)) (he:s.heap.get? e=some oe) (hkb:base.StaysIn s.heap) (hen:base.get? e=none) (hd:oe.data=.fields vs) (h1:vs[1]? = some .none) (hP:P vs oe.dict)
  (h:∀ h',yW base outer e oe.cls P .none h'->s.heap.UpToSlots h'->Q () { s with heap:=h' }):wpAny M A (leaving env (.ref e)) Q E s:=by
 unfold leaving
 exact wpAny_bind (zLS st hfr hf hl he hkb hen hd h1 hP λh1 f1 u1=>Xo f1 λh2 f2 u2=>h h2 f2.out (u1.trans u2))
end
def P0:Xn:=λvs _=>vs[2]? = some .none
theorem UY:gY P0:=λvs _ _ h=>by
 unfold P0 at h |-
 rw [Array.getElem?_setIfInBounds_ne (by decide)]
 exact h
theorem yW.first {base h:Heap} {l:List Env} {e:Addr} {cls fl:Value} (x:yW base l e cls P0 fl h):∃ oe vs,h.get? e=some oe/\oe.cls=cls/\oe.data=.fields vs/\vs[2]? = some .none:=by
 obtain ⟨_,_,_,oe,vs,_,_,_,he,hc,hd,hP,_⟩:=x
 exact ⟨oe,vs,he,hc,hd,hP⟩
end L2
namespace L2
open PySem PySem.Spec PyProof.Rows
section
variable {P:Program} {w:World} {H:Hp} {h:Heap} {a:Addr}
theorem xk.there {o:HO} (x:xk P w H h a o):∃ ob,h.get? a=some ob:=by
 cases o with
 | lst xs=>obtain ⟨_,_,_,_,e⟩:=x; exact ⟨_,e⟩
 | tup xs=>obtain ⟨_,_,_,p⟩:=x; obtain ⟨ob,e,_⟩:=p; exact ⟨ob,e⟩
 | dK kvs=>obtain ⟨_,_,_,_,ob,_,_,e,_⟩:=x; exact ⟨ob,e⟩
 | dT kvs=>obtain ⟨_,_,_,_,ob,_,_,e,_⟩:=x; exact ⟨ob,e⟩
 | set S n=>obtain ⟨ob,_,_,_,e,_⟩:=x; exact ⟨ob,e⟩
 | ins C dx fs=>obtain ⟨_,_,_,e,_⟩:=x; exact ⟨_,e⟩
 | own y=>exact x
 | xd fs=>obtain ⟨_,⟨ob,_,_,e,_⟩,_⟩:=x; exact ⟨ob,e⟩
 | rng lo hi=>obtain ⟨_,_,_,e⟩:=x; exact ⟨_,e⟩
 | frz ob u=>obtain ⟨e,_⟩:=x; exact ⟨_,e⟩
 | tbl ps=>exact ⟨_,show h.get? a=some _ from x⟩
 | met f y=>exact ⟨_,show h.get? a=some _ from x⟩
 | ext φ=>obtain ⟨_,e,_⟩:=x; exact e
theorem xD.none_of (x:xD P w H h) (e:h.get? a=none):H a=none:=by
 cases q:H a with
 | none=>rfl
 | some o=>
  obtain ⟨ob,z⟩:=(x a o q).there
  rw [e] at z
  cases z
theorem xD.hide {as:List Addr} (x:xD P w H h) (f:∀ b∈as,H b=none):xD P w H (PySem.W.hideAll h as):=λa o e=>
 (x a o e).stay (λb u hb q=>PySem.W.hideAll_get _ q λz=>by
  have n:=f b z
  rcases hb with rfl | hb
  ·rw [n] at e; cases e
  ·rw [n] at hb; cases hb) (λ_ q=>q) λ_ _ q=>q
end
structure XL (P:Program) (w:World) (outer:List Env) (H H':Hp) (s s':Shared) (B:Heap) (e:Addr) (cls a0:Value):Prop where
 os:s'.os=s.os
 bare:AllBare s'.gens
 keep:∀ b o,s.heap.get? b=some o->H b=none->b∉xH outer->B.get? b=some o
 slot:∀ b o,s.heap.get? b=some o->H b=none->b∈xH outer->∃ sl,s'.heap.get? b=some { o with slots:=sl }
 free:∀ b o,s.heap.get? b=some o->H b=none->H' b=none
 there:∀ b o,s.heap.get? b=some o->b∉xH outer->∃ o',B.get? b=some o'
 tups:∀ b xs,H b=some (.tup xs)->H' b=some (.tup xs)
 frzs:∀ b o u,H b=some (.frz o u)->H' b=some (.frz o u)
 tbls:∀ b ps,H b=some (.tbl ps)->∃ more,H' b=some (.tbl (ps++more))
 hok:xD P w H' B
 fly:yW B outer e cls P0 .none s'.heap
def xV (P:Program) (w:World):vk:=λouter H s E ev s'=>∃ (e:Addr) (cls a0:Value) (B:Heap) (H':Hp),ev=.ref e/\XL P w outer H H' s s' B e cls a0/\E cls none H'
section
variable {P:Program} {w:World} {outer:List Env} {H H':Hp} {s s':Shared} {B:Heap} {e:Addr} {cls a0:Value}
theorem XL.un (x:XL P w outer H H' s s' B e cls a0):Un (xH outer) [] H H' s.heap s'.heap where
 keep:=λb o q n hb _=>x.fly.1 b o (x.keep b o q n hb)
 slot:=λb o q n hb _=>x.slot b o q n hb
 free:=λb o q n _=>x.free b o q n
 there:=λb o q _=>by
  by_cases hb:b∈xH outer
  ·obtain ⟨_,o',ho,_⟩:=x.fly.2.2.1.mem hb
   exact ⟨o',ho⟩
  ·obtain ⟨o',ho⟩:=x.there b o q hb
   exact ⟨o',x.fly.1 _ _ ho⟩
 tups:=x.tups
 frzs:=x.frzs
 tbls:=x.tbls
theorem XL.held (x:XL P w outer H H' s s' B e cls a0):xD P w H' s'.heap:=x.hok.kept x.fly.1
theorem XL.move {h':Heap} {tk:Nat} (x:XL P w outer H H' s s' B e cls a0) (f:yW B outer e cls P0 .none h') (u:s'.heap.UpToSlots h'):XL P w outer H H' s { s' with heap:=h',toks:=tk } B e cls a0 where
 os:=x.os
 bare:=x.bare
 keep:=x.keep
 slot:=λb o q n hb=>by
  obtain ⟨sl,e1⟩:=x.slot b o q n hb
  obtain ⟨_,o',ho,nf⟩:=x.fly.2.2.1.mem hb
  rw [e1] at ho
  cases ho
  obtain ⟨sl',e2⟩:=u b _ e1 nf
  exact ⟨sl',e2⟩
 free:=x.free
 there:=x.there
 tups:=x.tups
 frzs:=x.frzs
 tbls:=x.tbls
 hok:=x.hok
 fly:=f
theorem XL.new (x:XL P w outer H H' s s' B e cls a0):s.heap.get? e=none/\H' e=none/\e∉xH outer:=by
 have nf:e∉xH outer:=λz=>by
  obtain ⟨_,o,ho,nd⟩:=x.fly.2.2.1.mem z
  obtain ⟨oe,vs,he,_,hd,_⟩:=yW.first x.fly
  rw [he] at ho
  cases ho
  exact nd _ hd
 refine ⟨?_,x.hok.none_of x.fly.2.1,nf⟩
 cases q:s.heap.get? e with
 | none=>rfl
 | some o=>
  obtain ⟨o',z⟩:=x.there e o q nf
  rw [x.fly.2.1] at z
  cases z
end
section
variable {P:Program} {w:World} {K:PySem.W.Frag} {mg:Str->Option Value} {base:Heap} {N:List Str} {qual:Str} {scope:Scope} {f:Addr} {cd:Value} {A:Around} {outer:List Env} {s:Shared} {H:Hp} {E:XK}
theorem Xp {X:Cx} {pins:List (Addr × Obj)} {σ:St} {H1:Hp} {s1:Shared} {b:Addr} {o:Obj} (I:zE X pins σ H1 s1) (q:X.s₀.heap.get? b=some o) (hb:b∉X.fs):b∉xH X.stack:=λz=>by
 rcases List.mem_cons.mp (I.stkSub b z) with e | z
 ·exact absurd (Nat.lt_of_lt_of_le (Heap.lt_size q) I.ok.above) (by rw [e]; exact Nat.lt_irrefl _)
 ·exact hb z
theorem zGW {pins:List (Addr × Obj)} {σ:St} {H1:Hp} {s1:Shared} {h2:Heap} {e:Addr} {cls:Value} {args:List Value}
  (I:zE (za (xV P w) P w K mg base N qual scope f cd A outer s H E) pins σ H1 s1) (hx:Heap.MadeExcOf s1.heap h2 e cls args) (q:E cls none H1) :
  (za (xV P w) P w K mg base N qual scope f cd A outer s H E).xe (.ref e) { s1 with heap:=h2 }:=by
 have fr:=I.stack
 have fh:=PySem.W.funFrames_hide (as:=xH (za (xV P w) P w K mg base N qual scope f cd A outer s H E).stack) fr λenv he b hb=>List.mem_filterMap.mpr ⟨env,he,hb⟩
 obtain ⟨t,he,htn,ht⟩:=hx.there
 have fr2:∀ b,s1.heap.get? b=none->(PySem.W.hideAll s1.heap (xH (za (xV P w) P w K mg base N qual scope f cd A outer s H E).stack)).get? b=none:=λb hb=>by
  cases q:(PySem.W.hideAll s1.heap (xH (za (xV P w) P w K mg base N qual scope f cd A outer s H E).stack)).get? b with
  | none=>rfl
  | some o=>
   have:=PySem.W.of_hideAll _ q
   rw [hb] at this
   cases this
 refine zIl (s:={ s1 with heap:=h2 }) (base:=PySem.W.hideAll s1.heap (xH (za (xV P w) P w K mg base N qual scope f cd A outer s H E).stack)) UY I.ok.frames rfl (fh.of_keeps λb o q _=>⟨o,hx.keeps b o q,rfl⟩) he (λb o q=>hx.keeps b o (PySem.W.of_hideAll _ q)) (fr2 e hx.new) rfl rfl rfl λh' x1 x4=>?_
 refine ⟨e,cls,.ref t,_,H1,rfl,⟨I.os,I.bare,λb o eb n hb=>?_,λb o eb n hb=>?_,λb o eb n=>I.base.free b o eb n (by simp [za]),λb o eb hb=>?_,I.base.tups,I.base.frzs,I.base.tbls,I.hok.hide λb hb=>I.stkFree b hb,x1⟩,q⟩
 ·exact PySem.W.hideAll_get _ (I.base.keep b o eb n hb (by simp [za])) (Xp I eb hb)
 ·obtain ⟨sl,e1⟩:=I.base.slot b o eb n hb (by simp [za])
  obtain ⟨_,o',ho,nf⟩:=I.funs.mem hb
  rw [e1] at ho
  cases ho
  obtain ⟨sl',e2⟩:=x4 b _ (hx.keeps _ _ e1) nf
  exact ⟨sl',e2⟩
 ·obtain ⟨o',e1⟩:=I.base.there b o eb (by simp [za])
  exact ⟨o',PySem.W.hideAll_get _ e1 (Xp I eb hb)⟩
theorem zK9 {E':XK} (hE:∀ c d H,E' c d H->E c d H):qN (xV P w) (za (xV P w) P w K mg base N qual scope f cd A outer s H E) E':=by
 intro pins σ H1 s1 ev s2 I h
 obtain ⟨e,cls,a0,B,H2,rfl,x,q⟩:=h
 have un:=(I.base.mono (fs':=xH (za (xV P w) P w K mg base N qual scope f cd A outer s H E).stack) (ex':=[]) (λb hb=>by
  show b∈xH (_ :: outer)
  unfold xH
  rw [List.filterMap_cons]
  split
  ·exact hb
  ·exact List.mem_cons_of_mem _ hb) λb hb=>hb).trans x.un
 have hx:yW B ((za (xV P w) P w K mg base N qual scope f cd A outer s H E).env :: outer) e cls P0 .none s2.heap:=x.fly
 refine zPa UY I.ok.frames rfl hx λh' fl up=>?_
 refine ⟨e,cls,a0,B,H2,rfl,⟨x.os.trans I.os,x.bare,λb o eb n hb=>?_,λb o eb n hb=>?_,λb o eb n=>un.free b o eb n (by simp),λb o eb hb=>?_,un.tups,un.frzs,un.tbls,x.hok,fl⟩,hE _ _ _ q⟩
 ·exact x.keep b o (I.base.keep b o eb n hb (by simp [za])) (I.base.free b o eb n (by simp [za])) (Xp I eb hb)
 ·obtain ⟨sl,e1⟩:=I.base.slot b o eb n hb (by simp [za])
  have hb2:b∈xH (za (xV P w) P w K mg base N qual scope f cd A outer s H E).stack:=by
   show b∈xH (_ :: outer)
   unfold xH
   rw [List.filterMap_cons]
   split
   ·exact hb
   ·exact List.mem_cons_of_mem _ hb
  obtain ⟨sl1,e2⟩:=x.slot b _ e1 (I.base.free b o eb n (by simp [za])) hb2
  obtain ⟨_,o',ho,nf⟩:=x.fly.2.2.1.mem hb2
  rw [e2] at ho
  cases ho
  obtain ⟨sl2,e3⟩:=up b _ e2 nf
  exact ⟨sl2,e3⟩
 ·obtain ⟨o',e1⟩:=I.base.there b o eb (by simp [za])
  exact x.there b o' e1 (Xp I eb hb)
end
theorem zPp {K:PySem.W.Frag} {h:Heap} {C:Addr} {bmB:List Value} {newId:String} (X:K.In h) (q:PySem.W.excIn K C bmB newId=true) :
  ∃ bm N nm qn bs hdct sn sub ab col dd k0 k1 k2 k3 k5 mN,h.get? C=some (excClassObj nm qn C N bs bm hdct sn sub ab col dd k0 k1 k2 k3 k5 newId)/\h.Ns N mN/\mN "__init__" = none/\OwnTail h bmB bm:=by
 unfold PySem.W.excIn at q
 split at q
 case h_1 dd cd sl look=>
  split at q
  case h_1 C1 tl k0 k1 k2 k3 made k5 eqm eqs=>
   simp only [Bool.and_eq_true,beq_iff_eq,Bool.not_eq_true'] at q
   obtain ⟨⟨⟨⟨⟨e1,e2⟩,e3⟩,e4⟩,e5⟩,e6⟩:=q
   subst e1 e2
   obtain ⟨nm,bs,mro,ns,qn,hd,sn,sub,ab,col,del⟩:=cd
   obtain ⟨sll⟩:=sl
   dsimp only at eqm e3 e5 e6 eqs
   subst eqm e3 eqs
   exact ⟨tl,ns,nm,qn,bs,hd,sn,sub,ab,col,dd,k0,k1,k2,k3,k5,h.nsMap ns,X _ _ look,.of_isNs (PySem.W.isNs_of_in X e5),PySem.W.nsMap_none_of_in X e5 e6,PySem.W.tail_of_in X e4⟩
  all_goals cases q
 all_goals cases q
abbrev UZ:List Value:=[.type "ValueError",.type "Exception",.type "BaseException",.type "object"]
def zNw (C:Addr) (E:XK) (ta:TA):TS:=λ_ σ H=>ta σ H λvs H1=>vs.length<=sizeLine/\E (.ref C) none H1
def zR2 (X:Cx) (E:XK):Prop:=∀ (pins:List (Addr × Obj)) (σ:St) (H:Hp) (s:Shared) (h':Heap) (e:Addr) (cls:Value) (args:List Value),zE X pins σ H s->Heap.MadeExcOf s.heap h' e cls args->E cls none H->X.xe (.ref e) { s with heap:=h' }
theorem zJG {X:Cx} {C:Addr} {E:XK} {x:Str} {np cpos pos:Pos} {e0:Expr} {es:List Expr} {ta:TA} (R:zR2 X E) (hC:PySem.W.excIn X.K C UZ "ValueError.__new__" = true) (hg:Gl X x) (hm:X.mg x=some (.ref C)) (hc:X.calm=true) (ha:PA X (e0 :: es) ta)
  (hdb:(x == ("__debug__" : Str))=false:=by decide) (he:starEach (e0 :: es) X.env=(false,eval e0 X.env) :: starEach es X.env:=by rfl) (hpl:(backTo cpos (starEach es X.env)).any (·.1)=false:=by rfl) :
  PS X (.Raise (some (.Call (.Name x np) (e0 :: es) [] cpos)) none pos) (zNw C E ta):=by
 intro pins s σ H D I h
 obtain ⟨bm,N,nm,qn,bs,hdct,sn,sub,ab,col,dd,k0,k1,k2,k3,k5,mN,oC,oN,oi,oT⟩:=zPp I.ok.mod.kin hC
 have hp:(backTo cpos (starEach (e0 :: es) X.env)).any (·.1)=false:=by
  rw [he]
  show (false || (backTo cpos (starEach es X.env)).any (·.1))=false
  rw [hpl]
  rfl
 refine wpAny_Raise_call_subT (C:=C) (nm:=nm) (q:=qn) (N:=N) (bs:=bs) (bm:=bm) (hdct:=hdct) (sn:=sn) (sub:=sub) (ab:=ab) (col:=col) (dd:=dd) (k0:=k0) (k1:=k1) (k2:=k2) (k3:=k3) (k5:=k5) PySem.F.excBase_ValueError (mN:=mN)
  (oT.hasType PySem.F.excBase_ValueError.hasBase) (I.ok.hd hc) hp oi (gL I hg hm ⟨rfl,?_⟩ hdb)
 have ha':=ha cpos pins s σ H _ I h
 rw [he] at ha' |-
 refine Calls.evalArgs_plain (zm ha' λus s2 ⟨vs,H1,I2,r,hl,qE⟩=>?_)
 exact ⟨rfl,(by rw [<- r.length]; exact hl),I2.bk _ _ oC,oN.keeps I2.bk,oT.keeps I2.bk,λh' e hm'=>R pins σ H1 s2 h' e _ _ I2 hm' qE⟩
section
variable {P:Program} {w:World} {K:PySem.W.Frag} {mg:Str->Option Value} {base:Heap}
theorem zY.okX {x qual:Str} {st:Stmt} {f:Addr} {fd:FuncData} {N ps:List Str} {k:Nat} {sp:Sp} (F:zY K x qual st f fd) (S:zX N ps (zN st)) (len:∀ vs H Q E,sp vs H Q E->vs.length=ps.length)
  (hbody:∀ (cdv:Value) (A:Around) (outer:List Env) (s:Shared) (H:Hp) (vs:List V) (Q:VK) (E:XK),zW k (A.deeper (envOfC qual (zN st) s.heap.objs.size f cdv))->sp vs H Q E->
   ∃ t,yq (za (xV P w) P w K mg base N qual (zN st) f cdv A outer s H E) (xS st) t/\t { nx:=λ_ H'=>Q .non H',rt:=Q } (wN N vs) H):zF P w K mg base (xV P w) (k + 1) f fd ps sp:=by
 obtain ⟨oc,od,kV,doc,pm,an,cdv,ct,osl,rfl,lk,hcd⟩:=F.ex
 exact Xe lk hcd S len λA outer s H vs Q E hr hsp=>hbody cdv A outer s H vs Q E hr hsp
structure jE (P:Program) (w:World) (K:PySem.W.Frag) (mg:Str->Option Value) (base:Heap) (x:Str) (ps:List Str) (k:Nat) (sp:Sp):Prop where
 ex:∃ f fd,zF P w K mg base (xV P w) k f fd ps sp/\mg x=some (.ref f)/\PySem.W.keepIn K (.ref f)=true/\vA K fd ps []
theorem jE.mono {x:Str} {ps:List Str} {j k:Nat} {sp:Sp} (F:jE P w K mg base x ps j sp) (h:j<=k:=by decide):jE P w K mg base x ps k sp:=by
 obtain ⟨f,fd,a,b,c,d⟩:=F.ex
 exact ⟨f,fd,a.mono h,b,c,d⟩
end
def uY (e C:Addr):HO:=.ext λh=>∃ oe vs,h.get? e=some oe/\oe.cls=.ref C/\oe.data=.fields vs/\vs[2]? = some .none
section
variable {X:Cx}
end
abbrev Cx.mark (X:Cx) (e:Addr):Cx:={ X with A:=X.A.mark (some (.ref e)),calm:=false,xe:=λ_ _=>False }
section
variable {X:Cx} {pins:List (Addr × Obj)} {σ:St} {H:Hp} {s:Shared} {e:Addr}
theorem zE.mark (I:zE X pins σ H s) (e:Addr):zE (X.mark e) pins σ H s:=
 ⟨⟨I.ok.mod,I.ok.kind,I.ok.glob,I.ok.blt,I.ok.above,I.ok.inj,I.ok.has,I.ok.cab,λz=>(nomatch z),I.ok.frames,I.ok.stk,I.ok.exf,I.ok.bs,I.ok.bsz,I.ok.noex,I.ok.exfs,I.ok.funs,I.ok.frf⟩,I.os,I.bare,I.base,I.loc,I.cell,I.free,I.freeC,I.pin,I.hok,I.len⟩
theorem zE.unmark (hh:X.calm=true->X.A.handled=none) (I:zE (X.mark e) pins σ H s):zE X pins σ H s:=
 ⟨⟨I.ok.mod,I.ok.kind,I.ok.glob,I.ok.blt,I.ok.above,I.ok.inj,I.ok.has,I.ok.cab,hh,I.ok.frames,I.ok.stk,I.ok.exf,I.ok.bs,I.ok.bsz,I.ok.noex,I.ok.exfs,I.ok.funs,I.ok.frf⟩,I.os,I.bare,I.base,I.loc,I.cell,I.free,I.freeC,I.pin,I.hok,I.len⟩
theorem zE.track {o:HO} (I:zE X pins σ H s) (hn:H e=none) (h0:e∈X.ex\/X.s₀.heap.get? e=none) (hL:e≠X.env.locals) (hc:∀ x c,X.env.cells.lookup x=some c->c≠e) (hp:∀ p∈X.pn++pins,p.1≠e)
  (new:xk X.prog X.w (zb H e o) s.heap e o):zE X pins σ (zb H e o) s:=by
 have ne:∀ b u,H b=some u->b≠e:=λb u q=>wV q hn
 refine ⟨I.ok,I.os,I.bare,⟨I.base.keep,I.base.slot,λb ob q n hx=>?_,I.base.there,λb xs q=>?_,λb ob u q=>?_,λb ps q=>?_⟩,I.loc,I.cell,?_,λx c q=>?_,λp hq=>?_,λb u q=>?_,I.len⟩
 ·rw [zv λz=>?_]
  ·exact I.base.free b ob q n hx
  ·subst z
   rcases h0 with z | z
   ·exact hx z
   ·rw [q] at z; cases z
 ·have z:=I.base.tups b xs q
  rw [zv (ne _ _ z)]
  exact z
 ·have z:=I.base.frzs b ob u q
  rw [zv (ne _ _ z)]
  exact z
 ·obtain ⟨m,z⟩:=I.base.tbls b ps q
  exact ⟨m,by rw [zv (ne _ _ z)]; exact z⟩
 ·rw [zv (Ne.symm hL)]
  exact I.free
 ·rw [zv (hc x c q)]
  exact I.freeC x c q
 ·obtain ⟨a1,a2,a3,a4,a5⟩:=I.pin p hq
  exact ⟨a1,by rw [zv (hp p hq)]; exact a2,a3,a4,a5⟩
 ·by_cases z:b=e
  ·subst z
   rw [xb] at q
   cases q
   exact new
  ·rw [zv z] at q
   exact (I.hok b u q).stay (λ_ _ _ r=>r) (λc r=>by rw [zv (ne _ _ r)]; exact r) λc xs r=>by rw [zv (ne _ _ r)]; exact r
end
def PEX (X:Cx) (ex:Expr) (t:XK->TE):Prop:=
 ∀ (pins:List (Addr × Obj)) (s:Shared) (σ:St) (H:Hp) (Q:VK) (E:XK),zE X pins σ H s->t E σ H Q->
  wpAny (model X.prog X.w) X.A (eval ex X.env) (EP X pins σ Q) (λev s'=>∃ (s1:Shared) (H1 H2:Hp) (e:Addr) (cls a0:Value) (B:Heap),zE X pins σ H1 s1/\ev=.ref e/\XL X.prog X.w X.stack H1 H2 s1 s' B e cls a0/\E cls none H2) s
theorem zK2 {X:Cx} {x:Str} {ps:List Str} {k:Nat} {sp:Sp} {e:Expr} {es:List Expr} {t:TA} {p pos:Pos} (F:jE X.prog X.w X.K X.mg X.base x ps k sp) (hr:zW k X.A) (hg:Gl X x) (ha:PA X.nox (e :: es) t)
  (hdb:(x == ("__debug__" : Str))=false:=by decide) (he:starEach (e :: es) X.env=(false,eval e X.env) :: starEach es X.env:=by rfl) (hpl:(backTo pos (starEach es X.env)).any (·.1)=false:=by rfl) :
  PEX X (.Call (.Name x p) (e :: es) [] pos) (λE=>qM sp [] E t):=by
 intro pins s σ H Q E I h
 obtain ⟨f,fd,Fk,hm,hk,hb⟩:=F.ex
 refine wpAny_Call_Name_kw (gL I hg hm ?_ hdb)
 refine PySem.W.callWith_K (h₀:=X.base) I.ok.mod.kin hk (wpAny_mono (ha pos pins s σ H _ (I.wish _) h) (λus s1 ⟨vs,H1,I1,r,q⟩=>⟨I1.unwish.kIn,?_⟩) λ_ _ z=>False.elim z) he hpl
 have I1':=I1.unwish
 have r2:zM (vs++[]) (us++[]):=r.append .nil
 have hl:(us++[]).length=ps.length:=by rw [<- r2.length]; exact Fk.len _ _ _ _ q
 refine wpAny_call (codeAny_mono (Fk.run X.A X.stack s1 H1 ⟨us,[]⟩ (us++[]) (vs++[]) Q E hr I1'.env0 (hb s1 us I1'.kIn hl) r2 q) λr s' hq=>?_)
 cases r with
 | error ev=>
  obtain ⟨ee,cls,a0,B,H2,rfl,x,qE⟩:=hq
  exact ⟨s1,H1,H2,ee,cls,a0,B,I1',rfl,x,qE⟩
 | ok fl=>
  cases fl with
  | ret u=>exact I1'.after hq
  | next=>exact False.elim hq
  | brk=>exact False.elim hq
  | cont=>exact False.elim hq
end L2
namespace L2
open PySem PySem.Spec PyProof.Rows
def XP (X:Cx) (pins:List (Addr × Obj)) (ES:St->XK) (ev:Value) (s':Shared):Prop:=
 ∃ (σ1:St) (s1:Shared) (H1 H2:Hp) (e:Addr) (cls a0:Value) (B:Heap),zE X pins σ1 H1 s1/\ev=.ref e/\XL X.prog X.w X.stack H1 H2 s1 s' B e cls a0/\ES σ1 cls none H2
abbrev TX:=(St->XK)->TS
def PSX (X:Cx) (st:Stmt) (t:TX):Prop:=∀ (pins:List (Addr × Obj)) (s:Shared) (σ:St) (H:Hp) (D:yu) (ES:St->XK),zE X pins σ H s->t ES D σ H->wpAny (model X.prog X.w) X.A (exec st X.env) (SP X pins D) (XP X pins ES) s
def jF (X:Cx) (ss:List Stmt) (t:TX):Prop:=∀ (pins:List (Addr × Obj)) (s:Shared) (σ:St) (H:Hp) (D:yu) (ES:St->XK),zE X pins σ H s->t ES D σ H->wpAny (model X.prog X.w) X.A (execs ss X.env) (SP X pins D) (XP X pins ES) s
section
variable {X:Cx} {call:Expr} {tb:XK->TE} {pos pos':Pos}
theorem zMq (hb:PEX X call tb) (hs:swapsWith call none pos.line X.env=pure false:=by rfl):PSX X (.Expr call pos) (λES D σ H=>tb (ES σ) σ H λ_ H1=>D.nx σ H1):=by
 intro pins s σ H D ES I h
 refine wpAny_Expr_any (wpAny_mono (hb pins s σ H _ _ I h) (λv s1 ⟨y,H1,I1,r1,q1⟩=>⟨σ,H1,I1,q1⟩) λev s1 ⟨s0,H1,H2,e,cls,a0,B,I0,e1,xl,q⟩=>⟨σ,s0,H1,H2,e,cls,a0,B,I0,e1,xl,q⟩) I.quiet hs
theorem zMp:jF X [] (λ_ D σ H=>D.nx σ H):=λ_ _ σ H _ _ I h=>wpAny_execs_nil ⟨σ,H,I,h⟩
theorem zKs {st:Stmt} {ss:List Stmt} {t u:TX} (h1:PSX X st t) (h2:jF X ss u):jF X (st :: ss) (λES D σ H=>t ES { D with nx:=u ES D } σ H):=by
 intro pins s σ H D ES I h
 refine wpAny_execs_cons (wpAny_mono (h1 pins s σ H _ ES I h) (λf s1 q=>?_) λ_ _ z=>z)
 cases f with
 | next=>obtain ⟨σ',H',I',q'⟩:=q; exact h2 pins s1 σ' H' D ES I' q'
 | brk=>exact q
 | cont=>exact q
 | ret u=>exact q
end
theorem zE.gone {X:Cx} {pins:List (Addr × Obj)} {σ8:St} {H8:Hp} {s8:Shared} {h9:Heap} {i:Nat} {n:Str} {m8:Str->Option Value} {v9:Option Value} {tk:Nat} (I8':zE X pins σ8 H8 s8) (hN:X.N.Nodup) (hi:X.N[i]? = some n)
  (hl8:∀ (i:Nat) (x:Str) (v:V),X.N[i]? = some x->σ8[i]? = some (some v)->jj X.env.scope x->∃ u,zU v u/\kH X.env s8.heap m8 x u)
  (hn9:h9.Ns X.env.locals (λy=>if y=n then v9 else m8 y)) (keep9:∀ b o,b≠X.env.locals->s8.heap.get? b=some o->h9.get? b=some o):zE X pins (σ8.set i none) H8 { s8 with heap:=h9,toks:=tk }:=by
 have iσ:i < σ8.length:=by rw [I8'.len]; exact (List.getElem?_eq_some_iff.mp hi).1
 refine ⟨I8'.ok,I8'.os,I8'.bare,⟨λb o q n hb hx=>?_,λb o q n hb hx=>?_,I8'.base.free,λb o q hx=>?_,I8'.base.tups,I8'.base.frzs,I8'.base.tbls⟩,⟨_,hn9,λj y v e1 e2 e3=>?_⟩,λy c q=>?_,I8'.free,I8'.freeC,λp hp=>?_,λb u q=>?_,by rw [List.length_set]; exact I8'.len⟩
 ·exact keep9 b o (Nat.ne_of_lt (Nat.lt_of_lt_of_le (Heap.lt_size q) I8'.ok.above)) (I8'.base.keep b o q n hb hx)
 ·obtain ⟨sl,e1⟩:=I8'.base.slot b o q n hb hx
  exact ⟨sl,keep9 b _ (Nat.ne_of_lt (Nat.lt_of_lt_of_le (Heap.lt_size q) I8'.ok.above)) e1⟩
 ·obtain ⟨o',e1⟩:=I8'.base.there b o q hx
  exact ⟨o',keep9 b _ (Nat.ne_of_lt (Nat.lt_of_lt_of_le (Heap.lt_size q) I8'.ok.above)) e1⟩
 ·by_cases hj:j=i
  ·subst hj
   rw [List.getElem?_set_self iσ] at e2
   cases e2
  ·rw [List.getElem?_set_ne (Ne.symm hj)] at e2
   obtain ⟨u,r,l⟩:=hl8 j y v e1 e2 e3
   refine ⟨u,r,?_⟩
   have yn:y≠n:=λz=>hj (Wp hN e1 (z ▸ hi))
   rcases l with ⟨k,l⟩ | ⟨k,c,l1,o,l2,l3⟩
   ·exact .inl ⟨k,(if_neg yn).trans l⟩
   ·exact .inr ⟨k,c,l1,o,keep9 _ _ (I8'.cne y c l1) l2,l3⟩
 ·obtain ⟨v,o,l2,l3⟩:=I8'.cell y c q
  exact ⟨v,o,keep9 _ _ (I8'.cne y c q) l2,l3⟩
 ·obtain ⟨a1,a2,a3,a4,a5⟩:=I8'.pin p hp
  exact ⟨keep9 _ _ a3 a1,a2,a3,a4,a5⟩
 ·refine (I8'.hok b u q).stay (λc v hc r=>keep9 c v (λz=>?_) r) (λ_ r=>r) λ_ _ r=>r
  rcases hc with z1 | z1
  ·rw [<- z1,z,I8'.free] at q
   cases q
  ·rw [z,I8'.free] at z1
   cases z1
def zQO (K:PySem.W.Frag) (Cb:Addr) (i:Nat) (tb:TX) (th:TS):TS:=λD σ H=>
 tb (λσ1 cls _ H2=>∃ C,cls=.ref C/\PySem.W.exmOne K (.ref C) (.ref Cb)=some true/\∀ e,H2 e=none->
  th { nx:=λσ' H'=>D.nx (σ'.set i none) H',rt:=D.rt,bk:=λσ' H'=>D.bk (σ'.set i none) H',ct:=λσ' H'=>D.ct (σ'.set i none) H' } (σ1.set i (some (.ref e))) (zb H2 e (uY e C))) D σ H
theorem zO4 {X:Cx} {Cb:Addr} {x n:Str} {i:Nat} {body:List Stmt} {tb:TX} {th:TS} {b₀:Stmt} {suite:List Stmt} {np hpos pos:Pos} (hg:Gl X x) (hm:X.mg x=some (.ref Cb)) (hc:X.calm=true)
  (hf:X.env.frame=some X.env.locals) (hst:X.stack=X.env :: X.outer) (hN:X.N.Nodup) (hi:X.N[i]? = some n) (hn:X.env.scope.names.lookup n=some .local) (hb:jF X body tb) (hh:∀ e,yq (X.mark e) (b₀ :: suite) th)
  (hdb:(x == ("__debug__" : Str))=false:=by decide) :
  PS X (.Try body [.ExceptHandler (some (.Name x np)) (some n) (b₀ :: suite) hpos] [] [] pos) (zQO X.K Cb i tb th):=by
 intro pins s σ H D I h
 refine wpAny_Try_except (wpAny_mono (hb pins s σ H D _ I h) (λfl s1 q1=>?_) λev s1 hx=>?_)
 ·cases fl with
  | next=>exact wpAny_execs_nil q1
  | brk=>exact q1
  | cont=>exact q1
  | ret u=>exact q1
 obtain ⟨σ1,s0,H1,H2,e,cls,a0,B,I0,rfl,xl,C,rfl,hx,q⟩:=hx
 have hfr:X.A.frames=some (X.env :: X.outer):=by rw [<- hst]; exact I.ok.frames
 have xl':XL X.prog X.w (X.env :: X.outer) H1 H2 s0 s1 B e (.ref C) a0:=by rw [<- hst]; exact xl
 have behind:∀ {h':Heap} {tk:Nat},XL X.prog X.w (X.env :: X.outer) H1 H2 s0 { s1 with heap:=h',toks:=tk } B e (.ref C) a0->zE X pins σ1 H2 { s1 with heap:=h',toks:=tk }:=λ{h' tk} z=>by
  have z':XL X.prog X.w X.stack H1 H2 s0 { s1 with heap:=h',toks:=tk } B e (.ref C) a0:=by rw [hst]; exact z
  exact I0.call' (ch:=[]) z'.os z'.un z'.held z'.bare λb hb=>absurd hb (by simp)
 have hE:∀ (Y:Around) (v:Value) (sx:Shared),False->notedBy (model X.prog X.w) Y X.env (cameBackBy (model X.prog X.w) X.A X.env X.xe) v sx:=λ_ _ _ z=>z.elim
 refine zRL UY hfr hf xl'.fly λh4 held4 up4=>?_
 refine Xo held4 λh5 fly5 up5=>?_
 have x5:=xl'.move (tk:=s1.toks) fly5 (up4.trans up5)
 have I5:=behind x5
 refine wpAny_handleBy_cons (codeAny_handlers_test (gL (I5.mark e) hg hm ?_ hdb)) (by intro q; cases q)
 obtain ⟨oe,ws,he,hcl,hd,_⟩:=yW.first fly5
 have LT:PySem.W.Looks (model X.prog X.w) h5 (typeOf (.ref e)) (.ref C):=hcl ▸ (PySem.W.Looks.ld he).andThen .now
 refine (PySem.W.exm_one (K:=X.K) I5.kIn LT hx).here (codeAny_handlers_suite_as ?_)
 refine Xo (s:={ s1 with heap:=h5 }) fly5 λh6 fly6 up6=>?_
 have x6:=xl'.move (tk:=s1.toks) fly6 ((up4.trans up5).trans up6)
 have I6:=behind x6
 obtain ⟨oe6,ws6,he6,hcl6,hd6,h26⟩:=yW.first fly6
 obtain ⟨new,hH,nfr⟩:=xl.new
 have eL:e≠X.env.locals:=λz=>nfr (by
  rw [hst]
  unfold xH
  rw [List.filterMap_cons,hf,z]
  exact List.mem_cons_self)
 have J6:zE X pins σ1 (zb H2 e (uY e C)) { s1 with heap:=h6,toks:=s1.toks }:=by
  refine I6.track hH ?_ eL (λy c q z=>?_) (λp hp z=>?_) ⟨⟨oe6,ws6,he6,hcl6,hd6,h26⟩,⟨oe6,he6⟩,λg1 g2 ⟨o,v,p1,p2,p3⟩ k=>⟨o,v,k _ p1,p2,p3⟩⟩
  ·by_cases hx:e∈X.ex
   ·exact .inl hx
   ·refine .inr ?_
    cases q:X.s₀.heap.get? e with
    | none=>rfl
    | some o=>
     obtain ⟨o',z⟩:=I0.base.there e o q hx
     rw [new] at z
     cases z
  ·obtain ⟨v,o,ho,_⟩:=I0.cell y c q
   rw [z,new] at ho
   cases ho
  ·have z1:=(I0.pin p hp).1
   rw [z,new] at z1
   cases z1
 refine kI (X:=X.mark e) (J6.mark e) hN hi (.inl hn) (v:=.ref e) rfl (λs7 I7=>?_) (.inr hn)
 refine wpAny_mono (hh e pins s7 _ _ _ I7 (q e hH)) (λfl s8 h8=>?_) λ_ _ z=>False.elim z
 have hcls:(X.env.scope.kind == .class || (X.env.scope.kind == .module && X.env.locals != X.env.globals))=false:=by rw [I.ok.kind]; rfl
 have goes:∀ {σ8:St} {H8:Hp} {R:Shared->Prop},zE (X.mark e) pins σ8 H8 s8->(∀ s9,zE X pins (σ8.set i none) H8 s9->R s9)->wpAny (model X.prog X.w) X.A (do bindName X.env n .none; unbindBehindTheSuite X.env n hpos) (λ_ s9=>R s9) X.xe s8:=λ{σ8 H8 R} I8 q=>by
  have I8':zE X pins σ8 H8 s8:=I8.unmark λz=>I.ok.hd z
  obtain ⟨m8,hn8,hl8⟩:=id I8'.loc
  refine wpAny_nameGoes_keeps hn hn8 hcls λh9 v9 hn9 sb9=>?_
  exact q _ (I8'.gone hN hi hl8 hn9 λb o nb q=>(sb9.2 b nb).trans q)
 cases fl with
 | ret u=>obtain ⟨v,σ8,H8,I8,r8,q8⟩:=h8; exact goes I8 λs9 I9=>⟨v,_,H8,I9,r8,q8⟩
 | brk=>obtain ⟨σ8,H8,I8,q8⟩:=h8; exact goes I8 λs9 I9=>⟨_,H8,I9,q8⟩
 | cont=>obtain ⟨σ8,H8,I8,q8⟩:=h8; exact goes I8 λs9 I9=>⟨_,H8,I9,q8⟩
 | next=>obtain ⟨σ8,H8,I8,q8⟩:=h8; exact goes I8 λs9 I9=>⟨_,H8,I9,q8⟩
end L2
namespace L2
open PySem PySem.Spec PyProof.Rows
section
variable {X:Cx} {C:Addr} {m x:Str} {ps:List Str} {k:Nat} {sp:Sp} {o e:Expr} {es:List Expr} {ta:TE} {t:TA} {p pos apos:Pos}
end
section
variable {P:Program} {w:World} {K:PySem.W.Frag} {mg:Str->Option Value} {base:Heap} {N:List Str} {qual:Str} {scope:Scope} {f:Addr} {cd:Value} {A:Around} {outer:List Env} {s:Shared} {H:Hp} {E:XK}
variable {C:Addr} {m x:Str} {ps:List Str} {k:Nat} {sp:Sp} {o e:Expr} {es:List Expr} {ta:TE} {t:TA} {p pos apos:Pos}
theorem zJJ (F:jE P w K mg base x ps k sp) (hr:zW k (za (xV P w) P w K mg base N qual scope f cd A outer s H E).A) (hg:Gl (za (xV P w) P w K mg base N qual scope f cd A outer s H E) x) (ha:PA (za (xV P w) P w K mg base N qual scope f cd A outer s H E) (e :: es) t)
  (hdb:(x == ("__debug__" : Str))=false:=by decide) (he:starEach (e :: es) (za (xV P w) P w K mg base N qual scope f cd A outer s H E).env=(false,eval e (za (xV P w) P w K mg base N qual scope f cd A outer s H E).env) :: starEach es (za (xV P w) P w K mg base N qual scope f cd A outer s H E).env:=by rfl)
  (hpl:(backTo pos (starEach es (za (xV P w) P w K mg base N qual scope f cd A outer s H E).env)).any (·.1)=false:=by rfl) :
  PE (za (xV P w) P w K mg base N qual scope f cd A outer s H E) (.Call (.Name x p) (e :: es) [] pos) (qM sp [] E t):=by
 obtain ⟨f',fd,a,b,c,d⟩:=F.ex
 exact UB (X:=za (xV P w) P w K mg base N qual scope f cd A outer s H E) a hr hg b c d .nil (zK9 λ_ _ _ z=>z) ha hdb he hpl
end
end L2
namespace L2
open PySem PySem.Spec PyProof.Rows
section
variable {P:Program} {w:World} {K:PySem.W.Frag} {mg:Str->Option Value} {base:Heap} {k:Nat} {f C:Addr} {fd:FuncData} {x m:Str} {ps:List Str} {sp:Sp}
end
end L2
namespace L2
open PySem PySem.Spec PyProof.Rows PySem.Builtin PySem.Builtin.ObjectAttr PySem.Builtin.Getset_descriptor
structure xg (K:PySem.W.Frag) (C:Addr):Prop where
 ga:PySem.W.findIn K (.ref C) "__getattribute__" = some (some (.builtin "BaseException.__getattribute__"))
 gt:PySem.W.findIn K (.ref C) "__getattr__" = some none
 ha:PySem.W.findIn K (.ref C) "__class__" = some (some (.builtin "object.__class__"))
 hn:PySem.W.specialIn K (.builtin "object.__class__") "__get__" = some (some (.builtin "getset_descriptor.__get__"))
 tk:PySem.W.takesIn K (.builtin "object.__class__")=some true
 mb:PySem.W.mroIn K C (.type "BaseException")=some true
 mo:PySem.W.mroIn K C (.type "object")=some true
section
variable {prog:Program} {w:World} {A:Around} {E:Value->Shared->Prop} {K:PySem.W.Frag} {s:Shared} {e C:Addr} {oe:Obj}
theorem zPq {tp:Value} {R:Result->Shared->Prop} (X:K.In s.heap) (he:s.heap.get? e=some oe) (hc:oe.cls=.ref C) (Z:xg K C)
  (h:R (.ok (.ret (.ref C))) s):codeAny (model prog w) A (.call (.builtin "getset_descriptor.__get__") ⟨[.builtin "object.__class__",.ref e,tp],[]⟩) R s:=by
 obtain ⟨hh,g,dr,t,os⟩:=s
 have L0:PySem.W.Looks (model prog w) hh (typeOf (.ref e)) (.ref C):=hc ▸ (PySem.W.Looks.ld he).andThen .now
 have L1:=PySem.W.looks_mroIn (M:=model prog w) X Z.mo
 refine codeAny_call_builtin PySem.W.KF.slot_gs.plain PySem.W.KF.entry_gs (PySem.W.KF.slot_gs.check _ _ _ _ _ _ _ _ PySem.W.KF.type_class (PySem.W.KF.args_gs _ _ _) ?_)
 unfold Builtin.«getset_descriptor.__get__» descrGet
 rw [PySem.W.dga_obj]
 refine wpAny_bind (wpAny_pure ?_)
 unfold descrGetter descrCheckInstance descrNameAndClass isInstance
 simp only [PySem.W.KF.owner_class]
 repeat lk
 refine ⟨Code.quiet_builtin _ (by decide +kernel),codeAny_builtin PySem.W.KF.entry_class ?_⟩
 unfold Builtin.«object.__class__» shownTypeOf
 repeat lk
 exact h
theorem zNc (X:K.In s.heap) (Z:xg K C):PySem.W.Looks (model prog w) s.heap (find (.ref e) (.ref C) "__class__") (.bind (.builtin "getset_descriptor.__get__") (.builtin "object.__class__")):=by
 have L1:=PySem.W.looks_findIn (M:=model prog w) X Z.ha
 have L2:PySem.W.Looks (model prog w) s.heap (getOf (some (.builtin "object.__class__"))) (some (.builtin "getset_descriptor.__get__")):=PySem.W.looks_specialIn X Z.hn
 have L3:=PySem.W.looks_takesIn (M:=model prog w) X Z.tk
 exact L1.andThen (L2.andThen ((show PySem.W.Looks (model prog w) s.heap (dataDescriptor? (some (.builtin "object.__class__")) (some (.builtin "getset_descriptor.__get__"))) (some (.builtin "getset_descriptor.__get__",.builtin "object.__class__")) from L3.andThen .now).andThen (PySem.W.Looks.tag .now)))
theorem zL0 {tk:Tok} {Q:Fin->Shared->Prop} (X:K.In s.heap) (he:s.heap.get? e=some oe) (hc:oe.cls=.ref C) (Z:xg K C) (hq:Q (.done (.ret (.ref C))) s) :
  wpAny (model prog w) A (Builtin.«object.__getattribute__» ⟨[.ref e,.str "__class__" tk],[]⟩) Q E s:=by
 obtain ⟨hh,g,dr,t,os⟩:=s
 have L0:PySem.W.Looks (model prog w) hh (typeOf (.ref e)) (.ref C):=hc ▸ (PySem.W.Looks.ld he).andThen .now
 have L1:=zNc (prog:=prog) (w:=w) (s:=⟨hh,g,dr,t,os⟩) (e:=e) X Z
 unfold Builtin.«object.__getattribute__»
 refine wpAny_bind (wpAny_pure ?_)
 refine wpAny_bind (wpAny_pure ?_)
 refine wpAny_bind (L0.at (wpAny_bind (L1.at ?_)))
 show wpAny _ _ (holding [Value.builtin "object.__class__"] (call (.builtin "getset_descriptor.__get__") [.builtin "object.__class__",.ref e,.ref C]) >>= ret) _ _ _
 exact wpAny_bind (wpAny_holding (wpAny_call (zPq (s:=⟨hh,g,dr,t,os⟩) X he hc Z (wpAny_pure hq))))
theorem zL2 {M:Model} {nameV:Value} {Q:Unit->Shared->Prop} (X:K.In s.heap) (he:s.heap.get? e=some oe) (hc:oe.cls=.ref C) (Z:xg K C) (hq:Q () s):wpAny M A (checkBuiltinCall "BaseException.__getattribute__" ⟨[.ref e,nameV],[]⟩) Q E s:=by
 obtain ⟨hh,g,dr,t,os⟩:=s
 have L0:PySem.W.Looks M hh (typeOf (.ref e)) (.ref C):=hc ▸ (PySem.W.Looks.ld he).andThen .now
 have L1:=PySem.W.looks_mroIn (M:=M) X Z.mb
 have hk:builtinKind "BaseException.__getattribute__" = some .slot:=by decide +kernel
 have hsplit:splitId "BaseException.__getattribute__" = some ("BaseException","__getattribute__"):=by decide +kernel
 have ha:=F.args_bexc_ga (.ref e) nameV
 simp only [checkBuiltinCall,hk,hsplit]
 unfold isInstance
 repeat lk
 exact hq
theorem zNd {tk:Tok} {R:Result->Shared->Prop} (X:K.In s.heap) (he:s.heap.get? e=some oe) (hc:oe.cls=.ref C) (Z:xg K C) (hq:R (.ok (.ret (.ref C))) s) :
  codeAny (model prog w) A (.call (.builtin "BaseException.__getattribute__") ⟨[.ref e,.str "__class__" tk],[]⟩) R s:=
 codeAny_call_builtin (by decide +kernel) F.entry_bexc_ga (zL2 X he hc Z (zL0 X he hc Z hq))
theorem zL1 {Q:Option Value->Shared->Prop} (X:K.In s.heap) (he:s.heap.get? e=some oe) (hc:oe.cls=.ref C) (Z:xg K C) (hq:Q (some (.ref C)) { s with toks:=s.toks + 1 }) :
  wpAny (model prog w) A (getAttr? (.ref e) "__class__") Q E s:=by
 obtain ⟨hh,g,dr,t,os⟩:=s
 have L0:PySem.W.Looks (model prog w) hh (typeOf (.ref e)) (.ref C):=hc ▸ (PySem.W.Looks.ld he).andThen .now
 have L1:=PySem.W.looks_findIn (M:=model prog w) X Z.ga
 have L2:=PySem.W.looks_findIn (M:=model prog w) X Z.gt
 have hx2:(Value.builtin "BaseException.__getattribute__" == Value.builtin "object.__getattribute__")=false:=by decide +kernel
 have f3:bindSpecial (.builtin "BaseException.__getattribute__") (.ref e)=pure (.builtin "BaseException.__getattribute__",[.ref e]):=by
  have hop:withoutEnding? "BaseException.__getattribute__" "#opaque" = none:=by decide +kernel
  have hdat:withoutEnding? "BaseException.__getattribute__" "#data" = none:=by decide +kernel
  have hk:builtinKind "BaseException.__getattribute__" = some .slot:=by decide +kernel
  simp only [bindSpecial,typeOf,builtinType,hop,hdat,hk]
  rfl
 unfold getAttr? getAttrBy? getAttrBy
 refine wpAny_bind (wpAny_mkText (wpAny_bind (wpAny_attempt (wpAny_holding (wpAny_bind (L0.at (wpAny_bind (L1.at ?_))))))))
 dsimp only
 rw [hx2,Bool.and_false,if_neg Bool.false_ne_true]
 unfold getAttrByItsOwn hookBefore
 refine wpAny_bind ?_
 rw [if_pos (show onTheHeap (Value.ref C)=true from rfl)]
 refine L2.at ?_
 unfold callGetattribute
 rw [Bool.false_and,if_neg Bool.false_ne_true]
 unfold boundAndCalled
 rw [f3]
 refine wpAny_bind (wpAny_attempt (wpAny_holding (wpAny_bind (wpAny_pure ?_))))
 exact wpAny_call (zNd (s:=⟨hh,g,dr,t + 1,os⟩) X he hc Z (wpAny_pure (wpAny_pure hq)))
theorem zNP (Z:xg K C):PySem.W.KitX K (.ref e) (.ref C) (λh=>∃ oe,h.get? e=some oe/\oe.cls=.ref C) where
 ty:=λ_ _ _ ⟨_,he,hc⟩=>hc ▸ (PySem.W.Looks.ld he).andThen .now
 it:=λ_ _ X _=>by
  obtain ⟨cd,hcD,_⟩:=Option.bind_eq_some_iff.mp Z.mo
  unfold PySem.W.clsIn at hcD
  split at hcD
  ·rename_i c' d' cd' sl' ho
   intro A' Q' E' s' k q
   unfold isType loadHead
   exact wpAny_bind (wpAny_loadPart (k _ _ (X _ _ ho)) (wpAny_pure q))
  ·cases hcD
 ne:=λh tp dd its n sl X htp=>by
  obtain ⟨cd,hcD,_⟩:=Option.bind_eq_some_iff.mp Z.mo
  refine Bool.eq_false_iff.mpr λq=>?_
  have e:C=tp:=Value.ref.inj (beq_iff_eq.mp q)
  subst e
  unfold PySem.W.clsIn at hcD
  split at hcD
  ·rename_i c' d' cd' sl' ho
   have z:=(X _ _ ho).symm.trans htp
   cases z
  ·cases hcD
 ca:=λX ⟨_,he,hc⟩ k=>zL1 X he hc Z k
end
section
variable {X:Cx}
def ZN (K:PySem.W.Frag):List V->Hp->VK->Prop:=λxs H Q=>∃ e C c b,xs=[.ref e,.ref c]/\H e=some (uY e C)/\xg K C/\PySem.W.kitOne K (.ref C) (.ref c)=some b/\Q (.bl b) H
theorem zEK:wM X (.builtin "isinstance") (ZN X.K):=by
 intro pins s σ H xs us Q I r h
 obtain ⟨e,C,c,b,rfl,he,Z,kx,q⟩:=h
 obtain ⟨u,v,rfl,ru,rv⟩:=gQ r
 cases (show v=Value.ref c from rv)
 cases (show u=Value.ref e from ru)
 obtain ⟨⟨oe,vs,h1,h2,_⟩,_⟩:=(show xk X.prog X.w H s.heap e (uY e C) from I.hok e _ he)
 exact PySem.W.kia_one (zNP Z) I.kIn ⟨oe,h1,h2⟩ kx (λz=>nomatch z) λtk=>⟨.bl b,H,I.tok tk,rfl,q⟩
end
end L2
namespace Sh
open PySem L2
inductive AK where
 | int (i:Int)
 | bool (b:Bool)
 | non
 | str (x:Str)
 | dic
 | lst (as:List AK)
 | tup (as:List AK)
 | mode (r n s p a d:AK)
def AK.isInt:AK->Bool
 | .int _=>true
 | .bool _=>true
 | _=>false
def AK.isBool:AK->Bool
 | .bool _=>true
 | _=>false
def AK.isLst:AK->Bool
 | .lst _=>true
 | _=>false
def AK.isTup:AK->Bool
 | .tup _=>true
 | _=>false
inductive ZO where
 | made | bad | many
def ZO.str:ZO->Str
 | .made=>"made"
 | .bad=>"bad"
 | .many=>"many"
end Sh
namespace HT
open PySem PySem.Spec PyProof.Rows
section
variable {prog:Program} {w:World} {A:Around} {E:Value->Shared->Prop} {s:Shared}
theorem cat_tup0 {t b:Addr} {vs ws:List Value} {Q:Value->Shared->Prop} (ht:IsTup s.heap t vs.toArray) (hb:IsTup s.heap b ws.toArray) (hv:vs=[]) (h0:Q (.ref b) s):wpAny (model prog w) A (binaryOp .Add (.ref t) (.ref b)) Q E s:=by
 obtain ⟨⟨cls,dd,data,sl⟩,ho,hc,n,hd⟩:=id ht
 obtain ⟨⟨cls2,dd2,data2,sl2⟩,ho2,hc2,n2,hd2⟩:=id hb
 simp only at hc hd hc2 hd2
 subst hc hd hc2 hd2
 exact concat_meets ⟨_,ho,rfl⟩ ⟨_,ho2,rfl⟩ noFill_tuple_add seq_tuple_add PySem.F.slot_tuple_add PySem.F.entry_tuple_add (PySem.F.args_tuple_add_2 _ _)
  (tuple_addW0 t b vs.toArray ws.toArray n n2 dd dd2 sl sl2 (by simp [hv])) ⟨ho,ho2,h0⟩
theorem getItem_tuple_all {t sl:Addr} {items:Array Value} {vl vu:Value} {lo hi:Option Int} {Q:Value->Shared->Prop} (ht:IsTup s.heap t items) (hs:s.heap.IsSliceOf sl vl vu .none) (pl:IsPart vl lo) (pu:IsPart vu hi)
  (hw:sIx items.size 0 lo=0/\sIx items.size items.size hi=items.size) (h:Q (.ref t) s):wpAny (model prog w) A (getItem (.ref t) (.ref sl)) Q E s:=by
 obtain ⟨os,hos,hcs,hds⟩:=id hs
 have hTs:s.TypeIs (.ref sl) "slice":=⟨os,hos,hcs⟩
 unfold getItem
 try with_reducible refine wpAny_holding ?_
 first | refine wpAny_bind (wpAny_pure ?_) | skip
 refine wpAny_bind (wpAny_sequenceKey ht.typeIs (by decide) ?_)
 refine wpAny_bind (wpAny_callSpecial?_slot (name:=Str.ofString "__getitem__") ht.typeIs PyProof.Rows.slot_tuple_getitem
  (wpAny_call_entry PyProof.Rows.slot_tuple_getitem ht.typeIs entry_tuple_getitem ?_ (args_tuple_getitem _ _)))
 show wpAny _ _ (Builtin.Tuple.tupleItemsOf (.ref t) >>= _) _ _ s
 refine wpAny_bind (tupleItemsOf_ ht ?_)
 refine wpAny_bind (wpAny_typeOf hTs ?_)
 rw [if_pos (by decide)]
 refine wpAny_bind (zC7 hs pl pu ?_)
 have hyes:(((sIx items.size 0 lo:Nat):Int) == 0 && (1:Int) == 1 && (sIx items.size items.size hi - sIx items.size 0 lo) == items.size)=true:=by
  rw [hw.1,hw.2]
  simp
 show wpAny _ _ (if (((sIx items.size 0 lo:Nat):Int) == 0 && (1:Int) == 1 && (sIx items.size items.size hi - sIx items.size 0 lo) == items.size)=true then _ else _) _ _ s
 rw [if_pos hyes]
 unfold Builtin.Tuple.tupleIsExact
 refine wpAny_bind (wpAny_bind (wpAny_typeOf ht.typeIs (wpAny_pure ?_)))
 rw [if_pos (by decide)]
 refine wpAny_bind (wpAny_rule ?_)
 exact wpAny_pure ⟨_,rfl,wpAny_pure h⟩
end
end HT
namespace L2
open PySem PySem.Spec PyProof.Rows
section
variable {X:Cx}
inductive Ua (x y:V) (H:Hp) (Q:VK):Prop
 | mk (a b:Addr) (xs ys:List V) (_:x=.ref a) (_:y=.ref b) (_:H a=some (.tup xs)) (_:H b=some (.tup ys)) (_:xs.length + ys.length<=sizeLine) (_:∀ p H',zP H H'->H' p=some (.tup (xs++ys))->Q (.ref p) H'):Ua x y H Q
theorem ZP:yw X (binaryOp .Add) Ua:=by
 intro pins s σ H x y v u Q I rx ry h
 obtain ⟨a,b,xs,ys,rfl,rfl,ha,hb,hz,q⟩:=h
 by_cases hne:xs=[]
 ·subst hne
  cases rx
  cases ry
  obtain ⟨its,r1,p1,_⟩:=I.tuple (yZ.of ha)
  obtain ⟨its2,r2,p2,_⟩:=I.tuple (yZ.of hb)
  exact HT.cat_tup0 p1 p2 (r1.nil_iff.mpr rfl) ⟨.ref b,H,I,rfl,q b H (zP.refl _) hb⟩
 ·exact zPJ pins s σ H _ _ v u Q I rx ry ⟨a,b,xs,ys,rfl,rfl,ha,hb,hne,hz,q⟩
inductive ZQ (x:V) (lo hi:Option Int) (H:Hp) (Q:VK):Prop
 | mk (a:Addr) (xs:List V) (_:x=.ref a) (_:H a=some (.tup xs)) (_:∀ p H',zP H H'->H' p=some (.tup (wu xs lo hi))->Q (.ref p) H'):ZQ x lo hi H Q
theorem zNS:qP X ZQ:=by
 intro pins s σ H x v vl vu lo hi sl Q I rx hs pl pu h
 obtain ⟨a,xs,rfl,hx,q⟩:=h
 by_cases hw:HT.sIx xs.length 0 lo=0/\HT.sIx xs.length xs.length hi=xs.length
 ·cases rx
  obtain ⟨its,r,ht,hz⟩:=I.tuple (yZ.of hx)
  have hlen:its.toArray.size=xs.length:=by rw [List.size_toArray]; exact r.length.symm
  refine ⟨"tuple",_,PyProof.Rows.slot_tuple_getitem.lookup,ht.typeIs,?_⟩
  refine HT.getItem_tuple_all ht hs pl pu (by rw [hlen]; exact hw) ⟨.ref a,H,I,rfl,q a H (zP.refl _) (hx.trans ?_)⟩
  unfold wu
  rw [hw.1,hw.2,List.drop_zero,Nat.sub_zero,List.take_length]
 ·exact zQa pins s σ H _ v vl vu lo hi sl Q I rx hs pl pu ⟨a,xs,rfl,yZ.of hx,hw,λp hp=>q p _ (Sh.gX hp _) xb⟩
end
end L2
set_option linter.all false
namespace Sh
def bt:List (Int × Int)->Int
 | []=>1
 | p :: ps=>p.2 * bt ps
def tp:List Int->List (Int × Int)->Int
 | w :: ws,p :: ps=>w * p.1 * bt ps + p.2 * tp ws ps
 | _,_=>0
def zg:List Int->List Int->Int
 | r :: rs,a :: as=>r * a + zg rs as
 | _,_=>0
def yD (nums:List Int) (ls:List (List Int)) (j:Nat):Int:=((nums.zip ls).map λq=>q.1 * q.2.getD j 0).sum
end Sh
set_option linter.all false
namespace Sh
def yE (pl:Int) (n:Nat) (nu:Int):List Int:=(List.range n).map λ(i:Nat)=>if (i:Int)=pl then nu else 0
theorem xz (pl:Int) (n:Nat) (nu:Int):(yE pl n nu).length=n:=by
 unfold yE
 rw [List.length_map,List.length_range]
def hB (pts:List (Int × Int)) (ws:List Int) (b:Int):Bool:=decide (tp ws pts<=b * bt pts)
def hR (pts:List (Int × Int)) (r:List Int):Bool:=hB pts (r.take pts.length) (r.getD pts.length 0)
end Sh
set_option linter.all false
namespace Sh
theorem Ub (f g:Nat->Int):∀ l:List Nat,zg (l.map f) (l.map g)=(l.map λk=>f k * g k).sum
 | []=>rfl
 | a :: l=>by
  simp only [List.map_cons,zg,List.sum_cons,Ub f g l]
end Sh
set_option linter.all false
namespace Sh
end Sh
namespace L2
open PySem PySem.Spec PyProof.Rows
def vd (t:Bool) (K:PySem.W.Frag) (H:Hp) (a:Addr) (xs:List V):Prop:=match t with
 | true=>yZ K H a xs
 | false=>zo K H a xs
def uC (t:Bool) (h:Heap) (a:Addr) (its:Array Value):Prop:=match t with
 | true=>h.IsTuple a its
 | false=>h.IsList a its
def jG (t:Bool) (h:Heap) (i a:Addr) (n:Nat):Prop:=match t with
 | true=>h.IsTupleIter i a n
 | false=>h.IsListIter i a n
def jx (t:Bool) (a:Addr):Obj:=match t with
 | true=>{ cls:=.type "tuple_iterator",data:=.fields #[.ref a,.int 0 0] }
 | false=>{ cls:=.type "list_iterator",data:=.fields #[.ref a,.int 0 0] }
section
variable {X:Cx} {pins:List (Addr × Obj)} {σ:St} {H:Hp} {s:Shared} {a i:Addr} {xs ys:List V} {h h':Heap} {n:Nat} {its:Array Value} {prog:Program} {w:World} {A:Around} {E:Value->Shared->Prop}
theorem Xq:∀ {t:Bool},jG t h i a n->∃ o,h.get? i=some o/\∀ v,o.data≠.cell v
 | true,⟨o,e,_,d⟩=>⟨o,e,by rw [d]; exact k9⟩
 | false,⟨o,e,_,d⟩=>⟨o,e,by rw [d]; exact k9⟩
theorem Xr (k:∀ o,h.get? i=some o->h'.get? i=some o):∀ {t:Bool},jG t h i a n->jG t h' i a n
 | true,⟨o,e,r⟩=>⟨o,k o e,r⟩
 | false,⟨o,e,r⟩=>⟨o,k o e,r⟩
theorem zRb (k:∀ o,h.get? a=some o->h'.get? a=some o):∀ {t:Bool},uC t h a its->uC t h' a its
 | true,⟨o,e,r⟩=>⟨o,k o e,r⟩
 | false,⟨o,e,r⟩=>⟨o,k o e,r⟩
theorem zOK:∀ {t:Bool},uC t h a its->a < h.objs.size
 | true,⟨_,e,_⟩=>Heap.lt_size e
 | false,⟨_,e,_⟩=>Heap.lt_size e
theorem zRc (e:h.get? i=some (jx t a)):jG t h i a 0:=by
 cases t
 ·exact ⟨_,e,rfl,rfl⟩
 ·exact ⟨_,e,rfl,rfl⟩
theorem zRZ {t:Bool}:(jx t a).isFreed=false:=by cases t <;> rfl
theorem gc (I:zE X pins σ H s):∀ {t:Bool},vd t X.K H a xs->∃ its:List Value,zM xs its/\uC t s.heap a its.toArray
 | true,q=>let ⟨its,r,p,_⟩:=I.tuple q; ⟨its,r,p⟩
 | false,q=>let ⟨its,r,p,_⟩:=I.list q; ⟨its,r,p.isList⟩
theorem zKX (I:zE X pins σ H s):∀ {t:Bool},vd t X.K H a xs->vd t X.K H a ys->xs=ys
 | true,q,r=>I.tuple_inj q r
 | false,q,r=>I.list_inj q r
theorem Xs (hh:A.handled=none) (hne:a≠i) (its:Array Value):∀ t:Bool,Draws prog w A i [i,a] its.size (λn v=>its[n]? = some v) (λn h=>jG t h i a n/\uC t h a its)
 | true=>zL4 hh i a hne its
 | false=>Draws.list hh i a hne its
theorem zRX {Q:Value->Shared->Prop}:∀ {t:Bool},uC t s.heap a its->Q (.ref s.heap.objs.size) { s with heap:=s.heap.push (jx t a) }->wpAny (model prog w) A (pyIter (.ref a)) Q E s
 | true,q,r=>wpAny_pyIter_tuple q r
 | false,q,r=>wpAny_pyIter_list q r
end
def Uc (t u:Bool) (K:PySem.W.Frag) (a b:Addr):It:=
 ⟨λi H=>∃ xs ys x y,vd t K H a xs/\vd u K H b ys/\xs[i]? = some x/\ys[i]? = some y,
  λi H v H'=>∃ T x y,v=.ref T/\H T=none/\H'=zb H T (.tup [x,y])/\(∀ xs,vd t K H a xs->xs[i]? = some x)/\∀ ys,vd u K H b ys->ys[i]? = some y,
  λi H=>∃ xs ys,vd t K H a xs/\vd u K H b ys/\i<=xs.length/\i<=ys.length/\(i=xs.length\/i=ys.length)⟩
theorem zKP {t u:Bool} {P:Program} {w:World} {K:PySem.W.Frag} {es:List Expr} {kk:Nat} {tp:Pos} {a b z TI TO i1 i2:Addr} (Z:Zp z TI TO i1 i2 [i1,a] [i2,b]) (na:a≠i1) (nb:b≠i2) :
  vI P w K (.Tuple es kk tp) (Uc t u K a b) [z,TI,TO,i1,i2] z (λi h=>IsZip h z TI TO .none/\IsPair h TI (.ref i1) (.ref i2)/\(∃ x y,IsPair h TO x y)/\jG t h i1 a i/\jG u h i2 b i) where
 mem:=by simp
 obj:=λi h ⟨t1,t2,⟨x,y,t3⟩,t4,t5⟩ c hc=>by
  simp only [List.mem_cons,List.not_mem_nil,or_false] at hc
  rcases hc with rfl | rfl | rfl | rfl | rfl
  ·exact ⟨_,t1,k9⟩
  ·exact ⟨_,t2,zFI⟩
  ·exact ⟨_,t3,zFI⟩
  ·exact Xq t4
  ·exact Xq t5
 keep:=λi h h' ⟨t1,t2,⟨x,y,t3⟩,t4,t5⟩ k=>⟨k z (by simp) _ t1,k TI (by simp) _ t2,⟨x,y,k TO (by simp) _ t3⟩,Xr (k i1 (by simp)) t4,Xr (k i2 (by simp)) t5⟩
 item:=by
  intro X hP hw hK hc i pins s σ H E I hf ⟨t1,t2,⟨x0,y0,t3⟩,t4,t5⟩ hg
  subst hP hw hK
  obtain ⟨xs,ys,x,y,hq1,hq2,hx,hy⟩:=hg
  obtain ⟨its1,rv1,p1⟩:=gc I hq1
  obtain ⟨its2,rv2,p2⟩:=gc I hq2
  obtain ⟨u',hu,ru⟩:=rv1.get hx
  obtain ⟨v,hv,rv⟩:=rv2.get hy
  have hh:X.A.in1.handled=none:=I.ok.hd hc
  have l1:i < its1.toArray.size:=by rw [List.size_toArray]; exact (List.getElem?_eq_some_iff.mp hu).1
  have l2:i < its2.toArray.size:=by rw [List.size_toArray]; exact (List.getElem?_eq_some_iff.mp hv).1
  refine zMP (Xs hh na its1.toArray t) (Xs hh nb its2.toArray u) Z t1 t2 t3 ⟨t4,p1⟩ ⟨t5,p2⟩ l1 l2 ?_
  intro x' y' h1 tk px py z1 z2 z3 z4 z5 z6 keep
  simp only [List.getElem?_toArray] at px py
  rw [hu] at px
  rw [hv] at py
  cases px
  cases py
  refine ⟨_,rfl,wpAny_letOwnedTupleGo_zip (s:={ s with heap:=h1,toks:=tk }) z1 λh2 z7 sb=>?_⟩
  have zlt:z < s.heap.objs.size:=Heap.lt_size t1
  have keep2:∀ c o,c∉[z,TI,TO,i1,i2]->s.heap.get? c=some o->h2.get? c=some o:=λc o hc e=>by
   simp only [List.mem_cons,List.not_mem_nil,or_false,not_or] at hc
   exact sb.extBut c o hc.1 (keep c o hc.1 hc.2.2.1 hc.2.2.2.1 hc.2.2.2.2 e)
  have I':=I.turnT (h':=h2) (tk:=tk) (ch:=[z,TI,TO,i1,i2]) (x:=x) (y:=y) hf keep2 (Nat.le_refl _) (sb.extBut _ _ (Nat.ne_of_gt zlt) z6) ru rv
  refine ⟨.ref s.heap.objs.size,_,I',rfl,⟨s.heap.objs.size,x,y,rfl,I.hok.fresh (Nat.le_refl _),rfl,λxs' q=>by rw [zKX I q hq1]; exact hx,λys' q=>by rw [zKX I q hq2]; exact hy⟩,
   ⟨z7,sb.extBut _ _ Z.a1 z2,⟨_,_,sb.extBut _ _ Z.a2 z3⟩,Xr (λo=>sb.extBut _ o Z.a3) z4.1,Xr (λo=>sb.extBut _ o Z.a4) z5.1⟩,λc hc=>?_⟩
  have:=(hf c hc).1
  rw [zv]
  ·exact this
  ·intro q
   obtain ⟨o,e⟩:∃ o,s.heap.get? c=some o:=by
    simp only [List.mem_cons,List.not_mem_nil,or_false] at hc
    rcases hc with rfl | rfl | rfl | rfl | rfl
    ·exact ⟨_,t1⟩
    ·exact ⟨_,t2⟩
    ·exact ⟨_,t3⟩
    ·obtain ⟨o,e,_⟩:=Xq t4; exact ⟨o,e⟩
    ·obtain ⟨o,e,_⟩:=Xq t5; exact ⟨o,e⟩
   rw [q] at e
   exact absurd (Heap.lt_size e) (Nat.lt_irrefl _)
 done:=by
  intro X hP hw hK hc i pins s σ H E I hf ⟨t1,t2,⟨x0,y0,t3⟩,t4,t5⟩ hg
  subst hP hw hK
  obtain ⟨xs,ys,hq1,hq2,e1,e2,e3⟩:=hg
  obtain ⟨its1,rv1,p1⟩:=gc I hq1
  obtain ⟨its2,rv2,p2⟩:=gc I hq2
  have hh:X.A.in1.handled=none:=I.ok.hd hc
  have n1:its1.toArray.size=xs.length:=by rw [List.size_toArray]; exact rv1.length.symm
  have n2:its2.toArray.size=ys.length:=by rw [List.size_toArray]; exact rv2.length.symm
  refine zOc (Xs hh na its1.toArray t) (Xs hh nb its2.toArray u) Z t1 t2 t3 ⟨t4,p1⟩ ⟨t5,p2⟩ (by omega) (by omega) (by omega) ?_
  intro h1 tk keep
  refine ⟨rfl,I.turnN (h':=h1) (tk:=tk) (ch:=[z,TI,TO,i1,i2]) hf λc o hc e=>?_⟩
  simp only [List.mem_cons,List.not_mem_nil,or_false,not_or] at hc
  exact keep c o hc.1 hc.2.2.1 hc.2.2.2.1 hc.2.2.2.2 e
 self:=λ_ _ _ _ _ st h=>wpAny_pyIter_zip st.1 h
abbrev qV (t u:Bool) (h:Heap) (a b:Addr):Heap:=(h.push (jx t a)).push (jx u b)
abbrev qW (t u:Bool) (h:Heap) (a b:Addr):Heap:=(qV t u h a b).push { cls:=.type "tuple",data:=.seq #[.ref h.objs.size,.ref (h.push (jx t a)).objs.size] }
abbrev jH (t u:Bool) (h:Heap) (a b:Addr):Heap:=(qW t u h a b).push { cls:=.type "tuple",data:=.seq #[.none,.none] }
abbrev vp (t u:Bool) (h:Heap) (a b:Addr):Heap:=(jH t u h a b).push { cls:=.type "zip",data:=.fields #[.none,.bool false,.bool false,.ref (qV t u h a b).objs.size,.ref (qW t u h a b).objs.size] }
theorem zMQ (t u:Bool) (a b:Addr) (xs ys:Array Value) :
  Meets (Builtin.«zip.__new__» ⟨[.type "zip",.ref a,.ref b],[]⟩) (λ_ R s=>uC t s.heap a xs/\uC u s.heap b ys/\R (.ok (.ret (.ref (jH t u s.heap a b).objs.size))) { s with heap:=vp t u s.heap a b }):=
 .of_wp λprog w A R s h=>by
  obtain ⟨hp,g,d,tk,os⟩:=s; obtain ⟨h1,h2,h⟩:=h
  have hsub:=sub_zip
  have e1:uC t (Shared.heap ⟨hp,g,d,tk,os⟩) a xs:=h1
  have e2:uC u (Shared.heap ⟨hp.push (jx t a),g,d,tk,os⟩) b ys:=zRb (λ_ e=>Heap.get?_push_of_some _ e) h2
  wp_walk using zRX e1,zRX e2
  exact ⟨_,rfl,h⟩
theorem zMD {t u:Bool} {prog:Program} {w:World} {A:Around} {E:Value->Shared->Prop} {s:Shared} {a b:Addr} {xs ys:Array Value} {Q:Value->Shared->Prop} (h1:uC t s.heap a xs) (h2:uC u s.heap b ys)
  (h:∀ h',IsZip h' (s.heap.objs.size + 4) (s.heap.objs.size + 2) (s.heap.objs.size + 3) .none->IsPair h' (s.heap.objs.size + 2) (.ref s.heap.objs.size) (.ref (s.heap.objs.size + 1))->IsPair h' (s.heap.objs.size + 3) .none .none->
   jG t h' s.heap.objs.size a 0->jG u h' (s.heap.objs.size + 1) b 0->(∀ c o,s.heap.get? c=some o->h'.get? c=some o)->Q (.ref (s.heap.objs.size + 4)) { s with heap:=h' }) :
  wpAny (model prog w) A (call (.type "zip") [.ref a,.ref b]) Q E s:=by
 refine callType_new F.called_zip (by decide) (F.typeCall_zip_2 _ _) (F.newCall_zip_2 _ _) (λobj=>F.args_object_init_3 obj _ _) F.entry_zip_new (zMQ t u a b xs ys) ⟨h1,h2,?_⟩
 have g:∀ {h:Heap} {c:Addr} {o o':Obj},h.get? c=some o->(h.push o').get? c=some o:=λe=>Heap.get?_push_of_some _ e
 have p5:(vp t u s.heap a b).get? (jH t u s.heap a b).objs.size=some _:=Heap.get?_push_size _ rfl
 have p4:(vp t u s.heap a b).get? (qW t u s.heap a b).objs.size=some _:=g (Heap.get?_push_size _ rfl)
 have p3:(vp t u s.heap a b).get? (qV t u s.heap a b).objs.size=some _:=g (g (Heap.get?_push_size _ rfl))
 have p2:(vp t u s.heap a b).get? (s.heap.push (jx t a)).objs.size=some _:=g (g (g (Heap.get?_push_size _ zRZ)))
 have p1:(vp t u s.heap a b).get? s.heap.objs.size=some _:=g (g (g (g (Heap.get?_push_size _ zRZ))))
 change _/\_
 simp only [Heap.size_push] at p5 p4 p3 p2
 have n4:(jH t u s.heap a b).objs.size=s.heap.objs.size + 4:=by simp only [Heap.size_push]
 rw [n4]
 refine ⟨⟨_,by rw [<- n4]; exact Heap.get?_push_size _ rfl,rfl⟩,h _ ?_ ?_ ?_ (zRc p1) (zRc p2) λc o x=>g (g (g (g (g x))))⟩
 ·exact p5
 ·exact p3
 ·exact p4
def ZR (K:PySem.W.Frag) (ta:TA):TI:=λσ H R=>ta σ H λvs H1=>∃ a b t u,vs=[.ref a,.ref b]/\(∃ xs,vd t K H1 a xs)/\(∃ ys,vd u K H1 b ys)/\R (Uc t u K a b) H1
theorem zO8 {X:Cx} {es:List Expr} {kk:Nat} {tp:Pos} {e1 e2:Expr} {ta:TA} {p pos:Pos} (hg:Gl X "zip") (hm:X.mg "zip" = none) (ha:PA X [e1,e2] ta) (hs:starEach [e1,e2] X.env=[(false,eval e1 X.env),(false,eval e2 X.env)]:=by rfl) (hs2:starEach [e2] X.env=[(false,eval e2 X.env)]:=by rfl) :
  PI X (.Tuple es kk tp) (.Call (.Name "zip" p) [e1,e2] [] pos) (ZR X.K ta):=by
 intro pins s σ H R I h
 refine Call_ (jm I hg hm (show bootBuiltins "zip" = some (.type "zip") by decide +kernel) (PyProof.Rows.callWith_type1 (zm (ha pos pins s σ H _ I h) λus s1 ⟨vs,H1,I1,r1,q1⟩=>?_) (by rw [hs,hs2]) (by rw [hs2]; rfl)))
 obtain ⟨a,b,t,u,e,⟨xs,hx⟩,⟨ys,hy⟩,q⟩:=q1
 subst e
 obtain ⟨u',v,rfl,ru,rv⟩:=gQ r1
 cases ru
 cases rv
 obtain ⟨its1,rv1,p1⟩:=gc I1 hx
 obtain ⟨its2,rv2,p2⟩:=gc I1 hy
 have la:=zOK p1
 have lb:=zOK p2
 refine zMD p1 p2 λh' z1 z2 z3 z4 z5 keep=>wpAny_pyIter_zip z1 ?_
 have I2:zE X pins σ H1 { s1 with heap:=h' }:=I1.kept (t':=s1.toks) keep
 exact ⟨s1.heap.objs.size + 4,[s1.heap.objs.size + 4,s1.heap.objs.size + 2,s1.heap.objs.size + 3,s1.heap.objs.size,s1.heap.objs.size + 1],_,_,H1,rfl,I2,
  zKP (a:=a) (b:=b) (ZA _ _ _ la lb) (Nat.ne_of_lt la) (Nat.ne_of_lt (Nat.lt_succ_of_lt lb)),⟨z1,z2,⟨_,_,z3⟩,z4,z5⟩,λc hc=>UV I1 hc,q⟩
end L2
namespace L2
open PySem PySem.Spec PyProof.Rows
def tsK (prog:Program) (w:World) (A:Around) (cs:List Expr) (env:Env) (Q:Bool->Shared->Prop) (s:Shared):Prop:=match cs with
 | []=>Q true s
 | c :: _=>wpAny (model prog w) A (isTrue c env (eval c env)) Q (λ_ _=>False) s
def ZS (X:Cx) (cs:List Expr) (tc:TT):Prop:=match cs with
 | []=>∀ σ H Q,tc σ H Q->Q true H
 | c :: _=>PT X c tc
theorem zQL {X:Cx} {scope:Scope} {b0:_} {C:Addr} {s₀:Shared} {H₀:Hp} {ex:List Addr} {cs:List Expr} {tc:TT} {pins:List (Addr × Obj)} {σ:St} {H:Hp} {s:Shared} {Q:Bool->Hp->Prop} {G:Bool->Shared->Prop} (h:ZS (y8 X scope b0 C s₀ H₀ ex) cs tc) (I:zE (y8 X scope b0 C s₀ H₀ ex) pins σ H s) (q:tc σ H Q)
  (k:∀ ok s' H',zE (y8 X scope b0 C s₀ H₀ ex) pins σ H' s'->Q ok H'->G ok s'):tsK X.prog X.w X.A cs (y8 X scope b0 C s₀ H₀ ex).env G s:=by
 cases cs with
 | nil=>exact k true s H I (h _ _ _ q)
 | cons c cs=>exact zm (h pins s σ H _ I q) λok s' ⟨H',I',q'⟩=>k ok s' H' I' q'
section
variable {prog:Program} {w:World} {A:Around} {R:Result->Shared->Prop} {s:Shared}
theorem zIr {elt target iter:Expr} {cs:List Expr} {scope:Scope} {pos:Pos} {it acc:Value} {env:Env} (Wd:Nat->Shared->Prop)
  (turn:∀ n s,Wd n s->wpAny (model prog w) A (pyNext it) (λr s1=>match r with
   | none=>R (.ok .next) s1
   | some v=>wpAny (model prog w) A (letOwnedTupleGo target it v) (λ_ s2=>wpAny (model prog w) A (assign target env v) (λ_ s3=>tsK prog w A cs env (λok s4=>
     if ok=true then wpAny (model prog w) A (eval elt env) (λx s5=>wpAny (model prog w) A (call (.builtin "list.append") [acc,x]) (λ_ s6=>∃ m,m < n/\Wd m s6) (λ_ _=>False) s5) (λ_ _=>False) s4
     else ∃ m,m < n/\Wd m s4) s3) (λ_ _=>False) s2) (λ_ _=>False) s1) (λ_ _=>False) s)
  (hcs:cs=[]\/∃ c,cs=[c]) (n:Nat) (h:Wd n s):codeAny (model prog w) A (.compLoop (.ListComp elt [⟨target,iter,cs,0⟩] scope pos) 0 it acc env) R s:=by
 refine codeAny_loop rfl Wd (λn s hI=>?_) n h
 show wpAny _ _ (Sem.onRaise (compTurn (.ListComp elt [⟨target,iter,cs,0⟩] scope pos) 0 it acc env) _) _ _ s
 refine wpAny_noted ?_
 have go:wpAny (model prog w) A (pyNext it) _ _ s:=turn n s hI
 rcases hcs with rfl | ⟨c,rfl⟩
 ·rw [compTurn_list1]
  refine wpAny_bind (wpAny_standAt (wpAny_bind (wpAny_mono go (λr s1 h1=>?_) λ_ _ z=>False.elim z)))
  cases r with
  | none=>exact wpAny_pure h1
  | some v=>
   refine wpAny_bind (wpAny_mono h1 (λ_ s2 h2=>?_) λ_ _ z=>False.elim z)
   refine wpAny_bind (wpAny_mono h2 (λ_ s3 h3=>?_) λ_ _ z=>False.elim z)
   refine wpAny_bind (wpAny_bind (wpAny_mono h3 (λx s4 h4=>?_) λ_ _ z=>False.elim z))
   exact wpAny_bind (wpAny_mono h4 (λ_ s5 h5=>wpAny_pure (wpAny_pure ⟨rfl,h5⟩)) λ_ _ z=>False.elim z)
 ·rw [compTurn_list]
  refine wpAny_bind (wpAny_standAt (wpAny_bind (wpAny_mono go (λr s1 h1=>?_) λ_ _ z=>False.elim z)))
  cases r with
  | none=>exact wpAny_pure h1
  | some v=>
   refine wpAny_bind (wpAny_mono h1 (λ_ s2 h2=>?_) λ_ _ z=>False.elim z)
   refine wpAny_bind (wpAny_mono h2 (λ_ s3 h3=>?_) λ_ _ z=>False.elim z)
   refine wpAny_bind (wpAny_tests_one (wpAny_mono h3 (λok s4 h4=>?_) λ_ _ z=>False.elim z))
   cases ok with
   | false=>exact wpAny_pure ⟨rfl,h4⟩
   | true=>exact wpAny_bind (wpAny_bind (wpAny_mono h4 (λx s5 h5=>wpAny_bind (wpAny_mono h5 (λ_ s6 h6=>wpAny_pure (wpAny_pure ⟨rfl,h6⟩)) λ_ _ z=>False.elim z)) λ_ _ z=>False.elim z))
end
section
variable {X:Cx} {scope:Scope} {own:List Str} {caps:List (Nat × Str)} {elt tg iter:Expr} {cs:List Expr} {wi:TI} {g:TG} {tc:TT} {te:TE} {pos:Pos}
theorem zGf {pins:List (Addr × Obj)} {σ:St} {H2:Hp} {s2:Shared} {it:Addr} {fp:List Addr} {tn:Nat->Heap->Prop} {J:It} {W:Nat->Nat->List V->St->Hp->Prop} {m0:Nat} {Q:VK} {E:Value->Shared->Prop} {RR:Value->Addr->Result->Shared->Prop}
  (B:vo X scope own caps) (hc:X.calm=true) (hg:∀ C s₀ H₀ ex,PG (y8 X scope (zn own caps) C s₀ H₀ ex) tg g) (hcs:cs=[]\/∃ c,cs=[c]) (ht:∀ C s₀ H₀ ex,ZS (y8 X scope (zn own caps) C s₀ H₀ ex) cs tc) (he:∀ C s₀ H₀ ex,PE (y8 X scope (zn own caps) C s₀ H₀ ex) elt te)
  (I2:zE X pins σ H2 s2) (T:vI X.prog X.w X.K tg J fp it tn) (st2:tn 0 s2.heap) (f2:∀ b∈fp,yN X pins H2 b) (w0:W 0 m0 [] (vm own caps σ) H2)
  (turn:∀ i m ys σ1 H,W i m ys σ1 H->(J.stop i H/\∀ p,H p=none->Q (.ref p) (zb H p (.lst ys)))∨
   (J.go i H/\ys.length < sizeLine/\∃ (N:V->St->Hp->Prop) (N0:St->Hp->Prop),(∀ y σ' H',N y σ' H'->∃ m',m' < m/\W (i + 1) m' (ys++[y]) σ' H')/\(∀ σ' H',N0 σ' H'->∃ m',m' < m/\W (i + 1) m' ys σ' H')∧
    ∀ x H',J.yld i H x H'->g x σ1 H' λσ2 H2=>tc σ2 H2 λb H3=>if b=true then te σ2 H3 λy H4=>N y σ2 H4 else N0 σ2 H3))
  (hRR:∀ D C s6 H6 ys m,s6.heap.Ns C m->s2.heap.objs.size<=C->(∀ h',Heap.SameBut C s6.heap h'->zE X pins σ (zb H6 D (.lst ys)) { s6 with heap:=h' })->zb H6 D (.lst ys) C=none->Q (.ref D) (zb H6 D (.lst ys))->RR (.ref D) C (.ok .next) s6) :
  wpAny (model X.prog X.w) X.A (newList []) (λacc s3=>wpAny (model X.prog X.w) X.A (newFunctionEnv scope X.env.globals (vK scope X.env) [] X.env.qual none .none (some X.env)) (λcenv s4=>
   codeAny (model X.prog X.w) X.A (.compStart (.ListComp elt [⟨tg,iter,cs,0⟩] scope pos) 0 (.ref it) acc { cenv with scope:=relabel scope X.env }) (RR acc cenv.locals) s4) E s3) E s2:=by
 have hlt:∀ b∈fp,b < s2.heap.objs.size:=λb hb=>by
  obtain ⟨o,ho,_⟩:=T.obj _ _ st2 b hb
  exact Heap.lt_size ho
 refine wpAny_newObj_type (zHD ?_)
 dsimp only
 generalize hP:s2.heap.push { cls:=.type "list",dict:=none,data:=.seq ([]:List Value).toArray }=HD
 have hns:(pushCells (HD.push { cls:=.type "dict",data:=.dict #[] }) scope.names).Ns HD.objs.size (λ_=>none):=(Heap.Ns.new HD (.type "dict")).keeps (pushCells_keeps _ _)
 have hkp:∀ b o,HD.get? b=some o->(pushCells (HD.push { cls:=.type "dict",data:=.dict #[] }) scope.names).get? b=some o:=λb o e=>pushCells_keeps _ _ b o (Heap.get?_push_of_some _ e)
 have hcell:∀ x c,(cellsFrom (HD.objs.size + 1) scope.names (vK scope X.env)).lookup x=some c->(vK scope X.env).lookup x=some c\/(pushCells (HD.push { cls:=.type "dict",data:=.dict #[] }) scope.names).IsCell c none:=λx c e=>
  UT _ _ _ (by rw [Heap.size_push]; exact e)
 generalize hP4:pushCells (HD.push { cls:=.type "dict",data:=.dict #[] }) scope.names=h4 at hns hkp hcell |-
 have hCD:HD.objs.size=s2.heap.objs.size + 1:=by rw [<- hP,Heap.size_push]
 have hDC:s2.heap.objs.size≠HD.objs.size:=by omega
 have hle:s2.heap.objs.size<=HD.objs.size:=by omega
 have old:∀ b o,s2.heap.get? b=some o->h4.get? b=some o:=λb o eb=>hkp b o (by rw [<- hP]; exact Heap.get?_push_of_some _ eb)
 have hD4:h4.get? s2.heap.objs.size=some { cls:=.type "list",data:=.seq ([]:List Value).toArray 0 }:=hkp _ _ (by rw [<- hP]; exact Heap.get?_push_size _ rfl)
 have IY:zE (y8 X scope (zn own caps) HD.objs.size s2 H2 fp) [] (vm own caps σ) H2 { s2 with heap:=h4 }:=
  zNk B I2 f2 (by omega) hlt hns old hcell rfl I2.bare
 have stat:∀ {H':Hp},(∀ b∈fp,H' b=none)->∀ b∈fp,yN (y8 X scope (zn own caps) HD.objs.size s2 H2 fp) [] H' b:=λ{H'} hn b hb=>by
  have hb2:=hlt b hb
  refine ⟨hn b hb,?_,λz=>?_,.inl hb,λx c ec=>(match Xm B ec with | .inl z=>ZD hb2 hle z.2 | .inr z=>(f2 b hb).2.2.2.2.1 x c z),λp hp=>by simp at hp⟩
  ·exact Nat.ne_of_lt (Nat.lt_of_lt_of_le hb2 hle)
  ·rcases List.mem_cons.mp (I2.stkSub b z) with e | z
   ·exact (f2 b hb).2.1 e
   ·exact (f2 b hb).2.2.1 z
 have statD:∀ {H':Hp},H' s2.heap.objs.size=none->yN (y8 X scope (zn own caps) HD.objs.size s2 H2 fp) [] H' s2.heap.objs.size:=λ{H'} hn=>by
  refine ⟨hn,hDC,λz=>?_,.inr (Nat.le_refl _),λx c ec z=>?_,λp hp=>by simp at hp⟩
  ·obtain ⟨_,o,ho,_⟩:=I2.stack.mem z
   exact absurd (Heap.lt_size ho) (Nat.lt_irrefl _)
  ·rcases Xm B ec with ⟨_,y⟩ | y
   ·exact UQ hCD y z
   ·have:=zJa I2 y
    rw [z] at this
    exact Nat.lt_irrefl _ this
 have j3:∀ b∈fp,b≠s2.heap.objs.size:=λb hb=>Nat.ne_of_lt (hlt b hb)
 have IY':zE (y8 X scope (zn own caps) HD.objs.size s2 H2 fp) [(s2.heap.objs.size,xf [] 0)] (vm own caps σ) H2 { s2 with heap:=h4 }:=
  IY.pins_of λp hp=>by
   rw [List.mem_singleton.mp hp]
   have z:=statD (I2.hok.fresh (Nat.le_refl _))
   exact ⟨hD4,z.1,z.2.1,z.2.2.1,λv z=>by cases z⟩
 have loop:∀ s3:Shared,s3={ s2 with heap:=h4 }->
   codeAny (model X.prog X.w) X.A (.compLoop (.ListComp elt [⟨tg,iter,cs,0⟩] scope pos) 0 (.ref it) (.ref s2.heap.objs.size) (compEnvC scope (cellsFrom (HD.objs.size + 1) scope.names (vK scope X.env)) HD.objs.size X.env))
    (RR (.ref s2.heap.objs.size) HD.objs.size) s3:=by
  rintro s3 rfl
  refine zIr (λn s'=>∃ i ys σ' H' its k,zE (y8 X scope (zn own caps) HD.objs.size s2 H2 fp) [(s2.heap.objs.size,xf its k)] σ' H' s'/\tn i s'.heap/\(∀ b∈fp,H' b=none)∧
   zM ys its/\ys.length<=sizeLine/\W i n ys σ' H') ?_ hcs m0 ⟨0,[],_,H2,[],0,IY',T.keep _ _ _ st2 λb hb o eb=>old b o eb,λb hb=>(f2 b hb).1,.nil,Nat.zero_le _,w0⟩
  rintro n s5 ⟨i,ys,σ5,H5,its,k,I5,st5,fr5,rv5,hz5,w5⟩
  have stat5:∀ {H':Hp},(∀ b∈fp,H' b=none)->∀ b∈fp,yN (y8 X scope (zn own caps) HD.objs.size s2 H2 fp) [(s2.heap.objs.size,xf its k)] H' b:=λ{H'} hn b hb=>by
   obtain ⟨a1,a2,a3,a4,a5,_⟩:=stat hn b hb
   refine ⟨a1,a2,a3,a4,a5,λp hp=>?_⟩
   have hp':p∈[(s2.heap.objs.size,xf its k)]:=hp
   rw [List.mem_singleton.mp hp']
   exact Ne.symm (j3 b hb)
  rcases turn i n ys σ5 H5 w5 with ⟨stop,qn⟩ | ⟨go,hlen,N,N0,hN,hN0,step⟩
  ·refine zm (T.done (y8 X scope (zn own caps) HD.objs.size s2 H2 fp) rfl rfl rfl hc i _ s5 σ5 H5 _ I5 (stat5 fr5) st5 stop) λr s6 ⟨hr,I6⟩=>?_
   subst hr
   obtain ⟨pD1,pD2,_⟩:=I6.pin (s2.heap.objs.size,xf its k) (List.mem_append_right _ List.mem_cons_self)
   obtain ⟨m6,hn6,_⟩:=I6.loc
   refine hRR _ _ s6 H5 ys m6 hn6 (by omega) (λh' sb=>?_) (by rw [zv (Ne.symm hDC)]; exact I6.free) (qn _ pD2)
   have hC5:H5 HD.objs.size=none:=I6.free
   have nb:∀ b o,s2.heap.get? b=some o->b≠HD.objs.size/\b≠s2.heap.objs.size:=λb o eb=>by
    have hb:=Heap.lt_size eb
    exact ⟨Nat.ne_of_lt (Nat.lt_of_lt_of_le hb hle),Nat.ne_of_lt hb⟩
   have nt:∀ b o,H5 b=some o->b≠s2.heap.objs.size:=λb o eb z=>by rw [z] at eb; rw [show H5 s2.heap.objs.size=none from pD2] at eb; cases eb
   have un:Un (xH X.stack) fp H2 (zb H5 s2.heap.objs.size (.lst ys)) s2.heap h':=
    ⟨λb o eb n1 n2 n3=>sb.extBut b o (nb b o eb).1 (I6.base.keep b o eb n1 n2 n3),
     λb o eb n1 n2 n3=>by
      obtain ⟨sl,e1⟩:=I6.base.slot b o eb n1 n2 n3
      exact ⟨sl,sb.extBut b _ (nb b o eb).1 e1⟩,
     λb o eb n1 n3=>by
      rw [zv (nb b o eb).2]
      exact I6.base.free b o eb n1 n3,
     λb o eb n3=>by
      obtain ⟨o',e1⟩:=I6.base.there b o eb n3
      exact ⟨o',sb.extBut b _ (nb b o eb).1 e1⟩,
     λb xs eb=>by
      have e1:=I6.base.tups b xs eb
      rw [zv (nt b _ e1)]
      exact e1,
     λb o u eb=>by
      have e1:=I6.base.frzs b o u eb
      rw [zv (nt b _ e1)]
      exact e1,
     λb ps eb=>by
      obtain ⟨more,e1⟩:=I6.base.tbls b ps eb
      refine ⟨more,?_⟩
      rw [zv (nt b _ e1)]
      exact e1⟩
   have ok5:xD X.prog X.w (zb H5 s2.heap.objs.size (.lst ys)) h':=λb u eb=>by
    by_cases hb:b=s2.heap.objs.size
    ·subst hb
     rw [xb] at eb
     cases eb
     exact ⟨hz5,its,k,rv5,sb.extBut _ _ hDC pD1⟩
    ·rw [zv hb] at eb
     refine (I6.hok b u eb).stay (λc v hcv ev=>sb.extBut c v ?_ ev) (λc ec=>by rw [zv (nt c _ ec)]; exact ec) λc xs ec=>by rw [zv (nt c _ ec)]; exact ec
     rintro rfl
     rcases hcv with z | z
     ·rw [<- z,hC5] at eb
      cases eb
     ·rw [hC5] at z
      cases z
   exact I2.call' (s':={ s6 with heap:=h' }) (ch:=fp) I6.os un ok5 I6.bare λb hb=>⟨(f2 b hb).2.2.2.1,(f2 b hb).2.1,(f2 b hb).2.2.2.2.1,(f2 b hb).2.2.2.2.2⟩
  ·refine zm (T.item (y8 X scope (zn own caps) HD.objs.size s2 H2 fp) rfl rfl rfl hc i _ s5 σ5 H5 _ I5 (stat5 fr5) st5 go) λr s6 ⟨u,hr,h6⟩=>?_
   subst hr
   refine zm h6 λ_ s7 ⟨x,H7,I7,r7,y7,st7,fr7⟩=>?_
   have I7':=I7.pinned (stat5 fr7) (T.obj _ _ st7)
   refine zm (hg HD.objs.size s2 H2 fp _ s7 σ5 H7 x u _ I7' r7 (step x H7 y7)) λ_ s8 ⟨σ8,H8,I8,q8⟩=>?_
   refine zQL (ht HD.objs.size s2 H2 fp) I8 q8 λok sT HT IT qT=>?_
   cases ok with
   | false=>
    obtain ⟨m',hm',w9⟩:=hN0 σ8 HT qT
    refine ⟨m',hm',i + 1,ys,σ8,HT,its,k,IT.unpinned,?_,λb hb=>?_,rv5,hz5,w9⟩
    ·refine T.keep _ _ _ st7 λb hb o eb=>?_
     exact (IT.pin (b,o) (List.mem_append_right _ (List.mem_append_right _ (gN hb eb)))).1
    ·obtain ⟨o,eb,_⟩:=T.obj _ _ st7 b hb
     exact (IT.pin (b,o) (List.mem_append_right _ (List.mem_append_right _ (gN hb eb)))).2.1
   | true=>
    refine zm (he HD.objs.size s2 H2 fp _ sT σ8 HT _ IT qT) λyv s9 ⟨y,H9,I9,r9,n9⟩=>?_
    obtain ⟨m',hm',w9⟩:=hN y σ8 H9 n9
    have pD9:=(I9.pin (s2.heap.objs.size,xf its k) (List.mem_append_right _ (List.mem_append_left _ List.mem_cons_self))).2.1
    have hl:its.length=ys.length:=rv5.length.symm
    refine zNj (Y:=y8 X scope (zn own caps) HD.objs.size s2 H2 fp) (its:=its) (k:=k) (pl:=kX fp s7.heap) I9 (statD pD9) rfl (by omega) λh' k' tk keep I'=>?_
    refine ⟨m',hm',i + 1,ys++[y],σ8,H9,its++[yv],k',I',?_,λb hb=>?_,rv5.append (.cons r9 .nil),?_,w9⟩
    ·refine T.keep _ _ _ st7 λb hb o eb=>keep b o (j3 b hb) ?_
     exact (I9.pin (b,o) (List.mem_append_right _ (List.mem_append_right _ (gN hb eb)))).1
    ·obtain ⟨o,eb,_⟩:=T.obj _ _ st7 b hb
     exact (I9.pin (b,o) (List.mem_append_right _ (List.mem_append_right _ (gN hb eb)))).2.1
    ·rw [List.length_append,List.length_singleton]
     omega
 exact codeAny_compStart_list (loop _ rfl) (T.self _ 0 _ _ _ (T.keep _ _ _ st2 λb hb o eb=>old b o eb) (loop _ rfl))
theorem zJH {i:Nat} {y:Str} {py spos:Pos} (hN:X.N.Nodup) (hy:X.N[i]? = some y) (hl:X.env.scope.names.lookup y=some .local) (B:vo X scope own caps) (hc:X.calm=true) (hi:PI X tg iter wi) (hg:∀ C s₀ H₀ ex,PG (y8 X scope (zn own caps) C s₀ H₀ ex) tg g)
  (hcs:cs=[]\/∃ c,cs=[c]) (ht:∀ C s₀ H₀ ex,ZS (y8 X scope (zn own caps) C s₀ H₀ ex) cs tc) (he:∀ C s₀ H₀ ex,PE (y8 X scope (zn own caps) C s₀ H₀ ex) elt te) (hsw:swapsWith (.ListComp elt [⟨tg,iter,cs,0⟩] scope pos) (some (.Name y py)) spos.line X.env=pure true) (hs:∀ x,foldedSetIterable iter X.env x=pure x:=by intro _; rfl) :
  PS X (.Assign [.Name y py] (.ListComp elt [⟨tg,iter,cs,0⟩] scope pos) spos) (vj (zNx own caps wi g tc te) (kQ i)):=by
 intro pins s σ H D0 I h
 rw [exec_Assign_Name_used _ _ _ _ hsw]
 refine wpAny_bind (wpAny_standAt (wpAny_bind ?_))
 change wpAny _ X.A (do let _ <- comprehension (.ListComp elt [⟨tg,iter,cs,0⟩] scope pos) scope X.env _ (newList []) false (eval iter X.env) (some (assign (.Name y py) X.env))) _ _ s
 refine wpAny_bind (wpAny_mono (wpAny_comprehension_free (use:=some (assign (.Name y py) X.env)) (Q:=λ_ s'=>SP X pins D0 .next s') rfl hs (zGg B.free) B.kind B.locs ?_) (λ_ s' hq=>wpAny_pure (wpAny_pure hq)) λ_ _ e=>e)
 refine zm (hi pins s σ H _ I h) λxv s1 h1=>zm h1 λitv s2 h2=>?_
 obtain ⟨it,fp,tn,J,H2,e,I2,T,st2,f2,W,⟨m0,w0⟩,turn⟩:=h2
 subst e
 refine zGf (Q:=λx H1=>D0.nx (σ.set i (some x)) H1) (RR:=λacc C=>compPost (model X.prog X.w) X.A X.xe (some (assign (.Name y py) X.env)) (λ_ s'=>SP X pins D0 .next s') acc C) B hc hg hcs ht he I2 T st2 f2 w0 turn λD C s6 H6 ys m hn hC J6 hC6 q=>?_
 have I6:zE X pins σ (zb H6 D (.lst ys)) s6:=J6 s6.heap (.refl ..)
 have CL:C≠X.env.locals:=λz=>by rw [z] at hC; exact absurd (Nat.lt_of_lt_of_le I2.lt hC) (Nat.lt_irrefl _)
 have CC:∀ x c,X.env.cells.lookup x=some c->c≠C:=λx c ec z=>by
  obtain ⟨v,o,ho,_⟩:=I2.cell x c ec
  rw [z] at ho
  exact absurd (Nat.lt_of_lt_of_le (Heap.lt_size ho) hC) (Nat.lt_irrefl _)
 have CP:∀ p∈X.pn++pins,p.1≠C:=λp hp z=>by
  have hl:=Heap.lt_size (I2.pin p hp).1
  rw [z] at hl
  exact absurd (Nat.lt_of_lt_of_le hl hC) (Nat.lt_irrefl _)
 change wpAny _ X.A (assign (.Name y py) X.env (.ref D)) _ _ s6
 refine wpAny_assign_Name (Kp I6 hN hy (.inl hl) (v:=.ref D) rfl (λs7 I7 ⟨a,sb,ha⟩=>?_) (.inr hl))
 have aC:C≠a:=λz=>by
  rcases ha with e | e
  ·exact CL (z.trans e)
  ·exact CC _ _ e z.symm
 refine ⟨m,hn.sameBut sb aC,λh' sb'=>⟨_,_,I7.turned (h':=h') (t':=s7.toks) (it:=C) (λb o hb eb=>sb'.extBut b o hb eb) hC6 CL (.inr (Nat.le_trans I2.sz hC)) CC CP,q⟩⟩
theorem zMz (B:vo X scope own caps) (hc:X.calm=true) (hi:PI X tg iter wi) (hg:∀ C s₀ H₀ ex,PG (y8 X scope (zn own caps) C s₀ H₀ ex) tg g)
  (hcs:cs=[]\/∃ c,cs=[c]) (ht:∀ C s₀ H₀ ex,ZS (y8 X scope (zn own caps) C s₀ H₀ ex) cs tc) (he:∀ C s₀ H₀ ex,PE (y8 X scope (zn own caps) C s₀ H₀ ex) elt te) (hs:∀ x,foldedSetIterable iter X.env x=pure x:=by intro _; rfl) :
  PE X (.ListComp elt [⟨tg,iter,cs,0⟩] scope pos) (zNx own caps wi g tc te):=by
 intro pins s σ H Q I h
 rw [eval_ListComp]
 refine wpAny_comprehension_free (use:=none) rfl hs (zGg B.free) B.kind B.locs ?_
 refine zm (hi pins s σ H _ I h) λxv s1 h1=>zm h1 λitv s2 h2=>?_
 obtain ⟨it,fp,tn,J,H2,e,I2,T,st2,f2,W,⟨m0,w0⟩,turn⟩:=h2
 subst e
 refine zGf (RR:=λacc C=>compPost (model X.prog X.w) X.A X.xe none (EP X pins σ Q) acc C) B hc hg hcs ht he I2 T st2 f2 w0 turn λD C s6 H6 ys m hn hC J6 hC6 q=>?_
 exact ⟨m,hn,λh' sb=>⟨.ref D,_,J6 h' sb,rfl,q⟩⟩
end
end L2
namespace Pu
open PySem L2 Sh
inductive D where
 | int (i:Int)
 | bool (b:Bool)
 | non
 | str (x:Str)
 | scr (ns:List Int)
 | lst (ds:List D)
 | tup (ds:List D)
 | obj (c:Addr) (ns:List Str) (ds:List D)
inductive DV (H:Hp):V->D->Prop where
 | int (i:Int):DV H (.int i) (.int i)
 | bool (b:Bool):DV H (.bl b) (.bool b)
 | non:DV H .non .non
 | str (x:Str):DV H (.str x) (.str x)
 | scr {a:Addr} {ns:List Int} (e:Rd H a (.lst (ns.map V.int))):DV H (.ref a) (.scr ns)
 | lst {a:Addr} {xs:List V} {ds:List D} (e:H a=some (.lst xs)) (h:Paired (DV H) xs ds):DV H (.ref a) (.lst ds)
 | tup {a:Addr} {xs:List V} {ds:List D} (e:H a=some (.tup xs)) (h:Paired (DV H) xs ds):DV H (.ref a) (.tup ds)
 | obj {o dx c:Addr} {ns:List Str} {xs:List V} {ds:List D} (e:H o=some (.ins c dx (ns.zip xs))) (l:ns.length=xs.length) (h:Paired (DV H) xs ds):DV H (.ref o) (.obj c ns ds)
theorem Ud {H H':Hp} (s:zP H H') {a:Addr} {u:HO} (h:Rd H a u):Rd H' a u:=h.imp (s _ _) λ⟨o,e⟩=>⟨o,s _ _ e⟩
theorem DV.same {H H':Hp} (s:zP H H'):∀ {v:V} {d:D},DV H v d->DV H' v d
 | _,_,.int i=>.int i
 | _,_,.bool b=>.bool b
 | _,_,.non=>.non
 | _,_,.str x=>.str x
 | _,_,.scr e=>.scr (Ud s e)
 | _,_,.lst e h=>.lst (s _ _ e) (go s h)
 | _,_,.tup e h=>.tup (s _ _ e) (go s h)
 | _,_,.obj e l h=>.obj (s _ _ e) l (go s h)
where
 go {H H':Hp} (s:zP H H'):∀ {xs:List V} {ds:List D},Paired (DV H) xs ds->Paired (DV H') xs ds
  | _,_,.nil=>.nil
  | _,_,.cons h t=>.cons (DV.same s h) (go s t)
abbrev yO (H:Hp):List V->List D->Prop:=Paired (DV H)
theorem xh {H H':Hp} (s:zP H H') {xs:List V} {ds:List D} (h:yO H xs ds):yO H' xs ds:=DV.same.go s h
theorem ZT {H:Hp}:∀ {xs:List V} {ns:List Int},yO H xs (ns.map D.int)->xs=ns.map V.int
 | _,[],.nil=>rfl
 | _,_ :: _,.cons h t=>by cases h; rw [ZT t]; rfl
theorem zHy {H:Hp}:∀ {xs:List V} {bs:List Bool},yO H xs (bs.map D.bool)->xs=bs.map V.bl
 | _,[],.nil=>rfl
 | _,_ :: _,.cons h t=>by cases h; rw [zHy t]; rfl
def uu:HO->Bool
 | .tbl _=>true
 | _=>false
def vq:HO->Bool
 | .lst _=>true
 | .ins _ _ _=>true
 | _=>false
class yU where
 I:Hp->Prop
 same:∀ {H H':Hp},I H->zP H H'->I H'
 but:∀ {H H':Hp} {l:Addr} {o:HO},I H->H l=some o->vq o=true->(∀ b,b≠l->H' b=H b)->I H'
variable [yU]
theorem yU.put {H:Hp} {l:Addr} {u o:HO} (i:yU.I H) (e:H l=some u) (n:vq u=true:=by rfl):yU.I (zb H l o):=yU.but i e n λ_ c=>zv c
def less (l:Addr) (H:Hp):Hp:=λb=>if b=l then none else H b
theorem yU.less {H:Hp} {l:Addr} {u:HO} (i:yU.I H) (e:H l=some u) (n:vq u=true:=by rfl):yU.I (less l H):=yU.but i e n λ_ c=>if_neg c
theorem zNN {H:Hp} {l:Addr}:zP (less l H) H:=λb o e=>by
 by_cases c:b=l
 ·rw [show less l H b=none from if_pos c] at e; cases e
 ·exact (if_neg c).symm.trans e
structure Sm (H H':Hp):Prop where
 s:∀ b o,H b=some o->uu o=false->H' b=some o
 t:∀ b o,H b=some o->uu o=true->∃ o',H' b=some o'/\uu o'=true
 k:yU.I H->yU.I H'
theorem Sm.at {H H':Hp} (s:Sm H H') {b:Addr} {o:HO} (e:H b=some o) (n:uu o=false:=by rfl):H' b=some o:=s.s b o e n
theorem Sm.of {H H':Hp} (s:zP H H'):Sm H H':=⟨λb o e _=>s b o e,λb o e n=>⟨o,s b o e,n⟩,λi=>yU.same i s⟩
theorem Sm.refl (H:Hp):Sm H H:=.of (zP.refl H)
theorem Sm.trans {H H1 H2:Hp} (a:Sm H H1) (b:Sm H1 H2):Sm H H2:=⟨λc o e n=>b.s c o (a.s c o e n) n,λc o e n=>let ⟨o1,e1,n1⟩:=a.t c o e n; b.t c o1 e1 n1,λi=>b.k (a.k i)⟩
theorem Sm.free {H H':Hp} (s:Sm H H') {b:Addr} (n:H' b=none):H b=none:=by
 cases e:H b with
 | none=>rfl
 | some o=>
  cases q:uu o with
  | false=>have:=s.s b o e q; rw [n] at this; cases this
  | true=>obtain ⟨o',e',_⟩:=s.t b o e q; rw [n] at e'; cases e'
theorem Sm.put {H0 H:Hp} {l:Addr} {x o:HO} (s:Sm H0 H) (n:H0 l=none) (e:H l=some x) (li:vq x=true:=by rfl):Sm H0 (zb H l o):=⟨λb u q t=>(zv (wV q n)).trans (s.s b u q t),λb u q t=>let ⟨o',e',t'⟩:=s.t b u q t; ⟨o',(zv (wV q n)).trans e',t'⟩,λi=>yU.put (s.k i) e li⟩
theorem zQY {H H1 H2:Hp} {x:Addr} {u:HO} (s:Sm H H1) (e:H1 x=some u) (b:Sm (less x H1) H2) (n:H x=none) (li:vq u=true:=by rfl):Sm H H2:=⟨λc o q t=>b.s c o ((if_neg (wV q n)).trans (s.s c o q t)) t,λc o q t=>let ⟨o',e',t'⟩:=s.t c o q t; b.t c o' ((if_neg (wV q n)).trans e') t',λi=>b.k (yU.less (s.k i) e li)⟩
theorem wC {H:Hp} {a:Addr} (h:H a=none) (o:HO):Sm H (zb H a o):=.of (gX h o)
open Classical in
noncomputable def zR (Z:Addr->Prop) (H:Hp):Hp:=λb=>if Z b then none else (H b).filter λo=>!(uu o)
theorem uD {Z:Addr->Prop} {H:Hp} {b:Addr} {o:HO} (h:¬ Z b) (e:H b=some o) (n:uu o=false:=by rfl):zR Z H b=some o:=by
 unfold zR
 rw [if_neg h,e,Option.filter_some,n]
 rfl
theorem qX {Z:Addr->Prop} {H:Hp} {b:Addr} {o:HO} (h:zR Z H b=some o):uu o=false:=by
 unfold zR at h
 by_cases c:Z b
 ·rw [if_pos c] at h; cases h
 ·rw [if_neg c] at h
  have:=(Option.filter_eq_some_iff.mp h).2
  cases q:uu o with
  | false=>rfl
  | true=>rw [q] at this; cases this
theorem jy {Z:Addr->Prop} {H:Hp} {b:Addr} {o:HO} (h:zR Z H b=some o):¬ Z b/\H b=some o:=by
 unfold zR at h
 by_cases c:Z b
 ·rw [if_pos c] at h; cases h
 ·rw [if_neg c] at h; exact ⟨c,(Option.filter_eq_some_iff.mp h).1⟩
theorem yJ {Z:Addr->Prop} {H:Hp}:zP (zR Z H) H:=λ_ _ h=>(jy h).2
theorem yr {Z:Addr->Prop} {H H':Hp} (s:Sm H H'):zP (zR Z H) (zR Z H'):=λb o h=>by
 exact uD (jy h).1 (s.s _ _ (jy h).2 (qX h)) (qX h)
theorem Xu {Z Z':Addr->Prop} {H:Hp} (s:∀ b,Z' b->Z b):zP (zR Z H) (zR Z' H):=λb o h=>by
 exact uD (λz=>(jy h).1 (s _ z)) (jy h).2 (qX h)
structure ZL (Z:Addr->Prop) (H:Hp):Prop where
 z:∀ b,Z b->∃ u,H b=some u/\∀ xs,u≠.tup xs
 i:yU.I H
theorem ZL.same {Z:Addr->Prop} {H H':Hp} (z:ZL Z H) (s:Sm H H'):ZL Z H':=⟨λb hb=>by
 obtain ⟨u,e,n⟩:=z.z b hb
 cases q:uu u with
 | false=>exact ⟨u,s.s _ _ e q,n⟩
 | true=>
  obtain ⟨u',e',n'⟩:=s.t _ _ e q
  exact ⟨u',e',λxs y=>by rw [y] at n'; cases n'⟩,s.k z.i⟩
theorem ZL.new {Z:Addr->Prop} {H:Hp} (z:ZL Z H) {p:Addr} (h:H p=none):¬ Z p:=λq=>by
 obtain ⟨u,e,_⟩:=z.z p q
 rw [h] at e
 cases e
inductive Sl where
 | no
 | sh (d:D)
 | ow (ds:List D)
 | ob (o c:Addr) (ns:List Str) (ds:List D)
def slot:List Sl->Nat->Sl
 | [],_=>.no
 | x :: _,0=>x
 | _ :: t,i + 1=>slot t i
def zt:List Sl->Nat->Sl->List Sl
 | [],_,_=>[]
 | _ :: t,0,y=>y :: t
 | x :: t,i + 1,y=>x :: zt t i y
theorem qY:∀ (Γ:List Sl) (i:Nat) (y:Sl),(zt Γ i y).length=Γ.length
 | [],_,_=>rfl
 | _ :: _,0,_=>rfl
 | _ :: t,i + 1,y=>by show (zt t i y).length + 1=_; rw [qY t i y]; rfl
theorem xm:∀ (Γ:List Sl) (i j:Nat) (y:Sl),slot (zt Γ i y) j=if j=i/\i < Γ.length then y else slot Γ j
 | [],i,j,y=>by rw [if_neg (λh=>absurd h.2 (Nat.not_lt_zero _))]; rfl
 | x :: t,0,0,y=>(if_pos ⟨rfl,Nat.zero_lt_succ _⟩).symm
 | x :: t,0,j + 1,y=>(if_neg (λh=>nomatch h.1)).symm
 | x :: t,i + 1,0,y=>(if_neg (λh=>nomatch h.1)).symm
 | x :: t,i + 1,j + 1,y=>by
  show slot (zt t i y) j=if j + 1=i + 1/\i + 1 < t.length + 1 then y else slot t j
  rw [xm t i j y]
  by_cases c:j=i/\i < t.length
  ·rw [if_pos c,if_pos ⟨by omega,by omega⟩]
  ·rw [if_neg c,if_neg (λh=>c ⟨by omega,by omega⟩)]
theorem uE:∀ {Γ:List Sl} {i:Nat},slot Γ i≠.no->i < Γ.length
 | [],_,h=>absurd rfl h
 | _ :: _,0,_=>Nat.zero_lt_succ _
 | _ :: _,_ + 1,h=>Nat.succ_lt_succ (uE (Γ:=_) h)
structure yS (Z:Addr->Prop) (Γ:List Sl) (σ:St) (H:Hp):Prop where
 sh:∀ i d,slot Γ i=.sh d->∃ v,σ[i]? = some (some v)/\DV (zR Z H) v d
 ow:∀ i ds,slot Γ i=.ow ds->∃ l xs,σ[i]? = some (some (.ref l))/\Z l/\H l=some (.lst xs)/\yO (zR Z H) xs ds
 ob:∀ i o c ns ds,slot Γ i=.ob o c ns ds->∃ dx xs,σ[i]? = some (some (.ref o))/\Z o/\H o=some (.ins c dx (ns.zip xs))/\ns.length=xs.length/\yO (zR Z H) xs ds
 ne:∀ i j as bs l,slot Γ i=.ow as->slot Γ j=.ow bs->σ[i]? = some (some (.ref l))->σ[j]? = some (some (.ref l))->i=j
 zd:ZL Z H
 len:Γ.length=σ.length
theorem yS.same {Z:Addr->Prop} {Γ:List Sl} {σ:St} {H H':Hp} (E:yS Z Γ σ H) (s:Sm H H'):yS Z Γ σ H' where
 sh:=λi d e=>let ⟨v,h1,h2⟩:=E.sh i d e; ⟨v,h1,h2.same (yr s)⟩
 ow:=λi ds e=>let ⟨l,xs,h1,h2,h3,h4⟩:=E.ow i ds e; ⟨l,xs,h1,h2,s.at h3,xh (yr s) h4⟩
 ob:=λi o c ns ds e=>let ⟨dx,xs,h1,h2,h3,h5,h4⟩:=E.ob i o c ns ds e; ⟨dx,xs,h1,h2,s.at h3,h5,xh (yr s) h4⟩
 ne:=E.ne
 zd:=E.zd.same s
 len:=E.len
theorem yS.set {Z:Addr->Prop} {Γ:List Sl} {σ:St} {H:Hp} (E:yS Z Γ σ H) {v:V} {d:D} (h:DV (zR Z H) v d) (i:Nat):yS Z (zt Γ i (.sh d)) (σ.set i (some v)) H where
 sh:=λj e q=>by
  rw [xm] at q
  by_cases c:j=i/\i < Γ.length
  ·rw [if_pos c] at q
   cases q
   rw [c.1]
   exact ⟨v,by rw [List.getElem?_set_self (by have:=E.len; omega)],h⟩
  ·rw [if_neg c] at q
   obtain ⟨u,h1,h2⟩:=E.sh j e q
   have hj:=uE (Γ:=Γ) (i:=j) (by rw [q]; exact λz=>nomatch z)
   exact ⟨u,by rw [List.getElem?_set_ne (λz=>c ⟨z.symm,by omega⟩)]; exact h1,h2⟩
 ow:=λj e q=>by
  rw [xm] at q
  by_cases c:j=i/\i < Γ.length
  ·rw [if_pos c] at q; cases q
  ·rw [if_neg c] at q
   obtain ⟨l,xs,h1,h2⟩:=E.ow j e q
   have hj:=uE (Γ:=Γ) (i:=j) (by rw [q]; exact λz=>nomatch z)
   exact ⟨l,xs,by rw [List.getElem?_set_ne (λz=>c ⟨z.symm,by omega⟩)]; exact h1,h2⟩
 ob:=λj o0 c0 ns e q=>by
  rw [xm] at q
  by_cases c:j=i/\i < Γ.length
  ·rw [if_pos c] at q; cases q
  ·rw [if_neg c] at q
   obtain ⟨dx,xs,h1,h2⟩:=E.ob j o0 c0 ns e q
   have hj:=uE (Γ:=Γ) (i:=j) (by rw [q]; exact λz=>nomatch z)
   exact ⟨dx,xs,by rw [List.getElem?_set_ne (λz=>c ⟨z.symm,by omega⟩)]; exact h1,h2⟩
 ne:=λj k as bs l q r e f=>by
  rw [xm] at q r
  by_cases c:j=i/\i < Γ.length
  ·rw [if_pos c] at q; cases q
  ·by_cases c':k=i/\i < Γ.length
   ·rw [if_pos c'] at r; cases r
   ·rw [if_neg c] at q
    rw [if_neg c'] at r
    have hj:=uE (Γ:=Γ) (i:=j) (by rw [q]; exact λz=>nomatch z)
    have hk:=uE (Γ:=Γ) (i:=k) (by rw [r]; exact λz=>nomatch z)
    rw [List.getElem?_set_ne (λz=>c ⟨z.symm,by omega⟩)] at e
    rw [List.getElem?_set_ne (λz=>c' ⟨z.symm,by omega⟩)] at f
    exact E.ne j k as bs l q r e f
 zd:=E.zd
 len:=by rw [qY,List.length_set]; exact E.len
abbrev zu:=List Sl->(D->Prop)->Prop
abbrev wY:=List Sl->(Bool->Prop)->Prop
abbrev yg:=List Sl->(List D->Prop)->Prop
abbrev ZU:=List Sl->(Option Int->Prop)->Prop
inductive tP (p:zu) (σ:St) (H:Hp) (Q:VK):Prop
 | mk (Z:Addr->Prop) (Γ:List Sl) (R:D->Prop) (E:yS Z Γ σ H) (h:p Γ R) (q:∀ d v H',R d->Sm H H'->DV (zR Z H') v d->Q v H'):tP p σ H Q
inductive xW (p:wY) (σ:St) (H:Hp) (Q:Bool->Hp->Prop):Prop
 | mk (Z:Addr->Prop) (Γ:List Sl) (R:Bool->Prop) (E:yS Z Γ σ H) (h:p Γ R) (q:∀ b H',R b->Sm H H'->Q b H'):xW p σ H Q
inductive x8 (p:yg) (σ:St) (H:Hp) (Q:List V->Hp->Prop):Prop
 | mk (Z:Addr->Prop) (Γ:List Sl) (R:List D->Prop) (E:yS Z Γ σ H) (h:p Γ R) (q:∀ ds vs H',R ds->Sm H H'->yO (zR Z H') vs ds->Q vs H'):x8 p σ H Q
inductive ZV (p:ZU) (σ:St) (H:Hp) (Q:Option Int->Hp->Prop):Prop
 | mk (Z:Addr->Prop) (Γ:List Sl) (R:Option Int->Prop) (E:yS Z Γ σ H) (h:p Γ R) (q:∀ o H',R o->Sm H H'->Q o H'):ZV p σ H Q
section
variable {X:Cx} {a b e c:Expr} {es:List Expr} {pos:Pos} {pa pb pc:zu} {qa qb:wY} {pl:yg}
theorem yT {t t':TE} (h:PE X e t) (w:∀ σ H Q,t' σ H Q->t σ H Q):PE X e t':=λpins s σ H Q I q=>h pins s σ H Q I (w σ H Q q)
theorem Ue {t t':TT} (h:PT X e t) (w:∀ σ H Q,t' σ H Q->t σ H Q):PT X e t':=λpins s σ H Q I q=>h pins s σ H Q I (w σ H Q q)
theorem pww {t t':TT} (h:PW X e t) (w:∀ σ H Q,t' σ H Q->t σ H Q):PW X e t':=λwh pins s σ H Q I q=>h wh pins s σ H Q I (w σ H Q q)
theorem paw {t t':TA} (h:PA X es t) (w:∀ σ H Q,t' σ H Q->t σ H Q):PA X es t':=λpos pins s σ H Q I q=>h pos pins s σ H Q I (w σ H Q q)
def jz (i:Nat):zu:=λΓ R=>match slot Γ i with | .sh d=>R d | _=>False
theorem zA (i:Nat) {x:Str} {pos:Pos} (hN:X.N[i]? = some x:=by rfl) (hv:jj X.env.scope x:=by first | exact Or.inl rfl | exact Or.inr (Or.inl rfl) | exact Or.inr (Or.inr rfl)) (hd:(x == ("__debug__" : Str))=false:=by decide)
  (hcd:(x == ("__classdict__" : Str))=false:=by decide):PE X (.Name x pos) (tP (jz i)):=yT (kJ hN hv hd hcd) λσ H Q ⟨Z,Γ,R,E,h,q⟩=>by
 unfold jz at h
 cases s:slot Γ i with
 | sh d=>
  rw [s] at h
  obtain ⟨v,e,k⟩:=E.sh i d s
  exact ⟨v,e,q d v H h (Sm.refl _) k⟩
 | _=>rw [s] at h; exact h.elim
def pC (d:D):zu:=λ_ R=>R d
theorem zD {i j pos}:PE X (.Constant (.int i) j pos) (tP (pC (.int i))):=yT Kq λ_ H _ ⟨_,_,_,_,h,q⟩=>q _ _ H h (Sm.refl _) (.int i)
theorem xn {i j pos}:PE X (.Constant (.bool i) j pos) (tP (pC (.bool i))):=yT kK λ_ H _ ⟨_,_,_,_,h,q⟩=>q _ _ H h (Sm.refl _) (.bool i)
theorem wx {j pos}:PE X (.Constant .none j pos) (tP (pC .non)):=yT Kr λ_ H _ ⟨_,_,_,_,h,q⟩=>q _ _ H h (Sm.refl _) .non
theorem uv {i j pos}:PE X (.Constant (.str i) j pos) (tP (pC (.str i))):=yT zQx λ_ H _ ⟨_,_,_,_,h,q⟩=>q _ _ H h (Sm.refl _) (.str i)
theorem Uf {x:Str} {i:Int} {pos:Pos} (hg:Gl X x) (hm:∃ t,X.mg x=some (.int i t)) (hd:(x == ("__debug__" : Str))=false:=by decide):PE X (.Name x pos) (tP (pC (.int i))):=
 let ⟨_,e⟩:=hm
 yT (XT (v:=.int i) hg e ⟨_,rfl⟩ hd) λ_ H _ ⟨_,_,_,_,h,q⟩=>q _ _ H h (Sm.refl _) (.int i)
abbrev F2:=D->D->(D->Prop)->Prop
def xQ (f:F2) (pa pb:zu):zu:=λΓ R=>pa Γ λx=>pb Γ λy=>f x y R
def wZ (r:R2) (f:F2):Prop:=∀ (Z:Addr->Prop) (H:Hp) (x y:V) (a b:D) (R:D->Prop) (Q:VK),ZL Z H->DV (zR Z H) x a->DV (zR Z H) y b->f a b R->(∀ d v H',R d->Sm H H'->DV (zR Z H') v d->Q v H')->r x y H Q
theorem Xv {r:R2} {f:F2} (o:wZ r f) (σ:St) (H:Hp) (Q:VK):tP (xQ f pa pb) σ H Q->gO r (tP pa) (tP pb) σ H Q:=λ⟨Z,Γ,R,E,h,q⟩=>
 ⟨Z,Γ,_,E,h,λd v H1 hd s1 hv=>⟨Z,Γ,_,E.same s1,hd,λd2 v2 H2 hd2 s2 hv2=>o Z H2 v v2 d d2 R Q (E.same (s1.trans s2)).zd (hv.same (yr s2)) hv2 hd2 λd3 v3 H3 h3 s3 hv3=>q d3 v3 H3 h3 (s1.trans (s2.trans s3)) hv3⟩⟩
theorem gf {op:Operator} {r:R2} {f:F2} (ho:yw X (binaryOp op) r) (o:wZ r f) (ha:PE X a (tP pa)) (hb:PE X b (tP pb)):PE X (.BinOp a op b pos) (tP (xQ f pa pb)):=yT (Ky ho ha hb) (Xv o)
theorem gg {op:CmpOp} {r:R2} {f:F2} (ho:yw X (compareOp op) r) (o:wZ r f) (hm:behindInMarks op b=false) (ha:PE X a (tP pa)) (hb:PE X b (tP pb)):PE X (.Compare a [op] [b] pos) (tP (xQ f pa pb)):=yT (zPD ho ha hb hm) (Xv o)
theorem uZ {Z:Addr->Prop} {H:Hp} {p:Addr} {xs:List V} {ds:List D} (zd:ZL Z H) (hp:H p=none) (h:yO (zR Z H) xs ds):DV (zR Z (zb H p (.lst xs))) (.ref p) (.lst ds):=
 .lst (uD (zd.new hp) xb) (xh (yr (wC hp _)) h)
theorem Xw {Z:Addr->Prop} {H:Hp} {p:Addr} {xs:List V} {ds:List D} (zd:ZL Z H) (hp:H p=none) (h:yO (zR Z H) xs ds):DV (zR Z (zb H p (.tup xs))) (.ref p) (.tup ds):=
 .tup (uD (zd.new hp) xb) (xh (yr (wC hp _)) h)
theorem zLD {Z:Addr->Prop} {H:Hp} {p:Addr} {xs:List V} {ds:List D} (zd:ZL Z H) (e:H p=some (.tup xs)) (h:yO (zR Z H) xs ds):DV (zR Z H) (.ref p) (.tup ds):=
 .tup (uD (λz=>by
  obtain ⟨u,e',n⟩:=zd.z p z
  rw [e] at e'
  cases e'
  exact n xs rfl) e) h
theorem DV.lst_inv {H:Hp} {v:V} {ds:List D} (h:DV H v (.lst ds)):∃ p xs,v=.ref p/\H p=some (.lst xs)/\yO H xs ds:=by cases h with | lst e h=>exact ⟨_,_,rfl,e,h⟩
theorem DV.tup_inv {H:Hp} {v:V} {ds:List D} (h:DV H v (.tup ds)):∃ p xs,v=.ref p/\H p=some (.tup xs)/\yO H xs ds:=by cases h with | tup e h=>exact ⟨_,_,rfl,e,h⟩
theorem few {n:Nat} (h:n<=1000):n<=sizeLine:=Nat.le_of_lt (UI h)
def qZ:F2
 | .int i,.int j,R=>R (.int (i + j))
 | .lst as,.lst bs,R=>as.length + bs.length<=1000/\R (.lst (as++bs))
 | .tup as,.tup bs,R=>as.length + bs.length<=1000/\R (.tup (as++bs))
 | _,_,_=>False
theorem zPS:wZ (λx y H Q=>v8 (λi j=>.int (i + j)) x y H Q\/(kr x y H Q\/Ua x y H Q)) qZ:=λZ H x y a b R Q zd hx hy h q=>by
 unfold qZ at h
 split at h
 ·cases hx; cases hy; exact .inl ⟨_,_,rfl,rfl,q _ _ H h (Sm.refl _) (.int _)⟩
 ·obtain ⟨p,xs,rfl,e1,h1⟩:=hx.lst_inv
  obtain ⟨r,ys,rfl,e2,h2⟩:=hy.lst_inv
  have l1:=Paired.length h1
  have l2:=Paired.length h2
  exact .inr (.inl ⟨p,r,xs,ys,rfl,rfl,yJ _ _ e1,yJ _ _ e2,few (by omega),λn hn=>q _ _ _ h.2 (wC hn _) (uZ zd hn (ZF h1 h2))⟩)
 ·obtain ⟨p,xs,rfl,e1,h1⟩:=hx.tup_inv
  obtain ⟨r,ys,rfl,e2,h2⟩:=hy.tup_inv
  have l1:=Paired.length h1
  have l2:=Paired.length h2
  exact .inr (.inr ⟨p,r,xs,ys,rfl,rfl,yJ _ _ e1,yJ _ _ e2,few (by omega),λn H' s e=>have s:=Sm.of s; q _ _ _ h.2 s (zLD (zd.same s) e (xh (yr s) (ZF h1 h2)))⟩)
 ·exact h.elim
def qc:F2
 | .int i,.int j,R=>R (.int (i - j))
 | _,_,_=>False
theorem zOF {g:Int->Int->V} {k:Int->Int->D} {f:F2} (hg:∀ i j H,DV H (g i j) (k i j)) (hf:∀ a b R,f a b R->∃ i j,a=.int i/\b=.int j/\R (k i j)):wZ (v8 g) f:=λZ H x y a b R Q zd hx hy h q=>by
 obtain ⟨i,j,rfl,rfl,k⟩:=hf a b R h
 cases hx; cases hy
 exact ⟨_,_,rfl,rfl,q _ _ H k (Sm.refl _) (hg i j _)⟩
theorem Ug {C:Int->Int->Prop} {g:Int->Int->V} {k:Int->Int->D} {f:F2} (hg:∀ i j H,DV H (g i j) (k i j)) (hf:∀ a b R,f a b R->∃ i j,a=.int i/\b=.int j/\C i j/\R (k i j)):wZ (rI C g) f:=λZ H x y a b R Q zd hx hy h q=>by
 obtain ⟨i,j,rfl,rfl,c,k⟩:=hf a b R h
 cases hx; cases hy
 exact ⟨_,_,rfl,rfl,c,q _ _ H k (Sm.refl _) (hg i j _)⟩
theorem zPL:wZ (v8 λi j=>.int (i - j)) qc:=zOF (k:=λi j=>.int (i - j)) (λ_ _ _=>.int _) λa b R h=>by
 unfold qc at h
 split at h
 ·exact ⟨_,_,rfl,rfl,h⟩
 ·exact h.elim
def qd:F2
 | .int i,.int j,R=>Bd 60000 i/\Bd 60000 j/\R (.int (i * j))
 | .lst [d],.int k,R=>0<=k/\k<=1000/\R (.lst (List.replicate k.toNat d))
 | _,_,_=>False
theorem ZW {α:Type} (x:α):∀ n:Nat,(List.replicate n [x]).flatten=List.replicate n x
 | 0=>rfl
 | n + 1=>by rw [List.replicate_succ,List.flatten_cons,ZW x n]; rfl
theorem zGa {α β:Type} {R:α->β->Prop} {x:α} {y:β} (h:R x y):∀ n:Nat,Paired R (List.replicate n x) (List.replicate n y)
 | 0=>.nil
 | n + 1=>.cons h (zGa h n)
theorem zPO:wZ (λx y H Q=>rI Xk (λi j=>.int (i * j)) x y H Q\/ku x y H Q) qd:=λZ H x y a b R Q zd hx hy h q=>by
 unfold qd at h
 split at h
 ·cases hx; cases hy; exact .inl ⟨_,_,rfl,rfl,⟨h.1,h.2.1⟩,q _ _ H h.2.2 (Sm.refl _) (.int _)⟩
 ·rename_i d k
  obtain ⟨p,xs,rfl,e1,h1⟩:=hx.lst_inv
  cases hy
  cases h1 with
  | @cons x _ _ _ h1 h2=>
  cases h2
  refine .inr ⟨p,_,_,rfl,rfl,yJ _ _ e1,by omega,by omega,few (by rw [List.length_singleton]; omega),λn hn=>?_⟩
  rw [ZW]
  exact q _ _ _ h.2.2 (wC hn _) (uZ zd hn (zGa h1 _))
 ·exact h.elim
def Uh:F2
 | .int i,.int j,R=>j≠0/\Bd 8000 j/\R (.int (i.fdiv j))
 | _,_,_=>False
theorem zM4:wZ (rI zR4 λi j=>.int (i.fdiv j)) Uh:=Ug (k:=λi j=>.int (i.fdiv j)) (λ_ _ _=>.int _) λa b R h=>by
 unfold Uh at h
 split at h
 ·exact ⟨_,_,rfl,rfl,⟨h.1,h.2.1⟩,h.2.2⟩
 ·exact h.elim
def jI:F2
 | .int i,.int j,R=>j≠0/\R (.int (i.fmod j))
 | _,_,_=>False
theorem zPP:wZ (rI (λ_ j=>j≠0) λi j=>.int (i.fmod j)) jI:=Ug (k:=λi j=>.int (i.fmod j)) (λ_ _ _=>.int _) λa b R h=>by
 unfold jI at h
 split at h
 ·exact ⟨_,_,rfl,rfl,h.1,h.2⟩
 ·exact h.elim
def qf:F2
 | .int i,.int j,R=>qK i j/\R (.int (i ^ j.toNat))
 | _,_,_=>False
theorem zPM:wZ (rI qK λi j=>.int (i ^ j.toNat)) qf:=Ug (k:=λi j=>.int (i ^ j.toNat)) (λ_ _ _=>.int _) λa b R h=>by
 unfold qf at h
 split at h
 ·exact ⟨_,_,rfl,rfl,h.1,h.2⟩
 ·exact h.elim
def wc (g:Int->Int->Bool):F2
 | .int i,.int j,R=>R (.bool (g i j))
 | _,_,_=>False
theorem qg {g:Int->Int->Bool}:wZ (v8 λi j=>.bl (g i j)) (wc g):=zOF (k:=λi j=>.bool (g i j)) (λ_ _ _=>.bool _) λa b R h=>by
 unfold wc at h
 split at h
 ·exact ⟨_,_,rfl,rfl,h⟩
 ·exact h.elim
theorem zw (ha:PE X a (tP pa)) (hb:PE X b (tP pb)):PE X (.BinOp a .Add b pos) (tP (xQ qZ pa pb)):=gf (zRI.or (zRH.or ZP)) zPS ha hb
theorem wo (ha:PE X a (tP pa)) (hb:PE X b (tP pb)):PE X (.BinOp a .Sub b pos) (tP (xQ qc pa pb)):=gf zQ9 zPL ha hb
theorem yA (ha:PE X a (tP pa)) (hb:PE X b (tP pb)):PE X (.BinOp a .Mult b pos) (tP (xQ qd pa pb)):=gf (zPI.or zRA) zPO ha hb
theorem wy (ha:PE X a (tP pa)) (hb:PE X b (tP pb)):PE X (.BinOp a .FloorDiv b pos) (tP (xQ Uh pa pb)):=gf zM2 zM4 ha hb
theorem xI (ha:PE X a (tP pa)) (hb:PE X b (tP pb)):PE X (.BinOp a .Mod b pos) (tP (xQ jI pa pb)):=gf Kz zPP ha hb
theorem j2 (ha:PE X a (tP pa)) (hb:PE X b (tP pb)):PE X (.BinOp a .Pow b pos) (tP (xQ qf pa pb)):=gf zRB zPM ha hb
theorem zQm (ha:PE X a (tP pa)) (hb:PE X b (tP pb)):PE X (.Compare a [.Lt] [b] pos) (tP (xQ (wc λi j=>decide (i < j)) pa pb)):=gg K4 qg (vW _) ha hb
theorem Xx (ha:PE X a (tP pa)) (hb:PE X b (tP pb)):PE X (.Compare a [.LtE] [b] pos) (tP (xQ (wc λi j=>decide (i<=j)) pa pb)):=gg kg qg (vW _) ha hb
theorem zQn (ha:PE X a (tP pa)) (hb:PE X b (tP pb)):PE X (.Compare a [.Gt] [b] pos) (tP (xQ (wc λi j=>decide (j < i)) pa pb)):=gg K5 qg (vW _) ha hb
theorem Ui (ha:PE X a (tP pa)) (hb:PE X b (tP pb)):PE X (.Compare a [.GtE] [b] pos) (tP (xQ (wc λi j=>decide (j<=i)) pa pb)):=gg K6 qg (vW _) ha hb
def ZX:D->(D->Prop)->Prop
 | .int i,R=>R (.int (-i))
 | _,_=>False
def ZY (f:D->(D->Prop)->Prop) (pa:zu):zu:=λΓ R=>pa Γ λx=>f x R
theorem x9 (ha:PE X a (tP pa)):PE X (.UnaryOp .USub a pos) (tP (ZY ZX pa)):=yT (kY zQI ha) λσ H Q ⟨Z,Γ,R,E,h,q⟩=>
 ⟨Z,Γ,_,E,h,λd v H1 hd s1 hv=>by
  unfold ZX at hd
  split at hd
  ·cases hv; exact ⟨_,rfl,q _ _ H1 hd s1 (.int _)⟩
  ·exact hd.elim⟩
end
end Pu
namespace Pu
open PySem L2 Sh
variable [yU]
mutual
def D.py:D->PyData
 | .int i=>.int i
 | .bool b=>.bool b
 | .non=>.none
 | .str x=>.str x
 | .scr _=>.none
 | .lst ds=>.list (vM ds)
 | .tup ds=>.tuple (vM ds)
 | .obj _ _ _=>.none
def vM:List D->List PyData
 | []=>[]
 | d :: ds=>d.py :: vM ds
end
def D.pl:Nat->D->Bool
 | 0,_=>false
 | _ + 1,.int _=>true
 | _ + 1,.bool _=>true
 | _ + 1,.non=>true
 | _ + 1,.str x=>PyData.strOk x
 | _ + 1,.scr _=>false
 | n + 1,.lst ds=>ds.all (D.pl n)
 | n + 1,.tup ds=>ds.all (D.pl n)
 | _ + 1,.obj ..=>false
structure DpO (n:Nat) (d:D):Prop where
 dp:∀ K H v,DV H v d->Dp K H v d.py
 lay:d.py.canLay0=true
 dep:d.py.depth<=n
theorem Uj {n:Nat}:∀ {ds:List D},(∀ d∈ds,DpO n d)->(∀ K H xs,yO H xs ds->uS K H xs (vM ds))/\PyData.canLayAll0 (vM ds)=true/\PyData.depthAll (vM ds)<=n
 | [],_=>⟨λK H xs h=>by cases h; exact .nil,by simp [vM,PyData.canLayAll0],by simp [vM,PyData.depthAll]⟩
 | d :: ds,h=>by
  obtain ⟨h1,h2,h3⟩:=Uj (ds:=ds) λx m=>h x (List.mem_cons_of_mem _ m)
  have g:=h d List.mem_cons_self
  have l:=g.lay
  have p:=g.dep
  refine ⟨λK H xs q=>?_,by simp [vM,PyData.canLayAll0,l,h2],by simp only [vM,PyData.depthAll]; omega⟩
  cases q with
  | cons q r=>exact .cons (g.dp K H _ q) (h1 K H _ r)
theorem uF:∀ (n:Nat) (d:D),D.pl n d=true->DpO n d
 | 0,_,h=>by cases h
 | n + 1,.int i,_=>⟨λK H v h=>by cases h; exact .int i,by simp [D.py,PyData.canLay0],by simp [D.py,PyData.depth]⟩
 | n + 1,.bool i,_=>⟨λK H v h=>by cases h; exact .bl i,by simp [D.py,PyData.canLay0],by simp [D.py,PyData.depth]⟩
 | n + 1,.non,_=>⟨λK H v h=>by cases h; exact .non,by simp [D.py,PyData.canLay0],by simp [D.py,PyData.depth]⟩
 | n + 1,.str i,h=>⟨λK H v h=>by cases h; exact .str i,by simp only [D.py,PyData.canLay0]; exact h,by simp [D.py,PyData.depth]⟩
 | n + 1,.scr _,h=>by cases h
 | n + 1,.obj ..,h=>by cases h
 | n + 1,.lst ds,h=>by
  obtain ⟨h1,h2,h3⟩:=Uj (n:=n) (ds:=ds) λd m=>uF n d (List.all_eq_true.mp h d m)
  refine ⟨λK H v q=>?_,by simp [D.py,PyData.canLay0,h2],by simp only [D.py,PyData.depth]; omega⟩
  obtain ⟨p,xs,rfl,e,q⟩:=q.lst_inv
  exact .lst (zo.of e) (h1 K H _ q)
 | n + 1,.tup ds,h=>by
  obtain ⟨h1,h2,h3⟩:=Uj (n:=n) (ds:=ds) λd m=>uF n d (List.all_eq_true.mp h d m)
  refine ⟨λK H v q=>?_,by simp [D.py,PyData.canLay0,h2],by simp only [D.py,PyData.depth]; omega⟩
  obtain ⟨p,xs,rfl,e,q⟩:=q.tup_inv
  exact .tup (yZ.of e) (h1 K H _ q)
abbrev L (ns:List Int):D:=.lst (ns.map D.int)
abbrev U (ns:List Int):D:=.tup (ns.map D.int)
section
variable {X:Cx} {a b e c:Expr} {es:List Expr} {pos:Pos} {pa pb pc:zu} {qa qb:wY} {pl:yg}
def Xy:F2
 | .int i,.int j,R=>R (.bool (decide (i=j)))
 | .bool i,.bool j,R=>R (.bool (i == j))
 | .str i,.str j,R=>R (.bool (i == j))
 | .non,.non,R=>R (.bool true)
 | .lst as,.lst bs,R=>(D.lst as).pl 50=true/\(D.lst bs).pl 50=true/\R (.bool (PyData.eqv (D.lst as).py (D.lst bs).py))
 | .tup as,.tup bs,R=>(D.tup as).pl 50=true/\(D.tup bs).pl 50=true/\R (.bool (PyData.eqv (D.tup as).py (D.tup bs).py))
 | _,_,_=>False
theorem zOG {K:PySem.W.Frag}:wZ (λx y H Q=>K0 x y H Q\/ZH K x y H Q) Xy:=λZ H x y a b R Q zd hx hy h q=>by
 unfold Xy at h
 split at h
 ·cases hx; cases hy
  refine .inl ⟨rfl,?_⟩
  rw [XY,Bool.beq_eq_decide_eq]
  exact q _ _ H h (Sm.refl _) (.bool _)
 ·cases hx; cases hy
  refine .inl ⟨rfl,?_⟩
  rw [XZ]
  exact q _ _ H h (Sm.refl _) (.bool _)
 ·cases hx; cases hy
  refine .inl ⟨rfl,?_⟩
  rw [Xa]
  exact q _ _ H h (Sm.refl _) (.bool _)
 ·cases hx; cases hy
  refine .inl ⟨rfl,?_⟩
  rw [show decide (V.non=V.non)=true from decide_eq_true rfl]
  exact q _ _ H h (Sm.refl _) (.bool _)
 ·have d1:=uF _ _ h.1
  have d2:=uF _ _ h.2.1
  have e1:=d1.dep
  have e2:=d2.dep
  exact .inr ⟨_,_,d1.dp K H _ (hx.same yJ),d2.dp K H _ (hy.same yJ),d1.lay,d2.lay,by omega,by omega,q _ _ H h.2.2 (Sm.refl _) (.bool _)⟩
 ·have d1:=uF _ _ h.1
  have d2:=uF _ _ h.2.1
  have e1:=d1.dep
  have e2:=d2.dep
  exact .inr ⟨_,_,d1.dp K H _ (hx.same yJ),d2.dp K H _ (hy.same yJ),d1.lay,d2.lay,by omega,by omega,q _ _ H h.2.2 (Sm.refl _) (.bool _)⟩
 ·exact h.elim
def j3:F2
 | .int i,.int j,R=>R (.bool (!decide (i=j)))
 | .bool i,.bool j,R=>R (.bool (i != j))
 | .str i,.str j,R=>R (.bool (i != j))
 | .lst as,.lst bs,R=>(D.lst as).pl 50=true/\(D.lst bs).pl 50=true/\R (.bool (!PyData.eqv (D.lst as).py (D.lst bs).py))
 | .tup as,.tup bs,R=>(D.tup as).pl 50=true/\(D.tup bs).pl 50=true/\R (.bool (!PyData.eqv (D.tup as).py (D.tup bs).py))
 | _,_,_=>False
theorem zOE {K:PySem.W.Frag}:wZ (λx y H Q=>K1 x y H Q\/∃ d e:PyData,Dp K H x d/\Dp K H y e/\d.canLay0=true/\e.canLay0=true/\d.depth<=60/\e.depth<=60/\Q (.bl (!PyData.eqv d e)) H) j3:=λZ H x y a b R Q zd hx hy h q=>by
 unfold j3 at h
 split at h
 ·cases hx; cases hy
  refine .inl ⟨rfl,?_⟩
  rw [XY,Bool.beq_eq_decide_eq]
  exact q _ _ H h (Sm.refl _) (.bool _)
 ·cases hx; cases hy
  refine .inl ⟨rfl,?_⟩
  rw [XZ]
  exact q _ _ H h (Sm.refl _) (.bool _)
 ·cases hx; cases hy
  refine .inl ⟨rfl,?_⟩
  rw [Xa]
  exact q _ _ H h (Sm.refl _) (.bool _)
 ·have d1:=uF _ _ h.1
  have d2:=uF _ _ h.2.1
  have e1:=d1.dep
  have e2:=d2.dep
  exact .inr ⟨_,_,d1.dp K H _ (hx.same yJ),d2.dp K H _ (hy.same yJ),d1.lay,d2.lay,by omega,by omega,q _ _ H h.2.2 (Sm.refl _) (.bool _)⟩
 ·have d1:=uF _ _ h.1
  have d2:=uF _ _ h.2.1
  have e1:=d1.dep
  have e2:=d2.dep
  exact .inr ⟨_,_,d1.dp K H _ (hx.same yJ),d2.dp K H _ (hy.same yJ),d1.lay,d2.lay,by omega,by omega,q _ _ H h.2.2 (Sm.refl _) (.bool _)⟩
 ·exact h.elim
theorem zQl (hu:X.A.units + 64 < cLine) (ha:PE X a (tP pa)) (hb:PE X b (tP pb)):PE X (.Compare a [.NotEq] [b] pos) (tP (xQ j3 pa pb)):=gg (W6.or (zOC hu)) zOE (vW _) ha hb
theorem ua (hu:X.A.units + 64 < cLine) (ha:PE X a (tP pa)) (hb:PE X b (tP pb)):PE X (.Compare a [.Eq] [b] pos) (tP (xQ Xy pa pb)):=gg (K3.or (zOD hu)) zOG (vW _) ha hb
def bD:D->(Bool->Prop)->Prop
 | .bool b,R=>R b
 | _,_=>False
def xi (pa:zu):wY:=λΓ R=>pa Γ λd=>bD d R
theorem zNt {t:TE} (w:∀ σ H Q,tP pa σ H Q->t σ H Q) (σ:St) (H:Hp) (Q:Bool->Hp->Prop):xW (xi pa) σ H Q->K7 t σ H Q:=λ⟨Z,Γ,R,E,h,q⟩=>
 w _ _ _ ⟨Z,Γ,_,E,h,λd v H1 hd s1 hv=>by
  unfold bD at hd
  split at hd
  ·cases hv; exact ⟨_,rfl,q _ H1 hd s1⟩
  ·exact hd.elim⟩
theorem yx (ha:PE X e (tP pa)) (he:∀ whole,isTrue e X.env whole=(do let v <- whole; standAt e.pos; holding [v] (truthy v)):=by intro _; rfl):PT X e (xW (xi pa)):=Ue (zQo ha he) (zNt λ_ _ _ h=>h)
theorem j4 {op:CmpOp} {r:R2} {f:F2} (ho:yw X (compareOp op) r) (o:wZ r f) (hm:behindInMarks op b=false) (ha:PE X a (tP pa)) (hb:PE X b (tP pb)):PT X (.Compare a [op] [b] pos) (xW (xi (xQ f pa pb))):=Ue (K8 ho ha hb hm) (zNt (Xv o))
theorem uw (hu:X.A.units + 64 < cLine) (ha:PE X a (tP pa)) (hb:PE X b (tP pb)):PT X (.Compare a [.Eq] [b] pos) (xW (xi (xQ Xy pa pb))):=j4 (K3.or (zOD hu)) zOG (vW _) ha hb
theorem ve (hu:X.A.units + 64 < cLine) (ha:PE X a (tP pa)) (hb:PE X b (tP pb)):PT X (.Compare a [.NotEq] [b] pos) (xW (xi (xQ j3 pa pb))):=j4 (W6.or (zOC hu)) zOE (vW _) ha hb
theorem gh (ha:PE X a (tP pa)) (hb:PE X b (tP pb)):PT X (.Compare a [.Lt] [b] pos) (xW (xi (xQ (wc λi j=>decide (i < j)) pa pb))):=j4 K4 qg (vW _) ha hb
theorem qh (ha:PE X a (tP pa)) (hb:PE X b (tP pb)):PT X (.Compare a [.Gt] [b] pos) (xW (xi (xQ (wc λi j=>decide (j < i)) pa pb))):=j4 K5 qg (vW _) ha hb
theorem zN5 (ha:PE X a (tP pa)) (hb:PE X b (tP pb)):PT X (.Compare a [.GtE] [b] pos) (xW (xi (xQ (wc λi j=>decide (j<=i)) pa pb))):=j4 K6 qg (vW _) ha hb
def wd (b:Bool) (A B:Prop):Prop:=(b=true->A)/\(b=false->B)
theorem wT {b:Bool} {A B:Prop} (e:b=true) (h:A):wd b A B:=⟨λ_=>h,λz=>nomatch e.symm.trans z⟩
theorem wF {b:Bool} {A B:Prop} (e:b=false) (h:B):wd b A B:=⟨λz=>(nomatch e.symm.trans z),λ_=>h⟩
theorem w2 {b:Bool} {A B:Prop} (h1:b=true->A) (h2:b=false->B):wd b A B:=⟨h1,h2⟩
def pOr (p q:wY):wY:=λΓ R=>p Γ λc=>wd c (R true) (q Γ R)
def Uk (p:wY):wY:=λΓ R=>p Γ λc=>R (!c)
theorem vB (ha:PT X a (xW qa)):PW X (.BoolOp .Or [a] pos) (xW qa):=zQk ha
theorem wD {yc:List Expr} (ha:PT X a (xW qa)) (hb:PW X (.BoolOp .Or (b :: yc) pos) (xW qb)):PW X (.BoolOp .Or (a :: b :: yc) pos) (xW (pOr qa qb)):=pww (kL ha hb) λσ H Q ⟨Z,Γ,R,E,h,q⟩=>
 ⟨Z,Γ,_,E,h,λc H1 hc s1=>by
  cases c with
  | true=>exact q _ H1 (hc.1 rfl) s1
  | false=>exact ⟨Z,Γ,R,E.same s1,hc.2 rfl,λb H2 hb s2=>q b H2 hb (s1.trans s2)⟩⟩
theorem xa (ha:PT X a (xW qa)):PT X (.UnaryOp .Not a pos) (xW (Uk qa)):=Ue (zQp ha) λσ H Q ⟨Z,Γ,R,E,h,q⟩=>⟨Z,Γ,_,E,h,λc H1 hc s1=>q _ H1 hc s1⟩
def Za (p q:zu):zu:=λΓ R=>p Γ λd=>bD d λc=>wd c (q Γ R) (R (.bool false))
def Ul (p q:zu):zu:=λΓ R=>p Γ λd=>bD d λc=>wd c (R (.bool true)) (q Γ R)
def Zb (p:zu):zu:=λΓ R=>p Γ λd=>bD d λc=>R (.bool !c)
theorem uG {op} (ha:PE X a (tP pa)):PE X (.BoolOp op [a] pos) (tP pa):=zQz ha
theorem vN {yc:List Expr} (ha:PE X a (tP pa)) (hb:PE X (.BoolOp .And (b :: yc) pos) (tP pb)):PE X (.BoolOp .And (a :: b :: yc) pos) (tP (Za pa pb)):=yT (zQ3 ha hb) λσ H Q ⟨Z,Γ,R,E,h,q⟩=>
 ⟨Z,Γ,_,E,h,λd v H1 hd s1 hv=>by
  unfold bD at hd
  split at hd
  ·cases hv
   rename_i c
   refine ⟨c,rfl,?_⟩
   cases c with
   | true=>exact ⟨Z,Γ,R,E.same s1,hd.1 rfl,λb v H2 hb s2 k=>q b v H2 hb (s1.trans s2) k⟩
   | false=>exact q _ _ H1 (hd.2 rfl) s1 (.bool _)
  ·exact hd.elim⟩
theorem Zc {yc:List Expr} (ha:PE X a (tP pa)) (hb:PE X (.BoolOp .Or (b :: yc) pos) (tP pb)):PE X (.BoolOp .Or (a :: b :: yc) pos) (tP (Ul pa pb)):=yT (kO ha hb) λσ H Q ⟨Z,Γ,R,E,h,q⟩=>
 ⟨Z,Γ,_,E,h,λd v H1 hd s1 hv=>by
  unfold bD at hd
  split at hd
  ·cases hv
   rename_i c
   refine ⟨c,rfl,?_⟩
   cases c with
   | true=>exact q _ _ H1 (hd.1 rfl) s1 (.bool _)
   | false=>exact ⟨Z,Γ,R,E.same s1,hd.2 rfl,λb v H2 hb s2 k=>q b v H2 hb (s1.trans s2) k⟩
  ·exact hd.elim⟩
theorem Um (ha:PE X a (tP pa)):PE X (.UnaryOp .Not a pos) (tP (Zb pa)):=yT (zQ0 ha) λσ H Q ⟨Z,Γ,R,E,h,q⟩=>
 ⟨Z,Γ,_,E,h,λd v H1 hd s1 hv=>by
  unfold bD at hd
  split at hd
  ·cases hv; exact ⟨_,rfl,q _ _ H1 hd s1 (.bool _)⟩
  ·exact hd.elim⟩
def Uo (t:wY) (p q:zu):zu:=λΓ R=>t Γ λc=>wd c (p Γ R) (q Γ R)
theorem Zd (hc:PT X c (xW qa)) (ha:PE X a (tP pa)) (hb:PE X b (tP pb)):PE X (.IfExp c a b pos) (tP (Uo qa pa pb)):=yT (zMy hc ha hb) λσ H Q ⟨Z,Γ,R,E,h,q⟩=>
 ⟨Z,Γ,_,E,h,λc H1 hd s1=>by
  cases c with
  | true=>exact ⟨Z,Γ,R,E.same s1,hd.1 rfl,λb v H2 hb s2 k=>q b v H2 hb (s1.trans s2) k⟩
  | false=>exact ⟨Z,Γ,R,E.same s1,hd.2 rfl,λb v H2 hb s2 k=>q b v H2 hb (s1.trans s2) k⟩⟩
def Ze:yg:=λ_ R=>R []
def zQ6 (pa:zu) (pl:yg):yg:=λΓ R=>pa Γ λd=>pl Γ λds=>R (d :: ds)
theorem zC:PA X [] (x8 Ze):=paw yf λσ H Q ⟨_,_,_,_,h,q⟩=>q _ _ H h (Sm.refl _) .nil
theorem zB (ha:PE X e (tP pa)) (hr:PA X es (x8 pl)) (hs:starEach (e :: es) X.env=(false,eval e X.env) :: starEach es X.env:=by rfl):PA X (e :: es) (x8 (zQ6 pa pl)):=paw (zz ha hr hs) λσ H Q ⟨Z,Γ,R,E,h,q⟩=>
 ⟨Z,Γ,_,E,h,λd v H1 hd s1 hv=>⟨Z,Γ,_,E.same s1,hd,λds vs H2 hds s2 hvs=>q _ _ H2 hds (s1.trans s2) (.cons (hv.same (yr s2)) hvs)⟩⟩
def Up (pl:yg):zu:=λΓ R=>pl Γ λds=>ds.length<=1000/\R (.tup ds)
def Uq (pl:yg):zu:=λΓ R=>pl Γ λds=>ds.length<=1000/\R (.lst ds)
theorem yP {x1} (ha:PA X es (x8 pl)):PE X (.Tuple es x1 pos) (tP (Up pl)):=yT (zQw ha) λσ H Q ⟨Z,Γ,R,E,h,q⟩=>
 ⟨Z,Γ,_,E,h,λds vs H1 hd s1 hv=>⟨few (by rw [Paired.length hv]; exact hd.1),λp hp=>q _ _ _ hd.2 (s1.trans (wC hp _)) (Xw (E.same s1).zd hp hv)⟩⟩
theorem xM (ha:PA X es (x8 pl)):PE X (.List es pos) (tP (Uq pl)):=yT (UA ha) λσ H Q ⟨Z,Γ,R,E,h,q⟩=>
 ⟨Z,Γ,_,E,h,λds vs H1 hd s1 hv=>⟨few (by rw [Paired.length hv]; exact hd.1),λp hp=>q _ _ _ hd.2 (s1.trans (wC hp _)) (uZ (E.same s1).zd hp hv)⟩⟩
theorem Xz {α β:Type} {R:α->β->Prop} {xs:List α} {ys:List β} (h:Paired R xs ys) {i:Int} {y:β} (e:ya ys i=some y):∃ x,ya xs i=some x/\R x y:=by
 unfold ya at e |-
 rw [Paired.length h]
 cases k:wI ys.length i with
 | none=>rw [k] at e; cases e
 | some j=>
  rw [k] at e
  exact go h e
where
 go:∀ {xs:List α} {ys:List β} {j:Nat} {y:β},Paired R xs ys->ys[j]? = some y->∃ x,xs[j]? = some x/\R x y
  | _,_,_,_,.nil,e=>by simp at e
  | _,_,0,_,.cons r _,e=>by simp at e; subst e; exact ⟨_,rfl,r⟩
  | _,_,j + 1,y,.cons _ t,e=>by
   obtain ⟨x,h1,h2⟩:=go (j:=j) (y:=y) t (by simpa using e)
   exact ⟨x,by simpa using h1,h2⟩
def ixD:F2
 | .lst ds,.int i,R=>∃ d,ya ds i=some d/\R d
 | .tup ds,.int i,R=>∃ d,ya ds i=some d/\R d
 | .scr ns,.int i,R=>∃ n,ya ns i=some n/\R (.int n)
 | _,_,_=>False
theorem qi {α β:Type} (f:α->β) (xs:List α) (i:Int):ya (xs.map f) i=(ya xs i).map f:=by
 unfold ya
 rw [List.length_map]
 cases wI xs.length i with
 | none=>rfl
 | some j=>exact List.getElem?_map ..
theorem zRJ {K:PySem.W.Frag}:wZ (ZJ K) ixD:=λZ H x y a b R Q zd hx hy h q=>by
 unfold ixD at h
 split at h
 ·obtain ⟨p,xs,rfl,e1,h1⟩:=hx.lst_inv
  cases hy
  obtain ⟨d,hd,hR⟩:=h
  obtain ⟨v,hv,hh⟩:=Xz h1 hd
  exact ⟨p,xs,_,v,rfl,rfl,.inr (zo.of (yJ _ _ e1)),hv,q _ _ H hR (Sm.refl _) hh⟩
 ·obtain ⟨p,xs,rfl,e1,h1⟩:=hx.tup_inv
  cases hy
  obtain ⟨d,hd,hR⟩:=h
  obtain ⟨v,hv,hh⟩:=Xz h1 hd
  exact ⟨p,xs,_,v,rfl,rfl,.inl (yZ.of (yJ _ _ e1)),hv,q _ _ H hR (Sm.refl _) hh⟩
 ·cases hy
  cases hx with
  | scr e=>
  obtain ⟨n,hn,hR⟩:=h
  exact ⟨_,_,_,.int n,rfl,rfl,.inr (.inl (Ud yJ e)),by rw [qi,hn]; rfl,q _ _ H hR (Sm.refl _) (.int n)⟩
 ·exact h.elim
theorem Zf (ha:PE X a (tP pa)) (hb:PE X b (tP pb)) (hs:Xg b):PE X (.Subscript a b pos) (tP (xQ ixD pa pb)):=yT (UD zPd ha hb hs) (Xv zRJ)
theorem Zg {X:Cx} {e:Option Expr} {t t':TO} (h:PO X e t) (w:∀ σ H Q,t' σ H Q->t σ H Q):PO X e t':=λpins s σ H Q I q=>h pins s σ H Q I (w σ H Q q)
def zPE:ZU:=λ_ R=>R none
def iD:D->(Option Int->Prop)->Prop
 | .int i,R=>R (some i)
 | _,_=>False
def Zh (pa:zu):ZU:=λΓ R=>pa Γ λd=>iD d R
theorem vO:PO X none (ZV zPE):=Zg zO7 λσ H Q ⟨_,_,_,_,h,q⟩=>q _ H h (Sm.refl _)
theorem we (h:PE X e (tP pa)):PO X (some e) (ZV (Zh pa)):=Zg (zO6 h) λσ H Q ⟨Z,Γ,R,E,h,q⟩=>
 ⟨Z,Γ,_,E,h,λd v H1 hd s1 hv=>by
  unfold iD at hd
  split at hd
  ·cases hv; exact ⟨_,rfl,q _ H1 hd s1⟩
  ·exact hd.elim⟩
def zh {α:Type} (xs:List α) (lo hi:Option Int):List α:=(xs.drop (HT.sIx xs.length 0 lo)).take (HT.sIx xs.length xs.length hi - HT.sIx xs.length 0 lo)
theorem zK7 {α β:Type} {R:α->β->Prop}:∀ {xs:List α} {ys:List β} (n:Nat),Paired R xs ys->Paired R (xs.take n) (ys.take n)
 | _,_,0,_=>.nil
 | _,_,_ + 1,.nil=>.nil
 | _,_,n + 1,.cons h t=>.cons h (zK7 n t)
theorem zK8 {α β:Type} {R:α->β->Prop}:∀ {xs:List α} {ys:List β} (n:Nat),Paired R xs ys->Paired R (xs.drop n) (ys.drop n)
 | _,_,0,h=>h
 | _,_,_ + 1,.nil=>.nil
 | _,_,n + 1,.cons _ t=>zK8 n t
theorem zGc {α β:Type} {R:α->β->Prop} {xs:List α} {ys:List β} (h:Paired R xs ys) (lo hi:Option Int):Paired R (zh xs lo hi) (zh ys lo hi):=by
 unfold zh
 rw [Paired.length h]
 exact zK7 _ (zK8 _ h)
def slD:D->Option Int->Option Int->(D->Prop)->Prop
 | .lst ds,lo,hi,R=>R (.lst (zh ds lo hi))
 | .tup ds,lo,hi,R=>R (.tup (zh ds lo hi))
 | _,_,_,_=>False
def pSl (pa:zu) (po qo:ZU):zu:=λΓ R=>pa Γ λd=>po Γ λl=>qo Γ λu=>slD d l u R
theorem zQZ {X:Cx} {r r':V->Option Int->Option Int->Hp->VK->Prop} (h:qP X r) (h':qP X r'):qP X (λx l u H Q=>r x l u H Q\/r' x l u H Q):=λpins s σ H x v vl vu lo hi sl Q I r1 r2 r3 r4 q=>
 q.elim (h pins s σ H x v vl vu lo hi sl Q I r1 r2 r3 r4) (h' pins s σ H x v vl vu lo hi sl Q I r1 r2 r3 r4)
theorem wz {lo hi:Option Expr} {po qo:ZU} {p2:Pos} (ha:PE X a (tP pa)) (hl:PO X lo (ZV po)) (hu:PO X hi (ZV qo)):PE X (.Subscript a (.Slice lo hi none p2) pos) (tP (pSl pa po qo)):=yT (zMv (zQZ zOs zNS) ha hl hu) λσ H Q ⟨Z,Γ,R,E,h,q⟩=>
 ⟨Z,Γ,_,E,h,λd v H1 hd s1 hv=>⟨Z,Γ,_,E.same s1,hd,λl H2 hl s2=>⟨Z,Γ,_,E.same (s1.trans s2),hl,λu H3 hu s3=>by
  have s:=s1.trans (s2.trans s3)
  have hv:=hv.same (yr (s2.trans s3))
  have zd:=(E.same s).zd
  unfold slD at hu
  split at hu
  ·obtain ⟨p,xs,rfl,e1,h1⟩:=hv.lst_inv
   exact .inl ⟨p,xs,rfl,zo.of (yJ _ _ e1),λn hn=>q _ _ _ hu (s.trans (wC hn _)) (uZ zd hn (zGc h1 _ _))⟩
  ·obtain ⟨p,xs,rfl,e1,h1⟩:=hv.tup_inv
   exact .inr ⟨p,xs,rfl,yJ _ _ e1,λn H' s' e=>have s':=Sm.of s'; q _ _ _ hu (s.trans s') (zLD (zd.same s') e (xh (yr s') (zGc h1 _ _)))⟩
  ·exact hu.elim⟩⟩⟩
abbrev FL:=List D->(D->Prop)->Prop
def uH (r:List V->Hp->VK->Prop) (f:FL):Prop:=∀ (Z:Addr->Prop) (H:Hp) (vs:List V) (ds:List D) (R:D->Prop) (Q:VK),ZL Z H->yO (zR Z H) vs ds->f ds R->(∀ d v H',R d->Sm H H'->DV (zR Z H') v d->Q v H')->r vs H Q
def jJ (f:FL) (pl:yg):zu:=λΓ R=>pl Γ λds=>f ds R
theorem zKT {r:List V->Hp->VK->Prop} {f:FL} (o:uH r f) (σ:St) (H:Hp) (Q:VK):tP (jJ f pl) σ H Q->qO r (x8 pl) σ H Q:=λ⟨Z,Γ,R,E,h,q⟩=>
 ⟨Z,Γ,_,E,h,λds vs H1 hd s1 hv=>o Z H1 vs ds R Q (E.same s1).zd hv hd λd v H2 h2 s2 hv2=>q d v H2 h2 (s1.trans s2) hv2⟩
theorem yB {x:Str} {id:String} {p:Pos} {r:List V->Hp->VK->Prop} {f:FL} (hc:wM X (.builtin id) r) (o:uH r f) (hg:Gl X x) (hm:X.mg x=none) (hv:bootBuiltins x=some (.builtin id)) (ha:PA X (e :: es) (x8 pl)) (hn:x≠"__name__":=by decide) (hdb:(x == ("__debug__" : Str))=false:=by decide)
  (he:starEach (e :: es) X.env=(false,eval e X.env) :: starEach es X.env:=by rfl) (hpl:(backTo pos (starEach es X.env)).any (·.1)=false:=by rfl):PE X (.Call (.Name x p) (e :: es) [] pos) (tP (jJ f pl)):=yT (wX hc hg hm hv ha hn hdb he hpl) (zKT o)
theorem xo {x:Str} {T:String} {p:Pos} {r:List V->Hp->VK->Prop} {f:FL} (hc:wM X (.type T) r) (o:uH r f) (hg:Gl X x) (hm:X.mg x=none) (hv:bootBuiltins x=some (.type T)) (ha:PA X (e :: es) (x8 pl)) (hn:x≠"__name__":=by decide) (hdb:(x == ("__debug__" : Str))=false:=by decide)
  (he:starEach (e :: es) X.env=(false,eval e X.env) :: starEach es X.env:=by rfl) (hpl:(backTo pos (starEach es X.env)).any (·.1)=false:=by rfl):PE X (.Call (.Name x p) (e :: es) [] pos) (tP (jJ f pl)):=yT (Xf hc hg hm hv ha hn hdb he hpl) (zKT o)
def Zi:FL
 | [.lst ds],R=>R (.int ds.length)
 | [.tup ds],R=>R (.int ds.length)
 | [.scr ns],R=>R (.int ns.length)
 | _,_=>False
theorem yy {H:Hp} {vs:List V} {d:D} (h:yO H vs [d]):∃ v,vs=[v]/\DV H v d:=by
 cases h with
 | cons h t=>cases t; exact ⟨_,rfl,h⟩
theorem jK {H:Hp} {vs:List V} {d e:D} (h:yO H vs [d,e]):∃ v w,vs=[v,w]/\DV H v d/\DV H w e:=by
 cases h with
 | cons h t=>obtain ⟨w,rfl,k⟩:=yy t; exact ⟨_,_,rfl,h,k⟩
theorem yo {K:PySem.W.Frag}:uH (λxs H Q=>∃ p ys,xs=[.ref p]/\(zo K H p ys\/yZ K H p ys)/\Q (.int ys.length) H) Zi:=λZ H vs ds R Q zd hv h q=>by
 unfold Zi at h
 split at h
 ·obtain ⟨v,rfl,hw⟩:=yy hv
  obtain ⟨p,xs,rfl,e1,h1⟩:=hw.lst_inv
  exact ⟨p,xs,rfl,.inl (zo.of (yJ _ _ e1)),by rw [Paired.length h1]; exact q _ _ H h (Sm.refl _) (.int _)⟩
 ·obtain ⟨v,rfl,hw⟩:=yy hv
  obtain ⟨p,xs,rfl,e1,h1⟩:=hw.tup_inv
  exact ⟨p,xs,rfl,.inr (yZ.of (yJ _ _ e1)),by rw [Paired.length h1]; exact q _ _ H h (Sm.refl _) (.int _)⟩
 ·obtain ⟨v,rfl,hw⟩:=yy hv
  cases hw with
  | scr e=>exact ⟨_,_,rfl,.inl (.inl (Ud yJ e)),by rw [List.length_map]; exact q _ _ H h (Sm.refl _) (.int _)⟩
 ·exact h.elim
def zRP:FL
 | [.lst ds],R=>R (.lst ds)
 | [.tup ds],R=>R (.lst ds)
 | _,_=>False
theorem vv {K:PySem.W.Frag}:uH (λxs H Q=>∃ p ys,xs=[.ref p]/\(zo K H p ys\/yZ K H p ys)/\∀ l,H l=none->Q (.ref l) (zb H l (.lst ys))) zRP:=λZ H vs ds R Q zd hv h q=>by
 unfold zRP at h
 split at h
 ·obtain ⟨v,rfl,hw⟩:=yy hv
  obtain ⟨p,xs,rfl,e1,h1⟩:=hw.lst_inv
  exact ⟨p,xs,rfl,.inl (zo.of (yJ _ _ e1)),λl hl=>q _ _ _ h (wC hl _) (uZ zd hl h1)⟩
 ·obtain ⟨v,rfl,hw⟩:=yy hv
  obtain ⟨p,xs,rfl,e1,h1⟩:=hw.tup_inv
  exact ⟨p,xs,rfl,.inr (yZ.of (yJ _ _ e1)),λl hl=>q _ _ _ h (wC hl _) (uZ zd hl h1)⟩
 ·exact h.elim
def Zj:FL
 | [.lst ds],R=>R (.tup ds)
 | [.tup ds],R=>R (.tup ds)
 | _,_=>False
theorem jL {K:PySem.W.Frag}:uH (λxs H Q=>∃ p ys,xs=[.ref p]/\((zo K H p ys/\∀ l,H l=none->Q (.ref l) (zb H l (.tup ys)))\/(yZ K H p ys/\Q (.ref p) H))) Zj:=λZ H vs ds R Q zd hv h q=>by
 unfold Zj at h
 split at h
 ·obtain ⟨v,rfl,hw⟩:=yy hv
  obtain ⟨p,xs,rfl,e1,h1⟩:=hw.lst_inv
  exact ⟨p,xs,rfl,.inl ⟨zo.of (yJ _ _ e1),λl hl=>q _ _ _ h (wC hl _) (Xw zd hl h1)⟩⟩
 ·obtain ⟨v,rfl,hw⟩:=yy hv
  obtain ⟨p,xs,rfl,e1,h1⟩:=hw.tup_inv
  exact ⟨p,xs,rfl,.inr ⟨yZ.of (yJ _ _ e1),q _ _ _ h (Sm.refl _) hw⟩⟩
 ·exact h.elim
def Zk:FL
 | [.lst ds],R=>∃ ns:List Int,ds=ns.map D.int/\R (.int ns.sum)
 | _,_=>False
theorem Zl {K:PySem.W.Frag}:uH (λxs H Q=>∃ (p:Addr) (ns:List Int),xs=[.ref p]/\zo K H p (ns.map V.int)/\Q (.int ns.sum) H) Zk:=λZ H vs ds R Q zd hv h q=>by
 unfold Zk at h
 split at h
 ·obtain ⟨v,rfl,hw⟩:=yy hv
  obtain ⟨p,xs,rfl,e1,h1⟩:=hw.lst_inv
  obtain ⟨ns,rfl,h⟩:=h
  cases ZT h1
  exact ⟨p,ns,rfl,zo.of (yJ _ _ e1),q _ _ H h (Sm.refl _) (.int _)⟩
 ·exact h.elim
def Zm:FL
 | [.lst ds],R=>∃ bs:List Bool,ds=bs.map D.bool/\R (.bool (bs.all id))
 | _,_=>False
theorem ub {K:PySem.W.Frag}:uH (λxs H Q=>∃ (p:Addr) (bs:List Bool),xs=[V.ref p]/\zo K H p (bs.map V.bl)/\Q (V.bl (bs.all id)) H) Zm:=λZ H vs ds R Q zd hv h q=>by
 unfold Zm at h
 split at h
 ·obtain ⟨v,rfl,hw⟩:=yy hv
  obtain ⟨p,xs,rfl,e1,h1⟩:=hw.lst_inv
  obtain ⟨ns,rfl,h⟩:=h
  cases zHy h1
  exact ⟨p,ns,rfl,zo.of (yJ _ _ e1),q _ _ H h (Sm.refl _) (.bool _)⟩
 ·exact h.elim
def Zn:FL
 | [.int i,.int j],R=>R (.int (max i j))
 | _,_=>False
theorem zPy:uH (λxs H Q=>∃ i j,xs=[.int i,.int j]/\Q (.int (if j > i then j else i)) H) Zn:=λZ H vs ds R Q zd hv h q=>by
 unfold Zn at h
 split at h
 ·rename_i i j
  obtain ⟨v,w,rfl,hx,hy⟩:=jK hv
  cases hx; cases hy
  refine ⟨_,_,rfl,?_⟩
  have e:(if j > i then j else i)=max i j:=by rw [Int.max_def]; split <;> split <;> omega
  rw [e]
  exact q _ _ H h (Sm.refl _) (.int _)
 ·exact h.elim
def Zo:FL
 | [.int i],R=>R (.int i)
 | [.bool b],R=>R (.int (if b=true then 1 else 0))
 | _,_=>False
theorem zMH:uH (λxs H Q=>(∃ i,xs=[.int i]/\Q (.int i) H)\/∃ k,xs=[.bl k]/\Q (.int (if k then 1 else 0)) H) Zo:=λZ H vs ds R Q zd hv h q=>by
 unfold Zo at h
 split at h
 ·obtain ⟨v,rfl,hw⟩:=yy hv
  cases hw
  exact .inl ⟨_,rfl,q _ _ H h (Sm.refl _) (.int _)⟩
 ·obtain ⟨v,rfl,hw⟩:=yy hv
  cases hw
  exact .inr ⟨_,rfl,q _ _ H h (Sm.refl _) (.int _)⟩
 ·exact h.elim
end
end Pu
namespace Pu
open PySem L2 Sh
variable [yU]
def setN:St->List Nat->List V->St
 | σ,j :: js,v :: vs=>setN (σ.set j (some v)) js vs
 | σ,_,_=>σ
def X0:List Sl->List Nat->List D->List Sl
 | Γ,j :: js,d :: ds=>X0 (zt Γ j (.sh d)) js ds
 | Γ,_,_=>Γ
def ux:Option (List D)->(List D->Prop)->Prop
 | some os,k=>k os
 | none,_=>False
theorem Zq {o:Option (List D)} {k:List D->Prop} (h:ux o k):∃ os,o=some os/\k os:=by
 cases o with
 | none=>exact h.elim
 | some os=>exact ⟨os,rfl,h⟩
inductive tG (js:List Nat) (po:D->Option (List D)) (v:V) (σ:St) (H:Hp) (Q:St->Hp->Prop):Prop
 | mk (Z:Addr->Prop) (d:D) (os:List D) (hv:DV (zR Z H) v d) (ho:po d=some os) (q:∀ vs,yO (zR Z H) vs os->Q (setN σ js vs) H):tG js po v σ H Q
inductive tGs (js:List Nat) (po:List D->Option (List D)) (us:List V) (σ:St) (H:Hp) (Q:St->Hp->Prop):Prop
 | mk (Z:Addr->Prop) (ds os:List D) (hv:yO (zR Z H) us ds) (ho:po ds=some os) (q:∀ vs,yO (zR Z H) vs os->Q (setN σ js vs) H):tGs js po us σ H Q
structure gi (X:Cx) (es:List Expr) (js:List Nat) (po:List D->Option (List D)) (n:Nat):Prop where
 g:gM X es (tGs js po)
 l:∀ ds os,po ds=some os->ds.length=n
 k:∀ ds os,po ds=some os->os.length=js.length
section
variable {X:Cx} {pos:Pos}
def Ur:D->Option (List D):=λd=>some [d]
theorem zMn (i:Nat) {x:Str} (hN:X.N.Nodup) (hi:X.N[i]? = some x) (hx:v7 X.env.scope x) (hf:X.fn x=true\/X.env.scope.names.lookup x=some .local:=by first | exact .inl rfl | exact .inr rfl | assumption):PG X (.Name x pos) (tG [i] Ur):=
 λpins s σ H v u Q I r ⟨_,_,_,hv,ho,q⟩=>Kt hN hi hx hf pins s σ H v u Q I r (by
  cases ho
  exact q [v] (.cons hv .nil))
def zQs:List D->Option (List D)
 | []=>some []
 | _=>none
def Ut (po:List D->Option (List D)):List D->Option (List D)
 | d :: ds=>(po ds).map (d :: ·)
 | []=>none
def X1 (po:List D->Option (List D)):D->Option (List D)
 | .tup ds=>po ds
 | .lst ds=>po ds
 | _=>none
theorem xq:gi X [] [] zQs 0 where
 g:=λpins s σ H vs us Q I r ⟨_,ds,os,hv,ho,q⟩=>by
  cases ds with
  | nil=>cases hv; exact zPA pins s σ H [] us Q I r ⟨rfl,q [] (by cases ho; exact .nil)⟩
  | cons=>cases ho
 l:=λds os h=>by cases ds with | nil=>rfl | cons=>cases h
 k:=λds os h=>by cases ds with | nil=>cases h; rfl | cons=>cases h
theorem zKm (i:Nat) {x:Str} {es:List Expr} {js:List Nat} {po:List D->Option (List D)} {n:Nat} (hN:X.N.Nodup) (hi:X.N[i]? = some x) (hx:v7 X.env.scope x) (h:gi X es js po n)
  (hs:(assignEach (.Name x pos :: es) X.env).map (·.2)=assign (.Name x pos) X.env :: (assignEach es X.env).map (·.2):=by rfl) (hf:X.fn x=true\/X.env.scope.names.lookup x=some .local:=by first | exact .inl rfl | exact .inr rfl | assumption):gi X (.Name x pos :: es) (i :: js) (Ut po) (n + 1) where
 g:=λpins s σ H vs us Q I r ⟨Z,ds,os,hv,ho,q⟩=>by
  cases hv with
  | nil=>cases ho
  | @cons v d vt dt hv ht=>
   change (po dt).map (d :: ·)=some os at ho
   cases e:po dt with
   | none=>rw [e] at ho; cases ho
   | some os'=>
    rw [e] at ho
    cases ho
    exact zMu (Kt hN hi hx hf) h.g hs pins s σ H _ us Q I r ⟨v,vt,rfl,Z,dt,os',ht,e,λvs hvs=>q (v :: vs) (.cons hv hvs)⟩
 l:=λds os q=>by
  cases ds with
  | nil=>cases q
  | cons d dt=>
   change (po dt).map (d :: ·)=some os at q
   cases e:po dt with
   | none=>rw [e] at q; cases q
   | some os'=>rw [List.length_cons,h.l dt os' e]
 k:=λds os q=>by
  cases ds with
  | nil=>cases q
  | cons d dt=>
   change (po dt).map (d :: ·)=some os at q
   cases e:po dt with
   | none=>rw [e] at q; cases q
   | some os'=>rw [e] at q; cases q; rw [List.length_cons,List.length_cons,h.k dt os' e]
theorem wK {H:Hp} {vs:List V} {ds:List D} (h:yO H vs ds):vs.length=ds.length:=Paired.length h
theorem jM {po:List D->Option (List D)} {js:List Nat} (h:∀ ds os,po ds=some os->os.length=js.length):∀ d os,X1 po d=some os->os.length=js.length:=λd os q=>by
 unfold X1 at q
 split at q
 ·exact h _ _ q
 ·exact h _ _ q
 ·cases q
theorem xr {es:List Expr} {js:List Nat} {po:List D->Option (List D)} {n k:Nat} (hc:X.calm=true) (h:gi X es js po n) (hn:(assignEach es X.env).length=n:=by rfl) (hst:(assignEach es X.env).findIdx? (·.1)=none:=by rfl):PG X (.Tuple es k pos) (tG js (X1 po)):=
 λpins s σ H v u Q I r ⟨Z,d,os,hv,ho,q⟩=>by
  unfold X1 at ho
  split at ho
  ·obtain ⟨p,xs,rfl,e,hx⟩:=hv.tup_inv
   exact zQu hc h.g hn hst pins s σ H _ u Q I r ⟨p,xs,rfl,yZ.of (yJ _ _ e),by rw [wK hx]; exact h.l _ _ ho,Z,_,os,hx,ho,q⟩
  ·obtain ⟨p,xs,rfl,e,hx⟩:=hv.lst_inv
   exact zQv hc h.g hn hst pins s σ H _ u Q I r ⟨p,xs,rfl,zo.of (yJ _ _ e),by rw [wK hx]; exact h.l _ _ ho,Z,_,os,hx,ho,q⟩
  ·cases ho
end
def Wk (Z:Addr->Prop) (J:It) (H:Hp) (ds:List D):Prop:=∀ i Z' H',zP (zR Z H) (zR Z' H')->ZL Z' H'->(∀ d,ds[i]? = some d->J.go i H'/\∀ x H'',J.yld i H' x H''->Sm H' H''/\DV (zR Z' H'') x d)/\(i=ds.length->J.stop i H')
inductive uz (p:yg) (σ:St) (H:Hp) (Q:It->Hp->Prop):Prop
 | mk (Z:Addr->Prop) (Γ:List Sl) (R:List D->Prop) (E:yS Z Γ σ H) (h:p Γ R) (q:∀ ds J H',R ds->Sm H H'->Wk Z J H' ds->Q J H'):uz p σ H Q
theorem Zr {α β:Type} {R:α->β->Prop} {xs:List α} {ys:List β} (h:Paired R xs ys) {j:Nat} {y:β} (e:ys[j]? = some y):∃ x,xs[j]? = some x/\R x y:=Xz.go h e
section
variable {X:Cx} {tg e e1 e2:Expr} {pos:Pos} {pa:zu} {pl:yg}
theorem Zs {w w':TI} (h:PI X tg e w) (k:∀ σ H R,w' σ H R->w σ H R):PI X tg e w':=λpins s σ H R I q=>h pins s σ H R I (k σ H R q)
def Uu (K:PySem.W.Frag) (tl:TE):TI:=λσ H R=>tl σ H λx H1=>(∃ a,x=.ref a/\(∃ xs,zo K H1 a xs)/\R (W2 K a) H1)\/∃ a,x=.ref a/\(∃ xs,yZ K H1 a xs)/\R (W3 K a) H1
theorem zQt {l:Expr} {tl:TE} (hl:PE X l tl):PI X tg l (Uu X.K tl):=by
 intro pins s σ H R I h
 refine zm (hl pins s σ H _ I h) λv s1 ⟨x,H1,I1,r1,q1⟩=>?_
 rcases q1 with ⟨a,e,⟨xs,hq⟩,q⟩ | ⟨a,e,⟨xs,hq⟩,q⟩
 ·subst e
  cases r1
  obtain ⟨its,rv,p,hz⟩:=I1.list hq
  refine PySem.wpAny_pyIter_list p.isList ?_
  refine ⟨s1.heap.objs.size,[s1.heap.objs.size],_,_,H1,rfl,I1.kept (t':=s1.toks) λb o e=>Heap.get?_push_of_some _ e,zKQ a _,⟨_,Heap.get?_push_size _ rfl,rfl,rfl⟩,λb hb=>?_,q⟩
  have e:b=s1.heap.objs.size:=by simpa using hb
  subst e
  exact I1.fpOk (Nat.le_refl _) (I1.hok.fresh (Nat.le_refl _))
 ·subst e
  cases r1
  obtain ⟨its,rv,p,hz⟩:=I1.tuple hq
  refine PySem.wpAny_pyIter_tuple (show s1.heap.IsTuple a its.toArray from p) ?_
  refine ⟨s1.heap.objs.size,[s1.heap.objs.size],_,_,H1,rfl,I1.kept (t':=s1.toks) λb o e=>Heap.get?_push_of_some _ e,zJi a _,⟨_,Heap.get?_push_size _ rfl,rfl,rfl⟩,λb hb=>?_,q⟩
  have e:b=s1.heap.objs.size:=by simpa using hb
  subst e
  exact I1.fpOk (Nat.le_refl _) (I1.hok.fresh (Nat.le_refl _))
def Zu:D->(List D->Prop)->Prop
 | .lst ds,R=>R ds
 | .tup ds,R=>R ds
 | _,_=>False
def Zv (pa:zu):yg:=λΓ R=>pa Γ λd=>Zu d R
theorem zOd {K:PySem.W.Frag} {Z:Addr->Prop} {H:Hp} {p:Addr} {xs:List V} {ds:List D} (e:zR Z H p=some (.lst xs)) (h:yO (zR Z H) xs ds):Wk Z (W2 K p) H ds:=λi Z' H' s zd=>by
 have e1:=yJ _ _ (s _ _ e)
 refine ⟨λd hd=>?_,λhi=>⟨xs,zo.of e1,by rw [wK h]; omega⟩⟩
 obtain ⟨x,hx,hh⟩:=Zr h hd
 refine ⟨⟨xs,x,zo.of e1,hx⟩,λy H'' ⟨e2,hy⟩=>?_⟩
 subst e2
 have:=hy xs (zo.of e1)
 rw [hx] at this
 cases this
 exact ⟨Sm.refl _,hh.same s⟩
theorem zQE {K:PySem.W.Frag} {Z:Addr->Prop} {H:Hp} {p:Addr} {xs:List V} {ds:List D} (e:zR Z H p=some (.tup xs)) (h:yO (zR Z H) xs ds):Wk Z (W3 K p) H ds:=λi Z' H' s zd=>by
 have e1:=yJ _ _ (s _ _ e)
 refine ⟨λd hd=>?_,λhi=>⟨xs,yZ.of e1,by rw [wK h]; omega⟩⟩
 obtain ⟨x,hx,hh⟩:=Zr h hd
 refine ⟨⟨xs,x,yZ.of e1,hx⟩,λy H'' ⟨e2,hy⟩=>?_⟩
 subst e2
 have:=hy xs (yZ.of e1)
 rw [hx] at this
 cases this
 exact ⟨Sm.refl _,hh.same s⟩
theorem xR (ha:PE X e (tP pa)):PI X tg e (uz (Zv pa)):=Zs (zQt ha) λσ H Q ⟨Z,Γ,R,E,h,q⟩=>
 ⟨Z,Γ,_,E,h,λd v H1 hd s1 hv=>by
  unfold Zu at hd
  split at hd
  ·obtain ⟨p,xs,rfl,e,hx⟩:=hv.lst_inv
   exact .inl ⟨p,rfl,⟨xs,zo.of (yJ _ _ e)⟩,q _ _ H1 hd s1 (zOd e hx)⟩
  ·obtain ⟨p,xs,rfl,e,hx⟩:=hv.tup_inv
   exact .inr ⟨p,rfl,⟨xs,yZ.of (yJ _ _ e)⟩,q _ _ H1 hd s1 (zQE e hx)⟩
  ·exact hd.elim⟩
def rng (lo:Int) (n:Nat):List D:=(List.range n).map λk:Nat=>D.int (lo + (k:Int))
theorem zIz {Z:Addr->Prop} {H:Hp} {lo:Int} {n:Nat}:Wk Z (kT lo n) H (rng lo n):=λi Z' H' s zd=>by
 refine ⟨λd hd=>?_,λhi=>?_⟩
 ·unfold rng at hd
  rw [List.getElem?_map] at hd
  have hlt:i < n:=by
   apply Classical.byContradiction
   intro c
   rw [List.getElem?_eq_none (by rw [List.length_range]; omega)] at hd
   cases hd
  rw [List.getElem?_range hlt] at hd
  cases hd
  exact ⟨hlt,λx H'' ⟨e1,e2⟩=>by subst e1; subst e2; exact ⟨Sm.refl _,.int _⟩⟩
 ·show n<=i
  rw [hi]
  unfold rng
  rw [List.length_map,List.length_range]
  exact Nat.le_refl _
def rng0 (n:Nat):List D:=(List.range n).map λk:Nat=>D.int (k:Int)
theorem Uv (n:Nat):rng0 n=rng 0 n:=List.map_congr_left λk _=>by rw [Int.zero_add]
theorem vC {n k:Nat} {d:D} (h:(rng0 n)[k]? = some d):k < n/\d=.int (k:Int):=by
 unfold rng0 at h
 rw [List.getElem?_map] at h
 by_cases c:k < n
 ·rw [List.getElem?_range c] at h
  exact ⟨c,(Option.some.inj h).symm⟩
 ·rw [List.getElem?_eq_none (by rw [List.length_range]; omega)] at h
  cases h
theorem vf (n:Nat):(rng0 n).length=n:=by unfold rng0; rw [List.length_map,List.length_range]
def zQg:List D->(List D->Prop)->Prop
 | [.int j],R=>-1000<=j/\j<=1000/\R (rng0 j.toNat)
 | _,_=>False
def zQf:List D->(List D->Prop)->Prop
 | [.int i,.int j],R=>-1000<=i/\i<=1000/\-1000<=j/\j<=1000/\R (rng i (j - i).toNat)
 | _,_=>False
def Uw (f:List D->(List D->Prop)->Prop) (pl:yg):yg:=λΓ R=>pl Γ λds=>f ds R
theorem xF {p:Pos} (hg:Gl X "range") (hm:X.mg "range" = none) (ha:PA X [e] (x8 pl)) (hs:starEach [e] X.env=[(false,eval e X.env)]:=by rfl):PI X tg (.Call (.Name "range" p) [e] [] pos) (uz (Uw zQg pl)):=Zs (zKz hg hm ha hs) λσ H Q ⟨Z,Γ,R,E,h,q⟩=>
 ⟨Z,Γ,_,E,h,λds vs H1 hd s1 hv=>by
  unfold zQg at hd
  split at hd
  ·obtain ⟨h1,h2,hd⟩:=hd
   obtain ⟨v,rfl,hw⟩:=yy hv
   cases hw
   rw [Uv] at hd
   exact ⟨_,rfl,by omega,by omega,q _ _ H1 hd s1 zIz⟩
  ·exact hd.elim⟩
theorem zJs {p:Pos} (hg:Gl X "range") (hm:X.mg "range" = none) (ha:PA X [e1,e2] (x8 pl)) (hs:starEach [e1,e2] X.env=[(false,eval e1 X.env),(false,eval e2 X.env)]:=by rfl) (hs2:starEach [e2] X.env=[(false,eval e2 X.env)]:=by rfl) :
  PI X tg (.Call (.Name "range" p) [e1,e2] [] pos) (uz (Uw zQf pl)):=Zs (zKy hg hm ha hs hs2) λσ H Q ⟨Z,Γ,R,E,h,q⟩=>
 ⟨Z,Γ,_,E,h,λds vs H1 hd s1 hv=>by
  unfold zQf at hd
  split at hd
  ·obtain ⟨h1,h2,h3,h4,hd⟩:=hd
   obtain ⟨v,w,rfl,hx,hy⟩:=jK hv
   cases hx; cases hy
   exact ⟨_,_,rfl,⟨by omega,by omega,by omega,by omega⟩,q _ _ H1 hd s1 zIz⟩
  ·exact hd.elim⟩
abbrev yt (x y:D):D:=.tup [x,y]
theorem X2 {α β γ:Type} (f:α->β->γ):∀ {xs:List α} {ys:List β} {i:Nat} {z:γ},(List.zipWith f xs ys)[i]? = some z->∃ x y,xs[i]? = some x/\ys[i]? = some y/\z=f x y
 | [],_,_,_,h=>by simp at h
 | _ :: _,[],_,_,h=>by simp at h
 | x :: _,y :: _,0,_,h=>by simp at h; exact ⟨x,y,rfl,rfl,h.symm⟩
 | _ :: xs,_ :: ys,i + 1,z,h=>by
  obtain ⟨x,y,h1,h2,h3⟩:=X2 f (xs:=xs) (ys:=ys) (i:=i) (z:=z) (by simpa using h)
  exact ⟨x,y,by simpa using h1,by simpa using h2,h3⟩
theorem zQD {S1 S2:Hp->Addr->List V->Prop} {Z:Addr->Prop} {H:Hp} {p r:Addr} {xs ys:List V} {ds es:List D} (h1:∀ Z' H',zP (zR Z H) (zR Z' H')->S1 H' p xs) (h2:∀ Z' H',zP (zR Z H) (zR Z' H')->S2 H' r ys) (hx:yO (zR Z H) xs ds) (hy:yO (zR Z H) ys es) :
  Wk Z ⟨λi H=>∃ xs ys x y,S1 H p xs/\S2 H r ys/\xs[i]? = some x/\ys[i]? = some y,λi H v H'=>∃ T x y,v=.ref T/\H T=none/\H'=zb H T (.tup [x,y])/\(∀ xs,S1 H p xs->xs[i]? = some x)/\∀ ys,S2 H r ys->ys[i]? = some y,
   λi H=>∃ xs ys,S1 H p xs/\S2 H r ys/\i<=xs.length/\i<=ys.length/\(i=xs.length\/i=ys.length)⟩ H (List.zipWith yt ds es):=λi Z' H' s zd=>by
 have a1:=h1 Z' H' s
 have a2:=h2 Z' H' s
 have l1:=wK hx
 have l2:=wK hy
 refine ⟨λd hd=>?_,λhi=>?_⟩
 ·obtain ⟨a,b,ha,hb,rfl⟩:=X2 _ hd
  obtain ⟨x,gx,kx⟩:=Zr hx ha
  obtain ⟨y,gy,ky⟩:=Zr hy hb
  refine ⟨⟨xs,ys,x,y,a1,a2,gx,gy⟩,λv H'' ⟨T,x',y',ev,hT,eH,q1,q2⟩=>?_⟩
  have:=q1 xs a1
  rw [gx] at this
  cases this
  have:=q2 ys a2
  rw [gy] at this
  cases this
  subst ev
  subst eH
  exact ⟨wC hT _,Xw zd hT (.cons (kx.same s) (.cons (ky.same s) .nil))⟩
 ·rw [List.length_zipWith] at hi
  exact ⟨xs,ys,a1,a2,by omega,by omega,by omega⟩
def uc:List D->(List D->Prop)->Prop
 | [.lst ds,.lst es],R=>R (List.zipWith yt ds es)
 | [.lst ds,.tup es],R=>R (List.zipWith yt ds es)
 | [.tup ds,.lst es],R=>R (List.zipWith yt ds es)
 | [.tup ds,.tup es],R=>R (List.zipWith yt ds es)
 | _,_=>False
def kd (t:Bool) (ds:List D):D:=match t with
 | true=>.tup ds
 | false=>.lst ds
theorem zOJ {K:PySem.W.Frag} {Z:Addr->Prop} {H:Hp} {v:V} {ds:List D}:∀ {t:Bool},DV (zR Z H) v (kd t ds)->∃ a xs,v=.ref a/\(∀ Z' H',zP (zR Z H) (zR Z' H')->vd t K H' a xs)/\yO (zR Z H) xs ds
 | true,h=>let ⟨a,xs,e,ea,ha⟩:=h.tup_inv; ⟨a,xs,e,λ_ _ s=>yZ.of (yJ _ _ (s _ _ ea)),ha⟩
 | false,h=>let ⟨a,xs,e,ea,ha⟩:=h.lst_inv; ⟨a,xs,e,λ_ _ s=>zo.of (yJ _ _ (s _ _ ea)),ha⟩
theorem ud {ts:List Expr} {kk:Nat} {tp p:Pos} (hg:Gl X "zip") (hm:X.mg "zip" = none) (ha:PA X [e1,e2] (x8 pl)) (hs:starEach [e1,e2] X.env=[(false,eval e1 X.env),(false,eval e2 X.env)]:=by rfl) (hs2:starEach [e2] X.env=[(false,eval e2 X.env)]:=by rfl) :
  PI X (.Tuple ts kk tp) (.Call (.Name "zip" p) [e1,e2] [] pos) (uz (Uw uc pl)):=Zs (zO8 hg hm ha hs hs2) λσ H Q ⟨Z,Γ,R,E,h,q⟩=>
 ⟨Z,Γ,_,E,h,λds vs H1 hd s1 hv=>by
  have main:∀ (t u:Bool) (es fs:List D),yO (zR Z H1) vs [kd t es,kd u fs]->R (List.zipWith yt es fs)->∃ a b t u,vs=[.ref a,.ref b]/\(∃ xs,vd t X.K H1 a xs)/\(∃ ys,vd u X.K H1 b ys)/\Q (Uc t u X.K a b) H1:=λt u es fs hv hd=>by
   obtain ⟨v,w,rfl,hx,hy⟩:=jK hv
   obtain ⟨a,xs,rfl,ea,ha⟩:=zOJ (K:=X.K) hx
   obtain ⟨b,ys,rfl,eb,hb⟩:=zOJ (K:=X.K) hy
   exact ⟨a,b,t,u,rfl,⟨xs,ea Z H1 (zP.refl _)⟩,⟨ys,eb Z H1 (zP.refl _)⟩,q _ _ H1 hd s1 (zQD ea eb ha hb)⟩
  unfold uc at hd
  split at hd
  ·exact main false false _ _ hv hd
  ·exact main false true _ _ hv hd
  ·exact main true false _ _ hv hd
  ·exact main true true _ _ hv hd
  ·exact hd.elim⟩
end
end Pu
namespace Pu
open PySem L2 Sh
variable [yU]
def un:Sl->Sl
 | .sh d=>.sh d
 | _=>.no
theorem zI5:∀ (Γ:List Sl) (i:Nat),slot Γ i=(Γ[i]?).getD .no
 | [],_=>rfl
 | _ :: _,0=>rfl
 | _ :: t,i + 1=>(zI5 t i).trans (by rw [List.getElem?_cons_succ])
theorem Zw {s:Sl} {d:D} (h:un s=.sh d):s=.sh d:=by cases s <;> first | exact h | cases h
theorem Zx {s:Sl} {ds:List D} (h:un s=.ow ds):False:=by cases s <;> cases h
theorem Zy {s:Sl} {o c:Addr} {ns:List Str} {ds:List D} (h:un s=.ob o c ns ds):False:=by cases s <;> cases h
theorem X3 {os:List D} {l:List Sl} (hl:∀ i o c ns ds,slot l i≠.ob o c ns ds):∀ i o c ns ds,slot (os.map Sl.sh++l) i≠.ob o c ns ds:=λi o c ns ds h=>by
 induction os generalizing i with
 | nil=>exact hl i o c ns ds h
 | cons d t ih=>
  cases i with
  | zero=>cases h
  | succ i=>exact ih i h
theorem X4 {os:List D} {l:List Sl} (hl:∀ i ds,slot l i≠.ow ds):∀ i ds,slot (os.map Sl.sh++l) i≠.ow ds:=λi ds h=>by
 induction os generalizing i with
 | nil=>exact hl i ds h
 | cons d t ih=>
  cases i with
  | zero=>cases h
  | succ i=>exact ih i h
theorem X5 (Γ:List Sl):∀ (js:List Nat) (i:Nat),slot (js.map λj=>un (slot Γ j)) i=match js[i]? with | some j=>un (slot Γ j) | none=>.no
 | [],_=>rfl
 | _ :: _,0=>rfl
 | _ :: js,i + 1=>by
  rw [List.getElem?_cons_succ]
  exact X5 Γ js i
theorem zL3 {Z:Addr->Prop} {Γ:List Sl} {σ:St} {H:Hp} (E:yS Z Γ σ H) {js:List Nat} {vs:List V} {os:List D} (h:yO (zR Z H) vs os):yS Z (os.map Sl.sh++js.map λj=>un (slot Γ j)) (vs.map some++js.map λj=>(σ[j]?).getD none) H:=by
 have no:∀ i ds,slot (os.map Sl.sh++js.map λj=>un (slot Γ j)) i≠.ow ds:=X4 λi ds h=>by
  rw [X5] at h
  split at h
  ·exact Zx h
  ·cases h
 have nob:∀ i o c ns ds,slot (os.map Sl.sh++js.map λj=>un (slot Γ j)) i≠.ob o c ns ds:=X3 λi o c ns ds h=>by
  rw [X5] at h
  split at h
  ·exact Zy h
  ·cases h
 refine ⟨?_,λi ds e=>absurd e (no i ds),λi o c ns ds e=>absurd e (nob i o c ns ds),λi _ ds _ _ e=>absurd e (no i ds),E.zd,?_⟩
 clear nob
 ·induction h with
  | nil=>
   intro i d e
   change slot (js.map λj=>un (slot Γ j)) i=_ at e
   show ∃ v,(js.map λj=>(σ[j]?).getD none)[i]? = some (some v)/\_
   rw [X5] at e
   rw [List.getElem?_map]
   cases k:js[i]? with
   | none=>rw [k] at e; cases e
   | some j=>
    rw [k] at e
    obtain ⟨v,h1,h2⟩:=E.sh j d (Zw e)
    exact ⟨v,by show some ((σ[j]?).getD none)=_; rw [h1]; rfl,h2⟩
  | @cons v d vs ds hv _ ih=>
   intro i e q
   cases i with
   | zero=>cases q; exact ⟨v,rfl,hv⟩
   | succ i=>
    obtain ⟨u,h1,h2⟩:=ih (λi=>no (i + 1)) i e q
    exact ⟨u,by rw [List.map_cons,List.cons_append,List.getElem?_cons_succ]; exact h1,h2⟩
 ·rw [List.length_append,List.length_append,List.length_map,List.length_map,List.length_map,List.length_map,wK h]
theorem zI6 (c:St):∀ (pre o:St) (vs:List V),o.length=vs.length->setN (pre++(o++c)) (List.range' pre.length o.length) vs=pre++(vs.map some++c)
 | _,[],[],_=>rfl
 | _,[],_ :: _,h=>nomatch h
 | _,_ :: _,[],h=>nomatch h
 | pre,x :: o,v :: vs,h=>by
  rw [List.length_cons,List.range'_succ]
  show setN ((pre++((x :: o)++c)).set pre.length (some v)) (List.range' (pre.length + 1) o.length) vs=_
  rw [List.set_append_right _ _ (Nat.le_refl _),Nat.sub_self]
  have:=zI6 c (pre++[some v]) o vs (Nat.succ.inj h)
  rw [List.length_append,List.append_assoc] at this
  rw [List.append_assoc] at this
  exact this
inductive zq (ds:List D) (G:D->(D->Prop)->Prop) (R:D->Prop):Prop
 | mk (few:ds.length<=1000) (F:D->D->Prop) (h:∀ d,d∈ds->G d (F d)) (q:∀ es,Paired F ds es->R (.lst es)):zq ds G R
def Zz (caps:List Nat) (pi:yg) (po:D->Option (List D)) (pe:zu):zu:=λΓ R=>pi Γ λds=>zq ds (λd S=>ux (po d) λos=>pe (os.map Sl.sh++caps.map λj=>un (slot Γ j)) S) R
theorem zJX {Z:Addr->Prop} {Γ:List Sl} {σ:St} {H:Hp} {own:List Str} {caps:List (Nat × Str)} {J:It} {ds:List D} {js:List Nat} {po:D->Option (List D)} {pt:wY} {pe:zu} {Q:VK} {f:D->Bool} {F:D->D->Prop} {Zt:Addr->Prop} {Γt:List Sl} (E:yS Z Γ σ H) (Et:yS Zt Γt σ H) (sub:∀ b,Zt b->Z b) (wk:Wk Z J H ds) (hj:js=List.range' 0 own.length) (hk:∀ d os,po d=some os->os.length=js.length) (few:ds.length<=1000)
  (hT:∀ d,d∈ds->ux (po d) λos=>pt (os.map Sl.sh++(caps.map (·.1)).map λj=>un (slot Γt j)) λb=>b=f d)
  (hF:∀ d,d∈ds->f d=true->ux (po d) λos=>pe (os.map Sl.sh++(caps.map (·.1)).map λj=>un (slot Γ j)) (F d))
  (q:∀ es ys H' p,Paired F (ds.filter f) es->Sm H H'->yO (zR Z H') ys es->H' p=none->Q (.ref p) (zb H' p (.lst ys))):UP J (tG js po) (xW pt) (tP pe) Q (vm own caps σ) H:=by
 have hc:vm own caps σ=own.map (λ_=>none)++(caps.map (·.1)).map λj=>(σ[j]?).getD none:=by
  unfold vm
  rw [List.map_map]
  rfl
 refine ⟨λi m ys σ1 H1=>m + i=ds.length/\Sm H H1/\(∃ es,Paired F ((ds.take i).filter f) es/\yO (zR Z H1) ys es)/\∃ o:St,o.length=own.length/\σ1=o++(caps.map (·.1)).map λj=>(σ[j]?).getD none,⟨ds.length,rfl,Sm.refl _,⟨[],.nil,.nil⟩,_,List.length_map ..,hc⟩,?_⟩
 rintro i m ys σ1 H1 ⟨hm,s1,⟨es,he,hy⟩,o,lo,rfl⟩
 obtain ⟨w1,w2⟩:=wk i Z H1 (yr s1) (E.zd.same s1)
 have le:es.length<=i:=by
  have h1:=Paired.length he
  have h2:=List.length_filter_le f (ds.take i)
  rw [List.length_take] at h2
  omega
 by_cases hi:i < ds.length
 ·have tk:(ds.take (i + 1)).filter f=(ds.take i).filter f++(if f ds[i]=true then [ds[i]] else []):=by
   rw [List.take_succ_eq_append_getElem hi,List.filter_append,List.filter_cons,List.filter_nil]
  refine .inr ⟨(w1 _ (List.getElem?_eq_getElem hi)).1,by rw [wK hy]; exact UI (by omega),λy σ' H'=>m - 1 + (i + 1)=ds.length/\Sm H H'/\(∃ es,Paired F ((ds.take (i + 1)).filter f) es/\yO (zR Z H') (ys++[y]) es)/\∃ o:St,o.length=own.length/\σ'=o++(caps.map (·.1)).map λj=>(σ[j]?).getD none,λσ' H'=>m - 1 + (i + 1)=ds.length/\Sm H H'/\(∃ es,Paired F ((ds.take (i + 1)).filter f) es/\yO (zR Z H') ys es)/\∃ o:St,o.length=own.length/\σ'=o++(caps.map (·.1)).map λj=>(σ[j]?).getD none,λy σ' H' k=>⟨m - 1,by omega,k⟩,λσ' H' k=>⟨m - 1,by omega,k⟩,λx H' yl=>?_⟩
  obtain ⟨s2,dv⟩:=(w1 _ (List.getElem?_eq_getElem hi)).2 x H' yl
  obtain ⟨os,ho,ht⟩:=Zq (hT _ (List.getElem_mem hi))
  have lo2:=hk _ _ ho
  refine ⟨Z,_,os,dv,ho,λvs hvs=>?_⟩
  have lv:=wK hvs
  have e1:setN (o++(caps.map (·.1)).map λj=>(σ[j]?).getD none) js vs=vs.map some++(caps.map (·.1)).map λj=>(σ[j]?).getD none:=by
   rw [hj,<- lo]
   exact zI6 _ [] o vs (by rw [lv,lo2,hj,List.length_range']; exact lo)
  rw [e1]
  have lw:(vs.map some).length=own.length:=by rw [List.length_map,lv,lo2,hj,List.length_range']
  refine ⟨Zt,_,_,zL3 (Et.same (s1.trans s2)) (xh (Xu sub) hvs),ht,λb H3 hb s3=>?_⟩
  subst hb
  by_cases c:f ds[i]=true
  ·rw [if_pos c]
   obtain ⟨os',ho',hp⟩:=Zq (hF _ (List.getElem_mem hi) c)
   cases ho.symm.trans ho'
   refine ⟨Z,_,_,zL3 (E.same (s1.trans (s2.trans s3))) (xh (yr s3) hvs),hp,λd v H4 hd s4 hv=>⟨by omega,s1.trans (s2.trans (s3.trans s4)),⟨es++[d],?_,ZE hv (xh (yr (s2.trans (s3.trans s4))) hy)⟩,_,lw,rfl⟩⟩
   rw [tk,if_pos c]
   exact ZE hd he
  ·rw [if_neg c]
   refine ⟨by omega,s1.trans (s2.trans s3),⟨es,?_,xh (yr (s2.trans s3)) hy⟩,_,lw,rfl⟩
   rw [tk,if_neg c,List.append_nil]
   exact he
 ·have ei:i=ds.length:=by omega
  refine .inl ⟨w2 ei,λp hp=>q es ys H1 p ?_ s1 hy hp⟩
  rw [List.take_of_length_le (by omega)] at he
  exact he
def pT1:wY:=λ_ R=>R true
theorem zQ4 {X:Cx}:ZS X [] (xW pT1):=λσ H Q ⟨_,_,_,_,h,q⟩=>q true H h (Sm.refl _)
theorem Z3 {ds:List D}:ds.filter (λ_=>true)=ds:=List.filter_eq_self.mpr λ_ _=>rfl
theorem zJY {Z:Addr->Prop} {Γ:List Sl} {σ:St} {H:Hp} {own:List Str} {caps:List (Nat × Str)} {J:It} {ds:List D} {js:List Nat} {po:D->Option (List D)} {pe:zu} {Q:VK} {F:D->D->Prop} (E:yS Z Γ σ H) (wk:Wk Z J H ds) (hj:js=List.range' 0 own.length) (hk:∀ d os,po d=some os->os.length=js.length) (few:ds.length<=1000)
  (hF:∀ d,d∈ds->ux (po d) λos=>pe (os.map Sl.sh++(caps.map (·.1)).map λj=>un (slot Γ j)) (F d))
  (q:∀ es ys H' p,Paired F ds es->Sm H H'->yO (zR Z H') ys es->H' p=none->Q (.ref p) (zb H' p (.lst ys))):UP J (tG js po) (xW pT1) (tP pe) Q (vm own caps σ) H:=
 zJX (f:=λ_=>true) E E (λ_ z=>z) wk hj hk few (λd m=>by
  obtain ⟨os,ho,_⟩:=Zq (hF d m)
  rw [ho]
  exact rfl) (λd m _=>hF d m) λes ys H' p h=>q es ys H' p (by rw [Z3] at h; exact h)
section
variable {X:Cx} {scope:Scope} {own:List Str} {caps:List (Nat × Str)} {tg iter elt:Expr} {pos:Pos} {pi:yg} {po:D->Option (List D)} {pe:zu} {js:List Nat}
theorem yh (B:vo X scope own caps) (hc:X.calm=true) (hj:js=List.range' 0 own.length) (hk:∀ d os,po d=some os->os.length=js.length) (hi:PI X tg iter (uz pi)) (hg:∀ C s₀ H₀ ex,PG (y8 X scope (zn own caps) C s₀ H₀ ex) tg (tG js po))
  (he:∀ C s₀ H₀ ex,PE (y8 X scope (zn own caps) C s₀ H₀ ex) elt (tP pe)) (hs:∀ x,foldedSetIterable iter X.env x=pure x:=by intro _; rfl):PE X (.ListComp elt [⟨tg,iter,[],0⟩] scope pos) (tP (Zz (caps.map (·.1)) pi po pe)):=
 yT (zMz B hc hi hg (.inl rfl) (λ_ _ _ _=>zQ4) he hs) λσ H Q ⟨Z,Γ,R,E,h,q⟩=>⟨Z,Γ,_,E,h,λds J H1 ⟨fw,F,hF,hR⟩ s1 wk=>zJY (E.same s1) wk hj hk fw hF λes ys H' p h1 s2 h2 hp=>q _ _ _ (hR es h1) (s1.trans (s2.trans (wC hp _))) (uZ ((E.same s1).zd.same s2) hp h2)⟩
end
theorem zq.map {ds:List D} {G:D->(D->Prop)->Prop} {R:D->Prop} (f:D->D) (few:ds.length<=1000) (h:∀ d,d∈ds->G d λe=>e=f d) (q:R (.lst (ds.map f))):zq ds G R:=⟨few,λd e=>e=f d,h,λes p=>by
 have:∀ {ds es:List D},Paired (λd e=>e=f d) ds es->es=ds.map f:=λ{ds es} p=>by
  induction p with
  | nil=>rfl
  | cons h _ ih=>rw [h,ih]; rfl
 rw [this p]
 exact q⟩
theorem zq.all {ds:List D} {G:D->(D->Prop)->Prop} {R:D->Prop} (P:D->Prop) (few:ds.length<=1000) (h:∀ d,d∈ds->G d P) (q:∀ es,es.length=ds.length->(∀ e∈es,P e)->R (.lst es)):zq ds G R:=⟨few,λ_=>P,h,λes p=>q es (Paired.length p).symm (by
 clear h few q
 induction p with
 | nil=>exact λ_ h=>nomatch h
 | cons h _ ih=>exact λe m=>(List.mem_cons.mp m).elim (λz=>z ▸ h) (ih e))⟩
def yK:D->Int
 | .int i=>i
 | _=>0
theorem zq.int {ns:List Int} {G:D->(D->Prop)->Prop} {R:D->Prop} (g:Int->Int) (few:ns.length<=1000) (h:∀ n,n∈ns->G (.int n) λe=>e=.int (g n)) (q:R (.lst ((ns.map g).map D.int))):zq (ns.map D.int) G R:=
 zq.map (λd=>.int (g (yK d))) (by rw [List.length_map]; exact few) (λd m=>by
  obtain ⟨n,hn,rfl⟩:=List.mem_map.mp m
  exact h n hn) (by rw [List.map_map] at q |-; exact q)
theorem zq.bool {ds:List D} {G:D->(D->Prop)->Prop} {R:D->Prop} (g:D->Bool) (few:ds.length<=1000) (h:∀ d,d∈ds->G d λe=>e=.bool (g d)) (q:R (.lst ((ds.map g).map D.bool))):zq ds G R:=
 zq.map (λd=>.bool (g d)) few h (by rw [List.map_map] at q; exact q)
theorem zq.rng {lo:Int} {n:Nat} {G:D->(D->Prop)->Prop} {R:D->Prop} (g:Nat->D) (few:n<=1000) (h:∀ k,k < n->G (.int (lo + (k:Int))) λe=>e=g k) (q:R (.lst ((List.range n).map g))):zq (Pu.rng lo n) G R:=
 zq.map (λd=>g (yK d - lo).toNat) (by unfold Pu.rng; rw [List.length_map,List.length_range]; exact few) (λd m=>by
  obtain ⟨k,hk,rfl⟩:=List.mem_map.mp m
  rw [show (yK (.int (lo + (k:Int))) - lo).toNat=k by show (lo + (k:Int) - lo).toNat=k; omega]
  exact h k (List.mem_range.mp hk)) (by
  have e:(Pu.rng lo n).map (λd=>g (yK d - lo).toNat)=(List.range n).map g:=by
   unfold Pu.rng
   rw [List.map_map]
   refine List.map_congr_left λk _=>?_
   show g (lo + (k:Int) - lo).toNat=g k
   rw [show (lo + (k:Int) - lo).toNat=k by omega]
  rw [e]
  exact q)
theorem zq.rngP {lo:Int} {n:Nat} {G:D->(D->Prop)->Prop} {R:D->Prop} (P:D->Prop) (few:n<=1000) (h:∀ k,k < n->G (.int (lo + (k:Int))) P) (q:∀ es,es.length=n->(∀ e∈es,P e)->R (.lst es)):zq (Pu.rng lo n) G R:=
 zq.all P (by unfold Pu.rng; rw [List.length_map,List.length_range]; exact few) (λd m=>by
  obtain ⟨k,hk,rfl⟩:=List.mem_map.mp m
  exact h k (List.mem_range.mp hk)) (λes l=>q es (by rw [l]; unfold Pu.rng; rw [List.length_map,List.length_range]))
theorem zq.rng0 {n:Nat} {G:D->(D->Prop)->Prop} {R:D->Prop} (g:Nat->D) (few:n<=1000) (h:∀ k,k < n->G (.int (k:Int)) λe=>e=g k) (q:R (.lst ((List.range n).map g))):zq (Pu.rng0 n) G R:=by
 rw [Uv]
 exact zq.rng g few (λk hk=>by rw [Int.zero_add]; exact h k hk) q
theorem zq.rng0P {n:Nat} {G:D->(D->Prop)->Prop} {R:D->Prop} (P:D->Prop) (few:n<=1000) (h:∀ k,k < n->G (.int (k:Int)) P) (q:∀ es,es.length=n->(∀ e∈es,P e)->R (.lst es)):zq (Pu.rng0 n) G R:=by
 rw [Uv]
 exact zq.rngP P few (λk hk=>by rw [Int.zero_add]; exact h k hk) q
def ue (P:Int->Prop) (d:D):Prop:=∃ i,d=.int i/\P i
theorem Ux {P:Int->Prop}:∀ {es:List D},(∀ e∈es,ue P e)->∃ ns:List Int,es=ns.map D.int/\∀ x∈ns,P x
 | [],_=>⟨[],rfl,λ_ h=>nomatch h⟩
 | e :: es,h=>by
  obtain ⟨ns,rfl,k⟩:=Ux (es:=es) λx m=>h x (List.mem_cons_of_mem _ m)
  obtain ⟨i,rfl,p⟩:=h e List.mem_cons_self
  exact ⟨i :: ns,rfl,λx m=>(List.mem_cons.mp m).elim (λz=>z ▸ p) (k x)⟩
theorem zq.nums {n:Nat} {G:D->(D->Prop)->Prop} {R:D->Prop} (P:Int->Prop) (few:n<=1000) (h:∀ k,k < n->G (.int (k:Int)) (ue P)) (q:∀ ns:List Int,ns.length=n->(∀ x∈ns,P x)->R (.lst (ns.map D.int))):zq (Pu.rng0 n) G R:=
 zq.rng0P (ue P) few h λes l k=>by
  obtain ⟨ns,rfl,p⟩:=Ux k
  exact q ns (by rw [<- l,List.length_map]) p
theorem yX {i:Nat}:∀ d os,Ur d=some os->os.length=[i].length:=λd os h=>by cases h; rfl
theorem jN:∀ ds os,zQs ds=some os->os.length=([]:List Nat).length:=λds os h=>by cases ds with | nil=>cases h; rfl | cons=>cases h
theorem wq {i:Nat} {js:List Nat} {po:List D->Option (List D)} (h:∀ ds os,po ds=some os->os.length=js.length):∀ ds os,Ut po ds=some os->os.length=(i :: js).length:=λds os q=>by
 cases ds with
 | nil=>cases q
 | cons d dt=>
  change (po dt).map (d :: ·)=some os at q
  cases e:po dt with
  | none=>rw [e] at q; cases q
  | some os'=>rw [e] at q; cases q; rw [List.length_cons,List.length_cons,h dt os' e]
structure yY (Z0:Addr->Prop) (H0:Hp) (Z:Addr->Prop) (Γ:List Sl) (σ:St) (H:Hp):Prop where
 e:yS Z Γ σ H
 z0:∀ b,Z0 b->Z b
 z0d:ZL Z0 H0
 same:Sm H0 H
 own:∀ i ds l,slot Γ i=.ow ds->σ[i]? = some (some (.ref l))->H0 l=none
 owb:∀ i o c ns ds,slot Γ i=.ob o c ns ds->H0 o=none
structure Uy where
 nx:List Sl->Prop
 rt:D->Prop
 bk:List Sl->Prop:=λ_=>False
 ct:List Sl->Prop:=λ_=>False
abbrev xG:=Uy->List Sl->Prop
inductive yV (p:xG) (D0:yu) (σ:St) (H:Hp):Prop
 | mk (Z0:Addr->Prop) (H0:Hp) (Z:Addr->Prop) (Γ:List Sl) (Dp:Uy) (E:yY Z0 H0 Z Γ σ H) (h:p Dp Γ) (nx:∀ Z' Γ' σ' H',yY Z0 H0 Z' Γ' σ' H'->zP (zR Z H) (zR Z' H')->Dp.nx Γ'->D0.nx σ' H')
  (rt:∀ d v H',Sm H0 H'->DV (zR Z0 H') v d->Dp.rt d->D0.rt v H') (bk:∀ Z' Γ' σ' H',yY Z0 H0 Z' Γ' σ' H'->zP (zR Z H) (zR Z' H')->Dp.bk Γ'->D0.bk σ' H') (ct:∀ Z' Γ' σ' H',yY Z0 H0 Z' Γ' σ' H'->zP (zR Z H) (zR Z' H')->Dp.ct Γ'->D0.ct σ' H'):yV p D0 σ H
theorem yY.mv {Z0:Addr->Prop} {H0:Hp} {Z:Addr->Prop} {Γ:List Sl} {σ:St} {H H':Hp} (E:yY Z0 H0 Z Γ σ H) (s:Sm H H'):yY Z0 H0 Z Γ σ H':=⟨E.e.same s,E.z0,E.z0d,E.same.trans s,E.own,E.owb⟩
theorem yY.set {Z0:Addr->Prop} {H0:Hp} {Z:Addr->Prop} {Γ:List Sl} {σ:St} {H:Hp} (E:yY Z0 H0 Z Γ σ H) {v:V} {d:D} (h:DV (zR Z H) v d) (i:Nat):yY Z0 H0 Z (zt Γ i (.sh d)) (σ.set i (some v)) H:=
 ⟨E.e.set h i,E.z0,E.z0d,E.same,λj ds l q r=>by
  rw [xm] at q
  by_cases c:j=i/\i < Γ.length
  ·rw [if_pos c] at q; cases q
  ·rw [if_neg c] at q
   have hj:=uE (Γ:=Γ) (i:=j) (by rw [q]; exact λz=>nomatch z)
   rw [List.getElem?_set_ne (λz=>c ⟨z.symm,by omega⟩)] at r
   exact E.own j ds l q r,λj o0 c0 ns ds q=>by
  rw [xm] at q
  by_cases c:j=i/\i < Γ.length
  ·rw [if_pos c] at q; cases q
  ·rw [if_neg c] at q
   exact E.owb j o0 c0 ns ds q⟩
theorem yY.setN {Z0:Addr->Prop} {H0:Hp} {Z:Addr->Prop} {H:Hp}:∀ {js:List Nat} {vs:List V} {os:List D} {Γ:List Sl} {σ:St},yY Z0 H0 Z Γ σ H->yO (zR Z H) vs os->yY Z0 H0 Z (X0 Γ js os) (Pu.setN σ js vs) H
 | [],_,_,_,_,E,_=>E
 | _ :: _,_,_,_,_,E,.nil=>E
 | _ :: js,_,_,_,_,E,.cons h t=>yY.setN (js:=js) (E.set h _) t
theorem Z4 {Z:Addr->Prop} {H:Hp} {l:Addr} {o:HO} (h:Z l):zP (zR Z H) (zR Z (zb H l o)):=λb u e=>by
 obtain ⟨h1,h2⟩:=jy e
 have nb:b≠l:=λz=>h1 (by rw [z]; exact h)
 exact uD h1 ((zv nb).trans h2) (qX e)
theorem yY.put {Z0:Addr->Prop} {H0:Hp} {Z:Addr->Prop} {Γ:List Sl} {σ:St} {H:Hp} (E:yY Z0 H0 Z Γ σ H) {i:Nat} {ds ds':List D} {l:Addr} {xs:List V} (hs:slot Γ i=.ow ds) (hl:σ[i]? = some (some (.ref l))) (hz:Z l) (hx:yO (zR Z H) xs ds'):yY Z0 H0 Z (zt Γ i (.ow ds')) σ (zb H l (.lst xs)):=by
 obtain ⟨l0,xs0,hl0,_,el,_⟩:=E.e.ow i ds hs
 have el0:l0=l:=by rw [hl] at hl0; cases hl0; rfl
 rw [el0] at el
 have keyb:∀ j o c ns d,slot (zt Γ i (.ow ds')) j=.ob o c ns d->slot Γ j=.ob o c ns d:=λj o0 c0 ns d q=>by
  rw [xm] at q
  by_cases c:j=i/\i < Γ.length
  ·rw [if_pos c] at q; cases q
  ·rw [if_neg c] at q; exact q
 have li:=uE (Γ:=Γ) (i:=i) (by rw [hs]; exact λz=>nomatch z)
 have hp:zP (zR Z H) (zR Z (zb H l (.lst xs))):=Z4 hz
 have key:∀ j ds'',slot (zt Γ i (.ow ds')) j=.ow ds''->∃ q,slot Γ j=.ow q:=λj d q=>by
  rw [xm] at q
  by_cases c:j=i/\i < Γ.length
  ·rw [c.1]; exact ⟨ds,hs⟩
  ·rw [if_neg c] at q; exact ⟨d,q⟩
 refine ⟨⟨λj d q=>?_,λj d q=>?_,λj o c ns d q=>?_,λj k as bs m q r=>?_,⟨λb hb=>?_,yU.put E.e.zd.i el⟩,by rw [qY]; exact E.e.len⟩,E.z0,E.z0d,?_,λj d m q=>?_,λj o c ns d q=>E.owb j o c ns d (keyb j o c ns d q)⟩
 ·rw [xm] at q
  by_cases c:j=i/\i < Γ.length
  ·rw [if_pos c] at q; cases q
  ·rw [if_neg c] at q
   obtain ⟨v,h1,h2⟩:=E.e.sh j d q
   exact ⟨v,h1,h2.same hp⟩
 ·rw [xm] at q
  by_cases c:j=i/\i < Γ.length
  ·rw [if_pos c] at q
   cases q
   rw [c.1]
   exact ⟨l,xs,hl,hz,xb,xh hp hx⟩
  ·rw [if_neg c] at q
   obtain ⟨m,ys,h1,h2,h3,h4⟩:=E.e.ow j d q
   have nm:m≠l:=λz=>c ⟨E.e.ne j i d ds l q hs (by rw [h1,z]) hl,li⟩
   exact ⟨m,ys,h1,h2,by rw [zv nm]; exact h3,xh hp h4⟩
 ·obtain ⟨dx,ys,h1,h2,h3,h5,h4⟩:=E.e.ob j o c ns d (keyb j o c ns d q)
  have nm:o≠l:=λz=>by rw [z,el] at h3; cases h3
  exact ⟨dx,ys,h1,h2,by rw [zv nm]; exact h3,h5,xh hp h4⟩
 ·obtain ⟨q1,hq⟩:=key j as q
  obtain ⟨r1,hr⟩:=key k bs r
  exact E.e.ne j k q1 r1 m hq hr
 ·obtain ⟨u,e,n⟩:=E.e.zd.z b hb
  by_cases c:b=l
  ·rw [c]; exact ⟨_,xb,λ_ z=>nomatch z⟩
  ·exact ⟨u,by rw [zv c]; exact e,n⟩
 ·exact E.same.put (E.own i ds l hs hl) el
 ·obtain ⟨q1,hq⟩:=key j d q
  exact E.own j q1 m hq
theorem yY.make {Z0:Addr->Prop} {H0:Hp} {Z:Addr->Prop} {Γ:List Sl} {σ:St} {H:Hp} (E:yY Z0 H0 Z Γ σ H) {p:Addr} {xs:List V} {ds:List D} (hp:H p=none) (hx:yO (zR Z H) xs ds) (i:Nat) :
  yY Z0 H0 (λb=>Z b\/b=p) (zt Γ i (.ow ds)) (σ.set i (some (.ref p))) (zb H p (.lst xs))/\zP (zR Z H) (zR (λb=>Z b\/b=p) (zb H p (.lst xs))):=by
 have s:zP (zR Z H) (zR (λb=>Z b\/b=p) (zb H p (.lst xs))):=λb o e=>by
  obtain ⟨h1,h2⟩:=jy e
  have nb:=wV h2 hp
  exact uD (λz=>z.elim h1 nb) ((zv nb).trans h2) (qX e)
 have old:∀ j d,slot Γ j=.ow d->∀ m,σ[j]? = some (some (.ref m))->m≠p:=λj d q m h z=>by
  obtain ⟨l,ys,h1,h2,h3,_⟩:=E.e.ow j d q
  rw [h] at h1
  cases h1
  rw [z,hp] at h3
  cases h3
 have get:∀ j,¬ (j=i/\i < Γ.length)->slot Γ j≠.no->(σ.set i (some (V.ref p)))[j]? = σ[j]?:=λj c q=>by
  have hj:=uE q
  exact List.getElem?_set_ne (λz=>c ⟨z.symm,by omega⟩)
 have new:∀ j,j=i/\i < Γ.length->(σ.set i (some (V.ref p)))[j]? = some (some (.ref p)):=λj c=>by
  rw [c.1,List.getElem?_set_self (by have:=E.e.len; omega)]
 have keyb:∀ j o c ns d,slot (zt Γ i (.ow ds)) j=.ob o c ns d->slot Γ j=.ob o c ns d/\(σ.set i (some (V.ref p)))[j]? = σ[j]?:=λj o0 c0 ns d q=>by
  rw [xm] at q
  by_cases c:j=i/\i < Γ.length
  ·rw [if_pos c] at q; cases q
  ·rw [if_neg c] at q; exact ⟨q,get j c (by rw [q]; exact λz=>nomatch z)⟩
 refine ⟨⟨⟨λj d q=>?_,λj d q=>?_,λj o c ns d q=>?_,λj k as bs m q r e f=>?_,⟨λb hb=>?_,yU.same E.e.zd.i (gX hp _)⟩,by rw [qY,List.length_set]; exact E.e.len⟩,λb hb=>.inl (E.z0 b hb),E.z0d,E.same.trans (wC hp _),λj d m q e=>?_,λj o c ns d q=>E.owb j o c ns d (keyb j o c ns d q).1⟩,s⟩
 ·rw [xm] at q
  by_cases c:j=i/\i < Γ.length
  ·rw [if_pos c] at q; cases q
  ·rw [if_neg c] at q
   obtain ⟨v,h1,h2⟩:=E.e.sh j d q
   exact ⟨v,by rw [get j c (by rw [q]; exact λz=>nomatch z)]; exact h1,h2.same s⟩
 ·rw [xm] at q
  by_cases c:j=i/\i < Γ.length
  ·rw [if_pos c] at q
   cases q
   exact ⟨p,xs,new j c,.inr rfl,xb,xh s hx⟩
  ·rw [if_neg c] at q
   obtain ⟨m,ys,h1,h2,h3,h4⟩:=E.e.ow j d q
   exact ⟨m,ys,by rw [get j c (by rw [q]; exact λz=>nomatch z)]; exact h1,.inl h2,by rw [zv (old j d q m h1)]; exact h3,xh s h4⟩
 ·obtain ⟨q,g⟩:=keyb j o c ns d q
  obtain ⟨dx,ys,h1,h2,h3,h5,h4⟩:=E.e.ob j o c ns d q
  exact ⟨dx,ys,g.trans h1,.inl h2,by rw [zv (wV h3 hp)]; exact h3,h5,xh s h4⟩
 ·rw [xm] at q r
  by_cases c:j=i/\i < Γ.length
  ·by_cases c':k=i/\i < Γ.length
   ·omega
   ·rw [if_neg c'] at r
    rw [new j c] at e
    rw [get k c' (by rw [r]; exact λz=>nomatch z)] at f
    cases e
    exact absurd rfl (old k bs r p f)
  ·rw [if_neg c] at q
   rw [get j c (by rw [q]; exact λz=>nomatch z)] at e
   by_cases c':k=i/\i < Γ.length
   ·rw [new k c'] at f
    cases f
    exact absurd rfl (old j as q p e)
   ·rw [if_neg c'] at r
    rw [get k c' (by rw [r]; exact λz=>nomatch z)] at f
    exact E.e.ne j k as bs m q r e f
 ·by_cases c:b=p
  ·rw [c]; exact ⟨_,xb,λ_ z=>nomatch z⟩
  ·obtain ⟨u,e,n⟩:=E.e.zd.z b (hb.resolve_right c)
   exact ⟨u,by rw [zv c]; exact e,n⟩
 ·rw [xm] at q
  by_cases c:j=i/\i < Γ.length
  ·rw [new j c] at e
   cases e
   exact E.same.free hp
  ·rw [if_neg c] at q
   rw [get j c (by rw [q]; exact λz=>nomatch z)] at e
   exact E.own j d m q e
def frz (Γ:List Sl) (i:Nat):List Sl:=match slot Γ i with
 | .ow ds=>zt Γ i (.sh (.lst ds))
 | _=>Γ
theorem yY.frz {Z0:Addr->Prop} {H0:Hp} {Z:Addr->Prop} {Γ:List Sl} {σ:St} {H:Hp} (E:yY Z0 H0 Z Γ σ H) (i:Nat):∃ Z',yY Z0 H0 Z' (Pu.frz Γ i) σ H/\zP (zR Z H) (zR Z' H):=by
 unfold Pu.frz
 cases hs:slot Γ i with
 | no=>exact ⟨Z,E,zP.refl _⟩
 | sh _=>exact ⟨Z,E,zP.refl _⟩
 | ob _ _ _ _=>exact ⟨Z,E,zP.refl _⟩
 | ow ds=>
  obtain ⟨l,xs,hl,hz,el,hx⟩:=E.e.ow i ds hs
  have s:zP (zR Z H) (zR (λb=>Z b/\b≠l) H):=Xu λb h=>h.1
  have key:∀ j d,slot (zt Γ i (.sh (.lst ds))) j=.ow d->slot Γ j=.ow d/\j≠i:=λj d q=>by
   rw [xm] at q
   by_cases c:j=i/\i < Γ.length
   ·rw [if_pos c] at q; cases q
   ·rw [if_neg c] at q
    have hj:=uE (Γ:=Γ) (i:=j) (by rw [q]; exact λz=>nomatch z)
    exact ⟨q,λz=>c ⟨z,by omega⟩⟩
  have keyb:∀ j o c ns d,slot (zt Γ i (.sh (.lst ds))) j=.ob o c ns d->slot Γ j=.ob o c ns d:=λj o0 c0 ns d q=>by
   rw [xm] at q
   by_cases c:j=i/\i < Γ.length
   ·rw [if_pos c] at q; cases q
   ·rw [if_neg c] at q; exact q
  refine ⟨λb=>Z b/\b≠l,⟨⟨λj d q=>?_,λj d q=>?_,λj o c ns d q=>?_,λj k as bs m q r=>?_,⟨λb hb=>E.e.zd.z b hb.1,E.e.zd.i⟩,by rw [qY]; exact E.e.len⟩,λb hb=>⟨E.z0 b hb,λz=>?_⟩,E.z0d,E.same,λj d m q=>E.own j d m (key j d q).1,λj o c ns d q=>E.owb j o c ns d (keyb j o c ns d q)⟩,s⟩
  ·rw [xm] at q
   by_cases c:j=i/\i < Γ.length
   ·rw [if_pos c] at q
    cases q
    rw [c.1]
    exact ⟨.ref l,hl,.lst (uD (λz=>z.2 rfl) el) (xh s hx)⟩
   ·rw [if_neg c] at q
    obtain ⟨v,h1,h2⟩:=E.e.sh j d q
    exact ⟨v,h1,h2.same s⟩
  ·obtain ⟨q1,q2⟩:=key j d q
   obtain ⟨m,ys,h1,h2,h3,h4⟩:=E.e.ow j d q1
   exact ⟨m,ys,h1,⟨h2,λz=>q2 (E.e.ne j i d ds l q1 hs (by rw [h1,z]) hl)⟩,h3,xh s h4⟩
  ·obtain ⟨dx,ys,h1,h2,h3,h5,h4⟩:=E.e.ob j o c ns d (keyb j o c ns d q)
   exact ⟨dx,ys,h1,⟨h2,λz=>by rw [z,el] at h3; cases h3⟩,h3,h5,xh s h4⟩
  ·exact E.e.ne j k as bs m (key j as q).1 (key k bs r).1
  ·obtain ⟨ys,e,_⟩:=E.z0d.z b hb
   rw [z,E.own i ds l hs hl] at e
   cases e
end Pu
namespace Pu
open PySem L2 Sh
variable [yU]
open PyProof.Rows (envOfC)
section
variable {X:Cx} {e:Expr} {es:List Expr} {st:Stmt} {sts:List Stmt} {pos:Pos} {pa pb:zu} {pl:yg} {p q:xG}
theorem yb {t t':TS} (h:PS X st t) (w:∀ D σ H,t' D σ H->t D σ H):PS X st t':=λpins s σ H D I k=>h pins s σ H D I (w D σ H k)
theorem qj {t t':TS} (h:yq X sts t) (w:∀ D σ H,t' D σ H->t D σ H):yq X sts t':=λpins s σ H D I k=>h pins s σ H D I (w D σ H k)
def Z5:xG:=λD Γ=>D.nx Γ
def jO (p q:xG):xG:=λD Γ=>p { D with nx:=q D } Γ
theorem yF:yq X [] (yV Z5):=qj jo λD σ H ⟨Z0,H0,Z,Γ,Dp,E,h,nx,rt,bk,ct⟩=>nx Z Γ σ H E (zP.refl _) h
theorem zJ (h1:PS X st (yV p)) (h2:yq X sts (yV q)):yq X (st :: sts) (yV (jO p q)):=qj (uP h1 h2) λD σ H ⟨Z0,H0,Z,Γ,Dp,E,h,nx,rt,bk,ct⟩=>
 ⟨Z0,H0,Z,Γ,{ Dp with nx:=q Dp },E,h,λZ' Γ' σ' H' E' s' h'=>⟨Z0,H0,Z',Γ',Dp,E',h',λZ2 Γ2 σ2 H2 E2 s2=>nx Z2 Γ2 σ2 H2 E2 (s'.trans s2),rt,λZ2 Γ2 σ2 H2 E2 s2=>bk Z2 Γ2 σ2 H2 E2 (s'.trans s2),λZ2 Γ2 σ2 H2 E2 s2=>ct Z2 Γ2 σ2 H2 E2 (s'.trans s2)⟩,rt,bk,ct⟩
def Z6 (p q:xG):xG:=λD Γ=>∃ M:List Sl->Prop,p { D with nx:=M } Γ/\∀ Γ',M Γ'->q D Γ'
theorem jP (h1:PS X st (yV p)) (h2:yq X sts (yV q)):yq X (st :: sts) (yV (Z6 p q)):=qj (uP h1 h2) λD σ H ⟨Z0,H0,Z,Γ,Dp,E,⟨M,h,k⟩,nx,rt,bk,ct⟩=>
 ⟨Z0,H0,Z,Γ,{ Dp with nx:=M },E,h,λZ' Γ' σ' H' E' s' h'=>⟨Z0,H0,Z',Γ',Dp,E',k Γ' h',λZ2 Γ2 σ2 H2 E2 s2=>nx Z2 Γ2 σ2 H2 E2 (s'.trans s2),rt,λZ2 Γ2 σ2 H2 E2 s2=>bk Z2 Γ2 σ2 H2 E2 (s'.trans s2),λZ2 Γ2 σ2 H2 E2 s2=>ct Z2 Γ2 σ2 H2 E2 (s'.trans s2)⟩,rt,bk,ct⟩
theorem zK (h1:PS X st (yV p)):yq X [st] (yV p):=Wt h1
def Uz (i:Nat) (p:xG):xG:=λD Γ=>p D (frz Γ i)
theorem vP (i:Nat) (h1:PS X st (yV p)):PS X st (yV (Uz i p)):=yb h1 λD σ H ⟨Z0,H0,Z,Γ,Dp,E,h,nx,rt,bk,ct⟩=>by
 obtain ⟨Z',E',s⟩:=E.frz i
 exact ⟨Z0,H0,Z',_,Dp,E',h,λZ2 Γ2 σ2 H2 E2 s2=>nx Z2 Γ2 σ2 H2 E2 (s.trans s2),rt,λZ2 Γ2 σ2 H2 E2 s2=>bk Z2 Γ2 σ2 H2 E2 (s.trans s2),λZ2 Γ2 σ2 H2 E2 s2=>ct Z2 Γ2 σ2 H2 E2 (s.trans s2)⟩
def vQ (i:Nat) (pa:zu):xG:=λD Γ=>pa Γ λd=>D.nx (zt Γ i (.sh d))
theorem zQM {i:Nat} (D:yu) (σ:St) (H:Hp):yV (vQ i pa) D σ H->vj (tP pa) (kQ i) D σ H:=λ⟨Z0,H0,Z,Γ,Dp,E,h,nx,rt,bk,ct⟩=>
 ⟨Z,Γ,_,E.e,h,λd v H1 hd s1 hv=>nx Z _ _ H1 ((E.mv s1).set hv i) (yr s1) hd⟩
theorem zO0 (i:Nat) {x:Str} {pos':Pos} (hN:X.N.Nodup) (hi:X.N[i]? = some x) (hx:v7 X.env.scope x) (he:PE X e (tP pa)) (hs:swapsWith e (some (.Name x pos')) pos.line X.env=pure false:=by rfl) (hf:X.fn x=true\/X.env.scope.names.lookup x=some .local:=by first | exact .inl rfl | exact .inr rfl | assumption) :
  PS X (.Assign [.Name x pos'] e pos) (yV (vQ i pa)):=yb (XW hN hi hx he hs hf) zQM
def U0 (js:List Nat) (po:D->Option (List D)) (pa:zu):xG:=λD Γ=>pa Γ λd=>ux (po d) λos=>D.nx (X0 Γ js os)
theorem qk {tg:Expr} {js:List Nat} {po:D->Option (List D)} (he:PE X e (tP pa)) (hg:PG X tg (tG js po)) (hs:swapsWithSole [tg] e pos.line X.env=pure false:=by rfl) (hw:swappedStores [tg] e X.env=pure none:=by rfl)
  (h1:(assignEach [tg] X.env).map (·.2)=[assign tg X.env]:=by rfl):PS X (.Assign [tg] e pos) (yV (U0 js po pa)):=yb (XV he hg hs hw h1) λD σ H ⟨Z0,H0,Z,Γ,Dp,E,h,nx,rt,bk,ct⟩=>
 ⟨Z,Γ,_,E.e,h,λd v H1 hd s1 hv=>by
  obtain ⟨os,ho,hd⟩:=Zq hd
  exact ⟨Z,d,os,hv,ho,λvs hvs=>nx Z _ _ H1 ((E.mv s1).setN hvs) (yr s1) hd⟩⟩
def U1 (i:Nat) (pl:yg):xG:=λD Γ=>pl Γ λds=>ds.length<=1000/\D.nx (zt Γ i (.ow ds))
theorem uI (i:Nat) {x:Str} {pos' lp:Pos} (hN:X.N.Nodup) (hi:X.N[i]? = some x) (hx:v7 X.env.scope x) (he:PA X es (x8 pl)) (hs:swapsWith (.List es lp) (some (.Name x pos')) pos.line X.env=pure false:=by rfl) (hf:X.fn x=true\/X.env.scope.names.lookup x=some .local:=by first | exact .inl rfl | exact .inr rfl | assumption) :
  PS X (.Assign [.Name x pos'] (.List es lp) pos) (yV (U1 i pl)):=yb (XW hN hi hx (UA he) hs hf) λD σ H ⟨Z0,H0,Z,Γ,Dp,E,h,nx,rt,bk,ct⟩=>
 ⟨Z,Γ,_,E.e,h,λds vs H1 hd s1 hv=>⟨few (by rw [wK hv]; exact hd.1),λl hl=>by
  obtain ⟨E2,s2⟩:=(E.mv s1).make hl hv i
  exact nx _ _ _ _ E2 ((yr s1).trans s2) hd.2⟩⟩
def Z7:D->(List D->Prop)->Prop
 | .lst es,k=>k es
 | _,_=>False
def zQ7 (i:Nat) (ow:Bool) (caps:List Nat) (pi:yg) (po:D->Option (List D)) (pe:zu):xG:=λT Γ=>pi Γ λds=>zq ds (λd S=>ux (po d) λos=>pe (os.map Sl.sh++caps.map λj=>un (slot Γ j)) S) λd=>Z7 d λes=>T.nx (zt Γ i (match ow with | true=>.ow es | false=>.sh (.lst es)))
theorem uf (i:Nat) (ow:Bool) {scope:Scope} {own:List Str} {caps:List (Nat × Str)} {tg iter elt:Expr} {pi:yg} {po:D->Option (List D)} {pe:zu} {js:List Nat} {y:Str} {py spos:Pos} (hN:X.N.Nodup) (hy:X.N[i]? = some y) (hl:X.env.scope.names.lookup y=some .local) (B:vo X scope own caps) (hc:X.calm=true) (hj:js=List.range' 0 own.length) (hk:∀ d os,po d=some os->os.length=js.length)
  (hi:PI X tg iter (uz pi)) (hg:∀ C s₀ H₀ ex,PG (y8 X scope (zn own caps) C s₀ H₀ ex) tg (tG js po)) (he:∀ C s₀ H₀ ex,PE (y8 X scope (zn own caps) C s₀ H₀ ex) elt (tP pe)) (hsw:swapsWith (.ListComp elt [⟨tg,iter,[],0⟩] scope pos) (some (.Name y py)) spos.line X.env=pure true) (hs:∀ x,foldedSetIterable iter X.env x=pure x:=by intro _; rfl) :
  PS X (.Assign [.Name y py] (.ListComp elt [⟨tg,iter,[],0⟩] scope pos) spos) (yV (zQ7 i ow (caps.map (·.1)) pi po pe)):=yb (zJH hN hy hl B hc hi hg (.inl rfl) (λ_ _ _ _=>zQ4) he hsw hs) λD σ H ⟨Z0,H0,Z,Γ,Dp,E,h,nx,rt,bk,ct⟩=>
 ⟨Z,Γ,_,E.e,h,λds J H1 ⟨fw,F,hF,hR⟩ s1 wk=>zJY (E.e.same s1) wk hj hk fw hF λes ys H' l h1 s2 h2 hp=>by
  have E1:=(E.mv s1).mv s2
  cases ow with
  | true=>
   obtain ⟨E2,s3⟩:=E1.make hp h2 i
   exact nx _ _ _ _ E2 ((yr (s1.trans s2)).trans s3) (hR es h1)
  | false=>exact nx Z _ _ _ ((E1.mv (wC hp _)).set (uZ E1.e.zd hp h2) i) (yr (s1.trans (s2.trans (wC hp _)))) (hR es h1)⟩
def U2 (pa:zu):xG:=λD Γ=>pa Γ D.rt
theorem zV (he:PE X e (tP pa)):PS X (.Return (some e) pos) (yV (U2 pa)):=yb (Ks he) λD σ H ⟨Z0,H0,Z,Γ,Dp,E,h,nx,rt,bk,ct⟩=>
 ⟨Z,Γ,_,E.e,h,λd v H1 hd s1 hv=>rt d v H1 (E.same.trans s1) (hv.same (Xu E.z0)) hd⟩
def pIf (t:wY) (p q:xG):xG:=λD Γ=>t Γ λc=>wd c (p D Γ) (q D Γ)
theorem yG {c:Expr} {a b:List Stmt} {t:wY} (hc:PT X c (xW t)) (ha:yq X a (yV p)) (hb:yq X b (yV q)):PS X (.If c a b pos) (yV (pIf t p q)):=yb (Ww hc ha hb) λD σ H ⟨Z0,H0,Z,Γ,Dp,E,h,nx,rt,bk,ct⟩=>
 ⟨Z,Γ,_,E.e,h,λc H1 hd s1=>by
  have f:∀ {P:List Sl->Prop} {Q:St->Hp->Prop},(∀ Z' Γ' σ' H',yY Z0 H0 Z' Γ' σ' H'->zP (zR Z H) (zR Z' H')->P Γ'->Q σ' H')->∀ Z' Γ' σ' H',yY Z0 H0 Z' Γ' σ' H'->zP (zR Z H1) (zR Z' H')->P Γ'->Q σ' H':=λg Z2 Γ2 σ2 H2 E2 s2=>g Z2 Γ2 σ2 H2 E2 ((yr s1).trans s2)
  cases c with
  | true=>exact ⟨Z0,H0,Z,Γ,Dp,E.mv s1,hd.1 rfl,f nx,rt,f bk,f ct⟩
  | false=>exact ⟨Z0,H0,Z,Γ,Dp,E.mv s1,hd.2 rfl,f nx,rt,f bk,f ct⟩⟩
def zQ5:xG:=λ_ _=>False
theorem ql:PS X st (yV zQ5):=yb zMr λD σ H ⟨Z0,H0,Z,Γ,Dp,E,h,nx,rt,bk,ct⟩=>h
def U3 (pi:yg) (js:List Nat) (po:D->Option (List D)) (pb:xG):xG:=λD Γ=>pi Γ λds=>∃ I:Nat->List Sl->Prop,I 0 Γ/\(∀ k d Γ',ds[k]? = some d->I k Γ'->ux (po d) λos=>pb ⟨I (k + 1),D.rt,D.nx,I (k + 1)⟩ (X0 Γ' js os))/\∀ Γ',I ds.length Γ'->D.nx Γ'
theorem xX {tg iter:Expr} {body:List Stmt} {pi:yg} {js:List Nat} {po:D->Option (List D)} (hp:PassesOwn (model X.prog X.w) X.A X.env X.xe) (hc:X.calm=true) (hi:PI X tg iter (uz pi)) (hg:PG X tg (tG js po)) (hb:yq X body (yV p))
  (hs:∀ x,foldedSetIterable iter X.env x=pure x:=by intro _; rfl):PS X (.For tg iter body [] pos) (yV (U3 pi js po p)):=yb (zQr hp hc hi hg hb hs) λD σ H ⟨Z0,H0,Z,Γ,Dp,E,h,nx,rt,bk,ct⟩=>
 ⟨Z,Γ,_,E.e,h,λds J H1 ⟨I,h0,hst,hd⟩ s1 wk=>by
  have g:∀ {Q:List Sl->Prop} {T:St->Hp->Prop} {Z1 H2},zP (zR Z H1) (zR Z1 H2)->(∀ Z' Γ' σ' H',yY Z0 H0 Z' Γ' σ' H'->zP (zR Z H) (zR Z' H')->Q Γ'->T σ' H')->∀ Z' Γ' σ' H',yY Z0 H0 Z' Γ' σ' H'->zP (zR Z1 H2) (zR Z' H')->Q Γ'->T σ' H':=λs k Z2 Γ2 σ2 H2 E2 s2=>k Z2 Γ2 σ2 H2 E2 ((yr s1).trans (s.trans s2))
  refine ⟨λi m σ' H'=>m + i=ds.length/\∃ Z' Γ',yY Z0 H0 Z' Γ' σ' H'/\zP (zR Z H1) (zR Z' H')/\I i Γ',⟨ds.length,rfl,Z,Γ,E.mv s1,zP.refl _,h0⟩,?_⟩
  rintro i m σ' H' ⟨hm,Z',Γ',E',s',hI⟩
  obtain ⟨w1,w2⟩:=wk i Z' H' s' E'.e.zd
  by_cases hi:i < ds.length
  ·refine .inr ⟨(w1 _ (List.getElem?_eq_getElem hi)).1,λσ' H'=>m - 1 + (i + 1)=ds.length/\∃ Z' Γ',yY Z0 H0 Z' Γ' σ' H'/\zP (zR Z H1) (zR Z' H')/\I (i + 1) Γ',λσ2 H2 k=>⟨m - 1,by omega,k⟩,λx H2 yl=>?_⟩
   obtain ⟨s2,dv⟩:=(w1 _ (List.getElem?_eq_getElem hi)).2 x H2 yl
   obtain ⟨os,ho,hb⟩:=Zq (hst i _ Γ' (List.getElem?_eq_getElem hi) hI)
   refine ⟨Z',_,os,dv,ho,λvs hvs=>?_⟩
   have s3:=s'.trans (yr s2)
   have again:∀ Z2 Γ2 σ2 H3,yY Z0 H0 Z2 Γ2 σ2 H3->zP (zR Z' H2) (zR Z2 H3)->I (i + 1) Γ2->m - 1 + (i + 1)=ds.length/\∃ Z' Γ',yY Z0 H0 Z' Γ' σ2 H3/\zP (zR Z H1) (zR Z' H3)/\I (i + 1) Γ':=λZ2 Γ2 σ2 H3 E3 k hI=>⟨by omega,Z2,Γ2,E3,s3.trans k,hI⟩
   exact ⟨Z0,H0,Z',_,_,(E'.mv s2).setN hvs,hb,again,rt,g s3 nx,again⟩
  ·have ei:i=ds.length:=by omega
   rw [ei] at hI
   exact .inl ⟨w2 ei,nx Z' Γ' σ' H' E' ((yr s1).trans s') (hd Γ' hI)⟩⟩
def X6:Sl->(List D->Prop)->Prop
 | .ow ds,R=>R ds
 | _,_=>False
theorem U4 {s:Sl} {R:List D->Prop} (h:X6 s R):∃ ds,s=.ow ds/\R ds:=by
 cases s with
 | ow ds=>exact ⟨ds,rfl,h⟩
 | _=>exact h.elim
def U5 (i:Nat) (pa:zu):xG:=λD Γ=>X6 (slot Γ i) λds=>pa Γ λd=>ds.length < 1000/\D.nx (zt Γ i (.ow (ds++[d])))
theorem vg {i:Nat} {K:PySem.W.Frag} (D:yu) (σ:St) (H:Hp):yV (U5 i pa) D σ H->Wu (tBM K "list" qR (uV i) (uB (tP pa) wW)) D σ H:=λ⟨Z0,H0,Z,Γ,Dp,E,h,nx,rt,bk,ct⟩=>by
 obtain ⟨ds,hs,h⟩:=U4 h
 obtain ⟨l,xs,hl,hz,el,hx⟩:=E.e.ow i ds hs
 refine ⟨.ref l,hl,.inl ⟨rfl,xs,zo.of el⟩,Z,Γ,_,E.e,h,λd v H1 hd s1 hv=>?_⟩
 have hx1:=xh (yr s1) hx
 exact ⟨l,xs,v,rfl,rfl,s1.at el,UI (by rw [wK hx]; omega),nx Z _ _ _ ((E.mv s1).put hs hl hz (ZE hv hx1)) ((yr s1).trans (Z4 hz)) hd.2⟩
def U6 (i:Nat) (pa pb:zu):xG:=λD Γ=>pa Γ λd=>X6 (slot Γ i) λds=>pb Γ λk=>iD k λo=>∃ z j,o=some z/\wI ds.length z=some j/\D.nx (zt Γ i (.ow (ds.set j d)))
theorem zOA {α β:Type} {R:α->β->Prop} {x:α} {y:β} (r:R x y):∀ {xs:List α} {ys:List β} (i:Nat),Paired R xs ys->Paired R (xs.set i x) (ys.set i y)
 | _,_,_,.nil=>.nil
 | _,_,0,.cons _ t=>.cons r t
 | _,_,i + 1,.cons q t=>.cons q (zOA r i t)
theorem U7 {i:Nat} (D:yu) (σ:St) (H:Hp):yV (U6 i pa pb) D σ H->vj (tP pa) (kS (uV i) (tP pb) qS) D σ H:=λ⟨Z0,H0,Z,Γ,Dp,E,h,nx,rt,bk,ct⟩=>
 ⟨Z,Γ,_,E.e,h,λd v H1 hd s1 hv=>by
  obtain ⟨ds,hs,h⟩:=U4 hd
  obtain ⟨l,xs,hl,hz,el,hx⟩:=(E.mv s1).e.ow i ds hs
  refine ⟨.ref l,hl,Z,Γ,_,(E.mv s1).e,h,λk u H2 hk s2 hu=>?_⟩
  unfold iD at hk
  split at hk
  ·obtain ⟨z,j,e1,e2,hd⟩:=hk
   cases e1
   cases hu
   have s:=s1.trans s2
   have hx1:=xh (yr s2) hx
   exact ⟨l,xs,_,j,rfl,rfl,s2.at el,by rw [wK hx]; exact e2,nx Z _ _ _ ((E.mv s).put hs hl hz (zOA (hv.same (yr s2)) j hx1)) ((yr s).trans (Z4 hz)) hd⟩
  ·exact hk.elim⟩
def ixL (ds:List D):D->(D->Prop)->Prop
 | .int i,R=>∃ d,ya ds i=some d/\R d
 | _,_=>False
def U8 (i:Nat) (pb:zu):zu:=λΓ R=>X6 (slot Γ i) λds=>pb Γ λk=>ixL ds k R
theorem zN6 (i:Nat) {x:Str} {b:Expr} {xp:Pos} (hb:PE X b (tP pb)) (hs:Xg b) (hN:X.N[i]? = some x:=by rfl) (hv:jj X.env.scope x:=by first | exact Or.inl rfl | exact Or.inr (Or.inl rfl) | exact Or.inr (Or.inr rfl)) (hd:(x == ("__debug__" : Str))=false:=by decide)
  (hcd:(x == ("__classdict__" : Str))=false:=by decide):PE X (.Subscript (.Name x xp) b pos) (tP (U8 i pb)):=yT (UD UF (xU i hN hv hd hcd) hb hs) λσ H Q ⟨Z,Γ,R,E,h,q⟩=>by
 obtain ⟨ds,hs,h⟩:=U4 h
 obtain ⟨l,xs,hl,hz,el,hx⟩:=E.ow i ds hs
 refine ⟨.ref l,hl,Z,Γ,_,E,h,λk u H2 hk s2 hu=>?_⟩
 unfold ixL at hk
 split at hk
 ·cases hu
  obtain ⟨d,hd,hR⟩:=hk
  obtain ⟨v,hv,hh⟩:=Xz hx hd
  exact ⟨l,xs,_,v,rfl,rfl,zo.of (s2.at el),hv,q _ _ H2 hR s2 (hh.same (yr s2))⟩
 ·exact hk.elim
def D.isInt:D->Bool
 | .int _=>true
 | .bool _=>true
 | _=>false
def D.isBool:D->Bool
 | .bool _=>true
 | _=>false
def D.isLst:D->Bool
 | .lst _=>true
 | .scr _=>true
 | _=>false
def D.isTup:D->Bool
 | .tup _=>true
 | _=>false
def D.isObj:D->Bool
 | .obj ..=>true
 | _=>false
def Z8 (c:String) (f:D->Bool):D->(D->Prop)->Prop:=λd R=>d.isObj=false/\R (.bool (f d))
theorem X7 {K:PySem.W.Frag} {H:Hp} {v:V} {d:D} (h:DV H v d) (o:d.isObj=false):∃ t,yR K H v t/\PySem.W.kitOne K t (.type "int")=some d.isInt/\PySem.W.kitOne K t (.type "bool")=some d.isBool/\PySem.W.kitOne K t (.type "list")=some d.isLst/\PySem.W.kitOne K t (.type "tuple")=some d.isTup:=by
 cases h with
 | int i=>exact ⟨_,.int i,jr K .int,jt K .int,jv K .int,ju K .int⟩
 | bool b=>exact ⟨_,.bl b,jr K .bool,jt K .bool,jv K .bool,ju K .bool⟩
 | non=>exact ⟨_,.non,jr K .non,jt K .non,jv K .non,ju K .non⟩
 | str x=>exact ⟨_,.str x,jr K .str,jt K .str,jv K .str,ju K .str⟩
 | scr e=>
  rcases e with e | ⟨o,e⟩
  ·exact ⟨_,.lst e,jr K .lst,jt K .lst,jv K .lst,ju K .lst⟩
  ·exact ⟨_,.frz e,jr K .lst,jt K .lst,jv K .lst,ju K .lst⟩
 | lst e _=>exact ⟨_,.lst e,jr K .lst,jt K .lst,jv K .lst,ju K .lst⟩
 | tup e _=>exact ⟨_,.tup e,jr K .tup,jt K .tup,jv K .tup,ju K .tup⟩
 | obj e _ _=>cases o
theorem vh {K:PySem.W.Frag} {c:String} {f:D->Bool} (hf:∀ H v d,DV H v d->d.isObj=false->∃ t,yR K H v t/\PySem.W.kitOne K t (.type c)=some (f d)) (σ:St) (H:Hp) (Q:VK):tP (ZY (Z8 c f) pa) σ H Q->qO (zQh K) (uB (tP pa) (uB (tC (.ty c)) wW)) σ H Q:=λ⟨Z,Γ,R,E,h,q⟩=>
 ⟨Z,Γ,_,E,h,λd v H1 hd s1 hv=>by
  obtain ⟨t,h1,h2⟩:=hf H1 v d (hv.same yJ) hd.1
  exact ⟨v,c,t,_,rfl,h1,h2,q _ _ H1 hd.2 s1 (.bool _)⟩⟩
theorem zRa {K:PySem.W.Frag} (H:Hp) (v:V) (d:D) (h:DV H v d) (o:d.isObj=false):∃ t,yR K H v t/\PySem.W.kitOne K t (.type "int")=some d.isInt:=let ⟨t,h1,h2,_⟩:=X7 h o; ⟨t,h1,h2⟩
theorem zNT {K:PySem.W.Frag} (H:Hp) (v:V) (d:D) (h:DV H v d) (o:d.isObj=false):∃ t,yR K H v t/\PySem.W.kitOne K t (.type "bool")=some d.isBool:=let ⟨t,h1,_,h2,_⟩:=X7 h o; ⟨t,h1,h2⟩
theorem qm {K:PySem.W.Frag} (H:Hp) (v:V) (d:D) (h:DV H v d) (o:d.isObj=false):∃ t,yR K H v t/\PySem.W.kitOne K t (.type "list")=some d.isLst:=let ⟨t,h1,_,_,h2,_⟩:=X7 h o; ⟨t,h1,h2⟩
theorem Z9 {K:PySem.W.Frag} (H:Hp) (v:V) (d:D) (h:DV H v d) (o:d.isObj=false):∃ t,yR K H v t/\PySem.W.kitOne K t (.type "tuple")=some d.isTup:=let ⟨t,h1,_,_,_,h2⟩:=X7 h o; ⟨t,h1,h2⟩
end
inductive zG (F:FL) (vs:List V) (H:Hp) (Q:VK) (E:XK):Prop
 | mk (Z:Addr->Prop) (ds:List D) (R:D->Prop) (zd:ZL Z H) (hv:yO (zR Z H) vs ds) (h:F ds R) (q:∀ d v H',R d->Sm H H'->DV (zR Z H') v d->Q v H'):zG F vs H Q E
section
variable {P:Program} {w:World} {K:PySem.W.Frag} {mg:Str->Option Value} {base:Heap}
theorem qp (n i:Nat):slot (List.replicate n .no) i=.no:=by
 rw [zI5]
 cases h:(List.replicate n Sl.no)[i]? with
 | none=>rfl
 | some x=>exact List.eq_of_mem_replicate (List.mem_of_getElem? h)
theorem U9 {Z:Addr->Prop} {H:Hp} {vs:List V} {ds:List D} (zd:ZL Z H) (h:yO (zR Z H) vs ds) (n:Nat):yS Z (ds.map Sl.sh++List.replicate n .no) (vs.map some++List.replicate n none) H:=by
 have no:∀ i as,slot (ds.map Sl.sh++List.replicate n .no) i≠.ow as:=X4 λi as h=>by rw [qp] at h; cases h
 have nob:∀ i o c ns as,slot (ds.map Sl.sh++List.replicate n .no) i≠.ob o c ns as:=X3 λi o c ns as h=>by rw [qp] at h; cases h
 refine ⟨?_,λi as e=>absurd e (no i as),λi o c ns as e=>absurd e (nob i o c ns as),λi _ as _ _ e=>absurd e (no i as),zd,?_⟩
 clear nob
 ·induction h with
  | nil=>
   intro i d e
   change slot (List.replicate n .no) i=_ at e
   rw [qp] at e
   cases e
  | @cons v d vs ds hv _ ih=>
   intro i e q
   cases i with
   | zero=>cases q; exact ⟨v,rfl,hv⟩
   | succ i=>
    obtain ⟨u,h1,h2⟩:=ih (λi=>no (i + 1)) i e q
    exact ⟨u,by rw [List.map_cons,List.cons_append,List.getElem?_cons_succ]; exact h1,h2⟩
 ·rw [List.length_append,List.length_append,List.length_map,List.length_map,List.length_replicate,List.length_replicate,wK h]
theorem JA {N ps:List Str} {F:FL} {p:xG} (len:∀ ds R,F ds R->ds.length=ps.length) (h2:∀ ds R,F ds R->p { nx:=λ_=>R .non,rt:=R } (ds.map Sl.sh++List.replicate (N.length - ps.length) .no)) {H:Hp} {vs:List V} {Q:VK} {E:XK} (h:zG F vs H Q E):yV p { nx:=λ_ H'=>Q .non H',rt:=Q } (L2.wN N vs) H:=by
 obtain ⟨Z,ds,R,zd,hv,h,q⟩:=h
 have e:L2.wN N vs=vs.map some++List.replicate (N.length - ps.length) none:=by
  unfold L2.wN
  rw [wK hv,len ds R h]
 refine ⟨Z,H,Z,_,_,⟨?_,λ_ h=>h,zd,Sm.refl _,?_,?_⟩,h2 ds R h,λZ' Γ' σ' H' E' _ hn=>q .non .non H' hn E'.same .non,λd v H' s' hv' hd=>q d v H' hd s' hv',λ_ _ _ _ _ _ h=>h.elim,λ_ _ _ _ _ _ h=>h.elim⟩
 ·rw [e]
  exact U9 zd hv _
 ·exact λi as l e=>absurd e (X4 (λi as h=>by rw [qp] at h; cases h) i as)
 ·exact λi o c ns as e=>absurd e (X3 (λi o c ns as h=>by rw [qp] at h; cases h) i o c ns as)
theorem X8 {ps:List Str} {F:FL} (len:∀ ds R,F ds R->ds.length=ps.length) (vs:List V) (H:Hp) (Q:VK) (E:XK):zG F vs H Q E->vs.length=ps.length:=λ⟨Z,ds,R,zd,hv,h,q⟩=>by rw [wK hv]; exact len ds R h
theorem okP {x qual:Str} {st:Stmt} {f:Addr} {fd:FuncData} {N ps:List Str} {k:Nat} {F:FL} (Fu:zY K x qual st f fd) (S:zX N ps (zN st)) (len:∀ ds R,F ds R->ds.length=ps.length)
  (hbody:∀ (cdv:Value) (A:Around) (outer:List Env) (s:Shared) (H:Hp) (E:XK),zW k (A.deeper (envOfC qual (zN st) s.heap.objs.size f cdv))->
   ∃ p,yq (za zT P w K mg base N qual (zN st) f cdv A outer s H E).nox (xS st) (yV p)/\∀ ds R,F ds R->p { nx:=λ_=>R .non,rt:=R } (ds.map Sl.sh++List.replicate (N.length - ps.length) .no)):zF P w K mg base zT (k + 1) f fd ps (zG F):=
 Fu.ok S (X8 len) λcdv A outer s H vs Q E hr h=>let ⟨p,h1,h2⟩:=hbody cdv A outer s H E hr; ⟨_,h1,JA len h2 h⟩
theorem JB {x qual:Str} {st:Stmt} {f:Addr} {fd:FuncData} {dv:Value} {N ps:List Str} {k:Nat} {F:FL} (Fu:xT K x qual st f fd dv) (S:zX N ps (zN st)) (len:∀ ds R,F ds R->ds.length=ps.length)
  (hbody:∀ (cdv:Value) (A:Around) (outer:List Env) (s:Shared) (H:Hp) (E:XK),zW k (A.deeper (envOfC qual (zN st) s.heap.objs.size f cdv))->
   ∃ p,yq (za zT P w K mg base N qual (zN st) f cdv A outer s H E).nox (xS st) (yV p)/\∀ ds R,F ds R->p { nx:=λ_=>R .non,rt:=R } (ds.map Sl.sh++List.replicate (N.length - ps.length) .no)):zF P w K mg base zT (k + 1) f fd ps (zG F):=
 Fu.ok S (X8 len) λcdv A outer s H vs Q E hr h=>let ⟨p,h1,h2⟩:=hbody cdv A outer s H E hr; ⟨_,h1,JA len h2 h⟩
theorem zL {X:Cx} {x:Str} {ps:List Str} {k:Nat} {F:FL} {e:Expr} {es:List Expr} {pl:yg} {p pos:Pos} (c:Fn X.prog X.w X.K X.mg X.base x ps k (zG F)) (hr:zW k X.A) (hg:Gl X x) (ha:PA X (e :: es) (x8 pl))
  (hdb:(x == ("__debug__" : Str))=false:=by decide) (he:starEach (e :: es) X.env=(false,eval e X.env) :: starEach es X.env:=by rfl) (hpl:(backTo pos (starEach es X.env)).any (·.1)=false:=by rfl) :
  PE X (.Call (.Name x p) (e :: es) [] pos) (tP (jJ F pl)):=yT (zM0 c hr hg ha hdb he hpl) λσ H Q ⟨Z,Γ,R,E,h,q⟩=>
 ⟨Z,Γ,_,E,h,λds vs H1 hd s1 hv=>⟨Z,ds,R,(E.same s1).zd,by rw [List.append_nil]; exact hv,hd,λd v H2 h2 s2 hv2=>q d v H2 h2 (s1.trans s2) hv2⟩⟩
end
end Pu
namespace Pu
open PySem L2 Sh
variable [yU]
open PyProof.Rows (envOfC)
theorem zJB {f:Str} {y:V}:∀ {ns:List Str} {xs:List V},ns.length=xs.length->f∉ns->yj f y (ns.zip xs)=(ns++[f]).zip (xs++[y])
 | [],[],_,_=>rfl
 | [],_ :: _,h,_=>nomatch h
 | _ :: _,[],h,_=>nomatch h
 | n :: ns,x :: xs,h,hf=>by
  show (if n=f then (n,y) :: ns.zip xs else (n,x) :: yj f y (ns.zip xs))=_
  rw [if_neg (λz=>hf (by rw [z]; exact List.mem_cons_self)),zJB (Nat.succ.inj h) (λz=>hf (List.mem_cons_of_mem _ z))]
  rfl
theorem yY.putO {Z0:Addr->Prop} {H0:Hp} {Z:Addr->Prop} {Γ:List Sl} {σ:St} {H:Hp} (E:yY Z0 H0 Z Γ σ H) {i:Nat} {o c dx:Addr} {ns ns':List Str} {ds ds':List D} {xs:List V} (hs:slot Γ i=.ob o c ns ds) (he:∃ fs,H o=some (.ins c dx fs)) (hl:ns'.length=xs.length) (hx:yO (zR Z H) xs ds') (one:∀ j o' c' ns' ds',slot Γ j=.ob o' c' ns' ds'->j=i):yY Z0 H0 Z (zt Γ i (.ob o c ns' ds')) σ (zb H o (.ins c dx (ns'.zip xs))):=by
 obtain ⟨dx0,xs0,hl0,hz,el,_⟩:=E.e.ob i o c ns ds hs
 have li:=uE (Γ:=Γ) (i:=i) (by rw [hs]; exact λz=>nomatch z)
 have hp:zP (zR Z H) (zR Z (zb H o (.ins c dx (ns'.zip xs)))):=Z4 hz
 have keyw:∀ j d,slot (zt Γ i (.ob o c ns' ds')) j=.ow d->slot Γ j=.ow d:=λj d q=>by
  rw [xm] at q
  by_cases c:j=i/\i < Γ.length
  ·rw [if_pos c] at q; cases q
  ·rw [if_neg c] at q; exact q
 refine ⟨⟨λj d q=>?_,λj d q=>?_,λj o' c' ns1 d q=>?_,λj k as bs m q r=>E.e.ne j k as bs m (keyw j as q) (keyw k bs r),⟨λb hb=>?_,he.elim λ_ e=>yU.put E.e.zd.i e⟩,by rw [qY]; exact E.e.len⟩,E.z0,E.z0d,?_,λj d m q=>E.own j d m (keyw j d q),λj o' c' ns1 d q=>?_⟩
 ·rw [xm] at q
  by_cases c:j=i/\i < Γ.length
  ·rw [if_pos c] at q; cases q
  ·rw [if_neg c] at q
   obtain ⟨v,h1,h2⟩:=E.e.sh j d q
   exact ⟨v,h1,h2.same hp⟩
 ·obtain ⟨m,ys,h1,h2,h3,h4⟩:=E.e.ow j d (keyw j d q)
  have nm:m≠o:=λz=>by rw [z,el] at h3; cases h3
  exact ⟨m,ys,h1,h2,by rw [zv nm]; exact h3,xh hp h4⟩
 ·rw [xm] at q
  by_cases c:j=i/\i < Γ.length
  ·rw [if_pos c] at q
   cases q
   rw [c.1]
   exact ⟨dx,xs,hl0,hz,xb,hl,xh hp hx⟩
  ·rw [if_neg c] at q
   exact absurd ⟨one _ _ _ _ _ q,li⟩ c
 ·obtain ⟨u,e,n⟩:=E.e.zd.z b hb
  by_cases c:b=o
  ·rw [c]; exact ⟨_,xb,λ_ z=>nomatch z⟩
  ·exact ⟨u,by rw [zv c]; exact e,n⟩
 ·exact he.elim λ_ e=>E.same.put (E.owb i o c ns ds hs) e
 ·rw [xm] at q
  by_cases c:j=i/\i < Γ.length
  ·rw [if_pos c] at q
   cases q
   exact E.owb i o _ ns ds hs
  ·rw [if_neg c] at q
   exact E.owb j o' c' ns1 d q
def X9:Sl->(Addr->Addr->List Str->List D->Prop)->Prop
 | .ob o c ns ds,R=>R o c ns ds
 | _,_=>False
theorem zLR {s:Sl} {R:Addr->Addr->List Str->List D->Prop} (h:X9 s R):∃ o c ns ds,s=.ob o c ns ds/\R o c ns ds:=by
 cases s with
 | ob o c ns ds=>exact ⟨o,c,ns,ds,rfl,h⟩
 | _=>exact h.elim
def qr:List Sl->Bool
 | []=>true
 | .ob _ _ _ _ :: _=>false
 | _ :: t=>qr t
theorem WA:∀ {Γ:List Sl},qr Γ=true->∀ j o c ns ds,slot Γ j≠.ob o c ns ds
 | [],_,_,_,_,_,_,h=>nomatch h
 | .no :: _,_,0,_,_,_,_,h=>nomatch h
 | .sh _ :: _,_,0,_,_,_,_,h=>nomatch h
 | .ow _ :: _,_,0,_,_,_,_,h=>nomatch h
 | .ob .. :: _,g,_,_,_,_,_,_=>nomatch g
 | .no :: t,g,j + 1,o,c,ns,ds,h=>WA (Γ:=t) g j o c ns ds h
 | .sh _ :: t,g,j + 1,o,c,ns,ds,h=>WA (Γ:=t) g j o c ns ds h
 | .ow _ :: t,g,j + 1,o,c,ns,ds,h=>WA (Γ:=t) g j o c ns ds h
def zR3 (K:PySem.W.Frag) (c:Addr) (f:Str):Prop:=uQ K c/\w8 K c f
def JC (K:PySem.W.Frag) (f:Str) (pa:zu):xG:=λT Γ=>pa Γ λd=>X9 (slot Γ 0) λo c ns ds=>zR3 K c f/\f∉ns/\ns.length < 900/\qr (Γ.drop 1)=true/\T.nx (zt Γ 0 (.ob o c (ns++[f]) (ds++[d])))
section
variable {X:Cx} {e:Expr} {es:List Expr} {pos:Pos} {pa:zu} {pl:yg} {C:Addr}
theorem jQ {K:PySem.W.Frag} {f:Str} (D:yu) (σ:St) (H:Hp):yV (JC K f pa) D σ H->kh K (uV 0) (tP pa) f D σ H:=λ⟨Z0,H0,Z,Γ,Dp,E,h,nx,rt,bk,ct⟩=>
 ⟨Z,Γ,_,E.e,h,λd v H1 hd s1 hv=>by
  obtain ⟨o,c,ns,ds,hs,hk,hf,hn,hn2,hd⟩:=zLR hd
  obtain ⟨dx,xs,hl,hz,el,ln,hx⟩:=(E.mv s1).e.ob 0 o c ns ds hs
  refine ⟨.ref o,hl,o,c,dx,_,rfl,el,hk.1,hk.2,by rw [List.length_zip]; omega,?_⟩
  rw [zJB ln hf]
  refine nx Z _ _ _ ((E.mv s1).putO hs ⟨_,el⟩ (by rw [List.length_append,List.length_append,ln]; rfl) (ZE hv hx) ?_) ((yr s1).trans (Z4 hz)) hd
  intro j o' c' ns' ds' q
  cases j with
  | zero=>rfl
  | succ j=>
   cases Γ with
   | nil=>cases q
   | cons x t=>exact absurd q (WA (Γ:=t) hn2 j o' c' ns' ds')⟩
inductive ug (C:Addr) (F:FL) (vs:List V) (H:Hp) (Q:VK) (E:XK):Prop
 | mk (Z:Addr->Prop) (ds:List D) (R:D->Prop) (o dx:Addr) (us:List V) (e:vs=.ref o :: us) (ho:H o=some (.ins C dx [])) (hz:¬ Z o) (zd:ZL Z H) (hv:yO (zR (λb=>Z b\/b=o) H) us ds) (h:F ds R) (q:∀ d H',R d->Sm (less o H) H'->DV (zR Z H') (.ref o) d->Q .non H'):ug C F vs H Q E
theorem zNG {N ps:List Str} {F:FL} {p:xG} (len:∀ ds R,F ds R->ds.length=ps.length) (h2:∀ o ds R,F ds R->p { nx:=λΓ=>X9 (slot Γ 0) λo' c ns es=>o'=o/\R (.obj c ns es),rt:=λ_=>False } (.ob o C [] [] :: (ds.map Sl.sh++List.replicate (N.length - (ps.length + 1)) .no))) {H:Hp} {vs:List V} {Q:VK} {E:XK} (h:ug C F vs H Q E):yV p { nx:=λ_ H'=>Q .non H',rt:=Q } (L2.wN N vs) H:=by
 obtain ⟨Z,ds,R,o,dx,us,e,ho,hz,zd,hv,h,q⟩:=h
 subst e
 have e:L2.wN N (.ref o :: us)=some (.ref o) :: (us.map some++List.replicate (N.length - (ps.length + 1)) none):=by
  unfold L2.wN
  rw [List.length_cons,wK hv,len ds R h]
  rfl
 have zd':ZL (λb=>Z b\/b=o) H:=⟨λb hb=>hb.elim (zd.z b) λz=>by rw [z]; exact ⟨_,ho,λ_ z=>nomatch z⟩,zd.i⟩
 have E0:=U9 zd' hv (N.length - (ps.length + 1))
 refine ⟨Z,less o H,λb=>Z b\/b=o,_,_,⟨?_,λ_ h=>.inl h,⟨λb hb=>?_,yU.less zd.i ho⟩,.of zNN,?_,?_⟩,h2 o ds R h,λZ' Γ' σ' H' E' _ hn=>?_,λ_ _ _ _ _ h=>h.elim,λ_ _ _ _ _ _ h=>h.elim,λ_ _ _ _ _ _ h=>h.elim⟩
 ·rw [e]
  refine ⟨λi d q=>?_,λi d q=>?_,λi o' c ns d q=>?_,λi j as bs l q r=>?_,zd',by rw [List.length_cons,List.length_cons,E0.len]⟩
  ·cases i with
   | zero=>cases q
   | succ i=>exact E0.sh i d q
  ·cases i with
   | zero=>cases q
   | succ i=>exact E0.ow i d q
  ·cases i with
   | zero=>cases q; exact ⟨dx,[],rfl,.inr rfl,ho,rfl,.nil⟩
   | succ i=>exact E0.ob i o' c ns d q
  ·cases i with
   | zero=>cases q
   | succ i=>
    cases j with
    | zero=>cases r
    | succ j=>exact λa b=>congrArg _ (E0.ne i j as bs l q r a b)
 ·obtain ⟨u,e1,n⟩:=zd.z b hb
  exact ⟨u,(if_neg λz=>hz (by rw [<- z]; exact hb)).trans e1,n⟩
 ·intro i as l q
  cases i with
  | zero=>cases q
  | succ i=>exact absurd q (X4 (λi as h=>by rw [qp] at h; cases h) i as)
 ·intro i o' c ns as q
  cases i with
  | zero=>cases q; exact if_pos rfl
  | succ i=>exact absurd q (X3 (λi o c ns as h=>by rw [qp] at h; cases h) i o' c ns as)
 ·obtain ⟨o',c,ns,es,hs,e2,hR⟩:=zLR hn
  subst e2
  obtain ⟨dx',xs,hl,hz',el,ln,hx⟩:=E'.e.ob 0 o' c ns es hs
  refine q _ H' hR E'.same (.obj (uD hz el) ln (xh (Xu E'.z0) hx))
theorem zOr {ps:List Str} {p0:Str} {F:FL} (len:∀ ds R,F ds R->ds.length=ps.length) (vs:List V) (H:Hp) (Q:VK) (E:XK):ug C F vs H Q E->vs.length=(p0 :: ps).length:=λ⟨Z,ds,R,o,dx,us,e,ho,hz,zd,hv,h,q⟩=>by rw [e,List.length_cons,List.length_cons,wK hv,len ds R h]
theorem okI {P:Program} {w:World} {K:PySem.W.Frag} {mg:Str->Option Value} {base:Heap} {x qual:Str} {st:Stmt} {f:Addr} {fd:FuncData} {N ps:List Str} {p0:Str} {k:Nat} {F:FL} (Fu:zY K x qual st f fd) (S:zX N (p0 :: ps) (zN st)) (len:∀ ds R,F ds R->ds.length=ps.length)
  (hbody:∀ (cdv:Value) (A:Around) (outer:List Env) (s:Shared) (H:Hp) (E:XK),zW k (A.deeper (envOfC qual (zN st) s.heap.objs.size f cdv))->
   ∃ p,yq (za zT P w K mg base N qual (zN st) f cdv A outer s H E).nox (xS st) (yV p)/\∀ o ds R,F ds R->p { nx:=λΓ=>X9 (slot Γ 0) λo' c ns es=>o'=o/\R (.obj c ns es),rt:=λ_=>False } (.ob o C [] [] :: (ds.map Sl.sh++List.replicate (N.length - (ps.length + 1)) .no))):zF P w K mg base zT (k + 1) f fd (p0 :: ps) (ug C F):=
 Fu.ok S (zOr len) λcdv A outer s H vs Q E hr h=>let ⟨p,h1,h2⟩:=hbody cdv A outer s H E hr; ⟨_,h1,zNG len h2 h⟩
theorem zMW {F:FL} {ev:List V} {ed:List D} (he:∀ H,yO H ev ed) (σ:St) (H:Hp) (Q:VK):tP (jJ (λds=>F (ds++ed)) pl) σ H Q->Xd C (ug C F) ev E0 (x8 pl) σ H Q:=λ⟨Z,Γ,R,E,h,q⟩=>
 ⟨Z,Γ,_,E,h,λds vs H1 hd s1 hv x dx hx hdx ne=>by
  have zd:=(E.same s1).zd
  have s2:Sm H1 (zb (zb H1 dx (.own x)) x (.ins C dx [])):=.of (zKd hx hdx ne _ _)
  refine ⟨Z,ds++ed,R,x,dx,vs++ev,rfl,xb,zd.new hx,zd.same s2,?_,hd,λd H' hR sb dv=>⟨rfl,q d _ H' hR (zQY (s1.trans s2) xb sb ?_) dv⟩⟩
  ·refine ZF (xh ?_ hv) (he _)
   intro b o e
   obtain ⟨n1,n2⟩:=jy e
   exact uD (λz=>z.elim n1 (wV n2 hx)) (s2.at n2 (qX e)) (qX e)
  ·exact s1.free hx⟩
theorem zOh {F:FL} (σ:St) (H:Hp) (Q:VK) (h:tP (jJ F pl) σ H Q):Xd C (ug C F) [] E0 (x8 pl) σ H Q:=zMW (ed:=[]) (λ_=>.nil) σ H Q (by rw [show (λds=>F (ds++[]))=F from funext λds=>by rw [List.append_nil]]; exact h)
theorem zKp {x:Str} {ps:List Str} {k:Nat} {F:FL} {p:Pos} (c:jw X.prog X.w X.K X.mg X.base C ps k (ug C F)) (T:xx X.K X.mg x C) (hr:zW (k + 1) X.A) (hg:Gl X x) (ha:PA X (e :: es) (x8 pl))
  (hdb:(x == ("__debug__" : Str))=false:=by decide) (he:starEach (e :: es) X.env=(false,eval e X.env) :: starEach es X.env:=by rfl) (hpl:(backTo pos (starEach es X.env)).any (·.1)=false:=by rfl) :
  PE X (.Call (.Name x p) (e :: es) [] pos) (tP (jJ F pl)):=yT (zMx c T hr hg ha hdb he hpl) zOh
theorem uJ {x:Str} {ps:List Str} {k:Nat} {F:FL} {p:Pos} {dv:V} (dd:D) (hd:∀ H,DV H dv dd) (c:wO X.prog X.w X.K X.mg X.base x ps k (zG F) dv) (hr:zW k X.A) (hg:Gl X x) (ha:PA X (e :: es) (x8 pl))
  (hdb:(x == ("__debug__" : Str))=false:=by decide) (he:starEach (e :: es) X.env=(false,eval e X.env) :: starEach es X.env:=by rfl) (hpl:(backTo pos (starEach es X.env)).any (·.1)=false:=by rfl) :
  PE X (.Call (.Name x p) (e :: es) [] pos) (tP (jJ (λds=>F (ds++[dd])) pl)):=yT (zK6 c hr hg ha hdb he hpl) λσ H Q ⟨Z,Γ,R,E,h,q⟩=>
 ⟨Z,Γ,_,E,h,λds vs H1 hd' s1 hv=>⟨Z,ds++[dd],R,(E.same s1).zd,ZF hv (.cons (hd _) .nil),hd',λd v H2 h2 s2 hv2=>q d v H2 h2 (s1.trans s2) hv2⟩⟩
def YA (K:PySem.W.Frag) (f:Str):D->(D->Prop)->Prop
 | .obj c ns ds,R=>zR3 K c f/\∃ d,(ns.zip ds).lookup f=some d/\R d
 | _,_=>False
theorem zHt {H:Hp} {f:Str} {d:D}:∀ {ns:List Str} {xs:List V} {ds:List D},ns.length=xs.length->yO H xs ds->(ns.zip ds).lookup f=some d->∃ v,(ns.zip xs).lookup f=some v/\DV H v d
 | [],_,_,_,_,h=>nomatch h
 | _ :: _,[],_,h,_,_=>nomatch h
 | n :: ns,x :: xs,_,h,.cons (b:=d') (l₂:=dt) k t,q=>by
  change (match f == n with | true=>some d' | false=>(ns.zip dt).lookup f)=some d at q
  show ∃ v,(match f == n with | true=>some x | false=>(ns.zip xs).lookup f)=some v/\_
  cases e:f == n with
  | true=>rw [e] at q; cases q; exact ⟨x,rfl,k⟩
  | false=>rw [e] at q; exact zHt (Nat.succ.inj h) t q
theorem xJ (K:PySem.W.Frag) {f:Str} (ha:PE X e (tP pa)) (hb:attributeBase e f X.env (eval e X.env)=eval e X.env) (hK:X.K=K:=by rfl):PE X (.Attribute e f pos) (tP (ZY (YA K f) pa)):=yT (zQ1 ha hb) λσ H Q ⟨Z,Γ,R,E,h,q⟩=>
 ⟨Z,Γ,_,E,h,λd v H1 hd s1 hv=>by
  unfold YA at hd
  split at hd
  ·obtain ⟨hk,d',hl,hR⟩:=hd
   cases hv with
   | obj e1 l1 h1=>
    obtain ⟨v,e2,dv⟩:=zHt l1 h1 hl
    exact ⟨_,_,_,_,v,rfl,yJ _ _ e1,by rw [hK]; exact hk.1,by rw [hK]; exact hk.2,e2,q _ _ H1 hR s1 dv⟩
  ·exact hd.elim⟩
def zRN (C:Addr) (m:Str) (F:FL):D->(D->Prop)->Prop
 | .obj c ns ds,R=>c=C/\m∉ns/\F [.obj c ns ds] R
 | _,_=>False
theorem Xj {f:Str}:∀ {ns:List Str} {xs:List V},f∉ns->(ns.zip xs).lookup f=none
 | [],_,_=>rfl
 | _ :: _,[],_=>rfl
 | n :: ns,x :: xs,h=>by
  show (match f == n with | true=>some x | false=>(ns.zip xs).lookup f)=none
  have e:(f == n)=false:=beq_eq_false_iff_ne.mpr λz=>h (by rw [z]; exact List.mem_cons_self)
  rw [e]
  exact Xj λz=>h (List.mem_cons_of_mem _ z)
theorem jR {x m:Str} {ps:List Str} {k:Nat} {F:FL} {apos:Pos} {pl:Sem Bool} (c:vL X.prog X.w X.K X.mg X.base C m ps k (zG F)) (T:xx X.K X.mg x C) (hr:zW k X.A) (ha:PE X e (tP pa))
  (ht:eval (.Call (.Attribute e m apos) [] [] pos) X.env=(do
   let ov <- eval e X.env
   standAt apos.atName
   let (f,first) <- holding [ov] (getMethod ov m pl)
   callWith pos f first (backTo pos (starEach [] X.env)) (backToKw pos (keywordEach [] X.env))):=by rfl) :
  PE X (.Call (.Attribute e m apos) [] [] pos) (tP (ZY (zRN C m F) pa)):=yT (zK4 c T hr ha ht) λσ H Q ⟨Z,Γ,R,E,h,q⟩=>
 ⟨Z,Γ,_,E,h,λd v H1 hd s1 hv=>by
  unfold zRN at hd
  split at hd
  ·obtain ⟨rfl,hm,hR⟩:=hd
   have hv0:=hv
   cases hv with
   | obj e1 l1 h1=>exact ⟨_,_,_,rfl,yJ _ _ e1,Xj hm,Z,_,R,(E.same s1).zd,.cons hv0 .nil,hR,λd v H2 h2 s2 hv2=>q d v H2 h2 (s1.trans s2) hv2⟩
  ·exact hd.elim⟩
def zRe (K:PySem.W.Frag) (C:Addr):D->(D->Prop)->Prop
 | .obj c _ _,R=>(∃ mg x,xx K mg x c)/\∃ b,PySem.W.kitOne K (.ref c) (.ref C)=some b/\R (.bool b)
 | _,_=>False
theorem zMX {K:PySem.W.Frag} (σ:St) (H:Hp) (Q:VK):tP (ZY (zRe K C) pa) σ H Q->qO (zN4 K) (uB (tP pa) (uB (tC (.ref C)) wW)) σ H Q:=λ⟨Z,Γ,R,E,h,q⟩=>
 ⟨Z,Γ,_,E,h,λd v H1 hd s1 hv=>by
  unfold zRe at hd
  split at hd
  ·obtain ⟨⟨mg,x,T⟩,b,hk,hR⟩:=hd
   cases hv with
   | obj e1 l1 h1=>exact ⟨_,_,_,b,rfl,T.ty (yJ _ _ e1),hk,q _ _ H1 hR s1 (.bool _)⟩
  ·exact hd.elim⟩
def YB (pa:zu):xG:=λT Γ=>pa Γ λ_=>T.nx Γ
theorem zJC (he:PE X e (tP pa)) (hs:swapsWith e none pos.line X.env=pure false:=by rfl):PS X (.Expr e pos) (yV (YB pa)):=yb (wm he hs) λD σ H ⟨Z0,H0,Z,Γ,Dp,E,h,nx,rt,bk,ct⟩=>
 ⟨Z,Γ,_,E.e,h,λd v H1 hd s1 hv=>nx Z Γ σ H1 (E.mv s1) (yr s1) hd⟩
end
end Pu
namespace Pu
open PySem L2 Sh
variable [yU]
def u3 (k:Nat):List D->List D
 | []=>[]
 | d :: t=>yt (.int (k:Int)) d :: u3 (k + 1) t
theorem j5:∀ (k:Nat) (ds:List D),(u3 k ds).length=ds.length
 | _,[]=>rfl
 | k,_ :: t=>congrArg (· + 1) (j5 (k + 1) t)
theorem qt:∀ {k:Nat} {ds:List D} {i:Nat} {e:D},(u3 k ds)[i]? = some e->∃ d,ds[i]? = some d/\e=yt (.int ((k + i:Nat):Int)) d
 | _,[],_,_,h=>by simp [u3] at h
 | k,d :: t,0,e,h=>⟨d,rfl,by simp [u3] at h; exact h.symm⟩
 | k,d :: t,i + 1,e,h=>by
  obtain ⟨d',h1,h2⟩:=qt (k:=k + 1) (ds:=t) (i:=i) (e:=e) (by simpa [u3] using h)
  exact ⟨d',by simpa using h1,by rw [h2,show k + 1 + i=k + (i + 1) by omega]⟩
def jS:List D->(List D->Prop)->Prop
 | [.lst ds],R=>R ds
 | _,_=>False
section
variable {X:Cx} {e1 e2:Expr} {pos:Pos} {pb:zu} {pl:yg}
end
end Pu
namespace L2
open PySem PySem.Spec PyProof.Rows
theorem zMI:bootBuiltins "min" = some (.builtin "min"):=by decide +kernel
section
variable {X:Cx}
end
end L2
namespace Pu
open PySem L2 Sh
variable [yU]
open PyProof.Rows (envOfC)
section
variable {X:Cx} {e a b:Expr} {es:List Expr} {st:Stmt} {sts:List Stmt} {pos:Pos} {pa pb:zu} {pl:yg} {p q:xG}
end
variable {P:Program} {w:World} {K:PySem.W.Frag} {mg:Str->Option Value} {base:Heap}
section
variable {X:Cx} {a b:Expr} {pos:Pos} {pa pb:zu}
end
end Pu
namespace Pu
open PySem L2 Sh
variable [yU]
section
variable {X:Cx} {a:Expr} {pos:Pos} {pa:zu}
end
inductive JD (ds:List D) (T:D->(Bool->Prop)->Prop) (G:D->(D->Prop)->Prop) (R:D->Prop):Prop
 | mk (few:ds.length<=1000) (f:D->Bool) (F:D->D->Prop) (t:∀ d,d∈ds->T d λb=>b=f d) (h:∀ d,d∈ds->f d=true->G d (F d)) (q:∀ es,Paired F (ds.filter f) es->R (.lst es)):JD ds T G R
section
variable {X:Cx} {scope:Scope} {own:List Str} {caps:List (Nat × Str)} {tg iter elt cond:Expr} {pos:Pos} {pi:yg} {po:D->Option (List D)} {pt:wY} {pe:zu} {js:List Nat}
end
def zPF (i:Nat) (ow:Bool) (caps:List Nat) (pi:yg) (po:D->Option (List D)) (pt:wY) (pe:zu):xG:=λT Γ=>pi Γ λds=>JD ds (λd S=>ux (po d) λos=>pt (os.map Sl.sh++caps.map λj=>un (slot Γ j)) S) (λd S=>ux (po d) λos=>pe (os.map Sl.sh++caps.map λj=>un (slot Γ j)) S) λd=>Z7 d λes=>T.nx (zt Γ i (match ow with | true=>.ow es | false=>.sh (.lst es)))
theorem zKl {X:Cx} {pos:Pos} (i:Nat) (ow:Bool) {scope:Scope} {own:List Str} {caps:List (Nat × Str)} {tg iter elt cond:Expr} {pi:yg} {po:D->Option (List D)} {pt:wY} {pe:zu} {js:List Nat} {y:Str} {py spos:Pos} (hN:X.N.Nodup) (hy:X.N[i]? = some y) (hl:X.env.scope.names.lookup y=some .local) (B:vo X scope own caps) (hc:X.calm=true) (hj:js=List.range' 0 own.length) (hk:∀ d os,po d=some os->os.length=js.length)
  (hi:PI X tg iter (uz pi)) (hg:∀ C s₀ H₀ ex,PG (y8 X scope (zn own caps) C s₀ H₀ ex) tg (tG js po)) (ht:∀ C s₀ H₀ ex,PT (y8 X scope (zn own caps) C s₀ H₀ ex) cond (xW pt)) (he:∀ C s₀ H₀ ex,PE (y8 X scope (zn own caps) C s₀ H₀ ex) elt (tP pe)) (hsw:swapsWith (.ListComp elt [⟨tg,iter,[cond],0⟩] scope pos) (some (.Name y py)) spos.line X.env=pure true) (hs:∀ x,foldedSetIterable iter X.env x=pure x:=by intro _; rfl) :
  PS X (.Assign [.Name y py] (.ListComp elt [⟨tg,iter,[cond],0⟩] scope pos) spos) (yV (zPF i ow (caps.map (·.1)) pi po pt pe)):=yb (zJH hN hy hl B hc hi hg (.inr ⟨_,rfl⟩) ht he hsw hs) λD σ H ⟨Z0,H0,Z,Γ,Dp,E,h,nx,rt,bk,ct⟩=>
 ⟨Z,Γ,_,E.e,h,λds J H1 ⟨fw,f,F,hT,hF,hR⟩ s1 wk=>zJX (E.e.same s1) (E.e.same s1) (λ_ z=>z) wk hj hk fw hT hF λes ys H' l h1 s2 h2 hp=>by
  have E1:=(E.mv s1).mv s2
  cases ow with
  | true=>
   obtain ⟨E2,s3⟩:=E1.make hp h2 i
   exact nx _ _ _ _ E2 ((yr (s1.trans s2)).trans s3) (hR es h1)
  | false=>exact nx Z _ _ _ ((E1.mv (wC hp _)).set (uZ E1.e.zd hp h2) i) (yr (s1.trans (s2.trans (wC hp _)))) (hR es h1)⟩
end Pu
namespace L2
open PySem PySem.Spec PyProof.Rows
structure Zt (z TI TO i1 i2 i3:Addr) (f1 f2 f3:List Addr):Prop where
 zI:TI≠z
 zO:TO≠z
 z1:i1≠z
 z2:i2≠z
 z3:i3≠z
 IO:TI≠TO
 I1:TI≠i1
 I2:TI≠i2
 I3:TI≠i3
 O1:TO≠i1
 O2:TO≠i2
 O3:TO≠i3
 n1:z∉f1
 n2:z∉f2
 n3:z∉f3
 o1:TO∉f1
 o2:TO∉f2
 o3:TO∉f3
 e12:i1∉f2
 e13:i1∉f3
 e21:i2∉f1
 e23:i2∉f3
 e31:i3∉f1
 e32:i3∉f2
section
variable {prog:Program} {w:World} {A:Around} {E:Value->Shared->Prop} {s:Shared}
end
end L2
namespace L2
open PySem PySem.Spec PyProof.Rows
section
variable {prog:Program} {w:World} {A:Around} {E:Value->Shared->Prop} {s:Shared}
end
section
variable {X:Cx} {es:List Expr} {kk:Nat} {tp:Pos}
end
end L2
namespace Pu
open PySem L2 Sh
variable [yU]
section
variable {X:Cx} {a b:Expr} {pos:Pos} {pa pb:zu}
end
end Pu
namespace Pu
open PySem L2 Sh
variable [yU]
def zRO:FL
 | [.lst ds],R=>∃ ns:List Int,ds=ns.map D.int/\0 < ns.length/\∀ M,M∈ns->(∀ a∈ns,a<=M)->R (.int M)
 | _,_=>False
theorem zNh {K:PySem.W.Frag}:uH (λxs H Q=>∃ (p:Addr) (ns:List Int),xs=[.ref p]/\zo K H p (ns.map V.int)/\0 < ns.length/\∀ M,M∈ns->(∀ a∈ns,a<=M)->Q (.int M) H) zRO:=λZ H vs ds R Q zd hv h q=>by
 unfold zRO at h
 split at h
 ·obtain ⟨v,rfl,hw⟩:=yy hv
  obtain ⟨p,xs,rfl,e1,h1⟩:=hw.lst_inv
  obtain ⟨ns,rfl,l0,h⟩:=h
  cases ZT h1
  exact ⟨p,ns,rfl,zo.of (yJ _ _ e1),l0,λM m1 m2=>q _ _ H (h M m1 m2) (Sm.refl _) (.int _)⟩
 ·exact h.elim
end Pu
namespace Pu
open PySem L2 Sh
variable [yU]
section
variable {X:Cx} {a b c:Expr} {pos:Pos} {pa pb pc:zu}
end
end Pu
namespace L2
open PySem PySem.Spec PyProof.Rows
def JE (P:Program) (w:World) (K:PySem.W.Frag) (mg:Str->Option Value) (base:Heap) (x y qual:Str) (scope:Scope) (q:Addr) (cd:Value) (clos:List (Str × Addr)) (A:Around) (outer:List Env) (s:Shared) (H:Hp):Cx where
 prog:=P
 w:=w
 K:=K
 mg:=mg
 base:=base
 A:=A.deeper (PySem.W.envX qual scope s.heap.objs.size q cd clos)
 N:=[x,y]
 s₀:=s
 H₀:=H
 env:=PySem.W.envX qual scope s.heap.objs.size q cd clos
 outer:=outer
 stack:=PySem.W.envX qual scope s.heap.objs.size q cd clos :: outer
 ex:=[]
 fn:=λ_=>false
 calm:=true
 pn:=[]
 xe:=λ_ _=>False
theorem WB {x y z:Str} {c cy:Addr} (h:[(y,cy)].lookup z=some c):z=y/\c=cy:=by
 rw [List.lookup_cons] at h
 split at h
 ·rename_i e
  exact ⟨eq_of_beq e,(Option.some.inj h).symm⟩
 ·cases h
theorem zPb {P:Program} {w:World} {K:PySem.W.Frag} {mg:Str->Option Value} {base:Heap} {A:Around} {outer:List Env} {s:Shared} {H:Hp} {k:Nat} {x y name qual:Str} {params:Arguments} {body:Expr} {scope:Scope} {cy q c':Addr} {pm ctv u uy:Value}
  {v vy:V} {t:TE} {Q:VK} (hsc:scope.names=[(x,.local),(y,.free)]) (hxy:x≠y) (hk:scope.kind=.function) (hco:scope.isCoroutine=false) (hgen:scope.isGenerator=false) (hr:zW (k + 1) A) (e0:xw P w K mg base A outer s H)
  (hq:s.heap.get? q=some (PySem.W.kla_obj name qual params body scope [(y,cy)] pm c' ctv)) (hcd:s.heap.CodeRec (.ref c') qual)
  (hbind:bindArgs (PySem.W.kla_fn name qual params body scope [(y,cy)] pm (.ref c') ctv) ⟨[u],[]⟩=pure [(x,u)]) (hc:s.heap.IsCell cy (some uy)) (hn:H cy=none) (ru:zU v u) (ry:zU vy uy)
  (hb:PE (JE P w K mg base x y qual scope q (.ref c') [(y,cy)] A outer s H) body t) (ht:t [some v,some vy] H Q):wpAny (model P w) A (call (.ref q) [u]) (CE outer P w H s Q) (λ_ _=>False) s:=by
 have lx:scope.names.lookup x=some .local:=by rw [hsc,List.lookup_cons,beq_self_eq_true]
 have ly:scope.names.lookup y=some .free:=by
  rw [hsc,List.lookup_cons,(by simpa using hxy.symm:(y == x)=false),List.lookup_cons,beq_self_eq_true]
 refine wpAny_call (PySem.W.kla_callFunE hr.depth hq rfl hco hgen rfl hcd ?_)
 rw [hbind]
 refine wpAny_pure (wpAny_newFunctionEnv (λz hz=>?_) (λz hz=>?_) (λh1 hns hsb=>?_) hk)
 ·have hz':z∈scope.names:=hz
  rw [hsc] at hz'
  rcases List.mem_cons.mp hz' with rfl | hz'
  ·exact λe=>by cases e
  ·rw [List.mem_singleton.mp hz']; exact λe=>by cases e
 ·rw [List.mem_singleton.mp hz]
  exact lx
 have k1:∀ b o,s.heap.get? b=some o->h1.get? b=some o:=λb o e=>hsb.extBut b o (Nat.ne_of_lt (Heap.lt_size e)) (Heap.get?_push_of_some _ e)
 refine ⟨(e0.mod.nolimit.keeps λb o e=>(e0.bs b o e).1).keeps k1,?_⟩
 show codeAny _ _ (.expr body (PySem.W.envX qual scope s.heap.objs.size q (.ref c') [(y,cy)])) _ _
 refine PySem.W.kla_codeExpr ?_
 have noA:∀ b:Addr,b∉(JE P w K mg base x y qual scope q (.ref c') [(y,cy)] A outer s H).ex:=λb z=>absurd (show b∈([]:List Addr) from z) (by simp)
 have I:zE (JE P w K mg base x y qual scope q (.ref c') [(y,cy)] A outer s H) [] [some v,some vy] H { s with heap:=h1,toks:=s.toks + [(x,u)].length }:=by
  refine ⟨⟨e0.mod,hk,rfl,rfl,Nat.le_refl _,λa b c h1 h2=>?_,λa ha=>?_,λa c h _=>(by cases h),λ_=>hr.hd,Around.frames_deeper e0.frames,.inr ⟨rfl,rfl⟩,λb z=>absurd z (noA b),e0.bs,e0.bsz,λb _ _=>noA b,λb z=>absurd z (noA b),e0.funs,e0.frf⟩,
   rfl,e0.bare,Un.kept k1,⟨_,hns,λi a v' h1 h2 h3=>?_⟩,λa c h=>?_,e0.hok.fresh (Nat.le_refl _),λa c h=>?_,λp hp=>absurd (show p∈([]:List (Addr × Obj)) from hp) (by simp),e0.hok.kept k1,rfl⟩
  ·rw [(WB (x:=x) h1).1,(WB (x:=x) h2).1]
  ·have ha':scope.names.lookup a=some .cell\/scope.names.lookup a=some .free:=ha
   rw [hsc] at ha'
   have:a=y:=by
    rw [List.lookup_cons] at ha'
    split at ha'
    ·rcases ha' with z | z <;> cases z
    ·rw [List.lookup_cons] at ha'
     split at ha'
     ·rename_i e
      exact eq_of_beq e
     ·rcases ha' with z | z <;> cases z
   exact ⟨cy,by show [(y,cy)].lookup a=some cy; rw [this,List.lookup_cons,beq_self_eq_true]⟩
  ·match i,h1,h2 with
   | 0,h1,h2=>
    cases h1
    cases h2
    exact ⟨u,ru,.inl ⟨lx,by show List.lookup x [(x,u)]=some u; rw [List.lookup_cons,beq_self_eq_true]⟩⟩
   | 1,h1,h2=>
    cases h1
    cases h2
    refine ⟨uy,ry,.inr ⟨.inr ly,cy,?_,?_⟩⟩
    ·show [(y,cy)].lookup y=some cy
     rw [List.lookup_cons,beq_self_eq_true]
    ·obtain ⟨o,ho,hd⟩:=hc
     exact ⟨o,k1 _ _ ho,hd⟩
   | i + 2,h1,h2=>cases h1
  ·obtain ⟨_,rfl⟩:=WB (x:=x) h
   obtain ⟨o,ho,hd⟩:=hc
   exact ⟨_,o,k1 _ _ ho,hd⟩
  ·obtain ⟨_,rfl⟩:=WB (x:=x) h
   exact hn
 exact wpAny_mono (hb [] _ _ H Q I ht) (λu' s' ⟨v',H',J,rv,q'⟩=>⟨v',H',J.os,J.bare,J.base,J.hok,rv,q'⟩) λ_ _ z=>z.elim
structure wf (base:Heap) (mg:Str->Option Value) (c P:Addr):Prop where
 hd:PySem.W.CodeHd base c P
 bm:∃ bm o,mg "__builtins__" = some (.ref bm)/\bm≠builtinsNs/\bm≠mainGlobals/\base.get? bm=some o/\o.cls=.type "module"/\o.dict=some builtinsNs/\o.data=.plain
def gj (q:Str) (c':Addr):HO:=.ext λh=>h.CodeRec (.ref c') q
def yI (P:Addr) (q:Str) (pos:Pos) (H:Hp):Prop:=H P=some (.tbl #[])\/∃ c',H P=some (.tbl #[rawInt pos.line,rawInt pos.col,.ref c'])/\H c'=some (gj q c')
theorem yI.same {P:Addr} {q:Str} {pos:Pos} {H H':Hp} (h:yI P q pos H) (s:zP H H'):yI P q pos H':=by
 rcases h with h | ⟨c',h1,h2⟩
 ·exact .inl (s _ _ h)
 ·exact .inr ⟨c',s _ _ h1,s _ _ h2⟩
theorem zRz (pos:Pos) (c:Value):codeAmong pos [rawInt pos.line,rawInt pos.col,c]=some c:=by
 have z:=codeAmong_snoc (pos:=pos) (c:=c) [] trivial rfl
 exact z
theorem zNO {X:Cx} {pins:List (Addr × Obj)} {σ:St} {H:Hp} {s:Shared} {params:Arguments} {body:Expr} {scope:Scope} {lpos:Pos} {c P:Addr} {clos:List (Str × Addr)} {R:Value->Shared->Prop} {E:Value->Shared->Prop}
  (hcl:closureFor scope X.env=pure clos) (hdef:defaultsOf params X.env=([],[])) (hcode:X.env.code=.ref c) (T:wf X.base X.mg c P) (I:zE X pins σ H s) (hH:yI P (X.env.qual++"<lambda>") lpos H)
  (h:∀ (q c':Addr) (pm ctv:Value) (H':Hp) (s':Shared),Sh.uX [P] H H'->yI P (X.env.qual++"<lambda>") lpos H'->H' c'=some (gj (X.env.qual++"<lambda>") c')->
   zE X ((q,PySem.W.kla_obj "<lambda>" (X.env.qual++"<lambda>") params body scope clos pm c' ctv) :: pins) σ H' s'->R (.ref q) s') :
  wpAny (model X.prog X.w) X.A (eval (.Lambda params body scope lpos) X.env) R E s:=by
 have hPn:H P≠none:=by
  rcases hH with z | ⟨_,z,_⟩ <;> rw [z] <;> exact λe=>by cases e
 have nP:∀ b o,X.base.get? b=some o->b≠P:=λb o e z=>hPn (by rw [<- z]; exact (I.bs b o e).2)
 obtain ⟨bm,ob,b1,b2,b3,b4,b5⟩:=T.bm
 have hgs:=I.mod.glob.keeps I.bk
 have gP:mainGlobals≠P:=by
  obtain ⟨o,_,_,e,_⟩:=I.mod.glob
  exact nP _ o e
 have hb:s.heap.BuiltinsAt X.mg P:=⟨bm,ob,b1,b2,b3,nP _ _ b4,I.bk _ _ b4,b5⟩
 have C:PySem.W.CodeHd s.heap c P:=T.hd.keeps I.bk
 refine PySem.W.kla_eval hdef ?_
 have fin:∀ (H':Hp) (h':Heap) (tk:Nat) (c':Addr) (ctv:Value),Sh.uX [P] H H'->yI P (X.env.qual++"<lambda>") lpos H'->H' c'=some (gj (X.env.qual++"<lambda>") c')->
   zE X pins σ H' { s with heap:=h',toks:=tk }->R (.ref h'.objs.size) { s with heap:=h'.push (PySem.W.kla_obj "<lambda>" (X.env.qual++"<lambda>") params body scope clos ((X.mg "__name__").getD .none) c' ctv),toks:=tk }:=λH' h' tk c' ctv z1 z2 z3 J=>by
  have J2:zE X pins σ H' { s with heap:=h'.push (PySem.W.kla_obj "<lambda>" (X.env.qual++"<lambda>") params body scope clos ((X.mg "__name__").getD .none) c' ctv),toks:=tk }:=J.kept λb u e=>Heap.get?_push_of_some _ e
  refine h _ c' ((X.mg "__name__").getD .none) ctv H' _ z1 z2 z3 (J2.pins_of λp hp=>?_)
  rcases List.mem_cons.mp hp with rfl | hp
  ·have F:=J.fpOk (b:=h'.objs.size) (Nat.le_refl _) (J.hok.fresh (Nat.le_refl _))
   exact ⟨Heap.get?_push_size _ rfl,F.1,F.2.1,F.2.2.1,λv e=>by cases e⟩
  ·exact J2.pin p (List.mem_append_right _ hp)
 rcases hH with hH | ⟨c',hH,hc'⟩
 ·have hP:s.heap.get? P=some (PySem.W.tabObj #[]):=I.hok P _ hH
  refine PySem.W.kla_makeFunction (mg:=X.mg) hcl I.ok.glob hgs hcode C hP trivial rfl gP hb λc' ctv h' tk hx hge hlt hrec htb=>?_
  have hcP:c'≠P:=λz=>absurd (Heap.lt_size hP) (by rw [<- z]; exact Nat.not_lt.mpr hge)
  have hcn:H c'=none:=I.hok.fresh hge
  have hT:∀ b u,b≠P->b≠c'->(zb (zb H P (.tbl #[rawInt lpos.line,rawInt lpos.col,.ref c'])) c' (gj (X.env.qual++"<lambda>") c') b=u ↔ H b=u):=λb u n1 n2=>by rw [zv n2,zv n1]
  have hTP:zb (zb H P (.tbl #[rawInt lpos.line,rawInt lpos.col,.ref c'])) c' (gj (X.env.qual++"<lambda>") c') P=some (.tbl #[rawInt lpos.line,rawInt lpos.col,.ref c']):=by rw [zv (Ne.symm hcP),xb]
  have ne1:∀ b,H b=none->b≠P:=λb e z=>hPn (by rw [<- z]; exact e)
  have ne2:∀ b o,s.heap.get? b=some o->b≠c':=λb o e=>Nat.ne_of_lt (Nat.lt_of_lt_of_le (Heap.lt_size e) hge)
  have ne3:∀ b u,H b=some u->b≠c':=λb u e z=>by rw [z,hcn] at e; cases e
  have ne4:∀ b u,H b=some u->u≠.tbl #[]->b≠P:=λb u e n z=>by rw [z,hH] at e; cases e; exact n rfl
  refine fin _ h' tk c' ctv ?_ (.inr ⟨c',hTP,xb⟩) xb (I.un (H':=zb (zb H P (.tbl #[rawInt lpos.line,rawInt lpos.col,.ref c'])) c' (gj (X.env.qual++"<lambda>") c')) ⟨λb o e n _ _=>hx b o (ne1 b n) e,λb o e n _ _=>⟨o.slots,hx b o (ne1 b n) e⟩,λb o e n _=>(hT b _ (ne1 b n) (ne2 b o e)).mpr n,λb o e _=>?_,λb xs e=>(hT b _ (ne4 b _ e (by intro z; cases z)) (ne3 b _ e)).mpr e,λb o u e=>(hT b _ (ne4 b _ e (by intro z; cases z)) (ne3 b _ e)).mpr e,λb ps e=>?_⟩ λb u e=>?_)
  ·intro b u e nb
   exact (hT b _ (λz=>nb (by rw [z]; exact List.mem_singleton.mpr rfl)) (ne3 b _ e)).mpr e
  ·by_cases z:b=P
   ·exact ⟨_,by rw [z]; exact htb⟩
   ·exact ⟨o,hx b o z e⟩
  ·by_cases z:b=P
   ·rw [z,hH] at e
    cases e
    exact ⟨_,by rw [z,hTP,Array.empty_append]⟩
   ·exact ⟨#[],by rw [(hT b _ z (ne3 b _ e)).mpr e,Array.append_empty]⟩
  ·by_cases z:b=c'
   ·rw [z,xb] at e
    cases e
    obtain ⟨c2,o,vs,t,e2,ho,hd⟩:=id hrec
    cases e2
    rw [z]
    exact ⟨hrec,⟨o,ho⟩,λh1 h2 ⟨c3,o3,vs3,t3,e3,ho3,hd3⟩ k=>by cases e3; exact ⟨_,o3,vs3,t3,rfl,k _ ho3,hd3⟩⟩
   ·by_cases z2:b=P
    ·rw [z2,hTP] at e
     cases e
     rw [z2]
     exact htb
    ·have e':=(hT b _ z2 z).mp e
     refine (I.hok b u e').stay (λa v ha q=>hx a v ?_ q) (λa q=>(hT a _ (ne4 a _ q (by intro z; cases z)) (ne3 a _ q)).mpr q) λa xs q=>(hT a _ (ne4 a _ q (by intro z; cases z)) (ne3 a _ q)).mpr q
     rcases ha with ha | ha
     ·rw [ha]; exact z2
     ·exact ne4 a _ ha (by intro z; cases z)
 ·have hP:s.heap.get? P=some (PySem.W.tabObj #[rawInt lpos.line,rawInt lpos.col,.ref c']):=I.hok P _ hH
  refine PySem.W.kla_makeFunctionHit (mg:=X.mg) hcl I.ok.glob hgs hcode C hP (by simp [TriplesOk,rawInt]) (zRz lpos _) hb λctv h' tk hk hsz=>?_
  exact fin H h' tk c' ctv (Sh.uX.refl _ _) (.inr ⟨c',hH,hc'⟩) hc' (I.kept hk)
abbrev YC (X:Cx) (σ:St) (H:Hp) (q:Addr) (qo:Obj) (ns:List Int) (kf:Int->Int):Prop:=
 ∀ n∈ns,∀ (t:Tok) (pins:List (Addr × Obj)) (s:Shared),(q,qo)∈pins->zE X pins σ H s->
  wpAny (model X.prog X.w) X.A.in1 (call (.ref q) [.int n t]) (λu s'=>(∃ t',u=.int (kf n) t')/\zE X pins σ H s') (λ_ _=>False) s
section
variable {X:Cx} {σ:St} {H:Hp} {pins:List (Addr × Obj)} {q l It S:Addr} {qo:Obj} {ns:List Int} {kf:Int->Int} {R:Result->Shared->Prop}
theorem zHr {s:Shared} {oI oS:Obj} (I:zE X pins σ H s) (FI:yN X pins H It) (FS:yN X pins H S) (hI:s.heap.get? It=some oI) (dI:∀ v,oI.data≠.cell v) (hS:s.heap.get? S=some oS) (dS:∀ v,oS.data≠.cell v):zE X ((It,oI) :: (S,oS) :: pins) σ H s:=
 I.pins_of λp hp=>by
  rcases List.mem_cons.mp hp with rfl | hp
  ·exact ⟨hI,FI.1,FI.2.1,FI.2.2.1,dI⟩
  ·rcases List.mem_cons.mp hp with rfl | hp
   ·exact ⟨hS,FS.1,FS.2.1,FS.2.2.1,dS⟩
   ·exact I.pin p (List.mem_append_right _ hp)
theorem zHs {s:Shared} {a b:Addr × Obj} (I:zE X (a :: b :: pins) σ H s):zE X pins σ H s:=I.pins_of λp hp=>I.pin p (List.mem_append_right _ (.tail _ (.tail _ hp)))
theorem zLY (hc:X.calm=true) (hl:zo X.K H l (ns.map V.int)) (hlI:l≠It) (hSI:S≠It) (FI:yN X pins H It) (FS:yN X pins H S) (hq:(q,qo)∈pins) (turn:YC X σ H q qo ns kf)
  (hR:∀ n∈ns,(∀ m∈ns,kf n<=kf m)->∀ t s',zE X pins σ H s'->R (.ok (.ret (.int n t))) s') :
  ∀ (r j:Nat) (n:Int) (tn tb:Tok) (c:Nat) (s:Shared),ns.length - j=r->j<=ns.length->n∈ns->(∀ i m,i < j->ns[i]? = some m->kf n<=kf m)->zE X pins σ H s->s.heap.IsListIter It l j->s.heap.get? S=some (seqObj "list" #[.int n tn,.int (kf n) tb] c)->
   codeAny (model X.prog X.w) X.A (.builtin "min.loop" ⟨[.ref It,.ref q,.ref S],[(Str.ofString "default",.none)]⟩) R s:=by
 have hname:(toString "min"++toString ".loop" : String) = "min.loop":=by decide
 intro r
 induction r with
 | zero=>
  intro j n tn tb c s hr hj hn hbest I hit hS
  obtain ⟨its,rv,pl,hz⟩:=I.list hl
  have hsz:its.toArray.size=ns.length:=by rw [List.size_toArray,<- rv.length,List.length_map]
  have W:=Walks.list (prog:=X.prog) (w:=X.w) (A:=X.A.in1) (I.ok.hd hc) It l hlI its.toArray
  refine codeAny_builtin PySem.F.entry_min_loop ?_
  rw [Around.under_plainId PySem.F.plain_min_loop _]
  show wpAny _ X.A.in1 (seqItems? (.ref S) >>= _) _ _ _
  refine wpAny_bind (wpAny_seqItems hS rfl ?_)
  show wpAny _ X.A.in1 (tryCatch (pyNext (.ref It)) _ >>= _) _ _ _
  refine wpAny_bind (wpAny_tryCatch (W.done _ _ _ ⟨by rw [hsz,show ns.length=j by omega]; exact hit,pl.isList⟩ λh' tk' hk'=>?_))
  have I1:zE X pins σ H { s with heap:=h',toks:=tk' }:=I.turned (it:=It) (λb o hb e=>hk' b o (by simpa using hb) e) FI.1 FI.2.1 FI.2.2.2.1 FI.2.2.2.2.1 FI.2.2.2.2.2
  have hS':h'.get? S=_:=hk' S _ (by simpa using hSI) hS
  have s1:=Heap.SameBut.update h' S (Obj.mapSeq λ_=>(#[]:Array Value))
  show wpAny _ X.A.in1 (updateSeq S (λ_=>#[]) >>= _) _ _ _
  refine wpAny_bind ?_
  refine wpAny_updateSeq hS' rfl (wpAny_bind (wpAny_letGo (wpAny_pure ?_)))
  exact hR n hn (λm hm=>by
   obtain ⟨i,hi,e⟩:=List.getElem_of_mem hm
   exact hbest i m (by omega) (by rw [<- e]; exact List.getElem?_eq_getElem hi)) tn _ (I1.turned (it:=S) (λb o hb e=>(s1.2 b hb).trans e) FS.1 FS.2.1 FS.2.2.2.1 FS.2.2.2.2.1 FS.2.2.2.2.2)
 | succ r ih=>
  intro j n tn tb c s hr hj hn hbest I hit hS
  obtain ⟨its,rv,pl,hz⟩:=I.list hl
  have hsz:its.toArray.size=ns.length:=by rw [List.size_toArray,<- rv.length,List.length_map]
  have hlt:j < ns.length:=by omega
  have W:=Walks.list (prog:=X.prog) (w:=X.w) (A:=X.A.in1) (I.ok.hd hc) It l hlI its.toArray
  refine codeAny_builtin PySem.F.entry_min_loop ?_
  rw [Around.under_plainId PySem.F.plain_min_loop _]
  show wpAny _ X.A.in1 (seqItems? (.ref S) >>= _) _ _ _
  refine wpAny_bind (wpAny_seqItems hS rfl ?_)
  show wpAny _ X.A.in1 (tryCatch (pyNext (.ref It)) _ >>= _) _ _ _
  refine wpAny_bind (wpAny_tryCatch (W.item j _ _ _ (by rw [hsz]; exact hlt) ⟨hit,pl.isList⟩ λv h' tk' hP hst' hk'=>?_))
  have em:ns[j]? = some (ns[j]'hlt):=List.getElem?_eq_getElem hlt
  generalize ns[j]'hlt=m at em
  obtain ⟨w',ew,t,rfl⟩:=rv.get (show (ns.map V.int)[j]? = some (.int m) by rw [List.getElem?_map,em]; rfl)
  obtain rfl:v=.int m t:=by
   have:its[j]? = some v:=by simpa using hP
   rw [ew] at this
   exact (Option.some.inj this).symm
  have hm:m∈ns:=List.mem_of_getElem? em
  have I1:zE X pins σ H { s with heap:=h',toks:=tk' }:=I.turned (it:=It) (λb o hb e=>hk' b o (by simpa using hb) e) FI.1 FI.2.1 FI.2.2.2.1 FI.2.2.2.2.1 FI.2.2.2.2.2
  obtain ⟨oI',hoI',hoc,hod⟩:=id hst'.1
  have J:=zHr I1 FI FS hoI' (λv e=>by rw [hod] at e; cases e) (hk' S _ (by simpa using hSI) hS) (λv e=>by cases e)
  show wpAny _ X.A.in1 (tryCatch (holding [.int m t] (call (.ref q) [.int m t])) _ >>= _) _ _ _
  refine wpAny_bind (wpAny_tryCatch (wpAny_holding (wpAny_mono (turn m hm t _ _ (.tail _ (.tail _ hq)) J) (λx s2 he=>?_) λ_ _ hF=>hF.elim)))
  obtain ⟨⟨t2,rfl⟩,J2⟩:=he
  have nI2:=(J2.pin _ (List.mem_append_right _ (.head _))).1
  have nS2:=(J2.pin _ (List.mem_append_right _ (.tail _ (.head _)))).1
  have J3:=zHs J2
  have hit2:s2.heap.IsListIter It l (j + 1):=⟨oI',nI2,hoc,hod⟩
  show wpAny _ X.A.in1 (tryCatch (holding [.int m t,.int (kf m) t2] (richCompare .Lt (.int (kf m) t2) (.int (kf n) tb) >>= _)) _ >>= _) _ _ _
  refine wpAny_bind (wpAny_tryCatch (wpAny_holding (wpAny_bind (CmpOf.ints_lt (prog:=X.prog) (w:=X.w) (A:=X.A.in1) (P:=λi v=>∃ t,v=.int (if i=0 then kf m else kf n) t) (λi=>if i=0 then kf m else kf n) (λi v h=>h) 0 1 _ _ _ _ _ ⟨t2,rfl⟩ ⟨tb,rfl⟩ ?_))))
  refine wpAny_bind (wpAny_holding (wpAny_truthy_bool ?_))
  refine wpAny_bind (wpAny_letGo (wpAny_pure ?_))
  show wpAny _ X.A.in1 (if decide (kf m < kf n)=true then _ else _) _ _ _
  by_cases hb':kf m < kf n
  ·have s1:=Heap.SameBut.update s2.heap S (Obj.mapSeq λ_=>#[Value.int m t,.int (kf m) t2])
   obtain ⟨c2,hc2⟩:∃ c2,(s2.heap.update S (Obj.mapSeq λ_=>#[Value.int m t,.int (kf m) t2])).get? S=some (seqObj "list" #[.int m t,.int (kf m) t2] c2):=⟨_,get?_update_seq nS2 λ_=>#[Value.int m t,.int (kf m) t2]⟩
   rw [if_pos (decide_eq_true hb')]
   refine wpAny_bind ?_
   refine wpAny_updateSeq nS2 rfl (wpAny_bind (wpAny_letGo ?_))
   rw [hname]
   refine wpAny_pure ⟨plainId_quiet PySem.F.plain_min_loop _,ih (j + 1) m t t2 c2 _ (by omega) hlt hm (λi m' hi em'=>?_) (J3.turned (it:=S) (λb o hb e=>(s1.2 b hb).trans e) FS.1 FS.2.1 FS.2.2.2.1 FS.2.2.2.2.1 FS.2.2.2.2.2) ⟨oI',(s1.2 It hSI.symm).trans nI2,hoc,hod⟩ hc2⟩
   by_cases e:i=j
   ·rw [e,em] at em'
    cases em'
    exact Int.le_refl _
   ·have:=hbest i m' (by omega) em'
    omega
  ·rw [if_neg (by rw [decide_eq_false hb']; exact Bool.false_ne_true)]
   refine wpAny_bind (wpAny_letGo ?_)
   rw [hname]
   refine wpAny_pure ⟨plainId_quiet PySem.F.plain_min_loop _,ih (j + 1) n tn tb c _ (by omega) hlt hn (λi m' hi em'=>?_) J3 hit2 nS2⟩
   by_cases e:i=j
   ·rw [e,em] at em'
    cases em'
    omega
   ·exact hbest i m' (by omega) em'
theorem zNJ (a v d:Value):argsOk "min" ⟨[a],[(Str.ofString "key",v),(Str.ofString "default",d)]⟩:=by unfold argsOk; kernel_rfl
theorem zPY {s:Shared} {Q:Value->Shared->Prop} {E:Value->Shared->Prop} (hc:X.calm=true) (I:zE X pins σ H s) (hl:zo X.K H l (ns.map V.int)) (hq:(q,qo)∈pins) (turn:YC X σ H q qo ns kf)
  (h0:ns=[]->∀ s',zE X pins σ H s'->Q .none s') (h1:∀ n∈ns,(∀ m∈ns,kf n<=kf m)->∀ t s',zE X pins σ H s'->Q (.int n t) s') :
  wpAny (model X.prog X.w) X.A (call (.builtin "min") [.ref l] [(Str.ofString "key",.ref q),(Str.ofString "default",.none)]) Q E s:=by
 have hname:(toString "min"++toString ".loop" : String) = "min.loop":=by decide
 obtain ⟨its,rv,pl,hz⟩:=I.list hl
 have hls:=pl.isList
 obtain ⟨ol,hol,_⟩:=id hls
 have hll:l < s.heap.objs.size:=Heap.lt_size hol
 refine PyProof.Rows.kmk_tree PySem.F.kind_min PySem.F.plain_min PySem.F.entry_min (zNJ _ _ _) ?_
 show wpAny _ X.A.in1 (Builtin.Builtins.bindParams "min" ["key","default"] 0 ⟨[],[(Str.ofString "key",.ref q),(Str.ofString "default",.none)]⟩ >>= _) _ _ s
 refine wpAny_bind (wpAny_of_eq (show Builtin.Builtins.bindParams "min" ["key","default"] 0 ⟨[],[(Str.ofString "key",.ref q),(Str.ofString "default",.none)]⟩=pure [some (.ref q),some .none] from rfl) ?_)
 refine wpAny_bind (wpAny_pure ?_)
 refine wpAny_bind (wpAny_pyIter_list hls ?_)
 refine wpAny_bind (wpAny_newList ?_ (Nat.zero_le _))
 rw [hname]
 have I1:zE X pins σ H { s with heap:=s.heap.push { cls:=.type "list_iterator",data:=.fields #[.ref l,.int 0 0] } }:=I.kept (t':=s.toks) λb u e=>Heap.get?_push_of_some _ e
 have FI:yN X pins H s.heap.objs.size:=I.fpOk (Nat.le_refl _) (I.hok.fresh (Nat.le_refl _))
 have FS:yN X pins H (s.heap.push { cls:=.type "list_iterator",data:=.fields #[.ref l,.int 0 0] }).objs.size:=I1.fpOk (Nat.le_refl _) (I1.hok.fresh (Nat.le_refl _))
 have I2:zE X pins σ H { s with heap:=(s.heap.push { cls:=.type "list_iterator",data:=.fields #[.ref l,.int 0 0] }).push (seqObj "list" #[] 0) }:=I1.kept (t':=s.toks) λb u e=>Heap.get?_push_of_some _ e
 have gI:((s.heap.push { cls:=.type "list_iterator",data:=.fields #[.ref l,.int 0 0] }).push (seqObj "list" #[] 0)).get? s.heap.objs.size=some { cls:=.type "list_iterator",data:=.fields #[.ref l,.int 0 0] }:=
  Heap.get?_push_of_some _ (Heap.get?_push_size _ rfl)
 have gS:((s.heap.push { cls:=.type "list_iterator",data:=.fields #[.ref l,.int 0 0] }).push (seqObj "list" #[] 0)).get? (s.heap.push { cls:=.type "list_iterator",data:=.fields #[.ref l,.int 0 0] }).objs.size=some (seqObj "list" #[] 0):=Heap.get?_push_size _ rfl
 have hS:(s.heap.push { cls:=.type "list_iterator",data:=.fields #[.ref l,.int 0 0] }).objs.size=s.heap.objs.size + 1:=size_push' ..
 have hlI:l≠s.heap.objs.size:=Nat.ne_of_lt hll
 have hSI:(s.heap.push { cls:=.type "list_iterator",data:=.fields #[.ref l,.int 0 0] }).objs.size≠s.heap.objs.size:=by rw [hS]; exact Nat.ne_of_gt (Nat.lt_succ_self _)
 refine wpAny_pure ⟨plainId_quiet PySem.F.plain_min_loop _,?_⟩
 generalize (s.heap.push { cls:=.type "list_iterator",data:=.fields #[.ref l,.int 0 0] }).objs.size=S at FS gS hS hSI |-
 generalize s.heap.objs.size=It at FI gI hlI hSI |-
 have hit:((s.heap.push { cls:=.type "list_iterator",data:=.fields #[.ref l,.int 0 0] }).push (seqObj "list" #[] 0)).IsListIter It l 0:=⟨_,gI,rfl,rfl⟩
 generalize (s.heap.push { cls:=.type "list_iterator",data:=.fields #[.ref l,.int 0 0] }).push (seqObj "list" #[] 0)=g at I2 gI gS hit |-
 obtain ⟨its,rv,pl,hz⟩:=I2.list hl
 have hsz:its.toArray.size=ns.length:=by rw [List.size_toArray,<- rv.length,List.length_map]
 have W:=Walks.list (prog:=X.prog) (w:=X.w) (A:=X.A.in1) (I.ok.hd hc) It l hlI its.toArray
 refine codeAny_builtin PySem.F.entry_min_loop ?_
 rw [Around.under_plainId PySem.F.plain_min_loop _]
 show wpAny _ X.A.in1 (seqItems? (.ref _) >>= _) _ _ _
 refine wpAny_bind (wpAny_seqItems gS rfl ?_)
 show wpAny _ X.A.in1 (tryCatch (pyNext (.ref It)) _ >>= _) _ _ _
 by_cases hne:0 < ns.length
 ·refine wpAny_bind (wpAny_tryCatch (W.item 0 _ _ _ (by rw [hsz]; exact hne) ⟨hit,pl.isList⟩ λv h' tk' hP hst' hk'=>?_))
  have em:ns[0]? = some (ns[0]'hne):=List.getElem?_eq_getElem hne
  generalize ns[0]'hne=m at em
  obtain ⟨w',ew,t,rfl⟩:=rv.get (show (ns.map V.int)[0]? = some (.int m) by rw [List.getElem?_map,em]; rfl)
  obtain rfl:v=.int m t:=by
   have:its[0]? = some v:=by simpa using hP
   rw [ew] at this
   exact (Option.some.inj this).symm
  have hm:m∈ns:=List.mem_of_getElem? em
  have I3:zE X pins σ H { s with heap:=h',toks:=tk' }:=zE.turned (s:={ s with heap:=g }) (h':=h') (t':=tk') I2 (it:=It) (λb o hb e=>hk' b o (by simpa using hb) e) FI.1 FI.2.1 FI.2.2.2.1 FI.2.2.2.2.1 FI.2.2.2.2.2
  obtain ⟨oI',hoI',hoc,hod⟩:=id hst'.1
  have J:=zHr I3 FI FS hoI' (λv e=>by rw [hod] at e; cases e) (hk' S _ (by simpa using hSI) gS) (λv e=>by cases e)
  show wpAny _ X.A.in1 (tryCatch (holding [.int m t] (call (.ref q) [.int m t])) _ >>= _) _ _ _
  refine wpAny_bind (wpAny_tryCatch (wpAny_holding (wpAny_mono (turn m hm t _ _ (.tail _ (.tail _ hq)) J) (λx s2 he=>?_) λ_ _ hF=>hF.elim)))
  obtain ⟨⟨t2,rfl⟩,J2⟩:=he
  have nI2:=(J2.pin _ (List.mem_append_right _ (.head _))).1
  have nS2:=(J2.pin _ (List.mem_append_right _ (.tail _ (.head _)))).1
  have J3:=zHs J2
  have s1:=Heap.SameBut.update s2.heap S (Obj.mapSeq λ_=>#[Value.int m t,.int (kf m) t2])
  obtain ⟨c2,hc2⟩:∃ c2,(s2.heap.update S (Obj.mapSeq λ_=>#[Value.int m t,.int (kf m) t2])).get? S=some (seqObj "list" #[.int m t,.int (kf m) t2] c2):=⟨_,get?_update_seq nS2 λ_=>#[Value.int m t,.int (kf m) t2]⟩
  show wpAny _ X.A.in1 (updateSeq S (λ_=>#[.int m t,.int (kf m) t2]) >>= _) _ _ _
  refine wpAny_bind ?_
  refine wpAny_updateSeq nS2 rfl ?_
  rw [hname]
  refine wpAny_pure ⟨plainId_quiet PySem.F.plain_min_loop _,zLY hc hl hlI hSI FI FS hq turn h1 _ 1 m t t2 c2 _ rfl hne hm (λi m' hi em'=>?_) (J3.turned (it:=S) (λb o hb e=>(s1.2 b hb).trans e) FS.1 FS.2.1 FS.2.2.2.1 FS.2.2.2.2.1 FS.2.2.2.2.2) ⟨oI',(s1.2 It hSI.symm).trans nI2,hoc,hod⟩ hc2⟩
  rw [show i=0 by omega,em] at em'
  cases em'
  exact Int.le_refl _
 ·have hn0:ns=[]:=List.length_eq_zero_iff.mp (by omega)
  refine wpAny_bind (wpAny_tryCatch (W.done _ _ _ ⟨by rw [hsz,show ns.length=0 by omega]; exact hit,pl.isList⟩ λh' tk' hk'=>?_))
  refine wpAny_bind (wpAny_rule (wpAny_pure ?_))
  exact h0 hn0 _ (I2.turned (it:=It) (λb o hb e=>hk' b o (by simpa using hb) e) FI.1 FI.2.1 FI.2.2.2.1 FI.2.2.2.2.1 FI.2.2.2.2.2)
end
theorem yI.ne {P:Addr} {q:Str} {pos:Pos} {H H':Hp} (h:yI P q pos H) (s:Sh.uX [P] H H') {a:Addr} {o:HO} (e:H a=some o) (n:∀ ps,o≠.tbl ps):H' a=some o:=s a o e λz=>by
 rw [List.mem_singleton.mp z] at e
 rcases h with h | ⟨_,h,_⟩ <;> rw [h] at e <;> cases e <;> exact n _ rfl
theorem yI.list {P:Addr} {q:Str} {pos:Pos} {H H':Hp} {K:PySem.W.Frag} {a:Addr} {xs:List V} (h:yI P q pos H) (s:Sh.uX [P] H H') (e:zo K H a xs):zo K H' a xs:=by
 rcases e with (e | ⟨o,e⟩) | e
 ·exact .inl (.inl (h.ne s e λ_ z=>by cases z))
 ·exact .inl (.inr ⟨o,h.ne s e λ_ z=>by cases z⟩)
 ·exact .inr e
def JF (K:PySem.W.Frag) (P:Addr) (qual:Str) (pos:Pos) (te:TE) (iy:Nat):TE:=λσ H Q=>te σ H λx H1=>∃ (l ca:Addr) (ns cs:List Int),x=.ref l/\σ[iy]? = some (some (.ref ca))/\zo K H1 l (ns.map V.int)/\zo K H1 ca (cs.map V.int)/\(∀ n∈ns,0<=n/\n < cs.length)/\yI P qual pos H1∧
 ∀ H2,Sh.uX [P] H1 H2->yI P qual pos H2->(ns=[]->Q .non H2)/\∀ n∈ns,(∀ m∈ns,cs.getD n.toNat 0<=cs.getD m.toNat 0)->Q (.int n) H2
theorem zK3 {X:Cx} {e:Expr} {te:TE} {p pos kp kp2 lpos yp xp bp dp:Pos} {zk} {x y:Str} {params:Arguments} {scope:Scope} {cy c P:Addr} {iy:Nat} (T:wf X.base X.mg c P) (he:PE X e te) (hc:X.calm=true) (hr:zW 2 X.A) (hg:Gl X "min") (hm:X.mg "min" = none) (hv:bootBuiltins "min" = some (.builtin "min"))
  (hcode:X.env.code=.ref c) (hN:X.N[iy]? = some y) (hky:X.env.kindOf y=some .cell) (hcl:closureFor scope X.env=pure [(y,cy)]) (hcy:X.env.cells.lookup y=some cy) (hdef:defaultsOf params X.env=([],[]))
  (hsc:scope.names=[(x,.local),(y,.free)]) (hxy:x≠y) (hk:scope.kind=.function) (hco:scope.isCoroutine=false) (hgen:scope.isGenerator=false)
  (hbind:∀ (pm ctv u:Value) (c':Addr),bindArgs (PySem.W.kla_fn "<lambda>" (X.env.qual++"<lambda>") params (.Subscript (.Name y yp) (.Name x xp) bp) scope [(y,cy)] pm (.ref c') ctv) ⟨[u],[]⟩=pure [(x,u)])
  (hdx:(x == ("__debug__" : Str))=false) (hdx2:(x == ("__classdict__" : Str))=false) (hdy:(y == ("__debug__" : Str))=false) (hdy2:(y == ("__classdict__" : Str))=false)
  (hs:starEach [e] X.env=(false,eval e X.env) :: starEach [] X.env:=by rfl) :
  PE X (.Call (.Name "min" p) [e] [⟨some "key",.Lambda params (.Subscript (.Name y yp) (.Name x xp) bp) scope lpos,kp⟩,⟨some "default",.Constant .none zk dp,kp2⟩] pos) (JF X.K P (X.env.qual++"<lambda>") lpos te iy):=by
 intro pins s σ H Q I h
 have lx:scope.names.lookup x=some .local:=by rw [hsc,List.lookup_cons,beq_self_eq_true]
 have ly:scope.names.lookup y=some .free:=by
  rw [hsc,List.lookup_cons,(by simpa using hxy.symm:(y == x)=false),List.lookup_cons,beq_self_eq_true]
 refine wpAny_Call_Name_kw (jm I hg hm hv ?_ (by decide) (by decide))
 refine PyProof.Rows.callWith_kw (zm ((zz he yf hs) pos pins s σ H (λvs H1=>∃ (l ca:Addr) (ns cs:List Int),vs=[.ref l]/\σ[iy]? = some (some (.ref ca))/\zo X.K H1 l (ns.map V.int)/\zo X.K H1 ca (cs.map V.int)/\(∀ n∈ns,0<=n/\n < cs.length)/\yI P (X.env.qual++"<lambda>") lpos H1∧
  ∀ H2,Sh.uX [P] H1 H2->yI P (X.env.qual++"<lambda>") lpos H2->(ns=[]->Q .non H2)/\∀ n∈ns,(∀ m∈ns,cs.getD n.toNat 0<=cs.getD m.toNat 0)->Q (.int n) H2) I ?h) λus s1 ⟨vs,H1,I1,r,l,ca,ns,cs,e1,hσ,hl,hca,hb,hT,q⟩=>?_) (by rw [hs]; rfl) (by rw [hs]; rfl)
 case h=>
  have z:JF X.K P (X.env.qual++"<lambda>") lpos te iy σ H Q=te σ H λx H1=>∃ (l ca:Addr) (ns cs:List Int),[x]=[.ref l]/\σ[iy]? = some (some (.ref ca))/\zo X.K H1 l (ns.map V.int)/\zo X.K H1 ca (cs.map V.int)/\(∀ n∈ns,0<=n/\n < cs.length)/\yI P (X.env.qual++"<lambda>") lpos H1∧
    ∀ H2,Sh.uX [P] H1 H2->yI P (X.env.qual++"<lambda>") lpos H2->(ns=[]->Q .non H2)/\∀ n∈ns,(∀ m∈ns,cs.getD n.toNat 0<=cs.getD m.toNat 0)->Q (.int n) H2:=by
   unfold JF
   simp only [List.cons.injEq,and_true]
  exact cast z h
 subst e1
 obtain ⟨u,rfl,ru⟩:=uA r
 obtain rfl:u=.ref l:=ru
 refine PyProof.Rows.kws_cons (zNO hcl hdef hcode T I1 hT λf c' pm ctv H' s' o1 hT' hc' J=>?_)
 refine PyProof.Rows.kws_cons (zm (Kr _ _ _ _ (λv H2=>v=.non/\H2=H') J ⟨rfl,rfl⟩) λu s2 ⟨v,H2,J2,rv,ev,eH⟩=>PyProof.Rows.kws_nil ?_)
 subst ev eH
 obtain rfl:u=.none:=rv
 have hl':=hT.list o1 hl
 have hca':=hT.list o1 hca
 obtain ⟨q0,q1⟩:=q _ o1 hT'
 have drop:∀ s',zE X ((f,PySem.W.kla_obj "<lambda>" (X.env.qual++"<lambda>") params (.Subscript (.Name y yp) (.Name x xp) bp) scope [(y,cy)] pm c' ctv) :: pins) σ H2 s'->zE X pins σ H2 s':=λs' J=>J.pins_of λp hp=>J.pin p (List.mem_append_right _ (.tail _ hp))
 refine zPY (kf:=λn=>cs.getD n.toNat 0) hc J2 hl' (.head _) (λn hn t pins' s3 hq3 J3=>?_) (λz s3 J3=>⟨.non,H2,drop _ J3,rfl,q0 z⟩) λn hn hmin t s3 J3=>⟨.int n,H2,drop _ J3,⟨_,rfl⟩,q1 n hn hmin⟩
 obtain ⟨m,hns,hlo⟩:=J3.loc
 obtain ⟨uy,ry,lk⟩:=hlo iy y (.ref ca) hN hσ (.inr (.inl hky))
 have hcell:s3.heap.IsCell cy (some uy):=by
  rcases lk with ⟨k,_⟩ | ⟨_,c2,e2,z⟩
  ·rw [hky] at k; cases k
  ·rw [hcy] at e2; cases e2; exact z
 have hcd:s3.heap.CodeRec (.ref c') (X.env.qual++"<lambda>"):=(J3.hok c' _ hc').1
 have bn:=hb n hn
 refine wpAny_mono (zPb (k:=0) (v:=.int n) (vy:=.ref ca) (t:=gO (ko X.K) (vi 1) (vi 0)) (Q:=λv H3=>v=.int (cs.getD n.toNat 0)/\H3=H2) hsc hxy hk hco hgen hr.in1 J3.env0.in1 (J3.pin _ (List.mem_append_right _ hq3)).1 hcd (hbind pm ctv _ c') hcell (J3.freeC y cy hcy) ⟨t,rfl⟩ ry
  (UD UF (pv 1 rfl (.inr (.inr ly)) hdy hdy2) (pv 0 rfl (.inl lx) hdx hdx2) λ_ _=>rfl) ?_) (λu s4 hce=>?_) λ_ _ z=>z
 ·refine ⟨_,rfl,_,rfl,ca,_,n,_,rfl,rfl,hca',?_,rfl,rfl⟩
  rw [show n=((n.toNat:Nat):Int) by omega]
  refine zP7 ?_
  rw [List.getElem?_map,Int.toNat_natCast,List.getD_eq_getElem?_getD,List.getElem?_eq_getElem (by omega)]
  rfl
 ·obtain ⟨v,H4,J4,rv4,ev,eH⟩:=J3.after hce
  subst ev eH
  obtain ⟨t',rfl⟩:=rv4
  exact ⟨⟨t',rfl⟩,J4⟩
end L2
namespace L2
open PySem PySem.Spec PyProof.Rows
section
variable {P:Program} {w:World} {K:PySem.W.Frag} {mg:Str->Option Value} {base:Heap}
theorem zY.okC {x qual:Str} {st:Stmt} {f c:Addr} {fd:FuncData} {N ps:List Str} {k:Nat} {sp:Sp} (F:zY K x qual st f fd) (hc:fd.code=.ref c) (S:zX N ps (zN st)) (len:∀ vs H Q E,sp vs H Q E->vs.length=ps.length)
  (hbody:∀ (A:Around) (outer:List Env) (s:Shared) (H:Hp) (vs:List V) (Q:VK) (E:XK),zW k (A.deeper (envOfC qual (zN st) s.heap.objs.size f (.ref c)))->sp vs H Q E->
   ∃ t,yq (za zT P w K mg base N qual (zN st) f (.ref c) A outer s H E).nox (xS st) t/\t { nx:=λ_ H'=>Q .non H',rt:=Q } (wN N vs) H):zF P w K mg base zT (k + 1) f fd ps sp:=by
 obtain ⟨oc,od,kV,doc,pm,an,cdv,ct,osl,rfl,lk,hcd⟩:=F.ex
 obtain rfl:cdv=.ref c:=hc
 refine Xe lk hcd S len λA outer s H vs Q E hr hsp=>?_
 obtain ⟨t,h,q⟩:=hbody A outer s H vs Q E hr hsp
 exact ⟨t,h.nox,q⟩
def JG (Pt:Addr) (H:Hp):Prop:=H Pt=some (.tbl #[])/\∀ b,b≠Pt->H b=none\/∃ o xs,H b=some (.frz o (.lst xs))
theorem zLb {mb:Str->Option Value} {CX:vk} {k:Nat} {fa a c Pt:Addr} {fd:FuncData} {x:Str} {sp:Sp} {s₁:Shared} {vs:List Value} {ns:List Int}
  (C:PySem.W.CodeHd s₁.heap c Pt) (hP:s₁.heap.get? Pt=some (PySem.W.tabObj #[])) (hKP:K.lookup Pt=none)
  (bm:∃ bm ob,mg "__builtins__" = some (.ref bm)/\bm≠builtinsNs/\s₁.heap.get? bm=some ob/\ob.cls=.type "module"/\ob.dict=some builtinsNs/\ob.data=.plain)
  (KX:K.In s₁.heap) (hns:s₁.heap.Ns mainGlobals mg) (hb:s₁.heap.Ns builtinsNs mb) (hbb:∀ x:Str,x≠"__name__"->mb x=bootBuiltins x) (hlim:s₁.heap.NoLimit) (hg:s₁.gens=#[])
  (ha:s₁.heap.get? a=some { cls:=.type "list",data:=.seq vs.toArray }) (hi:IntsAre vs ns) (hl:ns.length<=sizeLine) (hr:zW k callerA)
  (F:∀ base:Heap,K.In base->base.Ns mainGlobals mg->wf base mg c Pt->zF P w K mg base CX k fa fd [x] sp) (hbind:∀ (s:Shared) (u:Value),BindsTo s fd ⟨[u],[]⟩ [(x,u)])
  (hsp:∀ H:Hp,JG Pt H->zo K H a (ns.map V.int)->sp [.ref a] H (λv _=>v=.bl true) λ_ _ _=>False)
  (hCX:∀ H e s',CX [] H s₁ (λ_ _ _=>False) e s'->False) :
  codeAny (model P w) callerA (.call (.ref fa) ⟨[.ref a],[]⟩) (λr s'=>r=.ok (.ret (.bool true))/\OldK s₁.heap s'.heap/\s'.os=s₁.os/\AllBare s'.gens) s₁:=by
 have rv:=zHS hi
 have lenV:=hi.length
 have aP:a≠Pt:=λz=>by rw [z,hP] at ha; cases ha
 have core:∀ H:Hp,JG Pt H->zo K H a (ns.map V.int)->xD P w H s₁.heap->(∀ b,b≠Pt->H b≠none->b=a)->(H a≠none->K.lookup a=none)->
   codeAny (model P w) callerA (.call (.ref fa) ⟨[.ref a],[]⟩) (λr s'=>r=.ok (.ret (.bool true))/\OldK s₁.heap s'.heap/\s'.os=s₁.os/\AllBare s'.gens) s₁:=by
  intro H hO hS hok hA hK
  have bo:∀ {b:Addr} {o:Obj},s₁.heap.get? b=some o->H b=none->(wH s₁.heap H).get? b=some o:=λe n=>zNV e n
  have noA:∀ {b:Addr} {o:Obj},s₁.heap.get? b=some o->(∀ z n,o.data≠.seq z n)->(∀ z,o.data≠.fields z)->H b=none:=λ{b o} e d1 d2=>by
   by_cases z:b=Pt
   ·rw [z,hP] at e; cases e; exact absurd rfl (d2 _)
   cases q:H b with
   | none=>rfl
   | some u=>
    have e':b=a:=hA b z (by rw [q]; exact λz=>by cases z)
    rw [e',ha] at e
    cases e
    exact absurd rfl (d1 _ _)
  have nsK:∀ {b:Addr} {m:Str->Option Value},s₁.heap.Ns b m->(wH s₁.heap H).Ns b m:=λ{b m} ⟨o,es,ep,e,d,r⟩=>⟨o,es,ep,bo e (noA e (λz n q=>by rw [d] at q; cases q) λz q=>by rw [d] at q; cases q),d,r⟩
  have hKb:K.In (wH s₁.heap H):=λb o e=>bo (KX b o e) (by
   cases q:H b with
   | none=>rfl
   | some u=>
    by_cases z:b=Pt
    ·rw [z,hKP] at e; cases e
    have e':b=a:=hA b z (by rw [q]; exact λz=>by cases z)
    subst e'
    rw [hK (by rw [q]; exact λz=>by cases z)] at e; cases e)
  have hM:Mod K mg (wH s₁.heap H):=⟨hKb,nsK hns,⟨mb,nsK hb,hbb⟩,let ⟨mc,h1,h2⟩:=hlim; ⟨mc,nsK h1,h2⟩⟩
  have hTB:wf (wH s₁.heap H) mg c Pt:=by
   obtain ⟨o,v0,file,tf,flags,tg,inF,text,tt,e1,r1,r2,r3,r4,r5,r6,r7,r8,hne⟩:=C
   obtain ⟨bm,ob,b1,b2,b3,b4,b5,b6⟩:=bm
   refine ⟨⟨o,v0,file,tf,flags,tg,inF,text,tt,bo e1 ?_,r1,r2,r3,r4,r5,r6,r7,r8,hne⟩,bm,ob,b1,b2,λz=>?_,bo b3 (noA b3 (λz n q=>by rw [b6] at q; cases q) λz q=>by rw [b6] at q; cases q),b4,b5,b6⟩
   ·cases q:H c with
    | none=>rfl
    | some u=>
     have e':c=a:=hA c hne (by rw [q]; exact λz=>by cases z)
     rw [e',ha] at e1
     cases e1
     cases r2
   ·obtain ⟨o2,es,ep,q1,q2,_⟩:=hns
    rw [z,q1] at b3
    cases b3
    rw [q2] at b6
    cases b6
  have e0:xw P w K mg (wH s₁.heap H) callerA [] s₁ H:=⟨rfl,hM,λb o e=>zPW e,Nat.le_of_eq (zLe _ _),trivial,λb hb=>absurd (show b∈([]:List Addr) from hb) (by simp),hok,.of_eq hg⟩
  refine codeAny_mono ((F _ hKb (nsK hns) hTB).run callerA [] s₁ H ⟨[.ref a],[]⟩ [.ref a] [.ref a] _ _ hr e0 (hbind s₁ (.ref a)) (.cons rfl .nil) (hsp H hO hS)) λr s' h=>?_
  cases r with
  | error e=>exact (hCX H e s' h).elim
  | ok fl=>
   cases fl with
   | next=>exact False.elim h
   | brk=>exact False.elim h
   | cont=>exact False.elim h
   | ret u=>
    obtain ⟨v,H',os,bare,un,hok',r',q⟩:=h
    have q':v=.bl true:=q
    subst q'
    obtain rfl:u=Value.bool true:=r'
    obtain ⟨more,hm⟩:=un.tbls Pt _ hO.1
    have hPm:s'.heap.get? Pt=some (PySem.W.tabObj (#[]++more)):=hok' Pt _ hm
    have kp:∀ b o,b≠Pt->s₁.heap.get? b=some o->s'.heap.get? b=some o:=λb o z e=>by
     cases q:H b with
     | none=>exact un.keep b o e q (by intro z; exact absurd (show b∈([]:List Addr) from z) (by simp)) (by simp)
     | some u=>
      rcases hO.2 b z with z | ⟨ob,xs,z⟩
      ·rw [q] at z; cases z
      ·have z2:=un.frzs b ob _ z
       obtain ⟨e1,_⟩:=hok b _ z
       obtain ⟨e2,_⟩:=hok' b _ z2
       rw [e] at e1; cases e1
       exact e2
    refine ⟨rfl,⟨λb o e=>?_,λb o e=>?_⟩,os,bare⟩
    ·by_cases z:b=Pt
     ·subst z
      rw [hP] at e
      cases e
      exact .inr (.inl ⟨(C.tab hP).isCodeTable,rfl,#[],_,rfl,by rw [Array.empty_append]; exact hPm⟩)
     ·exact .inl (kp b o z e)
    ·by_cases z:b=Pt
     ·exact ⟨_,by rw [z]; exact hPm⟩
     ·exact ⟨o,kp b o z e⟩
 cases hk:K.lookup a with
 | some o=>
  have e:=KX a o hk
  rw [ha] at e
  cases e
  refine core (λb=>if b=Pt then some (.tbl #[]) else none) ⟨if_pos rfl,λb z=>.inl (if_neg z)⟩ (.inr ⟨_,vs.toArray,_,hk,rfl,rfl,rfl,by rw [List.size_toArray,lenV]; exact hl,by simpa using rv⟩) (λb u z=>?_) (λb z1 z=>absurd (if_neg z1) z) λz=>absurd (if_neg aP) z
  by_cases hb:b=Pt
  ·have z':=(if_pos hb).symm.trans z
   cases z'
   subst hb
   exact hP
  ·have z':=(if_neg hb).symm.trans z
   cases z'
 | none=>
  refine core (λb=>if b=Pt then some (.tbl #[]) else if b=a then some (.frz { cls:=.type "list",data:=.seq vs.toArray } (.lst (ns.map V.int))) else none) ⟨if_pos rfl,λb z=>?_⟩ (.inl (.inr ⟨{ cls:=.type "list",data:=.seq vs.toArray },(if_neg aP).trans (if_pos rfl)⟩)) (λb u z=>?_) (λb z1 z=>?_) λ_=>hk
  ·by_cases hb:b=a
   ·exact .inr ⟨_,_,(if_neg z).trans (if_pos hb)⟩
   ·exact .inl ((if_neg z).trans (if_neg hb))
  ·by_cases hp:b=Pt
   ·have z':=(if_pos hp).symm.trans z
    cases z'
    subst hp
    exact hP
   by_cases hb:b=a
   ·have z':=((if_neg hp).trans (if_pos hb)).symm.trans z
    cases z'
    subst hb
    exact ⟨ha,by rw [List.length_map]; exact hl,vs,_,rv,ha⟩
   ·have z':=((if_neg hp).trans (if_neg hb)).symm.trans z
    cases z'
  ·by_cases hb:b=a
   ·exact hb
   ·exact absurd ((if_neg z1).trans (if_neg hb)) z
end
theorem zMT {l:PySem.W.OpenLaw} {n k:Nat} {q:Program} {loose:List Str} {XP:(Str->Option Value)->Heap->Prop} {YP:World->Heap->Prop} {d d2:DefRec} {K:Params->PySem.W.Frag} {sp:World->Sp} {x x2:Str} {c Pt:Addr}
  (hn:l.most=some n) (hn2:n<=sizeLine) (hdf:d.params.defaults=[]) (hr:zW k callerA)
  (hY:∀ (w:World) (h:Heap),YP w h->(K w.params).In h) (hrec:(recsOf q).find? (λe=>e.name == x2)=some d2) (htab:∀ w:World,PySem.W.tabIn (K w.params) x2=some (c,Pt)) (hKP:∀ w:World,(K w.params).lookup Pt=none)
  (F:∀ (w:World) (mg:Str->Option Value) (fa:Addr) (h:Heap),(K w.params).In h->h.Ns mainGlobals mg->mg d.name=some (.ref fa)->
   ∃ fd:FuncData,(∀ (s:Shared) (u:Value),BindsTo s fd ⟨[u],[]⟩ [(x,u)])∧
    ∀ base:Heap,(K w.params).In base->base.Ns mainGlobals mg->wf base mg c Pt->zF l.prog w (K w.params) mg base zT k fa fd [x] (sp w))
  (hsp:∀ (w:World) (H:Hp) (a:Addr) (ns:List Int),ns.length<=n->JG Pt H->zo (K w.params) H a (ns.map V.int)->sp w [.ref a] H (λv _=>v=.bl true) λ_ _ _=>False) :
  PySem.W.WalkO q loose XP YP l.row.toRowW d [] (λf vs=>PySem.call f vs):=by
 refine Att.attach_call hn hdf λw s₀ s₁ mg mb fa o pm cd doc a vs ns G Y ho hd hcd hmg hobj hints hlen hg=>?_
 have KX:=hY w _ Y
 obtain ⟨fd,hb,hF⟩:=F w mg fa _ KX G.T.g hmg
 obtain ⟨C,hP⟩:=PySem.W.tab_of G.T KX hrec (htab w)
 exact zLb C hP (hKP w) G.T.bmain KX G.T.g G.T.b G.T.builtins G.T.nolimit hg hobj hints (Nat.le_trans hlen hn2) hr hF hb (λH hO hS=>hsp w H a ns hlen hO hS) λH e s' z=>z
end L2
namespace L2
open PySem PySem.Spec PyProof.Rows
theorem zHi {α β:Type} {R:α->β->Prop}:∀ {xs:List α} {ys:List β},xs.length=ys.length->(∀ (k:Nat) x y,xs[k]? = some x->ys[k]? = some y->R x y)->Paired R xs ys
 | [],[],_,_=>.nil
 | [],_ :: _,h,_=>by cases h
 | _ :: _,[],h,_=>by cases h
 | x :: xs,y :: ys,h,g=>.cons (g 0 x y rfl rfl) (zHi (Nat.succ.inj h) λk a b h1 h2=>g (k + 1) a b h1 h2)
section
variable {X:Cx}
theorem zME:wM X (.type "range") (λxs H Q=>∃ i j:Int,xs=[.int i,.int j]/\∀ p,H p=none->Q (.ref p) (zb H p (.rng i j))):=by
 intro pins s σ H xs us Q I r h
 obtain ⟨i,j,rfl,q⟩:=h
 obtain ⟨u,w',rfl,⟨t,rfl⟩,⟨t',rfl⟩⟩:=gQ r
 refine call_range_2 ⟨.ref s.heap.objs.size,_,I.laid (o:=.rng i j) (λb u e=>Heap.get?_push_of_some _ e) (Nat.le_refl _) ?_,rfl,q _ (I.hok.fresh (Nat.le_refl _))⟩
 exact ⟨_,_,_,Heap.get?_push_size _ rfl⟩
theorem zHN (hc:X.calm=true):wM X (.type "list") (λxs H Q=>∃ (p:Addr) (i j:Int),xs=[.ref p]/\H p=some (.rng i j)/\(-(2 ^ 62)<=i/\i < 2 ^ 62/\-(2 ^ 62)<=j/\j < 2 ^ 62)/\(j - i).toNat<=1000∧
  ∀ l,H l=none->Q (.ref l) (zb H l (.lst ((List.range (j - i).toNat).map λ(k:Nat)=>V.int (i + (k:Int)))))):=by
 intro pins s σ H xs us Q I r h
 obtain ⟨p,i,j,rfl,hp,⟨q1,q2,q3,q4⟩,hz,q⟩:=h
 obtain ⟨u,rfl,rx⟩:=uA r
 obtain rfl:u=.ref p:=rx
 obtain ⟨t,u,v,hr⟩:=I.hok p _ hp
 have hs:(2 ^ 24:Nat)=16777216:=by decide
 refine call_list_range (n:=(j - i).toNat) (I.ok.hd hc) (show IsRange s.heap p i j 1 t u v from hr) (small_one q1 q2 q3 q4) (by rw [rangeSize_one]; split <;> omega) (by omega) λh' tk acc' c' hk hS' hacc=>?_
 refine ⟨.ref s.heap.objs.size,_,I.laid (t':=tk) (o:=.lst ((List.range (j - i).toNat).map λ(k:Nat)=>V.int (i + (k:Int)))) hk (Nat.le_refl _) ⟨?_,acc'.toList,c',?_,by rw [hS']⟩,rfl,q _ (I.hok.fresh (Nat.le_refl _))⟩
 ·rw [List.length_map,List.length_range]
  exact Nat.le_trans hz (by decide)
 ·have la:acc'.toList.length=(j - i).toNat:=by rw [Array.length_toList]; exact hacc.1
  refine zHi (by rw [List.length_map,List.length_range,la]) λk x y hx hy=>?_
  have hk2:k < (j - i).toNat:=by
   have:=(List.getElem?_eq_some_iff.mp hy).1
   omega
  rw [List.getElem?_map,List.getElem?_range hk2] at hx
  cases hx
  obtain ⟨t,e⟩:=hacc.2 k y (by simpa using hy)
  exact ⟨t,by rw [e,Int.mul_one]⟩
theorem zMF (hc:X.calm=true):wM X (.builtin "max") (λxs H Q=>∃ (p:Addr) (ns:List Int),xs=[.ref p]/\zo X.K H p (ns.map V.int)/\0 < ns.length/\∀ M,M∈ns->(∀ a∈ns,a<=M)->Q (.int M) H):=by
 intro pins s σ H xs us Q I r h
 obtain ⟨p,ns,rfl,hl,h0,q⟩:=h
 obtain ⟨u,rfl,rx⟩:=uA r
 obtain rfl:u=.ref p:=rx
 obtain ⟨its,rv,pl,hz⟩:=I.list hl
 have hi:∀ {xs:List Int} {ys:List Value},zM (xs.map V.int) ys->IntsAre ys xs:=by
  intro xs
  induction xs with
  | nil=>intro ys h; cases h; exact .nil
  | cons x xs ih=>
   intro ys h
   cases h with
   | cons h1 h2=>
    obtain ⟨t,rfl⟩:=h1
    exact .cons x t (ih h2)
 have hA:=hi rv
 obtain ⟨xs,e⟩:=hA.allInts.items
 have hns:ns=xs.toList.map (·.1):=by rw [<- hA.numsOf,<- nums_intItems,<- e]
 have hsz:0 < xs.size:=by
  have h3:=h0
  rw [hns,List.length_map,Array.length_toList] at h3
  exact h3
 have hl2:=pl.isList
 rw [e] at hl2
 refine max_intList (I.ok.hd hc) hl2 hsz λv h' tk hv hk=>?_
 obtain ⟨t,rfl⟩:=intItems_at hv
 obtain ⟨h1,h2⟩:=argBest_gt (numAt xs) (xs.size - 1)
 refine ⟨.int _,H,I.kept hk,⟨t,rfl⟩,q _ ?_ λa ha=>?_⟩
 ·rw [hns,numAt_eq]
  rw [List.getD_eq_getElem?_getD,List.getElem?_eq_getElem (by rw [List.length_map,Array.length_toList]; omega)]
  exact List.getElem_mem _
 ·rw [hns] at ha
  obtain ⟨j,hj,rfl⟩:=mem_getD ha
  rw [List.length_map,Array.length_toList] at hj
  have:=h2 j (by omega)
  rw [numAt_eq] at this
  exact this
end
end L2
namespace Pu
open PySem L2 Sh
open PyProof.Rows (envOfC)
variable [yU]
def YD (pa:zu) (iy:Nat):zu:=λΓ R=>pa Γ λd=>∃ ns cs:List Int,d=.lst (ns.map D.int)/\slot Γ iy=.sh (.lst (cs.map D.int))/\(∀ n∈ns,0<=n/\n < cs.length)/\(ns=[]->R .non)/\∀ n∈ns,(∀ m∈ns,cs.getD n.toNat 0<=cs.getD m.toNat 0)->R (.int n)
theorem zQX {P:Addr} {q:Str} {pos:Pos} {H H':Hp} (hI:∀ H,yU.I H ↔ yI P q pos H) (i:yI P q pos H) (o:uX [P] H H') (i':yI P q pos H'):Sm H H':=by
 refine ⟨λb u e n=>i.ne o e λps z=>(by rw [z] at n; cases n),λb u e n=>?_,λ_=>(hI H').mpr i'⟩
 by_cases c:b=P
 ·rw [c]
  rcases i' with h | ⟨_,h,_⟩
  ·exact ⟨_,h,rfl⟩
  ·exact ⟨_,h,rfl⟩
 ·exact ⟨u,o b u e (λz=>c (List.mem_singleton.mp z)),n⟩
theorem zKo {X:Cx} {e:Expr} {pa:zu} {p pos kp kp2 lpos yp xp bp dp:Pos} {zk} {x y:Str} {params:Arguments} {scope:Scope} {cy c P:Addr} {iy:Nat} (hI:∀ H,yU.I H ↔ yI P (X.env.qual++"<lambda>") lpos H) (T:wf X.base X.mg c P) (he:PE X e (tP pa)) (hc:X.calm=true) (hr:zW 2 X.A) (hg:Gl X "min") (hm:X.mg "min" = none) (hv:bootBuiltins "min" = some (.builtin "min"))
  (hcode:X.env.code=.ref c) (hN:X.N[iy]? = some y) (hky:X.env.kindOf y=some .cell) (hcl:closureFor scope X.env=pure [(y,cy)]) (hcy:X.env.cells.lookup y=some cy) (hdef:defaultsOf params X.env=([],[]))
  (hsc:scope.names=[(x,.local),(y,.free)]) (hxy:x≠y) (hk:scope.kind=.function) (hco:scope.isCoroutine=false) (hgen:scope.isGenerator=false)
  (hbind:∀ (pm ctv u:Value) (c':Addr),bindArgs (PySem.W.kla_fn "<lambda>" (X.env.qual++"<lambda>") params (.Subscript (.Name y yp) (.Name x xp) bp) scope [(y,cy)] pm (.ref c') ctv) ⟨[u],[]⟩=pure [(x,u)])
  (hdx:(x == ("__debug__" : Str))=false) (hdx2:(x == ("__classdict__" : Str))=false) (hdy:(y == ("__debug__" : Str))=false) (hdy2:(y == ("__classdict__" : Str))=false)
  (hs:starEach [e] X.env=(false,eval e X.env) :: starEach [] X.env:=by rfl) :
  PE X (.Call (.Name "min" p) [e] [⟨some "key",.Lambda params (.Subscript (.Name y yp) (.Name x xp) bp) scope lpos,kp⟩,⟨some "default",.Constant .none zk dp,kp2⟩] pos) (tP (YD pa iy)):=
 yT (zK3 T he hc hr hg hm hv hcode hN hky hcl hcy hdef hsc hxy hk hco hgen hbind hdx hdx2 hdy hdy2 hs) λσ H Q ⟨Z,Γ,R,E,h,q⟩=>⟨Z,Γ,_,E,h,λd v H1 hd s1 hv=>by
  obtain ⟨ns,cs,rfl,hsl,hb,q0,q1⟩:=hd
  obtain ⟨l,xs,rfl,el,hx⟩:=hv.lst_inv
  cases ZT hx
  obtain ⟨vc,hvc,hdc⟩:=E.sh iy _ hsl
  obtain ⟨ca,ys,rfl,ec,hy⟩:=hdc.lst_inv
  cases ZT hy
  have i1:=(hI H1).mp (E.same s1).zd.i
  refine ⟨l,ca,ns,cs,rfl,hvc,zo.of (yJ _ _ el),zo.of (s1.at (yJ _ _ ec)),hb,i1,λH2 o i2=>?_⟩
  have s2:=s1.trans (zQX hI i1 o i2)
  exact ⟨λz=>q _ _ H2 (q0 z) s2 .non,λn hn hm=>q _ _ H2 (q1 n hn hm) s2 (.int n)⟩⟩
theorem JH {P:Program} {w:World} {K:PySem.W.Frag} {mg:Str->Option Value} {base:Heap} {x qual:Str} {st:Stmt} {f c:Addr} {fd:FuncData} {N ps:List Str} {k:Nat} {F:FL} (Fu:zY K x qual st f fd) (hc:fd.code=.ref c) (S:zX N ps (zN st)) (len:∀ ds R,F ds R->ds.length=ps.length)
  (hbody:∀ (A:Around) (outer:List Env) (s:Shared) (H:Hp) (E:XK),zW k (A.deeper (envOfC qual (zN st) s.heap.objs.size f (.ref c)))->
   ∃ p,yq (za zT P w K mg base N qual (zN st) f (.ref c) A outer s H E).nox (xS st) (yV p)/\∀ ds R,F ds R->p { nx:=λ_=>R .non,rt:=R } (ds.map Sl.sh++List.replicate (N.length - ps.length) .no)):zF P w K mg base zT (k + 1) f fd ps (zG F):=
 Fu.okC hc S (X8 len) λA outer s H vs Q E hr h=>let ⟨p,h1,h2⟩:=hbody A outer s H E hr; ⟨_,h1,JA len h2 h⟩
def tbI (P:Addr) (q:Str) (pos:Pos):yU where
 I:=yI P q pos
 same:=λh s=>h.same s
 but:=λ{H H' l o} h e li k=>by
  have ne:∀ b u,H b=some u->vq u=false->H' b=some u:=λb u eb n=>by
   rw [k b λz=>by rw [z,e] at eb; cases eb; rw [n] at li; cases li]
   exact eb
  rcases h with h | ⟨c',h1,h2⟩
  ·exact .inl (ne _ _ h rfl)
  ·exact .inr ⟨c',ne _ _ h1 rfl,ne _ _ h2 rfl⟩
end Pu
namespace Pu
open PySem L2 Sh
variable [yU]
section
variable {X:Cx} {e a b c:Expr} {es:List Expr} {pos:Pos} {pa pb:zu} {pl:yg} {p:xG} {t:wY}
def zOB (t:wY) (p:xG):xG:=λD Γ=>∃ I:Nat->List Sl->Prop,(∃ m,I m Γ)/\∀ m Γ',I m Γ'->t Γ' λb=>wd b (p { D with nx:=λΓ2=>∃ m',m' < m/\I m' Γ2,ct:=λΓ2=>∃ m',m' < m/\I m' Γ2,bk:=D.nx } Γ') (D.nx Γ')
theorem JI {body:List Stmt} (hp:PassesOwn (model X.prog X.w) X.A X.env X.xe) (hc:PT X c (xW t)) (hb:yq X body (yV p)):PS X (.While c body [] pos) (yV (zOB t p)):=yb (Kv hp hc hb) λD σ H ⟨Z0,H0,Z,Γ,Dp,E,⟨I,⟨m0,h0⟩,hst⟩,nx,rt,bk,ct⟩=>by
 refine ⟨λm σ' H'=>∃ Z' Γ',yY Z0 H0 Z' Γ' σ' H'/\zP (zR Z H) (zR Z' H')/\I m Γ',⟨m0,Z,Γ,E,zP.refl _,h0⟩,?_⟩
 rintro m σ' H' ⟨Z',Γ',E',s',hI⟩
 refine ⟨Z',Γ',_,E'.e,hst m Γ' hI,λb H1 hd s1=>?_⟩
 have s2:=s'.trans (yr s1)
 cases b with
 | false=>exact nx Z' Γ' σ' H1 (E'.mv s1) s2 (hd.2 rfl)
 | true=>
  refine ⟨λσ2 H2=>∃ m',m' < m/\∃ Z2 Γ2,yY Z0 H0 Z2 Γ2 σ2 H2/\zP (zR Z H) (zR Z2 H2)/\I m' Γ2,λ_ _ h=>h,?_⟩
  have again:∀ Z2 Γ2 σ2 H2,yY Z0 H0 Z2 Γ2 σ2 H2->zP (zR Z' H1) (zR Z2 H2)->(∃ m',m' < m/\I m' Γ2)->∃ m',m' < m/\∃ Z2 Γ2,yY Z0 H0 Z2 Γ2 σ2 H2/\zP (zR Z H) (zR Z2 H2)/\I m' Γ2:=λZ2 Γ2 σ2 H2 E2 k ⟨m',l,h⟩=>⟨m',l,Z2,Γ2,E2,s2.trans k,h⟩
  exact ⟨Z0,H0,Z',Γ',_,E'.mv s1,hd.1 rfl,again,rt,λZ2 Γ2 σ2 H2 E2 k h=>nx Z2 Γ2 σ2 H2 E2 (s2.trans k) h,again⟩
def qu:FL
 | [.int i],R=>R (.int (if i < 0 then -i else i))
 | _,_=>False
theorem zPz:uH (λxs H Q=>∃ i,xs=[.int i]/\Q (.int (if i < 0 then -i else i)) H) qu:=λZ H vs ds R Q zd hv h q=>by
 unfold qu at h
 split at h
 ·obtain ⟨v,rfl,hx⟩:=yy hv
  cases hx
  exact ⟨_,rfl,q _ _ H h (Sm.refl _) (.int _)⟩
 ·exact h.elim
def JJ:F2
 | d,.non,R=>R (.bool (match d with | .non=>true | _=>false))
 | _,_,_=>False
def qv:F2
 | d,.non,R=>R (.bool (match d with | .non=>false | _=>true))
 | _,_,_=>False
theorem zPQ:wZ (λx y H Q=>y=.non/\Q (.bl (decide (x=.non))) H) JJ:=λZ H x y a b R Q zd hx hy h q=>by
 unfold JJ at h
 split at h
 ·cases hy
  refine ⟨rfl,?_⟩
  cases hx <;> exact q _ _ H h (Sm.refl _) (.bool _)
 ·exact h.elim
theorem zM3:wZ (λx y H Q=>y=.non/\Q (.bl (!decide (x=.non))) H) qv:=λZ H x y a b R Q zd hx hy h q=>by
 unfold qv at h
 split at h
 ·cases hy
  refine ⟨rfl,?_⟩
  cases hx <;> exact q _ _ H h (Sm.refl _) (.bool _)
 ·exact h.elim
theorem j6 (ha:PE X a (tP pa)) (hb:PE X b (tP pb)):PT X (.Compare a [.Is] [b] pos) (xW (xi (xQ JJ pa pb))):=j4 L2.zRD zPQ (vW _) ha hb
theorem zMl (ha:PE X a (tP pa)) (hb:PE X b (tP pb)):PT X (.Compare a [.IsNot] [b] pos) (xW (xi (xQ qv pa pb))):=j4 zPG zM3 (vW _) ha hb
theorem zOe {K:PySem.W.Frag} {Z:Addr->Prop} {H:Hp} {p:Addr} {xs:List V} {ds:List D} (e:zR Z H p=some (.lst xs)) (h:yO (zR Z H) xs ds):Wk Z (UU K p) H (u3 0 ds):=λi Z' H' s zd=>by
 have e1:=yJ _ _ (s _ _ e)
 refine ⟨λd hd=>?_,λhi=>⟨xs,zo.of e1,by rw [j5] at hi; rw [wK h]; omega⟩⟩
 obtain ⟨d',hd',rfl⟩:=qt hd
 obtain ⟨x,hx,hh⟩:=Zr h hd'
 refine ⟨⟨xs,x,zo.of e1,hx⟩,λy H'' ⟨T,x',ev,hT,eH,q⟩=>?_⟩
 have:=q xs (zo.of e1)
 rw [hx] at this
 cases this
 subst ev
 subst eH
 rw [Nat.zero_add]
 exact ⟨wC hT _,Xw zd hT (.cons (.int _) (.cons (hh.same s) .nil))⟩
def pEn (pl:yg):yg:=λΓ R=>pl Γ λds=>jS ds λes=>R (u3 0 es)
theorem YE {ts:List Expr} {kk:Nat} {tp p:Pos} (hg:Gl X "enumerate") (hm:X.mg "enumerate" = none) (ha:PA X [e] (x8 pl)) (hs:starEach [e] X.env=[(false,eval e X.env)]:=by rfl) (hs2:starEach [] X.env=[]:=by rfl) :
  PI X (.Tuple ts kk tp) (.Call (.Name "enumerate" p) [e] [] pos) (uz (pEn pl)):=Zs (zO9 hg hm ha hs hs2) λσ H Q ⟨Z,Γ,R,E,h,q⟩=>
 ⟨Z,Γ,_,E,h,λds vs H1 hd s1 hv=>by
  unfold jS at hd
  split at hd
  ·obtain ⟨v,rfl,hw⟩:=yy hv
   obtain ⟨a,xs,rfl,ea,hx⟩:=hw.lst_inv
   exact ⟨a,rfl,⟨xs,zo.of (yJ _ _ ea)⟩,q _ _ H1 hd s1 (zOe ea hx)⟩
  ·exact hd.elim⟩
def YF (pa pb:zu):zu:=λΓ R=>pa Γ λd=>pb Γ λe=>∃ i j:Int,d=.int i/\e=.int j/\0<=i/\i<=1000/\0<=j/\j<=1000/\R (.lst ((List.range (j - i).toNat).map λ(k:Nat)=>.int (i + (k:Int))))
theorem zPr {H:Hp} {i:Int} (ks:List Nat):yO H (ks.map λ(k:Nat)=>V.int (i + (k:Int))) (ks.map λ(k:Nat)=>D.int (i + (k:Int))):=by
 induction ks with
 | nil=>exact .nil
 | cons k ks ih=>exact .cons (.int _) ih
theorem zO1 {lp rp:Pos} {p2:Pos} (hc:X.calm=true) (hgl:Gl X "list") (hml:X.mg "list" = none) (hgr:Gl X "range") (hmr:X.mg "range" = none) (ha:PE X a (tP pa)) (hb:PE X b (tP pb))
  (he:starEach [Expr.Call (.Name "range" rp) [a,b] [] p2] X.env=(false,eval (Expr.Call (.Name "range" rp) [a,b] [] p2) X.env) :: starEach [] X.env:=by rfl) (hpl:(backTo pos (starEach [] X.env)).any (·.1)=false:=by rfl)
  (he2:starEach [a,b] X.env=(false,eval a X.env) :: starEach [b] X.env:=by rfl) (he3:starEach [b] X.env=(false,eval b X.env) :: starEach [] X.env:=by rfl) (hpl2:(backTo p2 (starEach [b] X.env)).any (·.1)=false:=by rfl):PE X (.Call (.Name "list" lp) [.Call (.Name "range" rp) [a,b] [] p2] [] pos) (tP (YF pa pb)):=
 yT (Xf (zHN hc) hgl hml wB (zz (Xf zME hgr hmr zIs (zz ha (zz hb yf he3) he2) (by decide) (by decide) he2 hpl2) yf he) (by decide) (by decide) he hpl) λσ H Q ⟨Z,Γ,R,E,h,q⟩=>
  ⟨Z,Γ,_,E,h,λd v H1 hd s1 hv=>⟨Z,Γ,_,E.same s1,hd,λd2 v2 H2 hd2 s2 hv2=>by
   obtain ⟨i,j,rfl,rfl,i0,i1,j0,j1,hR⟩:=hd2
   cases hv
   cases hv2
   refine ⟨i,j,rfl,λr hr=>⟨r,i,j,rfl,xb,⟨by omega,by omega,by omega,by omega⟩,by omega,λl hl=>?_⟩⟩
   have s3:=s1.trans (s2.trans (wC hr (HO.rng i j)))
   exact q _ _ _ hR (s3.trans (wC hl _)) (uZ (E.same s3).zd hl (zPr _))⟩⟩
def YG (i:Nat) (pl:yg):xG:=λD Γ=>pl Γ λds=>jS ds λes=>D.nx (zt Γ i (.ow es))
theorem zMm (i:Nat) {x:Str} {pos' lp p2:Pos} (hN:X.N.Nodup) (hi:X.N[i]? = some x) (hx:v7 X.env.scope x) (hg:Gl X "list") (hm:X.mg "list" = none) (ha:PA X (e :: es) (x8 pl)) (he:starEach (e :: es) X.env=(false,eval e X.env) :: starEach es X.env:=by rfl) (hpl:(backTo p2 (starEach es X.env)).any (·.1)=false:=by rfl)
  (hs:swapsWith (.Call (.Name "list" lp) (e :: es) [] p2) (some (.Name x pos')) pos.line X.env=pure false:=by rfl) (hf:X.fn x=true\/X.env.scope.names.lookup x=some .local:=by first | exact .inl rfl | exact .inr rfl | assumption) :
  PS X (.Assign [.Name x pos'] (.Call (.Name "list" lp) (e :: es) [] p2) pos) (yV (YG i pl)):=yb (XW hN hi hx (Xf vX hg hm wB ha (by decide) (by decide) he hpl) hs hf) λD σ H ⟨Z0,H0,Z,Γ,Dp,E,h,nx,rt,bk,ct⟩=>
 ⟨Z,Γ,_,E.e,h,λds vs H1 hd s1 hv=>by
  unfold jS at hd
  split at hd
  ·obtain ⟨v,rfl,hw⟩:=yy hv
   obtain ⟨r,xs,rfl,er,hx⟩:=hw.lst_inv
   refine ⟨r,xs,rfl,.inl (zo.of (yJ _ _ er)),λl hl=>?_⟩
   obtain ⟨E2,s2⟩:=(E.mv s1).make hl hx i
   exact nx _ _ _ _ E2 ((yr s1).trans s2) hd
  ·exact hd.elim⟩
end
end Pu
namespace L2
open PySem PySem.Spec PyProof.Rows
section
variable {X:Cx}
def zKk (K:PySem.W.Frag):R2:=λx y H Q=>∃ (d:PyData) (xs:List PyData),Dp K H x d/\Dp K H y (.tuple xs)/\d.canLay0=true/\PyData.canLayAll0 xs=true/\d.depth<=60/\Q (.bl (!xs.any λy=>PyData.eqv y d)) H
theorem zLB (hu:X.A.units + 64 < cLine):yw X (compareOp .NotIn) (zKk X.K):=by
 intro pins s σ H x y v u Q I rx ry h
 obtain ⟨d,xs,hx,hy,hc,hxs,hd,q⟩:=h
 obtain ⟨_,r1⟩:=hx.reads I rx
 obtain ⟨_,r2⟩:=hy.reads I ry
 exact SeqAt.notIn_tuple_reads r2 r1 hxs hc (by omega) ⟨.bl _,H,I,rfl,q⟩
end
end L2
namespace L2
open PySem PySem.Spec PyProof.Rows
theorem zJD {X:Cx} {ss:List Stmt}:yq X ss (λ_ _ _=>False):=λ_ _ _ _ _ _ h=>h.elim
end L2
namespace Pu
open PySem L2 Sh
variable [yU]
open PyProof.Rows (envOfC)
inductive u4 (F:Addr->List D->Prop) (vs:List V) (H:Hp) (Q:VK) (E:XK):Prop
 | mk (Z:Addr->Prop) (ds:List D) (C:Addr) (zd:ZL Z H) (hv:yO (zR Z H) vs ds) (h:F C ds) (q:∀ H',Sm H H'->E (.ref C) none H'):u4 F vs H Q E
theorem JK {ps:List Str} {F:Addr->List D->Prop} (len:∀ C ds,F C ds->ds.length=ps.length) (vs:List V) (H:Hp) (Q:VK) (E:XK):u4 F vs H Q E->vs.length=ps.length:=λ⟨_,ds,C,_,hv,h,_⟩=>by rw [wK hv]; exact len C ds h
theorem JL {N ps:List Str} {Z:Addr->Prop} {H:Hp} {vs:List V} {ds:List D} (zd:ZL Z H) (hv:yO (zR Z H) vs ds) (l:ds.length=ps.length):yS Z (ds.map Sl.sh++List.replicate (N.length - ps.length) .no) (L2.wN N vs) H:=by
 have e:L2.wN N vs=vs.map some++List.replicate (N.length - ps.length) none:=by
  unfold L2.wN
  rw [wK hv,l]
 rw [e]
 exact U9 zd hv _
theorem zQK {p:wY} {pl:yg} {u:TS} {C:Addr} {E:XK} {D0:yu} {σ:St} {H:Hp} {Z:Addr->Prop} {Γ:List Sl} (e:yS Z Γ σ H) (h:p Γ λc=>c=true) (ha:pl Γ λds=>ds.length<=1000) (q:∀ H',Sm H H'->E (.ref C) none H'):uO (kP (xW p) (uO (zNw C E (x8 pl)) XU) u) XU D0 σ H:=
 ⟨Z,Γ,_,e,h,λc H1 hc s1=>by
  subst hc
  rw [if_pos rfl]
  exact ⟨Z,Γ,_,e.same s1,ha,λds vs H2 hd s2 hv=>⟨few (by rw [wK hv]; exact hd),q H2 (s1.trans s2)⟩⟩⟩
theorem zKO {F:Addr->List D->Prop} {pl:yg} {E:XK} {D0:yu} {σ:St} {H:Hp} {Z:Addr->Prop} {Γ:List Sl} {C:Addr} {u:TS} (e:yS Z Γ σ H) (h:pl Γ λds=>F C ds) (q:∀ H',Sm H H'->E (.ref C) none H'):uO (Wu (qM (u4 F) [] E (x8 pl))) u D0 σ H:=
 ⟨Z,Γ,_,e,h,λds vs H1 hd s1 hv=>⟨Z,ds,C,(e.same s1).zd,by rw [List.append_nil]; exact hv,hd,λH2 s2=>q H2 (s1.trans s2)⟩⟩
theorem yY.drop {Z0:Addr->Prop} {H0:Hp} {Z:Addr->Prop} {Γ:List Sl} {σ:St} {H:Hp} (E:yY Z0 H0 Z Γ σ H) (i:Nat) (x:Option V):yY Z0 H0 Z (zt Γ i .no) (σ.set i x) H:=by
 have key:∀ j y,slot (zt Γ i .no) j=y->y≠.no->slot Γ j=y/\(σ.set i x)[j]? = σ[j]?:=λj y q n=>by
  rw [xm] at q
  by_cases c:j=i/\i < Γ.length
  ·rw [if_pos c] at q; exact absurd q.symm n
  ·rw [if_neg c] at q
   have hj:=uE (Γ:=Γ) (i:=j) (by rw [q]; exact n)
   exact ⟨q,List.getElem?_set_ne λz=>c ⟨z.symm,by omega⟩⟩
 refine ⟨⟨λj d q=>?_,λj d q=>?_,λj o c ns d q=>?_,λj k as bs l q r e f=>?_,E.e.zd,by rw [qY,List.length_set]; exact E.e.len⟩,E.z0,E.z0d,E.same,λj d l q r=>?_,λj o c ns d q=>?_⟩
 ·obtain ⟨h1,h2⟩:=key j _ q (λz=>nomatch z)
  rw [h2]
  exact E.e.sh j d h1
 ·obtain ⟨h1,h2⟩:=key j _ q (λz=>nomatch z)
  rw [h2]
  exact E.e.ow j d h1
 ·obtain ⟨h1,h2⟩:=key j _ q (λz=>nomatch z)
  rw [h2]
  exact E.e.ob j o c ns d h1
 ·obtain ⟨h1,h2⟩:=key j _ q (λz=>nomatch z)
  obtain ⟨h3,h4⟩:=key k _ r (λz=>nomatch z)
  rw [h2] at e
  rw [h4] at f
  exact E.e.ne j k as bs l h1 h3 e f
 ·obtain ⟨h1,h2⟩:=key j _ q (λz=>nomatch z)
  rw [h2] at r
  exact E.own j d l h1 r
 ·exact E.owb j o c ns d (key j _ q (λz=>nomatch z)).1
def YH (K:PySem.W.Frag) (Cb A B:Addr) (i j:Nat) (F:Addr->List D->Prop) (pl:yg):xG:=λD Γ=>pl Γ λds=>∃ C a b,F C ds/\PySem.W.exmOne K (.ref C) (.ref Cb)=some true/\xg K C/\PySem.W.kitOne K (.ref C) (.ref A)=some a/\PySem.W.kitOne K (.ref C) (.ref B)=some b/\i < Γ.length/\D.nx (zt (zt (zt Γ i .no) j (.sh (.lst [.bool a,.bool b]))) i .no)
theorem zOg {K:PySem.W.Frag} {Cb A B:Addr} {i j:Nat} {F:Addr->List D->Prop} {pl:yg} (D:yu) (σ:St) (H:Hp):yV (YH K Cb A B i j F pl) D σ H->zQO K Cb i (λ(ES:St->XK) (D:yu) (σ:St) (H:Hp)=>qM (u4 F) [] (ES σ) (x8 pl) σ H λ_ H1=>D.nx σ H1) (uO (vj (ki (uB (qO (ZN K) (uB (vi i) (uB (tC (.ref A)) wW))) (uB (qO (ZN K) (uB (vi i) (uB (tC (.ref B)) wW))) wW))) (kQ j)) XU) D σ H:=λ⟨Z0,H0,Z,Γ,Dp,E,h,nx,rt,bk,ct⟩=>
 ⟨Z,Γ,_,E.e,h,λds vs H1 ⟨C,a,b,hF,hx,xc,k1,k2,il,hd⟩ s1 hv=>⟨Z,ds,C,(E.e.same s1).zd,by rw [List.append_nil]; exact hv,hF,λH2 s2=>⟨C,rfl,hx,λe he=>by
  have ev:(σ.set i (some (V.ref e)))[i]? = some (some (.ref e)):=List.getElem?_set_self (by rw [<- E.e.len]; exact il)
  have ze:=wC he (uY e C)
  refine ⟨_,ev,e,C,A,a,rfl,xb,xc,k1,_,ev,e,C,B,b,rfl,xb,xc,k2,(by show 2<=sizeLine; decide),λl hl=>?_⟩
  have s3:=(s1.trans s2).trans (ze.trans (wC hl (.lst [.bl a,.bl b])))
  have E3:=(((E.mv s3).drop i (some (V.ref e))).set (v:=.ref l) (d:=.lst [.bool a,.bool b]) (uZ (((E.mv s1).mv s2).mv ze).e.zd hl (.cons (.bool a) (.cons (.bool b) .nil))) j).drop i none
  exact nx Z _ _ _ E3 (yr s3) hd⟩⟩⟩
def qw:F2
 | x,.tup ds,R=>x.pl 50=true/\(D.tup ds).pl 50=true/\R (.bool (!(vM ds).any λy=>PyData.eqv y x.py))
 | _,_,_=>False
theorem zPN {K:PySem.W.Frag}:wZ (zKk K) qw:=λZ H x y a b R Q zd hx hy h q=>by
 unfold qw at h
 split at h
 ·have d1:=uF _ _ h.1
  have d2:=uF _ _ h.2.1
  have e1:=d1.dep
  have l2:=d2.lay
  exact ⟨_,_,d1.dp K H _ (hx.same yJ),d2.dp K H _ (hy.same yJ),d1.lay,by simpa [D.py,PyData.canLay0] using l2,by omega,q _ _ H h.2.2 (Sm.refl _) (.bool _)⟩
 ·exact h.elim
theorem zOz {X:Cx} {a b:Expr} {pos:Pos} {pa pb:zu} (hu:X.A.units + 64 < cLine) (ha:PE X a (tP pa)) (hb:PE X b (tP pb)) (hm:behindInMarks .NotIn b=false:=by rfl):PT X (.Compare a [.NotIn] [b] pos) (xW (xi (xQ qw pa pb))):=j4 (zLB hu) zPN hm ha hb
end Pu
namespace Pu
open PySem L2 Sh
variable [yU]
open PyProof.Rows (envOfC)
abbrev YI (F:FL) (n:Nat):Prop:=∀ ds R,F ds R->ds.length=n
section
variable {P:Program} {w:World} {K:PySem.W.Frag} {mg:Str->Option Value} {base:Heap} {x qual:Str} {st:Stmt} {f c C:Addr} {fd:FuncData} {dv:Value} {N ps:List Str} {p0:Str} {k:Nat} {F:FL}
theorem zj (Fu:zY K x qual st f fd) (S:zX N ps (zN st)) (hbody:∀ (cdv:Value) (A:Around) (outer:List Env) (s:Shared) (H:Hp) (E:XK),zW k (A.deeper (envOfC qual (zN st) s.heap.objs.size f cdv))->
   ∃ p,yq (za zT P w K mg base N qual (zN st) f cdv A outer s H E).nox (xS st) (yV p)/\∀ ds R,F ds R->p { nx:=λ_=>R .non,rt:=R } (ds.map Sl.sh++List.replicate (N.length - ps.length) .no)) (len:YI F ps.length:=by intro _ _ h; first | (obtain ⟨rfl,_⟩:=h; rfl) | (obtain ⟨_,rfl,_⟩:=h; rfl) | (obtain ⟨_,_,rfl,_⟩:=h; rfl) | (obtain ⟨_,_,_,rfl,_⟩:=h; rfl) | (obtain ⟨_,_,_,_,rfl,_⟩:=h; rfl) | (obtain ⟨_,_,_,_,_,rfl,_⟩:=h; rfl) | (obtain ⟨_,_,_,_,_,_,rfl,_⟩:=h; rfl) | (obtain ⟨_,_,_,_,_,_,_,rfl,_⟩:=h; rfl) | (obtain ⟨_,_,_,_,_,_,_,_,rfl,_⟩:=h; rfl) | (obtain ⟨_,_,_,_,_,_,_,_,_,rfl,_⟩:=h; rfl) | (obtain ⟨_,_,_,_,_,_,_,_,_,_,rfl,_⟩:=h; rfl) | (obtain ⟨_,_,_,_,_,_,_,_,_,_,_,rfl,_⟩:=h; rfl) | (obtain ⟨_,_,_,_,_,_,_,_,_,_,_,_,rfl,_⟩:=h; rfl) | (obtain ⟨_,_,_,_,_,_,_,_,_,_,_,_,_,rfl,_⟩:=h; rfl)):zF P w K mg base zT (k + 1) f fd ps (zG F):=okP Fu S len hbody
theorem qy (Fu:xT K x qual st f fd dv) (S:zX N ps (zN st)) (hbody:∀ (cdv:Value) (A:Around) (outer:List Env) (s:Shared) (H:Hp) (E:XK),zW k (A.deeper (envOfC qual (zN st) s.heap.objs.size f cdv))->
   ∃ p,yq (za zT P w K mg base N qual (zN st) f cdv A outer s H E).nox (xS st) (yV p)/\∀ ds R,F ds R->p { nx:=λ_=>R .non,rt:=R } (ds.map Sl.sh++List.replicate (N.length - ps.length) .no)) (len:YI F ps.length:=by intro _ _ h; first | (obtain ⟨rfl,_⟩:=h; rfl) | (obtain ⟨_,rfl,_⟩:=h; rfl) | (obtain ⟨_,_,rfl,_⟩:=h; rfl) | (obtain ⟨_,_,_,rfl,_⟩:=h; rfl) | (obtain ⟨_,_,_,_,rfl,_⟩:=h; rfl) | (obtain ⟨_,_,_,_,_,rfl,_⟩:=h; rfl) | (obtain ⟨_,_,_,_,_,_,rfl,_⟩:=h; rfl) | (obtain ⟨_,_,_,_,_,_,_,rfl,_⟩:=h; rfl) | (obtain ⟨_,_,_,_,_,_,_,_,rfl,_⟩:=h; rfl) | (obtain ⟨_,_,_,_,_,_,_,_,_,rfl,_⟩:=h; rfl) | (obtain ⟨_,_,_,_,_,_,_,_,_,_,rfl,_⟩:=h; rfl) | (obtain ⟨_,_,_,_,_,_,_,_,_,_,_,rfl,_⟩:=h; rfl) | (obtain ⟨_,_,_,_,_,_,_,_,_,_,_,_,rfl,_⟩:=h; rfl) | (obtain ⟨_,_,_,_,_,_,_,_,_,_,_,_,_,rfl,_⟩:=h; rfl)):zF P w K mg base zT (k + 1) f fd ps (zG F):=JB Fu S len hbody
end
section
variable {X:Cx} {a b e:Expr} {es:List Expr} {pos pos':Pos} {pa pb:zu} {pl:yg} {x:Str}
theorem zH (ha:PE X a (tP pa)) (hb:PE X b (tP pb)) (hs:Xg b:=by exact λ_ _=>rfl):PE X (.Subscript a b pos) (tP (xQ ixD pa pb)):=Zf ha hb hs
theorem zS (i:Nat) (hN:X.N.Nodup) (he:PE X e (tP pa)) (hi:X.N[i]? = some x:=by rfl) (hx:v7 X.env.scope x:=by first | exact Or.inl rfl | exact Or.inr rfl) (hs:swapsWith e (some (.Name x pos')) pos.line X.env=pure false:=by rfl) (hf:X.fn x=true\/X.env.scope.names.lookup x=some .local:=by first | exact .inl rfl | exact .inr rfl | assumption):PS X (.Assign [.Name x pos'] e pos) (yV (vQ i pa)):=zO0 i hN hi hx he hs hf
theorem zx (i:Nat) (hN:X.N.Nodup) (hi:X.N[i]? = some x:=by rfl) (hx:v7 X.env.scope x:=by first | exact Or.inl rfl | exact Or.inr rfl) (hf:X.fn x=true\/X.env.scope.names.lookup x=some .local:=by first | exact .inl rfl | exact .inr rfl | assumption):PG X (.Name x pos) (tG [i] Ur):=zMn i hN hi hx hf
theorem zp {js:List Nat} {po:List D->Option (List D)} {n:Nat} (i:Nat) (hN:X.N.Nodup) (h:gi X es js po n) (hi:X.N[i]? = some x:=by rfl) (hx:v7 X.env.scope x:=by first | exact Or.inl rfl | exact Or.inr rfl)
  (hs:(assignEach (.Name x pos :: es) X.env).map (·.2)=assign (.Name x pos) X.env :: (assignEach es X.env).map (·.2):=by rfl) (hf:X.fn x=true\/X.env.scope.names.lookup x=some .local:=by first | exact .inl rfl | exact .inr rfl | assumption):gi X (.Name x pos :: es) (i :: js) (Ut po) (n + 1):=zKm i hN hi hx h hs hf
theorem zy (l:List Str) (h:l.Nodup:=by decide +kernel):l.Nodup:=h
theorem yM {scope S:Scope} {own N ps:List Str} {caps:List (Nat × Str)} (_:zX N ps S) (k:scope.kind=.function:=by rfl) (nd:(scope.names.map (·.1)).Nodup:=by decide +kernel) (hS:X.env.scope=S:=by rfl) (hc:∃ n,X.env.cells=cellsFrom n S.names []:=by first | exact ⟨0,rfl⟩ | exact ⟨_,rfl⟩) (hN:X.N=N:=by rfl) (fr:scope.names.all (λy=>y.2 != .free || S.names.lookup y.1 == some .cell)=true:=by decide +kernel)
  (cp:caps.all (λp=>N[p.1]? == some p.2 && scope.names.lookup p.2 == some .free && S.names.lookup p.2 == some .cell)=true:=by decide +kernel):vo X scope own caps:=zNl k nd hS hc hN fr cp
theorem WC {Y:Cx} {scope S:Scope} {own own0:List Str} {caps caps0:List (Nat × Str)} {C:Addr} {s₀:Shared} {H₀:Hp} {ex:List Addr} (k:scope.kind=.function:=by rfl) (nd:(scope.names.map (·.1)).Nodup:=by decide +kernel)
  (ndS:(S.names.map (·.1)).Nodup:=by decide +kernel) (fr:scope.names.all (λy=>y.2 != .free || S.names.lookup y.1 == some .cell || S.names.lookup y.1 == some .free)=true:=by decide +kernel)
  (cp:caps.all (λp=>(zn own0 caps0)[p.1]? == some p.2 && scope.names.lookup p.2 == some .free)=true:=by decide +kernel):vo (y8 Y S (zn own0 caps0) C s₀ H₀ ex) scope own caps:=zRu k nd ndS fr cp
end
end Pu
namespace K75
open PySem L2 Sh Pu
def zf (i:Nat):Stmt:=PySem.Challenge.pw_steadyhand_k75_the_worst.main.body.getD i (.Pass ⟨0,0,0,0⟩)
structure Bl (mg:Str->Option Value):Prop where
 isinstance_:mg "isinstance" = none
 int_:mg "int" = none
 bool_:mg "bool" = none
 tuple_:mg "tuple" = none
 len_:mg "len" = none
 all_:mg "all" = none
 list_:mg "list" = none
 range_:mg "range" = none
 zip_:mg "zip" = none
 sum_:mg "sum" = none
 max_:mg "max" = none
 enumerate_:mg "enumerate" = none
 min_:mg "min" = none
 abs_:mg "abs" = none
 MOST_NUMBERS_:∃ t,mg "MOST_NUMBERS" = some (.int 3 t)
 MOST_PUSHES_:∃ t,mg "MOST_PUSHES" = some (.int 6 t)
 MOST_MODES_:∃ t,mg "MOST_MODES" = some (.int 40 t)
structure zOb (K:PySem.W.Frag) (C:Addr):Prop where
 n_rows:w8 K C "rows"
 n_nexts:w8 K C "nexts"
 n_steer:w8 K C "steer"
 n_push:w8 K C "push"
 n_add:w8 K C "add"
 n_divisor:w8 K C "divisor"
structure zMN (K:PySem.W.Frag) (C:Addr):Prop where
 n_many:w8 K C "many"
 n_kept_pushes:w8 K C "kept_pushes"
 n_kept_modes:w8 K C "kept_modes"
variable [iT:yU]
inductive Fw:Nat->D->Prop
 | int {k:Nat} (i:Int):Fw (k + 1) (.int i)
 | bool {k:Nat} (b:Bool):Fw (k + 1) (.bool b)
 | non {k:Nat}:Fw (k + 1) .non
 | str {k:Nat} (x:Str):Fw (k + 1) (.str x)
 | lst {k:Nat} {ds:List D} (l:ds.length<=900) (h:∀ d∈ds,Fw k d):Fw (k + 1) (.lst ds)
 | tup {k:Nat} {ds:List D} (l:ds.length<=900) (h:∀ d∈ds,Fw k d):Fw (k + 1) (.tup ds)
theorem Fw.no {k:Nat} {d:D} (h:Fw k d):d.isObj=false:=by cases h <;> rfl
theorem Fw.lst_inv {k:Nat} {d:D} (h:Fw k d) (e:d.isLst=true):∃ ds,d=.lst ds/\ds.length<=900/\∃ j,k=j + 1/\∀ d∈ds,Fw j d:=by
 cases h with
 | lst l h=>exact ⟨_,rfl,l,_,rfl,h⟩
 | _=>cases e
theorem Fw.tup_inv {k:Nat} {d:D} (h:Fw k d) (e:d.isTup=true):∃ ds,d=.tup ds/\ds.length<=900/\∃ j,k=j + 1/\∀ d∈ds,Fw j d:=by
 cases h with
 | tup l h=>exact ⟨_,rfl,l,_,rfl,h⟩
 | _=>cases e
theorem zLl {k:Nat} {ns:List Int}:∀ d∈ns.map D.int,Fw (k + 1) d:=λd m=>by
 obtain ⟨i,_,rfl⟩:=List.mem_map.mp m
 exact .int i
theorem k0 {n:Nat} (h:n.ble 1000=true:=by rfl):n<=1000:=Nat.le_of_ble_eq_true h
theorem bR {R:D->Prop} {a b:Bool} (q:R (.bool a)) (e:a=b):R (.bool b):=e ▸ q
def j7 (d:D):Bool:=d.isInt && !d.isBool
def WD (n:Int):D->Bool
 | .lst ds=>decide ((ds.length:Int)=n) && ds.all j7
 | _=>false
def YJ (h w:Int):D->Bool
 | .lst ds=>decide ((ds.length:Int)=h) && ds.all (WD w)
 | _=>false
def jT (n:Int):D->Bool
 | .tup ds=>decide ((ds.length:Int)=n + 1) && ds.all j7
 | _=>false
def zQe (n:Int):D->Bool
 | .lst ds=>ds.all (jT n)
 | _=>false
theorem gk {α:Type} (f:α->Bool) (xs:List α):(xs.map f).all id=xs.all f:=by rw [List.all_map]; rfl
def qz:FL:=λds R=>∃ d,ds=[d]/\d.isObj=false/\R (.bool (j7 d))
def JM:FL:=λds R=>∃ d n k,ds=[d,.int n]/\Fw k d/\R (.bool (WD n d))
def YK:FL:=λds R=>∃ d h w k,ds=[d,.int h,.int w]/\Fw k d/\R (.bool (YJ h w d))
def YL:FL:=λds R=>∃ d n k,ds=[d,.int n]/\Fw k d/\R (.bool (jT n d))
def zRj:FL:=λds R=>∃ d n k,ds=[d,.int n]/\Fw k d/\R (.bool (zQe n d))
def YM (j:Nat):FL:=λds R=>∃ d n,ds=[d,.int n]/\Fw j d/\R d
def zRi:FL:=λds R=>∃ p w n:Int,ds=[.int p,.int w,.int n]/\0<=w/\w<=900/\R (L (yE p w.toNat n))
def IS (d:D) (ns:List Int):Prop:=d=L ns\/d=U ns
def WE:FL:=λds R=>∃ (d e:D) (ns os:List Int),ds=[d,e]/\IS d ns/\IS e os/\ns.length<=900/\(∀ x∈ns,Bd 9000 x)/\(∀ x∈os,Bd 9000 x)/\R (.int (zg ns os))
theorem zIx:∀ ns os:List Int,List.zipWith yt (ns.map D.int) (os.map D.int)=(ns.zip os).map λq=>yt (.int q.1) (.int q.2)
 | [],_=>rfl
 | _ :: _,[]=>rfl
 | _ :: ns,_ :: os=>by rw [List.map_cons,List.map_cons,List.zipWith_cons_cons,zIx ns os]; rfl
theorem IS.zip {d e:D} {ns os:List Int} (h:IS d ns) (k:IS e os) {R:List D->Prop} (q:R ((ns.zip os).map λq=>yt (.int q.1) (.int q.2))):uc [d,e] R:=by
 rw [<- zIx] at q
 rcases h with rfl | rfl <;> rcases k with rfl | rfl <;> exact q
theorem zRs {qs:List (Int × Int)} {G:D->(D->Prop)->Prop} {R:D->Prop} (g:Int × Int->Int) (few:qs.length<=1000) (h:∀ q,q∈qs->G (yt (.int q.1) (.int q.2)) λe=>e=.int (g q)) (k:R (.lst ((qs.map g).map D.int))):zq (qs.map λq=>yt (.int q.1) (.int q.2)) G R:=
 zq.map (λd=>match d with | .tup [x,y]=>.int (g (yK x,yK y)) | _=>.non) (by rw [List.length_map]; exact few) (λd m=>by
  obtain ⟨q,hq,rfl⟩:=List.mem_map.mp m
  exact h q hq) (by rw [List.map_map] at k |-; exact k)
theorem zI4:∀ ns os:List Int,((ns.zip os).map λq=>q.1 * q.2).sum=zg ns os
 | [],_=>rfl
 | _ :: _,[]=>rfl
 | n :: ns,o :: os=>by rw [List.zip_cons_cons,List.map_cons,List.sum_cons,zI4 ns os]; rfl
abbrev Tb (t:List (List Int)):D:=.lst (t.map L)
abbrev Rm (t:List (List Int)):D:=.lst (t.map U)
def yQ:D->List Int
 | .lst ds=>ds.map yK
 | .tup ds=>ds.map yK
 | _=>[]
theorem zJK (ns:List Int):(ns.map D.int).map yK=ns:=by rw [List.map_map]; exact List.map_id _
theorem gl (ns:List Int):yQ (L ns)=ns:=zJK ns
theorem JN (ns:List Int):yQ (U ns)=ns:=zJK ns
theorem vD {α:Type} {xs:List α} {G:D->(D->Prop)->Prop} {R:D->Prop} (u:α->D) (v:D->α) (hv:∀ x,v (u x)=x) (g:α->D) (few:xs.length<=1000) (h:∀ x,x∈xs->G (u x) λe=>e=g x) (q:R (.lst (xs.map g))):zq (xs.map u) G R:=
 zq.map (λd=>g (v d)) (by rw [List.length_map]; exact few) (λd m=>by
  obtain ⟨x,hx,rfl⟩:=List.mem_map.mp m
  rw [hv]
  exact h x hx) (by
  rw [List.map_map,show ((λd=>g (v d)) ∘ u)=g from funext λx=>congrArg g (hv x)]
  exact q)
def IT (e:D) (ls:List (List Int)):Prop:=e=Tb ls\/e=Rm ls
theorem JO {α:Type} (u:α->D):∀ (ns:List Int) (ls:List α),List.zipWith yt (ns.map D.int) (ls.map u)=(ns.zip ls).map λq=>yt (.int q.1) (u q.2)
 | [],_=>rfl
 | _ :: _,[]=>rfl
 | _ :: ns,_ :: ls=>by rw [List.map_cons,List.map_cons,List.zipWith_cons_cons,JO u ns ls]; rfl
def v2 (d:D):Int × List Int:=match d with
 | .tup [x,y]=>(yK x,yQ y)
 | _=>(0,[])
theorem yd {ns:List Int} {j:Nat} (h:j < ns.length) {i:Int} (e:i=(j:Int)):ya (ns.map D.int) i=some (.int (ns.getD j 0)):=by
 rw [qi,e]
 unfold ya wI
 rw [if_pos (by omega),if_pos (by omega)]
 show Option.map D.int ns[((j:Nat):Int).toNat]? = _
 rw [show ((j:Nat):Int).toNat=j by omega,List.getElem?_eq_getElem h,List.getD_eq_getElem?_getD,List.getElem?_eq_getElem h]
 rfl
theorem IS.zipT {d e:D} {ns:List Int} {ls:List (List Int)} (h:IS d ns) (k:IT e ls) {R:List D->Prop} (q:∀ u:List Int->D,u=L\/u=U->R ((ns.zip ls).map λq=>yt (.int q.1) (u q.2))):uc [d,e] R:=by
 have q1:=q L (.inl rfl)
 have q2:=q U (.inr rfl)
 rw [<- JO] at q1 q2
 rcases h with rfl | rfl <;> rcases k with rfl | rfl <;> first | exact q1 | exact q2
theorem YN {u:List Int->D} (hu:u=L\/u=U) (q:Int × List Int):v2 (yt (.int q.1) (u q.2))=q:=by
 rcases hu with rfl | rfl
 ·show (q.1,yQ (L q.2))=q
  rw [gl]
 ·show (q.1,yQ (U q.2))=q
  rw [JN]
def zOV:FL:=λds R=>∃ (d e:D) (ns:List Int) (ls:List (List Int)) (w:Nat),ds=[d,e,.int (w:Int)]/\IS d ns/\IT e ls/\w<=900/\ns.length<=900/\(∀ x∈ns,Bd 9000 x)/\(∀ r∈ls,w<=r.length/\∀ x∈r,Bd 9000 x)/\R (L ((List.range w).map (yD ns ls)))
def zLs:FL:=λds R=>∃ p w n b:Int,ds=[.int p,.int w,.int n,.int b]/\0<=w/\w<=900/\R (U (yE p w.toNat n++[b]))
theorem wP {e:Nat} {r:List Int} (h:∀ x∈r,Bd e x) (j:Nat):Bd e (r.getD j 0):=by
 rw [List.getD_eq_getElem?_getD]
 cases hj:r[j]? with
 | none=>show (0:Int).natAbs < 2 ^ e; exact Nat.two_pow_pos e
 | some x=>exact h x (List.mem_of_getElem? hj)
abbrev zOI:List Str:=["rows","nexts","steer","push","add","divisor"]
abbrev zOk:List Str:=["many","kept_pushes","kept_modes"]
abbrev wg (C:Addr) (m:MD):D:=.obj C zOI [Rm m.rows,Tb m.nexts,L m.steer,Tb m.push,L m.add,.int m.div]
abbrev yC (b:Int × Int):D:=.tup [.int b.1,.int b.2]
abbrev wE (C CM:Addr) (n:Nat) (bs:List (Int × Int)) (ms:List MD):D:=.obj C zOk [.int (n:Int),.lst (bs.map yC),.lst (ms.map (wg CM))]
theorem uh {k:Nat} {ns:List Int} (h:ns.length<=900):Fw (k + 2) (L ns):=.lst (by rw [List.length_map]; exact h) zLl
theorem JP {k:Nat} {ns:List Int} (h:ns.length<=900):Fw (k + 2) (U ns):=.tup (by rw [List.length_map]; exact h) zLl
theorem WF {k:Nat} {t:List (List Int)} (h:t.length<=900) (h2:∀ r∈t,r.length<=900):Fw (k + 3) (Tb t):=.lst (by rw [List.length_map]; exact h) λd m=>by
 obtain ⟨r,hr,rfl⟩:=List.mem_map.mp m
 exact uh (h2 r hr)
theorem zRf {k:Nat} {t:List (List Int)} (h:t.length<=900) (h2:∀ r∈t,r.length<=900):Fw (k + 3) (Rm t):=.lst (by rw [List.length_map]; exact h) λd m=>by
 obtain ⟨r,hr,rfl⟩:=List.mem_map.mp m
 exact JP (h2 r hr)
theorem zIA (ns:List Int):(ns.map D.int).all j7=true:=List.all_eq_true.mpr λd m=>by
 obtain ⟨i,_,rfl⟩:=List.mem_map.mp m
 rfl
theorem JQ {n:Int} {ns:List Int} (h:(ns.length:Int)=n):WD n (L ns)=true:=by
 show (decide _ && _)=true
 rw [List.length_map,decide_eq_true h,zIA]
 rfl
theorem zNu {h w:Int} {t:List (List Int)} (e:(t.length:Int)=h) (k:∀ r∈t,(r.length:Int)=w):YJ h w (Tb t)=true:=by
 show (decide _ && _)=true
 rw [List.length_map,decide_eq_true e]
 exact List.all_eq_true.mpr λd m=>by
  obtain ⟨r,hr,rfl⟩:=List.mem_map.mp m
  exact JQ (k r hr)
theorem zQd {n:Int} {ns:List Int} (h:(ns.length:Int)=n + 1):jT n (U ns)=true:=by
 show (decide _ && _)=true
 rw [List.length_map,decide_eq_true h,zIA]
 rfl
theorem zOx {n:Int} {t:List (List Int)} (k:∀ r∈t,(r.length:Int)=n + 1):zQe n (Rm t)=true:=List.all_eq_true.mpr λd m=>by
 obtain ⟨r,hr,rfl⟩:=List.mem_map.mp m
 exact zQd (k r hr)
def zOS (C:Addr):FL:=λds R=>∃ r n s p a d,ds=[r,n,s,p,a,d]/\Fw 5 r/\Fw 5 n/\Fw 5 s/\Fw 5 p/\Fw 5 a/\R (.obj C zOI [r,n,s,p,a,d])
def zLw:FL:=λds R=>∃ b:Int × Int,ds=[yC b]/\b.1<=b.2/\R (.bool true)
def zLx (C:Addr):FL:=λds R=>∃ (m:MD) (n p:Nat),ds=[wg C m,.int (n:Int),.int (p:Int)]/\uW m n p/\R (.bool true)
def zJR (C:Addr):FL:=λds R=>∃ (n:Nat) (bs:List (Int × Int)) (ms:List MD),ds=[.int (n:Int),.lst (bs.map yC),.lst (ms.map (wg C))]/\wJ n bs ms/\R (.bool true)
def zLr (C CM:Addr):FL:=λds R=>∃ (n:Nat) (bs:List (Int × Int)) (ms:List MD),ds=[.int (n:Int),.lst (bs.map yC),.lst (ms.map (wg CM))]/\wJ n bs ms/\R (wE C CM n bs ms)
def WG (C CM:Addr):FL:=λds R=>∃ n bs ms,ds=[wE C CM n bs ms]/\R (.lst (bs.map yC))
def JR (C CM:Addr):FL:=λds R=>∃ n bs ms,ds=[wE C CM n bs ms]/\R (.lst (ms.map (wg CM)))
def uK (ms:List MD):Bool:=ms.all λm=>m.steer.all λx=>decide (x=0)
def zGe (C:Addr):FL:=λds R=>∃ m,ds=[wg C m]/\m.steer.length<=900/\R (.bool (m.steer.all λx=>decide (x=0)))
def JS (C CM:Addr):FL:=λds R=>∃ n bs ms,ds=[wE C CM n bs ms]/\wJ n bs ms/\R (.bool (uK ms))
def JT (C CM:Addr):FL:=λds R=>∃ n bs ms,ds=[wE C CM n bs ms]/\wJ n bs ms/\uK ms=true/\R .non
theorem YO {ns:List Int} {G:D->(D->Prop)->Prop} {R:D->Prop} (g:Int->Bool) (few:ns.length<=1000) (h:∀ n,n∈ns->G (.int n) λe=>e=.bool (g n)) (q:R (.lst ((ns.map g).map D.bool))):zq (ns.map D.int) G R:=
 vD D.int yK (λ_=>rfl) (λn=>.bool (g n)) few h (by rw [List.map_map] at q; exact q)
def xy (d:D):MD:=match d with
 | .obj _ _ [.lst r,.lst n,s,.lst p,a,d]=>⟨r.map yQ,n.map yQ,yQ s,p.map yQ,yQ a,yK d⟩
 | _=>⟨[],[],[],[],[],0⟩
theorem zNs (t:List (List Int)):(t.map L).map yQ=t:=by
 rw [List.map_map,show (yQ ∘ L)=id from funext λr=>gl r]
 exact List.map_id _
theorem zQH (t:List (List Int)):(t.map U).map yQ=t:=by
 rw [List.map_map,show (yQ ∘ U)=id from funext λr=>JN r]
 exact List.map_id _
theorem zKM (C:Addr) (m:MD):xy (wg C m)=m:=by
 show MD.mk ((m.rows.map U).map yQ) ((m.nexts.map L).map yQ) (yQ (L m.steer)) ((m.push.map L).map yQ) (yQ (L m.add)) m.div=m
 rw [zQH,zNs,zNs,gl,gl]
def JU (d:D):Int × Int:=match d with
 | .tup [x,y]=>(yK x,yK y)
 | _=>(0,0)
def WH (n p:Nat) (ws:List Int) (b:Int) (m:MD):List Int:=((List.range n).map (yD ws m.nexts)++(List.range p).map (yD ws m.push))++[m.div * b - zg ws m.add]
theorem wQ {e:Nat}:Bd e (0:Int):=by
 show (0:Int).natAbs < 2 ^ e
 exact Nat.two_pow_pos e
theorem j8 {e n:Nat} {pl nu:Int} (h:Bd e nu):∀ x∈yE pl n nu,Bd e x:=λx hx=>by
 obtain ⟨i,_,rfl⟩:=List.mem_map.mp hx
 show Bd e (if (i:Int)=pl then nu else 0)
 split
 ·exact h
 ·exact wQ
theorem YQ {r:List Int} {n:Nat} (h:r.length=n + 1):zh (r.map D.int) none (some (-1))=(r.take n).map D.int:=by
 have e1:HT.sIx (r.map D.int).length 0 none=0:=HT.sIx_none _ _
 have e2:HT.sIx (r.map D.int).length (r.map D.int).length (some (-1))=n:=by
  rw [List.length_map,h]
  show (if (-1:Int) < 0 then ((-1:Int) + ((n + 1:Nat):Int)).toNat else min (-1:Int).toNat (n + 1))=n
  rw [if_pos (by decide)]
  omega
 unfold zh
 rw [e1,e2,List.drop_zero,Nat.sub_zero,List.map_take]
theorem YR (ws:List Int) (b:Int):zh ((ws++[b]).map D.int) none (some (-1))=ws.map D.int:=by
 rw [YQ (n:=ws.length) (by rw [List.length_append]; rfl),List.take_append_of_le_length (Nat.le_refl _),List.take_of_length_le (Nat.le_refl _)]
theorem gm {r:List Int} {n:Nat} (h:r.length=n + 1):ya (r.map D.int) (-1)=some (.int (r.getD n 0)):=by
 rw [qi]
 unfold ya wI
 rw [if_neg (by decide),if_pos (by omega)]
 show Option.map D.int r[((-1:Int) + (r.length:Int)).toNat]? = _
 rw [show ((-1:Int) + (r.length:Int)).toNat=n by omega,List.getElem?_eq_getElem (by omega),List.getD_eq_getElem?_getD,List.getElem?_eq_getElem (by omega)]
 rfl
theorem JV (ws:List Int) (b:Int):ya ((ws++[b]).map D.int) (-1)=some (.int b):=by
 rw [gm (n:=ws.length) (by rw [List.length_append]; rfl),List.getD_eq_getElem?_getD,List.getElem?_append_right (Nat.le_refl _),Nat.sub_self]
 rfl
theorem YS {α:Type} (u:α->D):∀ (xs:List α) (ys:List D),List.zipWith yt (xs.map u) ys=(xs.zip ys).map λq=>yt (u q.1) q.2
 | [],_=>rfl
 | _ :: _,[]=>rfl
 | _ :: xs,_ :: ys=>by rw [List.map_cons,List.zipWith_cons_cons,YS u xs ys]; rfl
theorem zRt {α:Type} {xs:List α} {ys:List D} {G:D->(D->Prop)->Prop} {R:D->Prop} (u:α->D) (v:D->α) (hv:∀ x,v (u x)=x) (g:α->D->Bool) (few:xs.length<=1000) (h:∀ x y,(x,y)∈xs.zip ys->G (yt (u x) y) λe=>e=.bool (g x y)) (q:R (.lst (((xs.zip ys).map λp=>g p.1 p.2).map D.bool))):zq (List.zipWith yt (xs.map u) ys) G R:=by
 rw [YS]
 refine vD (λp:α × D=>yt (u p.1) p.2) (λd=>match d with | .tup [a,b]=>(v a,b) | _=>(v .non,.non)) (λp=>?_) (λp=>.bool (g p.1 p.2)) (by rw [List.length_zip]; omega) (λp hp=>h p.1 p.2 hp) (by rw [List.map_map] at q; exact q)
 show (v (u p.1),p.2)=p
 rw [hv]
structure MBd (m:MD):Prop where
 nexts:∀ r∈m.nexts,∀ x∈r,Bd 9000 x
 push:∀ r∈m.push,∀ x∈r,Bd 9000 x
 add:∀ x∈m.add,Bd 9000 x
 div:Bd 9000 m.div
theorem YT {b:Bool} (h:(!b)=true):b=false:=by cases b <;> first | rfl | cases h
theorem zNq {b:Bool} (h:(!b)=false):b=true:=by cases b <;> first | rfl | cases h
def zOQ (C CM:Addr):FL:=λds R=>∃ n bs ms m r,ds=[wE C CM n bs ms,wg CM m,U r]/\n<=3/\bs.length<=6/\uW m n bs.length/\MBd m/\r.length=n + 1/\(∀ x∈r,Bd 9000 x)/\R (U (WH n bs.length (r.take n) (r.getD n 0) m))
abbrev dF (x:Int):D:=.tup [.int x,.int 1]
def gI (t b:Int):Int:=if b < 0 then -((Nat.gcd t.natAbs b.natAbs:Nat):Int) else ((Nat.gcd t.natAbs b.natAbs:Nat):Int)
def JW:FL:=λds R=>∃ a b:Int,ds=[.tup [.int a,.int b]]/\R (.int ((Nat.gcd a.natAbs b.natAbs:Nat):Int))
def u5:FL:=λds R=>∃ t b:Int,ds=[.int t,.int b]/\b≠0/\Bd 7000 b/\R (.tup [.int (t.fdiv (gI t b)),.int (b.fdiv (gI t b))])
theorem zP9 (x:Int):(if x < 0 then -x else x)=((x.natAbs:Nat):Int):=by split <;> omega
theorem zNa (a b:Nat):((a:Nat):Int).fmod ((b:Nat):Int)=((a % b:Nat):Int):=by
 rw [Int.fmod_eq_emod_of_nonneg _ (Int.natCast_nonneg b)]
 rfl
theorem YU {t b:Int} (h:b≠0):gI t b≠0:=by
 have:0 < Nat.gcd t.natAbs b.natAbs:=Nat.gcd_pos_of_pos_right _ (by omega)
 unfold gI
 split <;> omega
theorem YV {t b:Int} {e:Nat} (h:b≠0) (hb:Bd e b):Bd e (gI t b):=by
 have:=Nat.gcd_le_right t.natAbs (show 0 < b.natAbs by omega)
 refine hb.of_le ?_
 unfold gI
 split <;> omega
theorem JX {t c:Int} (h:c=1\/c = -1):t.fdiv (gI t c)=t * c/\c.fdiv (gI t c)=1:=by
 rcases h with rfl | rfl
 ·have e:gI t 1=1:=by unfold gI; rw [if_neg (by decide)]; show ((Nat.gcd t.natAbs 1:Nat):Int)=1; rw [Nat.gcd_one_right]; rfl
  rw [e,Int.fdiv_one,Int.fdiv_one,Int.mul_one]
  exact ⟨rfl,rfl⟩
 ·have e:gI t (-1) = -1:=by unfold gI; rw [if_pos (by decide)]; show -((Nat.gcd t.natAbs 1:Nat):Int) = -1; rw [Nat.gcd_one_right]; rfl
  rw [e]
  constructor
  ·have:=Int.fdiv_neg (a:=t) (b:=1)
   rw [Int.mul_neg,Int.mul_one]
   have e2:t.fdiv (-1)=(-t).fdiv 1:=by
    have:=Int.neg_fdiv_neg (a:=-t) (b:=1)
    rw [Int.neg_neg] at this
    exact this
   rw [e2,Int.fdiv_one]
  ·rfl
abbrev xK (vs:List Int):D:=.lst (vs.map dF)
abbrev jU (t b:Int):D:=.tup [.int (t.fdiv (gI t b)),.int (b.fdiv (gI t b))]
theorem u6 (t:Int):jU t 1=dF t:=by
 have:=JX (t:=t) (c:=1) (.inl rfl)
 unfold jU dF
 rw [this.1,this.2,Int.mul_one]
theorem zwq {α β:Type} {u:α->D} {v:β->D} {xs:List α} {ys:List β} {k:Nat} {d:D} (h:(List.zipWith yt (xs.map u) (ys.map v))[k]? = some d):∃ x y,xs[k]? = some x/\ys[k]? = some y/\d=yt (u x) (v y):=by
 rw [List.getElem?_zipWith,List.getElem?_map,List.getElem?_map] at h
 cases h1:xs[k]? with
 | none=>rw [h1] at h; cases h
 | some x=>
  cases h2:ys[k]? with
  | none=>rw [h1,h2] at h; cases h
  | some y=>rw [h1,h2] at h; cases h; exact ⟨x,y,rfl,rfl,rfl⟩
theorem xN {n:Nat} (h:1<=n):Bd n 1:=(Bd.lit (i:=1) (n:=1)).mono h
def zOT:FL:=λds R=>∃ x y:Int,ds=[dF x,dF y]/\Bd 1000 x/\Bd 1000 y/\R (dF (x - y))
def zON:FL:=λds R=>∃ x d:Int,ds=[dF x,.tup [.int 1,.int d]]/\Bd 2000 x/\Bd 300 d/\1<=d/\R (jU x d)
def JY:FL:=λds R=>∃ x y:Int,ds=[dF x,dF y]/\Bd 2000 x/\Bd 2000 y/\R (.bool (decide (x < y)))
def zZ:Nat->(Nat->Rat)->Rat
 | 0,_=>0
 | n + 1,f=>zZ n f + f n
theorem YW {f g:Nat->Rat}:∀ {n:Nat},(∀ j,j < n->f j=g j)->zZ n f=zZ n g
 | 0,_=>rfl
 | n + 1,h=>by
  show zZ n f + f n=zZ n g + g n
  rw [YW λj hj=>h j (Nat.lt_succ_of_lt hj),h n (Nat.lt_succ_self n)]
theorem WI (f g:Nat->Rat):∀ n:Nat,zZ n (λj=>f j + g j)=zZ n f + zZ n g
 | 0=>by show (0:Rat)=0 + 0; grind
 | n + 1=>by
  show zZ n (λj=>f j + g j) + (f n + g n)=(zZ n f + f n) + (zZ n g + g n)
  rw [WI f g n]
  grind
theorem WJ (c:Rat) (f:Nat->Rat):∀ n:Nat,zZ n (λj=>c * f j)=c * zZ n f
 | 0=>by show (0:Rat)=c * 0; grind
 | n + 1=>by
  show zZ n (λj=>c * f j) + c * f n=c * (zZ n f + f n)
  rw [WJ c f n]
  grind
theorem zHU:∀ n:Nat,zZ n (λ_=>0)=0
 | 0=>rfl
 | n + 1=>by
  show zZ n (λ_=>0) + 0=0
  rw [zHU n]
  grind
theorem zHV (f:Nat->Nat->Rat) (m:Nat):∀ n:Nat,zZ n (λj=>zZ m (λi=>f i j))=zZ m (λi=>zZ n (λj=>f i j))
 | 0=>by
  show (0:Rat)=zZ m (λi=>0)
  rw [zHU]
 | n + 1=>by
  show zZ n (λj=>zZ m (λi=>f i j)) + zZ m (λi=>f i n)=zZ m (λi=>zZ n (λj=>f i j) + f i n)
  rw [zHV f m n,WI]
theorem WK (f:Nat->Rat):∀ n:Nat,zZ (n + 1) f=f 0 + zZ n (λj=>f (j + 1))
 | 0=>by show (0:Rat) + f 0=f 0 + 0; grind
 | n + 1=>by
  show zZ (n + 1) f + f (n + 1)=f 0 + (zZ n (λj=>f (j + 1)) + f (n + 1))
  rw [WK f n]
  grind
def w4 (ws:List Int) (q:Nat->Rat):Rat:=zZ ws.length λj=>(ws.getD j 0:Rat) * q j
theorem zHz:∀ {xs ys:List Int},xs.length=ys.length->((zg xs ys:Int):Rat)=zZ xs.length λi=>(xs.getD i 0:Rat) * (ys.getD i 0:Rat)
 | [],[],_=>by show ((0:Int):Rat)=0; rfl
 | [],_ :: _,h=>nomatch h
 | _ :: _,[],h=>nomatch h
 | x :: xs,y :: ys,h=>by
  show ((x * y + zg xs ys:Int):Rat)=zZ (xs.length + 1) λi=>((x :: xs).getD i 0:Rat) * ((y :: ys).getD i 0:Rat)
  rw [WK,Rat.intCast_add,Rat.intCast_mul,zHz (Nat.succ.inj h)]
  rfl
theorem zH0 (j:Nat):∀ {r:List Int} {ls:List (List Int)},r.length=ls.length->((yD r ls j:Int):Rat)=zZ r.length λi=>(r.getD i 0:Rat) * ((ls.getD i []).getD j 0:Rat)
 | [],[],_=>by show ((0:Int):Rat)=0; rfl
 | [],_ :: _,h=>nomatch h
 | _ :: _,[],h=>nomatch h
 | x :: xs,y :: ys,h=>by
  show ((x * y.getD j 0 + yD xs ys j:Int):Rat)=zZ (xs.length + 1) λi=>((x :: xs).getD i 0:Rat) * (((y :: ys).getD i []).getD j 0:Rat)
  rw [WK,Rat.intCast_add,Rat.intCast_mul,zH0 j (Nat.succ.inj h)]
  rfl
theorem zGK {n j:Nat} (f:Nat->Int) (h:j < n):((List.range n).map f).getD j 0=f j:=by
 rw [List.getD_eq_getElem?_getD,List.getElem?_map,List.getElem?_range h]
 rfl
theorem zL5 {r:List Int} {ls:List (List Int)} {n:Nat} (hl:r.length=ls.length) (q:Nat->Rat):w4 ((List.range n).map (yD r ls)) q=zZ r.length λi=>(r.getD i 0:Rat) * zZ n λj=>((ls.getD i []).getD j 0:Rat) * q j:=by
 unfold w4
 rw [List.length_map,List.length_range]
 rw [YW (g:=λj=>zZ r.length λi=>(r.getD i 0:Rat) * (((ls.getD i []).getD j 0:Rat) * q j)) λj hj=>?_]
 ·rw [zHV]
  exact YW λi hi=>WJ _ _ _
 ·rw [zGK _ hj,zH0 j hl]
  rw [show zZ r.length (λi=>(r.getD i 0:Rat) * (((ls.getD i []).getD j 0:Rat) * q j))=zZ r.length (λi=>q j * ((r.getD i 0:Rat) * ((ls.getD i []).getD j 0:Rat))) from YW λi _=>by grind,WJ]
  grind
abbrev dQ (r:Rat):D:=.tup [.int r.num,.int (r.den:Int)]
theorem WL {a b:Int} (h:0 < b):((a:Rat) / (b:Rat)).num=a.fdiv (Int.gcd a b:Int)/\((((a:Rat) / (b:Rat)).den:Nat):Int)=b.fdiv (Int.gcd a b:Int):=by
 obtain ⟨n,rfl⟩:∃ n:Nat,b=(n:Int):=⟨b.toNat,by omega⟩
 have nz:n≠0:=by omega
 have e:(a:Rat) / (((n:Nat):Int):Rat)=mkRat a n:=by rw [Rat.mkRat_eq_div]; rfl
 have g0:(0:Int)<=(Int.gcd a (n:Int):Int):=Int.natCast_nonneg _
 rw [e]
 unfold mkRat
 rw [dif_neg nz,Rat.normalize_eq,Int.fdiv_eq_ediv_of_nonneg _ g0,Int.fdiv_eq_ediv_of_nonneg _ g0]
 exact ⟨rfl,rfl⟩
def xu (Q e:Nat) (x:Rat):Prop:=∃ k:Int,x * (Q:Rat)=(k:Rat)/\Bd e k
theorem YX (x:Rat):(x.num:Rat)=x * (x.den:Rat):=by
 have h:=Rat.mkRat_self x
 rw [Rat.mkRat_eq_div,Rat.div_def] at h
 have d0:(x.den:Rat)≠0:=by exact_mod_cast x.den_nz
 have e:x * (x.den:Rat)=(x.num:Rat) * ((x.den:Rat)⁻¹ * (x.den:Rat)):=by
  rw [<- Rat.mul_assoc,h]
 rw [e,Rat.inv_mul_cancel _ d0,Rat.mul_one]
theorem YY {Q e:Nat} {x:Rat} (q:0 < Q) (h:xu Q e x):x.den<=Q/\Bd e x.num:=by
 obtain ⟨k,hk,b⟩:=h
 have d0:(x.den:Rat)≠0:=by exact_mod_cast x.den_nz
 have e1:x.num * (Q:Int)=k * (x.den:Int):=by
  have:(x.num:Rat) * (Q:Rat)=(k:Rat) * (x.den:Rat):=by rw [YX,<- hk]; grind
  exact_mod_cast this
 have dv:x.den ∣ Q:=by
  have h1:x.den ∣ x.num.natAbs * Q:=by
   have:=congrArg Int.natAbs e1
   rw [Int.natAbs_mul,Int.natAbs_mul] at this
   exact ⟨k.natAbs,by simp at this; rw [this,Nat.mul_comm]⟩
  exact (Nat.Coprime.dvd_of_dvd_mul_left x.reduced.symm h1)
 have le:=Nat.le_of_dvd q dv
 refine ⟨le,?_⟩
 have h2:x.num.natAbs * Q=k.natAbs * x.den:=by
  have:=congrArg Int.natAbs e1
  rw [Int.natAbs_mul,Int.natAbs_mul] at this
  simpa using this
 have h3:x.num.natAbs * Q<=k.natAbs * Q:=by rw [h2]; exact Nat.mul_le_mul_left _ le
 have h4:=Nat.le_of_mul_le_mul_right h3 q
 exact Nat.lt_of_le_of_lt h4 b
theorem gn {Q e:Nat} {x y:Rat} (h:xu Q e x) (g:xu Q e y):xu Q (e + 1) (x + y):=by
 obtain ⟨k,hk,b⟩:=h
 obtain ⟨l,hl,c⟩:=g
 exact ⟨k + l,by rw [Rat.intCast_add,<- hk,<- hl]; grind,b.add c⟩
theorem zQT {Q e c:Nat} {x:Rat} {w:Int} (b:Bd c w) (h:xu Q e x):xu Q (c + e) ((w:Rat) * x):=by
 obtain ⟨k,hk,bk⟩:=h
 exact ⟨w * k,by rw [Rat.intCast_mul,<- hk]; grind,b.mul bk⟩
theorem vE {Q e f:Nat} {x:Rat} (h:xu Q e x) (l:e<=f):xu Q f x:=by
 obtain ⟨k,hk,b⟩:=h
 exact ⟨k,hk,b.mono l⟩
theorem zQS {Q e c P:Nat} {x:Rat} (h:xu Q e x) (b:Bd c (P:Int)):xu (Q * P) (e + c) x:=by
 obtain ⟨k,hk,bk⟩:=h
 refine ⟨k * (P:Int),?_,bk.mul b⟩
 rw [Rat.intCast_mul,<- hk]
 have:(((Q * P:Nat)):Rat)=(Q:Rat) * (P:Rat):=Rat.natCast_mul ..
 rw [this]
 show _=x * (Q:Rat) * (P:Rat)
 grind
theorem gp {Q e c:Nat} {w:Int} (b:Bd e w) (q:Bd c (Q:Int)):xu Q (e + c) (w:Rat):=⟨w * (Q:Int),by rw [Rat.intCast_mul]; rfl,b.mul q⟩
theorem zNy {Q e:Nat} {x:Rat} {d:Int} (h:xu Q e x) (d1:1<=d):xu (Q * d.toNat) e (x / (d:Rat)):=by
 obtain ⟨k,hk,b⟩:=h
 refine ⟨k,?_,b⟩
 have:((Q * d.toNat:Nat):Rat)=(Q:Rat) * ((d.toNat:Nat):Rat):=Rat.natCast_mul ..
 rw [this]
 obtain ⟨n,rfl⟩:∃ n:Nat,d=(n:Int):=⟨d.toNat,by omega⟩
 have n0:(((n:Nat):Int):Rat)≠0:=by exact_mod_cast (show (n:Int)≠0 by omega)
 rw [<- hk,Int.toNat_natCast]
 show x / (((n:Nat):Int):Rat) * ((Q:Rat) * (((n:Nat):Int):Rat))=_
 rw [Rat.div_def]
 have i:=Rat.inv_mul_cancel _ n0
 grind
theorem jV (Q e:Nat):xu Q e 0:=⟨0,by show 0 * (Q:Rat)=0; grind,wQ⟩
def zQ:List Int->List Rat->Rat
 | w :: ws,x :: xs=>(w:Rat) * x + zQ ws xs
 | _,_=>0
theorem WM:∀ (ws:List Int) (xs:List Rat),ws.length=xs.length->zQ ws xs=zZ xs.length λj=>(ws.getD j 0:Rat) * xs.getD j 0
 | [],[],_=>rfl
 | [],_ :: _,h=>nomatch h
 | _ :: _,[],h=>nomatch h
 | w :: ws,x :: xs,h=>by
  show (w:Rat) * x + zQ ws xs=zZ (xs.length + 1) _
  rw [WK,WM ws xs (Nat.succ.inj h)]
  rfl
theorem JZ:∀ {ws:List Int} {xs:List Rat} {w:Int} {x:Rat},ws.length=xs.length->zQ (ws++[w]) (xs++[x])=zQ ws xs + (w:Rat) * x
 | [],[],w,x,_=>by show (w:Rat) * x + 0=0 + (w:Rat) * x; grind
 | [],_ :: _,_,_,h=>nomatch h
 | _ :: _,[],_,_,h=>nomatch h
 | a :: ws,y :: xs,w,x,h=>by
  show (a:Rat) * y + zQ (ws++[w]) (xs++[x])=(a:Rat) * y + zQ ws xs + (w:Rat) * x
  rw [JZ (Nat.succ.inj h)]
  grind
theorem u7 {Q e c:Nat}:∀ {ws:List Int} {xs:List Rat},(∀ w∈ws,Bd c w)->(∀ x∈xs,xu Q e x)->xu Q (c + e + xs.length) (zQ ws xs)
 | [],_,_,_=>jV _ _
 | _ :: _,[],_,_=>jV _ _
 | w :: ws,x :: xs,hw,hx=>by
  have h1:=zQT (hw w List.mem_cons_self) (hx x List.mem_cons_self)
  have h2:=u7 (λw h=>hw w (List.mem_cons_of_mem _ h)) (λx h=>hx x (List.mem_cons_of_mem _ h)) (ws:=ws) (xs:=xs)
  exact gn (vE h1 (Nat.le_add_right _ _)) h2
theorem IS.zipL {d:D} {ns:List Int} {es:List D} (h:IS d ns) {R:List D->Prop} (q:R (List.zipWith yt (ns.map D.int) es)):uc [d,.lst es] R:=by
 rcases h with rfl | rfl <;> exact q
abbrev dP (xs:List Rat):D:=.lst (xs.map dQ)
theorem jW (x:Rat):(x.num:Rat) / ((x.den:Int):Rat)=x:=by
 have h:=Rat.mkRat_self x
 rw [Rat.mkRat_eq_div] at h
 exact h
theorem vx (x:Rat):0 < (x.den:Int):=by
 have:=x.den_nz
 omega
theorem xY {Q e q:Nat} {x:Rat} (Q0:0 < Q) (bQ:Bd q (Q:Int)) (h:xu Q e x):Bd e x.num/\Bd q (x.den:Int):=by
 obtain ⟨h1,h2⟩:=YY Q0 h
 exact ⟨h2,bQ.of_le (by omega)⟩
structure yz (n:Nat) (xs:List Rat) (Q e q:Nat):Prop where
 len:xs.length=n
 n3:n<=6
 Q0:0 < Q
 bQ:Bd q (Q:Int)
 q1:q<=200
 e1:e<=6000
 sz:∀ x∈xs,xu Q e x
theorem j9 (vs:List Int):dP (vs.map λ(v:Int)=>(v:Rat))=xK vs:=by
 unfold dP
 rw [List.map_map]
 rfl
theorem qA:∀ us vs:List Int,zQ us (vs.map λ(v:Int)=>(v:Rat))=((zg us vs:Int):Rat)
 | [],_=>rfl
 | _ :: _,[]=>rfl
 | u :: us,v :: vs=>by
  show (u:Rat) * (v:Rat) + zQ us _=((u * v + zg us vs:Int):Rat)
  rw [qA us vs,Rat.intCast_add,Rat.intCast_mul]
theorem q9 {vs:List Int} {e:Nat} (l:vs.length<=6) (he:e<=5000) (h:∀ x∈vs,Bd e x):yz vs.length (vs.map λ(v:Int)=>(v:Rat)) 1 (e + 1) 1:=⟨List.length_map ..,l,by decide,Bd.lit,by decide,by omega,λx hx=>by
 obtain ⟨v,hv,rfl⟩:=List.mem_map.mp hx
 exact gp (h v hv) Bd.lit⟩
theorem YZ {t b:Int} (h:0 < b):jU t b=dQ ((t:Rat) / (b:Rat)):=by
 have e:gI t b=(Int.gcd t b:Int):=by unfold gI; rw [if_neg (by omega)]; rfl
 unfold jU dQ
 rw [(WL h).1,(WL h).2,e]
def jX:FL:=λds R=>∃ d ns n xs Q e q,ds=[d,dP xs]/\IS d ns/\ns.length=n/\(∀ w∈ns,Bd 400 w)/\yz n xs Q e q/\∀ t b:Int,0 < b->(t:Rat) / (b:Rat)=zQ ns xs->Bd 7700 t->Bd 1300 b->R (.tup [.int t,.int b])
def WN:FL:=λds R=>∃ us b n xs Q e q,ds=[U (us++[b]),dP xs]/\us.length=n/\(∀ w∈us,Bd 400 w)/\yz n xs Q e q/\R (dQ (zQ us xs))
def Yb:FL:=λds R=>∃ d ns n xs Q e q ad dv,ds=[d,dP xs,.int ad,.int dv]/\IS d ns/\ns.length=n/\(∀ w∈ns,Bd 400 w)/\yz n xs Q e q/\0 < dv/\Bd 400 ad/\Bd 400 dv/\R (dQ ((zQ ns xs + (ad:Rat)) / (dv:Rat)))
def Ja:FL:=λds R=>∃ (us vs:List Int) (b:Int),ds=[U (us++[b]),xK vs]/\us.length=vs.length/\us.length<=6/\(∀ x∈us,Bd 400 x)/\(∀ x∈vs,Bd 400 x)/\Bd 1000 b/\R (.bool (decide (zg us vs<=b)))
theorem zOY (s:Int):dQ ((s:Int):Rat)=dF s:=rfl
theorem zQU {us vs:List Int} (l6:vs.length<=6) (bu:∀ x∈us,Bd 400 x) (bv:∀ x∈vs,Bd 400 x):Bd 1000 (zg us vs):=by
 have P:=q9 l6 (by decide) bv
 have z:=(xY P.Q0 P.bQ (u7 bu P.sz)).1
 rw [qA] at z
 exact z.mono (by rw [P.len]; omega)
theorem zQj {t b s:Int} (b0:0 < b) (h:(t:Rat) / (b:Rat)=(s:Rat)):t=s * b:=by
 have bn:(b:Rat)≠0:=by exact_mod_cast (show b≠0 by omega)
 have:(t:Rat)=(s:Rat) * (b:Rat):=by rw [<- h,Rat.div_def,Rat.mul_assoc,Rat.inv_mul_cancel _ bn,Rat.mul_one]
 rw [<- Rat.intCast_mul] at this
 exact_mod_cast this
theorem zMk {t b w x y:Int} (b0:0 < b) (y0:0 < y) {s:Rat} (h:(t:Rat) / (b:Rat)=s):((t * y + w * x * b:Int):Rat) / ((b * y:Int):Rat)=s + (w:Rat) * ((x:Rat) / (y:Rat)):=by
 have bn:(b:Rat)≠0:=by exact_mod_cast (show b≠0 by omega)
 have yn:(y:Rat)≠0:=by exact_mod_cast (show y≠0 by omega)
 have pn:((b * y:Int):Rat)≠0:=by exact_mod_cast Int.ne_of_gt (Int.mul_pos b0 y0)
 rw [<- h]
 simp only [Rat.div_def]
 have e1:=Rat.mul_inv_cancel _ bn
 have e2:=Rat.mul_inv_cancel _ yn
 have e3:=Rat.mul_inv_cancel _ pn
 rw [Rat.intCast_add,Rat.intCast_mul,Rat.intCast_mul,Rat.intCast_mul]
 rw [Rat.intCast_mul] at e3 |-
 grind
theorem zNe {t b a d:Int} (b0:0 < b) (d0:0 < d) {s:Rat} (h:(t:Rat) / (b:Rat)=s):((t + a * b:Int):Rat) / ((b * d:Int):Rat)=(s + (a:Rat)) / (d:Rat):=by
 have bn:(b:Rat)≠0:=by exact_mod_cast (show b≠0 by omega)
 have dn:(d:Rat)≠0:=by exact_mod_cast (show d≠0 by omega)
 have pn:((b * d:Int):Rat)≠0:=by exact_mod_cast Int.ne_of_gt (Int.mul_pos b0 d0)
 rw [<- h]
 simp only [Rat.div_def]
 have e1:=Rat.mul_inv_cancel _ bn
 have e2:=Rat.mul_inv_cancel _ dn
 have e3:=Rat.mul_inv_cancel _ pn
 rw [Rat.intCast_add,Rat.intCast_mul]
 rw [Rat.intCast_mul] at e3 |-
 grind
theorem zOL {α β:Type} {f:α->β} {l:List α} {k:Nat} {d:β} (h:(l.map f)[k]? = some d):∃ x,l[k]? = some x/\d=f x:=by
 rw [List.getElem?_map] at h
 cases e:l[k]? with
 | none=>rw [e] at h; cases h
 | some x=>rw [e] at h; exact ⟨x,rfl,(Option.some.inj h).symm⟩
def zc (n i:Nat) (c r:Int):List Int:=yE (i:Int) n c++[r]
theorem vz (n i:Nat) (c r:Int):(zc n i c r).length=n + 1:=by unfold zc; rw [List.length_append,xz]; rfl
theorem gA {n i j:Nat} {c r:Int} (h:j < n):(zc n i c r).getD j 0=if j=i then c else 0:=by
 unfold zc yE
 rw [List.getD_eq_getElem?_getD,List.getElem?_append_left (by rw [List.length_map,List.length_range]; exact h),List.getElem?_map,List.getElem?_range h]
 show (if (j:Int)=(i:Int) then c else 0)=_
 by_cases e:j=i
 ·rw [if_pos (by omega),if_pos e]
 ·rw [if_neg (by omega),if_neg e]
theorem zKj {n i:Nat} {c r:Int}:(zc n i c r).getD n 0=r:=by
 unfold zc
 rw [List.getD_eq_getElem?_getD,List.getElem?_append_right (by rw [xz]; exact Nat.le_refl _),xz,Nat.sub_self]
 rfl
theorem zMj {n i:Nat} {c r:Int} (k:Int):(zc n i c r).map (λx=>k * x)=zc n i (k * c) (k * r):=by
 unfold zc yE
 rw [List.map_append,List.map_map]
 congr 1
 refine List.map_congr_left λj _=>?_
 show k * (if (j:Int)=(i:Int) then c else 0)=_
 split
 ·rfl
 ·exact Int.mul_zero k
theorem zIB {P:Int->Prop} {xs:List Int} {y:Int} (h:∀ x∈xs,P x) (hy:P y):∀ x∈xs++[y],P x:=λx hx=>(List.mem_append.mp hx).elim (h x) λz=>by rw [List.mem_singleton.mp z]; exact hy
theorem zOw {n i e:Nat} {c r:Int} (hc:Bd e c) (hr:Bd e r):∀ x∈zc n i c r,Bd e x:=zIB (j8 hc) hr
theorem zPh {z a:Int} (h:a=1\/a = -1):z.fdiv a=z * a:=by
 have:=JX (t:=z) h
 rcases h with rfl | rfl
 ·rw [Int.fdiv_one,Int.mul_one]
 ·have e2:z.fdiv (-1)=(-z).fdiv 1:=by
   have:=Int.neg_fdiv_neg (a:=-z) (b:=1)
   rw [Int.neg_neg] at this
   exact this
  rw [e2,Int.fdiv_one,Int.mul_neg,Int.mul_one]
theorem vF {e:Nat} {a:Int} (h:a=1\/a = -1) (k:1<=e):Bd e a:=by
 rcases h with rfl | rfl
 ·exact xN k
 ·exact (xN k).neg
theorem Yc {a b:Int} (h:a=1\/a = -1) (k:b=1\/b = -1):a * b=1\/a * b = -1:=by
 rcases h with rfl | rfl <;> rcases k with rfl | rfl <;> decide
theorem zQb {a:Int} (h:a=1\/a = -1):a * a=1:=by rcases h with rfl | rfl <;> rfl
theorem gq {a:Int} (h:a=1\/a = -1):a≠0:=by rcases h with rfl | rfl <;> decide
theorem Yd {e:Nat} {a x:Int} (h:a=1\/a = -1) (b:Bd e x):Bd e (a * x):=by
 rcases h with rfl | rfl
 ·rw [Int.one_mul]; exact b
 ·rw [Int.neg_mul,Int.one_mul]; exact b.neg
theorem IS.ixD {d:D} {ns:List Int} (h:IS d ns) {j:Nat} (hj:j < ns.length) {R:D->Prop} (q:R (.int (ns.getD j 0))):Pu.ixD d (.int (j:Int)) R:=by
 rcases h with rfl | rfl <;> exact ⟨_,yd hj rfl,q⟩
theorem IS.ixL {d:D} {ns:List Int} {n:Nat} (h:IS d ns) (hj:ns.length=n + 1) {R:D->Prop} (q:R (.int (ns.getD n 0))):Pu.ixD d (.int (-1)) R:=by
 rcases h with rfl | rfl <;> exact ⟨_,gm hj,q⟩
theorem WO {es:List D} {i:Nat} {d:D} (h:es[i]? = some d):ya es (i:Int)=some d:=by
 have hl:=(List.getElem?_eq_some_iff.mp h).1
 unfold ya wI
 rw [if_pos (by omega),if_pos (by omega)]
 show es[((i:Nat):Int).toNat]? = _
 rw [show ((i:Nat):Int).toNat=i by omega]
 exact h
theorem zq.enum {es:List D} {G:D->(D->Prop)->Prop} {R:D->Prop} (P:Nat->D->Prop) (few:es.length<=1000) (h:∀ (i:Nat) (x:D),es[i]? = some x->G (yt (.int (i:Int)) x) λe=>∃ (i':Nat) (x':D),yt (.int (i:Int)) x=yt (.int (i':Int)) x'/\P i' e) (q:∀ es',es'.length=es.length->(∀ (i:Nat) (e:D),es'[i]? = some e->P i e)->R (.lst es')):zq (u3 0 es) G R:=
 ⟨by rw [j5]; exact few,λd e=>∃ (i':Nat) (x':D),d=yt (.int (i':Int)) x'/\P i' e,λd hd=>by
  obtain ⟨i,hi⟩:=List.mem_iff_getElem?.mp hd
  obtain ⟨x,hx,rfl⟩:=qt hi
  rw [Nat.zero_add]
  exact h i x hx,λes' p=>by
  have l:=Paired.length p
  rw [j5] at l
  refine q es' l.symm λi e he=>?_
  have hl:=(List.getElem?_eq_some_iff.mp he).1
  have hi:i < (u3 0 es).length:=by rw [j5]; omega
  obtain ⟨e',he',i',x',ed,hP⟩:=zGb p (List.getElem?_eq_getElem hi)
  rw [he] at he'
  cases he'
  obtain ⟨x,hx,ex⟩:=qt (List.getElem?_eq_getElem hi)
  rw [ex,Nat.zero_add] at ed
  have:((i:Nat):Int)=((i':Nat):Int):=by injection ed with a; injection a with a b; injection a
  have:i=i':=by omega
  rw [this]
  exact hP⟩
def fFW:FL:=λds R=>∃ (es:List D) (p:Nat) (d:D) (ns:List Int),ds=[.lst es,.int (p:Int)]/\es[p]? = some d/\IS d ns/\p < ns.length/\ns.getD p 0≠0/\es.length<=100/\R (.int (p:Int))
def fPA:FL:=λds R=>∃ (es:List D) (p:Nat),ds=[.lst es,.int (p:Int),.int (p:Int)]/\p < es.length/\es.length<=100/\R (.lst es)
def Ye:FL:=λds R=>∃ (d e:D) (ns ps:List Int) (p:Nat) (la:Int),ds=[d,e,.int (p:Int),.int la]/\IS d ns/\IS e ps/\ns.length=ps.length/\p < ns.length/\ns.length<=100/\la≠0/\Bd 1000 la/\(∀ x∈ns,Bd 1000 x)/\(∀ x∈ps,Bd 1000 x)/\R (L ((ns.zip ps).map λq=>(ps.getD p 0 * q.1 - ns.getD p 0 * q.2).fdiv la))
structure Dg (n:Nat) (es:List D) (cs rs:Nat->Int):Prop where
 len:es.length=n
 row:∀ i d,es[i]? = some d->IS d (zc n i (cs i) (rs i))
def jY:FL:=λds R=>∃ (n:Nat) (es:List D) (cs rs:Nat->Int),ds=[.lst es]/\n<=50/\Dg n es cs rs/\(∀ i,i < n->(cs i=1\/cs i = -1)/\Bd 900 (rs i))/\R (xK ((List.range n).map λi=>rs i * cs i))
theorem zKK {α β γ:Type} (g:α->γ):∀ (xs:List α) (ys:List β),xs.length=ys.length->(xs.zip ys).map (λq=>g q.1)=xs.map g
 | [],[],_=>rfl
 | x :: xs,y :: ys,h=>by rw [List.zip_cons_cons,List.map_cons,zKK g xs ys (Nat.succ.inj h)]; rfl
theorem zPx {n i j:Nat} {c r pi rho la:Int} (ij:j≠i) (hj:j < n) (hl:la=1\/la = -1):((zc n i c r).zip (zc n j pi rho)).map (λq=>((zc n j pi rho).getD j 0 * q.1 - (zc n i c r).getD j 0 * q.2).fdiv la)=zc n i (pi * la * c) (pi * la * r):=by
 rw [gA hj,gA hj,if_pos rfl,if_neg ij,<- zMj]
 rw [<- zKK (λx=>pi * la * x) (zc n i c r) (zc n j pi rho) (by rw [vz,vz])]
 refine List.map_congr_left λq _=>?_
 rw [Int.zero_mul,Int.sub_zero,zPh hl]
 rw [Int.mul_assoc,Int.mul_comm q.1 la,<- Int.mul_assoc]
theorem xj {α:Type} {f:α->D} {l:List α} {k:Nat} (z:α) (h:k < l.length):ya (l.map f) (k:Int)=some (f (l.getD k z)):=by
 rw [List.getD_eq_getElem?_getD,List.getElem?_eq_getElem h]
 exact WO (by rw [List.getElem?_map,List.getElem?_eq_getElem h]; rfl)
theorem uL {α:Type} {l:List α} {k:Nat} {z:α} (h:k < l.length):l.getD k z∈l:=by
 rw [List.getD_eq_getElem?_getD,List.getElem?_eq_getElem h]
 exact List.getElem_mem h
abbrev Br:=Nat × Int × Int
abbrev rI (n:Nat) (b:Br):List Int:=zc n b.1 b.2.1 (b.2.1 * b.2.2)
abbrev y9 (n:Nat) (T:List Br):D:=.lst (T.map λb=>U (rI n b))
abbrev cN (cs:List Nat):D:=.lst (cs.map λx=>.int ((x:Nat):Int))
def yi (n:Nat):List Br:=(List.range n).map λp=>(p,1,0)
def tc (T:List Br) (cs:List Nat) (k:Nat):Br:=T.getD (cs.getD k 0) (0,0,0)
structure Gd (n:Nat) (T:List Br):Prop where
 n1:1<=n
 n3:n<=3
 few:T.length<=60
 ok:∀ b∈T,b.1 < n/\(b.2.1=1\/b.2.1 = -1)/\Bd 390 b.2.2
structure Co (n:Nat) (T:List Br) (cs:List Nat):Prop where
 len:cs.length=n
 lt:∀ k,k < n->cs.getD k 0 < T.length
 pl:∀ k,k < n->(tc T cs k).1=k
theorem Co.ok {n:Nat} {T:List Br} {cs:List Nat} (C:Co n T cs) (G:Gd n T) {k:Nat} (h:k < n):(tc T cs k).1=k/\((tc T cs k).2.1=1\/(tc T cs k).2.1 = -1)/\Bd 390 (tc T cs k).2.2:=⟨C.pl k h,(G.ok _ (uL (C.lt k h))).2⟩
theorem Co.mem {n:Nat} {T:List Br} {cs:List Nat} (C:Co n T cs):∀ c∈cs,c < T.length:=λc hc=>by
 obtain ⟨i,hi,rfl⟩:=List.mem_iff_getElem.mp hc
 have:=C.lt i (by have:=C.len; omega)
 rw [List.getD_eq_getElem?_getD,List.getElem?_eq_getElem hi] at this
 exact this
def v4 (d:D):Nat:=(yK d).toNat
theorem WP (x:Nat):v4 (.int ((x:Nat):Int))=x:=by show (((x:Nat):Int)).toNat=x; omega
theorem Jb {cs:List Nat} {G:D->(D->Prop)->Prop} {R:D->Prop} (g:Nat->D) (few:cs.length<=1000) (h:∀ c∈cs,G (.int ((c:Nat):Int)) λe=>e=g c) (q:R (.lst (cs.map g))):zq (cs.map λx=>D.int ((x:Nat):Int)) G R:=vD (λx=>D.int ((x:Nat):Int)) v4 WP g few h q
theorem jp {α β:Type} {f:α->β} {l:List α} {i:Nat} {d:β} (z:α) (h:(l.map f)[i]? = some d):i < l.length/\d=f (l.getD i z):=by
 have hl:=(List.getElem?_eq_some_iff.mp h).1
 rw [List.length_map] at hl
 rw [List.getElem?_map,List.getElem?_eq_getElem hl] at h
 refine ⟨hl,?_⟩
 rw [List.getD_eq_getElem?_getD,List.getElem?_eq_getElem hl]
 exact (Option.some.inj h).symm
theorem zKE {n i:Nat} (h:i < n) (z:Nat):(List.range n).getD i z=i:=by
 rw [List.getD_eq_getElem?_getD,List.getElem?_range h]
 rfl
def zRn:FL:=λds R=>∃ n:Nat,ds=[.int (n:Int)]/\n<=3/\R (y9 n (yi n))
def Jc:FL:=λds R=>∃ n T cs,ds=[y9 n T,cN cs]/\Gd n T/\Co n T cs/\R (xK ((List.range n).map λk=>(tc T cs k).2.2))
def WQ:FL:=λds R=>∃ n T cs us b,ds=[y9 n T,cN cs,U (us++[b])]/\Gd n T/\Co n T cs/\us.length=n/\(∀ x∈us,Bd 400 x)/\R (xK ((List.range n).map λk=>us.getD k 0 * (tc T cs k).2.1))
def gB:FL:=λds R=>∃ xs:List Int,ds=[xK xs]/\xs.length<=100/\(∀ x∈xs,Bd 1000 x)/\R (.tup [.int 1,L xs])
def Yg:FL:=λds R=>∃ n T cs q w,ds=[y9 n T,cN cs,.int ((q:Nat):Int),.int w]/\Gd n T/\Co n T cs/\q < n/\(w=1\/w = -1)/\R (L ((List.range n).map λk=>if k=q then w * (tc T cs k).2.1 else 0))
def jZ:FL:=λds R=>∃ (cs:List Nat) (p x:Nat),ds=[cN cs,.int ((p:Nat):Int),.int ((x:Nat):Int)]/\p < cs.length/\cs.length<=100/\R (cN (cs.set p x))
theorem Jd {T:List Br} {cs:List Nat} {k:Nat}:tc T cs k=T.getD (cs.getD k 0) (0,0,0):=rfl
theorem zGV {n:Nat} {us:List Int} (h:us.length=n):(List.range n).map (λk=>us.getD k 0)=us:=by
 refine List.ext_getElem (by rw [List.length_map,List.length_range]; omega) λi h1 h2=>?_
 rw [List.getElem_map,List.getElem_range,List.getD_eq_getElem?_getD,List.getElem?_eq_getElem h2]
 rfl
def WR:FL:=λds R=>∃ (cs:List Nat) (fs:List Bool),ds=[cN cs,.lst (fs.map D.bool)]/\fs.length=cs.length/\cs.length<=100/\((∀ p,p < cs.length->fs.getD p false=false)->R .non)/\∀ p,p < cs.length->fs.getD p false=true->R (.int ((p:Nat):Int))
def fFB:FL:=λds R=>∃ n T vs,ds=[y9 n T,xK vs]/\Gd n T/\vs.length=n/\(∀ x∈vs,Bd 400 x)/\((∀ b∈T,b.2.1 * vs.getD b.1 0<=b.2.1 * b.2.2)->R .non)/\∀ i,i < T.length->(T.getD i (0,0,0)).2.1 * (T.getD i (0,0,0)).2.2 < (T.getD i (0,0,0)).2.1 * vs.getD (T.getD i (0,0,0)).1 0->R (.int ((i:Nat):Int))
def fFM:FL:=λds R=>∃ n T vs q w,ds=[y9 n T,xK vs,L ((List.range n).map λk=>if k=q then w else 0)]/\Gd n T/\vs.length=n/\(∀ x∈vs,Bd 400 x)/\(w=1\/w = -1)/\q < n/\((∀ j,j < T.length->¬ ((T.getD j (0,0,0)).1=q/\(T.getD j (0,0,0)).2.1 * w=1))->R .non)/\∀ i,i < T.length->(T.getD i (0,0,0)).1=q->(T.getD i (0,0,0)).2.1 * w=1->R (.int ((i:Nat):Int))
def gC:FL:=λds R=>∃ (m:Nat) (cs:List Nat) (xs:List Int),ds=[.int (m:Int),cN cs,xK xs]/\m<=100/\cs.length<=100/\xs.length<=100/\(∀ x∈xs,Bd 1000 x)/\∀ zs:List Int,R (.tup [.int 1,L zs])
theorem Je {n p:Nat} {c:Int} {vs:List Int} (hp:p < n) (hv:vs.length=n):zg (yE (p:Int) n c) vs=c * vs.getD p 0:=by
 have e:yE (p:Int) n c=(List.range n).map λk=>if k=p then c else 0:=by
  unfold yE
  refine List.map_congr_left λk _=>?_
  by_cases h:k=p
  ·rw [if_pos h,if_pos (by omega)]
  ·rw [if_neg h,if_neg (by omega)]
 rw [e]
 have f:=Ub (λk=>if k=p then c else 0) (λk=>vs.getD k 0) (List.range n)
 rw [zGV hv] at f
 rw [f]
 clear f e
 have key:∀ m,((List.range m).map λk=>(if k=p then c else 0) * vs.getD k 0).sum=if p < m then c * vs.getD p 0 else 0:=λm=>by
  induction m with
  | zero=>rfl
  | succ m ih=>
   rw [List.range_succ,List.map_append,List.sum_append,ih]
   show _ + ((if m=p then c else 0) * vs.getD m 0 + 0)=_
   by_cases g:m=p
   ·rw [if_neg (show ¬ p < m by omega),if_pos (show p < m + 1 by omega),if_pos g,g]; omega
   ·rw [if_neg g,Int.zero_mul]
    by_cases h:p < m
    ·rw [if_pos h,if_pos (show p < m + 1 by omega)]; omega
    ·rw [if_neg h,if_neg (show ¬ p < m + 1 by omega)]; omega
 rw [key,if_pos hp]
theorem zLA {ds es:List D} (p:Paired (λd e=>e=d) ds es):es=ds:=by
 induction p with
 | nil=>rfl
 | cons h _ ih=>rw [h,ih]
structure qB (n:Nat) (T:List Br) (bx:List (Int × Int)):Prop where
 len:bx.length=n
 up:∀ b∈T,b.2.1=1->b.2.2=(bx.getD b.1 (0,0)).2
 dn:∀ b∈T,b.2.1 = -1->b.2.2=(bx.getD b.1 (0,0)).1
 le:∀ p,p < n->(bx.getD p (0,0)).1<=(bx.getD p (0,0)).2
 has:∀ p,p < n->∃ b∈T,b.1=p
def xv (us:List Int) (bx:List (Int × Int)):Int:=((us.zip bx).map λq=>max (q.1 * q.2.1) (q.1 * q.2.2)).sum
theorem Jf {n:Nat} {T:List Br} (G:Gd n T) (h:T.length<=50):Gd n (T++yi n):=by
 have la:(yi n).length=n:=by unfold yi; rw [List.length_map,List.length_range]
 refine ⟨G.n1,G.n3,by rw [List.length_append,la]; have:=G.n3; omega,λb hb=>?_⟩
 rcases List.mem_append.mp hb with hb | hb
 ·exact G.ok b hb
 ·obtain ⟨p,hp,rfl⟩:=List.mem_map.mp hb
  exact ⟨List.mem_range.mp hp,.inl rfl,wQ⟩
theorem WS {α:Type} {xs ys:List α} {i:Nat} {z:α} (h:i < xs.length):(xs++ys).getD i z=xs.getD i z:=by
 rw [List.getD_eq_getElem?_getD,List.getD_eq_getElem?_getD,List.getElem?_append_left h]
theorem WT {T X:List Br} {cs:List Nat} {k:Nat} (h:cs.getD k 0 < T.length):tc (T++X) cs k=tc T cs k:=WS h
theorem Co.app {n:Nat} {T X:List Br} {cs:List Nat} (C:Co n T cs):Co n (T++X) cs:=⟨C.len,λk hk=>by have:=C.lt k hk; rw [List.length_append]; omega,λk hk=>by rw [WT (C.lt k hk)]; exact C.pl k hk⟩
theorem Co.cut {n:Nat} {T X:List Br} {cs:List Nat} (C:Co n (T++X) cs) (h:∀ k,k < n->cs.getD k 0 < T.length):Co n T cs:=⟨C.len,h,λk hk=>by rw [<- WT (X:=X) (h k hk)]; exact C.pl k hk⟩
theorem gD {α:Type} {xs:List α} {p k:Nat} {x z:α} (hp:p < xs.length):(xs.set p x).getD k z=if k=p then x else xs.getD k z:=by
 rw [List.getD_eq_getElem?_getD,List.getD_eq_getElem?_getD]
 by_cases c:k=p
 ·rw [if_pos c,c,List.getElem?_set_self hp]; rfl
 ·rw [if_neg c,List.getElem?_set_ne λz=>c z.symm]
theorem Co.set {n:Nat} {T:List Br} {cs:List Nat} (C:Co n T cs) {p i:Nat} (hp:p < n) (hi:i < T.length) (e:(T.getD i (0,0,0)).1=p):Co n T (cs.set p i):=by
 have hl:p < cs.length:=by rw [C.len]; exact hp
 refine ⟨by rw [List.length_set]; exact C.len,λk hk=>?_,λk hk=>?_⟩
 ·rw [gD hl]
  split
  ·exact hi
  ·exact C.lt k hk
 ·unfold tc
  rw [gD hl]
  split
  ·rename_i z; rw [z]; exact e
  ·exact C.pl k hk
def wt:D->Int
 | .tup [.int x,_]=>x
 | _=>0
theorem zIy {cs:List Nat} {ys:List D} {g:Nat->D->Bool} {p:Nat} (h1:p < cs.length) (h2:p < ys.length):((cs.zip ys).map λq=>g q.1 q.2).getD p false=g (cs.getD p 0) (ys.getD p .non):=by
 rw [List.getD_eq_getElem?_getD,List.getElem?_eq_getElem (by rw [List.length_map,List.length_zip]; omega),List.getElem_map,List.getElem_zip,List.getD_eq_getElem?_getD,List.getD_eq_getElem?_getD,List.getElem?_eq_getElem h1,List.getElem?_eq_getElem h2]
 rfl
theorem zL8 {n p:Nat} {f:Nat->Int} (h:p < n):(((List.range n).map f).map dF).getD p .non=dF (f p):=by
 rw [List.map_map,List.getD_eq_getElem?_getD,List.getElem?_map,List.getElem?_range h]
 rfl
theorem zHT {n p k:Nat} {c:Int} (h:k < n):(yE (p:Int) n c).getD k 0=if k=p then c else 0:=by
 have:=gA (n:=n) (i:=p) (j:=k) (c:=c) (r:=0) h
 unfold zc at this
 rw [WS (by rw [xz]; exact h)] at this
 exact this
theorem zNz {f g:Nat->Nat} {p:Nat}:∀ n,p < n->(∀ k,k≠p->f k=g k)->f p < g p->((List.range n).map f).sum < ((List.range n).map g).sum
 | 0,h,_,_=>absurd h (Nat.not_lt_zero _)
 | n + 1,h,he,hp=>by
  rw [List.range_succ,List.map_append,List.map_append,List.sum_append,List.sum_append]
  show _ + (f n + 0) < _ + (g n + 0)
  by_cases c:n=p
  ·have e:(List.range n).map f=(List.range n).map g:=List.map_congr_left λk hk=>he k (by have:=List.mem_range.mp hk; omega)
   rw [e,c]
   omega
  ·have:=zNz n (by omega) he hp
   rw [he n c]
   omega
theorem zQN {n:Nat} {us:List Int} {bx:List (Int × Int)} {v c:Nat->Int} (lu:us.length=n) (lb:bx.length=n) (h:∀ k,k < n->(bx.getD k (0,0)).1<=(bx.getD k (0,0)).2/\0<=us.getD k 0 * c k/\((c k=1/\v k=(bx.getD k (0,0)).2)\/(c k = -1/\v k=(bx.getD k (0,0)).1))):zg us ((List.range n).map v)=xv us bx:=by
 have e1:us=(List.range n).map λk=>us.getD k 0:=(zGV lu).symm
 have e2:bx=(List.range n).map λk=>bx.getD k (0,0):=by
  refine List.ext_getElem (by rw [List.length_map,List.length_range]; exact lb) λi h1 h2=>?_
  rw [List.getElem_map,List.getElem_range,List.getD_eq_getElem?_getD,List.getElem?_eq_getElem h1]
  rfl
 have e3:xv us bx=((List.range n).map λk=>max (us.getD k 0 * (bx.getD k (0,0)).1) (us.getD k 0 * (bx.getD k (0,0)).2)).sum:=by
  unfold xv
  conv=>lhs; rw [e1,e2]
  rw [List.zip_map',List.map_map]
  rfl
 have e4:zg us ((List.range n).map v)=((List.range n).map λk=>us.getD k 0 * v k).sum:=by
  conv=>lhs; rw [e1]
  exact Ub _ _ _
 rw [e3,e4]
 congr 1
 refine List.map_congr_left λk hk=>?_
 obtain ⟨h1,h2,h3⟩:=h k (List.mem_range.mp hk)
 generalize us.getD k 0=u at h2 |-
 generalize bx.getD k (0,0)=b at h1 h3 |-
 rcases h3 with ⟨hc,hv⟩ | ⟨hc,hv⟩
 ·rw [hc,Int.mul_one] at h2
  have:=Int.mul_le_mul_of_nonneg_left h1 h2
  rw [hv]; omega
 ·rw [hc,Int.mul_neg,Int.mul_one] at h2
  have:=Int.mul_le_mul_of_nonpos_left (a:=u) (by omega) h1
  rw [hv]; omega
theorem Yh {T X:List Br} {f:Br->D}:zh ((T++X).map f) none (some ((T.length:Nat):Int))=T.map f:=by
 unfold zh
 have e0:HT.sIx ((T++X).map f).length 0 none=0:=HT.sIx_none _ _
 have e1:HT.sIx ((T++X).map f).length ((T++X).map f).length (some ((T.length:Nat):Int))=T.length:=by rw [HT.sIx_nat,List.length_map,List.length_append]; omega
 rw [e0,e1,List.drop_zero,Nat.sub_zero,<- List.map_take,List.take_append_of_le_length (Nat.le_refl _),List.take_of_length_le (Nat.le_refl _)]
def fFC:FL:=λds R=>∃ n T,ds=[y9 n (T++yi n),.int ((T.length:Nat):Int)]/\Gd n T/\T.length<=50/\(∀ p,p < n->∃ b∈T,b.1=p)/\∀ cs,Co n T cs->R (cN cs)
def Wn (n:Nat) (us:List Int) (T:List Br):Prop:=∃ p,p < n/\us.getD p 0≠0/\∀ b∈T,b.1=p->¬ 0 < us.getD p 0 * b.2.1
def ui (n:Nat) (us:List Int) (bx:List (Int × Int)) (pt:List Int):Prop:=pt.length=n/\(∀ k,k < n->(bx.getD k (0,0)).1<=pt.getD k 0/\pt.getD k 0<=(bx.getD k (0,0)).2)/\(∀ x∈pt,Bd 390 x)/\zg us pt=xv us bx
def WU (T:List Br):Prop:=∃ a∈T,∃ c∈T,a.1=c.1/\a.2.1=1/\c.2.1 = -1/\a.2.2 < c.2.2
def BxR (n:Nat) (T:List Br) (us:List Int) (bx:List (Int × Int)) (R:D->Prop):Prop:=qB n T bx/\(Wn n us T->∀ X Y,R (.tup [.str "open",X,Y]))/\(¬ Wn n us T->∀ X pt,ui n us bx pt->R (.tup [.str "most",dF (xv us bx),X,xK pt]))
def Yi:FL:=λds R=>∃ n T cs us b bx,ds=[y9 n (T++yi n),.int ((T.length:Nat):Int),cN cs,U (us++[b])]/\Gd n T/\T.length<=50/\Co n T cs/\us.length=n/\(∀ x∈us,Bd 390 x)/\BxR n T us bx R
def zRl:FL:=λds R=>∃ n T us b,ds=[y9 n T,U (us++[b])]/\Gd n T/\T.length<=50/\(∀ p,p < n->∃ b∈T,b.1=p)/\us.length=n/\(∀ x∈us,Bd 390 x)/\((WU T/\∀ X,R (.tup [.str "empty",X]))\/∃ bx,BxR n T us bx R)
def Jg (n:Nat) (us:List Int) (T:List Br) (cs:List Nat):Nat:=((List.range n).map λk=>if us.getD k 0 * (tc T cs k).2.1 < 0 then 1 else 0).sum
theorem WV {n:Nat} {T:List Br} {bx:List (Int × Int)} {cs:List Nat} (B:qB n T bx) (C:Co n T cs) (G:Gd n T) {k:Nat} (h:k < n):((tc T cs k).2.1=1/\(tc T cs k).2.2=(bx.getD k (0,0)).2)\/((tc T cs k).2.1 = -1/\(tc T cs k).2.2=(bx.getD k (0,0)).1):=by
 have hm:tc T cs k∈T:=uL (C.lt k h)
 have e:=C.pl k h
 rcases (C.ok G h).2.1 with c | c
 ·have:=B.up _ hm c
  rw [e] at this
  exact .inl ⟨c,this⟩
 ·have:=B.dn _ hm c
  rw [e] at this
  exact .inr ⟨c,this⟩
theorem Jh {n p:Nat} {f:Nat->Int} (h:p < n):((List.range n).map f).getD p 0=f p:=by
 rw [List.getD_eq_getElem?_getD,List.getElem?_map,List.getElem?_range h]
 rfl
def v5 (T:List Br) (cs:List Nat) (r:Br):Bool:=decide (r.2.1=(tc T cs r.1).2.1) && decide (r.2.1 * r.2.2 < r.2.1 * (tc T cs r.1).2.2)
theorem zJW {α:Type} {f g:α->Bool}:∀ {l:List α} {x:α},(∀ y∈l,f y=true->g y=true)->x∈l->g x=true->f x=false->l.countP f < l.countP g
 | [],_,_,h,_,_=>nomatch h
 | a :: l,x,w,h,gx,fx=>by
  have le:l.countP f<=l.countP g:=List.countP_mono_left λy hy=>w y (List.mem_cons_of_mem _ hy)
  rw [List.countP_cons,List.countP_cons]
  rcases List.mem_cons.mp h with rfl | h
  ·rw [gx,fx]
   simp
   omega
  ·have:=zJW (λy hy=>w y (List.mem_cons_of_mem _ hy)) h gx fx
   have wa:=w a List.mem_cons_self
   cases c:f a with
   | false=>simp; split <;> omega
   | true=>rw [wa c]; simp; omega
theorem zQF {n:Nat} {T:List Br} {cs:List Nat} (C:Co n T cs) {i:Nat} {b:Br} (hi:i < T.length) (hb:T.getD i (0,0,0)=b) (pn:b.1 < n) (sg:b.2.1=(tc T cs b.1).2.1) (br:b.2.1 * b.2.2 < b.2.1 * (tc T cs b.1).2.2):T.countP (v5 T (cs.set b.1 i)) < T.countP (v5 T cs):=by
 have hl:b.1 < cs.length:=by rw [C.len]; exact pn
 have t1:tc T (cs.set b.1 i) b.1=b:=by unfold tc; rw [gD hl,if_pos rfl]; exact hb
 have t2:∀ k,k≠b.1->tc T (cs.set b.1 i) k=tc T cs k:=λk hk=>by unfold tc; rw [gD hl,if_neg hk]
 refine zJW (x:=b) (λr hr h=>?_) (by rw [<- hb]; exact uL hi) ?_ ?_
 ·unfold v5 at h |-
  by_cases c:r.1=b.1
  ·rw [c,t1,Bool.and_eq_true] at h
   have h1:=of_decide_eq_true h.1
   have h2:=of_decide_eq_true h.2
   rw [c,Bool.and_eq_true]
   rw [h1] at h2 |-
   exact ⟨decide_eq_true sg,decide_eq_true (Int.lt_trans h2 br)⟩
  ·rw [t2 r.1 c] at h
   exact h
 ·unfold v5
  rw [decide_eq_true sg,decide_eq_true br]
  rfl
 ·unfold v5
  rw [t1,decide_eq_false (Int.lt_irrefl _),Bool.and_false]
def xZ (q:Int × Int × Int):Int:=if 0 < q.1 then q.2.2 else q.2.1
theorem Ji:∀ {cs:List Int} {bs:List (Int × Int)},(∀ b∈bs,b.1<=b.2)->zg cs ((cs.zip bs).map xZ)=xv cs bs
 | [],_,_=>rfl
 | _ :: _,[],_=>rfl
 | c :: cs,b :: bs,h=>by
  have hb:=h b List.mem_cons_self
  show c * (if 0 < c then b.2 else b.1) + zg cs ((cs.zip bs).map xZ)=max (c * b.1) (c * b.2) + xv cs bs
  rw [Ji λx hx=>h x (List.mem_cons_of_mem _ hx)]
  congr 1
  by_cases z:0 < c
  ·have:=Int.mul_le_mul_of_nonneg_left hb (Int.le_of_lt z)
   rw [if_pos z]; omega
  ·have:=Int.mul_le_mul_of_nonpos_left (a:=c) (by omega) hb
   rw [if_neg z]; omega
theorem Jj {a e:Nat}:∀ {us:List Int} {bx:List (Int × Int)},(∀ x∈us,Bd a x)->(∀ b∈bx,Bd e b.1/\Bd e b.2)->Bd (a + e + us.length) (xv us bx)
 | [],_,_,_=>wQ
 | _ :: _,[],_,_=>wQ
 | u :: us,b :: bx,hu,hb=>by
  have h1:=hu u List.mem_cons_self
  obtain ⟨h2,h3⟩:=hb b List.mem_cons_self
  have ih:=Jj (us:=us) (bx:=bx) (λx hx=>hu x (List.mem_cons_of_mem _ hx)) λx hx=>hb x (List.mem_cons_of_mem _ hx)
  show Bd (a + e + us.length + 1) (max (u * b.1) (u * b.2) + xv us bx)
  have m:Bd (a + e) (max (u * b.1) (u * b.2)):=by
   rcases Int.le_total (u * b.1) (u * b.2) with z | z
   ·rw [Int.max_eq_right z]; exact h1.mul h3
   ·rw [Int.max_eq_left z]; exact h1.mul h2
  exact (m.mono (Nat.le_add_right _ _)).add ih
def Jk (C CM:Addr):FL:=λds R=>∃ n bs ms a c e,ds=[wE C CM n bs ms,U (a++c++[e])]/\a.length=n/\c.length=bs.length/\bs.length<=6/\n<=3/\R (L ((c.zip bs).map xZ))
def zJQ (C CM:Addr):FL:=λds R=>∃ n bs ms a c e,ds=[wE C CM n bs ms,U (a++c++[e])]/\a.length=n/\c.length=bs.length/\bs.length<=6/\n<=3/\(∀ b∈bs,b.1<=b.2/\Bd 110 b.1/\Bd 110 b.2)/\(∀ x∈c,Bd 400 x)/\R (U (a++[e - xv c bs]))
theorem Jl {a c:List Int} {e:Int} {n:Nat} (h:a.length=n):zh ((a++c++[e]).map D.int) none (some ((n:Nat):Int))=a.map D.int:=by
 unfold zh
 have e0:HT.sIx ((a++c++[e]).map D.int).length 0 none=0:=HT.sIx_none _ _
 have e1:HT.sIx ((a++c++[e]).map D.int).length ((a++c++[e]).map D.int).length (some ((n:Nat):Int))=n:=by rw [HT.sIx_nat,List.length_map,List.length_append,List.length_append]; omega
 rw [e0,e1,List.drop_zero,Nat.sub_zero,<- List.map_take,List.append_assoc,List.take_append_of_le_length (by omega),List.take_of_length_le (by omega)]
theorem Yj {a c:List Int} {e:Int} {n:Nat} (h:a.length=n):zh ((a++c++[e]).map D.int) (some ((n:Nat):Int)) (some (-1))=c.map D.int:=by
 unfold zh
 have l:((a++c++[e]).map D.int).length=n + c.length + 1:=by rw [List.length_map,List.length_append,List.length_append,h]; rfl
 have e0:HT.sIx ((a++c++[e]).map D.int).length 0 (some ((n:Nat):Int))=n:=by rw [HT.sIx_nat,l]; omega
 have e1:HT.sIx ((a++c++[e]).map D.int).length ((a++c++[e]).map D.int).length (some (-1))=n + c.length:=by
  rw [l]
  show (if (-1:Int) < 0 then ((-1:Int) + ((n + c.length + 1:Nat):Int)).toNat else min (-1:Int).toNat (n + c.length + 1))=_
  rw [if_pos (by decide)]
  omega
 rw [e0,e1,<- List.map_drop,<- List.map_take,List.append_assoc,List.drop_append_of_le_length (by omega),List.drop_eq_nil_of_le (show a.length<=n by omega),List.nil_append,show n + c.length - n=c.length by omega,List.take_append_of_le_length (Nat.le_refl _),List.take_of_length_le (Nat.le_refl _)]
theorem Jm {a c:List Int} {e:Int}:ya ((a++c++[e]).map D.int) (-1)=some (.int e):=JV (a++c) e
structure y6 (n:Nat) (bs:List (Int × Int)) (m:MD):Prop where
 ok:wJ n bs [m]
 cl:uK [m]=true
 rows:m.rows=[]
 nx:∀ r∈m.nexts,∀ x∈r,Bd 4 x
 ps:∀ r∈m.push,∀ x∈r,Bd 4 x
 ad:∀ x∈m.add,Bd 120 x
 dv:Bd 3 m.div
 bb:∀ b∈bs,Bd 105 b.1/\Bd 105 b.2
 b2:bs.length<=2
theorem y6.mo {n:Nat} {bs:List (Int × Int)} {m:MD} (T:y6 n bs m):uW m n bs.length:=T.ok.mok m (List.mem_singleton.mpr rfl)
theorem y6.st {n:Nat} {bs:List (Int × Int)} {m:MD} (T:y6 n bs m) (i:Nat):m.steer.getD i 0=0:=by
 have h:=T.cl
 unfold uK at h
 have h:=List.all_eq_true.mp h m (List.mem_singleton.mpr rfl)
 rw [List.getD_eq_getElem?_getD]
 cases c:m.steer[i]? with
 | none=>rfl
 | some x=>exact of_decide_eq_true (List.all_eq_true.mp h x (List.mem_of_getElem? c))
theorem vG {α:Type} {as:List α} {k:Nat} {z:α} (h:k < as.length):as.getD k z∈as:=uL h
def gr (m:MD) (xs us:List Rat) (i:Nat):Rat:=(zQ (m.nexts.getD i []) xs + zQ (m.push.getD i []) us + (m.add.getD i 0:Rat)) / (m.div:Rat)
def yL (m:MD) (n:Nat) (xs us:List Rat):List Rat:=(List.range n).map (gr m xs us)
theorem zJU:∀ {as bs:List Int} {xs ys:List Rat},as.length=xs.length->zQ (as++bs) (xs++ys)=zQ as xs + zQ bs ys
 | [],_,[],_,_=>by show _=0 + _; grind
 | [],_,_ :: _,_,h=>nomatch h
 | _ :: _,_,[],_,h=>nomatch h
 | a :: as,bs,x :: xs,ys,h=>by
  show (a:Rat) * x + zQ (as++bs) (xs++ys)=(a:Rat) * x + zQ as xs + zQ bs ys
  rw [zJU (Nat.succ.inj h)]
  grind
abbrev xA (w:List Int):List Rat:=w.map λ(v:Int)=>(v:Rat)
def wj (n:Nat) (m:MD):List Rat->List (List Int)->List Rat
 | x,[]=>x
 | x,w :: ws=>wj n m (yL m n x (xA w)) ws
theorem Jn {n:Nat} {m:MD} {w:List Int}:∀ {ws:List (List Int)} {x:List Rat},wj n m x (ws++[w])=yL m n (wj n m x ws) (xA w)
 | [],_=>rfl
 | _ :: ws,_=>Jn (ws:=ws)
theorem zO3 {n p Q e q:Nat} {xs us:List Rat} (X:yz n xs Q e q) (Y:yz p us Q e q) (h:n + p<=6):yz (n + p) (xs++us) Q e q:=⟨by rw [List.length_append,X.len,Y.len],h,X.Q0,X.bQ,X.q1,X.e1,λx hx=>(List.mem_append.mp hx).elim (X.sz x) (Y.sz x)⟩
theorem zKq {p Q e q f:Nat} {w:List Int} (l:w.length=p) (h:p<=6) (Q0:0 < Q) (bQ:Bd q (Q:Int)) (q1:q<=200) (e1:e<=6000) (b:∀ x∈w,Bd f x) (fe:f + q<=e):yz p (xA w) Q e q:=⟨by rw [List.length_map]; exact l,h,Q0,bQ,q1,e1,λx hx=>by
 obtain ⟨v,hv,rfl⟩:=List.mem_map.mp hx
 exact vE (gp (b v hv) bQ) fe⟩
theorem Jo {n p Q e q P:Nat} {bs:List (Int × Int)} {m:MD} {xs us:List Rat} (T:y6 n bs m) (X:yz n xs Q e q) (Us:yz p us Q e q) (qe:125 + q<=e) (hP:(P:Int)=m.div) (b1:e + 20<=6000) (b2:q + 3<=200):yz n (yL m n xs us) (Q * P) (e + 20) (q + 3):=by
 have MO:=T.mo
 have d1:=MO.div
 have n3:=X.n3
 have p3:=Us.n3
 refine ⟨by unfold yL; rw [List.length_map,List.length_range],n3,Nat.mul_pos X.Q0 (by omega),?_,b2,b1,λy hy=>?_⟩
 ·rw [Int.natCast_mul,hP]
  exact X.bQ.mul T.dv
 ·obtain ⟨i,hi,rfl⟩:=List.mem_map.mp hy
  have hi:=List.mem_range.mp hi
  have h1:=u7 (c:=4) (ws:=m.nexts.getD i []) (xs:=xs) (λw h=>T.nx _ (vG (by rw [MO.nexts.1]; exact hi)) w h) X.sz
  have h2:=u7 (c:=4) (ws:=m.push.getD i []) (xs:=us) (λw h=>T.ps _ (vG (by rw [MO.push.1]; exact hi)) w h) Us.sz
  have h3:=gp (wP T.ad i) X.bQ
  have lx:=X.len
  have lu:=Us.len
  have s1:=gn (gn (vE h1 (show _<=e + 14 by omega)) (vE h2 (show _<=e + 14 by omega))) (vE h3 (show _<=e + 14 + 1 by omega))
  have s2:=zNy (vE s1 (show _<=e + 20 by omega)) (show 1<=m.div by omega)
  rw [show m.div.toNat=P by omega] at s2
  exact s2
abbrev w6 (w:List Int):D:=.tup [.int 0,dF 0,xK w]
def gu (bs:List (Int × Int)) (w:List Int):Prop:=w.length=bs.length/\∀ q∈w.zip bs,q.2.1<=q.1/\q.1<=q.2.2
def fNB (CM:Addr):FL:=λds R=>∃ m n bs i xs us s Q e q,ds=[wg CM m,.int ((i:Nat):Int),dP xs,s,dP us]/\y6 n bs m/\i < n/\yz n xs Q e q/\yz bs.length us Q e q/\R (dQ (gr m xs us i))
def fPB (CM:Addr):FL:=λds R=>∃ m n bs xs us s Q e q,ds=[wg CM m,dP xs,s,dP us]/\y6 n bs m/\yz n xs Q e q/\yz bs.length us Q e q/\R (dP (yL m n xs us))
def zOU:FL:=λds R=>∃ d,ds=[.lst [],d]/\R (.bool true)
def Yk:FL:=λds R=>∃ (x:Int) (b:Int × Int),ds=[dF x,yC b]/\Bd 200 x/\Bd 200 b.1/\Bd 200 b.2/\b.1<=x/\x<=b.2/\R (.bool true)
def Yl (CM:Addr):FL:=λds R=>∃ n bs m d w,ds=[.lst [wg CM m],.lst (bs.map yC),d,w6 w]/\y6 n bs m/\gu bs w/\R (.bool true)
def zRh (C CM:Addr):FL:=λds R=>∃ n bs m x0 ws,ds=[wE C CM n bs [m],xK x0,.lst (ws.map w6)]/\y6 n bs m/\x0.length=n/\(∀ x∈x0,Bd 390 x)/\ws.length<=20/\(∀ w∈ws,gu bs w)/\∀ ps:List (List Rat),ps.length=ws.length + 1->ps.getD ws.length []=wj n m (xA x0) ws->(∃ Q e q,yz n (ps.getD ws.length []) Q e q)->R (.lst (ps.map dP))
theorem gu.bd {bs:List (Int × Int)} {w:List Int} (I:gu bs w) (h:∀ b∈bs,Bd 105 b.1/\Bd 105 b.2):∀ x∈w,Bd 107 x:=λx hx=>by
 obtain ⟨i,hi,rfl⟩:=List.mem_iff_getElem.mp hx
 have hb:i < bs.length:=by rw [<- I.1]; exact hi
 have hz:(w[i],bs[i])∈w.zip bs:=List.mem_iff_getElem.mpr ⟨i,by rw [List.length_zip]; omega,by rw [List.getElem_zip]⟩
 have hh:bs[i].1<=w[i]/\w[i]<=bs[i].2:=I.2 _ hz
 obtain ⟨h1,h2⟩:=h _ (List.getElem_mem hb)
 unfold Bd at h1 h2 |-
 have:(2:Nat) ^ 105<=2 ^ 107:=Nat.pow_le_pow_right (by decide) (by decide)
 omega
theorem Jp {α:Type} {l:List α} {f:α->D} {k:Nat} (z:α) (h:l.length=k + 1):ya (l.map f) (-1)=some (f (l.getD k z)):=by
 rw [qi]
 unfold ya wI
 rw [if_neg (by decide),if_pos (by omega)]
 show Option.map f l[((-1:Int) + (l.length:Int)).toNat]? = _
 rw [show ((-1:Int) + (l.length:Int)).toNat=k by omega,List.getElem?_eq_getElem (by omega),List.getD_eq_getElem?_getD,List.getElem?_eq_getElem (by omega)]
 rfl
theorem Jq {a e:Nat}:∀ {us vs:List Int},(∀ x∈us,Bd a x)->(∀ x∈vs,Bd e x)->Bd (a + e + us.length) (zg us vs)
 | [],_,_,_=>wQ
 | _ :: _,[],_,_=>wQ
 | u :: us,v :: vs,hu,hv=>by
  have h1:=(hu u List.mem_cons_self).mul (hv v List.mem_cons_self)
  have h2:=Jq (us:=us) (vs:=vs) (λx h=>hu x (List.mem_cons_of_mem _ h)) λx h=>hv x (List.mem_cons_of_mem _ h)
  exact (h1.mono (Nat.le_add_right _ _)).add h2
theorem Jr {a e j:Nat}:∀ {us:List Int} {ls:List (List Int)},(∀ x∈us,Bd a x)->(∀ r∈ls,∀ x∈r,Bd e x)->Bd (a + e + us.length) (yD us ls j)
 | [],_,_,_=>wQ
 | _ :: _,[],_,_=>wQ
 | u :: us,r :: ls,hu,hl=>by
  have h1:=(hu u List.mem_cons_self).mul (wP (hl r List.mem_cons_self) j)
  have h2:=Jr (j:=j) (us:=us) (ls:=ls) (λx h=>hu x (List.mem_cons_of_mem _ h)) λx h=>hl x (List.mem_cons_of_mem _ h)
  exact (h1.mono (Nat.le_add_right _ _)).add h2
def zl (n:Nat) (m:MD):Nat->List Int->List Int
 | 0,u=>u
 | k + 1,u=>(List.range n).map (yD (zl n m k u) m.nexts)
def zi (bs:List (Int × Int)) (m:MD) (u:List Int):List Int:=(List.range bs.length).map (yD u m.push)
def xB (bs:List (Int × Int)) (m:MD) (u:List Int):List Int:=((zi bs m u).zip bs).map xZ
def yH (n:Nat) (bs:List (Int × Int)) (m:MD) (u:List Int):Nat->List (List Int)
 | 0=>[]
 | k + 1=>xB bs m (zl n m k u) :: yH n bs m u k
theorem gE {n:Nat} {m:MD} {u:List Int} (h:u.length=n):∀ k,(zl n m k u).length=n
 | 0=>h
 | _ + 1=>by show ((List.range n).map _).length=n; rw [List.length_map,List.length_range]
theorem gv {n:Nat} {bs:List (Int × Int)} {m:MD} {u:List Int} (T:y6 n bs m) (l:u.length=n) (h:∀ x∈u,Bd 3 x):∀ k,∀ x∈zl n m k u,Bd (3 + 7 * k) x
 | 0=>h
 | k + 1=>λx hx=>by
  obtain ⟨j,hj,rfl⟩:=List.mem_map.mp hx
  have n3:=T.ok.n3
  have:=gE (m:=m) l k
  exact (Jr (gv T l h k) T.nx).mono (by omega)
theorem Js {n k:Nat} {bs:List (Int × Int)} {m:MD} {u:List Int} (T:y6 n bs m) (l:u.length=n) (h:∀ x∈u,Bd k x):∀ x∈zi bs m u,Bd (k + 7) x:=λx hx=>by
 obtain ⟨j,hj,rfl⟩:=List.mem_map.mp hx
 have n3:=T.ok.n3
 exact (Jr h T.ps).mono (by omega)
theorem zNr {bs:List (Int × Int)} {m:MD} {u:List Int} (h:∀ b∈bs,b.1<=b.2):gu bs (xB bs m u):=by
 have lp:(zi bs m u).length=bs.length:=by unfold zi; rw [List.length_map,List.length_range]
 refine ⟨by unfold xB; rw [List.length_map,List.length_zip,lp,Nat.min_self],λq hq=>?_⟩
 obtain ⟨i,hi,e⟩:=List.mem_iff_getElem.mp hq
 rw [List.length_zip] at hi
 rw [List.getElem_zip] at e
 have hb:=h _ (List.getElem_mem (show i < bs.length by omega))
 have e2:(xB bs m u)[i]'(by omega)=if 0 < (zi bs m u)[i]'(by omega) then (bs[i]'(by omega)).2 else (bs[i]'(by omega)).1:=by simp [xB,xZ]
 rw [<- e]
 show bs[i].1<=(xB bs m u)[i]'(by omega)/\(xB bs m u)[i]'(by omega)<=bs[i].2
 rw [e2]
 split <;> exact ⟨by omega,by omega⟩
theorem Ym {n:Nat} {bs:List (Int × Int)} {m:MD} {u:List Int}:∀ k,(yH n bs m u k).length=k
 | 0=>rfl
 | k + 1=>congrArg (· + 1) (Ym k)
theorem zN2 {n:Nat} {bs:List (Int × Int)} {m:MD} {u:List Int} (h:∀ b∈bs,b.1<=b.2):∀ k,∀ w∈yH n bs m u k,gu bs w
 | 0,_,hw=>nomatch hw
 | k + 1,w,hw=>(List.mem_cons.mp hw).elim (λe=>e ▸ zNr h) λe=>zN2 h k w e
def gw:List MD->Bool
 | [m]=>m.rows.isEmpty
 | _=>false
def Jt (C CM:Addr):FL:=λds R=>∃ n bs ms,ds=[wE C CM n bs ms]/\R (.bool (gw ms))
def zRo (C CM:Addr):FL:=λds R=>∃ n bs ms,ds=[wE C CM n bs ms]/\gw ms=true/\R .non
def zRk (C CM:Addr):FL:=λds R=>∃ n bs m u b t,ds=[wE C CM n bs [m],U (u++[b]),.int ((t:Nat):Int)]/\y6 n bs m/\u.length=n/\(∀ x∈u,Bd 3 x)/\Bd 4 b/\t<=20/\∀ b',R (.tup [U (zl n m t u++[b']),.lst ((yH n bs m u t).map w6)])
def WrR (n:Nat) (bs:List (Int × Int)) (m:MD) (T:List Br) (u:List Int) (t:Nat) (bx:List (Int × Int)) (R:D->Prop):Prop:=qB n T bx/\(Wn n (zl n m t u) T->R (.tup [.str "open"]))/\(¬ Wn n (zl n m t u) T->∀ pt,ui n (zl n m t u) bx pt->R (.tup [.str "most",dQ (zQ u (wj n m (xA pt) (yH n bs m u t))),xK pt,.lst ((yH n bs m u t).map w6)]))
def zRg (C CM:Addr):FL:=λds R=>∃ n bs m T u b t,ds=[wE C CM n bs [m],y9 n T,U (u++[b]),.int ((t:Nat):Int)]/\y6 n bs m/\Gd n T/\T.length<=50/\(∀ p,p < n->∃ b∈T,b.1=p)/\u.length=n/\(∀ x∈u,Bd 3 x)/\Bd 4 b/\t<=20/\((WU T/\R (.tup [.str "empty"]))\/∃ bx,WrR n bs m T u t bx R)
structure MSe (e:Nat) (m:MD):Prop where
 nexts:∀ r∈m.nexts,∀ x∈r,Bd e x
 steer:∀ x∈m.steer,Bd e x
 push:∀ r∈m.push,∀ x∈r,Bd e x
 add:∀ x∈m.add,Bd e x
 div:Bd e m.div
 rows:∀ r∈m.rows,∀ x∈r,Bd e x
 few:m.rows.length<=100
theorem md (a:Int) {b:Int} (h:0 < b):0<=a.fmod b/\a.fmod b < b:=⟨Int.fmod_nonneg_of_pos a h,Int.fmod_lt_of_pos a h⟩
theorem uM {n:Nat} {a b:Int} (h:Bd n b) (p:0 < b):Bd n (a.fmod b):=by
 have:=md a p
 exact h.of_le (by omega)
theorem WW {n:Nat} (h:n<=3):Bd 2 (n:Int):=by
 show (n:Int).natAbs < 2 ^ 2
 omega
theorem Ju {α:Type} {xs:List α} {i:Int} (h0:0<=i) (h1:i < (xs.length:Int)):∃ x∈xs,ya xs i=some x:=by
 obtain ⟨k,rfl⟩:=Int.eq_ofNat_of_zero_le h0
 have hk:k < xs.length:=by omega
 refine ⟨xs[k],List.getElem_mem hk,?_⟩
 unfold ya wI
 rw [if_pos (by omega),if_pos (by omega)]
 show xs[((k:Nat):Int).toNat]? = _
 rw [show ((k:Nat):Int).toNat=k by omega,List.getElem?_eq_getElem hk]
theorem zRy {xs:List Int} {i:Int} (h0:0<=i) (h1:i < (xs.length:Int)):∃ x∈xs,ya (xs.map D.int) i=some (.int x):=by
 obtain ⟨x,hx,e⟩:=Ju h0 h1
 exact ⟨x,hx,by rw [qi,e]; rfl⟩
theorem uN {xs:List Int} {i:Int} {R:D->Prop} (h0:0<=i) (h1:i < (xs.length:Int)) (q:∀ x∈xs,R (.int x)):∃ d,ya (xs.map D.int) i=some d/\R d:=by
 obtain ⟨x,hx,e⟩:=zRy h0 h1
 exact ⟨_,e,q x hx⟩
theorem Yn {xs:List D} {i:Int} {R:D->Prop} (h0:0<=i) (h1:i < (xs.length:Int)) (q:∀ x∈xs,R x):∃ d,ya xs i=some d/\R d:=by
 obtain ⟨x,hx,e⟩:=Ju h0 h1
 exact ⟨_,e,q x hx⟩
theorem zRx {y f:Int} {n:Nat} (h:Bd n f) (h1 : -f<=y) (h2:y<=f):Bd n y:=h.of_le (by omega)
theorem u8 {α:Type} {P:α->Prop} {xs:List α} {y:α} (h:∀ x∈xs,P x) (k:P y):∀ x∈xs++[y],P x:=λx hx=>by
 rcases List.mem_append.mp hx with hx | hx
 ·exact h x hx
 ·rw [List.mem_singleton.mp hx]; exact k
theorem zNg {xs:List D} {k:Nat}:zh xs (some (k:Int)) none=xs.drop k:=by
 unfold zh
 rw [HT.sIx_none,HT.sIx_nat,List.take_of_length_le (by rw [List.length_drop]; omega)]
 by_cases h:k<=xs.length
 ·rw [Nat.min_eq_left h]
 ·rw [Nat.min_eq_right (by omega),List.drop_length,List.drop_of_length_le (by omega)]
abbrev WX:Int:=10 ^ (45:Int).toNat
def Jv:FL:=λds R=>∃ ns k,ds=[.scr ns,.int k]/\0<=k/\∀ c,R (.int c)
def Jw (xs:List Int):Prop:=∀ x∈xs,0<=x/\Bd 150 x
def gz:FL:=λds R=>∃ (c:Int) (n:Nat),ds=[.int c,.int (n:Int)]/\n<=100/\∀ xs,xs.length=n->Jw xs->R (L xs)
def WY:FL:=λds R=>∃ x far:Int,ds=[.int x,.int far]/\0<=far/\Bd 9000 far/\∀ y,-far<=y->y<=far->R (.int y)
def Yo:FL:=λds R=>∃ (c:Int) (n:Nat) (u:Int),ds=[.int c,.int (n:Int),.int u]/\n<=3/\0<=u/\Bd 100 u/\∀ bs:List (Int × Int),bs.length=n->(∀ b∈bs,b.1<=b.2/\Bd 105 b.1/\Bd 105 b.2)->R (.lst (bs.map yC))
def wA (n i:Nat) (b:Int × Int):List (List Int):=[yE (i:Int) n 1++[b.2],(yE (i:Int) n 1).map (λx=>0 - x)++[0 - b.1]]
def Yp (bs:List (Int × Int)):List (List Int):=(bs.mapIdx (wA bs.length)).flatten
abbrev ja (m:MD):D:=.tup [Rm m.rows,Tb m.nexts,L m.steer,Tb m.push,L m.add,.int m.div]
abbrev wR (n:Nat) (bs:List (Int × Int)) (ms:List MD) (u:Int):D:=.tup [.int (n:Int),.lst (bs.map yC),.lst (ms.map ja),.int u]
def Jx (C CM:Addr):FL:=λds R=>∃ n bs ms u,ds=[wR n bs ms u]/\wJ n bs ms/\R (wE C CM n bs ms)
theorem zRd (i j:Nat):(if decide ((j:Int)=(i:Int))=true then (1:Int) else 0)=if (j:Int)=(i:Int) then 1 else 0:=by
 by_cases c:(j:Int)=(i:Int)
 ·rw [if_pos c,if_pos (decide_eq_true c)]
 ·rw [if_neg c,if_neg (by rw [decide_eq_false c]; exact Bool.false_ne_true)]
theorem Yq {bs:List (Int × Int)} {k:Nat} (h:k < bs.length) {i:Int} (e:i=(k:Int)):ya (bs.map yC) i=some (yC bs[k]):=by
 rw [qi,e]
 unfold ya wI
 rw [if_pos (by omega),if_pos (by omega)]
 show Option.map yC bs[((k:Nat):Int).toNat]? = _
 rw [show ((k:Nat):Int).toNat=k by omega,List.getElem?_eq_getElem h]
 rfl
theorem zMY {α:Type} {l:List (List α)} {k:Nat} {x:List α} (h:l[k]? = some x):(l.take (k + 1)).flatten=(l.take k).flatten++x:=by
 rw [ut h,List.flatten_append,List.flatten_singleton]
theorem zRv {e:Nat} {a b:Int} (h:Bd e a) (k:Bd e b):Bd e (max a b):=by
 rw [Int.max_def]
 split
 ·exact k
 ·exact h
theorem vH {y:Int} {f n:Nat} (h:f < 2 ^ n) (h1 : -(f:Int)<=y) (h2:y<=(f:Int)):Bd n y:=by
 show y.natAbs < 2 ^ n
 omega
theorem zJP {α β:Type} {f:α->β} {l:List α} {k:Nat} {y:β} (h:(l.map f)[k]? = some y):∃ x,l[k]? = some x/\f x=y:=by
 rw [List.getElem?_map] at h
 cases c:l[k]? with
 | none=>rw [c] at h; cases h
 | some x=>rw [c] at h; cases h; exact ⟨x,rfl,rfl⟩
def ye:List Int->List (Int × Int)->Int
 | x :: xs,b :: bs=>max (x * b.1) (x * b.2) + ye xs bs
 | _,_=>0
theorem zI2:∀ {xs:List Int} {bs:List (Int × Int)} {x:Int} {b:Int × Int},xs.length=bs.length->ye (xs++[x]) (bs++[b])=ye xs bs + max (x * b.1) (x * b.2)
 | [],[],x,b,_=>by show max (x * b.1) (x * b.2) + 0=0 + max (x * b.1) (x * b.2); omega
 | [],_ :: _,_,_,h=>nomatch h
 | _ :: _,[],_,_,h=>nomatch h
 | y :: xs,c :: bs,x,b,h=>by
  show max (y * c.1) (y * c.2) + ye (xs++[x]) (bs++[b])=max (y * c.1) (y * c.2) + ye xs bs + max (x * b.1) (x * b.2)
  rw [zI2 (Nat.succ.inj h)]
  omega
theorem zOZ {e f:Nat}:∀ {xs:List Int} {bs:List (Int × Int)},(∀ x∈xs,Bd f x)->(∀ b∈bs,Bd e b.1/\Bd e b.2)->Bd (f + e + xs.length) (ye xs bs)
 | [],_,_,_=>wQ
 | _ :: _,[],_,_=>wQ
 | x :: xs,b :: bs,h,k=>by
  have h1:=zRv ((h x List.mem_cons_self).mul (k b List.mem_cons_self).1) ((h x List.mem_cons_self).mul (k b List.mem_cons_self).2)
  have h2:=zOZ (xs:=xs) (bs:=bs) (λy hy=>h y (List.mem_cons_of_mem _ hy)) λc hc=>k c (List.mem_cons_of_mem _ hc)
  exact (h1.mono (Nat.le_add_right _ _)).add h2
theorem zI1:∀ (xs:List Int) (bs:List (Int × Int)),ye (xs.take (min xs.length bs.length)) (bs.take (min xs.length bs.length))=ye xs bs
 | [],bs=>by rw [List.length_nil,Nat.zero_min]; rfl
 | x :: xs,[]=>by rw [List.length_nil,Nat.min_zero]; rfl
 | x :: xs,b :: bs=>by
  rw [List.length_cons,List.length_cons,Nat.succ_min_succ,List.take_succ_cons,List.take_succ_cons]
  show _ + ye _ _=_ + ye _ _
  rw [zI1 xs bs]
def Jy:FL:=λds R=>∃ (d:D) (ns:List Int) (bs:List (Int × Int)) (e:Nat),ds=[d,.lst (bs.map yC)]/\IS d ns/\ns.length<=3/\(∀ x∈ns,Bd 200 x)/\e<=500/\(∀ b∈bs,Bd e b.1/\Bd e b.2)/\R (.int (ye ns bs))
structure Jz (n w:Nat) (m:MD):Prop where
 ok:uW m n w
 nx:∀ r∈m.nexts,∀ x∈r,Bd 4 x
 ps:∀ r∈m.push,∀ x∈r,Bd 4 x
 ad:∀ x∈m.add,Bd 110 x
 st:∀ x∈m.steer,x=0
 dv:Bd 3 m.div
 r1:m.rows.length<=1
 rb:∀ r∈m.rows,(∀ x∈r.take n,Bd 4 x)/\∀ x∈r,Bd 110 x
def fMd:FL:=λds R=>∃ (c:Int) (n w:Nat) (u:Int) (sp:Bool),ds=[.int c,.int (n:Int),.int (w:Int),.int u,.bool sp]/\1<=n/\n<=3/\w<=2/\1<=u/\Bd 100 u/\∀ m,Jz n w m->(sp=false->m.rows=[])->R (ja m)
structure gF (n:Nat) (bs:List (Int × Int)) (ms:List MD) (u:Int):Prop where
 n1:1<=n
 n3:n<=3
 b2:bs.length<=2
 bb:∀ b∈bs,b.1<=b.2/\Bd 105 b.1/\Bd 105 b.2
 m1:1<=ms.length
 m3:ms.length<=3
 md:∀ m∈ms,Jz n bs.length m
 u1:1<=u
 bu:Bd 100 u
theorem gF.ok {n:Nat} {bs:List (Int × Int)} {ms:List MD} {u:Int} (h:gF n bs ms u):wJ n bs ms:=⟨h.n1,h.n3,λb hb=>(h.bb b hb).1,by have:=h.b2; omega,h.m1,by have:=h.m3; omega,λm hm=>(h.md m hm).ok⟩
theorem gF.cl {n:Nat} {bs:List (Int × Int)} {ms:List MD} {u:Int} (h:gF n bs ms u):uK ms=true:=List.all_eq_true.mpr λm hm=>List.all_eq_true.mpr λx hx=>decide_eq_true ((h.md m hm).st x hx)
theorem J0:∀ (us:List Int) (bs:List (Int × Int)),ye us bs=xv us bs
 | [],_=>rfl
 | _ :: _,[]=>rfl
 | u :: us,b :: bs=>by
  show max (u * b.1) (u * b.2) + ye us bs=max (u * b.1) (u * b.2) + xv us bs
  rw [J0 us bs]
def Yr:FL:=λds R=>∃ ns,ds=[.scr ns,.int 1]/\∀ n bs m u,gF n bs [m] u->m.rows=[]->R (wR n bs [m] u)
theorem gF.th8 {n:Nat} {bs:List (Int × Int)} {m:MD} {u:Int} (h:gF n bs [m] u) (hr:m.rows=[]):y6 n bs m:=
 have k:=h.md m (List.mem_singleton.mpr rfl)
 ⟨h.ok,h.cl,hr,k.nx,k.ps,λx hx=>(k.ad x hx).mono,k.dv,λb hb=>(h.bb b hb).2,h.b2⟩
theorem zRw {a b:Int} {n:Nat} (h:Bd n b) (b0:0 < b):Bd n (Int.gcd a b:Int):=h.of_le (by
 have:=Int.gcd_le_right (a:=a) b0
 omega)
def Ys:FL:=λds R=>∃ a b,ds=[.int a,.int b]/\R (.int (Int.gcd a b:Int))
def jb:FL:=λds R=>∃ a b,ds=[.int a,.int b]/\0 < b/\Bd 8000 b/\R (dQ ((a:Rat) / (b:Rat)))
def Yt:FL:=λds R=>∃ a b c d,ds=[.tup [.int a,.int b],.tup [.int c,.int d]]/\0 < b/\0 < d/\Bd 29000 a/\Bd 4000 b/\Bd 29000 c/\Bd 4000 d/\R (dQ ((a:Rat) / (b:Rat) + (c:Rat) / (d:Rat)))
theorem zPu {a b c d:Int} (hb:0 < b) (hd:0 < d):((a * d + c * b:Int):Rat) / ((b * d:Int):Rat)=(a:Rat) / (b:Rat) + (c:Rat) / (d:Rat):=by
 have b0:(b:Rat)≠0:=by exact_mod_cast (show b≠0 by omega)
 have d0:(d:Rat)≠0:=by exact_mod_cast (show d≠0 by omega)
 have wQ:((b * d:Int):Rat)≠0:=by exact_mod_cast Int.ne_of_gt (Int.mul_pos hb hd)
 simp only [Rat.div_def]
 have e1:=Rat.mul_inv_cancel _ b0
 have e2:=Rat.mul_inv_cancel _ d0
 have e3:=Rat.mul_inv_cancel _ wQ
 rw [Rat.intCast_add,Rat.intCast_mul,Rat.intCast_mul]
 rw [Rat.intCast_mul] at e3 |-
 grind
theorem zLg {α β:Type} {f:α->β} {l:List α} {k:Nat} {y:β} (h:(l.map f)[k]? = some y):∃ x,l[k]? = some x/\f x=y:=by
 rw [List.getElem?_map] at h
 cases c:l[k]? with
 | none=>rw [c] at h; cases h
 | some x=>rw [c] at h; cases h; exact ⟨x,rfl,rfl⟩
theorem Yu (w:Int) (x:Rat):((w * x.num:Int):Rat) / ((x.den:Int):Rat)=(w:Rat) * x:=by
 have h:=jW x
 rw [Rat.div_def] at h |-
 rw [Rat.intCast_mul,Rat.mul_assoc,h]
def jc:FL:=λds R=>∃ d ns n xs Q e q,ds=[d,dP xs]/\IS d ns/\ns.length=n/\(∀ w∈ns,Bd 300 w)/\yz n xs Q e q/\R (dQ (zQ ns xs))
def hQ (xs:List Rat) (r:List Int):Bool:=decide (zQ (r.take xs.length) xs<=(r.getD xs.length 0:Rat))
def Yv:FL:=λds R=>∃ r n xs Q e q,ds=[U r,dP xs]/\r.length=n + 1/\(∀ w∈r,Bd 300 w)/\yz n xs Q e q/\R (.bool (hQ xs r))
def zRm:FL:=λds R=>∃ rm n xs Q e q,ds=[Rm rm,dP xs]/\rm.length<=900/\(∀ r∈rm,r.length=n + 1/\∀ w∈r,Bd 300 w)/\yz n xs Q e q/\R (.bool (rm.all (hQ xs)))
theorem J1 {x:Rat} {b:Int}:x.num<=b * (x.den:Int) ↔ x<=(b:Rat):=by
 have d0:(0:Rat) < (x.den:Rat):=by exact_mod_cast vx x
 have e:=YX x
 have c:x.num<=b * (x.den:Int) ↔ (x.num:Rat)<=(b:Rat) * (x.den:Rat):=by
  constructor
  ·intro h
   have:(x.num:Rat)<=((b * (x.den:Int):Int):Rat):=by exact_mod_cast h
   rw [Rat.intCast_mul] at this
   exact this
  ·intro h
   have:(x.num:Rat)<=((b * (x.den:Int):Int):Rat):=by rw [Rat.intCast_mul]; exact h
   exact_mod_cast this
 rw [c,e]
 exact ⟨λh=>Rat.le_of_mul_le_mul_right h d0,λh=>Rat.mul_le_mul_of_nonneg_right h (Rat.le_of_lt d0)⟩
theorem jd {u:List Int->D} {rows:List (List Int)} {k:Nat} (h:k < rows.length):ya (rows.map u) (k:Int)=some (u (rows.getD k [])):=by
 rw [qi]
 unfold ya wI
 rw [if_pos (by omega),if_pos (by omega)]
 show Option.map u rows[((k:Nat):Int).toNat]? = _
 rw [show ((k:Nat):Int).toNat=k by omega,List.getElem?_eq_getElem h,List.getD_eq_getElem?_getD,List.getElem?_eq_getElem h]
 rfl
theorem Yx {lo hi p w:Int} (h:lo<=hi) (p1:1<=p) (w0:0<=w) (wp:w<=p):(lo:Rat)<=((lo * (p - w) + hi * w:Int):Rat) / (p:Rat)/\((lo * (p - w) + hi * w:Int):Rat) / (p:Rat)<=(hi:Rat):=by
 have p0:(0:Rat) < (p:Rat):=by exact_mod_cast (show 0 < p by omega)
 have pn:(p:Rat)≠0:=λz=>by rw [z] at p0; exact Rat.lt_irrefl p0
 have e:((lo * (p - w) + hi * w:Int):Rat) / (p:Rat) * (p:Rat)=((lo * (p - w) + hi * w:Int):Rat):=by
  rw [Rat.div_def,Rat.mul_assoc,Rat.inv_mul_cancel _ pn,Rat.mul_one]
 have d0:0<=(hi - lo) * w:=Int.mul_nonneg (by omega) w0
 have d1:0<=(hi - lo) * (p - w):=Int.mul_nonneg (by omega) (by omega)
 constructor
 ·refine Rat.le_of_mul_le_mul_right (c:=(p:Rat)) ?_ p0
  rw [e,<- Rat.intCast_mul]
  exact_mod_cast (show lo * p<=lo * (p - w) + hi * w by grind)
 ·refine Rat.le_of_mul_le_mul_right (c:=(p:Rat)) ?_ p0
  rw [e,<- Rat.intCast_mul]
  exact_mod_cast (show lo * (p - w) + hi * w<=hi * p by grind)
theorem Yy {a p:Int} {e:Nat} (b:Bd e a) (p1:1<=p) (p4:p<=4):xu 12 (e + 4) ((a:Rat) / (p:Rat)):=by
 obtain ⟨c,hc,bc⟩:∃ c:Int,p * c=12/\Bd 4 c:=by
  rcases (show p=1\/p=2\/p=3\/p=4 by omega) with rfl | rfl | rfl | rfl
  ·exact ⟨12,rfl,Bd.lit⟩
  ·exact ⟨6,rfl,Bd.lit⟩
  ·exact ⟨4,rfl,Bd.lit⟩
  ·exact ⟨3,rfl,Bd.lit⟩
 have pn:(p:Rat)≠0:=by exact_mod_cast (show p≠0 by omega)
 refine ⟨a * c,?_,b.mul bc⟩
 have e12:((12:Nat):Rat)=(p:Rat) * (c:Rat):=by
  rw [<- Rat.intCast_mul,hc]
  rfl
 rw [e12,Rat.intCast_mul,Rat.div_def]
 have i:=Rat.inv_mul_cancel _ pn
 grind
def zOR:FL:=λds R=>∃ (c:Int) (bs:List (Int × Int)),ds=[.int c,.lst (bs.map yC)]/\bs.length<=3/\(∀ b∈bs,b.1<=b.2/\Bd 105 b.1/\Bd 105 b.2)/\∀ xs:List Rat,xs.length=bs.length->(∀ i (h:i < bs.length),((bs[i].1:Int):Rat)<=xs.getD i 0/\xs.getD i 0<=((bs[i].2:Int):Rat))->(∀ x∈xs,xu 12 120 x)->R (dP xs)
theorem y6.mse {n:Nat} {bs:List (Int × Int)} {m:MD} (T:y6 n bs m):MSe 200 m:=⟨λr hr x hx=>(T.nx r hr x hx).mono,λx hx=>by
 obtain ⟨i,hi,rfl⟩:=List.mem_iff_getElem.mp hx
 have:=T.st i
 rw [List.getD_eq_getElem?_getD,List.getElem?_eq_getElem hi] at this
 have this:m.steer[i]=0:=this
 rw [this]
 exact wQ,λr hr x hx=>(T.ps r hr x hx).mono,λx hx=>(T.ad x hx).mono,T.dv.mono,(λr hr=>by rw [T.rows] at hr; cases hr),by rw [T.rows]; decide⟩
def gG:FL:=λds R=>∃ m n bs xs us Q e q,ds=[ja m,dP xs,dQ 0,dP us]/\y6 n bs m/\yz n xs Q e q/\yz bs.length us Q e q/\e<=5500/\2 + q<=e/\R (dP (yL m n xs us))
theorem Yz (x:Rat) {d:Int} (d1:1<=d):(x.num:Rat) / ((((x.den:Nat):Int) * d:Int):Rat)=x / (d:Rat):=by
 have h:=YX x
 have xd:(x.den:Rat)≠0:=by exact_mod_cast x.den_nz
 have dn:(d:Rat)≠0:=by exact_mod_cast (show d≠0 by omega)
 have pn:((((x.den:Nat):Int) * d:Int):Rat)≠0:=by exact_mod_cast Int.ne_of_gt (Int.mul_pos (vx x) (show 0 < d by omega))
 have i1:=Rat.mul_inv_cancel _ xd
 have i2:=Rat.mul_inv_cancel _ dn
 have i3:=Rat.mul_inv_cancel _ pn
 rw [h,Rat.div_def,Rat.div_def]
 have ec:((((x.den:Nat):Int) * d:Int):Rat)=(x.den:Rat) * (d:Rat):=by rw [Rat.intCast_mul]; rfl
 rw [ec] at i3 |-
 grind
theorem zPs (s a:Int):zQ [s,a] [0,1]=(a:Rat):=by
 show (s:Rat) * 0 + ((a:Rat) * 1 + 0)=_
 grind
def Y0 (n p:Nat) (m:MD) (x u y:Nat->Rat):Prop:=∀ i,i < n->y i * (m.div:Rat)=(zZ n λj=>((m.nexts.getD i []).getD j 0:Rat) * x j) + (zZ p λj=>((m.push.getD i []).getD j 0:Rat) * u j) + (m.add.getD i 0:Rat)
theorem zP2 {n p:Nat} {m:MD} {x u y:Nat->Rat} {ws:List Int} (B:Y0 n p m x u y) (lw:ws.length=n) (ln:m.nexts.length=n) (lp:m.push.length=n) (la:m.add.length=n):w4 ws y * (m.div:Rat)=w4 ((List.range n).map (yD ws m.nexts)) x + w4 ((List.range p).map (yD ws m.push)) u + (zg ws m.add:Rat):=by
 rw [zL5 (by omega),zL5 (by omega),zHz (by omega),<- WI,<- WI]
 unfold w4
 rw [Rat.mul_comm,<- WJ]
 refine YW λi hi=>?_
 have:=B i (by omega)
 grind
theorem J5 {ws:List Int} {xs:List Rat} (h:ws.length=xs.length):zQ ws xs=w4 ws λj=>xs.getD j 0:=by
 unfold w4
 rw [WM ws xs h,h]
theorem Y1 {n:Nat} {bs:List (Int × Int)} {m:MD} {v:List Int} {xs us:List Rat} (T:y6 n bs m) (lv:v.length=n) (lx:xs.length=n) (lu:us.length=bs.length):zQ v (yL m n xs us) * (m.div:Rat)=zQ ((List.range n).map (yD v m.nexts)) xs + zQ (zi bs m v) us + (zg v m.add:Rat):=by
 have MO:=T.mo
 have lb:(yL m n xs us).length=n:=by unfold yL; rw [List.length_map,List.length_range]
 have lp:(zi bs m v).length=bs.length:=by unfold zi; rw [List.length_map,List.length_range]
 have B:Y0 n bs.length m (λj=>xs.getD j 0) (λj=>us.getD j 0) (λj=>(yL m n xs us).getD j 0):=λi hi=>by
  have e:(yL m n xs us).getD i 0=gr m xs us i:=by
   unfold yL
   rw [List.getD_eq_getElem?_getD,List.getElem?_map,List.getElem?_range hi]
   rfl
  have dn:(m.div:Rat)≠0:=by exact_mod_cast (show m.div≠0 by have:=MO.div; omega)
  have l1:(m.nexts.getD i []).length=n:=MO.nexts.2 _ (vG (by rw [MO.nexts.1]; exact hi))
  have l2:(m.push.getD i []).length=bs.length:=MO.push.2 _ (vG (by rw [MO.push.1]; exact hi))
  show (yL m n xs us).getD i 0 * (m.div:Rat)=_
  rw [e]
  unfold gr
  rw [Rat.div_def,Rat.mul_assoc,Rat.inv_mul_cancel _ dn,Rat.mul_one,WM _ _ (by omega),WM _ _ (by omega),lx,lu]
 rw [J5 (by omega),J5 (by rw [List.length_map,List.length_range]; omega),J5 (by omega)]
 exact zP2 B lv MO.nexts.1 MO.push.1 MO.add
def Y2 (bs:List (Int × Int)) (us:List Rat):Prop:=us.length=bs.length/\∀ i (h:i < bs.length),((bs[i].1:Int):Rat)<=us.getD i 0/\us.getD i 0<=((bs[i].2:Int):Rat)
theorem J7:∀ {c:List Int} {bs:List (Int × Int)} {us:List Rat},Y2 bs us->zQ c us<=((xv c bs:Int):Rat)
 | [],_,_,_=>Rat.le_refl
 | _ :: _,[],us,h=>by
  cases us with
  | nil=>exact Rat.le_refl
  | cons u us=>cases h.1
 | c :: cs,b :: bs,us,h=>by
  cases us with
  | nil=>cases h.1
  | cons u us=>
   have h0:=h.2 0 (Nat.zero_lt_succ _)
   have h1:(b.1:Rat)<=u:=h0.1
   have h2:u<=(b.2:Rat):=h0.2
   have ih:=J7 (c:=cs) (bs:=bs) (us:=us) ⟨Nat.succ.inj h.1,λi hi=>h.2 (i + 1) (Nat.succ_lt_succ hi)⟩
   show (c:Rat) * u + zQ cs us<=((max (c * b.1) (c * b.2) + xv cs bs:Int):Rat)
   rw [Rat.intCast_add]
   have key:(c:Rat) * u<=((max (c * b.1) (c * b.2):Int):Rat):=by
    by_cases z:0<=c
    ·have z':(0:Rat)<=(c:Rat):=by exact_mod_cast z
     refine Rat.le_trans (Rat.mul_le_mul_of_nonneg_left h2 z') ?_
     rw [<- Rat.intCast_mul]
     exact_mod_cast Int.le_max_right _ _
    ·have z':(0:Rat)<=((-c:Int):Rat):=by exact_mod_cast (show 0<=-c by omega)
     have k:=Rat.mul_le_mul_of_nonneg_left h1 z'
     have m1:((c * b.1:Int):Rat)<=((max (c * b.1) (c * b.2):Int):Rat):=by exact_mod_cast Int.le_max_left _ _
     rw [Rat.intCast_mul] at m1
     rw [Rat.intCast_neg] at k
     grind
   grind
theorem zPt {c:List Int} {bs:List (Int × Int)} (h:∀ b∈bs,b.1<=b.2):zQ c (xA ((c.zip bs).map xZ))=((xv c bs:Int):Rat):=by
 rw [qA,Ji h]
def Y3 (n:Nat) (bs:List (Int × Int)) (m:MD) (u:List Int) (k:Nat):Int:=xv (zi bs m (zl n m k u)) bs + zg (zl n m k u) m.add
def wS (n:Nat) (bs:List (Int × Int)) (m:MD) (u:List Int):Nat->Rat
 | 0=>0
 | k + 1=>wS n bs m u k + (Y3 n bs m u k:Rat) / ((m.div ^ (k + 1):Int):Rat)
def wl (n:Nat) (bs:List (Int × Int)) (m:MD) (u:List Int) (k:Nat) (x:List Rat):Rat:=zQ (zl n m k u) x / ((m.div ^ k:Int):Rat) + wS n bs m u k
theorem pow_pos {m:MD} (h:1<=m.div) (k:Nat):0 < m.div ^ k:=Int.pow_pos (by omega)
theorem zI0 {n:Nat} {bs:List (Int × Int)} {m:MD} {u:List Int} {x us:List Rat} (T:y6 n bs m) (lu:u.length=n) (lx:x.length=n) (lw:us.length=bs.length) (k:Nat):wl n bs m u k (yL m n x us)=wl n bs m u (k + 1) x + (zQ (zi bs m (zl n m k u)) us - ((xv (zi bs m (zl n m k u)) bs:Int):Rat)) / ((m.div ^ (k + 1):Int):Rat):=by
 have d1:=T.mo.div
 have h:=Y1 (v:=zl n m k u) T (gE lu k) lx lw
 have dn:(m.div:Rat)≠0:=by exact_mod_cast (show m.div≠0 by omega)
 have kn:((m.div ^ k:Int):Rat)≠0:=by exact_mod_cast Int.ne_of_gt (pow_pos d1 k)
 have i1:=Rat.mul_inv_cancel _ dn
 have i2:=Rat.mul_inv_cancel _ kn
 have pn:((m.div ^ k:Int):Rat) * (m.div:Rat)≠0:=by
  rw [<- Rat.intCast_mul,<- Int.pow_succ]
  exact_mod_cast Int.ne_of_gt (pow_pos d1 (k + 1))
 have i3:=Rat.mul_inv_cancel _ pn
 show zQ (zl n m k u) (yL m n x us) / ((m.div ^ k:Int):Rat) + wS n bs m u k=(zQ ((List.range n).map (yD (zl n m k u) m.nexts)) x / ((m.div ^ (k + 1):Int):Rat) + (wS n bs m u k + ((xv (zi bs m (zl n m k u)) bs + zg (zl n m k u) m.add:Int):Rat) / ((m.div ^ (k + 1):Int):Rat))) + _
 rw [Int.pow_succ,Rat.intCast_mul,Rat.intCast_add]
 simp only [Rat.div_def]
 generalize zQ (zl n m k u) (yL m n x us)=a at h |-
 generalize zQ ((List.range n).map (yD (zl n m k u) m.nexts)) x=b at h |-
 generalize zQ (zi bs m (zl n m k u)) us=c at h |-
 generalize ((xv (zi bs m (zl n m k u)) bs:Int):Rat)=t
 generalize ((zg (zl n m k u) m.add:Int):Rat)=s at h |-
 generalize wS n bs m u k=r
 generalize ((m.div ^ k:Int):Rat)=p at i2 i3 |-
 generalize (m.div:Rat)=d at h i1 i3 |-
 have e:(p * d)⁻¹=p⁻¹ * d⁻¹:=by
  have:(p * d)⁻¹ * ((p * d) * (p⁻¹ * d⁻¹))=p⁻¹ * d⁻¹:=by
   rw [<- Rat.mul_assoc,Rat.mul_comm (p * d)⁻¹,i3,Rat.one_mul]
  grind
 rw [e]
 grind
theorem J8 {n:Nat} {bs:List (Int × Int)} {m:MD} {u:List Int} (T:y6 n bs m) (lu:u.length=n):∀ (k:Nat) {x:List Rat},x.length=n->zQ u (wj n m x (yH n bs m u k))=wl n bs m u k x
 | 0,x,_=>by
  show zQ u x=zQ u x / ((m.div ^ 0:Int):Rat) + 0
  rw [Int.pow_zero,Rat.div_def]
  have:(((1:Int):Rat))⁻¹=1:=by decide +kernel
  rw [this]
  grind
 | k + 1,x,lx=>by
  have lb:∀ y:List Rat,(yL m n x y).length=n:=λy=>by unfold yL; rw [List.length_map,List.length_range]
  show zQ u (wj n m (yL m n x (xA (xB bs m (zl n m k u)))) (yH n bs m u k))=_
  rw [J8 T lu k (lb _),zI0 T lu lx (by rw [List.length_map]; exact (zNr T.ok.bok).1)]
  unfold xB
  rw [zPt T.ok.bok,Rat.div_def]
  grind
theorem zQG {n:Nat} {bs:List (Int × Int)} {m:MD} {u:List Int} {x us:List Rat} (T:y6 n bs m) (lu:u.length=n) (lx:x.length=n) (I:Y2 bs us) (k:Nat):wl n bs m u k (yL m n x us)<=wl n bs m u (k + 1) x:=by
 rw [zI0 T lu lx I.1]
 have h:=J7 (c:=zi bs m (zl n m k u)) I
 have p0:(0:Rat) < ((m.div ^ (k + 1):Int):Rat):=by exact_mod_cast pow_pos T.mo.div (k + 1)
 have pn:((m.div ^ (k + 1):Int):Rat)≠0:=by exact_mod_cast Int.ne_of_gt (pow_pos T.mo.div (k + 1))
 rw [Rat.div_def]
 have key:(zQ (zi bs m (zl n m k u)) us - ((xv (zi bs m (zl n m k u)) bs:Int):Rat)) * (((m.div ^ (k + 1):Int):Rat))⁻¹<=0:=Rat.le_of_mul_le_mul_right (c:=((m.div ^ (k + 1):Int):Rat)) (by rw [Rat.mul_assoc,Rat.inv_mul_cancel _ pn,Rat.mul_one]; grind) p0
 grind
theorem J9 {m:MD} (h:1<=m.div) (k:Nat):(m.div ^ k:Int)=((m.div.toNat ^ k:Nat):Int):=by
 rw [Int.natCast_pow,show ((m.div.toNat:Nat):Int)=m.div by omega]
theorem g6 {m:MD} (h:Bd 3 m.div):∀ k,Bd (1 + 3 * k) (m.div ^ k)
 | 0=>by rw [Int.pow_zero]; exact xN (by decide)
 | k + 1=>by rw [Int.pow_succ]; exact ((g6 h k).mul h).mono (by omega)
theorem zLh {n k:Nat} {bs:List (Int × Int)} {m:MD} {u:List Int} (T:y6 n bs m) (lu:u.length=n) (bu:∀ x∈u,Bd 3 x) (hk:k<=20):Bd 390 (Y3 n bs m u k):=by
 have n3:=T.ok.n3
 have b2:=T.b2
 have lk:=gE (m:=m) lu k
 have bk:=gv T lu bu k
 have lp:(zi bs m (zl n m k u)).length=bs.length:=by unfold zi; rw [List.length_map,List.length_range]
 have h1:=Jj (Js T lk bk) T.bb
 have h2:=Jq bk T.ad
 exact ((h1.mono (show _<=380 by omega)).add (h2.mono (show _<=380 by omega))).mono
theorem zLW {n:Nat} {bs:List (Int × Int)} {m:MD} {u:List Int} (T:y6 n bs m) (lu:u.length=n) (bu:∀ x∈u,Bd 3 x):∀ {k:Nat},k<=20->xu (m.div.toNat ^ k) (391 + 4 * k) (wS n bs m u k)
 | 0,_=>jV _ _
 | k + 1,hk=>by
  have d1:=T.mo.div
  have h1:=zQS (P:=m.div.toNat) (zLW T lu bu (k:=k) (by omega)) (by rw [show ((m.div.toNat:Nat):Int)=m.div by omega]; exact T.dv)
  have h2:=zNy (gp (Q:=1) (zLh T lu bu (k:=k) (by omega)) (show Bd 1 ((1:Nat):Int) from Bd.lit)) (show 1<=m.div ^ (k + 1) by have:=pow_pos d1 (k + 1); omega)
  rw [show (m.div ^ (k + 1)).toNat=m.div.toNat ^ (k + 1) by rw [J9 d1,Int.toNat_natCast],Nat.one_mul] at h2
  rw [<- Nat.pow_succ] at h1
  exact vE (gn (vE h1 (show _<=394 + 4 * k by omega)) (vE h2 (show _<=394 + 4 * k by omega))) (by omega)
theorem zOH {n k:Nat} {bs:List (Int × Int)} {m:MD} {u:List Int} (T:y6 n bs m) (lu:u.length=n) (bu:∀ x∈u,Bd 3 x) (hk:k<=20):Bd 500 (wS n bs m u k).num/\Bd 70 ((wS n bs m u k).den:Int):=by
 have d1:=T.mo.div
 have h:=xY (Nat.pow_pos (by omega)) (by rw [<- J9 d1]; exact g6 T.dv k) (zLW T lu bu hk)
 exact ⟨h.1.mono (by omega),h.2.mono (by omega)⟩
theorem zQV:∀ {us vs:List Int},us.length=vs.length->((List.range us.length).map λi=>us.getD i 0 * vs.getD i 0).sum=zg us vs
 | [],[],_=>rfl
 | [],_ :: _,h=>nomatch h
 | _ :: _,[],h=>nomatch h
 | u :: us,v :: vs,h=>by
  rw [List.length_cons,List.range_succ_eq_map,List.map_cons,List.map_map,List.sum_cons]
  show u * v + ((List.range us.length).map λi=>us.getD i 0 * vs.getD i 0).sum=u * v + zg us vs
  rw [zQV (Nat.succ.inj h)]
theorem QA {j:Nat}:∀ {us:List Int} {ls:List (List Int)},us.length=ls.length->((List.range us.length).map λi=>us.getD i 0 * (ls.getD i []).getD j 0).sum=yD us ls j
 | [],[],_=>rfl
 | [],_ :: _,h=>nomatch h
 | _ :: _,[],h=>nomatch h
 | u :: us,v :: vs,h=>by
  rw [List.length_cons,List.range_succ_eq_map,List.map_cons,List.map_map,List.sum_cons]
  show u * v.getD j 0 + ((List.range us.length).map λi=>us.getD i 0 * (vs.getD i []).getD j 0).sum=u * v.getD j 0 + yD us vs j
  rw [QA (Nat.succ.inj h)]
def Y4:FL:=λds R=>∃ n bs m w u t,ds=[wR n bs [m] w,L u,.int ((t:Nat):Int)]/\y6 n bs m/\u.length=n/\(∀ x∈u,Bd 3 x)/\t<=20/\R (.tup [L (zl n m t u),.int (m.div ^ t),dQ (wS n bs m u t)])
def zr (bx:List (Int × Int)) (k:Nat):Br:=(k / 2,1 - ((k % 2:Nat):Int) * 2,if k % 2=0 then (bx.getD (k / 2) (0,0)).2 else (bx.getD (k / 2) (0,0)).1)
def xO (n:Nat) (bx:List (Int × Int)):List Br:=(List.range (2 * n)).map (zr bx)
theorem je {n:Nat} {bx:List (Int × Int)}:(xO n bx).length=2 * n:=by unfold xO; rw [List.length_map,List.length_range]
theorem Y5 {n k:Nat} {bx:List (Int × Int)} (h:k < 2 * n):(xO n bx)[k]? = some (zr bx k):=by
 unfold xO
 rw [List.getElem?_map,List.getElem?_range h]
 rfl
theorem Y6 (bx:List (Int × Int)) (k:Nat):(zr bx k).2.1=1\/(zr bx k).2.1 = -1:=by
 show 1 - ((k % 2:Nat):Int) * 2=1\/1 - ((k % 2:Nat):Int) * 2 = -1
 omega
theorem zN0 {n:Nat} {bx:List (Int × Int)} {b:Br} (h:b∈xO n bx):∃ k,k < 2 * n/\b=zr bx k:=by
 obtain ⟨k,hk,rfl⟩:=List.mem_map.mp h
 exact ⟨k,List.mem_range.mp hk,rfl⟩
def vR (n:Nat) (bx:List (Int × Int)) (k:Nat):List Br:=(xO n bx).take k++(xO n bx).drop (k + 1)
theorem WZ {n k j:Nat} {bx:List (Int × Int)} (hj:j < 2 * n) (ne:j≠k):zr bx j∈vR n bx k:=by
 by_cases c:j < k
 ·exact List.mem_append.mpr (.inl (List.mem_iff_getElem?.mpr ⟨j,by rw [List.getElem?_take,if_pos c]; exact Y5 hj⟩))
 ·exact List.mem_append.mpr (.inr (List.mem_iff_getElem?.mpr ⟨j - (k + 1),by rw [List.getElem?_drop,show k + 1 + (j - (k + 1))=j by omega]; exact Y5 hj⟩))
theorem QB {n k:Nat} {bx:List (Int × Int)} {b:Br} (h:b∈vR n bx k):∃ j,j < 2 * n/\j≠k/\b=zr bx j:=by
 rcases List.mem_append.mp h with h | h
 ·obtain ⟨j,hj⟩:=List.mem_iff_getElem?.mp h
  rw [List.getElem?_take] at hj
  split at hj
  ·have l:=(List.getElem?_eq_some_iff.mp hj).1
   rw [je] at l
   rw [Y5 l] at hj
   exact ⟨j,l,by omega,(Option.some.inj hj).symm⟩
  ·cases hj
 ·obtain ⟨j,hj⟩:=List.mem_iff_getElem?.mp h
  rw [List.getElem?_drop] at hj
  have l:=(List.getElem?_eq_some_iff.mp hj).1
  rw [je] at l
  rw [Y5 l] at hj
  exact ⟨k + 1 + j,l,by omega,(Option.some.inj hj).symm⟩
def vS (b:Br) (d:Int):Br:=(b.1,-b.2.1,b.2.2 + b.2.1 * d)
def Y7 (us:List Int):D->Bool
 | .int k=>decide (0 < us.getD (k.toNat / 2) 0 * (1 - ((k.toNat % 2:Nat):Int) * 2))
 | _=>false
structure Bo (n:Nat) (bx:List (Int × Int)):Prop where
 n1:1<=n
 n3:n<=3
 len:bx.length=n
 bb:∀ b∈bx,b.1<=b.2/\Bd 105 b.1/\Bd 105 b.2
theorem Bo.at {n p:Nat} {bx:List (Int × Int)} (B:Bo n bx) (h:p < n):(bx.getD p (0,0)).1<=(bx.getD p (0,0)).2/\Bd 105 (bx.getD p (0,0)).1/\Bd 105 (bx.getD p (0,0)).2:=B.bb _ (uL (by rw [B.len]; exact h))
structure Y8 (n:Nat) (bx:List (Int × Int)) (T:List Br) (oa:D) (nn:Bool):Prop where
 gd:Gd n T
 few:T.length<=50
 has:∀ p,p < n->∃ b∈T,b.1=p
 hoa:oa=.non\/∃ k:Nat,k < 2 * n/\oa=.int (k:Int)
 or:(nn=true/\WU T)\/(nn=false/\qB n T bx/\∀ us,Y7 us oa=true ↔ Wn n us T)
theorem Wa {n k:Nat} {bx:List (Int × Int)} (B:Bo n bx) (h:k < 2 * n):(zr bx k).1 < n/\((zr bx k).2.1=1\/(zr bx k).2.1 = -1)/\Bd 390 (zr bx k).2.2:=by
 have hb:=B.at (p:=k / 2) (by omega)
 refine ⟨by show k / 2 < n; omega,Y6 bx k,?_⟩
 show Bd 390 (if k % 2=0 then (bx.getD (k / 2) (0,0)).2 else (bx.getD (k / 2) (0,0)).1)
 split
 ·exact hb.2.2.mono
 ·exact hb.2.1.mono
theorem zN1 {n:Nat} {bx:List (Int × Int)} {T:List Br} (B:Bo n bx) (s:∀ b∈T,∃ k,k < 2 * n/\b=zr bx k) (has:∀ p,p < n->∃ b∈T,b.1=p):qB n T bx:=by
 refine ⟨B.len,λb hb e=>?_,λb hb e=>?_,λp hp=>(B.at hp).1,has⟩
 ·obtain ⟨k,hk,rfl⟩:=s b hb
  have e:1 - ((k % 2:Nat):Int) * 2=1:=e
  show (if k % 2=0 then _ else _)=_
  rw [if_pos (by omega)]
  rfl
 ·obtain ⟨k,hk,rfl⟩:=s b hb
  have e:1 - ((k % 2:Nat):Int) * 2 = -1:=e
  show (if k % 2=0 then _ else _)=_
  rw [if_neg (by omega)]
  rfl
theorem g9 (bx:List (Int × Int)) (p:Nat):(zr bx (2 * p)).1=p/\(zr bx (2 * p)).2.1=1:=⟨by show 2 * p / 2=p; omega,by show 1 - ((2 * p % 2:Nat):Int) * 2=1; omega⟩
theorem Y9 (bx:List (Int × Int)) (p:Nat):(zr bx (2 * p + 1)).1=p/\(zr bx (2 * p + 1)).2.1 = -1:=⟨by show (2 * p + 1) / 2=p; omega,by show 1 - (((2 * p + 1) % 2:Nat):Int) * 2 = -1; omega⟩
theorem Wb {n k:Nat} {bx:List (Int × Int)} (h:k < 2 * n):zr bx k∈xO n bx:=List.mem_map.mpr ⟨k,List.mem_range.mpr h,rfl⟩
theorem zKV {n:Nat} {bx:List (Int × Int)} (B:Bo n bx):Y8 n bx (xO n bx) .non false:=by
 have has:∀ p,p < n->∃ b∈xO n bx,b.1=p:=λp hp=>⟨_,Wb (k:=2 * p) (by omega),(g9 bx p).1⟩
 have n3:=B.n3
 refine ⟨⟨B.n1,n3,by rw [je]; omega,λb hb=>?_⟩,by rw [je]; omega,has,.inl rfl,.inr ⟨rfl,zN1 B (λb hb=>zN0 hb) has,λus=>⟨λh=>absurd h (by show ¬ (false=true); decide),?_⟩⟩⟩
 ·obtain ⟨k,hk,rfl⟩:=zN0 hb
  exact Wa B hk
 ·rintro ⟨p,hp,u0,h⟩
  rcases Int.lt_or_gt_of_ne u0 with c | c
  ·refine absurd ?_ (h _ (Wb (k:=2 * p + 1) (by omega)) (Y9 bx p).1)
   rw [(Y9 bx p).2]
   omega
  ·refine absurd ?_ (h _ (Wb (k:=2 * p) (by omega)) (g9 bx p).1)
   rw [(g9 bx p).2]
   omega
theorem zOq {n k:Nat} {bx:List (Int × Int)} (B:Bo n bx) (hk:k < 2 * n):Y8 n bx (vR n bx k) (.int (k:Int)) false:=by
 have has:∀ p,p < n->∃ b∈vR n bx k,b.1=p:=λp hp=>by
  by_cases c:2 * p=k
  ·exact ⟨_,WZ (j:=2 * p + 1) (by omega) (by omega),(Y9 bx p).1⟩
  ·exact ⟨_,WZ (j:=2 * p) (by omega) c,(g9 bx p).1⟩
 have n3:=B.n3
 have ll:(vR n bx k).length<=6:=by unfold vR; rw [List.length_append,List.length_take,List.length_drop,je]; omega
 refine ⟨⟨B.n1,n3,by omega,λb hb=>?_⟩,by omega,has,.inr ⟨k,hk,rfl⟩,.inr ⟨rfl,zN1 B (λb hb=>?_) has,λus=>?_⟩⟩
 ·obtain ⟨j,hj,_,rfl⟩:=QB hb
  exact Wa B hj
 ·obtain ⟨j,hj,_,rfl⟩:=QB hb
  exact ⟨j,hj,rfl⟩
 show decide (0 < us.getD (k / 2) 0 * (1 - ((k % 2:Nat):Int) * 2))=true ↔ _
 rw [decide_eq_true_iff]
 constructor
 ·intro h
  refine ⟨k / 2,by omega,λz=>?_,λb hb bp hh=>?_⟩
  ·rw [z,Int.zero_mul] at h
   exact Int.lt_irrefl _ h
  ·obtain ⟨j,hj,ne,rfl⟩:=QB hb
   have bp:j / 2=k / 2:=bp
   have hh:0 < us.getD (k / 2) 0 * (1 - ((j % 2:Nat):Int) * 2):=hh
   have hs:(1 - ((j % 2:Nat):Int) * 2) = -(1 - ((k % 2:Nat):Int) * 2):=by omega
   rw [hs,Int.mul_neg] at hh
   omega
 ·rintro ⟨p,hp,u0,h⟩
  rcases Int.lt_or_gt_of_ne u0 with c | c
  ·by_cases e:2 * p + 1=k
   ·rw [<- e,show (2 * p + 1) / 2=p by omega,show (2 * p + 1) % 2=1 by omega]
    show 0 < us.getD p 0 * (-1)
    omega
   ·refine absurd ?_ (h _ (WZ (j:=2 * p + 1) (by omega) e) (Y9 bx p).1)
    rw [(Y9 bx p).2]
    omega
  ·by_cases e:2 * p=k
   ·rw [<- e,show 2 * p / 2=p by omega,show 2 * p % 2=0 by omega]
    show 0 < us.getD p 0 * 1
    omega
   ·refine absurd ?_ (h _ (WZ (j:=2 * p) (by omega) e) (g9 bx p).1)
    rw [(g9 bx p).2]
    omega
theorem zOp {n k:Nat} {bx:List (Int × Int)} {d:Int} (B:Bo n bx) (hk:k < 2 * n) (d1:1<=d) (d3:d<=3):Y8 n bx (xO n bx++[vS (zr bx k) d]) .non true:=by
 have n3:=B.n3
 have S:=zKV B
 have O:=Wa B hk
 have hin:zr bx k∈xO n bx++[vS (zr bx k) d]:=List.mem_append.mpr (.inl (Wb hk))
 have far:vS (zr bx k) d∈xO n bx++[vS (zr bx k) d]:=List.mem_append.mpr (.inr (List.mem_singleton.mpr rfl))
 refine ⟨⟨B.n1,n3,by rw [List.length_append,je]; show 2 * n + 1<=60; omega,λb hb=>?_⟩,by rw [List.length_append,je]; show 2 * n + 1<=50; omega,λp hp=>?_,.inl rfl,.inl ⟨rfl,?_⟩⟩
 ·rcases List.mem_append.mp hb with hb | hb
  ·exact S.gd.ok b hb
  ·rw [List.mem_singleton.mp hb]
   refine ⟨O.1,?_,?_⟩
   ·rcases O.2.1 with z | z
    ·exact .inr (by show -(zr bx k).2.1 = -1; rw [z])
    ·exact .inl (by show -(zr bx k).2.1=1; rw [z]; rfl)
   ·have hb:=B.at (p:=k / 2) (by omega)
    have b0:Bd 105 (zr bx k).2.2:=by
     show Bd 105 (if k % 2=0 then (bx.getD (k / 2) (0,0)).2 else (bx.getD (k / 2) (0,0)).1)
     split
     ·exact hb.2.2
     ·exact hb.2.1
    have b1:Bd 105 ((zr bx k).2.1 * d):=((vF (e:=1) O.2.1 (by decide)).mul (show Bd 3 d from vH (f:=7) (by decide) (by omega) (by omega))).mono
    exact (b0.add b1).mono
 ·obtain ⟨b,hb,e⟩:=S.has p hp
  exact ⟨b,List.mem_append.mpr (.inl hb),e⟩
 ·rcases O.2.1 with z | z
  ·refine ⟨_,hin,_,far,rfl,z,by show -(zr bx k).2.1 = -1; rw [z],?_⟩
   show (zr bx k).2.2 < (zr bx k).2.2 + (zr bx k).2.1 * d
   rw [z]
   omega
  ·refine ⟨_,far,_,hin,rfl,by show -(zr bx k).2.1=1; rw [z]; rfl,z,?_⟩
   show (zr bx k).2.2 + (zr bx k).2.1 * d < (zr bx k).2.2
   rw [z]
   omega
def QC (n:Nat) (bs bx:List (Int × Int)) (m:MD) (u:List Int) (t:Nat) (T:List Br) (oa:D) (nn:Bool) (d:D):Prop:=(nn=true/\d=.tup [.str "empty"])\/nn=false/\((Y7 (zl n m t u) oa=true/\d=.tup [.str "open"])\/Y7 (zl n m t u) oa=false/\qB n T bx/\∃ pt,ui n (zl n m t u) bx pt/\d=.tup [.str "most",dQ (zQ u (wj n m (xA pt) (yH n bs m u t))),xK pt,.lst ((yH n bs m u t).map w6)])
theorem zQ8 {n t:Nat} {bs bx:List (Int × Int)} {m:MD} {u:List Int} {T:List Br} {oa:D} {nn:Bool} {R:D->Prop} (S:Y8 n bx T oa nn) (h:∀ d,QC n bs bx m u t T oa nn d->R d):(WU T/\R (.tup [.str "empty"]))\/∃ bx,WrR n bs m T u t bx R:=by
 rcases S.or with ⟨rfl,E⟩ | ⟨rfl,B,W⟩
 ·exact .inl ⟨E,h _ (.inl ⟨rfl,rfl⟩)⟩
 ·refine .inr ⟨bx,B,λw=>h _ (.inr ⟨rfl,.inl ⟨(W _).mpr w,rfl⟩⟩),λw pt TP=>h _ (.inr ⟨rfl,.inr ⟨?_,B,pt,TP,rfl⟩⟩)⟩
  cases c:Y7 (zl n m t u) oa with
  | false=>rfl
  | true=>exact absurd ((W _).mp c) w
theorem QD:∀ {ds:List D},(∀ d∈ds,PyData.eqv d.py d.py=true)->PyData.eqvAll (vM ds) (vM ds)=true
 | [],_=>by simp [vM,PyData.eqvAll]
 | d :: ds,h=>by simp [vM,PyData.eqvAll,h d List.mem_cons_self,QD λx hx=>h x (List.mem_cons_of_mem _ hx)]
theorem qC:∀ (n:Nat) (d:D),D.pl n d=true->PyData.eqv d.py d.py=true
 | 0,_,h=>by cases h
 | _ + 1,.int i,_=>by simp [D.py,PyData.eqv]
 | _ + 1,.bool i,_=>by simp [D.py,PyData.eqv]
 | _ + 1,.non,_=>by simp [D.py,PyData.eqv]
 | _ + 1,.str i,_=>by simp [D.py,PyData.eqv]
 | _ + 1,.scr _,h=>by cases h
 | _ + 1,.obj ..,h=>by cases h
 | n + 1,.lst ds,h=>by
  simp only [D.py,PyData.eqv]
  exact QD λd m=>qC n d (List.all_eq_true.mp h d m)
 | n + 1,.tup ds,h=>by
  simp only [D.py,PyData.eqv]
  exact QD λd m=>qC n d (List.all_eq_true.mp h d m)
theorem zPv {α:Type} (xs:List α) (k:Nat):zh xs none (some (k:Int))=xs.take k:=by
 unfold zh
 rw [HT.sIx_none,HT.sIx_nat,List.drop_zero,Nat.sub_zero]
 exact List.take_eq_take_iff.mpr (by omega)
theorem zL9 {α:Type} (xs:List α) (k:Nat):zh xs (some (k:Int)) none=xs.drop k:=by
 unfold zh
 rw [HT.sIx_none,HT.sIx_nat,List.take_of_length_le (by rw [List.length_drop]; omega)]
 by_cases h:k<=xs.length
 ·rw [Nat.min_eq_left h]
 ·rw [Nat.min_eq_right (by omega),List.drop_length,List.drop_of_length_le (by omega)]
theorem XA {n k:Nat} {bx:List (Int × Int)} (h:k < 2 * n):ya ((xO n bx).map λb=>U (rI n b)) (k:Int)=some (U (rI n (zr bx k))):=by
 rw [xj (0,0,0) (by rw [je]; exact h),List.getD_eq_getElem?_getD,Y5 h]
 rfl
theorem zPj {n:Nat} (b:Br):(rI n b).map (λx=>0 - x)=yE (b.1:Int) n (-b.2.1)++[-(b.2.1 * b.2.2)]:=by
 show (zc n b.1 b.2.1 (b.2.1 * b.2.2)).map _=_
 unfold zc
 rw [List.map_append]
 rw [show List.map (λx=>0 - x) [b.2.1 * b.2.2]=[-(b.2.1 * b.2.2)] by show [0 - _]=_; rw [Int.zero_sub]]
 refine congrArg (·++[-(b.2.1 * b.2.2)]) ?_
 unfold yE
 rw [List.map_map]
 refine List.map_congr_left λj _=>?_
 show 0 - (if (j:Int)=(b.1:Int) then b.2.1 else 0)=_
 split
 ·rw [Int.zero_sub]
 ·rfl
theorem XB {b:Br} {d:Int} (h:b.2.1=1\/b.2.1 = -1) : -(b.2.1 * b.2.2) - 1 - d = -b.2.1 * (b.2.2 + b.2.1 * (1 + d)):=by
 rcases h with h | h <;> rw [h] <;> omega
theorem zOu {n:Nat} {bx:List (Int × Int)} (B:Bo n bx):Rm (Yp bx)=y9 n (xO n bx):=by
 have key:Yp bx=(xO n bx).map (rI n):=by
  have n3:=B.n3
  have h:=B.len
  subst h
  match bx,n3 with
  | [],_=>rfl
  | [a],_=>simp [Yp,wA,xO,zr,zc,yE,List.range_succ,Int.zero_sub]
  | [a,b],_=>simp [Yp,wA,xO,zr,zc,yE,List.range_succ,Int.zero_sub]
  | [a,b,c],_=>simp [Yp,wA,xO,zr,zc,yE,List.range_succ,Int.zero_sub]
 unfold Rm y9
 rw [key,List.map_map]
 rfl
def zOP:FL:=λds R=>∃ n bx,ds=[.lst (bx.map yC)]/\Bo n bx/\R (y9 n (xO n bx))
def zOM:FL:=λds R=>∃ (n:Nat) (us:List Int) (oa:D),ds=[L us,oa]/\us.length=n/\n<=3/\(∀ x∈us,Bd 200 x)/\(oa=.non\/∃ k:Nat,k < 2 * n/\oa=.int (k:Int))/\R (.bool (Y7 us oa))
def zOO:FL:=λds R=>∃ n bx c,ds=[.lst (bx.map yC),.int c]/\Bo n bx/\∀ T oa nn,Y8 n bx T oa nn->R (.tup [y9 n T,oa,.bool nn])
def jf (bs:List (Int × Int)) (w:List Int):Prop:=w.length=bs.length/\∀ k (h:k < bs.length),w.getD k 0=bs[k].1\/w.getD k 0=bs[k].2
def XC:FL:=λds R=>∃ n bs m v x0 ws,ds=[wR n bs [m] v,xK x0,.lst (ws.map w6)]/\y6 n bs m/\x0.length=n/\(∀ x∈x0,Bd 390 x)/\ws.length<=20/\(∀ w∈ws,jf bs w)/\∀ xs,xs=wj n m (xA x0) ws->(∃ Q e q,yz n xs Q e q)->R (dP xs)
theorem jf.bd {bs:List (Int × Int)} {w:List Int} (I:jf bs w) (h:∀ b∈bs,Bd 105 b.1/\Bd 105 b.2):∀ x∈w,Bd 107 x:=λx hx=>by
 obtain ⟨i,hi,rfl⟩:=List.mem_iff_getElem.mp hx
 have hb:i < bs.length:=by rw [<- I.1]; exact hi
 have e:=I.2 i hb
 rw [List.getD_eq_getElem?_getD,List.getElem?_eq_getElem hi] at e
 have e:w[i]=bs[i].1\/w[i]=bs[i].2:=e
 obtain ⟨h1,h2⟩:=h _ (List.getElem_mem hb)
 rcases e with e | e <;> rw [e]
 ·exact h1.mono
 ·exact h2.mono
structure Er (K:PySem.W.Frag) (mg:Str->Option Value) (cC cP cS:Addr):Prop where
 mgC:mg "NotClosed" = some (.ref cC)
 mgP:mg "NotPlain" = some (.ref cP)
 mgS:mg "SteadyError" = some (.ref cS)
 excC:PySem.W.excIn K cC UZ "ValueError.__new__" = true
 excP:PySem.W.excIn K cP UZ "ValueError.__new__" = true
 cs:PySem.W.exmOne K (.ref cC) (.ref cS)=some true
 ps:PySem.W.exmOne K (.ref cP) (.ref cS)=some true
 cc:PySem.W.kitOne K (.ref cC) (.ref cC)=some true
 cp:PySem.W.kitOne K (.ref cC) (.ref cP)=some false
 pc:PySem.W.kitOne K (.ref cP) (.ref cC)=some false
 pp:PySem.W.kitOne K (.ref cP) (.ref cP)=some true
 xC:xg K cC
 xP:xg K cP
inductive QE (C CM cC:Addr) (c:Addr) (ds:List D):Prop
 | mk (n:Nat) (bs:List (Int × Int)) (ms:List MD) (e:ds=[wE C CM n bs ms]) (h:wJ n bs ms) (cl:uK ms=false) (hc:c=cC):QE C CM cC c ds
inductive QF (C CM cP:Addr) (c:Addr) (ds:List D):Prop
 | mk (n:Nat) (bs:List (Int × Int)) (ms:List MD) (e:ds=[wE C CM n bs ms]) (h:gw ms=false) (hc:c=cP):QF C CM cP c ds
inductive QG (C CM cC cP:Addr) (c:Addr) (ds:List D):Prop
 | mk (n:Nat) (bs:List (Int × Int)) (ms:List MD) (d1 d2 d3:D) (e:ds=[wE C CM n bs ms,d1,d2,d3]) (h:wJ n bs ms) (hc:(c=cC/\uK ms=false)\/(c=cP/\uK ms=true/\gw ms=false)):QG C CM cC cP c ds
def XD:FL:=λds R=>∃ n bs m u c r,ds=[wR n bs [m] u,.int c,U r]/\y6 n bs m/\r.length=n + 1/\R (.bool true)
def uj (n:Nat) (bs:List (Int × Int)) (c:Int) (ms:List MD):Prop:=wJ n bs ms/\((c.fmod 3=0/\uK ms=false)\/(0 < c.fmod 3/\uK ms=true/\gw ms=false))
theorem zNn {n:Nat} {bs:List (Int × Int)} {m:MD} {c:Int} (T:y6 n bs m) (h:c.fmod 3=0):uj n bs c [{ m with steer:=1 :: m.steer.drop 1 }]:=by
 have MO:=T.mo
 have n1:=T.ok.n1
 refine ⟨⟨n1,T.ok.n3,T.ok.bok,T.ok.b6,by show 1<=1; decide,by show 1<=40; decide,λx hx=>?_⟩,.inl ⟨h,rfl⟩⟩
 rw [List.mem_singleton.mp hx]
 exact ⟨MO.rows,MO.few,MO.nexts,by show (m.steer.drop 1).length + 1=n; rw [List.length_drop,MO.steer]; omega,MO.push,MO.add,MO.div,MO.n3,MO.p6⟩
theorem zP3 {n:Nat} {bs:List (Int × Int)} {m:MD} {c:Int} (T:y6 n bs m) (h:c.fmod 3=1):uj n bs c [m,m]:=by
 have hm:∀ x∈[m,m],x=m:=λx hx=>by
  rcases List.mem_cons.mp hx with e | e
  ·exact e
  ·exact List.mem_singleton.mp e
 refine ⟨⟨T.ok.n1,T.ok.n3,T.ok.bok,T.ok.b6,by show 1<=2; decide,by show 2<=40; decide,λx hx=>by rw [hm x hx]; exact T.mo⟩,.inr ⟨by omega,?_,rfl⟩⟩
 have k:=List.all_eq_true.mp T.cl m (List.mem_singleton.mpr rfl)
 exact List.all_eq_true.mpr λx hx=>by rw [hm x hx]; exact k
theorem zP4 {n:Nat} {bs:List (Int × Int)} {m:MD} {c:Int} {r:List Int} (T:y6 n bs m) (h:c.fmod 3=2) (lr:r.length=n + 1):uj n bs c [{ m with rows:=[r] }]:=by
 have MO:=T.mo
 refine ⟨⟨T.ok.n1,T.ok.n3,T.ok.bok,T.ok.b6,by show 1<=1; decide,by show 1<=40; decide,λx hx=>?_⟩,.inr ⟨by omega,?_,rfl⟩⟩
 ·rw [List.mem_singleton.mp hx]
  exact ⟨λy hy=>by rw [List.mem_singleton.mp hy]; exact lr,by show 1<=900; decide,MO.nexts,MO.steer,MO.push,MO.add,MO.div,MO.n3,MO.p6⟩
 ·have k:=List.all_eq_true.mp T.cl m (List.mem_singleton.mpr rfl)
  exact List.all_eq_true.mpr λx hx=>by rw [List.mem_singleton.mp hx]; exact k
theorem zNf {a b p:Rat} (h:a<=b) (p0:0 < p):a / p<=b / p:=by
 have pn:p≠0:=λz=>by rw [z] at p0; exact Rat.lt_irrefl p0
 refine Rat.le_of_mul_le_mul_right (c:=p) ?_ p0
 rw [Rat.div_def,Rat.div_def,Rat.mul_assoc,Rat.mul_assoc,Rat.inv_mul_cancel _ pn,Rat.mul_one,Rat.mul_one]
 exact h
def uk (n:Nat) (bs bx:List (Int × Int)) (m:MD) (u:List Int) (t:Nat):Rat:=((xv (zl n m t u) bx:Int):Rat) / ((m.div ^ t:Int):Rat) + wS n bs m u t
theorem zOj {n t:Nat} {bs bx:List (Int × Int)} {m:MD} {u pt:List Int} (T:y6 n bs m) (lu:u.length=n) (TP:ui n (zl n m t u) bx pt):zQ u (wj n m (xA pt) (yH n bs m u t))=uk n bs bx m u t:=by
 rw [J8 T lu t (by rw [List.length_map]; exact TP.1)]
 unfold wl uk
 rw [qA,TP.2.2.2]
theorem zOf {n t:Nat} {bs bx:List (Int × Int)} {m:MD} {u:List Int} {x:List Rat} (T:y6 n bs m) (I:Y2 bx x):wl n bs m u t x<=uk n bs bx m u t:=by
 unfold wl uk
 have h:=zNf (p:=((m.div ^ t:Int):Rat)) (J7 (c:=zl n m t u) I) (by exact_mod_cast pow_pos T.mo.div t)
 grind
theorem zRQ {x y:Rat} (h:x<=y):x.num * (y.den:Int)<=y.num * (x.den:Int):=by
 have d:(0:Rat)<=(x.den:Rat) * (y.den:Rat):=Rat.mul_nonneg (by exact_mod_cast Nat.zero_le _) (by exact_mod_cast Nat.zero_le _)
 have h2:=Rat.mul_le_mul_of_nonneg_right h d
 have e1:(((y.den:Nat):Int):Rat)=(y.den:Rat):=rfl
 have e2:(((x.den:Nat):Int):Rat)=(x.den:Rat):=rfl
 have key:((x.num * (y.den:Int):Int):Rat)<=((y.num * (x.den:Int):Int):Rat):=by
  rw [Rat.intCast_mul,Rat.intCast_mul,YX x,YX y,e1,e2]
  grind
 exact_mod_cast key
theorem zKh {n:Nat} {bs:List (Int × Int)} {m:MD} {u:List Int}:∀ k,∀ w∈yH n bs m u k,jf bs w
 | 0,_,hw=>nomatch hw
 | k + 1,w,hw=>(List.mem_cons.mp hw).elim (λe=>by
  subst e
  have lp:(zi bs m (zl n m k u)).length=bs.length:=by unfold zi; rw [List.length_map,List.length_range]
  refine ⟨by unfold xB; rw [List.length_map,List.length_zip,lp,Nat.min_self],λi hi=>?_⟩
  have e2:(xB bs m (zl n m k u)).getD i 0=if 0 < (zi bs m (zl n m k u))[i]'(by omega) then bs[i].2 else bs[i].1:=by
   rw [List.getD_eq_getElem?_getD,List.getElem?_eq_getElem (by unfold xB; rw [List.length_map,List.length_zip,lp,Nat.min_self]; exact hi)]
   simp [xB,xZ]
  rw [e2]
  split
  ·exact .inr rfl
  ·exact .inl rfl) λe=>zKh k w e
theorem zNM {n:Nat} {bx:List (Int × Int)} {T:List Br} {us pt:List Int} (G:Gd n T) (B:qB n T bx) (TP:ui n us bx pt):(T.map (rI n)).all (hQ (xA pt))=true:=by
 refine List.all_eq_true.mpr λr hr=>?_
 obtain ⟨b,hb,rfl⟩:=List.mem_map.mp hr
 obtain ⟨h1,h2,_⟩:=G.ok b hb
 have lx:(xA pt).length=n:=by rw [List.length_map]; exact TP.1
 unfold hQ
 rw [lx,decide_eq_true_iff]
 show zQ ((zc n b.1 b.2.1 (b.2.1 * b.2.2)).take n) (xA pt)<=(((zc n b.1 b.2.1 (b.2.1 * b.2.2)).getD n 0:Int):Rat)
 have e1:(zc n b.1 b.2.1 (b.2.1 * b.2.2)).take n=yE (b.1:Int) n b.2.1:=by
  unfold zc
  rw [List.take_append_of_le_length (by rw [xz]; omega),List.take_of_length_le (by rw [xz]; omega)]
 have e2:(zc n b.1 b.2.1 (b.2.1 * b.2.2)).getD n 0=b.2.1 * b.2.2:=by
  unfold zc
  rw [List.getD_eq_getElem?_getD,List.getElem?_append_right (by rw [xz]; omega),xz,Nat.sub_self]
  rfl
 rw [e1,e2,qA,Je h1 TP.1]
 have k:=TP.2.1 b.1 h1
 rcases h2 with z | z
 ·rw [B.up b hb z,z]
  exact_mod_cast (show 1 * pt.getD b.1 0<=1 * (bx.getD b.1 (0,0)).2 by omega)
 ·rw [B.dn b hb z,z]
  exact_mod_cast (show -1 * pt.getD b.1 0<=-1 * (bx.getD b.1 (0,0)).1 by omega)
theorem zOX {p k:Nat} {us:List Rat} {m:MD} {bs:List (Int × Int)} {n:Nat} (T:y6 n bs m) (l:us.length=p) (hp:p<=6) (h:∀ x∈us,xu 12 120 x) (k20:k<=20):yz p us (12 * m.div.toNat ^ k) (130 + 30 * k) (4 + 3 * k + 1):=by
 have d1:=T.mo.div
 have bp:Bd (1 + 3 * k) ((m.div.toNat ^ k:Nat):Int):=by rw [<- J9 d1]; exact g6 T.dv k
 refine ⟨l,hp,Nat.mul_pos (by decide) (Nat.pow_pos (by omega)),?_,by omega,by omega,λx hx=>vE (zQS (h x hx) bp) (by omega)⟩
 rw [Int.natCast_mul]
 exact ((show Bd 4 ((12:Nat):Int) from Bd.lit).mul bp).mono (by omega)
theorem zP1 {n k:Nat} {bs:List (Int × Int)} {m:MD} {xs us:List Rat} (T:y6 n bs m) (k20:k<=20) (X:yz n xs (12 * m.div.toNat ^ k) (130 + 30 * k) (4 + 3 * k + 1)) (Y:yz bs.length us (12 * m.div.toNat ^ k) (130 + 30 * k) (4 + 3 * k + 1)):yz n (yL m n xs us) (12 * m.div.toNat ^ (k + 1)) (130 + 30 * (k + 1)) (4 + 3 * (k + 1) + 1):=by
 have d1:=T.mo.div
 have h:=Jo (P:=m.div.toNat) T X Y (by omega) (by omega) (by omega) (by omega)
 rw [Nat.mul_assoc,<- Nat.pow_succ] at h
 exact ⟨h.len,h.n3,h.Q0,h.bQ.mono (by omega),by omega,by omega,λx hx=>vE (h.sz x hx) (by omega)⟩
theorem zOv {n:Nat} {bx:List (Int × Int)} {T:List Br} (G:Gd n T) (B:qB n T bx) (O:Bo n bx):∀ r∈T.map (rI n),r.length=n + 1/\∀ w∈r,Bd 300 w:=λr hr=>by
 obtain ⟨b,hb,rfl⟩:=List.mem_map.mp hr
 obtain ⟨h1,h2,_⟩:=G.ok b hb
 refine ⟨vz ..,λw hw=>?_⟩
 have bv:Bd 105 b.2.2:=by
  rcases h2 with z | z
  ·rw [B.up b hb z]
   exact (O.at h1).2.2
  ·rw [B.dn b hb z]
   exact (O.at h1).2.1
 rcases List.mem_append.mp (show w∈yE (b.1:Int) n b.2.1++[b.2.1 * b.2.2] from hw) with hw | hw
 ·exact j8 (vF h2 (by decide)) w hw
 ·rw [List.mem_singleton.mp hw]
  exact ((vF (e:=1) h2 (by decide)).mul bv).mono
def jg:FL:=λds R=>∃ ns,ds=[.scr ns]/\R (.bool true)
section
variable {P:Program} {w:World} {K:PySem.W.Frag} {mg:Str->Option Value} {base:Heap}
abbrev QH:Stmt:=zf 9
theorem zIJ:zX ["thing"] ["thing"] (zN QH):=.a
abbrev QI:Stmt:=zf 16
theorem zD0:zX ["value","count"] ["value","count"] (zN QI):=.a
abbrev QJ:Stmt:=zf 17
theorem zFL:zX ["value","tall","wide"] ["value","tall","wide"] (zN QJ):=.a
abbrev QK:Stmt:=zf 18
theorem QL:zX ["value","depth"] ["value","depth"] (zN QK):=.a
abbrev QM:Stmt:=zf 19
theorem zKZ:zX ["place","wide","number"] ["place","wide","number"] (zN QM):=.a
abbrev QN:Stmt:=zf 20
theorem zHa:zX ["numbers","others"] ["numbers","others"] (zN QN):=.a
abbrev QO:Stmt:=zf 21
theorem zFN:zX ["numbers","lists","wide"] ["numbers","lists","wide"] (zN QO):=.a
abbrev QP:Stmt:=zf 23
theorem zHd:zX ["value","many"] ["value","many"] (zN QP):=.a
abbrev QQ:Stmt:=zf 24
theorem zGT:zX ["value","many"] ["value","many"] (zN QQ):=.a
abbrev QR:Stmt:=zf 25
theorem zKa:zX ["place","many","number","bound"] ["place","many","number","bound"] (zN QR):=.a
abbrev QS:Stmt:=gR (zf 64) 0
theorem zE4:zX ["self","rows","nexts","steer","push","add","divisor"] ["self","rows","nexts","steer","push","add","divisor"] (zN QS):=.a
abbrev QT:Stmt:=zf 67
theorem zJo:zX ["value"] ["value"] (zN QT):=.a
abbrev QU:Stmt:=zf 68
theorem zJp:zX ["value","many","wide"] ["value","many","wide"] (zN QU):=.a
abbrev QV:Stmt:=zf 66
theorem QW:zX ["many","pushes","modes"] ["many","pushes","modes"] (zN QV):=.a
abbrev QX:Stmt:=gR (zf 65) 0
theorem zES:zX ["self","many","pushes","modes"] ["self","many","pushes","modes"] (zN QX):=.a
abbrev QY:Stmt:=gR (zf 65) 1
theorem zFO:zX ["self"] ["self"] (zN QY):=.a
abbrev QZ:Stmt:=gR (zf 65) 2
theorem zGD:zX ["self"] ["self"] (zN QZ):=.a
abbrev Qa:Stmt:=zf 69
theorem zDD:zX ["mode"] ["mode"] (zN Qa):=.a
abbrev Qb:Stmt:=gR (zf 65) 3
theorem zCS:zX ["self"] ["self"] (zN Qb):=.a
abbrev Wc:Stmt:=zf 70
theorem zD2:zX ["thing"] ["thing"] (zN Wc):=.a
abbrev Qc:Stmt:=zf 51
theorem Qd:zX ["thing","mode","row","numbers","ahead"] ["thing","mode","row"] (zN Qc):=.a
abbrev Qe:Stmt:=zf 10
theorem gH:zX ["numbers","common","number","rest","left"] ["numbers"] (zN Qe):=.a
abbrev Qf:Stmt:=zf 11
theorem Qg:zX ["top","bottom","common"] ["top","bottom"] (zN Qf):=.a
abbrev Qh:Stmt:=zf 12
theorem zMh:zX ["one","other"] ["one","other"] (zN Qh):=.a
abbrev Qi:Stmt:=zf 13
theorem zMg:zX ["one","other"] ["one","other"] (zN Qi):=.a
abbrev Qj:Stmt:=zf 14
theorem zMf:zX ["one","other"] ["one","other"] (zN Qj):=.a
abbrev Qk:Stmt:=zf 26
theorem gJ:zX ["numbers","point","top","bottom","number","part"] ["numbers","point"] (zN Qk):=.a
abbrev Ql:Stmt:=zf 27
theorem zI8:zX ["row","point","total"] ["row","point"] (zN Ql):=.a
abbrev Qm:Stmt:=zf 28
theorem zDb:zX ["numbers","point","add","divisor","total"] ["numbers","point","add","divisor"] (zN Qm):=.a
abbrev Qn:Stmt:=zf 29
theorem zI7:zX ["row","point","total"] ["row","point"] (zN Qn):=.a
abbrev Qo:Stmt:=zf 33
theorem zD1:zX ["rows","place","number"] ["rows","place"] (zN Qo):=.a
abbrev Qp:Stmt:=zf 34
theorem zEq:zX ["rows","place","found","told"] ["rows","place","found"] (zN Qp):=.a
abbrev Qq:Stmt:=zf 35
theorem zGU:zX ["row","pivot","place","last"] ["row","pivot","place","last"] (zN Qq):=.a
abbrev Qr:Stmt:=zf 32
theorem ul:zX ["rows","left","last","place","found","pivot"] ["rows"] (zN Qr):=.a
abbrev Qs:Stmt:=zf 39
theorem zKc:zX ["many"] ["many"] (zN Qs):=.a
abbrev Qt:Stmt:=zf 41
theorem zDE:zX ["rows","corner"] ["rows","corner"] (zN Qt):=.a
abbrev Qu:Stmt:=zf 42
theorem zDx:zX ["rows","corner","row"] ["rows","corner","row"] (zN Qu):=.a
abbrev Qv:Stmt:=zf 48
theorem XE:zX ["values","bottom","value"] ["values"] (zN Qv):=.a
abbrev Qw:Stmt:=zf 45
theorem zHe:zX ["corner","place","number"] ["corner","place","number"] (zN Qw):=.a
abbrev Qx:Stmt:=zf 43
theorem Qy:zX ["rows","corner","place","number","equations"] ["rows","corner","place","number"] (zN Qx):=.a
abbrev Qz:Stmt:=zf 44
theorem Q3:zX ["corner","fit","places"] ["corner","fit"] (zN Qz):=.a
abbrev Q4:Stmt:=zf 47
theorem jh:zX ["room","point","way","met","least","number","row","speed","spare"] ["room","point","way"] (zN Q4):=.a
abbrev Q5:Stmt:=zf 49
theorem kA:zX ["count","corner","weights","whole","numbers","number","share"] ["count","corner","weights"] (zN Q5):=.a
abbrev Q6:Stmt:=zf 46
theorem Q7:zX ["room","point","number","row"] ["room","point"] (zN Q6):=.a
abbrev Q8:Stmt:=zf 40
theorem gK:zX ["rows","count","corner","number","weights","place"] ["rows","count"] (zN Q8):=.a
abbrev Q9:Stmt:=zf 38
theorem qD:zX ["rows","count","corner","row","point","weights","place","way","met"] ["rows","count","corner","row"] (zN Q9):=.a
abbrev KA:Stmt:=zf 37
theorem um:zX ["room","row","count","rows","corner","broken","weights","place","turned_about"] ["room","row"] (zN KA):=.a
abbrev KB:Stmt:=zf 52
theorem zDB:zX ["thing","row"] ["thing","row"] (zN KB):=.a
abbrev KC:Stmt:=zf 53
theorem zEP:zX ["thing","row"] ["thing","row"] (zN KC):=.a
abbrev KD:Stmt:=zf 30
theorem zGR:zX ["room","point"] ["room","point"] (zN KD):=.a
abbrev KE:Stmt:=zf 59
theorem zFJ:zX ["push","bound"] ["push","bound"] (zN KE):=.a
abbrev KG:Stmt:=zf 58
theorem zDc:zX ["modes","bounds","point","step"] ["modes","bounds","point","step"] (zN KG):=.a
abbrev KH:Stmt:=zf 56
theorem XF:zX ["mode","place","point","steering","pushes","numbers","values"] ["mode","place","point","steering","pushes"] (zN KH):=.a
abbrev KI:Stmt:=zf 55
theorem zDC:zX ["mode","point","steering","pushes"] ["mode","point","steering","pushes"] (zN KI):=.a
abbrev KJ:Stmt:=zf 57
theorem kB:zX ["thing","point","run","modes","bounds","points","number","step"] ["thing","point","run"] (zN KJ):=.a
abbrev KL:Stmt:=gR (zf 65) 4
theorem zER:zX ["self"] ["self"] (zN KL):=.a
abbrev We:Stmt:=zf 71
theorem zEs:zX ["thing"] ["thing"] (zN We):=.a
abbrev KM:Stmt:=zf 73
theorem ji:zX ["thing","row","turns","mode","run","turn","ahead","pushes"] ["thing","row","turns"] (zN KM):=.a
abbrev Wf:Stmt:=zf 74
theorem XG:zX ["thing","start","row","turns","pulled","found","points"] ["thing","start","row","turns"] (zN Wf):=.a
abbrev KN:Stmt:=zf 76
theorem zHc:zX ["_law_script","_law_k"] ["_law_script","_law_k"] (zN KN):=.a
abbrev KO:Stmt:=zf 77
theorem qF:zX ["_law_cell","_law_many","_law_found","_law_rest","_law_k","_law_number_here"] ["_law_cell","_law_many"] (zN KO):=.a
abbrev KP:Stmt:=zf 78
theorem zII:zX ["_law_x","_law_far"] ["_law_x","_law_far"] (zN KP):=.a
abbrev KQ:Stmt:=zf 82
theorem XH:zX ["_law_cell","_law_many","_law_unit","_law_xs","_law_box_here","_law_i","_law_low"] ["_law_cell","_law_many","_law_unit"] (zN KQ):=.a
abbrev KR:Stmt:=zf 81
theorem vT:zX ["_law_spec","_law_many","_law_pushes","_law_modes","_law_unit","_law_some","_law_rows_here","_law_nexts","_law_steer","_law_push","_law_add","_law_divisor_here","_law_lists"] ["_law_spec"] (zN KR):=.a
abbrev KS:Stmt:=zf 84
theorem XI:zX ["_law_numbers","_law_box_here","_law_found","_law_number_here","_law_bounds"] ["_law_numbers","_law_box_here"] (zN KS):=.a
abbrev KT:Stmt:=zf 79
theorem v6:zX ["_law_cell","_law_many","_law_wide","_law_unit","_law_split","_law_xs","_law_divisor_here","_law_nexts","_law_push","_law_i","_law_add","_law_rows_here","_law_row"] ["_law_cell","_law_many","_law_wide","_law_unit","_law_split"] (zN KT):=.a
abbrev KU:Stmt:=zf 80
theorem uo:zX ["_law_script","_law_most_modes","_law_first","_law_second","_law_unit","_law_many","_law_pushes","_law_k","_law_x","_law_modes","_law_cell"] ["_law_script","_law_most_modes"] (zN KU):=.a
abbrev KW:Stmt:=zf 85
theorem zEr:zX ["_law_one","_law_other"] ["_law_one","_law_other"] (zN KW):=.a
abbrev KY:Stmt:=zf 86
theorem zFK:zX ["_law_top_here","_law_bottom","_law_share"] ["_law_top_here","_law_bottom"] (zN KY):=.a
abbrev KZ:Stmt:=zf 87
theorem zKb:zX ["_law_one","_law_other"] ["_law_one","_law_other"] (zN KZ):=.a
abbrev Ka:Stmt:=zf 88
theorem XJ:zX ["_law_numbers","_law_values","_law_found","_law_number_here","_law_value"] ["_law_numbers","_law_values"] (zN Ka):=.a
abbrev Kb:Stmt:=zf 89
theorem zGS:zX ["_law_row","_law_point_here","_law_value"] ["_law_row","_law_point_here"] (zN Kb):=.a
abbrev Kc:Stmt:=zf 90
theorem zHb:zX ["_law_room","_law_point_here"] ["_law_room","_law_point_here"] (zN Kc):=.a
abbrev Ke:Stmt:=zf 91
theorem qG:zX ["_law_cell","_law_box_here","_law_xs","_law_parts","_law_point_here","_law_k","_law_low","_law_high","_law_share"] ["_law_cell","_law_box_here"] (zN Ke):=.a
abbrev Kf:Stmt:=zf 92
theorem uq:zX ["_law_mode_here","_law_point_here","_law_steering","_law_pushes","_law_rows_here","_law_nexts","_law_steer","_law_push","_law_add","_law_divisor_here","_law_found","_law_i","_law_value"] ["_law_mode_here","_law_point_here","_law_steering","_law_pushes"] (zN Kf):=.a
abbrev Kg:Stmt:=zf 93
theorem wr:zX ["_law_spec","_law_numbers","_law_turns","_law_rows_here","_law_nexts","_law_steer","_law_push","_law_add","_law_divisor_here","_law_scale","_law_more","_law_turn","_law_pushed","_law_gain"] ["_law_spec","_law_numbers","_law_turns"] (zN Kg):=.a
abbrev Kh:Stmt:=zf 83
theorem kC:zX ["_law_box_here","_law_rows_here","_law_i","_law_ones"] ["_law_box_here"] (zN Kh):=.a
abbrev Ki:Stmt:=zf 96
theorem zJn:zX ["_law_numbers","_law_open_at"] ["_law_numbers","_law_open_at"] (zN Ki):=.a
abbrev Kj:Stmt:=zf 95
theorem kD:zX ["_law_box_here","_law_cell","_law_rows_here","_law_xs","_law_at","_law_far"] ["_law_box_here","_law_cell"] (zN Kj):=.a
abbrev Kk:Stmt:=zf 94
theorem Wg:zX ["_law_spec","_law_point_here","_law_run","_law_step","_law_k"] ["_law_spec","_law_point_here","_law_run"] (zN Kk):=.a
abbrev Kl:Stmt:=zf 97
theorem vU:zX ["_law_spec","_law_cell","_law_row","_law_rows_here","_law_nexts","_law_steer","_law_push","_law_add","_law_divisor_here","_law_modes","_law_due","_law_found","e"] ["_law_spec","_law_cell","_law_row"] (zN Kl):=.a
abbrev kE:Stmt:=zf 98
theorem wU:zX ["_law_script","_law_spec","_law_box_here","_law_start_here","_law_open_at","_law_none","_law_numbers","_law_turns","_law_row","_law_found","_law_ahead","_law_scale","_law_more","_law_end_here","_law_point_here","_law_k","_law_drawn","_law_value"] ["_law_script"] (zN kE):=.a
variable {ag ah:Addr} (aa:xx K mg "Mode" ag) (ac:zOb K ag) (ae:xx K mg "Thing" ah) (af:zMN K ah) {k:Nat} {f:Addr} {fd:FuncData} (B:Bl mg)
include aa ac ae af B
theorem zId (F:zY K "is_whole" "is_whole" QH f fd):zF P w K mg base zT (k + 1) f fd ["thing"] (zG (qz)):=by
 refine zj F zIJ λ_ _ _ _ _ _ hr=>⟨_,(zK (zV (vN (yT (wX va rfl B.isinstance_ ww (zz (zA 0) (zz (vV (v:=.ty "int") (u:=.type "int") rfl B.int_ UO rfl) yf))) (vh zRa)) (uG (Um (yT (wX va rfl B.isinstance_ ww (zz (zA 0) (zz (vV (v:=.ty "bool") (u:=.type "bool") rfl B.bool_ zKH rfl) yf))) (vh zNT))))))),λds R h=>?_⟩
 obtain ⟨d,rfl,o,q⟩:=h
 refine ⟨o,λc=>⟨o,bR q ?_⟩,λc=>bR q ?_⟩
 ·unfold j7; rw [c]; rfl
 ·unfold j7; rw [c]; rfl
theorem zG6 (F:zY K "is_numbers" "is_numbers" QI f fd) (aj:Fn P w K mg base "is_whole" ["thing"] k (zG (qz))):zF P w K mg base zT (k + 1) f fd ["value","count"] (zG (JM)):=by
 refine zj F zD0 λ_ _ _ _ _ _ hr=>⟨_,(zK (zV (vN (yT (wX va rfl B.isinstance_ ww (zz (zA 0) (zz (vV (v:=.ty "list") (u:=.type "list") rfl B.list_ wB rfl) yf))) (vh qm)) (vN (ua hr.units (yB yk yo rfl B.len_ ym (zB (zA 0) zC)) (zA 1)) (uG (yB (uT rfl) ub rfl B.all_ uU (zB (yh (own:=["number"]) (caps:=[]) (yM zD0) rfl rfl yX (xR (zA 0)) (λ_ _ _ _=>(zx 0 (zy ["number"]))) (λ_ _ _ _=>(zL aj hr rfl (zB (zA 0) zC)))) zC))))))),λds R h=>?_⟩
 obtain ⟨d,n,k,rfl,f,q⟩:=h
 refine ⟨f.no,λc=>?_,λc=>bR q ?_⟩
 ·obtain ⟨es,rfl,le,j,rfl,hj⟩:=f.lst_inv c
  refine ⟨λc2=>?_,λc2=>bR q ?_⟩
  ·refine zq.bool j7 (by omega) (λd m=>⟨d,rfl,(hj d m).no,rfl⟩) ⟨_,rfl,bR q ?_⟩
   show (decide _ && _)=_
   rw [c2,gk]
   rfl
  ·show (decide _ && _)=_
   rw [c2]
   rfl
 ·cases d <;> first | rfl | cases c
theorem zIe (F:zY K "is_table" "is_table" QJ f fd) (aD:Fn P w K mg base "is_numbers" ["value","count"] k (zG (JM))):zF P w K mg base zT (k + 1) f fd ["value","tall","wide"] (zG (YK)):=by
 refine zj F zFL λ_ _ _ _ _ _ hr=>⟨_,(zK (zV (vN (yT (wX va rfl B.isinstance_ ww (zz (zA 0) (zz (vV (v:=.ty "list") (u:=.type "list") rfl B.list_ wB rfl) yf))) (vh qm)) (vN (ua hr.units (yB yk yo rfl B.len_ ym (zB (zA 0) zC)) (zA 1)) (uG (yB (uT rfl) ub rfl B.all_ uU (zB (yh (own:=["part"]) (caps:=[(2,"wide")]) (yM zFL) rfl rfl yX (xR (zA 0)) (λ_ _ _ _=>(zx 0 (zy ["part","wide"]))) (λ_ _ _ _=>(zL aD hr rfl (zB (zA 0) (zB (zA 1) zC))))) zC))))))),λds R h=>?_⟩
 obtain ⟨d,h,w,k,rfl,f,q⟩:=h
 refine ⟨f.no,λc=>?_,λc=>bR q ?_⟩
 ·obtain ⟨es,rfl,le,j,rfl,hj⟩:=f.lst_inv c
  refine ⟨λc2=>?_,λc2=>bR q ?_⟩
  ·refine zq.bool (WD w) (by omega) (λd m=>⟨d,w,j,rfl,hj d m,rfl⟩) ⟨_,rfl,bR q ?_⟩
   show (decide _ && _)=_
   rw [c2,gk]
   rfl
  ·show (decide _ && _)=_
   rw [c2]
   rfl
 ·cases d <;> first | rfl | cases c
theorem XM {dv:Value} {j:Nat} (F:xT K "copied" "copied" QK f fd dv) (ao:wO P w K mg base "copied" ["value","depth"] k (zG (YM j)) (.int 5)):zF P w K mg base zT (k + 1) f fd ["value","depth"] (zG (YM (j + 1))):=by
 refine qy F QL λ_ _ _ _ _ _ hr=>⟨_,(zJ (yG (uw hr.units (zA 1) zD) (zK (zV (zA 0))) yF)
  (zJ (yG (yx (yT (wX va rfl B.isinstance_ ww (zz (zA 0) (zz (vV (v:=.ty "list") (u:=.type "list") rfl B.list_ wB rfl) yf))) (vh qm))) (zK (zV (yh (own:=["part"]) (caps:=[(1,"depth")]) (yM QL) rfl rfl yX (xR (zA 0)) (λ_ _ _ _=>(zx 0 (zy ["part","depth"]))) (λ_ _ _ _=>(zL ao.fn hr rfl (zB (zA 0) (zB (wo (zA 1) zD) zC))))))) yF)
  (zJ (yG (yx (yT (wX va rfl B.isinstance_ ww (zz (zA 0) (zz (vV (v:=.ty "tuple") (u:=.type "tuple") rfl B.tuple_ vb rfl) yf))) (vh Z9))) (zK (zV (xo jD jL rfl B.tuple_ vb (zB (yh (own:=["part"]) (caps:=[(1,"depth")]) (yM QL) rfl rfl yX (xR (zA 0)) (λ_ _ _ _=>(zx 0 (zy ["part","depth"]))) (λ_ _ _ _=>(zL ao.fn hr rfl (zB (zA 0) (zB (wo (zA 1) zD) zC))))) zC)))) yF)
  (zK (zV (zA 0)))))),λds R h=>?_⟩
 obtain ⟨d,n,rfl,f,q⟩:=h
 refine ⟨λc=>q,λc=>?_⟩
 refine ⟨f.no,λc=>?_,λc=>?_⟩
 ·obtain ⟨es,rfl,le,i,e1,hj⟩:=f.lst_inv c
  cases e1
  refine zq.map id (by omega) (λd m=>⟨d,_,rfl,hj d m,rfl⟩) ?_
  rw [List.map_id]
  exact q
 refine ⟨f.no,λc=>?_,λc=>q⟩
 obtain ⟨es,rfl,le,i,e1,hj⟩:=f.tup_inv c
 cases e1
 refine zq.map id (by omega) (λd m=>⟨d,_,rfl,hj d m,rfl⟩) ?_
 rw [List.map_id]
 exact q
theorem zPT {dv:Value} (F:xT K "unit" "unit" QM f fd dv):zF P w K mg base zT (k + 1) f fd ["place","wide","number"] (zG (zRi)):=by
 refine qy F zKZ λ_ _ _ _ _ _ hr=>⟨_,(zK (zV (yh (own:=["other"]) (caps:=[(0,"place"),(2,"number")]) (yM zKZ) rfl rfl yX (xF rfl B.range_ (zB (zA 1) zC)) (λ_ _ _ _=>(zx 0 (zy ["other","place","number"]))) (λ_ _ _ _=>(Zd (uw hr.units (zA 0) (zA 1)) (zA 2) zD))))),λds R h=>?_⟩
 obtain ⟨p,w,n,rfl,w0,w1,q⟩:=h
 refine ⟨by omega,by omega,zq.rng0 (λi=>.int (if (i:Int)=p then n else 0)) (by omega) (λk hk=>?_) ?_⟩
 ·refine ⟨λc=>?_,λc=>?_⟩
  ·show D.int n=_
   rw [if_pos (of_decide_eq_true c)]
  ·show D.int 0=_
   rw [if_neg (of_decide_eq_false c)]
 ·unfold yE L at q
  rw [List.map_map] at q
  exact q
theorem zLJ (F:zY K "paired" "paired" QN f fd):zF P w K mg base zT (k + 1) f fd ["numbers","others"] (zG (WE)):=by
 refine zj F zHa λ_ _ _ _ _ _ hr=>⟨_,(zK (zV (yB (ZC rfl) Zl rfl B.sum_ ZB (zB (yh (own:=["number","other"]) (caps:=[]) (yM zHa) rfl rfl (jM (wq (wq jN))) (ud rfl B.zip_ (zB (zA 0) (zB (zA 1) zC))) (λ_ _ _ _=>(xr rfl (zp 0 (zy ["number","other"]) (zp 1 (zy ["number","other"]) xq)))) (λ_ _ _ _=>(yA (zA 0) (zA 1)))) zC)))),λds R h=>?_⟩
 obtain ⟨d,e,ns,os,rfl,h,k,l,bn,bo,q⟩:=h
 refine h.zip k (zRs (λq=>q.1 * q.2) (by rw [List.length_zip]; omega) (λp hp=>⟨(bn _ (List.of_mem_zip hp).1).mono,(bo _ (List.of_mem_zip hp).2).mono,rfl⟩) ⟨_,rfl,?_⟩)
 rw [zI4]
 exact q
theorem zIh (F:zY K "added_up" "added_up" QO f fd):zF P w K mg base zT (k + 1) f fd ["numbers","lists","wide"] (zG (zOV)):=by
 refine zj F zFN λ_ _ _ _ _ _ hr=>⟨_,(zK (zV (yh (own:=["place"]) (caps:=[(0,"numbers"),(1,"lists")]) (yM zFN) rfl rfl yX (xF rfl B.range_ (zB (zA 2) zC)) (λ_ _ _ _=>(zx 0 (zy ["place","numbers","lists"]))) (λ_ _ _ _=>(yB (ZC rfl) Zl rfl B.sum_ ZB (zB (yh (own:=["number","part"]) (caps:=[(0,"place")]) WC rfl rfl (jM (wq (wq jN))) (ud rfl B.zip_ (zB (zA 1) (zB (zA 2) zC))) (λ_ _ _ _=>(xr rfl (zp 0 (zy ["number","part","place"]) (zp 1 (zy ["number","part","place"]) xq)))) (λ_ _ _ _=>(yA (zA 0) (zH (zA 1) (zA 2))))) zC)))))),λds R h=>?_⟩
 obtain ⟨d,e,ns,ls,w,rfl,h,k,lw,ln,bn,bl,q⟩:=h
 refine ⟨by omega,by omega,?_⟩
 rw [show ((w:Nat):Int).toNat=w by omega]
 refine zq.rng0 (λj=>.int (yD ns ls j)) (by omega) (λj hj=>?_) (by unfold L at q; rw [List.map_map] at q; exact q)
 refine h.zipT k λu hu=>vD (λq=>yt (.int q.1) (u q.2)) v2 (YN hu) (λq=>.int (q.1 * q.2.getD j 0)) (by rw [List.length_zip]; omega) (λq hq=>?_) ⟨(ns.zip ls).map λq=>q.1 * q.2.getD j 0,by rw [List.map_map]; rfl,rfl⟩
 have hb:=bl q.2 (List.of_mem_zip hq).2
 rcases hu with rfl | rfl
 all_goals exact ⟨_,yd (j:=j) (by omega) (by omega),(bn _ (List.of_mem_zip hq).1).mono,(wP hb.2 j).mono,rfl⟩
theorem zLP (F:zY K "is_row" "is_row" QP f fd) (aj:Fn P w K mg base "is_whole" ["thing"] k (zG (qz))):zF P w K mg base zT (k + 1) f fd ["value","many"] (zG (YL)):=by
 refine zj F zHd λ_ _ _ _ _ _ hr=>⟨_,(zK (zV (vN (yT (wX va rfl B.isinstance_ ww (zz (zA 0) (zz (vV (v:=.ty "tuple") (u:=.type "tuple") rfl B.tuple_ vb rfl) yf))) (vh Z9)) (vN (ua hr.units (yB yk yo rfl B.len_ ym (zB (zA 0) zC)) (zw (zA 1) zD)) (uG (yB (uT rfl) ub rfl B.all_ uU (zB (yh (own:=["number"]) (caps:=[]) (yM zHd) rfl rfl yX (xR (zA 0)) (λ_ _ _ _=>(zx 0 (zy ["number"]))) (λ_ _ _ _=>(zL aj hr rfl (zB (zA 0) zC)))) zC))))))),λds R h=>?_⟩
 obtain ⟨d,n,k,rfl,f,q⟩:=h
 refine ⟨f.no,λc=>?_,λc=>bR q ?_⟩
 ·obtain ⟨es,rfl,le,j,rfl,hj⟩:=f.tup_inv c
  refine ⟨λc2=>?_,λc2=>bR q ?_⟩
  ·refine zq.bool j7 (by omega) (λd m=>⟨d,rfl,(hj d m).no,rfl⟩) ⟨_,rfl,bR q ?_⟩
   show (decide _ && _)=_
   rw [c2,gk]
   rfl
  ·show (decide _ && _)=_
   rw [c2]
   rfl
 ·cases d <;> first | rfl | cases c
theorem zJ4 (F:zY K "is_room" "is_room" QQ f fd) (aW:Fn P w K mg base "is_row" ["value","many"] k (zG (YL))):zF P w K mg base zT (k + 1) f fd ["value","many"] (zG (zRj)):=by
 refine zj F zGT λ_ _ _ _ _ _ hr=>⟨_,(zK (zV (vN (yT (wX va rfl B.isinstance_ ww (zz (zA 0) (zz (vV (v:=.ty "list") (u:=.type "list") rfl B.list_ wB rfl) yf))) (vh qm)) (uG (yB (uT rfl) ub rfl B.all_ uU (zB (yh (own:=["row"]) (caps:=[(1,"many")]) (yM zGT) rfl rfl yX (xR (zA 0)) (λ_ _ _ _=>(zx 0 (zy ["row","many"]))) (λ_ _ _ _=>(zL aW hr rfl (zB (zA 0) (zB (zA 1) zC))))) zC)))))),λds R h=>?_⟩
 obtain ⟨d,n,k,rfl,f,q⟩:=h
 refine ⟨f.no,λc=>?_,λc=>bR q ?_⟩
 ·obtain ⟨es,rfl,le,j,rfl,hj⟩:=f.lst_inv c
  refine zq.bool (jT n) (by omega) (λd m=>⟨d,n,j,rfl,hj d m,rfl⟩) ⟨_,rfl,bR q ?_⟩
  rw [gk]
  rfl
 ·cases d <;> first | rfl | cases c
theorem zLI (F:zY K "single" "single" QR f fd) (aX:wO P w K mg base "unit" ["place","wide","number"] k (zG (zRi)) (.int 1)):zF P w K mg base zT (k + 1) f fd ["place","many","number","bound"] (zG (zLs)):=by
 refine zj F zKa λ_ _ _ _ _ _ hr=>⟨_,(zK (zV (zw (xo jD jL rfl B.tuple_ vb (zB (zL aX.fn hr rfl (zB (zA 0) (zB (zA 1) (zB (zA 2) zC)))) zC)) (yP (zB (zA 3) zC))))),λds R h=>?_⟩
 obtain ⟨p,w,n,b,rfl,w0,w1,q⟩:=h
 refine ⟨p,w,n,rfl,w0,w1,k0,by rw [List.length_map,xz]; show _ + 1<=1000; omega,?_⟩
 unfold U at q
 rw [List.map_append] at q
 exact q
theorem zE6 (F:zY K "__init__" "Mode.__init__" QS f fd) (ao:wO P w K mg base "copied" ["value","depth"] k (zG (YM 5)) (.int 5)):zF P w K mg base zT (k + 1) f fd ["self","rows","nexts","steer","push","add","divisor"] (ug ag (zOS ag)):=by
 refine okI F zE4 (λds R h=>by obtain ⟨r,n,s,p,a,d,rfl,_⟩:=h; rfl) λcdv A outer s H E hr=>⟨_,(zJ (yb (jC (xU 0) (uJ (.int 5) (λ_=>.int 5) ao hr rfl (zB (zA 1) zC)) rfl) jQ)
  (zJ (yb (jC (xU 0) (uJ (.int 5) (λ_=>.int 5) ao hr rfl (zB (zA 2) zC)) rfl) jQ)
  (zJ (yb (jC (xU 0) (uJ (.int 5) (λ_=>.int 5) ao hr rfl (zB (zA 3) zC)) rfl) jQ)
  (zJ (yb (jC (xU 0) (uJ (.int 5) (λ_=>.int 5) ao hr rfl (zB (zA 4) zC)) rfl) jQ)
  (zJ (yb (jC (xU 0) (uJ (.int 5) (λ_=>.int 5) ao hr rfl (zB (zA 5) zC)) rfl) jQ)
  (zK (yb (jC (xU 0) (zA 6) rfl) jQ))))))),λo ds R h=>?_⟩
 obtain ⟨r,n,s,p,a,d,rfl,f1,f2,f3,f4,f5,q⟩:=h
 refine ⟨r,5,rfl,f1,⟨aa.cl,ac.n_rows⟩,by decide +kernel,by decide,rfl,?_⟩
 refine ⟨n,5,rfl,f2,⟨aa.cl,ac.n_nexts⟩,by decide +kernel,by decide,rfl,?_⟩
 refine ⟨s,5,rfl,f3,⟨aa.cl,ac.n_steer⟩,by decide +kernel,by decide,rfl,?_⟩
 refine ⟨p,5,rfl,f4,⟨aa.cl,ac.n_push⟩,by decide +kernel,by decide,rfl,?_⟩
 refine ⟨a,5,rfl,f5,⟨aa.cl,ac.n_add⟩,by decide +kernel,by decide,rfl,?_⟩
 exact ⟨⟨aa.cl,ac.n_divisor⟩,by decide +kernel,by decide,rfl,rfl,q⟩
theorem zJ5 (F:zY K "is_push" "is_push" QT f fd) (aj:Fn P w K mg base "is_whole" ["thing"] k (zG (qz))):zF P w K mg base zT (k + 1) f fd ["value"] (zG (zLw)):=by
 refine zj F zJo λ_ _ _ _ _ _ hr=>⟨_,(zJ (yG (PW.pt (wD (xa (yx (yT (wX va rfl B.isinstance_ ww (zz (zA 0) (zz (vV (v:=.ty "tuple") (u:=.type "tuple") rfl B.tuple_ vb rfl) yf))) (vh Z9)))) (vB (ve hr.units (yB yk yo rfl B.len_ ym (zB (zA 0) zC)) zD)))) (zK (zV xn)) yF)
  (zK (zV (vN (zL aj hr rfl (zB (zH (zA 0) zD) zC)) (vN (zL aj hr rfl (zB (zH (zA 0) zD) zC)) (uG (Xx (zH (zA 0) zD) (zH (zA 0) zD)))))))),λds R h=>?_⟩
 obtain ⟨b,rfl,h,q⟩:=h
 refine ⟨rfl,wF rfl (wF rfl ?_)⟩
 refine ⟨_,rfl,_,rfl,rfl,wT rfl ?_⟩
 refine ⟨_,rfl,_,rfl,rfl,wT rfl ?_⟩
 exact ⟨_,rfl,_,rfl,bR q (decide_eq_true h).symm⟩
theorem zJ6 (F:zY K "is_mode" "is_mode" QU f fd) (aY:Fn P w K mg base "is_room" ["value","many"] k (zG (zRj))) (aT:Fn P w K mg base "is_table" ["value","tall","wide"] k (zG (YK))) (aD:Fn P w K mg base "is_numbers" ["value","count"] k (zG (JM))) (aj:Fn P w K mg base "is_whole" ["thing"] k (zG (qz))):zF P w K mg base zT (k + 1) f fd ["value","many","wide"] (zG (zLx ag)):=by
 refine zj F zJp λ_ _ _ _ _ _ hr=>⟨_,(zJ (yG (PW.pt (wD (xa (yx (yT (wX zH1 rfl B.isinstance_ ww (zz (zA 0) (zz (zQ2 aa rfl) yf))) zMX))) (vB (xa (yx (zL aY hr rfl (zB (xJ K (zA 0) rfl) (zB (zA 1) zC)))))))) (zK (zV xn)) yF)
  (zJ (yG (PW.pt (wD (xa (yx (zL aT hr rfl (zB (xJ K (zA 0) rfl) (zB (zA 1) (zB (zA 1) zC)))))) (vB (xa (yx (zL aT hr rfl (zB (xJ K (zA 0) rfl) (zB (zA 1) (zB (zA 2) zC))))))))) (zK (zV xn)) yF)
  (zJ (yG (PW.pt (wD (xa (yx (zL aD hr rfl (zB (xJ K (zA 0) rfl) (zB (zA 1) zC))))) (vB (xa (yx (zL aD hr rfl (zB (xJ K (zA 0) rfl) (zB (zA 1) zC)))))))) (zK (zV xn)) yF)
  (zK (zV (vN (zL aj hr rfl (zB (xJ K (zA 0) rfl) zC)) (uG (Ui (xJ K (zA 0) rfl) zD)))))))),λds R h=>?_⟩
 obtain ⟨m,n,p,rfl,h,q⟩:=h
 have n3:=h.n3
 have p6:=h.p6
 refine ⟨⟨_,_,aa⟩,_,zNQ,wF rfl ?_⟩
 refine ⟨⟨aa.cl,ac.n_rows⟩,_,rfl,_,_,3,rfl,zRf h.few (λr hr=>by rw [h.rows r hr]; omega),wF (by rw [zOx λr hr=>by rw [h.rows r hr]; rfl]; rfl) ?_⟩
 refine ⟨⟨aa.cl,ac.n_nexts⟩,_,rfl,_,_,_,3,rfl,WF (by rw [h.nexts.1]; omega) (λr hr=>by rw [h.nexts.2 r hr]; omega),wF (by rw [zNu (by rw [h.nexts.1]) (λr hr=>by rw [h.nexts.2 r hr])]; rfl) ?_⟩
 refine ⟨⟨aa.cl,ac.n_push⟩,_,rfl,_,_,_,3,rfl,WF (by rw [h.push.1]; omega) (λr hr=>by rw [h.push.2 r hr]; omega),wF (by rw [zNu (by rw [h.push.1]) (λr hr=>by rw [h.push.2 r hr])]; rfl) ?_⟩
 refine ⟨⟨aa.cl,ac.n_steer⟩,_,rfl,_,_,2,rfl,uh (by rw [h.steer]; omega),wF (by rw [JQ (by rw [h.steer])]; rfl) ?_⟩
 refine ⟨⟨aa.cl,ac.n_add⟩,_,rfl,_,_,2,rfl,uh (by rw [h.add]; omega),wF (by rw [JQ (by rw [h.add])]; rfl) ?_⟩
 refine ⟨⟨aa.cl,ac.n_divisor⟩,_,rfl,_,rfl,rfl,wT rfl ?_⟩
 exact ⟨⟨aa.cl,ac.n_divisor⟩,_,rfl,bR q (decide_eq_true h.div).symm⟩
theorem zIf (F:zY K "is_sound" "is_sound" QV f fd) (aj:Fn P w K mg base "is_whole" ["thing"] k (zG (qz))) (aZ:Fn P w K mg base "is_push" ["value"] k (zG (zLw))) (be:Fn P w K mg base "is_mode" ["value","many","wide"] k (zG (zLx ag))):zF P w K mg base zT (k + 1) f fd ["many","pushes","modes"] (zG (zJR ag)):=by
 refine zj F QW λ_ _ _ _ _ _ hr=>⟨_,(zJ (yG (PW.pt (wD (xa (yx (zL aj hr rfl (zB (zA 0) zC)))) (wD (gh (zA 0) zD) (vB (qh (zA 0) (Uf rfl B.MOST_NUMBERS_)))))) (zK (zV xn)) yF)
  (zJ (yG (PW.pt (wD (xa (yx (yT (wX va rfl B.isinstance_ ww (zz (zA 1) (zz (vV (v:=.ty "list") (u:=.type "list") rfl B.list_ wB rfl) yf))) (vh qm)))) (vB (xa (yx (yB (uT rfl) ub rfl B.all_ uU (zB (yh (own:=["push"]) (caps:=[]) (yM QW) rfl rfl yX (xR (zA 1)) (λ_ _ _ _=>(zx 0 (zy ["push"]))) (λ_ _ _ _=>(zL aZ hr rfl (zB (zA 0) zC)))) zC))))))) (zK (zV xn)) yF)
  (zJ (yG (PW.pt (wD (xa (yx (yT (wX va rfl B.isinstance_ ww (zz (zA 2) (zz (vV (v:=.ty "list") (u:=.type "list") rfl B.list_ wB rfl) yf))) (vh qm)))) (vB (uw hr.units (yB yk yo rfl B.len_ ym (zB (zA 2) zC)) zD)))) (zK (zV xn)) yF)
  (zK (zV (yB (uT rfl) ub rfl B.all_ uU (zB (yh (own:=["mode"]) (caps:=[(0,"many"),(1,"pushes")]) (yM QW) rfl rfl yX (xR (zA 2)) (λ_ _ _ _=>(zx 0 (zy ["mode","many","pushes"]))) (λ_ _ _ _=>(zL be hr rfl (zB (zA 0) (zB (zA 1) (zB (yB yk yo rfl B.len_ ym (zB (zA 2) zC)) zC)))))) zC))))))),λds R h=>?_⟩
 obtain ⟨n,bs,ms,rfl,h,q⟩:=h
 have n1:=h.n1
 have n3:=h.n3
 have m40:=h.m40
 have m1:=h.m1
 have b6:=h.b6
 refine ⟨_,rfl,rfl,wF rfl (wF (decide_eq_false (by omega)) (wF (decide_eq_false (by omega)) ?_))⟩
 refine ⟨rfl,wF rfl ?_⟩
 refine vD yC JU (λ_=>rfl) (λ_=>.bool true) (by omega) (λb hb=>⟨b,rfl,h.bok b hb,rfl⟩) ⟨bs.map λ_=>true,by rw [List.map_map]; rfl,?_⟩
 rw [show (bs.map λ_=>true).all id=true from List.all_eq_true.mpr λx hx=>by obtain ⟨_,_,rfl⟩:=List.mem_map.mp hx; rfl]
 refine wF rfl ?_
 refine ⟨rfl,wF rfl (wF (decide_eq_false (by rw [List.length_map]; omega)) ?_)⟩
 refine vD (wg ag) xy (zKM _) (λ_=>.bool true) (by omega) (λm hm=>⟨m,n,bs.length,by rw [List.length_map],h.mok m hm,rfl⟩) ⟨ms.map λ_=>true,by rw [List.map_map]; rfl,bR q ?_⟩
 exact (List.all_eq_true.mpr λx hx=>by obtain ⟨_,_,rfl⟩:=List.mem_map.mp hx; rfl).symm
theorem zEg (F:zY K "__init__" "Thing.__init__" QX f fd) (bh:Fn P w K mg base "is_sound" ["many","pushes","modes"] k (zG (zJR ag))):zF P w K mg base zT (k + 1) f fd ["self","many","pushes","modes"] (ug ah (zLr ah ag)):=by
 refine okI F zES (λds R h=>by obtain ⟨n,bs,ms,rfl,_⟩:=h; rfl) λcdv A outer s H E hr=>⟨_,(zJ (yG (xa (yx (zL bh hr rfl (zB (zA 1) (zB (zA 2) (zB (zA 3) zC)))))) (zK ql) yF)
  (zJ (yG (PW.pt (wD (qh (yB yk yo rfl B.len_ ym (zB (zA 2) zC)) (Uf rfl B.MOST_PUSHES_)) (vB (qh (yB yk yo rfl B.len_ ym (zB (zA 3) zC)) (Uf rfl B.MOST_MODES_))))) (zK ql) yF)
  (zJ (yb (jC (xU 0) (zA 1) rfl) jQ)
  (zJ (yb (jC (xU 0) (xo vX vv rfl B.list_ wB (zB (zA 2) zC)) rfl) jQ)
  (zK (yb (jC (xU 0) (xo vX vv rfl B.list_ wB (zB (zA 3) zC)) rfl) jQ)))))),λo ds R h=>?_⟩
 obtain ⟨n,bs,ms,rfl,h,q⟩:=h
 have m40:=h.m40
 have b6:=h.b6
 refine ⟨n,bs,ms,rfl,h,wF rfl ?_⟩
 refine wF (decide_eq_false (by rw [List.length_map]; omega)) (wF (decide_eq_false (by rw [List.length_map]; omega)) ?_)
 refine ⟨⟨ae.cl,af.n_many⟩,by decide +kernel,by decide,rfl,?_⟩
 refine ⟨⟨ae.cl,af.n_kept_pushes⟩,by decide +kernel,by decide,rfl,?_⟩
 exact ⟨⟨ae.cl,af.n_kept_modes⟩,by decide +kernel,by decide,rfl,rfl,q⟩
theorem zFq (F:zY K "pushes" "Thing.pushes" QY f fd):zF P w K mg base zT (k + 1) f fd ["self"] (zG (WG ah ag)):=by
 refine zj F zFO λ_ _ _ _ _ _ hr=>⟨_,(zK (zV (xo vX vv rfl B.list_ wB (zB (xJ K (zA 0) rfl) zC)))),λds R h=>?_⟩
 obtain ⟨n,bs,ms,rfl,q⟩:=h
 exact ⟨⟨ae.cl,af.n_kept_pushes⟩,_,rfl,q⟩
theorem zGJ (F:zY K "modes" "Thing.modes" QZ f fd):zF P w K mg base zT (k + 1) f fd ["self"] (zG (JR ah ag)):=by
 refine zj F zGD λ_ _ _ _ _ _ hr=>⟨_,(zK (zV (xo vX vv rfl B.list_ wB (zB (xJ K (zA 0) rfl) zC)))),λds R h=>?_⟩
 obtain ⟨n,bs,ms,rfl,q⟩:=h
 exact ⟨⟨ae.cl,af.n_kept_modes⟩,_,rfl,q⟩
theorem zFm (F:zY K "is_unsteered" "is_unsteered" Qa f fd):zF P w K mg base zT (k + 1) f fd ["mode"] (zG (zGe ag)):=by
 refine zj F zDD λ_ _ _ _ _ _ hr=>⟨_,(zK (zV (yB (uT rfl) ub rfl B.all_ uU (zB (yh (own:=["number"]) (caps:=[]) (yM zDD) rfl rfl yX (xR (xJ K (zA 0) rfl)) (λ_ _ _ _=>(zx 0 (zy ["number"]))) (λ_ _ _ _=>(ua hr.units (zA 0) zD))) zC)))),λds R h=>?_⟩
 obtain ⟨m,rfl,h,q⟩:=h
 refine ⟨⟨aa.cl,ac.n_steer⟩,_,rfl,?_⟩
 refine YO (λx=>decide (x=0)) (by omega) (λn hn=>rfl) ⟨_,rfl,bR q ?_⟩
 rw [gk]
theorem zEB (F:zY K "is_closed" "Thing.is_closed" Qb f fd) (bi:Fn P w K mg base "is_unsteered" ["mode"] k (zG (zGe ag))):zF P w K mg base zT (k + 1) f fd ["self"] (zG (JS ah ag)):=by
 refine zj F zCS λ_ _ _ _ _ _ hr=>⟨_,(zK (zV (yB (uT rfl) ub rfl B.all_ uU (zB (yh (own:=["mode"]) (caps:=[]) (yM zCS) rfl rfl yX (xR (xJ K (zA 0) rfl)) (λ_ _ _ _=>(zx 0 (zy ["mode"]))) (λ_ _ _ _=>(zL bi hr rfl (zB (zA 0) zC)))) zC)))),λds R h=>?_⟩
 obtain ⟨n,bs,ms,rfl,h,q⟩:=h
 refine ⟨⟨ae.cl,af.n_kept_modes⟩,_,rfl,?_⟩
 have m40:=h.m40
 refine vD (wg ag) xy (zKM _) (λm=>.bool (m.steer.all λx=>decide (x=0))) (by omega) (λm hm=>⟨m,rfl,by have:=(h.mok m hm).steer; have:=h.n3; omega,rfl⟩) ⟨ms.map λm=>m.steer.all λx=>decide (x=0),by rw [List.map_map]; rfl,bR q ?_⟩
 rw [gk]
 rfl
theorem zG8 (F:zY K "ask_closed" "ask_closed" Wc f fd) (aF:vL P w K mg base ah "is_closed" ["self"] k (zG (JS ah ag))):zF P w K mg base zT (k + 1) f fd ["thing"] (zG (JT ah ag)):=by
 refine zj F zD2 λ_ _ _ _ _ _ hr=>⟨_,(zK (yG (xa (yx (jR aF ae hr (zA 0)))) (zK ql) yF)),λds R h=>?_⟩
 obtain ⟨n,bs,ms,rfl,h,c,q⟩:=h
 exact ⟨rfl,by decide +kernel,n,bs,ms,rfl,h,wF (by rw [c]; rfl) q⟩
theorem zM8 (F:zY K "reach" "reach" Qc f fd) (aU:Fn P w K mg base "added_up" ["numbers","lists","wide"] k (zG (zOV))) (ar:vL P w K mg base ah "pushes" ["self"] k (zG (WG ah ag))) (au:Fn P w K mg base "paired" ["numbers","others"] k (zG (WE))):zF P w K mg base zT (k + 1) f fd ["thing","mode","row"] (zG (zOQ ah ag)):=by
 refine zj F Qd λ_ _ _ _ _ _ hr=>⟨_,(zJ (zS 3 Qd.nd (wz (zA 2) vO (we (x9 zD))))
  (zJ (zS 4 Qd.nd (zw (zL aU hr rfl (zB (zA 3) (zB (xJ K (zA 1) rfl) (zB (xJ K (zA 0) rfl) zC)))) (zL aU hr rfl (zB (zA 3) (zB (xJ K (zA 1) rfl) (zB (yB yk yo rfl B.len_ ym (zB (jR ar ae hr (zA 0)) zC)) zC))))))
  (zK (zV (zw (xo jD jL rfl B.tuple_ vb (zB (zA 4) zC)) (yP (zB (wo (yA (xJ K (zA 1) rfl) (zH (zA 2) (x9 zD))) (zL au hr rfl (zB (zA 3) (zB (xJ K (zA 1) rfl) zC)))) zC))))))),λds R h=>?_⟩
 obtain ⟨n,bs,ms,m,r,rfl,n3,b6,MO,MB,lr,br,q⟩:=h
 have lt:(r.take n).length=n:=by rw [List.length_take]; omega
 have bt:∀ x∈r.take n,Bd 9000 x:=λx hx=>br x (List.mem_of_mem_take hx)
 have hp:(List.map yC bs).length=bs.length:=List.length_map ..
 refine ⟨⟨aa.cl,ac.n_nexts⟩,_,rfl,⟨ae.cl,af.n_many⟩,_,rfl,_,_,r.take n,m.nexts,n,rfl,.inr (by rw [YQ lr]),.inl rfl,by omega,by omega,bt,λx hx=>⟨by rw [MO.nexts.2 x hx]; omega,MB.nexts x hx⟩,?_⟩
 refine ⟨⟨aa.cl,ac.n_push⟩,_,rfl,rfl,by decide +kernel,n,bs,ms,rfl,_,_,r.take n,m.push,bs.length,by rw [hp],.inr (by rw [YQ lr]),.inl rfl,by omega,by omega,bt,λx hx=>⟨by rw [MO.push.2 x hx]; omega,MB.push x hx⟩,?_⟩
 refine ⟨by rw [List.length_map,List.length_map,List.length_map,List.length_map,List.length_range,List.length_range]; omega,?_⟩
 refine ⟨⟨aa.cl,ac.n_divisor⟩,_,rfl,_,gm lr,MB.div.mono,(wP br n).mono,⟨aa.cl,ac.n_add⟩,_,rfl,_,_,r.take n,m.add,rfl,.inr (by rw [YQ lr]),.inl rfl,by omega,bt,MB.add,k0,?_,?_⟩
 ·rw [List.length_append,List.length_map,List.length_map,List.length_map,List.length_map,List.length_range,List.length_range]
  show _ + 1<=1000
  omega
 ·unfold WH U at q
  rw [List.map_append,List.map_append] at q
  exact q
theorem zEe (F:zY K "common_divisor" "common_divisor" Qe f fd):zF P w K mg base zT (k + 1) f fd ["numbers"] (zG (JW)):=by
 refine zj F gH λ_ _ _ _ _ _ hr=>⟨_,(zJ (zS 1 gH.nd zD)
  (zJ (xX PassesOwn.never rfl (xR (zA 0)) (zx 2 gH.nd) (zJ (zS 3 gH.nd (yB K9 zPz rfl B.abs_ zH4 (zB (zA 2) zC)))
   (zK (JI PassesOwn.never (ve hr.units (zA 3) zD) (zJ (zS 4 gH.nd (xI (zA 1) (zA 3)))
    (zJ (zS 1 gH.nd (zA 3))
    (zK (zS 3 gH.nd (zA 4)))))))))
  (zK (zV (zA 1))))),λds R h=>?_⟩
 obtain ⟨a,b,rfl,q⟩:=h
 refine ⟨λk Γ=>∃ s2 s3 s4,Γ=[.sh (.tup [.int a,.int b]),.sh (.int (((match k with | 0=>0 | 1=>a.natAbs | _=>Nat.gcd a.natAbs b.natAbs):Nat):Int)),s2,s3,s4],⟨_,_,_,rfl⟩,?_,?_⟩
 ·have key:∀ (x:Int) (g:Nat) (s3 s4:Sl) (T:Uy),(∀ s2 s3 s4,T.nx [.sh (.tup [.int a,.int b]),.sh (.int ((Nat.gcd g x.natAbs:Nat):Int)),s2,s3,s4])->jO (vQ 3 (jJ qu (zQ6 (jz 2) Ze))) (zOB (xi (xQ j3 (jz 3) (pC (.int 0)))) (jO (vQ 4 (xQ jI (jz 1) (jz 3))) (jO (vQ 1 (jz 3)) (vQ 3 (jz 4))))) T [.sh (.tup [.int a,.int b]),.sh (.int ((g:Nat):Int)),.sh (.int x),s3,s4]:=λx g s3 s4 T hT=>by
   refine ⟨λm Γ=>∃ (c r:Nat) (s4:Sl),Γ=[.sh (.tup [.int a,.int b]),.sh (.int ((c:Nat):Int)),.sh (.int x),.sh (.int ((r:Nat):Int)),s4]/\Nat.gcd c r=Nat.gcd g x.natAbs/\r=m,⟨_,g,x.natAbs,s4,by rw [zP9]; rfl,rfl,rfl⟩,?_⟩
   rintro m Γ' ⟨c,r,s4,rfl,hG,rfl⟩
   refine w2 (λc1=>?_) λc1=>?_
   ·have r0:r≠0:=λz=>by rw [z] at c1; cases c1
    refine ⟨by omega,c % r,Nat.mod_lt _ (by omega),r,c % r,_,by rw [zNa]; rfl,?_,rfl⟩
    rw [<- hG,Nat.gcd_comm c r,Nat.gcd_rec r c,Nat.gcd_comm]
   ·have r0:r=0:=by have:=of_decide_eq_true (zNq c1); omega
    rw [r0,Nat.gcd_zero_right] at hG
    rw [hG]
    exact hT _ _ _
  rintro k d Γ' hk ⟨s2,s3,s4,rfl⟩
  match k,hk with
  | 0,hk=>
   cases hk
   refine key a 0 s3 s4 _ λt2 t3 t4=>⟨t2,t3,t4,?_⟩
   rw [Nat.gcd_zero_left]
   rfl
  | 1,hk=>
   cases hk
   exact key b a.natAbs s3 s4 _ λt2 t3 t4=>⟨t2,t3,t4,rfl⟩
  | _ + 2,hk=>cases hk
 ·rintro Γ' ⟨s2,s3,s4,rfl⟩
  exact q
theorem zIg {dv:Value} (F:xT K "fraction" "fraction" Qf f fd dv) (aj:Fn P w K mg base "is_whole" ["thing"] k (zG (qz))) (aG:Fn P w K mg base "common_divisor" ["numbers"] k (zG (JW))):zF P w K mg base zT (k + 1) f fd ["top","bottom"] (zG (u5)):=by
 refine qy F Qg λ_ _ _ _ _ _ hr=>⟨_,(zJ (yG (PW.pt (wD (xa (yx (zL aj hr rfl (zB (zA 0) zC)))) (vB (xa (yx (zL aj hr rfl (zB (zA 1) zC))))))) (zK ql) yF)
  (zJ (yG (uw hr.units (zA 1) zD) (zK ql) yF)
  (zJ (zS 2 Qg.nd (zL aG hr rfl (zB (yP (zB (zA 0) (zB (zA 1) zC))) zC)))
  (jP (yG (gh (zA 1) zD) (zK (zS 2 Qg.nd (x9 (zA 2)))) yF)
  (zK (zV (yP (zB (wy (zA 0) (zA 2)) (zB (wy (zA 1) (zA 2)) zC))))))))),λds R h=>?_⟩
 obtain ⟨t,b,rfl,b0,bb,q⟩:=h
 refine ⟨_,rfl,rfl,wF rfl ⟨_,rfl,rfl,wF rfl (wF (decide_eq_false b0) ⟨k0,t,b,rfl,?_⟩)⟩⟩
 refine ⟨λΓ=>Γ=[.sh (.int t),.sh (.int b),.sh (.int (gI t b))],w2 (λc1=>?_) λc1=>?_,?_⟩
 ·unfold gI
  rw [if_pos (of_decide_eq_true c1)]
  rfl
 ·unfold gI
  rw [if_neg (of_decide_eq_false c1)]
  rfl
 rintro Γ' rfl
 have g0:=YU (t:=t) b0
 have gb:Bd 8000 (gI t b):=(YV (t:=t) b0 bb).mono
 exact ⟨g0,gb,g0,gb,k0,q⟩
theorem zM9 (F:zY K "minus" "minus" Qh f fd) (ai:wO P w K mg base "fraction" ["top","bottom"] k (zG (u5)) (.int 1)):zF P w K mg base zT (k + 1) f fd ["one","other"] (zG (zOT)):=by
 refine zj F zMh λ_ _ _ _ _ _ hr=>⟨_,(zK (zV (zL ai.fn hr rfl (zB (wo (yA (zH (zA 0) zD) (zH (zA 1) zD)) (yA (zH (zA 1) zD) (zH (zA 0) zD))) (zB (yA (zH (zA 0) zD) (zH (zA 1) zD)) zC))))),λds R h=>?_⟩
 obtain ⟨x,y,rfl,bx,by_,q⟩:=h
 refine ⟨_,rfl,_,rfl,bx.mono,xN (by decide),_,rfl,_,rfl,by_.mono,xN (by decide),_,rfl,_,rfl,xN (by decide),xN (by decide),_,_,rfl,by decide,xN (by decide),?_⟩
 rw [Int.mul_one,Int.mul_one]
 show R (jU (x - y) 1)
 rw [u6]
 exact q
theorem zM7 (F:zY K "times" "times" Qi f fd) (ai:wO P w K mg base "fraction" ["top","bottom"] k (zG (u5)) (.int 1)):zF P w K mg base zT (k + 1) f fd ["one","other"] (zG (zON)):=by
 refine zj F zMg λ_ _ _ _ _ _ hr=>⟨_,(zK (zV (zL ai.fn hr rfl (zB (yA (zH (zA 0) zD) (zH (zA 1) zD)) (zB (yA (zH (zA 0) zD) (zH (zA 1) zD)) zC))))),λds R h=>?_⟩
 obtain ⟨x,d,rfl,bx,bd,d1,q⟩:=h
 refine ⟨_,rfl,_,rfl,bx.mono,xN (by decide),_,rfl,_,rfl,xN (by decide),bd.mono,_,_,rfl,by omega,by rw [Int.one_mul]; exact bd.mono,?_⟩
 rw [Int.mul_one,Int.one_mul]
 exact q
theorem zM6 (F:zY K "under" "under" Qj f fd):zF P w K mg base zT (k + 1) f fd ["one","other"] (zG (JY)):=by
 refine zj F zMf λ_ _ _ _ _ _ hr=>⟨_,(zK (zV (zQm (yA (zH (zA 0) zD) (zH (zA 1) zD)) (yA (zH (zA 1) zD) (zH (zA 0) zD))))),λds R h=>?_⟩
 obtain ⟨x,y,rfl,bx,by_,q⟩:=h
 refine ⟨_,rfl,_,rfl,bx.mono,xN (by decide),_,rfl,_,rfl,by_.mono,xN (by decide),?_⟩
 rw [Int.mul_one,Int.mul_one]
 exact q
theorem zJw (F:zY K "raw_sum" "raw_sum" Qk f fd):zF P w K mg base zT (k + 1) f fd ["numbers","point"] (zG (jX)):=by
 refine zj F gJ λ_ _ _ _ _ _ hr=>⟨_,(zJ (zS 2 gJ.nd zD)
  (zJ (zS 3 gJ.nd zD)
  (zJ (xX PassesOwn.never rfl (ud rfl B.zip_ (zB (zA 0) (zB (zA 1) zC))) (xr rfl (zp 4 gJ.nd (zp 5 gJ.nd xq))) (zJ (zS 2 gJ.nd (zw (yA (zA 2) (zH (zA 5) zD)) (yA (yA (zA 4) (zH (zA 5) zD)) (zA 3))))
   (zK (zS 3 gJ.nd (yA (zA 3) (zH (zA 5) zD))))))
  (zK (zV (yP (zB (zA 2) (zB (zA 3) zC)))))))),λds R h=>?_⟩
 obtain ⟨d,ns,n,xs,Q,ee,qq,rfl,h,ln,bn,PT,q⟩:=h
 have n3:=PT.n3
 have lx:=PT.len
 have q1:=PT.q1
 have e1:=PT.e1
 refine h.zipL ?_
 refine ⟨λk Γ=>∃ (t b:Int) (s4 s5:Sl),Γ=[.sh d,.sh (dP xs),.sh (.int t),.sh (.int b),s4,s5]/\0 < b/\(t:Rat) / (b:Rat)=zQ (ns.take k) (xs.take k)/\Bd (402 + ee + (qq + 1) * k) t/\Bd (1 + (qq + 1) * k) b,⟨0,1,.no,.no,rfl,by decide,(by show ((0:Int):Rat) / ((1:Int):Rat)=0; rw [Rat.div_def]; exact Rat.zero_mul _),wQ,xN (by omega)⟩,?_,?_⟩
 ·rintro k d' Γ' hk ⟨t,b,s4,s5,rfl,b0,hs,bt,bb⟩
  obtain ⟨w,x,hw,hx,rfl⟩:=zwq (u:=D.int) (v:=dQ) hk
  have kl:=(List.getElem?_eq_some_iff.mp hx).1
  have bx:=xY PT.Q0 PT.bQ (PT.sz x (List.mem_of_getElem? hx))
  have bw:=bn w (List.mem_of_getElem? hw)
  have k5:k<=5:=by omega
  have m1:(qq + 1) * k<=201 * 5:=Nat.mul_le_mul (by omega) k5
  have m2:(qq + 1) * (k + 1)=(qq + 1) * k + (qq + 1):=Nat.mul_succ ..
  have bwx:=bw.mul bx.1
  refine ⟨_,rfl,bt.mono (by omega),bx.2.mono (by omega),_,rfl,bw.mono,bx.1.mono (by omega),bwx.mono (by omega),bb.mono (by omega),_,rfl,bb.mono (by omega),bx.2.mono (by omega),_,_,.sh (.int w),.sh (dQ x),rfl,Int.mul_pos b0 (vx x),?_,?_,(bb.mul bx.2).mono (by omega)⟩
  ·rw [zMk b0 (vx x) hs,jW,ut hw,ut hx,JZ (by rw [List.length_take,List.length_take]; omega)]
  ·exact (((bt.mul bx.2).mono (show _<=402 + ee + (qq + 1) * k + qq by omega)).add ((bwx.mul bb).mono (by omega))).mono (by omega)
 ·rintro Γ' ⟨t,b,s4,s5,rfl,b0,hs,bt,bb⟩
  rw [List.length_zipWith,List.length_map,List.length_map,ln,lx,Nat.min_self] at hs bt bb
  rw [List.take_of_length_le (by omega),List.take_of_length_le (by omega)] at hs
  have m1:(qq + 1) * n<=201 * 6:=Nat.mul_le_mul (by omega) n3
  exact ⟨k0,q t b b0 hs (bt.mono (by omega)) (bb.mono (by omega))⟩
theorem zNF (F:zY K "along" "along" Ql f fd) (av:Fn P w K mg base "raw_sum" ["numbers","point"] k (zG (jX))) (ai:wO P w K mg base "fraction" ["top","bottom"] k (zG (u5)) (.int 1)):zF P w K mg base zT (k + 1) f fd ["row","point"] (zG (WN)):=by
 refine zj F zI8 λ_ _ _ _ _ _ hr=>⟨_,(zJ (zS 2 zI8.nd (zL av hr rfl (zB (wz (zA 0) vO (we (x9 zD))) (zB (zA 1) zC))))
  (zK (zV (zL ai.fn hr rfl (zB (zH (zA 2) zD) (zB (zH (zA 2) zD) zC)))))),λds R h=>?_⟩
 obtain ⟨us,b,n,xs,Q,ee,qq,rfl,lu,bu,PT,q⟩:=h
 refine ⟨_,us,n,xs,Q,ee,qq,rfl,.inr (by rw [YR]),lu,bu,PT,λt c c0 hs bt bc=>⟨_,rfl,_,rfl,_,_,rfl,by omega,bc.mono,?_⟩⟩
 show R (jU t c)
 rw [YZ c0,hs]
 exact q
theorem zGH (F:zY K "divided_sum" "divided_sum" Qm f fd) (av:Fn P w K mg base "raw_sum" ["numbers","point"] k (zG (jX))) (ai:wO P w K mg base "fraction" ["top","bottom"] k (zG (u5)) (.int 1)):zF P w K mg base zT (k + 1) f fd ["numbers","point","add","divisor"] (zG (Yb)):=by
 refine zj F zDb λ_ _ _ _ _ _ hr=>⟨_,(zJ (zS 4 zDb.nd (zL av hr rfl (zB (zA 0) (zB (zA 1) zC))))
  (zK (zV (zL ai.fn hr rfl (zB (zw (zH (zA 4) zD) (yA (zA 2) (zH (zA 4) zD))) (zB (yA (zH (zA 4) zD) (zA 3)) zC)))))),λds R h=>?_⟩
 obtain ⟨d,ns,n,xs,Q,ee,qq,ad,dv,rfl,h,ln,bn,PT,d0,ba,bd,q⟩:=h
 refine ⟨d,ns,n,xs,Q,ee,qq,rfl,h,ln,bn,PT,λt c c0 hs bt bc=>?_⟩
 have p0:=Int.mul_pos c0 d0
 refine ⟨_,rfl,_,rfl,ba.mono,bc.mono,_,rfl,bc.mono,bd.mono,_,_,rfl,by omega,(bc.mul bd).mono,?_⟩
 show R (jU _ _)
 rw [YZ p0,zNe c0 d0 hs]
 exact q
theorem zNE (F:zY K "holds" "holds" Qn f fd) (av:Fn P w K mg base "raw_sum" ["numbers","point"] k (zG (jX))):zF P w K mg base zT (k + 1) f fd ["row","point"] (zG (Ja)):=by
 refine zj F zI7 λ_ _ _ _ _ _ hr=>⟨_,(zJ (zS 2 zI7.nd (zL av hr rfl (zB (wz (zA 0) vO (we (x9 zD))) (zB (zA 1) zC))))
  (zK (zV (Xx (zH (zA 2) zD) (yA (zH (zA 0) (x9 zD)) (zH (zA 2) zD)))))),λds R h=>?_⟩
 obtain ⟨us,vs,b,rfl,lu,l9,bu,bv,bb,q⟩:=h
 have PT:=q9 (by omega) (by decide) bv
 refine ⟨_,us,vs.length,_,_,_,_,by rw [j9],.inr (by rw [YR]),lu,bu,PT,λt c c0 hs bt bc=>⟨_,rfl,_,JV us b,_,rfl,bb.mono,bc.mono,?_⟩⟩
 rw [qA] at hs
 have z:decide (t<=b * c)=decide (zg us vs<=b):=by
  rw [zQj c0 hs]
  exact decide_eq_decide.mpr ⟨λh=>Int.le_of_mul_le_mul_right h c0,λh=>Int.mul_le_mul_of_nonneg_right h (by omega)⟩
 show R (.bool (decide (t<=b * c)))
 rw [z]
 exact q
theorem zG7 (F:zY K "first_with" "first_with" Qo f fd):zF P w K mg base zT (k + 1) f fd ["rows","place"] (zG (fFW)):=by
 refine zj F zD1 λ_ _ _ _ _ _ hr=>⟨_,(zJ (xX PassesOwn.never rfl (zJs rfl B.range_ (zB (zA 1) (zB (yB yk yo rfl B.len_ ym (zB (zA 0) zC)) zC))) (zx 2 zD1.nd) (zK (yG (ve hr.units (zH (zH (zA 0) (zA 2)) (zA 1)) zD) (zK (zV (zA 2))) yF)))
  (zK (zV wx))),λds R h=>?_⟩
 obtain ⟨es,p,d,ns,rfl,hd,h,pl,n0,few,q⟩:=h
 have hl:=(List.getElem?_eq_some_iff.mp hd).1
 refine ⟨by omega,by omega,by omega,by omega,?_⟩
 refine ⟨λk Γ=>k=0/\Γ=[.sh (.lst es),.sh (.int (p:Int)),.no],⟨rfl,rfl⟩,?_,?_⟩
 ·rintro k d' Γ' hk ⟨rfl,rfl⟩
  have e:d'=.int (p:Int):=by
   unfold rng at hk
   rw [List.getElem?_map] at hk
   rw [List.getElem?_range (by omega)] at hk
   have:=Option.some.inj hk
   rw [<- this]
   show D.int ((p:Int) + 0)=_
   rw [Int.add_zero]
  subst e
  refine ⟨_,WO hd,h.ixD pl (wT ?_ q)⟩
  show (!decide _)=true
  rw [decide_eq_false n0]
  rfl
 ·rintro Γ' ⟨e,rfl⟩
  unfold rng at e
  rw [List.length_map,List.length_range] at e
  omega
theorem zHk (F:zY K "put_ahead" "put_ahead" Qp f fd):zF P w K mg base zT (k + 1) f fd ["rows","place","found"] (zG (fPA)):=by
 refine zj F zEq λ_ _ _ _ _ _ hr=>⟨_,(zJ (zMm 3 zEq.nd rfl (Or.inl rfl) rfl B.list_ (zB (zA 0) zC))
  (zJ (yb (XV (zH (zA 0) (zA 2)) (Wz (xU 3) (zA 1) qU)) U7)
  (zJ (yb (XV (zH (zA 0) (zA 1)) (Wz (xU 3) (zA 2) qU)) U7)
  (zK (vP 3 (zV (zA 3))))))),λds R h=>?_⟩
 obtain ⟨es,p,rfl,pl,few,q⟩:=h
 have ha:ya es (p:Int)=some es[p]:=WO (List.getElem?_eq_getElem pl)
 have hx:wI es.length (p:Int)=some p:=by unfold wI; rw [if_pos (by omega),if_pos (by omega)]; congr 1
 have hs:es.set p es[p]=es:=List.set_getElem_self pl
 refine ⟨_,ha,_,_,rfl,hx,?_⟩
 rw [hs]
 refine ⟨_,ha,_,_,rfl,hx,?_⟩
 rw [hs]
 exact q
theorem zJ8 (F:zY K "cleared" "cleared" Qq f fd):zF P w K mg base zT (k + 1) f fd ["row","pivot","place","last"] (zG (Ye)):=by
 refine zj F zGU λ_ _ _ _ _ _ hr=>⟨_,(zK (zV (yh (own:=["number","other"]) (caps:=[(0,"row"),(1,"pivot"),(2,"place"),(3,"last")]) (yM zGU) rfl rfl (jM (wq (wq jN))) (ud rfl B.zip_ (zB (zA 0) (zB (zA 1) zC))) (λ_ _ _ _=>(xr rfl (zp 0 (zy ["number","other","row","pivot","place","last"]) (zp 1 (zy ["number","other","row","pivot","place","last"]) xq)))) (λ_ _ _ _=>(wy (wo (yA (zH (zA 3) (zA 4)) (zA 0)) (yA (zH (zA 2) (zA 4)) (zA 1))) (zA 5)))))),λds R h=>?_⟩
 obtain ⟨d,e,ns,ps,p,la,rfl,h,k,ll,pl,few,l0,bl,bn,bp,q⟩:=h
 refine h.zip k (zRs (λq=>(ps.getD p 0 * q.1 - ns.getD p 0 * q.2).fdiv la) (by rw [List.length_zip]; omega) (λq hq=>?_) q)
 have h1:=bn _ (List.of_mem_zip hq).1
 have h2:=bp _ (List.of_mem_zip hq).2
 exact k.ixD (by omega) ⟨(wP bp p).mono,h1.mono,h.ixD pl ⟨(wP bn p).mono,h2.mono,l0,bl.mono,rfl⟩⟩
theorem zLH (F:zY K "solved" "solved" Qr f fd) (bj:Fn P w K mg base "first_with" ["rows","place"] k (zG (fFW))) (bz:Fn P w K mg base "put_ahead" ["rows","place","found"] k (zG (fPA))) (bA:Fn P w K mg base "cleared" ["row","pivot","place","last"] k (zG (Ye))) (ai:wO P w K mg base "fraction" ["top","bottom"] k (zG (u5)) (.int 1)):zF P w K mg base zT (k + 1) f fd ["rows"] (zG (jY)):=by
 refine zj F ul λ_ _ _ _ _ _ hr=>⟨_,(zJ (zS 1 ul.nd (zA 0))
  (zJ (zS 2 ul.nd zD)
  (zJ (xX PassesOwn.never rfl (xF rfl B.range_ (zB (yB yk yo rfl B.len_ ym (zB (zA 0) zC)) zC)) (zx 3 ul.nd) (zJ (zS 4 ul.nd (zL bj hr rfl (zB (zA 1) (zB (zA 3) zC))))
   (zJ (yG (j6 (zA 4) wx) (zK (zV wx)) yF)
   (zJ (zS 1 ul.nd (zL bz hr rfl (zB (zA 1) (zB (zA 3) (zB (zA 4) zC)))))
   (zJ (zS 5 ul.nd (zH (zA 1) (zA 3)))
   (zJ (uf 1 false ul.nd rfl rfl (own:=["number","row"]) (caps:=[(2,"last"),(3,"place"),(5,"pivot")]) (yM ul) rfl rfl (jM (wq (wq jN))) (YE rfl B.enumerate_ (zB (zA 1) zC)) (λ_ _ _ _=>(xr rfl (zp 0 (zy ["number","row","last","place","pivot"]) (zp 1 (zy ["number","row","last","place","pivot"]) xq)))) (λ_ _ _ _=>(Zd (uw hr.units (zA 0) (zA 3)) (zA 1) (zL bA hr rfl (zB (zA 1) (zB (zA 4) (zB (zA 3) (zB (zA 2) zC))))))) rfl)
   (zK (zS 2 ul.nd (zH (zA 5) (zA 3))))))))))
  (zK (zV (yh (own:=["place","row"]) (caps:=[]) (yM ul) rfl rfl (jM (wq (wq jN))) (YE rfl B.enumerate_ (zB (zA 1) zC)) (λ_ _ _ _=>(xr rfl (zp 0 (zy ["place","row"]) (zp 1 (zy ["place","row"]) xq)))) (λ_ _ _ _=>(zL ai.fn hr rfl (zB (zH (zA 1) (x9 zD)) (zB (zH (zA 1) (zA 0)) zC)))))))))),λds R h=>?_⟩
 obtain ⟨n,es,cs,rs,rfl,few,G,hc,q⟩:=h
 have le:=G.len
 refine ⟨by omega,by omega,?_⟩
 rw [show ((es.length:Nat):Int).toNat=n by omega]
 refine ⟨λk Γ=>∃ (fs:List D) (c2 r2:Nat->Int) (la:Int) (s3 s4 s5:Sl),Γ=[.sh (.lst es),.sh (.lst fs),.sh (.int la),s3,s4,s5]/\Dg n fs c2 r2/\(la=1\/la = -1)/\∀ i,i < n->(c2 i=1\/c2 i = -1)/\Bd 900 (r2 i)/\r2 i * c2 i=rs i * cs i,⟨es,cs,rs,1,.no,.no,.no,rfl,G,.inl rfl,λi hi=>⟨(hc i hi).1,(hc i hi).2,rfl⟩⟩,?_,?_⟩
 ·rintro k d Γ' hk ⟨fs,c2,r2,la,s3,s4,s5,rfl,G2,hl,h2⟩
  obtain ⟨kn,rfl⟩:=vC hk
  have lf:=G2.len
  obtain ⟨ck,bk,_⟩:=h2 k kn
  have hd:fs[k]? = some fs[k]:=List.getElem?_eq_getElem (by omega)
  have hr:=G2.row k _ hd
  refine ⟨fs,k,fs[k],_,rfl,hd,hr,by rw [vz]; omega,by rw [gA kn,if_pos rfl]; exact gq ck,by omega,wF rfl ⟨fs,k,rfl,by omega,by omega,_,WO hd,?_⟩⟩
  have bR:∀ i,i < n->∀ x∈zc n i (c2 i) (r2 i),Bd 1000 x:=λi hi=>zOw (vF (h2 i hi).1 (by decide)) ((h2 i hi).2.1.mono)
  refine zq.enum (λi e=>IS e (if i=k then zc n i (c2 i) (r2 i) else zc n i (c2 k * la * c2 i) (c2 k * la * r2 i))) (by omega) (λi x hx=>?_) λfs' lf' hf=>?_
  ·have il:=(List.getElem?_eq_some_iff.mp hx).1
   refine w2 (λc1=>?_) λc1=>?_
   ·have e:i=k:=by have:=of_decide_eq_true c1; omega
    refine ⟨i,x,rfl,?_⟩
    rw [if_pos e]
    exact G2.row i x hx
   ·have e:i≠k:=by have:=of_decide_eq_false c1; omega
    refine ⟨x,fs[k],_,_,k,la,rfl,G2.row i x hx,hr,by rw [vz,vz],by rw [vz]; omega,by rw [vz]; omega,gq hl,vF hl (by decide),bR i (by omega),bR k kn,i,x,rfl,?_⟩
    rw [if_neg e,zPx (λz=>e z.symm) kn hl]
    exact .inl rfl
  refine hr.ixD (by rw [vz]; omega) ?_
  rw [gA kn,if_pos rfl]
  refine ⟨fs',λi=>if i=k then c2 i else c2 k * la * c2 i,λi=>if i=k then r2 i else c2 k * la * r2 i,c2 k,_,_,_,rfl,⟨by omega,λi e he=>?_⟩,ck,λi hi=>?_⟩
  ·have:=hf i e he
   by_cases c:i=k
   ·rw [if_pos c] at this
    simp only [if_pos c]
    exact this
   ·rw [if_neg c] at this
    simp only [if_neg c]
    exact this
  ·obtain ⟨a1,a2,a3⟩:=h2 i hi
   by_cases c:i=k
   ·simp only [if_pos c]
    exact ⟨a1,a2,a3⟩
   ·simp only [if_neg c]
    have sk:=Yc ck hl
    refine ⟨Yc sk a1,Yd sk a2,?_⟩
    rw [<- a3]
    have:=zQb sk
    grind
 ·rintro Γ' ⟨fs,c2,r2,la,s3,s4,s5,rfl,G2,hl,h2⟩
  have lf:=G2.len
  refine zq.enum (λi e=>e=dF (rs i * cs i)) (by omega) (λi x hx=>?_) λfs' lf' hf=>?_
  ·have il:=(List.getElem?_eq_some_iff.mp hx).1
   obtain ⟨a1,a2,a3⟩:=h2 i (by omega)
   have hr:=G2.row i x hx
   refine hr.ixL (n:=n) (vz ..) (hr.ixD (by rw [vz]; omega) ?_)
   rw [zKj,gA (by omega),if_pos rfl]
   refine ⟨_,_,rfl,gq a1,vF a1 (by decide),i,x,rfl,?_⟩
   have z:=JX (t:=r2 i) a1
   rw [z.1,z.2,a3]
  have e:fs'=((List.range n).map λi=>rs i * cs i).map dF:=by
   refine List.ext_getElem? λi=>?_
   rw [List.map_map,List.getElem?_map]
   by_cases c:i < n
   ·rw [List.getElem?_range c,List.getElem?_eq_getElem (by omega)]
    exact congrArg some (hf i _ (List.getElem?_eq_getElem (by omega)))
   ·rw [List.getElem?_eq_none (by omega),List.getElem?_eq_none (by rw [List.length_range]; omega)]
    rfl
  rw [e]
  exact q
theorem zPV (F:zY K "axes" "axes" Qs f fd) (bB:Fn P w K mg base "single" ["place","many","number","bound"] k (zG (zLs))):zF P w K mg base zT (k + 1) f fd ["many"] (zG (zRn)):=by
 refine zj F zKc λ_ _ _ _ _ _ hr=>⟨_,(zK (zV (yh (own:=["place"]) (caps:=[(0,"many")]) (yM zKc) rfl rfl yX (xF rfl B.range_ (zB (zA 0) zC)) (λ_ _ _ _=>(zx 0 (zy ["place","many"]))) (λ_ _ _ _=>(zL bB hr rfl (zB (zA 0) (zB (zA 1) (zB zD (zB zD zC))))))))),λds R h=>?_⟩
 obtain ⟨n,rfl,n3,q⟩:=h
 refine ⟨by omega,by omega,?_⟩
 rw [show ((n:Nat):Int).toNat=n by omega]
 refine zq.rng0 (λp=>U (rI n (p,1,0))) (by omega) (λp hp=>⟨(p:Int),(n:Int),1,0,rfl,by omega,by omega,?_⟩) ?_
 ·rw [show ((n:Nat):Int).toNat=n by omega]
  rfl
 ·unfold y9 yi at q
  rw [List.map_map] at q
  exact q
theorem zFp (F:zY K "corner_point" "corner_point" Qt f fd) (aw:Fn P w K mg base "solved" ["rows"] k (zG (jY))):zF P w K mg base zT (k + 1) f fd ["rows","corner"] (zG (Jc)):=by
 refine zj F zDE λ_ _ _ _ _ _ hr=>⟨_,(zK (zV (zL aw hr rfl (zB (yh (own:=["number"]) (caps:=[(0,"rows")]) (yM zDE) rfl rfl yX (xR (zA 1)) (λ_ _ _ _=>(zx 0 (zy ["number","rows"]))) (λ_ _ _ _=>(zH (zA 1) (zA 0)))) zC)))),λds R h=>?_⟩
 obtain ⟨n,T,cs,rfl,G,C,q⟩:=h
 have n3:=G.n3
 have lc:=C.len
 refine Jb (λc=>U (rI n (T.getD c (0,0,0)))) (by omega) (λc hc=>⟨_,xj (0,0,0) (C.mem c hc),rfl⟩) ?_
 refine ⟨n,_,λk=>(tc T cs k).2.1,λk=>(tc T cs k).2.1 * (tc T cs k).2.2,rfl,by omega,⟨by rw [List.length_map]; exact lc,λi d hd=>?_⟩,λi hi=>⟨(C.ok G hi).2.1,(Yd (C.ok G hi).2.1 (C.ok G hi).2.2).mono⟩,?_⟩
 ·obtain ⟨il,rfl⟩:=jp 0 hd
  have e:=C.pl i (by omega)
  refine .inr ?_
  show U (zc n (tc T cs i).1 _ _)=_
  rw [e]
  rfl
 ·have e:(List.range n).map (λk=>(tc T cs k).2.1 * (tc T cs k).2.2 * (tc T cs k).2.1)=(List.range n).map λk=>(tc T cs k).2.2:=List.map_congr_left λk hk=>by
   have:=zQb (C.ok G (List.mem_range.mp hk)).2.1
   grind
  rw [e]
  exact q
theorem zG5 (F:zY K "weights_of" "weights_of" Qu f fd) (aw:Fn P w K mg base "solved" ["rows"] k (zG (jY))):zF P w K mg base zT (k + 1) f fd ["rows","corner","row"] (zG (WQ)):=by
 refine zj F zDx λ_ _ _ _ _ _ hr=>⟨_,(zK (zV (zL aw hr rfl (zB (yh (own:=["place"]) (caps:=[(0,"rows"),(1,"corner"),(2,"row")]) (yM zDx) rfl rfl yX (xF rfl B.range_ (zB (yB yk yo rfl B.len_ ym (zB (zA 1) zC)) zC)) (λ_ _ _ _=>(zx 0 (zy ["place","rows","corner","row"]))) (λ_ _ _ _=>(zw (xo jD jL rfl B.tuple_ vb (zB (yh (own:=["number"]) (caps:=[(0,"place"),(1,"rows")]) WC rfl rfl yX (xR (zA 2)) (λ_ _ _ _=>(zx 0 (zy ["number","place","rows"]))) (λ_ _ _ _=>(zH (zH (zA 2) (zA 0)) (zA 1)))) zC)) (yP (zB (zH (zA 3) (zA 0)) zC))))) zC)))),λds R h=>?_⟩
 obtain ⟨n,T,cs,us,b,rfl,G,C,lu,bu,q⟩:=h
 have n3:=G.n3
 have lc:=C.len
 have lm:(cs.map λx=>D.int ((x:Nat):Int)).length=n:=by rw [List.length_map]; exact lc
 refine ⟨by omega,by omega,?_⟩
 rw [lm,show ((n:Nat):Int).toNat=n by omega]
 refine zq.rng0 (λp=>U (zc n p (tc T cs p).2.1 (us.getD p 0))) (by omega) (λp hp=>?_) ?_
 ·refine Jb (λc=>.int ((rI n (T.getD c (0,0,0))).getD p 0)) (by omega) (λc hc=>⟨_,xj (0,0,0) (C.mem c hc),_,yd (j:=p) (by rw [vz]; omega) rfl,rfl⟩) ?_
  refine ⟨_,yd (j:=p) (by rw [List.length_append]; show p < _ + 1; omega) rfl,k0,by rw [List.length_map]; show _ + 1<=1000; omega,?_⟩
  have e1:(us++[b]).getD p 0=us.getD p 0:=by rw [List.getD_eq_getElem?_getD,List.getD_eq_getElem?_getD,List.getElem?_append_left (by omega)]
  have e2:(cs.map λc=>D.int ((rI n (T.getD c (0,0,0))).getD p 0))=(yE (p:Int) n (tc T cs p).2.1).map D.int:=by
   unfold yE
   rw [List.map_map]
   refine List.ext_getElem (by rw [List.length_map,List.length_map,List.length_range]; exact lc) λi h1 h2=>?_
   rw [List.length_map] at h1
   rw [List.getElem_map,List.getElem_map,List.getElem_range]
   have e3:T.getD cs[i] (0,0,0)=tc T cs i:=by rw [Jd,List.getD_eq_getElem?_getD (l:=cs),List.getElem?_eq_getElem h1]; rfl
   rw [e3]
   show D.int ((zc n (tc T cs i).1 _ _).getD p 0)=D.int (if (i:Int)=(p:Int) then _ else 0)
   rw [C.pl i (by omega),gA hp]
   by_cases c:p=i
   ·rw [if_pos c,if_pos (by omega),c]
   ·rw [if_neg c,if_neg (by omega)]
  rw [e1,e2]
  unfold zc U
  rw [List.map_append]
  rfl
 ·refine ⟨n,_,λk=>(tc T cs k).2.1,λk=>us.getD k 0,rfl,by omega,⟨by rw [List.length_map,List.length_range],λi d hd=>?_⟩,λi hi=>⟨(C.ok G hi).2.1,(wP bu i).mono⟩,q⟩
  obtain ⟨il,rfl⟩:=jp 0 hd
  rw [List.length_range] at il
  rw [zKE il]
  exact .inr rfl
theorem zEA (F:zY K "over_one_bottom" "over_one_bottom" Qv f fd) (aG:Fn P w K mg base "common_divisor" ["numbers"] k (zG (JW))):zF P w K mg base zT (k + 1) f fd ["values"] (zG (gB)):=by
 refine zj F XE λ_ _ _ _ _ _ hr=>⟨_,(zJ (zS 1 XE.nd zD)
  (zJ (xX PassesOwn.never rfl (xR (zA 0)) (zx 2 XE.nd) (zK (zS 1 XE.nd (wy (yA (zA 1) (zH (zA 2) zD)) (zL aG hr rfl (zB (yP (zB (zA 1) (zB (zH (zA 2) zD) zC))) zC))))))
  (zK (zV (yP (zB (zA 1) (zB (yh (own:=["value"]) (caps:=[(1,"bottom")]) (yM XE) rfl rfl yX (xR (zA 0)) (λ_ _ _ _=>(zx 0 (zy ["value","bottom"]))) (λ_ _ _ _=>(yA (zH (zA 0) zD) (wy (zA 1) (zH (zA 0) zD))))) zC))))))),λds R h=>?_⟩
 obtain ⟨xs,rfl,l9,bx,q⟩:=h
 refine ⟨λk Γ=>∃ s2,Γ=[.sh (xK xs),.sh (.int 1),s2],⟨_,rfl⟩,?_,?_⟩
 ·rintro k d Γ' hk ⟨s2,rfl⟩
  obtain ⟨kl,rfl⟩:=jp 0 hk
  exact ⟨_,rfl,xN (by decide),xN (by decide),_,rfl,k0,1,1,rfl,by decide,xN (by decide),_,rfl⟩
 ·rintro Γ' ⟨s2,rfl⟩
  refine vD dF (λd=>match d with | .tup [x,_]=>yK x | _=>0) (λ_=>rfl) (λx=>.int (x * 1)) (by omega) (λx hx=>⟨_,rfl,_,rfl,by decide,xN (by decide),(bx x hx).mono,xN (by decide),rfl⟩) ⟨k0,?_⟩
  have e:(xs.map λx=>D.int (x * 1))=xs.map D.int:=List.map_congr_left λx _=>by rw [Int.mul_one]
  rw [e]
  exact q
theorem zHp (F:zY K "exchanged" "exchanged" Qw f fd):zF P w K mg base zT (k + 1) f fd ["corner","place","number"] (zG (jZ)):=by
 refine zj F zHe λ_ _ _ _ _ _ hr=>⟨_,(zK (zV (zw (zw (wz (zA 0) vO (we (zA 1))) (xM (zB (zA 2) zC))) (wz (zA 0) (we (zw (zA 1) zD)) vO)))),λds R h=>?_⟩
 obtain ⟨cs,p,x,rfl,pl,l9,q⟩:=h
 have e1:HT.sIx (cs.map λx=>D.int ((x:Nat):Int)).length (cs.map λx=>D.int ((x:Nat):Int)).length (some ((p:Nat):Int))=p:=by rw [HT.sIx_nat,List.length_map]; omega
 have e0:HT.sIx (cs.map λx=>D.int ((x:Nat):Int)).length 0 none=0:=HT.sIx_none _ _
 have e2:zh (cs.map λx=>D.int ((x:Nat):Int)) none (some ((p:Nat):Int))=(cs.take p).map λx=>D.int ((x:Nat):Int):=by
  unfold zh
  rw [e0,e1,List.drop_zero,Nat.sub_zero,List.map_take]
 have e3:zh (cs.map λx=>D.int ((x:Nat):Int)) (some (((p:Nat):Int) + 1)) none=(cs.drop (p + 1)).map λx=>D.int ((x:Nat):Int):=by
  unfold zh
  have f1:HT.sIx (cs.map λx=>D.int ((x:Nat):Int)).length 0 (some (((p + 1:Nat)):Int))=p + 1:=by rw [HT.sIx_nat,List.length_map]; omega
  have f2:HT.sIx (cs.map λx=>D.int ((x:Nat):Int)).length (cs.map λx=>D.int ((x:Nat):Int)).length none=cs.length:=by rw [HT.sIx_none,List.length_map]
  rw [show (((p:Nat):Int) + 1)=((p + 1:Nat):Int) by omega,f1,f2,List.take_of_length_le (by rw [List.length_drop,List.length_map]; omega),List.map_drop]
 have l1:(cs.take p).length<=100:=by rw [List.length_take]; omega
 have l2:(cs.drop (p + 1)).length<=100:=by rw [List.length_drop]; omega
 refine ⟨k0,?_,?_,?_⟩
 ·rw [e2,List.length_map]; show _ + 1<=1000; omega
 ·rw [e2,e3,List.length_append,List.length_map,List.length_map]; show _ + 1 + _<=1000; omega
 ·rw [e2,e3]
  unfold cN at q
  rw [List.set_eq_take_append_cons_drop,if_pos pl,List.map_append,List.map_cons] at q
  rw [List.append_assoc]
  exact q
theorem zJv (F:zY K "way_off" "way_off" Qx f fd) (aH:Fn P w K mg base "over_one_bottom" ["values"] k (zG (gB))) (aw:Fn P w K mg base "solved" ["rows"] k (zG (jY))):zF P w K mg base zT (k + 1) f fd ["rows","corner","place","number"] (zG (Yg)):=by
 refine zj F Qy λ_ _ _ _ _ _ hr=>⟨_,(zJ (uf 4 false Qy.nd rfl rfl (own:=["other"]) (caps:=[(0,"rows"),(1,"corner"),(2,"place"),(3,"number")]) (yM Qy) rfl rfl yX (xR (zA 1)) (λ_ _ _ _=>(zx 0 (zy ["other","rows","corner","place","number"]))) (λ_ _ _ _=>(zw (wz (zH (zA 1) (zA 0)) vO (we (x9 zD))) (yP (zB (Zd (uw hr.units (zA 0) (zH (zA 2) (zA 3))) (zA 4) zD) zC)))) rfl)
  (zK (zV (zH (zL aH hr rfl (zB (zL aw hr rfl (zB (zA 4) zC)) zC)) zD)))),λds R h=>?_⟩
 obtain ⟨n,T,cs,p,w,rfl,G,C,pn,hw,q⟩:=h
 have n3:=G.n3
 have lc:=C.len
 refine Jb (λc=>U (yE ((T.getD c (0,0,0)).1:Int) n (T.getD c (0,0,0)).2.1++[if c=cs.getD p 0 then w else 0])) (by omega) (λc hc=>?_) ?_
 ·refine ⟨_,xj (0,0,0) (C.mem c hc),_,xj 0 (by omega),?_⟩
  have e:zh ((rI n (T.getD c (0,0,0))).map D.int) none (some (-1))=(yE ((T.getD c (0,0,0)).1:Int) n (T.getD c (0,0,0)).2.1).map D.int:=by
   show zh ((yE _ _ _++[_]).map D.int) none (some (-1))=_
   rw [YR]
  have f:∀ z:Int,D.tup (zh ((rI n (T.getD c (0,0,0))).map D.int) none (some (-1))++[.int z])=U (yE ((T.getD c (0,0,0)).1:Int) n (T.getD c (0,0,0)).2.1++[z]):=λz=>by
   rw [e]
   unfold U
   rw [List.map_append]
   rfl
  have lz:(zh ((rI n (T.getD c (0,0,0))).map D.int) none (some (-1))).length + 1<=1000:=by rw [e,List.length_map,xz]; omega
  refine w2 (λc1=>⟨k0,lz,?_⟩) λc1=>⟨k0,lz,?_⟩
  ·have z:c=cs.getD p 0:=by have:=of_decide_eq_true c1; omega
   rw [if_pos z]
   exact f w
  ·have z:c≠cs.getD p 0:=by have:=of_decide_eq_false c1; omega
   rw [if_neg z]
   exact f 0
 refine ⟨n,_,λk=>(tc T cs k).2.1,λk=>if k=p then w else 0,rfl,by omega,⟨by rw [List.length_map]; exact lc,λi d hd=>?_⟩,λi hi=>⟨(C.ok G hi).2.1,?_⟩,?_⟩
 ·obtain ⟨il,rfl⟩:=jp 0 hd
  refine .inr ?_
  show U (yE (((tc T cs i).1:Nat):Int) n (tc T cs i).2.1++[if cs.getD i 0=cs.getD p 0 then w else 0])=_
  rw [C.pl i (by omega)]
  unfold zc
  by_cases c:i=p
  ·rw [c,if_pos rfl,if_pos rfl]
  ·rw [if_neg c,if_neg λz=>c ?_]
   have h1:=C.pl i (by omega)
   have h2:=C.pl p pn
   rw [Jd,z] at h1
   rw [Jd] at h2
   omega
 ·show Bd 900 (if i=p then w else 0)
  split
  ·exact vF hw (by decide)
  ·exact wQ
 ·refine ⟨_,rfl,by rw [List.length_map,List.length_range]; omega,λx hx=>?_,⟨_,rfl,?_⟩⟩
  ·obtain ⟨k,hk,rfl⟩:=List.mem_map.mp hx
   have hk:=List.mem_range.mp hk
   show Bd 1000 ((if k=p then w else 0) * (tc T cs k).2.1)
   split
   ·exact vF (Yc hw (C.ok G hk).2.1) (by decide)
   ·rw [Int.zero_mul]; exact wQ
  ·have e:(List.range n).map (λk=>(if k=p then w else 0) * (tc T cs k).2.1)=(List.range n).map λk=>if k=p then w * (tc T cs k).2.1 else 0:=List.map_congr_left λk _=>by
    split
    ·rfl
    ·exact Int.zero_mul _
   rw [e]
   exact q
theorem zGG {c Pt:Addr} (hI:∀ H,yU.I H ↔ yI Pt "least_place.<locals>.<lambda>" ⟨163,27,163,54⟩ H) (hc:fd.code=.ref c) (T:wf base mg c Pt) (k2:2<=k) (F:zY K "least_place" "least_place" Qz f fd):zF P w K mg base zT (k + 1) f fd ["corner","fit"] (zG (WR)):=by
 refine JH F hc Q3 (λds R h=>by obtain ⟨cs,fs,rfl,_⟩:=h; rfl) λA outer s H E hr=>?_
 have hr2:=hr.mono k2
 refine ⟨_,(zJ (zKl 2 false Q3.nd rfl rfl (own:=["place"]) (caps:=[(1,"fit")]) (yM Q3) rfl rfl yX (xF rfl B.range_ (zB (yB yk yo rfl B.len_ ym (zB (zA 0) zC)) zC)) (λ_ _ _ _=>(zx 0 (zy ["place","fit"]))) (λ_ _ _ _=>(yx (zH (zA 1) (zA 0)))) (λ_ _ _ _=>(zA 0)) rfl)
  (zK (zV (zKo (iy:=0) hI T (zA 2) rfl hr2 rfl B.min_ zMI rfl rfl rfl rfl rfl rfl rfl (by decide) rfl rfl rfl (λ_ _ _ _=>rfl) (by decide) (by decide) (by decide) (by decide))))),λds R h=>?_⟩
 obtain ⟨cs,fs,rfl,lf,l9,q0,q1⟩:=h
 have lm:(cs.map λx=>D.int ((x:Nat):Int)).length=cs.length:=List.length_map ..
 refine ⟨by omega,by omega,?_⟩
 rw [lm,show ((cs.length:Nat):Int).toNat=cs.length by omega]
 refine JD.mk (by rw [vf]; omega) (λd=>fs.getD (v4 d) false) (λd e=>e=d) (λd hd=>?_) (λd hd _=>rfl) λes pe=>?_
 ·obtain ⟨j,hj⟩:=List.mem_iff_getElem?.mp hd
  obtain ⟨jl,rfl⟩:=vC hj
  refine ⟨_,xj false (by omega),?_⟩
  rw [WP]
  exact rfl
 cases zLA pe
 have e1:(rng0 cs.length).filter (λd=>fs.getD (v4 d) false)=(((List.range cs.length).filter λk=>fs.getD k false).map λ(k:Nat)=>(k:Int)).map D.int:=by
  unfold rng0
  rw [List.filter_map,List.map_map]
  congr 1
 rw [e1]
 have e2:(cN cs)=.lst ((cs.map λ(k:Nat)=>(k:Int)).map D.int):=by rw [List.map_map]; rfl
 refine ⟨_,_,rfl,by rw [<- e2]; rfl,λn hn=>?_,λz=>q0 λp hp=>?_,λn hn _=>?_⟩
 ·obtain ⟨k,hk,rfl⟩:=List.mem_map.mp hn
  have:=List.mem_range.mp (List.mem_filter.mp hk).1
  rw [List.length_map]
  omega
 ·cases h:fs.getD p false with
  | false=>rfl
  | true=>
   have:((p:Nat):Int)∈((List.range cs.length).filter λk=>fs.getD k false).map λ(k:Nat)=>(k:Int):=List.mem_map.mpr ⟨p,List.mem_filter.mpr ⟨List.mem_range.mpr hp,h⟩,rfl⟩
   rw [z] at this
   cases this
 ·obtain ⟨k,hk,rfl⟩:=List.mem_map.mp hn
  exact q1 k (List.mem_range.mp (List.mem_filter.mp hk).1) (List.mem_filter.mp hk).2
theorem zHo (F:zY K "first_met" "first_met" Q4 f fd) (ai:wO P w K mg base "fraction" ["top","bottom"] k (zG (u5)) (.int 1)) (au:Fn P w K mg base "paired" ["numbers","others"] k (zG (WE))) (bC:Fn P w K mg base "times" ["one","other"] k (zG (zON))) (bE:Fn P w K mg base "minus" ["one","other"] k (zG (zOT))) (ax:Fn P w K mg base "along" ["row","point"] k (zG (WN))) (aE:Fn P w K mg base "under" ["one","other"] k (zG (JY))):zF P w K mg base zT (k + 1) f fd ["room","point","way"] (zG (fFM)):=by
 refine zj F jh λ_ _ _ _ _ _ hr=>⟨_,(zJ (zS 3 jh.nd wx)
  (zJ (zS 4 jh.nd (uJ (.int 1) (λ_=>.int 1) ai hr rfl (zB zD zC)))
  (zJ (xX PassesOwn.never rfl (YE rfl B.enumerate_ (zB (zA 0) zC)) (xr rfl (zp 5 jh.nd (zp 6 jh.nd xq))) (zJ (zS 7 jh.nd (zL au hr rfl (zB (wz (zA 6) vO (we (x9 zD))) (zB (zA 2) zC))))
   (zK (yG (qh (zA 7) zD) (zJ (zS 8 jh.nd (zL bC hr rfl (zB (zL bE hr rfl (zB (uJ (.int 1) (λ_=>.int 1) ai hr rfl (zB (zH (zA 6) (x9 zD)) zC)) (zB (zL ax hr rfl (zB (zA 6) (zB (zA 1) zC))) zC))) (zB (zL ai.fn hr rfl (zB zD (zB (zA 7) zC))) zC))))
    (zK (yG (PW.pt (wD (j6 (zA 3) wx) (vB (yx (zL aE hr rfl (zB (zA 8) (zB (zA 4) zC))))))) (zJ (zS 3 jh.nd (zA 5))
     (zK (zS 4 jh.nd (zA 8)))) yF))) yF))))
  (zK (zV (zA 3)))))),λds R h=>?_⟩
 obtain ⟨n,T,vs,p,w,rfl,G,lv,bv,hw,pn,q0,q⟩:=h
 have n3:=G.n3
 have few:=G.few
 refine ⟨0,1,rfl,by decide,xN (by decide),?_⟩
 show _
 have lw:((List.range n).map λk=>if k=p then w else 0).length=n:=by rw [List.length_map,List.length_range]
 refine ⟨λk Γ=>∃ (me:D) (x:Int) (s5 s6 s7 s8:Sl),Γ=[.sh (y9 n T),.sh (xK vs),.sh (L ((List.range n).map λk=>if k=p then w else 0)),.sh me,.sh (dF x),s5,s6,s7,s8]/\Bd 1100 x/\((me=.non/\∀ j,j < k->¬ ((T.getD j (0,0,0)).1=p/\(T.getD j (0,0,0)).2.1 * w=1))\/∃ i:Nat,me=.int (i:Int)/\i < T.length/\(T.getD i (0,0,0)).1=p/\(T.getD i (0,0,0)).2.1 * w=1),⟨.non,0,_,_,_,_,rfl,wQ,.inl ⟨rfl,λj hj=>absurd hj (Nat.not_lt_zero j)⟩⟩,?_,?_⟩
 ·rintro k d Γ' hk ⟨me,x,s5,s6,s7,s8,rfl,bx,hme⟩
  obtain ⟨y,hy,rfl⟩:=qt hk
  obtain ⟨kl,rfl⟩:=jp (0,0,0) hy
  have hm:T.getD k (0,0,0)∈T:=uL kl
  generalize hb:T.getD k (0,0,0)=b at hm
  obtain ⟨h1,h2,h3⟩:=G.ok b hm
  have er:rI n b=yE (b.1:Int) n b.2.1++[b.2.1 * b.2.2]:=rfl
  refine ⟨_,_,yE (b.1:Int) n b.2.1,(List.range n).map (λk=>if k=p then w else 0),rfl,.inr (by rw [er,YR]),.inl rfl,by rw [xz]; omega,j8 (vF h2 (by decide)),λz hz=>?_,?_⟩
  ·obtain ⟨j,_,rfl⟩:=List.mem_map.mp hz
   split
   ·exact vF hw (by decide)
   ·exact wQ
  have es:zg (yE (b.1:Int) n b.2.1) ((List.range n).map λk=>if k=p then w else 0)=if b.1=p then b.2.1 * w else 0:=by
   rw [Je h1 lw,List.getD_eq_getElem?_getD,List.getElem?_map,List.getElem?_range h1]
   show b.2.1 * (if b.1=p then w else 0)=_
   split
   ·rfl
   ·exact Int.mul_zero _
  rw [es]
  have hs:=Yc h2 hw
  by_cases c:b.1=p/\b.2.1 * w=1
  ·rw [if_pos c.1,c.2]
   refine wT rfl ?_
   have bc:Bd 1000 (b.2.1 * b.2.2):=(Yd h2 h3).mono
   have e1:ya ((rI n b).map D.int) (-1)=some (.int (b.2.1 * b.2.2)):=JV _ _
   refine ⟨_,e1,_,_,rfl,by decide,xN (by decide),?_⟩
   show _
   refine ⟨yE (b.1:Int) n b.2.1,b.2.1 * b.2.2,vs.length,vs.map λ(v:Int)=>(v:Rat),1,401,1,by rw [j9]; rfl,by rw [xz]; omega,j8 (vF h2 (by decide)),q9 (by omega) (by decide) bv,?_⟩
   have bs:=zQU (us:=yE (b.1:Int) n b.2.1) (by omega) (j8 (vF h2 (by decide))) bv
   rw [qA,zOY]
   refine ⟨b.2.1 * b.2.2,_,by rw [show D.tup [D.int ((b.2.1 * b.2.2).fdiv (gI (b.2.1 * b.2.2) 1)),D.int (Int.fdiv 1 (gI (b.2.1 * b.2.2) 1))]=dF (b.2.1 * b.2.2) from u6 _],bc,bs,?_⟩
   refine ⟨_,_,rfl,by decide,xN (by decide),?_⟩
   have bd:Bd 1001 (b.2.1 * b.2.2 - zg (yE (b.1:Int) n b.2.1) vs):=bc.sub bs
   refine ⟨_,1,by rw [show D.tup [D.int (Int.fdiv 1 (gI 1 1)),D.int (Int.fdiv 1 (gI 1 1))]=dF 1 from u6 1],bd.mono,xN (by decide),by decide,?_⟩
   rw [u6]
   have fin:∃ (me:D) (x:Int) (s5 s6 s7 s8:Sl),[Sl.sh (y9 n T),.sh (xK vs),.sh (L ((List.range n).map λk=>if k=p then w else 0)),.sh (.int ((k:Nat):Int)),.sh (dF (b.2.1 * b.2.2 - zg (yE (b.1:Int) n b.2.1) vs)),.sh (.int ((k:Nat):Int)),.sh (U (rI n b)),.sh (.int 1),.sh (dF (b.2.1 * b.2.2 - zg (yE (b.1:Int) n b.2.1) vs))]=[.sh (y9 n T),.sh (xK vs),.sh (L ((List.range n).map λk=>if k=p then w else 0)),.sh me,.sh (dF x),s5,s6,s7,s8]/\Bd 1100 x/\((me=.non/\∀ j,j < k + 1->¬ ((T.getD j (0,0,0)).1=p/\(T.getD j (0,0,0)).2.1 * w=1))\/∃ i:Nat,me=.int (i:Int)/\i < T.length/\(T.getD i (0,0,0)).1=p/\(T.getD i (0,0,0)).2.1 * w=1):=⟨_,_,_,_,_,_,rfl,bd.mono,.inr ⟨k,rfl,kl,by rw [hb]; exact c⟩⟩
   rcases hme with ⟨rfl,hno⟩ | ⟨i,rfl,il,hi⟩
   ·refine wT rfl (wT rfl ?_)
    rw [Nat.zero_add]
    exact fin
   ·refine wF rfl ⟨_,_,rfl,bd.mono,bx.mono,w2 (λ_=>?_) λ_=>?_⟩
    ·rw [Nat.zero_add]
     exact fin
    ·exact ⟨_,x,_,_,_,_,rfl,bx,.inr ⟨i,rfl,il,hi⟩⟩
  ·have z:decide ((0:Int) < (if b.1=p then b.2.1 * w else 0))=false:=by
    refine decide_eq_false ?_
    split
    ·rename_i h
     rcases hs with y | y
     ·exact absurd ⟨h,y⟩ c
     ·rw [y]; decide
    ·decide
   refine wF z ⟨me,x,_,_,_,_,rfl,bx,?_⟩
   rcases hme with ⟨rfl,hno⟩ | hi
   ·refine .inl ⟨rfl,λj hj=>?_⟩
    by_cases jk:j=k
    ·rw [jk,hb]; exact c
    ·exact hno j (by omega)
   ·exact .inr hi
 ·rintro Γ' ⟨me,x,s5,s6,s7,s8,rfl,bx,hme⟩
  rcases hme with ⟨rfl,hno⟩ | ⟨i,rfl,il,hi⟩
  ·exact q0 λj hj=>hno j (by rw [j5,List.length_map]; exact hj)
  ·exact q i il hi.1 hi.2
theorem zLG (F:zY K "spread" "spread" Q5 f fd) (aH:Fn P w K mg base "over_one_bottom" ["values"] k (zG (gB))):zF P w K mg base zT (k + 1) f fd ["count","corner","weights"] (zG (gC)):=by
 refine zj F kA λ_ _ _ _ _ _ hr=>⟨_,(zJ (zS 3 kA.nd (zL aH hr rfl (zB (zA 2) zC)))
  (zJ (uf 4 true kA.nd rfl rfl (own:=["number"]) (caps:=[]) (yM kA) rfl rfl yX (xF rfl B.range_ (zB (zA 0) zC)) (λ_ _ _ _=>(zx 0 (zy ["number"]))) (λ_ _ _ _=>zD) rfl)
  (zJ (xX PassesOwn.never rfl (ud rfl B.zip_ (zB (zA 1) (zB (zH (zA 3) zD) zC))) (xr rfl (zp 5 kA.nd (zp 6 kA.nd xq))) (zK (yG (gh (zA 5) (zA 0)) (zK (yb (XV (zA 6) (Wz (xU 4) (zA 5) qU)) U7)) yF)))
  (zK (vP 4 (zV (yP (zB (zH (zA 3) zD) (zB (zA 4) zC))))))))),λds R h=>?_⟩
 obtain ⟨m,cs,xs,rfl,m1,l1,l2,bx,q⟩:=h
 refine ⟨xs,rfl,l2,bx,by omega,by omega,?_⟩
 rw [show ((m:Nat):Int).toNat=m by omega]
 refine zq.rng0 (λ_=>.int 0) (by omega) (λk hk=>rfl) ⟨_,rfl,?_⟩
 refine ⟨λk Γ=>∃ (zs:List Int) (s5 s6:Sl),Γ=[.sh (.int (m:Int)),.sh (cN cs),.sh (xK xs),.sh (.tup [.int 1,L xs]),.ow (zs.map D.int),s5,s6]/\zs.length=m,⟨List.replicate m 0,.no,.no,by rw [show ((List.range m).map λ_=>D.int 0)=(List.replicate m (0:Int)).map D.int by rw [List.map_replicate,List.map_const',List.length_range]]; rfl,List.length_replicate⟩,?_,?_⟩
 ·rintro k d Γ' hk ⟨zs,s5,s6,rfl,lz⟩
  obtain ⟨c,x,hc,hx,rfl⟩:=zwq (u:=λx:Nat=>D.int ((x:Nat):Int)) (v:=D.int) hk
  refine w2 (λc1=>?_) λc1=>⟨zs,_,_,rfl,lz⟩
  have cm:c < m:=by have:=of_decide_eq_true c1; omega
  refine ⟨_,c,rfl,?_,zs.set c x,.sh (.int ((c:Nat):Int)),.sh (.int x),?_,by rw [List.length_set]; exact lz⟩
  ·unfold wI
   rw [if_pos (by omega),if_pos (by rw [List.length_map]; omega)]
   congr 1
  ·rw [List.map_set]
   rfl
 ·rintro Γ' ⟨zs,s5,s6,rfl,lz⟩
  exact ⟨_,rfl,k0,q zs⟩
theorem zFo (F:zY K "first_broken" "first_broken" Q6 f fd) (aI:Fn P w K mg base "holds" ["row","point"] k (zG (Ja))):zF P w K mg base zT (k + 1) f fd ["room","point"] (zG (fFB)):=by
 refine zj F Q7 λ_ _ _ _ _ _ hr=>⟨_,(zJ (xX PassesOwn.never rfl (YE rfl B.enumerate_ (zB (zA 0) zC)) (xr rfl (zp 2 Q7.nd (zp 3 Q7.nd xq))) (zK (yG (xa (yx (zL aI hr rfl (zB (zA 3) (zB (zA 1) zC))))) (zK (zV (zA 2))) yF)))
  (zK (zV wx))),λds R h=>?_⟩
 obtain ⟨n,T,vs,rfl,G,lv,bv,q0,q⟩:=h
 have n3:=G.n3
 refine ⟨λk Γ=>∃ s2 s3,Γ=[.sh (y9 n T),.sh (xK vs),s2,s3]/\∀ j,j < k->j < T.length->(T.getD j (0,0,0)).2.1 * vs.getD (T.getD j (0,0,0)).1 0<=(T.getD j (0,0,0)).2.1 * (T.getD j (0,0,0)).2.2,⟨_,_,rfl,λj hj=>absurd hj (Nat.not_lt_zero j)⟩,?_,?_⟩
 ·rintro k d Γ' hk ⟨s2,s3,rfl,hh⟩
  obtain ⟨x,hx,rfl⟩:=qt hk
  obtain ⟨kl,rfl⟩:=jp (0,0,0) hx
  obtain ⟨h1,h2,h3⟩:=G.ok _ (uL (z:=(0,0,0)) kl)
  refine ⟨yE ((T.getD k (0,0,0)).1:Int) n (T.getD k (0,0,0)).2.1,vs,(T.getD k (0,0,0)).2.1 * (T.getD k (0,0,0)).2.2,rfl,by rw [xz]; omega,by rw [xz]; omega,j8 (vF h2 (by decide)),bv,(Yd h2 h3).mono,?_⟩
  rw [Je h1 lv]
  refine w2 (λc1=>?_) λc1=>⟨_,_,rfl,λj hj jl=>?_⟩
  ·rw [Nat.zero_add]
   exact q k kl (Int.not_le.mp (of_decide_eq_false (YT c1)))
  ·by_cases z:j=k
   ·rw [z]
    exact of_decide_eq_true (zNq c1)
   ·exact hh j (by omega) jl
 ·rintro Γ' ⟨s2,s3,rfl,hh⟩
  rw [j5,List.length_map] at hh
  refine q0 λb hb=>?_
  obtain ⟨j,hj,rfl⟩:=List.mem_iff_getElem.mp hb
  have:=hh j hj hj
  rw [List.getD_eq_getElem?_getD,List.getElem?_eq_getElem hj] at this
  exact this
theorem zFn (F:zY K "first_corner" "first_corner" Q8 f fd) (ay:Fn P w K mg base "weights_of" ["rows","corner","row"] k (zG (WQ))) (az:Fn P w K mg base "least_place" ["corner","fit"] k (zG (WR))) (aA:Fn P w K mg base "exchanged" ["corner","place","number"] k (zG (jZ))):zF P w K mg base zT (k + 1) f fd ["rows","count"] (zG (fFC)):=by
 refine zj F gK λ_ _ _ _ _ _ hr=>⟨_,(zJ (zS 2 gK.nd (zO1 rfl rfl B.list_ rfl B.range_ (zA 1) (yB yk yo rfl B.len_ ym (zB (zA 0) zC))))
  (zJ (xX PassesOwn.never rfl (xF rfl B.range_ (zB (zA 1) zC)) (zx 3 gK.nd) (zJ (yG (gh (yB (zMF rfl) zNh rfl B.max_ zH3 (zB (zA 2) zC)) (zA 1)) (zK (zV (zA 2))) yF)
   (zJ (zS 4 gK.nd (zL ay hr rfl (zB (zA 0) (zB (zA 2) (zB (zH (zA 0) (zA 3)) zC)))))
   (zJ (zS 5 gK.nd (zL az hr rfl (zB (zA 2) (zB (yh (own:=["axis","weight"]) (caps:=[(1,"count")]) (yM gK) rfl rfl (jM (wq (wq jN))) (ud rfl B.zip_ (zB (zA 2) (zB (zA 4) zC))) (λ_ _ _ _=>(xr rfl (zp 0 (zy ["axis","weight","count"]) (zp 1 (zy ["axis","weight","count"]) xq)))) (λ_ _ _ _=>(vN (Ui (zA 0) (zA 2)) (uG (zQl hr.units (zH (zA 1) zD) zD))))) zC))))
   (zK (yG (zMl (zA 5) wx) (zK (zS 2 gK.nd (zL aA hr rfl (zB (zA 2) (zB (zA 5) (zB (zA 3) zC)))))) yF))))))
  (zK (zV (zA 2))))),λds R h=>?_⟩
 obtain ⟨n,T,rfl,G,T5,hc,q⟩:=h
 have n3:=G.n3
 have n1:=G.n1
 have GA:=Jf G T5
 have la:(yi n).length=n:=by unfold yi; rw [List.length_map,List.length_range]
 have lr:((T++yi n).map λb=>U (rI n b)).length=T.length + n:=by rw [List.length_map,List.length_append,la]
 refine ⟨_,_,rfl,rfl,by omega,by omega,by omega,by omega,?_⟩
 have e0:D.lst ((List.range ((((((T++yi n).map λb=>U (rI n b)).length:Nat):Int) - ((T.length:Nat):Int)).toNat)).map λ(k:Nat)=>D.int (((T.length:Nat):Int) + (k:Int)))=cN ((List.range n).map λk=>T.length + k):=by
  rw [lr,show ((((T.length + n:Nat)):Int) - ((T.length:Nat):Int)).toNat=n by omega]
  unfold cN
  rw [List.map_map]
  refine congrArg D.lst (List.map_congr_left λk _=>?_)
  show D.int (((T.length:Nat):Int) + ((k:Nat):Int))=D.int (((T.length + k:Nat)):Int)
  rw [Int.natCast_add]
 rw [e0]
 refine ⟨by omega,by omega,?_⟩
 rw [show ((T.length:Nat):Int).toNat=T.length by omega]
 refine ⟨λk Γ=>∃ cs s3 s4 s5,Γ=[.sh (y9 n (T++yi n)),.sh (.int ((T.length:Nat):Int)),.sh (cN cs),s3,s4,s5]/\Co n (T++yi n) cs/\∀ p,p < n->T.length<=cs.getD p 0->∀ j,j < k->(T.getD j (0,0,0)).1≠p,⟨(List.range n).map λk=>T.length + k,.no,.no,.no,rfl,⟨by rw [List.length_map,List.length_range],λk hk=>?_,λk hk=>?_⟩,λp hp _ j hj=>absurd hj (Nat.not_lt_zero j)⟩,?_,?_⟩
 ·rw [List.getD_eq_getElem?_getD,List.getElem?_map,List.getElem?_range hk,List.length_append,la]
  show T.length + k < T.length + n
  omega
 ·unfold tc
  rw [List.getD_eq_getElem?_getD (l:=List.map _ _),List.getElem?_map,List.getElem?_range hk]
  show ((T++yi n).getD (T.length + k) (0,0,0)).1=k
  rw [List.getD_eq_getElem?_getD,List.getElem?_append_right (by omega),show T.length + k - T.length=k by omega]
  unfold yi
  rw [List.getElem?_map,List.getElem?_range hk]
  rfl
 ·rintro k d Γ' hk ⟨cs,s3,s4,s5,rfl,C,hno⟩
  obtain ⟨kl,rfl⟩:=vC hk
  have lc:=C.len
  refine ⟨cs.map λ(x:Nat)=>(x:Int),by rw [List.map_map]; rfl,by rw [List.length_map]; omega,λM hM hmax=>w2 (λc1=>?_) λc1=>?_⟩
  ·have c1:=of_decide_eq_true c1
   refine q cs (C.cut λp hp=>?_)
   have:((cs.getD p 0:Nat):Int)<=M:=hmax _ (List.mem_map.mpr ⟨_,uL (by omega),rfl⟩)
   omega
  have hm:T.getD k (0,0,0)∈T:=uL kl
  have hm2:(T++yi n).getD k (0,0,0)=T.getD k (0,0,0):=WS kl
  generalize hb:T.getD k (0,0,0)=b at hm hm2
  obtain ⟨h1,h2,h3⟩:=G.ok b hm
  refine ⟨_,xj (0,0,0) (by rw [List.length_append]; omega),n,T++yi n,cs,yE (b.1:Int) n b.2.1,b.2.1 * b.2.2,by rw [hm2]; rfl,GA,C,xz ..,j8 (vF h2 (by decide)),?_⟩
  refine zRt (λx:Nat=>D.int ((x:Nat):Int)) v4 WP (λc y=>decide (T.length<=c) && !decide (wt y=0)) (by omega) (λc y hcy=>?_) ?_
  ·have hy:=(List.of_mem_zip hcy).2
   obtain ⟨x,_,rfl⟩:=List.mem_map.mp hy
   refine w2 (λc1=>⟨_,rfl,?_⟩) λc1=>?_
   ·have z:decide (T.length<=c)=true:=decide_eq_true (by have:=of_decide_eq_true c1; omega)
    show D.bool (!decide (x=0))=D.bool (_ && !decide (x=0))
    rw [z]
    rfl
   ·have z:decide (T.length<=c)=false:=decide_eq_false (by have:=of_decide_eq_false c1; omega)
    rw [z]
    rfl
  have key:∀ p,p < n->((cs.zip (((List.range n).map λk=>(yE (b.1:Int) n b.2.1).getD k 0 * (tc (T++yi n) cs k).2.1).map dF)).map λq=>(λc y=>decide (T.length<=c) && !decide (wt y=0)) q.1 q.2).getD p false=(decide (T.length<=cs.getD p 0) && decide (p=b.1)):=λp hp=>by
   rw [zIy (g:=λc y=>decide (T.length<=c) && !decide (wt y=0)) (by omega) (by rw [List.length_map,List.length_map,List.length_range]; exact hp),zL8 hp]
   show (_ && !decide ((yE (b.1:Int) n b.2.1).getD p 0 * (tc (T++yi n) cs p).2.1=0))=_
   congr 1
   rw [zHT hp]
   have hs:=gq (C.ok GA hp).2.1
   by_cases c:p=b.1
   ·rw [if_pos c,decide_eq_true c,decide_eq_false (Int.mul_ne_zero (gq h2) hs)]
    rfl
   ·rw [if_neg c,Int.zero_mul,decide_eq_false c]
    rfl
  refine ⟨cs,_,rfl,by rw [List.length_map,List.length_zip,List.length_map,List.length_map,List.length_range]; omega,by omega,λhz=>wF rfl ⟨cs,_,_,_,rfl,C,λp hp hT j hj=>?_⟩,λp hp hf=>wT rfl ⟨cs,p,k,rfl,hp,by omega,cs.set p k,_,_,_,rfl,C.set (by omega) (by rw [List.length_append]; omega) ?_,λp' hp' hT j hj=>?_⟩⟩
  ·by_cases jk:j=k
   ·rw [jk,hb]
    intro z
    have:=hz p (by omega)
    rw [key p hp,decide_eq_true hT,decide_eq_true z.symm] at this
    cases this
   ·exact hno p hp hT j (by omega)
  ·rw [key p (by omega),Bool.and_eq_true] at hf
   rw [hm2]
   exact (of_decide_eq_true hf.2).symm
  ·rw [key p (by omega),Bool.and_eq_true] at hf
   rw [gD hp] at hT
   by_cases pp:p'=p
   ·rw [if_pos pp] at hT
    omega
   ·rw [if_neg pp] at hT
    by_cases jk:j=k
    ·rw [jk,hb]
     have:=of_decide_eq_true hf.2
     omega
    ·exact hno p' hp' hT j (by omega)
 ·rintro Γ' ⟨cs,s3,s4,s5,rfl,C,hno⟩
  rw [vf] at hno
  refine q cs (C.cut λp hp=>?_)
  obtain ⟨b,hb,e⟩:=hc p hp
  obtain ⟨j,hj,ej⟩:=List.mem_iff_getElem.mp hb
  by_cases z:T.length<=cs.getD p 0
  ·refine absurd ?_ (hno p hp z j hj)
   rw [List.getD_eq_getElem?_getD,List.getElem?_eq_getElem hj]
   show T[j].1=p
   rw [ej]
   exact e
  ·omega
theorem zJ7 (F:zY K "climbed" "climbed" Q9 f fd) (aJ:Fn P w K mg base "corner_point" ["rows","corner"] k (zG (Jc))) (ay:Fn P w K mg base "weights_of" ["rows","corner","row"] k (zG (WQ))) (az:Fn P w K mg base "least_place" ["corner","fit"] k (zG (WR))) (aK:Fn P w K mg base "spread" ["count","corner","weights"] k (zG (gC))) (ax:Fn P w K mg base "along" ["row","point"] k (zG (WN))) (bF:Fn P w K mg base "way_off" ["rows","corner","place","number"] k (zG (Yg))) (bG:Fn P w K mg base "first_met" ["room","point","way"] k (zG (fFM))) (aA:Fn P w K mg base "exchanged" ["corner","place","number"] k (zG (jZ))):zF P w K mg base zT (k + 1) f fd ["rows","count","corner","row"] (zG (Yi)):=by
 refine zj F qD λ_ _ _ _ _ _ hr=>⟨_,(zK (JI PassesOwn.never (yx xn) (zJ (zS 4 qD.nd (zL aJ hr rfl (zB (zA 0) (zB (zA 2) zC))))
   (zJ (zS 5 qD.nd (zL ay hr rfl (zB (zA 0) (zB (zA 2) (zB (zA 3) zC)))))
   (zJ (zS 6 qD.nd (zL az hr rfl (zB (zA 2) (zB (yh (own:=["number","weight"]) (caps:=[(1,"count")]) (yM qD) rfl rfl (jM (wq (wq jN))) (ud rfl B.zip_ (zB (zA 2) (zB (zA 5) zC))) (λ_ _ _ _=>(xr rfl (zp 0 (zy ["number","weight","count"]) (zp 1 (zy ["number","weight","count"]) xq)))) (λ_ _ _ _=>(Zc (zQm (zH (zA 1) zD) zD) (uG (vN (Ui (zA 0) (zA 2)) (uG (zQl hr.units (zH (zA 1) zD) zD))))))) zC))))
   (zJ (yG (j6 (zA 6) wx) (zK (zV (yP (zB uv (zB (zL ax hr rfl (zB (zA 3) (zB (zA 4) zC))) (zB (zL aK hr rfl (zB (zA 1) (zB (zA 2) (zB (zA 5) zC)))) (zB (zA 4) zC))))))) yF)
   (zJ (zS 7 qD.nd (zL bF hr rfl (zB (zA 0) (zB (zA 2) (zB (zA 6) (zB (Zd (qh (zH (zH (zA 5) (zA 6)) zD) zD) zD (x9 zD)) zC))))))
   (zJ (zS 8 qD.nd (zL bG hr rfl (zB (wz (zA 0) vO (we (zA 1))) (zB (zA 4) (zB (zA 7) zC)))))
   (zJ (yG (j6 (zA 8) wx) (zK (zV (yP (zB uv (zB (zA 4) (zB (zA 7) zC)))))) yF)
   (zK (zS 2 qD.nd (zL aA hr rfl (zB (zA 2) (zB (zA 6) (zB (zA 8) zC))))))))))))))),λds R h=>?_⟩
 obtain ⟨n,T,cs,us,b,bx,rfl,G,T5,C,lu,bu,B,q0,q1⟩:=h
 have n3:=G.n3
 have n1:=G.n1
 have GA:=Jf G T5
 have bu4:∀ x∈us,Bd 400 x:=λx hx=>(bu x hx).mono
 refine ⟨λm Γ=>∃ cs s4 s5 s6 s7 s8,Γ=[.sh (y9 n (T++yi n)),.sh (.int ((T.length:Nat):Int)),.sh (cN cs),.sh (U (us++[b])),s4,s5,s6,s7,s8]/\Co n T cs/\Jg n us T cs=m,⟨_,cs,.no,.no,.no,.no,.no,rfl,C,rfl⟩,?_⟩
 rintro m Γ' ⟨cs,s4,s5,s6,s7,s8,rfl,C,rfl⟩
 have lc:=C.len
 have CA:Co n (T++yi n) cs:=C.app
 refine wT rfl ⟨n,T++yi n,cs,rfl,GA,CA,n,T++yi n,cs,us,b,rfl,GA,CA,lu,bu4,?_⟩
 have ta:∀ k,k < n->tc (T++yi n) cs k=tc T cs k:=λk hk=>WT (C.lt k hk)
 have eP:((List.range n).map λk=>(tc (T++yi n) cs k).2.2)=(List.range n).map λk=>(tc T cs k).2.2:=List.map_congr_left λk hk=>by rw [ta k (List.mem_range.mp hk)]
 have eW:((List.range n).map λk=>us.getD k 0 * (tc (T++yi n) cs k).2.1)=(List.range n).map λk=>us.getD k 0 * (tc T cs k).2.1:=List.map_congr_left λk hk=>by rw [ta k (List.mem_range.mp hk)]
 rw [eP,eW]
 refine zRt (λx:Nat=>D.int ((x:Nat):Int)) v4 WP (λc y=>decide (wt y < 0) || (decide (T.length<=c) && !decide (wt y=0))) (by omega) (λc y hcy=>?_) ?_
 ·have hy:=(List.of_mem_zip hcy).2
  obtain ⟨x,_,rfl⟩:=List.mem_map.mp hy
  refine ⟨_,rfl,w2 (λc0=>?_) λc0=>w2 (λc1=>⟨_,rfl,?_⟩) λc1=>?_⟩
  ·show D.bool true=D.bool (decide (x < 0) || _)
   rw [show decide (x < 0)=true from c0]
   rfl
  ·have z:decide (T.length<=c)=true:=decide_eq_true (by have:=of_decide_eq_true c1; omega)
   show D.bool (!decide (x=0))=D.bool (decide (x < 0) || (_ && !decide (x=0)))
   rw [show decide (x < 0)=false from c0,z]
   rfl
  ·have z:decide (T.length<=c)=false:=decide_eq_false (by have:=of_decide_eq_false c1; omega)
   show D.bool false=D.bool (decide (x < 0) || (_ && !decide (x=0)))
   rw [show decide (x < 0)=false from c0,z]
   rfl
 have key:∀ p,p < n->((cs.zip (((List.range n).map λk=>us.getD k 0 * (tc T cs k).2.1).map dF)).map λq=>(λc y=>decide (wt y < 0) || (decide (T.length<=c) && !decide (wt y=0))) q.1 q.2).getD p false=decide (us.getD p 0 * (tc T cs p).2.1 < 0):=λp hp=>by
  rw [zIy (g:=λc y=>decide (wt y < 0) || (decide (T.length<=c) && !decide (wt y=0))) (by omega) (by rw [List.length_map,List.length_map,List.length_range]; exact hp),zL8 hp]
  show (decide (us.getD p 0 * (tc T cs p).2.1 < 0) || (decide (T.length<=cs.getD p 0) && _))=_
  rw [decide_eq_false (show ¬ T.length<=cs.getD p 0 by have:=C.lt p hp; omega),Bool.false_and,Bool.or_false]
 have bP:∀ x∈(List.range n).map (λk=>(tc T cs k).2.2),Bd 400 x:=λx hx=>by
  obtain ⟨k,hk,rfl⟩:=List.mem_map.mp hx
  exact (C.ok G (List.mem_range.mp hk)).2.2.mono
 have bW:∀ k,k < n->Bd 1000 (us.getD k 0 * (tc T cs k).2.1):=λk hk=>by
  rw [Int.mul_comm]
  exact (Yd (C.ok G hk).2.1 (wP bu k)).mono
 refine ⟨cs,_,rfl,by rw [List.length_map,List.length_zip,List.length_map,List.length_map,List.length_range]; omega,by omega,λhz=>wT rfl ?_,λp hp hf=>wF rfl ?_⟩
 ·refine ⟨us,b,n,((List.range n).map λk=>(tc T cs k).2.2).map λ(v:Int)=>(v:Rat),1,401,1,by rw [j9],lu,bu4,by have:=q9 (by rw [List.length_map,List.length_range]; omega) (by decide) bP; rw [List.length_map,List.length_range] at this; exact this,?_⟩
  rw [qA,zOY]
  refine ⟨T.length,cs,_,rfl,by omega,by omega,by rw [List.length_map,List.length_range]; omega,λx hx=>?_,λzs=>⟨k0,?_⟩⟩
  ·obtain ⟨k,hk,rfl⟩:=List.mem_map.mp hx
   exact bW k (List.mem_range.mp hk)
  ·have hn:∀ k,k < n->0<=us.getD k 0 * (tc T cs k).2.1:=λk hk=>by
    have:=hz k (by omega)
    rw [key k hk] at this
    have:=of_decide_eq_false this
    omega
   have et:zg us ((List.range n).map λk=>(tc T cs k).2.2)=xv us bx:=zQN (c:=λk=>(tc T cs k).2.1) lu B.len λk hk=>⟨B.le k hk,hn k hk,WV B C G hk⟩
   rw [et]
   refine q1 (λ⟨p,pn,u0,hb⟩=>?_) _ _ ⟨by rw [List.length_map,List.length_range],λk hk=>?_,λx hx=>?_,et⟩
   ·have h1:=hb _ (uL (C.lt p pn)) (C.pl p pn)
    have h2:=hn p pn
    have h3:us.getD p 0 * (tc T cs p).2.1=0:=by
     have:¬ 0 < us.getD p 0 * (tc T cs p).2.1:=h1
     omega
    rcases Int.mul_eq_zero.mp h3 with z | z
    ·exact u0 z
    ·exact gq (C.ok G pn).2.1 z
   ·have:=B.le k hk
    rw [Jh hk]
    rcases WV B C G hk with ⟨_,y⟩ | ⟨_,y⟩ <;> rw [y] <;> omega
   ·obtain ⟨k,hk,rfl⟩:=List.mem_map.mp hx
    exact (C.ok G (List.mem_range.mp hk)).2.2
 ·have pn:p < n:=by omega
  rw [key p pn] at hf
  have wn:=of_decide_eq_true hf
  have cp:=(C.ok G pn).2.1
  refine ⟨_,xj 0 (by rw [List.length_map,List.length_range]; exact pn),?_⟩
  rw [Jh pn]
  refine ⟨_,rfl,wF (decide_eq_false (by omega)) ⟨n,T++yi n,cs,p,-1,rfl,GA,CA,pn,.inr rfl,?_⟩⟩
  have eV:((List.range n).map λk=>if k=p then -1 * (tc (T++yi n) cs k).2.1 else 0)=(List.range n).map λk=>if k=p then -1 * (tc T cs p).2.1 else 0:=List.map_congr_left λk hk=>by
   by_cases z:k=p
   ·rw [if_pos z,if_pos z,z,ta p pn]
   ·rw [if_neg z,if_neg z]
  rw [eV]
  have hw : -1 * (tc T cs p).2.1=1\/-1 * (tc T cs p).2.1 = -1:=by rcases cp with z | z <;> rw [z] <;> decide
  refine ⟨n,T,_,p,_,by rw [Yh],G,by rw [List.length_map,List.length_range],bP,hw,pn,λhno=>wT rfl ⟨k0,q0 ⟨p,pn,λz=>?_,λb hb bp h=>?_⟩ _ _⟩,λi hi e1 e2=>wF rfl ⟨cs,p,i,rfl,by omega,by omega,Jg n us T (cs.set p i),?_,cs.set p i,_,_,_,_,_,rfl,C.set pn hi e1,rfl⟩⟩
  ·rw [z,Int.zero_mul] at wn
   exact Int.lt_irrefl _ wn
  ·obtain ⟨j,hj,rfl⟩:=List.mem_iff_getElem.mp hb
   have z:=hno j hj
   rw [List.getD_eq_getElem?_getD,List.getElem?_eq_getElem hj] at z
   have z:¬ (T[j].1=p/\T[j].2.1 * (-1 * (tc T cs p).2.1)=1):=z
   rcases (G.ok _ hb).2.1 with a | a
   ·rcases cp with c | c
    ·rw [a] at h; rw [c] at wn; omega
    ·exact z ⟨bp,by rw [a,c]; rfl⟩
   ·rcases cp with c | c
    ·exact z ⟨bp,by rw [a,c]; rfl⟩
    ·rw [a] at h; rw [c] at wn; omega
  ·unfold Jg
   have hl:p < cs.length:=by omega
   have ec:(T.getD i (0,0,0)).2.1 = -1 * (tc T cs p).2.1:=by
    rcases (G.ok _ (uL hi)).2.1 with z | z
    ·rw [z] at e2 |-; omega
    ·rw [z] at e2 |-; omega
   refine zNz n pn (λk hk=>?_) ?_
   ·have:tc T (cs.set p i) k=tc T cs k:=by unfold tc; rw [gD hl,if_neg hk]
    rw [this]
   ·have:tc T (cs.set p i) p=T.getD i (0,0,0):=by unfold tc; rw [gD hl,if_pos rfl]
    show (if us.getD p 0 * (tc T (cs.set p i) p).2.1 < 0 then 1 else 0) < (if us.getD p 0 * (tc T cs p).2.1 < 0 then 1 else 0)
    rw [this,ec,if_pos wn,if_neg ?_]
    ·decide
    ·have:us.getD p 0 * (-1 * (tc T cs p).2.1) = -(us.getD p 0 * (tc T cs p).2.1):=by grind
     omega
theorem zPU (F:zY K "most" "most" KA f fd) (bH:Fn P w K mg base "axes" ["many"] k (zG (zRn))) (bI:Fn P w K mg base "first_corner" ["rows","count"] k (zG (fFC))) (bJ:Fn P w K mg base "first_broken" ["room","point"] k (zG (fFB))) (aJ:Fn P w K mg base "corner_point" ["rows","corner"] k (zG (Jc))) (bK:Fn P w K mg base "climbed" ["rows","count","corner","row"] k (zG (Yi))) (ay:Fn P w K mg base "weights_of" ["rows","corner","row"] k (zG (WQ))) (az:Fn P w K mg base "least_place" ["corner","fit"] k (zG (WR))) (ai:wO P w K mg base "fraction" ["top","bottom"] k (zG (u5)) (.int 1)) (aK:Fn P w K mg base "spread" ["count","corner","weights"] k (zG (gC))) (aA:Fn P w K mg base "exchanged" ["corner","place","number"] k (zG (jZ))):zF P w K mg base zT (k + 1) f fd ["room","row"] (zG (zRl)):=by
 refine zj F um λ_ _ _ _ _ _ hr=>⟨_,(zJ (zS 2 um.nd (yB yk yo rfl B.len_ ym (zB (zA 0) zC)))
  (zJ (zS 3 um.nd (zw (zA 0) (zL bH hr rfl (zB (wo (yB yk yo rfl B.len_ ym (zB (zA 1) zC)) zD) zC))))
  (zJ (zS 4 um.nd (zL bI hr rfl (zB (zA 3) (zB (zA 2) zC))))
  (zK (JI PassesOwn.never (yx xn) (zJ (zS 5 um.nd (zL bJ hr rfl (zB (zA 0) (zB (zL aJ hr rfl (zB (zA 3) (zB (zA 4) zC))) zC))))
   (zJ (yG (j6 (zA 5) wx) (zK (zV (zL bK hr rfl (zB (zA 3) (zB (zA 2) (zB (zA 4) (zB (zA 1) zC))))))) yF)
   (zJ (zS 6 um.nd (zL ay hr rfl (zB (zA 3) (zB (zA 4) (zB (zH (zA 3) (zA 5)) zC)))))
   (zJ (zS 7 um.nd (zL az hr rfl (zB (zA 4) (zB (yh (own:=["weight"]) (caps:=[]) (yM um) rfl rfl yX (xR (zA 6)) (λ_ _ _ _=>(zx 0 (zy ["weight"]))) (λ_ _ _ _=>(zQn (zH (zA 0) zD) zD))) zC))))
   (zJ (yG (j6 (zA 7) wx) (zJ (uf 8 false um.nd rfl rfl (own:=["weight"]) (caps:=[]) (yM um) rfl rfl yX (xR (zA 6)) (λ_ _ _ _=>(zx 0 (zy ["weight"]))) (λ_ _ _ _=>(zL ai.fn hr rfl (zB (x9 (zH (zA 0) zD)) (zB (zH (zA 0) zD) zC)))) rfl)
    (zK (zV (yP (zB uv (zB (yP (zB zD (zB (zH (zL aK hr rfl (zB (zA 2) (zB (zw (zA 4) (xM (zB (zA 5) zC))) (zB (zw (zA 8) (xM (zB (uJ (.int 1) (λ_=>.int 1) ai hr rfl (zB zD zC)) zC))) zC)))) zD) zC))) zC)))))) yF)
   (zK (zS 4 um.nd (zL aA hr rfl (zB (zA 4) (zB (zA 7) (zB (zA 5) zC)))))))))))))))),λds R h=>?_⟩
 obtain ⟨n,T,us,b,rfl,G,T5,has,lu,bu,q⟩:=h
 have n3:=G.n3
 have n1:=G.n1
 have GA:=Jf G T5
 have lr:((us++[b]).map D.int).length=n + 1:=by rw [List.length_map,List.length_append,lu]; rfl
 have lT:(T.map λb=>U (rI n b)).length=T.length:=List.length_map ..
 have la:(yi n).length=n:=by unfold yi; rw [List.length_map,List.length_range]
 refine ⟨n,by rw [lr,show (((n + 1:Nat):Int) - 1)=(n:Int) by omega],n3,by rw [lT,List.length_map,la]; omega,?_⟩
 rw [<- List.map_append,lT]
 refine ⟨n,T,rfl,G,T5,has,λcs C=>?_⟩
 refine ⟨λm Γ=>∃ cs s5 s6 s7 s8,Γ=[.sh (y9 n T),.sh (U (us++[b])),.sh (.int ((T.length:Nat):Int)),.sh (y9 n (T++yi n)),.sh (cN cs),s5,s6,s7,s8]/\Co n T cs/\T.countP (v5 T cs)=m,⟨_,cs,.no,.no,.no,.no,rfl,C,rfl⟩,?_⟩
 clear C cs
 rintro m Γ' ⟨cs,s5,s6,s7,s8,rfl,C,rfl⟩
 have CA:Co n (T++yi n) cs:=C.app
 have lc:=C.len
 refine wT rfl ⟨n,T++yi n,cs,rfl,GA,CA,?_⟩
 have ta:∀ k,k < n->tc (T++yi n) cs k=tc T cs k:=λk hk=>WT (C.lt k hk)
 have eP:((List.range n).map λk=>(tc (T++yi n) cs k).2.2)=(List.range n).map λk=>(tc T cs k).2.2:=List.map_congr_left λk hk=>by rw [ta k (List.mem_range.mp hk)]
 rw [eP]
 refine ⟨n,T,_,rfl,G,by rw [List.length_map,List.length_range],λx hx=>?_,λhh=>?_,λi hi hv=>?_⟩
 ·obtain ⟨k,hk,rfl⟩:=List.mem_map.mp hx
  exact (C.ok G (List.mem_range.mp hk)).2.2.mono
 ·rcases q with ⟨⟨a,ha,c,hc,e1,e2,e3,e4⟩,q⟩ | ⟨bx,q⟩
  ·have h1:=hh a ha
   have h2:=hh c hc
   rw [e2,e1] at h1
   rw [e3] at h2
   omega
  ·exact wT rfl ⟨n,T,cs,us,b,bx,rfl,G,T5,C,lu,bu,q⟩
 generalize hb:T.getD i (0,0,0)=r at hv
 have hr:r∈T:=by rw [<- hb]; exact uL hi
 obtain ⟨h1,h2,h3⟩:=G.ok r hr
 rw [Jh h1] at hv
 rcases q with ⟨_,q⟩ | ⟨bx,B,_⟩
 rotate_left
 ·have hl:=B.le r.1 h1
  rcases h2 with z | z
  ·have e:=B.up r hr z
   rcases WV B C G h1 with ⟨_,y⟩ | ⟨_,y⟩ <;> rw [z,e,y] at hv <;> omega
  ·have e:=B.dn r hr z
   rcases WV B C G h1 with ⟨_,y⟩ | ⟨_,y⟩ <;> rw [z,e,y] at hv <;> omega
 have hm2:(T++yi n).getD i (0,0,0)=r:=(WS hi).trans hb
 refine wF rfl ⟨_,xj (0,0,0) (by rw [List.length_append]; omega),n,T++yi n,cs,yE (r.1:Int) n r.2.1,r.2.1 * r.2.2,by rw [hm2]; rfl,GA,CA,xz ..,j8 (vF h2 (by decide)),?_⟩
 have eW:((List.range n).map λk=>(yE (r.1:Int) n r.2.1).getD k 0 * (tc (T++yi n) cs k).2.1)=(List.range n).map λk=>if k=r.1 then r.2.1 * (tc T cs k).2.1 else 0:=List.map_congr_left λk hk=>by
  have hk:=List.mem_range.mp hk
  rw [zHT hk,ta k hk]
  split
  ·rfl
  ·exact Int.zero_mul _
 rw [eW]
 refine vD dF wt (λ_=>rfl) (λx=>.bool (decide (0 < x))) (by rw [List.length_map,List.length_range]; omega) (λx _=>⟨_,rfl,rfl⟩) ?_
 have key:∀ p,p < n->(((List.range n).map λk=>if k=r.1 then r.2.1 * (tc T cs k).2.1 else 0).map λx=>decide (0 < x)).getD p false=decide (p=r.1/\r.2.1=(tc T cs r.1).2.1):=λp hp=>by
  rw [List.map_map,List.getD_eq_getElem?_getD,List.getElem?_map,List.getElem?_range hp]
  show decide (0 < if p=r.1 then r.2.1 * (tc T cs p).2.1 else 0)=_
  refine decide_eq_decide.mpr ?_
  by_cases c:p=r.1
  ·rw [if_pos c,c]
   rcases h2 with a | a <;> rcases (C.ok G h1).2.1 with z | z <;> rw [a,z] <;> simp
  ·rw [if_neg c]
   exact ⟨λz=>absurd z (Int.lt_irrefl _),λz=>absurd z.1 c⟩
 refine ⟨cs,((List.range n).map λk=>if k=r.1 then r.2.1 * (tc T cs k).2.1 else 0).map λx=>decide (0 < x),by rw [List.map_map (g:=D.bool)]; rfl,by rw [List.length_map,List.length_map,List.length_range]; omega,by omega,λhz=>wT rfl ?_,λp hp hf=>wF rfl ?_⟩
 ·refine vD dF wt (λ_=>rfl) (λx=>dF (-x)) (by rw [List.length_map,List.length_range]; omega) (λx _=>⟨_,rfl,_,rfl,_,_,rfl,by decide,xN (by decide),?_⟩) ?_
  ·exact u6 _
  generalize hws:((List.range n).map λk=>if k=r.1 then r.2.1 * (tc T cs k).2.1 else 0)=ws
  have lw:ws.length=n:=by rw [<- hws,List.length_map,List.length_range]
  have e1:cN (cs++[i])=.lst ((cs.map λx=>D.int ((x:Nat):Int))++[.int (i:Int)]):=by unfold cN; rw [List.map_append]; rfl
  have e2:xK (ws.map (λx=>-x)++[1])=.lst (ws.map (λx=>dF (-x))++[jU 1 1]):=by unfold xK; rw [List.map_append,List.map_map,u6]; rfl
  refine ⟨k0,by rw [List.length_map]; show _ + 1<=1000; omega,_,_,rfl,by decide,xN (by decide),k0,by rw [List.length_map]; show _ + 1<=1000; omega,?_⟩
  refine ⟨T.length,cs++[i],ws.map (λx=>-x)++[1],by rw [e1,e2],by omega,by rw [List.length_append]; show _ + 1<=100; omega,by rw [List.length_append,List.length_map]; show _ + 1<=100; omega,λx hx=>?_,λzs=>⟨_,rfl,k0,k0,q _⟩⟩
  rcases List.mem_append.mp hx with hx | hx
  ·obtain ⟨y,hy,rfl⟩:=List.mem_map.mp hx
   rw [<- hws] at hy
   obtain ⟨k,hk,rfl⟩:=List.mem_map.mp hy
   have hk:=List.mem_range.mp hk
   show Bd 1000 (-(if k=r.1 then r.2.1 * (tc T cs k).2.1 else 0))
   split
   ·exact (vF (Yc h2 (C.ok G hk).2.1) (by decide)).neg
   ·exact wQ
  ·rw [List.mem_singleton.mp hx]
   exact xN (by decide)
 ·rw [key p (by omega)] at hf
  obtain ⟨rfl,sg⟩:=of_decide_eq_true hf
  exact ⟨cs,r.1,i,rfl,hp,by omega,_,zQF C hi hb h1 sg hv,_,_,_,_,_,rfl,C.set h1 hi (by rw [hb]),rfl⟩
theorem zFj (F:zY K "worst_pushes" "worst_pushes" KB f fd) (ar:vL P w K mg base ah "pushes" ["self"] k (zG (WG ah ag))):zF P w K mg base zT (k + 1) f fd ["thing","row"] (zG (Jk ah ag)):=by
 refine zj F zDB λ_ _ _ _ _ _ hr=>⟨_,(zK (zV (yh (own:=["number","push"]) (caps:=[]) (yM zDB) rfl rfl (jM (wq (wq jN))) (ud rfl B.zip_ (zB (wz (zA 1) (we (xJ K (zA 0) rfl)) (we (x9 zD))) (zB (jR ar ae hr (zA 0)) zC))) (λ_ _ _ _=>(xr rfl (zp 0 (zy ["number","push"]) (zp 1 (zy ["number","push"]) xq)))) (λ_ _ _ _=>(Zd (qh (zA 0) zD) (zH (zA 1) zD) (zH (zA 1) zD)))))),λds R h=>?_⟩
 obtain ⟨n,bs,ms,a,c,e,rfl,la,lc,b6,n3,q⟩:=h
 refine ⟨⟨ae.cl,af.n_many⟩,_,rfl,rfl,by decide +kernel,n,bs,ms,rfl,?_⟩
 rw [Yj la]
 show zq (List.zipWith yt (c.map D.int) (bs.map yC)) _ _
 rw [JO yC]
 refine vD (λq:Int × Int × Int=>yt (.int q.1) (yC q.2)) (λd=>match d with | .tup [x,.tup [y,z]]=>(yK x,yK y,yK z) | _=>(0,0,0)) (λ_=>rfl) (λq=>.int (xZ q)) (by rw [List.length_zip]; omega) (λq hq=>?_) (by unfold L at q; rw [List.map_map] at q; exact q)
 refine w2 (λc1=>⟨_,rfl,?_⟩) λc1=>⟨_,rfl,?_⟩
 ·unfold xZ
  rw [if_pos (of_decide_eq_true c1)]
 ·unfold xZ
  rw [if_neg (of_decide_eq_false c1)]
theorem zEd (F:zY K "without_pushes" "without_pushes" KC f fd) (au:Fn P w K mg base "paired" ["numbers","others"] k (zG (WE))) (aL:Fn P w K mg base "worst_pushes" ["thing","row"] k (zG (Jk ah ag))):zF P w K mg base zT (k + 1) f fd ["thing","row"] (zG (zJQ ah ag)):=by
 refine zj F zEP λ_ _ _ _ _ _ hr=>⟨_,(zK (zV (zw (wz (zA 1) vO (we (xJ K (zA 0) rfl))) (yP (zB (wo (zH (zA 1) (x9 zD)) (zL au hr rfl (zB (wz (zA 1) (we (xJ K (zA 0) rfl)) (we (x9 zD))) (zB (zL aL hr rfl (zB (zA 0) (zB (zA 1) zC))) zC)))) zC))))),λds R h=>?_⟩
 obtain ⟨n,bs,ms,a,c,e,rfl,la,lc,b6,n3,hb,bc,q⟩:=h
 refine ⟨⟨ae.cl,af.n_many⟩,_,rfl,_,Jm,⟨ae.cl,af.n_many⟩,_,rfl,n,bs,ms,a,c,e,rfl,la,lc,b6,n3,_,_,c,(c.zip bs).map xZ,rfl,.inr (by rw [Yj la]),.inl rfl,by omega,λx hx=>(bc x hx).mono,λx hx=>?_,?_⟩
 ·obtain ⟨q,hq,rfl⟩:=List.mem_map.mp hx
  have:=hb _ (List.of_mem_zip hq).2
  unfold xZ
  split
  ·exact this.2.2.mono
  ·exact this.2.1.mono
 rw [Ji λb hb'=>(hb b hb').1,Jl la]
 refine ⟨k0,by rw [List.length_map]; show _ + 1<=1000; omega,?_⟩
 unfold U at q
 rw [List.map_append] at q
 exact q
theorem zJx (F:zY K "lies_in" "lies_in" KD f fd) (aI:Fn P w K mg base "holds" ["row","point"] k (zG (Ja))):zF P w K mg base zT (k + 1) f fd ["room","point"] (zG (zOU)):=by
 refine zj F zGR λ_ _ _ _ _ _ hr=>⟨_,(zK (zV (yB (uT rfl) ub rfl B.all_ uU (zB (yh (own:=["row"]) (caps:=[(1,"point")]) (yM zGR) rfl rfl yX (xR (zA 0)) (λ_ _ _ _=>(zx 0 (zy ["row","point"]))) (λ_ _ _ _=>(zL aI hr rfl (zB (zA 0) (zB (zA 1) zC))))) zC)))),λds R h=>?_⟩
 obtain ⟨d,rfl,q⟩:=h
 exact zq.map id (by decide) (λd m=>(nomatch m)) ⟨[],rfl,q⟩
theorem zFl (F:zY K "lies_between" "lies_between" KE f fd) (aE:Fn P w K mg base "under" ["one","other"] k (zG (JY))) (ai:wO P w K mg base "fraction" ["top","bottom"] k (zG (u5)) (.int 1)):zF P w K mg base zT (k + 1) f fd ["push","bound"] (zG (Yk)):=by
 refine zj F zFJ λ_ _ _ _ _ _ hr=>⟨_,(zK (zV (vN (Um (zL aE hr rfl (zB (zA 0) (zB (uJ (.int 1) (λ_=>.int 1) ai hr rfl (zB (zH (zA 1) zD) zC)) zC)))) (uG (Um (zL aE hr rfl (zB (uJ (.int 1) (λ_=>.int 1) ai hr rfl (zB (zH (zA 1) zD) zC)) (zB (zA 0) zC)))))))),λds R h=>?_⟩
 obtain ⟨x,b,rfl,bx,b1,b2,h1,h2,q⟩:=h
 refine ⟨_,rfl,_,_,rfl,by decide,xN (by decide),?_⟩
 refine ⟨_,_,by rw [show D.tup [D.int (b.1.fdiv (gI b.1 1)),D.int (Int.fdiv 1 (gI b.1 1))]=dF b.1 from u6 _],bx.mono,b1.mono,wT (by rw [decide_eq_false (by omega)]; rfl) ?_⟩
 refine ⟨_,rfl,_,_,rfl,by decide,xN (by decide),?_⟩
 refine ⟨_,_,by rw [show D.tup [D.int (b.2.fdiv (gI b.2 1)),D.int (Int.fdiv 1 (gI b.2 1))]=dF b.2 from u6 _],b2.mono,bx.mono,bR q ?_⟩
 rw [decide_eq_false (by omega)]
 rfl
theorem zGI (F:zY K "can_be_made" "can_be_made" KG f fd) (bL:Fn P w K mg base "lies_in" ["room","point"] k (zG (zOU))) (bM:Fn P w K mg base "lies_between" ["push","bound"] k (zG (Yk))):zF P w K mg base zT (k + 1) f fd ["modes","bounds","point","step"] (zG (Yl ag)):=by
 refine zj F zDc λ_ _ _ _ _ _ hr=>⟨_,(zJ (yG (PW.pt (wD (gh (zH (zA 3) zD) zD) (vB (zN5 (zH (zA 3) zD) (yB yk yo rfl B.len_ ym (zB (zA 0) zC)))))) (zK (zV xn)) yF)
  (zJ (yG (PW.pt (wD (xa (yx (zL bL hr rfl (zB (xJ K (zH (zA 0) (zH (zA 3) zD)) rfl) (zB (zA 2) zC))))) (vB (ve hr.units (yB yk yo rfl B.len_ ym (zB (zH (zA 3) zD) zC)) (yB yk yo rfl B.len_ ym (zB (zA 1) zC)))))) (zK (zV xn)) yF)
  (zK (zV (yB (uT rfl) ub rfl B.all_ uU (zB (yh (own:=["push","bound"]) (caps:=[]) (yM zDc) rfl rfl (jM (wq (wq jN))) (ud rfl B.zip_ (zB (zH (zA 3) zD) (zB (zA 1) zC))) (λ_ _ _ _=>(xr rfl (zp 0 (zy ["push","bound"]) (zp 1 (zy ["push","bound"]) xq)))) (λ_ _ _ _=>(zL bM hr rfl (zB (zA 0) (zB (zA 1) zC))))) zC)))))),λds R h=>?_⟩
 obtain ⟨n,bs,m,d,w,rfl,T,I,q⟩:=h
 have b2:=T.b2
 have l1:=I.1
 refine ⟨_,rfl,wF rfl ⟨_,rfl,wF rfl ⟨_,rfl,_,rfl,⟨aa.cl,ac.n_rows⟩,_,rfl,?_⟩⟩⟩
 rw [T.rows]
 refine ⟨d,rfl,wF rfl ⟨_,rfl,wF ?_ ⟨_,rfl,?_⟩⟩⟩
 ·show (!decide _)=false
  rw [List.length_map,List.length_map,l1,decide_eq_true rfl]
  rfl
 show zq (List.zipWith yt (w.map dF) (bs.map yC)) _ _
 rw [show List.zipWith yt (w.map dF) (bs.map yC)=(w.zip bs).map λq=>yt (dF q.1) (yC q.2) by show _=List.map _ (List.zipWith Prod.mk w bs); rw [List.zipWith_map,List.map_zipWith] ]
 refine vD (λq:Int × Int × Int=>yt (dF q.1) (yC q.2)) (λd=>match d with | .tup [.tup [x,_],.tup [y,z]]=>(yK x,yK y,yK z) | _=>(0,0,0)) (λ_=>rfl) (λ_=>.bool true) (by rw [List.length_zip]; omega) (λq hq=>?_) ⟨(w.zip bs).map λ_=>true,by rw [List.map_map]; rfl,bR q ?_⟩
 ·obtain ⟨h1,h2⟩:=I.2 q hq
  obtain ⟨h3,h4⟩:=List.of_mem_zip hq
  exact ⟨q.1,q.2,rfl,(I.bd T.bb _ h3).mono,(T.bb _ h4).1.mono,(T.bb _ h4).2.mono,h1,h2,rfl⟩
 ·exact (List.all_eq_true.mpr λx hx=>by obtain ⟨_,_,rfl⟩:=List.mem_map.mp hx; rfl).symm
theorem zE5 (F:zY K "number_behind" "number_behind" KH f fd) (bN:Fn P w K mg base "divided_sum" ["numbers","point","add","divisor"] k (zG (Yb))):zF P w K mg base zT (k + 1) f fd ["mode","place","point","steering","pushes"] (zG (fNB ag)):=by
 refine zj F XF λ_ _ _ _ _ _ hr=>⟨_,(zJ (zS 5 XF.nd (zw (zH (xJ K (zA 0) rfl) (zA 1)) (zH (xJ K (zA 0) rfl) (zA 1))))
  (zJ (zS 6 XF.nd (zw (zA 2) (zA 4)))
  (jP (yG (ve hr.units (zH (xJ K (zA 0) rfl) (zA 1)) zD) (zJ (zS 5 XF.nd (zw (zA 5) (xM (zB (zH (xJ K (zA 0) rfl) (zA 1)) zC))))
   (zK (zS 6 XF.nd (zw (zA 6) (xM (zB (zA 3) zC)))))) yF)
  (zK (zV (zL bN hr rfl (zB (zA 5) (zB (zA 6) (zB (zH (xJ K (zA 0) rfl) (zA 1)) (zB (xJ K (zA 0) rfl) zC)))))))))),λds R h=>?_⟩
 obtain ⟨m,n,bs,i,xs,us,st,Q,ee,qq,rfl,T,hi,X,Us,q⟩:=h
 have MO:=T.mo
 have b2:=T.b2
 have n3:=T.ok.n3
 have k1:i < m.nexts.length:=by rw [MO.nexts.1]; exact hi
 have k2:i < m.push.length:=by rw [MO.push.1]; exact hi
 have l1:(m.nexts.getD i []).length=n:=MO.nexts.2 _ (vG k1)
 have l2:(m.push.getD i []).length=bs.length:=MO.push.2 _ (vG k2)
 refine ⟨⟨aa.cl,ac.n_nexts⟩,_,rfl,_,xj [] k1,⟨aa.cl,ac.n_push⟩,_,rfl,_,xj [] k2,by rw [List.length_map,List.length_map]; omega,?_⟩
 rw [<- List.map_append]
 refine ⟨by rw [List.length_map,List.length_map,X.len,Us.len]; omega,?_⟩
 rw [<- List.map_append]
 refine ⟨λΓ=>Γ=[.sh (wg ag m),.sh (.int ((i:Nat):Int)),.sh (dP xs),.sh st,.sh (dP us),.sh (L (m.nexts.getD i []++m.push.getD i [])),.sh (dP (xs++us))],⟨⟨aa.cl,ac.n_steer⟩,_,rfl,_,yd (j:=i) (by rw [MO.steer]; exact hi) rfl,wF (by rw [T.st i]; rfl) rfl⟩,?_⟩
 rintro Γ' rfl
 refine ⟨⟨aa.cl,ac.n_add⟩,_,rfl,_,yd (j:=i) (by rw [MO.add]; exact hi) rfl,⟨aa.cl,ac.n_divisor⟩,_,rfl,?_⟩
 refine ⟨_,_,n + bs.length,xs++us,Q,ee,qq,_,_,rfl,.inl rfl,by rw [List.length_append,l1,l2],λw hw=>?_,zO3 X Us (by omega),by have:=MO.div; omega,(wP T.ad i).mono,T.dv.mono,?_⟩
 ·rcases List.mem_append.mp hw with h | h
  ·exact (T.nx _ (vG k1) w h).mono
  ·exact (T.ps _ (vG k2) w h).mono
 ·rw [zJU (by rw [l1,X.len])]
  exact q
theorem zFk (F:zY K "point_behind" "point_behind" KI f fd) (bO:Fn P w K mg base "number_behind" ["mode","place","point","steering","pushes"] k (zG (fNB ag))):zF P w K mg base zT (k + 1) f fd ["mode","point","steering","pushes"] (zG (fPB ag)):=by
 refine zj F zDC λ_ _ _ _ _ _ hr=>⟨_,(zK (zV (yh (own:=["place"]) (caps:=[(0,"mode"),(1,"point"),(2,"steering"),(3,"pushes")]) (yM zDC) rfl rfl yX (xF rfl B.range_ (zB (yB yk yo rfl B.len_ ym (zB (xJ K (zA 0) rfl) zC)) zC)) (λ_ _ _ _=>(zx 0 (zy ["place","mode","point","steering","pushes"]))) (λ_ _ _ _=>(zL bO hr rfl (zB (zA 1) (zB (zA 0) (zB (zA 2) (zB (zA 3) (zB (zA 4) zC)))))))))),λds R h=>?_⟩
 obtain ⟨m,n,bs,xs,us,st,Q,ee,qq,rfl,T,X,Us,q⟩:=h
 have MO:=T.mo
 have n3:=T.ok.n3
 have lm:(m.nexts.map L).length=n:=by rw [List.length_map]; exact MO.nexts.1
 refine ⟨⟨aa.cl,ac.n_nexts⟩,_,rfl,by omega,by omega,?_⟩
 rw [lm,show ((n:Nat):Int).toNat=n by omega]
 refine zq.rng0 (λi=>dQ (gr m xs us i)) (by omega) (λi hi=>⟨m,n,bs,i,xs,us,st,Q,ee,qq,rfl,T,hi,X,Us,rfl⟩) ?_
 unfold dP yL at q
 rw [List.map_map] at q
 exact q
theorem zLF (F:zY K "walked" "walked" KJ f fd) (aM:vL P w K mg base ah "modes" ["self"] k (zG (JR ah ag))) (ar:vL P w K mg base ah "pushes" ["self"] k (zG (WG ah ag))) (bS:Fn P w K mg base "can_be_made" ["modes","bounds","point","step"] k (zG (Yl ag))) (bU:Fn P w K mg base "point_behind" ["mode","point","steering","pushes"] k (zG (fPB ag))):zF P w K mg base zT (k + 1) f fd ["thing","point","run"] (zG (zRh ah ag)):=by
 refine zj F kB λ_ _ _ _ _ _ hr=>⟨_,(zJ (zS 3 kB.nd (jR aM ae hr (zA 0)))
  (zJ (zS 4 kB.nd (jR ar ae hr (zA 0)))
  (zJ (uI 5 kB.nd rfl (Or.inl rfl) (zB (xo vX vv rfl B.list_ wB (zB (zA 1) zC)) zC))
  (zJ (xX PassesOwn.never rfl (YE rfl B.enumerate_ (zB (zA 2) zC)) (xr rfl (zp 6 kB.nd (zp 7 kB.nd xq))) (zJ (yG (xa (yx (zL bS hr rfl (zB (zA 3) (zB (zA 4) (zB (zN6 5 (x9 zD) (λ_ _=>rfl)) (zB (zA 7) zC))))))) (zK ql) yF)
   (zK (yb (wm (vY PySem.F.plainAttrs_list PySem.F.slot_list_append PySem.F.type_list_append xL (xU 5) (zz (zL bU hr rfl (zB (zH (zA 3) (zH (zA 7) zD)) (zB (zN6 5 (x9 zD) (λ_ _=>rfl)) (zB (zH (zA 7) zD) (zB (zH (zA 7) zD) zC))))) yf))) vg))))
  (zK (vP 5 (zV (zA 5)))))))),λds R h=>?_⟩
 obtain ⟨n,bs,m,x0,ws,rfl,T,lx,bx,l20,hw,q⟩:=h
 have n3:=T.ok.n3
 have b2:=T.b2
 have d1:=T.mo.div
 have P0:yz n (xA x0) (1 * 1) (391 + 20 * 0) (1 + 3 * 0):=by have:=q9 (vs:=x0) (by omega) (by decide) bx; rw [lx] at this; exact this
 refine ⟨rfl,by decide +kernel,n,bs,[m],rfl,rfl,by decide +kernel,n,bs,[m],rfl,k0,?_⟩
 refine ⟨λk Γ=>∃ (ps:List (List Rat)) (s6 s7:Sl),Γ=[.sh (wE ah ag n bs [m]),.sh (xK x0),.sh (.lst (ws.map w6)),.sh (.lst [wg ag m]),.sh (.lst (bs.map yC)),.ow (ps.map dP),s6,s7]/\ps.length=k + 1/\ps.getD k []=wj n m (xA x0) (ws.take k)/\∃ P:Nat,yz n (ps.getD k []) (1 * P) (391 + 20 * k) (1 + 3 * k),⟨[xA x0],.no,.no,(by show _=([.sh (wE ah ag n bs [m]),.sh (xK x0),.sh (.lst (ws.map w6)),.sh (.lst [wg ag m]),.sh (.lst (bs.map yC)),.ow [dP (x0.map λ(v:Int)=>(v:Rat))],.no,.no]:List Sl); rw [j9]; rfl),rfl,rfl,1,P0⟩,?_,?_⟩
 ·rintro k d Γ' hk ⟨ps,s6,s7,rfl,lp,e,P,PT⟩
  obtain ⟨y,hy,rfl⟩:=qt hk
  obtain ⟨w,hg,rfl⟩:=zOL hy
  have kl:=(List.getElem?_eq_some_iff.mp hg).1
  have I:=hw w (List.mem_of_getElem? hg)
  have Y:yz bs.length (xA w) (1 * P) (391 + 20 * k) (1 + 3 * k):=zKq I.1 (by omega) PT.Q0 PT.bQ PT.q1 PT.e1 (I.bd T.bb) (by omega)
  have Z:=Jo (P:=m.div.toNat) T PT Y (by omega) (by omega) (by omega) (by omega)
  refine ⟨_,Jp [] lp,n,bs,m,_,w,rfl,T,I,wF rfl ⟨_,rfl,_,rfl,_,Jp [] lp,_,rfl,_,rfl,m,n,bs,_,xA w,_,_,_,_,by rw [j9],T,PT,Y,by rw [List.length_map]; omega,ps++[yL m n (ps.getD k []) (xA w)],.sh (.int ((0 + k:Nat):Int)),.sh (w6 w),by rw [List.map_append]; rfl,by rw [List.length_append,lp]; rfl,?_,P * m.div.toNat,?_⟩⟩
  ·rw [List.getD_eq_getElem?_getD,List.getElem?_append_right (by omega),lp,Nat.sub_self,ut hg,Jn,<- e]
   rfl
  ·rw [List.getD_eq_getElem?_getD,List.getElem?_append_right (by omega),lp,Nat.sub_self]
   rw [Nat.mul_assoc] at Z
   exact Z
 ·rintro Γ' ⟨ps,s6,s7,rfl,lp,e,P,PT⟩
  rw [j5,List.length_map] at lp e PT
  rw [List.take_of_length_le (Nat.le_refl _)] at e
  exact q ps lp e ⟨_,_,_,PT⟩
theorem zEf (F:zY K "is_plain" "Thing.is_plain" KL f fd):zF P w K mg base zT (k + 1) f fd ["self"] (zG (Jt ah ag)):=by
 refine zj F zER λ_ _ _ _ _ _ hr=>⟨_,(zK (zV (vN (ua hr.units (yB yk yo rfl B.len_ ym (zB (xJ K (zA 0) rfl) zC)) zD) (uG (ua hr.units (yB yk yo rfl B.len_ ym (zB (xJ K (zH (xJ K (zA 0) rfl) zD) rfl) zC)) zD))))),λds R h=>?_⟩
 obtain ⟨n,bs,ms,rfl,q⟩:=h
 refine ⟨⟨ae.cl,af.n_kept_modes⟩,_,rfl,w2 (λc1=>?_) λc1=>?_⟩
 ·have c1:=of_decide_eq_true c1
  rw [List.length_map] at c1
  match ms,c1,q with
  | [m],_,q=>
   refine ⟨⟨ae.cl,af.n_kept_modes⟩,_,rfl,_,rfl,⟨aa.cl,ac.n_rows⟩,_,rfl,bR q ?_⟩
   show m.rows.isEmpty=decide (((m.rows.map U).length:Int)=0)
   cases m.rows <;> rfl
  | [],c1,_=>exact absurd c1 (by decide)
  | _ :: _ :: ms,c1,_=>simp at c1; omega
 ·have c1:=of_decide_eq_false c1
  rw [List.length_map] at c1
  refine bR q ?_
  match ms,c1 with
  | [m],c1=>exact absurd rfl c1
  | [],_=>rfl
  | _ :: _ :: _,_=>rfl
theorem zHq (F:zY K "ask_plain" "ask_plain" We f fd) (aN:vL P w K mg base ah "is_plain" ["self"] k (zG (Jt ah ag))):zF P w K mg base zT (k + 1) f fd ["thing"] (zG (zRo ah ag)):=by
 refine zj F zEs λ_ _ _ _ _ _ hr=>⟨_,(zK (yG (xa (yx (jR aN ae hr (zA 0)))) (zK ql) yF)),λds R h=>?_⟩
 obtain ⟨n,bs,ms,rfl,c,q⟩:=h
 exact ⟨rfl,by decide +kernel,n,bs,ms,rfl,wF (by rw [c]; rfl) q⟩
theorem zGF (F:zY K "pulled_back" "pulled_back" KM f fd) (aM:vL P w K mg base ah "modes" ["self"] k (zG (JR ah ag))) (bV:Fn P w K mg base "reach" ["thing","mode","row"] k (zG (zOQ ah ag))) (aL:Fn P w K mg base "worst_pushes" ["thing","row"] k (zG (Jk ah ag))) (ai:wO P w K mg base "fraction" ["top","bottom"] k (zG (u5)) (.int 1)) (bX:Fn P w K mg base "without_pushes" ["thing","row"] k (zG (zJQ ah ag))):zF P w K mg base zT (k + 1) f fd ["thing","row","turns"] (zG (zRk ah ag)):=by
 refine zj F ji λ_ _ _ _ _ _ hr=>⟨_,(zJ (zS 3 ji.nd (zH (jR aM ae hr (zA 0)) zD))
  (zJ (zS 4 ji.nd (xM zC))
  (zJ (xX PassesOwn.never rfl (xF rfl B.range_ (zB (zA 2) zC)) (zx 5 ji.nd) (zJ (zS 6 ji.nd (zL bV hr rfl (zB (zA 0) (zB (zA 3) (zB (zA 1) zC)))))
   (zJ (uf 7 false ji.nd rfl rfl (own:=["push"]) (caps:=[]) (yM ji) rfl rfl yX (xR (zL aL hr rfl (zB (zA 0) (zB (zA 6) zC)))) (λ_ _ _ _=>(zx 0 (zy ["push"]))) (λ_ _ _ _=>(uJ (.int 1) (λ_=>.int 1) ai hr rfl (zB (zA 0) zC))) rfl)
   (zJ (zS 4 ji.nd (zw (xM (zB (yP (zB zD (zB (uJ (.int 1) (λ_=>.int 1) ai hr rfl (zB zD zC)) (zB (zA 7) zC)))) zC)) (zA 4)))
   (zK (zS 1 ji.nd (zL bX hr rfl (zB (zA 0) (zB (zA 6) zC)))))))))
  (zK (zV (yP (zB (zA 1) (zB (zA 4) zC)))))))),λds R h=>?_⟩
 obtain ⟨n,bs,m,u,b,t,rfl,T,lu,bu,bb,t20,q⟩:=h
 have n3:=T.ok.n3
 have b2:=T.b2
 have MO:=T.mo
 refine ⟨rfl,by decide +kernel,n,bs,[m],rfl,_,rfl,k0,by omega,by omega,?_⟩
 rw [show ((t:Nat):Int).toNat=t by omega]
 refine ⟨λk Γ=>∃ (c:Int) (s5 s6 s7:Sl),Γ=[.sh (wE ah ag n bs [m]),.sh (U (zl n m k u++[c])),.sh (.int ((t:Nat):Int)),.sh (wg ag m),.sh (.lst ((yH n bs m u k).map w6)),s5,s6,s7]/\Bd (300 + 6 * k) c,⟨b,.no,.no,.no,rfl,bb.mono⟩,?_,?_⟩
 ·rintro k d Γ' hk ⟨c,s5,s6,s7,rfl,bc⟩
  obtain ⟨kt,rfl⟩:=vC hk
  have lk:=gE (m:=m) lu k
  have bk:=gv T lu bu k
  generalize hv:zl n m k u=v at lk bk
  have eR:WH n bs.length ((v++[c]).take n) ((v++[c]).getD n 0) m=(List.range n).map (yD v m.nexts)++zi bs m v++[m.div * c - zg v m.add]:=by
   unfold WH
   rw [List.take_append_of_le_length (by omega),List.take_of_length_le (by omega),List.getD_eq_getElem?_getD (l:=_++_),List.getElem?_append_right (by omega),lk,Nat.sub_self]
   rfl
  have bp:=Js T lk bk
  have lp:(zi bs m v).length=bs.length:=by unfold zi; rw [List.length_map,List.length_range]
  have bq:∀ b∈bs,b.1<=b.2/\Bd 110 b.1/\Bd 110 b.2:=λx hx=>⟨T.ok.bok x hx,(T.bb x hx).1.mono,(T.bb x hx).2.mono⟩
  refine ⟨n,bs,[m],m,_,rfl,n3,by omega,MO,⟨λr hr x hx=>(T.nx r hr x hx).mono,λr hr x hx=>(T.ps r hr x hx).mono,λx hx=>(T.ad x hx).mono,T.dv.mono⟩,by rw [List.length_append,lk]; rfl,zIB (λx hx=>(bk x hx).mono (by omega)) (bc.mono (by omega)),?_⟩
  rw [eR]
  refine ⟨n,bs,[m],_,_,_,rfl,by rw [List.length_map,List.length_range],lp,by omega,n3,?_⟩
  have lw:(((zi bs m v).zip bs).map xZ).length<=2:=by rw [List.length_map,List.length_zip]; omega
  refine vD D.int yK (λ_=>rfl) dF (by omega) (λx hx=>⟨_,_,rfl,by decide,xN (by decide),u6 x⟩) ?_
  refine ⟨_,_,rfl,by decide,xN (by decide),k0,k0,by rw [List.length_map,Ym]; show 1 + _<=1000; omega,?_⟩
  refine ⟨n,bs,[m],_,_,_,rfl,by rw [List.length_map,List.length_range],lp,by omega,n3,bq,λx hx=>(bp x hx).mono (by omega),?_⟩
  have b1:Bd (304 + 6 * k) (m.div * c):=(T.dv.mul bc).mono (by omega)
  have b3:Bd (304 + 6 * k) (zg v m.add):=(Jq bk T.ad).mono (by omega)
  have b4:Bd (305 + 6 * k) (xv (zi bs m v) bs):=(Jj bp T.bb).mono (by omega)
  have b5:Bd (305 + 6 * k) (m.div * c - zg v m.add):=(b1.sub b3).mono (by omega)
  refine ⟨_,.sh (.int (k:Int)),.sh (U ((List.range n).map (yD v m.nexts)++zi bs m v++[m.div * c - zg v m.add])),.sh (xK (xB bs m v)),?_,(b5.sub b4).mono (by omega)⟩
  rw [show D.tup [D.int (Int.fdiv 0 (gI 0 1)),D.int (Int.fdiv 1 (gI 0 1))]=dF 0 from u6 0]
  show _=([.sh (wE ah ag n bs [m]),.sh (U ((List.range n).map (yD (zl n m k u) m.nexts)++[m.div * c - zg v m.add - xv (zi bs m v) bs])),.sh (.int ((t:Nat):Int)),.sh (wg ag m),.sh (.lst (w6 (xB bs m (zl n m k u)) :: (yH n bs m u k).map w6)),.sh (.int (k:Int)),.sh (U ((List.range n).map (yD v m.nexts)++zi bs m v++[m.div * c - zg v m.add])),.sh (xK (xB bs m v))]:List Sl)
  rw [hv]
  rfl
 ·rintro Γ' ⟨c,s5,s6,s7,rfl,bc⟩
  rw [vf]
  exact ⟨k0,q c⟩
theorem zM5 (F:zY K "worst" "worst" Wf f fd) (aO:Fn P w K mg base "ask_closed" ["thing"] k (zG (JT ah ag))) (bY:Fn P w K mg base "ask_plain" ["thing"] k (zG (zRo ah ag))) (bZ:Fn P w K mg base "pulled_back" ["thing","row","turns"] k (zG (zRk ah ag))) (b7:Fn P w K mg base "most" ["room","row"] k (zG (zRl))) (b8:Fn P w K mg base "walked" ["thing","point","run"] k (zG (zRh ah ag))) (ax:Fn P w K mg base "along" ["row","point"] k (zG (WN))):zF P w K mg base zT (k + 1) f fd ["thing","start","row","turns"] (zG (zRg ah ag)):=by
 refine zj F XG λ_ _ _ _ _ _ hr=>⟨_,(zJ (zJC (zL aO hr rfl (zB (zA 0) zC)))
  (zJ (zJC (zL bY hr rfl (zB (zA 0) zC)))
  (zJ (zS 4 XG.nd (zL bZ hr rfl (zB (zA 0) (zB (zA 2) (zB (zA 3) zC)))))
  (zJ (zS 5 XG.nd (zL b7 hr rfl (zB (zA 1) (zB (zH (zA 4) zD) zC))))
  (zJ (yG (ve hr.units (zH (zA 5) zD) uv) (zK (zV (yP (zB (zH (zA 5) zD) zC)))) yF)
  (zJ (zS 6 XG.nd (zL b8 hr rfl (zB (zA 0) (zB (zH (zA 5) zD) (zB (zH (zA 4) zD) zC)))))
  (zK (zV (yP (zB uv (zB (zL ax hr rfl (zB (zA 2) (zB (zH (zA 6) (x9 zD)) zC))) (zB (zH (zA 5) zD) (zB (zH (zA 4) zD) zC))))))))))))),λds R h=>?_⟩
 obtain ⟨n,bs,m,T,u,b,t,rfl,TH,G,T5,has,lu,bu,bb,t20,q⟩:=h
 have n3:=TH.ok.n3
 have lk:=gE (m:=m) lu t
 have bk:=gv TH lu bu t
 refine ⟨n,bs,[m],rfl,TH.ok,TH.cl,n,bs,[m],rfl,by show m.rows.isEmpty=true; rw [TH.rows]; rfl,n,bs,m,u,b,t,rfl,TH,lu,bu,bb,t20,λb'=>?_⟩
 refine ⟨_,rfl,n,T,_,b',rfl,G,T5,has,lk,λx hx=>(bk x hx).mono (by omega),?_⟩
 rcases q with ⟨E,q⟩ | ⟨bx,B,q0,q1⟩
 ·exact .inl ⟨E,λX=>⟨_,rfl,wT rfl ⟨_,rfl,k0,q⟩⟩⟩
 refine .inr ⟨bx,B,λW X Y=>⟨_,rfl,wT rfl ⟨_,rfl,k0,q0 W⟩⟩,λW X pt TP=>⟨_,rfl,wF rfl ⟨_,rfl,_,rfl,?_⟩⟩⟩
 refine ⟨n,bs,m,pt,yH n bs m u t,rfl,TH,TP.1,TP.2.2.1,by rw [Ym]; exact t20,zN2 TH.ok.bok t,λps lp e ⟨Q,ee,qq,PT⟩=>?_⟩
 refine ⟨_,Jp [] lp,u,b,n,_,Q,ee,qq,rfl,lu,λx hx=>(bu x hx).mono,PT,⟨_,rfl,_,rfl,k0,?_⟩⟩
 rw [e]
 exact q1 W pt TP
theorem zHn (F:zY K "_law_cell_at" "_law_cell_at" KN f fd):zF P w K mg base zT (k + 1) f fd ["_law_script","_law_k"] (zG (Jv)):=by
 refine zj F zHc λ_ _ _ _ _ _ hr=>⟨_,(zJ (yG (gh (zA 1) (yB yk yo rfl B.len_ ym (zB (zA 0) zC))) (zK (zV (zH (zA 0) (zA 1)))) yF)
  (zK (zV zD))),λds R h=>?_⟩
 obtain ⟨ns,k,rfl,h0,q⟩:=h
 refine w2 (λc=>?_) λc=>q 0
 obtain ⟨x,_,e⟩:=Ju h0 (of_decide_eq_true c)
 exact ⟨x,e,q x⟩
theorem zIZ (F:zY K "_law_stream" "_law_stream" KO f fd):zF P w K mg base zT (k + 1) f fd ["_law_cell","_law_many"] (zG (gz)):=by
 refine zj F qF λ_ _ _ _ _ _ hr=>⟨_,(zJ (uI 2 qF.nd rfl (Or.inl rfl) zC)
  (zJ (yG (zN5 (zA 0) (j2 zD zD)) (zJ (zS 3 qF.nd (wo (zA 0) (j2 zD zD)))
   (zJ (xX PassesOwn.never rfl (xF rfl B.range_ (zB (zA 1) zC)) (zx 4 qF.nd) (zJ (yb (wm (vY PySem.F.plainAttrs_list PySem.F.slot_list_append PySem.F.type_list_append xL (xU 2) (zz (xI (zA 3) (j2 zD zD)) yf))) vg)
    (zK (zS 3 qF.nd (wy (zA 3) (j2 zD zD))))))
   (zK (vP 2 (zV (zA 2)))))) yF)
  (zJ (zS 5 qF.nd (zw (xI (zA 0) (zw (j2 zD zD) zD)) zD))
  (zJ (xX PassesOwn.never rfl (xF rfl B.range_ (zB (zw (zA 1) zD) zC)) (zx 4 qF.nd) (zJ (zS 5 qF.nd (xI (zw (zw (yA (zA 5) (zA 5)) (yA zD (zA 5))) (zA 4)) (zw (j2 zD zD) zD)))
   (zK (yb (wm (vY PySem.F.plainAttrs_list PySem.F.slot_list_append PySem.F.type_list_append xL (xU 2) (zz (zA 5) yf))) vg))))
  (zK (vP 2 (zV (wz (zA 2) (we zD) vO)))))))),λds R h=>?_⟩
 obtain ⟨c,n,rfl,n1,q⟩:=h
 have b45:Bd 150 WX:=Bd.lit
 have p45:(0:Int) < WX:=by decide
 have b18:Bd 60 ((10:Int) ^ (18:Int).toNat + 9):=Bd.lit
 have p18:(0:Int) < (10:Int) ^ (18:Int).toNat + 9:=by decide
 refine ⟨k0,⟨by decide,by decide,by decide⟩,w2 (λc1=>?_) λc1=>?_⟩
 ·refine ⟨⟨by decide,by decide,by decide⟩,by omega,by omega,?_⟩
  rw [show ((n:Nat):Int).toNat=n by omega]
  refine ⟨λk Γ=>∃ (xs:List Int) (r:Int) (s4:Sl),Γ=[.sh (.int c),.sh (.int (n:Int)),.ow (xs.map D.int),.sh (.int r),s4,.no]/\xs.length=k/\Jw xs,⟨[],_,.no,rfl,rfl,λ_ h=>nomatch h⟩,?_,?_⟩
  ·rintro k d Γ' hk ⟨xs,r,s4,rfl,lx,hx⟩
   obtain ⟨kn,rfl⟩:=vC hk
   refine ⟨⟨by decide,by decide,by decide⟩,by decide,by rw [List.length_map]; omega,?_⟩
   refine ⟨⟨by decide,by decide,by decide⟩,by decide,b45.mono,?_⟩
   refine ⟨xs++[r.fmod WX],r.fdiv WX,.sh (.int (k:Int)),?_,by rw [List.length_append,lx]; rfl,u8 hx ⟨(md r p45).1,uM b45 p45⟩⟩
   rw [List.map_append]
   rfl
  ·rintro Γ' ⟨xs,r,s4,rfl,lx,hx⟩
   rw [vf] at lx
   exact q xs lx hx
 ·refine ⟨⟨by decide,by decide,by decide⟩,by decide,?_⟩
  have m0:=md c p18
  have bm:Bd 60 (c.fmod ((10:Int) ^ (18:Int).toNat + 9)):=uM b18 p18
  refine ⟨by omega,by omega,?_⟩
  rw [show ((n:Int) + 2).toNat=n + 2 by omega]
  refine ⟨λk Γ=>∃ (xs:List Int) (r:Int) (s4:Sl),Γ=[.sh (.int c),.sh (.int (n:Int)),.ow (xs.map D.int),.no,s4,.sh (.int r)]/\xs.length=k/\Jw xs/\Bd 70 r,⟨[],_,.no,rfl,rfl,(λ_ h=>nomatch h),((bm.mono (show 60<=65 by decide)).add ((Bd.lit (i:=48271) (n:=16)).mono (show 16<=65 by decide))).mono⟩,?_,?_⟩
  ·rintro k d Γ' hk ⟨xs,r,s4,rfl,lx,hx,br⟩
   obtain ⟨kn,rfl⟩:=vC hk
   refine ⟨br.mono,br.mono,(Bd.lit (i:=48271) (n:=16)).mono,br.mono,⟨by decide,by decide,by decide⟩,by decide,by rw [List.length_map]; omega,?_⟩
   refine ⟨xs++[(r * r + 48271 * r + (k:Int)).fmod ((10:Int) ^ (18:Int).toNat + 9)],(r * r + 48271 * r + (k:Int)).fmod ((10:Int) ^ (18:Int).toNat + 9),.sh (.int (k:Int)),?_,?_,u8 hx ⟨(md (r * r + 48271 * r + (k:Int)) p18).1,(uM b18 p18).mono⟩,(uM b18 p18).mono⟩
   ·rw [List.map_append]
    rfl
   ·rw [List.length_append,lx]; rfl
  ·rintro Γ' ⟨xs,r,s4,rfl,lx,hx,br⟩
   rw [vf] at lx
   have e:zh (xs.map D.int) (some 2) none=(xs.drop 2).map D.int:=by rw [show (2:Int)=((2:Nat):Int) from rfl,zNg,List.map_drop]
   have qq:=q (xs.drop 2) (by rw [List.length_drop]; omega) (λx hx'=>hx x (List.mem_of_mem_drop hx'))
   unfold L at qq
   rw [<- e] at qq
   exact qq
theorem zIa (F:zY K "_law_number" "_law_number" KP f fd):zF P w K mg base zT (k + 1) f fd ["_law_x","_law_far"] (zG (WY)):=by
 refine zj F zII λ_ _ _ _ _ _ hr=>⟨_,(zK (zV (wo (xI (zA 0) (zw (yA zD (zA 1)) zD)) (zA 1)))),λds R h=>?_⟩
 obtain ⟨x,far,rfl,f0,bf,q⟩:=h
 have:=md x (show (0:Int) < 2 * far + 1 by omega)
 exact ⟨(Bd.lit (i:=2) (n:=2)).mono,bf.mono,by omega,q _ (by omega) (by omega)⟩
theorem zND (F:zY K "_law_box" "_law_box" KQ f fd) (al:Fn P w K mg base "_law_stream" ["_law_cell","_law_many"] k (zG (gz))) (am:Fn P w K mg base "_law_number" ["_law_x","_law_far"] k (zG (WY))):zF P w K mg base zT (k + 1) f fd ["_law_cell","_law_many","_law_unit"] (zG (Yo)):=by
 refine zj F XH λ_ _ _ _ _ _ hr=>⟨_,(zJ (zS 3 XH.nd (zL al hr rfl (zB (zA 0) (zB (yA zD (zA 1)) zC))))
  (zJ (uI 4 XH.nd rfl (Or.inl rfl) zC)
  (zJ (xX PassesOwn.never rfl (xF rfl B.range_ (zB (zA 1) zC)) (zx 5 XH.nd) (zJ (zS 6 XH.nd (yA (zL am hr rfl (zB (zH (zA 3) (yA zD (zA 5))) (zB zD zC))) (zA 2)))
   (zK (yb (wm (vY PySem.F.plainAttrs_list PySem.F.slot_list_append PySem.F.type_list_append xL (xU 4) (zz (yP (zB (zA 6) (zB (zw (zw (zA 6) (yA (xI (zH (zA 3) (zw (yA zD (zA 5)) zD)) zD) (zA 2))) (xI (wy (zH (zA 3) (zw (yA zD (zA 5)) zD)) zD) zD)) zC))) yf))) vg))))
  (zK (vP 4 (zV (zA 4))))))),λds R h=>?_⟩
 obtain ⟨c,n,u,rfl,n3,u0,bu,q⟩:=h
 have b2:Bd 2 (2:Int):=Bd.lit
 refine ⟨b2.mono,(WW n3).mono,c,2 * n,by rw [show ((2 * n:Nat):Int)=2 * (n:Int) by omega],by omega,λxs lx hx=>?_⟩
 refine ⟨k0,by omega,by omega,?_⟩
 rw [show ((n:Nat):Int).toNat=n by omega]
 refine ⟨λk Γ=>∃ (bs:List (Int × Int)) (s5 s6:Sl),Γ=[.sh (.int c),.sh (.int (n:Int)),.sh (.int u),.sh (L xs),.ow (bs.map yC),s5,s6]/\bs.length=k/\∀ b∈bs,b.1<=b.2/\Bd 105 b.1/\Bd 105 b.2,⟨[],.no,.no,rfl,rfl,λ_ h=>nomatch h⟩,?_,?_⟩
 ·rintro k d Γ' hk ⟨bs,s5,s6,rfl,lb,hb⟩
  obtain ⟨kn,rfl⟩:=vC hk
  have bk:Bd 2 (k:Int):=WW (by omega)
  refine ⟨b2.mono,bk.mono,uN (by omega) (by omega) λx hx1=>⟨x,3,rfl,by decide,(Bd.lit (i:=3) (n:=2)).mono,λy y1 y2=>?_⟩⟩
  have by2:Bd 2 y:=zRx (f:=3) Bd.lit y1 y2
  refine ⟨by2.mono,bu.mono,?_⟩
  refine ⟨b2.mono,bk.mono,uN (by omega) (by omega) λx2 hx2=>⟨by decide,(Bd.mono (n:=3) (uM Bd.lit (by decide)) (by decide)),bu.mono,b2.mono,bk.mono,uN (by omega) (by omega) λx3 hx3=>⟨by decide,(Bd.lit (i:=4) (n:=3)).mono,by decide,k0,by rw [List.length_map]; omega,?_⟩⟩⟩
  have m1:=md x2 (show (0:Int) < 4 by decide)
  have m2:=md (x3.fdiv 4) (show (0:Int) < 2 by decide)
  have g0:0<=x2.fmod 4 * u:=Int.mul_nonneg m1.1 u0
  have c1:Bd 102 (y * u):=by2.mul bu
  have c2:Bd 103 (x2.fmod 4 * u):=(uM (n:=3) Bd.lit (by decide)).mul bu
  have c3:Bd 2 ((x3.fdiv 4).fmod 2):=uM Bd.lit (by decide)
  refine ⟨bs++[(y * u,y * u + x2.fmod 4 * u + (x3.fdiv 4).fmod 2)],.sh (.int (k:Int)),.sh (.int (y * u)),?_,by rw [List.length_append,lb]; rfl,u8 hb ⟨by show y * u<=y * u + x2.fmod 4 * u + (x3.fdiv 4).fmod 2; omega,c1.mono,((c1.mono (show 102<=103 by decide)).add c2 |>.add c3.mono).mono⟩⟩
  rw [List.map_append]
  rfl
 ·rintro Γ' ⟨bs,s5,s6,rfl,lb,hb⟩
  rw [vf] at lb
  exact q bs lb hb
theorem zLN (F:zY K "_law_made" "_law_made" KR f fd) (b9:jw P w K mg base ag ["self","rows","nexts","steer","push","add","divisor"] k (ug ag (zOS ag))) (cb:jw P w K mg base ah ["self","many","pushes","modes"] k (ug ah (zLr ah ag))):zF P w K mg base zT (k + 1 + 1) f fd ["_law_spec"] (zG (Jx ah ag)):=by
 refine zj F vT λ_ _ _ _ _ _ hr=>⟨_,(zJ (qk (zA 0) (xr rfl (zp 1 vT.nd (zp 2 vT.nd (zp 3 vT.nd (zp 4 vT.nd xq))))))
  (zJ (uI 5 vT.nd rfl (Or.inl rfl) zC)
  (zJ (xX PassesOwn.never rfl (xR (zA 3)) (xr rfl (zp 6 vT.nd (zp 7 vT.nd (zp 8 vT.nd (zp 9 vT.nd (zp 10 vT.nd (zp 11 vT.nd xq))))))) (zJ (uf 12 false vT.nd rfl rfl (own:=["_law_one"]) (caps:=[]) (yM vT) rfl rfl yX (xR (zA 7)) (λ_ _ _ _=>(zx 0 (zy ["_law_one"]))) (λ_ _ _ _=>(xo vX vv rfl B.list_ wB (zB (zA 0) zC))) rfl)
   (zK (yb (wm (vY PySem.F.plainAttrs_list PySem.F.slot_list_append PySem.F.type_list_append xL (xU 5) (zz (zKp b9 aa hr rfl (zB (xo vX vv rfl B.list_ wB (zB (zA 6) zC)) (zB (zA 12) (zB (xo vX vv rfl B.list_ wB (zB (zA 8) zC)) (zB (yh (own:=["_law_one"]) (caps:=[]) (yM vT) rfl rfl yX (xR (zA 9)) (λ_ _ _ _=>(zx 0 (zy ["_law_one"]))) (λ_ _ _ _=>(xo vX vv rfl B.list_ wB (zB (zA 0) zC)))) (zB (xo vX vv rfl B.list_ wB (zB (zA 10) zC)) (zB (zA 11) zC))))))) yf))) vg))))
  (zK (vP 5 (zV (zKp cb ae hr rfl (zB (zA 1) (zB (xo vX vv rfl B.list_ wB (zB (zA 2) zC)) (zB (zA 5) zC)))))))))),λds R h=>?_⟩
 obtain ⟨n,bs,ms,u,rfl,TO,q⟩:=h
 have m40:=TO.m40
 have n3:=TO.n3
 have b6:=TO.b6
 refine ⟨k0,?_⟩
 refine ⟨λk Γ=>∃ s6 s7 s8 s9 s10 s11 s12:Sl,Γ=[.sh (wR n bs ms u),.sh (.int (n:Int)),.sh (.lst (bs.map yC)),.sh (.lst (ms.map ja)),.sh (.int u),.ow ((ms.take k).map (wg ag)),s6,s7,s8,s9,s10,s11,s12],⟨_,_,_,_,_,_,_,rfl⟩,?_,?_⟩
 ·rintro k d Γ' hk ⟨s6,s7,s8,s9,s10,s11,s12,rfl⟩
  have kl:=(List.getElem?_eq_some_iff.mp hk).1
  rw [List.length_map] at kl
  rw [List.getElem?_map,List.getElem?_eq_getElem kl] at hk
  cases hk
  generalize hm:ms[k]=m
  have o:=TO.mok m (hm ▸ List.getElem_mem kl)
  have hk2:ms[k]? = some m:=by rw [List.getElem?_eq_getElem kl,hm]
  refine vD L yQ gl L (by rw [o.nexts.1]; omega) (λr hr=>rfl) ?_
  refine vD L yQ gl L (by rw [o.push.1]; omega) (λr hr=>rfl) ?_
  refine ⟨_,_,_,_,_,_,rfl,zRf o.few (λr hr=>by rw [o.rows r hr]; omega),WF (by rw [o.nexts.1]; omega) (λr hr=>by rw [o.nexts.2 r hr]; omega),uh (by rw [o.steer]; omega),WF (by rw [o.push.1]; omega) (λr hr=>by rw [o.push.2 r hr]; omega),uh (by rw [o.add]; omega),by rw [List.length_map,List.length_take]; omega,?_⟩
  refine ⟨.sh (Rm m.rows),.sh (Tb m.nexts),.sh (L m.steer),.sh (Tb m.push),.sh (L m.add),.sh (.int m.div),.sh (Tb m.nexts),?_⟩
  rw [ut hk2,List.map_append]
  rfl
 ·rintro Γ' ⟨s6,s7,s8,s9,s10,s11,s12,rfl⟩
  rw [List.length_map,List.take_length]
  exact ⟨n,bs,ms,rfl,TO,q⟩
theorem zNA (F:zY K "_law_top" "_law_top" KS f fd):zF P w K mg base zT (k + 1) f fd ["_law_numbers","_law_box_here"] (zG (Jy)):=by
 refine zj F XI λ_ _ _ _ _ _ hr=>⟨_,(zJ (zS 2 XI.nd zD)
  (zJ (xX PassesOwn.never rfl (ud rfl B.zip_ (zB (zA 0) (zB (zA 1) zC))) (xr rfl (zp 3 XI.nd (zp 4 XI.nd xq))) (zK (zS 2 XI.nd (zw (zA 2) (yB (zMG rfl) zPy rfl B.max_ zH3 (zB (yA (zA 3) (zH (zA 4) zD)) (zB (yA (zA 3) (zH (zA 4) zD)) zC)))))))
  (zK (zV (zA 2))))),λds R h=>?_⟩
 obtain ⟨d,ns,bs,ee,rfl,h,l3,bn,e5,bb,q⟩:=h
 refine h.zipL ?_
 refine ⟨λk Γ=>∃ (s3 s4:Sl),Γ=[.sh d,.sh (.lst (bs.map yC)),.sh (.int (ye (ns.take k) (bs.take k))),s3,s4],⟨.no,.no,rfl⟩,?_,?_⟩
 ·rintro k d' Γ' hk ⟨s3,s4,rfl⟩
  obtain ⟨x1,b1,h1,h2,rfl⟩:=X2 _ hk
  obtain ⟨x,hx,rfl⟩:=zJP h1
  obtain ⟨b,hb,rfl⟩:=zJP h2
  have hx':=bn x (List.mem_of_getElem? hx)
  have hb':=bb b (List.mem_of_getElem? hb)
  have kx:=(List.getElem?_eq_some_iff.mp hx).1
  have kb:=(List.getElem?_eq_some_iff.mp hb).1
  refine ⟨_,rfl,hx'.mono,hb'.1.mono (by omega),_,rfl,hx'.mono,hb'.2.mono (by omega),.sh (.int x),.sh (yC b),?_⟩
  rw [ut hx,ut hb,zI2 (by rw [List.length_take,List.length_take]; omega)]
  rfl
 ·rintro Γ' ⟨s3,s4,rfl⟩
  rw [List.length_zipWith,List.length_map,List.length_map,zI1]
  exact q
theorem zLM (F:zY K "_law_mode" "_law_mode" KT f fd) (al:Fn P w K mg base "_law_stream" ["_law_cell","_law_many"] k (zG (gz))) (am:Fn P w K mg base "_law_number" ["_law_x","_law_far"] k (zG (WY))):zF P w K mg base zT (k + 1) f fd ["_law_cell","_law_many","_law_wide","_law_unit","_law_split"] (zG (fMd)):=by
 refine zj F v6 λ_ _ _ _ _ _ hr=>⟨_,(zJ (zS 5 v6.nd (zL al hr rfl (zB (zA 0) (zB zD zC))))
  (zJ (zS 6 v6.nd (zw zD (xI (zH (zA 5) zD) zD)))
  (zJ (uI 7 v6.nd rfl (Or.inl rfl) zC)
  (zJ (uI 8 v6.nd rfl (Or.inl rfl) zC)
  (zJ (xX PassesOwn.never rfl (xF rfl B.range_ (zB (zA 1) zC)) (zx 9 v6.nd) (zJ (yb (wm (vY PySem.F.plainAttrs_list PySem.F.slot_list_append PySem.F.type_list_append xL (xU 7) (zz (yh (own:=["_law_j"]) (caps:=[(5,"_law_xs"),(6,"_law_divisor_here"),(9,"_law_i")]) (yM v6) rfl rfl yX (xF rfl B.range_ (zB (zA 1) zC)) (λ_ _ _ _=>(zx 0 (zy ["_law_j","_law_xs","_law_divisor_here","_law_i"]))) (λ_ _ _ _=>(zL am hr rfl (zB (zH (zA 1) (zw (zw zD (yA zD (zA 3))) (zA 0))) (zB (zH (xM (zB zD (zB (wo (zA 2) zD) zC))) (xo zH2 zMH rfl B.int_ UO (zB (ua hr.units (zA 3) (zA 0)) zC))) zC))))) yf))) vg)
   (zK (yb (wm (vY PySem.F.plainAttrs_list PySem.F.slot_list_append PySem.F.type_list_append xL (xU 8) (zz (yh (own:=["_law_j"]) (caps:=[(5,"_law_xs"),(9,"_law_i")]) (yM v6) rfl rfl yX (xF rfl B.range_ (zB (zA 2) zC)) (λ_ _ _ _=>(zx 0 (zy ["_law_j","_law_xs","_law_i"]))) (λ_ _ _ _=>(zL am hr rfl (zB (zH (zA 1) (zw (zw zD (yA zD (zA 2))) (zA 0))) (zB zD zC))))) yf))) vg))))
  (zJ (uf 10 false v6.nd rfl rfl (own:=["_law_i"]) (caps:=[(3,"_law_unit"),(5,"_law_xs")]) (yM v6) rfl rfl yX (xF rfl B.range_ (zB (zA 1) zC)) (λ_ _ _ _=>(zx 0 (zy ["_law_i","_law_unit","_law_xs"]))) (λ_ _ _ _=>(yA (zL am hr rfl (zB (zH (zA 2) (zw zD (zA 0))) (zB zD zC))) (xI (zH (zA 2) zD) (zA 1)))) rfl)
  (zJ (uI 11 v6.nd rfl (Or.inl rfl) zC)
  (jP (yG (yx (zA 4)) (zJ (uf 12 false v6.nd rfl rfl (own:=["_law_i"]) (caps:=[(5,"_law_xs")]) (yM v6) rfl rfl yX (xF rfl B.range_ (zB (zA 1) zC)) (λ_ _ _ _=>(zx 0 (zy ["_law_i","_law_xs"]))) (λ_ _ _ _=>(zL am hr rfl (zB (zH (zA 1) (zw zD (zA 0))) (zB zD zC)))) rfl)
   (zK (yb (wm (vY PySem.F.plainAttrs_list PySem.F.slot_list_append PySem.F.type_list_append xL (xU 11) (zz (xo jD jL rfl B.tuple_ vb (zB (zw (zA 12) (xM (zB (yA (zL am hr rfl (zB (zH (zA 5) zD) (zB zD zC))) (zA 3)) zC))) zC)) yf))) vg))) yF)
  (zK (vP 7 (vP 8 (vP 11 (zV (yP (zB (zA 11) (zB (zA 7) (zB (yA (xM (zB zD zC)) (zA 1)) (zB (zA 8) (zB (zA 10) (zB (zA 6) zC)))))))))))))))))))),λds R h=>?_⟩
 obtain ⟨c,n,w,u,sp,rfl,n1,n3,wb,u1,bu,q⟩:=h
 refine ⟨c,24,rfl,by decide,λxs lx hx=>?_⟩
 refine uN (by decide) (by omega) λx0 _=>⟨by decide,?_⟩
 have d0:=md x0 (show (0:Int) < 4 by decide)
 obtain ⟨dv,hdv⟩:∃ dv,dv=2 + x0.fmod 4:=⟨_,rfl⟩
 have dv1:2<=dv:=by omega
 have dv5:dv<=5:=by omega
 have bdv:Bd 3 dv:=vH (f:=7) (by decide) (by omega) (by omega)
 refine ⟨k0,k0,by omega,by omega,?_⟩
 rw [show ((n:Nat):Int).toNat=n by omega]
 refine ⟨λk Γ=>∃ (N P:List (List Int)) (s9:Sl),Γ=[.sh (.int c),.sh (.int (n:Int)),.sh (.int (w:Int)),.sh (.int u),.sh (.bool sp),.sh (L xs),.sh (.int dv),.ow (N.map L),.ow (P.map L),s9,.no,.no,.no]/\N.length=k/\P.length=k/\(∀ r∈N,r.length=n/\∀ x∈r,Bd 4 x)/\∀ r∈P,r.length=w/\∀ x∈r,Bd 4 x,⟨[],[],.no,by rw [hdv]; rfl,rfl,rfl,λ_ h=>(nomatch h),λ_ h=>(nomatch h)⟩,?_,?_⟩
 ·rintro k d Γ' hk ⟨N,P,s9,rfl,lN,lP,hN,hP⟩
  obtain ⟨kn,rfl⟩:=vC hk
  have bk:Bd 2 (k:Int):=WW (by omega)
  refine ⟨by omega,by omega,?_⟩
  rw [show ((n:Nat):Int).toNat=n by omega]
  refine zq.nums (λx=>Bd 4 x) (by omega) (λj hj=>?_) λns ln hn=>?_
  ·refine ⟨(Bd.lit (i:=3) (n:=2)).mono,bk.mono,uN (by omega) (by omega) λx1 _=>⟨k0,Yn (by split <;> decide) (by show _ < (2:Int); split <;> decide) λz hz=>?_⟩⟩
   obtain ⟨f,rfl,f1,f4⟩:∃ f,z=.int f/\1<=f/\f<=4:=by
    simp only [List.mem_cons,List.not_mem_nil,or_false] at hz
    rcases hz with rfl | rfl
    ·exact ⟨_,rfl,by decide,by decide⟩
    ·exact ⟨_,rfl,by omega,by omega⟩
   exact ⟨_,f,rfl,by omega,Bd.mono (n:=3) (vH (f:=7) (by decide) (by omega) (by omega)) (by decide),λy y1 y2=>⟨y,rfl,vH (f:=15) (by decide) (by omega) (by omega)⟩⟩
  refine ⟨by rw [List.length_map]; omega,by omega,by omega,?_⟩
  rw [show ((w:Nat):Int).toNat=w by omega]
  refine zq.nums (λx=>Bd 4 x) (by omega) (λj hj=>?_) λps lps hps=>?_
  ·exact ⟨(Bd.lit (i:=2) (n:=2)).mono,bk.mono,uN (by omega) (by omega) λx1 _=>⟨_,2,rfl,by decide,(Bd.lit (i:=2) (n:=2)).mono,λy y1 y2=>⟨y,rfl,vH (f:=15) (by decide) (by omega) (by omega)⟩⟩⟩
  refine ⟨by rw [List.length_map]; omega,N++[ns],P++[ps],.sh (.int (k:Int)),by rw [List.map_append,List.map_append]; rfl,by rw [List.length_append,lN]; rfl,by rw [List.length_append,lP]; rfl,u8 hN ⟨ln,hn⟩,u8 hP ⟨lps,hps⟩⟩
 rintro Γ' ⟨N,P,s9,rfl,lN,lP,hN,hP⟩
 rw [vf] at lN lP
 refine ⟨by omega,by omega,?_⟩
 rw [show ((n:Nat):Int).toNat=n by omega]
 refine zq.nums (λx=>Bd 110 x) (by omega) (λi hi=>?_) λad lad had=>?_
 ·refine uN (by omega) (by omega) λx1 _=>⟨_,2,rfl,by decide,(Bd.lit (i:=2) (n:=2)).mono,λy y1 y2=>uN (by decide) (by omega) λx2 _=>⟨by omega,?_⟩⟩
  have by2:Bd 2 y:=vH (f:=3) (by decide) (by omega) (by omega)
  have bm:Bd 100 (x2.fmod u):=uM bu (by omega)
  exact ⟨by2.mono,bm.mono,_,rfl,(by2.mul bm).mono⟩
 refine ⟨k0,λΓ=>∃ (rows:List (List Int)) (s12:Sl),Γ=[.sh (.int c),.sh (.int (n:Int)),.sh (.int (w:Int)),.sh (.int u),.sh (.bool sp),.sh (L xs),.sh (.int dv),.ow (N.map L),.ow (P.map L),s9,.sh (L ad),.ow (rows.map U),s12]/\rows.length<=1/\(sp=false->rows=[])/\∀ r∈rows,r.length=n + 1/\(∀ x∈r.take n,Bd 4 x)/\∀ x∈r,Bd 110 x,w2 (λc1=>?_) λc1=>⟨[],_,rfl,by decide,λ_=>rfl,λ_ h=>nomatch h⟩,?_⟩
 ·refine ⟨by omega,by omega,?_⟩
  rw [show ((n:Nat):Int).toNat=n by omega]
  refine zq.nums (λx=>Bd 2 x) (by omega) (λi hi=>?_) λrw_ lrw hrw=>?_
  ·exact uN (by omega) (by omega) λx3 _=>⟨_,1,rfl,by decide,(Bd.lit (i:=1) (n:=1)).mono,λy y1 y2=>⟨y,rfl,vH (f:=3) (by decide) (by omega) (by omega)⟩⟩
  refine uN (by decide) (by omega) λx4 _=>⟨_,3,rfl,by decide,(Bd.lit (i:=3) (n:=2)).mono,λy y1 y2=>?_⟩
  have by3:Bd 3 y:=vH (f:=7) (by decide) (by omega) (by omega)
  refine ⟨by3.mono,bu.mono,k0,by rw [List.length_map]; show _ + 1<=1000; omega,by decide,[rw_++[y * u]],.sh (L rw_),?_,by show 1<=1; decide,λz=>(by rw [z] at c1; cases c1),λr hr=>?_⟩
  ·rw [List.map_cons,List.map_nil,U,List.map_append]
   rfl
  ·rw [List.mem_singleton.mp hr]
   exact ⟨by rw [List.length_append,lrw]; rfl,λx hx=>by
    rw [List.take_append_of_le_length (by omega),List.take_of_length_le (by omega)] at hx
    exact (hrw x hx).mono,u8 (λx hx=>(hrw x hx).mono) ((by3.mul bu).mono)⟩
 rintro Γ' ⟨rows,s12,rfl,lr,hsp,hr⟩
 have rep:D.lst (List.replicate n (D.int 0))=L (List.replicate n 0):=by unfold L; rw [List.map_replicate]
 refine ⟨k0,by omega,by omega,?_⟩
 rw [show ((n:Nat):Int).toNat=n by omega,rep]
 exact ⟨k0,q ⟨rows,N,List.replicate n 0,P,ad,dv⟩ ⟨⟨λr h=>(hr r h).1,by show rows.length<=900; omega,⟨lN,λr h=>(hN r h).1⟩,List.length_replicate ..,⟨lP,λr h=>(hP r h).1⟩,lad,by show 1<=dv; omega,n3,by omega⟩,λr h=>(hN r h).2,λr h=>(hP r h).2,had,λx hx=>List.eq_of_mem_replicate hx,bdv,lr,λr h=>(hr r h).2⟩ hsp⟩
theorem zJz (F:zY K "_law_thing" "_law_thing" KU f fd) (ak:Fn P w K mg base "_law_cell_at" ["_law_script","_law_k"] k (zG (Jv))) (cf:Fn P w K mg base "_law_mode" ["_law_cell","_law_many","_law_wide","_law_unit","_law_split"] k (zG (fMd))):zF P w K mg base zT (k + 1) f fd ["_law_script","_law_most_modes"] (zG (Yr)):=by
 refine zj F uo λ_ _ _ _ _ _ hr=>⟨_,(zJ (zS 2 uo.nd (zL ak hr rfl (zB (zA 0) (zB zD zC))))
  (zJ (zS 3 uo.nd (zL ak hr rfl (zB (zA 0) (zB zD zC))))
  (zJ (zS 4 uo.nd (zw zD (xI (wy (zA 2) zD) (zH (xM (zB zD (zB zD (zB (j2 zD zD) (zB (j2 zD zD) zC))))) (xI (zA 2) zD)))))
  (zJ (zS 5 uo.nd (zH (xM (zB zD (zB zD (zB zD (zB zD (zB zD (zB zD zC))))))) (xI (zA 3) zD)))
  (zJ (uI 6 uo.nd rfl (Or.inl rfl) zC)
  (zJ (xX PassesOwn.never rfl (xF rfl B.range_ (zB (xI (wy (zA 3) zD) zD) zC)) (zx 7 uo.nd) (zJ (zS 8 uo.nd (wy (zA 3) (zw zD (yA zD (zA 7)))))
   (zK (yb (wm (vY PySem.F.plainAttrs_list PySem.F.slot_list_append PySem.F.type_list_append xL (xU 6) (zz (yP (zB (wo zD (yA (xI (zA 8) zD) (zA 4))) (zB (yA (xI (wy (zA 8) zD) zD) (zA 4)) zC))) yf))) vg))))
  (zJ (uI 9 uo.nd rfl (Or.inl rfl) zC)
  (zJ (vP 6 (xX PassesOwn.never rfl (xF rfl B.range_ (zB (zw zD (xI (wy (zA 3) zD) (zA 1))) zC)) (zx 7 uo.nd) (zJ (zS 10 uo.nd (zw (zL ak hr rfl (zB (zA 0) (zB (zw zD (zA 7)) zC))) (zA 7)))
   (zK (yb (wm (vY PySem.F.plainAttrs_list PySem.F.slot_list_append PySem.F.type_list_append xL (xU 9) (zz (zL cf hr rfl (zB (zA 10) (zB (zA 5) (zB (yB yk yo rfl B.len_ ym (zB (zA 6) zC)) (zB (zA 4) (zB xn zC)))))) yf))) vg)))))
  (zK (vP 9 (zV (yP (zB (zA 5) (zB (zA 6) (zB (zA 9) (zB (zA 4) zC)))))))))))))))),λds R h=>?_⟩
 obtain ⟨ns,rfl,q⟩:=h
 refine ⟨ns,0,rfl,by decide,λfirst=>⟨ns,1,rfl,by decide,λsecond=>?_⟩⟩
 have key:∀ x∈[D.int 3,D.int 9,D.int (10 ^ (15:Int).toNat),D.int (10 ^ (30:Int).toNat)],ue (λv=>1<=v/\Bd 100 v) x:=λx hx=>by
  simp only [List.mem_cons,List.not_mem_nil,or_false] at hx
  rcases hx with rfl | rfl | rfl | rfl <;> exact ⟨_,rfl,by decide,Bd.lit⟩
 have f4:=md first (show (0:Int) < 4 by decide)
 refine ⟨by decide,(Bd.lit (i:=4) (n:=3)).mono,⟨by decide,by decide,by decide⟩,⟨by decide,by decide,by decide⟩,k0,by decide,Yn f4.1 (by show first.fmod 4 < 4; omega) λx hxk=>?_⟩
 obtain ⟨v,rfl,v1,bv⟩:=key x hxk
 have fv:=md (first.fdiv 4) (show (0:Int) < v by omega)
 obtain ⟨u,hu⟩:∃ u,u=1 + (first.fdiv 4).fmod v:=⟨_,rfl⟩
 have u1:1<=u:=by omega
 have bu:Bd 100 u:=bv.of_le (by omega)
 refine ⟨by omega,?_⟩
 have s6:=md second (show (0:Int) < 6 by decide)
 refine ⟨k0,by decide,Yn s6.1 (by show second.fmod 6 < 6; omega) λz hz=>?_⟩
 obtain ⟨n,rfl,n1,n3⟩:∃ n:Nat,z=.int (n:Int)/\1<=n/\n<=3:=by
  simp only [List.mem_cons,List.not_mem_nil,or_false] at hz
  rcases hz with rfl | rfl | rfl | rfl | rfl | rfl
  ·exact ⟨1,rfl,by decide,by decide⟩
  ·exact ⟨2,rfl,by decide,by decide⟩
  ·exact ⟨2,rfl,by decide,by decide⟩
  ·exact ⟨1,rfl,by decide,by decide⟩
  ·exact ⟨3,rfl,by decide,by decide⟩
  ·exact ⟨2,rfl,by decide,by decide⟩
 have p3:=md (second.fdiv 6) (show (0:Int) < 3 by decide)
 refine ⟨k0,by decide,(Bd.lit (i:=6) (n:=3)).mono,by decide,by omega,by omega,?_⟩
 refine ⟨λk Γ=>∃ (bs:List (Int × Int)) (s6 s7:Sl),Γ=[.sh (.scr ns),.sh (.int 1),.sh (.int first),.sh (.int second),.sh (.int u),.sh (.int (n:Int)),.ow (bs.map yC),s6,s7,.no,.no]/\bs.length=k/\∀ b∈bs,b.1<=b.2/\Bd 105 b.1/\Bd 105 b.2,⟨[],.no,.no,by rw [hu]; rfl,rfl,λ_ h=>nomatch h⟩,?_,?_⟩
 ·rintro k d Γ' hk ⟨bs,s6,s7,rfl,lb,hb⟩
  obtain ⟨kn,rfl⟩:=vC hk
  have bk:Bd 2 (k:Int):=WW (by omega)
  refine ⟨(Bd.lit (i:=11) (n:=4)).mono,bk.mono,by omega,Bd.mono (n:=10) (vH (f:=1000) (by decide) (by omega) (by omega)) (by decide),?_⟩
  obtain ⟨x,hx⟩:∃ x,x=second.fdiv (18 + 11 * (k:Int)):=⟨_,rfl⟩
  have a1:=md x (show (0:Int) < 3 by decide)
  have a2:=md (x.fdiv 3) (show (0:Int) < 3 by decide)
  rw [<- hx]
  have g1:0<=x.fmod 3 * u:=Int.mul_nonneg a1.1 (by omega)
  have g2:0<=(x.fdiv 3).fmod 3 * u:=Int.mul_nonneg a2.1 (by omega)
  have c1:Bd 102 (x.fmod 3 * u):=(uM (n:=2) Bd.lit (by decide)).mul bu
  have c2:Bd 102 ((x.fdiv 3).fmod 3 * u):=(uM (n:=2) Bd.lit (by decide)).mul bu
  refine ⟨by decide,Bd.mono (n:=2) (uM Bd.lit (by decide)) (by decide),bu.mono,by decide,(Bd.lit (i:=3) (n:=2)).mono,by decide,Bd.mono (n:=2) (uM Bd.lit (by decide)) (by decide),bu.mono,k0,by rw [List.length_map]; omega,?_⟩
  exact ⟨bs++[(0 - x.fmod 3 * u,(x.fdiv 3).fmod 3 * u)],.sh (.int (k:Int)),.sh (.int x),by rw [List.map_append]; rfl,by rw [List.length_append,lb]; rfl,u8 hb ⟨by show 0 - x.fmod 3 * u<=(x.fdiv 3).fmod 3 * u; omega,by rw [Int.zero_sub]; exact c1.neg.mono,c2.mono⟩⟩
 rintro Γ' ⟨bs,s6,s7,rfl,lb,hb⟩
 rw [vf] at lb
 have lm:(List.map yC bs).length=bs.length:=List.length_map ..
 have p4:=md (second.fdiv 54) (show (0:Int) < 1 by decide)
 refine ⟨k0,by decide,(Bd.lit (i:=54) (n:=6)).mono,by decide,by omega,by omega,?_⟩
 refine ⟨λk Γ=>∃ (ms:List MD) (s6 s9:Sl),Γ=[.sh (.scr ns),.sh (.int 1),.sh (.int first),.sh (.int second),.sh (.int u),.sh (.int (n:Int)),.sh (.lst (bs.map yC)),s6,s7,.ow (ms.map ja),s9]/\ms.length=k/\(∀ m∈ms,Jz n bs.length m)/\∀ m∈ms,m.rows=[],⟨[],_,.no,rfl,rfl,λ_ h=>(nomatch h),λ_ h=>nomatch h⟩,?_,?_⟩
 ·rintro k d Γ' hk ⟨ms,s6,s9,rfl,lms,hms,hmr⟩
  obtain ⟨kn,rfl⟩:=vC hk
  refine ⟨ns,2 + (k:Int),rfl,by omega,λcc=>?_⟩
  refine ⟨cc + (k:Int),n,bs.length,u,false,by rw [<- lm],n1,n3,by omega,u1,bu,λm hm hmr'=>⟨by rw [List.length_map]; omega,ms++[m],.sh (.int (k:Int)),.sh (.int (cc + (k:Int))),by rw [List.map_append]; rfl,by rw [List.length_append,lms]; rfl,u8 hms hm,u8 hmr (hmr' rfl)⟩⟩
 rintro Γ' ⟨ms,s6,s9,rfl,lms,hms,hmr⟩
 rw [vf] at lms
 obtain ⟨m,rfl⟩:=List.length_eq_one_iff.mp (show ms.length=1 by omega)
 exact ⟨k0,q n bs m u ⟨n1,n3,by omega,hb,by show 1<=1; decide,by show 1<=3; decide,hms,u1,bu⟩ (hmr m (List.mem_singleton.mpr rfl))⟩
theorem zHm (F:zY K "_law_divisor" "_law_divisor" KW f fd):zF P w K mg base zT (k + 1) f fd ["_law_one","_law_other"] (zG Ys):=by
 refine F.ok zEr (X8 λds R h=>by obtain ⟨a,b,rfl,_⟩:=h; rfl) (λcdv A outer s H vs Q E hr h=>?_)
 obtain ⟨Z,ds,R,zd,hv,⟨a,b,rfl,q0⟩,q⟩:=h
 refine ⟨_,(uP (Kv PassesOwn.never (K8 W6 (L2.pv 1) Kq (vW _)) (Wt (zQq (i:=0) (j:=1) rfl zEr.nd rfl rfl (by decide) rfl rfl (zz (L2.pv 1) (zz (Ky Kz (L2.pv 0) (L2.pv 1)) yf)) rfl)))
  (Wt (Ks (wX K9 rfl B.abs_ zH4 (zz (L2.pv 0) yf))))),?_⟩
 try dsimp only [za,Cx.nox,Cx.wish]
 obtain ⟨v1,v2,rfl,h1,h2⟩:=jK hv
 cases h1
 cases h2
 refine zMS (λσ H'=>∃ c r:Int,σ=[some (.int c),some (.int r)]/\H'=H/\Int.gcd c r=Int.gcd a b) (λσ _=>match σ with | [_,some (.int r)]=>r.natAbs | _=>0) ⟨a,b,rfl,rfl,rfl⟩ ?_ ?_
 ·rintro σ H' ⟨c,r,rfl,rfl,hg⟩
  refine ⟨_,rfl,rfl,_,rfl,?_⟩
  by_cases z0:r=0
  ·subst z0
   refine kz rfl ?_
   refine ⟨_,rfl,c,rfl,?_⟩
   rw [zR1]
   rw [Int.gcd_zero_right] at hg
   rw [hg]
   exact q _ _ _ q0 (Sm.refl _) (.int _)
  ·have ne:¬ (V.int r=V.int 0):=λe=>z0 (by injection e)
   refine k8 (zPX z0) ?_
   refine ⟨_,rfl,_,rfl,_,rfl,_,_,rfl,rfl,z0,_,_,rfl,?_⟩
   exact ⟨⟨r,c.fmod r,rfl,rfl,by rw [zNX]; exact hg⟩,zLo z0⟩
 ·rintro σ H' Q1 Q2 h ⟨v,e,sc,k,ek,q1⟩
  exact ⟨v,e,sc,k,ek,h _ _ q1⟩
theorem zIb (F:zY K "_law_lowest" "_law_lowest" KY f fd) (cg:Fn P w K mg base "_law_divisor" ["_law_one","_law_other"] k (zG Ys)):zF P w K mg base zT (k + 1) f fd ["_law_top_here","_law_bottom"] (zG (jb)):=by
 refine zj F zFK λ_ _ _ _ _ _ hr=>⟨_,(zJ (zS 2 zFK.nd (zL cg hr rfl (zB (zA 0) (zB (zA 1) zC))))
  (zK (zV (yP (zB (wy (zA 0) (zA 2)) (zB (wy (zA 1) (zA 2)) zC)))))),λds R h=>?_⟩
 obtain ⟨a,b,rfl,b0,bb,q⟩:=h
 have g0:(Int.gcd a b:Int)≠0:=Int.ne_of_gt (zPf (Int.ne_of_gt b0))
 have bg:=zRw (a:=a) bb b0
 refine ⟨a,b,rfl,g0,bg.mono,g0,bg.mono,k0,?_⟩
 unfold dQ at q
 rw [(WL b0).1,(WL b0).2] at q
 exact q
theorem zLL (F:zY K "_law_plus" "_law_plus" KZ f fd) (aB:Fn P w K mg base "_law_lowest" ["_law_top_here","_law_bottom"] k (zG (jb))):zF P w K mg base zT (k + 1) f fd ["_law_one","_law_other"] (zG (Yt)):=by
 refine zj F zKb λ_ _ _ _ _ _ hr=>⟨_,(zK (zV (zL aB hr rfl (zB (zw (yA (zH (zA 0) zD) (zH (zA 1) zD)) (yA (zH (zA 1) zD) (zH (zA 0) zD))) (zB (yA (zH (zA 0) zD) (zH (zA 1) zD)) zC))))),λds R h=>?_⟩
 obtain ⟨a,b,c,d,rfl,b0,d0,ba,bb,bc,bd,q⟩:=h
 refine ⟨_,rfl,_,rfl,ba.mono,bd.mono,_,rfl,_,rfl,bc.mono,bb.mono,_,rfl,_,rfl,bb.mono,bd.mono,_,_,rfl,Int.mul_pos b0 d0,(bb.mul bd).mono,?_⟩
 rw [zPu b0 d0]
 exact q
theorem zJ3 (F:zY K "_law_along" "_law_along" Ka f fd) (ap:Fn P w K mg base "_law_plus" ["_law_one","_law_other"] k (zG (Yt))):zF P w K mg base zT (k + 1) f fd ["_law_numbers","_law_values"] (zG (jc)):=by
 refine zj F XJ λ_ _ _ _ _ _ hr=>⟨_,(zJ (zS 2 XJ.nd (yP (zB zD (zB zD zC))))
  (zJ (xX PassesOwn.never rfl (ud rfl B.zip_ (zB (zA 0) (zB (zA 1) zC))) (xr rfl (zp 3 XJ.nd (zp 4 XJ.nd xq))) (zK (zS 2 XJ.nd (zL ap hr rfl (zB (zA 2) (zB (yP (zB (yA (zA 3) (zH (zA 4) zD)) (zB (zH (zA 4) zD) zC))) zC))))))
  (zK (zV (zA 2))))),λds R h=>?_⟩
 obtain ⟨d,ns,n,xs,Q,ee,qq,rfl,h,ln,bn,PT,q⟩:=h
 have n3:=PT.n3
 have lx:=PT.len
 have q1:=PT.q1
 have e1:=PT.e1
 refine ⟨k0,h.zipL ?_⟩
 refine ⟨λk Γ=>∃ s3 s4,Γ=[.sh d,.sh (dP xs),.sh (dQ (zQ (ns.take k) (xs.take k))),s3,s4],⟨.no,.no,rfl⟩,?_,?_⟩
 ·rintro k d' Γ' hk ⟨s3,s4,rfl⟩
  obtain ⟨a,b,h1,h2,rfl⟩:=X2 _ hk
  obtain ⟨w,hw,rfl⟩:=zLg h1
  obtain ⟨x,hx,rfl⟩:=zLg h2
  have bx:=xY PT.Q0 PT.bQ (PT.sz x (List.mem_of_getElem? hx))
  have bp:=xY PT.Q0 PT.bQ (u7 (c:=300) (ws:=ns.take k) (xs:=xs.take k) (λw h=>bn w (List.mem_of_mem_take h)) λx h=>PT.sz x (List.mem_of_mem_take h))
  have lt:(xs.take k).length<=6:=by rw [List.length_take]; omega
  have bw:=bn w (List.mem_of_getElem? hw)
  refine ⟨_,rfl,bw.mono,bx.1.mono (by omega),_,rfl,k0,_,_,_,_,rfl,vx _,vx x,bp.1.mono (by omega),bp.2.mono (by omega),(bw.mul bx.1).mono (by omega),bx.2.mono (by omega),.sh (.int w),.sh (dQ x),?_⟩
  rw [jW,Yu,<- JZ (by rw [List.length_take,List.length_take]; omega),<- ut hw,<- ut hx]
  rfl
 ·rintro Γ' ⟨s3,s4,rfl⟩
  rw [List.length_zipWith,List.length_map,List.length_map,List.take_of_length_le (by omega),List.take_of_length_le (by omega)]
  exact q
theorem zJ2 (F:zY K "_law_holds" "_law_holds" Kb f fd) (aq:Fn P w K mg base "_law_along" ["_law_numbers","_law_values"] k (zG (jc))):zF P w K mg base zT (k + 1) f fd ["_law_row","_law_point_here"] (zG (Yv)):=by
 refine zj F zGS λ_ _ _ _ _ _ hr=>⟨_,(zJ (zS 2 zGS.nd (zL aq hr rfl (zB (wz (zA 0) vO (we (x9 zD))) (zB (zA 1) zC))))
  (zK (zV (Xx (zH (zA 2) zD) (yA (zH (zA 0) (x9 zD)) (zH (zA 2) zD)))))),λds R h=>?_⟩
 obtain ⟨r,n,xs,Q,ee,qq,rfl,lr,br,PT,q⟩:=h
 have n3:=PT.n3
 have q1:=PT.q1
 have e1:=PT.e1
 have bp:=xY PT.Q0 PT.bQ (u7 (c:=300) (ws:=r.take n) (xs:=xs) (λw h=>br w (List.mem_of_mem_take h)) PT.sz)
 refine ⟨_,r.take n,n,xs,Q,ee,qq,rfl,.inr (by rw [YQ lr]),by rw [List.length_take]; omega,λw h=>br w (List.mem_of_mem_take h),PT,?_⟩
 refine ⟨_,rfl,_,gm lr,_,rfl,(wP br n).mono,bp.2.mono (by omega),bR q ?_⟩
 unfold hQ
 rw [PT.len]
 exact decide_eq_decide.mpr J1.symm
theorem zLO (F:zY K "_law_lies" "_law_lies" Kc f fd) (ci:Fn P w K mg base "_law_holds" ["_law_row","_law_point_here"] k (zG (Yv))):zF P w K mg base zT (k + 1) f fd ["_law_room","_law_point_here"] (zG (zRm)):=by
 refine zj F zHb λ_ _ _ _ _ _ hr=>⟨_,(zK (zV (yB (uT rfl) ub rfl B.all_ uU (zB (yh (own:=["_law_row"]) (caps:=[(1,"_law_point_here")]) (yM zHb) rfl rfl yX (xR (zA 0)) (λ_ _ _ _=>(zx 0 (zy ["_law_row","_law_point_here"]))) (λ_ _ _ _=>(zL ci hr rfl (zB (zA 0) (zB (zA 1) zC))))) zC)))),λds R h=>?_⟩
 obtain ⟨rm,n,xs,Q,ee,qq,rfl,l9,hr,PT,q⟩:=h
 refine vD U yQ JN (λr=>.bool (hQ xs r)) (by omega) (λr h=>⟨r,n,xs,Q,ee,qq,rfl,(hr r h).1,(hr r h).2,PT,rfl⟩) ⟨rm.map (hQ xs),by rw [List.map_map]; rfl,bR q ?_⟩
 rw [List.all_map]
 rfl
theorem zJ1 (F:zY K "_law_point" "_law_point" Ke f fd) (al:Fn P w K mg base "_law_stream" ["_law_cell","_law_many"] k (zG (gz))) (aB:Fn P w K mg base "_law_lowest" ["_law_top_here","_law_bottom"] k (zG (jb))):zF P w K mg base zT (k + 1) f fd ["_law_cell","_law_box_here"] (zG (zOR)):=by
 refine zj F qG λ_ _ _ _ _ _ hr=>⟨_,(zJ (zS 2 qG.nd (zL al hr rfl (zB (zA 0) (zB (zw (yB yk yo rfl B.len_ ym (zB (zA 1) zC)) zD) zC))))
  (zJ (zS 3 qG.nd (zw zD (xI (zH (zA 2) (x9 zD)) zD)))
  (zJ (uI 4 qG.nd rfl (Or.inl rfl) zC)
  (zJ (xX PassesOwn.never rfl (xF rfl B.range_ (zB (yB yk yo rfl B.len_ ym (zB (zA 1) zC)) zC)) (zx 5 qG.nd) (zJ (qk (zH (zA 1) (zA 5)) (xr rfl (zp 6 qG.nd (zp 7 qG.nd xq))))
   (zJ (zS 8 qG.nd (zH (xM (zB zD (zB (zA 3) (zB (xI (zH (zA 2) (zA 5)) (zw (zA 3) zD)) zC)))) (xI (wy (zH (zA 2) (zA 5)) zD) zD)))
   (zK (yb (wm (vY PySem.F.plainAttrs_list PySem.F.slot_list_append PySem.F.type_list_append xL (xU 4) (zz (zL aB hr rfl (zB (zw (yA (zA 6) (wo (zA 3) (zA 8))) (yA (zA 7) (zA 8))) (zB (zA 3) zC))) yf))) vg)))))
  (zK (vP 4 (zV (zA 4)))))))),λds R h=>?_⟩
 obtain ⟨c,bs,rfl,l3,hb,q⟩:=h
 have lb:(List.map yC bs).length=bs.length:=List.length_map ..
 refine ⟨c,bs.length + 1,by rw [show (((bs.length + 1:Nat)):Int)=((bs.map yC).length:Int) + 1 by omega],by omega,λxs lx hx=>?_⟩
 refine ⟨_,gm lx,by decide,?_⟩
 have m4:=md (xs.getD bs.length 0) (show (0:Int) < 4 by decide)
 obtain ⟨p,hp⟩:∃ p,p=1 + (xs.getD bs.length 0).fmod 4:=⟨_,rfl⟩
 have p1:1<=p:=by omega
 have p4:p<=4:=by omega
 have bp:Bd 3 p:=vH (f:=7) (by decide) (by omega) (by omega)
 refine ⟨k0,by omega,by omega,?_⟩
 rw [show ((List.length (List.map yC bs):Nat):Int).toNat=bs.length by omega]
 refine ⟨λk Γ=>∃ (ys:List Rat) (s5 s6 s7 s8:Sl),Γ=[.sh (.int c),.sh (.lst (bs.map yC)),.sh (L xs),.sh (.int p),.ow (ys.map dQ),s5,s6,s7,s8]/\ys.length=k/\(∀ i (h:i < bs.length),i < k->((bs[i].1:Int):Rat)<=ys.getD i 0/\ys.getD i 0<=((bs[i].2:Int):Rat))/\∀ y∈ys,xu 12 120 y,⟨[],.no,.no,.no,.no,by rw [hp]; rfl,rfl,λ_ _ h=>absurd h (Nat.not_lt_zero _),λ_ h=>nomatch h⟩,?_,?_⟩
 ·rintro k d Γ' hk ⟨ys,s5,s6,s7,s8,rfl,ly,hy,sy⟩
  obtain ⟨kn,rfl⟩:=vC hk
  obtain ⟨h1,h2,h3⟩:=hb _ (List.getElem_mem kn)
  refine ⟨_,Yq kn rfl,?_⟩
  refine uN (by omega) (by omega) λx1 _=>⟨by omega,k0,uN (by omega) (by omega) λx2 _=>⟨by decide,(Bd.lit (i:=8) (n:=4)).mono,by decide,Yn (md _ (by decide)).1 (by have:=md (x2.fdiv 8) (show (0:Int) < 3 by decide); show (x2.fdiv 8).fmod 3 < 3; omega) λz hz=>?_⟩⟩
  obtain ⟨w,rfl,w0,wp⟩:∃ w,z=.int w/\0<=w/\w<=p:=by
   have:=md x1 (show (0:Int) < p + 1 by omega)
   simp only [List.mem_cons,List.not_mem_nil,or_false] at hz
   rcases hz with rfl | rfl | rfl
   ·exact ⟨_,rfl,by decide,by omega⟩
   ·exact ⟨_,rfl,by omega,by omega⟩
   ·exact ⟨_,rfl,by omega,by omega⟩
  have bw:Bd 3 w:=vH (f:=7) (by decide) (by omega) (by omega)
  have bpw:Bd 3 (p - w):=vH (f:=7) (by decide) (by omega) (by omega)
  refine ⟨h2.mono,bpw.mono,h3.mono,bw.mono,_,_,rfl,by omega,bp.mono,by rw [List.length_map]; omega,?_⟩
  have bq:=Yx h1 p1 w0 wp
  refine ⟨ys++[((bs[k].1 * (p - w) + bs[k].2 * w:Int):Rat) / (p:Rat)],.sh (.int (k:Int)),.sh (.int bs[k].1),.sh (.int bs[k].2),.sh (.int w),by rw [List.map_append]; rfl,by rw [List.length_append,ly]; rfl,λi hi ik=>?_,u8 sy (vE (Yy ((h2.mul bpw).add (h3.mul bw)) p1 p4) (by decide))⟩
  by_cases e:i < k
  ·rw [List.getD_eq_getElem?_getD,List.getElem?_append_left (by omega),<- List.getD_eq_getElem?_getD]
   exact hy i hi e
  ·have e:i=k:=by omega
   subst e
   rw [List.getD_eq_getElem?_getD,List.getElem?_append_right (by omega),ly,Nat.sub_self]
   exact bq
 ·rintro Γ' ⟨ys,s5,s6,s7,s8,rfl,ly,hy,sy⟩
  rw [vf] at ly hy
  exact q ys ly (λi h=>hy i h h) sy
theorem zIc (F:zY K "_law_behind" "_law_behind" Kf f fd) (ap:Fn P w K mg base "_law_plus" ["_law_one","_law_other"] k (zG (Yt))) (aq:Fn P w K mg base "_law_along" ["_law_numbers","_law_values"] k (zG (jc))) (aB:Fn P w K mg base "_law_lowest" ["_law_top_here","_law_bottom"] k (zG (jb))):zF P w K mg base zT (k + 1) f fd ["_law_mode_here","_law_point_here","_law_steering","_law_pushes"] (zG (gG)):=by
 refine zj F uq λ_ _ _ _ _ _ hr=>⟨_,(zJ (qk (zA 0) (xr rfl (zp 4 uq.nd (zp 5 uq.nd (zp 6 uq.nd (zp 7 uq.nd (zp 8 uq.nd (zp 9 uq.nd xq))))))))
  (zJ (uI 10 uq.nd rfl (Or.inl rfl) zC)
  (zJ (xX PassesOwn.never rfl (xF rfl B.range_ (zB (yB yk yo rfl B.len_ ym (zB (zA 1) zC)) zC)) (zx 11 uq.nd) (zJ (zS 12 uq.nd (zL ap hr rfl (zB (zL aq hr rfl (zB (zH (zA 5) (zA 11)) (zB (zA 1) zC))) (zB (zL aq hr rfl (zB (zH (zA 7) (zA 11)) (zB (zA 3) zC))) zC))))
   (zJ (zS 12 uq.nd (zL ap hr rfl (zB (zA 12) (zB (zL aq hr rfl (zB (xM (zB (zH (zA 6) (zA 11)) (zB (zH (zA 8) (zA 11)) zC))) (zB (xM (zB (zA 2) (zB (yP (zB zD (zB zD zC))) zC))) zC))) zC))))
   (zK (yb (wm (vY PySem.F.plainAttrs_list PySem.F.slot_list_append PySem.F.type_list_append xL (xU 10) (zz (zL aB hr rfl (zB (zH (zA 12) zD) (zB (yA (zH (zA 12) zD) (zA 9)) zC))) yf))) vg)))))
  (zK (vP 10 (zV (zA 10))))))),λds R h=>?_⟩
 obtain ⟨m,n,bs,xs,us,Q,ee,qq,rfl,TH,X,Us,e1,qe,q⟩:=h
 have MO:=TH.mo
 have MB:=TH.mse
 have bd:=TH.dv
 have lx:=X.len
 have lu:=Us.len
 have n3:=TH.ok.n3
 have p3:=TH.b2
 have q1:=X.q1
 have d1:=MO.div
 have lm:(List.map dQ xs).length=n:=by rw [List.length_map]; exact lx
 refine ⟨k0,by omega,by omega,?_⟩
 rw [show ((List.length (List.map dQ xs):Nat):Int).toNat=n by omega]
 refine ⟨λk Γ=>∃ (s11 s12:Sl),Γ=[.sh (ja m),.sh (dP xs),.sh (dQ 0),.sh (dP us),.sh (Rm m.rows),.sh (Tb m.nexts),.sh (L m.steer),.sh (Tb m.push),.sh (L m.add),.sh (.int m.div),.ow (((List.range k).map (gr m xs us)).map dQ),s11,s12],⟨.no,.no,rfl⟩,?_,?_⟩
 ·rintro k d Γ' hk ⟨s11,s12,rfl⟩
  obtain ⟨kn,rfl⟩:=vC hk
  have k1:k < m.nexts.length:=by rw [MO.nexts.1]; exact kn
  have k2:k < m.push.length:=by rw [MO.push.1]; exact kn
  have b1:∀ w∈m.nexts.getD k [],Bd 200 w:=MB.nexts _ (vG k1)
  have b2:∀ w∈m.push.getD k [],Bd 200 w:=MB.push _ (vG k2)
  have z1:=u7 b1 X.sz
  have z2:=u7 b2 Us.sz
  have s1:=gn (vE z1 (show _<=ee + 204 by omega)) (vE z2 (show _<=ee + 204 by omega))
  have z3:=gp (wP MB.add k) X.bQ
  have s2:=gn s1 (vE z3 (show _<=ee + 204 + 1 by omega))
  have y1:=xY X.Q0 X.bQ z1
  have y2:=xY X.Q0 X.bQ z2
  have y3:=xY X.Q0 X.bQ z3
  have y4:=xY X.Q0 X.bQ s1
  have y5:=xY X.Q0 X.bQ s2
  have P2:yz 2 [0,1] Q ee qq:=⟨rfl,by decide,X.Q0,X.bQ,X.q1,X.e1,λx hx=>by
   rcases List.mem_cons.mp hx with rfl | hx
   ·exact jV _ _
   ·rw [List.mem_singleton.mp hx]
    exact vE (gp (w:=1) (e:=1) Bd.lit X.bQ) (by omega)⟩
  refine ⟨_,jd k1,_,_,n,xs,Q,ee,qq,rfl,.inl rfl,MO.nexts.2 _ (vG k1),λw h=>(b1 w h).mono,X,?_⟩
  refine ⟨_,jd k2,_,_,bs.length,us,Q,ee,qq,rfl,.inl rfl,MO.push.2 _ (vG k2),λw h=>(b2 w h).mono,Us,?_⟩
  refine ⟨_,_,_,_,rfl,vx _,vx _,y1.1.mono (by omega),y1.2.mono (by omega),y2.1.mono (by omega),y2.2.mono (by omega),?_⟩
  rw [jW,jW]
  refine ⟨_,yd (j:=k) (by rw [MO.steer]; exact kn) rfl,_,yd (j:=k) (by rw [MO.add]; exact kn) rfl,k0,k0,k0,_,[m.steer.getD k 0,m.add.getD k 0],2,[0,1],Q,ee,qq,rfl,.inl rfl,rfl,λw hw=>?_,P2,?_⟩
  ·rcases List.mem_cons.mp hw with rfl | hw
   ·exact (wP MB.steer k).mono
   ·rw [List.mem_singleton.mp hw]
    exact (wP MB.add k).mono
  rw [zPs]
  refine ⟨_,_,_,_,rfl,vx _,vx _,y4.1.mono (by omega),y4.2.mono (by omega),y3.1.mono (by omega),y3.2.mono (by omega),?_⟩
  rw [jW,jW]
  refine ⟨_,rfl,_,rfl,y5.2.mono (by omega),bd.mono,_,_,rfl,Int.mul_pos (vx _) (by omega),(y5.2.mul bd).mono (by omega),by rw [List.length_map,List.length_map,List.length_range]; omega,.sh (.int (k:Int)),.sh (dQ (zQ (m.nexts.getD k []) xs + zQ (m.push.getD k []) us + (m.add.getD k 0:Rat))),?_⟩
  rw [Yz _ d1,List.range_succ,List.map_append,List.map_append]
  rfl
 ·rintro Γ' ⟨s11,s12,rfl⟩
  rw [vf]
  exact q
theorem zNB (F:zY K "_law_led" "_law_led" Kg f fd) (aQ:Fn P w K mg base "_law_top" ["_law_numbers","_law_box_here"] k (zG (Jy))) (ap:Fn P w K mg base "_law_plus" ["_law_one","_law_other"] k (zG (Yt))):zF P w K mg base zT (k + 1) f fd ["_law_spec","_law_numbers","_law_turns"] (zG (Y4)):=by
 refine zj F wr λ_ _ _ _ _ _ hr=>⟨_,(zJ (qk (zH (zH (zA 0) zD) zD) (xr rfl (zp 3 wr.nd (zp 4 wr.nd (zp 5 wr.nd (zp 6 wr.nd (zp 7 wr.nd (zp 8 wr.nd xq))))))))
  (zJ (zS 9 wr.nd zD)
  (zJ (zS 10 wr.nd (yP (zB zD (zB zD zC))))
  (zJ (xX PassesOwn.never rfl (xF rfl B.range_ (zB (zA 2) zC)) (zx 11 wr.nd) (zJ (zS 9 wr.nd (yA (zA 9) (zA 8)))
   (zJ (uf 12 false wr.nd rfl rfl (own:=["_law_j"]) (caps:=[(0,"_law_spec"),(1,"_law_numbers"),(6,"_law_push")]) (yM wr) rfl rfl yX (xF rfl B.range_ (zB (yB yk yo rfl B.len_ ym (zB (zH (zA 0) zD) zC)) zC)) (λ_ _ _ _=>(zx 0 (zy ["_law_j","_law_spec","_law_numbers","_law_push"]))) (λ_ _ _ _=>(yB (ZC rfl) Zl rfl B.sum_ ZB (zB (yh (own:=["_law_i"]) (caps:=[(0,"_law_j"),(2,"_law_numbers"),(3,"_law_push")]) WC rfl rfl yX (xF rfl B.range_ (zB (zH (zA 1) zD) zC)) (λ_ _ _ _=>(zx 0 (zy ["_law_i","_law_j","_law_numbers","_law_push"]))) (λ_ _ _ _=>(yA (zH (zA 2) (zA 0)) (zH (zH (zA 3) (zA 0)) (zA 1))))) zC))) rfl)
   (zJ (zS 13 wr.nd (zw (zL aQ hr rfl (zB (zA 12) (zB (zH (zA 0) zD) zC))) (yB (ZC rfl) Zl rfl B.sum_ ZB (zB (yh (own:=["_law_i"]) (caps:=[(1,"_law_numbers"),(7,"_law_add")]) (yM wr) rfl rfl yX (xF rfl B.range_ (zB (zH (zA 0) zD) zC)) (λ_ _ _ _=>(zx 0 (zy ["_law_i","_law_numbers","_law_add"]))) (λ_ _ _ _=>(yA (zH (zA 1) (zA 0)) (zH (zA 2) (zA 0))))) zC))))
   (zJ (zS 10 wr.nd (zL ap hr rfl (zB (zA 10) (zB (yP (zB (zA 13) (zB (zA 9) zC))) zC))))
   (zK (zS 1 wr.nd (yh (own:=["_law_j"]) (caps:=[(0,"_law_spec"),(1,"_law_numbers"),(4,"_law_nexts")]) (yM wr) rfl rfl yX (xF rfl B.range_ (zB (zH (zA 0) zD) zC)) (λ_ _ _ _=>(zx 0 (zy ["_law_j","_law_spec","_law_numbers","_law_nexts"]))) (λ_ _ _ _=>(yB (ZC rfl) Zl rfl B.sum_ ZB (zB (yh (own:=["_law_i"]) (caps:=[(0,"_law_j"),(2,"_law_numbers"),(3,"_law_nexts")]) WC rfl rfl yX (xF rfl B.range_ (zB (zH (zA 1) zD) zC)) (λ_ _ _ _=>(zx 0 (zy ["_law_i","_law_j","_law_numbers","_law_nexts"]))) (λ_ _ _ _=>(yA (zH (zA 2) (zA 0)) (zH (zH (zA 3) (zA 0)) (zA 1))))) zC)))))))))))
  (zK (zV (yP (zB (zA 1) (zB (zA 9) (zB (zA 10) zC)))))))))),λds R h=>?_⟩
 obtain ⟨n,bs,m,w,u,t,rfl,T,lu,bu,t20,q⟩:=h
 have n3:=T.ok.n3
 have b2:=T.b2
 have MO:=T.mo
 have d1:=MO.div
 refine ⟨_,rfl,_,rfl,k0,by omega,by omega,?_⟩
 rw [show ((t:Nat):Int).toNat=t by omega]
 refine ⟨λk Γ=>∃ (s11 s12 s13:Sl),Γ=[.sh (wR n bs [m] w),.sh (L (zl n m k u)),.sh (.int ((t:Nat):Int)),.sh (Rm m.rows),.sh (Tb m.nexts),.sh (L m.steer),.sh (Tb m.push),.sh (L m.add),.sh (.int m.div),.sh (.int (m.div ^ k)),.sh (dQ (wS n bs m u k)),s11,s12,s13],⟨.no,.no,.no,by rw [Int.pow_zero]; rfl⟩,?_,?_⟩
 ·rintro k d Γ' hk ⟨s11,s12,s13,rfl⟩
  obtain ⟨kt,rfl⟩:=vC hk
  have lk:=gE (m:=m) lu k
  have bk:=gv T lu bu k
  have bg:=zLh T lu bu (k:=k) (by omega)
  have bm:=zOH T lu bu (k:=k) (by omega)
  have bp:=g6 T.dv k
  have bp':=g6 T.dv (k + 1)
  have lb:(bs.map yC).length=bs.length:=List.length_map ..
  refine ⟨bp.mono (by omega),T.dv.mono,_,rfl,by omega,by omega,?_⟩
  rw [show ((List.length (List.map yC bs):Nat):Int).toNat=bs.length by omega]
  refine zq.rng0 (λj=>.int (yD (zl n m k u) m.push j)) (by omega) (λj hj=>?_) ?_
  ·refine ⟨_,rfl,by omega,by omega,?_⟩
   rw [show ((n:Nat):Int).toNat=n by omega]
   refine zq.rng0 (λi=>.int ((zl n m k u).getD i 0 * (m.push.getD i []).getD j 0)) (by omega) (λi hi=>?_) ⟨(List.range n).map λi=>(zl n m k u).getD i 0 * (m.push.getD i []).getD j 0,by rw [List.map_map]; rfl,?_⟩
   ·have k2:i < m.push.length:=by rw [MO.push.1]; exact hi
    exact ⟨_,yd (j:=i) (by omega) rfl,_,jd k2,_,yd (j:=j) (by rw [MO.push.2 _ (vG k2)]; exact hj) rfl,(wP bk i).mono (by omega),(wP (T.ps _ (vG k2)) j).mono,rfl⟩
   ·show D.int _=D.int _
    rw [<- QA (by rw [lk,MO.push.1]),lk]
  rw [show (List.range bs.length).map (λj=>D.int (yD (zl n m k u) m.push j))=(zi bs m (zl n m k u)).map D.int by unfold zi; rw [List.map_map]; rfl]
  have lp:(zi bs m (zl n m k u)).length=bs.length:=by unfold zi; rw [List.length_map,List.length_range]
  refine ⟨_,rfl,_,zi bs m (zl n m k u),bs,105,rfl,.inl rfl,by omega,λx hx=>(Js T lk bk x hx).mono (by omega),by decide,T.bb,_,rfl,by omega,by omega,?_⟩
  rw [show ((n:Nat):Int).toNat=n by omega]
  refine zq.rng0 (λi=>.int ((zl n m k u).getD i 0 * m.add.getD i 0)) (by omega) (λi hi=>?_) ⟨(List.range n).map λi=>(zl n m k u).getD i 0 * m.add.getD i 0,by rw [List.map_map]; rfl,?_⟩
  ·exact ⟨_,yd (j:=i) (by omega) rfl,_,yd (j:=i) (by rw [MO.add]; exact hi) rfl,(wP bk i).mono (by omega),(wP T.ad i).mono,rfl⟩
  have hG:ye (zi bs m (zl n m k u)) bs + ((List.range n).map λi=>(zl n m k u).getD i 0 * m.add.getD i 0).sum=Y3 n bs m u k:=by
   unfold Y3
   have:=zQV (us:=zl n m k u) (vs:=m.add) (by rw [lk,MO.add])
   rw [lk] at this
   rw [J0,this]
  refine ⟨k0,_,_,_,_,rfl,vx _,by rw [<- Int.pow_succ]; exact pow_pos d1 (k + 1),bm.1.mono,bm.2.mono,by rw [hG]; exact bg.mono,by rw [<- Int.pow_succ]; exact bp'.mono (by omega),?_⟩
  refine ⟨_,rfl,by omega,by omega,?_⟩
  rw [show ((n:Nat):Int).toNat=n by omega]
  refine zq.rng0 (λj=>.int (yD (zl n m k u) m.nexts j)) (by omega) (λj hj=>?_) ?_
  ·refine ⟨_,rfl,by omega,by omega,?_⟩
   rw [show ((n:Nat):Int).toNat=n by omega]
   refine zq.rng0 (λi=>.int ((zl n m k u).getD i 0 * (m.nexts.getD i []).getD j 0)) (by omega) (λi hi=>?_) ⟨(List.range n).map λi=>(zl n m k u).getD i 0 * (m.nexts.getD i []).getD j 0,by rw [List.map_map]; rfl,?_⟩
   ·have k2:i < m.nexts.length:=by rw [MO.nexts.1]; exact hi
    exact ⟨_,yd (j:=i) (by omega) rfl,_,jd k2,_,yd (j:=j) (by rw [MO.nexts.2 _ (vG k2)]; exact hj) rfl,(wP bk i).mono (by omega),(wP (T.nx _ (vG k2)) j).mono,rfl⟩
   ·show D.int _=D.int _
    rw [<- QA (by rw [lk,MO.nexts.1]),lk]
  rw [show (List.range n).map (λj=>D.int (yD (zl n m k u) m.nexts j))=(zl n m (k + 1) u).map D.int by show _=List.map D.int ((List.range n).map _); rw [List.map_map]; rfl]
  refine ⟨.sh (.int (k:Int)),.sh (L (zi bs m (zl n m k u))),.sh (.int (Y3 n bs m u k)),?_⟩
  rw [<- hG]
  show ([.sh (wR n bs [m] w),.sh (L (zl n m (k + 1) u)),.sh (.int ((t:Nat):Int)),.sh (Rm m.rows),.sh (Tb m.nexts),.sh (L m.steer),.sh (Tb m.push),.sh (L m.add),.sh (.int m.div),.sh (.int (m.div ^ k * m.div)),.sh (dQ (((wS n bs m u k).num:Rat) / (((wS n bs m u k).den:Int):Rat) + ((ye (zi bs m (zl n m k u)) bs + ((List.range n).map λi=>(zl n m k u).getD i 0 * m.add.getD i 0).sum:Int):Rat) / ((m.div ^ k * m.div:Int):Rat))),_,_,_]:List Sl)=_
  rw [jW,hG,<- Int.pow_succ]
  rfl
 ·rintro Γ' ⟨s11,s12,s13,rfl⟩
  rw [vf]
  exact ⟨k0,q⟩
theorem zLK (F:zY K "_law_rows" "_law_rows" Kh f fd):zF P w K mg base zT (k + 1) f fd ["_law_box_here"] (zG (zOP)):=by
 refine zj F kC λ_ _ _ _ _ _ hr=>⟨_,(zJ (uI 1 kC.nd rfl (Or.inl rfl) zC)
  (zJ (xX PassesOwn.never rfl (xF rfl B.range_ (zB (yB yk yo rfl B.len_ ym (zB (zA 0) zC)) zC)) (zx 2 kC.nd) (zJ (uf 3 false kC.nd rfl rfl (own:=["_law_j"]) (caps:=[(2,"_law_i")]) (yM kC) rfl rfl yX (xF rfl B.range_ (zB (yB yk yo rfl B.len_ ym (zB (zA 0) zC)) zC)) (λ_ _ _ _=>(zx 0 (zy ["_law_j","_law_i"]))) (λ_ _ _ _=>(xo zH2 zMH rfl B.int_ UO (zB (ua hr.units (zA 0) (zA 1)) zC))) rfl)
   (zJ (yb (wm (vY PySem.F.plainAttrs_list PySem.F.slot_list_append PySem.F.type_list_append xL (xU 1) (zz (xo jD jL rfl B.tuple_ vb (zB (zw (zA 3) (xM (zB (zH (zH (zA 0) (zA 2)) zD) zC))) zC)) yf))) vg)
   (zK (yb (wm (vY PySem.F.plainAttrs_list PySem.F.slot_list_append PySem.F.type_list_append xL (xU 1) (zz (xo jD jL rfl B.tuple_ vb (zB (zw (yh (own:=["_law_one"]) (caps:=[]) (yM kC) rfl rfl yX (xR (zA 3)) (λ_ _ _ _=>(zx 0 (zy ["_law_one"]))) (λ_ _ _ _=>(wo zD (zA 0)))) (xM (zB (wo zD (zH (zH (zA 0) (zA 2)) zD)) zC))) zC)) yf))) vg)))))
  (zK (vP 1 (zV (zA 1)))))),λds R h=>?_⟩
 obtain ⟨n,bs,rfl,B,q⟩:=h
 have n3:=B.n3
 have l1:bs.length<=100:=by rw [B.len]; omega
 rw [<- zOu B] at q
 have lp:(List.map yC bs).length=bs.length:=List.length_map ..
 refine ⟨k0,by omega,by omega,?_⟩
 rw [show ((List.length (List.map yC bs):Nat):Int).toNat=bs.length by omega]
 refine ⟨λk Γ=>∃ (s2 s3:Sl),Γ=[.sh (.lst (bs.map yC)),.ow ((((bs.mapIdx (wA bs.length)).take k).flatten).map U),s2,s3],⟨.no,.no,rfl⟩,?_,?_⟩
 ·rintro k d Γ' hk ⟨s2,s3,rfl⟩
  obtain ⟨kn,rfl⟩:=vC hk
  have hx:(bs.mapIdx (wA bs.length))[k]? = some (wA bs.length k bs[k]):=by rw [List.getElem?_mapIdx,List.getElem?_eq_getElem kn]; rfl
  have ll:((bs.mapIdx (wA bs.length)).take k).flatten.length=2 * k:=by
   rw [List.length_flatten]
   have e:((bs.mapIdx (wA bs.length)).take k).map List.length=List.replicate k 2:=by
    refine List.ext_getElem (by simp; omega) λi h1 h2=>?_
    simp [wA]
   rw [e]
   simp
   omega
  refine ⟨by omega,by omega,?_⟩
  rw [show ((List.length (List.map yC bs):Nat):Int).toNat=bs.length by omega]
  refine zq.rng0 (λj=>.int (if (j:Int)=(k:Int) then 1 else 0)) (by omega) (λj hj=>by show D.int _=_; rw [zRd]) ?_
  have eu:(List.range bs.length).map (λj:Nat=>D.int (if (j:Int)=(k:Int) then 1 else 0))=(yE (k:Int) bs.length 1).map D.int:=by unfold yE; rw [List.map_map]; rfl
  rw [eu]
  refine ⟨_,Yq kn rfl,_,rfl,k0,by rw [List.length_map,xz]; show _ + 1<=1000; omega,by rw [List.length_map]; omega,?_⟩
  refine zq.int (λx=>0 - x) (by rw [xz]; omega) (λx hx=>rfl) ?_
  refine ⟨_,Yq kn rfl,_,rfl,k0,by rw [List.length_map,List.length_map,xz]; show _ + 1<=1000; omega,by rw [List.length_append,List.length_map]; show _ + 1 < 1000; omega,?_⟩
  refine ⟨.sh (.int (k:Int)),.sh (L (yE (k:Int) bs.length 1)),?_⟩
  rw [zMY hx,List.map_append]
  unfold wA
  rw [List.map_cons,List.map_cons,List.map_nil,U,U,List.map_append,List.map_append,<- List.append_cons]
  rfl
 ·rintro Γ' ⟨s2,s3,rfl⟩
  rw [vf,List.take_of_length_le (by rw [List.length_mapIdx]; omega)]
  exact q
theorem zJy (F:zY K "_law_wants" "_law_wants" Ki f fd):zF P w K mg base zT (k + 1) f fd ["_law_numbers","_law_open_at"] (zG (zOM)):=by
 refine zj F zJn λ_ _ _ _ _ _ hr=>⟨_,(zJ (yG (j6 (zA 1) wx) (zK (zV xn)) yF)
  (zK (zV (zQn (yA (zH (zA 0) (wy (zA 1) zD)) (wo zD (yA (xI (zA 1) zD) zD))) zD)))),λds R h=>?_⟩
 obtain ⟨n,us,oa,rfl,lu,n3,bu,ho,q⟩:=h
 rcases ho with rfl | ⟨k,hk,rfl⟩
 ·exact wT rfl q
 ·have e1:((k:Nat):Int).fdiv 2=((k / 2:Nat):Int):=by rw [Int.fdiv_eq_ediv_of_nonneg _ (by decide)]; omega
  have e2:((k:Nat):Int).fmod 2=((k % 2:Nat):Int):=by rw [Int.fmod_eq_emod_of_nonneg _ (by decide)]; omega
  refine wF rfl ⟨by decide,(Bd.lit (i:=2) (n:=2)).mono,?_⟩
  rw [e1]
  refine ⟨_,yd (j:=k / 2) (by omega) rfl,by decide,?_⟩
  rw [e2]
  have b2:Bd 3 (((k % 2:Nat):Int)):=vH (f:=7) (by decide) (by omega) (by omega)
  have b3:Bd 3 (1 - ((k % 2:Nat):Int) * 2):=vH (f:=7) (by decide) (by omega) (by omega)
  refine ⟨b2.mono,(Bd.lit (i:=2) (n:=2)).mono,(wP bu _).mono,b3.mono,?_⟩
  exact q
theorem zJ0 (F:zY K "_law_start" "_law_start" Kj f fd) (cj:Fn P w K mg base "_law_rows" ["_law_box_here"] k (zG (zOP))) (al:Fn P w K mg base "_law_stream" ["_law_cell","_law_many"] k (zG (gz))):zF P w K mg base zT (k + 1) f fd ["_law_box_here","_law_cell"] (zG (zOO)):=by
 refine zj F kD λ_ _ _ _ _ _ hr=>⟨_,(zJ (zS 2 kD.nd (zL cj hr rfl (zB (zA 0) zC)))
  (zJ (zS 3 kD.nd (zL al hr rfl (zB (zA 1) (zB zD zC))))
  (zJ (zS 4 kD.nd (xI (zH (zA 3) zD) (yB yk yo rfl B.len_ ym (zB (zA 2) zC))))
  (zJ (yG (uw hr.units (xI (zH (zA 3) zD) zD) zD) (zK (zV (yP (zB (zw (wz (zA 2) vO (we (zA 4))) (wz (zA 2) (we (zw (zA 4) zD)) vO)) (zB (zA 4) (zB xn zC)))))) yF)
  (zJ (yG (uw hr.units (xI (zH (zA 3) zD) zD) zD) (zJ (zS 5 kD.nd (xo jD jL rfl B.tuple_ vb (zB (yh (own:=["_law_number_here"]) (caps:=[]) (yM kD) rfl rfl yX (xR (zH (zA 2) (zA 4))) (λ_ _ _ _=>(zx 0 (zy ["_law_number_here"]))) (λ_ _ _ _=>(wo zD (zA 0)))) zC)))
   (zK (zV (yP (zB (zw (zA 2) (xM (zB (zw (wz (zA 5) vO (we (x9 zD))) (yP (zB (wo (wo (zH (zA 5) (x9 zD)) zD) (xI (zH (zA 3) zD) zD)) zC))) zC))) (zB wx (zB xn zC))))))) yF)
  (zK (zV (yP (zB (zA 2) (zB wx (zB xn zC))))))))))),λds R h=>?_⟩
 obtain ⟨n,bx,c,rfl,B,q⟩:=h
 refine ⟨n,bx,rfl,B,?_⟩
 refine ⟨c,3,rfl,by decide,λxs lx hx=>?_⟩
 have n1:=B.n1
 have n3:=B.n3
 have lr:((xO n bx).map λb=>U (rI n b)).length=2 * n:=by rw [List.length_map,je]
 refine ⟨_,yd (j:=1) (by omega) rfl,by show ((_:Nat):Int)≠0; omega,?_⟩
 have m1:=md (xs.getD 1 0) (show (0:Int) < ((((xO n bx).map λb=>U (rI n b)).length:Nat):Int) by omega)
 obtain ⟨k,hk⟩:∃ k:Nat,(xs.getD 1 0).fmod ((((xO n bx).map λb=>U (rI n b)).length:Nat):Int)=(k:Int):=⟨((xs.getD 1 0).fmod ((((xO n bx).map λb=>U (rI n b)).length:Nat):Int)).toNat,by omega⟩
 rw [hk] at m1 |-
 have kn:k < 2 * n:=by omega
 refine ⟨_,yd (j:=0) (by omega) rfl,by decide,w2 (λc1=>?_) λc1=>?_⟩
 ·have ek:(((k:Nat):Int) + 1)=((k + 1:Nat):Int):=by omega
  have e1:=zPv ((xO n bx).map λb=>U (rI n b)) k
  have e2:=zL9 ((xO n bx).map λb=>U (rI n b)) (k + 1)
  rw [<- ek] at e2
  refine ⟨by show (zh _ _ _).length + (zh _ _ _).length<=1000; rw [e1,e2,List.length_take,List.length_drop]; omega,k0,?_⟩
  show R (.tup [.lst (zh ((xO n bx).map λb=>U (rI n b)) none (some ((k:Nat):Int))++zh ((xO n bx).map λb=>U (rI n b)) (some (((k:Nat):Int) + 1)) none),.int ((k:Nat):Int),.bool false])
  rw [e1,e2]
  have h:=q _ _ _ (zOq B kn)
  unfold y9 vR at h
  rw [List.map_append,List.map_take,List.map_drop] at h
  exact h
 ·refine ⟨_,yd (j:=0) (by omega) rfl,by decide,w2 (λc2=>?_) λc2=>⟨k0,q _ _ _ (zKV B)⟩⟩
  have m3:=md (xs.getD 2 0) (show (0:Int) < 3 by decide)
  have O:=Wa B kn
  refine ⟨_,XA kn,?_⟩
  refine zq.int (λx=>0 - x) (by rw [vz]; omega) (λx hx=>rfl) ?_
  rw [zPj]
  have ec:=YR (yE ((zr bx k).1:Int) n (-(zr bx k).2.1)) (-((zr bx k).2.1 * (zr bx k).2.2))
  refine ⟨_,gm (n:=n) (by rw [List.length_append,xz]; rfl),_,yd (j:=2) (by omega) rfl,by decide,k0,by show (zh _ _ _).length + 1<=1000; rw [ec,List.length_map,xz]; omega,k0,by rw [lr]; show 2 * n + 1<=1000; omega,k0,?_⟩
  have h:=q _ _ _ (zOp (d:=1 + (xs.getD 2 0).fmod 3) B kn (by omega) (by omega))
  unfold y9 at h
  rw [List.map_append] at h
  have e:(yE ((zr bx k).1:Int) n (-(zr bx k).2.1)++[-((zr bx k).2.1 * (zr bx k).2.2)]).getD n 0 = -((zr bx k).2.1 * (zr bx k).2.2):=by
   rw [List.getD_eq_getElem?_getD,List.getElem?_append_right (by rw [xz]; omega),xz,Nat.sub_self]
   rfl
  show R (.tup [.lst (((xO n bx).map λb=>U (rI n b))++[.tup (zh ((yE ((zr bx k).1:Int) n (-(zr bx k).2.1)++[-((zr bx k).2.1 * (zr bx k).2.2)]).map D.int) none (some (-1))++[.int ((yE ((zr bx k).1:Int) n (-(zr bx k).2.1)++[-((zr bx k).2.1 * (zr bx k).2.2)]).getD n 0 - 1 - (xs.getD 2 0).fmod 3)])]),.non,.bool true])
  rw [ec,e,XB O.2.1]
  have e2:U (rI n (vS (zr bx k) (1 + (xs.getD 2 0).fmod 3)))=.tup ((yE ((zr bx k).1:Int) n (-(zr bx k).2.1)).map D.int++[.int (-(zr bx k).2.1 * ((zr bx k).2.2 + (zr bx k).2.1 * (1 + (xs.getD 2 0).fmod 3)))]):=by
   show D.tup ((zc n _ _ _).map D.int)=_
   unfold zc
   rw [List.map_append]
   rfl
  rw [show List.map (λb=>U (rI n b)) [vS (zr bx k) (1 + (xs.getD 2 0).fmod 3)]=[U (rI n (vS (zr bx k) (1 + (xs.getD 2 0).fmod 3)))] from rfl,e2] at h
  exact h
theorem zNC (F:zY K "_law_end" "_law_end" Kk f fd) (aR:Fn P w K mg base "_law_behind" ["_law_mode_here","_law_point_here","_law_steering","_law_pushes"] k (zG (gG))):zF P w K mg base zT (k + 1) f fd ["_law_spec","_law_point_here","_law_run"] (zG (XC)):=by
 refine zj F Wg λ_ _ _ _ _ _ hr=>⟨_,(zJ (xX PassesOwn.never rfl (xR (zA 2)) (zx 3 Wg.nd) (zJ (yG (PW.pt (wD (xa (yx (yT (wX va rfl B.isinstance_ ww (zz (zA 3) (zz (vV (v:=.ty "tuple") (u:=.type "tuple") rfl B.tuple_ vb rfl) yf))) (vh Z9)))) (wD (ve hr.units (yB yk yo rfl B.len_ ym (zB (zA 3) zC)) zD) (wD (ve hr.units (zH (zA 3) zD) zD) (vB (ve hr.units (yB yk yo rfl B.len_ ym (zB (zH (zA 3) zD) zC)) (yB yk yo rfl B.len_ ym (zB (zH (zA 0) zD) zC)))))))) (zK (zV wx)) yF)
   (zJ (xX PassesOwn.never rfl (xF rfl B.range_ (zB (yB yk yo rfl B.len_ ym (zB (zH (zA 0) zD) zC)) zC)) (zx 4 Wg.nd) (zK (yG (zOz hr.units (zH (zH (zA 3) zD) (zA 4)) (yP (zB (yP (zB (zH (zH (zH (zA 0) zD) (zA 4)) zD) (zB zD zC))) (zB (yP (zB (zH (zH (zH (zA 0) zD) (zA 4)) zD) (zB zD zC))) zC)))) (zK (zV wx)) yF)))
   (zK (zS 1 Wg.nd (zL aR hr rfl (zB (zH (zH (zA 0) zD) zD) (zB (zA 1) (zB (yP (zB zD (zB zD zC))) (zB (zH (zA 3) zD) zC))))))))))
  (zK (zV (zA 1)))),λds R h=>?_⟩
 obtain ⟨n,bs,m,v,x0,ws,rfl,T,lx,bx,l20,hw,q⟩:=h
 have n3:=T.ok.n3
 have b2:=T.b2
 have d1:=T.mo.div
 have lb:(bs.map yC).length=bs.length:=List.length_map ..
 have P0:yz n (xA x0) (1 * 1) (391 + 20 * 0) (1 + 3 * 0):=by have:=q9 (vs:=x0) (by omega) (by decide) bx; rw [lx] at this; exact this
 refine ⟨λk Γ=>∃ (xs:List Rat) (s3 s4:Sl),Γ=[.sh (wR n bs [m] v),.sh (dP xs),.sh (.lst (ws.map w6)),s3,s4]/\xs=wj n m (xA x0) (ws.take k)/\∃ P:Nat,yz n xs (1 * P) (391 + 20 * k) (1 + 3 * k),⟨xA x0,.no,.no,(by rw [j9]; rfl),rfl,1,P0⟩,?_,?_⟩
 ·rintro k d Γ' hk ⟨xs,s3,s4,rfl,e,P,PT⟩
  obtain ⟨w,hg,rfl⟩:=zOL hk
  have kl:=(List.getElem?_eq_some_iff.mp hg).1
  have I:=hw w (List.mem_of_getElem? hg)
  have Y:yz bs.length (xA w) (1 * P) (391 + 20 * k) (1 + 3 * k):=zKq I.1 (by omega) PT.Q0 PT.bQ PT.q1 PT.e1 (I.bd T.bb) (by omega)
  have ZZ:=Jo (P:=m.div.toNat) T PT Y (by omega) (by omega) (by omega) (by omega)
  refine ⟨rfl,wF rfl ⟨λz=>(nomatch (show (!decide ((3:Int)=3))=true from z)),λ_=>?_⟩⟩
  refine ⟨_,rfl,wF rfl ?_⟩
  refine ⟨_,rfl,_,rfl,wF ?_ ?_⟩
  ·show (!decide _)=false
   rw [List.length_map,List.length_map,I.1,decide_eq_true rfl]
   rfl
  refine ⟨_,rfl,by omega,by omega,?_⟩
  rw [show ((List.length (List.map yC bs):Nat):Int).toNat=bs.length by omega]
  refine ⟨λj Γ=>∃ (s4:Sl),Γ=[.sh (wR n bs [m] v),.sh (dP xs),.sh (.lst (ws.map w6)),.sh (w6 w),s4],⟨_,rfl⟩,?_,?_⟩
  ·rintro j d Γ' hj ⟨s4,rfl⟩
   obtain ⟨jn,rfl⟩:=vC hj
   refine ⟨_,rfl,_,xj (f:=dF) 0 (by rw [I.1]; exact jn),_,rfl,_,Yq jn rfl,_,rfl,k0,_,rfl,_,Yq jn rfl,_,rfl,k0,k0,rfl,rfl,wF ?_ ⟨_,rfl⟩⟩
   have ev:∀ x:Int,PyData.eqv (dF x).py (dF x).py=true:=λx=>qC 50 _ rfl
   rcases I.2 j jn with z | z
   ·show (!((PyData.eqv (dF bs[j].1).py (dF (w.getD j 0)).py) || _))=false
    rw [z,ev]
    rfl
   ·show (!((PyData.eqv (dF bs[j].1).py (dF (w.getD j 0)).py) || (PyData.eqv (dF bs[j].2).py (dF (w.getD j 0)).py || false)))=false
    rw [z,ev,Bool.or_false,Bool.or_true]
    rfl
  ·rintro Γ' ⟨s4,rfl⟩
   refine ⟨_,rfl,_,rfl,k0,_,rfl,m,n,bs,xs,xA w,_,_,_,by rw [j9]; rfl,T,PT,Y,by omega,by omega,?_⟩
   refine ⟨_,_,_,rfl,?_,P * m.div.toNat,?_⟩
   ·rw [ut hg,Jn,<- e]
   ·rw [Nat.mul_assoc] at ZZ
    exact ZZ
 ·rintro Γ' ⟨xs,s3,s4,rfl,e,P,PT⟩
  rw [List.length_map] at e PT
  rw [List.take_of_length_le (Nat.le_refl _)] at e
  exact q xs e ⟨_,_,_,PT⟩
theorem zGE {cC cP cS:Addr} (Z:Er K mg cC cP cS) (F:zY K "ask_closed" "ask_closed" Wc f fd) (aF:vL P w K mg base ah "is_closed" ["self"] k (zG (JS ah ag))):zF P w K mg base (xV P w) (k + 1) f fd ["thing"] (u4 (QE ah ag cC)):=by
 refine F.okX zD2 (JK λC ds h=>by cases h with | mk n bs ms e=>rw [e]; rfl) λcdv A outer s H vs Q E hr h=>⟨_,uP (Ww (xa (yx (jR aF ae hr (zA 0)))) (uP (zJG (C:=cC) (E:=E) (λ_ _ _ _ _ _ _ _ I mx qx=>zGW I mx qx) Z.excC rfl Z.mgC rfl (zB uv zC)) jo) jo) jo,?_⟩
 obtain ⟨Z0,ds,C,zd,hv,⟨n,bs,ms,rfl,h,cl,rfl⟩,q⟩:=h
 refine zQK (JL (N:=["thing"]) (ps:=["thing"]) zd hv rfl) ?_ ?_ q
 ·exact ⟨rfl,by decide +kernel,n,bs,ms,rfl,h,(by show (!_)=true; rw [cl]; rfl)⟩
 ·show 1<=1000
  decide
theorem zG4 {cC cP cS:Addr} (Z:Er K mg cC cP cS) (F:zY K "ask_plain" "ask_plain" We f fd) (aN:vL P w K mg base ah "is_plain" ["self"] k (zG (Jt ah ag))):zF P w K mg base (xV P w) (k + 1) f fd ["thing"] (u4 (QF ah ag cP)):=by
 refine F.okX zEs (JK λC ds h=>by cases h with | mk n bs ms e=>rw [e]; rfl) λcdv A outer s H vs Q E hr h=>⟨_,uP (Ww (xa (yx (jR aN ae hr (zA 0)))) (uP (zJG (C:=cP) (E:=E) (λ_ _ _ _ _ _ _ _ I mx qx=>zGW I mx qx) Z.excP rfl Z.mgP rfl (zB uv zC)) jo) jo) jo,?_⟩
 obtain ⟨Z0,ds,C,zd,hv,⟨n,bs,ms,rfl,cl,rfl⟩,q⟩:=h
 refine zQK (JL (N:=["thing"]) (ps:=["thing"]) zd hv rfl) ?_ ?_ q
 ·exact ⟨rfl,by decide +kernel,n,bs,ms,rfl,(by show (!_)=true; rw [cl]; rfl)⟩
 ·show 1<=1000
  decide
theorem zLE {cC cP:Addr} (F:zY K "worst" "worst" Wf f fd) (aO:Fn P w K mg base "ask_closed" ["thing"] k (zG (JT ah ag))) (x_ask_closed:jE P w K mg base "ask_closed" ["thing"] k (u4 (QE ah ag cC))) (x_ask_plain:jE P w K mg base "ask_plain" ["thing"] k (u4 (QF ah ag cP))):zF P w K mg base (xV P w) (k + 1) f fd ["thing","start","row","turns"] (u4 (QG ah ag cC cP)):=by
 refine F.okX XG (JK λC ds h=>by cases h with | mk n bs ms d1 d2 d3 e=>rw [e]; rfl) λcdv A outer s H vs Q E hr h=>?_
 obtain ⟨Z0,ds,C,zd,hv,⟨n,bs,ms,d1,d2,d3,rfl,h,hc⟩,q⟩:=h
 have en:=JL (N:=["thing","start","row","turns","pulled","found","points"]) (ps:=["thing","start","row","turns"]) zd hv rfl
 rcases hc with ⟨rfl,cl⟩ | ⟨rfl,cl,pl⟩
 ·exact ⟨_,uP (wm (zJJ x_ask_closed hr rfl (zB (zA 0) zC))) zJD,zKO en ⟨n,bs,ms,rfl,h,cl,rfl⟩ q⟩
 ·refine ⟨_,uP (wm (zL aO hr rfl (zB (zA 0) zC))) (uP (wm (zJJ x_ask_plain hr rfl (zB (zA 0) zC))) zJD),?_⟩
  refine ⟨Z0,_,λ_=>True,en,?_,λd v H1 _ s1 _=>?_⟩
  ·exact ⟨n,bs,ms,rfl,h,cl,trivial⟩
  ·dsimp only
   refine zKO (en.same s1) ?_ λH2 s2=>q H2 (s1.trans s2)
   exact ⟨n,bs,ms,rfl,pl,rfl⟩
theorem zHl {cC cP cS:Addr} (Z:Er K mg cC cP cS) (F:zY K "_law_refused" "_law_refused" Kl f fd) (x_worst:jE P w K mg base "worst" ["thing","start","row","turns"] k (u4 (QG ah ag cC cP))) (aS:Fn P w K mg base "_law_made" ["_law_spec"] k (zG (Jx ah ag))):zF P w K mg base zT (k + 1) f fd ["_law_spec","_law_cell","_law_row"] (zG (XD)):=by
 refine zj F vU λ_ _ _ _ _ _ hr=>⟨_,(zJ (qk (zH (zH (zA 0) zD) zD) (xr rfl (zp 3 vU.nd (zp 4 vU.nd (zp 5 vU.nd (zp 6 vU.nd (zp 7 vU.nd (zp 8 vU.nd xq))))))))
  (zJ (zS 9 vU.nd (xM (zB (yP (zB (zA 3) (zB (zA 4) (zB (zw (xM (zB zD zC)) (wz (zA 5) (we zD) vO)) (zB (zA 6) (zB (zA 7) (zB (zA 8) zC))))))) zC)))
  (jP (yG (uw hr.units (xI (zA 1) zD) zD) (zK (zS 9 vU.nd (xM (zB (zH (zH (zA 0) zD) zD) (zB (zH (zH (zA 0) zD) zD) zC))))) yF)
  (jP (yG (uw hr.units (xI (zA 1) zD) zD) (zK (zS 9 vU.nd (xM (zB (yP (zB (xM (zB (zA 2) zC)) (zB (zA 4) (zB (zA 5) (zB (zA 6) (zB (zA 7) (zB (zA 8) zC))))))) zC)))) yF)
  (zJ (zS 10 vU.nd (xM (zB xn (zB xn zC))))
  (zJ (zS 11 vU.nd (xM zC))
  (zJ (yb (zO4 (i:=12) rfl Z.mgS rfl rfl rfl vU.nd rfl rfl (zKs (zMq (zK2 x_worst hr rfl (zB (zL aS hr rfl (zB (yP (zB (zH (zA 0) zD) (zB (zH (zA 0) zD) (zB (zA 9) (zB (zH (zA 0) zD) zC))))) zC)) (zB (xM zC) (zB (zA 2) (zB zD zC)))))) zMp) (λ_=>(uP (XW (i:=11) vU.nd rfl (Or.inl rfl) (UA (zz (wX (show wM _ _ (ZN K) from zEK) rfl B.isinstance_ ww (zz (kJ (i:=12) rfl (Or.inl rfl)) (zz (XT (v:=.ref cC) rfl Z.mgC rfl) yf))) (zz (wX (show wM _ _ (ZN K) from zEK) rfl B.isinstance_ ww (zz (kJ (i:=12) rfl (Or.inl rfl)) (zz (XT (v:=.ref cP) rfl Z.mgP rfl) yf))) yf)))) jo))) zOg)
  (jP (yG (qh (xI (zA 1) zD) zD) (zK (zS 10 vU.nd (xM (zB xn (zB xn zC))))) yF)
  (zK (zV (ua hr.units (zA 11) (zA 10)))))))))))),λds R h=>?_⟩
 obtain ⟨n,bs,m,u,c,r,rfl,T,lr,q⟩:=h
 have n1:=T.ok.n1
 have n3:=T.ok.n3
 have MO:=T.mo
 have m3:=md c (show (0:Int) < 3 by decide)
 have ec:zh (m.steer.map D.int) (some 1) none=(m.steer.drop 1).map D.int:=by rw [List.map_drop]; exact zL9 _ 1
 refine ⟨_,rfl,_,rfl,?_⟩
 refine ⟨k0,by show 1 + (zh _ _ _).length<=1000; rw [ec,List.length_map,List.length_drop,MO.steer]; omega,k0,k0,?_⟩
 refine ⟨λΓ=>∃ ms:List MD,Γ=[.sh (wR n bs [m] u),.sh (.int c),.sh (U r),.sh (Rm m.rows),.sh (Tb m.nexts),.sh (L m.steer),.sh (Tb m.push),.sh (L m.add),.sh (.int m.div),.sh (.lst (ms.map ja)),.no,.no,.no]/\(c.fmod 3≠2->uj n bs c ms),⟨by decide,w2 (λc1=>⟨_,rfl,_,rfl,_,rfl,_,rfl,k0,[m,m],rfl,λ_=>zP3 T (of_decide_eq_true c1)⟩) λc1=>⟨[{ m with steer:=1 :: m.steer.drop 1 }],?_,λh=>zNn T ?_⟩⟩,?_⟩
 ·show ([.sh (wR n bs [m] u),.sh (.int c),.sh (U r),.sh (Rm m.rows),.sh (Tb m.nexts),.sh (L m.steer),.sh (Tb m.push),.sh (L m.add),.sh (.int m.div),.sh (.lst [.tup [Rm m.rows,Tb m.nexts,.lst ([D.int 1]++zh (m.steer.map D.int) (some 1) none),Tb m.push,L m.add,.int m.div]]),.no,.no,.no]:List Sl)=_
  rw [ec]
  rfl
 ·have:=of_decide_eq_false c1
  omega
 rintro Γ' ⟨ms,rfl,hms⟩
 refine ⟨λΓ=>∃ ms:List MD,Γ=[.sh (wR n bs [m] u),.sh (.int c),.sh (U r),.sh (Rm m.rows),.sh (Tb m.nexts),.sh (L m.steer),.sh (Tb m.push),.sh (L m.add),.sh (.int m.div),.sh (.lst (ms.map ja)),.no,.no,.no]/\uj n bs c ms,⟨by decide,w2 (λc1=>⟨k0,k0,k0,[{ m with rows:=[r] }],rfl,zP4 T (of_decide_eq_true c1) lr⟩) λc1=>⟨ms,rfl,hms (of_decide_eq_false c1)⟩⟩,?_⟩
 clear ms hms
 rintro Γ' ⟨ms,rfl,ok,hb⟩
 refine ⟨k0,k0,_,rfl,_,rfl,_,rfl,k0,n,bs,ms,u,rfl,ok,k0,?_⟩
 have key:∃ C a b,((C=cC/\uK ms=false)\/(C=cP/\uK ms=true/\gw ms=false))/\PySem.W.exmOne K (.ref C) (.ref cS)=some true/\xg K C/\PySem.W.kitOne K (.ref C) (.ref cC)=some a/\PySem.W.kitOne K (.ref C) (.ref cP)=some b/\a = !decide (0 < c.fmod 3)/\b=decide (0 < c.fmod 3):=by
  rcases hb with ⟨h0,h1⟩ | ⟨h0,h1⟩
  ·exact ⟨cC,true,false,.inl ⟨rfl,h1⟩,Z.cs,Z.xC,Z.cc,Z.cp,by rw [h0]; rfl,by rw [h0]; rfl⟩
  ·exact ⟨cP,false,true,.inr ⟨rfl,h1⟩,Z.ps,Z.xP,Z.pc,Z.pp,by rw [decide_eq_true h0]; rfl,by rw [decide_eq_true h0]⟩
 obtain ⟨C,a,b,k1,k2,k3,k4,k5,ea,eb⟩:=key
 refine ⟨C,a,b,⟨n,bs,ms,_,_,_,rfl,ok,k1⟩,k2,k3,k4,k5,by show 12 < 13; decide,?_⟩
 refine ⟨λΓ=>Γ=[.sh (wR n bs [m] u),.sh (.int c),.sh (U r),.sh (Rm m.rows),.sh (Tb m.nexts),.sh (L m.steer),.sh (Tb m.push),.sh (L m.add),.sh (.int m.div),.sh (.lst (ms.map ja)),.sh (.lst [.bool a,.bool b]),.sh (.lst [.bool a,.bool b]),.no],⟨by decide,w2 (λc1=>?_) λc1=>?_⟩,?_⟩
 ·have c1:decide (0 < c.fmod 3)=true:=c1
  rw [c1] at ea eb
  subst ea eb
  exact ⟨k0,rfl⟩
 ·have c1:decide (0 < c.fmod 3)=false:=c1
  rw [c1] at ea eb
  subst ea eb
  exact rfl
 rintro Γ' rfl
 exact ⟨rfl,rfl,bR q (qC 50 (.lst [.bool a,.bool b]) rfl).symm⟩
theorem zRK (F:zY K "law" "law" kE f fd) (cn:Fn P w K mg base "_law_thing" ["_law_script","_law_most_modes"] k (zG (Yr))) (cq:Fn P w K mg base "_law_box" ["_law_cell","_law_many","_law_unit"] k (zG (Yo))) (ak:Fn P w K mg base "_law_cell_at" ["_law_script","_law_k"] k (zG (Jv))) (cr:Fn P w K mg base "_law_start" ["_law_box_here","_law_cell"] k (zG (zOO))) (al:Fn P w K mg base "_law_stream" ["_law_cell","_law_many"] k (zG (gz))) (am:Fn P w K mg base "_law_number" ["_law_x","_law_far"] k (zG (WY))) (cu:Fn P w K mg base "worst" ["thing","start","row","turns"] k (zG (zRg ah ag))) (aS:Fn P w K mg base "_law_made" ["_law_spec"] k (zG (Jx ah ag))) (cv:Fn P w K mg base "_law_refused" ["_law_spec","_law_cell","_law_row"] k (zG (XD))) (cw:Fn P w K mg base "_law_led" ["_law_spec","_law_numbers","_law_turns"] k (zG (Y4))) (cx:Fn P w K mg base "_law_wants" ["_law_numbers","_law_open_at"] k (zG (zOM))) (ap:Fn P w K mg base "_law_plus" ["_law_one","_law_other"] k (zG (Yt))) (aQ:Fn P w K mg base "_law_top" ["_law_numbers","_law_box_here"] k (zG (Jy))) (cz:Fn P w K mg base "_law_end" ["_law_spec","_law_point_here","_law_run"] k (zG (XC))) (aq:Fn P w K mg base "_law_along" ["_law_numbers","_law_values"] k (zG (jc))) (cA:Fn P w K mg base "_law_lies" ["_law_room","_law_point_here"] k (zG (zRm))) (aV:Fn P w K mg base "_law_point" ["_law_cell","_law_box_here"] k (zG (zOR))) (aR:Fn P w K mg base "_law_behind" ["_law_mode_here","_law_point_here","_law_steering","_law_pushes"] k (zG (gG))):zF P w K mg base zT (k + 1) f fd ["_law_script"] (zG (jg)):=by
 refine zj F wU λ_ _ _ _ _ _ hr=>⟨_,(zJ (zS 1 wU.nd (zL cn hr rfl (zB (zA 0) (zB zD zC))))
  (zJ (zS 2 wU.nd (zL cq hr rfl (zB (zL ak hr rfl (zB (zA 0) (zB zD zC))) (zB (zH (zA 1) zD) (zB (zH (zA 1) zD) zC)))))
  (zJ (qk (zL cr hr rfl (zB (zA 2) (zB (zL ak hr rfl (zB (zA 0) (zB zD zC))) zC))) (xr rfl (zp 3 wU.nd (zp 4 wU.nd (zp 5 wU.nd xq)))))
  (zJ (uf 6 false wU.nd rfl rfl (own:=["_law_x"]) (caps:=[]) (yM wU) rfl rfl yX (xR (zL al hr rfl (zB (zL ak hr rfl (zB (zA 0) (zB zD zC))) (zB (zH (zA 1) zD) zC)))) (λ_ _ _ _=>(zx 0 (zy ["_law_x"]))) (λ_ _ _ _=>(zL am hr rfl (zB (zA 0) (zB zD zC)))) rfl)
  (zJ (zS 7 wU.nd (xI (wy (zL ak hr rfl (zB (zA 0) (zB zD zC))) zD) (zH (xM (zB zD (zB zD (zB zD (zB zD zC))))) (xI (zL ak hr rfl (zB (zA 0) (zB zD zC))) zD))))
  (zJ (zS 8 wU.nd (xo jD jL rfl B.tuple_ vb (zB (zw (zA 6) (xM (zB (xI (zL ak hr rfl (zB (zA 0) (zB zD zC))) zD) zC))) zC)))
  (jP (zS 9 wU.nd (zL cu hr rfl (zB (zL aS hr rfl (zB (zA 1) zC)) (zB (xo vX vv rfl B.list_ wB (zB (zA 3) zC)) (zB (zA 8) (zB (zA 7) zC))))))
  (zJ (yG (xa (yx (zL cv hr rfl (zB (zA 1) (zB (zL ak hr rfl (zB (zA 0) (zB zD zC))) (zB (zA 8) zC)))))) (zK (zV xn)) yF)
  (jP (qk (zL cw hr rfl (zB (zA 1) (zB (zA 6) (zB (zA 7) zC)))) (xr rfl (zp 10 wU.nd (zp 11 wU.nd (zp 12 wU.nd xq)))))
  (zJ (yG (yx (zA 5)) (zK (zV (ua hr.units (zA 9) (yP (zB uv zC))))) yF)
  (zJ (yG (yx (zL cx hr rfl (zB (zA 10) (zB (zA 4) zC)))) (zK (zV (ua hr.units (zA 9) (yP (zB uv zC))))) yF)
  (zJ (yG (PW.pt (wD (xa (yx (yT (wX va rfl B.isinstance_ ww (zz (zA 9) (zz (vV (v:=.ty "tuple") (u:=.type "tuple") rfl B.tuple_ vb rfl) yf))) (vh Z9)))) (wD (ve hr.units (yB yk yo rfl B.len_ ym (zB (zA 9) zC)) zD) (wD (ve hr.units (zH (zA 9) zD) uv) (vB (xa (yx (yT (wX va rfl B.isinstance_ ww (zz (zH (zA 9) zD) (zz (vV (v:=.ty "list") (u:=.type "list") rfl B.list_ wB rfl) yf))) (vh qm))))))))) (zK (zV xn)) yF)
  (zJ (yG (PW.pt (wD (ve hr.units (zH (zA 9) zD) (zL ap hr rfl (zB (yP (zB (zL aQ hr rfl (zB (zA 10) (zB (zA 2) zC))) (zB (zA 11) zC))) (zB (zA 12) zC)))) (vB (ve hr.units (yB yk yo rfl B.len_ ym (zB (zH (zA 9) zD) zC)) (zA 7))))) (zK (zV xn)) yF)
  (zJ (zS 13 wU.nd (zL cz hr rfl (zB (zA 1) (zB (xo vX vv rfl B.list_ wB (zB (zH (zA 9) zD) zC)) (zB (zH (zA 9) zD) zC)))))
  (zJ (yG (PW.pt (wD (j6 (zA 13) wx) (wD (xa (yx (zL cA hr rfl (zB (zA 3) (zB (zH (zA 9) zD) zC))))) (vB (ve hr.units (zL aq hr rfl (zB (zA 6) (zB (zA 13) zC))) (zH (zA 9) zD)))))) (zK (zV xn)) yF)
  (jP (zS 14 wU.nd (zL aV hr rfl (zB (zL ak hr rfl (zB (zA 0) (zB zD zC))) (zB (zA 2) zC))))
  (zJ (xX PassesOwn.never rfl (xF rfl B.range_ (zB (zA 7) zC)) (zx 15 wU.nd) (zJ (zS 16 wU.nd (zL aV hr rfl (zB (zL ak hr rfl (zB (zA 0) (zB (zw zD (zA 15)) zC))) (zB (zH (zA 1) zD) zC))))
   (zK (zS 14 wU.nd (zL aR hr rfl (zB (zH (zH (zA 1) zD) zD) (zB (zA 14) (zB (yP (zB zD (zB zD zC))) (zB (zA 16) zC)))))))))
  (zJ (zS 17 wU.nd (zL aq hr rfl (zB (zA 6) (zB (zA 14) zC))))
  (zK (zV (Xx (yA (zH (zA 17) zD) (zH (zH (zA 9) zD) zD)) (yA (zH (zH (zA 9) zD) zD) (zH (zA 17) zD))))))))))))))))))))))),λds R h=>?_⟩
 obtain ⟨ns,rfl,q⟩:=h
 refine ⟨ns,rfl,λn bs m w TH hr=>?_⟩
 have T:=TH.th8 hr
 have n1:=TH.n1
 have n3:=TH.n3
 have b2:=T.b2
 have d1:=T.mo.div
 have u1:=TH.u1
 refine ⟨ns,3,rfl,by decide,λc3=>⟨_,rfl,_,rfl,c3,n,w,rfl,n3,by omega,TH.bu,λbx lb hb=>?_⟩⟩
 have B:Bo n bx:=⟨n1,n3,lb,hb⟩
 refine ⟨ns,4,rfl,by decide,λc4=>⟨n,bx,c4,rfl,B,λT0 oa nn S=>?_⟩⟩
 refine ⟨ns,5,rfl,by decide,λc5=>⟨_,rfl,c5,n,rfl,by omega,λxs lx hx=>?_⟩⟩
 refine zq.all (ue λy=>-3<=y/\y<=3) (by rw [List.length_map]; omega) (λd hd=>?_) λes le he=>?_
 ·obtain ⟨x,_,rfl⟩:=List.mem_map.mp hd
  exact ⟨x,3,rfl,by decide,(Bd.lit (i:=3) (n:=3)).mono,λy h1 h2=>⟨y,rfl,h1,h2⟩⟩
 obtain ⟨u,rfl,hu⟩:=Ux he
 have lu:u.length=n:=by rw [List.length_map,List.length_map,lx] at le; exact le
 have bu:∀ x∈u,Bd 3 x:=λx hx=>vH (f:=3) (by decide) (by have:=hu x hx; omega) (by have:=hu x hx; omega)
 clear hu he le hx lx xs
 refine ⟨ns,6,rfl,by decide,λc6=>⟨by decide,(Bd.lit (i:=5) (n:=3)).mono,k0,ns,6,rfl,by decide,λc6'=>⟨by decide,Yn (md _ (by decide)).1 (by have:=md c6' (show (0:Int) < 4 by decide); show c6'.fmod 4 < 4; omega) λz hz=>?_⟩⟩⟩
 obtain ⟨p,rfl,p1,p21⟩:∃ p:Int,z=.int p/\1<=p/\p<=21:=by
  simp only [List.mem_cons,List.not_mem_nil,or_false] at hz
  rcases hz with rfl | rfl | rfl | rfl <;> exact ⟨_,rfl,by decide,by decide⟩
 have mp:=md (c6.fdiv 5) (show (0:Int) < p by omega)
 obtain ⟨t,ht⟩:∃ t:Nat,(c6.fdiv 5).fmod p=(t:Int):=⟨((c6.fdiv 5).fmod p).toNat,by omega⟩
 have t20:t<=20:=by omega
 refine ⟨by omega,ns,6,rfl,by decide,λc=>⟨by decide,k0,by rw [List.length_map]; show u.length + 1<=1000; omega,?_⟩⟩
 have m5:=md c (show (0:Int) < 5 by decide)
 have b4:Bd 4 (c.fmod 5):=vH (f:=5) (by decide) (by omega) (by omega)
 have eR:D.tup (u.map D.int++[.int (c.fmod 5)])=U (u++[c.fmod 5]):=by
  show _=D.tup ((u++[c.fmod 5]).map D.int)
  rw [List.map_append]
  rfl
 refine ⟨λΓ=>∃ d,Γ=[.sh (.scr ns),.sh (wR n bs [m] w),.sh (.lst (bx.map yC)),.sh (y9 n T0),.sh oa,.sh (.bool nn),.sh (L u),.sh (.int ((t:Nat):Int)),.sh (U (u++[c.fmod 5])),.sh d,.no,.no,.no,.no,.no,.no,.no,.no]/\QC n bs bx m u t T0 oa nn d,⟨n,bs,[m],w,rfl,T.ok,n,bs,m,T0,u,c.fmod 5,t,?_,T,S.gd,S.few,S.has,lu,bu,b4,t20,zQ8 (R:=λd=>∃ d',([.sh (.scr ns),.sh (wR n bs [m] w),.sh (.lst (bx.map yC)),.sh (y9 n T0),.sh oa,.sh (.bool nn),.sh (L u),.sh (.int ((c6.fdiv 5).fmod p)),.sh (.tup (u.map D.int++[D.int (c.fmod 5)])),.sh d,.no,.no,.no,.no,.no,.no,.no,.no]:List Sl)=[.sh (.scr ns),.sh (wR n bs [m] w),.sh (.lst (bx.map yC)),.sh (y9 n T0),.sh oa,.sh (.bool nn),.sh (L u),.sh (.int ((t:Nat):Int)),.sh (U (u++[c.fmod 5])),.sh d',.no,.no,.no,.no,.no,.no,.no,.no]/\QC n bs bx m u t T0 oa nn d') S λd hO=>⟨d,by rw [eR,ht],hO⟩⟩,?_⟩
 ·show [wE ah ag n bs [m],y9 n T0,D.tup (u.map D.int++[.int (c.fmod 5)]),D.int ((c6.fdiv 5).fmod p)]=_
  rw [eR,ht]
 rintro Γ' ⟨d,rfl,hO⟩
 clear ht mp p1 p21 eR
 refine ⟨ns,7,rfl,by decide,λc7=>⟨n,bs,m,w,c7,u++[c.fmod 5],rfl,T,by rw [List.length_append,lu]; rfl,wF rfl ?_⟩⟩
 refine ⟨λΓ=>Γ=[.sh (.scr ns),.sh (wR n bs [m] w),.sh (.lst (bx.map yC)),.sh (y9 n T0),.sh oa,.sh (.bool nn),.sh (L u),.sh (.int ((t:Nat):Int)),.sh (U (u++[c.fmod 5])),.sh d,.sh (L (zl n m t u)),.sh (.int (m.div ^ t)),.sh (dQ (wS n bs m u t)),.no,.no,.no,.no,.no],⟨n,bs,m,w,u,t,rfl,T,lu,bu,t20,rfl⟩,?_⟩
 rintro Γ' rfl
 have lk:=gE (m:=m) lu t
 have bk:=gv T lu bu t
 have bk2:∀ x∈zl n m t u,Bd 200 x:=λx hx=>(bk x hx).mono (by omega)
 rcases hO with ⟨rfl,rfl⟩ | ⟨rfl,hO⟩
 ·have pl:D.pl 50 (.tup [.str "empty"])=true:=by decide +kernel
  exact wT rfl ⟨k0,pl,pl,bR q (qC 50 _ pl).symm⟩
 refine wF rfl ⟨n,zl n m t u,oa,rfl,lk,n3,bk2,S.hoa,?_⟩
 rcases hO with ⟨hw,rfl⟩ | ⟨hw,BX,pt,TP,rfl⟩
 ·have pl:D.pl 50 (.tup [.str "open"])=true:=by decide +kernel
  exact wT hw ⟨k0,pl,pl,bR q (qC 50 _ pl).symm⟩
 have hv1:=zOj T lu TP
 have lp:=TP.1
 have bT:Bd 29000 (ye (zl n m t u) bx):=(zOZ bk2 λb h=>(hb b h).2).mono (by omega)
 have bm:=zOH T lu bu t20
 have e9:((ye (zl n m t u) bx:Int):Rat) / ((m.div ^ t:Int):Rat) + ((wS n bs m u t).num:Rat) / (((wS n bs m u t).den:Int):Rat)=zQ u (wj n m (xA pt) (yH n bs m u t)):=by
  rw [jW,J0,hv1]
  rfl
 refine wF hw ⟨rfl,wF rfl ⟨λz=>(nomatch (show (!decide ((4:Int)=4))=true from z)),λ_=>?_⟩⟩
 refine ⟨_,rfl,wF rfl ⟨_,rfl,rfl,wF rfl ?_⟩⟩
 refine ⟨_,rfl,_,zl n m t u,bx,105,rfl,.inl rfl,by omega,bk2,by decide,λb h=>(hb b h).2,k0,_,_,_,_,rfl,pow_pos d1 t,vx _,bT,(g6 T.dv t).mono (by omega),bm.1.mono,bm.2.mono,rfl,rfl,wF ?_ ⟨_,rfl,wF ?_ ?_⟩⟩
 ·show (!PyData.eqv (dQ (zQ u (wj n m (xA pt) (yH n bs m u t)))).py (dQ (((ye (zl n m t u) bx:Int):Rat) / ((m.div ^ t:Int):Rat) + ((wS n bs m u t).num:Rat) / (((wS n bs m u t).den:Int):Rat))).py)=false
  rw [e9,qC 50 (dQ _) rfl]
  rfl
 ·show (!decide _)=false
  rw [List.length_map,Ym,decide_eq_true rfl]
  rfl
 refine ⟨_,rfl,_,rfl,n,bs,m,w,pt,yH n bs m u t,rfl,T,lp,TP.2.2.1,by rw [Ym]; exact t20,zKh t,λxs ex ⟨Q,ee,qq,PT⟩=>?_⟩
 have P1:yz n (xA pt) 1 391 1:=by have:=q9 (vs:=pt) (by omega) (by decide) TP.2.2.1; rw [lp] at this; exact this
 have z1:=xY PT.Q0 PT.bQ (u7 bu PT.sz)
 have l1:=PT.len
 have r1:=PT.e1
 have r2:=PT.q1
 refine wF rfl ⟨_,rfl,T0.map (rI n),n,xA pt,1,391,1,?_,by rw [List.length_map]; have:=S.few; omega,zOv S.gd BX B,P1,wF (by rw [zNM S.gd BX TP]; rfl) ?_⟩
 ·show [y9 n T0,xK pt]=_
  rw [j9]
  unfold Rm
  rw [List.map_map]
  rfl
 refine ⟨_,u,n,xs,Q,ee,qq,rfl,.inl rfl,lu,λx h=>(bu x h).mono,PT,_,rfl,rfl,rfl,wF ?_ ?_⟩
 ·show (!PyData.eqv (dQ (zQ u xs)).py (dQ (zQ u (wj n m (xA pt) (yH n bs m u t)))).py)=false
  rw [ex,qC 50 (dQ _) rfl]
  rfl
 refine ⟨λΓ=>∃ x0,Γ=[.sh (.scr ns),.sh (wR n bs [m] w),.sh (.lst (bx.map yC)),.sh (y9 n T0),.sh oa,.sh (.bool false),.sh (L u),.sh (.int ((t:Nat):Int)),.sh (U (u++[c.fmod 5])),.sh (.tup [.str "most",dQ (zQ u (wj n m (xA pt) (yH n bs m u t))),xK pt,.lst ((yH n bs m u t).map w6)]),.sh (L (zl n m t u)),.sh (.int (m.div ^ t)),.sh (dQ (wS n bs m u t)),.sh (dP xs),.sh (dP x0),.no,.no,.no]/\Y2 bx x0/\∀ x∈x0,xu 12 120 x,⟨ns,8,rfl,by decide,λc8=>⟨c8,bx,rfl,by omega,hb,λx0 l0 h0 s0=>⟨x0,rfl,⟨l0,h0⟩,s0⟩⟩⟩,?_⟩
 rintro Γ' ⟨x0,rfl,I0,s0⟩
 refine ⟨by omega,by omega,?_⟩
 rw [show ((t:Nat):Int).toNat=t by omega]
 refine ⟨λk Γ=>∃ (x:List Rat) (s15 s16:Sl),Γ=[.sh (.scr ns),.sh (wR n bs [m] w),.sh (.lst (bx.map yC)),.sh (y9 n T0),.sh oa,.sh (.bool false),.sh (L u),.sh (.int ((t:Nat):Int)),.sh (U (u++[c.fmod 5])),.sh (.tup [.str "most",dQ (zQ u (wj n m (xA pt) (yH n bs m u t))),xK pt,.lst ((yH n bs m u t).map w6)]),.sh (L (zl n m t u)),.sh (.int (m.div ^ t)),.sh (dQ (wS n bs m u t)),.sh (dP xs),.sh (dP x),s15,s16,.no]/\yz n x (12 * m.div.toNat ^ k) (130 + 30 * k) (4 + 3 * k + 1)/\(k<=t->wl n bs m u (t - k) x<=uk n bs bx m u t),⟨x0,.no,.no,rfl,zOX T (I0.1.trans lb) (by omega) s0 (by decide),λ_=>zOf T I0⟩,?_,?_⟩
 ·rintro k d Γ' hk ⟨x,s15,s16,rfl,X,hv⟩
  obtain ⟨kt,rfl⟩:=vC hk
  refine ⟨ns,9 + (k:Int),rfl,by omega,λck=>⟨_,rfl,ck,bs,rfl,by omega,TH.bb,λus lus hus sus=>?_⟩⟩
  have Y:=zOX T lus (by omega) sus (k:=k) (by omega)
  refine ⟨_,rfl,_,rfl,k0,m,n,bs,x,us,_,_,_,rfl,T,X,Y,by omega,by omega,?_⟩
  refine ⟨_,_,_,rfl,zP1 T (by omega) X Y,λkk=>?_⟩
  have h:=zQG (k:=t - (k + 1)) T lu X.len (show Y2 bs us from ⟨lus,hus⟩)
  rw [show t - (k + 1) + 1=t - k by omega] at h
  exact Rat.le_trans h (hv (by omega))
 ·rintro Γ' ⟨x,s15,s16,rfl,X,hv⟩
  rw [vf] at X hv
  have hv:=hv (Nat.le_refl _)
  have v0:=J8 T lu 0 X.len
  rw [Nat.sub_self,<- v0,<- hv1] at hv
  have hv:zQ u x<=zQ u (wj n m (xA pt) (yH n bs m u t)):=hv
  have z2:=xY X.Q0 X.bQ (u7 bu X.sz)
  have l2:=X.len
  rw [ex] at z1
  have l3:(wj n m (xA pt) (yH n bs m u t)).length=n:=by rw [<- ex]; exact l1
  refine ⟨_,u,n,x,_,_,_,rfl,.inl rfl,lu,λx h=>(bu x h).mono,X,?_⟩
  refine ⟨_,rfl,_,rfl,_,rfl,z2.1.mono (by omega),z1.2.mono (by omega),_,rfl,_,rfl,_,rfl,z1.1.mono (by omega),z2.2.mono (by omega),bR q (decide_eq_true (zRQ hv)).symm⟩
end
end K75
namespace L2
open PySem PySem.Spec PyProof.Rows
theorem Wi {α:Type} {P:List α->Prop} (h:∀ x0:α,P [x0]):∀ us:List α,us.length=1->P us
 | [x0],_=>h x0
theorem kF {α:Type} {P:List α->Prop} (h:∀ x0 x1:α,P [x0,x1]):∀ us:List α,us.length=2->P us
 | [x0,x1],_=>h x0 x1
theorem XN {α:Type} {P:List α->Prop} (h:∀ x0 x1 x2:α,P [x0,x1,x2]):∀ us:List α,us.length=3->P us
 | [x0,x1,x2],_=>h x0 x1 x2
theorem Wj {α:Type} {P:List α->Prop} (h:∀ x0 x1 x2 x3:α,P [x0,x1,x2,x3]):∀ us:List α,us.length=4->P us
 | [x0,x1,x2,x3],_=>h x0 x1 x2 x3
theorem Wl {α:Type} {P:List α->Prop} (h:∀ x0 x1 x2 x3 x4:α,P [x0,x1,x2,x3,x4]):∀ us:List α,us.length=5->P us
 | [x0,x1,x2,x3,x4],_=>h x0 x1 x2 x3 x4
theorem Wm {α:Type} {P:List α->Prop} (h:∀ x0 x1 x2 x3 x4 x5 x6:α,P [x0,x1,x2,x3,x4,x5,x6]):∀ us:List α,us.length=7->P us
 | [x0,x1,x2,x3,x4,x5,x6],_=>h x0 x1 x2 x3 x4 x5 x6
structure Gf (K:W.Frag) (x:Str) (st:Stmt) (f:Addr) (fd:FuncData):Prop where
 at_:W.nsIn K mainGlobals x=some (some (.ref f))
 F:zY K x x st f fd
abbrev Ge (K:W.Frag) (x:Str) (st:Stmt):Prop:=∃ f fd,Gf K x st f fd
structure Gm (K:W.Frag) (C:Addr) (x q:Str) (st:Stmt) (f:Addr) (fd:FuncData):Prop where
 at_:W.findIn K (.ref C) x=some (some (.ref f))
 fn:W.isFn K (.ref f)=true
 F:zY K x q st f fd
abbrev Gn (K:W.Frag) (C:Addr) (x q:Str) (st:Stmt):Prop:=∃ f fd,Gm K C x q st f fd
structure Gd (K:W.Frag) (x:Str) (st:Stmt) (f:Addr) (fd:FuncData) (d:Value):Prop where
 at_:W.nsIn K mainGlobals x=some (some (.ref f))
 F:xT K x x st f fd d
abbrev Gi (K:W.Frag) (x:Str) (st:Stmt) (i:Int):Prop:=∃ f fd t,Gd K x st f fd (.int i t)
structure Gc (K:W.Frag) (x:Str) (C:Addr):Prop where
 nm:W.nsIn K mainGlobals x=some (some (.ref C))
 pg:W.plainGet K C Str.empty=true
 hd:W.hasDictIn K C=true
 po:W.plainOver K C=true
 sa:W.findIn K (.ref C) "__setattr__" = some (some (.builtin "object.__setattr__"))
 mk_:W.makesIn K C=true
 kc:W.keepIn K (.ref C)=true
 ha:W.findIn K (.ref C) "__class__" = some (some (.builtin "object.__class__"))
 hn:W.specialIn K (.builtin "object.__class__") "__get__" = some (some (.builtin "getset_descriptor.__get__"))
 tk:W.takesIn K (.builtin "object.__class__")=some true
 hm:W.mroIn K C (.type "object")=some true
section
variable {P:Program} {w:World} {K:W.Frag} {mg:Str->Option Value} {base h:Heap} {x q:Str} {st:Stmt} {f C T:Addr} {fd:FuncData} {ps:List Str} {k:Nat} {sp:Sp} {oc kV doc pm cdv ct oT:Value} {od an dT:Option Addr} {osl sT:Array (Option Value)}
theorem XO (a:W.nsIn K mainGlobals x=some (some (.ref f))) (l:K.lookup f=some ⟨oc,od,.func (W.fnOf x x (wv st) (xS st) (zN st) .none kV doc pm an cdv ct),osl⟩) (c:W.codeIn K cdv x=true) (k:W.keepIn K (.ref f)=true):Ge K x st:=⟨f,_,a,UH l c k⟩
theorem XQ (a:W.findIn K (.ref C) x=some (some (.ref f))) (i:W.isFn K (.ref f)=true) (l:K.lookup f=some ⟨oc,od,.func (W.fnOf x q (wv st) (xS st) (zN st) .none kV doc pm an cdv ct),osl⟩) (c:W.codeIn K cdv q=true) (k:W.keepIn K (.ref f)=true):Gn K C x q st:=⟨f,_,a,i,UH l c k⟩
theorem XR {i:Int} {t:Tok} {n:Nat} (a:W.nsIn K mainGlobals x=some (some (.ref f))) (l:K.lookup f=some ⟨oc,od,.func (W.fnOf x x (wv st) (xS st) (zN st) (.ref T) kV doc pm an cdv ct),osl⟩) (c:W.codeIn K cdv x=true) (k:W.keepIn K (.ref f)=true) (d:K.lookup T=some ⟨oT,dT,.seq #[.int i t] n,sT⟩):Gi K x st i:=⟨f,_,t,a,zPg l c k d rfl⟩
theorem Gc.cls (g:Gc K x C) (X:K.In h) (G:h.Ns mainGlobals mg):xx K mg x C:=⟨⟨g.pg,g.hd,g.po,g.sa⟩,W.mg_of X G g.nm,g.ha,g.hn,g.tk,g.hm⟩
abbrev Bn (x q:Str) (st:Stmt) (ps:List Str):Prop:=∀ (kV doc pm:Value) (an:Option Addr) (cdv ct:Value) (us:List Value),us.length=ps.length->bindArgs (W.fnOf x q (wv st) (xS st) (zN st) .none kV doc pm an cdv ct) ⟨us,[]⟩=pure (ps.zip us)
structure Wh (P:Program) (w:World) (K:W.Frag) (mg:Str->Option Value) (base h:Heap):Prop where
 X:K.In h
 G:h.Ns mainGlobals mg
theorem Gf.fn (g:Gf K x st f fd) (Y:Wh P w K mg base h) (o:zF P w K mg base zT k f fd ps sp) (b:Bn x x st ps:=by intro _ _ _ _ _ _; first | exact L2.Wi λ_=>rfl | exact L2.kF λ_ _=>rfl | exact L2.XN λ_ _ _=>rfl | exact L2.Wj λ_ _ _ _=>rfl | exact L2.Wl λ_ _ _ _ _=>rfl | exact L2.Wm λ_ _ _ _ _ _ _=>rfl):Fn P w K mg base x ps k sp:=⟨f,fd,o,W.mg_of Y.X Y.G g.at_,g.F.kp,g.F.binds b⟩
theorem Gf.fx (g:Gf K x st f fd) (Y:Wh P w K mg base h) (o:zF P w K mg base (xV P w) k f fd ps sp) (b:Bn x x st ps:=by intro _ _ _ _ _ _; first | exact L2.Wi λ_=>rfl | exact L2.kF λ_ _=>rfl | exact L2.XN λ_ _ _=>rfl | exact L2.Wj λ_ _ _ _=>rfl | exact L2.Wl λ_ _ _ _ _=>rfl | exact L2.Wm λ_ _ _ _ _ _ _=>rfl):jE P w K mg base x ps k sp:=⟨f,fd,o,W.mg_of Y.X Y.G g.at_,g.F.kp,g.F.binds b⟩
theorem Gm.fm (g:Gm K C x q st f fd) (_:Wh P w K mg base h) (o:zF P w K mg base zT k f fd ps sp) (b:Bn x q st ps:=by intro _ _ _ _ _ _; first | exact L2.Wi λ_=>rfl | exact L2.kF λ_ _=>rfl | exact L2.XN λ_ _ _=>rfl | exact L2.Wj λ_ _ _ _=>rfl | exact L2.Wl λ_ _ _ _ _=>rfl | exact L2.Wm λ_ _ _ _ _ _ _=>rfl):vL P w K mg base C x ps k sp:=⟨f,fd,o,⟨g.at_,g.fn,g.F.kp⟩,g.F.binds b⟩
theorem Gm.fc {y:Str} (g:Gm K C "__init__" q st f fd) (_:Wh P w K mg base h) (c:Gc K y C) (o:zF P w K mg base zT k f fd ps sp) (b:Bn "__init__" q st ps:=by intro _ _ _ _ _ _; first | exact L2.Wi λ_=>rfl | exact L2.kF λ_ _=>rfl | exact L2.XN λ_ _ _=>rfl | exact L2.Wj λ_ _ _ _=>rfl | exact L2.Wl λ_ _ _ _ _=>rfl | exact L2.Wm λ_ _ _ _ _ _ _=>rfl):jw P w K mg base C ps k sp:=⟨f,fd,o,⟨c.mk_,g.at_,g.fn,c.kc⟩,g.F.binds b⟩
theorem Gd.fn {i:Int} {t:Tok} (g:Gd K x st f fd (.int i t)) (Y:Wh P w K mg base h) (b:∀ (T:Addr) (kV doc pm:Value) (an:Option Addr) (cdv ct:Value) (us:List Value),us.length=ps.length->∃ k:Option (Array Value)->Sem (List (Str × Value)),bindArgs (W.fnOf x x (wv st) (xS st) (zN st) (.ref T) kV doc pm an cdv ct) ⟨us,[]⟩=seqItems? (.ref T) >>= k/\k (some #[.int i t])=pure (ps.zip us))
  (d:∀ (T:Addr) (kV doc pm:Value) (an:Option Addr) (cdv ct:Value) (us:List Value),us.length + 1=ps.length->∃ k:Option (Array Value)->Sem (List (Str × Value)),bindArgs (W.fnOf x x (wv st) (xS st) (zN st) (.ref T) kV doc pm an cdv ct) ⟨us,[]⟩=seqItems? (.ref T) >>= k/\k (some #[.int i t])=pure (ps.zip (us++[.int i t]))) (o:zF P w K mg base zT k f fd ps sp):wO P w K mg base x ps k sp (.int i):=
 ⟨f,fd,_,o,W.mg_of Y.X Y.G g.at_,g.F.kp,g.F.binds b,g.F.binds1 d,⟨_,rfl⟩⟩
end
end L2
namespace K75
open PySem L2 Sh Pu
abbrev Gq (K:W.Frag) (x:Str) (st:Stmt) (c:Addr):Prop:=∃ f fd,Gf K x st f fd/\fd.code=.ref c
theorem gq_mk {K:W.Frag} {x:Str} {st:Stmt} {f c0:Addr} {oc kV doc pm ct:Value} {od an:Option Addr} {osl:_} (a:W.nsIn K mainGlobals x=some (some (.ref f))) (l:K.lookup f=some ⟨oc,od,.func (W.fnOf x x (wv st) (xS st) (zN st) .none kV doc pm an (.ref c0) ct),osl⟩) (c:W.codeIn K (.ref c0) x=true) (k:W.keepIn K (.ref f)=true):Gq K x st c0:=⟨f,_,⟨a,UH l c k⟩,rfl⟩
variable [iT:yU]
theorem zQW {F:FL} (h:∀ ds R,¬ F ds R):∀ vs H Q E,¬ zG F vs H Q E:=λ_ _ _ _ ⟨_,ds,R,_,_,f,_⟩=>h ds R f
theorem zNb:∀ ds R,¬ YM 0 ds R:=λ_ _ ⟨_,_,_,h,_⟩=>by cases h
theorem all_mk {cL Pt:Addr} (hI:∀ H,yU.I H ↔ yI Pt "least_place.<locals>.<lambda>" ⟨163,27,163,54⟩ H) {l:W.OpenLaw} {w:World} {K:W.Frag} {h:Heap} {mg:Str->Option Value} {fa:Addr} (X:K.In h) (G:h.Ns mainGlobals mg) (hfa:mg "law" = some (.ref fa))
  {ag ah cC cP cS:Addr}
  (GMode:Gc K "Mode" ag)
  (GThing:Gc K "Thing" ah)
  (cB:W.findIn K (.ref ag) "rows" = some none)
  (cD:W.findIn K (.ref ag) "nexts" = some none)
  (cE:W.findIn K (.ref ag) "steer" = some none)
  (cF:W.findIn K (.ref ag) "push" = some none)
  (cG:W.findIn K (.ref ag) "add" = some none)
  (cH:W.findIn K (.ref ag) "divisor" = some none)
  (cI:W.findIn K (.ref ah) "many" = some none)
  (cJ:W.findIn K (.ref ah) "kept_pushes" = some none)
  (cK:W.findIn K (.ref ah) "kept_modes" = some none)
  (mC:W.nsIn K mainGlobals "NotClosed" = some (some (.ref cC)))
  (mP:W.nsIn K mainGlobals "NotPlain" = some (some (.ref cP)))
  (mS:W.nsIn K mainGlobals "SteadyError" = some (some (.ref cS)))
  (xC:W.excIn K cC [.type "ValueError",.type "Exception",.type "BaseException",.type "object"] "ValueError.__new__" = true)
  (xP:W.excIn K cP [.type "ValueError",.type "Exception",.type "BaseException",.type "object"] "ValueError.__new__" = true)
  (sC:W.exmOne K (.ref cC) (.ref cS)=some true)
  (sP:W.exmOne K (.ref cP) (.ref cS)=some true)
  (tCC:W.kitOne K (.ref cC) (.ref cC)=some true)
  (tCP:W.kitOne K (.ref cC) (.ref cP)=some false)
  (tPC:W.kitOne K (.ref cP) (.ref cC)=some false)
  (tPP:W.kitOne K (.ref cP) (.ref cP)=some true)
  (eCga:W.findIn K (.ref cC) "__getattribute__" = some (some (.builtin "BaseException.__getattribute__")))
  (eCgt:W.findIn K (.ref cC) "__getattr__" = some none)
  (eCha:W.findIn K (.ref cC) "__class__" = some (some (.builtin "object.__class__")))
  (eChn:W.specialIn K (.builtin "object.__class__") "__get__" = some (some (.builtin "getset_descriptor.__get__")))
  (eCtk:W.takesIn K (.builtin "object.__class__")=some true)
  (eCmb:W.mroIn K cC (.type "BaseException")=some true)
  (eCmo:W.mroIn K cC (.type "object")=some true)
  (ePga:W.findIn K (.ref cP) "__getattribute__" = some (some (.builtin "BaseException.__getattribute__")))
  (ePgt:W.findIn K (.ref cP) "__getattr__" = some none)
  (ePha:W.findIn K (.ref cP) "__class__" = some (some (.builtin "object.__class__")))
  (ePhn:W.specialIn K (.builtin "object.__class__") "__get__" = some (some (.builtin "getset_descriptor.__get__")))
  (ePtk:W.takesIn K (.builtin "object.__class__")=some true)
  (ePmb:W.mroIn K cP (.type "BaseException")=some true)
  (ePmo:W.mroIn K cP (.type "object")=some true)
  (z0:W.nsIn K mainGlobals "isinstance" = some none)
  (z1:W.nsIn K mainGlobals "int" = some none)
  (z2:W.nsIn K mainGlobals "bool" = some none)
  (z3:W.nsIn K mainGlobals "tuple" = some none)
  (z4:W.nsIn K mainGlobals "len" = some none)
  (z5:W.nsIn K mainGlobals "all" = some none)
  (z6:W.nsIn K mainGlobals "list" = some none)
  (z7:W.nsIn K mainGlobals "range" = some none)
  (z8:W.nsIn K mainGlobals "zip" = some none)
  (z9:W.nsIn K mainGlobals "sum" = some none)
  (z10:W.nsIn K mainGlobals "max" = some none)
  (z11:W.nsIn K mainGlobals "enumerate" = some none)
  (z12:W.nsIn K mainGlobals "min" = some none)
  (z13:W.nsIn K mainGlobals "abs" = some none)
  {gt0:Tok} (cst0:W.nsIn K mainGlobals "MOST_NUMBERS" = some (some (.int 3 gt0)))
  {gt1:Tok} (cst1:W.nsIn K mainGlobals "MOST_PUSHES" = some (some (.int 6 gt1)))
  {gt2:Tok} (cst2:W.nsIn K mainGlobals "MOST_MODES" = some (some (.int 40 gt2)))
  : Ge K "is_whole" QH->Ge K "is_numbers" QI->Ge K "is_table" QJ->Gi K "copied" QK 5->Gi K "unit" QM 1->Ge K "paired" QN->Ge K "added_up" QO->Ge K "is_row" QP->Ge K "is_room" QQ->Ge K "single" QR->Gn K ag "__init__" "Mode.__init__" QS->Ge K "is_push" QT->Ge K "is_mode" QU->Ge K "is_sound" QV->Gn K ah "__init__" "Thing.__init__" QX->Gn K ah "pushes" "Thing.pushes" QY->Gn K ah "modes" "Thing.modes" QZ->Ge K "is_unsteered" Qa->Gn K ah "is_closed" "Thing.is_closed" Qb->Ge K "ask_closed" Wc->Ge K "reach" Qc->Ge K "common_divisor" Qe->Gi K "fraction" Qf 1->Ge K "minus" Qh->Ge K "times" Qi->Ge K "under" Qj->Ge K "raw_sum" Qk->Ge K "along" Ql->Ge K "divided_sum" Qm->Ge K "holds" Qn->Ge K "first_with" Qo->Ge K "put_ahead" Qp->Ge K "cleared" Qq->Ge K "solved" Qr->Ge K "axes" Qs->Ge K "corner_point" Qt->Ge K "weights_of" Qu->Ge K "over_one_bottom" Qv->Ge K "exchanged" Qw->Ge K "way_off" Qx->Gq K "least_place" Qz cL->Ge K "first_met" Q4->Ge K "spread" Q5->Ge K "first_broken" Q6->Ge K "first_corner" Q8->Ge K "climbed" Q9->Ge K "most" KA->Ge K "worst_pushes" KB->Ge K "without_pushes" KC->Ge K "lies_in" KD->Ge K "lies_between" KE->Ge K "can_be_made" KG->Ge K "number_behind" KH->Ge K "point_behind" KI->Ge K "walked" KJ->Gn K ah "is_plain" "Thing.is_plain" KL->Ge K "ask_plain" We->Ge K "pulled_back" KM->Ge K "worst" Wf->Ge K "_law_cell_at" KN->Ge K "_law_stream" KO->Ge K "_law_number" KP->Ge K "_law_box" KQ->Ge K "_law_made" KR->Ge K "_law_top" KS->Ge K "_law_mode" KT->Ge K "_law_thing" KU->Ge K "_law_divisor" KW->Ge K "_law_lowest" KY->Ge K "_law_plus" KZ->Ge K "_law_along" Ka->Ge K "_law_holds" Kb->Ge K "_law_lies" Kc->Ge K "_law_point" Ke->Ge K "_law_behind" Kf->Ge K "_law_led" Kg->Ge K "_law_rows" Kh->Ge K "_law_wants" Ki->Ge K "_law_start" Kj->Ge K "_law_end" Kk->Ge K "_law_refused" Kl->Ge K "law" kE->∃ fd:FuncData,(∀ (s:Shared) (v:Value),BindsTo s fd ⟨[v],[]⟩ [("_law_script",v)])/\∀ base:Heap,K.In base->base.Ns mainGlobals mg->wf base mg cL Pt->zF l.prog w K mg base zT 11 fa fd ["_law_script"] (zG jg):=by
 rintro ⟨_,_,G0⟩ ⟨_,_,G1⟩ ⟨_,_,G2⟩ ⟨_,_,_,G3⟩ ⟨_,_,_,G4⟩ ⟨_,_,G5⟩ ⟨_,_,G6⟩ ⟨_,_,G7⟩ ⟨_,_,G8⟩ ⟨_,_,G9⟩ ⟨_,_,G10⟩ ⟨_,_,G11⟩ ⟨_,_,G12⟩ ⟨_,_,G13⟩ ⟨_,_,G14⟩ ⟨_,_,G15⟩ ⟨_,_,G16⟩ ⟨_,_,G17⟩ ⟨_,_,G18⟩ ⟨_,_,G19⟩ ⟨_,_,G20⟩ ⟨_,_,G21⟩ ⟨_,_,_,G22⟩ ⟨_,_,G23⟩ ⟨_,_,G24⟩ ⟨_,_,G25⟩ ⟨_,_,G26⟩ ⟨_,_,G27⟩ ⟨_,_,G28⟩ ⟨_,_,G29⟩ ⟨_,_,G30⟩ ⟨_,_,G31⟩ ⟨_,_,G32⟩ ⟨_,_,G33⟩ ⟨_,_,G34⟩ ⟨_,_,G35⟩ ⟨_,_,G36⟩ ⟨_,_,G37⟩ ⟨_,_,G38⟩ ⟨_,_,G39⟩ ⟨_,_,G40,ecd⟩ ⟨_,_,G41⟩ ⟨_,_,G42⟩ ⟨_,_,G43⟩ ⟨_,_,G44⟩ ⟨_,_,G45⟩ ⟨_,_,G46⟩ ⟨_,_,G47⟩ ⟨_,_,G48⟩ ⟨_,_,G49⟩ ⟨_,_,G50⟩ ⟨_,_,G51⟩ ⟨_,_,G52⟩ ⟨_,_,G53⟩ ⟨_,_,G54⟩ ⟨_,_,G55⟩ ⟨_,_,G56⟩ ⟨_,_,G57⟩ ⟨_,_,G58⟩ ⟨_,_,G59⟩ ⟨_,_,G60⟩ ⟨_,_,G61⟩ ⟨_,_,G62⟩ ⟨_,_,G63⟩ ⟨_,_,G64⟩ ⟨_,_,G65⟩ ⟨_,_,G66⟩ ⟨_,_,G67⟩ ⟨_,_,G68⟩ ⟨_,_,G69⟩ ⟨_,_,G70⟩ ⟨_,_,G71⟩ ⟨_,_,G72⟩ ⟨_,_,G73⟩ ⟨_,_,G74⟩ ⟨_,_,G75⟩ ⟨_,_,G76⟩ ⟨_,_,G77⟩ ⟨_,_,G78⟩ ⟨_,_,G79⟩ ⟨_,_,G80⟩ ⟨_,_,G81⟩
 have e:=hfa.symm.trans (W.mg_of X G G81.at_)
 cases e
 have B:Bl mg:=⟨W.mg_none_of X G z0,W.mg_none_of X G z1,W.mg_none_of X G z2,W.mg_none_of X G z3,W.mg_none_of X G z4,W.mg_none_of X G z5,W.mg_none_of X G z6,W.mg_none_of X G z7,W.mg_none_of X G z8,W.mg_none_of X G z9,W.mg_none_of X G z10,W.mg_none_of X G z11,W.mg_none_of X G z12,W.mg_none_of X G z13,⟨_,W.mg_of X G cst0⟩,⟨_,W.mg_of X G cst1⟩,⟨_,W.mg_of X G cst2⟩⟩
 have aa:=GMode.cls X G
 have ac:zOb K ag:=⟨cB,cD,cE,cF,cG,cH⟩
 have ae:=GThing.cls X G
 have af:zMN K ah:=⟨cI,cJ,cK⟩
 have Z:Er K mg cC cP cS:=⟨W.mg_of X G mC,W.mg_of X G mP,W.mg_of X G mS,xC,xP,sC,sP,tCC,tCP,tPC,tPP,⟨eCga,eCgt,eCha,eChn,eCtk,eCmb,eCmo⟩,⟨ePga,ePgt,ePha,ePhn,ePtk,ePmb,ePmo⟩⟩
 obtain ⟨_,_,kV,dc,pm,an,cd,ct,_,rfl,_⟩:=G81.F.ex
 refine ⟨W.fnOf "law" "law" (wv kE) (xS kE) (zN kE) .none kV dc pm an cd ct,λs v=>.of_eq rfl,λbase _ _ T=>?_⟩
 have Yw:Wh l.prog w K mg base h:=⟨X,G⟩
 have N0:=G0.fn Yw (zId (k:=0) aa ac ae af B G0.F )
 have N1:=G1.fn Yw (zG6 (k:=1) aa ac ae af B G1.F N0.mono)
 have N2:=G2.fn Yw (zIe (k:=2) aa ac ae af B G2.F N1.mono)
 have D3:=λ{k sp}=>G3.fn (ps:=["value","depth"]) (k:=k) (sp:=sp) Yw (λ_ _ _ _ _ _ _=>L2.kF λ_ _=>⟨_,rfl,rfl⟩) λ_ _ _ _ _ _ _ us hl=>match us,hl with | [_],_=>⟨_,rfl,rfl⟩
 have N3_0:=D3 (zF.no (k:=1) (sp:=(zG (YM 0))) (zQW zNb))
 have N3_1:=D3 (XM (k:=1) (j:=0) aa ac ae af B G3.F N3_0.mono)
 have N3_2:=D3 (XM (k:=2) (j:=1) aa ac ae af B G3.F N3_1.mono)
 have N3_3:=D3 (XM (k:=3) (j:=2) aa ac ae af B G3.F N3_2.mono)
 have N3_4:=D3 (XM (k:=4) (j:=3) aa ac ae af B G3.F N3_3.mono)
 have N3_5:=D3 (XM (k:=5) (j:=4) aa ac ae af B G3.F N3_4.mono)
 have N3:=N3_5
 have D4:=λ{k sp}=>G4.fn (ps:=["place","wide","number"]) (k:=k) (sp:=sp) Yw (λ_ _ _ _ _ _ _=>L2.XN λ_ _ _=>⟨_,rfl,rfl⟩) λ_ _ _ _ _ _ _ us hl=>match us,hl with | [_,_],_=>⟨_,rfl,rfl⟩
 have N4:=D4 (zPT (k:=0) aa ac ae af B G4.F )
 have N5:=G5.fn Yw (zLJ (k:=0) aa ac ae af B G5.F )
 have N6:=G6.fn Yw (zIh (k:=0) aa ac ae af B G6.F )
 have N7:=G7.fn Yw (zLP (k:=1) aa ac ae af B G7.F N0.mono)
 have N8:=G8.fn Yw (zJ4 (k:=2) aa ac ae af B G8.F N7.mono)
 have N9:=G9.fn Yw (zLI (k:=1) aa ac ae af B G9.F N4.mono)
 have N10:=G10.fc Yw GMode (zE6 (k:=6) aa ac ae af B G10.F N3.mono)
 have N11:=G11.fn Yw (zJ5 (k:=1) aa ac ae af B G11.F N0.mono)
 have N12:=G12.fn Yw (zJ6 (k:=3) aa ac ae af B G12.F N8.mono N2.mono N1.mono N0.mono)
 have N13:=G13.fn Yw (zIf (k:=4) aa ac ae af B G13.F N0.mono N11.mono N12.mono)
 have N14:=G14.fc Yw GThing (zEg (k:=5) aa ac ae af B G14.F N13.mono)
 have N15:=G15.fm Yw (zFq (k:=0) aa ac ae af B G15.F )
 have N16:=G16.fm Yw (zGJ (k:=0) aa ac ae af B G16.F )
 have N17:=G17.fn Yw (zFm (k:=0) aa ac ae af B G17.F )
 have N18:=G18.fm Yw (zEB (k:=1) aa ac ae af B G18.F N17.mono)
 have N19:=G19.fn Yw (zG8 (k:=2) aa ac ae af B G19.F N18.mono)
 have NX19:=G19.fx Yw (zGE (k:=2) (Z:=Z) aa ac ae af B G19.F N18.mono)
 have N20:=G20.fn Yw (zM8 (k:=1) aa ac ae af B G20.F N6.mono N15.mono N5.mono)
 have N21:=G21.fn Yw (zEe (k:=0) aa ac ae af B G21.F )
 have D22:=λ{k sp}=>G22.fn (ps:=["top","bottom"]) (k:=k) (sp:=sp) Yw (λ_ _ _ _ _ _ _=>L2.kF λ_ _=>⟨_,rfl,rfl⟩) λ_ _ _ _ _ _ _ us hl=>match us,hl with | [_],_=>⟨_,rfl,rfl⟩
 have N22:=D22 (zIg (k:=1) aa ac ae af B G22.F N0.mono N21.mono)
 have N23:=G23.fn Yw (zM9 (k:=2) aa ac ae af B G23.F N22.mono)
 have N24:=G24.fn Yw (zM7 (k:=2) aa ac ae af B G24.F N22.mono)
 have N25:=G25.fn Yw (zM6 (k:=0) aa ac ae af B G25.F )
 have N26:=G26.fn Yw (zJw (k:=0) aa ac ae af B G26.F )
 have N27:=G27.fn Yw (zNF (k:=2) aa ac ae af B G27.F N26.mono N22.mono)
 have N28:=G28.fn Yw (zGH (k:=2) aa ac ae af B G28.F N26.mono N22.mono)
 have N29:=G29.fn Yw (zNE (k:=1) aa ac ae af B G29.F N26.mono)
 have N30:=G30.fn Yw (zG7 (k:=0) aa ac ae af B G30.F )
 have N31:=G31.fn Yw (zHk (k:=0) aa ac ae af B G31.F )
 have N32:=G32.fn Yw (zJ8 (k:=0) aa ac ae af B G32.F )
 have N33:=G33.fn Yw (zLH (k:=2) aa ac ae af B G33.F N30.mono N31.mono N32.mono N22.mono)
 have N34:=G34.fn Yw (zPV (k:=2) aa ac ae af B G34.F N9.mono)
 have N35:=G35.fn Yw (zFp (k:=3) aa ac ae af B G35.F N33.mono)
 have N36:=G36.fn Yw (zG5 (k:=3) aa ac ae af B G36.F N33.mono)
 have N37:=G37.fn Yw (zEA (k:=1) aa ac ae af B G37.F N21.mono)
 have N38:=G38.fn Yw (zHp (k:=0) aa ac ae af B G38.F )
 have N39:=G39.fn Yw (zJv (k:=3) aa ac ae af B G39.F N37.mono N33.mono)
 have N40:=G40.fn Yw (zGG (k:=2) (hI:=hI) (hc:=ecd) (T:=T) (k2:=by decide) aa ac ae af B G40.F )
 have N41:=G41.fn Yw (zHo (k:=3) aa ac ae af B G41.F N22.mono N5.mono N24.mono N23.mono N27.mono N25.mono)
 have N42:=G42.fn Yw (zLG (k:=2) aa ac ae af B G42.F N37.mono)
 have N43:=G43.fn Yw (zFo (k:=2) aa ac ae af B G43.F N29.mono)
 have N44:=G44.fn Yw (zFn (k:=4) aa ac ae af B G44.F N36.mono N40.mono N38.mono)
 have N45:=G45.fn Yw (zJ7 (k:=4) aa ac ae af B G45.F N35.mono N36.mono N40.mono N42.mono N27.mono N39.mono N41.mono N38.mono)
 have N46:=G46.fn Yw (zPU (k:=5) aa ac ae af B G46.F N34.mono N44.mono N43.mono N35.mono N45.mono N36.mono N40.mono N22.mono N42.mono N38.mono)
 have N47:=G47.fn Yw (zFj (k:=1) aa ac ae af B G47.F N15.mono)
 have N48:=G48.fn Yw (zEd (k:=2) aa ac ae af B G48.F N5.mono N47.mono)
 have N49:=G49.fn Yw (zJx (k:=2) aa ac ae af B G49.F N29.mono)
 have N50:=G50.fn Yw (zFl (k:=2) aa ac ae af B G50.F N25.mono N22.mono)
 have N51:=G51.fn Yw (zGI (k:=3) aa ac ae af B G51.F N49.mono N50.mono)
 have N52:=G52.fn Yw (zE5 (k:=3) aa ac ae af B G52.F N28.mono)
 have N53:=G53.fn Yw (zFk (k:=4) aa ac ae af B G53.F N52.mono)
 have N54:=G54.fn Yw (zLF (k:=5) aa ac ae af B G54.F N16.mono N15.mono N51.mono N53.mono)
 have N55:=G55.fm Yw (zEf (k:=0) aa ac ae af B G55.F )
 have N56:=G56.fn Yw (zHq (k:=1) aa ac ae af B G56.F N55.mono)
 have NX56:=G56.fx Yw (zG4 (k:=1) (Z:=Z) aa ac ae af B G56.F N55.mono)
 have N57:=G57.fn Yw (zGF (k:=3) aa ac ae af B G57.F N16.mono N20.mono N47.mono N22.mono N48.mono)
 have N58:=G58.fn Yw (zM5 (k:=6) aa ac ae af B G58.F N19.mono N56.mono N57.mono N46.mono N54.mono N27.mono)
 have NX58:=G58.fx Yw (zLE (k:=6) aa ac ae af B G58.F N19.mono NX19.mono NX56.mono)
 have N59:=G59.fn Yw (zHn (k:=0) aa ac ae af B G59.F )
 have N60:=G60.fn Yw (zIZ (k:=0) aa ac ae af B G60.F )
 have N61:=G61.fn Yw (zIa (k:=0) aa ac ae af B G61.F )
 have N62:=G62.fn Yw (zND (k:=1) aa ac ae af B G62.F N60.mono N61.mono)
 have N63:=G63.fn Yw (zLN (k:=7) aa ac ae af B G63.F N10.mono N14.mono)
 have N64:=G64.fn Yw (zNA (k:=0) aa ac ae af B G64.F )
 have N65:=G65.fn Yw (zLM (k:=1) aa ac ae af B G65.F N60.mono N61.mono)
 have N66:=G66.fn Yw (zJz (k:=2) aa ac ae af B G66.F N59.mono N65.mono)
 have N67:=G67.fn Yw (zHm (k:=0) aa ac ae af B G67.F )
 have N68:=G68.fn Yw (zIb (k:=1) aa ac ae af B G68.F N67.mono)
 have N69:=G69.fn Yw (zLL (k:=2) aa ac ae af B G69.F N68.mono)
 have N70:=G70.fn Yw (zJ3 (k:=3) aa ac ae af B G70.F N69.mono)
 have N71:=G71.fn Yw (zJ2 (k:=4) aa ac ae af B G71.F N70.mono)
 have N72:=G72.fn Yw (zLO (k:=5) aa ac ae af B G72.F N71.mono)
 have N73:=G73.fn Yw (zJ1 (k:=2) aa ac ae af B G73.F N60.mono N68.mono)
 have N74:=G74.fn Yw (zIc (k:=4) aa ac ae af B G74.F N69.mono N70.mono N68.mono)
 have N75:=G75.fn Yw (zNB (k:=3) aa ac ae af B G75.F N64.mono N69.mono)
 have N76:=G76.fn Yw (zLK (k:=0) aa ac ae af B G76.F )
 have N77:=G77.fn Yw (zJy (k:=0) aa ac ae af B G77.F )
 have N78:=G78.fn Yw (zJ0 (k:=1) aa ac ae af B G78.F N76.mono N60.mono)
 have N79:=G79.fn Yw (zNC (k:=5) aa ac ae af B G79.F N74.mono)
 have N80:=G80.fn Yw (zHl (k:=9) (Z:=Z) aa ac ae af B G80.F NX58.mono N63.mono)
 exact zRK (k:=10) aa ac ae af B G81.F N66.mono N62.mono N59.mono N78.mono N60.mono N61.mono N58.mono N63.mono N80.mono N75.mono N77.mono N69.mono N64.mono N79.mono N70.mono N72.mono N73.mono N74.mono
def zLT (o:Obj):Bool:=match o.cls with
 | .type t=>!(t == "list")
 | _=>true
theorem nolist {K:PySem.W.Frag} (h:K.all (λp=>zLT p.2)=true) (a:Addr) (o:Obj) (e:K.lookup a=some o):o.cls≠.type "list":=λz=>by
 have m:∃ b,(b,o)∈K:=by
  clear h
  induction K with
  | nil=>cases e
  | cons p K ih=>
   obtain ⟨b,o'⟩:=p
   rw [List.lookup_cons] at e
   cases q:a == b with
   | true=>rw [q] at e; cases e; exact ⟨b,List.mem_cons_self⟩
   | false=>rw [q] at e; obtain ⟨c,hc⟩:=ih e; exact ⟨c,List.mem_cons_of_mem _ hc⟩
 obtain ⟨b,hb⟩:=m
 have:=List.all_eq_true.mp h _ hb
 unfold zLT at this
 rw [z] at this
 exact absurd this (by decide)
theorem walk {l:PySem.W.OpenLaw} {q:Program} {loose:List Str} {XP:(Str->Option Value)->Heap->Prop} {YP:World->Heap->Prop} {d:DefRec} {K:Params->PySem.W.Frag} {cL Pt:Addr} (hI:∀ H,yU.I H ↔ yI Pt "least_place.<locals>.<lambda>" ⟨163,27,163,54⟩ H) (hn:l.most=some 63) (hdf:d.params.defaults=[])
  (hY:∀ (w:World) (h:Heap),YP w h->(K w.params).In h) (hrec:∃ d2,(PyProof.Rows.recsOf q).find? (λe=>e.name == ("least_place" : Str))=some d2) (htab:∀ w:World,PySem.W.tabIn (K w.params) "least_place" = some (cL,Pt)) (hKP:∀ w:World,(K w.params).lookup Pt=none)
  (hL:∀ (p:Params) (a:Addr) (o:Obj),(K p).lookup a=some o->o.cls≠.type "list")
  (F:∀ (w:World) (mg:Str->Option Value) (fa:Addr) (h:Heap),(K w.params).In h->h.Ns mainGlobals mg->mg d.name=some (.ref fa)->
   ∃ fd:FuncData,(∀ (s:Shared) (u:Value),BindsTo s fd ⟨[u],[]⟩ [("_law_script",u)])/\∀ base:Heap,(K w.params).In base->base.Ns mainGlobals mg->wf base mg cL Pt->zF l.prog w (K w.params) mg base zT 11 fa fd ["_law_script"] (zG jg)) :
  PySem.W.WalkO q loose XP YP l.row.toRowW d [] (λf vs=>PySem.call f vs):=
 hrec.elim λ_ hrec=>L2.zMT (n:=63) (k:=11) (x:="_law_script") (x2:="least_place") (sp:=λ_=>zG jg) hn (by decide) hdf ⟨rfl,by decide,by decide⟩ hY hrec htab hKP F (λw H a ns _ hO hS=>⟨λ_=>False,[.scr ns],λd=>d=.bool true,⟨λ_ z=>z.elim,(hI H).mpr (.inl hO.1)⟩,.cons (.scr ((hS.elim id λ⟨o,_,_,h1,h2,_⟩=>absurd h2 (hL w.params a o h1)).imp (λe=>uD (λz=>z) e) λ⟨o,e⟩=>⟨o,uD (λz=>z) e⟩)) .nil,⟨ns,rfl,rfl⟩,λd v H2 e _ h=>by subst e; cases h; rfl⟩)
end K75
open PySem PySem.W PyProof.Rows
set_option maxRecDepth 100000 in
set_option maxHeartbeats 0 in
theorem PySem.Challenge.cw_steadyhand_k75_the_worst_holds : PySem.Challenge.rw_steadyhand_k75_the_worst.Holds := by
 w_on; o_law
 refine holds_open (q:=H75.vw) (loose:=H75.lo) (Xt:=H75.xt) (XP:=XL H75.vw []) (Yf:=(kHook H75.KK H75.ks H75.ke).obs) (Ya:=(kHook H75.KK H75.ks H75.ke).val) (YP:=(kHook H75.KK H75.ks H75.ke).says) H75.left
  (kHook H75.KK H75.ks H75.ke).of (kHook H75.KK H75.ks H75.ke).keeps
  (λs e=>xl_of s (Bool.and_eq_true_iff.mp e).1) XL.keeps (by rfl) (by rfl) (by rfl)
  (λs e=>recFacts_of (Bool.and_eq_true_iff.mp e).2) (by rfl) (by assumption) (by decide +kernel)
  ⟨rfl,rfl,rfl,rfl,rfl,by decide +kernel⟩ ?hw ?hc
 case hw=>w_witness2
 rename_i sd
 clear sd
 k_fill
 refine K75.walk (l:=PySem.Challenge.rw_steadyhand_k75_the_worst) (iT:=Pu.tbI 292 "least_place.<locals>.<lambda>" ⟨163,27,163,54⟩) (cL:=294) (Pt:=292) (λ_=>Iff.rfl) rfl rfl (λw h Y=>PySem.W.kIn_of Y) ?hrec ?htab ?hKP (λp a o=>K75.nolist (iT:=Pu.tbI 292 "least_place.<locals>.<lambda>" ⟨163,27,163,54⟩) (K:=H75.KK p) (by kernel_rfl) a o) ?F
 case hrec=>exact ⟨_,rfl⟩
 case htab=>intro w; first | rfl | kernel_rfl
 case hKP=>intro w; rfl
 case F=>
  intro w mg fa h KX G hmg
  refine' K75.all_mk (iT:=Pu.tbI 292 "least_place.<locals>.<lambda>" ⟨163,27,163,54⟩) (λ_=>Iff.rfl) KX G hmg ?g_Mode ?g_Thing ?_ ?_ ?_ ?_ ?_ ?_ ?_ ?_ ?_ ?p_mC ?p_mP ?p_mS ?p_xC ?p_xP ?p_sC ?p_sP ?p_tCC ?p_tCP ?p_tPC ?p_tPP ?p_eCga ?p_eCgt ?p_eCha ?p_eChn ?p_eCtk ?p_eCmb ?p_eCmo ?p_ePga ?p_ePgt ?p_ePha ?p_ePhn ?p_ePtk ?p_ePmb ?p_ePmo ?_ ?_ ?_ ?_ ?_ ?_ ?_ ?_ ?_ ?_ ?_ ?_ ?_ ?_ ?_ ?_ ?_ ?_ ?_ ?_ ?_ ?_ ?_ ?_ ?_ ?_ ?_ ?_ ?_ ?_ ?_ ?_ ?_ ?_ ?_ ?_ ?_ ?_ ?_ ?_ ?_ ?_ ?_ ?_ ?_ ?_ ?_ ?_ ?_ ?_ ?_ ?_ ?_ ?_ ?_ ?_ ?_ ?_ ?_ ?_ ?_ ?_ ?_ ?_ ?_ ?_ ?_ ?_ ?_ ?_ ?_ ?_ ?_ ?_ ?_ ?_ ?_ ?_ ?_ ?_ ?_ ?_ ?_ ?_ ?_ ?_ ?_ ?_ ?_ ?_ ?_ ?_ ?_ ?_ ?_ ?_ ?_ ?_ ?_
  (case g_Mode=>refine' L2.Gc.mk ?a ?b ?c ?d ?e ?f ?g ?h ?i ?j ?k; (case a=>k_is); (case b=>k_is); (case c=>k_is); (case d=>k_is); (case e=>k_is); (case f=>k_is); (case g=>k_is); (case h=>k_is); (case i=>k_is); (case j=>k_is); (case k=>k_is))
  (case g_Thing=>refine' L2.Gc.mk ?a ?b ?c ?d ?e ?f ?g ?h ?i ?j ?k; (case a=>k_is); (case b=>k_is); (case c=>k_is); (case d=>k_is); (case e=>k_is); (case f=>k_is); (case g=>k_is); (case h=>k_is); (case i=>k_is); (case j=>k_is); (case k=>k_is))
  (case p_mC|p_mP|p_mS=>k_is)
  (case p_xC=>k_exc)
  (case p_xP=>k_exc)
  (case p_sC=>first | kit_is | k_is | rfl | decide +kernel)
  (case p_sP=>first | kit_is | k_is | rfl | decide +kernel)
  (case p_tCC=>first | kit_is | k_is | rfl | decide +kernel)
  (case p_tCP=>first | kit_is | k_is | rfl | decide +kernel)
  (case p_tPC=>first | kit_is | k_is | rfl | decide +kernel)
  (case p_tPP=>first | kit_is | k_is | rfl | decide +kernel)
  (case p_eCga|p_eCgt|p_eCha|p_eChn|p_eCtk|p_eCmb|p_eCmo|p_ePga|p_ePgt|p_ePha|p_ePhn|p_ePtk|p_ePmb|p_ePmo=>k_is)
  any_goals first | (refine' L2.Gc.mk ?a ?b ?c ?d ?e ?f ?g ?h ?i ?j ?k; (case a=>k_is); (case b=>k_is); (case c=>k_is); (case d=>k_is); (case e=>k_is); (case f=>k_is); (case g=>k_is); (case h=>k_is); (case i=>k_is); (case j=>k_is); (case k=>k_is)) | (refine' L2.XO ?a ?l ?c ?k; (case a=>k_is); (case l=>k_is); (case c=>k_is); (case k=>k_is)) | (refine' K75.gq_mk ?a ?l ?c ?k; (case a=>k_is); (case l=>k_is); (case c=>k_is); (case k=>k_is)) | (refine' L2.XQ ?a ?i ?l ?c ?k; (case a=>k_is); (case i=>k_is); (case l=>k_is); (case c=>k_is); (case k=>k_is)) | (refine' L2.XR ?a ?l ?c ?k ?d; (case a=>k_is); (case l=>k_is); (case c=>k_is); (case k=>k_is); (case d=>k_is)) | (refine' L2.gk_mk ?a ?z ?l ?c ?k ?d; (case a=>k_is); (case z=>k_is); (case l=>k_is); (case c=>k_is); (case k=>k_is); (case d=>k_is)) | k_is
#print axioms PySem.Challenge.cw_steadyhand_k75_the_worst_holds
