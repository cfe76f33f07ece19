import PyProof.Rows.All
import Wide.All
import OpenK.AllK
import Wide.FinOn
import Lean
import PyProof.EqAt
import PyProof.EqKinds
import PyProof.TupleCall
import PyProof.ZipIter
import PyProof.Draws
import PyProof.StationsW
import PyProof.EnumStmt
import PyProof.EnumMake
import PyProof.CallType
import PyProof.Rows.CallKwBuiltin
import PyProof.EnumIter
import PyProof.Rows.SeqMore
import PySem.Challenge.RW_steadyhand_k87_whole_papers_of_falls_tur
set_option Elab.async false
set_option linter.all false
set_option maxRecDepth 100000
set_option maxHeartbeats 0
namespace TT
open PySem PySem.W
def runT (tb:String->Option Builtin) (p:Program) (w:World) (k:Nat) (an:Option Value):Nat->SharedT->Thread->Option SharedT
 | 0,_,_=>none
 | j + 1,x,t=>match through t with
  | true=>some x
  | false=>match stepOk k an t with
   | false=>none
   | true=>match stepT (denote tb) p w x t with
    | none=>none
    | some y=>runT tb p w k an j y.1 y.2
theorem QO {tb:String->Option Builtin} {p:Program} {w:World} {k:Nat} {an:Option Value}:∀ (j:Nat) (x y:SharedT) (t:Thread),runT tb p w k an j x t=some y->topRun tb p w k an j x.abs t=some y.abs
 | 0,_,_,_,e=>by cases e
 | j + 1,x,y,t,e=>by
  unfold runT at e
  unfold topRun
  cases e1:through t with
  | true=>
   rw [e1] at e
   cases e
   rfl
  | false=>
   rw [e1] at e
   cases e2:stepOk k an t with
   | false=>rw [e2] at e; cases e
   | true=>
    rw [e2] at e
    cases e3:stepT (denote tb) p w x t with
    | none=>rw [e3] at e; cases e
    | some z=>
     rw [e3] at e
     rw [stepT_spec e3]
     exact QO j z.1 y z.2 e
theorem left_is {p q:Program} {lo:List Str} {xt:Shared->Bool} {α:Type} {Yf:Shared->α} {Ya:World->α} {N k n0:Nat} {an:Option Value} {tr:Params->BT} (op:∀ w:World,(fencedOpening treeTable p w N).map (λs=>(s.heap,s.gens,s.drawn,s.toks))=some (boot_heap w.params,Array.mk [],boot_drawn,boot_toks))
  (et:∀ P:Params,absHeap (tr P) n0 (boot_heap P).life=boot_heap P) (z1:∀ P:Params,(boot_heap P).isNs mainGlobals=true) (z2:∀ P:Params,(boot_heap P).objs.size=k) (z3:∀ P:Params,(boot_heap P).nsMap mainGlobals "__annotations__" = an)
  (h:∀ (w:World) (os:OsState),(runT treeTable p w k an N ⟨tr w.params,n0,(boot_heap w.params).life,Array.mk [],boot_drawn,boot_toks,os⟩ (topStub p)).map (λs=>((staticsOk (importedModules p.main.body) (boot_heap w.params) s.abs.heap && namesBound p s.abs.heap && gensDone s.abs && laidKept (boot_heap w.params) s.abs.heap),openSeen q lo (importedModules p.main.body) xt true s.abs,Yf s.abs))=some (true,openGood q lo,Ya w)) :
  LeftO p q lo xt Yf Ya N:=λw=>by
 obtain ⟨⟨hp,gs,d,tk,os⟩,e,e'⟩:=Option.map_eq_some_iff.mp (op w)
 injection e' with a1 e'
 injection e' with a2 e'
 injection e' with a3 a4
 subst a1 a2 a3 a4
 obtain ⟨y,ey,eo⟩:=Option.map_eq_some_iff.mp (h w os)
 injection eo with l1 eo
 injection eo with l2 l3
 have r:=QO _ _ _ _ ey
 have r':topRun treeTable p w k an N ⟨boot_heap w.params,Array.mk [],boot_drawn,boot_toks,os⟩ (topStub p)=some y.abs:=by
  rw [<- r]
  unfold SharedT.abs
  rw [et]
 have f:topFrom treeTable p w N ⟨boot_heap w.params,Array.mk [],boot_drawn,boot_toks,os⟩=some y.abs:=by
  unfold topFrom
  show (match (boot_heap w.params).isNs mainGlobals && true with | true=>_ | false=>_)=_
  rw [z1,z2,z3,r']
  show (match (_ && _ && _ && _) with | true=>_ | false=>_)=_
  rw [l1]
 unfold openEnds
 rw [e]
 show (topFrom treeTable p w N _).map _=_
 rw [f]
 exact congrArg some (Prod.ext l2 l3)
end TT
namespace H87
open PySem PySem.W
set_option maxRecDepth 100000
def hT (i:Nat):Stmt:=PySem.Challenge.pw_steadyhand_k87_whole_papers_of_falls_tur.main.body.getD i (.Pass ⟨0,0,0,0⟩)
def hI (i j:Nat):Stmt:=match hT i with
 | .ClassDef _ _ _ b _ _ _ _ _ _ _=>b.getD j (.Pass ⟨0,0,0,0⟩)
 | s=>s
def hA:Stmt->Arguments
 | .FunctionDef _ a _ _ _ _ _ _ _ _=>a
 | _=>⟨[],[],none,[],[],none,[]⟩
def hB:Stmt->List Stmt
 | .FunctionDef _ _ b _ _ _ _ _ _ _=>b
 | _=>[]
def hC:Stmt->Scope
 | .FunctionDef _ _ _ _ _ _ c _ _ _=>c
 | _=>{ kind:=.function,names:=[],isGenerator:=false,isCoroutine:=false }
abbrev hS (s:String) (n:Nat):Value:=.str (Str.ofString s) n
abbrev hE (P:Params) (s:String) (n:Nat) (v:Value):DictEntry:=⟨PyData.keyHash P (Str.ofString s),hS s n,v⟩
abbrev hU (x:Array Value):Obj:={ cls:=.type "tuple",data:=.seq x }
abbrev hD (s:String) (a:Nat) (s2:String) (b c:Nat) (i j f:Int) (r1 r2:Nat) (u v t r:Value) (y z:Int) (d:Nat):Obj:={ cls:=.type "code",data:=.fields #[hS s a,hS s2 b,hS "/claim/cut.py" c,.int i 0,.int j 0,.int 0 0,.int 0 0,.int f 0,.ref r1,.bool true,.int 181 0,.ref r2,u,v,t,r,.int y 0,.int z 0,hS "/claim/cut.py" d] }
abbrev hF (n q:String) (s:Stmt) (d k:Value) (m:String) (j c:Nat):Obj:={ cls:=.type "function",data:=.func { name:=n,qualname:=q,params:=hA s,body:=.stmts (hB s),scope:=hC s,globals:=3,closure:=[],defaults:=d,kwdefaults:=k,pyModule:=hS m j,code:=.ref c } }
noncomputable def KK:Params->Frag:=λP=>
 (nat_lit 2,{ cls:=.none,data:=.dict #[] })::(nat_lit 3,{ cls:=.type "dict",data:=.dict #[hE P "__name__" 165 (hS "law_steadyhand_k87_whole_papers_of_falls_tur" 902),hE P "__doc__" 166 (.none),hE P "__package__" 167 (.none),hE P "__loader__" 168 (.builtin "__main__.__loader__#opaque"),hE P "__spec__" 169 (.none),hE P "__annotations__" 170 (.ref 6),hE P "__builtins__" 171 (.ref 4),hE P "__file__" 173 (hS "/claim/cut.py" 172),hE P "__cached__" 174 (.none),hE P "_wall" 193 (.ref 21),hE P "SteadyError" 213 (.ref 31),hE P "BadThing" 229 (.ref 44),hE P "TooMany" 245 (.ref 56),hE P "NotClosed" 261 (.ref 68),hE P "BadTurn" 277 (.ref 80),hE P "is_whole" 286 (.ref 89),hE P "is_numbers" 294 (.ref 94),hE P "is_table" 300 (.ref 99),hE P "copied" 307 (.ref 105),hE P "unit" 314 (.ref 111),hE P "scaled" 320 (.ref 116),hE P "mixed" 326 (.ref 121),hE P "paired" 332 (.ref 126),hE P "added_up" 338 (.ref 131),hE P "is_row" 346 (.ref 136),hE P "is_room" 352 (.ref 141),hE P "single" 362 (.ref 148),hE P "other_side" 368 (.ref 153),hE P "MOST_NUMBERS" 372 (.int 3 371),hE P "MOST_PUSHES" 374 (.int 6 373),hE P "MOST_MODES" 376 (.int 40 375),hE P "Mode" 415 (.ref 170),hE P "Thing" 475 (.ref 217),hE P "is_sound" 481 (.ref 226),hE P "is_push" 488 (.ref 233),hE P "is_mode" 497 (.ref 240),hE P "is_unsteered" 503 (.ref 245),hE P "ask_closed" 510 (.ref 252),hE P "turned_row" 520 (.ref 259),hE P "turned" 526 (.ref 264),hE P "is_turn" 532 (.ref 269),hE P "product" 538 (.ref 274),hE P "turned_mode" 544 (.ref 279),hE P "Claim" 566 (.ref 289),hE P "Settles" 596 (.ref 311),hE P "Comes" 625 (.ref 330),hE P "standing" 633 (.ref 337),hE P "reach" 644 (.ref 344),hE P "added" 655 (.ref 351),hE P "is_from_0_on" 662 (.ref 358),hE P "are_shares" 668 (.ref 363),hE P "shows" 674 (.ref 368),hE P "Paper" 696 (.ref 378),hE P "Rooms" 729 (.ref 399),hE P "Falls" 770 (.ref 418),hE P "lets_by" 779 (.ref 427),hE P "is_list_of" 787 (.ref 434),hE P "each_shown" 793 (.ref 439),hE P "settles_over" 801 (.ref 446),hE P "comes_over" 809 (.ref 453),hE P "lets_rooms_by" 818 (.ref 460),hE P "are_rooms" 824 (.ref 465),hE P "rooms_follow" 830 (.ref 470),hE P "leads" 836 (.ref 475),hE P "mode_leads" 842 (.ref 480),hE P "rooms_stay" 848 (.ref 485),hE P "lets_fall_by" 857 (.ref 492),hE P "height_at_most" 865 (.ref 499),hE P "height_from_0_on" 871 (.ref 504),hE P "fall_row" 883 (.ref 511),hE P "floors_hold" 889 (.ref 516),hE P "falls_hold" 895 (.ref 521),hE P "mode_falls" 901 (.ref 526),hE P "_law_cell_at" 911 (.ref 533),hE P "_law_stream" 923 (.ref 540),hE P "_law_number" 931 (.ref 547),hE P "_law_made" 937 (.ref 552),hE P "_law_box" 950 (.ref 559),hE P "_law_rows" 956 (.ref 564),hE P "_law_top" 967 (.ref 571),hE P "_law_both" 976 (.ref 578),hE P "_law_drift" 982 (.ref 583),hE P "_law_drift_mode" 988 (.ref 588),hE P "_law_pushed" 994 (.ref 593),hE P "_law_falling" 1000 (.ref 598),hE P "_law_fall_parts" 1006 (.ref 603),hE P "_law_other" 1019 (.ref 610),hE P "_law_changed" 1028 (.ref 617),hE P "_law_turning" 1034 (.ref 622),hE P "_law_turned_row" 1040 (.ref 627),hE P "_law_turned_room" 1046 (.ref 632),hE P "_law_spoilt" 1065 (.ref 639),hE P "_law_let" 1084 (.ref 646),hE P "law" 1104 (.ref 653)] 94 })::(nat_lit 15,hU #[])::(nat_lit 17,hU #[hS "k" 190])::(nat_lit 18,hU #[])::(nat_lit 20,hD "_wall" 187 "_wall" 188 189 1 1 3 15 16 .none (.ref 17) (.ref 18) (.ref 19) 191 1 192)::(nat_lit 21,hF "_wall" "_wall" (hT 0) .none .none "__main__" 164 20)::(nat_lit 22,hU #[.type "ValueError"])::(nat_lit 29,hU #[])::(nat_lit 30,{ cls:=.type "dict",data:=.dict #[hE P "__module__" 203 (hS "steadyhand.errors" 194),hE P "__firstlineno__" 207 (.int 5 206),hE P "__static_attributes__" 208 (.ref 29),hE P "__weakref__" 210 (.ref 32),hE P "__doc__" 211 (.none)] 3 })::(nat_lit 31,{ cls:=.type "type",data:=.cls { name:="SteadyError",bases:=[.type "ValueError"],mro:=[.ref 31,.type "ValueError",.type "Exception",.type "BaseException",.type "object"],ns:=30,qualname:="SteadyError",subclasses:=[.ref 44,.ref 56,.ref 68,.ref 80] },slots:=#[some (.ref 22),none,some (hS "SteadyError" 196),some (hS "SteadyError" 204),some (.builtin "ValueError.__new__"),some (.bool true)] })::(nat_lit 32,{ cls:=.type "getset_descriptor",data:=.fields #[hS "__weakref__" 209,.ref 31,.builtin "ExceptionGroup.__weakref__",.none] })::(nat_lit 35,hU #[.ref 31])::(nat_lit 42,hU #[])::(nat_lit 43,{ cls:=.type "dict",data:=.dict #[hE P "__module__" 221 (hS "steadyhand.errors" 194),hE P "__firstlineno__" 225 (.int 7 224),hE P "__static_attributes__" 226 (.ref 42),hE P "__doc__" 227 (.none)] 2 })::(nat_lit 44,{ cls:=.type "type",data:=.cls { name:="BadThing",bases:=[.ref 31],mro:=[.ref 44,.ref 31,.type "ValueError",.type "Exception",.type "BaseException",.type "object"],ns:=43,qualname:="BadThing" },slots:=#[some (.ref 35),none,some (hS "BadThing" 214),some (hS "BadThing" 222),some (.builtin "ValueError.__new__"),some (.bool true)] })::(nat_lit 47,hU #[.ref 31])::(nat_lit 54,hU #[])::(nat_lit 55,{ cls:=.type "dict",data:=.dict #[hE P "__module__" 237 (hS "steadyhand.errors" 194),hE P "__firstlineno__" 241 (.int 9 240),hE P "__static_attributes__" 242 (.ref 54),hE P "__doc__" 243 (.none)] 2 })::(nat_lit 56,{ cls:=.type "type",data:=.cls { name:="TooMany",bases:=[.ref 31],mro:=[.ref 56,.ref 31,.type "ValueError",.type "Exception",.type "BaseException",.type "object"],ns:=55,qualname:="TooMany" },slots:=#[some (.ref 47),none,some (hS "TooMany" 230),some (hS "TooMany" 238),some (.builtin "ValueError.__new__"),some (.bool true)] })::(nat_lit 59,hU #[.ref 31])::(nat_lit 66,hU #[])::(nat_lit 67,{ cls:=.type "dict",data:=.dict #[hE P "__module__" 253 (hS "steadyhand.errors" 194),hE P "__firstlineno__" 257 (.int 11 256),hE P "__static_attributes__" 258 (.ref 66),hE P "__doc__" 259 (.none)] 2 })::(nat_lit 68,{ cls:=.type "type",data:=.cls { name:="NotClosed",bases:=[.ref 31],mro:=[.ref 68,.ref 31,.type "ValueError",.type "Exception",.type "BaseException",.type "object"],ns:=67,qualname:="NotClosed" },slots:=#[some (.ref 59),none,some (hS "NotClosed" 246),some (hS "NotClosed" 254),some (.builtin "ValueError.__new__"),some (.bool true)] })::(nat_lit 71,hU #[.ref 31])::(nat_lit 78,hU #[])::(nat_lit 79,{ cls:=.type "dict",data:=.dict #[hE P "__module__" 269 (hS "steadyhand.errors" 194),hE P "__firstlineno__" 273 (.int 13 272),hE P "__static_attributes__" 274 (.ref 78),hE P "__doc__" 275 (.none)] 2 })::(nat_lit 80,{ cls:=.type "type",data:=.cls { name:="BadTurn",bases:=[.ref 31],mro:=[.ref 80,.ref 31,.type "ValueError",.type "Exception",.type "BaseException",.type "object"],ns:=79,qualname:="BadTurn" },slots:=#[some (.ref 71),none,some (hS "BadTurn" 262),some (hS "BadTurn" 270),some (.builtin "ValueError.__new__"),some (.bool true)] })::(nat_lit 83,hU #[])::(nat_lit 85,hU #[hS "thing" 283])::(nat_lit 86,hU #[])::(nat_lit 88,hD "is_whole" 280 "is_whole" 281 282 16 1 3 83 84 .none (.ref 85) (.ref 86) (.ref 87) 284 16 285)::(nat_lit 89,hF "is_whole" "is_whole" (hT 8) .none .none "steadyhand.fractions" 278 88)::(nat_lit 90,hU #[])::(nat_lit 93,hD "is_numbers" 289 "is_numbers" 290 291 19 2 3 90 91 .none .none .none (.ref 92) 292 19 293)::(nat_lit 94,hF "is_numbers" "is_numbers" (hT 10) .none .none "steadyhand.tables" 287 93)::(nat_lit 95,hU #[])::(nat_lit 98,hD "is_table" 295 "is_table" 296 297 21 3 3 95 96 .none .none .none (.ref 97) 298 21 299)::(nat_lit 99,hF "is_table" "is_table" (hT 11) .none .none "steadyhand.tables" 287 98)::(nat_lit 100,hU #[.int 5 301])::(nat_lit 101,hU #[])::(nat_lit 104,hD "copied" 302 "copied" 303 304 23 2 3 101 102 .none .none .none (.ref 103) 305 23 306)::(nat_lit 105,hF "copied" "copied" (hT 12) (.ref 100) .none "steadyhand.tables" 287 104)::(nat_lit 106,hU #[.int 1 308])::(nat_lit 107,hU #[])::(nat_lit 110,hD "unit" 309 "unit" 310 311 31 3 3 107 108 .none .none .none (.ref 109) 312 31 313)::(nat_lit 111,hF "unit" "unit" (hT 13) (.ref 106) .none "steadyhand.tables" 287 110)::(nat_lit 112,hU #[])::(nat_lit 115,hD "scaled" 315 "scaled" 316 317 33 2 3 112 113 .none .none .none (.ref 114) 318 33 319)::(nat_lit 116,hF "scaled" "scaled" (hT 14) .none .none "steadyhand.tables" 287 115)::(nat_lit 117,hU #[])::(nat_lit 120,hD "mixed" 321 "mixed" 322 323 35 4 3 117 118 .none .none .none (.ref 119) 324 35 325)::(nat_lit 121,hF "mixed" "mixed" (hT 15) .none .none "steadyhand.tables" 287 120)::(nat_lit 122,hU #[])::(nat_lit 125,hD "paired" 327 "paired" 328 329 37 2 3 122 123 .none .none .none (.ref 124) 330 37 331)::(nat_lit 126,hF "paired" "paired" (hT 16) .none .none "steadyhand.tables" 287 125)::(nat_lit 127,hU #[])::(nat_lit 130,hD "added_up" 333 "added_up" 334 335 39 3 3 127 128 .none .none .none (.ref 129) 336 39 337)::(nat_lit 131,hF "added_up" "added_up" (hT 17) .none .none "steadyhand.tables" 287 130)::(nat_lit 132,hU #[])::(nat_lit 135,hD "is_row" 341 "is_row" 342 343 42 2 3 132 133 .none .none .none (.ref 134) 344 42 345)::(nat_lit 136,hF "is_row" "is_row" (hT 19) .none .none "steadyhand.rows" 339 135)::(nat_lit 137,hU #[])::(nat_lit 140,hD "is_room" 347 "is_room" 348 349 44 2 3 137 138 .none .none .none (.ref 139) 350 44 351)::(nat_lit 141,hF "is_room" "is_room" (hT 20) .none .none "steadyhand.rows" 339 140)::(nat_lit 142,hU #[])::(nat_lit 144,hU #[hS "place" 356,hS "many" 357,hS "number" 358,hS "bound" 359])::(nat_lit 145,hU #[])::(nat_lit 147,hD "single" 353 "single" 354 355 46 4 3 142 143 .none (.ref 144) (.ref 145) (.ref 146) 360 46 361)::(nat_lit 148,hF "single" "single" (hT 21) .none .none "steadyhand.rows" 339 147)::(nat_lit 149,hU #[])::(nat_lit 152,hD "other_side" 363 "other_side" 364 365 48 1 3 149 150 .none .none .none (.ref 151) 366 48 367)::(nat_lit 153,hF "other_side" "other_side" (hT 22) .none .none "steadyhand.rows" 339 152)::(nat_lit 161,hU #[])::(nat_lit 163,hU #[hS "self" 392,hS "rows" 393,hS "nexts" 394,hS "steer" 395,hS "push" 396,hS "add" 397,hS "divisor" 398])::(nat_lit 164,hU #[])::(nat_lit 166,hD "__init__" 389 "Mode.__init__" 390 391 56 7 3 161 162 .none (.ref 163) (.ref 164) (.ref 165) 399 56 400)::(nat_lit 167,hF "__init__" "Mode.__init__" (hI 27 0) .none .none "steadyhand.things" 369 166)::(nat_lit 168,hU #[hS "add" 402,hS "divisor" 403,hS "nexts" 404,hS "push" 405,hS "rows" 406,hS "steer" 407])::(nat_lit 169,{ cls:=.type "dict",data:=.dict #[hE P "__module__" 384 (hS "steadyhand.things" 369),hE P "__firstlineno__" 388 (.int 54 387),hE P "__init__" 401 (.ref 167),hE P "__static_attributes__" 408 (.ref 168),hE P "__dict__" 410 (.ref 171),hE P "__weakref__" 412 (.ref 172),hE P "__doc__" 413 (.none)] 4 })::(nat_lit 170,{ cls:=.type "type",data:=.cls { name:="Mode",bases:=[.type "object"],mro:=[.ref 170,.type "object"],ns:=169,qualname:="Mode" },slots:=#[none,none,some (hS "Mode" 377),some (hS "Mode" 385),some (.builtin "object.__new__"),some (.bool true)] })::(nat_lit 171,{ cls:=.type "getset_descriptor",data:=.fields #[hS "__dict__" 409,.ref 170,.builtin "function.__dict__",.builtin "function.__dict__#set"] })::(nat_lit 172,{ cls:=.type "getset_descriptor",data:=.fields #[hS "__weakref__" 411,.ref 170,.builtin "ExceptionGroup.__weakref__",.none] })::(nat_lit 182,hU #[])::(nat_lit 184,hU #[hS "self" 431,hS "many" 432,hS "pushes" 433,hS "modes" 434])::(nat_lit 185,hU #[])::(nat_lit 187,hD "__init__" 428 "Thing.__init__" 429 430 65 4 3 182 183 .none (.ref 184) (.ref 185) (.ref 186) 435 65 436)::(nat_lit 188,hF "__init__" "Thing.__init__" (hI 28 0) .none .none "steadyhand.things" 369 187)::(nat_lit 189,hU #[])::(nat_lit 191,hU #[hS "self" 441])::(nat_lit 192,hU #[])::(nat_lit 194,hD "pushes" 438 "Thing.pushes" 439 440 74 1 3 189 190 .none (.ref 191) (.ref 192) (.ref 193) 442 74 443)::(nat_lit 195,hF "pushes" "Thing.pushes" (hI 28 1) .none .none "steadyhand.things" 369 194)::(nat_lit 196,hU #[])::(nat_lit 198,hU #[hS "self" 448])::(nat_lit 199,hU #[])::(nat_lit 201,hD "modes" 445 "Thing.modes" 446 447 77 1 3 196 197 .none (.ref 198) (.ref 199) (.ref 200) 449 77 450)::(nat_lit 202,hF "modes" "Thing.modes" (hI 28 2) .none .none "steadyhand.things" 369 201)::(nat_lit 203,hU #[])::(nat_lit 206,hD "is_closed" 452 "Thing.is_closed" 453 454 80 1 3 203 204 .none .none .none (.ref 205) 455 80 456)::(nat_lit 207,hF "is_closed" "Thing.is_closed" (hI 28 3) .none .none "steadyhand.things" 369 206)::(nat_lit 208,hU #[])::(nat_lit 210,hU #[hS "self" 461])::(nat_lit 211,hU #[])::(nat_lit 213,hD "is_plain" 458 "Thing.is_plain" 459 460 83 1 3 208 209 .none (.ref 210) (.ref 211) (.ref 212) 462 83 463)::(nat_lit 214,hF "is_plain" "Thing.is_plain" (hI 28 4) .none .none "steadyhand.things" 369 213)::(nat_lit 215,hU #[hS "kept_modes" 465,hS "kept_pushes" 466,hS "many" 467])::(nat_lit 216,{ cls:=.type "dict",data:=.dict #[hE P "__module__" 423 (hS "steadyhand.things" 369),hE P "__firstlineno__" 427 (.int 63 426),hE P "__init__" 437 (.ref 188),hE P "pushes" 444 (.ref 195),hE P "modes" 451 (.ref 202),hE P "is_closed" 457 (.ref 207),hE P "is_plain" 464 (.ref 214),hE P "__static_attributes__" 468 (.ref 215),hE P "__dict__" 470 (.ref 218),hE P "__weakref__" 472 (.ref 219),hE P "__doc__" 473 (.none)] 4 })::(nat_lit 217,{ cls:=.type "type",data:=.cls { name:="Thing",bases:=[.type "object"],mro:=[.ref 217,.type "object"],ns:=216,qualname:="Thing" },slots:=#[none,none,some (hS "Thing" 416),some (hS "Thing" 424),some (.builtin "object.__new__"),some (.bool true)] })::(nat_lit 218,{ cls:=.type "getset_descriptor",data:=.fields #[hS "__dict__" 469,.ref 217,.builtin "function.__dict__",.builtin "function.__dict__#set"] })::(nat_lit 219,{ cls:=.type "getset_descriptor",data:=.fields #[hS "__weakref__" 471,.ref 217,.builtin "ExceptionGroup.__weakref__",.none] })::(nat_lit 222,hU #[])::(nat_lit 225,hD "is_sound" 476 "is_sound" 477 478 85 3 3 222 223 .none .none .none (.ref 224) 479 85 480)::(nat_lit 226,hF "is_sound" "is_sound" (hT 29) .none .none "steadyhand.things" 369 225)::(nat_lit 227,hU #[])::(nat_lit 229,hU #[hS "value" 485])::(nat_lit 230,hU #[])::(nat_lit 232,hD "is_push" 482 "is_push" 483 484 93 1 3 227 228 .none (.ref 229) (.ref 230) (.ref 231) 486 93 487)::(nat_lit 233,hF "is_push" "is_push" (hT 30) .none .none "steadyhand.things" 369 232)::(nat_lit 234,hU #[])::(nat_lit 236,hU #[hS "value" 492,hS "many" 493,hS "wide" 494])::(nat_lit 237,hU #[])::(nat_lit 239,hD "is_mode" 489 "is_mode" 490 491 97 3 3 234 235 .none (.ref 236) (.ref 237) (.ref 238) 495 97 496)::(nat_lit 240,hF "is_mode" "is_mode" (hT 31) .none .none "steadyhand.things" 369 239)::(nat_lit 241,hU #[])::(nat_lit 244,hD "is_unsteered" 498 "is_unsteered" 499 500 105 1 3 241 242 .none .none .none (.ref 243) 501 105 502)::(nat_lit 245,hF "is_unsteered" "is_unsteered" (hT 32) .none .none "steadyhand.things" 369 244)::(nat_lit 246,hU #[])::(nat_lit 248,hU #[hS "thing" 507])::(nat_lit 249,hU #[])::(nat_lit 251,hD "ask_closed" 504 "ask_closed" 505 506 107 1 3 246 247 .none (.ref 248) (.ref 249) (.ref 250) 508 107 509)::(nat_lit 252,hF "ask_closed" "ask_closed" (hT 33) .none .none "steadyhand.things" 369 251)::(nat_lit 253,hU #[])::(nat_lit 255,hU #[hS "back" 516,hS "row" 517])::(nat_lit 256,hU #[])::(nat_lit 258,hD "turned_row" 513 "turned_row" 514 515 111 2 3 253 254 .none (.ref 255) (.ref 256) (.ref 257) 518 111 519)::(nat_lit 259,hF "turned_row" "turned_row" (hT 35) .none .none "steadyhand.turning" 511 258)::(nat_lit 260,hU #[])::(nat_lit 263,hD "turned" 521 "turned" 522 523 113 3 3 260 261 .none .none .none (.ref 262) 524 113 525)::(nat_lit 264,hF "turned" "turned" (hT 36) .none .none "steadyhand.turning" 511 263)::(nat_lit 265,hU #[])::(nat_lit 268,hD "is_turn" 527 "is_turn" 528 529 118 3 3 265 266 .none .none .none (.ref 267) 530 118 531)::(nat_lit 269,hF "is_turn" "is_turn" (hT 37) .none .none "steadyhand.turning" 511 268)::(nat_lit 270,hU #[])::(nat_lit 273,hD "product" 533 "product" 534 535 122 3 3 270 271 .none .none .none (.ref 272) 536 122 537)::(nat_lit 274,hF "product" "product" (hT 38) .none .none "steadyhand.turning" 511 273)::(nat_lit 275,hU #[])::(nat_lit 278,hD "turned_mode" 539 "turned_mode" 540 541 124 4 3 275 276 .none .none .none (.ref 277) 542 124 543)::(nat_lit 279,hF "turned_mode" "turned_mode" (hT 39) .none .none "steadyhand.turning" 511 278)::(nat_lit 287,hU #[])::(nat_lit 288,{ cls:=.type "dict",data:=.dict #[hE P "__module__" 554 (hS "steadyhand.claims" 545),hE P "__firstlineno__" 558 (.int 128 557),hE P "__static_attributes__" 559 (.ref 287),hE P "__dict__" 561 (.ref 290),hE P "__weakref__" 563 (.ref 291),hE P "__doc__" 564 (.none)] 4 })::(nat_lit 289,{ cls:=.type "type",data:=.cls { name:="Claim",bases:=[.type "object"],mro:=[.ref 289,.type "object"],ns:=288,qualname:="Claim",subclasses:=[.ref 311,.ref 330] },slots:=#[none,none,some (hS "Claim" 547),some (hS "Claim" 555),some (.builtin "object.__new__"),some (.bool true)] })::(nat_lit 290,{ cls:=.type "getset_descriptor",data:=.fields #[hS "__dict__" 560,.ref 289,.builtin "function.__dict__",.builtin "function.__dict__#set"] })::(nat_lit 291,{ cls:=.type "getset_descriptor",data:=.fields #[hS "__weakref__" 562,.ref 289,.builtin "ExceptionGroup.__weakref__",.none] })::(nat_lit 294,hU #[.ref 289])::(nat_lit 301,hU #[.int 0 579])::(nat_lit 302,hU #[])::(nat_lit 304,hU #[hS "self" 583,hS "start" 584,hS "rows" 585,hS "turn" 586])::(nat_lit 305,hU #[])::(nat_lit 307,hD "__init__" 580 "Settles.__init__" 581 582 132 4 3 302 303 .none (.ref 304) (.ref 305) (.ref 306) 587 132 588)::(nat_lit 308,hF "__init__" "Settles.__init__" (hI 42 0) (.ref 301) .none "steadyhand.claims" 545 307)::(nat_lit 309,hU #[hS "rows" 590,hS "start" 591,hS "turn" 592])::(nat_lit 310,{ cls:=.type "dict",data:=.dict #[hE P "__module__" 574 (hS "steadyhand.claims" 545),hE P "__firstlineno__" 578 (.int 130 577),hE P "__init__" 589 (.ref 308),hE P "__static_attributes__" 593 (.ref 309),hE P "__doc__" 594 (.none)] 2 })::(nat_lit 311,{ cls:=.type "type",data:=.cls { name:="Settles",bases:=[.ref 289],mro:=[.ref 311,.ref 289,.type "object"],ns:=310,qualname:="Settles" },slots:=#[some (.ref 294),none,some (hS "Settles" 567),some (hS "Settles" 575),some (.builtin "object.__new__"),some (.bool true)] })::(nat_lit 314,hU #[.ref 289])::(nat_lit 321,hU #[])::(nat_lit 323,hU #[hS "self" 612,hS "start" 613,hS "goal" 614,hS "turns" 615])::(nat_lit 324,hU #[])::(nat_lit 326,hD "__init__" 609 "Comes.__init__" 610 611 138 4 3 321 322 .none (.ref 323) (.ref 324) (.ref 325) 616 138 617)::(nat_lit 327,hF "__init__" "Comes.__init__" (hI 43 0) .none .none "steadyhand.claims" 545 326)::(nat_lit 328,hU #[hS "goal" 619,hS "start" 620,hS "turns" 621])::(nat_lit 329,{ cls:=.type "dict",data:=.dict #[hE P "__module__" 604 (hS "steadyhand.claims" 545),hE P "__firstlineno__" 608 (.int 136 607),hE P "__init__" 618 (.ref 327),hE P "__static_attributes__" 622 (.ref 328),hE P "__doc__" 623 (.none)] 2 })::(nat_lit 330,{ cls:=.type "type",data:=.cls { name:="Comes",bases:=[.ref 289],mro:=[.ref 330,.ref 289,.type "object"],ns:=329,qualname:="Comes" },slots:=#[some (.ref 314),none,some (hS "Comes" 597),some (hS "Comes" 605),some (.builtin "object.__new__"),some (.bool true)] })::(nat_lit 333,hU #[])::(nat_lit 336,hD "standing" 628 "standing" 629 630 143 2 3 333 334 .none .none .none (.ref 335) 631 143 632)::(nat_lit 337,hF "standing" "standing" (hT 45) .none .none "steadyhand.reach" 626 336)::(nat_lit 338,hU #[])::(nat_lit 340,hU #[hS "thing" 637,hS "mode" 638,hS "row" 639,hS "numbers" 640,hS "ahead" 641])::(nat_lit 341,hU #[])::(nat_lit 343,hD "reach" 634 "reach" 635 636 152 3 3 338 339 .none (.ref 340) (.ref 341) (.ref 342) 642 152 643)::(nat_lit 344,hF "reach" "reach" (hT 46) .none .none "steadyhand.reach" 626 343)::(nat_lit 345,hU #[])::(nat_lit 347,hU #[hS "rows" 650,hS "numbers" 651,hS "many" 652])::(nat_lit 348,hU #[])::(nat_lit 350,hD "added" 647 "added" 648 649 157 3 3 345 346 .none (.ref 347) (.ref 348) (.ref 349) 653 157 654)::(nat_lit 351,hF "added" "added" (hT 48) .none .none "steadyhand.shares" 645 350)::(nat_lit 352,hU #[])::(nat_lit 354,hU #[hS "value" 659])::(nat_lit 355,hU #[])::(nat_lit 357,hD "is_from_0_on" 656 "is_from_0_on" 657 658 159 1 3 352 353 .none (.ref 354) (.ref 355) (.ref 356) 660 159 661)::(nat_lit 358,hF "is_from_0_on" "is_from_0_on" (hT 49) .none .none "steadyhand.shares" 645 357)::(nat_lit 359,hU #[])::(nat_lit 362,hD "are_shares" 663 "are_shares" 664 665 161 2 3 359 360 .none .none .none (.ref 361) 666 161 667)::(nat_lit 363,hF "are_shares" "are_shares" (hT 50) .none .none "steadyhand.shares" 645 362)::(nat_lit 364,hU #[])::(nat_lit 367,hD "shows" 669 "shows" 670 671 167 3 3 364 365 .none .none .none (.ref 366) 672 167 673)::(nat_lit 368,hF "shows" "shows" (hT 51) .none .none "steadyhand.shares" 645 367)::(nat_lit 376,hU #[])::(nat_lit 377,{ cls:=.type "dict",data:=.dict #[hE P "__module__" 684 (hS "steadyhand.papers" 675),hE P "__firstlineno__" 688 (.int 176 687),hE P "__static_attributes__" 689 (.ref 376),hE P "__dict__" 691 (.ref 379),hE P "__weakref__" 693 (.ref 380),hE P "__doc__" 694 (.none)] 4 })::(nat_lit 378,{ cls:=.type "type",data:=.cls { name:="Paper",bases:=[.type "object"],mro:=[.ref 378,.type "object"],ns:=377,qualname:="Paper",subclasses:=[.ref 399,.ref 418] },slots:=#[none,none,some (hS "Paper" 677),some (hS "Paper" 685),some (.builtin "object.__new__"),some (.bool true)] })::(nat_lit 379,{ cls:=.type "getset_descriptor",data:=.fields #[hS "__dict__" 690,.ref 378,.builtin "function.__dict__",.builtin "function.__dict__#set"] })::(nat_lit 380,{ cls:=.type "getset_descriptor",data:=.fields #[hS "__weakref__" 692,.ref 378,.builtin "ExceptionGroup.__weakref__",.none] })::(nat_lit 383,hU #[.ref 378])::(nat_lit 390,hU #[])::(nat_lit 392,hU #[hS "self" 712,hS "rooms" 713,hS "back" 714,hS "starts" 715,hS "steps" 716,hS "stays" 717])::(nat_lit 393,hU #[])::(nat_lit 395,hD "__init__" 709 "Rooms.__init__" 710 711 180 6 3 390 391 .none (.ref 392) (.ref 393) (.ref 394) 718 180 719)::(nat_lit 396,hF "__init__" "Rooms.__init__" (hI 54 0) .none .none "steadyhand.papers" 675 395)::(nat_lit 397,hU #[hS "back" 721,hS "rooms" 722,hS "starts" 723,hS "stays" 724,hS "steps" 725])::(nat_lit 398,{ cls:=.type "dict",data:=.dict #[hE P "__module__" 704 (hS "steadyhand.papers" 675),hE P "__firstlineno__" 708 (.int 178 707),hE P "__init__" 720 (.ref 396),hE P "__static_attributes__" 726 (.ref 397),hE P "__doc__" 727 (.none)] 2 })::(nat_lit 399,{ cls:=.type "type",data:=.cls { name:="Rooms",bases:=[.ref 378],mro:=[.ref 399,.ref 378,.type "object"],ns:=398,qualname:="Rooms" },slots:=#[some (.ref 383),none,some (hS "Rooms" 697),some (hS "Rooms" 705),some (.builtin "object.__new__"),some (.bool true)] })::(nat_lit 402,hU #[.ref 378])::(nat_lit 409,hU #[])::(nat_lit 411,hU #[hS "self" 745,hS "room" 746,hS "starts" 747,hS "steps" 748,hS "measure" 749,hS "step" 750,hS "top" 751,hS "falls" 752,hS "floors" 753,hS "tops" 754])::(nat_lit 412,hU #[])::(nat_lit 414,hD "__init__" 742 "Falls.__init__" 743 744 188 10 3 409 410 .none (.ref 411) (.ref 412) (.ref 413) 755 188 756)::(nat_lit 415,hF "__init__" "Falls.__init__" (hI 55 0) .none .none "steadyhand.papers" 675 414)::(nat_lit 416,hU #[hS "falls" 758,hS "floors" 759,hS "measure" 760,hS "room" 761,hS "starts" 762,hS "step" 763,hS "steps" 764,hS "top" 765,hS "tops" 766])::(nat_lit 417,{ cls:=.type "dict",data:=.dict #[hE P "__module__" 737 (hS "steadyhand.papers" 675),hE P "__firstlineno__" 741 (.int 186 740),hE P "__init__" 757 (.ref 415),hE P "__static_attributes__" 767 (.ref 416),hE P "__doc__" 768 (.none)] 2 })::(nat_lit 418,{ cls:=.type "type",data:=.cls { name:="Falls",bases:=[.ref 378],mro:=[.ref 418,.ref 378,.type "object"],ns:=417,qualname:="Falls" },slots:=#[some (.ref 402),none,some (hS "Falls" 730),some (hS "Falls" 738),some (.builtin "object.__new__"),some (.bool true)] })::(nat_lit 421,hU #[])::(nat_lit 423,hU #[hS "thing" 774,hS "claim" 775,hS "paper" 776])::(nat_lit 424,hU #[])::(nat_lit 426,hD "lets_by" 771 "lets_by" 772 773 198 3 3 421 422 .none (.ref 423) (.ref 424) (.ref 425) 777 198 778)::(nat_lit 427,hF "lets_by" "lets_by" (hT 56) .none .none "steadyhand.papers" 675 426)::(nat_lit 428,hU #[])::(nat_lit 430,hU #[hS "value" 783,hS "count" 784])::(nat_lit 431,hU #[])::(nat_lit 433,hD "is_list_of" 780 "is_list_of" 781 782 205 2 3 428 429 .none (.ref 430) (.ref 431) (.ref 432) 785 205 786)::(nat_lit 434,hF "is_list_of" "is_list_of" (hT 57) .none .none "steadyhand.papers" 675 433)::(nat_lit 435,hU #[])::(nat_lit 438,hD "each_shown" 788 "each_shown" 789 790 207 3 3 435 436 .none .none .none (.ref 437) 791 207 792)::(nat_lit 439,hF "each_shown" "each_shown" (hT 58) .none .none "steadyhand.papers" 675 438)::(nat_lit 440,hU #[])::(nat_lit 442,hU #[hS "claim" 797,hS "many" 798])::(nat_lit 443,hU #[])::(nat_lit 445,hD "settles_over" 794 "settles_over" 795 796 211 2 3 440 441 .none (.ref 442) (.ref 443) (.ref 444) 799 211 800)::(nat_lit 446,hF "settles_over" "settles_over" (hT 59) .none .none "steadyhand.papers" 675 445)::(nat_lit 447,hU #[])::(nat_lit 449,hU #[hS "claim" 805,hS "many" 806])::(nat_lit 450,hU #[])::(nat_lit 452,hD "comes_over" 802 "comes_over" 803 804 213 2 3 447 448 .none (.ref 449) (.ref 450) (.ref 451) 807 213 808)::(nat_lit 453,hF "comes_over" "comes_over" (hT 60) .none .none "steadyhand.papers" 675 452)::(nat_lit 454,hU #[])::(nat_lit 456,hU #[hS "thing" 813,hS "claim" 814,hS "paper" 815])::(nat_lit 457,hU #[])::(nat_lit 459,hD "lets_rooms_by" 810 "lets_rooms_by" 811 812 215 3 3 454 455 .none (.ref 456) (.ref 457) (.ref 458) 816 215 817)::(nat_lit 460,hF "lets_rooms_by" "lets_rooms_by" (hT 61) .none .none "steadyhand.papers" 675 459)::(nat_lit 461,hU #[])::(nat_lit 464,hD "are_rooms" 819 "are_rooms" 820 821 223 2 3 461 462 .none .none .none (.ref 463) 822 223 823)::(nat_lit 465,hF "are_rooms" "are_rooms" (hT 62) .none .none "steadyhand.papers" 675 464)::(nat_lit 466,hU #[])::(nat_lit 469,hD "rooms_follow" 825 "rooms_follow" 826 827 225 2 3 466 467 .none .none .none (.ref 468) 828 225 829)::(nat_lit 470,hF "rooms_follow" "rooms_follow" (hT 63) .none .none "steadyhand.papers" 675 469)::(nat_lit 471,hU #[])::(nat_lit 474,hD "leads" 831 "leads" 832 833 230 4 3 471 472 .none .none .none (.ref 473) 834 230 835)::(nat_lit 475,hF "leads" "leads" (hT 64) .none .none "steadyhand.papers" 675 474)::(nat_lit 476,hU #[])::(nat_lit 479,hD "mode_leads" 837 "mode_leads" 838 839 235 5 3 476 477 .none .none .none (.ref 478) 840 235 841)::(nat_lit 480,hF "mode_leads" "mode_leads" (hT 65) .none .none "steadyhand.papers" 675 479)::(nat_lit 481,hU #[])::(nat_lit 484,hD "rooms_stay" 843 "rooms_stay" 844 845 237 2 3 481 482 .none .none .none (.ref 483) 846 237 847)::(nat_lit 485,hF "rooms_stay" "rooms_stay" (hT 66) .none .none "steadyhand.papers" 675 484)::(nat_lit 486,hU #[])::(nat_lit 488,hU #[hS "thing" 852,hS "claim" 853,hS "paper" 854])::(nat_lit 489,hU #[])::(nat_lit 491,hD "lets_fall_by" 849 "lets_fall_by" 850 851 242 3 3 486 487 .none (.ref 488) (.ref 489) (.ref 490) 855 242 856)::(nat_lit 492,hF "lets_fall_by" "lets_fall_by" (hT 67) .none .none "steadyhand.papers" 675 491)::(nat_lit 493,hU #[])::(nat_lit 495,hU #[hS "measure" 861,hS "top" 862])::(nat_lit 496,hU #[])::(nat_lit 498,hD "height_at_most" 858 "height_at_most" 859 860 256 2 3 493 494 .none (.ref 495) (.ref 496) (.ref 497) 863 256 864)::(nat_lit 499,hF "height_at_most" "height_at_most" (hT 68) .none .none "steadyhand.papers" 675 498)::(nat_lit 500,hU #[])::(nat_lit 503,hD "height_from_0_on" 866 "height_from_0_on" 867 868 258 1 3 500 501 .none .none .none (.ref 502) 869 258 870)::(nat_lit 504,hF "height_from_0_on" "height_from_0_on" (hT 69) .none .none "steadyhand.papers" 675 503)::(nat_lit 505,hU #[])::(nat_lit 507,hU #[hS "thing" 875,hS "mode" 876,hS "measure" 877,hS "step" 878,hS "ahead" 879,hS "less" 880])::(nat_lit 508,hU #[])::(nat_lit 510,hD "fall_row" 872 "fall_row" 873 874 260 4 3 505 506 .none (.ref 507) (.ref 508) (.ref 509) 881 260 882)::(nat_lit 511,hF "fall_row" "fall_row" (hT 70) .none .none "steadyhand.papers" 675 510)::(nat_lit 512,hU #[])::(nat_lit 515,hD "floors_hold" 884 "floors_hold" 885 886 264 2 3 512 513 .none .none .none (.ref 514) 887 264 888)::(nat_lit 516,hF "floors_hold" "floors_hold" (hT 71) .none .none "steadyhand.papers" 675 515)::(nat_lit 517,hU #[])::(nat_lit 520,hD "falls_hold" 890 "falls_hold" 891 892 269 3 3 517 518 .none .none .none (.ref 519) 893 269 894)::(nat_lit 521,hF "falls_hold" "falls_hold" (hT 72) .none .none "steadyhand.papers" 675 520)::(nat_lit 522,hU #[])::(nat_lit 525,hD "mode_falls" 896 "mode_falls" 897 898 274 5 3 522 523 .none .none .none (.ref 524) 899 274 900)::(nat_lit 526,hF "mode_falls" "mode_falls" (hT 73) .none .none "steadyhand.papers" 675 525)::(nat_lit 527,hU #[])::(nat_lit 529,hU #[hS "_law_script" 907,hS "_law_k" 908])::(nat_lit 530,hU #[])::(nat_lit 532,hD "_law_cell_at" 904 "_law_cell_at" 905 906 281 2 3 527 528 .none (.ref 529) (.ref 530) (.ref 531) 909 281 910)::(nat_lit 533,hF "_law_cell_at" "_law_cell_at" (hT 75) .none .none "law_steadyhand_k87_whole_papers_of_falls_tur" 902 532)::(nat_lit 534,hU #[])::(nat_lit 536,hU #[hS "_law_cell" 915,hS "_law_many" 916,hS "_law_found" 917,hS "_law_rest" 918,hS "_law_k" 919,hS "_law_number_here" 920])::(nat_lit 537,hU #[])::(nat_lit 539,hD "_law_stream" 912 "_law_stream" 913 914 285 2 3 534 535 .none (.ref 536) (.ref 537) (.ref 538) 921 285 922)::(nat_lit 540,hF "_law_stream" "_law_stream" (hT 76) .none .none "law_steadyhand_k87_whole_papers_of_falls_tur" 902 539)::(nat_lit 541,hU #[])::(nat_lit 543,hU #[hS "_law_x" 927,hS "_law_far" 928])::(nat_lit 544,hU #[])::(nat_lit 546,hD "_law_number" 924 "_law_number" 925 926 298 2 3 541 542 .none (.ref 543) (.ref 544) (.ref 545) 929 298 930)::(nat_lit 547,hF "_law_number" "_law_number" (hT 77) .none .none "law_steadyhand_k87_whole_papers_of_falls_tur" 902 546)::(nat_lit 548,hU #[])::(nat_lit 551,hD "_law_made" 932 "_law_made" 933 934 300 1 3 548 549 .none .none .none (.ref 550) 935 300 936)::(nat_lit 552,hF "_law_made" "_law_made" (hT 78) .none .none "law_steadyhand_k87_whole_papers_of_falls_tur" 902 551)::(nat_lit 553,hU #[])::(nat_lit 555,hU #[hS "_law_cell" 941,hS "_law_many" 942,hS "_law_unit" 943,hS "_law_xs" 944,hS "_law_box_here" 945,hS "_law_i" 946,hS "_law_low" 947])::(nat_lit 556,hU #[])::(nat_lit 558,hD "_law_box" 938 "_law_box" 939 940 307 3 3 553 554 .none (.ref 555) (.ref 556) (.ref 557) 948 307 949)::(nat_lit 559,hF "_law_box" "_law_box" (hT 79) .none .none "law_steadyhand_k87_whole_papers_of_falls_tur" 902 558)::(nat_lit 560,hU #[])::(nat_lit 563,hD "_law_rows" 951 "_law_rows" 952 953 314 1 3 560 561 .none .none .none (.ref 562) 954 314 955)::(nat_lit 564,hF "_law_rows" "_law_rows" (hT 80) .none .none "law_steadyhand_k87_whole_papers_of_falls_tur" 902 563)::(nat_lit 565,hU #[])::(nat_lit 567,hU #[hS "_law_numbers" 960,hS "_law_box_here" 961,hS "_law_found" 962,hS "_law_number_here" 963,hS "_law_bounds" 964])::(nat_lit 568,hU #[])::(nat_lit 570,hD "_law_top" 957 "_law_top" 958 959 321 2 3 565 566 .none (.ref 567) (.ref 568) (.ref 569) 965 321 966)::(nat_lit 571,hF "_law_top" "_law_top" (hT 81) .none .none "law_steadyhand_k87_whole_papers_of_falls_tur" 902 570)::(nat_lit 572,hU #[])::(nat_lit 574,hU #[hS "_law_numbers" 971,hS "_law_found" 972,hS "_law_number_here" 973])::(nat_lit 575,hU #[])::(nat_lit 577,hD "_law_both" 968 "_law_both" 969 970 326 1 3 572 573 .none (.ref 574) (.ref 575) (.ref 576) 974 326 975)::(nat_lit 578,hF "_law_both" "_law_both" (hT 82) .none .none "law_steadyhand_k87_whole_papers_of_falls_tur" 902 577)::(nat_lit 579,hU #[])::(nat_lit 582,hD "_law_drift" 977 "_law_drift" 978 979 331 1 3 579 580 .none .none .none (.ref 581) 980 331 981)::(nat_lit 583,hF "_law_drift" "_law_drift" (hT 83) .none .none "law_steadyhand_k87_whole_papers_of_falls_tur" 902 582)::(nat_lit 584,hU #[])::(nat_lit 587,hD "_law_drift_mode" 983 "_law_drift_mode" 984 985 348 5 3 584 585 .none .none .none (.ref 586) 986 348 987)::(nat_lit 588,hF "_law_drift_mode" "_law_drift_mode" (hT 84) .none .none "law_steadyhand_k87_whole_papers_of_falls_tur" 902 587)::(nat_lit 589,hU #[])::(nat_lit 592,hD "_law_pushed" 989 "_law_pushed" 990 991 364 3 3 589 590 .none .none .none (.ref 591) 992 364 993)::(nat_lit 593,hF "_law_pushed" "_law_pushed" (hT 85) .none .none "law_steadyhand_k87_whole_papers_of_falls_tur" 902 592)::(nat_lit 594,hU #[])::(nat_lit 597,hD "_law_falling" 995 "_law_falling" 996 997 367 5 3 594 595 .none .none .none (.ref 596) 998 367 999)::(nat_lit 598,hF "_law_falling" "_law_falling" (hT 86) .none .none "law_steadyhand_k87_whole_papers_of_falls_tur" 902 597)::(nat_lit 599,hU #[])::(nat_lit 602,hD "_law_fall_parts" 1001 "_law_fall_parts" 1002 1003 382 5 3 599 600 .none .none .none (.ref 601) 1004 382 1005)::(nat_lit 603,hF "_law_fall_parts" "_law_fall_parts" (hT 87) .none .none "law_steadyhand_k87_whole_papers_of_falls_tur" 902 602)::(nat_lit 604,hU #[])::(nat_lit 606,hU #[hS "_law_shares" 1010,hS "_law_cell" 1011,hS "_law_often" 1012,hS "_law_numbers" 1013,hS "_law_way" 1014,hS "_law_at" 1015,hS "_law_other_here" 1016])::(nat_lit 607,hU #[])::(nat_lit 609,hD "_law_other" 1007 "_law_other" 1008 1009 400 2 3 604 605 .none (.ref 606) (.ref 607) (.ref 608) 1017 400 1018)::(nat_lit 610,hF "_law_other" "_law_other" (hT 88) .none .none "law_steadyhand_k87_whole_papers_of_falls_tur" 902 609)::(nat_lit 611,hU #[])::(nat_lit 613,hU #[hS "_law_some" 1023,hS "_law_cell" 1024,hS "_law_at" 1025])::(nat_lit 614,hU #[])::(nat_lit 616,hD "_law_changed" 1020 "_law_changed" 1021 1022 408 2 3 611 612 .none (.ref 613) (.ref 614) (.ref 615) 1026 408 1027)::(nat_lit 617,hF "_law_changed" "_law_changed" (hT 89) .none .none "law_steadyhand_k87_whole_papers_of_falls_tur" 902 616)::(nat_lit 618,hU #[])::(nat_lit 621,hD "_law_turning" 1029 "_law_turning" 1030 1031 422 2 3 618 619 .none .none .none (.ref 620) 1032 422 1033)::(nat_lit 622,hF "_law_turning" "_law_turning" (hT 90) .none .none "law_steadyhand_k87_whole_papers_of_falls_tur" 902 621)::(nat_lit 623,hU #[])::(nat_lit 626,hD "_law_turned_row" 1035 "_law_turned_row" 1036 1037 439 2 3 623 624 .none .none .none (.ref 625) 1038 439 1039)::(nat_lit 627,hF "_law_turned_row" "_law_turned_row" (hT 91) .none .none "law_steadyhand_k87_whole_papers_of_falls_tur" 902 626)::(nat_lit 628,hU #[])::(nat_lit 631,hD "_law_turned_room" 1041 "_law_turned_room" 1042 1043 442 2 3 628 629 .none .none .none (.ref 630) 1044 442 1045)::(nat_lit 632,hF "_law_turned_room" "_law_turned_room" (hT 92) .none .none "law_steadyhand_k87_whole_papers_of_falls_tur" 902 631)::(nat_lit 633,hU #[])::(nat_lit 635,hU #[hS "_law_parts" 1050,hS "_law_cell" 1051,hS "_law_room" 1052,hS "_law_starts" 1053,hS "_law_steps" 1054,hS "_law_measure" 1055,hS "_law_step" 1056,hS "_law_top_here" 1057,hS "_law_falls" 1058,hS "_law_floors" 1059,hS "_law_tops" 1060,hS "_law_way" 1061,hS "_law_found" 1062])::(nat_lit 636,hU #[])::(nat_lit 638,hD "_law_spoilt" 1047 "_law_spoilt" 1048 1049 444 2 3 633 634 .none (.ref 635) (.ref 636) (.ref 637) 1063 444 1064)::(nat_lit 639,hF "_law_spoilt" "_law_spoilt" (hT 93) .none .none "law_steadyhand_k87_whole_papers_of_falls_tur" 902 638)::(nat_lit 640,hU #[])::(nat_lit 642,hU #[hS "_law_thing" 1069,hS "_law_claim" 1070,hS "_law_parts" 1071,hS "_law_room" 1072,hS "_law_starts" 1073,hS "_law_steps" 1074,hS "_law_measure" 1075,hS "_law_step" 1076,hS "_law_top_here" 1077,hS "_law_falls" 1078,hS "_law_floors" 1079,hS "_law_tops" 1080,hS "_law_paper" 1081])::(nat_lit 643,hU #[])::(nat_lit 645,hD "_law_let" 1066 "_law_let" 1067 1068 459 3 3 640 641 .none (.ref 642) (.ref 643) (.ref 644) 1082 459 1083)::(nat_lit 646,hF "_law_let" "_law_let" (hT 94) .none .none "law_steadyhand_k87_whole_papers_of_falls_tur" 902 645)::(nat_lit 647,hU #[])::(nat_lit 649,hU #[hS "_law_script" 1088,hS "_law_spec" 1089,hS "_law_goal" 1090,hS "_law_often" 1091,hS "_law_step" 1092,hS "_law_thing" 1093,hS "_law_told" 1094,hS "_law_parts" 1095,hS "_law_there" 1096,hS "_law_back" 1097,hS "_law_begin" 1098,hS "_law_one" 1099,hS "_law_claim" 1100,hS "_law_two" 1101])::(nat_lit 650,hU #[])::(nat_lit 652,hD "law" 1085 "law" 1086 1087 464 1 3 647 648 .none (.ref 649) (.ref 650) (.ref 651) 1102 464 1103)::(nat_lit 653,hF "law" "law" (hT 95) .none .none "law_steadyhand_k87_whole_papers_of_falls_tur" 902 652) :: []
noncomputable def ks:List Addr:=[2,3,15,17,18,20,21,22,29,30,31,32,35,42,43,44,47,54,55,56,59,66,67,68,71,78,79,80,83,85,86,88,89,90,93,94,95,98,99,100,101,104,105,106,107,110,111,112,115,116,117,120,121,122,125,126,127,130,131,132,135,136,137,140,141,142,144,145,147,148,149,152,153,161,163,164,166,167,168,169,170,171,172,182,184,185,187,188,189,191,192,194,195,196,198,199,201,202,203,206,207,208,210,211,213,214,215,216,217,218,219,222,225,226,227,229,230,232,233,234,236,237,239,240,241,244,245,246,248,249,251,252,253,255,256,258,259,260,263,264,265,268,269,270,273,274,275,278,279,287,288,289,290,291,294,301,302,304,305,307,308,309,310,311,314,321,323,324,326,327,328,329,330,333,336,337,338,340,341,343,344,345,347,348,350,351,352,354,355,357,358,359,362,363,364,367,368,376,377,378,379,380,383,390,392,393,395,396,397,398,399,402,409,411,412,414,415,416,417,418,421,423,424,426,427,428,430,431,433,434,435,438,439,440,442,443,445,446,447,449,450,452,453,454,456,457,459,460,461,464,465,466,469,470,471,474,475,476,479,480,481,484,485,486,488,489,491,492,493,495,496,498,499,500,503,504,505,507,508,510,511,512,515,516,517,520,521,522,525,526,527,529,530,532,533,534,536,537,539,540,541,543,544,546,547,548,551,552,553,555,556,558,559,560,563,564,565,567,568,570,571,572,574,575,577,578,579,582,583,584,587,588,589,592,593,594,597,598,599,602,603,604,606,607,609,610,611,613,614,616,617,618,621,622,623,626,627,628,631,632,633,635,636,638,639,640,642,643,645,646,647,649,650,652,653]
theorem ke:∀ P:Params,ks=(KK P).map (·.1):=λ_=>by
 kernel_rfl
noncomputable def vw:Program:={ PySem.Challenge.pw_steadyhand_k87_whole_papers_of_falls_tur with main:={ PySem.Challenge.pw_steadyhand_k87_whole_papers_of_falls_tur.main with body:=[hT 0,hT 2,hT 3,hT 4,hT 5,hT 6,hT 8,hT 10,hT 11,hT 14,hT 15,hT 16,hT 17,hT 19,hT 20,hT 21,hT 22,hT 24,hT 25,hT 26,hT 27,hT 28,hT 29,hT 30,hT 31,hT 32,hT 33,hT 35,hT 36,hT 37,hT 38,hT 39,hT 41,hT 42,hT 43,hT 45,hT 46,hT 48,hT 49,hT 50,hT 51,hT 53,hT 54,hT 55,hT 56,hT 57,hT 58,hT 59,hT 60,hT 61,hT 62,hT 63,hT 64,hT 65,hT 66,hT 67,hT 68,hT 69,hT 70,hT 71,hT 72,hT 73,hT 75,hT 76,hT 77,hT 78,hT 79,hT 80,hT 81,hT 82,hT 83,hT 84,hT 85,hT 86,hT 87,hT 88,hT 89,hT 90,hT 91,hT 92,hT 93,hT 94,hT 95] } }
noncomputable def lo:List Str:=[Str.ofString "copied",Str.ofString "unit",Str.ofString "Settles"]
abbrev rr:RowW:=(OpenLaw.row PySem.Challenge.rw_steadyhand_k87_whole_papers_of_falls_tur).toRowW
noncomputable abbrev xt:Shared->Bool:=λs=>xlAt vw [] s && recOk rr.records s
noncomputable def bt:Params->BT:=λP=>(.node (boot_o_0 P) (.node (boot_o_1 P) (.node (boot_o_3 P) (.node (boot_o_7 P) .nil .nil) .nil) (.node (boot_o_5 P) (.node (boot_o_9 P) .nil .nil) .nil)) (.node (boot_o_2 P) (.node (boot_o_4 P) (.node (boot_o_8 P) .nil .nil) .nil) (.node (boot_o_6 P) (.node (boot_o_10 P) .nil .nil) .nil)))
noncomputable def lhs (T:Params->BT) (h:Params->Heap) (d:Drawn) (k:Nat) (w:World) (os:OsState):=(TT.runT treeTable PySem.Challenge.pw_steadyhand_k87_whole_papers_of_falls_tur w 11 (some (.ref 6)) 10352 ⟨T w.params,11,(h w.params).life,Array.mk [],d,k,os⟩ (topStub PySem.Challenge.pw_steadyhand_k87_whole_papers_of_falls_tur)).map (λs=>((staticsOk (importedModules PySem.Challenge.pw_steadyhand_k87_whole_papers_of_falls_tur.main.body) (h w.params) s.abs.heap && namesBound PySem.Challenge.pw_steadyhand_k87_whole_papers_of_falls_tur s.abs.heap && gensDone s.abs && laidKept (h w.params) s.abs.heap),openSeen vw lo (importedModules PySem.Challenge.pw_steadyhand_k87_whole_papers_of_falls_tur.main.body) xt true s.abs))
noncomputable def lhs2 (T:Params->BT) (h:Params->Heap) (d:Drawn) (k:Nat) (w:World) (os:OsState):=(TT.runT treeTable PySem.Challenge.pw_steadyhand_k87_whole_papers_of_falls_tur w 11 (some (.ref 6)) 10352 ⟨T w.params,11,(h w.params).life,Array.mk [],d,k,os⟩ (topStub PySem.Challenge.pw_steadyhand_k87_whole_papers_of_falls_tur)).map (λs=>ks.map s.abs.heap.get?)
noncomputable def rhs (_:Params->Frag) (w:World) (_:OsState):=some (true,openGood vw lo)
noncomputable def rhs2 (F:Params->Frag) (w:World) (_:OsState):=some ((F w.params).map λp=>some p.2)
lay_quick lhs rhs
lay_quick lhs2 rhs2
theorem same (w:World) (os:OsState):PySem.W.Fast.tw18203119049234440067 bt boot_heap boot_drawn boot_toks w os=PySem.W.Fast.tw15599386201882517832 KK w os:=by
 kernel_rfl
theorem gh (w:World) (os:OsState):PySem.W.Fast.tw10056964064726819915 bt boot_heap boot_drawn boot_toks w os=PySem.W.Fast.tw12358105360984095918 KK w os:=by
 kernel_rfl
theorem two {α β γ δ:Type} {o:Option α} {f:α->β × γ} {g:α->δ} {b:β} {c:γ} {d:δ} (h1:o.map f=some (b,c)) (h2:o.map g=some d):o.map (λs=>((f s).1,(f s).2,g s))=some (b,c,d):=by
 cases o with
 | none=>cases h1
 | some a=>
  injection h1 with h1
  injection h2 with h2
  show some ((f a).1,(f a).2,g a)=_
  rw [h1,h2]
theorem left:LeftO rr.prog vw lo xt (kHook KK ks ke).obs (kHook KK ks ke).val 10352:=
 TT.left_is (boot_open (by kernel_rfl) (by decide) (λ_=>by kernel_rfl)) (λ_=>by kernel_rfl) (λ_=>by kernel_rfl) (λ_=>by kernel_rfl) (λ_=>by kernel_rfl)
  λw os=>two ((congrArg (λf=>f bt boot_heap boot_drawn boot_toks w os) PySem.W.Fast.te18203119049234440067).trans ((same w os).trans (congrFun (congrFun (congrFun PySem.W.Fast.te15599386201882517832 KK) w) os).symm)) ((congrArg (λf=>f bt boot_heap boot_drawn boot_toks w os) PySem.W.Fast.te10056964064726819915).trans ((gh w os).trans (congrFun (congrFun (congrFun PySem.W.Fast.te12358105360984095918 KK) w) os).symm))
end H87
namespace L2
open PySem PySem.Spec PyProof.Rows
abbrev wE:=Sum Int Str
def QP:wE->Value->Bool
 | .inl k,v=>Value.isInt k v
 | .inr x,v=>Value.isStrOf x v
def WW (w:World):wE->Int
 | .inl k=>hashInt k
 | .inr x=>hashStr w x
theorem uo:∀ {k:wE} {v:Value},QP k v=true->(∃ i t,k=Sum.inl i/\v=Value.int i t)\/(∃ x t,k=Sum.inr x/\v=Value.str x t)
 | .inl i,v,h=>by
  obtain ⟨t,e⟩:=Value.isInt_shape (k:=i) (v:=v) h
  exact .inl ⟨i,t,rfl,e⟩
 | .inr x,v,h=>by
  obtain ⟨t,e⟩:=Value.isStrOf_shape (x:=x) (v:=v) h
  exact .inr ⟨x,t,rfl,e⟩
theorem zQt (a b:Int):decide ((Sum.inl a:wE)=Sum.inl b)=(a == b):=by
 by_cases e:a=b
 ·subst e; simp
 ·have h:¬ (Sum.inl a:wE)=Sum.inl b:=λq=>e (Sum.inl.inj q)
  rw [decide_eq_false h]
  exact (beq_eq_false_iff_ne.mpr e).symm
theorem zQq (a b:Str):decide ((Sum.inr a:wE)=Sum.inr b)=decide (a=b):=by
 by_cases e:a=b
 ·subst e; simp
 ·have h:¬ (Sum.inr a:wE)=Sum.inr b:=λq=>e (Sum.inr.inj q)
  rw [decide_eq_false h,decide_eq_false e]
theorem zQs (a:Int) (b:Str):decide ((Sum.inl a:wE)=Sum.inr b)=false:=decide_eq_false (λq=>nomatch q)
theorem zQr (a:Str) (b:Int):decide ((Sum.inr a:wE)=Sum.inl b)=false:=decide_eq_false (λq=>nomatch q)
def QQ (prog:Program) (w:World):PySem.KeyKind prog w wE where
 is:=QP
 hash:=WW w
 inj:=λv a b ha hb=>by
  rcases uo ha with ⟨i,t,rfl,rfl⟩ | ⟨x,t,rfl,rfl⟩
  ·rcases uo hb with ⟨j,u,rfl,e⟩ | ⟨y,u,rfl,e⟩
   ·injection e with e1 _; rw [e1]
   ·exact nomatch e
  ·rcases uo hb with ⟨j,u,rfl,e⟩ | ⟨y,u,rfl,e⟩
   ·exact nomatch e
   ·injection e with e1 _; rw [e1]
 byValue:=λk v h=>by
  rcases uo h with ⟨i,t,rfl,rfl⟩ | ⟨x,t,rfl,rfl⟩ <;> rfl
 pyHash:=λhv h=>by
  rcases uo hv with ⟨i,t,rfl,rfl⟩ | ⟨x,t,rfl,rfl⟩
  ·exact wpAny_pyHash_int h
  ·exact wpAny_pyHash_str h
 eqBool:=λhu hv h=>by
  rcases uo hu with ⟨i,t,rfl,rfl⟩ | ⟨x,t,rfl,rfl⟩
  ·rcases uo hv with ⟨j,u,rfl,rfl⟩ | ⟨y,u,rfl,rfl⟩
   ·rw [zQt] at h; exact wpAny_eqBool_int h
   ·rw [zQs] at h; exact SeqAt.EqAt.int_str i t y u _ _ _ _ h
  ·rcases uo hv with ⟨j,u,rfl,rfl⟩ | ⟨y,u,rfl,rfl⟩
   ·rw [zQr] at h; exact SeqAt.EqAt.str_int x t j u _ _ _ _ h
   ·rw [zQq] at h; exact wpAny_eqBool_str h
 «strs»:=λk x t v h=>by
  rcases uo h with ⟨i,u,rfl,e⟩ | ⟨y,u,rfl,e⟩
  ·exact nomatch e
  ·injection e with e1 _
   subst e1
   cases v <;> rfl
end L2
namespace L2
open PySem PySem.Spec PyProof.Rows
inductive V where
 | non | bl (b:Bool) | int (i:Int) | str (x:Str) | byt (b:Array UInt8) | flt (b:UInt64) | ref (a:Addr) | ty (n:String)
 deriving DecidableEq
def zW:V->Value->Prop
 | .non,u=>u=Value.none
 | .bl b,u=>u=Value.bool b
 | .int i,u=>∃ t,u=Value.int i t
 | .str x,u=>∃ t,u=Value.str x t
 | .byt b,u=>∃ t,u=Value.bytes b t
 | .flt b,u=>∃ t,u=Value.float b t
 | .ref a,u=>u=Value.ref a
 | .ty n,u=>u=Value.type n
abbrev zM:List V->List Value->Prop:=Paired zW
theorem zM.length {xs:List V} {us:List Value} (r:zM xs us):xs.length=us.length:=Paired.length r
theorem zM.get:∀ {xs:List V} {us:List Value} {i:Nat} {x:V},zM xs us->xs[i]? = some x->∃ u,us[i]? = some u/\zW x u
 | _,_,_,_,.nil,e=>by simp at e
 | _,_,0,_,.cons r _,e=>by simp at e; subst e; exact ⟨_,rfl,r⟩
 | _,_,i + 1,x,.cons _ t,e=>by
  obtain ⟨u,h1,h2⟩:=zM.get (i:=i) (x:=x) t (by simpa using e)
  exact ⟨u,by simpa using h1,h2⟩
theorem zM.set {x:V} {u:Value} (r:zW x u):∀ {xs:List V} {us:List Value} (i:Nat),zM xs us->zM (xs.set i x) (us.set i u)
 | _,_,_,.nil=>.nil
 | _,_,0,.cons _ t=>.cons r t
 | _,_,i + 1,.cons q t=>.cons q (zM.set r i t)
theorem zM.append:∀ {xs ys:List V} {us ws:List Value},zM xs us->zM ys ws->zM (xs++ys) (us++ws)
 | _,_,_,_,.nil,s=>s
 | _,_,_,_,.cons r t,s=>.cons r (zM.append t s)
theorem zM.take:∀ {xs:List V} {us:List Value} (n:Nat),zM xs us->zM (xs.take n) (us.take n)
 | _,_,0,_=>.nil
 | _,_,_ + 1,.nil=>.nil
 | _,_,n + 1,.cons r t=>.cons r (zM.take n t)
theorem zM.drop:∀ {xs:List V} {us:List Value} (n:Nat),zM xs us->zM (xs.drop n) (us.drop n)
 | _,_,0,r=>r
 | _,_,_ + 1,.nil=>.nil
 | _,_,n + 1,.cons _ t=>zM.drop n t
def xq:Option V->Option Value->Prop
 | some v,some u=>zW v u
 | none,none=>True
 | _,_=>False
def KV {κ:Type}:List (κ × V)->List (κ × Value)->Prop:=Paired λ(p:κ × V) (q:κ × Value)=>p.1=q.1/\zW p.2 q.2
def kV:wE->V
 | .inl i=>.int i
 | .inr x=>.str x
inductive HO where
 | lst (xs:List V)
 | tup (xs:List V)
 | dK (kvs:List (wE × V)) | dT (kvs:List (List wE × V))
 | set (S:Int->Bool) (n:Nat)
 | ins (C dx:Addr) (fs:List (Str × V))
 | own (x:Addr)
 | xd (fs:List (Str × V))
 | met (f x:Addr)
 | rng (lo hi:Int)
 | frz (o:Obj) (u:HO)
 | tbl (ps:Array Value)
 | ext (φ:Heap->Prop)
abbrev Hp:=Addr->Option HO
def zU (H:Hp) (a:Addr) (o:HO):Hp:=λb=>if b=a then some o else H b
theorem xM {H:Hp} {a:Addr} {o:HO}:zU H a o a=some o:=by unfold zU; rw [if_pos rfl]
theorem zr {H:Hp} {a b:Addr} {o:HO} (h:b≠a):zU H a o b=H b:=by unfold zU; rw [if_neg h]
theorem wb {H:Hp} {a b:Addr} {o:HO} (h:H a=some o) (h':H b=none):a≠b:=by
 intro e; subst e; rw [h] at h'; cases h'
section
variable (P:Program) (w:World)
def wG (H:Hp) (h:Heap) (a:Addr):HO->Prop
 | .lst xs=>xs.length<=sizeLine/\∃ (its:List Value) (n:Nat),zM xs its/\h.get? a=some { cls:=.type "list",data:=.seq its.toArray n }
 | .tup xs=>xs.length<=sizeLine/\∃ its:List Value,zM xs its/\IsTup h a its.toArray
 | .dK kvs=>kvs.length<=sizeLine/\(a == sysModules)=false/\∃ vs,KV kvs vs/\h.DictOf (QQ P w) a vs
 | .dT kvs=>kvs.length<=sizeLine/\(a == sysModules)=false/\∃ xs:List (List wE × Addr × Value),
   Paired (λ(p:List wE × V) (q:List wE × Addr × Value)=>p.1=q.1/\H q.2.1=some (.tup (p.1.map kV))/\zW p.2 q.2.2) kvs xs∧
   ∃ o es ep,h.get? a=some o/\o.ExactDict/\o.data=.dict es ep/\es.toList=xs.map (entryOfKey (tupleKind (QQ P w)))/\(xs.map (·.1)).Nodup
 | .set S n=>h.SetOf (intKind P w) a S n
 | .ins C dx fs=>H dx=some (.own a)/\fs.length<=1000/\dx≠a/\h.get? a=some (PySem.W.instObj C dx)∧
   ∃ mA,h.Ns1 dx mA/\(∀ f,xq (fs.lookup f) (mA f))/\PySem.Within mA (fs.map (·.1))
 | .own _=>∃ o,h.get? a=some o
 | .xd fs=>∃ mA,h.Ns1 a mA/\∀ f,xq (fs.lookup f) (mA f)
 | .rng lo hi=>∃ t u v,h.get? a=some { cls:=.type "range",data:=.fields #[.int lo t,.int hi u,.int 1 v] }
 | .frz o u=>h.get? a=some o/\wG H h a u
 | .tbl ps=>h.get? a=some { cls:=.none,data:=.fields ps }
 | .met f x=>h.get? a=some (PySem.W.methodObj (.ref f) (.ref x))
 | .ext φ=>φ h/\(∃ o,h.get? a=some o)/\∀ h1 h2:Heap,φ h1->(∀ o,h1.get? a=some o->h2.get? a=some o)->φ h2
def xN (H:Hp) (h:Heap):Prop:=∀ a o,H a=some o->wG P w H h a o
end
section
variable {P:Program} {w:World} {H H':Hp} {h h':Heap} {a:Addr} {o:HO}
theorem wG.lt (x:wG P w H h a o):a < h.objs.size:=by
 cases o with
 | lst xs=>obtain ⟨_,_,_,_,e⟩:=x; exact Heap.lt_size e
 | tup xs=>obtain ⟨_,_,_,p⟩:=x; exact p.lt
 | dK kvs=>obtain ⟨_,_,_,_,o,_,_,e,_⟩:=x; exact Heap.lt_size e
 | dT kvs=>obtain ⟨_,_,_,_,o,_,_,e,_⟩:=x; exact Heap.lt_size e
 | set S n=>obtain ⟨o,_,_,_,e,_⟩:=x; exact Heap.lt_size e
 | ins C dx fs=>obtain ⟨_,_,_,e,_⟩:=x; exact Heap.lt_size e
 | own y=>obtain ⟨_,e⟩:=x; exact Heap.lt_size e
 | xd fs=>obtain ⟨_,⟨_,_,_,e,_⟩,_⟩:=x; exact Heap.lt_size e
 | rng lo hi=>obtain ⟨_,_,_,e⟩:=x; exact Heap.lt_size e
 | frz ob u=>obtain ⟨e,_⟩:=x; exact Heap.lt_size e
 | tbl ps=>exact Heap.lt_size (show h.get? a=some _ from x)
 | met f y=>exact Heap.lt_size (show h.get? a=some _ from x)
 | ext φ=>obtain ⟨_,⟨_,e⟩,_⟩:=x; exact Heap.lt_size e
theorem Paired.mapP {α β:Type} {F G:α->β->Prop}:∀ {l₁:List α} {l₂:List β},Paired F l₁ l₂->(∀ a b,F a b->G a b)->Paired G l₁ l₂
 | _,_,.nil,_=>.nil
 | _,_,.cons r t,f=>.cons (f _ _ r) (Paired.mapP t f)
theorem wG.stay (x:wG P w H h a o) (k:∀ b u,(b=a\/H b=some (.own a))->h.get? b=some u->h'.get? b=some u)
  (ho:∀ b,H b=some (.own a)->H' b=some (.own a)) (ht:∀ b xs,H b=some (.tup xs)->H' b=some (.tup xs)):wG P w H' h' a o:=by
 induction o with
 | lst xs=>obtain ⟨z,its,n,r,e⟩:=x; exact ⟨z,its,n,r,k _ _ (.inl rfl) e⟩
 | tup xs=>obtain ⟨z,its,r,ob,e,c⟩:=x; exact ⟨z,its,r,ob,k _ _ (.inl rfl) e,c⟩
 | dK kvs=>obtain ⟨z,y,vs,r,ob,es,ep,e,c⟩:=x; exact ⟨z,y,vs,r,ob,es,ep,k _ _ (.inl rfl) e,c⟩
 | dT kvs=>
  obtain ⟨z,y,xs,r,ob,es,ep,e,c⟩:=x
  exact ⟨z,y,xs,Paired.mapP r λp q z=>⟨z.1,ht _ _ z.2.1,z.2.2⟩,ob,es,ep,k _ _ (.inl rfl) e,c⟩
 | set S n=>obtain ⟨ob,es,ep,t,e,c⟩:=x; exact ⟨ob,es,ep,t,k _ _ (.inl rfl) e,c⟩
 | ins C dx fs=>
  obtain ⟨d,z,ne,e,mA,⟨od,es,ep,e2,c⟩,r⟩:=x
  exact ⟨ho _ d,z,ne,k _ _ (.inl rfl) e,mA,⟨od,es,ep,k _ _ (.inr d) e2,c⟩,r⟩
 | own y=>obtain ⟨ob,e⟩:=x; exact ⟨ob,k _ _ (.inl rfl) e⟩
 | xd fs=>obtain ⟨mA,⟨od,es,ep,e,c⟩,r⟩:=x; exact ⟨mA,⟨od,es,ep,k _ _ (.inl rfl) e,c⟩,r⟩
 | rng lo hi=>obtain ⟨t,u,v,e⟩:=x; exact ⟨t,u,v,k _ _ (.inl rfl) e⟩
 | frz ob u ih=>obtain ⟨e,q⟩:=x; exact ⟨k _ _ (.inl rfl) e,ih q⟩
 | tbl ps=>
  have e:h.get? a=some { cls:=.none,data:=.fields ps }:=x
  show h'.get? a=some { cls:=.none,data:=.fields ps }
  exact k a _ (.inl rfl) e
 | met f y=>
  have e:h.get? a=some (PySem.W.methodObj (.ref f) (.ref y)):=x
  show h'.get? a=some (PySem.W.methodObj (.ref f) (.ref y))
  exact k a _ (.inl rfl) e
 | ext φ=>obtain ⟨p,⟨o,e⟩,st⟩:=x; exact ⟨st _ _ p λo q=>k _ _ (.inl rfl) q,⟨o,k _ _ (.inl rfl) e⟩,st⟩
theorem xN.lt (x:xN P w H h) (e:H a=some o):a < h.objs.size:=(x a o e).lt
theorem xN.fresh (x:xN P w H h) (e:h.objs.size<=a):H a=none:=by
 cases q:H a with
 | none=>rfl
 | some u=>exact absurd (Nat.lt_of_lt_of_le (x.lt q) e) (Nat.lt_irrefl _)
theorem xN.kept (x:xN P w H h) (k:∀ b u,h.get? b=some u->h'.get? b=some u):xN P w H h':=λa o e=>
 (x a o e).stay (λb u _ q=>k b u q) (λ_ q=>q) λ_ _ q=>q
theorem xN.laid (x:xN P w H h) (k:∀ b u,h.get? b=some u->h'.get? b=some u) (hp:h.objs.size<=a) (new:wG P w (zU H a o) h' a o):xN P w (zU H a o) h':=λb u e=>by
 have hn:=x.fresh hp
 by_cases hb:b=a
 ·subst hb; rw [xM] at e; cases e; exact new
 ·rw [zr hb] at e
  exact (x b u e).stay (λc v _ q=>k c v q) (λc q=>by rw [zr (wb q hn)]; exact q) λc xs q=>by rw [zr (wb q hn)]; exact q
end
def Rd (H:Hp) (a:Addr) (u:HO):Prop:=H a=some u\/∃ o,H a=some (.frz o u)
theorem Rd.ok {P:Program} {w:World} {H:Hp} {h:Heap} {a:Addr} {u:HO} (r:Rd H a u) (x:xN P w H h):wG P w H h a u:=by
 rcases r with r | ⟨o,r⟩
 ·exact x a u r
 ·obtain ⟨_,q⟩:=x a _ r
  exact q
def Yb:Option HO->Prop
 | some (.lst _)=>True
 | some (.dK _)=>True
 | some (.dT _)=>True
 | some (.set _ _)=>True
 | some (.ins _ _ _)=>True
 | some (.ext _)=>True
 | _=>False
section
variable {P:Program} {w:World} {H:Hp} {h h':Heap} {x e:Addr} {o':HO}
theorem xN.write (ok:xN P w H h) (mu:Yb (H x)) (he:e=x\/H e=some (.own x)) (k:∀ b u,b≠e->h.get? b=some u->h'.get? b=some u) (heo:∃ u,h'.get? e=some u)
  (new:wG P w (zU H x o') h' x o'):xN P w (zU H x o') h':=λb u q=>by
 have nown:∀ c y,H c=some (.own y)->c≠x:=λc y r z=>by subst z; rw [r] at mu; exact mu
 have ntup:∀ c xs,H c=some (.tup xs)->c≠x:=λc xs r z=>by subst z; rw [r] at mu; exact mu
 by_cases hb:b=x
 ·subst hb; rw [xM] at q; cases q; exact new
 ·rw [zr hb] at q
  by_cases hbe:b=e
  ·have q':H b=some (.own x):=by
    rcases he with z | z
    ·exact absurd (hbe.trans z) hb
    ·rw [hbe]; exact z
   rw [q] at q'; cases q'
   obtain ⟨v,hv⟩:=heo
   exact ⟨v,by rw [hbe]; exact hv⟩
  ·refine (ok b u q).stay (λc v hc r=>k c v ?_ r) (λc r=>by rw [zr (nown c b r)]; exact r) λc xs r=>by rw [zr (ntup c xs r)]; exact r
   rcases hc with rfl | hc
   ·exact hbe
   ·rintro rfl
    rcases he with z | z
    ·exact nown c b hc z
    ·rw [hc] at z; cases z; exact hb rfl
end
structure Un (fs ex:List Addr) (H H':Hp) (h h':Heap):Prop where
 keep:∀ b o,h.get? b=some o->H b=none->b∉fs->b∉ex->h'.get? b=some o
 slot:∀ b o,h.get? b=some o->H b=none->b∈fs->b∉ex->∃ sl,h'.get? b=some { o with slots:=sl }
 free:∀ b o,h.get? b=some o->H b=none->b∉ex->H' b=none
 there:∀ b o,h.get? b=some o->b∉ex->∃ o',h'.get? b=some o'
 tups:∀ b xs,H b=some (.tup xs)->H' b=some (.tup xs)
 frzs:∀ b o u,H b=some (.frz o u)->H' b=some (.frz o u)
 tbls:∀ b ps,H b=some (.tbl ps)->∃ more,H' b=some (.tbl (ps++more))
section
variable {fs fs' ex ex':List Addr} {H H1 H2:Hp} {h h1 h2 h':Heap} {a x e:Addr} {o:HO}
theorem Un.any (u:Un fs ex H H1 h h1) {b:Addr} {ob:Obj} (q:h.get? b=some ob) (n:H b=none) (hx:b∉ex):∃ sl,h1.get? b=some { ob with slots:=sl }:=by
 by_cases hb:b∈fs
 ·exact u.slot b ob q n hb hx
 ·exact ⟨ob.slots,u.keep b ob q n hb hx⟩
theorem Un.kept (k:∀ b u,h.get? b=some u->h'.get? b=some u):Un fs ex H H h h':=
 ⟨λb ob q _ _ _=>k b ob q,λb ob q _ _ _=>⟨ob.slots,k b ob q⟩,λ_ _ _ n _=>n,λb ob q _=>⟨ob,k b ob q⟩,λ_ _ q=>q,λ_ _ _ q=>q,λ_ ps q=>⟨#[],by rw [q]; simp⟩⟩
theorem Un.refl:Un fs ex H H h h:=Un.kept λ_ _ q=>q
theorem Un.laid (k:∀ b u,h.get? b=some u->h'.get? b=some u) (hp:h.objs.size<=a) (hn:H a=none):Un fs ex H (zU H a o) h h' where
 keep:=λb u q _ _ _=>k b u q
 slot:=λb u q _ _ _=>⟨u.slots,k b u q⟩
 free:=λb u q n _=>by rw [zr (Nat.ne_of_lt (Nat.lt_of_lt_of_le (Heap.lt_size q) hp))]; exact n
 there:=λb u q _=>⟨u,k b u q⟩
 tups:=λb xs q=>by rw [zr (wb q hn)]; exact q
 frzs:=λb u xs q=>by rw [zr (wb q hn)]; exact q
 tbls:=λb ps q=>⟨#[],by rw [zr (wb q hn),q]; simp⟩
theorem Un.write (mu:Yb (H x)) (he:e=x\/H e=some (.own x)) (k:∀ b u,b≠e->h.get? b=some u->h'.get? b=some u) (heo:∃ u,h'.get? e=some u):Un fs ex H (zU H x o) h h':=by
 have hx:∀ b,H b=none->b≠x:=λb n z=>by subst z; rw [n] at mu; exact mu
 have hb:∀ b,H b=none->b≠e:=λb n z=>by
  subst z
  rcases he with r | r
  ·exact hx b n r
  ·rw [n] at r; cases r
 have hm:∀ b u,H b=some u->¬ Yb (some u)->b≠x:=λb u q nm z=>by subst z; rw [q] at mu; exact nm mu
 refine ⟨λb u q n _ _=>k b u (hb b n) q,λb u q n _ _=>⟨u.slots,k b u (hb b n) q⟩,λb u q n _=>by rw [zr (hx b n)]; exact n,λb u q _=>?_,
  λb xs q=>by rw [zr (hm b _ q λz=>z)]; exact q,λb u xs q=>by rw [zr (hm b _ q λz=>z)]; exact q,λb ps q=>⟨#[],by rw [zr (hm b _ q λz=>z),q]; simp⟩⟩
 by_cases hbe:b=e
 ·subst hbe; exact heo
 ·exact ⟨u,k b u hbe q⟩
end
def uY (h:Heap) (H:Hp):List Addr:=(List.range h.objs.size).filter λa=>(H a).isSome
def wK (h:Heap) (H:Hp):Heap:=PySem.W.hideAll h (uY h H)
theorem zMJ (h:Heap) (H:Hp):(wK h H).objs.size=h.objs.size:=PySem.W.hideAll_size _ _
theorem zOE {h:Heap} {H:Hp} {b:Addr} {o:Obj} (e:h.get? b=some o) (n:H b=none):(wK h H).get? b=some o:=
 PySem.W.hideAll_get _ e λhm=>by
  have q:(H b).isSome=true:=(List.mem_filter.mp hm).2
  rw [n] at q; simp at q
theorem zPU {h:Heap} {H:Hp} {b:Addr} {o:Obj} (e:(wK h H).get? b=some o):h.get? b=some o/\H b=none:=by
 have e':h.get? b=some o:=PySem.W.of_hideAll (uY h H) e
 refine ⟨e',?_⟩
 cases q:H b with
 | none=>rfl
 | some x=>
  have hm:b∈uY h H:=List.mem_filter.mpr ⟨List.mem_range.mpr (Heap.lt_size e'),by simp [q]⟩
  have z:(wK h H).get? b=none:=PySem.W.hideAll_none (uY h H) hm
  rw [z] at e; cases e
def zPv (g h:Heap) (L:Addr):List (Addr × Obj):=(List.range h.objs.size).filterMap λa=>if a=L\/(g.get? a).isSome=true then none else (h.get? a).map λo=>(a,o)
def ya (g h:Heap) (L d:Addr):List (Addr × Obj):=(zPv g h L).filter λp=>decide (p.1≠d)
end L2
namespace L2
open PySem PySem.Spec PyProof.Rows
structure Mod (K:PySem.W.Frag) (mg:Str->Option Value) (base:Heap):Prop where
 kin:K.In base
 glob:base.Ns mainGlobals mg
 blt:∃ mb,base.Ns builtinsNs mb/\∀ x:Str,x≠"__name__"->mb x=bootBuiltins x
 nolimit:base.NoLimit
structure Cx where
 prog:Program
 w:World
 K:PySem.W.Frag
 mg:Str->Option Value
 base:Heap
 A:Around
 N:List Str
 s₀:Shared
 H₀:Hp
 env:Env
 outer:List Env
 stack:List Env
 ex:List Addr
 fn:Str->Bool
 calm:Bool
 pn:List (Addr × Obj)
 xe:Value->Shared->Prop
def wq (l:List Env):List Addr:=l.filterMap (·.frame)
abbrev Cx.fs (X:Cx):List Addr:=wq X.outer
def jD (sc:Scope) (x:Str):Prop:=sc.names.lookup x=some .local\/sc.names.lookup x=some .cell\/sc.names.lookup x=some .free
def jE (sc:Scope) (x:Str):Prop:=sc.names.lookup x=some .local\/sc.names.lookup x=some .cell
def WX (env:Env) (h:Heap) (m:Str->Option Value) (x:Str) (u:Value):Prop:=
 (env.kindOf x=some .local/\m x=some u)\/((env.kindOf x=some .cell\/env.kindOf x=some .free)/\∃ c,env.cells.lookup x=some c/\h.IsCell c (some u))
structure Cx.Ok (X:Cx):Prop where
 mod:Mod X.K X.mg X.base
 kind:X.env.scope.kind=.function
 glob:X.env.globals=mainGlobals
 blt:X.env.builtins=builtinsNs
 above:X.s₀.heap.objs.size<=X.env.locals
 inj:∀ x y c,X.env.cells.lookup x=some c->X.env.cells.lookup y=some c->x=y
 has:∀ x,(X.env.kindOf x=some .cell\/X.env.kindOf x=some .free)->∃ c,X.env.cells.lookup x=some c
 cab:∀ x c,X.fn x=true->X.env.cells.lookup x=some c->X.s₀.heap.objs.size<=c
 hd:X.calm=true->X.A.handled=none
 frames:X.A.frames=some X.stack
 stk:X.stack=X.outer\/(X.stack=X.env :: X.outer/\X.env.frame=some X.env.locals)
 exf:∀ b∈X.ex,b≠X.env.locals/\∀ x c,X.env.cells.lookup x=some c->c≠b
 bs:∀ b o,X.base.get? b=some o->X.s₀.heap.get? b=some o/\X.H₀ b=none
 bsz:X.base.objs.size<=X.s₀.heap.objs.size
 noex:∀ b o,X.base.get? b=some o->b∉X.ex
 exfs:∀ b∈X.ex,b∉X.fs
 funs:X.s₀.heap.FunFrames X.base X.outer
 frf:∀ b∈X.fs,X.H₀ b=none
structure zG (X:Cx) (pins:List (Addr × Obj)) (σ:List (Option V)) (H:Hp) (s:Shared):Prop where
 ok:X.Ok
 os:s.os=X.s₀.os
 bare:AllBare s.gens
 base:Un X.fs X.ex X.H₀ H X.s₀.heap s.heap
 loc:∃ m,s.heap.Ns X.env.locals m/\∀ (i:Nat) (x:Str) (v:V),X.N[i]? = some x->σ[i]? = some (some v)->jD X.env.scope x->∃ u,zW v u/\WX X.env s.heap m x u
 cell:∀ x c,X.env.cells.lookup x=some c->∃ v,s.heap.IsCell c v
 free:H X.env.locals=none
 freeC:∀ x c,X.env.cells.lookup x=some c->H c=none
 pin:∀ p∈X.pn++pins,s.heap.get? p.1=some p.2/\H p.1=none/\p.1≠X.env.locals/\p.1∉X.fs/\∀ v,p.2.data≠.cell v
 hok:xN X.prog X.w H s.heap
 len:σ.length=X.N.length
section
variable {X:Cx} {pins:List (Addr × Obj)} {σ:List (Option V)} {H H':Hp} {s:Shared} {h':Heap}
theorem Cx.Ok.nofr (ok:X.Ok) {b:Addr} {o:Obj} (e:X.base.get? b=some o):b∉X.fs:=λhb=>by
 have:=(ok.funs.mem hb).1
 rw [e] at this; cases this
theorem zG.bs (I:zG X pins σ H s):∀ b o,X.base.get? b=some o->s.heap.get? b=some o/\H b=none:=λb o e=>
 ⟨I.base.keep b o (I.ok.bs b o e).1 (I.ok.bs b o e).2 (I.ok.nofr e) (I.ok.noex b o e),I.base.free b o (I.ok.bs b o e).1 (I.ok.bs b o e).2 (I.ok.noex b o e)⟩
theorem zG.bk (I:zG X pins σ H s):∀ b o,X.base.get? b=some o->s.heap.get? b=some o:=λb o e=>(I.bs b o e).1
theorem zG.mod (I:zG X pins σ H s):Mod X.K X.mg X.base:=I.ok.mod
theorem zG.kIn (I:zG X pins σ H s):X.K.In s.heap:=I.ok.mod.kin.keeps I.bk
theorem zG.lt (I:zG X pins σ H s):X.env.locals < s.heap.objs.size:=let ⟨_,hn,_⟩:=I.loc; hn.lt
theorem zG.sz (I:zG X pins σ H s):X.s₀.heap.objs.size<=s.heap.objs.size:=Nat.le_trans I.ok.above (Nat.le_of_lt I.lt)
theorem zG.nofs (I:zG X pins σ H s) {a:Addr} (h:s.heap.objs.size<=a):a∉X.fs:=λhb=>by
 obtain ⟨_,o,ho,_⟩:=I.ok.funs.mem hb
 exact absurd (Nat.lt_of_lt_of_le (Heap.lt_size ho) (Nat.le_trans I.sz h)) (Nat.lt_irrefl _)
theorem zG.cne (I:zG X pins σ H s):∀ x c,X.env.cells.lookup x=some c->c≠X.env.locals:=λx c e z=>by
 obtain ⟨v,o,ho,hd⟩:=I.cell x c e
 obtain ⟨m,⟨o',es,ep,ho',hd',_⟩,_⟩:=I.loc
 rw [z,ho'] at ho; cases ho; rw [hd'] at hd; cases hd
theorem zG.funs (I:zG X pins σ H s):s.heap.FunFrames X.base X.outer:=by
 have all:∀ (l:List Env),(∀ b∈wq l,b∈X.fs)->X.s₀.heap.FunFrames X.base l->s.heap.FunFrames X.base l:=by
  intro l
  induction l with
  | nil=>intro _ _; trivial
  | cons env r ih=>
   intro hs hl
   obtain ⟨hk,⟨L,o,hf,hn,ho,hd⟩,hr⟩:=hl
   have hL:L∈X.fs:=hs L (by unfold wq; rw [List.filterMap_cons,hf]; exact List.mem_cons_self)
   obtain ⟨sl,e⟩:=I.base.slot L o ho (I.ok.frf L hL) hL λz=>I.ok.exfs L z hL
   exact ⟨hk,⟨L,_,hf,hn,e,hd⟩,ih (λb hb=>hs b (by unfold wq; rw [List.filterMap_cons,hf]; exact List.mem_cons_of_mem _ hb)) hr⟩
 exact all X.outer (λ_ hb=>hb) I.ok.funs
theorem zG.stack (I:zG X pins σ H s):s.heap.FunFrames X.base X.stack:=by
 rcases I.ok.stk with e | ⟨e,hf⟩
 ·rw [e]; exact I.funs
 ·rw [e]
  obtain ⟨m,hn,_⟩:=I.loc
  refine .cons (by rw [I.ok.kind]; decide) hf hn ?_ I.funs
  exact Heap.get?_none_of_le (Nat.le_trans I.ok.bsz I.ok.above)
theorem zG.stkSub (I:zG X pins σ H s):∀ b∈wq X.stack,b∈X.env.locals :: X.fs:=λb hb=>by
 rcases I.ok.stk with e | ⟨e,hf⟩
 ·rw [e] at hb; exact List.mem_cons_of_mem _ hb
 ·rw [e] at hb
  unfold wq at hb
  rw [List.filterMap_cons,hf] at hb
  exact hb
theorem zG.stkFree (I:zG X pins σ H s):∀ b∈wq X.stack,H b=none:=λb hb=>by
 rcases List.mem_cons.mp (I.stkSub b hb) with e | hb
 ·rw [e]; exact I.free
 ·obtain ⟨_,o,ho,_⟩:=I.ok.funs.mem hb
  exact I.base.free b o ho (I.ok.frf b hb) λz=>I.ok.exfs b z hb
theorem zG.step {g':Array GenState} {t':Nat} {d':Drawn} {ch:List Addr} (I:zG X pins σ H s)
  (hch:∀ b∈ch,(b∈X.ex\/X.s₀.heap.objs.size<=b)/\b≠X.env.locals/\(∀ x c,X.env.cells.lookup x=some c->c≠b)/\∀ p∈X.pn++pins,p.1≠b)
  (keep:∀ b o,b≠X.env.locals->b∉X.fs->b∉ch->s.heap.get? b=some o->H b=none->h'.get? b=some o)
  (slot:∀ b o,b≠X.env.locals->b∈X.fs->b∉ch->s.heap.get? b=some o->H b=none->∃ sl,h'.get? b=some { o with slots:=sl }) (free:∀ b o,b∉ch->s.heap.get? b=some o->H b=none->H' b=none)
  (there:∀ b o,b∉ch->s.heap.get? b=some o->∃ o',h'.get? b=some o')
  (tups:∀ b xs,H b=some (.tup xs)->H' b=some (.tup xs)) (frzs:∀ b o u,H b=some (.frz o u)->H' b=some (.frz o u)) (tbls:∀ b ps,H b=some (.tbl ps)->∃ more,H' b=some (.tbl (ps++more)))
  (ns:∀ m,s.heap.Ns X.env.locals m->h'.Ns X.env.locals m) (hok:xN X.prog X.w H' h') (hg:AllBare g') :
  zG X pins σ H' { s with heap:=h',gens:=g',drawn:=d',toks:=t' }:=by
 have neL:∀ b o,X.s₀.heap.get? b=some o->b≠X.env.locals:=λb o e=>Nat.ne_of_lt (Nat.lt_of_lt_of_le (Heap.lt_size e) I.ok.above)
 have neC:∀ b o,X.s₀.heap.get? b=some o->b∉X.ex->b∉ch:=λb o e hx hb=>by
  rcases (hch b hb).1 with z | z
  ·exact hx z
  ·exact absurd (Nat.lt_of_lt_of_le (Heap.lt_size e) z) (Nat.lt_irrefl _)
 have cellK:∀ x c,X.env.cells.lookup x=some c->∀ v,s.heap.IsCell c v->h'.IsCell c v:=λx c e v ⟨o,ho,hd⟩=>by
  have nch:c∉ch:=λz=>(hch c z).2.2.1 x c e rfl
  by_cases hc:c∈X.fs
  ·obtain ⟨sl,q⟩:=slot c o (I.cne x c e) hc nch ho (I.freeC x c e)
   exact ⟨_,q,hd⟩
  ·exact ⟨o,keep c o (I.cne x c e) hc nch ho (I.freeC x c e),hd⟩
 refine ⟨I.ok,I.os,hg,⟨λb o e n hb hx=>?_,λb o e n hb hx=>?_,λb o e n hx=>?_,λb o e hx=>?_,λb xs e=>tups b xs (I.base.tups b xs e),λb o xs e=>frzs b o xs (I.base.frzs b o xs e),λb ps e=>?_⟩,?_,λx c e=>?_,?_,λx c e=>?_,λp hp=>?_,hok,I.len⟩
 ·exact keep b o (neL b o e) hb (neC b o e hx) (I.base.keep b o e n hb hx) (I.base.free b o e n hx)
 ·obtain ⟨sl,e1⟩:=I.base.slot b o e n hb hx
  obtain ⟨sl',e2⟩:=slot b _ (neL b o e) hb (neC b o e hx) e1 (I.base.free b o e n hx)
  exact ⟨sl',e2⟩
 ·obtain ⟨o',e1⟩:=I.base.there b o e hx
  exact free b o' (neC b o e hx) e1 (I.base.free b o e n hx)
 ·obtain ⟨o',e1⟩:=I.base.there b o e hx
  exact there b o' (neC b o e hx) e1
 ·obtain ⟨m1,e1⟩:=I.base.tbls b ps e
  obtain ⟨m2,e2⟩:=tbls b _ e1
  exact ⟨m1++m2,by rw [e2,Array.append_assoc]⟩
 ·obtain ⟨m,hn,hl⟩:=I.loc
  refine ⟨m,ns m hn,λi x v e1 e2 e3=>?_⟩
  obtain ⟨u,r,l⟩:=hl i x v e1 e2 e3
  refine ⟨u,r,?_⟩
  rcases l with l | ⟨k,c,e,z⟩
  ·exact .inl l
  ·exact .inr ⟨k,c,e,cellK x c e _ z⟩
 ·obtain ⟨v,z⟩:=I.cell x c e
  exact ⟨v,cellK x c e v z⟩
 ·obtain ⟨m,⟨o,_,_,ho,_⟩,_⟩:=I.loc
  exact free _ o (λz=>(hch _ z).2.1 rfl) ho I.free
 ·obtain ⟨v,o,ho,hd⟩:=I.cell x c e
  exact free c o (λz=>(hch c z).2.2.1 x c e rfl) ho (I.freeC x c e)
 ·obtain ⟨e,n,ne,nf,d⟩:=I.pin p hp
  have nch:p.1∉ch:=λz=>(hch p.1 z).2.2.2 p hp rfl
  exact ⟨keep p.1 p.2 ne nf nch e n,free p.1 p.2 nch e n,ne,nf,d⟩
theorem zG.un {t':Nat} (I:zG X pins σ H s) (u:Un X.fs [] H H' s.heap h') (hok:xN X.prog X.w H' h'):zG X pins σ H' { s with heap:=h',toks:=t' }:=by
 obtain ⟨m,⟨o,es,ep,ho,r⟩,_⟩:=id I.loc
 obtain ⟨sl,hL⟩:=u.any ho I.free (by simp)
 exact I.step (g':=s.gens) (d':=s.drawn) (ch:=[]) (λ_ z=>nomatch z) (λb o _ hb _ e n=>u.keep b o e n hb (by simp)) (λb o _ hb _ e n=>u.slot b o e n hb (by simp)) (λb o _ e n=>u.free b o e n (by simp)) (λb o _ e=>u.there b o e (by simp)) u.tups u.frzs u.tbls (λm' hm=>by
  obtain ⟨o',es',ep',ho',r'⟩:=hm
  rw [ho] at ho'; cases ho'
  exact ⟨_,es',ep',hL,r'⟩) hok I.bare
theorem zG.call {g':Array GenState} {t':Nat} {d':Drawn} {ch:List Addr} (I:zG X pins σ H s) (u:Un (wq X.stack) ch H H' s.heap h') (hok:xN X.prog X.w H' h') (hg:AllBare g')
  (hch:∀ b∈ch,(b∈X.ex\/X.s₀.heap.objs.size<=b)/\b≠X.env.locals/\(∀ x c,X.env.cells.lookup x=some c->c≠b)/\∀ p∈X.pn++pins,p.1≠b) :
  zG X pins σ H' { s with heap:=h',gens:=g',drawn:=d',toks:=t' }:=by
 obtain ⟨m,⟨o,es,ep,ho,r⟩,_⟩:=id I.loc
 obtain ⟨sl,hL⟩:=u.any ho I.free λz=>(hch _ z).2.1 rfl
 exact I.step (ch:=ch) hch (λb o hL hb hc e n=>u.keep b o e n (λz=>(List.mem_cons.mp (I.stkSub b z)).elim hL hb) hc) (λb o _ _ hc e n=>u.any e n hc) (λb o hc e n=>u.free b o e n hc) (λb o hc e=>u.there b o e hc) u.tups u.frzs u.tbls (λm' hm=>by
  obtain ⟨o',es',ep',ho',r'⟩:=hm
  rw [ho] at ho'; cases ho'
  exact ⟨_,es',ep',hL,r'⟩) hok hg
theorem zG.turned {t':Nat} {it:Addr} (I:zG X pins σ H s) (k:∀ b o,b≠it->s.heap.get? b=some o->h'.get? b=some o) (hn:H it=none) (hL:it≠X.env.locals)
  (h1:it∈X.ex\/X.s₀.heap.objs.size<=it) (h2:∀ x c,X.env.cells.lookup x=some c->c≠it) (h3:∀ p∈X.pn++pins,p.1≠it):zG X pins σ H { s with heap:=h',toks:=t' }:=by
 have nit:∀ b u,H b=some u->b≠it:=λb u e z=>by rw [z,hn] at e; cases e
 refine I.step (g':=s.gens) (d':=s.drawn) (ch:=[it]) (λb hb=>?_) (λb o _ _ hc e _=>k b o (λz=>hc (by simp [z])) e) (λb o _ _ hc e _=>⟨o.slots,k b o (λz=>hc (by simp [z])) e⟩) (λ_ _ _ _ n=>n)
  (λb o hc e=>⟨o,k b o (λz=>hc (by simp [z])) e⟩) (λ_ _ e=>e) (λ_ _ _ e=>e) (λb ps e=>⟨#[],by rw [e]; simp⟩) (λm hm=>?_) (λb u e=>?_) I.bare
 ·have e:b=it:=by simpa using hb
  subst e
  exact ⟨h1,hL,h2,h3⟩
 ·obtain ⟨o,es,ep,ho,r⟩:=hm
  exact ⟨o,es,ep,k _ o (Ne.symm hL) ho,r⟩
 ·refine (I.hok b u e).stay (λc v hc q=>k c v ?_ q) (λ_ q=>q) λ_ _ q=>q
  rcases hc with z | z
  ·rw [z]; exact nit b u e
  ·exact nit c _ z
theorem zG.tok (I:zG X pins σ H s) (t:Nat):zG X pins σ H { s with toks:=t }:=I.un (h':=s.heap) (t':=t) Un.refl I.hok
theorem zG.kept {t':Nat} (I:zG X pins σ H s) (k:∀ b u,s.heap.get? b=some u->h'.get? b=some u):zG X pins σ H { s with heap:=h',toks:=t' }:=I.un (Un.kept k) (I.hok.kept k)
theorem zG.laid {a:Addr} {o:HO} {t':Nat} (I:zG X pins σ H s) (k:∀ b u,s.heap.get? b=some u->h'.get? b=some u) (hp:s.heap.objs.size<=a) (new:wG X.prog X.w (zU H a o) h' a o) :
  zG X pins σ (zU H a o) { s with heap:=h',toks:=t' }:=I.un (Un.laid k hp (I.hok.fresh hp)) (I.hok.laid k hp new)
theorem zG.write {x e:Addr} {o:HO} {t':Nat} (I:zG X pins σ H s) (mu:Yb (H x)) (he:e=x\/H e=some (.own x)) (k:∀ b u,b≠e->s.heap.get? b=some u->h'.get? b=some u) (heo:∃ u,h'.get? e=some u)
  (new:wG X.prog X.w (zU H x o) h' x o):zG X pins σ (zU H x o) { s with heap:=h',toks:=t' }:=I.un (Un.write mu he k heo) (I.hok.write mu he k heo new)
theorem zG.pins_of {pins':List (Addr × Obj)} (I:zG X pins σ H s) (h:∀ p∈pins',s.heap.get? p.1=some p.2/\H p.1=none/\p.1≠X.env.locals/\p.1∉X.fs/\∀ v,p.2.data≠.cell v):zG X pins' σ H s:=
 ⟨I.ok,I.os,I.bare,I.base,I.loc,I.cell,I.free,I.freeC,λp hp=>(List.mem_append.mp hp).elim (λz=>I.pin p (List.mem_append_left _ z)) (h p),I.hok,I.len⟩
theorem QR {N:List Str} (hN:N.Nodup) {i j:Nat} {x:Str} (a:N[i]? = some x) (b:N[j]? = some x):i=j:=by
 obtain ⟨h1,e1⟩:=List.getElem?_eq_some_iff.mp a
 obtain ⟨h2,e2⟩:=List.getElem?_eq_some_iff.mp b
 exact (List.getElem_inj hN).mp (e1.trans e2.symm)
theorem QS {M:Model} {A:Around} {E:Value->Shared->Prop} {i:Nat} {x:Str} {v:V} {u:Value} {Q:Unit->Shared->Prop} (I:zG X pins σ H s) (hN:X.N.Nodup) (hi:X.N[i]? = some x) (hx:jE X.env.scope x) (r:zW v u)
  (h:∀ s',zG X pins (σ.set i (some v)) H s'->(∃ a,Heap.SameBut a s.heap s'.heap/\(a=X.env.locals\/X.env.cells.lookup x=some a))->Q () s') (hf:X.fn x=true\/X.env.scope.names.lookup x=some .local:=by first | exact .inl rfl | exact .inr rfl | assumption):wpAny M A (storeName X.env x u) Q E s:=by
 obtain ⟨m,hn,hl⟩:=id I.loc
 have hcls:(X.env.scope.kind == .class || (X.env.scope.kind == .module && X.env.locals != X.env.globals))=false:=by rw [I.ok.kind]; rfl
 have hiσ:i < σ.length:=by rw [I.len]; exact (List.getElem?_eq_some_iff.mp hi).1
 have cne:=I.cne
 have tracked:∀ {a:Addr} {h':Heap},(∃ o,s.heap.get? a=some o/\H a=none)->Heap.SameBut a s.heap h'->xN X.prog X.w H h':=λ{a h'} ha hs b ob e=>by
  obtain ⟨_,_,hfree⟩:=ha
  refine (I.hok b ob e).stay (λc w' hc q=>(hs.2 c ?_).trans q) (λ_ q=>q) λ_ _ q=>q
  rintro rfl
  rcases hc with rfl | hc
  ·rw [hfree] at e; cases e
  ·rw [hfree] at hc; cases hc
 rcases hx with hk | hk
 ·refine wpAny_storeName_local hk hn (λh' hn' hs=>?_) hcls
  obtain ⟨oL,_,_,hoL,_⟩:=id hn
  refine h _ ⟨I.ok,I.os,I.bare,⟨λb o e n hb hx=>?_,λb o e n hb hx=>?_,I.base.free,λb o e hx=>?_,I.base.tups,I.base.frzs,I.base.tbls⟩,⟨_,hn',λj y v' e1 e2 e3=>?_⟩,λy c e=>?_,I.free,I.freeC,λp hp=>?_,tracked ⟨oL,hoL,I.free⟩ hs,by simpa using I.len⟩ ⟨_,hs,.inl rfl⟩
  ·exact (hs.2 b (Nat.ne_of_lt (Nat.lt_of_lt_of_le (Heap.lt_size e) I.ok.above))).trans (I.base.keep b o e n hb hx)
  ·obtain ⟨sl,e1⟩:=I.base.slot b o e n hb hx
   exact ⟨sl,(hs.2 b (Nat.ne_of_lt (Nat.lt_of_lt_of_le (Heap.lt_size e) I.ok.above))).trans e1⟩
  ·obtain ⟨o',e1⟩:=I.base.there b o e hx
   exact ⟨o',(hs.2 b (Nat.ne_of_lt (Nat.lt_of_lt_of_le (Heap.lt_size e) I.ok.above))).trans e1⟩
  ·by_cases hj:j=i
   ·subst hj
    rw [hi] at e1; cases e1
    rw [List.getElem?_set_self hiσ] at e2
    cases e2
    exact ⟨u,r,.inl ⟨hk,by simp⟩⟩
   ·rw [List.getElem?_set_ne (Ne.symm hj)] at e2
    obtain ⟨u',r',q⟩:=hl j y v' e1 e2 e3
    refine ⟨u',r',?_⟩
    rcases q with ⟨k,e⟩ | ⟨k,c,e,z⟩
    ·refine .inl ⟨k,?_⟩
     have:y≠x:=λe=>hj (QR hN e1 (e ▸ hi))
     simp [this,e]
    ·exact .inr ⟨k,c,e,z.sameBut hs (cne y c e)⟩
  ·obtain ⟨w',z⟩:=I.cell y c e
   exact ⟨w',z.sameBut hs (cne y c e)⟩
  ·obtain ⟨e,n,ne,nf,d⟩:=I.pin p hp
   exact ⟨(hs.2 p.1 ne).trans e,n,ne,nf,d⟩
 ·have hfn:X.fn x=true:=by
   rcases hf with z | z
   ·exact z
   ·rw [z] at hk; cases hk
  obtain ⟨c,hc⟩:=I.ok.has x (.inl hk)
  obtain ⟨w',z⟩:=I.cell x c hc
  refine wpAny_storeName_cell I.ok.kind hk hc z (λh' hc' hs=>?_)
  obtain ⟨oc,hoc,hocd⟩:=id z
  refine h { s with heap:=h' } ⟨I.ok,I.os,I.bare,⟨λb o e n hb hx=>?_,λb o e n hb hx=>?_,I.base.free,λb o e hx=>?_,I.base.tups,I.base.frzs,I.base.tbls⟩,⟨m,hn.sameBut hs (Ne.symm (cne x c hc)),λj y v' e1 e2 e3=>?_⟩,λy c' e=>?_,I.free,I.freeC,λp hp=>?_,tracked ⟨oc,hoc,I.freeC x c hc⟩ hs,by simpa using I.len⟩ ⟨c,hs,.inr hc⟩
  ·exact (hs.2 b (Nat.ne_of_lt (Nat.lt_of_lt_of_le (Heap.lt_size e) (I.ok.cab x c hfn hc)))).trans (I.base.keep b o e n hb hx)
  ·obtain ⟨sl,e1⟩:=I.base.slot b o e n hb hx
   exact ⟨sl,(hs.2 b (Nat.ne_of_lt (Nat.lt_of_lt_of_le (Heap.lt_size e) (I.ok.cab x c hfn hc)))).trans e1⟩
  ·obtain ⟨o',e1⟩:=I.base.there b o e hx
   exact ⟨o',(hs.2 b (Nat.ne_of_lt (Nat.lt_of_lt_of_le (Heap.lt_size e) (I.ok.cab x c hfn hc)))).trans e1⟩
  ·by_cases hj:j=i
   ·subst hj
    rw [hi] at e1; cases e1
    rw [List.getElem?_set_self hiσ] at e2
    cases e2
    exact ⟨u,r,.inr ⟨.inl hk,c,hc,hc'⟩⟩
   ·rw [List.getElem?_set_ne (Ne.symm hj)] at e2
    obtain ⟨u',r',q⟩:=hl j y v' e1 e2 e3
    refine ⟨u',r',?_⟩
    rcases q with q | ⟨k,c',e,z'⟩
    ·exact .inl q
    ·refine .inr ⟨k,c',e,z'.sameBut hs ?_⟩
     rintro rfl
     exact hj (QR hN e1 (I.ok.inj _ _ _ e hc ▸ hi))
  ·by_cases hcc:c'=c
   ·subst hcc; exact ⟨_,hc'⟩
   ·obtain ⟨w2,z2⟩:=I.cell y c' e
    exact ⟨w2,z2.sameBut hs hcc⟩
  ·obtain ⟨e,n,ne,nf,d⟩:=I.pin p hp
   refine ⟨(hs.2 p.1 ?_).trans e,n,ne,nf,d⟩
   intro q
   rw [q,hoc] at e
   have q':oc=p.2:=Option.some.inj e
   exact d w' (by rw [<- q']; exact hocd)
theorem QT {M:Model} {A:Around} {E:Value->Shared->Prop} {i:Nat} {x:Str} {v:V} {u:Value} {Q:Unit->Shared->Prop} (I:zG X pins σ H s) (hN:X.N.Nodup) (hi:X.N[i]? = some x) (hx:jE X.env.scope x) (r:zW v u)
  (h:∀ s',zG X pins (σ.set i (some v)) H s'->Q () s') (hf:X.fn x=true\/X.env.scope.names.lookup x=some .local:=by first | exact .inl rfl | exact .inr rfl | assumption):wpAny M A (storeName X.env x u) Q E s:=
 QS I hN hi hx r (λs' I' _=>h s' I') hf
theorem zG.call' {s':Shared} {ch:List Addr} (I:zG X pins σ H s) (ho:s'.os=s.os) (u:Un (wq X.stack) ch H H' s.heap s'.heap) (hok:xN X.prog X.w H' s'.heap) (hg:AllBare s'.gens)
  (hch:∀ b∈ch,(b∈X.ex\/X.s₀.heap.objs.size<=b)/\b≠X.env.locals/\(∀ x c,X.env.cells.lookup x=some c->c≠b)/\∀ p∈X.pn++pins,p.1≠b):zG X pins σ H' s':=by
 obtain ⟨h',g',d',t',o'⟩:=s'
 have e:o'=s.os:=ho
 subst e
 exact I.call (g':=g') (t':=t') (d':=d') u hok hg hch
end
abbrev XK:=Value->Option Addr->Hp->Prop
abbrev St:=List (Option V)
abbrev VK:=V->Hp->Prop
abbrev TE:=St->Hp->VK->Prop
abbrev TT:=St->Hp->(Bool->Hp->Prop)->Prop
abbrev TA:=St->Hp->(List V->Hp->Prop)->Prop
structure xU where
 nx:St->Hp->Prop
 rt:VK
 bk:St->Hp->Prop:=λ_ _=>False
 ct:St->Hp->Prop:=λ_ _=>False
abbrev TS:=xU->St->Hp->Prop
def EP (X:Cx) (pins:List (Addr × Obj)) (σ:St) (Q:VK) (u:Value) (s':Shared):Prop:=∃ v H',zG X pins σ H' s'/\zW v u/\Q v H'
def TP (X:Cx) (pins:List (Addr × Obj)) (σ:St) (Q:Bool->Hp->Prop) (b:Bool) (s':Shared):Prop:=∃ H',zG X pins σ H' s'/\Q b H'
def AP (X:Cx) (pins:List (Addr × Obj)) (σ:St) (Q:List V->Hp->Prop) (us:List Value) (s':Shared):Prop:=∃ vs H',zG X pins σ H' s'/\zM vs us/\Q vs H'
def SP (X:Cx) (pins:List (Addr × Obj)) (D:xU) (f:Flow) (s':Shared):Prop:=
 match f with
 | .next=>∃ σ' H',zG X pins σ' H' s'/\D.nx σ' H'
 | .brk=>∃ σ' H',zG X pins σ' H' s'/\D.bk σ' H'
 | .cont=>∃ σ' H',zG X pins σ' H' s'/\D.ct σ' H'
 | .ret u=>∃ v σ' H',zG X pins σ' H' s'/\zW v u/\D.rt v H'
def PE (X:Cx) (e:Expr) (t:TE):Prop:=
 ∀ (pins:List (Addr × Obj)) (s:Shared) (σ:St) (H:Hp) (Q:VK),zG X pins σ H s->t σ H Q->wpAny (model X.prog X.w) X.A (eval e X.env) (EP X pins σ Q) X.xe s
def PT (X:Cx) (e:Expr) (t:TT):Prop:=
 ∀ (pins:List (Addr × Obj)) (s:Shared) (σ:St) (H:Hp) (Q:Bool->Hp->Prop),zG X pins σ H s->t σ H Q->wpAny (model X.prog X.w) X.A (isTrue e X.env (eval e X.env)) (TP X pins σ Q) X.xe s
def PW (X:Cx) (e:Expr) (t:TT):Prop:=
 ∀ (whole:Sem Value) (pins:List (Addr × Obj)) (s:Shared) (σ:St) (H:Hp) (Q:Bool->Hp->Prop),zG X pins σ H s->t σ H Q->wpAny (model X.prog X.w) X.A (isTrue e X.env whole) (TP X pins σ Q) X.xe s
theorem PW.pt {X:Cx} {e:Expr} {t:TT} (h:PW X e t):PT X e t:=h _
def PA (X:Cx) (es:List Expr) (t:TA):Prop:=
 ∀ (pos:Pos) (pins:List (Addr × Obj)) (s:Shared) (σ:St) (H:Hp) (Q:List V->Hp->Prop),zG X pins σ H s->t σ H Q->wpAny (model X.prog X.w) X.A (spliced (backTo pos (starEach es X.env))) (AP X pins σ Q) X.xe s
def PS (X:Cx) (st:Stmt) (t:TS):Prop:=
 ∀ (pins:List (Addr × Obj)) (s:Shared) (σ:St) (H:Hp) (D:xU),zG X pins σ H s->t D σ H->wpAny (model X.prog X.w) X.A (exec st X.env) (SP X pins D) X.xe s
def xO (X:Cx) (st:List Stmt) (t:TS):Prop:=
 ∀ (pins:List (Addr × Obj)) (s:Shared) (σ:St) (H:Hp) (D:xU),zG X pins σ H s->t D σ H->wpAny (model X.prog X.w) X.A (execs st X.env) (SP X pins D) X.xe s
theorem zi {α:Type} {t:Sem α} {Q Q':α->Shared->Prop} {M:Model} {A:Around} {E:Value->Shared->Prop} {s:Shared} (h:wpAny M A t Q E s) (hQ:∀ a s,Q a s->Q' a s):wpAny M A t Q' E s:=wpAny_mono h hQ λ_ _ x=>x
end L2
namespace L2
open PySem PySem.Spec PyProof.Rows
section
variable {X:Cx}
def gj (i:Nat):TE:=λσ H Q=>∃ v,σ[i]? = some (some v)/\Q v H
def tC (v:V):TE:=λ_ H Q=>Q v H
theorem WY {i:Nat} {x:Str} {pos:Pos} (hN:X.N[i]? = some x) (hv:jD X.env.scope x) (hd:(x == ("__debug__" : Str))=false:=by decide) (hcd:(x == ("__classdict__" : Str))=false:=by decide):PE X (.Name x pos) (gj i):=by
 intro pins s σ H Q I h
 obtain ⟨v,e,h⟩:=h
 obtain ⟨m,hn,hl⟩:=I.loc
 obtain ⟨u,r,l⟩:=hl i x v hN e hv
 have fin:EP X pins σ Q u s:=⟨v,H,I,r,h⟩
 rcases l with ⟨hk,hm⟩ | ⟨hk,c,hc,hcell⟩
 ·exact wpAny_Name (wpAny_loadName_local I.ok.kind hk hn hm fin) hd
 ·rcases hk with hk | hk
  ·exact wpAny_Name (wpAny_loadName_cell I.ok.kind hk hc hcell fin) hd
  ·exact wpAny_Name (wpAny_loadName_free I.ok.kind hk hc hcell fin hcd) hd
theorem vg {i j pos}:PE X (.Constant (.int i) j pos) (tC (.int i)):=λ_ _ _ H _ I h=>wpAny_Constant_int ⟨.int i,H,I.tok _,⟨_,rfl⟩,h⟩
theorem gk {b j pos}:PE X (.Constant (.bool b) j pos) (tC (.bl b)):=λ_ _ _ H _ I h=>Constant_bool ⟨.bl b,H,I,rfl,h⟩
theorem zQX {j pos}:PE X (.Constant .none j pos) (tC .non):=λ_ _ _ H _ I h=>Constant_none ⟨.non,H,I,rfl,h⟩
def Gl (X:Cx) (x:Str):Prop:=X.env.kindOf x=some .globalImplicit
theorem WZ {E:Value->Shared->Prop} {pins:List (Addr × Obj)} {s:Shared} {σ:St} {H:Hp} {x:Str} {u:Value} {pos:Pos} {Q:Value->Shared->Prop} (I:zG X pins σ H s) (hg:Gl X x) (hm:X.mg x=some u) (h:Q u s)
  (hd:(x == ("__debug__" : Str))=false:=by decide):wpAny (model X.prog X.w) X.A (eval (.Name x pos) X.env) Q E s:=
 Calls.Name_function_global I.ok.kind hg (Calls.loadGlobal_global (by rw [I.ok.glob]; exact I.mod.glob.keeps I.bk) hm h) hd
theorem jk {E:Value->Shared->Prop} {pins:List (Addr × Obj)} {s:Shared} {σ:St} {H:Hp} {x:Str} {u:Value} {pos:Pos} {Q:Value->Shared->Prop} (I:zG X pins σ H s) (hg:Gl X x) (hm:X.mg x=none) (hv:bootBuiltins x=some u) (h:Q u s)
  (hn:x≠"__name__":=by decide) (hd:(x == ("__debug__" : Str))=false:=by decide):wpAny (model X.prog X.w) X.A (eval (.Name x pos) X.env) Q E s:=by
 obtain ⟨mb,h1,h2⟩:=I.mod.blt
 exact Calls.Name_function_global I.ok.kind hg (Calls.loadGlobal_builtin (by rw [I.ok.glob]; exact I.mod.glob.keeps I.bk) hm (by rw [I.ok.blt]; exact h1.keeps I.bk) ((h2 x hn).trans hv) h) hd
theorem QU {x:Str} {v:V} {u:Value} {pos:Pos} (hg:Gl X x) (hm:X.mg x=some u) (r:zW v u) (hd:(x == ("__debug__" : Str))=false:=by decide):PE X (.Name x pos) (tC v):=
 λ_ _ _ H _ I h=>WZ I hg hm ⟨v,H,I,r,h⟩ hd
theorem wr {x:Str} {v:V} {u:Value} {pos:Pos} (hg:Gl X x) (hm:X.mg x=none) (hv:bootBuiltins x=some u) (r:zW v u) (hn:x≠"__name__":=by decide) (hd:(x == ("__debug__" : Str))=false:=by decide):PE X (.Name x pos) (tC v):=
 λ_ _ _ H _ I h=>jk I hg hm hv ⟨v,H,I,r,h⟩ hn hd
variable {a b:Expr} {ta tb:TE} {pos:Pos}
def tB (t:TE):TT:=λσ H Q=>t σ H λx H1=>∃ c,x=.bl c/\Q c H1
theorem zQM {e:Expr} {t:TE} (h:PE X e t) (he:∀ whole,isTrue e X.env whole=(do let v <- whole; standAt e.pos; holding [v] (truthy v)):=by intro _; rfl):PT X e (tB t):=by
 intro pins s σ H Q I hw
 refine isTrue_plain (zi (h pins s σ H _ I hw) λv s1 ⟨x,H1,I1,r1,q1⟩=>?_) (he _)
 obtain ⟨d,rfl,q⟩:=q1
 cases r1
 exact wpAny_truthy_bool ⟨H1,I1,q⟩
variable {tA tB':TT} {ya:List Expr}
def Wa (t u:TT):TT:=λσ H Q=>t σ H λc H1=>if c=true then u σ H1 Q else Q false H1
def tOr (t u:TT):TT:=λσ H Q=>t σ H λc H1=>if c=true then Q true H1 else u σ H1 Q
def Wb (t:TT):TT:=λσ H Q=>t σ H λc H1=>Q (!c) H1
theorem zPB (ha:PT X a tA):PW X (.BoolOp .And [a] pos) tA:=by
 intro wh pins s σ H Q I h
 refine isTrue_and (zi (ha pins s σ H Q I h) λc s1 e=>?_)
 cases c with
 | true=>exact isTrue_and_nil e
 | false=>exact e
theorem zQF (ha:PT X a tA):PW X (.BoolOp .Or [a] pos) tA:=by
 intro wh pins s σ H Q I h
 refine isTrue_or (zi (ha pins s σ H Q I h) λc s1 e=>?_)
 cases c with
 | false=>exact isTrue_or_nil e
 | true=>exact e
theorem zQG (ha:PT X a tA) (hb:PW X (.BoolOp .And (b :: ya) pos) tB'):PW X (.BoolOp .And (a :: b :: ya) pos) (Wa tA tB'):=by
 intro wh pins s σ H Q I h
 refine isTrue_and (zi (ha pins s σ H _ I h) λc s1 ⟨H1,I1,q1⟩=>?_)
 cases c with
 | true=>exact hb wh pins s1 σ H1 Q I1 q1
 | false=>exact ⟨H1,I1,q1⟩
theorem gl (ha:PT X a tA) (hb:PW X (.BoolOp .Or (b :: ya) pos) tB'):PW X (.BoolOp .Or (a :: b :: ya) pos) (tOr tA tB'):=by
 intro wh pins s σ H Q I h
 refine isTrue_or (zi (ha pins s σ H _ I h) λc s1 ⟨H1,I1,q1⟩=>?_)
 cases c with
 | true=>exact ⟨H1,I1,q1⟩
 | false=>exact hb wh pins s1 σ H1 Q I1 q1
theorem zQN (ha:PT X a tA):PT X (.UnaryOp .Not a pos) (Wb tA):=by
 intro pins s σ H Q I h
 exact isTrue_not (ha pins s σ H (λc H1=>Q (!c) H1) I h)
def gm (ta tb:TE):TE:=λσ H Q=>ta σ H λx H1=>∃ c,x=.bl c/\if c=true then tb σ H1 Q else Q (.bl false) H1
def gn (ta:TE):TE:=λσ H Q=>ta σ H λx H1=>∃ c,x=.bl c/\Q (.bl (!c)) H1
theorem zQV {op} {t:TE} (h:PE X a t):PE X (.BoolOp op [a] pos) t:=λpins s σ H Q I hw=>BoolOp_one (h pins s σ H Q I hw)
theorem zQZ (ha:PE X a ta) (hb:PE X (.BoolOp .And (b :: ya) pos) tb):PE X (.BoolOp .And (a :: b :: ya) pos) (gm ta tb):=by
 intro pins s σ H Q I h
 refine BoolOp_and (zi (ha pins s σ H _ I h) λv s1 ⟨x,H1,I1,r1,q1⟩=>?_)
 obtain ⟨c,rfl,q1⟩:=q1
 cases r1
 refine wpAny_truthy_bool ?_
 cases c with
 | true=>exact hb pins s1 σ H1 Q I1 q1
 | false=>exact ⟨.bl false,H1,I1,rfl,q1⟩
theorem zQW (ha:PE X a ta):PE X (.UnaryOp .Not a pos) (gn ta):=by
 intro pins s σ H Q I h
 refine UnaryOp_ (zi (ha pins s σ H _ I h) λv s1 ⟨x,H1,I1,r1,q1⟩=>?_)
 obtain ⟨c,rfl,q1⟩:=q1
 cases r1
 exact not_of (wpAny_truthy_bool ⟨.bl (!c),H1,I1,rfl,q1⟩)
def tIf (t:TT) (ta tb:TE):TE:=λσ H Q=>t σ H λc H1=>if c=true then ta σ H1 Q else tb σ H1 Q
theorem zNn {c:Expr} (hc:PT X c tA) (ha:PE X a ta) (hb:PE X b tb):PE X (.IfExp c a b pos) (tIf tA ta tb):=by
 intro pins s σ H Q I h
 refine wpAny_IfExp (zi (hc pins s σ H _ I h) λd s1 ⟨H1,I1,q1⟩=>?_)
 cases d with
 | true=>exact ha pins s1 σ H1 Q I1 q1
 | false=>exact hb pins s1 σ H1 Q I1 q1
end
end L2
namespace L2
open PySem PySem.Spec PyProof.Rows
def zR (K:PySem.W.Frag) (H:Hp) (a:Addr) (xs:List V):Prop:=
 Rd H a (.lst xs)∨
  ∃ (o:Obj) (its:Array Value) (n:Nat),K.lookup a=some o/\o.cls=.type "list"/\o.dict=none/\o.data=.seq its n/\its.size<=sizeLine/\zM xs its.toList
def zt (K:PySem.W.Frag) (H:Hp) (a:Addr) (xs:List V):Prop:=
 Rd H a (.tup xs)∨
  ∃ (o:Obj) (its:Array Value) (n:Nat),K.lookup a=some o/\o.cls=.type "tuple"/\o.data=.seq its n/\its.size<=sizeLine/\zM xs its.toList
def Wc:Value->Option V
 | .none=>some .non
 | .bool b=>some (.bl b)
 | .int i _=>some (.int i)
 | .str x _=>some (.str x)
 | .bytes b _=>some (.byt b)
 | .float b _=>some (.flt b)
 | .ref a=>some (.ref a)
 | .type n=>some (.ty n)
 | _=>none
theorem zW.abs {x:V} {u:Value} (r:zW x u):Wc u=some x:=by
 cases x with
 | non=>cases r; rfl
 | bl _=>cases r; rfl
 | int _=>obtain ⟨t,rfl⟩:=r; rfl
 | str _=>obtain ⟨t,rfl⟩:=r; rfl
 | byt _=>obtain ⟨t,rfl⟩:=r; rfl
 | flt _=>obtain ⟨t,rfl⟩:=r; rfl
 | ref _=>cases r; rfl
 | ty _=>cases r; rfl
theorem zW.inj {x y:V} {u:Value} (r:zW x u) (q:zW y u):x=y:=Option.some.inj (r.abs.symm.trans q.abs)
theorem zM.inj:∀ {xs ys:List V} {us:List Value},zM xs us->zM ys us->xs=ys
 | _,_,_,.nil,.nil=>rfl
 | _,_,_,.cons r t,.cons r' t'=>by rw [r.inj r',zM.inj t t']
section
variable {X:Cx} {pins:List (Addr × Obj)} {σ:St} {H:Hp} {s:Shared} {a:Addr} {xs ys:List V}
theorem zR.of {K:PySem.W.Frag} (h:H a=some (.lst xs)):zR K H a xs:=.inl (.inl h)
theorem zt.of {K:PySem.W.Frag} (h:H a=some (.tup xs)):zt K H a xs:=.inl (.inl h)
theorem zG.list (I:zG X pins σ H s) (h:zR X.K H a xs):∃ its:List Value,zM xs its/\PlainL s.heap a its.toArray/\xs.length<=sizeLine:=by
 rcases h with h | ⟨o,its,n,hk,hc,hd,hs,hz,r⟩
 ·obtain ⟨z,its,n,r,e⟩:=h.ok I.hok
  exact ⟨its,r,⟨_,n,e,rfl,rfl,rfl⟩,z⟩
 ·refine ⟨its.toList,r,⟨o,n,I.kIn a o hk,hc,hd,by simpa using hs⟩,?_⟩
  have e:=r.length
  simp only [Array.length_toList] at e
  omega
theorem zG.tuple (I:zG X pins σ H s) (h:zt X.K H a xs):∃ its:List Value,zM xs its/\IsTup s.heap a its.toArray/\xs.length<=sizeLine:=by
 rcases h with h | ⟨o,its,n,hk,hc,hs,hz,r⟩
 ·obtain ⟨z,its,r,p⟩:=h.ok I.hok
  exact ⟨its,r,p,z⟩
 ·refine ⟨its.toList,r,⟨o,I.kIn a o hk,hc,n,by simpa using hs⟩,?_⟩
  have e:=r.length
  simp only [Array.length_toList] at e
  omega
theorem zG.list_inj (I:zG X pins σ H s) (h:zR X.K H a xs) (h':zR X.K H a ys):xs=ys:=by
 obtain ⟨its,r,⟨o,n,e,_,_,d⟩,_⟩:=I.list h
 obtain ⟨its',r',⟨o',n',e',_,_,d'⟩,_⟩:=I.list h'
 rw [e] at e'; cases e'
 rw [d] at d'
 injection d' with d1 _
 have:its=its':=by simpa using congrArg Array.toList d1
 subst this
 exact r.inj r'
theorem zG.tuple_inj (I:zG X pins σ H s) (h:zt X.K H a xs) (h':zt X.K H a ys):xs=ys:=by
 obtain ⟨its,r,⟨o,e,_,n,d⟩,_⟩:=I.tuple h
 obtain ⟨its',r',⟨o',e',_,n',d'⟩,_⟩:=I.tuple h'
 rw [e] at e'; cases e'
 rw [d] at d'
 injection d' with d1 _
 have:its=its':=by simpa using congrArg Array.toList d1
 subst this
 exact r.inj r'
end
abbrev Cx.wish (X:Cx) (E:Value->Shared->Prop):Cx:={ X with xe:=E }
abbrev Cx.nox (X:Cx):Cx:=X.wish λ_ _=>False
theorem Cx.Ok.wish {X:Cx} (ok:X.Ok) (E:Value->Shared->Prop):(X.wish E).Ok:=
 ⟨ok.mod,ok.kind,ok.glob,ok.blt,ok.above,ok.inj,ok.has,ok.cab,ok.hd,ok.frames,ok.stk,ok.exf,ok.bs,ok.bsz,ok.noex,ok.exfs,ok.funs,ok.frf⟩
theorem Cx.Ok.unwish {X:Cx} {E:Value->Shared->Prop} (ok:(X.wish E).Ok):X.Ok:=
 ⟨ok.mod,ok.kind,ok.glob,ok.blt,ok.above,ok.inj,ok.has,ok.cab,ok.hd,ok.frames,ok.stk,ok.exf,ok.bs,ok.bsz,ok.noex,ok.exfs,ok.funs,ok.frf⟩
section
variable {X:Cx} {pins:List (Addr × Obj)} {σ:St} {H:Hp} {s:Shared} {E:Value->Shared->Prop}
theorem zG.wish (I:zG X pins σ H s) (E:Value->Shared->Prop):zG (X.wish E) pins σ H s:=⟨I.ok.wish E,I.os,I.bare,I.base,I.loc,I.cell,I.free,I.freeC,I.pin,I.hok,I.len⟩
theorem zG.unwish (I:zG (X.wish E) pins σ H s):zG X pins σ H s:=⟨I.ok.unwish,I.os,I.bare,I.base,I.loc,I.cell,I.free,I.freeC,I.pin,I.hok,I.len⟩
theorem SP.unwish {D:xU} {f:Flow} {s':Shared} (h:SP (X.wish E) pins D f s'):SP X pins D f s':=by
 cases f with
 | next=>obtain ⟨σ',H',I,q⟩:=h; exact ⟨σ',H',I.unwish,q⟩
 | brk=>obtain ⟨σ',H',I,q⟩:=h; exact ⟨σ',H',I.unwish,q⟩
 | cont=>obtain ⟨σ',H',I,q⟩:=h; exact ⟨σ',H',I.unwish,q⟩
 | ret u=>obtain ⟨v,σ',H',I,r,q⟩:=h; exact ⟨v,σ',H',I.unwish,r,q⟩
theorem xO.nox {st:List Stmt} {t:TS} (h:xO X.nox st t):xO X st t:=λpins s σ H D I hw=>
 wpAny_mono (h pins s σ H D (I.wish _) hw) (λ_ _ q=>q.unwish) λ_ _ z=>False.elim z
end
section
variable {X:Cx} {st:Stmt} {ya:List Stmt} {t u:TS} {e:Expr} {te:TE} {pos:Pos}
def gp:TS:=λD σ H=>D.nx σ H
def We (t u:TS):TS:=λD σ H=>t { D with nx:=u D } σ H
theorem zPD:xO X [] gp:=λ_ _ σ H _ I h=>wpAny_execs_nil ⟨σ,H,I,h⟩
theorem uH (h1:PS X st t) (h2:xO X ya u):xO X (st :: ya) (We t u):=by
 intro pins s σ H D I h
 refine wpAny_execs_cons (zi (h1 pins s σ H { D with nx:=u D } I h) λf s1 q=>?_)
 cases f with
 | next=>
  obtain ⟨σ',H',I',q⟩:=q
  exact h2 pins s1 σ' H' D I' q
 | ret v=>exact q
 | brk=>exact q
 | cont=>exact q
theorem jm (h1:PS X st t):xO X [st] t:=by
 intro pins s σ H D I h
 refine wpAny_execs_cons (zi (h1 pins s σ H D I h) λf s1 q=>?_)
 cases f with
 | next=>exact wpAny_execs_nil q
 | ret v=>exact q
 | brk=>exact q
 | cont=>exact q
theorem zG.quiet {pins:List (Addr × Obj)} {σ:St} {H:Hp} {s:Shared} (I:zG X pins σ H s):interactive X.env=false:=by simp [interactive,I.ok.kind]
def QV (te:TE):TS:=λD σ H=>te σ H λ_ H1=>D.nx σ H1
theorem wL (he:PE X e te) (hs:swapsWith e none pos.line X.env=pure false:=by rfl):PS X (.Expr e pos) (QV te):=by
 intro pins s σ H D I h
 exact wpAny_Expr_any (zi (he pins s σ H _ I h) λv s1 ⟨x,H1,I1,r1,q1⟩=>⟨σ,H1,I1,q1⟩) I.quiet hs
def Wf (te:TE):TS:=λD σ H=>te σ H D.rt
theorem QW (he:PE X e te):PS X (.Return (some e) pos) (Wf te):=by
 intro pins s σ H D I h
 exact wpAny_Return_some (zi (he pins s σ H _ I h) λv s1 ⟨x,H1,I1,r1,q1⟩=>⟨x,σ,H1,I1,r1,q1⟩)
def Wg (c:TT) (t u:TS):TS:=λD σ H=>c σ H λb H1=>if b=true then t D σ H1 else u D σ H1
theorem QX {c:Expr} {a b:List Stmt} {tc:TT} (hc:PT X c tc) (ha:xO X a t) (hb:xO X b u):PS X (.If c a b pos) (Wg tc t u):=by
 intro pins s σ H D I h
 refine wpAny_If (zi (hc pins s σ H _ I h) λd s1 ⟨H1,I1,q1⟩=>?_)
 cases d with
 | true=>exact ha pins s1 σ H1 D I1 q1
 | false=>exact hb pins s1 σ H1 D I1 q1
def zP5:TS:=λ_ _ _=>False
theorem zNg:PS X st zP5:=λ_ _ _ _ _ _ h=>h.elim
end
abbrev TG:=V->St->Hp->(St->Hp->Prop)->Prop
abbrev uq:=List V->St->Hp->(St->Hp->Prop)->Prop
def PG (X:Cx) (target:Expr) (t:TG):Prop:=
 ∀ (pins:List (Addr × Obj)) (s:Shared) (σ:St) (H:Hp) (v:V) (u:Value) (Q:St->Hp->Prop),zG X pins σ H s->zW v u->t v σ H Q->
  wpAny (model X.prog X.w) X.A (assign target X.env u) (λ_ s'=>∃ σ' H',zG X pins σ' H' s'/\Q σ' H') X.xe s
def ql (X:Cx) (ts:List Expr) (t:uq):Prop:=
 ∀ (pins:List (Addr × Obj)) (s:Shared) (σ:St) (H:Hp) (vs:List V) (us:List Value) (Q:St->Hp->Prop),zG X pins σ H s->zM vs us->t vs σ H Q->
  wpAny (model X.prog X.w) X.A (assignInOrder ((assignEach ts X.env).map (·.2)) us) (λ_ s'=>∃ σ' H',zG X pins σ' H' s'/\Q σ' H') X.xe s
abbrev jn:=V->V->V->Hp->(Hp->Prop)->Prop
def jo (X:Cx) (t:jn):Prop:=
 ∀ (pins:List (Addr × Obj)) (s:Shared) (σ:St) (H:Hp) (o i v:V) (ov iv u:Value) (Q:Hp->Prop),zG X pins σ H s->zW o ov->zW i iv->zW v u->t o i v H Q->
  wpAny (model X.prog X.w) X.A (setItem ov iv u) (λ_ s'=>∃ H',zG X pins σ H' s'/\Q H') X.xe s
section
variable {X:Cx} {pos:Pos}
def qm (i:Nat):TG:=λv σ H Q=>Q (σ.set i (some v)) H
theorem v0 {i:Nat} {x:Str} (hN:X.N.Nodup) (hi:X.N[i]? = some x) (hx:jE X.env.scope x) (hf:X.fn x=true\/X.env.scope.names.lookup x=some .local:=by first | exact .inl rfl | exact .inr rfl | assumption):PG X (.Name x pos) (qm i):=by
 intro pins s σ H v u Q I r h
 exact wpAny_assign_Name (QT I hN hi hx r (λs' I'=>⟨_,H,I',h⟩) hf)
def gq:uq:=λvs σ H Q=>vs=[]/\Q σ H
def Wi (t:TG) (u:uq):uq:=λvs σ H Q=>∃ v r,vs=v :: r/\t v σ H λσ' H'=>u r σ' H' Q
theorem QY:ql X [] gq:=by
 intro pins s σ H vs us Q I r h
 obtain ⟨e,h⟩:=h
 subst e
 cases r
 exact assignInOrder_nil ⟨σ,H,I,h⟩
theorem Yc {e:Expr} {es:List Expr} {t:TG} {u:uq} (h1:PG X e t) (h2:ql X es u)
  (hs:(assignEach (e :: es) X.env).map (·.2)=assign e X.env :: (assignEach es X.env).map (·.2):=by rfl):ql X (e :: es) (Wi t u):=by
 intro pins s σ H vs us Q I r h
 obtain ⟨v,vr,e1,h⟩:=h
 subst e1
 cases r with
 | cons r rr=>
  rw [hs]
  refine assignInOrder_cons (zi (h1 pins s σ H _ _ _ I r h) λ_ s1 ⟨σ1,H1,I1,q1⟩=>?_)
  exact h2 pins s1 σ1 H1 _ _ Q I1 rr q1
def gr (K:PySem.W.Frag) (n:Nat) (t:uq):TG:=λv σ H Q=>∃ a xs,v=.ref a/\zt K H a xs/\xs.length=n/\t xs σ H Q
theorem QZ {es:List Expr} {k:Nat} {t:uq} {n:Nat} (hc:X.calm=true) (h:ql X es t)
  (hn:(assignEach es X.env).length=n:=by rfl) (hst:(assignEach es X.env).findIdx? (·.1)=none:=by rfl):PG X (.Tuple es k pos) (gr X.K n t):=by
 intro pins s σ H v u Q I r hw
 obtain ⟨a,xs,e1,hq,hl,hw⟩:=hw
 subst e1
 cases r
 obtain ⟨its,rv,ht,hz⟩:=I.tuple hq
 refine assign_Tuple_tuple (I.ok.hd hc) ht (by simp [hn,<- hl,rv.length]) hst λh' hx=>?_
 have I1:zG X pins σ H { s with heap:=h' }:=I.kept (t':=s.toks) λb o e=>hx b o (Nat.ne_of_lt (Heap.lt_size e)) e
 exact h pins _ σ H xs _ Q I1 (by simpa using rv) hw
def gt (to ti:TE) (t:jn):TG:=λv σ H Q=>to σ H λo H1=>ti σ H1 λi H2=>t o i v H2 λH3=>Q σ H3
theorem gu {o i:Expr} {to ti:TE} {t:jn} (ho:PE X o to) (hi:PE X i ti) (hs:jo X t)
  (ha:∀ v,assign (.Subscript o i pos) X.env v=(do
   let ov <- holding [v] (eval o X.env)
   let iv <- holding [v,ov] (eval i X.env)
   standAt pos
   holding [v,ov,iv] (setItem ov iv v)
   release [v,ov,iv] []):=by intro _; rfl):PG X (.Subscript o i pos) (gt to ti t):=by
 intro pins s σ H v u Q I r h
 rw [ha]
 refine wpAny_bind (wpAny_holding (zi (ho pins s σ H _ I h) λov s1 ⟨x,H1,I1,r1,q1⟩=>?_))
 refine wpAny_bind (wpAny_holding (zi (hi pins s1 σ H1 _ I1 q1) λiv s2 ⟨y,H2,I2,r2,q2⟩=>?_))
 refine wpAny_bind (wpAny_standAt (wpAny_bind (wpAny_holding (zi (hs pins s2 σ H2 x y v ov iv u _ I2 r1 r2 r q2) λ_ s3 ⟨H3,I3,q3⟩=>?_))))
 exact wpAny_release ⟨σ,H3,I3,q3⟩
def uI (te:TE) (g:TG):TS:=λD σ H=>te σ H λx H1=>g x σ H1 D.nx
theorem qp {tg e:Expr} {te:TE} {g:TG} (he:PE X e te) (hg:PG X tg g) (hs:swapsWithSole [tg] e pos.line X.env=pure false:=by rfl) (hw:swappedStores [tg] e X.env=pure none:=by rfl)
  (h1:(assignEach [tg] X.env).map (·.2)=[assign tg X.env]:=by rfl):PS X (.Assign [tg] e pos) (uI te g):=by
 intro pins s σ H D I h
 refine wpAny_Assign_stores (zi (he pins s σ H _ I h) λv s1 ⟨x,H1,I1,r1,q1⟩=>?_) hs hw
 rw [h1]
 exact zi (hg pins s1 σ H1 x v _ I1 r1 q1) λ_ s2 q=>q
theorem qr {i:Nat} {x:Str} {e:Expr} {te:TE} {pos':Pos} (hN:X.N.Nodup) (hi:X.N[i]? = some x) (hx:jE X.env.scope x) (he:PE X e te) (hs:swapsWith e (some (.Name x pos')) pos.line X.env=pure false:=by rfl) (hf:X.fn x=true\/X.env.scope.names.lookup x=some .local:=by first | exact .inl rfl | exact .inr rfl | assumption) :
  PS X (.Assign [.Name x pos'] e pos) (uI te (qm i)):=by
 intro pins s σ H D I h
 refine wpAny_Assign_Name (zi (he pins s σ H _ I h) λv s1 ⟨y,H1,I1,r1,q1⟩=>?_) hs
 exact QT I1 hN hi hx r1 (λs2 I2=>⟨_,H1,I2,q1⟩) hf
end
section
variable {X:Cx} {pos:Pos}
end
structure It where
 go:Nat->Hp->Prop
 yld:Nat->Hp->V->Hp->Prop
 stop:Nat->Hp->Prop
def yK (X:Cx) (pins:List (Addr × Obj)) (H:Hp) (b:Addr):Prop:=
 H b=none/\b≠X.env.locals/\b∉X.fs/\(b∈X.ex\/X.s₀.heap.objs.size<=b)/\(∀ x c,X.env.cells.lookup x=some c->c≠b)/\∀ p∈X.pn++pins,p.1≠b
theorem zG.fpOk {X:Cx} {pins:List (Addr × Obj)} {σ:St} {H H':Hp} {s:Shared} {b:Addr} (I:zG X pins σ H s) (hb:s.heap.objs.size<=b) (hn:H' b=none):yK X pins H' b:=by
 refine ⟨hn,Nat.ne_of_gt (Nat.lt_of_lt_of_le I.lt hb),I.nofs hb,.inr (Nat.le_trans I.sz hb),λx c e z=>?_,λp hp z=>?_⟩
 ·obtain ⟨v,q⟩:=I.cell x c e
  exact absurd (Nat.lt_of_lt_of_le q.lt (by rw [z]; exact hb)) (Nat.lt_irrefl _)
 ·exact absurd (Nat.lt_of_lt_of_le (Heap.lt_size (I.pin p hp).1) (by rw [z]; exact hb)) (Nat.lt_irrefl _)
structure xf (P:Program) (w:World) (K:PySem.W.Frag) (tg:Expr) (J:It) (fp:List Addr) (it:Addr) (tn:Nat->Heap->Prop):Prop where
 mem:it∈fp
 obj:∀ i h,tn i h->∀ b∈fp,∃ o,h.get? b=some o/\∀ v,o.data≠.cell v
 keep:∀ i h h',tn i h->(∀ b∈fp,∀ o,h.get? b=some o->h'.get? b=some o)->tn i h'
 item:∀ (X:Cx),X.prog=P->X.w=w->X.K=K->X.calm=true->∀ (i:Nat) (pins:List (Addr × Obj)) (s:Shared) (σ:St) (H:Hp) (E:Value->Shared->Prop),zG X pins σ H s->(∀ b∈fp,yK X pins H b)->tn i s.heap->J.go i H->
  wpAny (model P w) X.A (pyNext (.ref it)) (λr s1=>∃ u,r=some u∧
   wpAny (model P w) X.A (letOwnedTupleGo tg (.ref it) u) (λ_ s2=>∃ x H',zG X pins σ H' s2/\zW x u/\J.yld i H x H'/\tn (i + 1) s2.heap/\∀ b∈fp,H' b=none) E s1) E s
 done:∀ (X:Cx),X.prog=P->X.w=w->X.K=K->X.calm=true->∀ (i:Nat) (pins:List (Addr × Obj)) (s:Shared) (σ:St) (H:Hp) (E:Value->Shared->Prop),zG X pins σ H s->(∀ b∈fp,yK X pins H b)->tn i s.heap->J.stop i H->
  wpAny (model P w) X.A (pyNext (.ref it)) (λr s1=>r=none/\zG X pins σ H s1) E s
 self:∀ (A:Around) (i:Nat) (s:Shared) (Q:Value->Shared->Prop) (E:Value->Shared->Prop),tn i s.heap->Q (.ref it) s->wpAny (model P w) A (pyIter (.ref it)) Q E s
abbrev TI:=St->Hp->(It->Hp->Prop)->Prop
def Qa (X:Cx) (pins:List (Addr × Obj)) (σ:St) (tg:Expr) (R:It->Hp->Prop) (itv:Value) (s2:Shared):Prop:=
 ∃ (it:Addr) (fp:List Addr) (tn:Nat->Heap->Prop) (J:It) (H':Hp),itv=.ref it/\zG X pins σ H' s2/\xf X.prog X.w X.K tg J fp it tn/\tn 0 s2.heap/\(∀ b∈fp,yK X pins H' b)/\R J H'
def PI (X:Cx) (tg iter:Expr) (wi:TI):Prop:=
 ∀ (pins:List (Addr × Obj)) (s:Shared) (σ:St) (H:Hp) (R:It->Hp->Prop),zG X pins σ H s->wi σ H R->
  wpAny (model X.prog X.w) X.A (eval iter X.env) (λv s1=>wpAny (model X.prog X.w) X.A (pyIter v) (Qa X pins σ tg R) X.xe s1) X.xe s
theorem Wj {M:Model} {A:Around} {E:Value->Shared->Prop} {s:Shared} {tg:Expr} {it:Addr} {u:Value} {o:Obj} {n:String} {vs:Array Value} {Q:Unit->Shared->Prop} (ho:s.heap.get? it=some o) (hc:o.cls=.type n) (hd:o.data=.fields vs)
  (hn:["enumerate","zip","dict_itemiterator","dict_reverseitemiterator","odict_iterator","itertools.zip_longest","itertools.pairwise"].contains n=false) (hQ:Q () s):wpAny M A (letOwnedTupleGo tg (.ref it) u) Q E s:=by
 unfold letOwnedTupleGo
 cases tg <;> first
  | exact wpAny_pure hQ
  | (cases u <;> first
    | exact wpAny_pure hQ
    | (refine wpAny_bind (wpAny_load ho ?_)
       rw [hc,hd]
       show wpAny M A (if (["enumerate","zip","dict_itemiterator","dict_reverseitemiterator","odict_iterator","itertools.zip_longest","itertools.pairwise"].contains n && vs[0]? == some (rawInt _))=true then _ else _) Q E s
       rw [if_neg (by intro h; rw [hn,Bool.false_and] at h; cases h)]
       exact wpAny_pure hQ))
def jF (K:PySem.W.Frag) (a:Addr):It:=
 ⟨λi H=>∃ xs x,zR K H a xs/\xs[i]? = some x,λi H x H'=>H'=H/\∀ xs,zR K H a xs->xs[i]? = some x,λi H=>∃ xs,zR K H a xs/\xs.length<=i⟩
def Wl (K:PySem.W.Frag) (a:Addr):It:=
 ⟨λi H=>∃ xs x,zt K H a xs/\xs[i]? = some x,λi H x H'=>H'=H/\∀ xs,zt K H a xs->xs[i]? = some x,λi H=>∃ xs,zt K H a xs/\xs.length<=i⟩
def jG (lo:Int) (n:Nat):It:=⟨λi _=>i < n,λi H x H'=>H'=H/\x=.int (lo + i),λi _=>n<=i⟩
theorem Qb {P:Program} {w:World} {K:PySem.W.Frag} {tg:Expr} (a it:Addr):xf P w K tg (jF K a) [it] it (λi h=>h.IsListIter it a i) where
 mem:=by simp
 obj:=λi h st b hb=>by
  have e:b=it:=by simpa using hb
  subst e
  obtain ⟨o,e,c,d⟩:=st
  exact ⟨o,e,λv z=>by rw [d] at z; cases z⟩
 keep:=λi h h' st k=>st.at λo e=>k it (by simp) o e
 item:=by
  intro X hP hw hK hc i pins s σ H E I hf st hg
  subst hP hw hK
  obtain ⟨xs,x,hq,hx⟩:=hg
  obtain ⟨its,rv,p,hz⟩:=I.list hq
  obtain ⟨u,hu,ru⟩:=rv.get hx
  obtain ⟨f0,f1,f2,f3,f4,f5⟩:=hf it (by simp)
  refine wpAny_pyNext_list_item st p.isList (x:=u) (by simpa using hu) λh' st' sb=>?_
  have I1:zG X pins σ H { s with heap:=h' }:=I.turned (t':=s.toks) (λb o hb e=>(sb.2 b hb).trans e) f0 f1 f3 f4 f5
  obtain ⟨o,e,c,d⟩:=id st'
  exact ⟨u,rfl,Wj (s:={ s with heap:=h' }) e c d (by decide) ⟨x,H,I1,ru,⟨rfl,λys hy=>by rw [I.list_inj hy hq]; exact hx⟩,st',λb hb=>(hf b hb).1⟩⟩
 done:=by
  intro X hP hw hK hc i pins s σ H E I hf st hg
  subst hP hw hK
  obtain ⟨xs,hq,hx⟩:=hg
  obtain ⟨its,rv,p,hz⟩:=I.list hq
  obtain ⟨f0,f1,f2,f3,f4,f5⟩:=hf it (by simp)
  have hl:=rv.length
  exact wpAny_pyNext_list_end (I.ok.hd hc) st p.isList (by simp; omega) λh' eb=>⟨rfl,I.turned (t':=s.toks) (λb o hb e=>eb b o hb e) f0 f1 f3 f4 f5⟩
 self:=λ_ _ _ _ _ st h=>wpAny_pyIter_listiter st h
theorem zKY {P:Program} {w:World} {K:PySem.W.Frag} {tg:Expr} (a it:Addr):xf P w K tg (Wl K a) [it] it (λi h=>h.IsTupleIter it a i) where
 mem:=by simp
 obj:=λi h st b hb=>by
  have e:b=it:=by simpa using hb
  subst e
  obtain ⟨o,e,c,d⟩:=st
  exact ⟨o,e,λv z=>by rw [d] at z; cases z⟩
 keep:=λi h h' st k=>st.at λo e=>k it (by simp) o e
 item:=by
  intro X hP hw hK hc i pins s σ H E I hf st hg
  subst hP hw hK
  obtain ⟨xs,x,hq,hx⟩:=hg
  obtain ⟨its,rv,p,hz⟩:=I.tuple hq
  obtain ⟨u,hu,ru⟩:=rv.get hx
  obtain ⟨f0,f1,f2,f3,f4,f5⟩:=hf it (by simp)
  refine wpAny_pyNext_tuple_item st (show s.heap.IsTuple a its.toArray from p) (x:=u) (by simpa using hu) λh' st' sb=>?_
  have I1:zG X pins σ H { s with heap:=h' }:=I.turned (t':=s.toks) (λb o hb e=>(sb.2 b hb).trans e) f0 f1 f3 f4 f5
  obtain ⟨o,e,c,d⟩:=id st'
  exact ⟨u,rfl,Wj (s:={ s with heap:=h' }) e c d (by decide) ⟨x,H,I1,ru,⟨rfl,λys hy=>by rw [I.tuple_inj hy hq]; exact hx⟩,st',λb hb=>(hf b hb).1⟩⟩
 done:=by
  intro X hP hw hK hc i pins s σ H E I hf st hg
  subst hP hw hK
  obtain ⟨xs,hq,hx⟩:=hg
  obtain ⟨its,rv,p,hz⟩:=I.tuple hq
  obtain ⟨f0,f1,f2,f3,f4,f5⟩:=hf it (by simp)
  have hl:=rv.length
  exact wpAny_pyNext_tuple_end (I.ok.hd hc) st (show s.heap.IsTuple a its.toArray from p) (by simp; omega) λh' eb=>⟨rfl,I.turned (t':=s.toks) (λb o hb e=>eb b o hb e) f0 f1 f3 f4 f5⟩
 self:=λ_ _ _ _ _ st h=>wpAny_pyIter_tupleiter st h
theorem zKZ {P:Program} {w:World} {K:PySem.W.Frag} {tg:Expr} (it:Addr) (lo:Int) (n:Nat):xf P w K tg (jG lo n) [it] it (λi h=>IsRangeIter h it (lo + (i:Nat) * 1) ((n:Int) - (i:Nat)) 1) where
 mem:=by simp
 obj:=λi h st b hb=>by
  have e:b=it:=by simpa using hb
  subst e
  exact ⟨_,st,λv z=>by
   have z':Data.fields _=Data.cell v:=z
   cases z'⟩
 keep:=λi h h' st k=>k it (by simp) _ st
 item:=by
  intro X hP hw hK hc i pins s σ H E I hf st hg
  subst hP hw hK
  obtain ⟨f0,f1,f2,f3,f4,f5⟩:=hf it (by simp)
  have W:=Walks.range (prog:=X.prog) (w:=X.w) (I.ok.hd hc) it lo 1 n
  refine W.item i s _ _ hg st λv h' tk hv st' kk=>?_
  obtain ⟨t,rfl⟩:=hv
  have I1:zG X pins σ H { s with heap:=h',toks:=tk }:=I.turned (λb o hb e=>kk b o (by simpa using hb) e) f0 f1 f3 f4 f5
  refine ⟨_,rfl,Wj (s:={ s with heap:=h',toks:=tk }) (n:="range_iterator") st' rfl rfl (by decide) ⟨.int (lo + i),H,I1,⟨t,?_⟩,⟨rfl,rfl⟩,st',λb hb=>(hf b hb).1⟩⟩
  rw [Int.mul_one]
 done:=by
  intro X hP hw hK hc i pins s σ H E I hf st hg
  subst hP hw hK
  obtain ⟨f0,f1,f2,f3,f4,f5⟩:=hf it (by simp)
  exact wpAny_pyNext_range_end (I.ok.hd hc) st (by have:n<=i:=hg; omega) λh' eb=>⟨rfl,I.turned (t':=s.toks) (λb o hb e=>eb b o hb e) f0 f1 f3 f4 f5⟩
 self:=λ_ _ _ _ _ st h=>wpAny_pyIter_rangeiter st h
end L2
namespace L2
open PySem PySem.Spec PyProof.Rows
section
variable {X:Cx} {tg:Expr}
def gv (K:PySem.W.Frag) (tl:TE):TI:=λσ H R=>tl σ H λx H1=>∃ a,x=.ref a/\(∃ xs,zR K H1 a xs)/\R (jF K a) H1
theorem Wm {l:Expr} {tl:TE} (hl:PE X l tl):PI X tg l (gv X.K tl):=by
 intro pins s σ H R I h
 refine zi (hl pins s σ H _ I h) λv s1 ⟨x,H1,I1,r1,q1⟩=>?_
 obtain ⟨a,e,⟨xs,hq⟩,q⟩:=q1
 subst e
 cases r1
 obtain ⟨its,rv,p,hz⟩:=I1.list hq
 refine wpAny_pyIter_list p.isList ?_
 refine ⟨s1.heap.objs.size,[s1.heap.objs.size],_,_,H1,rfl,I1.kept (t':=s1.toks) λb o e=>Heap.get?_push_of_some _ e,Qb a _,⟨_,Heap.get?_push_size _ rfl,rfl,rfl⟩,λb hb=>?_,q⟩
 have e:b=s1.heap.objs.size:=by simpa using hb
 subst e
 exact I1.fpOk (Nat.le_refl _) (I1.hok.fresh (Nat.le_refl _))
theorem zNd {pins:List (Addr × Obj)} {σ:St} {H:Hp} {s:Shared} {R:It->Hp->Prop} {E:Value->Shared->Prop} {lo hi:Int} {t u v:Tok} {tk:Nat} (I:zG X pins σ H s) (h1 : -(2 ^ 62)<=lo) (h2:lo < 2 ^ 62) (h3 : -(2 ^ 62)<=hi) (h4:hi < 2 ^ 62)
  (q:R (jG lo (hi - lo).toNat) H):wpAny (model X.prog X.w) X.A (pyIter (.ref s.heap.objs.size)) (Qa X pins σ tg R) E { s with heap:=s.heap.push { cls:=.type "range",data:=.fields #[.int lo t,.int hi u,.int 1 v] },toks:=tk }:=by
 refine wpAny_pyIter_range (IsRange.new ..) (small_one h1 h2 h3 h4) ?_
 have I1:zG X pins σ H { s with heap:=s.heap.push { cls:=.type "range",data:=.fields #[.int lo t,.int hi u,.int 1 v] },toks:=tk }:=I.kept λb o e=>Heap.get?_push_of_some _ e
 refine ⟨(s.heap.push { cls:=.type "range",data:=.fields #[.int lo t,.int hi u,.int 1 v] }).objs.size,[(s.heap.push { cls:=.type "range",data:=.fields #[.int lo t,.int hi u,.int 1 v] }).objs.size],_,_,H,rfl,
  I1.kept (t':=tk) λb o e=>Heap.get?_push_of_some _ e,zKZ _ lo (hi - lo).toNat,?_,λb hb=>?_,q⟩
 ·have e1:lo + ((0:Nat):Int) * 1=lo:=by simp
  have e2:(((hi - lo).toNat:Nat):Int) - ((0:Nat):Int)=Builtin.Range.rangeSize lo hi 1:=by rw [rangeSize_one]; split <;> omega
  show IsRangeIter _ _ (lo + ((0:Nat):Int) * 1) ((((hi - lo).toNat:Nat):Int) - ((0:Nat):Int)) 1
  rw [e1,e2]
  exact Heap.get?_push_size _ rfl
 ·have e:b=(s.heap.push { cls:=.type "range",data:=.fields #[.int lo t,.int hi u,.int 1 v] }).objs.size:=by simpa using hb
  subst e
  exact I1.fpOk (Nat.le_refl _) (I1.hok.fresh (Nat.le_refl _))
def gw (ta:TA):TI:=λσ H R=>ta σ H λvs H1=>∃ j:Int,vs=[.int j]/\-(2 ^ 62)<=j/\j < 2 ^ 62/\R (jG 0 j.toNat) H1
theorem qt {a:Expr} {ta:TA} {p pos:Pos} (hg:Gl X "range") (hm:X.mg "range" = none) (ha:PA X [a] ta) (hs:starEach [a] X.env=[(false,eval a X.env)]:=by rfl):PI X tg (.Call (.Name "range" p) [a] [] pos) (gw ta):=by
 intro pins s σ H R I h
 refine Call_ (jk I hg hm boot_range (PyProof.Rows.callWith_type1 (zi (ha pos pins s σ H _ I h) λus s1 ⟨vs,H1,I1,r1,q1⟩=>?_) hs rfl))
 obtain ⟨j,e,q1,q2,q⟩:=q1
 subst e
 cases r1 with
 | cons r rr=>
  cases rr
  obtain ⟨t,rfl⟩:=r
  exact call_range_1 (zNd I1 (by omega) (by omega) q1 q2 (by simpa using q))
def Wn (wi:TI) (g:TG) (tb:TS):TS:=λD σ H=>wi σ H λJ H1=>∃ W:Nat->Nat->St->Hp->Prop,(∃ m,W 0 m σ H1)/\∀ i m σ H,W i m σ H->
 (J.stop i H/\D.nx σ H)\/(J.go i H/\∃ N:St->Hp->Prop,(∀ σ' H',N σ' H'->∃ m',m' < m/\W (i + 1) m' σ' H')/\∀ x H',J.yld i H x H'->g x σ H' λσ2 H2=>tb { D with nx:=N,ct:=N,bk:=D.nx } σ2 H2)
def qu (fp:List Addr) (h:Heap):List (Addr × Obj):=fp.filterMap λb=>(h.get? b).map λo=>(b,o)
theorem qv {fp:List Addr} {h:Heap} {b:Addr} {o:Obj} (hb:b∈fp) (e:h.get? b=some o):(b,o)∈qu fp h:=List.mem_filterMap.mpr ⟨b,hb,by rw [e]; rfl⟩
theorem zL5 {fp:List Addr} {h:Heap} {p:Addr × Obj} (hp:p∈qu fp h):p.1∈fp/\h.get? p.1=some p.2:=by
 obtain ⟨b,hb,e⟩:=List.mem_filterMap.mp hp
 cases q:h.get? b with
 | none=>rw [q] at e; cases e
 | some o=>
  rw [q] at e
  have e':(b,o)=p:=Option.some.inj e
  subst e'
  exact ⟨hb,q⟩
theorem zG.pinned {pins:List (Addr × Obj)} {σ:St} {H:Hp} {s:Shared} {fp:List Addr} (I:zG X pins σ H s) (hf:∀ b∈fp,yK X pins H b) (ho:∀ b∈fp,∃ o,s.heap.get? b=some o/\∀ v,o.data≠.cell v):zG X (pins++qu fp s.heap) σ H s:=
 I.pins_of λp hp=>(List.mem_append.mp hp).elim (λz=>I.pin p (List.mem_append_right _ z)) λz=>by
  obtain ⟨hb,e⟩:=zL5 z
  obtain ⟨f0,f1,f2,_⟩:=hf p.1 hb
  obtain ⟨o,e',d⟩:=ho p.1 hb
  rw [e] at e'; cases e'
  exact ⟨e,f0,f1,f2,d⟩
theorem zG.unpinned {pins pl:List (Addr × Obj)} {σ:St} {H:Hp} {s:Shared} (I:zG X (pins++pl) σ H s):zG X pins σ H s:=I.pins_of λp hp=>I.pin p (List.mem_append_right _ (List.mem_append_left _ hp))
theorem Yd {iter:Expr} {body:List Stmt} {wi:TI} {g:TG} {tb:TS} {pos:Pos} (hp:PassesOwn (model X.prog X.w) X.A X.env X.xe) (hc:X.calm=true) (hi:PI X tg iter wi) (hg:PG X tg g) (hb:xO X body tb)
  (hs:∀ x,foldedSetIterable iter X.env x=pure x:=by intro _; rfl):PS X (.For tg iter body [] pos) (Wn wi g tb):=by
 intro pins s σ H D I h
 refine wpAny_For (zi (hi pins s σ H _ I h) λv s1 h1=>zi h1 λitv s2 h2=>?_) hs
 obtain ⟨it,fp,tn,J,H2,e,I2,T,st2,f2,W,⟨m0,w0⟩,turn⟩:=h2
 subst e
 have stat:∀ {H':Hp},(∀ b∈fp,H' b=none)->∀ b∈fp,yK X pins H' b:=λhn b hb=>⟨hn b hb,(f2 b hb).2⟩
 refine codeAny_forLoop_any (λn s'=>∃ i σ' H',zG X pins σ' H' s'/\tn i s'.heap/\(∀ b∈fp,H' b=none)/\W i n σ' H') ?_ m0 ⟨0,σ,H2,I2,st2,λb hb=>(f2 b hb).1,w0⟩
 rintro n s3 ⟨i,σ3,H3,I3,st3,fr3,w3⟩
 rcases turn i n σ3 H3 w3 with ⟨stop,qn⟩ | ⟨go,N,hN,step⟩
 ·refine wpAny_passesOwn hp (zi (T.done X rfl rfl rfl hc i pins s3 σ3 H3 X.xe I3 (stat fr3) st3 stop) λr s4 ⟨hr,I4⟩=>?_)
  subst hr
  exact wpAny_execs_nil ⟨σ3,H3,I4,qn⟩
 ·refine wpAny_passesOwn hp (zi (T.item X rfl rfl rfl hc i pins s3 σ3 H3 X.xe I3 (stat fr3) st3 go) λr s4 ⟨u,hr,h4⟩=>?_)
  subst hr
  refine wpAny_passesOwn hp (zi h4 λ_ s5 ⟨x,H5,I5,r5,y5,st5,fr5⟩=>?_)
  have I5':=I5.pinned (stat fr5) (T.obj _ _ st5)
  refine wpAny_passesOwn hp (zi (hg _ s5 σ3 H5 x u _ I5' r5 (step x H5 y5)) λ_ s6 ⟨σ6,H6,I6,q6⟩=>?_)
  refine wpAny_passesOwn hp (zi (hb _ s6 σ6 H6 _ I6 q6) λf s7 q7=>?_)
  have again:∀ {σ7:St} {H7:Hp},zG X (pins++qu fp s5.heap) σ7 H7 s7->N σ7 H7->∃ m,m < n/\∃ i σ' H',zG X pins σ' H' s7/\tn i s7.heap/\(∀ b∈fp,H' b=none)/\W i m σ' H':=λ{σ7 H7} I7 n7=>by
   obtain ⟨m',hm,w7⟩:=hN σ7 H7 n7
   refine ⟨m',hm,i + 1,σ7,H7,I7.unpinned,T.keep _ _ _ st5 λb hb o e=>(I7.pin (b,o) (List.mem_append_right _ (List.mem_append_right _ (qv hb e)))).1,λb hb=>?_,w7⟩
   obtain ⟨o,e,d⟩:=T.obj _ _ st5 b hb
   exact (I7.pin (b,o) (List.mem_append_right _ (List.mem_append_right _ (qv hb e)))).2.1
  cases f with
  | next=>obtain ⟨σ7,H7,I7,n7⟩:=q7; exact again I7 n7
  | cont=>obtain ⟨σ7,H7,I7,n7⟩:=q7; exact again I7 n7
  | brk=>obtain ⟨σ7,H7,I7,q7⟩:=q7; exact ⟨σ7,H7,I7.unpinned,q7⟩
  | ret v=>obtain ⟨x7,σ7,H7,I7,r7,q7⟩:=q7; exact ⟨x7,σ7,H7,I7.unpinned,r7,q7⟩
end
theorem Qc {K:PySem.W.Frag} {a:Addr} {xs:List V} {g:TG} {tb:TS} {D:xU} {σ:St} {H:Hp} (Pv:Nat->St->Hp->Prop) (h0:Pv 0 σ H) (hl:∀ i σ H,i<=xs.length->Pv i σ H->zR K H a xs)
  (hs:∀ i x σ H,xs[i]? = some x->Pv i σ H->g x σ H λσ2 H2=>tb { D with nx:=Pv (i + 1),ct:=Pv (i + 1),bk:=D.nx } σ2 H2) (hd:∀ σ H,Pv xs.length σ H->D.nx σ H) :
  ∃ W:Nat->Nat->St->Hp->Prop,(∃ m,W 0 m σ H)/\∀ i m σ H,W i m σ H->
   ((jF K a).stop i H/\D.nx σ H)\/((jF K a).go i H/\∃ N:St->Hp->Prop,(∀ σ' H',N σ' H'->∃ m',m' < m/\W (i + 1) m' σ' H')/\∀ x H',(jF K a).yld i H x H'->g x σ H' λσ2 H2=>tb { D with nx:=N,ct:=N,bk:=D.nx } σ2 H2):=by
 refine ⟨λi m σ H=>m=xs.length - i/\i<=xs.length/\Pv i σ H,⟨xs.length,by simp,Nat.zero_le _,h0⟩,?_⟩
 rintro i m σ H ⟨rfl,hi,p⟩
 have q:=hl i σ H hi p
 by_cases hlt:i < xs.length
 ·refine .inr ⟨⟨xs,xs[i],q,by simp [hlt]⟩,Pv (i + 1),λσ' H' p'=>⟨xs.length - (i + 1),by omega,rfl,hlt,p'⟩,λx H' y=>?_⟩
  obtain ⟨e,y⟩:=y
  subst e
  exact hs i x σ _ (y xs q) p
 ·have e:i=xs.length:=by omega
  subst e
  exact .inl ⟨⟨xs,q,Nat.le_refl _⟩,hd σ H p⟩
theorem zMM {lo:Int} {n:Nat} {g:TG} {tb:TS} {D:xU} {σ:St} {H:Hp} (Pv:Nat->St->Hp->Prop) (h0:Pv 0 σ H)
  (hs:∀ i σ H,i < n->Pv i σ H->g (.int (lo + i)) σ H λσ2 H2=>tb { D with nx:=Pv (i + 1),ct:=Pv (i + 1),bk:=D.nx } σ2 H2) (hd:∀ σ H,Pv n σ H->D.nx σ H) :
  ∃ W:Nat->Nat->St->Hp->Prop,(∃ m,W 0 m σ H)/\∀ i m σ H,W i m σ H->
   ((jG lo n).stop i H/\D.nx σ H)\/((jG lo n).go i H/\∃ N:St->Hp->Prop,(∀ σ' H',N σ' H'->∃ m',m' < m/\W (i + 1) m' σ' H')/\∀ x H',(jG lo n).yld i H x H'->g x σ H' λσ2 H2=>tb { D with nx:=N,ct:=N,bk:=D.nx } σ2 H2):=by
 refine ⟨λi m σ H=>m=n - i/\i<=n/\Pv i σ H,⟨n,by simp,Nat.zero_le _,h0⟩,?_⟩
 rintro i m σ H ⟨rfl,hi,p⟩
 by_cases hlt:i < n
 ·refine .inr ⟨hlt,Pv (i + 1),λσ' H' p'=>⟨n - (i + 1),by omega,rfl,hlt,p'⟩,λx H' y=>?_⟩
  obtain ⟨e,y⟩:=y
  subst e y
  exact hs i σ _ hlt p
 ·have e:i=n:=by omega
  subst e
  exact .inl ⟨Nat.le_refl _,hd σ H p⟩
end L2
namespace L2
open PySem PySem.Spec PyProof.Rows
abbrev R2:=V->V->Hp->VK->Prop
def xD (X:Cx) (f:Value->Value->Sem Value) (r:R2):Prop:=
 ∀ (pins:List (Addr × Obj)) (s:Shared) (σ:St) (H:Hp) (x y:V) (v u:Value) (Q:VK),zG X pins σ H s->zW x v->zW y u->r x y H Q->
  wpAny (model X.prog X.w) X.A (f v u) (EP X pins σ Q) X.xe s
def Wo (X:Cx) (f:Value->Sem Value) (r:V->Hp->VK->Prop):Prop:=
 ∀ (pins:List (Addr × Obj)) (s:Shared) (σ:St) (H:Hp) (x:V) (v:Value) (Q:VK),zG X pins σ H s->zW x v->r x H Q->
  wpAny (model X.prog X.w) X.A (f v) (EP X pins σ Q) X.xe s
def vh (X:Cx) (f:Value) (r:List V->Hp->VK->Prop):Prop:=
 ∀ (pins:List (Addr × Obj)) (s:Shared) (σ:St) (H:Hp) (xs:List V) (us:List Value) (Q:VK),zG X pins σ H s->zM xs us->r xs H Q->
  wpAny (model X.prog X.w) X.A (call f us) (EP X pins σ Q) X.xe s
def g6 (r:R2) (ta tb:TE):TE:=λσ H Q=>ta σ H λx H1=>tb σ H1 λy H2=>r x y H2 Q
def tUn (r:V->Hp->VK->Prop) (ta:TE):TE:=λσ H Q=>ta σ H λx H1=>r x H1 Q
def rI (C:Int->Int->Prop) (g:Int->Int->V):R2:=λx y H Q=>∃ i j,x=.int i/\y=.int j/\C i j/\Q (g i j) H
def v4 (g:Int->Int->V):R2:=λx y H Q=>∃ i j,x=.int i/\y=.int j/\Q (g i j) H
def rU (g:Int->V):V->Hp->VK->Prop:=λx H Q=>∃ i,x=.int i/\Q (g i) H
section
variable {X:Cx} {a b c:Expr} {ta tb tc:TE} {pos:Pos}
theorem jp (ha:PE X a ta) (hb:PE X b tb) {pins:List (Addr × Obj)} {s:Shared} {σ:St} {H:Hp} {R:V->V->Hp->Prop} (I:zG X pins σ H s)
  (h:ta σ H λx H1=>tb σ H1 λy H2=>R x y H2) {Q:Value->Shared->Prop} {f:Value->Value->Sem Value}
  (hf:∀ v u s2 x y H2,zG X pins σ H2 s2->zW x v->zW y u->R x y H2->wpAny (model X.prog X.w) X.A (f v u) Q X.xe s2) :
  wpAny (model X.prog X.w) X.A (eval a X.env) (λv s₁=>wpAny (model X.prog X.w) X.A (eval b X.env) (λu s₂=>wpAny (model X.prog X.w) X.A (f v u) Q X.xe s₂) X.xe s₁) X.xe s:=by
 refine zi (ha pins s σ H _ I h) λv s1 ⟨x,H1,I1,r1,q1⟩=>?_
 refine zi (hb pins s1 σ H1 _ I1 q1) λu s2 ⟨y,H2,I2,r2,q2⟩=>?_
 exact hf v u s2 x y H2 I2 r1 r2 q2
theorem wt {op:Operator} {r:R2} (ho:xD X (binaryOp op) r) (ha:PE X a ta) (hb:PE X b tb):PE X (.BinOp a op b pos) (g6 r ta tb):=by
 intro pins s σ H Q I h
 exact wpAny_BinOp (jp ha hb I h λv u s2 x y H2 I2 rx ry q=>ho pins s2 σ H2 x y v u Q I2 rx ry q)
theorem g9 {op:UnaryOp} {r:V->Hp->VK->Prop} (ho:Wo X (unaryOp op) r) (ha:PE X a ta):PE X (.UnaryOp op a pos) (tUn r ta):=by
 intro pins s σ H Q I h
 exact UnaryOp_ (zi (ha pins s σ H _ I h) λv s1 ⟨x,H1,I1,r1,q1⟩=>ho pins s1 σ H1 x v Q I1 r1 q1)
theorem Ye {f:Value->Value->Sem Value} {C:Int->Int->Prop} {g:Int->Int->Int}
  (rule:∀ (i j:Int) (t u:Tok) (s:Shared) (Q:Value->Shared->Prop) (E:Value->Shared->Prop),C i j->Q (.int (g i j) s.toks) { s with toks:=s.toks + 1 }->wpAny (model X.prog X.w) X.A (f (.int i t) (.int j u)) Q E s) :
  xD X f (rI C λi j=>.int (g i j)):=by
 intro pins s σ H x y v u Q I rx ry h
 obtain ⟨i,j,rfl,rfl,hc,q⟩:=h
 obtain ⟨t,rfl⟩:=rx
 obtain ⟨t',rfl⟩:=ry
 exact rule i j t t' s _ _ hc ⟨.int (g i j),H,I.tok _,⟨_,rfl⟩,q⟩
theorem kA {f:Value->Value->Sem Value} {g:Int->Int->Int}
  (rule:∀ (i j:Int) (t u:Tok) (s:Shared) (Q:Value->Shared->Prop) (E:Value->Shared->Prop),Q (.int (g i j) s.toks) { s with toks:=s.toks + 1 }->wpAny (model X.prog X.w) X.A (f (.int i t) (.int j u)) Q E s) :
  xD X f (v4 λi j=>.int (g i j)):=by
 intro pins s σ H x y v u Q I rx ry h
 obtain ⟨i,j,rfl,rfl,q⟩:=h
 obtain ⟨t,rfl⟩:=rx
 obtain ⟨t',rfl⟩:=ry
 exact rule i j t t' s _ _ ⟨.int (g i j),H,I.tok _,⟨_,rfl⟩,q⟩
theorem ur {f:Value->Value->Sem Value} {g:Int->Int->Bool}
  (rule:∀ (i j:Int) (t u:Tok) (s:Shared) (Q:Value->Shared->Prop) (E:Value->Shared->Prop),Q (.bool (g i j)) s->wpAny (model X.prog X.w) X.A (f (.int i t) (.int j u)) Q E s) :
  xD X f (v4 λi j=>.bl (g i j)):=by
 intro pins s σ H x y v u Q I rx ry h
 obtain ⟨i,j,rfl,rfl,q⟩:=h
 obtain ⟨t,rfl⟩:=rx
 obtain ⟨t',rfl⟩:=ry
 exact rule i j t t' s _ _ ⟨.bl (g i j),H,I,rfl,q⟩
def jq (i j:Int):Prop:=0<=j/\j<=1000000/\i.natAbs < 2 ^ 64
theorem kB:xD X (binaryOp .Add) (v4 λi j=>.int (i + j)):=kA λ_ _ _ _ _ _ _ q=>add_int q
theorem Yg:xD X (binaryOp .Sub) (v4 λi j=>.int (i - j)):=kA λ_ _ _ _ _ _ _ q=>sub_int q
theorem Yh:xD X (binaryOp .Mod) (rI (λ_ j=>j≠0) λi j=>.int (i.fmod j)):=Ye λ_ _ _ _ _ _ _ hc q=>mod_int' hc q
theorem zQe:xD X (binaryOp .Pow) (rI jq λi j=>.int (i ^ j.toNat)):=Ye λ_ _ _ _ _ _ _ hc q=>pow_int_small hc.1 hc.2.1 hc.2.2 q
theorem unI {f:Value->Sem Value} {g:Int->Int}
  (rule:∀ (i:Int) (t:Tok) (s:Shared) (Q:Value->Shared->Prop) (E:Value->Shared->Prop),Q (.int (g i) s.toks) { s with toks:=s.toks + 1 }->wpAny (model X.prog X.w) X.A (f (.int i t)) Q E s) :
  Wo X f (rU λi=>.int (g i)):=by
 intro pins s σ H x v Q I rx h
 obtain ⟨i,rfl,q⟩:=h
 obtain ⟨t,rfl⟩:=rx
 exact rule i t s _ _ ⟨.int (g i),H,I.tok _,⟨_,rfl⟩,q⟩
theorem zPz:Wo X (unaryOp .USub) (rU λi=>.int (-i)):=unI λ_ _ _ _ _ q=>neg_int q
end
def kC:V->V->Bool
 | .non,.non=>true | .non,.int _=>true | .int _,.non=>true | .non,.bl _=>true | .bl _,.non=>true | .non,.str _=>true | .str _,.non=>true
 | .int _,.int _=>true | .bl _,.bl _=>true | .str _,.str _=>true | .byt _,.byt _=>true
 | .int _,.str _=>true | .str _,.int _=>true | .bl _,.str _=>true | .str _,.bl _=>true
 | _,_=>false
def Qd:R2:=λx y H Q=>kC x y=true/\Q (.bl (decide (x=y))) H
def Qe:R2:=λx y H Q=>kC x y=true/\Q (.bl (!decide (x=y))) H
theorem Yi {i j:Int}:decide (V.int i=V.int j)=(i == j):=by
 rw [Bool.eq_iff_iff]
 simp
theorem Yj {i j:Bool}:decide (V.bl i=V.bl j)=(i == j):=by
 rw [Bool.eq_iff_iff]
 simp
theorem Qf {i j:Str}:decide (V.str i=V.str j)=(i == j):=by
 rw [Bool.eq_iff_iff]
 simp
theorem Qg {i j:Array UInt8}:decide (V.byt i=V.byt j)=(i.toList == j.toList):=by
 rw [Bool.eq_iff_iff]
 cases i
 cases j
 simp
section
variable {X:Cx} {a b c:Expr} {ta tb tc:TE} {pos:Pos}
theorem xH {pins:List (Addr × Obj)} {σ:St} {H:Hp} {s:Shared} {Q:VK} {k k':Bool} (I:zG X pins σ H s) (q:Q (.bl k) H) (e:k=k'):EP X pins σ Q (.bool k') s:=by
 subst e
 exact ⟨.bl k,H,I,rfl,q⟩
theorem kD:xD X (compareOp .Eq) Qd:=by
 intro pins s σ H x y v u Q I rx ry h
 obtain ⟨hs,q⟩:=h
 cases x with
 | non=>
  cases rx
  cases y with
  | non=>cases ry; exact PySem.EqNone.eq_none_none (xH I q (by simp))
  | bl j=>cases ry; exact PySem.EqNone.eq_none_bool (xH I q (by simp))
  | int j=>obtain ⟨t',rfl⟩:=ry; exact PySem.EqNone.eq_none_int (xH I q (by simp))
  | str j=>obtain ⟨t',rfl⟩:=ry; exact PySem.EqNone.eq_none_str (xH I q (by simp))
  | _=>exact absurd (show false=true from hs) Bool.false_ne_true
 | bl i=>
  cases rx
  cases y with
  | non=>cases ry; exact PySem.EqNone.eq_bool_none (xH I q (by simp))
  | bl j=>cases ry; exact eq_bool (xH I q Yj)
  | str j=>obtain ⟨t',rfl⟩:=ry; exact PySem.EqMixed.eq_bool_str (xH I q (by simp))
  | _=>exact absurd (show false=true from hs) Bool.false_ne_true
 | int i=>
  obtain ⟨t,rfl⟩:=rx
  cases y with
  | non=>cases ry; exact PySem.EqNone.eq_int_none (xH I q (by simp))
  | int j=>obtain ⟨t',rfl⟩:=ry; exact eq_int (xH I q Yi)
  | str j=>obtain ⟨t',rfl⟩:=ry; exact PySem.EqMixed.eq_int_str (xH I q (by simp))
  | _=>exact absurd (show false=true from hs) Bool.false_ne_true
 | str i=>
  obtain ⟨t,rfl⟩:=rx
  cases y with
  | non=>cases ry; exact PySem.EqNone.eq_str_none (xH I q (by simp))
  | bl j=>cases ry; exact PySem.EqMixed.eq_str_bool (xH I q (by simp))
  | int j=>obtain ⟨t',rfl⟩:=ry; exact PySem.EqMixed.eq_str_int (xH I q (by simp))
  | str j=>obtain ⟨t',rfl⟩:=ry; exact eq_str (xH I q Qf)
  | _=>exact absurd (show false=true from hs) Bool.false_ne_true
 | byt i=>
  obtain ⟨t,rfl⟩:=rx
  cases y with
  | byt j=>obtain ⟨t',rfl⟩:=ry; exact PySem.W.eq_bytes (xH I q Qg)
  | _=>exact absurd (show false=true from hs) Bool.false_ne_true
 | _=>cases y <;> exact absurd (show false=true from hs) Bool.false_ne_true
theorem kF:xD X (compareOp .NotEq) Qe:=by
 intro pins s σ H x y v u Q I rx ry h
 obtain ⟨hs,q⟩:=h
 cases x with
 | non=>
  cases rx
  cases y with
  | non=>cases ry; exact PySem.EqNone.ne_none_none (xH I q (by simp))
  | bl j=>cases ry; exact PySem.EqNone.ne_none_bool (xH I q (by simp))
  | int j=>obtain ⟨t',rfl⟩:=ry; exact PySem.EqNone.ne_none_int (xH I q (by simp))
  | str j=>obtain ⟨t',rfl⟩:=ry; exact PySem.EqNone.ne_none_str (xH I q (by simp))
  | _=>exact absurd (show false=true from hs) Bool.false_ne_true
 | bl i=>
  cases rx
  cases y with
  | non=>cases ry; exact PySem.EqNone.ne_bool_none (xH I q (by simp))
  | bl j=>cases ry; exact ne_bool (xH I q (congrArg not Yj))
  | str j=>obtain ⟨t',rfl⟩:=ry; exact PySem.EqMixed.ne_bool_str (xH I q (by simp))
  | _=>exact absurd (show false=true from hs) Bool.false_ne_true
 | int i=>
  obtain ⟨t,rfl⟩:=rx
  cases y with
  | non=>cases ry; exact PySem.EqNone.ne_int_none (xH I q (by simp))
  | int j=>obtain ⟨t',rfl⟩:=ry; exact ne_int (xH I q (congrArg not Yi))
  | str j=>obtain ⟨t',rfl⟩:=ry; exact PySem.EqMixed.ne_int_str (xH I q (by simp))
  | _=>exact absurd (show false=true from hs) Bool.false_ne_true
 | str i=>
  obtain ⟨t,rfl⟩:=rx
  cases y with
  | non=>cases ry; exact PySem.EqNone.ne_str_none (xH I q (by simp))
  | bl j=>cases ry; exact PySem.EqMixed.ne_str_bool (xH I q (by simp))
  | int j=>obtain ⟨t',rfl⟩:=ry; exact PySem.EqMixed.ne_str_int (xH I q (by simp))
  | str j=>obtain ⟨t',rfl⟩:=ry; exact ne_str (xH I q (congrArg not Qf))
  | _=>exact absurd (show false=true from hs) Bool.false_ne_true
 | byt i=>
  obtain ⟨t,rfl⟩:=rx
  cases y with
  | byt j=>obtain ⟨t',rfl⟩:=ry; exact PySem.W.ne_bytes (xH I q (congrArg not Qg))
  | _=>exact absurd (show false=true from hs) Bool.false_ne_true
 | _=>cases y <;> exact absurd (show false=true from hs) Bool.false_ne_true
theorem Qh:xD X (compareOp .Lt) (v4 λi j=>.bl (decide (i < j))):=ur λ_ _ _ _ _ _ _ q=>lt_int q
theorem Qi:xD X (compareOp .LtE) (v4 λi j=>.bl (decide (i<=j))):=ur λ_ _ _ _ _ _ _ q=>le_int q
theorem kG:xD X (compareOp .Gt) (v4 λi j=>.bl (decide (j < i))):=ur λ_ _ _ _ _ _ _ q=>gt_int q
theorem Qj:xD X (compareOp .GtE) (v4 λi j=>.bl (decide (j<=i))):=ur λ_ _ _ _ _ _ _ q=>ge_int q
def isObj:HO->Bool
 | .lst _=>true
 | .ins _ _ _=>true
 | _=>false
theorem xD.or {f:Value->Value->Sem Value} {r r':R2} (h:xD X f r) (h':xD X f r'):xD X f (λx y H Q=>r x y H Q\/r' x y H Q):=by
 intro pins s σ H x y v u Q I rx ry q
 rcases q with q | q
 ·exact h pins s σ H x y v u Q I rx ry q
 ·exact h' pins s σ H x y v u Q I rx ry q
theorem vi (b:Expr) {op:CmpOp} (h:op≠.In:=by decide) (h2:op≠.NotIn:=by decide):behindInMarks op b=false:=by
 have e1:(op == CmpOp.In)=false:=by cases op <;> first | rfl | exact absurd rfl h
 have e2:(op == CmpOp.NotIn)=false:=by cases op <;> first | rfl | exact absurd rfl h2
 cases b <;> simp [behindInMarks,e1,e2]
theorem Wp {op:CmpOp} {r:R2} (ho:xD X (compareOp op) r) (ha:PE X a ta) (hb:PE X b tb) (hm:behindInMarks op b=false):PE X (.Compare a [op] [b] pos) (g6 r ta tb):=by
 intro pins s σ H Q I h
 exact wpAny_Compare1 (jp ha hb I h λv u s2 x y H2 I2 rx ry q=>ho pins s2 σ H2 x y v u Q I2 rx ry q) hm
def Qk (t:TE):TT:=λσ H Q=>t σ H λx H'=>∃ k,x=.bl k/\Q k H'
theorem Ql {op:CmpOp} {r:R2} (ho:xD X (compareOp op) r) (ha:PE X a ta) (hb:PE X b tb) (hm:behindInMarks op b=false):PT X (.Compare a [op] [b] pos) (Qk (g6 r ta tb)):=by
 intro pins s σ H Q I h
 refine wpAny_isTrue_Compare1 (zi (ha pins s σ H _ I h) λv s1 ⟨x,H1,I1,r1,q1⟩=>zi (hb pins s1 σ H1 _ I1 q1) λu s2 ⟨y,H2,I2,r2,q2⟩=>
  zi (ho pins s2 σ H2 x y v u _ I2 r1 r2 q2) λc s3 ⟨z,H3,I3,r3,k,e,q3⟩=>?_) hm
 subst e
 cases r3
 exact wpAny_truthy_bool ⟨H3,I3,q3⟩
theorem Yk:(sizeLine:Nat) < 2 ^ 63:=by rw [sizeLine_eq]; decide
theorem jH {x:V} {us:List Value} (r:zM [x] us):∃ u,us=[u]/\zW x u:=by
 cases r with
 | cons r1 r2=>cases r2; exact ⟨_,rfl,r1⟩
theorem kH {x y:V} {us:List Value} (r:zM [x,y] us):∃ u w',us=[u,w']/\zW x u/\zW y w':=by
 cases r with
 | cons r1 r2=>
  cases r2 with
  | cons r3 r4=>cases r4; exact ⟨_,_,rfl,r1,r3⟩
theorem kI (hc:X.calm=true):vh X (.builtin "max") (λxs H Q=>∃ i j,xs=[.int i,.int j]/\Q (.int (if j > i then j else i)) H):=by
 intro pins s σ H xs us Q I r h
 obtain ⟨i,j,rfl,q⟩:=h
 obtain ⟨u,w',rfl,⟨t,rfl⟩,⟨t',rfl⟩⟩:=kH r
 refine max_two_ints (I.ok.hd hc) λh' tk k=>⟨_,H,I.kept k,?_,q⟩
 by_cases hj:j > i
 ·rw [if_pos hj,if_pos hj]; exact ⟨_,rfl⟩
 ·rw [if_neg hj,if_neg hj]; exact ⟨_,rfl⟩
theorem Yl:vh X (.type "int") (λxs H Q=>(∃ i,xs=[.int i]/\Q (.int i) H)\/∃ k,xs=[.bl k]/\Q (.int (if k then 1 else 0)) H):=by
 intro pins s σ H xs us Q I r h
 rcases h with ⟨i,rfl,q⟩ | ⟨k,rfl,q⟩
 ·obtain ⟨u,rfl,t,rfl⟩:=jH r
  exact call_int_int ⟨.int i,H,I,⟨_,rfl⟩,q⟩
 ·obtain ⟨u,rfl,r1⟩:=jH r
  cases r1
  exact call_int_bool ⟨.int (if k then 1 else 0),H,I.tok _,⟨_,rfl⟩,q⟩
end
end L2
namespace L2
open PySem PySem.Spec PyProof.Rows
structure vG (h:Heap) (x dx C:Addr) (mA:Str->Option Value):Prop where
 obj:h.get? x=some (PySem.W.instObj C dx)
 ns:h.Ns1 dx mA
 ne:dx≠x
theorem zME {h:Heap} {dx:Addr} {mA:Str->Option Value} (n:h.Ns1 dx mA):∃ od,h.get? dx=some od/\∀ name,PySem.W.lookIn name od=some (mA name):=by
 obtain ⟨o,es,ep,ho,hd,hk,_,hm⟩:=n
 refine ⟨o,ho,λname=>?_⟩
 have e:=hm name
 unfold nsFind findBy at e
 rw [<- Array.find?_toList] at e
 unfold PySem.W.lookIn
 rw [hd]
 dsimp only
 split
 ·rename_i y q
  rw [q] at e
  exact congrArg some e
 ·rename_i q
  rw [q] at e
  have a:es.toList.any (·.refKey)=false:=by
   rw [List.any_eq_false]
   intro y hy
   obtain ⟨z,t,hkey⟩:=hk y (Array.mem_toList_iff.mp hy)
   simp [DictEntry.refKey,hkey]
  have a':¬ es.toList.any (·.refKey)=true:=by rw [a]; exact Bool.false_ne_true
  rw [if_neg a']
  exact congrArg some e
theorem vG.look {h:Heap} {x dx C:Addr} {mA:Str->Option Value} (I:vG h x dx C mA):∃ od,PySem.W.InstAt h x (PySem.W.instObj C dx) C (some od)/\∀ name,PySem.W.lookIn name od=some (mA name):=
 let ⟨od,ho,hl⟩:=zME I.ns
 ⟨od,⟨I.obj,rfl,rfl,ho⟩,hl⟩
section
variable {prog:Program} {w:World} {A:Around} {E:Value->Shared->Prop} {s:Shared} {K:PySem.W.Frag} {x dx C f:Addr} {mA:Str->Option Value} {name:Str} {v:Value}
theorem zPb {expr:Bool} {Q:Value->Shared->Prop} (X:K.In s.heap) (I:vG s.heap x dx C mA) (hg:PySem.W.plainGet K C name=true) (hh:PySem.W.hasDictIn K C=true)
  (ha:PySem.W.findIn K (.ref C) name=some none) (hv:mA name=some v) (hv':PySem.W.handedIn v=true) (h:Q v { s with toks:=s.toks + 1 }) :
  wpAny (model prog w) A (getAttr (.ref x) name expr) Q E s:=by
 obtain ⟨od,J,hl⟩:=I.look
 exact PySem.W.get_value X J (PySem.W.plainGet_of hg).1 (PySem.W.findObj_own hh ha rfl (by rw [hl,hv])) hv' h
theorem zOF {pl:Sem Bool} {Q:Value × List Value->Shared->Prop} (X:K.In s.heap) (I:vG s.heap x dx C mA) (hg:PySem.W.plainGet K C name=true)
  (hf:PySem.W.findIn K (.ref C) name=some (some (.ref f))) (ht:PySem.W.isFn K (.ref f)=true) (hv:mA name=none) (h:Q (.ref f,[.ref x]) s) :
  wpAny (model prog w) A (getMethod (.ref x) name pl) Q E s:=by
 obtain ⟨od,J,hl⟩:=I.look
 exact PySem.W.method_fn X J (PySem.W.plainGet_of hg).1 (PySem.W.plainGet_of hg).2 hf (beq_iff_eq.mp ht) (by show (PySem.W.lookIn name od).map (·.isSome)=some false; rw [hl,hv]; rfl) h
theorem zO8 {ns:List Str} {Q:Unit->Shared->Prop} (X:K.In s.heap) (I:vG s.heap x dx C mA)
  (hs:PySem.W.findIn K (.ref C) "__setattr__" = some (some (.builtin "object.__setattr__"))) (hp:PySem.W.plainOver K C=true) (ht:PySem.W.takerIn K C name=some none) (hh:PySem.W.hasDictIn K C=true)
  (hw:PySem.Within mA ns) (hsz:ns.length<=sizeLine)
  (h:∀ h',vG h' x dx C (λy=>if y=name then some v else mA y)->Heap.SameBut dx s.heap h'->Q () { s with heap:=h',toks:=s.toks + 2 }) :
  wpAny (model prog w) A (setAttr (.ref x) name v) Q E s:=by
 obtain ⟨od,J,hl⟩:=I.look
 refine PySem.W.set_plain X J hs (PySem.W.osa_open (s:={ s with toks:=s.toks + 1 }) (r:=none) X J hp ht λb=>?_)
 obtain ⟨cd,hc,hd'⟩:=PySem.W.any_some hh
 have hx:s.heap.get? x=some ⟨.ref C,some dx,.plain,#[]⟩:=I.obj
 refine wpAny_bind (wpAny_pure (wpAny_bind (wpAny_bind (wpAny_loadPart hx (wpAny_bind (PySem.W.Looks.here (s:={ s with toks:=s.toks + 1 }) (PySem.W.looks_clsIn X hc) ?_))))))
 rw [hd']
 refine wpAny_pure (a:=some dx) (wpAny_bind (wpAny_pure (wpAny_bind ?_)))
 refine wpAny_nsSet1 (s:={ s with toks:=s.toks + 1 }) I.ns λh' hn2 hs2=>?_
 obtain ⟨oD,esD,epD,hoD,hdD,hcD⟩:=hn2.count (PySem.Within.cons name v hw)
 refine wpAny_bind (wpAny_lookBehind hoD (by rw [hdD]; exact pastItsLine_dict (Nat.le_trans hcD (by rw [List.length_cons]; omega))) ?_)
 exact wpAny_pure (h _ ⟨(hs2.2 _ (Ne.symm I.ne)).trans I.obj,hn2,I.ne⟩ hs2)
theorem zN6 {R:Result->Shared->Prop} {vs:List Value} {kw:List (Str × Value)} (X:K.In s.heap) (hm:PySem.W.makesIn K C=true)
  (hi:PySem.W.findIn K (.ref C) "__init__" = some (some (.ref f))) (hf:PySem.W.typeIn K (.ref f)=some (.type "function"))
  (h:codeAny (model prog w) (A.under (.builtin "type.__call__" ⟨.ref C :: vs,kw⟩)) (.call (.ref f) ⟨.ref (s.heap.objs.size + 1) :: vs,kw⟩) (PySem.W.InitBack (s.heap.objs.size + 1) R)
   { s with heap:=(s.heap.push PySem.W.emptyDict).push (PySem.W.instObj C s.heap.objs.size) }) :
  codeAny (model prog w) A (.call (.ref C) ⟨vs,kw⟩) R s:=by
 obtain ⟨hh,g,d,t,os⟩:=s
 exact PySem.W.make_core (PySem.W.makes_of X hm) (PySem.W.looks_findIn X hi) (λself=>PySem.W.bind_fn X self hf) (.inl rfl) h
end
def yi (f:Str) (v:V):List (Str × V)->List (Str × V)
 | []=>[(f,v)]
 | (g,x) :: r=>if g=f then (g,v) :: r else (g,x) :: yi f v r
theorem Qm (f g:Str) (v:V):∀ fs:List (Str × V),(yi f v fs).lookup g=if g=f then some v else fs.lookup g
 | []=>by
  show List.lookup g [(f,v)]=_
  by_cases h:g=f
  ·have hb:(g == f)=true:=beq_iff_eq.mpr h
   simp only [List.lookup,hb,if_pos h]
  ·have hb:(g == f)=false:=beq_eq_false_iff_ne.mpr h
   simp only [List.lookup,hb,if_neg h]
 | (k,x) :: r=>by
  have ih:=Qm f g v r
  rw [show yi f v ((k,x) :: r)=(if k=f then (k,v) :: r else (k,x) :: yi f v r) from rfl]
  by_cases hk:k=f
  ·rw [if_pos hk]
   by_cases h:g=k
   ·have hb:(g == k)=true:=beq_iff_eq.mpr h
    simp only [List.lookup,hb,if_pos (h.trans hk)]
   ·have hb:(g == k)=false:=beq_eq_false_iff_ne.mpr h
    simp only [List.lookup,hb,if_neg (λe:g=f=>h (e.trans hk.symm))]
  ·rw [if_neg hk]
   by_cases h:g=k
   ·have hb:(g == k)=true:=beq_iff_eq.mpr h
    simp only [List.lookup,hb,if_neg (λe:g=f=>hk (h.symm.trans e))]
   ·have hb:(g == k)=false:=beq_eq_false_iff_ne.mpr h
    simp only [List.lookup,hb]
    exact ih
theorem Wq (f:Str) (v:V):∀ fs:List (Str × V),f∈(yi f v fs).map (·.1)/\∀ g,g∈fs.map (·.1)->g∈(yi f v fs).map (·.1)
 | []=>⟨by simp [yi],λg h=>by simp at h⟩
 | (k,x) :: r=>by
  obtain ⟨i1,i2⟩:=Wq f v r
  rw [show yi f v ((k,x) :: r)=(if k=f then (k,v) :: r else (k,x) :: yi f v r) from rfl]
  by_cases hk:k=f
  ·rw [if_pos hk]
   subst hk
   exact ⟨by simp,λg h=>by simpa using h⟩
  ·rw [if_neg hk]
   refine ⟨?_,λg h=>?_⟩
   ·rw [List.map_cons]
    exact List.mem_cons_of_mem _ i1
   ·rw [List.map_cons] at h |-
    rcases List.mem_cons.mp h with e | e
    ·exact List.mem_cons.mpr (.inl e)
    ·exact List.mem_cons_of_mem _ (i2 g e)
theorem Qn (f:Str) (v:V):∀ fs:List (Str × V),(yi f v fs).length<=fs.length + 1
 | []=>by simp [yi]
 | (k,x) :: r=>by
  have ih:=Qn f v r
  rw [show yi f v ((k,x) :: r)=(if k=f then (k,v) :: r else (k,x) :: yi f v r) from rfl]
  by_cases hk:k=f
  ·rw [if_pos hk,List.length_cons,List.length_cons]; omega
  ·rw [if_neg hk,List.length_cons,List.length_cons]; omega
theorem xq.some_of {v:V} {o:Option Value} (r:xq (some v) o):∃ u,o=some u/\zW v u:=by
 cases o with
 | none=>exact (show False from r).elim
 | some u=>exact ⟨u,rfl,r⟩
theorem xq.none_of {o:Option Value} (r:xq none o):o=none:=by
 cases o with
 | none=>rfl
 | some u=>exact (show False from r).elim
theorem zMK {v:V} {u:Value} (r:zW v u):PySem.W.handedIn u=true:=by
 cases v with
 | non=>cases (show u=Value.none from r); rfl
 | bl b=>cases (show u=Value.bool b from r); rfl
 | int i=>obtain ⟨t,e⟩:=(show ∃ t,u=Value.int i t from r); cases e; rfl
 | str x=>obtain ⟨t,e⟩:=(show ∃ t,u=Value.str x t from r); cases e; rfl
 | byt b=>obtain ⟨t,e⟩:=(show ∃ t,u=Value.bytes b t from r); cases e; rfl
 | flt b=>obtain ⟨t,e⟩:=(show ∃ t,u=Value.float b t from r); cases e; rfl
 | ref a=>cases (show u=Value.ref a from r); rfl
 | ty n=>cases (show u=Value.type n from r); rfl
section
variable {P:Program} {w:World} {H H':Hp} {h h':Heap} {a C dx:Addr} {fs fs':List (Str × V)}
theorem Ym (hok:xN P w H h) (e:H a=some (.ins C dx fs)):∃ mA,vG h a dx C mA/\(∀ f,xq (fs.lookup f) (mA f))/\PySem.Within mA (fs.map (·.1))/\fs.length<=1000/\H dx=some (.own a):=by
 obtain ⟨d,z,ne,ob,mA,n,r,q⟩:=(show wG P w H h a (.ins C dx fs) from hok a _ e)
 exact ⟨mA,⟨ob,n,ne⟩,r,q,z,d⟩
end
structure uJ (K:PySem.W.Frag) (C:Addr):Prop where
 pg:PySem.W.plainGet K C Str.empty=true
 hd:PySem.W.hasDictIn K C=true
 po:PySem.W.plainOver K C=true
 sa:PySem.W.findIn K (.ref C) "__setattr__" = some (some (.builtin "object.__setattr__"))
theorem uJ.get {K:PySem.W.Frag} {C:Addr} (c:uJ K C) (f:Str):PySem.W.plainGet K C f=true:=c.pg
def yq (K:PySem.W.Frag) (C:Addr) (f:Str):Prop:=PySem.W.findIn K (.ref C) f=some none
theorem yq.taker {K:PySem.W.Frag} {C:Addr} {f:Str} (n:yq K C f):PySem.W.takerIn K C f=some none:=by
 unfold PySem.W.takerIn
 rw [show PySem.W.findIn K (.ref C) f=some none from n]
 rfl
structure jr (K:PySem.W.Frag) (C:Addr) (m:Str) (f:Addr):Prop where
 at_:PySem.W.findIn K (.ref C) m=some (some (.ref f))
 fn:PySem.W.isFn K (.ref f)=true
 kp:PySem.W.keepIn K (.ref f)=true
section
variable {X:Cx} {pins:List (Addr × Obj)} {σ:St} {H:Hp} {s:Shared} {a C dx:Addr} {fs:List (Str × V)} {f:Str} {v:V} {A:Around} {E:Value->Shared->Prop}
theorem zK3 {b:Bool} {Q:Value->Shared->Prop} (I:zG X pins σ H s) (e:H a=some (.ins C dx fs)) (c:uJ X.K C) (n:yq X.K C f) (l:fs.lookup f=some v)
  (h:∀ u s',zG X pins σ H s'->zW v u->Q u s'):wpAny (model X.prog X.w) A (getAttr (.ref a) f b) Q E s:=by
 obtain ⟨mA,O,r,_,_,_⟩:=Ym I.hok e
 obtain ⟨u,hu,ru⟩:=xq.some_of (v:=v) (o:=mA f) (by rw [<- l]; exact r f)
 exact zPb I.kIn O (c.get f) c.hd n hu (zMK ru) (h u _ (I.tok _) ru)
theorem zK2 {m:Str} {g:Addr} {pl:Sem Bool} {Q:Value × List Value->Shared->Prop} (I:zG X pins σ H s) (e:H a=some (.ins C dx fs)) (c:uJ X.K C) (k:jr X.K C m g) (l:fs.lookup m=none)
  (h:Q (.ref g,[.ref a]) s):wpAny (model X.prog X.w) A (getMethod (.ref a) m pl) Q E s:=by
 obtain ⟨mA,O,r,_,_,_⟩:=Ym I.hok e
 have hn:mA m=none:=xq.none_of (by rw [<- l]; exact r m)
 exact zOF I.kIn O (c.get m) k.at_ k.fn hn h
theorem zKe {y:V} {u:Value} {Q:Unit->Shared->Prop} (I:zG X pins σ H s) (e:H a=some (.ins C dx fs)) (c:uJ X.K C) (n:yq X.K C f) (hl:fs.length < 1000) (ry:zW y u)
  (h:∀ s',zG X pins σ (zU H a (.ins C dx (yi f y fs))) s'->Q () s'):wpAny (model X.prog X.w) A (setAttr (.ref a) f u) Q E s:=by
 obtain ⟨mA,O,r,wi,_,ho⟩:=Ym I.hok e
 have hz:(fs.map (·.1)).length<=sizeLine:=by rw [List.length_map,sizeLine_eq]; omega
 refine zO8 I.kIn O c.sa c.po n.taker c.hd wi hz λh' O' sb=>h _ ?_
 have hd:∃ o,h'.get? dx=some o:=let ⟨o,_,_,e',_⟩:=O'.ns; ⟨o,e'⟩
 refine I.write (x:=a) (e:=dx) (by rw [e]; exact True.intro) (.inr ho) (λb q hb z=>(sb.2 b hb).trans z) hd ?_
 refine ⟨by rw [zr O.ne]; exact ho,?_,O.ne,O'.obj,_,O'.ns,λg=>?_,λg hg=>?_⟩
 ·have:=Qn f y fs; omega
 ·show xq ((yi f y fs).lookup g) (if g=f then some u else mA g)
  rw [Qm]
  by_cases q:g=f
  ·rw [if_pos q,if_pos q]; exact ry
  ·rw [if_neg q,if_neg q]; exact r g
 ·by_cases q:g=f
  ·rw [q]; exact (Wq f y fs).1
  ·refine (Wq f y fs).2 g (wi g λz=>hg ?_)
   show (if g=f then some u else mA g)=none
   rw [if_neg q]; exact z
theorem zG.made (I:zG X pins σ H s):zG X pins σ (zU (zU H s.heap.objs.size (.own (s.heap.objs.size + 1))) (s.heap.objs.size + 1) (.ins C s.heap.objs.size []))
  { s with heap:=(s.heap.push PySem.W.emptyDict).push (PySem.W.instObj C s.heap.objs.size) }:=by
 have e1:(s.heap.push PySem.W.emptyDict).get? s.heap.objs.size=some PySem.W.emptyDict:=Heap.get?_push_size s.heap rfl
 have e2:((s.heap.push PySem.W.emptyDict).push (PySem.W.instObj C s.heap.objs.size)).get? (s.heap.objs.size + 1)=some (PySem.W.instObj C s.heap.objs.size):=by
  have:=Heap.get?_push_size (s.heap.push PySem.W.emptyDict) (o:=PySem.W.instObj C s.heap.objs.size) rfl
  rwa [Heap.size_push] at this
 have e3:(s.heap.push PySem.W.emptyDict).Ns s.heap.objs.size (λ_=>none):=⟨PySem.W.emptyDict,#[],_,e1,rfl,(λe he=>absurd he (by simp)),λ_=>rfl⟩
 have I1:=I.laid (a:=s.heap.objs.size) (o:=.own (s.heap.objs.size + 1)) (h':=s.heap.push PySem.W.emptyDict) (t':=s.toks) (λb u q=>Heap.get?_push_of_some _ q) (Nat.le_refl _) ⟨_,e1⟩
 refine I1.laid (a:=s.heap.objs.size + 1) (o:=.ins C s.heap.objs.size []) (t':=s.toks) (λb u q=>Heap.get?_push_of_some _ q) (Nat.le_of_eq (Heap.size_push _ _)) ?_
 have ne:s.heap.objs.size≠s.heap.objs.size + 1:=Nat.ne_of_lt (Nat.lt_succ_self _)
 refine ⟨by rw [zr ne,xM],Nat.zero_le _,ne,e2,λ_=>none,(Heap.Ns1.of_empty e3).at λo q=>Heap.get?_push_of_some _ q,λ_=>True.intro,λy hy=>absurd rfl hy⟩
theorem zPt {prog:Program} {w:World} {env:Env} {e:Expr} {f:Str} {pos:Pos} {s:Shared} {Q:Value->Shared->Prop} (hb:attributeBase e f env (eval e env)=eval e env)
  (h:wpAny (model prog w) A (eval e env) (λo s₁=>wpAny (model prog w) A (getAttr o f true) Q E s₁) E s):wpAny (model prog w) A (eval (.Attribute e f pos) env) Q E s:=
 Attribute_any_ h (by rw [arm_eval_Attribute,hb])
end
def Wr (K:PySem.W.Frag) (ta:TE) (f:Str):TE:=λσ H Q=>ta σ H λx H1=>∃ a C dx fs v,x=.ref a/\H1 a=some (.ins C dx fs)/\uJ K C/\yq K C f/\fs.lookup f=some v/\Q v H1
def kJ (K:PySem.W.Frag) (ta tv:TE) (f:Str):TS:=λD σ H=>tv σ H λy H1=>ta σ H1 λx H2=>∃ a C dx fs,x=.ref a/\H2 a=some (.ins C dx fs)/\uJ K C/\yq K C f/\fs.length < 1000∧
 D.nx σ (zU H2 a (.ins C dx (yi f y fs)))
section
variable {X:Cx} {o e value:Expr} {f:Str} {pos pos' tpos:Pos} {ta tv:TE}
theorem zQY (he:PE X e ta) (hb:attributeBase e f X.env (eval e X.env)=eval e X.env):PE X (.Attribute e f pos) (Wr X.K ta f):=by
 intro pins s σ H Q I h
 refine zPt hb (zi (he pins s σ H _ I h) λu s1 ⟨x,H1,I1,rx,a,C,dx,fs,v,ex,ea,c,n,l,q⟩=>?_)
 subst ex
 obtain rfl:u=Value.ref a:=rx
 exact zK3 I1 ea c n l λu' s2 I2 ru=>⟨v,H1,I2,ru,q⟩
theorem xr (ha:PE X o ta) (hv:PE X value tv) (hs:swapsWith value (some (.Attribute o f pos')) pos.line X.env=pure false):PS X (.Assign [.Attribute o f pos'] value pos) (kJ X.K ta tv f):=by
 intro pins s σ H D I h
 refine plainObj_wpAny_Assign_Attribute (zi (hv pins s σ H _ I h) λu s1 ⟨y,H1,I1,ry,q⟩=>zi (ha pins s1 σ H1 _ I1 q) λov s2 ⟨x,H2,I2,rx,a,C,dx,fs,ex,ea,c,n,l,q2⟩=>?_) hs
 subst ex
 obtain rfl:ov=Value.ref a:=rx
 exact zKe I2 ea c n l ry λs3 I3=>⟨σ,_,I3,q2⟩
end
section
variable {X:Cx} {pins:List (Addr × Obj)} {σ:St} {H:Hp} {s:Shared} {A:Around} {E:Value->Shared->Prop} {Q:Value->Shared->Prop} {c:Value} {b:Bool}
inductive yP (K:PySem.W.Frag) (H:Hp):V->Value->Prop where
 | non:yP K H .non (.type "NoneType")
 | bl (x:Bool):yP K H (.bl x) (.type "bool")
 | int (i:Int):yP K H (.int i) (.type "int")
 | str (x:Str):yP K H (.str x) (.type "str")
 | flt (x:UInt64):yP K H (.flt x) (.type "float")
 | lst {a:Addr} {xs:List V} (e:H a=some (.lst xs)):yP K H (.ref a) (.type "list")
 | frz {a:Addr} {o:Obj} {xs:List V} (e:H a=some (.frz o (.lst xs))):yP K H (.ref a) (.type "list")
 | tup {a:Addr} {xs:List V} (e:H a=some (.tup xs)):yP K H (.ref a) (.type "tuple")
 | dK {a:Addr} {kvs:List (wE × V)} (e:H a=some (.dK kvs)):yP K H (.ref a) (.type "dict")
 | dT {a:Addr} {kvs:List (List wE × V)} (e:H a=some (.dT kvs)):yP K H (.ref a) (.type "dict")
 | ins {a C dx:Addr} {fs:List (Str × V)} (e:H a=some (.ins C dx fs)) (cl:uJ K C) (ha:PySem.W.findIn K (.ref C) "__class__" = some (some (.builtin "object.__class__")))
   (hn:PySem.W.specialIn K (.builtin "object.__class__") "__get__" = some (some (.builtin "getset_descriptor.__get__"))) (htk:PySem.W.takesIn K (.builtin "object.__class__")=some true)
   (hm:PySem.W.mroIn K C (.type "object")=some true):yP K H (.ref a) (.ref C)
theorem Qo {x:V} {u t:Value} (I:zG X pins σ H s) (rx:zW x u) (ty:yP X.K H x t) (e:PySem.W.kitOne X.K t c=some b) (h:∀ tk,Q (.bool b) { s with toks:=tk }) :
  wpAny (model X.prog X.w) A (call (.builtin "isinstance") [u,c]) Q E s:=by
 cases ty with
 | non=>cases (show u=Value.none from rx); exact PySem.W.kia_one PySem.W.kitx_none I.kIn True.intro e (λz=>nomatch z) h
 | bl y=>cases (show u=Value.bool y from rx); exact PySem.W.kia_one PySem.W.kitx_bool I.kIn True.intro e (λz=>nomatch z) h
 | int i=>obtain ⟨t,q⟩:=(show ∃ t,u=Value.int i t from rx); cases q; exact PySem.W.kia_one PySem.W.kitx_int I.kIn True.intro e (λz=>nomatch z) h
 | str y=>obtain ⟨t,q⟩:=(show ∃ t,u=Value.str y t from rx); cases q; exact PySem.W.kia_one PySem.W.kitx_str I.kIn True.intro e (λz=>nomatch z) h
 | flt y=>obtain ⟨t,q⟩:=(show ∃ t,u=Value.float y t from rx); cases q; exact PySem.W.kia_one PySem.W.kitx_float I.kIn True.intro e (λz=>nomatch z) h
 | @lst a xs ea=>
  cases (show u=Value.ref a from rx)
  obtain ⟨_,_,n,_,h1⟩:=(show wG X.prog X.w H s.heap a (.lst xs) from I.hok a _ ea)
  exact PySem.W.kia_one PySem.W.kitx_list I.kIn ⟨_,h1,rfl⟩ e (λz=>nomatch z) h
 | @frz a ob xs ea=>
  cases (show u=Value.ref a from rx)
  obtain ⟨_,_,_,n,_,h1⟩:=(show wG X.prog X.w H s.heap a (.frz ob (.lst xs)) from I.hok a _ ea)
  exact PySem.W.kia_one PySem.W.kitx_list I.kIn ⟨_,h1,rfl⟩ e (λz=>nomatch z) h
 | @tup a xs ea=>
  cases (show u=Value.ref a from rx)
  obtain ⟨_,_,_,p⟩:=(show wG X.prog X.w H s.heap a (.tup xs) from I.hok a _ ea)
  obtain ⟨o,h1,h2,_⟩:=p
  exact PySem.W.kia_one PySem.W.kitx_tuple I.kIn ⟨o,h1,h2⟩ e (λz=>nomatch z) h
 | @dK a kvs ea=>
  cases (show u=Value.ref a from rx)
  obtain ⟨_,_,vs,_,p⟩:=(show wG X.prog X.w H s.heap a (.dK kvs) from I.hok a _ ea)
  obtain ⟨o,es,ep,h1,h2,_⟩:=p
  exact PySem.W.kia_one PySem.W.kitx_dict I.kIn ⟨o,h1,h2.1⟩ e (λz=>nomatch z) h
 | @dT a kvs ea=>
  cases (show u=Value.ref a from rx)
  obtain ⟨_,_,xs,_,o,es,ep,h1,h2,_⟩:=(show wG X.prog X.w H s.heap a (.dT kvs) from I.hok a _ ea)
  exact PySem.W.kia_one PySem.W.kitx_dict I.kIn ⟨o,h1,h2.1⟩ e (λz=>nomatch z) h
 | @ins a C dx fs ea cl ha hn htk hm=>
  cases (show u=Value.ref a from rx)
  obtain ⟨mA,O,_⟩:=Ym I.hok ea
  obtain ⟨od,J,_⟩:=O.look
  exact PySem.W.kia_one (PySem.W.kitx_own (cl.get _) cl.hd ha hn htk hm) I.kIn J e (λz=>nomatch z) h
end
end L2
namespace L2
open PySem PySem.Spec PyProof.Rows
structure zj (k:Nat) (A:Around):Prop where
 hd:A.handled=none
 dp:A.depth + 3 * k + 5 < recursionLimit
 un:A.units + 16 * k + 200 < cLine
theorem zj.mono {j k:Nat} {A:Around} (r:zj k A) (h:j<=k):zj j A:=⟨r.hd,by have:=r.dp; omega,by have:=r.un; omega⟩
theorem zj.deeper {k:Nat} {A:Around} (r:zj (k + 1) A) (env:Env):zj k (A.deeper env):=
 ⟨r.hd,by have:=r.dp; show A.depth + 1 + 3 * k + 5 < _; omega,by have:=r.un; show A.units + 3 + 16 * k + 200 < _; omega⟩
theorem zK0 {A:Around} {C:Addr} {us:List Value} {kw:List (Str × Value)}:(A.under (.builtin "type.__call__" ⟨.ref C :: us,kw⟩)).depth=A.depth + 1:=by
 first | rfl | simp [Around.under,Code.weight,Code.isCreation,Code.isGuard,Code.isCaller,Code.frames,Code.isFrame,guardIds]
theorem zKz {A:Around} {C:Addr} {us:List Value} {kw:List (Str × Value)}:(A.under (.builtin "type.__call__" ⟨.ref C :: us,kw⟩)).units=A.units + 1:=by
 first | rfl | simp [Around.under,Code.cUnits,Code.frames,Code.isFrame]
theorem zj.make {k:Nat} {A:Around} (r:zj (k + 1) A) (C:Addr) (us:List Value) (kw:List (Str × Value)):zj k (A.under (.builtin "type.__call__" ⟨.ref C :: us,kw⟩)):=
 ⟨r.hd,by have:=r.dp; rw [zK0]; omega,by have:=r.un; rw [zKz]; omega⟩
theorem zj.depth {k:Nat} {A:Around} (r:zj k A):A.depth < recursionLimit:=by have:=r.dp; omega
theorem zj.units {k:Nat} {A:Around} (r:zj k A):A.units + 64 < cLine:=by have:=r.un; omega
def vj:TA:=λ_ H Q=>Q [] H
def qw (ta:TE) (tr:TA):TA:=λσ H Q=>ta σ H λx H1=>tr σ H1 λxs H2=>Q (x :: xs) H2
section
variable {X:Cx} {e:Expr} {es:List Expr} {te:TE} {t:TA} {pos:Pos}
theorem yB:PA X [] vj:=λ_ _ _ _ H Q I h=>Calls.spliced_nil ⟨[],H,I,.nil,h⟩
theorem zg (ha:PE X e te) (hr:PA X es t) (hs:starEach (e :: es) X.env=(false,eval e X.env) :: starEach es X.env:=by rfl):PA X (e :: es) (qw te t):=by
 intro pos pins s σ H Q I h
 rw [hs]
 show wpAny _ _ (spliced ((false,eval e X.env) :: backTo pos (starEach es X.env))) _ _ s
 refine Calls.spliced_cons (zi (ha pins s σ H _ I h) λu s1 ⟨x,H1,I1,r1,q1⟩=>?_)
 exact zi (hr pos pins s1 σ H1 _ I1 q1) λus s2 ⟨xs,H2,I2,r2,q2⟩=>⟨x :: xs,H2,I2,.cons r1 r2,q2⟩
def Ws (t:TA):TE:=λσ H Q=>t σ H λxs H1=>xs.length<=sizeLine/\∀ p,H1 p=none->Q (.ref p) (zU H1 p (.tup xs))
def Wt (t:TA):TE:=λσ H Q=>t σ H λxs H1=>xs.length<=sizeLine/\∀ p,H1 p=none->Q (.ref p) (zU H1 p (.lst xs))
theorem Qp {x1} (h:PA X es t):PE X (.Tuple es x1 pos) (Ws t):=by
 intro pins s σ H Q I hq
 refine wpAny_Tuple_spliced (zi (h pos pins s σ H _ I hq) λus s1 ⟨xs,H1,I1,r,z,q⟩=>⟨by rw [<- r.length]; exact z,?_⟩)
 have hf:H1 s1.heap.objs.size=none:=I1.hok.fresh (Nat.le_refl _)
 refine ⟨.ref s1.heap.objs.size,zU H1 s1.heap.objs.size (.tup xs),I1.laid (t':=s1.toks) (λb u e=>Heap.get?_push_of_some _ e) (Nat.le_refl _) ?_,rfl,q _ hf⟩
 exact ⟨z,us,r,⟨_,Heap.get?_push_size _ rfl,rfl,_,rfl⟩⟩
theorem Qq (h:PA X es t):PE X (.List es pos) (Wt t):=by
 intro pins s σ H Q I hq
 refine wpAny_List_spliced (zi (h pos pins s σ H _ I hq) λus s1 ⟨xs,H1,I1,r,z,q⟩=>⟨by rw [<- r.length]; exact z,?_⟩)
 have hf:H1 s1.heap.objs.size=none:=I1.hok.fresh (Nat.le_refl _)
 refine ⟨.ref s1.heap.objs.size,zU H1 s1.heap.objs.size (.lst xs),I1.laid (t':=s1.toks) (λb u e=>Heap.get?_push_of_some _ e) (Nat.le_refl _) ?_,rfl,q _ hf⟩
 exact ⟨z,us,0,r,Heap.get?_push_size _ rfl⟩
end
abbrev Sp:=List V->Hp->VK->XK->Prop
abbrev vk:=List Env->Hp->Shared->XK->Value->Shared->Prop
structure vH (P:Program) (w:World) (K:PySem.W.Frag) (mg:Str->Option Value) (base:Heap) (A:Around) (outer:List Env) (s:Shared) (H:Hp):Prop where
 frames:A.frames=some outer
 mod:Mod K mg base
 bs:∀ b o,base.get? b=some o->s.heap.get? b=some o/\H b=none
 bsz:base.objs.size<=s.heap.objs.size
 funs:s.heap.FunFrames base outer
 frf:∀ b∈wq outer,H b=none
 hok:xN P w H s.heap
 bare:AllBare s.gens
def CE (outer:List Env) (P:Program) (w:World) (H:Hp) (s:Shared) (Q:VK) (u:Value) (s':Shared):Prop:=
 ∃ v H',s'.os=s.os/\AllBare s'.gens/\Un (wq outer) [] H H' s.heap s'.heap/\xN P w H' s'.heap/\zW v u/\Q v H'
def CR (CX:vk) (outer:List Env) (P:Program) (w:World) (H:Hp) (s:Shared) (Q:VK) (E:XK) (r:Result) (s':Shared):Prop:=
 match r with
 | .ok (.ret u)=>CE outer P w H s Q u s'
 | .ok _=>False
 | .error e=>CX outer H s E e s'
structure zH (P:Program) (w:World) (K:PySem.W.Frag) (mg:Str->Option Value) (base:Heap) (CX:vk) (k:Nat) (f:Addr) (fd:FuncData) (ps:List Str) (sp:Sp):Prop where
 len:∀ vs H Q E,sp vs H Q E->vs.length=ps.length
 run:∀ (A:Around) (outer:List Env) (s:Shared) (H:Hp) (args:Args) (us:List Value) (vs:List V) (Q:VK) (E:XK),zj k A->vH P w K mg base A outer s H->BindsTo s fd args (ps.zip us)->zM vs us->sp vs H Q E->
  codeAny (model P w) A (.call (.ref f) args) (CR CX outer P w H s Q E) s
theorem zH.mono {P:Program} {w:World} {K:PySem.W.Frag} {mg:Str->Option Value} {base:Heap} {CX:vk} {j k:Nat} {f:Addr} {fd:FuncData} {ps:List Str} {sp:Sp} (F:zH P w K mg base CX j f fd ps sp) (h:j<=k) :
  zH P w K mg base CX k f fd ps sp:=⟨F.len,λA outer s H args us vs Q E hr=>F.run A outer s H args us vs Q E (hr.mono h)⟩
theorem vH.make {P:Program} {w:World} {K:PySem.W.Frag} {mg:Str->Option Value} {base:Heap} {A:Around} {outer:List Env} {s:Shared} {H:Hp} (e:vH P w K mg base A outer s H) (C:Addr) (us:List Value) (kw:List (Str × Value)) :
  vH P w K mg base (A.under (.builtin "type.__call__" ⟨.ref C :: us,kw⟩)) outer s H:=⟨by first | exact e.frames | (simpa [Around.under,Code.envs,Code.isFrame,pushEnvs] using e.frames),e.mod,e.bs,e.bsz,e.funs,e.frf,e.hok,e.bare⟩
section
variable {X:Cx} {pins:List (Addr × Obj)} {σ:St} {H:Hp} {s s':Shared}
theorem zG.env0 (I:zG X pins σ H s):vH X.prog X.w X.K X.mg X.base X.A X.stack s H:=
 ⟨I.ok.frames,I.ok.mod,I.bs,Nat.le_trans I.ok.bsz I.sz,I.stack,I.stkFree,I.hok,I.bare⟩
theorem zG.after {Q:VK} {u:Value} (I:zG X pins σ H s) (h:CE X.stack X.prog X.w H s Q u s'):EP X pins σ Q u s':=by
 obtain ⟨v,H',os,bare,un,hok,r,q⟩:=h
 obtain ⟨hh,g,d,t,os'⟩:=s'
 obtain rfl:os'=s.os:=os
 exact ⟨v,H',I.call (h':=hh) (g':=g) (d':=d) (t':=t) (ch:=[]) un hok bare (λb z=>absurd z (by simp)),r,q⟩
end
def Wu (sp:Sp) (dvs:List V) (E:XK) (t:TA):TE:=λσ H Q=>t σ H λvs H1=>sp (vs++dvs) H1 Q E
def Qr (C:Addr) (m:Str) (sp:Sp) (dvs:List V) (E:XK) (ta:TE) (t:TA):TE:=λσ H Q=>ta σ H λx H1=>∃ a dx fs,x=.ref a/\H1 a=some (.ins C dx fs)/\fs.lookup m=none∧
 t σ H1 λvs H2=>sp (x :: (vs++dvs)) H2 Q E
def Yn (C:Addr) (sp:Sp) (dvs:List V) (E:XK) (t:TA):TE:=λσ H Q=>t σ H λvs H1=>∀ x dx,H1 x=none->H1 dx=none->dx≠x->
 sp (.ref x :: (vs++dvs)) (zU (zU H1 dx (.own x)) x (.ins C dx [])) (λv H2=>v=.non/\Q (.ref x) H2) E
def vI (K:PySem.W.Frag) (fd:FuncData) (ps:List Str) (ds:List Value):Prop:=
 ∀ (s:Shared) (us:List Value),K.In s.heap->(us++ds).length=ps.length->BindsTo s fd ⟨us,[]⟩ (ps.zip (us++ds))
theorem vI.all {K:PySem.W.Frag} {fd:FuncData} {ps:List Str} (h:∀ us:List Value,us.length=ps.length->bindArgs fd ⟨us,[]⟩=pure (ps.zip us)):vI K fd ps []:=λs us _ hl=>by
 rw [List.append_nil] at hl |-
 exact .of_eq (h us hl)
def qx (CX:vk) (X:Cx) (E:XK):Prop:=∀ (pins:List (Addr × Obj)) (σ:St) (H:Hp) (s:Shared) (e:Value) (s':Shared),zG X pins σ H s->CX X.stack H s E e s'->X.xe e s'
section
variable {X:Cx} {CX:vk} {k:Nat} {f C:Addr} {fd:FuncData} {ps:List Str} {sp:Sp} {dvs:List V} {ds:List Value} {E:XK} {x m:Str} {p pos apos:Pos} {e o:Expr} {es:List Expr} {ta:TE} {t:TA}
theorem Qs {pins:List (Addr × Obj)} {σ:St} {H:Hp} {s:Shared} {Q:VK} {us:List Value} {vs:List V} (F:zH X.prog X.w X.K X.mg X.base CX k f fd ps sp) (hr:zj k X.A) (hb:vI X.K fd ps ds) (hd:zM dvs ds) (hx:qx CX X E)
  (I:zG X pins σ H s) (r:zM vs us) (h:sp (vs++dvs) H Q E):wpAny (model X.prog X.w) X.A (call (.ref f) us) (EP X pins σ Q) X.xe s:=by
 have r2:zM (vs++dvs) (us++ds):=r.append hd
 have hl:(us++ds).length=ps.length:=by rw [<- r2.length]; exact F.len _ _ _ _ h
 refine wpAny_call (codeAny_mono (F.run X.A X.stack s H ⟨us,[]⟩ (us++ds) (vs++dvs) Q E hr I.env0 (hb s us I.kIn hl) r2 h) λr s' hq=>?_)
 cases r with
 | error e=>exact hx pins σ H s e s' I hq
 | ok fl=>
  cases fl with
  | ret u=>exact I.after hq
  | next=>exact False.elim hq
  | brk=>exact False.elim hq
  | cont=>exact False.elim hq
theorem Qt (F:zH X.prog X.w X.K X.mg X.base CX k f fd ps sp) (hr:zj k X.A) (hg:Gl X x) (hm:X.mg x=some (.ref f)) (hk:PySem.W.keepIn X.K (.ref f)=true) (hb:vI X.K fd ps ds) (hd:zM dvs ds) (hx:qx CX X E)
  (ha:PA X (e :: es) t) (hdb:(x == ("__debug__" : Str))=false:=by decide) (he:starEach (e :: es) X.env=(false,eval e X.env) :: starEach es X.env:=by rfl) (hpl:(backTo pos (starEach es X.env)).any (·.1)=false:=by rfl) :
  PE X (.Call (.Name x p) (e :: es) [] pos) (Wu sp dvs E t):=by
 intro pins s σ H Q I h
 refine wpAny_Call_Name_kw (WZ I hg hm ?_ hdb)
 refine PySem.W.callWith_K (h₀:=X.base) I.ok.mod.kin hk (zi (ha pos pins s σ H _ I h) λus s1 ⟨vs,H1,I1,r,q⟩=>⟨I1.kIn,?_⟩) he hpl
 exact Qs F hr hb hd hx I1 r q
theorem zNl {pl:Sem Bool} (he:PE X o ta) (c:uJ X.K C) (hm:jr X.K C m f) (F:zH X.prog X.w X.K X.mg X.base CX k f fd ps sp) (hr:zj k X.A) (hb:vI X.K fd ps ds) (hd:zM dvs ds) (hx:qx CX X E)
  (ht:eval (.Call (.Attribute o m apos) [] [] pos) X.env=(do
   let ov <- eval o X.env
   standAt apos.atName
   let (f,first) <- holding [ov] (getMethod ov m pl)
   callWith pos f first (backTo pos (starEach [] X.env)) (backToKw pos (keywordEach [] X.env))):=by rfl) :
  PE X (.Call (.Attribute o m apos) [] [] pos) (Qr C m sp dvs E ta vj):=by
 intro pins s σ H Q I h
 refine PySem.W.methodCall_KW (pl:=pl) (zi (he pins s σ H _ I h) λu s1 ⟨x,H1,I1,rx,a,dx,fs,ex,ea,l,q⟩=>?_) ht
 subst ex
 obtain rfl:u=Value.ref a:=rx
 refine zK2 I1 ea c hm l ?_
 exact PySem.W.callWith_K0 (first:=[.ref a]) I1.kIn hm.kp (Qs (us:=[.ref a]) (vs:=[.ref a]) F hr hb hd hx I1 (.cons rfl .nil) q)
structure Mk (K:PySem.W.Frag) (C f:Addr):Prop where
 makes:PySem.W.makesIn K C=true
 init:PySem.W.findIn K (.ref C) "__init__" = some (some (.ref f))
 fn:PySem.W.isFn K (.ref f)=true
 kp:PySem.W.keepIn K (.ref C)=true
theorem zNb {pins:List (Addr × Obj)} {σ:St} {H:Hp} {s:Shared} {Q:VK} {us:List Value} {vs:List V} (M:Mk X.K C f) (F:zH X.prog X.w X.K X.mg X.base CX k f fd ps sp) (hr:zj (k + 1) X.A) (hb:vI X.K fd ps ds) (hd:zM dvs ds)
  (hx:qx CX X E) (I:zG X pins σ H s) (r:zM vs us)
  (h:∀ x dx,H x=none->H dx=none->dx≠x->sp (.ref x :: (vs++dvs)) (zU (zU H dx (.own x)) x (.ins C dx [])) (λv H2=>v=.non/\Q (.ref x) H2) E) :
  wpAny (model X.prog X.w) X.A (call (.ref C) us) (EP X pins σ Q) X.xe s:=by
 have hq:=h (s.heap.objs.size + 1) s.heap.objs.size (I.hok.fresh (Nat.le_succ _)) (I.hok.fresh (Nat.le_refl _)) (Nat.ne_of_lt (Nat.lt_succ_self _))
 have I2:=zG.made (C:=C) I
 have r2:zM (V.ref (s.heap.objs.size + 1) :: (vs++dvs)) (Value.ref (s.heap.objs.size + 1) :: (us++ds)):=.cons rfl (r.append hd)
 have hl:(Value.ref (s.heap.objs.size + 1) :: us++ds).length=ps.length:=by
  have e:=r2.length
  rw [F.len _ _ _ _ hq] at e
  exact e.symm
 refine wpAny_call (zN6 (f:=f) I.kIn M.makes M.init (beq_iff_eq.mp M.fn) (codeAny_mono (F.run _ X.stack _ _ ⟨Value.ref (s.heap.objs.size + 1) :: us,[]⟩ (Value.ref (s.heap.objs.size + 1) :: (us++ds)) _ _ E (hr.make C us [])
  (I2.env0.make C us []) (hb _ (Value.ref (s.heap.objs.size + 1) :: us) I2.kIn hl) r2 hq) λr s' hq'=>?_))
 cases r with
 | error e=>exact hx pins σ _ _ e s' I2 hq'
 | ok fl=>
  cases fl with
  | ret u=>
   obtain ⟨v,H',I3,rv,ev,q3⟩:=I2.after hq'
   subst ev
   exact ⟨rv,⟨V.ref (s.heap.objs.size + 1),H',I3,rfl,q3⟩⟩
  | next=>exact False.elim hq'
  | brk=>exact False.elim hq'
  | cont=>exact False.elim hq'
theorem zPJ (M:Mk X.K C f) (F:zH X.prog X.w X.K X.mg X.base CX k f fd ps sp) (hr:zj (k + 1) X.A) (hg:Gl X x) (hm:X.mg x=some (.ref C)) (hb:vI X.K fd ps ds) (hd:zM dvs ds) (hx:qx CX X E)
  (ha:PA X (e :: es) t) (hdb:(x == ("__debug__" : Str))=false:=by decide) (he:starEach (e :: es) X.env=(false,eval e X.env) :: starEach es X.env:=by rfl) (hpl:(backTo pos (starEach es X.env)).any (·.1)=false:=by rfl) :
  PE X (.Call (.Name x p) (e :: es) [] pos) (Yn C sp dvs E t):=by
 intro pins s σ H Q I h
 refine wpAny_Call_Name_kw (WZ I hg hm ?_ hdb)
 refine PySem.W.callWith_K (h₀:=X.base) I.ok.mod.kin M.kp (zi (ha pos pins s σ H _ I h) λus s1 ⟨vs,H1,I1,r,q⟩=>⟨I1.kIn,?_⟩) he hpl
 exact zNb M F hr hb hd hx I1 r q
end
section
variable {X:Cx} {CX:vk} {k:Nat} {f C:Addr} {fd:FuncData} {ps ks:List Str} {sp:Sp} {E:XK} {x m:Str} {p pos apos kpos:Pos} {e o:Expr} {es:List Expr} {kws:List Keyword} {te ta:TE} {t tk:TA} {nm:Option Str}
variable {g:List Value->List Value->List Value} {gV:List V->List V->List V}
end
structure ze (N P:List Str) (sc:Scope):Prop where
 kind:sc.kind=.function
 co:sc.isCoroutine=false
 gen:sc.isGenerator=false
 nd:N.Nodup
 pre:N.take P.length=P
 par:∀ x∈P,sc.names.lookup x=some .local\/sc.names.lookup x=some .cell
 nofree:∀ y∈sc.names,y.2≠.free
theorem ze.a {N P:List Str} {s:Scope} (a:s.kind=.function:=by rfl) (b:s.isCoroutine=false:=by rfl) (c:s.isGenerator=false:=by rfl) (d:N.Nodup:=by decide +kernel) (e:N.take P.length=P:=by rfl) (f:∀ x∈P,s.names.lookup x=some .local\/s.names.lookup x=some .cell:=by decide +kernel) (g:∀ y∈s.names,y.2≠.free:=by decide +kernel):ze N P s:=⟨a,b,c,d,e,f,g⟩
theorem Qu {kindOf:Str->Option NameKind} {x:Str}:∀ {binds:List (Str × Value)} {m:Str->Option Value},(∀ v,(x,v)∉binds)->bindL kindOf binds m x=m x
 | [],_,_=>rfl
 | (n,v) :: r,m,h=>by
  unfold bindL
  rw [Qu λw hw=>h w (List.mem_cons_of_mem _ hw)]
  split
  ·have:x≠n:=by rintro rfl; exact h v List.mem_cons_self
   simp [this]
  ·rfl
theorem Qv {kindOf:Str->Option NameKind} {x:Str}:∀ {binds:List (Str × Value)} {m:Str->Option Value},(∀ v,(x,v)∉binds)->bindC kindOf binds m x=m x
 | [],_,_=>rfl
 | (n,v) :: r,m,h=>by
  unfold bindC
  rw [Qv λw hw=>h w (List.mem_cons_of_mem _ hw)]
  split
  ·rfl
  ·have:x≠n:=by rintro rfl; exact h v List.mem_cons_self
   simp [this]
theorem Qw {kindOf:Str->Option NameKind} {x:Str} {v:Value}:∀ {P:List Str} {vs:List Value} {i:Nat} {m:Str->Option Value},P.Nodup->P[i]? = some x->vs[i]? = some v->kindOf x=some .local->
  bindL kindOf (P.zip vs) m x=some v
 | [],_,_,_,_,h,_,_=>by simp at h
 | _ :: _,[],_,_,_,_,h,_=>by simp at h
 | p :: P,w :: vs,0,m,nd,h1,h2,hk=>by
  simp at h1 h2; subst h1; subst h2
  show bindL kindOf ((p,w) :: P.zip vs) m p=_
  unfold bindL
  rw [Qu λv hv=>(List.nodup_cons.mp nd).1 (List.of_mem_zip hv).1,if_pos hk]
  simp
 | p :: P,w :: vs,i + 1,m,nd,h1,h2,hk=>by
  show bindL kindOf ((p,w) :: P.zip vs) m x=_
  unfold bindL
  exact Qw (i:=i) (List.nodup_cons.mp nd).2 (by simpa using h1) (by simpa using h2) hk
theorem Qx {kindOf:Str->Option NameKind} {x:Str} {v:Value}:∀ {P:List Str} {vs:List Value} {i:Nat} {m:Str->Option Value},P.Nodup->P[i]? = some x->vs[i]? = some v->kindOf x≠some .local->
  bindC kindOf (P.zip vs) m x=some v
 | [],_,_,_,_,h,_,_=>by simp at h
 | _ :: _,[],_,_,_,_,h,_=>by simp at h
 | p :: P,w :: vs,0,m,nd,h1,h2,hk=>by
  simp at h1 h2; subst h1; subst h2
  show bindC kindOf ((p,w) :: P.zip vs) m p=_
  unfold bindC
  rw [Qv λv hv=>(List.nodup_cons.mp nd).1 (List.of_mem_zip hv).1,if_neg hk]
  simp
 | p :: P,w :: vs,i + 1,m,nd,h1,h2,hk=>by
  show bindC kindOf ((p,w) :: P.zip vs) m x=_
  unfold bindC
  exact Qx (i:=i) (List.nodup_cons.mp nd).2 (by simpa using h1) (by simpa using h2) hk
def start (N:List Str) (vs:List V):St:=vs.map some++List.replicate (N.length - vs.length) none
def xu (CX:vk) (P:Program) (w:World) (K:PySem.W.Frag) (mg:Str->Option Value) (base:Heap) (N:List Str) (qual:Str) (scope:Scope) (f:Addr) (cd:Value) (A:Around) (outer:List Env) (s:Shared) (H:Hp) (E:XK):Cx where
 prog:=P
 w:=w
 K:=K
 mg:=mg
 base:=base
 A:=A.deeper (envOfC qual scope s.heap.objs.size f cd)
 N:=N
 s₀:=s
 H₀:=H
 env:=envOfC qual scope s.heap.objs.size f cd
 outer:=outer
 stack:=envOfC qual scope s.heap.objs.size f cd :: outer
 ex:=[]
 calm:=true
 fn:=λ_=>true
 pn:=[]
 xe:=λe s'=>wpAny (model P w) (A.deeper (envOfC qual scope s.heap.objs.size f cd)) (leaving (envOfC qual scope s.heap.objs.size f cd) e) (λ_ s''=>CX outer H s E e s'') (λe' s''=>CX outer H s E e' s'') s'
theorem Qy {sc:Scope} {n:Nat} {x:Str} (h:sc.names.lookup x=some .cell):∃ c,(cellsFrom n sc.names []).lookup x=some c:=by
 have q:=PySem.W.cellsFrom_some sc.names n [] (.inl h)
 exact Option.isSome_iff_exists.mp q
theorem zMI {CX:vk} {P:Program} {w:World} {K:PySem.W.Frag} {mg:Str->Option Value} {base:Heap} {N ps:List Str} {qual:Str} {scope:Scope} {f:Addr} {cd:Value} {A:Around} {outer:List Env} {s s1:Shared} {H:Hp} {E:XK} {us:List Value} {vs:List V}
  (S:ze N ps scope) (hd:A.handled=none) (e0:vH P w K mg base A outer s H) (hl:vs.length=ps.length) (r:zM vs us)
  (x:InCallC s s.heap.objs.size (bindL (envOfC qual scope s.heap.objs.size f cd).kindOf (ps.zip us) λ_=>none) (cellsFrom (s.heap.objs.size + 1) scope.names []) (bindC (envOfC qual scope s.heap.objs.size f cd).kindOf (ps.zip us) λ_=>none) s1) :
  zG (xu CX P w K mg base N qual scope f cd A outer s H E) [] (start N vs) H s1:=by
 have hpl:ps.length<=N.length:=by have:=congrArg List.length S.pre; rw [List.length_take] at this; omega
 obtain ⟨h1,tk,rfl,hk⟩:=x.done
 have noA:∀ b:Addr,b∉(xu CX P w K mg base N qual scope f cd A outer s H E).ex:=λb z=>absurd (show b∈([]:List Addr) from z) (by simp)
 refine ⟨⟨e0.mod,S.kind,rfl,rfl,Nat.le_refl _,λy z c h1 h2=>?_,λy hy=>?_,λy c _ h=>?_,λ_=>hd,Around.frames_deeper e0.frames,.inr ⟨rfl,rfl⟩,λb z=>absurd z (noA b),e0.bs,e0.bsz,λb _ _=>noA b,λb z=>absurd z (noA b),e0.funs,e0.frf⟩,
  rfl,e0.bare,Un.kept hk,⟨_,x.toInCall.ns,λi y v h1 h2 h3=>?_⟩,λy c h=>⟨_,x.cell y c h⟩,e0.hok.fresh (Nat.le_refl _),λy c h=>?_,λp hp=>absurd (show p∈([]:List (Addr × Obj)) from hp) (by simp),e0.hok.kept hk,?_⟩
 ·exact name_of_addr x.apart (PySem.mem_of_lookup h1) (PySem.mem_of_lookup h2)
 ·have hy:scope.names.lookup y=some .cell\/scope.names.lookup y=some .free:=hy
  rcases hy with hy | hy
  ·exact Qy hy
  ·exact absurd rfl (S.nofree _ (PySem.mem_of_lookup hy))
 ·exact Nat.le_of_lt (x.above y c (PySem.mem_of_lookup h))
 ·have hi:i < vs.length:=by
   unfold start at h2
   by_cases hi:i < vs.length
   ·exact hi
   ·rw [List.getElem?_append_right (by simpa using hi)] at h2
    rw [List.getElem?_replicate] at h2
    split at h2 <;> cases h2
  have ha:vs[i]? = some v:=by
   unfold start at h2
   rw [List.getElem?_append_left (by simpa using hi),List.getElem?_map] at h2
   cases e:vs[i]? with
   | none=>rw [e] at h2; cases h2
   | some a=>rw [e] at h2; cases h2; rfl
  obtain ⟨u,hu,rv⟩:=r.get ha
  have hp:ps[i]? = some y:=by
   rw [<- S.pre,List.getElem?_take_of_lt (by omega)]; exact h1
  have ndP:ps.Nodup:=by rw [<- S.pre]; exact S.nd.sublist (List.take_sublist _ _)
  refine ⟨u,rv,?_⟩
  rcases S.par y (List.mem_of_getElem? hp) with k | k
  ·exact .inl ⟨k,Qw ndP hp hu k⟩
  ·obtain ⟨c,e⟩:=Qy (n:=s.heap.objs.size + 1) k
   refine .inr ⟨.inl k,c,e,?_⟩
   have q:=x.cell y c e
   rw [Qx ndP hp hu (by show scope.names.lookup y≠_; rw [k]; decide)] at q
   exact q
 ·exact e0.hok.fresh (Nat.le_of_lt (x.above y c (PySem.mem_of_lookup h)))
 ·unfold start
  show _=N.length
  rw [List.length_append,List.length_map,List.length_replicate]
  omega
theorem Qz {CX:vk} {P:Program} {w:World} {K:PySem.W.Frag} {mg:Str->Option Value} {base:Heap} {k:Nat} {f:Addr} {name qual:Str} {params:Arguments} {body:List Stmt} {scope:Scope} {dV kV doc pm cdv ct oc:Value} {an od:Option Addr}
  {osl:Array (Option Value)} {N ps:List Str} {sp:Sp} (lk:K.lookup f=some ⟨oc,od,.func (PySem.W.fnOf name qual params body scope dV kV doc pm an cdv ct),osl⟩) (hcd:PySem.W.codeIn K cdv qual=true) (S:ze N ps scope)
  (len:∀ vs H Q E,sp vs H Q E->vs.length=ps.length)
  (hbody:∀ (A:Around) (outer:List Env) (s:Shared) (H:Hp) (vs:List V) (Q:VK) (E:XK),zj k (A.deeper (envOfC qual scope s.heap.objs.size f cdv))->sp vs H Q E->
   ∃ t,xO (xu CX P w K mg base N qual scope f cdv A outer s H E) body t/\t { nx:=λ_ H'=>Q .non H',rt:=Q } (start N vs) H) :
  zH P w K mg base CX (k + 1) f (PySem.W.fnOf name qual params body scope dV kV doc pm an cdv ct) ps sp:=by
 refine ⟨len,λA outer s H args us vs Q E hr e0 hb r hsp=>?_⟩
 have hl:=len _ _ _ _ hsp
 have KX:K.In s.heap:=e0.mod.kin.keeps λb o e=>(e0.bs b o e).1
 have lim:s.heap.NoLimit:=e0.mod.nolimit.keeps λb o e=>(e0.bs b o e).1
 have hkind:∀ y∈ps.zip us,scope.names.lookup y.1=some .local\/(scope.names.lookup y.1=some .cell/\((cellsFrom (s.heap.objs.size + 1) scope.names []).lookup y.1).isSome=true):=λ⟨n,v⟩ hy=>by
  rcases S.par n (List.of_mem_zip hy).1 with q | q
  ·exact .inl q
  ·exact .inr ⟨q,PySem.W.cellsFrom_some _ _ _ (.inl q)⟩
 refine codeAny_call_function hr.depth (KX _ _ lk) rfl S.co S.gen rfl (PySem.W.codeRec_of KX hcd) (hb _ _ _ _ ?_)
 refine wpAny_newFunctionEnv_cells S.kind hkind λenv he s1 x=>?_
 subst he
 refine ⟨lim.keeps x.toInCall.keep,codeAny_func ?_⟩
 obtain ⟨t,ht,hq⟩:=hbody A outer s H vs Q E (hr.deeper _) hsp
 have I:zG (xu CX P w K mg base N qual scope f cdv A outer s H E) [] (start N vs) H s1:=zMI S hr.hd e0 hl r x
 refine wpAny_mono (ht [] s1 (start N vs) H _ I hq) (λfl s' hs=>?_) λe s' hs=>hs
 have fin:∀ {σ':St} {H':Hp} {v:V} {u:Value},zG (xu CX P w K mg base N qual scope f cdv A outer s H E) [] σ' H' s'->zW v u->Q v H'->CE outer P w H s Q u s':=
  λ{σ' H' v u} J rv q=>⟨v,H',J.os,J.bare,J.base,J.hok,rv,q⟩
 cases fl with
 | ret u=>
  obtain ⟨v,σ',H',J,rv,q⟩:=hs
  exact fin J rv q
 | next=>
  obtain ⟨σ',H',J,q⟩:=hs
  exact fin (v:=V.non) (u:=Value.none) J rfl q
 | brk=>
  obtain ⟨_,_,_,q⟩:=hs
  exact False.elim q
 | cont=>
  obtain ⟨_,_,_,q⟩:=hs
  exact False.elim q
end L2
namespace L2
open PySem PySem.Spec PyProof.Rows
section
variable {X:Cx} {x:Str} {p pos:Pos} {e:Expr} {es:List Expr} {t:TA} {id T:String} {r:List V->Hp->VK->Prop}
def kK (r:List V->Hp->VK->Prop) (t:TA):TE:=λσ H Q=>t σ H λvs H1=>r vs H1 Q
theorem xj (hc:vh X (.builtin id) r) (hg:Gl X x) (hm:X.mg x=none) (hv:bootBuiltins x=some (.builtin id)) (ha:PA X (e :: es) t) (hn:x≠"__name__":=by decide) (hdb:(x == ("__debug__" : Str))=false:=by decide)
  (he:starEach (e :: es) X.env=(false,eval e X.env) :: starEach es X.env:=by rfl) (hpl:(backTo pos (starEach es X.env)).any (·.1)=false:=by rfl):PE X (.Call (.Name x p) (e :: es) [] pos) (kK r t):=by
 intro pins s σ H Q I h
 refine wpAny_Call_Name_kw (jk I hg hm hv ?_ hn hdb)
 exact PyProof.Rows.callWith_builtin1 (zi (ha pos pins s σ H _ I h) λus s1 ⟨vs,H1,I1,r1,q1⟩=>hc pins s1 σ H1 vs us Q I1 r1 q1) he hpl
theorem Wv (hc:vh X (.type T) r) (hg:Gl X x) (hm:X.mg x=none) (hv:bootBuiltins x=some (.type T)) (ha:PA X (e :: es) t) (hn:x≠"__name__":=by decide) (hdb:(x == ("__debug__" : Str))=false:=by decide)
  (he:starEach (e :: es) X.env=(false,eval e X.env) :: starEach es X.env:=by rfl) (hpl:(backTo pos (starEach es X.env)).any (·.1)=false:=by rfl):PE X (.Call (.Name x p) (e :: es) [] pos) (kK r t):=by
 intro pins s σ H Q I h
 refine wpAny_Call_Name_kw (jk I hg hm hv ?_ hn hdb)
 exact PyProof.Rows.callWith_type1 (zi (ha pos pins s σ H _ I h) λus s1 ⟨vs,H1,I1,r1,q1⟩=>hc pins s1 σ H1 vs us Q I1 r1 q1) he hpl
end
end L2
namespace HT
open PySem PyProof.Rows
section
open PySem.SeqAt
open PySem.AutoSeq1 (wpAny_loadPart')
open PySem.MeetsSeq PySem.MeetsSeq2 PySem.MeetsSeq3
end
section
variable {prog:Program} {w:World} {A:Around} {E:Value->Shared->Prop} {s:Shared}
theorem cat_tup {t b:Addr} {vs ws:List Value} {Q:Value->Shared->Prop} (ht:IsTup s.heap t vs.toArray) (hb:IsTup s.heap b ws.toArray) (hv:vs≠[])
  (h1:ws=[]->Q (.ref t) s) (h2:ws≠[]->Q (.ref s.heap.objs.size) { s with heap:=s.heap.push { cls:=.type "tuple",data:=.seq (vs++ws).toArray } })
  (hsz:vs.length + ws.length<=sizeLine):wpAny (model prog w) A (binaryOp .Add (.ref t) (.ref b)) Q E s:=by
 obtain ⟨⟨cls,dd,data,sl⟩,ho,hc,n,hd⟩:=id ht
 obtain ⟨⟨cls2,dd2,data2,sl2⟩,ho2,hc2,n2,hd2⟩:=id hb
 simp only at hc hd hc2 hd2
 subst hc hd hc2 hd2
 have e:vs.toArray++ws.toArray=(vs++ws).toArray:=by simp
 by_cases hw:ws=[]
 ·exact concat_meets ⟨_,ho,rfl⟩ ⟨_,ho2,rfl⟩ noFill_tuple_add seq_tuple_add PySem.F.slot_tuple_add PySem.F.entry_tuple_add (PySem.F.args_tuple_add_2 _ _)
   (tuple_addW1 t b vs.toArray ws.toArray n n2 dd dd2 sl sl2 (by simpa using hv) (by simp [hw])) ⟨ho,ho2,h1 hw⟩
 ·refine concat_meets ⟨_,ho,rfl⟩ ⟨_,ho2,rfl⟩ noFill_tuple_add seq_tuple_add PySem.F.slot_tuple_add PySem.F.entry_tuple_add (PySem.F.args_tuple_add_2 _ _)
   (tuple_addW2 t b vs.toArray ws.toArray n n2 dd dd2 sl sl2 (by simpa using hv) (by simpa using hw) (by rw [List.size_toArray,List.size_toArray]; exact hsz)) ⟨ho,ho2,?_⟩
  rw [e]
  exact h2 hw
def sIx (n d:Nat):Option Int->Nat
 | none=>d
 | some v=>if v < 0 then (v + (n:Int)).toNat else min v.toNat n
theorem sIx_none (n d:Nat):sIx n d none=d:=rfl
theorem sIx_nat (n d k:Nat):sIx n d (some (k:Int))=min k n:=by
 show (if (k:Int) < 0 then ((k:Int) + (n:Int)).toNat else min (k:Int).toNat n)=min k n
 rw [if_neg (by omega),Int.toNat_natCast]
theorem zQA (n d:Nat) (hd:d<=n) (o:Option Int):sIx n d o<=n:=by
 cases o with
 | none=>exact hd
 | some v=>
  show (if v < 0 then (v + (n:Int)).toNat else min v.toNat n)<=n
  by_cases hv:v < 0
  ·rw [if_pos hv]; omega
  ·rw [if_neg hv]; exact Nat.min_le_right _ _
theorem Q0 (v:Int) (n d:Nat):(if v < 0 then max (v + (n:Int)) 0 else min v (n:Int))=((sIx n d (some v):Nat):Int):=by
 show (if v < 0 then max (v + (n:Int)) 0 else min v (n:Int))=(((if v < 0 then (v + (n:Int)).toNat else min v.toNat n):Nat):Int)
 by_cases hv:v < 0
 ·simp only [if_pos hv]; omega
 ·simp only [if_neg hv]; omega
theorem zK9 (lo hi:Option Int) (n:Nat):Builtin.Slice.sliceAdjust lo hi 1 (n:Int)=(((sIx n 0 lo:Nat):Int),((sIx n n hi:Nat):Int)):=by
 have h1:¬ ((1:Int) < 0):=by omega
 unfold Builtin.Slice.sliceAdjust
 simp only [h1,if_false]
 refine Prod.ext ?_ ?_
 ·cases lo with
  | none=>rfl
  | some v=>exact Q0 v n 0
 ·cases hi with
  | none=>rfl
  | some v=>exact Q0 v n n
theorem zKo (i j:Nat):Builtin.Slice.slicePlaces (i:Int) (j:Int) 1=j - i:=by
 unfold Builtin.Slice.slicePlaces
 have h1:(1:Int) > 0:=by omega
 simp only [h1,if_true,Int.ediv_one]
 split <;> omega
theorem Q1 {v:Value} {o:Option Int} {Q:Option Int->Shared->Prop} (p:IsPart v o) (h:Q o s):wpAny (model prog w) A (Builtin.Slice.slicePartIndex v) Q E s:=by
 cases p with
 | none=>exact slicePart_none h
 | int i t=>exact slicePart_int h
theorem Q2 {sl:Addr} {vl vu:Value} {lo hi:Option Int} {n:Nat} {Q:Int × Int × Nat->Shared->Prop} (hs:s.heap.IsSliceOf sl vl vu .none) (pl:IsPart vl lo) (pu:IsPart vu hi)
  (h:Q (((sIx n 0 lo:Nat):Int),1,sIx n n hi - sIx n 0 lo) s):wpAny (model prog w) A (Builtin.Slice.sliceApplied (.ref sl) (pure (n:Int))) Q E s:=by
 obtain ⟨os,hos,hcs,hds⟩:=id hs
 unfold Builtin.Slice.sliceApplied Builtin.Slice.sliceFields
 refine wpAny_bind (wpAny_bind (wpAny_field hos hds (x:=vl) rfl (wpAny_bind (wpAny_field hos hds (x:=vu) rfl (wpAny_bind (wpAny_field hos hds (x:=.none) rfl (wpAny_pure ?_)))))))
 refine wpAny_bind (slicePart_none ?_)
 show wpAny _ _ (if ((1:Int) == 0)=true then _ else _) _ _ s
 rw [if_neg (by decide)]
 refine wpAny_bind (Q1 pl (wpAny_bind (Q1 pu (wpAny_bind (wpAny_pure ?_)))))
 show wpAny _ _ (match Builtin.Slice.sliceAdjust lo hi 1 (n:Int) with | (lo,hi)=>pure (lo,(1:Int),Builtin.Slice.slicePlaces lo hi 1)) _ _ s
 rw [zK9 lo hi n]
 show wpAny _ _ (pure (((sIx n 0 lo:Nat):Int),(1:Int),Builtin.Slice.slicePlaces ((sIx n 0 lo:Nat):Int) ((sIx n n hi:Nat):Int) 1)) _ _ s
 rw [zKo]
 exact wpAny_pure h
theorem zNi (xs:Array Value) (i k:Nat):((List.range k).filterMap λ(m:Nat)=>xs[((i:Int) + (m:Int) * 1).toNat]?).toArray=((xs.toList.drop i).take k).toArray:=by
 have e:(λ(m:Nat)=>xs[((i:Int) + (m:Int) * 1).toNat]?)=λm=>xs[i + m]?:=by
  funext m
  have:((i:Int) + (m:Int) * 1).toNat=i + m:=by omega
  rw [this]
 rw [e]
 have:=pick_run xs i k
 rw [List.filterMap_map] at this
 have e2:((λx=>xs[x]?) ∘ λx=>i + x)=λm=>xs[i + m]?:=rfl
 rw [e2] at this
 rw [this]
theorem getItem_tuple_cut {t sl:Addr} {items:Array Value} {vl vu:Value} {lo hi:Option Int} {Q:Value->Shared->Prop} (ht:IsTup s.heap t items) (hs:s.heap.IsSliceOf sl vl vu .none) (pl:IsPart vl lo) (pu:IsPart vu hi)
  (hw:¬ (sIx items.size 0 lo=0/\sIx items.size items.size hi=items.size))
  (h:Q (.ref s.heap.objs.size) { s with heap:=s.heap.push { cls:=.type "tuple",data:=.seq ((items.toList.drop (sIx items.size 0 lo)).take (sIx items.size items.size hi - sIx items.size 0 lo)).toArray } })
  (hsz:items.size<=sizeLine):wpAny (model prog w) A (getItem (.ref t) (.ref sl)) Q E s:=by
 have htake:sizeOk (.seq ((items.toList.drop (sIx items.size 0 lo)).take (sIx items.size items.size hi - sIx items.size 0 lo)).toArray):=by
  show ((items.toList.drop (sIx items.size 0 lo)).take (sIx items.size items.size hi - sIx items.size 0 lo)).toArray.size<=sizeLine
  rw [List.size_toArray,List.length_take,List.length_drop,Array.length_toList]
  omega
 have hj:sIx items.size items.size hi<=items.size:=zQA _ _ (Nat.le_refl _) hi
 obtain ⟨os,hos,hcs,hds⟩:=id hs
 have hTs:s.TypeIs (.ref sl) "slice":=⟨os,hos,hcs⟩
 unfold getItem
 try with_reducible refine wpAny_holding ?_
 first | refine wpAny_bind (wpAny_pure ?_) | skip
 refine wpAny_bind (wpAny_sequenceKey ht.typeIs (by decide) ?_)
 refine wpAny_bind (wpAny_callSpecial?_slot (name:=Str.ofString "__getitem__") ht.typeIs PyProof.Rows.slot_tuple_getitem
  (wpAny_call_entry PyProof.Rows.slot_tuple_getitem ht.typeIs entry_tuple_getitem ?_ (args_tuple_getitem _ _)))
 show wpAny _ _ (Builtin.Tuple.tupleItemsOf (.ref t) >>= _) _ _ s
 refine wpAny_bind (tupleItemsOf_ ht ?_)
 refine wpAny_bind (wpAny_typeOf hTs ?_)
 rw [if_pos (by decide)]
 refine wpAny_bind (Q2 hs pl pu ?_)
 have hno:¬ ((((sIx items.size 0 lo:Nat):Int) == 0 && (1:Int) == 1 && (sIx items.size items.size hi - sIx items.size 0 lo) == items.size)=true):=by
  intro q
  rw [Bool.and_eq_true,Bool.and_eq_true] at q
  have q1:((sIx items.size 0 lo:Nat):Int)=0:=eq_of_beq q.1.1
  have q2:sIx items.size items.size hi - sIx items.size 0 lo=items.size:=eq_of_beq q.2
  exact hw ⟨by omega,by omega⟩
 show wpAny _ _ (if (((sIx items.size 0 lo:Nat):Int) == 0 && (1:Int) == 1 && (sIx items.size items.size hi - sIx items.size 0 lo) == items.size)=true then _ else _) _ _ s
 rw [if_neg hno,zNi]
 first
  | exact wpAny_bind (m:=Builtin.Tuple.tupleExact _) (wpAny_newObj_type (wpAny_pure ⟨_,rfl,wpAny_pure h⟩) htake)
  | exact wpAny_bind (m:=Builtin.Tuple.tupleExact _) (wpAny_newObj_type (wpAny_bind (wpAny_pure (wpAny_pure ⟨_,rfl,wpAny_pure h⟩))) htake)
  | exact wpAny_bind (wpAny_bind (m:=Builtin.Tuple.tupleExact _) (wpAny_newObj_type (wpAny_pure (wpAny_pure ⟨_,rfl,wpAny_pure h⟩)) htake))
  | exact wpAny_bind (wpAny_bind (m:=Builtin.Tuple.tupleExact _) (wpAny_newObj_type (wpAny_pure ⟨_,rfl,wpAny_pure h⟩) htake))
end
end HT
namespace L2
open PySem PySem.Spec PyProof.Rows
abbrev TO:=St->Hp->(Option Int->Hp->Prop)->Prop
def PO (X:Cx) (e:Option Expr) (t:TO):Prop:=
 ∀ (pins:List (Addr × Obj)) (s:Shared) (σ:St) (H:Hp) (Q:Option Int->Hp->Prop),zG X pins σ H s->t σ H Q->
  wpAny (model X.prog X.w) X.A (evalPart e X.env) (λu s'=>∃ o H',zG X pins σ H' s'/\IsPart u o/\Q o H') X.xe s
def zO2:TO:=λ_ H Q=>Q none H
def kL (t:TE):TO:=λσ H Q=>t σ H λx H1=>∃ i,x=.int i/\Q (some i) H1
section
variable {X:Cx} {e:Expr} {te:TE} {lo hi:Option Expr} {tl th:TO} {pos p2:Pos}
theorem zPF:PO X none zO2:=by
 intro pins s σ H Q I h
 rw [evalPart_none]
 exact wpAny_pure ⟨none,H,I,.none,h⟩
theorem zPE (h:PE X e te):PO X (some e) (kL te):=by
 intro pins s σ H Q I hw
 rw [evalPart_some]
 refine zi (h pins s σ H _ I hw) λu s1 ⟨x,H1,I1,r1,q1⟩=>?_
 obtain ⟨i,rfl,q⟩:=q1
 obtain ⟨t,rfl⟩:=r1
 exact ⟨some i,H1,I1,.int i t,q⟩
def jt (X:Cx) (r:V->Option Int->Option Int->Hp->VK->Prop):Prop:=
 ∀ (pins:List (Addr × Obj)) (s:Shared) (σ:St) (H:Hp) (x:V) (v vl vu:Value) (lo hi:Option Int) (sl:Addr) (Q:VK),zG X pins σ H s->zW x v->s.heap.IsSliceOf sl vl vu .none->IsPart vl lo->IsPart vu hi->r x lo hi H Q->
  ∃ T id,typeLookup (.type T) "__getitem__" = pure (some (.builtin id))/\s.TypeIs v T/\wpAny (model X.prog X.w) X.A (getItem v (.ref sl)) (EP X pins σ Q) X.xe s
def tSl (r:V->Option Int->Option Int->Hp->VK->Prop) (te:TE) (tl th:TO):TE:=λσ H Q=>te σ H λx H1=>tl σ H1 λl H2=>th σ H2 λu H3=>r x l u H3 Q
theorem zNk {r:V->Option Int->Option Int->Hp->VK->Prop} (hr:jt X r) (he:PE X e te) (hl:PO X lo tl) (hu:PO X hi th):PE X (.Subscript e (.Slice lo hi none p2) pos) (tSl r te tl th):=by
 intro pins s σ H Q I h
 refine Subscript_ (zi (he pins s σ H _ I h) λv s1 ⟨x,H1,I1,r1,q1⟩=>?_)
 refine wpAny_Slice (zi (hl pins s1 σ H1 _ I1 q1) λvl s2 ⟨l,H2,I2,pl,q2⟩=>zi (hu pins s2 σ H2 _ I2 q2) λvu s3 ⟨u,H3,I3,pu,q3⟩=>?_)
 rw [evalPart_none]
 refine wpAny_pure ?_
 have I4:zG X pins σ H3 { s3 with heap:=s3.heap.push { cls:=.type "slice",data:=.fields #[vl,vu,.none] } }:=I3.kept (t':=s3.toks) λb ob q=>Heap.get?_push_of_some _ q
 obtain ⟨T,id,hT,ht,hg⟩:=hr pins { s3 with heap:=s3.heap.push { cls:=.type "slice",data:=.fields #[vl,vu,.none] } } σ H3 x v vl vu l u s3.heap.objs.size Q I4 r1 (Heap.IsSliceOf.new ..) pl pu q3
 show wpAny (model X.prog X.w) X.A (subscriptTail e (.Slice lo hi none p2) v (.ref s3.heap.objs.size)) (EP X pins σ Q) X.xe { s3 with heap:=s3.heap.push { cls:=.type "slice",data:=.fields #[vl,vu,.none] } }
 exact tail_any (ops:=[.ref s3.heap.objs.size,v]) ht hT hg (by with_unfolding_all rfl)
def wc (xs:List V) (lo hi:Option Int):List V:=(xs.drop (HT.sIx xs.length 0 lo)).take (HT.sIx xs.length xs.length hi - HT.sIx xs.length 0 lo)
theorem Q3 (xs:List V) (lo hi:Option Int):(wc xs lo hi).length<=xs.length:=by
 unfold wc
 rw [List.length_take,List.length_drop]
 omega
def Ww (K:PySem.W.Frag):V->Option Int->Option Int->Hp->VK->Prop:=λx lo hi H Q=>∃ a xs,x=.ref a/\zt K H a xs∧
 ¬ (HT.sIx xs.length 0 lo=0/\HT.sIx xs.length xs.length hi=xs.length)/\∀ p,H p=none->Q (.ref p) (zU H p (.tup (wc xs lo hi)))
theorem zP9:jt X (Ww X.K):=by
 intro pins s σ H x v vl vu lo hi sl Q I rx hs pl pu h
 obtain ⟨a,xs,rfl,hx,hw,q⟩:=h
 cases rx
 obtain ⟨its,r,ht,hz⟩:=I.tuple hx
 have hlen:its.toArray.size=xs.length:=by rw [List.size_toArray]; exact r.length.symm
 refine ⟨"tuple",_,PyProof.Rows.slot_tuple_getitem.lookup,ht.typeIs,?_⟩
 refine HT.getItem_tuple_cut ht hs pl pu (by rw [hlen]; exact hw) ?_ (by rw [hlen]; exact hz)
 rw [hlen]
 refine ⟨.ref s.heap.objs.size,_,I.laid (t':=s.toks) (o:=.tup (wc xs lo hi)) (λb ob q=>Heap.get?_push_of_some _ q) (Nat.le_refl _) ?_,rfl,q _ (I.hok.fresh (Nat.le_refl _))⟩
 exact ⟨Nat.le_trans (Q3 xs lo hi) hz,_,(r.drop (HT.sIx xs.length 0 lo)).take (HT.sIx xs.length xs.length hi - HT.sIx xs.length 0 lo),IsTup.new _ _⟩
def kM (K:PySem.W.Frag):R2:=λx y H Q=>∃ a b xs ys,x=.ref a/\y=.ref b/\zt K H a xs/\zt K H b ys/\xs≠[]/\xs.length + ys.length<=sizeLine∧
 (ys=[]->Q (.ref a) H)/\(ys≠[]->∀ p,H p=none->Q (.ref p) (zU H p (.tup (xs++ys))))
theorem zM.nil_iff {xs:List V} {us:List Value} (r:zM xs us):us=[] ↔ xs=[]:=by
 cases r with
 | nil=>simp
 | cons _ _=>simp
theorem zPM:xD X (binaryOp .Add) (kM X.K):=by
 intro pins s σ H x y v u Q I rx ry h
 obtain ⟨a,b,xs,ys,rfl,rfl,ha,hb,hx,hz,q1,q2⟩:=h
 cases rx
 cases ry
 obtain ⟨its,r1,p1,_⟩:=I.tuple ha
 obtain ⟨its2,r2,p2,_⟩:=I.tuple hb
 refine HT.cat_tup p1 p2 (λz=>hx (r1.nil_iff.mp z)) (λz=>⟨.ref a,H,I,rfl,q1 (r2.nil_iff.mp z)⟩) (λz=>?_) (by rw [<- r1.length,<- r2.length]; exact hz)
 refine ⟨.ref s.heap.objs.size,_,I.laid (t':=s.toks) (o:=.tup (xs++ys)) (λb ob q=>Heap.get?_push_of_some _ q) (Nat.le_refl _) ?_,rfl,q2 (λw=>z (r2.nil_iff.mpr w)) _ (I.hok.fresh (Nat.le_refl _))⟩
 exact ⟨by rw [List.length_append]; exact hz,_,r1.append r2,IsTup.new _ _⟩
end
end L2
namespace L2
open PySem PySem.Spec PyProof.Rows
def wM (n:Nat) (i:Int):Option Nat:=if 0<=i then (if i < n then some i.toNat else none) else if -(n:Int)<=i then some (i + n).toNat else none
def yU {α:Type} (xs:List α) (i:Int):Option α:=(wM xs.length i).bind λj=>xs[j]?
theorem Q4 {n:Nat} {i:Int} {j:Nat} (h:wM n i=some j):seqIndex? i n=some j/\j < n/\-(n:Int)<=i/\i < n:=by
 unfold wM at h
 by_cases h0:0<=i
 ·rw [if_pos h0] at h
  by_cases h1:i < n
  ·rw [if_pos h1] at h
   have e:i.toNat=j:=Option.some.inj h
   exact ⟨by rw [seqIndex_of h0 h1,e],by omega,by omega,h1⟩
  ·rw [if_neg h1] at h; cases h
 ·rw [if_neg h0] at h
  by_cases h1 : -(n:Int)<=i
  ·rw [if_pos h1] at h
   have e:(i + n).toNat=j:=Option.some.inj h
   exact ⟨by rw [seqIndex_neg (by omega) h1,e],by omega,h1,by omega⟩
  ·rw [if_neg h1] at h; cases h
theorem Q5 {α:Type} {xs:List α} {i:Int} {v:α} (h:yU xs i=some v):∃ j,seqIndex? i xs.length=some j/\xs[j]? = some v/\j < xs.length/\-(xs.length:Int)<=i/\i < xs.length:=by
 unfold yU at h
 cases e:wM xs.length i with
 | none=>rw [e] at h; cases h
 | some j=>
  rw [e] at h
  obtain ⟨h1,h2,h3,h4⟩:=Q4 e
  exact ⟨j,h1,h,h2,h3,h4⟩
theorem Q6 {α:Type} {xs:List α} {j:Nat} {v:α} (h:xs[j]? = some v):yU xs (j:Int)=some v:=by
 have hj:j < xs.length:=(List.getElem?_eq_some_iff.mp h).1
 have e:wM xs.length (j:Int)=some j:=by
  unfold wM
  rw [if_pos (by omega),if_pos (by omega)]; simp
 unfold yU; rw [e]; exact h
def Wx (b:Expr):Prop:=∀ o i,subscripted b false o i=operate [o,i] (getItem o i)
def Yo (X:Cx) (r:R2):Prop:=
 ∀ (value slice:Expr) (pins:List (Addr × Obj)) (s:Shared) (σ:St) (H:Hp) (x y:V) (v u:Value) (Q:VK),zG X pins σ H s->zW x v->zW y u->r x y H Q->
  subscripted slice false v u=operate [v,u] (getItem v u)->wpAny (model X.prog X.w) X.A (subscriptTail value slice v u) (EP X pins σ Q) X.xe s
def Q7 (X:Cx) (id:String) (r:V->List V->Hp->VK->Prop):Prop:=
 ∀ (pins:List (Addr × Obj)) (s:Shared) (σ:St) (H:Hp) (x:V) (xs:List V) (v:Value) (us:List Value) (Q:VK),zG X pins σ H s->zW x v->zM xs us->r x xs H Q->
  wpAny (model X.prog X.w) X.A (call (.builtin id) (v :: us)) (EP X pins σ Q) X.xe s
section
variable {X:Cx} {a b:Expr} {ta tb:TE} {pos:Pos}
theorem v5 {r:R2} (hr:Yo X r) (ha:PE X a ta) (hb:PE X b tb) (hs:Wx b):PE X (.Subscript a b pos) (g6 r ta tb):=by
 intro pins s σ H Q I h
 exact Subscript_ (jp ha hb I h λv u s2 x y H2 I2 rx ry q=>hr a b pins s2 σ H2 x y v u Q I2 rx ry q (hs _ _))
def Wy (K:PySem.W.Frag):R2:=λx y H Q=>∃ p xs i v,x=.ref p/\y=.int i/\zR K H p xs/\yU xs i=some v/\Q v H
def Wz (K:PySem.W.Frag):R2:=λx y H Q=>∃ p xs i v,x=.ref p/\y=.int i/\zt K H p xs/\yU xs i=some v/\Q v H
theorem v6:Yo X (Wy X.K):=by
 intro value slice pins s σ H x y v u Q I rx ry h hs
 obtain ⟨p,xs,i,z,rfl,rfl,hq,he,q⟩:=h
 cases rx
 obtain ⟨t,rfl⟩:=ry
 obtain ⟨its,r,pl,hz⟩:=I.list hq
 obtain ⟨j,h1,h2,h3,h4,h5⟩:=Q5 he
 obtain ⟨w,ew,rw'⟩:=r.get h2
 have hl:=r.length
 have hn:=Yk
 have fin:EP X pins σ Q w s:=⟨z,H,I,rw',q⟩
 by_cases h0:0<=i
 ·have hj:i.toNat=j:=by
   rw [seqIndex_of h0 h5] at h1
   exact Option.some.inj h1
  exact item_listR pl.isList h0 (by omega) (by rw [hj]; simpa using ew) fin hs
 ·have hj:(i + (its.toArray.size:Int)).toNat=j:=by
   rw [seqIndex_neg (by omega) h4] at h1
   rw [List.size_toArray,<- hl]
   exact Option.some.inj h1
  exact subscriptTail_builtinR (x:=w) pl.isList.typeIs slot_list_getitem.lookup
   (wpAny_getItem_list_neg (Q:=λr s'=>r=w/\EP X pins σ Q r s') pl.isList (by omega) (by rw [List.size_toArray] <;> omega) (by omega) (by rw [hj]; simpa using ew) ⟨rfl,fin⟩) hs
theorem zQv:Yo X (Wz X.K):=by
 intro value slice pins s σ H x y v u Q I rx ry h hs
 obtain ⟨p,xs,i,z,rfl,rfl,hq,he,q⟩:=h
 cases rx
 obtain ⟨t,rfl⟩:=ry
 obtain ⟨its,r,pl,hz⟩:=I.tuple hq
 obtain ⟨j,h1,h2,h3,h4,h5⟩:=Q5 he
 obtain ⟨w,ew,rw'⟩:=r.get h2
 have hl:=r.length
 have hn:=Yk
 have fin:EP X pins σ Q w s:=⟨z,H,I,rw',q⟩
 exact subscriptTail_builtinR (x:=w) pl.typeIs slot_tuple_getitem.lookup
  (getItem_tuple (j:=j) (Q:=λr s'=>r=w/\EP X pins σ Q r s') pl (by omega) (by omega) (by rw [List.size_toArray,<- hl]; exact h1) (by simpa using ew) ⟨rfl,fin⟩) hs
theorem zKy (its:List Value) (n j:Nat) (u:Value):Obj.mapSeq (·.setIfInBounds j u) { cls:=.type "list",data:=.seq its.toArray n }={ cls:=.type "list",data:=.seq (its.set j u).toArray n }:=by
 simp [Obj.mapSeq]
theorem zG.lst {pins:List (Addr × Obj)} {σ:St} {H:Hp} {s:Shared} {p:Addr} {xs:List V} (I:zG X pins σ H s) (h:H p=some (.lst xs)) :
  ∃ (its:List Value) (n:Nat),zM xs its/\s.heap.get? p=some { cls:=.type "list",data:=.seq its.toArray n }/\xs.length<=sizeLine:=by
 obtain ⟨z,its,n,r,e⟩:=I.hok p _ h
 exact ⟨its,n,r,e,z⟩
theorem zG.lstUpd {pins:List (Addr × Obj)} {σ:St} {H:Hp} {s:Shared} {p:Addr} {xs ys:List V} {its its':List Value} {n n':Nat} {f:Obj->Obj} (I:zG X pins σ H s) (h:H p=some (.lst xs))
  (ho:s.heap.get? p=some { cls:=.type "list",data:=.seq its.toArray n }) (hf:f { cls:=.type "list",data:=.seq its.toArray n }={ cls:=.type "list",data:=.seq its'.toArray n' }) (r:zM ys its') (hz:ys.length<=sizeLine) (t:Nat) :
  zG X pins σ (zU H p (.lst ys)) { s with heap:=s.heap.update p f,toks:=t }:=by
 have e:(s.heap.update p f).get? p=some { cls:=.type "list",data:=.seq its'.toArray n' }:=by
  rw [Heap.get?_update_self f ho (by rw [hf] <;> rfl),hf]
 refine I.write (x:=p) (e:=p) (by rw [h]; trivial) (.inl rfl) (λb u hb q=>(Heap.get?_update_other _ _ (Ne.symm hb)).trans q) ⟨_,e⟩ ?_
 exact ⟨hz,its',n',r,e⟩
def kN:V->V->V->Hp->(Hp->Prop)->Prop:=λo i v H Q=>∃ p xs k j,o=.ref p/\i=.int k/\H p=some (.lst xs)/\wM xs.length k=some j/\Q (zU H p (.lst (xs.set j v)))
theorem kO:jo X kN:=by
 intro pins s σ H o i v ov iv u Q I ro ri rv h
 obtain ⟨p,xs,k,j,rfl,rfl,hp,hj,q⟩:=h
 cases ro
 obtain ⟨t,rfl⟩:=ri
 obtain ⟨its,n,r,ho,hz⟩:=I.lst hp
 obtain ⟨h1,h2,h3,h4⟩:=Q4 hj
 have hl:=r.length
 have hn:=Yk
 have I':zG X pins σ (zU H p (.lst (xs.set j v))) { s with heap:=s.heap.update p (Obj.mapSeq (·.setIfInBounds j u)) }:=
  I.lstUpd hp ho (zKy its n j u) (r.set rv j) (by rw [List.length_set]; exact hz) s.toks
 by_cases h0:0<=k
 ·have hk:k.toNat=j:=by
   rw [seqIndex_of h0 h4] at h1
   exact Option.some.inj h1
  exact PySem.W.ki_setAt ho h0 (by omega) (by rw [List.size_toArray,<- hl]; exact h4) (by rw [hk]; exact ⟨_,I',q⟩)
 ·have hk:(k + (its.toArray.size:Int)).toNat=j:=by
   rw [seqIndex_neg (by omega) h3] at h1
   rw [List.size_toArray,<- hl]
   exact Option.some.inj h1
  exact PySem.W.ki_setBack ho (by omega) (by rw [List.size_toArray,<- hl]; exact h3) (by omega) (by rw [hk]; exact ⟨_,I',q⟩)
theorem zH9 (lo hi:Option Int) (n:Nat):(sliceBounds lo hi none n).1=((HT.sIx n 0 lo:Nat):Int)/\(sliceBounds lo hi none n).2.1=((HT.sIx n n hi:Nat):Int)/\(sliceBounds lo hi none n).2.2=1:=by
 refine ⟨?_,?_,rfl⟩
 ·cases lo with
  | none=>simp [sliceBounds,HT.sIx]
  | some i=>
   simp only [sliceBounds,HT.sIx,Option.getD_none,show (1:Int) > 0 by decide,if_true]
   by_cases h:i < 0
   ·simp only [h,if_true] <;> omega
   ·simp only [h,if_false] <;> omega
 ·cases hi with
  | none=>simp [sliceBounds,HT.sIx]
  | some i=>
   simp only [sliceBounds,HT.sIx,Option.getD_none,show (1:Int) > 0 by decide,if_true]
   by_cases h:i < 0
   ·simp only [h,if_true] <;> omega
   ·simp only [h,if_false] <;> omega
theorem zG0 (its:List Value) (lo hi:Option Int):slicePick its.toArray lo hi none=((its.drop (HT.sIx its.length 0 lo)).take (HT.sIx its.length its.length hi - HT.sIx its.length 0 lo)).toArray:=by
 obtain ⟨h1,h2,h3⟩:=zH9 lo hi its.toArray.size
 unfold slicePick
 rw [h1,h2,h3]
 simp only [sliceRange_one,pick_run,List.size_toArray] <;> rfl
def W0 (K:PySem.W.Frag):V->Option Int->Option Int->Hp->VK->Prop:=λx lo hi H Q=>∃ a xs,x=.ref a/\zR K H a xs/\∀ p,H p=none->Q (.ref p) (zU H p (.lst (wc xs lo hi)))
theorem zO7:jt X (W0 X.K):=by
 intro pins s σ H x v vl vu lo hi sl Q I rx hs pl pu h
 obtain ⟨a,xs,rfl,hx,q⟩:=h
 cases rx
 obtain ⟨its,r,ht,hz⟩:=I.list hx
 have hlen:=r.length
 refine ⟨"list",_,slot_list_getitem.lookup,ht.isList.typeIs,?_⟩
 refine wpAny_getItem_list_slice ht.isList hs pl pu .none (by simp) ?_ (by rw [List.size_toArray] <;> omega)
 rw [zG0,<- hlen]
 refine ⟨.ref s.heap.objs.size,_,I.laid (t':=s.toks) (o:=.lst (wc xs lo hi)) (λb ob q=>Heap.get?_push_of_some _ q) (Nat.le_refl _) ?_,rfl,q _ (I.hok.fresh (Nat.le_refl _))⟩
 exact ⟨Nat.le_trans (Q3 xs lo hi) hz,_,0,(r.drop (HT.sIx xs.length 0 lo)).take (HT.sIx xs.length xs.length hi - HT.sIx xs.length 0 lo),Heap.get?_push_size _ rfl⟩
theorem yV:vh X (.builtin "len") (λxs H Q=>∃ p ys,xs=[.ref p]/\(zR X.K H p ys\/zt X.K H p ys)/\Q (.int ys.length) H):=by
 intro pins s σ H xs us Q I r h
 obtain ⟨p,ys,rfl,hq,q⟩:=h
 obtain ⟨u,rfl,rx⟩:=jH r
 cases rx
 have hn:=Yk
 rcases hq with hq | hq
 ·obtain ⟨its,r',pl,hz⟩:=I.list hq
  have hlen:=r'.length
  exact Calls.call_len_list pl.isList (by simp only [List.size_toArray] <;> omega) ⟨.int ys.length,H,I.tok _,⟨s.toks + 1,by rw [List.size_toArray,hlen]⟩,q⟩
 ·obtain ⟨its,r',pl,hz⟩:=I.tuple hq
  have hlen:=r'.length
  exact len_tuple pl (by simp only [List.size_toArray] <;> omega) ⟨.int ys.length,H,I.tok _,⟨s.toks + 1,by rw [List.size_toArray,hlen]⟩,q⟩
theorem uK:vh X (.type "list") (λxs H Q=>∃ p ys,xs=[.ref p]/\(zR X.K H p ys\/zt X.K H p ys)/\∀ l,H l=none->Q (.ref l) (zU H l (.lst ys))):=by
 intro pins s σ H xs us Q I r h
 obtain ⟨p,ys,rfl,hq,q⟩:=h
 obtain ⟨u,rfl,rx⟩:=jH r
 cases rx
 have fin:∀ (its:List Value),zM ys its->ys.length<=sizeLine->∀ (h':Heap) (c':Nat),(∀ b o',s.heap.get? b=some o'->h'.get? b=some o')->
   h'.get? s.heap.objs.size=some { cls:=.type "list",dict:=none,data:=.seq its.toArray c',slots:=#[] }->EP X pins σ Q (.ref s.heap.objs.size) { s with heap:=h' }:=λits r' hz h' c' kp e=>
  ⟨.ref s.heap.objs.size,_,I.laid (t':=s.toks) kp (Nat.le_refl _) (show wG X.prog X.w _ h' _ (.lst ys) from ⟨hz,its,c',r',e⟩),rfl,q _ (I.hok.fresh (Nat.le_refl _))⟩
 rcases hq with hq | hq
 ·obtain ⟨its,r',pl,hz⟩:=I.list hq
  have hlen:=r'.length
  obtain ⟨o,ho,hc,n,hd⟩:=pl.isList
  exact call_list_seq p (.inl rfl) ho hc hd (λh' c' kp e=>fin its r' hz h' c' kp e) (by simp only [List.size_toArray] <;> omega)
 ·obtain ⟨its,r',pl,hz⟩:=I.tuple hq
  have hlen:=r'.length
  obtain ⟨o,ho,hc,n,hd⟩:=pl
  exact call_list_seq p (.inr rfl) ho hc hd (λh' c' kp e=>fin its r' hz h' c' kp e) (by simp only [List.size_toArray] <;> omega)
theorem wd:vh X (.type "tuple") (λxs H Q=>∃ p ys,xs=[.ref p]/\((zR X.K H p ys/\∀ l,H l=none->Q (.ref l) (zU H l (.tup ys)))\/(zt X.K H p ys/\Q (.ref p) H))):=by
 intro pins s σ H xs us Q I r h
 obtain ⟨p,ys,rfl,h⟩:=h
 obtain ⟨u,rfl,rx⟩:=jH r
 cases rx
 rcases h with ⟨hq,q⟩ | ⟨hq,q⟩
 ·obtain ⟨its,r',pl,hz⟩:=I.list hq
  have hlen:=r'.length
  refine call_tuple_list pl.isList (λh' kp=>?_) (by simp only [List.size_toArray] <;> omega)
  have I1:zG X pins σ H { s with heap:=h' }:=I.kept (t':=s.toks) kp
  have I2:zG X pins σ (zU H h'.objs.size (.tup ys)) { s with heap:=h'.push { cls:=.type "tuple",data:=.seq its.toArray } }:=
   I1.laid (t':=s.toks) (λb o e=>Heap.get?_push_of_some _ e) (Nat.le_refl _) (show wG X.prog X.w _ _ _ (.tup ys) from ⟨hz,its,r',IsTup.new _ _⟩)
  exact ⟨.ref h'.objs.size,_,I2,rfl,q _ (I1.hok.fresh (Nat.le_refl _))⟩
 ·obtain ⟨its,r',pl,hz⟩:=I.tuple hq
  exact call_tuple_same pl ⟨.ref p,H,I,rfl,q⟩
def Q8 (K:PySem.W.Frag) (T:String) (x:V) (H:Hp):Prop:=match x with
 | .str _=>T = "str"
 | .int _=>T = "int"
 | .ref p=>(T = "list"/\∃ xs,zR K H p xs)\/(T = "tuple"/\∃ o,K.lookup p=some o/\o.cls=.type "tuple"/\o.dict=none)∨
   (T = "dict"/\((∃ kvs,H p=some (.dK kvs))\/∃ kvs,H p=some (.dT kvs)))\/(T = "set"/\∃ S n,H p=some (.set S n))
 | _=>False
theorem zP0 {pins:List (Addr × Obj)} {σ:St} {H:Hp} {s:Shared} {T:String} {x:V} {v:Value} (I:zG X pins σ H s) (r:zW x v) (ty:Q8 X.K T x H) :
  s.TypeIs v T/\∀ a,v=.ref a->∃ ob,s.heap.get? a=some ob/\ob.dict=none:=by
 cases x with
 | str z=>
  obtain ⟨t,rfl⟩:=r
  cases (show T = "str" from ty)
  exact ⟨typeIs_str s z t,λ_ e=>nomatch e⟩
 | int i=>
  obtain ⟨t,rfl⟩:=r
  cases (show T = "int" from ty)
  exact ⟨typeIs_int s i t,λ_ e=>nomatch e⟩
 | ref p=>
  cases r
  rcases ty with ⟨rfl,xs,hq⟩ | ⟨rfl,o,hk,hc,hd⟩ | ⟨rfl,hk⟩ | ⟨rfl,S,n,hk⟩
  ·obtain ⟨its,_,pl,_⟩:=I.list hq
   refine ⟨pl.isList.typeIs,λa e=>?_⟩
   cases e
   obtain ⟨o,n,e,c,hd,_⟩:=pl
   exact ⟨o,e,hd⟩
  ·refine ⟨⟨o,I.kIn p o hk,hc⟩,λa e=>?_⟩
   cases e
   exact ⟨o,I.kIn _ o hk,hd⟩
  ·have z:∃ o,s.heap.get? p=some o/\o.ExactDict:=by
    rcases hk with ⟨kvs,hk⟩ | ⟨kvs,hk⟩
    ·obtain ⟨_,_,_,_,o,_,_,e,ex,_⟩:=I.hok p _ hk
     exact ⟨o,e,ex⟩
    ·obtain ⟨_,_,_,_,o,_,_,e,ex,_⟩:=I.hok p _ hk
     exact ⟨o,e,ex⟩
   obtain ⟨o,e,ex⟩:=z
   refine ⟨⟨o,e,ex.1⟩,λa e2=>?_⟩
   cases e2
   exact ⟨o,e,ex.2.1⟩
  ·obtain ⟨o,_,_,_,e,ex,_⟩:=I.hok p _ hk
   refine ⟨⟨o,e,ex.1⟩,λa e2=>?_⟩
   cases e2
   exact ⟨o,e,ex.2.1⟩
 | _=>exact False.elim ty
def Q9 (K:PySem.W.Frag) (T:String) (r:V->List V->Hp->VK->Prop) (to:TE) (t:TA):TE:=λσ H Q=>to σ H λx H1=>Q8 K T x H1/\t σ H1 λxs H2=>r x xs H2 Q
variable {o e:Expr} {es:List Expr} {to:TE} {t:TA} {name:Str} {apos cpos:Pos} {T id:String} {r:V->List V->Hp->VK->Prop}
theorem wU (pa:PlainAttrs T) (slot:Slot T name id) (hty:typeOf (.builtin id)=pure (.type "method_descriptor")) (hm:Q7 X id r) (ho:PE X o to) (ha:PA X (e :: es) t)
  (hbase:attributeBase o name X.env (eval o X.env)=eval o X.env:=by rfl)
  (hfew:((backTo cpos (starEach (e :: es) X.env)).all (λx=>!x.1) && (backToKw cpos (keywordEach [] X.env)).all (λx=>x.1.isSome)
   && decide ((e :: es).length + ([]:List Keyword).length + (if ([]:List Keyword).isEmpty then 0 else 1) < 30))=true:=by rfl)
  (hline:(apos.endLine == cpos.line)=true:=by rfl) (hs:starEach (e :: es) X.env=(false,eval e X.env) :: starEach es X.env:=by rfl) (hplain:(backTo cpos (starEach es X.env)).any (·.1)=false:=by rfl) :
  PE X (.Call (.Attribute o name apos) (e :: es) [] cpos) (Q9 X.K T r to t):=by
 intro pins s σ H Q I h
 refine wpAny_Call_method_late hbase hfew hline rfl (zi (ho pins s σ H _ I h) λv s1 ⟨x,H1,I1,r1,ty,q1⟩=>?_)
 obtain ⟨h1,h2⟩:=zP0 I1 r1 ty
 refine ⟨T,id,pa,slot,hty,h1,h2,?_⟩
 have hA:=ha cpos pins s1 σ H1 _ I1 q1
 rw [hs] at hA |-
 refine Calls.callWith_builtin (by show (false || (backTo cpos (starEach es X.env)).any (·.1))=false; rw [hplain] <;> rfl) (Calls.evalArgs_plain ?_)
 exact zi hA λus s2 ⟨vs,H2,I2,r2,q2⟩=>hm pins s2 σ H2 x vs v us Q I2 r1 r2 q2
/- xs.append(e),list.index on a module's tuple .. are Q7 facts of 06m -/
end
end L2
namespace L2
open PySem PySem.Spec PyProof.Rows
def KA (X:Cx) (id:String) (r:V->List V->Hp->VK->Prop):Prop:=
 ∀ (pins:List (Addr × Obj)) (s:Shared) (σ:St) (H:Hp) (x:V) (xs:List V) (v:Value) (us:List Value) (Q:VK),zG X pins σ H s->zW x v->zM xs us->r x xs H Q->
  wpAny (model X.prog X.w) X.A (call (.builtin id) (v :: us)) (EP X pins σ Q) X.xe s
theorem zM.one:∀ {x:V} {us:List Value},zM [x] us->∃ u,us=[u]/\zW x u
 | _,_,.cons r .nil=>⟨_,rfl,r⟩
theorem zM.rep {xs:List V} {us:List Value} (h:zM xs us):∀ k:Nat,zM (List.replicate k xs).flatten (List.replicate k us).flatten
 | 0=>.nil
 | k + 1=>by
  rw [List.replicate_succ,List.replicate_succ,List.flatten_cons,List.flatten_cons]
  exact zM.append h (zM.rep h k)
theorem KB (its:List Value):∀ (k:Nat) (acc:List Value),
  List.foldl (λx1 x2=>x1++x2) acc.toArray (List.replicate k its.toArray)=(acc++(List.replicate k its).flatten).toArray
 | 0,acc=>by simp
 | k + 1,acc=>by
  have e:acc.toArray++its.toArray=(acc++its).toArray:=by simp
  have e2:(acc++its)++(List.replicate k its).flatten=acc++(List.replicate (k + 1) its).flatten:=by
   rw [List.replicate_succ,List.flatten_cons,List.append_assoc]
  rw [<- e2,<- KB its k (acc++its),<- e,List.replicate_succ,List.foldl_cons]
section
variable {X:Cx} {pins:List (Addr × Obj)} {σ:St} {H:Hp} {s:Shared} {l b:Addr} {xs ys zs:List V}
theorem zG.lset {its its':List Value} {n:Nat} {f:Array Value->Array Value} {t':Nat} (I:zG X pins σ H s) (hH:H l=some (.lst xs))
  (e:s.heap.get? l=some { cls:=.type "list",data:=.seq its.toArray n }) (hf:f its.toArray=its'.toArray) (hv:zM ys its') (hz:ys.length<=sizeLine) :
  zG X pins σ (zU H l (.lst ys)) { s with heap:=s.heap.update l (Obj.mapSeq f),toks:=t' }:=by
 have q:=PySem.IsL.update e f
 rw [hf] at q
 refine I.write (x:=l) (e:=l) (by rw [hH]; exact trivial) (.inl rfl) (λb' u hb hu=>(Heap.get?_update_other s.heap (Obj.mapSeq f) (Ne.symm hb)).trans hu) ⟨_,q⟩ ?_
 exact ⟨hz,its',_,hv,q⟩
theorem zG.lnew {its:List Value} {t':Nat} (I:zG X pins σ H s) (hv:zM ys its) (hz:ys.length<=sizeLine) :
  zG X pins σ (zU H s.heap.objs.size (.lst ys)) { s with heap:=s.heap.push { cls:=.type "list",data:=.seq its.toArray },toks:=t' }:=
 I.laid (λ_ _ q=>Heap.get?_push_of_some _ q) (Nat.le_refl _) ⟨hz,its,0,hv,Heap.get?_push_size _ rfl⟩
theorem zG.fresh (I:zG X pins σ H s):H s.heap.objs.size=none:=I.hok.fresh (Nat.le_refl _)
theorem zG.lstM (I:zG X pins σ H s) (hH:H l=some (.lst xs)):xs.length<=sizeLine/\∃ (its:List Value) (n:Nat),zM xs its/\xs.length=its.length/\s.heap.get? l=some { cls:=.type "list",data:=.seq its.toArray n }:=by
 obtain ⟨z,its,n,r,e⟩:=I.hok l _ hH
 exact ⟨z,its,n,r,r.length,e⟩
theorem zN3 {n:Nat} (h:n<=sizeLine):Builtin.List.listTooLong n=false:=by
 unfold Builtin.List.listTooLong
 exact decide_eq_false (by omega)
end
section
variable {X:Cx}
def zPA:V->List V->Hp->VK->Prop:=λx vs H Q=>∃ l xs y,x=.ref l/\vs=[y]/\H l=some (.lst xs)/\xs.length < sizeLine/\Q .non (zU H l (.lst (xs++[y])))
theorem zMA:KA X "list.append" zPA:=by
 intro pins s σ H x vs v us Q I rx rv h
 obtain ⟨l,xs,y,rfl,rfl,hH,hz,q⟩:=h
 cases rx
 obtain ⟨u,rfl,ru⟩:=rv.one
 obtain ⟨z,its,n,r,hl,e⟩:=I.lstM hH
 refine call_meets F.slot_list_append ⟨_,e,rfl⟩ F.entry_list_append (F.args_list_append_2 _ _) (PySem.list_append l its.toArray n u (by rw [List.size_toArray]; omega)) ⟨e,?_⟩
 refine ⟨.non,_,I.lset (its':=its++[u]) hH e (by simp) (r.append (.cons ru .nil)) ?_,rfl,q⟩
 rw [List.length_append,List.length_singleton]
 omega
def kP:R2:=λx y H Q=>∃ l b xs zs,x=.ref l/\y=.ref b/\H l=some (.lst xs)/\H b=some (.lst zs)/\xs.length + zs.length<=sizeLine/\∀ p,H p=none->Q (.ref p) (zU H p (.lst (xs++zs)))
theorem zQj:xD X (binaryOp .Add) kP:=by
 intro pins s σ H x y v u Q I rx ry h
 obtain ⟨l,b,xs,zs,rfl,rfl,hH,hB,hz,q⟩:=h
 cases rx
 cases ry
 obtain ⟨z,its,n,r,hl,e⟩:=I.lstM hH
 obtain ⟨z2,its2,n2,r2,hl2,e2⟩:=I.lstM hB
 refine PySem.P.add_list e e2 ?_ (by rw [List.size_toArray,List.size_toArray]; omega)
 have ea:its.toArray++its2.toArray=(its++its2).toArray:=by simp
 rw [ea]
 exact ⟨.ref _,_,I.lnew (t':=s.toks) (r.append r2) (by rw [List.length_append]; omega),rfl,q _ I.fresh⟩
def kR:R2:=λx y H Q=>∃ l k xs,x=.ref l/\y=.int k/\H l=some (.lst xs)/\-(2 ^ 63)<=k/\k < 2 ^ 63/\xs.length * k.toNat<=sizeLine∧
 ∀ p,H p=none->Q (.ref p) (zU H p (.lst (List.replicate k.toNat xs).flatten))
theorem zPV {α:Type} (xs:List α) (k:Nat):(List.replicate k xs).flatten.length=k * xs.length:=by
 induction k with
 | zero=>simp
 | succ k ih=>rw [List.replicate_succ,List.flatten_cons,List.length_append,ih,Nat.succ_mul,Nat.add_comm]
theorem zQd:xD X (binaryOp .Mult) kR:=by
 intro pins s σ H x y v u Q I rx ry h
 obtain ⟨l,k,xs,rfl,rfl,hH,h1,h2,hz,q⟩:=h
 cases rx
 obtain ⟨t,rfl⟩:=ry
 obtain ⟨z,its,n,r,hl,e⟩:=I.lstM hH
 have hlen:its.toArray.size * k.toNat<=sizeLine:=by rw [List.size_toArray,<- hl]; exact hz
 have hcap:¬ its.toArray.size * k.toNat > (2 ^ 63 - 1) / 8:=by
  have:(sizeLine:Nat)<=(2 ^ 63 - 1) / 8:=by decide
  omega
 have hfit:¬ (!Builtin.List.listFitsIndex k)=true:=by
  rw [fitsIndex_both h1 h2]
  exact Bool.false_ne_true
 have hlong:¬ Builtin.List.listTooLong (its.toArray.size * k.toNat)=true:=by
  rw [zN3 hlen]
  exact Bool.false_ne_true
 have hnew:List.foldl (λx1 x2=>x1++x2) #[] (List.replicate (if its.toArray.isEmpty=true then 0 else k.toNat) its.toArray)=(List.replicate k.toNat its).flatten.toArray:=by
  have f0:∀ m:Nat,List.foldl (λx1 x2=>x1++x2) #[] (List.replicate m its.toArray)=(List.replicate m its).flatten.toArray:=λm=>by
   have:=KB its m []
   rw [List.nil_append] at this
   exact this
  rw [f0]
  cases its with
  | nil=>simp
  | cons a r'=>rw [if_neg (by simp)]
 refine wpAny_binaryOp_repeat_ref (T:="list") (U:="int") (by decide) ⟨_,e,rfl⟩ (λs'=>typeIs_int s' k t) noFill_list_mul F.fills_int_mul F.slot_int_rmul repeat_list F.slot_int_index.lookup
  (call_meets F.slot_int_rmul (typeIs_int s k t) F.entry_int_rmul (F.args_int_rmul_2 _ _) (int___rmul___int_list k t l its.toArray n)
   ⟨e,rfl,⟨_,e,rfl⟩,call_meets F.slot_list_mul ⟨_,e,rfl⟩ F.entry_list_mul (F.args_list_mul_2 _ _) (AutoListH.list___mul___list_int_3 l its.toArray n k t hfit hcap hlong) ⟨e,?_⟩⟩)
 rw [hnew]
 exact ⟨.ref _,_,I.lnew (t':=s.toks) (r.rep k.toNat) (by rw [zPV,Nat.mul_comm]; exact hz),rfl,q _ I.fresh⟩
end
section
variable {prog:Program} {w:World} {A:Around} {E:Value->Shared->Prop} {s:Shared}
end
section
variable {X:Cx}
end
end L2
namespace Att
open PySem PySem.W PySem.Calls PyProof.Rows
theorem zGG {P:Params} {h:Heap}:∀ (ns:List Int) (vs:List Value),WellAll P h vs (ns.map WData.int)->IntsAre vs ns:=by
 intro ns
 induction ns with
 | nil=>
  intro vs w
  rw [List.map_nil] at w
  cases w
  exact .nil
 | cons n ns ih=>
  intro vs w
  rw [List.map_cons] at w
  cases w with
  | cons a b=>
   cases a
   exact .cons _ _ (ih _ b)
theorem zLW {l:OpenLaw} {n:Nat} (hn:l.most=some n) {P:Params} {h:Heap} {args:List WData} {vals:List Value}
  (hpre:l.row.toRowW.claim.pre args=true) (hwl:WellAll P h vals args) :
  ∃ a vs ns,vals=[Value.ref a]/\args=[WData.list (ns.map WData.int)]/\h.get? a=some { cls:=.type "list",data:=.seq vs.toArray }/\IntsAre vs ns/\ns.length<=n:=by
 have hsh:WShape.hasAll [] args [.list .int]=true:=(pre_splitW hpre).1
 have hc:l.pre.holds [] { args:=args }=true:=(pre_splitW hpre).2
 obtain ⟨d,r,rfl,h1,h2⟩:=hasAllW_cons hsh
 obtain rfl:=hasAllW_nil h2
 obtain ⟨xs,rfl,h3⟩:=hasW_list h1
 obtain ⟨ns,rfl⟩:=items_int h3
 have hlen:ns.length<=n:=by
  unfold OpenLaw.pre at hc
  have h4:(WTm.not (.lt (.lit (.int (n:Int))) (.len (.arg 0)))).holds [] { args:=[.list (ns.map .int)] }=true:=by
   have h4:=(holds_andW hc).1
   rw [hn] at h4
   exact h4
  have h5:=condW_of h4 (w_not (w_lt w_lit (w_len_list (w_arg rfl))))
  rw [List.length_map] at h5
  refine Nat.le_of_not_lt λq=>?_
  have q':(n:Int) < ((ns.length:Nat):Int):=by omega
  first
   | (rw [decide_eq_true q'] at h5; exact absurd h5 (by decide))
   | (simp at h5; omega)
 cases hwl with
 | cons w1 w2=>
  cases w2
  cases w1 with
  | list ho hall=>exact ⟨_,_,ns,rfl,rfl,ho,zGG ns _ hall,hlen⟩
theorem zLl (l:OpenLaw) (args:List WData):l.row.toRowW.claim.post args (.bool true) args=true:=
 postW_of (r:=l.row.toRowW) (X:=(true == true))
  (show WShape.has [] (.bool true) .bool=true by first | rfl | decide | simp [WShape.has,WShape.arms,WShape.armsAll])
  (show (WTm.eq .res (.lit (.bool true))).value [] { args:=args,res:=some (.bool true),after:=args }=some (.bool (true == true)) from w_eq_bool (w_res rfl) w_lit) rfl
theorem attach_call {l:OpenLaw} {n:Nat} {q:Program} {loose:List Str} {XP:(Str->Option Value)->Heap->Prop} {YP:World->Heap->Prop} {d:DefRec}
  (hn:l.most=some n) (hdf:d.params.defaults=[])
  (call:∀ (w:World) (s₀ s₁:Shared) (mg mb:Str->Option Value) (fa:Addr) (o:Obj) (pm cd doc:Value) (a:Addr) (vs:List Value) (ns:List Int),
   Ground q loose [] XP w s₀ mg mb s₁.heap->YP w s₁.heap->
   s₁.heap.get? fa=some o->o.data=.func (docDef d.name d.params d.body d.scope pm cd doc)->s₁.heap.CodeRec cd d.name->mg d.name=some (.ref fa)->
   s₁.heap.get? a=some { cls:=.type "list",data:=.seq vs.toArray }->IntsAre vs ns->ns.length<=n->s₁.gens=#[]->
   codeAny (model l.prog w) callerA (.call (.ref fa) ⟨[.ref a],[]⟩) (λr s'=>r=.ok (.ret (.bool true))/\OldK s₁.heap s'.heap/\s'.os=s₁.os/\AllBare s'.gens) s₁) :
  WalkO q loose XP YP l.row.toRowW d [] (λf vs=>PySem.call f vs):=by
 intro w s₀ s₁ mg mb G Y fa o pm cd doc dV kV ho hd hcd hD hmg hg args vals as hpre hlay hrd hwl hlo
 obtain rfl:dV=.none:=Dflts.none hD hdf
 obtain rfl:kV=.none:=Dflts.noKw hD
 obtain ⟨a,vs,ns,rfl,rfl,hobj,hints,hlen⟩:=zLW hn hpre hwl
 refine enter_call (codeAny_mono (call w s₀ s₁ mg mb fa o pm cd doc a vs ns G Y ho (fd_plain hd) hcd hmg hobj hints hlen hg) λr s' hq=>?_)
 obtain ⟨rfl,h2,h3,h4⟩:=hq
 exact ⟨.inl ⟨.bool true,.bool true,[],rfl,λ_=>rfl,.bool true,zLl l _,λ_=>⟨List.Pairwise.nil,λ_ hm=>(nomatch hm)⟩⟩,h2,h3,h4⟩
section
variable {prog:Program} {w:World} {A:Around} {E:Value->Shared->Prop} {s:Shared} {K:Frag}
end
end Att
namespace L2
open PySem PySem.Spec PyProof.Rows
theorem KC:∀ {vs:List Value} {ns:List Int},IntsAre vs ns->zM (ns.map V.int) vs
 | _,_,.nil=>.nil
 | _,_,.cons n t h=>.cons ⟨t,rfl⟩ (KC h)
def ju (H:Hp):Prop:=∀ b,H b=none\/∃ o xs,H b=some (.frz o (.lst xs))
theorem law_call {P:Program} {w:World} {K:PySem.W.Frag} {mg mb:Str->Option Value} {CX:vk} {k:Nat} {fa a:Addr} {fd:FuncData} {x:Str} {sp:Sp} {s₁:Shared} {vs:List Value} {ns:List Int}
  (KX:K.In s₁.heap) (hns:s₁.heap.Ns mainGlobals mg) (hb:s₁.heap.Ns builtinsNs mb) (hbb:∀ x:Str,x≠"__name__"->mb x=bootBuiltins x) (hlim:s₁.heap.NoLimit) (hg:s₁.gens=#[])
  (ha:s₁.heap.get? a=some { cls:=.type "list",data:=.seq vs.toArray }) (hi:IntsAre vs ns) (hl:ns.length<=sizeLine) (hr:zj k callerA)
  (F:∀ base:Heap,K.In base->base.Ns mainGlobals mg->zH P w K mg base CX k fa fd [x] sp) (hbind:∀ (s:Shared) (u:Value),BindsTo s fd ⟨[u],[]⟩ [(x,u)])
  (hsp:∀ H:Hp,ju H->zR K H a (ns.map V.int)->sp [.ref a] H (λv _=>v=.bl true) λ_ _ _=>False)
  (hCX:∀ H e s',CX [] H s₁ (λ_ _ _=>False) e s'->False) :
  codeAny (model P w) callerA (.call (.ref fa) ⟨[.ref a],[]⟩) (λr s'=>r=.ok (.ret (.bool true))/\OldK s₁.heap s'.heap/\s'.os=s₁.os/\AllBare s'.gens) s₁:=by
 have rv:=KC hi
 have lenV:=hi.length
 have core:∀ H:Hp,ju H->zR K H a (ns.map V.int)->xN P w H s₁.heap->(∀ b,H b≠none->b=a)->(H a≠none->K.lookup a=none)->
   codeAny (model P w) callerA (.call (.ref fa) ⟨[.ref a],[]⟩) (λr s'=>r=.ok (.ret (.bool true))/\OldK s₁.heap s'.heap/\s'.os=s₁.os/\AllBare s'.gens) s₁:=by
  intro H hO hS hok hA hK
  have base_of:∀ {b:Addr} {o:Obj},s₁.heap.get? b=some o->H b=none->(wK s₁.heap H).get? b=some o:=λe n=>zOE e n
  have noA:∀ {b:Addr} {o:Obj} {es:Array DictEntry} {ep:Nat},s₁.heap.get? b=some o->o.data=.dict es ep->H b=none:=λ{b o es ep} e d=>by
   cases q:H b with
   | none=>rfl
   | some u=>
    have e':b=a:=hA b (by rw [q]; simp)
    subst e'
    rw [ha] at e; cases e
    have d':Data.seq vs.toArray _=Data.dict es ep:=d
    cases d'
  have nsK:∀ {b:Addr} {m:Str->Option Value},s₁.heap.Ns b m->(wK s₁.heap H).Ns b m:=λ{b m} ⟨o,es,ep,e,d,r⟩=>⟨o,es,ep,base_of e (noA e d),d,r⟩
  have hKb:K.In (wK s₁.heap H):=λb o e=>base_of (KX b o e) (by
   cases q:H b with
   | none=>rfl
   | some u=>
    have e':b=a:=hA b (by rw [q]; simp)
    subst e'
    rw [hK (by rw [q]; simp)] at e; cases e)
  have hM:Mod K mg (wK s₁.heap H):=⟨hKb,nsK hns,⟨mb,nsK hb,hbb⟩,let ⟨mc,h1,h2⟩:=hlim; ⟨mc,nsK h1,h2⟩⟩
  have e0:vH P w K mg (wK s₁.heap H) callerA [] s₁ H:=⟨rfl,hM,λb o e=>zPU e,Nat.le_of_eq (zMJ _ _),trivial,λb hb=>absurd (show b∈([]:List Addr) from hb) (by simp),hok,.of_eq hg⟩
  refine codeAny_mono ((F _ hKb (nsK hns)).run callerA [] s₁ H ⟨[.ref a],[]⟩ [.ref a] [.ref a] _ _ hr e0 (hbind s₁ (.ref a)) (.cons rfl .nil) (hsp H hO hS)) λr s' h=>?_
  cases r with
  | error e=>exact (hCX H e s' h).elim
  | ok fl=>
   cases fl with
   | next=>exact False.elim h
   | brk=>exact False.elim h
   | cont=>exact False.elim h
   | ret u=>
    obtain ⟨v,H',os,bare,un,hok',r',q⟩:=h
    have q':v=.bl true:=q
    subst q'
    obtain rfl:u=Value.bool true:=r'
    refine ⟨rfl,OldK.of_keep λb o e=>?_,os,bare⟩
    cases q:H b with
    | none=>exact un.keep b o e q (by intro z; exact absurd (show b∈([]:List Addr) from z) (by simp)) (by simp)
    | some u=>
     rcases hO b with z | ⟨ob,xs,z⟩
     ·rw [q] at z; cases z
     ·have z2:=un.frzs b ob _ z
      obtain ⟨e1,_⟩:=hok b _ z
      obtain ⟨e2,_⟩:=hok' b _ z2
      rw [e] at e1; cases e1
      exact e2
 cases hk:K.lookup a with
 | some o=>
  have e:=KX a o hk
  rw [ha] at e
  cases e
  refine core (λ_=>none) (λ_=>.inl rfl) (.inr ⟨_,vs.toArray,_,hk,rfl,rfl,rfl,by rw [List.size_toArray,lenV]; exact hl,by simpa using rv⟩) (λb u z=>by have z':(none:Option HO)=some u:=z; cases z') (λb z=>absurd rfl z) λz=>absurd rfl z
 | none=>
  refine core (λb=>if b=a then some (.frz { cls:=.type "list",data:=.seq vs.toArray } (.lst (ns.map V.int))) else none) (λb=>?_) (.inl (.inr ⟨{ cls:=.type "list",data:=.seq vs.toArray },if_pos rfl⟩)) (λb u z=>?_) (λb z=>?_) λ_=>hk
  ·by_cases hb:b=a
   ·exact .inr ⟨_,_,if_pos hb⟩
   ·exact .inl (if_neg hb)
  ·by_cases hb:b=a
   ·have z':=(if_pos hb).symm.trans z
    cases z'
    subst hb
    exact ⟨ha,by rw [List.length_map]; exact hl,vs,_,rv,ha⟩
   ·have z':=(if_neg hb).symm.trans z
    cases z'
  ·by_cases hb:b=a
   ·exact hb
   ·exact absurd (if_neg hb) z
end L2
namespace L2
open PySem PySem.Spec PyProof.Rows
theorem zOx {l:PySem.W.OpenLaw} {n k:Nat} {q:Program} {loose:List Str} {XP:(Str->Option Value)->Heap->Prop} {YP:World->Heap->Prop} {d:DefRec} {K:Params->PySem.W.Frag} {CX:World->vk} {sp:World->Sp} {x:Str}
  (hn:l.most=some n) (hn2:n<=sizeLine) (hdf:d.params.defaults=[]) (hr:zj k callerA)
  (hY:∀ (w:World) (h:Heap),YP w h->(K w.params).In h)
  (F:∀ (w:World) (mg:Str->Option Value) (fa:Addr) (h:Heap),(K w.params).In h->h.Ns mainGlobals mg->mg d.name=some (.ref fa)->
   ∃ fd:FuncData,(∀ (s:Shared) (u:Value),BindsTo s fd ⟨[u],[]⟩ [(x,u)])∧
    ∀ base:Heap,(K w.params).In base->base.Ns mainGlobals mg->zH l.prog w (K w.params) mg base (CX w) k fa fd [x] (sp w))
  (hsp:∀ (w:World) (H:Hp) (a:Addr) (ns:List Int),ns.length<=n->ju H->zR (K w.params) H a (ns.map V.int)->sp w [.ref a] H (λv _=>v=.bl true) λ_ _ _=>False)
  (hCX:∀ (w:World) (H:Hp) (s:Shared) (e:Value) (s':Shared),CX w [] H s (λ_ _ _=>False) e s'->False) :
  PySem.W.WalkO q loose XP YP l.row.toRowW d [] (λf vs=>PySem.call f vs):=by
 refine Att.attach_call hn hdf λw s₀ s₁ mg mb fa o pm cd doc a vs ns G Y ho hd hcd hmg hobj hints hlen hg=>?_
 have KX:=hY w _ Y
 obtain ⟨fd,hb,hF⟩:=F w mg fa _ KX G.T.g hmg
 exact law_call KX G.T.g G.T.b G.T.builtins G.T.nolimit hg hobj hints (Nat.le_trans hlen hn2) hr hF hb (λH hO hS=>hsp w H a ns hlen hO hS) λH e s'=>hCX w H s₁ e s'
end L2
namespace L2
open PySem PySem.Spec PyProof.Rows
def jw (s:Stmt) (j:Nat):Stmt:=match s with
 | .ClassDef _ _ _ body _ _ _ _ _ _ _=>body.getD j (.Pass ⟨0,0,0,0⟩)
 | _=>.Pass ⟨0,0,0,0⟩
def wu (s:Stmt):Arguments:=match s with
 | .FunctionDef _ a _ _ _ _ _ _ _ _=>a
 | _=>{ posonlyargs:=[],args:=[],vararg:=none,kwonlyargs:=[],kw_defaults:=[],kwarg:=none,defaults:=[] }
def xw (s:Stmt):List Stmt:=match s with
 | .FunctionDef _ _ b _ _ _ _ _ _ _=>b
 | _=>[]
def zK (s:Stmt):Scope:=match s with
 | .FunctionDef _ _ _ _ _ _ sc _ _ _=>sc
 | _=>{ kind:=.function,names:=[],isGenerator:=false,isCoroutine:=false }
abbrev zZ:vk:=λ_ _ _ _ _ _=>False
abbrev E0:XK:=λ_ _ _=>False
theorem Yp {X:Cx}:qx zZ X E0:=λ_ _ _ _ _ _ _ h=>h.elim
structure zf (K:PySem.W.Frag) (x qual:Str) (st:Stmt) (f:Addr) (fd:FuncData):Prop where
 ex:∃ (oc:Value) (od:Option Addr) (kV doc pm:Value) (an:Option Addr) (cdv ct:Value) (osl:Array (Option Value)),
  fd=PySem.W.fnOf x qual (wu st) (xw st) (zK st) .none kV doc pm an cdv ct/\K.lookup f=some ⟨oc,od,.func fd,osl⟩/\PySem.W.codeIn K cdv qual=true
 kp:PySem.W.keepIn K (.ref f)=true
section
variable {P:Program} {w:World} {K:PySem.W.Frag} {mg:Str->Option Value} {base:Heap}
theorem zf.ok {x qual:Str} {st:Stmt} {f:Addr} {fd:FuncData} {N ps:List Str} {k:Nat} {sp:Sp} (F:zf K x qual st f fd) (S:ze N ps (zK st)) (len:∀ vs H Q E,sp vs H Q E->vs.length=ps.length)
  (hbody:∀ (cdv:Value) (A:Around) (outer:List Env) (s:Shared) (H:Hp) (vs:List V) (Q:VK) (E:XK),zj k (A.deeper (envOfC qual (zK st) s.heap.objs.size f cdv))->sp vs H Q E->
   ∃ t,xO (xu zZ P w K mg base N qual (zK st) f cdv A outer s H E).nox (xw st) t/\t { nx:=λ_ H'=>Q .non H',rt:=Q } (start N vs) H):zH P w K mg base zZ (k + 1) f fd ps sp:=by
 obtain ⟨oc,od,kV,doc,pm,an,cdv,ct,osl,rfl,lk,hcd⟩:=F.ex
 refine Qz lk hcd S len λA outer s H vs Q E hr hsp=>?_
 obtain ⟨t,h,q⟩:=hbody cdv A outer s H vs Q E hr hsp
 exact ⟨t,h.nox,q⟩
theorem zf.binds {x qual:Str} {st:Stmt} {f:Addr} {fd:FuncData} {ps:List Str} (F:zf K x qual st f fd)
  (h:∀ (kV doc pm:Value) (an:Option Addr) (cdv ct:Value) (us:List Value),us.length=ps.length->bindArgs (PySem.W.fnOf x qual (wu st) (xw st) (zK st) .none kV doc pm an cdv ct) ⟨us,[]⟩=pure (ps.zip us)):vI K fd ps []:=by
 obtain ⟨oc,od,kV,doc,pm,an,cdv,ct,osl,rfl,lk,hcd⟩:=F.ex
 exact .all (h kV doc pm an cdv ct)
theorem KD {x qual:Str} {st:Stmt} {f:Addr} {oc:Value} {od an:Option Addr} {osl:Array (Option Value)} {kV doc pm cdv ct:Value} (l:K.lookup f=some ⟨oc,od,.func (PySem.W.fnOf x qual (wu st) (xw st) (zK st) .none kV doc pm an cdv ct),osl⟩)
  (c:PySem.W.codeIn K cdv qual=true) (k:PySem.W.keepIn K (.ref f)=true):zf K x qual st f (PySem.W.fnOf x qual (wu st) (xw st) (zK st) .none kV doc pm an cdv ct):=⟨⟨oc,od,kV,doc,pm,an,cdv,ct,osl,rfl,l,c⟩,k⟩
end
theorem ut {n:Nat} (h:n<=1000):n < sizeLine:=Nat.lt_of_le_of_lt h (by decide)
section
variable {X:Cx}
theorem pv (i:Nat) {x:Str} {pos:Pos} (hN:X.N[i]? = some x:=by rfl) (hv:jD X.env.scope x:=by first | exact Or.inl rfl | exact Or.inr (Or.inl rfl) | exact Or.inr (Or.inr rfl)) (hd:(x == ("__debug__" : Str))=false:=by decide)
  (hcd:(x == ("__classdict__" : Str))=false:=by decide):PE X (.Name x pos) (gj i):=WY hN hv hd hcd
end
def zF (H H':Hp):Prop:=∀ b o,H b=some o->H' b=some o
theorem zF.refl (H:Hp):zF H H:=λ_ _ h=>h
theorem zF.trans {H H1 H2:Hp} (a:zF H H1) (b:zF H1 H2):zF H H2:=λc o h=>b c o (a c o h)
theorem zF.free {H H':Hp} (e:zF H H') {l:Addr} (h:H' l=Option.none):H l=Option.none:=by
 cases q:H l with
 | none=>rfl
 | some o=>
  rw [e l o q] at h
  cases h
end L2
set_option maxHeartbeats 4000000
namespace Sh
def vW (ns:List Int):Int:=ns.foldl (λc n=>(Int.gcd c n:Int)) 0
theorem zJI (ns:List Int) (n:Int):vW (ns++[n])=(Int.gcd (vW ns) n:Int):=by
 unfold vW
 rw [List.foldl_append]
 rfl
theorem zHo (ns:List Int):0<=vW ns:=by
 rcases List.eq_nil_or_concat ns with rfl | ⟨l,a,rfl⟩
 ·exact Int.le_refl 0
 ·rw [List.concat_eq_append,zJI]
  exact Int.natCast_nonneg _
def cm (t b:Int):Int:=if b < 0 then -(Int.gcd t b:Int) else (Int.gcd t b:Int)
def W1 (t b:Int):Int:=t.fdiv (cm t b)
def W2 (t b:Int):Int:=b.fdiv (cm t b)
end Sh
namespace Sh
def zRP (st:Int × Int) (p:Int × Int × Int):Int × Int:=(st.1 * p.2.2 + p.1 * p.2.1 * st.2,st.2 * p.2.2)
def jI (ws:List Int) (pts:List (Int × Int)):Int × Int:=(ws.zip pts).foldl zRP (0,1)
end Sh
namespace Sh
def kS (ws:List Int):List Int:=ws.map (·.fdiv (vW ws))
section
variable {β γ:Type}
def look (m:List (List Int × β)) (k:List Int):Option β:=(m.find? λkv=>decide (kv.1=k)).map (·.2)
def put (m:List (List Int × β)) (k:List Int) (v:β):List (List Int × β):=
 if (m.any λkv=>decide (kv.1=k))=true then m.map (λkv=>if kv.1=k then (kv.1,v) else kv) else m++[(k,v)]
theorem KE (m:List (List Int × β)) (k:List Int):(m.any λkv=>decide (kv.1=k))=(look m k).isSome:=by
 induction m with
 | nil=>rfl
 | cons p r ih=>
  unfold look at ih |-
  rw [List.any_cons,List.find?_cons,ih]
  by_cases e:p.1=k
  ·rw [decide_eq_true e]; rfl
  ·rw [decide_eq_false e]; rfl
theorem Yq {m:List (List Int × β)} {k:List Int} (h:look m k=none):∀ p∈m,p.1≠k:=by
 intro p hp e
 have a:(m.any λkv=>decide (kv.1=k))=true:=List.any_eq_true.mpr ⟨p,hp,decide_eq_true e⟩
 rw [KE,h] at a
 cases a
theorem KF {m:List (List Int × β)} {k:List Int} {v:β} {p:List Int × β} (h:p∈put m k v):p=(k,v)\/p∈m:=by
 unfold put at h
 split at h
 ·obtain ⟨q,hq,e⟩:=List.mem_map.mp h
  by_cases c:q.1=k
  ·rw [if_pos c] at e
   exact .inl (by rw [<- e,c])
  ·rw [if_neg c] at e
   exact .inr (e ▸ hq)
 ·rcases List.mem_append.mp h with h | h
  ·exact .inr h
  ·exact .inl (List.mem_singleton.mp h)
theorem zN8 (m:List (List Int × β)) (k:List Int) (v:β):(put m k v).map (·.1)=if (look m k).isSome=true then m.map (·.1) else m.map (·.1)++[k]:=by
 unfold put
 rw [KE]
 split
 ·rw [List.map_map]
  refine List.map_congr_left λp _=>?_
  show (if p.1=k then (p.1,v) else p).1=p.1
  split <;> rfl
 ·rw [List.map_append]
  rfl
theorem zL8 {m:List (List Int × β)} (k:List Int) (v:β) (h:(m.map (·.1)).Nodup):((put m k v).map (·.1)).Nodup:=by
 rw [zN8]
 split
 ·exact h
 ·rename_i c
  have n:look m k=none:=by
   cases e:look m k with
   | none=>rfl
   | some u=>rw [e] at c; exact absurd rfl c
  refine List.nodup_append.mpr ⟨h,by simp,λa ha b hb e=>?_⟩
  obtain ⟨p,hp,e1⟩:=List.mem_map.mp ha
  rw [List.mem_singleton.mp hb] at e
  exact Yq n p hp (e1.trans e)
end
abbrev qy:=List (List Int × (Int × Int)) × Option (List Int)
abbrev kT:=List (List Int × (List Int × Int)) × Option (List Int)
def KG (st:kT) (r:List Int × Int):kT:=
 if vW r.1≠0 then
  match look st.1 (kS r.1) with
  | none=>(put st.1 (kS r.1) r,st.2)
  | some o=>if r.2 * vW o.1 < o.2 * vW r.1 then (put st.1 (kS r.1) r,st.2) else st
 else if r.2 < 0 then (st.1,some r.1) else st
structure qz (st:kT):Prop where
 g0:∀ p∈st.1,0 < vW p.2.1
 way:∀ p∈st.1,p.1=kS p.2.1
 nd:(st.1.map (·.1)).Nodup
 z:∀ ws,st.2=some ws->vW ws=0
theorem W3 {ws:List Int} (h:vW ws≠0):0 < vW ws:=by
 have:=zHo ws
 omega
theorem qz.put {st:kT} (h:qz st) {r:List Int × Int} (g:vW r.1≠0):qz (Sh.put st.1 (kS r.1) r,st.2):=by
 refine ⟨λp hp=>?_,λp hp=>?_,zL8 _ _ h.nd,h.z⟩
 ·rcases KF hp with e | hp
  ·rw [e]; exact W3 g
  ·exact h.g0 p hp
 ·rcases KF hp with e | hp
  ·rw [e]
  ·exact h.way p hp
theorem qz.step {st:kT} (h:qz st) (r:List Int × Int):qz (KG st r):=by
 unfold KG
 split
 ·rename_i g
  split
  ·exact h.put g
  ·split
   ·exact h.put g
   ·exact h
 ·rename_i g
  have g0:vW r.1=0:=Decidable.of_not_not g
  split
  ·refine ⟨h.g0,h.way,h.nd,λws e=>?_⟩
   cases e
   exact g0
  ·exact h
section
variable (num:List Int->Int) (den:Int)
def hl (r:List Int × Int):Bool:=decide (num r.1<=r.2 * den)
variable (hden:0 < den) (Ka:∀ (ws:List Int) (c:Int),num (ws.map (· * c))=num ws * c)
include hden Ka
end
end Sh
namespace L2
open PySem
def uL (env:Env) (cs:List (Str × Addr)) (p:Str × NameKind):List (Str × Addr):=if (p.2 == .free)=true then (p.1,(env.cells.lookup p.1).getD 0) :: cs else cs
def wV (scope:Scope) (env:Env):List (Str × Addr):=scope.names.foldl (uL env) []
theorem zK7 {env:Env}:∀ (names:List (Str × NameKind)) (cs:List (Str × Addr)),(∀ p∈names,p.2=.free->(env.cells.lookup p.1).isSome=true)->
  (forIn names cs (λ(p:Str × NameKind) (r:List (Str × Addr))=>(if (p.2 == .free)=true then do let a <- cellOf env p.1; pure (ForInStep.yield ((p.1,a) :: r)) else pure (ForInStep.yield r):Sem (ForInStep (List (Str × Addr))))))=pure (names.foldl (uL env) cs):=by
 intro names
 induction names with
 | nil=>intro cs _; rfl
 | cons p r ih=>
  intro cs h
  obtain ⟨n,k⟩:=p
  rw [List.forIn_cons]
  by_cases hk:k=.free
  ·subst hk
   obtain ⟨c,hc⟩:=Option.isSome_iff_exists.mp (h (n,.free) List.mem_cons_self rfl)
   have e:cellOf env n=pure c:=by unfold cellOf; dsimp only at hc; rw [hc]
   have z:uL env cs (n,.free)=(n,c) :: cs:=by unfold uL; dsimp only at hc |-; rw [hc]; rfl
   simp only [e,beq_self_eq_true,if_true,pure_bind,List.foldl_cons,z]
   exact ih _ λq hq=>h q (List.mem_cons_of_mem _ hq)
  ·have b:(k == NameKind.free)=false:=by simpa using hk
   have z:uL env cs (n,k)=cs:=by unfold uL; dsimp only; rw [b]; rfl
   simp only [b,Bool.false_eq_true,if_false,pure_bind,List.foldl_cons,z]
   exact ih _ λq hq=>h q (List.mem_cons_of_mem _ hq)
theorem W4 {scope:Scope} {env:Env} (h:∀ p∈scope.names,p.2=.free->(env.cells.lookup p.1).isSome=true):closureFor scope env=pure (wV scope env):=by
 unfold closureFor wV
 have:=zK7 scope.names [] h
 exact (congrArg (λm=>m >>= λr=>pure r) this).trans rfl
theorem zMu {env:Env}:∀ (names:List (Str × NameKind)) (cs:List (Str × Addr)) (x:Str) (c:Addr),(x,c)∈names.foldl (uL env) cs->(x,c)∈cs\/((x,NameKind.free)∈names/\c=(env.cells.lookup x).getD 0):=by
 intro names
 induction names with
 | nil=>intro cs x c h; exact .inl h
 | cons p r ih=>
  intro cs x c h
  obtain ⟨n,k⟩:=p
  rw [List.foldl_cons] at h
  rcases ih _ x c h with h1 | ⟨h1,h2⟩
  ·unfold uL at h1
   dsimp only at h1
   by_cases hk:k=.free
   ·subst hk
    simp only [beq_self_eq_true,if_true] at h1
    rcases List.mem_cons.mp h1 with e | h1
    ·injection e with e1 e2
     subst e1; subst e2
     exact .inr ⟨List.mem_cons_self,rfl⟩
    ·exact .inl h1
   ·have b:(k == NameKind.free)=false:=by simpa using hk
    simp only [b,Bool.false_eq_true,if_false] at h1
    exact .inl h1
  ·exact .inr ⟨List.mem_cons_of_mem _ h1,h2⟩
theorem jJ {α β:Type} [BEq α] [LawfulBEq α]:∀ {l:List (α × β)} {a:α} {b:β},l.lookup a=some b->(a,b)∈l
 | [],_,_,h=>by simp at h
 | (x,y) :: r,a,b,h=>by
  rw [List.lookup_cons] at h
  by_cases e:a=x
  ·subst e
   simp only [beq_self_eq_true,if_true] at h
   cases h
   exact List.mem_cons_self
  ·have:(a == x)=false:=by simpa using e
   simp only [this] at h
   exact List.mem_cons_of_mem _ (jJ h)
theorem KH {α β:Type} [BEq α] [LawfulBEq α]:∀ {l:List (α × β)} {a:α} {b:β},(a,b)∈l->∃ c,l.lookup a=some c
 | [],_,_,h=>by cases h
 | (x,y) :: r,a,b,h=>by
  rw [List.lookup_cons]
  by_cases e:a=x
  ·subst e
   exact ⟨y,by simp⟩
  ·have z:(a == x)=false:=by simpa using e
   rcases List.mem_cons.mp h with q | q
   ·injection q with q1 _; exact absurd q1 e
   ·obtain ⟨c,hc⟩:=KH q
    exact ⟨c,by simp only [z]; exact hc⟩
theorem zMv {env:Env}:∀ (names:List (Str × NameKind)) (cs:List (Str × Addr)) (x:Str),((x,NameKind.free)∈names\/∃ c,(x,c)∈cs)->∃ c,(x,c)∈names.foldl (uL env) cs:=by
 intro names
 induction names with
 | nil=>
  intro cs x h
  rcases h with h | h
  ·cases h
  ·exact h
 | cons p r ih=>
  intro cs x h
  rw [List.foldl_cons]
  refine ih _ x ?_
  rcases h with h | ⟨c,h⟩
  ·rcases List.mem_cons.mp h with e | h
   ·subst e
    exact .inr ⟨_,by unfold uL; simp only [beq_self_eq_true,if_true]; exact List.mem_cons_self⟩
   ·exact .inl h
  ·refine .inr ⟨c,?_⟩
   unfold uL
   split
   ·exact List.mem_cons_of_mem _ h
   ·exact h
theorem vJ {scope:Scope} {env:Env} (h:∀ p∈scope.names,p.2=.free->(env.cells.lookup p.1).isSome=true) {x:Str} {c:Addr} (e:(wV scope env).lookup x=some c) :
  env.cells.lookup x=some c/\(x,NameKind.free)∈scope.names:=by
 rcases zMu scope.names [] x c (jJ e) with z | ⟨z,q⟩
 ·cases z
 ·obtain ⟨d,hd⟩:=Option.isSome_iff_exists.mp (h _ z rfl)
  dsimp only at hd
  rw [hd] at q
  exact ⟨by rw [hd,q]; rfl,z⟩
theorem kU {scope:Scope} {env:Env} {x:Str} (h:(x,NameKind.free)∈scope.names):∃ c,(wV scope env).lookup x=some c:=by
 obtain ⟨c,hc⟩:=zMv (env:=env) scope.names [] x (.inl h)
 exact KH hc
theorem KI {scope:Scope} {env:Env} {x:Str} {k:NameKind} (h:(relabel scope env).names.lookup x=some k):(k=.cell/\((x,NameKind.free)∈scope.names\/(x,NameKind.cell)∈scope.names))\/(x,k)∈scope.names:=by
 have m:=jJ h
 unfold relabel at m
 obtain ⟨⟨n,j⟩,hm,e⟩:=List.mem_map.mp m
 dsimp only at e
 split at e
 ·rename_i q
  injection e with e1 e2
  subst e1; subst e2
  have q1:j=NameKind.free:=by
   have:=(Bool.and_eq_true_iff.mp (Bool.and_eq_true_iff.mp q).1).1
   exact eq_of_beq this
  subst q1
  exact .inl ⟨rfl,.inl hm⟩
 ·injection e with e1 e2
  subst e1; subst e2
  exact .inr hm
end L2
namespace L2
open PySem
section
variable {prog:Program} {w:World} {A:Around} {R:Result->Shared->Prop} {s:Shared}
theorem KJ {elt target iter:Expr} {scope:Scope} {pos:Pos} {it acc:Value} {env:Env} (Wd:Nat->Shared->Prop)
  (turn:∀ n s,Wd n s->wpAny (model prog w) A (pyNext it) (λr s1=>match r with
   | none=>R (.ok .next) s1
   | some v=>wpAny (model prog w) A (letOwnedTupleGo target it v) (λ_ s2=>wpAny (model prog w) A (assign target env v) (λ_ s3=>wpAny (model prog w) A (eval elt env) (λx s4=>
     wpAny (model prog w) A (call (.builtin "list.append") [acc,x]) (λ_ s5=>∃ m,m < n/\Wd m s5) (λ_ _=>False) s4) (λ_ _=>False) s3) (λ_ _=>False) s2) (λ_ _=>False) s1) (λ_ _=>False) s)
  (n:Nat) (h:Wd n s):codeAny (model prog w) A (.compLoop (.ListComp elt [⟨target,iter,[],0⟩] scope pos) 0 it acc env) R s:=by
 refine codeAny_loop rfl Wd (λn s hI=>?_) n h
 show wpAny _ _ (Sem.onRaise (compTurn (.ListComp elt [⟨target,iter,[],0⟩] scope pos) 0 it acc env) _) _ _ s
 refine wpAny_noted ?_
 rw [compTurn_list1]
 refine wpAny_bind (wpAny_standAt (wpAny_bind (wpAny_mono (turn n s hI) (λr s1 h1=>?_) λ_ _ z=>False.elim z)))
 cases r with
 | none=>exact wpAny_pure h1
 | some v=>
  refine wpAny_bind (wpAny_mono h1 (λ_ s2 h2=>?_) λ_ _ z=>False.elim z)
  refine wpAny_bind (wpAny_mono h2 (λ_ s3 h3=>?_) λ_ _ z=>False.elim z)
  refine wpAny_bind (wpAny_bind (wpAny_mono h3 (λx s4 h4=>?_) λ_ _ z=>False.elim z))
  exact wpAny_bind (wpAny_mono h4 (λ_ s5 h5=>wpAny_pure (wpAny_pure ⟨rfl,h5⟩)) λ_ _ z=>False.elim z)
end
end L2
namespace L2
open PySem PySem.Spec PyProof.Rows
def Bd (n:Nat) (i:Int):Prop:=i.natAbs < 2 ^ n
theorem Bd.mono {n m:Nat} {i:Int} (h:Bd n i) (k:n<=m:=by decide):Bd m i:=Nat.lt_of_lt_of_le h (Nat.pow_le_pow_right (by decide) k)
theorem Bd.of_le {n:Nat} {i j:Int} (h:Bd n j) (k:i.natAbs<=j.natAbs):Bd n i:=Nat.lt_of_le_of_lt k h
theorem Bd.mul {n m:Nat} {i j:Int} (h:Bd n i) (k:Bd m j):Bd (n + m) (i * j):=by
 unfold Bd
 rw [Int.natAbs_mul,Nat.pow_add]
 rcases Nat.eq_zero_or_pos j.natAbs with z | z
 ·rw [z,Nat.mul_zero]
  exact Nat.mul_pos (Nat.two_pow_pos _) (Nat.two_pow_pos _)
 ·exact Nat.lt_of_lt_of_le (Nat.mul_lt_mul_of_pos_right h z) (Nat.mul_le_mul_left _ (Nat.le_of_lt k))
theorem Bd.add {n:Nat} {i j:Int} (h:Bd n i) (k:Bd n j):Bd (n + 1) (i + j):=by
 have h':i.natAbs < 2 ^ n:=h
 have k':j.natAbs < 2 ^ n:=k
 unfold Bd
 rw [Nat.pow_succ]
 have:=Int.natAbs_add_le i j
 omega
theorem Bd.neg {n:Nat} {i:Int} (h:Bd n i):Bd n (-i):=by
 unfold Bd
 rw [Int.natAbs_neg]
 exact h
theorem Bd.sub {n:Nat} {i j:Int} (h:Bd n i) (k:Bd n j):Bd (n + 1) (i - j):=by
 rw [Int.sub_eq_add_neg]
 exact h.add k.neg
theorem Bd.lit {n:Nat} {i:Int} (h:i.natAbs < 2 ^ n:=by decide):Bd n i:=h
theorem Bd.bits {n:Nat} {i:Int} (h:Bd n i):Builtin.Int.intBits i<=n:=by
 have h':i.natAbs < 2 ^ n:=h
 unfold Builtin.Int.intBits
 split
 ·exact Nat.zero_le _
 ·rename_i z
  have nz:i.natAbs≠0:=by
   intro q
   apply z
   rw [Int.natAbs_eq_zero.mp q]
   rfl
  exact (Nat.log2_lt nz).mpr h'
theorem Bd.fdiv {n:Nat} {i:Int} (h:Bd n i) (j:Int):Bd n (i.fdiv j):=
 h.of_le (Int.natAbs_fdiv_le_natAbs i j)
def Yr (i j:Int):Prop:=Bd 60000 i/\Bd 60000 j
def KL (_ j:Int):Prop:=j≠0/\Bd 8000 j
section
variable {X:Cx}
theorem Yr.ok {i j:Int} (h:Yr i j):IntMulOk i j:=by
 have h1:=h.1.bits
 have h2:=h.2.bits
 have hc:Builtin.Int.intTooBig (Builtin.Int.intBits i + Builtin.Int.intBits j)=false:=by
  unfold Builtin.Int.intTooBig
  rw [bitsLine_eq]
  exact decide_eq_false (by omega)
 unfold IntMulOk
 rw [hc]
 simp
theorem q9:xD X (binaryOp .Mult) (rI Yr λi j=>.int (i * j)):=Ye λ_ _ _ _ _ _ _ hc q=>mul_int q hc.ok
theorem zNp:xD X (binaryOp .FloorDiv) (rI KL λi j=>.int (i.fdiv j)):=Ye λ_ _ _ _ _ _ _ hc q=>by
 refine floordiv_int hc.1 q (.inl (PyProof.noPylong_of_log2 ?_))
 have h':_ < 2 ^ 8000:=hc.2
 have nz:_≠0:=λz=>hc.1 (Int.natAbs_eq_zero.mp z)
 exact Nat.lt_trans ((Nat.log2_lt nz).mpr h') (by decide)
end
section
variable {X:Cx}
def KM (K:PySem.W.Frag):List V->Hp->VK->Prop:=λxs H Q=>∃ x c t b,xs=[x,.ty c]/\yP K H x t/\PySem.W.kitOne K t (.type c)=some b/\Q (.bl b) H
theorem wv:vh X (.builtin "isinstance") (KM X.K):=by
 intro pins s σ H xs us Q I r h
 obtain ⟨x,c,t,b,rfl,ty,e,q⟩:=h
 obtain ⟨u,v,rfl,ru,rv⟩:=kH r
 cases (show v=Value.type c from rv)
 exact Qo I ru ty e λtk=>⟨.bl b,H,I.tok tk,rfl,q⟩
end
mutual
inductive Dp (K:PySem.W.Frag) (H:Hp):V->PyData->Prop where
 | non:Dp K H .non .none
 | bl (b:Bool):Dp K H (.bl b) (.bool b)
 | int (i:Int):Dp K H (.int i) (.int i)
 | str (x:Str):Dp K H (.str x) (.str x)
 | lst {a:Addr} {xs:List V} {ds:List PyData} (e:zR K H a xs) (h:uM K H xs ds):Dp K H (.ref a) (.list ds)
 | tup {a:Addr} {xs:List V} {ds:List PyData} (e:zt K H a xs) (h:uM K H xs ds):Dp K H (.ref a) (.tuple ds)
inductive uM (K:PySem.W.Frag) (H:Hp):List V->List PyData->Prop where
 | nil:uM K H [] []
 | cons {x:V} {xs:List V} {d:PyData} {ds:List PyData} (h:Dp K H x d) (t:uM K H xs ds):uM K H (x :: xs) (d :: ds)
end
section
variable {X:Cx} {pins:List (Addr × Obj)} {σ:St} {H:Hp} {s:Shared}
mutual
theorem Dp.reads (I:zG X pins σ H s):∀ {x:V} {d:PyData} {u:Value},Dp X.K H x d->zW x u->∃ as,Reads s.heap u d as
 | _,_,_,.non,r=>by cases r; exact ⟨_,.none⟩
 | _,_,_,.bl b,r=>by cases r; exact ⟨_,.bool b⟩
 | _,_,_,.int i,r=>by obtain ⟨t,rfl⟩:=r; exact ⟨_,.int i t⟩
 | _,_,_,.str x,r=>by obtain ⟨t,rfl⟩:=r; exact ⟨_,.str x t⟩
 | _,_,_,.lst e h,r=>by
  cases r
  obtain ⟨its,rv,⟨o,n,e1,e2,_,e3⟩,_⟩:=I.list e
  obtain ⟨as,q⟩:=uM.reads I h rv
  exact ⟨_,.list e1 e2 e3 (by simpa using q)⟩
 | _,_,_,.tup e h,r=>by
  cases r
  obtain ⟨its,rv,⟨o,e1,e2,n,e3⟩,_⟩:=I.tuple e
  obtain ⟨as,q⟩:=uM.reads I h rv
  exact ⟨_,.tuple e1 e2 e3 (by simpa using q)⟩
theorem uM.reads (I:zG X pins σ H s):∀ {xs:List V} {ds:List PyData} {us:List Value},uM X.K H xs ds->zM xs us->∃ as,ReadsAll s.heap us ds as
 | _,_,_,.nil,r=>by cases r; exact ⟨_,.nil⟩
 | _,_,_,.cons h t,r=>by
  cases r with
  | cons r1 r2=>
   obtain ⟨_,q1⟩:=Dp.reads I h r1
   obtain ⟨_,q2⟩:=uM.reads I t r2
   exact ⟨_,.cons q1 q2⟩
end
end
section
variable {X:Cx}
end
section
variable {X:Cx}
theorem vK (hc:X.calm=true):vh X (.builtin "all") (λxs H Q=>∃ (p:Addr) (bs:List Bool),xs=[.ref p]/\zR X.K H p (bs.map V.bl)/\Q (.bl (bs.all id)) H):=by
 intro pins s σ H xs us Q I r h
 obtain ⟨p,bs,rfl,hq,q⟩:=h
 obtain ⟨u,rfl,ru⟩:=jH r
 cases ru
 obtain ⟨its,rv,pl,hz⟩:=I.list hq
 have hh:X.A.in1.handled=none:=I.ok.hd hc
 have hlt:p < s.heap.objs.size:=by obtain ⟨o,n,e,_⟩:=pl; exact Heap.lt_size e
 refine call_all_walk (wpAny_pyIter_list pl.isList ?_)
 have hlen:its.length=bs.length:=by rw [<- rv.length,List.length_map]
 refine ⟨s.heap.objs.size,_,_,_,_,_,λi=>bs.getD i true,rfl,Walks.list hh s.heap.objs.size p (Nat.ne_of_lt hlt) its.toArray,⟨⟨_,Heap.get?_push_size _ rfl,rfl,rfl⟩,pl.isList.push _⟩,?_,λh' tk kk=>?_⟩
 ·intro i v s' Q' E' hP hQ'
  have e1:its[i]? = some v:=by simpa using hP
  have hi:i < its.length:=(List.getElem?_eq_some_iff.mp e1).1
  have hb:(bs.map V.bl)[i]? = some (.bl (bs.getD i true)):=by
   rw [List.getElem?_map,List.getElem?_eq_getElem (by omega),List.getD_eq_getElem?_getD,List.getElem?_eq_getElem (by omega)]
   rfl
  obtain ⟨u',e2,r2⟩:=rv.get hb
  rw [e1] at e2
  cases e2
  cases r2
  exact wpAny_truthy_bool hQ'
 ·have e:(List.range its.toArray.size).all (λi=>bs.getD i true)=bs.all id:=by
   rw [List.size_toArray,hlen]
   rw [Bool.eq_iff_iff,List.all_eq_true,List.all_eq_true]
   constructor
   ·intro z b hb
    obtain ⟨i,hi,rfl⟩:=List.mem_iff_getElem.mp hb
    have:=z i (List.mem_range.mpr hi)
    rw [List.getD_eq_getElem?_getD,List.getElem?_eq_getElem hi] at this
    exact this
   ·intro z i hi
    have hi':=List.mem_range.mp hi
    rw [List.getD_eq_getElem?_getD,List.getElem?_eq_getElem hi']
    exact z _ (List.getElem_mem hi')
  refine ⟨.bl (bs.all id),H,I.kept (h':=h') (t':=tk) λb o eb=>kk b o ?_ (Heap.get?_push_of_some _ eb),?_,q⟩
  ·intro hb
   have:b=s.heap.objs.size:=by simpa using hb
   rw [this] at eb
   exact absurd (Heap.lt_size eb) (Nat.lt_irrefl _)
  ·rw [e]
   rfl
end
end L2
namespace L2
open PySem PySem.Spec PyProof.Rows
abbrev vL (X:Cx) (scope:Scope) (N:List Str) (C:Addr) (s₀:Shared) (H₀:Hp) (ex:List Addr):Cx:=
 { X with N:=N,s₀:=s₀,H₀:=H₀,env:=compEnvC scope (wV scope X.env) C X.env,outer:=X.stack,ex:=ex,fn:=λ_=>false,pn:=[],xe:=λ_ _=>False }
def wW (own:List Str) (caps:List (Nat × Str)) (σ:St):St:=own.map (λ_=>none)++caps.map λp=>(σ[p.1]?).getD none
abbrev zb (own:List Str) (caps:List (Nat × Str)):List Str:=own++caps.map (·.2)
structure gA (X:Cx) (scope:Scope) (own:List Str) (caps:List (Nat × Str)):Prop where
 kind:scope.kind=.function
 ncell:∀ y∈scope.names,y.2≠.cell
 locs:∀ y∈scope.names,y.2=.local->scope.names.lookup y.1=some .local
 free:∀ y∈scope.names,y.2=.free->(X.env.cells.lookup y.1).isSome=true
 caps:∀ p∈caps,X.N[p.1]? = some p.2/\scope.names.lookup p.2=some .free/\(X.env.kindOf p.2=some .cell\/X.env.kindOf p.2=some .free)
theorem Ys {scope:Scope} {env:Env} {x:Str}:(relabel scope env).names.lookup x=(scope.names.lookup x).map λk=>if (k == .free && env.scope.kind == .function && env.kindOf x == some .cell)=true then .cell else k:=by
 unfold relabel
 generalize scope.names=l
 induction l with
 | nil=>rfl
 | cons p r ih=>
  obtain ⟨n,k⟩:=p
  rw [List.map_cons]
  by_cases e:x=n
  ·subst e
   by_cases c:(k == NameKind.free && env.scope.kind == .function && env.kindOf x == some .cell)=true
   ·simp only [c,if_true,List.lookup_cons,beq_self_eq_true,Option.map_some]
   ·simp only [c,if_false,List.lookup_cons,beq_self_eq_true,Option.map_some,Bool.false_eq_true]
  ·have z:(x == n)=false:=by simpa using e
   dsimp only
   split <;> simp only [List.lookup_cons,z] <;> exact ih
theorem zOL {scope:Scope} {env:Env} {x:Str} (nc:∀ y∈scope.names,y.2≠.cell) (h:(relabel scope env).names.lookup x=some .cell\/(relabel scope env).names.lookup x=some .free):(x,NameKind.free)∈scope.names:=by
 rw [Ys] at h
 cases e:scope.names.lookup x with
 | none=>rw [e] at h; rcases h with h | h <;> cases h
 | some k=>
  have m:=jJ e
  rw [e] at h
  simp only [Option.map_some,Option.some.injEq] at h
  have kf:k=.free:=by
   rcases h with h | h
   ·split at h
    ·rename_i q
     exact eq_of_beq (Bool.and_eq_true_iff.mp (Bool.and_eq_true_iff.mp q).1).1
    ·exact absurd h (nc _ m)
   ·split at h
    ·cases h
    ·exact h
  rw [<- kf]
  exact m
def kW (J:It) (g:TG) (te:TE) (Q:VK) (σ0:St) (H1:Hp):Prop:=∃ W:Nat->Nat->List V->St->Hp->Prop,(∃ m,W 0 m [] σ0 H1)∧
 ∀ i m ys σ1 H,W i m ys σ1 H->(J.stop i H/\∀ p,H p=none->Q (.ref p) (zU H p (.lst ys)))∨
  (J.go i H/\ys.length < sizeLine/\∃ N:V->St->Hp->Prop,(∀ y σ' H',N y σ' H'->∃ m',m' < m/\W (i + 1) m' (ys++[y]) σ' H')/\∀ x H',J.yld i H x H'->g x σ1 H' λσ2 H2=>te σ2 H2 λy H3=>N y σ2 H3)
def W5 (own:List Str) (caps:List (Nat × Str)) (wi:TI) (g:TG) (te:TE):TE:=λσ H Q=>wi σ H λJ H1=>kW J g te Q (wW own caps σ) H1
section
variable {X:Cx} {scope:Scope} {own:List Str} {caps:List (Nat × Str)} {pins:List (Addr × Obj)} {σ:St} {H:Hp} {s s4:Shared} {C D:Addr} {fp:List Addr}
theorem zRL (B:gA X scope own caps) (I:zG X pins σ H s) (hf:∀ b∈fp,yK X pins H b) (hC:s.heap.objs.size<=C) (hlt:∀ b∈fp,b < s.heap.objs.size):(vL X scope (zb own caps) C s H fp).Ok where
 mod:=I.ok.mod
 kind:=B.kind
 glob:=I.ok.glob
 blt:=I.ok.blt
 above:=hC
 inj:=λx y c h1 h2=>I.ok.inj x y c (vJ B.free h1).1 (vJ B.free h2).1
 has:=λx h=>kU (zOL B.ncell h)
 cab:=λx c h _=>by cases h
 hd:=I.ok.hd
 frames:=I.ok.frames
 stk:=.inl rfl
 exf:=λb hb=>⟨λe=>by have:=hlt b hb; rw [e] at this; exact absurd (Nat.lt_of_lt_of_le this hC) (Nat.lt_irrefl _),λx c e=>(hf b hb).2.2.2.2.1 x c (vJ B.free e).1⟩
 bs:=I.bs
 bsz:=Nat.le_trans I.ok.bsz I.sz
 noex:=λb o e hb=>by
  rcases (hf b hb).2.2.2.1 with z | z
  ·exact I.ok.noex b o e z
  ·exact absurd (Nat.lt_of_lt_of_le (Heap.lt_size e) (Nat.le_trans I.ok.bsz z)) (Nat.lt_irrefl _)
 exfs:=λb hb z=>by
  rcases List.mem_cons.mp (I.stkSub b z) with e | z
  ·exact (hf b hb).2.1 e
  ·exact (hf b hb).2.2.1 z
 funs:=I.stack
 frf:=I.stkFree
theorem KN {i:Nat} {x:Str} {v:V} (h1:(zb own caps)[i]? = some x) (h2:(wW own caps σ)[i]? = some (some v)):∃ j,(j,x)∈caps/\σ[j]? = some (some v):=by
 unfold wW at h2
 by_cases hi:i < own.length
 ·rw [List.getElem?_append_left (by simpa using hi),List.getElem?_map] at h2
  cases e:own[i]? with
  | none=>rw [e] at h2; cases h2
  | some a=>rw [e] at h2; cases h2
 ·rw [List.getElem?_append_right (by simpa using hi),List.length_map,List.getElem?_map] at h2
  unfold zb at h1
  rw [List.getElem?_append_right (by omega),List.getElem?_map] at h1
  cases e:caps[i - own.length]? with
  | none=>rw [e] at h1; cases h1
  | some p=>
   obtain ⟨j,n⟩:=p
   rw [e] at h1 h2
   cases h1
   refine ⟨j,List.mem_of_getElem? e,?_⟩
   simp only [Option.map_some,Option.some.injEq] at h2
   cases q:σ[j]? with
   | none=>rw [q] at h2; cases h2
   | some o=>rw [q] at h2; exact congrArg some h2
theorem zPr (B:gA X scope own caps) (I:zG X pins σ H s) (hf:∀ b∈fp,yK X pins H b) (hC:s.heap.objs.size<=C) (hlt:∀ b∈fp,b < s.heap.objs.size)
  {m:Str->Option Value} (hn:s4.heap.Ns C m) (hk:∀ b o,s.heap.get? b=some o->s4.heap.get? b=some o) (ho:s4.os=s.os) (hb:AllBare s4.gens) :
  zG (vL X scope (zb own caps) C s H fp) [] (wW own caps σ) H s4 where
 ok:=zRL B I hf hC hlt
 os:=ho
 bare:=hb
 base:=Un.kept hk
 loc:=⟨m,hn,λi x v h1 h2 h3=>by
  obtain ⟨j,hm,hs⟩:=KN h1 h2
  obtain ⟨c1,c2,c3⟩:=B.caps _ hm
  obtain ⟨m',_,hl⟩:=I.loc
  have vis:jD X.env.scope x:=c3.elim (λz=>.inr (.inl z)) λz=>.inr (.inr z)
  obtain ⟨u,r,l⟩:=hl j x v c1 hs vis
  refine ⟨u,r,.inr ?_⟩
  have hm2:(x,NameKind.free)∈scope.names:=jJ c2
  obtain ⟨c',hc'⟩:=kU (env:=X.env) hm2
  have hc2:=(vJ B.free hc').1
  refine ⟨?_,c',hc',?_⟩
  ·show (relabel scope X.env).names.lookup x=some .cell\/(relabel scope X.env).names.lookup x=some .free
   rw [Ys,c2,Option.map_some]
   split
   ·exact .inl rfl
   ·exact .inr rfl
  ·rcases l with ⟨k,_⟩ | ⟨_,c,e,z⟩
   ·rcases c3 with c3 | c3 <;> rw [c3] at k <;> cases k
   ·rw [hc2] at e
    cases e
    obtain ⟨o,e1,e2⟩:=z
    exact ⟨o,hk _ o e1,e2⟩⟩
 cell:=λx c e=>by
  obtain ⟨v,o,e1,e2⟩:=I.cell x c (vJ B.free e).1
  exact ⟨v,o,hk _ o e1,e2⟩
 free:=I.hok.fresh hC
 freeC:=λx c e=>I.freeC x c (vJ B.free e).1
 pin:=λp hp=>by simp at hp
 hok:=I.hok.kept hk
 len:=by
  show (wW own caps σ).length=(zb own caps).length
  unfold wW zb
  simp
abbrev yj (its:List Value) (k:Nat):Obj:={ cls:=.type "list",data:=.seq its.toArray k }
theorem KO {Y:Cx} {its:List Value} {k:Nat} {y:Value} {pl:List (Addr × Obj)} {Q:Value->Shared->Prop} {E:Value->Shared->Prop} (I:zG Y ((D,yj its k) :: pl) σ H s) (hn:yK Y [] H D) (hp:Y.pn=[]) (hz:its.length<=sizeLine)
  (q:∀ h' k' tk,(∀ b o,b≠D->s.heap.get? b=some o->h'.get? b=some o)->zG Y [(D,yj (its++[y]) k')] σ H { s with heap:=h',toks:=tk }->Q .none { s with heap:=h',toks:=tk }) :
  wpAny (model Y.prog Y.w) Y.A (call (.builtin "list.append") [.ref D,y]) Q E s:=by
 have pD:=I.pin (D,yj its k) (List.mem_append_right _ List.mem_cons_self)
 have e:s.heap.get? D=some (yj its k):=pD.1
 refine call_meets F.slot_list_append ⟨_,e,rfl⟩ F.entry_list_append (F.args_list_append_2 _ _) (PySem.list_append D its.toArray k y (by rw [List.size_toArray]; exact hz)) ⟨e,?_⟩
 have e2:=PySem.IsL.update e (·.push y)
 have ea:its.toArray.push y=(its++[y]).toArray:=by simp
 have keep:∀ b o,b≠D->s.heap.get? b=some o->(s.heap.update D (Obj.mapSeq (·.push y))).get? b=some o:=λb o hb eb=>(Heap.get?_update_other s.heap _ (Ne.symm hb)).trans eb
 have I0:zG Y [] σ H s:=I.pins_of λp hp'=>by cases hp'
 have I1:zG Y [] σ H { s with heap:=s.heap.update D (Obj.mapSeq (·.push y)),toks:=s.toks }:=I0.turned keep hn.1 hn.2.1 hn.2.2.2.1 hn.2.2.2.2.1 hn.2.2.2.2.2
 have e3:(s.heap.update D (Obj.mapSeq (·.push y))).get? D=some (yj (its++[y]) _):=e2.trans (by rw [ea])
 have I2:zG Y [(D,yj (its++[y]) (if ((its++[y]).toArray.size == its.toArray.size)=true then k else k + 1))] σ H { s with heap:=s.heap.update D (Obj.mapSeq (·.push y)),toks:=s.toks }:=I1.pins_of λp hp'=>by
  rw [List.mem_singleton.mp hp']
  exact ⟨e3,hn.1,hn.2.1,hn.2.2.1,λv z=>by cases z⟩
 exact q _ _ s.toks keep I2
end
section
variable {X:Cx} {scope:Scope} {own:List Str} {caps:List (Nat × Str)} {elt tg iter:Expr} {wi:TI} {g:TG} {te:TE} {pos:Pos}
theorem zMs {pins:List (Addr × Obj)} {σ:St} {H2:Hp} {s2:Shared} {it:Addr} {fp:List Addr} {tn:Nat->Heap->Prop} {J:It} {W:Nat->Nat->List V->St->Hp->Prop} {m0:Nat} {Q:VK} {E:Value->Shared->Prop} {RR:Value->Addr->Result->Shared->Prop}
  (B:gA X scope own caps) (hc:X.calm=true) (hg:∀ C s₀ H₀ ex,PG (vL X scope (zb own caps) C s₀ H₀ ex) tg g) (he:∀ C s₀ H₀ ex,PE (vL X scope (zb own caps) C s₀ H₀ ex) elt te)
  (I2:zG X pins σ H2 s2) (T:xf X.prog X.w X.K tg J fp it tn) (st2:tn 0 s2.heap) (f2:∀ b∈fp,yK X pins H2 b) (w0:W 0 m0 [] (wW own caps σ) H2)
  (turn:∀ i m ys σ1 H,W i m ys σ1 H->(J.stop i H/\∀ p,H p=none->Q (.ref p) (zU H p (.lst ys)))∨
   (J.go i H/\ys.length < sizeLine/\∃ N:V->St->Hp->Prop,(∀ y σ' H',N y σ' H'->∃ m',m' < m/\W (i + 1) m' (ys++[y]) σ' H')/\∀ x H',J.yld i H x H'->g x σ1 H' λσ2 H2=>te σ2 H2 λy H3=>N y σ2 H3))
  (hRR:∀ D C s6 H6 ys m,s6.heap.Ns C m->s2.heap.objs.size<=C->(∀ h',Heap.SameBut C s6.heap h'->zG X pins σ (zU H6 D (.lst ys)) { s6 with heap:=h' })->zU H6 D (.lst ys) C=none->Q (.ref D) (zU H6 D (.lst ys))->RR (.ref D) C (.ok .next) s6) :
  wpAny (model X.prog X.w) X.A (newList []) (λacc s3=>wpAny (model X.prog X.w) X.A (newFunctionEnv scope X.env.globals (wV scope X.env) [] X.env.qual none .none (some X.env)) (λcenv s4=>
   codeAny (model X.prog X.w) X.A (.compStart (.ListComp elt [⟨tg,iter,[],0⟩] scope pos) 0 (.ref it) acc { cenv with scope:=relabel scope X.env }) (RR acc cenv.locals) s4) E s3) E s2:=by
 have hlt:∀ b∈fp,b < s2.heap.objs.size:=λb hb=>by
  obtain ⟨o,ho,_⟩:=T.obj _ _ st2 b hb
  exact Heap.lt_size ho
 refine wpAny_newObj_type (wpAny_newFunctionEnv B.ncell (λy hy=>by simp at hy) (λh4 hns hsb=>?_) B.kind)
 dsimp only at hns hsb |-
 generalize hP:s2.heap.push { cls:=.type "list",dict:=none,data:=.seq ([]:List Value).toArray }=HD at hns hsb |-
 have hCD:HD.objs.size=s2.heap.objs.size + 1:=by rw [<- hP,Heap.size_push]
 have hDC:s2.heap.objs.size≠HD.objs.size:=by omega
 have hle:s2.heap.objs.size<=HD.objs.size:=by omega
 have old:∀ b o,s2.heap.get? b=some o->h4.get? b=some o:=λb o eb=>by
  have hb:=Heap.lt_size eb
  exact hsb.extBut b o (Nat.ne_of_lt (Nat.lt_of_lt_of_le hb hle)) (Heap.get?_push_of_some _ (by rw [<- hP]; exact Heap.get?_push_of_some _ eb))
 have hD4:h4.get? s2.heap.objs.size=some { cls:=.type "list",data:=.seq ([]:List Value).toArray 0 }:=
  hsb.extBut _ _ hDC (Heap.get?_push_of_some _ (by rw [<- hP]; exact Heap.get?_push_size _ rfl))
 have IY:zG (vL X scope (zb own caps) HD.objs.size s2 H2 fp) [] (wW own caps σ) H2 { s2 with heap:=h4,toks:=s2.toks + ([]:List (Str × Value)).length }:=
  zPr B I2 f2 (by omega) hlt hns old rfl I2.bare
 have stat:∀ {H':Hp},(∀ b∈fp,H' b=none)->∀ b∈fp,yK (vL X scope (zb own caps) HD.objs.size s2 H2 fp) [] H' b:=λ{H'} hn b hb=>by
  have hb2:=hlt b hb
  refine ⟨hn b hb,?_,λz=>?_,.inl hb,λx c ec=>(f2 b hb).2.2.2.2.1 x c (vJ B.free ec).1,λp hp=>by simp at hp⟩
  ·exact Nat.ne_of_lt (Nat.lt_of_lt_of_le hb2 hle)
  ·rcases List.mem_cons.mp (I2.stkSub b z) with e | z
   ·exact (f2 b hb).2.1 e
   ·exact (f2 b hb).2.2.1 z
 have statD:∀ {H':Hp},H' s2.heap.objs.size=none->yK (vL X scope (zb own caps) HD.objs.size s2 H2 fp) [] H' s2.heap.objs.size:=λ{H'} hn=>by
  refine ⟨hn,hDC,λz=>?_,.inr (Nat.le_refl _),λx c ec z=>?_,λp hp=>by simp at hp⟩
  ·obtain ⟨_,o,ho,_⟩:=I2.stack.mem z
   exact absurd (Heap.lt_size ho) (Nat.lt_irrefl _)
  ·obtain ⟨v,o,ho,_⟩:=I2.cell x c (vJ B.free ec).1
   rw [z] at ho
   exact absurd (Heap.lt_size ho) (Nat.lt_irrefl _)
 have uw:∀ b∈fp,b≠s2.heap.objs.size:=λb hb=>Nat.ne_of_lt (hlt b hb)
 have IY':zG (vL X scope (zb own caps) HD.objs.size s2 H2 fp) [(s2.heap.objs.size,yj [] 0)] (wW own caps σ) H2 { s2 with heap:=h4,toks:=s2.toks + ([]:List (Str × Value)).length }:=
  IY.pins_of λp hp=>by
   rw [List.mem_singleton.mp hp]
   have z:=statD (I2.hok.fresh (Nat.le_refl _))
   exact ⟨hD4,z.1,z.2.1,z.2.2.1,λv z=>by cases z⟩
 have loop:∀ s3:Shared,s3={ s2 with heap:=h4,toks:=s2.toks + ([]:List (Str × Value)).length }->
   codeAny (model X.prog X.w) X.A (.compLoop (.ListComp elt [⟨tg,iter,[],0⟩] scope pos) 0 (.ref it) (.ref s2.heap.objs.size) (compEnvC scope (wV scope X.env) HD.objs.size X.env))
    (RR (.ref s2.heap.objs.size) HD.objs.size) s3:=by
  rintro s3 rfl
  refine KJ (λn s'=>∃ i ys σ' H' its k,zG (vL X scope (zb own caps) HD.objs.size s2 H2 fp) [(s2.heap.objs.size,yj its k)] σ' H' s'/\tn i s'.heap/\(∀ b∈fp,H' b=none)∧
   zM ys its/\ys.length<=sizeLine/\W i n ys σ' H') ?_ m0 ⟨0,[],_,H2,[],0,IY',T.keep _ _ _ st2 λb hb o eb=>old b o eb,λb hb=>(f2 b hb).1,.nil,Nat.zero_le _,w0⟩
  rintro n s5 ⟨i,ys,σ5,H5,its,k,I5,st5,fr5,rv5,hz5,w5⟩
  have stat5:∀ {H':Hp},(∀ b∈fp,H' b=none)->∀ b∈fp,yK (vL X scope (zb own caps) HD.objs.size s2 H2 fp) [(s2.heap.objs.size,yj its k)] H' b:=λ{H'} hn b hb=>by
   obtain ⟨a1,a2,a3,a4,a5,_⟩:=stat hn b hb
   refine ⟨a1,a2,a3,a4,a5,λp hp=>?_⟩
   have hp':p∈[(s2.heap.objs.size,yj its k)]:=hp
   rw [List.mem_singleton.mp hp']
   exact Ne.symm (uw b hb)
  rcases turn i n ys σ5 H5 w5 with ⟨stop,qn⟩ | ⟨go,hlen,N,hN,step⟩
  ·refine zi (T.done (vL X scope (zb own caps) HD.objs.size s2 H2 fp) rfl rfl rfl hc i _ s5 σ5 H5 _ I5 (stat5 fr5) st5 stop) λr s6 ⟨hr,I6⟩=>?_
   subst hr
   obtain ⟨pD1,pD2,_⟩:=I6.pin (s2.heap.objs.size,yj its k) (List.mem_append_right _ List.mem_cons_self)
   obtain ⟨m6,hn6,_⟩:=I6.loc
   refine hRR _ _ s6 H5 ys m6 hn6 (by omega) (λh' sb=>?_) (by rw [zr (Ne.symm hDC)]; exact I6.free) (qn _ pD2)
   have hC5:H5 HD.objs.size=none:=I6.free
   have nb:∀ b o,s2.heap.get? b=some o->b≠HD.objs.size/\b≠s2.heap.objs.size:=λb o eb=>by
    have hb:=Heap.lt_size eb
    exact ⟨Nat.ne_of_lt (Nat.lt_of_lt_of_le hb hle),Nat.ne_of_lt hb⟩
   have nt:∀ b o,H5 b=some o->b≠s2.heap.objs.size:=λb o eb z=>by rw [z] at eb; rw [show H5 s2.heap.objs.size=none from pD2] at eb; cases eb
   have un:Un (wq X.stack) fp H2 (zU H5 s2.heap.objs.size (.lst ys)) s2.heap h':=
    ⟨λb o eb n1 n2 n3=>sb.extBut b o (nb b o eb).1 (I6.base.keep b o eb n1 n2 n3),
     λb o eb n1 n2 n3=>by
      obtain ⟨sl,e1⟩:=I6.base.slot b o eb n1 n2 n3
      exact ⟨sl,sb.extBut b _ (nb b o eb).1 e1⟩,
     λb o eb n1 n3=>by
      rw [zr (nb b o eb).2]
      exact I6.base.free b o eb n1 n3,
     λb o eb n3=>by
      obtain ⟨o',e1⟩:=I6.base.there b o eb n3
      exact ⟨o',sb.extBut b _ (nb b o eb).1 e1⟩,
     λb xs eb=>by
      have e1:=I6.base.tups b xs eb
      rw [zr (nt b _ e1)]
      exact e1,
     λb o u eb=>by
      have e1:=I6.base.frzs b o u eb
      rw [zr (nt b _ e1)]
      exact e1,
     λb ps eb=>by
      obtain ⟨more,e1⟩:=I6.base.tbls b ps eb
      refine ⟨more,?_⟩
      rw [zr (nt b _ e1)]
      exact e1⟩
   have ok5:xN X.prog X.w (zU H5 s2.heap.objs.size (.lst ys)) h':=λb u eb=>by
    by_cases hb:b=s2.heap.objs.size
    ·subst hb
     rw [xM] at eb
     cases eb
     exact ⟨hz5,its,k,rv5,sb.extBut _ _ hDC pD1⟩
    ·rw [zr hb] at eb
     refine (I6.hok b u eb).stay (λc v hcv ev=>sb.extBut c v ?_ ev) (λc ec=>by rw [zr (nt c _ ec)]; exact ec) λc xs ec=>by rw [zr (nt c _ ec)]; exact ec
     rintro rfl
     rcases hcv with z | z
     ·rw [<- z,hC5] at eb
      cases eb
     ·rw [hC5] at z
      cases z
   exact I2.call' (s':={ s6 with heap:=h' }) (ch:=fp) I6.os un ok5 I6.bare λb hb=>⟨(f2 b hb).2.2.2.1,(f2 b hb).2.1,(f2 b hb).2.2.2.2.1,(f2 b hb).2.2.2.2.2⟩
  ·refine zi (T.item (vL X scope (zb own caps) HD.objs.size s2 H2 fp) rfl rfl rfl hc i _ s5 σ5 H5 _ I5 (stat5 fr5) st5 go) λr s6 ⟨u,hr,h6⟩=>?_
   subst hr
   refine zi h6 λ_ s7 ⟨x,H7,I7,r7,y7,st7,fr7⟩=>?_
   have I7':=I7.pinned (stat5 fr7) (T.obj _ _ st7)
   refine zi (hg HD.objs.size s2 H2 fp _ s7 σ5 H7 x u _ I7' r7 (step x H7 y7)) λ_ s8 ⟨σ8,H8,I8,q8⟩=>?_
   refine zi (he HD.objs.size s2 H2 fp _ s8 σ8 H8 _ I8 q8) λyv s9 ⟨y,H9,I9,r9,n9⟩=>?_
   obtain ⟨m',hm',w9⟩:=hN y σ8 H9 n9
   have pD9:=(I9.pin (s2.heap.objs.size,yj its k) (List.mem_append_right _ (List.mem_append_left _ List.mem_cons_self))).2.1
   have hl:its.length=ys.length:=rv5.length.symm
   refine KO (Y:=vL X scope (zb own caps) HD.objs.size s2 H2 fp) (its:=its) (k:=k) (pl:=qu fp s7.heap) I9 (statD pD9) rfl (by omega) λh' k' tk keep I'=>?_
   refine ⟨m',hm',i + 1,ys++[y],σ8,H9,its++[yv],k',I',?_,λb hb=>?_,rv5.append (.cons r9 .nil),?_,w9⟩
   ·refine T.keep _ _ _ st7 λb hb o eb=>keep b o (uw b hb) ?_
    exact (I9.pin (b,o) (List.mem_append_right _ (List.mem_append_right _ (qv hb eb)))).1
   ·obtain ⟨o,eb,_⟩:=T.obj _ _ st7 b hb
    exact (I9.pin (b,o) (List.mem_append_right _ (List.mem_append_right _ (qv hb eb)))).2.1
   ·rw [List.length_append,List.length_singleton]
    omega
 exact codeAny_compStart_list (loop _ rfl) (T.self _ 0 _ _ _ (T.keep _ _ _ st2 λb hb o eb=>old b o eb) (loop _ rfl))
theorem KP (B:gA X scope own caps) (hc:X.calm=true) (hi:PI X tg iter wi) (hg:∀ C s₀ H₀ ex,PG (vL X scope (zb own caps) C s₀ H₀ ex) tg g)
  (he:∀ C s₀ H₀ ex,PE (vL X scope (zb own caps) C s₀ H₀ ex) elt te) (hs:∀ x,foldedSetIterable iter X.env x=pure x:=by intro _; rfl) :
  PE X (.ListComp elt [⟨tg,iter,[],0⟩] scope pos) (W5 own caps wi g te):=by
 intro pins s σ H Q I h
 rw [eval_ListComp]
 refine wpAny_comprehension_free (use:=none) rfl hs (W4 B.free) B.kind B.locs ?_
 refine zi (hi pins s σ H _ I h) λxv s1 h1=>zi h1 λitv s2 h2=>?_
 obtain ⟨it,fp,tn,J,H2,e,I2,T,st2,f2,W,⟨m0,w0⟩,turn⟩:=h2
 subst e
 refine zMs (RR:=λacc C=>compPost (model X.prog X.w) X.A X.xe none (EP X pins σ Q) acc C) B hc hg he I2 T st2 f2 w0 turn λD C s6 H6 ys m hn hC J6 hC6 q=>?_
 exact ⟨m,hn,λh' sb=>⟨.ref D,_,J6 h' sb,rfl,q⟩⟩
end
end L2
namespace L2
open PySem PySem.Spec PyProof.Rows
theorem zMq {K:PySem.W.Frag} {a:Addr} {xs:List V} {g:TG} {te:TE} {σ0:St} {H:Hp} {Q:VK} (Pv:Nat->List V->St->Hp->Prop) (h0:Pv 0 [] σ0 H) (hl:∀ i ys σ H,i<=xs.length->Pv i ys σ H->zR K H a xs/\ys.length<=i) (hz:xs.length<=sizeLine)
  (hs:∀ i x ys σ H,xs[i]? = some x->Pv i ys σ H->g x σ H λσ2 H2=>te σ2 H2 λy H3=>Pv (i + 1) (ys++[y]) σ2 H3)
  (hd:∀ ys σ H,Pv xs.length ys σ H->∀ p,H p=none->Q (.ref p) (zU H p (.lst ys))) :
  kW (jF K a) g te Q σ0 H:=by
 refine ⟨λi m ys σ H=>m=xs.length - i/\i<=xs.length/\Pv i ys σ H,⟨xs.length,by simp,Nat.zero_le _,h0⟩,?_⟩
 rintro i m ys σ H ⟨rfl,hi,p⟩
 obtain ⟨q,hy⟩:=hl i ys σ H hi p
 by_cases hlt:i < xs.length
 ·refine .inr ⟨⟨xs,xs[i],q,by simp [hlt]⟩,by omega,λy σ' H'=>Pv (i + 1) (ys++[y]) σ' H',λy σ' H' z=>⟨xs.length - (i + 1),by omega,rfl,hlt,z⟩,λx H' y=>?_⟩
  obtain ⟨e,y⟩:=y
  subst e
  exact hs i x ys σ _ (y xs q) p
 ·have e:i=xs.length:=by omega
  subst e
  exact .inl ⟨⟨xs,q,Nat.le_refl _⟩,hd ys σ H p⟩
theorem Yt {lo:Int} {n:Nat} {g:TG} {te:TE} {σ0:St} {H:Hp} {Q:VK} (Pv:Nat->List V->St->Hp->Prop) (h0:Pv 0 [] σ0 H) (hl:∀ i ys σ H,Pv i ys σ H->ys.length<=i) (hz:n<=sizeLine)
  (hs:∀ i ys σ H,i < n->Pv i ys σ H->g (.int (lo + i)) σ H λσ2 H2=>te σ2 H2 λy H3=>Pv (i + 1) (ys++[y]) σ2 H3)
  (hd:∀ ys σ H,Pv n ys σ H->∀ p,H p=none->Q (.ref p) (zU H p (.lst ys))):kW (jG lo n) g te Q σ0 H:=by
 refine ⟨λi m ys σ H=>m=n - i/\i<=n/\Pv i ys σ H,⟨n,by simp,Nat.zero_le _,h0⟩,?_⟩
 rintro i m ys σ H ⟨rfl,hi,p⟩
 have hy:=hl i ys σ H p
 by_cases hlt:i < n
 ·refine .inr ⟨hlt,by omega,λy σ' H'=>Pv (i + 1) (ys++[y]) σ' H',λy σ' H' z=>⟨n - (i + 1),by omega,rfl,hlt,z⟩,λx H' y=>?_⟩
  obtain ⟨e,y⟩:=y
  subst e y
  exact hs i ys σ _ hlt p
 ·have e:i=n:=by omega
  subst e
  exact .inl ⟨Nat.le_refl _,hd ys σ H p⟩
structure Fn (P:Program) (w:World) (K:PySem.W.Frag) (mg:Str->Option Value) (base:Heap) (x:Str) (ps:List Str) (k:Nat) (sp:Sp):Prop where
 ex:∃ f fd,zH P w K mg base zZ k f fd ps sp/\mg x=some (.ref f)/\PySem.W.keepIn K (.ref f)=true/\vI K fd ps []
theorem Fn.mono {P:Program} {w:World} {K:PySem.W.Frag} {mg:Str->Option Value} {base:Heap} {x:Str} {ps:List Str} {j k:Nat} {sp:Sp} (F:Fn P w K mg base x ps j sp) (h:j<=k:=by decide):Fn P w K mg base x ps k sp:=by
 obtain ⟨f,fd,a,b,c,d⟩:=F.ex
 exact ⟨f,fd,a.mono h,b,c,d⟩
theorem W6 {X:Cx} {x:Str} {ps:List Str} {k:Nat} {sp:Sp} {e:Expr} {es:List Expr} {t:TA} {p pos:Pos} (F:Fn X.prog X.w X.K X.mg X.base x ps k sp) (hr:zj k X.A) (hg:Gl X x) (ha:PA X (e :: es) t)
  (hdb:(x == ("__debug__" : Str))=false:=by decide) (he:starEach (e :: es) X.env=(false,eval e X.env) :: starEach es X.env:=by rfl) (hpl:(backTo pos (starEach es X.env)).any (·.1)=false:=by rfl) :
  PE X (.Call (.Name x p) (e :: es) [] pos) (Wu sp [] E0 t):=by
 obtain ⟨f,fd,a,b,c,d⟩:=F.ex
 exact Qt a hr hg b c d .nil Yp ha hdb he hpl
end L2
namespace L2
open PySem PySem.Spec PyProof.Rows
theorem xx:bootBuiltins "isinstance" = some (.builtin "isinstance"):=by decide +kernel
theorem yW:bootBuiltins "len" = some (.builtin "len"):=by decide +kernel
theorem vM:bootBuiltins "all" = some (.builtin "all"):=by decide +kernel
theorem kX:bootBuiltins "int" = some (.type "int"):=by decide +kernel
theorem KQ:bootBuiltins "bool" = some (.type "bool"):=by decide +kernel
theorem xk:bootBuiltins "tuple" = some (.type "tuple"):=by decide +kernel
theorem wN:bootBuiltins "list" = some (.type "list"):=by decide +kernel
section
variable (K:PySem.W.Frag)
end
theorem zRM {X:Cx} {scope:Scope} {own:List Str} (k:scope.kind=.function) (n:scope.names.all (λy=>y.2 != .cell && y.2 != .free && (y.2 != .local || scope.names.lookup y.1 == some .local))=true:=by first | rfl | decide +kernel):gA X scope own []:=by
 have z:∀ y∈scope.names,(y.2 != .cell && y.2 != .free && (y.2 != .local || scope.names.lookup y.1 == some .local))=true:=List.all_eq_true.mp n
 refine ⟨k,λy hy e=>?_,λy hy e=>?_,λy hy e=>?_,λp hp=>by cases hp⟩
 ·have:=z y hy
  rw [e] at this
  simp at this
 ·have:=z y hy
  rw [e] at this
  simpa using this
 ·have:=z y hy
  rw [e] at this
  simp at this
structure xg (K:PySem.W.Frag) (x qual:Str) (st:Stmt) (f:Addr) (fd:FuncData) (d:Value):Prop where
 ex:∃ (oc:Value) (od:Option Addr) (kV doc pm:Value) (an:Option Addr) (cdv ct:Value) (osl:Array (Option Value)) (T:Addr) (oT:Obj) (n:Nat),
  fd=PySem.W.fnOf x qual (wu st) (xw st) (zK st) (.ref T) kV doc pm an cdv ct/\K.lookup f=some ⟨oc,od,.func fd,osl⟩/\PySem.W.codeIn K cdv qual=true/\K.lookup T=some oT/\oT.data=.seq #[d] n
 kp:PySem.W.keepIn K (.ref f)=true
theorem xg.ok {P:Program} {w:World} {K:PySem.W.Frag} {mg:Str->Option Value} {base:Heap} {x qual:Str} {st:Stmt} {f:Addr} {fd:FuncData} {d:Value} {N ps:List Str} {k:Nat} {sp:Sp} (F:xg K x qual st f fd d) (S:ze N ps (zK st))
  (len:∀ vs H Q E,sp vs H Q E->vs.length=ps.length)
  (hbody:∀ (cdv:Value) (A:Around) (outer:List Env) (s:Shared) (H:Hp) (vs:List V) (Q:VK) (E:XK),zj k (A.deeper (envOfC qual (zK st) s.heap.objs.size f cdv))->sp vs H Q E->
   ∃ t,xO (xu zZ P w K mg base N qual (zK st) f cdv A outer s H E).nox (xw st) t/\t { nx:=λ_ H'=>Q .non H',rt:=Q } (start N vs) H):zH P w K mg base zZ (k + 1) f fd ps sp:=by
 obtain ⟨oc,od,kV,doc,pm,an,cdv,ct,osl,T,oT,n,rfl,lk,hcd,_⟩:=F.ex
 refine Qz lk hcd S len λA outer s H vs Q E hr hsp=>?_
 obtain ⟨t,h,q⟩:=hbody cdv A outer s H vs Q E hr hsp
 exact ⟨t,h.nox,q⟩
end L2
namespace L2
open PySem PySem.Spec PyProof.Rows
theorem zPd {K:PySem.W.Frag} {x qual:Str} {st:Stmt} {f T:Addr} {oc kV doc pm cdv ct d:Value} {od an:Option Addr} {osl:Array (Option Value)} {oT:Obj} {n:Nat} (l:K.lookup f=some ⟨oc,od,.func (PySem.W.fnOf x qual (wu st) (xw st) (zK st) (.ref T) kV doc pm an cdv ct),osl⟩)
  (c:PySem.W.codeIn K cdv qual=true) (k:PySem.W.keepIn K (.ref f)=true) (t:K.lookup T=some oT) (e:oT.data=.seq #[d] n):xg K x qual st f (PySem.W.fnOf x qual (wu st) (xw st) (zK st) (.ref T) kV doc pm an cdv ct) d:=
 ⟨⟨oc,od,kV,doc,pm,an,cdv,ct,osl,T,oT,n,rfl,l,c,t,e⟩,k⟩
theorem xg.binds {K:PySem.W.Frag} {x qual:Str} {st:Stmt} {f:Addr} {fd:FuncData} {d:Value} {ps:List Str} (F:xg K x qual st f fd d)
  (h:∀ (T:Addr) (kV doc pm:Value) (an:Option Addr) (cdv ct:Value) (us:List Value),us.length=ps.length->∃ k:Option (Array Value)->Sem (List (Str × Value)),
   bindArgs (PySem.W.fnOf x qual (wu st) (xw st) (zK st) (.ref T) kV doc pm an cdv ct) ⟨us,[]⟩=seqItems? (.ref T) >>= k/\k (some #[d])=pure (ps.zip us)):vI K fd ps []:=by
 obtain ⟨oc,od,kV,doc,pm,an,cdv,ct,osl,T,oT,n,rfl,lk,hcd,t,e⟩:=F.ex
 intro s us X hl
 rw [List.append_nil] at hl |-
 obtain ⟨k,h1,h2⟩:=h T kV doc pm an cdv ct us hl
 exact .of_defaults (T:=T) rfl (X T oT t) e h1 h2
end L2
namespace L2
open PySem PySem.Spec PyProof.Rows
theorem zPs {X:Cx} {scope S:Scope} {own N:List Str} {caps:List (Nat × Str)} (k:scope.kind=.function) (n:scope.names.all (λy=>y.2 != .cell && (y.2 != .local || scope.names.lookup y.1 == some .local))=true)
  (hS:X.env.scope=S) (hc:∃ n,X.env.cells=cellsFrom n S.names []) (hN:X.N=N) (fr:scope.names.all (λy=>y.2 != .free || S.names.lookup y.1 == some .cell)=true)
  (cp:caps.all (λp=>N[p.1]? == some p.2 && scope.names.lookup p.2 == some .free && S.names.lookup p.2 == some .cell)=true):gA X scope own caps:=by
 have z:∀ y∈scope.names,(y.2 != .cell && (y.2 != .local || scope.names.lookup y.1 == some .local))=true:=List.all_eq_true.mp n
 obtain ⟨nn,hc⟩:=hc
 refine ⟨k,λy hy e=>?_,λy hy e=>?_,λy hy e=>?_,λp hp=>?_⟩
 ·have:=z y hy
  rw [e] at this
  simp at this
 ·have:=z y hy
  rw [e] at this
  simpa using this
 ·have q:=List.all_eq_true.mp fr y hy
  rw [e] at q
  have q2:S.names.lookup y.1=some .cell:=by simpa using q
  rw [hc]
  exact PySem.W.cellsFrom_some S.names nn [] (.inl q2)
 ·have q:=List.all_eq_true.mp cp p hp
  simp only [Bool.and_eq_true,beq_iff_eq] at q
  refine ⟨by rw [hN]; exact q.1.1,q.1.2,.inl ?_⟩
  show X.env.scope.names.lookup p.2=some .cell
  rw [hS]
  exact q.2
structure vX (P:Program) (w:World) (K:PySem.W.Frag) (mg:Str->Option Value) (base:Heap) (x:Str) (ps:List Str) (k:Nat) (sp:Sp) (dv:V):Prop where
 ex:∃ f fd d,zH P w K mg base zZ k f fd ps sp/\mg x=some (.ref f)/\PySem.W.keepIn K (.ref f)=true/\vI K fd ps []/\vI K fd ps [d]/\zW dv d
theorem vX.mono {P:Program} {w:World} {K:PySem.W.Frag} {mg:Str->Option Value} {base:Heap} {x:Str} {ps:List Str} {j k:Nat} {sp:Sp} {dv:V} (F:vX P w K mg base x ps j sp dv) (h:j<=k:=by decide):vX P w K mg base x ps k sp dv:=by
 obtain ⟨f,fd,d,a,b,c,e⟩:=F.ex
 exact ⟨f,fd,d,a.mono h,b,c,e⟩
theorem vX.fn {P:Program} {w:World} {K:PySem.W.Frag} {mg:Str->Option Value} {base:Heap} {x:Str} {ps:List Str} {k:Nat} {sp:Sp} {dv:V} (F:vX P w K mg base x ps k sp dv):Fn P w K mg base x ps k sp:=by
 obtain ⟨f,fd,d,a,b,c,e,_⟩:=F.ex
 exact ⟨f,fd,a,b,c,e⟩
theorem zLr {X:Cx} {x:Str} {ps:List Str} {k:Nat} {sp:Sp} {e:Expr} {es:List Expr} {t:TA} {p pos:Pos} {dv:V} (F:vX X.prog X.w X.K X.mg X.base x ps k sp dv) (hr:zj k X.A) (hg:Gl X x) (ha:PA X (e :: es) t)
  (hdb:(x == ("__debug__" : Str))=false:=by decide) (he:starEach (e :: es) X.env=(false,eval e X.env) :: starEach es X.env:=by rfl) (hpl:(backTo pos (starEach es X.env)).any (·.1)=false:=by rfl) :
  PE X (.Call (.Name x p) (e :: es) [] pos) (Wu sp [dv] E0 t):=by
 obtain ⟨f,fd,d,a,b,c,_,h2,r⟩:=F.ex
 exact Qt a hr hg b c h2 (.cons r .nil) Yp ha hdb he hpl
theorem xg.binds1 {K:PySem.W.Frag} {x qual:Str} {st:Stmt} {f:Addr} {fd:FuncData} {d:Value} {ps:List Str} (F:xg K x qual st f fd d)
  (h:∀ (T:Addr) (kV doc pm:Value) (an:Option Addr) (cdv ct:Value) (us:List Value),us.length + 1=ps.length->∃ k:Option (Array Value)->Sem (List (Str × Value)),
   bindArgs (PySem.W.fnOf x qual (wu st) (xw st) (zK st) (.ref T) kV doc pm an cdv ct) ⟨us,[]⟩=seqItems? (.ref T) >>= k/\k (some #[d])=pure (ps.zip (us++[d]))):vI K fd ps [d]:=by
 obtain ⟨oc,od,kV,doc,pm,an,cdv,ct,osl,T,oT,n,rfl,lk,hcd,t,e⟩:=F.ex
 intro s us X hl
 rw [List.length_append,List.length_singleton] at hl
 obtain ⟨k,h1,h2⟩:=h T kV doc pm an cdv ct us hl
 exact .of_defaults (T:=T) rfl (X T oT t) e h1 h2
end L2
namespace L2
theorem kY {b:Bool} {A B:Prop} (e:b=true) (h:A):if b=true then A else B:=by
 rw [if_pos e]
 exact h
theorem kZ {b:Bool} {A B:Prop} (e:b=false) (h:B):if b=true then A else B:=by
 rw [if_neg (by rw [e]; exact Bool.false_ne_true)]
 exact h
theorem zPo {i j:Int} (h:i=j):decide (V.int i=V.int j)=true:=decide_eq_true (by rw [h])
theorem zRE {i j:Int} (h:i≠j):decide (V.int i=V.int j)=false:=decide_eq_false λe=>h (by injection e)
end L2
set_option maxRecDepth 100000
namespace L2
open PySem
section
variable {prog:Program} {w:World} {A:Around} {E:Value->Shared->Prop} {s:Shared}
theorem jK (hh:A.handled=none) (it t:Addr) (hne:t≠it) (items:Array Value) :
  Draws prog w A it [it,t] items.size (λi v=>items[i]? = some v) (λi h=>h.IsTupleIter it t i/\h.IsTuple t items) where
 live:=λ_ _ st=>let ⟨o,ho,_⟩:=st.1; ⟨o,ho⟩
 frame:=λ_ _ _ st hk=>⟨let ⟨o,e,r⟩:=st.1; ⟨o,hk it (by simp) o e,r⟩,let ⟨o,e,r⟩:=st.2; ⟨o,hk t (by simp) o e,r⟩⟩
 item:=λi s Q E hi st hQ=>by
  obtain ⟨hit,ht⟩:=st
  obtain ⟨o,ho,hc,hd⟩:=id hit
  obtain ⟨ol,hol,_,nl,hdl⟩:=id ht
  have hx:items[i]? = some items[i]:=by simp [hi]
  unfold Builtin.SmallTypes.nextOf
  refine wpAny_bind (wpAny_callSpecial?_slot (name:=Str.ofString "__next__") hit.typeIs F.slot_tuple_iterator_next (wpAny_call_entry F.slot_tuple_iterator_next hit.typeIs F.entry_tuple_iterator_next ?_ (F.args_tuple_iterator_next_1 _)))
  change wpAny _ _ (field (.ref it) 0 >>= _) _ _ s
  refine wpAny_bind (wpAny_field ho hd (x:=.ref t) rfl ?_)
  change wpAny _ _ (if (Value.ref t == Value.none)=true then _ else _) _ _ s
  rw [if_neg (show (Value.ref t == Value.none)≠true from Bool.false_ne_true)]
  change wpAny _ _ (field (.ref it) 1 >>= _) _ _ s
  refine wpAny_bind (wpAny_field ho hd (x:=.int i 0) rfl ?_)
  change wpAny _ _ (seqItems? (.ref t) >>= _) _ _ s
  refine wpAny_bind (wpAny_seqItems hol hdl ?_)
  simp only [Int.toNat_natCast,hx]
  refine wpAny_bind (wpAny_setField ho hd (by simp) (wpAny_pure ⟨items[i],rfl,wpAny_pure (hQ _ _ s.toks hx ⟨?_,?_⟩ (Heap.SameBut.update ..))⟩))
  ·exact ⟨_,Heap.get?_update_self _ ho (Obj.isFreed_of_fields (Obj.data_mapFields hd _)),(Obj.cls_mapFields ..).trans hc,by rw [Obj.data_mapFields hd]; simp [rawInt]⟩
  ·exact ht.extBut (Heap.SameBut.update ..).extBut hne
 done:=λs Q E st hE=>by
  obtain ⟨hit,ht⟩:=st
  obtain ⟨o,ho,hc,hd⟩:=id hit
  obtain ⟨ol,hol,_,nl,hdl⟩:=id ht
  have hx:items[items.size]? = none:=by simp
  unfold Builtin.SmallTypes.nextOf
  refine wpAny_bind (wpAny_callSpecial?_slot (name:=Str.ofString "__next__") hit.typeIs F.slot_tuple_iterator_next (wpAny_call_entry F.slot_tuple_iterator_next hit.typeIs F.entry_tuple_iterator_next ?_ (F.args_tuple_iterator_next_1 _)))
  change wpAny _ _ (field (.ref it) 0 >>= _) _ _ s
  refine wpAny_bind (wpAny_field ho hd (x:=.ref t) rfl ?_)
  change wpAny _ _ (if (Value.ref t == Value.none)=true then _ else _) _ _ s
  rw [if_neg (show (Value.ref t == Value.none)≠true from Bool.false_ne_true)]
  change wpAny _ _ (field (.ref it) 1 >>= _) _ _ s
  refine wpAny_bind (wpAny_field ho hd (x:=.int items.size 0) rfl ?_)
  change wpAny _ _ (seqItems? (.ref t) >>= _) _ _ s
  refine wpAny_bind (wpAny_seqItems hol hdl ?_)
  simp only [Int.toNat_natCast,hx]
  refine wpAny_bind (wpAny_rule (wpAny_bind (wpAny_setField ho hd (by simp) ?_)))
  change wpAny _ _ (newExc (.type "StopIteration") [] >>= _) _ _ _
  refine wpAny_bind ?_
  simp only [newExc,newTuple]
  refine wpAny_bind (wpAny_newObj_type ?_ (by size_fits))
  refine wpAny_bind (m:=firstArgMember _ _) (wpAny_of_eq (a:=Value.none) (by first | rfl | (simp only [firstArgMember]; rfl)) ?_)
  refine wpAny_newObj_type ?_ (by size_fits)
  simp only [raiseNew]
  refine wpAny_bind (wpAny_handled ?_)
  first | rw [show A.in1.handled=none from hh] | rw [hh]
  refine wpAny_bind (wpAny_pure (wpAny_throw ?_))
  exact hE _ _ (((Heap.SameBut.update ..).extBut.push _).push _) ⟨_,Heap.get?_push_size _ rfl,rfl⟩
structure Zp (z TI TO i1 i2:Addr) (f1 f2:List Addr):Prop where
 a1:TI≠z
 a2:TO≠z
 a3:i1≠z
 a4:i2≠z
 a5:TI≠TO
 a6:TI≠i1
 a7:TI≠i2
 a8:TO≠i1
 a9:TO≠i2
 b1:z∉f1
 b2:z∉f2
 b3:TO∉f1
 b4:TO∉f2
 b5:i1∉f2
 b6:i2∉f1
theorem zNG {z TI TO i1 i2:Addr} {f1 f2:List Addr} {n1 n2 k:Nat} {P1 P2:Nat->Value->Prop} {S1 S2:Nat->Heap->Prop} {a b:Value} {Q:Value->Shared->Prop}
  (D1:Draws prog w A i1 f1 n1 P1 S1) (D2:Draws prog w A i2 f2 n2 P2 S2) (Z:Zp z TI TO i1 i2 f1 f2) (hz:IsZip s.heap z TI TO .none) (hI:IsPair s.heap TI (.ref i1) (.ref i2)) (hO:IsPair s.heap TO a b)
  (s1:S1 k s.heap) (s2:S2 k s.heap) (k1:k < n1) (k2:k < n2)
  (hQ:∀ x y h' tk,P1 k x->P2 k y->IsZip h' z TI TO (rawInt s.heap.objs.size)->IsPair h' TI (.ref i1) (.ref i2)->IsPair h' TO x y->S1 (k + 1) h'->S2 (k + 1) h'->IsPair h' s.heap.objs.size x y->
   (∀ c o,c≠z->c≠TO->c≠i1->c≠i2->s.heap.get? c=some o->h'.get? c=some o)->Q (.ref s.heap.objs.size) { s with heap:=h',toks:=tk }) :
  wpAny (model prog w) A (Builtin.«zip.__next__» ⟨[.ref z],[]⟩) (λfin s'=>∃ v,fin=.done (.ret v)/\Q v s') E s:=by
 change wpAny _ _ (field (.ref z) 2 >>= _) _ _ _
 refine wpAny_bind (wpAny_field hz rfl (x:=.bool false) rfl ?_)
 change wpAny _ _ (field (.ref z) 3 >>= _) _ _ _
 refine wpAny_bind (wpAny_field hz rfl (x:=.ref TI) rfl ?_)
 refine wpAny_bind (wpAny_seqItems hI rfl ?_)
 change wpAny _ _ (Builtin.SmallTypes.ownedTupleIsFree (.ref z) >>= _) _ _ _
 refine wpAny_bind ?_
 unfold Builtin.SmallTypes.ownedTupleIsFree
 refine wpAny_bind (wpAny_field hz rfl (x:=.none) rfl (wpAny_pure ?_))
 simp only [if_true]
 refine wpAny_bind (wpAny_rule ?_)
 refine wpAny_bind (wpAny_field hz rfl (x:=.ref TO) rfl ?_)
 refine wpAny_bind (wpAny_setField_rec hz (by simp) λg1 z1 m1=>?_)
 replace z1:IsZip g1 z TI TO .ellipsis:=z1
 refine wpAny_bind ?_
 simp only [List.zipIdx_cons,List.zipIdx_nil,List.forIn_cons,List.forIn_nil]
 refine wpAny_bind (wpAny_bind (wpAny_onRaise ?_))
 change wpAny _ _ (Builtin.SmallTypes.nextOf (.ref i1) >>= _) _ _ _
 refine wpAny_bind (D1.item k _ _ _ k1 (D1.frame _ _ _ s1 λc hc o e=>m1.extBut c o (λq=>Z.b1 (q ▸ hc)) e) λx g2 t2 px s12 m2=>wpAny_pure ?_)
 have o2:IsPair g2 TO a b:=m2.extBut _ _ Z.a8 (m1.extBut _ _ Z.a2 hO)
 refine wpAny_bind (wpAny_seqItems o2 rfl ?_)
 refine wpAny_bind (wpAny_updateSeq_pair o2 λg3 o3 m3=>?_)
 replace o3:IsPair g3 TO x b:=o3
 refine wpAny_bind (wpAny_letGo (wpAny_pure ?_))
 refine wpAny_bind (wpAny_bind (wpAny_onRaise ?_))
 change wpAny _ _ (Builtin.SmallTypes.nextOf (.ref i2) >>= _) _ _ _
 refine wpAny_bind (D2.item k _ _ _ k2 (D2.frame _ _ _ s2 λc hc o e=>m3.extBut c o (λq=>Z.b4 (q ▸ hc)) (m2.extBut c o (λq=>Z.b5 (q ▸ hc)) (m1.extBut c o (λq=>Z.b2 (q ▸ hc)) e))) λy g4 t4 py s24 m4=>wpAny_pure ?_)
 have o4:IsPair g4 TO x b:=m4.extBut _ _ Z.a9 o3
 refine wpAny_bind (wpAny_seqItems o4 rfl ?_)
 refine wpAny_bind (wpAny_updateSeq_pair o4 λg5 o5 m5=>?_)
 replace o5:IsPair g5 TO x y:=o5
 refine wpAny_bind (wpAny_letGo (wpAny_pure (wpAny_pure ?_)))
 refine wpAny_bind (wpAny_seqItems o5 rfl ?_)
 refine wpAny_bind (wpAny_newTuple ?_)
 have sz:g5.objs.size=s.heap.objs.size:=by
  have q5:g5.objs.size=g4.objs.size:=m5.1
  have q4:g4.objs.size=g3.objs.size:=m4.1
  have q3:g3.objs.size=g2.objs.size:=m3.1
  have q2:g2.objs.size=g1.objs.size:=m2.1
  have q1:g1.objs.size=s.heap.objs.size:=m1.1
  omega
 have all5:∀ c o,c≠z->c≠TO->c≠i1->c≠i2->s.heap.get? c=some o->g5.get? c=some o:=λc o c1 c2 c3 c4 e=>m5.extBut _ _ c2 (m4.extBut _ _ c4 (m3.extBut _ _ c2 (m2.extBut _ _ c3 (m1.extBut _ _ c1 e))))
 have z5:IsZip g5 z TI TO .ellipsis:=m5.extBut _ _ Z.a2.symm (m4.extBut _ _ Z.a4.symm (m3.extBut _ _ Z.a2.symm (m2.extBut _ _ Z.a3.symm z1)))
 have I5:IsPair g5 TI (.ref i1) (.ref i2):=all5 _ _ Z.a1 Z.a5 Z.a6 Z.a7 hI
 have u1:S1 (k + 1) g5:=D1.frame _ _ _ s12 λc hc o e=>m5.extBut c o (λq=>Z.b3 (q ▸ hc)) (m4.extBut c o (λq=>Z.b6 (q ▸ hc)) (m3.extBut c o (λq=>Z.b3 (q ▸ hc)) e))
 have u2:S2 (k + 1) g5:=D2.frame _ _ _ s24 λc hc o e=>m5.extBut c o (λq=>Z.b4 (q ▸ hc)) e
 have lt:z < g5.objs.size:=Heap.lt_size z5
 change wpAny _ _ (Builtin.SmallTypes.ownedTupleHandOut (.ref z) (.ref g5.objs.size) >>= _) _ _ _
 refine wpAny_bind ?_
 unfold Builtin.SmallTypes.ownedTupleHandOut
 have z6:IsZip (g5.push { cls:=.type "tuple",data:=.seq #[x,y] }) z TI TO .ellipsis:=Heap.get?_push_of_some _ z5
 refine wpAny_bind (wpAny_setField_rec z6 (by simp) λg7 z7 m7=>?_)
 replace z7:IsZip g7 z TI TO (rawInt g5.objs.size):=z7
 refine wpAny_setField_rec z7 (by simp) λg8 z8 m8=>?_
 replace z8:IsZip g8 z TI TO (rawInt g5.objs.size):=z8
 have up:∀ c o,c≠z->g5.get? c=some o->g8.get? c=some o:=λc o c1 e=>m8.extBut _ _ c1 (m7.extBut _ _ c1 (Heap.get?_push_of_some _ e))
 have T8:IsPair g8 g5.objs.size x y:=m8.extBut _ _ (Nat.ne_of_gt lt) (m7.extBut _ _ (Nat.ne_of_gt lt) (Heap.get?_push_size _ rfl))
 rw [sz] at z8 T8
 refine wpAny_pure ⟨_,rfl,?_⟩
 change Q (.ref g5.objs.size) _
 rw [sz]
 exact hQ x y g8 _ px py z8 (up _ _ Z.a1 I5) (up _ _ Z.a2 o5) (D1.frame _ _ _ u1 λc hc o e=>up c o (λq=>Z.b1 (q ▸ hc)) e) (D2.frame _ _ _ u2 λc hc o e=>up c o (λq=>Z.b2 (q ▸ hc)) e) T8
  λc o c1 c2 c3 c4 e=>up c o c1 (all5 c o c1 c2 c3 c4 e)
theorem zNF {z TI TO i1 i2:Addr} {f1 f2:List Addr} {n1 n2 k:Nat} {P1 P2:Nat->Value->Prop} {S1 S2:Nat->Heap->Prop} {a b:Value} {Q:Fin->Shared->Prop}
  (D1:Draws prog w A i1 f1 n1 P1 S1) (D2:Draws prog w A i2 f2 n2 P2 S2) (Z:Zp z TI TO i1 i2 f1 f2) (hz:IsZip s.heap z TI TO .none) (hI:IsPair s.heap TI (.ref i1) (.ref i2)) (hO:IsPair s.heap TO a b)
  (s1:S1 k s.heap) (s2:S2 k s.heap) (k1:k<=n1) (k2:k<=n2) (ke:k=n1\/k=n2)
  (hE:∀ h' e tk,(∀ c o,c≠z->c≠TO->c≠i1->c≠i2->s.heap.get? c=some o->h'.get? c=some o)->(∃ o,h'.get? e=some o/\o.cls=.type "StopIteration")->E (.ref e) { s with heap:=h',toks:=tk }) :
  wpAny (model prog w) A (Builtin.«zip.__next__» ⟨[.ref z],[]⟩) Q E s:=by
 change wpAny _ _ (field (.ref z) 2 >>= _) _ _ _
 refine wpAny_bind (wpAny_field hz rfl (x:=.bool false) rfl ?_)
 change wpAny _ _ (field (.ref z) 3 >>= _) _ _ _
 refine wpAny_bind (wpAny_field hz rfl (x:=.ref TI) rfl ?_)
 refine wpAny_bind (wpAny_seqItems hI rfl ?_)
 change wpAny _ _ (Builtin.SmallTypes.ownedTupleIsFree (.ref z) >>= _) _ _ _
 refine wpAny_bind ?_
 unfold Builtin.SmallTypes.ownedTupleIsFree
 refine wpAny_bind (wpAny_field hz rfl (x:=.none) rfl (wpAny_pure ?_))
 simp only [if_true]
 refine wpAny_bind (wpAny_rule ?_)
 refine wpAny_bind (wpAny_field hz rfl (x:=.ref TO) rfl ?_)
 refine wpAny_bind (wpAny_setField_rec hz (by simp) λg1 z1 m1=>?_)
 replace z1:IsZip g1 z TI TO .ellipsis:=z1
 refine wpAny_bind ?_
 simp only [List.zipIdx_cons,List.zipIdx_nil,List.forIn_cons,List.forIn_nil]
 refine wpAny_bind (wpAny_bind (wpAny_onRaise ?_))
 change wpAny _ _ (Builtin.SmallTypes.nextOf (.ref i1) >>= _) _ _ _
 have s1':S1 k g1:=D1.frame _ _ _ s1 λc hc o e=>m1.extBut c o (λq=>Z.b1 (q ▸ hc)) e
 by_cases c1:k=n1
 ·subst c1
  refine wpAny_bind (D1.done _ _ _ s1' λg2 e m2 he=>?_)
  obtain ⟨oe,he1,he2⟩:=he
  have z2:IsZip g2 z TI TO .ellipsis:=m2 _ _ Z.a3.symm z1
  have nez:e≠z:=λq=>by subst q; rw [z2] at he1; cases he1; simp at he2
  exact wpAny_setField_rec z2 (by simp) λg3 _ m3=>hE g3 e _ (λc o c1 c2 c3 c4 q=>m3.extBut _ _ c1 (m2 _ _ c3 (m1.extBut _ _ c1 q))) ⟨oe,m3.extBut _ _ nez he1,he2⟩
 ·have c2:k=n2:=ke.resolve_left c1
  subst c2
  refine wpAny_bind (D1.item k _ _ _ (by omega) s1' λx g2 t2 px s12 m2=>wpAny_pure ?_)
  have o2:IsPair g2 TO a b:=m2.extBut _ _ Z.a8 (m1.extBut _ _ Z.a2 hO)
  refine wpAny_bind (wpAny_seqItems o2 rfl ?_)
  refine wpAny_bind (wpAny_updateSeq_pair o2 λg3 o3 m3=>?_)
  refine wpAny_bind (wpAny_letGo (wpAny_pure ?_))
  refine wpAny_bind (wpAny_bind (wpAny_onRaise ?_))
  change wpAny _ _ (Builtin.SmallTypes.nextOf (.ref i2) >>= _) _ _ _
  refine wpAny_bind (D2.done _ _ _ (D2.frame _ _ _ s2 λc hc o e=>m3.extBut c o (λq=>Z.b4 (q ▸ hc)) (m2.extBut c o (λq=>Z.b5 (q ▸ hc)) (m1.extBut c o (λq=>Z.b2 (q ▸ hc)) e))) λg4 e m4 he=>?_)
  obtain ⟨oe,he1,he2⟩:=he
  have z4:IsZip g4 z TI TO .ellipsis:=m4 _ _ Z.a4.symm (m3.extBut _ _ Z.a2.symm (m2.extBut _ _ Z.a3.symm z1))
  have nez:e≠z:=λq=>by subst q; rw [z4] at he1; cases he1; simp at he2
  exact wpAny_setField_rec z4 (by simp) λg5 _ m5=>hE g5 e _ (λc o c1 c2 c3 c4 q=>m5.extBut _ _ c1 (m4 _ _ c4 (m3.extBut _ _ c2 (m2.extBut _ _ c3 (m1.extBut _ _ c1 q))))) ⟨oe,m5.extBut _ _ nez he1,he2⟩
end
abbrev Yu (h:Heap) (t:Addr):Heap:=h.push { cls:=.type "tuple_iterator",data:=.fields #[.ref t,.int 0 0] }
abbrev Yv (h:Heap) (t l:Addr):Heap:=(Yu h t).push { cls:=.type "list_iterator",data:=.fields #[.ref l,.int 0 0] }
abbrev Yx (h:Heap) (t l:Addr):Heap:=(Yv h t l).push { cls:=.type "tuple",data:=.seq #[.ref h.objs.size,.ref (Yu h t).objs.size] }
abbrev Yy (h:Heap) (t l:Addr):Heap:=(Yx h t l).push { cls:=.type "tuple",data:=.seq #[.none,.none] }
abbrev gB (h:Heap) (t l:Addr):Heap:=(Yy h t l).push { cls:=.type "zip",data:=.fields #[.none,.bool false,.bool false,.ref (Yv h t l).objs.size,.ref (Yx h t l).objs.size] }
theorem zKT (t l:Addr) (xs ys:Array Value) :
  Meets (Builtin.«zip.__new__» ⟨[.type "zip",.ref t,.ref l],[]⟩) (λ_ R s=>s.heap.IsTuple t xs/\s.heap.IsList l ys/\R (.ok (.ret (.ref (Yy s.heap t l).objs.size))) { s with heap:=gB s.heap t l }):=
 .of_wp λprog w A R s h=>by
  obtain ⟨hp,g,d,tk,os⟩:=s; obtain ⟨h1,h2,h⟩:=h
  have hsub:=sub_zip
  have e1:Heap.IsTuple (Shared.heap ⟨hp,g,d,tk,os⟩) t xs:=h1
  have e2:Heap.IsList (Shared.heap ⟨hp.push { cls:=.type "tuple_iterator",data:=.fields #[.ref t,.int 0 0] },g,d,tk,os⟩) l ys:=Heap.IsList.push h2 _
  wp_walk using wpAny_pyIter_tuple e1,wpAny_pyIter_list e2
  exact ⟨_,rfl,h⟩
theorem zJR {prog:Program} {w:World} {A:Around} {E:Value->Shared->Prop} {s:Shared} {t l:Addr} {xs ys:Array Value} {Q:Value->Shared->Prop} (h1:s.heap.IsTuple t xs) (h2:s.heap.IsList l ys)
  (h:∀ h',IsZip h' (s.heap.objs.size + 4) (s.heap.objs.size + 2) (s.heap.objs.size + 3) .none->IsPair h' (s.heap.objs.size + 2) (.ref s.heap.objs.size) (.ref (s.heap.objs.size + 1))->IsPair h' (s.heap.objs.size + 3) .none .none->
   h'.IsTupleIter s.heap.objs.size t 0->h'.IsListIter (s.heap.objs.size + 1) l 0->(∀ c o,s.heap.get? c=some o->h'.get? c=some o)->Q (.ref (s.heap.objs.size + 4)) { s with heap:=h' }) :
  wpAny (model prog w) A (call (.type "zip") [.ref t,.ref l]) Q E s:=by
 refine callType_new F.called_zip (by decide) (F.typeCall_zip_2 _ _) (F.newCall_zip_2 _ _) (λobj=>F.args_object_init_3 obj _ _) F.entry_zip_new (zKT t l xs ys) ⟨h1,h2,?_⟩
 have n1:(Yu s.heap t).objs.size=s.heap.objs.size + 1:=Heap.size_push ..
 have n2:(Yv s.heap t l).objs.size=s.heap.objs.size + 2:=by rw [Heap.size_push,n1]
 have n3:(Yx s.heap t l).objs.size=s.heap.objs.size + 3:=by rw [Heap.size_push,n2]
 have n4:(Yy s.heap t l).objs.size=s.heap.objs.size + 4:=by rw [Heap.size_push,n3]
 have p5:(gB s.heap t l).get? (Yy s.heap t l).objs.size=some _:=Heap.get?_push_size _ rfl
 have p4:(gB s.heap t l).get? (Yx s.heap t l).objs.size=some _:=Heap.get?_push_of_some _ (Heap.get?_push_size _ rfl)
 have p3:(gB s.heap t l).get? (Yv s.heap t l).objs.size=some _:=Heap.get?_push_of_some _ (Heap.get?_push_of_some _ (Heap.get?_push_size _ rfl))
 have p2:(gB s.heap t l).get? (Yu s.heap t).objs.size=some _:=Heap.get?_push_of_some _ (Heap.get?_push_of_some _ (Heap.get?_push_of_some _ (Heap.get?_push_size _ rfl)))
 have p1:(gB s.heap t l).get? s.heap.objs.size=some _:=Heap.get?_push_of_some _ (Heap.get?_push_of_some _ (Heap.get?_push_of_some _ (Heap.get?_push_of_some _ (Heap.get?_push_size _ rfl))))
 change _/\_
 rw [n2,n3,n4] at p5
 rw [n1,n2] at p3
 rw [n3] at p4
 rw [n1] at p2
 rw [n4]
 exact ⟨⟨_,p5,rfl⟩,h _ p5 p3 p4 ⟨_,p1,rfl,rfl⟩ ⟨_,p2,rfl,rfl⟩ λc o x=>Heap.get?_push_of_some _ (Heap.get?_push_of_some _ (Heap.get?_push_of_some _ (Heap.get?_push_of_some _ (Heap.get?_push_of_some _ x))))⟩
section
variable {prog:Program} {w:World} {A:Around} {E:Value->Shared->Prop} {s:Shared}
theorem Yz {z TI TO i1 i2:Addr} {f1 f2:List Addr} {n1 n2 k:Nat} {P1 P2:Nat->Value->Prop} {S1 S2:Nat->Heap->Prop} {a b:Value} {Q:Option Value->Shared->Prop}
  (D1:Draws prog w A.in1 i1 f1 n1 P1 S1) (D2:Draws prog w A.in1 i2 f2 n2 P2 S2) (Z:Zp z TI TO i1 i2 f1 f2) (hz:IsZip s.heap z TI TO .none) (hI:IsPair s.heap TI (.ref i1) (.ref i2)) (hO:IsPair s.heap TO a b)
  (s1:S1 k s.heap) (s2:S2 k s.heap) (k1:k < n1) (k2:k < n2)
  (hQ:∀ x y h' tk,P1 k x->P2 k y->IsZip h' z TI TO (rawInt s.heap.objs.size)->IsPair h' TI (.ref i1) (.ref i2)->IsPair h' TO x y->S1 (k + 1) h'->S2 (k + 1) h'->IsPair h' s.heap.objs.size x y->
   (∀ c o,c≠z->c≠TO->c≠i1->c≠i2->s.heap.get? c=some o->h'.get? c=some o)->Q (some (.ref s.heap.objs.size)) { s with heap:=h',toks:=tk }) :
  wpAny (model prog w) A (pyNext (.ref z)) Q E s:=by
 have ty:s.TypeIs (.ref z) "zip":=⟨_,hz,rfl⟩
 unfold pyNext
 refine wpAny_bind (wpAny_attempt (wpAny_callSpecial?_slot (name:=Str.ofString "__next__") ty F.slot_zip_next (wpAny_call_entry F.slot_zip_next ty F.entry_zip_next ?_ (F.args_zip_next_1 _))))
 exact zNG D1 D2 Z hz hI hO s1 s2 k1 k2 λx y h' tk c1 c2 c3 c4 c5 c6 c7 c8 c9=>wpAny_pure (hQ x y h' tk c1 c2 c3 c4 c5 c6 c7 c8 c9)
theorem Y0 {z TI TO i1 i2:Addr} {f1 f2:List Addr} {n1 n2 k:Nat} {P1 P2:Nat->Value->Prop} {S1 S2:Nat->Heap->Prop} {a b:Value} {Q:Option Value->Shared->Prop}
  (D1:Draws prog w A.in1 i1 f1 n1 P1 S1) (D2:Draws prog w A.in1 i2 f2 n2 P2 S2) (Z:Zp z TI TO i1 i2 f1 f2) (hz:IsZip s.heap z TI TO .none) (hI:IsPair s.heap TI (.ref i1) (.ref i2)) (hO:IsPair s.heap TO a b)
  (s1:S1 k s.heap) (s2:S2 k s.heap) (k1:k<=n1) (k2:k<=n2) (ke:k=n1\/k=n2)
  (hQ:∀ h' tk,(∀ c o,c≠z->c≠TO->c≠i1->c≠i2->s.heap.get? c=some o->h'.get? c=some o)->Q none { s with heap:=h',toks:=tk }) :
  wpAny (model prog w) A (pyNext (.ref z)) Q E s:=by
 have ty:s.TypeIs (.ref z) "zip":=⟨_,hz,rfl⟩
 unfold pyNext
 refine wpAny_bind (wpAny_attempt (wpAny_callSpecial?_slot (name:=Str.ofString "__next__") ty F.slot_zip_next (wpAny_call_entry F.slot_zip_next ty F.entry_zip_next
  (zNF D1 D2 Z hz hI hO s1 s2 k1 k2 ke λh' e tk keep he=>?_) (F.args_zip_next_1 _))))
 obtain ⟨o,ho,hc⟩:=he
 refine wpAny_bind (wpAny_isInstance (T:="StopIteration") (b:=true) ⟨o,ho,hc⟩ isSubtype_stop ?_)
 exact wpAny_pure (hQ _ _ keep)
end
end L2
namespace L2
open PySem PySem.Spec PyProof.Rows
def KR (K:PySem.W.Frag) (a b:Addr):It:=
 ⟨λi H=>∃ xs ys x y,zt K H a xs/\zR K H b ys/\xs[i]? = some x/\ys[i]? = some y,
  λi H v H'=>∃ T x y,v=.ref T/\H T=none/\H'=zU H T (.tup [x,y])/\(∀ xs,zt K H a xs->xs[i]? = some x)/\∀ ys,zR K H b ys->ys[i]? = some y,
  λi H=>∃ xs ys,zt K H a xs/\zR K H b ys/\i<=xs.length/\i<=ys.length/\(i=xs.length\/i=ys.length)⟩
theorem vY {vs:Array Value} (v:Option Value):Data.fields vs≠Data.cell v:=λz=>by cases z
theorem jL {vs:Array Value} {n:Nat} (v:Option Value):Data.seq vs n≠Data.cell v:=λz=>by cases z
theorem zG.turnT {X:Cx} {pins:List (Addr × Obj)} {σ:St} {H:Hp} {s:Shared} {h':Heap} {tk:Nat} {ch:List Addr} {T:Addr} {x y:V} {u v:Value} (I:zG X pins σ H s) (hf:∀ b∈ch,yK X pins H b) (keep:∀ b o,b∉ch->s.heap.get? b=some o->h'.get? b=some o)
  (hT:s.heap.objs.size<=T) (p:IsPair h' T u v) (rx:zW x u) (ry:zW y v):zG X pins σ (zU H T (.tup [x,y])) { s with heap:=h',toks:=tk }:=by
 have fr:H T=none:=I.hok.fresh hT
 have nT:∀ b o,s.heap.get? b=some o->b≠T:=λb o e z=>by rw [z] at e; exact absurd (Nat.lt_of_lt_of_le (Heap.lt_size e) hT) (Nat.lt_irrefl _)
 have uY:∀ b o,H b=some o->b∉ch:=λb o e z=>by rw [(hf b z).1] at e; cases e
 refine I.step (ch:=ch) (λb hb=>⟨(hf b hb).2.2.2.1,(hf b hb).2.1,(hf b hb).2.2.2.2.1,(hf b hb).2.2.2.2.2⟩) (λb o _ _ hc e _=>keep b o hc e) (λb o _ _ hc e _=>⟨o.slots,keep b o hc e⟩)
  (λb o _ e n=>by rw [zr (nT b o e)]; exact n) (λb o hc e=>⟨o,keep b o hc e⟩) (λb xs e=>by rw [zr (wb e fr)]; exact e) (λb o w e=>by rw [zr (wb e fr)]; exact e)
  (λb ps e=>⟨#[],by rw [zr (wb e fr),e]; simp⟩) (λm hm=>?_) (λb w e=>?_) I.bare
 ·obtain ⟨o,es,ep,ho,r⟩:=hm
  exact ⟨o,es,ep,keep _ o (λz=>(hf _ z).2.1 rfl) ho,r⟩
 ·by_cases hb:b=T
  ·subst hb
   rw [xM] at e
   cases e
   exact ⟨by show 2<=sizeLine; decide,[u,v],.cons rx (.cons ry .nil),⟨_,p,rfl,_,rfl⟩⟩
  ·rw [zr hb] at e
   refine (I.hok b w e).stay (λc q hc ec=>keep c q ?_ ec) (λc ec=>by rw [zr (wb ec fr)]; exact ec) λc xs ec=>by rw [zr (wb ec fr)]; exact ec
   rcases hc with z | z
   ·rw [z]
    exact uY b w e
   ·exact uY c _ z
theorem zG.turnN {X:Cx} {pins:List (Addr × Obj)} {σ:St} {H:Hp} {s:Shared} {h':Heap} {tk:Nat} {ch:List Addr} (I:zG X pins σ H s) (hf:∀ b∈ch,yK X pins H b) (keep:∀ b o,b∉ch->s.heap.get? b=some o->h'.get? b=some o) :
  zG X pins σ H { s with heap:=h',toks:=tk }:=by
 have uY:∀ b o,H b=some o->b∉ch:=λb o e z=>by rw [(hf b z).1] at e; cases e
 refine I.step (ch:=ch) (λb hb=>⟨(hf b hb).2.2.2.1,(hf b hb).2.1,(hf b hb).2.2.2.2.1,(hf b hb).2.2.2.2.2⟩) (λb o _ _ hc e _=>keep b o hc e) (λb o _ _ hc e _=>⟨o.slots,keep b o hc e⟩)
  (λb o _ e n=>n) (λb o hc e=>⟨o,keep b o hc e⟩) (λb xs e=>e) (λb o w e=>e) (λb ps e=>⟨#[],by rw [e]; simp⟩) (λm hm=>?_) (λb w e=>?_) I.bare
 ·obtain ⟨o,es,ep,ho,r⟩:=hm
  exact ⟨o,es,ep,keep _ o (λz=>(hf _ z).2.1 rfl) ho,r⟩
 ·refine (I.hok b w e).stay (λc q hc ec=>keep c q ?_ ec) (λc ec=>ec) λc xs ec=>ec
  rcases hc with z | z
  ·rw [z]
   exact uY b w e
  ·exact uY c _ z
theorem zNL {P:Program} {w:World} {K:PySem.W.Frag} {es:List Expr} {kk:Nat} {tp:Pos} {a b z TI TO i1 i2:Addr} (Z:Zp z TI TO i1 i2 [i1,a] [i2,b]) (na:a≠i1) (nb:b≠i2) :
  xf P w K (.Tuple es kk tp) (KR K a b) [z,TI,TO,i1,i2] z (λi h=>IsZip h z TI TO .none/\IsPair h TI (.ref i1) (.ref i2)/\(∃ x y,IsPair h TO x y)/\h.IsTupleIter i1 a i/\h.IsListIter i2 b i) where
 mem:=by simp
 obj:=λi h ⟨t1,t2,⟨x,y,t3⟩,t4,t5⟩ c hc=>by
  simp only [List.mem_cons,List.not_mem_nil,or_false] at hc
  rcases hc with rfl | rfl | rfl | rfl | rfl
  ·exact ⟨_,t1,vY⟩
  ·exact ⟨_,t2,jL⟩
  ·exact ⟨_,t3,jL⟩
  ·obtain ⟨o,e,_,d⟩:=t4
   exact ⟨o,e,by rw [d]; exact vY⟩
  ·obtain ⟨o,e,_,d⟩:=t5
   exact ⟨o,e,by rw [d]; exact vY⟩
 keep:=λi h h' ⟨t1,t2,⟨x,y,t3⟩,t4,t5⟩ k=>⟨k z (by simp) _ t1,k TI (by simp) _ t2,⟨x,y,k TO (by simp) _ t3⟩,(by obtain ⟨o,e,r⟩:=t4; exact ⟨o,k i1 (by simp) o e,r⟩),(by obtain ⟨o,e,r⟩:=t5; exact ⟨o,k i2 (by simp) o e,r⟩)⟩
 item:=by
  intro X hP hw hK hc i pins s σ H E I hf ⟨t1,t2,⟨x0,y0,t3⟩,t4,t5⟩ hg
  subst hP hw hK
  obtain ⟨xs,ys,x,y,hq1,hq2,hx,hy⟩:=hg
  obtain ⟨its1,rv1,p1,_⟩:=I.tuple hq1
  obtain ⟨its2,rv2,p2,_⟩:=I.list hq2
  obtain ⟨u,hu,ru⟩:=rv1.get hx
  obtain ⟨v,hv,rv⟩:=rv2.get hy
  have hh:X.A.in1.handled=none:=I.ok.hd hc
  have l1:i < its1.toArray.size:=by rw [List.size_toArray]; exact (List.getElem?_eq_some_iff.mp hu).1
  have l2:i < its2.toArray.size:=by rw [List.size_toArray]; exact (List.getElem?_eq_some_iff.mp hv).1
  refine Yz (jK hh i1 a na its1.toArray) (Draws.list hh i2 b nb its2.toArray) Z t1 t2 t3 ⟨t4,p1⟩ ⟨t5,p2.isList⟩ l1 l2 ?_
  intro x' y' h1 tk px py z1 z2 z3 z4 z5 z6 keep
  have ex:x'=u:=by
   have q:its1.toArray[i]? = some x':=px
   simp only [List.getElem?_toArray] at q
   rw [hu] at q
   exact (Option.some.inj q).symm
  have ey:y'=v:=by
   have q:its2.toArray[i]? = some y':=py
   simp only [List.getElem?_toArray] at q
   rw [hv] at q
   exact (Option.some.inj q).symm
  subst ex ey
  refine ⟨_,rfl,wpAny_letOwnedTupleGo_zip (s:={ s with heap:=h1,toks:=tk }) z1 λh2 z7 sb=>?_⟩
  have zlt:z < s.heap.objs.size:=Heap.lt_size t1
  have keep2:∀ c o,c∉[z,TI,TO,i1,i2]->s.heap.get? c=some o->h2.get? c=some o:=λc o hc e=>by
   simp only [List.mem_cons,List.not_mem_nil,or_false,not_or] at hc
   exact sb.extBut c o hc.1 (keep c o hc.1 hc.2.2.1 hc.2.2.2.1 hc.2.2.2.2 e)
  have pT:IsPair h2 s.heap.objs.size x' y':=sb.extBut _ _ (Nat.ne_of_gt zlt) z6
  have I':=I.turnT (h':=h2) (tk:=tk) (ch:=[z,TI,TO,i1,i2]) (x:=x) (y:=y) hf keep2 (Nat.le_refl _) pT ru rv
  refine ⟨.ref s.heap.objs.size,_,I',rfl,⟨s.heap.objs.size,x,y,rfl,I.hok.fresh (Nat.le_refl _),rfl,λxs' q=>by rw [I.tuple_inj q hq1]; exact hx,λys' q=>by rw [I.list_inj q hq2]; exact hy⟩,
   ⟨z7,sb.extBut _ _ Z.a1 z2,⟨_,_,sb.extBut _ _ Z.a2 z3⟩,z4.1.extBut sb.extBut Z.a3,z5.1.extBut sb.extBut Z.a4⟩,λc hc=>?_⟩
  have:=(hf c hc).1
  rw [zr]
  ·exact this
  ·intro q
   obtain ⟨o,e,_⟩:∃ o,s.heap.get? c=some o/\True:=by
    simp only [List.mem_cons,List.not_mem_nil,or_false] at hc
    rcases hc with rfl | rfl | rfl | rfl | rfl
    ·exact ⟨_,t1,trivial⟩
    ·exact ⟨_,t2,trivial⟩
    ·exact ⟨_,t3,trivial⟩
    ·obtain ⟨o,e,_⟩:=t4; exact ⟨o,e,trivial⟩
    ·obtain ⟨o,e,_⟩:=t5; exact ⟨o,e,trivial⟩
   rw [q] at e
   exact absurd (Heap.lt_size e) (Nat.lt_irrefl _)
 done:=by
  intro X hP hw hK hc i pins s σ H E I hf ⟨t1,t2,⟨x0,y0,t3⟩,t4,t5⟩ hg
  subst hP hw hK
  obtain ⟨xs,ys,hq1,hq2,e1,e2,e3⟩:=hg
  obtain ⟨its1,rv1,p1,_⟩:=I.tuple hq1
  obtain ⟨its2,rv2,p2,_⟩:=I.list hq2
  have hh:X.A.in1.handled=none:=I.ok.hd hc
  have n1:its1.toArray.size=xs.length:=by rw [List.size_toArray]; exact rv1.length.symm
  have n2:its2.toArray.size=ys.length:=by rw [List.size_toArray]; exact rv2.length.symm
  refine Y0 (jK hh i1 a na its1.toArray) (Draws.list hh i2 b nb its2.toArray) Z t1 t2 t3 ⟨t4,p1⟩ ⟨t5,p2.isList⟩ (by omega) (by omega) (by omega) ?_
  intro h1 tk keep
  refine ⟨rfl,I.turnN (h':=h1) (tk:=tk) (ch:=[z,TI,TO,i1,i2]) hf λc o hc e=>?_⟩
  simp only [List.mem_cons,List.not_mem_nil,or_false,not_or] at hc
  exact keep c o hc.1 hc.2.2.1 hc.2.2.2.1 hc.2.2.2.2 e
 self:=λ_ _ _ _ _ st h=>wpAny_pyIter_zip st.1 h
theorem vm {x y z:Nat} (h1:x≠y) (h2:x≠z):x∉[y,z]:=by simp [h1,h2]
theorem ka (n a b:Nat) (la:a < n) (lb:b < n):Zp (n + 4) (n + 2) (n + 3) n (n + 1) [n,a] [n + 1,b]:=by
 have e:∀ x y:Nat,x≠y->(x:Addr)≠y:=λ_ _ h=>h
 exact ⟨e _ _ (by omega),e _ _ (by omega),e _ _ (by omega),e _ _ (by omega),e _ _ (by omega),e _ _ (by omega),e _ _ (by omega),e _ _ (by omega),e _ _ (by omega),
  vm (by omega) (by omega),vm (by omega) (by omega),vm (by omega) (by omega),vm (by omega) (by omega),vm (by omega) (by omega),vm (by omega) (by omega)⟩
section
variable {X:Cx} {es:List Expr} {kk:Nat} {tp:Pos}
end
end L2
namespace L2
open PySem PySem.Spec PyProof.Rows
section
variable {κ:Type} [DecidableEq κ]
end
section
variable {P:Program} {w:World} {H:Hp} {h:Heap} {a:Addr}
end
section
variable {X:Cx} {pins:List (Addr × Obj)} {σ:St} {H:Hp} {s:Shared} {a:Addr} {y v:V} {u r:Value} {o:Option V} {A:Around} {E:Value->Shared->Prop}
end
section
variable {X:Cx} {pins:List (Addr × Obj)} {σ:St} {H:Hp} {s:Shared} {a:Addr} {kvs:List (wE × V)} {k:wE} {u:Value} {A:Around} {E:Value->Shared->Prop}
end
section
variable {X:Cx} {o i e value:Expr} {pos pos' tpos:Pos} {td ty tv:TE}
end
section
variable {X:Cx} {pos:Pos}
end
end L2
namespace L2
open PySem
section
variable {prog:Program} {w:World} {A:Around} {R:Result->Shared->Prop} {s:Shared}
end
end L2
namespace L2
open PySem PySem.Spec PyProof.Rows
section
variable {X:Cx} {scope:Scope} {own:List Str} {caps:List (Nat × Str)} {elt tg iter cond:Expr} {wi:TI} {g:TG} {tc:TT} {te:TE} {pos:Pos}
end
end L2
namespace L2
open PySem PySem.Spec PyProof.Rows
section
variable {prog:Program} {w:World} {A:Around} {E:Value->Shared->Prop} {s:Shared}
end
end L2
namespace L2
open PySem PySem.Spec PyProof.Rows
section
variable {X:Cx}
theorem zQf (hu:X.A.units + 64 < cLine):xD X (compareOp .NotEq) (λx y H Q=>∃ d e:PyData,Dp X.K H x d/\Dp X.K H y e/\d.canLay0=true/\e.canLay0=true/\d.depth<=60/\e.depth<=60/\Q (.bl (!PyData.eqv d e)) H):=by
 intro pins s σ H x y v u Q I rx ry h
 obtain ⟨d,e,hx,hy,hc,hc',hd,hd',q⟩:=h
 obtain ⟨_,r1⟩:=hx.reads I rx
 obtain ⟨_,r2⟩:=hy.reads I ry
 exact SeqAt.compareNe_reads r1 r2 hc hc' (by omega) ⟨.bl _,H,I,rfl,q⟩
end
end L2
namespace L2
open PySem PySem.Spec PyProof.Rows
section
variable {X:Cx}
end
end L2
namespace L2
open PySem
theorem kb:bootBuiltins "max" = some (.builtin "max"):=by decide +kernel
end L2
namespace L2
open PySem PySem.Spec PyProof.Rows
theorem jx:bootBuiltins "sum" = some (.builtin "sum"):=by decide +kernel
theorem KS:∀ {ns:List Int} {its:List Value},zM (ns.map V.int) its->∃ zs:List (Int × Tok),its=zs.map (λp=>Value.int p.1 p.2)/\zs.map (·.1)=ns
 | [],_,.nil=>⟨[],rfl,rfl⟩
 | n :: r,_,.cons h t=>by
  obtain ⟨zs,e1,e2⟩:=KS t
  obtain ⟨tk,rfl⟩:=h
  exact ⟨(n,tk) :: zs,by rw [e1]; rfl,by rw [List.map_cons,e2]⟩
section
variable {X:Cx}
theorem jy (hc:X.calm=true):vh X (.builtin "sum") (λxs H Q=>∃ (p:Addr) (ns:List Int),xs=[.ref p]/\zR X.K H p (ns.map V.int)/\Q (.int ns.sum) H):=by
 intro pins s σ H xs us Q I r h
 obtain ⟨p,ns,rfl,hq,q⟩:=h
 obtain ⟨u,rfl,ru⟩:=jH r
 cases ru
 obtain ⟨its,rv,pl,hz⟩:=I.list hq
 obtain ⟨zs,e1,e2⟩:=KS rv
 have e3:its.toArray=intItems zs.toArray:=by
  rw [e1]
  unfold intItems
  simp
 have hl:=pl.isList
 rw [e3] at hl
 refine sum_intListG (I.ok.hd hc) hl λh' tk t' kk=>⟨.int ns.sum,H,I.kept (h':=h') (t':=tk) kk,⟨t',?_⟩,q⟩
 rw [preSum_eq,List.take_of_length_le (by simp),e2]
end
end L2
namespace L2
open PySem PySem.Spec PyProof.Rows
theorem kd {a b c d:Nat} (h1:a < b) (h2:b<=c) (h3:c + 1<=d):d≠a:=by omega
theorem W7 {a b c:Nat} (h1:c=a + 1) (h2:c + 1<=b):b≠a:=by omega
theorem Y1 {x:Str} {c:Addr}:∀ (names:List (Str × NameKind)) (n:Nat) (acc:List (Str × Addr)),(cellsFrom n names acc).lookup x=some c->((x,NameKind.cell)∈names/\n<=c)\/acc.lookup x=some c
 | [],_,_,h=>.inr h
 | (y,k) :: r,n,acc,h=>by
  unfold cellsFrom at h
  split at h
  ·rename_i hk
   rcases Y1 r (n + 1) ((y,n) :: acc) h with ⟨a,b⟩ | z
   ·exact .inl ⟨List.mem_cons_of_mem _ a,by omega⟩
   ·rw [List.lookup_cons] at z
    by_cases e:(x == y)=true
    ·simp only [e] at z
     have e1:x=y:=eq_of_beq e
     have e2:k=.cell:=eq_of_beq hk
     subst e1
     subst e2
     cases z
     exact .inl ⟨List.mem_cons_self,Nat.le_refl _⟩
    ·have e':(x == y)=false:=by simpa using e
     simp only [e'] at z
     exact .inr z
  ·rcases Y1 r n acc h with ⟨a,b⟩ | z
   ·exact .inl ⟨List.mem_cons_of_mem _ a,b⟩
   ·exact .inr z
theorem W8 {x:Str}:∀ (names:List (Str × NameKind)) (n:Nat) (acc:List (Str × Addr)),(x,NameKind.cell)∉names->(cellsFrom n names acc).lookup x=acc.lookup x
 | [],_,_,_=>rfl
 | (y,k) :: r,n,acc,h=>by
  have hr:(x,NameKind.cell)∉r:=λz=>h (List.mem_cons_of_mem _ z)
  unfold cellsFrom
  split
  ·rename_i hk
   have e2:k=.cell:=eq_of_beq hk
   rw [W8 r _ _ hr,List.lookup_cons]
   have e':(x == y)=false:=by
    cases q:x == y with
    | false=>rfl
    | true=>exact absurd (by rw [eq_of_beq q,e2]; exact List.mem_cons_self) h
   simp only [e']
  ·exact W8 r _ _ hr
theorem W9:∀ (names:List (Str × NameKind)) (n:Nat) (acc:List (Str × Addr)),(∀ x c,acc.lookup x=some c->c < n)->(∀ x y c,acc.lookup x=some c->acc.lookup y=some c->x=y)->
  ∀ x y c,(cellsFrom n names acc).lookup x=some c->(cellsFrom n names acc).lookup y=some c->x=y
 | [],_,_,_,h2=>h2
 | (z,k) :: r,n,acc,h1,h2=>by
  unfold cellsFrom
  split
  ·have look:∀ x c,((z,n) :: acc).lookup x=some c->(x=z/\c=n)\/acc.lookup x=some c:=λx c e=>by
    rw [List.lookup_cons] at e
    cases q:x == z with
    | true=>
     simp only [q] at e
     exact .inl ⟨eq_of_beq q,(Option.some.inj e).symm⟩
    | false=>
     simp only [q] at e
     exact .inr e
   refine W9 r (n + 1) ((z,n) :: acc) (λx c e=>?_) λx y c e1 e2=>?_
   ·rcases look x c e with ⟨_,e⟩ | e
    ·rw [e]
     exact Nat.lt_succ_self n
    ·exact Nat.lt_succ_of_lt (h1 x c e)
   ·rcases look x c e1 with ⟨a1,b1⟩ | a1 <;> rcases look y c e2 with ⟨a2,b2⟩ | a2
    ·rw [a1,a2]
    ·have:=h1 y c a2
     rw [b1] at this
     exact absurd this (Nat.lt_irrefl n)
    ·have:=h1 x c a1
     rw [b2] at this
     exact absurd this (Nat.lt_irrefl n)
    ·exact h2 x y c a1 a2
  ·exact W9 r n acc h1 h2
theorem UA {x:Str} {c:Addr}:∀ (names:List (Str × NameKind)) (h:Heap) (acc:List (Str × Addr)),(cellsFrom h.objs.size names acc).lookup x=some c->acc.lookup x=some c\/(pushCells h names).IsCell c none
 | [],_,_,e=>.inl e
 | (y,k) :: r,h,acc,e=>by
  unfold cellsFrom at e
  unfold pushCells
  split at e
  ·rename_i hk
   rw [if_pos hk]
   have q:=UA (x:=x) (c:=c) r (h.push { cls:=.type "cell",data:=.cell none }) ((y,h.objs.size) :: acc) (by rw [Heap.size_push]; exact e)
   rcases q with q | q
   ·rw [List.lookup_cons] at q
    cases z:x == y with
    | true=>
     simp only [z] at q
     cases q
     exact .inr ⟨_,pushCells_keeps r _ _ _ (Heap.get?_push_size _ rfl),rfl⟩
    | false=>
     simp only [z] at q
     exact .inl q
   ·exact .inr q
  ·rename_i hk
   rw [if_neg hk]
   exact UA r h acc e
theorem gC:∀ {l:List (Str × NameKind)} {x:Str} {k:NameKind},(l.map (·.1)).Nodup->(x,k)∈l->l.lookup x=some k
 | [],_,_,_,h=>by cases h
 | (y,j) :: r,x,k,nd,h=>by
  rw [List.map_cons,List.nodup_cons] at nd
  rw [List.lookup_cons]
  rcases List.mem_cons.mp h with e | h
  ·cases e
   rw [beq_self_eq_true]
  ·have ne:(x == y)=false:=by
    cases q:x == y with
    | false=>rfl
    | true=>exact absurd (by rw [<- eq_of_beq q]; exact List.mem_map.mpr ⟨(x,k),h,rfl⟩) nd.1
   simp only [ne]
   exact gC nd.2 h
theorem zHj {M:Model} {A:Around} {E:Value->Shared->Prop} {s:Shared} {scope:Scope} {globals:Addr} {closure:List (Str × Addr)} {qual:Str} {func:Option Addr} {code:Value} {env:Env} {builtins:Addr} {Q:Env->Shared->Prop}
  (h:Q (newEnv scope s.heap.objs.size globals (cellsFrom (s.heap.objs.size + 1) scope.names closure) qual func code (some env) builtins) { s with heap:=pushCells (s.heap.push { cls:=.type "dict",data:=.dict #[] }) scope.names }) :
  wpAny M A (newFunctionEnv scope globals closure [] qual func code (some env) builtins) Q E s:=by
 simp only [newFunctionEnv,Option.isSome_some,if_true]
 refine wpAny_bind (wpAny_alloc ?_)
 refine wpAny_bind (wpAny_layCells _ (λname kind cells=>by cases hkc:kind == NameKind.cell <;> simp [hkc]) _ _ _ _ ?_)
 rw [show ({ s with heap:=s.heap.push { cls:=.type "dict",data:=.dict #[] } }:Shared).heap.objs.size=s.heap.objs.size + 1 from Heap.size_push ..]
 simp only [List.forIn_nil]
 exact wpAny_bind (wpAny_pure (wpAny_pure h))
abbrev xl (X:Cx) (scope:Scope) (N:List Str) (C:Addr) (s₀:Shared) (H₀:Hp) (ex:List Addr):Cx:=
 { X with N:=N,s₀:=s₀,H₀:=H₀,env:=compEnvC scope (cellsFrom (C + 1) scope.names (wV scope X.env)) C X.env,outer:=X.stack,ex:=ex,fn:=λx=>scope.names.lookup x == some .cell,pn:=[],xe:=λ_ _=>False }
structure uZ (X:Cx) (scope:Scope) (own:List Str) (caps:List (Nat × Str)):Prop where
 kind:scope.kind=.function
 nod:(scope.names.map (·.1)).Nodup
 locs:∀ y∈scope.names,y.2=.local->scope.names.lookup y.1=some .local
 free:∀ y∈scope.names,y.2=.free->(X.env.cells.lookup y.1).isSome=true
 caps:∀ p∈caps,X.N[p.1]? = some p.2/\scope.names.lookup p.2=some .free/\(X.env.kindOf p.2=some .cell\/X.env.kindOf p.2=some .free)
section
variable {X:Cx} {scope:Scope} {own:List Str} {caps:List (Nat × Str)} {pins:List (Addr × Obj)} {σ:St} {H:Hp} {s s4:Shared} {C D:Addr} {fp:List Addr}
theorem Y2 (B:uZ X scope own caps) {x:Str} {c n:Nat} (e:(cellsFrom n scope.names (wV scope X.env)).lookup x=some c):((x,NameKind.cell)∈scope.names/\n<=c)\/X.env.cells.lookup x=some c:=
 (Y1 _ _ _ e).imp id λz=>(vJ B.free z).1
theorem KT (I:zG X pins σ H s) {x:Str} {c:Addr} (e:X.env.cells.lookup x=some c):c < s.heap.objs.size:=by
 obtain ⟨v,o,ho,_⟩:=I.cell x c e
 exact Heap.lt_size ho
theorem zPq (B:uZ X scope own caps) (I:zG X pins σ H s) (hf:∀ b∈fp,yK X pins H b) (hC:s.heap.objs.size<=C) (hlt:∀ b∈fp,b < s.heap.objs.size):(xl X scope (zb own caps) C s H fp).Ok where
 mod:=I.ok.mod
 kind:=B.kind
 glob:=I.ok.glob
 blt:=I.ok.blt
 above:=hC
 inj:=W9 _ _ _ (λx c e=>Nat.lt_of_lt_of_le (KT I (vJ B.free e).1) (Nat.le_succ_of_le hC)) λx y c h1 h2=>I.ok.inj x y c (vJ B.free h1).1 (vJ B.free h2).1
 has:=λx h=>by
  have fr:(x,NameKind.free)∈scope.names->∃ c,(cellsFrom (C + 1) scope.names (wV scope X.env)).lookup x=some c:=λz=>by
   obtain ⟨c,e⟩:=kU (env:=X.env) z
   exact Option.isSome_iff_exists.mp (PySem.W.cellsFrom_some _ _ _ (.inr (by rw [e]; rfl)))
  have ce:(x,NameKind.cell)∈scope.names->∃ c,(cellsFrom (C + 1) scope.names (wV scope X.env)).lookup x=some c:=λz=>
   Option.isSome_iff_exists.mp (PySem.W.cellsFrom_some _ _ _ (.inl (gC B.nod z)))
  rcases h with h | h
  ·rcases KI (show (relabel scope X.env).names.lookup x=some .cell from h) with ⟨_,z | z⟩ | z
   ·exact fr z
   ·exact ce z
   ·exact ce z
  ·rcases KI (show (relabel scope X.env).names.lookup x=some .free from h) with ⟨z,_⟩ | z
   ·cases z
   ·exact fr z
 cab:=λx c h e=>by
  have hx:scope.names.lookup x=some .cell:=eq_of_beq h
  rcases Y1 _ _ _ e with ⟨_,z⟩ | z
  ·exact Nat.le_trans hC (Nat.le_of_succ_le z)
  ·have:=gC B.nod (vJ B.free z).2
   rw [hx] at this
   cases this
 hd:=I.ok.hd
 frames:=I.ok.frames
 stk:=.inl rfl
 exf:=λb hb=>⟨λe=>by have:=hlt b hb; rw [e] at this; exact absurd (Nat.lt_of_lt_of_le this hC) (Nat.lt_irrefl _),λx c e=>by
  rcases Y2 B e with ⟨_,z⟩ | z
  ·exact kd (hlt b hb) hC z
  ·exact (hf b hb).2.2.2.2.1 x c z⟩
 bs:=I.bs
 bsz:=Nat.le_trans I.ok.bsz I.sz
 noex:=λb o e hb=>by
  rcases (hf b hb).2.2.2.1 with z | z
  ·exact I.ok.noex b o e z
  ·exact absurd (Nat.lt_of_lt_of_le (Heap.lt_size e) (Nat.le_trans I.ok.bsz z)) (Nat.lt_irrefl _)
 exfs:=λb hb z=>by
  rcases List.mem_cons.mp (I.stkSub b z) with e | z
  ·exact (hf b hb).2.1 e
  ·exact (hf b hb).2.2.1 z
 funs:=I.stack
 frf:=I.stkFree
theorem zOK (B:uZ X scope own caps) (I:zG X pins σ H s) (hf:∀ b∈fp,yK X pins H b) (hC:s.heap.objs.size<=C) (hlt:∀ b∈fp,b < s.heap.objs.size)
  {m:Str->Option Value} (hn:s4.heap.Ns C m) (hk:∀ b o,s.heap.get? b=some o->s4.heap.get? b=some o) (hcell:∀ x c,(cellsFrom (C + 1) scope.names (wV scope X.env)).lookup x=some c->(wV scope X.env).lookup x=some c\/s4.heap.IsCell c none) (ho:s4.os=s.os) (hb:AllBare s4.gens) :
  zG (xl X scope (zb own caps) C s H fp) [] (wW own caps σ) H s4 where
 ok:=zPq B I hf hC hlt
 os:=ho
 bare:=hb
 base:=Un.kept hk
 loc:=⟨m,hn,λi x v h1 h2 h3=>by
  obtain ⟨j,hm,hs⟩:=KN h1 h2
  obtain ⟨c1,c2,c3⟩:=B.caps _ hm
  obtain ⟨m',_,hl⟩:=I.loc
  have vis:jD X.env.scope x:=c3.elim (λz=>.inr (.inl z)) λz=>.inr (.inr z)
  obtain ⟨u,r,l⟩:=hl j x v c1 hs vis
  refine ⟨u,r,.inr ?_⟩
  have hm2:(x,NameKind.free)∈scope.names:=jJ c2
  obtain ⟨c',hc'⟩:=kU (env:=X.env) hm2
  have hc2:=(vJ B.free hc').1
  have noc:(x,NameKind.cell)∉scope.names:=λz=>by
   have:=gC B.nod z
   rw [c2] at this
   cases this
  refine ⟨?_,c',(W8 _ _ _ noc).trans hc',?_⟩
  ·show (relabel scope X.env).names.lookup x=some .cell\/(relabel scope X.env).names.lookup x=some .free
   rw [Ys,c2,Option.map_some]
   split
   ·exact .inl rfl
   ·exact .inr rfl
  ·rcases l with ⟨k,_⟩ | ⟨_,c,e,z⟩
   ·rcases c3 with c3 | c3 <;> rw [c3] at k <;> cases k
   ·rw [hc2] at e
    cases e
    obtain ⟨o,e1,e2⟩:=z
    exact ⟨o,hk _ o e1,e2⟩⟩
 cell:=λx c e=>by
  rcases hcell x c e with z | z
  ·obtain ⟨v,o,e1,e2⟩:=I.cell x c (vJ B.free z).1
   exact ⟨v,o,hk _ o e1,e2⟩
  ·exact ⟨none,z⟩
 free:=I.hok.fresh hC
 freeC:=λx c e=>by
  rcases Y2 B e with ⟨_,z⟩ | z
  ·exact I.hok.fresh (Nat.le_trans hC (Nat.le_of_succ_le z))
  ·exact I.freeC x c z
 pin:=λp hp=>by simp at hp
 hok:=I.hok.kept hk
 len:=by
  show (wW own caps σ).length=(zb own caps).length
  unfold wW zb
  simp
end
section
variable {X:Cx} {scope:Scope} {own:List Str} {caps:List (Nat × Str)} {elt tg iter cond:Expr} {wi:TI} {g:TG} {tc:TT} {te:TE} {pos:Pos}
theorem KU {pins:List (Addr × Obj)} {σ:St} {H2:Hp} {s2:Shared} {it:Addr} {fp:List Addr} {tn:Nat->Heap->Prop} {J:It} {W:Nat->Nat->List V->St->Hp->Prop} {m0:Nat} {Q:VK} {E:Value->Shared->Prop} {RR:Value->Addr->Result->Shared->Prop}
  (B:uZ X scope own caps) (hc:X.calm=true) (hg:∀ C s₀ H₀ ex,PG (xl X scope (zb own caps) C s₀ H₀ ex) tg g) (he:∀ C s₀ H₀ ex,PE (xl X scope (zb own caps) C s₀ H₀ ex) elt te)
  (I2:zG X pins σ H2 s2) (T:xf X.prog X.w X.K tg J fp it tn) (st2:tn 0 s2.heap) (f2:∀ b∈fp,yK X pins H2 b) (w0:W 0 m0 [] (wW own caps σ) H2)
  (turn:∀ i m ys σ1 H,W i m ys σ1 H->(J.stop i H/\∀ p,H p=none->Q (.ref p) (zU H p (.lst ys)))∨
   (J.go i H/\ys.length < sizeLine/\∃ N:V->St->Hp->Prop,(∀ y σ' H',N y σ' H'->∃ m',m' < m/\W (i + 1) m' (ys++[y]) σ' H')/\∀ x H',J.yld i H x H'->g x σ1 H' λσ2 H2=>te σ2 H2 λy H3=>N y σ2 H3))
  (hRR:∀ D C s6 H6 ys m,s6.heap.Ns C m->s2.heap.objs.size<=C->(∀ h',Heap.SameBut C s6.heap h'->zG X pins σ (zU H6 D (.lst ys)) { s6 with heap:=h' })->zU H6 D (.lst ys) C=none->Q (.ref D) (zU H6 D (.lst ys))->RR (.ref D) C (.ok .next) s6) :
  wpAny (model X.prog X.w) X.A (newList []) (λacc s3=>wpAny (model X.prog X.w) X.A (newFunctionEnv scope X.env.globals (wV scope X.env) [] X.env.qual none .none (some X.env)) (λcenv s4=>
   codeAny (model X.prog X.w) X.A (.compStart (.ListComp elt [⟨tg,iter,[],0⟩] scope pos) 0 (.ref it) acc { cenv with scope:=relabel scope X.env }) (RR acc cenv.locals) s4) E s3) E s2:=by
 have hlt:∀ b∈fp,b < s2.heap.objs.size:=λb hb=>by
  obtain ⟨o,ho,_⟩:=T.obj _ _ st2 b hb
  exact Heap.lt_size ho
 refine wpAny_newObj_type (zHj ?_)
 dsimp only
 generalize hP:s2.heap.push { cls:=.type "list",dict:=none,data:=.seq ([]:List Value).toArray }=HD
 have hns:(pushCells (HD.push { cls:=.type "dict",data:=.dict #[] }) scope.names).Ns HD.objs.size (λ_=>none):=(Heap.Ns.new HD (.type "dict")).keeps (pushCells_keeps _ _)
 have hkp:∀ b o,HD.get? b=some o->(pushCells (HD.push { cls:=.type "dict",data:=.dict #[] }) scope.names).get? b=some o:=λb o e=>pushCells_keeps _ _ b o (Heap.get?_push_of_some _ e)
 have hcell:∀ x c,(cellsFrom (HD.objs.size + 1) scope.names (wV scope X.env)).lookup x=some c->(wV scope X.env).lookup x=some c\/(pushCells (HD.push { cls:=.type "dict",data:=.dict #[] }) scope.names).IsCell c none:=λx c e=>
  UA _ _ _ (by rw [Heap.size_push]; exact e)
 generalize hP4:pushCells (HD.push { cls:=.type "dict",data:=.dict #[] }) scope.names=h4 at hns hkp hcell |-
 have hCD:HD.objs.size=s2.heap.objs.size + 1:=by rw [<- hP,Heap.size_push]
 have hDC:s2.heap.objs.size≠HD.objs.size:=by omega
 have hle:s2.heap.objs.size<=HD.objs.size:=by omega
 have old:∀ b o,s2.heap.get? b=some o->h4.get? b=some o:=λb o eb=>hkp b o (by rw [<- hP]; exact Heap.get?_push_of_some _ eb)
 have hD4:h4.get? s2.heap.objs.size=some { cls:=.type "list",data:=.seq ([]:List Value).toArray 0 }:=hkp _ _ (by rw [<- hP]; exact Heap.get?_push_size _ rfl)
 have IY:zG (xl X scope (zb own caps) HD.objs.size s2 H2 fp) [] (wW own caps σ) H2 { s2 with heap:=h4 }:=
  zOK B I2 f2 (by omega) hlt hns old hcell rfl I2.bare
 have stat:∀ {H':Hp},(∀ b∈fp,H' b=none)->∀ b∈fp,yK (xl X scope (zb own caps) HD.objs.size s2 H2 fp) [] H' b:=λ{H'} hn b hb=>by
  have hb2:=hlt b hb
  refine ⟨hn b hb,?_,λz=>?_,.inl hb,λx c ec=>(match Y2 B ec with | .inl z=>kd hb2 hle z.2 | .inr z=>(f2 b hb).2.2.2.2.1 x c z),λp hp=>by simp at hp⟩
  ·exact Nat.ne_of_lt (Nat.lt_of_lt_of_le hb2 hle)
  ·rcases List.mem_cons.mp (I2.stkSub b z) with e | z
   ·exact (f2 b hb).2.1 e
   ·exact (f2 b hb).2.2.1 z
 have statD:∀ {H':Hp},H' s2.heap.objs.size=none->yK (xl X scope (zb own caps) HD.objs.size s2 H2 fp) [] H' s2.heap.objs.size:=λ{H'} hn=>by
  refine ⟨hn,hDC,λz=>?_,.inr (Nat.le_refl _),λx c ec z=>?_,λp hp=>by simp at hp⟩
  ·obtain ⟨_,o,ho,_⟩:=I2.stack.mem z
   exact absurd (Heap.lt_size ho) (Nat.lt_irrefl _)
  ·rcases Y2 B ec with ⟨_,y⟩ | y
   ·exact W7 hCD y z
   ·have:=KT I2 y
    rw [z] at this
    exact Nat.lt_irrefl _ this
 have uw:∀ b∈fp,b≠s2.heap.objs.size:=λb hb=>Nat.ne_of_lt (hlt b hb)
 have IY':zG (xl X scope (zb own caps) HD.objs.size s2 H2 fp) [(s2.heap.objs.size,yj [] 0)] (wW own caps σ) H2 { s2 with heap:=h4 }:=
  IY.pins_of λp hp=>by
   rw [List.mem_singleton.mp hp]
   have z:=statD (I2.hok.fresh (Nat.le_refl _))
   exact ⟨hD4,z.1,z.2.1,z.2.2.1,λv z=>by cases z⟩
 have loop:∀ s3:Shared,s3={ s2 with heap:=h4 }->
   codeAny (model X.prog X.w) X.A (.compLoop (.ListComp elt [⟨tg,iter,[],0⟩] scope pos) 0 (.ref it) (.ref s2.heap.objs.size) (compEnvC scope (cellsFrom (HD.objs.size + 1) scope.names (wV scope X.env)) HD.objs.size X.env))
    (RR (.ref s2.heap.objs.size) HD.objs.size) s3:=by
  rintro s3 rfl
  refine KJ (λn s'=>∃ i ys σ' H' its k,zG (xl X scope (zb own caps) HD.objs.size s2 H2 fp) [(s2.heap.objs.size,yj its k)] σ' H' s'/\tn i s'.heap/\(∀ b∈fp,H' b=none)∧
   zM ys its/\ys.length<=sizeLine/\W i n ys σ' H') ?_ m0 ⟨0,[],_,H2,[],0,IY',T.keep _ _ _ st2 λb hb o eb=>old b o eb,λb hb=>(f2 b hb).1,.nil,Nat.zero_le _,w0⟩
  rintro n s5 ⟨i,ys,σ5,H5,its,k,I5,st5,fr5,rv5,hz5,w5⟩
  have stat5:∀ {H':Hp},(∀ b∈fp,H' b=none)->∀ b∈fp,yK (xl X scope (zb own caps) HD.objs.size s2 H2 fp) [(s2.heap.objs.size,yj its k)] H' b:=λ{H'} hn b hb=>by
   obtain ⟨a1,a2,a3,a4,a5,_⟩:=stat hn b hb
   refine ⟨a1,a2,a3,a4,a5,λp hp=>?_⟩
   have hp':p∈[(s2.heap.objs.size,yj its k)]:=hp
   rw [List.mem_singleton.mp hp']
   exact Ne.symm (uw b hb)
  rcases turn i n ys σ5 H5 w5 with ⟨stop,qn⟩ | ⟨go,hlen,N,hN,step⟩
  ·refine zi (T.done (xl X scope (zb own caps) HD.objs.size s2 H2 fp) rfl rfl rfl hc i _ s5 σ5 H5 _ I5 (stat5 fr5) st5 stop) λr s6 ⟨hr,I6⟩=>?_
   subst hr
   obtain ⟨pD1,pD2,_⟩:=I6.pin (s2.heap.objs.size,yj its k) (List.mem_append_right _ List.mem_cons_self)
   obtain ⟨m6,hn6,_⟩:=I6.loc
   refine hRR _ _ s6 H5 ys m6 hn6 (by omega) (λh' sb=>?_) (by rw [zr (Ne.symm hDC)]; exact I6.free) (qn _ pD2)
   have hC5:H5 HD.objs.size=none:=I6.free
   have nb:∀ b o,s2.heap.get? b=some o->b≠HD.objs.size/\b≠s2.heap.objs.size:=λb o eb=>by
    have hb:=Heap.lt_size eb
    exact ⟨Nat.ne_of_lt (Nat.lt_of_lt_of_le hb hle),Nat.ne_of_lt hb⟩
   have nt:∀ b o,H5 b=some o->b≠s2.heap.objs.size:=λb o eb z=>by rw [z] at eb; rw [show H5 s2.heap.objs.size=none from pD2] at eb; cases eb
   have un:Un (wq X.stack) fp H2 (zU H5 s2.heap.objs.size (.lst ys)) s2.heap h':=
    ⟨λb o eb n1 n2 n3=>sb.extBut b o (nb b o eb).1 (I6.base.keep b o eb n1 n2 n3),
     λb o eb n1 n2 n3=>by
      obtain ⟨sl,e1⟩:=I6.base.slot b o eb n1 n2 n3
      exact ⟨sl,sb.extBut b _ (nb b o eb).1 e1⟩,
     λb o eb n1 n3=>by
      rw [zr (nb b o eb).2]
      exact I6.base.free b o eb n1 n3,
     λb o eb n3=>by
      obtain ⟨o',e1⟩:=I6.base.there b o eb n3
      exact ⟨o',sb.extBut b _ (nb b o eb).1 e1⟩,
     λb xs eb=>by
      have e1:=I6.base.tups b xs eb
      rw [zr (nt b _ e1)]
      exact e1,
     λb o u eb=>by
      have e1:=I6.base.frzs b o u eb
      rw [zr (nt b _ e1)]
      exact e1,
     λb ps eb=>by
      obtain ⟨more,e1⟩:=I6.base.tbls b ps eb
      refine ⟨more,?_⟩
      rw [zr (nt b _ e1)]
      exact e1⟩
   have ok5:xN X.prog X.w (zU H5 s2.heap.objs.size (.lst ys)) h':=λb u eb=>by
    by_cases hb:b=s2.heap.objs.size
    ·subst hb
     rw [xM] at eb
     cases eb
     exact ⟨hz5,its,k,rv5,sb.extBut _ _ hDC pD1⟩
    ·rw [zr hb] at eb
     refine (I6.hok b u eb).stay (λc v hcv ev=>sb.extBut c v ?_ ev) (λc ec=>by rw [zr (nt c _ ec)]; exact ec) λc xs ec=>by rw [zr (nt c _ ec)]; exact ec
     rintro rfl
     rcases hcv with z | z
     ·rw [<- z,hC5] at eb
      cases eb
     ·rw [hC5] at z
      cases z
   exact I2.call' (s':={ s6 with heap:=h' }) (ch:=fp) I6.os un ok5 I6.bare λb hb=>⟨(f2 b hb).2.2.2.1,(f2 b hb).2.1,(f2 b hb).2.2.2.2.1,(f2 b hb).2.2.2.2.2⟩
  ·refine zi (T.item (xl X scope (zb own caps) HD.objs.size s2 H2 fp) rfl rfl rfl hc i _ s5 σ5 H5 _ I5 (stat5 fr5) st5 go) λr s6 ⟨u,hr,h6⟩=>?_
   subst hr
   refine zi h6 λ_ s7 ⟨x,H7,I7,r7,y7,st7,fr7⟩=>?_
   have I7':=I7.pinned (stat5 fr7) (T.obj _ _ st7)
   refine zi (hg HD.objs.size s2 H2 fp _ s7 σ5 H7 x u _ I7' r7 (step x H7 y7)) λ_ s8 ⟨σ8,H8,I8,q8⟩=>?_
   refine zi (he HD.objs.size s2 H2 fp _ s8 σ8 H8 _ I8 q8) λyv s9 ⟨y,H9,I9,r9,n9⟩=>?_
   obtain ⟨m',hm',w9⟩:=hN y σ8 H9 n9
   have pD9:=(I9.pin (s2.heap.objs.size,yj its k) (List.mem_append_right _ (List.mem_append_left _ List.mem_cons_self))).2.1
   have hl:its.length=ys.length:=rv5.length.symm
   refine KO (Y:=xl X scope (zb own caps) HD.objs.size s2 H2 fp) (its:=its) (k:=k) (pl:=qu fp s7.heap) I9 (statD pD9) rfl (by omega) λh' k' tk keep I'=>?_
   refine ⟨m',hm',i + 1,ys++[y],σ8,H9,its++[yv],k',I',?_,λb hb=>?_,rv5.append (.cons r9 .nil),?_,w9⟩
   ·refine T.keep _ _ _ st7 λb hb o eb=>keep b o (uw b hb) ?_
    exact (I9.pin (b,o) (List.mem_append_right _ (List.mem_append_right _ (qv hb eb)))).1
   ·obtain ⟨o,eb,_⟩:=T.obj _ _ st7 b hb
    exact (I9.pin (b,o) (List.mem_append_right _ (List.mem_append_right _ (qv hb eb)))).2.1
   ·rw [List.length_append,List.length_singleton]
    omega
 exact codeAny_compStart_list (loop _ rfl) (T.self _ 0 _ _ _ (T.keep _ _ _ st2 λb hb o eb=>old b o eb) (loop _ rfl))
theorem UB (B:uZ X scope own caps) (hc:X.calm=true) (hi:PI X tg iter wi) (hg:∀ C s₀ H₀ ex,PG (xl X scope (zb own caps) C s₀ H₀ ex) tg g)
  (he:∀ C s₀ H₀ ex,PE (xl X scope (zb own caps) C s₀ H₀ ex) elt te) (hs:∀ x,foldedSetIterable iter X.env x=pure x:=by intro _; rfl) :
  PE X (.ListComp elt [⟨tg,iter,[],0⟩] scope pos) (W5 own caps wi g te):=by
 intro pins s σ H Q I h
 rw [eval_ListComp]
 refine wpAny_comprehension_free (use:=none) rfl hs (W4 B.free) B.kind B.locs ?_
 refine zi (hi pins s σ H _ I h) λxv s1 h1=>zi h1 λitv s2 h2=>?_
 obtain ⟨it,fp,tn,J,H2,e,I2,T,st2,f2,W,⟨m0,w0⟩,turn⟩:=h2
 subst e
 refine KU (RR:=λacc C=>compPost (model X.prog X.w) X.A X.xe none (EP X pins σ Q) acc C) B hc hg he I2 T st2 f2 w0 turn λD C s6 H6 ys m hn hC J6 hC6 q=>?_
 exact ⟨m,hn,λh' sb=>⟨.ref D,_,J6 h' sb,rfl,q⟩⟩
theorem UC {i:Nat} {y:Str} {py spos:Pos} (hN:X.N.Nodup) (hy:X.N[i]? = some y) (hl:X.env.scope.names.lookup y=some .local) (B:uZ X scope own caps) (hc:X.calm=true) (hi:PI X tg iter wi) (hg:∀ C s₀ H₀ ex,PG (xl X scope (zb own caps) C s₀ H₀ ex) tg g)
  (he:∀ C s₀ H₀ ex,PE (xl X scope (zb own caps) C s₀ H₀ ex) elt te) (hsw:swapsWith (.ListComp elt [⟨tg,iter,[],0⟩] scope pos) (some (.Name y py)) spos.line X.env=pure true) (hs:∀ x,foldedSetIterable iter X.env x=pure x:=by intro _; rfl) :
  PS X (.Assign [.Name y py] (.ListComp elt [⟨tg,iter,[],0⟩] scope pos) spos) (uI (W5 own caps wi g te) (qm i)):=by
 intro pins s σ H D0 I h
 rw [exec_Assign_Name_used _ _ _ _ hsw]
 refine wpAny_bind (wpAny_standAt (wpAny_bind ?_))
 change wpAny _ X.A (do let _ <- comprehension (.ListComp elt [⟨tg,iter,[],0⟩] scope pos) scope X.env _ (newList []) false (eval iter X.env) (some (assign (.Name y py) X.env))) _ _ s
 refine wpAny_bind (wpAny_mono (wpAny_comprehension_free (use:=some (assign (.Name y py) X.env)) (Q:=λ_ s'=>SP X pins D0 .next s') rfl hs (W4 B.free) B.kind B.locs ?_) (λ_ s' hq=>wpAny_pure (wpAny_pure hq)) λ_ _ e=>e)
 refine zi (hi pins s σ H _ I h) λxv s1 h1=>zi h1 λitv s2 h2=>?_
 obtain ⟨it,fp,tn,J,H2,e,I2,T,st2,f2,W,⟨m0,w0⟩,turn⟩:=h2
 subst e
 refine KU (Q:=λx H1=>D0.nx (σ.set i (some x)) H1) (RR:=λacc C=>compPost (model X.prog X.w) X.A X.xe (some (assign (.Name y py) X.env)) (λ_ s'=>SP X pins D0 .next s') acc C) B hc hg he I2 T st2 f2 w0 turn λD C s6 H6 ys m hn hC J6 hC6 q=>?_
 have I6:zG X pins σ (zU H6 D (.lst ys)) s6:=J6 s6.heap (.refl ..)
 have CL:C≠X.env.locals:=λz=>by rw [z] at hC; exact absurd (Nat.lt_of_lt_of_le I2.lt hC) (Nat.lt_irrefl _)
 have CC:∀ x c,X.env.cells.lookup x=some c->c≠C:=λx c ec z=>by
  obtain ⟨v,o,ho,_⟩:=I2.cell x c ec
  rw [z] at ho
  exact absurd (Nat.lt_of_lt_of_le (Heap.lt_size ho) hC) (Nat.lt_irrefl _)
 have CP:∀ p∈X.pn++pins,p.1≠C:=λp hp z=>by
  have hl:=Heap.lt_size (I2.pin p hp).1
  rw [z] at hl
  exact absurd (Nat.lt_of_lt_of_le hl hC) (Nat.lt_irrefl _)
 change wpAny _ X.A (assign (.Name y py) X.env (.ref D)) _ _ s6
 refine wpAny_assign_Name (QS I6 hN hy (.inl hl) (v:=.ref D) rfl (λs7 I7 ⟨a,sb,ha⟩=>?_) (.inr hl))
 have aC:C≠a:=λz=>by
  rcases ha with e | e
  ·exact CL (z.trans e)
  ·exact CC _ _ e z.symm
 refine ⟨m,hn.sameBut sb aC,λh' sb'=>⟨_,_,I7.turned (h':=h') (t':=s7.toks) (it:=C) (λb o hb eb=>sb'.extBut b o hb eb) hC6 CL (.inr (Nat.le_trans I2.sz hC)) CC CP,q⟩⟩
end
theorem zz {X:Cx} {scope S:Scope} {own N:List Str} {caps:List (Nat × Str)} (k:scope.kind=.function) (nd:(scope.names.map (·.1)).Nodup)
  (hS:X.env.scope=S) (hc:∃ n,X.env.cells=cellsFrom n S.names []) (hN:X.N=N) (fr:scope.names.all (λy=>y.2 != .free || S.names.lookup y.1 == some .cell)=true)
  (cp:caps.all (λp=>N[p.1]? == some p.2 && scope.names.lookup p.2 == some .free && S.names.lookup p.2 == some .cell)=true):uZ X scope own caps:=by
 obtain ⟨nn,hc⟩:=hc
 refine ⟨k,nd,λy hy e=>?_,λy hy e=>?_,λp hp=>?_⟩
 ·exact gC nd (by rw [<- e]; exact hy)
 ·have q:=List.all_eq_true.mp fr y hy
  rw [e] at q
  have q2:S.names.lookup y.1=some .cell:=by simpa using q
  rw [hc]
  exact PySem.W.cellsFrom_some S.names nn [] (.inl q2)
 ·have q:=List.all_eq_true.mp cp p hp
  simp only [Bool.and_eq_true,beq_iff_eq] at q
  refine ⟨by rw [hN]; exact q.1.1,q.1.2,.inl ?_⟩
  show X.env.scope.names.lookup p.2=some .cell
  rw [hS]
  exact q.2
theorem jz {Y:Cx} {scope S:Scope} {own own0:List Str} {caps caps0:List (Nat × Str)} {C:Addr} {s₀:Shared} {H₀:Hp} {ex:List Addr} (k:scope.kind=.function) (nd:(scope.names.map (·.1)).Nodup)
  (ndS:(S.names.map (·.1)).Nodup) (fr:scope.names.all (λy=>y.2 != .free || S.names.lookup y.1 == some .cell || S.names.lookup y.1 == some .free)=true)
  (cp:caps.all (λp=>(zb own0 caps0)[p.1]? == some p.2 && scope.names.lookup p.2 == some .free)=true):uZ (xl Y S (zb own0 caps0) C s₀ H₀ ex) scope own caps:=by
 have fr':∀ y∈scope.names,y.2=.free->S.names.lookup y.1=some .cell\/S.names.lookup y.1=some .free:=λy hy e=>by
  have q:=List.all_eq_true.mp fr y hy
  rw [e] at q
  simpa using q
 refine ⟨k,nd,λy hy e=>?_,λy hy e=>?_,λp hp=>?_⟩
 ·exact gC nd (by rw [<- e]; exact hy)
 ·show ((cellsFrom (C + 1) S.names (wV S Y.env)).lookup y.1).isSome=true
  refine PySem.W.cellsFrom_some _ _ _ ?_
  rcases fr' y hy e with z | z
  ·exact .inl z
  ·obtain ⟨c,e⟩:=kU (env:=Y.env) (jJ z)
   exact .inr (by rw [e]; rfl)
 ·have q:=List.all_eq_true.mp cp p hp
  simp only [Bool.and_eq_true,beq_iff_eq] at q
  refine ⟨q.1,q.2,?_⟩
  show (relabel S Y.env).names.lookup p.2=some .cell\/(relabel S Y.env).names.lookup p.2=some .free
  rw [Ys]
  rcases fr' _ (jJ q.2) rfl with z | z
  ·left
   show (S.names.lookup p.2).map _=_
   rw [z]
   rfl
  ·show (S.names.lookup p.2).map _=_\/(S.names.lookup p.2).map _=_
   rw [z,Option.map_some]
   split
   ·exact .inl rfl
   ·exact .inr rfl
end L2
namespace Sh
open PySem L2
theorem xL {H:Hp} {p:Addr} (h:H p=none) (o:HO):zF H (zU H p o):=λb u q=>by rw [zr (wb q h)]; exact q
def Tp (H:Hp) (v:V) (xs:List V):Prop:=∃ a,v=.ref a/\H a=some (.tup xs)
theorem j2 {α β:Type} {R:α->β->Prop}:∀ {xs:List α} {ys:List β} {i:Nat} {x:α},Paired R xs ys->xs[i]? = some x->∃ y,ys[i]? = some y/\R x y
 | _,_,_,_,.nil,e=>by simp at e
 | _,_,0,_,.cons r _,e=>by simp at e; subst e; exact ⟨_,rfl,r⟩
 | _,_,i + 1,x,.cons _ t,e=>by
  obtain ⟨y,h1,h2⟩:=j2 (i:=i) (x:=x) t (by simpa using e)
  exact ⟨y,by simpa using h1,h2⟩
theorem j3 {α β:Type} {R:α->β->Prop} {x:α} {y:β} (r:R x y):∀ {xs:List α} {ys:List β},Paired R xs ys->Paired R (xs++[x]) (ys++[y])
 | _,_,.nil=>.cons r .nil
 | _,_,.cons q t=>.cons q (j3 r t)
theorem gD {α β:Type} {R:α->β->Prop}:∀ {xs zs:List α} {ys us:List β},Paired R xs ys->Paired R zs us->Paired R (xs++zs) (ys++us)
 | _,_,_,_,.nil,h=>h
 | _,_,_,_,.cons q t,h=>.cons q (gD t h)
theorem kg {α:Type} {l:List α} {i:Nat} {x:α} (h:l[i]? = some x):l.take (i + 1)=l.take i++[x]:=by
 obtain ⟨hi,e⟩:=List.getElem?_eq_some_iff.mp h
 rw [List.take_succ_eq_append_getElem hi,e]
abbrev kh (H:Hp) (vs:List V) (ks:List (List Int)):Prop:=Paired (λv (k:List Int)=>Tp H v (k.map V.int)) vs ks
theorem UD {α β:Type} {R:α->β->Prop} {x:α} {y:β} (r:R x y):∀ {xs:List α} {ys:List β} (j:Nat),Paired R xs ys->Paired R (xs.set j x) (ys.set j y)
 | _,_,_,.nil=>.nil
 | _,_,0,.cons _ t=>.cons r t
 | _,_,j + 1,.cons q t=>.cons q (UD r j t)
theorem Y3 {n j:Nat} (h:j < n):wM n (j:Int)=some j:=by
 unfold wM
 rw [if_pos (by omega),if_pos (by omega)]
 rfl
theorem zPu {xs:List Int} {j:Nat} (h:j < xs.length):yU (xs.map V.int) (j:Int)=some (.int (xs[j]'h)):=Q6 (by rw [List.getElem?_map,List.getElem?_eq_getElem h]; rfl)
theorem UE {xs:List Int} {i:Nat} {x:V} (h:(xs.map V.int)[i]? = some x):∃ z,xs[i]? = some z/\x=V.int z:=by
 rw [List.getElem?_map] at h
 cases e:xs[i]? with
 | none=>rw [e] at h; cases h
 | some z=>rw [e] at h; exact ⟨z,rfl,(Option.some.inj h).symm⟩
end Sh
namespace L2
open PySem PySem.Spec PyProof.Rows
def uu (K:PySem.W.Frag) (a b:Addr):It:=
 ⟨λi H=>∃ xs ys x y,zR K H a xs/\zR K H b ys/\xs[i]? = some x/\ys[i]? = some y,
  λi H v H'=>∃ T x y,v=.ref T/\H T=none/\H'=zU H T (.tup [x,y])/\(∀ xs,zR K H a xs->xs[i]? = some x)/\∀ ys,zR K H b ys->ys[i]? = some y,
  λi H=>∃ xs ys,zR K H a xs/\zR K H b ys/\i<=xs.length/\i<=ys.length/\(i=xs.length\/i=ys.length)⟩
theorem KW {P:Program} {w:World} {K:PySem.W.Frag} {es:List Expr} {kk:Nat} {tp:Pos} {a b z TI TO i1 i2:Addr} (Z:Zp z TI TO i1 i2 [i1,a] [i2,b]) (na:a≠i1) (nb:b≠i2) :
  xf P w K (.Tuple es kk tp) (uu K a b) [z,TI,TO,i1,i2] z (λi h=>IsZip h z TI TO .none/\IsPair h TI (.ref i1) (.ref i2)/\(∃ x y,IsPair h TO x y)/\h.IsListIter i1 a i/\h.IsListIter i2 b i) where
 mem:=by simp
 obj:=λi h ⟨t1,t2,⟨x,y,t3⟩,t4,t5⟩ c hc=>by
  simp only [List.mem_cons,List.not_mem_nil,or_false] at hc
  rcases hc with rfl | rfl | rfl | rfl | rfl
  ·exact ⟨_,t1,vY⟩
  ·exact ⟨_,t2,jL⟩
  ·exact ⟨_,t3,jL⟩
  ·obtain ⟨o,e,_,d⟩:=t4
   exact ⟨o,e,by rw [d]; exact vY⟩
  ·obtain ⟨o,e,_,d⟩:=t5
   exact ⟨o,e,by rw [d]; exact vY⟩
 keep:=λi h h' ⟨t1,t2,⟨x,y,t3⟩,t4,t5⟩ k=>⟨k z (by simp) _ t1,k TI (by simp) _ t2,⟨x,y,k TO (by simp) _ t3⟩,(by obtain ⟨o,e,r⟩:=t4; exact ⟨o,k i1 (by simp) o e,r⟩),(by obtain ⟨o,e,r⟩:=t5; exact ⟨o,k i2 (by simp) o e,r⟩)⟩
 item:=by
  intro X hP hw hK hc i pins s σ H E I hf ⟨t1,t2,⟨x0,y0,t3⟩,t4,t5⟩ hg
  subst hP hw hK
  obtain ⟨xs,ys,x,y,hq1,hq2,hx,hy⟩:=hg
  obtain ⟨its1,rv1,p1,_⟩:=I.list hq1
  obtain ⟨its2,rv2,p2,_⟩:=I.list hq2
  obtain ⟨u,hu,ru⟩:=rv1.get hx
  obtain ⟨v,hv,rv⟩:=rv2.get hy
  have hh:X.A.in1.handled=none:=I.ok.hd hc
  have l1:i < its1.toArray.size:=by rw [List.size_toArray]; exact (List.getElem?_eq_some_iff.mp hu).1
  have l2:i < its2.toArray.size:=by rw [List.size_toArray]; exact (List.getElem?_eq_some_iff.mp hv).1
  refine Yz (Draws.list hh i1 a na its1.toArray) (Draws.list hh i2 b nb its2.toArray) Z t1 t2 t3 ⟨t4,p1.isList⟩ ⟨t5,p2.isList⟩ l1 l2 ?_
  intro x' y' h1 tk px py z1 z2 z3 z4 z5 z6 keep
  have ex:x'=u:=by
   have q:its1.toArray[i]? = some x':=px
   simp only [List.getElem?_toArray] at q
   rw [hu] at q
   exact (Option.some.inj q).symm
  have ey:y'=v:=by
   have q:its2.toArray[i]? = some y':=py
   simp only [List.getElem?_toArray] at q
   rw [hv] at q
   exact (Option.some.inj q).symm
  subst ex ey
  refine ⟨_,rfl,wpAny_letOwnedTupleGo_zip (s:={ s with heap:=h1,toks:=tk }) z1 λh2 z7 sb=>?_⟩
  have zlt:z < s.heap.objs.size:=Heap.lt_size t1
  have keep2:∀ c o,c∉[z,TI,TO,i1,i2]->s.heap.get? c=some o->h2.get? c=some o:=λc o hc e=>by
   simp only [List.mem_cons,List.not_mem_nil,or_false,not_or] at hc
   exact sb.extBut c o hc.1 (keep c o hc.1 hc.2.2.1 hc.2.2.2.1 hc.2.2.2.2 e)
  have pT:IsPair h2 s.heap.objs.size x' y':=sb.extBut _ _ (Nat.ne_of_gt zlt) z6
  have I':=I.turnT (h':=h2) (tk:=tk) (ch:=[z,TI,TO,i1,i2]) (x:=x) (y:=y) hf keep2 (Nat.le_refl _) pT ru rv
  refine ⟨.ref s.heap.objs.size,_,I',rfl,⟨s.heap.objs.size,x,y,rfl,I.hok.fresh (Nat.le_refl _),rfl,λxs' q=>by rw [I.list_inj q hq1]; exact hx,λys' q=>by rw [I.list_inj q hq2]; exact hy⟩,
   ⟨z7,sb.extBut _ _ Z.a1 z2,⟨_,_,sb.extBut _ _ Z.a2 z3⟩,z4.1.extBut sb.extBut Z.a3,z5.1.extBut sb.extBut Z.a4⟩,λc hc=>?_⟩
  have:=(hf c hc).1
  rw [zr]
  ·exact this
  ·intro q
   obtain ⟨o,e,_⟩:∃ o,s.heap.get? c=some o/\True:=by
    simp only [List.mem_cons,List.not_mem_nil,or_false] at hc
    rcases hc with rfl | rfl | rfl | rfl | rfl
    ·exact ⟨_,t1,trivial⟩
    ·exact ⟨_,t2,trivial⟩
    ·exact ⟨_,t3,trivial⟩
    ·obtain ⟨o,e,_⟩:=t4; exact ⟨o,e,trivial⟩
    ·obtain ⟨o,e,_⟩:=t5; exact ⟨o,e,trivial⟩
   rw [q] at e
   exact absurd (Heap.lt_size e) (Nat.lt_irrefl _)
 done:=by
  intro X hP hw hK hc i pins s σ H E I hf ⟨t1,t2,⟨x0,y0,t3⟩,t4,t5⟩ hg
  subst hP hw hK
  obtain ⟨xs,ys,hq1,hq2,e1,e2,e3⟩:=hg
  obtain ⟨its1,rv1,p1,_⟩:=I.list hq1
  obtain ⟨its2,rv2,p2,_⟩:=I.list hq2
  have hh:X.A.in1.handled=none:=I.ok.hd hc
  have n1:its1.toArray.size=xs.length:=by rw [List.size_toArray]; exact rv1.length.symm
  have n2:its2.toArray.size=ys.length:=by rw [List.size_toArray]; exact rv2.length.symm
  refine Y0 (Draws.list hh i1 a na its1.toArray) (Draws.list hh i2 b nb its2.toArray) Z t1 t2 t3 ⟨t4,p1.isList⟩ ⟨t5,p2.isList⟩ (by omega) (by omega) (by omega) ?_
  intro h1 tk keep
  refine ⟨rfl,I.turnN (h':=h1) (tk:=tk) (ch:=[z,TI,TO,i1,i2]) hf λc o hc e=>?_⟩
  simp only [List.mem_cons,List.not_mem_nil,or_false,not_or] at hc
  exact keep c o hc.1 hc.2.2.1 hc.2.2.2.1 hc.2.2.2.2 e
 self:=λ_ _ _ _ _ st h=>wpAny_pyIter_zip st.1 h
section
variable {X:Cx} {es:List Expr} {kk:Nat} {tp:Pos}
def ko (K:PySem.W.Frag) (ta:TA):TI:=λσ H R=>ta σ H λvs H1=>∃ a b,vs=[.ref a,.ref b]/\(∃ xs,zR K H1 a xs)/\(∃ ys,zR K H1 b ys)/\R (uu K a b) H1
theorem zPI {e1 e2:Expr} {ta:TA} {p pos:Pos} (hg:Gl X "zip") (hm:X.mg "zip" = none) (ha:PA X [e1,e2] ta) (hs:starEach [e1,e2] X.env=[(false,eval e1 X.env),(false,eval e2 X.env)]:=by rfl) (hs2:starEach [e2] X.env=[(false,eval e2 X.env)]:=by rfl) :
  PI X (.Tuple es kk tp) (.Call (.Name "zip" p) [e1,e2] [] pos) (ko X.K ta):=by
 intro pins s σ H R I h
 refine Call_ (jk I hg hm (show bootBuiltins "zip" = some (.type "zip") by decide +kernel) (PyProof.Rows.callWith_type1 (zi (ha pos pins s σ H _ I h) λus s1 ⟨vs,H1,I1,r1,q1⟩=>?_) (by rw [hs,hs2]) (by rw [hs2]; rfl)))
 obtain ⟨a,b,e,⟨xs,hx⟩,⟨ys,hy⟩,q⟩:=q1
 subst e
 obtain ⟨u,v,rfl,ru,rv⟩:=kH r1
 cases ru
 cases rv
 obtain ⟨its1,rv1,p1,_⟩:=I1.list hx
 obtain ⟨its2,rv2,p2,_⟩:=I1.list hy
 have la:a < s1.heap.objs.size:=by obtain ⟨o,n,e,_⟩:=p1; exact Heap.lt_size e
 have lb:b < s1.heap.objs.size:=by obtain ⟨o,n,e,_⟩:=p2; exact Heap.lt_size e
 refine call_zip_2 p1.isList p2.isList λh' z1 z2 z3 z4 z5 _ keep=>wpAny_pyIter_zip z1 ?_
 have I2:zG X pins σ H1 { s1 with heap:=h' }:=I1.kept (t':=s1.toks) keep
 refine ⟨s1.heap.objs.size + 4,[s1.heap.objs.size + 4,s1.heap.objs.size + 2,s1.heap.objs.size + 3,s1.heap.objs.size,s1.heap.objs.size + 1],_,_,H1,rfl,I2,
  KW (a:=a) (b:=b) (ka _ _ _ la lb) (Nat.ne_of_lt la) (Nat.ne_of_lt (Nat.lt_succ_of_lt lb)),⟨z1,z2,⟨_,_,z3⟩,z4,z5⟩,λc hc=>?_,q⟩
 ·have ge:s1.heap.objs.size<=c:=by
   simp only [List.mem_cons,List.not_mem_nil,or_false] at hc
   rcases hc with rfl | rfl | rfl | rfl | rfl
   ·exact Nat.le_add_right _ 4
   ·exact Nat.le_add_right _ 2
   ·exact Nat.le_add_right _ 3
   ·exact Nat.le_refl _
   ·exact Nat.le_add_right _ 1
  exact I1.fpOk ge (I1.hok.fresh ge)
end
theorem zMp {K:PySem.W.Frag} {a b:Addr} {xs ys:List V} {g:TG} {te:TE} {σ0:St} {H:Hp} {Q:VK} (Pv:Nat->List V->St->Hp->Prop) (h0:Pv 0 [] σ0 H) (hl:∀ i zs σ H,i<=xs.length->Pv i zs σ H->zR K H a xs/\zR K H b ys/\zs.length<=i) (hlen:xs.length<=ys.length) (hz:xs.length<=sizeLine)
  (hs:∀ i x y T zs σ H,xs[i]? = some x->ys[i]? = some y->H T=none->Pv i zs σ H->g (.ref T) σ (zU H T (.tup [x,y])) λσ2 H2=>te σ2 H2 λz H3=>Pv (i + 1) (zs++[z]) σ2 H3)
  (hd:∀ zs σ H,Pv xs.length zs σ H->∀ p,H p=none->Q (.ref p) (zU H p (.lst zs))):kW (uu K a b) g te Q σ0 H:=by
 refine ⟨λi m zs σ H=>m=xs.length - i/\i<=xs.length/\Pv i zs σ H,⟨xs.length,by simp,Nat.zero_le _,h0⟩,?_⟩
 rintro i m zs σ H ⟨rfl,hi,p⟩
 obtain ⟨q1,q2,hy⟩:=hl i zs σ H hi p
 by_cases hlt:i < xs.length
 ·have hlt2:i < ys.length:=by omega
  refine .inr ⟨⟨xs,ys,xs[i],ys[i],q1,q2,by simp [hlt],by simp [hlt2]⟩,by omega,λz σ' H'=>Pv (i + 1) (zs++[z]) σ' H',λz σ' H' p'=>⟨xs.length - (i + 1),by omega,rfl,hlt,p'⟩,λv H' y=>?_⟩
  obtain ⟨T,x,y,rfl,hT,rfl,c1,c2⟩:=y
  exact hs i x y T zs σ H (c1 xs q1) (c2 ys q2) hT p
 ·have e:i=xs.length:=by omega
  subst e
  exact .inl ⟨⟨xs,ys,q1,q2,Nat.le_refl _,hlen,.inl rfl⟩,hd zs σ H p⟩
end L2
namespace L2
open PySem PySem.Spec PyProof.Rows
section
variable {X:Cx}
def kq (K:PySem.W.Frag):R2:=λx y H Q=>∃ d e:PyData,Dp K H x d/\Dp K H y e/\d.canLay0=true/\e.canLay0=true/\d.depth<=60/\e.depth<=60/\Q (.bl (PyData.eqv d e)) H
theorem KY (hu:X.A.units + 64 < cLine):xD X (compareOp .Eq) (kq X.K):=by
 intro pins s σ H x y v u Q I rx ry h
 obtain ⟨d,e,hx,hy,hc,hc',hd,hd',q⟩:=h
 obtain ⟨_,r1⟩:=hx.reads I rx
 obtain ⟨_,r2⟩:=hy.reads I ry
 exact SeqAt.compareEq_reads r1 r2 hc hc' (by omega) ⟨.bl _,H,I,rfl,q⟩
end
end L2
namespace Sh
open PySem L2
theorem KZ:∀ ns ms:List Int,PyData.eqvAll (ns.map PyData.int) (ms.map PyData.int)=decide (ns=ms)
 | [],[]=>by simp [PyData.eqvAll]
 | [],_ :: _=>by simp [PyData.eqvAll]
 | _ :: _,[]=>by simp [PyData.eqvAll]
 | a :: r,b :: t=>by
  have ih:=KZ r t
  simp only [List.map_cons,PyData.eqvAll,PyData.eqv,ih,List.cons.injEq]
  by_cases h1:a=b <;> by_cases h2:r=t <;> simp [h1,h2]
structure vN (ws:List Int) (n:Nat):Prop where
 len:ws.length=n
 bd:∀ w∈ws,Bd 1000 w
def xE (rows:List (List Int)) (nums:List Int) (j:Nat):Int:=((rows.zip nums).map λp=>p.1.getD j 0 * p.2).sum
def j4 (rows:List (List Int)) (tw:List Int) (o:Int) (nums:List Int) (n:Nat):Bool:=
 if o=0 then ((List.range n).map (xE rows nums)).all (λx=>decide (x=0)) && decide (xE rows nums n < 0)
 else decide ((List.range n).map (xE rows nums)=(tw.take n).map (o * ·)) && decide (xE rows nums n<=o * tw.getD n 0)
def Ka (n:Nat) (c:Nat->Int) (r:List Int):Int:=((List.range n).map λi=>r.getD i 0 * c i).sum
end Sh
namespace L2
open PySem PySem.Spec PyProof.Rows
theorem Kb {c x y:Addr} (h:c∉[x,y]):c≠x/\c≠y:=by
 simp only [List.mem_cons,List.not_mem_nil,or_false,not_or] at h
 exact h
section
variable {X:Cx} {es:List Expr} {kk:Nat} {tp:Pos}
end
end L2
namespace L2
open PySem PySem.Spec PyProof.Rows
section
variable {prog:Program} {w:World} {A:Around} {E:Value->Shared->Prop} {s:Shared}
theorem zKV {T nw ini:String} {B1 B2:Builtin} {xs:List Value} {kw:List (Str × Value)} {S:PySem.Spec} {Q R1:Value->Shared->Prop} (ft:TypeCalled T nw ini)
  (c1:checkTypeCall T ⟨xs,kw⟩=pure ()) (c2:checkBuiltinCall nw ⟨.type T :: xs,kw⟩=pure ())
  (e1:entryFor table nw=some B1) (e2:entryFor table ini=some B2) (m1:Meets (B1 ⟨.type T :: xs,kw⟩) S)
  (hS:S A.in1 (wants R1 E) s)
  (nxt:∀ o s1,R1 o s1->s1.TypeIs o T/\argsOk ini ⟨o :: xs,kw⟩/\∃ S2,Meets (B2 ⟨o :: xs,kw⟩) S2/\S2 A.in1 (wants (λr s2=>r=.none/\Q o s2) E) s1) :
  wpAny (model prog w) A (call (.type T) xs kw) Q E s:=by
 obtain ⟨c,tl,k1⟩:=ft.mro
 have k2:=ft.made
 have k3:=ft.sub
 have k4:=ft.notType
 have k5:=ft.canCreate
 refine wpAny_call (codeAny_of_tree ?_)
 show wpAny _ _ (callAny (.type T) _) _ _ _
 refine wpAny_pure ⟨Code.quiet_builtin _ (by decide +kernel),codeAny_builtin F.entry_type_call ?_⟩
 rw [Around.under_plain (weight_type_call_type T xs kw) (units_type_call_type T xs kw)]
 repeat (any_goals (first | assumption | wp_step))
 refine codeAny_mono (codeAny_call_builtin ft.plain e1 (wpAny_of_eq c2 (m1 prog w A.in1 _ s hS))) λr s1 z=>?_
 cases r with
 | error e=>exact z
 | ok fl=>
  cases fl with
  | ret o=>
   obtain ⟨hT,ok,S2,m2,z2⟩:=nxt _ _ z
   have l1:=ft.init.lookup
   have l2:=ft.init.bind o
   repeat (any_goals (first | assumption | wp_step))
   refine codeAny_mono (codeAny_call_builtin ft.init.plain e2 (ft.init.check _ _ _ _ _ _ _ _ hT ok (m2 prog w A.in1 _ s1 z2))) λr2 s2 y=>?_
   cases r2 with
   | error e=>exact y
   | ok fl2=>
    cases fl2 with
    | ret r=>
     obtain ⟨rfl,y⟩:=y
     repeat (any_goals (first | assumption | wp_step))
    | _=>exact y.elim
  | _=>exact z.elim
theorem zN0 {T nw:String} {o a:Value} {kw:List (Str × Value)} (h1:typeLookup (.type T) "__init__" = pure (some (.builtin "object.__init__")))
  (h2:Bind.madeBy (.type T)=pure (some nw)) (h3:(some nw != some "object.__new__")=true) :
  Meets (Builtin.«object.__init__» ⟨[o,a],kw⟩) (λ_ R s=>s.TypeIs o T/\R (.ok (.ret .none)) s):=by
 refine Meets.of_wp λprog w A R s z=>?_
 obtain ⟨hT,q⟩:=z
 repeat (any_goals (first | assumption | wp_step))
 exact ⟨_,rfl,q⟩
theorem zN1 (o a v:Value):argsOk "object.__init__" ⟨[o,a],[("start",v)]⟩:=by
 unfold argsOk
 rw [signature?_of (id:="object.__init__") (n:=['_','_','t','i','n','i','_','_'])
  (o:=['t','c','e','j','b','o']) (by kernel_rfl) F.owner_object]
 kernel_rfl
theorem zQ9 (a v:Value):checkTypeCall "enumerate" ⟨[a],[("start",v)]⟩=pure ():=by kernel_rfl
theorem zRB (a v:Value):checkBuiltinCall "enumerate.__new__" ⟨[.type "enumerate",a],[("start",v)]⟩=pure ():=by kernel_rfl
end
open AutoSeq1 in
theorem zJG (l:Addr) (its:Array Value) (m:Nat) (dct:Option Addr) (sl:Array (Option Value)) (n:Int) (tn:Tok) (fit:Builtin.SmallTypes.fitsIndex n=true) :
  Meets (Builtin.«enumerate.__new__» ⟨[.type "enumerate",.ref l],[("start",.int n tn)]⟩) (λ_ R s=>s.heap.get? l=some { cls:=.type "list",dict:=dct,data:=.seq its m,slots:=sl }∧
   R (.ok (.ret (.ref (s.heap.push { cls:=.type "list_iterator",data:=.fields #[.ref l,.int 0 0] }).objs.size)))
    { s with heap:=(s.heap.push { cls:=.type "list_iterator",data:=.fields #[.ref l,.int 0 0] }).push { cls:=.type "enumerate",data:=.fields #[.none,.bool false,.ref s.heap.objs.size,rawInt n,.none,.none] } }):=
 .of_wp λprog w A R s z=>by
  obtain ⟨hp,g,d,tk,os⟩:=s
  obtain ⟨e1,z⟩:=z
  have k0:=sub_enumerate
  have k1:Heap.IsList (Shared.heap ⟨hp,g,d,tk,os⟩) l its:=⟨_,e1,rfl,m,rfl⟩
  wp_walk using wpAny_loadPart' e1
  refine wpAny_stack_any λst=>wpAny_pure ?_
  split
  ·rename_i c _ _ _ _ _
   cases (c == Value.type "enumerate")
   ·wp_walk using wpAny_loadPart' e1,wpAny_pyIter_list k1
    simp only [fit,Bool.not_true,Bool.false_eq_true,if_false]
    wp_walk using wpAny_loadPart' e1,wpAny_pyIter_list k1
    exact ⟨_,rfl,z⟩
   ·wp_walk using wpAny_loadPart' e1,wpAny_pyIter_list k1
    simp only [fit,Bool.not_true,Bool.false_eq_true,if_false]
    wp_walk using wpAny_loadPart' e1,wpAny_pyIter_list k1
    exact ⟨_,rfl,z⟩
  ·wp_walk using wpAny_loadPart' e1,wpAny_pyIter_list k1
   simp only [fit,Bool.not_true,Bool.false_eq_true,if_false]
   wp_walk using wpAny_loadPart' e1,wpAny_pyIter_list k1
   exact ⟨_,rfl,z⟩
section
variable {prog:Program} {w:World} {A:Around} {E:Value->Shared->Prop} {s:Shared}
theorem zK8 {l:Addr} {its:Array Value} {n:Int} {tn:Tok} {Q:Value->Shared->Prop} (hL:s.heap.IsList l its) (fit:Builtin.SmallTypes.fitsIndex n=true)
  (k:∀ g,IsEnum g (s.heap.objs.size + 1) s.heap.objs.size n .none->g.IsListIter s.heap.objs.size l 0->
   (∀ b o,s.heap.get? b=some o->g.get? b=some o)->Q (.ref (s.heap.objs.size + 1)) { s with heap:=g }) :
  wpAny (model prog w) A (call (.type "enumerate") [.ref l] [("start",.int n tn)]) Q E s:=by
 obtain ⟨⟨c,dc,dt,sl⟩,el,ec,m,ed⟩:=hL
 replace ec:c=.type "list":=ec
 replace ed:dt=.seq its m:=ed
 subst ec ed
 refine zKV (R1:=λo s1=>s1.TypeIs o "enumerate"/\Q o s1) F.called_enumerate (zQ9 _ _) (zRB _ _) F.entry_enumerate_new F.entry_object_init
  (zJG l its m dc sl n tn fit) ⟨el,?_⟩ (λo s1 q=>⟨q.1,zN1 o _ _,_,zN0 F.called_enumerate.init.lookup F.called_enumerate.made (by decide),q.1,rfl,q.2⟩)
 have sz:(s.heap.push { cls:=.type "list_iterator",data:=.fields #[.ref l,.int 0 0] }).objs.size=s.heap.objs.size + 1:=
  Heap.size_push ..
 show _/\_
 rw [sz]
 have ee:IsEnum ((s.heap.push { cls:=.type "list_iterator",data:=.fields #[.ref l,.int 0 0] }).push
   { cls:=.type "enumerate",data:=.fields #[.none,.bool false,.ref s.heap.objs.size,rawInt n,.none,.none] }) (s.heap.objs.size + 1) s.heap.objs.size n .none:=by
  have y:=Heap.get?_push_size (s.heap.push { cls:=.type "list_iterator",data:=.fields #[.ref l,.int 0 0] })
   (o:={ cls:=.type "enumerate",data:=.fields #[.none,.bool false,.ref s.heap.objs.size,rawInt n,.none,.none] }) rfl
  rw [sz] at y
  exact y
 exact ⟨⟨_,ee,rfl⟩,k _ ee ⟨_,Heap.get?_push_of_some _ (Heap.get?_push_size _ rfl),rfl,rfl⟩ λb o x=>Heap.get?_push_of_some _ (Heap.get?_push_of_some _ x)⟩
theorem Kc {it l:Addr} {its:Array Value} (k:Nat) (hh:A.handled=none) (ne:l≠it) :
  Draws prog w A it [it,l] (k + its.size) (λj x=>its[j - k]? = some x) (λj h=>k<=j/\h.IsListIter it l (j - k)/\h.IsList l its) where
 live:=λj h ⟨_,⟨o,e,_⟩,_⟩=>⟨o,e⟩
 frame:=λj h h' ⟨a,⟨o,e,r⟩,⟨o2,e2,r2⟩⟩ kp=>⟨a,⟨o,kp it (by simp) o e,r⟩,⟨o2,kp l (by simp) o2 e2,r2⟩⟩
 item:=λj s Q E lt ⟨le,hi,hl⟩ kQ=>by
  have jl:j - k < its.size:=by omega
  refine wpAny_nextOf_list_item hi hl (x:=its[j - k]) (by simp [jl]) λg gi same=>?_
  refine kQ _ g s.toks (by simp [jl]) ⟨by omega,?_,hl.extBut same.extBut ne⟩ same
  rw [show j + 1 - k=j - k + 1 by omega]
  exact gi
 done:=λs Q E ⟨le,hi,hl⟩ kE=>wpAny_nextOf_list_end hh hi hl (by simp) kE
end
section
variable {M:Model} {A:Around} {E:Value->Shared->Prop} {s:Shared}
theorem zPp {pos:Pos} {T:String} {x:Sem Value} {more:List (Bool × Sem Value)} {kws:List (Option Str × Sem Value)} {Q:Value->Shared->Prop}
  (p1:more.any (·.1)=false) (p2:kws.any (·.1.isNone)=false) (p3:kws.all (·.1.isSome)=true)
  (h:wpAny M A (spliced ((false,x) :: more)) (λvs s1=>wpAny M A (evalAll (kws.map (·.2))) (λks s2=>wpAny M A (call (.type T) vs ((kws.filterMap (·.1)).zip ks)) Q E s2) E s1) E s) :
  wpAny M A (callWith pos (.type T) [] ((false,x) :: more) kws) Q E s:=by
 unfold callWith
 refine wpAny_bind (wpAny_holding (wpAny_mono (evalArgs_kwB (f:=.type T) (Q:=λa s1=>wpAny M A (call (.type T) a.pos a.kw) Q E s1) p3 h) (λa s1 q=>wpAny_bind (wpAny_standAt ?_)) λ_ _ z=>z))
 have e:(((false,x) :: more).any (·.1))=false:=by
  show (false || more.any (·.1))=false
  rw [p1]
  rfl
 simp only [e,p2,Bool.or_false]
 refine wpAny_bind (wpAny_pure ?_)
 exact wpAny_bind (wpAny_mono q (λr s2 y=>wpAny_bind (wpAny_holding (wpAny_point (wpAny_pure y)))) λ_ _ z=>z)
end
def j5 (K:PySem.W.Frag) (a:Addr) (k:Nat):It:=
 ⟨λi H=>∃ xs x,zR K H a xs/\xs[i]? = some x,
  λi H v H'=>∃ T x,v=.ref T/\H T=none/\H'=zU H T (.tup [.int ((k + i:Nat):Int),x])/\∀ xs,zR K H a xs->xs[i]? = some x,
  λi H=>∃ xs,zR K H a xs/\i=xs.length⟩
theorem zKa {P:Program} {w:World} {K:PySem.W.Frag} {es:List Expr} {kk:Nat} {tp:Pos} {a e it:Addr} {k:Nat} (ne:e≠it) (nl:a≠it) :
  xf P w K (.Tuple es kk tp) (j5 K a k) [e,it] e (λi h=>(∃ old,IsEnum h e it ((k + i:Nat):Int) old)/\h.IsListIter it a i) where
 mem:=by simp
 obj:=λi h ⟨⟨old,t1⟩,t2⟩ c hc=>by
  simp only [List.mem_cons,List.not_mem_nil,or_false] at hc
  rcases hc with rfl | rfl
  ·exact ⟨_,t1,vY⟩
  ·obtain ⟨o,e,_,d⟩:=t2
   exact ⟨o,e,by rw [d]; exact vY⟩
 keep:=λi h h' ⟨⟨old,t1⟩,t2⟩ z=>⟨⟨old,z e (by simp) _ t1⟩,(by obtain ⟨o,q,r⟩:=t2; exact ⟨o,z it (by simp) o q,r⟩)⟩
 item:=by
  intro X hP hw hK hc i pins s σ H E I hf ⟨⟨old,t1⟩,t2⟩ hg
  subst hP hw hK
  obtain ⟨xs,x,hq,hx⟩:=hg
  obtain ⟨its,rv,p,_⟩:=I.list hq
  obtain ⟨u,hu,ru⟩:=rv.get hx
  have li:i < its.length:=(List.getElem?_eq_some_iff.mp hu).1
  have nea:e≠a:=λz=>by
   obtain ⟨o,eo,cl,_⟩:=p.isList
   rw [z] at t1
   rw [t1] at eo
   cases eo
   have cl2:Value.type "enumerate" = Value.type "list":=cl
   exact absurd (Value.type.inj cl2) (by decide)
  have D:=Kc (prog:=X.prog) (w:=X.w) (A:=X.A.in1) (it:=it) (l:=a) (its:=its.toArray) k (I.ok.hd hc) nl
  refine wpAny_pyNext_enum_itemD D (i:=k + i) t1 ⟨by omega,by rw [Nat.add_sub_cancel_left]; exact t2,p.isList⟩ (by simp; omega) ne (by simp [ne,nea]) ?_
  intro v h1 tk hv z1 z2 z3 z4 keep
  rw [Nat.add_sub_cancel_left] at hv
  have ev:v=u:=by
   have:its[i]? = some v:=by simpa using hv
   rw [hu] at this
   exact (Option.some.inj this).symm
  subst ev
  refine ⟨_,rfl,wpAny_letOwnedTupleGo_enum (s:={ s with heap:=h1,toks:=tk + 1 }) z1 λh2 z5 sb=>?_⟩
  have elt:e < s.heap.objs.size:=Heap.lt_size t1
  have keep2:∀ c o,c∉[e,it]->s.heap.get? c=some o->h2.get? c=some o:=λc o hc q=>by
   obtain ⟨c1,c2⟩:=Kb hc
   exact sb.extBut c o c1 (keep c o c1 c2 q)
  have pT:IsPair h2 s.heap.objs.size (.int ((k + i:Nat):Int) tk) v:=sb.extBut _ _ (Nat.ne_of_gt elt) z3
  have I':=I.turnT (h':=h2) (tk:=tk + 1) (ch:=[e,it]) (x:=.int ((k + i:Nat):Int)) (y:=x) hf keep2 (Nat.le_refl _) pT ⟨_,rfl⟩ ru
  have z2':h1.IsListIter it a (i + 1):=by
   have:=z2.2.1
   rw [show k + i + 1 - k=i + 1 by omega] at this
   exact this
  refine ⟨.ref s.heap.objs.size,_,I',rfl,⟨s.heap.objs.size,x,rfl,I.hok.fresh (Nat.le_refl _),rfl,λxs' q=>by rw [I.list_inj q hq]; exact hx⟩,
   ⟨⟨v,by rw [show ((k + (i + 1):Nat):Int)=((k + i:Nat):Int) + 1 by omega]; exact z5⟩,z2'.extBut sb.extBut (Ne.symm ne)⟩,λc hc=>?_⟩
  have:=(hf c hc).1
  rw [zr]
  ·exact this
  ·intro q
   obtain ⟨o,e1⟩:∃ o,s.heap.get? c=some o:=by
    simp only [List.mem_cons,List.not_mem_nil,or_false] at hc
    rcases hc with rfl | rfl
    ·exact ⟨_,t1⟩
    ·obtain ⟨o,e1,_⟩:=t2; exact ⟨o,e1⟩
   rw [q] at e1
   exact absurd (Heap.lt_size e1) (Nat.lt_irrefl _)
 done:=by
  intro X hP hw hK hc i pins s σ H E I hf ⟨⟨old,t1⟩,t2⟩ hg
  subst hP hw hK
  obtain ⟨xs,hq,e1⟩:=hg
  obtain ⟨its,rv,p,_⟩:=I.list hq
  have n1:its.length=xs.length:=rv.length.symm
  have D:=Kc (prog:=X.prog) (w:=X.w) (A:=X.A.in1) (it:=it) (l:=a) (its:=its.toArray) k (I.ok.hd hc) nl
  refine wpAny_pyNext_enum_endD D t1 ⟨by simp,by simp; rw [n1,<- e1]; exact t2,p.isList⟩ ?_
  intro h1 ext
  refine ⟨rfl,I.turnN (h':=h1) (tk:=s.toks) (ch:=[e,it]) hf λc o hc q=>?_⟩
  exact ext c o (Kb hc).2 q
 self:=λ_ _ _ _ _ ⟨⟨_,st⟩,_⟩ h=>wpAny_pyIter_enum st h
section
variable {X:Cx} {es:List Expr} {kk:Nat} {tp:Pos}
def zQ0 (K:PySem.W.Frag) (ta:TA) (te:TE):TI:=λσ H R=>ta σ H λvs H1=>∃ a,vs=[.ref a]/\te σ H1 λv H2=>∃ k:Nat,v=.int (k:Int)/\Builtin.SmallTypes.fitsIndex (k:Int)=true/\(∃ xs,zR K H2 a xs)/\R (j5 K a k) H2
theorem zNj {e1 e2:Expr} {ta:TA} {te:TE} {p pos kp:Pos} (hg:Gl X "enumerate") (hm:X.mg "enumerate" = none) (ha:PA X [e1] ta) (he:PE X e2 te) (hs:starEach [e1] X.env=[(false,eval e1 X.env)]:=by rfl) (hs2:starEach [] X.env=[]:=by rfl) :
  PI X (.Tuple es kk tp) (.Call (.Name "enumerate" p) [e1] [⟨some "start",e2,kp⟩] pos) (zQ0 X.K ta te):=by
 intro pins s σ H R I h
 refine wpAny_Call_Name_kw (jk I hg hm (show bootBuiltins "enumerate" = some (.type "enumerate") by decide +kernel) ?_)
 have h1:=ha pos pins s σ H _ I h
 rw [hs] at h1 |-
 refine zPp (T:="enumerate") rfl rfl rfl (zi h1 λus s1 ⟨vs,H1,I1,r1,q1⟩=>?_)
 obtain ⟨a,e,q2⟩:=q1
 subst e
 obtain ⟨u,rfl,ru⟩:=jH r1
 cases ru
 refine kws_cons (zi (he pins s1 σ H1 _ I1 q2) λu2 s2 ⟨v,H2,I2,r2,q3⟩=>kws_nil ?_)
 obtain ⟨k,rfl,fit,⟨xs,hx⟩,q⟩:=q3
 obtain ⟨tk,rfl⟩:=r2
 obtain ⟨its,rv,p1,_⟩:=I2.list hx
 have la:a < s2.heap.objs.size:=by obtain ⟨o,n,e,_⟩:=p1; exact Heap.lt_size e
 refine zK8 p1.isList fit λh' z1 z2 keep=>wpAny_pyIter_enum z1 ?_
 have I3:zG X pins σ H2 { s2 with heap:=h' }:=I2.kept (t':=s2.toks) keep
 refine ⟨s2.heap.objs.size + 1,[s2.heap.objs.size + 1,s2.heap.objs.size],_,_,H2,rfl,I3,zKa (a:=a) (k:=k) (Nat.succ_ne_self _) (Nat.ne_of_lt la),⟨⟨_,z1⟩,z2⟩,λc hc=>?_,q⟩
 have ge:s2.heap.objs.size<=c:=by
  simp only [List.mem_cons,List.not_mem_nil,or_false] at hc
  rcases hc with rfl | rfl
  ·exact Nat.le_add_right _ 1
  ·exact Nat.le_refl _
 exact I2.fpOk ge (I2.hok.fresh ge)
end
end L2
namespace Sh
open PySem L2
inductive Kd where
 | int | bool | non | str | lst | tup | dic
 deriving DecidableEq
def Kd.nm:Kd->String
 | .int=>"int" | .bool=>"bool" | .non=>"NoneType" | .str=>"str" | .lst=>"list" | .tup=>"tuple" | .dic=>"dict"
def Kd.whole:Kd->Bool
 | .int=>true
 | _=>false
def Kd.isInt:Kd->Bool
 | .int=>true
 | .bool=>true
 | _=>false
def Kd.isBool:Kd->Bool
 | .bool=>true
 | _=>false
def Kd.isTup:Kd->Bool
 | .tup=>true
 | _=>false
def Kd.isLst:Kd->Bool
 | .lst=>true
 | _=>false
section
variable (K:PySem.W.Frag)
theorem jM (k:Kd):PySem.W.kitOne K (.type k.nm) (.type "int")=some k.isInt:=by
 cases k <;> first | rfl | decide +kernel | (unfold PySem.W.kitOne; rw [if_pos (by decide +kernel)]; rfl) | (unfold PySem.W.kitOne; rw [if_neg (by decide +kernel)]; rfl)
theorem jN (k:Kd):PySem.W.kitOne K (.type k.nm) (.type "bool")=some k.isBool:=by
 cases k <;> first | rfl | decide +kernel | (unfold PySem.W.kitOne; rw [if_pos (by decide +kernel)]; rfl) | (unfold PySem.W.kitOne; rw [if_neg (by decide +kernel)]; rfl)
theorem jO (k:Kd):PySem.W.kitOne K (.type k.nm) (.type "tuple")=some k.isTup:=by
 cases k <;> first | rfl | decide +kernel | (unfold PySem.W.kitOne; rw [if_pos (by decide +kernel)]; rfl) | (unfold PySem.W.kitOne; rw [if_neg (by decide +kernel)]; rfl)
theorem jP (k:Kd):PySem.W.kitOne K (.type k.nm) (.type "list")=some k.isLst:=by
 cases k <;> first | rfl | decide +kernel | (unfold PySem.W.kitOne; rw [if_pos (by decide +kernel)]; rfl) | (unfold PySem.W.kitOne; rw [if_neg (by decide +kernel)]; rfl)
end
end Sh
namespace L2
open PySem PySem.Spec PyProof.Rows
section
variable {X:Cx}
end
end L2
namespace L2
open PySem PySem.Spec PyProof.Rows
structure zE (K:PySem.W.Frag) (mg:Str->Option Value) (x:Str) (C:Addr):Prop where
 cl:uJ K C
 mgC:mg x=some (.ref C)
 ha:PySem.W.findIn K (.ref C) "__class__" = some (some (.builtin "object.__class__"))
 hn:PySem.W.specialIn K (.builtin "object.__class__") "__get__" = some (some (.builtin "getset_descriptor.__get__"))
 htk:PySem.W.takesIn K (.builtin "object.__class__")=some true
 hm:PySem.W.mroIn K C (.type "object")=some true
theorem zE.ty {K:PySem.W.Frag} {mg:Str->Option Value} {x:Str} {C a dx:Addr} {H:Hp} {fs:List (Str × V)} (T:zE K mg x C) (e:H a=some (.ins C dx fs)):yP K H (.ref a) (.ref C):=.ins e T.cl T.ha T.hn T.htk T.hm
structure vn (P:Program) (w:World) (K:PySem.W.Frag) (mg:Str->Option Value) (base:Heap) (C:Addr) (m:Str) (ps:List Str) (k:Nat) (sp:Sp):Prop where
 ex:∃ f fd,zH P w K mg base zZ k f fd ps sp/\jr K C m f/\vI K fd ps []
structure v7 (P:Program) (w:World) (K:PySem.W.Frag) (mg:Str->Option Value) (base:Heap) (C:Addr) (ps:List Str) (k:Nat) (sp:Sp):Prop where
 ex:∃ f fd,zH P w K mg base zZ k f fd ps sp/\Mk K C f/\vI K fd ps []
theorem vn.mono {P:Program} {w:World} {K:PySem.W.Frag} {mg:Str->Option Value} {base:Heap} {C:Addr} {m:Str} {ps:List Str} {j k:Nat} {sp:Sp} (F:vn P w K mg base C m ps j sp) (h:j<=k:=by decide):vn P w K mg base C m ps k sp:=by
 obtain ⟨f,fd,a,b,c⟩:=F.ex
 exact ⟨f,fd,a.mono h,b,c⟩
theorem v7.mono {P:Program} {w:World} {K:PySem.W.Frag} {mg:Str->Option Value} {base:Heap} {C:Addr} {ps:List Str} {j k:Nat} {sp:Sp} (F:v7 P w K mg base C ps j sp) (h:j<=k:=by decide):v7 P w K mg base C ps k sp:=by
 obtain ⟨f,fd,a,b,c⟩:=F.ex
 exact ⟨f,fd,a.mono h,b,c⟩
section
variable {X:Cx} {C:Addr} {m x:Str} {ps:List Str} {k:Nat} {sp:Sp} {o e:Expr} {es:List Expr} {ta:TE} {t:TA} {p pos apos:Pos} {dv:V}
theorem zLo {pl:Sem Bool} (F:vn X.prog X.w X.K X.mg X.base C m ps k sp) (T:zE X.K X.mg x C) (hr:zj k X.A) (he:PE X o ta)
  (ht:eval (.Call (.Attribute o m apos) [] [] pos) X.env=(do
   let ov <- eval o X.env
   standAt apos.atName
   let (f,first) <- holding [ov] (getMethod ov m pl)
   callWith pos f first (backTo pos (starEach [] X.env)) (backToKw pos (keywordEach [] X.env))):=by rfl) :
  PE X (.Call (.Attribute o m apos) [] [] pos) (Qr C m sp [] E0 ta vj):=by
 obtain ⟨f,fd,a,b,c⟩:=F.ex
 exact zNl he T.cl b a hr c .nil Yp ht
theorem zNm (F:v7 X.prog X.w X.K X.mg X.base C ps k sp) (T:zE X.K X.mg x C) (hr:zj (k + 1) X.A) (hg:Gl X x) (ha:PA X (e :: es) t)
  (hdb:(x == ("__debug__" : Str))=false:=by decide) (he:starEach (e :: es) X.env=(false,eval e X.env) :: starEach es X.env:=by rfl) (hpl:(backTo pos (starEach es X.env)).any (·.1)=false:=by rfl) :
  PE X (.Call (.Name x p) (e :: es) [] pos) (Yn C sp [] E0 t):=by
 obtain ⟨f,fd,a,b,c⟩:=F.ex
 exact zPJ b a hr hg T.mgC c .nil Yp ha hdb he hpl
theorem kr (T:zE X.K X.mg x C) (hg:Gl X x) (hd:(x == ("__debug__" : Str))=false:=by decide):PE X (.Name x pos) (tC (.ref C)):=QU hg T.mgC rfl hd
def Ke (K:PySem.W.Frag):List V->Hp->VK->Prop:=λxs H Q=>∃ x C t b,xs=[x,.ref C]/\yP K H x t/\PySem.W.kitOne K t (.ref C)=some b/\Q (.bl b) H
theorem kt:vh X (.builtin "isinstance") (Ke X.K):=by
 intro pins s σ H xs us Q I r h
 obtain ⟨x,C,t,b,rfl,ty,e,q⟩:=h
 obtain ⟨u,v,rfl,ru,rv⟩:=kH r
 cases (show v=Value.ref C from rv)
 exact Qo I ru ty e λtk=>⟨.bl b,H,I.tok tk,rfl,q⟩
end
end L2
namespace L2
open PySem PySem.Spec PyProof.Rows
section
variable {X:Cx} {pos:Pos}
end
end L2
namespace L2
open PySem PySem.Spec PyProof.Rows PySem.SeqAt
section
variable {X:Cx}
end
end L2
namespace L2
open PySem PySem.Spec PyProof.Rows
open PySem
abbrev Y4 (h:Heap) (t:Addr):Heap:=h.push { cls:=.type "tuple_iterator",data:=.fields #[.ref t,.int 0 0] }
abbrev Y5 (h:Heap) (t l:Addr):Heap:=(Y4 h t).push { cls:=.type "tuple_iterator",data:=.fields #[.ref l,.int 0 0] }
abbrev Y6 (h:Heap) (t l:Addr):Heap:=(Y5 h t l).push { cls:=.type "tuple",data:=.seq #[.ref h.objs.size,.ref (Y4 h t).objs.size] }
abbrev Y7 (h:Heap) (t l:Addr):Heap:=(Y6 h t l).push { cls:=.type "tuple",data:=.seq #[.none,.none] }
abbrev gE (h:Heap) (t l:Addr):Heap:=(Y7 h t l).push { cls:=.type "zip",data:=.fields #[.none,.bool false,.bool false,.ref (Y5 h t l).objs.size,.ref (Y6 h t l).objs.size] }
theorem zKS (t l:Addr) (xs ys:Array Value) :
  Meets (Builtin.«zip.__new__» ⟨[.type "zip",.ref t,.ref l],[]⟩) (λ_ R s=>s.heap.IsTuple t xs/\s.heap.IsTuple l ys/\R (.ok (.ret (.ref (Y7 s.heap t l).objs.size))) { s with heap:=gE s.heap t l }):=
 .of_wp λprog w A R s h=>by
  obtain ⟨hp,g,d,tk,os⟩:=s; obtain ⟨h1,h2,h⟩:=h
  have hsub:=sub_zip
  have e1:Heap.IsTuple (Shared.heap ⟨hp,g,d,tk,os⟩) t xs:=h1
  have e2:Heap.IsTuple (Shared.heap ⟨hp.push { cls:=.type "tuple_iterator",data:=.fields #[.ref t,.int 0 0] },g,d,tk,os⟩) l ys:=(let ⟨o,e,r⟩:=h2; ⟨o,Heap.get?_push_of_some _ e,r⟩)
  wp_walk using wpAny_pyIter_tuple e1,wpAny_pyIter_tuple e2
  exact ⟨_,rfl,h⟩
theorem zJQ {prog:Program} {w:World} {A:Around} {E:Value->Shared->Prop} {s:Shared} {t l:Addr} {xs ys:Array Value} {Q:Value->Shared->Prop} (h1:s.heap.IsTuple t xs) (h2:s.heap.IsTuple l ys)
  (h:∀ h',IsZip h' (s.heap.objs.size + 4) (s.heap.objs.size + 2) (s.heap.objs.size + 3) .none->IsPair h' (s.heap.objs.size + 2) (.ref s.heap.objs.size) (.ref (s.heap.objs.size + 1))->IsPair h' (s.heap.objs.size + 3) .none .none->
   h'.IsTupleIter s.heap.objs.size t 0->h'.IsTupleIter (s.heap.objs.size + 1) l 0->(∀ c o,s.heap.get? c=some o->h'.get? c=some o)->Q (.ref (s.heap.objs.size + 4)) { s with heap:=h' }) :
  wpAny (model prog w) A (call (.type "zip") [.ref t,.ref l]) Q E s:=by
 refine callType_new F.called_zip (by decide) (F.typeCall_zip_2 _ _) (F.newCall_zip_2 _ _) (λobj=>F.args_object_init_3 obj _ _) F.entry_zip_new (zKS t l xs ys) ⟨h1,h2,?_⟩
 have n1:(Y4 s.heap t).objs.size=s.heap.objs.size + 1:=Heap.size_push ..
 have n2:(Y5 s.heap t l).objs.size=s.heap.objs.size + 2:=by rw [Heap.size_push,n1]
 have n3:(Y6 s.heap t l).objs.size=s.heap.objs.size + 3:=by rw [Heap.size_push,n2]
 have n4:(Y7 s.heap t l).objs.size=s.heap.objs.size + 4:=by rw [Heap.size_push,n3]
 have p5:(gE s.heap t l).get? (Y7 s.heap t l).objs.size=some _:=Heap.get?_push_size _ rfl
 have p4:(gE s.heap t l).get? (Y6 s.heap t l).objs.size=some _:=Heap.get?_push_of_some _ (Heap.get?_push_size _ rfl)
 have p3:(gE s.heap t l).get? (Y5 s.heap t l).objs.size=some _:=Heap.get?_push_of_some _ (Heap.get?_push_of_some _ (Heap.get?_push_size _ rfl))
 have p2:(gE s.heap t l).get? (Y4 s.heap t).objs.size=some _:=Heap.get?_push_of_some _ (Heap.get?_push_of_some _ (Heap.get?_push_of_some _ (Heap.get?_push_size _ rfl)))
 have p1:(gE s.heap t l).get? s.heap.objs.size=some _:=Heap.get?_push_of_some _ (Heap.get?_push_of_some _ (Heap.get?_push_of_some _ (Heap.get?_push_of_some _ (Heap.get?_push_size _ rfl))))
 change _/\_
 rw [n2,n3,n4] at p5
 rw [n1,n2] at p3
 rw [n3] at p4
 rw [n1] at p2
 rw [n4]
 exact ⟨⟨_,p5,rfl⟩,h _ p5 p3 p4 ⟨_,p1,rfl,rfl⟩ ⟨_,p2,rfl,rfl⟩ λc o x=>Heap.get?_push_of_some _ (Heap.get?_push_of_some _ (Heap.get?_push_of_some _ (Heap.get?_push_of_some _ (Heap.get?_push_of_some _ x))))⟩
abbrev Y8 (h:Heap) (t:Addr):Heap:=h.push { cls:=.type "list_iterator",data:=.fields #[.ref t,.int 0 0] }
abbrev Y9 (h:Heap) (t l:Addr):Heap:=(Y8 h t).push { cls:=.type "tuple_iterator",data:=.fields #[.ref l,.int 0 0] }
abbrev XA (h:Heap) (t l:Addr):Heap:=(Y9 h t l).push { cls:=.type "tuple",data:=.seq #[.ref h.objs.size,.ref (Y8 h t).objs.size] }
abbrev XB (h:Heap) (t l:Addr):Heap:=(XA h t l).push { cls:=.type "tuple",data:=.seq #[.none,.none] }
abbrev gF (h:Heap) (t l:Addr):Heap:=(XB h t l).push { cls:=.type "zip",data:=.fields #[.none,.bool false,.bool false,.ref (Y9 h t l).objs.size,.ref (XA h t l).objs.size] }
theorem zKU (t l:Addr) (xs ys:Array Value) :
  Meets (Builtin.«zip.__new__» ⟨[.type "zip",.ref t,.ref l],[]⟩) (λ_ R s=>s.heap.IsList t xs/\s.heap.IsTuple l ys/\R (.ok (.ret (.ref (XB s.heap t l).objs.size))) { s with heap:=gF s.heap t l }):=
 .of_wp λprog w A R s h=>by
  obtain ⟨hp,g,d,tk,os⟩:=s; obtain ⟨h1,h2,h⟩:=h
  have hsub:=sub_zip
  have e1:Heap.IsList (Shared.heap ⟨hp,g,d,tk,os⟩) t xs:=h1
  have e2:Heap.IsTuple (Shared.heap ⟨hp.push { cls:=.type "list_iterator",data:=.fields #[.ref t,.int 0 0] },g,d,tk,os⟩) l ys:=(let ⟨o,e,r⟩:=h2; ⟨o,Heap.get?_push_of_some _ e,r⟩)
  wp_walk using wpAny_pyIter_list e1,wpAny_pyIter_tuple e2
  exact ⟨_,rfl,h⟩
theorem zJS {prog:Program} {w:World} {A:Around} {E:Value->Shared->Prop} {s:Shared} {t l:Addr} {xs ys:Array Value} {Q:Value->Shared->Prop} (h1:s.heap.IsList t xs) (h2:s.heap.IsTuple l ys)
  (h:∀ h',IsZip h' (s.heap.objs.size + 4) (s.heap.objs.size + 2) (s.heap.objs.size + 3) .none->IsPair h' (s.heap.objs.size + 2) (.ref s.heap.objs.size) (.ref (s.heap.objs.size + 1))->IsPair h' (s.heap.objs.size + 3) .none .none->
   h'.IsListIter s.heap.objs.size t 0->h'.IsTupleIter (s.heap.objs.size + 1) l 0->(∀ c o,s.heap.get? c=some o->h'.get? c=some o)->Q (.ref (s.heap.objs.size + 4)) { s with heap:=h' }) :
  wpAny (model prog w) A (call (.type "zip") [.ref t,.ref l]) Q E s:=by
 refine callType_new F.called_zip (by decide) (F.typeCall_zip_2 _ _) (F.newCall_zip_2 _ _) (λobj=>F.args_object_init_3 obj _ _) F.entry_zip_new (zKU t l xs ys) ⟨h1,h2,?_⟩
 have n1:(Y8 s.heap t).objs.size=s.heap.objs.size + 1:=Heap.size_push ..
 have n2:(Y9 s.heap t l).objs.size=s.heap.objs.size + 2:=by rw [Heap.size_push,n1]
 have n3:(XA s.heap t l).objs.size=s.heap.objs.size + 3:=by rw [Heap.size_push,n2]
 have n4:(XB s.heap t l).objs.size=s.heap.objs.size + 4:=by rw [Heap.size_push,n3]
 have p5:(gF s.heap t l).get? (XB s.heap t l).objs.size=some _:=Heap.get?_push_size _ rfl
 have p4:(gF s.heap t l).get? (XA s.heap t l).objs.size=some _:=Heap.get?_push_of_some _ (Heap.get?_push_size _ rfl)
 have p3:(gF s.heap t l).get? (Y9 s.heap t l).objs.size=some _:=Heap.get?_push_of_some _ (Heap.get?_push_of_some _ (Heap.get?_push_size _ rfl))
 have p2:(gF s.heap t l).get? (Y8 s.heap t).objs.size=some _:=Heap.get?_push_of_some _ (Heap.get?_push_of_some _ (Heap.get?_push_of_some _ (Heap.get?_push_size _ rfl)))
 have p1:(gF s.heap t l).get? s.heap.objs.size=some _:=Heap.get?_push_of_some _ (Heap.get?_push_of_some _ (Heap.get?_push_of_some _ (Heap.get?_push_of_some _ (Heap.get?_push_size _ rfl))))
 change _/\_
 rw [n2,n3,n4] at p5
 rw [n1,n2] at p3
 rw [n3] at p4
 rw [n1] at p2
 rw [n4]
 exact ⟨⟨_,p5,rfl⟩,h _ p5 p3 p4 ⟨_,p1,rfl,rfl⟩ ⟨_,p2,rfl,rfl⟩ λc o x=>Heap.get?_push_of_some _ (Heap.get?_push_of_some _ (Heap.get?_push_of_some _ (Heap.get?_push_of_some _ (Heap.get?_push_of_some _ x))))⟩
def Kf (K:PySem.W.Frag) (a b:Addr):It:=
 ⟨λi H=>∃ xs ys x y,zt K H a xs/\zt K H b ys/\xs[i]? = some x/\ys[i]? = some y,
  λi H v H'=>∃ T x y,v=.ref T/\H T=none/\H'=zU H T (.tup [x,y])/\(∀ xs,zt K H a xs->xs[i]? = some x)/\∀ ys,zt K H b ys->ys[i]? = some y,
  λi H=>∃ xs ys,zt K H a xs/\zt K H b ys/\i<=xs.length/\i<=ys.length/\(i=xs.length\/i=ys.length)⟩
theorem zKW {P:Program} {w:World} {K:PySem.W.Frag} {es:List Expr} {kk:Nat} {tp:Pos} {a b z TI TO i1 i2:Addr} (Z:Zp z TI TO i1 i2 [i1,a] [i2,b]) (na:a≠i1) (nb:b≠i2) :
  xf P w K (.Tuple es kk tp) (Kf K a b) [z,TI,TO,i1,i2] z (λi h=>IsZip h z TI TO .none/\IsPair h TI (.ref i1) (.ref i2)/\(∃ x y,IsPair h TO x y)/\h.IsTupleIter i1 a i/\h.IsTupleIter i2 b i) where
 mem:=by simp
 obj:=λi h ⟨t1,t2,⟨x,y,t3⟩,t4,t5⟩ c hc=>by
  simp only [List.mem_cons,List.not_mem_nil,or_false] at hc
  rcases hc with rfl | rfl | rfl | rfl | rfl
  ·exact ⟨_,t1,vY⟩
  ·exact ⟨_,t2,jL⟩
  ·exact ⟨_,t3,jL⟩
  ·obtain ⟨o,e,_,d⟩:=t4
   exact ⟨o,e,by rw [d]; exact vY⟩
  ·obtain ⟨o,e,_,d⟩:=t5
   exact ⟨o,e,by rw [d]; exact vY⟩
 keep:=λi h h' ⟨t1,t2,⟨x,y,t3⟩,t4,t5⟩ k=>⟨k z (by simp) _ t1,k TI (by simp) _ t2,⟨x,y,k TO (by simp) _ t3⟩,(by obtain ⟨o,e,r⟩:=t4; exact ⟨o,k i1 (by simp) o e,r⟩),(by obtain ⟨o,e,r⟩:=t5; exact ⟨o,k i2 (by simp) o e,r⟩)⟩
 item:=by
  intro X hP hw hK hc i pins s σ H E I hf ⟨t1,t2,⟨x0,y0,t3⟩,t4,t5⟩ hg
  subst hP hw hK
  obtain ⟨xs,ys,x,y,hq1,hq2,hx,hy⟩:=hg
  obtain ⟨its1,rv1,p1,_⟩:=I.tuple hq1
  obtain ⟨its2,rv2,p2,_⟩:=I.tuple hq2
  obtain ⟨u,hu,ru⟩:=rv1.get hx
  obtain ⟨v,hv,rv⟩:=rv2.get hy
  have hh:X.A.in1.handled=none:=I.ok.hd hc
  have l1:i < its1.toArray.size:=by rw [List.size_toArray]; exact (List.getElem?_eq_some_iff.mp hu).1
  have l2:i < its2.toArray.size:=by rw [List.size_toArray]; exact (List.getElem?_eq_some_iff.mp hv).1
  refine Yz (jK hh i1 a na its1.toArray) (jK hh i2 b nb its2.toArray) Z t1 t2 t3 ⟨t4,p1⟩ ⟨t5,p2⟩ l1 l2 ?_
  intro x' y' h1 tk px py z1 z2 z3 z4 z5 z6 keep
  have ex:x'=u:=by
   have q:its1.toArray[i]? = some x':=px
   simp only [List.getElem?_toArray] at q
   rw [hu] at q
   exact (Option.some.inj q).symm
  have ey:y'=v:=by
   have q:its2.toArray[i]? = some y':=py
   simp only [List.getElem?_toArray] at q
   rw [hv] at q
   exact (Option.some.inj q).symm
  subst ex ey
  refine ⟨_,rfl,wpAny_letOwnedTupleGo_zip (s:={ s with heap:=h1,toks:=tk }) z1 λh2 z7 sb=>?_⟩
  have zlt:z < s.heap.objs.size:=Heap.lt_size t1
  have keep2:∀ c o,c∉[z,TI,TO,i1,i2]->s.heap.get? c=some o->h2.get? c=some o:=λc o hc e=>by
   simp only [List.mem_cons,List.not_mem_nil,or_false,not_or] at hc
   exact sb.extBut c o hc.1 (keep c o hc.1 hc.2.2.1 hc.2.2.2.1 hc.2.2.2.2 e)
  have pT:IsPair h2 s.heap.objs.size x' y':=sb.extBut _ _ (Nat.ne_of_gt zlt) z6
  have I':=I.turnT (h':=h2) (tk:=tk) (ch:=[z,TI,TO,i1,i2]) (x:=x) (y:=y) hf keep2 (Nat.le_refl _) pT ru rv
  refine ⟨.ref s.heap.objs.size,_,I',rfl,⟨s.heap.objs.size,x,y,rfl,I.hok.fresh (Nat.le_refl _),rfl,λxs' q=>by rw [I.tuple_inj q hq1]; exact hx,λys' q=>by rw [I.tuple_inj q hq2]; exact hy⟩,
   ⟨z7,sb.extBut _ _ Z.a1 z2,⟨_,_,sb.extBut _ _ Z.a2 z3⟩,z4.1.extBut sb.extBut Z.a3,z5.1.extBut sb.extBut Z.a4⟩,λc hc=>?_⟩
  have:=(hf c hc).1
  rw [zr]
  ·exact this
  ·intro q
   obtain ⟨o,e,_⟩:∃ o,s.heap.get? c=some o/\True:=by
    simp only [List.mem_cons,List.not_mem_nil,or_false] at hc
    rcases hc with rfl | rfl | rfl | rfl | rfl
    ·exact ⟨_,t1,trivial⟩
    ·exact ⟨_,t2,trivial⟩
    ·exact ⟨_,t3,trivial⟩
    ·obtain ⟨o,e,_⟩:=t4; exact ⟨o,e,trivial⟩
    ·obtain ⟨o,e,_⟩:=t5; exact ⟨o,e,trivial⟩
   rw [q] at e
   exact absurd (Heap.lt_size e) (Nat.lt_irrefl _)
 done:=by
  intro X hP hw hK hc i pins s σ H E I hf ⟨t1,t2,⟨x0,y0,t3⟩,t4,t5⟩ hg
  subst hP hw hK
  obtain ⟨xs,ys,hq1,hq2,e1,e2,e3⟩:=hg
  obtain ⟨its1,rv1,p1,_⟩:=I.tuple hq1
  obtain ⟨its2,rv2,p2,_⟩:=I.tuple hq2
  have hh:X.A.in1.handled=none:=I.ok.hd hc
  have n1:its1.toArray.size=xs.length:=by rw [List.size_toArray]; exact rv1.length.symm
  have n2:its2.toArray.size=ys.length:=by rw [List.size_toArray]; exact rv2.length.symm
  refine Y0 (jK hh i1 a na its1.toArray) (jK hh i2 b nb its2.toArray) Z t1 t2 t3 ⟨t4,p1⟩ ⟨t5,p2⟩ (by omega) (by omega) (by omega) ?_
  intro h1 tk keep
  refine ⟨rfl,I.turnN (h':=h1) (tk:=tk) (ch:=[z,TI,TO,i1,i2]) hf λc o hc e=>?_⟩
  simp only [List.mem_cons,List.not_mem_nil,or_false,not_or] at hc
  exact keep c o hc.1 hc.2.2.1 hc.2.2.2.1 hc.2.2.2.2 e
 self:=λ_ _ _ _ _ st h=>wpAny_pyIter_zip st.1 h
def Kg (K:PySem.W.Frag) (a b:Addr):It:=
 ⟨λi H=>∃ xs ys x y,zR K H a xs/\zt K H b ys/\xs[i]? = some x/\ys[i]? = some y,
  λi H v H'=>∃ T x y,v=.ref T/\H T=none/\H'=zU H T (.tup [x,y])/\(∀ xs,zR K H a xs->xs[i]? = some x)/\∀ ys,zt K H b ys->ys[i]? = some y,
  λi H=>∃ xs ys,zR K H a xs/\zt K H b ys/\i<=xs.length/\i<=ys.length/\(i=xs.length\/i=ys.length)⟩
theorem zKX {P:Program} {w:World} {K:PySem.W.Frag} {es:List Expr} {kk:Nat} {tp:Pos} {a b z TI TO i1 i2:Addr} (Z:Zp z TI TO i1 i2 [i1,a] [i2,b]) (na:a≠i1) (nb:b≠i2) :
  xf P w K (.Tuple es kk tp) (Kg K a b) [z,TI,TO,i1,i2] z (λi h=>IsZip h z TI TO .none/\IsPair h TI (.ref i1) (.ref i2)/\(∃ x y,IsPair h TO x y)/\h.IsListIter i1 a i/\h.IsTupleIter i2 b i) where
 mem:=by simp
 obj:=λi h ⟨t1,t2,⟨x,y,t3⟩,t4,t5⟩ c hc=>by
  simp only [List.mem_cons,List.not_mem_nil,or_false] at hc
  rcases hc with rfl | rfl | rfl | rfl | rfl
  ·exact ⟨_,t1,vY⟩
  ·exact ⟨_,t2,jL⟩
  ·exact ⟨_,t3,jL⟩
  ·obtain ⟨o,e,_,d⟩:=t4
   exact ⟨o,e,by rw [d]; exact vY⟩
  ·obtain ⟨o,e,_,d⟩:=t5
   exact ⟨o,e,by rw [d]; exact vY⟩
 keep:=λi h h' ⟨t1,t2,⟨x,y,t3⟩,t4,t5⟩ k=>⟨k z (by simp) _ t1,k TI (by simp) _ t2,⟨x,y,k TO (by simp) _ t3⟩,(by obtain ⟨o,e,r⟩:=t4; exact ⟨o,k i1 (by simp) o e,r⟩),(by obtain ⟨o,e,r⟩:=t5; exact ⟨o,k i2 (by simp) o e,r⟩)⟩
 item:=by
  intro X hP hw hK hc i pins s σ H E I hf ⟨t1,t2,⟨x0,y0,t3⟩,t4,t5⟩ hg
  subst hP hw hK
  obtain ⟨xs,ys,x,y,hq1,hq2,hx,hy⟩:=hg
  obtain ⟨its1,rv1,p1,_⟩:=I.list hq1
  obtain ⟨its2,rv2,p2,_⟩:=I.tuple hq2
  obtain ⟨u,hu,ru⟩:=rv1.get hx
  obtain ⟨v,hv,rv⟩:=rv2.get hy
  have hh:X.A.in1.handled=none:=I.ok.hd hc
  have l1:i < its1.toArray.size:=by rw [List.size_toArray]; exact (List.getElem?_eq_some_iff.mp hu).1
  have l2:i < its2.toArray.size:=by rw [List.size_toArray]; exact (List.getElem?_eq_some_iff.mp hv).1
  refine Yz (Draws.list hh i1 a na its1.toArray) (jK hh i2 b nb its2.toArray) Z t1 t2 t3 ⟨t4,p1.isList⟩ ⟨t5,p2⟩ l1 l2 ?_
  intro x' y' h1 tk px py z1 z2 z3 z4 z5 z6 keep
  have ex:x'=u:=by
   have q:its1.toArray[i]? = some x':=px
   simp only [List.getElem?_toArray] at q
   rw [hu] at q
   exact (Option.some.inj q).symm
  have ey:y'=v:=by
   have q:its2.toArray[i]? = some y':=py
   simp only [List.getElem?_toArray] at q
   rw [hv] at q
   exact (Option.some.inj q).symm
  subst ex ey
  refine ⟨_,rfl,wpAny_letOwnedTupleGo_zip (s:={ s with heap:=h1,toks:=tk }) z1 λh2 z7 sb=>?_⟩
  have zlt:z < s.heap.objs.size:=Heap.lt_size t1
  have keep2:∀ c o,c∉[z,TI,TO,i1,i2]->s.heap.get? c=some o->h2.get? c=some o:=λc o hc e=>by
   simp only [List.mem_cons,List.not_mem_nil,or_false,not_or] at hc
   exact sb.extBut c o hc.1 (keep c o hc.1 hc.2.2.1 hc.2.2.2.1 hc.2.2.2.2 e)
  have pT:IsPair h2 s.heap.objs.size x' y':=sb.extBut _ _ (Nat.ne_of_gt zlt) z6
  have I':=I.turnT (h':=h2) (tk:=tk) (ch:=[z,TI,TO,i1,i2]) (x:=x) (y:=y) hf keep2 (Nat.le_refl _) pT ru rv
  refine ⟨.ref s.heap.objs.size,_,I',rfl,⟨s.heap.objs.size,x,y,rfl,I.hok.fresh (Nat.le_refl _),rfl,λxs' q=>by rw [I.list_inj q hq1]; exact hx,λys' q=>by rw [I.tuple_inj q hq2]; exact hy⟩,
   ⟨z7,sb.extBut _ _ Z.a1 z2,⟨_,_,sb.extBut _ _ Z.a2 z3⟩,z4.1.extBut sb.extBut Z.a3,z5.1.extBut sb.extBut Z.a4⟩,λc hc=>?_⟩
  have:=(hf c hc).1
  rw [zr]
  ·exact this
  ·intro q
   obtain ⟨o,e,_⟩:∃ o,s.heap.get? c=some o/\True:=by
    simp only [List.mem_cons,List.not_mem_nil,or_false] at hc
    rcases hc with rfl | rfl | rfl | rfl | rfl
    ·exact ⟨_,t1,trivial⟩
    ·exact ⟨_,t2,trivial⟩
    ·exact ⟨_,t3,trivial⟩
    ·obtain ⟨o,e,_⟩:=t4; exact ⟨o,e,trivial⟩
    ·obtain ⟨o,e,_⟩:=t5; exact ⟨o,e,trivial⟩
   rw [q] at e
   exact absurd (Heap.lt_size e) (Nat.lt_irrefl _)
 done:=by
  intro X hP hw hK hc i pins s σ H E I hf ⟨t1,t2,⟨x0,y0,t3⟩,t4,t5⟩ hg
  subst hP hw hK
  obtain ⟨xs,ys,hq1,hq2,e1,e2,e3⟩:=hg
  obtain ⟨its1,rv1,p1,_⟩:=I.list hq1
  obtain ⟨its2,rv2,p2,_⟩:=I.tuple hq2
  have hh:X.A.in1.handled=none:=I.ok.hd hc
  have n1:its1.toArray.size=xs.length:=by rw [List.size_toArray]; exact rv1.length.symm
  have n2:its2.toArray.size=ys.length:=by rw [List.size_toArray]; exact rv2.length.symm
  refine Y0 (Draws.list hh i1 a na its1.toArray) (jK hh i2 b nb its2.toArray) Z t1 t2 t3 ⟨t4,p1.isList⟩ ⟨t5,p2⟩ (by omega) (by omega) (by omega) ?_
  intro h1 tk keep
  refine ⟨rfl,I.turnN (h':=h1) (tk:=tk) (ch:=[z,TI,TO,i1,i2]) hf λc o hc e=>?_⟩
  simp only [List.mem_cons,List.not_mem_nil,or_false,not_or] at hc
  exact keep c o hc.1 hc.2.2.1 hc.2.2.2.1 hc.2.2.2.2 e
 self:=λ_ _ _ _ _ st h=>wpAny_pyIter_zip st.1 h
def SqE (K:PySem.W.Frag) (H:Hp) (a:Addr) (xs:List V):Prop:=zt K H a xs\/zR K H a xs
section
variable {X:Cx} {es:List Expr} {kk:Nat} {tp:Pos}
theorem uv {pins:List (Addr × Obj)} {σ:St} {H:Hp} {s:Shared} (I:zG X pins σ H s) {c:Addr} (hc:c∈[s.heap.objs.size + 4,s.heap.objs.size + 2,s.heap.objs.size + 3,s.heap.objs.size,s.heap.objs.size + 1]):yK X pins H c:=by
 have ge:s.heap.objs.size<=c:=by
  simp only [List.mem_cons,List.not_mem_nil,or_false] at hc
  rcases hc with rfl | rfl | rfl | rfl | rfl
  ·exact Nat.le_add_right _ 4
  ·exact Nat.le_add_right _ 2
  ·exact Nat.le_add_right _ 3
  ·exact Nat.le_refl _
  ·exact Nat.le_add_right _ 1
 exact I.fpOk ge (I.hok.fresh ge)
def orZ (K:PySem.W.Frag) (H:Hp) (a b:Addr) (R:It->Hp->Prop):Prop:=
 ((∃ xs,zt K H a xs)/\(∃ ys,zR K H b ys)/\R (KR K a b) H)\/((∃ xs,zR K H a xs)/\(∃ ys,zR K H b ys)/\R (uu K a b) H)\/((∃ xs,zt K H a xs)/\(∃ ys,zt K H b ys)/\R (Kf K a b) H)\/((∃ xs,zR K H a xs)/\(∃ ys,zt K H b ys)/\R (Kg K a b) H)
def ku (K:PySem.W.Frag) (ta:TA):TI:=λσ H R=>ta σ H λvs H1=>∃ a b,vs=[.ref a,.ref b]/\orZ K H1 a b R
theorem zPH {e1 e2:Expr} {ta:TA} {p pos:Pos} (hg:Gl X "zip") (hm:X.mg "zip" = none) (ha:PA X [e1,e2] ta) (hs:starEach [e1,e2] X.env=[(false,eval e1 X.env),(false,eval e2 X.env)]:=by rfl) (hs2:starEach [e2] X.env=[(false,eval e2 X.env)]:=by rfl) :
  PI X (.Tuple es kk tp) (.Call (.Name "zip" p) [e1,e2] [] pos) (ku X.K ta):=by
 intro pins s σ H R I h
 refine Call_ (jk I hg hm (show bootBuiltins "zip" = some (.type "zip") by decide +kernel) (PyProof.Rows.callWith_type1 (zi (ha pos pins s σ H _ I h) λus s1 ⟨vs,H1,I1,r1,q1⟩=>?_) (by rw [hs,hs2]) (by rw [hs2]; rfl)))
 obtain ⟨a,b,e,q1⟩:=q1
 subst e
 obtain ⟨u,v,rfl,ru,rv⟩:=kH r1
 cases ru
 cases rv
 rcases q1 with ⟨⟨xs,hx⟩,⟨ys,hy⟩,q⟩ | ⟨⟨xs,hx⟩,⟨ys,hy⟩,q⟩ | ⟨⟨xs,hx⟩,⟨ys,hy⟩,q⟩ | ⟨⟨xs,hx⟩,⟨ys,hy⟩,q⟩
 ·obtain ⟨its1,rv1,p1,_⟩:=I1.tuple hx
  obtain ⟨its2,rv2,p2,_⟩:=I1.list hy
  have la:a < s1.heap.objs.size:=by obtain ⟨o,e,_⟩:=p1; exact Heap.lt_size e
  have lb:b < s1.heap.objs.size:=by obtain ⟨o,n,e,_⟩:=p2; exact Heap.lt_size e
  refine zJR p1 p2.isList λh' z1 z2 z3 z4 z5 keep=>wpAny_pyIter_zip z1 ?_
  have I2:zG X pins σ H1 { s1 with heap:=h' }:=I1.kept (t':=s1.toks) keep
  exact ⟨s1.heap.objs.size + 4,[s1.heap.objs.size + 4,s1.heap.objs.size + 2,s1.heap.objs.size + 3,s1.heap.objs.size,s1.heap.objs.size + 1],_,_,H1,rfl,I2,
   zNL (a:=a) (b:=b) (ka _ _ _ la lb) (Nat.ne_of_lt la) (Nat.ne_of_lt (Nat.lt_succ_of_lt lb)),⟨z1,z2,⟨_,_,z3⟩,z4,z5⟩,λc hc=>uv I1 hc,q⟩
 ·obtain ⟨its1,rv1,p1,_⟩:=I1.list hx
  obtain ⟨its2,rv2,p2,_⟩:=I1.list hy
  have la:a < s1.heap.objs.size:=by obtain ⟨o,n,e,_⟩:=p1; exact Heap.lt_size e
  have lb:b < s1.heap.objs.size:=by obtain ⟨o,n,e,_⟩:=p2; exact Heap.lt_size e
  refine call_zip_2 p1.isList p2.isList λh' z1 z2 z3 z4 z5 _ keep=>wpAny_pyIter_zip z1 ?_
  have I2:zG X pins σ H1 { s1 with heap:=h' }:=I1.kept (t':=s1.toks) keep
  exact ⟨s1.heap.objs.size + 4,[s1.heap.objs.size + 4,s1.heap.objs.size + 2,s1.heap.objs.size + 3,s1.heap.objs.size,s1.heap.objs.size + 1],_,_,H1,rfl,I2,
   KW (a:=a) (b:=b) (ka _ _ _ la lb) (Nat.ne_of_lt la) (Nat.ne_of_lt (Nat.lt_succ_of_lt lb)),⟨z1,z2,⟨_,_,z3⟩,z4,z5⟩,λc hc=>uv I1 hc,q⟩
 ·obtain ⟨its1,rv1,p1,_⟩:=I1.tuple hx
  obtain ⟨its2,rv2,p2,_⟩:=I1.tuple hy
  have la:a < s1.heap.objs.size:=by obtain ⟨o,e,_⟩:=p1; exact Heap.lt_size e
  have lb:b < s1.heap.objs.size:=by obtain ⟨o,e,_⟩:=p2; exact Heap.lt_size e
  refine zJQ p1 p2 λh' z1 z2 z3 z4 z5 keep=>wpAny_pyIter_zip z1 ?_
  have I2:zG X pins σ H1 { s1 with heap:=h' }:=I1.kept (t':=s1.toks) keep
  exact ⟨s1.heap.objs.size + 4,[s1.heap.objs.size + 4,s1.heap.objs.size + 2,s1.heap.objs.size + 3,s1.heap.objs.size,s1.heap.objs.size + 1],_,_,H1,rfl,I2,
   zKW (a:=a) (b:=b) (ka _ _ _ la lb) (Nat.ne_of_lt la) (Nat.ne_of_lt (Nat.lt_succ_of_lt lb)),⟨z1,z2,⟨_,_,z3⟩,z4,z5⟩,λc hc=>uv I1 hc,q⟩
 ·obtain ⟨its1,rv1,p1,_⟩:=I1.list hx
  obtain ⟨its2,rv2,p2,_⟩:=I1.tuple hy
  have la:a < s1.heap.objs.size:=by obtain ⟨o,n,e,_⟩:=p1; exact Heap.lt_size e
  have lb:b < s1.heap.objs.size:=by obtain ⟨o,e,_⟩:=p2; exact Heap.lt_size e
  refine zJS p1.isList p2 λh' z1 z2 z3 z4 z5 keep=>wpAny_pyIter_zip z1 ?_
  have I2:zG X pins σ H1 { s1 with heap:=h' }:=I1.kept (t':=s1.toks) keep
  exact ⟨s1.heap.objs.size + 4,[s1.heap.objs.size + 4,s1.heap.objs.size + 2,s1.heap.objs.size + 3,s1.heap.objs.size,s1.heap.objs.size + 1],_,_,H1,rfl,I2,
   zKX (a:=a) (b:=b) (ka _ _ _ la lb) (Nat.ne_of_lt la) (Nat.ne_of_lt (Nat.lt_succ_of_lt lb)),⟨z1,z2,⟨_,_,z3⟩,z4,z5⟩,λc hc=>uv I1 hc,q⟩
def kz (K:PySem.W.Frag):R2:=λx y H Q=>∃ p xs i v,x=.ref p/\y=.int i/\SqE K H p xs/\yU xs i=some v/\Q v H
theorem zPW:Yo X (kz X.K):=by
 intro value slice pins s σ H x y v u Q I rx ry h hs
 obtain ⟨p,xs,i,z,e1,e2,hq,he,q⟩:=h
 rcases hq with hq | hq
 ·exact zQv value slice pins s σ H x y v u Q I rx ry ⟨p,xs,i,z,e1,e2,hq,he,q⟩ hs
 ·exact v6 value slice pins s σ H x y v u Q I rx ry ⟨p,xs,i,z,e1,e2,hq,he,q⟩ hs
end
section
variable {prog:Program} {w:World} {A:Around} {E:Value->Shared->Prop}
theorem Kh {it l:Addr} {xs:Array Value} (ne:l≠it):∀ (m j:Nat) (s:Shared) (R:List Value->Shared->Prop),s.heap.IsListIter it l j->s.heap.IsList l xs->j + m<=xs.size->
  (∀ g,g.IsListIter it l (j + m)->Heap.SameBut it s.heap g->R ((xs.toList.drop j).take m) { s with heap:=g })->wpAny (model prog w) A (draw (.ref it) m) R E s
 | 0,j,s,R,hi,_,_,k=>wpAny_pure (by simpa using k s.heap hi (Heap.SameBut.refl ..))
 | m + 1,j,s,R,hi,hl,le,k=>by
  have lt:j < xs.size:=by omega
  have step:=λg (z:Heap.SameBut it s.heap g)=>(hl.extBut z.extBut ne:g.IsList l xs)
  show wpAny _ _ (pyNext (.ref it) >>= _) R E s
  refine wpAny_bind (wpAny_pyNext_list_item hi hl (x:=xs[j]) (by simp [lt]) λg1 i1 b1=>?_)
  refine wpAny_bind (wpAny_holding (Kh ne m (j + 1) _ _ i1 (step g1 b1) (by omega) λg2 i2 b2=>wpAny_pure ?_))
  have z:=k g2 (by rw [show j + (m + 1)=j + 1 + m by omega]; exact i2) (b1.trans b2)
  rw [show xs.toList.drop j=xs[j] :: xs.toList.drop (j + 1) by simp [List.drop_eq_getElem_cons,lt],List.take_succ_cons] at z
  exact z
theorem zQw {s:Shared} {l:Addr} {xs:Array Value} {R:List Value->Shared->Prop} (hd:A.handled=none) (hl:s.heap.IsList l xs)
  (k:∀ g,Heap.ExtBut s.heap.objs.size s.heap g->R xs.toList { s with heap:=g }):wpAny (model prog w) A (unpackItems (.ref l) xs.size none) R E s:=by
 have ne:l≠s.heap.objs.size:=by
  obtain ⟨o,eo,_⟩:=hl
  exact Nat.ne_of_lt (Heap.lt_size eo)
 unfold unpackItems
 refine wpAny_bind ?_
 unfold notIterableAtAll
 refine wpAny_bind (wpAny_specialOf hl.typeIs slot_list_iter.lookup ?_)
 refine wpAny_pure ?_
 simp only [Bool.false_eq_true,if_false]
 refine wpAny_bind (wpAny_holding (wpAny_pyIter_list hl ?_))
 refine wpAny_bind (wpAny_holding (Kh ne xs.size 0 _ _ ⟨_,Heap.get?_push_size _ rfl,rfl,rfl⟩ (hl.push _) (by omega) λg1 i1 b1=>?_))
 rw [show List.take xs.size (List.drop 0 xs.toList)=xs.toList by rw [List.drop_zero]; exact List.take_of_length_le (by simp),if_neg (by simp)]
 refine wpAny_bind (wpAny_holding (wpAny_pyNext_list_end hd i1 ((hl.push _).extBut b1.extBut ne) (by simp) λg2 x2=>?_))
 simp only [Option.isSome_none,Bool.false_eq_true,if_false]
 exact wpAny_pure (k g2 λc o n e=>x2 c o n (b1.extBut c o n (Heap.get?_push_of_some _ e)))
end
section
variable {X:Cx} {pos:Pos}
def UF (K:PySem.W.Frag) (n:Nat) (t:uq):TG:=λv σ H Q=>∃ a xs,v=.ref a/\zR K H a xs/\xs.length=n/\t xs σ H Q
theorem zQU {es:List Expr} {k:Nat} {t:uq} {n:Nat} (hc:X.calm=true) (h:ql X es t)
  (hn:(assignEach es X.env).length=n:=by rfl) (hst:(assignEach es X.env).findIdx? (·.1)=none:=by rfl):PG X (.Tuple es k pos) (UF X.K n t):=by
 intro pins s σ H v u Q I r hw
 obtain ⟨a,xs,e1,hq,hl,hw⟩:=hw
 subst e1
 cases r
 obtain ⟨its,rv,ht,hz⟩:=I.list hq
 rw [assign_Tuple]
 refine wpAny_bind (wpAny_standAt ?_)
 unfold unpack
 rw [show (assignEach es X.env).length=its.toArray.size by simp [hn,<- hl,rv.length],hst]
 refine wpAny_bind (wpAny_holding (zQw (I.ok.hd hc) ht.isList λg hx=>?_))
 have I1:zG X pins σ H { s with heap:=g }:=I.kept (t':=s.toks) λb o e=>hx b o (Nat.ne_of_lt (Heap.lt_size e)) e
 exact h pins _ σ H xs _ Q I1 (by simpa using rv) hw
end
end L2
namespace L2
open PySem PySem.Spec PyProof.Rows
inductive uN (i:Nat) (σ:St) (H:Hp) (Q:VK):Prop
 | mk (v:V) (_:σ[i]? = some (some v)) (_:Q v H):uN i σ H Q
inductive j6 (x:V) (vs:List V) (H:Hp) (Q:VK):Prop
 | mk (l:Addr) (xs:List V) (y:V) (_:x=.ref l) (_:vs=[y]) (_:H l=some (.lst xs)) (_:xs.length < sizeLine) (_:Q .non (zU H l (.lst (xs++[y])))):j6 x vs H Q
inductive j7 (o i v:V) (H:Hp) (Q:Hp->Prop):Prop
 | mk (p:Addr) (xs:List V) (k:Int) (j:Nat) (_:o=.ref p) (_:i=.int k) (_:H p=some (.lst xs)) (_:wM xs.length k=some j) (_:Q (zU H p (.lst (xs.set j v)))):j7 o i v H Q
section
variable {X:Cx}
theorem yk:KA X "list.append" j6:=λpins s σ H x xs v us Q I rx rv ⟨l,ys,y,h1,h2,h3,h4,q⟩=>zMA pins s σ H x xs v us Q I rx rv ⟨l,ys,y,h1,h2,h3,h4,q⟩
theorem UG:jo X j7:=λpins s σ H o i v ov iv u Q I h1 h2 h3 ⟨p,xs,k,j,a,b,c,d,q⟩=>kO pins s σ H o i v ov iv u Q I h1 h2 h3 ⟨p,xs,k,j,a,b,c,d,q⟩
theorem yT (i:Nat) {x:Str} {pos:Pos} (hN:X.N[i]? = some x:=by rfl) (hv:jD X.env.scope x:=by first | exact Or.inl rfl | exact Or.inr (Or.inl rfl) | exact Or.inr (Or.inr rfl)) (hd:(x == ("__debug__" : Str))=false:=by decide)
  (hcd:(x == ("__classdict__" : Str))=false:=by decide):PE X (.Name x pos) (uN i):=λpins s σ H Q I ⟨v,e,h⟩=>WY hN hv hd hcd pins s σ H Q I ⟨v,e,h⟩
end
end L2
namespace Sh
open PySem L2
def vO (H:Hp) (v:V) (r:List Int):Prop:=∃ a,v=.ref a/\H a=some (.lst (r.map V.int))
abbrev ym (H:Hp) (vs:List V) (tab:List (List Int)):Prop:=Paired (vO H) vs tab
theorem vO.same {H H':Hp} {v:V} {r:List Int} (s:zF H H') (h:vO H v r):vO H' v r:=let ⟨a,e,q⟩:=h; ⟨a,e,s _ _ q⟩
theorem ym.same {H H':Hp} {vs:List V} {tab:List (List Int)} (s:zF H H') (h:ym H vs tab):ym H' vs tab:=Paired.mapP h λ_ _ z=>z.same s
def Ki (p:Addr) (H H':Hp):Prop:=∀ b o,H b=some o->b≠p->H' b=some o
structure MD where
 rows:List (List Int)
 nexts:List (List Int)
 steer:List Int
 push:List (List Int)
 add:List Int
 div:Int
structure yb (m:MD) (n p:Nat):Prop where
 rows:∀ r∈m.rows,r.length=n + 1
 few:m.rows.length<=900
 nexts:m.nexts.length=n/\∀ r∈m.nexts,r.length=n
 steer:m.steer.length=n
 push:m.push.length=n/\∀ r∈m.push,r.length=p
 add:m.add.length=n
 div:1<=m.div
 n3:n<=3
 p6:p<=12
def k6 (r n s p a:V) (d:Int):List (Str × V):=[("rows",r),("nexts",n),("steer",s),("push",p),("add",a),("divisor",.int d)]
structure Kj (C:Addr) (H:Hp) (o:Addr) (m:MD) where
 dx:Addr
 r:Addr
 rv:List V
 n:Addr
 nv:List V
 s:Addr
 p:Addr
 pv:List V
 a:Addr
structure Kj.Ok {C:Addr} {H:Hp} {o:Addr} {m:MD} (M:Kj C H o m):Prop where
 ins:H o=some (.ins C M.dx (k6 (.ref M.r) (.ref M.n) (.ref M.s) (.ref M.p) (.ref M.a) m.div))
 hr:H M.r=some (.lst M.rv)
 hrv:kh H M.rv m.rows
 hn:H M.n=some (.lst M.nv)
 hnv:ym H M.nv m.nexts
 hs:H M.s=some (.lst (m.steer.map V.int))
 hp:H M.p=some (.lst M.pv)
 hpv:ym H M.pv m.push
 ha:H M.a=some (.lst (m.add.map V.int))
structure we (n:Nat) (bs:List (Int × Int)) (ms:List MD):Prop where
 n1:1<=n
 n3:n<=3
 bok:∀ b∈bs,b.1<=b.2
 b6:bs.length<=6
 m1:1<=ms.length
 m40:ms.length<=40
 mok:∀ m∈ms,yb m n bs.length
theorem UH {K:PySem.W.Frag} {C:Addr}:PySem.W.kitOne K (.ref C) (.ref C)=some true:=by
 unfold PySem.W.kitOne
 rw [if_pos (by simp)]
end Sh
namespace Sh
open PySem L2
def off (B:List Addr) (H H':Hp):Prop:=∀ b o,H b=some o->b∉B->H' b=some o
def yL (B:List Addr) (H:Hp):Hp:=λb=>if b∈B then none else H b
theorem v8 {B:List Addr} {H:Hp}:zF (yL B H) H:=λb o h=>by
 unfold yL at h
 by_cases e:b∈B
 ·rw [if_pos e] at h; cases h
 ·rw [if_neg e] at h; exact h
theorem gG {B:List Addr} {H:Hp} {b:Addr} (e:b∉B):yL B H b=H b:=by unfold yL; rw [if_neg e]
theorem zPZ {B:List Addr} {H:Hp} {b:Addr} (e:b∈B):yL B H b=none:=by unfold yL; rw [if_pos e]
theorem zOD {B:List Addr} {H:Hp} {b:Addr} {o:HO} (h:yL B H b=some o):b∉B:=λe=>by rw [zPZ e] at h; cases h
theorem zOC {B:List Addr} {H H':Hp} (s:off B H H'):zF (yL B H) (yL B H'):=λb o h=>by
 have e:=zOD h
 rw [gG e] at h |-
 exact s _ _ h e
theorem k7 {B:List Addr} {H H':Hp} (s:zF H H'):zF (yL B H) (yL B H'):=zOC λb o h _=>s _ _ h
theorem zNa {H H1 H2:Hp} {x:Addr} (s:zF H H1) (b:Ki x H1 H2) (n:H x=none):zF H H2:=λc o e=>b _ _ (s _ _ e) (wb e n)
theorem zLc {H:Hp} {x dx:Addr} (hx:H x=none) (hdx:H dx=none) (ne:dx≠x) (u o:HO):zF H (zU (zU H dx u) x o):=
 (xL hdx _).trans (xL ((zr (Ne.symm ne)).trans hx) _)
end Sh
namespace L2
open PySem PySem.Spec PyProof.Rows
section
variable {X:Cx} {e:Expr}
end
theorem zH.no {P:Program} {w:World} {K:PySem.W.Frag} {mg:Str->Option Value} {base:Heap} {CX:vk} {k:Nat} {f:Addr} {fd:FuncData} {ps:List Str} {sp:Sp} (hn:∀ vs H Q E,¬ sp vs H Q E):zH P w K mg base CX k f fd ps sp:=
 ⟨λ_ _ _ _ h=>(hn _ _ _ _ h).elim,λ_ _ _ _ _ _ _ _ _ _ _ _ _ h=>(hn _ _ _ _ h).elim⟩
end L2
namespace Sh
inductive RT where
 | str (ns:List Int) (a d:Int)
 | stp (t:RT) (lo hi:Int)
 | prt (row:List Int) (x y:RT)
def RT.dep:RT->Nat
 | .str _ _ _=>1
 | .stp t _ _=>t.dep + 1
 | .prt _ x y=>max x.dep y.dep + 1
def RT.rows:RT->List (List Int)
 | .str _ _ _=>[]
 | .stp t _ _=>t.rows
 | .prt r x y=>[r]++x.rows++y.rows
def xJ (pts:List (Int × Int)):RT->Int × Int
 | .str ns a d=>(W1 ((jI ns pts).1 + a * (jI ns pts).2) ((jI ns pts).2 * d),W2 ((jI ns pts).1 + a * (jI ns pts).2) ((jI ns pts).2 * d))
 | .stp t lo hi=>if (xJ pts t).1 < lo * (xJ pts t).2 then (lo,1) else if hi * (xJ pts t).2 < (xJ pts t).1 then (hi,1) else xJ pts t
 | .prt row x y=>if (jI (row.take pts.length) pts).1<=row.getD pts.length 0 * (jI (row.take pts.length) pts).2 then xJ pts x else xJ pts y
end Sh
namespace Sh
open PySem L2
end Sh
namespace Sh
open PySem L2
end Sh
namespace L2
open PySem PySem.Spec PyProof.Rows Sh
section
variable {X:Cx}
inductive Kk (K:PySem.W.Frag) (x y:V) (H:Hp) (Q:VK):Prop
 | mk (a b:Addr) (xs ys:List V) (_:x=.ref a) (_:y=.ref b) (_:H a=some (.tup xs)) (_:H b=some (.tup ys)) (_:xs≠[]) (_:xs.length + ys.length<=sizeLine) (_:∀ p H',zF H H'->H' p=some (.tup (xs++ys))->Q (.ref p) H'):Kk K x y H Q
theorem zPL:xD X (binaryOp .Add) (Kk X.K):=by
 intro pins s σ H x y v u Q I rx ry h
 obtain ⟨a,b,xs,ys,rfl,rfl,ha,hb,hne,hz,q⟩:=h
 exact zPM pins s σ H _ _ v u Q I rx ry ⟨a,b,xs,ys,rfl,rfl,zt.of ha,zt.of hb,hne,hz,λz=>q a H (zF.refl _) (ha.trans (by rw [z,List.append_nil])),λ_ p hp=>q p _ (xL hp _) xM⟩
end
end L2
namespace Sh
def zw (r:List Int):List Int:=r.map λx=>-x
section
variable {pts:List (Int × Int)} (hp:∀ p∈pts,0 < p.2)
include hp
end
end Sh
namespace Sh
open PySem L2
structure yu (K:PySem.W.Frag) (C1 C2 C3:Addr):Prop where
 k21:PySem.W.kitOne K (.ref C2) (.ref C1)=some false
 k31:PySem.W.kitOne K (.ref C3) (.ref C1)=some false
 k12:PySem.W.kitOne K (.ref C1) (.ref C2)=some false
 k32:PySem.W.kitOne K (.ref C3) (.ref C2)=some false
 k13:PySem.W.kitOne K (.ref C1) (.ref C3)=some false
end Sh
namespace Sh
open PySem L2
end Sh
namespace L2
open PySem PySem.Spec PyProof.Rows
abbrev UI:=Array Value->Option Addr->Prop
def UJ (base:Heap) (l:List Env) (e:Addr) (cls:Value) (P:UI) (fl:Value) (h:Heap):Prop:=
 base.StaysIn h/\base.get? e=none/\h.FunFrames base l/\∃ (oe:Obj) (vs:Array Value) (T:Addr) (oT:Obj) (ts:Array Value),h.get? e=some oe/\oe.cls=cls/\oe.data=.fields vs/\P vs oe.dict/\vs[1]? = some (.ref T)/\base.get? T=none/\T≠e/\h.get? T=some oT/\oT.data=.fields ts/\ts[3]? = some fl
section
variable {M:Model} {A:Around} {E:Value->Shared->Prop} {s:Shared} {base:Heap} {env:Env} {outer:List Env} {L e:Addr} {cls:Value} {P:UI} {Q:Unit->Shared->Prop} {oe:Obj} {vs:Array Value}
end
def P0:UI:=λvs _=>vs[2]? = some .none
end L2
namespace L2
open PySem PySem.Spec PyProof.Rows
section
variable {P:Program} {w:World} {H:Hp} {h:Heap} {a:Addr}
end
structure XL (P:Program) (w:World) (outer:List Env) (H H':Hp) (s s':Shared) (B:Heap) (e:Addr) (cls a0:Value):Prop where
 os:s'.os=s.os
 bare:AllBare s'.gens
 keep:∀ b o,s.heap.get? b=some o->H b=none->b∉wq outer->B.get? b=some o
 slot:∀ b o,s.heap.get? b=some o->H b=none->b∈wq outer->∃ sl,s'.heap.get? b=some { o with slots:=sl }
 free:∀ b o,s.heap.get? b=some o->H b=none->H' b=none
 there:∀ b o,s.heap.get? b=some o->b∉wq outer->∃ o',B.get? b=some o'
 tups:∀ b xs,H b=some (.tup xs)->H' b=some (.tup xs)
 frzs:∀ b o u,H b=some (.frz o u)->H' b=some (.frz o u)
 tbls:∀ b ps,H b=some (.tbl ps)->∃ more,H' b=some (.tbl (ps++more))
 hok:xN P w H' B
 fly:UJ B outer e cls P0 .none s'.heap
section
variable {P:Program} {w:World} {outer:List Env} {H H':Hp} {s s':Shared} {B:Heap} {e:Addr} {cls a0:Value}
end
section
variable {P:Program} {w:World} {K:PySem.W.Frag} {mg:Str->Option Value} {base:Heap} {N:List Str} {qual:Str} {scope:Scope} {f:Addr} {cd:Value} {A:Around} {outer:List Env} {s:Shared} {H:Hp} {E:XK}
end
section
variable {P:Program} {w:World} {K:PySem.W.Frag} {mg:Str->Option Value} {base:Heap}
end
section
variable {X:Cx}
end
section
variable {X:Cx} {pins:List (Addr × Obj)} {σ:St} {H:Hp} {s:Shared} {e:Addr}
end
end L2
namespace L2
open PySem PySem.Spec PyProof.Rows
def XP (X:Cx) (pins:List (Addr × Obj)) (ES:St->XK) (ev:Value) (s':Shared):Prop:=
 ∃ (σ1:St) (s1:Shared) (H1 H2:Hp) (e:Addr) (cls a0:Value) (B:Heap),zG X pins σ1 H1 s1/\ev=.ref e/\XL X.prog X.w X.stack H1 H2 s1 s' B e cls a0/\ES σ1 cls none H2
section
variable {X:Cx} {call:Expr} {tb:XK->TE} {pos pos':Pos}
end
end L2
namespace L2
open PySem PySem.Spec PyProof.Rows
section
variable {X:Cx} {C:Addr} {m x:Str} {ps:List Str} {k:Nat} {sp:Sp} {o e:Expr} {es:List Expr} {ta:TE} {t:TA} {p pos apos:Pos}
end
section
variable {P:Program} {w:World} {K:PySem.W.Frag} {mg:Str->Option Value} {base:Heap} {N:List Str} {qual:Str} {scope:Scope} {f:Addr} {cd:Value} {A:Around} {outer:List Env} {s:Shared} {H:Hp} {E:XK}
variable {C:Addr} {m x:Str} {ps:List Str} {k:Nat} {sp:Sp} {o e:Expr} {es:List Expr} {ta:TE} {t:TA} {p pos apos:Pos}
end
end L2
namespace L2
open PySem PySem.Spec PyProof.Rows
section
variable {P:Program} {w:World} {K:PySem.W.Frag} {mg:Str->Option Value} {base:Heap} {k:Nat} {f C:Addr} {fd:FuncData} {x m:Str} {ps:List Str} {sp:Sp}
end
end L2
namespace L2
open PySem PySem.Spec PyProof.Rows PySem.Builtin PySem.Builtin.ObjectAttr PySem.Builtin.Getset_descriptor
section
variable {prog:Program} {w:World} {A:Around} {E:Value->Shared->Prop} {K:PySem.W.Frag} {s:Shared} {e C:Addr} {oe:Obj}
end
section
variable {X:Cx}
end
end L2
namespace Sh
open PySem L2
inductive AK where
 | int (i:Int)
 | bool (b:Bool)
 | non
 | str (x:Str)
 | dic
 | lst (as:List AK)
 | tup (as:List AK)
 | mode (r n s p a d:AK)
def AK.isInt:AK->Bool
 | .int _=>true
 | .bool _=>true
 | _=>false
def AK.isBool:AK->Bool
 | .bool _=>true
 | _=>false
def AK.isLst:AK->Bool
 | .lst _=>true
 | _=>false
def AK.isTup:AK->Bool
 | .tup _=>true
 | _=>false
inductive k9 where
 | made | bad | many
def k9.str:k9->Str
 | .made=>"made"
 | .bad=>"bad"
 | .many=>"many"
end Sh
namespace HT
open PySem PySem.Spec PyProof.Rows
section
variable {prog:Program} {w:World} {A:Around} {E:Value->Shared->Prop} {s:Shared}
theorem cat_tup0 {t b:Addr} {vs ws:List Value} {Q:Value->Shared->Prop} (ht:IsTup s.heap t vs.toArray) (hb:IsTup s.heap b ws.toArray) (hv:vs=[]) (h0:Q (.ref b) s):wpAny (model prog w) A (binaryOp .Add (.ref t) (.ref b)) Q E s:=by
 obtain ⟨⟨cls,dd,data,sl⟩,ho,hc,n,hd⟩:=id ht
 obtain ⟨⟨cls2,dd2,data2,sl2⟩,ho2,hc2,n2,hd2⟩:=id hb
 simp only at hc hd hc2 hd2
 subst hc hd hc2 hd2
 exact concat_meets ⟨_,ho,rfl⟩ ⟨_,ho2,rfl⟩ noFill_tuple_add seq_tuple_add PySem.F.slot_tuple_add PySem.F.entry_tuple_add (PySem.F.args_tuple_add_2 _ _)
  (tuple_addW0 t b vs.toArray ws.toArray n n2 dd dd2 sl sl2 (by simp [hv])) ⟨ho,ho2,h0⟩
theorem getItem_tuple_all {t sl:Addr} {items:Array Value} {vl vu:Value} {lo hi:Option Int} {Q:Value->Shared->Prop} (ht:IsTup s.heap t items) (hs:s.heap.IsSliceOf sl vl vu .none) (pl:IsPart vl lo) (pu:IsPart vu hi)
  (hw:sIx items.size 0 lo=0/\sIx items.size items.size hi=items.size) (h:Q (.ref t) s):wpAny (model prog w) A (getItem (.ref t) (.ref sl)) Q E s:=by
 obtain ⟨os,hos,hcs,hds⟩:=id hs
 have hTs:s.TypeIs (.ref sl) "slice":=⟨os,hos,hcs⟩
 unfold getItem
 try with_reducible refine wpAny_holding ?_
 first | refine wpAny_bind (wpAny_pure ?_) | skip
 refine wpAny_bind (wpAny_sequenceKey ht.typeIs (by decide) ?_)
 refine wpAny_bind (wpAny_callSpecial?_slot (name:=Str.ofString "__getitem__") ht.typeIs PyProof.Rows.slot_tuple_getitem
  (wpAny_call_entry PyProof.Rows.slot_tuple_getitem ht.typeIs entry_tuple_getitem ?_ (args_tuple_getitem _ _)))
 show wpAny _ _ (Builtin.Tuple.tupleItemsOf (.ref t) >>= _) _ _ s
 refine wpAny_bind (tupleItemsOf_ ht ?_)
 refine wpAny_bind (wpAny_typeOf hTs ?_)
 rw [if_pos (by decide)]
 refine wpAny_bind (Q2 hs pl pu ?_)
 have hyes:(((sIx items.size 0 lo:Nat):Int) == 0 && (1:Int) == 1 && (sIx items.size items.size hi - sIx items.size 0 lo) == items.size)=true:=by
  rw [hw.1,hw.2]
  simp
 show wpAny _ _ (if (((sIx items.size 0 lo:Nat):Int) == 0 && (1:Int) == 1 && (sIx items.size items.size hi - sIx items.size 0 lo) == items.size)=true then _ else _) _ _ s
 rw [if_pos hyes]
 unfold Builtin.Tuple.tupleIsExact
 refine wpAny_bind (wpAny_bind (wpAny_typeOf ht.typeIs (wpAny_pure ?_)))
 rw [if_pos (by decide)]
 refine wpAny_bind (wpAny_rule ?_)
 exact wpAny_pure ⟨_,rfl,wpAny_pure h⟩
end
end HT
namespace L2
open PySem PySem.Spec PyProof.Rows
section
variable {X:Cx}
inductive UK (x y:V) (H:Hp) (Q:VK):Prop
 | mk (a b:Addr) (xs ys:List V) (_:x=.ref a) (_:y=.ref b) (_:H a=some (.tup xs)) (_:H b=some (.tup ys)) (_:xs.length + ys.length<=sizeLine) (_:∀ p H',zF H H'->H' p=some (.tup (xs++ys))->Q (.ref p) H'):UK x y H Q
theorem ZA:xD X (binaryOp .Add) UK:=by
 intro pins s σ H x y v u Q I rx ry h
 obtain ⟨a,b,xs,ys,rfl,rfl,ha,hb,hz,q⟩:=h
 by_cases hne:xs=[]
 ·subst hne
  cases rx
  cases ry
  obtain ⟨its,r1,p1,_⟩:=I.tuple (zt.of ha)
  obtain ⟨its2,r2,p2,_⟩:=I.tuple (zt.of hb)
  exact HT.cat_tup0 p1 p2 (r1.nil_iff.mpr rfl) ⟨.ref b,H,I,rfl,q b H (zF.refl _) hb⟩
 ·exact zPL pins s σ H _ _ v u Q I rx ry ⟨a,b,xs,ys,rfl,rfl,ha,hb,hne,hz,q⟩
inductive ZB (x:V) (lo hi:Option Int) (H:Hp) (Q:VK):Prop
 | mk (a:Addr) (xs:List V) (_:x=.ref a) (_:H a=some (.tup xs)) (_:∀ p H',zF H H'->H' p=some (.tup (wc xs lo hi))->Q (.ref p) H'):ZB x lo hi H Q
theorem zN9:jt X ZB:=by
 intro pins s σ H x v vl vu lo hi sl Q I rx hs pl pu h
 obtain ⟨a,xs,rfl,hx,q⟩:=h
 by_cases hw:HT.sIx xs.length 0 lo=0/\HT.sIx xs.length xs.length hi=xs.length
 ·cases rx
  obtain ⟨its,r,ht,hz⟩:=I.tuple (zt.of hx)
  have hlen:its.toArray.size=xs.length:=by rw [List.size_toArray]; exact r.length.symm
  refine ⟨"tuple",_,PyProof.Rows.slot_tuple_getitem.lookup,ht.typeIs,?_⟩
  refine HT.getItem_tuple_all ht hs pl pu (by rw [hlen]; exact hw) ⟨.ref a,H,I,rfl,q a H (zF.refl _) (hx.trans ?_)⟩
  unfold wc
  rw [hw.1,hw.2,List.drop_zero,Nat.sub_zero,List.take_length]
 ·exact zP9 pins s σ H _ v vl vu lo hi sl Q I rx hs pl pu ⟨a,xs,rfl,zt.of hx,hw,λp hp=>q p _ (Sh.xL hp _) xM⟩
end
end L2
set_option linter.all false
namespace Sh
def bt:List (Int × Int)->Int
 | []=>1
 | p :: ps=>p.2 * bt ps
def tp:List Int->List (Int × Int)->Int
 | w :: ws,p :: ps=>w * p.1 * bt ps + p.2 * tp ws ps
 | _,_=>0
def zN:List Int->List Int->Int
 | r :: rs,a :: as=>r * a + zN rs as
 | _,_=>0
def zL (nums:List Int) (ls:List (List Int)) (j:Nat):Int:=((nums.zip ls).map λq=>q.1 * q.2.getD j 0).sum
theorem ua (r:Int) (rs:List Int) (c:List Int) (cs:List (List Int)) (j:Nat):zL (r :: rs) (c :: cs) j=r * c.getD j 0 + zL rs cs j:=by
 simp only [zL,List.zip_cons_cons,List.map_cons,List.sum_cons]
end Sh
set_option linter.all false
namespace Sh
def yw (pl:Int) (n:Nat) (nu:Int):List Int:=(List.range n).map λ(i:Nat)=>if (i:Int)=pl then nu else 0
theorem ub (pl:Int) (n:Nat) (nu:Int):(yw pl n nu).length=n:=by
 unfold yw
 rw [List.length_map,List.length_range]
def wH (n p:Nat) (r:List Int):List Int:=(r.take n++List.replicate p 0)++[r.getD n 0]
def vo (n p:Nat) (i:Nat) (b:Int × Int):List (List Int):=[yw ((n + i:Nat):Int) (n + p) 1++[b.2],yw ((n + i:Nat):Int) (n + p) (-1)++[-b.1]]
def vp (n:Nat) (bs:List (Int × Int)) (rows:List (List Int)):List (List Int):=rows.map (wH n bs.length)++(bs.mapIdx (vo n bs.length)).flatten
theorem zLL {j n:Nat} {x:Int}:(List.replicate n (0:Int)).set j x=yw (j:Int) n x:=by
 refine List.ext_getElem (by simp [yw]) λi h1 h2=>?_
 simp only [yw,List.getElem_set,List.getElem_replicate,List.getElem_map,List.getElem_range]
 by_cases e:j=i
 ·simp [e]
 ·rw [if_neg e,if_neg (by omega)]
theorem zNJ {j n:Nat} {x:Int} (h:j < n):yw (j:Int) n x=List.replicate j 0++x :: List.replicate (n - j - 1) 0:=by
 rw [<- zLL]
 refine List.ext_getElem (by simp; omega) λi h1 h2=>?_
 simp only [List.getElem_set,List.getElem_replicate,List.getElem_append,List.length_replicate,List.getElem_cons]
 split
 ·rename_i e
  rw [dif_neg (by omega),dif_pos (by omega)]
 ·split
  ·rfl
  ·rw [dif_neg (by omega)]
def hB (pts:List (Int × Int)) (ws:List Int) (b:Int):Bool:=decide (tp ws pts<=b * bt pts)
def hR (pts:List (Int × Int)) (r:List Int):Bool:=hB pts (r.take pts.length) (r.getD pts.length 0)
end Sh
set_option linter.all false
namespace Sh
def yc (T O:List (List Int)) (w:Nat):List (List Int):=T.map λns=>(List.range w).map (zL ns O)
def vZ (n:Nat):List (List Int):=(List.range n).map λ(i:Nat)=>yw (i:Int) n 1
theorem jQ:∀ (ns:List Int) (ls:List (List Int)) (j:Nat),zL ns ls j=zN ns (ls.map λr=>r.getD j 0)
 | [],_,_=>by simp [zL,zN]
 | _ :: _,[],_=>by simp [zL,zN]
 | n :: ns,l :: ls,j=>by rw [ua,List.map_cons,jQ ns ls j]; rfl
theorem Kl {α:Type} (x:Int) (f g:α->Int):∀ (l:List α) (v:List Int),zN (l.map λj=>x * f j + g j) v=x * zN (l.map f) v + zN (l.map g) v
 | [],_=>by simp [zN]
 | _ :: _,[]=>by simp [zN]
 | a :: l,y :: v=>by
  simp only [List.map_cons,zN,Kl x f g l v]
  grind
theorem UL {α:Type}:∀ (l:List α) (v:List Int),zN (l.map λ_=>(0:Int)) v=0
 | [],_=>by simp [zN]
 | _ :: _,[]=>by simp [zN]
 | a :: l,y :: v=>by
  simp only [List.map_cons,zN,UL l v]
  grind
theorem XC {a:List Int} {k:Nat} (h:a.length=k):(List.range k).map (λj=>a.getD j 0)=a:=by
 refine List.ext_getElem (by simp [h]) λi h1 h2=>?_
 simp only [List.getElem_map,List.getElem_range,List.getD_eq_getElem?_getD,List.getElem?_eq_getElem h2]
 rfl
theorem XD {k:Nat} {v:List Int}:∀ (r:List Int) (A:List (List Int)),(∀ a∈A,a.length=k)->zN ((List.range k).map (zL r A)) v=zN r (A.map λa=>zN a v)
 | [],A,_=>by
  rw [show (zL ([]:List Int) A)=λ_=>(0:Int) from funext λj=>by simp [zL],UL]
  simp [zN]
 | x :: r,[],_=>by
  rw [show (zL (x :: r) [])=λ_=>(0:Int) from funext λj=>by simp [zL],UL]
  simp [zN]
 | x :: r,a :: A,h=>by
  rw [show (zL (x :: r) (a :: A))=λj=>x * a.getD j 0 + zL r A j from funext λj=>ua x r a A j,Kl,XC (h a (by simp)),XD r A λc m=>h c (by simp [m])]
  rfl
theorem j8 {f g:Nat->Int} {n:Nat} (h:∀ j,j < n->f j=g j):(List.range n).map f=(List.range n).map g:=List.map_congr_left λj m=>h j (List.mem_range.mp m)
theorem jR {f:Nat->Int} {n j:Nat} (h:j < n):((List.range n).map f).getD j 0=f j:=by
 rw [List.getD_eq_getElem?_getD,List.getElem?_map,List.getElem?_range h]
 rfl
theorem ZC {k w:Nat} {A B:List (List Int)} (hA:∀ a∈A,a.length=k) (x:List Int):(List.range w).map (zL ((List.range k).map (zL x A)) B)=(List.range w).map (zL x (yc A B w)):=by
 refine j8 λj hj=>?_
 rw [jQ,XD x A hA,jQ x]
 unfold yc
 rw [List.map_map]
 congr 1
 refine List.map_congr_left λa _=>?_
 show _=((List.range w).map (zL a B)).getD j 0
 rw [jR hj,jQ]
theorem UM {k w:Nat} {X A B:List (List Int)} (hA:∀ a∈A,a.length=k):yc (yc X A k) B w=yc X (yc A B w) w:=by
 unfold yc
 rw [List.map_map]
 exact List.map_congr_left λx _=>ZC hA x
theorem Km:∀ (k:Nat) (v:List Int),zN (List.replicate k (0:Int)) v=0
 | 0,_=>by simp [zN]
 | _ + 1,[]=>by simp [zN,List.replicate_succ]
 | k + 1,y :: v=>by
  simp only [List.replicate_succ,zN,Km k v]
  grind
theorem Kn (k:Nat):∀ (i:Nat) (v:List Int),i < v.length->zN (List.replicate i 0++1 :: List.replicate k 0) v=v.getD i 0
 | 0,y :: v,_=>by
  simp only [List.replicate_zero,List.nil_append,zN,Km]
  show _=y
  omega
 | i + 1,y :: v,h=>by
  simp only [List.replicate_succ,List.cons_append,zN,Kn k i v (by simpa using h)]
  show _=v.getD i 0
  omega
 | _,[],h=>by simp at h
theorem UN {n i:Nat} {v:List Int} (h:v.length=n) (hi:i < n):zN (yw (i:Int) n 1) v=v.getD i 0:=by
 rw [zNJ hi]
 exact Kn _ i v (by omega)
theorem Ko:∀ (a b:List Int),zN a b=zN b a
 | [],b=>by cases b <;> simp [zN]
 | _ :: _,[]=>by simp [zN]
 | x :: a,y :: b=>by
  simp only [zN,Ko a b]
  grind
theorem zLK {n j:Nat} (h:j < n):(vZ n).map (λr=>r.getD j 0)=yw (j:Int) n 1:=by
 unfold vZ
 rw [List.map_map]
 unfold yw
 refine List.map_congr_left λi _=>?_
 show ((List.range n).map λ(k:Nat)=>if (k:Int)=(i:Int) then (1:Int) else 0).getD j 0=_
 rw [jR h]
 by_cases e:(j:Int)=(i:Int)
 ·rw [if_pos e,if_pos e.symm]
 ·rw [if_neg e,if_neg (λz=>e z.symm)]
theorem zNc {n:Nat} {x:List Int} (h:x.length=n):(List.range n).map (zL x (vZ n))=x:=by
 refine Eq.trans (j8 λj hj=>?_) (XC h)
 rw [jQ,zLK hj,Ko,UN h hj]
theorem zLI {n:Nat} {f:List Int->List Int} {X:List (List Int)} (hX:X.length=n) (hf:∀ i,i < n->f (yw (i:Int) n 1)=X.getD i []):(vZ n).map f=X:=by
 unfold vZ
 rw [List.map_map]
 refine List.ext_getElem (by simp [hX]) λi h1 h2=>?_
 simp only [List.getElem_map,List.getElem_range,Function.comp]
 rw [hf i (by omega),List.getD_eq_getElem?_getD,List.getElem?_eq_getElem h2]
 rfl
theorem Kp {n w:Nat} {X:List (List Int)} (hX:X.length=n) (h:∀ x∈X,x.length=w):yc (vZ n) X w=X:=by
 refine zLI hX λi hi=>?_
 have lt:i < X.length:=by omega
 have e:X.getD i []=X[i]:=by rw [List.getD_eq_getElem?_getD,List.getElem?_eq_getElem lt]; rfl
 rw [e]
 refine Eq.trans (j8 λj hj=>?_) (XC (h X[i] (List.getElem_mem _)))
 rw [jQ,UN (by rw [List.length_map,hX]) hi,List.getD_eq_getElem?_getD,List.getElem?_map,List.getElem?_eq_getElem lt]
 rfl
theorem zLJ {n:Nat} {v:List Int} (h:v.length=n):(vZ n).map (λr=>zN r v)=v:=by
 unfold vZ
 rw [List.map_map]
 refine Eq.trans (List.map_congr_left λi hi=>?_) (XC h)
 exact UN h (List.mem_range.mp hi)
theorem zOJ {n:Nat} {T B:List (List Int)} {v:List Int} (hT:∀ r∈T,r.length=n) (e:yc B T n=vZ n) (h:v.length=n):B.map (λns=>zN ns (T.map λq=>zN q v))=v:=by
 have:B.map (λns=>zN ns (T.map λq=>zN q v))=(yc B T n).map (λr=>zN r v):=by
  unfold yc
  rw [List.map_map]
  exact List.map_congr_left λr _=>(XD r T hT).symm
 rw [this,e,zLJ h]
def Sg (n:Nat) (f:Nat->Int):Int:=((List.range n).map f).sum
theorem gH (n:Nat) (f:Nat->Int):Sg (n + 1) f=Sg n f + f n:=by
 unfold Sg
 rw [List.range_succ,List.map_append,List.sum_append]
 simp
theorem Kq (f:Nat->Int):Sg 0 f=0:=rfl
theorem v9 {n:Nat} {f g:Nat->Int} (h:∀ k,k < n->f k=g k):Sg n f=Sg n g:=by
 unfold Sg
 rw [j8 h]
theorem jS (x:Int) (f g:Nat->Int):∀ n,Sg n (λk=>f k + x * g k)=Sg n f + x * Sg n g
 | 0=>by simp [Kq]
 | n + 1=>by
  rw [gH,gH,gH,jS x f g n]
  grind
theorem XE (x:Int) {i:Nat}:∀ n,Sg n (λk=>if k=i then x else 0)=if i < n then x else 0
 | 0=>by simp [Kq]
 | n + 1=>by
  rw [gH,XE x n]
  by_cases e:n=i
  ·subst e
   simp
  ·rw [if_neg e]
   by_cases c:i < n
   ·rw [if_pos c,if_pos (by omega)]; omega
   ·rw [if_neg c,if_neg (by omega)]; omega
def uA (n:Nat) (t b:Nat->Nat->Int):Prop:=∀ r c,r < n->c < n->Sg n (λk=>t r k * b k c)=if r=c then 1 else 0
def yx (i j:Nat) (y:Int) (t:Nat->Nat->Int) (r k:Nat):Int:=if r=i then t i k + y * t j k else t r k
def yQ (i j:Nat) (y:Int) (b:Nat->Nat->Int) (k c:Nat):Int:=if c=j then b k j - y * b k i else b k c
def yn (i:Nat) (t:Nat->Nat->Int) (r k:Nat):Int:=if r=i then 0 - t i k else t r k
def yo (i:Nat) (b:Nat->Nat->Int) (k c:Nat):Int:=if c=i then 0 - b k i else b k c
theorem zPY {n i j:Nat} {y:Int} {t b:Nat->Nat->Int} (h:uA n t b) (hi:i < n) (hj:j < n) (ne:i≠j):uA n (yx i j y t) (yQ i j y b):=λr c hr hc=>by
 have col:∀ r,r < n->∀ x:Nat->Int,(∀ k,x k=t r k)->Sg n (λk=>x k * yQ i j y b k c)=(if r=c then 1 else 0) + (if c=j then -y else 0) * (if r=i then 1 else 0):=λr hr x hx=>by
  by_cases cj:c=j
  ·have e1:=h r j hr hj
   have e2:=h r i hr hi
   rw [v9 (g:=λk=>t r k * b k j + (-y) * (t r k * b k i)) (λk _=>by rw [hx]; unfold yQ; rw [if_pos cj]; grind),jS,e1,e2,cj,if_pos rfl]
  ·rw [v9 (g:=λk=>t r k * b k c) (λk _=>by rw [hx]; unfold yQ; rw [if_neg cj]),h r c hr hc,if_neg cj]
   omega
 by_cases ri:r=i
 ·have e1:=col i hi (t i) (λ_=>rfl)
  have e2:=col j hj (t j) (λ_=>rfl)
  rw [v9 (g:=λk=>t i k * yQ i j y b k c + y * (t j k * yQ i j y b k c)) (λk _=>by unfold yx; rw [if_pos ri]; grind),jS,e1,e2,ri]
  clear e1 e2 col
  have h0:(if i=i then (1:Int) else 0)=1:=if_pos rfl
  have h1:(if j=i then (1:Int) else 0)=0:=if_neg (λz=>ne z.symm)
  rw [h0,h1]
  by_cases cj:c=j
  ·rw [if_pos cj,if_pos cj.symm]; grind
  ·rw [if_neg cj,if_neg (λz:j=c=>cj z.symm)]; grind
 ·rw [v9 (g:=λk=>t r k * yQ i j y b k c) (λk _=>by unfold yx; rw [if_neg ri]),col r hr (t r) (λ_=>rfl),if_neg ri]
  omega
theorem zOB {n i j:Nat} {y:Int} {t b:Nat->Nat->Int} (h:uA n b t) (hi:i < n) (hj:j < n) (ne:i≠j):uA n (yQ i j y b) (yx i j y t):=λr c hr hc=>by
 have e:∀ k,yQ i j y b r k * yx i j y t k c=(b r k * t k c + 1 * (if k=i then y * (b r i * t j c) else 0)) + (-1) * (if k=j then y * (b r i * t j c) else 0):=λk=>by
  unfold yQ yx
  by_cases ki:k=i
  ·rw [if_neg (λz=>ne (ki.symm.trans z)),if_pos ki,if_pos ki,if_neg (λz=>ne (ki.symm.trans z)),ki]; grind
  ·by_cases kj:k=j
   ·rw [if_pos kj,if_neg ki,if_neg ki,if_pos kj,kj]; grind
   ·rw [if_neg kj,if_neg ki,if_neg ki,if_neg kj]; grind
 rw [v9 (λk _=>e k),jS,jS,XE,XE,if_pos hi,if_pos hj,h r c hr hc]
 omega
theorem zPX {n i:Nat} {t b:Nat->Nat->Int} (h:uA n t b) (hi:i < n):uA n (yn i t) (yo i b):=λr c hr hc=>by
 by_cases ri:r=i
 ·by_cases ci:c=i
  ·rw [v9 (g:=λk=>t r k * b k c) (λk _=>by unfold yn yo; rw [if_pos ri,if_pos ci,ri,ci]; grind)]
   exact h r c hr hc
  ·rw [v9 (g:=λk=>(0 - t r k * b k c) + 0 * 0) (λk _=>by unfold yn yo; rw [if_pos ri,if_neg ci,ri]; grind)]
   have:=h r c hr hc
   rw [if_neg (by omega)] at this |-
   rw [v9 (g:=λk=>0 * 0 + (-1) * (t r k * b k c)) (λk _=>by grind),jS,this]
   have z:=jS 0 (λ_=>(0:Int)) (λ_=>0) n
   simp only [Int.mul_zero] at z |-
   have z2:∀ n,Sg n (λ_=>(0:Int))=0:=λn=>by
    induction n with
    | zero=>rfl
    | succ n ih=>rw [gH,ih]; rfl
   rw [z2]
   rfl
 ·by_cases ci:c=i
  ·have:=h r c hr hc
   rw [if_neg (by omega)] at this |-
   have z2:∀ n,Sg n (λ_=>(0:Int))=0:=λn=>by
    induction n with
    | zero=>rfl
    | succ n ih=>rw [gH,ih]; rfl
   rw [v9 (g:=λk=>0 + (-1) * (t r k * b k c)) (λk _=>by unfold yn yo; rw [if_neg ri,if_pos ci,ci]; grind),jS,this,z2]
   rfl
  ·rw [v9 (g:=λk=>t r k * b k c) (λk _=>by unfold yn yo; rw [if_neg ri,if_neg ci])]
   exact h r c hr hc
theorem zOA {n i:Nat} {t b:Nat->Nat->Int} (h:uA n b t):uA n (yo i b) (yn i t):=λr c hr hc=>by
 rw [v9 (g:=λk=>b r k * t k c) (λk _=>by
  unfold yn yo
  by_cases ki:k=i
  ·rw [if_pos ki,if_pos ki,ki]; grind
  ·rw [if_neg ki,if_neg ki])]
 exact h r c hr hc
def yR (n:Nat) (t:Nat->Nat->Int):List (List Int):=(List.range n).map λr=>(List.range n).map (t r)
theorem gI (n:Nat) (t:Nat->Nat->Int):(yR n t).length=n:=by
 unfold yR
 rw [List.length_map,List.length_range]
theorem Kr {n:Nat} {t:Nat->Nat->Int} {r:List Int} (h:r∈yR n t):r.length=n:=by
 obtain ⟨i,_,rfl⟩:=List.mem_map.mp h
 rw [List.length_map,List.length_range]
theorem Ks (f g:Nat->Int):∀ l:List Nat,zN (l.map f) (l.map g)=(l.map λk=>f k * g k).sum
 | []=>rfl
 | a :: l=>by
  simp only [List.map_cons,zN,List.sum_cons,Ks f g l]
theorem Kt {n:Nat} {t b:Nat->Nat->Int} (h:uA n t b):yc (yR n t) (yR n b) n=vZ n:=by
 unfold yc vZ
 rw [show yR n t=(List.range n).map λr=>(List.range n).map (t r) from rfl,List.map_map]
 refine List.map_congr_left λr hr=>?_
 have hr:=List.mem_range.mp hr
 unfold yw
 refine j8 λc hc=>?_
 rw [jQ]
 unfold yR
 rw [List.map_map,show ((λr:List Int=>r.getD c 0) ∘ λr=>(List.range n).map (b r))=λk=>b k c from funext λk=>jR hc,Ks]
 have:=h r c hr hc
 unfold Sg at this
 rw [this]
 by_cases e:r=c
 ·rw [if_pos e,if_pos (by omega)]
 ·rw [if_neg e,if_neg (by omega)]
theorem Ku (n:Nat):uA n (λr k=>if r=k then 1 else 0) (λr k=>if r=k then 1 else 0):=λr c hr hc=>by
 rw [v9 (g:=λk=>if k=r then (if r=c then 1 else 0) else 0) (λk _=>by
  show (if r=k then (1:Int) else 0) * (if k=c then 1 else 0)=_
  by_cases e:k=r
  ·rw [if_pos e.symm,if_pos e,e,Int.one_mul]
  ·rw [if_neg (λz:r=k=>e z.symm),if_neg e,Int.zero_mul]),XE,if_pos hr]
end Sh
set_option linter.all false
namespace Sh
def zS (n:Nat) (B:List (List Int)) (r:List Int):List Int:=(List.range n).map (zL (r.take n) B)++r.drop n
theorem Kv {n:Nat} {B:List (List Int)} {r:List Int} (h:n<=r.length):(zS n B r).length=r.length:=by
 unfold zS
 rw [List.length_append,List.length_map,List.length_range,List.length_drop]
 omega
theorem zNN {n j:Nat} {B:List (List Int)} {r:List Int} (h:j < n):(zS n B r).getD j 0=zL (r.take n) B j:=by
 unfold zS
 rw [List.getD_eq_getElem?_getD,List.getElem?_append_left (by rw [List.length_map,List.length_range]; exact h),<- List.getD_eq_getElem?_getD,jR h]
theorem ZD {n j:Nat} {B:List (List Int)} {r:List Int} (h:n<=j):(zS n B r).getD j 0=r.getD j 0:=by
 unfold zS
 rw [List.getD_eq_getElem?_getD,List.getElem?_append_right (by rw [List.length_map,List.length_range]; exact h),List.length_map,List.length_range,List.getElem?_drop,List.getD_eq_getElem?_getD]
 congr 2
 omega
theorem UO (B:List (List Int)) (j:Nat):zL [] B j=0:=by unfold zL; simp
theorem XF {α:Type} (c:Int) (f g:α->Int):∀ (l:List α) (B:List (List Int)) (j:Nat),zL (l.map λi=>f i * c + g i) B j=zL (l.map f) B j * c + zL (l.map g) B j
 | [],B,j=>by simp [UO]
 | a :: l,[],j=>by unfold zL; simp
 | a :: l,b :: B,j=>by
  have:=XF c f g l B j
  rw [List.map_cons,List.map_cons,List.map_cons,ua,ua,ua,this]
  grind
theorem j9 {α:Type}:∀ (l:List α) (B:List (List Int)) (j:Nat),zL (l.map λ_=>(0:Int)) B j=0
 | [],B,j=>by simp [UO]
 | a :: l,[],j=>by unfold zL; simp
 | a :: l,b :: B,j=>by
  rw [List.map_cons,ua,j9 l B j]
  omega
theorem ZE (r:List Int) (rows:List (List Int)) (x:Int) (nums:List Int) (j:Nat):xE (r :: rows) (x :: nums) j=r.getD j 0 * x + xE rows nums j:=by unfold xE; simp
theorem Kw (nums:List Int) (j:Nat):xE [] nums j=0:=by unfold xE; simp
theorem XG (rows:List (List Int)) (j:Nat):xE rows [] j=0:=by unfold xE; simp
theorem zNR {n:Nat} {r:List Int} (h:n<=r.length):(List.range n).map (λi=>r.getD i 0)=r.take n:=by
 apply List.ext_getElem?
 intro i
 rw [List.getElem?_map,List.getElem?_take]
 by_cases hi:i < n
 ·rw [List.getElem?_range hi,if_pos hi,List.getElem?_eq_getElem (show i < r.length by omega)]
  show some (r.getD i 0)=_
  rw [List.getD_eq_getElem?_getD,List.getElem?_eq_getElem (show i < r.length by omega)]
  rfl
 ·rw [if_neg hi,List.getElem?_eq_none (by rw [List.length_range]; omega)]
  rfl
theorem Kx {n:Nat} {B:List (List Int)} {j:Nat} (hj:j < n):∀ (rows:List (List Int)) (nums:List Int),(∀ r∈rows,n<=r.length)->xE (rows.map (zS n B)) nums j=zL ((List.range n).map (xE rows nums)) B j
 | [],nums,_=>by
  rw [List.map_nil,Kw,show (List.range n).map (xE [] nums)=(List.range n).map λ_=>(0:Int) from List.map_congr_left λi _=>Kw nums i,j9]
 | r :: rows,[],_=>by
  rw [XG,show (List.range n).map (xE (r :: rows) [])=(List.range n).map λ_=>(0:Int) from List.map_congr_left λi _=>XG _ i,j9]
 | r :: rows,x :: nums,h=>by
  have ih:=Kx (B:=B) hj rows nums λq hq=>h q (List.mem_cons_of_mem _ hq)
  rw [List.map_cons,ZE,ih,zNN hj,show (List.range n).map (xE (r :: rows) (x :: nums))=(List.range n).map λi=>r.getD i 0 * x + xE rows nums i from List.map_congr_left λi _=>ZE r rows x nums i,XF,zNR (h r List.mem_cons_self)]
theorem UP {n:Nat} {B:List (List Int)} {j:Nat} (hj:n<=j):∀ (rows:List (List Int)) (nums:List Int),xE (rows.map (zS n B)) nums j=xE rows nums j
 | [],nums=>rfl
 | r :: rows,[]=>by rw [XG,XG]
 | r :: rows,x :: nums=>by rw [List.map_cons,ZE,ZE,UP hj rows nums,ZD hj]
structure TB (n:Nat) (T B:List (List Int)):Prop where
 tl:T.length=n
 tr:∀ r∈T,r.length=n
 bl:B.length=n
 br:∀ r∈B,r.length=n
 tb:yc T B n=vZ n
 bt:yc B T n=vZ n
def fB (n:Nat) (B:List (List Int)) (x:List Int):List Int:=(List.range n).map (zL x B)
theorem Ky {n:Nat} {T B:List (List Int)} (h:TB n T B) {x:List Int} (l:x.length=n):fB n T (fB n B x)=x:=by
 unfold fB
 rw [ZC h.br x,h.bt]
 exact zNc l
theorem Kz {n:Nat} {T B:List (List Int)} (h:TB n T B) {x y:List Int} (lx:x.length=n) (ly:y.length=n) (e:fB n B x=fB n B y):x=y:=by
 rw [<- Ky h lx,e,Ky h ly]
theorem zQ8 (n:Nat) (B:List (List Int)) (o:Int) (x:List Int):fB n B (x.map (o * ·))=(fB n B x).map (o * ·):=by
 unfold fB
 rw [List.map_map]
 refine List.map_congr_left λj _=>?_
 have:=XF o (λi:Int=>i) (λ_=>0) x B j
 rw [j9] at this
 have e1:x.map (λi=>i * o + 0)=x.map (o * ·):=List.map_congr_left λi _=>by show i * o + 0=o * i; rw [Int.add_zero,Int.mul_comm]
 rw [e1,List.map_id'] at this
 show zL (x.map (o * ·)) B j=o * zL x B j
 rw [this,Int.add_zero,Int.mul_comm]
theorem XH (n p:Nat) (f:Nat->Int):(List.range (n + p)).map f=(List.range n).map f++(List.range p).map λj=>f (n + j):=by
 rw [List.range_add,List.map_append,List.map_map]
 rfl
theorem K0 {l:List Int}:(l.all λx=>decide (x=0))=true ↔ l=l.map λ_=>0:=by
 induction l with
 | nil=>simp
 | cons a t ih=>
  rw [List.all_cons,Bool.and_eq_true,decide_eq_true_iff,List.map_cons,List.cons.injEq,ih]
theorem zKc {n p:Nat} {T B rows:List (List Int)} {tw nums:List Int} {o:Int} (h:TB n T B) (hr:∀ r∈rows,r.length=n + p + 1) (ht:tw.length=n + p + 1) :
  j4 (rows.map (zS n B)) (zS n B tw) o nums (n + p)=j4 rows tw o nums (n + p):=by
 have lo:(List.range n).map (xE (rows.map (zS n B)) nums)=fB n B ((List.range n).map (xE rows nums)):=List.map_congr_left λj hj=>Kx (List.mem_range.mp hj) rows nums λr hr'=>by have:=hr r hr'; omega
 have hi:(List.range p).map (λj=>xE (rows.map (zS n B)) nums (n + j))=(List.range p).map λj=>xE rows nums (n + j):=List.map_congr_left λj _=>UP (by omega) rows nums
 have la:xE (rows.map (zS n B)) nums (n + p)=xE rows nums (n + p):=UP (by omega) rows nums
 have lv:((List.range n).map (xE rows nums)).length=n:=by rw [List.length_map,List.length_range]
 unfold j4
 by_cases c:o=0
 ·rw [if_pos c,if_pos c,la,XH,XH,hi,lo,List.all_append,List.all_append]
  congr 2
  rw [Bool.eq_iff_iff,K0,K0]
  generalize (List.range n).map (xE rows nums)=v at lv
  have z:fB n B (v.map λ_=>0)=(fB n B v).map λ_=>0:=by
   unfold fB
   rw [List.map_map]
   exact List.map_congr_left λj _=>j9 v B j
  constructor
  ·intro e
   exact Kz h lv (by rw [List.length_map]; exact lv) (e.trans z.symm)
  ·intro e
   rw [<- z,<- e]
 ·rw [if_neg c,if_neg c,la,ZD (show n<=n + p by omega),XH,XH,hi,lo]
  congr 2
  have t1:(zS n B tw).take (n + p)=fB n B (tw.take n)++(tw.drop n).take p:=by
   unfold zS fB
   rw [List.take_append,List.length_map,List.length_range,List.take_of_length_le (by rw [List.length_map,List.length_range]; omega),show n + p - n=p by omega]
  have t2:tw.take (n + p)=tw.take n++(tw.drop n).take p:=List.take_add
  have lt:(tw.take n).length=n:=by rw [List.length_take]; omega
  rw [t1,t2,List.map_append,List.map_append,<- zQ8]
  generalize (List.range n).map (xE rows nums)=v at lv
  have lf:∀ x:List Int,(fB n B x).length=n:=λx=>by unfold fB; rw [List.length_map,List.length_range]
  refine propext ⟨?_,?_⟩
  ·intro e
   obtain ⟨e1,e2⟩:=List.append_inj e (by rw [lf,lf])
   rw [Kz h lv (by rw [List.length_map]; exact lt) e1,e2]
  ·intro e
   obtain ⟨e1,e2⟩:=List.append_inj e (by rw [lv,List.length_map,lt])
   rw [e1,e2]
theorem zLE {n p:Nat} {B:List (List Int)} {r:List Int} (h:r.length=n + 1):wH n p (zS n B r)=zS n B (wH n p r):=by
 have e1:(zS n B r).take n=fB n B (r.take n):=by
  unfold zS fB
  rw [List.take_append,List.length_map,List.length_range,Nat.sub_self,List.take_zero,List.append_nil,List.take_of_length_le (by rw [List.length_map,List.length_range]; omega)]
 have lt:(r.take n).length=n:=by rw [List.length_take]; omega
 have e2:(wH n p r).take n=r.take n:=by
  unfold wH
  rw [List.append_assoc,List.take_append,lt,Nat.sub_self,List.take_zero,List.append_nil,List.take_of_length_le (by omega)]
 have e3:(wH n p r).drop n=List.replicate p 0++[r.getD n 0]:=by
  unfold wH
  rw [List.append_assoc,List.drop_append,lt,Nat.sub_self,List.drop_zero,List.drop_eq_nil_of_le (by omega),List.nil_append]
 rw [show zS n B (wH n p r)=fB n B ((wH n p r).take n)++(wH n p r).drop n from rfl,e2,e3]
 unfold wH
 rw [e1,ZD (Nat.le_refl n),List.append_assoc]
theorem K1 {n p i:Nat} {B:List (List Int)} {x c:Int} (hi:i < p):zS n B (yw ((n + i:Nat):Int) (n + p) x++[c])=yw ((n + i:Nat):Int) (n + p) x++[c]:=by
 have lu:=ub ((n + i:Nat):Int) (n + p) x
 have z:(yw ((n + i:Nat):Int) (n + p) x++[c]).take n=(List.range n).map λ_=>(0:Int):=by
  rw [List.take_append_of_le_length (by omega)]
  unfold yw
  rw [<- List.map_take,List.take_range,Nat.min_eq_left (by omega)]
  exact List.map_congr_left λj hj=>if_neg (by have:=List.mem_range.mp hj; omega)
 have e:(List.range n).map (zL ((yw ((n + i:Nat):Int) (n + p) x++[c]).take n) B)=(yw ((n + i:Nat):Int) (n + p) x++[c]).take n:=by
  rw [z]
  exact List.map_congr_left λj _=>j9 _ B j
 unfold zS
 rw [e,List.take_append_drop]
theorem K2 {n:Nat} {bs:List (Int × Int)} {B rows:List (List Int)} (h:∀ r∈rows,r.length=n + 1):vp n bs (rows.map (zS n B))=(vp n bs rows).map (zS n B):=by
 unfold vp
 rw [List.map_append,List.map_map,List.map_map]
 congr 1
 ·exact List.map_congr_left λr hr=>zLE (h r hr)
 ·symm
  refine (List.map_congr_left (g:=id) λr hr=>?_).trans (List.map_id _)
  obtain ⟨l,hl,hr⟩:=List.mem_flatten.mp hr
  obtain ⟨i,hi,rfl⟩:=List.mem_mapIdx.mp hl
  rcases List.mem_cons.mp hr with rfl | hr
  ·exact K1 hi
  ·rw [List.mem_singleton.mp hr]
   exact K1 hi
def UQ (n p:Nat) (ws:List Int) (b:Int) (N P:List (List Int)) (A:List Int) (d:Int):List Int:=((List.range n).map (zL ws N)++(List.range p).map (zL ws P))++[d * b - zN ws A]
theorem zKm {n p:Nat} {T B N P:List (List Int)} {ws A:List Int} {b d:Int} (h:TB n T B) (lw:ws.length=n) (lN:N.length=n) (hN:∀ r∈N,r.length=n) (lP:P.length=n) (hP:∀ r∈P,r.length=p) (lA:A.length=n) :
  UQ n p (fB n B ws) b (yc (yc T N n) B n) (yc T P p) (T.map λq=>zN q A) d=zS n B (UQ n p ws b N P A d):=by
 have pr:∀ (X:List (List Int)) (w:Nat),∀ r∈yc T X w,r.length=w:=λX w r hr=>by
  obtain ⟨q,_,rfl⟩:=List.mem_map.mp hr
  rw [List.length_map,List.length_range]
 have e1:fB n (yc (yc T N n) B n) (fB n B ws)=fB n B (fB n N ws):=by
  unfold fB
  rw [ZC h.br,ZC hN,<- UM (pr N n),<- UM h.tr,h.bt,Kp lN hN]
 have e2:(List.range p).map (zL (fB n B ws) (yc T P p))=(List.range p).map (zL ws P):=by
  unfold fB
  rw [ZC h.br,<- UM h.tr,h.bt,Kp lP hP]
 have e3:zN (fB n B ws) (T.map λq=>zN q A)=zN ws A:=by
  unfold fB
  rw [XD ws B h.br,zOJ h.tr h.bt lA]
 have lf:(fB n N ws).length=n:=by unfold fB; rw [List.length_map,List.length_range]
 unfold UQ
 rw [e3,e2,show (List.range n).map (zL (fB n B ws) (yc (yc T N n) B n))=fB n B (fB n N ws) from e1]
 show _=fB n B (((fB n N ws++(List.range p).map (zL ws P))++[d * b - zN ws A]).take n)++((fB n N ws++(List.range p).map (zL ws P))++[d * b - zN ws A]).drop n
 rw [List.append_assoc,List.append_assoc,List.take_append_of_le_length (by omega),List.take_of_length_le (by omega),List.drop_append_of_le_length (by omega),List.drop_eq_nil_of_le (by omega),List.nil_append]
end Sh
namespace Pu
open PySem L2 Sh
inductive D where
 | int (i:Int)
 | bool (b:Bool)
 | non
 | str (x:Str)
 | scr (ns:List Int)
 | lst (ds:List D)
 | tup (ds:List D)
 | obj (c:Addr) (ns:List Str) (ds:List D)
inductive DV (H:Hp):V->D->Prop where
 | int (i:Int):DV H (.int i) (.int i)
 | bool (b:Bool):DV H (.bl b) (.bool b)
 | non:DV H .non .non
 | str (x:Str):DV H (.str x) (.str x)
 | scr {a:Addr} {ns:List Int} (e:Rd H a (.lst (ns.map V.int))):DV H (.ref a) (.scr ns)
 | lst {a:Addr} {xs:List V} {ds:List D} (e:H a=some (.lst xs)) (h:Paired (DV H) xs ds):DV H (.ref a) (.lst ds)
 | tup {a:Addr} {xs:List V} {ds:List D} (e:H a=some (.tup xs)) (h:Paired (DV H) xs ds):DV H (.ref a) (.tup ds)
 | obj {o dx c:Addr} {ns:List Str} {xs:List V} {ds:List D} (e:H o=some (.ins c dx (ns.zip xs))) (l:ns.length=xs.length) (h:Paired (DV H) xs ds):DV H (.ref o) (.obj c ns ds)
theorem XI {H H':Hp} (s:zF H H') {a:Addr} {u:HO} (h:Rd H a u):Rd H' a u:=h.imp (s _ _) λ⟨o,e⟩=>⟨o,s _ _ e⟩
theorem DV.same {H H':Hp} (s:zF H H'):∀ {v:V} {d:D},DV H v d->DV H' v d
 | _,_,.int i=>.int i
 | _,_,.bool b=>.bool b
 | _,_,.non=>.non
 | _,_,.str x=>.str x
 | _,_,.scr e=>.scr (XI s e)
 | _,_,.lst e h=>.lst (s _ _ e) (go s h)
 | _,_,.tup e h=>.tup (s _ _ e) (go s h)
 | _,_,.obj e l h=>.obj (s _ _ e) l (go s h)
where
 go {H H':Hp} (s:zF H H'):∀ {xs:List V} {ds:List D},Paired (DV H) xs ds->Paired (DV H') xs ds
  | _,_,.nil=>.nil
  | _,_,.cons h t=>.cons (DV.same s h) (go s t)
abbrev yX (H:Hp):List V->List D->Prop:=Paired (DV H)
theorem xR {H H':Hp} (s:zF H H') {xs:List V} {ds:List D} (h:yX H xs ds):yX H' xs ds:=DV.same.go s h
theorem UR {H:Hp}:∀ {xs:List V} {ns:List Int},yX H xs (ns.map D.int)->xs=ns.map V.int
 | _,[],.nil=>rfl
 | _,_ :: _,.cons h t=>by cases h; rw [UR t]; rfl
theorem K3 {H:Hp}:∀ {xs:List V} {bs:List Bool},yX H xs (bs.map D.bool)->xs=bs.map V.bl
 | _,[],.nil=>rfl
 | _,_ :: _,.cons h t=>by cases h; rw [K3 t]; rfl
theorem K4 {H:Hp}:∀ {ns:List Int},yX H (ns.map V.int) (ns.map D.int)
 | []=>.nil
 | _ :: _=>.cons (.int _) K4
open Classical in
noncomputable def zQ (Z:Addr->Prop) (H:Hp):Hp:=λb=>if Z b then none else H b
theorem xm {Z:Addr->Prop} {H:Hp} {b:Addr} (h:¬ Z b):zQ Z H b=H b:=if_neg h
theorem qA {Z:Addr->Prop} {H:Hp} {b:Addr} {o:HO} (h:zQ Z H b=some o):¬ Z b/\H b=some o:=by
 unfold zQ at h
 by_cases c:Z b
 ·rw [if_pos c] at h; cases h
 ·rw [if_neg c] at h; exact ⟨c,h⟩
theorem zx {Z:Addr->Prop} {H:Hp}:zF (zQ Z H) H:=λ_ _ h=>(qA h).2
theorem yg {Z:Addr->Prop} {H H':Hp} (s:zF H H'):zF (zQ Z H) (zQ Z H'):=λb o h=>by
 obtain ⟨h1,h2⟩:=qA h
 rw [xm h1]
 exact s _ _ h2
theorem XJ {Z Z':Addr->Prop} {H:Hp} (s:∀ b,Z' b->Z b):zF (zQ Z H) (zQ Z' H):=λb o h=>by
 obtain ⟨h1,h2⟩:=qA h
 rw [xm λz=>h1 (s _ z)]
 exact h2
def ZL (Z:Addr->Prop) (H:Hp):Prop:=∀ b,Z b->∃ u,H b=some u/\∀ xs,u≠.tup xs
theorem ZL.same {Z:Addr->Prop} {H H':Hp} (z:ZL Z H) (s:zF H H'):ZL Z H':=λb hb=>let ⟨u,e,n⟩:=z b hb; ⟨u,s _ _ e,n⟩
theorem ZL.new {Z:Addr->Prop} {H:Hp} (z:ZL Z H) {p:Addr} (h:H p=none):¬ Z p:=λq=>by
 obtain ⟨u,e,_⟩:=z p q
 rw [h] at e
 cases e
inductive Sl where
 | no
 | sh (d:D)
 | ow (ds:List D)
 | ob (o c:Addr) (ns:List Str) (ds:List D)
def slot:List Sl->Nat->Sl
 | [],_=>.no
 | x :: _,0=>x
 | _ :: t,i + 1=>slot t i
def yA:List Sl->Nat->Sl->List Sl
 | [],_,_=>[]
 | _ :: t,0,y=>y :: t
 | x :: t,i + 1,y=>x :: yA t i y
theorem qB:∀ (Γ:List Sl) (i:Nat) (y:Sl),(yA Γ i y).length=Γ.length
 | [],_,_=>rfl
 | _ :: _,0,_=>rfl
 | _ :: t,i + 1,y=>by show (yA t i y).length + 1=_; rw [qB t i y]; rfl
theorem xS:∀ (Γ:List Sl) (i j:Nat) (y:Sl),slot (yA Γ i y) j=if j=i/\i < Γ.length then y else slot Γ j
 | [],i,j,y=>by rw [if_neg (λh=>absurd h.2 (Nat.not_lt_zero _))]; rfl
 | x :: t,0,0,y=>(if_pos ⟨rfl,Nat.zero_lt_succ _⟩).symm
 | x :: t,0,j + 1,y=>(if_neg (λh=>nomatch h.1)).symm
 | x :: t,i + 1,0,y=>(if_neg (λh=>nomatch h.1)).symm
 | x :: t,i + 1,j + 1,y=>by
  show slot (yA t i y) j=if j + 1=i + 1/\i + 1 < t.length + 1 then y else slot t j
  rw [xS t i j y]
  by_cases c:j=i/\i < t.length
  ·rw [if_pos c,if_pos ⟨by omega,by omega⟩]
  ·rw [if_neg c,if_neg (λh=>c ⟨by omega,by omega⟩)]
theorem uB:∀ {Γ:List Sl} {i:Nat},slot Γ i≠.no->i < Γ.length
 | [],_,h=>absurd rfl h
 | _ :: _,0,_=>Nat.zero_lt_succ _
 | _ :: _,_ + 1,h=>Nat.succ_lt_succ (uB (Γ:=_) h)
structure yd (Z:Addr->Prop) (Γ:List Sl) (σ:St) (H:Hp):Prop where
 sh:∀ i d,slot Γ i=.sh d->∃ v,σ[i]? = some (some v)/\DV (zQ Z H) v d
 ow:∀ i ds,slot Γ i=.ow ds->∃ l xs,σ[i]? = some (some (.ref l))/\Z l/\H l=some (.lst xs)/\yX (zQ Z H) xs ds
 ob:∀ i o c ns ds,slot Γ i=.ob o c ns ds->∃ dx xs,σ[i]? = some (some (.ref o))/\Z o/\H o=some (.ins c dx (ns.zip xs))/\ns.length=xs.length/\yX (zQ Z H) xs ds
 ne:∀ i j as bs l,slot Γ i=.ow as->slot Γ j=.ow bs->σ[i]? = some (some (.ref l))->σ[j]? = some (some (.ref l))->i=j
 zd:ZL Z H
 len:Γ.length=σ.length
theorem yd.same {Z:Addr->Prop} {Γ:List Sl} {σ:St} {H H':Hp} (E:yd Z Γ σ H) (s:zF H H'):yd Z Γ σ H' where
 sh:=λi d e=>let ⟨v,h1,h2⟩:=E.sh i d e; ⟨v,h1,h2.same (yg s)⟩
 ow:=λi ds e=>let ⟨l,xs,h1,h2,h3,h4⟩:=E.ow i ds e; ⟨l,xs,h1,h2,s _ _ h3,xR (yg s) h4⟩
 ob:=λi o c ns ds e=>let ⟨dx,xs,h1,h2,h3,h5,h4⟩:=E.ob i o c ns ds e; ⟨dx,xs,h1,h2,s _ _ h3,h5,xR (yg s) h4⟩
 ne:=E.ne
 zd:=E.zd.same s
 len:=E.len
theorem yd.set {Z:Addr->Prop} {Γ:List Sl} {σ:St} {H:Hp} (E:yd Z Γ σ H) {v:V} {d:D} (h:DV (zQ Z H) v d) (i:Nat):yd Z (yA Γ i (.sh d)) (σ.set i (some v)) H where
 sh:=λj e q=>by
  rw [xS] at q
  by_cases c:j=i/\i < Γ.length
  ·rw [if_pos c] at q
   cases q
   rw [c.1]
   exact ⟨v,by rw [List.getElem?_set_self (by have:=E.len; omega)],h⟩
  ·rw [if_neg c] at q
   obtain ⟨u,h1,h2⟩:=E.sh j e q
   have hj:=uB (Γ:=Γ) (i:=j) (by rw [q]; exact λz=>nomatch z)
   exact ⟨u,by rw [List.getElem?_set_ne (λz=>c ⟨z.symm,by omega⟩)]; exact h1,h2⟩
 ow:=λj e q=>by
  rw [xS] at q
  by_cases c:j=i/\i < Γ.length
  ·rw [if_pos c] at q; cases q
  ·rw [if_neg c] at q
   obtain ⟨l,xs,h1,h2⟩:=E.ow j e q
   have hj:=uB (Γ:=Γ) (i:=j) (by rw [q]; exact λz=>nomatch z)
   exact ⟨l,xs,by rw [List.getElem?_set_ne (λz=>c ⟨z.symm,by omega⟩)]; exact h1,h2⟩
 ob:=λj o0 c0 ns e q=>by
  rw [xS] at q
  by_cases c:j=i/\i < Γ.length
  ·rw [if_pos c] at q; cases q
  ·rw [if_neg c] at q
   obtain ⟨dx,xs,h1,h2⟩:=E.ob j o0 c0 ns e q
   have hj:=uB (Γ:=Γ) (i:=j) (by rw [q]; exact λz=>nomatch z)
   exact ⟨dx,xs,by rw [List.getElem?_set_ne (λz=>c ⟨z.symm,by omega⟩)]; exact h1,h2⟩
 ne:=λj k as bs l q r e f=>by
  rw [xS] at q r
  by_cases c:j=i/\i < Γ.length
  ·rw [if_pos c] at q; cases q
  ·by_cases c':k=i/\i < Γ.length
   ·rw [if_pos c'] at r; cases r
   ·rw [if_neg c] at q
    rw [if_neg c'] at r
    have hj:=uB (Γ:=Γ) (i:=j) (by rw [q]; exact λz=>nomatch z)
    have hk:=uB (Γ:=Γ) (i:=k) (by rw [r]; exact λz=>nomatch z)
    rw [List.getElem?_set_ne (λz=>c ⟨z.symm,by omega⟩)] at e
    rw [List.getElem?_set_ne (λz=>c' ⟨z.symm,by omega⟩)] at f
    exact E.ne j k as bs l q r e f
 zd:=E.zd
 len:=by rw [qB,List.length_set]; exact E.len
abbrev yN:=List Sl->(D->Prop)->Prop
abbrev ww:=List Sl->(Bool->Prop)->Prop
abbrev xP:=List Sl->(List D->Prop)->Prop
abbrev ZF:=List Sl->(Option Int->Prop)->Prop
inductive tP (p:yN) (σ:St) (H:Hp) (Q:VK):Prop
 | mk (Z:Addr->Prop) (Γ:List Sl) (R:D->Prop) (E:yd Z Γ σ H) (h:p Γ R) (q:∀ d v H',R d->zF H H'->DV (zQ Z H') v d->Q v H'):tP p σ H Q
inductive xT (p:ww) (σ:St) (H:Hp) (Q:Bool->Hp->Prop):Prop
 | mk (Z:Addr->Prop) (Γ:List Sl) (R:Bool->Prop) (E:yd Z Γ σ H) (h:p Γ R) (q:∀ b H',R b->zF H H'->Q b H'):xT p σ H Q
inductive wX (p:xP) (σ:St) (H:Hp) (Q:List V->Hp->Prop):Prop
 | mk (Z:Addr->Prop) (Γ:List Sl) (R:List D->Prop) (E:yd Z Γ σ H) (h:p Γ R) (q:∀ ds vs H',R ds->zF H H'->yX (zQ Z H') vs ds->Q vs H'):wX p σ H Q
inductive ZG (p:ZF) (σ:St) (H:Hp) (Q:Option Int->Hp->Prop):Prop
 | mk (Z:Addr->Prop) (Γ:List Sl) (R:Option Int->Prop) (E:yd Z Γ σ H) (h:p Γ R) (q:∀ o H',R o->zF H H'->Q o H'):ZG p σ H Q
section
variable {X:Cx} {a b e c:Expr} {es:List Expr} {pos:Pos} {pa pb pc:yN} {qa qb:ww} {pl:xP}
theorem yM {t t':TE} (h:PE X e t) (w:∀ σ H Q,t' σ H Q->t σ H Q):PE X e t':=λpins s σ H Q I q=>h pins s σ H Q I (w σ H Q q)
theorem XM {t t':TT} (h:PT X e t) (w:∀ σ H Q,t' σ H Q->t σ H Q):PT X e t':=λpins s σ H Q I q=>h pins s σ H Q I (w σ H Q q)
theorem K5 {t t':TT} (h:PW X e t) (w:∀ σ H Q,t' σ H Q->t σ H Q):PW X e t':=λwh pins s σ H Q I q=>h wh pins s σ H Q I (w σ H Q q)
theorem K6 {t t':TA} (h:PA X es t) (w:∀ σ H Q,t' σ H Q->t σ H Q):PA X es t':=λpos pins s σ H Q I q=>h pos pins s σ H Q I (w σ H Q q)
def K7 (i:Nat):yN:=λΓ R=>match slot Γ i with | .sh d=>R d | _=>False
theorem zA (i:Nat) {x:Str} {pos:Pos} (hN:X.N[i]? = some x:=by rfl) (hv:jD X.env.scope x:=by first | exact Or.inl rfl | exact Or.inr (Or.inl rfl) | exact Or.inr (Or.inr rfl)) (hd:(x == ("__debug__" : Str))=false:=by decide)
  (hcd:(x == ("__classdict__" : Str))=false:=by decide):PE X (.Name x pos) (tP (K7 i)):=yM (WY hN hv hd hcd) λσ H Q ⟨Z,Γ,R,E,h,q⟩=>by
 unfold K7 at h
 cases s:slot Γ i with
 | sh d=>
  rw [s] at h
  obtain ⟨v,e,k⟩:=E.sh i d s
  exact ⟨v,e,q d v H h (zF.refl _) k⟩
 | _=>rw [s] at h; exact h.elim
def pC (d:D):yN:=λ_ R=>R d
theorem zD {i j pos}:PE X (.Constant (.int i) j pos) (tP (pC (.int i))):=yM vg λ_ H _ ⟨_,_,_,_,h,q⟩=>q _ _ H h (zF.refl _) (.int i)
theorem xZ {i j pos}:PE X (.Constant (.bool i) j pos) (tP (pC (.bool i))):=yM gk λ_ H _ ⟨_,_,_,_,h,q⟩=>q _ _ H h (zF.refl _) (.bool i)
theorem zQJ {j pos}:PE X (.Constant .none j pos) (tP (pC .non)):=yM zQX λ_ H _ ⟨_,_,_,_,h,q⟩=>q _ _ H h (zF.refl _) .non
theorem US {x:Str} {i:Int} {pos:Pos} (hg:Gl X x) (hm:∃ t,X.mg x=some (.int i t)) (hd:(x == ("__debug__" : Str))=false:=by decide):PE X (.Name x pos) (tP (pC (.int i))):=
 let ⟨_,e⟩:=hm
 yM (QU (v:=.int i) hg e ⟨_,rfl⟩ hd) λ_ H _ ⟨_,_,_,_,h,q⟩=>q _ _ H h (zF.refl _) (.int i)
abbrev F2:=D->D->(D->Prop)->Prop
def xy (f:F2) (pa pb:yN):yN:=λΓ R=>pa Γ λx=>pb Γ λy=>f x y R
def wx (r:R2) (f:F2):Prop:=∀ (Z:Addr->Prop) (H:Hp) (x y:V) (a b:D) (R:D->Prop) (Q:VK),ZL Z H->DV (zQ Z H) x a->DV (zQ Z H) y b->f a b R->(∀ d v H',R d->zF H H'->DV (zQ Z H') v d->Q v H')->r x y H Q
theorem XN {r:R2} {f:F2} (o:wx r f) (σ:St) (H:Hp) (Q:VK):tP (xy f pa pb) σ H Q->g6 r (tP pa) (tP pb) σ H Q:=λ⟨Z,Γ,R,E,h,q⟩=>
 ⟨Z,Γ,_,E,h,λd v H1 hd s1 hv=>⟨Z,Γ,_,E.same s1,hd,λd2 v2 H2 hd2 s2 hv2=>o Z H2 v v2 d d2 R Q (E.same (s1.trans s2)).zd (hv.same (yg s2)) hv2 hd2 λd3 v3 H3 h3 s3 hv3=>q d3 v3 H3 h3 (s1.trans (s2.trans s3)) hv3⟩⟩
theorem gJ {op:Operator} {r:R2} {f:F2} (ho:xD X (binaryOp op) r) (o:wx r f) (ha:PE X a (tP pa)) (hb:PE X b (tP pb)):PE X (.BinOp a op b pos) (tP (xy f pa pb)):=yM (wt ho ha hb) (XN o)
theorem XO {op:CmpOp} {r:R2} {f:F2} (ho:xD X (compareOp op) r) (o:wx r f) (hm:behindInMarks op b=false) (ha:PE X a (tP pa)) (hb:PE X b (tP pb)):PE X (.Compare a [op] [b] pos) (tP (xy f pa pb)):=yM (Wp ho ha hb hm) (XN o)
theorem jT {Z:Addr->Prop} {H:Hp} {p:Addr} {xs:List V} {ds:List D} (zd:ZL Z H) (hp:H p=none) (h:yX (zQ Z H) xs ds):DV (zQ Z (zU H p (.lst xs))) (.ref p) (.lst ds):=
 .lst ((xm (zd.new hp)).trans xM) (xR (yg (xL hp _)) h)
theorem XQ {Z:Addr->Prop} {H:Hp} {p:Addr} {xs:List V} {ds:List D} (zd:ZL Z H) (hp:H p=none) (h:yX (zQ Z H) xs ds):DV (zQ Z (zU H p (.tup xs))) (.ref p) (.tup ds):=
 .tup ((xm (zd.new hp)).trans xM) (xR (yg (xL hp _)) h)
theorem K8 {Z:Addr->Prop} {H:Hp} {p:Addr} {xs:List V} {ds:List D} (zd:ZL Z H) (e:H p=some (.tup xs)) (h:yX (zQ Z H) xs ds):DV (zQ Z H) (.ref p) (.tup ds):=
 .tup ((xm λz=>by
  obtain ⟨u,e',n⟩:=zd p z
  rw [e] at e'
  cases e'
  exact n xs rfl).trans e) h
theorem DV.lst_inv {H:Hp} {v:V} {ds:List D} (h:DV H v (.lst ds)):∃ p xs,v=.ref p/\H p=some (.lst xs)/\yX H xs ds:=by cases h with | lst e h=>exact ⟨_,_,rfl,e,h⟩
theorem DV.tup_inv {H:Hp} {v:V} {ds:List D} (h:DV H v (.tup ds)):∃ p xs,v=.ref p/\H p=some (.tup xs)/\yX H xs ds:=by cases h with | tup e h=>exact ⟨_,_,rfl,e,h⟩
theorem few {n:Nat} (h:n<=1000):n<=sizeLine:=Nat.le_of_lt (ut h)
def qC:F2
 | .int i,.int j,R=>R (.int (i + j))
 | .lst as,.lst bs,R=>as.length + bs.length<=1000/\R (.lst (as++bs))
 | .tup as,.tup bs,R=>as.length + bs.length<=1000/\R (.tup (as++bs))
 | _,_,_=>False
theorem zPS:wx (λx y H Q=>v4 (λi j=>.int (i + j)) x y H Q\/(kP x y H Q\/UK x y H Q)) qC:=λZ H x y a b R Q zd hx hy h q=>by
 unfold qC at h
 split at h
 ·cases hx; cases hy; exact .inl ⟨_,_,rfl,rfl,q _ _ H h (zF.refl _) (.int _)⟩
 ·obtain ⟨p,xs,rfl,e1,h1⟩:=hx.lst_inv
  obtain ⟨r,ys,rfl,e2,h2⟩:=hy.lst_inv
  have l1:=Paired.length h1
  have l2:=Paired.length h2
  exact .inr (.inl ⟨p,r,xs,ys,rfl,rfl,zx _ _ e1,zx _ _ e2,few (by omega),λn hn=>q _ _ _ h.2 (xL hn _) (jT zd hn (gD h1 h2))⟩)
 ·obtain ⟨p,xs,rfl,e1,h1⟩:=hx.tup_inv
  obtain ⟨r,ys,rfl,e2,h2⟩:=hy.tup_inv
  have l1:=Paired.length h1
  have l2:=Paired.length h2
  exact .inr (.inr ⟨p,r,xs,ys,rfl,rfl,zx _ _ e1,zx _ _ e2,few (by omega),λn H' s e=>q _ _ _ h.2 s (K8 (zd.same s) e (xR (yg s) (gD h1 h2)))⟩)
 ·exact h.elim
def qD:F2
 | .int i,.int j,R=>R (.int (i - j))
 | _,_,_=>False
theorem K9 {g:Int->Int->V} {k:Int->Int->D} {f:F2} (hg:∀ i j H,DV H (g i j) (k i j)) (hf:∀ a b R,f a b R->∃ i j,a=.int i/\b=.int j/\R (k i j)):wx (v4 g) f:=λZ H x y a b R Q zd hx hy h q=>by
 obtain ⟨i,j,rfl,rfl,k⟩:=hf a b R h
 cases hx; cases hy
 exact ⟨_,_,rfl,rfl,q _ _ H k (zF.refl _) (hg i j _)⟩
theorem UT {C:Int->Int->Prop} {g:Int->Int->V} {k:Int->Int->D} {f:F2} (hg:∀ i j H,DV H (g i j) (k i j)) (hf:∀ a b R,f a b R->∃ i j,a=.int i/\b=.int j/\C i j/\R (k i j)):wx (rI C g) f:=λZ H x y a b R Q zd hx hy h q=>by
 obtain ⟨i,j,rfl,rfl,c,k⟩:=hf a b R h
 cases hx; cases hy
 exact ⟨_,_,rfl,rfl,c,q _ _ H k (zF.refl _) (hg i j _)⟩
theorem zPN:wx (v4 λi j=>.int (i - j)) qD:=K9 (k:=λi j=>.int (i - j)) (λ_ _ _=>.int _) λa b R h=>by
 unfold qD at h
 split at h
 ·exact ⟨_,_,rfl,rfl,h⟩
 ·exact h.elim
def qE:F2
 | .int i,.int j,R=>Bd 60000 i/\Bd 60000 j/\R (.int (i * j))
 | .lst [d],.int k,R=>0<=k/\k<=1000/\R (.lst (List.replicate k.toNat d))
 | _,_,_=>False
theorem ZH {α:Type} (x:α):∀ n:Nat,(List.replicate n [x]).flatten=List.replicate n x
 | 0=>rfl
 | n + 1=>by rw [List.replicate_succ,List.flatten_cons,ZH x n]; rfl
theorem zGg {α β:Type} {R:α->β->Prop} {x:α} {y:β} (h:R x y):∀ n:Nat,Paired R (List.replicate n x) (List.replicate n y)
 | 0=>.nil
 | n + 1=>.cons h (zGg h n)
theorem zPP:wx (λx y H Q=>rI Yr (λi j=>.int (i * j)) x y H Q\/kR x y H Q) qE:=λZ H x y a b R Q zd hx hy h q=>by
 unfold qE at h
 split at h
 ·cases hx; cases hy; exact .inl ⟨_,_,rfl,rfl,⟨h.1,h.2.1⟩,q _ _ H h.2.2 (zF.refl _) (.int _)⟩
 ·rename_i d k
  obtain ⟨p,xs,rfl,e1,h1⟩:=hx.lst_inv
  cases hy
  cases h1 with
  | @cons x _ _ _ h1 h2=>
  cases h2
  refine .inr ⟨p,_,_,rfl,rfl,zx _ _ e1,by omega,by omega,few (by rw [List.length_singleton]; omega),λn hn=>?_⟩
  rw [ZH]
  exact q _ _ _ h.2.2 (xL hn _) (jT zd hn (zGg h1 _))
 ·exact h.elim
def UU:F2
 | .int i,.int j,R=>j≠0/\Bd 8000 j/\R (.int (i.fdiv j))
 | _,_,_=>False
theorem zNq:wx (rI KL λi j=>.int (i.fdiv j)) UU:=UT (k:=λi j=>.int (i.fdiv j)) (λ_ _ _=>.int _) λa b R h=>by
 unfold UU at h
 split at h
 ·exact ⟨_,_,rfl,rfl,⟨h.1,h.2.1⟩,h.2.2⟩
 ·exact h.elim
def qF:F2
 | .int i,.int j,R=>j≠0/\R (.int (i.fmod j))
 | _,_,_=>False
theorem zPQ:wx (rI (λ_ j=>j≠0) λi j=>.int (i.fmod j)) qF:=UT (k:=λi j=>.int (i.fmod j)) (λ_ _ _=>.int _) λa b R h=>by
 unfold qF at h
 split at h
 ·exact ⟨_,_,rfl,rfl,h.1,h.2⟩
 ·exact h.elim
def qG:F2
 | .int i,.int j,R=>jq i j/\R (.int (i ^ j.toNat))
 | _,_,_=>False
theorem zPO:wx (rI jq λi j=>.int (i ^ j.toNat)) qG:=UT (k:=λi j=>.int (i ^ j.toNat)) (λ_ _ _=>.int _) λa b R h=>by
 unfold qG at h
 split at h
 ·exact ⟨_,_,rfl,rfl,h.1,h.2⟩
 ·exact h.elim
def wO (g:Int->Int->Bool):F2
 | .int i,.int j,R=>R (.bool (g i j))
 | _,_,_=>False
theorem qH {g:Int->Int->Bool}:wx (v4 λi j=>.bl (g i j)) (wO g):=K9 (k:=λi j=>.bool (g i j)) (λ_ _ _=>.bool _) λa b R h=>by
 unfold wO at h
 split at h
 ·exact ⟨_,_,rfl,rfl,h⟩
 ·exact h.elim
theorem zX (ha:PE X a (tP pa)) (hb:PE X b (tP pb)):PE X (.BinOp a .Add b pos) (tP (xy qC pa pb)):=gJ (kB.or (zQj.or ZA)) zPS ha hb
theorem wI (ha:PE X a (tP pa)) (hb:PE X b (tP pb)):PE X (.BinOp a .Sub b pos) (tP (xy qD pa pb)):=gJ Yg zPN ha hb
theorem yH (ha:PE X a (tP pa)) (hb:PE X b (tP pb)):PE X (.BinOp a .Mult b pos) (tP (xy qE pa pb)):=gJ (q9.or zQd) zPP ha hb
theorem wJ (ha:PE X a (tP pa)) (hb:PE X b (tP pb)):PE X (.BinOp a .FloorDiv b pos) (tP (xy UU pa pb)):=gJ zNp zNq ha hb
theorem yr (ha:PE X a (tP pa)) (hb:PE X b (tP pb)):PE X (.BinOp a .Mod b pos) (tP (xy qF pa pb)):=gJ Yh zPQ ha hb
theorem jU (ha:PE X a (tP pa)) (hb:PE X b (tP pb)):PE X (.BinOp a .Pow b pos) (tP (xy qG pa pb)):=gJ zQe zPO ha hb
theorem ZI (ha:PE X a (tP pa)) (hb:PE X b (tP pb)):PE X (.Compare a [.Lt] [b] pos) (tP (xy (wO λi j=>decide (i < j)) pa pb)):=XO Qh qH (vi _) ha hb
theorem zQK (ha:PE X a (tP pa)) (hb:PE X b (tP pb)):PE X (.Compare a [.LtE] [b] pos) (tP (xy (wO λi j=>decide (i<=j)) pa pb)):=XO Qi qH (vi _) ha hb
theorem zQL (ha:PE X a (tP pa)) (hb:PE X b (tP pb)):PE X (.Compare a [.GtE] [b] pos) (tP (xy (wO λi j=>decide (j<=i)) pa pb)):=XO Qj qH (vi _) ha hb
def ZJ:D->(D->Prop)->Prop
 | .int i,R=>R (.int (-i))
 | _,_=>False
def ZK (f:D->(D->Prop)->Prop) (pa:yN):yN:=λΓ R=>pa Γ λx=>f x R
theorem y6 (ha:PE X a (tP pa)):PE X (.UnaryOp .USub a pos) (tP (ZK ZJ pa)):=yM (g9 zPz ha) λσ H Q ⟨Z,Γ,R,E,h,q⟩=>
 ⟨Z,Γ,_,E,h,λd v H1 hd s1 hv=>by
  unfold ZJ at hd
  split at hd
  ·cases hv; exact ⟨_,rfl,q _ _ H1 hd s1 (.int _)⟩
  ·exact hd.elim⟩
end
end Pu
namespace Pu
open PySem L2 Sh
mutual
def D.py:D->PyData
 | .int i=>.int i
 | .bool b=>.bool b
 | .non=>.none
 | .str x=>.str x
 | .scr _=>.none
 | .lst ds=>.list (va ds)
 | .tup ds=>.tuple (va ds)
 | .obj _ _ _=>.none
def va:List D->List PyData
 | []=>[]
 | d :: ds=>d.py :: va ds
end
def D.pl:Nat->D->Bool
 | 0,_=>false
 | _ + 1,.int _=>true
 | _ + 1,.bool _=>true
 | _ + 1,.non=>true
 | _ + 1,.str x=>PyData.strOk x
 | _ + 1,.scr _=>false
 | n + 1,.lst ds=>ds.all (D.pl n)
 | n + 1,.tup ds=>ds.all (D.pl n)
 | _ + 1,.obj ..=>false
structure DpO (n:Nat) (d:D):Prop where
 dp:∀ K H v,DV H v d->Dp K H v d.py
 lay:d.py.canLay0=true
 dep:d.py.depth<=n
theorem UV {n:Nat}:∀ {ds:List D},(∀ d∈ds,DpO n d)->(∀ K H xs,yX H xs ds->uM K H xs (va ds))/\PyData.canLayAll0 (va ds)=true/\PyData.depthAll (va ds)<=n
 | [],_=>⟨λK H xs h=>by cases h; exact .nil,by simp [va,PyData.canLayAll0],by simp [va,PyData.depthAll]⟩
 | d :: ds,h=>by
  obtain ⟨h1,h2,h3⟩:=UV (ds:=ds) λx m=>h x (List.mem_cons_of_mem _ m)
  have g:=h d List.mem_cons_self
  have l:=g.lay
  have p:=g.dep
  refine ⟨λK H xs q=>?_,by simp [va,PyData.canLayAll0,l,h2],by simp only [va,PyData.depthAll]; omega⟩
  cases q with
  | cons q r=>exact .cons (g.dp K H _ q) (h1 K H _ r)
theorem uO:∀ (n:Nat) (d:D),D.pl n d=true->DpO n d
 | 0,_,h=>by cases h
 | n + 1,.int i,_=>⟨λK H v h=>by cases h; exact .int i,by simp [D.py,PyData.canLay0],by simp [D.py,PyData.depth]⟩
 | n + 1,.bool i,_=>⟨λK H v h=>by cases h; exact .bl i,by simp [D.py,PyData.canLay0],by simp [D.py,PyData.depth]⟩
 | n + 1,.non,_=>⟨λK H v h=>by cases h; exact .non,by simp [D.py,PyData.canLay0],by simp [D.py,PyData.depth]⟩
 | n + 1,.str i,h=>⟨λK H v h=>by cases h; exact .str i,by simp only [D.py,PyData.canLay0]; exact h,by simp [D.py,PyData.depth]⟩
 | n + 1,.scr _,h=>by cases h
 | n + 1,.obj ..,h=>by cases h
 | n + 1,.lst ds,h=>by
  obtain ⟨h1,h2,h3⟩:=UV (n:=n) (ds:=ds) λd m=>uO n d (List.all_eq_true.mp h d m)
  refine ⟨λK H v q=>?_,by simp [D.py,PyData.canLay0,h2],by simp only [D.py,PyData.depth]; omega⟩
  obtain ⟨p,xs,rfl,e,q⟩:=q.lst_inv
  exact .lst (zR.of e) (h1 K H _ q)
 | n + 1,.tup ds,h=>by
  obtain ⟨h1,h2,h3⟩:=UV (n:=n) (ds:=ds) λd m=>uO n d (List.all_eq_true.mp h d m)
  refine ⟨λK H v q=>?_,by simp [D.py,PyData.canLay0,h2],by simp only [D.py,PyData.depth]; omega⟩
  obtain ⟨p,xs,rfl,e,q⟩:=q.tup_inv
  exact .tup (zt.of e) (h1 K H _ q)
theorem UW:∀ ns:List Int,va (ns.map D.int)=ns.map PyData.int
 | []=>rfl
 | n :: t=>by rw [List.map_cons,List.map_cons,va,UW t,D.py]
theorem UX (n:Nat) (ns:List Int):(ns.map D.int).all (D.pl (n + 1))=true:=List.all_eq_true.mpr λd m=>by
 obtain ⟨i,_,rfl⟩:=List.mem_map.mp m
 rfl
abbrev L (ns:List Int):D:=.lst (ns.map D.int)
abbrev U (ns:List Int):D:=.tup (ns.map D.int)
theorem zRA (ns ms:List Int):PyData.eqv (L ns).py (L ms).py=decide (ns=ms):=by
 show PyData.eqvAll (va (ns.map D.int)) (va (ms.map D.int))=_
 rw [UW,UW]
 exact KZ ns ms
theorem UY (ds:List D):PyData.eqv (D.lst ds).py (D.lst []).py=ds.isEmpty:=by cases ds <;> rfl
section
variable {X:Cx} {a b e c:Expr} {es:List Expr} {pos:Pos} {pa pb pc:yN} {qa qb:ww} {pl:xP}
def XR:F2
 | .int i,.int j,R=>R (.bool (decide (i=j)))
 | .bool i,.bool j,R=>R (.bool (i == j))
 | .lst as,.lst bs,R=>(D.lst as).pl 50=true/\(D.lst bs).pl 50=true/\R (.bool (PyData.eqv (D.lst as).py (D.lst bs).py))
 | .tup as,.tup bs,R=>(D.tup as).pl 50=true/\(D.tup bs).pl 50=true/\R (.bool (PyData.eqv (D.tup as).py (D.tup bs).py))
 | _,_,_=>False
theorem zOh {K:PySem.W.Frag}:wx (λx y H Q=>Qd x y H Q\/kq K x y H Q) XR:=λZ H x y a b R Q zd hx hy h q=>by
 unfold XR at h
 split at h
 ·cases hx; cases hy
  refine .inl ⟨rfl,?_⟩
  rw [Yi,Bool.beq_eq_decide_eq]
  exact q _ _ H h (zF.refl _) (.bool _)
 ·cases hx; cases hy
  refine .inl ⟨rfl,?_⟩
  rw [Yj]
  exact q _ _ H h (zF.refl _) (.bool _)
 ·have d1:=uO _ _ h.1
  have d2:=uO _ _ h.2.1
  have e1:=d1.dep
  have e2:=d2.dep
  exact .inr ⟨_,_,d1.dp K H _ (hx.same zx),d2.dp K H _ (hy.same zx),d1.lay,d2.lay,by omega,by omega,q _ _ H h.2.2 (zF.refl _) (.bool _)⟩
 ·have d1:=uO _ _ h.1
  have d2:=uO _ _ h.2.1
  have e1:=d1.dep
  have e2:=d2.dep
  exact .inr ⟨_,_,d1.dp K H _ (hx.same zx),d2.dp K H _ (hy.same zx),d1.lay,d2.lay,by omega,by omega,q _ _ H h.2.2 (zF.refl _) (.bool _)⟩
 ·exact h.elim
def uw:F2
 | .int i,.int j,R=>R (.bool (!decide (i=j)))
 | .bool i,.bool j,R=>R (.bool (i != j))
 | .lst as,.lst bs,R=>(D.lst as).pl 50=true/\(D.lst bs).pl 50=true/\R (.bool (!PyData.eqv (D.lst as).py (D.lst bs).py))
 | .tup as,.tup bs,R=>(D.tup as).pl 50=true/\(D.tup bs).pl 50=true/\R (.bool (!PyData.eqv (D.tup as).py (D.tup bs).py))
 | _,_,_=>False
theorem zQk {K:PySem.W.Frag}:wx (λx y H Q=>Qe x y H Q\/∃ d e:PyData,Dp K H x d/\Dp K H y e/\d.canLay0=true/\e.canLay0=true/\d.depth<=60/\e.depth<=60/\Q (.bl (!PyData.eqv d e)) H) uw:=λZ H x y a b R Q zd hx hy h q=>by
 unfold uw at h
 split at h
 ·cases hx; cases hy
  refine .inl ⟨rfl,?_⟩
  rw [Yi,Bool.beq_eq_decide_eq]
  exact q _ _ H h (zF.refl _) (.bool _)
 ·cases hx; cases hy
  refine .inl ⟨rfl,?_⟩
  rw [Yj]
  exact q _ _ H h (zF.refl _) (.bool _)
 ·have d1:=uO _ _ h.1
  have d2:=uO _ _ h.2.1
  have e1:=d1.dep
  have e2:=d2.dep
  exact .inr ⟨_,_,d1.dp K H _ (hx.same zx),d2.dp K H _ (hy.same zx),d1.lay,d2.lay,by omega,by omega,q _ _ H h.2.2 (zF.refl _) (.bool _)⟩
 ·have d1:=uO _ _ h.1
  have d2:=uO _ _ h.2.1
  have e1:=d1.dep
  have e2:=d2.dep
  exact .inr ⟨_,_,d1.dp K H _ (hx.same zx),d2.dp K H _ (hy.same zx),d1.lay,d2.lay,by omega,by omega,q _ _ H h.2.2 (zF.refl _) (.bool _)⟩
 ·exact h.elim
theorem uP (hu:X.A.units + 64 < cLine) (ha:PE X a (tP pa)) (hb:PE X b (tP pb)):PE X (.Compare a [.Eq] [b] pos) (tP (xy XR pa pb)):=XO (kD.or (KY hu)) zOh (vi _) ha hb
def bD:D->(Bool->Prop)->Prop
 | .bool b,R=>R b
 | _,_=>False
def wP (pa:yN):ww:=λΓ R=>pa Γ λd=>bD d R
theorem zOQ {t:TE} (w:∀ σ H Q,tP pa σ H Q->t σ H Q) (σ:St) (H:Hp) (Q:Bool->Hp->Prop):xT (wP pa) σ H Q->Qk t σ H Q:=λ⟨Z,Γ,R,E,h,q⟩=>
 w _ _ _ ⟨Z,Γ,_,E,h,λd v H1 hd s1 hv=>by
  unfold bD at hd
  split at hd
  ·cases hv; exact ⟨_,rfl,q _ H1 hd s1⟩
  ·exact hd.elim⟩
theorem yY (ha:PE X e (tP pa)) (he:∀ whole,isTrue e X.env whole=(do let v <- whole; standAt e.pos; holding [v] (truthy v)):=by intro _; rfl):PT X e (xT (wP pa)):=XM (zQM ha he) (zOQ λ_ _ _ h=>h)
theorem gK {op:CmpOp} {r:R2} {f:F2} (ho:xD X (compareOp op) r) (o:wx r f) (hm:behindInMarks op b=false) (ha:PE X a (tP pa)) (hb:PE X b (tP pb)):PT X (.Compare a [op] [b] pos) (xT (wP (xy f pa pb))):=XM (Ql ho ha hb hm) (zOQ (XN o))
theorem wY (hu:X.A.units + 64 < cLine) (ha:PE X a (tP pa)) (hb:PE X b (tP pb)):PT X (.Compare a [.Eq] [b] pos) (xT (wP (xy XR pa pb))):=gK (kD.or (KY hu)) zOh (vi _) ha hb
theorem UZ (hu:X.A.units + 64 < cLine) (ha:PE X a (tP pa)) (hb:PE X b (tP pb)):PT X (.Compare a [.NotEq] [b] pos) (xT (wP (xy uw pa pb))):=gK (kF.or (zQf hu)) zQk (vi _) ha hb
theorem Ua (ha:PE X a (tP pa)) (hb:PE X b (tP pb)):PT X (.Compare a [.Lt] [b] pos) (xT (wP (xy (wO λi j=>decide (i < j)) pa pb))):=gK Qh qH (vi _) ha hb
theorem zOW (ha:PE X a (tP pa)) (hb:PE X b (tP pb)):PT X (.Compare a [.LtE] [b] pos) (xT (wP (xy (wO λi j=>decide (i<=j)) pa pb))):=gK Qi qH (vi _) ha hb
theorem ZM (ha:PE X a (tP pa)) (hb:PE X b (tP pb)):PT X (.Compare a [.Gt] [b] pos) (xT (wP (xy (wO λi j=>decide (j < i)) pa pb))):=gK kG qH (vi _) ha hb
theorem zQH (ha:PE X a (tP pa)) (hb:PE X b (tP pb)):PT X (.Compare a [.GtE] [b] pos) (xT (wP (xy (wO λi j=>decide (j<=i)) pa pb))):=gK Qj qH (vi _) ha hb
def wf (b:Bool) (A B:Prop):Prop:=(b=true->A)/\(b=false->B)
theorem wT {b:Bool} {A B:Prop} (e:b=true) (h:A):wf b A B:=⟨λ_=>h,λz=>nomatch e.symm.trans z⟩
theorem wF {b:Bool} {A B:Prop} (e:b=false) (h:B):wf b A B:=⟨λz=>(nomatch e.symm.trans z),λ_=>h⟩
theorem w2 {b:Bool} {A B:Prop} (h1:b=true->A) (h2:b=false->B):wf b A B:=⟨h1,h2⟩
def Ub (p q:ww):ww:=λΓ R=>p Γ λc=>wf c (q Γ R) (R false)
def pOr (p q:ww):ww:=λΓ R=>p Γ λc=>wf c (R true) (q Γ R)
def Uc (p:ww):ww:=λΓ R=>p Γ λc=>R (!c)
theorem Ud (ha:PT X a (xT qa)):PW X (.BoolOp .And [a] pos) (xT qa):=zPB ha
theorem vP (ha:PT X a (xT qa)):PW X (.BoolOp .Or [a] pos) (xT qa):=zQF ha
theorem Ue {ya:List Expr} (ha:PT X a (xT qa)) (hb:PW X (.BoolOp .And (b :: ya) pos) (xT qb)):PW X (.BoolOp .And (a :: b :: ya) pos) (xT (Ub qa qb)):=K5 (zQG ha hb) λσ H Q ⟨Z,Γ,R,E,h,q⟩=>
 ⟨Z,Γ,_,E,h,λc H1 hc s1=>by
  cases c with
  | true=>exact ⟨Z,Γ,R,E.same s1,hc.1 rfl,λb H2 hb s2=>q b H2 hb (s1.trans s2)⟩
  | false=>exact q _ H1 (hc.2 rfl) s1⟩
theorem wZ {ya:List Expr} (ha:PT X a (xT qa)) (hb:PW X (.BoolOp .Or (b :: ya) pos) (xT qb)):PW X (.BoolOp .Or (a :: b :: ya) pos) (xT (pOr qa qb)):=K5 (gl ha hb) λσ H Q ⟨Z,Γ,R,E,h,q⟩=>
 ⟨Z,Γ,_,E,h,λc H1 hc s1=>by
  cases c with
  | true=>exact q _ H1 (hc.1 rfl) s1
  | false=>exact ⟨Z,Γ,R,E.same s1,hc.2 rfl,λb H2 hb s2=>q b H2 hb (s1.trans s2)⟩⟩
theorem xA (ha:PT X a (xT qa)):PT X (.UnaryOp .Not a pos) (xT (Uc qa)):=XM (zQN ha) λσ H Q ⟨Z,Γ,R,E,h,q⟩=>⟨Z,Γ,_,E,h,λc H1 hc s1=>q _ H1 hc s1⟩
def ZN (p q:yN):yN:=λΓ R=>p Γ λd=>bD d λc=>wf c (q Γ R) (R (.bool false))
def ZO (p:yN):yN:=λΓ R=>p Γ λd=>bD d λc=>R (.bool !c)
theorem vb {op} (ha:PE X a (tP pa)):PE X (.BoolOp op [a] pos) (tP pa):=zQV ha
theorem wQ {ya:List Expr} (ha:PE X a (tP pa)) (hb:PE X (.BoolOp .And (b :: ya) pos) (tP pb)):PE X (.BoolOp .And (a :: b :: ya) pos) (tP (ZN pa pb)):=yM (zQZ ha hb) λσ H Q ⟨Z,Γ,R,E,h,q⟩=>
 ⟨Z,Γ,_,E,h,λd v H1 hd s1 hv=>by
  unfold bD at hd
  split at hd
  ·cases hv
   rename_i c
   refine ⟨c,rfl,?_⟩
   cases c with
   | true=>exact ⟨Z,Γ,R,E.same s1,hd.1 rfl,λb v H2 hb s2 k=>q b v H2 hb (s1.trans s2) k⟩
   | false=>exact q _ _ H1 (hd.2 rfl) s1 (.bool _)
  ·exact hd.elim⟩
theorem zQI (ha:PE X a (tP pa)):PE X (.UnaryOp .Not a pos) (tP (ZO pa)):=yM (zQW ha) λσ H Q ⟨Z,Γ,R,E,h,q⟩=>
 ⟨Z,Γ,_,E,h,λd v H1 hd s1 hv=>by
  unfold bD at hd
  split at hd
  ·cases hv; exact ⟨_,rfl,q _ _ H1 hd s1 (.bool _)⟩
  ·exact hd.elim⟩
def Uf (t:ww) (p q:yN):yN:=λΓ R=>t Γ λc=>wf c (p Γ R) (q Γ R)
theorem zNf (hc:PT X c (xT qa)) (ha:PE X a (tP pa)) (hb:PE X b (tP pb)):PE X (.IfExp c a b pos) (tP (Uf qa pa pb)):=yM (zNn hc ha hb) λσ H Q ⟨Z,Γ,R,E,h,q⟩=>
 ⟨Z,Γ,_,E,h,λc H1 hd s1=>by
  cases c with
  | true=>exact ⟨Z,Γ,R,E.same s1,hd.1 rfl,λb v H2 hb s2 k=>q b v H2 hb (s1.trans s2) k⟩
  | false=>exact ⟨Z,Γ,R,E.same s1,hd.2 rfl,λb v H2 hb s2 k=>q b v H2 hb (s1.trans s2) k⟩⟩
def Ug:xP:=λ_ R=>R []
def ZP (pa:yN) (pl:xP):xP:=λΓ R=>pa Γ λd=>pl Γ λds=>R (d :: ds)
theorem zC:PA X [] (wX Ug):=K6 yB λσ H Q ⟨_,_,_,_,h,q⟩=>q _ _ H h (zF.refl _) .nil
theorem zB (ha:PE X e (tP pa)) (hr:PA X es (wX pl)) (hs:starEach (e :: es) X.env=(false,eval e X.env) :: starEach es X.env:=by rfl):PA X (e :: es) (wX (ZP pa pl)):=K6 (zg ha hr hs) λσ H Q ⟨Z,Γ,R,E,h,q⟩=>
 ⟨Z,Γ,_,E,h,λd v H1 hd s1 hv=>⟨Z,Γ,_,E.same s1,hd,λds vs H2 hds s2 hvs=>q _ _ H2 hds (s1.trans s2) (.cons (hv.same (yg s2)) hvs)⟩⟩
def Uh (pl:xP):yN:=λΓ R=>pl Γ λds=>ds.length<=1000/\R (.tup ds)
def Ui (pl:xP):yN:=λΓ R=>pl Γ λds=>ds.length<=1000/\R (.lst ds)
theorem xb {x1} (ha:PA X es (wX pl)):PE X (.Tuple es x1 pos) (tP (Uh pl)):=yM (Qp ha) λσ H Q ⟨Z,Γ,R,E,h,q⟩=>
 ⟨Z,Γ,_,E,h,λds vs H1 hd s1 hv=>⟨few (by rw [Paired.length hv]; exact hd.1),λp hp=>q _ _ _ hd.2 (s1.trans (xL hp _)) (XQ (E.same s1).zd hp hv)⟩⟩
theorem yO (ha:PA X es (wX pl)):PE X (.List es pos) (tP (Ui pl)):=yM (Qq ha) λσ H Q ⟨Z,Γ,R,E,h,q⟩=>
 ⟨Z,Γ,_,E,h,λds vs H1 hd s1 hv=>⟨few (by rw [Paired.length hv]; exact hd.1),λp hp=>q _ _ _ hd.2 (s1.trans (xL hp _)) (jT (E.same s1).zd hp hv)⟩⟩
theorem XS {α β:Type} {R:α->β->Prop} {xs:List α} {ys:List β} (h:Paired R xs ys) {i:Int} {y:β} (e:yU ys i=some y):∃ x,yU xs i=some x/\R x y:=by
 unfold yU at e |-
 rw [Paired.length h]
 cases k:wM ys.length i with
 | none=>rw [k] at e; cases e
 | some j=>
  rw [k] at e
  exact go h e
where
 go:∀ {xs:List α} {ys:List β} {j:Nat} {y:β},Paired R xs ys->ys[j]? = some y->∃ x,xs[j]? = some x/\R x y
  | _,_,_,_,.nil,e=>by simp at e
  | _,_,0,_,.cons r _,e=>by simp at e; subst e; exact ⟨_,rfl,r⟩
  | _,_,j + 1,y,.cons _ t,e=>by
   obtain ⟨x,h1,h2⟩:=go (j:=j) (y:=y) t (by simpa using e)
   exact ⟨x,by simpa using h1,h2⟩
def XT:F2
 | .lst ds,.int i,R=>∃ d,yU ds i=some d/\R d
 | .tup ds,.int i,R=>∃ d,yU ds i=some d/\R d
 | .scr ns,.int i,R=>∃ n,yU ns i=some n/\R (.int n)
 | _,_,_=>False
theorem gL {α β:Type} (f:α->β) (xs:List α) (i:Int):yU (xs.map f) i=(yU xs i).map f:=by
 unfold yU
 rw [List.length_map]
 cases wM xs.length i with
 | none=>rfl
 | some j=>exact List.getElem?_map ..
theorem zQl {K:PySem.W.Frag}:wx (kz K) XT:=λZ H x y a b R Q zd hx hy h q=>by
 unfold XT at h
 split at h
 ·obtain ⟨p,xs,rfl,e1,h1⟩:=hx.lst_inv
  cases hy
  obtain ⟨d,hd,hR⟩:=h
  obtain ⟨v,hv,hh⟩:=XS h1 hd
  exact ⟨p,xs,_,v,rfl,rfl,.inr (zR.of (zx _ _ e1)),hv,q _ _ H hR (zF.refl _) hh⟩
 ·obtain ⟨p,xs,rfl,e1,h1⟩:=hx.tup_inv
  cases hy
  obtain ⟨d,hd,hR⟩:=h
  obtain ⟨v,hv,hh⟩:=XS h1 hd
  exact ⟨p,xs,_,v,rfl,rfl,.inl (zt.of (zx _ _ e1)),hv,q _ _ H hR (zF.refl _) hh⟩
 ·cases hy
  cases hx with
  | scr e=>
  obtain ⟨n,hn,hR⟩:=h
  exact ⟨_,_,_,.int n,rfl,rfl,.inr (.inl (XI zx e)),by rw [gL,hn]; rfl,q _ _ H hR (zF.refl _) (.int n)⟩
 ·exact h.elim
theorem zT (ha:PE X a (tP pa)) (hb:PE X b (tP pb)) (hs:Wx b):PE X (.Subscript a b pos) (tP (xy XT pa pb)):=yM (v5 zPW ha hb hs) (XN zQl)
theorem ZQ {X:Cx} {e:Option Expr} {t t':TO} (h:PO X e t) (w:∀ σ H Q,t' σ H Q->t σ H Q):PO X e t':=λpins s σ H Q I q=>h pins s σ H Q I (w σ H Q q)
def zPK:ZF:=λ_ R=>R none
def iD:D->(Option Int->Prop)->Prop
 | .int i,R=>R (some i)
 | _,_=>False
def ZR (pa:yN):ZF:=λΓ R=>pa Γ λd=>iD d R
theorem y8:PO X none (ZG zPK):=ZQ zPF λσ H Q ⟨_,_,_,_,h,q⟩=>q _ H h (zF.refl _)
theorem yh (h:PE X e (tP pa)):PO X (some e) (ZG (ZR pa)):=ZQ (zPE h) λσ H Q ⟨Z,Γ,R,E,h,q⟩=>
 ⟨Z,Γ,_,E,h,λd v H1 hd s1 hv=>by
  unfold iD at hd
  split at hd
  ·cases hv; exact ⟨_,rfl,q _ H1 hd s1⟩
  ·exact hd.elim⟩
def zh {α:Type} (xs:List α) (lo hi:Option Int):List α:=(xs.drop (HT.sIx xs.length 0 lo)).take (HT.sIx xs.length xs.length hi - HT.sIx xs.length 0 lo)
theorem zLt {α β:Type} {R:α->β->Prop}:∀ {xs:List α} {ys:List β} (n:Nat),Paired R xs ys->Paired R (xs.take n) (ys.take n)
 | _,_,0,_=>.nil
 | _,_,_ + 1,.nil=>.nil
 | _,_,n + 1,.cons h t=>.cons h (zLt n t)
theorem zLu {α β:Type} {R:α->β->Prop}:∀ {xs:List α} {ys:List β} (n:Nat),Paired R xs ys->Paired R (xs.drop n) (ys.drop n)
 | _,_,0,h=>h
 | _,_,_ + 1,.nil=>.nil
 | _,_,n + 1,.cons _ t=>zLu n t
theorem zGi {α β:Type} {R:α->β->Prop} {xs:List α} {ys:List β} (h:Paired R xs ys) (lo hi:Option Int):Paired R (zh xs lo hi) (zh ys lo hi):=by
 unfold zh
 rw [Paired.length h]
 exact zLt _ (zLu _ h)
def slD:D->Option Int->Option Int->(D->Prop)->Prop
 | .lst ds,lo,hi,R=>R (.lst (zh ds lo hi))
 | .tup ds,lo,hi,R=>R (.tup (zh ds lo hi))
 | _,_,_,_=>False
def pSl (pa:yN) (po qo:ZF):yN:=λΓ R=>pa Γ λd=>po Γ λl=>qo Γ λu=>slD d l u R
theorem zP8 {X:Cx} {r r':V->Option Int->Option Int->Hp->VK->Prop} (h:jt X r) (h':jt X r'):jt X (λx l u H Q=>r x l u H Q\/r' x l u H Q):=λpins s σ H x v vl vu lo hi sl Q I r1 r2 r3 r4 q=>
 q.elim (h pins s σ H x v vl vu lo hi sl Q I r1 r2 r3 r4) (h' pins s σ H x v vl vu lo hi sl Q I r1 r2 r3 r4)
theorem yt {lo hi:Option Expr} {po qo:ZF} {p2:Pos} (ha:PE X a (tP pa)) (hl:PO X lo (ZG po)) (hu:PO X hi (ZG qo)):PE X (.Subscript a (.Slice lo hi none p2) pos) (tP (pSl pa po qo)):=yM (zNk (zP8 zO7 zN9) ha hl hu) λσ H Q ⟨Z,Γ,R,E,h,q⟩=>
 ⟨Z,Γ,_,E,h,λd v H1 hd s1 hv=>⟨Z,Γ,_,E.same s1,hd,λl H2 hl s2=>⟨Z,Γ,_,E.same (s1.trans s2),hl,λu H3 hu s3=>by
  have s:=s1.trans (s2.trans s3)
  have hv:=hv.same (yg (s2.trans s3))
  have zd:=(E.same s).zd
  unfold slD at hu
  split at hu
  ·obtain ⟨p,xs,rfl,e1,h1⟩:=hv.lst_inv
   exact .inl ⟨p,xs,rfl,zR.of (zx _ _ e1),λn hn=>q _ _ _ hu (s.trans (xL hn _)) (jT zd hn (zGi h1 _ _))⟩
  ·obtain ⟨p,xs,rfl,e1,h1⟩:=hv.tup_inv
   exact .inr ⟨p,xs,rfl,zx _ _ e1,λn H' s' e=>q _ _ _ hu (s.trans s') (K8 (zd.same s') e (xR (yg s') (zGi h1 _ _)))⟩
  ·exact hu.elim⟩⟩⟩
abbrev FL:=List D->(D->Prop)->Prop
def uc (r:List V->Hp->VK->Prop) (f:FL):Prop:=∀ (Z:Addr->Prop) (H:Hp) (vs:List V) (ds:List D) (R:D->Prop) (Q:VK),ZL Z H->yX (zQ Z H) vs ds->f ds R->(∀ d v H',R d->zF H H'->DV (zQ Z H') v d->Q v H')->r vs H Q
def jV (f:FL) (pl:xP):yN:=λΓ R=>pl Γ λds=>f ds R
theorem zLN {r:List V->Hp->VK->Prop} {f:FL} (o:uc r f) (σ:St) (H:Hp) (Q:VK):tP (jV f pl) σ H Q->kK r (wX pl) σ H Q:=λ⟨Z,Γ,R,E,h,q⟩=>
 ⟨Z,Γ,_,E,h,λds vs H1 hd s1 hv=>o Z H1 vs ds R Q (E.same s1).zd hv hd λd v H2 h2 s2 hv2=>q d v H2 h2 (s1.trans s2) hv2⟩
theorem zq {x:Str} {id:String} {p:Pos} {r:List V->Hp->VK->Prop} {f:FL} (hc:vh X (.builtin id) r) (o:uc r f) (hg:Gl X x) (hm:X.mg x=none) (hv:bootBuiltins x=some (.builtin id)) (ha:PA X (e :: es) (wX pl)) (hn:x≠"__name__":=by decide) (hdb:(x == ("__debug__" : Str))=false:=by decide)
  (he:starEach (e :: es) X.env=(false,eval e X.env) :: starEach es X.env:=by rfl) (hpl:(backTo pos (starEach es X.env)).any (·.1)=false:=by rfl):PE X (.Call (.Name x p) (e :: es) [] pos) (tP (jV f pl)):=yM (xj hc hg hm hv ha hn hdb he hpl) (zLN o)
theorem xI {x:Str} {T:String} {p:Pos} {r:List V->Hp->VK->Prop} {f:FL} (hc:vh X (.type T) r) (o:uc r f) (hg:Gl X x) (hm:X.mg x=none) (hv:bootBuiltins x=some (.type T)) (ha:PA X (e :: es) (wX pl)) (hn:x≠"__name__":=by decide) (hdb:(x == ("__debug__" : Str))=false:=by decide)
  (he:starEach (e :: es) X.env=(false,eval e X.env) :: starEach es X.env:=by rfl) (hpl:(backTo pos (starEach es X.env)).any (·.1)=false:=by rfl):PE X (.Call (.Name x p) (e :: es) [] pos) (tP (jV f pl)):=yM (Wv hc hg hm hv ha hn hdb he hpl) (zLN o)
def ZS:FL
 | [.lst ds],R=>R (.int ds.length)
 | [.tup ds],R=>R (.int ds.length)
 | [.scr ns],R=>R (.int ns.length)
 | _,_=>False
theorem xK {H:Hp} {vs:List V} {d:D} (h:yX H vs [d]):∃ v,vs=[v]/\DV H v d:=by
 cases h with
 | cons h t=>cases t; exact ⟨_,rfl,h⟩
theorem vq {H:Hp} {vs:List V} {d e:D} (h:yX H vs [d,e]):∃ v w,vs=[v,w]/\DV H v d/\DV H w e:=by
 cases h with
 | cons h t=>obtain ⟨w,rfl,k⟩:=xK t; exact ⟨_,_,rfl,h,k⟩
theorem yZ {K:PySem.W.Frag}:uc (λxs H Q=>∃ p ys,xs=[.ref p]/\(zR K H p ys\/zt K H p ys)/\Q (.int ys.length) H) ZS:=λZ H vs ds R Q zd hv h q=>by
 unfold ZS at h
 split at h
 ·obtain ⟨v,rfl,hw⟩:=xK hv
  obtain ⟨p,xs,rfl,e1,h1⟩:=hw.lst_inv
  exact ⟨p,xs,rfl,.inl (zR.of (zx _ _ e1)),by rw [Paired.length h1]; exact q _ _ H h (zF.refl _) (.int _)⟩
 ·obtain ⟨v,rfl,hw⟩:=xK hv
  obtain ⟨p,xs,rfl,e1,h1⟩:=hw.tup_inv
  exact ⟨p,xs,rfl,.inr (zt.of (zx _ _ e1)),by rw [Paired.length h1]; exact q _ _ H h (zF.refl _) (.int _)⟩
 ·obtain ⟨v,rfl,hw⟩:=xK hv
  cases hw with
  | scr e=>exact ⟨_,_,rfl,.inl (.inl (XI zx e)),by rw [List.length_map]; exact q _ _ H h (zF.refl _) (.int _)⟩
 ·exact h.elim
def zQp:FL
 | [.lst ds],R=>R (.lst ds)
 | [.tup ds],R=>R (.lst ds)
 | _,_=>False
theorem uQ {K:PySem.W.Frag}:uc (λxs H Q=>∃ p ys,xs=[.ref p]/\(zR K H p ys\/zt K H p ys)/\∀ l,H l=none->Q (.ref l) (zU H l (.lst ys))) zQp:=λZ H vs ds R Q zd hv h q=>by
 unfold zQp at h
 split at h
 ·obtain ⟨v,rfl,hw⟩:=xK hv
  obtain ⟨p,xs,rfl,e1,h1⟩:=hw.lst_inv
  exact ⟨p,xs,rfl,.inl (zR.of (zx _ _ e1)),λl hl=>q _ _ _ h (xL hl _) (jT zd hl h1)⟩
 ·obtain ⟨v,rfl,hw⟩:=xK hv
  obtain ⟨p,xs,rfl,e1,h1⟩:=hw.tup_inv
  exact ⟨p,xs,rfl,.inr (zt.of (zx _ _ e1)),λl hl=>q _ _ _ h (xL hl _) (jT zd hl h1)⟩
 ·exact h.elim
def ZT:FL
 | [.lst ds],R=>R (.tup ds)
 | [.tup ds],R=>R (.tup ds)
 | _,_=>False
theorem wg {K:PySem.W.Frag}:uc (λxs H Q=>∃ p ys,xs=[.ref p]/\((zR K H p ys/\∀ l,H l=none->Q (.ref l) (zU H l (.tup ys)))\/(zt K H p ys/\Q (.ref p) H))) ZT:=λZ H vs ds R Q zd hv h q=>by
 unfold ZT at h
 split at h
 ·obtain ⟨v,rfl,hw⟩:=xK hv
  obtain ⟨p,xs,rfl,e1,h1⟩:=hw.lst_inv
  exact ⟨p,xs,rfl,.inl ⟨zR.of (zx _ _ e1),λl hl=>q _ _ _ h (xL hl _) (XQ zd hl h1)⟩⟩
 ·obtain ⟨v,rfl,hw⟩:=xK hv
  obtain ⟨p,xs,rfl,e1,h1⟩:=hw.tup_inv
  exact ⟨p,xs,rfl,.inr ⟨zt.of (zx _ _ e1),q _ _ _ h (zF.refl _) hw⟩⟩
 ·exact h.elim
def ZU:FL
 | [.lst ds],R=>∃ ns:List Int,ds=ns.map D.int/\R (.int ns.sum)
 | _,_=>False
theorem qI {K:PySem.W.Frag}:uc (λxs H Q=>∃ (p:Addr) (ns:List Int),xs=[.ref p]/\zR K H p (ns.map V.int)/\Q (.int ns.sum) H) ZU:=λZ H vs ds R Q zd hv h q=>by
 unfold ZU at h
 split at h
 ·obtain ⟨v,rfl,hw⟩:=xK hv
  obtain ⟨p,xs,rfl,e1,h1⟩:=hw.lst_inv
  obtain ⟨ns,rfl,h⟩:=h
  cases UR h1
  exact ⟨p,ns,rfl,zR.of (zx _ _ e1),q _ _ H h (zF.refl _) (.int _)⟩
 ·exact h.elim
def ZV:FL
 | [.lst ds],R=>∃ bs:List Bool,ds=bs.map D.bool/\R (.bool (bs.all id))
 | _,_=>False
theorem vQ {K:PySem.W.Frag}:uc (λxs H Q=>∃ (p:Addr) (bs:List Bool),xs=[V.ref p]/\zR K H p (bs.map V.bl)/\Q (V.bl (bs.all id)) H) ZV:=λZ H vs ds R Q zd hv h q=>by
 unfold ZV at h
 split at h
 ·obtain ⟨v,rfl,hw⟩:=xK hv
  obtain ⟨p,xs,rfl,e1,h1⟩:=hw.lst_inv
  obtain ⟨ns,rfl,h⟩:=h
  cases K3 h1
  exact ⟨p,ns,rfl,zR.of (zx _ _ e1),q _ _ H h (zF.refl _) (.bool _)⟩
 ·exact h.elim
def ZW:FL
 | [.int i,.int j],R=>R (.int (max i j))
 | _,_=>False
theorem ZX:uc (λxs H Q=>∃ i j,xs=[.int i,.int j]/\Q (.int (if j > i then j else i)) H) ZW:=λZ H vs ds R Q zd hv h q=>by
 unfold ZW at h
 split at h
 ·rename_i i j
  obtain ⟨v,w,rfl,hx,hy⟩:=vq hv
  cases hx; cases hy
  refine ⟨_,_,rfl,?_⟩
  have e:(if j > i then j else i)=max i j:=by rw [Int.max_def]; split <;> split <;> omega
  rw [e]
  exact q _ _ H h (zF.refl _) (.int _)
 ·exact h.elim
def ZY:FL
 | [.int i],R=>R (.int i)
 | [.bool b],R=>R (.int (if b=true then 1 else 0))
 | _,_=>False
theorem zMx:uc (λxs H Q=>(∃ i,xs=[.int i]/\Q (.int i) H)\/∃ k,xs=[.bl k]/\Q (.int (if k then 1 else 0)) H) ZY:=λZ H vs ds R Q zd hv h q=>by
 unfold ZY at h
 split at h
 ·obtain ⟨v,rfl,hw⟩:=xK hv
  cases hw
  exact .inl ⟨_,rfl,q _ _ H h (zF.refl _) (.int _)⟩
 ·obtain ⟨v,rfl,hw⟩:=xK hv
  cases hw
  exact .inr ⟨_,rfl,q _ _ H h (zF.refl _) (.int _)⟩
 ·exact h.elim
end
end Pu
namespace Pu
open PySem L2 Sh
def setN:St->List Nat->List V->St
 | σ,j :: js,v :: vs=>setN (σ.set j (some v)) js vs
 | σ,_,_=>σ
def XU:List Sl->List Nat->List D->List Sl
 | Γ,j :: js,d :: ds=>XU (yA Γ j (.sh d)) js ds
 | Γ,_,_=>Γ
theorem zJk:∀ (σ:St) (js ks:List Nat) (vs ws:List V),js.length=vs.length->setN σ (js++ks) (vs++ws)=setN (setN σ js vs) ks ws
 | _,[],_,[],_,_=>rfl
 | σ,j :: js,ks,v :: vs,ws,h=>zJk (σ.set j (some v)) js ks vs ws (Nat.succ.inj h)
 | _,[],_,_ :: _,_,h=>nomatch h
 | _,_ :: _,_,[],_,h=>nomatch h
def gM:Option (List D)->(List D->Prop)->Prop
 | some os,k=>k os
 | none,_=>False
theorem Uj {o:Option (List D)} {k:List D->Prop} (h:gM o k):∃ os,o=some os/\k os:=by
 cases o with
 | none=>exact h.elim
 | some os=>exact ⟨os,rfl,h⟩
inductive tG (js:List Nat) (po:D->Option (List D)) (v:V) (σ:St) (H:Hp) (Q:St->Hp->Prop):Prop
 | mk (Z:Addr->Prop) (d:D) (os:List D) (hv:DV (zQ Z H) v d) (ho:po d=some os) (q:∀ vs,yX (zQ Z H) vs os->Q (setN σ js vs) H):tG js po v σ H Q
inductive tGs (js:List Nat) (po:List D->Option (List D)) (us:List V) (σ:St) (H:Hp) (Q:St->Hp->Prop):Prop
 | mk (Z:Addr->Prop) (ds os:List D) (hv:yX (zQ Z H) us ds) (ho:po ds=some os) (q:∀ vs,yX (zQ Z H) vs os->Q (setN σ js vs) H):tGs js po us σ H Q
structure gN (X:Cx) (es:List Expr) (js:List Nat) (po:List D->Option (List D)) (n:Nat):Prop where
 g:ql X es (tGs js po)
 l:∀ ds os,po ds=some os->ds.length=n
 k:∀ ds os,po ds=some os->os.length=js.length
section
variable {X:Cx} {pos:Pos}
def po1:D->Option (List D):=λd=>some [d]
theorem zy (i:Nat) {x:Str} (hN:X.N.Nodup) (hi:X.N[i]? = some x) (hx:jE X.env.scope x) (hf:X.fn x=true\/X.env.scope.names.lookup x=some .local:=by first | exact .inl rfl | exact .inr rfl | assumption):PG X (.Name x pos) (tG [i] po1):=
 λpins s σ H v u Q I r ⟨_,_,_,hv,ho,q⟩=>v0 hN hi hx hf pins s σ H v u Q I r (by
  cases ho
  exact q [v] (.cons hv .nil))
def zQP:List D->Option (List D)
 | []=>some []
 | _=>none
def zOZ (po:List D->Option (List D)):List D->Option (List D)
 | d :: ds=>(po ds).map (d :: ·)
 | []=>none
def zOa (p:D->Option (List D)) (po:List D->Option (List D)):List D->Option (List D)
 | d :: ds=>(p d).bind λa=>(po ds).map (a++·)
 | []=>none
def XV (po:List D->Option (List D)):D->Option (List D)
 | .tup ds=>po ds
 | .lst ds=>po ds
 | _=>none
theorem xh:gN X [] [] zQP 0 where
 g:=λpins s σ H vs us Q I r ⟨_,ds,os,hv,ho,q⟩=>by
  cases ds with
  | nil=>cases hv; exact QY pins s σ H [] us Q I r ⟨rfl,q [] (by cases ho; exact .nil)⟩
  | cons=>cases ho
 l:=λds os h=>by cases ds with | nil=>rfl | cons=>cases h
 k:=λds os h=>by cases ds with | nil=>cases h; rfl | cons=>cases h
theorem zk (i:Nat) {x:Str} {es:List Expr} {js:List Nat} {po:List D->Option (List D)} {n:Nat} (hN:X.N.Nodup) (hi:X.N[i]? = some x) (hx:jE X.env.scope x) (h:gN X es js po n)
  (hs:(assignEach (.Name x pos :: es) X.env).map (·.2)=assign (.Name x pos) X.env :: (assignEach es X.env).map (·.2):=by rfl) (hf:X.fn x=true\/X.env.scope.names.lookup x=some .local:=by first | exact .inl rfl | exact .inr rfl | assumption):gN X (.Name x pos :: es) (i :: js) (zOZ po) (n + 1) where
 g:=λpins s σ H vs us Q I r ⟨Z,ds,os,hv,ho,q⟩=>by
  cases hv with
  | nil=>cases ho
  | @cons v d vt dt hv ht=>
   change (po dt).map (d :: ·)=some os at ho
   cases e:po dt with
   | none=>rw [e] at ho; cases ho
   | some os'=>
    rw [e] at ho
    cases ho
    exact Yc (v0 hN hi hx hf) h.g hs pins s σ H _ us Q I r ⟨v,vt,rfl,Z,dt,os',ht,e,λvs hvs=>q (v :: vs) (.cons hv hvs)⟩
 l:=λds os q=>by
  cases ds with
  | nil=>cases q
  | cons d dt=>
   change (po dt).map (d :: ·)=some os at q
   cases e:po dt with
   | none=>rw [e] at q; cases q
   | some os'=>rw [List.length_cons,h.l dt os' e]
 k:=λds os q=>by
  cases ds with
  | nil=>cases q
  | cons d dt=>
   change (po dt).map (d :: ·)=some os at q
   cases e:po dt with
   | none=>rw [e] at q; cases q
   | some os'=>rw [e] at q; cases q; rw [List.length_cons,List.length_cons,h.k dt os' e]
theorem wR {H:Hp} {vs:List V} {ds:List D} (h:yX H vs ds):vs.length=ds.length:=Paired.length h
theorem zLj {e:Expr} {es:List Expr} {js ks:List Nat} {p:D->Option (List D)} {po:List D->Option (List D)} {n:Nat} (h1:PG X e (tG js p)) (hk:∀ d os,p d=some os->os.length=js.length) (h:gN X es ks po n)
  (hs:(assignEach (e :: es) X.env).map (·.2)=assign e X.env :: (assignEach es X.env).map (·.2):=by rfl):gN X (e :: es) (js++ks) (zOa p po) (n + 1) where
 g:=λpins s σ H vs us Q I r ⟨Z,ds,os,hv,ho,q⟩=>by
  cases hv with
  | nil=>cases ho
  | @cons v d vt dt hv ht=>
   change (p d).bind (λa=>(po dt).map (a++·))=some os at ho
   cases e1:p d with
   | none=>rw [e1] at ho; cases ho
   | some a=>
    rw [e1] at ho
    change (po dt).map (a++·)=some os at ho
    cases e2:po dt with
    | none=>rw [e2] at ho; cases ho
    | some b=>
     rw [e2] at ho
     cases ho
     refine Yc h1 h.g hs pins s σ H _ us Q I r ⟨v,vt,rfl,Z,d,a,hv,e1,λvs1 h1=>⟨Z,dt,b,ht,e2,λvs2 h2=>?_⟩⟩
     rw [<- zJk σ js ks vs1 vs2 (by rw [wR h1,hk d a e1])]
     exact q _ (gD h1 h2)
 l:=λds os q=>by
  cases ds with
  | nil=>cases q
  | cons d dt=>
   change (p d).bind (λa=>(po dt).map (a++·))=some os at q
   cases e1:p d with
   | none=>rw [e1] at q; cases q
   | some a=>
    rw [e1] at q
    change (po dt).map (a++·)=some os at q
    cases e2:po dt with
    | none=>rw [e2] at q; cases q
    | some b=>rw [List.length_cons,h.l dt b e2]
 k:=λds os q=>by
  cases ds with
  | nil=>cases q
  | cons d dt=>
   change (p d).bind (λa=>(po dt).map (a++·))=some os at q
   cases e1:p d with
   | none=>rw [e1] at q; cases q
   | some a=>
    rw [e1] at q
    change (po dt).map (a++·)=some os at q
    cases e2:po dt with
    | none=>rw [e2] at q; cases q
    | some b=>rw [e2] at q; cases q; rw [List.length_append,List.length_append,h.k dt b e2,hk d a e1]
theorem uR {po:List D->Option (List D)} {js:List Nat} (h:∀ ds os,po ds=some os->os.length=js.length):∀ d os,XV po d=some os->os.length=js.length:=λd os q=>by
 unfold XV at q
 split at q
 ·exact h _ _ q
 ·exact h _ _ q
 ·cases q
theorem xi {es:List Expr} {js:List Nat} {po:List D->Option (List D)} {n k:Nat} (hc:X.calm=true) (h:gN X es js po n) (hn:(assignEach es X.env).length=n:=by rfl) (hst:(assignEach es X.env).findIdx? (·.1)=none:=by rfl):PG X (.Tuple es k pos) (tG js (XV po)):=
 λpins s σ H v u Q I r ⟨Z,d,os,hv,ho,q⟩=>by
  unfold XV at ho
  split at ho
  ·obtain ⟨p,xs,rfl,e,hx⟩:=hv.tup_inv
   exact QZ hc h.g hn hst pins s σ H _ u Q I r ⟨p,xs,rfl,zt.of (zx _ _ e),by rw [wR hx]; exact h.l _ _ ho,Z,_,os,hx,ho,q⟩
  ·obtain ⟨p,xs,rfl,e,hx⟩:=hv.lst_inv
   exact zQU hc h.g hn hst pins s σ H _ u Q I r ⟨p,xs,rfl,zR.of (zx _ _ e),by rw [wR hx]; exact h.l _ _ ho,Z,_,os,hx,ho,q⟩
  ·cases ho
end
def Wk (Z:Addr->Prop) (J:It) (H:Hp) (ds:List D):Prop:=∀ i Z' H',zF (zQ Z H) (zQ Z' H')->ZL Z' H'->(∀ d,ds[i]? = some d->J.go i H'/\∀ x H'',J.yld i H' x H''->zF H' H''/\DV (zQ Z' H'') x d)/\(i=ds.length->J.stop i H')
inductive jW (p:xP) (σ:St) (H:Hp) (Q:It->Hp->Prop):Prop
 | mk (Z:Addr->Prop) (Γ:List Sl) (R:List D->Prop) (E:yd Z Γ σ H) (h:p Γ R) (q:∀ ds J H',R ds->zF H H'->Wk Z J H' ds->Q J H'):jW p σ H Q
theorem ZZ {α β:Type} {R:α->β->Prop} {xs:List α} {ys:List β} (h:Paired R xs ys) {j:Nat} {y:β} (e:ys[j]? = some y):∃ x,xs[j]? = some x/\R x y:=XS.go h e
section
variable {X:Cx} {tg e e1 e2:Expr} {pos:Pos} {pa:yN} {pl:xP}
theorem XW {w w':TI} (h:PI X tg e w) (k:∀ σ H R,w' σ H R->w σ H R):PI X tg e w':=λpins s σ H R I q=>h pins s σ H R I (k σ H R q)
def Uk (K:PySem.W.Frag) (tl:TE):TI:=λσ H R=>tl σ H λx H1=>(∃ a,x=.ref a/\(∃ xs,zR K H1 a xs)/\R (jF K a) H1)\/∃ a,x=.ref a/\(∃ xs,zt K H1 a xs)/\R (Wl K a) H1
theorem zQT {l:Expr} {tl:TE} (hl:PE X l tl):PI X tg l (Uk X.K tl):=by
 intro pins s σ H R I h
 refine zi (hl pins s σ H _ I h) λv s1 ⟨x,H1,I1,r1,q1⟩=>?_
 rcases q1 with ⟨a,e,⟨xs,hq⟩,q⟩ | ⟨a,e,⟨xs,hq⟩,q⟩
 ·subst e
  cases r1
  obtain ⟨its,rv,p,hz⟩:=I1.list hq
  refine PySem.wpAny_pyIter_list p.isList ?_
  refine ⟨s1.heap.objs.size,[s1.heap.objs.size],_,_,H1,rfl,I1.kept (t':=s1.toks) λb o e=>Heap.get?_push_of_some _ e,Qb a _,⟨_,Heap.get?_push_size _ rfl,rfl,rfl⟩,λb hb=>?_,q⟩
  have e:b=s1.heap.objs.size:=by simpa using hb
  subst e
  exact I1.fpOk (Nat.le_refl _) (I1.hok.fresh (Nat.le_refl _))
 ·subst e
  cases r1
  obtain ⟨its,rv,p,hz⟩:=I1.tuple hq
  refine PySem.wpAny_pyIter_tuple (show s1.heap.IsTuple a its.toArray from p) ?_
  refine ⟨s1.heap.objs.size,[s1.heap.objs.size],_,_,H1,rfl,I1.kept (t':=s1.toks) λb o e=>Heap.get?_push_of_some _ e,zKY a _,⟨_,Heap.get?_push_size _ rfl,rfl,rfl⟩,λb hb=>?_,q⟩
  have e:b=s1.heap.objs.size:=by simpa using hb
  subst e
  exact I1.fpOk (Nat.le_refl _) (I1.hok.fresh (Nat.le_refl _))
def qJ:D->(List D->Prop)->Prop
 | .lst ds,R=>R ds
 | .tup ds,R=>R ds
 | _,_=>False
def Za (pa:yN):xP:=λΓ R=>pa Γ λd=>qJ d R
theorem zOw {K:PySem.W.Frag} {Z:Addr->Prop} {H:Hp} {p:Addr} {xs:List V} {ds:List D} (e:zQ Z H p=some (.lst xs)) (h:yX (zQ Z H) xs ds):Wk Z (jF K p) H ds:=λi Z' H' s zd=>by
 have e1:=zx _ _ (s _ _ e)
 refine ⟨λd hd=>?_,λhi=>⟨xs,zR.of e1,by rw [wR h]; omega⟩⟩
 obtain ⟨x,hx,hh⟩:=ZZ h hd
 refine ⟨⟨xs,x,zR.of e1,hx⟩,λy H'' ⟨e2,hy⟩=>?_⟩
 subst e2
 have:=hy xs (zR.of e1)
 rw [hx] at this
 cases this
 exact ⟨zF.refl _,hh.same s⟩
theorem zPx {K:PySem.W.Frag} {Z:Addr->Prop} {H:Hp} {p:Addr} {xs:List V} {ds:List D} (e:zQ Z H p=some (.tup xs)) (h:yX (zQ Z H) xs ds):Wk Z (Wl K p) H ds:=λi Z' H' s zd=>by
 have e1:=zx _ _ (s _ _ e)
 refine ⟨λd hd=>?_,λhi=>⟨xs,zt.of e1,by rw [wR h]; omega⟩⟩
 obtain ⟨x,hx,hh⟩:=ZZ h hd
 refine ⟨⟨xs,x,zt.of e1,hx⟩,λy H'' ⟨e2,hy⟩=>?_⟩
 subst e2
 have:=hy xs (zt.of e1)
 rw [hx] at this
 cases this
 exact ⟨zF.refl _,hh.same s⟩
theorem yy (ha:PE X e (tP pa)):PI X tg e (jW (Za pa)):=XW (zQT ha) λσ H Q ⟨Z,Γ,R,E,h,q⟩=>
 ⟨Z,Γ,_,E,h,λd v H1 hd s1 hv=>by
  unfold qJ at hd
  split at hd
  ·obtain ⟨p,xs,rfl,e,hx⟩:=hv.lst_inv
   exact .inl ⟨p,rfl,⟨xs,zR.of (zx _ _ e)⟩,q _ _ H1 hd s1 (zOw e hx)⟩
  ·obtain ⟨p,xs,rfl,e,hx⟩:=hv.tup_inv
   exact .inr ⟨p,rfl,⟨xs,zt.of (zx _ _ e)⟩,q _ _ H1 hd s1 (zPx e hx)⟩
  ·exact hd.elim⟩
def rng (lo:Int) (n:Nat):List D:=(List.range n).map λk:Nat=>D.int (lo + (k:Int))
theorem zNH {Z:Addr->Prop} {H:Hp} {lo:Int} {n:Nat}:Wk Z (jG lo n) H (rng lo n):=λi Z' H' s zd=>by
 refine ⟨λd hd=>?_,λhi=>?_⟩
 ·unfold rng at hd
  rw [List.getElem?_map] at hd
  have hlt:i < n:=by
   apply Classical.byContradiction
   intro c
   rw [List.getElem?_eq_none (by rw [List.length_range]; omega)] at hd
   cases hd
  rw [List.getElem?_range hlt] at hd
  cases hd
  exact ⟨hlt,λx H'' ⟨e1,e2⟩=>by subst e1; subst e2; exact ⟨zF.refl _,.int _⟩⟩
 ·show n<=i
  rw [hi]
  unfold rng
  rw [List.length_map,List.length_range]
  exact Nat.le_refl _
def rng0 (n:Nat):List D:=(List.range n).map λk:Nat=>D.int (k:Int)
theorem Ul (n:Nat):rng0 n=rng 0 n:=List.map_congr_left λk _=>by rw [Int.zero_add]
theorem qK {n k:Nat} {d:D} (h:(rng0 n)[k]? = some d):k < n/\d=.int (k:Int):=by
 unfold rng0 at h
 rw [List.getElem?_map] at h
 by_cases c:k < n
 ·rw [List.getElem?_range c] at h
  exact ⟨c,(Option.some.inj h).symm⟩
 ·rw [List.getElem?_eq_none (by rw [List.length_range]; omega)] at h
  cases h
theorem qL (n:Nat):(rng0 n).length=n:=by unfold rng0; rw [List.length_map,List.length_range]
def zQC:List D->(List D->Prop)->Prop
 | [.int j],R=>-1000<=j/\j<=1000/\R (rng0 j.toNat)
 | _,_=>False
def pLI (f:List D->(List D->Prop)->Prop) (pl:xP):xP:=λΓ R=>pl Γ λds=>f ds R
theorem xn {p:Pos} (hg:Gl X "range") (hm:X.mg "range" = none) (ha:PA X [e] (wX pl)) (hs:starEach [e] X.env=[(false,eval e X.env)]:=by rfl):PI X tg (.Call (.Name "range" p) [e] [] pos) (jW (pLI zQC pl)):=XW (qt hg hm ha hs) λσ H Q ⟨Z,Γ,R,E,h,q⟩=>
 ⟨Z,Γ,_,E,h,λds vs H1 hd s1 hv=>by
  unfold zQC at hd
  split at hd
  ·obtain ⟨h1,h2,hd⟩:=hd
   obtain ⟨v,rfl,hw⟩:=xK hv
   cases hw
   rw [Ul] at hd
   exact ⟨_,rfl,by omega,by omega,q _ _ H1 hd s1 zNH⟩
  ·exact hd.elim⟩
abbrev xQ (x y:D):D:=.tup [x,y]
theorem zOO {α β γ:Type} (f:α->β->γ):∀ {xs:List α} {ys:List β} {i:Nat} {z:γ},(List.zipWith f xs ys)[i]? = some z->∃ x y,xs[i]? = some x/\ys[i]? = some y/\z=f x y
 | [],_,_,_,h=>by simp at h
 | _ :: _,[],_,_,h=>by simp at h
 | x :: _,y :: _,0,_,h=>by simp at h; exact ⟨x,y,rfl,rfl,h.symm⟩
 | _ :: xs,_ :: ys,i + 1,z,h=>by
  obtain ⟨x,y,h1,h2,h3⟩:=zOO f (xs:=xs) (ys:=ys) (i:=i) (z:=z) (by simpa using h)
  exact ⟨x,y,by simpa using h1,by simpa using h2,h3⟩
theorem XX {S1 S2:Hp->Addr->List V->Prop} {Z:Addr->Prop} {H:Hp} {p r:Addr} {xs ys:List V} {ds es:List D} (h1:∀ Z' H',zF (zQ Z H) (zQ Z' H')->S1 H' p xs) (h2:∀ Z' H',zF (zQ Z H) (zQ Z' H')->S2 H' r ys) (hx:yX (zQ Z H) xs ds) (hy:yX (zQ Z H) ys es) :
  Wk Z ⟨λi H=>∃ xs ys x y,S1 H p xs/\S2 H r ys/\xs[i]? = some x/\ys[i]? = some y,λi H v H'=>∃ T x y,v=.ref T/\H T=none/\H'=zU H T (.tup [x,y])/\(∀ xs,S1 H p xs->xs[i]? = some x)/\∀ ys,S2 H r ys->ys[i]? = some y,
   λi H=>∃ xs ys,S1 H p xs/\S2 H r ys/\i<=xs.length/\i<=ys.length/\(i=xs.length\/i=ys.length)⟩ H (List.zipWith xQ ds es):=λi Z' H' s zd=>by
 have a1:=h1 Z' H' s
 have a2:=h2 Z' H' s
 have l1:=wR hx
 have l2:=wR hy
 refine ⟨λd hd=>?_,λhi=>?_⟩
 ·obtain ⟨a,b,ha,hb,rfl⟩:=zOO _ hd
  obtain ⟨x,gx,kx⟩:=ZZ hx ha
  obtain ⟨y,gy,ky⟩:=ZZ hy hb
  refine ⟨⟨xs,ys,x,y,a1,a2,gx,gy⟩,λv H'' ⟨T,x',y',ev,hT,eH,q1,q2⟩=>?_⟩
  have:=q1 xs a1
  rw [gx] at this
  cases this
  have:=q2 ys a2
  rw [gy] at this
  cases this
  subst ev
  subst eH
  exact ⟨xL hT _,XQ zd hT (.cons (kx.same s) (.cons (ky.same s) .nil))⟩
 ·rw [List.length_zipWith] at hi
  exact ⟨xs,ys,a1,a2,by omega,by omega,by omega⟩
def uS:List D->(List D->Prop)->Prop
 | [.lst ds,.lst es],R=>R (List.zipWith xQ ds es)
 | [.lst ds,.tup es],R=>R (List.zipWith xQ ds es)
 | [.tup ds,.lst es],R=>R (List.zipWith xQ ds es)
 | [.tup ds,.tup es],R=>R (List.zipWith xQ ds es)
 | _,_=>False
theorem ud {ts:List Expr} {kk:Nat} {tp p:Pos} (hg:Gl X "zip") (hm:X.mg "zip" = none) (ha:PA X [e1,e2] (wX pl)) (hs:starEach [e1,e2] X.env=[(false,eval e1 X.env),(false,eval e2 X.env)]:=by rfl) (hs2:starEach [e2] X.env=[(false,eval e2 X.env)]:=by rfl) :
  PI X (.Tuple ts kk tp) (.Call (.Name "zip" p) [e1,e2] [] pos) (jW (pLI uS pl)):=XW (zPH hg hm ha hs hs2) λσ H Q ⟨Z,Γ,R,E,h,q⟩=>
 ⟨Z,Γ,_,E,h,λds vs H1 hd s1 hv=>by
  unfold uS at hd
  split at hd
  ·obtain ⟨v,w,rfl,hx,hy⟩:=vq hv
   obtain ⟨a,xs,rfl,ea,ha⟩:=hx.lst_inv
   obtain ⟨b,ys,rfl,eb,hb⟩:=hy.lst_inv
   exact ⟨a,b,rfl,.inr (.inl ⟨⟨xs,zR.of (zx _ _ ea)⟩,⟨ys,zR.of (zx _ _ eb)⟩,q _ _ H1 hd s1 (XX (λ_ _ s=>zR.of (zx _ _ (s _ _ ea))) (λ_ _ s=>zR.of (zx _ _ (s _ _ eb))) ha hb)⟩)⟩
  ·obtain ⟨v,w,rfl,hx,hy⟩:=vq hv
   obtain ⟨a,xs,rfl,ea,ha⟩:=hx.lst_inv
   obtain ⟨b,ys,rfl,eb,hb⟩:=hy.tup_inv
   exact ⟨a,b,rfl,.inr (.inr (.inr ⟨⟨xs,zR.of (zx _ _ ea)⟩,⟨ys,zt.of (zx _ _ eb)⟩,q _ _ H1 hd s1 (XX (λ_ _ s=>zR.of (zx _ _ (s _ _ ea))) (λ_ _ s=>zt.of (zx _ _ (s _ _ eb))) ha hb)⟩))⟩
  ·obtain ⟨v,w,rfl,hx,hy⟩:=vq hv
   obtain ⟨a,xs,rfl,ea,ha⟩:=hx.tup_inv
   obtain ⟨b,ys,rfl,eb,hb⟩:=hy.lst_inv
   exact ⟨a,b,rfl,.inl ⟨⟨xs,zt.of (zx _ _ ea)⟩,⟨ys,zR.of (zx _ _ eb)⟩,q _ _ H1 hd s1 (XX (λ_ _ s=>zt.of (zx _ _ (s _ _ ea))) (λ_ _ s=>zR.of (zx _ _ (s _ _ eb))) ha hb)⟩⟩
  ·obtain ⟨v,w,rfl,hx,hy⟩:=vq hv
   obtain ⟨a,xs,rfl,ea,ha⟩:=hx.tup_inv
   obtain ⟨b,ys,rfl,eb,hb⟩:=hy.tup_inv
   exact ⟨a,b,rfl,.inr (.inr (.inl ⟨⟨xs,zt.of (zx _ _ ea)⟩,⟨ys,zt.of (zx _ _ eb)⟩,q _ _ H1 hd s1 (XX (λ_ _ s=>zt.of (zx _ _ (s _ _ ea))) (λ_ _ s=>zt.of (zx _ _ (s _ _ eb))) ha hb)⟩))⟩
  ·exact hd.elim⟩
end
end Pu
namespace Pu
open PySem L2 Sh
def un:Sl->Sl
 | .sh d=>.sh d
 | _=>.no
theorem zJh:∀ (Γ:List Sl) (i:Nat),slot Γ i=(Γ[i]?).getD .no
 | [],_=>rfl
 | _ :: _,0=>rfl
 | _ :: t,i + 1=>(zJh t i).trans (by rw [List.getElem?_cons_succ])
theorem Zb {s:Sl} {d:D} (h:un s=.sh d):s=.sh d:=by cases s <;> first | exact h | cases h
theorem Zc {s:Sl} {ds:List D} (h:un s=.ow ds):False:=by cases s <;> cases h
theorem Zd {s:Sl} {o c:Addr} {ns:List Str} {ds:List D} (h:un s=.ob o c ns ds):False:=by cases s <;> cases h
theorem XY {os:List D} {l:List Sl} (hl:∀ i o c ns ds,slot l i≠.ob o c ns ds):∀ i o c ns ds,slot (os.map Sl.sh++l) i≠.ob o c ns ds:=λi o c ns ds h=>by
 induction os generalizing i with
 | nil=>exact hl i o c ns ds h
 | cons d t ih=>
  cases i with
  | zero=>cases h
  | succ i=>exact ih i h
theorem XZ {os:List D} {l:List Sl} (hl:∀ i ds,slot l i≠.ow ds):∀ i ds,slot (os.map Sl.sh++l) i≠.ow ds:=λi ds h=>by
 induction os generalizing i with
 | nil=>exact hl i ds h
 | cons d t ih=>
  cases i with
  | zero=>cases h
  | succ i=>exact ih i h
theorem Xa (Γ:List Sl):∀ (js:List Nat) (i:Nat),slot (js.map λj=>un (slot Γ j)) i=match js[i]? with | some j=>un (slot Γ j) | none=>.no
 | [],_=>rfl
 | _ :: _,0=>rfl
 | _ :: js,i + 1=>by
  rw [List.getElem?_cons_succ]
  exact Xa Γ js i
theorem zPn {Z:Addr->Prop} {Γ:List Sl} {σ:St} {H:Hp} (E:yd Z Γ σ H) {js:List Nat} {vs:List V} {os:List D} (h:yX (zQ Z H) vs os):yd Z (os.map Sl.sh++js.map λj=>un (slot Γ j)) (vs.map some++js.map λj=>(σ[j]?).getD none) H:=by
 have no:∀ i ds,slot (os.map Sl.sh++js.map λj=>un (slot Γ j)) i≠.ow ds:=XZ λi ds h=>by
  rw [Xa] at h
  split at h
  ·exact Zc h
  ·cases h
 have nob:∀ i o c ns ds,slot (os.map Sl.sh++js.map λj=>un (slot Γ j)) i≠.ob o c ns ds:=XY λi o c ns ds h=>by
  rw [Xa] at h
  split at h
  ·exact Zd h
  ·cases h
 refine ⟨?_,λi ds e=>absurd e (no i ds),λi o c ns ds e=>absurd e (nob i o c ns ds),λi _ ds _ _ e=>absurd e (no i ds),E.zd,?_⟩
 clear nob
 ·induction h with
  | nil=>
   intro i d e
   change slot (js.map λj=>un (slot Γ j)) i=_ at e
   show ∃ v,(js.map λj=>(σ[j]?).getD none)[i]? = some (some v)/\_
   rw [Xa] at e
   rw [List.getElem?_map]
   cases k:js[i]? with
   | none=>rw [k] at e; cases e
   | some j=>
    rw [k] at e
    obtain ⟨v,h1,h2⟩:=E.sh j d (Zb e)
    exact ⟨v,by show some ((σ[j]?).getD none)=_; rw [h1]; rfl,h2⟩
  | @cons v d vs ds hv _ ih=>
   intro i e q
   cases i with
   | zero=>cases q; exact ⟨v,rfl,hv⟩
   | succ i=>
    obtain ⟨u,h1,h2⟩:=ih (λi=>no (i + 1)) i e q
    exact ⟨u,by rw [List.map_cons,List.cons_append,List.getElem?_cons_succ]; exact h1,h2⟩
 ·rw [List.length_append,List.length_append,List.length_map,List.length_map,List.length_map,List.length_map,wR h]
theorem zJj (c:St):∀ (pre o:St) (vs:List V),o.length=vs.length->setN (pre++(o++c)) (List.range' pre.length o.length) vs=pre++(vs.map some++c)
 | _,[],[],_=>rfl
 | _,[],_ :: _,h=>nomatch h
 | _,_ :: _,[],h=>nomatch h
 | pre,x :: o,v :: vs,h=>by
  rw [List.length_cons,List.range'_succ]
  show setN ((pre++((x :: o)++c)).set pre.length (some v)) (List.range' (pre.length + 1) o.length) vs=_
  rw [List.set_append_right _ _ (Nat.le_refl _),Nat.sub_self]
  have:=zJj c (pre++[some v]) o vs (Nat.succ.inj h)
  rw [List.length_append,List.append_assoc] at this
  rw [List.append_assoc] at this
  exact this
inductive zl (ds:List D) (G:D->(D->Prop)->Prop) (R:D->Prop):Prop
 | mk (few:ds.length<=1000) (F:D->D->Prop) (h:∀ d,d∈ds->G d (F d)) (q:∀ es,Paired F ds es->R (.lst es)):zl ds G R
def Ze (caps:List Nat) (pi:xP) (po:D->Option (List D)) (pe:yN):yN:=λΓ R=>pi Γ λds=>zl ds (λd S=>gM (po d) λos=>pe (os.map Sl.sh++caps.map λj=>un (slot Γ j)) S) R
theorem zMr {Z:Addr->Prop} {Γ:List Sl} {σ:St} {H:Hp} {own:List Str} {caps:List (Nat × Str)} {J:It} {ds:List D} {js:List Nat} {po:D->Option (List D)} {pe:yN} {Q:VK} {F:D->D->Prop} (E:yd Z Γ σ H) (wk:Wk Z J H ds) (hj:js=List.range' 0 own.length) (hk:∀ d os,po d=some os->os.length=js.length) (few:ds.length<=1000)
  (hF:∀ d,d∈ds->gM (po d) λos=>pe (os.map Sl.sh++(caps.map (·.1)).map λj=>un (slot Γ j)) (F d))
  (q:∀ es ys H' p,Paired F ds es->zF H H'->yX (zQ Z H') ys es->H' p=none->Q (.ref p) (zU H' p (.lst ys))):kW J (tG js po) (tP pe) Q (wW own caps σ) H:=by
 have hc:wW own caps σ=own.map (λ_=>none)++(caps.map (·.1)).map λj=>(σ[j]?).getD none:=by
  unfold wW
  rw [List.map_map]
  rfl
 refine ⟨λi m ys σ1 H1=>m + i=ds.length/\zF H H1/\(∃ es,Paired F (ds.take i) es/\yX (zQ Z H1) ys es)/\∃ o:St,o.length=own.length/\σ1=o++(caps.map (·.1)).map λj=>(σ[j]?).getD none,⟨ds.length,rfl,zF.refl _,⟨[],.nil,.nil⟩,_,List.length_map ..,hc⟩,?_⟩
 rintro i m ys σ1 H1 ⟨hm,s1,⟨es,he,hy⟩,o,lo,rfl⟩
 obtain ⟨w1,w2⟩:=wk i Z H1 (yg s1) (E.zd.same s1)
 have le:es.length=i:=by
  have:=Paired.length he
  rw [List.length_take] at this
  omega
 by_cases hi:i < ds.length
 ·refine .inr ⟨(w1 _ (List.getElem?_eq_getElem hi)).1,by rw [wR hy,le]; exact ut (by omega),λy σ' H'=>m - 1 + (i + 1)=ds.length/\zF H H'/\(∃ es,Paired F (ds.take (i + 1)) es/\yX (zQ Z H') (ys++[y]) es)/\∃ o:St,o.length=own.length/\σ'=o++(caps.map (·.1)).map λj=>(σ[j]?).getD none,λy σ' H' k=>⟨m - 1,by omega,k⟩,λx H' yl=>?_⟩
  obtain ⟨s2,dv⟩:=(w1 _ (List.getElem?_eq_getElem hi)).2 x H' yl
  obtain ⟨os,ho,hp⟩:=Uj (hF _ (List.getElem_mem hi))
  have lo2:=hk _ _ ho
  refine ⟨Z,_,os,dv,ho,λvs hvs=>?_⟩
  have lv:=wR hvs
  have e1:setN (o++(caps.map (·.1)).map λj=>(σ[j]?).getD none) js vs=vs.map some++(caps.map (·.1)).map λj=>(σ[j]?).getD none:=by
   rw [hj,<- lo]
   exact zJj _ [] o vs (by rw [lv,lo2,hj,List.length_range']; exact lo)
  rw [e1]
  refine ⟨Z,_,_,zPn (E.same (s1.trans s2)) hvs,hp,λd v H3 hd s3 hv=>⟨by omega,s1.trans (s2.trans s3),⟨es++[d],?_,j3 hv (xR (yg (s2.trans s3)) hy)⟩,_,?_,rfl⟩⟩
  ·rw [List.take_succ_eq_append_getElem hi]
   exact j3 hd he
  ·rw [List.length_map,lv,lo2,hj,List.length_range']
 ·have ei:i=ds.length:=by omega
  refine .inl ⟨w2 ei,λp hp=>q es ys H1 p ?_ s1 hy hp⟩
  rw [List.take_of_length_le (by omega)] at he
  exact he
section
variable {X:Cx} {scope:Scope} {own:List Str} {caps:List (Nat × Str)} {tg iter elt:Expr} {pos:Pos} {pi:xP} {po:D->Option (List D)} {pe:yN} {js:List Nat}
theorem yI (B:uZ X scope own caps) (hc:X.calm=true) (hj:js=List.range' 0 own.length) (hk:∀ d os,po d=some os->os.length=js.length) (hi:PI X tg iter (jW pi)) (hg:∀ C s₀ H₀ ex,PG (xl X scope (zb own caps) C s₀ H₀ ex) tg (tG js po))
  (he:∀ C s₀ H₀ ex,PE (xl X scope (zb own caps) C s₀ H₀ ex) elt (tP pe)) (hs:∀ x,foldedSetIterable iter X.env x=pure x:=by intro _; rfl):PE X (.ListComp elt [⟨tg,iter,[],0⟩] scope pos) (tP (Ze (caps.map (·.1)) pi po pe)):=
 yM (UB B hc hi hg he hs) λσ H Q ⟨Z,Γ,R,E,h,q⟩=>⟨Z,Γ,_,E,h,λds J H1 ⟨fw,F,hF,hR⟩ s1 wk=>zMr (E.same s1) wk hj hk fw hF λes ys H' p h1 s2 h2 hp=>q _ _ _ (hR es h1) (s1.trans (s2.trans (xL hp _))) (jT ((E.same s1).zd.same s2) hp h2)⟩
end
theorem zl.map {ds:List D} {G:D->(D->Prop)->Prop} {R:D->Prop} (f:D->D) (few:ds.length<=1000) (h:∀ d,d∈ds->G d λe=>e=f d) (q:R (.lst (ds.map f))):zl ds G R:=⟨few,λd e=>e=f d,h,λes p=>by
 have:∀ {ds es:List D},Paired (λd e=>e=f d) ds es->es=ds.map f:=λ{ds es} p=>by
  induction p with
  | nil=>rfl
  | cons h _ ih=>rw [h,ih]; rfl
 rw [this p]
 exact q⟩
theorem zl.all {ds:List D} {G:D->(D->Prop)->Prop} {R:D->Prop} (P:D->Prop) (few:ds.length<=1000) (h:∀ d,d∈ds->G d P) (q:∀ es,es.length=ds.length->(∀ e∈es,P e)->R (.lst es)):zl ds G R:=⟨few,λ_=>P,h,λes p=>q es (Paired.length p).symm (by
 clear h few q
 induction p with
 | nil=>exact λ_ h=>nomatch h
 | cons h _ ih=>exact λe m=>(List.mem_cons.mp m).elim (λz=>z ▸ h) (ih e))⟩
def ye:D->Int
 | .int i=>i
 | _=>0
theorem zl.int {ns:List Int} {G:D->(D->Prop)->Prop} {R:D->Prop} (g:Int->Int) (few:ns.length<=1000) (h:∀ n,n∈ns->G (.int n) λe=>e=.int (g n)) (q:R (.lst ((ns.map g).map D.int))):zl (ns.map D.int) G R:=
 zl.map (λd=>.int (g (ye d))) (by rw [List.length_map]; exact few) (λd m=>by
  obtain ⟨n,hn,rfl⟩:=List.mem_map.mp m
  exact h n hn) (by rw [List.map_map] at q |-; exact q)
theorem zl.bool {ds:List D} {G:D->(D->Prop)->Prop} {R:D->Prop} (g:D->Bool) (few:ds.length<=1000) (h:∀ d,d∈ds->G d λe=>e=.bool (g d)) (q:R (.lst ((ds.map g).map D.bool))):zl ds G R:=
 zl.map (λd=>.bool (g d)) few h (by rw [List.map_map] at q; exact q)
theorem zl.rng {lo:Int} {n:Nat} {G:D->(D->Prop)->Prop} {R:D->Prop} (g:Nat->D) (few:n<=1000) (h:∀ k,k < n->G (.int (lo + (k:Int))) λe=>e=g k) (q:R (.lst ((List.range n).map g))):zl (Pu.rng lo n) G R:=
 zl.map (λd=>g (ye d - lo).toNat) (by unfold Pu.rng; rw [List.length_map,List.length_range]; exact few) (λd m=>by
  obtain ⟨k,hk,rfl⟩:=List.mem_map.mp m
  rw [show (ye (.int (lo + (k:Int))) - lo).toNat=k by show (lo + (k:Int) - lo).toNat=k; omega]
  exact h k (List.mem_range.mp hk)) (by
  have e:(Pu.rng lo n).map (λd=>g (ye d - lo).toNat)=(List.range n).map g:=by
   unfold Pu.rng
   rw [List.map_map]
   refine List.map_congr_left λk _=>?_
   show g (lo + (k:Int) - lo).toNat=g k
   rw [show (lo + (k:Int) - lo).toNat=k by omega]
  rw [e]
  exact q)
theorem zl.rngP {lo:Int} {n:Nat} {G:D->(D->Prop)->Prop} {R:D->Prop} (P:D->Prop) (few:n<=1000) (h:∀ k,k < n->G (.int (lo + (k:Int))) P) (q:∀ es,es.length=n->(∀ e∈es,P e)->R (.lst es)):zl (Pu.rng lo n) G R:=
 zl.all P (by unfold Pu.rng; rw [List.length_map,List.length_range]; exact few) (λd m=>by
  obtain ⟨k,hk,rfl⟩:=List.mem_map.mp m
  exact h k (List.mem_range.mp hk)) (λes l=>q es (by rw [l]; unfold Pu.rng; rw [List.length_map,List.length_range]))
theorem zl.rng0 {n:Nat} {G:D->(D->Prop)->Prop} {R:D->Prop} (g:Nat->D) (few:n<=1000) (h:∀ k,k < n->G (.int (k:Int)) λe=>e=g k) (q:R (.lst ((List.range n).map g))):zl (Pu.rng0 n) G R:=by
 rw [Ul]
 exact zl.rng g few (λk hk=>by rw [Int.zero_add]; exact h k hk) q
theorem zl.rng0P {n:Nat} {G:D->(D->Prop)->Prop} {R:D->Prop} (P:D->Prop) (few:n<=1000) (h:∀ k,k < n->G (.int (k:Int)) P) (q:∀ es,es.length=n->(∀ e∈es,P e)->R (.lst es)):zl (Pu.rng0 n) G R:=by
 rw [Ul]
 exact zl.rngP P few (λk hk=>by rw [Int.zero_add]; exact h k hk) q
def xz (P:Int->Prop) (d:D):Prop:=∃ i,d=.int i/\P i
theorem Um {P:Int->Prop}:∀ {es:List D},(∀ e∈es,xz P e)->∃ ns:List Int,es=ns.map D.int/\∀ x∈ns,P x
 | [],_=>⟨[],rfl,λ_ h=>nomatch h⟩
 | e :: es,h=>by
  obtain ⟨ns,rfl,k⟩:=Um (es:=es) λx m=>h x (List.mem_cons_of_mem _ m)
  obtain ⟨i,rfl,p⟩:=h e List.mem_cons_self
  exact ⟨i :: ns,rfl,λx m=>(List.mem_cons.mp m).elim (λz=>z ▸ p) (k x)⟩
theorem zl.nums {n:Nat} {G:D->(D->Prop)->Prop} {R:D->Prop} (P:Int->Prop) (few:n<=1000) (h:∀ k,k < n->G (.int (k:Int)) (xz P)) (q:∀ ns:List Int,ns.length=n->(∀ x∈ns,P x)->R (.lst (ns.map D.int))):zl (Pu.rng0 n) G R:=
 zl.rng0P (xz P) few h λes l k=>by
  obtain ⟨ns,rfl,p⟩:=Um k
  exact q ns (by rw [<- l,List.length_map]) p
theorem yJ {i:Nat}:∀ d os,po1 d=some os->os.length=[i].length:=λd os h=>by cases h; rfl
theorem uT:∀ ds os,zQP ds=some os->os.length=([]:List Nat).length:=λds os h=>by cases ds with | nil=>cases h; rfl | cons=>cases h
theorem wA {i:Nat} {js:List Nat} {po:List D->Option (List D)} (h:∀ ds os,po ds=some os->os.length=js.length):∀ ds os,zOZ po ds=some os->os.length=(i :: js).length:=λds os q=>by
 cases ds with
 | nil=>cases q
 | cons d dt=>
  change (po dt).map (d :: ·)=some os at q
  cases e:po dt with
  | none=>rw [e] at q; cases q
  | some os'=>rw [e] at q; cases q; rw [List.length_cons,List.length_cons,h dt os' e]
theorem pnc {js ks:List Nat} {p:D->Option (List D)} {po:List D->Option (List D)} (hk:∀ d os,p d=some os->os.length=js.length) (h:∀ ds os,po ds=some os->os.length=ks.length):∀ ds os,zOa p po ds=some os->os.length=(js++ks).length:=λds os q=>by
 cases ds with
 | nil=>cases q
 | cons d dt=>
  change (p d).bind (λa=>(po dt).map (a++·))=some os at q
  cases e1:p d with
  | none=>rw [e1] at q; cases q
  | some a=>
   rw [e1] at q
   change (po dt).map (a++·)=some os at q
   cases e2:po dt with
   | none=>rw [e2] at q; cases q
   | some b=>rw [e2] at q; cases q; rw [List.length_append,List.length_append,h dt b e2,hk d a e1]
structure y9 (Z0:Addr->Prop) (H0:Hp) (Z:Addr->Prop) (Γ:List Sl) (σ:St) (H:Hp):Prop where
 e:yd Z Γ σ H
 z0:∀ b,Z0 b->Z b
 z0d:ZL Z0 H0
 same:zF H0 H
 own:∀ i ds l,slot Γ i=.ow ds->σ[i]? = some (some (.ref l))->H0 l=none
 owb:∀ i o c ns ds,slot Γ i=.ob o c ns ds->H0 o=none
structure zRR where
 nx:List Sl->Prop
 rt:D->Prop
 bk:List Sl->Prop:=λ_=>False
 ct:List Sl->Prop:=λ_=>False
abbrev xV:=zRR->List Sl->Prop
inductive xB (p:xV) (D0:xU) (σ:St) (H:Hp):Prop
 | mk (Z0:Addr->Prop) (H0:Hp) (Z:Addr->Prop) (Γ:List Sl) (Dp:zRR) (E:y9 Z0 H0 Z Γ σ H) (h:p Dp Γ) (nx:∀ Z' Γ' σ' H',y9 Z0 H0 Z' Γ' σ' H'->zF (zQ Z H) (zQ Z' H')->Dp.nx Γ'->D0.nx σ' H')
  (rt:∀ d v H',zF H0 H'->DV (zQ Z0 H') v d->Dp.rt d->D0.rt v H') (bk:∀ Z' Γ' σ' H',y9 Z0 H0 Z' Γ' σ' H'->zF (zQ Z H) (zQ Z' H')->Dp.bk Γ'->D0.bk σ' H') (ct:∀ Z' Γ' σ' H',y9 Z0 H0 Z' Γ' σ' H'->zF (zQ Z H) (zQ Z' H')->Dp.ct Γ'->D0.ct σ' H'):xB p D0 σ H
theorem y9.mv {Z0:Addr->Prop} {H0:Hp} {Z:Addr->Prop} {Γ:List Sl} {σ:St} {H H':Hp} (E:y9 Z0 H0 Z Γ σ H) (s:zF H H'):y9 Z0 H0 Z Γ σ H':=⟨E.e.same s,E.z0,E.z0d,E.same.trans s,E.own,E.owb⟩
theorem y9.set {Z0:Addr->Prop} {H0:Hp} {Z:Addr->Prop} {Γ:List Sl} {σ:St} {H:Hp} (E:y9 Z0 H0 Z Γ σ H) {v:V} {d:D} (h:DV (zQ Z H) v d) (i:Nat):y9 Z0 H0 Z (yA Γ i (.sh d)) (σ.set i (some v)) H:=
 ⟨E.e.set h i,E.z0,E.z0d,E.same,λj ds l q r=>by
  rw [xS] at q
  by_cases c:j=i/\i < Γ.length
  ·rw [if_pos c] at q; cases q
  ·rw [if_neg c] at q
   have hj:=uB (Γ:=Γ) (i:=j) (by rw [q]; exact λz=>nomatch z)
   rw [List.getElem?_set_ne (λz=>c ⟨z.symm,by omega⟩)] at r
   exact E.own j ds l q r,λj o0 c0 ns ds q=>by
  rw [xS] at q
  by_cases c:j=i/\i < Γ.length
  ·rw [if_pos c] at q; cases q
  ·rw [if_neg c] at q
   exact E.owb j o0 c0 ns ds q⟩
theorem y9.setN {Z0:Addr->Prop} {H0:Hp} {Z:Addr->Prop} {H:Hp}:∀ {js:List Nat} {vs:List V} {os:List D} {Γ:List Sl} {σ:St},y9 Z0 H0 Z Γ σ H->yX (zQ Z H) vs os->y9 Z0 H0 Z (XU Γ js os) (Pu.setN σ js vs) H
 | [],_,_,_,_,E,_=>E
 | _ :: _,_,_,_,_,E,.nil=>E
 | _ :: js,_,_,_,_,E,.cons h t=>y9.setN (js:=js) (E.set h _) t
theorem Zf {Z:Addr->Prop} {H:Hp} {l:Addr} {o:HO} (h:Z l):zF (zQ Z H) (zQ Z (zU H l o)):=λb u e=>by
 obtain ⟨h1,h2⟩:=qA e
 have nb:b≠l:=λz=>h1 (by rw [z]; exact h)
 rw [xm h1,zr nb]
 exact h2
theorem y9.put {Z0:Addr->Prop} {H0:Hp} {Z:Addr->Prop} {Γ:List Sl} {σ:St} {H:Hp} (E:y9 Z0 H0 Z Γ σ H) {i:Nat} {ds ds':List D} {l:Addr} {xs:List V} (hs:slot Γ i=.ow ds) (hl:σ[i]? = some (some (.ref l))) (hz:Z l) (hx:yX (zQ Z H) xs ds'):y9 Z0 H0 Z (yA Γ i (.ow ds')) σ (zU H l (.lst xs)):=by
 obtain ⟨l0,xs0,hl0,_,el,_⟩:=E.e.ow i ds hs
 have el0:l0=l:=by rw [hl] at hl0; cases hl0; rfl
 rw [el0] at el
 have keyb:∀ j o c ns d,slot (yA Γ i (.ow ds')) j=.ob o c ns d->slot Γ j=.ob o c ns d:=λj o0 c0 ns d q=>by
  rw [xS] at q
  by_cases c:j=i/\i < Γ.length
  ·rw [if_pos c] at q; cases q
  ·rw [if_neg c] at q; exact q
 have li:=uB (Γ:=Γ) (i:=i) (by rw [hs]; exact λz=>nomatch z)
 have hp:zF (zQ Z H) (zQ Z (zU H l (.lst xs))):=Zf hz
 have key:∀ j ds'',slot (yA Γ i (.ow ds')) j=.ow ds''->∃ q,slot Γ j=.ow q:=λj d q=>by
  rw [xS] at q
  by_cases c:j=i/\i < Γ.length
  ·rw [c.1]; exact ⟨ds,hs⟩
  ·rw [if_neg c] at q; exact ⟨d,q⟩
 refine ⟨⟨λj d q=>?_,λj d q=>?_,λj o c ns d q=>?_,λj k as bs m q r=>?_,λb hb=>?_,by rw [qB]; exact E.e.len⟩,E.z0,E.z0d,?_,λj d m q=>?_,λj o c ns d q=>E.owb j o c ns d (keyb j o c ns d q)⟩
 ·rw [xS] at q
  by_cases c:j=i/\i < Γ.length
  ·rw [if_pos c] at q; cases q
  ·rw [if_neg c] at q
   obtain ⟨v,h1,h2⟩:=E.e.sh j d q
   exact ⟨v,h1,h2.same hp⟩
 ·rw [xS] at q
  by_cases c:j=i/\i < Γ.length
  ·rw [if_pos c] at q
   cases q
   rw [c.1]
   exact ⟨l,xs,hl,hz,xM,xR hp hx⟩
  ·rw [if_neg c] at q
   obtain ⟨m,ys,h1,h2,h3,h4⟩:=E.e.ow j d q
   have nm:m≠l:=λz=>c ⟨E.e.ne j i d ds l q hs (by rw [h1,z]) hl,li⟩
   exact ⟨m,ys,h1,h2,by rw [zr nm]; exact h3,xR hp h4⟩
 ·obtain ⟨dx,ys,h1,h2,h3,h5,h4⟩:=E.e.ob j o c ns d (keyb j o c ns d q)
  have nm:o≠l:=λz=>by rw [z,el] at h3; cases h3
  exact ⟨dx,ys,h1,h2,by rw [zr nm]; exact h3,h5,xR hp h4⟩
 ·obtain ⟨q1,hq⟩:=key j as q
  obtain ⟨r1,hr⟩:=key k bs r
  exact E.e.ne j k q1 r1 m hq hr
 ·obtain ⟨u,e,n⟩:=E.e.zd b hb
  by_cases c:b=l
  ·rw [c]; exact ⟨_,xM,λ_ z=>nomatch z⟩
  ·exact ⟨u,by rw [zr c]; exact e,n⟩
 ·exact λb o e=>by
   rw [zr (wb e (E.own i ds l hs hl))]
   exact E.same _ _ e
 ·obtain ⟨q1,hq⟩:=key j d q
  exact E.own j q1 m hq
theorem y9.make {Z0:Addr->Prop} {H0:Hp} {Z:Addr->Prop} {Γ:List Sl} {σ:St} {H:Hp} (E:y9 Z0 H0 Z Γ σ H) {p:Addr} {xs:List V} {ds:List D} (hp:H p=none) (hx:yX (zQ Z H) xs ds) (i:Nat) :
  y9 Z0 H0 (λb=>Z b\/b=p) (yA Γ i (.ow ds)) (σ.set i (some (.ref p))) (zU H p (.lst xs))/\zF (zQ Z H) (zQ (λb=>Z b\/b=p) (zU H p (.lst xs))):=by
 have s:zF (zQ Z H) (zQ (λb=>Z b\/b=p) (zU H p (.lst xs))):=λb o e=>by
  obtain ⟨h1,h2⟩:=qA e
  have nb:=wb h2 hp
  rw [xm (λz=>z.elim h1 nb),zr nb]
  exact h2
 have old:∀ j d,slot Γ j=.ow d->∀ m,σ[j]? = some (some (.ref m))->m≠p:=λj d q m h z=>by
  obtain ⟨l,ys,h1,h2,h3,_⟩:=E.e.ow j d q
  rw [h] at h1
  cases h1
  rw [z,hp] at h3
  cases h3
 have get:∀ j,¬ (j=i/\i < Γ.length)->slot Γ j≠.no->(σ.set i (some (V.ref p)))[j]? = σ[j]?:=λj c q=>by
  have hj:=uB q
  exact List.getElem?_set_ne (λz=>c ⟨z.symm,by omega⟩)
 have new:∀ j,j=i/\i < Γ.length->(σ.set i (some (V.ref p)))[j]? = some (some (.ref p)):=λj c=>by
  rw [c.1,List.getElem?_set_self (by have:=E.e.len; omega)]
 have keyb:∀ j o c ns d,slot (yA Γ i (.ow ds)) j=.ob o c ns d->slot Γ j=.ob o c ns d/\(σ.set i (some (V.ref p)))[j]? = σ[j]?:=λj o0 c0 ns d q=>by
  rw [xS] at q
  by_cases c:j=i/\i < Γ.length
  ·rw [if_pos c] at q; cases q
  ·rw [if_neg c] at q; exact ⟨q,get j c (by rw [q]; exact λz=>nomatch z)⟩
 refine ⟨⟨⟨λj d q=>?_,λj d q=>?_,λj o c ns d q=>?_,λj k as bs m q r e f=>?_,λb hb=>?_,by rw [qB,List.length_set]; exact E.e.len⟩,λb hb=>.inl (E.z0 b hb),E.z0d,E.same.trans (xL hp _),λj d m q e=>?_,λj o c ns d q=>E.owb j o c ns d (keyb j o c ns d q).1⟩,s⟩
 ·rw [xS] at q
  by_cases c:j=i/\i < Γ.length
  ·rw [if_pos c] at q; cases q
  ·rw [if_neg c] at q
   obtain ⟨v,h1,h2⟩:=E.e.sh j d q
   exact ⟨v,by rw [get j c (by rw [q]; exact λz=>nomatch z)]; exact h1,h2.same s⟩
 ·rw [xS] at q
  by_cases c:j=i/\i < Γ.length
  ·rw [if_pos c] at q
   cases q
   exact ⟨p,xs,new j c,.inr rfl,xM,xR s hx⟩
  ·rw [if_neg c] at q
   obtain ⟨m,ys,h1,h2,h3,h4⟩:=E.e.ow j d q
   exact ⟨m,ys,by rw [get j c (by rw [q]; exact λz=>nomatch z)]; exact h1,.inl h2,by rw [zr (old j d q m h1)]; exact h3,xR s h4⟩
 ·obtain ⟨q,g⟩:=keyb j o c ns d q
  obtain ⟨dx,ys,h1,h2,h3,h5,h4⟩:=E.e.ob j o c ns d q
  exact ⟨dx,ys,g.trans h1,.inl h2,by rw [zr (wb h3 hp)]; exact h3,h5,xR s h4⟩
 ·rw [xS] at q r
  by_cases c:j=i/\i < Γ.length
  ·by_cases c':k=i/\i < Γ.length
   ·omega
   ·rw [if_neg c'] at r
    rw [new j c] at e
    rw [get k c' (by rw [r]; exact λz=>nomatch z)] at f
    cases e
    exact absurd rfl (old k bs r p f)
  ·rw [if_neg c] at q
   rw [get j c (by rw [q]; exact λz=>nomatch z)] at e
   by_cases c':k=i/\i < Γ.length
   ·rw [new k c'] at f
    cases f
    exact absurd rfl (old j as q p e)
   ·rw [if_neg c'] at r
    rw [get k c' (by rw [r]; exact λz=>nomatch z)] at f
    exact E.e.ne j k as bs m q r e f
 ·by_cases c:b=p
  ·rw [c]; exact ⟨_,xM,λ_ z=>nomatch z⟩
  ·obtain ⟨u,e,n⟩:=E.e.zd b (hb.resolve_right c)
   exact ⟨u,by rw [zr c]; exact e,n⟩
 ·rw [xS] at q
  by_cases c:j=i/\i < Γ.length
  ·rw [new j c] at e
   cases e
   cases h:H0 p with
   | none=>rfl
   | some o=>rw [E.same _ _ h] at hp; cases hp
  ·rw [if_neg c] at q
   rw [get j c (by rw [q]; exact λz=>nomatch z)] at e
   exact E.own j d m q e
def frz (Γ:List Sl) (i:Nat):List Sl:=match slot Γ i with
 | .ow ds=>yA Γ i (.sh (.lst ds))
 | _=>Γ
theorem y9.frz {Z0:Addr->Prop} {H0:Hp} {Z:Addr->Prop} {Γ:List Sl} {σ:St} {H:Hp} (E:y9 Z0 H0 Z Γ σ H) (i:Nat):∃ Z',y9 Z0 H0 Z' (Pu.frz Γ i) σ H/\zF (zQ Z H) (zQ Z' H):=by
 unfold Pu.frz
 cases hs:slot Γ i with
 | no=>exact ⟨Z,E,zF.refl _⟩
 | sh _=>exact ⟨Z,E,zF.refl _⟩
 | ob _ _ _ _=>exact ⟨Z,E,zF.refl _⟩
 | ow ds=>
  obtain ⟨l,xs,hl,hz,el,hx⟩:=E.e.ow i ds hs
  have s:zF (zQ Z H) (zQ (λb=>Z b/\b≠l) H):=XJ λb h=>h.1
  have key:∀ j d,slot (yA Γ i (.sh (.lst ds))) j=.ow d->slot Γ j=.ow d/\j≠i:=λj d q=>by
   rw [xS] at q
   by_cases c:j=i/\i < Γ.length
   ·rw [if_pos c] at q; cases q
   ·rw [if_neg c] at q
    have hj:=uB (Γ:=Γ) (i:=j) (by rw [q]; exact λz=>nomatch z)
    exact ⟨q,λz=>c ⟨z,by omega⟩⟩
  have keyb:∀ j o c ns d,slot (yA Γ i (.sh (.lst ds))) j=.ob o c ns d->slot Γ j=.ob o c ns d:=λj o0 c0 ns d q=>by
   rw [xS] at q
   by_cases c:j=i/\i < Γ.length
   ·rw [if_pos c] at q; cases q
   ·rw [if_neg c] at q; exact q
  refine ⟨λb=>Z b/\b≠l,⟨⟨λj d q=>?_,λj d q=>?_,λj o c ns d q=>?_,λj k as bs m q r=>?_,λb hb=>E.e.zd b hb.1,by rw [qB]; exact E.e.len⟩,λb hb=>⟨E.z0 b hb,λz=>?_⟩,E.z0d,E.same,λj d m q=>E.own j d m (key j d q).1,λj o c ns d q=>E.owb j o c ns d (keyb j o c ns d q)⟩,s⟩
  ·rw [xS] at q
   by_cases c:j=i/\i < Γ.length
   ·rw [if_pos c] at q
    cases q
    rw [c.1]
    exact ⟨.ref l,hl,.lst ((xm λz=>z.2 rfl).trans el) (xR s hx)⟩
   ·rw [if_neg c] at q
    obtain ⟨v,h1,h2⟩:=E.e.sh j d q
    exact ⟨v,h1,h2.same s⟩
  ·obtain ⟨q1,q2⟩:=key j d q
   obtain ⟨m,ys,h1,h2,h3,h4⟩:=E.e.ow j d q1
   exact ⟨m,ys,h1,⟨h2,λz=>q2 (E.e.ne j i d ds l q1 hs (by rw [h1,z]) hl)⟩,h3,xR s h4⟩
  ·obtain ⟨dx,ys,h1,h2,h3,h5,h4⟩:=E.e.ob j o c ns d (keyb j o c ns d q)
   exact ⟨dx,ys,h1,⟨h2,λz=>by rw [z,el] at h3; cases h3⟩,h3,h5,xR s h4⟩
  ·exact E.e.ne j k as bs m (key j as q).1 (key k bs r).1
  ·obtain ⟨ys,e,_⟩:=E.z0d b hb
   rw [z,E.own i ds l hs hl] at e
   cases e
theorem yd.frz {Z:Addr->Prop} {Γ:List Sl} {σ:St} {H:Hp} (E:yd Z Γ σ H) (i:Nat):∃ Z',yd Z' (Pu.frz Γ i) σ H:=by
 unfold Pu.frz
 cases hs:slot Γ i with
 | no=>exact ⟨Z,E⟩
 | sh _=>exact ⟨Z,E⟩
 | ob _ _ _ _=>exact ⟨Z,E⟩
 | ow ds=>
  obtain ⟨l,xs,hl,hz,el,hx⟩:=E.ow i ds hs
  have s:zF (zQ Z H) (zQ (λb=>Z b/\b≠l) H):=XJ λb h=>h.1
  have key:∀ j d,slot (yA Γ i (.sh (.lst ds))) j=.ow d->slot Γ j=.ow d/\j≠i:=λj d q=>by
   rw [xS] at q
   by_cases c:j=i/\i < Γ.length
   ·rw [if_pos c] at q; cases q
   ·rw [if_neg c] at q
    have hj:=uB (Γ:=Γ) (i:=j) (by rw [q]; exact λz=>nomatch z)
    exact ⟨q,λz=>c ⟨z,by omega⟩⟩
  have keyb:∀ j o c ns d,slot (yA Γ i (.sh (.lst ds))) j=.ob o c ns d->slot Γ j=.ob o c ns d:=λj o0 c0 ns d q=>by
   rw [xS] at q
   by_cases c:j=i/\i < Γ.length
   ·rw [if_pos c] at q; cases q
   ·rw [if_neg c] at q; exact q
  refine ⟨λb=>Z b/\b≠l,⟨λj d q=>?_,λj d q=>?_,λj o c ns d q=>?_,λj k as bs m q r=>?_,λb hb=>E.zd b hb.1,by rw [qB]; exact E.len⟩⟩
  ·rw [xS] at q
   by_cases c:j=i/\i < Γ.length
   ·rw [if_pos c] at q
    cases q
    rw [c.1]
    exact ⟨.ref l,hl,.lst ((xm λz=>z.2 rfl).trans el) (xR s hx)⟩
   ·rw [if_neg c] at q
    obtain ⟨v,h1,h2⟩:=E.sh j d q
    exact ⟨v,h1,h2.same s⟩
  ·obtain ⟨q1,q2⟩:=key j d q
   obtain ⟨m,ys,h1,h2,h3,h4⟩:=E.ow j d q1
   exact ⟨m,ys,h1,⟨h2,λz=>q2 (E.ne j i d ds l q1 hs (by rw [h1,z]) hl)⟩,h3,xR s h4⟩
  ·obtain ⟨dx,ys,h1,h2,h3,h5,h4⟩:=E.ob j o c ns d (keyb j o c ns d q)
   exact ⟨dx,ys,h1,⟨h2,λz=>by rw [z,el] at h3; cases h3⟩,h3,h5,xR s h4⟩
  ·exact E.ne j k as bs m (key j as q).1 (key k bs r).1
def Uo (i:Nat) (p:ww):ww:=λΓ R=>p (Pu.frz Γ i) R
theorem zPC {X:Cx} {e:Expr} {p:ww} (i:Nat) (h:PT X e (xT p)):PT X e (xT (Uo i p)):=XM h λσ H Q ⟨Z,Γ,R,E,h,q⟩=>let ⟨Z',E'⟩:=E.frz i; ⟨Z',_,R,E',h,q⟩
end Pu
namespace Pu
open PySem L2 Sh
open PyProof.Rows (envOfC)
section
variable {X:Cx} {e:Expr} {es:List Expr} {st:Stmt} {sts:List Stmt} {pos:Pos} {pa pb:yN} {pl:xP} {p q:xV}
theorem yC {t t':TS} (h:PS X st t) (w:∀ D σ H,t' D σ H->t D σ H):PS X st t':=λpins s σ H D I k=>h pins s σ H D I (w D σ H k)
theorem qM {t t':TS} (h:xO X sts t) (w:∀ D σ H,t' D σ H->t D σ H):xO X sts t':=λpins s σ H D I k=>h pins s σ H D I (w D σ H k)
def Zg:xV:=λD Γ=>D.nx Γ
def Up (p q:xV):xV:=λD Γ=>p { D with nx:=q D } Γ
theorem yD:xO X [] (xB Zg):=qM zPD λD σ H ⟨Z0,H0,Z,Γ,Dp,E,h,nx,rt,bk,ct⟩=>nx Z Γ σ H E (zF.refl _) h
theorem zJ (h1:PS X st (xB p)) (h2:xO X sts (xB q)):xO X (st :: sts) (xB (Up p q)):=qM (uH h1 h2) λD σ H ⟨Z0,H0,Z,Γ,Dp,E,h,nx,rt,bk,ct⟩=>
 ⟨Z0,H0,Z,Γ,{ Dp with nx:=q Dp },E,h,λZ' Γ' σ' H' E' s' h'=>⟨Z0,H0,Z',Γ',Dp,E',h',λZ2 Γ2 σ2 H2 E2 s2=>nx Z2 Γ2 σ2 H2 E2 (s'.trans s2),rt,λZ2 Γ2 σ2 H2 E2 s2=>bk Z2 Γ2 σ2 H2 E2 (s'.trans s2),λZ2 Γ2 σ2 H2 E2 s2=>ct Z2 Γ2 σ2 H2 E2 (s'.trans s2)⟩,rt,bk,ct⟩
def Zh (p q:xV):xV:=λD Γ=>∃ M:List Sl->Prop,p { D with nx:=M } Γ/\∀ Γ',M Γ'->q D Γ'
theorem ux (h1:PS X st (xB p)) (h2:xO X sts (xB q)):xO X (st :: sts) (xB (Zh p q)):=qM (uH h1 h2) λD σ H ⟨Z0,H0,Z,Γ,Dp,E,⟨M,h,k⟩,nx,rt,bk,ct⟩=>
 ⟨Z0,H0,Z,Γ,{ Dp with nx:=M },E,h,λZ' Γ' σ' H' E' s' h'=>⟨Z0,H0,Z',Γ',Dp,E',k Γ' h',λZ2 Γ2 σ2 H2 E2 s2=>nx Z2 Γ2 σ2 H2 E2 (s'.trans s2),rt,λZ2 Γ2 σ2 H2 E2 s2=>bk Z2 Γ2 σ2 H2 E2 (s'.trans s2),λZ2 Γ2 σ2 H2 E2 s2=>ct Z2 Γ2 σ2 H2 E2 (s'.trans s2)⟩,rt,bk,ct⟩
theorem zO (h1:PS X st (xB p)):xO X [st] (xB p):=jm h1
def Uq (i:Nat) (p:xV):xV:=λD Γ=>p D (frz Γ i)
theorem wj (i:Nat) (h1:PS X st (xB p)):PS X st (xB (Uq i p)):=yC h1 λD σ H ⟨Z0,H0,Z,Γ,Dp,E,h,nx,rt,bk,ct⟩=>by
 obtain ⟨Z',E',s⟩:=E.frz i
 exact ⟨Z0,H0,Z',_,Dp,E',h,λZ2 Γ2 σ2 H2 E2 s2=>nx Z2 Γ2 σ2 H2 E2 (s.trans s2),rt,λZ2 Γ2 σ2 H2 E2 s2=>bk Z2 Γ2 σ2 H2 E2 (s.trans s2),λZ2 Γ2 σ2 H2 E2 s2=>ct Z2 Γ2 σ2 H2 E2 (s.trans s2)⟩
def Zi (i:Nat) (pa:yN):xV:=λD Γ=>pa Γ λd=>D.nx (yA Γ i (.sh d))
theorem zP1 {i:Nat} (D:xU) (σ:St) (H:Hp):xB (Zi i pa) D σ H->uI (tP pa) (qm i) D σ H:=λ⟨Z0,H0,Z,Γ,Dp,E,h,nx,rt,bk,ct⟩=>
 ⟨Z,Γ,_,E.e,h,λd v H1 hd s1 hv=>nx Z _ _ H1 ((E.mv s1).set hv i) (yg s1) hd⟩
theorem zp (i:Nat) {x:Str} {pos':Pos} (hN:X.N.Nodup) (hi:X.N[i]? = some x) (hx:jE X.env.scope x) (he:PE X e (tP pa)) (hs:swapsWith e (some (.Name x pos')) pos.line X.env=pure false:=by rfl) (hf:X.fn x=true\/X.env.scope.names.lookup x=some .local:=by first | exact .inl rfl | exact .inr rfl | assumption) :
  PS X (.Assign [.Name x pos'] e pos) (xB (Zi i pa)):=yC (qr hN hi hx he hs hf) zP1
def Ur (js:List Nat) (po:D->Option (List D)) (pa:yN):xV:=λD Γ=>pa Γ λd=>gM (po d) λos=>D.nx (XU Γ js os)
theorem ue {tg:Expr} {js:List Nat} {po:D->Option (List D)} (he:PE X e (tP pa)) (hg:PG X tg (tG js po)) (hs:swapsWithSole [tg] e pos.line X.env=pure false:=by rfl) (hw:swappedStores [tg] e X.env=pure none:=by rfl)
  (h1:(assignEach [tg] X.env).map (·.2)=[assign tg X.env]:=by rfl):PS X (.Assign [tg] e pos) (xB (Ur js po pa)):=yC (qp he hg hs hw h1) λD σ H ⟨Z0,H0,Z,Γ,Dp,E,h,nx,rt,bk,ct⟩=>
 ⟨Z,Γ,_,E.e,h,λd v H1 hd s1 hv=>by
  obtain ⟨os,ho,hd⟩:=Uj hd
  exact ⟨Z,d,os,hv,ho,λvs hvs=>nx Z _ _ H1 ((E.mv s1).setN hvs) (yg s1) hd⟩⟩
def Us (i:Nat) (pl:xP):xV:=λD Γ=>pl Γ λds=>ds.length<=1000/\D.nx (yA Γ i (.ow ds))
theorem vc (i:Nat) {x:Str} {pos' lp:Pos} (hN:X.N.Nodup) (hi:X.N[i]? = some x) (hx:jE X.env.scope x) (he:PA X es (wX pl)) (hs:swapsWith (.List es lp) (some (.Name x pos')) pos.line X.env=pure false:=by rfl) (hf:X.fn x=true\/X.env.scope.names.lookup x=some .local:=by first | exact .inl rfl | exact .inr rfl | assumption) :
  PS X (.Assign [.Name x pos'] (.List es lp) pos) (xB (Us i pl)):=yC (qr hN hi hx (Qq he) hs hf) λD σ H ⟨Z0,H0,Z,Γ,Dp,E,h,nx,rt,bk,ct⟩=>
 ⟨Z,Γ,_,E.e,h,λds vs H1 hd s1 hv=>⟨few (by rw [wR hv]; exact hd.1),λl hl=>by
  obtain ⟨E2,s2⟩:=(E.mv s1).make hl hv i
  exact nx _ _ _ _ E2 ((yg s1).trans s2) hd.2⟩⟩
def Ut:D->(List D->Prop)->Prop
 | .lst es,k=>k es
 | _,_=>False
def zQc (i:Nat) (ow:Bool) (caps:List Nat) (pi:xP) (po:D->Option (List D)) (pe:yN):xV:=λT Γ=>pi Γ λds=>zl ds (λd S=>gM (po d) λos=>pe (os.map Sl.sh++caps.map λj=>un (slot Γ j)) S) λd=>Ut d λes=>T.nx (yA Γ i (match ow with | true=>.ow es | false=>.sh (.lst es)))
theorem uy (i:Nat) (ow:Bool) {scope:Scope} {own:List Str} {caps:List (Nat × Str)} {tg iter elt:Expr} {pi:xP} {po:D->Option (List D)} {pe:yN} {js:List Nat} {y:Str} {py spos:Pos} (hN:X.N.Nodup) (hy:X.N[i]? = some y) (hl:X.env.scope.names.lookup y=some .local) (B:uZ X scope own caps) (hc:X.calm=true) (hj:js=List.range' 0 own.length) (hk:∀ d os,po d=some os->os.length=js.length)
  (hi:PI X tg iter (jW pi)) (hg:∀ C s₀ H₀ ex,PG (xl X scope (zb own caps) C s₀ H₀ ex) tg (tG js po)) (he:∀ C s₀ H₀ ex,PE (xl X scope (zb own caps) C s₀ H₀ ex) elt (tP pe)) (hsw:swapsWith (.ListComp elt [⟨tg,iter,[],0⟩] scope pos) (some (.Name y py)) spos.line X.env=pure true) (hs:∀ x,foldedSetIterable iter X.env x=pure x:=by intro _; rfl) :
  PS X (.Assign [.Name y py] (.ListComp elt [⟨tg,iter,[],0⟩] scope pos) spos) (xB (zQc i ow (caps.map (·.1)) pi po pe)):=yC (UC hN hy hl B hc hi hg he hsw hs) λD σ H ⟨Z0,H0,Z,Γ,Dp,E,h,nx,rt,bk,ct⟩=>
 ⟨Z,Γ,_,E.e,h,λds J H1 ⟨fw,F,hF,hR⟩ s1 wk=>zMr (E.e.same s1) wk hj hk fw hF λes ys H' l h1 s2 h2 hp=>by
  have E1:=(E.mv s1).mv s2
  cases ow with
  | true=>
   obtain ⟨E2,s3⟩:=E1.make hp h2 i
   exact nx _ _ _ _ E2 ((yg (s1.trans s2)).trans s3) (hR es h1)
  | false=>exact nx Z _ _ _ ((E1.mv (xL hp _)).set (jT E1.e.zd hp h2) i) (yg (s1.trans (s2.trans (xL hp _)))) (hR es h1)⟩
def Uu (pa:yN):xV:=λD Γ=>pa Γ D.rt
theorem zV (he:PE X e (tP pa)):PS X (.Return (some e) pos) (xB (Uu pa)):=yC (QW he) λD σ H ⟨Z0,H0,Z,Γ,Dp,E,h,nx,rt,bk,ct⟩=>
 ⟨Z,Γ,_,E.e,h,λd v H1 hd s1 hv=>rt d v H1 (E.same.trans s1) (hv.same (XJ E.z0)) hd⟩
def pIf (t:ww) (p q:xV):xV:=λD Γ=>t Γ λc=>wf c (p D Γ) (q D Γ)
theorem yE {c:Expr} {a b:List Stmt} {t:ww} (hc:PT X c (xT t)) (ha:xO X a (xB p)) (hb:xO X b (xB q)):PS X (.If c a b pos) (xB (pIf t p q)):=yC (QX hc ha hb) λD σ H ⟨Z0,H0,Z,Γ,Dp,E,h,nx,rt,bk,ct⟩=>
 ⟨Z,Γ,_,E.e,h,λc H1 hd s1=>by
  have f:∀ {P:List Sl->Prop} {Q:St->Hp->Prop},(∀ Z' Γ' σ' H',y9 Z0 H0 Z' Γ' σ' H'->zF (zQ Z H) (zQ Z' H')->P Γ'->Q σ' H')->∀ Z' Γ' σ' H',y9 Z0 H0 Z' Γ' σ' H'->zF (zQ Z H1) (zQ Z' H')->P Γ'->Q σ' H':=λg Z2 Γ2 σ2 H2 E2 s2=>g Z2 Γ2 σ2 H2 E2 ((yg s1).trans s2)
  cases c with
  | true=>exact ⟨Z0,H0,Z,Γ,Dp,E.mv s1,hd.1 rfl,f nx,rt,f bk,f ct⟩
  | false=>exact ⟨Z0,H0,Z,Γ,Dp,E.mv s1,hd.2 rfl,f nx,rt,f bk,f ct⟩⟩
def zQa:xV:=λ_ _=>False
theorem Xb:PS X st (xB zQa):=yC zNg λD σ H ⟨Z0,H0,Z,Γ,Dp,E,h,nx,rt,bk,ct⟩=>h
def Uv (pi:xP) (js:List Nat) (po:D->Option (List D)) (pb:xV):xV:=λD Γ=>pi Γ λds=>∃ I:Nat->List Sl->Prop,I 0 Γ/\(∀ k d Γ',ds[k]? = some d->I k Γ'->gM (po d) λos=>pb ⟨I (k + 1),D.rt,D.nx,I (k + 1)⟩ (XU Γ' js os))/\∀ Γ',I ds.length Γ'->D.nx Γ'
theorem uC {tg iter:Expr} {body:List Stmt} {pi:xP} {js:List Nat} {po:D->Option (List D)} (hp:PassesOwn (model X.prog X.w) X.A X.env X.xe) (hc:X.calm=true) (hi:PI X tg iter (jW pi)) (hg:PG X tg (tG js po)) (hb:xO X body (xB p))
  (hs:∀ x,foldedSetIterable iter X.env x=pure x:=by intro _; rfl):PS X (.For tg iter body [] pos) (xB (Uv pi js po p)):=yC (Yd hp hc hi hg hb hs) λD σ H ⟨Z0,H0,Z,Γ,Dp,E,h,nx,rt,bk,ct⟩=>
 ⟨Z,Γ,_,E.e,h,λds J H1 ⟨I,h0,hst,hd⟩ s1 wk=>by
  have g:∀ {Q:List Sl->Prop} {T:St->Hp->Prop} {Z1 H2},zF (zQ Z H1) (zQ Z1 H2)->(∀ Z' Γ' σ' H',y9 Z0 H0 Z' Γ' σ' H'->zF (zQ Z H) (zQ Z' H')->Q Γ'->T σ' H')->∀ Z' Γ' σ' H',y9 Z0 H0 Z' Γ' σ' H'->zF (zQ Z1 H2) (zQ Z' H')->Q Γ'->T σ' H':=λs k Z2 Γ2 σ2 H2 E2 s2=>k Z2 Γ2 σ2 H2 E2 ((yg s1).trans (s.trans s2))
  refine ⟨λi m σ' H'=>m + i=ds.length/\∃ Z' Γ',y9 Z0 H0 Z' Γ' σ' H'/\zF (zQ Z H1) (zQ Z' H')/\I i Γ',⟨ds.length,rfl,Z,Γ,E.mv s1,zF.refl _,h0⟩,?_⟩
  rintro i m σ' H' ⟨hm,Z',Γ',E',s',hI⟩
  obtain ⟨w1,w2⟩:=wk i Z' H' s' E'.e.zd
  by_cases hi:i < ds.length
  ·refine .inr ⟨(w1 _ (List.getElem?_eq_getElem hi)).1,λσ' H'=>m - 1 + (i + 1)=ds.length/\∃ Z' Γ',y9 Z0 H0 Z' Γ' σ' H'/\zF (zQ Z H1) (zQ Z' H')/\I (i + 1) Γ',λσ2 H2 k=>⟨m - 1,by omega,k⟩,λx H2 yl=>?_⟩
   obtain ⟨s2,dv⟩:=(w1 _ (List.getElem?_eq_getElem hi)).2 x H2 yl
   obtain ⟨os,ho,hb⟩:=Uj (hst i _ Γ' (List.getElem?_eq_getElem hi) hI)
   refine ⟨Z',_,os,dv,ho,λvs hvs=>?_⟩
   have s3:=s'.trans (yg s2)
   have again:∀ Z2 Γ2 σ2 H3,y9 Z0 H0 Z2 Γ2 σ2 H3->zF (zQ Z' H2) (zQ Z2 H3)->I (i + 1) Γ2->m - 1 + (i + 1)=ds.length/\∃ Z' Γ',y9 Z0 H0 Z' Γ' σ2 H3/\zF (zQ Z H1) (zQ Z' H3)/\I (i + 1) Γ':=λZ2 Γ2 σ2 H3 E3 k hI=>⟨by omega,Z2,Γ2,E3,s3.trans k,hI⟩
   exact ⟨Z0,H0,Z',_,_,(E'.mv s2).setN hvs,hb,again,rt,g s3 nx,again⟩
  ·have ei:i=ds.length:=by omega
   rw [ei] at hI
   exact .inl ⟨w2 ei,nx Z' Γ' σ' H' E' ((yg s1).trans s') (hd Γ' hI)⟩⟩
def Xc:Sl->(List D->Prop)->Prop
 | .ow ds,R=>R ds
 | _,_=>False
theorem Uw {s:Sl} {R:List D->Prop} (h:Xc s R):∃ ds,s=.ow ds/\R ds:=by
 cases s with
 | ow ds=>exact ⟨ds,rfl,h⟩
 | _=>exact h.elim
def Ux (i:Nat) (pa:yN):xV:=λD Γ=>Xc (slot Γ i) λds=>pa Γ λd=>ds.length < 1000/\D.nx (yA Γ i (.ow (ds++[d])))
theorem wa {i:Nat} {K:PySem.W.Frag} (D:xU) (σ:St) (H:Hp):xB (Ux i pa) D σ H->QV (Q9 K "list" j6 (uN i) (qw (tP pa) vj)) D σ H:=λ⟨Z0,H0,Z,Γ,Dp,E,h,nx,rt,bk,ct⟩=>by
 obtain ⟨ds,hs,h⟩:=Uw h
 obtain ⟨l,xs,hl,hz,el,hx⟩:=E.e.ow i ds hs
 refine ⟨.ref l,hl,.inl ⟨rfl,xs,zR.of el⟩,Z,Γ,_,E.e,h,λd v H1 hd s1 hv=>?_⟩
 have hx1:=xR (yg s1) hx
 exact ⟨l,xs,v,rfl,rfl,s1 _ _ el,ut (by rw [wR hx]; omega),nx Z _ _ _ ((E.mv s1).put hs hl hz (j3 hv hx1)) ((yg s1).trans (Zf hz)) hd.2⟩
def Uy (i:Nat) (pa pb:yN):xV:=λD Γ=>pa Γ λd=>Xc (slot Γ i) λds=>pb Γ λk=>iD k λo=>∃ z j,o=some z/\wM ds.length z=some j/\D.nx (yA Γ i (.ow (ds.set j d)))
theorem zOe {α β:Type} {R:α->β->Prop} {x:α} {y:β} (r:R x y):∀ {xs:List α} {ys:List β} (i:Nat),Paired R xs ys->Paired R (xs.set i x) (ys.set i y)
 | _,_,_,.nil=>.nil
 | _,_,0,.cons _ t=>.cons r t
 | _,_,i + 1,.cons q t=>.cons q (zOe r i t)
theorem zP2 {i:Nat} (D:xU) (σ:St) (H:Hp):xB (Uy i pa pb) D σ H->uI (tP pa) (gt (uN i) (tP pb) j7) D σ H:=λ⟨Z0,H0,Z,Γ,Dp,E,h,nx,rt,bk,ct⟩=>
 ⟨Z,Γ,_,E.e,h,λd v H1 hd s1 hv=>by
  obtain ⟨ds,hs,h⟩:=Uw hd
  obtain ⟨l,xs,hl,hz,el,hx⟩:=(E.mv s1).e.ow i ds hs
  refine ⟨.ref l,hl,Z,Γ,_,(E.mv s1).e,h,λk u H2 hk s2 hu=>?_⟩
  unfold iD at hk
  split at hk
  ·obtain ⟨z,j,e1,e2,hd⟩:=hk
   cases e1
   cases hu
   have s:=s1.trans s2
   have hx1:=xR (yg s2) hx
   exact ⟨l,xs,_,j,rfl,rfl,s2 _ _ el,by rw [wR hx]; exact e2,nx Z _ _ _ ((E.mv s).put hs hl hz (zOe (hv.same (yg s2)) j hx1)) ((yg s).trans (Zf hz)) hd⟩
  ·exact hk.elim⟩
def ixL (ds:List D):D->(D->Prop)->Prop
 | .int i,R=>∃ d,yU ds i=some d/\R d
 | _,_=>False
def Uz (i:Nat) (pb:yN):yN:=λΓ R=>Xc (slot Γ i) λds=>pb Γ λk=>ixL ds k R
theorem zOX (i:Nat) {x:Str} {b:Expr} {xp:Pos} (hb:PE X b (tP pb)) (hs:Wx b) (hN:X.N[i]? = some x:=by rfl) (hv:jD X.env.scope x:=by first | exact Or.inl rfl | exact Or.inr (Or.inl rfl) | exact Or.inr (Or.inr rfl)) (hd:(x == ("__debug__" : Str))=false:=by decide)
  (hcd:(x == ("__classdict__" : Str))=false:=by decide):PE X (.Subscript (.Name x xp) b pos) (tP (Uz i pb)):=yM (v5 v6 (yT i hN hv hd hcd) hb hs) λσ H Q ⟨Z,Γ,R,E,h,q⟩=>by
 obtain ⟨ds,hs,h⟩:=Uw h
 obtain ⟨l,xs,hl,hz,el,hx⟩:=E.ow i ds hs
 refine ⟨.ref l,hl,Z,Γ,_,E,h,λk u H2 hk s2 hu=>?_⟩
 unfold ixL at hk
 split at hk
 ·cases hu
  obtain ⟨d,hd,hR⟩:=hk
  obtain ⟨v,hv,hh⟩:=XS hx hd
  exact ⟨l,xs,_,v,rfl,rfl,zR.of (s2 _ _ el),hv,q _ _ H2 hR s2 (hh.same (yg s2))⟩
 ·exact hk.elim
def D.isInt:D->Bool
 | .int _=>true
 | .bool _=>true
 | _=>false
def D.isBool:D->Bool
 | .bool _=>true
 | _=>false
def D.isLst:D->Bool
 | .lst _=>true
 | .scr _=>true
 | _=>false
def D.isTup:D->Bool
 | .tup _=>true
 | _=>false
def D.isObj:D->Bool
 | .obj ..=>true
 | _=>false
def Zj (c:String) (f:D->Bool):D->(D->Prop)->Prop:=λd R=>d.isObj=false/\R (.bool (f d))
theorem Xd {K:PySem.W.Frag} {H:Hp} {v:V} {d:D} (h:DV H v d) (o:d.isObj=false):∃ t,yP K H v t/\PySem.W.kitOne K t (.type "int")=some d.isInt/\PySem.W.kitOne K t (.type "bool")=some d.isBool/\PySem.W.kitOne K t (.type "list")=some d.isLst/\PySem.W.kitOne K t (.type "tuple")=some d.isTup:=by
 cases h with
 | int i=>exact ⟨_,.int i,jM K .int,jN K .int,jP K .int,jO K .int⟩
 | bool b=>exact ⟨_,.bl b,jM K .bool,jN K .bool,jP K .bool,jO K .bool⟩
 | non=>exact ⟨_,.non,jM K .non,jN K .non,jP K .non,jO K .non⟩
 | str x=>exact ⟨_,.str x,jM K .str,jN K .str,jP K .str,jO K .str⟩
 | scr e=>
  rcases e with e | ⟨o,e⟩
  ·exact ⟨_,.lst e,jM K .lst,jN K .lst,jP K .lst,jO K .lst⟩
  ·exact ⟨_,.frz e,jM K .lst,jN K .lst,jP K .lst,jO K .lst⟩
 | lst e _=>exact ⟨_,.lst e,jM K .lst,jN K .lst,jP K .lst,jO K .lst⟩
 | tup e _=>exact ⟨_,.tup e,jM K .tup,jN K .tup,jP K .tup,jO K .tup⟩
 | obj e _ _=>cases o
theorem wy {K:PySem.W.Frag} {c:String} {f:D->Bool} (hf:∀ H v d,DV H v d->d.isObj=false->∃ t,yP K H v t/\PySem.W.kitOne K t (.type c)=some (f d)) (σ:St) (H:Hp) (Q:VK):tP (ZK (Zj c f) pa) σ H Q->kK (KM K) (qw (tP pa) (qw (tC (.ty c)) vj)) σ H Q:=λ⟨Z,Γ,R,E,h,q⟩=>
 ⟨Z,Γ,_,E,h,λd v H1 hd s1 hv=>by
  obtain ⟨t,h1,h2⟩:=hf H1 v d (hv.same zx) hd.1
  exact ⟨v,c,t,_,rfl,h1,h2,q _ _ H1 hd.2 s1 (.bool _)⟩⟩
theorem zQx {K:PySem.W.Frag} (H:Hp) (v:V) (d:D) (h:DV H v d) (o:d.isObj=false):∃ t,yP K H v t/\PySem.W.kitOne K t (.type "int")=some d.isInt:=let ⟨t,h1,h2,_⟩:=Xd h o; ⟨t,h1,h2⟩
theorem zMH {K:PySem.W.Frag} (H:Hp) (v:V) (d:D) (h:DV H v d) (o:d.isObj=false):∃ t,yP K H v t/\PySem.W.kitOne K t (.type "bool")=some d.isBool:=let ⟨t,h1,_,h2,_⟩:=Xd h o; ⟨t,h1,h2⟩
theorem jX {K:PySem.W.Frag} (H:Hp) (v:V) (d:D) (h:DV H v d) (o:d.isObj=false):∃ t,yP K H v t/\PySem.W.kitOne K t (.type "list")=some d.isLst:=let ⟨t,h1,_,_,h2,_⟩:=Xd h o; ⟨t,h1,h2⟩
theorem Zk {K:PySem.W.Frag} (H:Hp) (v:V) (d:D) (h:DV H v d) (o:d.isObj=false):∃ t,yP K H v t/\PySem.W.kitOne K t (.type "tuple")=some d.isTup:=let ⟨t,h1,_,_,_,h2⟩:=Xd h o; ⟨t,h1,h2⟩
end
inductive zI (F:FL) (vs:List V) (H:Hp) (Q:VK) (E:XK):Prop
 | mk (Z:Addr->Prop) (ds:List D) (R:D->Prop) (zd:ZL Z H) (hv:yX (zQ Z H) vs ds) (h:F ds R) (q:∀ d v H',R d->zF H H'->DV (zQ Z H') v d->Q v H'):zI F vs H Q E
section
variable {P:Program} {w:World} {K:PySem.W.Frag} {mg:Str->Option Value} {base:Heap}
theorem qN (n i:Nat):slot (List.replicate n .no) i=.no:=by
 rw [zJh]
 cases h:(List.replicate n Sl.no)[i]? with
 | none=>rfl
 | some x=>exact List.eq_of_mem_replicate (List.mem_of_getElem? h)
theorem zIW {Z:Addr->Prop} {H:Hp} {vs:List V} {ds:List D} (zd:ZL Z H) (h:yX (zQ Z H) vs ds) (n:Nat):yd Z (ds.map Sl.sh++List.replicate n .no) (vs.map some++List.replicate n none) H:=by
 have no:∀ i as,slot (ds.map Sl.sh++List.replicate n .no) i≠.ow as:=XZ λi as h=>by rw [qN] at h; cases h
 have nob:∀ i o c ns as,slot (ds.map Sl.sh++List.replicate n .no) i≠.ob o c ns as:=XY λi o c ns as h=>by rw [qN] at h; cases h
 refine ⟨?_,λi as e=>absurd e (no i as),λi o c ns as e=>absurd e (nob i o c ns as),λi _ as _ _ e=>absurd e (no i as),zd,?_⟩
 clear nob
 ·induction h with
  | nil=>
   intro i d e
   change slot (List.replicate n .no) i=_ at e
   rw [qN] at e
   cases e
  | @cons v d vs ds hv _ ih=>
   intro i e q
   cases i with
   | zero=>cases q; exact ⟨v,rfl,hv⟩
   | succ i=>
    obtain ⟨u,h1,h2⟩:=ih (λi=>no (i + 1)) i e q
    exact ⟨u,by rw [List.map_cons,List.cons_append,List.getElem?_cons_succ]; exact h1,h2⟩
 ·rw [List.length_append,List.length_append,List.length_map,List.length_map,List.length_replicate,List.length_replicate,wR h]
theorem zJy {N ps:List Str} {F:FL} {p:xV} (len:∀ ds R,F ds R->ds.length=ps.length) (h2:∀ ds R,F ds R->p { nx:=λ_=>R .non,rt:=R } (ds.map Sl.sh++List.replicate (N.length - ps.length) .no)) {H:Hp} {vs:List V} {Q:VK} {E:XK} (h:zI F vs H Q E):xB p { nx:=λ_ H'=>Q .non H',rt:=Q } (L2.start N vs) H:=by
 obtain ⟨Z,ds,R,zd,hv,h,q⟩:=h
 have e:L2.start N vs=vs.map some++List.replicate (N.length - ps.length) none:=by
  unfold L2.start
  rw [wR hv,len ds R h]
 refine ⟨Z,H,Z,_,_,⟨?_,λ_ h=>h,zd,zF.refl _,?_,?_⟩,h2 ds R h,λZ' Γ' σ' H' E' _ hn=>q .non .non H' hn E'.same .non,λd v H' s' hv' hd=>q d v H' hd s' hv',λ_ _ _ _ _ _ h=>h.elim,λ_ _ _ _ _ _ h=>h.elim⟩
 ·rw [e]
  exact zIW zd hv _
 ·exact λi as l e=>absurd e (XZ (λi as h=>by rw [qN] at h; cases h) i as)
 ·exact λi o c ns as e=>absurd e (XY (λi o c ns as h=>by rw [qN] at h; cases h) i o c ns as)
theorem U0 {ps:List Str} {F:FL} (len:∀ ds R,F ds R->ds.length=ps.length) (vs:List V) (H:Hp) (Q:VK) (E:XK):zI F vs H Q E->vs.length=ps.length:=λ⟨Z,ds,R,zd,hv,h,q⟩=>by rw [wR hv]; exact len ds R h
theorem zu {x qual:Str} {st:Stmt} {f:Addr} {fd:FuncData} {N ps:List Str} {k:Nat} {F:FL} (Fu:zf K x qual st f fd) (S:ze N ps (zK st)) (len:∀ ds R,F ds R->ds.length=ps.length)
  (hbody:∀ (cdv:Value) (A:Around) (outer:List Env) (s:Shared) (H:Hp) (E:XK),zj k (A.deeper (envOfC qual (zK st) s.heap.objs.size f cdv))->
   ∃ p,xO (xu zZ P w K mg base N qual (zK st) f cdv A outer s H E).nox (xw st) (xB p)/\∀ ds R,F ds R->p { nx:=λ_=>R .non,rt:=R } (ds.map Sl.sh++List.replicate (N.length - ps.length) .no)):zH P w K mg base zZ (k + 1) f fd ps (zI F):=
 Fu.ok S (U0 len) λcdv A outer s H vs Q E hr h=>let ⟨p,h1,h2⟩:=hbody cdv A outer s H E hr; ⟨_,h1,zJy len h2 h⟩
theorem Zl {x qual:Str} {st:Stmt} {f:Addr} {fd:FuncData} {dv:Value} {N ps:List Str} {k:Nat} {F:FL} (Fu:xg K x qual st f fd dv) (S:ze N ps (zK st)) (len:∀ ds R,F ds R->ds.length=ps.length)
  (hbody:∀ (cdv:Value) (A:Around) (outer:List Env) (s:Shared) (H:Hp) (E:XK),zj k (A.deeper (envOfC qual (zK st) s.heap.objs.size f cdv))->
   ∃ p,xO (xu zZ P w K mg base N qual (zK st) f cdv A outer s H E).nox (xw st) (xB p)/\∀ ds R,F ds R->p { nx:=λ_=>R .non,rt:=R } (ds.map Sl.sh++List.replicate (N.length - ps.length) .no)):zH P w K mg base zZ (k + 1) f fd ps (zI F):=
 Fu.ok S (U0 len) λcdv A outer s H vs Q E hr h=>let ⟨p,h1,h2⟩:=hbody cdv A outer s H E hr; ⟨_,h1,zJy len h2 h⟩
theorem zP {X:Cx} {x:Str} {ps:List Str} {k:Nat} {F:FL} {e:Expr} {es:List Expr} {pl:xP} {p pos:Pos} (c:Fn X.prog X.w X.K X.mg X.base x ps k (zI F)) (hr:zj k X.A) (hg:Gl X x) (ha:PA X (e :: es) (wX pl))
  (hdb:(x == ("__debug__" : Str))=false:=by decide) (he:starEach (e :: es) X.env=(false,eval e X.env) :: starEach es X.env:=by rfl) (hpl:(backTo pos (starEach es X.env)).any (·.1)=false:=by rfl) :
  PE X (.Call (.Name x p) (e :: es) [] pos) (tP (jV F pl)):=yM (W6 c hr hg ha hdb he hpl) λσ H Q ⟨Z,Γ,R,E,h,q⟩=>
 ⟨Z,Γ,_,E,h,λds vs H1 hd s1 hv=>⟨Z,ds,R,(E.same s1).zd,by rw [List.append_nil]; exact hv,hd,λd v H2 h2 s2 hv2=>q d v H2 h2 (s1.trans s2) hv2⟩⟩
end
end Pu
namespace Pu
open PySem L2 Sh
open PyProof.Rows (envOfC)
theorem zJp {f:Str} {y:V}:∀ {ns:List Str} {xs:List V},ns.length=xs.length->f∉ns->yi f y (ns.zip xs)=(ns++[f]).zip (xs++[y])
 | [],[],_,_=>rfl
 | [],_ :: _,h,_=>nomatch h
 | _ :: _,[],h,_=>nomatch h
 | n :: ns,x :: xs,h,hf=>by
  show (if n=f then (n,y) :: ns.zip xs else (n,x) :: yi f y (ns.zip xs))=_
  rw [if_neg (λz=>hf (by rw [z]; exact List.mem_cons_self)),zJp (Nat.succ.inj h) (λz=>hf (List.mem_cons_of_mem _ z))]
  rfl
theorem y9.putO {Z0:Addr->Prop} {H0:Hp} {Z:Addr->Prop} {Γ:List Sl} {σ:St} {H:Hp} (E:y9 Z0 H0 Z Γ σ H) {i:Nat} {o c dx:Addr} {ns ns':List Str} {ds ds':List D} {xs:List V} (hs:slot Γ i=.ob o c ns ds) (he:∃ fs,H o=some (.ins c dx fs)) (hl:ns'.length=xs.length) (hx:yX (zQ Z H) xs ds') (one:∀ j o' c' ns' ds',slot Γ j=.ob o' c' ns' ds'->j=i):y9 Z0 H0 Z (yA Γ i (.ob o c ns' ds')) σ (zU H o (.ins c dx (ns'.zip xs))):=by
 obtain ⟨dx0,xs0,hl0,hz,el,_⟩:=E.e.ob i o c ns ds hs
 have li:=uB (Γ:=Γ) (i:=i) (by rw [hs]; exact λz=>nomatch z)
 have hp:zF (zQ Z H) (zQ Z (zU H o (.ins c dx (ns'.zip xs)))):=Zf hz
 have keyw:∀ j d,slot (yA Γ i (.ob o c ns' ds')) j=.ow d->slot Γ j=.ow d:=λj d q=>by
  rw [xS] at q
  by_cases c:j=i/\i < Γ.length
  ·rw [if_pos c] at q; cases q
  ·rw [if_neg c] at q; exact q
 refine ⟨⟨λj d q=>?_,λj d q=>?_,λj o' c' ns1 d q=>?_,λj k as bs m q r=>E.e.ne j k as bs m (keyw j as q) (keyw k bs r),λb hb=>?_,by rw [qB]; exact E.e.len⟩,E.z0,E.z0d,?_,λj d m q=>E.own j d m (keyw j d q),λj o' c' ns1 d q=>?_⟩
 ·rw [xS] at q
  by_cases c:j=i/\i < Γ.length
  ·rw [if_pos c] at q; cases q
  ·rw [if_neg c] at q
   obtain ⟨v,h1,h2⟩:=E.e.sh j d q
   exact ⟨v,h1,h2.same hp⟩
 ·obtain ⟨m,ys,h1,h2,h3,h4⟩:=E.e.ow j d (keyw j d q)
  have nm:m≠o:=λz=>by rw [z,el] at h3; cases h3
  exact ⟨m,ys,h1,h2,by rw [zr nm]; exact h3,xR hp h4⟩
 ·rw [xS] at q
  by_cases c:j=i/\i < Γ.length
  ·rw [if_pos c] at q
   cases q
   rw [c.1]
   exact ⟨dx,xs,hl0,hz,xM,hl,xR hp hx⟩
  ·rw [if_neg c] at q
   exact absurd ⟨one _ _ _ _ _ q,li⟩ c
 ·obtain ⟨u,e,n⟩:=E.e.zd b hb
  by_cases c:b=o
  ·rw [c]; exact ⟨_,xM,λ_ z=>nomatch z⟩
  ·exact ⟨u,by rw [zr c]; exact e,n⟩
 ·exact λb u e=>by
   rw [zr (wb e (E.owb i o c ns ds hs))]
   exact E.same _ _ e
 ·rw [xS] at q
  by_cases c:j=i/\i < Γ.length
  ·rw [if_pos c] at q
   cases q
   exact E.owb i o _ ns ds hs
  ·rw [if_neg c] at q
   exact E.owb j o' c' ns1 d q
def Xe:Sl->(Addr->Addr->List Str->List D->Prop)->Prop
 | .ob o c ns ds,R=>R o c ns ds
 | _,_=>False
theorem zL6 {s:Sl} {R:Addr->Addr->List Str->List D->Prop} (h:Xe s R):∃ o c ns ds,s=.ob o c ns ds/\R o c ns ds:=by
 cases s with
 | ob o c ns ds=>exact ⟨o,c,ns,ds,rfl,h⟩
 | _=>exact h.elim
def qO:List Sl->Bool
 | []=>true
 | .ob _ _ _ _ :: _=>false
 | _ :: t=>qO t
theorem Xf:∀ {Γ:List Sl},qO Γ=true->∀ j o c ns ds,slot Γ j≠.ob o c ns ds
 | [],_,_,_,_,_,_,h=>nomatch h
 | .no :: _,_,0,_,_,_,_,h=>nomatch h
 | .sh _ :: _,_,0,_,_,_,_,h=>nomatch h
 | .ow _ :: _,_,0,_,_,_,_,h=>nomatch h
 | .ob .. :: _,g,_,_,_,_,_,_=>nomatch g
 | .no :: t,g,j + 1,o,c,ns,ds,h=>Xf (Γ:=t) g j o c ns ds h
 | .sh _ :: t,g,j + 1,o,c,ns,ds,h=>Xf (Γ:=t) g j o c ns ds h
 | .ow _ :: t,g,j + 1,o,c,ns,ds,h=>Xf (Γ:=t) g j o c ns ds h
def zRV (K:PySem.W.Frag) (c:Addr) (f:Str):Prop:=uJ K c/\yq K c f
def U1 (K:PySem.W.Frag) (f:Str) (pa:yN):xV:=λT Γ=>pa Γ λd=>Xe (slot Γ 0) λo c ns ds=>zRV K c f/\f∉ns/\ns.length < 900/\qO (Γ.drop 1)=true/\T.nx (yA Γ 0 (.ob o c (ns++[f]) (ds++[d])))
section
variable {X:Cx} {e:Expr} {es:List Expr} {pos:Pos} {pa:yN} {pl:xP} {C:Addr}
theorem wB {K:PySem.W.Frag} {f:Str} (D:xU) (σ:St) (H:Hp):xB (U1 K f pa) D σ H->kJ K (uN 0) (tP pa) f D σ H:=λ⟨Z0,H0,Z,Γ,Dp,E,h,nx,rt,bk,ct⟩=>
 ⟨Z,Γ,_,E.e,h,λd v H1 hd s1 hv=>by
  obtain ⟨o,c,ns,ds,hs,hk,hf,hn,hn2,hd⟩:=zL6 hd
  obtain ⟨dx,xs,hl,hz,el,ln,hx⟩:=(E.mv s1).e.ob 0 o c ns ds hs
  refine ⟨.ref o,hl,o,c,dx,_,rfl,el,hk.1,hk.2,by rw [List.length_zip]; omega,?_⟩
  rw [zJp ln hf]
  refine nx Z _ _ _ ((E.mv s1).putO hs ⟨_,el⟩ (by rw [List.length_append,List.length_append,ln]; rfl) (j3 hv hx) ?_) ((yg s1).trans (Zf hz)) hd
  intro j o' c' ns' ds' q
  cases j with
  | zero=>rfl
  | succ j=>
   cases Γ with
   | nil=>cases q
   | cons x t=>exact absurd q (Xf (Γ:=t) hn2 j o' c' ns' ds')⟩
inductive wl (C:Addr) (F:FL) (vs:List V) (H:Hp) (Q:VK) (E:XK):Prop
 | mk (Z:Addr->Prop) (ds:List D) (R:D->Prop) (o dx:Addr) (us:List V) (e:vs=.ref o :: us) (ho:H o=some (.ins C dx [])) (hz:¬ Z o) (zd:ZL Z H) (hv:yX (zQ (λb=>Z b\/b=o) H) us ds) (h:F ds R) (q:∀ d H',R d->Ki o H H'->DV (zQ Z H') (.ref o) d->Q .non H'):wl C F vs H Q E
theorem zNz {N ps:List Str} {F:FL} {p:xV} (len:∀ ds R,F ds R->ds.length=ps.length) (h2:∀ o ds R,F ds R->p { nx:=λΓ=>Xe (slot Γ 0) λo' c ns es=>o'=o/\R (.obj c ns es),rt:=λ_=>False } (.ob o C [] [] :: (ds.map Sl.sh++List.replicate (N.length - (ps.length + 1)) .no))) {H:Hp} {vs:List V} {Q:VK} {E:XK} (h:wl C F vs H Q E):xB p { nx:=λ_ H'=>Q .non H',rt:=Q } (L2.start N vs) H:=by
 obtain ⟨Z,ds,R,o,dx,us,e,ho,hz,zd,hv,h,q⟩:=h
 subst e
 have e:L2.start N (.ref o :: us)=some (.ref o) :: (us.map some++List.replicate (N.length - (ps.length + 1)) none):=by
  unfold L2.start
  rw [List.length_cons,wR hv,len ds R h]
  rfl
 have zd':ZL (λb=>Z b\/b=o) H:=λb hb=>hb.elim (zd b) λz=>by rw [z]; exact ⟨_,ho,λ_ z=>nomatch z⟩
 have E0:=zIW zd' hv (N.length - (ps.length + 1))
 refine ⟨Z,zQ (λb=>b=o) H,λb=>Z b\/b=o,_,_,⟨?_,λ_ h=>.inl h,λb hb=>?_,zx,?_,?_⟩,h2 o ds R h,λZ' Γ' σ' H' E' _ hn=>?_,λ_ _ _ _ _ h=>h.elim,λ_ _ _ _ _ _ h=>h.elim,λ_ _ _ _ _ _ h=>h.elim⟩
 ·rw [e]
  refine ⟨λi d q=>?_,λi d q=>?_,λi o' c ns d q=>?_,λi j as bs l q r=>?_,zd',by rw [List.length_cons,List.length_cons,E0.len]⟩
  ·cases i with
   | zero=>cases q
   | succ i=>exact E0.sh i d q
  ·cases i with
   | zero=>cases q
   | succ i=>exact E0.ow i d q
  ·cases i with
   | zero=>cases q; exact ⟨dx,[],rfl,.inr rfl,ho,rfl,.nil⟩
   | succ i=>exact E0.ob i o' c ns d q
  ·cases i with
   | zero=>cases q
   | succ i=>
    cases j with
    | zero=>cases r
    | succ j=>exact λa b=>congrArg _ (E0.ne i j as bs l q r a b)
 ·obtain ⟨u,e1,n⟩:=zd b hb
  exact ⟨u,(xm (Z:=λb=>b=o) λz=>hz (by rw [<- z]; exact hb)).trans e1,n⟩
 ·intro i as l q
  cases i with
  | zero=>cases q
  | succ i=>exact absurd q (XZ (λi as h=>by rw [qN] at h; cases h) i as)
 ·intro i o' c ns as q
  cases i with
  | zero=>cases q; exact if_pos rfl
  | succ i=>exact absurd q (XY (λi o c ns as h=>by rw [qN] at h; cases h) i o' c ns as)
 ·obtain ⟨o',c,ns,es,hs,e2,hR⟩:=zL6 hn
  subst e2
  obtain ⟨dx',xs,hl,hz',el,ln,hx⟩:=E'.e.ob 0 o' c ns es hs
  refine q _ H' hR (λb u eb nb=>E'.same _ _ ((xm (Z:=λb=>b=o') nb).trans eb)) (.obj ((xm hz).trans el) ln (xR (XJ E'.z0) hx))
theorem zO6 {ps:List Str} {p0:Str} {F:FL} (len:∀ ds R,F ds R->ds.length=ps.length) (vs:List V) (H:Hp) (Q:VK) (E:XK):wl C F vs H Q E->vs.length=(p0 :: ps).length:=λ⟨Z,ds,R,o,dx,us,e,ho,hz,zd,hv,h,q⟩=>by rw [e,List.length_cons,List.length_cons,wR hv,len ds R h]
theorem Xg {P:Program} {w:World} {K:PySem.W.Frag} {mg:Str->Option Value} {base:Heap} {x qual:Str} {st:Stmt} {f:Addr} {fd:FuncData} {N ps:List Str} {p0:Str} {k:Nat} {F:FL} (Fu:zf K x qual st f fd) (S:ze N (p0 :: ps) (zK st)) (len:∀ ds R,F ds R->ds.length=ps.length)
  (hbody:∀ (cdv:Value) (A:Around) (outer:List Env) (s:Shared) (H:Hp) (E:XK),zj k (A.deeper (envOfC qual (zK st) s.heap.objs.size f cdv))->
   ∃ p,xO (xu zZ P w K mg base N qual (zK st) f cdv A outer s H E).nox (xw st) (xB p)/\∀ o ds R,F ds R->p { nx:=λΓ=>Xe (slot Γ 0) λo' c ns es=>o'=o/\R (.obj c ns es),rt:=λ_=>False } (.ob o C [] [] :: (ds.map Sl.sh++List.replicate (N.length - (ps.length + 1)) .no))):zH P w K mg base zZ (k + 1) f fd (p0 :: ps) (wl C F):=
 Fu.ok S (zO6 len) λcdv A outer s H vs Q E hr h=>let ⟨p,h1,h2⟩:=hbody cdv A outer s H E hr; ⟨_,h1,zNz len h2 h⟩
theorem zNP {F:FL} {ev:List V} {ed:List D} (he:∀ H,yX H ev ed) (σ:St) (H:Hp) (Q:VK):tP (jV (λds=>F (ds++ed)) pl) σ H Q->Yn C (wl C F) ev E0 (wX pl) σ H Q:=λ⟨Z,Γ,R,E,h,q⟩=>
 ⟨Z,Γ,_,E,h,λds vs H1 hd s1 hv x dx hx hdx ne=>by
  have zd:=(E.same s1).zd
  have s2:zF H1 (zU (zU H1 dx (.own x)) x (.ins C dx [])):=zLc hx hdx ne _ _
  refine ⟨Z,ds++ed,R,x,dx,vs++ev,rfl,xM,zd.new hx,zd.same s2,?_,hd,λd H' hR sb dv=>⟨rfl,q d _ H' hR (zNa (s1.trans s2) sb ?_) dv⟩⟩
  ·refine gD (xR ?_ hv) (he _)
   intro b o e
   obtain ⟨n1,n2⟩:=qA e
   rw [xm (λz=>z.elim n1 (wb n2 hx))]
   exact s2 _ _ n2
  ·cases k:H x with
   | none=>rfl
   | some o=>rw [s1 _ _ k] at hx; cases hx⟩
theorem zOy {F:FL} (σ:St) (H:Hp) (Q:VK) (h:tP (jV F pl) σ H Q):Yn C (wl C F) [] E0 (wX pl) σ H Q:=zNP (ed:=[]) (λ_=>.nil) σ H Q (by rw [show (λds=>F (ds++[]))=F from funext λds=>by rw [List.append_nil]]; exact h)
theorem qP {x:Str} {ps:List Str} {k:Nat} {F:FL} {p:Pos} (c:v7 X.prog X.w X.K X.mg X.base C ps k (wl C F)) (T:zE X.K X.mg x C) (hr:zj (k + 1) X.A) (hg:Gl X x) (ha:PA X (e :: es) (wX pl))
  (hdb:(x == ("__debug__" : Str))=false:=by decide) (he:starEach (e :: es) X.env=(false,eval e X.env) :: starEach es X.env:=by rfl) (hpl:(backTo pos (starEach es X.env)).any (·.1)=false:=by rfl) :
  PE X (.Call (.Name x p) (e :: es) [] pos) (tP (jV F pl)):=yM (zNm c T hr hg ha hdb he hpl) zOy
theorem vR {x:Str} {ps:List Str} {k:Nat} {F:FL} {p:Pos} {dv:V} (dd:D) (hd:∀ H,DV H dv dd) (c:vX X.prog X.w X.K X.mg X.base x ps k (zI F) dv) (hr:zj k X.A) (hg:Gl X x) (ha:PA X (e :: es) (wX pl))
  (hdb:(x == ("__debug__" : Str))=false:=by decide) (he:starEach (e :: es) X.env=(false,eval e X.env) :: starEach es X.env:=by rfl) (hpl:(backTo pos (starEach es X.env)).any (·.1)=false:=by rfl) :
  PE X (.Call (.Name x p) (e :: es) [] pos) (tP (jV (λds=>F (ds++[dd])) pl)):=yM (zLr c hr hg ha hdb he hpl) λσ H Q ⟨Z,Γ,R,E,h,q⟩=>
 ⟨Z,Γ,_,E,h,λds vs H1 hd' s1 hv=>⟨Z,ds++[dd],R,(E.same s1).zd,gD hv (.cons (hd _) .nil),hd',λd v H2 h2 s2 hv2=>q d v H2 h2 (s1.trans s2) hv2⟩⟩
def Zm (K:PySem.W.Frag) (f:Str):D->(D->Prop)->Prop
 | .obj c ns ds,R=>zRV K c f/\∃ d,(ns.zip ds).lookup f=some d/\R d
 | _,_=>False
theorem zIN {H:Hp} {f:Str} {d:D}:∀ {ns:List Str} {xs:List V} {ds:List D},ns.length=xs.length->yX H xs ds->(ns.zip ds).lookup f=some d->∃ v,(ns.zip xs).lookup f=some v/\DV H v d
 | [],_,_,_,_,h=>nomatch h
 | _ :: _,[],_,h,_,_=>nomatch h
 | n :: ns,x :: xs,_,h,.cons (b:=d') (l₂:=dt) k t,q=>by
  change (match f == n with | true=>some d' | false=>(ns.zip dt).lookup f)=some d at q
  show ∃ v,(match f == n with | true=>some x | false=>(ns.zip xs).lookup f)=some v/\_
  cases e:f == n with
  | true=>rw [e] at q; cases q; exact ⟨x,rfl,k⟩
  | false=>rw [e] at q; exact zIN (Nat.succ.inj h) t q
theorem zo (K:PySem.W.Frag) {f:Str} (ha:PE X e (tP pa)) (hb:attributeBase e f X.env (eval e X.env)=eval e X.env) (hK:X.K=K:=by rfl):PE X (.Attribute e f pos) (tP (ZK (Zm K f) pa)):=yM (zQY ha hb) λσ H Q ⟨Z,Γ,R,E,h,q⟩=>
 ⟨Z,Γ,_,E,h,λd v H1 hd s1 hv=>by
  unfold Zm at hd
  split at hd
  ·obtain ⟨hk,d',hl,hR⟩:=hd
   cases hv with
   | obj e1 l1 h1=>
    obtain ⟨v,e2,dv⟩:=zIN l1 h1 hl
    exact ⟨_,_,_,_,v,rfl,zx _ _ e1,by rw [hK]; exact hk.1,by rw [hK]; exact hk.2,e2,q _ _ H1 hR s1 dv⟩
  ·exact hd.elim⟩
def zQo (C:Addr) (m:Str) (F:FL):D->(D->Prop)->Prop
 | .obj c ns ds,R=>c=C/\m∉ns/\F [.obj c ns ds] R
 | _,_=>False
theorem Yq {f:Str}:∀ {ns:List Str} {xs:List V},f∉ns->(ns.zip xs).lookup f=none
 | [],_,_=>rfl
 | _ :: _,[],_=>rfl
 | n :: ns,x :: xs,h=>by
  show (match f == n with | true=>some x | false=>(ns.zip xs).lookup f)=none
  have e:(f == n)=false:=beq_eq_false_iff_ne.mpr λz=>h (by rw [z]; exact List.mem_cons_self)
  rw [e]
  exact Yq λz=>h (List.mem_cons_of_mem _ z)
theorem jY {x m:Str} {ps:List Str} {k:Nat} {F:FL} {apos:Pos} {pl:Sem Bool} (c:vn X.prog X.w X.K X.mg X.base C m ps k (zI F)) (T:zE X.K X.mg x C) (hr:zj k X.A) (ha:PE X e (tP pa))
  (ht:eval (.Call (.Attribute e m apos) [] [] pos) X.env=(do
   let ov <- eval e X.env
   standAt apos.atName
   let (f,first) <- holding [ov] (getMethod ov m pl)
   callWith pos f first (backTo pos (starEach [] X.env)) (backToKw pos (keywordEach [] X.env))):=by rfl) :
  PE X (.Call (.Attribute e m apos) [] [] pos) (tP (ZK (zQo C m F) pa)):=yM (zLo c T hr ha ht) λσ H Q ⟨Z,Γ,R,E,h,q⟩=>
 ⟨Z,Γ,_,E,h,λd v H1 hd s1 hv=>by
  unfold zQo at hd
  split at hd
  ·obtain ⟨rfl,hm,hR⟩:=hd
   have hv0:=hv
   cases hv with
   | obj e1 l1 h1=>exact ⟨_,_,_,rfl,zx _ _ e1,Yq hm,Z,_,R,(E.same s1).zd,.cons hv0 .nil,hR,λd v H2 h2 s2 hv2=>q d v H2 h2 (s1.trans s2) hv2⟩
  ·exact hd.elim⟩
def zQz (K:PySem.W.Frag) (C:Addr):D->(D->Prop)->Prop
 | .obj c _ _,R=>(∃ mg x,zE K mg x c)/\∃ b,PySem.W.kitOne K (.ref c) (.ref C)=some b/\R (.bool b)
 | _,_=>False
theorem Zn {K:PySem.W.Frag} (σ:St) (H:Hp) (Q:VK):tP (ZK (zQz K C) pa) σ H Q->kK (Ke K) (qw (tP pa) (qw (tC (.ref C)) vj)) σ H Q:=λ⟨Z,Γ,R,E,h,q⟩=>
 ⟨Z,Γ,_,E,h,λd v H1 hd s1 hv=>by
  unfold zQz at hd
  split at hd
  ·obtain ⟨⟨mg,x,T⟩,b,hk,hR⟩:=hd
   cases hv with
   | obj e1 l1 h1=>exact ⟨_,_,_,b,rfl,T.ty (zx _ _ e1),hk,q _ _ H1 hR s1 (.bool _)⟩
  ·exact hd.elim⟩
def Zo (pa:yN):xV:=λT Γ=>pa Γ λ_=>T.nx Γ
theorem zNe (he:PE X e (tP pa)) (hs:swapsWith e none pos.line X.env=pure false:=by rfl):PS X (.Expr e pos) (xB (Zo pa)):=yC (wL he hs) λD σ H ⟨Z0,H0,Z,Γ,Dp,E,h,nx,rt,bk,ct⟩=>
 ⟨Z,Γ,_,E.e,h,λd v H1 hd s1 hv=>nx Z Γ σ H1 (E.mv s1) (yg s1) hd⟩
end
end Pu
namespace Pu
open PySem L2 Sh
def jZ (k:Nat):List D->List D
 | []=>[]
 | d :: t=>xQ (.int (k:Int)) d :: jZ (k + 1) t
theorem U2:∀ (k:Nat) (ds:List D),(jZ k ds).length=ds.length
 | _,[]=>rfl
 | k,_ :: t=>congrArg (· + 1) (U2 (k + 1) t)
theorem U3:∀ {k:Nat} {ds:List D} {i:Nat} {e:D},(jZ k ds)[i]? = some e->∃ d,ds[i]? = some d/\e=xQ (.int ((k + i:Nat):Int)) d
 | _,[],_,_,h=>by simp [jZ] at h
 | k,d :: t,0,e,h=>⟨d,rfl,by simp [jZ] at h; exact h.symm⟩
 | k,d :: t,i + 1,e,h=>by
  obtain ⟨d',h1,h2⟩:=U3 (k:=k + 1) (ds:=t) (i:=i) (e:=e) (by simpa [jZ] using h)
  exact ⟨d',by simpa using h1,by rw [h2,show k + 1 + i=k + (i + 1) by omega]⟩
theorem zNI {K:PySem.W.Frag} {Z:Addr->Prop} {H:Hp} {p:Addr} {k:Nat} {xs:List V} {ds:List D} (e:zQ Z H p=some (.lst xs)) (h:yX (zQ Z H) xs ds):Wk Z (j5 K p k) H (jZ k ds):=λi Z' H' s zd=>by
 have e1:=zx _ _ (s _ _ e)
 refine ⟨λd hd=>?_,λhi=>⟨xs,zR.of e1,by rw [U2] at hi; rw [wR h]; omega⟩⟩
 obtain ⟨d',hd',rfl⟩:=U3 hd
 obtain ⟨x,hx,hh⟩:=ZZ h hd'
 refine ⟨⟨xs,x,zR.of e1,hx⟩,λy H'' ⟨T,x',ev,hT,eH,q⟩=>?_⟩
 have:=q xs (zR.of e1)
 rw [hx] at this
 cases this
 subst ev
 subst eH
 exact ⟨xL hT _,XQ zd hT (.cons (.int _) (.cons (hh.same s) .nil))⟩
def Zq:List D->(List D->Prop)->Prop
 | [.lst ds],R=>R ds
 | _,_=>False
def enD (ds:List D):D->(List D->Prop)->Prop
 | .int i,R=>0<=i/\i<=1000/\R (jZ i.toNat ds)
 | _,_=>False
def U4 (pl:xP) (pb:yN):xP:=λΓ R=>pl Γ λds=>Zq ds λes=>pb Γ λd=>enD es d R
section
variable {X:Cx} {e1 e2:Expr} {pos:Pos} {pb:yN} {pl:xP}
theorem zLi {ts:List Expr} {kk:Nat} {tp p kp:Pos} (hg:Gl X "enumerate") (hm:X.mg "enumerate" = none) (ha:PA X [e1] (wX pl)) (he:PE X e2 (tP pb)) (hs:starEach [e1] X.env=[(false,eval e1 X.env)]:=by rfl) (hs2:starEach [] X.env=[]:=by rfl) :
  PI X (.Tuple ts kk tp) (.Call (.Name "enumerate" p) [e1] [⟨some "start",e2,kp⟩] pos) (jW (U4 pl pb)):=XW (zNj hg hm ha he hs hs2) λσ H Q ⟨Z,Γ,R,E,h,q⟩=>
 ⟨Z,Γ,_,E,h,λds vs H1 hd s1 hv=>by
  unfold Zq at hd
  split at hd
  ·obtain ⟨v,rfl,hw⟩:=xK hv
   obtain ⟨a,xs,rfl,ea,hx⟩:=hw.lst_inv
   refine ⟨a,rfl,Z,Γ,_,E.same s1,hd,λd u H2 hd2 s2 hu=>?_⟩
   unfold enD at hd2
   split at hd2
   ·rename_i i
    obtain ⟨h0,h1,hR⟩:=hd2
    cases hu
    have e2:=yg (Z:=Z) s2 _ _ ea
    refine ⟨i.toNat,by rw [show ((i.toNat:Nat):Int)=i by omega],?_,⟨xs,zR.of (zx _ _ e2)⟩,q _ _ H2 hR (s1.trans s2) (zNI e2 (xR (yg s2) hx))⟩
    unfold Builtin.SmallTypes.fitsIndex
    rw [decide_eq_true (by omega),decide_eq_true (by omega)]
    rfl
   ·exact hd2.elim
  ·exact hd.elim⟩
end
end Pu
namespace K87
open PySem L2 Sh Pu
def zm (i:Nat):Stmt:=PySem.Challenge.pw_steadyhand_k87_whole_papers_of_falls_tur.main.body.getD i (.Pass ⟨0,0,0,0⟩)
structure Bl (mg:Str->Option Value):Prop where
 isinstance_:mg "isinstance" = none
 int_:mg "int" = none
 bool_:mg "bool" = none
 tuple_:mg "tuple" = none
 len_:mg "len" = none
 all_:mg "all" = none
 list_:mg "list" = none
 range_:mg "range" = none
 zip_:mg "zip" = none
 sum_:mg "sum" = none
 max_:mg "max" = none
 enumerate_:mg "enumerate" = none
 MOST_NUMBERS_:∃ t,mg "MOST_NUMBERS" = some (.int 3 t)
 MOST_PUSHES_:∃ t,mg "MOST_PUSHES" = some (.int 6 t)
 MOST_MODES_:∃ t,mg "MOST_MODES" = some (.int 40 t)
structure wz (K:PySem.W.Frag) (C:Addr):Prop where
 n_rows:yq K C "rows"
 n_nexts:yq K C "nexts"
 n_steer:yq K C "steer"
 n_push:yq K C "push"
 n_add:yq K C "add"
 n_divisor:yq K C "divisor"
structure w4 (K:PySem.W.Frag) (C:Addr):Prop where
 n_many:yq K C "many"
 n_kept_pushes:yq K C "kept_pushes"
 n_kept_modes:yq K C "kept_modes"
structure w6 (K:PySem.W.Frag) (C:Addr):Prop where
 no:True
structure w8 (K:PySem.W.Frag) (C:Addr):Prop where
 n_start:yq K C "start"
 n_rows:yq K C "rows"
 n_turn:yq K C "turn"
structure vA (K:PySem.W.Frag) (C:Addr):Prop where
 n_start:yq K C "start"
 n_goal:yq K C "goal"
 n_turns:yq K C "turns"
structure vB (K:PySem.W.Frag) (C:Addr):Prop where
 no:True
structure vC (K:PySem.W.Frag) (C:Addr):Prop where
 n_rooms:yq K C "rooms"
 n_back:yq K C "back"
 n_starts:yq K C "starts"
 n_steps:yq K C "steps"
 n_stays:yq K C "stays"
structure vD (K:PySem.W.Frag) (C:Addr):Prop where
 n_room:yq K C "room"
 n_starts:yq K C "starts"
 n_steps:yq K C "steps"
 n_measure:yq K C "measure"
 n_step:yq K C "step"
 n_top:yq K C "top"
 n_falls:yq K C "falls"
 n_floors:yq K C "floors"
 n_tops:yq K C "tops"
structure yu (K:PySem.W.Frag) (aComes aSettles:Addr):Prop where
 k_Comes_Settles:PySem.W.kitOne K (.ref aComes) (.ref aSettles)=some false
inductive Fw:Nat->D->Prop
 | int {k:Nat} (i:Int):Fw (k + 1) (.int i)
 | bool {k:Nat} (b:Bool):Fw (k + 1) (.bool b)
 | non {k:Nat}:Fw (k + 1) .non
 | str {k:Nat} (x:Str):Fw (k + 1) (.str x)
 | lst {k:Nat} {ds:List D} (l:ds.length<=900) (h:∀ d∈ds,Fw k d):Fw (k + 1) (.lst ds)
 | tup {k:Nat} {ds:List D} (l:ds.length<=900) (h:∀ d∈ds,Fw k d):Fw (k + 1) (.tup ds)
theorem Fw.no {k:Nat} {d:D} (h:Fw k d):d.isObj=false:=by cases h <;> rfl
theorem Fw.lst_inv {k:Nat} {d:D} (h:Fw k d) (e:d.isLst=true):∃ ds,d=.lst ds/\ds.length<=900/\∃ j,k=j + 1/\∀ d∈ds,Fw j d:=by
 cases h with
 | lst l h=>exact ⟨_,rfl,l,_,rfl,h⟩
 | _=>cases e
theorem Fw.tup_inv {k:Nat} {d:D} (h:Fw k d) (e:d.isTup=true):∃ ds,d=.tup ds/\ds.length<=900/\∃ j,k=j + 1/\∀ d∈ds,Fw j d:=by
 cases h with
 | tup l h=>exact ⟨_,rfl,l,_,rfl,h⟩
 | _=>cases e
theorem zML {k:Nat} {ns:List Int}:∀ d∈ns.map D.int,Fw (k + 1) d:=λd m=>by
 obtain ⟨i,_,rfl⟩:=List.mem_map.mp m
 exact .int i
theorem k0 {n:Nat} (h:n.ble 1000=true:=by rfl):n<=1000:=Nat.le_of_ble_eq_true h
theorem bR {R:D->Prop} {a b:Bool} (q:R (.bool a)) (e:a=b):R (.bool b):=e ▸ q
def uz (d:D):Bool:=d.isInt && !d.isBool
def Xh (n:Int):D->Bool
 | .lst ds=>decide ((ds.length:Int)=n) && ds.all uz
 | _=>false
def Zr (h w:Int):D->Bool
 | .lst ds=>decide ((ds.length:Int)=h) && ds.all (Xh w)
 | _=>false
def u3 (n:Int):D->Bool
 | .tup ds=>decide ((ds.length:Int)=n + 1) && ds.all uz
 | _=>false
def zQB (n:Int):D->Bool
 | .lst ds=>ds.all (u3 n)
 | _=>false
theorem vd {α:Type} (f:α->Bool) (xs:List α):(xs.map f).all id=xs.all f:=by rw [List.all_map]; rfl
def ja:FL:=λds R=>∃ d,ds=[d]/\d.isObj=false/\R (.bool (uz d))
def U5:FL:=λds R=>∃ d n k,ds=[d,.int n]/\Fw k d/\R (.bool (Xh n d))
def qQ:FL:=λds R=>∃ d h w k,ds=[d,.int h,.int w]/\Fw k d/\R (.bool (Zr h w d))
def qR:FL:=λds R=>∃ d n k,ds=[d,.int n]/\Fw k d/\R (.bool (u3 n d))
def Xi:FL:=λds R=>∃ d n k,ds=[d,.int n]/\Fw k d/\R (.bool (zQB n d))
def qS (j:Nat):FL:=λds R=>∃ d n,ds=[d,.int n]/\Fw j d/\R d
def U6:FL:=λds R=>∃ p w n:Int,ds=[.int p,.int w,.int n]/\0<=w/\w<=900/\R (L (yw p w.toNat n))
def IS (d:D) (ns:List Int):Prop:=d=L ns\/d=U ns
theorem IS.seq {d:D} {ns:List Int} (h:IS d ns) {R:List D->Prop} (q:R (ns.map D.int)):qJ d R:=by
 rcases h with rfl | rfl
 ·exact q
 ·exact q
def zMS:FL:=λds R=>∃ (f:Int) (d:D) (ns:List Int),ds=[.int f,d]/\IS d ns/\ns.length<=900/\Bd 9000 f/\(∀ x∈ns,Bd 9000 x)/\R (L (ns.map (f * ·)))
def xF (f g:Int) (ns os:List Int):List Int:=(ns.zip os).map λq=>f * q.1 + g * q.2
def zOn:FL:=λds R=>∃ (f g:Int) (d e:D) (ns os:List Int),ds=[.int f,d,.int g,e]/\IS d ns/\IS e os/\ns.length<=900/\Bd 9000 f/\Bd 9000 g/\(∀ x∈ns,Bd 9000 x)/\(∀ x∈os,Bd 9000 x)/\R (L (xF f g ns os))
def U7:FL:=λds R=>∃ (d e:D) (ns os:List Int),ds=[d,e]/\IS d ns/\IS e os/\ns.length<=900/\(∀ x∈ns,Bd 9000 x)/\(∀ x∈os,Bd 9000 x)/\R (.int (zN ns os))
theorem zJY:∀ ns os:List Int,List.zipWith xQ (ns.map D.int) (os.map D.int)=(ns.zip os).map λq=>xQ (.int q.1) (.int q.2)
 | [],_=>rfl
 | _ :: _,[]=>rfl
 | _ :: ns,_ :: os=>by rw [List.map_cons,List.map_cons,List.zipWith_cons_cons,zJY ns os]; rfl
theorem IS.zip {d e:D} {ns os:List Int} (h:IS d ns) (k:IS e os) {R:List D->Prop} (q:R ((ns.zip os).map λq=>xQ (.int q.1) (.int q.2))):uS [d,e] R:=by
 rw [<- zJY] at q
 rcases h with rfl | rfl <;> rcases k with rfl | rfl <;> exact q
theorem zRH {qs:List (Int × Int)} {G:D->(D->Prop)->Prop} {R:D->Prop} (g:Int × Int->Int) (few:qs.length<=1000) (h:∀ q,q∈qs->G (xQ (.int q.1) (.int q.2)) λe=>e=.int (g q)) (k:R (.lst ((qs.map g).map D.int))):zl (qs.map λq=>xQ (.int q.1) (.int q.2)) G R:=
 zl.map (λd=>match d with | .tup [x,y]=>.int (g (ye x,ye y)) | _=>.non) (by rw [List.length_map]; exact few) (λd m=>by
  obtain ⟨q,hq,rfl⟩:=List.mem_map.mp m
  exact h q hq) (by rw [List.map_map] at k |-; exact k)
theorem zJc:∀ ns os:List Int,((ns.zip os).map λq=>q.1 * q.2).sum=zN ns os
 | [],_=>rfl
 | _ :: _,[]=>rfl
 | n :: ns,o :: os=>by rw [List.zip_cons_cons,List.map_cons,List.sum_cons,zJc ns os]; rfl
abbrev Tb (t:List (List Int)):D:=.lst (t.map L)
abbrev Rm (t:List (List Int)):D:=.lst (t.map U)
def zv:D->List Int
 | .lst ds=>ds.map ye
 | .tup ds=>ds.map ye
 | _=>[]
theorem zJz (ns:List Int):(ns.map D.int).map ye=ns:=by rw [List.map_map]; exact List.map_id _
theorem u4 (ns:List Int):zv (L ns)=ns:=zJz ns
theorem u5 (ns:List Int):zv (U ns)=ns:=zJz ns
theorem wm {α:Type} {xs:List α} {G:D->(D->Prop)->Prop} {R:D->Prop} (u:α->D) (v:D->α) (hv:∀ x,v (u x)=x) (g:α->D) (few:xs.length<=1000) (h:∀ x,x∈xs->G (u x) λe=>e=g x) (q:R (.lst (xs.map g))):zl (xs.map u) G R:=
 zl.map (λd=>g (v d)) (by rw [List.length_map]; exact few) (λd m=>by
  obtain ⟨x,hx,rfl⟩:=List.mem_map.mp m
  rw [hv]
  exact h x hx) (by
  rw [List.map_map,show ((λd=>g (v d)) ∘ u)=g from funext λx=>congrArg g (hv x)]
  exact q)
def IT (e:D) (ls:List (List Int)):Prop:=e=Tb ls\/e=Rm ls
theorem zLD {α:Type} (u:α->D):∀ (ns:List Int) (ls:List α),List.zipWith xQ (ns.map D.int) (ls.map u)=(ns.zip ls).map λq=>xQ (.int q.1) (u q.2)
 | [],_=>rfl
 | _ :: _,[]=>rfl
 | _ :: ns,_ :: ls=>by rw [List.map_cons,List.map_cons,List.zipWith_cons_cons,zLD u ns ls]; rfl
def v2 (d:D):Int × List Int:=match d with
 | .tup [x,y]=>(ye x,zv y)
 | _=>(0,[])
theorem qT {ns:List Int} {j:Nat} (h:j < ns.length) {i:Int} (e:i=(j:Int)):yU (ns.map D.int) i=some (.int (ns.getD j 0)):=by
 rw [gL,e]
 unfold yU wM
 rw [if_pos (by omega),if_pos (by omega)]
 show Option.map D.int ns[((j:Nat):Int).toNat]? = _
 rw [show ((j:Nat):Int).toNat=j by omega,List.getElem?_eq_getElem h,List.getD_eq_getElem?_getD,List.getElem?_eq_getElem h]
 rfl
theorem IS.zipT {d e:D} {ns:List Int} {ls:List (List Int)} (h:IS d ns) (k:IT e ls) {R:List D->Prop} (q:∀ u:List Int->D,u=L\/u=U->R ((ns.zip ls).map λq=>xQ (.int q.1) (u q.2))):uS [d,e] R:=by
 have q1:=q L (.inl rfl)
 have q2:=q U (.inr rfl)
 rw [<- zLD] at q1 q2
 rcases h with rfl | rfl <;> rcases k with rfl | rfl <;> first | exact q1 | exact q2
theorem Zs {u:List Int->D} (hu:u=L\/u=U) (q:Int × List Int):v2 (xQ (.int q.1) (u q.2))=q:=by
 rcases hu with rfl | rfl
 ·show (q.1,zv (L q.2))=q
  rw [u4]
 ·show (q.1,zv (U q.2))=q
  rw [u5]
def Zt:FL:=λds R=>∃ (d e:D) (ns:List Int) (ls:List (List Int)) (w:Nat),ds=[d,e,.int (w:Int)]/\IS d ns/\IT e ls/\w<=900/\ns.length<=900/\(∀ x∈ns,Bd 9000 x)/\(∀ r∈ls,w<=r.length/\∀ x∈r,Bd 9000 x)/\R (L ((List.range w).map (zL ns ls)))
def zMQ:FL:=λds R=>∃ p w n b:Int,ds=[.int p,.int w,.int n,.int b]/\0<=w/\w<=900/\R (U (yw p w.toNat n++[b]))
def U8:FL:=λds R=>∃ d ns,ds=[d]/\IS d ns/\ns.length<=900/\R (U (zw ns))
theorem Xj {e:Nat} {r:List Int} (h:∀ x∈r,Bd e x) (j:Nat):Bd e (r.getD j 0):=by
 rw [List.getD_eq_getElem?_getD]
 cases hj:r[j]? with
 | none=>show (0:Int).natAbs < 2 ^ e; exact Nat.two_pow_pos e
 | some x=>exact h x (List.mem_of_getElem? hj)
section
variable {P:Program} {w:World} {K:PySem.W.Frag} {mg:Str->Option Value} {base:Heap}
abbrev U9:Stmt:=zm 8
theorem zIo:ze ["thing"] ["thing"] (zK U9):=.a
abbrev Xk:Stmt:=zm 10
theorem zG6:ze ["value","count"] ["value","count"] (zK Xk):=.a
abbrev Xl:Stmt:=zm 11
theorem zIp:ze ["value","tall","wide"] ["value","tall","wide"] (zK Xl):=.a
abbrev Zu:Stmt:=zm 12
theorem zLb:ze ["value","depth"] ["value","depth"] (zK Zu):=.a
abbrev Xm:Stmt:=zm 13
theorem zO9:ze ["place","wide","number"] ["place","wide","number"] (zK Xm):=.a
abbrev Xn:Stmt:=zm 14
theorem zLY:ze ["factor","numbers"] ["factor","numbers"] (zK Xn):=.a
abbrev Xo:Stmt:=zm 15
theorem zNY:ze ["factor","numbers","other_factor","others"] ["factor","numbers","other_factor","others"] (zK Xo):=.a
abbrev Xp:Stmt:=zm 16
theorem zLZ:ze ["numbers","others"] ["numbers","others"] (zK Xp):=.a
variable {ae ag aClaim aSettles aComes aPaper aRooms aFalls:Addr} (aa:zE K mg "Mode" ae) (ab:wz K ae) (ac:zE K mg "Thing" ag) (af:w4 K ag) (TClaim:zE K mg "Claim" aClaim) (AClaim:w6 K aClaim) (TSettles:zE K mg "Settles" aSettles) (ASettles:w8 K aSettles) (TComes:zE K mg "Comes" aComes) (AComes:vA K aComes) (TPaper:zE K mg "Paper" aPaper) (APaper:vB K aPaper) (TRooms:zE K mg "Rooms" aRooms) (ARooms:vC K aRooms) (TFalls:zE K mg "Falls" aFalls) (AFalls:vD K aFalls) (Y:yu K aComes aSettles)
include aa ab ac af TClaim AClaim TSettles ASettles TComes AComes TPaper APaper TRooms ARooms TFalls AFalls Y
theorem zI7 {k:Nat} {f:Addr} {fd:FuncData} (F:zf K "is_whole" "is_whole" U9 f fd) (B:Bl mg):zH P w K mg base zZ (k + 1) f fd ["thing"] (zI (ja)):=by
 refine zu F zIo (λds R h=>by obtain ⟨d,rfl,_⟩:=h; rfl) λcdv A outer s H E hr=>⟨_,(zO (zV (wQ (yM (xj wv rfl B.isinstance_ xx (zg (zA 0) (zg (wr (v:=.ty "int") (u:=.type "int") rfl B.int_ kX rfl) yB))) (wy zQx)) (vb (zQI (yM (xj wv rfl B.isinstance_ xx (zg (zA 0) (zg (wr (v:=.ty "bool") (u:=.type "bool") rfl B.bool_ KQ rfl) yB))) (wy zMH))))))),λds R h=>?_⟩
 obtain ⟨d,rfl,o,q⟩:=h
 refine ⟨o,λc=>⟨o,bR q ?_⟩,λc=>bR q ?_⟩
 ·unfold uz; rw [c]; rfl
 ·unfold uz; rw [c]; rfl
theorem zHa {k:Nat} {f:Addr} {fd:FuncData} (F:zf K "is_numbers" "is_numbers" Xk f fd) (B:Bl mg) (ak:Fn P w K mg base "is_whole" ["thing"] k (zI (ja))):zH P w K mg base zZ (k + 1) f fd ["value","count"] (zI (U5)):=by
 refine zu F zG6 (λds R h=>by obtain ⟨d,n,k,rfl,_⟩:=h; rfl) λcdv A outer s H E hr=>⟨_,(zO (zV (wQ (yM (xj wv rfl B.isinstance_ xx (zg (zA 0) (zg (wr (v:=.ty "list") (u:=.type "list") rfl B.list_ wN rfl) yB))) (wy jX)) (wQ (uP hr.units (zq yV yZ rfl B.len_ yW (zB (zA 0) zC)) (zA 1)) (vb (zq (vK rfl) vQ rfl B.all_ vM (zB (yI (own:=["number"]) (caps:=[]) (zz (S:=zK Xk) (N:=["value","count"]) rfl (by decide +kernel) rfl ⟨0,rfl⟩ rfl (by decide +kernel) (by decide +kernel)) rfl rfl yJ (yy (zA 0)) (λ_ _ _ _=>(zy 0 (show (["number"]:List Str).Nodup by decide +kernel) rfl (Or.inl rfl))) (λ_ _ _ _=>(zP ak hr rfl (zB (zA 0) zC)))) zC))))))),λds R h=>?_⟩
 obtain ⟨d,n,k,rfl,f,q⟩:=h
 refine ⟨f.no,λc=>?_,λc=>bR q ?_⟩
 ·obtain ⟨es,rfl,le,j,rfl,hj⟩:=f.lst_inv c
  refine ⟨λc2=>?_,λc2=>bR q ?_⟩
  ·refine zl.bool uz (by omega) (λd m=>⟨d,rfl,(hj d m).no,rfl⟩) ⟨_,rfl,bR q ?_⟩
   show (decide _ && _)=_
   rw [c2,vd]
   rfl
  ·show (decide _ && _)=_
   rw [c2]
   rfl
 ·cases d <;> first | rfl | cases c
theorem zI8 {k:Nat} {f:Addr} {fd:FuncData} (F:zf K "is_table" "is_table" Xl f fd) (B:Bl mg) (aE:Fn P w K mg base "is_numbers" ["value","count"] k (zI (U5))):zH P w K mg base zZ (k + 1) f fd ["value","tall","wide"] (zI (qQ)):=by
 refine zu F zIp (λds R h=>by obtain ⟨d,h,w,k,rfl,_⟩:=h; rfl) λcdv A outer s H E hr=>⟨_,(zO (zV (wQ (yM (xj wv rfl B.isinstance_ xx (zg (zA 0) (zg (wr (v:=.ty "list") (u:=.type "list") rfl B.list_ wN rfl) yB))) (wy jX)) (wQ (uP hr.units (zq yV yZ rfl B.len_ yW (zB (zA 0) zC)) (zA 1)) (vb (zq (vK rfl) vQ rfl B.all_ vM (zB (yI (own:=["part"]) (caps:=[(2,"wide")]) (zz (S:=zK Xl) (N:=["value","tall","wide"]) rfl (by decide +kernel) rfl ⟨_,rfl⟩ rfl (by decide +kernel) (by decide +kernel)) rfl rfl yJ (yy (zA 0)) (λ_ _ _ _=>(zy 0 (show (["part","wide"]:List Str).Nodup by decide +kernel) rfl (Or.inl rfl))) (λ_ _ _ _=>(zP aE hr rfl (zB (zA 0) (zB (zA 1) zC))))) zC))))))),λds R h=>?_⟩
 obtain ⟨d,h,w,k,rfl,f,q⟩:=h
 refine ⟨f.no,λc=>?_,λc=>bR q ?_⟩
 ·obtain ⟨es,rfl,le,j,rfl,hj⟩:=f.lst_inv c
  refine ⟨λc2=>?_,λc2=>bR q ?_⟩
  ·refine zl.bool (Xh w) (by omega) (λd m=>⟨d,w,j,rfl,hj d m,rfl⟩) ⟨_,rfl,bR q ?_⟩
   show (decide _ && _)=_
   rw [c2,vd]
   rfl
  ·show (decide _ && _)=_
   rw [c2]
   rfl
 ·cases d <;> first | rfl | cases c
theorem Zv {k:Nat} {f:Addr} {fd:FuncData} {dv:Value} {j:Nat} (F:xg K "copied" "copied" Zu f fd dv) (B:Bl mg) (ah:vX P w K mg base "copied" ["value","depth"] k (zI (qS j)) (.int 5)):zH P w K mg base zZ (k + 1) f fd ["value","depth"] (zI (qS (j + 1))):=by
 refine Zl F zLb (λds R h=>by obtain ⟨d,n,rfl,_⟩:=h; rfl) λcdv A outer s H E hr=>⟨_,(zJ (yE (wY hr.units (zA 1) zD) (zO (zV (zA 0))) yD)
  (zJ (yE (yY (yM (xj wv rfl B.isinstance_ xx (zg (zA 0) (zg (wr (v:=.ty "list") (u:=.type "list") rfl B.list_ wN rfl) yB))) (wy jX))) (zO (zV (yI (own:=["part"]) (caps:=[(1,"depth")]) (zz (S:=zK Zu) (N:=["value","depth"]) rfl (by decide +kernel) rfl ⟨_,rfl⟩ rfl (by decide +kernel) (by decide +kernel)) rfl rfl yJ (yy (zA 0)) (λ_ _ _ _=>(zy 0 (show (["part","depth"]:List Str).Nodup by decide +kernel) rfl (Or.inl rfl))) (λ_ _ _ _=>(zP ah.fn hr rfl (zB (zA 0) (zB (wI (zA 1) zD) zC))))))) yD)
  (zJ (yE (yY (yM (xj wv rfl B.isinstance_ xx (zg (zA 0) (zg (wr (v:=.ty "tuple") (u:=.type "tuple") rfl B.tuple_ xk rfl) yB))) (wy Zk))) (zO (zV (xI wd wg rfl B.tuple_ xk (zB (yI (own:=["part"]) (caps:=[(1,"depth")]) (zz (S:=zK Zu) (N:=["value","depth"]) rfl (by decide +kernel) rfl ⟨_,rfl⟩ rfl (by decide +kernel) (by decide +kernel)) rfl rfl yJ (yy (zA 0)) (λ_ _ _ _=>(zy 0 (show (["part","depth"]:List Str).Nodup by decide +kernel) rfl (Or.inl rfl))) (λ_ _ _ _=>(zP ah.fn hr rfl (zB (zA 0) (zB (wI (zA 1) zD) zC))))) zC)))) yD)
  (zO (zV (zA 0)))))),λds R h=>?_⟩
 obtain ⟨d,n,rfl,f,q⟩:=h
 refine ⟨λc=>q,λc=>?_⟩
 refine ⟨f.no,λc=>?_,λc=>?_⟩
 ·obtain ⟨es,rfl,le,i,e1,hj⟩:=f.lst_inv c
  cases e1
  refine zl.map id (by omega) (λd m=>⟨d,_,rfl,hj d m,rfl⟩) ?_
  rw [List.map_id]
  exact q
 refine ⟨f.no,λc=>?_,λc=>q⟩
 obtain ⟨es,rfl,le,i,e1,hj⟩:=f.tup_inv c
 cases e1
 refine zl.map id (by omega) (λd m=>⟨d,_,rfl,hj d m,rfl⟩) ?_
 rw [List.map_id]
 exact q
theorem zPT {k:Nat} {f:Addr} {fd:FuncData} {dv:Value} (F:xg K "unit" "unit" Xm f fd dv) (B:Bl mg):zH P w K mg base zZ (k + 1) f fd ["place","wide","number"] (zI (U6)):=by
 refine Zl F zO9 (λds R h=>by obtain ⟨p,w,n,rfl,_⟩:=h; rfl) λcdv A outer s H E hr=>⟨_,(zO (zV (yI (own:=["other"]) (caps:=[(0,"place"),(2,"number")]) (zz (S:=zK Xm) (N:=["place","wide","number"]) rfl (by decide +kernel) rfl ⟨_,rfl⟩ rfl (by decide +kernel) (by decide +kernel)) rfl rfl yJ (xn rfl B.range_ (zB (zA 1) zC)) (λ_ _ _ _=>(zy 0 (show (["other","place","number"]:List Str).Nodup by decide +kernel) rfl (Or.inl rfl))) (λ_ _ _ _=>(zNf (wY hr.units (zA 0) (zA 1)) (zA 2) zD))))),λds R h=>?_⟩
 obtain ⟨p,w,n,rfl,w0,w1,q⟩:=h
 refine ⟨by omega,by omega,zl.rng0 (λi=>.int (if (i:Int)=p then n else 0)) (by omega) (λk hk=>?_) ?_⟩
 ·refine ⟨λc=>?_,λc=>?_⟩
  ·show D.int n=_
   rw [if_pos (of_decide_eq_true c)]
  ·show D.int 0=_
   rw [if_neg (of_decide_eq_false c)]
 ·unfold yw L at q
  rw [List.map_map] at q
  exact q
theorem zLz {k:Nat} {f:Addr} {fd:FuncData} (F:zf K "scaled" "scaled" Xn f fd) (B:Bl mg):zH P w K mg base zZ (k + 1) f fd ["factor","numbers"] (zI (zMS)):=by
 refine zu F zLY (λds R h=>by obtain ⟨f,d,ns,rfl,_⟩:=h; rfl) λcdv A outer s H E hr=>⟨_,(zO (zV (yI (own:=["number"]) (caps:=[(0,"factor")]) (zz (S:=zK Xn) (N:=["factor","numbers"]) rfl (by decide +kernel) rfl ⟨_,rfl⟩ rfl (by decide +kernel) (by decide +kernel)) rfl rfl yJ (yy (zA 1)) (λ_ _ _ _=>(zy 0 (show (["number","factor"]:List Str).Nodup by decide +kernel) rfl (Or.inl rfl))) (λ_ _ _ _=>(yH (zA 1) (zA 0)))))),λds R h=>?_⟩
 obtain ⟨f,d,ns,rfl,h,l,bf,bn,q⟩:=h
 exact h.seq (zl.int _ (by omega) (λn hn=>⟨bf.mono,(bn n hn).mono,rfl⟩) q)
theorem zNt {k:Nat} {f:Addr} {fd:FuncData} (F:zf K "mixed" "mixed" Xo f fd) (B:Bl mg):zH P w K mg base zZ (k + 1) f fd ["factor","numbers","other_factor","others"] (zI (zOn)):=by
 refine zu F zNY (λds R h=>by obtain ⟨f,g,d,e,ns,os,rfl,_⟩:=h; rfl) λcdv A outer s H E hr=>⟨_,(zO (zV (yI (own:=["number","other"]) (caps:=[(0,"factor"),(2,"other_factor")]) (zz (S:=zK Xo) (N:=["factor","numbers","other_factor","others"]) rfl (by decide +kernel) rfl ⟨_,rfl⟩ rfl (by decide +kernel) (by decide +kernel)) rfl rfl (uR (wA (wA uT))) (ud rfl B.zip_ (zB (zA 1) (zB (zA 3) zC))) (λ_ _ _ _=>(xi rfl (zk 0 (show (["number","other","factor","other_factor"]:List Str).Nodup by decide +kernel) rfl (Or.inl rfl) (zk 1 (show (["number","other","factor","other_factor"]:List Str).Nodup by decide +kernel) rfl (Or.inl rfl) xh)))) (λ_ _ _ _=>(zX (yH (zA 2) (zA 0)) (yH (zA 3) (zA 1))))))),λds R h=>?_⟩
 obtain ⟨f,g,d,e,ns,os,rfl,h,k,l,bf,bg,bn,bo,q⟩:=h
 exact h.zip k (zRH (λq=>f * q.1 + g * q.2) (by rw [List.length_zip]; omega) (λp hp=>⟨bf.mono,(bn _ (List.of_mem_zip hp).1).mono,bg.mono,(bo _ (List.of_mem_zip hp).2).mono,rfl⟩) q)
theorem zL0 {k:Nat} {f:Addr} {fd:FuncData} (F:zf K "paired" "paired" Xp f fd) (B:Bl mg):zH P w K mg base zZ (k + 1) f fd ["numbers","others"] (zI (U7)):=by
 refine zu F zLZ (λds R h=>by obtain ⟨d,e,ns,os,rfl,_⟩:=h; rfl) λcdv A outer s H E hr=>⟨_,(zO (zV (zq (jy rfl) qI rfl B.sum_ jx (zB (yI (own:=["number","other"]) (caps:=[]) (zz (S:=zK Xp) (N:=["numbers","others"]) rfl (by decide +kernel) rfl ⟨0,rfl⟩ rfl (by decide +kernel) (by decide +kernel)) rfl rfl (uR (wA (wA uT))) (ud rfl B.zip_ (zB (zA 0) (zB (zA 1) zC))) (λ_ _ _ _=>(xi rfl (zk 0 (show (["number","other"]:List Str).Nodup by decide +kernel) rfl (Or.inl rfl) (zk 1 (show (["number","other"]:List Str).Nodup by decide +kernel) rfl (Or.inl rfl) xh)))) (λ_ _ _ _=>(yH (zA 0) (zA 1)))) zC)))),λds R h=>?_⟩
 obtain ⟨d,e,ns,os,rfl,h,k,l,bn,bo,q⟩:=h
 refine h.zip k (zRH (λq=>q.1 * q.2) (by rw [List.length_zip]; omega) (λp hp=>⟨(bn _ (List.of_mem_zip hp).1).mono,(bo _ (List.of_mem_zip hp).2).mono,rfl⟩) ⟨_,rfl,?_⟩)
 rw [zJc]
 exact q
end
section
variable {P:Program} {w:World} {K:PySem.W.Frag} {mg:Str->Option Value} {base:Heap}
abbrev Xq:Stmt:=zm 17
theorem zIr:ze ["numbers","lists","wide"] ["numbers","lists","wide"] (zK Xq):=.a
abbrev Xr:Stmt:=zm 19
theorem zLa:ze ["value","many"] ["value","many"] (zK Xr):=.a
abbrev Xs:Stmt:=zm 20
theorem zKi:ze ["value","many"] ["value","many"] (zK Xs):=.a
abbrev JA:Stmt:=zm 21
theorem zLX:ze ["place","many","number","bound"] ["place","many","number","bound"] (zK JA):=.a
abbrev Xu:Stmt:=zm 22
theorem zG4:ze ["row"] ["row"] (zK Xu):=.a
variable {ae ag aClaim aSettles aComes aPaper aRooms aFalls:Addr} (aa:zE K mg "Mode" ae) (ab:wz K ae) (ac:zE K mg "Thing" ag) (af:w4 K ag) (TClaim:zE K mg "Claim" aClaim) (AClaim:w6 K aClaim) (TSettles:zE K mg "Settles" aSettles) (ASettles:w8 K aSettles) (TComes:zE K mg "Comes" aComes) (AComes:vA K aComes) (TPaper:zE K mg "Paper" aPaper) (APaper:vB K aPaper) (TRooms:zE K mg "Rooms" aRooms) (ARooms:vC K aRooms) (TFalls:zE K mg "Falls" aFalls) (AFalls:vD K aFalls) (Y:yu K aComes aSettles)
include aa ab ac af TClaim AClaim TSettles ASettles TComes AComes TPaper APaper TRooms ARooms TFalls AFalls Y
theorem zJB {k:Nat} {f:Addr} {fd:FuncData} (F:zf K "added_up" "added_up" Xq f fd) (B:Bl mg):zH P w K mg base zZ (k + 1) f fd ["numbers","lists","wide"] (zI (Zt)):=by
 refine zu F zIr (λds R h=>by obtain ⟨d,e,ns,ls,w,rfl,_⟩:=h; rfl) λcdv A outer s H E hr=>⟨_,(zO (zV (yI (own:=["place"]) (caps:=[(0,"numbers"),(1,"lists")]) (zz (S:=zK Xq) (N:=["numbers","lists","wide"]) rfl (by decide +kernel) rfl ⟨_,rfl⟩ rfl (by decide +kernel) (by decide +kernel)) rfl rfl yJ (xn rfl B.range_ (zB (zA 2) zC)) (λ_ _ _ _=>(zy 0 (show (["place","numbers","lists"]:List Str).Nodup by decide +kernel) rfl (Or.inr rfl))) (λ_ _ _ _=>(zq (jy rfl) qI rfl B.sum_ jx (zB (yI (own:=["number","part"]) (caps:=[(0,"place")]) (jz rfl (by decide +kernel) (by decide +kernel) (by decide +kernel) (by decide +kernel)) rfl rfl (uR (wA (wA uT))) (ud rfl B.zip_ (zB (zA 1) (zB (zA 2) zC))) (λ_ _ _ _=>(xi rfl (zk 0 (show (["number","part","place"]:List Str).Nodup by decide +kernel) rfl (Or.inl rfl) (zk 1 (show (["number","part","place"]:List Str).Nodup by decide +kernel) rfl (Or.inl rfl) xh)))) (λ_ _ _ _=>(yH (zA 0) (zT (zA 1) (zA 2) (λ_ _=>rfl))))) zC)))))),λds R h=>?_⟩
 obtain ⟨d,e,ns,ls,w,rfl,h,k,lw,ln,bn,bl,q⟩:=h
 refine ⟨by omega,by omega,?_⟩
 rw [show ((w:Nat):Int).toNat=w by omega]
 refine zl.rng0 (λj=>.int (zL ns ls j)) (by omega) (λj hj=>?_) (by unfold L at q; rw [List.map_map] at q; exact q)
 refine h.zipT k λu hu=>wm (λq=>xQ (.int q.1) (u q.2)) v2 (Zs hu) (λq=>.int (q.1 * q.2.getD j 0)) (by rw [List.length_zip]; omega) (λq hq=>?_) ⟨(ns.zip ls).map λq=>q.1 * q.2.getD j 0,by rw [List.map_map]; rfl,rfl⟩
 have hb:=bl q.2 (List.of_mem_zip hq).2
 rcases hu with rfl | rfl
 all_goals exact ⟨_,qT (j:=j) (by omega) (by omega),(bn _ (List.of_mem_zip hq).1).mono,(Xj hb.2 j).mono,rfl⟩
theorem zL4 {k:Nat} {f:Addr} {fd:FuncData} (F:zf K "is_row" "is_row" Xr f fd) (B:Bl mg) (ak:Fn P w K mg base "is_whole" ["thing"] k (zI (ja))):zH P w K mg base zZ (k + 1) f fd ["value","many"] (zI (qR)):=by
 refine zu F zLa (λds R h=>by obtain ⟨d,n,k,rfl,_⟩:=h; rfl) λcdv A outer s H E hr=>⟨_,(zO (zV (wQ (yM (xj wv rfl B.isinstance_ xx (zg (zA 0) (zg (wr (v:=.ty "tuple") (u:=.type "tuple") rfl B.tuple_ xk rfl) yB))) (wy Zk)) (wQ (uP hr.units (zq yV yZ rfl B.len_ yW (zB (zA 0) zC)) (zX (zA 1) zD)) (vb (zq (vK rfl) vQ rfl B.all_ vM (zB (yI (own:=["number"]) (caps:=[]) (zz (S:=zK Xr) (N:=["value","many"]) rfl (by decide +kernel) rfl ⟨0,rfl⟩ rfl (by decide +kernel) (by decide +kernel)) rfl rfl yJ (yy (zA 0)) (λ_ _ _ _=>(zy 0 (show (["number"]:List Str).Nodup by decide +kernel) rfl (Or.inl rfl))) (λ_ _ _ _=>(zP ak hr rfl (zB (zA 0) zC)))) zC))))))),λds R h=>?_⟩
 obtain ⟨d,n,k,rfl,f,q⟩:=h
 refine ⟨f.no,λc=>?_,λc=>bR q ?_⟩
 ·obtain ⟨es,rfl,le,j,rfl,hj⟩:=f.tup_inv c
  refine ⟨λc2=>?_,λc2=>bR q ?_⟩
  ·refine zl.bool uz (by omega) (λd m=>⟨d,rfl,(hj d m).no,rfl⟩) ⟨_,rfl,bR q ?_⟩
   show (decide _ && _)=_
   rw [c2,vd]
   rfl
  ·show (decide _ && _)=_
   rw [c2]
   rfl
 ·cases d <;> first | rfl | cases c
theorem zKu {k:Nat} {f:Addr} {fd:FuncData} (F:zf K "is_room" "is_room" Xs f fd) (B:Bl mg) (aI:Fn P w K mg base "is_row" ["value","many"] k (zI (qR))):zH P w K mg base zZ (k + 1) f fd ["value","many"] (zI (Xi)):=by
 refine zu F zKi (λds R h=>by obtain ⟨d,n,k,rfl,_⟩:=h; rfl) λcdv A outer s H E hr=>⟨_,(zO (zV (wQ (yM (xj wv rfl B.isinstance_ xx (zg (zA 0) (zg (wr (v:=.ty "list") (u:=.type "list") rfl B.list_ wN rfl) yB))) (wy jX)) (vb (zq (vK rfl) vQ rfl B.all_ vM (zB (yI (own:=["row"]) (caps:=[(1,"many")]) (zz (S:=zK Xs) (N:=["value","many"]) rfl (by decide +kernel) rfl ⟨_,rfl⟩ rfl (by decide +kernel) (by decide +kernel)) rfl rfl yJ (yy (zA 0)) (λ_ _ _ _=>(zy 0 (show (["row","many"]:List Str).Nodup by decide +kernel) rfl (Or.inl rfl))) (λ_ _ _ _=>(zP aI hr rfl (zB (zA 0) (zB (zA 1) zC))))) zC)))))),λds R h=>?_⟩
 obtain ⟨d,n,k,rfl,f,q⟩:=h
 refine ⟨f.no,λc=>?_,λc=>bR q ?_⟩
 ·obtain ⟨es,rfl,le,j,rfl,hj⟩:=f.lst_inv c
  refine zl.bool (u3 n) (by omega) (λd m=>⟨d,n,j,rfl,hj d m,rfl⟩) ⟨_,rfl,bR q ?_⟩
  rw [vd]
  rfl
 ·cases d <;> first | rfl | cases c
theorem zLy {k:Nat} {f:Addr} {fd:FuncData} (F:zf K "single" "single" JA f fd) (B:Bl mg) (aJ:vX P w K mg base "unit" ["place","wide","number"] k (zI (U6)) (.int 1)):zH P w K mg base zZ (k + 1) f fd ["place","many","number","bound"] (zI (zMQ)):=by
 refine zu F zLX (λds R h=>by obtain ⟨p,w,n,b,rfl,_⟩:=h; rfl) λcdv A outer s H E hr=>⟨_,(zO (zV (zX (xI wd wg rfl B.tuple_ xk (zB (zP aJ.fn hr rfl (zB (zA 0) (zB (zA 1) (zB (zA 2) zC)))) zC)) (xb (zB (zA 3) zC))))),λds R h=>?_⟩
 obtain ⟨p,w,n,b,rfl,w0,w1,q⟩:=h
 refine ⟨p,w,n,rfl,w0,w1,k0,by rw [List.length_map,ub]; show _ + 1<=1000; omega,?_⟩
 unfold U at q
 rw [List.map_append] at q
 exact q
theorem zHX {k:Nat} {f:Addr} {fd:FuncData} (F:zf K "other_side" "other_side" Xu f fd) (B:Bl mg):zH P w K mg base zZ (k + 1) f fd ["row"] (zI (U8)):=by
 refine zu F zG4 (λds R h=>by obtain ⟨d,ns,rfl,_⟩:=h; rfl) λcdv A outer s H E hr=>⟨_,(zO (zV (xI wd wg rfl B.tuple_ xk (zB (yI (own:=["number"]) (caps:=[]) (zz (S:=zK Xu) (N:=["row"]) rfl (by decide +kernel) rfl ⟨0,rfl⟩ rfl (by decide +kernel) (by decide +kernel)) rfl rfl yJ (yy (zA 0)) (λ_ _ _ _=>(zy 0 (show (["number"]:List Str).Nodup by decide +kernel) rfl (Or.inl rfl))) (λ_ _ _ _=>(y6 (zA 0)))) zC)))),λds R h=>?_⟩
 obtain ⟨d,ns,rfl,h,l,q⟩:=h
 exact h.seq (zl.int (λx=>-x) (by omega) (λn hn=>rfl) q)
end
abbrev zOi:List Str:=["rows","nexts","steer","push","add","divisor"]
abbrev zO1:List Str:=["many","kept_pushes","kept_modes"]
abbrev xo (C:Addr) (m:MD):D:=.obj C zOi [Rm m.rows,Tb m.nexts,L m.steer,Tb m.push,L m.add,.int m.div]
abbrev yF (b:Int × Int):D:=.tup [.int b.1,.int b.2]
abbrev wS (C CM:Addr) (n:Nat) (bs:List (Int × Int)) (ms:List MD):D:=.obj C zO1 [.int (n:Int),.lst (bs.map yF),.lst (ms.map (xo CM))]
theorem vS {k:Nat} {ns:List Int} (h:ns.length<=900):Fw (k + 2) (L ns):=.lst (by rw [List.length_map]; exact h) zML
theorem qU {k:Nat} {ns:List Int} (h:ns.length<=900):Fw (k + 2) (U ns):=.tup (by rw [List.length_map]; exact h) zML
theorem jb {k:Nat} {t:List (List Int)} (h:t.length<=900) (h2:∀ r∈t,r.length<=900):Fw (k + 3) (Tb t):=.lst (by rw [List.length_map]; exact h) λd m=>by
 obtain ⟨r,hr,rfl⟩:=List.mem_map.mp m
 exact vS (h2 r hr)
theorem jc {k:Nat} {t:List (List Int)} (h:t.length<=900) (h2:∀ r∈t,r.length<=900):Fw (k + 3) (Rm t):=.lst (by rw [List.length_map]; exact h) λd m=>by
 obtain ⟨r,hr,rfl⟩:=List.mem_map.mp m
 exact qU (h2 r hr)
theorem zIj (ns:List Int):(ns.map D.int).all uz=true:=List.all_eq_true.mpr λd m=>by
 obtain ⟨i,_,rfl⟩:=List.mem_map.mp m
 rfl
theorem JB {n:Int} {ns:List Int} (h:(ns.length:Int)=n):Xh n (L ns)=true:=by
 show (decide _ && _)=true
 rw [List.length_map,decide_eq_true h,zIj]
 rfl
theorem Xv {h w:Int} {t:List (List Int)} (e:(t.length:Int)=h) (k:∀ r∈t,(r.length:Int)=w):Zr h w (Tb t)=true:=by
 show (decide _ && _)=true
 rw [List.length_map,decide_eq_true e]
 exact List.all_eq_true.mpr λd m=>by
  obtain ⟨r,hr,rfl⟩:=List.mem_map.mp m
  exact JB (k r hr)
theorem zOU {n:Int} {ns:List Int} (h:(ns.length:Int)=n + 1):u3 n (U ns)=true:=by
 show (decide _ && _)=true
 rw [List.length_map,decide_eq_true h,zIj]
 rfl
theorem Xw {n:Int} {t:List (List Int)} (k:∀ r∈t,(r.length:Int)=n + 1):zQB n (Rm t)=true:=List.all_eq_true.mpr λd m=>by
 obtain ⟨r,hr,rfl⟩:=List.mem_map.mp m
 exact zOU (k r hr)
def JC (C:Addr):FL:=λds R=>∃ r n s p a d,ds=[r,n,s,p,a,d]/\Fw 5 r/\Fw 5 n/\Fw 5 s/\Fw 5 p/\Fw 5 a/\R (.obj C zOi [r,n,s,p,a,d])
def zMd:FL:=λds R=>∃ b:Int × Int,ds=[yF b]/\b.1<=b.2/\R (.bool true)
def zMe (C:Addr):FL:=λds R=>∃ (m:MD) (n p:Nat),ds=[xo C m,.int (n:Int),.int (p:Int)]/\yb m n p/\R (.bool true)
def zKC (C:Addr):FL:=λds R=>∃ (n:Nat) (bs:List (Int × Int)) (ms:List MD),ds=[.int (n:Int),.lst (bs.map yF),.lst (ms.map (xo C))]/\we n bs ms/\R (.bool true)
def JD (C CM:Addr):FL:=λds R=>∃ (n:Nat) (bs:List (Int × Int)) (ms:List MD),ds=[.int (n:Int),.lst (bs.map yF),.lst (ms.map (xo CM))]/\we n bs ms/\R (wS C CM n bs ms)
def Xx (C CM:Addr):FL:=λds R=>∃ n bs ms,ds=[wS C CM n bs ms]/\R (.lst (bs.map yF))
def Xy (C CM:Addr):FL:=λds R=>∃ n bs ms,ds=[wS C CM n bs ms]/\R (.lst (ms.map (xo CM)))
def qV (ms:List MD):Bool:=ms.all λm=>m.steer.all λx=>decide (x=0)
def zGm (C:Addr):FL:=λds R=>∃ m,ds=[xo C m]/\m.steer.length<=900/\R (.bool (m.steer.all λx=>decide (x=0)))
def zMk (C CM:Addr):FL:=λds R=>∃ n bs ms,ds=[wS C CM n bs ms]/\we n bs ms/\R (.bool (qV ms))
def zGo (C CM:Addr):FL:=λds R=>∃ n bs ms,ds=[wS C CM n bs ms]/\we n bs ms/\qV ms=true/\R .non
theorem zRI {ns:List Int} {G:D->(D->Prop)->Prop} {R:D->Prop} (g:Int->Bool) (few:ns.length<=1000) (h:∀ n,n∈ns->G (.int n) λe=>e=.bool (g n)) (q:R (.lst ((ns.map g).map D.bool))):zl (ns.map D.int) G R:=
 wm D.int ye (λ_=>rfl) (λn=>.bool (g n)) few h (by rw [List.map_map] at q; exact q)
def xJ (d:D):MD:=match d with
 | .obj _ _ [.lst r,.lst n,s,.lst p,a,d]=>⟨r.map zv,n.map zv,zv s,p.map zv,zv a,ye d⟩
 | _=>⟨[],[],[],[],[],0⟩
theorem zOP (t:List (List Int)):(t.map L).map zv=t:=by
 rw [List.map_map,show (zv ∘ L)=id from funext λr=>u4 r]
 exact List.map_id _
theorem zPy (t:List (List Int)):(t.map U).map zv=t:=by
 rw [List.map_map,show (zv ∘ U)=id from funext λr=>u5 r]
 exact List.map_id _
theorem Zw (C:Addr) (m:MD):xJ (xo C m)=m:=by
 show MD.mk ((m.rows.map U).map zv) ((m.nexts.map L).map zv) (zv (L m.steer)) ((m.push.map L).map zv) (zv (L m.add)) m.div=m
 rw [zPy,zOP,zOP,u4,u4]
def Zx (d:D):Int × Int:=match d with
 | .tup [x,y]=>(ye x,ye y)
 | _=>(0,0)
section
variable {P:Program} {w:World} {K:PySem.W.Frag} {mg:Str->Option Value} {base:Heap}
abbrev JE:Stmt:=jw (zm 27) 0
theorem zFX:ze ["self","rows","nexts","steer","push","add","divisor"] ["self","rows","nexts","steer","push","add","divisor"] (zK JE):=.a
abbrev JF:Stmt:=zm 30
theorem zKj:ze ["value"] ["value"] (zK JF):=.a
abbrev JG:Stmt:=zm 31
theorem zKk:ze ["value","many","wide"] ["value","many","wide"] (zK JG):=.a
abbrev Zy:Stmt:=zm 29
theorem zIq:ze ["many","pushes","modes"] ["many","pushes","modes"] (zK Zy):=.a
abbrev JH:Stmt:=jw (zm 28) 0
theorem zEs:ze ["self","many","pushes","modes"] ["self","many","pushes","modes"] (zK JH):=.a
abbrev JI:Stmt:=jw (zm 28) 1
theorem zFt:ze ["self"] ["self"] (zK JI):=.a
abbrev JJ:Stmt:=jw (zm 28) 2
theorem zGT:ze ["self"] ["self"] (zK JJ):=.a
abbrev Xz:Stmt:=zm 32
theorem zFr:ze ["mode"] ["mode"] (zK Xz):=.a
abbrev X0:Stmt:=jw (zm 28) 3
theorem zEZ:ze ["self"] ["self"] (zK X0):=.a
abbrev JK:Stmt:=zm 33
theorem zHA:ze ["thing"] ["thing"] (zK JK):=.a
variable {ae ag aClaim aSettles aComes aPaper aRooms aFalls:Addr} (aa:zE K mg "Mode" ae) (ab:wz K ae) (ac:zE K mg "Thing" ag) (af:w4 K ag) (TClaim:zE K mg "Claim" aClaim) (AClaim:w6 K aClaim) (TSettles:zE K mg "Settles" aSettles) (ASettles:w8 K aSettles) (TComes:zE K mg "Comes" aComes) (AComes:vA K aComes) (TPaper:zE K mg "Paper" aPaper) (APaper:vB K aPaper) (TRooms:zE K mg "Rooms" aRooms) (ARooms:vC K aRooms) (TFalls:zE K mg "Falls" aFalls) (AFalls:vD K aFalls) (Y:yu K aComes aSettles)
include aa ab ac af TClaim AClaim TSettles ASettles TComes AComes TPaper APaper TRooms ARooms TFalls AFalls Y
theorem zFa {k:Nat} {f:Addr} {fd:FuncData} (F:zf K "__init__" "Mode.__init__" JE f fd) (B:Bl mg) (ah:vX P w K mg base "copied" ["value","depth"] k (zI (qS 5)) (.int 5)):zH P w K mg base zZ (k + 1) f fd ["self","rows","nexts","steer","push","add","divisor"] (wl ae (JC ae)):=by
 refine Xg F zFX (λds R h=>by obtain ⟨r,n,s,p,a,d,rfl,_⟩:=h; rfl) λcdv A outer s H E hr=>⟨_,(zJ (yC (xr (yT 0) (vR (.int 5) (λ_=>.int 5) ah hr rfl (zB (zA 1) zC)) rfl) wB)
  (zJ (yC (xr (yT 0) (vR (.int 5) (λ_=>.int 5) ah hr rfl (zB (zA 2) zC)) rfl) wB)
  (zJ (yC (xr (yT 0) (vR (.int 5) (λ_=>.int 5) ah hr rfl (zB (zA 3) zC)) rfl) wB)
  (zJ (yC (xr (yT 0) (vR (.int 5) (λ_=>.int 5) ah hr rfl (zB (zA 4) zC)) rfl) wB)
  (zJ (yC (xr (yT 0) (vR (.int 5) (λ_=>.int 5) ah hr rfl (zB (zA 5) zC)) rfl) wB)
  (zO (yC (xr (yT 0) (zA 6) rfl) wB))))))),λo ds R h=>?_⟩
 obtain ⟨r,n,s,p,a,d,rfl,f1,f2,f3,f4,f5,q⟩:=h
 refine ⟨r,5,rfl,f1,⟨aa.cl,ab.n_rows⟩,by decide +kernel,by decide,rfl,?_⟩
 refine ⟨n,5,rfl,f2,⟨aa.cl,ab.n_nexts⟩,by decide +kernel,by decide,rfl,?_⟩
 refine ⟨s,5,rfl,f3,⟨aa.cl,ab.n_steer⟩,by decide +kernel,by decide,rfl,?_⟩
 refine ⟨p,5,rfl,f4,⟨aa.cl,ab.n_push⟩,by decide +kernel,by decide,rfl,?_⟩
 refine ⟨a,5,rfl,f5,⟨aa.cl,ab.n_add⟩,by decide +kernel,by decide,rfl,?_⟩
 exact ⟨⟨aa.cl,ab.n_divisor⟩,by decide +kernel,by decide,rfl,rfl,q⟩
theorem zKv {k:Nat} {f:Addr} {fd:FuncData} (F:zf K "is_push" "is_push" JF f fd) (B:Bl mg) (ak:Fn P w K mg base "is_whole" ["thing"] k (zI (ja))):zH P w K mg base zZ (k + 1) f fd ["value"] (zI (zMd)):=by
 refine zu F zKj (λds R h=>by obtain ⟨b,rfl,_⟩:=h; rfl) λcdv A outer s H E hr=>⟨_,(zJ (yE (PW.pt (wZ (xA (yY (yM (xj wv rfl B.isinstance_ xx (zg (zA 0) (zg (wr (v:=.ty "tuple") (u:=.type "tuple") rfl B.tuple_ xk rfl) yB))) (wy Zk)))) (vP (UZ hr.units (zq yV yZ rfl B.len_ yW (zB (zA 0) zC)) zD)))) (zO (zV xZ)) yD)
  (zO (zV (wQ (zP ak hr rfl (zB (zT (zA 0) zD (λ_ _=>rfl)) zC)) (wQ (zP ak hr rfl (zB (zT (zA 0) zD (λ_ _=>rfl)) zC)) (vb (zQK (zT (zA 0) zD (λ_ _=>rfl)) (zT (zA 0) zD (λ_ _=>rfl))))))))),λds R h=>?_⟩
 obtain ⟨b,rfl,h,q⟩:=h
 refine ⟨rfl,wF rfl (wF rfl ?_)⟩
 refine ⟨_,rfl,_,rfl,rfl,wT rfl ?_⟩
 refine ⟨_,rfl,_,rfl,rfl,wT rfl ?_⟩
 exact ⟨_,rfl,_,rfl,bR q (decide_eq_true h).symm⟩
theorem zKw {k:Nat} {f:Addr} {fd:FuncData} (F:zf K "is_mode" "is_mode" JG f fd) (B:Bl mg) (au:Fn P w K mg base "is_room" ["value","many"] k (zI (Xi))) (aA:Fn P w K mg base "is_table" ["value","tall","wide"] k (zI (qQ))) (aE:Fn P w K mg base "is_numbers" ["value","count"] k (zI (U5))) (ak:Fn P w K mg base "is_whole" ["thing"] k (zI (ja))):zH P w K mg base zZ (k + 1) f fd ["value","many","wide"] (zI (zMe ae)):=by
 refine zu F zKk (λds R h=>by obtain ⟨m,n,p,rfl,_⟩:=h; rfl) λcdv A outer s H E hr=>⟨_,(zJ (yE (PW.pt (wZ (xA (yY (yM (xj kt rfl B.isinstance_ xx (zg (zA 0) (zg (kr aa rfl) yB))) Zn))) (vP (xA (yY (zP au hr rfl (zB (zo K (zA 0) rfl) (zB (zA 1) zC)))))))) (zO (zV xZ)) yD)
  (zJ (yE (PW.pt (wZ (xA (yY (zP aA hr rfl (zB (zo K (zA 0) rfl) (zB (zA 1) (zB (zA 1) zC)))))) (vP (xA (yY (zP aA hr rfl (zB (zo K (zA 0) rfl) (zB (zA 1) (zB (zA 2) zC))))))))) (zO (zV xZ)) yD)
  (zJ (yE (PW.pt (wZ (xA (yY (zP aE hr rfl (zB (zo K (zA 0) rfl) (zB (zA 1) zC))))) (vP (xA (yY (zP aE hr rfl (zB (zo K (zA 0) rfl) (zB (zA 1) zC)))))))) (zO (zV xZ)) yD)
  (zO (zV (wQ (zP ak hr rfl (zB (zo K (zA 0) rfl) zC)) (vb (zQL (zo K (zA 0) rfl) zD)))))))),λds R h=>?_⟩
 obtain ⟨m,n,p,rfl,h,q⟩:=h
 have n3:=h.n3
 have p6:=h.p6
 refine ⟨⟨_,_,aa⟩,_,UH,wF rfl ?_⟩
 refine ⟨⟨aa.cl,ab.n_rows⟩,_,rfl,_,_,3,rfl,jc h.few (λr hr=>by rw [h.rows r hr]; omega),wF (by rw [Xw λr hr=>by rw [h.rows r hr]; rfl]; rfl) ?_⟩
 refine ⟨⟨aa.cl,ab.n_nexts⟩,_,rfl,_,_,_,3,rfl,jb (by rw [h.nexts.1]; omega) (λr hr=>by rw [h.nexts.2 r hr]; omega),wF (by rw [Xv (by rw [h.nexts.1]) (λr hr=>by rw [h.nexts.2 r hr])]; rfl) ?_⟩
 refine ⟨⟨aa.cl,ab.n_push⟩,_,rfl,_,_,_,3,rfl,jb (by rw [h.push.1]; omega) (λr hr=>by rw [h.push.2 r hr]; omega),wF (by rw [Xv (by rw [h.push.1]) (λr hr=>by rw [h.push.2 r hr])]; rfl) ?_⟩
 refine ⟨⟨aa.cl,ab.n_steer⟩,_,rfl,_,_,2,rfl,vS (by rw [h.steer]; omega),wF (by rw [JB (by rw [h.steer])]; rfl) ?_⟩
 refine ⟨⟨aa.cl,ab.n_add⟩,_,rfl,_,_,2,rfl,vS (by rw [h.add]; omega),wF (by rw [JB (by rw [h.add])]; rfl) ?_⟩
 refine ⟨⟨aa.cl,ab.n_divisor⟩,_,rfl,_,rfl,rfl,wT rfl ?_⟩
 exact ⟨⟨aa.cl,ab.n_divisor⟩,_,rfl,bR q (decide_eq_true h.div).symm⟩
theorem zI9 {k:Nat} {f:Addr} {fd:FuncData} (F:zf K "is_sound" "is_sound" Zy f fd) (B:Bl mg) (ak:Fn P w K mg base "is_whole" ["thing"] k (zI (ja))) (aX:Fn P w K mg base "is_push" ["value"] k (zI (zMd))) (aY:Fn P w K mg base "is_mode" ["value","many","wide"] k (zI (zMe ae))):zH P w K mg base zZ (k + 1) f fd ["many","pushes","modes"] (zI (zKC ae)):=by
 refine zu F zIq (λds R h=>by obtain ⟨n,bs,ms,rfl,_⟩:=h; rfl) λcdv A outer s H E hr=>⟨_,(zJ (yE (PW.pt (wZ (xA (yY (zP ak hr rfl (zB (zA 0) zC)))) (wZ (Ua (zA 0) zD) (vP (ZM (zA 0) (US rfl B.MOST_NUMBERS_)))))) (zO (zV xZ)) yD)
  (zJ (yE (PW.pt (wZ (xA (yY (yM (xj wv rfl B.isinstance_ xx (zg (zA 1) (zg (wr (v:=.ty "list") (u:=.type "list") rfl B.list_ wN rfl) yB))) (wy jX)))) (vP (xA (yY (zq (vK rfl) vQ rfl B.all_ vM (zB (yI (own:=["push"]) (caps:=[]) (zz (S:=zK Zy) (N:=["many","pushes","modes"]) rfl (by decide +kernel) rfl ⟨_,rfl⟩ rfl (by decide +kernel) (by decide +kernel)) rfl rfl yJ (yy (zA 1)) (λ_ _ _ _=>(zy 0 (show (["push"]:List Str).Nodup by decide +kernel) rfl (Or.inl rfl))) (λ_ _ _ _=>(zP aX hr rfl (zB (zA 0) zC)))) zC))))))) (zO (zV xZ)) yD)
  (zJ (yE (PW.pt (wZ (xA (yY (yM (xj wv rfl B.isinstance_ xx (zg (zA 2) (zg (wr (v:=.ty "list") (u:=.type "list") rfl B.list_ wN rfl) yB))) (wy jX)))) (vP (wY hr.units (zq yV yZ rfl B.len_ yW (zB (zA 2) zC)) zD)))) (zO (zV xZ)) yD)
  (zO (zV (zq (vK rfl) vQ rfl B.all_ vM (zB (yI (own:=["mode"]) (caps:=[(0,"many"),(1,"pushes")]) (zz (S:=zK Zy) (N:=["many","pushes","modes"]) rfl (by decide +kernel) rfl ⟨_,rfl⟩ rfl (by decide +kernel) (by decide +kernel)) rfl rfl yJ (yy (zA 2)) (λ_ _ _ _=>(zy 0 (show (["mode","many","pushes"]:List Str).Nodup by decide +kernel) rfl (Or.inl rfl))) (λ_ _ _ _=>(zP aY hr rfl (zB (zA 0) (zB (zA 1) (zB (zq yV yZ rfl B.len_ yW (zB (zA 2) zC)) zC)))))) zC))))))),λds R h=>?_⟩
 obtain ⟨n,bs,ms,rfl,h,q⟩:=h
 have n1:=h.n1
 have n3:=h.n3
 have m40:=h.m40
 have m1:=h.m1
 have b6:=h.b6
 refine ⟨_,rfl,rfl,wF rfl (wF (decide_eq_false (by omega)) (wF (decide_eq_false (by omega)) ?_))⟩
 refine ⟨rfl,wF rfl ?_⟩
 refine wm yF Zx (λ_=>rfl) (λ_=>.bool true) (by omega) (λb hb=>⟨b,rfl,h.bok b hb,rfl⟩) ⟨bs.map λ_=>true,by rw [List.map_map]; rfl,?_⟩
 rw [show (bs.map λ_=>true).all id=true from List.all_eq_true.mpr λx hx=>by obtain ⟨_,_,rfl⟩:=List.mem_map.mp hx; rfl]
 refine wF rfl ?_
 refine ⟨rfl,wF rfl (wF (decide_eq_false (by rw [List.length_map]; omega)) ?_)⟩
 refine wm (xo ae) xJ (Zw _) (λ_=>.bool true) (by omega) (λm hm=>⟨m,n,bs.length,by rw [List.length_map],h.mok m hm,rfl⟩) ⟨ms.map λ_=>true,by rw [List.map_map]; rfl,bR q ?_⟩
 exact (List.all_eq_true.mpr λx hx=>by obtain ⟨_,_,rfl⟩:=List.mem_map.mp hx; rfl).symm
theorem zE6 {k:Nat} {f:Addr} {fd:FuncData} (F:zf K "__init__" "Thing.__init__" JH f fd) (B:Bl mg) (aZ:Fn P w K mg base "is_sound" ["many","pushes","modes"] k (zI (zKC ae))):zH P w K mg base zZ (k + 1) f fd ["self","many","pushes","modes"] (wl ag (JD ag ae)):=by
 refine Xg F zEs (λds R h=>by obtain ⟨n,bs,ms,rfl,_⟩:=h; rfl) λcdv A outer s H E hr=>⟨_,(zJ (yE (xA (yY (zP aZ hr rfl (zB (zA 1) (zB (zA 2) (zB (zA 3) zC)))))) (zO Xb) yD)
  (zJ (yE (PW.pt (wZ (ZM (zq yV yZ rfl B.len_ yW (zB (zA 2) zC)) (US rfl B.MOST_PUSHES_)) (vP (ZM (zq yV yZ rfl B.len_ yW (zB (zA 3) zC)) (US rfl B.MOST_MODES_))))) (zO Xb) yD)
  (zJ (yC (xr (yT 0) (zA 1) rfl) wB)
  (zJ (yC (xr (yT 0) (xI uK uQ rfl B.list_ wN (zB (zA 2) zC)) rfl) wB)
  (zO (yC (xr (yT 0) (xI uK uQ rfl B.list_ wN (zB (zA 3) zC)) rfl) wB)))))),λo ds R h=>?_⟩
 obtain ⟨n,bs,ms,rfl,h,q⟩:=h
 have m40:=h.m40
 have b6:=h.b6
 refine ⟨n,bs,ms,rfl,h,wF rfl ?_⟩
 refine wF (decide_eq_false (by rw [List.length_map]; omega)) (wF (decide_eq_false (by rw [List.length_map]; omega)) ?_)
 refine ⟨⟨ac.cl,af.n_many⟩,by decide +kernel,by decide,rfl,?_⟩
 refine ⟨⟨ac.cl,af.n_kept_pushes⟩,by decide +kernel,by decide,rfl,?_⟩
 exact ⟨⟨ac.cl,af.n_kept_modes⟩,by decide +kernel,by decide,rfl,rfl,q⟩
theorem zF9 {k:Nat} {f:Addr} {fd:FuncData} (F:zf K "pushes" "Thing.pushes" JI f fd) (B:Bl mg):zH P w K mg base zZ (k + 1) f fd ["self"] (zI (Xx ag ae)):=by
 refine zu F zFt (λds R h=>by obtain ⟨n,bs,ms,rfl,_⟩:=h; rfl) λcdv A outer s H E hr=>⟨_,(zO (zV (xI uK uQ rfl B.list_ wN (zB (zo K (zA 0) rfl) zC)))),λds R h=>?_⟩
 obtain ⟨n,bs,ms,rfl,q⟩:=h
 exact ⟨⟨ac.cl,af.n_kept_pushes⟩,_,rfl,q⟩
theorem zGW {k:Nat} {f:Addr} {fd:FuncData} (F:zf K "modes" "Thing.modes" JJ f fd) (B:Bl mg):zH P w K mg base zZ (k + 1) f fd ["self"] (zI (Xy ag ae)):=by
 refine zu F zGT (λds R h=>by obtain ⟨n,bs,ms,rfl,_⟩:=h; rfl) λcdv A outer s H E hr=>⟨_,(zO (zV (xI uK uQ rfl B.list_ wN (zB (zo K (zA 0) rfl) zC)))),λds R h=>?_⟩
 obtain ⟨n,bs,ms,rfl,q⟩:=h
 exact ⟨⟨ac.cl,af.n_kept_modes⟩,_,rfl,q⟩
theorem zF7 {k:Nat} {f:Addr} {fd:FuncData} (F:zf K "is_unsteered" "is_unsteered" Xz f fd) (B:Bl mg):zH P w K mg base zZ (k + 1) f fd ["mode"] (zI (zGm ae)):=by
 refine zu F zFr (λds R h=>by obtain ⟨m,rfl,_⟩:=h; rfl) λcdv A outer s H E hr=>⟨_,(zO (zV (zq (vK rfl) vQ rfl B.all_ vM (zB (yI (own:=["number"]) (caps:=[]) (zz (S:=zK Xz) (N:=["mode"]) rfl (by decide +kernel) rfl ⟨0,rfl⟩ rfl (by decide +kernel) (by decide +kernel)) rfl rfl yJ (yy (zo K (zA 0) rfl)) (λ_ _ _ _=>(zy 0 (show (["number"]:List Str).Nodup by decide +kernel) rfl (Or.inl rfl))) (λ_ _ _ _=>(uP hr.units (zA 0) zD))) zC)))),λds R h=>?_⟩
 obtain ⟨m,rfl,h,q⟩:=h
 refine ⟨⟨aa.cl,ab.n_steer⟩,_,rfl,?_⟩
 refine zRI (λx=>decide (x=0)) (by omega) (λn hn=>rfl) ⟨_,rfl,bR q ?_⟩
 rw [vd]
theorem zEk {k:Nat} {f:Addr} {fd:FuncData} (F:zf K "is_closed" "Thing.is_closed" X0 f fd) (B:Bl mg) (bc:Fn P w K mg base "is_unsteered" ["mode"] k (zI (zGm ae))):zH P w K mg base zZ (k + 1) f fd ["self"] (zI (zMk ag ae)):=by
 refine zu F zEZ (λds R h=>by obtain ⟨n,bs,ms,rfl,_⟩:=h; rfl) λcdv A outer s H E hr=>⟨_,(zO (zV (zq (vK rfl) vQ rfl B.all_ vM (zB (yI (own:=["mode"]) (caps:=[]) (zz (S:=zK X0) (N:=["self"]) rfl (by decide +kernel) rfl ⟨0,rfl⟩ rfl (by decide +kernel) (by decide +kernel)) rfl rfl yJ (yy (zo K (zA 0) rfl)) (λ_ _ _ _=>(zy 0 (show (["mode"]:List Str).Nodup by decide +kernel) rfl (Or.inl rfl))) (λ_ _ _ _=>(zP bc hr rfl (zB (zA 0) zC)))) zC)))),λds R h=>?_⟩
 obtain ⟨n,bs,ms,rfl,h,q⟩:=h
 refine ⟨⟨ac.cl,af.n_kept_modes⟩,_,rfl,?_⟩
 have m40:=h.m40
 refine wm (xo ae) xJ (Zw _) (λm=>.bool (m.steer.all λx=>decide (x=0))) (by omega) (λm hm=>⟨m,rfl,by have:=(h.mok m hm).steer; have:=h.n3; omega,rfl⟩) ⟨ms.map λm=>m.steer.all λx=>decide (x=0),by rw [List.map_map]; rfl,bR q ?_⟩
 rw [vd]
 rfl
theorem zHf {k:Nat} {f:Addr} {fd:FuncData} (F:zf K "ask_closed" "ask_closed" JK f fd) (B:Bl mg) (be:vn P w K mg base ag "is_closed" ["self"] k (zI (zMk ag ae))):zH P w K mg base zZ (k + 1) f fd ["thing"] (zI (zGo ag ae)):=by
 refine zu F zHA (λds R h=>by obtain ⟨n,bs,ms,rfl,_⟩:=h; rfl) λcdv A outer s H E hr=>⟨_,(zO (yE (xA (yY (jY be ac hr (zA 0)))) (zO Xb) yD)),λds R h=>?_⟩
 obtain ⟨n,bs,ms,rfl,h,c,q⟩:=h
 exact ⟨rfl,by decide +kernel,n,bs,ms,rfl,h,wF (by rw [c]; rfl) q⟩
end
def yp (n p:Nat) (ws:List Int) (b:Int) (m:MD):List Int:=((List.range n).map (zL ws m.nexts)++(List.range p).map (zL ws m.push))++[m.div * b - zN ws m.add]
theorem JL:∀ (rows:List (List Int)) (nums:List Int) (j:Nat),xE rows nums j=zL nums rows j
 | [],nums,j=>by unfold xE zL; simp
 | r :: rows,[],j=>by unfold xE zL; simp
 | r :: rows,x :: nums,j=>by rw [ZE,ua,JL rows nums j,Int.mul_comm]
def uD:D->Bool
 | .int i=>decide (0<=i)
 | _=>false
def xW (c:Nat):D->Bool
 | .tup [x,.lst ys]=>uD x && (decide (ys.length=c) && ys.all uD)
 | _=>false
def xX (rows:List (List Int)) (tw:List Int) (n:Nat):D->Bool
 | .tup [.int o,.lst ys]=>xW rows.length (.tup [.int o,.lst ys]) && j4 rows tw o (ys.map ye) n
 | _=>false
def uf (a:D):Prop:=∀ o ys,a=.tup [.int o,.lst ys]->Bd 1000 o/\∀ y∈ys,Bd 1000 (ye y)
structure vN (rows:List (List Int)) (n:Nat):Prop where
 row:∀ r∈rows,r.length=n + 1/\∀ x∈r,Bd 1000 x
 few:rows.length<=500
 nar:n<=100
theorem zGk:∀ {ys:List D},ys.all uD=true->∃ ns:List Int,ys=ns.map .int/\ys.map ye=ns/\∀ x∈ns,0<=x
 | [],_=>⟨[],rfl,rfl,λ_ h=>by cases h⟩
 | a :: ys,h=>by
  rw [List.all_cons,Bool.and_eq_true] at h
  obtain ⟨ns,rfl,e,h0⟩:=zGk h.2
  cases a with
  | int i=>exact ⟨i :: ns,rfl,by rw [List.map_cons,e]; rfl,λx hx=>(List.mem_cons.mp hx).elim (λz=>z ▸ of_decide_eq_true h.1) (h0 x)⟩
  | _=>cases h.1
theorem zNW {c:Nat} {a:D} (h:xW c a=true):∃ (o:Int) (ns:List Int),a=.tup [.int o,L ns]/\0<=o/\ns.length=c/\∀ x∈ns,0<=x:=by
 unfold xW at h
 split at h
 ·rename_i x ys
  rw [Bool.and_eq_true,Bool.and_eq_true,decide_eq_true_iff] at h
  obtain ⟨ns,rfl,_,h0⟩:=zGk h.2.2
  cases x with
  | int o=>exact ⟨o,ns,rfl,of_decide_eq_true h.1,by have:=h.2.1; rw [List.length_map] at this; exact this,h0⟩
  | _=>cases h.1
 ·cases h
theorem zNV {rows:List (List Int)} {tw:List Int} {n:Nat} {a:D} (h:xW rows.length a=false):xX rows tw n a=false:=by
 unfold xX
 split
 ·rw [h]; rfl
 ·rfl
theorem zN5 (ns:List Int):(ns.map D.int).map ye=ns:=by rw [List.map_map]; exact List.map_id _
theorem zLV {rows:List (List Int)} {tw ns:List Int} {n:Nat} {o:Int} (h:xW rows.length (.tup [.int o,L ns])=true):xX rows tw n (.tup [.int o,L ns])=j4 rows tw o ns n:=by
 show (xW rows.length (.tup [.int o,.lst (ns.map .int)]) && j4 rows tw o ((ns.map D.int).map ye) n)=_
 rw [show xW rows.length (.tup [.int o,.lst (ns.map .int)])=true from h,zN5]
 rfl
def qW (c:Int):D->Bool
 | .lst as=>decide ((as.length:Int)=c)
 | _=>false
def u6 (rows tws:List (List Int)) (n:Nat):D->Bool
 | .lst as=>decide ((as.length:Int)=(tws.length:Int)) && (tws.zip as).all λp=>xX rows p.1 n p.2
 | _=>false
def yS (a:D):Prop:=∀ as,a=.lst as->∀ x∈as,uf x
theorem Zz {c:Int} {a:D} (h:qW c a=true):∃ as,a=.lst as/\(as.length:Int)=c:=by
 cases a with
 | lst as=>exact ⟨as,rfl,of_decide_eq_true h⟩
 | _=>cases h
theorem zOI {rows tws:List (List Int)} {n:Nat} {a:D} (h:qW (tws.length:Int) a=false):u6 rows tws n a=false:=by
 cases a with
 | lst as=>show (decide _ && _)=false; rw [show decide ((as.length:Int)=(tws.length:Int))=false from h]; rfl
 | _=>rfl
theorem xc {e:Nat}:Bd e (0:Int):=by
 show (0:Int).natAbs < 2 ^ e
 exact Nat.two_pow_pos e
theorem JM {e:Nat} {r:List Int} (h:∀ x∈r,Bd e x) (j:Nat):Bd e (r.getD j 0):=by
 rw [List.getD_eq_getElem?_getD]
 cases hj:r[j]? with
 | none=>exact xc
 | some x=>exact h x (List.mem_of_getElem? hj)
theorem gO {a b:Nat}:∀ {ns os:List Int},(∀ x∈ns,Bd a x)->(∀ x∈os,Bd b x)->Bd (a + b + ns.length + 1) (zN ns os)
 | [],_,_,_=>by unfold zN; exact xc
 | _ :: _,[],_,_=>by unfold zN; exact xc
 | n :: ns,o :: os,hn,ho=>by
  have i:=gO (a:=a) (b:=b) (ns:=ns) (os:=os) (λq m=>hn q (List.mem_cons_of_mem _ m)) (λq m=>ho q (List.mem_cons_of_mem _ m))
  rw [List.length_cons]
  show Bd _ (n * o + zN ns os)
  exact (((hn n List.mem_cons_self).mul (ho o List.mem_cons_self)).mono (show a + b<=a + b + ns.length + 1 by omega) |>.add i).mono (by omega)
theorem gP {a b j:Nat} {ns:List Int} {N:List (List Int)} (h:∀ x∈ns,Bd a x) (hN:∀ r∈N,∀ x∈r,Bd b x):Bd (a + b + ns.length + 1) (zL ns N j):=by
 rw [jQ]
 refine gO h λx hx=>?_
 obtain ⟨r,hr,rfl⟩:=List.mem_map.mp hx
 exact JM (hN r hr) j
structure MS (m:MD):Prop where
 nexts:∀ r∈m.nexts,∀ x∈r,Bd 300 x
 push:∀ r∈m.push,∀ x∈r,Bd 300 x
 add:∀ x∈m.add,Bd 300 x
 div:Bd 300 m.div
 rows:∀ r∈m.rows,∀ x∈r,Bd 300 x
 few:m.rows.length<=100
structure wC (room:List (List Int)) (n:Nat):Prop where
 row:∀ r∈room,r.length=n + 1/\∀ x∈r,Bd 300 x
 few:room.length<=100
theorem wC.rw {room:List (List Int)} {n:Nat} (h:wC room n) (n3:n<=3):vN room n:=⟨λr hr=>⟨(h.row r hr).1,λx hx=>((h.row r hr).2 x hx).mono⟩,by have:=h.few; omega,by omega⟩
theorem zMy {e n:Nat} {pl nu:Int} (h:Bd e nu):∀ x∈yw pl n nu,Bd e x:=λx hx=>by
 obtain ⟨i,_,rfl⟩:=List.mem_map.mp hx
 show Bd e (if (i:Int)=pl then nu else 0)
 split
 ·exact h
 ·exact xc
theorem zJg {n:Nat} {bs:List (Int × Int)} {rows:List (List Int)} (h:∀ r∈rows,r.length=n + 1/\∀ x∈r,Bd 1000 x) (few:rows.length<=400) (n3:n<=3) (b6:bs.length<=6) (bb:∀ b∈bs,Bd 300 b.1/\Bd 300 b.2):vN (vp n bs rows) (n + bs.length):=by
 have b1:Bd 4 (1:Int):=Bd.lit
 refine ⟨λr hr=>?_,?_,by omega⟩
 ·rcases List.mem_append.mp hr with hr | hr
  ·obtain ⟨q,hq,rfl⟩:=List.mem_map.mp hr
   obtain ⟨lq,bq⟩:=h q hq
   refine ⟨by unfold wH; simp; omega,λx hx=>?_⟩
   unfold wH at hx
   rcases List.mem_append.mp hx with hx | hx
   ·rcases List.mem_append.mp hx with hx | hx
    ·exact bq x (List.mem_of_mem_take hx)
    ·rw [List.eq_of_mem_replicate hx]; exact xc
   ·rw [List.mem_singleton.mp hx]; exact JM bq n
  ·obtain ⟨l,hl,hr⟩:=List.mem_flatten.mp hr
   obtain ⟨i,hi,rfl⟩:=List.mem_mapIdx.mp hl
   have hb:=bb _ (List.getElem_mem hi)
   have key:∀ (y c:Int),Bd 1000 y->Bd 1000 c->(yw ((n + i:Nat):Int) (n + bs.length) y++[c]).length=n + bs.length + 1/\∀ x∈yw ((n + i:Nat):Int) (n + bs.length) y++[c],Bd 1000 x:=λy c hy hc=>⟨by rw [List.length_append,ub]; rfl,λx hx=>by
    rcases List.mem_append.mp hx with hx | hx
    ·exact zMy hy x hx
    ·rw [List.mem_singleton.mp hx]; exact hc⟩
   rcases List.mem_cons.mp hr with rfl | hr
   ·exact key _ _ b1.mono (hb.2.mono)
   ·rw [List.mem_singleton.mp hr]
    exact key _ _ (b1.neg.mono) (hb.1.neg.mono)
 ·unfold vp
  rw [List.length_append,List.length_map]
  have:((bs.mapIdx (vo n bs.length)).flatten).length=2 * bs.length:=by
   rw [List.length_flatten]
   have e:(bs.mapIdx (vo n bs.length)).map List.length=List.replicate bs.length 2:=by
    refine List.ext_getElem (by simp) λi h1 h2=>?_
    simp [vo]
   rw [e]
   simp
   omega
  omega
theorem qX (n p:Nat) (ws:List Int) (b:Int) (m:MD):(yp n p ws b m).length=n + p + 1:=by unfold yp; simp; omega
theorem JN {n p:Nat} {ws:List Int} {b:Int} {m:MD} (h:MS m) (lw:ws.length<=3) (bw:∀ x∈ws,Bd 301 x) (bb:Bd 301 b):∀ x∈yp n p ws b m,Bd 700 x:=λx hx=>by
 unfold yp at hx
 rcases List.mem_append.mp hx with hx | hx
 ·rcases List.mem_append.mp hx with hx | hx <;> obtain ⟨j,_,rfl⟩:=List.mem_map.mp hx
  ·exact (gP bw h.nexts).mono (by omega)
  ·exact (gP bw h.push).mono (by omega)
 ·rw [List.mem_singleton.mp hx]
  exact (((h.div.mul bb).mono (show 300 + 301<=650 by decide)).sub ((gO bw h.add).mono (show 301 + 300 + ws.length + 1<=650 by omega))).mono
def qY (n p:Nat) (m:MD) (behind:List (List Int)):List (List Int):=behind.map λr=>yp n p (r.take n) (r.getD n 0) m
def gQ (n:Nat) (bs:List (Int × Int)) (room behind:List (List Int)) (m:MD) (a:D):Bool:=u6 (vp n bs (room++m.rows)) (qY n bs.length m behind) (n + bs.length) a
def gR (n:Nat) (bs:List (Int × Int)) (ms:List MD) (room behind:List (List Int)):D->Bool
 | .lst as=>decide ((as.length:Int)=(ms.length:Int)) && (ms.zip as).all λp=>gQ n bs room behind p.1 p.2
 | _=>false
structure ug (n:Nat) (bs:List (Int × Int)) (ms:List MD):Prop where
 ok:we n bs ms
 ms:∀ m∈ms,MS m
 bs:∀ b∈bs,Bd 300 b.1/\Bd 300 b.2
theorem zMF {n:Nat} {bs:List (Int × Int)} {ms:List MD} {room behind:List (List Int)} {a:D} (h:qW (ms.length:Int) a=false):gR n bs ms room behind a=false:=by
 cases a with
 | lst as=>show (decide _ && _)=false; rw [show decide ((as.length:Int)=(ms.length:Int))=false from h]; rfl
 | _=>rfl
def ve (n p:Nat) (ws:List Int) (step:Int) (m:MD):List Int:=xF 1 (-m.div) ((yp n p ws 0 m).take n) ws++(List.range p).map (zL ws m.push)++[(m.div * 0 - zN ws m.add) - m.div * step]
structure jd (n:Nat) (room:List (List Int)) (ws:List Int) (b st tp:Int):Prop where
 rm:wC room n
 lw:ws.length=n
 bw:∀ x∈ws,Bd 300 x
 bb:Bd 300 b
 st:Bd 300 st
 tp:Bd 300 tp
def gS (n:Nat) (room:List (List Int)) (ws:List Int) (b:Int) (goal:List (List Int)):D->Bool
 | .lst as=>decide ((as.length:Int)=(goal.length:Int)) && (goal.zip as).all λp=>xX (room++[zw p.1]) (ws.map (λx=>-x)++[b]) n p.2
 | _=>false
theorem zK5 {n:Nat} {room goal:List (List Int)} {ws:List Int} {b:Int} {a:D} (h:qW (goal.length:Int) a=false):gS n room ws b goal a=false:=by
 cases a with
 | lst as=>show (decide _ && _)=false; rw [show decide ((as.length:Int)=(goal.length:Int))=false from h]; rfl
 | _=>rfl
theorem zL9 {n e:Nat} {r:List Int} (h:r.length=n + 1/\∀ x∈r,Bd e x):(zw r).length=n + 1/\∀ x∈zw r,Bd e x:=⟨by unfold zw; rw [List.length_map]; exact h.1,λx hx=>by
 obtain ⟨y,hy,rfl⟩:=List.mem_map.mp hx
 exact (h.2 y hy).neg⟩
def gT (n:Nat) (bs:List (Int × Int)) (room:List (List Int)) (ws:List Int) (st:Int) (goal:List (List Int)) (m:MD):D->Bool
 | .lst as=>decide ((as.length:Int)=(goal.length:Int)) && (goal.zip as).all λp=>xX (vp n bs (room++m.rows++[zw p.1])) (ve n bs.length ws st m) (n + bs.length) p.2
 | _=>false
theorem zKx {n:Nat} {bs:List (Int × Int)} {room goal:List (List Int)} {ws:List Int} {st:Int} {m:MD} {a:D} (h:qW (goal.length:Int) a=false):gT n bs room ws st goal m a=false:=by
 cases a with
 | lst as=>show (decide _ && _)=false; rw [show decide ((as.length:Int)=(goal.length:Int))=false from h]; rfl
 | _=>rfl
theorem zPg {n p:Nat} {ws:List Int} {st:Int} {m:MD} (h:MS m) (lw:ws.length=n) (n3:n<=3) (bw:∀ x∈ws,Bd 300 x) (bs:Bd 300 st):(ve n p ws st m).length=n + p + 1/\∀ x∈ve n p ws st m,Bd 1000 x:=by
 have b1:Bd 4 (1:Int):=Bd.lit
 have rl:=qX n p ws 0 m
 have rb:=JN (n:=n) (p:=p) (b:=0) h (by omega) (λx hx=>(bw x hx).mono (show 300<=301 by decide)) xc
 refine ⟨?_,λx hx=>?_⟩
 ·unfold ve xF
  rw [List.length_append,List.length_append,List.length_map,List.length_map,List.length_zip,List.length_take,List.length_range,rl,lw]
  show min (min n (n + p + 1)) n + p + 1=_
  omega
 ·unfold ve at hx
  rcases List.mem_append.mp hx with hx | hx
  ·rcases List.mem_append.mp hx with hx | hx
   ·obtain ⟨q,hq,rfl⟩:=List.mem_map.mp hx
    have q1:=List.of_mem_zip hq
    exact (((b1.mul (rb q.1 (List.mem_of_mem_take q1.1))).mono (show 4 + 700<=800 by decide)).add ((h.div.neg.mul (bw q.2 q1.2)).mono (show 300 + 300<=800 by decide))).mono
   ·obtain ⟨j,_,rfl⟩:=List.mem_map.mp hx
    exact (gP bw h.push).mono (by omega)
  ·rw [List.mem_singleton.mp hx]
   refine Bd.mono (Bd.sub (n:=900) (Bd.mono (Bd.sub (n:=800) (Bd.mono (h.div.mul (xc (e:=300))) (by decide)) (Bd.mono (gO bw h.add) (by omega))) (by decide)) (Bd.mono (h.div.mul bs) (by decide))) (by decide)
def gU (n:Nat) (bs:List (Int × Int)) (ms:List MD) (room:List (List Int)) (ws:List Int) (st:Int) (goal:List (List Int)):D->Bool
 | .lst as=>decide ((as.length:Int)=(ms.length:Int)) && (ms.zip as).all λp=>gT n bs room ws st goal p.1 p.2
 | _=>false
theorem zMN {n:Nat} {bs:List (Int × Int)} {ms:List MD} {room goal:List (List Int)} {ws:List Int} {st:Int} {a:D} (h:qW (ms.length:Int) a=false):gU n bs ms room ws st goal a=false:=by
 cases a with
 | lst as=>show (decide _ && _)=false; rw [show decide ((as.length:Int)=(ms.length:Int))=false from h]; rfl
 | _=>rfl
def xG (a:D):Prop:=∀ as,a=.lst as->∀ x∈as,yS x
def vT (n:Nat) (bs:List (Int × Int)) (ms:List MD) (start goal:List (List Int)) (tu:Int) (room:List (List Int)) (ws:List Int) (b st tp:Int) (A1 A2 A6 A7 A8:D):Bool:=
 if st < 1\/tu * st<=tp then false else u6 start room n A1 && (gR n bs ms room room A2 && (xX start (ws++[tp - b]) n A8 && (gS n room ws b goal A7 && gU n bs ms room ws st goal A6)))
theorem uU {r:List Int} {n:Nat} (h:r.length=n + 1):zh (r.map D.int) none (some (-1))=(r.take n).map D.int:=by
 have e1:HT.sIx (r.map D.int).length 0 none=0:=HT.sIx_none _ _
 have e2:HT.sIx (r.map D.int).length (r.map D.int).length (some (-1))=n:=by
  rw [List.length_map,h]
  show (if (-1:Int) < 0 then ((-1:Int) + ((n + 1:Nat):Int)).toNat else min (-1:Int).toNat (n + 1))=n
  rw [if_pos (by decide)]
  omega
 unfold zh
 rw [e1,e2,List.drop_zero,Nat.sub_zero,List.map_take]
theorem uE (ws:List Int) (b:Int):zh ((ws++[b]).map D.int) none (some (-1))=ws.map D.int:=by
 rw [uU (n:=ws.length) (by rw [List.length_append]; rfl),List.take_append_of_le_length (Nat.le_refl _),List.take_of_length_le (Nat.le_refl _)]
theorem qZ {r:List Int} {n:Nat} (h:r.length=n + 1):yU (r.map D.int) (-1)=some (.int (r.getD n 0)):=by
 rw [gL]
 unfold yU wM
 rw [if_neg (by decide),if_pos (by omega)]
 show Option.map D.int r[((-1:Int) + (r.length:Int)).toNat]? = _
 rw [show ((-1:Int) + (r.length:Int)).toNat=n by omega,List.getElem?_eq_getElem (by omega),List.getD_eq_getElem?_getD,List.getElem?_eq_getElem (by omega)]
 rfl
theorem qc (ws:List Int) (b:Int):yU ((ws++[b]).map D.int) (-1)=some (.int b):=by
 rw [qZ (n:=ws.length) (by rw [List.length_append]; rfl),List.getD_eq_getElem?_getD,List.getElem?_append_right (Nat.le_refl _),Nat.sub_self]
 rfl
theorem X1 (a b:List (List Int)):D.lst (a.map U++b.map U)=Rm (a++b):=by rw [Rm,List.map_append]
theorem Z3 {α:Type} (u:α->D):∀ (xs:List α) (ys:List D),List.zipWith xQ (xs.map u) ys=(xs.zip ys).map λq=>xQ (u q.1) q.2
 | [],_=>rfl
 | _ :: _,[]=>rfl
 | _ :: xs,_ :: ys=>by rw [List.map_cons,List.zipWith_cons_cons,Z3 u xs ys]; rfl
theorem Z4 {α:Type} {xs:List α} {ys:List D} {G:D->(D->Prop)->Prop} {R:D->Prop} (u:α->D) (v:D->α) (hv:∀ x,v (u x)=x) (g:α->D->Bool) (few:xs.length<=1000) (h:∀ x y,(x,y)∈xs.zip ys->G (xQ (u x) y) λe=>e=.bool (g x y)) (q:R (.lst (((xs.zip ys).map λp=>g p.1 p.2).map D.bool))):zl (List.zipWith xQ (xs.map u) ys) G R:=by
 rw [Z3]
 refine wm (λp:α × D=>xQ (u p.1) p.2) (λd=>match d with | .tup [a,b]=>(v a,b) | _=>(v .non,.non)) (λp=>?_) (λp=>.bool (g p.1 p.2)) (by rw [List.length_zip]; omega) (λp hp=>h p.1 p.2 hp) (by rw [List.map_map] at q; exact q)
 show (v (u p.1),p.2)=p
 rw [hv]
theorem zLF {d:D} (h:uz d=true):∃ i,d=.int i:=by
 cases d with
 | int i=>exact ⟨i,rfl⟩
 | bool b=>cases h
 | _=>cases h
theorem Fw.mono0 {j:Nat} {a:D} (h:Fw j a):∀ {k:Nat},j<=k->Fw k a:=by
 induction h with
 | lst l _ ih=>
  intro k hk
  obtain ⟨m,rfl⟩:∃ m,k=m + 1:=⟨k - 1,by omega⟩
  exact .lst l λa ha=>ih a ha (by omega)
 | tup l _ ih=>
  intro k hk
  obtain ⟨m,rfl⟩:∃ m,k=m + 1:=⟨k - 1,by omega⟩
  exact .tup l λa ha=>ih a ha (by omega)
 | int i=>intro k hk; obtain ⟨m,rfl⟩:∃ m,k=m + 1:=⟨k - 1,by omega⟩; exact .int i
 | bool i=>intro k hk; obtain ⟨m,rfl⟩:∃ m,k=m + 1:=⟨k - 1,by omega⟩; exact .bool i
 | non=>intro k hk; obtain ⟨m,rfl⟩:∃ m,k=m + 1:=⟨k - 1,by omega⟩; exact .non
 | str i=>intro k hk; obtain ⟨m,rfl⟩:∃ m,k=m + 1:=⟨k - 1,by omega⟩; exact .str i
structure MBd (m:MD):Prop where
 nexts:∀ r∈m.nexts,∀ x∈r,Bd 9000 x
 push:∀ r∈m.push,∀ x∈r,Bd 9000 x
 add:∀ x∈m.add,Bd 9000 x
 div:Bd 9000 m.div
theorem Fw.mono {j k:Nat} {a:D} (h:Fw j a) (l:j<=k:=by decide):Fw k a:=h.mono0 l
theorem MS.mbd {m:MD} (h:MS m):MBd m:=⟨λr hr x hx=>(h.nexts r hr x hx).mono,λr hr x hx=>(h.push r hr x hx).mono,λx hx=>(h.add x hx).mono,h.div.mono⟩
theorem zl.cast {ds ds':List D} {G:D->(D->Prop)->Prop} {R:D->Prop} (e:ds=ds') (h:zl ds' G R):zl ds G R:=by rw [e]; exact h
theorem uV (ns:List Int):(L ns).pl 50=true:=UX 48 ns
theorem JO {α:Type} (f:α->List Int) (xs:List α):D.lst (xs.map λr=>U (f r))=Rm (xs.map f):=by unfold Rm; rw [List.map_map]; rfl
theorem je {b:Bool} (h:(!b)=true):b=false:=by cases b <;> first | rfl | cases h
theorem jf {b:Bool} (h:(!b)=false):b=true:=by cases b <;> first | rfl | cases h
def JP (C CM:Addr):FL:=λds R=>∃ n bs ms rows,ds=[wS C CM n bs ms,Rm rows]/\n<=3/\bs.length<=6/\(∀ r∈rows,r.length=n + 1)/\rows.length<=900/\R (Rm (vp n bs rows))
def JQ (C CM:Addr):FL:=λds R=>∃ n bs ms m r,ds=[wS C CM n bs ms,xo CM m,U r]/\n<=3/\bs.length<=6/\yb m n bs.length/\MBd m/\r.length=n + 1/\(∀ x∈r,Bd 9000 x)/\R (U (yp n bs.length (r.take n) (r.getD n 0) m))
def zOt:FL:=λds R=>∃ rows d ns n,ds=[Rm rows,d,.int ((n:Nat):Int)]/\IS d ns/\n<=800/\ns.length<=900/\(∀ x∈ns,Bd 9000 x)/\(∀ r∈rows,n + 1<=r.length/\∀ x∈r,Bd 9000 x)/\R (U ((List.range (n + 1)).map (zL ns rows)))
def JR:FL:=λds R=>∃ d,ds=[d]/\d.isObj=false/\R (.bool (uD d))
def zMR:FL:=λds R=>∃ d c k,ds=[d,.int ((c:Nat):Int)]/\Fw k d/\R (.bool (xW c d))
def Z5:FL:=λds R=>∃ rows tw n d k,ds=[Rm rows,U tw,d]/\tw.length=n + 1/\(∀ x∈tw,Bd 1000 x)/\vN rows n/\Fw k d/\uf d/\R (.bool (xX rows tw n d))
def gW:FL:=λds R=>∃ d c k,ds=[d,.int c]/\Fw k d/\R (.bool (qW c d))
def JS:FL:=λds R=>∃ rows tws n d k,ds=[Rm rows,Rm tws,d]/\vN rows n/\vN tws n/\Fw k d/\yS d/\R (.bool (u6 rows tws n d))
def zMY (C CM:Addr):FL:=λds R=>∃ n bs ms m room behind d k,ds=[wS C CM n bs ms,xo CM m,Rm room,Rm behind,d]/\ug n bs ms/\yb m n bs.length/\MS m/\wC room n/\wC behind n/\Fw k d/\yS d/\R (.bool (gQ n bs room behind m d))
def zOp (C CM:Addr):FL:=λds R=>∃ n bs ms room behind d k,ds=[wS C CM n bs ms,Rm room,Rm behind,d]/\ug n bs ms/\wC room n/\wC behind n/\Fw k d/\xG d/\R (.bool (gR n bs ms room behind d))
abbrev zRJ:List Str:=["start","goal","turns"]
abbrev zQ2:List Str:=["room","starts","steps","measure","step","top","falls","floors","tops"]
abbrev qd (C:Addr) (s g:List (List Int)) (t:Int):D:=.obj C zRJ [Rm s,Rm g,.int t]
abbrev Z6 (C:Addr) (room:List (List Int)) (A1 A2:D) (ws:List Int) (b st tp:Int) (A6 A7 A8:D):D:=.obj C zQ2 [Rm room,A1,A2,U (ws++[b]),.int st,.int tp,A6,A7,A8]
def zMj (C:Addr):FL:=λds R=>∃ s g t,ds=[s,g,t]/\Fw 5 s/\Fw 5 g/\R (.obj C zRJ [s,g,t])
def zMh (C:Addr):FL:=λds R=>∃ a b c d e f g h i,ds=[a,b,c,d,e,f,g,h,i]/\Fw 5 a/\Fw 5 b/\Fw 5 c/\Fw 5 d/\Fw 5 g/\Fw 5 h/\Fw 5 i/\R (.obj C zQ2 [a,b,c,d,e,f,g,h,i])
def zGn (C:Addr):FL:=λds R=>∃ s g t n,ds=[qd C s g t,.int ((n:Nat):Int)]/\n<=3/\wC s n/\wC g n/\0<=t/\R (.bool true)
def Z7:FL:=λds R=>∃ ws b tp,ds=[U (ws++[b]),.int tp]/\ws.length<=100/\R (U (ws++[tp - b]))
def zOq:FL:=λds R=>∃ ws b,ds=[U (ws++[b])]/\ws.length<=100/\R (U (ws.map (λx=>-x)++[b]))
def zKE (C CM:Addr):FL:=λds R=>∃ n bs ms m ws b st,ds=[wS C CM n bs ms,xo CM m,U (ws++[b]),.int st]/\ug n bs ms/\yb m n bs.length/\MS m/\ws.length=n/\(∀ x∈ws,Bd 300 x)/\Bd 300 st/\R (U (ve n bs.length ws st m))
def zMg (CC CF:Addr):FL:=λds R=>∃ s g t room A1 A2 ws b st tp A6 A7 A8 n k,ds=[qd CC s g t,Z6 CF room A1 A2 ws b st tp A6 A7 A8]/\jd n room ws b st tp/\wC g n/\n<=3/\Fw k A7/\yS A7/\R (.bool (gS n room ws b g A7))
def zMZ (C CM CC CF:Addr):FL:=λds R=>∃ n bs ms m s g t room A1 A2 ws b st tp A6 A7 A8 d k,ds=[wS C CM n bs ms,xo CM m,qd CC s g t,Z6 CF room A1 A2 ws b st tp A6 A7 A8,d]/\ug n bs ms/\yb m n bs.length/\MS m/\jd n room ws b st tp/\wC g n/\Fw k d/\yS d/\R (.bool (gT n bs room ws st g m d))
def zMi (C CM CC CF:Addr):FL:=λds R=>∃ n bs ms s g t room A1 A2 ws b st tp A6 A7 A8 k,ds=[wS C CM n bs ms,qd CC s g t,Z6 CF room A1 A2 ws b st tp A6 A7 A8]/\ug n bs ms/\jd n room ws b st tp/\wC g n/\Fw k A6/\xG A6/\R (.bool (gU n bs ms room ws st g A6))
def zQ6 (C CM CC CF:Addr):FL:=λds R=>∃ n bs ms s g t room A1 A2 ws b st tp A6 A7 A8 k,ds=[wS C CM n bs ms,qd CC s g t,Z6 CF room A1 A2 ws b st tp A6 A7 A8]/\ug n bs ms/\jd n room ws b st tp/\wC g n/\wC s n/\0<=t/\Bd 300 t/\Fw k A1/\Fw k A2/\Fw k A6/\Fw k A7/\Fw k A8/\yS A1/\xG A2/\xG A6/\yS A7/\uf A8/\R (.bool (vT n bs ms s g t room ws b st tp A1 A2 A6 A7 A8))
def zOo (C CM CC CF:Addr):FL:=λds R=>∃ n bs ms s g t room A1 A2 ws b st tp A6 A7 A8 k,ds=[wS C CM n bs ms,qd CC s g t,Z6 CF room A1 A2 ws b st tp A6 A7 A8]/\ug n bs ms/\jd n room ws b st tp/\wC g n/\wC s n/\0<=t/\Bd 300 t/\Fw k A1/\Fw k A2/\Fw k A6/\Fw k A7/\Fw k A8/\yS A1/\xG A2/\xG A6/\yS A7/\uf A8/\qV ms=true/\R (.bool (vT n bs ms s g t room ws b st tp A1 A2 A6 A7 A8))
def fNo:FL:=λ_ _=>False
theorem Z8 {r:List Int} {n:Nat} (h:r.length=n + 1):r=r.take n++[r.getD n 0]:=by
 conv=>lhs; rw [<- List.take_append_drop n r]
 congr 1
 rw [List.getD_eq_getElem?_getD,List.getElem?_eq_getElem (by omega)]
 exact List.drop_eq_getElem_cons (by omega) |>.trans (by rw [List.drop_eq_nil_of_le (by omega)]; rfl)
theorem zO0 {α:Type} {l:List (List α)} {k:Nat} {x:List α} (h:l[k]? = some x):(l.take (k + 1)).flatten=(l.take k).flatten++x:=by
 rw [kg h,List.flatten_append,List.flatten_singleton]
section
variable {P:Program} {w:World} {K:PySem.W.Frag} {mg:Str->Option Value} {base:Heap}
abbrev Z9:Stmt:=zm 45
theorem qe:ze ["thing","rows","pushes","wide","noughts","told","place","push"] ["thing","rows"] (zK Z9):=.a
abbrev JT:Stmt:=zm 46
theorem JU:ze ["thing","mode","row","numbers","ahead"] ["thing","mode","row"] (zK JT):=.a
abbrev JV:Stmt:=zm 48
theorem zNZ:ze ["rows","numbers","many"] ["rows","numbers","many"] (zK JV):=.a
abbrev JW:Stmt:=zm 49
theorem zFs:ze ["value"] ["value"] (zK JW):=.a
abbrev X2:Stmt:=zm 50
theorem zHB:ze ["value","count"] ["value","count"] (zK X2):=.a
abbrev X3:Stmt:=zm 51
theorem JX:ze ["rows","target","shares","total","wanted"] ["rows","target","shares"] (zK X3):=.a
abbrev JY:Stmt:=zm 57
theorem zG7:ze ["value","count"] ["value","count"] (zK JY):=.a
abbrev X4:Stmt:=zm 58
theorem zG8:ze ["rows","targets","shares"] ["rows","targets","shares"] (zK X4):=.a
abbrev X5:Stmt:=zm 65
theorem zG5:ze ["thing","mode","room","behind","shares"] ["thing","mode","room","behind","shares"] (zK X5):=.a
abbrev X6:Stmt:=zm 64
theorem zJl:ze ["thing","room","behind","steps","modes"] ["thing","room","behind","steps"] (zK X6):=.a
variable {ae ag aClaim aSettles aComes aPaper aRooms aFalls:Addr} (aa:zE K mg "Mode" ae) (ab:wz K ae) (ac:zE K mg "Thing" ag) (af:w4 K ag) (TClaim:zE K mg "Claim" aClaim) (AClaim:w6 K aClaim) (TSettles:zE K mg "Settles" aSettles) (ASettles:w8 K aSettles) (TComes:zE K mg "Comes" aComes) (AComes:vA K aComes) (TPaper:zE K mg "Paper" aPaper) (APaper:vB K aPaper) (TRooms:zE K mg "Rooms" aRooms) (ARooms:vC K aRooms) (TFalls:zE K mg "Falls" aFalls) (AFalls:vD K aFalls) (Y:yu K aComes aSettles)
include aa ab ac af TClaim AClaim TSettles ASettles TComes AComes TPaper APaper TRooms ARooms TFalls AFalls Y
theorem zI2 {k:Nat} {f:Addr} {fd:FuncData} (F:zf K "standing" "standing" Z9 f fd) (B:Bl mg) (av:vn P w K mg base ag "pushes" ["self"] k (zI (Xx ag ae))) (aS:Fn P w K mg base "single" ["place","many","number","bound"] k (zI (zMQ))):zH P w K mg base zZ (k + 1) f fd ["thing","rows"] (zI (JP ag ae)):=by
 refine zu F qe (λds R h=>by obtain ⟨n,bs,ms,rows,rfl,_⟩:=h; rfl) λcdv A outer s H E hr=>⟨_,(zJ (zp 2 qe.nd rfl (Or.inl rfl) (jY av ac hr (zA 0)))
  (zJ (zp 3 qe.nd rfl (Or.inl rfl) (zX (zo K (zA 0) rfl) (zq yV yZ rfl B.len_ yW (zB (zA 2) zC))))
  (zJ (zp 4 qe.nd rfl (Or.inr rfl) (xI wd wg rfl B.tuple_ xk (zB (yI (own:=["push"]) (caps:=[]) (zz (S:=zK Z9) (N:=["thing","rows","pushes","wide","noughts","told","place","push"]) rfl (by decide +kernel) rfl ⟨_,rfl⟩ rfl (by decide +kernel) (by decide +kernel)) rfl rfl yJ (yy (zA 2)) (λ_ _ _ _=>(zy 0 (show (["push"]:List Str).Nodup by decide +kernel) rfl (Or.inl rfl))) (λ_ _ _ _=>zD)) zC)))
  (zJ (uy 5 true qe.nd rfl rfl (own:=["row"]) (caps:=[(4,"noughts")]) (zz (S:=zK Z9) (N:=["thing","rows","pushes","wide","noughts","told","place","push"]) rfl (by decide +kernel) rfl ⟨_,rfl⟩ rfl (by decide +kernel) (by decide +kernel)) rfl rfl yJ (yy (zA 1)) (λ_ _ _ _=>(zy 0 (show (["row","noughts"]:List Str).Nodup by decide +kernel) rfl (Or.inl rfl))) (λ_ _ _ _=>(zX (zX (yt (zA 0) y8 (yh (y6 zD))) (zA 1)) (xb (zB (zT (zA 0) (y6 zD) (λ_ _=>rfl)) zC)))) rfl)
  (zJ (uC PassesOwn.never rfl (zLi rfl B.enumerate_ (zB (zA 2) zC) (zo K (zA 0) rfl)) (xi rfl (zk 6 qe.nd rfl (Or.inl rfl) (zk 7 qe.nd rfl (Or.inl rfl) xh))) (zJ (yC (wL (wU PySem.F.plainAttrs_list PySem.F.slot_list_append PySem.F.type_list_append yk (yT 5) (zg (zP aS hr rfl (zB (zA 6) (zB (zA 3) (zB zD (zB (zT (zA 7) zD (λ_ _=>rfl)) zC))))) yB))) wa)
   (zO (yC (wL (wU PySem.F.plainAttrs_list PySem.F.slot_list_append PySem.F.type_list_append yk (yT 5) (zg (zP aS hr rfl (zB (zA 6) (zB (zA 3) (zB (y6 zD) (zB (y6 (zT (zA 7) zD (λ_ _=>rfl))) zC))))) yB))) wa))))
  (zO (wj 5 (zV (zA 5))))))))),λds R h=>?_⟩
 obtain ⟨n,bs,ms,rows,rfl,n3,b6,hr0,l9,q⟩:=h
 have hp:(List.map yF bs).length=bs.length:=List.length_map ..
 refine ⟨rfl,by decide +kernel,n,bs,ms,rfl,?_⟩
 refine ⟨⟨ac.cl,af.n_many⟩,_,rfl,?_⟩
 refine wm yF Zx (λ_=>rfl) (λ_=>.int 0) (by omega) (λb hb=>rfl) ?_
 refine wm U zv u5 (λr=>U (wH n bs.length r)) (by omega) (λr hr=>?_) ?_
 ·have lr:=hr0 r hr
  refine ⟨by rw [uU lr,List.length_map,List.length_map,List.length_take]; omega,_,qZ lr,k0,by rw [uU lr,List.length_append,List.length_map,List.length_map,List.length_take]; show _ + 1<=1000; omega,?_⟩
  rw [uU lr]
  unfold wH U
  rw [List.map_append,List.map_append,List.map_replicate,List.map_const']
  rfl
 refine ⟨⟨ac.cl,af.n_many⟩,_,rfl,by omega,by omega,?_⟩
 rw [show ((n:Nat):Int).toNat=n by omega]
 refine ⟨λk Γ=>∃ s6 s7,Γ=[.sh (wS ag ae n bs ms),.sh (Rm rows),.sh (.lst (bs.map yF)),.sh (.int ((n:Int) + ((bs.map yF).length:Int))),.sh (.tup (bs.map λ_=>.int 0)),.ow ((rows.map (wH n bs.length)++((bs.mapIdx (vo n bs.length)).take k).flatten).map U),s6,s7],⟨_,_,by rw [List.take_zero,List.flatten_nil,List.append_nil,List.map_map]; rfl⟩,?_,?_⟩
 ·rintro k d Γ' hk ⟨s6,s7,rfl⟩
  obtain ⟨d',hd',rfl⟩:=U3 hk
  rw [List.getElem?_map] at hd'
  cases hb:bs[k]? with
  | none=>rw [hb] at hd'; cases hd'
  | some b=>
  rw [hb] at hd'
  cases hd'
  have kl:k < bs.length:=(List.getElem?_eq_some_iff.mp hb).1
  have hx:(bs.mapIdx (vo n bs.length))[k]? = some (vo n bs.length k b):=by rw [List.getElem?_mapIdx,hb]; rfl
  have ll:((bs.mapIdx (vo n bs.length)).take k).flatten.length=2 * k:=by
   rw [List.length_flatten]
   have e:((bs.mapIdx (vo n bs.length)).take k).map List.length=List.replicate k 2:=by
    refine List.ext_getElem (by simp; omega) λi h1 h2=>?_
    simp [vo]
   rw [e]
   simp
   omega
  have lw:((rows.map (wH n bs.length)++((bs.mapIdx (vo n bs.length)).take k).flatten).map U).length=rows.length + 2 * k:=by rw [List.length_map,List.length_append,List.length_map,ll]
  have e:((rows.map (wH n bs.length)++((bs.mapIdx (vo n bs.length)).take (k + 1)).flatten).map U)=((rows.map (wH n bs.length)++((bs.mapIdx (vo n bs.length)).take k).flatten).map U)++[U (yw ((n + k:Nat):Int) ((n:Int) + ((bs.map yF).length:Int)).toNat 1++[b.2])]++[U (yw ((n + k:Nat):Int) ((n:Int) + ((bs.map yF).length:Int)).toNat (-1)++[-b.1])]:=by
   rw [zO0 hx,<- List.append_assoc,List.map_append,hp,show ((n:Int) + (bs.length:Int)).toNat=n + bs.length by omega,List.append_assoc]
   rfl
  refine ⟨_,rfl,_,_,_,_,rfl,by omega,by omega,by omega,?_⟩
  refine ⟨_,rfl,_,_,_,_,rfl,by omega,by omega,by rw [List.length_append]; show _ + 1 < 1000; omega,?_⟩
  refine ⟨.sh (.int ((n + k:Nat):Int)),.sh (yF b),?_⟩
  rw [e]
  rfl
 ·rintro Γ' ⟨s6,s7,rfl⟩
  rw [U2,hp,List.take_of_length_le (by rw [List.length_mapIdx]; omega)]
  exact q
theorem zNs {k:Nat} {f:Addr} {fd:FuncData} (F:zf K "reach" "reach" JT f fd) (B:Bl mg) (ap:Fn P w K mg base "added_up" ["numbers","lists","wide"] k (zI (Zt))) (av:vn P w K mg base ag "pushes" ["self"] k (zI (Xx ag ae))) (aF:Fn P w K mg base "paired" ["numbers","others"] k (zI (U7))):zH P w K mg base zZ (k + 1) f fd ["thing","mode","row"] (zI (JQ ag ae)):=by
 refine zu F JU (λds R h=>by obtain ⟨n,bs,ms,m,r,rfl,_⟩:=h; rfl) λcdv A outer s H E hr=>⟨_,(zJ (zp 3 JU.nd rfl (Or.inl rfl) (yt (zA 2) y8 (yh (y6 zD))))
  (zJ (zp 4 JU.nd rfl (Or.inl rfl) (zX (zP ap hr rfl (zB (zA 3) (zB (zo K (zA 1) rfl) (zB (zo K (zA 0) rfl) zC)))) (zP ap hr rfl (zB (zA 3) (zB (zo K (zA 1) rfl) (zB (zq yV yZ rfl B.len_ yW (zB (jY av ac hr (zA 0)) zC)) zC))))))
  (zO (zV (zX (xI wd wg rfl B.tuple_ xk (zB (zA 4) zC)) (xb (zB (wI (yH (zo K (zA 1) rfl) (zT (zA 2) (y6 zD) (λ_ _=>rfl))) (zP aF hr rfl (zB (zA 3) (zB (zo K (zA 1) rfl) zC)))) zC))))))),λds R h=>?_⟩
 obtain ⟨n,bs,ms,m,r,rfl,n3,b6,MO,MB,lr,br,q⟩:=h
 have lt:(r.take n).length=n:=by rw [List.length_take]; omega
 have bt:∀ x∈r.take n,Bd 9000 x:=λx hx=>br x (List.mem_of_mem_take hx)
 have hp:(List.map yF bs).length=bs.length:=List.length_map ..
 refine ⟨⟨aa.cl,ab.n_nexts⟩,_,rfl,⟨ac.cl,af.n_many⟩,_,rfl,_,_,r.take n,m.nexts,n,rfl,.inr (by rw [uU lr]),.inl rfl,by omega,by omega,bt,λx hx=>⟨by rw [MO.nexts.2 x hx]; omega,MB.nexts x hx⟩,?_⟩
 refine ⟨⟨aa.cl,ab.n_push⟩,_,rfl,rfl,by decide +kernel,n,bs,ms,rfl,_,_,r.take n,m.push,bs.length,by rw [hp],.inr (by rw [uU lr]),.inl rfl,by omega,by omega,bt,λx hx=>⟨by rw [MO.push.2 x hx]; omega,MB.push x hx⟩,?_⟩
 refine ⟨by rw [List.length_map,List.length_map,List.length_map,List.length_map,List.length_range,List.length_range]; omega,?_⟩
 refine ⟨⟨aa.cl,ab.n_divisor⟩,_,rfl,_,qZ lr,MB.div.mono,(Xj br n).mono,⟨aa.cl,ab.n_add⟩,_,rfl,_,_,r.take n,m.add,rfl,.inr (by rw [uU lr]),.inl rfl,by omega,bt,MB.add,k0,?_,?_⟩
 ·rw [List.length_append,List.length_map,List.length_map,List.length_map,List.length_map,List.length_range,List.length_range]
  show _ + 1<=1000
  omega
 ·unfold yp U at q
  rw [List.map_append,List.map_append] at q
  exact q
theorem zNy {k:Nat} {f:Addr} {fd:FuncData} (F:zf K "added" "added" JV f fd) (B:Bl mg) (ap:Fn P w K mg base "added_up" ["numbers","lists","wide"] k (zI (Zt))):zH P w K mg base zZ (k + 1) f fd ["rows","numbers","many"] (zI (zOt)):=by
 refine zu F zNZ (λds R h=>by obtain ⟨rows,d,ns,n,rfl,_⟩:=h; rfl) λcdv A outer s H E hr=>⟨_,(zO (zV (xI wd wg rfl B.tuple_ xk (zB (zP ap hr rfl (zB (zA 1) (zB (zA 0) (zB (zX (zA 2) zD) zC)))) zC)))),λds R h=>?_⟩
 obtain ⟨rows,d,ns,n,rfl,h,n8,l9,bn,br,q⟩:=h
 exact ⟨_,_,ns,rows,n + 1,rfl,h,.inr rfl,by omega,l9,bn,br,q⟩
theorem zF8 {k:Nat} {f:Addr} {fd:FuncData} (F:zf K "is_from_0_on" "is_from_0_on" JW f fd) (B:Bl mg) (ak:Fn P w K mg base "is_whole" ["thing"] k (zI (ja))):zH P w K mg base zZ (k + 1) f fd ["value"] (zI (JR)):=by
 refine zu F zFs (λds R h=>by obtain ⟨d,rfl,_⟩:=h; rfl) λcdv A outer s H E hr=>⟨_,(zO (zV (wQ (zP ak hr rfl (zB (zA 0) zC)) (vb (zQL (zA 0) zD))))),λds R h=>?_⟩
 obtain ⟨d,rfl,o,q⟩:=h
 refine ⟨d,rfl,o,w2 (λc=>?_) (λc=>bR q ?_)⟩
 ·obtain ⟨i,rfl⟩:=zLF c
  exact q
 ·cases d <;> first | rfl | cases c
theorem zHg {k:Nat} {f:Addr} {fd:FuncData} (F:zf K "are_shares" "are_shares" X2 f fd) (B:Bl mg) (aG:Fn P w K mg base "is_from_0_on" ["value"] k (zI (JR))):zH P w K mg base zZ (k + 1) f fd ["value","count"] (zI (zMR)):=by
 refine zu F zHB (λds R h=>by obtain ⟨d,c,k,rfl,_⟩:=h; rfl) λcdv A outer s H E hr=>⟨_,(zJ (yE (PW.pt (wZ (xA (yY (yM (xj wv rfl B.isinstance_ xx (zg (zA 0) (zg (wr (v:=.ty "tuple") (u:=.type "tuple") rfl B.tuple_ xk rfl) yB))) (wy Zk)))) (vP (UZ hr.units (zq yV yZ rfl B.len_ yW (zB (zA 0) zC)) zD)))) (zO (zV xZ)) yD)
  (zJ (yE (PW.pt (wZ (xA (yY (zP aG hr rfl (zB (zT (zA 0) zD (λ_ _=>rfl)) zC)))) (wZ (xA (yY (yM (xj wv rfl B.isinstance_ xx (zg (zT (zA 0) zD (λ_ _=>rfl)) (zg (wr (v:=.ty "list") (u:=.type "list") rfl B.list_ wN rfl) yB))) (wy jX)))) (vP (UZ hr.units (zq yV yZ rfl B.len_ yW (zB (zT (zA 0) zD (λ_ _=>rfl)) zC)) (zA 1)))))) (zO (zV xZ)) yD)
  (zO (zV (zq (vK rfl) vQ rfl B.all_ vM (zB (yI (own:=["number"]) (caps:=[]) (zz (S:=zK X2) (N:=["value","count"]) rfl (by decide +kernel) rfl ⟨0,rfl⟩ rfl (by decide +kernel) (by decide +kernel)) rfl rfl yJ (yy (zT (zA 0) zD (λ_ _=>rfl))) (λ_ _ _ _=>(zy 0 (show (["number"]:List Str).Nodup by decide +kernel) rfl (Or.inl rfl))) (λ_ _ _ _=>(zP aG hr rfl (zB (zA 0) zC)))) zC)))))),λds R h=>?_⟩
 obtain ⟨d,c,k,rfl,f,q⟩:=h
 refine ⟨f.no,w2 (λc1=>wT rfl (bR q ?_)) λc1=>?_⟩
 ·cases d <;> first | rfl | cases c1
 obtain ⟨es,rfl,le,j,rfl,hj⟩:=f.tup_inv (by cases z:d.isTup with | true=>rfl | false=>rw [z] at c1; cases c1)
 refine w2 (λc2=>bR q ?_) λc2=>?_
 ·match es,c2 with
  | [],_=>rfl
  | [_],_=>rfl
  | [_,_],c2=>cases c2
  | _ :: y :: _ :: _,_=>cases y <;> rfl
 obtain ⟨x,y,rfl⟩:∃ x y,es=[x,y]:=by
  match es,c2 with
  | [x,y],_=>exact ⟨x,y,rfl⟩
  | [],c2=>cases c2
  | [_],c2=>cases c2
  | _ :: _ :: _ :: _,c2=>
   have c2:(!decide (((_:Nat):Int)=2))=false:=c2
   rw [Bool.not_eq_false',decide_eq_true_iff] at c2
   simp at c2
   omega
 have fx:=hj x List.mem_cons_self
 have fy:=hj y (List.mem_cons_of_mem _ List.mem_cons_self)
 refine ⟨x,rfl,x,rfl,fx.no,w2 (λc3=>wT rfl (bR q ?_)) λc3=>?_⟩
 ·cases y <;> first | rfl | (show (uD x && _)=false; rw [show uD x=false by cases z:uD x with | false=>rfl | true=>rw [z] at c3; cases c3]; rfl)
 have c3:uD x=true:=by cases z:uD x with | true=>rfl | false=>rw [z] at c3; cases c3
 refine ⟨y,rfl,fy.no,w2 (λc4=>wT rfl (bR q ?_)) λc4=>?_⟩
 ·cases y <;> first | rfl | cases c4
 obtain ⟨ys,rfl,ly,i,rfl,hi⟩:=fy.lst_inv (by cases z:y.isLst with | true=>rfl | false=>rw [z] at c4; cases c4)
 have key:xW c (.tup [x,.lst ys])=(decide (ys.length=c) && ys.all uD):=by
  show (uD x && _)=_
  rw [c3]
  rfl
 rw [key] at q
 refine ⟨_,rfl,w2 (λc5=>bR q ?_) λc5=>?_⟩
 ·have c5:(!decide ((ys.length:Int)=(c:Int)))=true:=c5
  rw [Bool.not_eq_true',decide_eq_false_iff_not] at c5
  rw [decide_eq_false (by omega)]
  rfl
 have c5:(!decide ((ys.length:Int)=(c:Int)))=false:=c5
 rw [Bool.not_eq_false',decide_eq_true_iff] at c5
 refine ⟨_,rfl,zl.bool uD (by omega) (λd m=>⟨d,rfl,(hi d m).no,rfl⟩) ⟨_,rfl,bR q ?_⟩⟩
 rw [vd,decide_eq_true (by omega)]
 rfl
theorem zNr {k:Nat} {f:Addr} {fd:FuncData} (F:zf K "shows" "shows" X3 f fd) (B:Bl mg) (bh:Fn P w K mg base "are_shares" ["value","count"] k (zI (zMR))) (bA:Fn P w K mg base "added" ["rows","numbers","many"] k (zI (zOt))) (bC:Fn P w K mg base "scaled" ["factor","numbers"] k (zI (zMS))):zH P w K mg base zZ (k + 1) f fd ["rows","target","shares"] (zI (Z5)):=by
 refine zu F JX (λds R h=>by obtain ⟨rows,tw,n,d,k,rfl,_⟩:=h; rfl) λcdv A outer s H E hr=>⟨_,(zJ (yE (xA (yY (zP bh hr rfl (zB (zA 2) (zB (zq yV yZ rfl B.len_ yW (zB (zA 0) zC)) zC))))) (zO (zV xZ)) yD)
  (zJ (zp 3 JX.nd rfl (Or.inl rfl) (zP bA hr rfl (zB (zA 0) (zB (zT (zA 2) zD (λ_ _=>rfl)) (zB (wI (zq yV yZ rfl B.len_ yW (zB (zA 1) zC)) zD) zC)))))
  (zJ (yE (wY hr.units (zT (zA 2) zD (λ_ _=>rfl)) zD) (zO (zV (wQ (zq (vK rfl) vQ rfl B.all_ vM (zB (yI (own:=["number"]) (caps:=[]) (zz (S:=zK X3) (N:=["rows","target","shares","total","wanted"]) rfl (by decide +kernel) rfl ⟨0,rfl⟩ rfl (by decide +kernel) (by decide +kernel)) rfl rfl yJ (yy (yt (zA 3) y8 (yh (y6 zD)))) (λ_ _ _ _=>(zy 0 (show (["number"]:List Str).Nodup by decide +kernel) rfl (Or.inl rfl))) (λ_ _ _ _=>(uP hr.units (zA 0) zD))) zC)) (vb (ZI (zT (zA 3) (y6 zD) (λ_ _=>rfl)) zD))))) yD)
  (zJ (zp 4 JX.nd rfl (Or.inl rfl) (zP bC hr rfl (zB (zT (zA 2) zD (λ_ _=>rfl)) (zB (zA 1) zC))))
  (zO (zV (wQ (uP hr.units (xI uK uQ rfl B.list_ wN (zB (yt (zA 3) y8 (yh (y6 zD))) zC)) (yt (zA 4) y8 (yh (y6 zD)))) (vb (zQK (zT (zA 3) (y6 zD) (λ_ _=>rfl)) (zT (zA 4) (y6 zD) (λ_ _=>rfl))))))))))),λds R h=>?_⟩
 obtain ⟨rows,tw,n,d,k,rfl,lt,bt,RW,f,sb,q⟩:=h
 have lr:(List.map U rows).length=rows.length:=List.length_map ..
 have ltw:(List.map D.int tw).length=n + 1:=by rw [List.length_map]; exact lt
 have nar:=RW.nar
 have fewr:=RW.few
 refine ⟨d,rows.length,k,by rw [lr],f,w2 (λc1=>bR q ?_) λc1=>?_⟩
 ·exact zNV (by cases z:xW rows.length d with | false=>rfl | true=>rw [z] at c1; cases c1)
 have c1:xW rows.length d=true:=by cases z:xW rows.length d with | true=>rfl | false=>rw [z] at c1; cases c1
 obtain ⟨o,ns,rfl,o0,ln,n0⟩:=zNW c1
 rw [zLV c1] at q
 obtain ⟨bo,bn⟩:=sb o _ rfl
 have bn:∀ x∈ns,Bd 1000 x:=λx hx=>bn (.int x) (List.mem_map.mpr ⟨x,hx,rfl⟩)
 have tot:(List.range (n + 1)).map (zL ns rows)=(List.range n).map (zL ns rows)++[zL ns rows n]:=by rw [List.range_succ,List.map_append]; rfl
 have e1:(List.range n).map (xE rows ns)=(List.range n).map (zL ns rows):=List.map_congr_left λj _=>JL rows ns j
 unfold j4 at q
 rw [e1,JL] at q
 refine ⟨_,rfl,rows,_,ns,n,by rw [ltw]; show [Rm rows,L ns,D.int (((n + 1:Nat):Int) - 1)]=_; rw [show ((n + 1:Nat):Int) - 1=(n:Int) by omega],.inl rfl,by omega,by omega,λx hx=>(bn x hx).mono,λr hr=>⟨by rw [(RW.row r hr).1]; omega,λx hx=>((RW.row r hr).2 x hx).mono⟩,?_⟩
 rw [tot]
 refine ⟨_,rfl,w2 (λc2=>?_) λc2=>?_⟩
 ·rw [if_pos (of_decide_eq_true c2)] at q
  refine zl.cast (uE _ _) (zRI (λx=>decide (x=0)) (by rw [List.length_map,List.length_range]; omega) (λx hx=>rfl) ⟨_,rfl,w2 (λc3=>?_) λc3=>bR q ?_⟩)
  ·refine ⟨_,qc _ _,bR q ?_⟩
   rw [vd] at c3
   rw [c3]
   rfl
  ·rw [vd] at c3
   rw [c3]
   rfl
 ·rw [if_neg (of_decide_eq_false c2)] at q
  have lsc:(tw.map (o * ·)).length=n + 1:=by rw [List.length_map]; exact lt
  have ets:(tw.map (o * ·)).take n=(tw.take n).map (o * ·):=(List.map_take ..).symm
  refine ⟨_,rfl,o,_,tw,rfl,.inr rfl,by omega,bo.mono,λx hx=>(bt x hx).mono,?_⟩
  refine ⟨by rw [uE]; exact uV _,by rw [uU lsc]; exact uV _,w2 (λc3=>?_) λc3=>bR q ?_⟩
  all_goals rw [uE,uU lsc,zRA,ets] at c3
  ·refine ⟨_,qc _ _,_,qZ lsc,bR q ?_⟩
   rw [c3]
   rw [show (tw.map (o * ·)).getD n 0=o * tw.getD n 0 by
    rw [List.getD_eq_getElem?_getD,List.getElem?_map,List.getElem?_eq_getElem (by omega),List.getD_eq_getElem?_getD,List.getElem?_eq_getElem (by omega)]; rfl]
   rfl
  ·rw [c3]
   rfl
theorem zHb {k:Nat} {f:Addr} {fd:FuncData} (F:zf K "is_list_of" "is_list_of" JY f fd) (B:Bl mg):zH P w K mg base zZ (k + 1) f fd ["value","count"] (zI (gW)):=by
 refine zu F zG7 (λds R h=>by obtain ⟨d,c,k,rfl,_⟩:=h; rfl) λcdv A outer s H E hr=>⟨_,(zO (zV (wQ (yM (xj wv rfl B.isinstance_ xx (zg (zA 0) (zg (wr (v:=.ty "list") (u:=.type "list") rfl B.list_ wN rfl) yB))) (wy jX)) (vb (uP hr.units (zq yV yZ rfl B.len_ yW (zB (zA 0) zC)) (zA 1)))))),λds R h=>?_⟩
 obtain ⟨d,c,k,rfl,f,q⟩:=h
 refine ⟨f.no,w2 (λc1=>?_) λc1=>bR q ?_⟩
 ·obtain ⟨es,rfl,le,j,rfl,hj⟩:=f.lst_inv c1
  exact q
 ·cases d <;> first | rfl | cases c1
theorem zHd {k:Nat} {f:Addr} {fd:FuncData} (F:zf K "each_shown" "each_shown" X4 f fd) (B:Bl mg) (ao:Fn P w K mg base "is_list_of" ["value","count"] k (zI (gW))) (aq:Fn P w K mg base "shows" ["rows","target","shares"] k (zI (Z5))):zH P w K mg base zZ (k + 1) f fd ["rows","targets","shares"] (zI (JS)):=by
 refine zu F zG8 (λds R h=>by obtain ⟨rows,tws,n,d,k,rfl,_⟩:=h; rfl) λcdv A outer s H E hr=>⟨_,(zJ (yE (xA (yY (zP ao hr rfl (zB (zA 2) (zB (zq yV yZ rfl B.len_ yW (zB (zA 1) zC)) zC))))) (zO (zV xZ)) yD)
  (zO (zV (zq (vK rfl) vQ rfl B.all_ vM (zB (yI (own:=["target","part"]) (caps:=[(0,"rows")]) (zz (S:=zK X4) (N:=["rows","targets","shares"]) rfl (by decide +kernel) rfl ⟨_,rfl⟩ rfl (by decide +kernel) (by decide +kernel)) rfl rfl (uR (wA (wA uT))) (ud rfl B.zip_ (zB (zA 1) (zB (zA 2) zC))) (λ_ _ _ _=>(xi rfl (zk 0 (show (["target","part","rows"]:List Str).Nodup by decide +kernel) rfl (Or.inl rfl) (zk 1 (show (["target","part","rows"]:List Str).Nodup by decide +kernel) rfl (Or.inl rfl) xh)))) (λ_ _ _ _=>(zP aq hr rfl (zB (zA 2) (zB (zA 0) (zB (zA 1) zC)))))) zC))))),λds R h=>?_⟩
 obtain ⟨rows,tws,n,d,k,rfl,RW,RT,f,sb,q⟩:=h
 have lt:(List.map U tws).length=tws.length:=List.length_map ..
 have fewt:=RT.few
 refine ⟨d,_,k,rfl,f,w2 (λc1=>bR q ?_) λc1=>?_⟩
 ·rw [lt] at c1
  exact zOI (je c1)
 rw [lt] at c1
 obtain ⟨as,rfl,la⟩:=Zz (jf c1)
 obtain ⟨es,e1,le,j,rfl,hj⟩:=f.lst_inv rfl
 cases e1
 have sb:=sb as rfl
 refine Z4 U zv u5 (λt a=>xX rows t n a) (by omega) (λt a hm=>?_) ⟨_,rfl,bR q ?_⟩
 ·have h1:=(List.of_mem_zip hm).1
  have h2:=(List.of_mem_zip hm).2
  exact ⟨rows,t,n,a,j,rfl,(RT.row t h1).1,(RT.row t h1).2,RW,hj a h2,sb a h2,rfl⟩
 ·show (decide _ && _)=_
  rw [decide_eq_true la,vd]
  rfl
theorem zHY {k:Nat} {f:Addr} {fd:FuncData} (F:zf K "mode_leads" "mode_leads" X5 f fd) (B:Bl mg) (aK:Fn P w K mg base "each_shown" ["rows","targets","shares"] k (zI (JS))) (aL:Fn P w K mg base "reach" ["thing","mode","row"] k (zI (JQ ag ae))) (aM:Fn P w K mg base "standing" ["thing","rows"] k (zI (JP ag ae))):zH P w K mg base zZ (k + 1) f fd ["thing","mode","room","behind","shares"] (zI (zMY ag ae)):=by
 refine zu F zG5 (λds R h=>by obtain ⟨n,bs,ms,m,room,behind,d,k,rfl,_⟩:=h; rfl) λcdv A outer s H E hr=>⟨_,(zO (zV (zP aK hr rfl (zB (zP aM hr rfl (zB (zA 0) (zB (zX (zA 2) (zo K (zA 1) rfl)) zC))) (zB (yI (own:=["row"]) (caps:=[(0,"thing"),(1,"mode")]) (zz (S:=zK X5) (N:=["thing","mode","room","behind","shares"]) rfl (by decide +kernel) rfl ⟨_,rfl⟩ rfl (by decide +kernel) (by decide +kernel)) rfl rfl yJ (yy (zA 3)) (λ_ _ _ _=>(zy 0 (show (["row","thing","mode"]:List Str).Nodup by decide +kernel) rfl (Or.inl rfl))) (λ_ _ _ _=>(zP aL hr rfl (zB (zA 1) (zB (zA 2) (zB (zA 0) zC)))))) (zB (zA 4) zC)))))),λds R h=>?_⟩
 obtain ⟨n,bs,ms,m,room,behind,d,k,rfl,TS,MO,MSm,R1,R2,f,sb,q⟩:=h
 have n1:=TS.ok.n1
 have n3:=TS.ok.n3
 have b6:=TS.ok.b6
 have f1:=R1.few
 have f2:=R2.few
 have f3:=MSm.few
 have hrl:∀ r∈room++m.rows,r.length=n + 1/\∀ x∈r,Bd 1000 x:=λr hr=>by
  rcases List.mem_append.mp hr with hr | hr
  ·exact ⟨(R1.row r hr).1,λx hx=>((R1.row r hr).2 x hx).mono⟩
  ·exact ⟨MO.rows r hr,λx hx=>(MSm.rows r hr x hx).mono⟩
 refine ⟨⟨aa.cl,ab.n_rows⟩,_,rfl,by rw [List.length_map,List.length_map]; omega,n,bs,ms,room++m.rows,by rw [X1],n3,b6,λr hr=>(hrl r hr).1,by rw [List.length_append]; omega,?_⟩
 refine wm U zv u5 (λr=>U (yp n bs.length (r.take n) (r.getD n 0) m)) (by omega) (λr hr=>?_) ?_
 ·exact ⟨n,bs,ms,m,r,rfl,n3,b6,MO,MSm.mbd,(R2.row r hr).1,λx hx=>((R2.row r hr).2 x hx).mono,rfl⟩
 have RW2:vN (qY n bs.length m behind) (n + bs.length):=by
  refine ⟨λr hr=>?_,by unfold qY; rw [List.length_map]; omega,by omega⟩
  obtain ⟨r0,h0,rfl⟩:=List.mem_map.mp hr
  obtain ⟨lr,br⟩:=R2.row r0 h0
  exact ⟨qX ..,λx hx=>(JN MSm (by rw [List.length_take]; omega) (λy hy=>(br y (List.mem_of_mem_take hy)).mono) (JM br n).mono x hx).mono⟩
 exact ⟨_,qY n bs.length m behind,n + bs.length,d,k,by rw [JO (λr:List Int=>yp n bs.length (r.take n) (r.getD n 0) m)]; rfl,zJg hrl (by rw [List.length_append]; omega) n3 b6 TS.bs,RW2,f,sb,q⟩
theorem zNu {k:Nat} {f:Addr} {fd:FuncData} (F:zf K "leads" "leads" X6 f fd) (B:Bl mg) (aB:vn P w K mg base ag "modes" ["self"] k (zI (Xy ag ae))) (ao:Fn P w K mg base "is_list_of" ["value","count"] k (zI (gW))) (bE:Fn P w K mg base "mode_leads" ["thing","mode","room","behind","shares"] k (zI (zMY ag ae))):zH P w K mg base zZ (k + 1) f fd ["thing","room","behind","steps"] (zI (zOp ag ae)):=by
 refine zu F zJl (λds R h=>by obtain ⟨n,bs,ms,room,behind,d,k,rfl,_⟩:=h; rfl) λcdv A outer s H E hr=>⟨_,(zJ (zp 4 zJl.nd rfl (Or.inl rfl) (jY aB ac hr (zA 0)))
  (zJ (yE (xA (yY (zP ao hr rfl (zB (zA 3) (zB (zq yV yZ rfl B.len_ yW (zB (zA 4) zC)) zC))))) (zO (zV xZ)) yD)
  (zO (zV (zq (vK rfl) vQ rfl B.all_ vM (zB (yI (own:=["mode","shares"]) (caps:=[(0,"thing"),(1,"room"),(2,"behind")]) (zz (S:=zK X6) (N:=["thing","room","behind","steps","modes"]) rfl (by decide +kernel) rfl ⟨_,rfl⟩ rfl (by decide +kernel) (by decide +kernel)) rfl rfl (uR (wA (wA uT))) (ud rfl B.zip_ (zB (zA 4) (zB (zA 3) zC))) (λ_ _ _ _=>(xi rfl (zk 0 (show (["mode","shares","thing","room","behind"]:List Str).Nodup by decide +kernel) rfl (Or.inl rfl) (zk 1 (show (["mode","shares","thing","room","behind"]:List Str).Nodup by decide +kernel) rfl (Or.inl rfl) xh)))) (λ_ _ _ _=>(zP bE hr rfl (zB (zA 2) (zB (zA 0) (zB (zA 3) (zB (zA 4) (zB (zA 1) zC)))))))) zC)))))),λds R h=>?_⟩
 obtain ⟨n,bs,ms,room,behind,d,k,rfl,TS,R1,R2,f,sb,q⟩:=h
 have m40:=TS.ok.m40
 have lm:(List.map (xo ae) ms).length=ms.length:=List.length_map ..
 refine ⟨rfl,by decide +kernel,n,bs,ms,rfl,?_⟩
 refine ⟨d,_,k,rfl,f,w2 (λc1=>bR q ?_) λc1=>?_⟩
 ·rw [lm] at c1
  exact zMF (je c1)
 rw [lm] at c1
 obtain ⟨as,rfl,la⟩:=Zz (jf c1)
 obtain ⟨es,e1,le,j,rfl,hj⟩:=f.lst_inv rfl
 cases e1
 have sb:=sb as rfl
 refine Z4 (xo ae) xJ (Zw _) (λm a=>gQ n bs room behind m a) (by omega) (λm a hm=>?_) ⟨_,rfl,bR q ?_⟩
 ·have h1:=(List.of_mem_zip hm).1
  have h2:=(List.of_mem_zip hm).2
  exact ⟨n,bs,ms,m,room,behind,a,j,rfl,TS,TS.ok.mok m h1,TS.ms m h1,R1,R2,hj a h2,sb a h2,rfl⟩
 ·show (decide _ && _)=_
  rw [decide_eq_true la,vd]
  rfl
end
section
variable {P:Program} {w:World} {K:PySem.W.Frag} {mg:Str->Option Value} {base:Heap}
abbrev JZ:Stmt:=jw (zm 43) 0
theorem zEu:ze ["self","start","goal","turns"] ["self","start","goal","turns"] (zK JZ):=.a
abbrev Ja:Stmt:=jw (zm 55) 0
theorem zEt:ze ["self","room","starts","steps","measure","step","top","falls","floors","tops"] ["self","room","starts","steps","measure","step","top","falls","floors","tops"] (zK Ja):=.a
abbrev Jb:Stmt:=zm 60
theorem zG9:ze ["claim","many"] ["claim","many"] (zK Jb):=.a
abbrev Jc:Stmt:=zm 68
theorem zEr:ze ["measure","top"] ["measure","top"] (zK Jc):=.a
abbrev X7:Stmt:=zm 69
theorem zD6:ze ["measure"] ["measure"] (zK X7):=.a
abbrev Jd:Stmt:=zm 70
theorem Je:ze ["thing","mode","measure","step","ahead","less"] ["thing","mode","measure","step"] (zK Jd):=.a
abbrev X8:Stmt:=zm 71
theorem zD4:ze ["claim","paper","target"] ["claim","paper"] (zK X8):=.a
variable {ae ag aClaim aSettles aComes aPaper aRooms aFalls:Addr} (aa:zE K mg "Mode" ae) (ab:wz K ae) (ac:zE K mg "Thing" ag) (af:w4 K ag) (TClaim:zE K mg "Claim" aClaim) (AClaim:w6 K aClaim) (TSettles:zE K mg "Settles" aSettles) (ASettles:w8 K aSettles) (TComes:zE K mg "Comes" aComes) (AComes:vA K aComes) (TPaper:zE K mg "Paper" aPaper) (APaper:vB K aPaper) (TRooms:zE K mg "Rooms" aRooms) (ARooms:vC K aRooms) (TFalls:zE K mg "Falls" aFalls) (AFalls:vD K aFalls) (Y:yu K aComes aSettles)
include aa ab ac af TClaim AClaim TSettles ASettles TComes AComes TPaper APaper TRooms ARooms TFalls AFalls Y
theorem zE8 {k:Nat} {f:Addr} {fd:FuncData} (F:zf K "__init__" "Comes.__init__" JZ f fd) (B:Bl mg) (ah:vX P w K mg base "copied" ["value","depth"] k (zI (qS 5)) (.int 5)):zH P w K mg base zZ (k + 1) f fd ["self","start","goal","turns"] (wl aComes (zMj aComes)):=by
 refine Xg F zEu (λds R h=>by obtain ⟨s,g,t,rfl,_⟩:=h; rfl) λcdv A outer s H E hr=>⟨_,(zJ (yC (xr (yT 0) (vR (.int 5) (λ_=>.int 5) ah hr rfl (zB (zA 1) zC)) rfl) wB)
  (zJ (yC (xr (yT 0) (vR (.int 5) (λ_=>.int 5) ah hr rfl (zB (zA 2) zC)) rfl) wB)
  (zO (yC (xr (yT 0) (zA 3) rfl) wB)))),λo ds R h=>?_⟩
 obtain ⟨s,g,t,rfl,f1,f2,q⟩:=h
 refine ⟨s,5,rfl,f1,⟨TComes.cl,AComes.n_start⟩,by decide +kernel,by decide,rfl,?_⟩
 refine ⟨g,5,rfl,f2,⟨TComes.cl,AComes.n_goal⟩,by decide +kernel,by decide,rfl,?_⟩
 exact ⟨⟨TComes.cl,AComes.n_turns⟩,by decide +kernel,by decide,rfl,rfl,q⟩
theorem zE7 {k:Nat} {f:Addr} {fd:FuncData} (F:zf K "__init__" "Falls.__init__" Ja f fd) (B:Bl mg) (ah:vX P w K mg base "copied" ["value","depth"] k (zI (qS 5)) (.int 5)):zH P w K mg base zZ (k + 1) f fd ["self","room","starts","steps","measure","step","top","falls","floors","tops"] (wl aFalls (zMh aFalls)):=by
 refine Xg F zEt (λds R h=>by obtain ⟨a,b,c,d,e,f,g,h,i,rfl,_⟩:=h; rfl) λcdv A outer s H E hr=>⟨_,(zJ (yC (xr (yT 0) (vR (.int 5) (λ_=>.int 5) ah hr rfl (zB (zA 1) zC)) rfl) wB)
  (zJ (yC (xr (yT 0) (vR (.int 5) (λ_=>.int 5) ah hr rfl (zB (zA 2) zC)) rfl) wB)
  (zJ (yC (xr (yT 0) (vR (.int 5) (λ_=>.int 5) ah hr rfl (zB (zA 3) zC)) rfl) wB)
  (zJ (yC (xr (yT 0) (vR (.int 5) (λ_=>.int 5) ah hr rfl (zB (zA 4) zC)) rfl) wB)
  (zJ (yC (xr (yT 0) (zA 5) rfl) wB)
  (zJ (yC (xr (yT 0) (zA 6) rfl) wB)
  (zJ (yC (xr (yT 0) (vR (.int 5) (λ_=>.int 5) ah hr rfl (zB (zA 7) zC)) rfl) wB)
  (zJ (yC (xr (yT 0) (vR (.int 5) (λ_=>.int 5) ah hr rfl (zB (zA 8) zC)) rfl) wB)
  (zO (yC (xr (yT 0) (vR (.int 5) (λ_=>.int 5) ah hr rfl (zB (zA 9) zC)) rfl) wB)))))))))),λo ds R h=>?_⟩
 obtain ⟨a,b,c,d,e,f,g,h,i,rfl,f1,f2,f3,f4,f7,f8,f9,q⟩:=h
 refine ⟨a,5,rfl,f1,⟨TFalls.cl,AFalls.n_room⟩,by decide +kernel,by decide,rfl,?_⟩
 refine ⟨b,5,rfl,f2,⟨TFalls.cl,AFalls.n_starts⟩,by decide +kernel,by decide,rfl,?_⟩
 refine ⟨c,5,rfl,f3,⟨TFalls.cl,AFalls.n_steps⟩,by decide +kernel,by decide,rfl,?_⟩
 refine ⟨d,5,rfl,f4,⟨TFalls.cl,AFalls.n_measure⟩,by decide +kernel,by decide,rfl,?_⟩
 refine ⟨⟨TFalls.cl,AFalls.n_step⟩,by decide +kernel,by decide,rfl,?_⟩
 refine ⟨⟨TFalls.cl,AFalls.n_top⟩,by decide +kernel,by decide,rfl,?_⟩
 refine ⟨g,5,rfl,f7,⟨TFalls.cl,AFalls.n_falls⟩,by decide +kernel,by decide,rfl,?_⟩
 refine ⟨h,5,rfl,f8,⟨TFalls.cl,AFalls.n_floors⟩,by decide +kernel,by decide,rfl,?_⟩
 exact ⟨i,5,rfl,f9,⟨TFalls.cl,AFalls.n_tops⟩,by decide +kernel,by decide,rfl,rfl,q⟩
theorem zHe {k:Nat} {f:Addr} {fd:FuncData} (F:zf K "comes_over" "comes_over" Jb f fd) (B:Bl mg) (aG:Fn P w K mg base "is_from_0_on" ["value"] k (zI (JR))) (au:Fn P w K mg base "is_room" ["value","many"] k (zI (Xi))):zH P w K mg base zZ (k + 1) f fd ["claim","many"] (zI (zGn aComes)):=by
 refine zu F zG9 (λds R h=>by obtain ⟨s,g,t,n,rfl,_⟩:=h; rfl) λcdv A outer s H E hr=>⟨_,(zO (zV (wQ (zP au hr rfl (zB (zo K (zA 0) rfl) (zB (zA 1) zC))) (wQ (zP au hr rfl (zB (zo K (zA 0) rfl) (zB (zA 1) zC))) (vb (zP aG hr rfl (zB (zo K (zA 0) rfl) zC))))))),λds R h=>?_⟩
 obtain ⟨s,g,t,n,rfl,n3,RS,RG,t0,q⟩:=h
 refine ⟨⟨TComes.cl,AComes.n_start⟩,_,rfl,_,_,3,rfl,jc (by have:=RS.few; omega) (λr hr=>by rw [(RS.row r hr).1]; omega),wT (by rw [Xw λr hr=>by rw [(RS.row r hr).1]; rfl]) ?_⟩
 refine ⟨⟨TComes.cl,AComes.n_goal⟩,_,rfl,_,_,3,rfl,jc (by have:=RG.few; omega) (λr hr=>by rw [(RG.row r hr).1]; omega),wT (by rw [Xw λr hr=>by rw [(RG.row r hr).1]; rfl]) ?_⟩
 exact ⟨⟨TComes.cl,AComes.n_turns⟩,_,rfl,_,rfl,rfl,bR q (decide_eq_true t0).symm⟩
theorem zE5 {k:Nat} {f:Addr} {fd:FuncData} (F:zf K "height_at_most" "height_at_most" Jc f fd) (B:Bl mg):zH P w K mg base zZ (k + 1) f fd ["measure","top"] (zI (Z7)):=by
 refine zu F zEr (λds R h=>by obtain ⟨ws,b,tp,rfl,_⟩:=h; rfl) λcdv A outer s H E hr=>⟨_,(zO (zV (zX (yt (zA 0) y8 (yh (y6 zD))) (xb (zB (wI (zA 1) (zT (zA 0) (y6 zD) (λ_ _=>rfl))) zC))))),λds R h=>?_⟩
 obtain ⟨ws,b,tp,rfl,l1,q⟩:=h
 refine ⟨_,qc _ _,k0,by rw [uE,List.length_map]; show _ + 1<=1000; omega,?_⟩
 rw [uE]
 unfold U at q
 rw [List.map_append] at q
 exact q
theorem zEE {k:Nat} {f:Addr} {fd:FuncData} (F:zf K "height_from_0_on" "height_from_0_on" X7 f fd) (B:Bl mg):zH P w K mg base zZ (k + 1) f fd ["measure"] (zI (zOq)):=by
 refine zu F zD6 (λds R h=>by obtain ⟨ws,b,rfl,_⟩:=h; rfl) λcdv A outer s H E hr=>⟨_,(zO (zV (zX (xI wd wg rfl B.tuple_ xk (zB (yI (own:=["number"]) (caps:=[]) (zz (S:=zK X7) (N:=["measure"]) rfl (by decide +kernel) rfl ⟨0,rfl⟩ rfl (by decide +kernel) (by decide +kernel)) rfl rfl yJ (yy (yt (zA 0) y8 (yh (y6 zD)))) (λ_ _ _ _=>(zy 0 (show (["number"]:List Str).Nodup by decide +kernel) rfl (Or.inl rfl))) (λ_ _ _ _=>(y6 (zA 0)))) zC)) (xb (zB (zT (zA 0) (y6 zD) (λ_ _=>rfl)) zC))))),λds R h=>?_⟩
 obtain ⟨ws,b,rfl,l1,q⟩:=h
 refine zl.cast (uE _ _) (zl.int (λx=>-x) (by omega) (λx hx=>rfl) ⟨_,qc _ _,k0,by rw [List.length_map,List.length_map]; show _ + 1<=1000; omega,?_⟩)
 unfold U at q
 rw [List.map_append] at q
 exact q
theorem zJA {k:Nat} {f:Addr} {fd:FuncData} (F:zf K "fall_row" "fall_row" Jd f fd) (B:Bl mg) (aL:Fn P w K mg base "reach" ["thing","mode","row"] k (zI (JQ ag ae))) (bF:Fn P w K mg base "mixed" ["factor","numbers","other_factor","others"] k (zI (zOn))):zH P w K mg base zZ (k + 1) f fd ["thing","mode","measure","step"] (zI (zKE ag ae)):=by
 refine zu F Je (λds R h=>by obtain ⟨n,bs,ms,m,ws,b,st,rfl,_⟩:=h; rfl) λcdv A outer s H E hr=>⟨_,(zJ (zp 4 Je.nd rfl (Or.inl rfl) (zP aL hr rfl (zB (zA 0) (zB (zA 1) (zB (zX (yt (zA 2) y8 (yh (y6 zD))) (xb (zB zD zC))) zC)))))
  (zJ (zp 5 Je.nd rfl (Or.inl rfl) (zP bF hr rfl (zB zD (zB (yt (zA 4) y8 (yh (zo K (zA 0) rfl))) (zB (y6 (zo K (zA 1) rfl)) (zB (yt (zA 2) y8 (yh (y6 zD))) zC))))))
  (zO (zV (zX (zX (xI wd wg rfl B.tuple_ xk (zB (zA 5) zC)) (yt (zA 4) (yh (zo K (zA 0) rfl)) (yh (y6 zD)))) (xb (zB (wI (zT (zA 4) (y6 zD) (λ_ _=>rfl)) (yH (zo K (zA 1) rfl) (zA 3))) zC))))))),λds R h=>?_⟩
 obtain ⟨n,bs,ms,m,ws,b,st,rfl,TS,MO,MSm,lw,bw,bst,q⟩:=h
 have n3:=TS.ok.n3
 have b6:=TS.ok.b6
 have e0:(ws++[(0:Int)]).take n=ws:=by rw [List.take_append_of_le_length (by omega),List.take_of_length_le (by omega)]
 have e00:(ws++[(0:Int)]).getD n 0=0:=by rw [List.getD_eq_getElem?_getD,List.getElem?_append_right (by omega),lw,Nat.sub_self]; rfl
 refine ⟨k0,by rw [uE,List.length_map]; show _ + 1<=1000; omega,n,bs,ms,m,ws++[0],by rw [uE,U,List.map_append]; rfl,n3,b6,MO,MSm.mbd,by rw [List.length_append,lw]; rfl,λx hx=>?_,?_⟩
 ·rcases List.mem_append.mp hx with hx | hx
  ·exact (bw x hx).mono
  ·rw [List.mem_singleton.mp hx]; exact xc
 rw [e0,e00]
 have lR:(yp n bs.length ws 0 m).length=n + bs.length + 1:=qX ..
 have bR:=JN (n:=n) (p:=bs.length) (b:=0) MSm (by omega) (λx hx=>(bw x hx).mono (show 300<=301 by decide)) xc
 have c1:zh ((yp n bs.length ws 0 m).map D.int) none (some (n:Int))=((yp n bs.length ws 0 m).take n).map D.int:=by
  unfold zh
  rw [HT.sIx_none,HT.sIx_nat,List.drop_zero,Nat.sub_zero,List.length_map,lR,Nat.min_eq_left (by omega),List.map_take]
 have c2:zh ((yp n bs.length ws 0 m).map D.int) (some (n:Int)) (some (-1))=(((yp n bs.length ws 0 m).drop n).take bs.length).map D.int:=by
  unfold zh
  have e2:HT.sIx (n + bs.length + 1) (n + bs.length + 1) (some (-1))=n + bs.length:=by
   show (if (-1:Int) < 0 then ((-1:Int) + ((n + bs.length + 1:Nat):Int)).toNat else min (-1:Int).toNat (n + bs.length + 1))=n + bs.length
   rw [if_pos (by decide)]
   omega
  rw [HT.sIx_nat,List.length_map,lR,e2,Nat.min_eq_left (by omega),show n + bs.length - n=bs.length by omega,List.map_take,List.map_drop]
 have eP:((yp n bs.length ws 0 m).drop n).take bs.length=(List.range bs.length).map (zL ws m.push):=by
  have lN:((List.range n).map (zL ws m.nexts)).length=n:=by rw [List.length_map,List.length_range]
  unfold yp
  rw [List.append_assoc,List.drop_append_of_le_length (by omega),List.drop_eq_nil_of_le (by omega),List.nil_append,List.take_append_of_le_length (by rw [List.length_map,List.length_range]; omega),List.take_of_length_le (by rw [List.length_map,List.length_range]; omega)]
 have eB:(yp n bs.length ws 0 m).getD (n + bs.length) 0=m.div * 0 - zN ws m.add:=by
  unfold yp
  rw [List.getD_eq_getElem?_getD,List.getElem?_append_right (by rw [List.length_append,List.length_map,List.length_map,List.length_range,List.length_range]; omega),List.length_append,List.length_map,List.length_map,List.length_range,List.length_range,Nat.sub_self]
  rfl
 refine ⟨⟨ac.cl,af.n_many⟩,_,rfl,⟨aa.cl,ab.n_divisor⟩,_,rfl,1,-m.div,_,_,_,ws,rfl,.inr (by rw [c1]),.inr (by rw [uE]),by rw [List.length_take]; omega,(Bd.lit (i:=1) (n:=1)).mono,MSm.div.neg.mono,λx hx=>(bR x (List.mem_of_mem_take hx)).mono,λx hx=>(bw x hx).mono,?_⟩
 have lX:(xF 1 (-m.div) ((yp n bs.length ws 0 m).take n) ws).length=n:=by
  unfold xF
  rw [List.length_map,List.length_zip,List.length_take]
  omega
 refine ⟨⟨ac.cl,af.n_many⟩,_,rfl,by rw [c2,List.length_map,List.length_map,lX,List.length_take]; omega,?_⟩
 refine ⟨_,qZ lR,⟨aa.cl,ab.n_divisor⟩,_,rfl,MSm.div.mono,bst.mono,k0,by rw [c2,List.length_append,List.length_map,List.length_map,lX,List.length_take]; show _ + 1<=1000; omega,?_⟩
 rw [c2,eP,eB]
 unfold ve U at q
 rw [List.map_append,List.map_append] at q
 exact q
theorem zGV {k:Nat} {f:Addr} {fd:FuncData} (F:zf K "floors_hold" "floors_hold" X8 f fd) (B:Bl mg) (ao:Fn P w K mg base "is_list_of" ["value","count"] k (zI (gW))) (bG:Fn P w K mg base "height_from_0_on" ["measure"] k (zI (zOq))) (aq:Fn P w K mg base "shows" ["rows","target","shares"] k (zI (Z5))) (aN:Fn P w K mg base "other_side" ["row"] k (zI (U8))):zH P w K mg base zZ (k + 1) f fd ["claim","paper"] (zI (zMg aComes aFalls)):=by
 refine zu F zD4 (λds R h=>by obtain ⟨s,g,t,room,A1,A2,ws,b,st,tp,A6,A7,A8,n,k,rfl,_⟩:=h; rfl) λcdv A outer s H E hr=>⟨_,(zJ (yE (xA (yY (zP ao hr rfl (zB (zo K (zA 1) rfl) (zB (zq yV yZ rfl B.len_ yW (zB (zo K (zA 0) rfl) zC)) zC))))) (zO (zV xZ)) yD)
  (zJ (zp 2 zD4.nd rfl (Or.inr rfl) (zP bG hr rfl (zB (zo K (zA 1) rfl) zC)))
  (zO (zV (zq (vK rfl) vQ rfl B.all_ vM (zB (yI (own:=["row","shares"]) (caps:=[(1,"paper"),(2,"target")]) (zz (S:=zK X8) (N:=["claim","paper","target"]) rfl (by decide +kernel) rfl ⟨_,rfl⟩ rfl (by decide +kernel) (by decide +kernel)) rfl rfl (uR (wA (wA uT))) (ud rfl B.zip_ (zB (zo K (zA 0) rfl) (zB (zo K (zA 1) rfl) zC))) (λ_ _ _ _=>(xi rfl (zk 0 (show (["row","shares","paper","target"]:List Str).Nodup by decide +kernel) rfl (Or.inl rfl) (zk 1 (show (["row","shares","paper","target"]:List Str).Nodup by decide +kernel) rfl (Or.inl rfl) xh)))) (λ_ _ _ _=>(zP aq hr rfl (zB (zX (zo K (zA 2) rfl) (yO (zB (zP aN hr rfl (zB (zA 0) zC)) zC))) (zB (zA 3) (zB (zA 1) zC)))))) zC)))))),λds R h=>?_⟩
 obtain ⟨s,g,t,room,A1,A2,ws,b,st,tp,A6,A7,A8,n,k,rfl,PS,RG,n3,f,sb,q⟩:=h
 have lg:(List.map U g).length=g.length:=List.length_map ..
 have fg:=RG.few
 have fr:=PS.rm.few
 have lw:=PS.lw
 refine ⟨⟨TFalls.cl,AFalls.n_floors⟩,_,rfl,⟨TComes.cl,AComes.n_goal⟩,_,rfl,A7,_,k,rfl,f,w2 (λc1=>bR q ?_) λc1=>?_⟩
 ·rw [lg] at c1
  exact zK5 (je c1)
 rw [lg] at c1
 obtain ⟨as,rfl,la⟩:=Zz (jf c1)
 obtain ⟨es,e1,le,j,rfl,hj⟩:=f.lst_inv rfl
 cases e1
 have sb:=sb as rfl
 refine ⟨⟨TFalls.cl,AFalls.n_measure⟩,_,rfl,ws,b,rfl,by omega,?_⟩
 refine ⟨⟨TComes.cl,AComes.n_goal⟩,_,rfl,⟨TFalls.cl,AFalls.n_floors⟩,_,rfl,?_⟩
 refine Z4 U zv u5 (λr a=>xX (room++[zw r]) (ws.map (λx=>-x)++[b]) n a) (by omega) (λr a hm=>?_) ⟨_,rfl,bR q ?_⟩
 ·have h1:=(List.of_mem_zip hm).1
  have h2:=(List.of_mem_zip hm).2
  refine ⟨⟨TFalls.cl,AFalls.n_room⟩,_,rfl,_,r,rfl,.inr rfl,by rw [(RG.row r h1).1]; omega,k0,by rw [List.length_map]; show _ + 1<=1000; omega,room++[zw r],_,n,a,j,by rw [<- X1]; rfl,by rw [List.length_append,List.length_map,lw]; rfl,λx hx=>?_,⟨λy hy=>?_,by rw [List.length_append]; show _ + 1<=500; omega,by omega⟩,hj a h2,sb a h2,rfl⟩
  ·rcases List.mem_append.mp hx with hx | hx
   ·obtain ⟨z,hz,rfl⟩:=List.mem_map.mp hx
    exact (PS.bw z hz).neg.mono
   ·rw [List.mem_singleton.mp hx]; exact PS.bb.mono
  ·rcases List.mem_append.mp hy with hy | hy
   ·exact ⟨(PS.rm.row y hy).1,λx hx=>((PS.rm.row y hy).2 x hx).mono⟩
   ·rw [List.mem_singleton.mp hy]
    have:=zL9 (RG.row r h1)
    exact ⟨this.1,λx hx=>(this.2 x hx).mono⟩
 ·show (decide _ && _)=_
  rw [decide_eq_true la,vd]
  rfl
end
section
variable {P:Program} {w:World} {K:PySem.W.Frag} {mg:Str->Option Value} {base:Heap}
abbrev X9:Stmt:=zm 73
theorem Jf:ze ["thing","mode","claim","paper","shares","target","rows"] ["thing","mode","claim","paper","shares"] (zK X9):=.a
abbrev WA:Stmt:=zm 72
theorem zEY:ze ["thing","claim","paper","modes"] ["thing","claim","paper"] (zK WA):=.a
abbrev Jg:Stmt:=zm 67
theorem zFq:ze ["thing","claim","paper"] ["thing","claim","paper"] (zK Jg):=.a
abbrev Jh:Stmt:=zm 56
theorem zKg:ze ["thing","claim","paper"] ["thing","claim","paper"] (zK Jh):=.a
variable {ae ag aClaim aSettles aComes aPaper aRooms aFalls:Addr} (aa:zE K mg "Mode" ae) (ab:wz K ae) (ac:zE K mg "Thing" ag) (af:w4 K ag) (TClaim:zE K mg "Claim" aClaim) (AClaim:w6 K aClaim) (TSettles:zE K mg "Settles" aSettles) (ASettles:w8 K aSettles) (TComes:zE K mg "Comes" aComes) (AComes:vA K aComes) (TPaper:zE K mg "Paper" aPaper) (APaper:vB K aPaper) (TRooms:zE K mg "Rooms" aRooms) (ARooms:vC K aRooms) (TFalls:zE K mg "Falls" aFalls) (AFalls:vD K aFalls) (Y:yu K aComes aSettles)
include aa ab ac af TClaim AClaim TSettles ASettles TComes AComes TPaper APaper TRooms ARooms TFalls AFalls Y
theorem zHZ {k:Nat} {f:Addr} {fd:FuncData} (F:zf K "mode_falls" "mode_falls" X9 f fd) (B:Bl mg) (ao:Fn P w K mg base "is_list_of" ["value","count"] k (zI (gW))) (bH:Fn P w K mg base "fall_row" ["thing","mode","measure","step"] k (zI (zKE ag ae))) (aq:Fn P w K mg base "shows" ["rows","target","shares"] k (zI (Z5))) (aM:Fn P w K mg base "standing" ["thing","rows"] k (zI (JP ag ae))) (aN:Fn P w K mg base "other_side" ["row"] k (zI (U8))):zH P w K mg base zZ (k + 1) f fd ["thing","mode","claim","paper","shares"] (zI (zMZ ag ae aComes aFalls)):=by
 refine zu F Jf (λds R h=>by obtain ⟨n,bs,ms,m,s,g,t,room,A1,A2,ws,b,st,tp,A6,A7,A8,d,k,rfl,_⟩:=h; rfl) λcdv A outer s H E hr=>⟨_,(zJ (yE (xA (yY (zP ao hr rfl (zB (zA 4) (zB (zq yV yZ rfl B.len_ yW (zB (zo K (zA 2) rfl) zC)) zC))))) (zO (zV xZ)) yD)
  (zJ (zp 5 Jf.nd rfl (Or.inr rfl) (zP bH hr rfl (zB (zA 0) (zB (zA 1) (zB (zo K (zA 3) rfl) (zB (zo K (zA 3) rfl) zC))))))
  (zJ (zp 6 Jf.nd rfl (Or.inr rfl) (zX (zo K (zA 3) rfl) (zo K (zA 1) rfl)))
  (zO (zV (zq (vK rfl) vQ rfl B.all_ vM (zB (yI (own:=["row","part"]) (caps:=[(0,"thing"),(5,"target"),(6,"rows")]) (zz (S:=zK X9) (N:=["thing","mode","claim","paper","shares","target","rows"]) rfl (by decide +kernel) rfl ⟨_,rfl⟩ rfl (by decide +kernel) (by decide +kernel)) rfl rfl (uR (wA (wA uT))) (ud rfl B.zip_ (zB (zo K (zA 2) rfl) (zB (zA 4) zC))) (λ_ _ _ _=>(xi rfl (zk 0 (show (["row","part","thing","target","rows"]:List Str).Nodup by decide +kernel) rfl (Or.inl rfl) (zk 1 (show (["row","part","thing","target","rows"]:List Str).Nodup by decide +kernel) rfl (Or.inl rfl) xh)))) (λ_ _ _ _=>(zP aq hr rfl (zB (zP aM hr rfl (zB (zA 2) (zB (zX (zA 4) (yO (zB (zP aN hr rfl (zB (zA 0) zC)) zC))) zC))) (zB (zA 3) (zB (zA 1) zC)))))) zC))))))),λds R h=>?_⟩
 obtain ⟨n,bs,ms,m,s,g,t,room,A1,A2,ws,b,st,tp,A6,A7,A8,d,k,rfl,TS,MO,MSm,PS,RG,f,sb,q⟩:=h
 have lg:(List.map U g).length=g.length:=List.length_map ..
 have fg:=RG.few
 have fr:=PS.rm.few
 have fm:=MSm.few
 have lw:=PS.lw
 have n3:=TS.ok.n3
 have b6:=TS.ok.b6
 refine ⟨⟨TComes.cl,AComes.n_goal⟩,_,rfl,d,_,k,rfl,f,w2 (λc1=>bR q ?_) λc1=>?_⟩
 ·rw [lg] at c1
  exact zKx (je c1)
 rw [lg] at c1
 obtain ⟨as,rfl,la⟩:=Zz (jf c1)
 obtain ⟨es,e1,le,j,rfl,hj⟩:=f.lst_inv rfl
 cases e1
 have sb:=sb as rfl
 have FO:=zPg (n:=n) (p:=bs.length) MSm lw n3 PS.bw PS.st
 refine ⟨⟨TFalls.cl,AFalls.n_measure⟩,_,rfl,⟨TFalls.cl,AFalls.n_step⟩,_,rfl,n,bs,ms,m,ws,b,st,rfl,TS,MO,MSm,lw,PS.bw,PS.st,?_⟩
 refine ⟨⟨TFalls.cl,AFalls.n_room⟩,_,rfl,⟨aa.cl,ab.n_rows⟩,_,rfl,by rw [List.length_map,List.length_map]; omega,?_⟩
 rw [X1]
 refine ⟨⟨TComes.cl,AComes.n_goal⟩,_,rfl,?_⟩
 refine Z4 U zv u5 (λr a=>xX (vp n bs (room++m.rows++[zw r])) (ve n bs.length ws st m) (n + bs.length) a) (by omega) (λr a hm=>?_) ⟨_,rfl,bR q ?_⟩
 ·have h1:=(List.of_mem_zip hm).1
  have h2:=(List.of_mem_zip hm).2
  have hR:∀ y∈room++m.rows++[zw r],y.length=n + 1/\∀ x∈y,Bd 1000 x:=λy hy=>by
   rcases List.mem_append.mp hy with hy | hy
   ·rcases List.mem_append.mp hy with hy | hy
    ·exact ⟨(PS.rm.row y hy).1,λx hx=>((PS.rm.row y hy).2 x hx).mono⟩
    ·exact ⟨MO.rows y hy,λx hx=>(MSm.rows y hy x hx).mono⟩
   ·rw [List.mem_singleton.mp hy]
    have:=zL9 (RG.row r h1)
    exact ⟨this.1,λx hx=>(this.2 x hx).mono⟩
  have lR:(room++m.rows++[zw r]).length<=400:=by
   rw [List.length_append,List.length_append]
   show _ + 1<=400
   omega
  exact ⟨_,r,rfl,.inr rfl,by rw [(RG.row r h1).1]; omega,k0,by rw [List.length_map,List.length_append]; show _ + 1<=1000; omega,n,bs,ms,room++m.rows++[zw r],by rw [<- X1]; rfl,n3,b6,λy hy=>(hR y hy).1,by omega,_,_,n + bs.length,a,j,rfl,FO.1,FO.2,zJg hR lR n3 b6 TS.bs,hj a h2,sb a h2,rfl⟩
 ·show (decide _ && _)=_
  rw [decide_eq_true la,vd]
  rfl
theorem zHc {k:Nat} {f:Addr} {fd:FuncData} (F:zf K "falls_hold" "falls_hold" WA f fd) (B:Bl mg) (aB:vn P w K mg base ag "modes" ["self"] k (zI (Xy ag ae))) (ao:Fn P w K mg base "is_list_of" ["value","count"] k (zI (gW))) (bI:Fn P w K mg base "mode_falls" ["thing","mode","claim","paper","shares"] k (zI (zMZ ag ae aComes aFalls))):zH P w K mg base zZ (k + 1) f fd ["thing","claim","paper"] (zI (zMi ag ae aComes aFalls)):=by
 refine zu F zEY (λds R h=>by obtain ⟨n,bs,ms,s,g,t,room,A1,A2,ws,b,st,tp,A6,A7,A8,k,rfl,_⟩:=h; rfl) λcdv A outer s H E hr=>⟨_,(zJ (zp 3 zEY.nd rfl (Or.inl rfl) (jY aB ac hr (zA 0)))
  (zJ (yE (xA (yY (zP ao hr rfl (zB (zo K (zA 2) rfl) (zB (zq yV yZ rfl B.len_ yW (zB (zA 3) zC)) zC))))) (zO (zV xZ)) yD)
  (zO (zV (zq (vK rfl) vQ rfl B.all_ vM (zB (yI (own:=["mode","shares"]) (caps:=[(0,"thing"),(1,"claim"),(2,"paper")]) (zz (S:=zK WA) (N:=["thing","claim","paper","modes"]) rfl (by decide +kernel) rfl ⟨_,rfl⟩ rfl (by decide +kernel) (by decide +kernel)) rfl rfl (uR (wA (wA uT))) (ud rfl B.zip_ (zB (zA 3) (zB (zo K (zA 2) rfl) zC))) (λ_ _ _ _=>(xi rfl (zk 0 (show (["mode","shares","thing","claim","paper"]:List Str).Nodup by decide +kernel) rfl (Or.inl rfl) (zk 1 (show (["mode","shares","thing","claim","paper"]:List Str).Nodup by decide +kernel) rfl (Or.inl rfl) xh)))) (λ_ _ _ _=>(zP bI hr rfl (zB (zA 2) (zB (zA 0) (zB (zA 3) (zB (zA 4) (zB (zA 1) zC)))))))) zC)))))),λds R h=>?_⟩
 obtain ⟨n,bs,ms,s,g,t,room,A1,A2,ws,b,st,tp,A6,A7,A8,k,rfl,TS,PS,RG,f,sb,q⟩:=h
 have m40:=TS.ok.m40
 have lm:(List.map (xo ae) ms).length=ms.length:=List.length_map ..
 refine ⟨rfl,by decide +kernel,n,bs,ms,rfl,?_⟩
 refine ⟨⟨TFalls.cl,AFalls.n_falls⟩,_,rfl,A6,_,k,rfl,f,w2 (λc1=>bR q ?_) λc1=>?_⟩
 ·rw [lm] at c1
  exact zMN (je c1)
 rw [lm] at c1
 obtain ⟨as,rfl,la⟩:=Zz (jf c1)
 obtain ⟨es,e1,le,j,rfl,hj⟩:=f.lst_inv rfl
 cases e1
 have sb:=sb as rfl
 refine ⟨⟨TFalls.cl,AFalls.n_falls⟩,_,rfl,?_⟩
 refine Z4 (xo ae) xJ (Zw _) (λm a=>gT n bs room ws st g m a) (by omega) (λm a hm=>?_) ⟨_,rfl,bR q ?_⟩
 ·have h1:=(List.of_mem_zip hm).1
  have h2:=(List.of_mem_zip hm).2
  exact ⟨n,bs,ms,m,s,g,t,room,A1,A2,ws,b,st,tp,_,A7,A8,a,j,rfl,TS,TS.ok.mok m h1,TS.ms m h1,PS,RG,hj a h2,sb a h2,rfl⟩
 ·show (decide _ && _)=_
  rw [decide_eq_true la,vd]
  rfl
theorem zF3 {k:Nat} {f:Addr} {fd:FuncData} (F:zf K "lets_fall_by" "lets_fall_by" Jg f fd) (B:Bl mg) (au:Fn P w K mg base "is_room" ["value","many"] k (zI (Xi))) (bJ:Fn P w K mg base "comes_over" ["claim","many"] k (zI (zGn aComes))) (ak:Fn P w K mg base "is_whole" ["thing"] k (zI (ja))) (aI:Fn P w K mg base "is_row" ["value","many"] k (zI (qR))) (aK:Fn P w K mg base "each_shown" ["rows","targets","shares"] k (zI (JS))) (bK:Fn P w K mg base "leads" ["thing","room","behind","steps"] k (zI (zOp ag ae))) (aq:Fn P w K mg base "shows" ["rows","target","shares"] k (zI (Z5))) (bL:Fn P w K mg base "height_at_most" ["measure","top"] k (zI (Z7))) (bM:Fn P w K mg base "falls_hold" ["thing","claim","paper"] k (zI (zMi ag ae aComes aFalls))) (bN:Fn P w K mg base "floors_hold" ["claim","paper"] k (zI (zMg aComes aFalls))):zH P w K mg base zZ (k + 1) f fd ["thing","claim","paper"] (zI (zQ6 ag ae aComes aFalls)):=by
 refine zu F zFq (λds R h=>by obtain ⟨n,bs,ms,s,g,t,room,A1,A2,ws,b,st,tp,A6,A7,A8,k,rfl,_⟩:=h; rfl) λcdv A outer s H E hr=>⟨_,(zJ (yE (PW.pt (wZ (xA (yY (zP bJ hr rfl (zB (zA 1) (zB (zo K (zA 0) rfl) zC))))) (vP (xA (yY (zP au hr rfl (zB (zo K (zA 2) rfl) (zB (zo K (zA 0) rfl) zC)))))))) (zO (zV xZ)) yD)
  (zJ (yE (PW.pt (wZ (xA (yY (zP aI hr rfl (zB (zo K (zA 2) rfl) (zB (zo K (zA 0) rfl) zC))))) (wZ (xA (yY (zP ak hr rfl (zB (zo K (zA 2) rfl) zC)))) (vP (xA (yY (zP ak hr rfl (zB (zo K (zA 2) rfl) zC)))))))) (zO (zV xZ)) yD)
  (zJ (yE (PW.pt (wZ (Ua (zo K (zA 2) rfl) zD) (vP (zOW (yH (zo K (zA 1) rfl) (zo K (zA 2) rfl)) (zo K (zA 2) rfl))))) (zO (zV xZ)) yD)
  (zJ (yE (xA (yY (zP aK hr rfl (zB (zo K (zA 1) rfl) (zB (zo K (zA 2) rfl) (zB (zo K (zA 2) rfl) zC)))))) (zO (zV xZ)) yD)
  (zJ (yE (xA (yY (zP bK hr rfl (zB (zA 0) (zB (zo K (zA 2) rfl) (zB (zo K (zA 2) rfl) (zB (zo K (zA 2) rfl) zC))))))) (zO (zV xZ)) yD)
  (zJ (yE (xA (yY (zP aq hr rfl (zB (zo K (zA 1) rfl) (zB (zP bL hr rfl (zB (zo K (zA 2) rfl) (zB (zo K (zA 2) rfl) zC))) (zB (zo K (zA 2) rfl) zC)))))) (zO (zV xZ)) yD)
  (zO (zV (wQ (zP bN hr rfl (zB (zA 1) (zB (zA 2) zC))) (vb (zP bM hr rfl (zB (zA 0) (zB (zA 1) (zB (zA 2) zC)))))))))))))),λds R h=>?_⟩
 obtain ⟨n,bs,ms,s,g,t,room,A1,A2,ws,b,st,tp,A6,A7,A8,k,rfl,TS,PS,RG,RS,t0,bt,F1,F2,F6,F7,F8,B1,B2,B6,B7,B8,q⟩:=h
 have n3:=TS.ok.n3
 have lw:=PS.lw
 refine ⟨⟨ac.cl,af.n_many⟩,_,rfl,s,g,t,n,rfl,n3,RS,RG,t0,wF rfl ?_⟩
 refine ⟨⟨TFalls.cl,AFalls.n_room⟩,_,rfl,⟨ac.cl,af.n_many⟩,_,rfl,_,_,3,rfl,jc (by have:=PS.rm.few; omega) (λr hr=>by rw [(PS.rm.row r hr).1]; omega),wF (by rw [Xw λr hr=>by rw [(PS.rm.row r hr).1]; rfl]; rfl) ?_⟩
 refine ⟨⟨TFalls.cl,AFalls.n_measure⟩,_,rfl,⟨ac.cl,af.n_many⟩,_,rfl,_,_,2,rfl,qU (by rw [List.length_append]; show _ + 1<=900; omega),wF (by rw [zOU (by rw [List.length_append,lw]; rfl)]; rfl) ?_⟩
 refine ⟨⟨TFalls.cl,AFalls.n_step⟩,_,rfl,_,rfl,rfl,wF rfl ?_⟩
 refine ⟨⟨TFalls.cl,AFalls.n_top⟩,_,rfl,_,rfl,rfl,wF rfl ?_⟩
 refine ⟨⟨TFalls.cl,AFalls.n_step⟩,_,rfl,w2 (λc1=>wT rfl (bR q (if_pos (.inl (of_decide_eq_true c1))))) λc1=>?_⟩
 refine ⟨⟨TComes.cl,AComes.n_turns⟩,_,rfl,⟨TFalls.cl,AFalls.n_step⟩,_,rfl,bt.mono,PS.st.mono,⟨TFalls.cl,AFalls.n_top⟩,_,rfl,w2 (λc2=>bR q (if_pos (.inr (of_decide_eq_true c2)))) λc2=>?_⟩
 have z:vT n bs ms s g t room ws b st tp A1 A2 A6 A7 A8=(u6 s room n A1 && (gR n bs ms room room A2 && (xX s (ws++[tp - b]) n A8 && (gS n room ws b g A7 && gU n bs ms room ws st g A6)))):=if_neg (λh=>h.elim (of_decide_eq_false c1) (of_decide_eq_false c2))
 rw [z] at q
 clear z
 refine ⟨⟨TComes.cl,AComes.n_start⟩,_,rfl,⟨TFalls.cl,AFalls.n_room⟩,_,rfl,⟨TFalls.cl,AFalls.n_starts⟩,_,rfl,s,room,n,A1,k,rfl,RS.rw n3,PS.rm.rw n3,F1,B1,w2 (λc3=>bR q (by rw [je c3]; rfl)) λc3=>?_⟩
 rw [jf c3] at q
 refine ⟨⟨TFalls.cl,AFalls.n_room⟩,_,rfl,⟨TFalls.cl,AFalls.n_room⟩,_,rfl,⟨TFalls.cl,AFalls.n_steps⟩,_,rfl,n,bs,ms,room,room,A2,k,rfl,TS,PS.rm,PS.rm,F2,B2,w2 (λc4=>bR q (by rw [je c4]; rfl)) λc4=>?_⟩
 rw [jf c4] at q
 refine ⟨⟨TComes.cl,AComes.n_start⟩,_,rfl,⟨TFalls.cl,AFalls.n_measure⟩,_,rfl,⟨TFalls.cl,AFalls.n_top⟩,_,rfl,ws,b,tp,rfl,by omega,?_⟩
 refine ⟨⟨TFalls.cl,AFalls.n_tops⟩,_,rfl,s,ws++[tp - b],n,A8,k,rfl,by rw [List.length_append,lw]; rfl,λx hx=>?_,RS.rw n3,F8,B8,w2 (λc5=>bR q (by rw [je c5]; rfl)) λc5=>?_⟩
 ·rcases List.mem_append.mp hx with hx | hx
  ·exact (PS.bw x hx).mono
  ·rw [List.mem_singleton.mp hx]
   exact (PS.tp.sub PS.bb).mono
 rw [jf c5] at q
 refine ⟨s,g,t,room,A1,A2,ws,b,st,tp,A6,A7,A8,n,k,rfl,PS,RG,n3,F7,B7,w2 (λc6=>?_) λc6=>bR q (by rw [c6]; rfl)⟩
 rw [c6] at q
 exact ⟨n,bs,ms,s,g,t,room,A1,A2,ws,b,st,tp,A6,A7,A8,k,rfl,TS,PS,RG,F6,B6,q⟩
theorem zKq {k:Nat} {f:Addr} {fd:FuncData} (F:zf K "lets_by" "lets_by" Jh f fd) (B:Bl mg) (bO:Fn P w K mg base "ask_closed" ["thing"] k (zI (zGo ag ae))) (bP:Fn P w K mg base "lets_rooms_by" ["thing","claim","paper"] k (zI fNo)) (bQ:Fn P w K mg base "lets_fall_by" ["thing","claim","paper"] k (zI (zQ6 ag ae aComes aFalls))):zH P w K mg base zZ (k + 1) f fd ["thing","claim","paper"] (zI (zOo ag ae aComes aFalls)):=by
 refine zu F zKg (λds R h=>by obtain ⟨n,bs,ms,s,g,t,room,A1,A2,ws,b,st,tp,A6,A7,A8,k,rfl,_⟩:=h; rfl) λcdv A outer s H E hr=>⟨_,(zJ (zNe (zP bO hr rfl (zB (zA 0) zC)))
  (zJ (yE (PW.pt (Ue (yY (yM (xj kt rfl B.isinstance_ xx (zg (zA 1) (zg (kr TSettles rfl) yB))) Zn)) (Ud (yY (yM (xj kt rfl B.isinstance_ xx (zg (zA 2) (zg (kr TRooms rfl) yB))) Zn))))) (zO (zV (zP bP hr rfl (zB (zA 0) (zB (zA 1) (zB (zA 2) zC)))))) yD)
  (zJ (yE (PW.pt (Ue (yY (yM (xj kt rfl B.isinstance_ xx (zg (zA 1) (zg (kr TComes rfl) yB))) Zn)) (Ud (yY (yM (xj kt rfl B.isinstance_ xx (zg (zA 2) (zg (kr TFalls rfl) yB))) Zn))))) (zO (zV (zP bQ hr rfl (zB (zA 0) (zB (zA 1) (zB (zA 2) zC)))))) yD)
  (zO (zV xZ))))),λds R h=>?_⟩
 obtain ⟨n,bs,ms,s,g,t,room,A1,A2,ws,b,st,tp,A6,A7,A8,k,rfl,TS,PS,RG,RS,t0,bt,F1,F2,F6,F7,F8,B1,B2,B6,B7,B8,cl,q⟩:=h
 refine ⟨n,bs,ms,rfl,TS.ok,cl,?_⟩
 refine ⟨⟨_,_,TComes⟩,_,Y.k_Comes_Settles,wF rfl (wF rfl ?_)⟩
 refine ⟨⟨_,_,TComes⟩,_,UH,wT rfl ?_⟩
 refine ⟨⟨_,_,TFalls⟩,_,UH,wT rfl ?_⟩
 exact ⟨n,bs,ms,s,g,t,room,A1,A2,ws,b,st,tp,A6,A7,A8,k,rfl,TS,PS,RG,RS,t0,bt,F1,F2,F6,F7,F8,B1,B2,B6,B7,B8,q⟩
end
theorem zH8 {n:Nat} {bs:List (Int × Int)} {rows:List (List Int)} (h:∀ r∈rows,r.length=n + 1):∀ r∈vp n bs rows,r.length=n + bs.length + 1:=λr hr=>by
 rcases List.mem_append.mp hr with hr | hr
 ·obtain ⟨q,hq,rfl⟩:=List.mem_map.mp hr
  have:=h q hq
  unfold wH
  simp
  omega
 ·obtain ⟨l,hl,hr⟩:=List.mem_flatten.mp hr
  obtain ⟨i,hi,rfl⟩:=List.mem_mapIdx.mp hl
  rcases List.mem_cons.mp hr with rfl | hr
  ·rw [List.length_append,ub]; rfl
  ·rw [List.mem_singleton.mp hr,List.length_append,ub]; rfl
theorem WB {n p:Nat} {T B rows:List (List Int)} {tw:List Int} {a:D} (h:TB n T B) (hr:∀ r∈rows,r.length=n + p + 1) (ht:tw.length=n + p + 1):xX (rows.map (zS n B)) (zS n B tw) (n + p) a=xX rows tw (n + p) a:=by
 unfold xX
 split
 ·rw [List.length_map,zKc h hr ht]
 ·rfl
theorem zGp {n p:Nat} {T B rows tws:List (List Int)} {a:D} (h:TB n T B) (hr:∀ r∈rows,r.length=n + p + 1) (ht:∀ r∈tws,r.length=n + p + 1):u6 (rows.map (zS n B)) (tws.map (zS n B)) (n + p) a=u6 rows tws (n + p) a:=by
 cases a with
 | lst as=>
  show (decide _ && _)=(decide _ && _)
  rw [List.length_map]
  congr 1
  rw [List.zip_map_left,List.all_map]
  rw [Bool.eq_iff_iff,List.all_eq_true,List.all_eq_true]
  refine forall_congr' λq=>forall_congr' λhq=>?_
  have:=WB (a:=q.2) h hr (ht q.1 (List.of_mem_zip hq).1)
  show xX (rows.map (zS n B)) (zS n B q.1) (n + p) q.2=true ↔ _
  rw [this]
 | _=>rfl
theorem zH2 {n:Nat} {B:List (List Int)} {r:List Int}:(zS n B r).take n=fB n B (r.take n):=by
 unfold zS fB
 rw [List.take_append_of_le_length (by rw [List.length_map,List.length_range]; exact Nat.le_refl _),List.take_of_length_le (by rw [List.length_map,List.length_range]; exact Nat.le_refl _)]
structure TM (n p:Nat) (T B:List (List Int)) (m m':MD):Prop where
 rows:m'.rows=m.rows.map (zS n B)
 nexts:m'.nexts=yc (yc T m.nexts n) B n
 push:m'.push=yc T m.push p
 add:m'.add=T.map λq=>zN q m.add
 div:m'.div=m.div
theorem zJo {n p:Nat} {T B:List (List Int)} {m m':MD} {ws:List Int} {b:Int} (h:TB n T B) (t:TM n p T B m m') (o:yb m n p) (lw:ws.length=n):yp n p (fB n B ws) b m'=zS n B (yp n p ws b m):=by
 have:=zKm (b:=b) (d:=m.div) h lw o.nexts.1 o.nexts.2 o.push.1 o.push.2 o.add
 unfold yp
 rw [t.nexts,t.push,t.add,t.div]
 exact this
theorem zJE {n:Nat} {bs:List (Int × Int)} {T B room behind:List (List Int)} {m m':MD} {a:D} (h:TB n T B) (t:TM n bs.length T B m m') (o:yb m n bs.length) (h1:∀ r∈room,r.length=n + 1) (h2:∀ r∈behind,r.length=n + 1) :
  gQ n bs (room.map (zS n B)) (behind.map (zS n B)) m' a=gQ n bs room behind m a:=by
 unfold gQ
 have hR:∀ r∈room++m.rows,r.length=n + 1:=λr hr=>(List.mem_append.mp hr).elim (h1 r) (o.rows r)
 have e2:qY n bs.length m' (behind.map (zS n B))=(qY n bs.length m behind).map (zS n B):=by
  unfold qY
  rw [List.map_map,List.map_map]
  refine List.map_congr_left λr hr=>?_
  show yp n bs.length ((zS n B r).take n) ((zS n B r).getD n 0) m'=zS n B (yp n bs.length (r.take n) (r.getD n 0) m)
  rw [zH2,ZD (Nat.le_refl n)]
  exact zJo h t o (by have:=h2 r hr; rw [List.length_take]; omega)
 rw [t.rows,<- List.map_append,K2 hR,e2]
 exact zGp h (zH8 hR) (λr hr=>by
  obtain ⟨q,_,rfl⟩:=List.mem_map.mp hr
  exact qX ..)
theorem YA {α β γ:Type} {f:α->β->Bool} {g:γ->β->Bool} {R:α->γ->Prop}:∀ {xs:List α} {ys:List γ} (as:List β),Paired R xs ys->(∀ x y,R x y->∀ b,f x b=g y b)->((xs.zip as).all λp=>f p.1 p.2)=((ys.zip as).all λp=>g p.1 p.2)
 | _,_,[],.nil,_=>rfl
 | _,_,_ :: _,.nil,_=>rfl
 | _,_,[],.cons _ _,_=>rfl
 | _,_,b :: as,.cons h t,k=>by
  rw [List.zip_cons_cons,List.zip_cons_cons,List.all_cons,List.all_cons,YA as t k,k _ _ h b]
def WC (n p:Nat) (T B:List (List Int)) (ms ms':List MD):Prop:=Paired (λm' m=>TM n p T B m m'/\yb m n p) ms' ms
theorem zK1 {n:Nat} {bs:List (Int × Int)} {T B room behind:List (List Int)} {ms ms':List MD} {a:D} (h:TB n T B) (t:WC n bs.length T B ms ms') (h1:∀ r∈room,r.length=n + 1) (h2:∀ r∈behind,r.length=n + 1) :
  gR n bs ms' (room.map (zS n B)) (behind.map (zS n B)) a=gR n bs ms room behind a:=by
 cases a with
 | lst as=>
  show (decide _ && _)=(decide _ && _)
  rw [Paired.length t]
  congr 1
  exact YA as t λm' m hm b=>zJE h hm.1 hm.2 h1 h2
 | _=>rfl
theorem zJu {v:List Int} {B:List (List Int)} {j:Nat}:zL (v.map λx=>-x) B j = -zL v B j:=by
 have:=XF (-1) (λi:Int=>i) (λ_=>0) v B j
 rw [j9,List.map_id'] at this
 have e:(v.map λi=>i * -1 + 0)=v.map λx=>-x:=List.map_congr_left λi _=>by omega
 rw [e] at this
 rw [this]
 omega
theorem zJ1 {n:Nat} {B:List (List Int)} {r:List Int}:zw (zS n B r)=zS n B (zw r):=by
 unfold zw zS
 rw [List.map_append,List.map_map,List.map_drop,<- List.map_take]
 congr 1
 exact List.map_congr_left λj _=>zJu.symm
theorem Ji {n:Nat} {B:List (List Int)} {ws:List Int} {b:Int} (h:ws.length=n):zS n B (ws++[b])=fB n B ws++[b]:=by
 unfold zS fB
 rw [List.take_append_of_le_length (by omega),List.take_of_length_le (by omega),List.drop_append_of_le_length (by omega),List.drop_eq_nil_of_le (by omega),List.nil_append]
theorem zQ7 {n:Nat} {B:List (List Int)} {ws:List Int}:(fB n B ws).map (λx=>-x)=fB n B (ws.map λx=>-x):=by
 unfold fB
 rw [List.map_map]
 exact List.map_congr_left λj _=>zJu.symm
theorem Jj {α β:Type} {f:α->β} {P:α->Prop}:∀ {l:List α},(∀ x∈l,P x)->Paired (λy x=>y=f x/\P x) (l.map f) l
 | [],_=>.nil
 | x :: l,h=>.cons ⟨rfl,h x List.mem_cons_self⟩ (Jj λy hy=>h y (List.mem_cons_of_mem _ hy))
theorem zJJ {n:Nat} {T B room goal:List (List Int)} {ws:List Int} {b:Int} {a:D} (h:TB n T B) (lw:ws.length=n) (h1:∀ r∈room,r.length=n + 1) (h2:∀ r∈goal,r.length=n + 1) :
  gS n (room.map (zS n B)) (fB n B ws) b (goal.map (zS n B)) a=gS n room ws b goal a:=by
 cases a with
 | lst as=>
  show (decide _ && _)=(decide _ && _)
  rw [List.length_map]
  congr 1
  refine YA (f:=λr' b'=>xX (room.map (zS n B)++[zw r']) ((fB n B ws).map (λx=>-x)++[b]) n b') (g:=λr b'=>xX (room++[zw r]) (ws.map (λx=>-x)++[b]) n b') as (Jj (f:=zS n B) h2) λr' r hr b'=>?_
  obtain ⟨rfl,lr⟩:=hr
  have e:room.map (zS n B)++[zw (zS n B r)]=(room++[zw r]).map (zS n B):=by rw [List.map_append,zJ1]; rfl
  have e2:(fB n B ws).map (λx=>-x)++[b]=zS n B (ws.map (λx=>-x)++[b]):=by rw [Ji (by rw [List.length_map]; exact lw),zQ7]
  show xX (room.map (zS n B)++[zw (zS n B r)]) ((fB n B ws).map (λx=>-x)++[b]) n b'=xX (room++[zw r]) (ws.map (λx=>-x)++[b]) n b'
  rw [e,e2]
  exact WB (p:=0) h (λq hq=>by
   rcases List.mem_append.mp hq with hq | hq
   ·exact h1 q hq
   ·rw [List.mem_singleton.mp hq]; unfold zw; rw [List.length_map]; exact lr) (by rw [List.length_append,List.length_map,lw]; rfl)
 | _=>rfl
theorem zJv {f g:Int} {j:Nat}:∀ (x y:List Int) (B:List (List Int)),x.length=y.length->zL (xF f g x y) B j=f * zL x B j + g * zL y B j
 | [],[],B,_=>by unfold xF; rw [List.zip_nil_left,List.map_nil,UO]; omega
 | a :: x,b :: y,[],_=>by unfold zL; simp
 | a :: x,b :: y,c :: B,h=>by
  have ih:=zJv (f:=f) (g:=g) (j:=j) x y B (by simpa using h)
  unfold xF at ih |-
  rw [List.zip_cons_cons,List.map_cons,ua,ua,ua,ih]
  show (f * a + g * b) * c.getD j 0 + _=_
  grind
theorem zN4 {n:Nat} {f g:Int} {x y:List Int} {B:List (List Int)} (h:x.length=y.length):xF f g (fB n B x) (fB n B y)=fB n B (xF f g x y):=by
 show (((List.range n).map (zL x B)).zip ((List.range n).map (zL y B))).map (λq=>f * q.1 + g * q.2)=_
 rw [List.zip_map',List.map_map]
 exact List.map_congr_left λj _=>(zJv x y B h).symm
theorem Jk {n p:Nat} {ws:List Int} {st:Int} {m:MD}:ve n p ws st m=xF 1 (-m.div) ((yp n p ws 0 m).take n) ws++((yp n p ws 0 m).drop n).take p++[(yp n p ws 0 m).getD (n + p) 0 - m.div * st]:=by
 have lN:((List.range n).map (zL ws m.nexts)).length=n:=by rw [List.length_map,List.length_range]
 have lP:((List.range p).map (zL ws m.push)).length=p:=by rw [List.length_map,List.length_range]
 have e1:((yp n p ws 0 m).drop n).take p=(List.range p).map (zL ws m.push):=by
  unfold yp
  rw [List.append_assoc,List.drop_append_of_le_length (by omega),List.drop_eq_nil_of_le (by omega),List.nil_append,List.take_append_of_le_length (by omega),List.take_of_length_le (by omega)]
 have e2:(yp n p ws 0 m).getD (n + p) 0=m.div * 0 - zN ws m.add:=by
  unfold yp
  rw [List.getD_eq_getElem?_getD,List.getElem?_append_right (by rw [List.length_append]; omega),List.length_append,lN,lP,Nat.sub_self]
  rfl
 rw [e1,e2]
 rfl
theorem zNM {n:Nat} {B:List (List Int)} {M X:List Int} (h:M.length=n):zS n B (M++X)=fB n B M++X:=by
 unfold zS fB
 rw [List.take_append_of_le_length (by omega),List.take_of_length_le (by omega),List.drop_append_of_le_length (by omega),List.drop_eq_nil_of_le (by omega),List.nil_append]
theorem zPf {n p:Nat} {T B:List (List Int)} {m m':MD} {ws:List Int} {st:Int} (h:TB n T B) (t:TM n p T B m m') (o:yb m n p) (lw:ws.length=n):ve n p (fB n B ws) st m'=zS n B (ve n p ws st m):=by
 have lR:=qX n p ws 0 m
 have lt:((yp n p ws 0 m).take n).length=ws.length:=by rw [List.length_take]; omega
 have lM:(xF 1 (-m.div) ((yp n p ws 0 m).take n) ws).length=n:=by unfold xF; rw [List.length_map,List.length_zip]; omega
 have ed:(zS n B (yp n p ws 0 m)).drop n=(yp n p ws 0 m).drop n:=by
  unfold zS
  rw [List.drop_append_of_le_length (by rw [List.length_map,List.length_range]; exact Nat.le_refl _),List.drop_eq_nil_of_le (by rw [List.length_map,List.length_range]; exact Nat.le_refl _),List.nil_append]
 rw [Jk,Jk,zJo h t o lw,t.div,zH2,ed,ZD (Nat.le_add_right n p),zN4 lt]
 generalize hM:xF 1 (-m.div) ((yp n p ws 0 m).take n) ws=M at lM
 rw [List.append_assoc,List.append_assoc,zNM lM]
theorem zJF {n:Nat} {bs:List (Int × Int)} {T B room goal:List (List Int)} {ws:List Int} {st:Int} {m m':MD} {a:D} (h:TB n T B) (t:TM n bs.length T B m m') (o:yb m n bs.length) (lw:ws.length=n) (h1:∀ r∈room,r.length=n + 1) (h2:∀ r∈goal,r.length=n + 1) :
  gT n bs (room.map (zS n B)) (fB n B ws) st (goal.map (zS n B)) m' a=gT n bs room ws st goal m a:=by
 cases a with
 | lst as=>
  show (decide _ && _)=(decide _ && _)
  rw [List.length_map]
  congr 1
  refine YA (f:=λr' b'=>xX (vp n bs (room.map (zS n B)++m'.rows++[zw r'])) (ve n bs.length (fB n B ws) st m') (n + bs.length) b') (g:=λr b'=>xX (vp n bs (room++m.rows++[zw r])) (ve n bs.length ws st m) (n + bs.length) b') as (Jj (f:=zS n B) h2) λr' r hr b'=>?_
  obtain ⟨rfl,lr⟩:=hr
  have hR:∀ q∈room++m.rows++[zw r],q.length=n + 1:=λq hq=>by
   rcases List.mem_append.mp hq with hq | hq
   ·exact (List.mem_append.mp hq).elim (h1 q) (o.rows q)
   ·rw [List.mem_singleton.mp hq]; unfold zw; rw [List.length_map]; exact lr
  have e:room.map (zS n B)++m'.rows++[zw (zS n B r)]=(room++m.rows++[zw r]).map (zS n B):=by rw [t.rows,List.map_append,List.map_append,zJ1]; rfl
  show xX (vp n bs (room.map (zS n B)++m'.rows++[zw (zS n B r)])) (ve n bs.length (fB n B ws) st m') (n + bs.length) b'=_
  rw [e,K2 hR,zPf h t o lw]
  refine WB h (zH8 hR) ?_
  rw [Jk,List.length_append,List.length_append,List.length_take,List.length_drop,qX]
  unfold xF
  rw [List.length_map,List.length_zip,List.length_take,qX]
  show min (min n (n + bs.length + 1)) ws.length + min bs.length (n + bs.length + 1 - n) + 1=_
  omega
 | _=>rfl
theorem zK6 {n:Nat} {bs:List (Int × Int)} {T B room goal:List (List Int)} {ws:List Int} {st:Int} {ms ms':List MD} {a:D} (h:TB n T B) (t:WC n bs.length T B ms ms') (lw:ws.length=n) (h1:∀ r∈room,r.length=n + 1) (h2:∀ r∈goal,r.length=n + 1) :
  gU n bs ms' (room.map (zS n B)) (fB n B ws) st (goal.map (zS n B)) a=gU n bs ms room ws st goal a:=by
 cases a with
 | lst as=>
  show (decide _ && _)=(decide _ && _)
  rw [Paired.length t]
  congr 1
  exact YA as t λm' m hm b=>zJF h hm.1 hm.2 lw h1 h2
 | _=>rfl
theorem zN7 {n:Nat} {bs:List (Int × Int)} {T B start goal room:List (List Int)} {ws:List Int} {b st tp tu:Int} {ms ms':List MD} {A1 A2 A6 A7 A8:D} (h:TB n T B) (t:WC n bs.length T B ms ms') (lw:ws.length=n) (h0:∀ r∈start,r.length=n + 1) (h1:∀ r∈room,r.length=n + 1) (h2:∀ r∈goal,r.length=n + 1) :
  vT n bs ms' (start.map (zS n B)) (goal.map (zS n B)) tu (room.map (zS n B)) (fB n B ws) b st tp A1 A2 A6 A7 A8=vT n bs ms start goal tu room ws b st tp A1 A2 A6 A7 A8:=by
 unfold vT
 rw [show u6 (start.map (zS n B)) (room.map (zS n B)) n A1=u6 start room n A1 from zGp (p:=0) h h0 h1,zK1 h t h1 h1,<- Ji lw,show xX (start.map (zS n B)) (zS n B (ws++[tp - b])) n A8=xX start (ws++[tp - b]) n A8 from WB (p:=0) h h0 (by rw [List.length_append,lw]; rfl),zJJ h lw h1 h2,zK6 h t lw h1 h2]
def xY (T:List (List Int)):Prop:=∀ r∈T,∀ x∈r,Bd 20 x
structure u7 (e:Nat) (m:MD):Prop where
 nexts:∀ r∈m.nexts,∀ x∈r,Bd e x
 steer:∀ x∈m.steer,Bd e x
 push:∀ r∈m.push,∀ x∈r,Bd e x
 add:∀ x∈m.add,Bd e x
 div:Bd e m.div
 rows:∀ r∈m.rows,∀ x∈r,Bd e x
 few:m.rows.length<=100
theorem u7.ms {e:Nat} {m:MD} (h:u7 e m) (k:e<=300):MS m:=⟨λr hr x hx=>(h.nexts r hr x hx).mono k,λr hr x hx=>(h.push r hr x hx).mono k,λx hx=>(h.add x hx).mono k,h.div.mono k,λr hr x hx=>(h.rows r hr x hx).mono k,h.few⟩
def uh (n w:Nat) (T B:List (List Int)) (m:MD):MD:=⟨m.rows.map (zS n B),yc (yc T m.nexts n) B n,T.map λq=>zN q m.steer,yc T m.push w,T.map λq=>zN q m.add,m.div⟩
theorem qf {T O:List (List Int)} {w:Nat}:(yc T O w).length=T.length:=List.length_map ..
theorem gX {T O:List (List Int)} {w:Nat}:∀ r∈yc T O w,r.length=w:=λr hr=>by
 obtain ⟨q,_,rfl⟩:=List.mem_map.mp hr
 rw [List.length_map,List.length_range]
theorem WD {T O:List (List Int)} {w a b l:Nat} (hl:∀ r∈T,r.length<=l) (hT:∀ r∈T,∀ x∈r,Bd a x) (hO:∀ r∈O,∀ x∈r,Bd b x):∀ r∈yc T O w,∀ x∈r,Bd (a + b + l + 1) x:=λr hr x hx=>by
 obtain ⟨q,hq,rfl⟩:=List.mem_map.mp hr
 obtain ⟨j,_,rfl⟩:=List.mem_map.mp hx
 exact (gP (hT q hq) hO).mono (by have:=hl q hq; omega)
theorem zLM {n b:Nat} {B:List (List Int)} {r:List Int} (lr:r.length=n + 1) (n3:n<=3) (hr:∀ x∈r,Bd b x) (hB:xY B):∀ x∈zS n B r,Bd (b + 25) x:=λx hx=>by
 rcases List.mem_append.mp hx with hx | hx
 ·obtain ⟨j,_,rfl⟩:=List.mem_map.mp hx
  exact (gP (λy hy=>hr y (List.mem_of_mem_take hy)) hB).mono (by rw [List.length_take]; omega)
 ·exact (hr x (List.mem_of_mem_drop hx)).mono (by omega)
theorem Jl {n w:Nat} {T B:List (List Int)} {m:MD} (h:TB n T B) (o:yb m n w):yb (uh n w T B m) n w where
 rows:=λr hr=>by
  obtain ⟨q,hq,rfl⟩:=List.mem_map.mp hr
  rw [Kv (by rw [o.rows q hq]; omega)]
  exact o.rows q hq
 few:=by show (m.rows.map _).length<=900; rw [List.length_map]; exact o.few
 nexts:=⟨by show (yc _ _ _).length=n; rw [qf,qf]; exact h.tl,gX⟩
 steer:=by show (T.map _).length=n; rw [List.length_map]; exact h.tl
 push:=⟨by show (yc _ _ _).length=n; rw [qf]; exact h.tl,gX⟩
 add:=by show (T.map _).length=n; rw [List.length_map]; exact h.tl
 div:=o.div
 n3:=o.n3
 p6:=o.p6
theorem YB {n w:Nat} {T B:List (List Int)} {m:MD} (h:TB n T B) (o:yb m n w) (hT:xY T) (hB:xY B) (k:u7 200 m):u7 260 (uh n w T B m) where
 nexts:=λr hr x hx=>by
  have n3:=o.n3
  exact (WD (l:=3) (λq hq=>by rw [gX q hq]; omega) (WD (l:=3) (λq hq=>by rw [h.tr q hq]; omega) hT k.nexts) hB r hr x hx).mono
 steer:=λx hx=>by
  have n3:=o.n3
  obtain ⟨q,hq,rfl⟩:=List.mem_map.mp hx
  exact (gO (hT q hq) k.steer).mono (by rw [h.tr q hq]; omega)
 push:=λr hr x hx=>by
  have n3:=o.n3
  exact (WD (l:=3) (λq hq=>by rw [h.tr q hq]; omega) hT k.push r hr x hx).mono
 add:=λx hx=>by
  have n3:=o.n3
  obtain ⟨q,hq,rfl⟩:=List.mem_map.mp hx
  exact (gO (hT q hq) k.add).mono (by rw [h.tr q hq]; omega)
 div:=k.div.mono
 rows:=λr hr x hx=>by
  obtain ⟨q,hq,rfl⟩:=List.mem_map.mp hr
  exact (zLM (o.rows q hq) o.n3 (k.rows q hq) hB x hx).mono
 few:=by show (m.rows.map _).length<=100; rw [List.length_map]; exact k.few
theorem zP3 {n:Nat} {bs:List (Int × Int)} {T B:List (List Int)} {ms:List MD} (o:∀ m∈ms,yb m n bs.length):WC n bs.length T B ms (ms.map (uh n bs.length T B)):=by
 induction ms with
 | nil=>exact .nil
 | cons m ms ih=>exact .cons ⟨⟨rfl,rfl,rfl,rfl,rfl⟩,o m List.mem_cons_self⟩ (ih λx hx=>o x (List.mem_cons_of_mem _ hx))
theorem zFT:∀ {q z:List Int},(∀ x∈z,x=0)->zN q z=0
 | [],_,_=>by unfold zN; rfl
 | _ :: _,[],_=>by unfold zN; rfl
 | a :: q,b :: z,h=>by
  show a * b + zN q z=0
  rw [h b List.mem_cons_self,zFT λx hx=>h x (List.mem_cons_of_mem _ hx)]
  omega
theorem zLO {n w:Nat} {T B:List (List Int)} {ms:List MD} (h:qV ms=true):qV (ms.map (uh n w T B))=true:=List.all_eq_true.mpr λm' hm=>by
 obtain ⟨m,hm1,rfl⟩:=List.mem_map.mp hm
 refine List.all_eq_true.mpr λx hx=>decide_eq_true ?_
 obtain ⟨q,_,rfl⟩:=List.mem_map.mp hx
 exact zFT λy hy=>of_decide_eq_true (List.all_eq_true.mp (List.all_eq_true.mp h m hm1) y hy)
def Jm:FL:=λds R=>∃ T O w,ds=[Tb T,Tb O,.int ((w:Nat):Int)]/\w<=900/\T.length<=900/\(∀ r∈T,r.length<=900/\∀ x∈r,Bd 9000 x)/\(∀ r∈O,w<=r.length/\∀ x∈r,Bd 9000 x)/\R (Tb (yc T O w))
def zQ3:FL:=λds R=>∃ B r n,ds=[Tb B,U r]/\r.length=n + 1/\n<=800/\(∀ x∈r,Bd 9000 x)/\(∀ q∈B,n<=q.length/\∀ x∈q,Bd 9000 x)/\R (U (zS n B r))
def zOl (CM:Addr):FL:=λds R=>∃ m T B n w,ds=[xo CM m,Tb T,Tb B,.int ((w:Nat):Int)]/\TB n T B/\xY T/\xY B/\yb m n w/\u7 200 m/\R (xo CM (uh n w T B m))
def zMc:FL:=λds R=>∃ T B n,ds=[Tb T,Tb B,.int ((n:Nat):Int)]/\TB n T B/\xY T/\xY B/\n<=3/\R (.bool true)
def zMO (C CM:Addr):FL:=λds R=>∃ n bs ms T B,ds=[wS C CM n bs ms,Tb T,Tb B]/\we n bs ms/\TB n T B/\xY T/\xY B/\(∀ m∈ms,u7 200 m)/\R (wS C CM n bs (ms.map (uh n bs.length T B)))
theorem Jn (t:List (List Int)):(Tb t).pl 50=true:=List.all_eq_true.mpr λd m=>by
 obtain ⟨r,_,rfl⟩:=List.mem_map.mp m
 exact UX 47 r
theorem zRC {r:List Int} {n:Nat} (h:r.length=n + 1):r.drop n=[r.getD n 0]:=by
 have:=Z8 h
 conv=>lhs; rw [this]
 rw [List.drop_append_of_le_length (by rw [List.length_take]; omega),List.drop_eq_nil_of_le (by rw [List.length_take]; omega)]
 rfl
section
variable {P:Program} {w:World} {K:PySem.W.Frag} {mg:Str->Option Value} {base:Heap}
abbrev WE:Stmt:=zm 38
theorem zKf:ze ["table","other","wide"] ["table","other","wide"] (zK WE):=.a
abbrev Jo:Stmt:=zm 35
theorem zG1:ze ["back","row"] ["back","row"] (zK Jo):=.a
abbrev gY:Stmt:=zm 39
theorem zD3:ze ["mode","there","back","wide","many"] ["mode","there","back","wide"] (zK gY):=.a
abbrev WF:Stmt:=zm 37
theorem zKh:ze ["there","back","many"] ["there","back","many"] (zK WF):=.a
abbrev WG:Stmt:=zm 36
theorem zIB:ze ["thing","there","back","modes"] ["thing","there","back"] (zK WG):=.a
variable {ae ag aClaim aSettles aComes aPaper aRooms aFalls:Addr} (aa:zE K mg "Mode" ae) (ab:wz K ae) (ac:zE K mg "Thing" ag) (af:w4 K ag) (TClaim:zE K mg "Claim" aClaim) (AClaim:w6 K aClaim) (TSettles:zE K mg "Settles" aSettles) (ASettles:w8 K aSettles) (TComes:zE K mg "Comes" aComes) (AComes:vA K aComes) (TPaper:zE K mg "Paper" aPaper) (APaper:vB K aPaper) (TRooms:zE K mg "Rooms" aRooms) (ARooms:vC K aRooms) (TFalls:zE K mg "Falls" aFalls) (AFalls:vD K aFalls) (Y:yu K aComes aSettles)
include aa ab ac af TClaim AClaim TSettles ASettles TComes AComes TPaper APaper TRooms ARooms TFalls AFalls Y
theorem zKp {k:Nat} {f:Addr} {fd:FuncData} (F:zf K "product" "product" WE f fd) (B:Bl mg) (ap:Fn P w K mg base "added_up" ["numbers","lists","wide"] k (zI (Zt))):zH P w K mg base zZ (k + 1) f fd ["table","other","wide"] (zI (Jm)):=by
 refine zu F zKf (λds R h=>by obtain ⟨T,O,w,rfl,_⟩:=h; rfl) λcdv A outer s H E hr=>⟨_,(zO (zV (yI (own:=["numbers"]) (caps:=[(1,"other"),(2,"wide")]) (zz (S:=zK WE) (N:=["table","other","wide"]) rfl (by decide +kernel) rfl ⟨_,rfl⟩ rfl (by decide +kernel) (by decide +kernel)) rfl rfl yJ (yy (zA 0)) (λ_ _ _ _=>(zy 0 (show (["numbers","other","wide"]:List Str).Nodup by decide +kernel) rfl (Or.inl rfl))) (λ_ _ _ _=>(zP ap hr rfl (zB (zA 0) (zB (zA 1) (zB (zA 2) zC)))))))),λds R h=>?_⟩
 obtain ⟨T,O,w,rfl,w9,t9,hT,hO,q⟩:=h
 refine wm L zv u4 (λr=>L ((List.range w).map (zL r O))) (by omega) (λr hr=>⟨_,_,r,O,w,rfl,.inl rfl,.inl rfl,w9,(hT r hr).1,(hT r hr).2,hO,rfl⟩) ?_
 unfold yc Tb at q
 rw [List.map_map] at q
 exact q
theorem zHW {k:Nat} {f:Addr} {fd:FuncData} (F:zf K "turned_row" "turned_row" Jo f fd) (B:Bl mg) (ap:Fn P w K mg base "added_up" ["numbers","lists","wide"] k (zI (Zt))):zH P w K mg base zZ (k + 1) f fd ["back","row"] (zI (zQ3)):=by
 refine zu F zG1 (λds R h=>by obtain ⟨B,r,n,rfl,_⟩:=h; rfl) λcdv A outer s H E hr=>⟨_,(zO (zV (zX (xI wd wg rfl B.tuple_ xk (zB (zP ap hr rfl (zB (yt (zA 1) y8 (yh (y6 zD))) (zB (zA 0) (zB (wI (zq yV yZ rfl B.len_ yW (zB (zA 1) zC)) zD) zC)))) zC)) (xb (zB (zT (zA 1) (y6 zD) (λ_ _=>rfl)) zC))))),λds R h=>?_⟩
 obtain ⟨B,r,n,rfl,lr,n8,br,bB,q⟩:=h
 refine ⟨_,_,r.take n,B,n,by rw [uU lr,List.length_map,lr,show ((n + 1:Nat):Int) - 1=(n:Int) by omega],.inr rfl,.inl rfl,by omega,by rw [List.length_take]; omega,λx hx=>br x (List.mem_of_mem_take hx),bB,?_⟩
 refine ⟨_,qZ lr,k0,by rw [List.length_map,List.length_map,List.length_range]; show _ + 1<=1000; omega,?_⟩
 unfold zS U at q
 rw [List.map_append,zRC lr] at q
 exact q
theorem zGU {k:Nat} {f:Addr} {fd:FuncData} (F:zf K "turned_mode" "turned_mode" gY f fd) (B:Bl mg) (aO:v7 P w K mg base ae ["self","rows","nexts","steer","push","add","divisor"] k (wl ae (JC ae))) (aF:Fn P w K mg base "paired" ["numbers","others"] (k + 1) (zI (U7))) (aD:Fn P w K mg base "product" ["table","other","wide"] (k + 1) (zI (Jm))) (bS:Fn P w K mg base "turned_row" ["back","row"] (k + 1) (zI (zQ3))):zH P w K mg base zZ (k + 1 + 1) f fd ["mode","there","back","wide"] (zI (zOl ae)):=by
 refine zu F zD3 (λds R h=>by obtain ⟨m,T,B,n,w,rfl,_⟩:=h; rfl) λcdv A outer s H E hr=>⟨_,(zJ (zp 4 zD3.nd rfl (Or.inl rfl) (zq yV yZ rfl B.len_ yW (zB (zA 1) zC)))
  (zO (zV (qP aO aa hr rfl (zB (yI (own:=["row"]) (caps:=[(2,"back")]) (zz (S:=zK gY) (N:=["mode","there","back","wide","many"]) rfl (by decide +kernel) rfl ⟨_,rfl⟩ rfl (by decide +kernel) (by decide +kernel)) rfl rfl yJ (yy (zo K (zA 0) rfl)) (λ_ _ _ _=>(zy 0 (show (["row","back"]:List Str).Nodup by decide +kernel) rfl (Or.inl rfl))) (λ_ _ _ _=>(zP bS hr rfl (zB (zA 1) (zB (zA 0) zC))))) (zB (zP aD hr rfl (zB (zP aD hr rfl (zB (zA 1) (zB (zo K (zA 0) rfl) (zB (zA 4) zC)))) (zB (zA 2) (zB (zA 4) zC)))) (zB (yI (own:=["numbers"]) (caps:=[(0,"mode")]) (zz (S:=zK gY) (N:=["mode","there","back","wide","many"]) rfl (by decide +kernel) rfl ⟨_,rfl⟩ rfl (by decide +kernel) (by decide +kernel)) rfl rfl yJ (yy (zA 1)) (λ_ _ _ _=>(zy 0 (show (["numbers","mode"]:List Str).Nodup by decide +kernel) rfl (Or.inl rfl))) (λ_ _ _ _=>(zP aF hr rfl (zB (zA 0) (zB (zo K (zA 1) rfl) zC))))) (zB (zP aD hr rfl (zB (zA 1) (zB (zo K (zA 0) rfl) (zB (zA 3) zC)))) (zB (yI (own:=["numbers"]) (caps:=[(0,"mode")]) (zz (S:=zK gY) (N:=["mode","there","back","wide","many"]) rfl (by decide +kernel) rfl ⟨_,rfl⟩ rfl (by decide +kernel) (by decide +kernel)) rfl rfl yJ (yy (zA 1)) (λ_ _ _ _=>(zy 0 (show (["numbers","mode"]:List Str).Nodup by decide +kernel) rfl (Or.inl rfl))) (λ_ _ _ _=>(zP aF hr rfl (zB (zA 0) (zB (zo K (zA 1) rfl) zC))))) (zB (zo K (zA 0) rfl) zC)))))))))),λds R h=>?_⟩
 obtain ⟨m,T,B,n,w,rfl,tb,hT,hB,o,k,q⟩:=h
 have n3:=o.n3
 have p6:=o.p6
 have tl:=tb.tl
 have kf:=k.few
 have o2:=Jl tb o
 have bT:∀ r∈T,r.length<=900/\∀ x∈r,Bd 9000 x:=λr hr=>⟨by rw [tb.tr r hr]; omega,λx hx=>(hT r hr x hx).mono⟩
 have bB:∀ r∈B,n<=r.length/\∀ x∈r,Bd 9000 x:=λr hr=>⟨by rw [tb.br r hr]; omega,λx hx=>(hB r hr x hx).mono⟩
 have lT:(List.map L T).length=T.length:=List.length_map ..
 refine ⟨⟨aa.cl,ab.n_rows⟩,_,rfl,?_⟩
 refine wm U zv u5 (λr=>U (zS n B r)) (by omega) (λr hr=>⟨B,r,n,rfl,o.rows r hr,by omega,λx hx=>(k.rows r hr x hx).mono,bB,rfl⟩) ?_
 rw [JO (zS n B)]
 refine ⟨⟨aa.cl,ab.n_nexts⟩,_,rfl,T,m.nexts,n,by rw [lT,tl],by omega,by omega,bT,λr hr=>⟨by rw [o.nexts.2 r hr]; omega,λx hx=>(k.nexts r hr x hx).mono⟩,?_⟩
 refine ⟨yc T m.nexts n,B,n,by rw [lT,tl],by omega,by rw [qf]; omega,λr hr=>⟨by rw [gX r hr]; omega,λx hx=>(WD (l:=3) (λq hq=>by rw [tb.tr q hq]; omega) hT k.nexts r hr x hx).mono⟩,bB,?_⟩
 refine wm L zv u4 (λr=>.int (zN r m.steer)) (by omega) (λr hr=>⟨⟨aa.cl,ab.n_steer⟩,_,rfl,_,_,r,m.steer,rfl,.inl rfl,.inl rfl,(bT r hr).1,(bT r hr).2,λx hx=>(k.steer x hx).mono,rfl⟩) ?_
 refine ⟨⟨aa.cl,ab.n_push⟩,_,rfl,T,m.push,w,rfl,by omega,by omega,bT,λr hr=>⟨by rw [o.push.2 r hr]; omega,λx hx=>(k.push r hr x hx).mono⟩,?_⟩
 refine wm L zv u4 (λr=>.int (zN r m.add)) (by omega) (λr hr=>⟨⟨aa.cl,ab.n_add⟩,_,rfl,_,_,r,m.add,rfl,.inl rfl,.inl rfl,(bT r hr).1,(bT r hr).2,λx hx=>(k.add x hx).mono,rfl⟩) ?_
 have e1:∀ z:List Int,D.lst (T.map λr=>.int (zN r z))=L (T.map λr=>zN r z):=λz=>by unfold L; rw [List.map_map]; rfl
 rw [e1,e1]
 refine ⟨⟨aa.cl,ab.n_divisor⟩,_,rfl,_,_,_,_,_,_,rfl,jc o2.few (λr hr=>by rw [o2.rows r hr]; omega),jb (by rw [qf,qf]; omega) (λr hr=>by rw [gX r hr]; omega),vS (by rw [List.length_map]; omega),jb (by rw [qf]; omega) (λr hr=>by rw [gX r hr]; omega),vS (by rw [List.length_map]; omega),q⟩
theorem zKt {k:Nat} {f:Addr} {fd:FuncData} (F:zf K "is_turn" "is_turn" WF f fd) (B:Bl mg) (aA:Fn P w K mg base "is_table" ["value","tall","wide"] k (zI (qQ))) (aD:Fn P w K mg base "product" ["table","other","wide"] k (zI (Jm))) (aJ:vX P w K mg base "unit" ["place","wide","number"] k (zI (U6)) (.int 1)):zH P w K mg base zZ (k + 1) f fd ["there","back","many"] (zI (zMc)):=by
 refine zu F zKh (λds R h=>by obtain ⟨T,B,n,rfl,_⟩:=h; rfl) λcdv A outer s H E hr=>⟨_,(zJ (yE (PW.pt (wZ (xA (yY (zP aA hr rfl (zB (zA 0) (zB (zA 2) (zB (zA 2) zC)))))) (vP (xA (yY (zP aA hr rfl (zB (zA 1) (zB (zA 2) (zB (zA 2) zC))))))))) (zO (zV xZ)) yD)
  (zO (zV (uP hr.units (zP aD hr rfl (zB (zA 0) (zB (zA 1) (zB (zA 2) zC)))) (yI (own:=["place"]) (caps:=[(2,"many")]) (zz (S:=zK WF) (N:=["there","back","many"]) rfl (by decide +kernel) rfl ⟨_,rfl⟩ rfl (by decide +kernel) (by decide +kernel)) rfl rfl yJ (xn rfl B.range_ (zB (zA 2) zC)) (λ_ _ _ _=>(zy 0 (show (["place","many"]:List Str).Nodup by decide +kernel) rfl (Or.inl rfl))) (λ_ _ _ _=>(vR (.int 1) (λ_=>.int 1) aJ hr rfl (zB (zA 0) (zB (zA 1) zC))))))))),λds R h=>?_⟩
 obtain ⟨T,B,n,rfl,tb,hT,hB,n3,q⟩:=h
 have tl:=tb.tl
 have bl:=tb.bl
 refine ⟨_,_,_,3,rfl,jb (by omega) (λr hr=>by rw [tb.tr r hr]; omega),wF (by rw [Xv (by rw [tl]) (λr hr=>by rw [tb.tr r hr])]; rfl) ?_⟩
 refine ⟨_,_,_,3,rfl,jb (by omega) (λr hr=>by rw [tb.br r hr]; omega),wF (by rw [Xv (by rw [bl]) (λr hr=>by rw [tb.br r hr])]; rfl) ?_⟩
 refine ⟨T,B,n,rfl,by omega,by omega,λr hr=>⟨by rw [tb.tr r hr]; omega,λx hx=>(hT r hr x hx).mono⟩,λr hr=>⟨by rw [tb.br r hr]; omega,λx hx=>(hB r hr x hx).mono⟩,?_⟩
 refine ⟨by omega,by omega,?_⟩
 rw [show ((n:Nat):Int).toNat=n by omega]
 refine zl.rng0 (λi=>L (yw (i:Int) n 1)) (by omega) (λi hi=>⟨(i:Int),n,1,rfl,by omega,by omega,by rw [show ((n:Nat):Int).toNat=n by omega]⟩) ?_
 have e:D.lst ((List.range n).map λi:Nat=>L (yw (i:Int) n 1))=Tb (yc T B n):=by
  rw [tb.tb]
  unfold vZ Tb
  rw [List.map_map]
  rfl
 rw [e]
 exact ⟨Jn _,Jn _,bR q (PySem.SeqAt.eqv_refl _ (uO 50 _ (Jn _)).lay).symm⟩
theorem zLx {k:Nat} {f:Addr} {fd:FuncData} (F:zf K "turned" "turned" WG f fd) (B:Bl mg) (bU:Fn P w K mg base "is_turn" ["there","back","many"] (k + 1) (zI (zMc))) (aB:vn P w K mg base ag "modes" ["self"] (k + 1) (zI (Xy ag ae))) (bV:Fn P w K mg base "turned_mode" ["mode","there","back","wide"] (k + 1) (zI (zOl ae))) (av:vn P w K mg base ag "pushes" ["self"] (k + 1) (zI (Xx ag ae))) (aP:v7 P w K mg base ag ["self","many","pushes","modes"] k (wl ag (JD ag ae))):zH P w K mg base zZ (k + 1 + 1) f fd ["thing","there","back"] (zI (zMO ag ae)):=by
 refine zu F zIB (λds R h=>by obtain ⟨n,bs,ms,T,B,rfl,_⟩:=h; rfl) λcdv A outer s H E hr=>⟨_,(zJ (yE (xA (yY (zP bU hr rfl (zB (zA 1) (zB (zA 2) (zB (zo K (zA 0) rfl) zC)))))) (zO Xb) yD)
  (zJ (uy 3 false zIB.nd rfl rfl (own:=["mode"]) (caps:=[(0,"thing"),(1,"there"),(2,"back")]) (zz (S:=zK WG) (N:=["thing","there","back","modes"]) rfl (by decide +kernel) rfl ⟨_,rfl⟩ rfl (by decide +kernel) (by decide +kernel)) rfl rfl yJ (yy (jY aB ac hr (zA 0))) (λ_ _ _ _=>(zy 0 (show (["mode","thing","there","back"]:List Str).Nodup by decide +kernel) rfl (Or.inl rfl))) (λ_ _ _ _=>(zP bV hr rfl (zB (zA 0) (zB (zA 2) (zB (zA 3) (zB (zq yV yZ rfl B.len_ yW (zB (jY av ac hr (zA 1)) zC)) zC)))))) rfl)
  (zO (zV (qP aP ac hr rfl (zB (zo K (zA 0) rfl) (zB (jY av ac hr (zA 0)) (zB (zA 3) zC)))))))),λds R h=>?_⟩
 obtain ⟨n,bs,ms,T,B,rfl,o,tb,hT,hB,k,q⟩:=h
 have n3:=o.n3
 have m40:=o.m40
 have lp:(List.map yF bs).length=bs.length:=List.length_map ..
 refine ⟨⟨ac.cl,af.n_many⟩,_,rfl,T,B,n,rfl,tb,hT,hB,n3,wF rfl ?_⟩
 refine ⟨rfl,by decide +kernel,n,bs,ms,rfl,?_⟩
 refine wm (xo ae) xJ (Zw _) (λm=>xo ae (uh n bs.length T B m)) (by omega) (λm hm=>⟨rfl,by decide +kernel,n,bs,ms,rfl,m,T,B,n,bs.length,by rw [lp],tb,hT,hB,o.mok m hm,k m hm,rfl⟩) ?_
 refine ⟨⟨ac.cl,af.n_many⟩,_,rfl,rfl,by decide +kernel,n,bs,ms,rfl,n,bs,ms.map (uh n bs.length T B),by rw [List.map_map]; rfl,⟨o.n1,o.n3,o.bok,o.b6,by rw [List.length_map]; exact o.m1,by rw [List.length_map]; exact o.m40,λm' hm=>?_⟩,q⟩
 obtain ⟨m,hm1,rfl⟩:=List.mem_map.mp hm
 exact Jl tb (o.mok m hm1)
end
theorem md (a:Int) {b:Int} (h:0 < b):0<=a.fmod b/\a.fmod b < b:=⟨Int.fmod_nonneg_of_pos a h,Int.fmod_lt_of_pos a h⟩
theorem vf {n:Nat} {a b:Int} (h:Bd n b) (p:0 < b):Bd n (a.fmod b):=by
 have:=md a p
 exact h.of_le (by omega)
theorem qg {n:Nat} (h:n<=3):Bd 2 (n:Int):=by
 show (n:Int).natAbs < 2 ^ 2
 omega
theorem Jp {α:Type} {xs:List α} {i:Int} (h0:0<=i) (h1:i < (xs.length:Int)):∃ x∈xs,yU xs i=some x:=by
 obtain ⟨k,rfl⟩:=Int.eq_ofNat_of_zero_le h0
 have hk:k < xs.length:=by omega
 refine ⟨xs[k],List.getElem_mem hk,?_⟩
 unfold yU wM
 rw [if_pos (by omega),if_pos (by omega)]
 show xs[((k:Nat):Int).toNat]? = _
 rw [show ((k:Nat):Int).toNat=k by omega,List.getElem?_eq_getElem hk]
theorem zRO {xs:List Int} {i:Int} (h0:0<=i) (h1:i < (xs.length:Int)):∃ x∈xs,yU (xs.map D.int) i=some (.int x):=by
 obtain ⟨x,hx,e⟩:=Jp h0 h1
 exact ⟨x,hx,by rw [gL,e]; rfl⟩
theorem yz {xs:List Int} {i:Int} {R:D->Prop} (h0:0<=i) (h1:i < (xs.length:Int)) (q:∀ x∈xs,R (.int x)):∃ d,yU (xs.map D.int) i=some d/\R d:=by
 obtain ⟨x,hx,e⟩:=zRO h0 h1
 exact ⟨_,e,q x hx⟩
theorem vv {xs:List D} {i:Int} {R:D->Prop} (h0:0<=i) (h1:i < (xs.length:Int)) (q:∀ x∈xs,R x):∃ d,yU xs i=some d/\R d:=by
 obtain ⟨x,hx,e⟩:=Jp h0 h1
 exact ⟨_,e,q x hx⟩
theorem zRN {y f:Int} {n:Nat} (h:Bd n f) (h1 : -f<=y) (h2:y<=f):Bd n y:=h.of_le (by omega)
theorem vx {α:Type} {P:α->Prop} {xs:List α} {y:α} (h:∀ x∈xs,P x) (k:P y):∀ x∈xs++[y],P x:=λx hx=>by
 rcases List.mem_append.mp hx with hx | hx
 ·exact h x hx
 ·rw [List.mem_singleton.mp hx]; exact k
theorem zJ2 {α β:Type} (f:α->β) (xs:List α) (y:α):(xs.map f)++[f y]=(xs++[y]).map f:=by rw [List.map_append]; rfl
theorem zKG {xs:List D} {k:Nat}:zh xs (some (k:Int)) none=xs.drop k:=by
 unfold zh
 rw [HT.sIx_none,HT.sIx_nat,List.take_of_length_le (by rw [List.length_drop]; omega)]
 by_cases h:k<=xs.length
 ·rw [Nat.min_eq_left h]
 ·rw [Nat.min_eq_right (by omega),List.drop_length,List.drop_of_length_le (by omega)]
abbrev WH:Int:=10 ^ (45:Int).toNat
def Jq:FL:=λds R=>∃ ns k,ds=[.scr ns,.int k]/\0<=k/\∀ c,R (.int c)
def YC (xs:List Int):Prop:=∀ x∈xs,0<=x/\Bd 150 x
def YD:FL:=λds R=>∃ (c:Int) (n:Nat),ds=[.int c,.int (n:Int)]/\n<=100/\∀ xs,xs.length=n->YC xs->R (L xs)
def gZ:FL:=λds R=>∃ x far:Int,ds=[.int x,.int far]/\0<=far/\Bd 9000 far/\∀ y,-far<=y->y<=far->R (.int y)
def YE:FL:=λds R=>∃ (c:Int) (n:Nat) (u:Int),ds=[.int c,.int (n:Int),.int u]/\n<=3/\0<=u/\Bd 100 u/\∀ bs:List (Int × Int),bs.length=n->(∀ b∈bs,b.1<=b.2/\Bd 105 b.1/\Bd 105 b.2)->R (.lst (bs.map yF))
def wD (n i:Nat) (b:Int × Int):List (List Int):=[yw (i:Int) n 1++[b.2],(yw (i:Int) n 1).map (λx=>0 - x)++[0 - b.1]]
def ui (bs:List (Int × Int)):List (List Int):=(bs.mapIdx (wD bs.length)).flatten
def zQ4:FL:=λds R=>∃ bs:List (Int × Int),ds=[.lst (bs.map yF)]/\bs.length<=100/\R (Rm (ui bs))
def YF:FL:=λds R=>∃ (d:D) (ns:List Int) (bs:List (Int × Int)),ds=[d,.lst (bs.map yF)]/\IS d ns/\ns.length<=3/\(∀ x∈ns,Bd 10 x)/\(∀ b∈bs,Bd 105 b.1/\Bd 105 b.2)/\∀ t,Bd 120 t->R (.int t)
def Jr:FL:=λds R=>∃ (d:D) (ns:List Int),ds=[d]/\IS d ns/\ns.length<=100/\(∀ x∈ns,Bd 200 x)/\∀ ys,ys.length=2 * ns.length->(∀ y∈ys,0<=y/\Bd 200 y)->R (L ys)
abbrev jg (m:MD):D:=.tup [Rm m.rows,Tb m.nexts,L m.steer,Tb m.push,L m.add,.int m.div]
abbrev uj (n:Nat) (bs:List (Int × Int)) (ms:List MD) (u:Int):D:=.tup [.int (n:Int),.lst (bs.map yF),.lst (ms.map jg),.int u]
def zQ5 (C CM:Addr):FL:=λds R=>∃ n bs ms u,ds=[uj n bs ms u]/\we n bs ms/\R (wS C CM n bs ms)
theorem zQy (i j:Nat):(if decide ((j:Int)=(i:Int))=true then (1:Int) else 0)=if (j:Int)=(i:Int) then 1 else 0:=by
 by_cases c:(j:Int)=(i:Int)
 ·rw [if_pos c,if_pos (decide_eq_true c)]
 ·rw [if_neg c,if_neg (by rw [decide_eq_false c]; exact Bool.false_ne_true)]
theorem zJ8 {bs:List (Int × Int)} {k:Nat} (h:k < bs.length) {i:Int} (e:i=(k:Int)):yU (bs.map yF) i=some (yF bs[k]):=by
 rw [gL,e]
 unfold yU wM
 rw [if_pos (by omega),if_pos (by omega)]
 show Option.map yF bs[((k:Nat):Int).toNat]? = _
 rw [show ((k:Nat):Int).toNat=k by omega,List.getElem?_eq_getElem h]
 rfl
theorem zNQ {α:Type} {l:List (List α)} {k:Nat} {x:List α} (h:l[k]? = some x):(l.take (k + 1)).flatten=(l.take k).flatten++x:=by
 rw [kg h,List.flatten_append,List.flatten_singleton]
section
variable {P:Program} {w:World} {K:PySem.W.Frag} {mg:Str->Option Value} {base:Heap}
abbrev Js:Stmt:=zm 75
theorem zIC:ze ["_law_script","_law_k"] ["_law_script","_law_k"] (zK Js):=.a
abbrev Jt:Stmt:=zm 76
theorem jh:ze ["_law_cell","_law_many","_law_found","_law_rest","_law_k","_law_number_here"] ["_law_cell","_law_many"] (zK Jt):=.a
abbrev Ju:Stmt:=zm 77
theorem zIn:ze ["_law_x","_law_far"] ["_law_x","_law_far"] (zK Ju):=.a
abbrev Jv:Stmt:=zm 79
theorem YG:ze ["_law_cell","_law_many","_law_unit","_law_xs","_law_box_here","_law_i","_law_low"] ["_law_cell","_law_many","_law_unit"] (zK Jv):=.a
abbrev YH:Stmt:=zm 80
theorem WI:ze ["_law_box_here","_law_rows_here","_law_i","_law_ones"] ["_law_box_here"] (zK YH):=.a
variable {ae ag aClaim aSettles aComes aPaper aRooms aFalls:Addr} (aa:zE K mg "Mode" ae) (ab:wz K ae) (ac:zE K mg "Thing" ag) (af:w4 K ag) (TClaim:zE K mg "Claim" aClaim) (AClaim:w6 K aClaim) (TSettles:zE K mg "Settles" aSettles) (ASettles:w8 K aSettles) (TComes:zE K mg "Comes" aComes) (AComes:vA K aComes) (TPaper:zE K mg "Paper" aPaper) (APaper:vB K aPaper) (TRooms:zE K mg "Rooms" aRooms) (ARooms:vC K aRooms) (TFalls:zE K mg "Falls" aFalls) (AFalls:vD K aFalls) (Y:yu K aComes aSettles)
include aa ab ac af TClaim AClaim TSettles ASettles TComes AComes TPaper APaper TRooms ARooms TFalls AFalls Y
theorem zIL {k:Nat} {f:Addr} {fd:FuncData} (F:zf K "_law_cell_at" "_law_cell_at" Js f fd) (B:Bl mg):zH P w K mg base zZ (k + 1) f fd ["_law_script","_law_k"] (zI (Jq)):=by
 refine zu F zIC (λds R h=>by obtain ⟨ns,k,rfl,_⟩:=h; rfl) λcdv A outer s H E hr=>⟨_,(zJ (yE (Ua (zA 1) (zq yV yZ rfl B.len_ yW (zB (zA 0) zC))) (zO (zV (zT (zA 0) (zA 1) (λ_ _=>rfl)))) yD)
  (zO (zV zD))),λds R h=>?_⟩
 obtain ⟨ns,k,rfl,h0,q⟩:=h
 refine w2 (λc=>?_) λc=>q 0
 obtain ⟨x,_,e⟩:=Jp h0 (of_decide_eq_true c)
 exact ⟨x,e,q x⟩
theorem zI3 {k:Nat} {f:Addr} {fd:FuncData} (F:zf K "_law_stream" "_law_stream" Jt f fd) (B:Bl mg):zH P w K mg base zZ (k + 1) f fd ["_law_cell","_law_many"] (zI (YD)):=by
 refine zu F jh (λds R h=>by obtain ⟨c,n,rfl,_⟩:=h; rfl) λcdv A outer s H E hr=>⟨_,(zJ (vc 2 jh.nd rfl (Or.inl rfl) zC)
  (zJ (yE (zQH (zA 0) (jU zD zD)) (zJ (zp 3 jh.nd rfl (Or.inl rfl) (wI (zA 0) (jU zD zD)))
   (zJ (uC PassesOwn.never rfl (xn rfl B.range_ (zB (zA 1) zC)) (zy 4 jh.nd rfl (Or.inl rfl)) (zJ (yC (wL (wU PySem.F.plainAttrs_list PySem.F.slot_list_append PySem.F.type_list_append yk (yT 2) (zg (yr (zA 3) (jU zD zD)) yB))) wa)
    (zO (zp 3 jh.nd rfl (Or.inl rfl) (wJ (zA 3) (jU zD zD))))))
   (zO (wj 2 (zV (zA 2)))))) yD)
  (zJ (zp 5 jh.nd rfl (Or.inl rfl) (zX (yr (zA 0) (zX (jU zD zD) zD)) zD))
  (zJ (uC PassesOwn.never rfl (xn rfl B.range_ (zB (zX (zA 1) zD) zC)) (zy 4 jh.nd rfl (Or.inl rfl)) (zJ (zp 5 jh.nd rfl (Or.inl rfl) (yr (zX (zX (yH (zA 5) (zA 5)) (yH zD (zA 5))) (zA 4)) (zX (jU zD zD) zD)))
   (zO (yC (wL (wU PySem.F.plainAttrs_list PySem.F.slot_list_append PySem.F.type_list_append yk (yT 2) (zg (zA 5) yB))) wa))))
  (zO (wj 2 (zV (yt (zA 2) (yh zD) y8)))))))),λds R h=>?_⟩
 obtain ⟨c,n,rfl,n1,q⟩:=h
 have b45:Bd 150 WH:=Bd.lit
 have p45:(0:Int) < WH:=by decide
 have b18:Bd 60 ((10:Int) ^ (18:Int).toNat + 9):=Bd.lit
 have p18:(0:Int) < (10:Int) ^ (18:Int).toNat + 9:=by decide
 refine ⟨k0,⟨by decide,by decide,by decide⟩,w2 (λc1=>?_) λc1=>?_⟩
 ·refine ⟨⟨by decide,by decide,by decide⟩,by omega,by omega,?_⟩
  rw [show ((n:Nat):Int).toNat=n by omega]
  refine ⟨λk Γ=>∃ (xs:List Int) (r:Int) (s4:Sl),Γ=[.sh (.int c),.sh (.int (n:Int)),.ow (xs.map D.int),.sh (.int r),s4,.no]/\xs.length=k/\YC xs,⟨[],_,.no,rfl,rfl,λ_ h=>nomatch h⟩,?_,?_⟩
  ·rintro k d Γ' hk ⟨xs,r,s4,rfl,lx,hx⟩
   obtain ⟨kn,rfl⟩:=qK hk
   refine ⟨⟨by decide,by decide,by decide⟩,by decide,by rw [List.length_map]; omega,?_⟩
   refine ⟨⟨by decide,by decide,by decide⟩,by decide,b45.mono,?_⟩
   refine ⟨xs++[r.fmod WH],r.fdiv WH,.sh (.int (k:Int)),?_,by rw [List.length_append,lx]; rfl,vx hx ⟨(md r p45).1,vf b45 p45⟩⟩
   rw [List.map_append]
   rfl
  ·rintro Γ' ⟨xs,r,s4,rfl,lx,hx⟩
   rw [qL] at lx
   exact q xs lx hx
 ·refine ⟨⟨by decide,by decide,by decide⟩,by decide,?_⟩
  have m0:=md c p18
  have bm:Bd 60 (c.fmod ((10:Int) ^ (18:Int).toNat + 9)):=vf b18 p18
  refine ⟨by omega,by omega,?_⟩
  rw [show ((n:Int) + 2).toNat=n + 2 by omega]
  refine ⟨λk Γ=>∃ (xs:List Int) (r:Int) (s4:Sl),Γ=[.sh (.int c),.sh (.int (n:Int)),.ow (xs.map D.int),.no,s4,.sh (.int r)]/\xs.length=k/\YC xs/\Bd 70 r,⟨[],_,.no,rfl,rfl,(λ_ h=>nomatch h),((bm.mono (show 60<=65 by decide)).add ((Bd.lit (i:=48271) (n:=16)).mono (show 16<=65 by decide))).mono⟩,?_,?_⟩
  ·rintro k d Γ' hk ⟨xs,r,s4,rfl,lx,hx,br⟩
   obtain ⟨kn,rfl⟩:=qK hk
   refine ⟨br.mono,br.mono,(Bd.lit (i:=48271) (n:=16)).mono,br.mono,⟨by decide,by decide,by decide⟩,by decide,by rw [List.length_map]; omega,?_⟩
   refine ⟨xs++[(r * r + 48271 * r + (k:Int)).fmod ((10:Int) ^ (18:Int).toNat + 9)],(r * r + 48271 * r + (k:Int)).fmod ((10:Int) ^ (18:Int).toNat + 9),.sh (.int (k:Int)),?_,?_,vx hx ⟨(md (r * r + 48271 * r + (k:Int)) p18).1,(vf b18 p18).mono⟩,(vf b18 p18).mono⟩
   ·rw [List.map_append]
    rfl
   ·rw [List.length_append,lx]; rfl
  ·rintro Γ' ⟨xs,r,s4,rfl,lx,hx,br⟩
   rw [qL] at lx
   have e:zh (xs.map D.int) (some 2) none=(xs.drop 2).map D.int:=by rw [show (2:Int)=((2:Nat):Int) from rfl,zKG,List.map_drop]
   have qq:=q (xs.drop 2) (by rw [List.length_drop]; omega) (λx hx'=>hx x (List.mem_of_mem_drop hx'))
   unfold L at qq
   rw [<- e] at qq
   exact qq
theorem zI6 {k:Nat} {f:Addr} {fd:FuncData} (F:zf K "_law_number" "_law_number" Ju f fd) (B:Bl mg):zH P w K mg base zZ (k + 1) f fd ["_law_x","_law_far"] (zI (gZ)):=by
 refine zu F zIn (λds R h=>by obtain ⟨x,far,rfl,_⟩:=h; rfl) λcdv A outer s H E hr=>⟨_,(zO (zV (wI (yr (zA 0) (zX (yH zD (zA 1)) zD)) (zA 1)))),λds R h=>?_⟩
 obtain ⟨x,far,rfl,f0,bf,q⟩:=h
 have:=md x (show (0:Int) < 2 * far + 1 by omega)
 exact ⟨(Bd.lit (i:=2) (n:=2)).mono,bf.mono,by omega,q _ (by omega) (by omega)⟩
theorem zNx {k:Nat} {f:Addr} {fd:FuncData} (F:zf K "_law_box" "_law_box" Jv f fd) (B:Bl mg) (ar:Fn P w K mg base "_law_stream" ["_law_cell","_law_many"] k (zI (YD))) (al:Fn P w K mg base "_law_number" ["_law_x","_law_far"] k (zI (gZ))):zH P w K mg base zZ (k + 1) f fd ["_law_cell","_law_many","_law_unit"] (zI (YE)):=by
 refine zu F YG (λds R h=>by obtain ⟨c,n,u,rfl,_⟩:=h; rfl) λcdv A outer s H E hr=>⟨_,(zJ (zp 3 YG.nd rfl (Or.inl rfl) (zP ar hr rfl (zB (zA 0) (zB (yH zD (zA 1)) zC))))
  (zJ (vc 4 YG.nd rfl (Or.inl rfl) zC)
  (zJ (uC PassesOwn.never rfl (xn rfl B.range_ (zB (zA 1) zC)) (zy 5 YG.nd rfl (Or.inl rfl)) (zJ (zp 6 YG.nd rfl (Or.inl rfl) (yH (zP al hr rfl (zB (zT (zA 3) (yH zD (zA 5)) (λ_ _=>rfl)) (zB zD zC))) (zA 2)))
   (zO (yC (wL (wU PySem.F.plainAttrs_list PySem.F.slot_list_append PySem.F.type_list_append yk (yT 4) (zg (xb (zB (zA 6) (zB (zX (zX (zA 6) (yH (yr (zT (zA 3) (zX (yH zD (zA 5)) zD) (λ_ _=>rfl)) zD) (zA 2))) (yr (wJ (zT (zA 3) (zX (yH zD (zA 5)) zD) (λ_ _=>rfl)) zD) zD)) zC))) yB))) wa))))
  (zO (wj 4 (zV (zA 4))))))),λds R h=>?_⟩
 obtain ⟨c,n,u,rfl,n3,u0,bu,q⟩:=h
 have b2:Bd 2 (2:Int):=Bd.lit
 refine ⟨b2.mono,(qg n3).mono,c,2 * n,by rw [show ((2 * n:Nat):Int)=2 * (n:Int) by omega],by omega,λxs lx hx=>?_⟩
 refine ⟨k0,by omega,by omega,?_⟩
 rw [show ((n:Nat):Int).toNat=n by omega]
 refine ⟨λk Γ=>∃ (bs:List (Int × Int)) (s5 s6:Sl),Γ=[.sh (.int c),.sh (.int (n:Int)),.sh (.int u),.sh (L xs),.ow (bs.map yF),s5,s6]/\bs.length=k/\∀ b∈bs,b.1<=b.2/\Bd 105 b.1/\Bd 105 b.2,⟨[],.no,.no,rfl,rfl,λ_ h=>nomatch h⟩,?_,?_⟩
 ·rintro k d Γ' hk ⟨bs,s5,s6,rfl,lb,hb⟩
  obtain ⟨kn,rfl⟩:=qK hk
  have bk:Bd 2 (k:Int):=qg (by omega)
  refine ⟨b2.mono,bk.mono,yz (by omega) (by omega) λx hx1=>⟨x,3,rfl,by decide,(Bd.lit (i:=3) (n:=2)).mono,λy y1 y2=>?_⟩⟩
  have by2:Bd 2 y:=zRN (f:=3) Bd.lit y1 y2
  refine ⟨by2.mono,bu.mono,?_⟩
  refine ⟨b2.mono,bk.mono,yz (by omega) (by omega) λx2 hx2=>⟨by decide,(Bd.mono (n:=3) (vf Bd.lit (by decide)) (by decide)),bu.mono,b2.mono,bk.mono,yz (by omega) (by omega) λx3 hx3=>⟨by decide,(Bd.lit (i:=4) (n:=3)).mono,by decide,k0,by rw [List.length_map]; omega,?_⟩⟩⟩
  have m1:=md x2 (show (0:Int) < 4 by decide)
  have m2:=md (x3.fdiv 4) (show (0:Int) < 2 by decide)
  have g0:0<=x2.fmod 4 * u:=Int.mul_nonneg m1.1 u0
  have c1:Bd 102 (y * u):=by2.mul bu
  have c2:Bd 103 (x2.fmod 4 * u):=(vf (n:=3) Bd.lit (by decide)).mul bu
  have c3:Bd 2 ((x3.fdiv 4).fmod 2):=vf Bd.lit (by decide)
  refine ⟨bs++[(y * u,y * u + x2.fmod 4 * u + (x3.fdiv 4).fmod 2)],.sh (.int (k:Int)),.sh (.int (y * u)),?_,by rw [List.length_append,lb]; rfl,vx hb ⟨by show y * u<=y * u + x2.fmod 4 * u + (x3.fdiv 4).fmod 2; omega,c1.mono,((c1.mono (show 102<=103 by decide)).add c2 |>.add c3.mono).mono⟩⟩
  rw [List.map_append]
  rfl
 ·rintro Γ' ⟨bs,s5,s6,rfl,lb,hb⟩
  rw [qL] at lb
  exact q bs lb hb
theorem zL1 {k:Nat} {f:Addr} {fd:FuncData} (F:zf K "_law_rows" "_law_rows" YH f fd) (B:Bl mg):zH P w K mg base zZ (k + 1) f fd ["_law_box_here"] (zI (zQ4)):=by
 refine zu F WI (λds R h=>by obtain ⟨bs,rfl,_⟩:=h; rfl) λcdv A outer s H E hr=>⟨_,(zJ (vc 1 WI.nd rfl (Or.inl rfl) zC)
  (zJ (uC PassesOwn.never rfl (xn rfl B.range_ (zB (zq yV yZ rfl B.len_ yW (zB (zA 0) zC)) zC)) (zy 2 WI.nd rfl (Or.inr rfl)) (zJ (uy 3 false WI.nd rfl rfl (own:=["_law_j"]) (caps:=[(2,"_law_i")]) (zz (S:=zK YH) (N:=["_law_box_here","_law_rows_here","_law_i","_law_ones"]) rfl (by decide +kernel) rfl ⟨_,rfl⟩ rfl (by decide +kernel) (by decide +kernel)) rfl rfl yJ (xn rfl B.range_ (zB (zq yV yZ rfl B.len_ yW (zB (zA 0) zC)) zC)) (λ_ _ _ _=>(zy 0 (show (["_law_j","_law_i"]:List Str).Nodup by decide +kernel) rfl (Or.inl rfl))) (λ_ _ _ _=>(xI Yl zMx rfl B.int_ kX (zB (uP hr.units (zA 0) (zA 1)) zC))) rfl)
   (zJ (yC (wL (wU PySem.F.plainAttrs_list PySem.F.slot_list_append PySem.F.type_list_append yk (yT 1) (zg (xI wd wg rfl B.tuple_ xk (zB (zX (zA 3) (yO (zB (zT (zT (zA 0) (zA 2) (λ_ _=>rfl)) zD (λ_ _=>rfl)) zC))) zC)) yB))) wa)
   (zO (yC (wL (wU PySem.F.plainAttrs_list PySem.F.slot_list_append PySem.F.type_list_append yk (yT 1) (zg (xI wd wg rfl B.tuple_ xk (zB (zX (yI (own:=["_law_one"]) (caps:=[]) (zz (S:=zK YH) (N:=["_law_box_here","_law_rows_here","_law_i","_law_ones"]) rfl (by decide +kernel) rfl ⟨_,rfl⟩ rfl (by decide +kernel) (by decide +kernel)) rfl rfl yJ (yy (zA 3)) (λ_ _ _ _=>(zy 0 (show (["_law_one"]:List Str).Nodup by decide +kernel) rfl (Or.inl rfl))) (λ_ _ _ _=>(wI zD (zA 0)))) (yO (zB (wI zD (zT (zT (zA 0) (zA 2) (λ_ _=>rfl)) zD (λ_ _=>rfl))) zC))) zC)) yB))) wa)))))
  (zO (wj 1 (zV (zA 1)))))),λds R h=>?_⟩
 obtain ⟨bs,rfl,l1,q⟩:=h
 have lp:(List.map yF bs).length=bs.length:=List.length_map ..
 refine ⟨k0,by omega,by omega,?_⟩
 rw [show ((List.length (List.map yF bs):Nat):Int).toNat=bs.length by omega]
 refine ⟨λk Γ=>∃ (s2 s3:Sl),Γ=[.sh (.lst (bs.map yF)),.ow ((((bs.mapIdx (wD bs.length)).take k).flatten).map U),s2,s3],⟨.no,.no,rfl⟩,?_,?_⟩
 ·rintro k d Γ' hk ⟨s2,s3,rfl⟩
  obtain ⟨kn,rfl⟩:=qK hk
  have hx:(bs.mapIdx (wD bs.length))[k]? = some (wD bs.length k bs[k]):=by rw [List.getElem?_mapIdx,List.getElem?_eq_getElem kn]; rfl
  have ll:((bs.mapIdx (wD bs.length)).take k).flatten.length=2 * k:=by
   rw [List.length_flatten]
   have e:((bs.mapIdx (wD bs.length)).take k).map List.length=List.replicate k 2:=by
    refine List.ext_getElem (by simp; omega) λi h1 h2=>?_
    simp [wD]
   rw [e]
   simp
   omega
  refine ⟨by omega,by omega,?_⟩
  rw [show ((List.length (List.map yF bs):Nat):Int).toNat=bs.length by omega]
  refine zl.rng0 (λj=>.int (if (j:Int)=(k:Int) then 1 else 0)) (by omega) (λj hj=>by show D.int _=_; rw [zQy]) ?_
  have eu:(List.range bs.length).map (λj:Nat=>D.int (if (j:Int)=(k:Int) then 1 else 0))=(yw (k:Int) bs.length 1).map D.int:=by unfold yw; rw [List.map_map]; rfl
  rw [eu]
  refine ⟨_,zJ8 kn rfl,_,rfl,k0,by rw [List.length_map,ub]; show _ + 1<=1000; omega,by rw [List.length_map]; omega,?_⟩
  refine zl.int (λx=>0 - x) (by rw [ub]; omega) (λx hx=>rfl) ?_
  refine ⟨_,zJ8 kn rfl,_,rfl,k0,by rw [List.length_map,List.length_map,ub]; show _ + 1<=1000; omega,by rw [List.length_append,List.length_map]; show _ + 1 < 1000; omega,?_⟩
  refine ⟨.sh (.int (k:Int)),.sh (L (yw (k:Int) bs.length 1)),?_⟩
  rw [zNQ hx,List.map_append]
  unfold wD
  rw [List.map_cons,List.map_cons,List.map_nil,U,U,List.map_append,List.map_append,<- List.append_cons]
  rfl
 ·rintro Γ' ⟨s2,s3,rfl⟩
  rw [qL,List.take_of_length_le (by rw [List.length_mapIdx]; omega)]
  exact q
end
theorem IS.zipL {d:D} {ns:List Int} {es:List D} (h:IS d ns) {R:List D->Prop} (q:R (List.zipWith xQ (ns.map D.int) es)):uS [d,.lst es] R:=by
 rcases h with rfl | rfl <;> exact q
theorem Jw {α β:Type} {u:α->D} {v:β->D}:∀ {xs:List α} {ys:List β} {d:D},d∈List.zipWith xQ (xs.map u) (ys.map v)->∃ x∈xs,∃ y∈ys,d=xQ (u x) (v y)
 | [],_,_,h=>by cases h
 | _ :: _,[],_,h=>by cases h
 | x :: xs,y :: ys,d,h=>by
  rw [List.map_cons,List.map_cons,List.zipWith_cons_cons] at h
  rcases List.mem_cons.mp h with rfl | h
  ·exact ⟨x,List.mem_cons_self,y,List.mem_cons_self,rfl⟩
  ·obtain ⟨a,ha,b,hb,e⟩:=Jw h
   exact ⟨a,List.mem_cons_of_mem _ ha,b,List.mem_cons_of_mem _ hb,e⟩
theorem YI {α β:Type} {u:α->D} {v:β->D} {xs:List α} {ys:List β} {k:Nat} {d:D} (h:(List.zipWith xQ (xs.map u) (ys.map v))[k]? = some d):∃ x∈xs,∃ y∈ys,d=xQ (u x) (v y):=Jw (List.mem_of_getElem? h)
theorem YJ {e:Nat} {a b:Int} (h:Bd e a) (k:Bd e b):Bd e (max a b):=by
 rw [Int.max_def]
 split
 ·exact k
 ·exact h
theorem YK {a:Nat}:∀ {ns:List Int},(∀ x∈ns,Bd a x)->Bd (a + ns.length) ns.sum
 | [],_=>by rw [List.sum_nil]; exact xc
 | n :: ns,h=>by
  rw [List.sum_cons,List.length_cons]
  exact (((h n List.mem_cons_self).mono (show a<=a + ns.length by omega)).add (YK λx hx=>h x (List.mem_cons_of_mem _ hx))).mono (by omega)
theorem zOS:∀ {ns:List Int},(∃ c∈ns,c≠0)->1<=(ns.map λc=>c * c).sum
 | [],h=>by obtain ⟨_,h,_⟩:=h; cases h
 | n :: ns,h=>by
  rw [List.map_cons,List.sum_cons]
  have nn:∀ l:List Int,0<=(l.map λc=>c * c).sum:=λl=>by
   induction l with
   | nil=>exact Int.le_refl 0
   | cons a l ih=>
    rw [List.map_cons,List.sum_cons]
    have:(0:Int)<=a * a:=by rw [<- Int.natAbs_mul_self]; omega
    omega
  by_cases c:n=0
  ·obtain ⟨z,hz,z0⟩:=h
   have:=zOS (ns:=ns) ⟨z,(List.mem_cons.mp hz).resolve_left (λe=>z0 (e.trans c)),z0⟩
   rw [c]
   omega
  ·have h1:=nn ns
   have h2:0 < n * n:=by
    rcases Int.lt_or_gt_of_ne c with c | c
    ·exact Int.mul_pos_of_neg_of_neg c c
    ·exact Int.mul_pos c c
   omega
theorem zLP {P:List Int->Prop}:∀ {es:List D},(∀ e∈es,∃ r,e=L r/\P r)->∃ t:List (List Int),es=t.map L/\∀ r∈t,P r
 | [],_=>⟨[],rfl,λ_ h=>nomatch h⟩
 | e :: es,h=>by
  obtain ⟨ns,rfl,k⟩:=zLP (es:=es) λx m=>h x (List.mem_cons_of_mem _ m)
  obtain ⟨i,rfl,p⟩:=h e List.mem_cons_self
  exact ⟨i :: ns,rfl,λx m=>(List.mem_cons.mp m).elim (λz=>z ▸ p) (k x)⟩
theorem zRS (a b:List Int):L (a++b)=.lst (a.map D.int++b.map D.int):=by unfold L; rw [List.map_append]
theorem vU {y:Int} {f n:Nat} (h:f < 2 ^ n) (h1 : -(f:Int)<=y) (h2:y<=(f:Int)):Bd n y:=by
 show y.natAbs < 2 ^ n
 omega
structure Dr (n:Nat) (bs:List (Int × Int)) (ms:List MD) (u:Int) (goal:List Int) (often step:Int):Prop where
 ok:we n bs ms
 hms:∀ m∈ms,u7 200 m
 cl:qV ms=true
 hbs:∀ b∈bs,Bd 105 b.1/\Bd 105 b.2
 u1:1<=u
 bu:Bd 100 u
 lg:goal.length=n
 bg:∀ c∈goal,-2<=c/\c<=2
 o1:1<=often
 o3:often<=3
 s1:1<=step
 bst:Bd 101 step
 b2:bs.length<=2
 m3:ms.length<=3
 r1:∀ m∈ms,m.rows.length<=1
 pb:∀ m∈ms,∀ r∈m.push,∀ x∈r,Bd 100 x
def YL:FL:=λds R=>∃ (xs goal:List Int) (bs:List (Int × Int)) (often step:Int),ds=[L xs,L goal,.lst (bs.map yF),.int often,.int step]/\4<=xs.length/\YC xs/\1<=goal.length/\goal.length<=3/\(∀ c∈goal,-2<=c/\c<=2)/\(∃ c∈goal,c≠0)/\bs.length<=2/\(∀ b∈bs,Bd 105 b.1/\Bd 105 b.2)/\1<=often/\often<=3/\1<=step/\Bd 101 step/\∀ m,yb m goal.length bs.length->u7 200 m->(∀ x∈m.steer,x=0)->m.rows.length<=1->(∀ r∈m.push,∀ x∈r,Bd 100 x)->R (jg m)
def zOr:FL:=λds R=>∃ ns,ds=[.scr ns]/\∀ n bs ms u goal often step,Dr n bs ms u goal often step->R (.tup [uj n bs ms u,L goal,.int often,.int step])
def zMU:FL:=λds R=>∃ n bs ms u m d ns,ds=[uj n bs ms u,jg m,d]/\n<=3/\bs.length<=2/\yb m n bs.length/\(∀ r∈m.push,∀ x∈r,Bd 100 x)/\IS d ns/\ns.length=n/\(∀ x∈ns,Bd 10 x)/\∀ ys,ys.length=2 * bs.length->(∀ y∈ys,0<=y/\Bd 200 y)->R (L ys)
section
variable {P:Program} {w:World} {K:PySem.W.Frag} {mg:Str->Option Value} {base:Heap}
abbrev Jx:Stmt:=zm 81
theorem YM:ze ["_law_numbers","_law_box_here","_law_found","_law_number_here","_law_bounds"] ["_law_numbers","_law_box_here"] (zK Jx):=.a
abbrev Jy:Stmt:=zm 82
theorem WJ:ze ["_law_numbers","_law_found","_law_number_here"] ["_law_numbers"] (zK Jy):=.a
abbrev YN:Stmt:=zm 78
theorem vy:ze ["_law_spec","_law_many","_law_pushes","_law_modes","_law_unit","_law_some","_law_rows_here","_law_nexts","_law_steer","_law_push","_law_add","_law_divisor","_law_lists"] ["_law_spec"] (zK YN):=.a
abbrev uk:Stmt:=zm 84
theorem uF:ze ["_law_xs","_law_goal","_law_pushes","_law_often","_law_step","_law_many","_law_divisor","_law_push","_law_i","_law_pushed_here","_law_worst_push","_law_size","_law_far","_law_nexts","_law_rows_here","_law_row"] ["_law_xs","_law_goal","_law_pushes","_law_often","_law_step"] (zK uk):=.a
variable {ae ag aClaim aSettles aComes aPaper aRooms aFalls:Addr} (aa:zE K mg "Mode" ae) (ab:wz K ae) (ac:zE K mg "Thing" ag) (af:w4 K ag) (TClaim:zE K mg "Claim" aClaim) (AClaim:w6 K aClaim) (TSettles:zE K mg "Settles" aSettles) (ASettles:w8 K aSettles) (TComes:zE K mg "Comes" aComes) (AComes:vA K aComes) (TPaper:zE K mg "Paper" aPaper) (APaper:vB K aPaper) (TRooms:zE K mg "Rooms" aRooms) (ARooms:vC K aRooms) (TFalls:zE K mg "Falls" aFalls) (AFalls:vD K aFalls) (Y:yu K aComes aSettles)
include aa ab ac af TClaim AClaim TSettles ASettles TComes AComes TPaper APaper TRooms ARooms TFalls AFalls Y
theorem zNv {k:Nat} {f:Addr} {fd:FuncData} (F:zf K "_law_top" "_law_top" Jx f fd) (B:Bl mg):zH P w K mg base zZ (k + 1) f fd ["_law_numbers","_law_box_here"] (zI (YF)):=by
 refine zu F YM (λds R h=>by obtain ⟨d,ns,bs,rfl,_⟩:=h; rfl) λcdv A outer s H E hr=>⟨_,(zJ (zp 2 YM.nd rfl (Or.inl rfl) zD)
  (zJ (uC PassesOwn.never rfl (ud rfl B.zip_ (zB (zA 0) (zB (zA 1) zC))) (xi rfl (zk 3 YM.nd rfl (Or.inl rfl) (zk 4 YM.nd rfl (Or.inl rfl) xh))) (zO (zp 2 YM.nd rfl (Or.inl rfl) (zX (zA 2) (zq (kI rfl) ZX rfl B.max_ kb (zB (yH (zA 3) (zT (zA 4) zD (λ_ _=>rfl))) (zB (yH (zA 3) (zT (zA 4) zD (λ_ _=>rfl))) zC)))))))
  (zO (zV (zA 2))))),λds R h=>?_⟩
 obtain ⟨d,ns,bs,rfl,h,l3,bn,bb,q⟩:=h
 refine h.zipL ?_
 refine ⟨λk Γ=>∃ (f:Int) (s3 s4:Sl),Γ=[.sh d,.sh (.lst (bs.map yF)),.sh (.int f),s3,s4]/\Bd (116 + k) f,⟨0,.no,.no,rfl,xc⟩,?_,?_⟩
 ·rintro k d' Γ' hk ⟨f,s3,s4,rfl,bf⟩
  obtain ⟨x,hx,b,hb,rfl⟩:=YI hk
  have b0:=(bb b hb).1
  have b1:=(bb b hb).2
  refine ⟨_,rfl,(bn x hx).mono,b0.mono,_,rfl,(bn x hx).mono,b1.mono,?_⟩
  exact ⟨_,.sh (.int x),.sh (yF b),rfl,(bf.add ((YJ ((bn x hx).mul b0) ((bn x hx).mul b1)).mono (by omega))).mono (by omega)⟩
 ·rintro Γ' ⟨f,s3,s4,rfl,bf⟩
  rw [List.length_zipWith,List.length_map,List.length_map] at bf
  exact q f (bf.mono (by omega))
theorem zL3 {k:Nat} {f:Addr} {fd:FuncData} (F:zf K "_law_both" "_law_both" Jy f fd) (B:Bl mg):zH P w K mg base zZ (k + 1) f fd ["_law_numbers"] (zI (Jr)):=by
 refine zu F WJ (λds R h=>by obtain ⟨d,ns,rfl,_⟩:=h; rfl) λcdv A outer s H E hr=>⟨_,(zJ (zp 1 WJ.nd rfl (Or.inl rfl) (yO zC))
  (zJ (uC PassesOwn.never rfl (yy (zA 0)) (zy 2 WJ.nd rfl (Or.inl rfl)) (zO (zp 1 WJ.nd rfl (Or.inl rfl) (zX (zA 1) (yO (zB (zq (kI rfl) ZX rfl B.max_ kb (zB (zA 2) (zB zD zC))) (zB (zq (kI rfl) ZX rfl B.max_ kb (zB (wI zD (zA 2)) (zB zD zC))) zC)))))))
  (zO (zV (zA 1))))),λds R h=>?_⟩
 obtain ⟨d,ns,rfl,h,l3,bn,q⟩:=h
 refine ⟨k0,h.seq ?_⟩
 refine ⟨λk Γ=>∃ (ys:List Int) (s2:Sl),Γ=[.sh d,.sh (L ys),s2]/\ys.length=2 * k/\∀ y∈ys,0<=y/\Bd 200 y,⟨[],.no,rfl,rfl,λ_ h=>nomatch h⟩,?_,?_⟩
 ·rintro k d' Γ' hk ⟨ys,s2,rfl,ly,hy⟩
  have kl:=(List.getElem?_eq_some_iff.mp hk).1
  rw [List.length_map] at kl
  obtain ⟨x,hx,rfl⟩:=List.mem_map.mp (List.mem_of_getElem? hk)
  have bx:=bn x hx
  refine ⟨k0,by rw [List.length_map]; show _ + 2<=1000; omega,?_⟩
  refine ⟨ys++[max x 0,max (0 - x) 0],.sh (.int x),?_,by rw [List.length_append]; show _ + 2=_; omega,λy hy'=>?_⟩
  ·rw [zRS]
   rfl
  ·rcases List.mem_append.mp hy' with hy' | hy'
   ·exact hy y hy'
   ·rcases List.mem_cons.mp hy' with rfl | hy'
    ·exact ⟨by omega,YJ bx xc⟩
    ·rw [List.mem_singleton.mp hy',Int.zero_sub]
     exact ⟨by omega,YJ bx.neg xc⟩
 ·rintro Γ' ⟨ys,s2,rfl,ly,hy⟩
  rw [List.length_map] at ly
  exact q ys ly hy
theorem zL2 {k:Nat} {f:Addr} {fd:FuncData} (F:zf K "_law_made" "_law_made" YN f fd) (B:Bl mg) (aO:v7 P w K mg base ae ["self","rows","nexts","steer","push","add","divisor"] k (wl ae (JC ae))) (aP:v7 P w K mg base ag ["self","many","pushes","modes"] k (wl ag (JD ag ae))):zH P w K mg base zZ (k + 1 + 1) f fd ["_law_spec"] (zI (zQ5 ag ae)):=by
 refine zu F vy (λds R h=>by obtain ⟨n,bs,ms,u,rfl,_⟩:=h; rfl) λcdv A outer s H E hr=>⟨_,(zJ (ue (zA 0) (xi rfl (zk 1 vy.nd rfl (Or.inl rfl) (zk 2 vy.nd rfl (Or.inl rfl) (zk 3 vy.nd rfl (Or.inl rfl) (zk 4 vy.nd rfl (Or.inl rfl) xh))))))
  (zJ (vc 5 vy.nd rfl (Or.inl rfl) zC)
  (zJ (uC PassesOwn.never rfl (yy (zA 3)) (xi rfl (zk 6 vy.nd rfl (Or.inl rfl) (zk 7 vy.nd rfl (Or.inl rfl) (zk 8 vy.nd rfl (Or.inl rfl) (zk 9 vy.nd rfl (Or.inl rfl) (zk 10 vy.nd rfl (Or.inl rfl) (zk 11 vy.nd rfl (Or.inl rfl) xh))))))) (zJ (uy 12 false vy.nd rfl rfl (own:=["_law_one"]) (caps:=[]) (zz (S:=zK YN) (N:=["_law_spec","_law_many","_law_pushes","_law_modes","_law_unit","_law_some","_law_rows_here","_law_nexts","_law_steer","_law_push","_law_add","_law_divisor","_law_lists"]) rfl (by decide +kernel) rfl ⟨0,rfl⟩ rfl (by decide +kernel) (by decide +kernel)) rfl rfl yJ (yy (zA 7)) (λ_ _ _ _=>(zy 0 (show (["_law_one"]:List Str).Nodup by decide +kernel) rfl (Or.inl rfl))) (λ_ _ _ _=>(xI uK uQ rfl B.list_ wN (zB (zA 0) zC))) rfl)
   (zO (yC (wL (wU PySem.F.plainAttrs_list PySem.F.slot_list_append PySem.F.type_list_append yk (yT 5) (zg (qP aO aa hr rfl (zB (xI uK uQ rfl B.list_ wN (zB (zA 6) zC)) (zB (zA 12) (zB (xI uK uQ rfl B.list_ wN (zB (zA 8) zC)) (zB (yI (own:=["_law_one"]) (caps:=[]) (zz (S:=zK YN) (N:=["_law_spec","_law_many","_law_pushes","_law_modes","_law_unit","_law_some","_law_rows_here","_law_nexts","_law_steer","_law_push","_law_add","_law_divisor","_law_lists"]) rfl (by decide +kernel) rfl ⟨0,rfl⟩ rfl (by decide +kernel) (by decide +kernel)) rfl rfl yJ (yy (zA 9)) (λ_ _ _ _=>(zy 0 (show (["_law_one"]:List Str).Nodup by decide +kernel) rfl (Or.inl rfl))) (λ_ _ _ _=>(xI uK uQ rfl B.list_ wN (zB (zA 0) zC)))) (zB (xI uK uQ rfl B.list_ wN (zB (zA 10) zC)) (zB (zA 11) zC))))))) yB))) wa))))
  (zO (wj 5 (zV (qP aP ac hr rfl (zB (zA 1) (zB (xI uK uQ rfl B.list_ wN (zB (zA 2) zC)) (zB (zA 5) zC)))))))))),λds R h=>?_⟩
 obtain ⟨n,bs,ms,u,rfl,TO,q⟩:=h
 have m40:=TO.m40
 have n3:=TO.n3
 have b6:=TO.b6
 refine ⟨k0,?_⟩
 refine ⟨λk Γ=>∃ s6 s7 s8 s9 s10 s11 s12:Sl,Γ=[.sh (uj n bs ms u),.sh (.int (n:Int)),.sh (.lst (bs.map yF)),.sh (.lst (ms.map jg)),.sh (.int u),.ow ((ms.take k).map (xo ae)),s6,s7,s8,s9,s10,s11,s12],⟨_,_,_,_,_,_,_,rfl⟩,?_,?_⟩
 ·rintro k d Γ' hk ⟨s6,s7,s8,s9,s10,s11,s12,rfl⟩
  have kl:=(List.getElem?_eq_some_iff.mp hk).1
  rw [List.length_map] at kl
  rw [List.getElem?_map,List.getElem?_eq_getElem kl] at hk
  cases hk
  generalize hm:ms[k]=m
  have o:=TO.mok m (hm ▸ List.getElem_mem kl)
  have hk2:ms[k]? = some m:=by rw [List.getElem?_eq_getElem kl,hm]
  refine wm L zv u4 L (by rw [o.nexts.1]; omega) (λr hr=>rfl) ?_
  refine wm L zv u4 L (by rw [o.push.1]; omega) (λr hr=>rfl) ?_
  refine ⟨_,_,_,_,_,_,rfl,jc o.few (λr hr=>by rw [o.rows r hr]; omega),jb (by rw [o.nexts.1]; omega) (λr hr=>by rw [o.nexts.2 r hr]; omega),vS (by rw [o.steer]; omega),jb (by rw [o.push.1]; omega) (λr hr=>by rw [o.push.2 r hr]; omega),vS (by rw [o.add]; omega),by rw [List.length_map,List.length_take]; omega,?_⟩
  refine ⟨.sh (Rm m.rows),.sh (Tb m.nexts),.sh (L m.steer),.sh (Tb m.push),.sh (L m.add),.sh (.int m.div),.sh (Tb m.nexts),?_⟩
  rw [kg hk2,List.map_append]
  rfl
 ·rintro Γ' ⟨s6,s7,s8,s9,s10,s11,s12,rfl⟩
  rw [List.length_map,List.take_length]
  exact ⟨n,bs,ms,rfl,TO,q⟩
theorem zF6 {k:Nat} {f:Addr} {fd:FuncData} (F:zf K "_law_drift_mode" "_law_drift_mode" uk f fd) (B:Bl mg) (al:Fn P w K mg base "_law_number" ["_law_x","_law_far"] k (zI (gZ))):zH P w K mg base zZ (k + 1) f fd ["_law_xs","_law_goal","_law_pushes","_law_often","_law_step"] (zI (YL)):=by
 refine zu F uF (λds R h=>by obtain ⟨xs,goal,bs,often,step,rfl,_⟩:=h; rfl) λcdv A outer s H E hr=>⟨_,(zJ (zp 5 uF.nd rfl (Or.inr rfl) (zq yV yZ rfl B.len_ yW (zB (zA 1) zC)))
  (zJ (zp 6 uF.nd rfl (Or.inr rfl) (zX zD (yr (zT (zA 0) zD (λ_ _=>rfl)) zD)))
  (zJ (vc 7 uF.nd rfl (Or.inr rfl) zC)
  (zJ (uC PassesOwn.never rfl (xn rfl B.range_ (zB (zA 5) zC)) (zy 8 uF.nd rfl (Or.inr rfl)) (zO (yC (wL (wU PySem.F.plainAttrs_list PySem.F.slot_list_append PySem.F.type_list_append yk (yT 7) (zg (yI (own:=["_law_j"]) (caps:=[(0,"_law_xs"),(8,"_law_i")]) (zz (S:=zK uk) (N:=["_law_xs","_law_goal","_law_pushes","_law_often","_law_step","_law_many","_law_divisor","_law_push","_law_i","_law_pushed_here","_law_worst_push","_law_size","_law_far","_law_nexts","_law_rows_here","_law_row"]) rfl (by decide +kernel) rfl ⟨_,rfl⟩ rfl (by decide +kernel) (by decide +kernel)) rfl rfl yJ (xn rfl B.range_ (zB (zq yV yZ rfl B.len_ yW (zB (zA 2) zC)) zC)) (λ_ _ _ _=>(zy 0 (show (["_law_j","_law_xs","_law_i"]:List Str).Nodup by decide +kernel) rfl (Or.inl rfl))) (λ_ _ _ _=>(zP al hr rfl (zB (wJ (zT (zA 1) zD (λ_ _=>rfl)) (zX (zX zD (yH zD (zA 2))) (yH zD (zA 0)))) (zB zD zC))))) yB))) wa)))
  (zJ (wj 7 (uy 9 false uF.nd rfl rfl (own:=["_law_j"]) (caps:=[(1,"_law_goal"),(3,"_law_often"),(5,"_law_many"),(7,"_law_push")]) (zz (S:=zK uk) (N:=["_law_xs","_law_goal","_law_pushes","_law_often","_law_step","_law_many","_law_divisor","_law_push","_law_i","_law_pushed_here","_law_worst_push","_law_size","_law_far","_law_nexts","_law_rows_here","_law_row"]) rfl (by decide +kernel) rfl ⟨_,rfl⟩ rfl (by decide +kernel) (by decide +kernel)) rfl rfl yJ (xn rfl B.range_ (zB (zq yV yZ rfl B.len_ yW (zB (zA 2) zC)) zC)) (λ_ _ _ _=>(zy 0 (show (["_law_j","_law_goal","_law_often","_law_many","_law_push"]:List Str).Nodup by decide +kernel) rfl (Or.inr rfl))) (λ_ _ _ _=>(yH (zA 2) (zq (jy rfl) qI rfl B.sum_ jx (zB (yI (own:=["_law_i"]) (caps:=[(0,"_law_j"),(1,"_law_goal"),(4,"_law_push")]) (jz rfl (by decide +kernel) (by decide +kernel) (by decide +kernel) (by decide +kernel)) rfl rfl yJ (xn rfl B.range_ (zB (zA 3) zC)) (λ_ _ _ _=>(zy 0 (show (["_law_i","_law_j","_law_goal","_law_push"]:List Str).Nodup by decide +kernel) rfl (Or.inl rfl))) (λ_ _ _ _=>(yH (zT (zA 2) (zA 0) (λ_ _=>rfl)) (zT (zT (zA 3) (zA 0) (λ_ _=>rfl)) (zA 1) (λ_ _=>rfl))))) zC)))) rfl))
  (zJ (zp 10 uF.nd rfl (Or.inl rfl) (zq (jy rfl) qI rfl B.sum_ jx (zB (yI (own:=["_law_c","_law_low","_law_high"]) (caps:=[]) (zz (S:=zK uk) (N:=["_law_xs","_law_goal","_law_pushes","_law_often","_law_step","_law_many","_law_divisor","_law_push","_law_i","_law_pushed_here","_law_worst_push","_law_size","_law_far","_law_nexts","_law_rows_here","_law_row"]) rfl (by decide +kernel) rfl ⟨_,rfl⟩ rfl (by decide +kernel) (by decide +kernel)) rfl rfl (uR (wA (pnc (uR (wA (wA uT))) uT))) (ud rfl B.zip_ (zB (zA 9) (zB (zA 2) zC))) (λ_ _ _ _=>(xi rfl (zk 0 (show (["_law_c","_law_low","_law_high"]:List Str).Nodup by decide +kernel) rfl (Or.inl rfl) (zLj (xi rfl (zk 1 (show (["_law_c","_law_low","_law_high"]:List Str).Nodup by decide +kernel) rfl (Or.inl rfl) (zk 2 (show (["_law_c","_law_low","_law_high"]:List Str).Nodup by decide +kernel) rfl (Or.inl rfl) xh))) (uR (wA (wA uT))) xh)))) (λ_ _ _ _=>(zq (kI rfl) ZX rfl B.max_ kb (zB (yH (zA 0) (zA 1)) (zB (yH (zA 0) (zA 2)) zC))))) zC)))
  (zJ (zp 11 uF.nd rfl (Or.inl rfl) (yH (zA 3) (zq (jy rfl) qI rfl B.sum_ jx (zB (yI (own:=["_law_c"]) (caps:=[]) (zz (S:=zK uk) (N:=["_law_xs","_law_goal","_law_pushes","_law_often","_law_step","_law_many","_law_divisor","_law_push","_law_i","_law_pushed_here","_law_worst_push","_law_size","_law_far","_law_nexts","_law_rows_here","_law_row"]) rfl (by decide +kernel) rfl ⟨_,rfl⟩ rfl (by decide +kernel) (by decide +kernel)) rfl rfl yJ (yy (zA 1)) (λ_ _ _ _=>(zy 0 (show (["_law_c"]:List Str).Nodup by decide +kernel) rfl (Or.inl rfl))) (λ_ _ _ _=>(yH (zA 0) (zA 0)))) zC))))
  (zJ (zp 12 uF.nd rfl (Or.inr rfl) (wI zD (wJ (wI (wI zD (zA 10)) (yH (zA 6) (zA 4))) (zA 11))))
  (zJ (uy 13 false uF.nd rfl rfl (own:=["_law_i"]) (caps:=[(5,"_law_many"),(6,"_law_divisor")]) (zz (S:=zK uk) (N:=["_law_xs","_law_goal","_law_pushes","_law_often","_law_step","_law_many","_law_divisor","_law_push","_law_i","_law_pushed_here","_law_worst_push","_law_size","_law_far","_law_nexts","_law_rows_here","_law_row"]) rfl (by decide +kernel) rfl ⟨_,rfl⟩ rfl (by decide +kernel) (by decide +kernel)) rfl rfl yJ (xn rfl B.range_ (zB (zA 5) zC)) (λ_ _ _ _=>(zy 0 (show (["_law_i","_law_many","_law_divisor"]:List Str).Nodup by decide +kernel) rfl (Or.inr rfl))) (λ_ _ _ _=>(yI (own:=["_law_j"]) (caps:=[(0,"_law_i"),(2,"_law_divisor")]) (jz rfl (by decide +kernel) (by decide +kernel) (by decide +kernel) (by decide +kernel)) rfl rfl yJ (xn rfl B.range_ (zB (zA 1) zC)) (λ_ _ _ _=>(zy 0 (show (["_law_j","_law_i","_law_divisor"]:List Str).Nodup by decide +kernel) rfl (Or.inl rfl))) (λ_ _ _ _=>(yH (zA 2) (xI Yl zMx rfl B.int_ kX (zB (uP hr.units (zA 1) (zA 0)) zC)))))) rfl)
  (zJ (vc 14 uF.nd rfl (Or.inl rfl) zC)
  (ux (yE (wY hr.units (yr (zT (zA 0) zD (λ_ _=>rfl)) zD) zD) (zJ (uy 15 false uF.nd rfl rfl (own:=["_law_i"]) (caps:=[(0,"_law_xs")]) (zz (S:=zK uk) (N:=["_law_xs","_law_goal","_law_pushes","_law_often","_law_step","_law_many","_law_divisor","_law_push","_law_i","_law_pushed_here","_law_worst_push","_law_size","_law_far","_law_nexts","_law_rows_here","_law_row"]) rfl (by decide +kernel) rfl ⟨_,rfl⟩ rfl (by decide +kernel) (by decide +kernel)) rfl rfl yJ (xn rfl B.range_ (zB (zA 5) zC)) (λ_ _ _ _=>(zy 0 (show (["_law_i","_law_xs"]:List Str).Nodup by decide +kernel) rfl (Or.inl rfl))) (λ_ _ _ _=>(zP al hr rfl (zB (wJ (zT (zA 1) zD (λ_ _=>rfl)) (zX zD (yH zD (zA 0)))) (zB zD zC)))) rfl)
   (zO (yC (wL (wU PySem.F.plainAttrs_list PySem.F.slot_list_append PySem.F.type_list_append yk (yT 14) (zg (xI wd wg rfl B.tuple_ xk (zB (zX (zA 15) (yO (zB (yH (zP al hr rfl (zB (zT (zA 0) zD (λ_ _=>rfl)) (zB zD zC))) (zA 4)) zC))) zC)) yB))) wa))) yD)
  (zO (wj 14 (zV (xb (zB (zA 14) (zB (zA 13) (zB (yH (yO (zB zD zC)) (zA 5)) (zB (zA 7) (zB (yI (own:=["_law_c"]) (caps:=[(12,"_law_far")]) (zz (S:=zK uk) (N:=["_law_xs","_law_goal","_law_pushes","_law_often","_law_step","_law_many","_law_divisor","_law_push","_law_i","_law_pushed_here","_law_worst_push","_law_size","_law_far","_law_nexts","_law_rows_here","_law_row"]) rfl (by decide +kernel) rfl ⟨_,rfl⟩ rfl (by decide +kernel) (by decide +kernel)) rfl rfl yJ (yy (zA 1)) (λ_ _ _ _=>(zy 0 (show (["_law_c","_law_far"]:List Str).Nodup by decide +kernel) rfl (Or.inl rfl))) (λ_ _ _ _=>(wI zD (yH (zA 0) (zA 1))))) (zB (zA 6) zC))))))))))))))))))))),λds R h=>?_⟩
 obtain ⟨xs,goal,bs,often,step,rfl,lx,hx,g1,g3,bg,gz,b2,bb,o1,o3,s1,bst,q⟩:=h
 obtain ⟨n,en⟩:∃ n,goal.length=n:=⟨_,rfl⟩
 rw [en] at g1 g3 q
 have lg:(List.map D.int goal).length=n:=by rw [List.length_map]; exact en
 have lb:(List.map yF bs).length=bs.length:=List.length_map ..
 have bo:Bd 2 often:=vU (f:=3) (by decide) (by omega) (by omega)
 have bgo:∀ c∈goal,Bd 2 c:=λc hc=>vU (f:=3) (by decide) (by have:=bg c hc; omega) (by have:=bg c hc; omega)
 refine yz (by decide) (by omega) λx0 _=>⟨by decide,?_⟩
 have d0:=md x0 (show (0:Int) < 3 by decide)
 obtain ⟨dv,hdv⟩:∃ dv,dv=1 + x0.fmod 3:=⟨_,rfl⟩
 have dv1:1<=dv:=by omega
 have bdv:Bd 3 dv:=vU (f:=7) (by decide) (by omega) (by omega)
 refine ⟨k0,by omega,by omega,?_⟩
 rw [show ((List.length (List.map D.int goal):Nat):Int).toNat=n by omega]
 refine ⟨λk Γ=>∃ (P:List (List Int)) (s8:Sl),Γ=[.sh (L xs),.sh (L goal),.sh (.lst (bs.map yF)),.sh (.int often),.sh (.int step),.sh (.int ((List.map D.int goal).length:Int)),.sh (.int dv),.ow (P.map L),s8,.no,.no,.no,.no,.no,.no,.no]/\P.length=k/\∀ r∈P,r.length=bs.length/\∀ x∈r,Bd 2 x,⟨[],.no,by rw [hdv]; rfl,rfl,λ_ h=>nomatch h⟩,?_,?_⟩
 ·rintro k d Γ' hk ⟨P,s8,rfl,lP,hP⟩
  obtain ⟨kn,rfl⟩:=qK hk
  have bk:Bd 2 (k:Int):=qg (by omega)
  refine ⟨by omega,by omega,?_⟩
  rw [show ((List.length (List.map yF bs):Nat):Int).toNat=bs.length by omega]
  refine zl.nums (λx=>Bd 2 x) (by omega) (λj hj=>?_) λns ln hn=>?_
  ·have bj:Bd 2 (j:Int):=qg (by omega)
   refine yz (by decide) (by omega) λx1 _=>⟨(Bd.lit (i:=7) (n:=3)).mono,bk.mono,(Bd.lit (i:=3) (n:=2)).mono,bj.mono,by omega,Bd.mono (n:=10) (vU (f:=1000) (by decide) (by omega) (by omega)) (by decide),_,2,rfl,by decide,(Bd.lit (i:=2) (n:=2)).mono,λy y1 y2=>⟨y,rfl,vU (f:=3) (by decide) (by omega) (by omega)⟩⟩
  ·refine ⟨by rw [List.length_map]; omega,P++[ns],.sh (.int (k:Int)),?_,by rw [List.length_append,lP]; rfl,vx hP ⟨ln,hn⟩⟩
   rw [List.map_append]
   rfl
 rintro Γ' ⟨P,s8,rfl,lP,hP⟩
 rw [qL] at lP
 refine ⟨by omega,by omega,?_⟩
 rw [show ((List.length (List.map yF bs):Nat):Int).toNat=bs.length by omega]
 refine zl.nums (λx=>Bd 9 x) (by omega) (λj hj=>?_) λph lph hph=>?_
 ·refine ⟨by omega,by omega,?_⟩
  rw [show ((List.length (List.map D.int goal):Nat):Int).toNat=n by omega]
  refine zl.nums (λx=>Bd 4 x) (by omega) (λi hi=>?_) λns ln hn=>?_
  ·refine yz (by omega) (by omega) λc hc=>vv (by omega) (by rw [List.length_map]; omega) λr hr=>?_
   obtain ⟨r,hr1,rfl⟩:=List.mem_map.mp hr
   have:=(hP r hr1).1
   exact yz (by omega) (by omega) λy hy=>⟨(bgo c hc).mono,((hP r hr1).2 y hy).mono,_,rfl,(bgo c hc).mul ((hP r hr1).2 y hy)⟩
  ·have bs':=YK hn
   exact ⟨ns,rfl,bo.mono,bs'.mono (by omega),_,rfl,(bo.mul bs').mono (by omega)⟩
 refine zl.all (xz (Bd 114)) (by rw [List.length_zipWith,List.length_map]; omega) (λd hd=>?_) λes le he=>?_
 ·obtain ⟨c,hc,b,hb,rfl⟩:=Jw hd
  have b0:=(bb b hb).1
  have b1:=(bb b hb).2
  exact ⟨(hph c hc).mono,b0.mono,(hph c hc).mono,b1.mono,_,rfl,YJ ((hph c hc).mul b0) ((hph c hc).mul b1)⟩
 obtain ⟨wp,rfl,hwp⟩:=Um he
 have lwp:wp.length<=2:=by
  rw [List.length_map,List.length_zipWith,List.length_map,List.length_map] at le
  omega
 have bwp:Bd 116 wp.sum:=(YK hwp).mono (by omega)
 refine ⟨wp,rfl,?_⟩
 refine zl.int (λc=>c * c) (by omega) (λc hc=>⟨(bgo c hc).mono,(bgo c hc).mono,rfl⟩) ?_
 have sq:∀ x∈goal.map (λc=>c * c),Bd 4 x:=λx hx=>by
  obtain ⟨c,hc,rfl⟩:=List.mem_map.mp hx
  exact (bgo c hc).mul (bgo c hc)
 have bsq:Bd 7 (goal.map λc=>c * c).sum:=(YK sq).mono (by rw [List.length_map]; omega)
 have psq:=zOS gz
 refine ⟨_,rfl,bo.mono,bsq.mono,?_⟩
 have psz:1<=often * (goal.map λc=>c * c).sum:=by
  have:=Int.mul_le_mul o1 psq (by decide) (by omega)
  omega
 refine ⟨bdv.mono,bst.mono,by omega,(bo.mul bsq).mono,?_⟩
 have bfar:Bd 130 (0 - (0 - wp.sum - dv * step).fdiv (often * (goal.map λc=>c * c).sum)):=by
  rw [Int.zero_sub]
  refine (Bd.fdiv (n:=130) ?_ _).neg
  rw [Int.zero_sub]
  exact ((bwp.neg.mono (show 116<=120 by decide)).sub ((bdv.mul bst).mono)).mono
 refine ⟨by omega,by omega,?_⟩
 rw [show ((List.length (List.map D.int goal):Nat):Int).toNat=n by omega]
 refine zl.rng0P (λd=>∃ r,d=L r/\r.length=n/\∀ x∈r,Bd 4 x) (by omega) (λi hi=>?_) λes2 le2 he2=>?_
 ·refine ⟨by omega,by omega,?_⟩
  rw [show ((List.length (List.map D.int goal):Nat):Int).toNat=n by omega]
  refine zl.nums (λx=>Bd 4 x) (by omega) (λj hj=>⟨bdv.mono,?_,_,rfl,?_⟩) λns ln hn=>⟨ns,rfl,ln,hn⟩
  ·split
   ·exact (Bd.lit (i:=1) (n:=1)).mono
   ·exact xc
  ·split
   ·rw [Int.mul_one]; exact bdv.mono
   ·rw [Int.mul_zero]; exact xc
 obtain ⟨nx,rfl,hnx⟩:=zLP he2
 rw [List.length_map] at le2
 have fin:∀ rows:List (List Int),rows.length<=1->(∀ r∈rows,r.length=n + 1/\∀ x∈r,Bd 110 x)->R (jg ⟨rows,nx,List.replicate n 0,P,goal.map λc=>0 - c * (0 - (0 - wp.sum - dv * step).fdiv (often * (goal.map λc=>c * c).sum)),dv⟩):=λrows lr hr=>by
  refine q _ ⟨λr h=>(hr r h).1,by show rows.length<=900; omega,⟨le2,λr h=>(hnx r h).1⟩,List.length_replicate ..,⟨lP,λr h=>(hP r h).1⟩,by show (goal.map _).length=n; rw [List.length_map]; exact en,dv1,g3,by omega⟩ ⟨λr h x hx=>((hnx r h).2 x hx).mono,λx hx=>by rw [List.eq_of_mem_replicate hx]; exact xc,λr h x hx=>((hP r h).2 x hx).mono,λx hx=>?_,bdv.mono,λr h x hx=>((hr r h).2 x hx).mono,by show rows.length<=100; omega⟩ (λx hx=>List.eq_of_mem_replicate hx) lr (λr h x hx=>((hP r h).2 x hx).mono)
  obtain ⟨c,hc,rfl⟩:=List.mem_map.mp hx
  rw [Int.zero_sub]
  exact ((bgo c hc).mul bfar).neg.mono
 have rep:D.lst (List.replicate n (D.int 0))=L (List.replicate n 0):=by unfold L; rw [List.map_replicate]
 refine ⟨k0,λΓ=>∃ (rows:List (List Int)) (s15:Sl),Γ=[.sh (L xs),.sh (L goal),.sh (.lst (bs.map yF)),.sh (.int often),.sh (.int step),.sh (.int ((List.map D.int goal).length:Int)),.sh (.int dv),.sh (.lst (P.map L)),s8,.sh (L ph),.sh (.int wp.sum),.sh (.int (often * (goal.map λc=>c * c).sum)),.sh (.int (0 - (0 - wp.sum - dv * step).fdiv (often * (goal.map λc=>c * c).sum))),.sh (Tb nx),.ow (rows.map U),s15]/\rows.length<=1/\∀ r∈rows,r.length=n + 1/\∀ x∈r,Bd 110 x,yz (by decide) (by omega) λx2 _=>⟨by decide,w2 (λc1=>?_) λc1=>⟨[],_,rfl,by decide,λ_ h=>nomatch h⟩⟩,?_⟩
 ·refine ⟨by omega,by omega,?_⟩
  rw [show ((List.length (List.map D.int goal):Nat):Int).toNat=n by omega]
  refine zl.nums (λx=>Bd 2 x) (by omega) (λi hi=>?_) λrw_ lrw hrw=>?_
  ·have bi:Bd 2 (i:Int):=qg (by omega)
   exact yz (by decide) (by omega) λx3 _=>⟨(Bd.lit (i:=5) (n:=3)).mono,bi.mono,by omega,Bd.mono (n:=10) (vU (f:=1000) (by decide) (by omega) (by omega)) (by decide),_,1,rfl,by decide,(Bd.lit (i:=1) (n:=1)).mono,λy y1 y2=>⟨y,rfl,vU (f:=3) (by decide) (by omega) (by omega)⟩⟩
  refine yz (by decide) (by omega) λx4 _=>⟨_,5,rfl,by decide,(Bd.lit (i:=5) (n:=3)).mono,λy y1 y2=>?_⟩
  have by3:Bd 3 y:=vU (f:=7) (by decide) (by omega) (by omega)
  refine ⟨by3.mono,bst.mono,k0,by rw [List.length_map]; show _ + 1<=1000; omega,by decide,[rw_++[y * step]],.sh (L rw_),?_,by show 1<=1; decide,λr hr=>?_⟩
  ·rw [List.map_cons,List.map_nil,U,List.map_append]
   rfl
  ·rw [List.mem_singleton.mp hr]
   exact ⟨by rw [List.length_append,lrw]; rfl,vx (λx hx=>(hrw x hx).mono) ((by3.mul bst).mono)⟩
 rintro Γ' ⟨rows,s15,rfl,lr,hr⟩
 have F:=fin rows lr hr
 refine ⟨k0,by omega,by omega,?_⟩
 rw [show ((List.length (List.map D.int goal):Nat):Int).toNat=n by omega,rep]
 exact zl.int (λc=>0 - c * (0 - (0 - wp.sum - dv * step).fdiv (often * (goal.map λc=>c * c).sum))) (by omega) (λc hc=>⟨(bgo c hc).mono,bfar.mono,rfl⟩) ⟨k0,F⟩
end
theorem fdE {a b:Int} (h:0 < b):a.fdiv b=a / b:=Int.fdiv_eq_ediv_of_nonneg _ (by omega)
theorem YO {g:List Int} {n:Nat} (l:g.length=n) (h:g≠List.replicate n 0):∃ c∈g,c≠0:=by
 apply Classical.byContradiction
 intro k
 refine h (List.eq_replicate_iff.mpr ⟨l,λc hc=>?_⟩)
 apply Classical.byContradiction
 intro z
 exact k ⟨c,hc,z⟩
section
variable {P:Program} {w:World} {K:PySem.W.Frag} {mg:Str->Option Value} {base:Heap}
abbrev WK:Stmt:=zm 83
theorem uG:ze ["_law_script","_law_first","_law_xs","_law_unit","_law_many","_law_goal","_law_pushes","_law_k","_law_often","_law_step","_law_modes"] ["_law_script"] (zK WK):=.a
abbrev WL:Stmt:=zm 85
theorem qh:ze ["_law_spec","_law_mode","_law_numbers","_law_rows_here","_law_nexts","_law_steer","_law_push","_law_add","_law_divisor"] ["_law_spec","_law_mode","_law_numbers"] (zK WL):=.a
variable {ae ag aClaim aSettles aComes aPaper aRooms aFalls:Addr} (aa:zE K mg "Mode" ae) (ab:wz K ae) (ac:zE K mg "Thing" ag) (af:w4 K ag) (TClaim:zE K mg "Claim" aClaim) (AClaim:w6 K aClaim) (TSettles:zE K mg "Settles" aSettles) (ASettles:w8 K aSettles) (TComes:zE K mg "Comes" aComes) (AComes:vA K aComes) (TPaper:zE K mg "Paper" aPaper) (APaper:vB K aPaper) (TRooms:zE K mg "Rooms" aRooms) (ARooms:vC K aRooms) (TFalls:zE K mg "Falls" aFalls) (AFalls:vD K aFalls) (Y:yu K aComes aSettles)
include aa ab ac af TClaim AClaim TSettles ASettles TComes AComes TPaper APaper TRooms ARooms TFalls AFalls Y
theorem zKs {k:Nat} {f:Addr} {fd:FuncData} (F:zf K "_law_drift" "_law_drift" WK f fd) (B:Bl mg) (aw:Fn P w K mg base "_law_cell_at" ["_law_script","_law_k"] k (zI (Jq))) (ar:Fn P w K mg base "_law_stream" ["_law_cell","_law_many"] k (zI (YD))) (al:Fn P w K mg base "_law_number" ["_law_x","_law_far"] k (zI (gZ))) (bW:Fn P w K mg base "_law_drift_mode" ["_law_xs","_law_goal","_law_pushes","_law_often","_law_step"] k (zI (YL))):zH P w K mg base zZ (k + 1) f fd ["_law_script"] (zI (zOr)):=by
 refine zu F uG (λds R h=>by obtain ⟨ns,rfl,_⟩:=h; rfl) λcdv A outer s H E hr=>⟨_,(zJ (zp 1 uG.nd rfl (Or.inl rfl) (zP aw hr rfl (zB (zA 0) (zB zD zC))))
  (zJ (zp 2 uG.nd rfl (Or.inr rfl) (zP ar hr rfl (zB (zP aw hr rfl (zB (zA 0) (zB zD zC))) (zB zD zC))))
  (zJ (zp 3 uG.nd rfl (Or.inl rfl) (zX zD (yr (wJ (zA 1) zD) (zT (yO (zB zD (zB zD (zB (jU zD zD) (zB (jU zD zD) zC))))) (yr (zA 1) zD) (λ_ _=>rfl)))))
  (zJ (zp 4 uG.nd rfl (Or.inl rfl) (zX (zX zD (yr (yr (zT (zA 2) zD (λ_ _=>rfl)) zD) zD)) (wJ (yr (wJ (zT (zA 2) zD (λ_ _=>rfl)) zD) zD) zD)))
  (zJ (uy 5 true uG.nd rfl rfl (own:=["_law_i"]) (caps:=[(2,"_law_xs")]) (zz (S:=zK WK) (N:=["_law_script","_law_first","_law_xs","_law_unit","_law_many","_law_goal","_law_pushes","_law_k","_law_often","_law_step","_law_modes"]) rfl (by decide +kernel) rfl ⟨_,rfl⟩ rfl (by decide +kernel) (by decide +kernel)) rfl rfl yJ (xn rfl B.range_ (zB (zA 4) zC)) (λ_ _ _ _=>(zy 0 (show (["_law_i","_law_xs"]:List Str).Nodup by decide +kernel) rfl (Or.inl rfl))) (λ_ _ _ _=>(zP al hr rfl (zB (zT (zA 1) (zX zD (zA 0)) (λ_ _=>rfl)) (zB zD zC)))) rfl)
  (ux (yE (zPC 5 (wY hr.units (zA 5) (yH (yO (zB zD zC)) (zA 4)))) (zO (yC (qp zD (gu (yT 5) zD UG)) zP2)) yD)
  (zJ (vc 6 uG.nd rfl (Or.inl rfl) zC)
  (zJ (uC PassesOwn.never rfl (xn rfl B.range_ (zB (yr (zT (zA 2) zD (λ_ _=>rfl)) zD) zC)) (zy 7 uG.nd rfl (Or.inl rfl)) (zO (yC (wL (wU PySem.F.plainAttrs_list PySem.F.slot_list_append PySem.F.type_list_append yk (yT 6) (zg (xb (zB (wI zD (yH (yr (zT (zA 2) (zX zD (zA 7)) (λ_ _=>rfl)) zD) (zA 3))) (zB (yH (yr (wJ (zT (zA 2) (zX zD (zA 7)) (λ_ _=>rfl)) zD) zD) (zA 3)) zC))) yB))) wa)))
  (zJ (zp 8 uG.nd rfl (Or.inl rfl) (zX zD (yr (zT (zA 2) zD (λ_ _=>rfl)) zD)))
  (zJ (zp 9 uG.nd rfl (Or.inl rfl) (zX zD (yr (zT (zA 2) zD (λ_ _=>rfl)) (zT (yO (zB zD (zB (zA 3) zC))) (yr (zT (zA 2) zD (λ_ _=>rfl)) zD) (λ_ _=>rfl)))))
  (zJ (vc 10 uG.nd rfl (Or.inl rfl) zC)
  (zJ (wj 5 (wj 6 (uC PassesOwn.never rfl (xn rfl B.range_ (zB (zX zD (yr (zT (zA 2) zD (λ_ _=>rfl)) zD)) zC)) (zy 7 uG.nd rfl (Or.inl rfl)) (zO (yC (wL (wU PySem.F.plainAttrs_list PySem.F.slot_list_append PySem.F.type_list_append yk (yT 10) (zg (zP bW hr rfl (zB (yt (zA 2) (yh (zX zD (yH zD (zA 7)))) y8) (zB (zA 5) (zB (zA 6) (zB (zA 8) (zB (zA 9) zC)))))) yB))) wa)))))
  (zO (wj 10 (zV (xb (zB (xb (zB (zA 4) (zB (zA 6) (zB (zA 10) (zB (zA 3) zC))))) (zB (zA 5) (zB (zA 8) (zB (zA 9) zC)))))))))))))))))))),λds R h=>?_⟩
 obtain ⟨ns,rfl,q⟩:=h
 refine ⟨ns,0,rfl,by decide,λfirst=>?_⟩
 refine ⟨ns,1,rfl,by decide,λc1=>⟨c1,24,rfl,by decide,λxs lx hx=>?_⟩⟩
 have key:∀ x∈[D.int 3,D.int 9,D.int (10 ^ (15:Int).toNat),D.int (10 ^ (30:Int).toNat)],xz (λv=>1<=v/\Bd 100 v) x:=λx hx=>by
  simp only [List.mem_cons,List.not_mem_nil,or_false] at hx
  rcases hx with rfl | rfl | rfl | rfl <;> exact ⟨_,rfl,by decide,Bd.lit⟩
 have f4:=md first (show (0:Int) < 4 by decide)
 refine ⟨by decide,(Bd.lit (i:=4) (n:=3)).mono,⟨by decide,by decide,by decide⟩,⟨by decide,by decide,by decide⟩,k0,by decide,vv f4.1 (by show first.fmod 4 < 4; omega) λx hxk=>?_⟩
 obtain ⟨v,rfl,v1,bv⟩:=key x hxk
 have fv:=md (first.fdiv 4) (show (0:Int) < v by omega)
 have bu:Bd 100 (1 + (first.fdiv 4).fmod v):=bv.of_le (by omega)
 refine ⟨by omega,?_⟩
 refine yz (by decide) (by omega) λx0 h0=>⟨by decide,by decide,yz (by decide) (by omega) λx1 h1=>⟨by decide,(Bd.lit (i:=6) (n:=3)).mono,by decide,by decide,(Bd.lit (i:=7) (n:=3)).mono,?_⟩⟩
 obtain ⟨n,en,n1,n3⟩:∃ n:Nat,1 + (x0.fmod 3).fmod 2 + ((x1.fdiv 6).fmod 8).fdiv 7=(n:Int)/\1<=n/\n<=3:=by
  have a1:=md (x0.fmod 3) (show (0:Int) < 2 by decide)
  have a2:=md (x1.fdiv 6) (show (0:Int) < 8 by decide)
  rw [fdE (show (0:Int) < 7 by decide)]
  exact ⟨(1 + (x0.fmod 3).fmod 2 + (x1.fdiv 6).fmod 8 / 7).toNat,by omega,by omega,by omega⟩
 refine ⟨by omega,by omega,?_⟩
 rw [show (1 + (x0.fmod 3).fmod 2 + ((x1.fdiv 6).fmod 8).fdiv 7).toNat=n by omega]
 refine zl.nums (λx=>-2<=x/\x<=2) (by omega) (λk hk=>yz (by omega) (by omega) λx _=>⟨_,2,rfl,by decide,(Bd.lit (i:=2) (n:=2)).mono,λy y1 y2=>⟨y,rfl,y1,y2⟩⟩) λg0 lg0 hg0=>?_
 refine ⟨λΓ=>∃ g:List Int,Γ=[.sh (.scr ns),.sh (.int first),.sh (L xs),.sh (.int (1 + (first.fdiv 4).fmod v)),.sh (.int (n:Int)),.ow (g.map D.int),.no,.no,.no,.no,.no]/\g.length=n/\(∀ c∈g,-2<=c/\c<=2)/\∃ c∈g,c≠0,?_,?_⟩
 ·have rep:D.lst (List.replicate (1 + (x0.fmod 3).fmod 2 + ((x1.fdiv 6).fmod 8).fdiv 7).toNat (D.int 0))=L (List.replicate n 0):=by unfold L; rw [List.map_replicate,show (1 + (x0.fmod 3).fmod 2 + ((x1.fdiv 6).fmod 8).fdiv 7).toNat=n by omega]
  refine ⟨k0,by omega,by omega,uV _,by rw [rep]; exact uV _,w2 (λc=>?_) λc=>?_⟩
  ·refine ⟨0,0,rfl,?_,g0.set 0 1,?_,by rw [List.length_set]; exact lg0,λc hc=>?_,1,?_,by decide⟩
   ·unfold wM
    rw [if_pos (by decide),if_pos (by rw [List.length_map]; omega)]
    rfl
   ·rw [List.map_set,<- en]
    rfl
   ·rcases List.mem_or_eq_of_mem_set hc with hc | rfl
    ·exact hg0 c hc
    ·omega
   ·cases g0 with
    | nil=>rw [List.length_nil] at lg0; omega
    | cons a t=>exact List.mem_cons_self
  ·rw [rep,zRA] at c
   exact ⟨g0,by rw [<- en]; rfl,lg0,hg0,YO lg0 (of_decide_eq_false c)⟩
 rintro Γ' ⟨g,rfl,lg,bg,gz⟩
 refine ⟨k0,yz (by decide) (by omega) λx4 _=>⟨by decide,?_⟩⟩
 have m4:=md x4 (show (0:Int) < 3 by decide)
 refine ⟨by omega,by omega,?_⟩
 refine ⟨λk Γ=>∃ (bs:List (Int × Int)) (s7:Sl),Γ=[.sh (.scr ns),.sh (.int first),.sh (L xs),.sh (.int (1 + (first.fdiv 4).fmod v)),.sh (.int (n:Int)),.ow (g.map D.int),.ow (bs.map yF),s7,.no,.no,.no]/\bs.length=k/\∀ b∈bs,b.1<=b.2/\Bd 105 b.1/\Bd 105 b.2,⟨[],.no,rfl,rfl,λ_ h=>nomatch h⟩,?_,?_⟩
 ·rintro k d Γ' hk ⟨bs,s7,rfl,lb,hb⟩
  obtain ⟨kn,rfl⟩:=qK hk
  refine yz (by omega) (by omega) λy1 _=>⟨by decide,Bd.mono (n:=2) (vf Bd.lit (by decide)) (by decide),bu.mono,yz (by omega) (by omega) λy2 _=>⟨by decide,(Bd.lit (i:=3) (n:=2)).mono,by decide,Bd.mono (n:=2) (vf Bd.lit (by decide)) (by decide),bu.mono,k0,by rw [List.length_map]; omega,?_⟩⟩
  have a1:=md y1 (show (0:Int) < 3 by decide)
  have a2:=md (y2.fdiv 3) (show (0:Int) < 3 by decide)
  have g1:0<=y1.fmod 3 * (1 + (first.fdiv 4).fmod v):=Int.mul_nonneg a1.1 (by omega)
  have g2:0<=(y2.fdiv 3).fmod 3 * (1 + (first.fdiv 4).fmod v):=Int.mul_nonneg a2.1 (by omega)
  have e1:Bd 102 (y1.fmod 3 * (1 + (first.fdiv 4).fmod v)):=(vf (n:=2) Bd.lit (by decide)).mul bu
  have e2:Bd 102 ((y2.fdiv 3).fmod 3 * (1 + (first.fdiv 4).fmod v)):=(vf (n:=2) Bd.lit (by decide)).mul bu
  refine ⟨bs++[(0 - y1.fmod 3 * (1 + (first.fdiv 4).fmod v),(y2.fdiv 3).fmod 3 * (1 + (first.fdiv 4).fmod v))],.sh (.int (k:Int)),?_,by rw [List.length_append,lb]; rfl,vx hb ⟨by show 0 - _<=_; omega,by show Bd 105 (0 - _); rw [Int.zero_sub]; exact e1.neg.mono,e2.mono⟩⟩
  rw [List.map_append]
  rfl
 rintro Γ' ⟨bs,s7,rfl,lb,hb⟩
 rw [qL] at lb
 refine yz (by decide) (by omega) λx7 _=>⟨by decide,?_⟩
 have m7:=md x7 (show (0:Int) < 3 by decide)
 refine yz (by decide) (by omega) λx8 _=>⟨k0,yz (by decide) (by omega) λx9 _=>⟨by decide,vv (md x9 (by decide)).1 (by have:=md x9 (show (0:Int) < 2 by decide); show x9.fmod 2 < 2; omega) λz hz=>?_⟩⟩
 obtain ⟨w,rfl,w1,bw⟩:xz (λw=>1<=w/\Bd 100 w) z:=by
  rcases List.mem_cons.mp hz with rfl | hz
  ·exact ⟨1,rfl,by decide,Bd.lit⟩
  ·rw [List.mem_singleton.mp hz]
   exact ⟨_,rfl,by omega,bu⟩
 have m8:=md x8 (show (0:Int) < w by omega)
 have bst:Bd 101 (1 + x8.fmod w):=(bw.of_le (by omega)).mono
 refine ⟨by omega,k0,yz (by decide) (by omega) λx10 _=>⟨by decide,?_⟩⟩
 have m10:=md x10 (show (0:Int) < 3 by decide)
 refine ⟨by omega,by omega,?_⟩
 refine ⟨λk Γ=>∃ (ms:List MD) (s7:Sl),Γ=[.sh (.scr ns),.sh (.int first),.sh (L xs),.sh (.int (1 + (first.fdiv 4).fmod v)),.sh (.int (n:Int)),.sh (L g),.sh (.lst (bs.map yF)),s7,.sh (.int (1 + x7.fmod 3)),.sh (.int (1 + x8.fmod w)),.ow (ms.map jg)]/\ms.length=k/\∀ m∈ms,yb m n bs.length/\u7 200 m/\(∀ x∈m.steer,x=0)/\m.rows.length<=1/\∀ r∈m.push,∀ x∈r,Bd 100 x,⟨[],_,rfl,rfl,λ_ h=>nomatch h⟩,?_,?_⟩
 ·rintro k d Γ' hk ⟨ms,s7,rfl,lm,hm⟩
  obtain ⟨kn,rfl⟩:=qK hk
  have kn3:k < 3:=by omega
  have ec:zh (xs.map D.int) (some (10 + 4 * (k:Int))) none=(xs.drop (10 + 4 * k)).map D.int:=by rw [show 10 + 4 * (k:Int)=((10 + 4 * k:Nat):Int) by omega,zKG,List.map_drop]
  refine ⟨(Bd.lit (i:=4) (n:=3)).mono,(qg (by omega)).mono,xs.drop (10 + 4 * k),g,bs,_,_,by rw [ec],by rw [List.length_drop]; omega,λx hx'=>hx x (List.mem_of_mem_drop hx'),by omega,by omega,bg,gz,by omega,λb hb'=>(hb b hb').2,by omega,by omega,by omega,bst,λm o1 o2 o3 o4 o5=>⟨by rw [List.length_map]; omega,ms++[m],.sh (.int (k:Int)),by rw [List.map_append]; rfl,by rw [List.length_append,lm]; rfl,vx hm ⟨by rw [<- lg]; exact o1,o2,o3,o4,o5⟩⟩⟩
 rintro Γ' ⟨ms,s7,rfl,lm,hm⟩
 rw [qL] at lm
 refine ⟨k0,k0,q n bs ms _ g _ _ ⟨⟨n1,n3,λb hb'=>(hb b hb').1,by omega,by omega,by omega,λm hm'=>(hm m hm').1⟩,λm hm'=>(hm m hm').2.1,List.all_eq_true.mpr λm hm'=>List.all_eq_true.mpr λx hx'=>decide_eq_true ((hm m hm').2.2.1 x hx'),λb hb'=>(hb b hb').2,by omega,bu,lg,bg,by omega,by omega,by omega,bst,by omega,by omega,λm hm'=>(hm m hm').2.2.2.1,λm hm'=>(hm m hm').2.2.2.2⟩⟩
theorem zI5 {k:Nat} {f:Addr} {fd:FuncData} (F:zf K "_law_pushed" "_law_pushed" WL f fd) (B:Bl mg) (aH:Fn P w K mg base "_law_both" ["_law_numbers"] k (zI (Jr))):zH P w K mg base zZ (k + 1) f fd ["_law_spec","_law_mode","_law_numbers"] (zI (zMU)):=by
 refine zu F qh (λds R h=>by obtain ⟨n,bs,ms,u,m,d,ns,rfl,_⟩:=h; rfl) λcdv A outer s H E hr=>⟨_,(zJ (ue (zA 1) (xi rfl (zk 3 qh.nd rfl (Or.inl rfl) (zk 4 qh.nd rfl (Or.inl rfl) (zk 5 qh.nd rfl (Or.inl rfl) (zk 6 qh.nd rfl (Or.inr rfl) (zk 7 qh.nd rfl (Or.inl rfl) (zk 8 qh.nd rfl (Or.inl rfl) xh))))))))
  (zO (zV (zP aH hr rfl (zB (yI (own:=["_law_j"]) (caps:=[(0,"_law_spec"),(2,"_law_numbers"),(6,"_law_push")]) (zz (S:=zK WL) (N:=["_law_spec","_law_mode","_law_numbers","_law_rows_here","_law_nexts","_law_steer","_law_push","_law_add","_law_divisor"]) rfl (by decide +kernel) rfl ⟨_,rfl⟩ rfl (by decide +kernel) (by decide +kernel)) rfl rfl yJ (xn rfl B.range_ (zB (zq yV yZ rfl B.len_ yW (zB (zT (zA 0) zD (λ_ _=>rfl)) zC)) zC)) (λ_ _ _ _=>(zy 0 (show (["_law_j","_law_spec","_law_numbers","_law_push"]:List Str).Nodup by decide +kernel) rfl (Or.inr rfl))) (λ_ _ _ _=>(zq (jy rfl) qI rfl B.sum_ jx (zB (yI (own:=["_law_i"]) (caps:=[(0,"_law_j"),(2,"_law_numbers"),(3,"_law_push")]) (jz rfl (by decide +kernel) (by decide +kernel) (by decide +kernel) (by decide +kernel)) rfl rfl yJ (xn rfl B.range_ (zB (zT (zA 1) zD (λ_ _=>rfl)) zC)) (λ_ _ _ _=>(zy 0 (show (["_law_i","_law_j","_law_numbers","_law_push"]:List Str).Nodup by decide +kernel) rfl (Or.inl rfl))) (λ_ _ _ _=>(yH (zT (zA 2) (zA 0) (λ_ _=>rfl)) (zT (zT (zA 3) (zA 0) (λ_ _=>rfl)) (zA 1) (λ_ _=>rfl))))) zC)))) zC))))),λds R h=>?_⟩
 obtain ⟨n,bs,ms,u,m,d,ns,rfl,n3,b2,o,bp,h,ln,bn,q⟩:=h
 have lb:(List.map yF bs).length=bs.length:=List.length_map ..
 have hix:∀ {i:Int} {R:D->Prop},0<=i->i < (ns.length:Int)->(∀ x∈ns,R (.int x))->XT d (.int i) R:=λ{i R} h0 h1 k=>by
  rcases h with rfl | rfl <;> exact yz h0 h1 k
 refine ⟨_,rfl,by omega,by omega,?_⟩
 rw [show ((List.length (List.map yF bs):Nat):Int).toNat=bs.length by omega]
 refine zl.nums (λx=>Bd 115 x) (by omega) (λj hj=>?_) λys ly hy=>⟨_,ys,rfl,.inl rfl,by omega,λx hx=>(hy x hx).mono,λzs lz hz=>q zs (by rw [lz,ly]) hz⟩
 refine ⟨_,rfl,by omega,by omega,?_⟩
 rw [show ((n:Nat):Int).toNat=n by omega]
 refine zl.nums (λx=>Bd 110 x) (by omega) (λi hi=>?_) λzs lz hz=>⟨zs,rfl,_,rfl,(YK hz).mono (by omega)⟩
 refine hix (by omega) (by omega) λc hc=>vv (by omega) (by rw [List.length_map,o.push.1]; omega) λr hr=>?_
 obtain ⟨r,hr1,rfl⟩:=List.mem_map.mp hr
 have lr:=o.push.2 r hr1
 exact yz (by omega) (by omega) λy hy=>⟨(bn c hc).mono,(bp r hr1 y hy).mono,_,rfl,(bn c hc).mul (bp r hr1 y hy)⟩
end
theorem zRG (ws:List Int) (b:Int):zh (ws.map D.int++[D.int b]) none (some (-1))=ws.map D.int:=by
 rw [zJ2,uE]
theorem YQ (ws:List Int) (b:Int):yU (ws.map D.int++[D.int b]) (-1)=some (.int b):=by
 rw [zJ2,qc]
theorem u8 (ws:List Int) (b:Int):D.tup (ws.map D.int++[D.int b])=U (ws++[b]):=by unfold U; rw [List.map_append]; rfl
theorem Jz {α:Type} (u:α->D) {P:α->Prop}:∀ {es:List D},(∀ e∈es,∃ a,e=u a/\P a)->∃ as:List α,es=as.map u/\∀ a∈as,P a
 | [],_=>⟨[],rfl,λ_ h=>nomatch h⟩
 | e :: es,h=>by
  obtain ⟨ns,rfl,k⟩:=Jz u (es:=es) λx m=>h x (List.mem_cons_of_mem _ m)
  obtain ⟨i,rfl,p⟩:=h e List.mem_cons_self
  exact ⟨i :: ns,rfl,λx m=>(List.mem_cons.mp m).elim (λz=>z ▸ p) (k x)⟩
structure Fl (n:Nat) (box:List (Int × Int)) (room aims:List (List Int)) (ws:List Int) (b tp tu:Int):Prop where
 lb:box.length=n
 hb:∀ b∈box,Bd 105 b.1/\Bd 105 b.2
 rm:∀ r∈room,r.length=n + 1/\∀ x∈r,Bd 130 x
 r1:room.length<=1
 am:∀ r∈aims,r.length=n + 1/\∀ x∈r,Bd 130 x
 a2:aims.length<=2
 lw:ws.length=n
 bw:∀ x∈ws,Bd 5 x
 bb:Bd 110 b
 bt:Bd 125 tp
 t0:0<=tu
 bu:Bd 130 tu
abbrev YR (box:List (Int × Int)) (room aims:List (List Int)) (ws:List Int) (b tp tu:Int):D:=.tup [.lst (box.map yF),Rm room,Rm aims,U (ws++[b]),.int tp,.int tu]
def zKD:FL:=λds R=>∃ n bs ms u goal often step c,ds=[uj n bs ms u,L goal,.int often,.int step,.int c]/\Dr n bs ms u goal often step/\∀ box room aims ws b tp tu,Fl n box room aims ws b tp tu->R (YR box room aims ws b tp tu)
section
variable {P:Program} {w:World} {K:PySem.W.Frag} {mg:Str->Option Value} {base:Heap}
abbrev WM:Stmt:=zm 86
theorem ul:ze ["_law_spec","_law_goal","_law_often","_law_step","_law_cell","_law_xs","_law_box_here","_law_bound","_law_slack","_law_measure","_law_top_here","_law_turns","_law_aims","_law_room"] ["_law_spec","_law_goal","_law_often","_law_step","_law_cell"] (zK WM):=.a
variable {ae ag aClaim aSettles aComes aPaper aRooms aFalls:Addr} (aa:zE K mg "Mode" ae) (ab:wz K ae) (ac:zE K mg "Thing" ag) (af:w4 K ag) (TClaim:zE K mg "Claim" aClaim) (AClaim:w6 K aClaim) (TSettles:zE K mg "Settles" aSettles) (ASettles:w8 K aSettles) (TComes:zE K mg "Comes" aComes) (AComes:vA K aComes) (TPaper:zE K mg "Paper" aPaper) (APaper:vB K aPaper) (TRooms:zE K mg "Rooms" aRooms) (ARooms:vC K aRooms) (TFalls:zE K mg "Falls" aFalls) (AFalls:vD K aFalls) (Y:yu K aComes aSettles)
include aa ab ac af TClaim AClaim TSettles ASettles TComes AComes TPaper APaper TRooms ARooms TFalls AFalls Y
theorem zIK {k:Nat} {f:Addr} {fd:FuncData} (F:zf K "_law_falling" "_law_falling" WM f fd) (B:Bl mg) (ar:Fn P w K mg base "_law_stream" ["_law_cell","_law_many"] k (zI (YD))) (bX:Fn P w K mg base "_law_box" ["_law_cell","_law_many","_law_unit"] k (zI (YE))) (al:Fn P w K mg base "_law_number" ["_law_x","_law_far"] k (zI (gZ))) (aT:Fn P w K mg base "_law_top" ["_law_numbers","_law_box_here"] k (zI (YF))):zH P w K mg base zZ (k + 1) f fd ["_law_spec","_law_goal","_law_often","_law_step","_law_cell"] (zI (zKD)):=by
 refine zu F ul (λds R h=>by obtain ⟨n,bs,ms,u,goal,often,step,c,rfl,_⟩:=h; rfl) λcdv A outer s H E hr=>⟨_,(zJ (zp 5 ul.nd rfl (Or.inl rfl) (zP ar hr rfl (zB (zA 4) (zB zD zC))))
  (zJ (zp 6 ul.nd rfl (Or.inl rfl) (zP bX hr rfl (zB (zT (zA 5) zD (λ_ _=>rfl)) (zB (zT (zA 0) zD (λ_ _=>rfl)) (zB (zT (zA 0) zD (λ_ _=>rfl)) zC)))))
  (zJ (zp 7 ul.nd rfl (Or.inl rfl) (yH (zP al hr rfl (zB (zT (zA 5) zD (λ_ _=>rfl)) (zB zD zC))) (zT (zA 0) zD (λ_ _=>rfl))))
  (zJ (zp 8 ul.nd rfl (Or.inl rfl) (zT (yO (zB zD (zB zD (zB (yr (zT (zA 5) zD (λ_ _=>rfl)) (zX zD (zT (zA 0) zD (λ_ _=>rfl)))) zC)))) (yr (zT (zA 5) zD (λ_ _=>rfl)) zD) (λ_ _=>rfl)))
  (zJ (zp 9 ul.nd rfl (Or.inl rfl) (xI wd wg rfl B.tuple_ xk (zB (zX (yI (own:=["_law_c"]) (caps:=[(2,"_law_often")]) (zz (S:=zK WM) (N:=["_law_spec","_law_goal","_law_often","_law_step","_law_cell","_law_xs","_law_box_here","_law_bound","_law_slack","_law_measure","_law_top_here","_law_turns","_law_aims","_law_room"]) rfl (by decide +kernel) rfl ⟨_,rfl⟩ rfl (by decide +kernel) (by decide +kernel)) rfl rfl yJ (yy (zA 1)) (λ_ _ _ _=>(zy 0 (show (["_law_c","_law_often"]:List Str).Nodup by decide +kernel) rfl (Or.inl rfl))) (λ_ _ _ _=>(yH (zA 1) (zA 0)))) (yO (zB (wI (zA 8) (yH (zA 2) (zA 7))) zC))) zC)))
  (zJ (zp 10 ul.nd rfl (Or.inl rfl) (zX (zX (zP aT hr rfl (zB (yt (zA 9) y8 (yh (y6 zD))) (zB (zA 6) zC))) (zT (zA 9) (y6 zD) (λ_ _=>rfl))) (yr (wJ (zT (zA 5) zD (λ_ _=>rfl)) zD) zD)))
  (zJ (zp 11 ul.nd rfl (Or.inl rfl) (zq (kI rfl) ZX rfl B.max_ kb (zB zD (zB (zX (wJ (zA 10) (zA 3)) (zT (yO (zB zD (zB zD (zB zD (zB zD zC))))) (yr (zT (zA 5) zD (λ_ _=>rfl)) zD) (λ_ _=>rfl))) zC))))
  (zJ (vc 12 ul.nd rfl (Or.inl rfl) (zB (xI wd wg rfl B.tuple_ xk (zB (zX (zA 1) (yO (zB (zA 7) zC))) zC)) zC))
  (zJ (vc 13 ul.nd rfl (Or.inl rfl) zC)
  (ux (yE (wY hr.units (yr (zT (zA 5) zD (λ_ _=>rfl)) zD) zD) (zJ (yC (wL (wU PySem.F.plainAttrs_list PySem.F.slot_list_append PySem.F.type_list_append yk (yT 13) (zg (xI wd wg rfl B.tuple_ xk (zB (zX (zA 1) (yO (zB (zX (zP aT hr rfl (zB (zA 1) (zB (zA 6) zC))) (yr (wJ (zT (zA 5) zD (λ_ _=>rfl)) zD) zD)) zC))) zC)) yB))) wa)
   (zO (yE (PW.pt (Ue (wY hr.units (yr (wJ (zT (zA 5) zD (λ_ _=>rfl)) zD) zD) zD) (Ud (zOW (zA 7) (zT (zOX 13 zD (λ_ _=>rfl)) (y6 zD) (λ_ _=>rfl)))))) (zO (yC (wL (wU PySem.F.plainAttrs_list PySem.F.slot_list_append PySem.F.type_list_append yk (yT 12) (zg (xI wd wg rfl B.tuple_ xk (zB (zX (zA 1) (yO (zB (zX (zX (zT (zOX 13 zD (λ_ _=>rfl)) (y6 zD) (λ_ _=>rfl)) zD) (yr (wJ (zT (zA 5) zD (λ_ _=>rfl)) zD) zD)) zC))) zC)) yB))) wa)) yD))) yD)
  (zO (wj 12 (wj 13 (zV (xb (zB (zA 6) (zB (zA 13) (zB (zA 12) (zB (zA 9) (zB (zA 10) (zB (zA 11) zC))))))))))))))))))))),λds R h=>?_⟩
 obtain ⟨n,bs,ms,u,goal,often,step,c,rfl,dr,q⟩:=h
 have n3:=dr.ok.n3
 have u1:=dr.u1
 have o1:=dr.o1
 have o3:=dr.o3
 have s1:=dr.s1
 have lg:=dr.lg
 have lgm:(List.map D.int goal).length=n:=by rw [List.length_map]; exact lg
 have bo:Bd 2 often:=vU (f:=3) (by decide) (by omega) (by omega)
 have bgo:∀ c∈goal,Bd 2 c:=λc hc=>vU (f:=3) (by decide) (by have:=dr.bg c hc; omega) (by have:=dr.bg c hc; omega)
 refine ⟨c,6,rfl,by decide,λxs lx hx=>?_⟩
 refine yz (by decide) (by omega) λx0 _=>⟨_,rfl,_,rfl,x0,n,u,rfl,n3,by omega,dr.bu,λbox lbx hbx=>?_⟩
 refine yz (by decide) (by omega) λx1 _=>⟨_,4,rfl,by decide,(Bd.lit (i:=4) (n:=3)).mono,λy y1 y2=>⟨_,rfl,?_⟩⟩
 have by3:Bd 3 y:=vU (f:=7) (by decide) (by omega) (by omega)
 refine ⟨by3.mono,dr.bu.mono,?_⟩
 have bbd:Bd 103 (y * u):=by3.mul dr.bu
 refine yz (by decide) (by omega) λx2 _=>⟨_,rfl,by omega,k0,yz (by decide) (by omega) λx3 _=>⟨by decide,vv (md x3 (by decide)).1 (by have:=md x3 (show (0:Int) < 3 by decide); show x3.fmod 3 < 3; omega) λz hz=>?_⟩⟩
 have m2:=md x2 (show (0:Int) < 1 + u by omega)
 obtain ⟨sl,rfl,bsl⟩:xz (Bd 102) z:=by
  simp only [List.mem_cons,List.not_mem_nil,or_false] at hz
  rcases hz with rfl | rfl | rfl
  ·exact ⟨0,rfl,xc⟩
  ·exact ⟨0,rfl,xc⟩
  ·exact ⟨_,rfl,(dr.bu.of_le (by omega)).mono⟩
 refine zl.int (λc=>often * c) (by omega) (λc hc=>⟨bo.mono,(bgo c hc).mono,rfl⟩) ⟨bo.mono,bbd.mono,k0,by rw [List.length_map,List.length_map]; show _ + 1<=1000; omega,?_⟩
 have bws:∀ x∈goal.map (λc=>often * c),Bd 4 x:=λx hx'=>by
  obtain ⟨c,hc,rfl⟩:=List.mem_map.mp hx'
  exact bo.mul (bgo c hc)
 have bme:Bd 108 (sl - often * (y * u)):=((bsl.mono (show 102<=105 by decide)).sub ((bo.mul bbd).mono)).mono
 refine ⟨_,goal.map (λc=>often * c),box,rfl,.inr (by rw [zRG]),by rw [List.length_map]; omega,λx hx'=>(bws x hx').mono,λb hb'=>(hbx b hb').2,λt bt=>⟨_,YQ _ _,yz (by decide) (by omega) λx4 _=>⟨by decide,(Bd.lit (i:=3) (n:=2)).mono,by decide,?_⟩⟩⟩
 have btp:Bd 125 (t + (sl - often * (y * u)) + (x4.fdiv 3).fmod 2):=(((bt.mono (show 120<=121 by decide)).add bme.mono).add ((vf (n:=2) Bd.lit (by decide)).mono)).mono
 refine ⟨by omega,dr.bst.mono,k0,yz (by decide) (by omega) λx5 _=>⟨by decide,vv (md x5 (by decide)).1 (by have:=md x5 (show (0:Int) < 4 by decide); show x5.fmod 4 < 4; omega) λz2 hz2=>?_⟩⟩
 obtain ⟨w,rfl,bw⟩:xz (Bd 3) z2:=by
  simp only [List.mem_cons,List.not_mem_nil,or_false] at hz2
  rcases hz2 with rfl | rfl | rfl | rfl <;> exact ⟨_,rfl,Bd.lit⟩
 refine ⟨k0,by rw [List.length_map]; show _ + 1<=1000; omega,k0,k0,?_⟩
 rw [u8,u8]
 have brow:∀ z:Int,Bd 130 z->(goal++[z]).length=n + 1/\∀ x∈goal++[z],Bd 130 x:=λz hz=>⟨by rw [List.length_append,lg]; rfl,vx (λx hx'=>(bgo x hx').mono) hz⟩
 refine ⟨λΓ=>∃ room aims:List (List Int),Γ=[.sh (uj n bs ms u),.sh (L goal),.sh (.int often),.sh (.int step),.sh (.int c),.sh (L xs),.sh (.lst (box.map yF)),.sh (.int (y * u)),.sh (.int sl),.sh (U (goal.map (λc=>often * c)++[sl - often * (y * u)])),.sh (.int (t + (sl - often * (y * u)) + (x4.fdiv 3).fmod 2)),.sh (.int (max 0 ((t + (sl - often * (y * u)) + (x4.fdiv 3).fmod 2).fdiv step + w))),.ow (aims.map U),.ow (room.map U)]/\(∀ r∈room,r.length=n + 1/\∀ x∈r,Bd 130 x)/\room.length<=1/\(∀ r∈aims,r.length=n + 1/\∀ x∈r,Bd 130 x)/\aims.length<=2,?_,?_⟩
 ·refine yz (by decide) (by omega) λx6 _=>⟨by decide,w2 (λc1=>?_) λc1=>⟨[],[goal++[y * u]],rfl,(λ_ h=>nomatch h),by decide,(λr hr=>by rw [List.mem_singleton.mp hr]; exact brow _ bbd.mono),by show 1<=2; decide⟩⟩
  refine ⟨_,goal,box,rfl,.inl rfl,by omega,λx hx'=>(bgo x hx').mono,λb hb'=>(hbx b hb').2,λt2 bt2=>yz (by decide) (by omega) λx7 _=>⟨by decide,(Bd.lit (i:=2) (n:=2)).mono,by decide,k0,by rw [List.length_map]; show _ + 1<=1000; omega,by decide,?_⟩⟩
  have b2:Bd 122 (t2 + (x7.fdiv 2).fmod 3):=((bt2.mono (show 120<=121 by decide)).add ((vf (n:=2) Bd.lit (by decide)).mono)).mono
  rw [u8]
  have fin1:∀ a2:List (List Int),a2.length<=1->(∀ r∈a2,r.length=n + 1/\∀ x∈r,Bd 130 x)->(∀ r∈[goal++[t2 + (x7.fdiv 2).fmod 3]],r.length=n + 1/\∀ x∈r,Bd 130 x)/\[goal++[t2 + (x7.fdiv 2).fmod 3]].length<=1/\(∀ r∈[goal++[y * u]]++a2,r.length=n + 1/\∀ x∈r,Bd 130 x)/\([goal++[y * u]]++a2).length<=2:=λa2 l2 h2=>⟨λr hr=>by rw [List.mem_singleton.mp hr]; exact brow _ b2.mono,by show 1<=1; decide,λr hr=>by
   rcases List.mem_append.mp hr with hr | hr
   ·rw [List.mem_singleton.mp hr]; exact brow _ bbd.mono
   ·exact h2 r hr,by rw [List.length_append]; show 1 + _<=2; omega⟩
  refine yz (by decide) (by omega) λx8 _=>⟨by decide,(Bd.lit (i:=8) (n:=4)).mono,by decide,w2 (λc2=>?_) λc2=>wF rfl ⟨[goal++[t2 + (x7.fdiv 2).fmod 3]],[goal++[y * u]],rfl,fin1 [] (by decide) (λ_ h=>nomatch h)⟩⟩
  refine ⟨_,rfl,_,qc _ _,w2 (λc3=>?_) λc3=>⟨[goal++[t2 + (x7.fdiv 2).fmod 3]],[goal++[y * u]],rfl,fin1 [] (by decide) (λ_ h=>nomatch h)⟩⟩
  refine ⟨_,rfl,_,qc _ _,yz (by decide) (by omega) λx9 _=>⟨by decide,(Bd.lit (i:=16) (n:=5)).mono,by decide,k0,by rw [List.length_map]; show _ + 1<=1000; omega,by show 1 < 1000; decide,?_⟩⟩
  have b3:Bd 125 (t2 + (x7.fdiv 2).fmod 3 + 1 + (x9.fdiv 16).fmod 3):=(((b2.add ((Bd.lit (i:=1) (n:=1)).mono)).mono (show 123<=124 by decide)).add ((vf (n:=2) Bd.lit (by decide)).mono)).mono
  rw [u8]
  exact ⟨[goal++[t2 + (x7.fdiv 2).fmod 3]],[goal++[y * u]]++[goal++[t2 + (x7.fdiv 2).fmod 3 + 1 + (x9.fdiv 16).fmod 3]],rfl,fin1 _ (by show 1<=1; decide) (λr hr=>by rw [List.mem_singleton.mp hr]; exact brow _ b3.mono)⟩
 rintro Γ' ⟨room,aims,rfl,h1,h2,h3,h4⟩
 refine ⟨k0,q box room aims _ _ _ _ ⟨lbx,λb hb'=>(hbx b hb').2,h1,h2,h3,h4,by rw [List.length_map]; exact lg,λx hx'=>(bws x hx').mono,bme.mono,btp,by omega,YJ xc (((Bd.fdiv btp _).add bw.mono).mono)⟩⟩
end
abbrev zY (s:Int × List Int):D:=.tup [.int s.1,L s.2]
abbrev yG (ss:List (Int × List Int)):D:=.lst (ss.map zY)
abbrev yf (t:List (List (Int × List Int))):D:=.lst (t.map yG)
structure ji (s:Int × List Int):Prop where
 o:Bd 210 s.1
 l:s.2.length<=100
 b:∀ x∈s.2,Bd 210 x
def uW (ss:List (Int × List Int)):Prop:=ss.length<=40/\∀ s∈ss,ji s
def vz (t:List (List (Int × List Int))):Prop:=t.length<=40/\∀ ss∈t,uW ss
abbrev jj (room:List (List Int)) (A1 A2:D) (ws:List Int) (b st tp:Int) (A6 A7 A8:D):D:=.lst [Rm room,A1,A2,U (ws++[b]),.int st,.int tp,A6,A7,A8]
def zOm:FL:=λds R=>∃ n bs ms u goal often step box room aims ws b tp tu,ds=[uj n bs ms u,L goal,.int often,.int step,YR box room aims ws b tp tu]/\Dr n bs ms u goal often step/\Fl n box room aims ws b tp tu/\∀ S1 S2 S6 S7 S8,uW S1->vz S2->vz S6->uW S7->ji S8->R (jj room (yG S1) (yf S2) ws b step tp (yf S6) (yG S7) (zY S8))
theorem u9 (k:Nat):List.replicate k (D.int 0)=(List.replicate k (0:Int)).map D.int:=(List.map_replicate ..).symm
theorem ga {e k:Nat}:∀ x∈List.replicate k (0:Int),Bd e x:=λx hx=>by rw [List.eq_of_mem_replicate hx]; exact xc
theorem jA {e:Nat} {a b:List Int} (h:∀ x∈a,Bd e x) (k:∀ x∈b,Bd e x):∀ x∈a++b,Bd e x:=λx hx=>(List.mem_append.mp hx).elim (h x) (k x)
theorem YS {e:Nat} {a:Int} (h:Bd e a):∀ x∈[a],Bd e x:=λx hx=>by rw [List.mem_singleton.mp hx]; exact h
theorem WN (o:Int) {ns:List Int} {ds:List D} (e:ds=ns.map D.int):D.tup [.int o,.lst ds]=zY (o,ns):=by rw [e]
section
variable {P:Program} {w:World} {K:PySem.W.Frag} {mg:Str->Option Value} {base:Heap}
abbrev YT:Stmt:=zm 87
theorem vE:ze ["_law_spec","_law_goal","_law_often","_law_step","_law_told","_law_box_here","_law_room","_law_aims","_law_measure","_law_top_here","_law_turns","_law_starts","_law_steps","_law_falls","_law_mode","_law_none","_law_some","_law_floors","_law_tops","_law_found"] ["_law_spec","_law_goal","_law_often","_law_step","_law_told"] (zK YT):=.a
variable {ae ag aClaim aSettles aComes aPaper aRooms aFalls:Addr} (aa:zE K mg "Mode" ae) (ab:wz K ae) (ac:zE K mg "Thing" ag) (af:w4 K ag) (TClaim:zE K mg "Claim" aClaim) (AClaim:w6 K aClaim) (TSettles:zE K mg "Settles" aSettles) (ASettles:w8 K aSettles) (TComes:zE K mg "Comes" aComes) (AComes:vA K aComes) (TPaper:zE K mg "Paper" aPaper) (APaper:vB K aPaper) (TRooms:zE K mg "Rooms" aRooms) (ARooms:vC K aRooms) (TFalls:zE K mg "Falls" aFalls) (AFalls:vD K aFalls) (Y:yu K aComes aSettles)
include aa ab ac af TClaim AClaim TSettles ASettles TComes AComes TPaper APaper TRooms ARooms TFalls AFalls Y
theorem zF5 {k:Nat} {f:Addr} {fd:FuncData} (F:zf K "_law_fall_parts" "_law_fall_parts" YT f fd) (B:Bl mg) (aH:Fn P w K mg base "_law_both" ["_law_numbers"] k (zI (Jr))) (aU:Fn P w K mg base "_law_pushed" ["_law_spec","_law_mode","_law_numbers"] k (zI (zMU))):zH P w K mg base zZ (k + 1) f fd ["_law_spec","_law_goal","_law_often","_law_step","_law_told"] (zI (zOm)):=by
 refine zu F vE (λds R h=>by obtain ⟨n,bs,ms,u,goal,often,step,box,room,aims,ws,b,tp,tu,rfl,_⟩:=h; rfl) λcdv A outer s H E hr=>⟨_,(zJ (ue (zA 4) (xi rfl (zk 5 vE.nd rfl (Or.inl rfl) (zk 6 vE.nd rfl (Or.inl rfl) (zk 7 vE.nd rfl (Or.inl rfl) (zk 8 vE.nd rfl (Or.inl rfl) (zk 9 vE.nd rfl (Or.inl rfl) (zk 10 vE.nd rfl (Or.inl rfl) xh))))))))
  (zJ (uy 11 false vE.nd rfl rfl (own:=["_law_row"]) (caps:=[]) (zz (S:=zK YT) (N:=["_law_spec","_law_goal","_law_often","_law_step","_law_told","_law_box_here","_law_room","_law_aims","_law_measure","_law_top_here","_law_turns","_law_starts","_law_steps","_law_falls","_law_mode","_law_none","_law_some","_law_floors","_law_tops","_law_found"]) rfl (by decide +kernel) rfl ⟨_,rfl⟩ rfl (by decide +kernel) (by decide +kernel)) rfl rfl yJ (yy (zA 6)) (λ_ _ _ _=>(zy 0 (show (["_law_row"]:List Str).Nodup by decide +kernel) rfl (Or.inl rfl))) (λ_ _ _ _=>(xb (zB zD (zB (zP aH hr rfl (zB (yt (zA 0) y8 (yh (y6 zD))) zC)) zC)))) rfl)
  (zJ (vc 12 vE.nd rfl (Or.inl rfl) zC)
  (zJ (vc 13 vE.nd rfl (Or.inl rfl) zC)
  (zJ (uC PassesOwn.never rfl (yy (zT (zA 0) zD (λ_ _=>rfl))) (zy 14 vE.nd rfl (Or.inr rfl)) (zJ (zp 15 vE.nd rfl (Or.inr rfl) (yH (yO (zB zD zC)) (zq yV yZ rfl B.len_ yW (zB (zT (zA 14) zD (λ_ _=>rfl)) zC))))
   (zJ (yC (wL (wU PySem.F.plainAttrs_list PySem.F.slot_list_append PySem.F.type_list_append yk (yT 12) (zg (yI (own:=["_law_row"]) (caps:=[(0,"_law_spec"),(1,"_law_goal"),(14,"_law_mode"),(15,"_law_none")]) (zz (S:=zK YT) (N:=["_law_spec","_law_goal","_law_often","_law_step","_law_told","_law_box_here","_law_room","_law_aims","_law_measure","_law_top_here","_law_turns","_law_starts","_law_steps","_law_falls","_law_mode","_law_none","_law_some","_law_floors","_law_tops","_law_found"]) rfl (by decide +kernel) rfl ⟨_,rfl⟩ rfl (by decide +kernel) (by decide +kernel)) rfl rfl yJ (yy (zA 6)) (λ_ _ _ _=>(zy 0 (show (["_law_row","_law_spec","_law_goal","_law_mode","_law_none"]:List Str).Nodup by decide +kernel) rfl (Or.inl rfl))) (λ_ _ _ _=>(xb (zB zD (zB (zX (zX (yO (zB (zT (zA 3) zD (λ_ _=>rfl)) zC)) (zA 4)) (zP aU hr rfl (zB (zA 1) (zB (zA 3) (zB (zA 2) zC))))) zC))))) yB))) wa)
   (zJ (vc 16 vE.nd rfl (Or.inl rfl) (zB (xb (zB zD (zB (zX (zX (zX (yH (yO (zB zD zC)) (zq yV yZ rfl B.len_ yW (zB (zA 6) zC))) (zA 15)) (yO (zB zD zC))) (zP aU hr rfl (zB (zA 0) (zB (zA 14) (zB (yt (zA 8) y8 (yh (y6 zD))) zC))))) zC))) zC))
   (ux (yE (ZM (zq yV yZ rfl B.len_ yW (zB (zA 7) zC)) zD) (zO (yC (wL (wU PySem.F.plainAttrs_list PySem.F.slot_list_append PySem.F.type_list_append yk (yT 16) (zg (xb (zB zD (zB (zX (zX (zX (yO (zB zD zC)) (zA 15)) (yO (zB zD zC))) (yH (yO (zB zD zC)) (yH zD (zq yV yZ rfl B.len_ yW (zB (zT (zA 0) zD (λ_ _=>rfl)) zC))))) zC))) yB))) wa)) yD)
   (zO (wj 16 (yC (wL (wU PySem.F.plainAttrs_list PySem.F.slot_list_append PySem.F.type_list_append yk (yT 13) (zg (zA 16) yB))) wa))))))))
  (zJ (vc 17 vE.nd rfl (Or.inl rfl) (zB (xb (zB zD (zB (zX (yH (yO (zB zD zC)) (zq yV yZ rfl B.len_ yW (zB (zA 6) zC))) (yO (zB (zA 2) zC))) zC))) zC))
  (ux (yE (ZM (zq yV yZ rfl B.len_ yW (zB (zA 7) zC)) zD) (zO (yC (wL (wU PySem.F.plainAttrs_list PySem.F.slot_list_append PySem.F.type_list_append yk (yT 17) (zg (xb (zB zD (zB (yO (zB zD (zB zD zC))) zC))) yB))) wa)) yD)
  (zJ (zp 18 vE.nd rfl (Or.inl rfl) (xb (zB zD (zB (zP aH hr rfl (zB (yt (zA 8) y8 (yh (y6 zD))) zC)) zC))))
  (zJ (wj 12 (zp 19 vE.nd rfl (Or.inl rfl) (yO (zB (zA 6) (zB (zA 11) (zB (zA 12) (zB (zA 8) (zB (zA 3) zC))))))))
  (zO (wj 13 (wj 17 (zV (zX (zA 19) (yO (zB (zA 9) (zB (zA 13) (zB (zA 17) (zB (zA 18) zC))))))))))))))))))),λds R h=>?_⟩
 obtain ⟨n,bs,ms,u,goal,often,step,box,room,aims,ws,b,tp,tu,rfl,dr,fl,q⟩:=h
 have n3:=dr.ok.n3
 have b2:=dr.b2
 have m3:=dr.m3
 have r1:=fl.r1
 have lw:=fl.lw
 have o1:=dr.o1
 have o3:=dr.o3
 have bo:Bd 2 often:=vU (f:=3) (by decide) (by omega) (by omega)
 have lr:(List.map U room).length=room.length:=List.length_map ..
 have lb:(List.map yF bs).length=bs.length:=List.length_map ..
 have bgo:∀ c∈goal,Bd 2 c:=λc hc=>vU (f:=3) (by decide) (by have:=dr.bg c hc; omega) (by have:=dr.bg c hc; omega)
 have one1:Bd 210 (1:Int):=(Bd.lit (i:=1) (n:=1)).mono
 refine zl.all (λd=>∃ s,d=zY s/\ji s) (by rw [lr]; omega) (λd hd=>?_) λes le he=>?_
 ·obtain ⟨r,hr,rfl⟩:=List.mem_map.mp hd
  have h:=fl.rm r hr
  exact ⟨_,r.take n,rfl,.inr (by rw [uU h.1]),by rw [List.length_take]; omega,λx hx=>(h.2 x (List.mem_of_mem_take hx)).mono,λys ly hy=>⟨k0,(1,ys),rfl,one1,by show ys.length<=100; rw [ly,List.length_take]; omega,λx hx=>(hy x hx).2.mono⟩⟩
 obtain ⟨S1,rfl,hS1⟩:=Jz zY he
 rw [List.length_map,lr] at le
 refine ⟨k0,k0,_,rfl,?_⟩
 refine ⟨λk Γ=>∃ (S2 S6:List (List (Int × List Int))) (s14 s15 s16:Sl),Γ=[.sh (uj n bs ms u),.sh (L goal),.sh (.int often),.sh (.int step),.sh (YR box room aims ws b tp tu),.sh (.lst (box.map yF)),.sh (Rm room),.sh (Rm aims),.sh (U (ws++[b])),.sh (.int tp),.sh (.int tu),.sh (yG S1),.ow (S2.map yG),.ow (S6.map yG),s14,s15,s16,.no,.no,.no]/\S2.length=k/\S6.length=k/\(∀ ss∈S2,uW ss)/\∀ ss∈S6,uW ss,⟨[],[],_,_,_,rfl,rfl,rfl,(λ_ h=>nomatch h),(λ_ h=>nomatch h)⟩,?_,?_⟩
 ·rintro k d Γ' hk ⟨S2,S6,s14,s15,s16,rfl,l2,l6,h2,h6⟩
  have kl:=(List.getElem?_eq_some_iff.mp hk).1
  rw [List.length_map] at kl
  obtain ⟨m,hm,rfl⟩:=List.mem_map.mp (List.mem_of_getElem? hk)
  have om:=dr.ok.mok m hm
  have km:=dr.hms m hm
  have rm1:=dr.r1 m hm
  have lrw:(List.map U m.rows).length=m.rows.length:=List.length_map ..
  have bp:=dr.pb m hm
  refine ⟨k0,_,rfl,by omega,by omega,?_⟩
  rw [show ((List.length (List.map U m.rows):Nat):Int).toNat=m.rows.length by omega,u9]
  refine zl.all (λd=>∃ s,d=zY s/\ji s) (by rw [lr]; omega) (λd hd=>?_) λes le2 he2=>?_
  ·refine ⟨_,rfl,k0,by rw [List.length_map,List.length_replicate]; show 1 + _<=1000; omega,n,bs,ms,u,m,_,goal,rfl,n3,b2,om,bp,.inl rfl,dr.lg,λx hx=>(bgo x hx).mono,λys ly hy=>⟨by rw [List.length_append,List.length_map,List.length_map,List.length_replicate]; show 1 + _ + _<=1000; omega,k0,(1,[m.div]++List.replicate m.rows.length 0++ys),WN 1 (by rw [List.map_append,List.map_append]; rfl),one1,by show ([m.div]++List.replicate m.rows.length 0++ys).length<=100; rw [List.length_append,List.length_append,List.length_replicate]; show 1 + _ + _<=100; omega,jA (jA (YS (km.div.mono)) ga) λx hx=>(hy x hx).2.mono⟩⟩
  obtain ⟨T1,rfl,hT1⟩:=Jz zY he2
  rw [List.length_map,lr] at le2
  refine ⟨by rw [List.length_map]; omega,?_⟩
  refine ⟨k0,by omega,by omega,?_⟩
  rw [show ((List.length (List.map U room):Nat):Int).toNat=room.length by omega,u9]
  refine ⟨by rw [List.length_map,List.length_map,List.length_replicate,List.length_replicate]; omega,k0,by rw [List.length_append,List.length_map,List.length_map,List.length_replicate,List.length_replicate]; show _ + 1<=1000; omega,n,bs,ms,u,m,_,ws,rfl,n3,b2,om,bp,.inr (by rw [uE]),lw,λx hx=>(fl.bw x hx).mono,λys ly hy=>⟨by rw [List.length_append,List.length_append,List.length_map,List.length_map,List.length_map,List.length_replicate,List.length_replicate]; show _ + 1 + _<=1000; omega,k0,k0,?_⟩⟩
  rw [WN 1 (ns:=List.replicate room.length 0++List.replicate m.rows.length 0++[0]++ys) (by rw [List.map_append,List.map_append,List.map_append]; rfl)]
  have P1:ji (1,List.replicate room.length 0++List.replicate m.rows.length 0++[0]++ys):=⟨one1,by show (List.replicate room.length (0:Int)++List.replicate m.rows.length 0++[0]++ys).length<=100; rw [List.length_append,List.length_append,List.length_append,List.length_replicate,List.length_replicate]; show _ + _ + 1 + _<=100; omega,jA (jA (jA ga ga) (YS xc)) λx hx=>(hy x hx).2.mono⟩
  refine ⟨λΓ=>∃ ss:List (Int × List Int),Γ=[.sh (uj n bs ms u),.sh (L goal),.sh (.int often),.sh (.int step),.sh (YR box room aims ws b tp tu),.sh (.lst (box.map yF)),.sh (Rm room),.sh (Rm aims),.sh (U (ws++[b])),.sh (.int tp),.sh (.int tu),.sh (yG S1),.ow ((S2++[T1]).map yG),.ow (S6.map yG),.sh (jg m),.sh (L (List.replicate m.rows.length 0)),.ow (ss.map zY),.no,.no,.no]/\uW ss,w2 (λc1=>?_) λc1=>⟨[(1,List.replicate room.length 0++List.replicate m.rows.length 0++[0]++ys)],by rw [List.map_append]; rfl,by show 1<=40; decide,λs hs=>by rw [List.mem_singleton.mp hs]; exact P1⟩,?_⟩
  ·refine ⟨k0,by rw [List.length_map,List.length_replicate]; show 1 + _<=1000; omega,k0,by rw [List.length_append,List.length_map,List.length_replicate]; show 1 + _ + 1<=1000; omega,k0,_,rfl,(Bd.lit (i:=2) (n:=2)).mono,(qg (by omega)).mono,by omega,by omega,by rw [List.length_append,List.length_append,List.length_map,List.length_replicate,List.length_replicate]; show 1 + _ + 1 + _<=1000; omega,k0,by show 1 < 1000; decide,?_⟩
   rw [u9,WN 0 (ns:=[1]++List.replicate m.rows.length 0++[1]++List.replicate (2 * ((List.length (List.map yF bs):Nat):Int)).toNat 0) (by rw [List.map_append,List.map_append,List.map_append]; rfl)]
   refine ⟨[(1,List.replicate room.length 0++List.replicate m.rows.length 0++[0]++ys),(0,[1]++List.replicate m.rows.length 0++[1]++List.replicate (2 * ((List.length (List.map yF bs):Nat):Int)).toNat 0)],by rw [List.map_append]; rfl,by show 2<=40; decide,λs hs=>?_⟩
   rcases List.mem_cons.mp hs with rfl | hs
   ·exact P1
   ·rw [List.mem_singleton.mp hs]
    exact ⟨xc,by show ([1]++List.replicate m.rows.length (0:Int)++[1]++List.replicate (2 * ((List.length (List.map yF bs):Nat):Int)).toNat 0).length<=100; rw [List.length_append,List.length_append,List.length_append,List.length_replicate,List.length_replicate]; show 1 + _ + 1 + _<=100; omega,jA (jA (jA (YS one1) ga) (YS one1)) ga⟩
  rintro Γ' ⟨ss,rfl,hss⟩
  refine ⟨by rw [List.length_map]; omega,S2++[T1],S6++[ss],.sh (jg m),.sh (L (List.replicate m.rows.length 0)),.sh (yG ss),?_,by rw [List.length_append,l2]; rfl,by rw [List.length_append,l6]; rfl,vx h2 ⟨by omega,hT1⟩,vx h6 hss⟩
  rw [List.map_append (l₁:=S6)]
  rfl
 rintro Γ' ⟨S2,S6,s14,s15,s16,rfl,l2,l6,h2,h6⟩
 rw [List.length_map] at l2 l6
 refine ⟨k0,by omega,by omega,?_⟩
 rw [show ((List.length (List.map U room):Nat):Int).toNat=room.length by omega,u9]
 refine ⟨k0,by rw [List.length_map,List.length_replicate]; show _ + 1<=1000; omega,k0,k0,?_⟩
 rw [WN 1 (ns:=List.replicate room.length 0++[often]) (by rw [List.map_append]; rfl)]
 have P7:ji (1,List.replicate room.length 0++[often]):=⟨one1,by show (List.replicate room.length (0:Int)++[often]).length<=100; rw [List.length_append,List.length_replicate]; show _ + 1<=100; omega,jA ga (YS bo.mono)⟩
 refine ⟨λΓ=>∃ ss:List (Int × List Int),Γ=[.sh (uj n bs ms u),.sh (L goal),.sh (.int often),.sh (.int step),.sh (YR box room aims ws b tp tu),.sh (.lst (box.map yF)),.sh (Rm room),.sh (Rm aims),.sh (U (ws++[b])),.sh (.int tp),.sh (.int tu),.sh (yG S1),.ow (S2.map yG),.ow (S6.map yG),s14,s15,s16,.ow (ss.map zY),.no,.no]/\uW ss,w2 (λc1=>⟨k0,k0,by show 1 < 1000; decide,[(1,List.replicate room.length 0++[often]),(0,[1,1])],rfl,by show 2<=40; decide,λs hs=>?_⟩) λc1=>⟨[(1,List.replicate room.length 0++[often])],rfl,by show 1<=40; decide,λs hs=>by rw [List.mem_singleton.mp hs]; exact P7⟩,?_⟩
 ·rcases List.mem_cons.mp hs with rfl | hs
  ·exact P7
  ·rw [List.mem_singleton.mp hs]
   exact ⟨xc,by show 2<=100; decide,λx hx=>by
    simp only [List.mem_cons,List.not_mem_nil,or_false,or_self] at hx
    rw [hx]
    exact one1⟩
 rintro Γ' ⟨S7,rfl,hS7⟩
 refine ⟨_,ws,rfl,.inr (by rw [uE]),by omega,λx hx=>(fl.bw x hx).mono,λys ly hy=>⟨k0,k0,k0,k0,q S1 S2 S6 S7 (1,ys) ⟨by omega,hS1⟩ ⟨by omega,h2⟩ ⟨by omega,h6⟩ hS7 ⟨one1,by show ys.length<=100; omega,λx hx=>(hy x hx).2.mono⟩⟩⟩
end
theorem J2 {α:Type} {xs:List α} {lo hi:Option Int} {x:α} (h:x∈zh xs lo hi):x∈xs:=List.mem_of_mem_drop (List.mem_of_mem_take h)
theorem WO {α:Type} {xs:List α} {lo hi:Option Int}:(zh xs lo hi).length<=xs.length:=by
 unfold zh
 rw [List.length_take,List.length_drop]
 omega
def Sy (y:D):Prop:=(∃ i,y=.int i/\Bd 1000 i)\/y=.bool true
theorem gb {o:Int} {ys:List D} (bo:Bd 1000 o) (l:ys.length<=900) (h:∀ y∈ys,Sy y):Fw 3 (.tup [.int o,.lst ys])/\uf (.tup [.int o,.lst ys]):=by
 refine ⟨.tup (by show 2<=900; decide) λd hd=>?_,λo' ys' e=>?_⟩
 ·rcases List.mem_cons.mp hd with rfl | hd
  ·exact .int _
  ·rw [List.mem_singleton.mp hd]
   refine .lst l λy hy=>?_
   rcases h y hy with ⟨i,rfl,_⟩ | rfl
   ·exact .int i
   ·exact .bool _
 ·cases e
  refine ⟨bo,λy hy=>?_⟩
  rcases h y hy with ⟨i,rfl,b⟩ | rfl
  ·exact b
  ·exact xc
theorem J5 {s:Int × List Int} (h:ji s):Fw 3 (zY s)/\uf (zY s):=gb (h.o.mono) (by rw [List.length_map]; have:=h.l; omega) λy hy=>by
 obtain ⟨i,hi,rfl⟩:=List.mem_map.mp hy
 exact .inl ⟨i,rfl,(h.b i hi).mono⟩
theorem WP {k:Nat} {as:List D} (l:as.length<=900) (h:∀ a∈as,Fw 3 a/\uf a):Fw (k + 4) (.lst as)/\yS (.lst as):=⟨.lst l λa ha=>(h a ha).1.mono (by omega),λas' e=>by cases e; exact λa ha=>(h a ha).2⟩
theorem gc {k:Nat} {ss:List (Int × List Int)} (h:uW ss):Fw (k + 4) (yG ss)/\yS (yG ss):=WP (by rw [List.length_map]; have:=h.1; omega) λa ha=>by
 obtain ⟨s,hs,rfl⟩:=List.mem_map.mp ha
 exact J5 (h.2 s hs)
theorem J7 {as:List D} (l:as.length<=900) (h:∀ a∈as,Fw 4 a/\yS a):Fw 5 (.lst as)/\xG (.lst as):=⟨.lst l λa ha=>(h a ha).1,λas' e=>by cases e; exact λa ha=>(h a ha).2⟩
theorem WQ {t:List (List (Int × List Int))} (h:vz t):Fw 5 (yf t)/\xG (yf t):=J7 (by rw [List.length_map]; have:=h.1; omega) λa ha=>by
 obtain ⟨s,hs,rfl⟩:=List.mem_map.mp ha
 exact gc (k:=0) (h.2 s hs)
def zMV:FL:=λds R=>∃ o ns c,ds=[.tup [.int o,L ns],.int c]/\ji (o,ns)/\∀ d,Fw 3 d->uf d->R d
def jB:Nat->FL
 | 0=>λ_ _=>False
 | j + 1=>λds R=>∃ d c,ds=[d,.int c]/\((∃ ss,d=yG ss/\uW ss/\∀ d,Fw 4 d->yS d->R d)\/(1<=j/\∃ t,d=yf t/\vz t/\∀ d,Fw 5 d->xG d->R d))
theorem zQS (n:Nat) (s:Int × List Int):(zY s).pl (n + 4)=true:=by
 show ([D.int s.1,L s.2].all (D.pl (n + 3)))=true
 rw [List.all_cons,List.all_cons,List.all_nil,Bool.and_true]
 exact Bool.and_eq_true_iff.mpr ⟨rfl,UX (n + 1) s.2⟩
theorem zQR (n:Nat) (ss:List (Int × List Int)):(yG ss).pl (n + 5)=true:=List.all_eq_true.mpr λd m=>by
 obtain ⟨s,_,rfl⟩:=List.mem_map.mp m
 exact zQS n s
theorem zQQ (n:Nat) (t:List (List (Int × List Int))):(yf t).pl (n + 6)=true:=List.all_eq_true.mpr λd m=>by
 obtain ⟨s,_,rfl⟩:=List.mem_map.mp m
 exact zQR n s
def zMP:FL:=λds R=>∃ room S1 S2 ws b st tp S6 S7 S8 c,ds=[jj room (yG S1) (yf S2) ws b st tp (yf S6) (yG S7) (zY S8),.int c]/\uW S1/\vz S2/\vz S6/\uW S7/\∀ A1 A2 A6 A7,Fw 5 A1->Fw 5 A2->Fw 5 A6->Fw 5 A7->yS A1->xG A2->xG A6->yS A7->R (jj room A1 A2 ws b st tp A6 A7 (zY S8))
theorem qi {e:Nat} {i:Int} (h:Bd 210 i) (k:211<=e):Bd e (i + 1)/\Bd e (i - 1):=⟨(h.add ((Bd.lit (i:=1) (n:=1)).mono)).mono k,(h.sub ((Bd.lit (i:=1) (n:=1)).mono)).mono k⟩
section
variable {P:Program} {w:World} {K:PySem.W.Frag} {mg:Str->Option Value} {base:Heap}
abbrev J8:Stmt:=zm 88
theorem gd:ze ["_law_shares","_law_cell","_law_often","_law_numbers","_law_way","_law_at","_law_other_here"] ["_law_shares","_law_cell"] (zK J8):=.a
abbrev J9:Stmt:=zm 89
theorem QA:ze ["_law_some","_law_cell","_law_at"] ["_law_some","_law_cell"] (zK J9):=.a
abbrev QB:Stmt:=zm 93
theorem wn:ze ["_law_parts","_law_cell","_law_room","_law_starts","_law_steps","_law_measure","_law_step","_law_top_here","_law_falls","_law_floors","_law_tops","_law_way","_law_found"] ["_law_parts","_law_cell"] (zK QB):=.a
variable {ae ag aClaim aSettles aComes aPaper aRooms aFalls:Addr} (aa:zE K mg "Mode" ae) (ab:wz K ae) (ac:zE K mg "Thing" ag) (af:w4 K ag) (TClaim:zE K mg "Claim" aClaim) (AClaim:w6 K aClaim) (TSettles:zE K mg "Settles" aSettles) (ASettles:w8 K aSettles) (TComes:zE K mg "Comes" aComes) (AComes:vA K aComes) (TPaper:zE K mg "Paper" aPaper) (APaper:vB K aPaper) (TRooms:zE K mg "Rooms" aRooms) (ARooms:vC K aRooms) (TFalls:zE K mg "Falls" aFalls) (AFalls:vD K aFalls) (Y:yu K aComes aSettles)
include aa ab ac af TClaim AClaim TSettles ASettles TComes AComes TPaper APaper TRooms ARooms TFalls AFalls Y
theorem zKr {k:Nat} {f:Addr} {fd:FuncData} (F:zf K "_law_other" "_law_other" J8 f fd) (B:Bl mg):zH P w K mg base zZ (k + 1) f fd ["_law_shares","_law_cell"] (zI (zMV)):=by
 refine zu F gd (λds R h=>by obtain ⟨o,ns,c,rfl,_⟩:=h; rfl) λcdv A outer s H E hr=>⟨_,(zJ (ue (zA 0) (xi rfl (zk 2 gd.nd rfl (Or.inl rfl) (zk 3 gd.nd rfl (Or.inl rfl) xh))))
  (zJ (zp 4 gd.nd rfl (Or.inl rfl) (yr (zA 1) zD))
  (zJ (yE (PW.pt (wZ (wY hr.units (zA 4) zD) (vP (wY hr.units (zA 3) (yO zC))))) (zO (zV (xb (zB (zX (zA 2) (zT (yO (zB zD (zB (y6 zD) zC))) (yr (wJ (zA 1) zD) zD) (λ_ _=>rfl))) (zB (zA 3) zC))))) yD)
  (zJ (zp 5 gd.nd rfl (Or.inl rfl) (yr (wJ (zA 1) zD) (zq yV yZ rfl B.len_ yW (zB (zA 3) zC))))
  (zJ (zp 6 gd.nd rfl (Or.inl rfl) (zT (yO (zB (zX (zT (zA 3) (zA 5) (λ_ _=>rfl)) zD) (zB (wI (zT (zA 3) (zA 5) (λ_ _=>rfl)) zD) (zB xZ (zB (zX (zT (zA 3) (zA 5) (λ_ _=>rfl)) zD) zC))))) (wI (zA 4) zD) (λ_ _=>rfl)))
  (zO (zV (xb (zB (zA 2) (zB (zX (zX (yt (zA 3) y8 (yh (zA 5))) (yO (zB (zA 6) zC))) (yt (zA 3) (yh (zX (zA 5) zD)) y8)) zC)))))))))),λds R h=>?_⟩
 obtain ⟨o,ns,c,rfl,h,q⟩:=h
 have hl:ns.length<=100:=h.l
 refine ⟨by decide,w2 (λc1=>wT rfl ?_) λc1=>⟨k0,uV _,rfl,w2 (λc2=>?_) λc2=>?_⟩⟩
 ·exact ⟨k0,by decide,(Bd.lit (i:=5) (n:=3)).mono,by decide,vv (md _ (by decide)).1 (by have:=md (c.fdiv 5) (show (0:Int) < 2 by decide); show (c.fdiv 5).fmod 2 < 2; omega) λz hz=>by
   obtain ⟨w,rfl,bw⟩:xz (Bd 2) z:=by
    simp only [List.mem_cons,List.not_mem_nil,or_false] at hz
    rcases hz with rfl | rfl <;> exact ⟨_,rfl,Bd.lit⟩
   have:=gb (o:=o + w) (ys:=ns.map D.int) ((h.o.add bw.mono).mono) (by rw [List.length_map]; have:=h.l; omega) (λy hy=>by
    obtain ⟨i,hi,rfl⟩:=List.mem_map.mp hy
    exact .inl ⟨i,rfl,(h.b i hi).mono⟩)
   exact ⟨k0,q _ this.1 this.2⟩⟩
 ·exact ⟨k0,by decide,(Bd.lit (i:=5) (n:=3)).mono,by decide,vv (md _ (by decide)).1 (by have:=md (c.fdiv 5) (show (0:Int) < 2 by decide); show (c.fdiv 5).fmod 2 < 2; omega) λz hz=>by
   obtain ⟨w,rfl,bw⟩:xz (Bd 2) z:=by
    simp only [List.mem_cons,List.not_mem_nil,or_false] at hz
    rcases hz with rfl | rfl <;> exact ⟨_,rfl,Bd.lit⟩
   have:=gb (o:=o + w) (ys:=ns.map D.int) ((h.o.add bw.mono).mono) (by rw [List.length_map]; have:=h.l; omega) (λy hy=>by
    obtain ⟨i,hi,rfl⟩:=List.mem_map.mp hy
    exact .inl ⟨i,rfl,(h.b i hi).mono⟩)
   exact ⟨k0,q _ this.1 this.2⟩⟩
 rw [UY] at c2
 have hn:1<=ns.length:=by
  cases ns with
  | nil=>cases c2
  | cons=>exact Nat.succ_le_succ (Nat.zero_le _)
 have lm:(List.map D.int ns).length=ns.length:=List.length_map ..
 have m5:=md c (show (0:Int) < 5 by decide)
 have c1':=of_decide_eq_false c1
 refine ⟨by decide,(Bd.lit (i:=10) (n:=4)).mono,by omega,?_⟩
 have mat:=md (c.fdiv 10) (show (0:Int) < ((List.map D.int ns).length:Int) by omega)
 refine yz mat.1 (by omega) λx1 h1=>yz mat.1 (by omega) λx2 h2=>yz mat.1 (by omega) λx3 h3=>⟨k0,vv (by omega) (by show c.fmod 5 - 1 < 4; omega) λz hz=>?_⟩
 have hz':Sy z:=by
  simp only [List.mem_cons,List.not_mem_nil,or_false] at hz
  rcases hz with rfl | rfl | rfl | rfl
  ·exact .inl ⟨_,rfl,(qi (h.b x1 h1) (by decide)).1⟩
  ·exact .inl ⟨_,rfl,(qi (h.b x2 h2) (by decide)).2⟩
  ·exact .inr rfl
  ·exact .inl ⟨_,rfl,(qi (h.b x3 h3) (by decide)).1⟩
 have l1:=WO (xs:=ns.map D.int) (lo:=none) (hi:=some ((c.fdiv 10).fmod ((List.map D.int ns).length:Int)))
 have l2:=WO (xs:=ns.map D.int) (lo:=some ((c.fdiv 10).fmod ((List.map D.int ns).length:Int) + 1)) (hi:=none)
 refine ⟨k0,by show _ + 1<=1000; omega,by rw [List.length_append]; show _ + 1 + _<=1000; omega,k0,?_⟩
 have K:=gb (o:=o) (ys:=zh (ns.map D.int) none (some ((c.fdiv 10).fmod ((List.map D.int ns).length:Int)))++[z]++zh (ns.map D.int) (some ((c.fdiv 10).fmod ((List.map D.int ns).length:Int) + 1)) none) (h.o.mono) (by rw [List.length_append,List.length_append]; show _ + 1 + _<=900; omega) (λy hy=>by
  have cm:∀ {lo hi:Option Int},y∈zh (ns.map D.int) lo hi->Sy y:=λhy=>by
   obtain ⟨i,hi,rfl⟩:=List.mem_map.mp (J2 hy)
   exact .inl ⟨i,rfl,(h.b i hi).mono⟩
  rcases List.mem_append.mp hy with hy | hy
  ·rcases List.mem_append.mp hy with hy | hy
   ·exact cm hy
   ·rw [List.mem_singleton.mp hy]; exact hz'
  ·exact cm hy)
 exact q _ K.1 K.2
theorem zFN {k:Nat} {f:Addr} {fd:FuncData} {j:Nat} (F:zf K "_law_changed" "_law_changed" J9 f fd) (B:Bl mg) (bY:Fn P w K mg base "_law_other" ["_law_shares","_law_cell"] k (zI (zMV))) (ay:Fn P w K mg base "_law_changed" ["_law_some","_law_cell"] k (zI (jB j))):zH P w K mg base zZ (k + 1) f fd ["_law_some","_law_cell"] (zI (jB (j + 1))):=by
 refine zu F QA (λds R h=>by obtain ⟨d,c,rfl,_⟩:=h; rfl) λcdv A outer s H E hr=>⟨_,(zJ (yE (wY hr.units (zA 0) (yO zC)) (zO (zV (yO (zB (xb (zB zD (zB (yO zC) zC))) zC)))) yD)
  (zJ (zp 2 QA.nd rfl (Or.inl rfl) (yr (zA 1) (zq yV yZ rfl B.len_ yW (zB (zA 0) zC))))
  (zJ (zp 1 QA.nd rfl (Or.inl rfl) (wJ (zA 1) (zq yV yZ rfl B.len_ yW (zB (zA 0) zC))))
  (zJ (yE (yY (yM (xj wv rfl B.isinstance_ xx (zg (zT (zA 0) (zA 2) (λ_ _=>rfl)) (zg (wr (v:=.ty "tuple") (u:=.type "tuple") rfl B.tuple_ xk rfl) yB))) (wy Zk))) (zJ (yE (wY hr.units (yr (zA 1) zD) zD) (zO (zV (zX (yt (zA 0) y8 (yh (zA 2))) (yt (zA 0) (yh (zX (zA 2) zD)) y8)))) yD)
   (zO (zV (zX (zX (yt (zA 0) y8 (yh (zA 2))) (yO (zB (zP bY hr rfl (zB (zT (zA 0) (zA 2) (λ_ _=>rfl)) (zB (wJ (zA 1) zD) zC))) zC))) (yt (zA 0) (yh (zX (zA 2) zD)) y8))))) yD)
  (zJ (yE (wY hr.units (yr (zA 1) zD) zD) (zO (zV (zX (zX (yt (zA 0) y8 (yh (zA 2))) (yO (zB zQJ zC))) (yt (zA 0) (yh (zX (zA 2) zD)) y8)))) yD)
  (zJ (yE (wY hr.units (yr (zA 1) zD) zD) (zO (zV (zX (yt (zA 0) y8 (yh (zA 2))) (yt (zA 0) (yh (zX (zA 2) zD)) y8)))) yD)
  (zO (zV (zX (zX (yt (zA 0) y8 (yh (zA 2))) (yO (zB (zP ay hr rfl (zB (zT (zA 0) (zA 2) (λ_ _=>rfl)) (zB (wJ (zA 1) zD) zC))) zC))) (yt (zA 0) (yh (zX (zA 2) zD)) y8)))))))))),λds R h=>?_⟩
 obtain ⟨d,c,rfl,h⟩:=h
 rcases h with ⟨ss,rfl,hs,q⟩ | ⟨j1,t,rfl,ht,q⟩
 ·have ls:=hs.1
  have lm:(List.map zY ss).length=ss.length:=List.length_map ..
  refine ⟨k0,zQR 45 ss,rfl,w2 (λc1=>⟨k0,k0,k0,?_⟩) λc1=>?_⟩
  ·have K:=WP (k:=0) (as:=[.tup [.int 1,.lst []]]) (by show 1<=900; decide) (λa ha=>by rw [List.mem_singleton.mp ha]; exact gb ((Bd.lit (i:=1) (n:=1)).mono) (by decide) (λ_ h=>nomatch h))
   exact q _ K.1 K.2
  rw [UY] at c1
  have hn:1<=ss.length:=by
   cases ss with
   | nil=>cases c1
   | cons=>exact Nat.succ_le_succ (Nat.zero_le _)
  have mat:=md c (show (0:Int) < ((List.map zY ss).length:Int) by omega)
  have keep:∀ {lo hi:Option Int} {a:D},a∈zh (ss.map zY) lo hi->Fw 3 a/\uf a:=λha=>by
   obtain ⟨s,hs',rfl⟩:=List.mem_map.mp (J2 ha)
   exact J5 (hs.2 s hs')
  have cl:∀ {lo hi:Option Int},(zh (ss.map zY) lo hi).length<=40:=λ{lo hi}=>by have:=WO (xs:=ss.map zY) (lo:=lo) (hi:=hi); omega
  refine ⟨by omega,by omega,Bd.mono (n:=10) (vU (f:=1000) (by decide) (by omega) (by omega)) (by decide),vv mat.1 (by omega) λx hx=>?_⟩
  obtain ⟨s,hs',rfl⟩:=List.mem_map.mp hx
  refine ⟨rfl,wT rfl ⟨by decide,w2 (λc2=>?_) λc2=>?_⟩⟩
  ·refine ⟨?_,?_⟩
   ·have:=cl (lo:=none) (hi:=some (c.fmod ((List.map zY ss).length:Int)))
    have:=cl (lo:=some (c.fmod ((List.map zY ss).length:Int) + 1)) (hi:=none)
    omega
   ·have K:=WP (k:=0) (as:=zh (ss.map zY) none (some (c.fmod ((List.map zY ss).length:Int)))++zh (ss.map zY) (some (c.fmod ((List.map zY ss).length:Int) + 1)) none) (by
     have:=cl (lo:=none) (hi:=some (c.fmod ((List.map zY ss).length:Int)))
     have:=cl (lo:=some (c.fmod ((List.map zY ss).length:Int) + 1)) (hi:=none)
     rw [List.length_append]
     omega) (λa ha=>(List.mem_append.mp ha).elim keep keep)
    exact q _ K.1 K.2
  ·refine vv mat.1 (by omega) λy hy=>?_
   obtain ⟨s2,hs2,rfl⟩:=List.mem_map.mp hy
   refine ⟨by decide,(Bd.lit (i:=3) (n:=2)).mono,s2.1,s2.2,_,rfl,hs.2 s2 hs2,λz fz bz=>⟨k0,?_,?_,?_⟩⟩
   ·have:=cl (lo:=none) (hi:=some (c.fmod ((List.map zY ss).length:Int)))
    show _ + 1<=1000
    omega
   ·have:=cl (lo:=none) (hi:=some (c.fmod ((List.map zY ss).length:Int)))
    have:=cl (lo:=some (c.fmod ((List.map zY ss).length:Int) + 1)) (hi:=none)
    rw [List.length_append]
    show _ + 1 + _<=1000
    omega
   ·have K:=WP (k:=0) (as:=zh (ss.map zY) none (some (c.fmod ((List.map zY ss).length:Int)))++[z]++zh (ss.map zY) (some (c.fmod ((List.map zY ss).length:Int) + 1)) none) (by
     have:=cl (lo:=none) (hi:=some (c.fmod ((List.map zY ss).length:Int)))
     have:=cl (lo:=some (c.fmod ((List.map zY ss).length:Int) + 1)) (hi:=none)
     rw [List.length_append,List.length_append]
     show _ + 1 + _<=900
     omega) (λa ha=>by
     rcases List.mem_append.mp ha with ha | ha
     ·rcases List.mem_append.mp ha with ha | ha
      ·exact keep ha
      ·rw [List.mem_singleton.mp ha]; exact ⟨fz,bz⟩
     ·exact keep ha)
    exact q _ K.1 K.2
 ·have ls:=ht.1
  have lm:(List.map yG t).length=t.length:=List.length_map ..
  refine ⟨k0,zQQ 44 t,rfl,w2 (λc1=>⟨k0,k0,k0,?_⟩) λc1=>?_⟩
  ·refine q _ (.lst (by show 1<=900; decide) λa ha=>?_) λas e=>?_
   ·rw [List.mem_singleton.mp ha]
    exact (gb (o:=1) (ys:=[]) ((Bd.lit (i:=1) (n:=1)).mono) (by decide) (λ_ h=>nomatch h)).1.mono
   ·cases e
    exact λa ha as e=>by rw [List.mem_singleton.mp ha] at e; cases e
  rw [UY] at c1
  have hn:1<=t.length:=by
   cases t with
   | nil=>cases c1
   | cons=>exact Nat.succ_le_succ (Nat.zero_le _)
  have mat:=md c (show (0:Int) < ((List.map yG t).length:Int) by omega)
  have keep:∀ {lo hi:Option Int} {a:D},a∈zh (t.map yG) lo hi->Fw 4 a/\yS a:=λha=>by
   obtain ⟨s,hs',rfl⟩:=List.mem_map.mp (J2 ha)
   exact gc (k:=0) (ht.2 s hs')
  have cl:∀ {lo hi:Option Int},(zh (t.map yG) lo hi).length<=40:=λ{lo hi}=>by have:=WO (xs:=t.map yG) (lo:=lo) (hi:=hi); omega
  have c1l:=cl (lo:=none) (hi:=some (c.fmod ((List.map yG t).length:Int)))
  have c2l:=cl (lo:=some (c.fmod ((List.map yG t).length:Int) + 1)) (hi:=none)
  have put:∀ z:D,Fw 4 z->yS z->R (.lst (zh (t.map yG) none (some (c.fmod ((List.map yG t).length:Int)))++[z]++zh (t.map yG) (some (c.fmod ((List.map yG t).length:Int) + 1)) none)):=λz fz az=>by
   have K:=J7 (as:=zh (t.map yG) none (some (c.fmod ((List.map yG t).length:Int)))++[z]++zh (t.map yG) (some (c.fmod ((List.map yG t).length:Int) + 1)) none) (by
    rw [List.length_append,List.length_append]
    show _ + 1 + _<=900
    omega) (λa ha=>by
    rcases List.mem_append.mp ha with ha | ha
    ·rcases List.mem_append.mp ha with ha | ha
     ·exact keep ha
     ·rw [List.mem_singleton.mp ha]; exact ⟨fz,az⟩
    ·exact keep ha)
   exact q _ K.1 K.2
  refine ⟨by omega,by omega,Bd.mono (n:=10) (vU (f:=1000) (by decide) (by omega) (by omega)) (by decide),vv mat.1 (by omega) λx hx=>?_⟩
  obtain ⟨s,hs',rfl⟩:=List.mem_map.mp hx
  refine ⟨rfl,wF rfl ⟨by decide,w2 (λc2=>⟨k0,by show _ + 1<=1000; omega,by rw [List.length_append]; show _ + 1 + _<=1000; omega,put .non .non (λ_ e=>by cases e)⟩) λc2=>⟨by decide,w2 (λc3=>⟨by omega,?_⟩) λc3=>?_⟩⟩⟩
  ·have K:=J7 (as:=zh (t.map yG) none (some (c.fmod ((List.map yG t).length:Int)))++zh (t.map yG) (some (c.fmod ((List.map yG t).length:Int) + 1)) none) (by rw [List.length_append]; omega) (λa ha=>(List.mem_append.mp ha).elim keep keep)
   exact q _ K.1 K.2
  ·refine vv mat.1 (by omega) λy hy=>?_
   obtain ⟨s2,hs2,rfl⟩:=List.mem_map.mp hy
   obtain ⟨j',rfl⟩:∃ j',j=j' + 1:=⟨j - 1,by omega⟩
   exact ⟨by decide,(Bd.lit (i:=7) (n:=3)).mono,_,_,rfl,.inl ⟨s2,rfl,ht.2 s2 hs2,λz fz az=>⟨k0,by show _ + 1<=1000; omega,by rw [List.length_append]; show _ + 1 + _<=1000; omega,put z fz az⟩⟩⟩
theorem zI4 {k:Nat} {f:Addr} {fd:FuncData} (F:zf K "_law_spoilt" "_law_spoilt" QB f fd) (B:Bl mg) (ay:Fn P w K mg base "_law_changed" ["_law_some","_law_cell"] k (zI (jB 2))):zH P w K mg base zZ (k + 1) f fd ["_law_parts","_law_cell"] (zI (zMP)):=by
 refine zu F wn (λds R h=>by obtain ⟨room,S1,S2,ws,b,st,tp,S6,S7,S8,c,rfl,_⟩:=h; rfl) λcdv A outer s H E hr=>⟨_,(zJ (ue (yt (zA 0) y8 (yh zD)) (xi rfl (zk 2 wn.nd rfl (Or.inl rfl) (zk 3 wn.nd rfl (Or.inl rfl) (zk 4 wn.nd rfl (Or.inl rfl) (zk 5 wn.nd rfl (Or.inl rfl) xh))))))
  (zJ (ue (yt (zA 0) (yh zD) y8) (xi rfl (zk 6 wn.nd rfl (Or.inl rfl) (zk 7 wn.nd rfl (Or.inl rfl) (zk 8 wn.nd rfl (Or.inl rfl) (zk 9 wn.nd rfl (Or.inl rfl) (zk 10 wn.nd rfl (Or.inl rfl) xh)))))))
  (zJ (zp 11 wn.nd rfl (Or.inl rfl) (yr (zA 1) zD))
  (zJ (zp 1 wn.nd rfl (Or.inl rfl) (wJ (zA 1) zD))
  (ux (yE (wY hr.units (zA 11) zD) (zO (zp 3 wn.nd rfl (Or.inl rfl) (zP ay hr rfl (zB (zA 3) (zB (zA 1) zC))))) yD)
  (ux (yE (wY hr.units (zA 11) zD) (zO (zp 4 wn.nd rfl (Or.inl rfl) (zP ay hr rfl (zB (zA 4) (zB (zA 1) zC))))) yD)
  (ux (yE (wY hr.units (zA 11) zD) (zO (zp 8 wn.nd rfl (Or.inl rfl) (zP ay hr rfl (zB (zA 8) (zB (zA 1) zC))))) yD)
  (ux (yE (wY hr.units (zA 11) zD) (zO (zp 9 wn.nd rfl (Or.inl rfl) (zP ay hr rfl (zB (zA 9) (zB (zA 1) zC))))) yD)
  (zJ (zp 12 wn.nd rfl (Or.inl rfl) (yO (zB (zA 2) (zB (zA 3) (zB (zA 4) (zB (zA 5) (zB (zA 6) zC)))))))
  (zO (zV (zX (zA 12) (yO (zB (zA 7) (zB (zA 8) (zB (zA 9) (zB (zA 10) zC))))))))))))))))),λds R h=>?_⟩
 obtain ⟨room,S1,S2,ws,b,st,tp,S6,S7,S8,c,rfl,hS1,hS2,hS6,hS7,q⟩:=h
 refine ⟨by decide,by decide,(Bd.lit (i:=8) (n:=4)).mono,?_⟩
 refine ⟨λΓ=>∃ A1:D,Γ=[.sh (jj room (yG S1) (yf S2) ws b st tp (yf S6) (yG S7) (zY S8)),.sh (.int (c.fdiv 8)),.sh (Rm room),.sh A1,.sh (yf S2),.sh (U (ws++[b])),.sh (.int st),.sh (.int tp),.sh (yf S6),.sh (yG S7),.sh (zY S8),.sh (.int (c.fmod 8)),.no]/\Fw 5 A1/\yS A1,w2 (λc1=>⟨_,_,rfl,.inl ⟨S1,rfl,hS1,λd fd ad=>⟨d,rfl,fd.mono,ad⟩⟩⟩) λc1=>⟨_,rfl,(gc (k:=1) hS1).1,(gc (k:=1) hS1).2⟩,?_⟩
 rintro Γ' ⟨A1,rfl,fA1,pA1⟩
 refine ⟨λΓ=>∃ A2:D,Γ=[.sh (jj room (yG S1) (yf S2) ws b st tp (yf S6) (yG S7) (zY S8)),.sh (.int (c.fdiv 8)),.sh (Rm room),.sh A1,.sh A2,.sh (U (ws++[b])),.sh (.int st),.sh (.int tp),.sh (yf S6),.sh (yG S7),.sh (zY S8),.sh (.int (c.fmod 8)),.no]/\Fw 5 A2/\xG A2,w2 (λc1=>⟨_,_,rfl,.inr ⟨by decide,S2,rfl,hS2,λd fd ad=>⟨d,rfl,fd,ad⟩⟩⟩) λc1=>⟨_,rfl,(WQ hS2).1,(WQ hS2).2⟩,?_⟩
 rintro Γ' ⟨A2,rfl,fA2,pA2⟩
 refine ⟨λΓ=>∃ A6:D,Γ=[.sh (jj room (yG S1) (yf S2) ws b st tp (yf S6) (yG S7) (zY S8)),.sh (.int (c.fdiv 8)),.sh (Rm room),.sh A1,.sh A2,.sh (U (ws++[b])),.sh (.int st),.sh (.int tp),.sh A6,.sh (yG S7),.sh (zY S8),.sh (.int (c.fmod 8)),.no]/\Fw 5 A6/\xG A6,w2 (λc1=>⟨_,_,rfl,.inr ⟨by decide,S6,rfl,hS6,λd fd ad=>⟨d,rfl,fd,ad⟩⟩⟩) λc1=>⟨_,rfl,(WQ hS6).1,(WQ hS6).2⟩,?_⟩
 rintro Γ' ⟨A6,rfl,fA6,pA6⟩
 refine ⟨λΓ=>∃ A7:D,Γ=[.sh (jj room (yG S1) (yf S2) ws b st tp (yf S6) (yG S7) (zY S8)),.sh (.int (c.fdiv 8)),.sh (Rm room),.sh A1,.sh A2,.sh (U (ws++[b])),.sh (.int st),.sh (.int tp),.sh A6,.sh A7,.sh (zY S8),.sh (.int (c.fmod 8)),.no]/\Fw 5 A7/\yS A7,w2 (λc1=>⟨_,_,rfl,.inl ⟨S7,rfl,hS7,λd fd ad=>⟨d,rfl,fd.mono,ad⟩⟩⟩) λc1=>⟨_,rfl,(gc (k:=1) hS7).1,(gc (k:=1) hS7).2⟩,?_⟩
 rintro Γ' ⟨A7,rfl,fA7,pA7⟩
 exact ⟨k0,k0,k0,q A1 A2 A6 A7 fA1 fA2 fA6 fA7 pA1 pA2 pA6 pA7⟩
end
theorem zO5 {n j:Nat} {r:List Int} {B:List (List Int)} (lr:n<=r.length) (lB:B.length=n):((List.range n).map λi=>r.getD i 0 * (B.getD i []).getD j 0).sum=zL (r.take n) B j:=by
 unfold zL
 congr 1
 refine List.ext_getElem (by rw [List.length_map,List.length_map,List.length_zip,List.length_take,List.length_range]; omega) λi h1 h2=>?_
 rw [List.length_map,List.length_range] at h1
 rw [List.getElem_map,List.getElem_map,List.getElem_range,List.getElem_zip,List.getElem_take]
 rw [List.getD_eq_getElem?_getD,List.getElem?_eq_getElem (by omega),List.getD_eq_getElem?_getD (l:=B),List.getElem?_eq_getElem (by omega)]
 rfl
theorem YU {B:List (List Int)} {i:Nat} (h:i < B.length):yU (B.map L) (i:Int)=some (L (B.getD i [])):=by
 rw [gL]
 unfold yU wM
 rw [if_pos (by omega),if_pos (by omega)]
 show Option.map L B[((i:Nat):Int).toNat]? = _
 rw [show ((i:Nat):Int).toNat=i by omega,List.getElem?_eq_getElem h,List.getD_eq_getElem?_getD,List.getElem?_eq_getElem h]
 rfl
def QC:FL:=λds R=>∃ B r n,ds=[Tb B,U r]/\B.length=n/\n<=3/\r.length=n + 1/\(∀ q∈B,q.length=n/\∀ x∈q,Bd 20 x)/\(∀ x∈r,Bd 1000 x)/\R (U (zS n B r))
def zMb:FL:=λds R=>∃ B rm n,ds=[Tb B,Rm rm]/\B.length=n/\n<=3/\rm.length<=900/\(∀ r∈rm,r.length=n + 1/\∀ x∈r,Bd 1000 x)/\(∀ q∈B,q.length=n/\∀ x∈q,Bd 20 x)/\R (Rm (rm.map (zS n B)))
def zKA:FL:=λds R=>∃ n c,ds=[.int ((n:Nat):Int),.int c]/\1<=n/\n<=3/\∀ T B,TB n T B->xY T->xY B->R (.tup [Tb T,Tb B])
def YV (C CM CC CF:Addr):FL:=λds R=>∃ n bs ms s g t room A1 A2 ws b st tp A6 A7 A8,ds=[wS C CM n bs ms,qd CC s g t,jj room A1 A2 ws b st tp A6 A7 A8]/\ug n bs ms/\jd n room ws b st tp/\wC g n/\wC s n/\0<=t/\Bd 300 t/\Fw 5 A1/\Fw 5 A2/\Fw 5 A6/\Fw 5 A7/\Fw 5 A8/\yS A1/\xG A2/\xG A6/\yS A7/\uf A8/\qV ms=true/\R (.bool (vT n bs ms s g t room ws b st tp A1 A2 A6 A7 A8))
def jC:FL:=λds R=>∃ ns,ds=[.scr ns]/\R (.bool true)
theorem zRK {bs:List (Int × Int)} {n:Nat} (l:bs.length=n) (n3:n<=3) (h:∀ b∈bs,Bd 105 b.1/\Bd 105 b.2):(ui bs).length<=100/\∀ r∈ui bs,r.length=n + 1/\∀ x∈r,Bd 110 x:=by
 refine ⟨?_,λr hr=>?_⟩
 ·unfold ui
  rw [List.length_flatten]
  have e:(bs.mapIdx (wD bs.length)).map List.length=List.replicate bs.length 2:=by
   refine List.ext_getElem (by simp) λi h1 h2=>?_
   simp [wD]
  rw [e]
  simp
  omega
 ·obtain ⟨q,hq,hr⟩:=List.mem_flatten.mp hr
  obtain ⟨i,hi,rfl⟩:=List.mem_mapIdx.mp hq
  have hb:=h _ (List.getElem_mem hi)
  have u1:=zMy (n:=bs.length) (pl:=(i:Int)) (e:=110) ((Bd.lit (i:=1) (n:=1)).mono)
  rcases List.mem_cons.mp hr with rfl | hr
  ·exact ⟨by rw [List.length_append,ub,l]; rfl,vx u1 (hb.2.mono)⟩
  ·rw [List.mem_singleton.mp hr]
   refine ⟨by rw [List.length_append,List.length_map,ub,l]; rfl,vx (λx hx=>?_) (by rw [Int.zero_sub]; exact hb.1.neg.mono)⟩
   obtain ⟨y,hy,rfl⟩:=List.mem_map.mp hx
   rw [Int.zero_sub]
   exact (u1 y hy).neg
section
variable {P:Program} {w:World} {K:PySem.W.Frag} {mg:Str->Option Value} {base:Heap}
abbrev WR:Stmt:=zm 91
theorem zDf:ze ["_law_back","_law_row","_law_many"] ["_law_back","_law_row"] (zK WR):=.a
abbrev WS:Stmt:=zm 92
theorem zFW:ze ["_law_back","_law_room"] ["_law_back","_law_room"] (zK WS):=.a
abbrev QD:Stmt:=zm 94
theorem uX:ze ["_law_thing","_law_claim","_law_parts","_law_room","_law_starts","_law_steps","_law_measure","_law_step","_law_top_here","_law_falls","_law_floors","_law_tops","_law_paper"] ["_law_thing","_law_claim","_law_parts"] (zK QD):=.a
abbrev gf:Stmt:=zm 95
theorem vV:ze ["_law_script","_law_spec","_law_goal","_law_often","_law_step","_law_thing","_law_told","_law_parts","_law_there","_law_back","_law_begin","_law_one","_law_claim","_law_two"] ["_law_script"] (zK gf):=.a
variable {ae ag aClaim aSettles aComes aPaper aRooms aFalls:Addr} (aa:zE K mg "Mode" ae) (ab:wz K ae) (ac:zE K mg "Thing" ag) (af:w4 K ag) (TClaim:zE K mg "Claim" aClaim) (AClaim:w6 K aClaim) (TSettles:zE K mg "Settles" aSettles) (ASettles:w8 K aSettles) (TComes:zE K mg "Comes" aComes) (AComes:vA K aComes) (TPaper:zE K mg "Paper" aPaper) (APaper:vB K aPaper) (TRooms:zE K mg "Rooms" aRooms) (ARooms:vC K aRooms) (TFalls:zE K mg "Falls" aFalls) (AFalls:vD K aFalls) (Y:yu K aComes aSettles)
include aa ab ac af TClaim AClaim TSettles ASettles TComes AComes TPaper APaper TRooms ARooms TFalls AFalls Y
theorem zF4 {k:Nat} {f:Addr} {fd:FuncData} (F:zf K "_law_turned_row" "_law_turned_row" WR f fd) (B:Bl mg):zH P w K mg base zZ (k + 1) f fd ["_law_back","_law_row"] (zI (QC)):=by
 refine zu F zDf (λds R h=>by obtain ⟨B,r,n,rfl,_⟩:=h; rfl) λcdv A outer s H E hr=>⟨_,(zJ (zp 2 zDf.nd rfl (Or.inr rfl) (zq yV yZ rfl B.len_ yW (zB (zA 0) zC)))
  (zO (zV (xI wd wg rfl B.tuple_ xk (zB (zX (yI (own:=["_law_j"]) (caps:=[(0,"_law_back"),(1,"_law_row"),(2,"_law_many")]) (zz (S:=zK WR) (N:=["_law_back","_law_row","_law_many"]) rfl (by decide +kernel) rfl ⟨_,rfl⟩ rfl (by decide +kernel) (by decide +kernel)) rfl rfl yJ (xn rfl B.range_ (zB (zA 2) zC)) (λ_ _ _ _=>(zy 0 (show (["_law_j","_law_back","_law_row","_law_many"]:List Str).Nodup by decide +kernel) rfl (Or.inr rfl))) (λ_ _ _ _=>(zq (jy rfl) qI rfl B.sum_ jx (zB (yI (own:=["_law_i"]) (caps:=[(0,"_law_j"),(1,"_law_back"),(2,"_law_row")]) (jz rfl (by decide +kernel) (by decide +kernel) (by decide +kernel) (by decide +kernel)) rfl rfl yJ (xn rfl B.range_ (zB (zA 3) zC)) (λ_ _ _ _=>(zy 0 (show (["_law_i","_law_j","_law_back","_law_row"]:List Str).Nodup by decide +kernel) rfl (Or.inl rfl))) (λ_ _ _ _=>(yH (zT (zA 3) (zA 0) (λ_ _=>rfl)) (zT (zT (zA 2) (zA 0) (λ_ _=>rfl)) (zA 1) (λ_ _=>rfl))))) zC)))) (yO (zB (zT (zA 1) (y6 zD) (λ_ _=>rfl)) zC))) zC))))),λds R h=>?_⟩
 obtain ⟨B,r,n,rfl,lB,n3,lr,hB,hr,q⟩:=h
 have lm:(List.map L B).length=n:=by rw [List.length_map]; exact lB
 refine ⟨by omega,by omega,?_⟩
 rw [show ((List.length (List.map L B):Nat):Int).toNat=n by omega]
 refine zl.rng0 (λj=>.int (zL (r.take n) B j)) (by omega) (λj hj=>?_) ?_
 ·refine ⟨by omega,by omega,?_⟩
  rw [show ((List.length (List.map L B):Nat):Int).toNat=n by omega]
  refine zl.rng0 (λi=>.int (r.getD i 0 * (B.getD i []).getD j 0)) (by omega) (λi hi=>?_) ⟨(List.range n).map λi=>r.getD i 0 * (B.getD i []).getD j 0,by rw [List.map_map]; rfl,by rw [zO5 (by omega) lB]⟩
  have hq:B.getD i []∈B:=by
   rw [List.getD_eq_getElem?_getD,List.getElem?_eq_getElem (by omega)]
   exact List.getElem_mem _
  exact ⟨_,qT (j:=i) (by omega) rfl,_,YU (by omega),_,qT (j:=j) (by rw [(hB _ hq).1]; exact hj) rfl,(Xj hr i).mono,(Xj (hB _ hq).2 j).mono,rfl⟩
 refine ⟨_,qZ lr,k0,by rw [List.length_map,List.length_range]; show _ + 1<=1000; omega,?_⟩
 unfold zS U at q
 rw [List.map_append,List.map_map,zRC lr] at q
 exact q
theorem zFZ {k:Nat} {f:Addr} {fd:FuncData} (F:zf K "_law_turned_room" "_law_turned_room" WS f fd) (B:Bl mg) (aQ:Fn P w K mg base "_law_turned_row" ["_law_back","_law_row"] k (zI (QC))):zH P w K mg base zZ (k + 1) f fd ["_law_back","_law_room"] (zI (zMb)):=by
 refine zu F zFW (λds R h=>by obtain ⟨B,rm,n,rfl,_⟩:=h; rfl) λcdv A outer s H E hr=>⟨_,(zO (zV (yI (own:=["_law_row"]) (caps:=[(0,"_law_back")]) (zz (S:=zK WS) (N:=["_law_back","_law_room"]) rfl (by decide +kernel) rfl ⟨_,rfl⟩ rfl (by decide +kernel) (by decide +kernel)) rfl rfl yJ (yy (zA 1)) (λ_ _ _ _=>(zy 0 (show (["_law_row","_law_back"]:List Str).Nodup by decide +kernel) rfl (Or.inl rfl))) (λ_ _ _ _=>(zP aQ hr rfl (zB (zA 1) (zB (zA 0) zC))))))),λds R h=>?_⟩
 obtain ⟨B,rm,n,rfl,lB,n3,l9,hr,hB,q⟩:=h
 refine wm U zv u5 (λr=>U (zS n B r)) (by omega) (λr h=>⟨B,r,n,rfl,lB,n3,(hr r h).1,hB,(hr r h).2,rfl⟩) ?_
 rw [JO (zS n B)]
 exact q
theorem zNw {k:Nat} {f:Addr} {fd:FuncData} (F:zf K "_law_let" "_law_let" QD f fd) (B:Bl mg) (bZ:v7 P w K mg base aFalls ["self","room","starts","steps","measure","step","top","falls","floors","tops"] k (wl aFalls (zMh aFalls))) (b7:Fn P w K mg base "lets_by" ["thing","claim","paper"] (k + 1) (zI (zOo ag ae aComes aFalls))):zH P w K mg base zZ (k + 1 + 1) f fd ["_law_thing","_law_claim","_law_parts"] (zI (YV ag ae aComes aFalls)):=by
 refine zu F uX (λds R h=>by obtain ⟨n,bs,ms,s,g,t,room,A1,A2,ws,b,st,tp,A6,A7,A8,rfl,_⟩:=h; rfl) λcdv A outer s H E hr=>⟨_,(zJ (ue (yt (zA 2) y8 (yh zD)) (xi rfl (zk 3 uX.nd rfl (Or.inl rfl) (zk 4 uX.nd rfl (Or.inl rfl) (zk 5 uX.nd rfl (Or.inl rfl) (zk 6 uX.nd rfl (Or.inl rfl) xh))))))
  (zJ (ue (yt (zA 2) (yh zD) y8) (xi rfl (zk 7 uX.nd rfl (Or.inl rfl) (zk 8 uX.nd rfl (Or.inl rfl) (zk 9 uX.nd rfl (Or.inl rfl) (zk 10 uX.nd rfl (Or.inl rfl) (zk 11 uX.nd rfl (Or.inl rfl) xh)))))))
  (zJ (zp 12 uX.nd rfl (Or.inl rfl) (qP bZ TFalls hr rfl (zB (zA 3) (zB (zA 4) (zB (zA 5) (zB (zA 6) (zB (zA 7) (zB (zA 8) (zB (zA 9) (zB (zA 10) (zB (zA 11) zC)))))))))))
  (zO (zV (zP b7 hr rfl (zB (zA 0) (zB (zA 1) (zB (zA 12) zC))))))))),λds R h=>?_⟩
 obtain ⟨n,bs,ms,s,g,t,room,A1,A2,ws,b,st,tp,A6,A7,A8,rfl,TS,PS,RG,RS,t0,bt,F1,F2,F6,F7,F8,B1,B2,B6,B7,B8,cl,q⟩:=h
 have n3:=TS.ok.n3
 have lw:=PS.lw
 have fr:=PS.rm.few
 refine ⟨_,_,_,_,_,_,_,_,_,rfl,jc (by omega) (λr hr=>by rw [(PS.rm.row r hr).1]; omega),F1,F2,qU (by rw [List.length_append]; show _ + 1<=900; omega),F6,F7,F8,?_⟩
 exact ⟨n,bs,ms,s,g,t,room,A1,A2,ws,b,st,tp,A6,A7,A8,5,rfl,TS,PS,RG,RS,t0,bt,F1,F2,F6,F7,F8,B1,B2,B6,B7,B8,cl,q⟩
theorem zQm {k:Nat} {f:Addr} {fd:FuncData} (F:zf K "law" "law" gf f fd) (B:Bl mg) (b8:Fn P w K mg base "_law_drift" ["_law_script"] (k + 1) (zI (zOr))) (b9:Fn P w K mg base "_law_made" ["_law_spec"] (k + 1) (zI (zQ5 ag ae))) (ca:Fn P w K mg base "_law_falling" ["_law_spec","_law_goal","_law_often","_law_step","_law_cell"] (k + 1) (zI (zKD))) (aw:Fn P w K mg base "_law_cell_at" ["_law_script","_law_k"] (k + 1) (zI (Jq))) (cb:Fn P w K mg base "_law_spoilt" ["_law_parts","_law_cell"] (k + 1) (zI (zMP))) (cf:Fn P w K mg base "_law_fall_parts" ["_law_spec","_law_goal","_law_often","_law_step","_law_told"] (k + 1) (zI (zOm))) (cg:Fn P w K mg base "_law_turning" ["_law_many","_law_cell"] (k + 1) (zI zKA)) (ck:Fn P w K mg base "_law_rows" ["_law_box_here"] (k + 1) (zI (zQ4))) (aV:Fn P w K mg base "_law_let" ["_law_thing","_law_claim","_law_parts"] (k + 1) (zI (YV ag ae aComes aFalls))) (aW:v7 P w K mg base aComes ["self","start","goal","turns"] k (wl aComes (zMj aComes))) (aR:Fn P w K mg base "_law_turned_room" ["_law_back","_law_room"] (k + 1) (zI (zMb))) (aQ:Fn P w K mg base "_law_turned_row" ["_law_back","_law_row"] (k + 1) (zI (QC))) (cn:Fn P w K mg base "turned" ["thing","there","back"] (k + 1) (zI (zMO ag ae))):zH P w K mg base zZ (k + 1 + 1) f fd ["_law_script"] (zI (jC)):=by
 refine zu F vV (λds R h=>by obtain ⟨ns,rfl,_⟩:=h; rfl) λcdv A outer s H E hr=>⟨_,(zJ (ue (zP b8 hr rfl (zB (zA 0) zC)) (xi rfl (zk 1 vV.nd rfl (Or.inl rfl) (zk 2 vV.nd rfl (Or.inl rfl) (zk 3 vV.nd rfl (Or.inl rfl) (zk 4 vV.nd rfl (Or.inl rfl) xh))))))
  (zJ (zp 5 vV.nd rfl (Or.inl rfl) (zP b9 hr rfl (zB (zA 1) zC)))
  (zJ (zp 6 vV.nd rfl (Or.inl rfl) (zP ca hr rfl (zB (zA 1) (zB (zA 2) (zB (zA 3) (zB (zA 4) (zB (zP aw hr rfl (zB (zA 0) (zB zD zC))) zC)))))))
  (zJ (zp 7 vV.nd rfl (Or.inl rfl) (zP cb hr rfl (zB (zP cf hr rfl (zB (zA 1) (zB (zA 2) (zB (zA 3) (zB (zA 4) (zB (zA 6) zC)))))) (zB (zP aw hr rfl (zB (zA 0) (zB zD zC))) zC))))
  (zJ (ue (zP cg hr rfl (zB (zT (zA 1) zD (λ_ _=>rfl)) (zB (zP aw hr rfl (zB (zA 0) (zB zD zC))) zC))) (xi rfl (zk 8 vV.nd rfl (Or.inl rfl) (zk 9 vV.nd rfl (Or.inl rfl) xh))))
  (zJ (zp 10 vV.nd rfl (Or.inl rfl) (zP ck hr rfl (zB (zT (zA 6) zD (λ_ _=>rfl)) zC)))
  (zJ (zp 11 vV.nd rfl (Or.inl rfl) (zP aV hr rfl (zB (zA 5) (zB (qP aW TComes hr rfl (zB (zA 10) (zB (zT (zA 6) zD (λ_ _=>rfl)) (zB (zT (zA 6) zD (λ_ _=>rfl)) zC)))) (zB (zA 7) zC)))))
  (zJ (zp 12 vV.nd rfl (Or.inl rfl) (qP aW TComes hr rfl (zB (zP aR hr rfl (zB (zA 9) (zB (zA 10) zC))) (zB (zP aR hr rfl (zB (zA 9) (zB (zT (zA 6) zD (λ_ _=>rfl)) zC))) (zB (zT (zA 6) zD (λ_ _=>rfl)) zC)))))
  (zJ (zp 7 vV.nd rfl (Or.inl rfl) (zX (zX (zX (yO (zB (zP aR hr rfl (zB (zA 9) (zB (zT (zA 7) zD (λ_ _=>rfl)) zC))) zC)) (yt (zA 7) (yh zD) (yh zD))) (yO (zB (zP aQ hr rfl (zB (zA 9) (zB (zT (zA 7) zD (λ_ _=>rfl)) zC))) zC))) (yt (zA 7) (yh zD) y8)))
  (zJ (zp 13 vV.nd rfl (Or.inl rfl) (zP aV hr rfl (zB (zP cn hr rfl (zB (zA 5) (zB (zA 8) (zB (zA 9) zC)))) (zB (zA 12) (zB (zA 7) zC)))))
  (zO (zV (wQ (yM (xj wv rfl B.isinstance_ xx (zg (zA 11) (zg (wr (v:=.ty "bool") (u:=.type "bool") rfl B.bool_ KQ rfl) yB))) (wy zMH)) (vb (uP hr.units (zA 13) (zA 11)))))))))))))))),λds R h=>?_⟩
 obtain ⟨ns,rfl,q⟩:=h
 refine ⟨ns,rfl,λn bs ms u goal often step dr=>?_⟩
 have n3:=dr.ok.n3
 refine ⟨n,bs,ms,u,rfl,dr.ok,?_⟩
 refine ⟨ns,2,rfl,by decide,λc2=>⟨n,bs,ms,u,goal,often,step,c2,rfl,dr,λbox room aims ws b tp tu fl=>?_⟩⟩
 refine ⟨n,bs,ms,u,goal,often,step,box,room,aims,ws,b,tp,tu,rfl,dr,fl,λS1 S2 S6 S7 S8 h1 h2 h6 h7 h8=>⟨ns,3,rfl,by decide,λc3=>⟨room,S1,S2,ws,b,step,tp,S6,S7,S8,c3,rfl,h1,h2,h6,h7,λA1 A2 A6 A7 f1 f2 f6 f7 p1 p2 p6 p7=>?_⟩⟩⟩
 have k8:=J5 h8
 refine ⟨_,rfl,ns,4,rfl,by decide,λc4=>⟨n,c4,rfl,dr.ok.n1,n3,λT B tb hT hB=>?_⟩⟩
 refine ⟨_,rfl,box,rfl,by have:=fl.lb; omega,?_⟩
 have BX:=zRK fl.lb n3 fl.hb
 have lw:=fl.lw
 have r1:=fl.r1
 have a2:=fl.a2
 have fwr:∀ {rm:List (List Int)} {e:Nat},rm.length<=100->(∀ r∈rm,r.length=n + 1/\∀ x∈r,Bd e x)->Fw 5 (Rm rm):=λh1 h2=>jc (by omega) (λr hr=>by rw [(h2 r hr).1]; omega)
 have hBn:∀ q∈B,q.length=n/\∀ x∈q,Bd 20 x:=λq hq=>⟨tb.br q hq,hB q hq⟩
 have RS:wC (ui box) n:=⟨λr hr=>⟨(BX.2 r hr).1,λx hx=>((BX.2 r hr).2 x hx).mono⟩,BX.1⟩
 have RG:wC aims n:=⟨λr hr=>⟨(fl.am r hr).1,λx hx=>((fl.am r hr).2 x hx).mono⟩,by omega⟩
 have RM:wC room n:=⟨λr hr=>⟨(fl.rm r hr).1,λx hx=>((fl.rm r hr).2 x hx).mono⟩,by omega⟩
 have TS:ug n bs ms:=⟨dr.ok,λm hm=>(dr.hms m hm).ms (by decide),λb hb=>⟨(dr.hbs b hb).1.mono,(dr.hbs b hb).2.mono⟩⟩
 have PS:jd n room ws b step tp:=⟨RM,lw,λx hx=>(fl.bw x hx).mono,fl.bb.mono,dr.bst.mono,fl.bt.mono⟩
 have tl:∀ {rm:List (List Int)} {e:Nat},(∀ r∈rm,r.length=n + 1/\∀ x∈r,Bd e x)->∀ r∈rm.map (zS n B),r.length=n + 1/\∀ x∈r,Bd (e + 25) x:=λh r hr=>by
  obtain ⟨q,hq,rfl⟩:=List.mem_map.mp hr
  exact ⟨by rw [Kv (by rw [(h q hq).1]; omega)]; exact (h q hq).1,zLM (h q hq).1 n3 (h q hq).2 hB⟩
 have L1:((ui box).map (zS n B)).length<=100:=by rw [List.length_map]; exact BX.1
 have L2:(aims.map (zS n B)).length<=100:=by rw [List.length_map]; omega
 have L3:(room.map (zS n B)).length<=100:=by rw [List.length_map]; omega
 have TS2:ug n bs (ms.map (uh n bs.length T B)):=by
  refine ⟨⟨dr.ok.n1,n3,dr.ok.bok,dr.ok.b6,by rw [List.length_map]; exact dr.ok.m1,by rw [List.length_map]; exact dr.ok.m40,λm' hm=>?_⟩,λm' hm=>?_,TS.bs⟩
  ·obtain ⟨m,hm1,rfl⟩:=List.mem_map.mp hm
   exact Jl tb (dr.ok.mok m hm1)
  ·obtain ⟨m,hm1,rfl⟩:=List.mem_map.mp hm
   exact (YB tb (dr.ok.mok m hm1) hT hB (dr.hms m hm1)).ms (by decide)
 have PS2:jd n (room.map (zS n B)) (fB n B ws) b step tp:=by
  refine ⟨⟨λr hr=>⟨(tl fl.rm r hr).1,λx hx=>((tl fl.rm r hr).2 x hx).mono⟩,L3⟩,by unfold fB; rw [List.length_map,List.length_range],λx hx=>?_,fl.bb.mono,dr.bst.mono,fl.bt.mono⟩
  obtain ⟨j,_,rfl⟩:=List.mem_map.mp hx
  exact (gP fl.bw hB).mono (by rw [lw]; omega)
 refine ⟨_,rfl,_,rfl,_,_,_,rfl,fwr BX.1 BX.2,fwr (by omega) fl.am,n,bs,ms,ui box,aims,tu,room,A1,A2,ws,b,step,tp,A6,A7,_,rfl,TS,PS,RG,RS,fl.t0,fl.bu.mono,f1,f2,f6,f7,k8.1.mono,p1,p2,p6,p7,k8.2,dr.cl,?_⟩
 refine ⟨B,ui box,n,rfl,tb.bl,n3,by have:=BX.1; omega,λr hr=>⟨(BX.2 r hr).1,λx hx=>((BX.2 r hr).2 x hx).mono⟩,hBn,?_⟩
 refine ⟨_,rfl,B,aims,n,rfl,tb.bl,n3,by omega,λr hr=>⟨(fl.am r hr).1,λx hx=>((fl.am r hr).2 x hx).mono⟩,hBn,?_⟩
 refine ⟨_,rfl,_,_,_,rfl,fwr L1 (tl BX.2),fwr L2 (tl fl.am),?_⟩
 refine ⟨_,rfl,B,room,n,rfl,tb.bl,n3,by omega,λr hr=>⟨(fl.rm r hr).1,λx hx=>((fl.rm r hr).2 x hx).mono⟩,hBn,k0,k0,?_⟩
 have lwb:(ws++[b]).length=n + 1:=by rw [List.length_append,lw]; rfl
 refine ⟨_,rfl,B,ws++[b],n,rfl,tb.bl,n3,lwb,hBn,vx (λx hx=>(fl.bw x hx).mono) (fl.bb.mono),k0,k0,k0,?_⟩
 rw [Ji lw]
 refine ⟨n,bs,ms,T,B,rfl,dr.ok,tb,hT,hB,dr.hms,?_⟩
 have e:=zN7 (n:=n) (bs:=bs) (T:=T) (B:=B) (start:=ui box) (goal:=aims) (room:=room) (ws:=ws) (b:=b) (st:=step) (tp:=tp) (tu:=tu) (ms:=ms) (ms':=ms.map (uh n bs.length T B)) (A1:=A1) (A2:=A2) (A6:=A6) (A7:=A7) (A8:=zY S8) tb (zP3 dr.ok.mok) lw (λr hr=>(RS.row r hr).1) (λr hr=>(RM.row r hr).1) (λr hr=>(RG.row r hr).1)
 refine ⟨n,bs,_,(ui box).map (zS n B),aims.map (zS n B),tu,room.map (zS n B),A1,A2,fB n B ws,b,step,tp,A6,A7,zY S8,rfl,TS2,PS2,⟨λr hr=>⟨(tl fl.am r hr).1,λx hx=>((tl fl.am r hr).2 x hx).mono⟩,L2⟩,⟨λr hr=>⟨(tl BX.2 r hr).1,λx hx=>((tl BX.2 r hr).2 x hx).mono⟩,L1⟩,fl.t0,fl.bu.mono,f1,f2,f6,f7,k8.1.mono,p1,p2,p6,p7,k8.2,zLO dr.cl,?_⟩
 rw [e]
 exact ⟨rfl,wT rfl (bR q (beq_self_eq_true _).symm)⟩
end
theorem YW {ns:List Int} {i:Nat} (h:i < ns.length):yU (ns.map V.int) (i:Int)=some (.int (ns.getD i 0)):=by
 rw [zPu h,List.getD_eq_getElem?_getD,List.getElem?_eq_getElem h]
 rfl
theorem zNS {α:Type} {l:List α} {n:Nat} (h:l.length<=n):l.take n=l:=List.take_of_length_le h
theorem zOR {H:Hp} {tv:List V} {T:List (List Int)} {i:Nat} (h:ym H tv T) (hi:i < T.length):∃ a,yU tv (i:Int)=some (.ref a)/\H a=some (.lst ((T.getD i []).map V.int))/\T.getD i []∈T:=by
 have l:tv.length=T.length:=Paired.length h
 have hv:tv[i]? = some (tv[i]'(by omega)):=List.getElem?_eq_getElem _
 obtain ⟨r,hr,a,e1,ea⟩:=j2 h hv
 have e:T.getD i []=r:=by rw [List.getD_eq_getElem?_getD,hr]; rfl
 rw [e]
 exact ⟨a,Q6 (hv.trans (by rw [e1])),ea,List.mem_of_getElem? hr⟩
theorem Paired.mapM {α β:Type} {R S:α->β->Prop}:∀ {xs:List α} {ys:List β},Paired R xs ys->(∀ x y,x∈xs->R x y->S x y)->Paired S xs ys
 | _,_,.nil,_=>.nil
 | _,_,.cons h t,f=>.cons (f _ _ List.mem_cons_self h) (Paired.mapM t λx y m=>f x y (List.mem_cons_of_mem _ m))
theorem zOj (i j:Nat):(if decide (V.int (0 + (i:Int))=V.int (0 + (j:Int)))=true then (1:Int) else 0)=if i=j then 1 else 0:=by
 by_cases e:i=j
 ·rw [if_pos e,e,decide_eq_true rfl,if_pos rfl]
 ·rw [if_neg e,decide_eq_false (λz=>e (by injection z with z; omega)),if_neg (by decide)]
theorem zIA {f:Nat->Int} {n i:Nat} {v:Int}:((List.range n).map f).set i v=(List.range n).map λc=>if c=i then v else f c:=by
 refine List.ext_getElem (by simp) λk a b=>?_
 simp only [List.getElem_set,List.getElem_map,List.getElem_range]
 by_cases e:i=k
 ·rw [if_pos e,if_pos e.symm]
 ·rw [if_neg e,if_neg (λz=>e z.symm)]
theorem QE {n r:Nat} {f g:Nat->Nat->Int} {row:List Int} (h1:row=(List.range n).map (g r)) (h2:∀ k,k≠r->g k=f k):(yR n f).set r row=yR n g:=by
 unfold yR
 refine List.ext_getElem (by simp) λk a b=>?_
 simp only [List.getElem_set,List.getElem_map,List.getElem_range]
 by_cases e:r=k
 ·rw [if_pos e,h1,e]
 ·rw [if_neg e,h2 k (λz=>e z.symm)]
theorem zGZ {n:Nat} {f g:Nat->Nat->Int} (h:∀ r,r < n->f r=g r):yR n f=yR n g:=List.map_congr_left λr hr=>by rw [h r (List.mem_range.mp hr)]
theorem WT {n i:Nat} {t:Nat->Nat->Int} (h:i < n):(yR n t).getD i []=(List.range n).map (t i):=by
 unfold yR
 rw [List.getD_eq_getElem?_getD,List.getElem?_map,List.getElem?_range h]
 rfl
def xC (r:Nat) (b b':Nat->Nat->Int) (k:Nat):Nat->Int:=if k < r then b' k else b k
abbrev wo (H:Hp) (a:Addr) (r:List Int):Prop:=H a=some (.lst (r.map V.int))
theorem zJ7 {M:List Addr} {H:Hp} {a:Addr} {o:HO} (h:a∈M):yL M (zU H a o)=yL M H:=funext λb=>by
 unfold yL
 by_cases e:b∈M
 ·rw [if_pos e,if_pos e]
 ·rw [if_neg e,if_neg e,zr (λz=>e (by rw [z]; exact h))]
theorem zGh {H:Hp} {a:Addr} {row:List Int}:∀ {as:List Addr} {tab:List (List Int)} {r:Nat},Paired (wo H) as tab->as[r]? = some a->as.Nodup->Paired (wo (zU H a (.lst (row.map V.int)))) as (tab.set r row)
 | _,_,_,.nil,e,_=>by simp at e
 | x :: as,_,0,.cons _ t,e,nd=>by
  have ex:x=a:=by simpa using e
  subst ex
  refine .cons xM (Paired.mapM t λy _ hy k=>?_)
  show zU H x _ y=_
  rw [zr (λz=>by rw [z] at hy; exact (List.nodup_cons.mp nd).1 hy)]
  exact k
 | x :: as,_,r + 1,.cons h t,e,nd=>by
  have e2:as[r]? = some a:=by simpa using e
  refine .cons ?_ (zGh t e2 (List.nodup_cons.mp nd).2)
  show zU H a _ x=_
  rw [zr (λz=>(List.nodup_cons.mp nd).1 (by rw [z]; exact List.mem_of_getElem? e2))]
  exact h
structure vF (Z:Addr->Prop) (H0 H:Hp) (ta ba:Addr) (as:List Addr) (n:Nat) (t b:Nat->Nat->Int):Prop where
 same:zF H0 (yL (ta :: as) H)
 hta:∃ tv,H ta=some (.lst tv)/\ym (zQ Z (yL (ta :: as) H)) tv (yR n t)
 hba:yL (ta :: as) H ba=some (.lst (as.map V.ref))
 hb:Paired (wo H) as (yR n b)
 nd:(ta :: as).Nodup
theorem QF {H H':Hp} {as:List Addr} {tab:List (List Int)} (s:zF H H') (h:Paired (wo H) as tab):Paired (wo H') as tab:=Paired.mapP h λ_ _ z=>s _ _ z
theorem vF.grow {Z:Addr->Prop} {H0 H H':Hp} {ta ba:Addr} {as:List Addr} {n:Nat} {t b:Nat->Nat->Int} (x:vF Z H0 H ta ba as n t b) (s:zF H H'):vF Z H0 H' ta ba as n t b:=
 ⟨x.same.trans (k7 s),let ⟨tv,h,k⟩:=x.hta; ⟨tv,s _ _ h,ym.same (yg (k7 s)) k⟩,k7 s _ _ x.hba,QF s x.hb,x.nd⟩
theorem vF.in_ {Z:Addr->Prop} {H0 H:Hp} {ta ba:Addr} {as:List Addr} {n:Nat} {t b:Nat->Nat->Int} (x:vF Z H0 H ta ba as n t b):∀ a∈ta :: as,∃ o,H a=some o:=λa h=>by
 rcases List.mem_cons.mp h with rfl | h
 ·obtain ⟨tv,h,_⟩:=x.hta
  exact ⟨_,h⟩
 ·obtain ⟨i,hi,e⟩:=List.mem_iff_getElem.mp h
  obtain ⟨r,_,k⟩:=j2 x.hb (List.getElem?_eq_getElem hi)
  rw [e] at k
  exact ⟨_,k⟩
theorem vF.putT {Z:Addr->Prop} {H0 H:Hp} {ta ba:Addr} {as:List Addr} {n:Nat} {t t' b:Nat->Nat->Int} {tv:List V} (x:vF Z H0 H ta ba as n t b) (h:ym (zQ Z (yL (ta :: as) H)) tv (yR n t')):vF Z H0 (zU H ta (.lst tv)) ta ba as n t' b:=by
 have e:yL (ta :: as) (zU H ta (.lst tv))=yL (ta :: as) H:=zJ7 (by simp)
 refine ⟨by rw [e]; exact x.same,⟨tv,xM,by rw [e]; exact h⟩,by rw [e]; exact x.hba,Paired.mapM x.hb λy _ hy k=>?_,x.nd⟩
 show zU H ta _ y=_
 rw [zr (λz=>(List.nodup_cons.mp x.nd).1 (by rw [<- z]; exact hy))]
 exact k
theorem vF.putB {Z:Addr->Prop} {H0 H:Hp} {ta ba a:Addr} {as:List Addr} {n r:Nat} {t b b':Nat->Nat->Int} {row:List Int} (x:vF Z H0 H ta ba as n t b) (ha:as[r]? = some a) (h1:row=(List.range n).map (b' r)) (h2:∀ k,k≠r->b' k=b k):vF Z H0 (zU H a (.lst (row.map V.int))) ta ba as n t b':=by
 have hm:=List.mem_of_getElem? ha
 have e:yL (ta :: as) (zU H a (.lst (row.map V.int)))=yL (ta :: as) H:=zJ7 (List.mem_cons_of_mem _ hm)
 refine ⟨by rw [e]; exact x.same,?_,by rw [e]; exact x.hba,?_,x.nd⟩
 ·obtain ⟨tv,h,k⟩:=x.hta
  exact ⟨tv,by rw [zr (λz=>(List.nodup_cons.mp x.nd).1 (by rw [z]; exact hm))]; exact h,by rw [e]; exact k⟩
 ·rw [<- QE h1 h2]
  exact zGh x.hb ha (List.nodup_cons.mp x.nd).2
theorem zJn {H:Hp}:∀ {as:List Addr} {tab:List (List Int)},Paired (wo H) as tab->ym H (as.map V.ref) tab
 | _,_,.nil=>.nil
 | _,_,.cons h t=>.cons ⟨_,rfl,h⟩ (zJn t)
theorem zJX {f g:Nat->Int}:∀ l:List Nat,(l.map f).zip (l.map g)=l.map λc=>(f c,g c)
 | []=>rfl
 | a :: l=>by rw [List.map_cons,List.map_cons,List.zip_cons_cons,zJX l]; rfl
theorem QG {H:Hp}:∀ {vs:List V} {tab:List (List Int)},ym H vs tab->yX H vs (tab.map L)
 | _,_,.nil=>.nil
 | _,_,.cons ⟨_,e,h⟩ t=>.cons (by rw [e]; exact .lst h K4) (QG t)
theorem zLR {n k:Nat} {t:Nat->Nat->Int} (h:∀ r c,r < n->c < n->Bd k (t r c)) (k20:k<=20):xY (yR n t):=λrow hr x hx=>by
 obtain ⟨r,hr2,rfl⟩:=List.mem_map.mp hr
 obtain ⟨c,hc,rfl⟩:=List.mem_map.mp hx
 exact (h r c (List.mem_range.mp hr2) (List.mem_range.mp hc)).mono k20
section
variable {P:Program} {w:World} {K:PySem.W.Frag} {mg:Str->Option Value} {base:Heap}
abbrev gg:Stmt:=zm 90
theorem um:ze ["_law_many","_law_cell","_law_xs","_law_there","_law_back","_law_k","_law_i","_law_j","_law_c","_law_row"] ["_law_many","_law_cell"] (zK gg):=.a
variable {ae ag aClaim aSettles aComes aPaper aRooms aFalls:Addr} (aa:zE K mg "Mode" ae) (ab:wz K ae) (ac:zE K mg "Thing" ag) (af:w4 K ag) (TClaim:zE K mg "Claim" aClaim) (AClaim:w6 K aClaim) (TSettles:zE K mg "Settles" aSettles) (ASettles:w8 K aSettles) (TComes:zE K mg "Comes" aComes) (AComes:vA K aComes) (TPaper:zE K mg "Paper" aPaper) (APaper:vB K aPaper) (TRooms:zE K mg "Rooms" aRooms) (ARooms:vC K aRooms) (TFalls:zE K mg "Falls" aFalls) (AFalls:vD K aFalls) (Y:yu K aComes aSettles)
include aa ab ac af TClaim AClaim TSettles ASettles TComes AComes TPaper APaper TRooms ARooms TFalls AFalls Y
theorem zIJ {k:Nat} {f:Addr} {fd:FuncData} (F:zf K "_law_turning" "_law_turning" gg f fd) (B:Bl mg) (ar:Fn P w K mg base "_law_stream" ["_law_cell","_law_many"] k (zI (YD))) (al:Fn P w K mg base "_law_number" ["_law_x","_law_far"] k (zI (gZ))):zH P w K mg base zZ (k + 1) f fd ["_law_many","_law_cell"] (zI zKA):=by
 refine F.ok um (U0 λds R h=>by obtain ⟨n,c,rfl,_⟩:=h; rfl) (λcdv A outer s H vs Q E hr h=>?_)
 obtain ⟨Z,ds,R,zd,hv,⟨n,cc,rfl,n1,n3,q0⟩,q⟩:=h
 refine ⟨_,(uH (qr (i:=2) um.nd rfl (Or.inl rfl) (W6 ar hr rfl (zg (L2.pv 1) (zg vg yB))))
  (uH (UC (i:=3) um.nd rfl rfl (own:=["_law_i"]) (caps:=[(0,"_law_many")]) (zz (S:=zK gg) (N:=["_law_many","_law_cell","_law_xs","_law_there","_law_back","_law_k","_law_i","_law_j","_law_c","_law_row"]) rfl (by decide +kernel) rfl ⟨_,rfl⟩ rfl (by decide +kernel) (by decide +kernel)) rfl (qt rfl B.range_ (zg (L2.pv 0) yB)) (λ_ _ _ _=>v0 (i:=0) (show (["_law_i","_law_many"]:List Str).Nodup by decide +kernel) rfl (Or.inr rfl)) (λ_ _ _ _=>(UB (own:=["_law_j"]) (caps:=[(0,"_law_i")]) (jz rfl (by decide +kernel) (by decide +kernel) (by decide +kernel) (by decide +kernel)) rfl (qt rfl B.range_ (zg (L2.pv 1) yB)) (λ_ _ _ _=>v0 (i:=0) (show (["_law_j","_law_i"]:List Str).Nodup by decide +kernel) rfl (Or.inl rfl)) (λ_ _ _ _=>(Wv Yl rfl B.int_ kX (zg (Wp kD (L2.pv 1) (L2.pv 0) (vi _)) yB))))) rfl)
  (uH (UC (i:=4) um.nd rfl rfl (own:=["_law_i"]) (caps:=[(0,"_law_many")]) (zz (S:=zK gg) (N:=["_law_many","_law_cell","_law_xs","_law_there","_law_back","_law_k","_law_i","_law_j","_law_c","_law_row"]) rfl (by decide +kernel) rfl ⟨_,rfl⟩ rfl (by decide +kernel) (by decide +kernel)) rfl (qt rfl B.range_ (zg (L2.pv 0) yB)) (λ_ _ _ _=>v0 (i:=0) (show (["_law_i","_law_many"]:List Str).Nodup by decide +kernel) rfl (Or.inr rfl)) (λ_ _ _ _=>(UB (own:=["_law_j"]) (caps:=[(0,"_law_i")]) (jz rfl (by decide +kernel) (by decide +kernel) (by decide +kernel) (by decide +kernel)) rfl (qt rfl B.range_ (zg (L2.pv 1) yB)) (λ_ _ _ _=>v0 (i:=0) (show (["_law_j","_law_i"]:List Str).Nodup by decide +kernel) rfl (Or.inl rfl)) (λ_ _ _ _=>(Wv Yl rfl B.int_ kX (zg (Wp kD (L2.pv 1) (L2.pv 0) (vi _)) yB))))) rfl)
  (uH (Yd PassesOwn.never rfl (qt rfl B.range_ (zg (wt Yh (v5 v6 (L2.pv 2) vg (λ_ _=>rfl)) vg) yB)) (v0 (i:=5) um.nd rfl (Or.inl rfl)) (uH (qr (i:=6) um.nd rfl (Or.inl rfl) (wt Yh (v5 v6 (L2.pv 2) (wt kB vg (wt q9 vg (L2.pv 5))) (λ_ _=>rfl)) (L2.pv 0)))
   (uH (qr (i:=7) um.nd rfl (Or.inl rfl) (wt Yh (v5 v6 (L2.pv 2) (wt kB vg (wt q9 vg (L2.pv 5))) (λ_ _=>rfl)) (L2.pv 0)))
   (uH (qr (i:=8) um.nd rfl (Or.inr rfl) (W6 al hr rfl (zg (v5 v6 (L2.pv 2) (wt kB vg (wt q9 vg (L2.pv 5))) (λ_ _=>rfl)) (zg vg yB))))
   (jm (QX (Ql kD (L2.pv 6) (L2.pv 7) (vi _)) (uH (qp (KP (own:=["_law_x"]) (caps:=[]) (zRM rfl) rfl (Wm (v5 v6 (L2.pv 3) (L2.pv 6) (λ_ _=>rfl))) (λ_ _ _ _=>v0 (i:=0) (show (["_law_x"]:List Str).Nodup by decide +kernel) rfl (Or.inl rfl)) (λ_ _ _ _=>(wt Yg vg (L2.pv 0)))) (gu (L2.pv 3) (L2.pv 6) kO))
    (jm (Yd PassesOwn.never rfl (Wm (L2.pv 4)) (v0 (i:=9) um.nd rfl (Or.inl rfl)) (jm (qp (wt Yg vg (v5 v6 (L2.pv 9) (L2.pv 6) (λ_ _=>rfl))) (gu (L2.pv 9) (L2.pv 6) kO)))))) (uH (qp (KP (own:=["_law_x","_law_y"]) (caps:=[(8,"_law_c")]) (zPs (S:=zK gg) (N:=["_law_many","_law_cell","_law_xs","_law_there","_law_back","_law_k","_law_i","_law_j","_law_c","_law_row"]) rfl (by decide +kernel) rfl ⟨_,rfl⟩ rfl (by decide +kernel) (by decide +kernel)) rfl (zPI rfl B.zip_ (zg (v5 v6 (L2.pv 3) (L2.pv 6) (λ_ _=>rfl)) (zg (v5 v6 (L2.pv 3) (L2.pv 7) (λ_ _=>rfl)) yB))) (λ_ _ _ _=>show PG _ _ (gr K 2 (Wi (qm 0) (Wi (qm 1) gq))) from QZ (n:=2) rfl (Yc (v0 (i:=0) (show (["_law_x","_law_y","_law_c"]:List Str).Nodup by decide +kernel) rfl (Or.inl rfl)) (Yc (v0 (i:=1) (show (["_law_x","_law_y","_law_c"]:List Str).Nodup by decide +kernel) rfl (Or.inl rfl)) QY))) (λ_ _ _ _=>(wt kB (L2.pv 0) (wt q9 (L2.pv 2) (L2.pv 1))))) (gu (L2.pv 3) (L2.pv 6) kO))
    (jm (Yd PassesOwn.never rfl (Wm (L2.pv 4)) (v0 (i:=9) um.nd rfl (Or.inl rfl)) (jm (qp (wt Yg (v5 v6 (L2.pv 9) (L2.pv 7) (λ_ _=>rfl)) (wt q9 (L2.pv 8) (v5 v6 (L2.pv 9) (L2.pv 6) (λ_ _=>rfl)))) (gu (L2.pv 9) (L2.pv 7) kO))))))))))))
  (jm (QW (Qp (zg (L2.pv 3) (zg (L2.pv 4) yB))))))))),?_⟩
 obtain ⟨v1,v2,rfl,h1,h2⟩:=vq hv
 cases h1
 cases h2
 refine ⟨_,rfl,Z,[.int cc,.int 12],λd=>∃ xs,d=L xs/\xs.length=12/\YC xs,zd,.cons (.int _) (.cons (.int _) .nil),⟨cc,12,rfl,by decide,λxs l h=>⟨xs,rfl,l,h⟩⟩,?_⟩
 rintro d v J0 ⟨xs,rfl,l12,hx⟩ sJ hvx
 obtain ⟨xa,xv,rfl,exa0,hxv⟩:=hvx.lst_inv
 have ev:=UR hxv
 subst ev
 have exa:=zx _ _ exa0
 have zdJ:=zd.same sJ
 refine ⟨_,rfl,_,rfl,(by omega),(by omega),Yt (lo:=0) (n:=((n:Nat):Int).toNat)
  (λi ys σ H'=>ym (zQ Z H') ys ((List.range i).map λr=>(List.range n).map ((λr k=>if r=k then (1:Int) else 0) r))/\(∃ o,σ=[o,some (.int (n:Int))])/\zF J0 H')
  ⟨.nil,⟨none,rfl⟩,zF.refl _⟩ (λi ys σ H' hh=>by have:=Paired.length hh.1; rw [List.length_map,List.length_range] at this; omega) (Nat.le_of_lt (ut (by omega))) ?_ ?_⟩
 ·rintro i ys σ H' hi ⟨hz,⟨o1,rfl⟩,sm⟩
  refine ⟨_,rfl,_,rfl,(by omega),(by omega),Yt (lo:=0) (n:=((n:Nat):Int).toNat)
   (λj zs σ H2=>zs=((List.range j).map λk=>if i=k then (1:Int) else 0).map V.int/\(∃ o,σ=[o,some (.int (0 + (i:Int)))])/\H2=H')
   ⟨rfl,⟨none,rfl⟩,rfl⟩ (λj zs σ H2 ⟨e1,_⟩=>by rw [e1,List.length_map,List.length_map,List.length_range]; omega) (Nat.le_of_lt (ut (by omega))) ?_ ?_⟩
  ·rintro j zs σ H2 hj ⟨rfl,⟨o2,rfl⟩,rfl⟩
   refine ⟨_,rfl,_,rfl,rfl,.inr ⟨_,rfl,?_,⟨_,rfl⟩,rfl⟩⟩
   rw [List.range_succ,List.map_append,List.map_append,zOj]
   rfl
  rintro zs σ H2 ⟨rfl,⟨o2,rfl⟩,hZ⟩ c hc
  rw [hZ] at hc |-
  clear hZ
  rw [Int.toNat_natCast]
  have zc:=xL hc (HO.lst (((List.range n).map λk=>if i=k then (1:Int) else 0).map V.int))
  refine ⟨?_,⟨_,rfl⟩,sm.trans zc⟩
  rw [List.range_succ,List.map_append]
  exact j3 (R:=vO _) ⟨c,rfl,(xm ((zdJ.same sm).new hc)).trans xM⟩ (ym.same (yg zc) hz)
 rintro tv σ J1 ⟨htv1,⟨o1,rfl⟩,y1⟩ ta hta
 rw [Int.toNat_natCast] at htv1
 have nzt:=(zdJ.same y1).new hta
 have yG2:=xL hta (HO.lst tv)
 have eta:=xM (H:=J1) (a:=ta) (o:=HO.lst tv)
 generalize hhG2:zU J1 ta (HO.lst tv)=G2 at yG2 eta |-
 have eta2:=eta
 have SG2:=y1.trans yG2
 refine ⟨_,rfl,_,rfl,(by omega),(by omega),Yt (lo:=0) (n:=((n:Nat):Int).toNat)
  (λi ys σ H'=>(∃ as:List Addr,Paired (wo H') as ((List.range i).map λr=>(List.range n).map ((λr k=>if r=k then (1:Int) else 0) r))/\ys=as.map V.ref/\as.Nodup/\∀ a∈as,G2 a=none)/\(∃ o,σ=[o,some (.int (n:Int))])/\zF G2 H')
  ⟨⟨[],.nil,rfl,List.nodup_nil,λ_ h=>nomatch h⟩,⟨none,rfl⟩,zF.refl _⟩ (λi ys σ H' hh=>by obtain ⟨⟨as,h1,e1,_⟩,_⟩:=hh; have:=Paired.length h1; rw [List.length_map,List.length_range] at this; rw [e1,List.length_map]; omega) (Nat.le_of_lt (ut (by omega))) ?_ ?_⟩
 ·rintro i ys σ H' hi ⟨hz,⟨o1,rfl⟩,sm⟩
  refine ⟨_,rfl,_,rfl,(by omega),(by omega),Yt (lo:=0) (n:=((n:Nat):Int).toNat)
   (λj zs σ H2=>zs=((List.range j).map λk=>if i=k then (1:Int) else 0).map V.int/\(∃ o,σ=[o,some (.int (0 + (i:Int)))])/\H2=H')
   ⟨rfl,⟨none,rfl⟩,rfl⟩ (λj zs σ H2 ⟨e1,_⟩=>by rw [e1,List.length_map,List.length_map,List.length_range]; omega) (Nat.le_of_lt (ut (by omega))) ?_ ?_⟩
  ·rintro j zs σ H2 hj ⟨rfl,⟨o2,rfl⟩,rfl⟩
   refine ⟨_,rfl,_,rfl,rfl,.inr ⟨_,rfl,?_,⟨_,rfl⟩,rfl⟩⟩
   rw [List.range_succ,List.map_append,List.map_append,zOj]
   rfl
  rintro zs σ H2 ⟨rfl,⟨o2,rfl⟩,hZ⟩ c hc
  rw [hZ] at hc |-
  clear hZ
  rw [Int.toNat_natCast]
  have zc:=xL hc (HO.lst (((List.range n).map λk=>if i=k then (1:Int) else 0).map V.int))
  obtain ⟨as,hz,rfl,nd,fr⟩:=hz
  refine ⟨⟨as++[c],?_,?_,?_,?_⟩,⟨_,rfl⟩,sm.trans zc⟩
  ·rw [List.range_succ,List.map_append]
   exact j3 (R:=wo _) xM (QF zc hz)
  ·rw [List.map_append]
   rfl
  ·refine List.nodup_append.mpr ⟨nd,by simp,λx hx y hy z=>?_⟩
   rw [List.mem_singleton.mp hy] at z
   obtain ⟨k,hk,e⟩:=List.mem_iff_getElem.mp hx
   obtain ⟨r,_,q⟩:=j2 hz (List.getElem?_eq_getElem hk)
   rw [e,z] at q
   have q2:H' c=some (.lst (r.map V.int)):=q
   rw [hc] at q2
   cases q2
  ·intro a ha
   rcases List.mem_append.mp ha with ha | ha
   ·exact fr a ha
   ·rw [List.mem_singleton.mp ha]
    exact sm.free hc
 rintro bv σ J3 ⟨⟨as,has,rfl,nd,fr⟩,⟨o1,rfl⟩,y3⟩ ba hba
 rw [Int.toNat_natCast] at has
 have SG3:=SG2.trans y3
 replace eta:=(y3 _ _ eta)
 have nzb:=(zdJ.same SG3).new hba
 have nza:∀ a∈as,¬ Z a:=λa h=>(zdJ.same SG2).new (fr a h)
 have y4:=xL hba (HO.lst (as.map V.ref))
 have eba:=xM (H:=J3) (a:=ba) (o:=HO.lst (as.map V.ref))
 generalize hhJ4:zU J3 ba (HO.lst (as.map V.ref))=J4 at y4 eba |-
 have nba:ba∉ta :: as:=λz=>by
  rcases List.mem_cons.mp z with z | z
  ·rw [z,eta] at hba; cases hba
  ·obtain ⟨k,hk,e⟩:=List.mem_iff_getElem.mp z
   obtain ⟨r,_,q⟩:=j2 has (List.getElem?_eq_getElem hk)
   rw [e] at q
   have q:J3 ba=_:=q
   rw [hba] at q
   cases q
 have nta:ta∉as:=λz=>by
  have:=fr ta z
  rw [eta2] at this
  cases this
 have TS0:vF Z J0 J4 ta ba as n (λr k=>if r=k then (1:Int) else 0) (λr k=>if r=k then (1:Int) else 0):=by
  refine ⟨λx o e=>?_,⟨tv,y4 _ _ eta,?_⟩,(gG nba).trans eba,QF y4 has,List.nodup_cons.mpr ⟨nta,nd⟩⟩
  ·rw [gG (λz=>by
    rcases List.mem_cons.mp z with z | z
    ·have:=y1 _ _ e
     rw [z,hta] at this
     cases this
    ·have:=fr x z
     rw [SG2 _ _ e] at this
     cases this)]
   exact y4 _ _ (SG3 _ _ e)
  ·refine Paired.mapP htv1 λv r ⟨a,e1,e2⟩=>⟨a,e1,?_⟩
   obtain ⟨za,e2⟩:=qA e2
   have n1:a≠ta:=λz=>by rw [z,hta] at e2; cases e2
   rw [xm za,gG (λz=>by
    rcases List.mem_cons.mp z with z | z
    ·exact n1 z
    ·have:=fr a z
     rw [yG2 _ _ e2] at this
     cases this)]
   exact y4 _ _ (y3 _ _ (yG2 _ _ e2))
 have x4:∀ {H':Hp} {t b:Nat->Nat->Int},vF Z J0 H' ta ba as n t b->H' xa=some (.lst (xs.map V.int)):=λx=>v8 _ _ (x.same _ _ exa)
 have ax:∀ j:Nat,j < 12->∃ z,yU (xs.map V.int) (j:Int)=some (.int z):=λj hj=>⟨_,YW (by omega)⟩
 obtain ⟨z0,a0⟩:=ax 0 (by omega)
 have m0:=Int.fmod_nonneg_of_pos z0 (show (0:Int) < 4 by decide)
 have m1:=Int.fmod_lt_of_pos z0 (show (0:Int) < 4 by decide)
 refine ⟨_,rfl,xa,_,_,_,rfl,rfl,zR.of (x4 TS0),a0,_,_,rfl,rfl,(show (4:Int)≠0 by decide),_,rfl,?_⟩
 generalize z0.fmod 4=m at m0 m1 |-
 refine ⟨(by omega),(by omega),zMM (lo:=0) (n:=m.toNat)
  (λk σ H'=>∃ (t b:Nat->Nat->Int) (o5 o6 o7 o8 o9:Option V),σ=[some (.int (n:Int)),some (.int cc),some (.ref xa),some (.ref ta),some (.ref ba),o5,o6,o7,o8,o9]/\vF Z J0 H' ta ba as n t b/\uA n t b/\uA n b t/\∀ r c,r < n->c < n->Bd (1 + 4 * k) (t r c)/\Bd (1 + 4 * k) (b r c))
  ⟨_,_,none,none,none,none,none,rfl,TS0,Ku n,Ku n,λr c _ _=>?b0⟩ ?_ ?_⟩
 case b0=>
  have:Bd 1 (if r=c then (1:Int) else 0):=by
   by_cases e:r=c
   ·rw [if_pos e]; exact Bd.lit
   ·rw [if_neg e]; exact Bd.lit
  exact ⟨this,this⟩
 ·rintro k σ H1 hkm ⟨t,b,o5,o6,o7,o8,o9,rfl,TS,I1,I2,BD⟩
  have k3:k < 3:=by omega
  have nz:(n:Int)≠0:=by omega
  have bk:Bd 10 (0 + (k:Int)):=by
   show (0 + (k:Int)).natAbs < 2 ^ 10
   omega
  have b3:Bd 10 (3:Int):=Bd.lit
  have e1:=x4 TS
  obtain ⟨z1,a1⟩:=ax (1 + 3 * k) (by omega)
  obtain ⟨z2,a2⟩:=ax (2 + 3 * k) (by omega)
  obtain ⟨z3,a3⟩:=ax (3 + 3 * k) (by omega)
  rw [show ((1 + 3 * k:Nat):Int)=1 + 3 * (0 + (k:Int)) by omega] at a1
  rw [show ((2 + 3 * k:Nat):Int)=2 + 3 * (0 + (k:Int)) by omega] at a2
  rw [show ((3 + 3 * k:Nat):Int)=3 + 3 * (0 + (k:Int)) by omega] at a3
  have i0:=Int.fmod_nonneg_of_pos z1 (show (0:Int) < (n:Int) by omega)
  have i1:=Int.fmod_lt_of_pos z1 (show (0:Int) < (n:Int) by omega)
  have j0:=Int.fmod_nonneg_of_pos z2 (show (0:Int) < (n:Int) by omega)
  have j1:=Int.fmod_lt_of_pos z2 (show (0:Int) < (n:Int) by omega)
  refine ⟨_,rfl,_,rfl,_,_,rfl,rfl,⟨b3.mono,bk.mono⟩,_,_,rfl,rfl,xa,_,_,_,rfl,rfl,zR.of e1,a1,_,rfl,_,_,rfl,rfl,nz,?_⟩
  dsimp only
  generalize z1.fmod (n:Int)=iv at i0 i1 |-
  refine ⟨_,rfl,_,rfl,_,_,rfl,rfl,⟨b3.mono,bk.mono⟩,_,_,rfl,rfl,xa,_,_,_,rfl,rfl,zR.of e1,a2,_,rfl,_,_,rfl,rfl,nz,?_⟩
  dsimp only
  generalize z2.fmod (n:Int)=jv at j0 j1 |-
  refine ⟨_,rfl,_,rfl,_,_,rfl,rfl,⟨b3.mono,bk.mono⟩,_,_,rfl,rfl,xa,_,_,_,rfl,rfl,zR.of e1,a3,Z,[.int z3,.int 2],λd=>∃ y:Int,d=.int y/\-2<=y/\y<=2,zdJ.same (TS.same.trans v8),.cons (.int _) (.cons (.int _) .nil),⟨z3,2,rfl,by decide,(Bd.lit (i:=2) (n:=2)).mono,λy h1 h2=>⟨y,rfl,h1,h2⟩⟩,?_⟩
  rintro d v H1' ⟨by',rfl,c0,c1⟩ sc hd
  cases hd
  replace TS:=TS.grow sc
  clear sc e1
  have zd1:=zdJ.same (TS.same.trans v8)
  have bby:Bd 2 by':=by
   show by'.natAbs < 2 ^ 2
   omega
  obtain ⟨i,rfl⟩:=Int.eq_ofNat_of_zero_le i0
  obtain ⟨j,rfl⟩:=Int.eq_ofNat_of_zero_le j0
  have hi:i < n:=by omega
  have hj:j < n:=by omega
  obtain ⟨tv1,et1,ht1⟩:=TS.hta
  have ltv1:tv1.length=n:=(Paired.length ht1).trans (gI _ _)
  have las:as.length=n:=(Paired.length TS.hb).trans (gI _ _)
  obtain ⟨ri,ai,eri,_⟩:=zOR (i:=i) ht1 (by rw [gI]; exact hi)
  obtain ⟨rj,aj,erj,_⟩:=zOR (i:=j) ht1 (by rw [gI]; exact hj)
  rw [WT hi] at eri
  rw [WT hj] at erj
  have eri':=v8 _ _ (zx _ _ eri)
  have erj':=v8 _ _ (zx _ _ erj)
  refine ⟨_,rfl,_,rfl,rfl,_,rfl,?_⟩
  by_cases ce:(i:Int)=(j:Int)
  ·refine kY (zPo ce) ?_
   refine ⟨_,rfl,_,rfl,ta,_,_,_,rfl,rfl,zR.of et1,ai,ri,rfl,⟨_,zR.of eri'⟩,zMq (K:=K) (a:=ri) (xs:=((List.range n).map (t i)).map V.int) (λk ys σ H'=>ys=((((List.range n).map (t i)).take k).map λx=>0 - x).map V.int/\(∃ o,σ=[o])/\H'=H1')
    ⟨rfl,⟨none,rfl⟩,rfl⟩ (λk ys σ H' hk ⟨e1,_,e3⟩=>⟨by rw [e3]; exact zR.of eri',by rw [e1,List.length_map,List.length_map,List.length_take]; exact Nat.min_le_left _ _⟩) (by rw [List.length_map,List.length_map,List.length_range]; exact Nat.le_of_lt (ut (by omega))) ?_ ?_⟩
   ·rintro k2 x ys σ H' hk ⟨rfl,⟨o1,rfl⟩,rfl⟩
    obtain ⟨x0,hx0,rfl⟩:=UE hk
    refine ⟨_,rfl,_,_,rfl,rfl,?_,⟨_,rfl⟩,rfl⟩
    rw [kg hx0,List.map_append,List.map_append]
    rfl
   rintro ys σ H3 ⟨rfl,⟨o1,rfl⟩,hZ⟩ nl hnl
   subst hZ
   rw [show ((((List.range n).map (t i)).take (((List.range n).map (t i)).map V.int).length).map λx=>0 - x).map V.int=((List.range n).map (yn i t i)).map V.int from (by rw [List.length_map,List.take_length]; refine congrArg (List.map V.int) ?_; rw [List.map_map]; refine j8 λc _=>?_; show 0 - t i c=yn i t i c; unfold yn; rw [if_pos rfl])]
   have nzl:=(zd1.same (zF.refl _)).new hnl
   have zn:=xL hnl (HO.lst (((List.range n).map (yn i t i)).map V.int))
   have TS1:=TS.grow (zn)
   have enl:=xM (H:=H3) (a:=nl) (o:=HO.lst (((List.range n).map (yn i t i)).map V.int))
   have eta1:=zn _ _ ((zF.refl _) _ _ et1)
   have ht2:=ym.same (yg (Z:=Z) (k7 (B:=ta :: as) (zn))) ht1
   have nnl:nl∉ta :: as:=λw=>by
    obtain ⟨o,e⟩:=TS.in_ nl w
    rw [(zF.refl _) _ _ e] at hnl
    cases hnl
   generalize hhN:zU H3 nl (HO.lst (((List.range n).map (yn i t i)).map V.int))=N at zn TS1 enl eta1 ht2 |-
   refine ⟨_,rfl,_,rfl,ta,_,_,i,rfl,rfl,eta1,Y3 (by omega),?_⟩
   have TS2:=TS1.putT (t':=yn i t) (tv:=tv1.set i (.ref nl)) (by
    rw [<- QE (f:=t) (g:=yn i t) (r:=i) rfl (λk hk=>funext λc=>by unfold yn; rw [if_neg hk])]
    exact UD (R:=vO _) ⟨nl,rfl,(xm nzl).trans ((gG nnl).trans enl)⟩ i ht2)
   generalize hhN2:zU N ta (HO.lst (tv1.set i (V.ref nl)))=N2 at TS2 |-
   refine ⟨_,rfl,ba,rfl,⟨_,zR.of (v8 _ _ TS2.hba)⟩,Qc (K:=K) (a:=ba) (xs:=as.map V.ref)
    (λr σ H'=>∃ o9:Option V,σ=[some (.int (n:Int)),some (.int cc),some (.ref xa),some (.ref ta),some (.ref ba),some (.int (0 + (k:Int))),some (.int (i:Int)),some (.int (j:Int)),some (.int by'),o9]/\vF Z J0 H' ta ba as n (yn i t) (xC r b (yo i b)))
    ⟨o9,rfl,by
     rw [show xC 0 b (yo i b)=b from funext λk=>if_neg (by omega)]
     exact TS2⟩ (λr σ H' _ ⟨_,_,x⟩=>zR.of (v8 _ _ x.hba)) ?_ ?_⟩
   ·rintro r x σ H4 hrx ⟨o9,rfl,qy⟩
    rw [List.getElem?_map] at hrx
    cases hr:as[r]? with
    | none=>rw [hr] at hrx; cases hrx
    | some ra=>
     rw [hr] at hrx
     cases hrx
     have rn:r < n:=by
      have:=(List.getElem?_eq_some_iff.mp hr).1
      omega
     obtain ⟨row,hrow,era⟩:=j2 qy.hb hr
     have erow:row=(List.range n).map (b r):=by
      have e:=WT (t:=xC r b (yo i b)) rn
      rw [List.getD_eq_getElem?_getD,hrow] at e
      rw [show xC r b (yo i b) r=b r from if_neg (by omega)] at e
      exact e
     subst erow
     have era:H4 ra=some (.lst (((List.range n).map (b r)).map V.int)):=era
     have ari:yU (((List.range n).map (b r)).map V.int) (i:Int)=some (.int (b r i)):=by
      rw [YW (by rw [List.length_map,List.length_range]; exact hi),jR hi]
     have arj:yU (((List.range n).map (b r)).map V.int) (j:Int)=some (.int (b r j)):=by
      rw [YW (by rw [List.length_map,List.length_range]; exact hj),jR hj]
     refine ⟨_,rfl,_,rfl,ra,_,_,_,rfl,rfl,zR.of era,ari,_,_,rfl,rfl,?_⟩
     refine ⟨_,rfl,_,rfl,ra,_,_,i,rfl,rfl,era,Y3 (by rw [List.length_map,List.length_map,List.length_range]; exact hi),?_⟩
     refine ⟨some (.ref ra),rfl,?_⟩
     rw [show (((List.range n).map (b r)).map V.int).set i (V.int (0 - b r i))=(((List.range n).map (yo i b r))).map V.int from by
      rw [<- List.map_set,zIA]
      rfl]
     refine qy.putB hr (b':=xC (r + 1) b (yo i b)) ?_ (λk hk=>?_)
     ·rw [show xC (r + 1) b (yo i b) r=yo i b r from if_pos (by omega)]
     ·unfold xC
      by_cases e:k < r
      ·rw [if_pos e,if_pos (by omega)]
      ·rw [if_neg e,if_neg (by omega)]
   rintro σ H5 ⟨o9,rfl,TS5⟩
   refine ⟨_,_,_,_,_,_,_,rfl,⟨TS5.same,TS5.hta,TS5.hba,?_,TS5.nd⟩,zPX I1 hi,zOA I2,λr c hr hc=>?_⟩
   ·rw [<- zGZ (f:=xC (as.map V.ref).length b (yo i b)) (g:=yo i b) (λr hr=>if_pos (by rw [List.length_map]; omega))]
    exact TS5.hb
   obtain ⟨p1,p2⟩:=BD r c hr hc
   obtain ⟨q1,_⟩:=BD i c hi hc
   obtain ⟨_,q2⟩:=BD r i hr hi
   constructor
   ·unfold yn
    by_cases e:r=i
    ·rw [if_pos e,Int.zero_sub]; exact q1.neg.mono (by omega)
    ·rw [if_neg e]; exact p1.mono (by omega)
   ·unfold yo
    by_cases e:c=i
    ·rw [if_pos e,Int.zero_sub]; exact q2.neg.mono (by omega)
    ·rw [if_neg e]; exact p2.mono (by omega)
  have ne:i≠j:=λe=>ce (by rw [e])
  refine kZ (zRE ce) ?_
  have bi:∀ x∈(List.range n).map (t j),Bd 40 x:=λx hx=>by
   obtain ⟨c,hc,rfl⟩:=List.mem_map.mp hx
   exact (BD j c hj (List.mem_range.mp hc)).1.mono (by omega)
  refine ⟨_,rfl,_,rfl,ta,_,_,_,rfl,rfl,zR.of et1,ai,_,rfl,_,rfl,ta,_,_,_,rfl,rfl,zR.of et1,aj,ri,rj,rfl,⟨_,zR.of eri'⟩,⟨_,zR.of erj'⟩,zMp (K:=K) (a:=ri) (b:=rj) (xs:=((List.range n).map (t i)).map V.int) (ys:=((List.range n).map (t j)).map V.int)
   (λk zs σ H'=>zs=(((((List.range n).map (t i)).zip ((List.range n).map (t j))).take k).map λq=>q.1 + by' * q.2).map V.int/\(∃ o1 o2,σ=[o1,o2,some (.int by')])/\zF H1' H')
   ⟨rfl,⟨none,none,rfl⟩,zF.refl _⟩ (λk zs σ H' hk ⟨e1,_,sm⟩=>⟨zR.of (sm _ _ eri'),zR.of (sm _ _ erj'),by rw [e1,List.length_map,List.length_map,List.length_take]; exact Nat.min_le_left _ _⟩) (by rw [List.length_map,List.length_map,List.length_map,List.length_map]; exact Nat.le_refl _) (by rw [List.length_map,List.length_map,List.length_range]; exact Nat.le_of_lt (ut (by omega))) ?_ ?_⟩
  ·rintro k2 x y TT zs σ H' hx hy hT ⟨rfl,⟨o1,o2,rfl⟩,sm⟩
   obtain ⟨x0,hx0,rfl⟩:=UE hx
   obtain ⟨y0,hy0,rfl⟩:=UE hy
   have s2:=sm.trans (xL hT (HO.tup [V.int x0,V.int y0]))
   refine ⟨TT,_,rfl,zt.of xM,rfl,_,_,rfl,_,_,rfl,rfl,?_⟩
   refine ⟨_,rfl,_,rfl,_,rfl,_,_,rfl,rfl,⟨bby.mono,(bi _ (List.mem_of_getElem? hy0)).mono⟩,_,_,rfl,rfl,?_,⟨_,_,rfl⟩,s2⟩
   have hz2:(((List.range n).map (t i)).zip ((List.range n).map (t j)))[k2]? = some (x0,y0):=by rw [List.getElem?_zip_eq_some]; exact ⟨hx0,hy0⟩
   rw [kg hz2,List.map_append,List.map_append]
   rfl
  rintro zs σ H3 ⟨rfl,⟨o1,o2,rfl⟩,smz⟩ nl hnl
  rw [show (((((List.range n).map (t i)).zip ((List.range n).map (t j))).take (((List.range n).map (t i)).map V.int).length).map λq=>q.1 + by' * q.2).map V.int=((List.range n).map (yx i j by' t i)).map V.int from (by refine congrArg (List.map V.int) ?_; rw [zJX,zNS (by rw [List.length_map,List.length_map,List.length_map]; exact Nat.le_refl _),List.map_map]; refine j8 λc _=>?_; show t i c + by' * t j c=yx i j by' t i c; unfold yx; rw [if_pos rfl])]
  have nzl:=(zd1.same smz).new hnl
  have zn:=xL hnl (HO.lst (((List.range n).map (yx i j by' t i)).map V.int))
  have TS1:=TS.grow (smz.trans zn)
  have enl:=xM (H:=H3) (a:=nl) (o:=HO.lst (((List.range n).map (yx i j by' t i)).map V.int))
  have eta1:=zn _ _ (smz _ _ et1)
  have ht2:=ym.same (yg (Z:=Z) (k7 (B:=ta :: as) (smz.trans zn))) ht1
  have nnl:nl∉ta :: as:=λw=>by
   obtain ⟨o,e⟩:=TS.in_ nl w
   rw [smz _ _ e] at hnl
   cases hnl
  generalize hhN:zU H3 nl (HO.lst (((List.range n).map (yx i j by' t i)).map V.int))=N at zn TS1 enl eta1 ht2 |-
  refine ⟨_,rfl,_,rfl,ta,_,_,i,rfl,rfl,eta1,Y3 (by omega),?_⟩
  have TS2:=TS1.putT (t':=yx i j by' t) (tv:=tv1.set i (.ref nl)) (by
   rw [<- QE (f:=t) (g:=yx i j by' t) (r:=i) rfl (λk hk=>funext λc=>by unfold yx; rw [if_neg hk])]
   exact UD (R:=vO _) ⟨nl,rfl,(xm nzl).trans ((gG nnl).trans enl)⟩ i ht2)
  generalize hhN2:zU N ta (HO.lst (tv1.set i (V.ref nl)))=N2 at TS2 |-
  refine ⟨_,rfl,ba,rfl,⟨_,zR.of (v8 _ _ TS2.hba)⟩,Qc (K:=K) (a:=ba) (xs:=as.map V.ref)
   (λr σ H'=>∃ o9:Option V,σ=[some (.int (n:Int)),some (.int cc),some (.ref xa),some (.ref ta),some (.ref ba),some (.int (0 + (k:Int))),some (.int (i:Int)),some (.int (j:Int)),some (.int by'),o9]/\vF Z J0 H' ta ba as n (yx i j by' t) (xC r b (yQ i j by' b)))
   ⟨o9,rfl,by
    rw [show xC 0 b (yQ i j by' b)=b from funext λk=>if_neg (by omega)]
    exact TS2⟩ (λr σ H' _ ⟨_,_,x⟩=>zR.of (v8 _ _ x.hba)) ?_ ?_⟩
  ·rintro r x σ H4 hrx ⟨o9,rfl,qy⟩
   rw [List.getElem?_map] at hrx
   cases hr:as[r]? with
   | none=>rw [hr] at hrx; cases hrx
   | some ra=>
    rw [hr] at hrx
    cases hrx
    have rn:r < n:=by
     have:=(List.getElem?_eq_some_iff.mp hr).1
     omega
    obtain ⟨row,hrow,era⟩:=j2 qy.hb hr
    have erow:row=(List.range n).map (b r):=by
     have e:=WT (t:=xC r b (yQ i j by' b)) rn
     rw [List.getD_eq_getElem?_getD,hrow] at e
     rw [show xC r b (yQ i j by' b) r=b r from if_neg (by omega)] at e
     exact e
    subst erow
    have era:H4 ra=some (.lst (((List.range n).map (b r)).map V.int)):=era
    have ari:yU (((List.range n).map (b r)).map V.int) (i:Int)=some (.int (b r i)):=by
     rw [YW (by rw [List.length_map,List.length_range]; exact hi),jR hi]
    have arj:yU (((List.range n).map (b r)).map V.int) (j:Int)=some (.int (b r j)):=by
     rw [YW (by rw [List.length_map,List.length_range]; exact hj),jR hj]
    have bi:=(BD r i rn hi).2
    refine ⟨_,rfl,_,rfl,ra,_,_,_,rfl,rfl,zR.of era,arj,_,rfl,_,rfl,_,rfl,ra,_,_,_,rfl,rfl,zR.of era,ari,_,_,rfl,rfl,⟨bby.mono,bi.mono (by omega)⟩,_,_,rfl,rfl,?_⟩
    refine ⟨_,rfl,_,rfl,ra,_,_,j,rfl,rfl,era,Y3 (by rw [List.length_map,List.length_map,List.length_range]; exact hj),?_⟩
    refine ⟨some (.ref ra),rfl,?_⟩
    rw [show (((List.range n).map (b r)).map V.int).set j (V.int (b r j - by' * b r i))=(((List.range n).map (yQ i j by' b r))).map V.int from by
     rw [<- List.map_set,zIA]
     rfl]
    refine qy.putB hr (b':=xC (r + 1) b (yQ i j by' b)) ?_ (λk hk=>?_)
    ·rw [show xC (r + 1) b (yQ i j by' b) r=yQ i j by' b r from if_pos (by omega)]
    ·unfold xC
     by_cases e:k < r
     ·rw [if_pos e,if_pos (by omega)]
     ·rw [if_neg e,if_neg (by omega)]
  rintro σ H5 ⟨o9,rfl,TS5⟩
  refine ⟨_,_,_,_,_,_,_,rfl,⟨TS5.same,TS5.hta,TS5.hba,?_,TS5.nd⟩,zPY I1 hi hj ne,zOB I2 hi hj ne,λr c hr hc=>?_⟩
  ·rw [<- zGZ (f:=xC (as.map V.ref).length b (yQ i j by' b)) (g:=yQ i j by' b) (λr hr=>if_pos (by rw [List.length_map]; omega))]
   exact TS5.hb
  obtain ⟨p1,p2⟩:=BD r c hr hc
  obtain ⟨q1,_⟩:=BD i c hi hc
  obtain ⟨q3,_⟩:=BD j c hj hc
  obtain ⟨_,q2⟩:=BD r j hr hj
  obtain ⟨_,q4⟩:=BD r i hr hi
  constructor
  ·unfold yx
   by_cases e:r=i
   ·rw [if_pos e]; exact ((q1.mono (show _<=2 + (1 + 4 * k) by omega)).add (bby.mul q3)).mono (by omega)
   ·rw [if_neg e]; exact p1.mono (by omega)
  ·unfold yQ
   by_cases e:c=j
   ·rw [if_pos e]; exact ((q2.mono (show _<=2 + (1 + 4 * k) by omega)).sub (bby.mul q4)).mono (by omega)
   ·rw [if_neg e]; exact p2.mono (by omega)
 rintro σ H9 ⟨t,b,o5,o6,o7,o8,o9,rfl,TS,I1,I2,BD⟩
 obtain ⟨tv9,et9,ht9⟩:=TS.hta
 refine ⟨_,rfl,_,rfl,(by show 2<=sizeLine; decide),λtt htt=>?_⟩
 have z9:=xL htt (HO.tup [V.ref ta,V.ref ba])
 have bt9:ym (zQ Z H9) (as.map V.ref) (yR n b):=zJn (Paired.mapM TS.hb λa _ ha h=>(xm (nza a ha)).trans h)
 have SH:=sJ.trans (TS.same.trans v8)
 have nzz:=(zd.same SH).new htt
 refine q _ _ _ (q0 (yR n t) (yR n b) ⟨gI _ _,λr hr=>Kr hr,gI _ _,λr hr=>Kr hr,Kt I1,Kt I2⟩ (zLR (λr c hr hc=>(BD r c hr hc).1) (by omega)) (zLR (λr c hr hc=>(BD r c hr hc).2) (by omega))) (SH.trans z9) ?_
 exact .tup ((xm nzz).trans xM) (.cons (.lst ((xm nzt).trans (z9 _ _ et9)) (QG (ym.same (((yg v8)).trans (yg z9)) ht9))) (.cons (.lst ((xm nzb).trans (z9 _ _ (v8 _ _ TS.hba))) (QG (ym.same (yg z9) bt9))) .nil))
end
end K87
namespace L2
open PySem PySem.Spec PyProof.Rows
theorem QH {α:Type} {P:List α->Prop} (h:∀ x0:α,P [x0]):∀ us:List α,us.length=1->P us
 | [x0],_=>h x0
theorem WU {α:Type} {P:List α->Prop} (h:∀ x0 x1:α,P [x0,x1]):∀ us:List α,us.length=2->P us
 | [x0,x1],_=>h x0 x1
theorem WV {α:Type} {P:List α->Prop} (h:∀ x0 x1 x2:α,P [x0,x1,x2]):∀ us:List α,us.length=3->P us
 | [x0,x1,x2],_=>h x0 x1 x2
theorem QI {α:Type} {P:List α->Prop} (h:∀ x0 x1 x2 x3:α,P [x0,x1,x2,x3]):∀ us:List α,us.length=4->P us
 | [x0,x1,x2,x3],_=>h x0 x1 x2 x3
theorem QJ {α:Type} {P:List α->Prop} (h:∀ x0 x1 x2 x3 x4:α,P [x0,x1,x2,x3,x4]):∀ us:List α,us.length=5->P us
 | [x0,x1,x2,x3,x4],_=>h x0 x1 x2 x3 x4
theorem QK {α:Type} {P:List α->Prop} (h:∀ x0 x1 x2 x3 x4 x5 x6:α,P [x0,x1,x2,x3,x4,x5,x6]):∀ us:List α,us.length=7->P us
 | [x0,x1,x2,x3,x4,x5,x6],_=>h x0 x1 x2 x3 x4 x5 x6
theorem QL {α:Type} {P:List α->Prop} (h:∀ x0 x1 x2 x3 x4 x5 x6 x7 x8 x9:α,P [x0,x1,x2,x3,x4,x5,x6,x7,x8,x9]):∀ us:List α,us.length=10->P us
 | [x0,x1,x2,x3,x4,x5,x6,x7,x8,x9],_=>h x0 x1 x2 x3 x4 x5 x6 x7 x8 x9
structure Gf (K:W.Frag) (x:Str) (st:Stmt) (f:Addr) (fd:FuncData):Prop where
 at_:W.nsIn K mainGlobals x=some (some (.ref f))
 F:zf K x x st f fd
abbrev Ge (K:W.Frag) (x:Str) (st:Stmt):Prop:=∃ f fd,Gf K x st f fd
structure Gm (K:W.Frag) (C:Addr) (x q:Str) (st:Stmt) (f:Addr) (fd:FuncData):Prop where
 at_:W.findIn K (.ref C) x=some (some (.ref f))
 fn:W.isFn K (.ref f)=true
 F:zf K x q st f fd
abbrev Gn (K:W.Frag) (C:Addr) (x q:Str) (st:Stmt):Prop:=∃ f fd,Gm K C x q st f fd
structure Gd (K:W.Frag) (x:Str) (st:Stmt) (f:Addr) (fd:FuncData) (d:Value):Prop where
 at_:W.nsIn K mainGlobals x=some (some (.ref f))
 F:xg K x x st f fd d
abbrev Gi (K:W.Frag) (x:Str) (st:Stmt) (i:Int):Prop:=∃ f fd t,Gd K x st f fd (.int i t)
structure Gc (K:W.Frag) (x:Str) (C:Addr):Prop where
 nm:W.nsIn K mainGlobals x=some (some (.ref C))
 pg:W.plainGet K C Str.empty=true
 hd:W.hasDictIn K C=true
 po:W.plainOver K C=true
 sa:W.findIn K (.ref C) "__setattr__" = some (some (.builtin "object.__setattr__"))
 mk_:W.makesIn K C=true
 kc:W.keepIn K (.ref C)=true
 ha:W.findIn K (.ref C) "__class__" = some (some (.builtin "object.__class__"))
 hn:W.specialIn K (.builtin "object.__class__") "__get__" = some (some (.builtin "getset_descriptor.__get__"))
 tk:W.takesIn K (.builtin "object.__class__")=some true
 hm:W.mroIn K C (.type "object")=some true
section
variable {P:Program} {w:World} {K:W.Frag} {mg:Str->Option Value} {base h:Heap} {x q:Str} {st:Stmt} {f C T:Addr} {fd:FuncData} {ps:List Str} {k:Nat} {sp:Sp} {oc kV doc pm cdv ct oT:Value} {od an dT:Option Addr} {osl sT:Array (Option Value)}
theorem YX (a:W.nsIn K mainGlobals x=some (some (.ref f))) (l:K.lookup f=some ⟨oc,od,.func (W.fnOf x x (wu st) (xw st) (zK st) .none kV doc pm an cdv ct),osl⟩) (c:W.codeIn K cdv x=true) (k:W.keepIn K (.ref f)=true):Ge K x st:=⟨f,_,a,KD l c k⟩
theorem YY (a:W.findIn K (.ref C) x=some (some (.ref f))) (i:W.isFn K (.ref f)=true) (l:K.lookup f=some ⟨oc,od,.func (W.fnOf x q (wu st) (xw st) (zK st) .none kV doc pm an cdv ct),osl⟩) (c:W.codeIn K cdv q=true) (k:W.keepIn K (.ref f)=true):Gn K C x q st:=⟨f,_,a,i,KD l c k⟩
theorem YZ {i:Int} {t:Tok} {n:Nat} (a:W.nsIn K mainGlobals x=some (some (.ref f))) (l:K.lookup f=some ⟨oc,od,.func (W.fnOf x x (wu st) (xw st) (zK st) (.ref T) kV doc pm an cdv ct),osl⟩) (c:W.codeIn K cdv x=true) (k:W.keepIn K (.ref f)=true) (d:K.lookup T=some ⟨oT,dT,.seq #[.int i t] n,sT⟩):Gi K x st i:=⟨f,_,t,a,zPd l c k d rfl⟩
theorem Gc.cls (g:Gc K x C) (X:K.In h) (G:h.Ns mainGlobals mg):zE K mg x C:=⟨⟨g.pg,g.hd,g.po,g.sa⟩,W.mg_of X G g.nm,g.ha,g.hn,g.tk,g.hm⟩
abbrev Bn (x q:Str) (st:Stmt) (ps:List Str):Prop:=∀ (kV doc pm:Value) (an:Option Addr) (cdv ct:Value) (us:List Value),us.length=ps.length->bindArgs (W.fnOf x q (wu st) (xw st) (zK st) .none kV doc pm an cdv ct) ⟨us,[]⟩=pure (ps.zip us)
structure Wh (P:Program) (w:World) (K:W.Frag) (mg:Str->Option Value) (base h:Heap):Prop where
 X:K.In h
 G:h.Ns mainGlobals mg
theorem Gf.fn (g:Gf K x st f fd) (Y:Wh P w K mg base h) (o:zH P w K mg base zZ k f fd ps sp) (b:Bn x x st ps:=by intro _ _ _ _ _ _; first | exact L2.QH λ_=>rfl | exact L2.WU λ_ _=>rfl | exact L2.WV λ_ _ _=>rfl | exact L2.QI λ_ _ _ _=>rfl | exact L2.QJ λ_ _ _ _ _=>rfl | exact L2.QK λ_ _ _ _ _ _ _=>rfl | exact L2.QL λ_ _ _ _ _ _ _ _ _ _=>rfl):Fn P w K mg base x ps k sp:=⟨f,fd,o,W.mg_of Y.X Y.G g.at_,g.F.kp,g.F.binds b⟩
theorem Gm.fm (g:Gm K C x q st f fd) (_:Wh P w K mg base h) (o:zH P w K mg base zZ k f fd ps sp) (b:Bn x q st ps:=by intro _ _ _ _ _ _; first | exact L2.QH λ_=>rfl | exact L2.WU λ_ _=>rfl | exact L2.WV λ_ _ _=>rfl | exact L2.QI λ_ _ _ _=>rfl | exact L2.QJ λ_ _ _ _ _=>rfl | exact L2.QK λ_ _ _ _ _ _ _=>rfl | exact L2.QL λ_ _ _ _ _ _ _ _ _ _=>rfl):vn P w K mg base C x ps k sp:=⟨f,fd,o,⟨g.at_,g.fn,g.F.kp⟩,g.F.binds b⟩
theorem Gm.fc {y:Str} (g:Gm K C "__init__" q st f fd) (_:Wh P w K mg base h) (c:Gc K y C) (o:zH P w K mg base zZ k f fd ps sp) (b:Bn "__init__" q st ps:=by intro _ _ _ _ _ _; first | exact L2.QH λ_=>rfl | exact L2.WU λ_ _=>rfl | exact L2.WV λ_ _ _=>rfl | exact L2.QI λ_ _ _ _=>rfl | exact L2.QJ λ_ _ _ _ _=>rfl | exact L2.QK λ_ _ _ _ _ _ _=>rfl | exact L2.QL λ_ _ _ _ _ _ _ _ _ _=>rfl):v7 P w K mg base C ps k sp:=⟨f,fd,o,⟨c.mk_,g.at_,g.fn,c.kc⟩,g.F.binds b⟩
theorem Gd.fn {i:Int} {t:Tok} (g:Gd K x st f fd (.int i t)) (Y:Wh P w K mg base h) (b:∀ (T:Addr) (kV doc pm:Value) (an:Option Addr) (cdv ct:Value) (us:List Value),us.length=ps.length->∃ k:Option (Array Value)->Sem (List (Str × Value)),bindArgs (W.fnOf x x (wu st) (xw st) (zK st) (.ref T) kV doc pm an cdv ct) ⟨us,[]⟩=seqItems? (.ref T) >>= k/\k (some #[.int i t])=pure (ps.zip us))
  (d:∀ (T:Addr) (kV doc pm:Value) (an:Option Addr) (cdv ct:Value) (us:List Value),us.length + 1=ps.length->∃ k:Option (Array Value)->Sem (List (Str × Value)),bindArgs (W.fnOf x x (wu st) (xw st) (zK st) (.ref T) kV doc pm an cdv ct) ⟨us,[]⟩=seqItems? (.ref T) >>= k/\k (some #[.int i t])=pure (ps.zip (us++[.int i t]))) (o:zH P w K mg base zZ k f fd ps sp):vX P w K mg base x ps k sp (.int i):=
 ⟨f,fd,_,o,W.mg_of Y.X Y.G g.at_,g.F.kp,g.F.binds b,g.F.binds1 d,⟨_,rfl⟩⟩
end
end L2
namespace K87
open PySem L2 Sh Pu
theorem QM {F:FL} (h:∀ ds R,¬ F ds R):∀ vs H Q E,¬ zI F vs H Q E:=λ_ _ _ _ ⟨_,ds,R,_,_,f,_⟩=>h ds R f
abbrev zFu:Stmt:=zm 61
theorem zOH:∀ ds R,¬ qS 0 ds R:=λ_ _ ⟨_,_,_,h,_⟩=>by cases h
theorem qj {l:W.OpenLaw} {w:World} {K:W.Frag} {h:Heap} {mg:Str->Option Value} {fa:Addr} (X:K.In h) (G:h.Ns mainGlobals mg) (hfa:mg "law" = some (.ref fa))
  {ae ag aClaim aSettles aComes aPaper aRooms aFalls:Addr}
  (GMode:Gc K "Mode" ae)
  (GThing:Gc K "Thing" ag)
  (GClaim:Gc K "Claim" aClaim)
  (GSettles:Gc K "Settles" aSettles)
  (GComes:Gc K "Comes" aComes)
  (GPaper:Gc K "Paper" aPaper)
  (GRooms:Gc K "Rooms" aRooms)
  (GFalls:Gc K "Falls" aFalls)
  (cq:W.findIn K (.ref ae) "rows" = some none)
  (cr:W.findIn K (.ref ae) "nexts" = some none)
  (cu:W.findIn K (.ref ae) "steer" = some none)
  (cv:W.findIn K (.ref ae) "push" = some none)
  (cw:W.findIn K (.ref ae) "add" = some none)
  (cx:W.findIn K (.ref ae) "divisor" = some none)
  (cy:W.findIn K (.ref ag) "many" = some none)
  (cz:W.findIn K (.ref ag) "kept_pushes" = some none)
  (cA:W.findIn K (.ref ag) "kept_modes" = some none)
  (n_start_Settles:W.findIn K (.ref aSettles) "start" = some none)
  (n_rows_Settles:W.findIn K (.ref aSettles) "rows" = some none)
  (n_turn_Settles:W.findIn K (.ref aSettles) "turn" = some none)
  (n_start_Comes:W.findIn K (.ref aComes) "start" = some none)
  (n_goal_Comes:W.findIn K (.ref aComes) "goal" = some none)
  (n_turns_Comes:W.findIn K (.ref aComes) "turns" = some none)
  (n_rooms_Rooms:W.findIn K (.ref aRooms) "rooms" = some none)
  (n_back_Rooms:W.findIn K (.ref aRooms) "back" = some none)
  (n_starts_Rooms:W.findIn K (.ref aRooms) "starts" = some none)
  (n_steps_Rooms:W.findIn K (.ref aRooms) "steps" = some none)
  (n_stays_Rooms:W.findIn K (.ref aRooms) "stays" = some none)
  (n_room_Falls:W.findIn K (.ref aFalls) "room" = some none)
  (n_starts_Falls:W.findIn K (.ref aFalls) "starts" = some none)
  (n_steps_Falls:W.findIn K (.ref aFalls) "steps" = some none)
  (n_measure_Falls:W.findIn K (.ref aFalls) "measure" = some none)
  (n_step_Falls:W.findIn K (.ref aFalls) "step" = some none)
  (n_top_Falls:W.findIn K (.ref aFalls) "top" = some none)
  (n_falls_Falls:W.findIn K (.ref aFalls) "falls" = some none)
  (n_floors_Falls:W.findIn K (.ref aFalls) "floors" = some none)
  (n_tops_Falls:W.findIn K (.ref aFalls) "tops" = some none)
  (w_Comes_Settles:W.kitOne K (.ref aComes) (.ref aSettles)=some false)
  (z0:W.nsIn K mainGlobals "isinstance" = some none)
  (z1:W.nsIn K mainGlobals "int" = some none)
  (z2:W.nsIn K mainGlobals "bool" = some none)
  (z3:W.nsIn K mainGlobals "tuple" = some none)
  (z4:W.nsIn K mainGlobals "len" = some none)
  (z5:W.nsIn K mainGlobals "all" = some none)
  (z6:W.nsIn K mainGlobals "list" = some none)
  (z7:W.nsIn K mainGlobals "range" = some none)
  (z8:W.nsIn K mainGlobals "zip" = some none)
  (z9:W.nsIn K mainGlobals "sum" = some none)
  (z10:W.nsIn K mainGlobals "max" = some none)
  (z11:W.nsIn K mainGlobals "enumerate" = some none)
  {gt0:Tok} (cst0:W.nsIn K mainGlobals "MOST_NUMBERS" = some (some (.int 3 gt0)))
  {gt1:Tok} (cst1:W.nsIn K mainGlobals "MOST_PUSHES" = some (some (.int 6 gt1)))
  {gt2:Tok} (cst2:W.nsIn K mainGlobals "MOST_MODES" = some (some (.int 40 gt2)))
  : Ge K "is_whole" U9->Ge K "is_numbers" Xk->Ge K "is_table" Xl->Gi K "copied" Zu 5->Gi K "unit" Xm 1->Ge K "scaled" Xn->Ge K "mixed" Xo->Ge K "paired" Xp->Ge K "added_up" Xq->Ge K "is_row" Xr->Ge K "is_room" Xs->Ge K "single" JA->Ge K "other_side" Xu->Gn K ae "__init__" "Mode.__init__" JE->Ge K "is_push" JF->Ge K "is_mode" JG->Ge K "is_sound" Zy->Gn K ag "__init__" "Thing.__init__" JH->Gn K ag "pushes" "Thing.pushes" JI->Gn K ag "modes" "Thing.modes" JJ->Ge K "is_unsteered" Xz->Gn K ag "is_closed" "Thing.is_closed" X0->Ge K "ask_closed" JK->Ge K "standing" Z9->Ge K "reach" JT->Ge K "added" JV->Ge K "is_from_0_on" JW->Ge K "are_shares" X2->Ge K "shows" X3->Ge K "is_list_of" JY->Ge K "each_shown" X4->Ge K "mode_leads" X5->Ge K "leads" X6->Gn K aComes "__init__" "Comes.__init__" JZ->Gn K aFalls "__init__" "Falls.__init__" Ja->Ge K "comes_over" Jb->Ge K "height_at_most" Jc->Ge K "height_from_0_on" X7->Ge K "fall_row" Jd->Ge K "floors_hold" X8->Ge K "mode_falls" X9->Ge K "falls_hold" WA->Ge K "lets_fall_by" Jg->Ge K "lets_rooms_by" zFu->Ge K "lets_by" Jh->Ge K "product" WE->Ge K "turned_row" Jo->Ge K "turned_mode" gY->Ge K "is_turn" WF->Ge K "turned" WG->Ge K "_law_cell_at" Js->Ge K "_law_stream" Jt->Ge K "_law_number" Ju->Ge K "_law_box" Jv->Ge K "_law_rows" YH->Ge K "_law_top" Jx->Ge K "_law_both" Jy->Ge K "_law_made" YN->Ge K "_law_drift_mode" uk->Ge K "_law_drift" WK->Ge K "_law_pushed" WL->Ge K "_law_falling" WM->Ge K "_law_fall_parts" YT->Ge K "_law_other" J8->Ge K "_law_changed" J9->Ge K "_law_spoilt" QB->Ge K "_law_turned_row" WR->Ge K "_law_turned_room" WS->Ge K "_law_let" QD->Ge K "_law_turning" gg->Ge K "law" gf->∃ fd:FuncData,(∀ (s:Shared) (v:Value),BindsTo s fd ⟨[v],[]⟩ [("_law_script",v)])/\∀ base:Heap,K.In base->base.Ns mainGlobals mg->zH l.prog w K mg base zZ 11 fa fd ["_law_script"] (zI jC):=by
 rintro ⟨_,_,G0⟩ ⟨_,_,G1⟩ ⟨_,_,G2⟩ ⟨_,_,_,G3⟩ ⟨_,_,_,G4⟩ ⟨_,_,G5⟩ ⟨_,_,G6⟩ ⟨_,_,G7⟩ ⟨_,_,G8⟩ ⟨_,_,G9⟩ ⟨_,_,G10⟩ ⟨_,_,G11⟩ ⟨_,_,G12⟩ ⟨_,_,G13⟩ ⟨_,_,G14⟩ ⟨_,_,G15⟩ ⟨_,_,G16⟩ ⟨_,_,G17⟩ ⟨_,_,G18⟩ ⟨_,_,G19⟩ ⟨_,_,G20⟩ ⟨_,_,G21⟩ ⟨_,_,G22⟩ ⟨_,_,G23⟩ ⟨_,_,G24⟩ ⟨_,_,G25⟩ ⟨_,_,G26⟩ ⟨_,_,G27⟩ ⟨_,_,G28⟩ ⟨_,_,G29⟩ ⟨_,_,G30⟩ ⟨_,_,G31⟩ ⟨_,_,G32⟩ ⟨_,_,G33⟩ ⟨_,_,G34⟩ ⟨_,_,G35⟩ ⟨_,_,G36⟩ ⟨_,_,G37⟩ ⟨_,_,G38⟩ ⟨_,_,G39⟩ ⟨_,_,G40⟩ ⟨_,_,G41⟩ ⟨_,_,G42⟩ ⟨_,_,G43⟩ ⟨_,_,G44⟩ ⟨_,_,G45⟩ ⟨_,_,G46⟩ ⟨_,_,G47⟩ ⟨_,_,G48⟩ ⟨_,_,G49⟩ ⟨_,_,G50⟩ ⟨_,_,G51⟩ ⟨_,_,G52⟩ ⟨_,_,G53⟩ ⟨_,_,G54⟩ ⟨_,_,G55⟩ ⟨_,_,G56⟩ ⟨_,_,G57⟩ ⟨_,_,G58⟩ ⟨_,_,G59⟩ ⟨_,_,G60⟩ ⟨_,_,G61⟩ ⟨_,_,G62⟩ ⟨_,_,G63⟩ ⟨_,_,G64⟩ ⟨_,_,G65⟩ ⟨_,_,G66⟩ ⟨_,_,G67⟩ ⟨_,_,G68⟩ ⟨_,_,G69⟩ ⟨_,_,G70⟩
 have e:=hfa.symm.trans (W.mg_of X G G70.at_)
 cases e
 have B:Bl mg:=⟨W.mg_none_of X G z0,W.mg_none_of X G z1,W.mg_none_of X G z2,W.mg_none_of X G z3,W.mg_none_of X G z4,W.mg_none_of X G z5,W.mg_none_of X G z6,W.mg_none_of X G z7,W.mg_none_of X G z8,W.mg_none_of X G z9,W.mg_none_of X G z10,W.mg_none_of X G z11,⟨_,W.mg_of X G cst0⟩,⟨_,W.mg_of X G cst1⟩,⟨_,W.mg_of X G cst2⟩⟩
 have aa:=GMode.cls X G
 have ab:wz K ae:=⟨cq,cr,cu,cv,cw,cx⟩
 have ac:=GThing.cls X G
 have af:w4 K ag:=⟨cy,cz,cA⟩
 have TClaim:=GClaim.cls X G
 have AClaim:w6 K aClaim:=⟨True.intro⟩
 have TSettles:=GSettles.cls X G
 have ASettles:w8 K aSettles:=⟨n_start_Settles,n_rows_Settles,n_turn_Settles⟩
 have TComes:=GComes.cls X G
 have AComes:vA K aComes:=⟨n_start_Comes,n_goal_Comes,n_turns_Comes⟩
 have TPaper:=GPaper.cls X G
 have APaper:vB K aPaper:=⟨True.intro⟩
 have TRooms:=GRooms.cls X G
 have ARooms:vC K aRooms:=⟨n_rooms_Rooms,n_back_Rooms,n_starts_Rooms,n_steps_Rooms,n_stays_Rooms⟩
 have TFalls:=GFalls.cls X G
 have AFalls:vD K aFalls:=⟨n_room_Falls,n_starts_Falls,n_steps_Falls,n_measure_Falls,n_step_Falls,n_top_Falls,n_falls_Falls,n_floors_Falls,n_tops_Falls⟩
 have Y:yu K aComes aSettles:=⟨w_Comes_Settles⟩
 obtain ⟨_,_,kV,dc,pm,an,cd,ct,_,rfl,_⟩:=G70.F.ex
 refine ⟨W.fnOf "law" "law" (wu gf) (xw gf) (zK gf) .none kV dc pm an cd ct,λs v=>.of_eq rfl,λbase _ _=>?_⟩
 have Yw:Wh l.prog w K mg base h:=⟨X,G⟩
 have N0:=G0.fn Yw (zI7 (k:=0) aa ab ac af TClaim AClaim TSettles ASettles TComes AComes TPaper APaper TRooms ARooms TFalls AFalls Y G0.F B )
 have N1:=G1.fn Yw (zHa (k:=1) aa ab ac af TClaim AClaim TSettles ASettles TComes AComes TPaper APaper TRooms ARooms TFalls AFalls Y G1.F B N0.mono)
 have N2:=G2.fn Yw (zI8 (k:=2) aa ab ac af TClaim AClaim TSettles ASettles TComes AComes TPaper APaper TRooms ARooms TFalls AFalls Y G2.F B N1.mono)
 have D3:=λ{k sp}=>G3.fn (ps:=["value","depth"]) (k:=k) (sp:=sp) Yw (λ_ _ _ _ _ _ _=>L2.WU λ_ _=>⟨_,rfl,rfl⟩) λ_ _ _ _ _ _ _ us hl=>match us,hl with | [_],_=>⟨_,rfl,rfl⟩
 have N3_0:=D3 (zH.no (k:=1) (sp:=(zI (qS 0))) (QM zOH))
 have N3_1:=D3 (Zv (k:=1) (j:=0) aa ab ac af TClaim AClaim TSettles ASettles TComes AComes TPaper APaper TRooms ARooms TFalls AFalls Y G3.F B N3_0.mono)
 have N3_2:=D3 (Zv (k:=2) (j:=1) aa ab ac af TClaim AClaim TSettles ASettles TComes AComes TPaper APaper TRooms ARooms TFalls AFalls Y G3.F B N3_1.mono)
 have N3_3:=D3 (Zv (k:=3) (j:=2) aa ab ac af TClaim AClaim TSettles ASettles TComes AComes TPaper APaper TRooms ARooms TFalls AFalls Y G3.F B N3_2.mono)
 have N3_4:=D3 (Zv (k:=4) (j:=3) aa ab ac af TClaim AClaim TSettles ASettles TComes AComes TPaper APaper TRooms ARooms TFalls AFalls Y G3.F B N3_3.mono)
 have N3_5:=D3 (Zv (k:=5) (j:=4) aa ab ac af TClaim AClaim TSettles ASettles TComes AComes TPaper APaper TRooms ARooms TFalls AFalls Y G3.F B N3_4.mono)
 have N3:=N3_5
 have D4:=λ{k sp}=>G4.fn (ps:=["place","wide","number"]) (k:=k) (sp:=sp) Yw (λ_ _ _ _ _ _ _=>L2.WV λ_ _ _=>⟨_,rfl,rfl⟩) λ_ _ _ _ _ _ _ us hl=>match us,hl with | [_,_],_=>⟨_,rfl,rfl⟩
 have N4:=D4 (zPT (k:=0) aa ab ac af TClaim AClaim TSettles ASettles TComes AComes TPaper APaper TRooms ARooms TFalls AFalls Y G4.F B )
 have N5:=G5.fn Yw (zLz (k:=0) aa ab ac af TClaim AClaim TSettles ASettles TComes AComes TPaper APaper TRooms ARooms TFalls AFalls Y G5.F B )
 have N6:=G6.fn Yw (zNt (k:=0) aa ab ac af TClaim AClaim TSettles ASettles TComes AComes TPaper APaper TRooms ARooms TFalls AFalls Y G6.F B )
 have N7:=G7.fn Yw (zL0 (k:=0) aa ab ac af TClaim AClaim TSettles ASettles TComes AComes TPaper APaper TRooms ARooms TFalls AFalls Y G7.F B )
 have N8:=G8.fn Yw (zJB (k:=0) aa ab ac af TClaim AClaim TSettles ASettles TComes AComes TPaper APaper TRooms ARooms TFalls AFalls Y G8.F B )
 have N9:=G9.fn Yw (zL4 (k:=1) aa ab ac af TClaim AClaim TSettles ASettles TComes AComes TPaper APaper TRooms ARooms TFalls AFalls Y G9.F B N0.mono)
 have N10:=G10.fn Yw (zKu (k:=2) aa ab ac af TClaim AClaim TSettles ASettles TComes AComes TPaper APaper TRooms ARooms TFalls AFalls Y G10.F B N9.mono)
 have N11:=G11.fn Yw (zLy (k:=1) aa ab ac af TClaim AClaim TSettles ASettles TComes AComes TPaper APaper TRooms ARooms TFalls AFalls Y G11.F B N4.mono)
 have N12:=G12.fn Yw (zHX (k:=0) aa ab ac af TClaim AClaim TSettles ASettles TComes AComes TPaper APaper TRooms ARooms TFalls AFalls Y G12.F B )
 have N13:=G13.fc Yw GMode (zFa (k:=6) aa ab ac af TClaim AClaim TSettles ASettles TComes AComes TPaper APaper TRooms ARooms TFalls AFalls Y G13.F B N3.mono)
 have N14:=G14.fn Yw (zKv (k:=1) aa ab ac af TClaim AClaim TSettles ASettles TComes AComes TPaper APaper TRooms ARooms TFalls AFalls Y G14.F B N0.mono)
 have N15:=G15.fn Yw (zKw (k:=3) aa ab ac af TClaim AClaim TSettles ASettles TComes AComes TPaper APaper TRooms ARooms TFalls AFalls Y G15.F B N10.mono N2.mono N1.mono N0.mono)
 have N16:=G16.fn Yw (zI9 (k:=4) aa ab ac af TClaim AClaim TSettles ASettles TComes AComes TPaper APaper TRooms ARooms TFalls AFalls Y G16.F B N0.mono N14.mono N15.mono)
 have N17:=G17.fc Yw GThing (zE6 (k:=5) aa ab ac af TClaim AClaim TSettles ASettles TComes AComes TPaper APaper TRooms ARooms TFalls AFalls Y G17.F B N16.mono)
 have N18:=G18.fm Yw (zF9 (k:=0) aa ab ac af TClaim AClaim TSettles ASettles TComes AComes TPaper APaper TRooms ARooms TFalls AFalls Y G18.F B )
 have N19:=G19.fm Yw (zGW (k:=0) aa ab ac af TClaim AClaim TSettles ASettles TComes AComes TPaper APaper TRooms ARooms TFalls AFalls Y G19.F B )
 have N20:=G20.fn Yw (zF7 (k:=0) aa ab ac af TClaim AClaim TSettles ASettles TComes AComes TPaper APaper TRooms ARooms TFalls AFalls Y G20.F B )
 have N21:=G21.fm Yw (zEk (k:=1) aa ab ac af TClaim AClaim TSettles ASettles TComes AComes TPaper APaper TRooms ARooms TFalls AFalls Y G21.F B N20.mono)
 have N22:=G22.fn Yw (zHf (k:=2) aa ab ac af TClaim AClaim TSettles ASettles TComes AComes TPaper APaper TRooms ARooms TFalls AFalls Y G22.F B N21.mono)
 have N23:=G23.fn Yw (zI2 (k:=2) aa ab ac af TClaim AClaim TSettles ASettles TComes AComes TPaper APaper TRooms ARooms TFalls AFalls Y G23.F B N18.mono N11.mono)
 have N24:=G24.fn Yw (zNs (k:=1) aa ab ac af TClaim AClaim TSettles ASettles TComes AComes TPaper APaper TRooms ARooms TFalls AFalls Y G24.F B N8.mono N18.mono N7.mono)
 have N25:=G25.fn Yw (zNy (k:=1) aa ab ac af TClaim AClaim TSettles ASettles TComes AComes TPaper APaper TRooms ARooms TFalls AFalls Y G25.F B N8.mono)
 have N26:=G26.fn Yw (zF8 (k:=1) aa ab ac af TClaim AClaim TSettles ASettles TComes AComes TPaper APaper TRooms ARooms TFalls AFalls Y G26.F B N0.mono)
 have N27:=G27.fn Yw (zHg (k:=2) aa ab ac af TClaim AClaim TSettles ASettles TComes AComes TPaper APaper TRooms ARooms TFalls AFalls Y G27.F B N26.mono)
 have N28:=G28.fn Yw (zNr (k:=3) aa ab ac af TClaim AClaim TSettles ASettles TComes AComes TPaper APaper TRooms ARooms TFalls AFalls Y G28.F B N27.mono N25.mono N5.mono)
 have N29:=G29.fn Yw (zHb (k:=0) aa ab ac af TClaim AClaim TSettles ASettles TComes AComes TPaper APaper TRooms ARooms TFalls AFalls Y G29.F B )
 have N30:=G30.fn Yw (zHd (k:=4) aa ab ac af TClaim AClaim TSettles ASettles TComes AComes TPaper APaper TRooms ARooms TFalls AFalls Y G30.F B N29.mono N28.mono)
 have N31:=G31.fn Yw (zHY (k:=5) aa ab ac af TClaim AClaim TSettles ASettles TComes AComes TPaper APaper TRooms ARooms TFalls AFalls Y G31.F B N30.mono N24.mono N23.mono)
 have N32:=G32.fn Yw (zNu (k:=6) aa ab ac af TClaim AClaim TSettles ASettles TComes AComes TPaper APaper TRooms ARooms TFalls AFalls Y G32.F B N19.mono N29.mono N31.mono)
 have N33:=G33.fc Yw GComes (zE8 (k:=6) aa ab ac af TClaim AClaim TSettles ASettles TComes AComes TPaper APaper TRooms ARooms TFalls AFalls Y G33.F B N3.mono)
 have N34:=G34.fc Yw GFalls (zE7 (k:=6) aa ab ac af TClaim AClaim TSettles ASettles TComes AComes TPaper APaper TRooms ARooms TFalls AFalls Y G34.F B N3.mono)
 have N35:=G35.fn Yw (zHe (k:=3) aa ab ac af TClaim AClaim TSettles ASettles TComes AComes TPaper APaper TRooms ARooms TFalls AFalls Y G35.F B N26.mono N10.mono)
 have N36:=G36.fn Yw (zE5 (k:=0) aa ab ac af TClaim AClaim TSettles ASettles TComes AComes TPaper APaper TRooms ARooms TFalls AFalls Y G36.F B )
 have N37:=G37.fn Yw (zEE (k:=0) aa ab ac af TClaim AClaim TSettles ASettles TComes AComes TPaper APaper TRooms ARooms TFalls AFalls Y G37.F B )
 have N38:=G38.fn Yw (zJA (k:=2) aa ab ac af TClaim AClaim TSettles ASettles TComes AComes TPaper APaper TRooms ARooms TFalls AFalls Y G38.F B N24.mono N6.mono)
 have N39:=G39.fn Yw (zGV (k:=4) aa ab ac af TClaim AClaim TSettles ASettles TComes AComes TPaper APaper TRooms ARooms TFalls AFalls Y G39.F B N29.mono N37.mono N28.mono N12.mono)
 have N40:=G40.fn Yw (zHZ (k:=4) aa ab ac af TClaim AClaim TSettles ASettles TComes AComes TPaper APaper TRooms ARooms TFalls AFalls Y G40.F B N29.mono N38.mono N28.mono N23.mono N12.mono)
 have N41:=G41.fn Yw (zHc (k:=5) aa ab ac af TClaim AClaim TSettles ASettles TComes AComes TPaper APaper TRooms ARooms TFalls AFalls Y G41.F B N19.mono N29.mono N40.mono)
 have N42:=G42.fn Yw (zF3 (k:=7) aa ab ac af TClaim AClaim TSettles ASettles TComes AComes TPaper APaper TRooms ARooms TFalls AFalls Y G42.F B N10.mono N35.mono N0.mono N9.mono N30.mono N32.mono N28.mono N36.mono N41.mono N39.mono)
 have N43_0:=G43.fn (ps:=["thing","claim","paper"]) Yw (zH.no (k:=1) (sp:=(zI fNo)) (QM λ_ _ h=>h))
 have N43:=N43_0
 have N44:=G44.fn Yw (zKq (k:=8) aa ab ac af TClaim AClaim TSettles ASettles TComes AComes TPaper APaper TRooms ARooms TFalls AFalls Y G44.F B N22.mono N43.mono N42.mono)
 have N45:=G45.fn Yw (zKp (k:=1) aa ab ac af TClaim AClaim TSettles ASettles TComes AComes TPaper APaper TRooms ARooms TFalls AFalls Y G45.F B N8.mono)
 have N46:=G46.fn Yw (zHW (k:=1) aa ab ac af TClaim AClaim TSettles ASettles TComes AComes TPaper APaper TRooms ARooms TFalls AFalls Y G46.F B N8.mono)
 have N47:=G47.fn Yw (zGU (k:=7) aa ab ac af TClaim AClaim TSettles ASettles TComes AComes TPaper APaper TRooms ARooms TFalls AFalls Y G47.F B N13.mono N7.mono N45.mono N46.mono)
 have N48:=G48.fn Yw (zKt (k:=3) aa ab ac af TClaim AClaim TSettles ASettles TComes AComes TPaper APaper TRooms ARooms TFalls AFalls Y G48.F B N2.mono N45.mono N4.mono)
 have N49:=G49.fn Yw (zLx (k:=8) aa ab ac af TClaim AClaim TSettles ASettles TComes AComes TPaper APaper TRooms ARooms TFalls AFalls Y G49.F B N48.mono N19.mono N47.mono N18.mono N17.mono)
 have N50:=G50.fn Yw (zIL (k:=0) aa ab ac af TClaim AClaim TSettles ASettles TComes AComes TPaper APaper TRooms ARooms TFalls AFalls Y G50.F B )
 have N51:=G51.fn Yw (zI3 (k:=0) aa ab ac af TClaim AClaim TSettles ASettles TComes AComes TPaper APaper TRooms ARooms TFalls AFalls Y G51.F B )
 have N52:=G52.fn Yw (zI6 (k:=0) aa ab ac af TClaim AClaim TSettles ASettles TComes AComes TPaper APaper TRooms ARooms TFalls AFalls Y G52.F B )
 have N53:=G53.fn Yw (zNx (k:=1) aa ab ac af TClaim AClaim TSettles ASettles TComes AComes TPaper APaper TRooms ARooms TFalls AFalls Y G53.F B N51.mono N52.mono)
 have N54:=G54.fn Yw (zL1 (k:=0) aa ab ac af TClaim AClaim TSettles ASettles TComes AComes TPaper APaper TRooms ARooms TFalls AFalls Y G54.F B )
 have N55:=G55.fn Yw (zNv (k:=0) aa ab ac af TClaim AClaim TSettles ASettles TComes AComes TPaper APaper TRooms ARooms TFalls AFalls Y G55.F B )
 have N56:=G56.fn Yw (zL3 (k:=0) aa ab ac af TClaim AClaim TSettles ASettles TComes AComes TPaper APaper TRooms ARooms TFalls AFalls Y G56.F B )
 have N57:=G57.fn Yw (zL2 (k:=7) aa ab ac af TClaim AClaim TSettles ASettles TComes AComes TPaper APaper TRooms ARooms TFalls AFalls Y G57.F B N13.mono N17.mono)
 have N58:=G58.fn Yw (zF6 (k:=1) aa ab ac af TClaim AClaim TSettles ASettles TComes AComes TPaper APaper TRooms ARooms TFalls AFalls Y G58.F B N52.mono)
 have N59:=G59.fn Yw (zKs (k:=2) aa ab ac af TClaim AClaim TSettles ASettles TComes AComes TPaper APaper TRooms ARooms TFalls AFalls Y G59.F B N50.mono N51.mono N52.mono N58.mono)
 have N60:=G60.fn Yw (zI5 (k:=1) aa ab ac af TClaim AClaim TSettles ASettles TComes AComes TPaper APaper TRooms ARooms TFalls AFalls Y G60.F B N56.mono)
 have N61:=G61.fn Yw (zIK (k:=2) aa ab ac af TClaim AClaim TSettles ASettles TComes AComes TPaper APaper TRooms ARooms TFalls AFalls Y G61.F B N51.mono N53.mono N52.mono N55.mono)
 have N62:=G62.fn Yw (zF5 (k:=2) aa ab ac af TClaim AClaim TSettles ASettles TComes AComes TPaper APaper TRooms ARooms TFalls AFalls Y G62.F B N56.mono N60.mono)
 have N63:=G63.fn Yw (zKr (k:=0) aa ab ac af TClaim AClaim TSettles ASettles TComes AComes TPaper APaper TRooms ARooms TFalls AFalls Y G63.F B )
 have N64_0:=G64.fn (ps:=["_law_some","_law_cell"]) Yw (zH.no (k:=1) (sp:=(zI (jB 0))) (QM λ_ _ h=>h))
 have N64_1:=G64.fn Yw (zFN (k:=1) (j:=0) aa ab ac af TClaim AClaim TSettles ASettles TComes AComes TPaper APaper TRooms ARooms TFalls AFalls Y G64.F B N63.mono N64_0.mono)
 have N64_2:=G64.fn Yw (zFN (k:=2) (j:=1) aa ab ac af TClaim AClaim TSettles ASettles TComes AComes TPaper APaper TRooms ARooms TFalls AFalls Y G64.F B N63.mono N64_1.mono)
 have N64:=N64_2
 have N65:=G65.fn Yw (zI4 (k:=3) aa ab ac af TClaim AClaim TSettles ASettles TComes AComes TPaper APaper TRooms ARooms TFalls AFalls Y G65.F B N64.mono)
 have N66:=G66.fn Yw (zF4 (k:=0) aa ab ac af TClaim AClaim TSettles ASettles TComes AComes TPaper APaper TRooms ARooms TFalls AFalls Y G66.F B )
 have N67:=G67.fn Yw (zFZ (k:=1) aa ab ac af TClaim AClaim TSettles ASettles TComes AComes TPaper APaper TRooms ARooms TFalls AFalls Y G67.F B N66.mono)
 have N68:=G68.fn Yw (zNw (k:=8) aa ab ac af TClaim AClaim TSettles ASettles TComes AComes TPaper APaper TRooms ARooms TFalls AFalls Y G68.F B N34.mono N44.mono)
 have N69:=G69.fn Yw (zIJ (k:=1) aa ab ac af TClaim AClaim TSettles ASettles TComes AComes TPaper APaper TRooms ARooms TFalls AFalls Y G69.F B N51.mono N52.mono)
 exact zQm (k:=9) aa ab ac af TClaim AClaim TSettles ASettles TComes AComes TPaper APaper TRooms ARooms TFalls AFalls Y G70.F B N59.mono N57.mono N61.mono N50.mono N65.mono N62.mono N69.mono N54.mono N68.mono N33.mono N67.mono N66.mono N49.mono
def zL7 (o:Obj):Bool:=match o.cls with
 | .type t=>!(t == "list")
 | _=>true
theorem qk {K:PySem.W.Frag} (h:K.all (λp=>zL7 p.2)=true) (a:Addr) (o:Obj) (e:K.lookup a=some o):o.cls≠.type "list":=λz=>by
 have m:∃ b,(b,o)∈K:=by
  clear h
  induction K with
  | nil=>cases e
  | cons p K ih=>
   obtain ⟨b,o'⟩:=p
   rw [List.lookup_cons] at e
   cases q:a == b with
   | true=>rw [q] at e; cases e; exact ⟨b,List.mem_cons_self⟩
   | false=>rw [q] at e; obtain ⟨c,hc⟩:=ih e; exact ⟨c,List.mem_cons_of_mem _ hc⟩
 obtain ⟨b,hb⟩:=m
 have:=List.all_eq_true.mp h _ hb
 unfold zL7 at this
 rw [z] at this
 exact absurd this (by decide)
theorem QN {l:PySem.W.OpenLaw} {q:Program} {loose:List Str} {XP:(Str->Option Value)->Heap->Prop} {YP:World->Heap->Prop} {d:DefRec} {K:Params->PySem.W.Frag} (hn:l.most=some 63) (hdf:d.params.defaults=[])
  (hY:∀ (w:World) (h:Heap),YP w h->(K w.params).In h)
  (hL:∀ (p:Params) (a:Addr) (o:Obj),(K p).lookup a=some o->o.cls≠.type "list")
  (F:∀ (w:World) (mg:Str->Option Value) (fa:Addr) (h:Heap),(K w.params).In h->h.Ns mainGlobals mg->mg d.name=some (.ref fa)->
   ∃ fd:FuncData,(∀ (s:Shared) (u:Value),BindsTo s fd ⟨[u],[]⟩ [("_law_script",u)])/\∀ base:Heap,(K w.params).In base->base.Ns mainGlobals mg->zH l.prog w (K w.params) mg base zZ 11 fa fd ["_law_script"] (zI jC)) :
  PySem.W.WalkO q loose XP YP l.row.toRowW d [] (λf vs=>PySem.call f vs):=
 L2.zOx (n:=63) (k:=11) (x:="_law_script") (CX:=λ_=>zZ) (sp:=λ_=>zI jC) hn (by decide) hdf ⟨rfl,by decide,by decide⟩ hY F (λw H a ns _ _ hS=>⟨λ_=>False,[.scr ns],λd=>d=.bool true,λ_ z=>z.elim,.cons (.scr (XI (λb o e=>(xm (λz=>z)).trans e) (hS.elim id λ⟨o,_,_,h1,h2,_⟩=>absurd h2 (hL w.params a o h1)))) .nil,⟨ns,rfl,rfl⟩,λd v H2 e _ h=>by subst e; cases h; rfl⟩) λ_ _ _ _ _ z=>z
end K87
open PySem PySem.W PyProof.Rows
set_option maxRecDepth 100000 in
set_option maxHeartbeats 0 in
theorem PySem.Challenge.cw_steadyhand_k87_whole_papers_of_falls_tur_holds : PySem.Challenge.rw_steadyhand_k87_whole_papers_of_falls_tur.Holds := by
 w_on; o_law
 refine holds_open (q:=H87.vw) (loose:=H87.lo) (Xt:=H87.xt) (XP:=XL H87.vw []) (Yf:=(kHook H87.KK H87.ks H87.ke).obs) (Ya:=(kHook H87.KK H87.ks H87.ke).val) (YP:=(kHook H87.KK H87.ks H87.ke).says) H87.left
  (kHook H87.KK H87.ks H87.ke).of (kHook H87.KK H87.ks H87.ke).keeps
  (λs e=>xl_of s (Bool.and_eq_true_iff.mp e).1) XL.keeps (by rfl) (by rfl) (by rfl)
  (λs e=>recFacts_of (Bool.and_eq_true_iff.mp e).2) (by rfl) (by assumption) (by decide +kernel)
  ⟨rfl,rfl,rfl,rfl,rfl,by decide +kernel⟩ ?hw ?hc
 case hw=>w_witness2
 rename_i sd
 clear sd
 k_fill
 refine K87.QN (l:=PySem.Challenge.rw_steadyhand_k87_whole_papers_of_falls_tur) rfl rfl (λw h Y=>PySem.W.kIn_of Y) (λp a o=>K87.qk (K:=H87.KK p) (by kernel_rfl) a o) ?F
 case F=>
  intro w mg fa h KX G hmg
  refine' K87.qj KX G hmg ?g_Mode ?g_Thing ?g_Claim ?g_Settles ?g_Comes ?g_Paper ?g_Rooms ?g_Falls ?_ ?_ ?_ ?_ ?_ ?_ ?_ ?_ ?_ ?_ ?_ ?_ ?_ ?_ ?_ ?_ ?_ ?_ ?_ ?_ ?_ ?_ ?_ ?_ ?_ ?_ ?_ ?_ ?_ ?p_w_Comes_Settles ?_ ?_ ?_ ?_ ?_ ?_ ?_ ?_ ?_ ?_ ?_ ?_ ?_ ?_ ?_ ?_ ?_ ?_ ?_ ?_ ?_ ?_ ?_ ?_ ?_ ?_ ?_ ?_ ?_ ?_ ?_ ?_ ?_ ?_ ?_ ?_ ?_ ?_ ?_ ?_ ?_ ?_ ?_ ?_ ?_ ?_ ?_ ?_ ?_ ?_ ?_ ?_ ?_ ?_ ?_ ?_ ?_ ?_ ?_ ?_ ?_ ?_ ?_ ?_ ?_ ?_ ?_ ?_ ?_ ?_ ?_ ?_ ?_ ?_ ?_ ?_ ?_ ?_ ?_ ?_ ?_ ?_ ?_ ?_ ?_ ?_
  (case g_Mode=>refine' L2.Gc.mk ?a ?b ?c ?d ?e ?f ?g ?h ?i ?j ?k; (case a=>k_is); (case b=>k_is); (case c=>k_is); (case d=>k_is); (case e=>k_is); (case f=>k_is); (case g=>k_is); (case h=>k_is); (case i=>k_is); (case j=>k_is); (case k=>k_is))
  (case g_Thing=>refine' L2.Gc.mk ?a ?b ?c ?d ?e ?f ?g ?h ?i ?j ?k; (case a=>k_is); (case b=>k_is); (case c=>k_is); (case d=>k_is); (case e=>k_is); (case f=>k_is); (case g=>k_is); (case h=>k_is); (case i=>k_is); (case j=>k_is); (case k=>k_is))
  (case g_Claim=>refine' L2.Gc.mk ?a ?b ?c ?d ?e ?f ?g ?h ?i ?j ?k; (case a=>k_is); (case b=>k_is); (case c=>k_is); (case d=>k_is); (case e=>k_is); (case f=>k_is); (case g=>k_is); (case h=>k_is); (case i=>k_is); (case j=>k_is); (case k=>k_is))
  (case g_Settles=>refine' L2.Gc.mk ?a ?b ?c ?d ?e ?f ?g ?h ?i ?j ?k; (case a=>k_is); (case b=>k_is); (case c=>k_is); (case d=>k_is); (case e=>k_is); (case f=>k_is); (case g=>k_is); (case h=>k_is); (case i=>k_is); (case j=>k_is); (case k=>k_is))
  (case g_Comes=>refine' L2.Gc.mk ?a ?b ?c ?d ?e ?f ?g ?h ?i ?j ?k; (case a=>k_is); (case b=>k_is); (case c=>k_is); (case d=>k_is); (case e=>k_is); (case f=>k_is); (case g=>k_is); (case h=>k_is); (case i=>k_is); (case j=>k_is); (case k=>k_is))
  (case g_Paper=>refine' L2.Gc.mk ?a ?b ?c ?d ?e ?f ?g ?h ?i ?j ?k; (case a=>k_is); (case b=>k_is); (case c=>k_is); (case d=>k_is); (case e=>k_is); (case f=>k_is); (case g=>k_is); (case h=>k_is); (case i=>k_is); (case j=>k_is); (case k=>k_is))
  (case g_Rooms=>refine' L2.Gc.mk ?a ?b ?c ?d ?e ?f ?g ?h ?i ?j ?k; (case a=>k_is); (case b=>k_is); (case c=>k_is); (case d=>k_is); (case e=>k_is); (case f=>k_is); (case g=>k_is); (case h=>k_is); (case i=>k_is); (case j=>k_is); (case k=>k_is))
  (case g_Falls=>refine' L2.Gc.mk ?a ?b ?c ?d ?e ?f ?g ?h ?i ?j ?k; (case a=>k_is); (case b=>k_is); (case c=>k_is); (case d=>k_is); (case e=>k_is); (case f=>k_is); (case g=>k_is); (case h=>k_is); (case i=>k_is); (case j=>k_is); (case k=>k_is))
  (case p_w_Comes_Settles=>first | kit_is | k_is | rfl | decide +kernel)
  any_goals first | (refine' L2.Gc.mk ?a ?b ?c ?d ?e ?f ?g ?h ?i ?j ?k; (case a=>k_is); (case b=>k_is); (case c=>k_is); (case d=>k_is); (case e=>k_is); (case f=>k_is); (case g=>k_is); (case h=>k_is); (case i=>k_is); (case j=>k_is); (case k=>k_is)) | (refine' L2.YX ?a ?l ?c ?k; (case a=>k_is); (case l=>k_is); (case c=>k_is); (case k=>k_is)) | (refine' L2.YY ?a ?i ?l ?c ?k; (case a=>k_is); (case i=>k_is); (case l=>k_is); (case c=>k_is); (case k=>k_is)) | (refine' L2.YZ ?a ?l ?c ?k ?d; (case a=>k_is); (case l=>k_is); (case c=>k_is); (case k=>k_is); (case d=>k_is)) | (refine' L2.gk_mk ?a ?z ?l ?c ?k ?d; (case a=>k_is); (case z=>k_is); (case l=>k_is); (case c=>k_is); (case k=>k_is); (case d=>k_is)) | k_is
#print axioms PySem.Challenge.cw_steadyhand_k87_whole_papers_of_falls_tur_holds
