import PyProof.Rows.All
import Wide.All
import OpenK.AllK
import Wide.FinOn
import Lean
import PyProof.EqAt
import PyProof.EqKinds
import PyProof.TupleCall
import PyProof.ZipIter
import PyProof.Draws
import PyProof.StationsW
import PyProof.EnumStmt
import PyProof.EnumMake
import PyProof.CallType
import PyProof.Rows.CallKwBuiltin
import PyProof.EnumIter
import PyProof.Rows.SeqMore
import PySem.Challenge.RW_steadyhand_k54_whole_papers_of_falls_hol
set_option Elab.async false
set_option linter.all false
set_option maxRecDepth 100000
set_option maxHeartbeats 0
namespace TT
open PySem PySem.W
def runT (tb:String->Option Builtin) (p:Program) (w:World) (k:Nat) (an:Option Value):Nat->SharedT->Thread->Option SharedT
 | 0,_,_=>none
 | j + 1,x,t=>match through t with
  | true=>some x
  | false=>match stepOk k an t with
   | false=>none
   | true=>match stepT (denote tb) p w x t with
    | none=>none
    | some y=>runT tb p w k an j y.1 y.2
theorem Jj {tb:String->Option Builtin} {p:Program} {w:World} {k:Nat} {an:Option Value}:∀ (j:Nat) (x y:SharedT) (t:Thread),runT tb p w k an j x t=some y->topRun tb p w k an j x.abs t=some y.abs
 | 0,_,_,_,e=>by cases e
 | j + 1,x,y,t,e=>by
  unfold runT at e
  unfold topRun
  cases e1:through t with
  | true=>
   rw [e1] at e
   cases e
   rfl
  | false=>
   rw [e1] at e
   cases e2:stepOk k an t with
   | false=>rw [e2] at e; cases e
   | true=>
    rw [e2] at e
    cases e3:stepT (denote tb) p w x t with
    | none=>rw [e3] at e; cases e
    | some z=>
     rw [e3] at e
     rw [stepT_spec e3]
     exact Jj j z.1 y z.2 e
theorem left_is {p q:Program} {lo:List Str} {xt:Shared->Bool} {α:Type} {Yf:Shared->α} {Ya:World->α} {N k n0:Nat} {an:Option Value} {tr:Params->BT} (op:∀ w:World,(fencedOpening treeTable p w N).map (λs=>(s.heap,s.gens,s.drawn,s.toks))=some (boot_heap w.params,Array.mk [],boot_drawn,boot_toks))
  (et:∀ P:Params,absHeap (tr P) n0 (boot_heap P).life=boot_heap P) (z1:∀ P:Params,(boot_heap P).isNs mainGlobals=true) (z2:∀ P:Params,(boot_heap P).objs.size=k) (z3:∀ P:Params,(boot_heap P).nsMap mainGlobals "__annotations__" = an)
  (h:∀ (w:World) (os:OsState),(runT treeTable p w k an N ⟨tr w.params,n0,(boot_heap w.params).life,Array.mk [],boot_drawn,boot_toks,os⟩ (topStub p)).map (λs=>((staticsOk (importedModules p.main.body) (boot_heap w.params) s.abs.heap && namesBound p s.abs.heap && gensDone s.abs && laidKept (boot_heap w.params) s.abs.heap),openSeen q lo (importedModules p.main.body) xt true s.abs,Yf s.abs))=some (true,openGood q lo,Ya w)) :
  LeftO p q lo xt Yf Ya N:=λw=>by
 obtain ⟨⟨hp,gs,d,tk,os⟩,e,e'⟩:=Option.map_eq_some_iff.mp (op w)
 injection e' with a1 e'
 injection e' with a2 e'
 injection e' with a3 a4
 subst a1 a2 a3 a4
 obtain ⟨y,ey,eo⟩:=Option.map_eq_some_iff.mp (h w os)
 injection eo with l1 eo
 injection eo with l2 l3
 have r:=Jj _ _ _ _ ey
 have r':topRun treeTable p w k an N ⟨boot_heap w.params,Array.mk [],boot_drawn,boot_toks,os⟩ (topStub p)=some y.abs:=by
  rw [<- r]
  unfold SharedT.abs
  rw [et]
 have f:topFrom treeTable p w N ⟨boot_heap w.params,Array.mk [],boot_drawn,boot_toks,os⟩=some y.abs:=by
  unfold topFrom
  show (match (boot_heap w.params).isNs mainGlobals && true with | true=>_ | false=>_)=_
  rw [z1,z2,z3,r']
  show (match (_ && _ && _ && _) with | true=>_ | false=>_)=_
  rw [l1]
 unfold openEnds
 rw [e]
 show (topFrom treeTable p w N _).map _=_
 rw [f]
 exact congrArg some (Prod.ext l2 l3)
end TT
namespace H54
open PySem PySem.W
set_option maxRecDepth 100000
def hT (i:Nat):Stmt:=PySem.Challenge.pw_steadyhand_k54_whole_papers_of_falls_hol.main.body.getD i (.Pass ⟨0,0,0,0⟩)
def hI (i j:Nat):Stmt:=match hT i with
 | .ClassDef _ _ _ b _ _ _ _ _ _ _=>b.getD j (.Pass ⟨0,0,0,0⟩)
 | s=>s
def hA:Stmt->Arguments
 | .FunctionDef _ a _ _ _ _ _ _ _ _=>a
 | _=>⟨[],[],none,[],[],none,[]⟩
def hB:Stmt->List Stmt
 | .FunctionDef _ _ b _ _ _ _ _ _ _=>b
 | _=>[]
def hC:Stmt->Scope
 | .FunctionDef _ _ _ _ _ _ c _ _ _=>c
 | _=>{ kind:=.function,names:=[],isGenerator:=false,isCoroutine:=false }
abbrev hS (s:String) (n:Nat):Value:=.str (Str.ofString s) n
abbrev hE (P:Params) (s:String) (n:Nat) (v:Value):DictEntry:=⟨PyData.keyHash P (Str.ofString s),hS s n,v⟩
abbrev hU (x:Array Value):Obj:={ cls:=.type "tuple",data:=.seq x }
abbrev hD (s:String) (a:Nat) (s2:String) (b c:Nat) (i j f:Int) (r1 r2:Nat) (u v t r:Value) (y z:Int) (d:Nat):Obj:={ cls:=.type "code",data:=.fields #[hS s a,hS s2 b,hS "/claim/cut.py" c,.int i 0,.int j 0,.int 0 0,.int 0 0,.int f 0,.ref r1,.bool true,.int 181 0,.ref r2,u,v,t,r,.int y 0,.int z 0,hS "/claim/cut.py" d] }
abbrev hF (n q:String) (s:Stmt) (d k:Value) (m:String) (j c:Nat):Obj:={ cls:=.type "function",data:=.func { name:=n,qualname:=q,params:=hA s,body:=.stmts (hB s),scope:=hC s,globals:=3,closure:=[],defaults:=d,kwdefaults:=k,pyModule:=hS m j,code:=.ref c } }
noncomputable def KK:Params->Frag:=λP=>
 (nat_lit 2,{ cls:=.none,data:=.dict #[] })::(nat_lit 3,{ cls:=.type "dict",data:=.dict #[hE P "__name__" 165 (hS "law_steadyhand_k54_whole_papers_of_falls_hol" 852),hE P "__doc__" 166 (.none),hE P "__package__" 167 (.none),hE P "__loader__" 168 (.builtin "__main__.__loader__#opaque"),hE P "__spec__" 169 (.none),hE P "__annotations__" 170 (.ref 6),hE P "__builtins__" 171 (.ref 4),hE P "__file__" 173 (hS "/claim/cut.py" 172),hE P "__cached__" 174 (.none),hE P "_wall" 193 (.ref 21),hE P "SteadyError" 213 (.ref 31),hE P "BadThing" 229 (.ref 44),hE P "TooMany" 245 (.ref 56),hE P "NotClosed" 261 (.ref 68),hE P "is_whole" 270 (.ref 77),hE P "is_numbers" 278 (.ref 82),hE P "is_table" 284 (.ref 87),hE P "copied" 291 (.ref 93),hE P "unit" 298 (.ref 99),hE P "scaled" 304 (.ref 104),hE P "mixed" 310 (.ref 109),hE P "paired" 316 (.ref 114),hE P "added_up" 322 (.ref 119),hE P "Claim" 344 (.ref 129),hE P "Settles" 374 (.ref 151),hE P "Comes" 403 (.ref 170),hE P "is_row" 411 (.ref 177),hE P "is_room" 417 (.ref 182),hE P "single" 427 (.ref 189),hE P "other_side" 433 (.ref 194),hE P "standing" 441 (.ref 199),hE P "reach" 452 (.ref 206),hE P "added" 463 (.ref 213),hE P "is_from_0_on" 470 (.ref 220),hE P "are_shares" 476 (.ref 225),hE P "shows" 482 (.ref 230),hE P "MOST_NUMBERS" 486 (.int 3 485),hE P "MOST_PUSHES" 488 (.int 6 487),hE P "MOST_MODES" 490 (.int 40 489),hE P "Mode" 529 (.ref 247),hE P "Thing" 589 (.ref 294),hE P "is_sound" 595 (.ref 303),hE P "is_push" 602 (.ref 310),hE P "is_mode" 611 (.ref 317),hE P "is_unsteered" 617 (.ref 322),hE P "ask_closed" 624 (.ref 329),hE P "Paper" 646 (.ref 339),hE P "Rooms" 679 (.ref 360),hE P "Falls" 720 (.ref 379),hE P "lets_by" 729 (.ref 388),hE P "is_list_of" 737 (.ref 395),hE P "each_shown" 743 (.ref 400),hE P "settles_over" 751 (.ref 407),hE P "comes_over" 759 (.ref 414),hE P "lets_rooms_by" 768 (.ref 421),hE P "are_rooms" 774 (.ref 426),hE P "rooms_follow" 780 (.ref 431),hE P "leads" 786 (.ref 436),hE P "mode_leads" 792 (.ref 441),hE P "rooms_stay" 798 (.ref 446),hE P "lets_fall_by" 807 (.ref 453),hE P "height_at_most" 815 (.ref 460),hE P "height_from_0_on" 821 (.ref 465),hE P "fall_row" 833 (.ref 472),hE P "floors_hold" 839 (.ref 477),hE P "falls_hold" 845 (.ref 482),hE P "mode_falls" 851 (.ref 487),hE P "_law_cell_at" 861 (.ref 494),hE P "_law_stream" 873 (.ref 501),hE P "_law_divisor" 881 (.ref 508),hE P "_law_lowest" 890 (.ref 515),hE P "_law_plus" 898 (.ref 522),hE P "_law_along" 909 (.ref 529),hE P "_law_holds" 918 (.ref 536),hE P "_law_lies" 924 (.ref 541),hE P "_law_number" 932 (.ref 548),hE P "_law_made" 938 (.ref 553),hE P "_law_box" 951 (.ref 560),hE P "_law_rows" 957 (.ref 565),hE P "_law_point" 972 (.ref 572),hE P "_law_top" 983 (.ref 579),hE P "_law_both" 992 (.ref 586),hE P "_law_drift" 998 (.ref 591),hE P "_law_drift_mode" 1004 (.ref 596),hE P "_law_pushed" 1010 (.ref 601),hE P "_law_falling" 1016 (.ref 606),hE P "_law_fall_parts" 1022 (.ref 611),hE P "_law_behind" 1041 (.ref 618),hE P "_law_run" 1047 (.ref 623),hE P "_law_other" 1060 (.ref 630),hE P "_law_changed" 1069 (.ref 637),hE P "_law_spoilt" 1088 (.ref 644),hE P "law" 1094 (.ref 649)] 93 })::(nat_lit 15,hU #[])::(nat_lit 17,hU #[hS "k" 190])::(nat_lit 18,hU #[])::(nat_lit 20,hD "_wall" 187 "_wall" 188 189 1 1 3 15 16 .none (.ref 17) (.ref 18) (.ref 19) 191 1 192)::(nat_lit 21,hF "_wall" "_wall" (hT 0) .none .none "__main__" 164 20)::(nat_lit 22,hU #[.type "ValueError"])::(nat_lit 29,hU #[])::(nat_lit 30,{ cls:=.type "dict",data:=.dict #[hE P "__module__" 203 (hS "steadyhand.errors" 194),hE P "__firstlineno__" 207 (.int 5 206),hE P "__static_attributes__" 208 (.ref 29),hE P "__weakref__" 210 (.ref 32),hE P "__doc__" 211 (.none)] 3 })::(nat_lit 31,{ cls:=.type "type",data:=.cls { name:="SteadyError",bases:=[.type "ValueError"],mro:=[.ref 31,.type "ValueError",.type "Exception",.type "BaseException",.type "object"],ns:=30,qualname:="SteadyError",subclasses:=[.ref 44,.ref 56,.ref 68] },slots:=#[some (.ref 22),none,some (hS "SteadyError" 196),some (hS "SteadyError" 204),some (.builtin "ValueError.__new__"),some (.bool true)] })::(nat_lit 32,{ cls:=.type "getset_descriptor",data:=.fields #[hS "__weakref__" 209,.ref 31,.builtin "ExceptionGroup.__weakref__",.none] })::(nat_lit 35,hU #[.ref 31])::(nat_lit 42,hU #[])::(nat_lit 43,{ cls:=.type "dict",data:=.dict #[hE P "__module__" 221 (hS "steadyhand.errors" 194),hE P "__firstlineno__" 225 (.int 7 224),hE P "__static_attributes__" 226 (.ref 42),hE P "__doc__" 227 (.none)] 2 })::(nat_lit 44,{ cls:=.type "type",data:=.cls { name:="BadThing",bases:=[.ref 31],mro:=[.ref 44,.ref 31,.type "ValueError",.type "Exception",.type "BaseException",.type "object"],ns:=43,qualname:="BadThing" },slots:=#[some (.ref 35),none,some (hS "BadThing" 214),some (hS "BadThing" 222),some (.builtin "ValueError.__new__"),some (.bool true)] })::(nat_lit 47,hU #[.ref 31])::(nat_lit 54,hU #[])::(nat_lit 55,{ cls:=.type "dict",data:=.dict #[hE P "__module__" 237 (hS "steadyhand.errors" 194),hE P "__firstlineno__" 241 (.int 9 240),hE P "__static_attributes__" 242 (.ref 54),hE P "__doc__" 243 (.none)] 2 })::(nat_lit 56,{ cls:=.type "type",data:=.cls { name:="TooMany",bases:=[.ref 31],mro:=[.ref 56,.ref 31,.type "ValueError",.type "Exception",.type "BaseException",.type "object"],ns:=55,qualname:="TooMany" },slots:=#[some (.ref 47),none,some (hS "TooMany" 230),some (hS "TooMany" 238),some (.builtin "ValueError.__new__"),some (.bool true)] })::(nat_lit 59,hU #[.ref 31])::(nat_lit 66,hU #[])::(nat_lit 67,{ cls:=.type "dict",data:=.dict #[hE P "__module__" 253 (hS "steadyhand.errors" 194),hE P "__firstlineno__" 257 (.int 11 256),hE P "__static_attributes__" 258 (.ref 66),hE P "__doc__" 259 (.none)] 2 })::(nat_lit 68,{ cls:=.type "type",data:=.cls { name:="NotClosed",bases:=[.ref 31],mro:=[.ref 68,.ref 31,.type "ValueError",.type "Exception",.type "BaseException",.type "object"],ns:=67,qualname:="NotClosed" },slots:=#[some (.ref 59),none,some (hS "NotClosed" 246),some (hS "NotClosed" 254),some (.builtin "ValueError.__new__"),some (.bool true)] })::(nat_lit 71,hU #[])::(nat_lit 73,hU #[hS "thing" 267])::(nat_lit 74,hU #[])::(nat_lit 76,hD "is_whole" 264 "is_whole" 265 266 14 1 3 71 72 .none (.ref 73) (.ref 74) (.ref 75) 268 14 269)::(nat_lit 77,hF "is_whole" "is_whole" (hT 7) .none .none "steadyhand.fractions" 262 76)::(nat_lit 78,hU #[])::(nat_lit 81,hD "is_numbers" 273 "is_numbers" 274 275 17 2 3 78 79 .none .none .none (.ref 80) 276 17 277)::(nat_lit 82,hF "is_numbers" "is_numbers" (hT 9) .none .none "steadyhand.tables" 271 81)::(nat_lit 83,hU #[])::(nat_lit 86,hD "is_table" 279 "is_table" 280 281 19 3 3 83 84 .none .none .none (.ref 85) 282 19 283)::(nat_lit 87,hF "is_table" "is_table" (hT 10) .none .none "steadyhand.tables" 271 86)::(nat_lit 88,hU #[.int 5 285])::(nat_lit 89,hU #[])::(nat_lit 92,hD "copied" 286 "copied" 287 288 21 2 3 89 90 .none .none .none (.ref 91) 289 21 290)::(nat_lit 93,hF "copied" "copied" (hT 11) (.ref 88) .none "steadyhand.tables" 271 92)::(nat_lit 94,hU #[.int 1 292])::(nat_lit 95,hU #[])::(nat_lit 98,hD "unit" 293 "unit" 294 295 29 3 3 95 96 .none .none .none (.ref 97) 296 29 297)::(nat_lit 99,hF "unit" "unit" (hT 12) (.ref 94) .none "steadyhand.tables" 271 98)::(nat_lit 100,hU #[])::(nat_lit 103,hD "scaled" 299 "scaled" 300 301 31 2 3 100 101 .none .none .none (.ref 102) 302 31 303)::(nat_lit 104,hF "scaled" "scaled" (hT 13) .none .none "steadyhand.tables" 271 103)::(nat_lit 105,hU #[])::(nat_lit 108,hD "mixed" 305 "mixed" 306 307 33 4 3 105 106 .none .none .none (.ref 107) 308 33 309)::(nat_lit 109,hF "mixed" "mixed" (hT 14) .none .none "steadyhand.tables" 271 108)::(nat_lit 110,hU #[])::(nat_lit 113,hD "paired" 311 "paired" 312 313 35 2 3 110 111 .none .none .none (.ref 112) 314 35 315)::(nat_lit 114,hF "paired" "paired" (hT 15) .none .none "steadyhand.tables" 271 113)::(nat_lit 115,hU #[])::(nat_lit 118,hD "added_up" 317 "added_up" 318 319 37 3 3 115 116 .none .none .none (.ref 117) 320 37 321)::(nat_lit 119,hF "added_up" "added_up" (hT 16) .none .none "steadyhand.tables" 271 118)::(nat_lit 127,hU #[])::(nat_lit 128,{ cls:=.type "dict",data:=.dict #[hE P "__module__" 332 (hS "steadyhand.claims" 323),hE P "__firstlineno__" 336 (.int 40 335),hE P "__static_attributes__" 337 (.ref 127),hE P "__dict__" 339 (.ref 130),hE P "__weakref__" 341 (.ref 131),hE P "__doc__" 342 (.none)] 4 })::(nat_lit 129,{ cls:=.type "type",data:=.cls { name:="Claim",bases:=[.type "object"],mro:=[.ref 129,.type "object"],ns:=128,qualname:="Claim",subclasses:=[.ref 151,.ref 170] },slots:=#[none,none,some (hS "Claim" 325),some (hS "Claim" 333),some (.builtin "object.__new__"),some (.bool true)] })::(nat_lit 130,{ cls:=.type "getset_descriptor",data:=.fields #[hS "__dict__" 338,.ref 129,.builtin "function.__dict__",.builtin "function.__dict__#set"] })::(nat_lit 131,{ cls:=.type "getset_descriptor",data:=.fields #[hS "__weakref__" 340,.ref 129,.builtin "ExceptionGroup.__weakref__",.none] })::(nat_lit 134,hU #[.ref 129])::(nat_lit 141,hU #[.int 0 357])::(nat_lit 142,hU #[])::(nat_lit 144,hU #[hS "self" 361,hS "start" 362,hS "rows" 363,hS "turn" 364])::(nat_lit 145,hU #[])::(nat_lit 147,hD "__init__" 358 "Settles.__init__" 359 360 44 4 3 142 143 .none (.ref 144) (.ref 145) (.ref 146) 365 44 366)::(nat_lit 148,hF "__init__" "Settles.__init__" (hI 19 0) (.ref 141) .none "steadyhand.claims" 323 147)::(nat_lit 149,hU #[hS "rows" 368,hS "start" 369,hS "turn" 370])::(nat_lit 150,{ cls:=.type "dict",data:=.dict #[hE P "__module__" 352 (hS "steadyhand.claims" 323),hE P "__firstlineno__" 356 (.int 42 355),hE P "__init__" 367 (.ref 148),hE P "__static_attributes__" 371 (.ref 149),hE P "__doc__" 372 (.none)] 2 })::(nat_lit 151,{ cls:=.type "type",data:=.cls { name:="Settles",bases:=[.ref 129],mro:=[.ref 151,.ref 129,.type "object"],ns:=150,qualname:="Settles" },slots:=#[some (.ref 134),none,some (hS "Settles" 345),some (hS "Settles" 353),some (.builtin "object.__new__"),some (.bool true)] })::(nat_lit 154,hU #[.ref 129])::(nat_lit 161,hU #[])::(nat_lit 163,hU #[hS "self" 390,hS "start" 391,hS "goal" 392,hS "turns" 393])::(nat_lit 164,hU #[])::(nat_lit 166,hD "__init__" 387 "Comes.__init__" 388 389 50 4 3 161 162 .none (.ref 163) (.ref 164) (.ref 165) 394 50 395)::(nat_lit 167,hF "__init__" "Comes.__init__" (hI 20 0) .none .none "steadyhand.claims" 323 166)::(nat_lit 168,hU #[hS "goal" 397,hS "start" 398,hS "turns" 399])::(nat_lit 169,{ cls:=.type "dict",data:=.dict #[hE P "__module__" 382 (hS "steadyhand.claims" 323),hE P "__firstlineno__" 386 (.int 48 385),hE P "__init__" 396 (.ref 167),hE P "__static_attributes__" 400 (.ref 168),hE P "__doc__" 401 (.none)] 2 })::(nat_lit 170,{ cls:=.type "type",data:=.cls { name:="Comes",bases:=[.ref 129],mro:=[.ref 170,.ref 129,.type "object"],ns:=169,qualname:="Comes" },slots:=#[some (.ref 154),none,some (hS "Comes" 375),some (hS "Comes" 383),some (.builtin "object.__new__"),some (.bool true)] })::(nat_lit 173,hU #[])::(nat_lit 176,hD "is_row" 406 "is_row" 407 408 55 2 3 173 174 .none .none .none (.ref 175) 409 55 410)::(nat_lit 177,hF "is_row" "is_row" (hT 22) .none .none "steadyhand.rows" 404 176)::(nat_lit 178,hU #[])::(nat_lit 181,hD "is_room" 412 "is_room" 413 414 57 2 3 178 179 .none .none .none (.ref 180) 415 57 416)::(nat_lit 182,hF "is_room" "is_room" (hT 23) .none .none "steadyhand.rows" 404 181)::(nat_lit 183,hU #[])::(nat_lit 185,hU #[hS "place" 421,hS "many" 422,hS "number" 423,hS "bound" 424])::(nat_lit 186,hU #[])::(nat_lit 188,hD "single" 418 "single" 419 420 59 4 3 183 184 .none (.ref 185) (.ref 186) (.ref 187) 425 59 426)::(nat_lit 189,hF "single" "single" (hT 24) .none .none "steadyhand.rows" 404 188)::(nat_lit 190,hU #[])::(nat_lit 193,hD "other_side" 428 "other_side" 429 430 61 1 3 190 191 .none .none .none (.ref 192) 431 61 432)::(nat_lit 194,hF "other_side" "other_side" (hT 25) .none .none "steadyhand.rows" 404 193)::(nat_lit 195,hU #[])::(nat_lit 198,hD "standing" 436 "standing" 437 438 64 2 3 195 196 .none .none .none (.ref 197) 439 64 440)::(nat_lit 199,hF "standing" "standing" (hT 27) .none .none "steadyhand.reach" 434 198)::(nat_lit 200,hU #[])::(nat_lit 202,hU #[hS "thing" 445,hS "mode" 446,hS "row" 447,hS "numbers" 448,hS "ahead" 449])::(nat_lit 203,hU #[])::(nat_lit 205,hD "reach" 442 "reach" 443 444 73 3 3 200 201 .none (.ref 202) (.ref 203) (.ref 204) 450 73 451)::(nat_lit 206,hF "reach" "reach" (hT 28) .none .none "steadyhand.reach" 434 205)::(nat_lit 207,hU #[])::(nat_lit 209,hU #[hS "rows" 458,hS "numbers" 459,hS "many" 460])::(nat_lit 210,hU #[])::(nat_lit 212,hD "added" 455 "added" 456 457 78 3 3 207 208 .none (.ref 209) (.ref 210) (.ref 211) 461 78 462)::(nat_lit 213,hF "added" "added" (hT 30) .none .none "steadyhand.shares" 453 212)::(nat_lit 214,hU #[])::(nat_lit 216,hU #[hS "value" 467])::(nat_lit 217,hU #[])::(nat_lit 219,hD "is_from_0_on" 464 "is_from_0_on" 465 466 80 1 3 214 215 .none (.ref 216) (.ref 217) (.ref 218) 468 80 469)::(nat_lit 220,hF "is_from_0_on" "is_from_0_on" (hT 31) .none .none "steadyhand.shares" 453 219)::(nat_lit 221,hU #[])::(nat_lit 224,hD "are_shares" 471 "are_shares" 472 473 82 2 3 221 222 .none .none .none (.ref 223) 474 82 475)::(nat_lit 225,hF "are_shares" "are_shares" (hT 32) .none .none "steadyhand.shares" 453 224)::(nat_lit 226,hU #[])::(nat_lit 229,hD "shows" 477 "shows" 478 479 88 3 3 226 227 .none .none .none (.ref 228) 480 88 481)::(nat_lit 230,hF "shows" "shows" (hT 33) .none .none "steadyhand.shares" 453 229)::(nat_lit 238,hU #[])::(nat_lit 240,hU #[hS "self" 506,hS "rows" 507,hS "nexts" 508,hS "steer" 509,hS "push" 510,hS "add" 511,hS "divisor" 512])::(nat_lit 241,hU #[])::(nat_lit 243,hD "__init__" 503 "Mode.__init__" 504 505 102 7 3 238 239 .none (.ref 240) (.ref 241) (.ref 242) 513 102 514)::(nat_lit 244,hF "__init__" "Mode.__init__" (hI 38 0) .none .none "steadyhand.things" 483 243)::(nat_lit 245,hU #[hS "add" 516,hS "divisor" 517,hS "nexts" 518,hS "push" 519,hS "rows" 520,hS "steer" 521])::(nat_lit 246,{ cls:=.type "dict",data:=.dict #[hE P "__module__" 498 (hS "steadyhand.things" 483),hE P "__firstlineno__" 502 (.int 100 501),hE P "__init__" 515 (.ref 244),hE P "__static_attributes__" 522 (.ref 245),hE P "__dict__" 524 (.ref 248),hE P "__weakref__" 526 (.ref 249),hE P "__doc__" 527 (.none)] 4 })::(nat_lit 247,{ cls:=.type "type",data:=.cls { name:="Mode",bases:=[.type "object"],mro:=[.ref 247,.type "object"],ns:=246,qualname:="Mode" },slots:=#[none,none,some (hS "Mode" 491),some (hS "Mode" 499),some (.builtin "object.__new__"),some (.bool true)] })::(nat_lit 248,{ cls:=.type "getset_descriptor",data:=.fields #[hS "__dict__" 523,.ref 247,.builtin "function.__dict__",.builtin "function.__dict__#set"] })::(nat_lit 249,{ cls:=.type "getset_descriptor",data:=.fields #[hS "__weakref__" 525,.ref 247,.builtin "ExceptionGroup.__weakref__",.none] })::(nat_lit 259,hU #[])::(nat_lit 261,hU #[hS "self" 545,hS "many" 546,hS "pushes" 547,hS "modes" 548])::(nat_lit 262,hU #[])::(nat_lit 264,hD "__init__" 542 "Thing.__init__" 543 544 111 4 3 259 260 .none (.ref 261) (.ref 262) (.ref 263) 549 111 550)::(nat_lit 265,hF "__init__" "Thing.__init__" (hI 39 0) .none .none "steadyhand.things" 483 264)::(nat_lit 266,hU #[])::(nat_lit 268,hU #[hS "self" 555])::(nat_lit 269,hU #[])::(nat_lit 271,hD "pushes" 552 "Thing.pushes" 553 554 120 1 3 266 267 .none (.ref 268) (.ref 269) (.ref 270) 556 120 557)::(nat_lit 272,hF "pushes" "Thing.pushes" (hI 39 1) .none .none "steadyhand.things" 483 271)::(nat_lit 273,hU #[])::(nat_lit 275,hU #[hS "self" 562])::(nat_lit 276,hU #[])::(nat_lit 278,hD "modes" 559 "Thing.modes" 560 561 123 1 3 273 274 .none (.ref 275) (.ref 276) (.ref 277) 563 123 564)::(nat_lit 279,hF "modes" "Thing.modes" (hI 39 2) .none .none "steadyhand.things" 483 278)::(nat_lit 280,hU #[])::(nat_lit 283,hD "is_closed" 566 "Thing.is_closed" 567 568 126 1 3 280 281 .none .none .none (.ref 282) 569 126 570)::(nat_lit 284,hF "is_closed" "Thing.is_closed" (hI 39 3) .none .none "steadyhand.things" 483 283)::(nat_lit 285,hU #[])::(nat_lit 287,hU #[hS "self" 575])::(nat_lit 288,hU #[])::(nat_lit 290,hD "is_plain" 572 "Thing.is_plain" 573 574 129 1 3 285 286 .none (.ref 287) (.ref 288) (.ref 289) 576 129 577)::(nat_lit 291,hF "is_plain" "Thing.is_plain" (hI 39 4) .none .none "steadyhand.things" 483 290)::(nat_lit 292,hU #[hS "kept_modes" 579,hS "kept_pushes" 580,hS "many" 581])::(nat_lit 293,{ cls:=.type "dict",data:=.dict #[hE P "__module__" 537 (hS "steadyhand.things" 483),hE P "__firstlineno__" 541 (.int 109 540),hE P "__init__" 551 (.ref 265),hE P "pushes" 558 (.ref 272),hE P "modes" 565 (.ref 279),hE P "is_closed" 571 (.ref 284),hE P "is_plain" 578 (.ref 291),hE P "__static_attributes__" 582 (.ref 292),hE P "__dict__" 584 (.ref 295),hE P "__weakref__" 586 (.ref 296),hE P "__doc__" 587 (.none)] 4 })::(nat_lit 294,{ cls:=.type "type",data:=.cls { name:="Thing",bases:=[.type "object"],mro:=[.ref 294,.type "object"],ns:=293,qualname:="Thing" },slots:=#[none,none,some (hS "Thing" 530),some (hS "Thing" 538),some (.builtin "object.__new__"),some (.bool true)] })::(nat_lit 295,{ cls:=.type "getset_descriptor",data:=.fields #[hS "__dict__" 583,.ref 294,.builtin "function.__dict__",.builtin "function.__dict__#set"] })::(nat_lit 296,{ cls:=.type "getset_descriptor",data:=.fields #[hS "__weakref__" 585,.ref 294,.builtin "ExceptionGroup.__weakref__",.none] })::(nat_lit 299,hU #[])::(nat_lit 302,hD "is_sound" 590 "is_sound" 591 592 131 3 3 299 300 .none .none .none (.ref 301) 593 131 594)::(nat_lit 303,hF "is_sound" "is_sound" (hT 40) .none .none "steadyhand.things" 483 302)::(nat_lit 304,hU #[])::(nat_lit 306,hU #[hS "value" 599])::(nat_lit 307,hU #[])::(nat_lit 309,hD "is_push" 596 "is_push" 597 598 139 1 3 304 305 .none (.ref 306) (.ref 307) (.ref 308) 600 139 601)::(nat_lit 310,hF "is_push" "is_push" (hT 41) .none .none "steadyhand.things" 483 309)::(nat_lit 311,hU #[])::(nat_lit 313,hU #[hS "value" 606,hS "many" 607,hS "wide" 608])::(nat_lit 314,hU #[])::(nat_lit 316,hD "is_mode" 603 "is_mode" 604 605 143 3 3 311 312 .none (.ref 313) (.ref 314) (.ref 315) 609 143 610)::(nat_lit 317,hF "is_mode" "is_mode" (hT 42) .none .none "steadyhand.things" 483 316)::(nat_lit 318,hU #[])::(nat_lit 321,hD "is_unsteered" 612 "is_unsteered" 613 614 151 1 3 318 319 .none .none .none (.ref 320) 615 151 616)::(nat_lit 322,hF "is_unsteered" "is_unsteered" (hT 43) .none .none "steadyhand.things" 483 321)::(nat_lit 323,hU #[])::(nat_lit 325,hU #[hS "thing" 621])::(nat_lit 326,hU #[])::(nat_lit 328,hD "ask_closed" 618 "ask_closed" 619 620 153 1 3 323 324 .none (.ref 325) (.ref 326) (.ref 327) 622 153 623)::(nat_lit 329,hF "ask_closed" "ask_closed" (hT 44) .none .none "steadyhand.things" 483 328)::(nat_lit 337,hU #[])::(nat_lit 338,{ cls:=.type "dict",data:=.dict #[hE P "__module__" 634 (hS "steadyhand.papers" 625),hE P "__firstlineno__" 638 (.int 157 637),hE P "__static_attributes__" 639 (.ref 337),hE P "__dict__" 641 (.ref 340),hE P "__weakref__" 643 (.ref 341),hE P "__doc__" 644 (.none)] 4 })::(nat_lit 339,{ cls:=.type "type",data:=.cls { name:="Paper",bases:=[.type "object"],mro:=[.ref 339,.type "object"],ns:=338,qualname:="Paper",subclasses:=[.ref 360,.ref 379] },slots:=#[none,none,some (hS "Paper" 627),some (hS "Paper" 635),some (.builtin "object.__new__"),some (.bool true)] })::(nat_lit 340,{ cls:=.type "getset_descriptor",data:=.fields #[hS "__dict__" 640,.ref 339,.builtin "function.__dict__",.builtin "function.__dict__#set"] })::(nat_lit 341,{ cls:=.type "getset_descriptor",data:=.fields #[hS "__weakref__" 642,.ref 339,.builtin "ExceptionGroup.__weakref__",.none] })::(nat_lit 344,hU #[.ref 339])::(nat_lit 351,hU #[])::(nat_lit 353,hU #[hS "self" 662,hS "rooms" 663,hS "back" 664,hS "starts" 665,hS "steps" 666,hS "stays" 667])::(nat_lit 354,hU #[])::(nat_lit 356,hD "__init__" 659 "Rooms.__init__" 660 661 161 6 3 351 352 .none (.ref 353) (.ref 354) (.ref 355) 668 161 669)::(nat_lit 357,hF "__init__" "Rooms.__init__" (hI 47 0) .none .none "steadyhand.papers" 625 356)::(nat_lit 358,hU #[hS "back" 671,hS "rooms" 672,hS "starts" 673,hS "stays" 674,hS "steps" 675])::(nat_lit 359,{ cls:=.type "dict",data:=.dict #[hE P "__module__" 654 (hS "steadyhand.papers" 625),hE P "__firstlineno__" 658 (.int 159 657),hE P "__init__" 670 (.ref 357),hE P "__static_attributes__" 676 (.ref 358),hE P "__doc__" 677 (.none)] 2 })::(nat_lit 360,{ cls:=.type "type",data:=.cls { name:="Rooms",bases:=[.ref 339],mro:=[.ref 360,.ref 339,.type "object"],ns:=359,qualname:="Rooms" },slots:=#[some (.ref 344),none,some (hS "Rooms" 647),some (hS "Rooms" 655),some (.builtin "object.__new__"),some (.bool true)] })::(nat_lit 363,hU #[.ref 339])::(nat_lit 370,hU #[])::(nat_lit 372,hU #[hS "self" 695,hS "room" 696,hS "starts" 697,hS "steps" 698,hS "measure" 699,hS "step" 700,hS "top" 701,hS "falls" 702,hS "floors" 703,hS "tops" 704])::(nat_lit 373,hU #[])::(nat_lit 375,hD "__init__" 692 "Falls.__init__" 693 694 169 10 3 370 371 .none (.ref 372) (.ref 373) (.ref 374) 705 169 706)::(nat_lit 376,hF "__init__" "Falls.__init__" (hI 48 0) .none .none "steadyhand.papers" 625 375)::(nat_lit 377,hU #[hS "falls" 708,hS "floors" 709,hS "measure" 710,hS "room" 711,hS "starts" 712,hS "step" 713,hS "steps" 714,hS "top" 715,hS "tops" 716])::(nat_lit 378,{ cls:=.type "dict",data:=.dict #[hE P "__module__" 687 (hS "steadyhand.papers" 625),hE P "__firstlineno__" 691 (.int 167 690),hE P "__init__" 707 (.ref 376),hE P "__static_attributes__" 717 (.ref 377),hE P "__doc__" 718 (.none)] 2 })::(nat_lit 379,{ cls:=.type "type",data:=.cls { name:="Falls",bases:=[.ref 339],mro:=[.ref 379,.ref 339,.type "object"],ns:=378,qualname:="Falls" },slots:=#[some (.ref 363),none,some (hS "Falls" 680),some (hS "Falls" 688),some (.builtin "object.__new__"),some (.bool true)] })::(nat_lit 382,hU #[])::(nat_lit 384,hU #[hS "thing" 724,hS "claim" 725,hS "paper" 726])::(nat_lit 385,hU #[])::(nat_lit 387,hD "lets_by" 721 "lets_by" 722 723 179 3 3 382 383 .none (.ref 384) (.ref 385) (.ref 386) 727 179 728)::(nat_lit 388,hF "lets_by" "lets_by" (hT 49) .none .none "steadyhand.papers" 625 387)::(nat_lit 389,hU #[])::(nat_lit 391,hU #[hS "value" 733,hS "count" 734])::(nat_lit 392,hU #[])::(nat_lit 394,hD "is_list_of" 730 "is_list_of" 731 732 186 2 3 389 390 .none (.ref 391) (.ref 392) (.ref 393) 735 186 736)::(nat_lit 395,hF "is_list_of" "is_list_of" (hT 50) .none .none "steadyhand.papers" 625 394)::(nat_lit 396,hU #[])::(nat_lit 399,hD "each_shown" 738 "each_shown" 739 740 188 3 3 396 397 .none .none .none (.ref 398) 741 188 742)::(nat_lit 400,hF "each_shown" "each_shown" (hT 51) .none .none "steadyhand.papers" 625 399)::(nat_lit 401,hU #[])::(nat_lit 403,hU #[hS "claim" 747,hS "many" 748])::(nat_lit 404,hU #[])::(nat_lit 406,hD "settles_over" 744 "settles_over" 745 746 192 2 3 401 402 .none (.ref 403) (.ref 404) (.ref 405) 749 192 750)::(nat_lit 407,hF "settles_over" "settles_over" (hT 52) .none .none "steadyhand.papers" 625 406)::(nat_lit 408,hU #[])::(nat_lit 410,hU #[hS "claim" 755,hS "many" 756])::(nat_lit 411,hU #[])::(nat_lit 413,hD "comes_over" 752 "comes_over" 753 754 194 2 3 408 409 .none (.ref 410) (.ref 411) (.ref 412) 757 194 758)::(nat_lit 414,hF "comes_over" "comes_over" (hT 53) .none .none "steadyhand.papers" 625 413)::(nat_lit 415,hU #[])::(nat_lit 417,hU #[hS "thing" 763,hS "claim" 764,hS "paper" 765])::(nat_lit 418,hU #[])::(nat_lit 420,hD "lets_rooms_by" 760 "lets_rooms_by" 761 762 196 3 3 415 416 .none (.ref 417) (.ref 418) (.ref 419) 766 196 767)::(nat_lit 421,hF "lets_rooms_by" "lets_rooms_by" (hT 54) .none .none "steadyhand.papers" 625 420)::(nat_lit 422,hU #[])::(nat_lit 425,hD "are_rooms" 769 "are_rooms" 770 771 204 2 3 422 423 .none .none .none (.ref 424) 772 204 773)::(nat_lit 426,hF "are_rooms" "are_rooms" (hT 55) .none .none "steadyhand.papers" 625 425)::(nat_lit 427,hU #[])::(nat_lit 430,hD "rooms_follow" 775 "rooms_follow" 776 777 206 2 3 427 428 .none .none .none (.ref 429) 778 206 779)::(nat_lit 431,hF "rooms_follow" "rooms_follow" (hT 56) .none .none "steadyhand.papers" 625 430)::(nat_lit 432,hU #[])::(nat_lit 435,hD "leads" 781 "leads" 782 783 211 4 3 432 433 .none .none .none (.ref 434) 784 211 785)::(nat_lit 436,hF "leads" "leads" (hT 57) .none .none "steadyhand.papers" 625 435)::(nat_lit 437,hU #[])::(nat_lit 440,hD "mode_leads" 787 "mode_leads" 788 789 216 5 3 437 438 .none .none .none (.ref 439) 790 216 791)::(nat_lit 441,hF "mode_leads" "mode_leads" (hT 58) .none .none "steadyhand.papers" 625 440)::(nat_lit 442,hU #[])::(nat_lit 445,hD "rooms_stay" 793 "rooms_stay" 794 795 218 2 3 442 443 .none .none .none (.ref 444) 796 218 797)::(nat_lit 446,hF "rooms_stay" "rooms_stay" (hT 59) .none .none "steadyhand.papers" 625 445)::(nat_lit 447,hU #[])::(nat_lit 449,hU #[hS "thing" 802,hS "claim" 803,hS "paper" 804])::(nat_lit 450,hU #[])::(nat_lit 452,hD "lets_fall_by" 799 "lets_fall_by" 800 801 223 3 3 447 448 .none (.ref 449) (.ref 450) (.ref 451) 805 223 806)::(nat_lit 453,hF "lets_fall_by" "lets_fall_by" (hT 60) .none .none "steadyhand.papers" 625 452)::(nat_lit 454,hU #[])::(nat_lit 456,hU #[hS "measure" 811,hS "top" 812])::(nat_lit 457,hU #[])::(nat_lit 459,hD "height_at_most" 808 "height_at_most" 809 810 237 2 3 454 455 .none (.ref 456) (.ref 457) (.ref 458) 813 237 814)::(nat_lit 460,hF "height_at_most" "height_at_most" (hT 61) .none .none "steadyhand.papers" 625 459)::(nat_lit 461,hU #[])::(nat_lit 464,hD "height_from_0_on" 816 "height_from_0_on" 817 818 239 1 3 461 462 .none .none .none (.ref 463) 819 239 820)::(nat_lit 465,hF "height_from_0_on" "height_from_0_on" (hT 62) .none .none "steadyhand.papers" 625 464)::(nat_lit 466,hU #[])::(nat_lit 468,hU #[hS "thing" 825,hS "mode" 826,hS "measure" 827,hS "step" 828,hS "ahead" 829,hS "less" 830])::(nat_lit 469,hU #[])::(nat_lit 471,hD "fall_row" 822 "fall_row" 823 824 241 4 3 466 467 .none (.ref 468) (.ref 469) (.ref 470) 831 241 832)::(nat_lit 472,hF "fall_row" "fall_row" (hT 63) .none .none "steadyhand.papers" 625 471)::(nat_lit 473,hU #[])::(nat_lit 476,hD "floors_hold" 834 "floors_hold" 835 836 245 2 3 473 474 .none .none .none (.ref 475) 837 245 838)::(nat_lit 477,hF "floors_hold" "floors_hold" (hT 64) .none .none "steadyhand.papers" 625 476)::(nat_lit 478,hU #[])::(nat_lit 481,hD "falls_hold" 840 "falls_hold" 841 842 250 3 3 478 479 .none .none .none (.ref 480) 843 250 844)::(nat_lit 482,hF "falls_hold" "falls_hold" (hT 65) .none .none "steadyhand.papers" 625 481)::(nat_lit 483,hU #[])::(nat_lit 486,hD "mode_falls" 846 "mode_falls" 847 848 255 5 3 483 484 .none .none .none (.ref 485) 849 255 850)::(nat_lit 487,hF "mode_falls" "mode_falls" (hT 66) .none .none "steadyhand.papers" 625 486)::(nat_lit 488,hU #[])::(nat_lit 490,hU #[hS "_law_script" 857,hS "_law_k" 858])::(nat_lit 491,hU #[])::(nat_lit 493,hD "_law_cell_at" 854 "_law_cell_at" 855 856 262 2 3 488 489 .none (.ref 490) (.ref 491) (.ref 492) 859 262 860)::(nat_lit 494,hF "_law_cell_at" "_law_cell_at" (hT 68) .none .none "law_steadyhand_k54_whole_papers_of_falls_hol" 852 493)::(nat_lit 495,hU #[])::(nat_lit 497,hU #[hS "_law_cell" 865,hS "_law_many" 866,hS "_law_found" 867,hS "_law_rest" 868,hS "_law_k" 869,hS "_law_number_here" 870])::(nat_lit 498,hU #[])::(nat_lit 500,hD "_law_stream" 862 "_law_stream" 863 864 266 2 3 495 496 .none (.ref 497) (.ref 498) (.ref 499) 871 266 872)::(nat_lit 501,hF "_law_stream" "_law_stream" (hT 69) .none .none "law_steadyhand_k54_whole_papers_of_falls_hol" 852 500)::(nat_lit 502,hU #[])::(nat_lit 504,hU #[hS "_law_one" 877,hS "_law_other_here" 878])::(nat_lit 505,hU #[])::(nat_lit 507,hD "_law_divisor" 874 "_law_divisor" 875 876 279 2 3 502 503 .none (.ref 504) (.ref 505) (.ref 506) 879 279 880)::(nat_lit 508,hF "_law_divisor" "_law_divisor" (hT 70) .none .none "law_steadyhand_k54_whole_papers_of_falls_hol" 852 507)::(nat_lit 509,hU #[])::(nat_lit 511,hU #[hS "_law_top_here" 885,hS "_law_bottom" 886,hS "_law_share" 887])::(nat_lit 512,hU #[])::(nat_lit 514,hD "_law_lowest" 882 "_law_lowest" 883 884 283 2 3 509 510 .none (.ref 511) (.ref 512) (.ref 513) 888 283 889)::(nat_lit 515,hF "_law_lowest" "_law_lowest" (hT 71) .none .none "law_steadyhand_k54_whole_papers_of_falls_hol" 852 514)::(nat_lit 516,hU #[])::(nat_lit 518,hU #[hS "_law_one" 894,hS "_law_other_here" 895])::(nat_lit 519,hU #[])::(nat_lit 521,hD "_law_plus" 891 "_law_plus" 892 893 286 2 3 516 517 .none (.ref 518) (.ref 519) (.ref 520) 896 286 897)::(nat_lit 522,hF "_law_plus" "_law_plus" (hT 72) .none .none "law_steadyhand_k54_whole_papers_of_falls_hol" 852 521)::(nat_lit 523,hU #[])::(nat_lit 525,hU #[hS "_law_numbers" 902,hS "_law_values" 903,hS "_law_found" 904,hS "_law_number_here" 905,hS "_law_value" 906])::(nat_lit 526,hU #[])::(nat_lit 528,hD "_law_along" 899 "_law_along" 900 901 288 2 3 523 524 .none (.ref 525) (.ref 526) (.ref 527) 907 288 908)::(nat_lit 529,hF "_law_along" "_law_along" (hT 73) .none .none "law_steadyhand_k54_whole_papers_of_falls_hol" 852 528)::(nat_lit 530,hU #[])::(nat_lit 532,hU #[hS "_law_row" 913,hS "_law_point_here" 914,hS "_law_value" 915])::(nat_lit 533,hU #[])::(nat_lit 535,hD "_law_holds" 910 "_law_holds" 911 912 293 2 3 530 531 .none (.ref 532) (.ref 533) (.ref 534) 916 293 917)::(nat_lit 536,hF "_law_holds" "_law_holds" (hT 74) .none .none "law_steadyhand_k54_whole_papers_of_falls_hol" 852 535)::(nat_lit 537,hU #[])::(nat_lit 540,hD "_law_lies" 919 "_law_lies" 920 921 296 2 3 537 538 .none .none .none (.ref 539) 922 296 923)::(nat_lit 541,hF "_law_lies" "_law_lies" (hT 75) .none .none "law_steadyhand_k54_whole_papers_of_falls_hol" 852 540)::(nat_lit 542,hU #[])::(nat_lit 544,hU #[hS "_law_x" 928,hS "_law_far" 929])::(nat_lit 545,hU #[])::(nat_lit 547,hD "_law_number" 925 "_law_number" 926 927 298 2 3 542 543 .none (.ref 544) (.ref 545) (.ref 546) 930 298 931)::(nat_lit 548,hF "_law_number" "_law_number" (hT 76) .none .none "law_steadyhand_k54_whole_papers_of_falls_hol" 852 547)::(nat_lit 549,hU #[])::(nat_lit 552,hD "_law_made" 933 "_law_made" 934 935 300 1 3 549 550 .none .none .none (.ref 551) 936 300 937)::(nat_lit 553,hF "_law_made" "_law_made" (hT 77) .none .none "law_steadyhand_k54_whole_papers_of_falls_hol" 852 552)::(nat_lit 554,hU #[])::(nat_lit 556,hU #[hS "_law_cell" 942,hS "_law_many" 943,hS "_law_unit" 944,hS "_law_xs" 945,hS "_law_box_here" 946,hS "_law_i" 947,hS "_law_low" 948])::(nat_lit 557,hU #[])::(nat_lit 559,hD "_law_box" 939 "_law_box" 940 941 307 3 3 554 555 .none (.ref 556) (.ref 557) (.ref 558) 949 307 950)::(nat_lit 560,hF "_law_box" "_law_box" (hT 78) .none .none "law_steadyhand_k54_whole_papers_of_falls_hol" 852 559)::(nat_lit 561,hU #[])::(nat_lit 564,hD "_law_rows" 952 "_law_rows" 953 954 314 1 3 561 562 .none .none .none (.ref 563) 955 314 956)::(nat_lit 565,hF "_law_rows" "_law_rows" (hT 79) .none .none "law_steadyhand_k54_whole_papers_of_falls_hol" 852 564)::(nat_lit 566,hU #[])::(nat_lit 568,hU #[hS "_law_cell" 961,hS "_law_box_here" 962,hS "_law_xs" 963,hS "_law_parts" 964,hS "_law_point_here" 965,hS "_law_k" 966,hS "_law_low" 967,hS "_law_high" 968,hS "_law_share" 969])::(nat_lit 569,hU #[])::(nat_lit 571,hD "_law_point" 958 "_law_point" 959 960 321 2 3 566 567 .none (.ref 568) (.ref 569) (.ref 570) 970 321 971)::(nat_lit 572,hF "_law_point" "_law_point" (hT 80) .none .none "law_steadyhand_k54_whole_papers_of_falls_hol" 852 571)::(nat_lit 573,hU #[])::(nat_lit 575,hU #[hS "_law_numbers" 976,hS "_law_box_here" 977,hS "_law_found" 978,hS "_law_number_here" 979,hS "_law_bounds" 980])::(nat_lit 576,hU #[])::(nat_lit 578,hD "_law_top" 973 "_law_top" 974 975 330 2 3 573 574 .none (.ref 575) (.ref 576) (.ref 577) 981 330 982)::(nat_lit 579,hF "_law_top" "_law_top" (hT 81) .none .none "law_steadyhand_k54_whole_papers_of_falls_hol" 852 578)::(nat_lit 580,hU #[])::(nat_lit 582,hU #[hS "_law_numbers" 987,hS "_law_found" 988,hS "_law_number_here" 989])::(nat_lit 583,hU #[])::(nat_lit 585,hD "_law_both" 984 "_law_both" 985 986 335 1 3 580 581 .none (.ref 582) (.ref 583) (.ref 584) 990 335 991)::(nat_lit 586,hF "_law_both" "_law_both" (hT 82) .none .none "law_steadyhand_k54_whole_papers_of_falls_hol" 852 585)::(nat_lit 587,hU #[])::(nat_lit 590,hD "_law_drift" 993 "_law_drift" 994 995 340 1 3 587 588 .none .none .none (.ref 589) 996 340 997)::(nat_lit 591,hF "_law_drift" "_law_drift" (hT 83) .none .none "law_steadyhand_k54_whole_papers_of_falls_hol" 852 590)::(nat_lit 592,hU #[])::(nat_lit 595,hD "_law_drift_mode" 999 "_law_drift_mode" 1000 1001 357 5 3 592 593 .none .none .none (.ref 594) 1002 357 1003)::(nat_lit 596,hF "_law_drift_mode" "_law_drift_mode" (hT 84) .none .none "law_steadyhand_k54_whole_papers_of_falls_hol" 852 595)::(nat_lit 597,hU #[])::(nat_lit 600,hD "_law_pushed" 1005 "_law_pushed" 1006 1007 373 3 3 597 598 .none .none .none (.ref 599) 1008 373 1009)::(nat_lit 601,hF "_law_pushed" "_law_pushed" (hT 85) .none .none "law_steadyhand_k54_whole_papers_of_falls_hol" 852 600)::(nat_lit 602,hU #[])::(nat_lit 605,hD "_law_falling" 1011 "_law_falling" 1012 1013 376 5 3 602 603 .none .none .none (.ref 604) 1014 376 1015)::(nat_lit 606,hF "_law_falling" "_law_falling" (hT 86) .none .none "law_steadyhand_k54_whole_papers_of_falls_hol" 852 605)::(nat_lit 607,hU #[])::(nat_lit 610,hD "_law_fall_parts" 1017 "_law_fall_parts" 1018 1019 391 5 3 607 608 .none .none .none (.ref 609) 1020 391 1021)::(nat_lit 611,hF "_law_fall_parts" "_law_fall_parts" (hT 87) .none .none "law_steadyhand_k54_whole_papers_of_falls_hol" 852 610)::(nat_lit 612,hU #[])::(nat_lit 614,hU #[hS "_law_mode" 1026,hS "_law_point_here" 1027,hS "_law_steering" 1028,hS "_law_pushes" 1029,hS "_law_rows_here" 1030,hS "_law_nexts" 1031,hS "_law_steer" 1032,hS "_law_push" 1033,hS "_law_add" 1034,hS "_law_divisor_here" 1035,hS "_law_found" 1036,hS "_law_i" 1037,hS "_law_value" 1038])::(nat_lit 615,hU #[])::(nat_lit 617,hD "_law_behind" 1023 "_law_behind" 1024 1025 409 4 3 612 613 .none (.ref 614) (.ref 615) (.ref 616) 1039 409 1040)::(nat_lit 618,hF "_law_behind" "_law_behind" (hT 88) .none .none "law_steadyhand_k54_whole_papers_of_falls_hol" 852 617)::(nat_lit 619,hU #[])::(nat_lit 622,hD "_law_run" 1042 "_law_run" 1043 1044 417 3 3 619 620 .none .none .none (.ref 621) 1045 417 1046)::(nat_lit 623,hF "_law_run" "_law_run" (hT 89) .none .none "law_steadyhand_k54_whole_papers_of_falls_hol" 852 622)::(nat_lit 624,hU #[])::(nat_lit 626,hU #[hS "_law_shares" 1051,hS "_law_cell" 1052,hS "_law_often" 1053,hS "_law_numbers" 1054,hS "_law_way" 1055,hS "_law_at" 1056,hS "_law_other_here" 1057])::(nat_lit 627,hU #[])::(nat_lit 629,hD "_law_other" 1048 "_law_other" 1049 1050 428 2 3 624 625 .none (.ref 626) (.ref 627) (.ref 628) 1058 428 1059)::(nat_lit 630,hF "_law_other" "_law_other" (hT 90) .none .none "law_steadyhand_k54_whole_papers_of_falls_hol" 852 629)::(nat_lit 631,hU #[])::(nat_lit 633,hU #[hS "_law_some" 1064,hS "_law_cell" 1065,hS "_law_at" 1066])::(nat_lit 634,hU #[])::(nat_lit 636,hD "_law_changed" 1061 "_law_changed" 1062 1063 436 2 3 631 632 .none (.ref 633) (.ref 634) (.ref 635) 1067 436 1068)::(nat_lit 637,hF "_law_changed" "_law_changed" (hT 91) .none .none "law_steadyhand_k54_whole_papers_of_falls_hol" 852 636)::(nat_lit 638,hU #[])::(nat_lit 640,hU #[hS "_law_parts" 1073,hS "_law_cell" 1074,hS "_law_room" 1075,hS "_law_starts" 1076,hS "_law_steps" 1077,hS "_law_measure" 1078,hS "_law_step" 1079,hS "_law_top_here" 1080,hS "_law_falls" 1081,hS "_law_floors" 1082,hS "_law_tops" 1083,hS "_law_way" 1084,hS "_law_found" 1085])::(nat_lit 641,hU #[])::(nat_lit 643,hD "_law_spoilt" 1070 "_law_spoilt" 1071 1072 450 2 3 638 639 .none (.ref 640) (.ref 641) (.ref 642) 1086 450 1087)::(nat_lit 644,hF "_law_spoilt" "_law_spoilt" (hT 92) .none .none "law_steadyhand_k54_whole_papers_of_falls_hol" 852 643)::(nat_lit 645,hU #[])::(nat_lit 648,hD "law" 1089 "law" 1090 1091 469 1 3 645 646 .none .none .none (.ref 647) 1092 469 1093)::(nat_lit 649,hF "law" "law" (hT 93) .none .none "law_steadyhand_k54_whole_papers_of_falls_hol" 852 648) :: []
noncomputable def ks:List Addr:=[2,3,15,17,18,20,21,22,29,30,31,32,35,42,43,44,47,54,55,56,59,66,67,68,71,73,74,76,77,78,81,82,83,86,87,88,89,92,93,94,95,98,99,100,103,104,105,108,109,110,113,114,115,118,119,127,128,129,130,131,134,141,142,144,145,147,148,149,150,151,154,161,163,164,166,167,168,169,170,173,176,177,178,181,182,183,185,186,188,189,190,193,194,195,198,199,200,202,203,205,206,207,209,210,212,213,214,216,217,219,220,221,224,225,226,229,230,238,240,241,243,244,245,246,247,248,249,259,261,262,264,265,266,268,269,271,272,273,275,276,278,279,280,283,284,285,287,288,290,291,292,293,294,295,296,299,302,303,304,306,307,309,310,311,313,314,316,317,318,321,322,323,325,326,328,329,337,338,339,340,341,344,351,353,354,356,357,358,359,360,363,370,372,373,375,376,377,378,379,382,384,385,387,388,389,391,392,394,395,396,399,400,401,403,404,406,407,408,410,411,413,414,415,417,418,420,421,422,425,426,427,430,431,432,435,436,437,440,441,442,445,446,447,449,450,452,453,454,456,457,459,460,461,464,465,466,468,469,471,472,473,476,477,478,481,482,483,486,487,488,490,491,493,494,495,497,498,500,501,502,504,505,507,508,509,511,512,514,515,516,518,519,521,522,523,525,526,528,529,530,532,533,535,536,537,540,541,542,544,545,547,548,549,552,553,554,556,557,559,560,561,564,565,566,568,569,571,572,573,575,576,578,579,580,582,583,585,586,587,590,591,592,595,596,597,600,601,602,605,606,607,610,611,612,614,615,617,618,619,622,623,624,626,627,629,630,631,633,634,636,637,638,640,641,643,644,645,648,649]
theorem ke:∀ P:Params,ks=(KK P).map (·.1):=λ_=>by
 kernel_rfl
noncomputable def vw:Program:={ PySem.Challenge.pw_steadyhand_k54_whole_papers_of_falls_hol with main:={ PySem.Challenge.pw_steadyhand_k54_whole_papers_of_falls_hol.main with body:=[hT 0,hT 2,hT 3,hT 4,hT 5,hT 7,hT 9,hT 10,hT 13,hT 14,hT 15,hT 16,hT 18,hT 19,hT 20,hT 22,hT 23,hT 24,hT 25,hT 27,hT 28,hT 30,hT 31,hT 32,hT 33,hT 35,hT 36,hT 37,hT 38,hT 39,hT 40,hT 41,hT 42,hT 43,hT 44,hT 46,hT 47,hT 48,hT 49,hT 50,hT 51,hT 52,hT 53,hT 54,hT 55,hT 56,hT 57,hT 58,hT 59,hT 60,hT 61,hT 62,hT 63,hT 64,hT 65,hT 66,hT 68,hT 69,hT 70,hT 71,hT 72,hT 73,hT 74,hT 75,hT 76,hT 77,hT 78,hT 79,hT 80,hT 81,hT 82,hT 83,hT 84,hT 85,hT 86,hT 87,hT 88,hT 89,hT 90,hT 91,hT 92,hT 93] } }
noncomputable def lo:List Str:=[Str.ofString "copied",Str.ofString "unit",Str.ofString "Settles"]
abbrev rr:RowW:=(OpenLaw.row PySem.Challenge.rw_steadyhand_k54_whole_papers_of_falls_hol).toRowW
noncomputable abbrev xt:Shared->Bool:=λs=>xlAt vw [] s && recOk rr.records s
noncomputable def bt:Params->BT:=λP=>(.node (boot_o_0 P) (.node (boot_o_1 P) (.node (boot_o_3 P) (.node (boot_o_7 P) .nil .nil) .nil) (.node (boot_o_5 P) (.node (boot_o_9 P) .nil .nil) .nil)) (.node (boot_o_2 P) (.node (boot_o_4 P) (.node (boot_o_8 P) .nil .nil) .nil) (.node (boot_o_6 P) (.node (boot_o_10 P) .nil .nil) .nil)))
noncomputable def lhs (T:Params->BT) (h:Params->Heap) (d:Drawn) (k:Nat) (w:World) (os:OsState):=(TT.runT treeTable PySem.Challenge.pw_steadyhand_k54_whole_papers_of_falls_hol w 11 (some (.ref 6)) 9940 ⟨T w.params,11,(h w.params).life,Array.mk [],d,k,os⟩ (topStub PySem.Challenge.pw_steadyhand_k54_whole_papers_of_falls_hol)).map (λs=>((staticsOk (importedModules PySem.Challenge.pw_steadyhand_k54_whole_papers_of_falls_hol.main.body) (h w.params) s.abs.heap && namesBound PySem.Challenge.pw_steadyhand_k54_whole_papers_of_falls_hol s.abs.heap && gensDone s.abs && laidKept (h w.params) s.abs.heap),openSeen vw lo (importedModules PySem.Challenge.pw_steadyhand_k54_whole_papers_of_falls_hol.main.body) xt true s.abs))
noncomputable def lhs2 (T:Params->BT) (h:Params->Heap) (d:Drawn) (k:Nat) (w:World) (os:OsState):=(TT.runT treeTable PySem.Challenge.pw_steadyhand_k54_whole_papers_of_falls_hol w 11 (some (.ref 6)) 9940 ⟨T w.params,11,(h w.params).life,Array.mk [],d,k,os⟩ (topStub PySem.Challenge.pw_steadyhand_k54_whole_papers_of_falls_hol)).map (λs=>ks.map s.abs.heap.get?)
noncomputable def rhs (_:Params->Frag) (w:World) (_:OsState):=some (true,openGood vw lo)
noncomputable def rhs2 (F:Params->Frag) (w:World) (_:OsState):=some ((F w.params).map λp=>some p.2)
lay_quick lhs rhs
lay_quick lhs2 rhs2
theorem same (w:World) (os:OsState):PySem.W.Fast.tw11954607101565396058 bt boot_heap boot_drawn boot_toks w os=PySem.W.Fast.tw17616279573470954225 KK w os:=by
 kernel_rfl
theorem ql (w:World) (os:OsState):PySem.W.Fast.tw3962432200637543330 bt boot_heap boot_drawn boot_toks w os=PySem.W.Fast.tw4938291443160581935 KK w os:=by
 kernel_rfl
theorem two {α β γ δ:Type} {o:Option α} {f:α->β × γ} {g:α->δ} {b:β} {c:γ} {d:δ} (h1:o.map f=some (b,c)) (h2:o.map g=some d):o.map (λs=>((f s).1,(f s).2,g s))=some (b,c,d):=by
 cases o with
 | none=>cases h1
 | some a=>
  injection h1 with h1
  injection h2 with h2
  show some ((f a).1,(f a).2,g a)=_
  rw [h1,h2]
theorem left:LeftO rr.prog vw lo xt (kHook KK ks ke).obs (kHook KK ks ke).val 9940:=
 TT.left_is (boot_open (by kernel_rfl) (by decide) (λ_=>by kernel_rfl)) (λ_=>by kernel_rfl) (λ_=>by kernel_rfl) (λ_=>by kernel_rfl) (λ_=>by kernel_rfl)
  λw os=>two ((congrArg (λf=>f bt boot_heap boot_drawn boot_toks w os) PySem.W.Fast.te11954607101565396058).trans ((same w os).trans (congrFun (congrFun (congrFun PySem.W.Fast.te17616279573470954225 KK) w) os).symm)) ((congrArg (λf=>f bt boot_heap boot_drawn boot_toks w os) PySem.W.Fast.te3962432200637543330).trans ((ql w os).trans (congrFun (congrFun (congrFun PySem.W.Fast.te4938291443160581935 KK) w) os).symm))
end H54
namespace L2
open PySem PySem.Spec PyProof.Rows
abbrev xw:=Sum Int Str
def Jk:xw->Value->Bool
 | .inl k,v=>Value.isInt k v
 | .inr x,v=>Value.isStrOf x v
def Xr (w:World):xw->Int
 | .inl k=>hashInt k
 | .inr x=>hashStr w x
theorem uT:∀ {k:xw} {v:Value},Jk k v=true->(∃ i t,k=Sum.inl i/\v=Value.int i t)\/(∃ x t,k=Sum.inr x/\v=Value.str x t)
 | .inl i,v,h=>by
  obtain ⟨t,e⟩:=Value.isInt_shape (k:=i) (v:=v) h
  exact .inl ⟨i,t,rfl,e⟩
 | .inr x,v,h=>by
  obtain ⟨t,e⟩:=Value.isStrOf_shape (x:=x) (v:=v) h
  exact .inr ⟨x,t,rfl,e⟩
theorem zQE (a b:Int):decide ((Sum.inl a:xw)=Sum.inl b)=(a == b):=by
 by_cases e:a=b
 ·subst e; simp
 ·have h:¬ (Sum.inl a:xw)=Sum.inl b:=λq=>e (Sum.inl.inj q)
  rw [decide_eq_false h]
  exact (beq_eq_false_iff_ne.mpr e).symm
theorem zQB (a b:Str):decide ((Sum.inr a:xw)=Sum.inr b)=decide (a=b):=by
 by_cases e:a=b
 ·subst e; simp
 ·have h:¬ (Sum.inr a:xw)=Sum.inr b:=λq=>e (Sum.inr.inj q)
  rw [decide_eq_false h,decide_eq_false e]
theorem zQD (a:Int) (b:Str):decide ((Sum.inl a:xw)=Sum.inr b)=false:=decide_eq_false (λq=>nomatch q)
theorem zQC (a:Str) (b:Int):decide ((Sum.inr a:xw)=Sum.inl b)=false:=decide_eq_false (λq=>nomatch q)
def Jl (prog:Program) (w:World):PySem.KeyKind prog w xw where
 is:=Jk
 hash:=Xr w
 inj:=λv a b ha hb=>by
  rcases uT ha with ⟨i,t,rfl,rfl⟩ | ⟨x,t,rfl,rfl⟩
  ·rcases uT hb with ⟨j,u,rfl,e⟩ | ⟨y,u,rfl,e⟩
   ·injection e with e1 _; rw [e1]
   ·exact nomatch e
  ·rcases uT hb with ⟨j,u,rfl,e⟩ | ⟨y,u,rfl,e⟩
   ·exact nomatch e
   ·injection e with e1 _; rw [e1]
 byValue:=λk v h=>by
  rcases uT h with ⟨i,t,rfl,rfl⟩ | ⟨x,t,rfl,rfl⟩ <;> rfl
 pyHash:=λhv h=>by
  rcases uT hv with ⟨i,t,rfl,rfl⟩ | ⟨x,t,rfl,rfl⟩
  ·exact wpAny_pyHash_int h
  ·exact wpAny_pyHash_str h
 eqBool:=λhu hv h=>by
  rcases uT hu with ⟨i,t,rfl,rfl⟩ | ⟨x,t,rfl,rfl⟩
  ·rcases uT hv with ⟨j,u,rfl,rfl⟩ | ⟨y,u,rfl,rfl⟩
   ·rw [zQE] at h; exact wpAny_eqBool_int h
   ·rw [zQD] at h; exact SeqAt.EqAt.int_str i t y u _ _ _ _ h
  ·rcases uT hv with ⟨j,u,rfl,rfl⟩ | ⟨y,u,rfl,rfl⟩
   ·rw [zQC] at h; exact SeqAt.EqAt.str_int x t j u _ _ _ _ h
   ·rw [zQB] at h; exact wpAny_eqBool_str h
 «strs»:=λk x t v h=>by
  rcases uT h with ⟨i,u,rfl,e⟩ | ⟨y,u,rfl,e⟩
  ·exact nomatch e
  ·injection e with e1 _
   subst e1
   cases v <;> rfl
end L2
namespace L2
open PySem PySem.Spec PyProof.Rows
inductive V where
 | non | bl (b:Bool) | int (i:Int) | str (x:Str) | byt (b:Array UInt8) | flt (b:UInt64) | ref (a:Addr) | ty (n:String)
 deriving DecidableEq
def zR:V->Value->Prop
 | .non,u=>u=Value.none
 | .bl b,u=>u=Value.bool b
 | .int i,u=>∃ t,u=Value.int i t
 | .str x,u=>∃ t,u=Value.str x t
 | .byt b,u=>∃ t,u=Value.bytes b t
 | .flt b,u=>∃ t,u=Value.float b t
 | .ref a,u=>u=Value.ref a
 | .ty n,u=>u=Value.type n
abbrev zL:List V->List Value->Prop:=Paired zR
theorem zL.length {xs:List V} {us:List Value} (r:zL xs us):xs.length=us.length:=Paired.length r
theorem zL.get:∀ {xs:List V} {us:List Value} {i:Nat} {x:V},zL xs us->xs[i]? = some x->∃ u,us[i]? = some u/\zR x u
 | _,_,_,_,.nil,e=>by simp at e
 | _,_,0,_,.cons r _,e=>by simp at e; subst e; exact ⟨_,rfl,r⟩
 | _,_,i + 1,x,.cons _ t,e=>by
  obtain ⟨u,h1,h2⟩:=zL.get (i:=i) (x:=x) t (by simpa using e)
  exact ⟨u,by simpa using h1,h2⟩
theorem zL.set {x:V} {u:Value} (r:zR x u):∀ {xs:List V} {us:List Value} (i:Nat),zL xs us->zL (xs.set i x) (us.set i u)
 | _,_,_,.nil=>.nil
 | _,_,0,.cons _ t=>.cons r t
 | _,_,i + 1,.cons q t=>.cons q (zL.set r i t)
theorem zL.append:∀ {xs ys:List V} {us ws:List Value},zL xs us->zL ys ws->zL (xs++ys) (us++ws)
 | _,_,_,_,.nil,s=>s
 | _,_,_,_,.cons r t,s=>.cons r (zL.append t s)
theorem zL.take:∀ {xs:List V} {us:List Value} (n:Nat),zL xs us->zL (xs.take n) (us.take n)
 | _,_,0,_=>.nil
 | _,_,_ + 1,.nil=>.nil
 | _,_,n + 1,.cons r t=>.cons r (zL.take n t)
theorem zL.drop:∀ {xs:List V} {us:List Value} (n:Nat),zL xs us->zL (xs.drop n) (us.drop n)
 | _,_,0,r=>r
 | _,_,_ + 1,.nil=>.nil
 | _,_,n + 1,.cons _ t=>zL.drop n t
def xa:Option V->Option Value->Prop
 | some v,some u=>zR v u
 | none,none=>True
 | _,_=>False
def KV {κ:Type}:List (κ × V)->List (κ × Value)->Prop:=Paired λ(p:κ × V) (q:κ × Value)=>p.1=q.1/\zR p.2 q.2
def kV:xw->V
 | .inl i=>.int i
 | .inr x=>.str x
inductive HO where
 | lst (xs:List V)
 | tup (xs:List V)
 | dK (kvs:List (xw × V)) | dT (kvs:List (List xw × V))
 | set (S:Int->Bool) (n:Nat)
 | ins (C dx:Addr) (fs:List (Str × V))
 | own (x:Addr)
 | xd (fs:List (Str × V))
 | met (f x:Addr)
 | rng (lo hi:Int)
 | frz (o:Obj) (u:HO)
 | tbl (ps:Array Value)
 | ext (φ:Heap->Prop)
abbrev Hp:=Addr->Option HO
def zZ (H:Hp) (a:Addr) (o:HO):Hp:=λb=>if b=a then some o else H b
theorem wQ {H:Hp} {a:Addr} {o:HO}:zZ H a o a=some o:=by unfold zZ; rw [if_pos rfl]
theorem zt {H:Hp} {a b:Addr} {o:HO} (h:b≠a):zZ H a o b=H b:=by unfold zZ; rw [if_neg h]
theorem wR {H:Hp} {a b:Addr} {o:HO} (h:H a=some o) (h':H b=none):a≠b:=by
 intro e; subst e; rw [h] at h'; cases h'
section
variable (P:Program) (w:World)
def xx (H:Hp) (h:Heap) (a:Addr):HO->Prop
 | .lst xs=>xs.length<=sizeLine/\∃ (its:List Value) (n:Nat),zL xs its/\h.get? a=some { cls:=.type "list",data:=.seq its.toArray n }
 | .tup xs=>xs.length<=sizeLine/\∃ its:List Value,zL xs its/\IsTup h a its.toArray
 | .dK kvs=>kvs.length<=sizeLine/\(a == sysModules)=false/\∃ vs,KV kvs vs/\h.DictOf (Jl P w) a vs
 | .dT kvs=>kvs.length<=sizeLine/\(a == sysModules)=false/\∃ xs:List (List xw × Addr × Value),
   Paired (λ(p:List xw × V) (q:List xw × Addr × Value)=>p.1=q.1/\H q.2.1=some (.tup (p.1.map kV))/\zR p.2 q.2.2) kvs xs∧
   ∃ o es ep,h.get? a=some o/\o.ExactDict/\o.data=.dict es ep/\es.toList=xs.map (entryOfKey (tupleKind (Jl P w)))/\(xs.map (·.1)).Nodup
 | .set S n=>h.SetOf (intKind P w) a S n
 | .ins C dx fs=>H dx=some (.own a)/\fs.length<=1000/\dx≠a/\h.get? a=some (PySem.W.instObj C dx)∧
   ∃ mA,h.Ns1 dx mA/\(∀ f,xa (fs.lookup f) (mA f))/\PySem.Within mA (fs.map (·.1))
 | .own _=>∃ o,h.get? a=some o
 | .xd fs=>∃ mA,h.Ns1 a mA/\∀ f,xa (fs.lookup f) (mA f)
 | .rng lo hi=>∃ t u v,h.get? a=some { cls:=.type "range",data:=.fields #[.int lo t,.int hi u,.int 1 v] }
 | .frz o u=>h.get? a=some o/\xx H h a u
 | .tbl ps=>h.get? a=some { cls:=.none,data:=.fields ps }
 | .met f x=>h.get? a=some (PySem.W.methodObj (.ref f) (.ref x))
 | .ext φ=>φ h/\(∃ o,h.get? a=some o)/\∀ h1 h2:Heap,φ h1->(∀ o,h1.get? a=some o->h2.get? a=some o)->φ h2
def xF (H:Hp) (h:Heap):Prop:=∀ a o,H a=some o->xx P w H h a o
end
section
variable {P:Program} {w:World} {H H':Hp} {h h':Heap} {a:Addr} {o:HO}
theorem xx.lt (x:xx P w H h a o):a < h.objs.size:=by
 cases o with
 | lst xs=>obtain ⟨_,_,_,_,e⟩:=x; exact Heap.lt_size e
 | tup xs=>obtain ⟨_,_,_,p⟩:=x; exact p.lt
 | dK kvs=>obtain ⟨_,_,_,_,o,_,_,e,_⟩:=x; exact Heap.lt_size e
 | dT kvs=>obtain ⟨_,_,_,_,o,_,_,e,_⟩:=x; exact Heap.lt_size e
 | set S n=>obtain ⟨o,_,_,_,e,_⟩:=x; exact Heap.lt_size e
 | ins C dx fs=>obtain ⟨_,_,_,e,_⟩:=x; exact Heap.lt_size e
 | own y=>obtain ⟨_,e⟩:=x; exact Heap.lt_size e
 | xd fs=>obtain ⟨_,⟨_,_,_,e,_⟩,_⟩:=x; exact Heap.lt_size e
 | rng lo hi=>obtain ⟨_,_,_,e⟩:=x; exact Heap.lt_size e
 | frz ob u=>obtain ⟨e,_⟩:=x; exact Heap.lt_size e
 | tbl ps=>exact Heap.lt_size (show h.get? a=some _ from x)
 | met f y=>exact Heap.lt_size (show h.get? a=some _ from x)
 | ext φ=>obtain ⟨_,⟨_,e⟩,_⟩:=x; exact Heap.lt_size e
theorem Paired.mapP {α β:Type} {F G:α->β->Prop}:∀ {l₁:List α} {l₂:List β},Paired F l₁ l₂->(∀ a b,F a b->G a b)->Paired G l₁ l₂
 | _,_,.nil,_=>.nil
 | _,_,.cons r t,f=>.cons (f _ _ r) (Paired.mapP t f)
theorem xx.stay (x:xx P w H h a o) (k:∀ b u,(b=a\/H b=some (.own a))->h.get? b=some u->h'.get? b=some u)
  (ho:∀ b,H b=some (.own a)->H' b=some (.own a)) (ht:∀ b xs,H b=some (.tup xs)->H' b=some (.tup xs)):xx P w H' h' a o:=by
 induction o with
 | lst xs=>obtain ⟨z,its,n,r,e⟩:=x; exact ⟨z,its,n,r,k _ _ (.inl rfl) e⟩
 | tup xs=>obtain ⟨z,its,r,ob,e,c⟩:=x; exact ⟨z,its,r,ob,k _ _ (.inl rfl) e,c⟩
 | dK kvs=>obtain ⟨z,y,vs,r,ob,es,ep,e,c⟩:=x; exact ⟨z,y,vs,r,ob,es,ep,k _ _ (.inl rfl) e,c⟩
 | dT kvs=>
  obtain ⟨z,y,xs,r,ob,es,ep,e,c⟩:=x
  exact ⟨z,y,xs,Paired.mapP r λp q z=>⟨z.1,ht _ _ z.2.1,z.2.2⟩,ob,es,ep,k _ _ (.inl rfl) e,c⟩
 | set S n=>obtain ⟨ob,es,ep,t,e,c⟩:=x; exact ⟨ob,es,ep,t,k _ _ (.inl rfl) e,c⟩
 | ins C dx fs=>
  obtain ⟨d,z,ne,e,mA,⟨od,es,ep,e2,c⟩,r⟩:=x
  exact ⟨ho _ d,z,ne,k _ _ (.inl rfl) e,mA,⟨od,es,ep,k _ _ (.inr d) e2,c⟩,r⟩
 | own y=>obtain ⟨ob,e⟩:=x; exact ⟨ob,k _ _ (.inl rfl) e⟩
 | xd fs=>obtain ⟨mA,⟨od,es,ep,e,c⟩,r⟩:=x; exact ⟨mA,⟨od,es,ep,k _ _ (.inl rfl) e,c⟩,r⟩
 | rng lo hi=>obtain ⟨t,u,v,e⟩:=x; exact ⟨t,u,v,k _ _ (.inl rfl) e⟩
 | frz ob u ih=>obtain ⟨e,q⟩:=x; exact ⟨k _ _ (.inl rfl) e,ih q⟩
 | tbl ps=>
  have e:h.get? a=some { cls:=.none,data:=.fields ps }:=x
  show h'.get? a=some { cls:=.none,data:=.fields ps }
  exact k a _ (.inl rfl) e
 | met f y=>
  have e:h.get? a=some (PySem.W.methodObj (.ref f) (.ref y)):=x
  show h'.get? a=some (PySem.W.methodObj (.ref f) (.ref y))
  exact k a _ (.inl rfl) e
 | ext φ=>obtain ⟨p,⟨o,e⟩,st⟩:=x; exact ⟨st _ _ p λo q=>k _ _ (.inl rfl) q,⟨o,k _ _ (.inl rfl) e⟩,st⟩
theorem xF.lt (x:xF P w H h) (e:H a=some o):a < h.objs.size:=(x a o e).lt
theorem xF.fresh (x:xF P w H h) (e:h.objs.size<=a):H a=none:=by
 cases q:H a with
 | none=>rfl
 | some u=>exact absurd (Nat.lt_of_lt_of_le (x.lt q) e) (Nat.lt_irrefl _)
theorem xF.kept (x:xF P w H h) (k:∀ b u,h.get? b=some u->h'.get? b=some u):xF P w H h':=λa o e=>
 (x a o e).stay (λb u _ q=>k b u q) (λ_ q=>q) λ_ _ q=>q
theorem xF.laid (x:xF P w H h) (k:∀ b u,h.get? b=some u->h'.get? b=some u) (hp:h.objs.size<=a) (new:xx P w (zZ H a o) h' a o):xF P w (zZ H a o) h':=λb u e=>by
 have hn:=x.fresh hp
 by_cases hb:b=a
 ·subst hb; rw [wQ] at e; cases e; exact new
 ·rw [zt hb] at e
  exact (x b u e).stay (λc v _ q=>k c v q) (λc q=>by rw [zt (wR q hn)]; exact q) λc xs q=>by rw [zt (wR q hn)]; exact q
end
def Rd (H:Hp) (a:Addr) (u:HO):Prop:=H a=some u\/∃ o,H a=some (.frz o u)
theorem Rd.ok {P:Program} {w:World} {H:Hp} {h:Heap} {a:Addr} {u:HO} (r:Rd H a u) (x:xF P w H h):xx P w H h a u:=by
 rcases r with r | ⟨o,r⟩
 ·exact x a u r
 ·obtain ⟨_,q⟩:=x a _ r
  exact q
def Zx:Option HO->Prop
 | some (.lst _)=>True
 | some (.dK _)=>True
 | some (.dT _)=>True
 | some (.set _ _)=>True
 | some (.ins _ _ _)=>True
 | some (.ext _)=>True
 | _=>False
section
variable {P:Program} {w:World} {H:Hp} {h h':Heap} {x e:Addr} {o':HO}
theorem xF.write (ok:xF P w H h) (mu:Zx (H x)) (he:e=x\/H e=some (.own x)) (k:∀ b u,b≠e->h.get? b=some u->h'.get? b=some u) (heo:∃ u,h'.get? e=some u)
  (new:xx P w (zZ H x o') h' x o'):xF P w (zZ H x o') h':=λb u q=>by
 have nown:∀ c y,H c=some (.own y)->c≠x:=λc y r z=>by subst z; rw [r] at mu; exact mu
 have ntup:∀ c xs,H c=some (.tup xs)->c≠x:=λc xs r z=>by subst z; rw [r] at mu; exact mu
 by_cases hb:b=x
 ·subst hb; rw [wQ] at q; cases q; exact new
 ·rw [zt hb] at q
  by_cases hbe:b=e
  ·have q':H b=some (.own x):=by
    rcases he with z | z
    ·exact absurd (hbe.trans z) hb
    ·rw [hbe]; exact z
   rw [q] at q'; cases q'
   obtain ⟨v,hv⟩:=heo
   exact ⟨v,by rw [hbe]; exact hv⟩
  ·refine (ok b u q).stay (λc v hc r=>k c v ?_ r) (λc r=>by rw [zt (nown c b r)]; exact r) λc xs r=>by rw [zt (ntup c xs r)]; exact r
   rcases hc with rfl | hc
   ·exact hbe
   ·rintro rfl
    rcases he with z | z
    ·exact nown c b hc z
    ·rw [hc] at z; cases z; exact hb rfl
end
structure Un (fs ex:List Addr) (H H':Hp) (h h':Heap):Prop where
 keep:∀ b o,h.get? b=some o->H b=none->b∉fs->b∉ex->h'.get? b=some o
 slot:∀ b o,h.get? b=some o->H b=none->b∈fs->b∉ex->∃ sl,h'.get? b=some { o with slots:=sl }
 free:∀ b o,h.get? b=some o->H b=none->b∉ex->H' b=none
 there:∀ b o,h.get? b=some o->b∉ex->∃ o',h'.get? b=some o'
 tups:∀ b xs,H b=some (.tup xs)->H' b=some (.tup xs)
 frzs:∀ b o u,H b=some (.frz o u)->H' b=some (.frz o u)
 tbls:∀ b ps,H b=some (.tbl ps)->∃ more,H' b=some (.tbl (ps++more))
section
variable {fs fs' ex ex':List Addr} {H H1 H2:Hp} {h h1 h2 h':Heap} {a x e:Addr} {o:HO}
theorem Un.any (u:Un fs ex H H1 h h1) {b:Addr} {ob:Obj} (q:h.get? b=some ob) (n:H b=none) (hx:b∉ex):∃ sl,h1.get? b=some { ob with slots:=sl }:=by
 by_cases hb:b∈fs
 ·exact u.slot b ob q n hb hx
 ·exact ⟨ob.slots,u.keep b ob q n hb hx⟩
theorem Un.kept (k:∀ b u,h.get? b=some u->h'.get? b=some u):Un fs ex H H h h':=
 ⟨λb ob q _ _ _=>k b ob q,λb ob q _ _ _=>⟨ob.slots,k b ob q⟩,λ_ _ _ n _=>n,λb ob q _=>⟨ob,k b ob q⟩,λ_ _ q=>q,λ_ _ _ q=>q,λ_ ps q=>⟨#[],by rw [q]; simp⟩⟩
theorem Un.refl:Un fs ex H H h h:=Un.kept λ_ _ q=>q
theorem Un.laid (k:∀ b u,h.get? b=some u->h'.get? b=some u) (hp:h.objs.size<=a) (hn:H a=none):Un fs ex H (zZ H a o) h h' where
 keep:=λb u q _ _ _=>k b u q
 slot:=λb u q _ _ _=>⟨u.slots,k b u q⟩
 free:=λb u q n _=>by rw [zt (Nat.ne_of_lt (Nat.lt_of_lt_of_le (Heap.lt_size q) hp))]; exact n
 there:=λb u q _=>⟨u,k b u q⟩
 tups:=λb xs q=>by rw [zt (wR q hn)]; exact q
 frzs:=λb u xs q=>by rw [zt (wR q hn)]; exact q
 tbls:=λb ps q=>⟨#[],by rw [zt (wR q hn),q]; simp⟩
theorem Un.write (mu:Zx (H x)) (he:e=x\/H e=some (.own x)) (k:∀ b u,b≠e->h.get? b=some u->h'.get? b=some u) (heo:∃ u,h'.get? e=some u):Un fs ex H (zZ H x o) h h':=by
 have hx:∀ b,H b=none->b≠x:=λb n z=>by subst z; rw [n] at mu; exact mu
 have hb:∀ b,H b=none->b≠e:=λb n z=>by
  subst z
  rcases he with r | r
  ·exact hx b n r
  ·rw [n] at r; cases r
 have hm:∀ b u,H b=some u->¬ Zx (some u)->b≠x:=λb u q nm z=>by subst z; rw [q] at mu; exact nm mu
 refine ⟨λb u q n _ _=>k b u (hb b n) q,λb u q n _ _=>⟨u.slots,k b u (hb b n) q⟩,λb u q n _=>by rw [zt (hx b n)]; exact n,λb u q _=>?_,
  λb xs q=>by rw [zt (hm b _ q λz=>z)]; exact q,λb u xs q=>by rw [zt (hm b _ q λz=>z)]; exact q,λb ps q=>⟨#[],by rw [zt (hm b _ q λz=>z),q]; simp⟩⟩
 by_cases hbe:b=e
 ·subst hbe; exact heo
 ·exact ⟨u,k b u hbe q⟩
end
def uJ (h:Heap) (H:Hp):List Addr:=(List.range h.objs.size).filter λa=>(H a).isSome
def wE (h:Heap) (H:Hp):Heap:=PySem.W.hideAll h (uJ h H)
theorem zLH (h:Heap) (H:Hp):(wE h H).objs.size=h.objs.size:=PySem.W.hideAll_size _ _
theorem zM9 {h:Heap} {H:Hp} {b:Addr} {o:Obj} (e:h.get? b=some o) (n:H b=none):(wE h H).get? b=some o:=
 PySem.W.hideAll_get _ e λhm=>by
  have q:(H b).isSome=true:=(List.mem_filter.mp hm).2
  rw [n] at q; simp at q
theorem zOV {h:Heap} {H:Hp} {b:Addr} {o:Obj} (e:(wE h H).get? b=some o):h.get? b=some o/\H b=none:=by
 have e':h.get? b=some o:=PySem.W.of_hideAll (uJ h H) e
 refine ⟨e',?_⟩
 cases q:H b with
 | none=>rfl
 | some x=>
  have hm:b∈uJ h H:=List.mem_filter.mpr ⟨List.mem_range.mpr (Heap.lt_size e'),by simp [q]⟩
  have z:(wE h H).get? b=none:=PySem.W.hideAll_none (uJ h H) hm
  rw [z] at e; cases e
def zOv (g h:Heap) (L:Addr):List (Addr × Obj):=(List.range h.objs.size).filterMap λa=>if a=L\/(g.get? a).isSome=true then none else (h.get? a).map λo=>(a,o)
def yX (g h:Heap) (L d:Addr):List (Addr × Obj):=(zOv g h L).filter λp=>decide (p.1≠d)
end L2
namespace L2
open PySem PySem.Spec PyProof.Rows
structure Mod (K:PySem.W.Frag) (mg:Str->Option Value) (base:Heap):Prop where
 kin:K.In base
 glob:base.Ns mainGlobals mg
 blt:∃ mb,base.Ns builtinsNs mb/\∀ x:Str,x≠"__name__"->mb x=bootBuiltins x
 nolimit:base.NoLimit
structure Cx where
 prog:Program
 w:World
 K:PySem.W.Frag
 mg:Str->Option Value
 base:Heap
 A:Around
 N:List Str
 s₀:Shared
 H₀:Hp
 env:Env
 outer:List Env
 stack:List Env
 ex:List Addr
 fn:Str->Bool
 calm:Bool
 pn:List (Addr × Obj)
 xe:Value->Shared->Prop
def wj (l:List Env):List Addr:=l.filterMap (·.frame)
abbrev Cx.fs (X:Cx):List Addr:=wj X.outer
def jM (sc:Scope) (x:Str):Prop:=sc.names.lookup x=some .local\/sc.names.lookup x=some .cell\/sc.names.lookup x=some .free
def uv (sc:Scope) (x:Str):Prop:=sc.names.lookup x=some .local\/sc.names.lookup x=some .cell
def Xs (env:Env) (h:Heap) (m:Str->Option Value) (x:Str) (u:Value):Prop:=
 (env.kindOf x=some .local/\m x=some u)\/((env.kindOf x=some .cell\/env.kindOf x=some .free)/\∃ c,env.cells.lookup x=some c/\h.IsCell c (some u))
structure Cx.Ok (X:Cx):Prop where
 mod:Mod X.K X.mg X.base
 kind:X.env.scope.kind=.function
 glob:X.env.globals=mainGlobals
 blt:X.env.builtins=builtinsNs
 above:X.s₀.heap.objs.size<=X.env.locals
 inj:∀ x y c,X.env.cells.lookup x=some c->X.env.cells.lookup y=some c->x=y
 has:∀ x,(X.env.kindOf x=some .cell\/X.env.kindOf x=some .free)->∃ c,X.env.cells.lookup x=some c
 cab:∀ x c,X.fn x=true->X.env.cells.lookup x=some c->X.s₀.heap.objs.size<=c
 hd:X.calm=true->X.A.handled=none
 frames:X.A.frames=some X.stack
 stk:X.stack=X.outer\/(X.stack=X.env :: X.outer/\X.env.frame=some X.env.locals)
 exf:∀ b∈X.ex,b≠X.env.locals/\∀ x c,X.env.cells.lookup x=some c->c≠b
 bs:∀ b o,X.base.get? b=some o->X.s₀.heap.get? b=some o/\X.H₀ b=none
 bsz:X.base.objs.size<=X.s₀.heap.objs.size
 noex:∀ b o,X.base.get? b=some o->b∉X.ex
 exfs:∀ b∈X.ex,b∉X.fs
 funs:X.s₀.heap.FunFrames X.base X.outer
 frf:∀ b∈X.fs,X.H₀ b=none
structure zG (X:Cx) (pins:List (Addr × Obj)) (σ:List (Option V)) (H:Hp) (s:Shared):Prop where
 ok:X.Ok
 os:s.os=X.s₀.os
 bare:AllBare s.gens
 base:Un X.fs X.ex X.H₀ H X.s₀.heap s.heap
 loc:∃ m,s.heap.Ns X.env.locals m/\∀ (i:Nat) (x:Str) (v:V),X.N[i]? = some x->σ[i]? = some (some v)->jM X.env.scope x->∃ u,zR v u/\Xs X.env s.heap m x u
 cell:∀ x c,X.env.cells.lookup x=some c->∃ v,s.heap.IsCell c v
 free:H X.env.locals=none
 freeC:∀ x c,X.env.cells.lookup x=some c->H c=none
 pin:∀ p∈X.pn++pins,s.heap.get? p.1=some p.2/\H p.1=none/\p.1≠X.env.locals/\p.1∉X.fs/\∀ v,p.2.data≠.cell v
 hok:xF X.prog X.w H s.heap
 len:σ.length=X.N.length
section
variable {X:Cx} {pins:List (Addr × Obj)} {σ:List (Option V)} {H H':Hp} {s:Shared} {h':Heap}
theorem Cx.Ok.nofr (ok:X.Ok) {b:Addr} {o:Obj} (e:X.base.get? b=some o):b∉X.fs:=λhb=>by
 have:=(ok.funs.mem hb).1
 rw [e] at this; cases this
theorem zG.bs (I:zG X pins σ H s):∀ b o,X.base.get? b=some o->s.heap.get? b=some o/\H b=none:=λb o e=>
 ⟨I.base.keep b o (I.ok.bs b o e).1 (I.ok.bs b o e).2 (I.ok.nofr e) (I.ok.noex b o e),I.base.free b o (I.ok.bs b o e).1 (I.ok.bs b o e).2 (I.ok.noex b o e)⟩
theorem zG.bk (I:zG X pins σ H s):∀ b o,X.base.get? b=some o->s.heap.get? b=some o:=λb o e=>(I.bs b o e).1
theorem zG.mod (I:zG X pins σ H s):Mod X.K X.mg X.base:=I.ok.mod
theorem zG.kIn (I:zG X pins σ H s):X.K.In s.heap:=I.ok.mod.kin.keeps I.bk
theorem zG.lt (I:zG X pins σ H s):X.env.locals < s.heap.objs.size:=let ⟨_,hn,_⟩:=I.loc; hn.lt
theorem zG.sz (I:zG X pins σ H s):X.s₀.heap.objs.size<=s.heap.objs.size:=Nat.le_trans I.ok.above (Nat.le_of_lt I.lt)
theorem zG.nofs (I:zG X pins σ H s) {a:Addr} (h:s.heap.objs.size<=a):a∉X.fs:=λhb=>by
 obtain ⟨_,o,ho,_⟩:=I.ok.funs.mem hb
 exact absurd (Nat.lt_of_lt_of_le (Heap.lt_size ho) (Nat.le_trans I.sz h)) (Nat.lt_irrefl _)
theorem zG.cne (I:zG X pins σ H s):∀ x c,X.env.cells.lookup x=some c->c≠X.env.locals:=λx c e z=>by
 obtain ⟨v,o,ho,hd⟩:=I.cell x c e
 obtain ⟨m,⟨o',es,ep,ho',hd',_⟩,_⟩:=I.loc
 rw [z,ho'] at ho; cases ho; rw [hd'] at hd; cases hd
theorem zG.funs (I:zG X pins σ H s):s.heap.FunFrames X.base X.outer:=by
 have all:∀ (l:List Env),(∀ b∈wj l,b∈X.fs)->X.s₀.heap.FunFrames X.base l->s.heap.FunFrames X.base l:=by
  intro l
  induction l with
  | nil=>intro _ _; trivial
  | cons env r ih=>
   intro hs hl
   obtain ⟨hk,⟨L,o,hf,hn,ho,hd⟩,hr⟩:=hl
   have hL:L∈X.fs:=hs L (by unfold wj; rw [List.filterMap_cons,hf]; exact List.mem_cons_self)
   obtain ⟨sl,e⟩:=I.base.slot L o ho (I.ok.frf L hL) hL λz=>I.ok.exfs L z hL
   exact ⟨hk,⟨L,_,hf,hn,e,hd⟩,ih (λb hb=>hs b (by unfold wj; rw [List.filterMap_cons,hf]; exact List.mem_cons_of_mem _ hb)) hr⟩
 exact all X.outer (λ_ hb=>hb) I.ok.funs
theorem zG.stack (I:zG X pins σ H s):s.heap.FunFrames X.base X.stack:=by
 rcases I.ok.stk with e | ⟨e,hf⟩
 ·rw [e]; exact I.funs
 ·rw [e]
  obtain ⟨m,hn,_⟩:=I.loc
  refine .cons (by rw [I.ok.kind]; decide) hf hn ?_ I.funs
  exact Heap.get?_none_of_le (Nat.le_trans I.ok.bsz I.ok.above)
theorem zG.stkSub (I:zG X pins σ H s):∀ b∈wj X.stack,b∈X.env.locals :: X.fs:=λb hb=>by
 rcases I.ok.stk with e | ⟨e,hf⟩
 ·rw [e] at hb; exact List.mem_cons_of_mem _ hb
 ·rw [e] at hb
  unfold wj at hb
  rw [List.filterMap_cons,hf] at hb
  exact hb
theorem zG.stkFree (I:zG X pins σ H s):∀ b∈wj X.stack,H b=none:=λb hb=>by
 rcases List.mem_cons.mp (I.stkSub b hb) with e | hb
 ·rw [e]; exact I.free
 ·obtain ⟨_,o,ho,_⟩:=I.ok.funs.mem hb
  exact I.base.free b o ho (I.ok.frf b hb) λz=>I.ok.exfs b z hb
theorem zG.step {g':Array GenState} {t':Nat} {d':Drawn} {ch:List Addr} (I:zG X pins σ H s)
  (hch:∀ b∈ch,(b∈X.ex\/X.s₀.heap.objs.size<=b)/\b≠X.env.locals/\(∀ x c,X.env.cells.lookup x=some c->c≠b)/\∀ p∈X.pn++pins,p.1≠b)
  (keep:∀ b o,b≠X.env.locals->b∉X.fs->b∉ch->s.heap.get? b=some o->H b=none->h'.get? b=some o)
  (slot:∀ b o,b≠X.env.locals->b∈X.fs->b∉ch->s.heap.get? b=some o->H b=none->∃ sl,h'.get? b=some { o with slots:=sl }) (free:∀ b o,b∉ch->s.heap.get? b=some o->H b=none->H' b=none)
  (there:∀ b o,b∉ch->s.heap.get? b=some o->∃ o',h'.get? b=some o')
  (tups:∀ b xs,H b=some (.tup xs)->H' b=some (.tup xs)) (frzs:∀ b o u,H b=some (.frz o u)->H' b=some (.frz o u)) (tbls:∀ b ps,H b=some (.tbl ps)->∃ more,H' b=some (.tbl (ps++more)))
  (ns:∀ m,s.heap.Ns X.env.locals m->h'.Ns X.env.locals m) (hok:xF X.prog X.w H' h') (hg:AllBare g') :
  zG X pins σ H' { s with heap:=h',gens:=g',drawn:=d',toks:=t' }:=by
 have neL:∀ b o,X.s₀.heap.get? b=some o->b≠X.env.locals:=λb o e=>Nat.ne_of_lt (Nat.lt_of_lt_of_le (Heap.lt_size e) I.ok.above)
 have neC:∀ b o,X.s₀.heap.get? b=some o->b∉X.ex->b∉ch:=λb o e hx hb=>by
  rcases (hch b hb).1 with z | z
  ·exact hx z
  ·exact absurd (Nat.lt_of_lt_of_le (Heap.lt_size e) z) (Nat.lt_irrefl _)
 have cellK:∀ x c,X.env.cells.lookup x=some c->∀ v,s.heap.IsCell c v->h'.IsCell c v:=λx c e v ⟨o,ho,hd⟩=>by
  have nch:c∉ch:=λz=>(hch c z).2.2.1 x c e rfl
  by_cases hc:c∈X.fs
  ·obtain ⟨sl,q⟩:=slot c o (I.cne x c e) hc nch ho (I.freeC x c e)
   exact ⟨_,q,hd⟩
  ·exact ⟨o,keep c o (I.cne x c e) hc nch ho (I.freeC x c e),hd⟩
 refine ⟨I.ok,I.os,hg,⟨λb o e n hb hx=>?_,λb o e n hb hx=>?_,λb o e n hx=>?_,λb o e hx=>?_,λb xs e=>tups b xs (I.base.tups b xs e),λb o xs e=>frzs b o xs (I.base.frzs b o xs e),λb ps e=>?_⟩,?_,λx c e=>?_,?_,λx c e=>?_,λp hp=>?_,hok,I.len⟩
 ·exact keep b o (neL b o e) hb (neC b o e hx) (I.base.keep b o e n hb hx) (I.base.free b o e n hx)
 ·obtain ⟨sl,e1⟩:=I.base.slot b o e n hb hx
  obtain ⟨sl',e2⟩:=slot b _ (neL b o e) hb (neC b o e hx) e1 (I.base.free b o e n hx)
  exact ⟨sl',e2⟩
 ·obtain ⟨o',e1⟩:=I.base.there b o e hx
  exact free b o' (neC b o e hx) e1 (I.base.free b o e n hx)
 ·obtain ⟨o',e1⟩:=I.base.there b o e hx
  exact there b o' (neC b o e hx) e1
 ·obtain ⟨m1,e1⟩:=I.base.tbls b ps e
  obtain ⟨m2,e2⟩:=tbls b _ e1
  exact ⟨m1++m2,by rw [e2,Array.append_assoc]⟩
 ·obtain ⟨m,hn,hl⟩:=I.loc
  refine ⟨m,ns m hn,λi x v e1 e2 e3=>?_⟩
  obtain ⟨u,r,l⟩:=hl i x v e1 e2 e3
  refine ⟨u,r,?_⟩
  rcases l with l | ⟨k,c,e,z⟩
  ·exact .inl l
  ·exact .inr ⟨k,c,e,cellK x c e _ z⟩
 ·obtain ⟨v,z⟩:=I.cell x c e
  exact ⟨v,cellK x c e v z⟩
 ·obtain ⟨m,⟨o,_,_,ho,_⟩,_⟩:=I.loc
  exact free _ o (λz=>(hch _ z).2.1 rfl) ho I.free
 ·obtain ⟨v,o,ho,hd⟩:=I.cell x c e
  exact free c o (λz=>(hch c z).2.2.1 x c e rfl) ho (I.freeC x c e)
 ·obtain ⟨e,n,ne,nf,d⟩:=I.pin p hp
  have nch:p.1∉ch:=λz=>(hch p.1 z).2.2.2 p hp rfl
  exact ⟨keep p.1 p.2 ne nf nch e n,free p.1 p.2 nch e n,ne,nf,d⟩
theorem zG.un {t':Nat} (I:zG X pins σ H s) (u:Un X.fs [] H H' s.heap h') (hok:xF X.prog X.w H' h'):zG X pins σ H' { s with heap:=h',toks:=t' }:=by
 obtain ⟨m,⟨o,es,ep,ho,r⟩,_⟩:=id I.loc
 obtain ⟨sl,hL⟩:=u.any ho I.free (by simp)
 exact I.step (g':=s.gens) (d':=s.drawn) (ch:=[]) (λ_ z=>nomatch z) (λb o _ hb _ e n=>u.keep b o e n hb (by simp)) (λb o _ hb _ e n=>u.slot b o e n hb (by simp)) (λb o _ e n=>u.free b o e n (by simp)) (λb o _ e=>u.there b o e (by simp)) u.tups u.frzs u.tbls (λm' hm=>by
  obtain ⟨o',es',ep',ho',r'⟩:=hm
  rw [ho] at ho'; cases ho'
  exact ⟨_,es',ep',hL,r'⟩) hok I.bare
theorem zG.call {g':Array GenState} {t':Nat} {d':Drawn} {ch:List Addr} (I:zG X pins σ H s) (u:Un (wj X.stack) ch H H' s.heap h') (hok:xF X.prog X.w H' h') (hg:AllBare g')
  (hch:∀ b∈ch,(b∈X.ex\/X.s₀.heap.objs.size<=b)/\b≠X.env.locals/\(∀ x c,X.env.cells.lookup x=some c->c≠b)/\∀ p∈X.pn++pins,p.1≠b) :
  zG X pins σ H' { s with heap:=h',gens:=g',drawn:=d',toks:=t' }:=by
 obtain ⟨m,⟨o,es,ep,ho,r⟩,_⟩:=id I.loc
 obtain ⟨sl,hL⟩:=u.any ho I.free λz=>(hch _ z).2.1 rfl
 exact I.step (ch:=ch) hch (λb o hL hb hc e n=>u.keep b o e n (λz=>(List.mem_cons.mp (I.stkSub b z)).elim hL hb) hc) (λb o _ _ hc e n=>u.any e n hc) (λb o hc e n=>u.free b o e n hc) (λb o hc e=>u.there b o e hc) u.tups u.frzs u.tbls (λm' hm=>by
  obtain ⟨o',es',ep',ho',r'⟩:=hm
  rw [ho] at ho'; cases ho'
  exact ⟨_,es',ep',hL,r'⟩) hok hg
theorem zG.turned {t':Nat} {it:Addr} (I:zG X pins σ H s) (k:∀ b o,b≠it->s.heap.get? b=some o->h'.get? b=some o) (hn:H it=none) (hL:it≠X.env.locals)
  (h1:it∈X.ex\/X.s₀.heap.objs.size<=it) (h2:∀ x c,X.env.cells.lookup x=some c->c≠it) (h3:∀ p∈X.pn++pins,p.1≠it):zG X pins σ H { s with heap:=h',toks:=t' }:=by
 have nit:∀ b u,H b=some u->b≠it:=λb u e z=>by rw [z,hn] at e; cases e
 refine I.step (g':=s.gens) (d':=s.drawn) (ch:=[it]) (λb hb=>?_) (λb o _ _ hc e _=>k b o (λz=>hc (by simp [z])) e) (λb o _ _ hc e _=>⟨o.slots,k b o (λz=>hc (by simp [z])) e⟩) (λ_ _ _ _ n=>n)
  (λb o hc e=>⟨o,k b o (λz=>hc (by simp [z])) e⟩) (λ_ _ e=>e) (λ_ _ _ e=>e) (λb ps e=>⟨#[],by rw [e]; simp⟩) (λm hm=>?_) (λb u e=>?_) I.bare
 ·have e:b=it:=by simpa using hb
  subst e
  exact ⟨h1,hL,h2,h3⟩
 ·obtain ⟨o,es,ep,ho,r⟩:=hm
  exact ⟨o,es,ep,k _ o (Ne.symm hL) ho,r⟩
 ·refine (I.hok b u e).stay (λc v hc q=>k c v ?_ q) (λ_ q=>q) λ_ _ q=>q
  rcases hc with z | z
  ·rw [z]; exact nit b u e
  ·exact nit c _ z
theorem zG.tok (I:zG X pins σ H s) (t:Nat):zG X pins σ H { s with toks:=t }:=I.un (h':=s.heap) (t':=t) Un.refl I.hok
theorem zG.kept {t':Nat} (I:zG X pins σ H s) (k:∀ b u,s.heap.get? b=some u->h'.get? b=some u):zG X pins σ H { s with heap:=h',toks:=t' }:=I.un (Un.kept k) (I.hok.kept k)
theorem zG.laid {a:Addr} {o:HO} {t':Nat} (I:zG X pins σ H s) (k:∀ b u,s.heap.get? b=some u->h'.get? b=some u) (hp:s.heap.objs.size<=a) (new:xx X.prog X.w (zZ H a o) h' a o) :
  zG X pins σ (zZ H a o) { s with heap:=h',toks:=t' }:=I.un (Un.laid k hp (I.hok.fresh hp)) (I.hok.laid k hp new)
theorem zG.write {x e:Addr} {o:HO} {t':Nat} (I:zG X pins σ H s) (mu:Zx (H x)) (he:e=x\/H e=some (.own x)) (k:∀ b u,b≠e->s.heap.get? b=some u->h'.get? b=some u) (heo:∃ u,h'.get? e=some u)
  (new:xx X.prog X.w (zZ H x o) h' x o):zG X pins σ (zZ H x o) { s with heap:=h',toks:=t' }:=I.un (Un.write mu he k heo) (I.hok.write mu he k heo new)
theorem zG.pins_of {pins':List (Addr × Obj)} (I:zG X pins σ H s) (h:∀ p∈pins',s.heap.get? p.1=some p.2/\H p.1=none/\p.1≠X.env.locals/\p.1∉X.fs/\∀ v,p.2.data≠.cell v):zG X pins' σ H s:=
 ⟨I.ok,I.os,I.bare,I.base,I.loc,I.cell,I.free,I.freeC,λp hp=>(List.mem_append.mp hp).elim (λz=>I.pin p (List.mem_append_left _ z)) (h p),I.hok,I.len⟩
theorem Jm {N:List Str} (hN:N.Nodup) {i j:Nat} {x:Str} (a:N[i]? = some x) (b:N[j]? = some x):i=j:=by
 obtain ⟨h1,e1⟩:=List.getElem?_eq_some_iff.mp a
 obtain ⟨h2,e2⟩:=List.getElem?_eq_some_iff.mp b
 exact (List.getElem_inj hN).mp (e1.trans e2.symm)
theorem Xu {M:Model} {A:Around} {E:Value->Shared->Prop} {i:Nat} {x:Str} {v:V} {u:Value} {Q:Unit->Shared->Prop} (I:zG X pins σ H s) (hN:X.N.Nodup) (hi:X.N[i]? = some x) (hx:uv X.env.scope x) (r:zR v u)
  (h:∀ s',zG X pins (σ.set i (some v)) H s'->(∃ a,Heap.SameBut a s.heap s'.heap/\(a=X.env.locals\/X.env.cells.lookup x=some a))->Q () s') (hf:X.fn x=true\/X.env.scope.names.lookup x=some .local:=by first | exact .inl rfl | exact .inr rfl | assumption):wpAny M A (storeName X.env x u) Q E s:=by
 obtain ⟨m,hn,hl⟩:=id I.loc
 have hcls:(X.env.scope.kind == .class || (X.env.scope.kind == .module && X.env.locals != X.env.globals))=false:=by rw [I.ok.kind]; rfl
 have hiσ:i < σ.length:=by rw [I.len]; exact (List.getElem?_eq_some_iff.mp hi).1
 have cne:=I.cne
 have tracked:∀ {a:Addr} {h':Heap},(∃ o,s.heap.get? a=some o/\H a=none)->Heap.SameBut a s.heap h'->xF X.prog X.w H h':=λ{a h'} ha hs b ob e=>by
  obtain ⟨_,_,hfree⟩:=ha
  refine (I.hok b ob e).stay (λc w' hc q=>(hs.2 c ?_).trans q) (λ_ q=>q) λ_ _ q=>q
  rintro rfl
  rcases hc with rfl | hc
  ·rw [hfree] at e; cases e
  ·rw [hfree] at hc; cases hc
 rcases hx with hk | hk
 ·refine wpAny_storeName_local hk hn (λh' hn' hs=>?_) hcls
  obtain ⟨oL,_,_,hoL,_⟩:=id hn
  refine h _ ⟨I.ok,I.os,I.bare,⟨λb o e n hb hx=>?_,λb o e n hb hx=>?_,I.base.free,λb o e hx=>?_,I.base.tups,I.base.frzs,I.base.tbls⟩,⟨_,hn',λj y v' e1 e2 e3=>?_⟩,λy c e=>?_,I.free,I.freeC,λp hp=>?_,tracked ⟨oL,hoL,I.free⟩ hs,by simpa using I.len⟩ ⟨_,hs,.inl rfl⟩
  ·exact (hs.2 b (Nat.ne_of_lt (Nat.lt_of_lt_of_le (Heap.lt_size e) I.ok.above))).trans (I.base.keep b o e n hb hx)
  ·obtain ⟨sl,e1⟩:=I.base.slot b o e n hb hx
   exact ⟨sl,(hs.2 b (Nat.ne_of_lt (Nat.lt_of_lt_of_le (Heap.lt_size e) I.ok.above))).trans e1⟩
  ·obtain ⟨o',e1⟩:=I.base.there b o e hx
   exact ⟨o',(hs.2 b (Nat.ne_of_lt (Nat.lt_of_lt_of_le (Heap.lt_size e) I.ok.above))).trans e1⟩
  ·by_cases hj:j=i
   ·subst hj
    rw [hi] at e1; cases e1
    rw [List.getElem?_set_self hiσ] at e2
    cases e2
    exact ⟨u,r,.inl ⟨hk,by simp⟩⟩
   ·rw [List.getElem?_set_ne (Ne.symm hj)] at e2
    obtain ⟨u',r',q⟩:=hl j y v' e1 e2 e3
    refine ⟨u',r',?_⟩
    rcases q with ⟨k,e⟩ | ⟨k,c,e,z⟩
    ·refine .inl ⟨k,?_⟩
     have:y≠x:=λe=>hj (Jm hN e1 (e ▸ hi))
     simp [this,e]
    ·exact .inr ⟨k,c,e,z.sameBut hs (cne y c e)⟩
  ·obtain ⟨w',z⟩:=I.cell y c e
   exact ⟨w',z.sameBut hs (cne y c e)⟩
  ·obtain ⟨e,n,ne,nf,d⟩:=I.pin p hp
   exact ⟨(hs.2 p.1 ne).trans e,n,ne,nf,d⟩
 ·have hfn:X.fn x=true:=by
   rcases hf with z | z
   ·exact z
   ·rw [z] at hk; cases hk
  obtain ⟨c,hc⟩:=I.ok.has x (.inl hk)
  obtain ⟨w',z⟩:=I.cell x c hc
  refine wpAny_storeName_cell I.ok.kind hk hc z (λh' hc' hs=>?_)
  obtain ⟨oc,hoc,hocd⟩:=id z
  refine h { s with heap:=h' } ⟨I.ok,I.os,I.bare,⟨λb o e n hb hx=>?_,λb o e n hb hx=>?_,I.base.free,λb o e hx=>?_,I.base.tups,I.base.frzs,I.base.tbls⟩,⟨m,hn.sameBut hs (Ne.symm (cne x c hc)),λj y v' e1 e2 e3=>?_⟩,λy c' e=>?_,I.free,I.freeC,λp hp=>?_,tracked ⟨oc,hoc,I.freeC x c hc⟩ hs,by simpa using I.len⟩ ⟨c,hs,.inr hc⟩
  ·exact (hs.2 b (Nat.ne_of_lt (Nat.lt_of_lt_of_le (Heap.lt_size e) (I.ok.cab x c hfn hc)))).trans (I.base.keep b o e n hb hx)
  ·obtain ⟨sl,e1⟩:=I.base.slot b o e n hb hx
   exact ⟨sl,(hs.2 b (Nat.ne_of_lt (Nat.lt_of_lt_of_le (Heap.lt_size e) (I.ok.cab x c hfn hc)))).trans e1⟩
  ·obtain ⟨o',e1⟩:=I.base.there b o e hx
   exact ⟨o',(hs.2 b (Nat.ne_of_lt (Nat.lt_of_lt_of_le (Heap.lt_size e) (I.ok.cab x c hfn hc)))).trans e1⟩
  ·by_cases hj:j=i
   ·subst hj
    rw [hi] at e1; cases e1
    rw [List.getElem?_set_self hiσ] at e2
    cases e2
    exact ⟨u,r,.inr ⟨.inl hk,c,hc,hc'⟩⟩
   ·rw [List.getElem?_set_ne (Ne.symm hj)] at e2
    obtain ⟨u',r',q⟩:=hl j y v' e1 e2 e3
    refine ⟨u',r',?_⟩
    rcases q with q | ⟨k,c',e,z'⟩
    ·exact .inl q
    ·refine .inr ⟨k,c',e,z'.sameBut hs ?_⟩
     rintro rfl
     exact hj (Jm hN e1 (I.ok.inj _ _ _ e hc ▸ hi))
  ·by_cases hcc:c'=c
   ·subst hcc; exact ⟨_,hc'⟩
   ·obtain ⟨w2,z2⟩:=I.cell y c' e
    exact ⟨w2,z2.sameBut hs hcc⟩
  ·obtain ⟨e,n,ne,nf,d⟩:=I.pin p hp
   refine ⟨(hs.2 p.1 ?_).trans e,n,ne,nf,d⟩
   intro q
   rw [q,hoc] at e
   have q':oc=p.2:=Option.some.inj e
   exact d w' (by rw [<- q']; exact hocd)
theorem Zy {M:Model} {A:Around} {E:Value->Shared->Prop} {i:Nat} {x:Str} {v:V} {u:Value} {Q:Unit->Shared->Prop} (I:zG X pins σ H s) (hN:X.N.Nodup) (hi:X.N[i]? = some x) (hx:uv X.env.scope x) (r:zR v u)
  (h:∀ s',zG X pins (σ.set i (some v)) H s'->Q () s') (hf:X.fn x=true\/X.env.scope.names.lookup x=some .local:=by first | exact .inl rfl | exact .inr rfl | assumption):wpAny M A (storeName X.env x u) Q E s:=
 Xu I hN hi hx r (λs' I' _=>h s' I') hf
theorem zG.call' {s':Shared} {ch:List Addr} (I:zG X pins σ H s) (ho:s'.os=s.os) (u:Un (wj X.stack) ch H H' s.heap s'.heap) (hok:xF X.prog X.w H' s'.heap) (hg:AllBare s'.gens)
  (hch:∀ b∈ch,(b∈X.ex\/X.s₀.heap.objs.size<=b)/\b≠X.env.locals/\(∀ x c,X.env.cells.lookup x=some c->c≠b)/\∀ p∈X.pn++pins,p.1≠b):zG X pins σ H' s':=by
 obtain ⟨h',g',d',t',o'⟩:=s'
 have e:o'=s.os:=ho
 subst e
 exact I.call (g':=g') (t':=t') (d':=d') u hok hg hch
end
abbrev XK:=Value->Option Addr->Hp->Prop
abbrev St:=List (Option V)
abbrev VK:=V->Hp->Prop
abbrev TE:=St->Hp->VK->Prop
abbrev TT:=St->Hp->(Bool->Hp->Prop)->Prop
abbrev TA:=St->Hp->(List V->Hp->Prop)->Prop
structure xS where
 nx:St->Hp->Prop
 rt:VK
 bk:St->Hp->Prop:=λ_ _=>False
 ct:St->Hp->Prop:=λ_ _=>False
abbrev TS:=xS->St->Hp->Prop
def EP (X:Cx) (pins:List (Addr × Obj)) (σ:St) (Q:VK) (u:Value) (s':Shared):Prop:=∃ v H',zG X pins σ H' s'/\zR v u/\Q v H'
def TP (X:Cx) (pins:List (Addr × Obj)) (σ:St) (Q:Bool->Hp->Prop) (b:Bool) (s':Shared):Prop:=∃ H',zG X pins σ H' s'/\Q b H'
def AP (X:Cx) (pins:List (Addr × Obj)) (σ:St) (Q:List V->Hp->Prop) (us:List Value) (s':Shared):Prop:=∃ vs H',zG X pins σ H' s'/\zL vs us/\Q vs H'
def SP (X:Cx) (pins:List (Addr × Obj)) (D:xS) (f:Flow) (s':Shared):Prop:=
 match f with
 | .next=>∃ σ' H',zG X pins σ' H' s'/\D.nx σ' H'
 | .brk=>∃ σ' H',zG X pins σ' H' s'/\D.bk σ' H'
 | .cont=>∃ σ' H',zG X pins σ' H' s'/\D.ct σ' H'
 | .ret u=>∃ v σ' H',zG X pins σ' H' s'/\zR v u/\D.rt v H'
def PE (X:Cx) (e:Expr) (t:TE):Prop:=
 ∀ (pins:List (Addr × Obj)) (s:Shared) (σ:St) (H:Hp) (Q:VK),zG X pins σ H s->t σ H Q->wpAny (model X.prog X.w) X.A (eval e X.env) (EP X pins σ Q) X.xe s
def PT (X:Cx) (e:Expr) (t:TT):Prop:=
 ∀ (pins:List (Addr × Obj)) (s:Shared) (σ:St) (H:Hp) (Q:Bool->Hp->Prop),zG X pins σ H s->t σ H Q->wpAny (model X.prog X.w) X.A (isTrue e X.env (eval e X.env)) (TP X pins σ Q) X.xe s
def PW (X:Cx) (e:Expr) (t:TT):Prop:=
 ∀ (whole:Sem Value) (pins:List (Addr × Obj)) (s:Shared) (σ:St) (H:Hp) (Q:Bool->Hp->Prop),zG X pins σ H s->t σ H Q->wpAny (model X.prog X.w) X.A (isTrue e X.env whole) (TP X pins σ Q) X.xe s
theorem PW.pt {X:Cx} {e:Expr} {t:TT} (h:PW X e t):PT X e t:=h _
def PA (X:Cx) (es:List Expr) (t:TA):Prop:=
 ∀ (pos:Pos) (pins:List (Addr × Obj)) (s:Shared) (σ:St) (H:Hp) (Q:List V->Hp->Prop),zG X pins σ H s->t σ H Q->wpAny (model X.prog X.w) X.A (spliced (backTo pos (starEach es X.env))) (AP X pins σ Q) X.xe s
def PS (X:Cx) (st:Stmt) (t:TS):Prop:=
 ∀ (pins:List (Addr × Obj)) (s:Shared) (σ:St) (H:Hp) (D:xS),zG X pins σ H s->t D σ H->wpAny (model X.prog X.w) X.A (exec st X.env) (SP X pins D) X.xe s
def xC (X:Cx) (st:List Stmt) (t:TS):Prop:=
 ∀ (pins:List (Addr × Obj)) (s:Shared) (σ:St) (H:Hp) (D:xS),zG X pins σ H s->t D σ H->wpAny (model X.prog X.w) X.A (execs st X.env) (SP X pins D) X.xe s
theorem ze {α:Type} {t:Sem α} {Q Q':α->Shared->Prop} {M:Model} {A:Around} {E:Value->Shared->Prop} {s:Shared} (h:wpAny M A t Q E s) (hQ:∀ a s,Q a s->Q' a s):wpAny M A t Q' E s:=wpAny_mono h hQ λ_ _ x=>x
end L2
namespace L2
open PySem PySem.Spec PyProof.Rows
section
variable {X:Cx}
def qm (i:Nat):TE:=λσ H Q=>∃ v,σ[i]? = some (some v)/\Q v H
def tC (v:V):TE:=λ_ H Q=>Q v H
theorem Xv {i:Nat} {x:Str} {pos:Pos} (hN:X.N[i]? = some x) (hv:jM X.env.scope x) (hd:(x == ("__debug__" : Str))=false:=by decide) (hcd:(x == ("__classdict__" : Str))=false:=by decide):PE X (.Name x pos) (qm i):=by
 intro pins s σ H Q I h
 obtain ⟨v,e,h⟩:=h
 obtain ⟨m,hn,hl⟩:=I.loc
 obtain ⟨u,r,l⟩:=hl i x v hN e hv
 have fin:EP X pins σ Q u s:=⟨v,H,I,r,h⟩
 rcases l with ⟨hk,hm⟩ | ⟨hk,c,hc,hcell⟩
 ·exact wpAny_Name (wpAny_loadName_local I.ok.kind hk hn hm fin) hd
 ·rcases hk with hk | hk
  ·exact wpAny_Name (wpAny_loadName_cell I.ok.kind hk hc hcell fin) hd
  ·exact wpAny_Name (wpAny_loadName_free I.ok.kind hk hc hcell fin hcd) hd
theorem Jn {i j pos}:PE X (.Constant (.int i) j pos) (tC (.int i)):=λ_ _ _ H _ I h=>wpAny_Constant_int ⟨.int i,H,I.tok _,⟨_,rfl⟩,h⟩
theorem qp {b j pos}:PE X (.Constant (.bool b) j pos) (tC (.bl b)):=λ_ _ _ H _ I h=>Constant_bool ⟨.bl b,H,I,rfl,h⟩
theorem zPk {j pos}:PE X (.Constant .none j pos) (tC .non):=λ_ _ _ H _ I h=>Constant_none ⟨.non,H,I,rfl,h⟩
def Gl (X:Cx) (x:Str):Prop:=X.env.kindOf x=some .globalImplicit
theorem Xw {E:Value->Shared->Prop} {pins:List (Addr × Obj)} {s:Shared} {σ:St} {H:Hp} {x:Str} {u:Value} {pos:Pos} {Q:Value->Shared->Prop} (I:zG X pins σ H s) (hg:Gl X x) (hm:X.mg x=some u) (h:Q u s)
  (hd:(x == ("__debug__" : Str))=false:=by decide):wpAny (model X.prog X.w) X.A (eval (.Name x pos) X.env) Q E s:=
 Calls.Name_function_global I.ok.kind hg (Calls.loadGlobal_global (by rw [I.ok.glob]; exact I.mod.glob.keeps I.bk) hm h) hd
theorem j8 {E:Value->Shared->Prop} {pins:List (Addr × Obj)} {s:Shared} {σ:St} {H:Hp} {x:Str} {u:Value} {pos:Pos} {Q:Value->Shared->Prop} (I:zG X pins σ H s) (hg:Gl X x) (hm:X.mg x=none) (hv:bootBuiltins x=some u) (h:Q u s)
  (hn:x≠"__name__":=by decide) (hd:(x == ("__debug__" : Str))=false:=by decide):wpAny (model X.prog X.w) X.A (eval (.Name x pos) X.env) Q E s:=by
 obtain ⟨mb,h1,h2⟩:=I.mod.blt
 exact Calls.Name_function_global I.ok.kind hg (Calls.loadGlobal_builtin (by rw [I.ok.glob]; exact I.mod.glob.keeps I.bk) hm (by rw [I.ok.blt]; exact h1.keeps I.bk) ((h2 x hn).trans hv) h) hd
theorem Jo {x:Str} {v:V} {u:Value} {pos:Pos} (hg:Gl X x) (hm:X.mg x=some u) (r:zR v u) (hd:(x == ("__debug__" : Str))=false:=by decide):PE X (.Name x pos) (tC v):=
 λ_ _ _ H _ I h=>Xw I hg hm ⟨v,H,I,r,h⟩ hd
theorem wy {x:Str} {v:V} {u:Value} {pos:Pos} (hg:Gl X x) (hm:X.mg x=none) (hv:bootBuiltins x=some u) (r:zR v u) (hn:x≠"__name__":=by decide) (hd:(x == ("__debug__" : Str))=false:=by decide):PE X (.Name x pos) (tC v):=
 λ_ _ _ H _ I h=>j8 I hg hm hv ⟨v,H,I,r,h⟩ hn hd
variable {a b:Expr} {ta tb:TE} {pos:Pos}
def tB (t:TE):TT:=λσ H Q=>t σ H λx H1=>∃ c,x=.bl c/\Q c H1
theorem zPR {e:Expr} {t:TE} (h:PE X e t) (he:∀ whole,isTrue e X.env whole=(do let v <- whole; standAt e.pos; holding [v] (truthy v)):=by intro _; rfl):PT X e (tB t):=by
 intro pins s σ H Q I hw
 refine isTrue_plain (ze (h pins s σ H _ I hw) λv s1 ⟨x,H1,I1,r1,q1⟩=>?_) (he _)
 obtain ⟨d,rfl,q⟩:=q1
 cases r1
 exact wpAny_truthy_bool ⟨H1,I1,q⟩
variable {tA tB':TT} {yX:List Expr}
def Xx (t u:TT):TT:=λσ H Q=>t σ H λc H1=>if c=true then u σ H1 Q else Q false H1
def tOr (t u:TT):TT:=λσ H Q=>t σ H λc H1=>if c=true then Q true H1 else u σ H1 Q
def Xy (t:TT):TT:=λσ H Q=>t σ H λc H1=>Q (!c) H1
theorem zN9 (ha:PT X a tA):PW X (.BoolOp .And [a] pos) tA:=by
 intro wh pins s σ H Q I h
 refine isTrue_and (ze (ha pins s σ H Q I h) λc s1 e=>?_)
 cases c with
 | true=>exact isTrue_and_nil e
 | false=>exact e
theorem zPL (ha:PT X a tA):PW X (.BoolOp .Or [a] pos) tA:=by
 intro wh pins s σ H Q I h
 refine isTrue_or (ze (ha pins s σ H Q I h) λc s1 e=>?_)
 cases c with
 | false=>exact isTrue_or_nil e
 | true=>exact e
theorem zPM (ha:PT X a tA) (hb:PW X (.BoolOp .And (b :: yX) pos) tB'):PW X (.BoolOp .And (a :: b :: yX) pos) (Xx tA tB'):=by
 intro wh pins s σ H Q I h
 refine isTrue_and (ze (ha pins s σ H _ I h) λc s1 ⟨H1,I1,q1⟩=>?_)
 cases c with
 | true=>exact hb wh pins s1 σ H1 Q I1 q1
 | false=>exact ⟨H1,I1,q1⟩
theorem qr (ha:PT X a tA) (hb:PW X (.BoolOp .Or (b :: yX) pos) tB'):PW X (.BoolOp .Or (a :: b :: yX) pos) (tOr tA tB'):=by
 intro wh pins s σ H Q I h
 refine isTrue_or (ze (ha pins s σ H _ I h) λc s1 ⟨H1,I1,q1⟩=>?_)
 cases c with
 | true=>exact ⟨H1,I1,q1⟩
 | false=>exact hb wh pins s1 σ H1 Q I1 q1
theorem zPS (ha:PT X a tA):PT X (.UnaryOp .Not a pos) (Xy tA):=by
 intro pins s σ H Q I h
 exact isTrue_not (ha pins s σ H (λc H1=>Q (!c) H1) I h)
def qt (ta tb:TE):TE:=λσ H Q=>ta σ H λx H1=>∃ c,x=.bl c/\if c=true then tb σ H1 Q else Q (.bl false) H1
def qu (ta:TE):TE:=λσ H Q=>ta σ H λx H1=>∃ c,x=.bl c/\Q (.bl (!c)) H1
theorem zPi {op} {t:TE} (h:PE X a t):PE X (.BoolOp op [a] pos) t:=λpins s σ H Q I hw=>BoolOp_one (h pins s σ H Q I hw)
theorem zPn (ha:PE X a ta) (hb:PE X (.BoolOp .And (b :: yX) pos) tb):PE X (.BoolOp .And (a :: b :: yX) pos) (qt ta tb):=by
 intro pins s σ H Q I h
 refine BoolOp_and (ze (ha pins s σ H _ I h) λv s1 ⟨x,H1,I1,r1,q1⟩=>?_)
 obtain ⟨c,rfl,q1⟩:=q1
 cases r1
 refine wpAny_truthy_bool ?_
 cases c with
 | true=>exact hb pins s1 σ H1 Q I1 q1
 | false=>exact ⟨.bl false,H1,I1,rfl,q1⟩
theorem zPj (ha:PE X a ta):PE X (.UnaryOp .Not a pos) (qu ta):=by
 intro pins s σ H Q I h
 refine UnaryOp_ (ze (ha pins s σ H _ I h) λv s1 ⟨x,H1,I1,r1,q1⟩=>?_)
 obtain ⟨c,rfl,q1⟩:=q1
 cases r1
 exact not_of (wpAny_truthy_bool ⟨.bl (!c),H1,I1,rfl,q1⟩)
def tIf (t:TT) (ta tb:TE):TE:=λσ H Q=>t σ H λc H1=>if c=true then ta σ H1 Q else tb σ H1 Q
theorem zMl {c:Expr} (hc:PT X c tA) (ha:PE X a ta) (hb:PE X b tb):PE X (.IfExp c a b pos) (tIf tA ta tb):=by
 intro pins s σ H Q I h
 refine wpAny_IfExp (ze (hc pins s σ H _ I h) λd s1 ⟨H1,I1,q1⟩=>?_)
 cases d with
 | true=>exact ha pins s1 σ H1 Q I1 q1
 | false=>exact hb pins s1 σ H1 Q I1 q1
end
end L2
namespace L2
open PySem PySem.Spec PyProof.Rows
def zb (K:PySem.W.Frag) (H:Hp) (a:Addr) (xs:List V):Prop:=
 Rd H a (.lst xs)∨
  ∃ (o:Obj) (its:Array Value) (n:Nat),K.lookup a=some o/\o.cls=.type "list"/\o.dict=none/\o.data=.seq its n/\its.size<=sizeLine/\zL xs its.toList
def zo (K:PySem.W.Frag) (H:Hp) (a:Addr) (xs:List V):Prop:=
 Rd H a (.tup xs)∨
  ∃ (o:Obj) (its:Array Value) (n:Nat),K.lookup a=some o/\o.cls=.type "tuple"/\o.data=.seq its n/\its.size<=sizeLine/\zL xs its.toList
def Xz:Value->Option V
 | .none=>some .non
 | .bool b=>some (.bl b)
 | .int i _=>some (.int i)
 | .str x _=>some (.str x)
 | .bytes b _=>some (.byt b)
 | .float b _=>some (.flt b)
 | .ref a=>some (.ref a)
 | .type n=>some (.ty n)
 | _=>none
theorem zR.abs {x:V} {u:Value} (r:zR x u):Xz u=some x:=by
 cases x with
 | non=>cases r; rfl
 | bl _=>cases r; rfl
 | int _=>obtain ⟨t,rfl⟩:=r; rfl
 | str _=>obtain ⟨t,rfl⟩:=r; rfl
 | byt _=>obtain ⟨t,rfl⟩:=r; rfl
 | flt _=>obtain ⟨t,rfl⟩:=r; rfl
 | ref _=>cases r; rfl
 | ty _=>cases r; rfl
theorem zR.inj {x y:V} {u:Value} (r:zR x u) (q:zR y u):x=y:=Option.some.inj (r.abs.symm.trans q.abs)
theorem zL.inj:∀ {xs ys:List V} {us:List Value},zL xs us->zL ys us->xs=ys
 | _,_,_,.nil,.nil=>rfl
 | _,_,_,.cons r t,.cons r' t'=>by rw [r.inj r',zL.inj t t']
section
variable {X:Cx} {pins:List (Addr × Obj)} {σ:St} {H:Hp} {s:Shared} {a:Addr} {xs ys:List V}
theorem zb.of {K:PySem.W.Frag} (h:H a=some (.lst xs)):zb K H a xs:=.inl (.inl h)
theorem zo.of {K:PySem.W.Frag} (h:H a=some (.tup xs)):zo K H a xs:=.inl (.inl h)
theorem zG.list (I:zG X pins σ H s) (h:zb X.K H a xs):∃ its:List Value,zL xs its/\PlainL s.heap a its.toArray/\xs.length<=sizeLine:=by
 rcases h with h | ⟨o,its,n,hk,hc,hd,hs,hz,r⟩
 ·obtain ⟨z,its,n,r,e⟩:=h.ok I.hok
  exact ⟨its,r,⟨_,n,e,rfl,rfl,rfl⟩,z⟩
 ·refine ⟨its.toList,r,⟨o,n,I.kIn a o hk,hc,hd,by simpa using hs⟩,?_⟩
  have e:=r.length
  simp only [Array.length_toList] at e
  omega
theorem zG.tuple (I:zG X pins σ H s) (h:zo X.K H a xs):∃ its:List Value,zL xs its/\IsTup s.heap a its.toArray/\xs.length<=sizeLine:=by
 rcases h with h | ⟨o,its,n,hk,hc,hs,hz,r⟩
 ·obtain ⟨z,its,r,p⟩:=h.ok I.hok
  exact ⟨its,r,p,z⟩
 ·refine ⟨its.toList,r,⟨o,I.kIn a o hk,hc,n,by simpa using hs⟩,?_⟩
  have e:=r.length
  simp only [Array.length_toList] at e
  omega
theorem zG.list_inj (I:zG X pins σ H s) (h:zb X.K H a xs) (h':zb X.K H a ys):xs=ys:=by
 obtain ⟨its,r,⟨o,n,e,_,_,d⟩,_⟩:=I.list h
 obtain ⟨its',r',⟨o',n',e',_,_,d'⟩,_⟩:=I.list h'
 rw [e] at e'; cases e'
 rw [d] at d'
 injection d' with d1 _
 have:its=its':=by simpa using congrArg Array.toList d1
 subst this
 exact r.inj r'
theorem zG.tuple_inj (I:zG X pins σ H s) (h:zo X.K H a xs) (h':zo X.K H a ys):xs=ys:=by
 obtain ⟨its,r,⟨o,e,_,n,d⟩,_⟩:=I.tuple h
 obtain ⟨its',r',⟨o',e',_,n',d'⟩,_⟩:=I.tuple h'
 rw [e] at e'; cases e'
 rw [d] at d'
 injection d' with d1 _
 have:its=its':=by simpa using congrArg Array.toList d1
 subst this
 exact r.inj r'
end
abbrev Cx.wish (X:Cx) (E:Value->Shared->Prop):Cx:={ X with xe:=E }
abbrev Cx.nox (X:Cx):Cx:=X.wish λ_ _=>False
theorem Cx.Ok.wish {X:Cx} (ok:X.Ok) (E:Value->Shared->Prop):(X.wish E).Ok:=
 ⟨ok.mod,ok.kind,ok.glob,ok.blt,ok.above,ok.inj,ok.has,ok.cab,ok.hd,ok.frames,ok.stk,ok.exf,ok.bs,ok.bsz,ok.noex,ok.exfs,ok.funs,ok.frf⟩
theorem Cx.Ok.unwish {X:Cx} {E:Value->Shared->Prop} (ok:(X.wish E).Ok):X.Ok:=
 ⟨ok.mod,ok.kind,ok.glob,ok.blt,ok.above,ok.inj,ok.has,ok.cab,ok.hd,ok.frames,ok.stk,ok.exf,ok.bs,ok.bsz,ok.noex,ok.exfs,ok.funs,ok.frf⟩
section
variable {X:Cx} {pins:List (Addr × Obj)} {σ:St} {H:Hp} {s:Shared} {E:Value->Shared->Prop}
theorem zG.wish (I:zG X pins σ H s) (E:Value->Shared->Prop):zG (X.wish E) pins σ H s:=⟨I.ok.wish E,I.os,I.bare,I.base,I.loc,I.cell,I.free,I.freeC,I.pin,I.hok,I.len⟩
theorem zG.unwish (I:zG (X.wish E) pins σ H s):zG X pins σ H s:=⟨I.ok.unwish,I.os,I.bare,I.base,I.loc,I.cell,I.free,I.freeC,I.pin,I.hok,I.len⟩
theorem SP.unwish {D:xS} {f:Flow} {s':Shared} (h:SP (X.wish E) pins D f s'):SP X pins D f s':=by
 cases f with
 | next=>obtain ⟨σ',H',I,q⟩:=h; exact ⟨σ',H',I.unwish,q⟩
 | brk=>obtain ⟨σ',H',I,q⟩:=h; exact ⟨σ',H',I.unwish,q⟩
 | cont=>obtain ⟨σ',H',I,q⟩:=h; exact ⟨σ',H',I.unwish,q⟩
 | ret u=>obtain ⟨v,σ',H',I,r,q⟩:=h; exact ⟨v,σ',H',I.unwish,r,q⟩
theorem xC.nox {st:List Stmt} {t:TS} (h:xC X.nox st t):xC X st t:=λpins s σ H D I hw=>
 wpAny_mono (h pins s σ H D (I.wish _) hw) (λ_ _ q=>q.unwish) λ_ _ z=>False.elim z
end
section
variable {X:Cx} {st:Stmt} {yX:List Stmt} {t u:TS} {e:Expr} {te:TE} {pos:Pos}
def qv:TS:=λD σ H=>D.nx σ H
def X0 (t u:TS):TS:=λD σ H=>t { D with nx:=u D } σ H
theorem zOC:xC X [] qv:=λ_ _ σ H _ I h=>wpAny_execs_nil ⟨σ,H,I,h⟩
theorem X1 (h1:PS X st t) (h2:xC X yX u):xC X (st :: yX) (X0 t u):=by
 intro pins s σ H D I h
 refine wpAny_execs_cons (ze (h1 pins s σ H { D with nx:=u D } I h) λf s1 q=>?_)
 cases f with
 | next=>
  obtain ⟨σ',H',I',q⟩:=q
  exact h2 pins s1 σ' H' D I' q
 | ret v=>exact q
 | brk=>exact q
 | cont=>exact q
theorem X2 (h1:PS X st t):xC X [st] t:=by
 intro pins s σ H D I h
 refine wpAny_execs_cons (ze (h1 pins s σ H D I h) λf s1 q=>?_)
 cases f with
 | next=>exact wpAny_execs_nil q
 | ret v=>exact q
 | brk=>exact q
 | cont=>exact q
def zO9:TS:=λD σ H=>D.bk σ H
theorem zMe:PS X (.Break pos) zO9:=λ_ _ σ H _ I h=>wpAny_Break ⟨σ,H,I,h⟩
theorem zG.quiet {pins:List (Addr × Obj)} {σ:St} {H:Hp} {s:Shared} (I:zG X pins σ H s):interactive X.env=false:=by simp [interactive,I.ok.kind]
def Jp (te:TE):TS:=λD σ H=>te σ H λ_ H1=>D.nx σ H1
theorem xX (he:PE X e te) (hs:swapsWith e none pos.line X.env=pure false:=by rfl):PS X (.Expr e pos) (Jp te):=by
 intro pins s σ H D I h
 exact wpAny_Expr_any (ze (he pins s σ H _ I h) λv s1 ⟨x,H1,I1,r1,q1⟩=>⟨σ,H1,I1,q1⟩) I.quiet hs
def X3 (te:TE):TS:=λD σ H=>te σ H D.rt
theorem Jq (he:PE X e te):PS X (.Return (some e) pos) (X3 te):=by
 intro pins s σ H D I h
 exact wpAny_Return_some (ze (he pins s σ H _ I h) λv s1 ⟨x,H1,I1,r1,q1⟩=>⟨x,σ,H1,I1,r1,q1⟩)
def X4 (c:TT) (t u:TS):TS:=λD σ H=>c σ H λb H1=>if b=true then t D σ H1 else u D σ H1
theorem qw {c:Expr} {a b:List Stmt} {tc:TT} (hc:PT X c tc) (ha:xC X a t) (hb:xC X b u):PS X (.If c a b pos) (X4 tc t u):=by
 intro pins s σ H D I h
 refine wpAny_If (ze (hc pins s σ H _ I h) λd s1 ⟨H1,I1,q1⟩=>?_)
 cases d with
 | true=>exact ha pins s1 σ H1 D I1 q1
 | false=>exact hb pins s1 σ H1 D I1 q1
def zO4:TS:=λ_ _ _=>False
theorem zMc:PS X st zO4:=λ_ _ _ _ _ _ h=>h.elim
end
abbrev TG:=V->St->Hp->(St->Hp->Prop)->Prop
abbrev uU:=List V->St->Hp->(St->Hp->Prop)->Prop
def PG (X:Cx) (target:Expr) (t:TG):Prop:=
 ∀ (pins:List (Addr × Obj)) (s:Shared) (σ:St) (H:Hp) (v:V) (u:Value) (Q:St->Hp->Prop),zG X pins σ H s->zR v u->t v σ H Q->
  wpAny (model X.prog X.w) X.A (assign target X.env u) (λ_ s'=>∃ σ' H',zG X pins σ' H' s'/\Q σ' H') X.xe s
def j9 (X:Cx) (ts:List Expr) (t:uU):Prop:=
 ∀ (pins:List (Addr × Obj)) (s:Shared) (σ:St) (H:Hp) (vs:List V) (us:List Value) (Q:St->Hp->Prop),zG X pins σ H s->zL vs us->t vs σ H Q->
  wpAny (model X.prog X.w) X.A (assignInOrder ((assignEach ts X.env).map (·.2)) us) (λ_ s'=>∃ σ' H',zG X pins σ' H' s'/\Q σ' H') X.xe s
abbrev jN:=V->V->V->Hp->(Hp->Prop)->Prop
def jO (X:Cx) (t:jN):Prop:=
 ∀ (pins:List (Addr × Obj)) (s:Shared) (σ:St) (H:Hp) (o i v:V) (ov iv u:Value) (Q:Hp->Prop),zG X pins σ H s->zR o ov->zR i iv->zR v u->t o i v H Q->
  wpAny (model X.prog X.w) X.A (setItem ov iv u) (λ_ s'=>∃ H',zG X pins σ H' s'/\Q H') X.xe s
section
variable {X:Cx} {pos:Pos}
def qx (i:Nat):TG:=λv σ H Q=>Q (σ.set i (some v)) H
theorem Jr {i:Nat} {x:Str} (hN:X.N.Nodup) (hi:X.N[i]? = some x) (hx:uv X.env.scope x) (hf:X.fn x=true\/X.env.scope.names.lookup x=some .local:=by first | exact .inl rfl | exact .inr rfl | assumption):PG X (.Name x pos) (qx i):=by
 intro pins s σ H v u Q I r h
 exact wpAny_assign_Name (Zy I hN hi hx r (λs' I'=>⟨_,H,I',h⟩) hf)
def X5:uU:=λvs σ H Q=>vs=[]/\Q σ H
def qy (t:TG) (u:uU):uU:=λvs σ H Q=>∃ v r,vs=v :: r/\t v σ H λσ' H'=>u r σ' H' Q
theorem zOG:j9 X [] X5:=by
 intro pins s σ H vs us Q I r h
 obtain ⟨e,h⟩:=h
 subst e
 cases r
 exact assignInOrder_nil ⟨σ,H,I,h⟩
theorem Js {e:Expr} {es:List Expr} {t:TG} {u:uU} (h1:PG X e t) (h2:j9 X es u)
  (hs:(assignEach (e :: es) X.env).map (·.2)=assign e X.env :: (assignEach es X.env).map (·.2):=by rfl):j9 X (e :: es) (qy t u):=by
 intro pins s σ H vs us Q I r h
 obtain ⟨v,vr,e1,h⟩:=h
 subst e1
 cases r with
 | cons r rr=>
  rw [hs]
  refine assignInOrder_cons (ze (h1 pins s σ H _ _ _ I r h) λ_ s1 ⟨σ1,H1,I1,q1⟩=>?_)
  exact h2 pins s1 σ1 H1 _ _ Q I1 rr q1
def X6 (K:PySem.W.Frag) (n:Nat) (t:uU):TG:=λv σ H Q=>∃ a xs,v=.ref a/\zo K H a xs/\xs.length=n/\t xs σ H Q
theorem zPd {es:List Expr} {k:Nat} {t:uU} {n:Nat} (hc:X.calm=true) (h:j9 X es t)
  (hn:(assignEach es X.env).length=n:=by rfl) (hst:(assignEach es X.env).findIdx? (·.1)=none:=by rfl):PG X (.Tuple es k pos) (X6 X.K n t):=by
 intro pins s σ H v u Q I r hw
 obtain ⟨a,xs,e1,hq,hl,hw⟩:=hw
 subst e1
 cases r
 obtain ⟨its,rv,ht,hz⟩:=I.tuple hq
 refine assign_Tuple_tuple (I.ok.hd hc) ht (by simp [hn,<- hl,rv.length]) hst λh' hx=>?_
 have I1:zG X pins σ H { s with heap:=h' }:=I.kept (t':=s.toks) λb o e=>hx b o (Nat.ne_of_lt (Heap.lt_size e)) e
 exact h pins _ σ H xs _ Q I1 (by simpa using rv) hw
def qz (to ti:TE) (t:jN):TG:=λv σ H Q=>to σ H λo H1=>ti σ H1 λi H2=>t o i v H2 λH3=>Q σ H3
theorem zPe {o i:Expr} {to ti:TE} {t:jN} (ho:PE X o to) (hi:PE X i ti) (hs:jO X t)
  (ha:∀ v,assign (.Subscript o i pos) X.env v=(do
   let ov <- holding [v] (eval o X.env)
   let iv <- holding [v,ov] (eval i X.env)
   standAt pos
   holding [v,ov,iv] (setItem ov iv v)
   release [v,ov,iv] []):=by intro _; rfl):PG X (.Subscript o i pos) (qz to ti t):=by
 intro pins s σ H v u Q I r h
 rw [ha]
 refine wpAny_bind (wpAny_holding (ze (ho pins s σ H _ I h) λov s1 ⟨x,H1,I1,r1,q1⟩=>?_))
 refine wpAny_bind (wpAny_holding (ze (hi pins s1 σ H1 _ I1 q1) λiv s2 ⟨y,H2,I2,r2,q2⟩=>?_))
 refine wpAny_bind (wpAny_standAt (wpAny_bind (wpAny_holding (ze (hs pins s2 σ H2 x y v ov iv u _ I2 r1 r2 r q2) λ_ s3 ⟨H3,I3,q3⟩=>?_))))
 exact wpAny_release ⟨σ,H3,I3,q3⟩
def vR (te:TE) (g:TG):TS:=λD σ H=>te σ H λx H1=>g x σ H1 D.nx
theorem Jt {tg e:Expr} {te:TE} {g:TG} (he:PE X e te) (hg:PG X tg g) (hs:swapsWithSole [tg] e pos.line X.env=pure false:=by rfl) (hw:swappedStores [tg] e X.env=pure none:=by rfl)
  (h1:(assignEach [tg] X.env).map (·.2)=[assign tg X.env]:=by rfl):PS X (.Assign [tg] e pos) (vR te g):=by
 intro pins s σ H D I h
 refine wpAny_Assign_stores (ze (he pins s σ H _ I h) λv s1 ⟨x,H1,I1,r1,q1⟩=>?_) hs hw
 rw [h1]
 exact ze (hg pins s1 σ H1 x v _ I1 r1 q1) λ_ s2 q=>q
theorem Ju {i:Nat} {x:Str} {e:Expr} {te:TE} {pos':Pos} (hN:X.N.Nodup) (hi:X.N[i]? = some x) (hx:uv X.env.scope x) (he:PE X e te) (hs:swapsWith e (some (.Name x pos')) pos.line X.env=pure false:=by rfl) (hf:X.fn x=true\/X.env.scope.names.lookup x=some .local:=by first | exact .inl rfl | exact .inr rfl | assumption) :
  PS X (.Assign [.Name x pos'] e pos) (vR te (qx i)):=by
 intro pins s σ H D I h
 refine wpAny_Assign_Name (ze (he pins s σ H _ I h) λv s1 ⟨y,H1,I1,r1,q1⟩=>?_) hs
 exact Zy I1 hN hi hx r1 (λs2 I2=>⟨_,H1,I2,q1⟩) hf
def X7 (i j:Nat) (ta:TA):TS:=λD σ H=>ta σ H λvs H1=>∃ v w,vs=[v,w]/\D.nx ((σ.set i (some v)).set j (some w)) H1
theorem zPT {i j:Nat} {x y:Str} {a b:Expr} {ta:TA} {px py pt:Pos} {kt k2 pt2} (hc:X.calm=true) (hN:X.N.Nodup) (hi:X.N[i]? = some x) (hj:X.N[j]? = some y) (hij:i≠j)
  (hx:X.env.scope.names.lookup x=some .local) (hy:X.env.scope.names.lookup y=some .local) (ha:PA X [a,b] ta)
  (hw:swappedStores [.Tuple [.Name x px,.Name y py] kt pt] (.Tuple [a,b] k2 pt2) X.env=pure (some [x,y]))
  (hs:swapsWithSole [.Tuple [.Name x px,.Name y py] kt pt] (.Tuple [a,b] k2 pt2) pos.line X.env=pure false:=by rfl) :
  PS X (.Assign [.Tuple [.Name x px,.Name y py] kt pt] (.Tuple [a,b] k2 pt2) pos) (X7 i j ta):=by
 intro pins s σ H D I h
 rw [exec_Assign_arm]
 refine wpAny_bind (wpAny_standAt ?_)
 rw [hs]
 refine wpAny_bind (wpAny_pure ?_)
 rw [if_neg (by decide)]
 refine wpAny_bind (Tuple_ (ze (ha _ pins s σ H _ I h) λus s1 ⟨vs,H1,I1,r1,q1⟩=>?_))
 obtain ⟨v,w,e1,q1⟩:=q1
 subst e1
 obtain ⟨u1,u2,rfl,rv,rw'⟩:∃ u1 u2,us=[u1,u2]/\zR v u1/\zR w u2:=by
  cases r1 with
  | cons p q=>
   cases q with
   | cons p' q'=>
    cases q'
    exact ⟨_,_,rfl,p,p'⟩
 refine wpAny_newObj_type ?_ (by show 2<=sizeLine; decide)
 have I2:zG X pins σ H1 { s1 with heap:=s1.heap.push { cls:=.type "tuple",data:=.seq [u1,u2].toArray } }:=I1.kept (t':=s1.toks) λb o e=>Heap.get?_push_of_some _ e
 rw [hw]
 refine wpAny_bind (wpAny_pure ?_)
 show wpAny (model X.prog X.w) X.A (do rule "assign.swapped-stores"; let items <- unpackItems (.ref s1.heap.objs.size) 2 none; assignInOrder [λv=>bindName X.env y v,λv=>bindName X.env x v] items.reverse; pure Flow.next) _ _ _
 refine wpAny_bind (wpAny_rule (wpAny_bind (unpackItems_tuple (items:=#[u1,u2]) (I.ok.hd hc) (IsTup.new s1.heap _) λh' hx'=>?_)))
 have I3:=I2.kept (h':=h') (t':=s1.toks) λb o e=>hx' b o (Nat.ne_of_lt (Heap.lt_size e)) e
 show wpAny _ _ (assignInOrder [λv=>bindName X.env y v,λv=>bindName X.env x v] [u2,u1] >>= λ_=>pure Flow.next) _ _ _
 refine wpAny_bind (assignInOrder_cons (wpAny_bindName (Zy I3 hN hj (.inl hy) rw' (λs2 I4=>?_) (.inr hy))))
 refine assignInOrder_cons (wpAny_bindName (Zy I4 hN hi (.inl hx) rv (λs3 I5=>assignInOrder_nil (wpAny_pure ?_)) (.inr hx)))
 rw [List.set_comm _ _ (Ne.symm hij)] at I5
 exact ⟨_,H1,I5,q1⟩
end
section
variable {X:Cx} {pos:Pos}
def Jv (c:TT) (tb:TS):TS:=λD σ H=>∃ W:Nat->St->Hp->Prop,(∃ m,W m σ H)/\∀ m σ H,W m σ H->
 c σ H λb H1=>if b=true then ∃ N:St->Hp->Prop,(∀ σ' H',N σ' H'->∃ m',m' < m/\W m' σ' H')/\tb { D with nx:=N,ct:=N,bk:=D.nx } σ H1 else D.nx σ H1
theorem zMb {c:Expr} {body:List Stmt} {tc:TT} {tb:TS} (hp:PassesOwn (model X.prog X.w) X.A X.env X.xe) (hc:PT X c tc) (hb:xC X body tb):PS X (.While c body [] pos) (Jv tc tb):=by
 intro pins s σ H D I h
 obtain ⟨W,⟨m0,w0⟩,turn⟩:=h
 refine wpAny_While (codeAny_whileLoop (λn s'=>∃ σ' H',zG X pins σ' H' s'/\W n σ' H') ?_ m0 ⟨σ,H,I,w0⟩)
 rintro n s1 ⟨σ1,H1,I1,w1⟩
 refine wpAny_passesOwn hp (ze (hc pins s1 σ1 H1 _ I1 (turn n σ1 H1 w1)) λb s2 ⟨H2,I2,q2⟩=>?_)
 cases b with
 | true=>
  obtain ⟨N,hN,q2⟩:=q2
  rw [if_pos rfl]
  refine wpAny_passesOwn hp (ze (hb pins s2 σ1 H2 _ I2 q2) λf s3 q3=>?_)
  cases f with
  | next=>
   obtain ⟨σ3,H3,I3,n3⟩:=q3
   obtain ⟨m',hm,w3⟩:=hN σ3 H3 n3
   exact ⟨m',hm,σ3,H3,I3,w3⟩
  | cont=>
   obtain ⟨σ3,H3,I3,n3⟩:=q3
   obtain ⟨m',hm,w3⟩:=hN σ3 H3 n3
   exact ⟨m',hm,σ3,H3,I3,w3⟩
  | brk=>exact q3
  | ret v=>exact q3
 | false=>
  rw [if_neg Bool.false_ne_true]
  exact wpAny_execs_nil ⟨σ1,H2,I2,q2⟩
end
structure It where
 go:Nat->Hp->Prop
 yld:Nat->Hp->V->Hp->Prop
 stop:Nat->Hp->Prop
def yP (X:Cx) (pins:List (Addr × Obj)) (H:Hp) (b:Addr):Prop:=
 H b=none/\b≠X.env.locals/\b∉X.fs/\(b∈X.ex\/X.s₀.heap.objs.size<=b)/\(∀ x c,X.env.cells.lookup x=some c->c≠b)/\∀ p∈X.pn++pins,p.1≠b
theorem zG.fpOk {X:Cx} {pins:List (Addr × Obj)} {σ:St} {H H':Hp} {s:Shared} {b:Addr} (I:zG X pins σ H s) (hb:s.heap.objs.size<=b) (hn:H' b=none):yP X pins H' b:=by
 refine ⟨hn,Nat.ne_of_gt (Nat.lt_of_lt_of_le I.lt hb),I.nofs hb,.inr (Nat.le_trans I.sz hb),λx c e z=>?_,λp hp z=>?_⟩
 ·obtain ⟨v,q⟩:=I.cell x c e
  exact absurd (Nat.lt_of_lt_of_le q.lt (by rw [z]; exact hb)) (Nat.lt_irrefl _)
 ·exact absurd (Nat.lt_of_lt_of_le (Heap.lt_size (I.pin p hp).1) (by rw [z]; exact hb)) (Nat.lt_irrefl _)
structure xT (P:Program) (w:World) (K:PySem.W.Frag) (tg:Expr) (J:It) (fp:List Addr) (it:Addr) (tn:Nat->Heap->Prop):Prop where
 mem:it∈fp
 obj:∀ i h,tn i h->∀ b∈fp,∃ o,h.get? b=some o/\∀ v,o.data≠.cell v
 keep:∀ i h h',tn i h->(∀ b∈fp,∀ o,h.get? b=some o->h'.get? b=some o)->tn i h'
 item:∀ (X:Cx),X.prog=P->X.w=w->X.K=K->X.calm=true->∀ (i:Nat) (pins:List (Addr × Obj)) (s:Shared) (σ:St) (H:Hp) (E:Value->Shared->Prop),zG X pins σ H s->(∀ b∈fp,yP X pins H b)->tn i s.heap->J.go i H->
  wpAny (model P w) X.A (pyNext (.ref it)) (λr s1=>∃ u,r=some u∧
   wpAny (model P w) X.A (letOwnedTupleGo tg (.ref it) u) (λ_ s2=>∃ x H',zG X pins σ H' s2/\zR x u/\J.yld i H x H'/\tn (i + 1) s2.heap/\∀ b∈fp,H' b=none) E s1) E s
 done:∀ (X:Cx),X.prog=P->X.w=w->X.K=K->X.calm=true->∀ (i:Nat) (pins:List (Addr × Obj)) (s:Shared) (σ:St) (H:Hp) (E:Value->Shared->Prop),zG X pins σ H s->(∀ b∈fp,yP X pins H b)->tn i s.heap->J.stop i H->
  wpAny (model P w) X.A (pyNext (.ref it)) (λr s1=>r=none/\zG X pins σ H s1) E s
 self:∀ (A:Around) (i:Nat) (s:Shared) (Q:Value->Shared->Prop) (E:Value->Shared->Prop),tn i s.heap->Q (.ref it) s->wpAny (model P w) A (pyIter (.ref it)) Q E s
abbrev TI:=St->Hp->(It->Hp->Prop)->Prop
def Jw (X:Cx) (pins:List (Addr × Obj)) (σ:St) (tg:Expr) (R:It->Hp->Prop) (itv:Value) (s2:Shared):Prop:=
 ∃ (it:Addr) (fp:List Addr) (tn:Nat->Heap->Prop) (J:It) (H':Hp),itv=.ref it/\zG X pins σ H' s2/\xT X.prog X.w X.K tg J fp it tn/\tn 0 s2.heap/\(∀ b∈fp,yP X pins H' b)/\R J H'
def PI (X:Cx) (tg iter:Expr) (wi:TI):Prop:=
 ∀ (pins:List (Addr × Obj)) (s:Shared) (σ:St) (H:Hp) (R:It->Hp->Prop),zG X pins σ H s->wi σ H R->
  wpAny (model X.prog X.w) X.A (eval iter X.env) (λv s1=>wpAny (model X.prog X.w) X.A (pyIter v) (Jw X pins σ tg R) X.xe s1) X.xe s
theorem X8 {M:Model} {A:Around} {E:Value->Shared->Prop} {s:Shared} {tg:Expr} {it:Addr} {u:Value} {o:Obj} {n:String} {vs:Array Value} {Q:Unit->Shared->Prop} (ho:s.heap.get? it=some o) (hc:o.cls=.type n) (hd:o.data=.fields vs)
  (hn:["enumerate","zip","dict_itemiterator","dict_reverseitemiterator","odict_iterator","itertools.zip_longest","itertools.pairwise"].contains n=false) (hQ:Q () s):wpAny M A (letOwnedTupleGo tg (.ref it) u) Q E s:=by
 unfold letOwnedTupleGo
 cases tg <;> first
  | exact wpAny_pure hQ
  | (cases u <;> first
    | exact wpAny_pure hQ
    | (refine wpAny_bind (wpAny_load ho ?_)
       rw [hc,hd]
       show wpAny M A (if (["enumerate","zip","dict_itemiterator","dict_reverseitemiterator","odict_iterator","itertools.zip_longest","itertools.pairwise"].contains n && vs[0]? == some (rawInt _))=true then _ else _) Q E s
       rw [if_neg (by intro h; rw [hn,Bool.false_and] at h; cases h)]
       exact wpAny_pure hQ))
def X9 (K:PySem.W.Frag) (a:Addr):It:=
 ⟨λi H=>∃ xs x,zb K H a xs/\xs[i]? = some x,λi H x H'=>H'=H/\∀ xs,zb K H a xs->xs[i]? = some x,λi H=>∃ xs,zb K H a xs/\xs.length<=i⟩
def WA (K:PySem.W.Frag) (a:Addr):It:=
 ⟨λi H=>∃ xs x,zo K H a xs/\xs[i]? = some x,λi H x H'=>H'=H/\∀ xs,zo K H a xs->xs[i]? = some x,λi H=>∃ xs,zo K H a xs/\xs.length<=i⟩
def Zz (lo:Int) (n:Nat):It:=⟨λi _=>i < n,λi H x H'=>H'=H/\x=.int (lo + i),λi _=>n<=i⟩
theorem zJ9 {P:Program} {w:World} {K:PySem.W.Frag} {tg:Expr} (a it:Addr):xT P w K tg (X9 K a) [it] it (λi h=>h.IsListIter it a i) where
 mem:=by simp
 obj:=λi h st b hb=>by
  have e:b=it:=by simpa using hb
  subst e
  obtain ⟨o,e,c,d⟩:=st
  exact ⟨o,e,λv z=>by rw [d] at z; cases z⟩
 keep:=λi h h' st k=>st.at λo e=>k it (by simp) o e
 item:=by
  intro X hP hw hK hc i pins s σ H E I hf st hg
  subst hP hw hK
  obtain ⟨xs,x,hq,hx⟩:=hg
  obtain ⟨its,rv,p,hz⟩:=I.list hq
  obtain ⟨u,hu,ru⟩:=rv.get hx
  obtain ⟨f0,f1,f2,f3,f4,f5⟩:=hf it (by simp)
  refine wpAny_pyNext_list_item st p.isList (x:=u) (by simpa using hu) λh' st' sb=>?_
  have I1:zG X pins σ H { s with heap:=h' }:=I.turned (t':=s.toks) (λb o hb e=>(sb.2 b hb).trans e) f0 f1 f3 f4 f5
  obtain ⟨o,e,c,d⟩:=id st'
  exact ⟨u,rfl,X8 (s:={ s with heap:=h' }) e c d (by decide) ⟨x,H,I1,ru,⟨rfl,λys hy=>by rw [I.list_inj hy hq]; exact hx⟩,st',λb hb=>(hf b hb).1⟩⟩
 done:=by
  intro X hP hw hK hc i pins s σ H E I hf st hg
  subst hP hw hK
  obtain ⟨xs,hq,hx⟩:=hg
  obtain ⟨its,rv,p,hz⟩:=I.list hq
  obtain ⟨f0,f1,f2,f3,f4,f5⟩:=hf it (by simp)
  have hl:=rv.length
  exact wpAny_pyNext_list_end (I.ok.hd hc) st p.isList (by simp; omega) λh' eb=>⟨rfl,I.turned (t':=s.toks) (λb o hb e=>eb b o hb e) f0 f1 f3 f4 f5⟩
 self:=λ_ _ _ _ _ st h=>wpAny_pyIter_listiter st h
theorem zJR {P:Program} {w:World} {K:PySem.W.Frag} {tg:Expr} (a it:Addr):xT P w K tg (WA K a) [it] it (λi h=>h.IsTupleIter it a i) where
 mem:=by simp
 obj:=λi h st b hb=>by
  have e:b=it:=by simpa using hb
  subst e
  obtain ⟨o,e,c,d⟩:=st
  exact ⟨o,e,λv z=>by rw [d] at z; cases z⟩
 keep:=λi h h' st k=>st.at λo e=>k it (by simp) o e
 item:=by
  intro X hP hw hK hc i pins s σ H E I hf st hg
  subst hP hw hK
  obtain ⟨xs,x,hq,hx⟩:=hg
  obtain ⟨its,rv,p,hz⟩:=I.tuple hq
  obtain ⟨u,hu,ru⟩:=rv.get hx
  obtain ⟨f0,f1,f2,f3,f4,f5⟩:=hf it (by simp)
  refine wpAny_pyNext_tuple_item st (show s.heap.IsTuple a its.toArray from p) (x:=u) (by simpa using hu) λh' st' sb=>?_
  have I1:zG X pins σ H { s with heap:=h' }:=I.turned (t':=s.toks) (λb o hb e=>(sb.2 b hb).trans e) f0 f1 f3 f4 f5
  obtain ⟨o,e,c,d⟩:=id st'
  exact ⟨u,rfl,X8 (s:={ s with heap:=h' }) e c d (by decide) ⟨x,H,I1,ru,⟨rfl,λys hy=>by rw [I.tuple_inj hy hq]; exact hx⟩,st',λb hb=>(hf b hb).1⟩⟩
 done:=by
  intro X hP hw hK hc i pins s σ H E I hf st hg
  subst hP hw hK
  obtain ⟨xs,hq,hx⟩:=hg
  obtain ⟨its,rv,p,hz⟩:=I.tuple hq
  obtain ⟨f0,f1,f2,f3,f4,f5⟩:=hf it (by simp)
  have hl:=rv.length
  exact wpAny_pyNext_tuple_end (I.ok.hd hc) st (show s.heap.IsTuple a its.toArray from p) (by simp; omega) λh' eb=>⟨rfl,I.turned (t':=s.toks) (λb o hb e=>eb b o hb e) f0 f1 f3 f4 f5⟩
 self:=λ_ _ _ _ _ st h=>wpAny_pyIter_tupleiter st h
theorem zJS {P:Program} {w:World} {K:PySem.W.Frag} {tg:Expr} (it:Addr) (lo:Int) (n:Nat):xT P w K tg (Zz lo n) [it] it (λi h=>IsRangeIter h it (lo + (i:Nat) * 1) ((n:Int) - (i:Nat)) 1) where
 mem:=by simp
 obj:=λi h st b hb=>by
  have e:b=it:=by simpa using hb
  subst e
  exact ⟨_,st,λv z=>by
   have z':Data.fields _=Data.cell v:=z
   cases z'⟩
 keep:=λi h h' st k=>k it (by simp) _ st
 item:=by
  intro X hP hw hK hc i pins s σ H E I hf st hg
  subst hP hw hK
  obtain ⟨f0,f1,f2,f3,f4,f5⟩:=hf it (by simp)
  have W:=Walks.range (prog:=X.prog) (w:=X.w) (I.ok.hd hc) it lo 1 n
  refine W.item i s _ _ hg st λv h' tk hv st' kk=>?_
  obtain ⟨t,rfl⟩:=hv
  have I1:zG X pins σ H { s with heap:=h',toks:=tk }:=I.turned (λb o hb e=>kk b o (by simpa using hb) e) f0 f1 f3 f4 f5
  refine ⟨_,rfl,X8 (s:={ s with heap:=h',toks:=tk }) (n:="range_iterator") st' rfl rfl (by decide) ⟨.int (lo + i),H,I1,⟨t,?_⟩,⟨rfl,rfl⟩,st',λb hb=>(hf b hb).1⟩⟩
  rw [Int.mul_one]
 done:=by
  intro X hP hw hK hc i pins s σ H E I hf st hg
  subst hP hw hK
  obtain ⟨f0,f1,f2,f3,f4,f5⟩:=hf it (by simp)
  exact wpAny_pyNext_range_end (I.ok.hd hc) st (by have:n<=i:=hg; omega) λh' eb=>⟨rfl,I.turned (t':=s.toks) (λb o hb e=>eb b o hb e) f0 f1 f3 f4 f5⟩
 self:=λ_ _ _ _ _ st h=>wpAny_pyIter_rangeiter st h
end L2
namespace L2
open PySem PySem.Spec PyProof.Rows
section
variable {X:Cx} {tg:Expr}
theorem zMY {pins:List (Addr × Obj)} {σ:St} {H:Hp} {s:Shared} {R:It->Hp->Prop} {E:Value->Shared->Prop} {lo hi:Int} {t u v:Tok} {tk:Nat} (I:zG X pins σ H s) (h1 : -(2 ^ 62)<=lo) (h2:lo < 2 ^ 62) (h3 : -(2 ^ 62)<=hi) (h4:hi < 2 ^ 62)
  (q:R (Zz lo (hi - lo).toNat) H):wpAny (model X.prog X.w) X.A (pyIter (.ref s.heap.objs.size)) (Jw X pins σ tg R) E { s with heap:=s.heap.push { cls:=.type "range",data:=.fields #[.int lo t,.int hi u,.int 1 v] },toks:=tk }:=by
 refine wpAny_pyIter_range (IsRange.new ..) (small_one h1 h2 h3 h4) ?_
 have I1:zG X pins σ H { s with heap:=s.heap.push { cls:=.type "range",data:=.fields #[.int lo t,.int hi u,.int 1 v] },toks:=tk }:=I.kept λb o e=>Heap.get?_push_of_some _ e
 refine ⟨(s.heap.push { cls:=.type "range",data:=.fields #[.int lo t,.int hi u,.int 1 v] }).objs.size,[(s.heap.push { cls:=.type "range",data:=.fields #[.int lo t,.int hi u,.int 1 v] }).objs.size],_,_,H,rfl,
  I1.kept (t':=tk) λb o e=>Heap.get?_push_of_some _ e,zJS _ lo (hi - lo).toNat,?_,λb hb=>?_,q⟩
 ·have e1:lo + ((0:Nat):Int) * 1=lo:=by simp
  have e2:(((hi - lo).toNat:Nat):Int) - ((0:Nat):Int)=Builtin.Range.rangeSize lo hi 1:=by rw [rangeSize_one]; split <;> omega
  show IsRangeIter _ _ (lo + ((0:Nat):Int) * 1) ((((hi - lo).toNat:Nat):Int) - ((0:Nat):Int)) 1
  rw [e1,e2]
  exact Heap.get?_push_size _ rfl
 ·have e:b=(s.heap.push { cls:=.type "range",data:=.fields #[.int lo t,.int hi u,.int 1 v] }).objs.size:=by simpa using hb
  subst e
  exact I1.fpOk (Nat.le_refl _) (I1.hok.fresh (Nat.le_refl _))
def q9 (ta:TA):TI:=λσ H R=>ta σ H λvs H1=>∃ j:Int,vs=[.int j]/\-(2 ^ 62)<=j/\j < 2 ^ 62/\R (Zz 0 j.toNat) H1
theorem zKe {a:Expr} {ta:TA} {p pos:Pos} (hg:Gl X "range") (hm:X.mg "range" = none) (ha:PA X [a] ta) (hs:starEach [a] X.env=[(false,eval a X.env)]:=by rfl):PI X tg (.Call (.Name "range" p) [a] [] pos) (q9 ta):=by
 intro pins s σ H R I h
 refine Call_ (j8 I hg hm boot_range (PyProof.Rows.callWith_type1 (ze (ha pos pins s σ H _ I h) λus s1 ⟨vs,H1,I1,r1,q1⟩=>?_) hs rfl))
 obtain ⟨j,e,q1,q2,q⟩:=q1
 subst e
 cases r1 with
 | cons r rr=>
  cases rr
  obtain ⟨t,rfl⟩:=r
  exact call_range_1 (zMY I1 (by omega) (by omega) q1 q2 (by simpa using q))
def WB (wi:TI) (g:TG) (tb:TS):TS:=λD σ H=>wi σ H λJ H1=>∃ W:Nat->Nat->St->Hp->Prop,(∃ m,W 0 m σ H1)/\∀ i m σ H,W i m σ H->
 (J.stop i H/\D.nx σ H)\/(J.go i H/\∃ N:St->Hp->Prop,(∀ σ' H',N σ' H'->∃ m',m' < m/\W (i + 1) m' σ' H')/\∀ x H',J.yld i H x H'->g x σ H' λσ2 H2=>tb { D with nx:=N,ct:=N,bk:=D.nx } σ2 H2)
def qA (fp:List Addr) (h:Heap):List (Addr × Obj):=fp.filterMap λb=>(h.get? b).map λo=>(b,o)
theorem uw {fp:List Addr} {h:Heap} {b:Addr} {o:Obj} (hb:b∈fp) (e:h.get? b=some o):(b,o)∈qA fp h:=List.mem_filterMap.mpr ⟨b,hb,by rw [e]; rfl⟩
theorem zK0 {fp:List Addr} {h:Heap} {p:Addr × Obj} (hp:p∈qA fp h):p.1∈fp/\h.get? p.1=some p.2:=by
 obtain ⟨b,hb,e⟩:=List.mem_filterMap.mp hp
 cases q:h.get? b with
 | none=>rw [q] at e; cases e
 | some o=>
  rw [q] at e
  have e':(b,o)=p:=Option.some.inj e
  subst e'
  exact ⟨hb,q⟩
theorem zG.pinned {pins:List (Addr × Obj)} {σ:St} {H:Hp} {s:Shared} {fp:List Addr} (I:zG X pins σ H s) (hf:∀ b∈fp,yP X pins H b) (ho:∀ b∈fp,∃ o,s.heap.get? b=some o/\∀ v,o.data≠.cell v):zG X (pins++qA fp s.heap) σ H s:=
 I.pins_of λp hp=>(List.mem_append.mp hp).elim (λz=>I.pin p (List.mem_append_right _ z)) λz=>by
  obtain ⟨hb,e⟩:=zK0 z
  obtain ⟨f0,f1,f2,_⟩:=hf p.1 hb
  obtain ⟨o,e',d⟩:=ho p.1 hb
  rw [e] at e'; cases e'
  exact ⟨e,f0,f1,f2,d⟩
theorem zG.unpinned {pins pl:List (Addr × Obj)} {σ:St} {H:Hp} {s:Shared} (I:zG X (pins++pl) σ H s):zG X pins σ H s:=I.pins_of λp hp=>I.pin p (List.mem_append_right _ (List.mem_append_left _ hp))
theorem zPU {iter:Expr} {body:List Stmt} {wi:TI} {g:TG} {tb:TS} {pos:Pos} (hp:PassesOwn (model X.prog X.w) X.A X.env X.xe) (hc:X.calm=true) (hi:PI X tg iter wi) (hg:PG X tg g) (hb:xC X body tb)
  (hs:∀ x,foldedSetIterable iter X.env x=pure x:=by intro _; rfl):PS X (.For tg iter body [] pos) (WB wi g tb):=by
 intro pins s σ H D I h
 refine wpAny_For (ze (hi pins s σ H _ I h) λv s1 h1=>ze h1 λitv s2 h2=>?_) hs
 obtain ⟨it,fp,tn,J,H2,e,I2,T,st2,f2,W,⟨m0,w0⟩,turn⟩:=h2
 subst e
 have stat:∀ {H':Hp},(∀ b∈fp,H' b=none)->∀ b∈fp,yP X pins H' b:=λhn b hb=>⟨hn b hb,(f2 b hb).2⟩
 refine codeAny_forLoop_any (λn s'=>∃ i σ' H',zG X pins σ' H' s'/\tn i s'.heap/\(∀ b∈fp,H' b=none)/\W i n σ' H') ?_ m0 ⟨0,σ,H2,I2,st2,λb hb=>(f2 b hb).1,w0⟩
 rintro n s3 ⟨i,σ3,H3,I3,st3,fr3,w3⟩
 rcases turn i n σ3 H3 w3 with ⟨stop,qn⟩ | ⟨go,N,hN,step⟩
 ·refine wpAny_passesOwn hp (ze (T.done X rfl rfl rfl hc i pins s3 σ3 H3 X.xe I3 (stat fr3) st3 stop) λr s4 ⟨hr,I4⟩=>?_)
  subst hr
  exact wpAny_execs_nil ⟨σ3,H3,I4,qn⟩
 ·refine wpAny_passesOwn hp (ze (T.item X rfl rfl rfl hc i pins s3 σ3 H3 X.xe I3 (stat fr3) st3 go) λr s4 ⟨u,hr,h4⟩=>?_)
  subst hr
  refine wpAny_passesOwn hp (ze h4 λ_ s5 ⟨x,H5,I5,r5,y5,st5,fr5⟩=>?_)
  have I5':=I5.pinned (stat fr5) (T.obj _ _ st5)
  refine wpAny_passesOwn hp (ze (hg _ s5 σ3 H5 x u _ I5' r5 (step x H5 y5)) λ_ s6 ⟨σ6,H6,I6,q6⟩=>?_)
  refine wpAny_passesOwn hp (ze (hb _ s6 σ6 H6 _ I6 q6) λf s7 q7=>?_)
  have again:∀ {σ7:St} {H7:Hp},zG X (pins++qA fp s5.heap) σ7 H7 s7->N σ7 H7->∃ m,m < n/\∃ i σ' H',zG X pins σ' H' s7/\tn i s7.heap/\(∀ b∈fp,H' b=none)/\W i m σ' H':=λ{σ7 H7} I7 n7=>by
   obtain ⟨m',hm,w7⟩:=hN σ7 H7 n7
   refine ⟨m',hm,i + 1,σ7,H7,I7.unpinned,T.keep _ _ _ st5 λb hb o e=>(I7.pin (b,o) (List.mem_append_right _ (List.mem_append_right _ (uw hb e)))).1,λb hb=>?_,w7⟩
   obtain ⟨o,e,d⟩:=T.obj _ _ st5 b hb
   exact (I7.pin (b,o) (List.mem_append_right _ (List.mem_append_right _ (uw hb e)))).2.1
  cases f with
  | next=>obtain ⟨σ7,H7,I7,n7⟩:=q7; exact again I7 n7
  | cont=>obtain ⟨σ7,H7,I7,n7⟩:=q7; exact again I7 n7
  | brk=>obtain ⟨σ7,H7,I7,q7⟩:=q7; exact ⟨σ7,H7,I7.unpinned,q7⟩
  | ret v=>obtain ⟨x7,σ7,H7,I7,r7,q7⟩:=q7; exact ⟨x7,σ7,H7,I7.unpinned,r7,q7⟩
end
theorem zMI {c:TT} {tb:TS} {D:xS} {σ:St} {H:Hp} (Pv:St->Hp->Prop) (μ:St->Hp->Nat) (h0:Pv σ H)
  (hs:∀ σ H,Pv σ H->c σ H λb H1=>if b=true then tb { D with nx:=λσ' H'=>Pv σ' H'/\μ σ' H' < μ σ H,ct:=λσ' H'=>Pv σ' H'/\μ σ' H' < μ σ H,bk:=D.nx } σ H1 else D.nx σ H1)
  (mono:∀ σ H Q Q',(∀ b H1,Q b H1->Q' b H1)->c σ H Q->c σ H Q'):Jv c tb D σ H:=by
 refine ⟨λm σ H=>m=μ σ H/\Pv σ H,⟨_,rfl,h0⟩,?_⟩
 rintro m σ H ⟨rfl,p⟩
 refine mono σ H _ _ (λb H1 q=>?_) (hs σ H p)
 cases b with
 | true=>exact ⟨_,λσ' H' ⟨p',l⟩=>⟨_,l,rfl,p'⟩,q⟩
 | false=>exact q
end L2
namespace L2
open PySem PySem.Spec PyProof.Rows
abbrev R2:=V->V->Hp->VK->Prop
def yw (X:Cx) (f:Value->Value->Sem Value) (r:R2):Prop:=
 ∀ (pins:List (Addr × Obj)) (s:Shared) (σ:St) (H:Hp) (x y:V) (v u:Value) (Q:VK),zG X pins σ H s->zR x v->zR y u->r x y H Q->
  wpAny (model X.prog X.w) X.A (f v u) (EP X pins σ Q) X.xe s
def WC (X:Cx) (f:Value->Sem Value) (r:V->Hp->VK->Prop):Prop:=
 ∀ (pins:List (Addr × Obj)) (s:Shared) (σ:St) (H:Hp) (x:V) (v:Value) (Q:VK),zG X pins σ H s->zR x v->r x H Q->
  wpAny (model X.prog X.w) X.A (f v) (EP X pins σ Q) X.xe s
def wz (X:Cx) (f:Value) (r:List V->Hp->VK->Prop):Prop:=
 ∀ (pins:List (Addr × Obj)) (s:Shared) (σ:St) (H:Hp) (xs:List V) (us:List Value) (Q:VK),zG X pins σ H s->zL xs us->r xs H Q->
  wpAny (model X.prog X.w) X.A (call f us) (EP X pins σ Q) X.xe s
def gA (r:R2) (ta tb:TE):TE:=λσ H Q=>ta σ H λx H1=>tb σ H1 λy H2=>r x y H2 Q
def tUn (r:V->Hp->VK->Prop) (ta:TE):TE:=λσ H Q=>ta σ H λx H1=>r x H1 Q
def rI (C:Int->Int->Prop) (g:Int->Int->V):R2:=λx y H Q=>∃ i j,x=.int i/\y=.int j/\C i j/\Q (g i j) H
def vj (g:Int->Int->V):R2:=λx y H Q=>∃ i j,x=.int i/\y=.int j/\Q (g i j) H
def rU (g:Int->V):V->Hp->VK->Prop:=λx H Q=>∃ i,x=.int i/\Q (g i) H
section
variable {X:Cx} {a b c:Expr} {ta tb tc:TE} {pos:Pos}
theorem jP (ha:PE X a ta) (hb:PE X b tb) {pins:List (Addr × Obj)} {s:Shared} {σ:St} {H:Hp} {R:V->V->Hp->Prop} (I:zG X pins σ H s)
  (h:ta σ H λx H1=>tb σ H1 λy H2=>R x y H2) {Q:Value->Shared->Prop} {f:Value->Value->Sem Value}
  (hf:∀ v u s2 x y H2,zG X pins σ H2 s2->zR x v->zR y u->R x y H2->wpAny (model X.prog X.w) X.A (f v u) Q X.xe s2) :
  wpAny (model X.prog X.w) X.A (eval a X.env) (λv s₁=>wpAny (model X.prog X.w) X.A (eval b X.env) (λu s₂=>wpAny (model X.prog X.w) X.A (f v u) Q X.xe s₂) X.xe s₁) X.xe s:=by
 refine ze (ha pins s σ H _ I h) λv s1 ⟨x,H1,I1,r1,q1⟩=>?_
 refine ze (hb pins s1 σ H1 _ I1 q1) λu s2 ⟨y,H2,I2,r2,q2⟩=>?_
 exact hf v u s2 x y H2 I2 r1 r2 q2
theorem Jx {op:Operator} {r:R2} (ho:yw X (binaryOp op) r) (ha:PE X a ta) (hb:PE X b tb):PE X (.BinOp a op b pos) (gA r ta tb):=by
 intro pins s σ H Q I h
 exact wpAny_BinOp (jP ha hb I h λv u s2 x y H2 I2 rx ry q=>ho pins s2 σ H2 x y v u Q I2 rx ry q)
theorem gB {op:UnaryOp} {r:V->Hp->VK->Prop} (ho:WC X (unaryOp op) r) (ha:PE X a ta):PE X (.UnaryOp op a pos) (tUn r ta):=by
 intro pins s σ H Q I h
 exact UnaryOp_ (ze (ha pins s σ H _ I h) λv s1 ⟨x,H1,I1,r1,q1⟩=>ho pins s1 σ H1 x v Q I1 r1 q1)
theorem Z3 {f:Value->Value->Sem Value} {C:Int->Int->Prop} {g:Int->Int->Int}
  (rule:∀ (i j:Int) (t u:Tok) (s:Shared) (Q:Value->Shared->Prop) (E:Value->Shared->Prop),C i j->Q (.int (g i j) s.toks) { s with toks:=s.toks + 1 }->wpAny (model X.prog X.w) X.A (f (.int i t) (.int j u)) Q E s) :
  yw X f (rI C λi j=>.int (g i j)):=by
 intro pins s σ H x y v u Q I rx ry h
 obtain ⟨i,j,rfl,rfl,hc,q⟩:=h
 obtain ⟨t,rfl⟩:=rx
 obtain ⟨t',rfl⟩:=ry
 exact rule i j t t' s _ _ hc ⟨.int (g i j),H,I.tok _,⟨_,rfl⟩,q⟩
theorem gC {f:Value->Value->Sem Value} {g:Int->Int->Int}
  (rule:∀ (i j:Int) (t u:Tok) (s:Shared) (Q:Value->Shared->Prop) (E:Value->Shared->Prop),Q (.int (g i j) s.toks) { s with toks:=s.toks + 1 }->wpAny (model X.prog X.w) X.A (f (.int i t) (.int j u)) Q E s) :
  yw X f (vj λi j=>.int (g i j)):=by
 intro pins s σ H x y v u Q I rx ry h
 obtain ⟨i,j,rfl,rfl,q⟩:=h
 obtain ⟨t,rfl⟩:=rx
 obtain ⟨t',rfl⟩:=ry
 exact rule i j t t' s _ _ ⟨.int (g i j),H,I.tok _,⟨_,rfl⟩,q⟩
theorem uV {f:Value->Value->Sem Value} {g:Int->Int->Bool}
  (rule:∀ (i j:Int) (t u:Tok) (s:Shared) (Q:Value->Shared->Prop) (E:Value->Shared->Prop),Q (.bool (g i j)) s->wpAny (model X.prog X.w) X.A (f (.int i t) (.int j u)) Q E s) :
  yw X f (vj λi j=>.bl (g i j)):=by
 intro pins s σ H x y v u Q I rx ry h
 obtain ⟨i,j,rfl,rfl,q⟩:=h
 obtain ⟨t,rfl⟩:=rx
 obtain ⟨t',rfl⟩:=ry
 exact rule i j t t' s _ _ ⟨.bl (g i j),H,I,rfl,q⟩
def jQ (i j:Int):Prop:=0<=j/\j<=1000000/\i.natAbs < 2 ^ 64
theorem zP2:yw X (binaryOp .Add) (vj λi j=>.int (i + j)):=gC λ_ _ _ _ _ _ _ q=>add_int q
theorem zPs:yw X (binaryOp .Sub) (vj λi j=>.int (i - j)):=gC λ_ _ _ _ _ _ _ q=>sub_int q
theorem Jy:yw X (binaryOp .Mod) (rI (λ_ j=>j≠0) λi j=>.int (i.fmod j)):=Z3 λ_ _ _ _ _ _ _ hc q=>mod_int' hc q
theorem zPu:yw X (binaryOp .Pow) (rI jQ λi j=>.int (i ^ j.toNat)):=Z3 λ_ _ _ _ _ _ _ hc q=>pow_int_small hc.1 hc.2.1 hc.2.2 q
theorem unI {f:Value->Sem Value} {g:Int->Int}
  (rule:∀ (i:Int) (t:Tok) (s:Shared) (Q:Value->Shared->Prop) (E:Value->Shared->Prop),Q (.int (g i) s.toks) { s with toks:=s.toks + 1 }->wpAny (model X.prog X.w) X.A (f (.int i t)) Q E s) :
  WC X f (rU λi=>.int (g i)):=by
 intro pins s σ H x v Q I rx h
 obtain ⟨i,rfl,q⟩:=h
 obtain ⟨t,rfl⟩:=rx
 exact rule i t s _ _ ⟨.int (g i),H,I.tok _,⟨_,rfl⟩,q⟩
theorem zOz:WC X (unaryOp .USub) (rU λi=>.int (-i)):=unI λ_ _ _ _ _ q=>neg_int q
end
def gD:V->V->Bool
 | .non,.non=>true | .non,.int _=>true | .int _,.non=>true | .non,.bl _=>true | .bl _,.non=>true | .non,.str _=>true | .str _,.non=>true
 | .int _,.int _=>true | .bl _,.bl _=>true | .str _,.str _=>true | .byt _,.byt _=>true
 | .int _,.str _=>true | .str _,.int _=>true | .bl _,.str _=>true | .str _,.bl _=>true
 | _,_=>false
def Jz:R2:=λx y H Q=>gD x y=true/\Q (.bl (decide (x=y))) H
def J0:R2:=λx y H Q=>gD x y=true/\Q (.bl (!decide (x=y))) H
theorem Z4 {i j:Int}:decide (V.int i=V.int j)=(i == j):=by
 rw [Bool.eq_iff_iff]
 simp
theorem Z5 {i j:Bool}:decide (V.bl i=V.bl j)=(i == j):=by
 rw [Bool.eq_iff_iff]
 simp
theorem J1 {i j:Str}:decide (V.str i=V.str j)=(i == j):=by
 rw [Bool.eq_iff_iff]
 simp
theorem J2 {i j:Array UInt8}:decide (V.byt i=V.byt j)=(i.toList == j.toList):=by
 rw [Bool.eq_iff_iff]
 cases i
 cases j
 simp
section
variable {X:Cx} {a b c:Expr} {ta tb tc:TE} {pos:Pos}
theorem y8 {pins:List (Addr × Obj)} {σ:St} {H:Hp} {s:Shared} {Q:VK} {k k':Bool} (I:zG X pins σ H s) (q:Q (.bl k) H) (e:k=k'):EP X pins σ Q (.bool k') s:=by
 subst e
 exact ⟨.bl k,H,I,rfl,q⟩
theorem J3:yw X (compareOp .Eq) Jz:=by
 intro pins s σ H x y v u Q I rx ry h
 obtain ⟨hs,q⟩:=h
 cases x with
 | non=>
  cases rx
  cases y with
  | non=>cases ry; exact PySem.EqNone.eq_none_none (y8 I q (by simp))
  | bl j=>cases ry; exact PySem.EqNone.eq_none_bool (y8 I q (by simp))
  | int j=>obtain ⟨t',rfl⟩:=ry; exact PySem.EqNone.eq_none_int (y8 I q (by simp))
  | str j=>obtain ⟨t',rfl⟩:=ry; exact PySem.EqNone.eq_none_str (y8 I q (by simp))
  | _=>exact absurd (show false=true from hs) Bool.false_ne_true
 | bl i=>
  cases rx
  cases y with
  | non=>cases ry; exact PySem.EqNone.eq_bool_none (y8 I q (by simp))
  | bl j=>cases ry; exact eq_bool (y8 I q Z5)
  | str j=>obtain ⟨t',rfl⟩:=ry; exact PySem.EqMixed.eq_bool_str (y8 I q (by simp))
  | _=>exact absurd (show false=true from hs) Bool.false_ne_true
 | int i=>
  obtain ⟨t,rfl⟩:=rx
  cases y with
  | non=>cases ry; exact PySem.EqNone.eq_int_none (y8 I q (by simp))
  | int j=>obtain ⟨t',rfl⟩:=ry; exact eq_int (y8 I q Z4)
  | str j=>obtain ⟨t',rfl⟩:=ry; exact PySem.EqMixed.eq_int_str (y8 I q (by simp))
  | _=>exact absurd (show false=true from hs) Bool.false_ne_true
 | str i=>
  obtain ⟨t,rfl⟩:=rx
  cases y with
  | non=>cases ry; exact PySem.EqNone.eq_str_none (y8 I q (by simp))
  | bl j=>cases ry; exact PySem.EqMixed.eq_str_bool (y8 I q (by simp))
  | int j=>obtain ⟨t',rfl⟩:=ry; exact PySem.EqMixed.eq_str_int (y8 I q (by simp))
  | str j=>obtain ⟨t',rfl⟩:=ry; exact eq_str (y8 I q J1)
  | _=>exact absurd (show false=true from hs) Bool.false_ne_true
 | byt i=>
  obtain ⟨t,rfl⟩:=rx
  cases y with
  | byt j=>obtain ⟨t',rfl⟩:=ry; exact PySem.W.eq_bytes (y8 I q J2)
  | _=>exact absurd (show false=true from hs) Bool.false_ne_true
 | _=>cases y <;> exact absurd (show false=true from hs) Bool.false_ne_true
theorem J4:yw X (compareOp .NotEq) J0:=by
 intro pins s σ H x y v u Q I rx ry h
 obtain ⟨hs,q⟩:=h
 cases x with
 | non=>
  cases rx
  cases y with
  | non=>cases ry; exact PySem.EqNone.ne_none_none (y8 I q (by simp))
  | bl j=>cases ry; exact PySem.EqNone.ne_none_bool (y8 I q (by simp))
  | int j=>obtain ⟨t',rfl⟩:=ry; exact PySem.EqNone.ne_none_int (y8 I q (by simp))
  | str j=>obtain ⟨t',rfl⟩:=ry; exact PySem.EqNone.ne_none_str (y8 I q (by simp))
  | _=>exact absurd (show false=true from hs) Bool.false_ne_true
 | bl i=>
  cases rx
  cases y with
  | non=>cases ry; exact PySem.EqNone.ne_bool_none (y8 I q (by simp))
  | bl j=>cases ry; exact ne_bool (y8 I q (congrArg not Z5))
  | str j=>obtain ⟨t',rfl⟩:=ry; exact PySem.EqMixed.ne_bool_str (y8 I q (by simp))
  | _=>exact absurd (show false=true from hs) Bool.false_ne_true
 | int i=>
  obtain ⟨t,rfl⟩:=rx
  cases y with
  | non=>cases ry; exact PySem.EqNone.ne_int_none (y8 I q (by simp))
  | int j=>obtain ⟨t',rfl⟩:=ry; exact ne_int (y8 I q (congrArg not Z4))
  | str j=>obtain ⟨t',rfl⟩:=ry; exact PySem.EqMixed.ne_int_str (y8 I q (by simp))
  | _=>exact absurd (show false=true from hs) Bool.false_ne_true
 | str i=>
  obtain ⟨t,rfl⟩:=rx
  cases y with
  | non=>cases ry; exact PySem.EqNone.ne_str_none (y8 I q (by simp))
  | bl j=>cases ry; exact PySem.EqMixed.ne_str_bool (y8 I q (by simp))
  | int j=>obtain ⟨t',rfl⟩:=ry; exact PySem.EqMixed.ne_str_int (y8 I q (by simp))
  | str j=>obtain ⟨t',rfl⟩:=ry; exact ne_str (y8 I q (congrArg not J1))
  | _=>exact absurd (show false=true from hs) Bool.false_ne_true
 | byt i=>
  obtain ⟨t,rfl⟩:=rx
  cases y with
  | byt j=>obtain ⟨t',rfl⟩:=ry; exact PySem.W.ne_bytes (y8 I q (congrArg not J2))
  | _=>exact absurd (show false=true from hs) Bool.false_ne_true
 | _=>cases y <;> exact absurd (show false=true from hs) Bool.false_ne_true
theorem J5:yw X (compareOp .Lt) (vj λi j=>.bl (decide (i < j))):=uV λ_ _ _ _ _ _ _ q=>lt_int q
theorem J7:yw X (compareOp .LtE) (vj λi j=>.bl (decide (i<=j))):=uV λ_ _ _ _ _ _ _ q=>le_int q
theorem gE:yw X (compareOp .Gt) (vj λi j=>.bl (decide (j < i))):=uV λ_ _ _ _ _ _ _ q=>gt_int q
theorem J8:yw X (compareOp .GtE) (vj λi j=>.bl (decide (j<=i))):=uV λ_ _ _ _ _ _ _ q=>ge_int q
def isObj:HO->Bool
 | .lst _=>true
 | .ins _ _ _=>true
 | _=>false
theorem yw.or {f:Value->Value->Sem Value} {r r':R2} (h:yw X f r) (h':yw X f r'):yw X f (λx y H Q=>r x y H Q\/r' x y H Q):=by
 intro pins s σ H x y v u Q I rx ry q
 rcases q with q | q
 ·exact h pins s σ H x y v u Q I rx ry q
 ·exact h' pins s σ H x y v u Q I rx ry q
theorem vx (b:Expr) {op:CmpOp} (h:op≠.In:=by decide) (h2:op≠.NotIn:=by decide):behindInMarks op b=false:=by
 have e1:(op == CmpOp.In)=false:=by cases op <;> first | rfl | exact absurd rfl h
 have e2:(op == CmpOp.NotIn)=false:=by cases op <;> first | rfl | exact absurd rfl h2
 cases b <;> simp [behindInMarks,e1,e2]
theorem zOI {op:CmpOp} {r:R2} (ho:yw X (compareOp op) r) (ha:PE X a ta) (hb:PE X b tb) (hm:behindInMarks op b=false):PE X (.Compare a [op] [b] pos) (gA r ta tb):=by
 intro pins s σ H Q I h
 exact wpAny_Compare1 (jP ha hb I h λv u s2 x y H2 I2 rx ry q=>ho pins s2 σ H2 x y v u Q I2 rx ry q) hm
def J9 (t:TE):TT:=λσ H Q=>t σ H λx H'=>∃ k,x=.bl k/\Q k H'
theorem QA {op:CmpOp} {r:R2} (ho:yw X (compareOp op) r) (ha:PE X a ta) (hb:PE X b tb) (hm:behindInMarks op b=false):PT X (.Compare a [op] [b] pos) (J9 (gA r ta tb)):=by
 intro pins s σ H Q I h
 refine wpAny_isTrue_Compare1 (ze (ha pins s σ H _ I h) λv s1 ⟨x,H1,I1,r1,q1⟩=>ze (hb pins s1 σ H1 _ I1 q1) λu s2 ⟨y,H2,I2,r2,q2⟩=>
  ze (ho pins s2 σ H2 x y v u _ I2 r1 r2 q2) λc s3 ⟨z,H3,I3,r3,k,e,q3⟩=>?_) hm
 subst e
 cases r3
 exact wpAny_truthy_bool ⟨H3,I3,q3⟩
theorem Z6:(sizeLine:Nat) < 2 ^ 63:=by rw [sizeLine_eq]; decide
theorem uK {x:V} {us:List Value} (r:zL [x] us):∃ u,us=[u]/\zR x u:=by
 cases r with
 | cons r1 r2=>cases r2; exact ⟨_,rfl,r1⟩
theorem Z7 {x y:V} {us:List Value} (r:zL [x,y] us):∃ u w',us=[u,w']/\zR x u/\zR y w':=by
 cases r with
 | cons r1 r2=>
  cases r2 with
  | cons r3 r4=>cases r4; exact ⟨_,_,rfl,r1,r3⟩
theorem zNJ:wz X (.builtin "abs") (λxs H Q=>∃ i,xs=[.int i]/\Q (.int (if i < 0 then -i else i)) H):=by
 intro pins s σ H xs us Q I r h
 obtain ⟨i,rfl,q⟩:=h
 obtain ⟨u,rfl,t,rfl⟩:=uK r
 exact call_abs_int λu tk=>⟨.int (if i < 0 then -i else i),H,I.tok _,⟨_,rfl⟩,q⟩
theorem gF (hc:X.calm=true):wz X (.builtin "max") (λxs H Q=>∃ i j,xs=[.int i,.int j]/\Q (.int (if j > i then j else i)) H):=by
 intro pins s σ H xs us Q I r h
 obtain ⟨i,j,rfl,q⟩:=h
 obtain ⟨u,w',rfl,⟨t,rfl⟩,⟨t',rfl⟩⟩:=Z7 r
 refine max_two_ints (I.ok.hd hc) λh' tk k=>⟨_,H,I.kept k,?_,q⟩
 by_cases hj:j > i
 ·rw [if_pos hj,if_pos hj]; exact ⟨_,rfl⟩
 ·rw [if_neg hj,if_neg hj]; exact ⟨_,rfl⟩
theorem QB:wz X (.type "int") (λxs H Q=>(∃ i,xs=[.int i]/\Q (.int i) H)\/∃ k,xs=[.bl k]/\Q (.int (if k then 1 else 0)) H):=by
 intro pins s σ H xs us Q I r h
 rcases h with ⟨i,rfl,q⟩ | ⟨k,rfl,q⟩
 ·obtain ⟨u,rfl,t,rfl⟩:=uK r
  exact call_int_int ⟨.int i,H,I,⟨_,rfl⟩,q⟩
 ·obtain ⟨u,rfl,r1⟩:=uK r
  cases r1
  exact call_int_bool ⟨.int (if k then 1 else 0),H,I.tok _,⟨_,rfl⟩,q⟩
end
end L2
namespace L2
open PySem PySem.Spec PyProof.Rows
structure w4 (h:Heap) (x dx C:Addr) (mA:Str->Option Value):Prop where
 obj:h.get? x=some (PySem.W.instObj C dx)
 ns:h.Ns1 dx mA
 ne:dx≠x
theorem zK9 {h:Heap} {dx:Addr} {mA:Str->Option Value} (n:h.Ns1 dx mA):∃ od,h.get? dx=some od/\∀ name,PySem.W.lookIn name od=some (mA name):=by
 obtain ⟨o,es,ep,ho,hd,hk,_,hm⟩:=n
 refine ⟨o,ho,λname=>?_⟩
 have e:=hm name
 unfold nsFind findBy at e
 rw [<- Array.find?_toList] at e
 unfold PySem.W.lookIn
 rw [hd]
 dsimp only
 split
 ·rename_i y q
  rw [q] at e
  exact congrArg some e
 ·rename_i q
  rw [q] at e
  have a:es.toList.any (·.refKey)=false:=by
   rw [List.any_eq_false]
   intro y hy
   obtain ⟨z,t,hkey⟩:=hk y (Array.mem_toList_iff.mp hy)
   simp [DictEntry.refKey,hkey]
  have a':¬ es.toList.any (·.refKey)=true:=by rw [a]; exact Bool.false_ne_true
  rw [if_neg a']
  exact congrArg some e
theorem w4.look {h:Heap} {x dx C:Addr} {mA:Str->Option Value} (I:w4 h x dx C mA):∃ od,PySem.W.InstAt h x (PySem.W.instObj C dx) C (some od)/\∀ name,PySem.W.lookIn name od=some (mA name):=
 let ⟨od,ho,hl⟩:=zK9 I.ns
 ⟨od,⟨I.obj,rfl,rfl,ho⟩,hl⟩
section
variable {prog:Program} {w:World} {A:Around} {E:Value->Shared->Prop} {s:Shared} {K:PySem.W.Frag} {x dx C f:Addr} {mA:Str->Option Value} {name:Str} {v:Value}
theorem gG {expr:Bool} {Q:Value->Shared->Prop} (X:K.In s.heap) (I:w4 s.heap x dx C mA) (hg:PySem.W.plainGet K C name=true) (hh:PySem.W.hasDictIn K C=true)
  (ha:PySem.W.findIn K (.ref C) name=some none) (hv:mA name=some v) (hv':PySem.W.handedIn v=true) (h:Q v { s with toks:=s.toks + 1 }) :
  wpAny (model prog w) A (getAttr (.ref x) name expr) Q E s:=by
 obtain ⟨od,J,hl⟩:=I.look
 exact PySem.W.get_value X J (PySem.W.plainGet_of hg).1 (PySem.W.findObj_own hh ha rfl (by rw [hl,hv])) hv' h
theorem zNA {pl:Sem Bool} {Q:Value × List Value->Shared->Prop} (X:K.In s.heap) (I:w4 s.heap x dx C mA) (hg:PySem.W.plainGet K C name=true)
  (hf:PySem.W.findIn K (.ref C) name=some (some (.ref f))) (ht:PySem.W.isFn K (.ref f)=true) (hv:mA name=none) (h:Q (.ref f,[.ref x]) s) :
  wpAny (model prog w) A (getMethod (.ref x) name pl) Q E s:=by
 obtain ⟨od,J,hl⟩:=I.look
 exact PySem.W.method_fn X J (PySem.W.plainGet_of hg).1 (PySem.W.plainGet_of hg).2 hf (beq_iff_eq.mp ht) (by show (PySem.W.lookIn name od).map (·.isSome)=some false; rw [hl,hv]; rfl) h
theorem zN6 {ns:List Str} {Q:Unit->Shared->Prop} (X:K.In s.heap) (I:w4 s.heap x dx C mA)
  (hs:PySem.W.findIn K (.ref C) "__setattr__" = some (some (.builtin "object.__setattr__"))) (hp:PySem.W.plainOver K C=true) (ht:PySem.W.takerIn K C name=some none) (hh:PySem.W.hasDictIn K C=true)
  (hw:PySem.Within mA ns) (hsz:ns.length<=sizeLine)
  (h:∀ h',w4 h' x dx C (λy=>if y=name then some v else mA y)->Heap.SameBut dx s.heap h'->Q () { s with heap:=h',toks:=s.toks + 2 }) :
  wpAny (model prog w) A (setAttr (.ref x) name v) Q E s:=by
 obtain ⟨od,J,hl⟩:=I.look
 refine PySem.W.set_plain X J hs (PySem.W.osa_open (s:={ s with toks:=s.toks + 1 }) (r:=none) X J hp ht λb=>?_)
 obtain ⟨cd,hc,hd'⟩:=PySem.W.any_some hh
 have hx:s.heap.get? x=some ⟨.ref C,some dx,.plain,#[]⟩:=I.obj
 refine wpAny_bind (wpAny_pure (wpAny_bind (wpAny_bind (wpAny_loadPart hx (wpAny_bind (PySem.W.Looks.here (s:={ s with toks:=s.toks + 1 }) (PySem.W.looks_clsIn X hc) ?_))))))
 rw [hd']
 refine wpAny_pure (a:=some dx) (wpAny_bind (wpAny_pure (wpAny_bind ?_)))
 refine wpAny_nsSet1 (s:={ s with toks:=s.toks + 1 }) I.ns λh' hn2 hs2=>?_
 obtain ⟨oD,esD,epD,hoD,hdD,hcD⟩:=hn2.count (PySem.Within.cons name v hw)
 refine wpAny_bind (wpAny_lookBehind hoD (by rw [hdD]; exact pastItsLine_dict (Nat.le_trans hcD (by rw [List.length_cons]; omega))) ?_)
 exact wpAny_pure (h _ ⟨(hs2.2 _ (Ne.symm I.ne)).trans I.obj,hn2,I.ne⟩ hs2)
theorem zM5 {R:Result->Shared->Prop} {vs:List Value} {kw:List (Str × Value)} (X:K.In s.heap) (hm:PySem.W.makesIn K C=true)
  (hi:PySem.W.findIn K (.ref C) "__init__" = some (some (.ref f))) (hf:PySem.W.typeIn K (.ref f)=some (.type "function"))
  (h:codeAny (model prog w) (A.under (.builtin "type.__call__" ⟨.ref C :: vs,kw⟩)) (.call (.ref f) ⟨.ref (s.heap.objs.size + 1) :: vs,kw⟩) (PySem.W.InitBack (s.heap.objs.size + 1) R)
   { s with heap:=(s.heap.push PySem.W.emptyDict).push (PySem.W.instObj C s.heap.objs.size) }) :
  codeAny (model prog w) A (.call (.ref C) ⟨vs,kw⟩) R s:=by
 obtain ⟨hh,g,d,t,os⟩:=s
 exact PySem.W.make_core (PySem.W.makes_of X hm) (PySem.W.looks_findIn X hi) (λself=>PySem.W.bind_fn X self hf) (.inl rfl) h
end
def yb (f:Str) (v:V):List (Str × V)->List (Str × V)
 | []=>[(f,v)]
 | (g,x) :: r=>if g=f then (g,v) :: r else (g,x) :: yb f v r
theorem QC (f g:Str) (v:V):∀ fs:List (Str × V),(yb f v fs).lookup g=if g=f then some v else fs.lookup g
 | []=>by
  show List.lookup g [(f,v)]=_
  by_cases h:g=f
  ·have hb:(g == f)=true:=beq_iff_eq.mpr h
   simp only [List.lookup,hb,if_pos h]
  ·have hb:(g == f)=false:=beq_eq_false_iff_ne.mpr h
   simp only [List.lookup,hb,if_neg h]
 | (k,x) :: r=>by
  have ih:=QC f g v r
  rw [show yb f v ((k,x) :: r)=(if k=f then (k,v) :: r else (k,x) :: yb f v r) from rfl]
  by_cases hk:k=f
  ·rw [if_pos hk]
   by_cases h:g=k
   ·have hb:(g == k)=true:=beq_iff_eq.mpr h
    simp only [List.lookup,hb,if_pos (h.trans hk)]
   ·have hb:(g == k)=false:=beq_eq_false_iff_ne.mpr h
    simp only [List.lookup,hb,if_neg (λe:g=f=>h (e.trans hk.symm))]
  ·rw [if_neg hk]
   by_cases h:g=k
   ·have hb:(g == k)=true:=beq_iff_eq.mpr h
    simp only [List.lookup,hb,if_neg (λe:g=f=>hk (h.symm.trans e))]
   ·have hb:(g == k)=false:=beq_eq_false_iff_ne.mpr h
    simp only [List.lookup,hb]
    exact ih
theorem WD (f:Str) (v:V):∀ fs:List (Str × V),f∈(yb f v fs).map (·.1)/\∀ g,g∈fs.map (·.1)->g∈(yb f v fs).map (·.1)
 | []=>⟨by simp [yb],λg h=>by simp at h⟩
 | (k,x) :: r=>by
  obtain ⟨i1,i2⟩:=WD f v r
  rw [show yb f v ((k,x) :: r)=(if k=f then (k,v) :: r else (k,x) :: yb f v r) from rfl]
  by_cases hk:k=f
  ·rw [if_pos hk]
   subst hk
   exact ⟨by simp,λg h=>by simpa using h⟩
  ·rw [if_neg hk]
   refine ⟨?_,λg h=>?_⟩
   ·rw [List.map_cons]
    exact List.mem_cons_of_mem _ i1
   ·rw [List.map_cons] at h |-
    rcases List.mem_cons.mp h with e | e
    ·exact List.mem_cons.mpr (.inl e)
    ·exact List.mem_cons_of_mem _ (i2 g e)
theorem QD (f:Str) (v:V):∀ fs:List (Str × V),(yb f v fs).length<=fs.length + 1
 | []=>by simp [yb]
 | (k,x) :: r=>by
  have ih:=QD f v r
  rw [show yb f v ((k,x) :: r)=(if k=f then (k,v) :: r else (k,x) :: yb f v r) from rfl]
  by_cases hk:k=f
  ·rw [if_pos hk,List.length_cons,List.length_cons]; omega
  ·rw [if_neg hk,List.length_cons,List.length_cons]; omega
theorem xa.some_of {v:V} {o:Option Value} (r:xa (some v) o):∃ u,o=some u/\zR v u:=by
 cases o with
 | none=>exact (show False from r).elim
 | some u=>exact ⟨u,rfl,r⟩
theorem xa.none_of {o:Option Value} (r:xa none o):o=none:=by
 cases o with
 | none=>rfl
 | some u=>exact (show False from r).elim
theorem zLI {v:V} {u:Value} (r:zR v u):PySem.W.handedIn u=true:=by
 cases v with
 | non=>cases (show u=Value.none from r); rfl
 | bl b=>cases (show u=Value.bool b from r); rfl
 | int i=>obtain ⟨t,e⟩:=(show ∃ t,u=Value.int i t from r); cases e; rfl
 | str x=>obtain ⟨t,e⟩:=(show ∃ t,u=Value.str x t from r); cases e; rfl
 | byt b=>obtain ⟨t,e⟩:=(show ∃ t,u=Value.bytes b t from r); cases e; rfl
 | flt b=>obtain ⟨t,e⟩:=(show ∃ t,u=Value.float b t from r); cases e; rfl
 | ref a=>cases (show u=Value.ref a from r); rfl
 | ty n=>cases (show u=Value.type n from r); rfl
section
variable {P:Program} {w:World} {H H':Hp} {h h':Heap} {a C dx:Addr} {fs fs':List (Str × V)}
theorem Z8 (hok:xF P w H h) (e:H a=some (.ins C dx fs)):∃ mA,w4 h a dx C mA/\(∀ f,xa (fs.lookup f) (mA f))/\PySem.Within mA (fs.map (·.1))/\fs.length<=1000/\H dx=some (.own a):=by
 obtain ⟨d,z,ne,ob,mA,n,r,q⟩:=(show xx P w H h a (.ins C dx fs) from hok a _ e)
 exact ⟨mA,⟨ob,n,ne⟩,r,q,z,d⟩
end
structure vy (K:PySem.W.Frag) (C:Addr):Prop where
 pg:PySem.W.plainGet K C Str.empty=true
 hd:PySem.W.hasDictIn K C=true
 po:PySem.W.plainOver K C=true
 sa:PySem.W.findIn K (.ref C) "__setattr__" = some (some (.builtin "object.__setattr__"))
theorem vy.get {K:PySem.W.Frag} {C:Addr} (c:vy K C) (f:Str):PySem.W.plainGet K C f=true:=c.pg
def yh (K:PySem.W.Frag) (C:Addr) (f:Str):Prop:=PySem.W.findIn K (.ref C) f=some none
theorem yh.taker {K:PySem.W.Frag} {C:Addr} {f:Str} (n:yh K C f):PySem.W.takerIn K C f=some none:=by
 unfold PySem.W.takerIn
 rw [show PySem.W.findIn K (.ref C) f=some none from n]
 rfl
structure jR (K:PySem.W.Frag) (C:Addr) (m:Str) (f:Addr):Prop where
 at_:PySem.W.findIn K (.ref C) m=some (some (.ref f))
 fn:PySem.W.isFn K (.ref f)=true
 kp:PySem.W.keepIn K (.ref f)=true
section
variable {X:Cx} {pins:List (Addr × Obj)} {σ:St} {H:Hp} {s:Shared} {a C dx:Addr} {fs:List (Str × V)} {f:Str} {v:V} {A:Around} {E:Value->Shared->Prop}
theorem zJu {b:Bool} {Q:Value->Shared->Prop} (I:zG X pins σ H s) (e:H a=some (.ins C dx fs)) (c:vy X.K C) (n:yh X.K C f) (l:fs.lookup f=some v)
  (h:∀ u s',zG X pins σ H s'->zR v u->Q u s'):wpAny (model X.prog X.w) A (getAttr (.ref a) f b) Q E s:=by
 obtain ⟨mA,O,r,_,_,_⟩:=Z8 I.hok e
 obtain ⟨u,hu,ru⟩:=xa.some_of (v:=v) (o:=mA f) (by rw [<- l]; exact r f)
 exact gG I.kIn O (c.get f) c.hd n hu (zLI ru) (h u _ (I.tok _) ru)
theorem zJt {m:Str} {g:Addr} {pl:Sem Bool} {Q:Value × List Value->Shared->Prop} (I:zG X pins σ H s) (e:H a=some (.ins C dx fs)) (c:vy X.K C) (k:jR X.K C m g) (l:fs.lookup m=none)
  (h:Q (.ref g,[.ref a]) s):wpAny (model X.prog X.w) A (getMethod (.ref a) m pl) Q E s:=by
 obtain ⟨mA,O,r,_,_,_⟩:=Z8 I.hok e
 have hn:mA m=none:=xa.none_of (by rw [<- l]; exact r m)
 exact zNA I.kIn O (c.get m) k.at_ k.fn hn h
theorem zJX {y:V} {u:Value} {Q:Unit->Shared->Prop} (I:zG X pins σ H s) (e:H a=some (.ins C dx fs)) (c:vy X.K C) (n:yh X.K C f) (hl:fs.length < 1000) (ry:zR y u)
  (h:∀ s',zG X pins σ (zZ H a (.ins C dx (yb f y fs))) s'->Q () s'):wpAny (model X.prog X.w) A (setAttr (.ref a) f u) Q E s:=by
 obtain ⟨mA,O,r,wi,_,ho⟩:=Z8 I.hok e
 have hz:(fs.map (·.1)).length<=sizeLine:=by rw [List.length_map,sizeLine_eq]; omega
 refine zN6 I.kIn O c.sa c.po n.taker c.hd wi hz λh' O' sb=>h _ ?_
 have hd:∃ o,h'.get? dx=some o:=let ⟨o,_,_,e',_⟩:=O'.ns; ⟨o,e'⟩
 refine I.write (x:=a) (e:=dx) (by rw [e]; exact True.intro) (.inr ho) (λb q hb z=>(sb.2 b hb).trans z) hd ?_
 refine ⟨by rw [zt O.ne]; exact ho,?_,O.ne,O'.obj,_,O'.ns,λg=>?_,λg hg=>?_⟩
 ·have:=QD f y fs; omega
 ·show xa ((yb f y fs).lookup g) (if g=f then some u else mA g)
  rw [QC]
  by_cases q:g=f
  ·rw [if_pos q,if_pos q]; exact ry
  ·rw [if_neg q,if_neg q]; exact r g
 ·by_cases q:g=f
  ·rw [q]; exact (WD f y fs).1
  ·refine (WD f y fs).2 g (wi g λz=>hg ?_)
   show (if g=f then some u else mA g)=none
   rw [if_neg q]; exact z
theorem zG.made (I:zG X pins σ H s):zG X pins σ (zZ (zZ H s.heap.objs.size (.own (s.heap.objs.size + 1))) (s.heap.objs.size + 1) (.ins C s.heap.objs.size []))
  { s with heap:=(s.heap.push PySem.W.emptyDict).push (PySem.W.instObj C s.heap.objs.size) }:=by
 have e1:(s.heap.push PySem.W.emptyDict).get? s.heap.objs.size=some PySem.W.emptyDict:=Heap.get?_push_size s.heap rfl
 have e2:((s.heap.push PySem.W.emptyDict).push (PySem.W.instObj C s.heap.objs.size)).get? (s.heap.objs.size + 1)=some (PySem.W.instObj C s.heap.objs.size):=by
  have:=Heap.get?_push_size (s.heap.push PySem.W.emptyDict) (o:=PySem.W.instObj C s.heap.objs.size) rfl
  rwa [Heap.size_push] at this
 have e3:(s.heap.push PySem.W.emptyDict).Ns s.heap.objs.size (λ_=>none):=⟨PySem.W.emptyDict,#[],_,e1,rfl,(λe he=>absurd he (by simp)),λ_=>rfl⟩
 have I1:=I.laid (a:=s.heap.objs.size) (o:=.own (s.heap.objs.size + 1)) (h':=s.heap.push PySem.W.emptyDict) (t':=s.toks) (λb u q=>Heap.get?_push_of_some _ q) (Nat.le_refl _) ⟨_,e1⟩
 refine I1.laid (a:=s.heap.objs.size + 1) (o:=.ins C s.heap.objs.size []) (t':=s.toks) (λb u q=>Heap.get?_push_of_some _ q) (Nat.le_of_eq (Heap.size_push _ _)) ?_
 have ne:s.heap.objs.size≠s.heap.objs.size + 1:=Nat.ne_of_lt (Nat.lt_succ_self _)
 refine ⟨by rw [zt ne,wQ],Nat.zero_le _,ne,e2,λ_=>none,(Heap.Ns1.of_empty e3).at λo q=>Heap.get?_push_of_some _ q,λ_=>True.intro,λy hy=>absurd rfl hy⟩
theorem zOu {prog:Program} {w:World} {env:Env} {e:Expr} {f:Str} {pos:Pos} {s:Shared} {Q:Value->Shared->Prop} (hb:attributeBase e f env (eval e env)=eval e env)
  (h:wpAny (model prog w) A (eval e env) (λo s₁=>wpAny (model prog w) A (getAttr o f true) Q E s₁) E s):wpAny (model prog w) A (eval (.Attribute e f pos) env) Q E s:=
 Attribute_any_ h (by rw [arm_eval_Attribute,hb])
end
def WE (K:PySem.W.Frag) (ta:TE) (f:Str):TE:=λσ H Q=>ta σ H λx H1=>∃ a C dx fs v,x=.ref a/\H1 a=some (.ins C dx fs)/\vy K C/\yh K C f/\fs.lookup f=some v/\Q v H1
def gH (K:PySem.W.Frag) (ta tv:TE) (f:Str):TS:=λD σ H=>tv σ H λy H1=>ta σ H1 λx H2=>∃ a C dx fs,x=.ref a/\H2 a=some (.ins C dx fs)/\vy K C/\yh K C f/\fs.length < 1000∧
 D.nx σ (zZ H2 a (.ins C dx (yb f y fs)))
section
variable {X:Cx} {o e value:Expr} {f:Str} {pos pos' tpos:Pos} {ta tv:TE}
theorem zPm (he:PE X e ta) (hb:attributeBase e f X.env (eval e X.env)=eval e X.env):PE X (.Attribute e f pos) (WE X.K ta f):=by
 intro pins s σ H Q I h
 refine zOu hb (ze (he pins s σ H _ I h) λu s1 ⟨x,H1,I1,rx,a,C,dx,fs,v,ex,ea,c,n,l,q⟩=>?_)
 subst ex
 obtain rfl:u=Value.ref a:=rx
 exact zJu I1 ea c n l λu' s2 I2 ru=>⟨v,H1,I2,ru,q⟩
theorem xb (ha:PE X o ta) (hv:PE X value tv) (hs:swapsWith value (some (.Attribute o f pos')) pos.line X.env=pure false):PS X (.Assign [.Attribute o f pos'] value pos) (gH X.K ta tv f):=by
 intro pins s σ H D I h
 refine plainObj_wpAny_Assign_Attribute (ze (hv pins s σ H _ I h) λu s1 ⟨y,H1,I1,ry,q⟩=>ze (ha pins s1 σ H1 _ I1 q) λov s2 ⟨x,H2,I2,rx,a,C,dx,fs,ex,ea,c,n,l,q2⟩=>?_) hs
 subst ex
 obtain rfl:ov=Value.ref a:=rx
 exact zJX I2 ea c n l ry λs3 I3=>⟨σ,_,I3,q2⟩
end
section
variable {X:Cx} {pins:List (Addr × Obj)} {σ:St} {H:Hp} {s:Shared} {A:Around} {E:Value->Shared->Prop} {Q:Value->Shared->Prop} {c:Value} {b:Bool}
inductive yK (K:PySem.W.Frag) (H:Hp):V->Value->Prop where
 | non:yK K H .non (.type "NoneType")
 | bl (x:Bool):yK K H (.bl x) (.type "bool")
 | int (i:Int):yK K H (.int i) (.type "int")
 | str (x:Str):yK K H (.str x) (.type "str")
 | flt (x:UInt64):yK K H (.flt x) (.type "float")
 | lst {a:Addr} {xs:List V} (e:H a=some (.lst xs)):yK K H (.ref a) (.type "list")
 | frz {a:Addr} {o:Obj} {xs:List V} (e:H a=some (.frz o (.lst xs))):yK K H (.ref a) (.type "list")
 | tup {a:Addr} {xs:List V} (e:H a=some (.tup xs)):yK K H (.ref a) (.type "tuple")
 | dK {a:Addr} {kvs:List (xw × V)} (e:H a=some (.dK kvs)):yK K H (.ref a) (.type "dict")
 | dT {a:Addr} {kvs:List (List xw × V)} (e:H a=some (.dT kvs)):yK K H (.ref a) (.type "dict")
 | ins {a C dx:Addr} {fs:List (Str × V)} (e:H a=some (.ins C dx fs)) (cl:vy K C) (ha:PySem.W.findIn K (.ref C) "__class__" = some (some (.builtin "object.__class__")))
   (hn:PySem.W.specialIn K (.builtin "object.__class__") "__get__" = some (some (.builtin "getset_descriptor.__get__"))) (htk:PySem.W.takesIn K (.builtin "object.__class__")=some true)
   (hm:PySem.W.mroIn K C (.type "object")=some true):yK K H (.ref a) (.ref C)
theorem QE {x:V} {u t:Value} (I:zG X pins σ H s) (rx:zR x u) (ty:yK X.K H x t) (e:PySem.W.kitOne X.K t c=some b) (h:∀ tk,Q (.bool b) { s with toks:=tk }) :
  wpAny (model X.prog X.w) A (call (.builtin "isinstance") [u,c]) Q E s:=by
 cases ty with
 | non=>cases (show u=Value.none from rx); exact PySem.W.kia_one PySem.W.kitx_none I.kIn True.intro e (λz=>nomatch z) h
 | bl y=>cases (show u=Value.bool y from rx); exact PySem.W.kia_one PySem.W.kitx_bool I.kIn True.intro e (λz=>nomatch z) h
 | int i=>obtain ⟨t,q⟩:=(show ∃ t,u=Value.int i t from rx); cases q; exact PySem.W.kia_one PySem.W.kitx_int I.kIn True.intro e (λz=>nomatch z) h
 | str y=>obtain ⟨t,q⟩:=(show ∃ t,u=Value.str y t from rx); cases q; exact PySem.W.kia_one PySem.W.kitx_str I.kIn True.intro e (λz=>nomatch z) h
 | flt y=>obtain ⟨t,q⟩:=(show ∃ t,u=Value.float y t from rx); cases q; exact PySem.W.kia_one PySem.W.kitx_float I.kIn True.intro e (λz=>nomatch z) h
 | @lst a xs ea=>
  cases (show u=Value.ref a from rx)
  obtain ⟨_,_,n,_,h1⟩:=(show xx X.prog X.w H s.heap a (.lst xs) from I.hok a _ ea)
  exact PySem.W.kia_one PySem.W.kitx_list I.kIn ⟨_,h1,rfl⟩ e (λz=>nomatch z) h
 | @frz a ob xs ea=>
  cases (show u=Value.ref a from rx)
  obtain ⟨_,_,_,n,_,h1⟩:=(show xx X.prog X.w H s.heap a (.frz ob (.lst xs)) from I.hok a _ ea)
  exact PySem.W.kia_one PySem.W.kitx_list I.kIn ⟨_,h1,rfl⟩ e (λz=>nomatch z) h
 | @tup a xs ea=>
  cases (show u=Value.ref a from rx)
  obtain ⟨_,_,_,p⟩:=(show xx X.prog X.w H s.heap a (.tup xs) from I.hok a _ ea)
  obtain ⟨o,h1,h2,_⟩:=p
  exact PySem.W.kia_one PySem.W.kitx_tuple I.kIn ⟨o,h1,h2⟩ e (λz=>nomatch z) h
 | @dK a kvs ea=>
  cases (show u=Value.ref a from rx)
  obtain ⟨_,_,vs,_,p⟩:=(show xx X.prog X.w H s.heap a (.dK kvs) from I.hok a _ ea)
  obtain ⟨o,es,ep,h1,h2,_⟩:=p
  exact PySem.W.kia_one PySem.W.kitx_dict I.kIn ⟨o,h1,h2.1⟩ e (λz=>nomatch z) h
 | @dT a kvs ea=>
  cases (show u=Value.ref a from rx)
  obtain ⟨_,_,xs,_,o,es,ep,h1,h2,_⟩:=(show xx X.prog X.w H s.heap a (.dT kvs) from I.hok a _ ea)
  exact PySem.W.kia_one PySem.W.kitx_dict I.kIn ⟨o,h1,h2.1⟩ e (λz=>nomatch z) h
 | @ins a C dx fs ea cl ha hn htk hm=>
  cases (show u=Value.ref a from rx)
  obtain ⟨mA,O,_⟩:=Z8 I.hok ea
  obtain ⟨od,J,_⟩:=O.look
  exact PySem.W.kia_one (PySem.W.kitx_own (cl.get _) cl.hd ha hn htk hm) I.kIn J e (λz=>nomatch z) h
end
end L2
namespace L2
open PySem PySem.Spec PyProof.Rows
structure zh (k:Nat) (A:Around):Prop where
 hd:A.handled=none
 dp:A.depth + 3 * k + 5 < recursionLimit
 un:A.units + 16 * k + 200 < cLine
theorem zh.mono {j k:Nat} {A:Around} (r:zh k A) (h:j<=k):zh j A:=⟨r.hd,by have:=r.dp; omega,by have:=r.un; omega⟩
theorem zh.deeper {k:Nat} {A:Around} (r:zh (k + 1) A) (env:Env):zh k (A.deeper env):=
 ⟨r.hd,by have:=r.dp; show A.depth + 1 + 3 * k + 5 < _; omega,by have:=r.un; show A.units + 3 + 16 * k + 200 < _; omega⟩
theorem zJr {A:Around} {C:Addr} {us:List Value} {kw:List (Str × Value)}:(A.under (.builtin "type.__call__" ⟨.ref C :: us,kw⟩)).depth=A.depth + 1:=by
 first | rfl | simp [Around.under,Code.weight,Code.isCreation,Code.isGuard,Code.isCaller,Code.frames,Code.isFrame,guardIds]
theorem zJq {A:Around} {C:Addr} {us:List Value} {kw:List (Str × Value)}:(A.under (.builtin "type.__call__" ⟨.ref C :: us,kw⟩)).units=A.units + 1:=by
 first | rfl | simp [Around.under,Code.cUnits,Code.frames,Code.isFrame]
theorem zh.make {k:Nat} {A:Around} (r:zh (k + 1) A) (C:Addr) (us:List Value) (kw:List (Str × Value)):zh k (A.under (.builtin "type.__call__" ⟨.ref C :: us,kw⟩)):=
 ⟨r.hd,by have:=r.dp; rw [zJr]; omega,by have:=r.un; rw [zJq]; omega⟩
theorem zh.depth {k:Nat} {A:Around} (r:zh k A):A.depth < recursionLimit:=by have:=r.dp; omega
theorem zh.units {k:Nat} {A:Around} (r:zh k A):A.units + 64 < cLine:=by have:=r.un; omega
def vS:TA:=λ_ H Q=>Q [] H
def qB (ta:TE) (tr:TA):TA:=λσ H Q=>ta σ H λx H1=>tr σ H1 λxs H2=>Q (x :: xs) H2
section
variable {X:Cx} {e:Expr} {es:List Expr} {te:TE} {t:TA} {pos:Pos}
theorem yI:PA X [] vS:=λ_ _ _ _ H Q I h=>Calls.spliced_nil ⟨[],H,I,.nil,h⟩
theorem zl (ha:PE X e te) (hr:PA X es t) (hs:starEach (e :: es) X.env=(false,eval e X.env) :: starEach es X.env:=by rfl):PA X (e :: es) (qB te t):=by
 intro pos pins s σ H Q I h
 rw [hs]
 show wpAny _ _ (spliced ((false,eval e X.env) :: backTo pos (starEach es X.env))) _ _ s
 refine Calls.spliced_cons (ze (ha pins s σ H _ I h) λu s1 ⟨x,H1,I1,r1,q1⟩=>?_)
 exact ze (hr pos pins s1 σ H1 _ I1 q1) λus s2 ⟨xs,H2,I2,r2,q2⟩=>⟨x :: xs,H2,I2,.cons r1 r2,q2⟩
def WF (t:TA):TE:=λσ H Q=>t σ H λxs H1=>xs.length<=sizeLine/\∀ p,H1 p=none->Q (.ref p) (zZ H1 p (.tup xs))
def WG (t:TA):TE:=λσ H Q=>t σ H λxs H1=>xs.length<=sizeLine/\∀ p,H1 p=none->Q (.ref p) (zZ H1 p (.lst xs))
theorem zPg {x1} (h:PA X es t):PE X (.Tuple es x1 pos) (WF t):=by
 intro pins s σ H Q I hq
 refine wpAny_Tuple_spliced (ze (h pos pins s σ H _ I hq) λus s1 ⟨xs,H1,I1,r,z,q⟩=>⟨by rw [<- r.length]; exact z,?_⟩)
 have hf:H1 s1.heap.objs.size=none:=I1.hok.fresh (Nat.le_refl _)
 refine ⟨.ref s1.heap.objs.size,zZ H1 s1.heap.objs.size (.tup xs),I1.laid (t':=s1.toks) (λb u e=>Heap.get?_push_of_some _ e) (Nat.le_refl _) ?_,rfl,q _ hf⟩
 exact ⟨z,us,r,⟨_,Heap.get?_push_size _ rfl,rfl,_,rfl⟩⟩
theorem QF (h:PA X es t):PE X (.List es pos) (WG t):=by
 intro pins s σ H Q I hq
 refine wpAny_List_spliced (ze (h pos pins s σ H _ I hq) λus s1 ⟨xs,H1,I1,r,z,q⟩=>⟨by rw [<- r.length]; exact z,?_⟩)
 have hf:H1 s1.heap.objs.size=none:=I1.hok.fresh (Nat.le_refl _)
 refine ⟨.ref s1.heap.objs.size,zZ H1 s1.heap.objs.size (.lst xs),I1.laid (t':=s1.toks) (λb u e=>Heap.get?_push_of_some _ e) (Nat.le_refl _) ?_,rfl,q _ hf⟩
 exact ⟨z,us,0,r,Heap.get?_push_size _ rfl⟩
end
abbrev Sp:=List V->Hp->VK->XK->Prop
abbrev vT:=List Env->Hp->Shared->XK->Value->Shared->Prop
structure w6 (P:Program) (w:World) (K:PySem.W.Frag) (mg:Str->Option Value) (base:Heap) (A:Around) (outer:List Env) (s:Shared) (H:Hp):Prop where
 frames:A.frames=some outer
 mod:Mod K mg base
 bs:∀ b o,base.get? b=some o->s.heap.get? b=some o/\H b=none
 bsz:base.objs.size<=s.heap.objs.size
 funs:s.heap.FunFrames base outer
 frf:∀ b∈wj outer,H b=none
 hok:xF P w H s.heap
 bare:AllBare s.gens
def CE (outer:List Env) (P:Program) (w:World) (H:Hp) (s:Shared) (Q:VK) (u:Value) (s':Shared):Prop:=
 ∃ v H',s'.os=s.os/\AllBare s'.gens/\Un (wj outer) [] H H' s.heap s'.heap/\xF P w H' s'.heap/\zR v u/\Q v H'
def CR (CX:vT) (outer:List Env) (P:Program) (w:World) (H:Hp) (s:Shared) (Q:VK) (E:XK) (r:Result) (s':Shared):Prop:=
 match r with
 | .ok (.ret u)=>CE outer P w H s Q u s'
 | .ok _=>False
 | .error e=>CX outer H s E e s'
structure zH (P:Program) (w:World) (K:PySem.W.Frag) (mg:Str->Option Value) (base:Heap) (CX:vT) (k:Nat) (f:Addr) (fd:FuncData) (ps:List Str) (sp:Sp):Prop where
 len:∀ vs H Q E,sp vs H Q E->vs.length=ps.length
 run:∀ (A:Around) (outer:List Env) (s:Shared) (H:Hp) (args:Args) (us:List Value) (vs:List V) (Q:VK) (E:XK),zh k A->w6 P w K mg base A outer s H->BindsTo s fd args (ps.zip us)->zL vs us->sp vs H Q E->
  codeAny (model P w) A (.call (.ref f) args) (CR CX outer P w H s Q E) s
theorem zH.mono {P:Program} {w:World} {K:PySem.W.Frag} {mg:Str->Option Value} {base:Heap} {CX:vT} {j k:Nat} {f:Addr} {fd:FuncData} {ps:List Str} {sp:Sp} (F:zH P w K mg base CX j f fd ps sp) (h:j<=k) :
  zH P w K mg base CX k f fd ps sp:=⟨F.len,λA outer s H args us vs Q E hr=>F.run A outer s H args us vs Q E (hr.mono h)⟩
theorem w6.make {P:Program} {w:World} {K:PySem.W.Frag} {mg:Str->Option Value} {base:Heap} {A:Around} {outer:List Env} {s:Shared} {H:Hp} (e:w6 P w K mg base A outer s H) (C:Addr) (us:List Value) (kw:List (Str × Value)) :
  w6 P w K mg base (A.under (.builtin "type.__call__" ⟨.ref C :: us,kw⟩)) outer s H:=⟨by first | exact e.frames | (simpa [Around.under,Code.envs,Code.isFrame,pushEnvs] using e.frames),e.mod,e.bs,e.bsz,e.funs,e.frf,e.hok,e.bare⟩
section
variable {X:Cx} {pins:List (Addr × Obj)} {σ:St} {H:Hp} {s s':Shared}
theorem zG.env0 (I:zG X pins σ H s):w6 X.prog X.w X.K X.mg X.base X.A X.stack s H:=
 ⟨I.ok.frames,I.ok.mod,I.bs,Nat.le_trans I.ok.bsz I.sz,I.stack,I.stkFree,I.hok,I.bare⟩
theorem zG.after {Q:VK} {u:Value} (I:zG X pins σ H s) (h:CE X.stack X.prog X.w H s Q u s'):EP X pins σ Q u s':=by
 obtain ⟨v,H',os,bare,un,hok,r,q⟩:=h
 obtain ⟨hh,g,d,t,os'⟩:=s'
 obtain rfl:os'=s.os:=os
 exact ⟨v,H',I.call (h':=hh) (g':=g) (d':=d) (t':=t) (ch:=[]) un hok bare (λb z=>absurd z (by simp)),r,q⟩
end
def WH (sp:Sp) (dvs:List V) (E:XK) (t:TA):TE:=λσ H Q=>t σ H λvs H1=>sp (vs++dvs) H1 Q E
def QG (C:Addr) (m:Str) (sp:Sp) (dvs:List V) (E:XK) (ta:TE) (t:TA):TE:=λσ H Q=>ta σ H λx H1=>∃ a dx fs,x=.ref a/\H1 a=some (.ins C dx fs)/\fs.lookup m=none∧
 t σ H1 λvs H2=>sp (x :: (vs++dvs)) H2 Q E
def Z9 (C:Addr) (sp:Sp) (dvs:List V) (E:XK) (t:TA):TE:=λσ H Q=>t σ H λvs H1=>∀ x dx,H1 x=none->H1 dx=none->dx≠x->
 sp (.ref x :: (vs++dvs)) (zZ (zZ H1 dx (.own x)) x (.ins C dx [])) (λv H2=>v=.non/\Q (.ref x) H2) E
def w8 (K:PySem.W.Frag) (fd:FuncData) (ps:List Str) (ds:List Value):Prop:=
 ∀ (s:Shared) (us:List Value),K.In s.heap->(us++ds).length=ps.length->BindsTo s fd ⟨us,[]⟩ (ps.zip (us++ds))
theorem w8.all {K:PySem.W.Frag} {fd:FuncData} {ps:List Str} (h:∀ us:List Value,us.length=ps.length->bindArgs fd ⟨us,[]⟩=pure (ps.zip us)):w8 K fd ps []:=λs us _ hl=>by
 rw [List.append_nil] at hl |-
 exact .of_eq (h us hl)
def qC (CX:vT) (X:Cx) (E:XK):Prop:=∀ (pins:List (Addr × Obj)) (σ:St) (H:Hp) (s:Shared) (e:Value) (s':Shared),zG X pins σ H s->CX X.stack H s E e s'->X.xe e s'
section
variable {X:Cx} {CX:vT} {k:Nat} {f C:Addr} {fd:FuncData} {ps:List Str} {sp:Sp} {dvs:List V} {ds:List Value} {E:XK} {x m:Str} {p pos apos:Pos} {e o:Expr} {es:List Expr} {ta:TE} {t:TA}
theorem QH {pins:List (Addr × Obj)} {σ:St} {H:Hp} {s:Shared} {Q:VK} {us:List Value} {vs:List V} (F:zH X.prog X.w X.K X.mg X.base CX k f fd ps sp) (hr:zh k X.A) (hb:w8 X.K fd ps ds) (hd:zL dvs ds) (hx:qC CX X E)
  (I:zG X pins σ H s) (r:zL vs us) (h:sp (vs++dvs) H Q E):wpAny (model X.prog X.w) X.A (call (.ref f) us) (EP X pins σ Q) X.xe s:=by
 have r2:zL (vs++dvs) (us++ds):=r.append hd
 have hl:(us++ds).length=ps.length:=by rw [<- r2.length]; exact F.len _ _ _ _ h
 refine wpAny_call (codeAny_mono (F.run X.A X.stack s H ⟨us,[]⟩ (us++ds) (vs++dvs) Q E hr I.env0 (hb s us I.kIn hl) r2 h) λr s' hq=>?_)
 cases r with
 | error e=>exact hx pins σ H s e s' I hq
 | ok fl=>
  cases fl with
  | ret u=>exact I.after hq
  | next=>exact False.elim hq
  | brk=>exact False.elim hq
  | cont=>exact False.elim hq
theorem QI (F:zH X.prog X.w X.K X.mg X.base CX k f fd ps sp) (hr:zh k X.A) (hg:Gl X x) (hm:X.mg x=some (.ref f)) (hk:PySem.W.keepIn X.K (.ref f)=true) (hb:w8 X.K fd ps ds) (hd:zL dvs ds) (hx:qC CX X E)
  (ha:PA X (e :: es) t) (hdb:(x == ("__debug__" : Str))=false:=by decide) (he:starEach (e :: es) X.env=(false,eval e X.env) :: starEach es X.env:=by rfl) (hpl:(backTo pos (starEach es X.env)).any (·.1)=false:=by rfl) :
  PE X (.Call (.Name x p) (e :: es) [] pos) (WH sp dvs E t):=by
 intro pins s σ H Q I h
 refine wpAny_Call_Name_kw (Xw I hg hm ?_ hdb)
 refine PySem.W.callWith_K (h₀:=X.base) I.ok.mod.kin hk (ze (ha pos pins s σ H _ I h) λus s1 ⟨vs,H1,I1,r,q⟩=>⟨I1.kIn,?_⟩) he hpl
 exact QH F hr hb hd hx I1 r q
theorem zMj {pl:Sem Bool} (he:PE X o ta) (c:vy X.K C) (hm:jR X.K C m f) (F:zH X.prog X.w X.K X.mg X.base CX k f fd ps sp) (hr:zh k X.A) (hb:w8 X.K fd ps ds) (hd:zL dvs ds) (hx:qC CX X E)
  (ht:eval (.Call (.Attribute o m apos) [] [] pos) X.env=(do
   let ov <- eval o X.env
   standAt apos.atName
   let (f,first) <- holding [ov] (getMethod ov m pl)
   callWith pos f first (backTo pos (starEach [] X.env)) (backToKw pos (keywordEach [] X.env))):=by rfl) :
  PE X (.Call (.Attribute o m apos) [] [] pos) (QG C m sp dvs E ta vS):=by
 intro pins s σ H Q I h
 refine PySem.W.methodCall_KW (pl:=pl) (ze (he pins s σ H _ I h) λu s1 ⟨x,H1,I1,rx,a,dx,fs,ex,ea,l,q⟩=>?_) ht
 subst ex
 obtain rfl:u=Value.ref a:=rx
 refine zJt I1 ea c hm l ?_
 exact PySem.W.callWith_K0 (first:=[.ref a]) I1.kIn hm.kp (QH (us:=[.ref a]) (vs:=[.ref a]) F hr hb hd hx I1 (.cons rfl .nil) q)
structure Mk (K:PySem.W.Frag) (C f:Addr):Prop where
 makes:PySem.W.makesIn K C=true
 init:PySem.W.findIn K (.ref C) "__init__" = some (some (.ref f))
 fn:PySem.W.isFn K (.ref f)=true
 kp:PySem.W.keepIn K (.ref C)=true
theorem zMX {pins:List (Addr × Obj)} {σ:St} {H:Hp} {s:Shared} {Q:VK} {us:List Value} {vs:List V} (M:Mk X.K C f) (F:zH X.prog X.w X.K X.mg X.base CX k f fd ps sp) (hr:zh (k + 1) X.A) (hb:w8 X.K fd ps ds) (hd:zL dvs ds)
  (hx:qC CX X E) (I:zG X pins σ H s) (r:zL vs us)
  (h:∀ x dx,H x=none->H dx=none->dx≠x->sp (.ref x :: (vs++dvs)) (zZ (zZ H dx (.own x)) x (.ins C dx [])) (λv H2=>v=.non/\Q (.ref x) H2) E) :
  wpAny (model X.prog X.w) X.A (call (.ref C) us) (EP X pins σ Q) X.xe s:=by
 have hq:=h (s.heap.objs.size + 1) s.heap.objs.size (I.hok.fresh (Nat.le_succ _)) (I.hok.fresh (Nat.le_refl _)) (Nat.ne_of_lt (Nat.lt_succ_self _))
 have I2:=zG.made (C:=C) I
 have r2:zL (V.ref (s.heap.objs.size + 1) :: (vs++dvs)) (Value.ref (s.heap.objs.size + 1) :: (us++ds)):=.cons rfl (r.append hd)
 have hl:(Value.ref (s.heap.objs.size + 1) :: us++ds).length=ps.length:=by
  have e:=r2.length
  rw [F.len _ _ _ _ hq] at e
  exact e.symm
 refine wpAny_call (zM5 (f:=f) I.kIn M.makes M.init (beq_iff_eq.mp M.fn) (codeAny_mono (F.run _ X.stack _ _ ⟨Value.ref (s.heap.objs.size + 1) :: us,[]⟩ (Value.ref (s.heap.objs.size + 1) :: (us++ds)) _ _ E (hr.make C us [])
  (I2.env0.make C us []) (hb _ (Value.ref (s.heap.objs.size + 1) :: us) I2.kIn hl) r2 hq) λr s' hq'=>?_))
 cases r with
 | error e=>exact hx pins σ _ _ e s' I2 hq'
 | ok fl=>
  cases fl with
  | ret u=>
   obtain ⟨v,H',I3,rv,ev,q3⟩:=I2.after hq'
   subst ev
   exact ⟨rv,⟨V.ref (s.heap.objs.size + 1),H',I3,rfl,q3⟩⟩
  | next=>exact False.elim hq'
  | brk=>exact False.elim hq'
  | cont=>exact False.elim hq'
theorem zOH (M:Mk X.K C f) (F:zH X.prog X.w X.K X.mg X.base CX k f fd ps sp) (hr:zh (k + 1) X.A) (hg:Gl X x) (hm:X.mg x=some (.ref C)) (hb:w8 X.K fd ps ds) (hd:zL dvs ds) (hx:qC CX X E)
  (ha:PA X (e :: es) t) (hdb:(x == ("__debug__" : Str))=false:=by decide) (he:starEach (e :: es) X.env=(false,eval e X.env) :: starEach es X.env:=by rfl) (hpl:(backTo pos (starEach es X.env)).any (·.1)=false:=by rfl) :
  PE X (.Call (.Name x p) (e :: es) [] pos) (Z9 C sp dvs E t):=by
 intro pins s σ H Q I h
 refine wpAny_Call_Name_kw (Xw I hg hm ?_ hdb)
 refine PySem.W.callWith_K (h₀:=X.base) I.ok.mod.kin M.kp (ze (ha pos pins s σ H _ I h) λus s1 ⟨vs,H1,I1,r,q⟩=>⟨I1.kIn,?_⟩) he hpl
 exact zMX M F hr hb hd hx I1 r q
end
section
variable {X:Cx} {CX:vT} {k:Nat} {f C:Addr} {fd:FuncData} {ps ks:List Str} {sp:Sp} {E:XK} {x m:Str} {p pos apos kpos:Pos} {e o:Expr} {es:List Expr} {kws:List Keyword} {te ta:TE} {t tk:TA} {nm:Option Str}
variable {g:List Value->List Value->List Value} {gV:List V->List V->List V}
end
structure za (N P:List Str) (sc:Scope):Prop where
 kind:sc.kind=.function
 co:sc.isCoroutine=false
 gen:sc.isGenerator=false
 nd:N.Nodup
 pre:N.take P.length=P
 par:∀ x∈P,sc.names.lookup x=some .local\/sc.names.lookup x=some .cell
 nofree:∀ y∈sc.names,y.2≠.free
theorem za.a {N P:List Str} {s:Scope} (a:s.kind=.function:=by rfl) (b:s.isCoroutine=false:=by rfl) (c:s.isGenerator=false:=by rfl) (d:N.Nodup:=by decide +kernel) (e:N.take P.length=P:=by rfl) (f:∀ x∈P,s.names.lookup x=some .local\/s.names.lookup x=some .cell:=by decide +kernel) (g:∀ y∈s.names,y.2≠.free:=by decide +kernel):za N P s:=⟨a,b,c,d,e,f,g⟩
theorem QJ {kindOf:Str->Option NameKind} {x:Str}:∀ {binds:List (Str × Value)} {m:Str->Option Value},(∀ v,(x,v)∉binds)->bindL kindOf binds m x=m x
 | [],_,_=>rfl
 | (n,v) :: r,m,h=>by
  unfold bindL
  rw [QJ λw hw=>h w (List.mem_cons_of_mem _ hw)]
  split
  ·have:x≠n:=by rintro rfl; exact h v List.mem_cons_self
   simp [this]
  ·rfl
theorem QK {kindOf:Str->Option NameKind} {x:Str}:∀ {binds:List (Str × Value)} {m:Str->Option Value},(∀ v,(x,v)∉binds)->bindC kindOf binds m x=m x
 | [],_,_=>rfl
 | (n,v) :: r,m,h=>by
  unfold bindC
  rw [QK λw hw=>h w (List.mem_cons_of_mem _ hw)]
  split
  ·rfl
  ·have:x≠n:=by rintro rfl; exact h v List.mem_cons_self
   simp [this]
theorem QL {kindOf:Str->Option NameKind} {x:Str} {v:Value}:∀ {P:List Str} {vs:List Value} {i:Nat} {m:Str->Option Value},P.Nodup->P[i]? = some x->vs[i]? = some v->kindOf x=some .local->
  bindL kindOf (P.zip vs) m x=some v
 | [],_,_,_,_,h,_,_=>by simp at h
 | _ :: _,[],_,_,_,_,h,_=>by simp at h
 | p :: P,w :: vs,0,m,nd,h1,h2,hk=>by
  simp at h1 h2; subst h1; subst h2
  show bindL kindOf ((p,w) :: P.zip vs) m p=_
  unfold bindL
  rw [QJ λv hv=>(List.nodup_cons.mp nd).1 (List.of_mem_zip hv).1,if_pos hk]
  simp
 | p :: P,w :: vs,i + 1,m,nd,h1,h2,hk=>by
  show bindL kindOf ((p,w) :: P.zip vs) m x=_
  unfold bindL
  exact QL (i:=i) (List.nodup_cons.mp nd).2 (by simpa using h1) (by simpa using h2) hk
theorem QM {kindOf:Str->Option NameKind} {x:Str} {v:Value}:∀ {P:List Str} {vs:List Value} {i:Nat} {m:Str->Option Value},P.Nodup->P[i]? = some x->vs[i]? = some v->kindOf x≠some .local->
  bindC kindOf (P.zip vs) m x=some v
 | [],_,_,_,_,h,_,_=>by simp at h
 | _ :: _,[],_,_,_,_,h,_=>by simp at h
 | p :: P,w :: vs,0,m,nd,h1,h2,hk=>by
  simp at h1 h2; subst h1; subst h2
  show bindC kindOf ((p,w) :: P.zip vs) m p=_
  unfold bindC
  rw [QK λv hv=>(List.nodup_cons.mp nd).1 (List.of_mem_zip hv).1,if_neg hk]
  simp
 | p :: P,w :: vs,i + 1,m,nd,h1,h2,hk=>by
  show bindC kindOf ((p,w) :: P.zip vs) m x=_
  unfold bindC
  exact QM (i:=i) (List.nodup_cons.mp nd).2 (by simpa using h1) (by simpa using h2) hk
def xc (N:List Str) (vs:List V):St:=vs.map some++List.replicate (N.length - vs.length) none
def xf (CX:vT) (P:Program) (w:World) (K:PySem.W.Frag) (mg:Str->Option Value) (base:Heap) (N:List Str) (qual:Str) (scope:Scope) (f:Addr) (cd:Value) (A:Around) (outer:List Env) (s:Shared) (H:Hp) (E:XK):Cx where
 prog:=P
 w:=w
 K:=K
 mg:=mg
 base:=base
 A:=A.deeper (envOfC qual scope s.heap.objs.size f cd)
 N:=N
 s₀:=s
 H₀:=H
 env:=envOfC qual scope s.heap.objs.size f cd
 outer:=outer
 stack:=envOfC qual scope s.heap.objs.size f cd :: outer
 ex:=[]
 calm:=true
 fn:=λ_=>true
 pn:=[]
 xe:=λe s'=>wpAny (model P w) (A.deeper (envOfC qual scope s.heap.objs.size f cd)) (leaving (envOfC qual scope s.heap.objs.size f cd) e) (λ_ s''=>CX outer H s E e s'') (λe' s''=>CX outer H s E e' s'') s'
theorem QN {sc:Scope} {n:Nat} {x:Str} (h:sc.names.lookup x=some .cell):∃ c,(cellsFrom n sc.names []).lookup x=some c:=by
 have q:=PySem.W.cellsFrom_some sc.names n [] (.inl h)
 exact Option.isSome_iff_exists.mp q
theorem zLD {CX:vT} {P:Program} {w:World} {K:PySem.W.Frag} {mg:Str->Option Value} {base:Heap} {N ps:List Str} {qual:Str} {scope:Scope} {f:Addr} {cd:Value} {A:Around} {outer:List Env} {s s1:Shared} {H:Hp} {E:XK} {us:List Value} {vs:List V}
  (S:za N ps scope) (hd:A.handled=none) (e0:w6 P w K mg base A outer s H) (hl:vs.length=ps.length) (r:zL vs us)
  (x:InCallC s s.heap.objs.size (bindL (envOfC qual scope s.heap.objs.size f cd).kindOf (ps.zip us) λ_=>none) (cellsFrom (s.heap.objs.size + 1) scope.names []) (bindC (envOfC qual scope s.heap.objs.size f cd).kindOf (ps.zip us) λ_=>none) s1) :
  zG (xf CX P w K mg base N qual scope f cd A outer s H E) [] (xc N vs) H s1:=by
 have hpl:ps.length<=N.length:=by have:=congrArg List.length S.pre; rw [List.length_take] at this; omega
 obtain ⟨h1,tk,rfl,hk⟩:=x.done
 have noA:∀ b:Addr,b∉(xf CX P w K mg base N qual scope f cd A outer s H E).ex:=λb z=>absurd (show b∈([]:List Addr) from z) (by simp)
 refine ⟨⟨e0.mod,S.kind,rfl,rfl,Nat.le_refl _,λy z c h1 h2=>?_,λy hy=>?_,λy c _ h=>?_,λ_=>hd,Around.frames_deeper e0.frames,.inr ⟨rfl,rfl⟩,λb z=>absurd z (noA b),e0.bs,e0.bsz,λb _ _=>noA b,λb z=>absurd z (noA b),e0.funs,e0.frf⟩,
  rfl,e0.bare,Un.kept hk,⟨_,x.toInCall.ns,λi y v h1 h2 h3=>?_⟩,λy c h=>⟨_,x.cell y c h⟩,e0.hok.fresh (Nat.le_refl _),λy c h=>?_,λp hp=>absurd (show p∈([]:List (Addr × Obj)) from hp) (by simp),e0.hok.kept hk,?_⟩
 ·exact name_of_addr x.apart (PySem.mem_of_lookup h1) (PySem.mem_of_lookup h2)
 ·have hy:scope.names.lookup y=some .cell\/scope.names.lookup y=some .free:=hy
  rcases hy with hy | hy
  ·exact QN hy
  ·exact absurd rfl (S.nofree _ (PySem.mem_of_lookup hy))
 ·exact Nat.le_of_lt (x.above y c (PySem.mem_of_lookup h))
 ·have hi:i < vs.length:=by
   unfold xc at h2
   by_cases hi:i < vs.length
   ·exact hi
   ·rw [List.getElem?_append_right (by simpa using hi)] at h2
    rw [List.getElem?_replicate] at h2
    split at h2 <;> cases h2
  have ha:vs[i]? = some v:=by
   unfold xc at h2
   rw [List.getElem?_append_left (by simpa using hi),List.getElem?_map] at h2
   cases e:vs[i]? with
   | none=>rw [e] at h2; cases h2
   | some a=>rw [e] at h2; cases h2; rfl
  obtain ⟨u,hu,rv⟩:=r.get ha
  have hp:ps[i]? = some y:=by
   rw [<- S.pre,List.getElem?_take_of_lt (by omega)]; exact h1
  have ndP:ps.Nodup:=by rw [<- S.pre]; exact S.nd.sublist (List.take_sublist _ _)
  refine ⟨u,rv,?_⟩
  rcases S.par y (List.mem_of_getElem? hp) with k | k
  ·exact .inl ⟨k,QL ndP hp hu k⟩
  ·obtain ⟨c,e⟩:=QN (n:=s.heap.objs.size + 1) k
   refine .inr ⟨.inl k,c,e,?_⟩
   have q:=x.cell y c e
   rw [QM ndP hp hu (by show scope.names.lookup y≠_; rw [k]; decide)] at q
   exact q
 ·exact e0.hok.fresh (Nat.le_of_lt (x.above y c (PySem.mem_of_lookup h)))
 ·unfold xc
  show _=N.length
  rw [List.length_append,List.length_map,List.length_replicate]
  omega
theorem QO {CX:vT} {P:Program} {w:World} {K:PySem.W.Frag} {mg:Str->Option Value} {base:Heap} {k:Nat} {f:Addr} {name qual:Str} {params:Arguments} {body:List Stmt} {scope:Scope} {dV kV doc pm cdv ct oc:Value} {an od:Option Addr}
  {osl:Array (Option Value)} {N ps:List Str} {sp:Sp} (lk:K.lookup f=some ⟨oc,od,.func (PySem.W.fnOf name qual params body scope dV kV doc pm an cdv ct),osl⟩) (hcd:PySem.W.codeIn K cdv qual=true) (S:za N ps scope)
  (len:∀ vs H Q E,sp vs H Q E->vs.length=ps.length)
  (hbody:∀ (A:Around) (outer:List Env) (s:Shared) (H:Hp) (vs:List V) (Q:VK) (E:XK),zh k (A.deeper (envOfC qual scope s.heap.objs.size f cdv))->sp vs H Q E->
   ∃ t,xC (xf CX P w K mg base N qual scope f cdv A outer s H E) body t/\t { nx:=λ_ H'=>Q .non H',rt:=Q } (xc N vs) H) :
  zH P w K mg base CX (k + 1) f (PySem.W.fnOf name qual params body scope dV kV doc pm an cdv ct) ps sp:=by
 refine ⟨len,λA outer s H args us vs Q E hr e0 hb r hsp=>?_⟩
 have hl:=len _ _ _ _ hsp
 have KX:K.In s.heap:=e0.mod.kin.keeps λb o e=>(e0.bs b o e).1
 have lim:s.heap.NoLimit:=e0.mod.nolimit.keeps λb o e=>(e0.bs b o e).1
 have hkind:∀ y∈ps.zip us,scope.names.lookup y.1=some .local\/(scope.names.lookup y.1=some .cell/\((cellsFrom (s.heap.objs.size + 1) scope.names []).lookup y.1).isSome=true):=λ⟨n,v⟩ hy=>by
  rcases S.par n (List.of_mem_zip hy).1 with q | q
  ·exact .inl q
  ·exact .inr ⟨q,PySem.W.cellsFrom_some _ _ _ (.inl q)⟩
 refine codeAny_call_function hr.depth (KX _ _ lk) rfl S.co S.gen rfl (PySem.W.codeRec_of KX hcd) (hb _ _ _ _ ?_)
 refine wpAny_newFunctionEnv_cells S.kind hkind λenv he s1 x=>?_
 subst he
 refine ⟨lim.keeps x.toInCall.keep,codeAny_func ?_⟩
 obtain ⟨t,ht,hq⟩:=hbody A outer s H vs Q E (hr.deeper _) hsp
 have I:zG (xf CX P w K mg base N qual scope f cdv A outer s H E) [] (xc N vs) H s1:=zLD S hr.hd e0 hl r x
 refine wpAny_mono (ht [] s1 (xc N vs) H _ I hq) (λfl s' hs=>?_) λe s' hs=>hs
 have fin:∀ {σ':St} {H':Hp} {v:V} {u:Value},zG (xf CX P w K mg base N qual scope f cdv A outer s H E) [] σ' H' s'->zR v u->Q v H'->CE outer P w H s Q u s':=
  λ{σ' H' v u} J rv q=>⟨v,H',J.os,J.bare,J.base,J.hok,rv,q⟩
 cases fl with
 | ret u=>
  obtain ⟨v,σ',H',J,rv,q⟩:=hs
  exact fin J rv q
 | next=>
  obtain ⟨σ',H',J,q⟩:=hs
  exact fin (v:=V.non) (u:=Value.none) J rfl q
 | brk=>
  obtain ⟨_,_,_,q⟩:=hs
  exact False.elim q
 | cont=>
  obtain ⟨_,_,_,q⟩:=hs
  exact False.elim q
end L2
namespace L2
open PySem PySem.Spec PyProof.Rows
section
variable {X:Cx} {x:Str} {p pos:Pos} {e:Expr} {es:List Expr} {t:TA} {id T:String} {r:List V->Hp->VK->Prop}
def gI (r:List V->Hp->VK->Prop) (t:TA):TE:=λσ H Q=>t σ H λvs H1=>r vs H1 Q
theorem xY (hc:wz X (.builtin id) r) (hg:Gl X x) (hm:X.mg x=none) (hv:bootBuiltins x=some (.builtin id)) (ha:PA X (e :: es) t) (hn:x≠"__name__":=by decide) (hdb:(x == ("__debug__" : Str))=false:=by decide)
  (he:starEach (e :: es) X.env=(false,eval e X.env) :: starEach es X.env:=by rfl) (hpl:(backTo pos (starEach es X.env)).any (·.1)=false:=by rfl):PE X (.Call (.Name x p) (e :: es) [] pos) (gI r t):=by
 intro pins s σ H Q I h
 refine wpAny_Call_Name_kw (j8 I hg hm hv ?_ hn hdb)
 exact PyProof.Rows.callWith_builtin1 (ze (ha pos pins s σ H _ I h) λus s1 ⟨vs,H1,I1,r1,q1⟩=>hc pins s1 σ H1 vs us Q I1 r1 q1) he hpl
theorem zKj (hc:wz X (.type T) r) (hg:Gl X x) (hm:X.mg x=none) (hv:bootBuiltins x=some (.type T)) (ha:PA X (e :: es) t) (hn:x≠"__name__":=by decide) (hdb:(x == ("__debug__" : Str))=false:=by decide)
  (he:starEach (e :: es) X.env=(false,eval e X.env) :: starEach es X.env:=by rfl) (hpl:(backTo pos (starEach es X.env)).any (·.1)=false:=by rfl):PE X (.Call (.Name x p) (e :: es) [] pos) (gI r t):=by
 intro pins s σ H Q I h
 refine wpAny_Call_Name_kw (j8 I hg hm hv ?_ hn hdb)
 exact PyProof.Rows.callWith_type1 (ze (ha pos pins s σ H _ I h) λus s1 ⟨vs,H1,I1,r1,q1⟩=>hc pins s1 σ H1 vs us Q I1 r1 q1) he hpl
end
end L2
namespace HT
open PySem PyProof.Rows
section
open PySem.SeqAt
open PySem.AutoSeq1 (wpAny_loadPart')
open PySem.MeetsSeq PySem.MeetsSeq2 PySem.MeetsSeq3
end
section
variable {prog:Program} {w:World} {A:Around} {E:Value->Shared->Prop} {s:Shared}
theorem cat_tup {t b:Addr} {vs ws:List Value} {Q:Value->Shared->Prop} (ht:IsTup s.heap t vs.toArray) (hb:IsTup s.heap b ws.toArray) (hv:vs≠[])
  (h1:ws=[]->Q (.ref t) s) (h2:ws≠[]->Q (.ref s.heap.objs.size) { s with heap:=s.heap.push { cls:=.type "tuple",data:=.seq (vs++ws).toArray } })
  (hsz:vs.length + ws.length<=sizeLine):wpAny (model prog w) A (binaryOp .Add (.ref t) (.ref b)) Q E s:=by
 obtain ⟨⟨cls,dd,data,sl⟩,ho,hc,n,hd⟩:=id ht
 obtain ⟨⟨cls2,dd2,data2,sl2⟩,ho2,hc2,n2,hd2⟩:=id hb
 simp only at hc hd hc2 hd2
 subst hc hd hc2 hd2
 have e:vs.toArray++ws.toArray=(vs++ws).toArray:=by simp
 by_cases hw:ws=[]
 ·exact concat_meets ⟨_,ho,rfl⟩ ⟨_,ho2,rfl⟩ noFill_tuple_add seq_tuple_add PySem.F.slot_tuple_add PySem.F.entry_tuple_add (PySem.F.args_tuple_add_2 _ _)
   (tuple_addW1 t b vs.toArray ws.toArray n n2 dd dd2 sl sl2 (by simpa using hv) (by simp [hw])) ⟨ho,ho2,h1 hw⟩
 ·refine concat_meets ⟨_,ho,rfl⟩ ⟨_,ho2,rfl⟩ noFill_tuple_add seq_tuple_add PySem.F.slot_tuple_add PySem.F.entry_tuple_add (PySem.F.args_tuple_add_2 _ _)
   (tuple_addW2 t b vs.toArray ws.toArray n n2 dd dd2 sl sl2 (by simpa using hv) (by simpa using hw) (by rw [List.size_toArray,List.size_toArray]; exact hsz)) ⟨ho,ho2,?_⟩
  rw [e]
  exact h2 hw
def sIx (n d:Nat):Option Int->Nat
 | none=>d
 | some v=>if v < 0 then (v + (n:Int)).toNat else min v.toNat n
theorem sIx_none (n d:Nat):sIx n d none=d:=rfl
theorem sIx_nat (n d k:Nat):sIx n d (some (k:Int))=min k n:=by
 show (if (k:Int) < 0 then ((k:Int) + (n:Int)).toNat else min (k:Int).toNat n)=min k n
 rw [if_neg (by omega),Int.toNat_natCast]
theorem zPG (n d:Nat) (hd:d<=n) (o:Option Int):sIx n d o<=n:=by
 cases o with
 | none=>exact hd
 | some v=>
  show (if v < 0 then (v + (n:Int)).toNat else min v.toNat n)<=n
  by_cases hv:v < 0
  ·rw [if_pos hv]; omega
  ·rw [if_neg hv]; exact Nat.min_le_right _ _
theorem QP (v:Int) (n d:Nat):(if v < 0 then max (v + (n:Int)) 0 else min v (n:Int))=((sIx n d (some v):Nat):Int):=by
 show (if v < 0 then max (v + (n:Int)) 0 else min v (n:Int))=(((if v < 0 then (v + (n:Int)).toNat else min v.toNat n):Nat):Int)
 by_cases hv:v < 0
 ·simp only [if_pos hv]; omega
 ·simp only [if_neg hv]; omega
theorem zJ2 (lo hi:Option Int) (n:Nat):Builtin.Slice.sliceAdjust lo hi 1 (n:Int)=(((sIx n 0 lo:Nat):Int),((sIx n n hi:Nat):Int)):=by
 have h1:¬ ((1:Int) < 0):=by omega
 unfold Builtin.Slice.sliceAdjust
 simp only [h1,if_false]
 refine Prod.ext ?_ ?_
 ·cases lo with
  | none=>rfl
  | some v=>exact QP v n 0
 ·cases hi with
  | none=>rfl
  | some v=>exact QP v n n
theorem zJe (i j:Nat):Builtin.Slice.slicePlaces (i:Int) (j:Int) 1=j - i:=by
 unfold Builtin.Slice.slicePlaces
 have h1:(1:Int) > 0:=by omega
 simp only [h1,if_true,Int.ediv_one]
 split <;> omega
theorem QQ {v:Value} {o:Option Int} {Q:Option Int->Shared->Prop} (p:IsPart v o) (h:Q o s):wpAny (model prog w) A (Builtin.Slice.slicePartIndex v) Q E s:=by
 cases p with
 | none=>exact slicePart_none h
 | int i t=>exact slicePart_int h
theorem QR {sl:Addr} {vl vu:Value} {lo hi:Option Int} {n:Nat} {Q:Int × Int × Nat->Shared->Prop} (hs:s.heap.IsSliceOf sl vl vu .none) (pl:IsPart vl lo) (pu:IsPart vu hi)
  (h:Q (((sIx n 0 lo:Nat):Int),1,sIx n n hi - sIx n 0 lo) s):wpAny (model prog w) A (Builtin.Slice.sliceApplied (.ref sl) (pure (n:Int))) Q E s:=by
 obtain ⟨os,hos,hcs,hds⟩:=id hs
 unfold Builtin.Slice.sliceApplied Builtin.Slice.sliceFields
 refine wpAny_bind (wpAny_bind (wpAny_field hos hds (x:=vl) rfl (wpAny_bind (wpAny_field hos hds (x:=vu) rfl (wpAny_bind (wpAny_field hos hds (x:=.none) rfl (wpAny_pure ?_)))))))
 refine wpAny_bind (slicePart_none ?_)
 show wpAny _ _ (if ((1:Int) == 0)=true then _ else _) _ _ s
 rw [if_neg (by decide)]
 refine wpAny_bind (QQ pl (wpAny_bind (QQ pu (wpAny_bind (wpAny_pure ?_)))))
 show wpAny _ _ (match Builtin.Slice.sliceAdjust lo hi 1 (n:Int) with | (lo,hi)=>pure (lo,(1:Int),Builtin.Slice.slicePlaces lo hi 1)) _ _ s
 rw [zJ2 lo hi n]
 show wpAny _ _ (pure (((sIx n 0 lo:Nat):Int),(1:Int),Builtin.Slice.slicePlaces ((sIx n 0 lo:Nat):Int) ((sIx n n hi:Nat):Int) 1)) _ _ s
 rw [zJe]
 exact wpAny_pure h
theorem zMh (xs:Array Value) (i k:Nat):((List.range k).filterMap λ(m:Nat)=>xs[((i:Int) + (m:Int) * 1).toNat]?).toArray=((xs.toList.drop i).take k).toArray:=by
 have e:(λ(m:Nat)=>xs[((i:Int) + (m:Int) * 1).toNat]?)=λm=>xs[i + m]?:=by
  funext m
  have:((i:Int) + (m:Int) * 1).toNat=i + m:=by omega
  rw [this]
 rw [e]
 have:=pick_run xs i k
 rw [List.filterMap_map] at this
 have e2:((λx=>xs[x]?) ∘ λx=>i + x)=λm=>xs[i + m]?:=rfl
 rw [e2] at this
 rw [this]
theorem getItem_tuple_cut {t sl:Addr} {items:Array Value} {vl vu:Value} {lo hi:Option Int} {Q:Value->Shared->Prop} (ht:IsTup s.heap t items) (hs:s.heap.IsSliceOf sl vl vu .none) (pl:IsPart vl lo) (pu:IsPart vu hi)
  (hw:¬ (sIx items.size 0 lo=0/\sIx items.size items.size hi=items.size))
  (h:Q (.ref s.heap.objs.size) { s with heap:=s.heap.push { cls:=.type "tuple",data:=.seq ((items.toList.drop (sIx items.size 0 lo)).take (sIx items.size items.size hi - sIx items.size 0 lo)).toArray } })
  (hsz:items.size<=sizeLine):wpAny (model prog w) A (getItem (.ref t) (.ref sl)) Q E s:=by
 have htake:sizeOk (.seq ((items.toList.drop (sIx items.size 0 lo)).take (sIx items.size items.size hi - sIx items.size 0 lo)).toArray):=by
  show ((items.toList.drop (sIx items.size 0 lo)).take (sIx items.size items.size hi - sIx items.size 0 lo)).toArray.size<=sizeLine
  rw [List.size_toArray,List.length_take,List.length_drop,Array.length_toList]
  omega
 have hj:sIx items.size items.size hi<=items.size:=zPG _ _ (Nat.le_refl _) hi
 obtain ⟨os,hos,hcs,hds⟩:=id hs
 have hTs:s.TypeIs (.ref sl) "slice":=⟨os,hos,hcs⟩
 unfold getItem
 try with_reducible refine wpAny_holding ?_
 first | refine wpAny_bind (wpAny_pure ?_) | skip
 refine wpAny_bind (wpAny_sequenceKey ht.typeIs (by decide) ?_)
 refine wpAny_bind (wpAny_callSpecial?_slot (name:=Str.ofString "__getitem__") ht.typeIs PyProof.Rows.slot_tuple_getitem
  (wpAny_call_entry PyProof.Rows.slot_tuple_getitem ht.typeIs entry_tuple_getitem ?_ (args_tuple_getitem _ _)))
 show wpAny _ _ (Builtin.Tuple.tupleItemsOf (.ref t) >>= _) _ _ s
 refine wpAny_bind (tupleItemsOf_ ht ?_)
 refine wpAny_bind (wpAny_typeOf hTs ?_)
 rw [if_pos (by decide)]
 refine wpAny_bind (QR hs pl pu ?_)
 have hno:¬ ((((sIx items.size 0 lo:Nat):Int) == 0 && (1:Int) == 1 && (sIx items.size items.size hi - sIx items.size 0 lo) == items.size)=true):=by
  intro q
  rw [Bool.and_eq_true,Bool.and_eq_true] at q
  have q1:((sIx items.size 0 lo:Nat):Int)=0:=eq_of_beq q.1.1
  have q2:sIx items.size items.size hi - sIx items.size 0 lo=items.size:=eq_of_beq q.2
  exact hw ⟨by omega,by omega⟩
 show wpAny _ _ (if (((sIx items.size 0 lo:Nat):Int) == 0 && (1:Int) == 1 && (sIx items.size items.size hi - sIx items.size 0 lo) == items.size)=true then _ else _) _ _ s
 rw [if_neg hno,zMh]
 first
  | exact wpAny_bind (m:=Builtin.Tuple.tupleExact _) (wpAny_newObj_type (wpAny_pure ⟨_,rfl,wpAny_pure h⟩) htake)
  | exact wpAny_bind (m:=Builtin.Tuple.tupleExact _) (wpAny_newObj_type (wpAny_bind (wpAny_pure (wpAny_pure ⟨_,rfl,wpAny_pure h⟩))) htake)
  | exact wpAny_bind (wpAny_bind (m:=Builtin.Tuple.tupleExact _) (wpAny_newObj_type (wpAny_pure (wpAny_pure ⟨_,rfl,wpAny_pure h⟩)) htake))
  | exact wpAny_bind (wpAny_bind (m:=Builtin.Tuple.tupleExact _) (wpAny_newObj_type (wpAny_pure ⟨_,rfl,wpAny_pure h⟩) htake))
end
end HT
namespace L2
open PySem PySem.Spec PyProof.Rows
abbrev TO:=St->Hp->(Option Int->Hp->Prop)->Prop
def PO (X:Cx) (e:Option Expr) (t:TO):Prop:=
 ∀ (pins:List (Addr × Obj)) (s:Shared) (σ:St) (H:Hp) (Q:Option Int->Hp->Prop),zG X pins σ H s->t σ H Q->
  wpAny (model X.prog X.w) X.A (evalPart e X.env) (λu s'=>∃ o H',zG X pins σ H' s'/\IsPart u o/\Q o H') X.xe s
def zN3:TO:=λ_ H Q=>Q none H
def gJ (t:TE):TO:=λσ H Q=>t σ H λx H1=>∃ i,x=.int i/\Q (some i) H1
section
variable {X:Cx} {e:Expr} {te:TE} {lo hi:Option Expr} {tl th:TO} {pos p2:Pos}
theorem zOE:PO X none zN3:=by
 intro pins s σ H Q I h
 rw [evalPart_none]
 exact wpAny_pure ⟨none,H,I,.none,h⟩
theorem zOD (h:PE X e te):PO X (some e) (gJ te):=by
 intro pins s σ H Q I hw
 rw [evalPart_some]
 refine ze (h pins s σ H _ I hw) λu s1 ⟨x,H1,I1,r1,q1⟩=>?_
 obtain ⟨i,rfl,q⟩:=q1
 obtain ⟨t,rfl⟩:=r1
 exact ⟨some i,H1,I1,.int i t,q⟩
def jS (X:Cx) (r:V->Option Int->Option Int->Hp->VK->Prop):Prop:=
 ∀ (pins:List (Addr × Obj)) (s:Shared) (σ:St) (H:Hp) (x:V) (v vl vu:Value) (lo hi:Option Int) (sl:Addr) (Q:VK),zG X pins σ H s->zR x v->s.heap.IsSliceOf sl vl vu .none->IsPart vl lo->IsPart vu hi->r x lo hi H Q->
  ∃ T id,typeLookup (.type T) "__getitem__" = pure (some (.builtin id))/\s.TypeIs v T/\wpAny (model X.prog X.w) X.A (getItem v (.ref sl)) (EP X pins σ Q) X.xe s
def tSl (r:V->Option Int->Option Int->Hp->VK->Prop) (te:TE) (tl th:TO):TE:=λσ H Q=>te σ H λx H1=>tl σ H1 λl H2=>th σ H2 λu H3=>r x l u H3 Q
theorem QS {r:V->Option Int->Option Int->Hp->VK->Prop} (hr:jS X r) (he:PE X e te) (hl:PO X lo tl) (hu:PO X hi th):PE X (.Subscript e (.Slice lo hi none p2) pos) (tSl r te tl th):=by
 intro pins s σ H Q I h
 refine Subscript_ (ze (he pins s σ H _ I h) λv s1 ⟨x,H1,I1,r1,q1⟩=>?_)
 refine wpAny_Slice (ze (hl pins s1 σ H1 _ I1 q1) λvl s2 ⟨l,H2,I2,pl,q2⟩=>ze (hu pins s2 σ H2 _ I2 q2) λvu s3 ⟨u,H3,I3,pu,q3⟩=>?_)
 rw [evalPart_none]
 refine wpAny_pure ?_
 have I4:zG X pins σ H3 { s3 with heap:=s3.heap.push { cls:=.type "slice",data:=.fields #[vl,vu,.none] } }:=I3.kept (t':=s3.toks) λb ob q=>Heap.get?_push_of_some _ q
 obtain ⟨T,id,hT,ht,hg⟩:=hr pins { s3 with heap:=s3.heap.push { cls:=.type "slice",data:=.fields #[vl,vu,.none] } } σ H3 x v vl vu l u s3.heap.objs.size Q I4 r1 (Heap.IsSliceOf.new ..) pl pu q3
 show wpAny (model X.prog X.w) X.A (subscriptTail e (.Slice lo hi none p2) v (.ref s3.heap.objs.size)) (EP X pins σ Q) X.xe { s3 with heap:=s3.heap.push { cls:=.type "slice",data:=.fields #[vl,vu,.none] } }
 exact tail_any (ops:=[.ref s3.heap.objs.size,v]) ht hT hg (by with_unfolding_all rfl)
def wS (xs:List V) (lo hi:Option Int):List V:=(xs.drop (HT.sIx xs.length 0 lo)).take (HT.sIx xs.length xs.length hi - HT.sIx xs.length 0 lo)
theorem QT (xs:List V) (lo hi:Option Int):(wS xs lo hi).length<=xs.length:=by
 unfold wS
 rw [List.length_take,List.length_drop]
 omega
def WI (K:PySem.W.Frag):V->Option Int->Option Int->Hp->VK->Prop:=λx lo hi H Q=>∃ a xs,x=.ref a/\zo K H a xs∧
 ¬ (HT.sIx xs.length 0 lo=0/\HT.sIx xs.length xs.length hi=xs.length)/\∀ p,H p=none->Q (.ref p) (zZ H p (.tup (wS xs lo hi)))
theorem zPD:jS X (WI X.K):=by
 intro pins s σ H x v vl vu lo hi sl Q I rx hs pl pu h
 obtain ⟨a,xs,rfl,hx,hw,q⟩:=h
 cases rx
 obtain ⟨its,r,ht,hz⟩:=I.tuple hx
 have hlen:its.toArray.size=xs.length:=by rw [List.size_toArray]; exact r.length.symm
 refine ⟨"tuple",_,PyProof.Rows.slot_tuple_getitem.lookup,ht.typeIs,?_⟩
 refine HT.getItem_tuple_cut ht hs pl pu (by rw [hlen]; exact hw) ?_ (by rw [hlen]; exact hz)
 rw [hlen]
 refine ⟨.ref s.heap.objs.size,_,I.laid (t':=s.toks) (o:=.tup (wS xs lo hi)) (λb ob q=>Heap.get?_push_of_some _ q) (Nat.le_refl _) ?_,rfl,q _ (I.hok.fresh (Nat.le_refl _))⟩
 exact ⟨Nat.le_trans (QT xs lo hi) hz,_,(r.drop (HT.sIx xs.length 0 lo)).take (HT.sIx xs.length xs.length hi - HT.sIx xs.length 0 lo),IsTup.new _ _⟩
def gK (K:PySem.W.Frag):R2:=λx y H Q=>∃ a b xs ys,x=.ref a/\y=.ref b/\zo K H a xs/\zo K H b ys/\xs≠[]/\xs.length + ys.length<=sizeLine∧
 (ys=[]->Q (.ref a) H)/\(ys≠[]->∀ p,H p=none->Q (.ref p) (zZ H p (.tup (xs++ys))))
theorem zL.nil_iff {xs:List V} {us:List Value} (r:zL xs us):us=[] ↔ xs=[]:=by
 cases r with
 | nil=>simp
 | cons _ _=>simp
theorem zON:yw X (binaryOp .Add) (gK X.K):=by
 intro pins s σ H x y v u Q I rx ry h
 obtain ⟨a,b,xs,ys,rfl,rfl,ha,hb,hx,hz,q1,q2⟩:=h
 cases rx
 cases ry
 obtain ⟨its,r1,p1,_⟩:=I.tuple ha
 obtain ⟨its2,r2,p2,_⟩:=I.tuple hb
 refine HT.cat_tup p1 p2 (λz=>hx (r1.nil_iff.mp z)) (λz=>⟨.ref a,H,I,rfl,q1 (r2.nil_iff.mp z)⟩) (λz=>?_) (by rw [<- r1.length,<- r2.length]; exact hz)
 refine ⟨.ref s.heap.objs.size,_,I.laid (t':=s.toks) (o:=.tup (xs++ys)) (λb ob q=>Heap.get?_push_of_some _ q) (Nat.le_refl _) ?_,rfl,q2 (λw=>z (r2.nil_iff.mpr w)) _ (I.hok.fresh (Nat.le_refl _))⟩
 exact ⟨by rw [List.length_append]; exact hz,_,r1.append r2,IsTup.new _ _⟩
end
end L2
namespace L2
open PySem PySem.Spec PyProof.Rows
def wl (n:Nat) (i:Int):Option Nat:=if 0<=i then (if i < n then some i.toNat else none) else if -(n:Int)<=i then some (i + n).toNat else none
def yp {α:Type} (xs:List α) (i:Int):Option α:=(wl xs.length i).bind λj=>xs[j]?
theorem QU {n:Nat} {i:Int} {j:Nat} (h:wl n i=some j):seqIndex? i n=some j/\j < n/\-(n:Int)<=i/\i < n:=by
 unfold wl at h
 by_cases h0:0<=i
 ·rw [if_pos h0] at h
  by_cases h1:i < n
  ·rw [if_pos h1] at h
   have e:i.toNat=j:=Option.some.inj h
   exact ⟨by rw [seqIndex_of h0 h1,e],by omega,by omega,h1⟩
  ·rw [if_neg h1] at h; cases h
 ·rw [if_neg h0] at h
  by_cases h1 : -(n:Int)<=i
  ·rw [if_pos h1] at h
   have e:(i + n).toNat=j:=Option.some.inj h
   exact ⟨by rw [seqIndex_neg (by omega) h1,e],by omega,h1,by omega⟩
  ·rw [if_neg h1] at h; cases h
theorem QV {α:Type} {xs:List α} {i:Int} {v:α} (h:yp xs i=some v):∃ j,seqIndex? i xs.length=some j/\xs[j]? = some v/\j < xs.length/\-(xs.length:Int)<=i/\i < xs.length:=by
 unfold yp at h
 cases e:wl xs.length i with
 | none=>rw [e] at h; cases h
 | some j=>
  rw [e] at h
  obtain ⟨h1,h2,h3,h4⟩:=QU e
  exact ⟨j,h1,h,h2,h3,h4⟩
def WJ (b:Expr):Prop:=∀ o i,subscripted b false o i=operate [o,i] (getItem o i)
def YA (X:Cx) (r:R2):Prop:=
 ∀ (value slice:Expr) (pins:List (Addr × Obj)) (s:Shared) (σ:St) (H:Hp) (x y:V) (v u:Value) (Q:VK),zG X pins σ H s->zR x v->zR y u->r x y H Q->
  subscripted slice false v u=operate [v,u] (getItem v u)->wpAny (model X.prog X.w) X.A (subscriptTail value slice v u) (EP X pins σ Q) X.xe s
def QW (X:Cx) (id:String) (r:V->List V->Hp->VK->Prop):Prop:=
 ∀ (pins:List (Addr × Obj)) (s:Shared) (σ:St) (H:Hp) (x:V) (xs:List V) (v:Value) (us:List Value) (Q:VK),zG X pins σ H s->zR x v->zL xs us->r x xs H Q->
  wpAny (model X.prog X.w) X.A (call (.builtin id) (v :: us)) (EP X pins σ Q) X.xe s
section
variable {X:Cx} {a b:Expr} {ta tb:TE} {pos:Pos}
theorem QX {r:R2} (hr:YA X r) (ha:PE X a ta) (hb:PE X b tb) (hs:WJ b):PE X (.Subscript a b pos) (gA r ta tb):=by
 intro pins s σ H Q I h
 exact Subscript_ (jP ha hb I h λv u s2 x y H2 I2 rx ry q=>hr a b pins s2 σ H2 x y v u Q I2 rx ry q (hs _ _))
def WK (K:PySem.W.Frag):R2:=λx y H Q=>∃ p xs i v,x=.ref p/\y=.int i/\zb K H p xs/\yp xs i=some v/\Q v H
def WL (K:PySem.W.Frag):R2:=λx y H Q=>∃ p xs i v,x=.ref p/\y=.int i/\zo K H p xs/\yp xs i=some v/\Q v H
theorem QY:YA X (WK X.K):=by
 intro value slice pins s σ H x y v u Q I rx ry h hs
 obtain ⟨p,xs,i,z,rfl,rfl,hq,he,q⟩:=h
 cases rx
 obtain ⟨t,rfl⟩:=ry
 obtain ⟨its,r,pl,hz⟩:=I.list hq
 obtain ⟨j,h1,h2,h3,h4,h5⟩:=QV he
 obtain ⟨w,ew,rw'⟩:=r.get h2
 have hl:=r.length
 have hn:=Z6
 have fin:EP X pins σ Q w s:=⟨z,H,I,rw',q⟩
 by_cases h0:0<=i
 ·have hj:i.toNat=j:=by
   rw [seqIndex_of h0 h5] at h1
   exact Option.some.inj h1
  exact item_listR pl.isList h0 (by omega) (by rw [hj]; simpa using ew) fin hs
 ·have hj:(i + (its.toArray.size:Int)).toNat=j:=by
   rw [seqIndex_neg (by omega) h4] at h1
   rw [List.size_toArray,<- hl]
   exact Option.some.inj h1
  exact subscriptTail_builtinR (x:=w) pl.isList.typeIs slot_list_getitem.lookup
   (wpAny_getItem_list_neg (Q:=λr s'=>r=w/\EP X pins σ Q r s') pl.isList (by omega) (by rw [List.size_toArray] <;> omega) (by omega) (by rw [hj]; simpa using ew) ⟨rfl,fin⟩) hs
theorem zQG:YA X (WL X.K):=by
 intro value slice pins s σ H x y v u Q I rx ry h hs
 obtain ⟨p,xs,i,z,rfl,rfl,hq,he,q⟩:=h
 cases rx
 obtain ⟨t,rfl⟩:=ry
 obtain ⟨its,r,pl,hz⟩:=I.tuple hq
 obtain ⟨j,h1,h2,h3,h4,h5⟩:=QV he
 obtain ⟨w,ew,rw'⟩:=r.get h2
 have hl:=r.length
 have hn:=Z6
 have fin:EP X pins σ Q w s:=⟨z,H,I,rw',q⟩
 exact subscriptTail_builtinR (x:=w) pl.typeIs slot_tuple_getitem.lookup
  (getItem_tuple (j:=j) (Q:=λr s'=>r=w/\EP X pins σ Q r s') pl (by omega) (by omega) (by rw [List.size_toArray,<- hl]; exact h1) (by simpa using ew) ⟨rfl,fin⟩) hs
theorem zJp (its:List Value) (n j:Nat) (u:Value):Obj.mapSeq (·.setIfInBounds j u) { cls:=.type "list",data:=.seq its.toArray n }={ cls:=.type "list",data:=.seq (its.set j u).toArray n }:=by
 simp [Obj.mapSeq]
theorem zG.lst {pins:List (Addr × Obj)} {σ:St} {H:Hp} {s:Shared} {p:Addr} {xs:List V} (I:zG X pins σ H s) (h:H p=some (.lst xs)) :
  ∃ (its:List Value) (n:Nat),zL xs its/\s.heap.get? p=some { cls:=.type "list",data:=.seq its.toArray n }/\xs.length<=sizeLine:=by
 obtain ⟨z,its,n,r,e⟩:=I.hok p _ h
 exact ⟨its,n,r,e,z⟩
theorem zG.lstUpd {pins:List (Addr × Obj)} {σ:St} {H:Hp} {s:Shared} {p:Addr} {xs ys:List V} {its its':List Value} {n n':Nat} {f:Obj->Obj} (I:zG X pins σ H s) (h:H p=some (.lst xs))
  (ho:s.heap.get? p=some { cls:=.type "list",data:=.seq its.toArray n }) (hf:f { cls:=.type "list",data:=.seq its.toArray n }={ cls:=.type "list",data:=.seq its'.toArray n' }) (r:zL ys its') (hz:ys.length<=sizeLine) (t:Nat) :
  zG X pins σ (zZ H p (.lst ys)) { s with heap:=s.heap.update p f,toks:=t }:=by
 have e:(s.heap.update p f).get? p=some { cls:=.type "list",data:=.seq its'.toArray n' }:=by
  rw [Heap.get?_update_self f ho (by rw [hf] <;> rfl),hf]
 refine I.write (x:=p) (e:=p) (by rw [h]; trivial) (.inl rfl) (λb u hb q=>(Heap.get?_update_other _ _ (Ne.symm hb)).trans q) ⟨_,e⟩ ?_
 exact ⟨hz,its',n',r,e⟩
def gL:V->V->V->Hp->(Hp->Prop)->Prop:=λo i v H Q=>∃ p xs k j,o=.ref p/\i=.int k/\H p=some (.lst xs)/\wl xs.length k=some j/\Q (zZ H p (.lst (xs.set j v)))
theorem zMS:jO X gL:=by
 intro pins s σ H o i v ov iv u Q I ro ri rv h
 obtain ⟨p,xs,k,j,rfl,rfl,hp,hj,q⟩:=h
 cases ro
 obtain ⟨t,rfl⟩:=ri
 obtain ⟨its,n,r,ho,hz⟩:=I.lst hp
 obtain ⟨h1,h2,h3,h4⟩:=QU hj
 have hl:=r.length
 have hn:=Z6
 have I':zG X pins σ (zZ H p (.lst (xs.set j v))) { s with heap:=s.heap.update p (Obj.mapSeq (·.setIfInBounds j u)) }:=
  I.lstUpd hp ho (zJp its n j u) (r.set rv j) (by rw [List.length_set]; exact hz) s.toks
 by_cases h0:0<=k
 ·have hk:k.toNat=j:=by
   rw [seqIndex_of h0 h4] at h1
   exact Option.some.inj h1
  exact PySem.W.ki_setAt ho h0 (by omega) (by rw [List.size_toArray,<- hl]; exact h4) (by rw [hk]; exact ⟨_,I',q⟩)
 ·have hk:(k + (its.toArray.size:Int)).toNat=j:=by
   rw [seqIndex_neg (by omega) h3] at h1
   rw [List.size_toArray,<- hl]
   exact Option.some.inj h1
  exact PySem.W.ki_setBack ho (by omega) (by rw [List.size_toArray,<- hl]; exact h3) (by omega) (by rw [hk]; exact ⟨_,I',q⟩)
theorem zHD (lo hi:Option Int) (n:Nat):(sliceBounds lo hi none n).1=((HT.sIx n 0 lo:Nat):Int)/\(sliceBounds lo hi none n).2.1=((HT.sIx n n hi:Nat):Int)/\(sliceBounds lo hi none n).2.2=1:=by
 refine ⟨?_,?_,rfl⟩
 ·cases lo with
  | none=>simp [sliceBounds,HT.sIx]
  | some i=>
   simp only [sliceBounds,HT.sIx,Option.getD_none,show (1:Int) > 0 by decide,if_true]
   by_cases h:i < 0
   ·simp only [h,if_true] <;> omega
   ·simp only [h,if_false] <;> omega
 ·cases hi with
  | none=>simp [sliceBounds,HT.sIx]
  | some i=>
   simp only [sliceBounds,HT.sIx,Option.getD_none,show (1:Int) > 0 by decide,if_true]
   by_cases h:i < 0
   ·simp only [h,if_true] <;> omega
   ·simp only [h,if_false] <;> omega
theorem zGG (its:List Value) (lo hi:Option Int):slicePick its.toArray lo hi none=((its.drop (HT.sIx its.length 0 lo)).take (HT.sIx its.length its.length hi - HT.sIx its.length 0 lo)).toArray:=by
 obtain ⟨h1,h2,h3⟩:=zHD lo hi its.toArray.size
 unfold slicePick
 rw [h1,h2,h3]
 simp only [sliceRange_one,pick_run,List.size_toArray] <;> rfl
def WM (K:PySem.W.Frag):V->Option Int->Option Int->Hp->VK->Prop:=λx lo hi H Q=>∃ a xs,x=.ref a/\zb K H a xs/\∀ p,H p=none->Q (.ref p) (zZ H p (.lst (wS xs lo hi)))
theorem QZ:jS X (WM X.K):=by
 intro pins s σ H x v vl vu lo hi sl Q I rx hs pl pu h
 obtain ⟨a,xs,rfl,hx,q⟩:=h
 cases rx
 obtain ⟨its,r,ht,hz⟩:=I.list hx
 have hlen:=r.length
 refine ⟨"list",_,slot_list_getitem.lookup,ht.isList.typeIs,?_⟩
 refine wpAny_getItem_list_slice ht.isList hs pl pu .none (by simp) ?_ (by rw [List.size_toArray] <;> omega)
 rw [zGG,<- hlen]
 refine ⟨.ref s.heap.objs.size,_,I.laid (t':=s.toks) (o:=.lst (wS xs lo hi)) (λb ob q=>Heap.get?_push_of_some _ q) (Nat.le_refl _) ?_,rfl,q _ (I.hok.fresh (Nat.le_refl _))⟩
 exact ⟨Nat.le_trans (QT xs lo hi) hz,_,0,(r.drop (HT.sIx xs.length 0 lo)).take (HT.sIx xs.length xs.length hi - HT.sIx xs.length 0 lo),Heap.get?_push_size _ rfl⟩
theorem yQ:wz X (.builtin "len") (λxs H Q=>∃ p ys,xs=[.ref p]/\(zb X.K H p ys\/zo X.K H p ys)/\Q (.int ys.length) H):=by
 intro pins s σ H xs us Q I r h
 obtain ⟨p,ys,rfl,hq,q⟩:=h
 obtain ⟨u,rfl,rx⟩:=uK r
 cases rx
 have hn:=Z6
 rcases hq with hq | hq
 ·obtain ⟨its,r',pl,hz⟩:=I.list hq
  have hlen:=r'.length
  exact Calls.call_len_list pl.isList (by simp only [List.size_toArray] <;> omega) ⟨.int ys.length,H,I.tok _,⟨s.toks + 1,by rw [List.size_toArray,hlen]⟩,q⟩
 ·obtain ⟨its,r',pl,hz⟩:=I.tuple hq
  have hlen:=r'.length
  exact len_tuple pl (by simp only [List.size_toArray] <;> omega) ⟨.int ys.length,H,I.tok _,⟨s.toks + 1,by rw [List.size_toArray,hlen]⟩,q⟩
theorem vk:wz X (.type "list") (λxs H Q=>∃ p ys,xs=[.ref p]/\(zb X.K H p ys\/zo X.K H p ys)/\∀ l,H l=none->Q (.ref l) (zZ H l (.lst ys))):=by
 intro pins s σ H xs us Q I r h
 obtain ⟨p,ys,rfl,hq,q⟩:=h
 obtain ⟨u,rfl,rx⟩:=uK r
 cases rx
 have fin:∀ (its:List Value),zL ys its->ys.length<=sizeLine->∀ (h':Heap) (c':Nat),(∀ b o',s.heap.get? b=some o'->h'.get? b=some o')->
   h'.get? s.heap.objs.size=some { cls:=.type "list",dict:=none,data:=.seq its.toArray c',slots:=#[] }->EP X pins σ Q (.ref s.heap.objs.size) { s with heap:=h' }:=λits r' hz h' c' kp e=>
  ⟨.ref s.heap.objs.size,_,I.laid (t':=s.toks) kp (Nat.le_refl _) (show xx X.prog X.w _ h' _ (.lst ys) from ⟨hz,its,c',r',e⟩),rfl,q _ (I.hok.fresh (Nat.le_refl _))⟩
 rcases hq with hq | hq
 ·obtain ⟨its,r',pl,hz⟩:=I.list hq
  have hlen:=r'.length
  obtain ⟨o,ho,hc,n,hd⟩:=pl.isList
  exact call_list_seq p (.inl rfl) ho hc hd (λh' c' kp e=>fin its r' hz h' c' kp e) (by simp only [List.size_toArray] <;> omega)
 ·obtain ⟨its,r',pl,hz⟩:=I.tuple hq
  have hlen:=r'.length
  obtain ⟨o,ho,hc,n,hd⟩:=pl
  exact call_list_seq p (.inr rfl) ho hc hd (λh' c' kp e=>fin its r' hz h' c' kp e) (by simp only [List.size_toArray] <;> omega)
theorem vA:wz X (.type "tuple") (λxs H Q=>∃ p ys,xs=[.ref p]/\((zb X.K H p ys/\∀ l,H l=none->Q (.ref l) (zZ H l (.tup ys)))\/(zo X.K H p ys/\Q (.ref p) H))):=by
 intro pins s σ H xs us Q I r h
 obtain ⟨p,ys,rfl,h⟩:=h
 obtain ⟨u,rfl,rx⟩:=uK r
 cases rx
 rcases h with ⟨hq,q⟩ | ⟨hq,q⟩
 ·obtain ⟨its,r',pl,hz⟩:=I.list hq
  have hlen:=r'.length
  refine call_tuple_list pl.isList (λh' kp=>?_) (by simp only [List.size_toArray] <;> omega)
  have I1:zG X pins σ H { s with heap:=h' }:=I.kept (t':=s.toks) kp
  have I2:zG X pins σ (zZ H h'.objs.size (.tup ys)) { s with heap:=h'.push { cls:=.type "tuple",data:=.seq its.toArray } }:=
   I1.laid (t':=s.toks) (λb o e=>Heap.get?_push_of_some _ e) (Nat.le_refl _) (show xx X.prog X.w _ _ _ (.tup ys) from ⟨hz,its,r',IsTup.new _ _⟩)
  exact ⟨.ref h'.objs.size,_,I2,rfl,q _ (I1.hok.fresh (Nat.le_refl _))⟩
 ·obtain ⟨its,r',pl,hz⟩:=I.tuple hq
  exact call_tuple_same pl ⟨.ref p,H,I,rfl,q⟩
def Qa (K:PySem.W.Frag) (T:String) (x:V) (H:Hp):Prop:=match x with
 | .str _=>T = "str"
 | .int _=>T = "int"
 | .ref p=>(T = "list"/\∃ xs,zb K H p xs)\/(T = "tuple"/\∃ o,K.lookup p=some o/\o.cls=.type "tuple"/\o.dict=none)∨
   (T = "dict"/\((∃ kvs,H p=some (.dK kvs))\/∃ kvs,H p=some (.dT kvs)))\/(T = "set"/\∃ S n,H p=some (.set S n))
 | _=>False
theorem zO0 {pins:List (Addr × Obj)} {σ:St} {H:Hp} {s:Shared} {T:String} {x:V} {v:Value} (I:zG X pins σ H s) (r:zR x v) (ty:Qa X.K T x H) :
  s.TypeIs v T/\∀ a,v=.ref a->∃ ob,s.heap.get? a=some ob/\ob.dict=none:=by
 cases x with
 | str z=>
  obtain ⟨t,rfl⟩:=r
  cases (show T = "str" from ty)
  exact ⟨typeIs_str s z t,λ_ e=>nomatch e⟩
 | int i=>
  obtain ⟨t,rfl⟩:=r
  cases (show T = "int" from ty)
  exact ⟨typeIs_int s i t,λ_ e=>nomatch e⟩
 | ref p=>
  cases r
  rcases ty with ⟨rfl,xs,hq⟩ | ⟨rfl,o,hk,hc,hd⟩ | ⟨rfl,hk⟩ | ⟨rfl,S,n,hk⟩
  ·obtain ⟨its,_,pl,_⟩:=I.list hq
   refine ⟨pl.isList.typeIs,λa e=>?_⟩
   cases e
   obtain ⟨o,n,e,c,hd,_⟩:=pl
   exact ⟨o,e,hd⟩
  ·refine ⟨⟨o,I.kIn p o hk,hc⟩,λa e=>?_⟩
   cases e
   exact ⟨o,I.kIn _ o hk,hd⟩
  ·have z:∃ o,s.heap.get? p=some o/\o.ExactDict:=by
    rcases hk with ⟨kvs,hk⟩ | ⟨kvs,hk⟩
    ·obtain ⟨_,_,_,_,o,_,_,e,ex,_⟩:=I.hok p _ hk
     exact ⟨o,e,ex⟩
    ·obtain ⟨_,_,_,_,o,_,_,e,ex,_⟩:=I.hok p _ hk
     exact ⟨o,e,ex⟩
   obtain ⟨o,e,ex⟩:=z
   refine ⟨⟨o,e,ex.1⟩,λa e2=>?_⟩
   cases e2
   exact ⟨o,e,ex.2.1⟩
  ·obtain ⟨o,_,_,_,e,ex,_⟩:=I.hok p _ hk
   refine ⟨⟨o,e,ex.1⟩,λa e2=>?_⟩
   cases e2
   exact ⟨o,e,ex.2.1⟩
 | _=>exact False.elim ty
def Qb (K:PySem.W.Frag) (T:String) (r:V->List V->Hp->VK->Prop) (to:TE) (t:TA):TE:=λσ H Q=>to σ H λx H1=>Qa K T x H1/\t σ H1 λxs H2=>r x xs H2 Q
variable {o e:Expr} {es:List Expr} {to:TE} {t:TA} {name:Str} {apos cpos:Pos} {T id:String} {r:V->List V->Hp->VK->Prop}
theorem xg (pa:PlainAttrs T) (slot:Slot T name id) (hty:typeOf (.builtin id)=pure (.type "method_descriptor")) (hm:QW X id r) (ho:PE X o to) (ha:PA X (e :: es) t)
  (hbase:attributeBase o name X.env (eval o X.env)=eval o X.env:=by rfl)
  (hfew:((backTo cpos (starEach (e :: es) X.env)).all (λx=>!x.1) && (backToKw cpos (keywordEach [] X.env)).all (λx=>x.1.isSome)
   && decide ((e :: es).length + ([]:List Keyword).length + (if ([]:List Keyword).isEmpty then 0 else 1) < 30))=true:=by rfl)
  (hline:(apos.endLine == cpos.line)=true:=by rfl) (hs:starEach (e :: es) X.env=(false,eval e X.env) :: starEach es X.env:=by rfl) (hplain:(backTo cpos (starEach es X.env)).any (·.1)=false:=by rfl) :
  PE X (.Call (.Attribute o name apos) (e :: es) [] cpos) (Qb X.K T r to t):=by
 intro pins s σ H Q I h
 refine wpAny_Call_method_late hbase hfew hline rfl (ze (ho pins s σ H _ I h) λv s1 ⟨x,H1,I1,r1,ty,q1⟩=>?_)
 obtain ⟨h1,h2⟩:=zO0 I1 r1 ty
 refine ⟨T,id,pa,slot,hty,h1,h2,?_⟩
 have hA:=ha cpos pins s1 σ H1 _ I1 q1
 rw [hs] at hA |-
 refine Calls.callWith_builtin (by show (false || (backTo cpos (starEach es X.env)).any (·.1))=false; rw [hplain] <;> rfl) (Calls.evalArgs_plain ?_)
 exact ze hA λus s2 ⟨vs,H2,I2,r2,q2⟩=>hm pins s2 σ H2 x vs v us Q I2 r1 r2 q2
/- xs.append(e),list.index on a module's tuple .. are QW facts of 06m -/
end
end L2
namespace L2
open PySem PySem.Spec PyProof.Rows
def Qc (X:Cx) (id:String) (r:V->List V->Hp->VK->Prop):Prop:=
 ∀ (pins:List (Addr × Obj)) (s:Shared) (σ:St) (H:Hp) (x:V) (xs:List V) (v:Value) (us:List Value) (Q:VK),zG X pins σ H s->zR x v->zL xs us->r x xs H Q->
  wpAny (model X.prog X.w) X.A (call (.builtin id) (v :: us)) (EP X pins σ Q) X.xe s
theorem zL.one:∀ {x:V} {us:List Value},zL [x] us->∃ u,us=[u]/\zR x u
 | _,_,.cons r .nil=>⟨_,rfl,r⟩
theorem zL.rep {xs:List V} {us:List Value} (h:zL xs us):∀ k:Nat,zL (List.replicate k xs).flatten (List.replicate k us).flatten
 | 0=>.nil
 | k + 1=>by
  rw [List.replicate_succ,List.replicate_succ,List.flatten_cons,List.flatten_cons]
  exact zL.append h (zL.rep h k)
theorem Qd (its:List Value):∀ (k:Nat) (acc:List Value),
  List.foldl (λx1 x2=>x1++x2) acc.toArray (List.replicate k its.toArray)=(acc++(List.replicate k its).flatten).toArray
 | 0,acc=>by simp
 | k + 1,acc=>by
  have e:acc.toArray++its.toArray=(acc++its).toArray:=by simp
  have e2:(acc++its)++(List.replicate k its).flatten=acc++(List.replicate (k + 1) its).flatten:=by
   rw [List.replicate_succ,List.flatten_cons,List.append_assoc]
  rw [<- e2,<- Qd its k (acc++its),<- e,List.replicate_succ,List.foldl_cons]
section
variable {X:Cx} {pins:List (Addr × Obj)} {σ:St} {H:Hp} {s:Shared} {l b:Addr} {xs ys zs:List V}
theorem zG.lset {its its':List Value} {n:Nat} {f:Array Value->Array Value} {t':Nat} (I:zG X pins σ H s) (hH:H l=some (.lst xs))
  (e:s.heap.get? l=some { cls:=.type "list",data:=.seq its.toArray n }) (hf:f its.toArray=its'.toArray) (hv:zL ys its') (hz:ys.length<=sizeLine) :
  zG X pins σ (zZ H l (.lst ys)) { s with heap:=s.heap.update l (Obj.mapSeq f),toks:=t' }:=by
 have q:=PySem.IsL.update e f
 rw [hf] at q
 refine I.write (x:=l) (e:=l) (by rw [hH]; exact trivial) (.inl rfl) (λb' u hb hu=>(Heap.get?_update_other s.heap (Obj.mapSeq f) (Ne.symm hb)).trans hu) ⟨_,q⟩ ?_
 exact ⟨hz,its',_,hv,q⟩
theorem zG.lnew {its:List Value} {t':Nat} (I:zG X pins σ H s) (hv:zL ys its) (hz:ys.length<=sizeLine) :
  zG X pins σ (zZ H s.heap.objs.size (.lst ys)) { s with heap:=s.heap.push { cls:=.type "list",data:=.seq its.toArray },toks:=t' }:=
 I.laid (λ_ _ q=>Heap.get?_push_of_some _ q) (Nat.le_refl _) ⟨hz,its,0,hv,Heap.get?_push_size _ rfl⟩
theorem zG.fresh (I:zG X pins σ H s):H s.heap.objs.size=none:=I.hok.fresh (Nat.le_refl _)
theorem zG.lstM (I:zG X pins σ H s) (hH:H l=some (.lst xs)):xs.length<=sizeLine/\∃ (its:List Value) (n:Nat),zL xs its/\xs.length=its.length/\s.heap.get? l=some { cls:=.type "list",data:=.seq its.toArray n }:=by
 obtain ⟨z,its,n,r,e⟩:=I.hok l _ hH
 exact ⟨z,its,n,r,r.length,e⟩
theorem zM3 {n:Nat} (h:n<=sizeLine):Builtin.List.listTooLong n=false:=by
 unfold Builtin.List.listTooLong
 exact decide_eq_false (by omega)
end
section
variable {X:Cx}
def zN8:V->List V->Hp->VK->Prop:=λx vs H Q=>∃ l xs y,x=.ref l/\vs=[y]/\H l=some (.lst xs)/\xs.length < sizeLine/\Q .non (zZ H l (.lst (xs++[y])))
theorem zK5:Qc X "list.append" zN8:=by
 intro pins s σ H x vs v us Q I rx rv h
 obtain ⟨l,xs,y,rfl,rfl,hH,hz,q⟩:=h
 cases rx
 obtain ⟨u,rfl,ru⟩:=rv.one
 obtain ⟨z,its,n,r,hl,e⟩:=I.lstM hH
 refine call_meets F.slot_list_append ⟨_,e,rfl⟩ F.entry_list_append (F.args_list_append_2 _ _) (PySem.list_append l its.toArray n u (by rw [List.size_toArray]; omega)) ⟨e,?_⟩
 refine ⟨.non,_,I.lset (its':=its++[u]) hH e (by simp) (r.append (.cons ru .nil)) ?_,rfl,q⟩
 rw [List.length_append,List.length_singleton]
 omega
def gM:R2:=λx y H Q=>∃ l b xs zs,x=.ref l/\y=.ref b/\H l=some (.lst xs)/\H b=some (.lst zs)/\xs.length + zs.length<=sizeLine/\∀ p,H p=none->Q (.ref p) (zZ H p (.lst (xs++zs)))
theorem zP1:yw X (binaryOp .Add) gM:=by
 intro pins s σ H x y v u Q I rx ry h
 obtain ⟨l,b,xs,zs,rfl,rfl,hH,hB,hz,q⟩:=h
 cases rx
 cases ry
 obtain ⟨z,its,n,r,hl,e⟩:=I.lstM hH
 obtain ⟨z2,its2,n2,r2,hl2,e2⟩:=I.lstM hB
 refine PySem.P.add_list e e2 ?_ (by rw [List.size_toArray,List.size_toArray]; omega)
 have ea:its.toArray++its2.toArray=(its++its2).toArray:=by simp
 rw [ea]
 exact ⟨.ref _,_,I.lnew (t':=s.toks) (r.append r2) (by rw [List.length_append]; omega),rfl,q _ I.fresh⟩
def gN:R2:=λx y H Q=>∃ l k xs,x=.ref l/\y=.int k/\H l=some (.lst xs)/\-(2 ^ 63)<=k/\k < 2 ^ 63/\xs.length * k.toNat<=sizeLine∧
 ∀ p,H p=none->Q (.ref p) (zZ H p (.lst (List.replicate k.toNat xs).flatten))
theorem zOX {α:Type} (xs:List α) (k:Nat):(List.replicate k xs).flatten.length=k * xs.length:=by
 induction k with
 | zero=>simp
 | succ k ih=>rw [List.replicate_succ,List.flatten_cons,List.length_append,ih,Nat.succ_mul,Nat.add_comm]
theorem zPt:yw X (binaryOp .Mult) gN:=by
 intro pins s σ H x y v u Q I rx ry h
 obtain ⟨l,k,xs,rfl,rfl,hH,h1,h2,hz,q⟩:=h
 cases rx
 obtain ⟨t,rfl⟩:=ry
 obtain ⟨z,its,n,r,hl,e⟩:=I.lstM hH
 have hlen:its.toArray.size * k.toNat<=sizeLine:=by rw [List.size_toArray,<- hl]; exact hz
 have hcap:¬ its.toArray.size * k.toNat > (2 ^ 63 - 1) / 8:=by
  have:(sizeLine:Nat)<=(2 ^ 63 - 1) / 8:=by decide
  omega
 have hfit:¬ (!Builtin.List.listFitsIndex k)=true:=by
  rw [fitsIndex_both h1 h2]
  exact Bool.false_ne_true
 have hlong:¬ Builtin.List.listTooLong (its.toArray.size * k.toNat)=true:=by
  rw [zM3 hlen]
  exact Bool.false_ne_true
 have hnew:List.foldl (λx1 x2=>x1++x2) #[] (List.replicate (if its.toArray.isEmpty=true then 0 else k.toNat) its.toArray)=(List.replicate k.toNat its).flatten.toArray:=by
  have f0:∀ m:Nat,List.foldl (λx1 x2=>x1++x2) #[] (List.replicate m its.toArray)=(List.replicate m its).flatten.toArray:=λm=>by
   have:=Qd its m []
   rw [List.nil_append] at this
   exact this
  rw [f0]
  cases its with
  | nil=>simp
  | cons a r'=>rw [if_neg (by simp)]
 refine wpAny_binaryOp_repeat_ref (T:="list") (U:="int") (by decide) ⟨_,e,rfl⟩ (λs'=>typeIs_int s' k t) noFill_list_mul F.fills_int_mul F.slot_int_rmul repeat_list F.slot_int_index.lookup
  (call_meets F.slot_int_rmul (typeIs_int s k t) F.entry_int_rmul (F.args_int_rmul_2 _ _) (int___rmul___int_list k t l its.toArray n)
   ⟨e,rfl,⟨_,e,rfl⟩,call_meets F.slot_list_mul ⟨_,e,rfl⟩ F.entry_list_mul (F.args_list_mul_2 _ _) (AutoListH.list___mul___list_int_3 l its.toArray n k t hfit hcap hlong) ⟨e,?_⟩⟩)
 rw [hnew]
 exact ⟨.ref _,_,I.lnew (t':=s.toks) (r.rep k.toNat) (by rw [zOX,Nat.mul_comm]; exact hz),rfl,q _ I.fresh⟩
end
section
variable {prog:Program} {w:World} {A:Around} {E:Value->Shared->Prop} {s:Shared}
end
section
variable {X:Cx}
end
end L2
namespace Att
open PySem PySem.W PySem.Calls PyProof.Rows
theorem zFd {P:Params} {h:Heap}:∀ (ns:List Int) (vs:List Value),WellAll P h vs (ns.map WData.int)->IntsAre vs ns:=by
 intro ns
 induction ns with
 | nil=>
  intro vs w
  rw [List.map_nil] at w
  cases w
  exact .nil
 | cons n ns ih=>
  intro vs w
  rw [List.map_cons] at w
  cases w with
  | cons a b=>
   cases a
   exact .cons _ _ (ih _ b)
theorem zKI {l:OpenLaw} {n:Nat} (hn:l.most=some n) {P:Params} {h:Heap} {args:List WData} {vals:List Value}
  (hpre:l.row.toRowW.claim.pre args=true) (hwl:WellAll P h vals args) :
  ∃ a vs ns,vals=[Value.ref a]/\args=[WData.list (ns.map WData.int)]/\h.get? a=some { cls:=.type "list",data:=.seq vs.toArray }/\IntsAre vs ns/\ns.length<=n:=by
 have hsh:WShape.hasAll [] args [.list .int]=true:=(pre_splitW hpre).1
 have hc:l.pre.holds [] { args:=args }=true:=(pre_splitW hpre).2
 obtain ⟨d,r,rfl,h1,h2⟩:=hasAllW_cons hsh
 obtain rfl:=hasAllW_nil h2
 obtain ⟨xs,rfl,h3⟩:=hasW_list h1
 obtain ⟨ns,rfl⟩:=items_int h3
 have hlen:ns.length<=n:=by
  unfold OpenLaw.pre at hc
  have h4:(WTm.not (.lt (.lit (.int (n:Int))) (.len (.arg 0)))).holds [] { args:=[.list (ns.map .int)] }=true:=by
   have h4:=(holds_andW hc).1
   rw [hn] at h4
   exact h4
  have h5:=condW_of h4 (w_not (w_lt w_lit (w_len_list (w_arg rfl))))
  rw [List.length_map] at h5
  refine Nat.le_of_not_lt λq=>?_
  have q':(n:Int) < ((ns.length:Nat):Int):=by omega
  first
   | (rw [decide_eq_true q'] at h5; exact absurd h5 (by decide))
   | (simp at h5; omega)
 cases hwl with
 | cons w1 w2=>
  cases w2
  cases w1 with
  | list ho hall=>exact ⟨_,_,ns,rfl,rfl,ho,zFd ns _ hall,hlen⟩
theorem zKd (l:OpenLaw) (args:List WData):l.row.toRowW.claim.post args (.bool true) args=true:=
 postW_of (r:=l.row.toRowW) (X:=(true == true))
  (show WShape.has [] (.bool true) .bool=true by first | rfl | decide | simp [WShape.has,WShape.arms,WShape.armsAll])
  (show (WTm.eq .res (.lit (.bool true))).value [] { args:=args,res:=some (.bool true),after:=args }=some (.bool (true == true)) from w_eq_bool (w_res rfl) w_lit) rfl
theorem attach_call {l:OpenLaw} {n:Nat} {q:Program} {loose:List Str} {XP:(Str->Option Value)->Heap->Prop} {YP:World->Heap->Prop} {d:DefRec}
  (hn:l.most=some n) (hdf:d.params.defaults=[])
  (call:∀ (w:World) (s₀ s₁:Shared) (mg mb:Str->Option Value) (fa:Addr) (o:Obj) (pm cd doc:Value) (a:Addr) (vs:List Value) (ns:List Int),
   Ground q loose [] XP w s₀ mg mb s₁.heap->YP w s₁.heap->
   s₁.heap.get? fa=some o->o.data=.func (docDef d.name d.params d.body d.scope pm cd doc)->s₁.heap.CodeRec cd d.name->mg d.name=some (.ref fa)->
   s₁.heap.get? a=some { cls:=.type "list",data:=.seq vs.toArray }->IntsAre vs ns->ns.length<=n->s₁.gens=#[]->
   codeAny (model l.prog w) callerA (.call (.ref fa) ⟨[.ref a],[]⟩) (λr s'=>r=.ok (.ret (.bool true))/\OldK s₁.heap s'.heap/\s'.os=s₁.os/\AllBare s'.gens) s₁) :
  WalkO q loose XP YP l.row.toRowW d [] (λf vs=>PySem.call f vs):=by
 intro w s₀ s₁ mg mb G Y fa o pm cd doc dV kV ho hd hcd hD hmg hg args vals as hpre hlay hrd hwl hlo
 obtain rfl:dV=.none:=Dflts.none hD hdf
 obtain rfl:kV=.none:=Dflts.noKw hD
 obtain ⟨a,vs,ns,rfl,rfl,hobj,hints,hlen⟩:=zKI hn hpre hwl
 refine enter_call (codeAny_mono (call w s₀ s₁ mg mb fa o pm cd doc a vs ns G Y ho (fd_plain hd) hcd hmg hobj hints hlen hg) λr s' hq=>?_)
 obtain ⟨rfl,h2,h3,h4⟩:=hq
 exact ⟨.inl ⟨.bool true,.bool true,[],rfl,λ_=>rfl,.bool true,zKd l _,λ_=>⟨List.Pairwise.nil,λ_ hm=>(nomatch hm)⟩⟩,h2,h3,h4⟩
section
variable {prog:Program} {w:World} {A:Around} {E:Value->Shared->Prop} {s:Shared} {K:Frag}
end
end Att
namespace L2
open PySem PySem.Spec PyProof.Rows
theorem Qe:∀ {vs:List Value} {ns:List Int},IntsAre vs ns->zL (ns.map V.int) vs
 | _,_,.nil=>.nil
 | _,_,.cons n t h=>.cons ⟨t,rfl⟩ (Qe h)
def jT (H:Hp):Prop:=∀ b,H b=none\/∃ o xs,H b=some (.frz o (.lst xs))
theorem law_call {P:Program} {w:World} {K:PySem.W.Frag} {mg mb:Str->Option Value} {CX:vT} {k:Nat} {fa a:Addr} {fd:FuncData} {x:Str} {sp:Sp} {s₁:Shared} {vs:List Value} {ns:List Int}
  (KX:K.In s₁.heap) (hns:s₁.heap.Ns mainGlobals mg) (hb:s₁.heap.Ns builtinsNs mb) (hbb:∀ x:Str,x≠"__name__"->mb x=bootBuiltins x) (hlim:s₁.heap.NoLimit) (hg:s₁.gens=#[])
  (ha:s₁.heap.get? a=some { cls:=.type "list",data:=.seq vs.toArray }) (hi:IntsAre vs ns) (hl:ns.length<=sizeLine) (hr:zh k callerA)
  (F:∀ base:Heap,K.In base->base.Ns mainGlobals mg->zH P w K mg base CX k fa fd [x] sp) (hbind:∀ (s:Shared) (u:Value),BindsTo s fd ⟨[u],[]⟩ [(x,u)])
  (hsp:∀ H:Hp,jT H->zb K H a (ns.map V.int)->sp [.ref a] H (λv _=>v=.bl true) λ_ _ _=>False)
  (hCX:∀ H e s',CX [] H s₁ (λ_ _ _=>False) e s'->False) :
  codeAny (model P w) callerA (.call (.ref fa) ⟨[.ref a],[]⟩) (λr s'=>r=.ok (.ret (.bool true))/\OldK s₁.heap s'.heap/\s'.os=s₁.os/\AllBare s'.gens) s₁:=by
 have rv:=Qe hi
 have lenV:=hi.length
 have core:∀ H:Hp,jT H->zb K H a (ns.map V.int)->xF P w H s₁.heap->(∀ b,H b≠none->b=a)->(H a≠none->K.lookup a=none)->
   codeAny (model P w) callerA (.call (.ref fa) ⟨[.ref a],[]⟩) (λr s'=>r=.ok (.ret (.bool true))/\OldK s₁.heap s'.heap/\s'.os=s₁.os/\AllBare s'.gens) s₁:=by
  intro H hO hS hok hA hK
  have base_of:∀ {b:Addr} {o:Obj},s₁.heap.get? b=some o->H b=none->(wE s₁.heap H).get? b=some o:=λe n=>zM9 e n
  have noA:∀ {b:Addr} {o:Obj} {es:Array DictEntry} {ep:Nat},s₁.heap.get? b=some o->o.data=.dict es ep->H b=none:=λ{b o es ep} e d=>by
   cases q:H b with
   | none=>rfl
   | some u=>
    have e':b=a:=hA b (by rw [q]; simp)
    subst e'
    rw [ha] at e; cases e
    have d':Data.seq vs.toArray _=Data.dict es ep:=d
    cases d'
  have nsK:∀ {b:Addr} {m:Str->Option Value},s₁.heap.Ns b m->(wE s₁.heap H).Ns b m:=λ{b m} ⟨o,es,ep,e,d,r⟩=>⟨o,es,ep,base_of e (noA e d),d,r⟩
  have hKb:K.In (wE s₁.heap H):=λb o e=>base_of (KX b o e) (by
   cases q:H b with
   | none=>rfl
   | some u=>
    have e':b=a:=hA b (by rw [q]; simp)
    subst e'
    rw [hK (by rw [q]; simp)] at e; cases e)
  have hM:Mod K mg (wE s₁.heap H):=⟨hKb,nsK hns,⟨mb,nsK hb,hbb⟩,let ⟨mc,h1,h2⟩:=hlim; ⟨mc,nsK h1,h2⟩⟩
  have e0:w6 P w K mg (wE s₁.heap H) callerA [] s₁ H:=⟨rfl,hM,λb o e=>zOV e,Nat.le_of_eq (zLH _ _),trivial,λb hb=>absurd (show b∈([]:List Addr) from hb) (by simp),hok,.of_eq hg⟩
  refine codeAny_mono ((F _ hKb (nsK hns)).run callerA [] s₁ H ⟨[.ref a],[]⟩ [.ref a] [.ref a] _ _ hr e0 (hbind s₁ (.ref a)) (.cons rfl .nil) (hsp H hO hS)) λr s' h=>?_
  cases r with
  | error e=>exact (hCX H e s' h).elim
  | ok fl=>
   cases fl with
   | next=>exact False.elim h
   | brk=>exact False.elim h
   | cont=>exact False.elim h
   | ret u=>
    obtain ⟨v,H',os,bare,un,hok',r',q⟩:=h
    have q':v=.bl true:=q
    subst q'
    obtain rfl:u=Value.bool true:=r'
    refine ⟨rfl,OldK.of_keep λb o e=>?_,os,bare⟩
    cases q:H b with
    | none=>exact un.keep b o e q (by intro z; exact absurd (show b∈([]:List Addr) from z) (by simp)) (by simp)
    | some u=>
     rcases hO b with z | ⟨ob,xs,z⟩
     ·rw [q] at z; cases z
     ·have z2:=un.frzs b ob _ z
      obtain ⟨e1,_⟩:=hok b _ z
      obtain ⟨e2,_⟩:=hok' b _ z2
      rw [e] at e1; cases e1
      exact e2
 cases hk:K.lookup a with
 | some o=>
  have e:=KX a o hk
  rw [ha] at e
  cases e
  refine core (λ_=>none) (λ_=>.inl rfl) (.inr ⟨_,vs.toArray,_,hk,rfl,rfl,rfl,by rw [List.size_toArray,lenV]; exact hl,by simpa using rv⟩) (λb u z=>by have z':(none:Option HO)=some u:=z; cases z') (λb z=>absurd rfl z) λz=>absurd rfl z
 | none=>
  refine core (λb=>if b=a then some (.frz { cls:=.type "list",data:=.seq vs.toArray } (.lst (ns.map V.int))) else none) (λb=>?_) (.inl (.inr ⟨{ cls:=.type "list",data:=.seq vs.toArray },if_pos rfl⟩)) (λb u z=>?_) (λb z=>?_) λ_=>hk
  ·by_cases hb:b=a
   ·exact .inr ⟨_,_,if_pos hb⟩
   ·exact .inl (if_neg hb)
  ·by_cases hb:b=a
   ·have z':=(if_pos hb).symm.trans z
    cases z'
    subst hb
    exact ⟨ha,by rw [List.length_map]; exact hl,vs,_,rv,ha⟩
   ·have z':=(if_neg hb).symm.trans z
    cases z'
  ·by_cases hb:b=a
   ·exact hb
   ·exact absurd (if_neg hb) z
end L2
namespace L2
open PySem PySem.Spec PyProof.Rows
theorem zNz {l:PySem.W.OpenLaw} {n k:Nat} {q:Program} {loose:List Str} {XP:(Str->Option Value)->Heap->Prop} {YP:World->Heap->Prop} {d:DefRec} {K:Params->PySem.W.Frag} {CX:World->vT} {sp:World->Sp} {x:Str}
  (hn:l.most=some n) (hn2:n<=sizeLine) (hdf:d.params.defaults=[]) (hr:zh k callerA)
  (hY:∀ (w:World) (h:Heap),YP w h->(K w.params).In h)
  (F:∀ (w:World) (mg:Str->Option Value) (fa:Addr) (h:Heap),(K w.params).In h->h.Ns mainGlobals mg->mg d.name=some (.ref fa)->
   ∃ fd:FuncData,(∀ (s:Shared) (u:Value),BindsTo s fd ⟨[u],[]⟩ [(x,u)])∧
    ∀ base:Heap,(K w.params).In base->base.Ns mainGlobals mg->zH l.prog w (K w.params) mg base (CX w) k fa fd [x] (sp w))
  (hsp:∀ (w:World) (H:Hp) (a:Addr) (ns:List Int),ns.length<=n->jT H->zb (K w.params) H a (ns.map V.int)->sp w [.ref a] H (λv _=>v=.bl true) λ_ _ _=>False)
  (hCX:∀ (w:World) (H:Hp) (s:Shared) (e:Value) (s':Shared),CX w [] H s (λ_ _ _=>False) e s'->False) :
  PySem.W.WalkO q loose XP YP l.row.toRowW d [] (λf vs=>PySem.call f vs):=by
 refine Att.attach_call hn hdf λw s₀ s₁ mg mb fa o pm cd doc a vs ns G Y ho hd hcd hmg hobj hints hlen hg=>?_
 have KX:=hY w _ Y
 obtain ⟨fd,hb,hF⟩:=F w mg fa _ KX G.T.g hmg
 exact law_call KX G.T.g G.T.b G.T.builtins G.T.nolimit hg hobj hints (Nat.le_trans hlen hn2) hr hF hb (λH hO hS=>hsp w H a ns hlen hO hS) λH e s'=>hCX w H s₁ e s'
end L2
namespace L2
open PySem PySem.Spec PyProof.Rows
def jU (s:Stmt) (j:Nat):Stmt:=match s with
 | .ClassDef _ _ _ body _ _ _ _ _ _ _=>body.getD j (.Pass ⟨0,0,0,0⟩)
 | _=>.Pass ⟨0,0,0,0⟩
def wm (s:Stmt):Arguments:=match s with
 | .FunctionDef _ a _ _ _ _ _ _ _ _=>a
 | _=>{ posonlyargs:=[],args:=[],vararg:=none,kwonlyargs:=[],kw_defaults:=[],kwarg:=none,defaults:=[] }
def xh (s:Stmt):List Stmt:=match s with
 | .FunctionDef _ _ b _ _ _ _ _ _ _=>b
 | _=>[]
def zK (s:Stmt):Scope:=match s with
 | .FunctionDef _ _ _ _ _ _ sc _ _ _=>sc
 | _=>{ kind:=.function,names:=[],isGenerator:=false,isCoroutine:=false }
abbrev zW:vT:=λ_ _ _ _ _ _=>False
abbrev E0:XK:=λ_ _ _=>False
theorem YB {X:Cx}:qC zW X E0:=λ_ _ _ _ _ _ _ h=>h.elim
structure zc (K:PySem.W.Frag) (x qual:Str) (st:Stmt) (f:Addr) (fd:FuncData):Prop where
 ex:∃ (oc:Value) (od:Option Addr) (kV doc pm:Value) (an:Option Addr) (cdv ct:Value) (osl:Array (Option Value)),
  fd=PySem.W.fnOf x qual (wm st) (xh st) (zK st) .none kV doc pm an cdv ct/\K.lookup f=some ⟨oc,od,.func fd,osl⟩/\PySem.W.codeIn K cdv qual=true
 kp:PySem.W.keepIn K (.ref f)=true
section
variable {P:Program} {w:World} {K:PySem.W.Frag} {mg:Str->Option Value} {base:Heap}
theorem zc.ok {x qual:Str} {st:Stmt} {f:Addr} {fd:FuncData} {N ps:List Str} {k:Nat} {sp:Sp} (F:zc K x qual st f fd) (S:za N ps (zK st)) (len:∀ vs H Q E,sp vs H Q E->vs.length=ps.length)
  (hbody:∀ (cdv:Value) (A:Around) (outer:List Env) (s:Shared) (H:Hp) (vs:List V) (Q:VK) (E:XK),zh k (A.deeper (envOfC qual (zK st) s.heap.objs.size f cdv))->sp vs H Q E->
   ∃ t,xC (xf zW P w K mg base N qual (zK st) f cdv A outer s H E).nox (xh st) t/\t { nx:=λ_ H'=>Q .non H',rt:=Q } (xc N vs) H):zH P w K mg base zW (k + 1) f fd ps sp:=by
 obtain ⟨oc,od,kV,doc,pm,an,cdv,ct,osl,rfl,lk,hcd⟩:=F.ex
 refine QO lk hcd S len λA outer s H vs Q E hr hsp=>?_
 obtain ⟨t,h,q⟩:=hbody cdv A outer s H vs Q E hr hsp
 exact ⟨t,h.nox,q⟩
theorem zc.binds {x qual:Str} {st:Stmt} {f:Addr} {fd:FuncData} {ps:List Str} (F:zc K x qual st f fd)
  (h:∀ (kV doc pm:Value) (an:Option Addr) (cdv ct:Value) (us:List Value),us.length=ps.length->bindArgs (PySem.W.fnOf x qual (wm st) (xh st) (zK st) .none kV doc pm an cdv ct) ⟨us,[]⟩=pure (ps.zip us)):w8 K fd ps []:=by
 obtain ⟨oc,od,kV,doc,pm,an,cdv,ct,osl,rfl,lk,hcd⟩:=F.ex
 exact .all (h kV doc pm an cdv ct)
theorem Qf {x qual:Str} {st:Stmt} {f:Addr} {oc:Value} {od an:Option Addr} {osl:Array (Option Value)} {kV doc pm cdv ct:Value} (l:K.lookup f=some ⟨oc,od,.func (PySem.W.fnOf x qual (wm st) (xh st) (zK st) .none kV doc pm an cdv ct),osl⟩)
  (c:PySem.W.codeIn K cdv qual=true) (k:PySem.W.keepIn K (.ref f)=true):zc K x qual st f (PySem.W.fnOf x qual (wm st) (xh st) (zK st) .none kV doc pm an cdv ct):=⟨⟨oc,od,kV,doc,pm,an,cdv,ct,osl,rfl,l,c⟩,k⟩
end
theorem YC {n:Nat} (h:n<=1000):n < sizeLine:=Nat.lt_of_le_of_lt h (by decide)
section
variable {X:Cx}
theorem pv (i:Nat) {x:Str} {pos:Pos} (hN:X.N[i]? = some x:=by rfl) (hv:jM X.env.scope x:=by first | exact Or.inl rfl | exact Or.inr (Or.inl rfl) | exact Or.inr (Or.inr rfl)) (hd:(x == ("__debug__" : Str))=false:=by decide)
  (hcd:(x == ("__classdict__" : Str))=false:=by decide):PE X (.Name x pos) (qm i):=Xv hN hv hd hcd
end
theorem WN {A B:Prop} (h:B):if false=true then A else B:=by
 rw [if_neg Bool.false_ne_true]
 exact h
theorem gO {c A B:Prop} [Decidable c] (hc:c) (h:B):if (!decide c)=true then A else B:=by
 rw [decide_eq_true hc]
 exact WN h
def zF (H H':Hp):Prop:=∀ b o,H b=some o->H' b=some o
theorem zF.refl (H:Hp):zF H H:=λ_ _ h=>h
theorem zF.trans {H H1 H2:Hp} (a:zF H H1) (b:zF H1 H2):zF H H2:=λc o h=>b c o (a c o h)
end L2
set_option maxHeartbeats 4000000
namespace Sh
def vI (ns:List Int):Int:=ns.foldl (λc n=>(Int.gcd c n:Int)) 0
theorem zIL (ns:List Int) (n:Int):vI (ns++[n])=(Int.gcd (vI ns) n:Int):=by
 unfold vI
 rw [List.foldl_append]
 rfl
theorem zG1 (ns:List Int):0<=vI ns:=by
 rcases List.eq_nil_or_concat ns with rfl | ⟨l,a,rfl⟩
 ·exact Int.le_refl 0
 ·rw [List.concat_eq_append,zIL]
  exact Int.natCast_nonneg _
theorem zNB (c r:Int):Int.gcd r (c.fmod r)=Int.gcd c r:=by
 rw [Int.fmod_def,Int.gcd_sub_mul_left_right,Int.gcd_comm]
theorem zLL {c r:Int} (h:r≠0):(c.fmod r).natAbs < r.natAbs:=by
 rcases Int.lt_or_gt_of_ne h with hr | hr
 ·have e:c.fmod r = -((-c).fmod (-r)):=by rw [Int.neg_fmod_neg,Int.neg_neg]
  have h1:=Int.fmod_nonneg_of_pos (-c) (b:=-r) (by omega)
  have h2:=Int.fmod_lt_of_pos (-c) (b:=-r) (by omega)
  omega
 ·have h1:=Int.fmod_nonneg_of_pos c hr
  have h2:=Int.fmod_lt_of_pos c hr
  omega
theorem zQk (i:Int):(if i < 0 then -i else i)=(i.natAbs:Int):=by
 split <;> omega
def cm (t b:Int):Int:=if b < 0 then -(Int.gcd t b:Int) else (Int.gcd t b:Int)
def WO (t b:Int):Int:=t.fdiv (cm t b)
def WP (t b:Int):Int:=b.fdiv (cm t b)
theorem zOa {t b:Int} (h:b≠0):0 < (Int.gcd t b:Int):=by
 have:0 < Int.gcd t b:=Int.gcd_pos_of_ne_zero_right _ h
 omega
end Sh
namespace Sh
def zQj (st:Int × Int) (p:Int × Int × Int):Int × Int:=(st.1 * p.2.2 + p.1 * p.2.1 * st.2,st.2 * p.2.2)
def ux (ws:List Int) (pts:List (Int × Int)):Int × Int:=(ws.zip pts).foldl zQj (0,1)
end Sh
namespace Sh
def gP (ws:List Int):List Int:=ws.map (·.fdiv (vI ws))
section
variable {β γ:Type}
def look (m:List (List Int × β)) (k:List Int):Option β:=(m.find? λkv=>decide (kv.1=k)).map (·.2)
def put (m:List (List Int × β)) (k:List Int) (v:β):List (List Int × β):=
 if (m.any λkv=>decide (kv.1=k))=true then m.map (λkv=>if kv.1=k then (kv.1,v) else kv) else m++[(k,v)]
theorem Qg (m:List (List Int × β)) (k:List Int):(m.any λkv=>decide (kv.1=k))=(look m k).isSome:=by
 induction m with
 | nil=>rfl
 | cons p r ih=>
  unfold look at ih |-
  rw [List.any_cons,List.find?_cons,ih]
  by_cases e:p.1=k
  ·rw [decide_eq_true e]; rfl
  ·rw [decide_eq_false e]; rfl
theorem YD {m:List (List Int × β)} {k:List Int} (h:look m k=none):∀ p∈m,p.1≠k:=by
 intro p hp e
 have a:(m.any λkv=>decide (kv.1=k))=true:=List.any_eq_true.mpr ⟨p,hp,decide_eq_true e⟩
 rw [Qg,h] at a
 cases a
theorem Qh {m:List (List Int × β)} {k:List Int} {v:β} {p:List Int × β} (h:p∈put m k v):p=(k,v)\/p∈m:=by
 unfold put at h
 split at h
 ·obtain ⟨q,hq,e⟩:=List.mem_map.mp h
  by_cases c:q.1=k
  ·rw [if_pos c] at e
   exact .inl (by rw [<- e,c])
  ·rw [if_neg c] at e
   exact .inr (e ▸ hq)
 ·rcases List.mem_append.mp h with h | h
  ·exact .inr h
  ·exact .inl (List.mem_singleton.mp h)
theorem zM6 (m:List (List Int × β)) (k:List Int) (v:β):(put m k v).map (·.1)=if (look m k).isSome=true then m.map (·.1) else m.map (·.1)++[k]:=by
 unfold put
 rw [Qg]
 split
 ·rw [List.map_map]
  refine List.map_congr_left λp _=>?_
  show (if p.1=k then (p.1,v) else p).1=p.1
  split <;> rfl
 ·rw [List.map_append]
  rfl
theorem zK3 {m:List (List Int × β)} (k:List Int) (v:β) (h:(m.map (·.1)).Nodup):((put m k v).map (·.1)).Nodup:=by
 rw [zM6]
 split
 ·exact h
 ·rename_i c
  have n:look m k=none:=by
   cases e:look m k with
   | none=>rfl
   | some u=>rw [e] at c; exact absurd rfl c
  refine List.nodup_append.mpr ⟨h,by simp,λa ha b hb e=>?_⟩
  obtain ⟨p,hp,e1⟩:=List.mem_map.mp ha
  rw [List.mem_singleton.mp hb] at e
  exact YD n p hp (e1.trans e)
end
abbrev gQ:=List (List Int × (List Int × Int)) × Option (List Int)
def Qi (st:gQ) (r:List Int × Int):gQ:=
 if vI r.1≠0 then
  match look st.1 (gP r.1) with
  | none=>(put st.1 (gP r.1) r,st.2)
  | some o=>if r.2 * vI o.1 < o.2 * vI r.1 then (put st.1 (gP r.1) r,st.2) else st
 else if r.2 < 0 then (st.1,some r.1) else st
structure qD (st:gQ):Prop where
 g0:∀ p∈st.1,0 < vI p.2.1
 way:∀ p∈st.1,p.1=gP p.2.1
 nd:(st.1.map (·.1)).Nodup
 z:∀ ws,st.2=some ws->vI ws=0
theorem WQ {ws:List Int} (h:vI ws≠0):0 < vI ws:=by
 have:=zG1 ws
 omega
theorem qD.put {st:gQ} (h:qD st) {r:List Int × Int} (g:vI r.1≠0):qD (Sh.put st.1 (gP r.1) r,st.2):=by
 refine ⟨λp hp=>?_,λp hp=>?_,zK3 _ _ h.nd,h.z⟩
 ·rcases Qh hp with e | hp
  ·rw [e]; exact WQ g
  ·exact h.g0 p hp
 ·rcases Qh hp with e | hp
  ·rw [e]
  ·exact h.way p hp
theorem qD.step {st:gQ} (h:qD st) (r:List Int × Int):qD (Qi st r):=by
 unfold Qi
 split
 ·rename_i g
  split
  ·exact h.put g
  ·split
   ·exact h.put g
   ·exact h
 ·rename_i g
  have g0:vI r.1=0:=Decidable.of_not_not g
  split
  ·refine ⟨h.g0,h.way,h.nd,λws e=>?_⟩
   cases e
   exact g0
  ·exact h
section
variable (num:List Int->Int) (den:Int)
def hl (r:List Int × Int):Bool:=decide (num r.1<=r.2 * den)
variable (hden:0 < den) (Qz:∀ (ws:List Int) (c:Int),num (ws.map (· * c))=num ws * c)
include hden Qz
end
end Sh
namespace L2
open PySem
def vz (env:Env) (cs:List (Str × Addr)) (p:Str × NameKind):List (Str × Addr):=if (p.2 == .free)=true then (p.1,(env.cells.lookup p.1).getD 0) :: cs else cs
def wG (scope:Scope) (env:Env):List (Str × Addr):=scope.names.foldl (vz env) []
theorem zJz {env:Env}:∀ (names:List (Str × NameKind)) (cs:List (Str × Addr)),(∀ p∈names,p.2=.free->(env.cells.lookup p.1).isSome=true)->
  (forIn names cs (λ(p:Str × NameKind) (r:List (Str × Addr))=>(if (p.2 == .free)=true then do let a <- cellOf env p.1; pure (ForInStep.yield ((p.1,a) :: r)) else pure (ForInStep.yield r):Sem (ForInStep (List (Str × Addr))))))=pure (names.foldl (vz env) cs):=by
 intro names
 induction names with
 | nil=>intro cs _; rfl
 | cons p r ih=>
  intro cs h
  obtain ⟨n,k⟩:=p
  rw [List.forIn_cons]
  by_cases hk:k=.free
  ·subst hk
   obtain ⟨c,hc⟩:=Option.isSome_iff_exists.mp (h (n,.free) List.mem_cons_self rfl)
   have e:cellOf env n=pure c:=by unfold cellOf; dsimp only at hc; rw [hc]
   have z:vz env cs (n,.free)=(n,c) :: cs:=by unfold vz; dsimp only at hc |-; rw [hc]; rfl
   simp only [e,beq_self_eq_true,if_true,pure_bind,List.foldl_cons,z]
   exact ih _ λq hq=>h q (List.mem_cons_of_mem _ hq)
  ·have b:(k == NameKind.free)=false:=by simpa using hk
   have z:vz env cs (n,k)=cs:=by unfold vz; dsimp only; rw [b]; rfl
   simp only [b,Bool.false_eq_true,if_false,pure_bind,List.foldl_cons,z]
   exact ih _ λq hq=>h q (List.mem_cons_of_mem _ hq)
theorem WR {scope:Scope} {env:Env} (h:∀ p∈scope.names,p.2=.free->(env.cells.lookup p.1).isSome=true):closureFor scope env=pure (wG scope env):=by
 unfold closureFor wG
 have:=zJz scope.names [] h
 exact (congrArg (λm=>m >>= λr=>pure r) this).trans rfl
theorem zLp {env:Env}:∀ (names:List (Str × NameKind)) (cs:List (Str × Addr)) (x:Str) (c:Addr),(x,c)∈names.foldl (vz env) cs->(x,c)∈cs\/((x,NameKind.free)∈names/\c=(env.cells.lookup x).getD 0):=by
 intro names
 induction names with
 | nil=>intro cs x c h; exact .inl h
 | cons p r ih=>
  intro cs x c h
  obtain ⟨n,k⟩:=p
  rw [List.foldl_cons] at h
  rcases ih _ x c h with h1 | ⟨h1,h2⟩
  ·unfold vz at h1
   dsimp only at h1
   by_cases hk:k=.free
   ·subst hk
    simp only [beq_self_eq_true,if_true] at h1
    rcases List.mem_cons.mp h1 with e | h1
    ·injection e with e1 e2
     subst e1; subst e2
     exact .inr ⟨List.mem_cons_self,rfl⟩
    ·exact .inl h1
   ·have b:(k == NameKind.free)=false:=by simpa using hk
    simp only [b,Bool.false_eq_true,if_false] at h1
    exact .inl h1
  ·exact .inr ⟨List.mem_cons_of_mem _ h1,h2⟩
theorem qE {α β:Type} [BEq α] [LawfulBEq α]:∀ {l:List (α × β)} {a:α} {b:β},l.lookup a=some b->(a,b)∈l
 | [],_,_,h=>by simp at h
 | (x,y) :: r,a,b,h=>by
  rw [List.lookup_cons] at h
  by_cases e:a=x
  ·subst e
   simp only [beq_self_eq_true,if_true] at h
   cases h
   exact List.mem_cons_self
  ·have:(a == x)=false:=by simpa using e
   simp only [this] at h
   exact List.mem_cons_of_mem _ (qE h)
theorem Qj {α β:Type} [BEq α] [LawfulBEq α]:∀ {l:List (α × β)} {a:α} {b:β},(a,b)∈l->∃ c,l.lookup a=some c
 | [],_,_,h=>by cases h
 | (x,y) :: r,a,b,h=>by
  rw [List.lookup_cons]
  by_cases e:a=x
  ·subst e
   exact ⟨y,by simp⟩
  ·have z:(a == x)=false:=by simpa using e
   rcases List.mem_cons.mp h with q | q
   ·injection q with q1 _; exact absurd q1 e
   ·obtain ⟨c,hc⟩:=Qj q
    exact ⟨c,by simp only [z]; exact hc⟩
theorem zLq {env:Env}:∀ (names:List (Str × NameKind)) (cs:List (Str × Addr)) (x:Str),((x,NameKind.free)∈names\/∃ c,(x,c)∈cs)->∃ c,(x,c)∈names.foldl (vz env) cs:=by
 intro names
 induction names with
 | nil=>
  intro cs x h
  rcases h with h | h
  ·cases h
  ·exact h
 | cons p r ih=>
  intro cs x h
  rw [List.foldl_cons]
  refine ih _ x ?_
  rcases h with h | ⟨c,h⟩
  ·rcases List.mem_cons.mp h with e | h
   ·subst e
    exact .inr ⟨_,by unfold vz; simp only [beq_self_eq_true,if_true]; exact List.mem_cons_self⟩
   ·exact .inl h
  ·refine .inr ⟨c,?_⟩
   unfold vz
   split
   ·exact List.mem_cons_of_mem _ h
   ·exact h
theorem jV {scope:Scope} {env:Env} (h:∀ p∈scope.names,p.2=.free->(env.cells.lookup p.1).isSome=true) {x:Str} {c:Addr} (e:(wG scope env).lookup x=some c) :
  env.cells.lookup x=some c/\(x,NameKind.free)∈scope.names:=by
 rcases zLp scope.names [] x c (qE e) with z | ⟨z,q⟩
 ·cases z
 ·obtain ⟨d,hd⟩:=Option.isSome_iff_exists.mp (h _ z rfl)
  dsimp only at hd
  rw [hd] at q
  exact ⟨by rw [hd,q]; rfl,z⟩
theorem WS {scope:Scope} {env:Env} {x:Str} (h:(x,NameKind.free)∈scope.names):∃ c,(wG scope env).lookup x=some c:=by
 obtain ⟨c,hc⟩:=zLq (env:=env) scope.names [] x (.inl h)
 exact Qj hc
theorem Qk {scope:Scope} {env:Env} {x:Str} {k:NameKind} (h:(relabel scope env).names.lookup x=some k):(k=.cell/\((x,NameKind.free)∈scope.names\/(x,NameKind.cell)∈scope.names))\/(x,k)∈scope.names:=by
 have m:=qE h
 unfold relabel at m
 obtain ⟨⟨n,j⟩,hm,e⟩:=List.mem_map.mp m
 dsimp only at e
 split at e
 ·rename_i q
  injection e with e1 e2
  subst e1; subst e2
  have q1:j=NameKind.free:=by
   have:=(Bool.and_eq_true_iff.mp (Bool.and_eq_true_iff.mp q).1).1
   exact eq_of_beq this
  subst q1
  exact .inl ⟨rfl,.inl hm⟩
 ·injection e with e1 e2
  subst e1; subst e2
  exact .inr hm
end L2
namespace L2
open PySem
section
variable {prog:Program} {w:World} {A:Around} {R:Result->Shared->Prop} {s:Shared}
theorem zJy {elt target iter:Expr} {scope:Scope} {pos:Pos} {it acc:Value} {env:Env} (Wd:Nat->Shared->Prop)
  (turn:∀ n s,Wd n s->wpAny (model prog w) A (pyNext it) (λr s1=>match r with
   | none=>R (.ok .next) s1
   | some v=>wpAny (model prog w) A (letOwnedTupleGo target it v) (λ_ s2=>wpAny (model prog w) A (assign target env v) (λ_ s3=>wpAny (model prog w) A (eval elt env) (λx s4=>
     wpAny (model prog w) A (call (.builtin "list.append") [acc,x]) (λ_ s5=>∃ m,m < n/\Wd m s5) (λ_ _=>False) s4) (λ_ _=>False) s3) (λ_ _=>False) s2) (λ_ _=>False) s1) (λ_ _=>False) s)
  (n:Nat) (h:Wd n s):codeAny (model prog w) A (.compLoop (.ListComp elt [⟨target,iter,[],0⟩] scope pos) 0 it acc env) R s:=by
 refine codeAny_loop rfl Wd (λn s hI=>?_) n h
 show wpAny _ _ (Sem.onRaise (compTurn (.ListComp elt [⟨target,iter,[],0⟩] scope pos) 0 it acc env) _) _ _ s
 refine wpAny_noted ?_
 rw [compTurn_list1]
 refine wpAny_bind (wpAny_standAt (wpAny_bind (wpAny_mono (turn n s hI) (λr s1 h1=>?_) λ_ _ z=>False.elim z)))
 cases r with
 | none=>exact wpAny_pure h1
 | some v=>
  refine wpAny_bind (wpAny_mono h1 (λ_ s2 h2=>?_) λ_ _ z=>False.elim z)
  refine wpAny_bind (wpAny_mono h2 (λ_ s3 h3=>?_) λ_ _ z=>False.elim z)
  refine wpAny_bind (wpAny_bind (wpAny_mono h3 (λx s4 h4=>?_) λ_ _ z=>False.elim z))
  exact wpAny_bind (wpAny_mono h4 (λ_ s5 h5=>wpAny_pure (wpAny_pure ⟨rfl,h5⟩)) λ_ _ z=>False.elim z)
end
end L2
namespace L2
open PySem PySem.Spec PyProof.Rows
def Bd (n:Nat) (i:Int):Prop:=i.natAbs < 2 ^ n
theorem Bd.mono {n m:Nat} {i:Int} (h:Bd n i) (k:n<=m:=by decide):Bd m i:=Nat.lt_of_lt_of_le h (Nat.pow_le_pow_right (by decide) k)
theorem Bd.of_le {n:Nat} {i j:Int} (h:Bd n j) (k:i.natAbs<=j.natAbs):Bd n i:=Nat.lt_of_le_of_lt k h
theorem Bd.mul {n m:Nat} {i j:Int} (h:Bd n i) (k:Bd m j):Bd (n + m) (i * j):=by
 unfold Bd
 rw [Int.natAbs_mul,Nat.pow_add]
 rcases Nat.eq_zero_or_pos j.natAbs with z | z
 ·rw [z,Nat.mul_zero]
  exact Nat.mul_pos (Nat.two_pow_pos _) (Nat.two_pow_pos _)
 ·exact Nat.lt_of_lt_of_le (Nat.mul_lt_mul_of_pos_right h z) (Nat.mul_le_mul_left _ (Nat.le_of_lt k))
theorem Bd.add {n:Nat} {i j:Int} (h:Bd n i) (k:Bd n j):Bd (n + 1) (i + j):=by
 have h':i.natAbs < 2 ^ n:=h
 have k':j.natAbs < 2 ^ n:=k
 unfold Bd
 rw [Nat.pow_succ]
 have:=Int.natAbs_add_le i j
 omega
theorem Bd.neg {n:Nat} {i:Int} (h:Bd n i):Bd n (-i):=by
 unfold Bd
 rw [Int.natAbs_neg]
 exact h
theorem Bd.sub {n:Nat} {i j:Int} (h:Bd n i) (k:Bd n j):Bd (n + 1) (i - j):=by
 rw [Int.sub_eq_add_neg]
 exact h.add k.neg
theorem Bd.lit {n:Nat} {i:Int} (h:i.natAbs < 2 ^ n:=by decide):Bd n i:=h
theorem Bd.bits {n:Nat} {i:Int} (h:Bd n i):Builtin.Int.intBits i<=n:=by
 have h':i.natAbs < 2 ^ n:=h
 unfold Builtin.Int.intBits
 split
 ·exact Nat.zero_le _
 ·rename_i z
  have nz:i.natAbs≠0:=by
   intro q
   apply z
   rw [Int.natAbs_eq_zero.mp q]
   rfl
  exact (Nat.log2_lt nz).mpr h'
theorem Bd.fdiv {n:Nat} {i:Int} (h:Bd n i) (j:Int):Bd n (i.fdiv j):=
 h.of_le (Int.natAbs_fdiv_le_natAbs i j)
def YE (i j:Int):Prop:=Bd 60000 i/\Bd 60000 j
def Ql (_ j:Int):Prop:=j≠0/\Bd 8000 j
section
variable {X:Cx}
theorem YE.ok {i j:Int} (h:YE i j):IntMulOk i j:=by
 have h1:=h.1.bits
 have h2:=h.2.bits
 have hc:Builtin.Int.intTooBig (Builtin.Int.intBits i + Builtin.Int.intBits j)=false:=by
  unfold Builtin.Int.intTooBig
  rw [bitsLine_eq]
  exact decide_eq_false (by omega)
 unfold IntMulOk
 rw [hc]
 simp
theorem zOL:yw X (binaryOp .Mult) (rI YE λi j=>.int (i * j)):=Z3 λ_ _ _ _ _ _ _ hc q=>mul_int q hc.ok
theorem zMp:yw X (binaryOp .FloorDiv) (rI Ql λi j=>.int (i.fdiv j)):=Z3 λ_ _ _ _ _ _ _ hc q=>by
 refine floordiv_int hc.1 q (.inl (PyProof.noPylong_of_log2 ?_))
 have h':_ < 2 ^ 8000:=hc.2
 have nz:_≠0:=λz=>hc.1 (Int.natAbs_eq_zero.mp z)
 exact Nat.lt_trans ((Nat.log2_lt nz).mpr h') (by decide)
end
section
variable {X:Cx}
def Qm (K:PySem.W.Frag):List V->Hp->VK->Prop:=λxs H Q=>∃ x c t b,xs=[x,.ty c]/\yK K H x t/\PySem.W.kitOne K t (.type c)=some b/\Q (.bl b) H
theorem vB:wz X (.builtin "isinstance") (Qm X.K):=by
 intro pins s σ H xs us Q I r h
 obtain ⟨x,c,t,b,rfl,ty,e,q⟩:=h
 obtain ⟨u,v,rfl,ru,rv⟩:=Z7 r
 cases (show v=Value.type c from rv)
 exact QE I ru ty e λtk=>⟨.bl b,H,I.tok tk,rfl,q⟩
end
mutual
inductive Dp (K:PySem.W.Frag) (H:Hp):V->PyData->Prop where
 | non:Dp K H .non .none
 | bl (b:Bool):Dp K H (.bl b) (.bool b)
 | int (i:Int):Dp K H (.int i) (.int i)
 | str (x:Str):Dp K H (.str x) (.str x)
 | lst {a:Addr} {xs:List V} {ds:List PyData} (e:zb K H a xs) (h:v0 K H xs ds):Dp K H (.ref a) (.list ds)
 | tup {a:Addr} {xs:List V} {ds:List PyData} (e:zo K H a xs) (h:v0 K H xs ds):Dp K H (.ref a) (.tuple ds)
inductive v0 (K:PySem.W.Frag) (H:Hp):List V->List PyData->Prop where
 | nil:v0 K H [] []
 | cons {x:V} {xs:List V} {d:PyData} {ds:List PyData} (h:Dp K H x d) (t:v0 K H xs ds):v0 K H (x :: xs) (d :: ds)
end
section
variable {X:Cx} {pins:List (Addr × Obj)} {σ:St} {H:Hp} {s:Shared}
mutual
theorem Dp.reads (I:zG X pins σ H s):∀ {x:V} {d:PyData} {u:Value},Dp X.K H x d->zR x u->∃ as,Reads s.heap u d as
 | _,_,_,.non,r=>by cases r; exact ⟨_,.none⟩
 | _,_,_,.bl b,r=>by cases r; exact ⟨_,.bool b⟩
 | _,_,_,.int i,r=>by obtain ⟨t,rfl⟩:=r; exact ⟨_,.int i t⟩
 | _,_,_,.str x,r=>by obtain ⟨t,rfl⟩:=r; exact ⟨_,.str x t⟩
 | _,_,_,.lst e h,r=>by
  cases r
  obtain ⟨its,rv,⟨o,n,e1,e2,_,e3⟩,_⟩:=I.list e
  obtain ⟨as,q⟩:=v0.reads I h rv
  exact ⟨_,.list e1 e2 e3 (by simpa using q)⟩
 | _,_,_,.tup e h,r=>by
  cases r
  obtain ⟨its,rv,⟨o,e1,e2,n,e3⟩,_⟩:=I.tuple e
  obtain ⟨as,q⟩:=v0.reads I h rv
  exact ⟨_,.tuple e1 e2 e3 (by simpa using q)⟩
theorem v0.reads (I:zG X pins σ H s):∀ {xs:List V} {ds:List PyData} {us:List Value},v0 X.K H xs ds->zL xs us->∃ as,ReadsAll s.heap us ds as
 | _,_,_,.nil,r=>by cases r; exact ⟨_,.nil⟩
 | _,_,_,.cons h t,r=>by
  cases r with
  | cons r1 r2=>
   obtain ⟨_,q1⟩:=Dp.reads I h r1
   obtain ⟨_,q2⟩:=v0.reads I t r2
   exact ⟨_,.cons q1 q2⟩
end
end
section
variable {X:Cx}
end
section
variable {X:Cx}
theorem wn (hc:X.calm=true):wz X (.builtin "all") (λxs H Q=>∃ (p:Addr) (bs:List Bool),xs=[.ref p]/\zb X.K H p (bs.map V.bl)/\Q (.bl (bs.all id)) H):=by
 intro pins s σ H xs us Q I r h
 obtain ⟨p,bs,rfl,hq,q⟩:=h
 obtain ⟨u,rfl,ru⟩:=uK r
 cases ru
 obtain ⟨its,rv,pl,hz⟩:=I.list hq
 have hh:X.A.in1.handled=none:=I.ok.hd hc
 have hlt:p < s.heap.objs.size:=by obtain ⟨o,n,e,_⟩:=pl; exact Heap.lt_size e
 refine call_all_walk (wpAny_pyIter_list pl.isList ?_)
 have hlen:its.length=bs.length:=by rw [<- rv.length,List.length_map]
 refine ⟨s.heap.objs.size,_,_,_,_,_,λi=>bs.getD i true,rfl,Walks.list hh s.heap.objs.size p (Nat.ne_of_lt hlt) its.toArray,⟨⟨_,Heap.get?_push_size _ rfl,rfl,rfl⟩,pl.isList.push _⟩,?_,λh' tk kk=>?_⟩
 ·intro i v s' Q' E' hP hQ'
  have e1:its[i]? = some v:=by simpa using hP
  have hi:i < its.length:=(List.getElem?_eq_some_iff.mp e1).1
  have hb:(bs.map V.bl)[i]? = some (.bl (bs.getD i true)):=by
   rw [List.getElem?_map,List.getElem?_eq_getElem (by omega),List.getD_eq_getElem?_getD,List.getElem?_eq_getElem (by omega)]
   rfl
  obtain ⟨u',e2,r2⟩:=rv.get hb
  rw [e1] at e2
  cases e2
  cases r2
  exact wpAny_truthy_bool hQ'
 ·have e:(List.range its.toArray.size).all (λi=>bs.getD i true)=bs.all id:=by
   rw [List.size_toArray,hlen]
   rw [Bool.eq_iff_iff,List.all_eq_true,List.all_eq_true]
   constructor
   ·intro z b hb
    obtain ⟨i,hi,rfl⟩:=List.mem_iff_getElem.mp hb
    have:=z i (List.mem_range.mpr hi)
    rw [List.getD_eq_getElem?_getD,List.getElem?_eq_getElem hi] at this
    exact this
   ·intro z i hi
    have hi':=List.mem_range.mp hi
    rw [List.getD_eq_getElem?_getD,List.getElem?_eq_getElem hi']
    exact z _ (List.getElem_mem hi')
  refine ⟨.bl (bs.all id),H,I.kept (h':=h') (t':=tk) λb o eb=>kk b o ?_ (Heap.get?_push_of_some _ eb),?_,q⟩
  ·intro hb
   have:b=s.heap.objs.size:=by simpa using hb
   rw [this] at eb
   exact absurd (Heap.lt_size eb) (Nat.lt_irrefl _)
  ·rw [e]
   rfl
end
end L2
namespace L2
open PySem PySem.Spec PyProof.Rows
def wH (own:List Str) (caps:List (Nat × Str)) (σ:St):St:=own.map (λ_=>none)++caps.map λp=>(σ[p.1]?).getD none
abbrev zX (own:List Str) (caps:List (Nat × Str)):List Str:=own++caps.map (·.2)
theorem Qn {scope:Scope} {env:Env} {x:Str}:(relabel scope env).names.lookup x=(scope.names.lookup x).map λk=>if (k == .free && env.scope.kind == .function && env.kindOf x == some .cell)=true then .cell else k:=by
 unfold relabel
 generalize scope.names=l
 induction l with
 | nil=>rfl
 | cons p r ih=>
  obtain ⟨n,k⟩:=p
  rw [List.map_cons]
  by_cases e:x=n
  ·subst e
   by_cases c:(k == NameKind.free && env.scope.kind == .function && env.kindOf x == some .cell)=true
   ·simp only [c,if_true,List.lookup_cons,beq_self_eq_true,Option.map_some]
   ·simp only [c,if_false,List.lookup_cons,beq_self_eq_true,Option.map_some,Bool.false_eq_true]
  ·have z:(x == n)=false:=by simpa using e
   dsimp only
   split <;> simp only [List.lookup_cons,z] <;> exact ih
def Qo (J:It) (g:TG) (te:TE) (Q:VK) (σ0:St) (H1:Hp):Prop:=∃ W:Nat->Nat->List V->St->Hp->Prop,(∃ m,W 0 m [] σ0 H1)∧
 ∀ i m ys σ1 H,W i m ys σ1 H->(J.stop i H/\∀ p,H p=none->Q (.ref p) (zZ H p (.lst ys)))∨
  (J.go i H/\ys.length < sizeLine/\∃ N:V->St->Hp->Prop,(∀ y σ' H',N y σ' H'->∃ m',m' < m/\W (i + 1) m' (ys++[y]) σ' H')/\∀ x H',J.yld i H x H'->g x σ1 H' λσ2 H2=>te σ2 H2 λy H3=>N y σ2 H3)
def Qp (own:List Str) (caps:List (Nat × Str)) (wi:TI) (g:TG) (te:TE):TE:=λσ H Q=>wi σ H λJ H1=>Qo J g te Q (wH own caps σ) H1
section
variable {X:Cx} {scope:Scope} {own:List Str} {caps:List (Nat × Str)} {pins:List (Addr × Obj)} {σ:St} {H:Hp} {s s4:Shared} {C D:Addr} {fp:List Addr}
theorem zNL {i:Nat} {x:Str} {v:V} (h1:(zX own caps)[i]? = some x) (h2:(wH own caps σ)[i]? = some (some v)):∃ j,(j,x)∈caps/\σ[j]? = some (some v):=by
 unfold wH at h2
 by_cases hi:i < own.length
 ·rw [List.getElem?_append_left (by simpa using hi),List.getElem?_map] at h2
  cases e:own[i]? with
  | none=>rw [e] at h2; cases h2
  | some a=>rw [e] at h2; cases h2
 ·rw [List.getElem?_append_right (by simpa using hi),List.length_map,List.getElem?_map] at h2
  unfold zX at h1
  rw [List.getElem?_append_right (by omega),List.getElem?_map] at h1
  cases e:caps[i - own.length]? with
  | none=>rw [e] at h1; cases h1
  | some p=>
   obtain ⟨j,n⟩:=p
   rw [e] at h1 h2
   cases h1
   refine ⟨j,List.mem_of_getElem? e,?_⟩
   simp only [Option.map_some,Option.some.injEq] at h2
   cases q:σ[j]? with
   | none=>rw [q] at h2; cases h2
   | some o=>rw [q] at h2; exact congrArg some h2
abbrev yc (its:List Value) (k:Nat):Obj:={ cls:=.type "list",data:=.seq its.toArray k }
theorem Qq {Y:Cx} {its:List Value} {k:Nat} {y:Value} {pl:List (Addr × Obj)} {Q:Value->Shared->Prop} {E:Value->Shared->Prop} (I:zG Y ((D,yc its k) :: pl) σ H s) (hn:yP Y [] H D) (hp:Y.pn=[]) (hz:its.length<=sizeLine)
  (q:∀ h' k' tk,(∀ b o,b≠D->s.heap.get? b=some o->h'.get? b=some o)->zG Y [(D,yc (its++[y]) k')] σ H { s with heap:=h',toks:=tk }->Q .none { s with heap:=h',toks:=tk }) :
  wpAny (model Y.prog Y.w) Y.A (call (.builtin "list.append") [.ref D,y]) Q E s:=by
 have pD:=I.pin (D,yc its k) (List.mem_append_right _ List.mem_cons_self)
 have e:s.heap.get? D=some (yc its k):=pD.1
 refine call_meets F.slot_list_append ⟨_,e,rfl⟩ F.entry_list_append (F.args_list_append_2 _ _) (PySem.list_append D its.toArray k y (by rw [List.size_toArray]; exact hz)) ⟨e,?_⟩
 have e2:=PySem.IsL.update e (·.push y)
 have ea:its.toArray.push y=(its++[y]).toArray:=by simp
 have keep:∀ b o,b≠D->s.heap.get? b=some o->(s.heap.update D (Obj.mapSeq (·.push y))).get? b=some o:=λb o hb eb=>(Heap.get?_update_other s.heap _ (Ne.symm hb)).trans eb
 have I0:zG Y [] σ H s:=I.pins_of λp hp'=>by cases hp'
 have I1:zG Y [] σ H { s with heap:=s.heap.update D (Obj.mapSeq (·.push y)),toks:=s.toks }:=I0.turned keep hn.1 hn.2.1 hn.2.2.2.1 hn.2.2.2.2.1 hn.2.2.2.2.2
 have e3:(s.heap.update D (Obj.mapSeq (·.push y))).get? D=some (yc (its++[y]) _):=e2.trans (by rw [ea])
 have I2:zG Y [(D,yc (its++[y]) (if ((its++[y]).toArray.size == its.toArray.size)=true then k else k + 1))] σ H { s with heap:=s.heap.update D (Obj.mapSeq (·.push y)),toks:=s.toks }:=I1.pins_of λp hp'=>by
  rw [List.mem_singleton.mp hp']
  exact ⟨e3,hn.1,hn.2.1,hn.2.2.1,λv z=>by cases z⟩
 exact q _ _ s.toks keep I2
end
section
variable {X:Cx} {scope:Scope} {own:List Str} {caps:List (Nat × Str)} {elt tg iter:Expr} {wi:TI} {g:TG} {te:TE} {pos:Pos}
end
end L2
namespace L2
open PySem PySem.Spec PyProof.Rows
structure Fn (P:Program) (w:World) (K:PySem.W.Frag) (mg:Str->Option Value) (base:Heap) (x:Str) (ps:List Str) (k:Nat) (sp:Sp):Prop where
 ex:∃ f fd,zH P w K mg base zW k f fd ps sp/\mg x=some (.ref f)/\PySem.W.keepIn K (.ref f)=true/\w8 K fd ps []
theorem Fn.mono {P:Program} {w:World} {K:PySem.W.Frag} {mg:Str->Option Value} {base:Heap} {x:Str} {ps:List Str} {j k:Nat} {sp:Sp} (F:Fn P w K mg base x ps j sp) (h:j<=k:=by decide):Fn P w K mg base x ps k sp:=by
 obtain ⟨f,fd,a,b,c,d⟩:=F.ex
 exact ⟨f,fd,a.mono h,b,c,d⟩
theorem zMn {X:Cx} {x:Str} {ps:List Str} {k:Nat} {sp:Sp} {e:Expr} {es:List Expr} {t:TA} {p pos:Pos} (F:Fn X.prog X.w X.K X.mg X.base x ps k sp) (hr:zh k X.A) (hg:Gl X x) (ha:PA X (e :: es) t)
  (hdb:(x == ("__debug__" : Str))=false:=by decide) (he:starEach (e :: es) X.env=(false,eval e X.env) :: starEach es X.env:=by rfl) (hpl:(backTo pos (starEach es X.env)).any (·.1)=false:=by rfl) :
  PE X (.Call (.Name x p) (e :: es) [] pos) (WH sp [] E0 t):=by
 obtain ⟨f,fd,a,b,c,d⟩:=F.ex
 exact QI a hr hg b c d .nil YB ha hdb he hpl
end L2
namespace L2
open PySem PySem.Spec PyProof.Rows
theorem xy:bootBuiltins "isinstance" = some (.builtin "isinstance"):=by decide +kernel
theorem yR:bootBuiltins "len" = some (.builtin "len"):=by decide +kernel
theorem zLu:bootBuiltins "abs" = some (.builtin "abs"):=by decide +kernel
theorem wo:bootBuiltins "all" = some (.builtin "all"):=by decide +kernel
theorem WT:bootBuiltins "int" = some (.type "int"):=by decide +kernel
theorem zJ1:bootBuiltins "bool" = some (.type "bool"):=by decide +kernel
theorem xz:bootBuiltins "tuple" = some (.type "tuple"):=by decide +kernel
theorem wA:bootBuiltins "list" = some (.type "list"):=by decide +kernel
section
variable (K:PySem.W.Frag)
end
structure xU (K:PySem.W.Frag) (x qual:Str) (st:Stmt) (f:Addr) (fd:FuncData) (d:Value):Prop where
 ex:∃ (oc:Value) (od:Option Addr) (kV doc pm:Value) (an:Option Addr) (cdv ct:Value) (osl:Array (Option Value)) (T:Addr) (oT:Obj) (n:Nat),
  fd=PySem.W.fnOf x qual (wm st) (xh st) (zK st) (.ref T) kV doc pm an cdv ct/\K.lookup f=some ⟨oc,od,.func fd,osl⟩/\PySem.W.codeIn K cdv qual=true/\K.lookup T=some oT/\oT.data=.seq #[d] n
 kp:PySem.W.keepIn K (.ref f)=true
theorem xU.ok {P:Program} {w:World} {K:PySem.W.Frag} {mg:Str->Option Value} {base:Heap} {x qual:Str} {st:Stmt} {f:Addr} {fd:FuncData} {d:Value} {N ps:List Str} {k:Nat} {sp:Sp} (F:xU K x qual st f fd d) (S:za N ps (zK st))
  (len:∀ vs H Q E,sp vs H Q E->vs.length=ps.length)
  (hbody:∀ (cdv:Value) (A:Around) (outer:List Env) (s:Shared) (H:Hp) (vs:List V) (Q:VK) (E:XK),zh k (A.deeper (envOfC qual (zK st) s.heap.objs.size f cdv))->sp vs H Q E->
   ∃ t,xC (xf zW P w K mg base N qual (zK st) f cdv A outer s H E).nox (xh st) t/\t { nx:=λ_ H'=>Q .non H',rt:=Q } (xc N vs) H):zH P w K mg base zW (k + 1) f fd ps sp:=by
 obtain ⟨oc,od,kV,doc,pm,an,cdv,ct,osl,T,oT,n,rfl,lk,hcd,_⟩:=F.ex
 refine QO lk hcd S len λA outer s H vs Q E hr hsp=>?_
 obtain ⟨t,h,q⟩:=hbody cdv A outer s H vs Q E hr hsp
 exact ⟨t,h.nox,q⟩
end L2
namespace L2
open PySem PySem.Spec PyProof.Rows
theorem zOb {K:PySem.W.Frag} {x qual:Str} {st:Stmt} {f T:Addr} {oc kV doc pm cdv ct d:Value} {od an:Option Addr} {osl:Array (Option Value)} {oT:Obj} {n:Nat} (l:K.lookup f=some ⟨oc,od,.func (PySem.W.fnOf x qual (wm st) (xh st) (zK st) (.ref T) kV doc pm an cdv ct),osl⟩)
  (c:PySem.W.codeIn K cdv qual=true) (k:PySem.W.keepIn K (.ref f)=true) (t:K.lookup T=some oT) (e:oT.data=.seq #[d] n):xU K x qual st f (PySem.W.fnOf x qual (wm st) (xh st) (zK st) (.ref T) kV doc pm an cdv ct) d:=
 ⟨⟨oc,od,kV,doc,pm,an,cdv,ct,osl,T,oT,n,rfl,l,c,t,e⟩,k⟩
theorem xU.binds {K:PySem.W.Frag} {x qual:Str} {st:Stmt} {f:Addr} {fd:FuncData} {d:Value} {ps:List Str} (F:xU K x qual st f fd d)
  (h:∀ (T:Addr) (kV doc pm:Value) (an:Option Addr) (cdv ct:Value) (us:List Value),us.length=ps.length->∃ k:Option (Array Value)->Sem (List (Str × Value)),
   bindArgs (PySem.W.fnOf x qual (wm st) (xh st) (zK st) (.ref T) kV doc pm an cdv ct) ⟨us,[]⟩=seqItems? (.ref T) >>= k/\k (some #[d])=pure (ps.zip us)):w8 K fd ps []:=by
 obtain ⟨oc,od,kV,doc,pm,an,cdv,ct,osl,T,oT,n,rfl,lk,hcd,t,e⟩:=F.ex
 intro s us X hl
 rw [List.append_nil] at hl |-
 obtain ⟨k,h1,h2⟩:=h T kV doc pm an cdv ct us hl
 exact .of_defaults (T:=T) rfl (X T oT t) e h1 h2
end L2
namespace L2
open PySem PySem.Spec PyProof.Rows
structure vU (P:Program) (w:World) (K:PySem.W.Frag) (mg:Str->Option Value) (base:Heap) (x:Str) (ps:List Str) (k:Nat) (sp:Sp) (dv:V):Prop where
 ex:∃ f fd d,zH P w K mg base zW k f fd ps sp/\mg x=some (.ref f)/\PySem.W.keepIn K (.ref f)=true/\w8 K fd ps []/\w8 K fd ps [d]/\zR dv d
theorem vU.mono {P:Program} {w:World} {K:PySem.W.Frag} {mg:Str->Option Value} {base:Heap} {x:Str} {ps:List Str} {j k:Nat} {sp:Sp} {dv:V} (F:vU P w K mg base x ps j sp dv) (h:j<=k:=by decide):vU P w K mg base x ps k sp dv:=by
 obtain ⟨f,fd,d,a,b,c,e⟩:=F.ex
 exact ⟨f,fd,d,a.mono h,b,c,e⟩
theorem vU.fn {P:Program} {w:World} {K:PySem.W.Frag} {mg:Str->Option Value} {base:Heap} {x:Str} {ps:List Str} {k:Nat} {sp:Sp} {dv:V} (F:vU P w K mg base x ps k sp dv):Fn P w K mg base x ps k sp:=by
 obtain ⟨f,fd,d,a,b,c,e,_⟩:=F.ex
 exact ⟨f,fd,a,b,c,e⟩
theorem zKk {X:Cx} {x:Str} {ps:List Str} {k:Nat} {sp:Sp} {e:Expr} {es:List Expr} {t:TA} {p pos:Pos} {dv:V} (F:vU X.prog X.w X.K X.mg X.base x ps k sp dv) (hr:zh k X.A) (hg:Gl X x) (ha:PA X (e :: es) t)
  (hdb:(x == ("__debug__" : Str))=false:=by decide) (he:starEach (e :: es) X.env=(false,eval e X.env) :: starEach es X.env:=by rfl) (hpl:(backTo pos (starEach es X.env)).any (·.1)=false:=by rfl) :
  PE X (.Call (.Name x p) (e :: es) [] pos) (WH sp [dv] E0 t):=by
 obtain ⟨f,fd,d,a,b,c,_,h2,r⟩:=F.ex
 exact QI a hr hg b c h2 (.cons r .nil) YB ha hdb he hpl
theorem xU.binds1 {K:PySem.W.Frag} {x qual:Str} {st:Stmt} {f:Addr} {fd:FuncData} {d:Value} {ps:List Str} (F:xU K x qual st f fd d)
  (h:∀ (T:Addr) (kV doc pm:Value) (an:Option Addr) (cdv ct:Value) (us:List Value),us.length + 1=ps.length->∃ k:Option (Array Value)->Sem (List (Str × Value)),
   bindArgs (PySem.W.fnOf x qual (wm st) (xh st) (zK st) (.ref T) kV doc pm an cdv ct) ⟨us,[]⟩=seqItems? (.ref T) >>= k/\k (some #[d])=pure (ps.zip (us++[d]))):w8 K fd ps [d]:=by
 obtain ⟨oc,od,kV,doc,pm,an,cdv,ct,osl,T,oT,n,rfl,lk,hcd,t,e⟩:=F.ex
 intro s us X hl
 rw [List.length_append,List.length_singleton] at hl
 obtain ⟨k,h1,h2⟩:=h T kV doc pm an cdv ct us hl
 exact .of_defaults (T:=T) rfl (X T oT t) e h1 h2
end L2
namespace L2
theorem gR {b:Bool} {A B:Prop} (e:b=true) (h:A):if b=true then A else B:=by
 rw [if_pos e]
 exact h
theorem zQX {i j:Int} (h:i≠j):decide (V.int i=V.int j)=false:=decide_eq_false λe=>h (by injection e)
theorem zOW {i j:Int} (h:i≠j):(!decide (V.int i=V.int j))=true:=by rw [zQX h]; rfl
end L2
set_option maxRecDepth 100000
namespace L2
open PySem
section
variable {prog:Program} {w:World} {A:Around} {E:Value->Shared->Prop} {s:Shared}
theorem uy (hh:A.handled=none) (it t:Addr) (hne:t≠it) (items:Array Value) :
  Draws prog w A it [it,t] items.size (λi v=>items[i]? = some v) (λi h=>h.IsTupleIter it t i/\h.IsTuple t items) where
 live:=λ_ _ st=>let ⟨o,ho,_⟩:=st.1; ⟨o,ho⟩
 frame:=λ_ _ _ st hk=>⟨let ⟨o,e,r⟩:=st.1; ⟨o,hk it (by simp) o e,r⟩,let ⟨o,e,r⟩:=st.2; ⟨o,hk t (by simp) o e,r⟩⟩
 item:=λi s Q E hi st hQ=>by
  obtain ⟨hit,ht⟩:=st
  obtain ⟨o,ho,hc,hd⟩:=id hit
  obtain ⟨ol,hol,_,nl,hdl⟩:=id ht
  have hx:items[i]? = some items[i]:=by simp [hi]
  unfold Builtin.SmallTypes.nextOf
  refine wpAny_bind (wpAny_callSpecial?_slot (name:=Str.ofString "__next__") hit.typeIs F.slot_tuple_iterator_next (wpAny_call_entry F.slot_tuple_iterator_next hit.typeIs F.entry_tuple_iterator_next ?_ (F.args_tuple_iterator_next_1 _)))
  change wpAny _ _ (field (.ref it) 0 >>= _) _ _ s
  refine wpAny_bind (wpAny_field ho hd (x:=.ref t) rfl ?_)
  change wpAny _ _ (if (Value.ref t == Value.none)=true then _ else _) _ _ s
  rw [if_neg (show (Value.ref t == Value.none)≠true from Bool.false_ne_true)]
  change wpAny _ _ (field (.ref it) 1 >>= _) _ _ s
  refine wpAny_bind (wpAny_field ho hd (x:=.int i 0) rfl ?_)
  change wpAny _ _ (seqItems? (.ref t) >>= _) _ _ s
  refine wpAny_bind (wpAny_seqItems hol hdl ?_)
  simp only [Int.toNat_natCast,hx]
  refine wpAny_bind (wpAny_setField ho hd (by simp) (wpAny_pure ⟨items[i],rfl,wpAny_pure (hQ _ _ s.toks hx ⟨?_,?_⟩ (Heap.SameBut.update ..))⟩))
  ·exact ⟨_,Heap.get?_update_self _ ho (Obj.isFreed_of_fields (Obj.data_mapFields hd _)),(Obj.cls_mapFields ..).trans hc,by rw [Obj.data_mapFields hd]; simp [rawInt]⟩
  ·exact ht.extBut (Heap.SameBut.update ..).extBut hne
 done:=λs Q E st hE=>by
  obtain ⟨hit,ht⟩:=st
  obtain ⟨o,ho,hc,hd⟩:=id hit
  obtain ⟨ol,hol,_,nl,hdl⟩:=id ht
  have hx:items[items.size]? = none:=by simp
  unfold Builtin.SmallTypes.nextOf
  refine wpAny_bind (wpAny_callSpecial?_slot (name:=Str.ofString "__next__") hit.typeIs F.slot_tuple_iterator_next (wpAny_call_entry F.slot_tuple_iterator_next hit.typeIs F.entry_tuple_iterator_next ?_ (F.args_tuple_iterator_next_1 _)))
  change wpAny _ _ (field (.ref it) 0 >>= _) _ _ s
  refine wpAny_bind (wpAny_field ho hd (x:=.ref t) rfl ?_)
  change wpAny _ _ (if (Value.ref t == Value.none)=true then _ else _) _ _ s
  rw [if_neg (show (Value.ref t == Value.none)≠true from Bool.false_ne_true)]
  change wpAny _ _ (field (.ref it) 1 >>= _) _ _ s
  refine wpAny_bind (wpAny_field ho hd (x:=.int items.size 0) rfl ?_)
  change wpAny _ _ (seqItems? (.ref t) >>= _) _ _ s
  refine wpAny_bind (wpAny_seqItems hol hdl ?_)
  simp only [Int.toNat_natCast,hx]
  refine wpAny_bind (wpAny_rule (wpAny_bind (wpAny_setField ho hd (by simp) ?_)))
  change wpAny _ _ (newExc (.type "StopIteration") [] >>= _) _ _ _
  refine wpAny_bind ?_
  simp only [newExc,newTuple]
  refine wpAny_bind (wpAny_newObj_type ?_ (by size_fits))
  refine wpAny_bind (m:=firstArgMember _ _) (wpAny_of_eq (a:=Value.none) (by first | rfl | (simp only [firstArgMember]; rfl)) ?_)
  refine wpAny_newObj_type ?_ (by size_fits)
  simp only [raiseNew]
  refine wpAny_bind (wpAny_handled ?_)
  first | rw [show A.in1.handled=none from hh] | rw [hh]
  refine wpAny_bind (wpAny_pure (wpAny_throw ?_))
  exact hE _ _ (((Heap.SameBut.update ..).extBut.push _).push _) ⟨_,Heap.get?_push_size _ rfl,rfl⟩
structure Zp (z TI TO i1 i2:Addr) (f1 f2:List Addr):Prop where
 a1:TI≠z
 a2:TO≠z
 a3:i1≠z
 a4:i2≠z
 a5:TI≠TO
 a6:TI≠i1
 a7:TI≠i2
 a8:TO≠i1
 a9:TO≠i2
 b1:z∉f1
 b2:z∉f2
 b3:TO∉f1
 b4:TO∉f2
 b5:i1∉f2
 b6:i2∉f1
theorem zMF {z TI TO i1 i2:Addr} {f1 f2:List Addr} {n1 n2 k:Nat} {P1 P2:Nat->Value->Prop} {S1 S2:Nat->Heap->Prop} {a b:Value} {Q:Value->Shared->Prop}
  (D1:Draws prog w A i1 f1 n1 P1 S1) (D2:Draws prog w A i2 f2 n2 P2 S2) (Z:Zp z TI TO i1 i2 f1 f2) (hz:IsZip s.heap z TI TO .none) (hI:IsPair s.heap TI (.ref i1) (.ref i2)) (hO:IsPair s.heap TO a b)
  (s1:S1 k s.heap) (s2:S2 k s.heap) (k1:k < n1) (k2:k < n2)
  (hQ:∀ x y h' tk,P1 k x->P2 k y->IsZip h' z TI TO (rawInt s.heap.objs.size)->IsPair h' TI (.ref i1) (.ref i2)->IsPair h' TO x y->S1 (k + 1) h'->S2 (k + 1) h'->IsPair h' s.heap.objs.size x y->
   (∀ c o,c≠z->c≠TO->c≠i1->c≠i2->s.heap.get? c=some o->h'.get? c=some o)->Q (.ref s.heap.objs.size) { s with heap:=h',toks:=tk }) :
  wpAny (model prog w) A (Builtin.«zip.__next__» ⟨[.ref z],[]⟩) (λfin s'=>∃ v,fin=.done (.ret v)/\Q v s') E s:=by
 change wpAny _ _ (field (.ref z) 2 >>= _) _ _ _
 refine wpAny_bind (wpAny_field hz rfl (x:=.bool false) rfl ?_)
 change wpAny _ _ (field (.ref z) 3 >>= _) _ _ _
 refine wpAny_bind (wpAny_field hz rfl (x:=.ref TI) rfl ?_)
 refine wpAny_bind (wpAny_seqItems hI rfl ?_)
 change wpAny _ _ (Builtin.SmallTypes.ownedTupleIsFree (.ref z) >>= _) _ _ _
 refine wpAny_bind ?_
 unfold Builtin.SmallTypes.ownedTupleIsFree
 refine wpAny_bind (wpAny_field hz rfl (x:=.none) rfl (wpAny_pure ?_))
 simp only [if_true]
 refine wpAny_bind (wpAny_rule ?_)
 refine wpAny_bind (wpAny_field hz rfl (x:=.ref TO) rfl ?_)
 refine wpAny_bind (wpAny_setField_rec hz (by simp) λg1 z1 m1=>?_)
 replace z1:IsZip g1 z TI TO .ellipsis:=z1
 refine wpAny_bind ?_
 simp only [List.zipIdx_cons,List.zipIdx_nil,List.forIn_cons,List.forIn_nil]
 refine wpAny_bind (wpAny_bind (wpAny_onRaise ?_))
 change wpAny _ _ (Builtin.SmallTypes.nextOf (.ref i1) >>= _) _ _ _
 refine wpAny_bind (D1.item k _ _ _ k1 (D1.frame _ _ _ s1 λc hc o e=>m1.extBut c o (λq=>Z.b1 (q ▸ hc)) e) λx g2 t2 px s12 m2=>wpAny_pure ?_)
 have o2:IsPair g2 TO a b:=m2.extBut _ _ Z.a8 (m1.extBut _ _ Z.a2 hO)
 refine wpAny_bind (wpAny_seqItems o2 rfl ?_)
 refine wpAny_bind (wpAny_updateSeq_pair o2 λg3 o3 m3=>?_)
 replace o3:IsPair g3 TO x b:=o3
 refine wpAny_bind (wpAny_letGo (wpAny_pure ?_))
 refine wpAny_bind (wpAny_bind (wpAny_onRaise ?_))
 change wpAny _ _ (Builtin.SmallTypes.nextOf (.ref i2) >>= _) _ _ _
 refine wpAny_bind (D2.item k _ _ _ k2 (D2.frame _ _ _ s2 λc hc o e=>m3.extBut c o (λq=>Z.b4 (q ▸ hc)) (m2.extBut c o (λq=>Z.b5 (q ▸ hc)) (m1.extBut c o (λq=>Z.b2 (q ▸ hc)) e))) λy g4 t4 py s24 m4=>wpAny_pure ?_)
 have o4:IsPair g4 TO x b:=m4.extBut _ _ Z.a9 o3
 refine wpAny_bind (wpAny_seqItems o4 rfl ?_)
 refine wpAny_bind (wpAny_updateSeq_pair o4 λg5 o5 m5=>?_)
 replace o5:IsPair g5 TO x y:=o5
 refine wpAny_bind (wpAny_letGo (wpAny_pure (wpAny_pure ?_)))
 refine wpAny_bind (wpAny_seqItems o5 rfl ?_)
 refine wpAny_bind (wpAny_newTuple ?_)
 have sz:g5.objs.size=s.heap.objs.size:=by
  have q5:g5.objs.size=g4.objs.size:=m5.1
  have q4:g4.objs.size=g3.objs.size:=m4.1
  have q3:g3.objs.size=g2.objs.size:=m3.1
  have q2:g2.objs.size=g1.objs.size:=m2.1
  have q1:g1.objs.size=s.heap.objs.size:=m1.1
  omega
 have all5:∀ c o,c≠z->c≠TO->c≠i1->c≠i2->s.heap.get? c=some o->g5.get? c=some o:=λc o c1 c2 c3 c4 e=>m5.extBut _ _ c2 (m4.extBut _ _ c4 (m3.extBut _ _ c2 (m2.extBut _ _ c3 (m1.extBut _ _ c1 e))))
 have z5:IsZip g5 z TI TO .ellipsis:=m5.extBut _ _ Z.a2.symm (m4.extBut _ _ Z.a4.symm (m3.extBut _ _ Z.a2.symm (m2.extBut _ _ Z.a3.symm z1)))
 have I5:IsPair g5 TI (.ref i1) (.ref i2):=all5 _ _ Z.a1 Z.a5 Z.a6 Z.a7 hI
 have u1:S1 (k + 1) g5:=D1.frame _ _ _ s12 λc hc o e=>m5.extBut c o (λq=>Z.b3 (q ▸ hc)) (m4.extBut c o (λq=>Z.b6 (q ▸ hc)) (m3.extBut c o (λq=>Z.b3 (q ▸ hc)) e))
 have u2:S2 (k + 1) g5:=D2.frame _ _ _ s24 λc hc o e=>m5.extBut c o (λq=>Z.b4 (q ▸ hc)) e
 have lt:z < g5.objs.size:=Heap.lt_size z5
 change wpAny _ _ (Builtin.SmallTypes.ownedTupleHandOut (.ref z) (.ref g5.objs.size) >>= _) _ _ _
 refine wpAny_bind ?_
 unfold Builtin.SmallTypes.ownedTupleHandOut
 have z6:IsZip (g5.push { cls:=.type "tuple",data:=.seq #[x,y] }) z TI TO .ellipsis:=Heap.get?_push_of_some _ z5
 refine wpAny_bind (wpAny_setField_rec z6 (by simp) λg7 z7 m7=>?_)
 replace z7:IsZip g7 z TI TO (rawInt g5.objs.size):=z7
 refine wpAny_setField_rec z7 (by simp) λg8 z8 m8=>?_
 replace z8:IsZip g8 z TI TO (rawInt g5.objs.size):=z8
 have up:∀ c o,c≠z->g5.get? c=some o->g8.get? c=some o:=λc o c1 e=>m8.extBut _ _ c1 (m7.extBut _ _ c1 (Heap.get?_push_of_some _ e))
 have T8:IsPair g8 g5.objs.size x y:=m8.extBut _ _ (Nat.ne_of_gt lt) (m7.extBut _ _ (Nat.ne_of_gt lt) (Heap.get?_push_size _ rfl))
 rw [sz] at z8 T8
 refine wpAny_pure ⟨_,rfl,?_⟩
 change Q (.ref g5.objs.size) _
 rw [sz]
 exact hQ x y g8 _ px py z8 (up _ _ Z.a1 I5) (up _ _ Z.a2 o5) (D1.frame _ _ _ u1 λc hc o e=>up c o (λq=>Z.b1 (q ▸ hc)) e) (D2.frame _ _ _ u2 λc hc o e=>up c o (λq=>Z.b2 (q ▸ hc)) e) T8
  λc o c1 c2 c3 c4 e=>up c o c1 (all5 c o c1 c2 c3 c4 e)
theorem zME {z TI TO i1 i2:Addr} {f1 f2:List Addr} {n1 n2 k:Nat} {P1 P2:Nat->Value->Prop} {S1 S2:Nat->Heap->Prop} {a b:Value} {Q:Fin->Shared->Prop}
  (D1:Draws prog w A i1 f1 n1 P1 S1) (D2:Draws prog w A i2 f2 n2 P2 S2) (Z:Zp z TI TO i1 i2 f1 f2) (hz:IsZip s.heap z TI TO .none) (hI:IsPair s.heap TI (.ref i1) (.ref i2)) (hO:IsPair s.heap TO a b)
  (s1:S1 k s.heap) (s2:S2 k s.heap) (k1:k<=n1) (k2:k<=n2) (ke:k=n1\/k=n2)
  (hE:∀ h' e tk,(∀ c o,c≠z->c≠TO->c≠i1->c≠i2->s.heap.get? c=some o->h'.get? c=some o)->(∃ o,h'.get? e=some o/\o.cls=.type "StopIteration")->E (.ref e) { s with heap:=h',toks:=tk }) :
  wpAny (model prog w) A (Builtin.«zip.__next__» ⟨[.ref z],[]⟩) Q E s:=by
 change wpAny _ _ (field (.ref z) 2 >>= _) _ _ _
 refine wpAny_bind (wpAny_field hz rfl (x:=.bool false) rfl ?_)
 change wpAny _ _ (field (.ref z) 3 >>= _) _ _ _
 refine wpAny_bind (wpAny_field hz rfl (x:=.ref TI) rfl ?_)
 refine wpAny_bind (wpAny_seqItems hI rfl ?_)
 change wpAny _ _ (Builtin.SmallTypes.ownedTupleIsFree (.ref z) >>= _) _ _ _
 refine wpAny_bind ?_
 unfold Builtin.SmallTypes.ownedTupleIsFree
 refine wpAny_bind (wpAny_field hz rfl (x:=.none) rfl (wpAny_pure ?_))
 simp only [if_true]
 refine wpAny_bind (wpAny_rule ?_)
 refine wpAny_bind (wpAny_field hz rfl (x:=.ref TO) rfl ?_)
 refine wpAny_bind (wpAny_setField_rec hz (by simp) λg1 z1 m1=>?_)
 replace z1:IsZip g1 z TI TO .ellipsis:=z1
 refine wpAny_bind ?_
 simp only [List.zipIdx_cons,List.zipIdx_nil,List.forIn_cons,List.forIn_nil]
 refine wpAny_bind (wpAny_bind (wpAny_onRaise ?_))
 change wpAny _ _ (Builtin.SmallTypes.nextOf (.ref i1) >>= _) _ _ _
 have s1':S1 k g1:=D1.frame _ _ _ s1 λc hc o e=>m1.extBut c o (λq=>Z.b1 (q ▸ hc)) e
 by_cases c1:k=n1
 ·subst c1
  refine wpAny_bind (D1.done _ _ _ s1' λg2 e m2 he=>?_)
  obtain ⟨oe,he1,he2⟩:=he
  have z2:IsZip g2 z TI TO .ellipsis:=m2 _ _ Z.a3.symm z1
  have nez:e≠z:=λq=>by subst q; rw [z2] at he1; cases he1; simp at he2
  exact wpAny_setField_rec z2 (by simp) λg3 _ m3=>hE g3 e _ (λc o c1 c2 c3 c4 q=>m3.extBut _ _ c1 (m2 _ _ c3 (m1.extBut _ _ c1 q))) ⟨oe,m3.extBut _ _ nez he1,he2⟩
 ·have c2:k=n2:=ke.resolve_left c1
  subst c2
  refine wpAny_bind (D1.item k _ _ _ (by omega) s1' λx g2 t2 px s12 m2=>wpAny_pure ?_)
  have o2:IsPair g2 TO a b:=m2.extBut _ _ Z.a8 (m1.extBut _ _ Z.a2 hO)
  refine wpAny_bind (wpAny_seqItems o2 rfl ?_)
  refine wpAny_bind (wpAny_updateSeq_pair o2 λg3 o3 m3=>?_)
  refine wpAny_bind (wpAny_letGo (wpAny_pure ?_))
  refine wpAny_bind (wpAny_bind (wpAny_onRaise ?_))
  change wpAny _ _ (Builtin.SmallTypes.nextOf (.ref i2) >>= _) _ _ _
  refine wpAny_bind (D2.done _ _ _ (D2.frame _ _ _ s2 λc hc o e=>m3.extBut c o (λq=>Z.b4 (q ▸ hc)) (m2.extBut c o (λq=>Z.b5 (q ▸ hc)) (m1.extBut c o (λq=>Z.b2 (q ▸ hc)) e))) λg4 e m4 he=>?_)
  obtain ⟨oe,he1,he2⟩:=he
  have z4:IsZip g4 z TI TO .ellipsis:=m4 _ _ Z.a4.symm (m3.extBut _ _ Z.a2.symm (m2.extBut _ _ Z.a3.symm z1))
  have nez:e≠z:=λq=>by subst q; rw [z4] at he1; cases he1; simp at he2
  exact wpAny_setField_rec z4 (by simp) λg5 _ m5=>hE g5 e _ (λc o c1 c2 c3 c4 q=>m5.extBut _ _ c1 (m4 _ _ c4 (m3.extBut _ _ c2 (m2.extBut _ _ c3 (m1.extBut _ _ c1 q))))) ⟨oe,m5.extBut _ _ nez he1,he2⟩
end
abbrev YF (h:Heap) (t:Addr):Heap:=h.push { cls:=.type "tuple_iterator",data:=.fields #[.ref t,.int 0 0] }
abbrev YG (h:Heap) (t l:Addr):Heap:=(YF h t).push { cls:=.type "list_iterator",data:=.fields #[.ref l,.int 0 0] }
abbrev YH (h:Heap) (t l:Addr):Heap:=(YG h t l).push { cls:=.type "tuple",data:=.seq #[.ref h.objs.size,.ref (YF h t).objs.size] }
abbrev YI (h:Heap) (t l:Addr):Heap:=(YH h t l).push { cls:=.type "tuple",data:=.seq #[.none,.none] }
abbrev qF (h:Heap) (t l:Addr):Heap:=(YI h t l).push { cls:=.type "zip",data:=.fields #[.none,.bool false,.bool false,.ref (YG h t l).objs.size,.ref (YH h t l).objs.size] }
theorem zJM (t l:Addr) (xs ys:Array Value) :
  Meets (Builtin.«zip.__new__» ⟨[.type "zip",.ref t,.ref l],[]⟩) (λ_ R s=>s.heap.IsTuple t xs/\s.heap.IsList l ys/\R (.ok (.ret (.ref (YI s.heap t l).objs.size))) { s with heap:=qF s.heap t l }):=
 .of_wp λprog w A R s h=>by
  obtain ⟨hp,g,d,tk,os⟩:=s; obtain ⟨h1,h2,h⟩:=h
  have hsub:=sub_zip
  have e1:Heap.IsTuple (Shared.heap ⟨hp,g,d,tk,os⟩) t xs:=h1
  have e2:Heap.IsList (Shared.heap ⟨hp.push { cls:=.type "tuple_iterator",data:=.fields #[.ref t,.int 0 0] },g,d,tk,os⟩) l ys:=Heap.IsList.push h2 _
  wp_walk using wpAny_pyIter_tuple e1,wpAny_pyIter_list e2
  exact ⟨_,rfl,h⟩
theorem zIW {prog:Program} {w:World} {A:Around} {E:Value->Shared->Prop} {s:Shared} {t l:Addr} {xs ys:Array Value} {Q:Value->Shared->Prop} (h1:s.heap.IsTuple t xs) (h2:s.heap.IsList l ys)
  (h:∀ h',IsZip h' (s.heap.objs.size + 4) (s.heap.objs.size + 2) (s.heap.objs.size + 3) .none->IsPair h' (s.heap.objs.size + 2) (.ref s.heap.objs.size) (.ref (s.heap.objs.size + 1))->IsPair h' (s.heap.objs.size + 3) .none .none->
   h'.IsTupleIter s.heap.objs.size t 0->h'.IsListIter (s.heap.objs.size + 1) l 0->(∀ c o,s.heap.get? c=some o->h'.get? c=some o)->Q (.ref (s.heap.objs.size + 4)) { s with heap:=h' }) :
  wpAny (model prog w) A (call (.type "zip") [.ref t,.ref l]) Q E s:=by
 refine callType_new F.called_zip (by decide) (F.typeCall_zip_2 _ _) (F.newCall_zip_2 _ _) (λobj=>F.args_object_init_3 obj _ _) F.entry_zip_new (zJM t l xs ys) ⟨h1,h2,?_⟩
 have n1:(YF s.heap t).objs.size=s.heap.objs.size + 1:=Heap.size_push ..
 have n2:(YG s.heap t l).objs.size=s.heap.objs.size + 2:=by rw [Heap.size_push,n1]
 have n3:(YH s.heap t l).objs.size=s.heap.objs.size + 3:=by rw [Heap.size_push,n2]
 have n4:(YI s.heap t l).objs.size=s.heap.objs.size + 4:=by rw [Heap.size_push,n3]
 have p5:(qF s.heap t l).get? (YI s.heap t l).objs.size=some _:=Heap.get?_push_size _ rfl
 have p4:(qF s.heap t l).get? (YH s.heap t l).objs.size=some _:=Heap.get?_push_of_some _ (Heap.get?_push_size _ rfl)
 have p3:(qF s.heap t l).get? (YG s.heap t l).objs.size=some _:=Heap.get?_push_of_some _ (Heap.get?_push_of_some _ (Heap.get?_push_size _ rfl))
 have p2:(qF s.heap t l).get? (YF s.heap t).objs.size=some _:=Heap.get?_push_of_some _ (Heap.get?_push_of_some _ (Heap.get?_push_of_some _ (Heap.get?_push_size _ rfl)))
 have p1:(qF s.heap t l).get? s.heap.objs.size=some _:=Heap.get?_push_of_some _ (Heap.get?_push_of_some _ (Heap.get?_push_of_some _ (Heap.get?_push_of_some _ (Heap.get?_push_size _ rfl))))
 change _/\_
 rw [n2,n3,n4] at p5
 rw [n1,n2] at p3
 rw [n3] at p4
 rw [n1] at p2
 rw [n4]
 exact ⟨⟨_,p5,rfl⟩,h _ p5 p3 p4 ⟨_,p1,rfl,rfl⟩ ⟨_,p2,rfl,rfl⟩ λc o x=>Heap.get?_push_of_some _ (Heap.get?_push_of_some _ (Heap.get?_push_of_some _ (Heap.get?_push_of_some _ (Heap.get?_push_of_some _ x))))⟩
section
variable {prog:Program} {w:World} {A:Around} {E:Value->Shared->Prop} {s:Shared}
theorem YJ {z TI TO i1 i2:Addr} {f1 f2:List Addr} {n1 n2 k:Nat} {P1 P2:Nat->Value->Prop} {S1 S2:Nat->Heap->Prop} {a b:Value} {Q:Option Value->Shared->Prop}
  (D1:Draws prog w A.in1 i1 f1 n1 P1 S1) (D2:Draws prog w A.in1 i2 f2 n2 P2 S2) (Z:Zp z TI TO i1 i2 f1 f2) (hz:IsZip s.heap z TI TO .none) (hI:IsPair s.heap TI (.ref i1) (.ref i2)) (hO:IsPair s.heap TO a b)
  (s1:S1 k s.heap) (s2:S2 k s.heap) (k1:k < n1) (k2:k < n2)
  (hQ:∀ x y h' tk,P1 k x->P2 k y->IsZip h' z TI TO (rawInt s.heap.objs.size)->IsPair h' TI (.ref i1) (.ref i2)->IsPair h' TO x y->S1 (k + 1) h'->S2 (k + 1) h'->IsPair h' s.heap.objs.size x y->
   (∀ c o,c≠z->c≠TO->c≠i1->c≠i2->s.heap.get? c=some o->h'.get? c=some o)->Q (some (.ref s.heap.objs.size)) { s with heap:=h',toks:=tk }) :
  wpAny (model prog w) A (pyNext (.ref z)) Q E s:=by
 have ty:s.TypeIs (.ref z) "zip":=⟨_,hz,rfl⟩
 unfold pyNext
 refine wpAny_bind (wpAny_attempt (wpAny_callSpecial?_slot (name:=Str.ofString "__next__") ty F.slot_zip_next (wpAny_call_entry F.slot_zip_next ty F.entry_zip_next ?_ (F.args_zip_next_1 _))))
 exact zMF D1 D2 Z hz hI hO s1 s2 k1 k2 λx y h' tk c1 c2 c3 c4 c5 c6 c7 c8 c9=>wpAny_pure (hQ x y h' tk c1 c2 c3 c4 c5 c6 c7 c8 c9)
theorem YK {z TI TO i1 i2:Addr} {f1 f2:List Addr} {n1 n2 k:Nat} {P1 P2:Nat->Value->Prop} {S1 S2:Nat->Heap->Prop} {a b:Value} {Q:Option Value->Shared->Prop}
  (D1:Draws prog w A.in1 i1 f1 n1 P1 S1) (D2:Draws prog w A.in1 i2 f2 n2 P2 S2) (Z:Zp z TI TO i1 i2 f1 f2) (hz:IsZip s.heap z TI TO .none) (hI:IsPair s.heap TI (.ref i1) (.ref i2)) (hO:IsPair s.heap TO a b)
  (s1:S1 k s.heap) (s2:S2 k s.heap) (k1:k<=n1) (k2:k<=n2) (ke:k=n1\/k=n2)
  (hQ:∀ h' tk,(∀ c o,c≠z->c≠TO->c≠i1->c≠i2->s.heap.get? c=some o->h'.get? c=some o)->Q none { s with heap:=h',toks:=tk }) :
  wpAny (model prog w) A (pyNext (.ref z)) Q E s:=by
 have ty:s.TypeIs (.ref z) "zip":=⟨_,hz,rfl⟩
 unfold pyNext
 refine wpAny_bind (wpAny_attempt (wpAny_callSpecial?_slot (name:=Str.ofString "__next__") ty F.slot_zip_next (wpAny_call_entry F.slot_zip_next ty F.entry_zip_next
  (zME D1 D2 Z hz hI hO s1 s2 k1 k2 ke λh' e tk keep he=>?_) (F.args_zip_next_1 _))))
 obtain ⟨o,ho,hc⟩:=he
 refine wpAny_bind (wpAny_isInstance (T:="StopIteration") (b:=true) ⟨o,ho,hc⟩ isSubtype_stop ?_)
 exact wpAny_pure (hQ _ _ keep)
end
end L2
namespace L2
open PySem PySem.Spec PyProof.Rows
def Qr (K:PySem.W.Frag) (a b:Addr):It:=
 ⟨λi H=>∃ xs ys x y,zo K H a xs/\zb K H b ys/\xs[i]? = some x/\ys[i]? = some y,
  λi H v H'=>∃ T x y,v=.ref T/\H T=none/\H'=zZ H T (.tup [x,y])/\(∀ xs,zo K H a xs->xs[i]? = some x)/\∀ ys,zb K H b ys->ys[i]? = some y,
  λi H=>∃ xs ys,zo K H a xs/\zb K H b ys/\i<=xs.length/\i<=ys.length/\(i=xs.length\/i=ys.length)⟩
theorem vJ {vs:Array Value} (v:Option Value):Data.fields vs≠Data.cell v:=λz=>by cases z
theorem uz {vs:Array Value} {n:Nat} (v:Option Value):Data.seq vs n≠Data.cell v:=λz=>by cases z
theorem zG.turnT {X:Cx} {pins:List (Addr × Obj)} {σ:St} {H:Hp} {s:Shared} {h':Heap} {tk:Nat} {ch:List Addr} {T:Addr} {x y:V} {u v:Value} (I:zG X pins σ H s) (hf:∀ b∈ch,yP X pins H b) (keep:∀ b o,b∉ch->s.heap.get? b=some o->h'.get? b=some o)
  (hT:s.heap.objs.size<=T) (p:IsPair h' T u v) (rx:zR x u) (ry:zR y v):zG X pins σ (zZ H T (.tup [x,y])) { s with heap:=h',toks:=tk }:=by
 have fr:H T=none:=I.hok.fresh hT
 have nT:∀ b o,s.heap.get? b=some o->b≠T:=λb o e z=>by rw [z] at e; exact absurd (Nat.lt_of_lt_of_le (Heap.lt_size e) hT) (Nat.lt_irrefl _)
 have uJ:∀ b o,H b=some o->b∉ch:=λb o e z=>by rw [(hf b z).1] at e; cases e
 refine I.step (ch:=ch) (λb hb=>⟨(hf b hb).2.2.2.1,(hf b hb).2.1,(hf b hb).2.2.2.2.1,(hf b hb).2.2.2.2.2⟩) (λb o _ _ hc e _=>keep b o hc e) (λb o _ _ hc e _=>⟨o.slots,keep b o hc e⟩)
  (λb o _ e n=>by rw [zt (nT b o e)]; exact n) (λb o hc e=>⟨o,keep b o hc e⟩) (λb xs e=>by rw [zt (wR e fr)]; exact e) (λb o w e=>by rw [zt (wR e fr)]; exact e)
  (λb ps e=>⟨#[],by rw [zt (wR e fr),e]; simp⟩) (λm hm=>?_) (λb w e=>?_) I.bare
 ·obtain ⟨o,es,ep,ho,r⟩:=hm
  exact ⟨o,es,ep,keep _ o (λz=>(hf _ z).2.1 rfl) ho,r⟩
 ·by_cases hb:b=T
  ·subst hb
   rw [wQ] at e
   cases e
   exact ⟨by show 2<=sizeLine; decide,[u,v],.cons rx (.cons ry .nil),⟨_,p,rfl,_,rfl⟩⟩
  ·rw [zt hb] at e
   refine (I.hok b w e).stay (λc q hc ec=>keep c q ?_ ec) (λc ec=>by rw [zt (wR ec fr)]; exact ec) λc xs ec=>by rw [zt (wR ec fr)]; exact ec
   rcases hc with z | z
   ·rw [z]
    exact uJ b w e
   ·exact uJ c _ z
theorem zG.turnN {X:Cx} {pins:List (Addr × Obj)} {σ:St} {H:Hp} {s:Shared} {h':Heap} {tk:Nat} {ch:List Addr} (I:zG X pins σ H s) (hf:∀ b∈ch,yP X pins H b) (keep:∀ b o,b∉ch->s.heap.get? b=some o->h'.get? b=some o) :
  zG X pins σ H { s with heap:=h',toks:=tk }:=by
 have uJ:∀ b o,H b=some o->b∉ch:=λb o e z=>by rw [(hf b z).1] at e; cases e
 refine I.step (ch:=ch) (λb hb=>⟨(hf b hb).2.2.2.1,(hf b hb).2.1,(hf b hb).2.2.2.2.1,(hf b hb).2.2.2.2.2⟩) (λb o _ _ hc e _=>keep b o hc e) (λb o _ _ hc e _=>⟨o.slots,keep b o hc e⟩)
  (λb o _ e n=>n) (λb o hc e=>⟨o,keep b o hc e⟩) (λb xs e=>e) (λb o w e=>e) (λb ps e=>⟨#[],by rw [e]; simp⟩) (λm hm=>?_) (λb w e=>?_) I.bare
 ·obtain ⟨o,es,ep,ho,r⟩:=hm
  exact ⟨o,es,ep,keep _ o (λz=>(hf _ z).2.1 rfl) ho,r⟩
 ·refine (I.hok b w e).stay (λc q hc ec=>keep c q ?_ ec) (λc ec=>ec) λc xs ec=>ec
  rcases hc with z | z
  ·rw [z]
   exact uJ b w e
  ·exact uJ c _ z
theorem zMM {P:Program} {w:World} {K:PySem.W.Frag} {es:List Expr} {kk:Nat} {tp:Pos} {a b z TI TO i1 i2:Addr} (Z:Zp z TI TO i1 i2 [i1,a] [i2,b]) (na:a≠i1) (nb:b≠i2) :
  xT P w K (.Tuple es kk tp) (Qr K a b) [z,TI,TO,i1,i2] z (λi h=>IsZip h z TI TO .none/\IsPair h TI (.ref i1) (.ref i2)/\(∃ x y,IsPair h TO x y)/\h.IsTupleIter i1 a i/\h.IsListIter i2 b i) where
 mem:=by simp
 obj:=λi h ⟨t1,t2,⟨x,y,t3⟩,t4,t5⟩ c hc=>by
  simp only [List.mem_cons,List.not_mem_nil,or_false] at hc
  rcases hc with rfl | rfl | rfl | rfl | rfl
  ·exact ⟨_,t1,vJ⟩
  ·exact ⟨_,t2,uz⟩
  ·exact ⟨_,t3,uz⟩
  ·obtain ⟨o,e,_,d⟩:=t4
   exact ⟨o,e,by rw [d]; exact vJ⟩
  ·obtain ⟨o,e,_,d⟩:=t5
   exact ⟨o,e,by rw [d]; exact vJ⟩
 keep:=λi h h' ⟨t1,t2,⟨x,y,t3⟩,t4,t5⟩ k=>⟨k z (by simp) _ t1,k TI (by simp) _ t2,⟨x,y,k TO (by simp) _ t3⟩,(by obtain ⟨o,e,r⟩:=t4; exact ⟨o,k i1 (by simp) o e,r⟩),(by obtain ⟨o,e,r⟩:=t5; exact ⟨o,k i2 (by simp) o e,r⟩)⟩
 item:=by
  intro X hP hw hK hc i pins s σ H E I hf ⟨t1,t2,⟨x0,y0,t3⟩,t4,t5⟩ hg
  subst hP hw hK
  obtain ⟨xs,ys,x,y,hq1,hq2,hx,hy⟩:=hg
  obtain ⟨its1,rv1,p1,_⟩:=I.tuple hq1
  obtain ⟨its2,rv2,p2,_⟩:=I.list hq2
  obtain ⟨u,hu,ru⟩:=rv1.get hx
  obtain ⟨v,hv,rv⟩:=rv2.get hy
  have hh:X.A.in1.handled=none:=I.ok.hd hc
  have l1:i < its1.toArray.size:=by rw [List.size_toArray]; exact (List.getElem?_eq_some_iff.mp hu).1
  have l2:i < its2.toArray.size:=by rw [List.size_toArray]; exact (List.getElem?_eq_some_iff.mp hv).1
  refine YJ (uy hh i1 a na its1.toArray) (Draws.list hh i2 b nb its2.toArray) Z t1 t2 t3 ⟨t4,p1⟩ ⟨t5,p2.isList⟩ l1 l2 ?_
  intro x' y' h1 tk px py z1 z2 z3 z4 z5 z6 keep
  have ex:x'=u:=by
   have q:its1.toArray[i]? = some x':=px
   simp only [List.getElem?_toArray] at q
   rw [hu] at q
   exact (Option.some.inj q).symm
  have ey:y'=v:=by
   have q:its2.toArray[i]? = some y':=py
   simp only [List.getElem?_toArray] at q
   rw [hv] at q
   exact (Option.some.inj q).symm
  subst ex ey
  refine ⟨_,rfl,wpAny_letOwnedTupleGo_zip (s:={ s with heap:=h1,toks:=tk }) z1 λh2 z7 sb=>?_⟩
  have zlt:z < s.heap.objs.size:=Heap.lt_size t1
  have keep2:∀ c o,c∉[z,TI,TO,i1,i2]->s.heap.get? c=some o->h2.get? c=some o:=λc o hc e=>by
   simp only [List.mem_cons,List.not_mem_nil,or_false,not_or] at hc
   exact sb.extBut c o hc.1 (keep c o hc.1 hc.2.2.1 hc.2.2.2.1 hc.2.2.2.2 e)
  have pT:IsPair h2 s.heap.objs.size x' y':=sb.extBut _ _ (Nat.ne_of_gt zlt) z6
  have I':=I.turnT (h':=h2) (tk:=tk) (ch:=[z,TI,TO,i1,i2]) (x:=x) (y:=y) hf keep2 (Nat.le_refl _) pT ru rv
  refine ⟨.ref s.heap.objs.size,_,I',rfl,⟨s.heap.objs.size,x,y,rfl,I.hok.fresh (Nat.le_refl _),rfl,λxs' q=>by rw [I.tuple_inj q hq1]; exact hx,λys' q=>by rw [I.list_inj q hq2]; exact hy⟩,
   ⟨z7,sb.extBut _ _ Z.a1 z2,⟨_,_,sb.extBut _ _ Z.a2 z3⟩,z4.1.extBut sb.extBut Z.a3,z5.1.extBut sb.extBut Z.a4⟩,λc hc=>?_⟩
  have:=(hf c hc).1
  rw [zt]
  ·exact this
  ·intro q
   obtain ⟨o,e,_⟩:∃ o,s.heap.get? c=some o/\True:=by
    simp only [List.mem_cons,List.not_mem_nil,or_false] at hc
    rcases hc with rfl | rfl | rfl | rfl | rfl
    ·exact ⟨_,t1,trivial⟩
    ·exact ⟨_,t2,trivial⟩
    ·exact ⟨_,t3,trivial⟩
    ·obtain ⟨o,e,_⟩:=t4; exact ⟨o,e,trivial⟩
    ·obtain ⟨o,e,_⟩:=t5; exact ⟨o,e,trivial⟩
   rw [q] at e
   exact absurd (Heap.lt_size e) (Nat.lt_irrefl _)
 done:=by
  intro X hP hw hK hc i pins s σ H E I hf ⟨t1,t2,⟨x0,y0,t3⟩,t4,t5⟩ hg
  subst hP hw hK
  obtain ⟨xs,ys,hq1,hq2,e1,e2,e3⟩:=hg
  obtain ⟨its1,rv1,p1,_⟩:=I.tuple hq1
  obtain ⟨its2,rv2,p2,_⟩:=I.list hq2
  have hh:X.A.in1.handled=none:=I.ok.hd hc
  have n1:its1.toArray.size=xs.length:=by rw [List.size_toArray]; exact rv1.length.symm
  have n2:its2.toArray.size=ys.length:=by rw [List.size_toArray]; exact rv2.length.symm
  refine YK (uy hh i1 a na its1.toArray) (Draws.list hh i2 b nb its2.toArray) Z t1 t2 t3 ⟨t4,p1⟩ ⟨t5,p2.isList⟩ (by omega) (by omega) (by omega) ?_
  intro h1 tk keep
  refine ⟨rfl,I.turnN (h':=h1) (tk:=tk) (ch:=[z,TI,TO,i1,i2]) hf λc o hc e=>?_⟩
  simp only [List.mem_cons,List.not_mem_nil,or_false,not_or] at hc
  exact keep c o hc.1 hc.2.2.1 hc.2.2.2.1 hc.2.2.2.2 e
 self:=λ_ _ _ _ _ st h=>wpAny_pyIter_zip st.1 h
theorem vV {x y z:Nat} (h1:x≠y) (h2:x≠z):x∉[y,z]:=by simp [h1,h2]
theorem YL (n a b:Nat) (la:a < n) (lb:b < n):Zp (n + 4) (n + 2) (n + 3) n (n + 1) [n,a] [n + 1,b]:=by
 have e:∀ x y:Nat,x≠y->(x:Addr)≠y:=λ_ _ h=>h
 exact ⟨e _ _ (by omega),e _ _ (by omega),e _ _ (by omega),e _ _ (by omega),e _ _ (by omega),e _ _ (by omega),e _ _ (by omega),e _ _ (by omega),e _ _ (by omega),
  vV (by omega) (by omega),vV (by omega) (by omega),vV (by omega) (by omega),vV (by omega) (by omega),vV (by omega) (by omega),vV (by omega) (by omega)⟩
section
variable {X:Cx} {es:List Expr} {kk:Nat} {tp:Pos}
end
end L2
namespace L2
open PySem PySem.Spec PyProof.Rows
section
variable {κ:Type} [DecidableEq κ]
end
section
variable {P:Program} {w:World} {H:Hp} {h:Heap} {a:Addr}
end
section
variable {X:Cx} {pins:List (Addr × Obj)} {σ:St} {H:Hp} {s:Shared} {a:Addr} {y v:V} {u r:Value} {o:Option V} {A:Around} {E:Value->Shared->Prop}
end
section
variable {X:Cx} {pins:List (Addr × Obj)} {σ:St} {H:Hp} {s:Shared} {a:Addr} {kvs:List (xw × V)} {k:xw} {u:Value} {A:Around} {E:Value->Shared->Prop}
end
section
variable {X:Cx} {o i e value:Expr} {pos pos' tpos:Pos} {td ty tv:TE}
end
section
variable {X:Cx} {pos:Pos}
end
end L2
namespace L2
open PySem
section
variable {prog:Program} {w:World} {A:Around} {R:Result->Shared->Prop} {s:Shared}
theorem zIT {elt target iter cond:Expr} {scope:Scope} {pos:Pos} {it acc:Value} {env:Env} (Wd:Nat->Shared->Prop)
  (turn:∀ n s,Wd n s->wpAny (model prog w) A (pyNext it) (λr s1=>match r with
   | none=>R (.ok .next) s1
   | some v=>wpAny (model prog w) A (letOwnedTupleGo target it v) (λ_ s2=>wpAny (model prog w) A (assign target env v) (λ_ s3=>wpAny (model prog w) A (isTrue cond env (eval cond env)) (λok s4=>
     if ok=true then wpAny (model prog w) A (eval elt env) (λx s5=>wpAny (model prog w) A (call (.builtin "list.append") [acc,x]) (λ_ s6=>∃ m,m < n/\Wd m s6) (λ_ _=>False) s5) (λ_ _=>False) s4
     else ∃ m,m < n/\Wd m s4) (λ_ _=>False) s3) (λ_ _=>False) s2) (λ_ _=>False) s1) (λ_ _=>False) s)
  (n:Nat) (h:Wd n s):codeAny (model prog w) A (.compLoop (.ListComp elt [⟨target,iter,[cond],0⟩] scope pos) 0 it acc env) R s:=by
 refine codeAny_loop rfl Wd (λn s hI=>?_) n h
 show wpAny _ _ (Sem.onRaise (compTurn (.ListComp elt [⟨target,iter,[cond],0⟩] scope pos) 0 it acc env) _) _ _ s
 refine wpAny_noted ?_
 rw [compTurn_list]
 refine wpAny_bind (wpAny_standAt (wpAny_bind (wpAny_mono (turn n s hI) (λr s1 h1=>?_) λ_ _ z=>False.elim z)))
 cases r with
 | none=>exact wpAny_pure h1
 | some v=>
  refine wpAny_bind (wpAny_mono h1 (λ_ s2 h2=>?_) λ_ _ z=>False.elim z)
  refine wpAny_bind (wpAny_mono h2 (λ_ s3 h3=>?_) λ_ _ z=>False.elim z)
  refine wpAny_bind (wpAny_tests_one (wpAny_mono h3 (λok s4 h4=>?_) λ_ _ z=>False.elim z))
  cases ok with
  | false=>exact wpAny_pure ⟨rfl,h4⟩
  | true=>exact wpAny_bind (wpAny_bind (wpAny_mono h4 (λx s5 h5=>wpAny_bind (wpAny_mono h5 (λ_ s6 h6=>wpAny_pure (wpAny_pure ⟨rfl,h6⟩)) λ_ _ z=>False.elim z)) λ_ _ z=>False.elim z))
end
end L2
namespace L2
open PySem PySem.Spec PyProof.Rows
def Qs (J:It) (g:TG) (tc:TT) (te:TE) (Q:VK) (σ0:St) (H0:Hp):Prop:=∃ W:Nat->Nat->List V->St->Hp->Prop,(∃ m,W 0 m [] σ0 H0)/\∀ i m ys σ1 H,W i m ys σ1 H->
 (J.stop i H/\∀ p,H p=none->Q (.ref p) (zZ H p (.lst ys)))\/(J.go i H/\ys.length < sizeLine/\∃ (N:V->St->Hp->Prop) (N0:St->Hp->Prop),(∀ y σ' H',N y σ' H'->∃ m',m' < m/\W (i + 1) m' (ys++[y]) σ' H')/\(∀ σ' H',N0 σ' H'->∃ m',m' < m/\W (i + 1) m' ys σ' H')∧
    ∀ x H',J.yld i H x H'->g x σ1 H' λσ2 H2=>tc σ2 H2 λb H3=>if b=true then te σ2 H3 λy H4=>N y σ2 H4 else N0 σ2 H3)
def zO7 (own:List Str) (caps:List (Nat × Str)) (wi:TI) (g:TG) (tc:TT) (te:TE):TE:=λσ H Q=>wi σ H λJ H1=>Qs J g tc te Q (wH own caps σ) H1
section
variable {X:Cx} {scope:Scope} {own:List Str} {caps:List (Nat × Str)} {elt tg iter cond:Expr} {wi:TI} {g:TG} {tc:TT} {te:TE} {pos:Pos}
end
end L2
namespace L2
open PySem PySem.Spec PyProof.Rows
section
variable {prog:Program} {w:World} {A:Around} {E:Value->Shared->Prop} {s:Shared}
end
end L2
namespace L2
open PySem PySem.Spec PyProof.Rows
section
variable {X:Cx}
theorem zPv (hu:X.A.units + 64 < cLine):yw X (compareOp .NotEq) (λx y H Q=>∃ d e:PyData,Dp X.K H x d/\Dp X.K H y e/\d.canLay0=true/\e.canLay0=true/\d.depth<=60/\e.depth<=60/\Q (.bl (!PyData.eqv d e)) H):=by
 intro pins s σ H x y v u Q I rx ry h
 obtain ⟨d,e,hx,hy,hc,hc',hd,hd',q⟩:=h
 obtain ⟨_,r1⟩:=hx.reads I rx
 obtain ⟨_,r2⟩:=hy.reads I ry
 exact SeqAt.compareNe_reads r1 r2 hc hc' (by omega) ⟨.bl _,H,I,rfl,q⟩
end
end L2
namespace L2
open PySem PySem.Spec PyProof.Rows
section
variable {X:Cx}
end
end L2
namespace L2
open PySem
theorem gS:bootBuiltins "max" = some (.builtin "max"):=by decide +kernel
end L2
namespace L2
open PySem PySem.Spec PyProof.Rows
theorem qG:bootBuiltins "sum" = some (.builtin "sum"):=by decide +kernel
theorem Qt:∀ {ns:List Int} {its:List Value},zL (ns.map V.int) its->∃ zs:List (Int × Tok),its=zs.map (λp=>Value.int p.1 p.2)/\zs.map (·.1)=ns
 | [],_,.nil=>⟨[],rfl,rfl⟩
 | n :: r,_,.cons h t=>by
  obtain ⟨zs,e1,e2⟩:=Qt t
  obtain ⟨tk,rfl⟩:=h
  exact ⟨(n,tk) :: zs,by rw [e1]; rfl,by rw [List.map_cons,e2]⟩
section
variable {X:Cx}
theorem qH (hc:X.calm=true):wz X (.builtin "sum") (λxs H Q=>∃ (p:Addr) (ns:List Int),xs=[.ref p]/\zb X.K H p (ns.map V.int)/\Q (.int ns.sum) H):=by
 intro pins s σ H xs us Q I r h
 obtain ⟨p,ns,rfl,hq,q⟩:=h
 obtain ⟨u,rfl,ru⟩:=uK r
 cases ru
 obtain ⟨its,rv,pl,hz⟩:=I.list hq
 obtain ⟨zs,e1,e2⟩:=Qt rv
 have e3:its.toArray=intItems zs.toArray:=by
  rw [e1]
  unfold intItems
  simp
 have hl:=pl.isList
 rw [e3] at hl
 refine sum_intListG (I.ok.hd hc) hl λh' tk t' kk=>⟨.int ns.sum,H,I.kept (h':=h') (t':=tk) kk,⟨t',?_⟩,q⟩
 rw [preSum_eq,List.take_of_length_le (by simp),e2]
end
end L2
namespace L2
open PySem PySem.Spec PyProof.Rows
theorem jW {a b c d:Nat} (h1:a < b) (h2:b<=c) (h3:c + 1<=d):d≠a:=by omega
theorem gT {a b c:Nat} (h1:c=a + 1) (h2:c + 1<=b):b≠a:=by omega
theorem YM {x:Str} {c:Addr}:∀ (names:List (Str × NameKind)) (n:Nat) (acc:List (Str × Addr)),(cellsFrom n names acc).lookup x=some c->((x,NameKind.cell)∈names/\n<=c)\/acc.lookup x=some c
 | [],_,_,h=>.inr h
 | (y,k) :: r,n,acc,h=>by
  unfold cellsFrom at h
  split at h
  ·rename_i hk
   rcases YM r (n + 1) ((y,n) :: acc) h with ⟨a,b⟩ | z
   ·exact .inl ⟨List.mem_cons_of_mem _ a,by omega⟩
   ·rw [List.lookup_cons] at z
    by_cases e:(x == y)=true
    ·simp only [e] at z
     have e1:x=y:=eq_of_beq e
     have e2:k=.cell:=eq_of_beq hk
     subst e1
     subst e2
     cases z
     exact .inl ⟨List.mem_cons_self,Nat.le_refl _⟩
    ·have e':(x == y)=false:=by simpa using e
     simp only [e'] at z
     exact .inr z
  ·rcases YM r n acc h with ⟨a,b⟩ | z
   ·exact .inl ⟨List.mem_cons_of_mem _ a,b⟩
   ·exact .inr z
theorem WU {x:Str}:∀ (names:List (Str × NameKind)) (n:Nat) (acc:List (Str × Addr)),(x,NameKind.cell)∉names->(cellsFrom n names acc).lookup x=acc.lookup x
 | [],_,_,_=>rfl
 | (y,k) :: r,n,acc,h=>by
  have hr:(x,NameKind.cell)∉r:=λz=>h (List.mem_cons_of_mem _ z)
  unfold cellsFrom
  split
  ·rename_i hk
   have e2:k=.cell:=eq_of_beq hk
   rw [WU r _ _ hr,List.lookup_cons]
   have e':(x == y)=false:=by
    cases q:x == y with
    | false=>rfl
    | true=>exact absurd (by rw [eq_of_beq q,e2]; exact List.mem_cons_self) h
   simp only [e']
  ·exact WU r _ _ hr
theorem WV:∀ (names:List (Str × NameKind)) (n:Nat) (acc:List (Str × Addr)),(∀ x c,acc.lookup x=some c->c < n)->(∀ x y c,acc.lookup x=some c->acc.lookup y=some c->x=y)->
  ∀ x y c,(cellsFrom n names acc).lookup x=some c->(cellsFrom n names acc).lookup y=some c->x=y
 | [],_,_,_,h2=>h2
 | (z,k) :: r,n,acc,h1,h2=>by
  unfold cellsFrom
  split
  ·have look:∀ x c,((z,n) :: acc).lookup x=some c->(x=z/\c=n)\/acc.lookup x=some c:=λx c e=>by
    rw [List.lookup_cons] at e
    cases q:x == z with
    | true=>
     simp only [q] at e
     exact .inl ⟨eq_of_beq q,(Option.some.inj e).symm⟩
    | false=>
     simp only [q] at e
     exact .inr e
   refine WV r (n + 1) ((z,n) :: acc) (λx c e=>?_) λx y c e1 e2=>?_
   ·rcases look x c e with ⟨_,e⟩ | e
    ·rw [e]
     exact Nat.lt_succ_self n
    ·exact Nat.lt_succ_of_lt (h1 x c e)
   ·rcases look x c e1 with ⟨a1,b1⟩ | a1 <;> rcases look y c e2 with ⟨a2,b2⟩ | a2
    ·rw [a1,a2]
    ·have:=h1 y c a2
     rw [b1] at this
     exact absurd this (Nat.lt_irrefl n)
    ·have:=h1 x c a1
     rw [b2] at this
     exact absurd this (Nat.lt_irrefl n)
    ·exact h2 x y c a1 a2
  ·exact WV r n acc h1 h2
theorem YN {x:Str} {c:Addr}:∀ (names:List (Str × NameKind)) (h:Heap) (acc:List (Str × Addr)),(cellsFrom h.objs.size names acc).lookup x=some c->acc.lookup x=some c\/(pushCells h names).IsCell c none
 | [],_,_,e=>.inl e
 | (y,k) :: r,h,acc,e=>by
  unfold cellsFrom at e
  unfold pushCells
  split at e
  ·rename_i hk
   rw [if_pos hk]
   have q:=YN (x:=x) (c:=c) r (h.push { cls:=.type "cell",data:=.cell none }) ((y,h.objs.size) :: acc) (by rw [Heap.size_push]; exact e)
   rcases q with q | q
   ·rw [List.lookup_cons] at q
    cases z:x == y with
    | true=>
     simp only [z] at q
     cases q
     exact .inr ⟨_,pushCells_keeps r _ _ _ (Heap.get?_push_size _ rfl),rfl⟩
    | false=>
     simp only [z] at q
     exact .inl q
   ·exact .inr q
  ·rename_i hk
   rw [if_neg hk]
   exact YN r h acc e
theorem qI:∀ {l:List (Str × NameKind)} {x:Str} {k:NameKind},(l.map (·.1)).Nodup->(x,k)∈l->l.lookup x=some k
 | [],_,_,_,h=>by cases h
 | (y,j) :: r,x,k,nd,h=>by
  rw [List.map_cons,List.nodup_cons] at nd
  rw [List.lookup_cons]
  rcases List.mem_cons.mp h with e | h
  ·cases e
   rw [beq_self_eq_true]
  ·have ne:(x == y)=false:=by
    cases q:x == y with
    | false=>rfl
    | true=>exact absurd (by rw [<- eq_of_beq q]; exact List.mem_map.mpr ⟨(x,k),h,rfl⟩) nd.1
   simp only [ne]
   exact qI nd.2 h
theorem Qu {M:Model} {A:Around} {E:Value->Shared->Prop} {s:Shared} {scope:Scope} {globals:Addr} {closure:List (Str × Addr)} {qual:Str} {func:Option Addr} {code:Value} {env:Env} {builtins:Addr} {Q:Env->Shared->Prop}
  (h:Q (newEnv scope s.heap.objs.size globals (cellsFrom (s.heap.objs.size + 1) scope.names closure) qual func code (some env) builtins) { s with heap:=pushCells (s.heap.push { cls:=.type "dict",data:=.dict #[] }) scope.names }) :
  wpAny M A (newFunctionEnv scope globals closure [] qual func code (some env) builtins) Q E s:=by
 simp only [newFunctionEnv,Option.isSome_some,if_true]
 refine wpAny_bind (wpAny_alloc ?_)
 refine wpAny_bind (wpAny_layCells _ (λname kind cells=>by cases hkc:kind == NameKind.cell <;> simp [hkc]) _ _ _ _ ?_)
 rw [show ({ s with heap:=s.heap.push { cls:=.type "dict",data:=.dict #[] } }:Shared).heap.objs.size=s.heap.objs.size + 1 from Heap.size_push ..]
 simp only [List.forIn_nil]
 exact wpAny_bind (wpAny_pure (wpAny_pure h))
abbrev yV (X:Cx) (scope:Scope) (N:List Str) (C:Addr) (s₀:Shared) (H₀:Hp) (ex:List Addr):Cx:=
 { X with N:=N,s₀:=s₀,H₀:=H₀,env:=compEnvC scope (cellsFrom (C + 1) scope.names (wG scope X.env)) C X.env,outer:=X.stack,ex:=ex,fn:=λx=>scope.names.lookup x == some .cell,pn:=[],xe:=λ_ _=>False }
structure vW (X:Cx) (scope:Scope) (own:List Str) (caps:List (Nat × Str)):Prop where
 kind:scope.kind=.function
 nod:(scope.names.map (·.1)).Nodup
 locs:∀ y∈scope.names,y.2=.local->scope.names.lookup y.1=some .local
 free:∀ y∈scope.names,y.2=.free->(X.env.cells.lookup y.1).isSome=true
 caps:∀ p∈caps,X.N[p.1]? = some p.2/\scope.names.lookup p.2=some .free/\(X.env.kindOf p.2=some .cell\/X.env.kindOf p.2=some .free)
section
variable {X:Cx} {scope:Scope} {own:List Str} {caps:List (Nat × Str)} {pins:List (Addr × Obj)} {σ:St} {H:Hp} {s s4:Shared} {C D:Addr} {fp:List Addr}
theorem qJ (B:vW X scope own caps) {x:Str} {c n:Nat} (e:(cellsFrom n scope.names (wG scope X.env)).lookup x=some c):((x,NameKind.cell)∈scope.names/\n<=c)\/X.env.cells.lookup x=some c:=
 (YM _ _ _ e).imp id λz=>(jV B.free z).1
theorem WW (I:zG X pins σ H s) {x:Str} {c:Addr} (e:X.env.cells.lookup x=some c):c < s.heap.objs.size:=by
 obtain ⟨v,o,ho,_⟩:=I.cell x c e
 exact Heap.lt_size ho
theorem zOs (B:vW X scope own caps) (I:zG X pins σ H s) (hf:∀ b∈fp,yP X pins H b) (hC:s.heap.objs.size<=C) (hlt:∀ b∈fp,b < s.heap.objs.size):(yV X scope (zX own caps) C s H fp).Ok where
 mod:=I.ok.mod
 kind:=B.kind
 glob:=I.ok.glob
 blt:=I.ok.blt
 above:=hC
 inj:=WV _ _ _ (λx c e=>Nat.lt_of_lt_of_le (WW I (jV B.free e).1) (Nat.le_succ_of_le hC)) λx y c h1 h2=>I.ok.inj x y c (jV B.free h1).1 (jV B.free h2).1
 has:=λx h=>by
  have fr:(x,NameKind.free)∈scope.names->∃ c,(cellsFrom (C + 1) scope.names (wG scope X.env)).lookup x=some c:=λz=>by
   obtain ⟨c,e⟩:=WS (env:=X.env) z
   exact Option.isSome_iff_exists.mp (PySem.W.cellsFrom_some _ _ _ (.inr (by rw [e]; rfl)))
  have ce:(x,NameKind.cell)∈scope.names->∃ c,(cellsFrom (C + 1) scope.names (wG scope X.env)).lookup x=some c:=λz=>
   Option.isSome_iff_exists.mp (PySem.W.cellsFrom_some _ _ _ (.inl (qI B.nod z)))
  rcases h with h | h
  ·rcases Qk (show (relabel scope X.env).names.lookup x=some .cell from h) with ⟨_,z | z⟩ | z
   ·exact fr z
   ·exact ce z
   ·exact ce z
  ·rcases Qk (show (relabel scope X.env).names.lookup x=some .free from h) with ⟨z,_⟩ | z
   ·cases z
   ·exact fr z
 cab:=λx c h e=>by
  have hx:scope.names.lookup x=some .cell:=eq_of_beq h
  rcases YM _ _ _ e with ⟨_,z⟩ | z
  ·exact Nat.le_trans hC (Nat.le_of_succ_le z)
  ·have:=qI B.nod (jV B.free z).2
   rw [hx] at this
   cases this
 hd:=I.ok.hd
 frames:=I.ok.frames
 stk:=.inl rfl
 exf:=λb hb=>⟨λe=>by have:=hlt b hb; rw [e] at this; exact absurd (Nat.lt_of_lt_of_le this hC) (Nat.lt_irrefl _),λx c e=>by
  rcases qJ B e with ⟨_,z⟩ | z
  ·exact jW (hlt b hb) hC z
  ·exact (hf b hb).2.2.2.2.1 x c z⟩
 bs:=I.bs
 bsz:=Nat.le_trans I.ok.bsz I.sz
 noex:=λb o e hb=>by
  rcases (hf b hb).2.2.2.1 with z | z
  ·exact I.ok.noex b o e z
  ·exact absurd (Nat.lt_of_lt_of_le (Heap.lt_size e) (Nat.le_trans I.ok.bsz z)) (Nat.lt_irrefl _)
 exfs:=λb hb z=>by
  rcases List.mem_cons.mp (I.stkSub b z) with e | z
  ·exact (hf b hb).2.1 e
  ·exact (hf b hb).2.2.1 z
 funs:=I.stack
 frf:=I.stkFree
theorem Qv (B:vW X scope own caps) (I:zG X pins σ H s) (hf:∀ b∈fp,yP X pins H b) (hC:s.heap.objs.size<=C) (hlt:∀ b∈fp,b < s.heap.objs.size)
  {m:Str->Option Value} (hn:s4.heap.Ns C m) (hk:∀ b o,s.heap.get? b=some o->s4.heap.get? b=some o) (hcell:∀ x c,(cellsFrom (C + 1) scope.names (wG scope X.env)).lookup x=some c->(wG scope X.env).lookup x=some c\/s4.heap.IsCell c none) (ho:s4.os=s.os) (hb:AllBare s4.gens) :
  zG (yV X scope (zX own caps) C s H fp) [] (wH own caps σ) H s4 where
 ok:=zOs B I hf hC hlt
 os:=ho
 bare:=hb
 base:=Un.kept hk
 loc:=⟨m,hn,λi x v h1 h2 h3=>by
  obtain ⟨j,hm,hs⟩:=zNL h1 h2
  obtain ⟨c1,c2,c3⟩:=B.caps _ hm
  obtain ⟨m',_,hl⟩:=I.loc
  have vis:jM X.env.scope x:=c3.elim (λz=>.inr (.inl z)) λz=>.inr (.inr z)
  obtain ⟨u,r,l⟩:=hl j x v c1 hs vis
  refine ⟨u,r,.inr ?_⟩
  have hm2:(x,NameKind.free)∈scope.names:=qE c2
  obtain ⟨c',hc'⟩:=WS (env:=X.env) hm2
  have hc2:=(jV B.free hc').1
  have noc:(x,NameKind.cell)∉scope.names:=λz=>by
   have:=qI B.nod z
   rw [c2] at this
   cases this
  refine ⟨?_,c',(WU _ _ _ noc).trans hc',?_⟩
  ·show (relabel scope X.env).names.lookup x=some .cell\/(relabel scope X.env).names.lookup x=some .free
   rw [Qn,c2,Option.map_some]
   split
   ·exact .inl rfl
   ·exact .inr rfl
  ·rcases l with ⟨k,_⟩ | ⟨_,c,e,z⟩
   ·rcases c3 with c3 | c3 <;> rw [c3] at k <;> cases k
   ·rw [hc2] at e
    cases e
    obtain ⟨o,e1,e2⟩:=z
    exact ⟨o,hk _ o e1,e2⟩⟩
 cell:=λx c e=>by
  rcases hcell x c e with z | z
  ·obtain ⟨v,o,e1,e2⟩:=I.cell x c (jV B.free z).1
   exact ⟨v,o,hk _ o e1,e2⟩
  ·exact ⟨none,z⟩
 free:=I.hok.fresh hC
 freeC:=λx c e=>by
  rcases qJ B e with ⟨_,z⟩ | z
  ·exact I.hok.fresh (Nat.le_trans hC (Nat.le_of_succ_le z))
  ·exact I.freeC x c z
 pin:=λp hp=>by simp at hp
 hok:=I.hok.kept hk
 len:=by
  show (wH own caps σ).length=(zX own caps).length
  unfold wH zX
  simp
end
section
variable {X:Cx} {scope:Scope} {own:List Str} {caps:List (Nat × Str)} {elt tg iter cond:Expr} {wi:TI} {g:TG} {tc:TT} {te:TE} {pos:Pos}
theorem Qw {pins:List (Addr × Obj)} {σ:St} {H2:Hp} {s2:Shared} {it:Addr} {fp:List Addr} {tn:Nat->Heap->Prop} {J:It} {W:Nat->Nat->List V->St->Hp->Prop} {m0:Nat} {Q:VK} {E:Value->Shared->Prop} {RR:Value->Addr->Result->Shared->Prop}
  (B:vW X scope own caps) (hc:X.calm=true) (hg:∀ C s₀ H₀ ex,PG (yV X scope (zX own caps) C s₀ H₀ ex) tg g) (he:∀ C s₀ H₀ ex,PE (yV X scope (zX own caps) C s₀ H₀ ex) elt te)
  (I2:zG X pins σ H2 s2) (T:xT X.prog X.w X.K tg J fp it tn) (st2:tn 0 s2.heap) (f2:∀ b∈fp,yP X pins H2 b) (w0:W 0 m0 [] (wH own caps σ) H2)
  (turn:∀ i m ys σ1 H,W i m ys σ1 H->(J.stop i H/\∀ p,H p=none->Q (.ref p) (zZ H p (.lst ys)))∨
   (J.go i H/\ys.length < sizeLine/\∃ N:V->St->Hp->Prop,(∀ y σ' H',N y σ' H'->∃ m',m' < m/\W (i + 1) m' (ys++[y]) σ' H')/\∀ x H',J.yld i H x H'->g x σ1 H' λσ2 H2=>te σ2 H2 λy H3=>N y σ2 H3))
  (hRR:∀ D C s6 H6 ys m,s6.heap.Ns C m->s2.heap.objs.size<=C->(∀ h',Heap.SameBut C s6.heap h'->zG X pins σ (zZ H6 D (.lst ys)) { s6 with heap:=h' })->zZ H6 D (.lst ys) C=none->Q (.ref D) (zZ H6 D (.lst ys))->RR (.ref D) C (.ok .next) s6) :
  wpAny (model X.prog X.w) X.A (newList []) (λacc s3=>wpAny (model X.prog X.w) X.A (newFunctionEnv scope X.env.globals (wG scope X.env) [] X.env.qual none .none (some X.env)) (λcenv s4=>
   codeAny (model X.prog X.w) X.A (.compStart (.ListComp elt [⟨tg,iter,[],0⟩] scope pos) 0 (.ref it) acc { cenv with scope:=relabel scope X.env }) (RR acc cenv.locals) s4) E s3) E s2:=by
 have hlt:∀ b∈fp,b < s2.heap.objs.size:=λb hb=>by
  obtain ⟨o,ho,_⟩:=T.obj _ _ st2 b hb
  exact Heap.lt_size ho
 refine wpAny_newObj_type (Qu ?_)
 dsimp only
 generalize hP:s2.heap.push { cls:=.type "list",dict:=none,data:=.seq ([]:List Value).toArray }=HD
 have hns:(pushCells (HD.push { cls:=.type "dict",data:=.dict #[] }) scope.names).Ns HD.objs.size (λ_=>none):=(Heap.Ns.new HD (.type "dict")).keeps (pushCells_keeps _ _)
 have hkp:∀ b o,HD.get? b=some o->(pushCells (HD.push { cls:=.type "dict",data:=.dict #[] }) scope.names).get? b=some o:=λb o e=>pushCells_keeps _ _ b o (Heap.get?_push_of_some _ e)
 have hcell:∀ x c,(cellsFrom (HD.objs.size + 1) scope.names (wG scope X.env)).lookup x=some c->(wG scope X.env).lookup x=some c\/(pushCells (HD.push { cls:=.type "dict",data:=.dict #[] }) scope.names).IsCell c none:=λx c e=>
  YN _ _ _ (by rw [Heap.size_push]; exact e)
 generalize hP4:pushCells (HD.push { cls:=.type "dict",data:=.dict #[] }) scope.names=h4 at hns hkp hcell |-
 have hCD:HD.objs.size=s2.heap.objs.size + 1:=by rw [<- hP,Heap.size_push]
 have hDC:s2.heap.objs.size≠HD.objs.size:=by omega
 have hle:s2.heap.objs.size<=HD.objs.size:=by omega
 have old:∀ b o,s2.heap.get? b=some o->h4.get? b=some o:=λb o eb=>hkp b o (by rw [<- hP]; exact Heap.get?_push_of_some _ eb)
 have hD4:h4.get? s2.heap.objs.size=some { cls:=.type "list",data:=.seq ([]:List Value).toArray 0 }:=hkp _ _ (by rw [<- hP]; exact Heap.get?_push_size _ rfl)
 have IY:zG (yV X scope (zX own caps) HD.objs.size s2 H2 fp) [] (wH own caps σ) H2 { s2 with heap:=h4 }:=
  Qv B I2 f2 (by omega) hlt hns old hcell rfl I2.bare
 have stat:∀ {H':Hp},(∀ b∈fp,H' b=none)->∀ b∈fp,yP (yV X scope (zX own caps) HD.objs.size s2 H2 fp) [] H' b:=λ{H'} hn b hb=>by
  have hb2:=hlt b hb
  refine ⟨hn b hb,?_,λz=>?_,.inl hb,λx c ec=>(match qJ B ec with | .inl z=>jW hb2 hle z.2 | .inr z=>(f2 b hb).2.2.2.2.1 x c z),λp hp=>by simp at hp⟩
  ·exact Nat.ne_of_lt (Nat.lt_of_lt_of_le hb2 hle)
  ·rcases List.mem_cons.mp (I2.stkSub b z) with e | z
   ·exact (f2 b hb).2.1 e
   ·exact (f2 b hb).2.2.1 z
 have statD:∀ {H':Hp},H' s2.heap.objs.size=none->yP (yV X scope (zX own caps) HD.objs.size s2 H2 fp) [] H' s2.heap.objs.size:=λ{H'} hn=>by
  refine ⟨hn,hDC,λz=>?_,.inr (Nat.le_refl _),λx c ec z=>?_,λp hp=>by simp at hp⟩
  ·obtain ⟨_,o,ho,_⟩:=I2.stack.mem z
   exact absurd (Heap.lt_size ho) (Nat.lt_irrefl _)
  ·rcases qJ B ec with ⟨_,y⟩ | y
   ·exact gT hCD y z
   ·have:=WW I2 y
    rw [z] at this
    exact Nat.lt_irrefl _ this
 have uY:∀ b∈fp,b≠s2.heap.objs.size:=λb hb=>Nat.ne_of_lt (hlt b hb)
 have IY':zG (yV X scope (zX own caps) HD.objs.size s2 H2 fp) [(s2.heap.objs.size,yc [] 0)] (wH own caps σ) H2 { s2 with heap:=h4 }:=
  IY.pins_of λp hp=>by
   rw [List.mem_singleton.mp hp]
   have z:=statD (I2.hok.fresh (Nat.le_refl _))
   exact ⟨hD4,z.1,z.2.1,z.2.2.1,λv z=>by cases z⟩
 have loop:∀ s3:Shared,s3={ s2 with heap:=h4 }->
   codeAny (model X.prog X.w) X.A (.compLoop (.ListComp elt [⟨tg,iter,[],0⟩] scope pos) 0 (.ref it) (.ref s2.heap.objs.size) (compEnvC scope (cellsFrom (HD.objs.size + 1) scope.names (wG scope X.env)) HD.objs.size X.env))
    (RR (.ref s2.heap.objs.size) HD.objs.size) s3:=by
  rintro s3 rfl
  refine zJy (λn s'=>∃ i ys σ' H' its k,zG (yV X scope (zX own caps) HD.objs.size s2 H2 fp) [(s2.heap.objs.size,yc its k)] σ' H' s'/\tn i s'.heap/\(∀ b∈fp,H' b=none)∧
   zL ys its/\ys.length<=sizeLine/\W i n ys σ' H') ?_ m0 ⟨0,[],_,H2,[],0,IY',T.keep _ _ _ st2 λb hb o eb=>old b o eb,λb hb=>(f2 b hb).1,.nil,Nat.zero_le _,w0⟩
  rintro n s5 ⟨i,ys,σ5,H5,its,k,I5,st5,fr5,rv5,hz5,w5⟩
  have stat5:∀ {H':Hp},(∀ b∈fp,H' b=none)->∀ b∈fp,yP (yV X scope (zX own caps) HD.objs.size s2 H2 fp) [(s2.heap.objs.size,yc its k)] H' b:=λ{H'} hn b hb=>by
   obtain ⟨a1,a2,a3,a4,a5,_⟩:=stat hn b hb
   refine ⟨a1,a2,a3,a4,a5,λp hp=>?_⟩
   have hp':p∈[(s2.heap.objs.size,yc its k)]:=hp
   rw [List.mem_singleton.mp hp']
   exact Ne.symm (uY b hb)
  rcases turn i n ys σ5 H5 w5 with ⟨stop,qn⟩ | ⟨go,hlen,N,hN,step⟩
  ·refine ze (T.done (yV X scope (zX own caps) HD.objs.size s2 H2 fp) rfl rfl rfl hc i _ s5 σ5 H5 _ I5 (stat5 fr5) st5 stop) λr s6 ⟨hr,I6⟩=>?_
   subst hr
   obtain ⟨pD1,pD2,_⟩:=I6.pin (s2.heap.objs.size,yc its k) (List.mem_append_right _ List.mem_cons_self)
   obtain ⟨m6,hn6,_⟩:=I6.loc
   refine hRR _ _ s6 H5 ys m6 hn6 (by omega) (λh' sb=>?_) (by rw [zt (Ne.symm hDC)]; exact I6.free) (qn _ pD2)
   have hC5:H5 HD.objs.size=none:=I6.free
   have nb:∀ b o,s2.heap.get? b=some o->b≠HD.objs.size/\b≠s2.heap.objs.size:=λb o eb=>by
    have hb:=Heap.lt_size eb
    exact ⟨Nat.ne_of_lt (Nat.lt_of_lt_of_le hb hle),Nat.ne_of_lt hb⟩
   have nt:∀ b o,H5 b=some o->b≠s2.heap.objs.size:=λb o eb z=>by rw [z] at eb; rw [show H5 s2.heap.objs.size=none from pD2] at eb; cases eb
   have un:Un (wj X.stack) fp H2 (zZ H5 s2.heap.objs.size (.lst ys)) s2.heap h':=
    ⟨λb o eb n1 n2 n3=>sb.extBut b o (nb b o eb).1 (I6.base.keep b o eb n1 n2 n3),
     λb o eb n1 n2 n3=>by
      obtain ⟨sl,e1⟩:=I6.base.slot b o eb n1 n2 n3
      exact ⟨sl,sb.extBut b _ (nb b o eb).1 e1⟩,
     λb o eb n1 n3=>by
      rw [zt (nb b o eb).2]
      exact I6.base.free b o eb n1 n3,
     λb o eb n3=>by
      obtain ⟨o',e1⟩:=I6.base.there b o eb n3
      exact ⟨o',sb.extBut b _ (nb b o eb).1 e1⟩,
     λb xs eb=>by
      have e1:=I6.base.tups b xs eb
      rw [zt (nt b _ e1)]
      exact e1,
     λb o u eb=>by
      have e1:=I6.base.frzs b o u eb
      rw [zt (nt b _ e1)]
      exact e1,
     λb ps eb=>by
      obtain ⟨more,e1⟩:=I6.base.tbls b ps eb
      refine ⟨more,?_⟩
      rw [zt (nt b _ e1)]
      exact e1⟩
   have ok5:xF X.prog X.w (zZ H5 s2.heap.objs.size (.lst ys)) h':=λb u eb=>by
    by_cases hb:b=s2.heap.objs.size
    ·subst hb
     rw [wQ] at eb
     cases eb
     exact ⟨hz5,its,k,rv5,sb.extBut _ _ hDC pD1⟩
    ·rw [zt hb] at eb
     refine (I6.hok b u eb).stay (λc v hcv ev=>sb.extBut c v ?_ ev) (λc ec=>by rw [zt (nt c _ ec)]; exact ec) λc xs ec=>by rw [zt (nt c _ ec)]; exact ec
     rintro rfl
     rcases hcv with z | z
     ·rw [<- z,hC5] at eb
      cases eb
     ·rw [hC5] at z
      cases z
   exact I2.call' (s':={ s6 with heap:=h' }) (ch:=fp) I6.os un ok5 I6.bare λb hb=>⟨(f2 b hb).2.2.2.1,(f2 b hb).2.1,(f2 b hb).2.2.2.2.1,(f2 b hb).2.2.2.2.2⟩
  ·refine ze (T.item (yV X scope (zX own caps) HD.objs.size s2 H2 fp) rfl rfl rfl hc i _ s5 σ5 H5 _ I5 (stat5 fr5) st5 go) λr s6 ⟨u,hr,h6⟩=>?_
   subst hr
   refine ze h6 λ_ s7 ⟨x,H7,I7,r7,y7,st7,fr7⟩=>?_
   have I7':=I7.pinned (stat5 fr7) (T.obj _ _ st7)
   refine ze (hg HD.objs.size s2 H2 fp _ s7 σ5 H7 x u _ I7' r7 (step x H7 y7)) λ_ s8 ⟨σ8,H8,I8,q8⟩=>?_
   refine ze (he HD.objs.size s2 H2 fp _ s8 σ8 H8 _ I8 q8) λyv s9 ⟨y,H9,I9,r9,n9⟩=>?_
   obtain ⟨m',hm',w9⟩:=hN y σ8 H9 n9
   have pD9:=(I9.pin (s2.heap.objs.size,yc its k) (List.mem_append_right _ (List.mem_append_left _ List.mem_cons_self))).2.1
   have hl:its.length=ys.length:=rv5.length.symm
   refine Qq (Y:=yV X scope (zX own caps) HD.objs.size s2 H2 fp) (its:=its) (k:=k) (pl:=qA fp s7.heap) I9 (statD pD9) rfl (by omega) λh' k' tk keep I'=>?_
   refine ⟨m',hm',i + 1,ys++[y],σ8,H9,its++[yv],k',I',?_,λb hb=>?_,rv5.append (.cons r9 .nil),?_,w9⟩
   ·refine T.keep _ _ _ st7 λb hb o eb=>keep b o (uY b hb) ?_
    exact (I9.pin (b,o) (List.mem_append_right _ (List.mem_append_right _ (uw hb eb)))).1
   ·obtain ⟨o,eb,_⟩:=T.obj _ _ st7 b hb
    exact (I9.pin (b,o) (List.mem_append_right _ (List.mem_append_right _ (uw hb eb)))).2.1
   ·rw [List.length_append,List.length_singleton]
    omega
 exact codeAny_compStart_list (loop _ rfl) (T.self _ 0 _ _ _ (T.keep _ _ _ st2 λb hb o eb=>old b o eb) (loop _ rfl))
theorem zMm (B:vW X scope own caps) (hc:X.calm=true) (hi:PI X tg iter wi) (hg:∀ C s₀ H₀ ex,PG (yV X scope (zX own caps) C s₀ H₀ ex) tg g)
  (he:∀ C s₀ H₀ ex,PE (yV X scope (zX own caps) C s₀ H₀ ex) elt te) (hs:∀ x,foldedSetIterable iter X.env x=pure x:=by intro _; rfl) :
  PE X (.ListComp elt [⟨tg,iter,[],0⟩] scope pos) (Qp own caps wi g te):=by
 intro pins s σ H Q I h
 rw [eval_ListComp]
 refine wpAny_comprehension_free (use:=none) rfl hs (WR B.free) B.kind B.locs ?_
 refine ze (hi pins s σ H _ I h) λxv s1 h1=>ze h1 λitv s2 h2=>?_
 obtain ⟨it,fp,tn,J,H2,e,I2,T,st2,f2,W,⟨m0,w0⟩,turn⟩:=h2
 subst e
 refine Qw (RR:=λacc C=>compPost (model X.prog X.w) X.A X.xe none (EP X pins σ Q) acc C) B hc hg he I2 T st2 f2 w0 turn λD C s6 H6 ys m hn hC J6 hC6 q=>?_
 exact ⟨m,hn,λh' sb=>⟨.ref D,_,J6 h' sb,rfl,q⟩⟩
theorem zMd {i:Nat} {y:Str} {py spos:Pos} (hN:X.N.Nodup) (hy:X.N[i]? = some y) (hl:X.env.scope.names.lookup y=some .local) (B:vW X scope own caps) (hc:X.calm=true) (hi:PI X tg iter wi) (hg:∀ C s₀ H₀ ex,PG (yV X scope (zX own caps) C s₀ H₀ ex) tg g)
  (he:∀ C s₀ H₀ ex,PE (yV X scope (zX own caps) C s₀ H₀ ex) elt te) (hsw:swapsWith (.ListComp elt [⟨tg,iter,[],0⟩] scope pos) (some (.Name y py)) spos.line X.env=pure true) (hs:∀ x,foldedSetIterable iter X.env x=pure x:=by intro _; rfl) :
  PS X (.Assign [.Name y py] (.ListComp elt [⟨tg,iter,[],0⟩] scope pos) spos) (vR (Qp own caps wi g te) (qx i)):=by
 intro pins s σ H D0 I h
 rw [exec_Assign_Name_used _ _ _ _ hsw]
 refine wpAny_bind (wpAny_standAt (wpAny_bind ?_))
 change wpAny _ X.A (do let _ <- comprehension (.ListComp elt [⟨tg,iter,[],0⟩] scope pos) scope X.env _ (newList []) false (eval iter X.env) (some (assign (.Name y py) X.env))) _ _ s
 refine wpAny_bind (wpAny_mono (wpAny_comprehension_free (use:=some (assign (.Name y py) X.env)) (Q:=λ_ s'=>SP X pins D0 .next s') rfl hs (WR B.free) B.kind B.locs ?_) (λ_ s' hq=>wpAny_pure (wpAny_pure hq)) λ_ _ e=>e)
 refine ze (hi pins s σ H _ I h) λxv s1 h1=>ze h1 λitv s2 h2=>?_
 obtain ⟨it,fp,tn,J,H2,e,I2,T,st2,f2,W,⟨m0,w0⟩,turn⟩:=h2
 subst e
 refine Qw (Q:=λx H1=>D0.nx (σ.set i (some x)) H1) (RR:=λacc C=>compPost (model X.prog X.w) X.A X.xe (some (assign (.Name y py) X.env)) (λ_ s'=>SP X pins D0 .next s') acc C) B hc hg he I2 T st2 f2 w0 turn λD C s6 H6 ys m hn hC J6 hC6 q=>?_
 have I6:zG X pins σ (zZ H6 D (.lst ys)) s6:=J6 s6.heap (.refl ..)
 have CL:C≠X.env.locals:=λz=>by rw [z] at hC; exact absurd (Nat.lt_of_lt_of_le I2.lt hC) (Nat.lt_irrefl _)
 have CC:∀ x c,X.env.cells.lookup x=some c->c≠C:=λx c ec z=>by
  obtain ⟨v,o,ho,_⟩:=I2.cell x c ec
  rw [z] at ho
  exact absurd (Nat.lt_of_lt_of_le (Heap.lt_size ho) hC) (Nat.lt_irrefl _)
 have CP:∀ p∈X.pn++pins,p.1≠C:=λp hp z=>by
  have hl:=Heap.lt_size (I2.pin p hp).1
  rw [z] at hl
  exact absurd (Nat.lt_of_lt_of_le hl hC) (Nat.lt_irrefl _)
 change wpAny _ X.A (assign (.Name y py) X.env (.ref D)) _ _ s6
 refine wpAny_assign_Name (Xu I6 hN hy (.inl hl) (v:=.ref D) rfl (λs7 I7 ⟨a,sb,ha⟩=>?_) (.inr hl))
 have aC:C≠a:=λz=>by
  rcases ha with e | e
  ·exact CL (z.trans e)
  ·exact CC _ _ e z.symm
 refine ⟨m,hn.sameBut sb aC,λh' sb'=>⟨_,_,I7.turned (h':=h') (t':=s7.toks) (it:=C) (λb o hb eb=>sb'.extBut b o hb eb) hC6 CL (.inr (Nat.le_trans I2.sz hC)) CC CP,q⟩⟩
theorem zIU {pins:List (Addr × Obj)} {σ:St} {H2:Hp} {s2:Shared} {it:Addr} {fp:List Addr} {tn:Nat->Heap->Prop} {J:It} {W:Nat->Nat->List V->St->Hp->Prop} {m0:Nat} {Q:VK} {E:Value->Shared->Prop} {RR:Value->Addr->Result->Shared->Prop}
  (B:vW X scope own caps) (hc:X.calm=true) (hg:∀ C s₀ H₀ ex,PG (yV X scope (zX own caps) C s₀ H₀ ex) tg g) (ht:∀ C s₀ H₀ ex,PT (yV X scope (zX own caps) C s₀ H₀ ex) cond tc) (he:∀ C s₀ H₀ ex,PE (yV X scope (zX own caps) C s₀ H₀ ex) elt te)
  (I2:zG X pins σ H2 s2) (T:xT X.prog X.w X.K tg J fp it tn) (st2:tn 0 s2.heap) (f2:∀ b∈fp,yP X pins H2 b) (w0:W 0 m0 [] (wH own caps σ) H2)
  (turn:∀ i m ys σ1 H,W i m ys σ1 H->(J.stop i H/\∀ p,H p=none->Q (.ref p) (zZ H p (.lst ys)))∨
   (J.go i H/\ys.length < sizeLine/\∃ (N:V->St->Hp->Prop) (N0:St->Hp->Prop),(∀ y σ' H',N y σ' H'->∃ m',m' < m/\W (i + 1) m' (ys++[y]) σ' H')/\(∀ σ' H',N0 σ' H'->∃ m',m' < m/\W (i + 1) m' ys σ' H')∧
    ∀ x H',J.yld i H x H'->g x σ1 H' λσ2 H2=>tc σ2 H2 λb H3=>if b=true then te σ2 H3 λy H4=>N y σ2 H4 else N0 σ2 H3))
  (hRR:∀ D C s6 H6 ys m,s6.heap.Ns C m->s2.heap.objs.size<=C->(∀ h',Heap.SameBut C s6.heap h'->zG X pins σ (zZ H6 D (.lst ys)) { s6 with heap:=h' })->zZ H6 D (.lst ys) C=none->Q (.ref D) (zZ H6 D (.lst ys))->RR (.ref D) C (.ok .next) s6) :
  wpAny (model X.prog X.w) X.A (newList []) (λacc s3=>wpAny (model X.prog X.w) X.A (newFunctionEnv scope X.env.globals (wG scope X.env) [] X.env.qual none .none (some X.env)) (λcenv s4=>
   codeAny (model X.prog X.w) X.A (.compStart (.ListComp elt [⟨tg,iter,[cond],0⟩] scope pos) 0 (.ref it) acc { cenv with scope:=relabel scope X.env }) (RR acc cenv.locals) s4) E s3) E s2:=by
 have hlt:∀ b∈fp,b < s2.heap.objs.size:=λb hb=>by
  obtain ⟨o,ho,_⟩:=T.obj _ _ st2 b hb
  exact Heap.lt_size ho
 refine wpAny_newObj_type (Qu ?_)
 dsimp only
 generalize hP:s2.heap.push { cls:=.type "list",dict:=none,data:=.seq ([]:List Value).toArray }=HD
 have hns:(pushCells (HD.push { cls:=.type "dict",data:=.dict #[] }) scope.names).Ns HD.objs.size (λ_=>none):=(Heap.Ns.new HD (.type "dict")).keeps (pushCells_keeps _ _)
 have hkp:∀ b o,HD.get? b=some o->(pushCells (HD.push { cls:=.type "dict",data:=.dict #[] }) scope.names).get? b=some o:=λb o e=>pushCells_keeps _ _ b o (Heap.get?_push_of_some _ e)
 have hcell:∀ x c,(cellsFrom (HD.objs.size + 1) scope.names (wG scope X.env)).lookup x=some c->(wG scope X.env).lookup x=some c\/(pushCells (HD.push { cls:=.type "dict",data:=.dict #[] }) scope.names).IsCell c none:=λx c e=>
  YN _ _ _ (by rw [Heap.size_push]; exact e)
 generalize hP4:pushCells (HD.push { cls:=.type "dict",data:=.dict #[] }) scope.names=h4 at hns hkp hcell |-
 have hCD:HD.objs.size=s2.heap.objs.size + 1:=by rw [<- hP,Heap.size_push]
 have hDC:s2.heap.objs.size≠HD.objs.size:=by omega
 have hle:s2.heap.objs.size<=HD.objs.size:=by omega
 have old:∀ b o,s2.heap.get? b=some o->h4.get? b=some o:=λb o eb=>hkp b o (by rw [<- hP]; exact Heap.get?_push_of_some _ eb)
 have hD4:h4.get? s2.heap.objs.size=some { cls:=.type "list",data:=.seq ([]:List Value).toArray 0 }:=hkp _ _ (by rw [<- hP]; exact Heap.get?_push_size _ rfl)
 have IY:zG (yV X scope (zX own caps) HD.objs.size s2 H2 fp) [] (wH own caps σ) H2 { s2 with heap:=h4 }:=
  Qv B I2 f2 (by omega) hlt hns old hcell rfl I2.bare
 have stat:∀ {H':Hp},(∀ b∈fp,H' b=none)->∀ b∈fp,yP (yV X scope (zX own caps) HD.objs.size s2 H2 fp) [] H' b:=λ{H'} hn b hb=>by
  have hb2:=hlt b hb
  refine ⟨hn b hb,?_,λz=>?_,.inl hb,λx c ec=>(match qJ B ec with | .inl z=>jW hb2 hle z.2 | .inr z=>(f2 b hb).2.2.2.2.1 x c z),λp hp=>by simp at hp⟩
  ·exact Nat.ne_of_lt (Nat.lt_of_lt_of_le hb2 hle)
  ·rcases List.mem_cons.mp (I2.stkSub b z) with e | z
   ·exact (f2 b hb).2.1 e
   ·exact (f2 b hb).2.2.1 z
 have statD:∀ {H':Hp},H' s2.heap.objs.size=none->yP (yV X scope (zX own caps) HD.objs.size s2 H2 fp) [] H' s2.heap.objs.size:=λ{H'} hn=>by
  refine ⟨hn,hDC,λz=>?_,.inr (Nat.le_refl _),λx c ec z=>?_,λp hp=>by simp at hp⟩
  ·obtain ⟨_,o,ho,_⟩:=I2.stack.mem z
   exact absurd (Heap.lt_size ho) (Nat.lt_irrefl _)
  ·rcases qJ B ec with ⟨_,y⟩ | y
   ·exact gT hCD y z
   ·have:=WW I2 y
    rw [z] at this
    exact Nat.lt_irrefl _ this
 have uY:∀ b∈fp,b≠s2.heap.objs.size:=λb hb=>Nat.ne_of_lt (hlt b hb)
 have IY':zG (yV X scope (zX own caps) HD.objs.size s2 H2 fp) [(s2.heap.objs.size,yc [] 0)] (wH own caps σ) H2 { s2 with heap:=h4 }:=
  IY.pins_of λp hp=>by
   rw [List.mem_singleton.mp hp]
   have z:=statD (I2.hok.fresh (Nat.le_refl _))
   exact ⟨hD4,z.1,z.2.1,z.2.2.1,λv z=>by cases z⟩
 have loop:∀ s3:Shared,s3={ s2 with heap:=h4 }->
   codeAny (model X.prog X.w) X.A (.compLoop (.ListComp elt [⟨tg,iter,[cond],0⟩] scope pos) 0 (.ref it) (.ref s2.heap.objs.size) (compEnvC scope (cellsFrom (HD.objs.size + 1) scope.names (wG scope X.env)) HD.objs.size X.env))
    (RR (.ref s2.heap.objs.size) HD.objs.size) s3:=by
  rintro s3 rfl
  refine zIT (λn s'=>∃ i ys σ' H' its k,zG (yV X scope (zX own caps) HD.objs.size s2 H2 fp) [(s2.heap.objs.size,yc its k)] σ' H' s'/\tn i s'.heap/\(∀ b∈fp,H' b=none)∧
   zL ys its/\ys.length<=sizeLine/\W i n ys σ' H') ?_ m0 ⟨0,[],_,H2,[],0,IY',T.keep _ _ _ st2 λb hb o eb=>old b o eb,λb hb=>(f2 b hb).1,.nil,Nat.zero_le _,w0⟩
  rintro n s5 ⟨i,ys,σ5,H5,its,k,I5,st5,fr5,rv5,hz5,w5⟩
  have stat5:∀ {H':Hp},(∀ b∈fp,H' b=none)->∀ b∈fp,yP (yV X scope (zX own caps) HD.objs.size s2 H2 fp) [(s2.heap.objs.size,yc its k)] H' b:=λ{H'} hn b hb=>by
   obtain ⟨a1,a2,a3,a4,a5,_⟩:=stat hn b hb
   refine ⟨a1,a2,a3,a4,a5,λp hp=>?_⟩
   have hp':p∈[(s2.heap.objs.size,yc its k)]:=hp
   rw [List.mem_singleton.mp hp']
   exact Ne.symm (uY b hb)
  rcases turn i n ys σ5 H5 w5 with ⟨stop,qn⟩ | ⟨go,hlen,N,N0,hN,hN0,step⟩
  ·refine ze (T.done (yV X scope (zX own caps) HD.objs.size s2 H2 fp) rfl rfl rfl hc i _ s5 σ5 H5 _ I5 (stat5 fr5) st5 stop) λr s6 ⟨hr,I6⟩=>?_
   subst hr
   obtain ⟨pD1,pD2,_⟩:=I6.pin (s2.heap.objs.size,yc its k) (List.mem_append_right _ List.mem_cons_self)
   obtain ⟨m6,hn6,_⟩:=I6.loc
   refine hRR _ _ s6 H5 ys m6 hn6 (by omega) (λh' sb=>?_) (by rw [zt (Ne.symm hDC)]; exact I6.free) (qn _ pD2)
   have hC5:H5 HD.objs.size=none:=I6.free
   have nb:∀ b o,s2.heap.get? b=some o->b≠HD.objs.size/\b≠s2.heap.objs.size:=λb o eb=>by
    have hb:=Heap.lt_size eb
    exact ⟨Nat.ne_of_lt (Nat.lt_of_lt_of_le hb hle),Nat.ne_of_lt hb⟩
   have nt:∀ b o,H5 b=some o->b≠s2.heap.objs.size:=λb o eb z=>by rw [z] at eb; rw [show H5 s2.heap.objs.size=none from pD2] at eb; cases eb
   have un:Un (wj X.stack) fp H2 (zZ H5 s2.heap.objs.size (.lst ys)) s2.heap h':=
    ⟨λb o eb n1 n2 n3=>sb.extBut b o (nb b o eb).1 (I6.base.keep b o eb n1 n2 n3),
     λb o eb n1 n2 n3=>by
      obtain ⟨sl,e1⟩:=I6.base.slot b o eb n1 n2 n3
      exact ⟨sl,sb.extBut b _ (nb b o eb).1 e1⟩,
     λb o eb n1 n3=>by
      rw [zt (nb b o eb).2]
      exact I6.base.free b o eb n1 n3,
     λb o eb n3=>by
      obtain ⟨o',e1⟩:=I6.base.there b o eb n3
      exact ⟨o',sb.extBut b _ (nb b o eb).1 e1⟩,
     λb xs eb=>by
      have e1:=I6.base.tups b xs eb
      rw [zt (nt b _ e1)]
      exact e1,
     λb o u eb=>by
      have e1:=I6.base.frzs b o u eb
      rw [zt (nt b _ e1)]
      exact e1,
     λb ps eb=>by
      obtain ⟨more,e1⟩:=I6.base.tbls b ps eb
      refine ⟨more,?_⟩
      rw [zt (nt b _ e1)]
      exact e1⟩
   have ok5:xF X.prog X.w (zZ H5 s2.heap.objs.size (.lst ys)) h':=λb u eb=>by
    by_cases hb:b=s2.heap.objs.size
    ·subst hb
     rw [wQ] at eb
     cases eb
     exact ⟨hz5,its,k,rv5,sb.extBut _ _ hDC pD1⟩
    ·rw [zt hb] at eb
     refine (I6.hok b u eb).stay (λc v hcv ev=>sb.extBut c v ?_ ev) (λc ec=>by rw [zt (nt c _ ec)]; exact ec) λc xs ec=>by rw [zt (nt c _ ec)]; exact ec
     rintro rfl
     rcases hcv with z | z
     ·rw [<- z,hC5] at eb
      cases eb
     ·rw [hC5] at z
      cases z
   exact I2.call' (s':={ s6 with heap:=h' }) (ch:=fp) I6.os un ok5 I6.bare λb hb=>⟨(f2 b hb).2.2.2.1,(f2 b hb).2.1,(f2 b hb).2.2.2.2.1,(f2 b hb).2.2.2.2.2⟩
  ·refine ze (T.item (yV X scope (zX own caps) HD.objs.size s2 H2 fp) rfl rfl rfl hc i _ s5 σ5 H5 _ I5 (stat5 fr5) st5 go) λr s6 ⟨u,hr,h6⟩=>?_
   subst hr
   refine ze h6 λ_ s7 ⟨x,H7,I7,r7,y7,st7,fr7⟩=>?_
   have I7':=I7.pinned (stat5 fr7) (T.obj _ _ st7)
   refine ze (hg HD.objs.size s2 H2 fp _ s7 σ5 H7 x u _ I7' r7 (step x H7 y7)) λ_ s8 ⟨σ8,H8,I8,q8⟩=>?_
   refine ze (ht HD.objs.size s2 H2 fp _ s8 σ8 H8 _ I8 q8) λok sT ⟨HT,IT,qT⟩=>?_
   cases ok with
   | false=>
    obtain ⟨m',hm',w9⟩:=hN0 σ8 HT qT
    refine ⟨m',hm',i + 1,ys,σ8,HT,its,k,IT.unpinned,?_,λb hb=>?_,rv5,hz5,w9⟩
    ·refine T.keep _ _ _ st7 λb hb o eb=>?_
     exact (IT.pin (b,o) (List.mem_append_right _ (List.mem_append_right _ (uw hb eb)))).1
    ·obtain ⟨o,eb,_⟩:=T.obj _ _ st7 b hb
     exact (IT.pin (b,o) (List.mem_append_right _ (List.mem_append_right _ (uw hb eb)))).2.1
   | true=>
    refine ze (he HD.objs.size s2 H2 fp _ sT σ8 HT _ IT qT) λyv s9 ⟨y,H9,I9,r9,n9⟩=>?_
    obtain ⟨m',hm',w9⟩:=hN y σ8 H9 n9
    have pD9:=(I9.pin (s2.heap.objs.size,yc its k) (List.mem_append_right _ (List.mem_append_left _ List.mem_cons_self))).2.1
    have hl:its.length=ys.length:=rv5.length.symm
    refine Qq (Y:=yV X scope (zX own caps) HD.objs.size s2 H2 fp) (its:=its) (k:=k) (pl:=qA fp s7.heap) I9 (statD pD9) rfl (by omega) λh' k' tk keep I'=>?_
    refine ⟨m',hm',i + 1,ys++[y],σ8,H9,its++[yv],k',I',?_,λb hb=>?_,rv5.append (.cons r9 .nil),?_,w9⟩
    ·refine T.keep _ _ _ st7 λb hb o eb=>keep b o (uY b hb) ?_
     exact (I9.pin (b,o) (List.mem_append_right _ (List.mem_append_right _ (uw hb eb)))).1
    ·obtain ⟨o,eb,_⟩:=T.obj _ _ st7 b hb
     exact (I9.pin (b,o) (List.mem_append_right _ (List.mem_append_right _ (uw hb eb)))).2.1
    ·rw [List.length_append,List.length_singleton]
     omega
 exact codeAny_compStart_list (loop _ rfl) (T.self _ 0 _ _ _ (T.keep _ _ _ st2 λb hb o eb=>old b o eb) (loop _ rfl))
theorem zKc {i:Nat} {y:Str} {py spos:Pos} (hN:X.N.Nodup) (hy:X.N[i]? = some y) (hl:X.env.scope.names.lookup y=some .local) (B:vW X scope own caps) (hc:X.calm=true) (hi:PI X tg iter wi) (hg:∀ C s₀ H₀ ex,PG (yV X scope (zX own caps) C s₀ H₀ ex) tg g)
  (ht:∀ C s₀ H₀ ex,PT (yV X scope (zX own caps) C s₀ H₀ ex) cond tc) (he:∀ C s₀ H₀ ex,PE (yV X scope (zX own caps) C s₀ H₀ ex) elt te) (hsw:swapsWith (.ListComp elt [⟨tg,iter,[cond],0⟩] scope pos) (some (.Name y py)) spos.line X.env=pure true) (hs:∀ x,foldedSetIterable iter X.env x=pure x:=by intro _; rfl) :
  PS X (.Assign [.Name y py] (.ListComp elt [⟨tg,iter,[cond],0⟩] scope pos) spos) (vR (zO7 own caps wi g tc te) (qx i)):=by
 intro pins s σ H D0 I h
 rw [exec_Assign_Name_used _ _ _ _ hsw]
 refine wpAny_bind (wpAny_standAt (wpAny_bind ?_))
 change wpAny _ X.A (do let _ <- comprehension (.ListComp elt [⟨tg,iter,[cond],0⟩] scope pos) scope X.env _ (newList []) false (eval iter X.env) (some (assign (.Name y py) X.env))) _ _ s
 refine wpAny_bind (wpAny_mono (wpAny_comprehension_free (use:=some (assign (.Name y py) X.env)) (Q:=λ_ s'=>SP X pins D0 .next s') rfl hs (WR B.free) B.kind B.locs ?_) (λ_ s' hq=>wpAny_pure (wpAny_pure hq)) λ_ _ e=>e)
 refine ze (hi pins s σ H _ I h) λxv s1 h1=>ze h1 λitv s2 h2=>?_
 obtain ⟨it,fp,tn,J,H2,e,I2,T,st2,f2,W,⟨m0,w0⟩,turn⟩:=h2
 subst e
 refine zIU (Q:=λx H1=>D0.nx (σ.set i (some x)) H1) (RR:=λacc C=>compPost (model X.prog X.w) X.A X.xe (some (assign (.Name y py) X.env)) (λ_ s'=>SP X pins D0 .next s') acc C) B hc hg ht he I2 T st2 f2 w0 turn λD C s6 H6 ys m hn hC J6 hC6 q=>?_
 have I6:zG X pins σ (zZ H6 D (.lst ys)) s6:=J6 s6.heap (.refl ..)
 have CL:C≠X.env.locals:=λz=>by rw [z] at hC; exact absurd (Nat.lt_of_lt_of_le I2.lt hC) (Nat.lt_irrefl _)
 have CC:∀ x c,X.env.cells.lookup x=some c->c≠C:=λx c ec z=>by
  obtain ⟨v,o,ho,_⟩:=I2.cell x c ec
  rw [z] at ho
  exact absurd (Nat.lt_of_lt_of_le (Heap.lt_size ho) hC) (Nat.lt_irrefl _)
 have CP:∀ p∈X.pn++pins,p.1≠C:=λp hp z=>by
  have hl:=Heap.lt_size (I2.pin p hp).1
  rw [z] at hl
  exact absurd (Nat.lt_of_lt_of_le hl hC) (Nat.lt_irrefl _)
 change wpAny _ X.A (assign (.Name y py) X.env (.ref D)) _ _ s6
 refine wpAny_assign_Name (Xu I6 hN hy (.inl hl) (v:=.ref D) rfl (λs7 I7 ⟨a,sb,ha⟩=>?_) (.inr hl))
 have aC:C≠a:=λz=>by
  rcases ha with e | e
  ·exact CL (z.trans e)
  ·exact CC _ _ e z.symm
 refine ⟨m,hn.sameBut sb aC,λh' sb'=>⟨_,_,I7.turned (h':=h') (t':=s7.toks) (it:=C) (λb o hb eb=>sb'.extBut b o hb eb) hC6 CL (.inr (Nat.le_trans I2.sz hC)) CC CP,q⟩⟩
end
theorem yF {X:Cx} {scope S:Scope} {own N:List Str} {caps:List (Nat × Str)} (k:scope.kind=.function) (nd:(scope.names.map (·.1)).Nodup)
  (hS:X.env.scope=S) (hc:∃ n,X.env.cells=cellsFrom n S.names []) (hN:X.N=N) (fr:scope.names.all (λy=>y.2 != .free || S.names.lookup y.1 == some .cell)=true)
  (cp:caps.all (λp=>N[p.1]? == some p.2 && scope.names.lookup p.2 == some .free && S.names.lookup p.2 == some .cell)=true):vW X scope own caps:=by
 obtain ⟨nn,hc⟩:=hc
 refine ⟨k,nd,λy hy e=>?_,λy hy e=>?_,λp hp=>?_⟩
 ·exact qI nd (by rw [<- e]; exact hy)
 ·have q:=List.all_eq_true.mp fr y hy
  rw [e] at q
  have q2:S.names.lookup y.1=some .cell:=by simpa using q
  rw [hc]
  exact PySem.W.cellsFrom_some S.names nn [] (.inl q2)
 ·have q:=List.all_eq_true.mp cp p hp
  simp only [Bool.and_eq_true,beq_iff_eq] at q
  refine ⟨by rw [hN]; exact q.1.1,q.1.2,.inl ?_⟩
  show X.env.scope.names.lookup p.2=some .cell
  rw [hS]
  exact q.2
theorem YO {Y:Cx} {scope S:Scope} {own own0:List Str} {caps caps0:List (Nat × Str)} {C:Addr} {s₀:Shared} {H₀:Hp} {ex:List Addr} (k:scope.kind=.function) (nd:(scope.names.map (·.1)).Nodup)
  (ndS:(S.names.map (·.1)).Nodup) (fr:scope.names.all (λy=>y.2 != .free || S.names.lookup y.1 == some .cell || S.names.lookup y.1 == some .free)=true)
  (cp:caps.all (λp=>(zX own0 caps0)[p.1]? == some p.2 && scope.names.lookup p.2 == some .free)=true):vW (yV Y S (zX own0 caps0) C s₀ H₀ ex) scope own caps:=by
 have fr':∀ y∈scope.names,y.2=.free->S.names.lookup y.1=some .cell\/S.names.lookup y.1=some .free:=λy hy e=>by
  have q:=List.all_eq_true.mp fr y hy
  rw [e] at q
  simpa using q
 refine ⟨k,nd,λy hy e=>?_,λy hy e=>?_,λp hp=>?_⟩
 ·exact qI nd (by rw [<- e]; exact hy)
 ·show ((cellsFrom (C + 1) S.names (wG S Y.env)).lookup y.1).isSome=true
  refine PySem.W.cellsFrom_some _ _ _ ?_
  rcases fr' y hy e with z | z
  ·exact .inl z
  ·obtain ⟨c,e⟩:=WS (env:=Y.env) (qE z)
   exact .inr (by rw [e]; rfl)
 ·have q:=List.all_eq_true.mp cp p hp
  simp only [Bool.and_eq_true,beq_iff_eq] at q
  refine ⟨q.1,q.2,?_⟩
  show (relabel S Y.env).names.lookup p.2=some .cell\/(relabel S Y.env).names.lookup p.2=some .free
  rw [Qn]
  rcases fr' _ (qE q.2) rfl with z | z
  ·left
   show (S.names.lookup p.2).map _=_
   rw [z]
   rfl
  ·show (S.names.lookup p.2).map _=_\/(S.names.lookup p.2).map _=_
   rw [z,Option.map_some]
   split
   ·exact .inl rfl
   ·exact .inr rfl
end L2
namespace Sh
open PySem L2
theorem xV {H:Hp} {p:Addr} (h:H p=none) (o:HO):zF H (zZ H p o):=λb u q=>by rw [zt (wR q h)]; exact q
def Tp (H:Hp) (v:V) (xs:List V):Prop:=∃ a,v=.ref a/\H a=some (.tup xs)
theorem jX {α β:Type} {R:α->β->Prop} {x:α} {y:β} (r:R x y):∀ {xs:List α} {ys:List β},Paired R xs ys->Paired R (xs++[x]) (ys++[y])
 | _,_,.nil=>.cons r .nil
 | _,_,.cons q t=>.cons q (jX r t)
theorem qK {α β:Type} {R:α->β->Prop}:∀ {xs zs:List α} {ys us:List β},Paired R xs ys->Paired R zs us->Paired R (xs++zs) (ys++us)
 | _,_,_,_,.nil,h=>h
 | _,_,_,_,.cons q t,h=>.cons q (qK t h)
theorem gU {α:Type} {l:List α} {i:Nat} {x:α} (h:l[i]? = some x):l.take (i + 1)=l.take i++[x]:=by
 obtain ⟨hi,e⟩:=List.getElem?_eq_some_iff.mp h
 rw [List.take_succ_eq_append_getElem hi,e]
abbrev gW (H:Hp) (vs:List V) (ks:List (List Int)):Prop:=Paired (λv (k:List Int)=>Tp H v (k.map V.int)) vs ks
end Sh
namespace L2
open PySem PySem.Spec PyProof.Rows
def gX (K:PySem.W.Frag) (a b:Addr):It:=
 ⟨λi H=>∃ xs ys x y,zb K H a xs/\zb K H b ys/\xs[i]? = some x/\ys[i]? = some y,
  λi H v H'=>∃ T x y,v=.ref T/\H T=none/\H'=zZ H T (.tup [x,y])/\(∀ xs,zb K H a xs->xs[i]? = some x)/\∀ ys,zb K H b ys->ys[i]? = some y,
  λi H=>∃ xs ys,zb K H a xs/\zb K H b ys/\i<=xs.length/\i<=ys.length/\(i=xs.length\/i=ys.length)⟩
theorem zJ8 {P:Program} {w:World} {K:PySem.W.Frag} {es:List Expr} {kk:Nat} {tp:Pos} {a b z TI TO i1 i2:Addr} (Z:Zp z TI TO i1 i2 [i1,a] [i2,b]) (na:a≠i1) (nb:b≠i2) :
  xT P w K (.Tuple es kk tp) (gX K a b) [z,TI,TO,i1,i2] z (λi h=>IsZip h z TI TO .none/\IsPair h TI (.ref i1) (.ref i2)/\(∃ x y,IsPair h TO x y)/\h.IsListIter i1 a i/\h.IsListIter i2 b i) where
 mem:=by simp
 obj:=λi h ⟨t1,t2,⟨x,y,t3⟩,t4,t5⟩ c hc=>by
  simp only [List.mem_cons,List.not_mem_nil,or_false] at hc
  rcases hc with rfl | rfl | rfl | rfl | rfl
  ·exact ⟨_,t1,vJ⟩
  ·exact ⟨_,t2,uz⟩
  ·exact ⟨_,t3,uz⟩
  ·obtain ⟨o,e,_,d⟩:=t4
   exact ⟨o,e,by rw [d]; exact vJ⟩
  ·obtain ⟨o,e,_,d⟩:=t5
   exact ⟨o,e,by rw [d]; exact vJ⟩
 keep:=λi h h' ⟨t1,t2,⟨x,y,t3⟩,t4,t5⟩ k=>⟨k z (by simp) _ t1,k TI (by simp) _ t2,⟨x,y,k TO (by simp) _ t3⟩,(by obtain ⟨o,e,r⟩:=t4; exact ⟨o,k i1 (by simp) o e,r⟩),(by obtain ⟨o,e,r⟩:=t5; exact ⟨o,k i2 (by simp) o e,r⟩)⟩
 item:=by
  intro X hP hw hK hc i pins s σ H E I hf ⟨t1,t2,⟨x0,y0,t3⟩,t4,t5⟩ hg
  subst hP hw hK
  obtain ⟨xs,ys,x,y,hq1,hq2,hx,hy⟩:=hg
  obtain ⟨its1,rv1,p1,_⟩:=I.list hq1
  obtain ⟨its2,rv2,p2,_⟩:=I.list hq2
  obtain ⟨u,hu,ru⟩:=rv1.get hx
  obtain ⟨v,hv,rv⟩:=rv2.get hy
  have hh:X.A.in1.handled=none:=I.ok.hd hc
  have l1:i < its1.toArray.size:=by rw [List.size_toArray]; exact (List.getElem?_eq_some_iff.mp hu).1
  have l2:i < its2.toArray.size:=by rw [List.size_toArray]; exact (List.getElem?_eq_some_iff.mp hv).1
  refine YJ (Draws.list hh i1 a na its1.toArray) (Draws.list hh i2 b nb its2.toArray) Z t1 t2 t3 ⟨t4,p1.isList⟩ ⟨t5,p2.isList⟩ l1 l2 ?_
  intro x' y' h1 tk px py z1 z2 z3 z4 z5 z6 keep
  have ex:x'=u:=by
   have q:its1.toArray[i]? = some x':=px
   simp only [List.getElem?_toArray] at q
   rw [hu] at q
   exact (Option.some.inj q).symm
  have ey:y'=v:=by
   have q:its2.toArray[i]? = some y':=py
   simp only [List.getElem?_toArray] at q
   rw [hv] at q
   exact (Option.some.inj q).symm
  subst ex ey
  refine ⟨_,rfl,wpAny_letOwnedTupleGo_zip (s:={ s with heap:=h1,toks:=tk }) z1 λh2 z7 sb=>?_⟩
  have zlt:z < s.heap.objs.size:=Heap.lt_size t1
  have keep2:∀ c o,c∉[z,TI,TO,i1,i2]->s.heap.get? c=some o->h2.get? c=some o:=λc o hc e=>by
   simp only [List.mem_cons,List.not_mem_nil,or_false,not_or] at hc
   exact sb.extBut c o hc.1 (keep c o hc.1 hc.2.2.1 hc.2.2.2.1 hc.2.2.2.2 e)
  have pT:IsPair h2 s.heap.objs.size x' y':=sb.extBut _ _ (Nat.ne_of_gt zlt) z6
  have I':=I.turnT (h':=h2) (tk:=tk) (ch:=[z,TI,TO,i1,i2]) (x:=x) (y:=y) hf keep2 (Nat.le_refl _) pT ru rv
  refine ⟨.ref s.heap.objs.size,_,I',rfl,⟨s.heap.objs.size,x,y,rfl,I.hok.fresh (Nat.le_refl _),rfl,λxs' q=>by rw [I.list_inj q hq1]; exact hx,λys' q=>by rw [I.list_inj q hq2]; exact hy⟩,
   ⟨z7,sb.extBut _ _ Z.a1 z2,⟨_,_,sb.extBut _ _ Z.a2 z3⟩,z4.1.extBut sb.extBut Z.a3,z5.1.extBut sb.extBut Z.a4⟩,λc hc=>?_⟩
  have:=(hf c hc).1
  rw [zt]
  ·exact this
  ·intro q
   obtain ⟨o,e,_⟩:∃ o,s.heap.get? c=some o/\True:=by
    simp only [List.mem_cons,List.not_mem_nil,or_false] at hc
    rcases hc with rfl | rfl | rfl | rfl | rfl
    ·exact ⟨_,t1,trivial⟩
    ·exact ⟨_,t2,trivial⟩
    ·exact ⟨_,t3,trivial⟩
    ·obtain ⟨o,e,_⟩:=t4; exact ⟨o,e,trivial⟩
    ·obtain ⟨o,e,_⟩:=t5; exact ⟨o,e,trivial⟩
   rw [q] at e
   exact absurd (Heap.lt_size e) (Nat.lt_irrefl _)
 done:=by
  intro X hP hw hK hc i pins s σ H E I hf ⟨t1,t2,⟨x0,y0,t3⟩,t4,t5⟩ hg
  subst hP hw hK
  obtain ⟨xs,ys,hq1,hq2,e1,e2,e3⟩:=hg
  obtain ⟨its1,rv1,p1,_⟩:=I.list hq1
  obtain ⟨its2,rv2,p2,_⟩:=I.list hq2
  have hh:X.A.in1.handled=none:=I.ok.hd hc
  have n1:its1.toArray.size=xs.length:=by rw [List.size_toArray]; exact rv1.length.symm
  have n2:its2.toArray.size=ys.length:=by rw [List.size_toArray]; exact rv2.length.symm
  refine YK (Draws.list hh i1 a na its1.toArray) (Draws.list hh i2 b nb its2.toArray) Z t1 t2 t3 ⟨t4,p1.isList⟩ ⟨t5,p2.isList⟩ (by omega) (by omega) (by omega) ?_
  intro h1 tk keep
  refine ⟨rfl,I.turnN (h':=h1) (tk:=tk) (ch:=[z,TI,TO,i1,i2]) hf λc o hc e=>?_⟩
  simp only [List.mem_cons,List.not_mem_nil,or_false,not_or] at hc
  exact keep c o hc.1 hc.2.2.1 hc.2.2.2.1 hc.2.2.2.2 e
 self:=λ_ _ _ _ _ st h=>wpAny_pyIter_zip st.1 h
section
variable {X:Cx} {es:List Expr} {kk:Nat} {tp:Pos}
end
end L2
namespace L2
open PySem PySem.Spec PyProof.Rows
section
variable {X:Cx}
def gY (K:PySem.W.Frag):R2:=λx y H Q=>∃ d e:PyData,Dp K H x d/\Dp K H y e/\d.canLay0=true/\e.canLay0=true/\d.depth<=60/\e.depth<=60/\Q (.bl (PyData.eqv d e)) H
theorem Qx (hu:X.A.units + 64 < cLine):yw X (compareOp .Eq) (gY X.K):=by
 intro pins s σ H x y v u Q I rx ry h
 obtain ⟨d,e,hx,hy,hc,hc',hd,hd',q⟩:=h
 obtain ⟨_,r1⟩:=hx.reads I rx
 obtain ⟨_,r2⟩:=hy.reads I ry
 exact SeqAt.compareEq_reads r1 r2 hc hc' (by omega) ⟨.bl _,H,I,rfl,q⟩
end
end L2
namespace Sh
open PySem L2
theorem Qy:∀ ns ms:List Int,PyData.eqvAll (ns.map PyData.int) (ms.map PyData.int)=decide (ns=ms)
 | [],[]=>by simp [PyData.eqvAll]
 | [],_ :: _=>by simp [PyData.eqvAll]
 | _ :: _,[]=>by simp [PyData.eqvAll]
 | a :: r,b :: t=>by
  have ih:=Qy r t
  simp only [List.map_cons,PyData.eqvAll,PyData.eqv,ih,List.cons.injEq]
  by_cases h1:a=b <;> by_cases h2:r=t <;> simp [h1,h2]
structure vC (ws:List Int) (n:Nat):Prop where
 len:ws.length=n
 bd:∀ w∈ws,Bd 1000 w
def vm (rows:List (List Int)) (nums:List Int) (j:Nat):Int:=((rows.zip nums).map λp=>p.1.getD j 0 * p.2).sum
def qL (rows:List (List Int)) (tw:List Int) (o:Int) (nums:List Int) (n:Nat):Bool:=
 if o=0 then ((List.range n).map (vm rows nums)).all (λx=>decide (x=0)) && decide (vm rows nums n < 0)
 else decide ((List.range n).map (vm rows nums)=(tw.take n).map (o * ·)) && decide (vm rows nums n<=o * tw.getD n 0)
def Qz (n:Nat) (c:Nat->Int) (r:List Int):Int:=((List.range n).map λi=>r.getD i 0 * c i).sum
end Sh
namespace L2
open PySem PySem.Spec PyProof.Rows
theorem Q3 {c x y:Addr} (h:c∉[x,y]):c≠x/\c≠y:=by
 simp only [List.mem_cons,List.not_mem_nil,or_false,not_or] at h
 exact h
section
variable {X:Cx} {es:List Expr} {kk:Nat} {tp:Pos}
end
end L2
namespace L2
open PySem PySem.Spec PyProof.Rows
section
variable {prog:Program} {w:World} {A:Around} {E:Value->Shared->Prop} {s:Shared}
theorem zJO {T nw ini:String} {B1 B2:Builtin} {xs:List Value} {kw:List (Str × Value)} {S:PySem.Spec} {Q R1:Value->Shared->Prop} (ft:TypeCalled T nw ini)
  (c1:checkTypeCall T ⟨xs,kw⟩=pure ()) (c2:checkBuiltinCall nw ⟨.type T :: xs,kw⟩=pure ())
  (e1:entryFor table nw=some B1) (e2:entryFor table ini=some B2) (m1:Meets (B1 ⟨.type T :: xs,kw⟩) S)
  (hS:S A.in1 (wants R1 E) s)
  (nxt:∀ o s1,R1 o s1->s1.TypeIs o T/\argsOk ini ⟨o :: xs,kw⟩/\∃ S2,Meets (B2 ⟨o :: xs,kw⟩) S2/\S2 A.in1 (wants (λr s2=>r=.none/\Q o s2) E) s1) :
  wpAny (model prog w) A (call (.type T) xs kw) Q E s:=by
 obtain ⟨c,tl,k1⟩:=ft.mro
 have k2:=ft.made
 have k3:=ft.sub
 have k4:=ft.notType
 have k5:=ft.canCreate
 refine wpAny_call (codeAny_of_tree ?_)
 show wpAny _ _ (callAny (.type T) _) _ _ _
 refine wpAny_pure ⟨Code.quiet_builtin _ (by decide +kernel),codeAny_builtin F.entry_type_call ?_⟩
 rw [Around.under_plain (weight_type_call_type T xs kw) (units_type_call_type T xs kw)]
 repeat (any_goals (first | assumption | wp_step))
 refine codeAny_mono (codeAny_call_builtin ft.plain e1 (wpAny_of_eq c2 (m1 prog w A.in1 _ s hS))) λr s1 z=>?_
 cases r with
 | error e=>exact z
 | ok fl=>
  cases fl with
  | ret o=>
   obtain ⟨hT,ok,S2,m2,z2⟩:=nxt _ _ z
   have l1:=ft.init.lookup
   have l2:=ft.init.bind o
   repeat (any_goals (first | assumption | wp_step))
   refine codeAny_mono (codeAny_call_builtin ft.init.plain e2 (ft.init.check _ _ _ _ _ _ _ _ hT ok (m2 prog w A.in1 _ s1 z2))) λr2 s2 y=>?_
   cases r2 with
   | error e=>exact y
   | ok fl2=>
    cases fl2 with
    | ret r=>
     obtain ⟨rfl,y⟩:=y
     repeat (any_goals (first | assumption | wp_step))
    | _=>exact y.elim
  | _=>exact z.elim
theorem zM0 {T nw:String} {o a:Value} {kw:List (Str × Value)} (h1:typeLookup (.type T) "__init__" = pure (some (.builtin "object.__init__")))
  (h2:Bind.madeBy (.type T)=pure (some nw)) (h3:(some nw != some "object.__new__")=true) :
  Meets (Builtin.«object.__init__» ⟨[o,a],kw⟩) (λ_ R s=>s.TypeIs o T/\R (.ok (.ret .none)) s):=by
 refine Meets.of_wp λprog w A R s z=>?_
 obtain ⟨hT,q⟩:=z
 repeat (any_goals (first | assumption | wp_step))
 exact ⟨_,rfl,q⟩
theorem zM1 (o a v:Value):argsOk "object.__init__" ⟨[o,a],[("start",v)]⟩:=by
 unfold argsOk
 rw [signature?_of (id:="object.__init__") (n:=['_','_','t','i','n','i','_','_'])
  (o:=['t','c','e','j','b','o']) (by kernel_rfl) F.owner_object]
 kernel_rfl
theorem zQT (a v:Value):checkTypeCall "enumerate" ⟨[a],[("start",v)]⟩=pure ():=by kernel_rfl
theorem zQV (a v:Value):checkBuiltinCall "enumerate.__new__" ⟨[.type "enumerate",a],[("start",v)]⟩=pure ():=by kernel_rfl
end
open AutoSeq1 in
theorem zIJ (l:Addr) (its:Array Value) (m:Nat) (dct:Option Addr) (sl:Array (Option Value)) (n:Int) (tn:Tok) (fit:Builtin.SmallTypes.fitsIndex n=true) :
  Meets (Builtin.«enumerate.__new__» ⟨[.type "enumerate",.ref l],[("start",.int n tn)]⟩) (λ_ R s=>s.heap.get? l=some { cls:=.type "list",dict:=dct,data:=.seq its m,slots:=sl }∧
   R (.ok (.ret (.ref (s.heap.push { cls:=.type "list_iterator",data:=.fields #[.ref l,.int 0 0] }).objs.size)))
    { s with heap:=(s.heap.push { cls:=.type "list_iterator",data:=.fields #[.ref l,.int 0 0] }).push { cls:=.type "enumerate",data:=.fields #[.none,.bool false,.ref s.heap.objs.size,rawInt n,.none,.none] } }):=
 .of_wp λprog w A R s z=>by
  obtain ⟨hp,g,d,tk,os⟩:=s
  obtain ⟨e1,z⟩:=z
  have k0:=sub_enumerate
  have k1:Heap.IsList (Shared.heap ⟨hp,g,d,tk,os⟩) l its:=⟨_,e1,rfl,m,rfl⟩
  wp_walk using wpAny_loadPart' e1
  refine wpAny_stack_any λst=>wpAny_pure ?_
  split
  ·rename_i c _ _ _ _ _
   cases (c == Value.type "enumerate")
   ·wp_walk using wpAny_loadPart' e1,wpAny_pyIter_list k1
    simp only [fit,Bool.not_true,Bool.false_eq_true,if_false]
    wp_walk using wpAny_loadPart' e1,wpAny_pyIter_list k1
    exact ⟨_,rfl,z⟩
   ·wp_walk using wpAny_loadPart' e1,wpAny_pyIter_list k1
    simp only [fit,Bool.not_true,Bool.false_eq_true,if_false]
    wp_walk using wpAny_loadPart' e1,wpAny_pyIter_list k1
    exact ⟨_,rfl,z⟩
  ·wp_walk using wpAny_loadPart' e1,wpAny_pyIter_list k1
   simp only [fit,Bool.not_true,Bool.false_eq_true,if_false]
   wp_walk using wpAny_loadPart' e1,wpAny_pyIter_list k1
   exact ⟨_,rfl,z⟩
section
variable {prog:Program} {w:World} {A:Around} {E:Value->Shared->Prop} {s:Shared}
theorem zJ0 {l:Addr} {its:Array Value} {n:Int} {tn:Tok} {Q:Value->Shared->Prop} (hL:s.heap.IsList l its) (fit:Builtin.SmallTypes.fitsIndex n=true)
  (k:∀ g,IsEnum g (s.heap.objs.size + 1) s.heap.objs.size n .none->g.IsListIter s.heap.objs.size l 0->
   (∀ b o,s.heap.get? b=some o->g.get? b=some o)->Q (.ref (s.heap.objs.size + 1)) { s with heap:=g }) :
  wpAny (model prog w) A (call (.type "enumerate") [.ref l] [("start",.int n tn)]) Q E s:=by
 obtain ⟨⟨c,dc,dt,sl⟩,el,ec,m,ed⟩:=hL
 replace ec:c=.type "list":=ec
 replace ed:dt=.seq its m:=ed
 subst ec ed
 refine zJO (R1:=λo s1=>s1.TypeIs o "enumerate"/\Q o s1) F.called_enumerate (zQT _ _) (zQV _ _) F.entry_enumerate_new F.entry_object_init
  (zIJ l its m dc sl n tn fit) ⟨el,?_⟩ (λo s1 q=>⟨q.1,zM1 o _ _,_,zM0 F.called_enumerate.init.lookup F.called_enumerate.made (by decide),q.1,rfl,q.2⟩)
 have sz:(s.heap.push { cls:=.type "list_iterator",data:=.fields #[.ref l,.int 0 0] }).objs.size=s.heap.objs.size + 1:=
  Heap.size_push ..
 show _/\_
 rw [sz]
 have ee:IsEnum ((s.heap.push { cls:=.type "list_iterator",data:=.fields #[.ref l,.int 0 0] }).push
   { cls:=.type "enumerate",data:=.fields #[.none,.bool false,.ref s.heap.objs.size,rawInt n,.none,.none] }) (s.heap.objs.size + 1) s.heap.objs.size n .none:=by
  have y:=Heap.get?_push_size (s.heap.push { cls:=.type "list_iterator",data:=.fields #[.ref l,.int 0 0] })
   (o:={ cls:=.type "enumerate",data:=.fields #[.none,.bool false,.ref s.heap.objs.size,rawInt n,.none,.none] }) rfl
  rw [sz] at y
  exact y
 exact ⟨⟨_,ee,rfl⟩,k _ ee ⟨_,Heap.get?_push_of_some _ (Heap.get?_push_size _ rfl),rfl,rfl⟩ λb o x=>Heap.get?_push_of_some _ (Heap.get?_push_of_some _ x)⟩
theorem Q4 {it l:Addr} {its:Array Value} (k:Nat) (hh:A.handled=none) (ne:l≠it) :
  Draws prog w A it [it,l] (k + its.size) (λj x=>its[j - k]? = some x) (λj h=>k<=j/\h.IsListIter it l (j - k)/\h.IsList l its) where
 live:=λj h ⟨_,⟨o,e,_⟩,_⟩=>⟨o,e⟩
 frame:=λj h h' ⟨a,⟨o,e,r⟩,⟨o2,e2,r2⟩⟩ kp=>⟨a,⟨o,kp it (by simp) o e,r⟩,⟨o2,kp l (by simp) o2 e2,r2⟩⟩
 item:=λj s Q E lt ⟨le,hi,hl⟩ kQ=>by
  have jl:j - k < its.size:=by omega
  refine wpAny_nextOf_list_item hi hl (x:=its[j - k]) (by simp [jl]) λg gi same=>?_
  refine kQ _ g s.toks (by simp [jl]) ⟨by omega,?_,hl.extBut same.extBut ne⟩ same
  rw [show j + 1 - k=j - k + 1 by omega]
  exact gi
 done:=λs Q E ⟨le,hi,hl⟩ kE=>wpAny_nextOf_list_end hh hi hl (by simp) kE
end
section
variable {M:Model} {A:Around} {E:Value->Shared->Prop} {s:Shared}
theorem zOp {pos:Pos} {T:String} {x:Sem Value} {more:List (Bool × Sem Value)} {kws:List (Option Str × Sem Value)} {Q:Value->Shared->Prop}
  (p1:more.any (·.1)=false) (p2:kws.any (·.1.isNone)=false) (p3:kws.all (·.1.isSome)=true)
  (h:wpAny M A (spliced ((false,x) :: more)) (λvs s1=>wpAny M A (evalAll (kws.map (·.2))) (λks s2=>wpAny M A (call (.type T) vs ((kws.filterMap (·.1)).zip ks)) Q E s2) E s1) E s) :
  wpAny M A (callWith pos (.type T) [] ((false,x) :: more) kws) Q E s:=by
 unfold callWith
 refine wpAny_bind (wpAny_holding (wpAny_mono (evalArgs_kwB (f:=.type T) (Q:=λa s1=>wpAny M A (call (.type T) a.pos a.kw) Q E s1) p3 h) (λa s1 q=>wpAny_bind (wpAny_standAt ?_)) λ_ _ z=>z))
 have e:(((false,x) :: more).any (·.1))=false:=by
  show (false || more.any (·.1))=false
  rw [p1]
  rfl
 simp only [e,p2,Bool.or_false]
 refine wpAny_bind (wpAny_pure ?_)
 exact wpAny_bind (wpAny_mono q (λr s2 y=>wpAny_bind (wpAny_holding (wpAny_point (wpAny_pure y)))) λ_ _ z=>z)
end
def jY (K:PySem.W.Frag) (a:Addr) (k:Nat):It:=
 ⟨λi H=>∃ xs x,zb K H a xs/\xs[i]? = some x,
  λi H v H'=>∃ T x,v=.ref T/\H T=none/\H'=zZ H T (.tup [.int ((k + i:Nat):Int),x])/\∀ xs,zb K H a xs->xs[i]? = some x,
  λi H=>∃ xs,zb K H a xs/\i=xs.length⟩
theorem zJT {P:Program} {w:World} {K:PySem.W.Frag} {es:List Expr} {kk:Nat} {tp:Pos} {a e it:Addr} {k:Nat} (ne:e≠it) (nl:a≠it) :
  xT P w K (.Tuple es kk tp) (jY K a k) [e,it] e (λi h=>(∃ old,IsEnum h e it ((k + i:Nat):Int) old)/\h.IsListIter it a i) where
 mem:=by simp
 obj:=λi h ⟨⟨old,t1⟩,t2⟩ c hc=>by
  simp only [List.mem_cons,List.not_mem_nil,or_false] at hc
  rcases hc with rfl | rfl
  ·exact ⟨_,t1,vJ⟩
  ·obtain ⟨o,e,_,d⟩:=t2
   exact ⟨o,e,by rw [d]; exact vJ⟩
 keep:=λi h h' ⟨⟨old,t1⟩,t2⟩ z=>⟨⟨old,z e (by simp) _ t1⟩,(by obtain ⟨o,q,r⟩:=t2; exact ⟨o,z it (by simp) o q,r⟩)⟩
 item:=by
  intro X hP hw hK hc i pins s σ H E I hf ⟨⟨old,t1⟩,t2⟩ hg
  subst hP hw hK
  obtain ⟨xs,x,hq,hx⟩:=hg
  obtain ⟨its,rv,p,_⟩:=I.list hq
  obtain ⟨u,hu,ru⟩:=rv.get hx
  have li:i < its.length:=(List.getElem?_eq_some_iff.mp hu).1
  have nea:e≠a:=λz=>by
   obtain ⟨o,eo,cl,_⟩:=p.isList
   rw [z] at t1
   rw [t1] at eo
   cases eo
   have cl2:Value.type "enumerate" = Value.type "list":=cl
   exact absurd (Value.type.inj cl2) (by decide)
  have D:=Q4 (prog:=X.prog) (w:=X.w) (A:=X.A.in1) (it:=it) (l:=a) (its:=its.toArray) k (I.ok.hd hc) nl
  refine wpAny_pyNext_enum_itemD D (i:=k + i) t1 ⟨by omega,by rw [Nat.add_sub_cancel_left]; exact t2,p.isList⟩ (by simp; omega) ne (by simp [ne,nea]) ?_
  intro v h1 tk hv z1 z2 z3 z4 keep
  rw [Nat.add_sub_cancel_left] at hv
  have ev:v=u:=by
   have:its[i]? = some v:=by simpa using hv
   rw [hu] at this
   exact (Option.some.inj this).symm
  subst ev
  refine ⟨_,rfl,wpAny_letOwnedTupleGo_enum (s:={ s with heap:=h1,toks:=tk + 1 }) z1 λh2 z5 sb=>?_⟩
  have elt:e < s.heap.objs.size:=Heap.lt_size t1
  have keep2:∀ c o,c∉[e,it]->s.heap.get? c=some o->h2.get? c=some o:=λc o hc q=>by
   obtain ⟨c1,c2⟩:=Q3 hc
   exact sb.extBut c o c1 (keep c o c1 c2 q)
  have pT:IsPair h2 s.heap.objs.size (.int ((k + i:Nat):Int) tk) v:=sb.extBut _ _ (Nat.ne_of_gt elt) z3
  have I':=I.turnT (h':=h2) (tk:=tk + 1) (ch:=[e,it]) (x:=.int ((k + i:Nat):Int)) (y:=x) hf keep2 (Nat.le_refl _) pT ⟨_,rfl⟩ ru
  have z2':h1.IsListIter it a (i + 1):=by
   have:=z2.2.1
   rw [show k + i + 1 - k=i + 1 by omega] at this
   exact this
  refine ⟨.ref s.heap.objs.size,_,I',rfl,⟨s.heap.objs.size,x,rfl,I.hok.fresh (Nat.le_refl _),rfl,λxs' q=>by rw [I.list_inj q hq]; exact hx⟩,
   ⟨⟨v,by rw [show ((k + (i + 1):Nat):Int)=((k + i:Nat):Int) + 1 by omega]; exact z5⟩,z2'.extBut sb.extBut (Ne.symm ne)⟩,λc hc=>?_⟩
  have:=(hf c hc).1
  rw [zt]
  ·exact this
  ·intro q
   obtain ⟨o,e1⟩:∃ o,s.heap.get? c=some o:=by
    simp only [List.mem_cons,List.not_mem_nil,or_false] at hc
    rcases hc with rfl | rfl
    ·exact ⟨_,t1⟩
    ·obtain ⟨o,e1,_⟩:=t2; exact ⟨o,e1⟩
   rw [q] at e1
   exact absurd (Heap.lt_size e1) (Nat.lt_irrefl _)
 done:=by
  intro X hP hw hK hc i pins s σ H E I hf ⟨⟨old,t1⟩,t2⟩ hg
  subst hP hw hK
  obtain ⟨xs,hq,e1⟩:=hg
  obtain ⟨its,rv,p,_⟩:=I.list hq
  have n1:its.length=xs.length:=rv.length.symm
  have D:=Q4 (prog:=X.prog) (w:=X.w) (A:=X.A.in1) (it:=it) (l:=a) (its:=its.toArray) k (I.ok.hd hc) nl
  refine wpAny_pyNext_enum_endD D t1 ⟨by simp,by simp; rw [n1,<- e1]; exact t2,p.isList⟩ ?_
  intro h1 ext
  refine ⟨rfl,I.turnN (h':=h1) (tk:=s.toks) (ch:=[e,it]) hf λc o hc q=>?_⟩
  exact ext c o (Q3 hc).2 q
 self:=λ_ _ _ _ _ ⟨⟨_,st⟩,_⟩ h=>wpAny_pyIter_enum st h
section
variable {X:Cx} {es:List Expr} {kk:Nat} {tp:Pos}
def zQL (K:PySem.W.Frag) (ta:TA) (te:TE):TI:=λσ H R=>ta σ H λvs H1=>∃ a,vs=[.ref a]/\te σ H1 λv H2=>∃ k:Nat,v=.int (k:Int)/\Builtin.SmallTypes.fitsIndex (k:Int)=true/\(∃ xs,zb K H2 a xs)/\R (jY K a k) H2
theorem zMi {e1 e2:Expr} {ta:TA} {te:TE} {p pos kp:Pos} (hg:Gl X "enumerate") (hm:X.mg "enumerate" = none) (ha:PA X [e1] ta) (he:PE X e2 te) (hs:starEach [e1] X.env=[(false,eval e1 X.env)]:=by rfl) (hs2:starEach [] X.env=[]:=by rfl) :
  PI X (.Tuple es kk tp) (.Call (.Name "enumerate" p) [e1] [⟨some "start",e2,kp⟩] pos) (zQL X.K ta te):=by
 intro pins s σ H R I h
 refine wpAny_Call_Name_kw (j8 I hg hm (show bootBuiltins "enumerate" = some (.type "enumerate") by decide +kernel) ?_)
 have h1:=ha pos pins s σ H _ I h
 rw [hs] at h1 |-
 refine zOp (T:="enumerate") rfl rfl rfl (ze h1 λus s1 ⟨vs,H1,I1,r1,q1⟩=>?_)
 obtain ⟨a,e,q2⟩:=q1
 subst e
 obtain ⟨u,rfl,ru⟩:=uK r1
 cases ru
 refine kws_cons (ze (he pins s1 σ H1 _ I1 q2) λu2 s2 ⟨v,H2,I2,r2,q3⟩=>kws_nil ?_)
 obtain ⟨k,rfl,fit,⟨xs,hx⟩,q⟩:=q3
 obtain ⟨tk,rfl⟩:=r2
 obtain ⟨its,rv,p1,_⟩:=I2.list hx
 have la:a < s2.heap.objs.size:=by obtain ⟨o,n,e,_⟩:=p1; exact Heap.lt_size e
 refine zJ0 p1.isList fit λh' z1 z2 keep=>wpAny_pyIter_enum z1 ?_
 have I3:zG X pins σ H2 { s2 with heap:=h' }:=I2.kept (t':=s2.toks) keep
 refine ⟨s2.heap.objs.size + 1,[s2.heap.objs.size + 1,s2.heap.objs.size],_,_,H2,rfl,I3,zJT (a:=a) (k:=k) (Nat.succ_ne_self _) (Nat.ne_of_lt la),⟨⟨_,z1⟩,z2⟩,λc hc=>?_,q⟩
 have ge:s2.heap.objs.size<=c:=by
  simp only [List.mem_cons,List.not_mem_nil,or_false] at hc
  rcases hc with rfl | rfl
  ·exact Nat.le_add_right _ 1
  ·exact Nat.le_refl _
 exact I2.fpOk ge (I2.hok.fresh ge)
end
end L2
namespace Sh
open PySem L2
inductive Kd where
 | int | bool | non | str | lst | tup | dic
 deriving DecidableEq
def Kd.nm:Kd->String
 | .int=>"int" | .bool=>"bool" | .non=>"NoneType" | .str=>"str" | .lst=>"list" | .tup=>"tuple" | .dic=>"dict"
def Kd.whole:Kd->Bool
 | .int=>true
 | _=>false
def Kd.isInt:Kd->Bool
 | .int=>true
 | .bool=>true
 | _=>false
def Kd.isBool:Kd->Bool
 | .bool=>true
 | _=>false
def Kd.isTup:Kd->Bool
 | .tup=>true
 | _=>false
def Kd.isLst:Kd->Bool
 | .lst=>true
 | _=>false
section
variable (K:PySem.W.Frag)
theorem u3 (k:Kd):PySem.W.kitOne K (.type k.nm) (.type "int")=some k.isInt:=by
 cases k <;> first | rfl | decide +kernel | (unfold PySem.W.kitOne; rw [if_pos (by decide +kernel)]; rfl) | (unfold PySem.W.kitOne; rw [if_neg (by decide +kernel)]; rfl)
theorem u4 (k:Kd):PySem.W.kitOne K (.type k.nm) (.type "bool")=some k.isBool:=by
 cases k <;> first | rfl | decide +kernel | (unfold PySem.W.kitOne; rw [if_pos (by decide +kernel)]; rfl) | (unfold PySem.W.kitOne; rw [if_neg (by decide +kernel)]; rfl)
theorem u5 (k:Kd):PySem.W.kitOne K (.type k.nm) (.type "tuple")=some k.isTup:=by
 cases k <;> first | rfl | decide +kernel | (unfold PySem.W.kitOne; rw [if_pos (by decide +kernel)]; rfl) | (unfold PySem.W.kitOne; rw [if_neg (by decide +kernel)]; rfl)
theorem u6 (k:Kd):PySem.W.kitOne K (.type k.nm) (.type "list")=some k.isLst:=by
 cases k <;> first | rfl | decide +kernel | (unfold PySem.W.kitOne; rw [if_pos (by decide +kernel)]; rfl) | (unfold PySem.W.kitOne; rw [if_neg (by decide +kernel)]; rfl)
end
end Sh
namespace L2
open PySem PySem.Spec PyProof.Rows
section
variable {X:Cx}
end
end L2
namespace L2
open PySem PySem.Spec PyProof.Rows
structure zE (K:PySem.W.Frag) (mg:Str->Option Value) (x:Str) (C:Addr):Prop where
 cl:vy K C
 mgC:mg x=some (.ref C)
 ha:PySem.W.findIn K (.ref C) "__class__" = some (some (.builtin "object.__class__"))
 hn:PySem.W.specialIn K (.builtin "object.__class__") "__get__" = some (some (.builtin "getset_descriptor.__get__"))
 htk:PySem.W.takesIn K (.builtin "object.__class__")=some true
 hm:PySem.W.mroIn K C (.type "object")=some true
theorem zE.ty {K:PySem.W.Frag} {mg:Str->Option Value} {x:Str} {C a dx:Addr} {H:Hp} {fs:List (Str × V)} (T:zE K mg x C) (e:H a=some (.ins C dx fs)):yK K H (.ref a) (.ref C):=.ins e T.cl T.ha T.hn T.htk T.hm
structure v4 (P:Program) (w:World) (K:PySem.W.Frag) (mg:Str->Option Value) (base:Heap) (C:Addr) (m:Str) (ps:List Str) (k:Nat) (sp:Sp):Prop where
 ex:∃ f fd,zH P w K mg base zW k f fd ps sp/\jR K C m f/\w8 K fd ps []
structure uL (P:Program) (w:World) (K:PySem.W.Frag) (mg:Str->Option Value) (base:Heap) (C:Addr) (ps:List Str) (k:Nat) (sp:Sp):Prop where
 ex:∃ f fd,zH P w K mg base zW k f fd ps sp/\Mk K C f/\w8 K fd ps []
theorem v4.mono {P:Program} {w:World} {K:PySem.W.Frag} {mg:Str->Option Value} {base:Heap} {C:Addr} {m:Str} {ps:List Str} {j k:Nat} {sp:Sp} (F:v4 P w K mg base C m ps j sp) (h:j<=k:=by decide):v4 P w K mg base C m ps k sp:=by
 obtain ⟨f,fd,a,b,c⟩:=F.ex
 exact ⟨f,fd,a.mono h,b,c⟩
theorem uL.mono {P:Program} {w:World} {K:PySem.W.Frag} {mg:Str->Option Value} {base:Heap} {C:Addr} {ps:List Str} {j k:Nat} {sp:Sp} (F:uL P w K mg base C ps j sp) (h:j<=k:=by decide):uL P w K mg base C ps k sp:=by
 obtain ⟨f,fd,a,b,c⟩:=F.ex
 exact ⟨f,fd,a.mono h,b,c⟩
section
variable {X:Cx} {C:Addr} {m x:Str} {ps:List Str} {k:Nat} {sp:Sp} {o e:Expr} {es:List Expr} {ta:TE} {t:TA} {p pos apos:Pos} {dv:V}
theorem zKh {pl:Sem Bool} (F:v4 X.prog X.w X.K X.mg X.base C m ps k sp) (T:zE X.K X.mg x C) (hr:zh k X.A) (he:PE X o ta)
  (ht:eval (.Call (.Attribute o m apos) [] [] pos) X.env=(do
   let ov <- eval o X.env
   standAt apos.atName
   let (f,first) <- holding [ov] (getMethod ov m pl)
   callWith pos f first (backTo pos (starEach [] X.env)) (backToKw pos (keywordEach [] X.env))):=by rfl) :
  PE X (.Call (.Attribute o m apos) [] [] pos) (QG C m sp [] E0 ta vS):=by
 obtain ⟨f,fd,a,b,c⟩:=F.ex
 exact zMj he T.cl b a hr c .nil YB ht
theorem zMk (F:uL X.prog X.w X.K X.mg X.base C ps k sp) (T:zE X.K X.mg x C) (hr:zh (k + 1) X.A) (hg:Gl X x) (ha:PA X (e :: es) t)
  (hdb:(x == ("__debug__" : Str))=false:=by decide) (he:starEach (e :: es) X.env=(false,eval e X.env) :: starEach es X.env:=by rfl) (hpl:(backTo pos (starEach es X.env)).any (·.1)=false:=by rfl) :
  PE X (.Call (.Name x p) (e :: es) [] pos) (Z9 C sp [] E0 t):=by
 obtain ⟨f,fd,a,b,c⟩:=F.ex
 exact zOH b a hr hg T.mgC c .nil YB ha hdb he hpl
theorem gZ (T:zE X.K X.mg x C) (hg:Gl X x) (hd:(x == ("__debug__" : Str))=false:=by decide):PE X (.Name x pos) (tC (.ref C)):=Jo hg T.mgC rfl hd
def Q5 (K:PySem.W.Frag):List V->Hp->VK->Prop:=λxs H Q=>∃ x C t b,xs=[x,.ref C]/\yK K H x t/\PySem.W.kitOne K t (.ref C)=some b/\Q (.bl b) H
theorem ga:wz X (.builtin "isinstance") (Q5 X.K):=by
 intro pins s σ H xs us Q I r h
 obtain ⟨x,C,t,b,rfl,ty,e,q⟩:=h
 obtain ⟨u,v,rfl,ru,rv⟩:=Z7 r
 cases (show v=Value.ref C from rv)
 exact QE I ru ty e λtk=>⟨.bl b,H,I.tok tk,rfl,q⟩
end
end L2
namespace L2
open PySem PySem.Spec PyProof.Rows
section
variable {X:Cx} {pos:Pos}
end
end L2
namespace L2
open PySem PySem.Spec PyProof.Rows PySem.SeqAt
section
variable {X:Cx}
end
end L2
namespace L2
open PySem PySem.Spec PyProof.Rows
open PySem
abbrev YQ (h:Heap) (t:Addr):Heap:=h.push { cls:=.type "tuple_iterator",data:=.fields #[.ref t,.int 0 0] }
abbrev YR (h:Heap) (t l:Addr):Heap:=(YQ h t).push { cls:=.type "tuple_iterator",data:=.fields #[.ref l,.int 0 0] }
abbrev YS (h:Heap) (t l:Addr):Heap:=(YR h t l).push { cls:=.type "tuple",data:=.seq #[.ref h.objs.size,.ref (YQ h t).objs.size] }
abbrev YT (h:Heap) (t l:Addr):Heap:=(YS h t l).push { cls:=.type "tuple",data:=.seq #[.none,.none] }
abbrev qM (h:Heap) (t l:Addr):Heap:=(YT h t l).push { cls:=.type "zip",data:=.fields #[.none,.bool false,.bool false,.ref (YR h t l).objs.size,.ref (YS h t l).objs.size] }
theorem zJL (t l:Addr) (xs ys:Array Value) :
  Meets (Builtin.«zip.__new__» ⟨[.type "zip",.ref t,.ref l],[]⟩) (λ_ R s=>s.heap.IsTuple t xs/\s.heap.IsTuple l ys/\R (.ok (.ret (.ref (YT s.heap t l).objs.size))) { s with heap:=qM s.heap t l }):=
 .of_wp λprog w A R s h=>by
  obtain ⟨hp,g,d,tk,os⟩:=s; obtain ⟨h1,h2,h⟩:=h
  have hsub:=sub_zip
  have e1:Heap.IsTuple (Shared.heap ⟨hp,g,d,tk,os⟩) t xs:=h1
  have e2:Heap.IsTuple (Shared.heap ⟨hp.push { cls:=.type "tuple_iterator",data:=.fields #[.ref t,.int 0 0] },g,d,tk,os⟩) l ys:=(let ⟨o,e,r⟩:=h2; ⟨o,Heap.get?_push_of_some _ e,r⟩)
  wp_walk using wpAny_pyIter_tuple e1,wpAny_pyIter_tuple e2
  exact ⟨_,rfl,h⟩
theorem zIV {prog:Program} {w:World} {A:Around} {E:Value->Shared->Prop} {s:Shared} {t l:Addr} {xs ys:Array Value} {Q:Value->Shared->Prop} (h1:s.heap.IsTuple t xs) (h2:s.heap.IsTuple l ys)
  (h:∀ h',IsZip h' (s.heap.objs.size + 4) (s.heap.objs.size + 2) (s.heap.objs.size + 3) .none->IsPair h' (s.heap.objs.size + 2) (.ref s.heap.objs.size) (.ref (s.heap.objs.size + 1))->IsPair h' (s.heap.objs.size + 3) .none .none->
   h'.IsTupleIter s.heap.objs.size t 0->h'.IsTupleIter (s.heap.objs.size + 1) l 0->(∀ c o,s.heap.get? c=some o->h'.get? c=some o)->Q (.ref (s.heap.objs.size + 4)) { s with heap:=h' }) :
  wpAny (model prog w) A (call (.type "zip") [.ref t,.ref l]) Q E s:=by
 refine callType_new F.called_zip (by decide) (F.typeCall_zip_2 _ _) (F.newCall_zip_2 _ _) (λobj=>F.args_object_init_3 obj _ _) F.entry_zip_new (zJL t l xs ys) ⟨h1,h2,?_⟩
 have n1:(YQ s.heap t).objs.size=s.heap.objs.size + 1:=Heap.size_push ..
 have n2:(YR s.heap t l).objs.size=s.heap.objs.size + 2:=by rw [Heap.size_push,n1]
 have n3:(YS s.heap t l).objs.size=s.heap.objs.size + 3:=by rw [Heap.size_push,n2]
 have n4:(YT s.heap t l).objs.size=s.heap.objs.size + 4:=by rw [Heap.size_push,n3]
 have p5:(qM s.heap t l).get? (YT s.heap t l).objs.size=some _:=Heap.get?_push_size _ rfl
 have p4:(qM s.heap t l).get? (YS s.heap t l).objs.size=some _:=Heap.get?_push_of_some _ (Heap.get?_push_size _ rfl)
 have p3:(qM s.heap t l).get? (YR s.heap t l).objs.size=some _:=Heap.get?_push_of_some _ (Heap.get?_push_of_some _ (Heap.get?_push_size _ rfl))
 have p2:(qM s.heap t l).get? (YQ s.heap t).objs.size=some _:=Heap.get?_push_of_some _ (Heap.get?_push_of_some _ (Heap.get?_push_of_some _ (Heap.get?_push_size _ rfl)))
 have p1:(qM s.heap t l).get? s.heap.objs.size=some _:=Heap.get?_push_of_some _ (Heap.get?_push_of_some _ (Heap.get?_push_of_some _ (Heap.get?_push_of_some _ (Heap.get?_push_size _ rfl))))
 change _/\_
 rw [n2,n3,n4] at p5
 rw [n1,n2] at p3
 rw [n3] at p4
 rw [n1] at p2
 rw [n4]
 exact ⟨⟨_,p5,rfl⟩,h _ p5 p3 p4 ⟨_,p1,rfl,rfl⟩ ⟨_,p2,rfl,rfl⟩ λc o x=>Heap.get?_push_of_some _ (Heap.get?_push_of_some _ (Heap.get?_push_of_some _ (Heap.get?_push_of_some _ (Heap.get?_push_of_some _ x))))⟩
abbrev YU (h:Heap) (t:Addr):Heap:=h.push { cls:=.type "list_iterator",data:=.fields #[.ref t,.int 0 0] }
abbrev YV (h:Heap) (t l:Addr):Heap:=(YU h t).push { cls:=.type "tuple_iterator",data:=.fields #[.ref l,.int 0 0] }
abbrev YW (h:Heap) (t l:Addr):Heap:=(YV h t l).push { cls:=.type "tuple",data:=.seq #[.ref h.objs.size,.ref (YU h t).objs.size] }
abbrev YX (h:Heap) (t l:Addr):Heap:=(YW h t l).push { cls:=.type "tuple",data:=.seq #[.none,.none] }
abbrev qN (h:Heap) (t l:Addr):Heap:=(YX h t l).push { cls:=.type "zip",data:=.fields #[.none,.bool false,.bool false,.ref (YV h t l).objs.size,.ref (YW h t l).objs.size] }
theorem zJN (t l:Addr) (xs ys:Array Value) :
  Meets (Builtin.«zip.__new__» ⟨[.type "zip",.ref t,.ref l],[]⟩) (λ_ R s=>s.heap.IsList t xs/\s.heap.IsTuple l ys/\R (.ok (.ret (.ref (YX s.heap t l).objs.size))) { s with heap:=qN s.heap t l }):=
 .of_wp λprog w A R s h=>by
  obtain ⟨hp,g,d,tk,os⟩:=s; obtain ⟨h1,h2,h⟩:=h
  have hsub:=sub_zip
  have e1:Heap.IsList (Shared.heap ⟨hp,g,d,tk,os⟩) t xs:=h1
  have e2:Heap.IsTuple (Shared.heap ⟨hp.push { cls:=.type "list_iterator",data:=.fields #[.ref t,.int 0 0] },g,d,tk,os⟩) l ys:=(let ⟨o,e,r⟩:=h2; ⟨o,Heap.get?_push_of_some _ e,r⟩)
  wp_walk using wpAny_pyIter_list e1,wpAny_pyIter_tuple e2
  exact ⟨_,rfl,h⟩
theorem zIX {prog:Program} {w:World} {A:Around} {E:Value->Shared->Prop} {s:Shared} {t l:Addr} {xs ys:Array Value} {Q:Value->Shared->Prop} (h1:s.heap.IsList t xs) (h2:s.heap.IsTuple l ys)
  (h:∀ h',IsZip h' (s.heap.objs.size + 4) (s.heap.objs.size + 2) (s.heap.objs.size + 3) .none->IsPair h' (s.heap.objs.size + 2) (.ref s.heap.objs.size) (.ref (s.heap.objs.size + 1))->IsPair h' (s.heap.objs.size + 3) .none .none->
   h'.IsListIter s.heap.objs.size t 0->h'.IsTupleIter (s.heap.objs.size + 1) l 0->(∀ c o,s.heap.get? c=some o->h'.get? c=some o)->Q (.ref (s.heap.objs.size + 4)) { s with heap:=h' }) :
  wpAny (model prog w) A (call (.type "zip") [.ref t,.ref l]) Q E s:=by
 refine callType_new F.called_zip (by decide) (F.typeCall_zip_2 _ _) (F.newCall_zip_2 _ _) (λobj=>F.args_object_init_3 obj _ _) F.entry_zip_new (zJN t l xs ys) ⟨h1,h2,?_⟩
 have n1:(YU s.heap t).objs.size=s.heap.objs.size + 1:=Heap.size_push ..
 have n2:(YV s.heap t l).objs.size=s.heap.objs.size + 2:=by rw [Heap.size_push,n1]
 have n3:(YW s.heap t l).objs.size=s.heap.objs.size + 3:=by rw [Heap.size_push,n2]
 have n4:(YX s.heap t l).objs.size=s.heap.objs.size + 4:=by rw [Heap.size_push,n3]
 have p5:(qN s.heap t l).get? (YX s.heap t l).objs.size=some _:=Heap.get?_push_size _ rfl
 have p4:(qN s.heap t l).get? (YW s.heap t l).objs.size=some _:=Heap.get?_push_of_some _ (Heap.get?_push_size _ rfl)
 have p3:(qN s.heap t l).get? (YV s.heap t l).objs.size=some _:=Heap.get?_push_of_some _ (Heap.get?_push_of_some _ (Heap.get?_push_size _ rfl))
 have p2:(qN s.heap t l).get? (YU s.heap t).objs.size=some _:=Heap.get?_push_of_some _ (Heap.get?_push_of_some _ (Heap.get?_push_of_some _ (Heap.get?_push_size _ rfl)))
 have p1:(qN s.heap t l).get? s.heap.objs.size=some _:=Heap.get?_push_of_some _ (Heap.get?_push_of_some _ (Heap.get?_push_of_some _ (Heap.get?_push_of_some _ (Heap.get?_push_size _ rfl))))
 change _/\_
 rw [n2,n3,n4] at p5
 rw [n1,n2] at p3
 rw [n3] at p4
 rw [n1] at p2
 rw [n4]
 exact ⟨⟨_,p5,rfl⟩,h _ p5 p3 p4 ⟨_,p1,rfl,rfl⟩ ⟨_,p2,rfl,rfl⟩ λc o x=>Heap.get?_push_of_some _ (Heap.get?_push_of_some _ (Heap.get?_push_of_some _ (Heap.get?_push_of_some _ (Heap.get?_push_of_some _ x))))⟩
def Q6 (K:PySem.W.Frag) (a b:Addr):It:=
 ⟨λi H=>∃ xs ys x y,zo K H a xs/\zo K H b ys/\xs[i]? = some x/\ys[i]? = some y,
  λi H v H'=>∃ T x y,v=.ref T/\H T=none/\H'=zZ H T (.tup [x,y])/\(∀ xs,zo K H a xs->xs[i]? = some x)/\∀ ys,zo K H b ys->ys[i]? = some y,
  λi H=>∃ xs ys,zo K H a xs/\zo K H b ys/\i<=xs.length/\i<=ys.length/\(i=xs.length\/i=ys.length)⟩
theorem zJP {P:Program} {w:World} {K:PySem.W.Frag} {es:List Expr} {kk:Nat} {tp:Pos} {a b z TI TO i1 i2:Addr} (Z:Zp z TI TO i1 i2 [i1,a] [i2,b]) (na:a≠i1) (nb:b≠i2) :
  xT P w K (.Tuple es kk tp) (Q6 K a b) [z,TI,TO,i1,i2] z (λi h=>IsZip h z TI TO .none/\IsPair h TI (.ref i1) (.ref i2)/\(∃ x y,IsPair h TO x y)/\h.IsTupleIter i1 a i/\h.IsTupleIter i2 b i) where
 mem:=by simp
 obj:=λi h ⟨t1,t2,⟨x,y,t3⟩,t4,t5⟩ c hc=>by
  simp only [List.mem_cons,List.not_mem_nil,or_false] at hc
  rcases hc with rfl | rfl | rfl | rfl | rfl
  ·exact ⟨_,t1,vJ⟩
  ·exact ⟨_,t2,uz⟩
  ·exact ⟨_,t3,uz⟩
  ·obtain ⟨o,e,_,d⟩:=t4
   exact ⟨o,e,by rw [d]; exact vJ⟩
  ·obtain ⟨o,e,_,d⟩:=t5
   exact ⟨o,e,by rw [d]; exact vJ⟩
 keep:=λi h h' ⟨t1,t2,⟨x,y,t3⟩,t4,t5⟩ k=>⟨k z (by simp) _ t1,k TI (by simp) _ t2,⟨x,y,k TO (by simp) _ t3⟩,(by obtain ⟨o,e,r⟩:=t4; exact ⟨o,k i1 (by simp) o e,r⟩),(by obtain ⟨o,e,r⟩:=t5; exact ⟨o,k i2 (by simp) o e,r⟩)⟩
 item:=by
  intro X hP hw hK hc i pins s σ H E I hf ⟨t1,t2,⟨x0,y0,t3⟩,t4,t5⟩ hg
  subst hP hw hK
  obtain ⟨xs,ys,x,y,hq1,hq2,hx,hy⟩:=hg
  obtain ⟨its1,rv1,p1,_⟩:=I.tuple hq1
  obtain ⟨its2,rv2,p2,_⟩:=I.tuple hq2
  obtain ⟨u,hu,ru⟩:=rv1.get hx
  obtain ⟨v,hv,rv⟩:=rv2.get hy
  have hh:X.A.in1.handled=none:=I.ok.hd hc
  have l1:i < its1.toArray.size:=by rw [List.size_toArray]; exact (List.getElem?_eq_some_iff.mp hu).1
  have l2:i < its2.toArray.size:=by rw [List.size_toArray]; exact (List.getElem?_eq_some_iff.mp hv).1
  refine YJ (uy hh i1 a na its1.toArray) (uy hh i2 b nb its2.toArray) Z t1 t2 t3 ⟨t4,p1⟩ ⟨t5,p2⟩ l1 l2 ?_
  intro x' y' h1 tk px py z1 z2 z3 z4 z5 z6 keep
  have ex:x'=u:=by
   have q:its1.toArray[i]? = some x':=px
   simp only [List.getElem?_toArray] at q
   rw [hu] at q
   exact (Option.some.inj q).symm
  have ey:y'=v:=by
   have q:its2.toArray[i]? = some y':=py
   simp only [List.getElem?_toArray] at q
   rw [hv] at q
   exact (Option.some.inj q).symm
  subst ex ey
  refine ⟨_,rfl,wpAny_letOwnedTupleGo_zip (s:={ s with heap:=h1,toks:=tk }) z1 λh2 z7 sb=>?_⟩
  have zlt:z < s.heap.objs.size:=Heap.lt_size t1
  have keep2:∀ c o,c∉[z,TI,TO,i1,i2]->s.heap.get? c=some o->h2.get? c=some o:=λc o hc e=>by
   simp only [List.mem_cons,List.not_mem_nil,or_false,not_or] at hc
   exact sb.extBut c o hc.1 (keep c o hc.1 hc.2.2.1 hc.2.2.2.1 hc.2.2.2.2 e)
  have pT:IsPair h2 s.heap.objs.size x' y':=sb.extBut _ _ (Nat.ne_of_gt zlt) z6
  have I':=I.turnT (h':=h2) (tk:=tk) (ch:=[z,TI,TO,i1,i2]) (x:=x) (y:=y) hf keep2 (Nat.le_refl _) pT ru rv
  refine ⟨.ref s.heap.objs.size,_,I',rfl,⟨s.heap.objs.size,x,y,rfl,I.hok.fresh (Nat.le_refl _),rfl,λxs' q=>by rw [I.tuple_inj q hq1]; exact hx,λys' q=>by rw [I.tuple_inj q hq2]; exact hy⟩,
   ⟨z7,sb.extBut _ _ Z.a1 z2,⟨_,_,sb.extBut _ _ Z.a2 z3⟩,z4.1.extBut sb.extBut Z.a3,z5.1.extBut sb.extBut Z.a4⟩,λc hc=>?_⟩
  have:=(hf c hc).1
  rw [zt]
  ·exact this
  ·intro q
   obtain ⟨o,e,_⟩:∃ o,s.heap.get? c=some o/\True:=by
    simp only [List.mem_cons,List.not_mem_nil,or_false] at hc
    rcases hc with rfl | rfl | rfl | rfl | rfl
    ·exact ⟨_,t1,trivial⟩
    ·exact ⟨_,t2,trivial⟩
    ·exact ⟨_,t3,trivial⟩
    ·obtain ⟨o,e,_⟩:=t4; exact ⟨o,e,trivial⟩
    ·obtain ⟨o,e,_⟩:=t5; exact ⟨o,e,trivial⟩
   rw [q] at e
   exact absurd (Heap.lt_size e) (Nat.lt_irrefl _)
 done:=by
  intro X hP hw hK hc i pins s σ H E I hf ⟨t1,t2,⟨x0,y0,t3⟩,t4,t5⟩ hg
  subst hP hw hK
  obtain ⟨xs,ys,hq1,hq2,e1,e2,e3⟩:=hg
  obtain ⟨its1,rv1,p1,_⟩:=I.tuple hq1
  obtain ⟨its2,rv2,p2,_⟩:=I.tuple hq2
  have hh:X.A.in1.handled=none:=I.ok.hd hc
  have n1:its1.toArray.size=xs.length:=by rw [List.size_toArray]; exact rv1.length.symm
  have n2:its2.toArray.size=ys.length:=by rw [List.size_toArray]; exact rv2.length.symm
  refine YK (uy hh i1 a na its1.toArray) (uy hh i2 b nb its2.toArray) Z t1 t2 t3 ⟨t4,p1⟩ ⟨t5,p2⟩ (by omega) (by omega) (by omega) ?_
  intro h1 tk keep
  refine ⟨rfl,I.turnN (h':=h1) (tk:=tk) (ch:=[z,TI,TO,i1,i2]) hf λc o hc e=>?_⟩
  simp only [List.mem_cons,List.not_mem_nil,or_false,not_or] at hc
  exact keep c o hc.1 hc.2.2.1 hc.2.2.2.1 hc.2.2.2.2 e
 self:=λ_ _ _ _ _ st h=>wpAny_pyIter_zip st.1 h
def Q7 (K:PySem.W.Frag) (a b:Addr):It:=
 ⟨λi H=>∃ xs ys x y,zb K H a xs/\zo K H b ys/\xs[i]? = some x/\ys[i]? = some y,
  λi H v H'=>∃ T x y,v=.ref T/\H T=none/\H'=zZ H T (.tup [x,y])/\(∀ xs,zb K H a xs->xs[i]? = some x)/\∀ ys,zo K H b ys->ys[i]? = some y,
  λi H=>∃ xs ys,zb K H a xs/\zo K H b ys/\i<=xs.length/\i<=ys.length/\(i=xs.length\/i=ys.length)⟩
theorem zJQ {P:Program} {w:World} {K:PySem.W.Frag} {es:List Expr} {kk:Nat} {tp:Pos} {a b z TI TO i1 i2:Addr} (Z:Zp z TI TO i1 i2 [i1,a] [i2,b]) (na:a≠i1) (nb:b≠i2) :
  xT P w K (.Tuple es kk tp) (Q7 K a b) [z,TI,TO,i1,i2] z (λi h=>IsZip h z TI TO .none/\IsPair h TI (.ref i1) (.ref i2)/\(∃ x y,IsPair h TO x y)/\h.IsListIter i1 a i/\h.IsTupleIter i2 b i) where
 mem:=by simp
 obj:=λi h ⟨t1,t2,⟨x,y,t3⟩,t4,t5⟩ c hc=>by
  simp only [List.mem_cons,List.not_mem_nil,or_false] at hc
  rcases hc with rfl | rfl | rfl | rfl | rfl
  ·exact ⟨_,t1,vJ⟩
  ·exact ⟨_,t2,uz⟩
  ·exact ⟨_,t3,uz⟩
  ·obtain ⟨o,e,_,d⟩:=t4
   exact ⟨o,e,by rw [d]; exact vJ⟩
  ·obtain ⟨o,e,_,d⟩:=t5
   exact ⟨o,e,by rw [d]; exact vJ⟩
 keep:=λi h h' ⟨t1,t2,⟨x,y,t3⟩,t4,t5⟩ k=>⟨k z (by simp) _ t1,k TI (by simp) _ t2,⟨x,y,k TO (by simp) _ t3⟩,(by obtain ⟨o,e,r⟩:=t4; exact ⟨o,k i1 (by simp) o e,r⟩),(by obtain ⟨o,e,r⟩:=t5; exact ⟨o,k i2 (by simp) o e,r⟩)⟩
 item:=by
  intro X hP hw hK hc i pins s σ H E I hf ⟨t1,t2,⟨x0,y0,t3⟩,t4,t5⟩ hg
  subst hP hw hK
  obtain ⟨xs,ys,x,y,hq1,hq2,hx,hy⟩:=hg
  obtain ⟨its1,rv1,p1,_⟩:=I.list hq1
  obtain ⟨its2,rv2,p2,_⟩:=I.tuple hq2
  obtain ⟨u,hu,ru⟩:=rv1.get hx
  obtain ⟨v,hv,rv⟩:=rv2.get hy
  have hh:X.A.in1.handled=none:=I.ok.hd hc
  have l1:i < its1.toArray.size:=by rw [List.size_toArray]; exact (List.getElem?_eq_some_iff.mp hu).1
  have l2:i < its2.toArray.size:=by rw [List.size_toArray]; exact (List.getElem?_eq_some_iff.mp hv).1
  refine YJ (Draws.list hh i1 a na its1.toArray) (uy hh i2 b nb its2.toArray) Z t1 t2 t3 ⟨t4,p1.isList⟩ ⟨t5,p2⟩ l1 l2 ?_
  intro x' y' h1 tk px py z1 z2 z3 z4 z5 z6 keep
  have ex:x'=u:=by
   have q:its1.toArray[i]? = some x':=px
   simp only [List.getElem?_toArray] at q
   rw [hu] at q
   exact (Option.some.inj q).symm
  have ey:y'=v:=by
   have q:its2.toArray[i]? = some y':=py
   simp only [List.getElem?_toArray] at q
   rw [hv] at q
   exact (Option.some.inj q).symm
  subst ex ey
  refine ⟨_,rfl,wpAny_letOwnedTupleGo_zip (s:={ s with heap:=h1,toks:=tk }) z1 λh2 z7 sb=>?_⟩
  have zlt:z < s.heap.objs.size:=Heap.lt_size t1
  have keep2:∀ c o,c∉[z,TI,TO,i1,i2]->s.heap.get? c=some o->h2.get? c=some o:=λc o hc e=>by
   simp only [List.mem_cons,List.not_mem_nil,or_false,not_or] at hc
   exact sb.extBut c o hc.1 (keep c o hc.1 hc.2.2.1 hc.2.2.2.1 hc.2.2.2.2 e)
  have pT:IsPair h2 s.heap.objs.size x' y':=sb.extBut _ _ (Nat.ne_of_gt zlt) z6
  have I':=I.turnT (h':=h2) (tk:=tk) (ch:=[z,TI,TO,i1,i2]) (x:=x) (y:=y) hf keep2 (Nat.le_refl _) pT ru rv
  refine ⟨.ref s.heap.objs.size,_,I',rfl,⟨s.heap.objs.size,x,y,rfl,I.hok.fresh (Nat.le_refl _),rfl,λxs' q=>by rw [I.list_inj q hq1]; exact hx,λys' q=>by rw [I.tuple_inj q hq2]; exact hy⟩,
   ⟨z7,sb.extBut _ _ Z.a1 z2,⟨_,_,sb.extBut _ _ Z.a2 z3⟩,z4.1.extBut sb.extBut Z.a3,z5.1.extBut sb.extBut Z.a4⟩,λc hc=>?_⟩
  have:=(hf c hc).1
  rw [zt]
  ·exact this
  ·intro q
   obtain ⟨o,e,_⟩:∃ o,s.heap.get? c=some o/\True:=by
    simp only [List.mem_cons,List.not_mem_nil,or_false] at hc
    rcases hc with rfl | rfl | rfl | rfl | rfl
    ·exact ⟨_,t1,trivial⟩
    ·exact ⟨_,t2,trivial⟩
    ·exact ⟨_,t3,trivial⟩
    ·obtain ⟨o,e,_⟩:=t4; exact ⟨o,e,trivial⟩
    ·obtain ⟨o,e,_⟩:=t5; exact ⟨o,e,trivial⟩
   rw [q] at e
   exact absurd (Heap.lt_size e) (Nat.lt_irrefl _)
 done:=by
  intro X hP hw hK hc i pins s σ H E I hf ⟨t1,t2,⟨x0,y0,t3⟩,t4,t5⟩ hg
  subst hP hw hK
  obtain ⟨xs,ys,hq1,hq2,e1,e2,e3⟩:=hg
  obtain ⟨its1,rv1,p1,_⟩:=I.list hq1
  obtain ⟨its2,rv2,p2,_⟩:=I.tuple hq2
  have hh:X.A.in1.handled=none:=I.ok.hd hc
  have n1:its1.toArray.size=xs.length:=by rw [List.size_toArray]; exact rv1.length.symm
  have n2:its2.toArray.size=ys.length:=by rw [List.size_toArray]; exact rv2.length.symm
  refine YK (Draws.list hh i1 a na its1.toArray) (uy hh i2 b nb its2.toArray) Z t1 t2 t3 ⟨t4,p1.isList⟩ ⟨t5,p2⟩ (by omega) (by omega) (by omega) ?_
  intro h1 tk keep
  refine ⟨rfl,I.turnN (h':=h1) (tk:=tk) (ch:=[z,TI,TO,i1,i2]) hf λc o hc e=>?_⟩
  simp only [List.mem_cons,List.not_mem_nil,or_false,not_or] at hc
  exact keep c o hc.1 hc.2.2.1 hc.2.2.2.1 hc.2.2.2.2 e
 self:=λ_ _ _ _ _ st h=>wpAny_pyIter_zip st.1 h
def SqE (K:PySem.W.Frag) (H:Hp) (a:Addr) (xs:List V):Prop:=zo K H a xs\/zb K H a xs
section
variable {X:Cx} {es:List Expr} {kk:Nat} {tp:Pos}
theorem uW {pins:List (Addr × Obj)} {σ:St} {H:Hp} {s:Shared} (I:zG X pins σ H s) {c:Addr} (hc:c∈[s.heap.objs.size + 4,s.heap.objs.size + 2,s.heap.objs.size + 3,s.heap.objs.size,s.heap.objs.size + 1]):yP X pins H c:=by
 have ge:s.heap.objs.size<=c:=by
  simp only [List.mem_cons,List.not_mem_nil,or_false] at hc
  rcases hc with rfl | rfl | rfl | rfl | rfl
  ·exact Nat.le_add_right _ 4
  ·exact Nat.le_add_right _ 2
  ·exact Nat.le_add_right _ 3
  ·exact Nat.le_refl _
  ·exact Nat.le_add_right _ 1
 exact I.fpOk ge (I.hok.fresh ge)
def orZ (K:PySem.W.Frag) (H:Hp) (a b:Addr) (R:It->Hp->Prop):Prop:=
 ((∃ xs,zo K H a xs)/\(∃ ys,zb K H b ys)/\R (Qr K a b) H)\/((∃ xs,zb K H a xs)/\(∃ ys,zb K H b ys)/\R (gX K a b) H)\/((∃ xs,zo K H a xs)/\(∃ ys,zo K H b ys)/\R (Q6 K a b) H)\/((∃ xs,zb K H a xs)/\(∃ ys,zo K H b ys)/\R (Q7 K a b) H)
def gb (K:PySem.W.Frag) (ta:TA):TI:=λσ H R=>ta σ H λvs H1=>∃ a b,vs=[.ref a,.ref b]/\orZ K H1 a b R
theorem zOF {e1 e2:Expr} {ta:TA} {p pos:Pos} (hg:Gl X "zip") (hm:X.mg "zip" = none) (ha:PA X [e1,e2] ta) (hs:starEach [e1,e2] X.env=[(false,eval e1 X.env),(false,eval e2 X.env)]:=by rfl) (hs2:starEach [e2] X.env=[(false,eval e2 X.env)]:=by rfl) :
  PI X (.Tuple es kk tp) (.Call (.Name "zip" p) [e1,e2] [] pos) (gb X.K ta):=by
 intro pins s σ H R I h
 refine Call_ (j8 I hg hm (show bootBuiltins "zip" = some (.type "zip") by decide +kernel) (PyProof.Rows.callWith_type1 (ze (ha pos pins s σ H _ I h) λus s1 ⟨vs,H1,I1,r1,q1⟩=>?_) (by rw [hs,hs2]) (by rw [hs2]; rfl)))
 obtain ⟨a,b,e,q1⟩:=q1
 subst e
 obtain ⟨u,v,rfl,ru,rv⟩:=Z7 r1
 cases ru
 cases rv
 rcases q1 with ⟨⟨xs,hx⟩,⟨ys,hy⟩,q⟩ | ⟨⟨xs,hx⟩,⟨ys,hy⟩,q⟩ | ⟨⟨xs,hx⟩,⟨ys,hy⟩,q⟩ | ⟨⟨xs,hx⟩,⟨ys,hy⟩,q⟩
 ·obtain ⟨its1,rv1,p1,_⟩:=I1.tuple hx
  obtain ⟨its2,rv2,p2,_⟩:=I1.list hy
  have la:a < s1.heap.objs.size:=by obtain ⟨o,e,_⟩:=p1; exact Heap.lt_size e
  have lb:b < s1.heap.objs.size:=by obtain ⟨o,n,e,_⟩:=p2; exact Heap.lt_size e
  refine zIW p1 p2.isList λh' z1 z2 z3 z4 z5 keep=>wpAny_pyIter_zip z1 ?_
  have I2:zG X pins σ H1 { s1 with heap:=h' }:=I1.kept (t':=s1.toks) keep
  exact ⟨s1.heap.objs.size + 4,[s1.heap.objs.size + 4,s1.heap.objs.size + 2,s1.heap.objs.size + 3,s1.heap.objs.size,s1.heap.objs.size + 1],_,_,H1,rfl,I2,
   zMM (a:=a) (b:=b) (YL _ _ _ la lb) (Nat.ne_of_lt la) (Nat.ne_of_lt (Nat.lt_succ_of_lt lb)),⟨z1,z2,⟨_,_,z3⟩,z4,z5⟩,λc hc=>uW I1 hc,q⟩
 ·obtain ⟨its1,rv1,p1,_⟩:=I1.list hx
  obtain ⟨its2,rv2,p2,_⟩:=I1.list hy
  have la:a < s1.heap.objs.size:=by obtain ⟨o,n,e,_⟩:=p1; exact Heap.lt_size e
  have lb:b < s1.heap.objs.size:=by obtain ⟨o,n,e,_⟩:=p2; exact Heap.lt_size e
  refine call_zip_2 p1.isList p2.isList λh' z1 z2 z3 z4 z5 _ keep=>wpAny_pyIter_zip z1 ?_
  have I2:zG X pins σ H1 { s1 with heap:=h' }:=I1.kept (t':=s1.toks) keep
  exact ⟨s1.heap.objs.size + 4,[s1.heap.objs.size + 4,s1.heap.objs.size + 2,s1.heap.objs.size + 3,s1.heap.objs.size,s1.heap.objs.size + 1],_,_,H1,rfl,I2,
   zJ8 (a:=a) (b:=b) (YL _ _ _ la lb) (Nat.ne_of_lt la) (Nat.ne_of_lt (Nat.lt_succ_of_lt lb)),⟨z1,z2,⟨_,_,z3⟩,z4,z5⟩,λc hc=>uW I1 hc,q⟩
 ·obtain ⟨its1,rv1,p1,_⟩:=I1.tuple hx
  obtain ⟨its2,rv2,p2,_⟩:=I1.tuple hy
  have la:a < s1.heap.objs.size:=by obtain ⟨o,e,_⟩:=p1; exact Heap.lt_size e
  have lb:b < s1.heap.objs.size:=by obtain ⟨o,e,_⟩:=p2; exact Heap.lt_size e
  refine zIV p1 p2 λh' z1 z2 z3 z4 z5 keep=>wpAny_pyIter_zip z1 ?_
  have I2:zG X pins σ H1 { s1 with heap:=h' }:=I1.kept (t':=s1.toks) keep
  exact ⟨s1.heap.objs.size + 4,[s1.heap.objs.size + 4,s1.heap.objs.size + 2,s1.heap.objs.size + 3,s1.heap.objs.size,s1.heap.objs.size + 1],_,_,H1,rfl,I2,
   zJP (a:=a) (b:=b) (YL _ _ _ la lb) (Nat.ne_of_lt la) (Nat.ne_of_lt (Nat.lt_succ_of_lt lb)),⟨z1,z2,⟨_,_,z3⟩,z4,z5⟩,λc hc=>uW I1 hc,q⟩
 ·obtain ⟨its1,rv1,p1,_⟩:=I1.list hx
  obtain ⟨its2,rv2,p2,_⟩:=I1.tuple hy
  have la:a < s1.heap.objs.size:=by obtain ⟨o,n,e,_⟩:=p1; exact Heap.lt_size e
  have lb:b < s1.heap.objs.size:=by obtain ⟨o,e,_⟩:=p2; exact Heap.lt_size e
  refine zIX p1.isList p2 λh' z1 z2 z3 z4 z5 keep=>wpAny_pyIter_zip z1 ?_
  have I2:zG X pins σ H1 { s1 with heap:=h' }:=I1.kept (t':=s1.toks) keep
  exact ⟨s1.heap.objs.size + 4,[s1.heap.objs.size + 4,s1.heap.objs.size + 2,s1.heap.objs.size + 3,s1.heap.objs.size,s1.heap.objs.size + 1],_,_,H1,rfl,I2,
   zJQ (a:=a) (b:=b) (YL _ _ _ la lb) (Nat.ne_of_lt la) (Nat.ne_of_lt (Nat.lt_succ_of_lt lb)),⟨z1,z2,⟨_,_,z3⟩,z4,z5⟩,λc hc=>uW I1 hc,q⟩
def gc (K:PySem.W.Frag):R2:=λx y H Q=>∃ p xs i v,x=.ref p/\y=.int i/\SqE K H p xs/\yp xs i=some v/\Q v H
theorem zOY:YA X (gc X.K):=by
 intro value slice pins s σ H x y v u Q I rx ry h hs
 obtain ⟨p,xs,i,z,e1,e2,hq,he,q⟩:=h
 rcases hq with hq | hq
 ·exact zQG value slice pins s σ H x y v u Q I rx ry ⟨p,xs,i,z,e1,e2,hq,he,q⟩ hs
 ·exact QY value slice pins s σ H x y v u Q I rx ry ⟨p,xs,i,z,e1,e2,hq,he,q⟩ hs
end
section
variable {prog:Program} {w:World} {A:Around} {E:Value->Shared->Prop}
theorem Q8 {it l:Addr} {xs:Array Value} (ne:l≠it):∀ (m j:Nat) (s:Shared) (R:List Value->Shared->Prop),s.heap.IsListIter it l j->s.heap.IsList l xs->j + m<=xs.size->
  (∀ g,g.IsListIter it l (j + m)->Heap.SameBut it s.heap g->R ((xs.toList.drop j).take m) { s with heap:=g })->wpAny (model prog w) A (draw (.ref it) m) R E s
 | 0,j,s,R,hi,_,_,k=>wpAny_pure (by simpa using k s.heap hi (Heap.SameBut.refl ..))
 | m + 1,j,s,R,hi,hl,le,k=>by
  have lt:j < xs.size:=by omega
  have step:=λg (z:Heap.SameBut it s.heap g)=>(hl.extBut z.extBut ne:g.IsList l xs)
  show wpAny _ _ (pyNext (.ref it) >>= _) R E s
  refine wpAny_bind (wpAny_pyNext_list_item hi hl (x:=xs[j]) (by simp [lt]) λg1 i1 b1=>?_)
  refine wpAny_bind (wpAny_holding (Q8 ne m (j + 1) _ _ i1 (step g1 b1) (by omega) λg2 i2 b2=>wpAny_pure ?_))
  have z:=k g2 (by rw [show j + (m + 1)=j + 1 + m by omega]; exact i2) (b1.trans b2)
  rw [show xs.toList.drop j=xs[j] :: xs.toList.drop (j + 1) by simp [List.drop_eq_getElem_cons,lt],List.take_succ_cons] at z
  exact z
theorem zQH {s:Shared} {l:Addr} {xs:Array Value} {R:List Value->Shared->Prop} (hd:A.handled=none) (hl:s.heap.IsList l xs)
  (k:∀ g,Heap.ExtBut s.heap.objs.size s.heap g->R xs.toList { s with heap:=g }):wpAny (model prog w) A (unpackItems (.ref l) xs.size none) R E s:=by
 have ne:l≠s.heap.objs.size:=by
  obtain ⟨o,eo,_⟩:=hl
  exact Nat.ne_of_lt (Heap.lt_size eo)
 unfold unpackItems
 refine wpAny_bind ?_
 unfold notIterableAtAll
 refine wpAny_bind (wpAny_specialOf hl.typeIs slot_list_iter.lookup ?_)
 refine wpAny_pure ?_
 simp only [Bool.false_eq_true,if_false]
 refine wpAny_bind (wpAny_holding (wpAny_pyIter_list hl ?_))
 refine wpAny_bind (wpAny_holding (Q8 ne xs.size 0 _ _ ⟨_,Heap.get?_push_size _ rfl,rfl,rfl⟩ (hl.push _) (by omega) λg1 i1 b1=>?_))
 rw [show List.take xs.size (List.drop 0 xs.toList)=xs.toList by rw [List.drop_zero]; exact List.take_of_length_le (by simp),if_neg (by simp)]
 refine wpAny_bind (wpAny_holding (wpAny_pyNext_list_end hd i1 ((hl.push _).extBut b1.extBut ne) (by simp) λg2 x2=>?_))
 simp only [Option.isSome_none,Bool.false_eq_true,if_false]
 exact wpAny_pure (k g2 λc o n e=>x2 c o n (b1.extBut c o n (Heap.get?_push_of_some _ e)))
end
section
variable {X:Cx} {pos:Pos}
def WX (K:PySem.W.Frag) (n:Nat) (t:uU):TG:=λv σ H Q=>∃ a xs,v=.ref a/\zb K H a xs/\xs.length=n/\t xs σ H Q
theorem zPf {es:List Expr} {k:Nat} {t:uU} {n:Nat} (hc:X.calm=true) (h:j9 X es t)
  (hn:(assignEach es X.env).length=n:=by rfl) (hst:(assignEach es X.env).findIdx? (·.1)=none:=by rfl):PG X (.Tuple es k pos) (WX X.K n t):=by
 intro pins s σ H v u Q I r hw
 obtain ⟨a,xs,e1,hq,hl,hw⟩:=hw
 subst e1
 cases r
 obtain ⟨its,rv,ht,hz⟩:=I.list hq
 rw [assign_Tuple]
 refine wpAny_bind (wpAny_standAt ?_)
 unfold unpack
 rw [show (assignEach es X.env).length=its.toArray.size by simp [hn,<- hl,rv.length],hst]
 refine wpAny_bind (wpAny_holding (zQH (I.ok.hd hc) ht.isList λg hx=>?_))
 have I1:zG X pins σ H { s with heap:=g }:=I.kept (t':=s.toks) λb o e=>hx b o (Nat.ne_of_lt (Heap.lt_size e)) e
 exact h pins _ σ H xs _ Q I1 (by simpa using rv) hw
end
end L2
namespace L2
open PySem PySem.Spec PyProof.Rows
inductive v5 (i:Nat) (σ:St) (H:Hp) (Q:VK):Prop
 | mk (v:V) (_:σ[i]? = some (some v)) (_:Q v H):v5 i σ H Q
inductive jZ (x:V) (vs:List V) (H:Hp) (Q:VK):Prop
 | mk (l:Addr) (xs:List V) (y:V) (_:x=.ref l) (_:vs=[y]) (_:H l=some (.lst xs)) (_:xs.length < sizeLine) (_:Q .non (zZ H l (.lst (xs++[y])))):jZ x vs H Q
inductive ja (o i v:V) (H:Hp) (Q:Hp->Prop):Prop
 | mk (p:Addr) (xs:List V) (k:Int) (j:Nat) (_:o=.ref p) (_:i=.int k) (_:H p=some (.lst xs)) (_:wl xs.length k=some j) (_:Q (zZ H p (.lst (xs.set j v)))):ja o i v H Q
section
variable {X:Cx}
theorem yL:Qc X "list.append" jZ:=λpins s σ H x xs v us Q I rx rv ⟨l,ys,y,h1,h2,h3,h4,q⟩=>zK5 pins s σ H x xs v us Q I rx rv ⟨l,ys,y,h1,h2,h3,h4,q⟩
theorem WY:jO X ja:=λpins s σ H o i v ov iv u Q I h1 h2 h3 ⟨p,xs,k,j,a,b,c,d,q⟩=>zMS pins s σ H o i v ov iv u Q I h1 h2 h3 ⟨p,xs,k,j,a,b,c,d,q⟩
theorem yJ (i:Nat) {x:Str} {pos:Pos} (hN:X.N[i]? = some x:=by rfl) (hv:jM X.env.scope x:=by first | exact Or.inl rfl | exact Or.inr (Or.inl rfl) | exact Or.inr (Or.inr rfl)) (hd:(x == ("__debug__" : Str))=false:=by decide)
  (hcd:(x == ("__classdict__" : Str))=false:=by decide):PE X (.Name x pos) (v5 i):=λpins s σ H Q I ⟨v,e,h⟩=>Xv hN hv hd hcd pins s σ H Q I ⟨v,e,h⟩
end
end L2
namespace Sh
open PySem L2
def WZ (H:Hp) (v:V) (r:List Int):Prop:=∃ a,v=.ref a/\H a=some (.lst (r.map V.int))
abbrev gd (H:Hp) (vs:List V) (tab:List (List Int)):Prop:=Paired (WZ H) vs tab
def Q9 (p:Addr) (H H':Hp):Prop:=∀ b o,H b=some o->b≠p->H' b=some o
structure MD where
 rows:List (List Int)
 nexts:List (List Int)
 steer:List Int
 push:List (List Int)
 add:List Int
 div:Int
structure yj (m:MD) (n p:Nat):Prop where
 rows:∀ r∈m.rows,r.length=n + 1
 few:m.rows.length<=900
 nexts:m.nexts.length=n/\∀ r∈m.nexts,r.length=n
 steer:m.steer.length=n
 push:m.push.length=n/\∀ r∈m.push,r.length=p
 add:m.add.length=n
 div:1<=m.div
 n3:n<=3
 p6:p<=12
def gf (r n s p a:V) (d:Int):List (Str × V):=[("rows",r),("nexts",n),("steer",s),("push",p),("add",a),("divisor",.int d)]
structure KA (C:Addr) (H:Hp) (o:Addr) (m:MD) where
 dx:Addr
 r:Addr
 rv:List V
 n:Addr
 nv:List V
 s:Addr
 p:Addr
 pv:List V
 a:Addr
structure KA.Ok {C:Addr} {H:Hp} {o:Addr} {m:MD} (M:KA C H o m):Prop where
 ins:H o=some (.ins C M.dx (gf (.ref M.r) (.ref M.n) (.ref M.s) (.ref M.p) (.ref M.a) m.div))
 hr:H M.r=some (.lst M.rv)
 hrv:gW H M.rv m.rows
 hn:H M.n=some (.lst M.nv)
 hnv:gd H M.nv m.nexts
 hs:H M.s=some (.lst (m.steer.map V.int))
 hp:H M.p=some (.lst M.pv)
 hpv:gd H M.pv m.push
 ha:H M.a=some (.lst (m.add.map V.int))
structure wU (n:Nat) (bs:List (Int × Int)) (ms:List MD):Prop where
 n1:1<=n
 n3:n<=3
 bok:∀ b∈bs,b.1<=b.2
 b6:bs.length<=6
 m1:1<=ms.length
 m40:ms.length<=40
 mok:∀ m∈ms,yj m n bs.length
theorem Wa {K:PySem.W.Frag} {C:Addr}:PySem.W.kitOne K (.ref C) (.ref C)=some true:=by
 unfold PySem.W.kitOne
 rw [if_pos (by simp)]
end Sh
namespace Sh
open PySem L2
theorem zMW {H H1 H2:Hp} {x:Addr} (s:zF H H1) (b:Q9 x H1 H2) (n:H x=none):zF H H2:=λc o e=>b _ _ (s _ _ e) (wR e n)
theorem zKQ {H:Hp} {x dx:Addr} (hx:H x=none) (hdx:H dx=none) (ne:dx≠x) (u o:HO):zF H (zZ (zZ H dx u) x o):=
 (xV hdx _).trans (xV ((zt (Ne.symm ne)).trans hx) _)
end Sh
namespace L2
open PySem PySem.Spec PyProof.Rows
section
variable {X:Cx} {e:Expr}
end
theorem zH.no {P:Program} {w:World} {K:PySem.W.Frag} {mg:Str->Option Value} {base:Heap} {CX:vT} {k:Nat} {f:Addr} {fd:FuncData} {ps:List Str} {sp:Sp} (hn:∀ vs H Q E,¬ sp vs H Q E):zH P w K mg base CX k f fd ps sp:=
 ⟨λ_ _ _ _ h=>(hn _ _ _ _ h).elim,λ_ _ _ _ _ _ _ _ _ _ _ _ _ h=>(hn _ _ _ _ h).elim⟩
end L2
namespace Sh
inductive RT where
 | str (ns:List Int) (a d:Int)
 | stp (t:RT) (lo hi:Int)
 | prt (row:List Int) (x y:RT)
def RT.dep:RT->Nat
 | .str _ _ _=>1
 | .stp t _ _=>t.dep + 1
 | .prt _ x y=>max x.dep y.dep + 1
def RT.rows:RT->List (List Int)
 | .str _ _ _=>[]
 | .stp t _ _=>t.rows
 | .prt r x y=>[r]++x.rows++y.rows
def xG (pts:List (Int × Int)):RT->Int × Int
 | .str ns a d=>(WO ((ux ns pts).1 + a * (ux ns pts).2) ((ux ns pts).2 * d),WP ((ux ns pts).1 + a * (ux ns pts).2) ((ux ns pts).2 * d))
 | .stp t lo hi=>if (xG pts t).1 < lo * (xG pts t).2 then (lo,1) else if hi * (xG pts t).2 < (xG pts t).1 then (hi,1) else xG pts t
 | .prt row x y=>if (ux (row.take pts.length) pts).1<=row.getD pts.length 0 * (ux (row.take pts.length) pts).2 then xG pts x else xG pts y
end Sh
namespace Sh
open PySem L2
end Sh
namespace Sh
open PySem L2
end Sh
namespace L2
open PySem PySem.Spec PyProof.Rows Sh
section
variable {X:Cx}
inductive KB (K:PySem.W.Frag) (x y:V) (H:Hp) (Q:VK):Prop
 | mk (a b:Addr) (xs ys:List V) (_:x=.ref a) (_:y=.ref b) (_:H a=some (.tup xs)) (_:H b=some (.tup ys)) (_:xs≠[]) (_:xs.length + ys.length<=sizeLine) (_:∀ p H',zF H H'->H' p=some (.tup (xs++ys))->Q (.ref p) H'):KB K x y H Q
theorem zOM:yw X (binaryOp .Add) (KB X.K):=by
 intro pins s σ H x y v u Q I rx ry h
 obtain ⟨a,b,xs,ys,rfl,rfl,ha,hb,hne,hz,q⟩:=h
 exact zON pins s σ H _ _ v u Q I rx ry ⟨a,b,xs,ys,rfl,rfl,zo.of ha,zo.of hb,hne,hz,λz=>q a H (zF.refl _) (ha.trans (by rw [z,List.append_nil])),λ_ p hp=>q p _ (xV hp _) wQ⟩
end
end L2
namespace Sh
def yM (r:List Int):List Int:=r.map λx=>-x
section
variable {pts:List (Int × Int)} (hp:∀ p∈pts,0 < p.2)
include hp
end
end Sh
namespace Sh
open PySem L2
structure yd (K:PySem.W.Frag) (C1 C2 C3:Addr):Prop where
 k21:PySem.W.kitOne K (.ref C2) (.ref C1)=some false
 k31:PySem.W.kitOne K (.ref C3) (.ref C1)=some false
 k12:PySem.W.kitOne K (.ref C1) (.ref C2)=some false
 k32:PySem.W.kitOne K (.ref C3) (.ref C2)=some false
 k13:PySem.W.kitOne K (.ref C1) (.ref C3)=some false
end Sh
namespace Sh
open PySem L2
end Sh
namespace L2
open PySem PySem.Spec PyProof.Rows
abbrev Wb:=Array Value->Option Addr->Prop
def Wc (base:Heap) (l:List Env) (e:Addr) (cls:Value) (P:Wb) (fl:Value) (h:Heap):Prop:=
 base.StaysIn h/\base.get? e=none/\h.FunFrames base l/\∃ (oe:Obj) (vs:Array Value) (T:Addr) (oT:Obj) (ts:Array Value),h.get? e=some oe/\oe.cls=cls/\oe.data=.fields vs/\P vs oe.dict/\vs[1]? = some (.ref T)/\base.get? T=none/\T≠e/\h.get? T=some oT/\oT.data=.fields ts/\ts[3]? = some fl
section
variable {M:Model} {A:Around} {E:Value->Shared->Prop} {s:Shared} {base:Heap} {env:Env} {outer:List Env} {L e:Addr} {cls:Value} {P:Wb} {Q:Unit->Shared->Prop} {oe:Obj} {vs:Array Value}
end
def P0:Wb:=λvs _=>vs[2]? = some .none
end L2
namespace L2
open PySem PySem.Spec PyProof.Rows
section
variable {P:Program} {w:World} {H:Hp} {h:Heap} {a:Addr}
end
structure XL (P:Program) (w:World) (outer:List Env) (H H':Hp) (s s':Shared) (B:Heap) (e:Addr) (cls a0:Value):Prop where
 os:s'.os=s.os
 bare:AllBare s'.gens
 keep:∀ b o,s.heap.get? b=some o->H b=none->b∉wj outer->B.get? b=some o
 slot:∀ b o,s.heap.get? b=some o->H b=none->b∈wj outer->∃ sl,s'.heap.get? b=some { o with slots:=sl }
 free:∀ b o,s.heap.get? b=some o->H b=none->H' b=none
 there:∀ b o,s.heap.get? b=some o->b∉wj outer->∃ o',B.get? b=some o'
 tups:∀ b xs,H b=some (.tup xs)->H' b=some (.tup xs)
 frzs:∀ b o u,H b=some (.frz o u)->H' b=some (.frz o u)
 tbls:∀ b ps,H b=some (.tbl ps)->∃ more,H' b=some (.tbl (ps++more))
 hok:xF P w H' B
 fly:Wc B outer e cls P0 .none s'.heap
section
variable {P:Program} {w:World} {outer:List Env} {H H':Hp} {s s':Shared} {B:Heap} {e:Addr} {cls a0:Value}
end
section
variable {P:Program} {w:World} {K:PySem.W.Frag} {mg:Str->Option Value} {base:Heap} {N:List Str} {qual:Str} {scope:Scope} {f:Addr} {cd:Value} {A:Around} {outer:List Env} {s:Shared} {H:Hp} {E:XK}
end
section
variable {P:Program} {w:World} {K:PySem.W.Frag} {mg:Str->Option Value} {base:Heap}
end
section
variable {X:Cx}
end
section
variable {X:Cx} {pins:List (Addr × Obj)} {σ:St} {H:Hp} {s:Shared} {e:Addr}
end
end L2
namespace L2
open PySem PySem.Spec PyProof.Rows
def XP (X:Cx) (pins:List (Addr × Obj)) (ES:St->XK) (ev:Value) (s':Shared):Prop:=
 ∃ (σ1:St) (s1:Shared) (H1 H2:Hp) (e:Addr) (cls a0:Value) (B:Heap),zG X pins σ1 H1 s1/\ev=.ref e/\XL X.prog X.w X.stack H1 H2 s1 s' B e cls a0/\ES σ1 cls none H2
section
variable {X:Cx} {call:Expr} {tb:XK->TE} {pos pos':Pos}
end
end L2
namespace L2
open PySem PySem.Spec PyProof.Rows
section
variable {X:Cx} {C:Addr} {m x:Str} {ps:List Str} {k:Nat} {sp:Sp} {o e:Expr} {es:List Expr} {ta:TE} {t:TA} {p pos apos:Pos}
end
section
variable {P:Program} {w:World} {K:PySem.W.Frag} {mg:Str->Option Value} {base:Heap} {N:List Str} {qual:Str} {scope:Scope} {f:Addr} {cd:Value} {A:Around} {outer:List Env} {s:Shared} {H:Hp} {E:XK}
variable {C:Addr} {m x:Str} {ps:List Str} {k:Nat} {sp:Sp} {o e:Expr} {es:List Expr} {ta:TE} {t:TA} {p pos apos:Pos}
end
end L2
namespace L2
open PySem PySem.Spec PyProof.Rows
section
variable {P:Program} {w:World} {K:PySem.W.Frag} {mg:Str->Option Value} {base:Heap} {k:Nat} {f C:Addr} {fd:FuncData} {x m:Str} {ps:List Str} {sp:Sp}
end
end L2
namespace L2
open PySem PySem.Spec PyProof.Rows PySem.Builtin PySem.Builtin.ObjectAttr PySem.Builtin.Getset_descriptor
section
variable {prog:Program} {w:World} {A:Around} {E:Value->Shared->Prop} {K:PySem.W.Frag} {s:Shared} {e C:Addr} {oe:Obj}
end
section
variable {X:Cx}
end
end L2
namespace Sh
open PySem L2
inductive AK where
 | int (i:Int)
 | bool (b:Bool)
 | non
 | str (x:Str)
 | dic
 | lst (as:List AK)
 | tup (as:List AK)
 | mode (r n s p a d:AK)
def AK.isInt:AK->Bool
 | .int _=>true
 | .bool _=>true
 | _=>false
def AK.isBool:AK->Bool
 | .bool _=>true
 | _=>false
def AK.isLst:AK->Bool
 | .lst _=>true
 | _=>false
def AK.isTup:AK->Bool
 | .tup _=>true
 | _=>false
inductive gg where
 | made | bad | many
def gg.str:gg->Str
 | .made=>"made"
 | .bad=>"bad"
 | .many=>"many"
end Sh
namespace HT
open PySem PySem.Spec PyProof.Rows
section
variable {prog:Program} {w:World} {A:Around} {E:Value->Shared->Prop} {s:Shared}
theorem cat_tup0 {t b:Addr} {vs ws:List Value} {Q:Value->Shared->Prop} (ht:IsTup s.heap t vs.toArray) (hb:IsTup s.heap b ws.toArray) (hv:vs=[]) (h0:Q (.ref b) s):wpAny (model prog w) A (binaryOp .Add (.ref t) (.ref b)) Q E s:=by
 obtain ⟨⟨cls,dd,data,sl⟩,ho,hc,n,hd⟩:=id ht
 obtain ⟨⟨cls2,dd2,data2,sl2⟩,ho2,hc2,n2,hd2⟩:=id hb
 simp only at hc hd hc2 hd2
 subst hc hd hc2 hd2
 exact concat_meets ⟨_,ho,rfl⟩ ⟨_,ho2,rfl⟩ noFill_tuple_add seq_tuple_add PySem.F.slot_tuple_add PySem.F.entry_tuple_add (PySem.F.args_tuple_add_2 _ _)
  (tuple_addW0 t b vs.toArray ws.toArray n n2 dd dd2 sl sl2 (by simp [hv])) ⟨ho,ho2,h0⟩
theorem getItem_tuple_all {t sl:Addr} {items:Array Value} {vl vu:Value} {lo hi:Option Int} {Q:Value->Shared->Prop} (ht:IsTup s.heap t items) (hs:s.heap.IsSliceOf sl vl vu .none) (pl:IsPart vl lo) (pu:IsPart vu hi)
  (hw:sIx items.size 0 lo=0/\sIx items.size items.size hi=items.size) (h:Q (.ref t) s):wpAny (model prog w) A (getItem (.ref t) (.ref sl)) Q E s:=by
 obtain ⟨os,hos,hcs,hds⟩:=id hs
 have hTs:s.TypeIs (.ref sl) "slice":=⟨os,hos,hcs⟩
 unfold getItem
 try with_reducible refine wpAny_holding ?_
 first | refine wpAny_bind (wpAny_pure ?_) | skip
 refine wpAny_bind (wpAny_sequenceKey ht.typeIs (by decide) ?_)
 refine wpAny_bind (wpAny_callSpecial?_slot (name:=Str.ofString "__getitem__") ht.typeIs PyProof.Rows.slot_tuple_getitem
  (wpAny_call_entry PyProof.Rows.slot_tuple_getitem ht.typeIs entry_tuple_getitem ?_ (args_tuple_getitem _ _)))
 show wpAny _ _ (Builtin.Tuple.tupleItemsOf (.ref t) >>= _) _ _ s
 refine wpAny_bind (tupleItemsOf_ ht ?_)
 refine wpAny_bind (wpAny_typeOf hTs ?_)
 rw [if_pos (by decide)]
 refine wpAny_bind (QR hs pl pu ?_)
 have hyes:(((sIx items.size 0 lo:Nat):Int) == 0 && (1:Int) == 1 && (sIx items.size items.size hi - sIx items.size 0 lo) == items.size)=true:=by
  rw [hw.1,hw.2]
  simp
 show wpAny _ _ (if (((sIx items.size 0 lo:Nat):Int) == 0 && (1:Int) == 1 && (sIx items.size items.size hi - sIx items.size 0 lo) == items.size)=true then _ else _) _ _ s
 rw [if_pos hyes]
 unfold Builtin.Tuple.tupleIsExact
 refine wpAny_bind (wpAny_bind (wpAny_typeOf ht.typeIs (wpAny_pure ?_)))
 rw [if_pos (by decide)]
 refine wpAny_bind (wpAny_rule ?_)
 exact wpAny_pure ⟨_,rfl,wpAny_pure h⟩
end
end HT
namespace L2
open PySem PySem.Spec PyProof.Rows
section
variable {X:Cx}
inductive We (x y:V) (H:Hp) (Q:VK):Prop
 | mk (a b:Addr) (xs ys:List V) (_:x=.ref a) (_:y=.ref b) (_:H a=some (.tup xs)) (_:H b=some (.tup ys)) (_:xs.length + ys.length<=sizeLine) (_:∀ p H',zF H H'->H' p=some (.tup (xs++ys))->Q (.ref p) H'):We x y H Q
theorem gh:yw X (binaryOp .Add) We:=by
 intro pins s σ H x y v u Q I rx ry h
 obtain ⟨a,b,xs,ys,rfl,rfl,ha,hb,hz,q⟩:=h
 by_cases hne:xs=[]
 ·subst hne
  cases rx
  cases ry
  obtain ⟨its,r1,p1,_⟩:=I.tuple (zo.of ha)
  obtain ⟨its2,r2,p2,_⟩:=I.tuple (zo.of hb)
  exact HT.cat_tup0 p1 p2 (r1.nil_iff.mpr rfl) ⟨.ref b,H,I,rfl,q b H (zF.refl _) hb⟩
 ·exact zOM pins s σ H _ _ v u Q I rx ry ⟨a,b,xs,ys,rfl,rfl,ha,hb,hne,hz,q⟩
inductive gj (x:V) (lo hi:Option Int) (H:Hp) (Q:VK):Prop
 | mk (a:Addr) (xs:List V) (_:x=.ref a) (_:H a=some (.tup xs)) (_:∀ p H',zF H H'->H' p=some (.tup (wS xs lo hi))->Q (.ref p) H'):gj x lo hi H Q
theorem zM7:jS X gj:=by
 intro pins s σ H x v vl vu lo hi sl Q I rx hs pl pu h
 obtain ⟨a,xs,rfl,hx,q⟩:=h
 by_cases hw:HT.sIx xs.length 0 lo=0/\HT.sIx xs.length xs.length hi=xs.length
 ·cases rx
  obtain ⟨its,r,ht,hz⟩:=I.tuple (zo.of hx)
  have hlen:its.toArray.size=xs.length:=by rw [List.size_toArray]; exact r.length.symm
  refine ⟨"tuple",_,PyProof.Rows.slot_tuple_getitem.lookup,ht.typeIs,?_⟩
  refine HT.getItem_tuple_all ht hs pl pu (by rw [hlen]; exact hw) ⟨.ref a,H,I,rfl,q a H (zF.refl _) (hx.trans ?_)⟩
  unfold wS
  rw [hw.1,hw.2,List.drop_zero,Nat.sub_zero,List.take_length]
 ·exact zPD pins s σ H _ v vl vu lo hi sl Q I rx hs pl pu ⟨a,xs,rfl,zo.of hx,hw,λp hp=>q p _ (Sh.xV hp _) wQ⟩
end
end L2
set_option linter.all false
namespace Sh
def bt:List (Int × Int)->Int
 | []=>1
 | p :: ps=>p.2 * bt ps
def tp:List Int->List (Int × Int)->Int
 | w :: ws,p :: ps=>w * p.1 * bt ps + p.2 * tp ws ps
 | _,_=>0
def yq:List Int->List Int->Int
 | r :: rs,a :: as=>r * a + yq rs as
 | _,_=>0
def zf (nums:List Int) (ls:List (List Int)) (j:Nat):Int:=((nums.zip ls).map λq=>q.1 * q.2.getD j 0).sum
theorem KC (r:Int) (rs:List Int) (c:List Int) (cs:List (List Int)) (j:Nat):zf (r :: rs) (c :: cs) j=r * c.getD j 0 + zf rs cs j:=by
 simp only [zf,List.zip_cons_cons,List.map_cons,List.sum_cons]
end Sh
set_option linter.all false
namespace Sh
def xO (pl:Int) (n:Nat) (nu:Int):List Int:=(List.range n).map λ(i:Nat)=>if (i:Int)=pl then nu else 0
theorem uX (pl:Int) (n:Nat) (nu:Int):(xO pl n nu).length=n:=by
 unfold xO
 rw [List.length_map,List.length_range]
def wq (n p:Nat) (r:List Int):List Int:=(r.take n++List.replicate p 0)++[r.getD n 0]
def vX (n p:Nat) (i:Nat) (b:Int × Int):List (List Int):=[xO ((n + i:Nat):Int) (n + p) 1++[b.2],xO ((n + i:Nat):Int) (n + p) (-1)++[-b.1]]
def u7 (n:Nat) (bs:List (Int × Int)) (rows:List (List Int)):List (List Int):=rows.map (wq n bs.length)++(bs.mapIdx (vX n bs.length)).flatten
def hB (pts:List (Int × Int)) (ws:List Int) (b:Int):Bool:=decide (tp ws pts<=b * bt pts)
def hR (pts:List (Int × Int)) (r:List Int):Bool:=hB pts (r.take pts.length) (r.getD pts.length 0)
end Sh
set_option linter.all false
namespace Sh
theorem KD:∀ (ns:List Int) (ls:List (List Int)) (j:Nat),zf ns ls j=yq ns (ls.map λr=>r.getD j 0)
 | [],_,_=>by simp [zf,yq]
 | _ :: _,[],_=>by simp [zf,yq]
 | n :: ns,l :: ls,j=>by rw [KC,List.map_cons,KD ns ls j]; rfl
end Sh
set_option linter.all false
namespace Sh
theorem zMg (r:List Int) (rows:List (List Int)) (x:Int) (nums:List Int) (j:Nat):vm (r :: rows) (x :: nums) j=r.getD j 0 * x + vm rows nums j:=by unfold vm; simp
end Sh
namespace Pu
open PySem L2 Sh
inductive D where
 | int (i:Int)
 | bool (b:Bool)
 | non
 | str (x:Str)
 | scr (ns:List Int)
 | lst (ds:List D)
 | tup (ds:List D)
 | obj (c:Addr) (ns:List Str) (ds:List D)
inductive DV (H:Hp):V->D->Prop where
 | int (i:Int):DV H (.int i) (.int i)
 | bool (b:Bool):DV H (.bl b) (.bool b)
 | non:DV H .non .non
 | str (x:Str):DV H (.str x) (.str x)
 | scr {a:Addr} {ns:List Int} (e:Rd H a (.lst (ns.map V.int))):DV H (.ref a) (.scr ns)
 | lst {a:Addr} {xs:List V} {ds:List D} (e:H a=some (.lst xs)) (h:Paired (DV H) xs ds):DV H (.ref a) (.lst ds)
 | tup {a:Addr} {xs:List V} {ds:List D} (e:H a=some (.tup xs)) (h:Paired (DV H) xs ds):DV H (.ref a) (.tup ds)
 | obj {o dx c:Addr} {ns:List Str} {xs:List V} {ds:List D} (e:H o=some (.ins c dx (ns.zip xs))) (l:ns.length=xs.length) (h:Paired (DV H) xs ds):DV H (.ref o) (.obj c ns ds)
theorem gk {H H':Hp} (s:zF H H') {a:Addr} {u:HO} (h:Rd H a u):Rd H' a u:=h.imp (s _ _) λ⟨o,e⟩=>⟨o,s _ _ e⟩
theorem DV.same {H H':Hp} (s:zF H H'):∀ {v:V} {d:D},DV H v d->DV H' v d
 | _,_,.int i=>.int i
 | _,_,.bool b=>.bool b
 | _,_,.non=>.non
 | _,_,.str x=>.str x
 | _,_,.scr e=>.scr (gk s e)
 | _,_,.lst e h=>.lst (s _ _ e) (go s h)
 | _,_,.tup e h=>.tup (s _ _ e) (go s h)
 | _,_,.obj e l h=>.obj (s _ _ e) l (go s h)
where
 go {H H':Hp} (s:zF H H'):∀ {xs:List V} {ds:List D},Paired (DV H) xs ds->Paired (DV H') xs ds
  | _,_,.nil=>.nil
  | _,_,.cons h t=>.cons (DV.same s h) (go s t)
abbrev yN (H:Hp):List V->List D->Prop:=Paired (DV H)
theorem yr {H H':Hp} (s:zF H H') {xs:List V} {ds:List D} (h:yN H xs ds):yN H' xs ds:=DV.same.go s h
theorem KE {H:Hp}:∀ {xs:List V} {ns:List Int},yN H xs (ns.map D.int)->xs=ns.map V.int
 | _,[],.nil=>rfl
 | _,_ :: _,.cons h t=>by cases h; rw [KE t]; rfl
theorem Wf {H:Hp}:∀ {xs:List V} {bs:List Bool},yN H xs (bs.map D.bool)->xs=bs.map V.bl
 | _,[],.nil=>rfl
 | _,_ :: _,.cons h t=>by cases h; rw [Wf t]; rfl
theorem KF {H:Hp}:∀ {ns:List Int},yN H (ns.map V.int) (ns.map D.int)
 | []=>.nil
 | _ :: _=>.cons (.int _) KF
open Classical in
noncomputable def zQ (Z:Addr->Prop) (H:Hp):Hp:=λb=>if Z b then none else H b
theorem vD {Z:Addr->Prop} {H:Hp} {b:Addr} (h:¬ Z b):zQ Z H b=H b:=if_neg h
theorem qO {Z:Addr->Prop} {H:Hp} {b:Addr} {o:HO} (h:zQ Z H b=some o):¬ Z b/\H b=some o:=by
 unfold zQ at h
 by_cases c:Z b
 ·rw [if_pos c] at h; cases h
 ·rw [if_neg c] at h; exact ⟨c,h⟩
theorem zu {Z:Addr->Prop} {H:Hp}:zF (zQ Z H) H:=λ_ _ h=>(qO h).2
theorem ye {Z:Addr->Prop} {H H':Hp} (s:zF H H'):zF (zQ Z H) (zQ Z H'):=λb o h=>by
 obtain ⟨h1,h2⟩:=qO h
 rw [vD h1]
 exact s _ _ h2
theorem qP {Z Z':Addr->Prop} {H:Hp} (s:∀ b,Z' b->Z b):zF (zQ Z H) (zQ Z' H):=λb o h=>by
 obtain ⟨h1,h2⟩:=qO h
 rw [vD λz=>h1 (s _ z)]
 exact h2
def ZL (Z:Addr->Prop) (H:Hp):Prop:=∀ b,Z b->∃ u,H b=some u/\∀ xs,u≠.tup xs
theorem ZL.same {Z:Addr->Prop} {H H':Hp} (z:ZL Z H) (s:zF H H'):ZL Z H':=λb hb=>let ⟨u,e,n⟩:=z b hb; ⟨u,s _ _ e,n⟩
theorem ZL.new {Z:Addr->Prop} {H:Hp} (z:ZL Z H) {p:Addr} (h:H p=none):¬ Z p:=λq=>by
 obtain ⟨u,e,_⟩:=z p q
 rw [h] at e
 cases e
inductive Sl where
 | no
 | sh (d:D)
 | ow (ds:List D)
 | ob (o c:Addr) (ns:List Str) (ds:List D)
def slot:List Sl->Nat->Sl
 | [],_=>.no
 | x :: _,0=>x
 | _ :: t,i + 1=>slot t i
def zq:List Sl->Nat->Sl->List Sl
 | [],_,_=>[]
 | _ :: t,0,y=>y :: t
 | x :: t,i + 1,y=>x :: zq t i y
theorem u8:∀ (Γ:List Sl) (i:Nat) (y:Sl),(zq Γ i y).length=Γ.length
 | [],_,_=>rfl
 | _ :: _,0,_=>rfl
 | _ :: t,i + 1,y=>by show (zq t i y).length + 1=_; rw [u8 t i y]; rfl
theorem y9:∀ (Γ:List Sl) (i j:Nat) (y:Sl),slot (zq Γ i y) j=if j=i/\i < Γ.length then y else slot Γ j
 | [],i,j,y=>by rw [if_neg (λh=>absurd h.2 (Nat.not_lt_zero _))]; rfl
 | x :: t,0,0,y=>(if_pos ⟨rfl,Nat.zero_lt_succ _⟩).symm
 | x :: t,0,j + 1,y=>(if_neg (λh=>nomatch h.1)).symm
 | x :: t,i + 1,0,y=>(if_neg (λh=>nomatch h.1)).symm
 | x :: t,i + 1,j + 1,y=>by
  show slot (zq t i y) j=if j + 1=i + 1/\i + 1 < t.length + 1 then y else slot t j
  rw [y9 t i j y]
  by_cases c:j=i/\i < t.length
  ·rw [if_pos c,if_pos ⟨by omega,by omega⟩]
  ·rw [if_neg c,if_neg (λh=>c ⟨by omega,by omega⟩)]
theorem vY:∀ {Γ:List Sl} {i:Nat},slot Γ i≠.no->i < Γ.length
 | [],_,h=>absurd rfl h
 | _ :: _,0,_=>Nat.zero_lt_succ _
 | _ :: _,_ + 1,h=>Nat.succ_lt_succ (vY (Γ:=_) h)
structure yD (Z:Addr->Prop) (Γ:List Sl) (σ:St) (H:Hp):Prop where
 sh:∀ i d,slot Γ i=.sh d->∃ v,σ[i]? = some (some v)/\DV (zQ Z H) v d
 ow:∀ i ds,slot Γ i=.ow ds->∃ l xs,σ[i]? = some (some (.ref l))/\Z l/\H l=some (.lst xs)/\yN (zQ Z H) xs ds
 ob:∀ i o c ns ds,slot Γ i=.ob o c ns ds->∃ dx xs,σ[i]? = some (some (.ref o))/\Z o/\H o=some (.ins c dx (ns.zip xs))/\ns.length=xs.length/\yN (zQ Z H) xs ds
 ne:∀ i j as bs l,slot Γ i=.ow as->slot Γ j=.ow bs->σ[i]? = some (some (.ref l))->σ[j]? = some (some (.ref l))->i=j
 zd:ZL Z H
 len:Γ.length=σ.length
theorem yD.same {Z:Addr->Prop} {Γ:List Sl} {σ:St} {H H':Hp} (E:yD Z Γ σ H) (s:zF H H'):yD Z Γ σ H' where
 sh:=λi d e=>let ⟨v,h1,h2⟩:=E.sh i d e; ⟨v,h1,h2.same (ye s)⟩
 ow:=λi ds e=>let ⟨l,xs,h1,h2,h3,h4⟩:=E.ow i ds e; ⟨l,xs,h1,h2,s _ _ h3,yr (ye s) h4⟩
 ob:=λi o c ns ds e=>let ⟨dx,xs,h1,h2,h3,h5,h4⟩:=E.ob i o c ns ds e; ⟨dx,xs,h1,h2,s _ _ h3,h5,yr (ye s) h4⟩
 ne:=E.ne
 zd:=E.zd.same s
 len:=E.len
theorem yD.set {Z:Addr->Prop} {Γ:List Sl} {σ:St} {H:Hp} (E:yD Z Γ σ H) {v:V} {d:D} (h:DV (zQ Z H) v d) (i:Nat):yD Z (zq Γ i (.sh d)) (σ.set i (some v)) H where
 sh:=λj e q=>by
  rw [y9] at q
  by_cases c:j=i/\i < Γ.length
  ·rw [if_pos c] at q
   cases q
   rw [c.1]
   exact ⟨v,by rw [List.getElem?_set_self (by have:=E.len; omega)],h⟩
  ·rw [if_neg c] at q
   obtain ⟨u,h1,h2⟩:=E.sh j e q
   have hj:=vY (Γ:=Γ) (i:=j) (by rw [q]; exact λz=>nomatch z)
   exact ⟨u,by rw [List.getElem?_set_ne (λz=>c ⟨z.symm,by omega⟩)]; exact h1,h2⟩
 ow:=λj e q=>by
  rw [y9] at q
  by_cases c:j=i/\i < Γ.length
  ·rw [if_pos c] at q; cases q
  ·rw [if_neg c] at q
   obtain ⟨l,xs,h1,h2⟩:=E.ow j e q
   have hj:=vY (Γ:=Γ) (i:=j) (by rw [q]; exact λz=>nomatch z)
   exact ⟨l,xs,by rw [List.getElem?_set_ne (λz=>c ⟨z.symm,by omega⟩)]; exact h1,h2⟩
 ob:=λj o0 c0 ns e q=>by
  rw [y9] at q
  by_cases c:j=i/\i < Γ.length
  ·rw [if_pos c] at q; cases q
  ·rw [if_neg c] at q
   obtain ⟨dx,xs,h1,h2⟩:=E.ob j o0 c0 ns e q
   have hj:=vY (Γ:=Γ) (i:=j) (by rw [q]; exact λz=>nomatch z)
   exact ⟨dx,xs,by rw [List.getElem?_set_ne (λz=>c ⟨z.symm,by omega⟩)]; exact h1,h2⟩
 ne:=λj k as bs l q r e f=>by
  rw [y9] at q r
  by_cases c:j=i/\i < Γ.length
  ·rw [if_pos c] at q; cases q
  ·by_cases c':k=i/\i < Γ.length
   ·rw [if_pos c'] at r; cases r
   ·rw [if_neg c] at q
    rw [if_neg c'] at r
    have hj:=vY (Γ:=Γ) (i:=j) (by rw [q]; exact λz=>nomatch z)
    have hk:=vY (Γ:=Γ) (i:=k) (by rw [r]; exact λz=>nomatch z)
    rw [List.getElem?_set_ne (λz=>c ⟨z.symm,by omega⟩)] at e
    rw [List.getElem?_set_ne (λz=>c' ⟨z.symm,by omega⟩)] at f
    exact E.ne j k as bs l q r e f
 zd:=E.zd
 len:=by rw [u8,List.length_set]; exact E.len
abbrev zy:=List Sl->(D->Prop)->Prop
abbrev wB:=List Sl->(Bool->Prop)->Prop
abbrev yx:=List Sl->(List D->Prop)->Prop
abbrev jb:=List Sl->(Option Int->Prop)->Prop
inductive tP (p:zy) (σ:St) (H:Hp) (Q:VK):Prop
 | mk (Z:Addr->Prop) (Γ:List Sl) (R:D->Prop) (E:yD Z Γ σ H) (h:p Γ R) (q:∀ d v H',R d->zF H H'->DV (zQ Z H') v d->Q v H'):tP p σ H Q
inductive xD (p:wB) (σ:St) (H:Hp) (Q:Bool->Hp->Prop):Prop
 | mk (Z:Addr->Prop) (Γ:List Sl) (R:Bool->Prop) (E:yD Z Γ σ H) (h:p Γ R) (q:∀ b H',R b->zF H H'->Q b H'):xD p σ H Q
inductive wL (p:yx) (σ:St) (H:Hp) (Q:List V->Hp->Prop):Prop
 | mk (Z:Addr->Prop) (Γ:List Sl) (R:List D->Prop) (E:yD Z Γ σ H) (h:p Γ R) (q:∀ ds vs H',R ds->zF H H'->yN (zQ Z H') vs ds->Q vs H'):wL p σ H Q
inductive jc (p:jb) (σ:St) (H:Hp) (Q:Option Int->Hp->Prop):Prop
 | mk (Z:Addr->Prop) (Γ:List Sl) (R:Option Int->Prop) (E:yD Z Γ σ H) (h:p Γ R) (q:∀ o H',R o->zF H H'->Q o H'):jc p σ H Q
section
variable {X:Cx} {a b e c:Expr} {es:List Expr} {pos:Pos} {pa pb pc:zy} {qa qb:wB} {pl:yx}
theorem yG {t t':TE} (h:PE X e t) (w:∀ σ H Q,t' σ H Q->t σ H Q):PE X e t':=λpins s σ H Q I q=>h pins s σ H Q I (w σ H Q q)
theorem YY {t t':TT} (h:PT X e t) (w:∀ σ H Q,t' σ H Q->t σ H Q):PT X e t':=λpins s σ H Q I q=>h pins s σ H Q I (w σ H Q q)
theorem KG {t t':TT} (h:PW X e t) (w:∀ σ H Q,t' σ H Q->t σ H Q):PW X e t':=λwh pins s σ H Q I q=>h wh pins s σ H Q I (w σ H Q q)
theorem KH {t t':TA} (h:PA X es t) (w:∀ σ H Q,t' σ H Q->t σ H Q):PA X es t':=λpos pins s σ H Q I q=>h pos pins s σ H Q I (w σ H Q q)
def KI (i:Nat):zy:=λΓ R=>match slot Γ i with | .sh d=>R d | _=>False
theorem zA (i:Nat) {x:Str} {pos:Pos} (hN:X.N[i]? = some x:=by rfl) (hv:jM X.env.scope x:=by first | exact Or.inl rfl | exact Or.inr (Or.inl rfl) | exact Or.inr (Or.inr rfl)) (hd:(x == ("__debug__" : Str))=false:=by decide)
  (hcd:(x == ("__classdict__" : Str))=false:=by decide):PE X (.Name x pos) (tP (KI i)):=yG (Xv hN hv hd hcd) λσ H Q ⟨Z,Γ,R,E,h,q⟩=>by
 unfold KI at h
 cases s:slot Γ i with
 | sh d=>
  rw [s] at h
  obtain ⟨v,e,k⟩:=E.sh i d s
  exact ⟨v,e,q d v H h (zF.refl _) k⟩
 | _=>rw [s] at h; exact h.elim
def pC (d:D):zy:=λ_ R=>R d
theorem zD {i j pos}:PE X (.Constant (.int i) j pos) (tP (pC (.int i))):=yG Jn λ_ H _ ⟨_,_,_,_,h,q⟩=>q _ _ H h (zF.refl _) (.int i)
theorem xP {i j pos}:PE X (.Constant (.bool i) j pos) (tP (pC (.bool i))):=yG qp λ_ H _ ⟨_,_,_,_,h,q⟩=>q _ _ H h (zF.refl _) (.bool i)
theorem zPP {j pos}:PE X (.Constant .none j pos) (tP (pC .non)):=yG zPk λ_ H _ ⟨_,_,_,_,h,q⟩=>q _ _ H h (zF.refl _) .non
theorem Wg {x:Str} {i:Int} {pos:Pos} (hg:Gl X x) (hm:∃ t,X.mg x=some (.int i t)) (hd:(x == ("__debug__" : Str))=false:=by decide):PE X (.Name x pos) (tP (pC (.int i))):=
 let ⟨_,e⟩:=hm
 yG (Jo (v:=.int i) hg e ⟨_,rfl⟩ hd) λ_ H _ ⟨_,_,_,_,h,q⟩=>q _ _ H h (zF.refl _) (.int i)
abbrev F2:=D->D->(D->Prop)->Prop
def xi (f:F2) (pa pb:zy):zy:=λΓ R=>pa Γ λx=>pb Γ λy=>f x y R
def wr (r:R2) (f:F2):Prop:=∀ (Z:Addr->Prop) (H:Hp) (x y:V) (a b:D) (R:D->Prop) (Q:VK),ZL Z H->DV (zQ Z H) x a->DV (zQ Z H) y b->f a b R->(∀ d v H',R d->zF H H'->DV (zQ Z H') v d->Q v H')->r x y H Q
theorem YZ {r:R2} {f:F2} (o:wr r f) (σ:St) (H:Hp) (Q:VK):tP (xi f pa pb) σ H Q->gA r (tP pa) (tP pb) σ H Q:=λ⟨Z,Γ,R,E,h,q⟩=>
 ⟨Z,Γ,_,E,h,λd v H1 hd s1 hv=>⟨Z,Γ,_,E.same s1,hd,λd2 v2 H2 hd2 s2 hv2=>o Z H2 v v2 d d2 R Q (E.same (s1.trans s2)).zd (hv.same (ye s2)) hv2 hd2 λd3 v3 H3 h3 s3 hv3=>q d3 v3 H3 h3 (s1.trans (s2.trans s3)) hv3⟩⟩
theorem qQ {op:Operator} {r:R2} {f:F2} (ho:yw X (binaryOp op) r) (o:wr r f) (ha:PE X a (tP pa)) (hb:PE X b (tP pb)):PE X (.BinOp a op b pos) (tP (xi f pa pb)):=yG (Jx ho ha hb) (YZ o)
theorem Yb {op:CmpOp} {r:R2} {f:F2} (ho:yw X (compareOp op) r) (o:wr r f) (hm:behindInMarks op b=false) (ha:PE X a (tP pa)) (hb:PE X b (tP pb)):PE X (.Compare a [op] [b] pos) (tP (xi f pa pb)):=yG (zOI ho ha hb hm) (YZ o)
theorem uM {Z:Addr->Prop} {H:Hp} {p:Addr} {xs:List V} {ds:List D} (zd:ZL Z H) (hp:H p=none) (h:yN (zQ Z H) xs ds):DV (zQ Z (zZ H p (.lst xs))) (.ref p) (.lst ds):=
 .lst ((vD (zd.new hp)).trans wQ) (yr (ye (xV hp _)) h)
theorem Yc {Z:Addr->Prop} {H:Hp} {p:Addr} {xs:List V} {ds:List D} (zd:ZL Z H) (hp:H p=none) (h:yN (zQ Z H) xs ds):DV (zQ Z (zZ H p (.tup xs))) (.ref p) (.tup ds):=
 .tup ((vD (zd.new hp)).trans wQ) (yr (ye (xV hp _)) h)
theorem KJ {Z:Addr->Prop} {H:Hp} {p:Addr} {xs:List V} {ds:List D} (zd:ZL Z H) (e:H p=some (.tup xs)) (h:yN (zQ Z H) xs ds):DV (zQ Z H) (.ref p) (.tup ds):=
 .tup ((vD λz=>by
  obtain ⟨u,e',n⟩:=zd p z
  rw [e] at e'
  cases e'
  exact n xs rfl).trans e) h
theorem DV.lst_inv {H:Hp} {v:V} {ds:List D} (h:DV H v (.lst ds)):∃ p xs,v=.ref p/\H p=some (.lst xs)/\yN H xs ds:=by cases h with | lst e h=>exact ⟨_,_,rfl,e,h⟩
theorem DV.tup_inv {H:Hp} {v:V} {ds:List D} (h:DV H v (.tup ds)):∃ p xs,v=.ref p/\H p=some (.tup xs)/\yN H xs ds:=by cases h with | tup e h=>exact ⟨_,_,rfl,e,h⟩
theorem few {n:Nat} (h:n<=1000):n<=sizeLine:=Nat.le_of_lt (YC h)
def jd:F2
 | .int i,.int j,R=>R (.int (i + j))
 | .lst as,.lst bs,R=>as.length + bs.length<=1000/\R (.lst (as++bs))
 | .tup as,.tup bs,R=>as.length + bs.length<=1000/\R (.tup (as++bs))
 | _,_,_=>False
theorem zOT:wr (λx y H Q=>vj (λi j=>.int (i + j)) x y H Q\/(gM x y H Q\/We x y H Q)) jd:=λZ H x y a b R Q zd hx hy h q=>by
 unfold jd at h
 split at h
 ·cases hx; cases hy; exact .inl ⟨_,_,rfl,rfl,q _ _ H h (zF.refl _) (.int _)⟩
 ·obtain ⟨p,xs,rfl,e1,h1⟩:=hx.lst_inv
  obtain ⟨r,ys,rfl,e2,h2⟩:=hy.lst_inv
  have l1:=Paired.length h1
  have l2:=Paired.length h2
  exact .inr (.inl ⟨p,r,xs,ys,rfl,rfl,zu _ _ e1,zu _ _ e2,few (by omega),λn hn=>q _ _ _ h.2 (xV hn _) (uM zd hn (qK h1 h2))⟩)
 ·obtain ⟨p,xs,rfl,e1,h1⟩:=hx.tup_inv
  obtain ⟨r,ys,rfl,e2,h2⟩:=hy.tup_inv
  have l1:=Paired.length h1
  have l2:=Paired.length h2
  exact .inr (.inr ⟨p,r,xs,ys,rfl,rfl,zu _ _ e1,zu _ _ e2,few (by omega),λn H' s e=>q _ _ _ h.2 s (KJ (zd.same s) e (yr (ye s) (qK h1 h2)))⟩)
 ·exact h.elim
def je:F2
 | .int i,.int j,R=>R (.int (i - j))
 | _,_,_=>False
theorem KL {g:Int->Int->V} {k:Int->Int->D} {f:F2} (hg:∀ i j H,DV H (g i j) (k i j)) (hf:∀ a b R,f a b R->∃ i j,a=.int i/\b=.int j/\R (k i j)):wr (vj g) f:=λZ H x y a b R Q zd hx hy h q=>by
 obtain ⟨i,j,rfl,rfl,k⟩:=hf a b R h
 cases hx; cases hy
 exact ⟨_,_,rfl,rfl,q _ _ H k (zF.refl _) (hg i j _)⟩
theorem Wi {C:Int->Int->Prop} {g:Int->Int->V} {k:Int->Int->D} {f:F2} (hg:∀ i j H,DV H (g i j) (k i j)) (hf:∀ a b R,f a b R->∃ i j,a=.int i/\b=.int j/\C i j/\R (k i j)):wr (rI C g) f:=λZ H x y a b R Q zd hx hy h q=>by
 obtain ⟨i,j,rfl,rfl,c,k⟩:=hf a b R h
 cases hx; cases hy
 exact ⟨_,_,rfl,rfl,c,q _ _ H k (zF.refl _) (hg i j _)⟩
theorem zOO:wr (vj λi j=>.int (i - j)) je:=KL (k:=λi j=>.int (i - j)) (λ_ _ _=>.int _) λa b R h=>by
 unfold je at h
 split at h
 ·exact ⟨_,_,rfl,rfl,h⟩
 ·exact h.elim
def jf:F2
 | .int i,.int j,R=>Bd 60000 i/\Bd 60000 j/\R (.int (i * j))
 | .lst [d],.int k,R=>0<=k/\k<=1000/\R (.lst (List.replicate k.toNat d))
 | _,_,_=>False
theorem gm {α:Type} (x:α):∀ n:Nat,(List.replicate n [x]).flatten=List.replicate n x
 | 0=>rfl
 | n + 1=>by rw [List.replicate_succ,List.flatten_cons,gm x n]; rfl
theorem KM {α β:Type} {R:α->β->Prop} {x:α} {y:β} (h:R x y):∀ n:Nat,Paired R (List.replicate n x) (List.replicate n y)
 | 0=>.nil
 | n + 1=>.cons h (KM h n)
theorem zOQ:wr (λx y H Q=>rI YE (λi j=>.int (i * j)) x y H Q\/gN x y H Q) jf:=λZ H x y a b R Q zd hx hy h q=>by
 unfold jf at h
 split at h
 ·cases hx; cases hy; exact .inl ⟨_,_,rfl,rfl,⟨h.1,h.2.1⟩,q _ _ H h.2.2 (zF.refl _) (.int _)⟩
 ·rename_i d k
  obtain ⟨p,xs,rfl,e1,h1⟩:=hx.lst_inv
  cases hy
  cases h1 with
  | @cons x _ _ _ h1 h2=>
  cases h2
  refine .inr ⟨p,_,_,rfl,rfl,zu _ _ e1,by omega,by omega,few (by rw [List.length_singleton]; omega),λn hn=>?_⟩
  rw [gm]
  exact q _ _ _ h.2.2 (xV hn _) (uM zd hn (KM h1 _))
 ·exact h.elim
def Wj:F2
 | .int i,.int j,R=>j≠0/\Bd 8000 j/\R (.int (i.fdiv j))
 | _,_,_=>False
theorem zMq:wr (rI Ql λi j=>.int (i.fdiv j)) Wj:=Wi (k:=λi j=>.int (i.fdiv j)) (λ_ _ _=>.int _) λa b R h=>by
 unfold Wj at h
 split at h
 ·exact ⟨_,_,rfl,rfl,⟨h.1,h.2.1⟩,h.2.2⟩
 ·exact h.elim
def jg:F2
 | .int i,.int j,R=>j≠0/\R (.int (i.fmod j))
 | _,_,_=>False
theorem zOR:wr (rI (λ_ j=>j≠0) λi j=>.int (i.fmod j)) jg:=Wi (k:=λi j=>.int (i.fmod j)) (λ_ _ _=>.int _) λa b R h=>by
 unfold jg at h
 split at h
 ·exact ⟨_,_,rfl,rfl,h.1,h.2⟩
 ·exact h.elim
def jh:F2
 | .int i,.int j,R=>jQ i j/\R (.int (i ^ j.toNat))
 | _,_,_=>False
theorem zOP:wr (rI jQ λi j=>.int (i ^ j.toNat)) jh:=Wi (k:=λi j=>.int (i ^ j.toNat)) (λ_ _ _=>.int _) λa b R h=>by
 unfold jh at h
 split at h
 ·exact ⟨_,_,rfl,rfl,h.1,h.2⟩
 ·exact h.elim
def wI (g:Int->Int->Bool):F2
 | .int i,.int j,R=>R (.bool (g i j))
 | _,_,_=>False
theorem ji {g:Int->Int->Bool}:wr (vj λi j=>.bl (g i j)) (wI g):=KL (k:=λi j=>.bool (g i j)) (λ_ _ _=>.bool _) λa b R h=>by
 unfold wI at h
 split at h
 ·exact ⟨_,_,rfl,rfl,h⟩
 ·exact h.elim
theorem zU (ha:PE X a (tP pa)) (hb:PE X b (tP pb)):PE X (.BinOp a .Add b pos) (tP (xi jd pa pb)):=qQ (zP2.or (zP1.or gh)) zOT ha hb
theorem xj (ha:PE X a (tP pa)) (hb:PE X b (tP pb)):PE X (.BinOp a .Sub b pos) (tP (xi je pa pb)):=qQ zPs zOO ha hb
theorem zx (ha:PE X a (tP pa)) (hb:PE X b (tP pb)):PE X (.BinOp a .Mult b pos) (tP (xi jf pa pb)):=qQ (zOL.or zPt) zOQ ha hb
theorem xR (ha:PE X a (tP pa)) (hb:PE X b (tP pb)):PE X (.BinOp a .FloorDiv b pos) (tP (xi Wj pa pb)):=qQ zMp zMq ha hb
theorem yW (ha:PE X a (tP pa)) (hb:PE X b (tP pb)):PE X (.BinOp a .Mod b pos) (tP (xi jg pa pb)):=qQ Jy zOR ha hb
theorem u9 (ha:PE X a (tP pa)) (hb:PE X b (tP pb)):PE X (.BinOp a .Pow b pos) (tP (xi jh pa pb)):=qQ zPu zOP ha hb
theorem gn (ha:PE X a (tP pa)) (hb:PE X b (tP pb)):PE X (.Compare a [.Lt] [b] pos) (tP (xi (wI λi j=>decide (i < j)) pa pb)):=Yb J5 ji (vx _) ha hb
theorem Wl (ha:PE X a (tP pa)) (hb:PE X b (tP pb)):PE X (.Compare a [.LtE] [b] pos) (tP (xi (wI λi j=>decide (i<=j)) pa pb)):=Yb J7 ji (vx _) ha hb
theorem KN (ha:PE X a (tP pa)) (hb:PE X b (tP pb)):PE X (.Compare a [.GtE] [b] pos) (tP (xi (wI λi j=>decide (j<=i)) pa pb)):=Yb J8 ji (vx _) ha hb
def gp:D->(D->Prop)->Prop
 | .int i,R=>R (.int (-i))
 | _,_=>False
def gq (f:D->(D->Prop)->Prop) (pa:zy):zy:=λΓ R=>pa Γ λx=>f x R
theorem yi (ha:PE X a (tP pa)):PE X (.UnaryOp .USub a pos) (tP (gq gp pa)):=yG (gB zOz ha) λσ H Q ⟨Z,Γ,R,E,h,q⟩=>
 ⟨Z,Γ,_,E,h,λd v H1 hd s1 hv=>by
  unfold gp at hd
  split at hd
  ·cases hv; exact ⟨_,rfl,q _ _ H1 hd s1 (.int _)⟩
  ·exact hd.elim⟩
end
end Pu
namespace Pu
open PySem L2 Sh
mutual
def D.py:D->PyData
 | .int i=>.int i
 | .bool b=>.bool b
 | .non=>.none
 | .str x=>.str x
 | .scr _=>.none
 | .lst ds=>.list (vK ds)
 | .tup ds=>.tuple (vK ds)
 | .obj _ _ _=>.none
def vK:List D->List PyData
 | []=>[]
 | d :: ds=>d.py :: vK ds
end
def D.pl:Nat->D->Bool
 | 0,_=>false
 | _ + 1,.int _=>true
 | _ + 1,.bool _=>true
 | _ + 1,.non=>true
 | _ + 1,.str x=>PyData.strOk x
 | _ + 1,.scr _=>false
 | n + 1,.lst ds=>ds.all (D.pl n)
 | n + 1,.tup ds=>ds.all (D.pl n)
 | _ + 1,.obj ..=>false
structure KO (n:Nat) (d:D):Prop where
 dp:∀ K H v,DV H v d->Dp K H v d.py
 lay:d.py.canLay0=true
 dep:d.py.depth<=n
theorem Wm {n:Nat}:∀ {ds:List D},(∀ d∈ds,KO n d)->(∀ K H xs,yN H xs ds->v0 K H xs (vK ds))/\PyData.canLayAll0 (vK ds)=true/\PyData.depthAll (vK ds)<=n
 | [],_=>⟨λK H xs h=>by cases h; exact .nil,by simp [vK,PyData.canLayAll0],by simp [vK,PyData.depthAll]⟩
 | d :: ds,h=>by
  obtain ⟨h1,h2,h3⟩:=Wm (ds:=ds) λx m=>h x (List.mem_cons_of_mem _ m)
  have g:=h d List.mem_cons_self
  have l:=g.lay
  have p:=g.dep
  refine ⟨λK H xs q=>?_,by simp [vK,PyData.canLayAll0,l,h2],by simp only [vK,PyData.depthAll]; omega⟩
  cases q with
  | cons q r=>exact .cons (g.dp K H _ q) (h1 K H _ r)
theorem uN:∀ (n:Nat) (d:D),D.pl n d=true->KO n d
 | 0,_,h=>by cases h
 | n + 1,.int i,_=>⟨λK H v h=>by cases h; exact .int i,by simp [D.py,PyData.canLay0],by simp [D.py,PyData.depth]⟩
 | n + 1,.bool i,_=>⟨λK H v h=>by cases h; exact .bl i,by simp [D.py,PyData.canLay0],by simp [D.py,PyData.depth]⟩
 | n + 1,.non,_=>⟨λK H v h=>by cases h; exact .non,by simp [D.py,PyData.canLay0],by simp [D.py,PyData.depth]⟩
 | n + 1,.str i,h=>⟨λK H v h=>by cases h; exact .str i,by simp only [D.py,PyData.canLay0]; exact h,by simp [D.py,PyData.depth]⟩
 | n + 1,.scr _,h=>by cases h
 | n + 1,.obj ..,h=>by cases h
 | n + 1,.lst ds,h=>by
  obtain ⟨h1,h2,h3⟩:=Wm (n:=n) (ds:=ds) λd m=>uN n d (List.all_eq_true.mp h d m)
  refine ⟨λK H v q=>?_,by simp [D.py,PyData.canLay0,h2],by simp only [D.py,PyData.depth]; omega⟩
  obtain ⟨p,xs,rfl,e,q⟩:=q.lst_inv
  exact .lst (zb.of e) (h1 K H _ q)
 | n + 1,.tup ds,h=>by
  obtain ⟨h1,h2,h3⟩:=Wm (n:=n) (ds:=ds) λd m=>uN n d (List.all_eq_true.mp h d m)
  refine ⟨λK H v q=>?_,by simp [D.py,PyData.canLay0,h2],by simp only [D.py,PyData.depth]; omega⟩
  obtain ⟨p,xs,rfl,e,q⟩:=q.tup_inv
  exact .tup (zo.of e) (h1 K H _ q)
theorem Wn:∀ ns:List Int,vK (ns.map D.int)=ns.map PyData.int
 | []=>rfl
 | n :: t=>by rw [List.map_cons,List.map_cons,vK,Wn t,D.py]
theorem qR (n:Nat) (ns:List Int):(ns.map D.int).all (D.pl (n + 1))=true:=List.all_eq_true.mpr λd m=>by
 obtain ⟨i,_,rfl⟩:=List.mem_map.mp m
 rfl
abbrev L (ns:List Int):D:=.lst (ns.map D.int)
abbrev U (ns:List Int):D:=.tup (ns.map D.int)
theorem KP (ns ms:List Int):PyData.eqv (L ns).py (L ms).py=decide (ns=ms):=by
 show PyData.eqvAll (vK (ns.map D.int)) (vK (ms.map D.int))=_
 rw [Wn,Wn]
 exact Qy ns ms
theorem Yd (ds:List D):PyData.eqv (D.lst ds).py (D.lst []).py=ds.isEmpty:=by cases ds <;> rfl
section
variable {X:Cx} {a b e c:Expr} {es:List Expr} {pos:Pos} {pa pb pc:zy} {qa qb:wB} {pl:yx}
def Ye:F2
 | .int i,.int j,R=>R (.bool (decide (i=j)))
 | .bool i,.bool j,R=>R (.bool (i == j))
 | .lst as,.lst bs,R=>(D.lst as).pl 50=true/\(D.lst bs).pl 50=true/\R (.bool (PyData.eqv (D.lst as).py (D.lst bs).py))
 | .tup as,.tup bs,R=>(D.tup as).pl 50=true/\(D.tup bs).pl 50=true/\R (.bool (PyData.eqv (D.tup as).py (D.tup bs).py))
 | _,_,_=>False
theorem KQ {K:PySem.W.Frag}:wr (λx y H Q=>Jz x y H Q\/gY K x y H Q) Ye:=λZ H x y a b R Q zd hx hy h q=>by
 unfold Ye at h
 split at h
 ·cases hx; cases hy
  refine .inl ⟨rfl,?_⟩
  rw [Z4,Bool.beq_eq_decide_eq]
  exact q _ _ H h (zF.refl _) (.bool _)
 ·cases hx; cases hy
  refine .inl ⟨rfl,?_⟩
  rw [Z5]
  exact q _ _ H h (zF.refl _) (.bool _)
 ·have d1:=uN _ _ h.1
  have d2:=uN _ _ h.2.1
  have e1:=d1.dep
  have e2:=d2.dep
  exact .inr ⟨_,_,d1.dp K H _ (hx.same zu),d2.dp K H _ (hy.same zu),d1.lay,d2.lay,by omega,by omega,q _ _ H h.2.2 (zF.refl _) (.bool _)⟩
 ·have d1:=uN _ _ h.1
  have d2:=uN _ _ h.2.1
  have e1:=d1.dep
  have e2:=d2.dep
  exact .inr ⟨_,_,d1.dp K H _ (hx.same zu),d2.dp K H _ (hy.same zu),d1.lay,d2.lay,by omega,by omega,q _ _ H h.2.2 (zF.refl _) (.bool _)⟩
 ·exact h.elim
def uY:F2
 | .int i,.int j,R=>R (.bool (!decide (i=j)))
 | .bool i,.bool j,R=>R (.bool (i != j))
 | .lst as,.lst bs,R=>(D.lst as).pl 50=true/\(D.lst bs).pl 50=true/\R (.bool (!PyData.eqv (D.lst as).py (D.lst bs).py))
 | .tup as,.tup bs,R=>(D.tup as).pl 50=true/\(D.tup bs).pl 50=true/\R (.bool (!PyData.eqv (D.tup as).py (D.tup bs).py))
 | _,_,_=>False
theorem zP3 {K:PySem.W.Frag}:wr (λx y H Q=>J0 x y H Q\/∃ d e:PyData,Dp K H x d/\Dp K H y e/\d.canLay0=true/\e.canLay0=true/\d.depth<=60/\e.depth<=60/\Q (.bl (!PyData.eqv d e)) H) uY:=λZ H x y a b R Q zd hx hy h q=>by
 unfold uY at h
 split at h
 ·cases hx; cases hy
  refine .inl ⟨rfl,?_⟩
  rw [Z4,Bool.beq_eq_decide_eq]
  exact q _ _ H h (zF.refl _) (.bool _)
 ·cases hx; cases hy
  refine .inl ⟨rfl,?_⟩
  rw [Z5]
  exact q _ _ H h (zF.refl _) (.bool _)
 ·have d1:=uN _ _ h.1
  have d2:=uN _ _ h.2.1
  have e1:=d1.dep
  have e2:=d2.dep
  exact .inr ⟨_,_,d1.dp K H _ (hx.same zu),d2.dp K H _ (hy.same zu),d1.lay,d2.lay,by omega,by omega,q _ _ H h.2.2 (zF.refl _) (.bool _)⟩
 ·have d1:=uN _ _ h.1
  have d2:=uN _ _ h.2.1
  have e1:=d1.dep
  have e2:=d2.dep
  exact .inr ⟨_,_,d1.dp K H _ (hx.same zu),d2.dp K H _ (hy.same zu),d1.lay,d2.lay,by omega,by omega,q _ _ H h.2.2 (zF.refl _) (.bool _)⟩
 ·exact h.elim
theorem uZ (hu:X.A.units + 64 < cLine) (ha:PE X a (tP pa)) (hb:PE X b (tP pb)):PE X (.Compare a [.Eq] [b] pos) (tP (xi Ye pa pb)):=Yb (J3.or (Qx hu)) KQ (vx _) ha hb
def bD:D->(Bool->Prop)->Prop
 | .bool b,R=>R b
 | _,_=>False
def wJ (pa:zy):wB:=λΓ R=>pa Γ λd=>bD d R
theorem KR {t:TE} (w:∀ σ H Q,tP pa σ H Q->t σ H Q) (σ:St) (H:Hp) (Q:Bool->Hp->Prop):xD (wJ pa) σ H Q->J9 t σ H Q:=λ⟨Z,Γ,R,E,h,q⟩=>
 w _ _ _ ⟨Z,Γ,_,E,h,λd v H1 hd s1 hv=>by
  unfold bD at hd
  split at hd
  ·cases hv; exact ⟨_,rfl,q _ H1 hd s1⟩
  ·exact hd.elim⟩
theorem yY (ha:PE X e (tP pa)) (he:∀ whole,isTrue e X.env whole=(do let v <- whole; standAt e.pos; holding [v] (truthy v)):=by intro _; rfl):PT X e (xD (wJ pa)):=YY (zPR ha he) (KR λ_ _ _ h=>h)
theorem qS {op:CmpOp} {r:R2} {f:F2} (ho:yw X (compareOp op) r) (o:wr r f) (hm:behindInMarks op b=false) (ha:PE X a (tP pa)) (hb:PE X b (tP pb)):PT X (.Compare a [op] [b] pos) (xD (wJ (xi f pa pb))):=YY (QA ho ha hb hm) (KR (YZ o))
theorem xk (hu:X.A.units + 64 < cLine) (ha:PE X a (tP pa)) (hb:PE X b (tP pb)):PT X (.Compare a [.Eq] [b] pos) (xD (wJ (xi Ye pa pb))):=qS (J3.or (Qx hu)) KQ (vx _) ha hb
theorem Wo (hu:X.A.units + 64 < cLine) (ha:PE X a (tP pa)) (hb:PE X b (tP pb)):PT X (.Compare a [.NotEq] [b] pos) (xD (wJ (xi uY pa pb))):=qS (J4.or (zPv hu)) zP3 (vx _) ha hb
theorem Wp (ha:PE X a (tP pa)) (hb:PE X b (tP pb)):PT X (.Compare a [.Lt] [b] pos) (xD (wJ (xi (wI λi j=>decide (i < j)) pa pb))):=qS J5 ji (vx _) ha hb
theorem Wq (ha:PE X a (tP pa)) (hb:PE X b (tP pb)):PT X (.Compare a [.LtE] [b] pos) (xD (wJ (xi (wI λi j=>decide (i<=j)) pa pb))):=qS J7 ji (vx _) ha hb
theorem gr (ha:PE X a (tP pa)) (hb:PE X b (tP pb)):PT X (.Compare a [.Gt] [b] pos) (xD (wJ (xi (wI λi j=>decide (j < i)) pa pb))):=qS gE ji (vx _) ha hb
theorem zPN (ha:PE X a (tP pa)) (hb:PE X b (tP pb)):PT X (.Compare a [.GtE] [b] pos) (xD (wJ (xi (wI λi j=>decide (j<=i)) pa pb))):=qS J8 ji (vx _) ha hb
def wV (b:Bool) (A B:Prop):Prop:=(b=true->A)/\(b=false->B)
theorem wT {b:Bool} {A B:Prop} (e:b=true) (h:A):wV b A B:=⟨λ_=>h,λz=>nomatch e.symm.trans z⟩
theorem wF {b:Bool} {A B:Prop} (e:b=false) (h:B):wV b A B:=⟨λz=>(nomatch e.symm.trans z),λ_=>h⟩
theorem w2 {b:Bool} {A B:Prop} (h1:b=true->A) (h2:b=false->B):wV b A B:=⟨h1,h2⟩
def Wr (p q:wB):wB:=λΓ R=>p Γ λc=>wV c (q Γ R) (R false)
def pOr (p q:wB):wB:=λΓ R=>p Γ λc=>wV c (R true) (q Γ R)
def Ws (p:wB):wB:=λΓ R=>p Γ λc=>R (!c)
theorem Wt (ha:PT X a (xD qa)):PW X (.BoolOp .And [a] pos) (xD qa):=zN9 ha
theorem vL (ha:PT X a (xD qa)):PW X (.BoolOp .Or [a] pos) (xD qa):=zPL ha
theorem Wu {yX:List Expr} (ha:PT X a (xD qa)) (hb:PW X (.BoolOp .And (b :: yX) pos) (xD qb)):PW X (.BoolOp .And (a :: b :: yX) pos) (xD (Wr qa qb)):=KG (zPM ha hb) λσ H Q ⟨Z,Γ,R,E,h,q⟩=>
 ⟨Z,Γ,_,E,h,λc H1 hc s1=>by
  cases c with
  | true=>exact ⟨Z,Γ,R,E.same s1,hc.1 rfl,λb H2 hb s2=>q b H2 hb (s1.trans s2)⟩
  | false=>exact q _ H1 (hc.2 rfl) s1⟩
theorem wW {yX:List Expr} (ha:PT X a (xD qa)) (hb:PW X (.BoolOp .Or (b :: yX) pos) (xD qb)):PW X (.BoolOp .Or (a :: b :: yX) pos) (xD (pOr qa qb)):=KG (qr ha hb) λσ H Q ⟨Z,Γ,R,E,h,q⟩=>
 ⟨Z,Γ,_,E,h,λc H1 hc s1=>by
  cases c with
  | true=>exact q _ H1 (hc.1 rfl) s1
  | false=>exact ⟨Z,Γ,R,E.same s1,hc.2 rfl,λb H2 hb s2=>q b H2 hb (s1.trans s2)⟩⟩
theorem yy (ha:PT X a (xD qa)):PT X (.UnaryOp .Not a pos) (xD (Ws qa)):=YY (zPS ha) λσ H Q ⟨Z,Γ,R,E,h,q⟩=>⟨Z,Γ,_,E,h,λc H1 hc s1=>q _ H1 hc s1⟩
def gt (p q:zy):zy:=λΓ R=>p Γ λd=>bD d λc=>wV c (q Γ R) (R (.bool false))
def gu (p:zy):zy:=λΓ R=>p Γ λd=>bD d λc=>R (.bool !c)
theorem vZ {op} (ha:PE X a (tP pa)):PE X (.BoolOp op [a] pos) (tP pa):=zPi ha
theorem wM {yX:List Expr} (ha:PE X a (tP pa)) (hb:PE X (.BoolOp .And (b :: yX) pos) (tP pb)):PE X (.BoolOp .And (a :: b :: yX) pos) (tP (gt pa pb)):=yG (zPn ha hb) λσ H Q ⟨Z,Γ,R,E,h,q⟩=>
 ⟨Z,Γ,_,E,h,λd v H1 hd s1 hv=>by
  unfold bD at hd
  split at hd
  ·cases hv
   rename_i c
   refine ⟨c,rfl,?_⟩
   cases c with
   | true=>exact ⟨Z,Γ,R,E.same s1,hd.1 rfl,λb v H2 hb s2 k=>q b v H2 hb (s1.trans s2) k⟩
   | false=>exact q _ _ H1 (hd.2 rfl) s1 (.bool _)
  ·exact hd.elim⟩
theorem zPO (ha:PE X a (tP pa)):PE X (.UnaryOp .Not a pos) (tP (gu pa)):=yG (zPj ha) λσ H Q ⟨Z,Γ,R,E,h,q⟩=>
 ⟨Z,Γ,_,E,h,λd v H1 hd s1 hv=>by
  unfold bD at hd
  split at hd
  ·cases hv; exact ⟨_,rfl,q _ _ H1 hd s1 (.bool _)⟩
  ·exact hd.elim⟩
def Wv (t:wB) (p q:zy):zy:=λΓ R=>t Γ λc=>wV c (p Γ R) (q Γ R)
theorem zMa (hc:PT X c (xD qa)) (ha:PE X a (tP pa)) (hb:PE X b (tP pb)):PE X (.IfExp c a b pos) (tP (Wv qa pa pb)):=yG (zMl hc ha hb) λσ H Q ⟨Z,Γ,R,E,h,q⟩=>
 ⟨Z,Γ,_,E,h,λc H1 hd s1=>by
  cases c with
  | true=>exact ⟨Z,Γ,R,E.same s1,hd.1 rfl,λb v H2 hb s2 k=>q b v H2 hb (s1.trans s2) k⟩
  | false=>exact ⟨Z,Γ,R,E.same s1,hd.2 rfl,λb v H2 hb s2 k=>q b v H2 hb (s1.trans s2) k⟩⟩
def Ww:yx:=λ_ R=>R []
def gv (pa:zy) (pl:yx):yx:=λΓ R=>pa Γ λd=>pl Γ λds=>R (d :: ds)
theorem zC:PA X [] (wL Ww):=KH yI λσ H Q ⟨_,_,_,_,h,q⟩=>q _ _ H h (zF.refl _) .nil
theorem zB (ha:PE X e (tP pa)) (hr:PA X es (wL pl)) (hs:starEach (e :: es) X.env=(false,eval e X.env) :: starEach es X.env:=by rfl):PA X (e :: es) (wL (gv pa pl)):=KH (zl ha hr hs) λσ H Q ⟨Z,Γ,R,E,h,q⟩=>
 ⟨Z,Γ,_,E,h,λd v H1 hd s1 hv=>⟨Z,Γ,_,E.same s1,hd,λds vs H2 hds s2 hvs=>q _ _ H2 hds (s1.trans s2) (.cons (hv.same (ye s2)) hvs)⟩⟩
def Wx (pl:yx):zy:=λΓ R=>pl Γ λds=>ds.length<=1000/\R (.tup ds)
def Wy (pl:yx):zy:=λΓ R=>pl Γ λds=>ds.length<=1000/\R (.lst ds)
theorem xA {x1} (ha:PA X es (wL pl)):PE X (.Tuple es x1 pos) (tP (Wx pl)):=yG (zPg ha) λσ H Q ⟨Z,Γ,R,E,h,q⟩=>
 ⟨Z,Γ,_,E,h,λds vs H1 hd s1 hv=>⟨few (by rw [Paired.length hv]; exact hd.1),λp hp=>q _ _ _ hd.2 (s1.trans (xV hp _)) (Yc (E.same s1).zd hp hv)⟩⟩
theorem yH (ha:PA X es (wL pl)):PE X (.List es pos) (tP (Wy pl)):=yG (QF ha) λσ H Q ⟨Z,Γ,R,E,h,q⟩=>
 ⟨Z,Γ,_,E,h,λds vs H1 hd s1 hv=>⟨few (by rw [Paired.length hv]; exact hd.1),λp hp=>q _ _ _ hd.2 (s1.trans (xV hp _)) (uM (E.same s1).zd hp hv)⟩⟩
theorem Yg {α β:Type} {R:α->β->Prop} {xs:List α} {ys:List β} (h:Paired R xs ys) {i:Int} {y:β} (e:yp ys i=some y):∃ x,yp xs i=some x/\R x y:=by
 unfold yp at e |-
 rw [Paired.length h]
 cases k:wl ys.length i with
 | none=>rw [k] at e; cases e
 | some j=>
  rw [k] at e
  exact go h e
where
 go:∀ {xs:List α} {ys:List β} {j:Nat} {y:β},Paired R xs ys->ys[j]? = some y->∃ x,xs[j]? = some x/\R x y
  | _,_,_,_,.nil,e=>by simp at e
  | _,_,0,_,.cons r _,e=>by simp at e; subst e; exact ⟨_,rfl,r⟩
  | _,_,j + 1,y,.cons _ t,e=>by
   obtain ⟨x,h1,h2⟩:=go (j:=j) (y:=y) t (by simpa using e)
   exact ⟨x,by simpa using h1,h2⟩
def Yh:F2
 | .lst ds,.int i,R=>∃ d,yp ds i=some d/\R d
 | .tup ds,.int i,R=>∃ d,yp ds i=some d/\R d
 | .scr ns,.int i,R=>∃ n,yp ns i=some n/\R (.int n)
 | _,_,_=>False
theorem jj {α β:Type} (f:α->β) (xs:List α) (i:Int):yp (xs.map f) i=(yp xs i).map f:=by
 unfold yp
 rw [List.length_map]
 cases wl xs.length i with
 | none=>rfl
 | some j=>exact List.getElem?_map ..
theorem zP4 {K:PySem.W.Frag}:wr (gc K) Yh:=λZ H x y a b R Q zd hx hy h q=>by
 unfold Yh at h
 split at h
 ·obtain ⟨p,xs,rfl,e1,h1⟩:=hx.lst_inv
  cases hy
  obtain ⟨d,hd,hR⟩:=h
  obtain ⟨v,hv,hh⟩:=Yg h1 hd
  exact ⟨p,xs,_,v,rfl,rfl,.inr (zb.of (zu _ _ e1)),hv,q _ _ H hR (zF.refl _) hh⟩
 ·obtain ⟨p,xs,rfl,e1,h1⟩:=hx.tup_inv
  cases hy
  obtain ⟨d,hd,hR⟩:=h
  obtain ⟨v,hv,hh⟩:=Yg h1 hd
  exact ⟨p,xs,_,v,rfl,rfl,.inl (zo.of (zu _ _ e1)),hv,q _ _ H hR (zF.refl _) hh⟩
 ·cases hy
  cases hx with
  | scr e=>
  obtain ⟨n,hn,hR⟩:=h
  exact ⟨_,_,_,.int n,rfl,rfl,.inr (.inl (gk zu e)),by rw [jj,hn]; rfl,q _ _ H hR (zF.refl _) (.int n)⟩
 ·exact h.elim
theorem zP (ha:PE X a (tP pa)) (hb:PE X b (tP pb)) (hs:WJ b):PE X (.Subscript a b pos) (tP (xi Yh pa pb)):=yG (QX zOY ha hb hs) (YZ zP4)
theorem gw {X:Cx} {e:Option Expr} {t t':TO} (h:PO X e t) (w:∀ σ H Q,t' σ H Q->t σ H Q):PO X e t':=λpins s σ H Q I q=>h pins s σ H Q I (w σ H Q q)
def zOJ:jb:=λ_ R=>R none
def iD:D->(Option Int->Prop)->Prop
 | .int i,R=>R (some i)
 | _,_=>False
def g6 (pa:zy):jb:=λΓ R=>pa Γ λd=>iD d R
theorem yn:PO X none (jc zOJ):=gw zOE λσ H Q ⟨_,_,_,_,h,q⟩=>q _ H h (zF.refl _)
theorem ya (h:PE X e (tP pa)):PO X (some e) (jc (g6 pa)):=gw (zOD h) λσ H Q ⟨Z,Γ,R,E,h,q⟩=>
 ⟨Z,Γ,_,E,h,λd v H1 hd s1 hv=>by
  unfold iD at hd
  split at hd
  ·cases hv; exact ⟨_,rfl,q _ H1 hd s1⟩
  ·exact hd.elim⟩
def zV {α:Type} (xs:List α) (lo hi:Option Int):List α:=(xs.drop (HT.sIx xs.length 0 lo)).take (HT.sIx xs.length xs.length hi - HT.sIx xs.length 0 lo)
theorem KS {α β:Type} {R:α->β->Prop}:∀ {xs:List α} {ys:List β} (n:Nat),Paired R xs ys->Paired R (xs.take n) (ys.take n)
 | _,_,0,_=>.nil
 | _,_,_ + 1,.nil=>.nil
 | _,_,n + 1,.cons h t=>.cons h (KS n t)
theorem KT {α β:Type} {R:α->β->Prop}:∀ {xs:List α} {ys:List β} (n:Nat),Paired R xs ys->Paired R (xs.drop n) (ys.drop n)
 | _,_,0,h=>h
 | _,_,_ + 1,.nil=>.nil
 | _,_,n + 1,.cons _ t=>KT n t
theorem Wz {α β:Type} {R:α->β->Prop} {xs:List α} {ys:List β} (h:Paired R xs ys) (lo hi:Option Int):Paired R (zV xs lo hi) (zV ys lo hi):=by
 unfold zV
 rw [Paired.length h]
 exact KS _ (KT _ h)
def KU:D->Option Int->Option Int->(D->Prop)->Prop
 | .lst ds,lo,hi,R=>R (.lst (zV ds lo hi))
 | .tup ds,lo,hi,R=>R (.tup (zV ds lo hi))
 | _,_,_,_=>False
def pSl (pa:zy) (po qo:jb):zy:=λΓ R=>pa Γ λd=>po Γ λl=>qo Γ λu=>KU d l u R
theorem zPC {X:Cx} {r r':V->Option Int->Option Int->Hp->VK->Prop} (h:jS X r) (h':jS X r'):jS X (λx l u H Q=>r x l u H Q\/r' x l u H Q):=λpins s σ H x v vl vu lo hi sl Q I r1 r2 r3 r4 q=>
 q.elim (h pins s σ H x v vl vu lo hi sl Q I r1 r2 r3 r4) (h' pins s σ H x v vl vu lo hi sl Q I r1 r2 r3 r4)
theorem yk {lo hi:Option Expr} {po qo:jb} {p2:Pos} (ha:PE X a (tP pa)) (hl:PO X lo (jc po)) (hu:PO X hi (jc qo)):PE X (.Subscript a (.Slice lo hi none p2) pos) (tP (pSl pa po qo)):=yG (QS (zPC QZ zM7) ha hl hu) λσ H Q ⟨Z,Γ,R,E,h,q⟩=>
 ⟨Z,Γ,_,E,h,λd v H1 hd s1 hv=>⟨Z,Γ,_,E.same s1,hd,λl H2 hl s2=>⟨Z,Γ,_,E.same (s1.trans s2),hl,λu H3 hu s3=>by
  have s:=s1.trans (s2.trans s3)
  have hv:=hv.same (ye (s2.trans s3))
  have zd:=(E.same s).zd
  unfold KU at hu
  split at hu
  ·obtain ⟨p,xs,rfl,e1,h1⟩:=hv.lst_inv
   exact .inl ⟨p,xs,rfl,zb.of (zu _ _ e1),λn hn=>q _ _ _ hu (s.trans (xV hn _)) (uM zd hn (Wz h1 _ _))⟩
  ·obtain ⟨p,xs,rfl,e1,h1⟩:=hv.tup_inv
   exact .inr ⟨p,xs,rfl,zu _ _ e1,λn H' s' e=>q _ _ _ hu (s.trans s') (KJ (zd.same s') e (yr (ye s') (Wz h1 _ _)))⟩
  ·exact hu.elim⟩⟩⟩
abbrev FL:=List D->(D->Prop)->Prop
def v6 (r:List V->Hp->VK->Prop) (f:FL):Prop:=∀ (Z:Addr->Prop) (H:Hp) (vs:List V) (ds:List D) (R:D->Prop) (Q:VK),ZL Z H->yN (zQ Z H) vs ds->f ds R->(∀ d v H',R d->zF H H'->DV (zQ Z H') v d->Q v H')->r vs H Q
def jA (f:FL) (pl:yx):zy:=λΓ R=>pl Γ λds=>f ds R
theorem KW {r:List V->Hp->VK->Prop} {f:FL} (o:v6 r f) (σ:St) (H:Hp) (Q:VK):tP (jA f pl) σ H Q->gI r (wL pl) σ H Q:=λ⟨Z,Γ,R,E,h,q⟩=>
 ⟨Z,Γ,_,E,h,λds vs H1 hd s1 hv=>o Z H1 vs ds R Q (E.same s1).zd hv hd λd v H2 h2 s2 hv2=>q d v H2 h2 (s1.trans s2) hv2⟩
theorem zj {x:Str} {id:String} {p:Pos} {r:List V->Hp->VK->Prop} {f:FL} (hc:wz X (.builtin id) r) (o:v6 r f) (hg:Gl X x) (hm:X.mg x=none) (hv:bootBuiltins x=some (.builtin id)) (ha:PA X (e :: es) (wL pl)) (hn:x≠"__name__":=by decide) (hdb:(x == ("__debug__" : Str))=false:=by decide)
  (he:starEach (e :: es) X.env=(false,eval e X.env) :: starEach es X.env:=by rfl) (hpl:(backTo pos (starEach es X.env)).any (·.1)=false:=by rfl):PE X (.Call (.Name x p) (e :: es) [] pos) (tP (jA f pl)):=yG (xY hc hg hm hv ha hn hdb he hpl) (KW o)
theorem xB {x:Str} {T:String} {p:Pos} {r:List V->Hp->VK->Prop} {f:FL} (hc:wz X (.type T) r) (o:v6 r f) (hg:Gl X x) (hm:X.mg x=none) (hv:bootBuiltins x=some (.type T)) (ha:PA X (e :: es) (wL pl)) (hn:x≠"__name__":=by decide) (hdb:(x == ("__debug__" : Str))=false:=by decide)
  (he:starEach (e :: es) X.env=(false,eval e X.env) :: starEach es X.env:=by rfl) (hpl:(backTo pos (starEach es X.env)).any (·.1)=false:=by rfl):PE X (.Call (.Name x p) (e :: es) [] pos) (tP (jA f pl)):=yG (zKj hc hg hm hv ha hn hdb he hpl) (KW o)
def g9:FL
 | [.lst ds],R=>R (.int ds.length)
 | [.tup ds],R=>R (.int ds.length)
 | [.scr ns],R=>R (.int ns.length)
 | _,_=>False
theorem yz {H:Hp} {vs:List V} {d:D} (h:yN H vs [d]):∃ v,vs=[v]/\DV H v d:=by
 cases h with
 | cons h t=>cases t; exact ⟨_,rfl,h⟩
theorem va {H:Hp} {vs:List V} {d e:D} (h:yN H vs [d,e]):∃ v w,vs=[v,w]/\DV H v d/\DV H w e:=by
 cases h with
 | cons h t=>obtain ⟨w,rfl,k⟩:=yz t; exact ⟨_,_,rfl,h,k⟩
theorem yS {K:PySem.W.Frag}:v6 (λxs H Q=>∃ p ys,xs=[.ref p]/\(zb K H p ys\/zo K H p ys)/\Q (.int ys.length) H) g9:=λZ H vs ds R Q zd hv h q=>by
 unfold g9 at h
 split at h
 ·obtain ⟨v,rfl,hw⟩:=yz hv
  obtain ⟨p,xs,rfl,e1,h1⟩:=hw.lst_inv
  exact ⟨p,xs,rfl,.inl (zb.of (zu _ _ e1)),by rw [Paired.length h1]; exact q _ _ H h (zF.refl _) (.int _)⟩
 ·obtain ⟨v,rfl,hw⟩:=yz hv
  obtain ⟨p,xs,rfl,e1,h1⟩:=hw.tup_inv
  exact ⟨p,xs,rfl,.inr (zo.of (zu _ _ e1)),by rw [Paired.length h1]; exact q _ _ H h (zF.refl _) (.int _)⟩
 ·obtain ⟨v,rfl,hw⟩:=yz hv
  cases hw with
  | scr e=>exact ⟨_,_,rfl,.inl (.inl (gk zu e)),by rw [List.length_map]; exact q _ _ H h (zF.refl _) (.int _)⟩
 ·exact h.elim
def KY:FL
 | [.lst ds],R=>R (.lst ds)
 | [.tup ds],R=>R (.lst ds)
 | _,_=>False
theorem vn {K:PySem.W.Frag}:v6 (λxs H Q=>∃ p ys,xs=[.ref p]/\(zb K H p ys\/zo K H p ys)/\∀ l,H l=none->Q (.ref l) (zZ H l (.lst ys))) KY:=λZ H vs ds R Q zd hv h q=>by
 unfold KY at h
 split at h
 ·obtain ⟨v,rfl,hw⟩:=yz hv
  obtain ⟨p,xs,rfl,e1,h1⟩:=hw.lst_inv
  exact ⟨p,xs,rfl,.inl (zb.of (zu _ _ e1)),λl hl=>q _ _ _ h (xV hl _) (uM zd hl h1)⟩
 ·obtain ⟨v,rfl,hw⟩:=yz hv
  obtain ⟨p,xs,rfl,e1,h1⟩:=hw.tup_inv
  exact ⟨p,xs,rfl,.inr (zo.of (zu _ _ e1)),λl hl=>q _ _ _ h (xV hl _) (uM zd hl h1)⟩
 ·exact h.elim
def kA:FL
 | [.lst ds],R=>R (.tup ds)
 | [.tup ds],R=>R (.tup ds)
 | _,_=>False
theorem vE {K:PySem.W.Frag}:v6 (λxs H Q=>∃ p ys,xs=[.ref p]/\((zb K H p ys/\∀ l,H l=none->Q (.ref l) (zZ H l (.tup ys)))\/(zo K H p ys/\Q (.ref p) H))) kA:=λZ H vs ds R Q zd hv h q=>by
 unfold kA at h
 split at h
 ·obtain ⟨v,rfl,hw⟩:=yz hv
  obtain ⟨p,xs,rfl,e1,h1⟩:=hw.lst_inv
  exact ⟨p,xs,rfl,.inl ⟨zb.of (zu _ _ e1),λl hl=>q _ _ _ h (xV hl _) (Yc zd hl h1)⟩⟩
 ·obtain ⟨v,rfl,hw⟩:=yz hv
  obtain ⟨p,xs,rfl,e1,h1⟩:=hw.tup_inv
  exact ⟨p,xs,rfl,.inr ⟨zo.of (zu _ _ e1),q _ _ _ h (zF.refl _) hw⟩⟩
 ·exact h.elim
def kB:FL
 | [.lst ds],R=>∃ ns:List Int,ds=ns.map D.int/\R (.int ns.sum)
 | _,_=>False
theorem qU {K:PySem.W.Frag}:v6 (λxs H Q=>∃ (p:Addr) (ns:List Int),xs=[.ref p]/\zb K H p (ns.map V.int)/\Q (.int ns.sum) H) kB:=λZ H vs ds R Q zd hv h q=>by
 unfold kB at h
 split at h
 ·obtain ⟨v,rfl,hw⟩:=yz hv
  obtain ⟨p,xs,rfl,e1,h1⟩:=hw.lst_inv
  obtain ⟨ns,rfl,h⟩:=h
  cases KE h1
  exact ⟨p,ns,rfl,zb.of (zu _ _ e1),q _ _ H h (zF.refl _) (.int _)⟩
 ·exact h.elim
def kC:FL
 | [.lst ds],R=>∃ bs:List Bool,ds=bs.map D.bool/\R (.bool (bs.all id))
 | _,_=>False
theorem wt {K:PySem.W.Frag}:v6 (λxs H Q=>∃ (p:Addr) (bs:List Bool),xs=[V.ref p]/\zb K H p (bs.map V.bl)/\Q (V.bl (bs.all id)) H) kC:=λZ H vs ds R Q zd hv h q=>by
 unfold kC at h
 split at h
 ·obtain ⟨v,rfl,hw⟩:=yz hv
  obtain ⟨p,xs,rfl,e1,h1⟩:=hw.lst_inv
  obtain ⟨ns,rfl,h⟩:=h
  cases Wf h1
  exact ⟨p,ns,rfl,zb.of (zu _ _ e1),q _ _ H h (zF.refl _) (.bool _)⟩
 ·exact h.elim
def kD:FL
 | [.int i,.int j],R=>R (.int (max i j))
 | _,_=>False
theorem kF:v6 (λxs H Q=>∃ i j,xs=[.int i,.int j]/\Q (.int (if j > i then j else i)) H) kD:=λZ H vs ds R Q zd hv h q=>by
 unfold kD at h
 split at h
 ·rename_i i j
  obtain ⟨v,w,rfl,hx,hy⟩:=va hv
  cases hx; cases hy
  refine ⟨_,_,rfl,?_⟩
  have e:(if j > i then j else i)=max i j:=by rw [Int.max_def]; split <;> split <;> omega
  rw [e]
  exact q _ _ H h (zF.refl _) (.int _)
 ·exact h.elim
def kG:FL
 | [.int i],R=>R (.int i)
 | [.bool b],R=>R (.int (if b=true then 1 else 0))
 | _,_=>False
theorem KZ:v6 (λxs H Q=>(∃ i,xs=[.int i]/\Q (.int i) H)\/∃ k,xs=[.bl k]/\Q (.int (if k then 1 else 0)) H) kG:=λZ H vs ds R Q zd hv h q=>by
 unfold kG at h
 split at h
 ·obtain ⟨v,rfl,hw⟩:=yz hv
  cases hw
  exact .inl ⟨_,rfl,q _ _ H h (zF.refl _) (.int _)⟩
 ·obtain ⟨v,rfl,hw⟩:=yz hv
  cases hw
  exact .inr ⟨_,rfl,q _ _ H h (zF.refl _) (.int _)⟩
 ·exact h.elim
end
end Pu
namespace Pu
open PySem L2 Sh
def setN:St->List Nat->List V->St
 | σ,j :: js,v :: vs=>setN (σ.set j (some v)) js vs
 | σ,_,_=>σ
def Yi:List Sl->List Nat->List D->List Sl
 | Γ,j :: js,d :: ds=>Yi (zq Γ j (.sh d)) js ds
 | Γ,_,_=>Γ
theorem Ka:∀ (σ:St) (js ks:List Nat) (vs ws:List V),js.length=vs.length->setN σ (js++ks) (vs++ws)=setN (setN σ js vs) ks ws
 | _,[],_,[],_,_=>rfl
 | σ,j :: js,ks,v :: vs,ws,h=>Ka (σ.set j (some v)) js ks vs ws (Nat.succ.inj h)
 | _,[],_,_ :: _,_,h=>nomatch h
 | _,_ :: _,_,[],_,h=>nomatch h
def uO:Option (List D)->(List D->Prop)->Prop
 | some os,k=>k os
 | none,_=>False
theorem kH {o:Option (List D)} {k:List D->Prop} (h:uO o k):∃ os,o=some os/\k os:=by
 cases o with
 | none=>exact h.elim
 | some os=>exact ⟨os,rfl,h⟩
inductive tG (js:List Nat) (po:D->Option (List D)) (v:V) (σ:St) (H:Hp) (Q:St->Hp->Prop):Prop
 | mk (Z:Addr->Prop) (d:D) (os:List D) (hv:DV (zQ Z H) v d) (ho:po d=some os) (q:∀ vs,yN (zQ Z H) vs os->Q (setN σ js vs) H):tG js po v σ H Q
inductive Kb (js:List Nat) (po:List D->Option (List D)) (us:List V) (σ:St) (H:Hp) (Q:St->Hp->Prop):Prop
 | mk (Z:Addr->Prop) (ds os:List D) (hv:yN (zQ Z H) us ds) (ho:po ds=some os) (q:∀ vs,yN (zQ Z H) vs os->Q (setN σ js vs) H):Kb js po us σ H Q
structure qW (X:Cx) (es:List Expr) (js:List Nat) (po:List D->Option (List D)) (n:Nat):Prop where
 g:j9 X es (Kb js po)
 l:∀ ds os,po ds=some os->ds.length=n
 k:∀ ds os,po ds=some os->os.length=js.length
section
variable {X:Cx} {pos:Pos}
def Kc:D->Option (List D):=λd=>some [d]
theorem zz (i:Nat) {x:Str} (hN:X.N.Nodup) (hi:X.N[i]? = some x) (hx:uv X.env.scope x) (hf:X.fn x=true\/X.env.scope.names.lookup x=some .local:=by first | exact .inl rfl | exact .inr rfl | assumption):PG X (.Name x pos) (tG [i] Kc):=
 λpins s σ H v u Q I r ⟨_,_,_,hv,ho,q⟩=>Jr hN hi hx hf pins s σ H v u Q I r (by
  cases ho
  exact q [v] (.cons hv .nil))
def Ke:List D->Option (List D)
 | []=>some []
 | _=>none
def Kf (po:List D->Option (List D)):List D->Option (List D)
 | d :: ds=>(po ds).map (d :: ·)
 | []=>none
def Kg (p:D->Option (List D)) (po:List D->Option (List D)):List D->Option (List D)
 | d :: ds=>(p d).bind λa=>(po ds).map (a++·)
 | []=>none
def Yj (po:List D->Option (List D)):D->Option (List D)
 | .tup ds=>po ds
 | .lst ds=>po ds
 | _=>none
theorem xH:qW X [] [] Ke 0 where
 g:=λpins s σ H vs us Q I r ⟨_,ds,os,hv,ho,q⟩=>by
  cases ds with
  | nil=>cases hv; exact zOG pins s σ H [] us Q I r ⟨rfl,q [] (by cases ho; exact .nil)⟩
  | cons=>cases ho
 l:=λds os h=>by cases ds with | nil=>rfl | cons=>cases h
 k:=λds os h=>by cases ds with | nil=>cases h; rfl | cons=>cases h
theorem zY (i:Nat) {x:Str} {es:List Expr} {js:List Nat} {po:List D->Option (List D)} {n:Nat} (hN:X.N.Nodup) (hi:X.N[i]? = some x) (hx:uv X.env.scope x) (h:qW X es js po n)
  (hs:(assignEach (.Name x pos :: es) X.env).map (·.2)=assign (.Name x pos) X.env :: (assignEach es X.env).map (·.2):=by rfl) (hf:X.fn x=true\/X.env.scope.names.lookup x=some .local:=by first | exact .inl rfl | exact .inr rfl | assumption):qW X (.Name x pos :: es) (i :: js) (Kf po) (n + 1) where
 g:=λpins s σ H vs us Q I r ⟨Z,ds,os,hv,ho,q⟩=>by
  cases hv with
  | nil=>cases ho
  | @cons v d vt dt hv ht=>
   change (po dt).map (d :: ·)=some os at ho
   cases e:po dt with
   | none=>rw [e] at ho; cases ho
   | some os'=>
    rw [e] at ho
    cases ho
    exact Js (Jr hN hi hx hf) h.g hs pins s σ H _ us Q I r ⟨v,vt,rfl,Z,dt,os',ht,e,λvs hvs=>q (v :: vs) (.cons hv hvs)⟩
 l:=λds os q=>by
  cases ds with
  | nil=>cases q
  | cons d dt=>
   change (po dt).map (d :: ·)=some os at q
   cases e:po dt with
   | none=>rw [e] at q; cases q
   | some os'=>rw [List.length_cons,h.l dt os' e]
 k:=λds os q=>by
  cases ds with
  | nil=>cases q
  | cons d dt=>
   change (po dt).map (d :: ·)=some os at q
   cases e:po dt with
   | none=>rw [e] at q; cases q
   | some os'=>rw [e] at q; cases q; rw [List.length_cons,List.length_cons,h.k dt os' e]
theorem xl {H:Hp} {vs:List V} {ds:List D} (h:yN H vs ds):vs.length=ds.length:=Paired.length h
theorem zKY {e:Expr} {es:List Expr} {js ks:List Nat} {p:D->Option (List D)} {po:List D->Option (List D)} {n:Nat} (h1:PG X e (tG js p)) (hk:∀ d os,p d=some os->os.length=js.length) (h:qW X es ks po n)
  (hs:(assignEach (e :: es) X.env).map (·.2)=assign e X.env :: (assignEach es X.env).map (·.2):=by rfl):qW X (e :: es) (js++ks) (Kg p po) (n + 1) where
 g:=λpins s σ H vs us Q I r ⟨Z,ds,os,hv,ho,q⟩=>by
  cases hv with
  | nil=>cases ho
  | @cons v d vt dt hv ht=>
   change (p d).bind (λa=>(po dt).map (a++·))=some os at ho
   cases e1:p d with
   | none=>rw [e1] at ho; cases ho
   | some a=>
    rw [e1] at ho
    change (po dt).map (a++·)=some os at ho
    cases e2:po dt with
    | none=>rw [e2] at ho; cases ho
    | some b=>
     rw [e2] at ho
     cases ho
     refine Js h1 h.g hs pins s σ H _ us Q I r ⟨v,vt,rfl,Z,d,a,hv,e1,λvs1 h1=>⟨Z,dt,b,ht,e2,λvs2 h2=>?_⟩⟩
     rw [<- Ka σ js ks vs1 vs2 (by rw [xl h1,hk d a e1])]
     exact q _ (qK h1 h2)
 l:=λds os q=>by
  cases ds with
  | nil=>cases q
  | cons d dt=>
   change (p d).bind (λa=>(po dt).map (a++·))=some os at q
   cases e1:p d with
   | none=>rw [e1] at q; cases q
   | some a=>
    rw [e1] at q
    change (po dt).map (a++·)=some os at q
    cases e2:po dt with
    | none=>rw [e2] at q; cases q
    | some b=>rw [List.length_cons,h.l dt b e2]
 k:=λds os q=>by
  cases ds with
  | nil=>cases q
  | cons d dt=>
   change (p d).bind (λa=>(po dt).map (a++·))=some os at q
   cases e1:p d with
   | none=>rw [e1] at q; cases q
   | some a=>
    rw [e1] at q
    change (po dt).map (a++·)=some os at q
    cases e2:po dt with
    | none=>rw [e2] at q; cases q
    | some b=>rw [e2] at q; cases q; rw [List.length_append,List.length_append,h.k dt b e2,hk d a e1]
theorem v7 {po:List D->Option (List D)} {js:List Nat} (h:∀ ds os,po ds=some os->os.length=js.length):∀ d os,Yj po d=some os->os.length=js.length:=λd os q=>by
 unfold Yj at q
 split at q
 ·exact h _ _ q
 ·exact h _ _ q
 ·cases q
theorem xI {es:List Expr} {js:List Nat} {po:List D->Option (List D)} {n k:Nat} (hc:X.calm=true) (h:qW X es js po n) (hn:(assignEach es X.env).length=n:=by rfl) (hst:(assignEach es X.env).findIdx? (·.1)=none:=by rfl):PG X (.Tuple es k pos) (tG js (Yj po)):=
 λpins s σ H v u Q I r ⟨Z,d,os,hv,ho,q⟩=>by
  unfold Yj at ho
  split at ho
  ·obtain ⟨p,xs,rfl,e,hx⟩:=hv.tup_inv
   exact zPd hc h.g hn hst pins s σ H _ u Q I r ⟨p,xs,rfl,zo.of (zu _ _ e),by rw [xl hx]; exact h.l _ _ ho,Z,_,os,hx,ho,q⟩
  ·obtain ⟨p,xs,rfl,e,hx⟩:=hv.lst_inv
   exact zPf hc h.g hn hst pins s σ H _ u Q I r ⟨p,xs,rfl,zb.of (zu _ _ e),by rw [xl hx]; exact h.l _ _ ho,Z,_,os,hx,ho,q⟩
  ·cases ho
end
def Wk (Z:Addr->Prop) (J:It) (H:Hp) (ds:List D):Prop:=∀ i Z' H',zF (zQ Z H) (zQ Z' H')->ZL Z' H'->(∀ d,ds[i]? = some d->J.go i H'/\∀ x H'',J.yld i H' x H''->zF H' H''/\DV (zQ Z' H'') x d)/\(i=ds.length->J.stop i H')
inductive ua (p:yx) (σ:St) (H:Hp) (Q:It->Hp->Prop):Prop
 | mk (Z:Addr->Prop) (Γ:List Sl) (R:List D->Prop) (E:yD Z Γ σ H) (h:p Γ R) (q:∀ ds J H',R ds->zF H H'->Wk Z J H' ds->Q J H'):ua p σ H Q
theorem kI {α β:Type} {R:α->β->Prop} {xs:List α} {ys:List β} (h:Paired R xs ys) {j:Nat} {y:β} (e:ys[j]? = some y):∃ x,xs[j]? = some x/\R x y:=Yg.go h e
section
variable {X:Cx} {tg e e1 e2:Expr} {pos:Pos} {pa:zy} {pl:yx}
theorem Yk {w w':TI} (h:PI X tg e w) (k:∀ σ H R,w' σ H R->w σ H R):PI X tg e w':=λpins s σ H R I q=>h pins s σ H R I (k σ H R q)
def W0 (K:PySem.W.Frag) (tl:TE):TI:=λσ H R=>tl σ H λx H1=>(∃ a,x=.ref a/\(∃ xs,zb K H1 a xs)/\R (X9 K a) H1)\/∃ a,x=.ref a/\(∃ xs,zo K H1 a xs)/\R (WA K a) H1
theorem zPc {l:Expr} {tl:TE} (hl:PE X l tl):PI X tg l (W0 X.K tl):=by
 intro pins s σ H R I h
 refine ze (hl pins s σ H _ I h) λv s1 ⟨x,H1,I1,r1,q1⟩=>?_
 rcases q1 with ⟨a,e,⟨xs,hq⟩,q⟩ | ⟨a,e,⟨xs,hq⟩,q⟩
 ·subst e
  cases r1
  obtain ⟨its,rv,p,hz⟩:=I1.list hq
  refine PySem.wpAny_pyIter_list p.isList ?_
  refine ⟨s1.heap.objs.size,[s1.heap.objs.size],_,_,H1,rfl,I1.kept (t':=s1.toks) λb o e=>Heap.get?_push_of_some _ e,zJ9 a _,⟨_,Heap.get?_push_size _ rfl,rfl,rfl⟩,λb hb=>?_,q⟩
  have e:b=s1.heap.objs.size:=by simpa using hb
  subst e
  exact I1.fpOk (Nat.le_refl _) (I1.hok.fresh (Nat.le_refl _))
 ·subst e
  cases r1
  obtain ⟨its,rv,p,hz⟩:=I1.tuple hq
  refine PySem.wpAny_pyIter_tuple (show s1.heap.IsTuple a its.toArray from p) ?_
  refine ⟨s1.heap.objs.size,[s1.heap.objs.size],_,_,H1,rfl,I1.kept (t':=s1.toks) λb o e=>Heap.get?_push_of_some _ e,zJR a _,⟨_,Heap.get?_push_size _ rfl,rfl,rfl⟩,λb hb=>?_,q⟩
  have e:b=s1.heap.objs.size:=by simpa using hb
  subst e
  exact I1.fpOk (Nat.le_refl _) (I1.hok.fresh (Nat.le_refl _))
def jk:D->(List D->Prop)->Prop
 | .lst ds,R=>R ds
 | .tup ds,R=>R ds
 | _,_=>False
def kJ (pa:zy):yx:=λΓ R=>pa Γ λd=>jk d R
theorem zNy {K:PySem.W.Frag} {Z:Addr->Prop} {H:Hp} {p:Addr} {xs:List V} {ds:List D} (e:zQ Z H p=some (.lst xs)) (h:yN (zQ Z H) xs ds):Wk Z (X9 K p) H ds:=λi Z' H' s zd=>by
 have e1:=zu _ _ (s _ _ e)
 refine ⟨λd hd=>?_,λhi=>⟨xs,zb.of e1,by rw [xl h]; omega⟩⟩
 obtain ⟨x,hx,hh⟩:=kI h hd
 refine ⟨⟨xs,x,zb.of e1,hx⟩,λy H'' ⟨e2,hy⟩=>?_⟩
 subst e2
 have:=hy xs (zb.of e1)
 rw [hx] at this
 cases this
 exact ⟨zF.refl _,hh.same s⟩
theorem zOx {K:PySem.W.Frag} {Z:Addr->Prop} {H:Hp} {p:Addr} {xs:List V} {ds:List D} (e:zQ Z H p=some (.tup xs)) (h:yN (zQ Z H) xs ds):Wk Z (WA K p) H ds:=λi Z' H' s zd=>by
 have e1:=zu _ _ (s _ _ e)
 refine ⟨λd hd=>?_,λhi=>⟨xs,zo.of e1,by rw [xl h]; omega⟩⟩
 obtain ⟨x,hx,hh⟩:=kI h hd
 refine ⟨⟨xs,x,zo.of e1,hx⟩,λy H'' ⟨e2,hy⟩=>?_⟩
 subst e2
 have:=hy xs (zo.of e1)
 rw [hx] at this
 cases this
 exact ⟨zF.refl _,hh.same s⟩
theorem yt (ha:PE X e (tP pa)):PI X tg e (ua (kJ pa)):=Yk (zPc ha) λσ H Q ⟨Z,Γ,R,E,h,q⟩=>
 ⟨Z,Γ,_,E,h,λd v H1 hd s1 hv=>by
  unfold jk at hd
  split at hd
  ·obtain ⟨p,xs,rfl,e,hx⟩:=hv.lst_inv
   exact .inl ⟨p,rfl,⟨xs,zb.of (zu _ _ e)⟩,q _ _ H1 hd s1 (zNy e hx)⟩
  ·obtain ⟨p,xs,rfl,e,hx⟩:=hv.tup_inv
   exact .inr ⟨p,rfl,⟨xs,zo.of (zu _ _ e)⟩,q _ _ H1 hd s1 (zOx e hx)⟩
  ·exact hd.elim⟩
def rng (lo:Int) (n:Nat):List D:=(List.range n).map λk:Nat=>D.int (lo + (k:Int))
theorem zMG {Z:Addr->Prop} {H:Hp} {lo:Int} {n:Nat}:Wk Z (Zz lo n) H (rng lo n):=λi Z' H' s zd=>by
 refine ⟨λd hd=>?_,λhi=>?_⟩
 ·unfold rng at hd
  rw [List.getElem?_map] at hd
  have hlt:i < n:=by
   apply Classical.byContradiction
   intro c
   rw [List.getElem?_eq_none (by rw [List.length_range]; omega)] at hd
   cases hd
  rw [List.getElem?_range hlt] at hd
  cases hd
  exact ⟨hlt,λx H'' ⟨e1,e2⟩=>by subst e1; subst e2; exact ⟨zF.refl _,.int _⟩⟩
 ·show n<=i
  rw [hi]
  unfold rng
  rw [List.length_map,List.length_range]
  exact Nat.le_refl _
def rng0 (n:Nat):List D:=(List.range n).map λk:Nat=>D.int (k:Int)
theorem W1 (n:Nat):rng0 n=rng 0 n:=List.map_congr_left λk _=>by rw [Int.zero_add]
theorem ub {n k:Nat} {d:D} (h:(rng0 n)[k]? = some d):k < n/\d=.int (k:Int):=by
 unfold rng0 at h
 rw [List.getElem?_map] at h
 by_cases c:k < n
 ·rw [List.getElem?_range c] at h
  exact ⟨c,(Option.some.inj h).symm⟩
 ·rw [List.getElem?_eq_none (by rw [List.length_range]; omega)] at h
  cases h
theorem uc (n:Nat):(rng0 n).length=n:=by unfold rng0; rw [List.length_map,List.length_range]
def Kh:List D->(List D->Prop)->Prop
 | [.int j],R=>-1000<=j/\j<=1000/\R (rng0 j.toNat)
 | _,_=>False
def Ki (f:List D->(List D->Prop)->Prop) (pl:yx):yx:=λΓ R=>pl Γ λds=>f ds R
theorem xm {p:Pos} (hg:Gl X "range") (hm:X.mg "range" = none) (ha:PA X [e] (wL pl)) (hs:starEach [e] X.env=[(false,eval e X.env)]:=by rfl):PI X tg (.Call (.Name "range" p) [e] [] pos) (ua (Ki Kh pl)):=Yk (zKe hg hm ha hs) λσ H Q ⟨Z,Γ,R,E,h,q⟩=>
 ⟨Z,Γ,_,E,h,λds vs H1 hd s1 hv=>by
  unfold Kh at hd
  split at hd
  ·obtain ⟨h1,h2,hd⟩:=hd
   obtain ⟨v,rfl,hw⟩:=yz hv
   cases hw
   rw [W1] at hd
   exact ⟨_,rfl,by omega,by omega,q _ _ H1 hd s1 zMG⟩
  ·exact hd.elim⟩
abbrev xJ (x y:D):D:=.tup [x,y]
theorem W2 {α β γ:Type} (f:α->β->γ):∀ {xs:List α} {ys:List β} {i:Nat} {z:γ},(List.zipWith f xs ys)[i]? = some z->∃ x y,xs[i]? = some x/\ys[i]? = some y/\z=f x y
 | [],_,_,_,h=>by simp at h
 | _ :: _,[],_,_,h=>by simp at h
 | x :: _,y :: _,0,_,h=>by simp at h; exact ⟨x,y,rfl,rfl,h.symm⟩
 | _ :: xs,_ :: ys,i + 1,z,h=>by
  obtain ⟨x,y,h1,h2,h3⟩:=W2 f (xs:=xs) (ys:=ys) (i:=i) (z:=z) (by simpa using h)
  exact ⟨x,y,by simpa using h1,by simpa using h2,h3⟩
theorem Yl {S1 S2:Hp->Addr->List V->Prop} {Z:Addr->Prop} {H:Hp} {p r:Addr} {xs ys:List V} {ds es:List D} (h1:∀ Z' H',zF (zQ Z H) (zQ Z' H')->S1 H' p xs) (h2:∀ Z' H',zF (zQ Z H) (zQ Z' H')->S2 H' r ys) (hx:yN (zQ Z H) xs ds) (hy:yN (zQ Z H) ys es) :
  Wk Z ⟨λi H=>∃ xs ys x y,S1 H p xs/\S2 H r ys/\xs[i]? = some x/\ys[i]? = some y,λi H v H'=>∃ T x y,v=.ref T/\H T=none/\H'=zZ H T (.tup [x,y])/\(∀ xs,S1 H p xs->xs[i]? = some x)/\∀ ys,S2 H r ys->ys[i]? = some y,
   λi H=>∃ xs ys,S1 H p xs/\S2 H r ys/\i<=xs.length/\i<=ys.length/\(i=xs.length\/i=ys.length)⟩ H (List.zipWith xJ ds es):=λi Z' H' s zd=>by
 have a1:=h1 Z' H' s
 have a2:=h2 Z' H' s
 have l1:=xl hx
 have l2:=xl hy
 refine ⟨λd hd=>?_,λhi=>?_⟩
 ·obtain ⟨a,b,ha,hb,rfl⟩:=W2 _ hd
  obtain ⟨x,gx,kx⟩:=kI hx ha
  obtain ⟨y,gy,ky⟩:=kI hy hb
  refine ⟨⟨xs,ys,x,y,a1,a2,gx,gy⟩,λv H'' ⟨T,x',y',ev,hT,eH,q1,q2⟩=>?_⟩
  have:=q1 xs a1
  rw [gx] at this
  cases this
  have:=q2 ys a2
  rw [gy] at this
  cases this
  subst ev
  subst eH
  exact ⟨xV hT _,Yc zd hT (.cons (kx.same s) (.cons (ky.same s) .nil))⟩
 ·rw [List.length_zipWith] at hi
  exact ⟨xs,ys,a1,a2,by omega,by omega,by omega⟩
def v8:List D->(List D->Prop)->Prop
 | [.lst ds,.lst es],R=>R (List.zipWith xJ ds es)
 | [.lst ds,.tup es],R=>R (List.zipWith xJ ds es)
 | [.tup ds,.lst es],R=>R (List.zipWith xJ ds es)
 | [.tup ds,.tup es],R=>R (List.zipWith xJ ds es)
 | _,_=>False
theorem v9 {ts:List Expr} {kk:Nat} {tp p:Pos} (hg:Gl X "zip") (hm:X.mg "zip" = none) (ha:PA X [e1,e2] (wL pl)) (hs:starEach [e1,e2] X.env=[(false,eval e1 X.env),(false,eval e2 X.env)]:=by rfl) (hs2:starEach [e2] X.env=[(false,eval e2 X.env)]:=by rfl) :
  PI X (.Tuple ts kk tp) (.Call (.Name "zip" p) [e1,e2] [] pos) (ua (Ki v8 pl)):=Yk (zOF hg hm ha hs hs2) λσ H Q ⟨Z,Γ,R,E,h,q⟩=>
 ⟨Z,Γ,_,E,h,λds vs H1 hd s1 hv=>by
  unfold v8 at hd
  split at hd
  ·obtain ⟨v,w,rfl,hx,hy⟩:=va hv
   obtain ⟨a,xs,rfl,ea,ha⟩:=hx.lst_inv
   obtain ⟨b,ys,rfl,eb,hb⟩:=hy.lst_inv
   exact ⟨a,b,rfl,.inr (.inl ⟨⟨xs,zb.of (zu _ _ ea)⟩,⟨ys,zb.of (zu _ _ eb)⟩,q _ _ H1 hd s1 (Yl (λ_ _ s=>zb.of (zu _ _ (s _ _ ea))) (λ_ _ s=>zb.of (zu _ _ (s _ _ eb))) ha hb)⟩)⟩
  ·obtain ⟨v,w,rfl,hx,hy⟩:=va hv
   obtain ⟨a,xs,rfl,ea,ha⟩:=hx.lst_inv
   obtain ⟨b,ys,rfl,eb,hb⟩:=hy.tup_inv
   exact ⟨a,b,rfl,.inr (.inr (.inr ⟨⟨xs,zb.of (zu _ _ ea)⟩,⟨ys,zo.of (zu _ _ eb)⟩,q _ _ H1 hd s1 (Yl (λ_ _ s=>zb.of (zu _ _ (s _ _ ea))) (λ_ _ s=>zo.of (zu _ _ (s _ _ eb))) ha hb)⟩))⟩
  ·obtain ⟨v,w,rfl,hx,hy⟩:=va hv
   obtain ⟨a,xs,rfl,ea,ha⟩:=hx.tup_inv
   obtain ⟨b,ys,rfl,eb,hb⟩:=hy.lst_inv
   exact ⟨a,b,rfl,.inl ⟨⟨xs,zo.of (zu _ _ ea)⟩,⟨ys,zb.of (zu _ _ eb)⟩,q _ _ H1 hd s1 (Yl (λ_ _ s=>zo.of (zu _ _ (s _ _ ea))) (λ_ _ s=>zb.of (zu _ _ (s _ _ eb))) ha hb)⟩⟩
  ·obtain ⟨v,w,rfl,hx,hy⟩:=va hv
   obtain ⟨a,xs,rfl,ea,ha⟩:=hx.tup_inv
   obtain ⟨b,ys,rfl,eb,hb⟩:=hy.tup_inv
   exact ⟨a,b,rfl,.inr (.inr (.inl ⟨⟨xs,zo.of (zu _ _ ea)⟩,⟨ys,zo.of (zu _ _ eb)⟩,q _ _ H1 hd s1 (Yl (λ_ _ s=>zo.of (zu _ _ (s _ _ ea))) (λ_ _ s=>zo.of (zu _ _ (s _ _ eb))) ha hb)⟩))⟩
  ·exact hd.elim⟩
end
end Pu
namespace Pu
open PySem L2 Sh
def un:Sl->Sl
 | .sh d=>.sh d
 | _=>.no
theorem Kj:∀ (Γ:List Sl) (i:Nat),slot Γ i=(Γ[i]?).getD .no
 | [],_=>rfl
 | _ :: _,0=>rfl
 | _ :: t,i + 1=>(Kj t i).trans (by rw [List.getElem?_cons_succ])
theorem kK {s:Sl} {d:D} (h:un s=.sh d):s=.sh d:=by cases s <;> first | exact h | cases h
theorem kL {s:Sl} {ds:List D} (h:un s=.ow ds):False:=by cases s <;> cases h
theorem kM {s:Sl} {o c:Addr} {ns:List Str} {ds:List D} (h:un s=.ob o c ns ds):False:=by cases s <;> cases h
theorem Ym {os:List D} {l:List Sl} (hl:∀ i o c ns ds,slot l i≠.ob o c ns ds):∀ i o c ns ds,slot (os.map Sl.sh++l) i≠.ob o c ns ds:=λi o c ns ds h=>by
 induction os generalizing i with
 | nil=>exact hl i o c ns ds h
 | cons d t ih=>
  cases i with
  | zero=>cases h
  | succ i=>exact ih i h
theorem Yn {os:List D} {l:List Sl} (hl:∀ i ds,slot l i≠.ow ds):∀ i ds,slot (os.map Sl.sh++l) i≠.ow ds:=λi ds h=>by
 induction os generalizing i with
 | nil=>exact hl i ds h
 | cons d t ih=>
  cases i with
  | zero=>cases h
  | succ i=>exact ih i h
theorem Yo (Γ:List Sl):∀ (js:List Nat) (i:Nat),slot (js.map λj=>un (slot Γ j)) i=match js[i]? with | some j=>un (slot Γ j) | none=>.no
 | [],_=>rfl
 | _ :: _,0=>rfl
 | _ :: js,i + 1=>by
  rw [List.getElem?_cons_succ]
  exact Yo Γ js i
theorem W3 {Z:Addr->Prop} {Γ:List Sl} {σ:St} {H:Hp} (E:yD Z Γ σ H) {js:List Nat} {vs:List V} {os:List D} (h:yN (zQ Z H) vs os):yD Z (os.map Sl.sh++js.map λj=>un (slot Γ j)) (vs.map some++js.map λj=>(σ[j]?).getD none) H:=by
 have no:∀ i ds,slot (os.map Sl.sh++js.map λj=>un (slot Γ j)) i≠.ow ds:=Yn λi ds h=>by
  rw [Yo] at h
  split at h
  ·exact kL h
  ·cases h
 have nob:∀ i o c ns ds,slot (os.map Sl.sh++js.map λj=>un (slot Γ j)) i≠.ob o c ns ds:=Ym λi o c ns ds h=>by
  rw [Yo] at h
  split at h
  ·exact kM h
  ·cases h
 refine ⟨?_,λi ds e=>absurd e (no i ds),λi o c ns ds e=>absurd e (nob i o c ns ds),λi _ ds _ _ e=>absurd e (no i ds),E.zd,?_⟩
 clear nob
 ·induction h with
  | nil=>
   intro i d e
   change slot (js.map λj=>un (slot Γ j)) i=_ at e
   show ∃ v,(js.map λj=>(σ[j]?).getD none)[i]? = some (some v)/\_
   rw [Yo] at e
   rw [List.getElem?_map]
   cases k:js[i]? with
   | none=>rw [k] at e; cases e
   | some j=>
    rw [k] at e
    obtain ⟨v,h1,h2⟩:=E.sh j d (kK e)
    exact ⟨v,by show some ((σ[j]?).getD none)=_; rw [h1]; rfl,h2⟩
  | @cons v d vs ds hv _ ih=>
   intro i e q
   cases i with
   | zero=>cases q; exact ⟨v,rfl,hv⟩
   | succ i=>
    obtain ⟨u,h1,h2⟩:=ih (λi=>no (i + 1)) i e q
    exact ⟨u,by rw [List.map_cons,List.cons_append,List.getElem?_cons_succ]; exact h1,h2⟩
 ·rw [List.length_append,List.length_append,List.length_map,List.length_map,List.length_map,List.length_map,xl h]
theorem W4 (c:St):∀ (pre o:St) (vs:List V),o.length=vs.length->setN (pre++(o++c)) (List.range' pre.length o.length) vs=pre++(vs.map some++c)
 | _,[],[],_=>rfl
 | _,[],_ :: _,h=>nomatch h
 | _,_ :: _,[],h=>nomatch h
 | pre,x :: o,v :: vs,h=>by
  rw [List.length_cons,List.range'_succ]
  show setN ((pre++((x :: o)++c)).set pre.length (some v)) (List.range' (pre.length + 1) o.length) vs=_
  rw [List.set_append_right _ _ (Nat.le_refl _),Nat.sub_self]
  have:=W4 c (pre++[some v]) o vs (Nat.succ.inj h)
  rw [List.length_append,List.append_assoc] at this
  rw [List.append_assoc] at this
  exact this
inductive zk (ds:List D) (G:D->(D->Prop)->Prop) (R:D->Prop):Prop
 | mk (few:ds.length<=1000) (F:D->D->Prop) (h:∀ d,d∈ds->G d (F d)) (q:∀ es,Paired F ds es->R (.lst es)):zk ds G R
def kN (caps:List Nat) (pi:yx) (po:D->Option (List D)) (pe:zy):zy:=λΓ R=>pi Γ λds=>zk ds (λd S=>uO (po d) λos=>pe (os.map Sl.sh++caps.map λj=>un (slot Γ j)) S) R
theorem Kk {Z:Addr->Prop} {Γ:List Sl} {σ:St} {H:Hp} {own:List Str} {caps:List (Nat × Str)} {J:It} {ds:List D} {js:List Nat} {po:D->Option (List D)} {pe:zy} {Q:VK} {F:D->D->Prop} (E:yD Z Γ σ H) (wk:Wk Z J H ds) (hj:js=List.range' 0 own.length) (hk:∀ d os,po d=some os->os.length=js.length) (few:ds.length<=1000)
  (hF:∀ d,d∈ds->uO (po d) λos=>pe (os.map Sl.sh++(caps.map (·.1)).map λj=>un (slot Γ j)) (F d))
  (q:∀ es ys H' p,Paired F ds es->zF H H'->yN (zQ Z H') ys es->H' p=none->Q (.ref p) (zZ H' p (.lst ys))):Qo J (tG js po) (tP pe) Q (wH own caps σ) H:=by
 have hc:wH own caps σ=own.map (λ_=>none)++(caps.map (·.1)).map λj=>(σ[j]?).getD none:=by
  unfold wH
  rw [List.map_map]
  rfl
 refine ⟨λi m ys σ1 H1=>m + i=ds.length/\zF H H1/\(∃ es,Paired F (ds.take i) es/\yN (zQ Z H1) ys es)/\∃ o:St,o.length=own.length/\σ1=o++(caps.map (·.1)).map λj=>(σ[j]?).getD none,⟨ds.length,rfl,zF.refl _,⟨[],.nil,.nil⟩,_,List.length_map ..,hc⟩,?_⟩
 rintro i m ys σ1 H1 ⟨hm,s1,⟨es,he,hy⟩,o,lo,rfl⟩
 obtain ⟨w1,w2⟩:=wk i Z H1 (ye s1) (E.zd.same s1)
 have le:es.length=i:=by
  have:=Paired.length he
  rw [List.length_take] at this
  omega
 by_cases hi:i < ds.length
 ·refine .inr ⟨(w1 _ (List.getElem?_eq_getElem hi)).1,by rw [xl hy,le]; exact YC (by omega),λy σ' H'=>m - 1 + (i + 1)=ds.length/\zF H H'/\(∃ es,Paired F (ds.take (i + 1)) es/\yN (zQ Z H') (ys++[y]) es)/\∃ o:St,o.length=own.length/\σ'=o++(caps.map (·.1)).map λj=>(σ[j]?).getD none,λy σ' H' k=>⟨m - 1,by omega,k⟩,λx H' yl=>?_⟩
  obtain ⟨s2,dv⟩:=(w1 _ (List.getElem?_eq_getElem hi)).2 x H' yl
  obtain ⟨os,ho,hp⟩:=kH (hF _ (List.getElem_mem hi))
  have lo2:=hk _ _ ho
  refine ⟨Z,_,os,dv,ho,λvs hvs=>?_⟩
  have lv:=xl hvs
  have e1:setN (o++(caps.map (·.1)).map λj=>(σ[j]?).getD none) js vs=vs.map some++(caps.map (·.1)).map λj=>(σ[j]?).getD none:=by
   rw [hj,<- lo]
   exact W4 _ [] o vs (by rw [lv,lo2,hj,List.length_range']; exact lo)
  rw [e1]
  refine ⟨Z,_,_,W3 (E.same (s1.trans s2)) hvs,hp,λd v H3 hd s3 hv=>⟨by omega,s1.trans (s2.trans s3),⟨es++[d],?_,jX hv (yr (ye (s2.trans s3)) hy)⟩,_,?_,rfl⟩⟩
  ·rw [List.take_succ_eq_append_getElem hi]
   exact jX hd he
  ·rw [List.length_map,lv,lo2,hj,List.length_range']
 ·have ei:i=ds.length:=by omega
  refine .inl ⟨w2 ei,λp hp=>q es ys H1 p ?_ s1 hy hp⟩
  rw [List.take_of_length_le (by omega)] at he
  exact he
section
variable {X:Cx} {scope:Scope} {own:List Str} {caps:List (Nat × Str)} {tg iter elt:Expr} {pos:Pos} {pi:yx} {po:D->Option (List D)} {pe:zy} {js:List Nat}
theorem yT (B:vW X scope own caps) (hc:X.calm=true) (hj:js=List.range' 0 own.length) (hk:∀ d os,po d=some os->os.length=js.length) (hi:PI X tg iter (ua pi)) (hg:∀ C s₀ H₀ ex,PG (yV X scope (zX own caps) C s₀ H₀ ex) tg (tG js po))
  (he:∀ C s₀ H₀ ex,PE (yV X scope (zX own caps) C s₀ H₀ ex) elt (tP pe)) (hs:∀ x,foldedSetIterable iter X.env x=pure x:=by intro _; rfl):PE X (.ListComp elt [⟨tg,iter,[],0⟩] scope pos) (tP (kN (caps.map (·.1)) pi po pe)):=
 yG (zMm B hc hi hg he hs) λσ H Q ⟨Z,Γ,R,E,h,q⟩=>⟨Z,Γ,_,E,h,λds J H1 ⟨fw,F,hF,hR⟩ s1 wk=>Kk (E.same s1) wk hj hk fw hF λes ys H' p h1 s2 h2 hp=>q _ _ _ (hR es h1) (s1.trans (s2.trans (xV hp _))) (uM ((E.same s1).zd.same s2) hp h2)⟩
end
theorem zk.map {ds:List D} {G:D->(D->Prop)->Prop} {R:D->Prop} (f:D->D) (few:ds.length<=1000) (h:∀ d,d∈ds->G d λe=>e=f d) (q:R (.lst (ds.map f))):zk ds G R:=⟨few,λd e=>e=f d,h,λes p=>by
 have:∀ {ds es:List D},Paired (λd e=>e=f d) ds es->es=ds.map f:=λ{ds es} p=>by
  induction p with
  | nil=>rfl
  | cons h _ ih=>rw [h,ih]; rfl
 rw [this p]
 exact q⟩
theorem zk.all {ds:List D} {G:D->(D->Prop)->Prop} {R:D->Prop} (P:D->Prop) (few:ds.length<=1000) (h:∀ d,d∈ds->G d P) (q:∀ es,es.length=ds.length->(∀ e∈es,P e)->R (.lst es)):zk ds G R:=⟨few,λ_=>P,h,λes p=>q es (Paired.length p).symm (by
 clear h few q
 induction p with
 | nil=>exact λ_ h=>nomatch h
 | cons h _ ih=>exact λe m=>(List.mem_cons.mp m).elim (λz=>z ▸ h) (ih e))⟩
def yZ:D->Int
 | .int i=>i
 | _=>0
theorem zk.int {ns:List Int} {G:D->(D->Prop)->Prop} {R:D->Prop} (g:Int->Int) (few:ns.length<=1000) (h:∀ n,n∈ns->G (.int n) λe=>e=.int (g n)) (q:R (.lst ((ns.map g).map D.int))):zk (ns.map D.int) G R:=
 zk.map (λd=>.int (g (yZ d))) (by rw [List.length_map]; exact few) (λd m=>by
  obtain ⟨n,hn,rfl⟩:=List.mem_map.mp m
  exact h n hn) (by rw [List.map_map] at q |-; exact q)
theorem zk.bool {ds:List D} {G:D->(D->Prop)->Prop} {R:D->Prop} (g:D->Bool) (few:ds.length<=1000) (h:∀ d,d∈ds->G d λe=>e=.bool (g d)) (q:R (.lst ((ds.map g).map D.bool))):zk ds G R:=
 zk.map (λd=>.bool (g d)) few h (by rw [List.map_map] at q; exact q)
theorem zk.rng {lo:Int} {n:Nat} {G:D->(D->Prop)->Prop} {R:D->Prop} (g:Nat->D) (few:n<=1000) (h:∀ k,k < n->G (.int (lo + (k:Int))) λe=>e=g k) (q:R (.lst ((List.range n).map g))):zk (Pu.rng lo n) G R:=
 zk.map (λd=>g (yZ d - lo).toNat) (by unfold Pu.rng; rw [List.length_map,List.length_range]; exact few) (λd m=>by
  obtain ⟨k,hk,rfl⟩:=List.mem_map.mp m
  rw [show (yZ (.int (lo + (k:Int))) - lo).toNat=k by show (lo + (k:Int) - lo).toNat=k; omega]
  exact h k (List.mem_range.mp hk)) (by
  have e:(Pu.rng lo n).map (λd=>g (yZ d - lo).toNat)=(List.range n).map g:=by
   unfold Pu.rng
   rw [List.map_map]
   refine List.map_congr_left λk _=>?_
   show g (lo + (k:Int) - lo).toNat=g k
   rw [show (lo + (k:Int) - lo).toNat=k by omega]
  rw [e]
  exact q)
theorem zk.rngP {lo:Int} {n:Nat} {G:D->(D->Prop)->Prop} {R:D->Prop} (P:D->Prop) (few:n<=1000) (h:∀ k,k < n->G (.int (lo + (k:Int))) P) (q:∀ es,es.length=n->(∀ e∈es,P e)->R (.lst es)):zk (Pu.rng lo n) G R:=
 zk.all P (by unfold Pu.rng; rw [List.length_map,List.length_range]; exact few) (λd m=>by
  obtain ⟨k,hk,rfl⟩:=List.mem_map.mp m
  exact h k (List.mem_range.mp hk)) (λes l=>q es (by rw [l]; unfold Pu.rng; rw [List.length_map,List.length_range]))
theorem zk.rng0 {n:Nat} {G:D->(D->Prop)->Prop} {R:D->Prop} (g:Nat->D) (few:n<=1000) (h:∀ k,k < n->G (.int (k:Int)) λe=>e=g k) (q:R (.lst ((List.range n).map g))):zk (Pu.rng0 n) G R:=by
 rw [W1]
 exact zk.rng g few (λk hk=>by rw [Int.zero_add]; exact h k hk) q
theorem zk.rng0P {n:Nat} {G:D->(D->Prop)->Prop} {R:D->Prop} (P:D->Prop) (few:n<=1000) (h:∀ k,k < n->G (.int (k:Int)) P) (q:∀ es,es.length=n->(∀ e∈es,P e)->R (.lst es)):zk (Pu.rng0 n) G R:=by
 rw [W1]
 exact zk.rngP P few (λk hk=>by rw [Int.zero_add]; exact h k hk) q
def xn (P:Int->Prop) (d:D):Prop:=∃ i,d=.int i/\P i
theorem W5 {P:Int->Prop}:∀ {es:List D},(∀ e∈es,xn P e)->∃ ns:List Int,es=ns.map D.int/\∀ x∈ns,P x
 | [],_=>⟨[],rfl,λ_ h=>nomatch h⟩
 | e :: es,h=>by
  obtain ⟨ns,rfl,k⟩:=W5 (es:=es) λx m=>h x (List.mem_cons_of_mem _ m)
  obtain ⟨i,rfl,p⟩:=h e List.mem_cons_self
  exact ⟨i :: ns,rfl,λx m=>(List.mem_cons.mp m).elim (λz=>z ▸ p) (k x)⟩
theorem zk.nums {n:Nat} {G:D->(D->Prop)->Prop} {R:D->Prop} (P:Int->Prop) (few:n<=1000) (h:∀ k,k < n->G (.int (k:Int)) (xn P)) (q:∀ ns:List Int,ns.length=n->(∀ x∈ns,P x)->R (.lst (ns.map D.int))):zk (Pu.rng0 n) G R:=
 zk.rng0P (xn P) few h λes l k=>by
  obtain ⟨ns,rfl,p⟩:=W5 k
  exact q ns (by rw [<- l,List.length_map]) p
theorem yU {i:Nat}:∀ d os,Kc d=some os->os.length=[i].length:=λd os h=>by cases h; rfl
theorem uA:∀ ds os,Ke ds=some os->os.length=([]:List Nat).length:=λds os h=>by cases ds with | nil=>cases h; rfl | cons=>cases h
theorem xo {i:Nat} {js:List Nat} {po:List D->Option (List D)} (h:∀ ds os,po ds=some os->os.length=js.length):∀ ds os,Kf po ds=some os->os.length=(i :: js).length:=λds os q=>by
 cases ds with
 | nil=>cases q
 | cons d dt=>
  change (po dt).map (d :: ·)=some os at q
  cases e:po dt with
  | none=>rw [e] at q; cases q
  | some os'=>rw [e] at q; cases q; rw [List.length_cons,List.length_cons,h dt os' e]
theorem pnc {js ks:List Nat} {p:D->Option (List D)} {po:List D->Option (List D)} (hk:∀ d os,p d=some os->os.length=js.length) (h:∀ ds os,po ds=some os->os.length=ks.length):∀ ds os,Kg p po ds=some os->os.length=(js++ks).length:=λds os q=>by
 cases ds with
 | nil=>cases q
 | cons d dt=>
  change (p d).bind (λa=>(po dt).map (a++·))=some os at q
  cases e1:p d with
  | none=>rw [e1] at q; cases q
  | some a=>
   rw [e1] at q
   change (po dt).map (a++·)=some os at q
   cases e2:po dt with
   | none=>rw [e2] at q; cases q
   | some b=>rw [e2] at q; cases q; rw [List.length_append,List.length_append,h dt b e2,hk d a e1]
structure yo (Z0:Addr->Prop) (H0:Hp) (Z:Addr->Prop) (Γ:List Sl) (σ:St) (H:Hp):Prop where
 e:yD Z Γ σ H
 z0:∀ b,Z0 b->Z b
 z0d:ZL Z0 H0
 same:zF H0 H
 own:∀ i ds l,slot Γ i=.ow ds->σ[i]? = some (some (.ref l))->H0 l=none
 owb:∀ i o c ns ds,slot Γ i=.ob o c ns ds->H0 o=none
structure Kl where
 nx:List Sl->Prop
 rt:D->Prop
 bk:List Sl->Prop:=λ_=>False
 ct:List Sl->Prop:=λ_=>False
abbrev xE:=Kl->List Sl->Prop
inductive ym (p:xE) (D0:xS) (σ:St) (H:Hp):Prop
 | mk (Z0:Addr->Prop) (H0:Hp) (Z:Addr->Prop) (Γ:List Sl) (Dp:Kl) (E:yo Z0 H0 Z Γ σ H) (h:p Dp Γ) (nx:∀ Z' Γ' σ' H',yo Z0 H0 Z' Γ' σ' H'->zF (zQ Z H) (zQ Z' H')->Dp.nx Γ'->D0.nx σ' H')
  (rt:∀ d v H',zF H0 H'->DV (zQ Z0 H') v d->Dp.rt d->D0.rt v H') (bk:∀ Z' Γ' σ' H',yo Z0 H0 Z' Γ' σ' H'->zF (zQ Z H) (zQ Z' H')->Dp.bk Γ'->D0.bk σ' H') (ct:∀ Z' Γ' σ' H',yo Z0 H0 Z' Γ' σ' H'->zF (zQ Z H) (zQ Z' H')->Dp.ct Γ'->D0.ct σ' H'):ym p D0 σ H
theorem yo.mv {Z0:Addr->Prop} {H0:Hp} {Z:Addr->Prop} {Γ:List Sl} {σ:St} {H H':Hp} (E:yo Z0 H0 Z Γ σ H) (s:zF H H'):yo Z0 H0 Z Γ σ H':=⟨E.e.same s,E.z0,E.z0d,E.same.trans s,E.own,E.owb⟩
theorem yo.set {Z0:Addr->Prop} {H0:Hp} {Z:Addr->Prop} {Γ:List Sl} {σ:St} {H:Hp} (E:yo Z0 H0 Z Γ σ H) {v:V} {d:D} (h:DV (zQ Z H) v d) (i:Nat):yo Z0 H0 Z (zq Γ i (.sh d)) (σ.set i (some v)) H:=
 ⟨E.e.set h i,E.z0,E.z0d,E.same,λj ds l q r=>by
  rw [y9] at q
  by_cases c:j=i/\i < Γ.length
  ·rw [if_pos c] at q; cases q
  ·rw [if_neg c] at q
   have hj:=vY (Γ:=Γ) (i:=j) (by rw [q]; exact λz=>nomatch z)
   rw [List.getElem?_set_ne (λz=>c ⟨z.symm,by omega⟩)] at r
   exact E.own j ds l q r,λj o0 c0 ns ds q=>by
  rw [y9] at q
  by_cases c:j=i/\i < Γ.length
  ·rw [if_pos c] at q; cases q
  ·rw [if_neg c] at q
   exact E.owb j o0 c0 ns ds q⟩
theorem yo.setN {Z0:Addr->Prop} {H0:Hp} {Z:Addr->Prop} {H:Hp}:∀ {js:List Nat} {vs:List V} {os:List D} {Γ:List Sl} {σ:St},yo Z0 H0 Z Γ σ H->yN (zQ Z H) vs os->yo Z0 H0 Z (Yi Γ js os) (Pu.setN σ js vs) H
 | [],_,_,_,_,E,_=>E
 | _ :: _,_,_,_,_,E,.nil=>E
 | _ :: js,_,_,_,_,E,.cons h t=>yo.setN (js:=js) (E.set h _) t
theorem kO {Z:Addr->Prop} {H:Hp} {l:Addr} {o:HO} (h:Z l):zF (zQ Z H) (zQ Z (zZ H l o)):=λb u e=>by
 obtain ⟨h1,h2⟩:=qO e
 have nb:b≠l:=λz=>h1 (by rw [z]; exact h)
 rw [vD h1,zt nb]
 exact h2
theorem yo.put {Z0:Addr->Prop} {H0:Hp} {Z:Addr->Prop} {Γ:List Sl} {σ:St} {H:Hp} (E:yo Z0 H0 Z Γ σ H) {i:Nat} {ds ds':List D} {l:Addr} {xs:List V} (hs:slot Γ i=.ow ds) (hl:σ[i]? = some (some (.ref l))) (hz:Z l) (hx:yN (zQ Z H) xs ds'):yo Z0 H0 Z (zq Γ i (.ow ds')) σ (zZ H l (.lst xs)):=by
 obtain ⟨l0,xs0,hl0,_,el,_⟩:=E.e.ow i ds hs
 have el0:l0=l:=by rw [hl] at hl0; cases hl0; rfl
 rw [el0] at el
 have keyb:∀ j o c ns d,slot (zq Γ i (.ow ds')) j=.ob o c ns d->slot Γ j=.ob o c ns d:=λj o0 c0 ns d q=>by
  rw [y9] at q
  by_cases c:j=i/\i < Γ.length
  ·rw [if_pos c] at q; cases q
  ·rw [if_neg c] at q; exact q
 have li:=vY (Γ:=Γ) (i:=i) (by rw [hs]; exact λz=>nomatch z)
 have hp:zF (zQ Z H) (zQ Z (zZ H l (.lst xs))):=kO hz
 have key:∀ j ds'',slot (zq Γ i (.ow ds')) j=.ow ds''->∃ q,slot Γ j=.ow q:=λj d q=>by
  rw [y9] at q
  by_cases c:j=i/\i < Γ.length
  ·rw [c.1]; exact ⟨ds,hs⟩
  ·rw [if_neg c] at q; exact ⟨d,q⟩
 refine ⟨⟨λj d q=>?_,λj d q=>?_,λj o c ns d q=>?_,λj k as bs m q r=>?_,λb hb=>?_,by rw [u8]; exact E.e.len⟩,E.z0,E.z0d,?_,λj d m q=>?_,λj o c ns d q=>E.owb j o c ns d (keyb j o c ns d q)⟩
 ·rw [y9] at q
  by_cases c:j=i/\i < Γ.length
  ·rw [if_pos c] at q; cases q
  ·rw [if_neg c] at q
   obtain ⟨v,h1,h2⟩:=E.e.sh j d q
   exact ⟨v,h1,h2.same hp⟩
 ·rw [y9] at q
  by_cases c:j=i/\i < Γ.length
  ·rw [if_pos c] at q
   cases q
   rw [c.1]
   exact ⟨l,xs,hl,hz,wQ,yr hp hx⟩
  ·rw [if_neg c] at q
   obtain ⟨m,ys,h1,h2,h3,h4⟩:=E.e.ow j d q
   have nm:m≠l:=λz=>c ⟨E.e.ne j i d ds l q hs (by rw [h1,z]) hl,li⟩
   exact ⟨m,ys,h1,h2,by rw [zt nm]; exact h3,yr hp h4⟩
 ·obtain ⟨dx,ys,h1,h2,h3,h5,h4⟩:=E.e.ob j o c ns d (keyb j o c ns d q)
  have nm:o≠l:=λz=>by rw [z,el] at h3; cases h3
  exact ⟨dx,ys,h1,h2,by rw [zt nm]; exact h3,h5,yr hp h4⟩
 ·obtain ⟨q1,hq⟩:=key j as q
  obtain ⟨r1,hr⟩:=key k bs r
  exact E.e.ne j k q1 r1 m hq hr
 ·obtain ⟨u,e,n⟩:=E.e.zd b hb
  by_cases c:b=l
  ·rw [c]; exact ⟨_,wQ,λ_ z=>nomatch z⟩
  ·exact ⟨u,by rw [zt c]; exact e,n⟩
 ·exact λb o e=>by
   rw [zt (wR e (E.own i ds l hs hl))]
   exact E.same _ _ e
 ·obtain ⟨q1,hq⟩:=key j d q
  exact E.own j q1 m hq
theorem yo.make {Z0:Addr->Prop} {H0:Hp} {Z:Addr->Prop} {Γ:List Sl} {σ:St} {H:Hp} (E:yo Z0 H0 Z Γ σ H) {p:Addr} {xs:List V} {ds:List D} (hp:H p=none) (hx:yN (zQ Z H) xs ds) (i:Nat) :
  yo Z0 H0 (λb=>Z b\/b=p) (zq Γ i (.ow ds)) (σ.set i (some (.ref p))) (zZ H p (.lst xs))/\zF (zQ Z H) (zQ (λb=>Z b\/b=p) (zZ H p (.lst xs))):=by
 have s:zF (zQ Z H) (zQ (λb=>Z b\/b=p) (zZ H p (.lst xs))):=λb o e=>by
  obtain ⟨h1,h2⟩:=qO e
  have nb:=wR h2 hp
  rw [vD (λz=>z.elim h1 nb),zt nb]
  exact h2
 have old:∀ j d,slot Γ j=.ow d->∀ m,σ[j]? = some (some (.ref m))->m≠p:=λj d q m h z=>by
  obtain ⟨l,ys,h1,h2,h3,_⟩:=E.e.ow j d q
  rw [h] at h1
  cases h1
  rw [z,hp] at h3
  cases h3
 have get:∀ j,¬ (j=i/\i < Γ.length)->slot Γ j≠.no->(σ.set i (some (V.ref p)))[j]? = σ[j]?:=λj c q=>by
  have hj:=vY q
  exact List.getElem?_set_ne (λz=>c ⟨z.symm,by omega⟩)
 have new:∀ j,j=i/\i < Γ.length->(σ.set i (some (V.ref p)))[j]? = some (some (.ref p)):=λj c=>by
  rw [c.1,List.getElem?_set_self (by have:=E.e.len; omega)]
 have keyb:∀ j o c ns d,slot (zq Γ i (.ow ds)) j=.ob o c ns d->slot Γ j=.ob o c ns d/\(σ.set i (some (V.ref p)))[j]? = σ[j]?:=λj o0 c0 ns d q=>by
  rw [y9] at q
  by_cases c:j=i/\i < Γ.length
  ·rw [if_pos c] at q; cases q
  ·rw [if_neg c] at q; exact ⟨q,get j c (by rw [q]; exact λz=>nomatch z)⟩
 refine ⟨⟨⟨λj d q=>?_,λj d q=>?_,λj o c ns d q=>?_,λj k as bs m q r e f=>?_,λb hb=>?_,by rw [u8,List.length_set]; exact E.e.len⟩,λb hb=>.inl (E.z0 b hb),E.z0d,E.same.trans (xV hp _),λj d m q e=>?_,λj o c ns d q=>E.owb j o c ns d (keyb j o c ns d q).1⟩,s⟩
 ·rw [y9] at q
  by_cases c:j=i/\i < Γ.length
  ·rw [if_pos c] at q; cases q
  ·rw [if_neg c] at q
   obtain ⟨v,h1,h2⟩:=E.e.sh j d q
   exact ⟨v,by rw [get j c (by rw [q]; exact λz=>nomatch z)]; exact h1,h2.same s⟩
 ·rw [y9] at q
  by_cases c:j=i/\i < Γ.length
  ·rw [if_pos c] at q
   cases q
   exact ⟨p,xs,new j c,.inr rfl,wQ,yr s hx⟩
  ·rw [if_neg c] at q
   obtain ⟨m,ys,h1,h2,h3,h4⟩:=E.e.ow j d q
   exact ⟨m,ys,by rw [get j c (by rw [q]; exact λz=>nomatch z)]; exact h1,.inl h2,by rw [zt (old j d q m h1)]; exact h3,yr s h4⟩
 ·obtain ⟨q,g⟩:=keyb j o c ns d q
  obtain ⟨dx,ys,h1,h2,h3,h5,h4⟩:=E.e.ob j o c ns d q
  exact ⟨dx,ys,g.trans h1,.inl h2,by rw [zt (wR h3 hp)]; exact h3,h5,yr s h4⟩
 ·rw [y9] at q r
  by_cases c:j=i/\i < Γ.length
  ·by_cases c':k=i/\i < Γ.length
   ·omega
   ·rw [if_neg c'] at r
    rw [new j c] at e
    rw [get k c' (by rw [r]; exact λz=>nomatch z)] at f
    cases e
    exact absurd rfl (old k bs r p f)
  ·rw [if_neg c] at q
   rw [get j c (by rw [q]; exact λz=>nomatch z)] at e
   by_cases c':k=i/\i < Γ.length
   ·rw [new k c'] at f
    cases f
    exact absurd rfl (old j as q p e)
   ·rw [if_neg c'] at r
    rw [get k c' (by rw [r]; exact λz=>nomatch z)] at f
    exact E.e.ne j k as bs m q r e f
 ·by_cases c:b=p
  ·rw [c]; exact ⟨_,wQ,λ_ z=>nomatch z⟩
  ·obtain ⟨u,e,n⟩:=E.e.zd b (hb.resolve_right c)
   exact ⟨u,by rw [zt c]; exact e,n⟩
 ·rw [y9] at q
  by_cases c:j=i/\i < Γ.length
  ·rw [new j c] at e
   cases e
   cases h:H0 p with
   | none=>rfl
   | some o=>rw [E.same _ _ h] at hp; cases hp
  ·rw [if_neg c] at q
   rw [get j c (by rw [q]; exact λz=>nomatch z)] at e
   exact E.own j d m q e
def frz (Γ:List Sl) (i:Nat):List Sl:=match slot Γ i with
 | .ow ds=>zq Γ i (.sh (.lst ds))
 | _=>Γ
theorem yo.frz {Z0:Addr->Prop} {H0:Hp} {Z:Addr->Prop} {Γ:List Sl} {σ:St} {H:Hp} (E:yo Z0 H0 Z Γ σ H) (i:Nat):∃ Z',yo Z0 H0 Z' (Pu.frz Γ i) σ H/\zF (zQ Z H) (zQ Z' H):=by
 unfold Pu.frz
 cases hs:slot Γ i with
 | no=>exact ⟨Z,E,zF.refl _⟩
 | sh _=>exact ⟨Z,E,zF.refl _⟩
 | ob _ _ _ _=>exact ⟨Z,E,zF.refl _⟩
 | ow ds=>
  obtain ⟨l,xs,hl,hz,el,hx⟩:=E.e.ow i ds hs
  have s:zF (zQ Z H) (zQ (λb=>Z b/\b≠l) H):=qP λb h=>h.1
  have key:∀ j d,slot (zq Γ i (.sh (.lst ds))) j=.ow d->slot Γ j=.ow d/\j≠i:=λj d q=>by
   rw [y9] at q
   by_cases c:j=i/\i < Γ.length
   ·rw [if_pos c] at q; cases q
   ·rw [if_neg c] at q
    have hj:=vY (Γ:=Γ) (i:=j) (by rw [q]; exact λz=>nomatch z)
    exact ⟨q,λz=>c ⟨z,by omega⟩⟩
  have keyb:∀ j o c ns d,slot (zq Γ i (.sh (.lst ds))) j=.ob o c ns d->slot Γ j=.ob o c ns d:=λj o0 c0 ns d q=>by
   rw [y9] at q
   by_cases c:j=i/\i < Γ.length
   ·rw [if_pos c] at q; cases q
   ·rw [if_neg c] at q; exact q
  refine ⟨λb=>Z b/\b≠l,⟨⟨λj d q=>?_,λj d q=>?_,λj o c ns d q=>?_,λj k as bs m q r=>?_,λb hb=>E.e.zd b hb.1,by rw [u8]; exact E.e.len⟩,λb hb=>⟨E.z0 b hb,λz=>?_⟩,E.z0d,E.same,λj d m q=>E.own j d m (key j d q).1,λj o c ns d q=>E.owb j o c ns d (keyb j o c ns d q)⟩,s⟩
  ·rw [y9] at q
   by_cases c:j=i/\i < Γ.length
   ·rw [if_pos c] at q
    cases q
    rw [c.1]
    exact ⟨.ref l,hl,.lst ((vD λz=>z.2 rfl).trans el) (yr s hx)⟩
   ·rw [if_neg c] at q
    obtain ⟨v,h1,h2⟩:=E.e.sh j d q
    exact ⟨v,h1,h2.same s⟩
  ·obtain ⟨q1,q2⟩:=key j d q
   obtain ⟨m,ys,h1,h2,h3,h4⟩:=E.e.ow j d q1
   exact ⟨m,ys,h1,⟨h2,λz=>q2 (E.e.ne j i d ds l q1 hs (by rw [h1,z]) hl)⟩,h3,yr s h4⟩
  ·obtain ⟨dx,ys,h1,h2,h3,h5,h4⟩:=E.e.ob j o c ns d (keyb j o c ns d q)
   exact ⟨dx,ys,h1,⟨h2,λz=>by rw [z,el] at h3; cases h3⟩,h3,h5,yr s h4⟩
  ·exact E.e.ne j k as bs m (key j as q).1 (key k bs r).1
  ·obtain ⟨ys,e,_⟩:=E.z0d b hb
   rw [z,E.own i ds l hs hl] at e
   cases e
theorem yD.frz {Z:Addr->Prop} {Γ:List Sl} {σ:St} {H:Hp} (E:yD Z Γ σ H) (i:Nat):∃ Z',yD Z' (Pu.frz Γ i) σ H:=by
 unfold Pu.frz
 cases hs:slot Γ i with
 | no=>exact ⟨Z,E⟩
 | sh _=>exact ⟨Z,E⟩
 | ob _ _ _ _=>exact ⟨Z,E⟩
 | ow ds=>
  obtain ⟨l,xs,hl,hz,el,hx⟩:=E.ow i ds hs
  have s:zF (zQ Z H) (zQ (λb=>Z b/\b≠l) H):=qP λb h=>h.1
  have key:∀ j d,slot (zq Γ i (.sh (.lst ds))) j=.ow d->slot Γ j=.ow d/\j≠i:=λj d q=>by
   rw [y9] at q
   by_cases c:j=i/\i < Γ.length
   ·rw [if_pos c] at q; cases q
   ·rw [if_neg c] at q
    have hj:=vY (Γ:=Γ) (i:=j) (by rw [q]; exact λz=>nomatch z)
    exact ⟨q,λz=>c ⟨z,by omega⟩⟩
  have keyb:∀ j o c ns d,slot (zq Γ i (.sh (.lst ds))) j=.ob o c ns d->slot Γ j=.ob o c ns d:=λj o0 c0 ns d q=>by
   rw [y9] at q
   by_cases c:j=i/\i < Γ.length
   ·rw [if_pos c] at q; cases q
   ·rw [if_neg c] at q; exact q
  refine ⟨λb=>Z b/\b≠l,⟨λj d q=>?_,λj d q=>?_,λj o c ns d q=>?_,λj k as bs m q r=>?_,λb hb=>E.zd b hb.1,by rw [u8]; exact E.len⟩⟩
  ·rw [y9] at q
   by_cases c:j=i/\i < Γ.length
   ·rw [if_pos c] at q
    cases q
    rw [c.1]
    exact ⟨.ref l,hl,.lst ((vD λz=>z.2 rfl).trans el) (yr s hx)⟩
   ·rw [if_neg c] at q
    obtain ⟨v,h1,h2⟩:=E.sh j d q
    exact ⟨v,h1,h2.same s⟩
  ·obtain ⟨q1,q2⟩:=key j d q
   obtain ⟨m,ys,h1,h2,h3,h4⟩:=E.ow j d q1
   exact ⟨m,ys,h1,⟨h2,λz=>q2 (E.ne j i d ds l q1 hs (by rw [h1,z]) hl)⟩,h3,yr s h4⟩
  ·obtain ⟨dx,ys,h1,h2,h3,h5,h4⟩:=E.ob j o c ns d (keyb j o c ns d q)
   exact ⟨dx,ys,h1,⟨h2,λz=>by rw [z,el] at h3; cases h3⟩,h3,h5,yr s h4⟩
  ·exact E.ne j k as bs m (key j as q).1 (key k bs r).1
def W6 (i:Nat) (p:wB):wB:=λΓ R=>p (Pu.frz Γ i) R
theorem zOA {X:Cx} {e:Expr} {p:wB} (i:Nat) (h:PT X e (xD p)):PT X e (xD (W6 i p)):=YY h λσ H Q ⟨Z,Γ,R,E,h,q⟩=>let ⟨Z',E'⟩:=E.frz i; ⟨Z',_,R,E',h,q⟩
end Pu
namespace Pu
open PySem L2 Sh
open PyProof.Rows (envOfC)
section
variable {X:Cx} {e:Expr} {es:List Expr} {st:Stmt} {sts:List Stmt} {pos:Pos} {pa pb:zy} {pl:yx} {p q:xE}
theorem zv {t t':TS} (h:PS X st t) (w:∀ D σ H,t' D σ H->t D σ H):PS X st t':=λpins s σ H D I k=>h pins s σ H D I (w D σ H k)
theorem jm {t t':TS} (h:xC X sts t) (w:∀ D σ H,t' D σ H->t D σ H):xC X sts t':=λpins s σ H D I k=>h pins s σ H D I (w D σ H k)
def kP:xE:=λD Γ=>D.nx Γ
def W7 (p q:xE):xE:=λD Γ=>p { D with nx:=q D } Γ
theorem yA:xC X [] (ym kP):=jm zOC λD σ H ⟨Z0,H0,Z,Γ,Dp,E,h,nx,rt,bk,ct⟩=>nx Z Γ σ H E (zF.refl _) h
theorem zJ (h1:PS X st (ym p)) (h2:xC X sts (ym q)):xC X (st :: sts) (ym (W7 p q)):=jm (X1 h1 h2) λD σ H ⟨Z0,H0,Z,Γ,Dp,E,h,nx,rt,bk,ct⟩=>
 ⟨Z0,H0,Z,Γ,{ Dp with nx:=q Dp },E,h,λZ' Γ' σ' H' E' s' h'=>⟨Z0,H0,Z',Γ',Dp,E',h',λZ2 Γ2 σ2 H2 E2 s2=>nx Z2 Γ2 σ2 H2 E2 (s'.trans s2),rt,λZ2 Γ2 σ2 H2 E2 s2=>bk Z2 Γ2 σ2 H2 E2 (s'.trans s2),λZ2 Γ2 σ2 H2 E2 s2=>ct Z2 Γ2 σ2 H2 E2 (s'.trans s2)⟩,rt,bk,ct⟩
def kR (p q:xE):xE:=λD Γ=>∃ M:List Sl->Prop,p { D with nx:=M } Γ/\∀ Γ',M Γ'->q D Γ'
theorem vb (h1:PS X st (ym p)) (h2:xC X sts (ym q)):xC X (st :: sts) (ym (kR p q)):=jm (X1 h1 h2) λD σ H ⟨Z0,H0,Z,Γ,Dp,E,⟨M,h,k⟩,nx,rt,bk,ct⟩=>
 ⟨Z0,H0,Z,Γ,{ Dp with nx:=M },E,h,λZ' Γ' σ' H' E' s' h'=>⟨Z0,H0,Z',Γ',Dp,E',k Γ' h',λZ2 Γ2 σ2 H2 E2 s2=>nx Z2 Γ2 σ2 H2 E2 (s'.trans s2),rt,λZ2 Γ2 σ2 H2 E2 s2=>bk Z2 Γ2 σ2 H2 E2 (s'.trans s2),λZ2 Γ2 σ2 H2 E2 s2=>ct Z2 Γ2 σ2 H2 E2 (s'.trans s2)⟩,rt,bk,ct⟩
theorem zM (h1:PS X st (ym p)):xC X [st] (ym p):=X2 h1
def W8 (i:Nat) (p:xE):xE:=λD Γ=>p D (frz Γ i)
theorem wC (i:Nat) (h1:PS X st (ym p)):PS X st (ym (W8 i p)):=zv h1 λD σ H ⟨Z0,H0,Z,Γ,Dp,E,h,nx,rt,bk,ct⟩=>by
 obtain ⟨Z',E',s⟩:=E.frz i
 exact ⟨Z0,H0,Z',_,Dp,E',h,λZ2 Γ2 σ2 H2 E2 s2=>nx Z2 Γ2 σ2 H2 E2 (s.trans s2),rt,λZ2 Γ2 σ2 H2 E2 s2=>bk Z2 Γ2 σ2 H2 E2 (s.trans s2),λZ2 Γ2 σ2 H2 E2 s2=>ct Z2 Γ2 σ2 H2 E2 (s.trans s2)⟩
def kS (i:Nat) (pa:zy):xE:=λD Γ=>pa Γ λd=>D.nx (zq Γ i (.sh d))
theorem zO1 {i:Nat} (D:xS) (σ:St) (H:Hp):ym (kS i pa) D σ H->vR (tP pa) (qx i) D σ H:=λ⟨Z0,H0,Z,Γ,Dp,E,h,nx,rt,bk,ct⟩=>
 ⟨Z,Γ,_,E.e,h,λd v H1 hd s1 hv=>nx Z _ _ H1 ((E.mv s1).set hv i) (ye s1) hd⟩
theorem zg (i:Nat) {x:Str} {pos':Pos} (hN:X.N.Nodup) (hi:X.N[i]? = some x) (hx:uv X.env.scope x) (he:PE X e (tP pa)) (hs:swapsWith e (some (.Name x pos')) pos.line X.env=pure false:=by rfl) (hf:X.fn x=true\/X.env.scope.names.lookup x=some .local:=by first | exact .inl rfl | exact .inr rfl | assumption) :
  PS X (.Assign [.Name x pos'] e pos) (ym (kS i pa)):=zv (Ju hN hi hx he hs hf) zO1
def W9 (js:List Nat) (po:D->Option (List D)) (pa:zy):xE:=λD Γ=>pa Γ λd=>uO (po d) λos=>D.nx (Yi Γ js os)
theorem vc {tg:Expr} {js:List Nat} {po:D->Option (List D)} (he:PE X e (tP pa)) (hg:PG X tg (tG js po)) (hs:swapsWithSole [tg] e pos.line X.env=pure false:=by rfl) (hw:swappedStores [tg] e X.env=pure none:=by rfl)
  (h1:(assignEach [tg] X.env).map (·.2)=[assign tg X.env]:=by rfl):PS X (.Assign [tg] e pos) (ym (W9 js po pa)):=zv (Jt he hg hs hw h1) λD σ H ⟨Z0,H0,Z,Γ,Dp,E,h,nx,rt,bk,ct⟩=>
 ⟨Z,Γ,_,E.e,h,λd v H1 hd s1 hv=>by
  obtain ⟨os,ho,hd⟩:=kH hd
  exact ⟨Z,d,os,hv,ho,λvs hvs=>nx Z _ _ H1 ((E.mv s1).setN hvs) (ye s1) hd⟩⟩
def UA (i:Nat) (pl:yx):xE:=λD Γ=>pl Γ λds=>ds.length<=1000/\D.nx (zq Γ i (.ow ds))
theorem wX (i:Nat) {x:Str} {pos' lp:Pos} (hN:X.N.Nodup) (hi:X.N[i]? = some x) (hx:uv X.env.scope x) (he:PA X es (wL pl)) (hs:swapsWith (.List es lp) (some (.Name x pos')) pos.line X.env=pure false:=by rfl) (hf:X.fn x=true\/X.env.scope.names.lookup x=some .local:=by first | exact .inl rfl | exact .inr rfl | assumption) :
  PS X (.Assign [.Name x pos'] (.List es lp) pos) (ym (UA i pl)):=zv (Ju hN hi hx (QF he) hs hf) λD σ H ⟨Z0,H0,Z,Γ,Dp,E,h,nx,rt,bk,ct⟩=>
 ⟨Z,Γ,_,E.e,h,λds vs H1 hd s1 hv=>⟨few (by rw [xl hv]; exact hd.1),λl hl=>by
  obtain ⟨E2,s2⟩:=(E.mv s1).make hl hv i
  exact nx _ _ _ _ E2 ((ye s1).trans s2) hd.2⟩⟩
def kT:D->(List D->Prop)->Prop
 | .lst es,k=>k es
 | _,_=>False
def zPq (i:Nat) (ow:Bool) (caps:List Nat) (pi:yx) (po:D->Option (List D)) (pe:zy):xE:=λT Γ=>pi Γ λds=>zk ds (λd S=>uO (po d) λos=>pe (os.map Sl.sh++caps.map λj=>un (slot Γ j)) S) λd=>kT d λes=>T.nx (zq Γ i (match ow with | true=>.ow es | false=>.sh (.lst es)))
theorem jB (i:Nat) (ow:Bool) {scope:Scope} {own:List Str} {caps:List (Nat × Str)} {tg iter elt:Expr} {pi:yx} {po:D->Option (List D)} {pe:zy} {js:List Nat} {y:Str} {py spos:Pos} (hN:X.N.Nodup) (hy:X.N[i]? = some y) (hl:X.env.scope.names.lookup y=some .local) (B:vW X scope own caps) (hc:X.calm=true) (hj:js=List.range' 0 own.length) (hk:∀ d os,po d=some os->os.length=js.length)
  (hi:PI X tg iter (ua pi)) (hg:∀ C s₀ H₀ ex,PG (yV X scope (zX own caps) C s₀ H₀ ex) tg (tG js po)) (he:∀ C s₀ H₀ ex,PE (yV X scope (zX own caps) C s₀ H₀ ex) elt (tP pe)) (hsw:swapsWith (.ListComp elt [⟨tg,iter,[],0⟩] scope pos) (some (.Name y py)) spos.line X.env=pure true) (hs:∀ x,foldedSetIterable iter X.env x=pure x:=by intro _; rfl) :
  PS X (.Assign [.Name y py] (.ListComp elt [⟨tg,iter,[],0⟩] scope pos) spos) (ym (zPq i ow (caps.map (·.1)) pi po pe)):=zv (zMd hN hy hl B hc hi hg he hsw hs) λD σ H ⟨Z0,H0,Z,Γ,Dp,E,h,nx,rt,bk,ct⟩=>
 ⟨Z,Γ,_,E.e,h,λds J H1 ⟨fw,F,hF,hR⟩ s1 wk=>Kk (E.e.same s1) wk hj hk fw hF λes ys H' l h1 s2 h2 hp=>by
  have E1:=(E.mv s1).mv s2
  cases ow with
  | true=>
   obtain ⟨E2,s3⟩:=E1.make hp h2 i
   exact nx _ _ _ _ E2 ((ye (s1.trans s2)).trans s3) (hR es h1)
  | false=>exact nx Z _ _ _ ((E1.mv (xV hp _)).set (uM E1.e.zd hp h2) i) (ye (s1.trans (s2.trans (xV hp _)))) (hR es h1)⟩
def UB (pa:zy):xE:=λD Γ=>pa Γ D.rt
theorem zS (he:PE X e (tP pa)):PS X (.Return (some e) pos) (ym (UB pa)):=zv (Jq he) λD σ H ⟨Z0,H0,Z,Γ,Dp,E,h,nx,rt,bk,ct⟩=>
 ⟨Z,Γ,_,E.e,h,λd v H1 hd s1 hv=>rt d v H1 (E.same.trans s1) (hv.same (qP E.z0)) hd⟩
def pIf (t:wB) (p q:xE):xE:=λD Γ=>t Γ λc=>wV c (p D Γ) (q D Γ)
theorem yB {c:Expr} {a b:List Stmt} {t:wB} (hc:PT X c (xD t)) (ha:xC X a (ym p)) (hb:xC X b (ym q)):PS X (.If c a b pos) (ym (pIf t p q)):=zv (qw hc ha hb) λD σ H ⟨Z0,H0,Z,Γ,Dp,E,h,nx,rt,bk,ct⟩=>
 ⟨Z,Γ,_,E.e,h,λc H1 hd s1=>by
  have f:∀ {P:List Sl->Prop} {Q:St->Hp->Prop},(∀ Z' Γ' σ' H',yo Z0 H0 Z' Γ' σ' H'->zF (zQ Z H) (zQ Z' H')->P Γ'->Q σ' H')->∀ Z' Γ' σ' H',yo Z0 H0 Z' Γ' σ' H'->zF (zQ Z H1) (zQ Z' H')->P Γ'->Q σ' H':=λg Z2 Γ2 σ2 H2 E2 s2=>g Z2 Γ2 σ2 H2 E2 ((ye s1).trans s2)
  cases c with
  | true=>exact ⟨Z0,H0,Z,Γ,Dp,E.mv s1,hd.1 rfl,f nx,rt,f bk,f ct⟩
  | false=>exact ⟨Z0,H0,Z,Γ,Dp,E.mv s1,hd.2 rfl,f nx,rt,f bk,f ct⟩⟩
def zPr:xE:=λD Γ=>D.bk Γ
theorem zKW:PS X (.Break pos) (ym zPr):=zv zMe λD σ H ⟨Z0,H0,Z,Γ,Dp,E,h,nx,rt,bk,ct⟩=>bk Z Γ σ H E (zF.refl _) h
def zPo:xE:=λ_ _=>False
theorem UC:PS X st (ym zPo):=zv zMc λD σ H ⟨Z0,H0,Z,Γ,Dp,E,h,nx,rt,bk,ct⟩=>h
def UD (pi:yx) (js:List Nat) (po:D->Option (List D)) (pb:xE):xE:=λD Γ=>pi Γ λds=>∃ I:Nat->List Sl->Prop,I 0 Γ/\(∀ k d Γ',ds[k]? = some d->I k Γ'->uO (po d) λos=>pb ⟨I (k + 1),D.rt,D.nx,I (k + 1)⟩ (Yi Γ' js os))/\∀ Γ',I ds.length Γ'->D.nx Γ'
theorem wu {tg iter:Expr} {body:List Stmt} {pi:yx} {js:List Nat} {po:D->Option (List D)} (hp:PassesOwn (model X.prog X.w) X.A X.env X.xe) (hc:X.calm=true) (hi:PI X tg iter (ua pi)) (hg:PG X tg (tG js po)) (hb:xC X body (ym p))
  (hs:∀ x,foldedSetIterable iter X.env x=pure x:=by intro _; rfl):PS X (.For tg iter body [] pos) (ym (UD pi js po p)):=zv (zPU hp hc hi hg hb hs) λD σ H ⟨Z0,H0,Z,Γ,Dp,E,h,nx,rt,bk,ct⟩=>
 ⟨Z,Γ,_,E.e,h,λds J H1 ⟨I,h0,hst,hd⟩ s1 wk=>by
  have g:∀ {Q:List Sl->Prop} {T:St->Hp->Prop} {Z1 H2},zF (zQ Z H1) (zQ Z1 H2)->(∀ Z' Γ' σ' H',yo Z0 H0 Z' Γ' σ' H'->zF (zQ Z H) (zQ Z' H')->Q Γ'->T σ' H')->∀ Z' Γ' σ' H',yo Z0 H0 Z' Γ' σ' H'->zF (zQ Z1 H2) (zQ Z' H')->Q Γ'->T σ' H':=λs k Z2 Γ2 σ2 H2 E2 s2=>k Z2 Γ2 σ2 H2 E2 ((ye s1).trans (s.trans s2))
  refine ⟨λi m σ' H'=>m + i=ds.length/\∃ Z' Γ',yo Z0 H0 Z' Γ' σ' H'/\zF (zQ Z H1) (zQ Z' H')/\I i Γ',⟨ds.length,rfl,Z,Γ,E.mv s1,zF.refl _,h0⟩,?_⟩
  rintro i m σ' H' ⟨hm,Z',Γ',E',s',hI⟩
  obtain ⟨w1,w2⟩:=wk i Z' H' s' E'.e.zd
  by_cases hi:i < ds.length
  ·refine .inr ⟨(w1 _ (List.getElem?_eq_getElem hi)).1,λσ' H'=>m - 1 + (i + 1)=ds.length/\∃ Z' Γ',yo Z0 H0 Z' Γ' σ' H'/\zF (zQ Z H1) (zQ Z' H')/\I (i + 1) Γ',λσ2 H2 k=>⟨m - 1,by omega,k⟩,λx H2 yl=>?_⟩
   obtain ⟨s2,dv⟩:=(w1 _ (List.getElem?_eq_getElem hi)).2 x H2 yl
   obtain ⟨os,ho,hb⟩:=kH (hst i _ Γ' (List.getElem?_eq_getElem hi) hI)
   refine ⟨Z',_,os,dv,ho,λvs hvs=>?_⟩
   have s3:=s'.trans (ye s2)
   have again:∀ Z2 Γ2 σ2 H3,yo Z0 H0 Z2 Γ2 σ2 H3->zF (zQ Z' H2) (zQ Z2 H3)->I (i + 1) Γ2->m - 1 + (i + 1)=ds.length/\∃ Z' Γ',yo Z0 H0 Z' Γ' σ2 H3/\zF (zQ Z H1) (zQ Z' H3)/\I (i + 1) Γ':=λZ2 Γ2 σ2 H3 E3 k hI=>⟨by omega,Z2,Γ2,E3,s3.trans k,hI⟩
   exact ⟨Z0,H0,Z',_,_,(E'.mv s2).setN hvs,hb,again,rt,g s3 nx,again⟩
  ·have ei:i=ds.length:=by omega
   rw [ei] at hI
   exact .inl ⟨w2 ei,nx Z' Γ' σ' H' E' ((ye s1).trans s') (hd Γ' hI)⟩⟩
def Yp:Sl->(List D->Prop)->Prop
 | .ow ds,R=>R ds
 | _,_=>False
theorem UE {s:Sl} {R:List D->Prop} (h:Yp s R):∃ ds,s=.ow ds/\R ds:=by
 cases s with
 | ow ds=>exact ⟨ds,rfl,h⟩
 | _=>exact h.elim
def UF (i:Nat) (pa:zy):xE:=λD Γ=>Yp (slot Γ i) λds=>pa Γ λd=>ds.length < 1000/\D.nx (zq Γ i (.ow (ds++[d])))
theorem xq {i:Nat} {K:PySem.W.Frag} (D:xS) (σ:St) (H:Hp):ym (UF i pa) D σ H->Jp (Qb K "list" jZ (v5 i) (qB (tP pa) vS)) D σ H:=λ⟨Z0,H0,Z,Γ,Dp,E,h,nx,rt,bk,ct⟩=>by
 obtain ⟨ds,hs,h⟩:=UE h
 obtain ⟨l,xs,hl,hz,el,hx⟩:=E.e.ow i ds hs
 refine ⟨.ref l,hl,.inl ⟨rfl,xs,zb.of el⟩,Z,Γ,_,E.e,h,λd v H1 hd s1 hv=>?_⟩
 have hx1:=yr (ye s1) hx
 exact ⟨l,xs,v,rfl,rfl,s1 _ _ el,YC (by rw [xl hx]; omega),nx Z _ _ _ ((E.mv s1).put hs hl hz (jX hv hx1)) ((ye s1).trans (kO hz)) hd.2⟩
def UG (i:Nat) (pa pb:zy):xE:=λD Γ=>pa Γ λd=>Yp (slot Γ i) λds=>pb Γ λk=>iD k λo=>∃ z j,o=some z/\wl ds.length z=some j/\D.nx (zq Γ i (.ow (ds.set j d)))
theorem Km {α β:Type} {R:α->β->Prop} {x:α} {y:β} (r:R x y):∀ {xs:List α} {ys:List β} (i:Nat),Paired R xs ys->Paired R (xs.set i x) (ys.set i y)
 | _,_,_,.nil=>.nil
 | _,_,0,.cons _ t=>.cons r t
 | _,_,i + 1,.cons q t=>.cons q (Km r i t)
theorem zO2 {i:Nat} (D:xS) (σ:St) (H:Hp):ym (UG i pa pb) D σ H->vR (tP pa) (qz (v5 i) (tP pb) ja) D σ H:=λ⟨Z0,H0,Z,Γ,Dp,E,h,nx,rt,bk,ct⟩=>
 ⟨Z,Γ,_,E.e,h,λd v H1 hd s1 hv=>by
  obtain ⟨ds,hs,h⟩:=UE hd
  obtain ⟨l,xs,hl,hz,el,hx⟩:=(E.mv s1).e.ow i ds hs
  refine ⟨.ref l,hl,Z,Γ,_,(E.mv s1).e,h,λk u H2 hk s2 hu=>?_⟩
  unfold iD at hk
  split at hk
  ·obtain ⟨z,j,e1,e2,hd⟩:=hk
   cases e1
   cases hu
   have s:=s1.trans s2
   have hx1:=yr (ye s2) hx
   exact ⟨l,xs,_,j,rfl,rfl,s2 _ _ el,by rw [xl hx]; exact e2,nx Z _ _ _ ((E.mv s).put hs hl hz (Km (hv.same (ye s2)) j hx1)) ((ye s).trans (kO hz)) hd⟩
  ·exact hk.elim⟩
def Kn (ds:List D):D->(D->Prop)->Prop
 | .int i,R=>∃ d,yp ds i=some d/\R d
 | _,_=>False
def UH (i:Nat) (pb:zy):zy:=λΓ R=>Yp (slot Γ i) λds=>pb Γ λk=>Kn ds k R
theorem UI (i:Nat) {x:Str} {b:Expr} {xp:Pos} (hb:PE X b (tP pb)) (hs:WJ b) (hN:X.N[i]? = some x:=by rfl) (hv:jM X.env.scope x:=by first | exact Or.inl rfl | exact Or.inr (Or.inl rfl) | exact Or.inr (Or.inr rfl)) (hd:(x == ("__debug__" : Str))=false:=by decide)
  (hcd:(x == ("__classdict__" : Str))=false:=by decide):PE X (.Subscript (.Name x xp) b pos) (tP (UH i pb)):=yG (QX QY (yJ i hN hv hd hcd) hb hs) λσ H Q ⟨Z,Γ,R,E,h,q⟩=>by
 obtain ⟨ds,hs,h⟩:=UE h
 obtain ⟨l,xs,hl,hz,el,hx⟩:=E.ow i ds hs
 refine ⟨.ref l,hl,Z,Γ,_,E,h,λk u H2 hk s2 hu=>?_⟩
 unfold Kn at hk
 split at hk
 ·cases hu
  obtain ⟨d,hd,hR⟩:=hk
  obtain ⟨v,hv,hh⟩:=Yg hx hd
  exact ⟨l,xs,_,v,rfl,rfl,zb.of (s2 _ _ el),hv,q _ _ H2 hR s2 (hh.same (ye s2))⟩
 ·exact hk.elim
def D.isInt:D->Bool
 | .int _=>true
 | .bool _=>true
 | _=>false
def D.isBool:D->Bool
 | .bool _=>true
 | _=>false
def D.isLst:D->Bool
 | .lst _=>true
 | .scr _=>true
 | _=>false
def D.isTup:D->Bool
 | .tup _=>true
 | _=>false
def D.isObj:D->Bool
 | .obj ..=>true
 | _=>false
def kU (c:String) (f:D->Bool):D->(D->Prop)->Prop:=λd R=>d.isObj=false/\R (.bool (f d))
theorem Yq {K:PySem.W.Frag} {H:Hp} {v:V} {d:D} (h:DV H v d) (o:d.isObj=false):∃ t,yK K H v t/\PySem.W.kitOne K t (.type "int")=some d.isInt/\PySem.W.kitOne K t (.type "bool")=some d.isBool/\PySem.W.kitOne K t (.type "list")=some d.isLst/\PySem.W.kitOne K t (.type "tuple")=some d.isTup:=by
 cases h with
 | int i=>exact ⟨_,.int i,u3 K .int,u4 K .int,u6 K .int,u5 K .int⟩
 | bool b=>exact ⟨_,.bl b,u3 K .bool,u4 K .bool,u6 K .bool,u5 K .bool⟩
 | non=>exact ⟨_,.non,u3 K .non,u4 K .non,u6 K .non,u5 K .non⟩
 | str x=>exact ⟨_,.str x,u3 K .str,u4 K .str,u6 K .str,u5 K .str⟩
 | scr e=>
  rcases e with e | ⟨o,e⟩
  ·exact ⟨_,.lst e,u3 K .lst,u4 K .lst,u6 K .lst,u5 K .lst⟩
  ·exact ⟨_,.frz e,u3 K .lst,u4 K .lst,u6 K .lst,u5 K .lst⟩
 | lst e _=>exact ⟨_,.lst e,u3 K .lst,u4 K .lst,u6 K .lst,u5 K .lst⟩
 | tup e _=>exact ⟨_,.tup e,u3 K .tup,u4 K .tup,u6 K .tup,u5 K .tup⟩
 | obj e _ _=>cases o
theorem vF {K:PySem.W.Frag} {c:String} {f:D->Bool} (hf:∀ H v d,DV H v d->d.isObj=false->∃ t,yK K H v t/\PySem.W.kitOne K t (.type c)=some (f d)) (σ:St) (H:Hp) (Q:VK):tP (gq (kU c f) pa) σ H Q->gI (Qm K) (qB (tP pa) (qB (tC (.ty c)) vS)) σ H Q:=λ⟨Z,Γ,R,E,h,q⟩=>
 ⟨Z,Γ,_,E,h,λd v H1 hd s1 hv=>by
  obtain ⟨t,h1,h2⟩:=hf H1 v d (hv.same zu) hd.1
  exact ⟨v,c,t,_,rfl,h1,h2,q _ _ H1 hd.2 s1 (.bool _)⟩⟩
theorem zQI {K:PySem.W.Frag} (H:Hp) (v:V) (d:D) (h:DV H v d) (o:d.isObj=false):∃ t,yK K H v t/\PySem.W.kitOne K t (.type "int")=some d.isInt:=let ⟨t,h1,h2,_⟩:=Yq h o; ⟨t,h1,h2⟩
theorem zM8 {K:PySem.W.Frag} (H:Hp) (v:V) (d:D) (h:DV H v d) (o:d.isObj=false):∃ t,yK K H v t/\PySem.W.kitOne K t (.type "bool")=some d.isBool:=let ⟨t,h1,_,h2,_⟩:=Yq h o; ⟨t,h1,h2⟩
theorem jC {K:PySem.W.Frag} (H:Hp) (v:V) (d:D) (h:DV H v d) (o:d.isObj=false):∃ t,yK K H v t/\PySem.W.kitOne K t (.type "list")=some d.isLst:=let ⟨t,h1,_,_,h2,_⟩:=Yq h o; ⟨t,h1,h2⟩
theorem kW {K:PySem.W.Frag} (H:Hp) (v:V) (d:D) (h:DV H v d) (o:d.isObj=false):∃ t,yK K H v t/\PySem.W.kitOne K t (.type "tuple")=some d.isTup:=let ⟨t,h1,_,_,_,h2⟩:=Yq h o; ⟨t,h1,h2⟩
end
inductive zI (F:FL) (vs:List V) (H:Hp) (Q:VK) (E:XK):Prop
 | mk (Z:Addr->Prop) (ds:List D) (R:D->Prop) (zd:ZL Z H) (hv:yN (zQ Z H) vs ds) (h:F ds R) (q:∀ d v H',R d->zF H H'->DV (zQ Z H') v d->Q v H'):zI F vs H Q E
section
variable {P:Program} {w:World} {K:PySem.W.Frag} {mg:Str->Option Value} {base:Heap}
theorem jn (n i:Nat):slot (List.replicate n .no) i=.no:=by
 rw [Kj]
 cases h:(List.replicate n Sl.no)[i]? with
 | none=>rfl
 | some x=>exact List.eq_of_mem_replicate (List.mem_of_getElem? h)
theorem Ko {Z:Addr->Prop} {H:Hp} {vs:List V} {ds:List D} (zd:ZL Z H) (h:yN (zQ Z H) vs ds) (n:Nat):yD Z (ds.map Sl.sh++List.replicate n .no) (vs.map some++List.replicate n none) H:=by
 have no:∀ i as,slot (ds.map Sl.sh++List.replicate n .no) i≠.ow as:=Yn λi as h=>by rw [jn] at h; cases h
 have nob:∀ i o c ns as,slot (ds.map Sl.sh++List.replicate n .no) i≠.ob o c ns as:=Ym λi o c ns as h=>by rw [jn] at h; cases h
 refine ⟨?_,λi as e=>absurd e (no i as),λi o c ns as e=>absurd e (nob i o c ns as),λi _ as _ _ e=>absurd e (no i as),zd,?_⟩
 clear nob
 ·induction h with
  | nil=>
   intro i d e
   change slot (List.replicate n .no) i=_ at e
   rw [jn] at e
   cases e
  | @cons v d vs ds hv _ ih=>
   intro i e q
   cases i with
   | zero=>cases q; exact ⟨v,rfl,hv⟩
   | succ i=>
    obtain ⟨u,h1,h2⟩:=ih (λi=>no (i + 1)) i e q
    exact ⟨u,by rw [List.map_cons,List.cons_append,List.getElem?_cons_succ]; exact h1,h2⟩
 ·rw [List.length_append,List.length_append,List.length_map,List.length_map,List.length_replicate,List.length_replicate,xl h]
theorem Kp {N ps:List Str} {F:FL} {p:xE} (len:∀ ds R,F ds R->ds.length=ps.length) (h2:∀ ds R,F ds R->p { nx:=λ_=>R .non,rt:=R } (ds.map Sl.sh++List.replicate (N.length - ps.length) .no)) {H:Hp} {vs:List V} {Q:VK} {E:XK} (h:zI F vs H Q E):ym p { nx:=λ_ H'=>Q .non H',rt:=Q } (L2.xc N vs) H:=by
 obtain ⟨Z,ds,R,zd,hv,h,q⟩:=h
 have e:L2.xc N vs=vs.map some++List.replicate (N.length - ps.length) none:=by
  unfold L2.xc
  rw [xl hv,len ds R h]
 refine ⟨Z,H,Z,_,_,⟨?_,λ_ h=>h,zd,zF.refl _,?_,?_⟩,h2 ds R h,λZ' Γ' σ' H' E' _ hn=>q .non .non H' hn E'.same .non,λd v H' s' hv' hd=>q d v H' hd s' hv',λ_ _ _ _ _ _ h=>h.elim,λ_ _ _ _ _ _ h=>h.elim⟩
 ·rw [e]
  exact Ko zd hv _
 ·exact λi as l e=>absurd e (Yn (λi as h=>by rw [jn] at h; cases h) i as)
 ·exact λi o c ns as e=>absurd e (Ym (λi o c ns as h=>by rw [jn] at h; cases h) i o c ns as)
theorem UJ {ps:List Str} {F:FL} (len:∀ ds R,F ds R->ds.length=ps.length) (vs:List V) (H:Hp) (Q:VK) (E:XK):zI F vs H Q E->vs.length=ps.length:=λ⟨Z,ds,R,zd,hv,h,q⟩=>by rw [xl hv]; exact len ds R h
theorem zm {x qual:Str} {st:Stmt} {f:Addr} {fd:FuncData} {N ps:List Str} {k:Nat} {F:FL} (Fu:zc K x qual st f fd) (S:za N ps (zK st)) (len:∀ ds R,F ds R->ds.length=ps.length)
  (hbody:∀ (cdv:Value) (A:Around) (outer:List Env) (s:Shared) (H:Hp) (E:XK),zh k (A.deeper (envOfC qual (zK st) s.heap.objs.size f cdv))->
   ∃ p,xC (xf zW P w K mg base N qual (zK st) f cdv A outer s H E).nox (xh st) (ym p)/\∀ ds R,F ds R->p { nx:=λ_=>R .non,rt:=R } (ds.map Sl.sh++List.replicate (N.length - ps.length) .no)):zH P w K mg base zW (k + 1) f fd ps (zI F):=
 Fu.ok S (UJ len) λcdv A outer s H vs Q E hr h=>let ⟨p,h1,h2⟩:=hbody cdv A outer s H E hr; ⟨_,h1,Kp len h2 h⟩
theorem kX {x qual:Str} {st:Stmt} {f:Addr} {fd:FuncData} {dv:Value} {N ps:List Str} {k:Nat} {F:FL} (Fu:xU K x qual st f fd dv) (S:za N ps (zK st)) (len:∀ ds R,F ds R->ds.length=ps.length)
  (hbody:∀ (cdv:Value) (A:Around) (outer:List Env) (s:Shared) (H:Hp) (E:XK),zh k (A.deeper (envOfC qual (zK st) s.heap.objs.size f cdv))->
   ∃ p,xC (xf zW P w K mg base N qual (zK st) f cdv A outer s H E).nox (xh st) (ym p)/\∀ ds R,F ds R->p { nx:=λ_=>R .non,rt:=R } (ds.map Sl.sh++List.replicate (N.length - ps.length) .no)):zH P w K mg base zW (k + 1) f fd ps (zI F):=
 Fu.ok S (UJ len) λcdv A outer s H vs Q E hr h=>let ⟨p,h1,h2⟩:=hbody cdv A outer s H E hr; ⟨_,h1,Kp len h2 h⟩
theorem zO {X:Cx} {x:Str} {ps:List Str} {k:Nat} {F:FL} {e:Expr} {es:List Expr} {pl:yx} {p pos:Pos} (c:Fn X.prog X.w X.K X.mg X.base x ps k (zI F)) (hr:zh k X.A) (hg:Gl X x) (ha:PA X (e :: es) (wL pl))
  (hdb:(x == ("__debug__" : Str))=false:=by decide) (he:starEach (e :: es) X.env=(false,eval e X.env) :: starEach es X.env:=by rfl) (hpl:(backTo pos (starEach es X.env)).any (·.1)=false:=by rfl) :
  PE X (.Call (.Name x p) (e :: es) [] pos) (tP (jA F pl)):=yG (zMn c hr hg ha hdb he hpl) λσ H Q ⟨Z,Γ,R,E,h,q⟩=>
 ⟨Z,Γ,_,E,h,λds vs H1 hd s1 hv=>⟨Z,ds,R,(E.same s1).zd,by rw [List.append_nil]; exact hv,hd,λd v H2 h2 s2 hv2=>q d v H2 h2 (s1.trans s2) hv2⟩⟩
end
end Pu
namespace Pu
open PySem L2 Sh
open PyProof.Rows (envOfC)
theorem Kq {f:Str} {y:V}:∀ {ns:List Str} {xs:List V},ns.length=xs.length->f∉ns->yb f y (ns.zip xs)=(ns++[f]).zip (xs++[y])
 | [],[],_,_=>rfl
 | [],_ :: _,h,_=>nomatch h
 | _ :: _,[],h,_=>nomatch h
 | n :: ns,x :: xs,h,hf=>by
  show (if n=f then (n,y) :: ns.zip xs else (n,x) :: yb f y (ns.zip xs))=_
  rw [if_neg (λz=>hf (by rw [z]; exact List.mem_cons_self)),Kq (Nat.succ.inj h) (λz=>hf (List.mem_cons_of_mem _ z))]
  rfl
theorem yo.putO {Z0:Addr->Prop} {H0:Hp} {Z:Addr->Prop} {Γ:List Sl} {σ:St} {H:Hp} (E:yo Z0 H0 Z Γ σ H) {i:Nat} {o c dx:Addr} {ns ns':List Str} {ds ds':List D} {xs:List V} (hs:slot Γ i=.ob o c ns ds) (he:∃ fs,H o=some (.ins c dx fs)) (hl:ns'.length=xs.length) (hx:yN (zQ Z H) xs ds') (one:∀ j o' c' ns' ds',slot Γ j=.ob o' c' ns' ds'->j=i):yo Z0 H0 Z (zq Γ i (.ob o c ns' ds')) σ (zZ H o (.ins c dx (ns'.zip xs))):=by
 obtain ⟨dx0,xs0,hl0,hz,el,_⟩:=E.e.ob i o c ns ds hs
 have li:=vY (Γ:=Γ) (i:=i) (by rw [hs]; exact λz=>nomatch z)
 have hp:zF (zQ Z H) (zQ Z (zZ H o (.ins c dx (ns'.zip xs)))):=kO hz
 have keyw:∀ j d,slot (zq Γ i (.ob o c ns' ds')) j=.ow d->slot Γ j=.ow d:=λj d q=>by
  rw [y9] at q
  by_cases c:j=i/\i < Γ.length
  ·rw [if_pos c] at q; cases q
  ·rw [if_neg c] at q; exact q
 refine ⟨⟨λj d q=>?_,λj d q=>?_,λj o' c' ns1 d q=>?_,λj k as bs m q r=>E.e.ne j k as bs m (keyw j as q) (keyw k bs r),λb hb=>?_,by rw [u8]; exact E.e.len⟩,E.z0,E.z0d,?_,λj d m q=>E.own j d m (keyw j d q),λj o' c' ns1 d q=>?_⟩
 ·rw [y9] at q
  by_cases c:j=i/\i < Γ.length
  ·rw [if_pos c] at q; cases q
  ·rw [if_neg c] at q
   obtain ⟨v,h1,h2⟩:=E.e.sh j d q
   exact ⟨v,h1,h2.same hp⟩
 ·obtain ⟨m,ys,h1,h2,h3,h4⟩:=E.e.ow j d (keyw j d q)
  have nm:m≠o:=λz=>by rw [z,el] at h3; cases h3
  exact ⟨m,ys,h1,h2,by rw [zt nm]; exact h3,yr hp h4⟩
 ·rw [y9] at q
  by_cases c:j=i/\i < Γ.length
  ·rw [if_pos c] at q
   cases q
   rw [c.1]
   exact ⟨dx,xs,hl0,hz,wQ,hl,yr hp hx⟩
  ·rw [if_neg c] at q
   exact absurd ⟨one _ _ _ _ _ q,li⟩ c
 ·obtain ⟨u,e,n⟩:=E.e.zd b hb
  by_cases c:b=o
  ·rw [c]; exact ⟨_,wQ,λ_ z=>nomatch z⟩
  ·exact ⟨u,by rw [zt c]; exact e,n⟩
 ·exact λb u e=>by
   rw [zt (wR e (E.owb i o c ns ds hs))]
   exact E.same _ _ e
 ·rw [y9] at q
  by_cases c:j=i/\i < Γ.length
  ·rw [if_pos c] at q
   cases q
   exact E.owb i o _ ns ds hs
  ·rw [if_neg c] at q
   exact E.owb j o' c' ns1 d q
def Yr:Sl->(Addr->Addr->List Str->List D->Prop)->Prop
 | .ob o c ns ds,R=>R o c ns ds
 | _,_=>False
theorem Kr {s:Sl} {R:Addr->Addr->List Str->List D->Prop} (h:Yr s R):∃ o c ns ds,s=.ob o c ns ds/\R o c ns ds:=by
 cases s with
 | ob o c ns ds=>exact ⟨o,c,ns,ds,rfl,h⟩
 | _=>exact h.elim
def jo:List Sl->Bool
 | []=>true
 | .ob _ _ _ _ :: _=>false
 | _ :: t=>jo t
theorem Ys:∀ {Γ:List Sl},jo Γ=true->∀ j o c ns ds,slot Γ j≠.ob o c ns ds
 | [],_,_,_,_,_,_,h=>nomatch h
 | .no :: _,_,0,_,_,_,_,h=>nomatch h
 | .sh _ :: _,_,0,_,_,_,_,h=>nomatch h
 | .ow _ :: _,_,0,_,_,_,_,h=>nomatch h
 | .ob .. :: _,g,_,_,_,_,_,_=>nomatch g
 | .no :: t,g,j + 1,o,c,ns,ds,h=>Ys (Γ:=t) g j o c ns ds h
 | .sh _ :: t,g,j + 1,o,c,ns,ds,h=>Ys (Γ:=t) g j o c ns ds h
 | .ow _ :: t,g,j + 1,o,c,ns,ds,h=>Ys (Γ:=t) g j o c ns ds h
def Ks (K:PySem.W.Frag) (c:Addr) (f:Str):Prop:=vy K c/\yh K c f
def UK (K:PySem.W.Frag) (f:Str) (pa:zy):xE:=λT Γ=>pa Γ λd=>Yr (slot Γ 0) λo c ns ds=>Ks K c f/\f∉ns/\ns.length < 900/\jo (Γ.drop 1)=true/\T.nx (zq Γ 0 (.ob o c (ns++[f]) (ds++[d])))
section
variable {X:Cx} {e:Expr} {es:List Expr} {pos:Pos} {pa:zy} {pl:yx} {C:Addr}
theorem xr {K:PySem.W.Frag} {f:Str} (D:xS) (σ:St) (H:Hp):ym (UK K f pa) D σ H->gH K (v5 0) (tP pa) f D σ H:=λ⟨Z0,H0,Z,Γ,Dp,E,h,nx,rt,bk,ct⟩=>
 ⟨Z,Γ,_,E.e,h,λd v H1 hd s1 hv=>by
  obtain ⟨o,c,ns,ds,hs,hk,hf,hn,hn2,hd⟩:=Kr hd
  obtain ⟨dx,xs,hl,hz,el,ln,hx⟩:=(E.mv s1).e.ob 0 o c ns ds hs
  refine ⟨.ref o,hl,o,c,dx,_,rfl,el,hk.1,hk.2,by rw [List.length_zip]; omega,?_⟩
  rw [Kq ln hf]
  refine nx Z _ _ _ ((E.mv s1).putO hs ⟨_,el⟩ (by rw [List.length_append,List.length_append,ln]; rfl) (jX hv hx) ?_) ((ye s1).trans (kO hz)) hd
  intro j o' c' ns' ds' q
  cases j with
  | zero=>rfl
  | succ j=>
   cases Γ with
   | nil=>cases q
   | cons x t=>exact absurd q (Ys (Γ:=t) hn2 j o' c' ns' ds')⟩
inductive vG (C:Addr) (F:FL) (vs:List V) (H:Hp) (Q:VK) (E:XK):Prop
 | mk (Z:Addr->Prop) (ds:List D) (R:D->Prop) (o dx:Addr) (us:List V) (e:vs=.ref o :: us) (ho:H o=some (.ins C dx [])) (hz:¬ Z o) (zd:ZL Z H) (hv:yN (zQ (λb=>Z b\/b=o) H) us ds) (h:F ds R) (q:∀ d H',R d->Q9 o H H'->DV (zQ Z H') (.ref o) d->Q .non H'):vG C F vs H Q E
theorem zMz {N ps:List Str} {F:FL} {p:xE} (len:∀ ds R,F ds R->ds.length=ps.length) (h2:∀ o ds R,F ds R->p { nx:=λΓ=>Yr (slot Γ 0) λo' c ns es=>o'=o/\R (.obj c ns es),rt:=λ_=>False } (.ob o C [] [] :: (ds.map Sl.sh++List.replicate (N.length - (ps.length + 1)) .no))) {H:Hp} {vs:List V} {Q:VK} {E:XK} (h:vG C F vs H Q E):ym p { nx:=λ_ H'=>Q .non H',rt:=Q } (L2.xc N vs) H:=by
 obtain ⟨Z,ds,R,o,dx,us,e,ho,hz,zd,hv,h,q⟩:=h
 subst e
 have e:L2.xc N (.ref o :: us)=some (.ref o) :: (us.map some++List.replicate (N.length - (ps.length + 1)) none):=by
  unfold L2.xc
  rw [List.length_cons,xl hv,len ds R h]
  rfl
 have zd':ZL (λb=>Z b\/b=o) H:=λb hb=>hb.elim (zd b) λz=>by rw [z]; exact ⟨_,ho,λ_ z=>nomatch z⟩
 have E0:=Ko zd' hv (N.length - (ps.length + 1))
 refine ⟨Z,zQ (λb=>b=o) H,λb=>Z b\/b=o,_,_,⟨?_,λ_ h=>.inl h,λb hb=>?_,zu,?_,?_⟩,h2 o ds R h,λZ' Γ' σ' H' E' _ hn=>?_,λ_ _ _ _ _ h=>h.elim,λ_ _ _ _ _ _ h=>h.elim,λ_ _ _ _ _ _ h=>h.elim⟩
 ·rw [e]
  refine ⟨λi d q=>?_,λi d q=>?_,λi o' c ns d q=>?_,λi j as bs l q r=>?_,zd',by rw [List.length_cons,List.length_cons,E0.len]⟩
  ·cases i with
   | zero=>cases q
   | succ i=>exact E0.sh i d q
  ·cases i with
   | zero=>cases q
   | succ i=>exact E0.ow i d q
  ·cases i with
   | zero=>cases q; exact ⟨dx,[],rfl,.inr rfl,ho,rfl,.nil⟩
   | succ i=>exact E0.ob i o' c ns d q
  ·cases i with
   | zero=>cases q
   | succ i=>
    cases j with
    | zero=>cases r
    | succ j=>exact λa b=>congrArg _ (E0.ne i j as bs l q r a b)
 ·obtain ⟨u,e1,n⟩:=zd b hb
  exact ⟨u,(vD (Z:=λb=>b=o) λz=>hz (by rw [<- z]; exact hb)).trans e1,n⟩
 ·intro i as l q
  cases i with
  | zero=>cases q
  | succ i=>exact absurd q (Yn (λi as h=>by rw [jn] at h; cases h) i as)
 ·intro i o' c ns as q
  cases i with
  | zero=>cases q; exact if_pos rfl
  | succ i=>exact absurd q (Ym (λi o c ns as h=>by rw [jn] at h; cases h) i o' c ns as)
 ·obtain ⟨o',c,ns,es,hs,e2,hR⟩:=Kr hn
  subst e2
  obtain ⟨dx',xs,hl,hz',el,ln,hx⟩:=E'.e.ob 0 o' c ns es hs
  refine q _ H' hR (λb u eb nb=>E'.same _ _ ((vD (Z:=λb=>b=o') nb).trans eb)) (.obj ((vD hz).trans el) ln (yr (qP E'.z0) hx))
theorem zN5 {ps:List Str} {p0:Str} {F:FL} (len:∀ ds R,F ds R->ds.length=ps.length) (vs:List V) (H:Hp) (Q:VK) (E:XK):vG C F vs H Q E->vs.length=(p0 :: ps).length:=λ⟨Z,ds,R,o,dx,us,e,ho,hz,zd,hv,h,q⟩=>by rw [e,List.length_cons,List.length_cons,xl hv,len ds R h]
theorem Yt {P:Program} {w:World} {K:PySem.W.Frag} {mg:Str->Option Value} {base:Heap} {x qual:Str} {st:Stmt} {f:Addr} {fd:FuncData} {N ps:List Str} {p0:Str} {k:Nat} {F:FL} (Fu:zc K x qual st f fd) (S:za N (p0 :: ps) (zK st)) (len:∀ ds R,F ds R->ds.length=ps.length)
  (hbody:∀ (cdv:Value) (A:Around) (outer:List Env) (s:Shared) (H:Hp) (E:XK),zh k (A.deeper (envOfC qual (zK st) s.heap.objs.size f cdv))->
   ∃ p,xC (xf zW P w K mg base N qual (zK st) f cdv A outer s H E).nox (xh st) (ym p)/\∀ o ds R,F ds R->p { nx:=λΓ=>Yr (slot Γ 0) λo' c ns es=>o'=o/\R (.obj c ns es),rt:=λ_=>False } (.ob o C [] [] :: (ds.map Sl.sh++List.replicate (N.length - (ps.length + 1)) .no))):zH P w K mg base zW (k + 1) f fd (p0 :: ps) (vG C F):=
 Fu.ok S (zN5 len) λcdv A outer s H vs Q E hr h=>let ⟨p,h1,h2⟩:=hbody cdv A outer s H E hr; ⟨_,h1,zMz len h2 h⟩
theorem zMO {F:FL} {ev:List V} {ed:List D} (he:∀ H,yN H ev ed) (σ:St) (H:Hp) (Q:VK):tP (jA (λds=>F (ds++ed)) pl) σ H Q->Z9 C (vG C F) ev E0 (wL pl) σ H Q:=λ⟨Z,Γ,R,E,h,q⟩=>
 ⟨Z,Γ,_,E,h,λds vs H1 hd s1 hv x dx hx hdx ne=>by
  have zd:=(E.same s1).zd
  have s2:zF H1 (zZ (zZ H1 dx (.own x)) x (.ins C dx [])):=zKQ hx hdx ne _ _
  refine ⟨Z,ds++ed,R,x,dx,vs++ev,rfl,wQ,zd.new hx,zd.same s2,?_,hd,λd H' hR sb dv=>⟨rfl,q d _ H' hR (zMW (s1.trans s2) sb ?_) dv⟩⟩
  ·refine qK (yr ?_ hv) (he _)
   intro b o e
   obtain ⟨n1,n2⟩:=qO e
   rw [vD (λz=>z.elim n1 (wR n2 hx))]
   exact s2 _ _ n2
  ·cases k:H x with
   | none=>rfl
   | some o=>rw [s1 _ _ k] at hx; cases hx⟩
theorem zN0 {F:FL} (σ:St) (H:Hp) (Q:VK) (h:tP (jA F pl) σ H Q):Z9 C (vG C F) [] E0 (wL pl) σ H Q:=zMO (ed:=[]) (λ_=>.nil) σ H Q (by rw [show (λds=>F (ds++[]))=F from funext λds=>by rw [List.append_nil]]; exact h)
theorem Yu {x:Str} {ps:List Str} {k:Nat} {F:FL} {p:Pos} (c:uL X.prog X.w X.K X.mg X.base C ps k (vG C F)) (T:zE X.K X.mg x C) (hr:zh (k + 1) X.A) (hg:Gl X x) (ha:PA X (e :: es) (wL pl))
  (hdb:(x == ("__debug__" : Str))=false:=by decide) (he:starEach (e :: es) X.env=(false,eval e X.env) :: starEach es X.env:=by rfl) (hpl:(backTo pos (starEach es X.env)).any (·.1)=false:=by rfl) :
  PE X (.Call (.Name x p) (e :: es) [] pos) (tP (jA F pl)):=yG (zMk c T hr hg ha hdb he hpl) zN0
theorem vM {x:Str} {ps:List Str} {k:Nat} {F:FL} {p:Pos} {dv:V} (dd:D) (hd:∀ H,DV H dv dd) (c:vU X.prog X.w X.K X.mg X.base x ps k (zI F) dv) (hr:zh k X.A) (hg:Gl X x) (ha:PA X (e :: es) (wL pl))
  (hdb:(x == ("__debug__" : Str))=false:=by decide) (he:starEach (e :: es) X.env=(false,eval e X.env) :: starEach es X.env:=by rfl) (hpl:(backTo pos (starEach es X.env)).any (·.1)=false:=by rfl) :
  PE X (.Call (.Name x p) (e :: es) [] pos) (tP (jA (λds=>F (ds++[dd])) pl)):=yG (zKk c hr hg ha hdb he hpl) λσ H Q ⟨Z,Γ,R,E,h,q⟩=>
 ⟨Z,Γ,_,E,h,λds vs H1 hd' s1 hv=>⟨Z,ds++[dd],R,(E.same s1).zd,qK hv (.cons (hd _) .nil),hd',λd v H2 h2 s2 hv2=>q d v H2 h2 (s1.trans s2) hv2⟩⟩
def kY (K:PySem.W.Frag) (f:Str):D->(D->Prop)->Prop
 | .obj c ns ds,R=>Ks K c f/\∃ d,(ns.zip ds).lookup f=some d/\R d
 | _,_=>False
theorem Kt {H:Hp} {f:Str} {d:D}:∀ {ns:List Str} {xs:List V} {ds:List D},ns.length=xs.length->yN H xs ds->(ns.zip ds).lookup f=some d->∃ v,(ns.zip xs).lookup f=some v/\DV H v d
 | [],_,_,_,_,h=>nomatch h
 | _ :: _,[],_,h,_,_=>nomatch h
 | n :: ns,x :: xs,_,h,.cons (b:=d') (l₂:=dt) k t,q=>by
  change (match f == n with | true=>some d' | false=>(ns.zip dt).lookup f)=some d at q
  show ∃ v,(match f == n with | true=>some x | false=>(ns.zip xs).lookup f)=some v/\_
  cases e:f == n with
  | true=>rw [e] at q; cases q; exact ⟨x,rfl,k⟩
  | false=>rw [e] at q; exact Kt (Nat.succ.inj h) t q
theorem zp (K:PySem.W.Frag) {f:Str} (ha:PE X e (tP pa)) (hb:attributeBase e f X.env (eval e X.env)=eval e X.env) (hK:X.K=K:=by rfl):PE X (.Attribute e f pos) (tP (gq (kY K f) pa)):=yG (zPm ha hb) λσ H Q ⟨Z,Γ,R,E,h,q⟩=>
 ⟨Z,Γ,_,E,h,λd v H1 hd s1 hv=>by
  unfold kY at hd
  split at hd
  ·obtain ⟨hk,d',hl,hR⟩:=hd
   cases hv with
   | obj e1 l1 h1=>
    obtain ⟨v,e2,dv⟩:=Kt l1 h1 hl
    exact ⟨_,_,_,_,v,rfl,zu _ _ e1,by rw [hK]; exact hk.1,by rw [hK]; exact hk.2,e2,q _ _ H1 hR s1 dv⟩
  ·exact hd.elim⟩
def Ku (C:Addr) (m:Str) (F:FL):D->(D->Prop)->Prop
 | .obj c ns ds,R=>c=C/\m∉ns/\F [.obj c ns ds] R
 | _,_=>False
theorem YD {f:Str}:∀ {ns:List Str} {xs:List V},f∉ns->(ns.zip xs).lookup f=none
 | [],_,_=>rfl
 | _ :: _,[],_=>rfl
 | n :: ns,x :: xs,h=>by
  show (match f == n with | true=>some x | false=>(ns.zip xs).lookup f)=none
  have e:(f == n)=false:=beq_eq_false_iff_ne.mpr λz=>h (by rw [z]; exact List.mem_cons_self)
  rw [e]
  exact YD λz=>h (List.mem_cons_of_mem _ z)
theorem kZ {x m:Str} {ps:List Str} {k:Nat} {F:FL} {apos:Pos} {pl:Sem Bool} (c:v4 X.prog X.w X.K X.mg X.base C m ps k (zI F)) (T:zE X.K X.mg x C) (hr:zh k X.A) (ha:PE X e (tP pa))
  (ht:eval (.Call (.Attribute e m apos) [] [] pos) X.env=(do
   let ov <- eval e X.env
   standAt apos.atName
   let (f,first) <- holding [ov] (getMethod ov m pl)
   callWith pos f first (backTo pos (starEach [] X.env)) (backToKw pos (keywordEach [] X.env))):=by rfl) :
  PE X (.Call (.Attribute e m apos) [] [] pos) (tP (gq (Ku C m F) pa)):=yG (zKh c T hr ha ht) λσ H Q ⟨Z,Γ,R,E,h,q⟩=>
 ⟨Z,Γ,_,E,h,λd v H1 hd s1 hv=>by
  unfold Ku at hd
  split at hd
  ·obtain ⟨rfl,hm,hR⟩:=hd
   have hv0:=hv
   cases hv with
   | obj e1 l1 h1=>exact ⟨_,_,_,rfl,zu _ _ e1,YD hm,Z,_,R,(E.same s1).zd,.cons hv0 .nil,hR,λd v H2 h2 s2 hv2=>q d v H2 h2 (s1.trans s2) hv2⟩
  ·exact hd.elim⟩
def Kv (K:PySem.W.Frag) (C:Addr):D->(D->Prop)->Prop
 | .obj c _ _,R=>(∃ mg x,zE K mg x c)/\∃ b,PySem.W.kitOne K (.ref c) (.ref C)=some b/\R (.bool b)
 | _,_=>False
theorem ka {K:PySem.W.Frag} (σ:St) (H:Hp) (Q:VK):tP (gq (Kv K C) pa) σ H Q->gI (Q5 K) (qB (tP pa) (qB (tC (.ref C)) vS)) σ H Q:=λ⟨Z,Γ,R,E,h,q⟩=>
 ⟨Z,Γ,_,E,h,λd v H1 hd s1 hv=>by
  unfold Kv at hd
  split at hd
  ·obtain ⟨⟨mg,x,T⟩,b,hk,hR⟩:=hd
   cases hv with
   | obj e1 l1 h1=>exact ⟨_,_,_,b,rfl,T.ty (zu _ _ e1),hk,q _ _ H1 hR s1 (.bool _)⟩
  ·exact hd.elim⟩
def kb (pa:zy):xE:=λT Γ=>pa Γ λ_=>T.nx Γ
theorem zMZ (he:PE X e (tP pa)) (hs:swapsWith e none pos.line X.env=pure false:=by rfl):PS X (.Expr e pos) (ym (kb pa)):=zv (xX he hs) λD σ H ⟨Z0,H0,Z,Γ,Dp,E,h,nx,rt,bk,ct⟩=>
 ⟨Z,Γ,_,E.e,h,λd v H1 hd s1 hv=>nx Z Γ σ H1 (E.mv s1) (ye s1) hd⟩
end
end Pu
namespace Pu
open PySem L2 Sh
def jD (k:Nat):List D->List D
 | []=>[]
 | d :: t=>xJ (.int (k:Int)) d :: jD (k + 1) t
theorem UL:∀ (k:Nat) (ds:List D),(jD k ds).length=ds.length
 | _,[]=>rfl
 | k,_ :: t=>congrArg (· + 1) (UL (k + 1) t)
theorem UM:∀ {k:Nat} {ds:List D} {i:Nat} {e:D},(jD k ds)[i]? = some e->∃ d,ds[i]? = some d/\e=xJ (.int ((k + i:Nat):Int)) d
 | _,[],_,_,h=>by simp [jD] at h
 | k,d :: t,0,e,h=>⟨d,rfl,by simp [jD] at h; exact h.symm⟩
 | k,d :: t,i + 1,e,h=>by
  obtain ⟨d',h1,h2⟩:=UM (k:=k + 1) (ds:=t) (i:=i) (e:=e) (by simpa [jD] using h)
  exact ⟨d',by simpa using h1,by rw [h2,show k + 1 + i=k + (i + 1) by omega]⟩
theorem zMH {K:PySem.W.Frag} {Z:Addr->Prop} {H:Hp} {p:Addr} {k:Nat} {xs:List V} {ds:List D} (e:zQ Z H p=some (.lst xs)) (h:yN (zQ Z H) xs ds):Wk Z (jY K p k) H (jD k ds):=λi Z' H' s zd=>by
 have e1:=zu _ _ (s _ _ e)
 refine ⟨λd hd=>?_,λhi=>⟨xs,zb.of e1,by rw [UL] at hi; rw [xl h]; omega⟩⟩
 obtain ⟨d',hd',rfl⟩:=UM hd
 obtain ⟨x,hx,hh⟩:=kI h hd'
 refine ⟨⟨xs,x,zb.of e1,hx⟩,λy H'' ⟨T,x',ev,hT,eH,q⟩=>?_⟩
 have:=q xs (zb.of e1)
 rw [hx] at this
 cases this
 subst ev
 subst eH
 exact ⟨xV hT _,Yc zd hT (.cons (.int _) (.cons (hh.same s) .nil))⟩
def kd:List D->(List D->Prop)->Prop
 | [.lst ds],R=>R ds
 | _,_=>False
def Kw (ds:List D):D->(List D->Prop)->Prop
 | .int i,R=>0<=i/\i<=1000/\R (jD i.toNat ds)
 | _,_=>False
def UN (pl:yx) (pb:zy):yx:=λΓ R=>pl Γ λds=>kd ds λes=>pb Γ λd=>Kw es d R
section
variable {X:Cx} {e1 e2:Expr} {pos:Pos} {pb:zy} {pl:yx}
theorem zKX {ts:List Expr} {kk:Nat} {tp p kp:Pos} (hg:Gl X "enumerate") (hm:X.mg "enumerate" = none) (ha:PA X [e1] (wL pl)) (he:PE X e2 (tP pb)) (hs:starEach [e1] X.env=[(false,eval e1 X.env)]:=by rfl) (hs2:starEach [] X.env=[]:=by rfl) :
  PI X (.Tuple ts kk tp) (.Call (.Name "enumerate" p) [e1] [⟨some "start",e2,kp⟩] pos) (ua (UN pl pb)):=Yk (zMi hg hm ha he hs hs2) λσ H Q ⟨Z,Γ,R,E,h,q⟩=>
 ⟨Z,Γ,_,E,h,λds vs H1 hd s1 hv=>by
  unfold kd at hd
  split at hd
  ·obtain ⟨v,rfl,hw⟩:=yz hv
   obtain ⟨a,xs,rfl,ea,hx⟩:=hw.lst_inv
   refine ⟨a,rfl,Z,Γ,_,E.same s1,hd,λd u H2 hd2 s2 hu=>?_⟩
   unfold Kw at hd2
   split at hd2
   ·rename_i i
    obtain ⟨h0,h1,hR⟩:=hd2
    cases hu
    have e2:=ye (Z:=Z) s2 _ _ ea
    refine ⟨i.toNat,by rw [show ((i.toNat:Nat):Int)=i by omega],?_,⟨xs,zb.of (zu _ _ e2)⟩,q _ _ H2 hR (s1.trans s2) (zMH e2 (yr (ye s2) hx))⟩
    unfold Builtin.SmallTypes.fitsIndex
    rw [decide_eq_true (by omega),decide_eq_true (by omega)]
    rfl
   ·exact hd2.elim
  ·exact hd.elim⟩
end
end Pu
namespace L2
open PySem PySem.Spec PyProof.Rows
theorem zLt:bootBuiltins "any" = some (.builtin "any"):=by decide +kernel
section
variable {X:Cx}
theorem zNI (hc:X.calm=true):wz X (.builtin "any") (λxs H Q=>∃ (p:Addr) (bs:List Bool),xs=[.ref p]/\zb X.K H p (bs.map V.bl)/\Q (.bl (bs.any id)) H):=by
 intro pins s σ H xs us Q I r h
 obtain ⟨p,bs,rfl,hq,q⟩:=h
 obtain ⟨u,rfl,ru⟩:=uK r
 cases ru
 obtain ⟨its,rv,pl,hz⟩:=I.list hq
 have hh:X.A.in1.handled=none:=I.ok.hd hc
 have hlt:p < s.heap.objs.size:=by obtain ⟨o,n,e,_⟩:=pl; exact Heap.lt_size e
 refine call_any_walk (wpAny_pyIter_list pl.isList ?_)
 have hlen:its.length=bs.length:=by rw [<- rv.length,List.length_map]
 refine ⟨s.heap.objs.size,_,_,_,_,_,λi=>bs.getD i false,rfl,Walks.list hh s.heap.objs.size p (Nat.ne_of_lt hlt) its.toArray,⟨⟨_,Heap.get?_push_size _ rfl,rfl,rfl⟩,pl.isList.push _⟩,?_,λh' tk kk=>?_⟩
 ·intro i v s' Q' E' hP hQ'
  have e1:its[i]? = some v:=by simpa using hP
  have hi:i < its.length:=(List.getElem?_eq_some_iff.mp e1).1
  have hb:(bs.map V.bl)[i]? = some (.bl (bs.getD i false)):=by
   rw [List.getElem?_map,List.getElem?_eq_getElem (by omega),List.getD_eq_getElem?_getD,List.getElem?_eq_getElem (by omega)]
   rfl
  obtain ⟨u',e2,r2⟩:=rv.get hb
  rw [e1] at e2
  cases e2
  cases r2
  exact wpAny_truthy_bool hQ'
 ·have e:(List.range its.toArray.size).any (λi=>bs.getD i false)=bs.any id:=by
   rw [List.size_toArray,hlen]
   rw [Bool.eq_iff_iff,List.any_eq_true,List.any_eq_true]
   constructor
   ·rintro ⟨i,hi,e⟩
    have hi':=List.mem_range.mp hi
    rw [List.getD_eq_getElem?_getD,List.getElem?_eq_getElem hi'] at e
    exact ⟨_,List.getElem_mem hi',e⟩
   ·rintro ⟨b,hb,e⟩
    obtain ⟨i,hi,rfl⟩:=List.mem_iff_getElem.mp hb
    refine ⟨i,List.mem_range.mpr hi,?_⟩
    rw [List.getD_eq_getElem?_getD,List.getElem?_eq_getElem hi]
    exact e
  refine ⟨.bl (bs.any id),H,I.kept (h':=h') (t':=tk) λb o eb=>kk b o ?_ (Heap.get?_push_of_some _ eb),?_,q⟩
  ·intro hb
   have:b=s.heap.objs.size:=by simpa using hb
   rw [this] at eb
   exact absurd (Heap.lt_size eb) (Nat.lt_irrefl _)
  ·rw [e]
   rfl
end
end L2
namespace Pu
open PySem L2 Sh
open PyProof.Rows (envOfC)
def less (l:Addr) (H:Hp):Hp:=λb=>if b=l then none else H b
section
variable {X:Cx} {e a b:Expr} {es:List Expr} {st:Stmt} {sts:List Stmt} {pos:Pos} {pa pb:zy} {pl:yx} {p q:xE}
end
variable {P:Program} {w:World} {K:PySem.W.Frag} {mg:Str->Option Value} {base:Heap}
section
variable {X:Cx} {a b:Expr} {pos:Pos} {pa pb:zy}
end
end Pu
namespace Pu
open PySem L2 Sh
section
variable {X:Cx} {a:Expr} {pos:Pos} {pa:zy}
def Kx:D->Option Int->Option Int->(D->Prop)->Prop
 | .scr ns,lo,hi,R=>R (.lst (zV (ns.map D.int) lo hi))
 | _,_,_,_=>False
def UO (pa:zy) (po qo:jb):zy:=λΓ R=>pa Γ λd=>po Γ λl=>qo Γ λu=>Kx d l u R
theorem zKZ {lo hi:Option Expr} {po qo:jb} {p2:Pos} (ha:PE X a (tP pa)) (hl:PO X lo (jc po)) (hu:PO X hi (jc qo)):PE X (.Subscript a (.Slice lo hi none p2) pos) (tP (UO pa po qo)):=yG (QS QZ ha hl hu) λσ H Q ⟨Z,Γ,R,E,h,q⟩=>
 ⟨Z,Γ,_,E,h,λd v H1 hd s1 hv=>⟨Z,Γ,_,E.same s1,hd,λl H2 hl s2=>⟨Z,Γ,_,E.same (s1.trans s2),hl,λu H3 hu s3=>by
  have s:=s1.trans (s2.trans s3)
  have hv:=hv.same (ye (s2.trans s3))
  have zd:=(E.same s).zd
  unfold Kx at hu
  split at hu
  ·cases hv with
   | scr e=>exact ⟨_,_,rfl,.inl (gk zu e),λn hn=>q _ _ _ hu (s.trans (xV hn _)) (uM zd hn (Wz KF _ _))⟩
  ·exact hu.elim⟩⟩⟩
end
inductive kf (ds:List D) (T:D->(Bool->Prop)->Prop) (G:D->(D->Prop)->Prop) (R:D->Prop):Prop
 | mk (few:ds.length<=1000) (f:D->Bool) (F:D->D->Prop) (t:∀ d,d∈ds->T d λb=>b=f d) (h:∀ d,d∈ds->f d=true->G d (F d)) (q:∀ es,Paired F (ds.filter f) es->R (.lst es)):kf ds T G R
theorem zNH {Z:Addr->Prop} {Γ:List Sl} {σ:St} {H:Hp} {own:List Str} {caps:List (Nat × Str)} {J:It} {ds:List D} {js:List Nat} {po:D->Option (List D)} {pt:wB} {pe:zy} {Q:VK} {f:D->Bool} {F:D->D->Prop} {Zt:Addr->Prop} {Γt:List Sl} (E:yD Z Γ σ H) (Et:yD Zt Γt σ H) (sub:∀ b,Zt b->Z b) (wk:Wk Z J H ds) (hj:js=List.range' 0 own.length) (hk:∀ d os,po d=some os->os.length=js.length) (few:ds.length<=1000)
  (hT:∀ d,d∈ds->uO (po d) λos=>pt (os.map Sl.sh++(caps.map (·.1)).map λj=>un (slot Γt j)) λb=>b=f d)
  (hF:∀ d,d∈ds->f d=true->uO (po d) λos=>pe (os.map Sl.sh++(caps.map (·.1)).map λj=>un (slot Γ j)) (F d))
  (q:∀ es ys H' p,Paired F (ds.filter f) es->zF H H'->yN (zQ Z H') ys es->H' p=none->Q (.ref p) (zZ H' p (.lst ys))):Qs J (tG js po) (xD pt) (tP pe) Q (wH own caps σ) H:=by
 have hc:wH own caps σ=own.map (λ_=>none)++(caps.map (·.1)).map λj=>(σ[j]?).getD none:=by
  unfold wH
  rw [List.map_map]
  rfl
 refine ⟨λi m ys σ1 H1=>m + i=ds.length/\zF H H1/\(∃ es,Paired F ((ds.take i).filter f) es/\yN (zQ Z H1) ys es)/\∃ o:St,o.length=own.length/\σ1=o++(caps.map (·.1)).map λj=>(σ[j]?).getD none,⟨ds.length,rfl,zF.refl _,⟨[],.nil,.nil⟩,_,List.length_map ..,hc⟩,?_⟩
 rintro i m ys σ1 H1 ⟨hm,s1,⟨es,he,hy⟩,o,lo,rfl⟩
 obtain ⟨w1,w2⟩:=wk i Z H1 (ye s1) (E.zd.same s1)
 have le:es.length<=i:=by
  have h1:=Paired.length he
  have h2:=List.length_filter_le f (ds.take i)
  rw [List.length_take] at h2
  omega
 by_cases hi:i < ds.length
 ·have tk:(ds.take (i + 1)).filter f=(ds.take i).filter f++(if f ds[i]=true then [ds[i]] else []):=by
   rw [List.take_succ_eq_append_getElem hi,List.filter_append,List.filter_cons,List.filter_nil]
  refine .inr ⟨(w1 _ (List.getElem?_eq_getElem hi)).1,by rw [xl hy]; exact YC (by omega),λy σ' H'=>m - 1 + (i + 1)=ds.length/\zF H H'/\(∃ es,Paired F ((ds.take (i + 1)).filter f) es/\yN (zQ Z H') (ys++[y]) es)/\∃ o:St,o.length=own.length/\σ'=o++(caps.map (·.1)).map λj=>(σ[j]?).getD none,λσ' H'=>m - 1 + (i + 1)=ds.length/\zF H H'/\(∃ es,Paired F ((ds.take (i + 1)).filter f) es/\yN (zQ Z H') ys es)/\∃ o:St,o.length=own.length/\σ'=o++(caps.map (·.1)).map λj=>(σ[j]?).getD none,λy σ' H' k=>⟨m - 1,by omega,k⟩,λσ' H' k=>⟨m - 1,by omega,k⟩,λx H' yl=>?_⟩
  obtain ⟨s2,dv⟩:=(w1 _ (List.getElem?_eq_getElem hi)).2 x H' yl
  obtain ⟨os,ho,ht⟩:=kH (hT _ (List.getElem_mem hi))
  have lo2:=hk _ _ ho
  refine ⟨Z,_,os,dv,ho,λvs hvs=>?_⟩
  have lv:=xl hvs
  have e1:setN (o++(caps.map (·.1)).map λj=>(σ[j]?).getD none) js vs=vs.map some++(caps.map (·.1)).map λj=>(σ[j]?).getD none:=by
   rw [hj,<- lo]
   exact W4 _ [] o vs (by rw [lv,lo2,hj,List.length_range']; exact lo)
  rw [e1]
  have lw:(vs.map some).length=own.length:=by rw [List.length_map,lv,lo2,hj,List.length_range']
  refine ⟨Zt,_,_,W3 (Et.same (s1.trans s2)) (yr (qP sub) hvs),ht,λb H3 hb s3=>?_⟩
  subst hb
  by_cases c:f ds[i]=true
  ·rw [if_pos c]
   obtain ⟨os',ho',hp⟩:=kH (hF _ (List.getElem_mem hi) c)
   cases ho.symm.trans ho'
   refine ⟨Z,_,_,W3 (E.same (s1.trans (s2.trans s3))) (yr (ye s3) hvs),hp,λd v H4 hd s4 hv=>⟨by omega,s1.trans (s2.trans (s3.trans s4)),⟨es++[d],?_,jX hv (yr (ye (s2.trans (s3.trans s4))) hy)⟩,_,lw,rfl⟩⟩
   rw [tk,if_pos c]
   exact jX hd he
  ·rw [if_neg c]
   refine ⟨by omega,s1.trans (s2.trans s3),⟨es,?_,yr (ye (s2.trans s3)) hy⟩,_,lw,rfl⟩
   rw [tk,if_neg c,List.append_nil]
   exact he
 ·have ei:i=ds.length:=by omega
  refine .inl ⟨w2 ei,λp hp=>q es ys H1 p ?_ s1 hy hp⟩
  rw [List.take_of_length_le (by omega)] at he
  exact he
section
variable {X:Cx} {scope:Scope} {own:List Str} {caps:List (Nat × Str)} {tg iter elt cond:Expr} {pos:Pos} {pi:yx} {po:D->Option (List D)} {pt:wB} {pe:zy} {js:List Nat}
end
theorem yD.frz2 {Z:Addr->Prop} {Γ:List Sl} {σ:St} {H:Hp} (E:yD Z Γ σ H) (i:Nat):∃ Z',(∀ b,Z' b->Z b)/\yD Z' (Pu.frz Γ i) σ H:=by
 unfold Pu.frz
 cases hs:slot Γ i with
 | no=>exact ⟨Z,λ_ z=>z,E⟩
 | sh _=>exact ⟨Z,λ_ z=>z,E⟩
 | ob _ _ _ _=>exact ⟨Z,λ_ z=>z,E⟩
 | ow ds=>
  obtain ⟨l,xs,hl,hz,el,hx⟩:=E.ow i ds hs
  have s:zF (zQ Z H) (zQ (λb=>Z b/\b≠l) H):=qP λb h=>h.1
  have key:∀ j d,slot (zq Γ i (.sh (.lst ds))) j=.ow d->slot Γ j=.ow d/\j≠i:=λj d q=>by
   rw [y9] at q
   by_cases c:j=i/\i < Γ.length
   ·rw [if_pos c] at q; cases q
   ·rw [if_neg c] at q
    have hj:=vY (Γ:=Γ) (i:=j) (by rw [q]; exact λz=>nomatch z)
    exact ⟨q,λz=>c ⟨z,by omega⟩⟩
  have keyb:∀ j o c ns d,slot (zq Γ i (.sh (.lst ds))) j=.ob o c ns d->slot Γ j=.ob o c ns d:=λj o0 c0 ns d q=>by
   rw [y9] at q
   by_cases c:j=i/\i < Γ.length
   ·rw [if_pos c] at q; cases q
   ·rw [if_neg c] at q; exact q
  refine ⟨λb=>Z b/\b≠l,λ_ z=>z.1,⟨λj d q=>?_,λj d q=>?_,λj o c ns d q=>?_,λj k as bs m q r=>?_,λb hb=>E.zd b hb.1,by rw [u8]; exact E.len⟩⟩
  ·rw [y9] at q
   by_cases c:j=i/\i < Γ.length
   ·rw [if_pos c] at q
    cases q
    rw [c.1]
    exact ⟨.ref l,hl,.lst ((vD λz=>z.2 rfl).trans el) (yr s hx)⟩
   ·rw [if_neg c] at q
    obtain ⟨v,h1,h2⟩:=E.sh j d q
    exact ⟨v,h1,h2.same s⟩
  ·obtain ⟨q1,q2⟩:=key j d q
   obtain ⟨m,ys,h1,h2,h3,h4⟩:=E.ow j d q1
   exact ⟨m,ys,h1,⟨h2,λz=>q2 (E.ne j i d ds l q1 hs (by rw [h1,z]) hl)⟩,h3,yr s h4⟩
  ·obtain ⟨dx,ys,h1,h2,h3,h5,h4⟩:=E.ob j o c ns d (keyb j o c ns d q)
   exact ⟨dx,ys,h1,⟨h2,λz=>by rw [z,el] at h3; cases h3⟩,h3,h5,yr s h4⟩
  ·exact E.ne j k as bs m (key j as q).1 (key k bs r).1
def zOK (b i:Nat) (caps:List Nat) (pi:yx) (po:D->Option (List D)) (pt:wB) (pe:zy):xE:=λT Γ=>pi Γ λds=>kf ds (λd S=>uO (po d) λos=>pt (os.map Sl.sh++caps.map λj=>un (slot (Pu.frz Γ b) j)) S) (λd S=>uO (po d) λos=>pe (os.map Sl.sh++caps.map λj=>un (slot Γ j)) S) λd=>kT d λes=>T.nx (zq Γ i (.sh (.lst es)))
theorem zKV {X:Cx} {pos:Pos} (b i:Nat) {scope:Scope} {own:List Str} {caps:List (Nat × Str)} {tg iter elt cond:Expr} {pi:yx} {po:D->Option (List D)} {pt:wB} {pe:zy} {js:List Nat} {y:Str} {py spos:Pos} (hN:X.N.Nodup) (hy:X.N[i]? = some y) (hl:X.env.scope.names.lookup y=some .local) (B:vW X scope own caps) (hc:X.calm=true) (hj:js=List.range' 0 own.length) (hk:∀ d os,po d=some os->os.length=js.length)
  (hi:PI X tg iter (ua pi)) (hg:∀ C s₀ H₀ ex,PG (yV X scope (zX own caps) C s₀ H₀ ex) tg (tG js po)) (ht:∀ C s₀ H₀ ex,PT (yV X scope (zX own caps) C s₀ H₀ ex) cond (xD pt)) (he:∀ C s₀ H₀ ex,PE (yV X scope (zX own caps) C s₀ H₀ ex) elt (tP pe)) (hsw:swapsWith (.ListComp elt [⟨tg,iter,[cond],0⟩] scope pos) (some (.Name y py)) spos.line X.env=pure true) (hs:∀ x,foldedSetIterable iter X.env x=pure x:=by intro _; rfl) :
  PS X (.Assign [.Name y py] (.ListComp elt [⟨tg,iter,[cond],0⟩] scope pos) spos) (ym (zOK b i (caps.map (·.1)) pi po pt pe)):=zv (zKc hN hy hl B hc hi hg ht he hsw hs) λD σ H ⟨Z0,H0,Z,Γ,Dp,E,h,nx,rt,bk,ct⟩=>
 let ⟨Zt,sub,Et⟩:=E.e.frz2 b
 ⟨Z,Γ,_,E.e,h,λds J H1 ⟨fw,f,F,hT,hF,hR⟩ s1 wk=>zNH (E.e.same s1) (Et.same s1) sub wk hj hk fw hT hF λes ys H' l h1 s2 h2 hp=>by
  have E1:=(E.mv s1).mv s2
  exact nx Z _ _ _ ((E1.mv (xV hp _)).set (uM E1.e.zd hp h2) i) (ye (s1.trans (s2.trans (xV hp _)))) (hR es h1)⟩
theorem zKo {α:Type} {ds es:List α} (p:Paired (λd e=>e=d) ds es):es=ds:=by
 induction p with
 | nil=>rfl
 | cons h _ ih=>rw [h,ih]
theorem kf.keep {ds:List D} {T:D->(Bool->Prop)->Prop} {G:D->(D->Prop)->Prop} {R:D->Prop} (f:D->Bool) (few:ds.length<=1000) (t:∀ d,d∈ds->T d λb=>b=f d) (h:∀ d,d∈ds->G d λe=>e=d) (q:R (.lst (ds.filter f))):kf ds T G R:=⟨few,f,λd e=>e=d,t,λd m _=>h d m,λes p=>by rw [zKo p]; exact q⟩
def kg:FL
 | [.lst ds],R=>∃ bs:List Bool,ds=bs.map D.bool/\R (.bool (bs.any id))
 | _,_=>False
theorem zOr {K:PySem.W.Frag}:v6 (λxs H Q=>∃ (p:Addr) (bs:List Bool),xs=[V.ref p]/\zb K H p (bs.map V.bl)/\Q (V.bl (bs.any id)) H) kg:=λZ H vs ds R Q zd hv h q=>by
 unfold kg at h
 split at h
 ·obtain ⟨v,rfl,hw⟩:=yz hv
  obtain ⟨p,xs,rfl,e1,h1⟩:=hw.lst_inv
  obtain ⟨ns,rfl,h⟩:=h
  cases Wf h1
  exact ⟨p,ns,rfl,zb.of (zu _ _ e1),q _ _ H h (zF.refl _) (.bool _)⟩
 ·exact h.elim
end Pu
namespace K54
open PySem L2 Sh Pu
def zi (i:Nat):Stmt:=PySem.Challenge.pw_steadyhand_k54_whole_papers_of_falls_hol.main.body.getD i (.Pass ⟨0,0,0,0⟩)
structure Bl (mg:Str->Option Value):Prop where
 isinstance_:mg "isinstance" = none
 int_:mg "int" = none
 bool_:mg "bool" = none
 tuple_:mg "tuple" = none
 len_:mg "len" = none
 all_:mg "all" = none
 list_:mg "list" = none
 range_:mg "range" = none
 zip_:mg "zip" = none
 sum_:mg "sum" = none
 max_:mg "max" = none
 enumerate_:mg "enumerate" = none
 abs_:mg "abs" = none
 any_:mg "any" = none
 MOST_NUMBERS_:∃ t,mg "MOST_NUMBERS" = some (.int 3 t)
 MOST_PUSHES_:∃ t,mg "MOST_PUSHES" = some (.int 6 t)
 MOST_MODES_:∃ t,mg "MOST_MODES" = some (.int 40 t)
structure wY (K:PySem.W.Frag) (C:Addr):Prop where
 no:True
structure wZ (K:PySem.W.Frag) (C:Addr):Prop where
 n_start:yh K C "start"
 n_rows:yh K C "rows"
 n_turn:yh K C "turn"
structure wa (K:PySem.W.Frag) (C:Addr):Prop where
 n_start:yh K C "start"
 n_goal:yh K C "goal"
 n_turns:yh K C "turns"
structure wb (K:PySem.W.Frag) (C:Addr):Prop where
 n_rows:yh K C "rows"
 n_nexts:yh K C "nexts"
 n_steer:yh K C "steer"
 n_push:yh K C "push"
 n_add:yh K C "add"
 n_divisor:yh K C "divisor"
structure wc (K:PySem.W.Frag) (C:Addr):Prop where
 n_many:yh K C "many"
 n_kept_pushes:yh K C "kept_pushes"
 n_kept_modes:yh K C "kept_modes"
structure wd (K:PySem.W.Frag) (C:Addr):Prop where
 no:True
structure we (K:PySem.W.Frag) (C:Addr):Prop where
 n_rooms:yh K C "rooms"
 n_back:yh K C "back"
 n_starts:yh K C "starts"
 n_steps:yh K C "steps"
 n_stays:yh K C "stays"
structure wf (K:PySem.W.Frag) (C:Addr):Prop where
 n_room:yh K C "room"
 n_starts:yh K C "starts"
 n_steps:yh K C "steps"
 n_measure:yh K C "measure"
 n_step:yh K C "step"
 n_top:yh K C "top"
 n_falls:yh K C "falls"
 n_floors:yh K C "floors"
 n_tops:yh K C "tops"
structure yd (K:PySem.W.Frag) (aComes aSettles:Addr):Prop where
 k_Comes_Settles:PySem.W.kitOne K (.ref aComes) (.ref aSettles)=some false
inductive Fw:Nat->D->Prop
 | int {k:Nat} (i:Int):Fw (k + 1) (.int i)
 | bool {k:Nat} (b:Bool):Fw (k + 1) (.bool b)
 | non {k:Nat}:Fw (k + 1) .non
 | str {k:Nat} (x:Str):Fw (k + 1) (.str x)
 | lst {k:Nat} {ds:List D} (l:ds.length<=900) (h:∀ d∈ds,Fw k d):Fw (k + 1) (.lst ds)
 | tup {k:Nat} {ds:List D} (l:ds.length<=900) (h:∀ d∈ds,Fw k d):Fw (k + 1) (.tup ds)
theorem Fw.no {k:Nat} {d:D} (h:Fw k d):d.isObj=false:=by cases h <;> rfl
theorem Fw.lst_inv {k:Nat} {d:D} (h:Fw k d) (e:d.isLst=true):∃ ds,d=.lst ds/\ds.length<=900/\∃ j,k=j + 1/\∀ d∈ds,Fw j d:=by
 cases h with
 | lst l h=>exact ⟨_,rfl,l,_,rfl,h⟩
 | _=>cases e
theorem Fw.tup_inv {k:Nat} {d:D} (h:Fw k d) (e:d.isTup=true):∃ ds,d=.tup ds/\ds.length<=900/\∃ j,k=j + 1/\∀ d∈ds,Fw j d:=by
 cases h with
 | tup l h=>exact ⟨_,rfl,l,_,rfl,h⟩
 | _=>cases e
theorem Ky {k:Nat} {ns:List Int}:∀ d∈ns.map D.int,Fw (k + 1) d:=λd m=>by
 obtain ⟨i,_,rfl⟩:=List.mem_map.mp m
 exact .int i
theorem k0 {n:Nat} (h:n.ble 1000=true:=by rfl):n<=1000:=Nat.le_of_ble_eq_true h
theorem bR {R:D->Prop} {a b:Bool} (q:R (.bool a)) (e:a=b):R (.bool b):=e ▸ q
def ud (d:D):Bool:=d.isInt && !d.isBool
def Yv (n:Int):D->Bool
 | .lst ds=>decide ((ds.length:Int)=n) && ds.all ud
 | _=>false
def kh (h w:Int):D->Bool
 | .lst ds=>decide ((ds.length:Int)=h) && ds.all (Yv w)
 | _=>false
def ue (n:Int):D->Bool
 | .tup ds=>decide ((ds.length:Int)=n + 1) && ds.all ud
 | _=>false
def Kz (n:Int):D->Bool
 | .lst ds=>ds.all (ue n)
 | _=>false
theorem vN {α:Type} (f:α->Bool) (xs:List α):(xs.map f).all id=xs.all f:=by rw [List.all_map]; rfl
def jE:FL:=λds R=>∃ d,ds=[d]/\d.isObj=false/\R (.bool (ud d))
def UP:FL:=λds R=>∃ d n k,ds=[d,.int n]/\Fw k d/\R (.bool (Yv n d))
def ki:FL:=λds R=>∃ d h w k,ds=[d,.int h,.int w]/\Fw k d/\R (.bool (kh h w d))
def jp:FL:=λds R=>∃ d n k,ds=[d,.int n]/\Fw k d/\R (.bool (ue n d))
def Yx:FL:=λds R=>∃ d n k,ds=[d,.int n]/\Fw k d/\R (.bool (Kz n d))
def jq (j:Nat):FL:=λds R=>∃ d n,ds=[d,.int n]/\Fw j d/\R d
def K0:FL:=λds R=>∃ p w n:Int,ds=[.int p,.int w,.int n]/\0<=w/\w<=900/\R (L (xO p w.toNat n))
def IS (d:D) (ns:List Int):Prop:=d=L ns\/d=U ns
theorem IS.seq {d:D} {ns:List Int} (h:IS d ns) {R:List D->Prop} (q:R (ns.map D.int)):jk d R:=by
 rcases h with rfl | rfl
 ·exact q
 ·exact q
def K1:FL:=λds R=>∃ (f:Int) (d:D) (ns:List Int),ds=[.int f,d]/\IS d ns/\ns.length<=900/\Bd 9000 f/\(∀ x∈ns,Bd 9000 x)/\R (L (ns.map (f * ·)))
def xK (f g:Int) (ns os:List Int):List Int:=(ns.zip os).map λq=>f * q.1 + g * q.2
def K2:FL:=λds R=>∃ (f g:Int) (d e:D) (ns os:List Int),ds=[.int f,d,.int g,e]/\IS d ns/\IS e os/\ns.length<=900/\Bd 9000 f/\Bd 9000 g/\(∀ x∈ns,Bd 9000 x)/\(∀ x∈os,Bd 9000 x)/\R (L (xK f g ns os))
def K3:FL:=λds R=>∃ (d e:D) (ns os:List Int),ds=[d,e]/\IS d ns/\IS e os/\ns.length<=900/\(∀ x∈ns,Bd 9000 x)/\(∀ x∈os,Bd 9000 x)/\R (.int (yq ns os))
theorem K4:∀ ns os:List Int,List.zipWith xJ (ns.map D.int) (os.map D.int)=(ns.zip os).map λq=>xJ (.int q.1) (.int q.2)
 | [],_=>rfl
 | _ :: _,[]=>rfl
 | _ :: ns,_ :: os=>by rw [List.map_cons,List.map_cons,List.zipWith_cons_cons,K4 ns os]; rfl
theorem IS.zip {d e:D} {ns os:List Int} (h:IS d ns) (k:IS e os) {R:List D->Prop} (q:R ((ns.zip os).map λq=>xJ (.int q.1) (.int q.2))):v8 [d,e] R:=by
 rw [<- K4] at q
 rcases h with rfl | rfl <;> rcases k with rfl | rfl <;> exact q
theorem K5 {qs:List (Int × Int)} {G:D->(D->Prop)->Prop} {R:D->Prop} (g:Int × Int->Int) (few:qs.length<=1000) (h:∀ q,q∈qs->G (xJ (.int q.1) (.int q.2)) λe=>e=.int (g q)) (k:R (.lst ((qs.map g).map D.int))):zk (qs.map λq=>xJ (.int q.1) (.int q.2)) G R:=
 zk.map (λd=>match d with | .tup [x,y]=>.int (g (yZ x,yZ y)) | _=>.non) (by rw [List.length_map]; exact few) (λd m=>by
  obtain ⟨q,hq,rfl⟩:=List.mem_map.mp m
  exact h q hq) (by rw [List.map_map] at k |-; exact k)
theorem K6:∀ ns os:List Int,((ns.zip os).map λq=>q.1 * q.2).sum=yq ns os
 | [],_=>rfl
 | _ :: _,[]=>rfl
 | n :: ns,o :: os=>by rw [List.zip_cons_cons,List.map_cons,List.sum_cons,K6 ns os]; rfl
abbrev Tb (t:List (List Int)):D:=.lst (t.map L)
abbrev Rm (t:List (List Int)):D:=.lst (t.map U)
def zr:D->List Int
 | .lst ds=>ds.map yZ
 | .tup ds=>ds.map yZ
 | _=>[]
theorem K7 (ns:List Int):(ns.map D.int).map yZ=ns:=by rw [List.map_map]; exact List.map_id _
theorem qX (ns:List Int):zr (L ns)=ns:=K7 ns
theorem uf (ns:List Int):zr (U ns)=ns:=K7 ns
theorem vd {α:Type} {xs:List α} {G:D->(D->Prop)->Prop} {R:D->Prop} (u:α->D) (v:D->α) (hv:∀ x,v (u x)=x) (g:α->D) (few:xs.length<=1000) (h:∀ x,x∈xs->G (u x) λe=>e=g x) (q:R (.lst (xs.map g))):zk (xs.map u) G R:=
 zk.map (λd=>g (v d)) (by rw [List.length_map]; exact few) (λd m=>by
  obtain ⟨x,hx,rfl⟩:=List.mem_map.mp m
  rw [hv]
  exact h x hx) (by
  rw [List.map_map,show ((λd=>g (v d)) ∘ u)=g from funext λx=>congrArg g (hv x)]
  exact q)
def IT (e:D) (ls:List (List Int)):Prop:=e=Tb ls\/e=Rm ls
theorem K8 {α:Type} (u:α->D):∀ (ns:List Int) (ls:List α),List.zipWith xJ (ns.map D.int) (ls.map u)=(ns.zip ls).map λq=>xJ (.int q.1) (u q.2)
 | [],_=>rfl
 | _ :: _,[]=>rfl
 | _ :: ns,_ :: ls=>by rw [List.map_cons,List.map_cons,List.zipWith_cons_cons,K8 u ns ls]; rfl
def v2 (d:D):Int × List Int:=match d with
 | .tup [x,y]=>(yZ x,zr y)
 | _=>(0,[])
theorem jr {ns:List Int} {j:Nat} (h:j < ns.length) {i:Int} (e:i=(j:Int)):yp (ns.map D.int) i=some (.int (ns.getD j 0)):=by
 rw [jj,e]
 unfold yp wl
 rw [if_pos (by omega),if_pos (by omega)]
 show Option.map D.int ns[((j:Nat):Int).toNat]? = _
 rw [show ((j:Nat):Int).toNat=j by omega,List.getElem?_eq_getElem h,List.getD_eq_getElem?_getD,List.getElem?_eq_getElem h]
 rfl
theorem IS.zipT {d e:D} {ns:List Int} {ls:List (List Int)} (h:IS d ns) (k:IT e ls) {R:List D->Prop} (q:∀ u:List Int->D,u=L\/u=U->R ((ns.zip ls).map λq=>xJ (.int q.1) (u q.2))):v8 [d,e] R:=by
 have q1:=q L (.inl rfl)
 have q2:=q U (.inr rfl)
 rw [<- K8] at q1 q2
 rcases h with rfl | rfl <;> rcases k with rfl | rfl <;> first | exact q1 | exact q2
theorem kj {u:List Int->D} (hu:u=L\/u=U) (q:Int × List Int):v2 (xJ (.int q.1) (u q.2))=q:=by
 rcases hu with rfl | rfl
 ·show (q.1,zr (L q.2))=q
  rw [qX]
 ·show (q.1,zr (U q.2))=q
  rw [uf]
def UQ:FL:=λds R=>∃ (d e:D) (ns:List Int) (ls:List (List Int)) (w:Nat),ds=[d,e,.int (w:Int)]/\IS d ns/\IT e ls/\w<=900/\ns.length<=900/\(∀ x∈ns,Bd 9000 x)/\(∀ r∈ls,w<=r.length/\∀ x∈r,Bd 9000 x)/\R (L ((List.range w).map (zf ns ls)))
def K9:FL:=λds R=>∃ p w n b:Int,ds=[.int p,.int w,.int n,.int b]/\0<=w/\w<=900/\R (U (xO p w.toNat n++[b]))
def UR:FL:=λds R=>∃ d ns,ds=[d]/\IS d ns/\ns.length<=900/\R (U (yM ns))
theorem jt {e:Nat} {r:List Int} (h:∀ x∈r,Bd e x) (j:Nat):Bd e (r.getD j 0):=by
 rw [List.getD_eq_getElem?_getD]
 cases hj:r[j]? with
 | none=>show (0:Int).natAbs < 2 ^ e; exact Nat.two_pow_pos e
 | some x=>exact h x (List.mem_of_getElem? hj)
section
variable {P:Program} {w:World} {K:PySem.W.Frag} {mg:Str->Option Value} {base:Heap}
abbrev US:Stmt:=zi 7
theorem zHr:za ["thing"] ["thing"] (zK US):=.a
abbrev Yy:Stmt:=zi 9
theorem zGN:za ["value","count"] ["value","count"] (zK Yy):=.a
abbrev Yz:Stmt:=zi 10
theorem zHs:za ["value","tall","wide"] ["value","tall","wide"] (zK Yz):=.a
abbrev ko:Stmt:=zi 11
theorem zKP:za ["value","depth"] ["value","depth"] (zK ko):=.a
abbrev Y0:Stmt:=zi 12
theorem zN7:za ["place","wide","number"] ["place","wide","number"] (zK Y0):=.a
abbrev Y1:Stmt:=zi 13
theorem zKK:za ["factor","numbers"] ["factor","numbers"] (zK Y1):=.a
abbrev Y2:Stmt:=zi 14
theorem zMU:za ["factor","numbers","other_factor","others"] ["factor","numbers","other_factor","others"] (zK Y2):=.a
abbrev Y3:Stmt:=zi 15
theorem zKL:za ["numbers","others"] ["numbers","others"] (zK Y3):=.a
variable {aClaim aSettles aComes af ag aPaper aRooms aFalls:Addr} (TClaim:zE K mg "Claim" aClaim) (AClaim:wY K aClaim) (TSettles:zE K mg "Settles" aSettles) (ASettles:wZ K aSettles) (TComes:zE K mg "Comes" aComes) (AComes:wa K aComes) (aa:zE K mg "Mode" af) (ab:wb K af) (ac:zE K mg "Thing" ag) (ae:wc K ag) (TPaper:zE K mg "Paper" aPaper) (APaper:wd K aPaper) (TRooms:zE K mg "Rooms" aRooms) (ARooms:we K aRooms) (TFalls:zE K mg "Falls" aFalls) (AFalls:wf K aFalls) (Y:yd K aComes aSettles)
include TClaim AClaim TSettles ASettles TComes AComes aa ab ac ae TPaper APaper TRooms ARooms TFalls AFalls Y
theorem zIA {k:Nat} {f:Addr} {fd:FuncData} (F:zc K "is_whole" "is_whole" US f fd) (B:Bl mg):zH P w K mg base zW (k + 1) f fd ["thing"] (zI (jE)):=by
 refine zm F zHr (λds R h=>by obtain ⟨d,rfl,_⟩:=h; rfl) λcdv A outer s H E hr=>⟨_,(zM (zS (wM (yG (xY vB rfl B.isinstance_ xy (zl (zA 0) (zl (wy (v:=.ty "int") (u:=.type "int") rfl B.int_ WT rfl) yI))) (vF zQI)) (vZ (zPO (yG (xY vB rfl B.isinstance_ xy (zl (zA 0) (zl (wy (v:=.ty "bool") (u:=.type "bool") rfl B.bool_ zJ1 rfl) yI))) (vF zM8))))))),λds R h=>?_⟩
 obtain ⟨d,rfl,o,q⟩:=h
 refine ⟨o,λc=>⟨o,bR q ?_⟩,λc=>bR q ?_⟩
 ·unfold ud; rw [c]; rfl
 ·unfold ud; rw [c]; rfl
theorem zGn {k:Nat} {f:Addr} {fd:FuncData} (F:zc K "is_numbers" "is_numbers" Yy f fd) (B:Bl mg) (ai:Fn P w K mg base "is_whole" ["thing"] k (zI (jE))):zH P w K mg base zW (k + 1) f fd ["value","count"] (zI (UP)):=by
 refine zm F zGN (λds R h=>by obtain ⟨d,n,k,rfl,_⟩:=h; rfl) λcdv A outer s H E hr=>⟨_,(zM (zS (wM (yG (xY vB rfl B.isinstance_ xy (zl (zA 0) (zl (wy (v:=.ty "list") (u:=.type "list") rfl B.list_ wA rfl) yI))) (vF jC)) (wM (uZ hr.units (zj yQ yS rfl B.len_ yR (zB (zA 0) zC)) (zA 1)) (vZ (zj (wn rfl) wt rfl B.all_ wo (zB (yT (own:=["number"]) (caps:=[]) (yF (S:=zK Yy) (N:=["value","count"]) rfl (by decide +kernel) rfl ⟨0,rfl⟩ rfl (by decide +kernel) (by decide +kernel)) rfl rfl yU (yt (zA 0)) (λ_ _ _ _=>(zz 0 (show (["number"]:List Str).Nodup by decide +kernel) rfl (Or.inl rfl))) (λ_ _ _ _=>(zO ai hr rfl (zB (zA 0) zC)))) zC))))))),λds R h=>?_⟩
 obtain ⟨d,n,k,rfl,f,q⟩:=h
 refine ⟨f.no,λc=>?_,λc=>bR q ?_⟩
 ·obtain ⟨es,rfl,le,j,rfl,hj⟩:=f.lst_inv c
  refine ⟨λc2=>?_,λc2=>bR q ?_⟩
  ·refine zk.bool ud (by omega) (λd m=>⟨d,rfl,(hj d m).no,rfl⟩) ⟨_,rfl,bR q ?_⟩
   show (decide _ && _)=_
   rw [c2,vN]
   rfl
  ·show (decide _ && _)=_
   rw [c2]
   rfl
 ·cases d <;> first | rfl | cases c
theorem zIB {k:Nat} {f:Addr} {fd:FuncData} (F:zc K "is_table" "is_table" Yz f fd) (B:Bl mg) (aw:Fn P w K mg base "is_numbers" ["value","count"] k (zI (UP))):zH P w K mg base zW (k + 1) f fd ["value","tall","wide"] (zI (ki)):=by
 refine zm F zHs (λds R h=>by obtain ⟨d,h,w,k,rfl,_⟩:=h; rfl) λcdv A outer s H E hr=>⟨_,(zM (zS (wM (yG (xY vB rfl B.isinstance_ xy (zl (zA 0) (zl (wy (v:=.ty "list") (u:=.type "list") rfl B.list_ wA rfl) yI))) (vF jC)) (wM (uZ hr.units (zj yQ yS rfl B.len_ yR (zB (zA 0) zC)) (zA 1)) (vZ (zj (wn rfl) wt rfl B.all_ wo (zB (yT (own:=["part"]) (caps:=[(2,"wide")]) (yF (S:=zK Yz) (N:=["value","tall","wide"]) rfl (by decide +kernel) rfl ⟨_,rfl⟩ rfl (by decide +kernel) (by decide +kernel)) rfl rfl yU (yt (zA 0)) (λ_ _ _ _=>(zz 0 (show (["part","wide"]:List Str).Nodup by decide +kernel) rfl (Or.inl rfl))) (λ_ _ _ _=>(zO aw hr rfl (zB (zA 0) (zB (zA 1) zC))))) zC))))))),λds R h=>?_⟩
 obtain ⟨d,h,w,k,rfl,f,q⟩:=h
 refine ⟨f.no,λc=>?_,λc=>bR q ?_⟩
 ·obtain ⟨es,rfl,le,j,rfl,hj⟩:=f.lst_inv c
  refine ⟨λc2=>?_,λc2=>bR q ?_⟩
  ·refine zk.bool (Yv w) (by omega) (λd m=>⟨d,w,j,rfl,hj d m,rfl⟩) ⟨_,rfl,bR q ?_⟩
   show (decide _ && _)=_
   rw [c2,vN]
   rfl
  ·show (decide _ && _)=_
   rw [c2]
   rfl
 ·cases d <;> first | rfl | cases c
theorem kq {k:Nat} {f:Addr} {fd:FuncData} {dv:Value} {j:Nat} (F:xU K "copied" "copied" ko f fd dv) (B:Bl mg) (ah:vU P w K mg base "copied" ["value","depth"] k (zI (jq j)) (.int 5)):zH P w K mg base zW (k + 1) f fd ["value","depth"] (zI (jq (j + 1))):=by
 refine kX F zKP (λds R h=>by obtain ⟨d,n,rfl,_⟩:=h; rfl) λcdv A outer s H E hr=>⟨_,(zJ (yB (xk hr.units (zA 1) zD) (zM (zS (zA 0))) yA)
  (zJ (yB (yY (yG (xY vB rfl B.isinstance_ xy (zl (zA 0) (zl (wy (v:=.ty "list") (u:=.type "list") rfl B.list_ wA rfl) yI))) (vF jC))) (zM (zS (yT (own:=["part"]) (caps:=[(1,"depth")]) (yF (S:=zK ko) (N:=["value","depth"]) rfl (by decide +kernel) rfl ⟨_,rfl⟩ rfl (by decide +kernel) (by decide +kernel)) rfl rfl yU (yt (zA 0)) (λ_ _ _ _=>(zz 0 (show (["part","depth"]:List Str).Nodup by decide +kernel) rfl (Or.inl rfl))) (λ_ _ _ _=>(zO ah.fn hr rfl (zB (zA 0) (zB (xj (zA 1) zD) zC))))))) yA)
  (zJ (yB (yY (yG (xY vB rfl B.isinstance_ xy (zl (zA 0) (zl (wy (v:=.ty "tuple") (u:=.type "tuple") rfl B.tuple_ xz rfl) yI))) (vF kW))) (zM (zS (xB vA vE rfl B.tuple_ xz (zB (yT (own:=["part"]) (caps:=[(1,"depth")]) (yF (S:=zK ko) (N:=["value","depth"]) rfl (by decide +kernel) rfl ⟨_,rfl⟩ rfl (by decide +kernel) (by decide +kernel)) rfl rfl yU (yt (zA 0)) (λ_ _ _ _=>(zz 0 (show (["part","depth"]:List Str).Nodup by decide +kernel) rfl (Or.inl rfl))) (λ_ _ _ _=>(zO ah.fn hr rfl (zB (zA 0) (zB (xj (zA 1) zD) zC))))) zC)))) yA)
  (zM (zS (zA 0)))))),λds R h=>?_⟩
 obtain ⟨d,n,rfl,f,q⟩:=h
 refine ⟨λc=>q,λc=>?_⟩
 refine ⟨f.no,λc=>?_,λc=>?_⟩
 ·obtain ⟨es,rfl,le,i,e1,hj⟩:=f.lst_inv c
  cases e1
  refine zk.map id (by omega) (λd m=>⟨d,_,rfl,hj d m,rfl⟩) ?_
  rw [List.map_id]
  exact q
 refine ⟨f.no,λc=>?_,λc=>q⟩
 obtain ⟨es,rfl,le,i,e1,hj⟩:=f.tup_inv c
 cases e1
 refine zk.map id (by omega) (λd m=>⟨d,_,rfl,hj d m,rfl⟩) ?_
 rw [List.map_id]
 exact q
theorem zOU {k:Nat} {f:Addr} {fd:FuncData} {dv:Value} (F:xU K "unit" "unit" Y0 f fd dv) (B:Bl mg):zH P w K mg base zW (k + 1) f fd ["place","wide","number"] (zI (K0)):=by
 refine kX F zN7 (λds R h=>by obtain ⟨p,w,n,rfl,_⟩:=h; rfl) λcdv A outer s H E hr=>⟨_,(zM (zS (yT (own:=["other"]) (caps:=[(0,"place"),(2,"number")]) (yF (S:=zK Y0) (N:=["place","wide","number"]) rfl (by decide +kernel) rfl ⟨_,rfl⟩ rfl (by decide +kernel) (by decide +kernel)) rfl rfl yU (xm rfl B.range_ (zB (zA 1) zC)) (λ_ _ _ _=>(zz 0 (show (["other","place","number"]:List Str).Nodup by decide +kernel) rfl (Or.inl rfl))) (λ_ _ _ _=>(zMa (xk hr.units (zA 0) (zA 1)) (zA 2) zD))))),λds R h=>?_⟩
 obtain ⟨p,w,n,rfl,w0,w1,q⟩:=h
 refine ⟨by omega,by omega,zk.rng0 (λi=>.int (if (i:Int)=p then n else 0)) (by omega) (λk hk=>?_) ?_⟩
 ·refine ⟨λc=>?_,λc=>?_⟩
  ·show D.int n=_
   rw [if_pos (of_decide_eq_true c)]
  ·show D.int 0=_
   rw [if_neg (of_decide_eq_false c)]
 ·unfold xO L at q
  rw [List.map_map] at q
  exact q
theorem zKs {k:Nat} {f:Addr} {fd:FuncData} (F:zc K "scaled" "scaled" Y1 f fd) (B:Bl mg):zH P w K mg base zW (k + 1) f fd ["factor","numbers"] (zI (K1)):=by
 refine zm F zKK (λds R h=>by obtain ⟨f,d,ns,rfl,_⟩:=h; rfl) λcdv A outer s H E hr=>⟨_,(zM (zS (yT (own:=["number"]) (caps:=[(0,"factor")]) (yF (S:=zK Y1) (N:=["factor","numbers"]) rfl (by decide +kernel) rfl ⟨_,rfl⟩ rfl (by decide +kernel) (by decide +kernel)) rfl rfl yU (yt (zA 1)) (λ_ _ _ _=>(zz 0 (show (["number","factor"]:List Str).Nodup by decide +kernel) rfl (Or.inl rfl))) (λ_ _ _ _=>(zx (zA 1) (zA 0)))))),λds R h=>?_⟩
 obtain ⟨f,d,ns,rfl,h,l,bf,bn,q⟩:=h
 exact h.seq (zk.int _ (by omega) (λn hn=>⟨bf.mono,(bn n hn).mono,rfl⟩) q)
theorem zMt {k:Nat} {f:Addr} {fd:FuncData} (F:zc K "mixed" "mixed" Y2 f fd) (B:Bl mg):zH P w K mg base zW (k + 1) f fd ["factor","numbers","other_factor","others"] (zI (K2)):=by
 refine zm F zMU (λds R h=>by obtain ⟨f,g,d,e,ns,os,rfl,_⟩:=h; rfl) λcdv A outer s H E hr=>⟨_,(zM (zS (yT (own:=["number","other"]) (caps:=[(0,"factor"),(2,"other_factor")]) (yF (S:=zK Y2) (N:=["factor","numbers","other_factor","others"]) rfl (by decide +kernel) rfl ⟨_,rfl⟩ rfl (by decide +kernel) (by decide +kernel)) rfl rfl (v7 (xo (xo uA))) (v9 rfl B.zip_ (zB (zA 1) (zB (zA 3) zC))) (λ_ _ _ _=>(xI rfl (zY 0 (show (["number","other","factor","other_factor"]:List Str).Nodup by decide +kernel) rfl (Or.inl rfl) (zY 1 (show (["number","other","factor","other_factor"]:List Str).Nodup by decide +kernel) rfl (Or.inl rfl) xH)))) (λ_ _ _ _=>(zU (zx (zA 2) (zA 0)) (zx (zA 3) (zA 1))))))),λds R h=>?_⟩
 obtain ⟨f,g,d,e,ns,os,rfl,h,k,l,bf,bg,bn,bo,q⟩:=h
 exact h.zip k (K5 (λq=>f * q.1 + g * q.2) (by rw [List.length_zip]; omega) (λp hp=>⟨bf.mono,(bn _ (List.of_mem_zip hp).1).mono,bg.mono,(bo _ (List.of_mem_zip hp).2).mono,rfl⟩) q)
theorem zKt {k:Nat} {f:Addr} {fd:FuncData} (F:zc K "paired" "paired" Y3 f fd) (B:Bl mg):zH P w K mg base zW (k + 1) f fd ["numbers","others"] (zI (K3)):=by
 refine zm F zKL (λds R h=>by obtain ⟨d,e,ns,os,rfl,_⟩:=h; rfl) λcdv A outer s H E hr=>⟨_,(zM (zS (zj (qH rfl) qU rfl B.sum_ qG (zB (yT (own:=["number","other"]) (caps:=[]) (yF (S:=zK Y3) (N:=["numbers","others"]) rfl (by decide +kernel) rfl ⟨0,rfl⟩ rfl (by decide +kernel) (by decide +kernel)) rfl rfl (v7 (xo (xo uA))) (v9 rfl B.zip_ (zB (zA 0) (zB (zA 1) zC))) (λ_ _ _ _=>(xI rfl (zY 0 (show (["number","other"]:List Str).Nodup by decide +kernel) rfl (Or.inl rfl) (zY 1 (show (["number","other"]:List Str).Nodup by decide +kernel) rfl (Or.inl rfl) xH)))) (λ_ _ _ _=>(zx (zA 0) (zA 1)))) zC)))),λds R h=>?_⟩
 obtain ⟨d,e,ns,os,rfl,h,k,l,bn,bo,q⟩:=h
 refine h.zip k (K5 (λq=>q.1 * q.2) (by rw [List.length_zip]; omega) (λp hp=>⟨(bn _ (List.of_mem_zip hp).1).mono,(bo _ (List.of_mem_zip hp).2).mono,rfl⟩) ⟨_,rfl,?_⟩)
 rw [K6]
 exact q
end
section
variable {P:Program} {w:World} {K:PySem.W.Frag} {mg:Str->Option Value} {base:Heap}
abbrev Y4:Stmt:=zi 16
theorem zHu:za ["numbers","lists","wide"] ["numbers","lists","wide"] (zK Y4):=.a
abbrev Y5:Stmt:=zi 22
theorem zKO:za ["value","many"] ["value","many"] (zK Y5):=.a
abbrev Y6:Stmt:=zi 23
theorem zJZ:za ["value","many"] ["value","many"] (zK Y6):=.a
abbrev UT:Stmt:=zi 24
theorem zKJ:za ["place","many","number","bound"] ["place","many","number","bound"] (zK UT):=.a
abbrev Y7:Stmt:=zi 25
theorem zGL:za ["row"] ["row"] (zK Y7):=.a
variable {aClaim aSettles aComes af ag aPaper aRooms aFalls:Addr} (TClaim:zE K mg "Claim" aClaim) (AClaim:wY K aClaim) (TSettles:zE K mg "Settles" aSettles) (ASettles:wZ K aSettles) (TComes:zE K mg "Comes" aComes) (AComes:wa K aComes) (aa:zE K mg "Mode" af) (ab:wb K af) (ac:zE K mg "Thing" ag) (ae:wc K ag) (TPaper:zE K mg "Paper" aPaper) (APaper:wd K aPaper) (TRooms:zE K mg "Rooms" aRooms) (ARooms:we K aRooms) (TFalls:zE K mg "Falls" aFalls) (AFalls:wf K aFalls) (Y:yd K aComes aSettles)
include TClaim AClaim TSettles ASettles TComes AComes aa ab ac ae TPaper APaper TRooms ARooms TFalls AFalls Y
theorem zIE {k:Nat} {f:Addr} {fd:FuncData} (F:zc K "added_up" "added_up" Y4 f fd) (B:Bl mg):zH P w K mg base zW (k + 1) f fd ["numbers","lists","wide"] (zI (UQ)):=by
 refine zm F zHu (λds R h=>by obtain ⟨d,e,ns,ls,w,rfl,_⟩:=h; rfl) λcdv A outer s H E hr=>⟨_,(zM (zS (yT (own:=["place"]) (caps:=[(0,"numbers"),(1,"lists")]) (yF (S:=zK Y4) (N:=["numbers","lists","wide"]) rfl (by decide +kernel) rfl ⟨_,rfl⟩ rfl (by decide +kernel) (by decide +kernel)) rfl rfl yU (xm rfl B.range_ (zB (zA 2) zC)) (λ_ _ _ _=>(zz 0 (show (["place","numbers","lists"]:List Str).Nodup by decide +kernel) rfl (Or.inr rfl))) (λ_ _ _ _=>(zj (qH rfl) qU rfl B.sum_ qG (zB (yT (own:=["number","part"]) (caps:=[(0,"place")]) (YO rfl (by decide +kernel) (by decide +kernel) (by decide +kernel) (by decide +kernel)) rfl rfl (v7 (xo (xo uA))) (v9 rfl B.zip_ (zB (zA 1) (zB (zA 2) zC))) (λ_ _ _ _=>(xI rfl (zY 0 (show (["number","part","place"]:List Str).Nodup by decide +kernel) rfl (Or.inl rfl) (zY 1 (show (["number","part","place"]:List Str).Nodup by decide +kernel) rfl (Or.inl rfl) xH)))) (λ_ _ _ _=>(zx (zA 0) (zP (zA 1) (zA 2) (λ_ _=>rfl))))) zC)))))),λds R h=>?_⟩
 obtain ⟨d,e,ns,ls,w,rfl,h,k,lw,ln,bn,bl,q⟩:=h
 refine ⟨by omega,by omega,?_⟩
 rw [show ((w:Nat):Int).toNat=w by omega]
 refine zk.rng0 (λj=>.int (zf ns ls j)) (by omega) (λj hj=>?_) (by unfold L at q; rw [List.map_map] at q; exact q)
 refine h.zipT k λu hu=>vd (λq=>xJ (.int q.1) (u q.2)) v2 (kj hu) (λq=>.int (q.1 * q.2.getD j 0)) (by rw [List.length_zip]; omega) (λq hq=>?_) ⟨(ns.zip ls).map λq=>q.1 * q.2.getD j 0,by rw [List.map_map]; rfl,rfl⟩
 have hb:=bl q.2 (List.of_mem_zip hq).2
 rcases hu with rfl | rfl
 all_goals exact ⟨_,jr (j:=j) (by omega) (by omega),(bn _ (List.of_mem_zip hq).1).mono,(jt hb.2 j).mono,rfl⟩
theorem zKz {k:Nat} {f:Addr} {fd:FuncData} (F:zc K "is_row" "is_row" Y5 f fd) (B:Bl mg) (ai:Fn P w K mg base "is_whole" ["thing"] k (zI (jE))):zH P w K mg base zW (k + 1) f fd ["value","many"] (zI (jp)):=by
 refine zm F zKO (λds R h=>by obtain ⟨d,n,k,rfl,_⟩:=h; rfl) λcdv A outer s H E hr=>⟨_,(zM (zS (wM (yG (xY vB rfl B.isinstance_ xy (zl (zA 0) (zl (wy (v:=.ty "tuple") (u:=.type "tuple") rfl B.tuple_ xz rfl) yI))) (vF kW)) (wM (uZ hr.units (zj yQ yS rfl B.len_ yR (zB (zA 0) zC)) (zU (zA 1) zD)) (vZ (zj (wn rfl) wt rfl B.all_ wo (zB (yT (own:=["number"]) (caps:=[]) (yF (S:=zK Y5) (N:=["value","many"]) rfl (by decide +kernel) rfl ⟨0,rfl⟩ rfl (by decide +kernel) (by decide +kernel)) rfl rfl yU (yt (zA 0)) (λ_ _ _ _=>(zz 0 (show (["number"]:List Str).Nodup by decide +kernel) rfl (Or.inl rfl))) (λ_ _ _ _=>(zO ai hr rfl (zB (zA 0) zC)))) zC))))))),λds R h=>?_⟩
 obtain ⟨d,n,k,rfl,f,q⟩:=h
 refine ⟨f.no,λc=>?_,λc=>bR q ?_⟩
 ·obtain ⟨es,rfl,le,j,rfl,hj⟩:=f.tup_inv c
  refine ⟨λc2=>?_,λc2=>bR q ?_⟩
  ·refine zk.bool ud (by omega) (λd m=>⟨d,rfl,(hj d m).no,rfl⟩) ⟨_,rfl,bR q ?_⟩
   show (decide _ && _)=_
   rw [c2,vN]
   rfl
  ·show (decide _ && _)=_
   rw [c2]
   rfl
 ·cases d <;> first | rfl | cases c
theorem zJl {k:Nat} {f:Addr} {fd:FuncData} (F:zc K "is_room" "is_room" Y6 f fd) (B:Bl mg) (aD:Fn P w K mg base "is_row" ["value","many"] k (zI (jp))):zH P w K mg base zW (k + 1) f fd ["value","many"] (zI (Yx)):=by
 refine zm F zJZ (λds R h=>by obtain ⟨d,n,k,rfl,_⟩:=h; rfl) λcdv A outer s H E hr=>⟨_,(zM (zS (wM (yG (xY vB rfl B.isinstance_ xy (zl (zA 0) (zl (wy (v:=.ty "list") (u:=.type "list") rfl B.list_ wA rfl) yI))) (vF jC)) (vZ (zj (wn rfl) wt rfl B.all_ wo (zB (yT (own:=["row"]) (caps:=[(1,"many")]) (yF (S:=zK Y6) (N:=["value","many"]) rfl (by decide +kernel) rfl ⟨_,rfl⟩ rfl (by decide +kernel) (by decide +kernel)) rfl rfl yU (yt (zA 0)) (λ_ _ _ _=>(zz 0 (show (["row","many"]:List Str).Nodup by decide +kernel) rfl (Or.inl rfl))) (λ_ _ _ _=>(zO aD hr rfl (zB (zA 0) (zB (zA 1) zC))))) zC)))))),λds R h=>?_⟩
 obtain ⟨d,n,k,rfl,f,q⟩:=h
 refine ⟨f.no,λc=>?_,λc=>bR q ?_⟩
 ·obtain ⟨es,rfl,le,j,rfl,hj⟩:=f.lst_inv c
  refine zk.bool (ue n) (by omega) (λd m=>⟨d,n,j,rfl,hj d m,rfl⟩) ⟨_,rfl,bR q ?_⟩
  rw [vN]
  rfl
 ·cases d <;> first | rfl | cases c
theorem zKr {k:Nat} {f:Addr} {fd:FuncData} (F:zc K "single" "single" UT f fd) (B:Bl mg) (aQ:vU P w K mg base "unit" ["place","wide","number"] k (zI (K0)) (.int 1)):zH P w K mg base zW (k + 1) f fd ["place","many","number","bound"] (zI (K9)):=by
 refine zm F zKJ (λds R h=>by obtain ⟨p,w,n,b,rfl,_⟩:=h; rfl) λcdv A outer s H E hr=>⟨_,(zM (zS (zU (xB vA vE rfl B.tuple_ xz (zB (zO aQ.fn hr rfl (zB (zA 0) (zB (zA 1) (zB (zA 2) zC)))) zC)) (xA (zB (zA 3) zC))))),λds R h=>?_⟩
 obtain ⟨p,w,n,b,rfl,w0,w1,q⟩:=h
 refine ⟨p,w,n,rfl,w0,w1,k0,by rw [List.length_map,uX]; show _ + 1<=1000; omega,?_⟩
 unfold U at q
 rw [List.map_append] at q
 exact q
theorem zGk {k:Nat} {f:Addr} {fd:FuncData} (F:zc K "other_side" "other_side" Y7 f fd) (B:Bl mg):zH P w K mg base zW (k + 1) f fd ["row"] (zI (UR)):=by
 refine zm F zGL (λds R h=>by obtain ⟨d,ns,rfl,_⟩:=h; rfl) λcdv A outer s H E hr=>⟨_,(zM (zS (xB vA vE rfl B.tuple_ xz (zB (yT (own:=["number"]) (caps:=[]) (yF (S:=zK Y7) (N:=["row"]) rfl (by decide +kernel) rfl ⟨0,rfl⟩ rfl (by decide +kernel) (by decide +kernel)) rfl rfl yU (yt (zA 0)) (λ_ _ _ _=>(zz 0 (show (["number"]:List Str).Nodup by decide +kernel) rfl (Or.inl rfl))) (λ_ _ _ _=>(yi (zA 0)))) zC)))),λds R h=>?_⟩
 obtain ⟨d,ns,rfl,h,l,q⟩:=h
 exact h.seq (zk.int (λx=>-x) (by omega) (λn hn=>rfl) q)
end
abbrev zNk:List Str:=["rows","nexts","steer","push","add","divisor"]
abbrev zN2:List Str:=["many","kept_pushes","kept_modes"]
abbrev wN (C:Addr) (m:MD):D:=.obj C zNk [Rm m.rows,Tb m.nexts,L m.steer,Tb m.push,L m.add,.int m.div]
abbrev zw (b:Int × Int):D:=.tup [.int b.1,.int b.2]
abbrev wv (C CM:Addr) (n:Nat) (bs:List (Int × Int)) (ms:List MD):D:=.obj C zN2 [.int (n:Int),.lst (bs.map zw),.lst (ms.map (wN CM))]
theorem uB {k:Nat} {ns:List Int} (h:ns.length<=900):Fw (k + 2) (L ns):=.lst (by rw [List.length_map]; exact h) Ky
theorem ju {k:Nat} {ns:List Int} (h:ns.length<=900):Fw (k + 2) (U ns):=.tup (by rw [List.length_map]; exact h) Ky
theorem Y8 {k:Nat} {t:List (List Int)} (h:t.length<=900) (h2:∀ r∈t,r.length<=900):Fw (k + 3) (Tb t):=.lst (by rw [List.length_map]; exact h) λd m=>by
 obtain ⟨r,hr,rfl⟩:=List.mem_map.mp m
 exact uB (h2 r hr)
theorem qY {k:Nat} {t:List (List Int)} (h:t.length<=900) (h2:∀ r∈t,r.length<=900):Fw (k + 3) (Rm t):=.lst (by rw [List.length_map]; exact h) λd m=>by
 obtain ⟨r,hr,rfl⟩:=List.mem_map.mp m
 exact ju (h2 r hr)
theorem zHn (ns:List Int):(ns.map D.int).all ud=true:=List.all_eq_true.mpr λd m=>by
 obtain ⟨i,_,rfl⟩:=List.mem_map.mp m
 rfl
theorem UU {n:Int} {ns:List Int} (h:(ns.length:Int)=n):Yv n (L ns)=true:=by
 show (decide _ && _)=true
 rw [List.length_map,decide_eq_true h,zHn]
 rfl
theorem zNS {h w:Int} {t:List (List Int)} (e:(t.length:Int)=h) (k:∀ r∈t,(r.length:Int)=w):kh h w (Tb t)=true:=by
 show (decide _ && _)=true
 rw [List.length_map,decide_eq_true e]
 exact List.all_eq_true.mpr λd m=>by
  obtain ⟨r,hr,rfl⟩:=List.mem_map.mp m
  exact UU (k r hr)
theorem zNX {n:Int} {ns:List Int} (h:(ns.length:Int)=n + 1):ue n (U ns)=true:=by
 show (decide _ && _)=true
 rw [List.length_map,decide_eq_true h,zHn]
 rfl
theorem Y9 {n:Int} {t:List (List Int)} (k:∀ r∈t,(r.length:Int)=n + 1):Kz n (Rm t)=true:=List.all_eq_true.mpr λd m=>by
 obtain ⟨r,hr,rfl⟩:=List.mem_map.mp m
 exact zNX (k r hr)
def zNn (C:Addr):FL:=λds R=>∃ r n s p a d,ds=[r,n,s,p,a,d]/\Fw 5 r/\Fw 5 n/\Fw 5 s/\Fw 5 p/\Fw 5 a/\R (.obj C zNk [r,n,s,p,a,d])
def zLa:FL:=λds R=>∃ b:Int × Int,ds=[zw b]/\b.1<=b.2/\R (.bool true)
def zLb (C:Addr):FL:=λds R=>∃ (m:MD) (n p:Nat),ds=[wN C m,.int (n:Int),.int (p:Int)]/\yj m n p/\R (.bool true)
def zI6 (C:Addr):FL:=λds R=>∃ (n:Nat) (bs:List (Int × Int)) (ms:List MD),ds=[.int (n:Int),.lst (bs.map zw),.lst (ms.map (wN C))]/\wU n bs ms/\R (.bool true)
def zLN (C CM:Addr):FL:=λds R=>∃ (n:Nat) (bs:List (Int × Int)) (ms:List MD),ds=[.int (n:Int),.lst (bs.map zw),.lst (ms.map (wN CM))]/\wU n bs ms/\R (wv C CM n bs ms)
def UV (C CM:Addr):FL:=λds R=>∃ n bs ms,ds=[wv C CM n bs ms]/\R (.lst (bs.map zw))
def UW (C CM:Addr):FL:=λds R=>∃ n bs ms,ds=[wv C CM n bs ms]/\R (.lst (ms.map (wN CM)))
def XA (ms:List MD):Bool:=ms.all λm=>m.steer.all λx=>decide (x=0)
def zF5 (C:Addr):FL:=λds R=>∃ m,ds=[wN C m]/\m.steer.length<=900/\R (.bool (m.steer.all λx=>decide (x=0)))
def zLh (C CM:Addr):FL:=λds R=>∃ n bs ms,ds=[wv C CM n bs ms]/\wU n bs ms/\R (.bool (XA ms))
def zF7 (C CM:Addr):FL:=λds R=>∃ n bs ms,ds=[wv C CM n bs ms]/\wU n bs ms/\XA ms=true/\R .non
theorem zQd {ns:List Int} {G:D->(D->Prop)->Prop} {R:D->Prop} (g:Int->Bool) (few:ns.length<=1000) (h:∀ n,n∈ns->G (.int n) λe=>e=.bool (g n)) (q:R (.lst ((ns.map g).map D.bool))):zk (ns.map D.int) G R:=
 vd D.int yZ (λ_=>rfl) (λn=>.bool (g n)) few h (by rw [List.map_map] at q; exact q)
def xG (d:D):MD:=match d with
 | .obj _ _ [.lst r,.lst n,s,.lst p,a,d]=>⟨r.map zr,n.map zr,zr s,p.map zr,zr a,yZ d⟩
 | _=>⟨[],[],[],[],[],0⟩
theorem zNQ (t:List (List Int)):(t.map L).map zr=t:=by
 rw [List.map_map,show (zr ∘ L)=id from funext λr=>qX r]
 exact List.map_id _
theorem zOy (t:List (List Int)):(t.map U).map zr=t:=by
 rw [List.map_map,show (zr ∘ U)=id from funext λr=>uf r]
 exact List.map_id _
theorem XB (C:Addr) (m:MD):xG (wN C m)=m:=by
 show MD.mk ((m.rows.map U).map zr) ((m.nexts.map L).map zr) (zr (L m.steer)) ((m.push.map L).map zr) (zr (L m.add)) m.div=m
 rw [zOy,zNQ,zNQ,qX,qX]
def kr (d:D):Int × Int:=match d with
 | .tup [x,y]=>(yZ x,yZ y)
 | _=>(0,0)
section
variable {P:Program} {w:World} {K:PySem.W.Frag} {mg:Str->Option Value} {base:Heap}
abbrev UX:Stmt:=jU (zi 38) 0
theorem zE0:za ["self","rows","nexts","steer","push","add","divisor"] ["self","rows","nexts","steer","push","add","divisor"] (zK UX):=.a
abbrev UY:Stmt:=zi 41
theorem zJa:za ["value"] ["value"] (zK UY):=.a
abbrev UZ:Stmt:=zi 42
theorem zJb:za ["value","many","wide"] ["value","many","wide"] (zK UZ):=.a
abbrev ku:Stmt:=zi 40
theorem zHt:za ["many","pushes","modes"] ["many","pushes","modes"] (zK ku):=.a
abbrev Ua:Stmt:=jU (zi 39) 0
theorem zEQ:za ["self","many","pushes","modes"] ["self","many","pushes","modes"] (zK Ua):=.a
abbrev Ub:Stmt:=jU (zi 39) 1
theorem zFF:za ["self"] ["self"] (zK Ub):=.a
abbrev Uc:Stmt:=jU (zi 39) 2
theorem zFu:za ["self"] ["self"] (zK Uc):=.a
abbrev XC:Stmt:=zi 43
theorem zFD:za ["mode"] ["mode"] (zK XC):=.a
abbrev XD:Stmt:=jU (zi 39) 3
theorem zD5:za ["self"] ["self"] (zK XD):=.a
abbrev Ud:Stmt:=zi 44
theorem zGR:za ["thing"] ["thing"] (zK Ud):=.a
variable {aClaim aSettles aComes af ag aPaper aRooms aFalls:Addr} (TClaim:zE K mg "Claim" aClaim) (AClaim:wY K aClaim) (TSettles:zE K mg "Settles" aSettles) (ASettles:wZ K aSettles) (TComes:zE K mg "Comes" aComes) (AComes:wa K aComes) (aa:zE K mg "Mode" af) (ab:wb K af) (ac:zE K mg "Thing" ag) (ae:wc K ag) (TPaper:zE K mg "Paper" aPaper) (APaper:wd K aPaper) (TRooms:zE K mg "Rooms" aRooms) (ARooms:we K aRooms) (TFalls:zE K mg "Falls" aFalls) (AFalls:wf K aFalls) (Y:yd K aComes aSettles)
include TClaim AClaim TSettles ASettles TComes AComes aa ab ac ae TPaper APaper TRooms ARooms TFalls AFalls Y
theorem zE1 {k:Nat} {f:Addr} {fd:FuncData} (F:zc K "__init__" "Mode.__init__" UX f fd) (B:Bl mg) (ah:vU P w K mg base "copied" ["value","depth"] k (zI (jq 5)) (.int 5)):zH P w K mg base zW (k + 1) f fd ["self","rows","nexts","steer","push","add","divisor"] (vG af (zNn af)):=by
 refine Yt F zE0 (λds R h=>by obtain ⟨r,n,s,p,a,d,rfl,_⟩:=h; rfl) λcdv A outer s H E hr=>⟨_,(zJ (zv (xb (yJ 0) (vM (.int 5) (λ_=>.int 5) ah hr rfl (zB (zA 1) zC)) rfl) xr)
  (zJ (zv (xb (yJ 0) (vM (.int 5) (λ_=>.int 5) ah hr rfl (zB (zA 2) zC)) rfl) xr)
  (zJ (zv (xb (yJ 0) (vM (.int 5) (λ_=>.int 5) ah hr rfl (zB (zA 3) zC)) rfl) xr)
  (zJ (zv (xb (yJ 0) (vM (.int 5) (λ_=>.int 5) ah hr rfl (zB (zA 4) zC)) rfl) xr)
  (zJ (zv (xb (yJ 0) (vM (.int 5) (λ_=>.int 5) ah hr rfl (zB (zA 5) zC)) rfl) xr)
  (zM (zv (xb (yJ 0) (zA 6) rfl) xr))))))),λo ds R h=>?_⟩
 obtain ⟨r,n,s,p,a,d,rfl,f1,f2,f3,f4,f5,q⟩:=h
 refine ⟨r,5,rfl,f1,⟨aa.cl,ab.n_rows⟩,by decide +kernel,by decide,rfl,?_⟩
 refine ⟨n,5,rfl,f2,⟨aa.cl,ab.n_nexts⟩,by decide +kernel,by decide,rfl,?_⟩
 refine ⟨s,5,rfl,f3,⟨aa.cl,ab.n_steer⟩,by decide +kernel,by decide,rfl,?_⟩
 refine ⟨p,5,rfl,f4,⟨aa.cl,ab.n_push⟩,by decide +kernel,by decide,rfl,?_⟩
 refine ⟨a,5,rfl,f5,⟨aa.cl,ab.n_add⟩,by decide +kernel,by decide,rfl,?_⟩
 exact ⟨⟨aa.cl,ab.n_divisor⟩,by decide +kernel,by decide,rfl,rfl,q⟩
theorem zJm {k:Nat} {f:Addr} {fd:FuncData} (F:zc K "is_push" "is_push" UY f fd) (B:Bl mg) (ai:Fn P w K mg base "is_whole" ["thing"] k (zI (jE))):zH P w K mg base zW (k + 1) f fd ["value"] (zI (zLa)):=by
 refine zm F zJa (λds R h=>by obtain ⟨b,rfl,_⟩:=h; rfl) λcdv A outer s H E hr=>⟨_,(zJ (yB (PW.pt (wW (yy (yY (yG (xY vB rfl B.isinstance_ xy (zl (zA 0) (zl (wy (v:=.ty "tuple") (u:=.type "tuple") rfl B.tuple_ xz rfl) yI))) (vF kW)))) (vL (Wo hr.units (zj yQ yS rfl B.len_ yR (zB (zA 0) zC)) zD)))) (zM (zS xP)) yA)
  (zM (zS (wM (zO ai hr rfl (zB (zP (zA 0) zD (λ_ _=>rfl)) zC)) (wM (zO ai hr rfl (zB (zP (zA 0) zD (λ_ _=>rfl)) zC)) (vZ (Wl (zP (zA 0) zD (λ_ _=>rfl)) (zP (zA 0) zD (λ_ _=>rfl))))))))),λds R h=>?_⟩
 obtain ⟨b,rfl,h,q⟩:=h
 refine ⟨rfl,wF rfl (wF rfl ?_)⟩
 refine ⟨_,rfl,_,rfl,rfl,wT rfl ?_⟩
 refine ⟨_,rfl,_,rfl,rfl,wT rfl ?_⟩
 exact ⟨_,rfl,_,rfl,bR q (decide_eq_true h).symm⟩
theorem zJn {k:Nat} {f:Addr} {fd:FuncData} (F:zc K "is_mode" "is_mode" UZ f fd) (B:Bl mg) (ap:Fn P w K mg base "is_room" ["value","many"] k (zI (Yx))) (aM:Fn P w K mg base "is_table" ["value","tall","wide"] k (zI (ki))) (aw:Fn P w K mg base "is_numbers" ["value","count"] k (zI (UP))) (ai:Fn P w K mg base "is_whole" ["thing"] k (zI (jE))):zH P w K mg base zW (k + 1) f fd ["value","many","wide"] (zI (zLb af)):=by
 refine zm F zJb (λds R h=>by obtain ⟨m,n,p,rfl,_⟩:=h; rfl) λcdv A outer s H E hr=>⟨_,(zJ (yB (PW.pt (wW (yy (yY (yG (xY ga rfl B.isinstance_ xy (zl (zA 0) (zl (gZ aa rfl) yI))) ka))) (vL (yy (yY (zO ap hr rfl (zB (zp K (zA 0) rfl) (zB (zA 1) zC)))))))) (zM (zS xP)) yA)
  (zJ (yB (PW.pt (wW (yy (yY (zO aM hr rfl (zB (zp K (zA 0) rfl) (zB (zA 1) (zB (zA 1) zC)))))) (vL (yy (yY (zO aM hr rfl (zB (zp K (zA 0) rfl) (zB (zA 1) (zB (zA 2) zC))))))))) (zM (zS xP)) yA)
  (zJ (yB (PW.pt (wW (yy (yY (zO aw hr rfl (zB (zp K (zA 0) rfl) (zB (zA 1) zC))))) (vL (yy (yY (zO aw hr rfl (zB (zp K (zA 0) rfl) (zB (zA 1) zC)))))))) (zM (zS xP)) yA)
  (zM (zS (wM (zO ai hr rfl (zB (zp K (zA 0) rfl) zC)) (vZ (KN (zp K (zA 0) rfl) zD)))))))),λds R h=>?_⟩
 obtain ⟨m,n,p,rfl,h,q⟩:=h
 have n3:=h.n3
 have p6:=h.p6
 refine ⟨⟨_,_,aa⟩,_,Wa,wF rfl ?_⟩
 refine ⟨⟨aa.cl,ab.n_rows⟩,_,rfl,_,_,3,rfl,qY h.few (λr hr=>by rw [h.rows r hr]; omega),wF (by rw [Y9 λr hr=>by rw [h.rows r hr]; rfl]; rfl) ?_⟩
 refine ⟨⟨aa.cl,ab.n_nexts⟩,_,rfl,_,_,_,3,rfl,Y8 (by rw [h.nexts.1]; omega) (λr hr=>by rw [h.nexts.2 r hr]; omega),wF (by rw [zNS (by rw [h.nexts.1]) (λr hr=>by rw [h.nexts.2 r hr])]; rfl) ?_⟩
 refine ⟨⟨aa.cl,ab.n_push⟩,_,rfl,_,_,_,3,rfl,Y8 (by rw [h.push.1]; omega) (λr hr=>by rw [h.push.2 r hr]; omega),wF (by rw [zNS (by rw [h.push.1]) (λr hr=>by rw [h.push.2 r hr])]; rfl) ?_⟩
 refine ⟨⟨aa.cl,ab.n_steer⟩,_,rfl,_,_,2,rfl,uB (by rw [h.steer]; omega),wF (by rw [UU (by rw [h.steer])]; rfl) ?_⟩
 refine ⟨⟨aa.cl,ab.n_add⟩,_,rfl,_,_,2,rfl,uB (by rw [h.add]; omega),wF (by rw [UU (by rw [h.add])]; rfl) ?_⟩
 refine ⟨⟨aa.cl,ab.n_divisor⟩,_,rfl,_,rfl,rfl,wT rfl ?_⟩
 exact ⟨⟨aa.cl,ab.n_divisor⟩,_,rfl,bR q (decide_eq_true h.div).symm⟩
theorem zIC {k:Nat} {f:Addr} {fd:FuncData} (F:zc K "is_sound" "is_sound" ku f fd) (B:Bl mg) (ai:Fn P w K mg base "is_whole" ["thing"] k (zI (jE))) (aR:Fn P w K mg base "is_push" ["value"] k (zI (zLa))) (aS:Fn P w K mg base "is_mode" ["value","many","wide"] k (zI (zLb af))):zH P w K mg base zW (k + 1) f fd ["many","pushes","modes"] (zI (zI6 af)):=by
 refine zm F zHt (λds R h=>by obtain ⟨n,bs,ms,rfl,_⟩:=h; rfl) λcdv A outer s H E hr=>⟨_,(zJ (yB (PW.pt (wW (yy (yY (zO ai hr rfl (zB (zA 0) zC)))) (wW (Wp (zA 0) zD) (vL (gr (zA 0) (Wg rfl B.MOST_NUMBERS_)))))) (zM (zS xP)) yA)
  (zJ (yB (PW.pt (wW (yy (yY (yG (xY vB rfl B.isinstance_ xy (zl (zA 1) (zl (wy (v:=.ty "list") (u:=.type "list") rfl B.list_ wA rfl) yI))) (vF jC)))) (vL (yy (yY (zj (wn rfl) wt rfl B.all_ wo (zB (yT (own:=["push"]) (caps:=[]) (yF (S:=zK ku) (N:=["many","pushes","modes"]) rfl (by decide +kernel) rfl ⟨_,rfl⟩ rfl (by decide +kernel) (by decide +kernel)) rfl rfl yU (yt (zA 1)) (λ_ _ _ _=>(zz 0 (show (["push"]:List Str).Nodup by decide +kernel) rfl (Or.inl rfl))) (λ_ _ _ _=>(zO aR hr rfl (zB (zA 0) zC)))) zC))))))) (zM (zS xP)) yA)
  (zJ (yB (PW.pt (wW (yy (yY (yG (xY vB rfl B.isinstance_ xy (zl (zA 2) (zl (wy (v:=.ty "list") (u:=.type "list") rfl B.list_ wA rfl) yI))) (vF jC)))) (vL (xk hr.units (zj yQ yS rfl B.len_ yR (zB (zA 2) zC)) zD)))) (zM (zS xP)) yA)
  (zM (zS (zj (wn rfl) wt rfl B.all_ wo (zB (yT (own:=["mode"]) (caps:=[(0,"many"),(1,"pushes")]) (yF (S:=zK ku) (N:=["many","pushes","modes"]) rfl (by decide +kernel) rfl ⟨_,rfl⟩ rfl (by decide +kernel) (by decide +kernel)) rfl rfl yU (yt (zA 2)) (λ_ _ _ _=>(zz 0 (show (["mode","many","pushes"]:List Str).Nodup by decide +kernel) rfl (Or.inl rfl))) (λ_ _ _ _=>(zO aS hr rfl (zB (zA 0) (zB (zA 1) (zB (zj yQ yS rfl B.len_ yR (zB (zA 2) zC)) zC)))))) zC))))))),λds R h=>?_⟩
 obtain ⟨n,bs,ms,rfl,h,q⟩:=h
 have n1:=h.n1
 have n3:=h.n3
 have m40:=h.m40
 have m1:=h.m1
 have b6:=h.b6
 refine ⟨_,rfl,rfl,wF rfl (wF (decide_eq_false (by omega)) (wF (decide_eq_false (by omega)) ?_))⟩
 refine ⟨rfl,wF rfl ?_⟩
 refine vd zw kr (λ_=>rfl) (λ_=>.bool true) (by omega) (λb hb=>⟨b,rfl,h.bok b hb,rfl⟩) ⟨bs.map λ_=>true,by rw [List.map_map]; rfl,?_⟩
 rw [show (bs.map λ_=>true).all id=true from List.all_eq_true.mpr λx hx=>by obtain ⟨_,_,rfl⟩:=List.mem_map.mp hx; rfl]
 refine wF rfl ?_
 refine ⟨rfl,wF rfl (wF (decide_eq_false (by rw [List.length_map]; omega)) ?_)⟩
 refine vd (wN af) xG (XB _) (λ_=>.bool true) (by omega) (λm hm=>⟨m,n,bs.length,by rw [List.length_map],h.mok m hm,rfl⟩) ⟨ms.map λ_=>true,by rw [List.map_map]; rfl,bR q ?_⟩
 exact (List.all_eq_true.mpr λx hx=>by obtain ⟨_,_,rfl⟩:=List.mem_map.mp hx; rfl).symm
theorem zEf {k:Nat} {f:Addr} {fd:FuncData} (F:zc K "__init__" "Thing.__init__" Ua f fd) (B:Bl mg) (aT:Fn P w K mg base "is_sound" ["many","pushes","modes"] k (zI (zI6 af))):zH P w K mg base zW (k + 1) f fd ["self","many","pushes","modes"] (vG ag (zLN ag af)):=by
 refine Yt F zEQ (λds R h=>by obtain ⟨n,bs,ms,rfl,_⟩:=h; rfl) λcdv A outer s H E hr=>⟨_,(zJ (yB (yy (yY (zO aT hr rfl (zB (zA 1) (zB (zA 2) (zB (zA 3) zC)))))) (zM UC) yA)
  (zJ (yB (PW.pt (wW (gr (zj yQ yS rfl B.len_ yR (zB (zA 2) zC)) (Wg rfl B.MOST_PUSHES_)) (vL (gr (zj yQ yS rfl B.len_ yR (zB (zA 3) zC)) (Wg rfl B.MOST_MODES_))))) (zM UC) yA)
  (zJ (zv (xb (yJ 0) (zA 1) rfl) xr)
  (zJ (zv (xb (yJ 0) (xB vk vn rfl B.list_ wA (zB (zA 2) zC)) rfl) xr)
  (zM (zv (xb (yJ 0) (xB vk vn rfl B.list_ wA (zB (zA 3) zC)) rfl) xr)))))),λo ds R h=>?_⟩
 obtain ⟨n,bs,ms,rfl,h,q⟩:=h
 have m40:=h.m40
 have b6:=h.b6
 refine ⟨n,bs,ms,rfl,h,wF rfl ?_⟩
 refine wF (decide_eq_false (by rw [List.length_map]; omega)) (wF (decide_eq_false (by rw [List.length_map]; omega)) ?_)
 refine ⟨⟨ac.cl,ae.n_many⟩,by decide +kernel,by decide,rfl,?_⟩
 refine ⟨⟨ac.cl,ae.n_kept_pushes⟩,by decide +kernel,by decide,rfl,?_⟩
 exact ⟨⟨ac.cl,ae.n_kept_modes⟩,by decide +kernel,by decide,rfl,rfl,q⟩
theorem zFW {k:Nat} {f:Addr} {fd:FuncData} (F:zc K "pushes" "Thing.pushes" Ub f fd) (B:Bl mg):zH P w K mg base zW (k + 1) f fd ["self"] (zI (UV ag af)):=by
 refine zm F zFF (λds R h=>by obtain ⟨n,bs,ms,rfl,_⟩:=h; rfl) λcdv A outer s H E hr=>⟨_,(zM (zS (xB vk vn rfl B.list_ wA (zB (zp K (zA 0) rfl) zC)))),λds R h=>?_⟩
 obtain ⟨n,bs,ms,rfl,q⟩:=h
 exact ⟨⟨ac.cl,ae.n_kept_pushes⟩,_,rfl,q⟩
theorem zFw {k:Nat} {f:Addr} {fd:FuncData} (F:zc K "modes" "Thing.modes" Uc f fd) (B:Bl mg):zH P w K mg base zW (k + 1) f fd ["self"] (zI (UW ag af)):=by
 refine zm F zFu (λds R h=>by obtain ⟨n,bs,ms,rfl,_⟩:=h; rfl) λcdv A outer s H E hr=>⟨_,(zM (zS (xB vk vn rfl B.list_ wA (zB (zp K (zA 0) rfl) zC)))),λds R h=>?_⟩
 obtain ⟨n,bs,ms,rfl,q⟩:=h
 exact ⟨⟨ac.cl,ae.n_kept_modes⟩,_,rfl,q⟩
theorem zFU {k:Nat} {f:Addr} {fd:FuncData} (F:zc K "is_unsteered" "is_unsteered" XC f fd) (B:Bl mg):zH P w K mg base zW (k + 1) f fd ["mode"] (zI (zF5 af)):=by
 refine zm F zFD (λds R h=>by obtain ⟨m,rfl,_⟩:=h; rfl) λcdv A outer s H E hr=>⟨_,(zM (zS (zj (wn rfl) wt rfl B.all_ wo (zB (yT (own:=["number"]) (caps:=[]) (yF (S:=zK XC) (N:=["mode"]) rfl (by decide +kernel) rfl ⟨0,rfl⟩ rfl (by decide +kernel) (by decide +kernel)) rfl rfl yU (yt (zp K (zA 0) rfl)) (λ_ _ _ _=>(zz 0 (show (["number"]:List Str).Nodup by decide +kernel) rfl (Or.inl rfl))) (λ_ _ _ _=>(uZ hr.units (zA 0) zD))) zC)))),λds R h=>?_⟩
 obtain ⟨m,rfl,h,q⟩:=h
 refine ⟨⟨aa.cl,ab.n_steer⟩,_,rfl,?_⟩
 refine zQd (λx=>decide (x=0)) (by omega) (λn hn=>rfl) ⟨_,rfl,bR q ?_⟩
 rw [vN]
theorem zEE {k:Nat} {f:Addr} {fd:FuncData} (F:zc K "is_closed" "Thing.is_closed" XD f fd) (B:Bl mg) (aU:Fn P w K mg base "is_unsteered" ["mode"] k (zI (zF5 af))):zH P w K mg base zW (k + 1) f fd ["self"] (zI (zLh ag af)):=by
 refine zm F zD5 (λds R h=>by obtain ⟨n,bs,ms,rfl,_⟩:=h; rfl) λcdv A outer s H E hr=>⟨_,(zM (zS (zj (wn rfl) wt rfl B.all_ wo (zB (yT (own:=["mode"]) (caps:=[]) (yF (S:=zK XD) (N:=["self"]) rfl (by decide +kernel) rfl ⟨0,rfl⟩ rfl (by decide +kernel) (by decide +kernel)) rfl rfl yU (yt (zp K (zA 0) rfl)) (λ_ _ _ _=>(zz 0 (show (["mode"]:List Str).Nodup by decide +kernel) rfl (Or.inl rfl))) (λ_ _ _ _=>(zO aU hr rfl (zB (zA 0) zC)))) zC)))),λds R h=>?_⟩
 obtain ⟨n,bs,ms,rfl,h,q⟩:=h
 refine ⟨⟨ac.cl,ae.n_kept_modes⟩,_,rfl,?_⟩
 have m40:=h.m40
 refine vd (wN af) xG (XB _) (λm=>.bool (m.steer.all λx=>decide (x=0))) (by omega) (λm hm=>⟨m,rfl,by have:=(h.mok m hm).steer; have:=h.n3; omega,rfl⟩) ⟨ms.map λm=>m.steer.all λx=>decide (x=0),by rw [List.map_map]; rfl,bR q ?_⟩
 rw [vN]
 rfl
theorem zGs {k:Nat} {f:Addr} {fd:FuncData} (F:zc K "ask_closed" "ask_closed" Ud f fd) (B:Bl mg) (aV:v4 P w K mg base ag "is_closed" ["self"] k (zI (zLh ag af))):zH P w K mg base zW (k + 1) f fd ["thing"] (zI (zF7 ag af)):=by
 refine zm F zGR (λds R h=>by obtain ⟨n,bs,ms,rfl,_⟩:=h; rfl) λcdv A outer s H E hr=>⟨_,(zM (yB (yy (yY (kZ aV ac hr (zA 0)))) (zM UC) yA)),λds R h=>?_⟩
 obtain ⟨n,bs,ms,rfl,h,c,q⟩:=h
 exact ⟨rfl,by decide +kernel,n,bs,ms,rfl,h,wF (by rw [c]; rfl) q⟩
end
def xQ (n p:Nat) (ws:List Int) (b:Int) (m:MD):List Int:=((List.range n).map (zf ws m.nexts)++(List.range p).map (zf ws m.push))++[m.div * b - yq ws m.add]
theorem kz:∀ (rows:List (List Int)) (nums:List Int) (j:Nat),vm rows nums j=zf nums rows j
 | [],nums,j=>by unfold vm zf; simp
 | r :: rows,[],j=>by unfold vm zf; simp
 | r :: rows,x :: nums,j=>by rw [zMg,KC,kz rows nums j,Int.mul_comm]
def vo:D->Bool
 | .int i=>decide (0<=i)
 | _=>false
def xL (c:Nat):D->Bool
 | .tup [x,.lst ys]=>vo x && (decide (ys.length=c) && ys.all vo)
 | _=>false
def ww (rows:List (List Int)) (tw:List Int) (n:Nat):D->Bool
 | .tup [.int o,.lst ys]=>xL rows.length (.tup [.int o,.lst ys]) && qL rows tw o (ys.map yZ) n
 | _=>false
def uP (a:D):Prop:=∀ o ys,a=.tup [.int o,.lst ys]->Bd 1000 o/\∀ y∈ys,Bd 1000 (yZ y)
structure vC (rows:List (List Int)) (n:Nat):Prop where
 row:∀ r∈rows,r.length=n + 1/\∀ x∈r,Bd 1000 x
 few:rows.length<=500
 nar:n<=100
theorem zF4:∀ {ys:List D},ys.all vo=true->∃ ns:List Int,ys=ns.map .int/\ys.map yZ=ns/\∀ x∈ns,0<=x
 | [],_=>⟨[],rfl,rfl,λ_ h=>by cases h⟩
 | a :: ys,h=>by
  rw [List.all_cons,Bool.and_eq_true] at h
  obtain ⟨ns,rfl,e,h0⟩:=zF4 h.2
  cases a with
  | int i=>exact ⟨i :: ns,rfl,by rw [List.map_cons,e]; rfl,λx hx=>(List.mem_cons.mp hx).elim (λz=>z ▸ of_decide_eq_true h.1) (h0 x)⟩
  | _=>cases h.1
theorem zIo {c:Nat} {a:D} (h:xL c a=true):∃ (o:Int) (ns:List Int),a=.tup [.int o,L ns]/\0<=o/\ns.length=c/\∀ x∈ns,0<=x:=by
 unfold xL at h
 split at h
 ·rename_i x ys
  rw [Bool.and_eq_true,Bool.and_eq_true,decide_eq_true_iff] at h
  obtain ⟨ns,rfl,_,h0⟩:=zF4 h.2.2
  cases x with
  | int o=>exact ⟨o,ns,rfl,of_decide_eq_true h.1,by have:=h.2.1; rw [List.length_map] at this; exact this,h0⟩
  | _=>cases h.1
 ·cases h
theorem zIn {rows:List (List Int)} {tw:List Int} {n:Nat} {a:D} (h:xL rows.length a=false):ww rows tw n a=false:=by
 unfold ww
 split
 ·rw [h]; rfl
 ·rfl
theorem zM4 (ns:List Int):(ns.map D.int).map yZ=ns:=by rw [List.map_map]; exact List.map_id _
theorem zHE {rows:List (List Int)} {tw ns:List Int} {n:Nat} {o:Int} (h:xL rows.length (.tup [.int o,L ns])=true):ww rows tw n (.tup [.int o,L ns])=qL rows tw o ns n:=by
 show (xL rows.length (.tup [.int o,.lst (ns.map .int)]) && qL rows tw o ((ns.map D.int).map yZ) n)=_
 rw [show xL rows.length (.tup [.int o,.lst (ns.map .int)])=true from h,zM4]
 rfl
def jv (c:Int):D->Bool
 | .lst as=>decide ((as.length:Int)=c)
 | _=>false
def qZ (rows tws:List (List Int)) (n:Nat):D->Bool
 | .lst as=>decide ((as.length:Int)=(tws.length:Int)) && (tws.zip as).all λp=>ww rows p.1 n p.2
 | _=>false
def yO (a:D):Prop:=∀ as,a=.lst as->∀ x∈as,uP x
theorem k6 {c:Int} {a:D} (h:jv c a=true):∃ as,a=.lst as/\(as.length:Int)=c:=by
 cases a with
 | lst as=>exact ⟨as,rfl,of_decide_eq_true h⟩
 | _=>cases h
theorem zNG {rows tws:List (List Int)} {n:Nat} {a:D} (h:jv (tws.length:Int) a=false):qZ rows tws n a=false:=by
 cases a with
 | lst as=>show (decide _ && _)=false; rw [show decide ((as.length:Int)=(tws.length:Int))=false from h]; rfl
 | _=>rfl
theorem xM {e:Nat}:Bd e (0:Int):=by
 show (0:Int).natAbs < 2 ^ e
 exact Nat.two_pow_pos e
theorem Ue {e:Nat} {r:List Int} (h:∀ x∈r,Bd e x) (j:Nat):Bd e (r.getD j 0):=by
 rw [List.getD_eq_getElem?_getD]
 cases hj:r[j]? with
 | none=>exact xM
 | some x=>exact h x (List.mem_of_getElem? hj)
theorem XE {a b:Nat}:∀ {ns os:List Int},(∀ x∈ns,Bd a x)->(∀ x∈os,Bd b x)->Bd (a + b + ns.length + 1) (yq ns os)
 | [],_,_,_=>by unfold yq; exact xM
 | _ :: _,[],_,_=>by unfold yq; exact xM
 | n :: ns,o :: os,hn,ho=>by
  have i:=XE (a:=a) (b:=b) (ns:=ns) (os:=os) (λq m=>hn q (List.mem_cons_of_mem _ m)) (λq m=>ho q (List.mem_cons_of_mem _ m))
  rw [List.length_cons]
  show Bd _ (n * o + yq ns os)
  exact (((hn n List.mem_cons_self).mul (ho o List.mem_cons_self)).mono (show a + b<=a + b + ns.length + 1 by omega) |>.add i).mono (by omega)
theorem Uf {a b j:Nat} {ns:List Int} {N:List (List Int)} (h:∀ x∈ns,Bd a x) (hN:∀ r∈N,∀ x∈r,Bd b x):Bd (a + b + ns.length + 1) (zf ns N j):=by
 rw [KD]
 refine XE h λx hx=>?_
 obtain ⟨r,hr,rfl⟩:=List.mem_map.mp hx
 exact Ue (hN r hr) j
structure MS (m:MD):Prop where
 nexts:∀ r∈m.nexts,∀ x∈r,Bd 300 x
 push:∀ r∈m.push,∀ x∈r,Bd 300 x
 add:∀ x∈m.add,Bd 300 x
 div:Bd 300 m.div
 rows:∀ r∈m.rows,∀ x∈r,Bd 300 x
 few:m.rows.length<=100
structure wD (room:List (List Int)) (n:Nat):Prop where
 row:∀ r∈room,r.length=n + 1/\∀ x∈r,Bd 300 x
 few:room.length<=100
theorem wD.rw {room:List (List Int)} {n:Nat} (h:wD room n) (n3:n<=3):vC room n:=⟨λr hr=>⟨(h.row r hr).1,λx hx=>((h.row r hr).2 x hx).mono⟩,by have:=h.few; omega,by omega⟩
theorem zLw {e n:Nat} {pl nu:Int} (h:Bd e nu):∀ x∈xO pl n nu,Bd e x:=λx hx=>by
 obtain ⟨i,_,rfl⟩:=List.mem_map.mp hx
 show Bd e (if (i:Int)=pl then nu else 0)
 split
 ·exact h
 ·exact xM
theorem zIj {n:Nat} {bs:List (Int × Int)} {rows:List (List Int)} (h:∀ r∈rows,r.length=n + 1/\∀ x∈r,Bd 1000 x) (few:rows.length<=400) (n3:n<=3) (b6:bs.length<=6) (bb:∀ b∈bs,Bd 300 b.1/\Bd 300 b.2):vC (u7 n bs rows) (n + bs.length):=by
 have b1:Bd 4 (1:Int):=Bd.lit
 refine ⟨λr hr=>?_,?_,by omega⟩
 ·rcases List.mem_append.mp hr with hr | hr
  ·obtain ⟨q,hq,rfl⟩:=List.mem_map.mp hr
   obtain ⟨lq,bq⟩:=h q hq
   refine ⟨by unfold wq; simp; omega,λx hx=>?_⟩
   unfold wq at hx
   rcases List.mem_append.mp hx with hx | hx
   ·rcases List.mem_append.mp hx with hx | hx
    ·exact bq x (List.mem_of_mem_take hx)
    ·rw [List.eq_of_mem_replicate hx]; exact xM
   ·rw [List.mem_singleton.mp hx]; exact Ue bq n
  ·obtain ⟨l,hl,hr⟩:=List.mem_flatten.mp hr
   obtain ⟨i,hi,rfl⟩:=List.mem_mapIdx.mp hl
   have hb:=bb _ (List.getElem_mem hi)
   have key:∀ (y c:Int),Bd 1000 y->Bd 1000 c->(xO ((n + i:Nat):Int) (n + bs.length) y++[c]).length=n + bs.length + 1/\∀ x∈xO ((n + i:Nat):Int) (n + bs.length) y++[c],Bd 1000 x:=λy c hy hc=>⟨by rw [List.length_append,uX]; rfl,λx hx=>by
    rcases List.mem_append.mp hx with hx | hx
    ·exact zLw hy x hx
    ·rw [List.mem_singleton.mp hx]; exact hc⟩
   rcases List.mem_cons.mp hr with rfl | hr
   ·exact key _ _ b1.mono (hb.2.mono)
   ·rw [List.mem_singleton.mp hr]
    exact key _ _ (b1.neg.mono) (hb.1.neg.mono)
 ·unfold u7
  rw [List.length_append,List.length_map]
  have:((bs.mapIdx (vX n bs.length)).flatten).length=2 * bs.length:=by
   rw [List.length_flatten]
   have e:(bs.mapIdx (vX n bs.length)).map List.length=List.replicate bs.length 2:=by
    refine List.ext_getElem (by simp) λi h1 h2=>?_
    simp [vX]
   rw [e]
   simp
   omega
  omega
theorem k7 (n p:Nat) (ws:List Int) (b:Int) (m:MD):(xQ n p ws b m).length=n + p + 1:=by unfold xQ; simp; omega
theorem Ug {n p:Nat} {ws:List Int} {b:Int} {m:MD} (h:MS m) (lw:ws.length<=3) (bw:∀ x∈ws,Bd 301 x) (bb:Bd 301 b):∀ x∈xQ n p ws b m,Bd 700 x:=λx hx=>by
 unfold xQ at hx
 rcases List.mem_append.mp hx with hx | hx
 ·rcases List.mem_append.mp hx with hx | hx <;> obtain ⟨j,_,rfl⟩:=List.mem_map.mp hx
  ·exact (Uf bw h.nexts).mono (by omega)
  ·exact (Uf bw h.push).mono (by omega)
 ·rw [List.mem_singleton.mp hx]
  exact (((h.div.mul bb).mono (show 300 + 301<=650 by decide)).sub ((XE bw h.add).mono (show 301 + 300 + ws.length + 1<=650 by omega))).mono
def XF (n p:Nat) (m:MD) (behind:List (List Int)):List (List Int):=behind.map λr=>xQ n p (r.take n) (r.getD n 0) m
def XG (n:Nat) (bs:List (Int × Int)) (room behind:List (List Int)) (m:MD) (a:D):Bool:=qZ (u7 n bs (room++m.rows)) (XF n bs.length m behind) (n + bs.length) a
def k8 (n:Nat) (bs:List (Int × Int)) (ms:List MD) (room behind:List (List Int)):D->Bool
 | .lst as=>decide ((as.length:Int)=(ms.length:Int)) && (ms.zip as).all λp=>XG n bs room behind p.1 p.2
 | _=>false
structure jF (n:Nat) (bs:List (Int × Int)) (ms:List MD):Prop where
 ok:wU n bs ms
 ms:∀ m∈ms,MS m
 bs:∀ b∈bs,Bd 300 b.1/\Bd 300 b.2
theorem zLA {n:Nat} {bs:List (Int × Int)} {ms:List MD} {room behind:List (List Int)} {a:D} (h:jv (ms.length:Int) a=false):k8 n bs ms room behind a=false:=by
 cases a with
 | lst as=>show (decide _ && _)=false; rw [show decide ((as.length:Int)=(ms.length:Int))=false from h]; rfl
 | _=>rfl
def ve (n p:Nat) (ws:List Int) (step:Int) (m:MD):List Int:=xK 1 (-m.div) ((xQ n p ws 0 m).take n) ws++(List.range p).map (zf ws m.push)++[(m.div * 0 - yq ws m.add) - m.div * step]
structure qc (n:Nat) (room:List (List Int)) (ws:List Int) (b st tp:Int):Prop where
 rm:wD room n
 lw:ws.length=n
 bw:∀ x∈ws,Bd 300 x
 bb:Bd 300 b
 st:Bd 300 st
 tp:Bd 300 tp
def XH (n:Nat) (room:List (List Int)) (ws:List Int) (b:Int) (goal:List (List Int)):D->Bool
 | .lst as=>decide ((as.length:Int)=(goal.length:Int)) && (goal.zip as).all λp=>ww (room++[yM p.1]) (ws.map (λx=>-x)++[b]) n p.2
 | _=>false
theorem zJw {n:Nat} {room goal:List (List Int)} {ws:List Int} {b:Int} {a:D} (h:jv (goal.length:Int) a=false):XH n room ws b goal a=false:=by
 cases a with
 | lst as=>show (decide _ && _)=false; rw [show decide ((as.length:Int)=(goal.length:Int))=false from h]; rfl
 | _=>rfl
theorem zK4 {n e:Nat} {r:List Int} (h:r.length=n + 1/\∀ x∈r,Bd e x):(yM r).length=n + 1/\∀ x∈yM r,Bd e x:=⟨by unfold yM; rw [List.length_map]; exact h.1,λx hx=>by
 obtain ⟨y,hy,rfl⟩:=List.mem_map.mp hx
 exact (h.2 y hy).neg⟩
def k9 (n:Nat) (bs:List (Int × Int)) (room:List (List Int)) (ws:List Int) (st:Int) (goal:List (List Int)) (m:MD):D->Bool
 | .lst as=>decide ((as.length:Int)=(goal.length:Int)) && (goal.zip as).all λp=>ww (u7 n bs (room++m.rows++[yM p.1])) (ve n bs.length ws st m) (n + bs.length) p.2
 | _=>false
theorem zJo {n:Nat} {bs:List (Int × Int)} {room goal:List (List Int)} {ws:List Int} {st:Int} {m:MD} {a:D} (h:jv (goal.length:Int) a=false):k9 n bs room ws st goal m a=false:=by
 cases a with
 | lst as=>show (decide _ && _)=false; rw [show decide ((as.length:Int)=(goal.length:Int))=false from h]; rfl
 | _=>rfl
theorem zOe {n p:Nat} {ws:List Int} {st:Int} {m:MD} (h:MS m) (lw:ws.length=n) (n3:n<=3) (bw:∀ x∈ws,Bd 300 x) (bs:Bd 300 st):(ve n p ws st m).length=n + p + 1/\∀ x∈ve n p ws st m,Bd 1000 x:=by
 have b1:Bd 4 (1:Int):=Bd.lit
 have rl:=k7 n p ws 0 m
 have rb:=Ug (n:=n) (p:=p) (b:=0) h (by omega) (λx hx=>(bw x hx).mono (show 300<=301 by decide)) xM
 refine ⟨?_,λx hx=>?_⟩
 ·unfold ve xK
  rw [List.length_append,List.length_append,List.length_map,List.length_map,List.length_zip,List.length_take,List.length_range,rl,lw]
  show min (min n (n + p + 1)) n + p + 1=_
  omega
 ·unfold ve at hx
  rcases List.mem_append.mp hx with hx | hx
  ·rcases List.mem_append.mp hx with hx | hx
   ·obtain ⟨q,hq,rfl⟩:=List.mem_map.mp hx
    have q1:=List.of_mem_zip hq
    exact (((b1.mul (rb q.1 (List.mem_of_mem_take q1.1))).mono (show 4 + 700<=800 by decide)).add ((h.div.neg.mul (bw q.2 q1.2)).mono (show 300 + 300<=800 by decide))).mono
   ·obtain ⟨j,_,rfl⟩:=List.mem_map.mp hx
    exact (Uf bw h.push).mono (by omega)
  ·rw [List.mem_singleton.mp hx]
   refine Bd.mono (Bd.sub (n:=900) (Bd.mono (Bd.sub (n:=800) (Bd.mono (h.div.mul (xM (e:=300))) (by decide)) (Bd.mono (XE bw h.add) (by omega))) (by decide)) (Bd.mono (h.div.mul bs) (by decide))) (by decide)
def ZA (n:Nat) (bs:List (Int × Int)) (ms:List MD) (room:List (List Int)) (ws:List Int) (st:Int) (goal:List (List Int)):D->Bool
 | .lst as=>decide ((as.length:Int)=(ms.length:Int)) && (ms.zip as).all λp=>k9 n bs room ws st goal p.1 p.2
 | _=>false
theorem zLM {n:Nat} {bs:List (Int × Int)} {ms:List MD} {room goal:List (List Int)} {ws:List Int} {st:Int} {a:D} (h:jv (ms.length:Int) a=false):ZA n bs ms room ws st goal a=false:=by
 cases a with
 | lst as=>show (decide _ && _)=false; rw [show decide ((as.length:Int)=(ms.length:Int))=false from h]; rfl
 | _=>rfl
def y6 (a:D):Prop:=∀ as,a=.lst as->∀ x∈as,yO x
def uC (n:Nat) (bs:List (Int × Int)) (ms:List MD) (xc goal:List (List Int)) (tu:Int) (room:List (List Int)) (ws:List Int) (b st tp:Int) (A1 A2 A6 A7 A8:D):Bool:=
 if st < 1\/tu * st<=tp then false else qZ xc room n A1 && (k8 n bs ms room room A2 && (ww xc (ws++[tp - b]) n A8 && (XH n room ws b goal A7 && ZA n bs ms room ws st goal A6)))
theorem uD {r:List Int} {n:Nat} (h:r.length=n + 1):zV (r.map D.int) none (some (-1))=(r.take n).map D.int:=by
 have e1:HT.sIx (r.map D.int).length 0 none=0:=HT.sIx_none _ _
 have e2:HT.sIx (r.map D.int).length (r.map D.int).length (some (-1))=n:=by
  rw [List.length_map,h]
  show (if (-1:Int) < 0 then ((-1:Int) + ((n + 1:Nat):Int)).toNat else min (-1:Int).toNat (n + 1))=n
  rw [if_pos (by decide)]
  omega
 unfold zV
 rw [e1,e2,List.drop_zero,Nat.sub_zero,List.map_take]
theorem vp (ws:List Int) (b:Int):zV ((ws++[b]).map D.int) none (some (-1))=ws.map D.int:=by
 rw [uD (n:=ws.length) (by rw [List.length_append]; rfl),List.take_append_of_le_length (Nat.le_refl _),List.take_of_length_le (Nat.le_refl _)]
theorem jw {r:List Int} {n:Nat} (h:r.length=n + 1):yp (r.map D.int) (-1)=some (.int (r.getD n 0)):=by
 rw [jj]
 unfold yp wl
 rw [if_neg (by decide),if_pos (by omega)]
 show Option.map D.int r[((-1:Int) + (r.length:Int)).toNat]? = _
 rw [show ((-1:Int) + (r.length:Int)).toNat=n by omega,List.getElem?_eq_getElem (by omega),List.getD_eq_getElem?_getD,List.getElem?_eq_getElem (by omega)]
 rfl
theorem jx (ws:List Int) (b:Int):yp ((ws++[b]).map D.int) (-1)=some (.int b):=by
 rw [jw (n:=ws.length) (by rw [List.length_append]; rfl),List.getD_eq_getElem?_getD,List.getElem?_append_right (Nat.le_refl _),Nat.sub_self]
 rfl
theorem XI (a b:List (List Int)):D.lst (a.map U++b.map U)=Rm (a++b):=by rw [Rm,List.map_append]
theorem ZB {α:Type} (u:α->D):∀ (xs:List α) (ys:List D),List.zipWith xJ (xs.map u) ys=(xs.zip ys).map λq=>xJ (u q.1) q.2
 | [],_=>rfl
 | _ :: _,[]=>rfl
 | _ :: xs,_ :: ys=>by rw [List.map_cons,List.zipWith_cons_cons,ZB u xs ys]; rfl
theorem ZC {α:Type} {xs:List α} {ys:List D} {G:D->(D->Prop)->Prop} {R:D->Prop} (u:α->D) (v:D->α) (hv:∀ x,v (u x)=x) (g:α->D->Bool) (few:xs.length<=1000) (h:∀ x y,(x,y)∈xs.zip ys->G (xJ (u x) y) λe=>e=.bool (g x y)) (q:R (.lst (((xs.zip ys).map λp=>g p.1 p.2).map D.bool))):zk (List.zipWith xJ (xs.map u) ys) G R:=by
 rw [ZB]
 refine vd (λp:α × D=>xJ (u p.1) p.2) (λd=>match d with | .tup [a,b]=>(v a,b) | _=>(v .non,.non)) (λp=>?_) (λp=>.bool (g p.1 p.2)) (by rw [List.length_zip]; omega) (λp hp=>h p.1 p.2 hp) (by rw [List.map_map] at q; exact q)
 show (v (u p.1),p.2)=p
 rw [hv]
theorem zJ6 {d:D} (h:ud d=true):∃ i,d=.int i:=by
 cases d with
 | int i=>exact ⟨i,rfl⟩
 | bool b=>cases h
 | _=>cases h
theorem Fw.mono0 {j:Nat} {a:D} (h:Fw j a):∀ {k:Nat},j<=k->Fw k a:=by
 induction h with
 | lst l _ ih=>
  intro k hk
  obtain ⟨m,rfl⟩:∃ m,k=m + 1:=⟨k - 1,by omega⟩
  exact .lst l λa ha=>ih a ha (by omega)
 | tup l _ ih=>
  intro k hk
  obtain ⟨m,rfl⟩:∃ m,k=m + 1:=⟨k - 1,by omega⟩
  exact .tup l λa ha=>ih a ha (by omega)
 | int i=>intro k hk; obtain ⟨m,rfl⟩:∃ m,k=m + 1:=⟨k - 1,by omega⟩; exact .int i
 | bool i=>intro k hk; obtain ⟨m,rfl⟩:∃ m,k=m + 1:=⟨k - 1,by omega⟩; exact .bool i
 | non=>intro k hk; obtain ⟨m,rfl⟩:∃ m,k=m + 1:=⟨k - 1,by omega⟩; exact .non
 | str i=>intro k hk; obtain ⟨m,rfl⟩:∃ m,k=m + 1:=⟨k - 1,by omega⟩; exact .str i
structure MBd (m:MD):Prop where
 nexts:∀ r∈m.nexts,∀ x∈r,Bd 9000 x
 push:∀ r∈m.push,∀ x∈r,Bd 9000 x
 add:∀ x∈m.add,Bd 9000 x
 div:Bd 9000 m.div
theorem Fw.mono {j k:Nat} {a:D} (h:Fw j a) (l:j<=k:=by decide):Fw k a:=h.mono0 l
theorem MS.mbd {m:MD} (h:MS m):MBd m:=⟨λr hr x hx=>(h.nexts r hr x hx).mono,λr hr x hx=>(h.push r hr x hx).mono,λx hx=>(h.add x hx).mono,h.div.mono⟩
theorem zk.cast {ds ds':List D} {G:D->(D->Prop)->Prop} {R:D->Prop} (e:ds=ds') (h:zk ds' G R):zk ds G R:=by rw [e]; exact h
theorem uE (ns:List Int):(L ns).pl 50=true:=qR 48 ns
theorem RmM {α:Type} (f:α->List Int) (xs:List α):D.lst (xs.map λr=>U (f r))=Rm (xs.map f):=by unfold Rm; rw [List.map_map]; rfl
theorem jG {b:Bool} (h:(!b)=true):b=false:=by cases b <;> first | rfl | cases h
theorem ug {b:Bool} (h:(!b)=false):b=true:=by cases b <;> first | rfl | cases h
def Uh (C CM:Addr):FL:=λds R=>∃ n bs ms rows,ds=[wv C CM n bs ms,Rm rows]/\n<=3/\bs.length<=6/\(∀ r∈rows,r.length=n + 1)/\rows.length<=900/\R (Rm (u7 n bs rows))
def Ui (C CM:Addr):FL:=λds R=>∃ n bs ms m r,ds=[wv C CM n bs ms,wN CM m,U r]/\n<=3/\bs.length<=6/\yj m n bs.length/\MBd m/\r.length=n + 1/\(∀ x∈r,Bd 9000 x)/\R (U (xQ n bs.length (r.take n) (r.getD n 0) m))
def zNu:FL:=λds R=>∃ rows d ns n,ds=[Rm rows,d,.int ((n:Nat):Int)]/\IS d ns/\n<=800/\ns.length<=900/\(∀ x∈ns,Bd 9000 x)/\(∀ r∈rows,n + 1<=r.length/\∀ x∈r,Bd 9000 x)/\R (U ((List.range (n + 1)).map (zf ns rows)))
def Uj:FL:=λds R=>∃ d,ds=[d]/\d.isObj=false/\R (.bool (vo d))
def zLP:FL:=λds R=>∃ d c k,ds=[d,.int ((c:Nat):Int)]/\Fw k d/\R (.bool (xL c d))
def ZD:FL:=λds R=>∃ rows tw n d k,ds=[Rm rows,U tw,d]/\tw.length=n + 1/\(∀ x∈tw,Bd 1000 x)/\vC rows n/\Fw k d/\uP d/\R (.bool (ww rows tw n d))
def qd:FL:=λds R=>∃ d c k,ds=[d,.int c]/\Fw k d/\R (.bool (jv c d))
def Uk:FL:=λds R=>∃ rows tws n d k,ds=[Rm rows,Rm tws,d]/\vC rows n/\vC tws n/\Fw k d/\yO d/\R (.bool (qZ rows tws n d))
def zLY (C CM:Addr):FL:=λds R=>∃ n bs ms m room behind d k,ds=[wv C CM n bs ms,wN CM m,Rm room,Rm behind,d]/\jF n bs ms/\yj m n bs.length/\MS m/\wD room n/\wD behind n/\Fw k d/\yO d/\R (.bool (XG n bs room behind m d))
def zNq (C CM:Addr):FL:=λds R=>∃ n bs ms room behind d k,ds=[wv C CM n bs ms,Rm room,Rm behind,d]/\jF n bs ms/\wD room n/\wD behind n/\Fw k d/\y6 d/\R (.bool (k8 n bs ms room behind d))
abbrev zQe:List Str:=["start","goal","turns"]
abbrev Ul:List Str:=["room","starts","steps","measure","step","top","falls","floors","tops"]
abbrev qf (C:Addr) (s g:List (List Int)) (t:Int):D:=.obj C zQe [Rm s,Rm g,.int t]
abbrev ZE (C:Addr) (room:List (List Int)) (A1 A2:D) (ws:List Int) (b st tp:Int) (A6 A7 A8:D):D:=.obj C Ul [Rm room,A1,A2,U (ws++[b]),.int st,.int tp,A6,A7,A8]
def zLg (C:Addr):FL:=λds R=>∃ s g t,ds=[s,g,t]/\Fw 5 s/\Fw 5 g/\R (.obj C zQe [s,g,t])
def zLe (C:Addr):FL:=λds R=>∃ a b c d e f g h i,ds=[a,b,c,d,e,f,g,h,i]/\Fw 5 a/\Fw 5 b/\Fw 5 c/\Fw 5 d/\Fw 5 g/\Fw 5 h/\Fw 5 i/\R (.obj C Ul [a,b,c,d,e,f,g,h,i])
def zF6 (C:Addr):FL:=λds R=>∃ s g t n,ds=[qf C s g t,.int ((n:Nat):Int)]/\n<=3/\wD s n/\wD g n/\0<=t/\R (.bool true)
def ZF:FL:=λds R=>∃ ws b tp,ds=[U (ws++[b]),.int tp]/\ws.length<=100/\R (U (ws++[tp - b]))
def zNs:FL:=λds R=>∃ ws b,ds=[U (ws++[b])]/\ws.length<=100/\R (U (ws.map (λx=>-x)++[b]))
def zI8 (C CM:Addr):FL:=λds R=>∃ n bs ms m ws b st,ds=[wv C CM n bs ms,wN CM m,U (ws++[b]),.int st]/\jF n bs ms/\yj m n bs.length/\MS m/\ws.length=n/\(∀ x∈ws,Bd 300 x)/\Bd 300 st/\R (U (ve n bs.length ws st m))
def zLd (CC CF:Addr):FL:=λds R=>∃ s g t room A1 A2 ws b st tp A6 A7 A8 n k,ds=[qf CC s g t,ZE CF room A1 A2 ws b st tp A6 A7 A8]/\qc n room ws b st tp/\wD g n/\n<=3/\Fw k A7/\yO A7/\R (.bool (XH n room ws b g A7))
def zLZ (C CM CC CF:Addr):FL:=λds R=>∃ n bs ms m s g t room A1 A2 ws b st tp A6 A7 A8 d k,ds=[wv C CM n bs ms,wN CM m,qf CC s g t,ZE CF room A1 A2 ws b st tp A6 A7 A8,d]/\jF n bs ms/\yj m n bs.length/\MS m/\qc n room ws b st tp/\wD g n/\Fw k d/\yO d/\R (.bool (k9 n bs room ws st g m d))
def zLf (C CM CC CF:Addr):FL:=λds R=>∃ n bs ms s g t room A1 A2 ws b st tp A6 A7 A8 k,ds=[wv C CM n bs ms,qf CC s g t,ZE CF room A1 A2 ws b st tp A6 A7 A8]/\jF n bs ms/\qc n room ws b st tp/\wD g n/\Fw k A6/\y6 A6/\R (.bool (ZA n bs ms room ws st g A6))
def zQS (C CM CC CF:Addr):FL:=λds R=>∃ n bs ms s g t room A1 A2 ws b st tp A6 A7 A8 k,ds=[wv C CM n bs ms,qf CC s g t,ZE CF room A1 A2 ws b st tp A6 A7 A8]/\jF n bs ms/\qc n room ws b st tp/\wD g n/\wD s n/\0<=t/\Bd 300 t/\Fw k A1/\Fw k A2/\Fw k A6/\Fw k A7/\Fw k A8/\yO A1/\y6 A2/\y6 A6/\yO A7/\uP A8/\R (.bool (uC n bs ms s g t room ws b st tp A1 A2 A6 A7 A8))
def zNp (C CM CC CF:Addr):FL:=λds R=>∃ n bs ms s g t room A1 A2 ws b st tp A6 A7 A8 k,ds=[wv C CM n bs ms,qf CC s g t,ZE CF room A1 A2 ws b st tp A6 A7 A8]/\jF n bs ms/\qc n room ws b st tp/\wD g n/\wD s n/\0<=t/\Bd 300 t/\Fw k A1/\Fw k A2/\Fw k A6/\Fw k A7/\Fw k A8/\yO A1/\y6 A2/\y6 A6/\yO A7/\uP A8/\XA ms=true/\R (.bool (uC n bs ms s g t room ws b st tp A1 A2 A6 A7 A8))
def fNo:FL:=λ_ _=>False
theorem zN1 {α:Type} {l:List (List α)} {k:Nat} {x:List α} (h:l[k]? = some x):(l.take (k + 1)).flatten=(l.take k).flatten++x:=by
 rw [gU h,List.flatten_append,List.flatten_singleton]
section
variable {P:Program} {w:World} {K:PySem.W.Frag} {mg:Str->Option Value} {base:Heap}
abbrev ZG:Stmt:=zi 27
theorem jy:za ["thing","rows","pushes","wide","noughts","told","place","push"] ["thing","rows"] (zK ZG):=.a
abbrev Um:Stmt:=zi 28
theorem Uo:za ["thing","mode","row","numbers","ahead"] ["thing","mode","row"] (zK Um):=.a
abbrev Up:Stmt:=zi 30
theorem zMV:za ["rows","numbers","many"] ["rows","numbers","many"] (zK Up):=.a
abbrev Uq:Stmt:=zi 31
theorem zFE:za ["value"] ["value"] (zK Uq):=.a
abbrev XJ:Stmt:=zi 32
theorem zGS:za ["value","count"] ["value","count"] (zK XJ):=.a
abbrev XM:Stmt:=zi 33
theorem Ur:za ["rows","target","shares","total","wanted"] ["rows","target","shares"] (zK XM):=.a
abbrev Ut:Stmt:=zi 50
theorem zGO:za ["value","count"] ["value","count"] (zK Ut):=.a
abbrev XN:Stmt:=zi 51
theorem zGP:za ["rows","targets","shares"] ["rows","targets","shares"] (zK XN):=.a
abbrev XO:Stmt:=zi 58
theorem zGM:za ["thing","mode","room","behind","shares"] ["thing","mode","room","behind","shares"] (zK XO):=.a
abbrev XQ:Stmt:=zi 57
theorem zIq:za ["thing","room","behind","steps","modes"] ["thing","room","behind","steps"] (zK XQ):=.a
variable {aClaim aSettles aComes af ag aPaper aRooms aFalls:Addr} (TClaim:zE K mg "Claim" aClaim) (AClaim:wY K aClaim) (TSettles:zE K mg "Settles" aSettles) (ASettles:wZ K aSettles) (TComes:zE K mg "Comes" aComes) (AComes:wa K aComes) (aa:zE K mg "Mode" af) (ab:wb K af) (ac:zE K mg "Thing" ag) (ae:wc K ag) (TPaper:zE K mg "Paper" aPaper) (APaper:wd K aPaper) (TRooms:zE K mg "Rooms" aRooms) (ARooms:we K aRooms) (TFalls:zE K mg "Falls" aFalls) (AFalls:wf K aFalls) (Y:yd K aComes aSettles)
include TClaim AClaim TSettles ASettles TComes AComes aa ab ac ae TPaper APaper TRooms ARooms TFalls AFalls Y
theorem zH3 {k:Nat} {f:Addr} {fd:FuncData} (F:zc K "standing" "standing" ZG f fd) (B:Bl mg) (aE:v4 P w K mg base ag "pushes" ["self"] k (zI (UV ag af))) (aN:Fn P w K mg base "single" ["place","many","number","bound"] k (zI (K9))):zH P w K mg base zW (k + 1) f fd ["thing","rows"] (zI (Uh ag af)):=by
 refine zm F jy (λds R h=>by obtain ⟨n,bs,ms,rows,rfl,_⟩:=h; rfl) λcdv A outer s H E hr=>⟨_,(zJ (zg 2 jy.nd rfl (Or.inl rfl) (kZ aE ac hr (zA 0)))
  (zJ (zg 3 jy.nd rfl (Or.inl rfl) (zU (zp K (zA 0) rfl) (zj yQ yS rfl B.len_ yR (zB (zA 2) zC))))
  (zJ (zg 4 jy.nd rfl (Or.inr rfl) (xB vA vE rfl B.tuple_ xz (zB (yT (own:=["push"]) (caps:=[]) (yF (S:=zK ZG) (N:=["thing","rows","pushes","wide","noughts","told","place","push"]) rfl (by decide +kernel) rfl ⟨_,rfl⟩ rfl (by decide +kernel) (by decide +kernel)) rfl rfl yU (yt (zA 2)) (λ_ _ _ _=>(zz 0 (show (["push"]:List Str).Nodup by decide +kernel) rfl (Or.inl rfl))) (λ_ _ _ _=>zD)) zC)))
  (zJ (jB 5 true jy.nd rfl rfl (own:=["row"]) (caps:=[(4,"noughts")]) (yF (S:=zK ZG) (N:=["thing","rows","pushes","wide","noughts","told","place","push"]) rfl (by decide +kernel) rfl ⟨_,rfl⟩ rfl (by decide +kernel) (by decide +kernel)) rfl rfl yU (yt (zA 1)) (λ_ _ _ _=>(zz 0 (show (["row","noughts"]:List Str).Nodup by decide +kernel) rfl (Or.inl rfl))) (λ_ _ _ _=>(zU (zU (yk (zA 0) yn (ya (yi zD))) (zA 1)) (xA (zB (zP (zA 0) (yi zD) (λ_ _=>rfl)) zC)))) rfl)
  (zJ (wu PassesOwn.never rfl (zKX rfl B.enumerate_ (zB (zA 2) zC) (zp K (zA 0) rfl)) (xI rfl (zY 6 jy.nd rfl (Or.inl rfl) (zY 7 jy.nd rfl (Or.inl rfl) xH))) (zJ (zv (xX (xg PySem.F.plainAttrs_list PySem.F.slot_list_append PySem.F.type_list_append yL (yJ 5) (zl (zO aN hr rfl (zB (zA 6) (zB (zA 3) (zB zD (zB (zP (zA 7) zD (λ_ _=>rfl)) zC))))) yI))) xq)
   (zM (zv (xX (xg PySem.F.plainAttrs_list PySem.F.slot_list_append PySem.F.type_list_append yL (yJ 5) (zl (zO aN hr rfl (zB (zA 6) (zB (zA 3) (zB (yi zD) (zB (yi (zP (zA 7) zD (λ_ _=>rfl))) zC))))) yI))) xq))))
  (zM (wC 5 (zS (zA 5))))))))),λds R h=>?_⟩
 obtain ⟨n,bs,ms,rows,rfl,n3,b6,hr0,l9,q⟩:=h
 have hp:(List.map zw bs).length=bs.length:=List.length_map ..
 refine ⟨rfl,by decide +kernel,n,bs,ms,rfl,?_⟩
 refine ⟨⟨ac.cl,ae.n_many⟩,_,rfl,?_⟩
 refine vd zw kr (λ_=>rfl) (λ_=>.int 0) (by omega) (λb hb=>rfl) ?_
 refine vd U zr uf (λr=>U (wq n bs.length r)) (by omega) (λr hr=>?_) ?_
 ·have lr:=hr0 r hr
  refine ⟨by rw [uD lr,List.length_map,List.length_map,List.length_take]; omega,_,jw lr,k0,by rw [uD lr,List.length_append,List.length_map,List.length_map,List.length_take]; show _ + 1<=1000; omega,?_⟩
  rw [uD lr]
  unfold wq U
  rw [List.map_append,List.map_append,List.map_replicate,List.map_const']
  rfl
 refine ⟨⟨ac.cl,ae.n_many⟩,_,rfl,by omega,by omega,?_⟩
 rw [show ((n:Nat):Int).toNat=n by omega]
 refine ⟨λk Γ=>∃ s6 s7,Γ=[.sh (wv ag af n bs ms),.sh (Rm rows),.sh (.lst (bs.map zw)),.sh (.int ((n:Int) + ((bs.map zw).length:Int))),.sh (.tup (bs.map λ_=>.int 0)),.ow ((rows.map (wq n bs.length)++((bs.mapIdx (vX n bs.length)).take k).flatten).map U),s6,s7],⟨_,_,by rw [List.take_zero,List.flatten_nil,List.append_nil,List.map_map]; rfl⟩,?_,?_⟩
 ·rintro k d Γ' hk ⟨s6,s7,rfl⟩
  obtain ⟨d',hd',rfl⟩:=UM hk
  rw [List.getElem?_map] at hd'
  cases hb:bs[k]? with
  | none=>rw [hb] at hd'; cases hd'
  | some b=>
  rw [hb] at hd'
  cases hd'
  have kl:k < bs.length:=(List.getElem?_eq_some_iff.mp hb).1
  have hx:(bs.mapIdx (vX n bs.length))[k]? = some (vX n bs.length k b):=by rw [List.getElem?_mapIdx,hb]; rfl
  have ll:((bs.mapIdx (vX n bs.length)).take k).flatten.length=2 * k:=by
   rw [List.length_flatten]
   have e:((bs.mapIdx (vX n bs.length)).take k).map List.length=List.replicate k 2:=by
    refine List.ext_getElem (by simp; omega) λi h1 h2=>?_
    simp [vX]
   rw [e]
   simp
   omega
  have lw:((rows.map (wq n bs.length)++((bs.mapIdx (vX n bs.length)).take k).flatten).map U).length=rows.length + 2 * k:=by rw [List.length_map,List.length_append,List.length_map,ll]
  have e:((rows.map (wq n bs.length)++((bs.mapIdx (vX n bs.length)).take (k + 1)).flatten).map U)=((rows.map (wq n bs.length)++((bs.mapIdx (vX n bs.length)).take k).flatten).map U)++[U (xO ((n + k:Nat):Int) ((n:Int) + ((bs.map zw).length:Int)).toNat 1++[b.2])]++[U (xO ((n + k:Nat):Int) ((n:Int) + ((bs.map zw).length:Int)).toNat (-1)++[-b.1])]:=by
   rw [zN1 hx,<- List.append_assoc,List.map_append,hp,show ((n:Int) + (bs.length:Int)).toNat=n + bs.length by omega,List.append_assoc]
   rfl
  refine ⟨_,rfl,_,_,_,_,rfl,by omega,by omega,by omega,?_⟩
  refine ⟨_,rfl,_,_,_,_,rfl,by omega,by omega,by rw [List.length_append]; show _ + 1 < 1000; omega,?_⟩
  refine ⟨.sh (.int ((n + k:Nat):Int)),.sh (zw b),?_⟩
  rw [e]
  rfl
 ·rintro Γ' ⟨s6,s7,rfl⟩
  rw [UL,hp,List.take_of_length_le (by rw [List.length_mapIdx]; omega)]
  exact q
theorem zMs {k:Nat} {f:Addr} {fd:FuncData} (F:zc K "reach" "reach" Um f fd) (B:Bl mg) (ax:Fn P w K mg base "added_up" ["numbers","lists","wide"] k (zI (UQ))) (aE:v4 P w K mg base ag "pushes" ["self"] k (zI (UV ag af))) (aW:Fn P w K mg base "paired" ["numbers","others"] k (zI (K3))):zH P w K mg base zW (k + 1) f fd ["thing","mode","row"] (zI (Ui ag af)):=by
 refine zm F Uo (λds R h=>by obtain ⟨n,bs,ms,m,r,rfl,_⟩:=h; rfl) λcdv A outer s H E hr=>⟨_,(zJ (zg 3 Uo.nd rfl (Or.inl rfl) (yk (zA 2) yn (ya (yi zD))))
  (zJ (zg 4 Uo.nd rfl (Or.inl rfl) (zU (zO ax hr rfl (zB (zA 3) (zB (zp K (zA 1) rfl) (zB (zp K (zA 0) rfl) zC)))) (zO ax hr rfl (zB (zA 3) (zB (zp K (zA 1) rfl) (zB (zj yQ yS rfl B.len_ yR (zB (kZ aE ac hr (zA 0)) zC)) zC))))))
  (zM (zS (zU (xB vA vE rfl B.tuple_ xz (zB (zA 4) zC)) (xA (zB (xj (zx (zp K (zA 1) rfl) (zP (zA 2) (yi zD) (λ_ _=>rfl))) (zO aW hr rfl (zB (zA 3) (zB (zp K (zA 1) rfl) zC)))) zC))))))),λds R h=>?_⟩
 obtain ⟨n,bs,ms,m,r,rfl,n3,b6,MO,MB,lr,br,q⟩:=h
 have lt:(r.take n).length=n:=by rw [List.length_take]; omega
 have bt:∀ x∈r.take n,Bd 9000 x:=λx hx=>br x (List.mem_of_mem_take hx)
 have hp:(List.map zw bs).length=bs.length:=List.length_map ..
 refine ⟨⟨aa.cl,ab.n_nexts⟩,_,rfl,⟨ac.cl,ae.n_many⟩,_,rfl,_,_,r.take n,m.nexts,n,rfl,.inr (by rw [uD lr]),.inl rfl,by omega,by omega,bt,λx hx=>⟨by rw [MO.nexts.2 x hx]; omega,MB.nexts x hx⟩,?_⟩
 refine ⟨⟨aa.cl,ab.n_push⟩,_,rfl,rfl,by decide +kernel,n,bs,ms,rfl,_,_,r.take n,m.push,bs.length,by rw [hp],.inr (by rw [uD lr]),.inl rfl,by omega,by omega,bt,λx hx=>⟨by rw [MO.push.2 x hx]; omega,MB.push x hx⟩,?_⟩
 refine ⟨by rw [List.length_map,List.length_map,List.length_map,List.length_map,List.length_range,List.length_range]; omega,?_⟩
 refine ⟨⟨aa.cl,ab.n_divisor⟩,_,rfl,_,jw lr,MB.div.mono,(jt br n).mono,⟨aa.cl,ab.n_add⟩,_,rfl,_,_,r.take n,m.add,rfl,.inr (by rw [uD lr]),.inl rfl,by omega,bt,MB.add,k0,?_,?_⟩
 ·rw [List.length_append,List.length_map,List.length_map,List.length_map,List.length_map,List.length_range,List.length_range]
  show _ + 1<=1000
  omega
 ·unfold xQ U at q
  rw [List.map_append,List.map_append] at q
  exact q
theorem zMy {k:Nat} {f:Addr} {fd:FuncData} (F:zc K "added" "added" Up f fd) (B:Bl mg) (ax:Fn P w K mg base "added_up" ["numbers","lists","wide"] k (zI (UQ))):zH P w K mg base zW (k + 1) f fd ["rows","numbers","many"] (zI (zNu)):=by
 refine zm F zMV (λds R h=>by obtain ⟨rows,d,ns,n,rfl,_⟩:=h; rfl) λcdv A outer s H E hr=>⟨_,(zM (zS (xB vA vE rfl B.tuple_ xz (zB (zO ax hr rfl (zB (zA 1) (zB (zA 0) (zB (zU (zA 2) zD) zC)))) zC)))),λds R h=>?_⟩
 obtain ⟨rows,d,ns,n,rfl,h,n8,l9,bn,br,q⟩:=h
 exact ⟨_,_,ns,rows,n + 1,rfl,h,.inr rfl,by omega,l9,bn,br,q⟩
theorem zFV {k:Nat} {f:Addr} {fd:FuncData} (F:zc K "is_from_0_on" "is_from_0_on" Uq f fd) (B:Bl mg) (ai:Fn P w K mg base "is_whole" ["thing"] k (zI (jE))):zH P w K mg base zW (k + 1) f fd ["value"] (zI (Uj)):=by
 refine zm F zFE (λds R h=>by obtain ⟨d,rfl,_⟩:=h; rfl) λcdv A outer s H E hr=>⟨_,(zM (zS (wM (zO ai hr rfl (zB (zA 0) zC)) (vZ (KN (zA 0) zD))))),λds R h=>?_⟩
 obtain ⟨d,rfl,o,q⟩:=h
 refine ⟨d,rfl,o,w2 (λc=>?_) (λc=>bR q ?_)⟩
 ·obtain ⟨i,rfl⟩:=zJ6 c
  exact q
 ·cases d <;> first | rfl | cases c
theorem zGt {k:Nat} {f:Addr} {fd:FuncData} (F:zc K "are_shares" "are_shares" XJ f fd) (B:Bl mg) (ay:Fn P w K mg base "is_from_0_on" ["value"] k (zI (Uj))):zH P w K mg base zW (k + 1) f fd ["value","count"] (zI (zLP)):=by
 refine zm F zGS (λds R h=>by obtain ⟨d,c,k,rfl,_⟩:=h; rfl) λcdv A outer s H E hr=>⟨_,(zJ (yB (PW.pt (wW (yy (yY (yG (xY vB rfl B.isinstance_ xy (zl (zA 0) (zl (wy (v:=.ty "tuple") (u:=.type "tuple") rfl B.tuple_ xz rfl) yI))) (vF kW)))) (vL (Wo hr.units (zj yQ yS rfl B.len_ yR (zB (zA 0) zC)) zD)))) (zM (zS xP)) yA)
  (zJ (yB (PW.pt (wW (yy (yY (zO ay hr rfl (zB (zP (zA 0) zD (λ_ _=>rfl)) zC)))) (wW (yy (yY (yG (xY vB rfl B.isinstance_ xy (zl (zP (zA 0) zD (λ_ _=>rfl)) (zl (wy (v:=.ty "list") (u:=.type "list") rfl B.list_ wA rfl) yI))) (vF jC)))) (vL (Wo hr.units (zj yQ yS rfl B.len_ yR (zB (zP (zA 0) zD (λ_ _=>rfl)) zC)) (zA 1)))))) (zM (zS xP)) yA)
  (zM (zS (zj (wn rfl) wt rfl B.all_ wo (zB (yT (own:=["number"]) (caps:=[]) (yF (S:=zK XJ) (N:=["value","count"]) rfl (by decide +kernel) rfl ⟨0,rfl⟩ rfl (by decide +kernel) (by decide +kernel)) rfl rfl yU (yt (zP (zA 0) zD (λ_ _=>rfl))) (λ_ _ _ _=>(zz 0 (show (["number"]:List Str).Nodup by decide +kernel) rfl (Or.inl rfl))) (λ_ _ _ _=>(zO ay hr rfl (zB (zA 0) zC)))) zC)))))),λds R h=>?_⟩
 obtain ⟨d,c,k,rfl,f,q⟩:=h
 refine ⟨f.no,w2 (λc1=>wT rfl (bR q ?_)) λc1=>?_⟩
 ·cases d <;> first | rfl | cases c1
 obtain ⟨es,rfl,le,j,rfl,hj⟩:=f.tup_inv (by cases z:d.isTup with | true=>rfl | false=>rw [z] at c1; cases c1)
 refine w2 (λc2=>bR q ?_) λc2=>?_
 ·match es,c2 with
  | [],_=>rfl
  | [_],_=>rfl
  | [_,_],c2=>cases c2
  | _ :: y :: _ :: _,_=>cases y <;> rfl
 obtain ⟨x,y,rfl⟩:∃ x y,es=[x,y]:=by
  match es,c2 with
  | [x,y],_=>exact ⟨x,y,rfl⟩
  | [],c2=>cases c2
  | [_],c2=>cases c2
  | _ :: _ :: _ :: _,c2=>
   have c2:(!decide (((_:Nat):Int)=2))=false:=c2
   rw [Bool.not_eq_false',decide_eq_true_iff] at c2
   simp at c2
   omega
 have fx:=hj x List.mem_cons_self
 have fy:=hj y (List.mem_cons_of_mem _ List.mem_cons_self)
 refine ⟨x,rfl,x,rfl,fx.no,w2 (λc3=>wT rfl (bR q ?_)) λc3=>?_⟩
 ·cases y <;> first | rfl | (show (vo x && _)=false; rw [show vo x=false by cases z:vo x with | false=>rfl | true=>rw [z] at c3; cases c3]; rfl)
 have c3:vo x=true:=by cases z:vo x with | true=>rfl | false=>rw [z] at c3; cases c3
 refine ⟨y,rfl,fy.no,w2 (λc4=>wT rfl (bR q ?_)) λc4=>?_⟩
 ·cases y <;> first | rfl | cases c4
 obtain ⟨ys,rfl,ly,i,rfl,hi⟩:=fy.lst_inv (by cases z:y.isLst with | true=>rfl | false=>rw [z] at c4; cases c4)
 have key:xL c (.tup [x,.lst ys])=(decide (ys.length=c) && ys.all vo):=by
  show (vo x && _)=_
  rw [c3]
  rfl
 rw [key] at q
 refine ⟨_,rfl,w2 (λc5=>bR q ?_) λc5=>?_⟩
 ·have c5:(!decide ((ys.length:Int)=(c:Int)))=true:=c5
  rw [Bool.not_eq_true',decide_eq_false_iff_not] at c5
  rw [decide_eq_false (by omega)]
  rfl
 have c5:(!decide ((ys.length:Int)=(c:Int)))=false:=c5
 rw [Bool.not_eq_false',decide_eq_true_iff] at c5
 refine ⟨_,rfl,zk.bool vo (by omega) (λd m=>⟨d,rfl,(hi d m).no,rfl⟩) ⟨_,rfl,bR q ?_⟩⟩
 rw [vN,decide_eq_true (by omega)]
 rfl
theorem zMr {k:Nat} {f:Addr} {fd:FuncData} (F:zc K "shows" "shows" XM f fd) (B:Bl mg) (aX:Fn P w K mg base "are_shares" ["value","count"] k (zI (zLP))) (aY:Fn P w K mg base "added" ["rows","numbers","many"] k (zI (zNu))) (aZ:Fn P w K mg base "scaled" ["factor","numbers"] k (zI (K1))):zH P w K mg base zW (k + 1) f fd ["rows","target","shares"] (zI (ZD)):=by
 refine zm F Ur (λds R h=>by obtain ⟨rows,tw,n,d,k,rfl,_⟩:=h; rfl) λcdv A outer s H E hr=>⟨_,(zJ (yB (yy (yY (zO aX hr rfl (zB (zA 2) (zB (zj yQ yS rfl B.len_ yR (zB (zA 0) zC)) zC))))) (zM (zS xP)) yA)
  (zJ (zg 3 Ur.nd rfl (Or.inl rfl) (zO aY hr rfl (zB (zA 0) (zB (zP (zA 2) zD (λ_ _=>rfl)) (zB (xj (zj yQ yS rfl B.len_ yR (zB (zA 1) zC)) zD) zC)))))
  (zJ (yB (xk hr.units (zP (zA 2) zD (λ_ _=>rfl)) zD) (zM (zS (wM (zj (wn rfl) wt rfl B.all_ wo (zB (yT (own:=["number"]) (caps:=[]) (yF (S:=zK XM) (N:=["rows","target","shares","total","wanted"]) rfl (by decide +kernel) rfl ⟨0,rfl⟩ rfl (by decide +kernel) (by decide +kernel)) rfl rfl yU (yt (yk (zA 3) yn (ya (yi zD)))) (λ_ _ _ _=>(zz 0 (show (["number"]:List Str).Nodup by decide +kernel) rfl (Or.inl rfl))) (λ_ _ _ _=>(uZ hr.units (zA 0) zD))) zC)) (vZ (gn (zP (zA 3) (yi zD) (λ_ _=>rfl)) zD))))) yA)
  (zJ (zg 4 Ur.nd rfl (Or.inl rfl) (zO aZ hr rfl (zB (zP (zA 2) zD (λ_ _=>rfl)) (zB (zA 1) zC))))
  (zM (zS (wM (uZ hr.units (xB vk vn rfl B.list_ wA (zB (yk (zA 3) yn (ya (yi zD))) zC)) (yk (zA 4) yn (ya (yi zD)))) (vZ (Wl (zP (zA 3) (yi zD) (λ_ _=>rfl)) (zP (zA 4) (yi zD) (λ_ _=>rfl))))))))))),λds R h=>?_⟩
 obtain ⟨rows,tw,n,d,k,rfl,lt,bt,RW,f,sb,q⟩:=h
 have lr:(List.map U rows).length=rows.length:=List.length_map ..
 have ltw:(List.map D.int tw).length=n + 1:=by rw [List.length_map]; exact lt
 have nar:=RW.nar
 have fewr:=RW.few
 refine ⟨d,rows.length,k,by rw [lr],f,w2 (λc1=>bR q ?_) λc1=>?_⟩
 ·exact zIn (by cases z:xL rows.length d with | false=>rfl | true=>rw [z] at c1; cases c1)
 have c1:xL rows.length d=true:=by cases z:xL rows.length d with | true=>rfl | false=>rw [z] at c1; cases c1
 obtain ⟨o,ns,rfl,o0,ln,n0⟩:=zIo c1
 rw [zHE c1] at q
 obtain ⟨bo,bn⟩:=sb o _ rfl
 have bn:∀ x∈ns,Bd 1000 x:=λx hx=>bn (.int x) (List.mem_map.mpr ⟨x,hx,rfl⟩)
 have tot:(List.range (n + 1)).map (zf ns rows)=(List.range n).map (zf ns rows)++[zf ns rows n]:=by rw [List.range_succ,List.map_append]; rfl
 have e1:(List.range n).map (vm rows ns)=(List.range n).map (zf ns rows):=List.map_congr_left λj _=>kz rows ns j
 unfold qL at q
 rw [e1,kz] at q
 refine ⟨_,rfl,rows,_,ns,n,by rw [ltw]; show [Rm rows,L ns,D.int (((n + 1:Nat):Int) - 1)]=_; rw [show ((n + 1:Nat):Int) - 1=(n:Int) by omega],.inl rfl,by omega,by omega,λx hx=>(bn x hx).mono,λr hr=>⟨by rw [(RW.row r hr).1]; omega,λx hx=>((RW.row r hr).2 x hx).mono⟩,?_⟩
 rw [tot]
 refine ⟨_,rfl,w2 (λc2=>?_) λc2=>?_⟩
 ·rw [if_pos (of_decide_eq_true c2)] at q
  refine zk.cast (vp _ _) (zQd (λx=>decide (x=0)) (by rw [List.length_map,List.length_range]; omega) (λx hx=>rfl) ⟨_,rfl,w2 (λc3=>?_) λc3=>bR q ?_⟩)
  ·refine ⟨_,jx _ _,bR q ?_⟩
   rw [vN] at c3
   rw [c3]
   rfl
  ·rw [vN] at c3
   rw [c3]
   rfl
 ·rw [if_neg (of_decide_eq_false c2)] at q
  have lsc:(tw.map (o * ·)).length=n + 1:=by rw [List.length_map]; exact lt
  have ets:(tw.map (o * ·)).take n=(tw.take n).map (o * ·):=(List.map_take ..).symm
  refine ⟨_,rfl,o,_,tw,rfl,.inr rfl,by omega,bo.mono,λx hx=>(bt x hx).mono,?_⟩
  refine ⟨by rw [vp]; exact uE _,by rw [uD lsc]; exact uE _,w2 (λc3=>?_) λc3=>bR q ?_⟩
  all_goals rw [vp,uD lsc,KP,ets] at c3
  ·refine ⟨_,jx _ _,_,jw lsc,bR q ?_⟩
   rw [c3]
   rw [show (tw.map (o * ·)).getD n 0=o * tw.getD n 0 by
    rw [List.getD_eq_getElem?_getD,List.getElem?_map,List.getElem?_eq_getElem (by omega),List.getD_eq_getElem?_getD,List.getElem?_eq_getElem (by omega)]; rfl]
   rfl
  ·rw [c3]
   rfl
theorem zGo {k:Nat} {f:Addr} {fd:FuncData} (F:zc K "is_list_of" "is_list_of" Ut f fd) (B:Bl mg):zH P w K mg base zW (k + 1) f fd ["value","count"] (zI (qd)):=by
 refine zm F zGO (λds R h=>by obtain ⟨d,c,k,rfl,_⟩:=h; rfl) λcdv A outer s H E hr=>⟨_,(zM (zS (wM (yG (xY vB rfl B.isinstance_ xy (zl (zA 0) (zl (wy (v:=.ty "list") (u:=.type "list") rfl B.list_ wA rfl) yI))) (vF jC)) (vZ (uZ hr.units (zj yQ yS rfl B.len_ yR (zB (zA 0) zC)) (zA 1)))))),λds R h=>?_⟩
 obtain ⟨d,c,k,rfl,f,q⟩:=h
 refine ⟨f.no,w2 (λc1=>?_) λc1=>bR q ?_⟩
 ·obtain ⟨es,rfl,le,j,rfl,hj⟩:=f.lst_inv c1
  exact q
 ·cases d <;> first | rfl | cases c1
theorem zGq {k:Nat} {f:Addr} {fd:FuncData} (F:zc K "each_shown" "each_shown" XN f fd) (B:Bl mg) (aj:Fn P w K mg base "is_list_of" ["value","count"] k (zI (qd))) (al:Fn P w K mg base "shows" ["rows","target","shares"] k (zI (ZD))):zH P w K mg base zW (k + 1) f fd ["rows","targets","shares"] (zI (Uk)):=by
 refine zm F zGP (λds R h=>by obtain ⟨rows,tws,n,d,k,rfl,_⟩:=h; rfl) λcdv A outer s H E hr=>⟨_,(zJ (yB (yy (yY (zO aj hr rfl (zB (zA 2) (zB (zj yQ yS rfl B.len_ yR (zB (zA 1) zC)) zC))))) (zM (zS xP)) yA)
  (zM (zS (zj (wn rfl) wt rfl B.all_ wo (zB (yT (own:=["target","part"]) (caps:=[(0,"rows")]) (yF (S:=zK XN) (N:=["rows","targets","shares"]) rfl (by decide +kernel) rfl ⟨_,rfl⟩ rfl (by decide +kernel) (by decide +kernel)) rfl rfl (v7 (xo (xo uA))) (v9 rfl B.zip_ (zB (zA 1) (zB (zA 2) zC))) (λ_ _ _ _=>(xI rfl (zY 0 (show (["target","part","rows"]:List Str).Nodup by decide +kernel) rfl (Or.inl rfl) (zY 1 (show (["target","part","rows"]:List Str).Nodup by decide +kernel) rfl (Or.inl rfl) xH)))) (λ_ _ _ _=>(zO al hr rfl (zB (zA 2) (zB (zA 0) (zB (zA 1) zC)))))) zC))))),λds R h=>?_⟩
 obtain ⟨rows,tws,n,d,k,rfl,RW,RT,f,sb,q⟩:=h
 have lt:(List.map U tws).length=tws.length:=List.length_map ..
 have fewt:=RT.few
 refine ⟨d,_,k,rfl,f,w2 (λc1=>bR q ?_) λc1=>?_⟩
 ·rw [lt] at c1
  exact zNG (jG c1)
 rw [lt] at c1
 obtain ⟨as,rfl,la⟩:=k6 (ug c1)
 obtain ⟨es,e1,le,j,rfl,hj⟩:=f.lst_inv rfl
 cases e1
 have sb:=sb as rfl
 refine ZC U zr uf (λt a=>ww rows t n a) (by omega) (λt a hm=>?_) ⟨_,rfl,bR q ?_⟩
 ·have h1:=(List.of_mem_zip hm).1
  have h2:=(List.of_mem_zip hm).2
  exact ⟨rows,t,n,a,j,rfl,(RT.row t h1).1,(RT.row t h1).2,RW,hj a h2,sb a h2,rfl⟩
 ·show (decide _ && _)=_
  rw [decide_eq_true la,vN]
  rfl
theorem zGl {k:Nat} {f:Addr} {fd:FuncData} (F:zc K "mode_leads" "mode_leads" XO f fd) (B:Bl mg) (aF:Fn P w K mg base "each_shown" ["rows","targets","shares"] k (zI (Uk))) (aG:Fn P w K mg base "reach" ["thing","mode","row"] k (zI (Ui ag af))) (aH:Fn P w K mg base "standing" ["thing","rows"] k (zI (Uh ag af))):zH P w K mg base zW (k + 1) f fd ["thing","mode","room","behind","shares"] (zI (zLY ag af)):=by
 refine zm F zGM (λds R h=>by obtain ⟨n,bs,ms,m,room,behind,d,k,rfl,_⟩:=h; rfl) λcdv A outer s H E hr=>⟨_,(zM (zS (zO aF hr rfl (zB (zO aH hr rfl (zB (zA 0) (zB (zU (zA 2) (zp K (zA 1) rfl)) zC))) (zB (yT (own:=["row"]) (caps:=[(0,"thing"),(1,"mode")]) (yF (S:=zK XO) (N:=["thing","mode","room","behind","shares"]) rfl (by decide +kernel) rfl ⟨_,rfl⟩ rfl (by decide +kernel) (by decide +kernel)) rfl rfl yU (yt (zA 3)) (λ_ _ _ _=>(zz 0 (show (["row","thing","mode"]:List Str).Nodup by decide +kernel) rfl (Or.inl rfl))) (λ_ _ _ _=>(zO aG hr rfl (zB (zA 1) (zB (zA 2) (zB (zA 0) zC)))))) (zB (zA 4) zC)))))),λds R h=>?_⟩
 obtain ⟨n,bs,ms,m,room,behind,d,k,rfl,TS,MO,MSm,R1,R2,f,sb,q⟩:=h
 have n1:=TS.ok.n1
 have n3:=TS.ok.n3
 have b6:=TS.ok.b6
 have f1:=R1.few
 have f2:=R2.few
 have f3:=MSm.few
 have hrl:∀ r∈room++m.rows,r.length=n + 1/\∀ x∈r,Bd 1000 x:=λr hr=>by
  rcases List.mem_append.mp hr with hr | hr
  ·exact ⟨(R1.row r hr).1,λx hx=>((R1.row r hr).2 x hx).mono⟩
  ·exact ⟨MO.rows r hr,λx hx=>(MSm.rows r hr x hx).mono⟩
 refine ⟨⟨aa.cl,ab.n_rows⟩,_,rfl,by rw [List.length_map,List.length_map]; omega,n,bs,ms,room++m.rows,by rw [XI],n3,b6,λr hr=>(hrl r hr).1,by rw [List.length_append]; omega,?_⟩
 refine vd U zr uf (λr=>U (xQ n bs.length (r.take n) (r.getD n 0) m)) (by omega) (λr hr=>?_) ?_
 ·exact ⟨n,bs,ms,m,r,rfl,n3,b6,MO,MSm.mbd,(R2.row r hr).1,λx hx=>((R2.row r hr).2 x hx).mono,rfl⟩
 have RW2:vC (XF n bs.length m behind) (n + bs.length):=by
  refine ⟨λr hr=>?_,by unfold XF; rw [List.length_map]; omega,by omega⟩
  obtain ⟨r0,h0,rfl⟩:=List.mem_map.mp hr
  obtain ⟨lr,br⟩:=R2.row r0 h0
  exact ⟨k7 ..,λx hx=>(Ug MSm (by rw [List.length_take]; omega) (λy hy=>(br y (List.mem_of_mem_take hy)).mono) (Ue br n).mono x hx).mono⟩
 exact ⟨_,XF n bs.length m behind,n + bs.length,d,k,by rw [RmM (λr:List Int=>xQ n bs.length (r.take n) (r.getD n 0) m)]; rfl,zIj hrl (by rw [List.length_append]; omega) n3 b6 TS.bs,RW2,f,sb,q⟩
theorem zMu {k:Nat} {f:Addr} {fd:FuncData} (F:zc K "leads" "leads" XQ f fd) (B:Bl mg) (aI:v4 P w K mg base ag "modes" ["self"] k (zI (UW ag af))) (aj:Fn P w K mg base "is_list_of" ["value","count"] k (zI (qd))) (be:Fn P w K mg base "mode_leads" ["thing","mode","room","behind","shares"] k (zI (zLY ag af))):zH P w K mg base zW (k + 1) f fd ["thing","room","behind","steps"] (zI (zNq ag af)):=by
 refine zm F zIq (λds R h=>by obtain ⟨n,bs,ms,room,behind,d,k,rfl,_⟩:=h; rfl) λcdv A outer s H E hr=>⟨_,(zJ (zg 4 zIq.nd rfl (Or.inl rfl) (kZ aI ac hr (zA 0)))
  (zJ (yB (yy (yY (zO aj hr rfl (zB (zA 3) (zB (zj yQ yS rfl B.len_ yR (zB (zA 4) zC)) zC))))) (zM (zS xP)) yA)
  (zM (zS (zj (wn rfl) wt rfl B.all_ wo (zB (yT (own:=["mode","shares"]) (caps:=[(0,"thing"),(1,"room"),(2,"behind")]) (yF (S:=zK XQ) (N:=["thing","room","behind","steps","modes"]) rfl (by decide +kernel) rfl ⟨_,rfl⟩ rfl (by decide +kernel) (by decide +kernel)) rfl rfl (v7 (xo (xo uA))) (v9 rfl B.zip_ (zB (zA 4) (zB (zA 3) zC))) (λ_ _ _ _=>(xI rfl (zY 0 (show (["mode","shares","thing","room","behind"]:List Str).Nodup by decide +kernel) rfl (Or.inl rfl) (zY 1 (show (["mode","shares","thing","room","behind"]:List Str).Nodup by decide +kernel) rfl (Or.inl rfl) xH)))) (λ_ _ _ _=>(zO be hr rfl (zB (zA 2) (zB (zA 0) (zB (zA 3) (zB (zA 4) (zB (zA 1) zC)))))))) zC)))))),λds R h=>?_⟩
 obtain ⟨n,bs,ms,room,behind,d,k,rfl,TS,R1,R2,f,sb,q⟩:=h
 have m40:=TS.ok.m40
 have lm:(List.map (wN af) ms).length=ms.length:=List.length_map ..
 refine ⟨rfl,by decide +kernel,n,bs,ms,rfl,?_⟩
 refine ⟨d,_,k,rfl,f,w2 (λc1=>bR q ?_) λc1=>?_⟩
 ·rw [lm] at c1
  exact zLA (jG c1)
 rw [lm] at c1
 obtain ⟨as,rfl,la⟩:=k6 (ug c1)
 obtain ⟨es,e1,le,j,rfl,hj⟩:=f.lst_inv rfl
 cases e1
 have sb:=sb as rfl
 refine ZC (wN af) xG (XB _) (λm a=>XG n bs room behind m a) (by omega) (λm a hm=>?_) ⟨_,rfl,bR q ?_⟩
 ·have h1:=(List.of_mem_zip hm).1
  have h2:=(List.of_mem_zip hm).2
  exact ⟨n,bs,ms,m,room,behind,a,j,rfl,TS,TS.ok.mok m h1,TS.ms m h1,R1,R2,hj a h2,sb a h2,rfl⟩
 ·show (decide _ && _)=_
  rw [decide_eq_true la,vN]
  rfl
end
section
variable {P:Program} {w:World} {K:PySem.W.Frag} {mg:Str->Option Value} {base:Heap}
abbrev Uu:Stmt:=jU (zi 20) 0
theorem zES:za ["self","start","goal","turns"] ["self","start","goal","turns"] (zK Uu):=.a
abbrev Uv:Stmt:=jU (zi 48) 0
theorem zER:za ["self","room","starts","steps","measure","step","top","falls","floors","tops"] ["self","room","starts","steps","measure","step","top","falls","floors","tops"] (zK Uv):=.a
abbrev Uw:Stmt:=zi 53
theorem zGQ:za ["claim","many"] ["claim","many"] (zK Uw):=.a
abbrev Ux:Stmt:=zi 61
theorem zEP:za ["measure","top"] ["measure","top"] (zK Ux):=.a
abbrev XR:Stmt:=zi 62
theorem zDf:za ["measure"] ["measure"] (zK XR):=.a
abbrev Uy:Stmt:=zi 63
theorem Uz:za ["thing","mode","measure","step","ahead","less"] ["thing","mode","measure","step"] (zK Uy):=.a
abbrev XS:Stmt:=zi 64
theorem zDd:za ["claim","paper","target"] ["claim","paper"] (zK XS):=.a
variable {aClaim aSettles aComes af ag aPaper aRooms aFalls:Addr} (TClaim:zE K mg "Claim" aClaim) (AClaim:wY K aClaim) (TSettles:zE K mg "Settles" aSettles) (ASettles:wZ K aSettles) (TComes:zE K mg "Comes" aComes) (AComes:wa K aComes) (aa:zE K mg "Mode" af) (ab:wb K af) (ac:zE K mg "Thing" ag) (ae:wc K ag) (TPaper:zE K mg "Paper" aPaper) (APaper:wd K aPaper) (TRooms:zE K mg "Rooms" aRooms) (ARooms:we K aRooms) (TFalls:zE K mg "Falls" aFalls) (AFalls:wf K aFalls) (Y:yd K aComes aSettles)
include TClaim AClaim TSettles ASettles TComes AComes aa ab ac ae TPaper APaper TRooms ARooms TFalls AFalls Y
theorem zEh {k:Nat} {f:Addr} {fd:FuncData} (F:zc K "__init__" "Comes.__init__" Uu f fd) (B:Bl mg) (ah:vU P w K mg base "copied" ["value","depth"] k (zI (jq 5)) (.int 5)):zH P w K mg base zW (k + 1) f fd ["self","start","goal","turns"] (vG aComes (zLg aComes)):=by
 refine Yt F zES (λds R h=>by obtain ⟨s,g,t,rfl,_⟩:=h; rfl) λcdv A outer s H E hr=>⟨_,(zJ (zv (xb (yJ 0) (vM (.int 5) (λ_=>.int 5) ah hr rfl (zB (zA 1) zC)) rfl) xr)
  (zJ (zv (xb (yJ 0) (vM (.int 5) (λ_=>.int 5) ah hr rfl (zB (zA 2) zC)) rfl) xr)
  (zM (zv (xb (yJ 0) (zA 3) rfl) xr)))),λo ds R h=>?_⟩
 obtain ⟨s,g,t,rfl,f1,f2,q⟩:=h
 refine ⟨s,5,rfl,f1,⟨TComes.cl,AComes.n_start⟩,by decide +kernel,by decide,rfl,?_⟩
 refine ⟨g,5,rfl,f2,⟨TComes.cl,AComes.n_goal⟩,by decide +kernel,by decide,rfl,?_⟩
 exact ⟨⟨TComes.cl,AComes.n_turns⟩,by decide +kernel,by decide,rfl,rfl,q⟩
theorem zEg {k:Nat} {f:Addr} {fd:FuncData} (F:zc K "__init__" "Falls.__init__" Uv f fd) (B:Bl mg) (ah:vU P w K mg base "copied" ["value","depth"] k (zI (jq 5)) (.int 5)):zH P w K mg base zW (k + 1) f fd ["self","room","starts","steps","measure","step","top","falls","floors","tops"] (vG aFalls (zLe aFalls)):=by
 refine Yt F zER (λds R h=>by obtain ⟨a,b,c,d,e,f,g,h,i,rfl,_⟩:=h; rfl) λcdv A outer s H E hr=>⟨_,(zJ (zv (xb (yJ 0) (vM (.int 5) (λ_=>.int 5) ah hr rfl (zB (zA 1) zC)) rfl) xr)
  (zJ (zv (xb (yJ 0) (vM (.int 5) (λ_=>.int 5) ah hr rfl (zB (zA 2) zC)) rfl) xr)
  (zJ (zv (xb (yJ 0) (vM (.int 5) (λ_=>.int 5) ah hr rfl (zB (zA 3) zC)) rfl) xr)
  (zJ (zv (xb (yJ 0) (vM (.int 5) (λ_=>.int 5) ah hr rfl (zB (zA 4) zC)) rfl) xr)
  (zJ (zv (xb (yJ 0) (zA 5) rfl) xr)
  (zJ (zv (xb (yJ 0) (zA 6) rfl) xr)
  (zJ (zv (xb (yJ 0) (vM (.int 5) (λ_=>.int 5) ah hr rfl (zB (zA 7) zC)) rfl) xr)
  (zJ (zv (xb (yJ 0) (vM (.int 5) (λ_=>.int 5) ah hr rfl (zB (zA 8) zC)) rfl) xr)
  (zM (zv (xb (yJ 0) (vM (.int 5) (λ_=>.int 5) ah hr rfl (zB (zA 9) zC)) rfl) xr)))))))))),λo ds R h=>?_⟩
 obtain ⟨a,b,c,d,e,f,g,h,i,rfl,f1,f2,f3,f4,f7,f8,f9,q⟩:=h
 refine ⟨a,5,rfl,f1,⟨TFalls.cl,AFalls.n_room⟩,by decide +kernel,by decide,rfl,?_⟩
 refine ⟨b,5,rfl,f2,⟨TFalls.cl,AFalls.n_starts⟩,by decide +kernel,by decide,rfl,?_⟩
 refine ⟨c,5,rfl,f3,⟨TFalls.cl,AFalls.n_steps⟩,by decide +kernel,by decide,rfl,?_⟩
 refine ⟨d,5,rfl,f4,⟨TFalls.cl,AFalls.n_measure⟩,by decide +kernel,by decide,rfl,?_⟩
 refine ⟨⟨TFalls.cl,AFalls.n_step⟩,by decide +kernel,by decide,rfl,?_⟩
 refine ⟨⟨TFalls.cl,AFalls.n_top⟩,by decide +kernel,by decide,rfl,?_⟩
 refine ⟨g,5,rfl,f7,⟨TFalls.cl,AFalls.n_falls⟩,by decide +kernel,by decide,rfl,?_⟩
 refine ⟨h,5,rfl,f8,⟨TFalls.cl,AFalls.n_floors⟩,by decide +kernel,by decide,rfl,?_⟩
 exact ⟨i,5,rfl,f9,⟨TFalls.cl,AFalls.n_tops⟩,by decide +kernel,by decide,rfl,rfl,q⟩
theorem zGr {k:Nat} {f:Addr} {fd:FuncData} (F:zc K "comes_over" "comes_over" Uw f fd) (B:Bl mg) (ay:Fn P w K mg base "is_from_0_on" ["value"] k (zI (Uj))) (ap:Fn P w K mg base "is_room" ["value","many"] k (zI (Yx))):zH P w K mg base zW (k + 1) f fd ["claim","many"] (zI (zF6 aComes)):=by
 refine zm F zGQ (λds R h=>by obtain ⟨s,g,t,n,rfl,_⟩:=h; rfl) λcdv A outer s H E hr=>⟨_,(zM (zS (wM (zO ap hr rfl (zB (zp K (zA 0) rfl) (zB (zA 1) zC))) (wM (zO ap hr rfl (zB (zp K (zA 0) rfl) (zB (zA 1) zC))) (vZ (zO ay hr rfl (zB (zp K (zA 0) rfl) zC))))))),λds R h=>?_⟩
 obtain ⟨s,g,t,n,rfl,n3,RS,RG,t0,q⟩:=h
 refine ⟨⟨TComes.cl,AComes.n_start⟩,_,rfl,_,_,3,rfl,qY (by have:=RS.few; omega) (λr hr=>by rw [(RS.row r hr).1]; omega),wT (by rw [Y9 λr hr=>by rw [(RS.row r hr).1]; rfl]) ?_⟩
 refine ⟨⟨TComes.cl,AComes.n_goal⟩,_,rfl,_,_,3,rfl,qY (by have:=RG.few; omega) (λr hr=>by rw [(RG.row r hr).1]; omega),wT (by rw [Y9 λr hr=>by rw [(RG.row r hr).1]; rfl]) ?_⟩
 exact ⟨⟨TComes.cl,AComes.n_turns⟩,_,rfl,_,rfl,rfl,bR q (decide_eq_true t0).symm⟩
theorem zEe {k:Nat} {f:Addr} {fd:FuncData} (F:zc K "height_at_most" "height_at_most" Ux f fd) (B:Bl mg):zH P w K mg base zW (k + 1) f fd ["measure","top"] (zI (ZF)):=by
 refine zm F zEP (λds R h=>by obtain ⟨ws,b,tp,rfl,_⟩:=h; rfl) λcdv A outer s H E hr=>⟨_,(zM (zS (zU (yk (zA 0) yn (ya (yi zD))) (xA (zB (xj (zA 1) (zP (zA 0) (yi zD) (λ_ _=>rfl))) zC))))),λds R h=>?_⟩
 obtain ⟨ws,b,tp,rfl,l1,q⟩:=h
 refine ⟨_,jx _ _,k0,by rw [vp,List.length_map]; show _ + 1<=1000; omega,?_⟩
 rw [vp]
 unfold U at q
 rw [List.map_append] at q
 exact q
theorem zDl {k:Nat} {f:Addr} {fd:FuncData} (F:zc K "height_from_0_on" "height_from_0_on" XR f fd) (B:Bl mg):zH P w K mg base zW (k + 1) f fd ["measure"] (zI (zNs)):=by
 refine zm F zDf (λds R h=>by obtain ⟨ws,b,rfl,_⟩:=h; rfl) λcdv A outer s H E hr=>⟨_,(zM (zS (zU (xB vA vE rfl B.tuple_ xz (zB (yT (own:=["number"]) (caps:=[]) (yF (S:=zK XR) (N:=["measure"]) rfl (by decide +kernel) rfl ⟨0,rfl⟩ rfl (by decide +kernel) (by decide +kernel)) rfl rfl yU (yt (yk (zA 0) yn (ya (yi zD)))) (λ_ _ _ _=>(zz 0 (show (["number"]:List Str).Nodup by decide +kernel) rfl (Or.inl rfl))) (λ_ _ _ _=>(yi (zA 0)))) zC)) (xA (zB (zP (zA 0) (yi zD) (λ_ _=>rfl)) zC))))),λds R h=>?_⟩
 obtain ⟨ws,b,rfl,l1,q⟩:=h
 refine zk.cast (vp _ _) (zk.int (λx=>-x) (by omega) (λx hx=>rfl) ⟨_,jx _ _,k0,by rw [List.length_map,List.length_map]; show _ + 1<=1000; omega,?_⟩)
 unfold U at q
 rw [List.map_append] at q
 exact q
theorem zID {k:Nat} {f:Addr} {fd:FuncData} (F:zc K "fall_row" "fall_row" Uy f fd) (B:Bl mg) (aG:Fn P w K mg base "reach" ["thing","mode","row"] k (zI (Ui ag af))) (bh:Fn P w K mg base "mixed" ["factor","numbers","other_factor","others"] k (zI (K2))):zH P w K mg base zW (k + 1) f fd ["thing","mode","measure","step"] (zI (zI8 ag af)):=by
 refine zm F Uz (λds R h=>by obtain ⟨n,bs,ms,m,ws,b,st,rfl,_⟩:=h; rfl) λcdv A outer s H E hr=>⟨_,(zJ (zg 4 Uz.nd rfl (Or.inl rfl) (zO aG hr rfl (zB (zA 0) (zB (zA 1) (zB (zU (yk (zA 2) yn (ya (yi zD))) (xA (zB zD zC))) zC)))))
  (zJ (zg 5 Uz.nd rfl (Or.inl rfl) (zO bh hr rfl (zB zD (zB (yk (zA 4) yn (ya (zp K (zA 0) rfl))) (zB (yi (zp K (zA 1) rfl)) (zB (yk (zA 2) yn (ya (yi zD))) zC))))))
  (zM (zS (zU (zU (xB vA vE rfl B.tuple_ xz (zB (zA 5) zC)) (yk (zA 4) (ya (zp K (zA 0) rfl)) (ya (yi zD)))) (xA (zB (xj (zP (zA 4) (yi zD) (λ_ _=>rfl)) (zx (zp K (zA 1) rfl) (zA 3))) zC))))))),λds R h=>?_⟩
 obtain ⟨n,bs,ms,m,ws,b,st,rfl,TS,MO,MSm,lw,bw,bst,q⟩:=h
 have n3:=TS.ok.n3
 have b6:=TS.ok.b6
 have e0:(ws++[(0:Int)]).take n=ws:=by rw [List.take_append_of_le_length (by omega),List.take_of_length_le (by omega)]
 have e00:(ws++[(0:Int)]).getD n 0=0:=by rw [List.getD_eq_getElem?_getD,List.getElem?_append_right (by omega),lw,Nat.sub_self]; rfl
 refine ⟨k0,by rw [vp,List.length_map]; show _ + 1<=1000; omega,n,bs,ms,m,ws++[0],by rw [vp,U,List.map_append]; rfl,n3,b6,MO,MSm.mbd,by rw [List.length_append,lw]; rfl,λx hx=>?_,?_⟩
 ·rcases List.mem_append.mp hx with hx | hx
  ·exact (bw x hx).mono
  ·rw [List.mem_singleton.mp hx]; exact xM
 rw [e0,e00]
 have lR:(xQ n bs.length ws 0 m).length=n + bs.length + 1:=k7 ..
 have bR:=Ug (n:=n) (p:=bs.length) (b:=0) MSm (by omega) (λx hx=>(bw x hx).mono (show 300<=301 by decide)) xM
 have c1:zV ((xQ n bs.length ws 0 m).map D.int) none (some (n:Int))=((xQ n bs.length ws 0 m).take n).map D.int:=by
  unfold zV
  rw [HT.sIx_none,HT.sIx_nat,List.drop_zero,Nat.sub_zero,List.length_map,lR,Nat.min_eq_left (by omega),List.map_take]
 have c2:zV ((xQ n bs.length ws 0 m).map D.int) (some (n:Int)) (some (-1))=(((xQ n bs.length ws 0 m).drop n).take bs.length).map D.int:=by
  unfold zV
  have e2:HT.sIx (n + bs.length + 1) (n + bs.length + 1) (some (-1))=n + bs.length:=by
   show (if (-1:Int) < 0 then ((-1:Int) + ((n + bs.length + 1:Nat):Int)).toNat else min (-1:Int).toNat (n + bs.length + 1))=n + bs.length
   rw [if_pos (by decide)]
   omega
  rw [HT.sIx_nat,List.length_map,lR,e2,Nat.min_eq_left (by omega),show n + bs.length - n=bs.length by omega,List.map_take,List.map_drop]
 have eP:((xQ n bs.length ws 0 m).drop n).take bs.length=(List.range bs.length).map (zf ws m.push):=by
  have lN:((List.range n).map (zf ws m.nexts)).length=n:=by rw [List.length_map,List.length_range]
  unfold xQ
  rw [List.append_assoc,List.drop_append_of_le_length (by omega),List.drop_eq_nil_of_le (by omega),List.nil_append,List.take_append_of_le_length (by rw [List.length_map,List.length_range]; omega),List.take_of_length_le (by rw [List.length_map,List.length_range]; omega)]
 have eB:(xQ n bs.length ws 0 m).getD (n + bs.length) 0=m.div * 0 - yq ws m.add:=by
  unfold xQ
  rw [List.getD_eq_getElem?_getD,List.getElem?_append_right (by rw [List.length_append,List.length_map,List.length_map,List.length_range,List.length_range]; omega),List.length_append,List.length_map,List.length_map,List.length_range,List.length_range,Nat.sub_self]
  rfl
 refine ⟨⟨ac.cl,ae.n_many⟩,_,rfl,⟨aa.cl,ab.n_divisor⟩,_,rfl,1,-m.div,_,_,_,ws,rfl,.inr (by rw [c1]),.inr (by rw [vp]),by rw [List.length_take]; omega,(Bd.lit (i:=1) (n:=1)).mono,MSm.div.neg.mono,λx hx=>(bR x (List.mem_of_mem_take hx)).mono,λx hx=>(bw x hx).mono,?_⟩
 have lX:(xK 1 (-m.div) ((xQ n bs.length ws 0 m).take n) ws).length=n:=by
  unfold xK
  rw [List.length_map,List.length_zip,List.length_take]
  omega
 refine ⟨⟨ac.cl,ae.n_many⟩,_,rfl,by rw [c2,List.length_map,List.length_map,lX,List.length_take]; omega,?_⟩
 refine ⟨_,jw lR,⟨aa.cl,ab.n_divisor⟩,_,rfl,MSm.div.mono,bst.mono,k0,by rw [c2,List.length_append,List.length_map,List.length_map,lX,List.length_take]; show _ + 1<=1000; omega,?_⟩
 rw [c2,eP,eB]
 unfold ve U at q
 rw [List.map_append,List.map_append] at q
 exact q
theorem zFv {k:Nat} {f:Addr} {fd:FuncData} (F:zc K "floors_hold" "floors_hold" XS f fd) (B:Bl mg) (aj:Fn P w K mg base "is_list_of" ["value","count"] k (zI (qd))) (bA:Fn P w K mg base "height_from_0_on" ["measure"] k (zI (zNs))) (al:Fn P w K mg base "shows" ["rows","target","shares"] k (zI (ZD))) (aJ:Fn P w K mg base "other_side" ["row"] k (zI (UR))):zH P w K mg base zW (k + 1) f fd ["claim","paper"] (zI (zLd aComes aFalls)):=by
 refine zm F zDd (λds R h=>by obtain ⟨s,g,t,room,A1,A2,ws,b,st,tp,A6,A7,A8,n,k,rfl,_⟩:=h; rfl) λcdv A outer s H E hr=>⟨_,(zJ (yB (yy (yY (zO aj hr rfl (zB (zp K (zA 1) rfl) (zB (zj yQ yS rfl B.len_ yR (zB (zp K (zA 0) rfl) zC)) zC))))) (zM (zS xP)) yA)
  (zJ (zg 2 zDd.nd rfl (Or.inr rfl) (zO bA hr rfl (zB (zp K (zA 1) rfl) zC)))
  (zM (zS (zj (wn rfl) wt rfl B.all_ wo (zB (yT (own:=["row","shares"]) (caps:=[(1,"paper"),(2,"target")]) (yF (S:=zK XS) (N:=["claim","paper","target"]) rfl (by decide +kernel) rfl ⟨_,rfl⟩ rfl (by decide +kernel) (by decide +kernel)) rfl rfl (v7 (xo (xo uA))) (v9 rfl B.zip_ (zB (zp K (zA 0) rfl) (zB (zp K (zA 1) rfl) zC))) (λ_ _ _ _=>(xI rfl (zY 0 (show (["row","shares","paper","target"]:List Str).Nodup by decide +kernel) rfl (Or.inl rfl) (zY 1 (show (["row","shares","paper","target"]:List Str).Nodup by decide +kernel) rfl (Or.inl rfl) xH)))) (λ_ _ _ _=>(zO al hr rfl (zB (zU (zp K (zA 2) rfl) (yH (zB (zO aJ hr rfl (zB (zA 0) zC)) zC))) (zB (zA 3) (zB (zA 1) zC)))))) zC)))))),λds R h=>?_⟩
 obtain ⟨s,g,t,room,A1,A2,ws,b,st,tp,A6,A7,A8,n,k,rfl,PS,RG,n3,f,sb,q⟩:=h
 have lg:(List.map U g).length=g.length:=List.length_map ..
 have fg:=RG.few
 have fr:=PS.rm.few
 have lw:=PS.lw
 refine ⟨⟨TFalls.cl,AFalls.n_floors⟩,_,rfl,⟨TComes.cl,AComes.n_goal⟩,_,rfl,A7,_,k,rfl,f,w2 (λc1=>bR q ?_) λc1=>?_⟩
 ·rw [lg] at c1
  exact zJw (jG c1)
 rw [lg] at c1
 obtain ⟨as,rfl,la⟩:=k6 (ug c1)
 obtain ⟨es,e1,le,j,rfl,hj⟩:=f.lst_inv rfl
 cases e1
 have sb:=sb as rfl
 refine ⟨⟨TFalls.cl,AFalls.n_measure⟩,_,rfl,ws,b,rfl,by omega,?_⟩
 refine ⟨⟨TComes.cl,AComes.n_goal⟩,_,rfl,⟨TFalls.cl,AFalls.n_floors⟩,_,rfl,?_⟩
 refine ZC U zr uf (λr a=>ww (room++[yM r]) (ws.map (λx=>-x)++[b]) n a) (by omega) (λr a hm=>?_) ⟨_,rfl,bR q ?_⟩
 ·have h1:=(List.of_mem_zip hm).1
  have h2:=(List.of_mem_zip hm).2
  refine ⟨⟨TFalls.cl,AFalls.n_room⟩,_,rfl,_,r,rfl,.inr rfl,by rw [(RG.row r h1).1]; omega,k0,by rw [List.length_map]; show _ + 1<=1000; omega,room++[yM r],_,n,a,j,by rw [<- XI]; rfl,by rw [List.length_append,List.length_map,lw]; rfl,λx hx=>?_,⟨λy hy=>?_,by rw [List.length_append]; show _ + 1<=500; omega,by omega⟩,hj a h2,sb a h2,rfl⟩
  ·rcases List.mem_append.mp hx with hx | hx
   ·obtain ⟨z,hz,rfl⟩:=List.mem_map.mp hx
    exact (PS.bw z hz).neg.mono
   ·rw [List.mem_singleton.mp hx]; exact PS.bb.mono
  ·rcases List.mem_append.mp hy with hy | hy
   ·exact ⟨(PS.rm.row y hy).1,λx hx=>((PS.rm.row y hy).2 x hx).mono⟩
   ·rw [List.mem_singleton.mp hy]
    have:=zK4 (RG.row r h1)
    exact ⟨this.1,λx hx=>(this.2 x hx).mono⟩
 ·show (decide _ && _)=_
  rw [decide_eq_true la,vN]
  rfl
end
section
variable {P:Program} {w:World} {K:PySem.W.Frag} {mg:Str->Option Value} {base:Heap}
abbrev XT:Stmt:=zi 66
theorem U0:za ["thing","mode","claim","paper","shares","target","rows"] ["thing","mode","claim","paper","shares"] (zK XT):=.a
abbrev XU:Stmt:=zi 65
theorem zD4:za ["thing","claim","paper","modes"] ["thing","claim","paper"] (zK XU):=.a
abbrev U1:Stmt:=zi 60
theorem zFB:za ["thing","claim","paper"] ["thing","claim","paper"] (zK U1):=.a
abbrev U2:Stmt:=zi 49
theorem zJY:za ["thing","claim","paper"] ["thing","claim","paper"] (zK U2):=.a
variable {aClaim aSettles aComes af ag aPaper aRooms aFalls:Addr} (TClaim:zE K mg "Claim" aClaim) (AClaim:wY K aClaim) (TSettles:zE K mg "Settles" aSettles) (ASettles:wZ K aSettles) (TComes:zE K mg "Comes" aComes) (AComes:wa K aComes) (aa:zE K mg "Mode" af) (ab:wb K af) (ac:zE K mg "Thing" ag) (ae:wc K ag) (TPaper:zE K mg "Paper" aPaper) (APaper:wd K aPaper) (TRooms:zE K mg "Rooms" aRooms) (ARooms:we K aRooms) (TFalls:zE K mg "Falls" aFalls) (AFalls:wf K aFalls) (Y:yd K aComes aSettles)
include TClaim AClaim TSettles ASettles TComes AComes aa ab ac ae TPaper APaper TRooms ARooms TFalls AFalls Y
theorem zGm {k:Nat} {f:Addr} {fd:FuncData} (F:zc K "mode_falls" "mode_falls" XT f fd) (B:Bl mg) (aj:Fn P w K mg base "is_list_of" ["value","count"] k (zI (qd))) (bB:Fn P w K mg base "fall_row" ["thing","mode","measure","step"] k (zI (zI8 ag af))) (al:Fn P w K mg base "shows" ["rows","target","shares"] k (zI (ZD))) (aH:Fn P w K mg base "standing" ["thing","rows"] k (zI (Uh ag af))) (aJ:Fn P w K mg base "other_side" ["row"] k (zI (UR))):zH P w K mg base zW (k + 1) f fd ["thing","mode","claim","paper","shares"] (zI (zLZ ag af aComes aFalls)):=by
 refine zm F U0 (λds R h=>by obtain ⟨n,bs,ms,m,s,g,t,room,A1,A2,ws,b,st,tp,A6,A7,A8,d,k,rfl,_⟩:=h; rfl) λcdv A outer s H E hr=>⟨_,(zJ (yB (yy (yY (zO aj hr rfl (zB (zA 4) (zB (zj yQ yS rfl B.len_ yR (zB (zp K (zA 2) rfl) zC)) zC))))) (zM (zS xP)) yA)
  (zJ (zg 5 U0.nd rfl (Or.inr rfl) (zO bB hr rfl (zB (zA 0) (zB (zA 1) (zB (zp K (zA 3) rfl) (zB (zp K (zA 3) rfl) zC))))))
  (zJ (zg 6 U0.nd rfl (Or.inr rfl) (zU (zp K (zA 3) rfl) (zp K (zA 1) rfl)))
  (zM (zS (zj (wn rfl) wt rfl B.all_ wo (zB (yT (own:=["row","part"]) (caps:=[(0,"thing"),(5,"target"),(6,"rows")]) (yF (S:=zK XT) (N:=["thing","mode","claim","paper","shares","target","rows"]) rfl (by decide +kernel) rfl ⟨_,rfl⟩ rfl (by decide +kernel) (by decide +kernel)) rfl rfl (v7 (xo (xo uA))) (v9 rfl B.zip_ (zB (zp K (zA 2) rfl) (zB (zA 4) zC))) (λ_ _ _ _=>(xI rfl (zY 0 (show (["row","part","thing","target","rows"]:List Str).Nodup by decide +kernel) rfl (Or.inl rfl) (zY 1 (show (["row","part","thing","target","rows"]:List Str).Nodup by decide +kernel) rfl (Or.inl rfl) xH)))) (λ_ _ _ _=>(zO al hr rfl (zB (zO aH hr rfl (zB (zA 2) (zB (zU (zA 4) (yH (zB (zO aJ hr rfl (zB (zA 0) zC)) zC))) zC))) (zB (zA 3) (zB (zA 1) zC)))))) zC))))))),λds R h=>?_⟩
 obtain ⟨n,bs,ms,m,s,g,t,room,A1,A2,ws,b,st,tp,A6,A7,A8,d,k,rfl,TS,MO,MSm,PS,RG,f,sb,q⟩:=h
 have lg:(List.map U g).length=g.length:=List.length_map ..
 have fg:=RG.few
 have fr:=PS.rm.few
 have fm:=MSm.few
 have lw:=PS.lw
 have n3:=TS.ok.n3
 have b6:=TS.ok.b6
 refine ⟨⟨TComes.cl,AComes.n_goal⟩,_,rfl,d,_,k,rfl,f,w2 (λc1=>bR q ?_) λc1=>?_⟩
 ·rw [lg] at c1
  exact zJo (jG c1)
 rw [lg] at c1
 obtain ⟨as,rfl,la⟩:=k6 (ug c1)
 obtain ⟨es,e1,le,j,rfl,hj⟩:=f.lst_inv rfl
 cases e1
 have sb:=sb as rfl
 have FO:=zOe (n:=n) (p:=bs.length) MSm lw n3 PS.bw PS.st
 refine ⟨⟨TFalls.cl,AFalls.n_measure⟩,_,rfl,⟨TFalls.cl,AFalls.n_step⟩,_,rfl,n,bs,ms,m,ws,b,st,rfl,TS,MO,MSm,lw,PS.bw,PS.st,?_⟩
 refine ⟨⟨TFalls.cl,AFalls.n_room⟩,_,rfl,⟨aa.cl,ab.n_rows⟩,_,rfl,by rw [List.length_map,List.length_map]; omega,?_⟩
 rw [XI]
 refine ⟨⟨TComes.cl,AComes.n_goal⟩,_,rfl,?_⟩
 refine ZC U zr uf (λr a=>ww (u7 n bs (room++m.rows++[yM r])) (ve n bs.length ws st m) (n + bs.length) a) (by omega) (λr a hm=>?_) ⟨_,rfl,bR q ?_⟩
 ·have h1:=(List.of_mem_zip hm).1
  have h2:=(List.of_mem_zip hm).2
  have hR:∀ y∈room++m.rows++[yM r],y.length=n + 1/\∀ x∈y,Bd 1000 x:=λy hy=>by
   rcases List.mem_append.mp hy with hy | hy
   ·rcases List.mem_append.mp hy with hy | hy
    ·exact ⟨(PS.rm.row y hy).1,λx hx=>((PS.rm.row y hy).2 x hx).mono⟩
    ·exact ⟨MO.rows y hy,λx hx=>(MSm.rows y hy x hx).mono⟩
   ·rw [List.mem_singleton.mp hy]
    have:=zK4 (RG.row r h1)
    exact ⟨this.1,λx hx=>(this.2 x hx).mono⟩
  have lR:(room++m.rows++[yM r]).length<=400:=by
   rw [List.length_append,List.length_append]
   show _ + 1<=400
   omega
  exact ⟨_,r,rfl,.inr rfl,by rw [(RG.row r h1).1]; omega,k0,by rw [List.length_map,List.length_append]; show _ + 1<=1000; omega,n,bs,ms,room++m.rows++[yM r],by rw [<- XI]; rfl,n3,b6,λy hy=>(hR y hy).1,by omega,_,_,n + bs.length,a,j,rfl,FO.1,FO.2,zIj hR lR n3 b6 TS.bs,hj a h2,sb a h2,rfl⟩
 ·show (decide _ && _)=_
  rw [decide_eq_true la,vN]
  rfl
theorem zGp {k:Nat} {f:Addr} {fd:FuncData} (F:zc K "falls_hold" "falls_hold" XU f fd) (B:Bl mg) (aI:v4 P w K mg base ag "modes" ["self"] k (zI (UW ag af))) (aj:Fn P w K mg base "is_list_of" ["value","count"] k (zI (qd))) (bC:Fn P w K mg base "mode_falls" ["thing","mode","claim","paper","shares"] k (zI (zLZ ag af aComes aFalls))):zH P w K mg base zW (k + 1) f fd ["thing","claim","paper"] (zI (zLf ag af aComes aFalls)):=by
 refine zm F zD4 (λds R h=>by obtain ⟨n,bs,ms,s,g,t,room,A1,A2,ws,b,st,tp,A6,A7,A8,k,rfl,_⟩:=h; rfl) λcdv A outer s H E hr=>⟨_,(zJ (zg 3 zD4.nd rfl (Or.inl rfl) (kZ aI ac hr (zA 0)))
  (zJ (yB (yy (yY (zO aj hr rfl (zB (zp K (zA 2) rfl) (zB (zj yQ yS rfl B.len_ yR (zB (zA 3) zC)) zC))))) (zM (zS xP)) yA)
  (zM (zS (zj (wn rfl) wt rfl B.all_ wo (zB (yT (own:=["mode","shares"]) (caps:=[(0,"thing"),(1,"claim"),(2,"paper")]) (yF (S:=zK XU) (N:=["thing","claim","paper","modes"]) rfl (by decide +kernel) rfl ⟨_,rfl⟩ rfl (by decide +kernel) (by decide +kernel)) rfl rfl (v7 (xo (xo uA))) (v9 rfl B.zip_ (zB (zA 3) (zB (zp K (zA 2) rfl) zC))) (λ_ _ _ _=>(xI rfl (zY 0 (show (["mode","shares","thing","claim","paper"]:List Str).Nodup by decide +kernel) rfl (Or.inl rfl) (zY 1 (show (["mode","shares","thing","claim","paper"]:List Str).Nodup by decide +kernel) rfl (Or.inl rfl) xH)))) (λ_ _ _ _=>(zO bC hr rfl (zB (zA 2) (zB (zA 0) (zB (zA 3) (zB (zA 4) (zB (zA 1) zC)))))))) zC)))))),λds R h=>?_⟩
 obtain ⟨n,bs,ms,s,g,t,room,A1,A2,ws,b,st,tp,A6,A7,A8,k,rfl,TS,PS,RG,f,sb,q⟩:=h
 have m40:=TS.ok.m40
 have lm:(List.map (wN af) ms).length=ms.length:=List.length_map ..
 refine ⟨rfl,by decide +kernel,n,bs,ms,rfl,?_⟩
 refine ⟨⟨TFalls.cl,AFalls.n_falls⟩,_,rfl,A6,_,k,rfl,f,w2 (λc1=>bR q ?_) λc1=>?_⟩
 ·rw [lm] at c1
  exact zLM (jG c1)
 rw [lm] at c1
 obtain ⟨as,rfl,la⟩:=k6 (ug c1)
 obtain ⟨es,e1,le,j,rfl,hj⟩:=f.lst_inv rfl
 cases e1
 have sb:=sb as rfl
 refine ⟨⟨TFalls.cl,AFalls.n_falls⟩,_,rfl,?_⟩
 refine ZC (wN af) xG (XB _) (λm a=>k9 n bs room ws st g m a) (by omega) (λm a hm=>?_) ⟨_,rfl,bR q ?_⟩
 ·have h1:=(List.of_mem_zip hm).1
  have h2:=(List.of_mem_zip hm).2
  exact ⟨n,bs,ms,m,s,g,t,room,A1,A2,ws,b,st,tp,_,A7,A8,a,j,rfl,TS,TS.ok.mok m h1,TS.ms m h1,PS,RG,hj a h2,sb a h2,rfl⟩
 ·show (decide _ && _)=_
  rw [decide_eq_true la,vN]
  rfl
theorem zFR {k:Nat} {f:Addr} {fd:FuncData} (F:zc K "lets_fall_by" "lets_fall_by" U1 f fd) (B:Bl mg) (ap:Fn P w K mg base "is_room" ["value","many"] k (zI (Yx))) (bE:Fn P w K mg base "comes_over" ["claim","many"] k (zI (zF6 aComes))) (ai:Fn P w K mg base "is_whole" ["thing"] k (zI (jE))) (aD:Fn P w K mg base "is_row" ["value","many"] k (zI (jp))) (aF:Fn P w K mg base "each_shown" ["rows","targets","shares"] k (zI (Uk))) (bF:Fn P w K mg base "leads" ["thing","room","behind","steps"] k (zI (zNq ag af))) (al:Fn P w K mg base "shows" ["rows","target","shares"] k (zI (ZD))) (bG:Fn P w K mg base "height_at_most" ["measure","top"] k (zI (ZF))) (bH:Fn P w K mg base "falls_hold" ["thing","claim","paper"] k (zI (zLf ag af aComes aFalls))) (bI:Fn P w K mg base "floors_hold" ["claim","paper"] k (zI (zLd aComes aFalls))):zH P w K mg base zW (k + 1) f fd ["thing","claim","paper"] (zI (zQS ag af aComes aFalls)):=by
 refine zm F zFB (λds R h=>by obtain ⟨n,bs,ms,s,g,t,room,A1,A2,ws,b,st,tp,A6,A7,A8,k,rfl,_⟩:=h; rfl) λcdv A outer s H E hr=>⟨_,(zJ (yB (PW.pt (wW (yy (yY (zO bE hr rfl (zB (zA 1) (zB (zp K (zA 0) rfl) zC))))) (vL (yy (yY (zO ap hr rfl (zB (zp K (zA 2) rfl) (zB (zp K (zA 0) rfl) zC)))))))) (zM (zS xP)) yA)
  (zJ (yB (PW.pt (wW (yy (yY (zO aD hr rfl (zB (zp K (zA 2) rfl) (zB (zp K (zA 0) rfl) zC))))) (wW (yy (yY (zO ai hr rfl (zB (zp K (zA 2) rfl) zC)))) (vL (yy (yY (zO ai hr rfl (zB (zp K (zA 2) rfl) zC)))))))) (zM (zS xP)) yA)
  (zJ (yB (PW.pt (wW (Wp (zp K (zA 2) rfl) zD) (vL (Wq (zx (zp K (zA 1) rfl) (zp K (zA 2) rfl)) (zp K (zA 2) rfl))))) (zM (zS xP)) yA)
  (zJ (yB (yy (yY (zO aF hr rfl (zB (zp K (zA 1) rfl) (zB (zp K (zA 2) rfl) (zB (zp K (zA 2) rfl) zC)))))) (zM (zS xP)) yA)
  (zJ (yB (yy (yY (zO bF hr rfl (zB (zA 0) (zB (zp K (zA 2) rfl) (zB (zp K (zA 2) rfl) (zB (zp K (zA 2) rfl) zC))))))) (zM (zS xP)) yA)
  (zJ (yB (yy (yY (zO al hr rfl (zB (zp K (zA 1) rfl) (zB (zO bG hr rfl (zB (zp K (zA 2) rfl) (zB (zp K (zA 2) rfl) zC))) (zB (zp K (zA 2) rfl) zC)))))) (zM (zS xP)) yA)
  (zM (zS (wM (zO bI hr rfl (zB (zA 1) (zB (zA 2) zC))) (vZ (zO bH hr rfl (zB (zA 0) (zB (zA 1) (zB (zA 2) zC)))))))))))))),λds R h=>?_⟩
 obtain ⟨n,bs,ms,s,g,t,room,A1,A2,ws,b,st,tp,A6,A7,A8,k,rfl,TS,PS,RG,RS,t0,bt,F1,F2,F6,F7,F8,B1,B2,B6,B7,B8,q⟩:=h
 have n3:=TS.ok.n3
 have lw:=PS.lw
 refine ⟨⟨ac.cl,ae.n_many⟩,_,rfl,s,g,t,n,rfl,n3,RS,RG,t0,wF rfl ?_⟩
 refine ⟨⟨TFalls.cl,AFalls.n_room⟩,_,rfl,⟨ac.cl,ae.n_many⟩,_,rfl,_,_,3,rfl,qY (by have:=PS.rm.few; omega) (λr hr=>by rw [(PS.rm.row r hr).1]; omega),wF (by rw [Y9 λr hr=>by rw [(PS.rm.row r hr).1]; rfl]; rfl) ?_⟩
 refine ⟨⟨TFalls.cl,AFalls.n_measure⟩,_,rfl,⟨ac.cl,ae.n_many⟩,_,rfl,_,_,2,rfl,ju (by rw [List.length_append]; show _ + 1<=900; omega),wF (by rw [zNX (by rw [List.length_append,lw]; rfl)]; rfl) ?_⟩
 refine ⟨⟨TFalls.cl,AFalls.n_step⟩,_,rfl,_,rfl,rfl,wF rfl ?_⟩
 refine ⟨⟨TFalls.cl,AFalls.n_top⟩,_,rfl,_,rfl,rfl,wF rfl ?_⟩
 refine ⟨⟨TFalls.cl,AFalls.n_step⟩,_,rfl,w2 (λc1=>wT rfl (bR q (if_pos (.inl (of_decide_eq_true c1))))) λc1=>?_⟩
 refine ⟨⟨TComes.cl,AComes.n_turns⟩,_,rfl,⟨TFalls.cl,AFalls.n_step⟩,_,rfl,bt.mono,PS.st.mono,⟨TFalls.cl,AFalls.n_top⟩,_,rfl,w2 (λc2=>bR q (if_pos (.inr (of_decide_eq_true c2)))) λc2=>?_⟩
 have z:uC n bs ms s g t room ws b st tp A1 A2 A6 A7 A8=(qZ s room n A1 && (k8 n bs ms room room A2 && (ww s (ws++[tp - b]) n A8 && (XH n room ws b g A7 && ZA n bs ms room ws st g A6)))):=if_neg (λh=>h.elim (of_decide_eq_false c1) (of_decide_eq_false c2))
 rw [z] at q
 clear z
 refine ⟨⟨TComes.cl,AComes.n_start⟩,_,rfl,⟨TFalls.cl,AFalls.n_room⟩,_,rfl,⟨TFalls.cl,AFalls.n_starts⟩,_,rfl,s,room,n,A1,k,rfl,RS.rw n3,PS.rm.rw n3,F1,B1,w2 (λc3=>bR q (by rw [jG c3]; rfl)) λc3=>?_⟩
 rw [ug c3] at q
 refine ⟨⟨TFalls.cl,AFalls.n_room⟩,_,rfl,⟨TFalls.cl,AFalls.n_room⟩,_,rfl,⟨TFalls.cl,AFalls.n_steps⟩,_,rfl,n,bs,ms,room,room,A2,k,rfl,TS,PS.rm,PS.rm,F2,B2,w2 (λc4=>bR q (by rw [jG c4]; rfl)) λc4=>?_⟩
 rw [ug c4] at q
 refine ⟨⟨TComes.cl,AComes.n_start⟩,_,rfl,⟨TFalls.cl,AFalls.n_measure⟩,_,rfl,⟨TFalls.cl,AFalls.n_top⟩,_,rfl,ws,b,tp,rfl,by omega,?_⟩
 refine ⟨⟨TFalls.cl,AFalls.n_tops⟩,_,rfl,s,ws++[tp - b],n,A8,k,rfl,by rw [List.length_append,lw]; rfl,λx hx=>?_,RS.rw n3,F8,B8,w2 (λc5=>bR q (by rw [jG c5]; rfl)) λc5=>?_⟩
 ·rcases List.mem_append.mp hx with hx | hx
  ·exact (PS.bw x hx).mono
  ·rw [List.mem_singleton.mp hx]
   exact (PS.tp.sub PS.bb).mono
 rw [ug c5] at q
 refine ⟨s,g,t,room,A1,A2,ws,b,st,tp,A6,A7,A8,n,k,rfl,PS,RG,n3,F7,B7,w2 (λc6=>?_) λc6=>bR q (by rw [c6]; rfl)⟩
 rw [c6] at q
 exact ⟨n,bs,ms,s,g,t,room,A1,A2,ws,b,st,tp,A6,A7,A8,k,rfl,TS,PS,RG,F6,B6,q⟩
theorem zJf {k:Nat} {f:Addr} {fd:FuncData} (F:zc K "lets_by" "lets_by" U2 f fd) (B:Bl mg) (bJ:Fn P w K mg base "ask_closed" ["thing"] k (zI (zF7 ag af))) (bK:Fn P w K mg base "lets_rooms_by" ["thing","claim","paper"] k (zI fNo)) (bL:Fn P w K mg base "lets_fall_by" ["thing","claim","paper"] k (zI (zQS ag af aComes aFalls))):zH P w K mg base zW (k + 1) f fd ["thing","claim","paper"] (zI (zNp ag af aComes aFalls)):=by
 refine zm F zJY (λds R h=>by obtain ⟨n,bs,ms,s,g,t,room,A1,A2,ws,b,st,tp,A6,A7,A8,k,rfl,_⟩:=h; rfl) λcdv A outer s H E hr=>⟨_,(zJ (zMZ (zO bJ hr rfl (zB (zA 0) zC)))
  (zJ (yB (PW.pt (Wu (yY (yG (xY ga rfl B.isinstance_ xy (zl (zA 1) (zl (gZ TSettles rfl) yI))) ka)) (Wt (yY (yG (xY ga rfl B.isinstance_ xy (zl (zA 2) (zl (gZ TRooms rfl) yI))) ka))))) (zM (zS (zO bK hr rfl (zB (zA 0) (zB (zA 1) (zB (zA 2) zC)))))) yA)
  (zJ (yB (PW.pt (Wu (yY (yG (xY ga rfl B.isinstance_ xy (zl (zA 1) (zl (gZ TComes rfl) yI))) ka)) (Wt (yY (yG (xY ga rfl B.isinstance_ xy (zl (zA 2) (zl (gZ TFalls rfl) yI))) ka))))) (zM (zS (zO bL hr rfl (zB (zA 0) (zB (zA 1) (zB (zA 2) zC)))))) yA)
  (zM (zS xP))))),λds R h=>?_⟩
 obtain ⟨n,bs,ms,s,g,t,room,A1,A2,ws,b,st,tp,A6,A7,A8,k,rfl,TS,PS,RG,RS,t0,bt,F1,F2,F6,F7,F8,B1,B2,B6,B7,B8,cl,q⟩:=h
 refine ⟨n,bs,ms,rfl,TS.ok,cl,?_⟩
 refine ⟨⟨_,_,TComes⟩,_,Y.k_Comes_Settles,wF rfl (wF rfl ?_)⟩
 refine ⟨⟨_,_,TComes⟩,_,Wa,wT rfl ?_⟩
 refine ⟨⟨_,_,TFalls⟩,_,Wa,wT rfl ?_⟩
 exact ⟨n,bs,ms,s,g,t,room,A1,A2,ws,b,st,tp,A6,A7,A8,k,rfl,TS,PS,RG,RS,t0,bt,F1,F2,F6,F7,F8,B1,B2,B6,B7,B8,q⟩
end
structure jH (e:Nat) (m:MD):Prop where
 nexts:∀ r∈m.nexts,∀ x∈r,Bd e x
 steer:∀ x∈m.steer,Bd e x
 push:∀ r∈m.push,∀ x∈r,Bd e x
 add:∀ x∈m.add,Bd e x
 div:Bd e m.div
 rows:∀ r∈m.rows,∀ x∈r,Bd e x
 few:m.rows.length<=100
theorem jH.ms {e:Nat} {m:MD} (h:jH e m) (k:e<=300):MS m:=⟨λr hr x hx=>(h.nexts r hr x hx).mono k,λr hr x hx=>(h.push r hr x hx).mono k,λx hx=>(h.add x hx).mono k,h.div.mono k,λr hr x hx=>(h.rows r hr x hx).mono k,h.few⟩
section
variable {P:Program} {w:World} {K:PySem.W.Frag} {mg:Str->Option Value} {base:Heap}
variable {aClaim aSettles aComes af ag aPaper aRooms aFalls:Addr} (TClaim:zE K mg "Claim" aClaim) (AClaim:wY K aClaim) (TSettles:zE K mg "Settles" aSettles) (ASettles:wZ K aSettles) (TComes:zE K mg "Comes" aComes) (AComes:wa K aComes) (aa:zE K mg "Mode" af) (ab:wb K af) (ac:zE K mg "Thing" ag) (ae:wc K ag) (TPaper:zE K mg "Paper" aPaper) (APaper:wd K aPaper) (TRooms:zE K mg "Rooms" aRooms) (ARooms:we K aRooms) (TFalls:zE K mg "Falls" aFalls) (AFalls:wf K aFalls) (Y:yd K aComes aSettles)
include TClaim AClaim TSettles ASettles TComes AComes aa ab ac ae TPaper APaper TRooms ARooms TFalls AFalls Y
end
theorem md (a:Int) {b:Int} (h:0 < b):0<=a.fmod b/\a.fmod b < b:=⟨Int.fmod_nonneg_of_pos a h,Int.fmod_lt_of_pos a h⟩
theorem vO {n:Nat} {a b:Int} (h:Bd n b) (p:0 < b):Bd n (a.fmod b):=by
 have:=md a p
 exact h.of_le (by omega)
theorem jz {n:Nat} (h:n<=3):Bd 2 (n:Int):=by
 show (n:Int).natAbs < 2 ^ 2
 omega
theorem U3 {α:Type} {xs:List α} {i:Int} (h0:0<=i) (h1:i < (xs.length:Int)):∃ x∈xs,yp xs i=some x:=by
 obtain ⟨k,rfl⟩:=Int.eq_ofNat_of_zero_le h0
 have hk:k < xs.length:=by omega
 refine ⟨xs[k],List.getElem_mem hk,?_⟩
 unfold yp wl
 rw [if_pos (by omega),if_pos (by omega)]
 show xs[((k:Nat):Int).toNat]? = _
 rw [show ((k:Nat):Int).toNat=k by omega,List.getElem?_eq_getElem hk]
theorem zQi {xs:List Int} {i:Int} (h0:0<=i) (h1:i < (xs.length:Int)):∃ x∈xs,yp (xs.map D.int) i=some (.int x):=by
 obtain ⟨x,hx,e⟩:=U3 h0 h1
 exact ⟨x,hx,by rw [jj,e]; rfl⟩
theorem yf {xs:List Int} {i:Int} {R:D->Prop} (h0:0<=i) (h1:i < (xs.length:Int)) (q:∀ x∈xs,R (.int x)):∃ d,yp (xs.map D.int) i=some d/\R d:=by
 obtain ⟨x,hx,e⟩:=zQi h0 h1
 exact ⟨_,e,q x hx⟩
theorem vH {xs:List D} {i:Int} {R:D->Prop} (h0:0<=i) (h1:i < (xs.length:Int)) (q:∀ x∈xs,R x):∃ d,yp xs i=some d/\R d:=by
 obtain ⟨x,hx,e⟩:=U3 h0 h1
 exact ⟨_,e,q x hx⟩
theorem zQh {y f:Int} {n:Nat} (h:Bd n f) (h1 : -f<=y) (h2:y<=f):Bd n y:=h.of_le (by omega)
theorem vf {α:Type} {P:α->Prop} {xs:List α} {y:α} (h:∀ x∈xs,P x) (k:P y):∀ x∈xs++[y],P x:=λx hx=>by
 rcases List.mem_append.mp hx with hx | hx
 ·exact h x hx
 ·rw [List.mem_singleton.mp hx]; exact k
theorem zI0 {α β:Type} (f:α->β) (xs:List α) (y:α):(xs.map f)++[f y]=(xs++[y]).map f:=by rw [List.map_append]; rfl
theorem zJB {xs:List D} {k:Nat}:zV xs (some (k:Int)) none=xs.drop k:=by
 unfold zV
 rw [HT.sIx_none,HT.sIx_nat,List.take_of_length_le (by rw [List.length_drop]; omega)]
 by_cases h:k<=xs.length
 ·rw [Nat.min_eq_left h]
 ·rw [Nat.min_eq_right (by omega),List.drop_length,List.drop_of_length_le (by omega)]
abbrev XV:Int:=10 ^ (45:Int).toNat
def U4:FL:=λds R=>∃ ns k,ds=[.scr ns,.int k]/\0<=k/\∀ c,R (.int c)
def XW (xs:List Int):Prop:=∀ x∈xs,0<=x/\Bd 150 x
def ZH:FL:=λds R=>∃ (c:Int) (n:Nat),ds=[.int c,.int (n:Int)]/\n<=100/\∀ xs,xs.length=n->XW xs->R (L xs)
def ZI:FL:=λds R=>∃ x far:Int,ds=[.int x,.int far]/\0<=far/\Bd 9000 far/\∀ y,-far<=y->y<=far->R (.int y)
def ZJ:FL:=λds R=>∃ (c:Int) (n:Nat) (u:Int),ds=[.int c,.int (n:Int),.int u]/\n<=3/\0<=u/\Bd 100 u/\∀ bs:List (Int × Int),bs.length=n->(∀ b∈bs,b.1<=b.2/\Bd 105 b.1/\Bd 105 b.2)->R (.lst (bs.map zw))
def xu (n i:Nat) (b:Int × Int):List (List Int):=[xO (i:Int) n 1++[b.2],(xO (i:Int) n 1).map (λx=>0 - x)++[0 - b.1]]
def jI (bs:List (Int × Int)):List (List Int):=(bs.mapIdx (xu bs.length)).flatten
def zQQ:FL:=λds R=>∃ bs:List (Int × Int),ds=[.lst (bs.map zw)]/\bs.length<=100/\R (Rm (jI bs))
def ZK:FL:=λds R=>∃ (d:D) (ns:List Int) (bs:List (Int × Int)),ds=[d,.lst (bs.map zw)]/\IS d ns/\ns.length<=3/\(∀ x∈ns,Bd 10 x)/\(∀ b∈bs,Bd 105 b.1/\Bd 105 b.2)/\∀ t,Bd 120 t->R (.int t)
def U5:FL:=λds R=>∃ (d:D) (ns:List Int),ds=[d]/\IS d ns/\ns.length<=100/\(∀ x∈ns,Bd 200 x)/\∀ ys,ys.length=2 * ns.length->(∀ y∈ys,0<=y/\Bd 200 y)->R (L ys)
abbrev xN (m:MD):D:=.tup [Rm m.rows,Tb m.nexts,L m.steer,Tb m.push,L m.add,.int m.div]
abbrev vP (n:Nat) (bs:List (Int × Int)) (ms:List MD) (u:Int):D:=.tup [.int (n:Int),.lst (bs.map zw),.lst (ms.map xN),.int u]
def zQR (C CM:Addr):FL:=λds R=>∃ n bs ms u,ds=[vP n bs ms u]/\wU n bs ms/\R (wv C CM n bs ms)
theorem zQJ (i j:Nat):(if decide ((j:Int)=(i:Int))=true then (1:Int) else 0)=if (j:Int)=(i:Int) then 1 else 0:=by
 by_cases c:(j:Int)=(i:Int)
 ·rw [if_pos c,if_pos (decide_eq_true c)]
 ·rw [if_neg c,if_neg (by rw [decide_eq_false c]; exact Bool.false_ne_true)]
theorem U6 {bs:List (Int × Int)} {k:Nat} (h:k < bs.length) {i:Int} (e:i=(k:Int)):yp (bs.map zw) i=some (zw bs[k]):=by
 rw [jj,e]
 unfold yp wl
 rw [if_pos (by omega),if_pos (by omega)]
 show Option.map zw bs[((k:Nat):Int).toNat]? = _
 rw [show ((k:Nat):Int).toNat=k by omega,List.getElem?_eq_getElem h]
 rfl
theorem zMP {α:Type} {l:List (List α)} {k:Nat} {x:List α} (h:l[k]? = some x):(l.take (k + 1)).flatten=(l.take k).flatten++x:=by
 rw [gU h,List.flatten_append,List.flatten_singleton]
section
variable {P:Program} {w:World} {K:PySem.W.Frag} {mg:Str->Option Value} {base:Heap}
abbrev U7:Stmt:=zi 68
theorem zHF:za ["_law_script","_law_k"] ["_law_script","_law_k"] (zK U7):=.a
abbrev U8:Stmt:=zi 69
theorem jJ:za ["_law_cell","_law_many","_law_found","_law_rest","_law_k","_law_number_here"] ["_law_cell","_law_many"] (zK U8):=.a
abbrev U9:Stmt:=zi 76
theorem zHq:za ["_law_x","_law_far"] ["_law_x","_law_far"] (zK U9):=.a
abbrev JA:Stmt:=zi 78
theorem ZM:za ["_law_cell","_law_many","_law_unit","_law_xs","_law_box_here","_law_i","_law_low"] ["_law_cell","_law_many","_law_unit"] (zK JA):=.a
abbrev ZN:Stmt:=zi 79
theorem XX:za ["_law_box_here","_law_rows_here","_law_i","_law_ones"] ["_law_box_here"] (zK ZN):=.a
variable {aClaim aSettles aComes af ag aPaper aRooms aFalls:Addr} (TClaim:zE K mg "Claim" aClaim) (AClaim:wY K aClaim) (TSettles:zE K mg "Settles" aSettles) (ASettles:wZ K aSettles) (TComes:zE K mg "Comes" aComes) (AComes:wa K aComes) (aa:zE K mg "Mode" af) (ab:wb K af) (ac:zE K mg "Thing" ag) (ae:wc K ag) (TPaper:zE K mg "Paper" aPaper) (APaper:wd K aPaper) (TRooms:zE K mg "Rooms" aRooms) (ARooms:we K aRooms) (TFalls:zE K mg "Falls" aFalls) (AFalls:wf K aFalls) (Y:yd K aComes aSettles)
include TClaim AClaim TSettles ASettles TComes AComes aa ab ac ae TPaper APaper TRooms ARooms TFalls AFalls Y
theorem zHO {k:Nat} {f:Addr} {fd:FuncData} (F:zc K "_law_cell_at" "_law_cell_at" U7 f fd) (B:Bl mg):zH P w K mg base zW (k + 1) f fd ["_law_script","_law_k"] (zI (U4)):=by
 refine zm F zHF (λds R h=>by obtain ⟨ns,k,rfl,_⟩:=h; rfl) λcdv A outer s H E hr=>⟨_,(zJ (yB (Wp (zA 1) (zj yQ yS rfl B.len_ yR (zB (zA 0) zC))) (zM (zS (zP (zA 0) (zA 1) (λ_ _=>rfl)))) yA)
  (zM (zS zD))),λds R h=>?_⟩
 obtain ⟨ns,k,rfl,h0,q⟩:=h
 refine w2 (λc=>?_) λc=>q 0
 obtain ⟨x,_,e⟩:=U3 h0 (of_decide_eq_true c)
 exact ⟨x,e,q x⟩
theorem zH4 {k:Nat} {f:Addr} {fd:FuncData} (F:zc K "_law_stream" "_law_stream" U8 f fd) (B:Bl mg):zH P w K mg base zW (k + 1) f fd ["_law_cell","_law_many"] (zI (ZH)):=by
 refine zm F jJ (λds R h=>by obtain ⟨c,n,rfl,_⟩:=h; rfl) λcdv A outer s H E hr=>⟨_,(zJ (wX 2 jJ.nd rfl (Or.inl rfl) zC)
  (zJ (yB (zPN (zA 0) (u9 zD zD)) (zJ (zg 3 jJ.nd rfl (Or.inl rfl) (xj (zA 0) (u9 zD zD)))
   (zJ (wu PassesOwn.never rfl (xm rfl B.range_ (zB (zA 1) zC)) (zz 4 jJ.nd rfl (Or.inl rfl)) (zJ (zv (xX (xg PySem.F.plainAttrs_list PySem.F.slot_list_append PySem.F.type_list_append yL (yJ 2) (zl (yW (zA 3) (u9 zD zD)) yI))) xq)
    (zM (zg 3 jJ.nd rfl (Or.inl rfl) (xR (zA 3) (u9 zD zD))))))
   (zM (wC 2 (zS (zA 2)))))) yA)
  (zJ (zg 5 jJ.nd rfl (Or.inl rfl) (zU (yW (zA 0) (zU (u9 zD zD) zD)) zD))
  (zJ (wu PassesOwn.never rfl (xm rfl B.range_ (zB (zU (zA 1) zD) zC)) (zz 4 jJ.nd rfl (Or.inl rfl)) (zJ (zg 5 jJ.nd rfl (Or.inl rfl) (yW (zU (zU (zx (zA 5) (zA 5)) (zx zD (zA 5))) (zA 4)) (zU (u9 zD zD) zD)))
   (zM (zv (xX (xg PySem.F.plainAttrs_list PySem.F.slot_list_append PySem.F.type_list_append yL (yJ 2) (zl (zA 5) yI))) xq))))
  (zM (wC 2 (zS (yk (zA 2) (ya zD) yn)))))))),λds R h=>?_⟩
 obtain ⟨c,n,rfl,n1,q⟩:=h
 have b45:Bd 150 XV:=Bd.lit
 have p45:(0:Int) < XV:=by decide
 have b18:Bd 60 ((10:Int) ^ (18:Int).toNat + 9):=Bd.lit
 have p18:(0:Int) < (10:Int) ^ (18:Int).toNat + 9:=by decide
 refine ⟨k0,⟨by decide,by decide,by decide⟩,w2 (λc1=>?_) λc1=>?_⟩
 ·refine ⟨⟨by decide,by decide,by decide⟩,by omega,by omega,?_⟩
  rw [show ((n:Nat):Int).toNat=n by omega]
  refine ⟨λk Γ=>∃ (xs:List Int) (r:Int) (s4:Sl),Γ=[.sh (.int c),.sh (.int (n:Int)),.ow (xs.map D.int),.sh (.int r),s4,.no]/\xs.length=k/\XW xs,⟨[],_,.no,rfl,rfl,λ_ h=>nomatch h⟩,?_,?_⟩
  ·rintro k d Γ' hk ⟨xs,r,s4,rfl,lx,hx⟩
   obtain ⟨kn,rfl⟩:=ub hk
   refine ⟨⟨by decide,by decide,by decide⟩,by decide,by rw [List.length_map]; omega,?_⟩
   refine ⟨⟨by decide,by decide,by decide⟩,by decide,b45.mono,?_⟩
   refine ⟨xs++[r.fmod XV],r.fdiv XV,.sh (.int (k:Int)),?_,by rw [List.length_append,lx]; rfl,vf hx ⟨(md r p45).1,vO b45 p45⟩⟩
   rw [List.map_append]
   rfl
  ·rintro Γ' ⟨xs,r,s4,rfl,lx,hx⟩
   rw [uc] at lx
   exact q xs lx hx
 ·refine ⟨⟨by decide,by decide,by decide⟩,by decide,?_⟩
  have m0:=md c p18
  have bm:Bd 60 (c.fmod ((10:Int) ^ (18:Int).toNat + 9)):=vO b18 p18
  refine ⟨by omega,by omega,?_⟩
  rw [show ((n:Int) + 2).toNat=n + 2 by omega]
  refine ⟨λk Γ=>∃ (xs:List Int) (r:Int) (s4:Sl),Γ=[.sh (.int c),.sh (.int (n:Int)),.ow (xs.map D.int),.no,s4,.sh (.int r)]/\xs.length=k/\XW xs/\Bd 70 r,⟨[],_,.no,rfl,rfl,(λ_ h=>nomatch h),((bm.mono (show 60<=65 by decide)).add ((Bd.lit (i:=48271) (n:=16)).mono (show 16<=65 by decide))).mono⟩,?_,?_⟩
  ·rintro k d Γ' hk ⟨xs,r,s4,rfl,lx,hx,br⟩
   obtain ⟨kn,rfl⟩:=ub hk
   refine ⟨br.mono,br.mono,(Bd.lit (i:=48271) (n:=16)).mono,br.mono,⟨by decide,by decide,by decide⟩,by decide,by rw [List.length_map]; omega,?_⟩
   refine ⟨xs++[(r * r + 48271 * r + (k:Int)).fmod ((10:Int) ^ (18:Int).toNat + 9)],(r * r + 48271 * r + (k:Int)).fmod ((10:Int) ^ (18:Int).toNat + 9),.sh (.int (k:Int)),?_,?_,vf hx ⟨(md (r * r + 48271 * r + (k:Int)) p18).1,(vO b18 p18).mono⟩,(vO b18 p18).mono⟩
   ·rw [List.map_append]
    rfl
   ·rw [List.length_append,lx]; rfl
  ·rintro Γ' ⟨xs,r,s4,rfl,lx,hx,br⟩
   rw [uc] at lx
   have e:zV (xs.map D.int) (some 2) none=(xs.drop 2).map D.int:=by rw [show (2:Int)=((2:Nat):Int) from rfl,zJB,List.map_drop]
   have qq:=q (xs.drop 2) (by rw [List.length_drop]; omega) (λx hx'=>hx x (List.mem_of_mem_drop hx'))
   unfold L at qq
   rw [<- e] at qq
   exact qq
theorem zH7 {k:Nat} {f:Addr} {fd:FuncData} (F:zc K "_law_number" "_law_number" U9 f fd) (B:Bl mg):zH P w K mg base zW (k + 1) f fd ["_law_x","_law_far"] (zI (ZI)):=by
 refine zm F zHq (λds R h=>by obtain ⟨x,far,rfl,_⟩:=h; rfl) λcdv A outer s H E hr=>⟨_,(zM (zS (xj (yW (zA 0) (zU (zx zD (zA 1)) zD)) (zA 1)))),λds R h=>?_⟩
 obtain ⟨x,far,rfl,f0,bf,q⟩:=h
 have:=md x (show (0:Int) < 2 * far + 1 by omega)
 exact ⟨(Bd.lit (i:=2) (n:=2)).mono,bf.mono,by omega,q _ (by omega) (by omega)⟩
theorem zMx {k:Nat} {f:Addr} {fd:FuncData} (F:zc K "_law_box" "_law_box" JA f fd) (B:Bl mg) (ao:Fn P w K mg base "_law_stream" ["_law_cell","_law_many"] k (zI (ZH))) (ak:Fn P w K mg base "_law_number" ["_law_x","_law_far"] k (zI (ZI))):zH P w K mg base zW (k + 1) f fd ["_law_cell","_law_many","_law_unit"] (zI (ZJ)):=by
 refine zm F ZM (λds R h=>by obtain ⟨c,n,u,rfl,_⟩:=h; rfl) λcdv A outer s H E hr=>⟨_,(zJ (zg 3 ZM.nd rfl (Or.inl rfl) (zO ao hr rfl (zB (zA 0) (zB (zx zD (zA 1)) zC))))
  (zJ (wX 4 ZM.nd rfl (Or.inl rfl) zC)
  (zJ (wu PassesOwn.never rfl (xm rfl B.range_ (zB (zA 1) zC)) (zz 5 ZM.nd rfl (Or.inl rfl)) (zJ (zg 6 ZM.nd rfl (Or.inl rfl) (zx (zO ak hr rfl (zB (zP (zA 3) (zx zD (zA 5)) (λ_ _=>rfl)) (zB zD zC))) (zA 2)))
   (zM (zv (xX (xg PySem.F.plainAttrs_list PySem.F.slot_list_append PySem.F.type_list_append yL (yJ 4) (zl (xA (zB (zA 6) (zB (zU (zU (zA 6) (zx (yW (zP (zA 3) (zU (zx zD (zA 5)) zD) (λ_ _=>rfl)) zD) (zA 2))) (yW (xR (zP (zA 3) (zU (zx zD (zA 5)) zD) (λ_ _=>rfl)) zD) zD)) zC))) yI))) xq))))
  (zM (wC 4 (zS (zA 4))))))),λds R h=>?_⟩
 obtain ⟨c,n,u,rfl,n3,u0,bu,q⟩:=h
 have b2:Bd 2 (2:Int):=Bd.lit
 refine ⟨b2.mono,(jz n3).mono,c,2 * n,by rw [show ((2 * n:Nat):Int)=2 * (n:Int) by omega],by omega,λxs lx hx=>?_⟩
 refine ⟨k0,by omega,by omega,?_⟩
 rw [show ((n:Nat):Int).toNat=n by omega]
 refine ⟨λk Γ=>∃ (bs:List (Int × Int)) (s5 s6:Sl),Γ=[.sh (.int c),.sh (.int (n:Int)),.sh (.int u),.sh (L xs),.ow (bs.map zw),s5,s6]/\bs.length=k/\∀ b∈bs,b.1<=b.2/\Bd 105 b.1/\Bd 105 b.2,⟨[],.no,.no,rfl,rfl,λ_ h=>nomatch h⟩,?_,?_⟩
 ·rintro k d Γ' hk ⟨bs,s5,s6,rfl,lb,hb⟩
  obtain ⟨kn,rfl⟩:=ub hk
  have bk:Bd 2 (k:Int):=jz (by omega)
  refine ⟨b2.mono,bk.mono,yf (by omega) (by omega) λx hx1=>⟨x,3,rfl,by decide,(Bd.lit (i:=3) (n:=2)).mono,λy y1 y2=>?_⟩⟩
  have by2:Bd 2 y:=zQh (f:=3) Bd.lit y1 y2
  refine ⟨by2.mono,bu.mono,?_⟩
  refine ⟨b2.mono,bk.mono,yf (by omega) (by omega) λx2 hx2=>⟨by decide,(Bd.mono (n:=3) (vO Bd.lit (by decide)) (by decide)),bu.mono,b2.mono,bk.mono,yf (by omega) (by omega) λx3 hx3=>⟨by decide,(Bd.lit (i:=4) (n:=3)).mono,by decide,k0,by rw [List.length_map]; omega,?_⟩⟩⟩
  have m1:=md x2 (show (0:Int) < 4 by decide)
  have m2:=md (x3.fdiv 4) (show (0:Int) < 2 by decide)
  have g0:0<=x2.fmod 4 * u:=Int.mul_nonneg m1.1 u0
  have c1:Bd 102 (y * u):=by2.mul bu
  have c2:Bd 103 (x2.fmod 4 * u):=(vO (n:=3) Bd.lit (by decide)).mul bu
  have c3:Bd 2 ((x3.fdiv 4).fmod 2):=vO Bd.lit (by decide)
  refine ⟨bs++[(y * u,y * u + x2.fmod 4 * u + (x3.fdiv 4).fmod 2)],.sh (.int (k:Int)),.sh (.int (y * u)),?_,by rw [List.length_append,lb]; rfl,vf hb ⟨by show y * u<=y * u + x2.fmod 4 * u + (x3.fdiv 4).fmod 2; omega,c1.mono,((c1.mono (show 102<=103 by decide)).add c2 |>.add c3.mono).mono⟩⟩
  rw [List.map_append]
  rfl
 ·rintro Γ' ⟨bs,s5,s6,rfl,lb,hb⟩
  rw [uc] at lb
  exact q bs lb hb
theorem zKu {k:Nat} {f:Addr} {fd:FuncData} (F:zc K "_law_rows" "_law_rows" ZN f fd) (B:Bl mg):zH P w K mg base zW (k + 1) f fd ["_law_box_here"] (zI (zQQ)):=by
 refine zm F XX (λds R h=>by obtain ⟨bs,rfl,_⟩:=h; rfl) λcdv A outer s H E hr=>⟨_,(zJ (wX 1 XX.nd rfl (Or.inl rfl) zC)
  (zJ (wu PassesOwn.never rfl (xm rfl B.range_ (zB (zj yQ yS rfl B.len_ yR (zB (zA 0) zC)) zC)) (zz 2 XX.nd rfl (Or.inr rfl)) (zJ (jB 3 false XX.nd rfl rfl (own:=["_law_j"]) (caps:=[(2,"_law_i")]) (yF (S:=zK ZN) (N:=["_law_box_here","_law_rows_here","_law_i","_law_ones"]) rfl (by decide +kernel) rfl ⟨_,rfl⟩ rfl (by decide +kernel) (by decide +kernel)) rfl rfl yU (xm rfl B.range_ (zB (zj yQ yS rfl B.len_ yR (zB (zA 0) zC)) zC)) (λ_ _ _ _=>(zz 0 (show (["_law_j","_law_i"]:List Str).Nodup by decide +kernel) rfl (Or.inl rfl))) (λ_ _ _ _=>(xB QB KZ rfl B.int_ WT (zB (uZ hr.units (zA 0) (zA 1)) zC))) rfl)
   (zJ (zv (xX (xg PySem.F.plainAttrs_list PySem.F.slot_list_append PySem.F.type_list_append yL (yJ 1) (zl (xB vA vE rfl B.tuple_ xz (zB (zU (zA 3) (yH (zB (zP (zP (zA 0) (zA 2) (λ_ _=>rfl)) zD (λ_ _=>rfl)) zC))) zC)) yI))) xq)
   (zM (zv (xX (xg PySem.F.plainAttrs_list PySem.F.slot_list_append PySem.F.type_list_append yL (yJ 1) (zl (xB vA vE rfl B.tuple_ xz (zB (zU (yT (own:=["_law_one"]) (caps:=[]) (yF (S:=zK ZN) (N:=["_law_box_here","_law_rows_here","_law_i","_law_ones"]) rfl (by decide +kernel) rfl ⟨_,rfl⟩ rfl (by decide +kernel) (by decide +kernel)) rfl rfl yU (yt (zA 3)) (λ_ _ _ _=>(zz 0 (show (["_law_one"]:List Str).Nodup by decide +kernel) rfl (Or.inl rfl))) (λ_ _ _ _=>(xj zD (zA 0)))) (yH (zB (xj zD (zP (zP (zA 0) (zA 2) (λ_ _=>rfl)) zD (λ_ _=>rfl))) zC))) zC)) yI))) xq)))))
  (zM (wC 1 (zS (zA 1)))))),λds R h=>?_⟩
 obtain ⟨bs,rfl,l1,q⟩:=h
 have lp:(List.map zw bs).length=bs.length:=List.length_map ..
 refine ⟨k0,by omega,by omega,?_⟩
 rw [show ((List.length (List.map zw bs):Nat):Int).toNat=bs.length by omega]
 refine ⟨λk Γ=>∃ (s2 s3:Sl),Γ=[.sh (.lst (bs.map zw)),.ow ((((bs.mapIdx (xu bs.length)).take k).flatten).map U),s2,s3],⟨.no,.no,rfl⟩,?_,?_⟩
 ·rintro k d Γ' hk ⟨s2,s3,rfl⟩
  obtain ⟨kn,rfl⟩:=ub hk
  have hx:(bs.mapIdx (xu bs.length))[k]? = some (xu bs.length k bs[k]):=by rw [List.getElem?_mapIdx,List.getElem?_eq_getElem kn]; rfl
  have ll:((bs.mapIdx (xu bs.length)).take k).flatten.length=2 * k:=by
   rw [List.length_flatten]
   have e:((bs.mapIdx (xu bs.length)).take k).map List.length=List.replicate k 2:=by
    refine List.ext_getElem (by simp; omega) λi h1 h2=>?_
    simp [xu]
   rw [e]
   simp
   omega
  refine ⟨by omega,by omega,?_⟩
  rw [show ((List.length (List.map zw bs):Nat):Int).toNat=bs.length by omega]
  refine zk.rng0 (λj=>.int (if (j:Int)=(k:Int) then 1 else 0)) (by omega) (λj hj=>by show D.int _=_; rw [zQJ]) ?_
  have eu:(List.range bs.length).map (λj:Nat=>D.int (if (j:Int)=(k:Int) then 1 else 0))=(xO (k:Int) bs.length 1).map D.int:=by unfold xO; rw [List.map_map]; rfl
  rw [eu]
  refine ⟨_,U6 kn rfl,_,rfl,k0,by rw [List.length_map,uX]; show _ + 1<=1000; omega,by rw [List.length_map]; omega,?_⟩
  refine zk.int (λx=>0 - x) (by rw [uX]; omega) (λx hx=>rfl) ?_
  refine ⟨_,U6 kn rfl,_,rfl,k0,by rw [List.length_map,List.length_map,uX]; show _ + 1<=1000; omega,by rw [List.length_append,List.length_map]; show _ + 1 < 1000; omega,?_⟩
  refine ⟨.sh (.int (k:Int)),.sh (L (xO (k:Int) bs.length 1)),?_⟩
  rw [zMP hx,List.map_append]
  unfold xu
  rw [List.map_cons,List.map_cons,List.map_nil,U,U,List.map_append,List.map_append,<- List.append_cons]
  rfl
 ·rintro Γ' ⟨s2,s3,rfl⟩
  rw [uc,List.take_of_length_le (by rw [List.length_mapIdx]; omega)]
  exact q
end
theorem IS.zipL {d:D} {ns:List Int} {es:List D} (h:IS d ns) {R:List D->Prop} (q:R (List.zipWith xJ (ns.map D.int) es)):v8 [d,.lst es] R:=by
 rcases h with rfl | rfl <;> exact q
theorem JB {α β:Type} {u:α->D} {v:β->D}:∀ {xs:List α} {ys:List β} {d:D},d∈List.zipWith xJ (xs.map u) (ys.map v)->∃ x∈xs,∃ y∈ys,d=xJ (u x) (v y)
 | [],_,_,h=>by cases h
 | _ :: _,[],_,h=>by cases h
 | x :: xs,y :: ys,d,h=>by
  rw [List.map_cons,List.map_cons,List.zipWith_cons_cons] at h
  rcases List.mem_cons.mp h with rfl | h
  ·exact ⟨x,List.mem_cons_self,y,List.mem_cons_self,rfl⟩
  ·obtain ⟨a,ha,b,hb,e⟩:=JB h
   exact ⟨a,List.mem_cons_of_mem _ ha,b,List.mem_cons_of_mem _ hb,e⟩
theorem ZO {α β:Type} {u:α->D} {v:β->D} {xs:List α} {ys:List β} {k:Nat} {d:D} (h:(List.zipWith xJ (xs.map u) (ys.map v))[k]? = some d):∃ x∈xs,∃ y∈ys,d=xJ (u x) (v y):=JB (List.mem_of_getElem? h)
theorem ZP {e:Nat} {a b:Int} (h:Bd e a) (k:Bd e b):Bd e (max a b):=by
 rw [Int.max_def]
 split
 ·exact k
 ·exact h
theorem ZQ {a:Nat}:∀ {ns:List Int},(∀ x∈ns,Bd a x)->Bd (a + ns.length) ns.sum
 | [],_=>by rw [List.sum_nil]; exact xM
 | n :: ns,h=>by
  rw [List.sum_cons,List.length_cons]
  exact (((h n List.mem_cons_self).mono (show a<=a + ns.length by omega)).add (ZQ λx hx=>h x (List.mem_cons_of_mem _ hx))).mono (by omega)
theorem zNU:∀ {ns:List Int},(∃ c∈ns,c≠0)->1<=(ns.map λc=>c * c).sum
 | [],h=>by obtain ⟨_,h,_⟩:=h; cases h
 | n :: ns,h=>by
  rw [List.map_cons,List.sum_cons]
  have nn:∀ l:List Int,0<=(l.map λc=>c * c).sum:=λl=>by
   induction l with
   | nil=>exact Int.le_refl 0
   | cons a l ih=>
    rw [List.map_cons,List.sum_cons]
    have:(0:Int)<=a * a:=by rw [<- Int.natAbs_mul_self]; omega
    omega
  by_cases c:n=0
  ·obtain ⟨z,hz,z0⟩:=h
   have:=zNU (ns:=ns) ⟨z,(List.mem_cons.mp hz).resolve_left (λe=>z0 (e.trans c)),z0⟩
   rw [c]
   omega
  ·have h1:=nn ns
   have h2:0 < n * n:=by
    rcases Int.lt_or_gt_of_ne c with c | c
    ·exact Int.mul_pos_of_neg_of_neg c c
    ·exact Int.mul_pos c c
   omega
theorem zKB {P:List Int->Prop}:∀ {es:List D},(∀ e∈es,∃ r,e=L r/\P r)->∃ t:List (List Int),es=t.map L/\∀ r∈t,P r
 | [],_=>⟨[],rfl,λ_ h=>nomatch h⟩
 | e :: es,h=>by
  obtain ⟨ns,rfl,k⟩:=zKB (es:=es) λx m=>h x (List.mem_cons_of_mem _ m)
  obtain ⟨i,rfl,p⟩:=h e List.mem_cons_self
  exact ⟨i :: ns,rfl,λx m=>(List.mem_cons.mp m).elim (λz=>z ▸ p) (k x)⟩
theorem zQn (a b:List Int):L (a++b)=.lst (a.map D.int++b.map D.int):=by unfold L; rw [List.map_append]
theorem wO {y:Int} {f n:Nat} (h:f < 2 ^ n) (h1 : -(f:Int)<=y) (h2:y<=(f:Int)):Bd n y:=by
 show y.natAbs < 2 ^ n
 omega
structure Dr (n:Nat) (bs:List (Int × Int)) (ms:List MD) (u:Int) (goal:List Int) (often step:Int):Prop where
 ok:wU n bs ms
 hms:∀ m∈ms,jH 200 m
 cl:XA ms=true
 hbs:∀ b∈bs,Bd 105 b.1/\Bd 105 b.2
 u1:1<=u
 bu:Bd 100 u
 lg:goal.length=n
 bg:∀ c∈goal,-2<=c/\c<=2
 o1:1<=often
 o3:often<=3
 s1:1<=step
 bst:Bd 101 step
 b2:bs.length<=2
 m3:ms.length<=3
 r1:∀ m∈ms,m.rows.length<=1
 pb:∀ m∈ms,∀ r∈m.push,∀ x∈r,Bd 100 x
 dv:∀ m∈ms,Bd 3 m.div
def ZR:FL:=λds R=>∃ (xs goal:List Int) (bs:List (Int × Int)) (often step:Int),ds=[L xs,L goal,.lst (bs.map zw),.int often,.int step]/\4<=xs.length/\XW xs/\1<=goal.length/\goal.length<=3/\(∀ c∈goal,-2<=c/\c<=2)/\(∃ c∈goal,c≠0)/\bs.length<=2/\(∀ b∈bs,Bd 105 b.1/\Bd 105 b.2)/\1<=often/\often<=3/\1<=step/\Bd 101 step/\∀ m,yj m goal.length bs.length->jH 200 m->(∀ x∈m.steer,x=0)->m.rows.length<=1->(∀ r∈m.push,∀ x∈r,Bd 100 x)->Bd 3 m.div->R (xN m)
def zNt:FL:=λds R=>∃ ns,ds=[.scr ns]/\∀ n bs ms u goal often step,Dr n bs ms u goal often step->R (.tup [vP n bs ms u,L goal,.int often,.int step])
def zLS:FL:=λds R=>∃ n bs ms u m d ns,ds=[vP n bs ms u,xN m,d]/\n<=3/\bs.length<=2/\yj m n bs.length/\(∀ r∈m.push,∀ x∈r,Bd 100 x)/\IS d ns/\ns.length=n/\(∀ x∈ns,Bd 10 x)/\∀ ys,ys.length=2 * bs.length->(∀ y∈ys,0<=y/\Bd 200 y)->R (L ys)
section
variable {P:Program} {w:World} {K:PySem.W.Frag} {mg:Str->Option Value} {base:Heap}
abbrev JC:Stmt:=zi 81
theorem ZS:za ["_law_numbers","_law_box_here","_law_found","_law_number_here","_law_bounds"] ["_law_numbers","_law_box_here"] (zK JC):=.a
abbrev JD:Stmt:=zi 82
theorem XY:za ["_law_numbers","_law_found","_law_number_here"] ["_law_numbers"] (zK JD):=.a
abbrev ZT:Stmt:=zi 77
theorem vg:za ["_law_spec","_law_many","_law_pushes","_law_modes","_law_unit","_law_some","_law_rows_here","_law_nexts","_law_steer","_law_push","_law_add","_law_divisor_here","_law_lists"] ["_law_spec"] (zK ZT):=.a
abbrev uQ:Stmt:=zi 84
theorem vq:za ["_law_xs","_law_goal","_law_pushes","_law_often","_law_step","_law_many","_law_divisor_here","_law_push","_law_i","_law_pushed_here","_law_worst_push","_law_size","_law_far","_law_nexts","_law_rows_here","_law_row"] ["_law_xs","_law_goal","_law_pushes","_law_often","_law_step"] (zK uQ):=.a
variable {aClaim aSettles aComes af ag aPaper aRooms aFalls:Addr} (TClaim:zE K mg "Claim" aClaim) (AClaim:wY K aClaim) (TSettles:zE K mg "Settles" aSettles) (ASettles:wZ K aSettles) (TComes:zE K mg "Comes" aComes) (AComes:wa K aComes) (aa:zE K mg "Mode" af) (ab:wb K af) (ac:zE K mg "Thing" ag) (ae:wc K ag) (TPaper:zE K mg "Paper" aPaper) (APaper:wd K aPaper) (TRooms:zE K mg "Rooms" aRooms) (ARooms:we K aRooms) (TFalls:zE K mg "Falls" aFalls) (AFalls:wf K aFalls) (Y:yd K aComes aSettles)
include TClaim AClaim TSettles ASettles TComes AComes aa ab ac ae TPaper APaper TRooms ARooms TFalls AFalls Y
theorem zMv {k:Nat} {f:Addr} {fd:FuncData} (F:zc K "_law_top" "_law_top" JC f fd) (B:Bl mg):zH P w K mg base zW (k + 1) f fd ["_law_numbers","_law_box_here"] (zI (ZK)):=by
 refine zm F ZS (λds R h=>by obtain ⟨d,ns,bs,rfl,_⟩:=h; rfl) λcdv A outer s H E hr=>⟨_,(zJ (zg 2 ZS.nd rfl (Or.inl rfl) zD)
  (zJ (wu PassesOwn.never rfl (v9 rfl B.zip_ (zB (zA 0) (zB (zA 1) zC))) (xI rfl (zY 3 ZS.nd rfl (Or.inl rfl) (zY 4 ZS.nd rfl (Or.inl rfl) xH))) (zM (zg 2 ZS.nd rfl (Or.inl rfl) (zU (zA 2) (zj (gF rfl) kF rfl B.max_ gS (zB (zx (zA 3) (zP (zA 4) zD (λ_ _=>rfl))) (zB (zx (zA 3) (zP (zA 4) zD (λ_ _=>rfl))) zC)))))))
  (zM (zS (zA 2))))),λds R h=>?_⟩
 obtain ⟨d,ns,bs,rfl,h,l3,bn,bb,q⟩:=h
 refine h.zipL ?_
 refine ⟨λk Γ=>∃ (f:Int) (s3 s4:Sl),Γ=[.sh d,.sh (.lst (bs.map zw)),.sh (.int f),s3,s4]/\Bd (116 + k) f,⟨0,.no,.no,rfl,xM⟩,?_,?_⟩
 ·rintro k d' Γ' hk ⟨f,s3,s4,rfl,bf⟩
  obtain ⟨x,hx,b,hb,rfl⟩:=ZO hk
  have b0:=(bb b hb).1
  have b1:=(bb b hb).2
  refine ⟨_,rfl,(bn x hx).mono,b0.mono,_,rfl,(bn x hx).mono,b1.mono,?_⟩
  exact ⟨_,.sh (.int x),.sh (zw b),rfl,(bf.add ((ZP ((bn x hx).mul b0) ((bn x hx).mul b1)).mono (by omega))).mono (by omega)⟩
 ·rintro Γ' ⟨f,s3,s4,rfl,bf⟩
  rw [List.length_zipWith,List.length_map,List.length_map] at bf
  exact q f (bf.mono (by omega))
theorem zKy {k:Nat} {f:Addr} {fd:FuncData} (F:zc K "_law_both" "_law_both" JD f fd) (B:Bl mg):zH P w K mg base zW (k + 1) f fd ["_law_numbers"] (zI (U5)):=by
 refine zm F XY (λds R h=>by obtain ⟨d,ns,rfl,_⟩:=h; rfl) λcdv A outer s H E hr=>⟨_,(zJ (zg 1 XY.nd rfl (Or.inl rfl) (yH zC))
  (zJ (wu PassesOwn.never rfl (yt (zA 0)) (zz 2 XY.nd rfl (Or.inl rfl)) (zM (zg 1 XY.nd rfl (Or.inl rfl) (zU (zA 1) (yH (zB (zj (gF rfl) kF rfl B.max_ gS (zB (zA 2) (zB zD zC))) (zB (zj (gF rfl) kF rfl B.max_ gS (zB (xj zD (zA 2)) (zB zD zC))) zC)))))))
  (zM (zS (zA 1))))),λds R h=>?_⟩
 obtain ⟨d,ns,rfl,h,l3,bn,q⟩:=h
 refine ⟨k0,h.seq ?_⟩
 refine ⟨λk Γ=>∃ (ys:List Int) (s2:Sl),Γ=[.sh d,.sh (L ys),s2]/\ys.length=2 * k/\∀ y∈ys,0<=y/\Bd 200 y,⟨[],.no,rfl,rfl,λ_ h=>nomatch h⟩,?_,?_⟩
 ·rintro k d' Γ' hk ⟨ys,s2,rfl,ly,hy⟩
  have kl:=(List.getElem?_eq_some_iff.mp hk).1
  rw [List.length_map] at kl
  obtain ⟨x,hx,rfl⟩:=List.mem_map.mp (List.mem_of_getElem? hk)
  have bx:=bn x hx
  refine ⟨k0,by rw [List.length_map]; show _ + 2<=1000; omega,?_⟩
  refine ⟨ys++[max x 0,max (0 - x) 0],.sh (.int x),?_,by rw [List.length_append]; show _ + 2=_; omega,λy hy'=>?_⟩
  ·rw [zQn]
   rfl
  ·rcases List.mem_append.mp hy' with hy' | hy'
   ·exact hy y hy'
   ·rcases List.mem_cons.mp hy' with rfl | hy'
    ·exact ⟨by omega,ZP bx xM⟩
    ·rw [List.mem_singleton.mp hy',Int.zero_sub]
     exact ⟨by omega,ZP bx.neg xM⟩
 ·rintro Γ' ⟨ys,s2,rfl,ly,hy⟩
  rw [List.length_map] at ly
  exact q ys ly hy
theorem zKw {k:Nat} {f:Addr} {fd:FuncData} (F:zc K "_law_made" "_law_made" ZT f fd) (B:Bl mg) (bM:uL P w K mg base af ["self","rows","nexts","steer","push","add","divisor"] k (vG af (zNn af))) (bN:uL P w K mg base ag ["self","many","pushes","modes"] k (vG ag (zLN ag af))):zH P w K mg base zW (k + 1 + 1) f fd ["_law_spec"] (zI (zQR ag af)):=by
 refine zm F vg (λds R h=>by obtain ⟨n,bs,ms,u,rfl,_⟩:=h; rfl) λcdv A outer s H E hr=>⟨_,(zJ (vc (zA 0) (xI rfl (zY 1 vg.nd rfl (Or.inl rfl) (zY 2 vg.nd rfl (Or.inl rfl) (zY 3 vg.nd rfl (Or.inl rfl) (zY 4 vg.nd rfl (Or.inl rfl) xH))))))
  (zJ (wX 5 vg.nd rfl (Or.inl rfl) zC)
  (zJ (wu PassesOwn.never rfl (yt (zA 3)) (xI rfl (zY 6 vg.nd rfl (Or.inl rfl) (zY 7 vg.nd rfl (Or.inl rfl) (zY 8 vg.nd rfl (Or.inl rfl) (zY 9 vg.nd rfl (Or.inl rfl) (zY 10 vg.nd rfl (Or.inl rfl) (zY 11 vg.nd rfl (Or.inl rfl) xH))))))) (zJ (jB 12 false vg.nd rfl rfl (own:=["_law_one"]) (caps:=[]) (yF (S:=zK ZT) (N:=["_law_spec","_law_many","_law_pushes","_law_modes","_law_unit","_law_some","_law_rows_here","_law_nexts","_law_steer","_law_push","_law_add","_law_divisor_here","_law_lists"]) rfl (by decide +kernel) rfl ⟨0,rfl⟩ rfl (by decide +kernel) (by decide +kernel)) rfl rfl yU (yt (zA 7)) (λ_ _ _ _=>(zz 0 (show (["_law_one"]:List Str).Nodup by decide +kernel) rfl (Or.inl rfl))) (λ_ _ _ _=>(xB vk vn rfl B.list_ wA (zB (zA 0) zC))) rfl)
   (zM (zv (xX (xg PySem.F.plainAttrs_list PySem.F.slot_list_append PySem.F.type_list_append yL (yJ 5) (zl (Yu bM aa hr rfl (zB (xB vk vn rfl B.list_ wA (zB (zA 6) zC)) (zB (zA 12) (zB (xB vk vn rfl B.list_ wA (zB (zA 8) zC)) (zB (yT (own:=["_law_one"]) (caps:=[]) (yF (S:=zK ZT) (N:=["_law_spec","_law_many","_law_pushes","_law_modes","_law_unit","_law_some","_law_rows_here","_law_nexts","_law_steer","_law_push","_law_add","_law_divisor_here","_law_lists"]) rfl (by decide +kernel) rfl ⟨0,rfl⟩ rfl (by decide +kernel) (by decide +kernel)) rfl rfl yU (yt (zA 9)) (λ_ _ _ _=>(zz 0 (show (["_law_one"]:List Str).Nodup by decide +kernel) rfl (Or.inl rfl))) (λ_ _ _ _=>(xB vk vn rfl B.list_ wA (zB (zA 0) zC)))) (zB (xB vk vn rfl B.list_ wA (zB (zA 10) zC)) (zB (zA 11) zC))))))) yI))) xq))))
  (zM (wC 5 (zS (Yu bN ac hr rfl (zB (zA 1) (zB (xB vk vn rfl B.list_ wA (zB (zA 2) zC)) (zB (zA 5) zC)))))))))),λds R h=>?_⟩
 obtain ⟨n,bs,ms,u,rfl,TO,q⟩:=h
 have m40:=TO.m40
 have n3:=TO.n3
 have b6:=TO.b6
 refine ⟨k0,?_⟩
 refine ⟨λk Γ=>∃ s6 s7 s8 s9 s10 s11 s12:Sl,Γ=[.sh (vP n bs ms u),.sh (.int (n:Int)),.sh (.lst (bs.map zw)),.sh (.lst (ms.map xN)),.sh (.int u),.ow ((ms.take k).map (wN af)),s6,s7,s8,s9,s10,s11,s12],⟨_,_,_,_,_,_,_,rfl⟩,?_,?_⟩
 ·rintro k d Γ' hk ⟨s6,s7,s8,s9,s10,s11,s12,rfl⟩
  have kl:=(List.getElem?_eq_some_iff.mp hk).1
  rw [List.length_map] at kl
  rw [List.getElem?_map,List.getElem?_eq_getElem kl] at hk
  cases hk
  generalize hm:ms[k]=m
  have o:=TO.mok m (hm ▸ List.getElem_mem kl)
  have hk2:ms[k]? = some m:=by rw [List.getElem?_eq_getElem kl,hm]
  refine vd L zr qX L (by rw [o.nexts.1]; omega) (λr hr=>rfl) ?_
  refine vd L zr qX L (by rw [o.push.1]; omega) (λr hr=>rfl) ?_
  refine ⟨_,_,_,_,_,_,rfl,qY o.few (λr hr=>by rw [o.rows r hr]; omega),Y8 (by rw [o.nexts.1]; omega) (λr hr=>by rw [o.nexts.2 r hr]; omega),uB (by rw [o.steer]; omega),Y8 (by rw [o.push.1]; omega) (λr hr=>by rw [o.push.2 r hr]; omega),uB (by rw [o.add]; omega),by rw [List.length_map,List.length_take]; omega,?_⟩
  refine ⟨.sh (Rm m.rows),.sh (Tb m.nexts),.sh (L m.steer),.sh (Tb m.push),.sh (L m.add),.sh (.int m.div),.sh (Tb m.nexts),?_⟩
  rw [gU hk2,List.map_append]
  rfl
 ·rintro Γ' ⟨s6,s7,s8,s9,s10,s11,s12,rfl⟩
  rw [List.length_map,List.take_length]
  exact ⟨n,bs,ms,rfl,TO,q⟩
theorem zFT {k:Nat} {f:Addr} {fd:FuncData} (F:zc K "_law_drift_mode" "_law_drift_mode" uQ f fd) (B:Bl mg) (ak:Fn P w K mg base "_law_number" ["_law_x","_law_far"] k (zI (ZI))):zH P w K mg base zW (k + 1) f fd ["_law_xs","_law_goal","_law_pushes","_law_often","_law_step"] (zI (ZR)):=by
 refine zm F vq (λds R h=>by obtain ⟨xs,goal,bs,often,step,rfl,_⟩:=h; rfl) λcdv A outer s H E hr=>⟨_,(zJ (zg 5 vq.nd rfl (Or.inr rfl) (zj yQ yS rfl B.len_ yR (zB (zA 1) zC)))
  (zJ (zg 6 vq.nd rfl (Or.inr rfl) (zU zD (yW (zP (zA 0) zD (λ_ _=>rfl)) zD)))
  (zJ (wX 7 vq.nd rfl (Or.inr rfl) zC)
  (zJ (wu PassesOwn.never rfl (xm rfl B.range_ (zB (zA 5) zC)) (zz 8 vq.nd rfl (Or.inr rfl)) (zM (zv (xX (xg PySem.F.plainAttrs_list PySem.F.slot_list_append PySem.F.type_list_append yL (yJ 7) (zl (yT (own:=["_law_j"]) (caps:=[(0,"_law_xs"),(8,"_law_i")]) (yF (S:=zK uQ) (N:=["_law_xs","_law_goal","_law_pushes","_law_often","_law_step","_law_many","_law_divisor_here","_law_push","_law_i","_law_pushed_here","_law_worst_push","_law_size","_law_far","_law_nexts","_law_rows_here","_law_row"]) rfl (by decide +kernel) rfl ⟨_,rfl⟩ rfl (by decide +kernel) (by decide +kernel)) rfl rfl yU (xm rfl B.range_ (zB (zj yQ yS rfl B.len_ yR (zB (zA 2) zC)) zC)) (λ_ _ _ _=>(zz 0 (show (["_law_j","_law_xs","_law_i"]:List Str).Nodup by decide +kernel) rfl (Or.inl rfl))) (λ_ _ _ _=>(zO ak hr rfl (zB (xR (zP (zA 1) zD (λ_ _=>rfl)) (zU (zU zD (zx zD (zA 2))) (zx zD (zA 0)))) (zB zD zC))))) yI))) xq)))
  (zJ (wC 7 (jB 9 false vq.nd rfl rfl (own:=["_law_j"]) (caps:=[(1,"_law_goal"),(3,"_law_often"),(5,"_law_many"),(7,"_law_push")]) (yF (S:=zK uQ) (N:=["_law_xs","_law_goal","_law_pushes","_law_often","_law_step","_law_many","_law_divisor_here","_law_push","_law_i","_law_pushed_here","_law_worst_push","_law_size","_law_far","_law_nexts","_law_rows_here","_law_row"]) rfl (by decide +kernel) rfl ⟨_,rfl⟩ rfl (by decide +kernel) (by decide +kernel)) rfl rfl yU (xm rfl B.range_ (zB (zj yQ yS rfl B.len_ yR (zB (zA 2) zC)) zC)) (λ_ _ _ _=>(zz 0 (show (["_law_j","_law_goal","_law_often","_law_many","_law_push"]:List Str).Nodup by decide +kernel) rfl (Or.inr rfl))) (λ_ _ _ _=>(zx (zA 2) (zj (qH rfl) qU rfl B.sum_ qG (zB (yT (own:=["_law_i"]) (caps:=[(0,"_law_j"),(1,"_law_goal"),(4,"_law_push")]) (YO rfl (by decide +kernel) (by decide +kernel) (by decide +kernel) (by decide +kernel)) rfl rfl yU (xm rfl B.range_ (zB (zA 3) zC)) (λ_ _ _ _=>(zz 0 (show (["_law_i","_law_j","_law_goal","_law_push"]:List Str).Nodup by decide +kernel) rfl (Or.inl rfl))) (λ_ _ _ _=>(zx (zP (zA 2) (zA 0) (λ_ _=>rfl)) (zP (zP (zA 3) (zA 0) (λ_ _=>rfl)) (zA 1) (λ_ _=>rfl))))) zC)))) rfl))
  (zJ (zg 10 vq.nd rfl (Or.inl rfl) (zj (qH rfl) qU rfl B.sum_ qG (zB (yT (own:=["_law_c","_law_low","_law_high"]) (caps:=[]) (yF (S:=zK uQ) (N:=["_law_xs","_law_goal","_law_pushes","_law_often","_law_step","_law_many","_law_divisor_here","_law_push","_law_i","_law_pushed_here","_law_worst_push","_law_size","_law_far","_law_nexts","_law_rows_here","_law_row"]) rfl (by decide +kernel) rfl ⟨_,rfl⟩ rfl (by decide +kernel) (by decide +kernel)) rfl rfl (v7 (xo (pnc (v7 (xo (xo uA))) uA))) (v9 rfl B.zip_ (zB (zA 9) (zB (zA 2) zC))) (λ_ _ _ _=>(xI rfl (zY 0 (show (["_law_c","_law_low","_law_high"]:List Str).Nodup by decide +kernel) rfl (Or.inl rfl) (zKY (xI rfl (zY 1 (show (["_law_c","_law_low","_law_high"]:List Str).Nodup by decide +kernel) rfl (Or.inl rfl) (zY 2 (show (["_law_c","_law_low","_law_high"]:List Str).Nodup by decide +kernel) rfl (Or.inl rfl) xH))) (v7 (xo (xo uA))) xH)))) (λ_ _ _ _=>(zj (gF rfl) kF rfl B.max_ gS (zB (zx (zA 0) (zA 1)) (zB (zx (zA 0) (zA 2)) zC))))) zC)))
  (zJ (zg 11 vq.nd rfl (Or.inl rfl) (zx (zA 3) (zj (qH rfl) qU rfl B.sum_ qG (zB (yT (own:=["_law_c"]) (caps:=[]) (yF (S:=zK uQ) (N:=["_law_xs","_law_goal","_law_pushes","_law_often","_law_step","_law_many","_law_divisor_here","_law_push","_law_i","_law_pushed_here","_law_worst_push","_law_size","_law_far","_law_nexts","_law_rows_here","_law_row"]) rfl (by decide +kernel) rfl ⟨_,rfl⟩ rfl (by decide +kernel) (by decide +kernel)) rfl rfl yU (yt (zA 1)) (λ_ _ _ _=>(zz 0 (show (["_law_c"]:List Str).Nodup by decide +kernel) rfl (Or.inl rfl))) (λ_ _ _ _=>(zx (zA 0) (zA 0)))) zC))))
  (zJ (zg 12 vq.nd rfl (Or.inr rfl) (xj zD (xR (xj (xj zD (zA 10)) (zx (zA 6) (zA 4))) (zA 11))))
  (zJ (jB 13 false vq.nd rfl rfl (own:=["_law_i"]) (caps:=[(5,"_law_many"),(6,"_law_divisor_here")]) (yF (S:=zK uQ) (N:=["_law_xs","_law_goal","_law_pushes","_law_often","_law_step","_law_many","_law_divisor_here","_law_push","_law_i","_law_pushed_here","_law_worst_push","_law_size","_law_far","_law_nexts","_law_rows_here","_law_row"]) rfl (by decide +kernel) rfl ⟨_,rfl⟩ rfl (by decide +kernel) (by decide +kernel)) rfl rfl yU (xm rfl B.range_ (zB (zA 5) zC)) (λ_ _ _ _=>(zz 0 (show (["_law_i","_law_many","_law_divisor_here"]:List Str).Nodup by decide +kernel) rfl (Or.inr rfl))) (λ_ _ _ _=>(yT (own:=["_law_j"]) (caps:=[(0,"_law_i"),(2,"_law_divisor_here")]) (YO rfl (by decide +kernel) (by decide +kernel) (by decide +kernel) (by decide +kernel)) rfl rfl yU (xm rfl B.range_ (zB (zA 1) zC)) (λ_ _ _ _=>(zz 0 (show (["_law_j","_law_i","_law_divisor_here"]:List Str).Nodup by decide +kernel) rfl (Or.inl rfl))) (λ_ _ _ _=>(zx (zA 2) (xB QB KZ rfl B.int_ WT (zB (uZ hr.units (zA 1) (zA 0)) zC)))))) rfl)
  (zJ (wX 14 vq.nd rfl (Or.inl rfl) zC)
  (vb (yB (xk hr.units (yW (zP (zA 0) zD (λ_ _=>rfl)) zD) zD) (zJ (jB 15 false vq.nd rfl rfl (own:=["_law_i"]) (caps:=[(0,"_law_xs")]) (yF (S:=zK uQ) (N:=["_law_xs","_law_goal","_law_pushes","_law_often","_law_step","_law_many","_law_divisor_here","_law_push","_law_i","_law_pushed_here","_law_worst_push","_law_size","_law_far","_law_nexts","_law_rows_here","_law_row"]) rfl (by decide +kernel) rfl ⟨_,rfl⟩ rfl (by decide +kernel) (by decide +kernel)) rfl rfl yU (xm rfl B.range_ (zB (zA 5) zC)) (λ_ _ _ _=>(zz 0 (show (["_law_i","_law_xs"]:List Str).Nodup by decide +kernel) rfl (Or.inl rfl))) (λ_ _ _ _=>(zO ak hr rfl (zB (xR (zP (zA 1) zD (λ_ _=>rfl)) (zU zD (zx zD (zA 0)))) (zB zD zC)))) rfl)
   (zM (zv (xX (xg PySem.F.plainAttrs_list PySem.F.slot_list_append PySem.F.type_list_append yL (yJ 14) (zl (xB vA vE rfl B.tuple_ xz (zB (zU (zA 15) (yH (zB (zx (zO ak hr rfl (zB (zP (zA 0) zD (λ_ _=>rfl)) (zB zD zC))) (zA 4)) zC))) zC)) yI))) xq))) yA)
  (zM (wC 14 (zS (xA (zB (zA 14) (zB (zA 13) (zB (zx (yH (zB zD zC)) (zA 5)) (zB (zA 7) (zB (yT (own:=["_law_c"]) (caps:=[(12,"_law_far")]) (yF (S:=zK uQ) (N:=["_law_xs","_law_goal","_law_pushes","_law_often","_law_step","_law_many","_law_divisor_here","_law_push","_law_i","_law_pushed_here","_law_worst_push","_law_size","_law_far","_law_nexts","_law_rows_here","_law_row"]) rfl (by decide +kernel) rfl ⟨_,rfl⟩ rfl (by decide +kernel) (by decide +kernel)) rfl rfl yU (yt (zA 1)) (λ_ _ _ _=>(zz 0 (show (["_law_c","_law_far"]:List Str).Nodup by decide +kernel) rfl (Or.inl rfl))) (λ_ _ _ _=>(xj zD (zx (zA 0) (zA 1))))) (zB (zA 6) zC))))))))))))))))))))),λds R h=>?_⟩
 obtain ⟨xs,goal,bs,often,step,rfl,lx,hx,g1,g3,bg,gz,b2,bb,o1,o3,s1,bst,q⟩:=h
 obtain ⟨n,en⟩:∃ n,goal.length=n:=⟨_,rfl⟩
 rw [en] at g1 g3 q
 have lg:(List.map D.int goal).length=n:=by rw [List.length_map]; exact en
 have lb:(List.map zw bs).length=bs.length:=List.length_map ..
 have bo:Bd 2 often:=wO (f:=3) (by decide) (by omega) (by omega)
 have bgo:∀ c∈goal,Bd 2 c:=λc hc=>wO (f:=3) (by decide) (by have:=bg c hc; omega) (by have:=bg c hc; omega)
 refine yf (by decide) (by omega) λx0 _=>⟨by decide,?_⟩
 have d0:=md x0 (show (0:Int) < 3 by decide)
 obtain ⟨dv,hdv⟩:∃ dv,dv=1 + x0.fmod 3:=⟨_,rfl⟩
 have dv1:1<=dv:=by omega
 have bdv:Bd 3 dv:=wO (f:=7) (by decide) (by omega) (by omega)
 refine ⟨k0,by omega,by omega,?_⟩
 rw [show ((List.length (List.map D.int goal):Nat):Int).toNat=n by omega]
 refine ⟨λk Γ=>∃ (P:List (List Int)) (s8:Sl),Γ=[.sh (L xs),.sh (L goal),.sh (.lst (bs.map zw)),.sh (.int often),.sh (.int step),.sh (.int ((List.map D.int goal).length:Int)),.sh (.int dv),.ow (P.map L),s8,.no,.no,.no,.no,.no,.no,.no]/\P.length=k/\∀ r∈P,r.length=bs.length/\∀ x∈r,Bd 2 x,⟨[],.no,by rw [hdv]; rfl,rfl,λ_ h=>nomatch h⟩,?_,?_⟩
 ·rintro k d Γ' hk ⟨P,s8,rfl,lP,hP⟩
  obtain ⟨kn,rfl⟩:=ub hk
  have bk:Bd 2 (k:Int):=jz (by omega)
  refine ⟨by omega,by omega,?_⟩
  rw [show ((List.length (List.map zw bs):Nat):Int).toNat=bs.length by omega]
  refine zk.nums (λx=>Bd 2 x) (by omega) (λj hj=>?_) λns ln hn=>?_
  ·have bj:Bd 2 (j:Int):=jz (by omega)
   refine yf (by decide) (by omega) λx1 _=>⟨(Bd.lit (i:=7) (n:=3)).mono,bk.mono,(Bd.lit (i:=3) (n:=2)).mono,bj.mono,by omega,Bd.mono (n:=10) (wO (f:=1000) (by decide) (by omega) (by omega)) (by decide),_,2,rfl,by decide,(Bd.lit (i:=2) (n:=2)).mono,λy y1 y2=>⟨y,rfl,wO (f:=3) (by decide) (by omega) (by omega)⟩⟩
  ·refine ⟨by rw [List.length_map]; omega,P++[ns],.sh (.int (k:Int)),?_,by rw [List.length_append,lP]; rfl,vf hP ⟨ln,hn⟩⟩
   rw [List.map_append]
   rfl
 rintro Γ' ⟨P,s8,rfl,lP,hP⟩
 rw [uc] at lP
 refine ⟨by omega,by omega,?_⟩
 rw [show ((List.length (List.map zw bs):Nat):Int).toNat=bs.length by omega]
 refine zk.nums (λx=>Bd 9 x) (by omega) (λj hj=>?_) λph lph hph=>?_
 ·refine ⟨by omega,by omega,?_⟩
  rw [show ((List.length (List.map D.int goal):Nat):Int).toNat=n by omega]
  refine zk.nums (λx=>Bd 4 x) (by omega) (λi hi=>?_) λns ln hn=>?_
  ·refine yf (by omega) (by omega) λc hc=>vH (by omega) (by rw [List.length_map]; omega) λr hr=>?_
   obtain ⟨r,hr1,rfl⟩:=List.mem_map.mp hr
   have:=(hP r hr1).1
   exact yf (by omega) (by omega) λy hy=>⟨(bgo c hc).mono,((hP r hr1).2 y hy).mono,_,rfl,(bgo c hc).mul ((hP r hr1).2 y hy)⟩
  ·have bs':=ZQ hn
   exact ⟨ns,rfl,bo.mono,bs'.mono (by omega),_,rfl,(bo.mul bs').mono (by omega)⟩
 refine zk.all (xn (Bd 114)) (by rw [List.length_zipWith,List.length_map]; omega) (λd hd=>?_) λes le he=>?_
 ·obtain ⟨c,hc,b,hb,rfl⟩:=JB hd
  have b0:=(bb b hb).1
  have b1:=(bb b hb).2
  exact ⟨(hph c hc).mono,b0.mono,(hph c hc).mono,b1.mono,_,rfl,ZP ((hph c hc).mul b0) ((hph c hc).mul b1)⟩
 obtain ⟨wp,rfl,hwp⟩:=W5 he
 have lwp:wp.length<=2:=by
  rw [List.length_map,List.length_zipWith,List.length_map,List.length_map] at le
  omega
 have bwp:Bd 116 wp.sum:=(ZQ hwp).mono (by omega)
 refine ⟨wp,rfl,?_⟩
 refine zk.int (λc=>c * c) (by omega) (λc hc=>⟨(bgo c hc).mono,(bgo c hc).mono,rfl⟩) ?_
 have sq:∀ x∈goal.map (λc=>c * c),Bd 4 x:=λx hx=>by
  obtain ⟨c,hc,rfl⟩:=List.mem_map.mp hx
  exact (bgo c hc).mul (bgo c hc)
 have bsq:Bd 7 (goal.map λc=>c * c).sum:=(ZQ sq).mono (by rw [List.length_map]; omega)
 have psq:=zNU gz
 refine ⟨_,rfl,bo.mono,bsq.mono,?_⟩
 have psz:1<=often * (goal.map λc=>c * c).sum:=by
  have:=Int.mul_le_mul o1 psq (by decide) (by omega)
  omega
 refine ⟨bdv.mono,bst.mono,by omega,(bo.mul bsq).mono,?_⟩
 have bfar:Bd 130 (0 - (0 - wp.sum - dv * step).fdiv (often * (goal.map λc=>c * c).sum)):=by
  rw [Int.zero_sub]
  refine (Bd.fdiv (n:=130) ?_ _).neg
  rw [Int.zero_sub]
  exact ((bwp.neg.mono (show 116<=120 by decide)).sub ((bdv.mul bst).mono)).mono
 refine ⟨by omega,by omega,?_⟩
 rw [show ((List.length (List.map D.int goal):Nat):Int).toNat=n by omega]
 refine zk.rng0P (λd=>∃ r,d=L r/\r.length=n/\∀ x∈r,Bd 4 x) (by omega) (λi hi=>?_) λes2 le2 he2=>?_
 ·refine ⟨by omega,by omega,?_⟩
  rw [show ((List.length (List.map D.int goal):Nat):Int).toNat=n by omega]
  refine zk.nums (λx=>Bd 4 x) (by omega) (λj hj=>⟨bdv.mono,?_,_,rfl,?_⟩) λns ln hn=>⟨ns,rfl,ln,hn⟩
  ·split
   ·exact (Bd.lit (i:=1) (n:=1)).mono
   ·exact xM
  ·split
   ·rw [Int.mul_one]; exact bdv.mono
   ·rw [Int.mul_zero]; exact xM
 obtain ⟨nx,rfl,hnx⟩:=zKB he2
 rw [List.length_map] at le2
 have fin:∀ rows:List (List Int),rows.length<=1->(∀ r∈rows,r.length=n + 1/\∀ x∈r,Bd 110 x)->R (xN ⟨rows,nx,List.replicate n 0,P,goal.map λc=>0 - c * (0 - (0 - wp.sum - dv * step).fdiv (often * (goal.map λc=>c * c).sum)),dv⟩):=λrows lr hr=>by
  refine q _ ⟨λr h=>(hr r h).1,by show rows.length<=900; omega,⟨le2,λr h=>(hnx r h).1⟩,List.length_replicate ..,⟨lP,λr h=>(hP r h).1⟩,by show (goal.map _).length=n; rw [List.length_map]; exact en,dv1,g3,by omega⟩ ⟨λr h x hx=>((hnx r h).2 x hx).mono,λx hx=>by rw [List.eq_of_mem_replicate hx]; exact xM,λr h x hx=>((hP r h).2 x hx).mono,λx hx=>?_,bdv.mono,λr h x hx=>((hr r h).2 x hx).mono,by show rows.length<=100; omega⟩ (λx hx=>List.eq_of_mem_replicate hx) lr (λr h x hx=>((hP r h).2 x hx).mono) bdv
  obtain ⟨c,hc,rfl⟩:=List.mem_map.mp hx
  rw [Int.zero_sub]
  exact ((bgo c hc).mul bfar).neg.mono
 have rep:D.lst (List.replicate n (D.int 0))=L (List.replicate n 0):=by unfold L; rw [List.map_replicate]
 refine ⟨k0,λΓ=>∃ (rows:List (List Int)) (s15:Sl),Γ=[.sh (L xs),.sh (L goal),.sh (.lst (bs.map zw)),.sh (.int often),.sh (.int step),.sh (.int ((List.map D.int goal).length:Int)),.sh (.int dv),.sh (.lst (P.map L)),s8,.sh (L ph),.sh (.int wp.sum),.sh (.int (often * (goal.map λc=>c * c).sum)),.sh (.int (0 - (0 - wp.sum - dv * step).fdiv (often * (goal.map λc=>c * c).sum))),.sh (Tb nx),.ow (rows.map U),s15]/\rows.length<=1/\∀ r∈rows,r.length=n + 1/\∀ x∈r,Bd 110 x,yf (by decide) (by omega) λx2 _=>⟨by decide,w2 (λc1=>?_) λc1=>⟨[],_,rfl,by decide,λ_ h=>nomatch h⟩⟩,?_⟩
 ·refine ⟨by omega,by omega,?_⟩
  rw [show ((List.length (List.map D.int goal):Nat):Int).toNat=n by omega]
  refine zk.nums (λx=>Bd 2 x) (by omega) (λi hi=>?_) λrw_ lrw hrw=>?_
  ·have bi:Bd 2 (i:Int):=jz (by omega)
   exact yf (by decide) (by omega) λx3 _=>⟨(Bd.lit (i:=5) (n:=3)).mono,bi.mono,by omega,Bd.mono (n:=10) (wO (f:=1000) (by decide) (by omega) (by omega)) (by decide),_,1,rfl,by decide,(Bd.lit (i:=1) (n:=1)).mono,λy y1 y2=>⟨y,rfl,wO (f:=3) (by decide) (by omega) (by omega)⟩⟩
  refine yf (by decide) (by omega) λx4 _=>⟨_,5,rfl,by decide,(Bd.lit (i:=5) (n:=3)).mono,λy y1 y2=>?_⟩
  have by3:Bd 3 y:=wO (f:=7) (by decide) (by omega) (by omega)
  refine ⟨by3.mono,bst.mono,k0,by rw [List.length_map]; show _ + 1<=1000; omega,by decide,[rw_++[y * step]],.sh (L rw_),?_,by show 1<=1; decide,λr hr=>?_⟩
  ·rw [List.map_cons,List.map_nil,U,List.map_append]
   rfl
  ·rw [List.mem_singleton.mp hr]
   exact ⟨by rw [List.length_append,lrw]; rfl,vf (λx hx=>(hrw x hx).mono) ((by3.mul bst).mono)⟩
 rintro Γ' ⟨rows,s15,rfl,lr,hr⟩
 have F:=fin rows lr hr
 refine ⟨k0,by omega,by omega,?_⟩
 rw [show ((List.length (List.map D.int goal):Nat):Int).toNat=n by omega,rep]
 exact zk.int (λc=>0 - c * (0 - (0 - wp.sum - dv * step).fdiv (often * (goal.map λc=>c * c).sum))) (by omega) (λc hc=>⟨(bgo c hc).mono,bfar.mono,rfl⟩) ⟨k0,F⟩
end
theorem fdE {a b:Int} (h:0 < b):a.fdiv b=a / b:=Int.fdiv_eq_ediv_of_nonneg _ (by omega)
theorem ZU {g:List Int} {n:Nat} (l:g.length=n) (h:g≠List.replicate n 0):∃ c∈g,c≠0:=by
 apply Classical.byContradiction
 intro k
 refine h (List.eq_replicate_iff.mpr ⟨l,λc hc=>?_⟩)
 apply Classical.byContradiction
 intro z
 exact k ⟨c,hc,z⟩
section
variable {P:Program} {w:World} {K:PySem.W.Frag} {mg:Str->Option Value} {base:Heap}
abbrev XZ:Stmt:=zi 83
theorem vv:za ["_law_script","_law_first","_law_xs","_law_unit","_law_many","_law_goal","_law_pushes","_law_k","_law_often","_law_step","_law_modes"] ["_law_script"] (zK XZ):=.a
abbrev Xa:Stmt:=zi 85
theorem j0:za ["_law_spec","_law_mode","_law_numbers","_law_rows_here","_law_nexts","_law_steer","_law_push","_law_add","_law_divisor_here"] ["_law_spec","_law_mode","_law_numbers"] (zK Xa):=.a
variable {aClaim aSettles aComes af ag aPaper aRooms aFalls:Addr} (TClaim:zE K mg "Claim" aClaim) (AClaim:wY K aClaim) (TSettles:zE K mg "Settles" aSettles) (ASettles:wZ K aSettles) (TComes:zE K mg "Comes" aComes) (AComes:wa K aComes) (aa:zE K mg "Mode" af) (ab:wb K af) (ac:zE K mg "Thing" ag) (ae:wc K ag) (TPaper:zE K mg "Paper" aPaper) (APaper:wd K aPaper) (TRooms:zE K mg "Rooms" aRooms) (ARooms:we K aRooms) (TFalls:zE K mg "Falls" aFalls) (AFalls:wf K aFalls) (Y:yd K aComes aSettles)
include TClaim AClaim TSettles ASettles TComes AComes aa ab ac ae TPaper APaper TRooms ARooms TFalls AFalls Y
theorem zJj {k:Nat} {f:Addr} {fd:FuncData} (F:zc K "_law_drift" "_law_drift" XZ f fd) (B:Bl mg) (aq:Fn P w K mg base "_law_cell_at" ["_law_script","_law_k"] k (zI (U4))) (ao:Fn P w K mg base "_law_stream" ["_law_cell","_law_many"] k (zI (ZH))) (ak:Fn P w K mg base "_law_number" ["_law_x","_law_far"] k (zI (ZI))) (bO:Fn P w K mg base "_law_drift_mode" ["_law_xs","_law_goal","_law_pushes","_law_often","_law_step"] k (zI (ZR))):zH P w K mg base zW (k + 1) f fd ["_law_script"] (zI (zNt)):=by
 refine zm F vv (λds R h=>by obtain ⟨ns,rfl,_⟩:=h; rfl) λcdv A outer s H E hr=>⟨_,(zJ (zg 1 vv.nd rfl (Or.inl rfl) (zO aq hr rfl (zB (zA 0) (zB zD zC))))
  (zJ (zg 2 vv.nd rfl (Or.inr rfl) (zO ao hr rfl (zB (zO aq hr rfl (zB (zA 0) (zB zD zC))) (zB zD zC))))
  (zJ (zg 3 vv.nd rfl (Or.inl rfl) (zU zD (yW (xR (zA 1) zD) (zP (yH (zB zD (zB zD (zB (u9 zD zD) (zB (u9 zD zD) zC))))) (yW (zA 1) zD) (λ_ _=>rfl)))))
  (zJ (zg 4 vv.nd rfl (Or.inl rfl) (zU (zU zD (yW (yW (zP (zA 2) zD (λ_ _=>rfl)) zD) zD)) (xR (yW (xR (zP (zA 2) zD (λ_ _=>rfl)) zD) zD) zD)))
  (zJ (jB 5 true vv.nd rfl rfl (own:=["_law_i"]) (caps:=[(2,"_law_xs")]) (yF (S:=zK XZ) (N:=["_law_script","_law_first","_law_xs","_law_unit","_law_many","_law_goal","_law_pushes","_law_k","_law_often","_law_step","_law_modes"]) rfl (by decide +kernel) rfl ⟨_,rfl⟩ rfl (by decide +kernel) (by decide +kernel)) rfl rfl yU (xm rfl B.range_ (zB (zA 4) zC)) (λ_ _ _ _=>(zz 0 (show (["_law_i","_law_xs"]:List Str).Nodup by decide +kernel) rfl (Or.inl rfl))) (λ_ _ _ _=>(zO ak hr rfl (zB (zP (zA 1) (zU zD (zA 0)) (λ_ _=>rfl)) (zB zD zC)))) rfl)
  (vb (yB (zOA 5 (xk hr.units (zA 5) (zx (yH (zB zD zC)) (zA 4)))) (zM (zv (Jt zD (zPe (yJ 5) zD WY)) zO2)) yA)
  (zJ (wX 6 vv.nd rfl (Or.inl rfl) zC)
  (zJ (wu PassesOwn.never rfl (xm rfl B.range_ (zB (yW (zP (zA 2) zD (λ_ _=>rfl)) zD) zC)) (zz 7 vv.nd rfl (Or.inl rfl)) (zM (zv (xX (xg PySem.F.plainAttrs_list PySem.F.slot_list_append PySem.F.type_list_append yL (yJ 6) (zl (xA (zB (xj zD (zx (yW (zP (zA 2) (zU zD (zA 7)) (λ_ _=>rfl)) zD) (zA 3))) (zB (zx (yW (xR (zP (zA 2) (zU zD (zA 7)) (λ_ _=>rfl)) zD) zD) (zA 3)) zC))) yI))) xq)))
  (zJ (zg 8 vv.nd rfl (Or.inl rfl) (zU zD (yW (zP (zA 2) zD (λ_ _=>rfl)) zD)))
  (zJ (zg 9 vv.nd rfl (Or.inl rfl) (zU zD (yW (zP (zA 2) zD (λ_ _=>rfl)) (zP (yH (zB zD (zB (zA 3) zC))) (yW (zP (zA 2) zD (λ_ _=>rfl)) zD) (λ_ _=>rfl)))))
  (zJ (wX 10 vv.nd rfl (Or.inl rfl) zC)
  (zJ (wC 5 (wC 6 (wu PassesOwn.never rfl (xm rfl B.range_ (zB (zU zD (yW (zP (zA 2) zD (λ_ _=>rfl)) zD)) zC)) (zz 7 vv.nd rfl (Or.inl rfl)) (zM (zv (xX (xg PySem.F.plainAttrs_list PySem.F.slot_list_append PySem.F.type_list_append yL (yJ 10) (zl (zO bO hr rfl (zB (yk (zA 2) (ya (zU zD (zx zD (zA 7)))) yn) (zB (zA 5) (zB (zA 6) (zB (zA 8) (zB (zA 9) zC)))))) yI))) xq)))))
  (zM (wC 10 (zS (xA (zB (xA (zB (zA 4) (zB (zA 6) (zB (zA 10) (zB (zA 3) zC))))) (zB (zA 5) (zB (zA 8) (zB (zA 9) zC)))))))))))))))))))),λds R h=>?_⟩
 obtain ⟨ns,rfl,q⟩:=h
 refine ⟨ns,0,rfl,by decide,λfirst=>?_⟩
 refine ⟨ns,1,rfl,by decide,λc1=>⟨c1,24,rfl,by decide,λxs lx hx=>?_⟩⟩
 have key:∀ x∈[D.int 3,D.int 9,D.int (10 ^ (15:Int).toNat),D.int (10 ^ (30:Int).toNat)],xn (λv=>1<=v/\Bd 100 v) x:=λx hx=>by
  simp only [List.mem_cons,List.not_mem_nil,or_false] at hx
  rcases hx with rfl | rfl | rfl | rfl <;> exact ⟨_,rfl,by decide,Bd.lit⟩
 have f4:=md first (show (0:Int) < 4 by decide)
 refine ⟨by decide,(Bd.lit (i:=4) (n:=3)).mono,⟨by decide,by decide,by decide⟩,⟨by decide,by decide,by decide⟩,k0,by decide,vH f4.1 (by show first.fmod 4 < 4; omega) λx hxk=>?_⟩
 obtain ⟨v,rfl,v1,bv⟩:=key x hxk
 have fv:=md (first.fdiv 4) (show (0:Int) < v by omega)
 have bu:Bd 100 (1 + (first.fdiv 4).fmod v):=bv.of_le (by omega)
 refine ⟨by omega,?_⟩
 refine yf (by decide) (by omega) λx0 h0=>⟨by decide,by decide,yf (by decide) (by omega) λx1 h1=>⟨by decide,(Bd.lit (i:=6) (n:=3)).mono,by decide,by decide,(Bd.lit (i:=7) (n:=3)).mono,?_⟩⟩
 obtain ⟨n,en,n1,n3⟩:∃ n:Nat,1 + (x0.fmod 3).fmod 2 + ((x1.fdiv 6).fmod 8).fdiv 7=(n:Int)/\1<=n/\n<=3:=by
  have a1:=md (x0.fmod 3) (show (0:Int) < 2 by decide)
  have a2:=md (x1.fdiv 6) (show (0:Int) < 8 by decide)
  rw [fdE (show (0:Int) < 7 by decide)]
  exact ⟨(1 + (x0.fmod 3).fmod 2 + (x1.fdiv 6).fmod 8 / 7).toNat,by omega,by omega,by omega⟩
 refine ⟨by omega,by omega,?_⟩
 rw [show (1 + (x0.fmod 3).fmod 2 + ((x1.fdiv 6).fmod 8).fdiv 7).toNat=n by omega]
 refine zk.nums (λx=>-2<=x/\x<=2) (by omega) (λk hk=>yf (by omega) (by omega) λx _=>⟨_,2,rfl,by decide,(Bd.lit (i:=2) (n:=2)).mono,λy y1 y2=>⟨y,rfl,y1,y2⟩⟩) λg0 lg0 hg0=>?_
 refine ⟨λΓ=>∃ g:List Int,Γ=[.sh (.scr ns),.sh (.int first),.sh (L xs),.sh (.int (1 + (first.fdiv 4).fmod v)),.sh (.int (n:Int)),.ow (g.map D.int),.no,.no,.no,.no,.no]/\g.length=n/\(∀ c∈g,-2<=c/\c<=2)/\∃ c∈g,c≠0,?_,?_⟩
 ·have rep:D.lst (List.replicate (1 + (x0.fmod 3).fmod 2 + ((x1.fdiv 6).fmod 8).fdiv 7).toNat (D.int 0))=L (List.replicate n 0):=by unfold L; rw [List.map_replicate,show (1 + (x0.fmod 3).fmod 2 + ((x1.fdiv 6).fmod 8).fdiv 7).toNat=n by omega]
  refine ⟨k0,by omega,by omega,uE _,by rw [rep]; exact uE _,w2 (λc=>?_) λc=>?_⟩
  ·refine ⟨0,0,rfl,?_,g0.set 0 1,?_,by rw [List.length_set]; exact lg0,λc hc=>?_,1,?_,by decide⟩
   ·unfold wl
    rw [if_pos (by decide),if_pos (by rw [List.length_map]; omega)]
    rfl
   ·rw [List.map_set,<- en]
    rfl
   ·rcases List.mem_or_eq_of_mem_set hc with hc | rfl
    ·exact hg0 c hc
    ·omega
   ·cases g0 with
    | nil=>rw [List.length_nil] at lg0; omega
    | cons a t=>exact List.mem_cons_self
  ·rw [rep,KP] at c
   exact ⟨g0,by rw [<- en]; rfl,lg0,hg0,ZU lg0 (of_decide_eq_false c)⟩
 rintro Γ' ⟨g,rfl,lg,bg,gz⟩
 refine ⟨k0,yf (by decide) (by omega) λx4 _=>⟨by decide,?_⟩⟩
 have m4:=md x4 (show (0:Int) < 3 by decide)
 refine ⟨by omega,by omega,?_⟩
 refine ⟨λk Γ=>∃ (bs:List (Int × Int)) (s7:Sl),Γ=[.sh (.scr ns),.sh (.int first),.sh (L xs),.sh (.int (1 + (first.fdiv 4).fmod v)),.sh (.int (n:Int)),.ow (g.map D.int),.ow (bs.map zw),s7,.no,.no,.no]/\bs.length=k/\∀ b∈bs,b.1<=b.2/\Bd 105 b.1/\Bd 105 b.2,⟨[],.no,rfl,rfl,λ_ h=>nomatch h⟩,?_,?_⟩
 ·rintro k d Γ' hk ⟨bs,s7,rfl,lb,hb⟩
  obtain ⟨kn,rfl⟩:=ub hk
  refine yf (by omega) (by omega) λy1 _=>⟨by decide,Bd.mono (n:=2) (vO Bd.lit (by decide)) (by decide),bu.mono,yf (by omega) (by omega) λy2 _=>⟨by decide,(Bd.lit (i:=3) (n:=2)).mono,by decide,Bd.mono (n:=2) (vO Bd.lit (by decide)) (by decide),bu.mono,k0,by rw [List.length_map]; omega,?_⟩⟩
  have a1:=md y1 (show (0:Int) < 3 by decide)
  have a2:=md (y2.fdiv 3) (show (0:Int) < 3 by decide)
  have g1:0<=y1.fmod 3 * (1 + (first.fdiv 4).fmod v):=Int.mul_nonneg a1.1 (by omega)
  have g2:0<=(y2.fdiv 3).fmod 3 * (1 + (first.fdiv 4).fmod v):=Int.mul_nonneg a2.1 (by omega)
  have e1:Bd 102 (y1.fmod 3 * (1 + (first.fdiv 4).fmod v)):=(vO (n:=2) Bd.lit (by decide)).mul bu
  have e2:Bd 102 ((y2.fdiv 3).fmod 3 * (1 + (first.fdiv 4).fmod v)):=(vO (n:=2) Bd.lit (by decide)).mul bu
  refine ⟨bs++[(0 - y1.fmod 3 * (1 + (first.fdiv 4).fmod v),(y2.fdiv 3).fmod 3 * (1 + (first.fdiv 4).fmod v))],.sh (.int (k:Int)),?_,by rw [List.length_append,lb]; rfl,vf hb ⟨by show 0 - _<=_; omega,by show Bd 105 (0 - _); rw [Int.zero_sub]; exact e1.neg.mono,e2.mono⟩⟩
  rw [List.map_append]
  rfl
 rintro Γ' ⟨bs,s7,rfl,lb,hb⟩
 rw [uc] at lb
 refine yf (by decide) (by omega) λx7 _=>⟨by decide,?_⟩
 have m7:=md x7 (show (0:Int) < 3 by decide)
 refine yf (by decide) (by omega) λx8 _=>⟨k0,yf (by decide) (by omega) λx9 _=>⟨by decide,vH (md x9 (by decide)).1 (by have:=md x9 (show (0:Int) < 2 by decide); show x9.fmod 2 < 2; omega) λz hz=>?_⟩⟩
 obtain ⟨w,rfl,w1,bw⟩:xn (λw=>1<=w/\Bd 100 w) z:=by
  rcases List.mem_cons.mp hz with rfl | hz
  ·exact ⟨1,rfl,by decide,Bd.lit⟩
  ·rw [List.mem_singleton.mp hz]
   exact ⟨_,rfl,by omega,bu⟩
 have m8:=md x8 (show (0:Int) < w by omega)
 have bst:Bd 101 (1 + x8.fmod w):=(bw.of_le (by omega)).mono
 refine ⟨by omega,k0,yf (by decide) (by omega) λx10 _=>⟨by decide,?_⟩⟩
 have m10:=md x10 (show (0:Int) < 3 by decide)
 refine ⟨by omega,by omega,?_⟩
 refine ⟨λk Γ=>∃ (ms:List MD) (s7:Sl),Γ=[.sh (.scr ns),.sh (.int first),.sh (L xs),.sh (.int (1 + (first.fdiv 4).fmod v)),.sh (.int (n:Int)),.sh (L g),.sh (.lst (bs.map zw)),s7,.sh (.int (1 + x7.fmod 3)),.sh (.int (1 + x8.fmod w)),.ow (ms.map xN)]/\ms.length=k/\∀ m∈ms,yj m n bs.length/\jH 200 m/\(∀ x∈m.steer,x=0)/\m.rows.length<=1/\(∀ r∈m.push,∀ x∈r,Bd 100 x)/\Bd 3 m.div,⟨[],_,rfl,rfl,λ_ h=>nomatch h⟩,?_,?_⟩
 ·rintro k d Γ' hk ⟨ms,s7,rfl,lm,hm⟩
  obtain ⟨kn,rfl⟩:=ub hk
  have kn3:k < 3:=by omega
  have ec:zV (xs.map D.int) (some (10 + 4 * (k:Int))) none=(xs.drop (10 + 4 * k)).map D.int:=by rw [show 10 + 4 * (k:Int)=((10 + 4 * k:Nat):Int) by omega,zJB,List.map_drop]
  refine ⟨(Bd.lit (i:=4) (n:=3)).mono,(jz (by omega)).mono,xs.drop (10 + 4 * k),g,bs,_,_,by rw [ec],by rw [List.length_drop]; omega,λx hx'=>hx x (List.mem_of_mem_drop hx'),by omega,by omega,bg,gz,by omega,λb hb'=>(hb b hb').2,by omega,by omega,by omega,bst,λm o1 o2 o3 o4 o5 o6=>⟨by rw [List.length_map]; omega,ms++[m],.sh (.int (k:Int)),by rw [List.map_append]; rfl,by rw [List.length_append,lm]; rfl,vf hm ⟨by rw [<- lg]; exact o1,o2,o3,o4,o5,o6⟩⟩⟩
 rintro Γ' ⟨ms,s7,rfl,lm,hm⟩
 rw [uc] at lm
 refine ⟨k0,k0,q n bs ms _ g _ _ ⟨⟨n1,n3,λb hb'=>(hb b hb').1,by omega,by omega,by omega,λm hm'=>(hm m hm').1⟩,λm hm'=>(hm m hm').2.1,List.all_eq_true.mpr λm hm'=>List.all_eq_true.mpr λx hx'=>decide_eq_true ((hm m hm').2.2.1 x hx'),λb hb'=>(hb b hb').2,by omega,bu,lg,bg,by omega,by omega,by omega,bst,by omega,by omega,λm hm'=>(hm m hm').2.2.2.1,λm hm'=>(hm m hm').2.2.2.2.1,λm hm'=>(hm m hm').2.2.2.2.2⟩⟩
theorem zH6 {k:Nat} {f:Addr} {fd:FuncData} (F:zc K "_law_pushed" "_law_pushed" Xa f fd) (B:Bl mg) (aA:Fn P w K mg base "_law_both" ["_law_numbers"] k (zI (U5))):zH P w K mg base zW (k + 1) f fd ["_law_spec","_law_mode","_law_numbers"] (zI (zLS)):=by
 refine zm F j0 (λds R h=>by obtain ⟨n,bs,ms,u,m,d,ns,rfl,_⟩:=h; rfl) λcdv A outer s H E hr=>⟨_,(zJ (vc (zA 1) (xI rfl (zY 3 j0.nd rfl (Or.inl rfl) (zY 4 j0.nd rfl (Or.inl rfl) (zY 5 j0.nd rfl (Or.inl rfl) (zY 6 j0.nd rfl (Or.inr rfl) (zY 7 j0.nd rfl (Or.inl rfl) (zY 8 j0.nd rfl (Or.inl rfl) xH))))))))
  (zM (zS (zO aA hr rfl (zB (yT (own:=["_law_j"]) (caps:=[(0,"_law_spec"),(2,"_law_numbers"),(6,"_law_push")]) (yF (S:=zK Xa) (N:=["_law_spec","_law_mode","_law_numbers","_law_rows_here","_law_nexts","_law_steer","_law_push","_law_add","_law_divisor_here"]) rfl (by decide +kernel) rfl ⟨_,rfl⟩ rfl (by decide +kernel) (by decide +kernel)) rfl rfl yU (xm rfl B.range_ (zB (zj yQ yS rfl B.len_ yR (zB (zP (zA 0) zD (λ_ _=>rfl)) zC)) zC)) (λ_ _ _ _=>(zz 0 (show (["_law_j","_law_spec","_law_numbers","_law_push"]:List Str).Nodup by decide +kernel) rfl (Or.inr rfl))) (λ_ _ _ _=>(zj (qH rfl) qU rfl B.sum_ qG (zB (yT (own:=["_law_i"]) (caps:=[(0,"_law_j"),(2,"_law_numbers"),(3,"_law_push")]) (YO rfl (by decide +kernel) (by decide +kernel) (by decide +kernel) (by decide +kernel)) rfl rfl yU (xm rfl B.range_ (zB (zP (zA 1) zD (λ_ _=>rfl)) zC)) (λ_ _ _ _=>(zz 0 (show (["_law_i","_law_j","_law_numbers","_law_push"]:List Str).Nodup by decide +kernel) rfl (Or.inl rfl))) (λ_ _ _ _=>(zx (zP (zA 2) (zA 0) (λ_ _=>rfl)) (zP (zP (zA 3) (zA 0) (λ_ _=>rfl)) (zA 1) (λ_ _=>rfl))))) zC)))) zC))))),λds R h=>?_⟩
 obtain ⟨n,bs,ms,u,m,d,ns,rfl,n3,b2,o,bp,h,ln,bn,q⟩:=h
 have lb:(List.map zw bs).length=bs.length:=List.length_map ..
 have hix:∀ {i:Int} {R:D->Prop},0<=i->i < (ns.length:Int)->(∀ x∈ns,R (.int x))->Yh d (.int i) R:=λ{i R} h0 h1 k=>by
  rcases h with rfl | rfl <;> exact yf h0 h1 k
 refine ⟨_,rfl,by omega,by omega,?_⟩
 rw [show ((List.length (List.map zw bs):Nat):Int).toNat=bs.length by omega]
 refine zk.nums (λx=>Bd 115 x) (by omega) (λj hj=>?_) λys ly hy=>⟨_,ys,rfl,.inl rfl,by omega,λx hx=>(hy x hx).mono,λzs lz hz=>q zs (by rw [lz,ly]) hz⟩
 refine ⟨_,rfl,by omega,by omega,?_⟩
 rw [show ((n:Nat):Int).toNat=n by omega]
 refine zk.nums (λx=>Bd 110 x) (by omega) (λi hi=>?_) λzs lz hz=>⟨zs,rfl,_,rfl,(ZQ hz).mono (by omega)⟩
 refine hix (by omega) (by omega) λc hc=>vH (by omega) (by rw [List.length_map,o.push.1]; omega) λr hr=>?_
 obtain ⟨r,hr1,rfl⟩:=List.mem_map.mp hr
 have lr:=o.push.2 r hr1
 exact yf (by omega) (by omega) λy hy=>⟨(bn c hc).mono,(bp r hr1 y hy).mono,_,rfl,(bn c hc).mul (bp r hr1 y hy)⟩
end
theorem zQa (ws:List Int) (b:Int):zV (ws.map D.int++[D.int b]) none (some (-1))=ws.map D.int:=by
 rw [zI0,vp]
theorem ZV (ws:List Int) (b:Int):yp (ws.map D.int++[D.int b]) (-1)=some (.int b):=by
 rw [zI0,jx]
theorem uh (ws:List Int) (b:Int):D.tup (ws.map D.int++[D.int b])=U (ws++[b]):=by unfold U; rw [List.map_append]; rfl
theorem JE {α:Type} (u:α->D) {P:α->Prop}:∀ {es:List D},(∀ e∈es,∃ a,e=u a/\P a)->∃ as:List α,es=as.map u/\∀ a∈as,P a
 | [],_=>⟨[],rfl,λ_ h=>nomatch h⟩
 | e :: es,h=>by
  obtain ⟨ns,rfl,k⟩:=JE u (es:=es) λx m=>h x (List.mem_cons_of_mem _ m)
  obtain ⟨i,rfl,p⟩:=h e List.mem_cons_self
  exact ⟨i :: ns,rfl,λx m=>(List.mem_cons.mp m).elim (λz=>z ▸ p) (k x)⟩
structure Fl (n:Nat) (box:List (Int × Int)) (room aims:List (List Int)) (ws:List Int) (b tp tu:Int):Prop where
 lb:box.length=n
 hb:∀ b∈box,Bd 105 b.1/\Bd 105 b.2
 rm:∀ r∈room,r.length=n + 1/\∀ x∈r,Bd 130 x
 r1:room.length<=1
 am:∀ r∈aims,r.length=n + 1/\∀ x∈r,Bd 130 x
 a2:aims.length<=2
 lw:ws.length=n
 bw:∀ x∈ws,Bd 5 x
 bb:Bd 110 b
 bt:Bd 125 tp
 t0:0<=tu
 bu:Bd 130 tu
 ord:∀ b∈box,b.1<=b.2
abbrev j2 (box:List (Int × Int)) (room aims:List (List Int)) (ws:List Int) (b tp tu:Int):D:=.tup [.lst (box.map zw),Rm room,Rm aims,U (ws++[b]),.int tp,.int tu]
def zI7:FL:=λds R=>∃ n bs ms u goal often step c,ds=[vP n bs ms u,L goal,.int often,.int step,.int c]/\Dr n bs ms u goal often step/\∀ box room aims ws b tp tu,Fl n box room aims ws b tp tu->R (j2 box room aims ws b tp tu)
section
variable {P:Program} {w:World} {K:PySem.W.Frag} {mg:Str->Option Value} {base:Heap}
abbrev Xb:Stmt:=zi 86
theorem uR:za ["_law_spec","_law_goal","_law_often","_law_step","_law_cell","_law_xs","_law_box_here","_law_bound","_law_slack","_law_measure","_law_top_here","_law_turns","_law_aims","_law_room"] ["_law_spec","_law_goal","_law_often","_law_step","_law_cell"] (zK Xb):=.a
variable {aClaim aSettles aComes af ag aPaper aRooms aFalls:Addr} (TClaim:zE K mg "Claim" aClaim) (AClaim:wY K aClaim) (TSettles:zE K mg "Settles" aSettles) (ASettles:wZ K aSettles) (TComes:zE K mg "Comes" aComes) (AComes:wa K aComes) (aa:zE K mg "Mode" af) (ab:wb K af) (ac:zE K mg "Thing" ag) (ae:wc K ag) (TPaper:zE K mg "Paper" aPaper) (APaper:wd K aPaper) (TRooms:zE K mg "Rooms" aRooms) (ARooms:we K aRooms) (TFalls:zE K mg "Falls" aFalls) (AFalls:wf K aFalls) (Y:yd K aComes aSettles)
include TClaim AClaim TSettles ASettles TComes AComes aa ab ac ae TPaper APaper TRooms ARooms TFalls AFalls Y
theorem zHM {k:Nat} {f:Addr} {fd:FuncData} (F:zc K "_law_falling" "_law_falling" Xb f fd) (B:Bl mg) (ao:Fn P w K mg base "_law_stream" ["_law_cell","_law_many"] k (zI (ZH))) (bS:Fn P w K mg base "_law_box" ["_law_cell","_law_many","_law_unit"] k (zI (ZJ))) (ak:Fn P w K mg base "_law_number" ["_law_x","_law_far"] k (zI (ZI))) (aO:Fn P w K mg base "_law_top" ["_law_numbers","_law_box_here"] k (zI (ZK))):zH P w K mg base zW (k + 1) f fd ["_law_spec","_law_goal","_law_often","_law_step","_law_cell"] (zI (zI7)):=by
 refine zm F uR (λds R h=>by obtain ⟨n,bs,ms,u,goal,often,step,c,rfl,_⟩:=h; rfl) λcdv A outer s H E hr=>⟨_,(zJ (zg 5 uR.nd rfl (Or.inl rfl) (zO ao hr rfl (zB (zA 4) (zB zD zC))))
  (zJ (zg 6 uR.nd rfl (Or.inl rfl) (zO bS hr rfl (zB (zP (zA 5) zD (λ_ _=>rfl)) (zB (zP (zA 0) zD (λ_ _=>rfl)) (zB (zP (zA 0) zD (λ_ _=>rfl)) zC)))))
  (zJ (zg 7 uR.nd rfl (Or.inl rfl) (zx (zO ak hr rfl (zB (zP (zA 5) zD (λ_ _=>rfl)) (zB zD zC))) (zP (zA 0) zD (λ_ _=>rfl))))
  (zJ (zg 8 uR.nd rfl (Or.inl rfl) (zP (yH (zB zD (zB zD (zB (yW (zP (zA 5) zD (λ_ _=>rfl)) (zU zD (zP (zA 0) zD (λ_ _=>rfl)))) zC)))) (yW (zP (zA 5) zD (λ_ _=>rfl)) zD) (λ_ _=>rfl)))
  (zJ (zg 9 uR.nd rfl (Or.inl rfl) (xB vA vE rfl B.tuple_ xz (zB (zU (yT (own:=["_law_c"]) (caps:=[(2,"_law_often")]) (yF (S:=zK Xb) (N:=["_law_spec","_law_goal","_law_often","_law_step","_law_cell","_law_xs","_law_box_here","_law_bound","_law_slack","_law_measure","_law_top_here","_law_turns","_law_aims","_law_room"]) rfl (by decide +kernel) rfl ⟨_,rfl⟩ rfl (by decide +kernel) (by decide +kernel)) rfl rfl yU (yt (zA 1)) (λ_ _ _ _=>(zz 0 (show (["_law_c","_law_often"]:List Str).Nodup by decide +kernel) rfl (Or.inl rfl))) (λ_ _ _ _=>(zx (zA 1) (zA 0)))) (yH (zB (xj (zA 8) (zx (zA 2) (zA 7))) zC))) zC)))
  (zJ (zg 10 uR.nd rfl (Or.inl rfl) (zU (zU (zO aO hr rfl (zB (yk (zA 9) yn (ya (yi zD))) (zB (zA 6) zC))) (zP (zA 9) (yi zD) (λ_ _=>rfl))) (yW (xR (zP (zA 5) zD (λ_ _=>rfl)) zD) zD)))
  (zJ (zg 11 uR.nd rfl (Or.inl rfl) (zj (gF rfl) kF rfl B.max_ gS (zB zD (zB (zU (xR (zA 10) (zA 3)) (zP (yH (zB zD (zB zD (zB zD (zB zD zC))))) (yW (zP (zA 5) zD (λ_ _=>rfl)) zD) (λ_ _=>rfl))) zC))))
  (zJ (wX 12 uR.nd rfl (Or.inl rfl) (zB (xB vA vE rfl B.tuple_ xz (zB (zU (zA 1) (yH (zB (zA 7) zC))) zC)) zC))
  (zJ (wX 13 uR.nd rfl (Or.inl rfl) zC)
  (vb (yB (xk hr.units (yW (zP (zA 5) zD (λ_ _=>rfl)) zD) zD) (zJ (zv (xX (xg PySem.F.plainAttrs_list PySem.F.slot_list_append PySem.F.type_list_append yL (yJ 13) (zl (xB vA vE rfl B.tuple_ xz (zB (zU (zA 1) (yH (zB (zU (zO aO hr rfl (zB (zA 1) (zB (zA 6) zC))) (yW (xR (zP (zA 5) zD (λ_ _=>rfl)) zD) zD)) zC))) zC)) yI))) xq)
   (zM (yB (PW.pt (Wu (xk hr.units (yW (xR (zP (zA 5) zD (λ_ _=>rfl)) zD) zD) zD) (Wt (Wq (zA 7) (zP (UI 13 zD (λ_ _=>rfl)) (yi zD) (λ_ _=>rfl)))))) (zM (zv (xX (xg PySem.F.plainAttrs_list PySem.F.slot_list_append PySem.F.type_list_append yL (yJ 12) (zl (xB vA vE rfl B.tuple_ xz (zB (zU (zA 1) (yH (zB (zU (zU (zP (UI 13 zD (λ_ _=>rfl)) (yi zD) (λ_ _=>rfl)) zD) (yW (xR (zP (zA 5) zD (λ_ _=>rfl)) zD) zD)) zC))) zC)) yI))) xq)) yA))) yA)
  (zM (wC 12 (wC 13 (zS (xA (zB (zA 6) (zB (zA 13) (zB (zA 12) (zB (zA 9) (zB (zA 10) (zB (zA 11) zC))))))))))))))))))))),λds R h=>?_⟩
 obtain ⟨n,bs,ms,u,goal,often,step,c,rfl,dr,q⟩:=h
 have n3:=dr.ok.n3
 have u1:=dr.u1
 have o1:=dr.o1
 have o3:=dr.o3
 have s1:=dr.s1
 have lg:=dr.lg
 have lgm:(List.map D.int goal).length=n:=by rw [List.length_map]; exact lg
 have bo:Bd 2 often:=wO (f:=3) (by decide) (by omega) (by omega)
 have bgo:∀ c∈goal,Bd 2 c:=λc hc=>wO (f:=3) (by decide) (by have:=dr.bg c hc; omega) (by have:=dr.bg c hc; omega)
 refine ⟨c,6,rfl,by decide,λxs lx hx=>?_⟩
 refine yf (by decide) (by omega) λx0 _=>⟨_,rfl,_,rfl,x0,n,u,rfl,n3,by omega,dr.bu,λbox lbx hbx=>?_⟩
 refine yf (by decide) (by omega) λx1 _=>⟨_,4,rfl,by decide,(Bd.lit (i:=4) (n:=3)).mono,λy y1 y2=>⟨_,rfl,?_⟩⟩
 have by3:Bd 3 y:=wO (f:=7) (by decide) (by omega) (by omega)
 refine ⟨by3.mono,dr.bu.mono,?_⟩
 have bbd:Bd 103 (y * u):=by3.mul dr.bu
 refine yf (by decide) (by omega) λx2 _=>⟨_,rfl,by omega,k0,yf (by decide) (by omega) λx3 _=>⟨by decide,vH (md x3 (by decide)).1 (by have:=md x3 (show (0:Int) < 3 by decide); show x3.fmod 3 < 3; omega) λz hz=>?_⟩⟩
 have m2:=md x2 (show (0:Int) < 1 + u by omega)
 obtain ⟨sl,rfl,bsl⟩:xn (Bd 102) z:=by
  simp only [List.mem_cons,List.not_mem_nil,or_false] at hz
  rcases hz with rfl | rfl | rfl
  ·exact ⟨0,rfl,xM⟩
  ·exact ⟨0,rfl,xM⟩
  ·exact ⟨_,rfl,(dr.bu.of_le (by omega)).mono⟩
 refine zk.int (λc=>often * c) (by omega) (λc hc=>⟨bo.mono,(bgo c hc).mono,rfl⟩) ⟨bo.mono,bbd.mono,k0,by rw [List.length_map,List.length_map]; show _ + 1<=1000; omega,?_⟩
 have bws:∀ x∈goal.map (λc=>often * c),Bd 4 x:=λx hx'=>by
  obtain ⟨c,hc,rfl⟩:=List.mem_map.mp hx'
  exact bo.mul (bgo c hc)
 have bme:Bd 108 (sl - often * (y * u)):=((bsl.mono (show 102<=105 by decide)).sub ((bo.mul bbd).mono)).mono
 refine ⟨_,goal.map (λc=>often * c),box,rfl,.inr (by rw [zQa]),by rw [List.length_map]; omega,λx hx'=>(bws x hx').mono,λb hb'=>(hbx b hb').2,λt bt=>⟨_,ZV _ _,yf (by decide) (by omega) λx4 _=>⟨by decide,(Bd.lit (i:=3) (n:=2)).mono,by decide,?_⟩⟩⟩
 have btp:Bd 125 (t + (sl - often * (y * u)) + (x4.fdiv 3).fmod 2):=(((bt.mono (show 120<=121 by decide)).add bme.mono).add ((vO (n:=2) Bd.lit (by decide)).mono)).mono
 refine ⟨by omega,dr.bst.mono,k0,yf (by decide) (by omega) λx5 _=>⟨by decide,vH (md x5 (by decide)).1 (by have:=md x5 (show (0:Int) < 4 by decide); show x5.fmod 4 < 4; omega) λz2 hz2=>?_⟩⟩
 obtain ⟨w,rfl,bw⟩:xn (Bd 3) z2:=by
  simp only [List.mem_cons,List.not_mem_nil,or_false] at hz2
  rcases hz2 with rfl | rfl | rfl | rfl <;> exact ⟨_,rfl,Bd.lit⟩
 refine ⟨k0,by rw [List.length_map]; show _ + 1<=1000; omega,k0,k0,?_⟩
 rw [uh,uh]
 have brow:∀ z:Int,Bd 130 z->(goal++[z]).length=n + 1/\∀ x∈goal++[z],Bd 130 x:=λz hz=>⟨by rw [List.length_append,lg]; rfl,vf (λx hx'=>(bgo x hx').mono) hz⟩
 refine ⟨λΓ=>∃ room aims:List (List Int),Γ=[.sh (vP n bs ms u),.sh (L goal),.sh (.int often),.sh (.int step),.sh (.int c),.sh (L xs),.sh (.lst (box.map zw)),.sh (.int (y * u)),.sh (.int sl),.sh (U (goal.map (λc=>often * c)++[sl - often * (y * u)])),.sh (.int (t + (sl - often * (y * u)) + (x4.fdiv 3).fmod 2)),.sh (.int (max 0 ((t + (sl - often * (y * u)) + (x4.fdiv 3).fmod 2).fdiv step + w))),.ow (aims.map U),.ow (room.map U)]/\(∀ r∈room,r.length=n + 1/\∀ x∈r,Bd 130 x)/\room.length<=1/\(∀ r∈aims,r.length=n + 1/\∀ x∈r,Bd 130 x)/\aims.length<=2,?_,?_⟩
 ·refine yf (by decide) (by omega) λx6 _=>⟨by decide,w2 (λc1=>?_) λc1=>⟨[],[goal++[y * u]],rfl,(λ_ h=>nomatch h),by decide,(λr hr=>by rw [List.mem_singleton.mp hr]; exact brow _ bbd.mono),by show 1<=2; decide⟩⟩
  refine ⟨_,goal,box,rfl,.inl rfl,by omega,λx hx'=>(bgo x hx').mono,λb hb'=>(hbx b hb').2,λt2 bt2=>yf (by decide) (by omega) λx7 _=>⟨by decide,(Bd.lit (i:=2) (n:=2)).mono,by decide,k0,by rw [List.length_map]; show _ + 1<=1000; omega,by decide,?_⟩⟩
  have b2:Bd 122 (t2 + (x7.fdiv 2).fmod 3):=((bt2.mono (show 120<=121 by decide)).add ((vO (n:=2) Bd.lit (by decide)).mono)).mono
  rw [uh]
  have fin1:∀ a2:List (List Int),a2.length<=1->(∀ r∈a2,r.length=n + 1/\∀ x∈r,Bd 130 x)->(∀ r∈[goal++[t2 + (x7.fdiv 2).fmod 3]],r.length=n + 1/\∀ x∈r,Bd 130 x)/\[goal++[t2 + (x7.fdiv 2).fmod 3]].length<=1/\(∀ r∈[goal++[y * u]]++a2,r.length=n + 1/\∀ x∈r,Bd 130 x)/\([goal++[y * u]]++a2).length<=2:=λa2 l2 h2=>⟨λr hr=>by rw [List.mem_singleton.mp hr]; exact brow _ b2.mono,by show 1<=1; decide,λr hr=>by
   rcases List.mem_append.mp hr with hr | hr
   ·rw [List.mem_singleton.mp hr]; exact brow _ bbd.mono
   ·exact h2 r hr,by rw [List.length_append]; show 1 + _<=2; omega⟩
  refine yf (by decide) (by omega) λx8 _=>⟨by decide,(Bd.lit (i:=8) (n:=4)).mono,by decide,w2 (λc2=>?_) λc2=>wF rfl ⟨[goal++[t2 + (x7.fdiv 2).fmod 3]],[goal++[y * u]],rfl,fin1 [] (by decide) (λ_ h=>nomatch h)⟩⟩
  refine ⟨_,rfl,_,jx _ _,w2 (λc3=>?_) λc3=>⟨[goal++[t2 + (x7.fdiv 2).fmod 3]],[goal++[y * u]],rfl,fin1 [] (by decide) (λ_ h=>nomatch h)⟩⟩
  refine ⟨_,rfl,_,jx _ _,yf (by decide) (by omega) λx9 _=>⟨by decide,(Bd.lit (i:=16) (n:=5)).mono,by decide,k0,by rw [List.length_map]; show _ + 1<=1000; omega,by show 1 < 1000; decide,?_⟩⟩
  have b3:Bd 125 (t2 + (x7.fdiv 2).fmod 3 + 1 + (x9.fdiv 16).fmod 3):=(((b2.add ((Bd.lit (i:=1) (n:=1)).mono)).mono (show 123<=124 by decide)).add ((vO (n:=2) Bd.lit (by decide)).mono)).mono
  rw [uh]
  exact ⟨[goal++[t2 + (x7.fdiv 2).fmod 3]],[goal++[y * u]]++[goal++[t2 + (x7.fdiv 2).fmod 3 + 1 + (x9.fdiv 16).fmod 3]],rfl,fin1 _ (by show 1<=1; decide) (λr hr=>by rw [List.mem_singleton.mp hr]; exact brow _ b3.mono)⟩
 rintro Γ' ⟨room,aims,rfl,h1,h2,h3,h4⟩
 refine ⟨k0,q box room aims _ _ _ _ ⟨lbx,λb hb'=>(hbx b hb').2,h1,h2,h3,h4,by rw [List.length_map]; exact lg,λx hx'=>(bws x hx').mono,bme.mono,btp,by omega,ZP xM (((Bd.fdiv btp _).add bw.mono).mono),λb hb'=>(hbx b hb').1⟩⟩
end
abbrev zT (s:Int × List Int):D:=.tup [.int s.1,L s.2]
abbrev yC (ss:List (Int × List Int)):D:=.lst (ss.map zT)
abbrev yE (t:List (List (Int × List Int))):D:=.lst (t.map yC)
structure jK (s:Int × List Int):Prop where
 o:Bd 210 s.1
 l:s.2.length<=100
 b:∀ x∈s.2,Bd 210 x
def uF (ss:List (Int × List Int)):Prop:=ss.length<=40/\∀ s∈ss,jK s
def vh (t:List (List (Int × List Int))):Prop:=t.length<=40/\∀ ss∈t,uF ss
abbrev uG (room:List (List Int)) (A1 A2:D) (ws:List Int) (b st tp:Int) (A6 A7 A8:D):D:=.lst [Rm room,A1,A2,U (ws++[b]),.int st,.int tp,A6,A7,A8]
def zNm:FL:=λds R=>∃ n bs ms u goal often step box room aims ws b tp tu,ds=[vP n bs ms u,L goal,.int often,.int step,j2 box room aims ws b tp tu]/\Dr n bs ms u goal often step/\Fl n box room aims ws b tp tu/\∀ S1 S2 S6 S7 S8,uF S1->vh S2->vh S6->uF S7->jK S8->R (uG room (yC S1) (yE S2) ws b step tp (yE S6) (yC S7) (zT S8))
theorem ui (k:Nat):List.replicate k (D.int 0)=(List.replicate k (0:Int)).map D.int:=(List.map_replicate ..).symm
theorem qg {e k:Nat}:∀ x∈List.replicate k (0:Int),Bd e x:=λx hx=>by rw [List.eq_of_mem_replicate hx]; exact xM
theorem uj {e:Nat} {a b:List Int} (h:∀ x∈a,Bd e x) (k:∀ x∈b,Bd e x):∀ x∈a++b,Bd e x:=λx hx=>(List.mem_append.mp hx).elim (h x) (k x)
theorem ZW {e:Nat} {a:Int} (h:Bd e a):∀ x∈[a],Bd e x:=λx hx=>by rw [List.mem_singleton.mp hx]; exact h
theorem Xc (o:Int) {ns:List Int} {ds:List D} (e:ds=ns.map D.int):D.tup [.int o,.lst ds]=zT (o,ns):=by rw [e]
section
variable {P:Program} {w:World} {K:PySem.W.Frag} {mg:Str->Option Value} {base:Heap}
abbrev ZX:Stmt:=zi 87
theorem wx:za ["_law_spec","_law_goal","_law_often","_law_step","_law_told","_law_box_here","_law_room","_law_aims","_law_measure","_law_top_here","_law_turns","_law_starts","_law_steps","_law_falls","_law_mode","_law_none","_law_some","_law_floors","_law_tops","_law_found"] ["_law_spec","_law_goal","_law_often","_law_step","_law_told"] (zK ZX):=.a
variable {aClaim aSettles aComes af ag aPaper aRooms aFalls:Addr} (TClaim:zE K mg "Claim" aClaim) (AClaim:wY K aClaim) (TSettles:zE K mg "Settles" aSettles) (ASettles:wZ K aSettles) (TComes:zE K mg "Comes" aComes) (AComes:wa K aComes) (aa:zE K mg "Mode" af) (ab:wb K af) (ac:zE K mg "Thing" ag) (ae:wc K ag) (TPaper:zE K mg "Paper" aPaper) (APaper:wd K aPaper) (TRooms:zE K mg "Rooms" aRooms) (ARooms:we K aRooms) (TFalls:zE K mg "Falls" aFalls) (AFalls:wf K aFalls) (Y:yd K aComes aSettles)
include TClaim AClaim TSettles ASettles TComes AComes aa ab ac ae TPaper APaper TRooms ARooms TFalls AFalls Y
theorem zFS {k:Nat} {f:Addr} {fd:FuncData} (F:zc K "_law_fall_parts" "_law_fall_parts" ZX f fd) (B:Bl mg) (aA:Fn P w K mg base "_law_both" ["_law_numbers"] k (zI (U5))) (aP:Fn P w K mg base "_law_pushed" ["_law_spec","_law_mode","_law_numbers"] k (zI (zLS))):zH P w K mg base zW (k + 1) f fd ["_law_spec","_law_goal","_law_often","_law_step","_law_told"] (zI (zNm)):=by
 refine zm F wx (λds R h=>by obtain ⟨n,bs,ms,u,goal,often,step,box,room,aims,ws,b,tp,tu,rfl,_⟩:=h; rfl) λcdv A outer s H E hr=>⟨_,(zJ (vc (zA 4) (xI rfl (zY 5 wx.nd rfl (Or.inl rfl) (zY 6 wx.nd rfl (Or.inl rfl) (zY 7 wx.nd rfl (Or.inl rfl) (zY 8 wx.nd rfl (Or.inl rfl) (zY 9 wx.nd rfl (Or.inl rfl) (zY 10 wx.nd rfl (Or.inl rfl) xH))))))))
  (zJ (jB 11 false wx.nd rfl rfl (own:=["_law_row"]) (caps:=[]) (yF (S:=zK ZX) (N:=["_law_spec","_law_goal","_law_often","_law_step","_law_told","_law_box_here","_law_room","_law_aims","_law_measure","_law_top_here","_law_turns","_law_starts","_law_steps","_law_falls","_law_mode","_law_none","_law_some","_law_floors","_law_tops","_law_found"]) rfl (by decide +kernel) rfl ⟨_,rfl⟩ rfl (by decide +kernel) (by decide +kernel)) rfl rfl yU (yt (zA 6)) (λ_ _ _ _=>(zz 0 (show (["_law_row"]:List Str).Nodup by decide +kernel) rfl (Or.inl rfl))) (λ_ _ _ _=>(xA (zB zD (zB (zO aA hr rfl (zB (yk (zA 0) yn (ya (yi zD))) zC)) zC)))) rfl)
  (zJ (wX 12 wx.nd rfl (Or.inl rfl) zC)
  (zJ (wX 13 wx.nd rfl (Or.inl rfl) zC)
  (zJ (wu PassesOwn.never rfl (yt (zP (zA 0) zD (λ_ _=>rfl))) (zz 14 wx.nd rfl (Or.inr rfl)) (zJ (zg 15 wx.nd rfl (Or.inr rfl) (zx (yH (zB zD zC)) (zj yQ yS rfl B.len_ yR (zB (zP (zA 14) zD (λ_ _=>rfl)) zC))))
   (zJ (zv (xX (xg PySem.F.plainAttrs_list PySem.F.slot_list_append PySem.F.type_list_append yL (yJ 12) (zl (yT (own:=["_law_row"]) (caps:=[(0,"_law_spec"),(1,"_law_goal"),(14,"_law_mode"),(15,"_law_none")]) (yF (S:=zK ZX) (N:=["_law_spec","_law_goal","_law_often","_law_step","_law_told","_law_box_here","_law_room","_law_aims","_law_measure","_law_top_here","_law_turns","_law_starts","_law_steps","_law_falls","_law_mode","_law_none","_law_some","_law_floors","_law_tops","_law_found"]) rfl (by decide +kernel) rfl ⟨_,rfl⟩ rfl (by decide +kernel) (by decide +kernel)) rfl rfl yU (yt (zA 6)) (λ_ _ _ _=>(zz 0 (show (["_law_row","_law_spec","_law_goal","_law_mode","_law_none"]:List Str).Nodup by decide +kernel) rfl (Or.inl rfl))) (λ_ _ _ _=>(xA (zB zD (zB (zU (zU (yH (zB (zP (zA 3) zD (λ_ _=>rfl)) zC)) (zA 4)) (zO aP hr rfl (zB (zA 1) (zB (zA 3) (zB (zA 2) zC))))) zC))))) yI))) xq)
   (zJ (wX 16 wx.nd rfl (Or.inl rfl) (zB (xA (zB zD (zB (zU (zU (zU (zx (yH (zB zD zC)) (zj yQ yS rfl B.len_ yR (zB (zA 6) zC))) (zA 15)) (yH (zB zD zC))) (zO aP hr rfl (zB (zA 0) (zB (zA 14) (zB (yk (zA 8) yn (ya (yi zD))) zC))))) zC))) zC))
   (vb (yB (gr (zj yQ yS rfl B.len_ yR (zB (zA 7) zC)) zD) (zM (zv (xX (xg PySem.F.plainAttrs_list PySem.F.slot_list_append PySem.F.type_list_append yL (yJ 16) (zl (xA (zB zD (zB (zU (zU (zU (yH (zB zD zC)) (zA 15)) (yH (zB zD zC))) (zx (yH (zB zD zC)) (zx zD (zj yQ yS rfl B.len_ yR (zB (zP (zA 0) zD (λ_ _=>rfl)) zC))))) zC))) yI))) xq)) yA)
   (zM (wC 16 (zv (xX (xg PySem.F.plainAttrs_list PySem.F.slot_list_append PySem.F.type_list_append yL (yJ 13) (zl (zA 16) yI))) xq))))))))
  (zJ (wX 17 wx.nd rfl (Or.inl rfl) (zB (xA (zB zD (zB (zU (zx (yH (zB zD zC)) (zj yQ yS rfl B.len_ yR (zB (zA 6) zC))) (yH (zB (zA 2) zC))) zC))) zC))
  (vb (yB (gr (zj yQ yS rfl B.len_ yR (zB (zA 7) zC)) zD) (zM (zv (xX (xg PySem.F.plainAttrs_list PySem.F.slot_list_append PySem.F.type_list_append yL (yJ 17) (zl (xA (zB zD (zB (yH (zB zD (zB zD zC))) zC))) yI))) xq)) yA)
  (zJ (zg 18 wx.nd rfl (Or.inl rfl) (xA (zB zD (zB (zO aA hr rfl (zB (yk (zA 8) yn (ya (yi zD))) zC)) zC))))
  (zJ (wC 12 (zg 19 wx.nd rfl (Or.inl rfl) (yH (zB (zA 6) (zB (zA 11) (zB (zA 12) (zB (zA 8) (zB (zA 3) zC))))))))
  (zM (wC 13 (wC 17 (zS (zU (zA 19) (yH (zB (zA 9) (zB (zA 13) (zB (zA 17) (zB (zA 18) zC))))))))))))))))))),λds R h=>?_⟩
 obtain ⟨n,bs,ms,u,goal,often,step,box,room,aims,ws,b,tp,tu,rfl,dr,fl,q⟩:=h
 have n3:=dr.ok.n3
 have b2:=dr.b2
 have m3:=dr.m3
 have r1:=fl.r1
 have lw:=fl.lw
 have o1:=dr.o1
 have o3:=dr.o3
 have bo:Bd 2 often:=wO (f:=3) (by decide) (by omega) (by omega)
 have lr:(List.map U room).length=room.length:=List.length_map ..
 have lb:(List.map zw bs).length=bs.length:=List.length_map ..
 have bgo:∀ c∈goal,Bd 2 c:=λc hc=>wO (f:=3) (by decide) (by have:=dr.bg c hc; omega) (by have:=dr.bg c hc; omega)
 have one1:Bd 210 (1:Int):=(Bd.lit (i:=1) (n:=1)).mono
 refine zk.all (λd=>∃ s,d=zT s/\jK s) (by rw [lr]; omega) (λd hd=>?_) λes le he=>?_
 ·obtain ⟨r,hr,rfl⟩:=List.mem_map.mp hd
  have h:=fl.rm r hr
  exact ⟨_,r.take n,rfl,.inr (by rw [uD h.1]),by rw [List.length_take]; omega,λx hx=>(h.2 x (List.mem_of_mem_take hx)).mono,λys ly hy=>⟨k0,(1,ys),rfl,one1,by show ys.length<=100; rw [ly,List.length_take]; omega,λx hx=>(hy x hx).2.mono⟩⟩
 obtain ⟨S1,rfl,hS1⟩:=JE zT he
 rw [List.length_map,lr] at le
 refine ⟨k0,k0,_,rfl,?_⟩
 refine ⟨λk Γ=>∃ (S2 S6:List (List (Int × List Int))) (s14 s15 s16:Sl),Γ=[.sh (vP n bs ms u),.sh (L goal),.sh (.int often),.sh (.int step),.sh (j2 box room aims ws b tp tu),.sh (.lst (box.map zw)),.sh (Rm room),.sh (Rm aims),.sh (U (ws++[b])),.sh (.int tp),.sh (.int tu),.sh (yC S1),.ow (S2.map yC),.ow (S6.map yC),s14,s15,s16,.no,.no,.no]/\S2.length=k/\S6.length=k/\(∀ ss∈S2,uF ss)/\∀ ss∈S6,uF ss,⟨[],[],_,_,_,rfl,rfl,rfl,(λ_ h=>nomatch h),(λ_ h=>nomatch h)⟩,?_,?_⟩
 ·rintro k d Γ' hk ⟨S2,S6,s14,s15,s16,rfl,l2,l6,h2,h6⟩
  have kl:=(List.getElem?_eq_some_iff.mp hk).1
  rw [List.length_map] at kl
  obtain ⟨m,hm,rfl⟩:=List.mem_map.mp (List.mem_of_getElem? hk)
  have om:=dr.ok.mok m hm
  have km:=dr.hms m hm
  have rm1:=dr.r1 m hm
  have lrw:(List.map U m.rows).length=m.rows.length:=List.length_map ..
  have bp:=dr.pb m hm
  refine ⟨k0,_,rfl,by omega,by omega,?_⟩
  rw [show ((List.length (List.map U m.rows):Nat):Int).toNat=m.rows.length by omega,ui]
  refine zk.all (λd=>∃ s,d=zT s/\jK s) (by rw [lr]; omega) (λd hd=>?_) λes le2 he2=>?_
  ·refine ⟨_,rfl,k0,by rw [List.length_map,List.length_replicate]; show 1 + _<=1000; omega,n,bs,ms,u,m,_,goal,rfl,n3,b2,om,bp,.inl rfl,dr.lg,λx hx=>(bgo x hx).mono,λys ly hy=>⟨by rw [List.length_append,List.length_map,List.length_map,List.length_replicate]; show 1 + _ + _<=1000; omega,k0,(1,[m.div]++List.replicate m.rows.length 0++ys),Xc 1 (by rw [List.map_append,List.map_append]; rfl),one1,by show ([m.div]++List.replicate m.rows.length 0++ys).length<=100; rw [List.length_append,List.length_append,List.length_replicate]; show 1 + _ + _<=100; omega,uj (uj (ZW (km.div.mono)) qg) λx hx=>(hy x hx).2.mono⟩⟩
  obtain ⟨T1,rfl,hT1⟩:=JE zT he2
  rw [List.length_map,lr] at le2
  refine ⟨by rw [List.length_map]; omega,?_⟩
  refine ⟨k0,by omega,by omega,?_⟩
  rw [show ((List.length (List.map U room):Nat):Int).toNat=room.length by omega,ui]
  refine ⟨by rw [List.length_map,List.length_map,List.length_replicate,List.length_replicate]; omega,k0,by rw [List.length_append,List.length_map,List.length_map,List.length_replicate,List.length_replicate]; show _ + 1<=1000; omega,n,bs,ms,u,m,_,ws,rfl,n3,b2,om,bp,.inr (by rw [vp]),lw,λx hx=>(fl.bw x hx).mono,λys ly hy=>⟨by rw [List.length_append,List.length_append,List.length_map,List.length_map,List.length_map,List.length_replicate,List.length_replicate]; show _ + 1 + _<=1000; omega,k0,k0,?_⟩⟩
  rw [Xc 1 (ns:=List.replicate room.length 0++List.replicate m.rows.length 0++[0]++ys) (by rw [List.map_append,List.map_append,List.map_append]; rfl)]
  have P1:jK (1,List.replicate room.length 0++List.replicate m.rows.length 0++[0]++ys):=⟨one1,by show (List.replicate room.length (0:Int)++List.replicate m.rows.length 0++[0]++ys).length<=100; rw [List.length_append,List.length_append,List.length_append,List.length_replicate,List.length_replicate]; show _ + _ + 1 + _<=100; omega,uj (uj (uj qg qg) (ZW xM)) λx hx=>(hy x hx).2.mono⟩
  refine ⟨λΓ=>∃ ss:List (Int × List Int),Γ=[.sh (vP n bs ms u),.sh (L goal),.sh (.int often),.sh (.int step),.sh (j2 box room aims ws b tp tu),.sh (.lst (box.map zw)),.sh (Rm room),.sh (Rm aims),.sh (U (ws++[b])),.sh (.int tp),.sh (.int tu),.sh (yC S1),.ow ((S2++[T1]).map yC),.ow (S6.map yC),.sh (xN m),.sh (L (List.replicate m.rows.length 0)),.ow (ss.map zT),.no,.no,.no]/\uF ss,w2 (λc1=>?_) λc1=>⟨[(1,List.replicate room.length 0++List.replicate m.rows.length 0++[0]++ys)],by rw [List.map_append]; rfl,by show 1<=40; decide,λs hs=>by rw [List.mem_singleton.mp hs]; exact P1⟩,?_⟩
  ·refine ⟨k0,by rw [List.length_map,List.length_replicate]; show 1 + _<=1000; omega,k0,by rw [List.length_append,List.length_map,List.length_replicate]; show 1 + _ + 1<=1000; omega,k0,_,rfl,(Bd.lit (i:=2) (n:=2)).mono,(jz (by omega)).mono,by omega,by omega,by rw [List.length_append,List.length_append,List.length_map,List.length_replicate,List.length_replicate]; show 1 + _ + 1 + _<=1000; omega,k0,by show 1 < 1000; decide,?_⟩
   rw [ui,Xc 0 (ns:=[1]++List.replicate m.rows.length 0++[1]++List.replicate (2 * ((List.length (List.map zw bs):Nat):Int)).toNat 0) (by rw [List.map_append,List.map_append,List.map_append]; rfl)]
   refine ⟨[(1,List.replicate room.length 0++List.replicate m.rows.length 0++[0]++ys),(0,[1]++List.replicate m.rows.length 0++[1]++List.replicate (2 * ((List.length (List.map zw bs):Nat):Int)).toNat 0)],by rw [List.map_append]; rfl,by show 2<=40; decide,λs hs=>?_⟩
   rcases List.mem_cons.mp hs with rfl | hs
   ·exact P1
   ·rw [List.mem_singleton.mp hs]
    exact ⟨xM,by show ([1]++List.replicate m.rows.length (0:Int)++[1]++List.replicate (2 * ((List.length (List.map zw bs):Nat):Int)).toNat 0).length<=100; rw [List.length_append,List.length_append,List.length_append,List.length_replicate,List.length_replicate]; show 1 + _ + 1 + _<=100; omega,uj (uj (uj (ZW one1) qg) (ZW one1)) qg⟩
  rintro Γ' ⟨ss,rfl,hss⟩
  refine ⟨by rw [List.length_map]; omega,S2++[T1],S6++[ss],.sh (xN m),.sh (L (List.replicate m.rows.length 0)),.sh (yC ss),?_,by rw [List.length_append,l2]; rfl,by rw [List.length_append,l6]; rfl,vf h2 ⟨by omega,hT1⟩,vf h6 hss⟩
  rw [List.map_append (l₁:=S6)]
  rfl
 rintro Γ' ⟨S2,S6,s14,s15,s16,rfl,l2,l6,h2,h6⟩
 rw [List.length_map] at l2 l6
 refine ⟨k0,by omega,by omega,?_⟩
 rw [show ((List.length (List.map U room):Nat):Int).toNat=room.length by omega,ui]
 refine ⟨k0,by rw [List.length_map,List.length_replicate]; show _ + 1<=1000; omega,k0,k0,?_⟩
 rw [Xc 1 (ns:=List.replicate room.length 0++[often]) (by rw [List.map_append]; rfl)]
 have P7:jK (1,List.replicate room.length 0++[often]):=⟨one1,by show (List.replicate room.length (0:Int)++[often]).length<=100; rw [List.length_append,List.length_replicate]; show _ + 1<=100; omega,uj qg (ZW bo.mono)⟩
 refine ⟨λΓ=>∃ ss:List (Int × List Int),Γ=[.sh (vP n bs ms u),.sh (L goal),.sh (.int often),.sh (.int step),.sh (j2 box room aims ws b tp tu),.sh (.lst (box.map zw)),.sh (Rm room),.sh (Rm aims),.sh (U (ws++[b])),.sh (.int tp),.sh (.int tu),.sh (yC S1),.ow (S2.map yC),.ow (S6.map yC),s14,s15,s16,.ow (ss.map zT),.no,.no]/\uF ss,w2 (λc1=>⟨k0,k0,by show 1 < 1000; decide,[(1,List.replicate room.length 0++[often]),(0,[1,1])],rfl,by show 2<=40; decide,λs hs=>?_⟩) λc1=>⟨[(1,List.replicate room.length 0++[often])],rfl,by show 1<=40; decide,λs hs=>by rw [List.mem_singleton.mp hs]; exact P7⟩,?_⟩
 ·rcases List.mem_cons.mp hs with rfl | hs
  ·exact P7
  ·rw [List.mem_singleton.mp hs]
   exact ⟨xM,by show 2<=100; decide,λx hx=>by
    simp only [List.mem_cons,List.not_mem_nil,or_false,or_self] at hx
    rw [hx]
    exact one1⟩
 rintro Γ' ⟨S7,rfl,hS7⟩
 refine ⟨_,ws,rfl,.inr (by rw [vp]),by omega,λx hx=>(fl.bw x hx).mono,λys ly hy=>⟨k0,k0,k0,k0,q S1 S2 S6 S7 (1,ys) ⟨by omega,hS1⟩ ⟨by omega,h2⟩ ⟨by omega,h6⟩ hS7 ⟨one1,by show ys.length<=100; omega,λx hx=>(hy x hx).2.mono⟩⟩⟩
end
theorem JF {α:Type} {xs:List α} {lo hi:Option Int} {x:α} (h:x∈zV xs lo hi):x∈xs:=List.mem_of_mem_drop (List.mem_of_mem_take h)
theorem Xd {α:Type} {xs:List α} {lo hi:Option Int}:(zV xs lo hi).length<=xs.length:=by
 unfold zV
 rw [List.length_take,List.length_drop]
 omega
def Sy (y:D):Prop:=(∃ i,y=.int i/\Bd 1000 i)\/y=.bool true
theorem qh {o:Int} {ys:List D} (bo:Bd 1000 o) (l:ys.length<=900) (h:∀ y∈ys,Sy y):Fw 3 (.tup [.int o,.lst ys])/\uP (.tup [.int o,.lst ys]):=by
 refine ⟨.tup (by show 2<=900; decide) λd hd=>?_,λo' ys' e=>?_⟩
 ·rcases List.mem_cons.mp hd with rfl | hd
  ·exact .int _
  ·rw [List.mem_singleton.mp hd]
   refine .lst l λy hy=>?_
   rcases h y hy with ⟨i,rfl,_⟩ | rfl
   ·exact .int i
   ·exact .bool _
 ·cases e
  refine ⟨bo,λy hy=>?_⟩
  rcases h y hy with ⟨i,rfl,b⟩ | rfl
  ·exact b
  ·exact xM
theorem Xe {s:Int × List Int} (h:jK s):Fw 3 (zT s)/\uP (zT s):=qh (h.o.mono) (by rw [List.length_map]; have:=h.l; omega) λy hy=>by
 obtain ⟨i,hi,rfl⟩:=List.mem_map.mp hy
 exact .inl ⟨i,rfl,(h.b i hi).mono⟩
theorem Xf {k:Nat} {as:List D} (l:as.length<=900) (h:∀ a∈as,Fw 3 a/\uP a):Fw (k + 4) (.lst as)/\yO (.lst as):=⟨.lst l λa ha=>(h a ha).1.mono (by omega),λas' e=>by cases e; exact λa ha=>(h a ha).2⟩
theorem qi {k:Nat} {ss:List (Int × List Int)} (h:uF ss):Fw (k + 4) (yC ss)/\yO (yC ss):=Xf (by rw [List.length_map]; have:=h.1; omega) λa ha=>by
 obtain ⟨s,hs,rfl⟩:=List.mem_map.mp ha
 exact Xe (h.2 s hs)
theorem JG {as:List D} (l:as.length<=900) (h:∀ a∈as,Fw 4 a/\yO a):Fw 5 (.lst as)/\y6 (.lst as):=⟨.lst l λa ha=>(h a ha).1,λas' e=>by cases e; exact λa ha=>(h a ha).2⟩
theorem Xg {t:List (List (Int × List Int))} (h:vh t):Fw 5 (yE t)/\y6 (yE t):=JG (by rw [List.length_map]; have:=h.1; omega) λa ha=>by
 obtain ⟨s,hs,rfl⟩:=List.mem_map.mp ha
 exact qi (k:=0) (h.2 s hs)
def zLV:FL:=λds R=>∃ o ns c,ds=[.tup [.int o,L ns],.int c]/\jK (o,ns)/\∀ d,Fw 3 d->uP d->R d
def uk:Nat->FL
 | 0=>λ_ _=>False
 | j + 1=>λds R=>∃ d c,ds=[d,.int c]/\((∃ ss,d=yC ss/\uF ss/\∀ d,Fw 4 d->yO d->R d)\/(1<=j/\∃ t,d=yE t/\vh t/\∀ d,Fw 5 d->y6 d->R d))
theorem zPZ (n:Nat) (s:Int × List Int):(zT s).pl (n + 4)=true:=by
 show ([D.int s.1,L s.2].all (D.pl (n + 3)))=true
 rw [List.all_cons,List.all_cons,List.all_nil,Bool.and_true]
 exact Bool.and_eq_true_iff.mpr ⟨rfl,qR (n + 1) s.2⟩
theorem zPX (n:Nat) (ss:List (Int × List Int)):(yC ss).pl (n + 5)=true:=List.all_eq_true.mpr λd m=>by
 obtain ⟨s,_,rfl⟩:=List.mem_map.mp m
 exact zPZ n s
theorem zPW (n:Nat) (t:List (List (Int × List Int))):(yE t).pl (n + 6)=true:=List.all_eq_true.mpr λd m=>by
 obtain ⟨s,_,rfl⟩:=List.mem_map.mp m
 exact zPX n s
theorem uH {e:Nat} {i:Int} (h:Bd 210 i) (k:211<=e):Bd e (i + 1)/\Bd e (i - 1):=⟨(h.add ((Bd.lit (i:=1) (n:=1)).mono)).mono k,(h.sub ((Bd.lit (i:=1) (n:=1)).mono)).mono k⟩
section
variable {P:Program} {w:World} {K:PySem.W.Frag} {mg:Str->Option Value} {base:Heap}
abbrev JH:Stmt:=zi 90
theorem qj:za ["_law_shares","_law_cell","_law_often","_law_numbers","_law_way","_law_at","_law_other_here"] ["_law_shares","_law_cell"] (zK JH):=.a
abbrev JI:Stmt:=zi 91
theorem JJ:za ["_law_some","_law_cell","_law_at"] ["_law_some","_law_cell"] (zK JI):=.a
variable {aClaim aSettles aComes af ag aPaper aRooms aFalls:Addr} (TClaim:zE K mg "Claim" aClaim) (AClaim:wY K aClaim) (TSettles:zE K mg "Settles" aSettles) (ASettles:wZ K aSettles) (TComes:zE K mg "Comes" aComes) (AComes:wa K aComes) (aa:zE K mg "Mode" af) (ab:wb K af) (ac:zE K mg "Thing" ag) (ae:wc K ag) (TPaper:zE K mg "Paper" aPaper) (APaper:wd K aPaper) (TRooms:zE K mg "Rooms" aRooms) (ARooms:we K aRooms) (TFalls:zE K mg "Falls" aFalls) (AFalls:wf K aFalls) (Y:yd K aComes aSettles)
include TClaim AClaim TSettles ASettles TComes AComes aa ab ac ae TPaper APaper TRooms ARooms TFalls AFalls Y
theorem zJh {k:Nat} {f:Addr} {fd:FuncData} (F:zc K "_law_other" "_law_other" JH f fd) (B:Bl mg):zH P w K mg base zW (k + 1) f fd ["_law_shares","_law_cell"] (zI (zLV)):=by
 refine zm F qj (λds R h=>by obtain ⟨o,ns,c,rfl,_⟩:=h; rfl) λcdv A outer s H E hr=>⟨_,(zJ (vc (zA 0) (xI rfl (zY 2 qj.nd rfl (Or.inl rfl) (zY 3 qj.nd rfl (Or.inl rfl) xH))))
  (zJ (zg 4 qj.nd rfl (Or.inl rfl) (yW (zA 1) zD))
  (zJ (yB (PW.pt (wW (xk hr.units (zA 4) zD) (vL (xk hr.units (zA 3) (yH zC))))) (zM (zS (xA (zB (zU (zA 2) (zP (yH (zB zD (zB (yi zD) zC))) (yW (xR (zA 1) zD) zD) (λ_ _=>rfl))) (zB (zA 3) zC))))) yA)
  (zJ (zg 5 qj.nd rfl (Or.inl rfl) (yW (xR (zA 1) zD) (zj yQ yS rfl B.len_ yR (zB (zA 3) zC))))
  (zJ (zg 6 qj.nd rfl (Or.inl rfl) (zP (yH (zB (zU (zP (zA 3) (zA 5) (λ_ _=>rfl)) zD) (zB (xj (zP (zA 3) (zA 5) (λ_ _=>rfl)) zD) (zB xP (zB (zU (zP (zA 3) (zA 5) (λ_ _=>rfl)) zD) zC))))) (xj (zA 4) zD) (λ_ _=>rfl)))
  (zM (zS (xA (zB (zA 2) (zB (zU (zU (yk (zA 3) yn (ya (zA 5))) (yH (zB (zA 6) zC))) (yk (zA 3) (ya (zU (zA 5) zD)) yn)) zC)))))))))),λds R h=>?_⟩
 obtain ⟨o,ns,c,rfl,h,q⟩:=h
 have hl:ns.length<=100:=h.l
 refine ⟨by decide,w2 (λc1=>wT rfl ?_) λc1=>⟨k0,uE _,rfl,w2 (λc2=>?_) λc2=>?_⟩⟩
 ·exact ⟨k0,by decide,(Bd.lit (i:=5) (n:=3)).mono,by decide,vH (md _ (by decide)).1 (by have:=md (c.fdiv 5) (show (0:Int) < 2 by decide); show (c.fdiv 5).fmod 2 < 2; omega) λz hz=>by
   obtain ⟨w,rfl,bw⟩:xn (Bd 2) z:=by
    simp only [List.mem_cons,List.not_mem_nil,or_false] at hz
    rcases hz with rfl | rfl <;> exact ⟨_,rfl,Bd.lit⟩
   have:=qh (o:=o + w) (ys:=ns.map D.int) ((h.o.add bw.mono).mono) (by rw [List.length_map]; have:=h.l; omega) (λy hy=>by
    obtain ⟨i,hi,rfl⟩:=List.mem_map.mp hy
    exact .inl ⟨i,rfl,(h.b i hi).mono⟩)
   exact ⟨k0,q _ this.1 this.2⟩⟩
 ·exact ⟨k0,by decide,(Bd.lit (i:=5) (n:=3)).mono,by decide,vH (md _ (by decide)).1 (by have:=md (c.fdiv 5) (show (0:Int) < 2 by decide); show (c.fdiv 5).fmod 2 < 2; omega) λz hz=>by
   obtain ⟨w,rfl,bw⟩:xn (Bd 2) z:=by
    simp only [List.mem_cons,List.not_mem_nil,or_false] at hz
    rcases hz with rfl | rfl <;> exact ⟨_,rfl,Bd.lit⟩
   have:=qh (o:=o + w) (ys:=ns.map D.int) ((h.o.add bw.mono).mono) (by rw [List.length_map]; have:=h.l; omega) (λy hy=>by
    obtain ⟨i,hi,rfl⟩:=List.mem_map.mp hy
    exact .inl ⟨i,rfl,(h.b i hi).mono⟩)
   exact ⟨k0,q _ this.1 this.2⟩⟩
 rw [Yd] at c2
 have hn:1<=ns.length:=by
  cases ns with
  | nil=>cases c2
  | cons=>exact Nat.succ_le_succ (Nat.zero_le _)
 have lm:(List.map D.int ns).length=ns.length:=List.length_map ..
 have m5:=md c (show (0:Int) < 5 by decide)
 have c1':=of_decide_eq_false c1
 refine ⟨by decide,(Bd.lit (i:=10) (n:=4)).mono,by omega,?_⟩
 have mat:=md (c.fdiv 10) (show (0:Int) < ((List.map D.int ns).length:Int) by omega)
 refine yf mat.1 (by omega) λx1 h1=>yf mat.1 (by omega) λx2 h2=>yf mat.1 (by omega) λx3 h3=>⟨k0,vH (by omega) (by show c.fmod 5 - 1 < 4; omega) λz hz=>?_⟩
 have hz':Sy z:=by
  simp only [List.mem_cons,List.not_mem_nil,or_false] at hz
  rcases hz with rfl | rfl | rfl | rfl
  ·exact .inl ⟨_,rfl,(uH (h.b x1 h1) (by decide)).1⟩
  ·exact .inl ⟨_,rfl,(uH (h.b x2 h2) (by decide)).2⟩
  ·exact .inr rfl
  ·exact .inl ⟨_,rfl,(uH (h.b x3 h3) (by decide)).1⟩
 have l1:=Xd (xs:=ns.map D.int) (lo:=none) (hi:=some ((c.fdiv 10).fmod ((List.map D.int ns).length:Int)))
 have l2:=Xd (xs:=ns.map D.int) (lo:=some ((c.fdiv 10).fmod ((List.map D.int ns).length:Int) + 1)) (hi:=none)
 refine ⟨k0,by show _ + 1<=1000; omega,by rw [List.length_append]; show _ + 1 + _<=1000; omega,k0,?_⟩
 have K:=qh (o:=o) (ys:=zV (ns.map D.int) none (some ((c.fdiv 10).fmod ((List.map D.int ns).length:Int)))++[z]++zV (ns.map D.int) (some ((c.fdiv 10).fmod ((List.map D.int ns).length:Int) + 1)) none) (h.o.mono) (by rw [List.length_append,List.length_append]; show _ + 1 + _<=900; omega) (λy hy=>by
  have cm:∀ {lo hi:Option Int},y∈zV (ns.map D.int) lo hi->Sy y:=λhy=>by
   obtain ⟨i,hi,rfl⟩:=List.mem_map.mp (JF hy)
   exact .inl ⟨i,rfl,(h.b i hi).mono⟩
  rcases List.mem_append.mp hy with hy | hy
  ·rcases List.mem_append.mp hy with hy | hy
   ·exact cm hy
   ·rw [List.mem_singleton.mp hy]; exact hz'
  ·exact cm hy)
 exact q _ K.1 K.2
theorem zEu {k:Nat} {f:Addr} {fd:FuncData} {j:Nat} (F:zc K "_law_changed" "_law_changed" JI f fd) (B:Bl mg) (bT:Fn P w K mg base "_law_other" ["_law_shares","_law_cell"] k (zI (zLV))) (ar:Fn P w K mg base "_law_changed" ["_law_some","_law_cell"] k (zI (uk j))):zH P w K mg base zW (k + 1) f fd ["_law_some","_law_cell"] (zI (uk (j + 1))):=by
 refine zm F JJ (λds R h=>by obtain ⟨d,c,rfl,_⟩:=h; rfl) λcdv A outer s H E hr=>⟨_,(zJ (yB (xk hr.units (zA 0) (yH zC)) (zM (zS (yH (zB (xA (zB zD (zB (yH zC) zC))) zC)))) yA)
  (zJ (zg 2 JJ.nd rfl (Or.inl rfl) (yW (zA 1) (zj yQ yS rfl B.len_ yR (zB (zA 0) zC))))
  (zJ (zg 1 JJ.nd rfl (Or.inl rfl) (xR (zA 1) (zj yQ yS rfl B.len_ yR (zB (zA 0) zC))))
  (zJ (yB (yY (yG (xY vB rfl B.isinstance_ xy (zl (zP (zA 0) (zA 2) (λ_ _=>rfl)) (zl (wy (v:=.ty "tuple") (u:=.type "tuple") rfl B.tuple_ xz rfl) yI))) (vF kW))) (zJ (yB (xk hr.units (yW (zA 1) zD) zD) (zM (zS (zU (yk (zA 0) yn (ya (zA 2))) (yk (zA 0) (ya (zU (zA 2) zD)) yn)))) yA)
   (zM (zS (zU (zU (yk (zA 0) yn (ya (zA 2))) (yH (zB (zO bT hr rfl (zB (zP (zA 0) (zA 2) (λ_ _=>rfl)) (zB (xR (zA 1) zD) zC))) zC))) (yk (zA 0) (ya (zU (zA 2) zD)) yn))))) yA)
  (zJ (yB (xk hr.units (yW (zA 1) zD) zD) (zM (zS (zU (zU (yk (zA 0) yn (ya (zA 2))) (yH (zB zPP zC))) (yk (zA 0) (ya (zU (zA 2) zD)) yn)))) yA)
  (zJ (yB (xk hr.units (yW (zA 1) zD) zD) (zM (zS (zU (yk (zA 0) yn (ya (zA 2))) (yk (zA 0) (ya (zU (zA 2) zD)) yn)))) yA)
  (zM (zS (zU (zU (yk (zA 0) yn (ya (zA 2))) (yH (zB (zO ar hr rfl (zB (zP (zA 0) (zA 2) (λ_ _=>rfl)) (zB (xR (zA 1) zD) zC))) zC))) (yk (zA 0) (ya (zU (zA 2) zD)) yn)))))))))),λds R h=>?_⟩
 obtain ⟨d,c,rfl,h⟩:=h
 rcases h with ⟨ss,rfl,hs,q⟩ | ⟨j1,t,rfl,ht,q⟩
 ·have ls:=hs.1
  have lm:(List.map zT ss).length=ss.length:=List.length_map ..
  refine ⟨k0,zPX 45 ss,rfl,w2 (λc1=>⟨k0,k0,k0,?_⟩) λc1=>?_⟩
  ·have K:=Xf (k:=0) (as:=[.tup [.int 1,.lst []]]) (by show 1<=900; decide) (λa ha=>by rw [List.mem_singleton.mp ha]; exact qh ((Bd.lit (i:=1) (n:=1)).mono) (by decide) (λ_ h=>nomatch h))
   exact q _ K.1 K.2
  rw [Yd] at c1
  have hn:1<=ss.length:=by
   cases ss with
   | nil=>cases c1
   | cons=>exact Nat.succ_le_succ (Nat.zero_le _)
  have mat:=md c (show (0:Int) < ((List.map zT ss).length:Int) by omega)
  have keep:∀ {lo hi:Option Int} {a:D},a∈zV (ss.map zT) lo hi->Fw 3 a/\uP a:=λha=>by
   obtain ⟨s,hs',rfl⟩:=List.mem_map.mp (JF ha)
   exact Xe (hs.2 s hs')
  have cl:∀ {lo hi:Option Int},(zV (ss.map zT) lo hi).length<=40:=λ{lo hi}=>by have:=Xd (xs:=ss.map zT) (lo:=lo) (hi:=hi); omega
  refine ⟨by omega,by omega,Bd.mono (n:=10) (wO (f:=1000) (by decide) (by omega) (by omega)) (by decide),vH mat.1 (by omega) λx hx=>?_⟩
  obtain ⟨s,hs',rfl⟩:=List.mem_map.mp hx
  refine ⟨rfl,wT rfl ⟨by decide,w2 (λc2=>?_) λc2=>?_⟩⟩
  ·refine ⟨?_,?_⟩
   ·have:=cl (lo:=none) (hi:=some (c.fmod ((List.map zT ss).length:Int)))
    have:=cl (lo:=some (c.fmod ((List.map zT ss).length:Int) + 1)) (hi:=none)
    omega
   ·have K:=Xf (k:=0) (as:=zV (ss.map zT) none (some (c.fmod ((List.map zT ss).length:Int)))++zV (ss.map zT) (some (c.fmod ((List.map zT ss).length:Int) + 1)) none) (by
     have:=cl (lo:=none) (hi:=some (c.fmod ((List.map zT ss).length:Int)))
     have:=cl (lo:=some (c.fmod ((List.map zT ss).length:Int) + 1)) (hi:=none)
     rw [List.length_append]
     omega) (λa ha=>(List.mem_append.mp ha).elim keep keep)
    exact q _ K.1 K.2
  ·refine vH mat.1 (by omega) λy hy=>?_
   obtain ⟨s2,hs2,rfl⟩:=List.mem_map.mp hy
   refine ⟨by decide,(Bd.lit (i:=3) (n:=2)).mono,s2.1,s2.2,_,rfl,hs.2 s2 hs2,λz fz bz=>⟨k0,?_,?_,?_⟩⟩
   ·have:=cl (lo:=none) (hi:=some (c.fmod ((List.map zT ss).length:Int)))
    show _ + 1<=1000
    omega
   ·have:=cl (lo:=none) (hi:=some (c.fmod ((List.map zT ss).length:Int)))
    have:=cl (lo:=some (c.fmod ((List.map zT ss).length:Int) + 1)) (hi:=none)
    rw [List.length_append]
    show _ + 1 + _<=1000
    omega
   ·have K:=Xf (k:=0) (as:=zV (ss.map zT) none (some (c.fmod ((List.map zT ss).length:Int)))++[z]++zV (ss.map zT) (some (c.fmod ((List.map zT ss).length:Int) + 1)) none) (by
     have:=cl (lo:=none) (hi:=some (c.fmod ((List.map zT ss).length:Int)))
     have:=cl (lo:=some (c.fmod ((List.map zT ss).length:Int) + 1)) (hi:=none)
     rw [List.length_append,List.length_append]
     show _ + 1 + _<=900
     omega) (λa ha=>by
     rcases List.mem_append.mp ha with ha | ha
     ·rcases List.mem_append.mp ha with ha | ha
      ·exact keep ha
      ·rw [List.mem_singleton.mp ha]; exact ⟨fz,bz⟩
     ·exact keep ha)
    exact q _ K.1 K.2
 ·have ls:=ht.1
  have lm:(List.map yC t).length=t.length:=List.length_map ..
  refine ⟨k0,zPW 44 t,rfl,w2 (λc1=>⟨k0,k0,k0,?_⟩) λc1=>?_⟩
  ·refine q _ (.lst (by show 1<=900; decide) λa ha=>?_) λas e=>?_
   ·rw [List.mem_singleton.mp ha]
    exact (qh (o:=1) (ys:=[]) ((Bd.lit (i:=1) (n:=1)).mono) (by decide) (λ_ h=>nomatch h)).1.mono
   ·cases e
    exact λa ha as e=>by rw [List.mem_singleton.mp ha] at e; cases e
  rw [Yd] at c1
  have hn:1<=t.length:=by
   cases t with
   | nil=>cases c1
   | cons=>exact Nat.succ_le_succ (Nat.zero_le _)
  have mat:=md c (show (0:Int) < ((List.map yC t).length:Int) by omega)
  have keep:∀ {lo hi:Option Int} {a:D},a∈zV (t.map yC) lo hi->Fw 4 a/\yO a:=λha=>by
   obtain ⟨s,hs',rfl⟩:=List.mem_map.mp (JF ha)
   exact qi (k:=0) (ht.2 s hs')
  have cl:∀ {lo hi:Option Int},(zV (t.map yC) lo hi).length<=40:=λ{lo hi}=>by have:=Xd (xs:=t.map yC) (lo:=lo) (hi:=hi); omega
  have c1l:=cl (lo:=none) (hi:=some (c.fmod ((List.map yC t).length:Int)))
  have c2l:=cl (lo:=some (c.fmod ((List.map yC t).length:Int) + 1)) (hi:=none)
  have put:∀ z:D,Fw 4 z->yO z->R (.lst (zV (t.map yC) none (some (c.fmod ((List.map yC t).length:Int)))++[z]++zV (t.map yC) (some (c.fmod ((List.map yC t).length:Int) + 1)) none)):=λz fz az=>by
   have K:=JG (as:=zV (t.map yC) none (some (c.fmod ((List.map yC t).length:Int)))++[z]++zV (t.map yC) (some (c.fmod ((List.map yC t).length:Int) + 1)) none) (by
    rw [List.length_append,List.length_append]
    show _ + 1 + _<=900
    omega) (λa ha=>by
    rcases List.mem_append.mp ha with ha | ha
    ·rcases List.mem_append.mp ha with ha | ha
     ·exact keep ha
     ·rw [List.mem_singleton.mp ha]; exact ⟨fz,az⟩
    ·exact keep ha)
   exact q _ K.1 K.2
  refine ⟨by omega,by omega,Bd.mono (n:=10) (wO (f:=1000) (by decide) (by omega) (by omega)) (by decide),vH mat.1 (by omega) λx hx=>?_⟩
  obtain ⟨s,hs',rfl⟩:=List.mem_map.mp hx
  refine ⟨rfl,wF rfl ⟨by decide,w2 (λc2=>⟨k0,by show _ + 1<=1000; omega,by rw [List.length_append]; show _ + 1 + _<=1000; omega,put .non .non (λ_ e=>by cases e)⟩) λc2=>⟨by decide,w2 (λc3=>⟨by omega,?_⟩) λc3=>?_⟩⟩⟩
  ·have K:=JG (as:=zV (t.map yC) none (some (c.fmod ((List.map yC t).length:Int)))++zV (t.map yC) (some (c.fmod ((List.map yC t).length:Int) + 1)) none) (by rw [List.length_append]; omega) (λa ha=>(List.mem_append.mp ha).elim keep keep)
   exact q _ K.1 K.2
  ·refine vH mat.1 (by omega) λy hy=>?_
   obtain ⟨s2,hs2,rfl⟩:=List.mem_map.mp hy
   obtain ⟨j',rfl⟩:∃ j',j=j' + 1:=⟨j - 1,by omega⟩
   exact ⟨by decide,(Bd.lit (i:=7) (n:=3)).mono,_,_,rfl,.inl ⟨s2,rfl,ht.2 s2 hs2,λz fz az=>⟨k0,by show _ + 1<=1000; omega,by rw [List.length_append]; show _ + 1 + _<=1000; omega,put z fz az⟩⟩⟩
end
def zN:Nat->(Nat->Rat)->Rat
 | 0,_=>0
 | n + 1,f=>zN n f + f n
theorem wP {f g:Nat->Rat}:∀ {n:Nat},(∀ j,j < n->f j=g j)->zN n f=zN n g
 | 0,_=>rfl
 | n + 1,h=>by
  show zN n f + f n=zN n g + g n
  rw [wP λj hj=>h j (Nat.lt_succ_of_lt hj),h n (Nat.lt_succ_self n)]
theorem ZY (f g:Nat->Rat):∀ n:Nat,zN n (λj=>f j + g j)=zN n f + zN n g
 | 0=>by show (0:Rat)=0 + 0; grind
 | n + 1=>by
  show zN n (λj=>f j + g j) + (f n + g n)=(zN n f + f n) + (zN n g + g n)
  rw [ZY f g n]
  grind
theorem ul (c:Rat) (f:Nat->Rat):∀ n:Nat,zN n (λj=>c * f j)=c * zN n f
 | 0=>by show (0:Rat)=c * 0; grind
 | n + 1=>by
  show zN n (λj=>c * f j) + c * f n=c * (zN n f + f n)
  rw [ul c f n]
  grind
theorem ZZ:∀ n:Nat,zN n (λ_=>0)=0
 | 0=>rfl
 | n + 1=>by
  show zN n (λ_=>0) + 0=0
  rw [ZZ n]
  grind
theorem zHC (f:Nat->Nat->Rat) (m:Nat):∀ n:Nat,zN n (λj=>zN m (λi=>f i j))=zN m (λi=>zN n (λj=>f i j))
 | 0=>by
  show (0:Rat)=zN m (λi=>0)
  rw [ZZ]
 | n + 1=>by
  show zN n (λj=>zN m (λi=>f i j)) + zN m (λi=>f i n)=zN m (λi=>zN n (λj=>f i j) + f i n)
  rw [zHC f m n,ZY]
theorem zKD {f g:Nat->Rat}:∀ {n:Nat},(∀ j,j < n->f j<=g j)->zN n f<=zN n g
 | 0,_=>Rat.le_refl
 | n + 1,h=>by
  have h1:=zKD λj hj=>h j (Nat.lt_succ_of_lt hj)
  have h2:=h n (Nat.lt_succ_self n)
  show zN n f + f n<=zN n g + g n
  grind
theorem Xh (f:Nat->Rat):∀ n:Nat,zN (n + 1) f=f 0 + zN n (λj=>f (j + 1))
 | 0=>by show (0:Rat) + f 0=f 0 + 0; grind
 | n + 1=>by
  show zN (n + 1) f + f (n + 1)=f 0 + (zN n (λj=>f (j + 1)) + f (n + 1))
  rw [Xh f n]
  grind
def zn (ws:List Int) (q:Nat->Rat):Rat:=zN ws.length λj=>(ws.getD j 0:Rat) * q j
theorem zHe:∀ {xs ys:List Int},xs.length=ys.length->((yq xs ys:Int):Rat)=zN xs.length λi=>(xs.getD i 0:Rat) * (ys.getD i 0:Rat)
 | [],[],_=>by show ((0:Int):Rat)=0; rfl
 | [],_ :: _,h=>nomatch h
 | _ :: _,[],h=>nomatch h
 | x :: xs,y :: ys,h=>by
  show ((x * y + yq xs ys:Int):Rat)=zN (xs.length + 1) λi=>((x :: xs).getD i 0:Rat) * ((y :: ys).getD i 0:Rat)
  rw [Xh,Rat.intCast_add,Rat.intCast_mul,zHe (Nat.succ.inj h)]
  rfl
theorem JK (j:Nat):∀ {r:List Int} {ls:List (List Int)},r.length=ls.length->((zf r ls j:Int):Rat)=zN r.length λi=>(r.getD i 0:Rat) * ((ls.getD i []).getD j 0:Rat)
 | [],[],_=>by show ((0:Int):Rat)=0; rfl
 | [],_ :: _,h=>nomatch h
 | _ :: _,[],h=>nomatch h
 | x :: xs,y :: ys,h=>by
  show ((x * y.getD j 0 + zf xs ys j:Int):Rat)=zN (xs.length + 1) λi=>((x :: xs).getD i 0:Rat) * (((y :: ys).getD i []).getD j 0:Rat)
  rw [Xh,Rat.intCast_add,Rat.intCast_mul,JK j (Nat.succ.inj h)]
  rfl
theorem zDe {n j:Nat} (f:Nat->Int) (h:j < n):((List.range n).map f).getD j 0=f j:=by
 rw [List.getD_eq_getElem?_getD,List.getElem?_map,List.getElem?_range h]
 rfl
theorem JL {r:List Int} {ls:List (List Int)} {n:Nat} (hl:r.length=ls.length) (q:Nat->Rat):zn ((List.range n).map (zf r ls)) q=zN r.length λi=>(r.getD i 0:Rat) * zN n λj=>((ls.getD i []).getD j 0:Rat) * q j:=by
 unfold zn
 rw [List.length_map,List.length_range]
 rw [wP (g:=λj=>zN r.length λi=>(r.getD i 0:Rat) * (((ls.getD i []).getD j 0:Rat) * q j)) λj hj=>?_]
 ·rw [zHC]
  exact wP λi hi=>ul _ _ _
 ·rw [zDe _ hj,JK j hl]
  rw [show zN r.length (λi=>(r.getD i 0:Rat) * (((ls.getD i []).getD j 0:Rat) * q j))=zN r.length (λi=>q j * ((r.getD i 0:Rat) * ((ls.getD i []).getD j 0:Rat))) from wP λi _=>by grind,ul]
  grind
theorem zOn (f g:Int) (q:Nat->Rat) {us ls:List Int} (h:us.length=ls.length):zn (xK f g us ls) q=(f:Rat) * zn us q + (g:Rat) * zn ls q:=by
 unfold zn
 rw [<- h,<- ul,<- ul,<- ZY]
 have l:(xK f g us ls).length=us.length:=by unfold xK; rw [List.length_map,List.length_zip,<- h,Nat.min_self]
 rw [l]
 refine wP λj hj=>?_
 have e:(xK f g us ls).getD j 0=f * us.getD j 0 + g * ls.getD j 0:=by
  unfold xK
  have hz:(us.zip ls)[j]? = some (us[j],ls[j]'(by omega)):=by
   rw [List.getElem?_zip_eq_some]
   exact ⟨List.getElem?_eq_getElem hj,List.getElem?_eq_getElem _⟩
  rw [List.getD_eq_getElem?_getD,List.getElem?_map,hz,List.getD_eq_getElem?_getD,List.getElem?_eq_getElem hj,List.getD_eq_getElem?_getD,List.getElem?_eq_getElem (show j < ls.length by omega)]
  rfl
 rw [e,Rat.intCast_add,Rat.intCast_mul,Rat.intCast_mul]
 grind
theorem JM (f:Nat->Rat) (n:Nat):∀ p:Nat,zN (n + p) f=zN n f + zN p (λj=>f (n + j))
 | 0=>by show zN n f=zN n f + 0; grind
 | p + 1=>by
  show zN (n + p) f + f (n + p)=zN n f + (zN p (λj=>f (n + j)) + f (n + p))
  rw [JM f n p]
  grind
theorem zIh {f:Nat->Rat} {a:Nat}:∀ {n:Nat},a < n->(∀ j,j < n->j≠a->f j=0)->zN n f=f a
 | 0,h,_=>absurd h (Nat.not_lt_zero _)
 | n + 1,h,z=>by
  show zN n f + f n=f a
  by_cases c:a=n
  ·rw [<- c,wP (g:=λ_=>0) λj hj=>z j (by omega) (by omega),ZZ]
   grind
  ·rw [zIh (by omega) λj hj=>z j (by omega),z n (by omega) (by omega)]
   grind
def yg (n:Nat) (q:Nat->Rat) (r:List Int):Prop:=(zN n λj=>(r.getD j 0:Rat) * q j)<=(r.getD n 0:Rat)
theorem zPF {rows:List (List Int)} {tw ns:List Int} {n:Nat} {o:Int} {q:Nat->Rat} (len:ns.length=rows.length) (n0:∀ x∈ns,0<=x) (o0:0<=o) (lt:tw.length=n + 1) (hs:qL rows tw o ns n=true) (hh:∀ r∈rows,yg n q r):yg n q tw:=by
 unfold qL at hs
 have ep:(List.range n).map (vm rows ns)=(List.range n).map (zf ns rows):=List.map_congr_left λj _=>kz rows ns j
 rw [ep,kz] at hs
 have A:=JL (n:=n) len q
 have C:(zN ns.length λi=>(ns.getD i 0:Rat) * zN n λj=>((rows.getD i []).getD j 0:Rat) * q j)<=(zf ns rows n:Rat):=by
  rw [JK n len]
  refine zKD λi hi=>?_
  have h1:ns.getD i 0∈ns:=by rw [List.getD_eq_getElem?_getD,List.getElem?_eq_getElem hi]; exact List.getElem_mem _
  have h2:rows.getD i []∈rows:=by rw [List.getD_eq_getElem?_getD,List.getElem?_eq_getElem (by omega)]; exact List.getElem_mem _
  exact Rat.mul_le_mul_of_nonneg_left (hh _ h2) (by exact_mod_cast n0 _ h1)
 rw [<- A] at C
 have ld:((List.range n).map (zf ns rows)).length=n:=by rw [List.length_map,List.length_range]
 by_cases c:o=0
 ·rw [if_pos c,Bool.and_eq_true] at hs
  have z:zn ((List.range n).map (zf ns rows)) q=0:=by
   unfold zn
   rw [ld,wP (g:=λ_=>0) λj hj=>?_,ZZ]
   have:=of_decide_eq_true (List.all_eq_true.mp hs.1 (zf ns rows j) (List.mem_map.mpr ⟨j,List.mem_range.mpr hj,rfl⟩))
   rw [zDe _ hj,this]
   show ((0:Int):Rat) * q j=0
   grind
  rw [z] at C
  have s0:=of_decide_eq_true hs.2
  have C':(0:Int)<=zf ns rows n:=by exact_mod_cast C
  omega
 ·rw [if_neg c,Bool.and_eq_true] at hs
  have e:=of_decide_eq_true hs.1
  have s1:=of_decide_eq_true hs.2
  have op:(0:Rat) < (o:Rat):=by exact_mod_cast (show 0 < o by omega)
  have z:zn ((List.range n).map (zf ns rows)) q=(o:Rat) * zN n λj=>(tw.getD j 0:Rat) * q j:=by
   unfold zn
   rw [ld,<- ul,e]
   refine wP λj hj=>?_
   have g:((tw.take n).map (o * ·)).getD j 0=o * tw.getD j 0:=by
    rw [List.getD_eq_getElem?_getD,List.getElem?_map,List.getElem?_take,if_pos hj,List.getD_eq_getElem?_getD,List.getElem?_eq_getElem (by omega)]
    rfl
   rw [g,Rat.intCast_mul,Rat.mul_assoc]
  rw [z] at C
  have C2:(zf ns rows n:Rat)<=(o:Rat) * (tw.getD n 0:Rat):=by rw [<- Rat.intCast_mul]; exact_mod_cast s1
  exact Rat.le_of_mul_le_mul_left (Rat.le_trans C C2) op
theorem zLE {n p:Nat} {x q:Nat->Rat} {r:List Int} (e:∀ j,j < n->q j=x j) (lr:r.length=n + 1) (h:yg n x r):yg (n + p) q (wq n p r):=by
 have l1:(r.take n).length=n:=by rw [List.length_take]; omega
 have g1:∀ j,j < n->(wq n p r).getD j 0=r.getD j 0:=λj hj=>by
  unfold wq
  rw [List.append_assoc,List.getD_eq_getElem?_getD,List.getElem?_append_left (by omega),List.getElem?_take,if_pos hj,List.getD_eq_getElem?_getD]
 have g2:∀ j,j < p->(wq n p r).getD (n + j) 0=0:=λj hj=>by
  unfold wq
  rw [List.getD_eq_getElem?_getD,List.getElem?_append_left (by rw [List.length_append,List.length_replicate]; omega),List.getElem?_append_right (by omega),l1,Nat.add_sub_cancel_left,List.getElem?_replicate,if_pos hj]
  rfl
 have g3:(wq n p r).getD (n + p) 0=r.getD n 0:=by
  unfold wq
  rw [List.getD_eq_getElem?_getD,List.getElem?_append_right (by rw [List.length_append,List.length_replicate]; omega),List.length_append,l1,List.length_replicate,Nat.sub_self]
  rfl
 unfold yg
 rw [JM,g3,wP (g:=λj=>(r.getD j 0:Rat) * x j) (λj hj=>by rw [g1 j hj,e j hj]),wP (n:=p) (g:=λ_=>0) (λj hj=>by rw [g2 j hj]; show ((0:Int):Rat) * _=0; grind),ZZ]
 have:=h
 unfold yg at this
 grind
theorem zIg {a n j:Nat} {y c:Int} (h:j < n):(xO (a:Int) n y++[c]).getD j 0=if j=a then y else 0:=by
 unfold xO
 rw [List.getD_eq_getElem?_getD,List.getElem?_append_left (by rw [List.length_map,List.length_range]; exact h),List.getElem?_map,List.getElem?_range h]
 show (if ((j:Nat):Int)=(a:Int) then y else 0)=_
 by_cases c:j=a
 ·rw [if_pos (by omega),if_pos c]
 ·rw [if_neg (by omega),if_neg c]
theorem Xi {a n:Nat} {y c:Int} {q:Nat->Rat} (ha:a < n):yg n q (xO (a:Int) n y++[c]) ↔ (y:Rat) * q a<=(c:Rat):=by
 unfold yg
 have e:(zN n λj=>((xO (a:Int) n y++[c]).getD j 0:Rat) * q j)=(y:Rat) * q a:=by
  rw [zIh ha λj hj hn=>by rw [zIg hj,if_neg hn]; show ((0:Int):Rat) * _=0; grind,zIg ha,if_pos rfl]
 have g:(xO (a:Int) n y++[c]).getD n 0=c:=by
  rw [List.getD_eq_getElem?_getD,List.getElem?_append_right (by rw [uX]; exact Nat.le_refl _),uX,Nat.sub_self]
  rfl
 rw [e,g]
structure um (n:Nat) (bs:List (Int × Int)) (x u q:Nat->Rat):Prop where
 a:∀ j,j < n->q j=x j
 b:∀ i,i < bs.length->q (n + i)=u i
 c:∀ i (h:i < bs.length),((bs[i].1:Int):Rat)<=u i/\u i<=((bs[i].2:Int):Rat)
theorem zF3 {n:Nat} {bs:List (Int × Int)} {x u q:Nat->Rat} {rows:List (List Int)} (S:um n bs x u q) (hr:∀ r∈rows,r.length=n + 1/\yg n x r):∀ r∈u7 n bs rows,yg (n + bs.length) q r:=λr hr'=>by
 rcases List.mem_append.mp hr' with h | h
 ·obtain ⟨r0,h0,rfl⟩:=List.mem_map.mp h
  exact zLE S.a (hr r0 h0).1 (hr r0 h0).2
 ·obtain ⟨l,hl,h⟩:=List.mem_flatten.mp h
  obtain ⟨i,hi,rfl⟩:=List.mem_mapIdx.mp hl
  have c:=S.c i hi
  have b:=S.b i hi
  rcases List.mem_cons.mp h with rfl | h
  ·rw [Xi (by omega),b]
   have:=c.2
   show ((1:Int):Rat) * u i<=_
   grind
  ·rw [List.mem_singleton.mp h,Xi (by omega),b,Rat.intCast_neg,Rat.intCast_neg]
   have:=c.1
   show -((1:Int):Rat) * u i<=_
   grind
def uo (n p:Nat) (m:MD) (x u y:Nat->Rat):Prop:=∀ i,i < n->y i * (m.div:Rat)=(zN n λj=>((m.nexts.getD i []).getD j 0:Rat) * x j) + (zN p λj=>((m.push.getD i []).getD j 0:Rat) * u j) + (m.add.getD i 0:Rat)
theorem zLv {n p:Nat} {m:MD} {x u y:Nat->Rat} {ws:List Int} (B:uo n p m x u y) (lw:ws.length=n) (ln:m.nexts.length=n) (lp:m.push.length=n) (la:m.add.length=n):zn ws y * (m.div:Rat)=zn ((List.range n).map (zf ws m.nexts)) x + zn ((List.range p).map (zf ws m.push)) u + (yq ws m.add:Rat):=by
 rw [JL (by omega),JL (by omega),zHe (by omega),<- ZY,<- ZY]
 unfold zn
 rw [Rat.mul_comm,<- ul]
 refine wP λi hi=>?_
 have:=B i (by omega)
 grind
theorem j3 {ws:List Int} {n:Nat} {q:Nat->Rat} (h:ws.length=n):zn ws q=zN n λj=>(ws.getD j 0:Rat) * q j:=by rw [<- h]; rfl
theorem zI5 {n p:Nat} {A B:List Int} {c:Int} {q:Nat->Rat} (lA:A.length=n) (lB:B.length=p):yg (n + p) q (A++B++[c]) ↔ zn A q + zn B (λj=>q (n + j))<=(c:Rat):=by
 unfold yg
 have g:(A++B++[c]).getD (n + p) 0=c:=by
  rw [List.getD_eq_getElem?_getD,List.getElem?_append_right (by rw [List.length_append]; omega),List.length_append,lA,lB,Nat.sub_self]
  rfl
 rw [g,JM,j3 lA,j3 lB,wP (n:=n) (g:=λj=>(A.getD j 0:Rat) * q j) λj hj=>?_,wP (n:=p) (g:=λj=>(B.getD j 0:Rat) * q (n + j)) λj hj=>?_]
 ·rw [List.getD_eq_getElem?_getD,List.append_assoc,List.getElem?_append_right (by omega),lA,Nat.add_sub_cancel_left,List.getElem?_append_left (by omega),List.getD_eq_getElem?_getD]
 ·rw [List.getD_eq_getElem?_getD,List.append_assoc,List.getElem?_append_left (by omega),List.getD_eq_getElem?_getD]
theorem Xj {ws:List Int} {n:Nat} {x q:Nat->Rat} (l:ws.length=n) (e:∀ j,j < n->q j=x j):zn ws q=zn ws x:=by
 rw [j3 l,j3 l]
 exact wP λj hj=>by rw [e j hj]
theorem zJs {n:Nat} {bs:List (Int × Int)} {m:MD} {x u y q:Nat->Rat} {ws:List Int} {b:Int} (S:um n bs x u q) (B:uo n bs.length m x u y) (MO:yj m n bs.length) (lw:ws.length=n) (h:yg (n + bs.length) q (xQ n bs.length ws b m)):zn ws y<=(b:Rat):=by
 unfold xQ at h
 rw [zI5 (by rw [List.length_map,List.length_range]) (by rw [List.length_map,List.length_range]),Xj (x:=x) (by rw [List.length_map,List.length_range]) S.a,Xj (x:=u) (by rw [List.length_map,List.length_range]) S.b] at h
 have e:=zLv B lw MO.nexts.1 MO.push.1 MO.add
 have d1:(0:Rat) < (m.div:Rat):=by exact_mod_cast MO.div
 rw [Rat.intCast_sub,Rat.intCast_mul] at h
 refine Rat.le_of_mul_le_mul_right (c:=(m.div:Rat)) ?_ d1
 rw [e]
 grind
theorem zLG {n:Nat} {bs:List (Int × Int)} {m:MD} {x u y q:Nat->Rat} {ws:List Int} {st:Int} (S:um n bs x u q) (B:uo n bs.length m x u y) (MO:yj m n bs.length) (lw:ws.length=n) (h:yg (n + bs.length) q (ve n bs.length ws st m)):zn ws y<=zn ws x - (st:Rat):=by
 have l1:((xQ n bs.length ws 0 m).take n)=(List.range n).map (zf ws m.nexts):=by
  unfold xQ
  rw [List.append_assoc,List.take_append_of_le_length (by rw [List.length_map,List.length_range]; exact Nat.le_refl _),List.take_of_length_le (by rw [List.length_map,List.length_range]; exact Nat.le_refl _)]
 have lA:((List.range n).map (zf ws m.nexts)).length=n:=by rw [List.length_map,List.length_range]
 unfold ve at h
 rw [l1,zI5 (by unfold xK; rw [List.length_map,List.length_zip,lA]; omega) (by rw [List.length_map,List.length_range]),Xj (x:=x) (n:=n) (by unfold xK; rw [List.length_map,List.length_zip,lA]; omega) S.a,Xj (x:=u) (by rw [List.length_map,List.length_range]) S.b,zOn _ _ _ (by rw [lA,lw])] at h
 have e:=zLv B lw MO.nexts.1 MO.push.1 MO.add
 have d1:(0:Rat) < (m.div:Rat):=by exact_mod_cast MO.div
 simp only [Rat.intCast_sub,Rat.intCast_mul,Rat.intCast_neg] at h
 refine Rat.le_of_mul_le_mul_right (c:=(m.div:Rat)) ?_ d1
 rw [e]
 have z0:((0:Int):Rat)=0:=rfl
 have z1:((1:Int):Rat)=1:=rfl
 rw [z0,z1] at h
 grind
theorem Xk {rows:List (List Int)} {tw:List Int} {n:Nat} {d:D} {q:Nat->Rat} (lt:tw.length=n + 1) (h:ww rows tw n d=true) (hh:∀ r∈rows,yg n q r):yg n q tw:=by
 cases c:xL rows.length d with
 | false=>rw [zIn c] at h; cases h
 | true=>
  obtain ⟨o,ns,rfl,o0,ln,n0⟩:=zIo c
  rw [zHE c] at h
  exact zPF ln n0 o0 lt h hh
theorem Za {α β:Type} {xs:List α} {ys:List β} {f:α × β->Bool} (l:ys.length=xs.length) (h:(xs.zip ys).all f=true):∀ x∈xs,∃ y,f (x,y)=true:=λx hx=>by
 obtain ⟨i,hi,e⟩:=List.mem_iff_getElem.mp hx
 have hz:(x,ys[i]'(by omega))∈xs.zip ys:=List.mem_iff_getElem.mpr ⟨i,by rw [List.length_zip]; omega,by rw [List.getElem_zip,e]⟩
 exact ⟨_,List.all_eq_true.mp h _ hz⟩
theorem zLk {rows tws:List (List Int)} {n:Nat} {d:D} {q:Nat->Rat} (lt:∀ r∈tws,r.length=n + 1) (h:qZ rows tws n d=true) (hh:∀ r∈rows,yg n q r):∀ r∈tws,yg n q r:=λr hr=>by
 cases d with
 | lst as=>
  have h:(decide ((as.length:Int)=(tws.length:Int)) && (tws.zip as).all λp=>ww rows p.1 n p.2)=true:=h
  rw [Bool.and_eq_true] at h
  have l:=of_decide_eq_true h.1
  obtain ⟨y,hy⟩:=Za (by omega) h.2 r hr
  exact Xk (lt r hr) hy hh
 | _=>cases h
def Zb (n:Nat) (bs:List (Int × Int)) (ms:List MD) (x y:Nat->Rat):Prop:=∃ m∈ms,∃ u:Nat->Rat,(∀ r∈m.rows,yg n x r)/\(∀ i (h:i < bs.length),((bs[i].1:Int):Rat)<=u i/\u i<=((bs[i].2:Int):Rat))/\uo n bs.length m x u y
def zPE (n:Nat) (x u:Nat->Rat) (j:Nat):Rat:=if j < n then x j else u (j - n)
theorem zKH {n:Nat} {bs:List (Int × Int)} {x u:Nat->Rat} (h:∀ i (h:i < bs.length),((bs[i].1:Int):Rat)<=u i/\u i<=((bs[i].2:Int):Rat)):um n bs x u (zPE n x u):=⟨λj hj=>if_pos hj,λi _=>by unfold zPE; rw [if_neg (by omega),Nat.add_sub_cancel_left],h⟩
theorem zI4 {n:Nat} {q:Nat->Rat} {r:List Int} (l:r.length=n + 1):yg n q r ↔ zn (r.take n) q<=(r.getD n 0:Rat):=by
 unfold yg
 rw [j3 (n:=n) (by rw [List.length_take]; omega),wP (g:=λj=>((r.take n).getD j 0:Rat) * q j) λj hj=>by rw [List.getD_eq_getElem?_getD (l:=r.take n),List.getElem?_take,if_pos hj,List.getD_eq_getElem?_getD]]
theorem zHU {n:Nat} {q:Nat->Rat} {ws:List Int} {c:Int} (l:ws.length=n):yg n q (ws++[c]) ↔ zn ws q<=(c:Rat):=by
 rw [zI4 (by rw [List.length_append,l]; rfl),List.take_append_of_le_length (by omega),List.take_of_length_le (by omega),List.getD_eq_getElem?_getD,List.getElem?_append_right (by omega),l,Nat.sub_self]
 rfl
theorem JN {r:List Int} (j:Nat):(yM r).getD j 0 = -(r.getD j 0):=by
 unfold yM
 rw [List.getD_eq_getElem?_getD,List.getElem?_map,List.getD_eq_getElem?_getD]
 cases r[j]? <;> rfl
theorem zI3 {n:Nat} {q:Nat->Rat} {r:List Int} (h:¬ yg n q r):yg n q (yM r):=by
 unfold yg at h |-
 have e:(zN n λj=>((yM r).getD j 0:Rat) * q j) = -1 * zN n λj=>(r.getD j 0:Rat) * q j:=by
  rw [<- ul]
  refine wP λj _=>?_
  rw [JN,Rat.intCast_neg]
  grind
 rw [e,JN,Rat.intCast_neg]
 grind
theorem zQA {n:Nat} {bs:List (Int × Int)} {ms:List MD} {room behind:List (List Int)} {a:D} {x y:Nat->Rat} (ok:∀ m∈ms,yj m n bs.length) (h:k8 n bs ms room behind a=true) (lr:∀ r∈room,r.length=n + 1) (lb:∀ r∈behind,r.length=n + 1) (hx:∀ r∈room,yg n x r) (hs:Zb n bs ms x y):∀ r∈behind,yg n y r:=λr hr=>by
 obtain ⟨m,hm,u,h1,h2,B⟩:=hs
 have MO:=ok m hm
 cases a with
 | lst as=>
  have h:(decide ((as.length:Int)=(ms.length:Int)) && (ms.zip as).all λp=>XG n bs room behind p.1 p.2)=true:=h
  rw [Bool.and_eq_true] at h
  have l:=of_decide_eq_true h.1
  obtain ⟨a,ha⟩:=Za (by omega) h.2 m hm
  have S:=zKH (n:=n) (x:=x) h2
  have st:=zF3 S (rows:=room++m.rows) λr hr=>(List.mem_append.mp hr).elim (λh=>⟨lr r h,hx r h⟩) λh=>⟨MO.rows r h,h1 r h⟩
  have e:=zLk (λr hr=>by obtain ⟨r0,_,rfl⟩:=List.mem_map.mp hr; exact k7 ..) ha st (xQ n bs.length (r.take n) (r.getD n 0) m) (List.mem_map.mpr ⟨r,hr,rfl⟩)
  rw [zI4 (lb r hr)]
  exact zJs S B MO (by rw [List.length_take,lb r hr]; omega) e
 | _=>cases h
theorem zQN {n:Nat} {bs:List (Int × Int)} {ms:List MD} {room goal:List (List Int)} {ws:List Int} {st:Int} {a:D} {x y:Nat->Rat} {g:List Int} (ok:∀ m∈ms,yj m n bs.length) (h:ZA n bs ms room ws st goal a=true) (lw:ws.length=n) (lr:∀ r∈room,r.length=n + 1) (lg:∀ r∈goal,r.length=n + 1) (hx:∀ r∈room,yg n x r) (hg:g∈goal) (ng:¬ yg n x g) (hs:Zb n bs ms x y):zn ws y<=zn ws x - (st:Rat):=by
 obtain ⟨m,hm,u,h1,h2,B⟩:=hs
 have MO:=ok m hm
 cases a with
 | lst as=>
  have h:(decide ((as.length:Int)=(ms.length:Int)) && (ms.zip as).all λp=>k9 n bs room ws st goal p.1 p.2)=true:=h
  rw [Bool.and_eq_true] at h
  have l:=of_decide_eq_true h.1
  obtain ⟨a,ha⟩:=Za (by omega) h.2 m hm
  cases a with
  | lst bs'=>
   have ha:(decide ((bs'.length:Int)=(goal.length:Int)) && (goal.zip bs').all λp=>ww (u7 n bs (room++m.rows++[yM p.1])) (ve n bs.length ws st m) (n + bs.length) p.2)=true:=ha
   rw [Bool.and_eq_true] at ha
   have l2:=of_decide_eq_true ha.1
   obtain ⟨d,hd⟩:=Za (by omega) ha.2 g hg
   have S:=zKH (n:=n) (x:=x) h2
   have st':=zF3 S (rows:=room++m.rows++[yM g]) λr hr=>by
    rcases List.mem_append.mp hr with hr | hr
    ·exact (List.mem_append.mp hr).elim (λh=>⟨lr r h,hx r h⟩) λh=>⟨MO.rows r h,h1 r h⟩
    ·rw [List.mem_singleton.mp hr]
     exact ⟨by unfold yM; rw [List.length_map]; exact lg g hg,zI3 ng⟩
   have fl:(ve n bs.length ws st m).length=n + bs.length + 1:=by
    have rl:=k7 n bs.length ws 0 m
    unfold ve xK
    rw [List.length_append,List.length_append,List.length_map,List.length_map,List.length_zip,List.length_take,List.length_range,rl,lw]
    show min (min n (n + bs.length + 1)) n + bs.length + 1=_
    omega
   exact zLG S B MO lw (Xk fl hd st')
  | _=>cases ha
 | _=>cases h
theorem Zc {n:Nat} {bs:List (Int × Int)} {ms:List MD} {xc goal room:List (List Int)} {ws:List Int} {tu b st tp:Int} {A1 A2 A6 A7 A8:D} {P:Nat->Nat->Rat} (ok:∀ m∈ms,yj m n bs.length) (h:uC n bs ms xc goal tu room ws b st tp A1 A2 A6 A7 A8=true) (lw:ws.length=n) (lr:∀ r∈room,r.length=n + 1) (lg:∀ r∈goal,r.length=n + 1) (t0:0<=tu)
  (h0:∀ r∈xc,yg n (P 0) r) (hs:∀ t:Nat,(t:Int) < tu->Zb n bs ms (P t) (P (t + 1))):∃ t:Nat,(t:Int)<=tu/\∀ r∈goal,yg n (P t) r:=by
 refine Classical.byContradiction λno=>?_
 have no:∀ t:Nat,(t:Int)<=tu->∃ r∈goal,¬ yg n (P t) r:=λt ht=>Classical.byContradiction λc=>no ⟨t,ht,λr hr=>Classical.byContradiction λz=>c ⟨r,hr,z⟩⟩
 unfold uC at h
 by_cases c:st < 1\/tu * st<=tp
 ·rw [if_pos c] at h; cases h
 rw [if_neg c,Bool.and_eq_true,Bool.and_eq_true,Bool.and_eq_true,Bool.and_eq_true] at h
 obtain ⟨e1,e2,e3,e4,e5⟩:=h
 have inR:∀ t:Nat,(t:Int)<=tu->∀ r∈room,yg n (P t) r:=by
  intro t
  induction t with
  | zero=>exact λ_=>zLk lr e1 h0
  | succ t ih=>exact λht=>zQA ok e2 lr lr (ih (by omega)) (hs t (by omega))
 have m0:zn ws (P 0)<=((tp - b:Int):Rat):=(zHU lw).mp (Xk (by rw [List.length_append,lw]; rfl) e3 h0)
 have mt:∀ t:Nat,(t:Int)<=tu->zn ws (P t)<=((tp - b - (t:Int) * st:Int):Rat):=by
  intro t
  induction t with
  | zero=>intro _; rw [show (tp - b - ((0:Nat):Int) * st)=tp - b by omega]; exact m0
  | succ t ih=>
   intro ht
   obtain ⟨g,hg,ng⟩:=no t (by omega)
   have f:=zQN ok e5 lw lr lg (inR t (by omega)) hg ng (hs t (by omega))
   have:=ih (by omega)
   rw [show (tp - b - ((t + 1:Nat):Int) * st)=(tp - b - (t:Int) * st) - st by rw [Int.natCast_succ,Int.add_mul]; omega,Rat.intCast_sub]
   grind
 obtain ⟨T,rfl⟩:∃ T:Nat,tu=(T:Int):=⟨tu.toNat,by omega⟩
 obtain ⟨g,hg,ng⟩:=no T (Int.le_refl _)
 have mT:=mt T (Int.le_refl _)
 have fl:zn (ws.map λx=>-x) (P T)<=(b:Rat):=by
  cases A7 with
  | lst as=>
   have e4:(decide ((as.length:Int)=(goal.length:Int)) && (goal.zip as).all λp=>ww (room++[yM p.1]) (ws.map (λx=>-x)++[b]) n p.2)=true:=e4
   rw [Bool.and_eq_true] at e4
   have l:=of_decide_eq_true e4.1
   obtain ⟨a,ha⟩:=Za (by omega) e4.2 g hg
   refine (zHU (by rw [List.length_map]; exact lw)).mp (Xk (by rw [List.length_append,List.length_map,lw]; rfl) ha λr hr=>?_)
   rcases List.mem_append.mp hr with hr | hr
   ·exact inR T (Int.le_refl _) r hr
   ·rw [List.mem_singleton.mp hr]; exact zI3 ng
  | _=>cases e4
 have en:zn (ws.map λx=>-x) (P T) = -1 * zn ws (P T):=by
  rw [j3 (n:=n) (by rw [List.length_map]; exact lw),j3 lw,<- ul]
  refine wP λj _=>?_
  have:=JN (r:=ws) j
  unfold yM at this
  rw [this,Rat.intCast_neg]
  grind
 rw [en] at fl
 have fin:((0:Int):Rat)<=((tp - (T:Int) * st:Int):Rat):=by
  rw [show tp - b - (T:Int) * st=(tp - (T:Int) * st) - b by omega,Rat.intCast_sub] at mT
  show (0:Rat)<=_
  grind
 have fin':0<=tp - (T:Int) * st:=by exact_mod_cast fin
 exact c (.inr (by omega))
abbrev dQ (r:Rat):D:=.tup [.int r.num,.int (r.den:Int)]
theorem zP8 {a b:Int} (h:0 < b):((a:Rat) / (b:Rat)).num=a.fdiv (Int.gcd a b:Int)/\((((a:Rat) / (b:Rat)).den:Nat):Int)=b.fdiv (Int.gcd a b:Int):=by
 obtain ⟨n,rfl⟩:∃ n:Nat,b=(n:Int):=⟨b.toNat,by omega⟩
 have nz:n≠0:=by omega
 have e:(a:Rat) / (((n:Nat):Int):Rat)=mkRat a n:=by rw [Rat.mkRat_eq_div]; rfl
 have g0:(0:Int)<=(Int.gcd a (n:Int):Int):=Int.natCast_nonneg _
 rw [e]
 unfold mkRat
 rw [dif_neg nz,Rat.normalize_eq,Int.fdiv_eq_ediv_of_nonneg _ g0,Int.fdiv_eq_ediv_of_nonneg _ g0]
 exact ⟨rfl,rfl⟩
def xZ (Q e:Nat) (x:Rat):Prop:=∃ k:Int,x * (Q:Rat)=(k:Rat)/\Bd e k
theorem JO (x:Rat):(x.num:Rat)=x * (x.den:Rat):=by
 have h:=Rat.mkRat_self x
 rw [Rat.mkRat_eq_div,Rat.div_def] at h
 have d0:(x.den:Rat)≠0:=by exact_mod_cast x.den_nz
 have e:x * (x.den:Rat)=(x.num:Rat) * ((x.den:Rat)⁻¹ * (x.den:Rat)):=by
  rw [<- Rat.mul_assoc,h]
 rw [e,Rat.inv_mul_cancel _ d0,Rat.mul_one]
theorem Zd {Q e:Nat} {x:Rat} (q:0 < Q) (h:xZ Q e x):x.den<=Q/\Bd e x.num:=by
 obtain ⟨k,hk,b⟩:=h
 have d0:(x.den:Rat)≠0:=by exact_mod_cast x.den_nz
 have e1:x.num * (Q:Int)=k * (x.den:Int):=by
  have:(x.num:Rat) * (Q:Rat)=(k:Rat) * (x.den:Rat):=by rw [JO,<- hk]; grind
  exact_mod_cast this
 have dv:x.den ∣ Q:=by
  have h1:x.den ∣ x.num.natAbs * Q:=by
   have:=congrArg Int.natAbs e1
   rw [Int.natAbs_mul,Int.natAbs_mul] at this
   exact ⟨k.natAbs,by simp at this; rw [this,Nat.mul_comm]⟩
  exact (Nat.Coprime.dvd_of_dvd_mul_left x.reduced.symm h1)
 have le:=Nat.le_of_dvd q dv
 refine ⟨le,?_⟩
 have h2:x.num.natAbs * Q=k.natAbs * x.den:=by
  have:=congrArg Int.natAbs e1
  rw [Int.natAbs_mul,Int.natAbs_mul] at this
  simpa using this
 have h3:x.num.natAbs * Q<=k.natAbs * Q:=by rw [h2]; exact Nat.mul_le_mul_left _ le
 have h4:=Nat.le_of_mul_le_mul_right h3 q
 exact Nat.lt_of_le_of_lt h4 b
theorem Ze {Q e:Nat} {x y:Rat} (h:xZ Q e x) (g:xZ Q e y):xZ Q (e + 1) (x + y):=by
 obtain ⟨k,hk,b⟩:=h
 obtain ⟨l,hl,c⟩:=g
 exact ⟨k + l,by rw [Rat.intCast_add,<- hk,<- hl]; grind,b.add c⟩
theorem zPA {Q e c:Nat} {x:Rat} {w:Int} (b:Bd c w) (h:xZ Q e x):xZ Q (c + e) ((w:Rat) * x):=by
 obtain ⟨k,hk,bk⟩:=h
 exact ⟨w * k,by rw [Rat.intCast_mul,<- hk]; grind,b.mul bk⟩
theorem vi {Q e f:Nat} {x:Rat} (h:xZ Q e x) (l:e<=f):xZ Q f x:=by
 obtain ⟨k,hk,b⟩:=h
 exact ⟨k,hk,b.mono l⟩
theorem Zf {Q e c P:Nat} {x:Rat} (h:xZ Q e x) (b:Bd c (P:Int)):xZ (Q * P) (e + c) x:=by
 obtain ⟨k,hk,bk⟩:=h
 refine ⟨k * (P:Int),?_,bk.mul b⟩
 rw [Rat.intCast_mul,<- hk]
 have:(((Q * P:Nat)):Rat)=(Q:Rat) * (P:Rat):=Rat.natCast_mul ..
 rw [this]
 show _=x * (Q:Rat) * (P:Rat)
 grind
theorem JP {Q e c:Nat} {w:Int} (b:Bd e w) (q:Bd c (Q:Int)):xZ Q (e + c) (w:Rat):=⟨w * (Q:Int),by rw [Rat.intCast_mul]; rfl,b.mul q⟩
theorem zPB {Q e:Nat} {x:Rat} {d:Int} (h:xZ Q e x) (d1:1<=d):xZ (Q * d.toNat) e (x / (d:Rat)):=by
 obtain ⟨k,hk,b⟩:=h
 refine ⟨k,?_,b⟩
 have:((Q * d.toNat:Nat):Rat)=(Q:Rat) * ((d.toNat:Nat):Rat):=Rat.natCast_mul ..
 rw [this]
 obtain ⟨n,rfl⟩:∃ n:Nat,d=(n:Int):=⟨d.toNat,by omega⟩
 have n0:(((n:Nat):Int):Rat)≠0:=by exact_mod_cast (show (n:Int)≠0 by omega)
 rw [<- hk,Int.toNat_natCast]
 show x / (((n:Nat):Int):Rat) * ((Q:Rat) * (((n:Nat):Int):Rat))=_
 rw [Rat.div_def]
 have i:=Rat.inv_mul_cancel _ n0
 grind
theorem j4 (Q e:Nat):xZ Q e 0:=⟨0,by show 0 * (Q:Rat)=0; grind,xM⟩
def yu:List Int->List Rat->Rat
 | w :: ws,x :: xs=>(w:Rat) * x + yu ws xs
 | _,_=>0
theorem Xl:∀ (ws:List Int) (xs:List Rat),ws.length=xs.length->yu ws xs=zN xs.length λj=>(ws.getD j 0:Rat) * xs.getD j 0
 | [],[],_=>rfl
 | [],_ :: _,h=>nomatch h
 | _ :: _,[],h=>nomatch h
 | w :: ws,x :: xs,h=>by
  show (w:Rat) * x + yu ws xs=zN (xs.length + 1) _
  rw [Xh,Xl ws xs (Nat.succ.inj h)]
  rfl
theorem zHc:∀ {ws:List Int} {xs:List Rat} {w:Int} {x:Rat},ws.length=xs.length->yu (ws++[w]) (xs++[x])=yu ws xs + (w:Rat) * x
 | [],[],w,x,_=>by show (w:Rat) * x + 0=0 + (w:Rat) * x; grind
 | [],_ :: _,_,_,h=>nomatch h
 | _ :: _,[],_,_,h=>nomatch h
 | a :: ws,y :: xs,w,x,h=>by
  show (a:Rat) * y + yu (ws++[w]) (xs++[x])=(a:Rat) * y + yu ws xs + (w:Rat) * x
  rw [zHc (Nat.succ.inj h)]
  grind
theorem j5 {Q e c:Nat}:∀ {ws:List Int} {xs:List Rat},(∀ w∈ws,Bd c w)->(∀ x∈xs,xZ Q e x)->xZ Q (c + e + xs.length) (yu ws xs)
 | [],_,_,_=>j4 _ _
 | _ :: _,[],_,_=>j4 _ _
 | w :: ws,x :: xs,hw,hx=>by
  have h1:=zPA (hw w List.mem_cons_self) (hx x List.mem_cons_self)
  have h2:=j5 (λw h=>hw w (List.mem_cons_of_mem _ h)) (λx h=>hx x (List.mem_cons_of_mem _ h)) (ws:=ws) (xs:=xs)
  exact Ze (vi h1 (Nat.le_add_right _ _)) h2
theorem zQg {a b:Int} {n:Nat} (h:Bd n b) (b0:0 < b):Bd n (Int.gcd a b:Int):=h.of_le (by
 have:=Int.gcd_le_right (a:=a) b0
 omega)
def Zg:FL:=λds R=>∃ a b,ds=[.int a,.int b]/\R (.int (Int.gcd a b:Int))
def uq:FL:=λds R=>∃ a b,ds=[.int a,.int b]/\0 < b/\Bd 8000 b/\R (dQ ((a:Rat) / (b:Rat)))
def JQ:FL:=λds R=>∃ a b c d,ds=[.tup [.int a,.int b],.tup [.int c,.int d]]/\0 < b/\0 < d/\Bd 29000 a/\Bd 4000 b/\Bd 29000 c/\Bd 4000 d/\R (dQ ((a:Rat) / (b:Rat) + (c:Rat) / (d:Rat)))
theorem zOo {a b c d:Int} (hb:0 < b) (hd:0 < d):((a * d + c * b:Int):Rat) / ((b * d:Int):Rat)=(a:Rat) / (b:Rat) + (c:Rat) / (d:Rat):=by
 have b0:(b:Rat)≠0:=by exact_mod_cast (show b≠0 by omega)
 have d0:(d:Rat)≠0:=by exact_mod_cast (show d≠0 by omega)
 have xM:((b * d:Int):Rat)≠0:=by exact_mod_cast Int.ne_of_gt (Int.mul_pos hb hd)
 simp only [Rat.div_def]
 have e1:=Rat.mul_inv_cancel _ b0
 have e2:=Rat.mul_inv_cancel _ d0
 have e3:=Rat.mul_inv_cancel _ xM
 rw [Rat.intCast_add,Rat.intCast_mul,Rat.intCast_mul]
 rw [Rat.intCast_mul] at e3 |-
 grind
theorem gG {α β:Type} {f:α->β} {l:List α} {k:Nat} {y:β} (h:(l.map f)[k]? = some y):∃ x,l[k]? = some x/\f x=y:=by
 rw [List.getElem?_map] at h
 cases c:l[k]? with
 | none=>rw [c] at h; cases h
 | some x=>rw [c] at h; cases h; exact ⟨x,rfl,rfl⟩
theorem j6 (x:Rat):(x.num:Rat) / ((x.den:Int):Rat)=x:=by
 have h:=Rat.mkRat_self x
 rw [Rat.mkRat_eq_div] at h
 exact h
theorem Zh (w:Int) (x:Rat):((w * x.num:Int):Rat) / ((x.den:Int):Rat)=(w:Rat) * x:=by
 have h:=j6 x
 rw [Rat.div_def] at h |-
 rw [Rat.intCast_mul,Rat.mul_assoc,h]
theorem ur (x:Rat):0 < (x.den:Int):=by
 have:=x.den_nz
 omega
theorem wg {Q e q:Nat} {x:Rat} (Q0:0 < Q) (bQ:Bd q (Q:Int)) (h:xZ Q e x):Bd e x.num/\Bd q (x.den:Int):=by
 obtain ⟨h1,h2⟩:=Zd Q0 h
 exact ⟨h2,bQ.of_le (by omega)⟩
structure vQ (n:Nat) (xs:List Rat) (Q e q:Nat):Prop where
 len:xs.length=n
 n3:n<=3
 Q0:0 < Q
 bQ:Bd q (Q:Int)
 q1:q<=3000
 e1:e<=15000
 sz:∀ x∈xs,xZ Q e x
abbrev dP (xs:List Rat):D:=.lst (xs.map dQ)
def JR:FL:=λds R=>∃ d ns n xs Q e q,ds=[d,dP xs]/\IS d ns/\ns.length=n/\(∀ w∈ns,Bd 300 w)/\vQ n xs Q e q/\R (dQ (yu ns xs))
def hQ (xs:List Rat) (r:List Int):Bool:=decide (yu (r.take xs.length) xs<=(r.getD xs.length 0:Rat))
def zNr:FL:=λds R=>∃ r n xs Q e q,ds=[U r,dP xs]/\r.length=n + 1/\(∀ w∈r,Bd 300 w)/\vQ n xs Q e q/\R (.bool (hQ xs r))
def JS:FL:=λds R=>∃ rm n xs Q e q,ds=[Rm rm,dP xs]/\rm.length<=900/\(∀ r∈rm,r.length=n + 1/\∀ w∈r,Bd 300 w)/\vQ n xs Q e q/\R (.bool (rm.all (hQ xs)))
theorem JT {x:Rat} {b:Int}:x.num<=b * (x.den:Int) ↔ x<=(b:Rat):=by
 have d0:(0:Rat) < (x.den:Rat):=by exact_mod_cast ur x
 have e:=JO x
 have c:x.num<=b * (x.den:Int) ↔ (x.num:Rat)<=(b:Rat) * (x.den:Rat):=by
  constructor
  ·intro h
   have:(x.num:Rat)<=((b * (x.den:Int):Int):Rat):=by exact_mod_cast h
   rw [Rat.intCast_mul] at this
   exact this
  ·intro h
   have:(x.num:Rat)<=((b * (x.den:Int):Int):Rat):=by rw [Rat.intCast_mul]; exact h
   exact_mod_cast this
 rw [c,e]
 exact ⟨λh=>Rat.le_of_mul_le_mul_right h d0,λh=>Rat.mul_le_mul_of_nonneg_right h (Rat.le_of_lt d0)⟩
section
variable {P:Program} {w:World} {K:PySem.W.Frag} {mg:Str->Option Value} {base:Heap}
abbrev JU:Stmt:=zi 70
theorem zEq:za ["_law_one","_law_other_here"] ["_law_one","_law_other_here"] (zK JU):=.a
abbrev JV:Stmt:=zi 71
theorem zFC:za ["_law_top_here","_law_bottom","_law_share"] ["_law_top_here","_law_bottom"] (zK JV):=.a
abbrev JW:Stmt:=zi 72
theorem zKM:za ["_law_one","_law_other_here"] ["_law_one","_law_other_here"] (zK JW):=.a
abbrev JX:Stmt:=zi 73
theorem Zi:za ["_law_numbers","_law_values","_law_found","_law_number_here","_law_value"] ["_law_numbers","_law_values"] (zK JX):=.a
abbrev JY:Stmt:=zi 74
theorem zFz:za ["_law_row","_law_point_here","_law_value"] ["_law_row","_law_point_here"] (zK JY):=.a
abbrev Xm:Stmt:=zi 75
theorem zKN:za ["_law_room","_law_point_here"] ["_law_room","_law_point_here"] (zK Xm):=.a
variable {aClaim aSettles aComes af ag aPaper aRooms aFalls:Addr} (TClaim:zE K mg "Claim" aClaim) (AClaim:wY K aClaim) (TSettles:zE K mg "Settles" aSettles) (ASettles:wZ K aSettles) (TComes:zE K mg "Comes" aComes) (AComes:wa K aComes) (aa:zE K mg "Mode" af) (ab:wb K af) (ac:zE K mg "Thing" ag) (ae:wc K ag) (TPaper:zE K mg "Paper" aPaper) (APaper:wd K aPaper) (TRooms:zE K mg "Rooms" aRooms) (ARooms:we K aRooms) (TFalls:zE K mg "Falls" aFalls) (AFalls:wf K aFalls) (Y:yd K aComes aSettles)
include TClaim AClaim TSettles ASettles TComes AComes aa ab ac ae TPaper APaper TRooms ARooms TFalls AFalls Y
theorem zHN {k:Nat} {f:Addr} {fd:FuncData} (F:zc K "_law_divisor" "_law_divisor" JU f fd) (B:Bl mg):zH P w K mg base zW (k + 1) f fd ["_law_one","_law_other_here"] (zI Zg):=by
 refine F.ok zEq (UJ λds R h=>by obtain ⟨a,b,rfl,_⟩:=h; rfl) (λcdv A outer s H vs Q E hr h=>?_)
 obtain ⟨Z,ds,R,zd,hv,⟨a,b,rfl,q0⟩,q⟩:=h
 refine ⟨_,(X1 (zMb PassesOwn.never (QA J4 (L2.pv 1) Jn (vx _)) (X2 (zPT (i:=0) (j:=1) rfl zEq.nd rfl rfl (by decide) rfl rfl (zl (L2.pv 1) (zl (Jx Jy (L2.pv 0) (L2.pv 1)) yI)) rfl)))
  (X2 (Jq (xY zNJ rfl B.abs_ zLu (zl (L2.pv 0) yI))))),?_⟩
 obtain ⟨v1,v2,rfl,h1,h2⟩:=va hv
 cases h1
 cases h2
 refine zMI (λσ H'=>∃ c r:Int,σ=[some (.int c),some (.int r)]/\H'=H/\Int.gcd c r=Int.gcd a b) (λσ _=>match σ with | [_,some (.int r)]=>r.natAbs | _=>0) ⟨a,b,rfl,rfl,rfl⟩ ?_ ?_
 ·rintro σ H' ⟨c,r,rfl,rfl,hg⟩
  refine ⟨_,rfl,rfl,_,rfl,?_⟩
  by_cases z0:r=0
  ·subst z0
   refine gO rfl ?_
   refine ⟨_,rfl,c,rfl,?_⟩
   rw [zQk]
   rw [Int.gcd_zero_right] at hg
   rw [hg]
   exact q _ _ _ q0 (zF.refl _) (.int _)
  ·have ne:¬ (V.int r=V.int 0):=λe=>z0 (by injection e)
   refine gR (zOW z0) ?_
   refine ⟨_,rfl,_,rfl,_,rfl,_,_,rfl,rfl,z0,_,_,rfl,?_⟩
   exact ⟨⟨r,c.fmod r,rfl,rfl,by rw [zNB]; exact hg⟩,zLL z0⟩
 ·rintro σ H' Q1 Q2 h ⟨v,e,sc,k,ek,q1⟩
  exact ⟨v,e,sc,k,ek,h _ _ q1⟩
theorem zH8 {k:Nat} {f:Addr} {fd:FuncData} (F:zc K "_law_lowest" "_law_lowest" JV f fd) (B:Bl mg) (bU:Fn P w K mg base "_law_divisor" ["_law_one","_law_other_here"] k (zI Zg)):zH P w K mg base zW (k + 1) f fd ["_law_top_here","_law_bottom"] (zI (uq)):=by
 refine zm F zFC (λds R h=>by obtain ⟨a,b,rfl,_⟩:=h; rfl) λcdv A outer s H E hr=>⟨_,(zJ (zg 2 zFC.nd rfl (Or.inl rfl) (zO bU hr rfl (zB (zA 0) (zB (zA 1) zC))))
  (zM (zS (xA (zB (xR (zA 0) (zA 2)) (zB (xR (zA 1) (zA 2)) zC)))))),λds R h=>?_⟩
 obtain ⟨a,b,rfl,b0,bb,q⟩:=h
 have g0:(Int.gcd a b:Int)≠0:=Int.ne_of_gt (zOa (Int.ne_of_gt b0))
 have bg:=zQg (a:=a) bb b0
 refine ⟨a,b,rfl,g0,bg.mono,g0,bg.mono,k0,?_⟩
 unfold dQ at q
 rw [(zP8 b0).1,(zP8 b0).2] at q
 exact q
theorem zKv {k:Nat} {f:Addr} {fd:FuncData} (F:zc K "_law_plus" "_law_plus" JW f fd) (B:Bl mg) (au:Fn P w K mg base "_law_lowest" ["_law_top_here","_law_bottom"] k (zI (uq))):zH P w K mg base zW (k + 1) f fd ["_law_one","_law_other_here"] (zI (JQ)):=by
 refine zm F zKM (λds R h=>by obtain ⟨a,b,c,d,rfl,_⟩:=h; rfl) λcdv A outer s H E hr=>⟨_,(zM (zS (zO au hr rfl (zB (zU (zx (zP (zA 0) zD (λ_ _=>rfl)) (zP (zA 1) zD (λ_ _=>rfl))) (zx (zP (zA 1) zD (λ_ _=>rfl)) (zP (zA 0) zD (λ_ _=>rfl)))) (zB (zx (zP (zA 0) zD (λ_ _=>rfl)) (zP (zA 1) zD (λ_ _=>rfl))) zC))))),λds R h=>?_⟩
 obtain ⟨a,b,c,d,rfl,b0,d0,ba,bb,bc,bd,q⟩:=h
 refine ⟨_,rfl,_,rfl,ba.mono,bd.mono,_,rfl,_,rfl,bc.mono,bb.mono,_,rfl,_,rfl,bb.mono,bd.mono,_,_,rfl,Int.mul_pos b0 d0,(bb.mul bd).mono,?_⟩
 rw [zOo b0 d0]
 exact q
theorem zJk {k:Nat} {f:Addr} {fd:FuncData} (F:zc K "_law_along" "_law_along" JX f fd) (B:Bl mg) (aB:Fn P w K mg base "_law_plus" ["_law_one","_law_other_here"] k (zI (JQ))):zH P w K mg base zW (k + 1) f fd ["_law_numbers","_law_values"] (zI (JR)):=by
 refine zm F Zi (λds R h=>by obtain ⟨d,ns,n,xs,Q,ee,qq,rfl,_⟩:=h; rfl) λcdv A outer s H E hr=>⟨_,(zJ (zg 2 Zi.nd rfl (Or.inl rfl) (xA (zB zD (zB zD zC))))
  (zJ (wu PassesOwn.never rfl (v9 rfl B.zip_ (zB (zA 0) (zB (zA 1) zC))) (xI rfl (zY 3 Zi.nd rfl (Or.inl rfl) (zY 4 Zi.nd rfl (Or.inl rfl) xH))) (zM (zg 2 Zi.nd rfl (Or.inl rfl) (zO aB hr rfl (zB (zA 2) (zB (xA (zB (zx (zA 3) (zP (zA 4) zD (λ_ _=>rfl))) (zB (zP (zA 4) zD (λ_ _=>rfl)) zC))) zC))))))
  (zM (zS (zA 2))))),λds R h=>?_⟩
 obtain ⟨d,ns,n,xs,Q,ee,qq,rfl,h,ln,bn,PT,q⟩:=h
 have n3:=PT.n3
 have lx:=PT.len
 have q1:=PT.q1
 have e1:=PT.e1
 refine ⟨k0,h.zipL ?_⟩
 refine ⟨λk Γ=>∃ s3 s4,Γ=[.sh d,.sh (dP xs),.sh (dQ (yu (ns.take k) (xs.take k))),s3,s4],⟨.no,.no,rfl⟩,?_,?_⟩
 ·rintro k d' Γ' hk ⟨s3,s4,rfl⟩
  obtain ⟨a,b,h1,h2,rfl⟩:=W2 _ hk
  obtain ⟨w,hw,rfl⟩:=gG h1
  obtain ⟨x,hx,rfl⟩:=gG h2
  have bx:=wg PT.Q0 PT.bQ (PT.sz x (List.mem_of_getElem? hx))
  have bp:=wg PT.Q0 PT.bQ (j5 (c:=300) (ws:=ns.take k) (xs:=xs.take k) (λw h=>bn w (List.mem_of_mem_take h)) λx h=>PT.sz x (List.mem_of_mem_take h))
  have lt:(xs.take k).length<=3:=by rw [List.length_take]; omega
  have bw:=bn w (List.mem_of_getElem? hw)
  refine ⟨_,rfl,bw.mono,bx.1.mono (by omega),_,rfl,k0,_,_,_,_,rfl,ur _,ur x,bp.1.mono (by omega),bp.2.mono (by omega),(bw.mul bx.1).mono (by omega),bx.2.mono (by omega),.sh (.int w),.sh (dQ x),?_⟩
  rw [j6,Zh,<- zHc (by rw [List.length_take,List.length_take]; omega),<- gU hw,<- gU hx]
  rfl
 ·rintro Γ' ⟨s3,s4,rfl⟩
  rw [List.length_zipWith,List.length_map,List.length_map,List.take_of_length_le (by omega),List.take_of_length_le (by omega)]
  exact q
theorem zJi {k:Nat} {f:Addr} {fd:FuncData} (F:zc K "_law_holds" "_law_holds" JY f fd) (B:Bl mg) (av:Fn P w K mg base "_law_along" ["_law_numbers","_law_values"] k (zI (JR))):zH P w K mg base zW (k + 1) f fd ["_law_row","_law_point_here"] (zI (zNr)):=by
 refine zm F zFz (λds R h=>by obtain ⟨r,n,xs,Q,ee,qq,rfl,_⟩:=h; rfl) λcdv A outer s H E hr=>⟨_,(zJ (zg 2 zFz.nd rfl (Or.inl rfl) (zO av hr rfl (zB (yk (zA 0) yn (ya (yi zD))) (zB (zA 1) zC))))
  (zM (zS (Wl (zP (zA 2) zD (λ_ _=>rfl)) (zx (zP (zA 0) (yi zD) (λ_ _=>rfl)) (zP (zA 2) zD (λ_ _=>rfl))))))),λds R h=>?_⟩
 obtain ⟨r,n,xs,Q,ee,qq,rfl,lr,br,PT,q⟩:=h
 have n3:=PT.n3
 have q1:=PT.q1
 have e1:=PT.e1
 have bp:=wg PT.Q0 PT.bQ (j5 (c:=300) (ws:=r.take n) (xs:=xs) (λw h=>br w (List.mem_of_mem_take h)) PT.sz)
 refine ⟨_,r.take n,n,xs,Q,ee,qq,rfl,.inr (by rw [uD lr]),by rw [List.length_take]; omega,λw h=>br w (List.mem_of_mem_take h),PT,?_⟩
 refine ⟨_,rfl,_,jw lr,_,rfl,(jt br n).mono,bp.2.mono (by omega),bR q ?_⟩
 unfold hQ
 rw [PT.len]
 exact decide_eq_decide.mpr JT.symm
theorem zKx {k:Nat} {f:Addr} {fd:FuncData} (F:zc K "_law_lies" "_law_lies" Xm f fd) (B:Bl mg) (bV:Fn P w K mg base "_law_holds" ["_law_row","_law_point_here"] k (zI (zNr))):zH P w K mg base zW (k + 1) f fd ["_law_room","_law_point_here"] (zI (JS)):=by
 refine zm F zKN (λds R h=>by obtain ⟨rm,n,xs,Q,ee,qq,rfl,_⟩:=h; rfl) λcdv A outer s H E hr=>⟨_,(zM (zS (zj (wn rfl) wt rfl B.all_ wo (zB (yT (own:=["_law_row"]) (caps:=[(1,"_law_point_here")]) (yF (S:=zK Xm) (N:=["_law_room","_law_point_here"]) rfl (by decide +kernel) rfl ⟨_,rfl⟩ rfl (by decide +kernel) (by decide +kernel)) rfl rfl yU (yt (zA 0)) (λ_ _ _ _=>(zz 0 (show (["_law_row","_law_point_here"]:List Str).Nodup by decide +kernel) rfl (Or.inl rfl))) (λ_ _ _ _=>(zO bV hr rfl (zB (zA 0) (zB (zA 1) zC))))) zC)))),λds R h=>?_⟩
 obtain ⟨rm,n,xs,Q,ee,qq,rfl,l9,hr,PT,q⟩:=h
 refine vd U zr uf (λr=>.bool (hQ xs r)) (by omega) (λr h=>⟨r,n,xs,Q,ee,qq,rfl,(hr r h).1,(hr r h).2,PT,rfl⟩) ⟨rm.map (hQ xs),by rw [List.map_map]; rfl,bR q ?_⟩
 rw [List.all_map]
 rfl
end
theorem ut {α:Type} {as:List α} {k:Nat} {z:α} (h:k < as.length):as.getD k z∈as:=by
 rw [List.getD_eq_getElem?_getD,List.getElem?_eq_getElem h]
 exact List.getElem_mem _
theorem Zj {u:List Int->D} {rows:List (List Int)} {k:Nat} (h:k < rows.length):yp (rows.map u) (k:Int)=some (u (rows.getD k [])):=by
 rw [jj]
 unfold yp wl
 rw [if_pos (by omega),if_pos (by omega)]
 show Option.map u rows[((k:Nat):Int).toNat]? = _
 rw [show ((k:Nat):Int).toNat=k by omega,List.getElem?_eq_getElem h,List.getD_eq_getElem?_getD,List.getElem?_eq_getElem h]
 rfl
theorem zLF {n:Nat} {xs:List Rat} {r:List Int} (lx:xs.length=n) (lr:r.length=n + 1):hQ xs r=true ↔ yg n (λj=>xs.getD j 0) r:=by
 unfold hQ yg
 rw [decide_eq_true_iff,lx,Xl _ _ (by rw [List.length_take]; omega),lx,wP (g:=λj=>(r.getD j 0:Rat) * xs.getD j 0) λj hj=>?_]
 rw [show (r.take n).getD j 0=r.getD j 0 by rw [List.getD_eq_getElem?_getD,List.getElem?_take,if_pos hj,List.getD_eq_getElem?_getD]]
theorem Zk {lo hi p w:Int} (h:lo<=hi) (p1:1<=p) (w0:0<=w) (wp:w<=p):(lo:Rat)<=((lo * (p - w) + hi * w:Int):Rat) / (p:Rat)/\((lo * (p - w) + hi * w:Int):Rat) / (p:Rat)<=(hi:Rat):=by
 have p0:(0:Rat) < (p:Rat):=by exact_mod_cast (show 0 < p by omega)
 have pn:(p:Rat)≠0:=λz=>by rw [z] at p0; exact Rat.lt_irrefl p0
 have e:((lo * (p - w) + hi * w:Int):Rat) / (p:Rat) * (p:Rat)=((lo * (p - w) + hi * w:Int):Rat):=by
  rw [Rat.div_def,Rat.mul_assoc,Rat.inv_mul_cancel _ pn,Rat.mul_one]
 have d0:0<=(hi - lo) * w:=Int.mul_nonneg (by omega) w0
 have d1:0<=(hi - lo) * (p - w):=Int.mul_nonneg (by omega) (by omega)
 constructor
 ·refine Rat.le_of_mul_le_mul_right (c:=(p:Rat)) ?_ p0
  rw [e,<- Rat.intCast_mul]
  exact_mod_cast (show lo * p<=lo * (p - w) + hi * w by grind)
 ·refine Rat.le_of_mul_le_mul_right (c:=(p:Rat)) ?_ p0
  rw [e,<- Rat.intCast_mul]
  exact_mod_cast (show lo * (p - w) + hi * w<=hi * p by grind)
theorem Zl {a p:Int} {e:Nat} (b:Bd e a) (p1:1<=p) (p4:p<=4):xZ 12 (e + 4) ((a:Rat) / (p:Rat)):=by
 obtain ⟨c,hc,bc⟩:∃ c:Int,p * c=12/\Bd 4 c:=by
  rcases (show p=1\/p=2\/p=3\/p=4 by omega) with rfl | rfl | rfl | rfl
  ·exact ⟨12,rfl,Bd.lit⟩
  ·exact ⟨6,rfl,Bd.lit⟩
  ·exact ⟨4,rfl,Bd.lit⟩
  ·exact ⟨3,rfl,Bd.lit⟩
 have pn:(p:Rat)≠0:=by exact_mod_cast (show p≠0 by omega)
 refine ⟨a * c,?_,b.mul bc⟩
 have e12:((12:Nat):Rat)=(p:Rat) * (c:Rat):=by
  rw [<- Rat.intCast_mul,hc]
  rfl
 rw [e12,Rat.intCast_mul,Rat.div_def]
 have i:=Rat.inv_mul_cancel _ pn
 grind
def JZ:FL:=λds R=>∃ (c:Int) (bs:List (Int × Int)),ds=[.int c,.lst (bs.map zw)]/\bs.length<=3/\(∀ b∈bs,b.1<=b.2/\Bd 105 b.1/\Bd 105 b.2)/\∀ xs:List Rat,xs.length=bs.length->(∀ i (h:i < bs.length),((bs[i].1:Int):Rat)<=xs.getD i 0/\xs.getD i 0<=((bs[i].2:Int):Rat))->(∀ x∈xs,xZ 12 120 x)->R (dP xs)
def Xn (m:MD) (xs us:List Rat) (i:Nat):Rat:=(yu (m.nexts.getD i []) xs + yu (m.push.getD i []) us + (m.add.getD i 0:Rat)) / (m.div:Rat)
def xW (m:MD) (n:Nat) (xs us:List Rat):List Rat:=(List.range n).map (Xn m xs us)
def Zm:FL:=λds R=>∃ m n p xs us Q e q,ds=[xN m,dP xs,dQ 0,dP us]/\yj m n p/\jH 200 m/\Bd 3 m.div/\vQ n xs Q e q/\vQ p us Q e q/\e<=13000/\2 + q<=e/\R (dP (xW m n xs us))
theorem Zn (x:Rat) {d:Int} (d1:1<=d):(x.num:Rat) / ((((x.den:Nat):Int) * d:Int):Rat)=x / (d:Rat):=by
 have h:=JO x
 have xd:(x.den:Rat)≠0:=by exact_mod_cast x.den_nz
 have dn:(d:Rat)≠0:=by exact_mod_cast (show d≠0 by omega)
 have pn:((((x.den:Nat):Int) * d:Int):Rat)≠0:=by exact_mod_cast Int.ne_of_gt (Int.mul_pos (ur x) (show 0 < d by omega))
 have i1:=Rat.mul_inv_cancel _ xd
 have i2:=Rat.mul_inv_cancel _ dn
 have i3:=Rat.mul_inv_cancel _ pn
 rw [h,Rat.div_def,Rat.div_def]
 have ec:((((x.den:Nat):Int) * d:Int):Rat)=(x.den:Rat) * (d:Rat):=by rw [Rat.intCast_mul]; rfl
 rw [ec] at i3 |-
 grind
theorem zOm (s a:Int):yu [s,a] [0,1]=(a:Rat):=by
 show (s:Rat) * 0 + ((a:Rat) * 1 + 0)=_
 grind
theorem zNO {α:Type} {l:List α} {f:α->D} {k:Nat} (z:α) (h:l.length=k + 1):yp (l.map f) (-1)=some (f (l.getD k z)):=by
 rw [jj]
 unfold yp wl
 rw [if_neg (by decide),if_pos (by omega)]
 show Option.map f l[((-1:Int) + (l.length:Int)).toNat]? = _
 rw [show ((-1:Int) + (l.length:Int)).toNat=k by omega,List.getElem?_eq_getElem (by omega),List.getD_eq_getElem?_getD,List.getElem?_eq_getElem (by omega)]
 rfl
def Zo (n:Nat) (bs:List (Int × Int)) (ms:List MD) (ps:List (List Rat)):Prop:=∀ t,t + 1 < ps.length->Zb n bs ms (λj=>(ps.getD t []).getD j 0) (λj=>(ps.getD (t + 1) []).getD j 0)
def qk:D->List (List Int)
 | .tup (.lst rs :: _)=>rs.map zr
 | _=>[]
theorem zNW (m:MD):qk (xN m)=m.rows:=by
 show (m.rows.map U).map zr=_
 rw [List.map_map]
 exact (List.map_congr_left λr _=>uf r).trans (List.map_id _)
theorem zPa (n:Nat) (t:List (List Int)):(Tb t).pl (n + 4)=true:=List.all_eq_true.mpr λd h=>by
 obtain ⟨r,_,rfl⟩:=List.mem_map.mp h
 exact qR (n + 1) r
theorem zPb (n:Nat) (t:List (List Int)):(Rm t).pl (n + 4)=true:=List.all_eq_true.mpr λd h=>by
 obtain ⟨r,_,rfl⟩:=List.mem_map.mp h
 exact qR (n + 1) r
theorem Zq (n:Nat) (m:MD):(xN m).pl (n + 5)=true:=by
 show ([Rm m.rows,Tb m.nexts,L m.steer,Tb m.push,L m.add,D.int m.div].all (D.pl (n + 4)))=true
 simp only [List.all_cons,List.all_nil,Bool.and_true,zPa,zPb]
 rw [show (L m.steer).pl (n + 4)=true from qR (n + 2) _,show (L m.add).pl (n + 4)=true from qR (n + 2) _]
 rfl
theorem zPY (ms:List MD):(D.lst (ms.map xN)).pl 50=true:=List.all_eq_true.mpr λd h=>by
 obtain ⟨m,_,rfl⟩:=List.mem_map.mp h
 exact Zq 44 m
theorem zOc (f:D->Bool) (ms:List MD):(ms.map xN).filter f=(ms.filter λm=>f (xN m)).map xN:=by rw [List.filter_map]; rfl
theorem zNM {n:Nat} {bs:List (Int × Int)} {ms:List MD} {m:MD} {xs us:List Rat} (hm:m∈ms) (MO:yj m n bs.length) (lx:xs.length=n) (lu:us.length=bs.length) (hr:m.rows.all (hQ xs)=true) (hu:∀ i (h:i < bs.length),((bs[i].1:Int):Rat)<=us.getD i 0/\us.getD i 0<=((bs[i].2:Int):Rat)):Zb n bs ms (λj=>xs.getD j 0) (λj=>(xW m n xs us).getD j 0):=by
 refine ⟨m,hm,λj=>us.getD j 0,λr h=>(zLF lx (MO.rows r h)).mp (List.all_eq_true.mp hr r h),hu,λi hi=>?_⟩
 have e:(xW m n xs us).getD i 0=Xn m xs us i:=by
  unfold xW
  rw [List.getD_eq_getElem?_getD,List.getElem?_map,List.getElem?_range hi]
  rfl
 have dn:(m.div:Rat)≠0:=by exact_mod_cast (show m.div≠0 by have:=MO.div; omega)
 have l1:(m.nexts.getD i []).length=n:=MO.nexts.2 _ (ut (by rw [MO.nexts.1]; exact hi))
 have l2:(m.push.getD i []).length=bs.length:=MO.push.2 _ (ut (by rw [MO.push.1]; exact hi))
 show (xW m n xs us).getD i 0 * (m.div:Rat)=_
 rw [e]
 unfold Xn
 rw [Rat.div_def,Rat.mul_assoc,Rat.inv_mul_cancel _ dn,Rat.mul_one,Xl _ _ (by omega),Xl _ _ (by omega),lx,lu]
theorem zOt {n p Q e q P:Nat} {m:MD} {xs us:List Rat} (MO:yj m n p) (MB:jH 200 m) (X:vQ n xs Q e q) (Us:vQ p us Q e q) (qe:2 + q<=e) (hP:0 < P) (dP:(P:Int)=m.div) (bd:Bd 3 m.div) (b1:e + 215<=15000) (b2:q + 3<=3000):vQ n (xW m n xs us) (Q * P) (e + 215) (q + 3):=by
 have n3:=X.n3
 have p3:=Us.n3
 refine ⟨by unfold xW; rw [List.length_map,List.length_range],n3,Nat.mul_pos X.Q0 hP,?_,b2,b1,λy hy=>?_⟩
 ·rw [Int.natCast_mul,dP]
  exact X.bQ.mul bd
 ·obtain ⟨i,hi,rfl⟩:=List.mem_map.mp hy
  have hi:=List.mem_range.mp hi
  have h1:=j5 (c:=200) (ws:=m.nexts.getD i []) (xs:=xs) (λw h=>MB.nexts _ (ut (by rw [MO.nexts.1]; exact hi)) w h) X.sz
  have h2:=j5 (c:=200) (ws:=m.push.getD i []) (xs:=us) (λw h=>MB.push _ (ut (by rw [MO.push.1]; exact hi)) w h) Us.sz
  have h3:=JP (jt MB.add i) X.bQ
  have lx:=X.len
  have lu:=Us.len
  have s1:=Ze (Ze (vi h1 (show _<=e + 204 by omega)) (vi h2 (show _<=e + 204 by omega))) (vi h3 (show _<=e + 204 + 1 by omega))
  have s2:=zPB (vi s1 (show _<=e + 215 by omega)) (show 1<=m.div by omega)
  rw [show m.div.toNat=P by omega] at s2
  exact s2
def Zr:FL:=λds R=>∃ n bs ms u xs cs,ds=[vP n bs ms u,dP xs,L cs]/\wU n bs ms/\(∀ m∈ms,jH 200 m/\Bd 3 m.div)/\(∀ b∈bs,Bd 105 b.1/\Bd 105 b.2)/\bs.length<=2/\ms.length<=3/\cs.length<=30/\xs.length=n/\(∀ x∈xs,xZ 12 120 x)/\∀ ps:List (List Rat),1<=ps.length->ps.length<=31->ps.getD 0 []=xs->Zo n bs ms ps->(∀ p∈ps,∃ Q e q,vQ n p Q e q)->R (.lst (ps.map dP))
section
variable {P:Program} {w:World} {K:PySem.W.Frag} {mg:Str->Option Value} {base:Heap}
abbrev Ja:Stmt:=zi 80
theorem jL:za ["_law_cell","_law_box_here","_law_xs","_law_parts","_law_point_here","_law_k","_law_low","_law_high","_law_share"] ["_law_cell","_law_box_here"] (zK Ja):=.a
abbrev Jb:Stmt:=zi 88
theorem uI:za ["_law_mode","_law_point_here","_law_steering","_law_pushes","_law_rows_here","_law_nexts","_law_steer","_law_push","_law_add","_law_divisor_here","_law_found","_law_i","_law_value"] ["_law_mode","_law_point_here","_law_steering","_law_pushes"] (zK Jb):=.a
abbrev Xo:Stmt:=zi 89
theorem uS:za ["_law_spec","_law_point_here","_law_cells","_law_many","_law_pushes","_law_modes","_law_unit","_law_points","_law_cell","_law_ways","_law_mode","_law_drawn"] ["_law_spec","_law_point_here","_law_cells"] (zK Xo):=.a
variable {aClaim aSettles aComes af ag aPaper aRooms aFalls:Addr} (TClaim:zE K mg "Claim" aClaim) (AClaim:wY K aClaim) (TSettles:zE K mg "Settles" aSettles) (ASettles:wZ K aSettles) (TComes:zE K mg "Comes" aComes) (AComes:wa K aComes) (aa:zE K mg "Mode" af) (ab:wb K af) (ac:zE K mg "Thing" ag) (ae:wc K ag) (TPaper:zE K mg "Paper" aPaper) (APaper:wd K aPaper) (TRooms:zE K mg "Rooms" aRooms) (ARooms:we K aRooms) (TFalls:zE K mg "Falls" aFalls) (AFalls:wf K aFalls) (Y:yd K aComes aSettles)
include TClaim AClaim TSettles ASettles TComes AComes aa ab ac ae TPaper APaper TRooms ARooms TFalls AFalls Y
theorem zJg {k:Nat} {f:Addr} {fd:FuncData} (F:zc K "_law_point" "_law_point" Ja f fd) (B:Bl mg) (ao:Fn P w K mg base "_law_stream" ["_law_cell","_law_many"] k (zI (ZH))) (au:Fn P w K mg base "_law_lowest" ["_law_top_here","_law_bottom"] k (zI (uq))):zH P w K mg base zW (k + 1) f fd ["_law_cell","_law_box_here"] (zI (JZ)):=by
 refine zm F jL (λds R h=>by obtain ⟨c,bs,rfl,_⟩:=h; rfl) λcdv A outer s H E hr=>⟨_,(zJ (zg 2 jL.nd rfl (Or.inl rfl) (zO ao hr rfl (zB (zA 0) (zB (zU (zj yQ yS rfl B.len_ yR (zB (zA 1) zC)) zD) zC))))
  (zJ (zg 3 jL.nd rfl (Or.inl rfl) (zU zD (yW (zP (zA 2) (yi zD) (λ_ _=>rfl)) zD)))
  (zJ (wX 4 jL.nd rfl (Or.inl rfl) zC)
  (zJ (wu PassesOwn.never rfl (xm rfl B.range_ (zB (zj yQ yS rfl B.len_ yR (zB (zA 1) zC)) zC)) (zz 5 jL.nd rfl (Or.inl rfl)) (zJ (vc (zP (zA 1) (zA 5) (λ_ _=>rfl)) (xI rfl (zY 6 jL.nd rfl (Or.inl rfl) (zY 7 jL.nd rfl (Or.inl rfl) xH))))
   (zJ (zg 8 jL.nd rfl (Or.inl rfl) (zP (yH (zB zD (zB (zA 3) (zB (yW (zP (zA 2) (zA 5) (λ_ _=>rfl)) (zU (zA 3) zD)) zC)))) (yW (xR (zP (zA 2) (zA 5) (λ_ _=>rfl)) zD) zD) (λ_ _=>rfl)))
   (zM (zv (xX (xg PySem.F.plainAttrs_list PySem.F.slot_list_append PySem.F.type_list_append yL (yJ 4) (zl (zO au hr rfl (zB (zU (zx (zA 6) (xj (zA 3) (zA 8))) (zx (zA 7) (zA 8))) (zB (zA 3) zC))) yI))) xq)))))
  (zM (wC 4 (zS (zA 4)))))))),λds R h=>?_⟩
 obtain ⟨c,bs,rfl,l3,hb,q⟩:=h
 have lb:(List.map zw bs).length=bs.length:=List.length_map ..
 refine ⟨c,bs.length + 1,by rw [show (((bs.length + 1:Nat)):Int)=((bs.map zw).length:Int) + 1 by omega],by omega,λxs lx hx=>?_⟩
 refine ⟨_,jw lx,by decide,?_⟩
 have m4:=md (xs.getD bs.length 0) (show (0:Int) < 4 by decide)
 obtain ⟨p,hp⟩:∃ p,p=1 + (xs.getD bs.length 0).fmod 4:=⟨_,rfl⟩
 have p1:1<=p:=by omega
 have p4:p<=4:=by omega
 have bp:Bd 3 p:=wO (f:=7) (by decide) (by omega) (by omega)
 refine ⟨k0,by omega,by omega,?_⟩
 rw [show ((List.length (List.map zw bs):Nat):Int).toNat=bs.length by omega]
 refine ⟨λk Γ=>∃ (ys:List Rat) (s5 s6 s7 s8:Sl),Γ=[.sh (.int c),.sh (.lst (bs.map zw)),.sh (L xs),.sh (.int p),.ow (ys.map dQ),s5,s6,s7,s8]/\ys.length=k/\(∀ i (h:i < bs.length),i < k->((bs[i].1:Int):Rat)<=ys.getD i 0/\ys.getD i 0<=((bs[i].2:Int):Rat))/\∀ y∈ys,xZ 12 120 y,⟨[],.no,.no,.no,.no,by rw [hp]; rfl,rfl,λ_ _ h=>absurd h (Nat.not_lt_zero _),λ_ h=>nomatch h⟩,?_,?_⟩
 ·rintro k d Γ' hk ⟨ys,s5,s6,s7,s8,rfl,ly,hy,sy⟩
  obtain ⟨kn,rfl⟩:=ub hk
  obtain ⟨h1,h2,h3⟩:=hb _ (List.getElem_mem kn)
  refine ⟨_,U6 kn rfl,?_⟩
  refine yf (by omega) (by omega) λx1 _=>⟨by omega,k0,yf (by omega) (by omega) λx2 _=>⟨by decide,(Bd.lit (i:=8) (n:=4)).mono,by decide,vH (md _ (by decide)).1 (by have:=md (x2.fdiv 8) (show (0:Int) < 3 by decide); show (x2.fdiv 8).fmod 3 < 3; omega) λz hz=>?_⟩⟩
  obtain ⟨w,rfl,w0,wp⟩:∃ w,z=.int w/\0<=w/\w<=p:=by
   have:=md x1 (show (0:Int) < p + 1 by omega)
   simp only [List.mem_cons,List.not_mem_nil,or_false] at hz
   rcases hz with rfl | rfl | rfl
   ·exact ⟨_,rfl,by decide,by omega⟩
   ·exact ⟨_,rfl,by omega,by omega⟩
   ·exact ⟨_,rfl,by omega,by omega⟩
  have bw:Bd 3 w:=wO (f:=7) (by decide) (by omega) (by omega)
  have bpw:Bd 3 (p - w):=wO (f:=7) (by decide) (by omega) (by omega)
  refine ⟨h2.mono,bpw.mono,h3.mono,bw.mono,_,_,rfl,by omega,bp.mono,by rw [List.length_map]; omega,?_⟩
  have bq:=Zk h1 p1 w0 wp
  refine ⟨ys++[((bs[k].1 * (p - w) + bs[k].2 * w:Int):Rat) / (p:Rat)],.sh (.int (k:Int)),.sh (.int bs[k].1),.sh (.int bs[k].2),.sh (.int w),by rw [List.map_append]; rfl,by rw [List.length_append,ly]; rfl,λi hi ik=>?_,vf sy (vi (Zl ((h2.mul bpw).add (h3.mul bw)) p1 p4) (by decide))⟩
  by_cases e:i < k
  ·rw [List.getD_eq_getElem?_getD,List.getElem?_append_left (by omega),<- List.getD_eq_getElem?_getD]
   exact hy i hi e
  ·have e:i=k:=by omega
   subst e
   rw [List.getD_eq_getElem?_getD,List.getElem?_append_right (by omega),ly,Nat.sub_self]
   exact bq
 ·rintro Γ' ⟨ys,s5,s6,s7,s8,rfl,ly,hy,sy⟩
  rw [uc] at ly hy
  exact q ys ly (λi h=>hy i h h) sy
theorem zH9 {k:Nat} {f:Addr} {fd:FuncData} (F:zc K "_law_behind" "_law_behind" Jb f fd) (B:Bl mg) (aB:Fn P w K mg base "_law_plus" ["_law_one","_law_other_here"] k (zI (JQ))) (av:Fn P w K mg base "_law_along" ["_law_numbers","_law_values"] k (zI (JR))) (au:Fn P w K mg base "_law_lowest" ["_law_top_here","_law_bottom"] k (zI (uq))):zH P w K mg base zW (k + 1) f fd ["_law_mode","_law_point_here","_law_steering","_law_pushes"] (zI (Zm)):=by
 refine zm F uI (λds R h=>by obtain ⟨m,n,p,xs,us,Q,ee,qq,rfl,_⟩:=h; rfl) λcdv A outer s H E hr=>⟨_,(zJ (vc (zA 0) (xI rfl (zY 4 uI.nd rfl (Or.inl rfl) (zY 5 uI.nd rfl (Or.inl rfl) (zY 6 uI.nd rfl (Or.inl rfl) (zY 7 uI.nd rfl (Or.inl rfl) (zY 8 uI.nd rfl (Or.inl rfl) (zY 9 uI.nd rfl (Or.inl rfl) xH))))))))
  (zJ (wX 10 uI.nd rfl (Or.inl rfl) zC)
  (zJ (wu PassesOwn.never rfl (xm rfl B.range_ (zB (zj yQ yS rfl B.len_ yR (zB (zA 1) zC)) zC)) (zz 11 uI.nd rfl (Or.inl rfl)) (zJ (zg 12 uI.nd rfl (Or.inl rfl) (zO aB hr rfl (zB (zO av hr rfl (zB (zP (zA 5) (zA 11) (λ_ _=>rfl)) (zB (zA 1) zC))) (zB (zO av hr rfl (zB (zP (zA 7) (zA 11) (λ_ _=>rfl)) (zB (zA 3) zC))) zC))))
   (zJ (zg 12 uI.nd rfl (Or.inl rfl) (zO aB hr rfl (zB (zA 12) (zB (zO av hr rfl (zB (yH (zB (zP (zA 6) (zA 11) (λ_ _=>rfl)) (zB (zP (zA 8) (zA 11) (λ_ _=>rfl)) zC))) (zB (yH (zB (zA 2) (zB (xA (zB zD (zB zD zC))) zC))) zC))) zC))))
   (zM (zv (xX (xg PySem.F.plainAttrs_list PySem.F.slot_list_append PySem.F.type_list_append yL (yJ 10) (zl (zO au hr rfl (zB (zP (zA 12) zD (λ_ _=>rfl)) (zB (zx (zP (zA 12) zD (λ_ _=>rfl)) (zA 9)) zC))) yI))) xq)))))
  (zM (wC 10 (zS (zA 10))))))),λds R h=>?_⟩
 obtain ⟨m,n,p,xs,us,Q,ee,qq,rfl,MO,MB,bd,X,Us,e1,qe,q⟩:=h
 have lx:=X.len
 have lu:=Us.len
 have n3:=X.n3
 have p3:=Us.n3
 have q1:=X.q1
 have d1:=MO.div
 have lm:(List.map dQ xs).length=n:=by rw [List.length_map]; exact lx
 refine ⟨k0,by omega,by omega,?_⟩
 rw [show ((List.length (List.map dQ xs):Nat):Int).toNat=n by omega]
 refine ⟨λk Γ=>∃ (s11 s12:Sl),Γ=[.sh (xN m),.sh (dP xs),.sh (dQ 0),.sh (dP us),.sh (Rm m.rows),.sh (Tb m.nexts),.sh (L m.steer),.sh (Tb m.push),.sh (L m.add),.sh (.int m.div),.ow (((List.range k).map (Xn m xs us)).map dQ),s11,s12],⟨.no,.no,rfl⟩,?_,?_⟩
 ·rintro k d Γ' hk ⟨s11,s12,rfl⟩
  obtain ⟨kn,rfl⟩:=ub hk
  have k1:k < m.nexts.length:=by rw [MO.nexts.1]; exact kn
  have k2:k < m.push.length:=by rw [MO.push.1]; exact kn
  have b1:∀ w∈m.nexts.getD k [],Bd 200 w:=MB.nexts _ (ut k1)
  have b2:∀ w∈m.push.getD k [],Bd 200 w:=MB.push _ (ut k2)
  have z1:=j5 b1 X.sz
  have z2:=j5 b2 Us.sz
  have s1:=Ze (vi z1 (show _<=ee + 204 by omega)) (vi z2 (show _<=ee + 204 by omega))
  have z3:=JP (jt MB.add k) X.bQ
  have s2:=Ze s1 (vi z3 (show _<=ee + 204 + 1 by omega))
  have y1:=wg X.Q0 X.bQ z1
  have y2:=wg X.Q0 X.bQ z2
  have y3:=wg X.Q0 X.bQ z3
  have y4:=wg X.Q0 X.bQ s1
  have y5:=wg X.Q0 X.bQ s2
  have P2:vQ 2 [0,1] Q ee qq:=⟨rfl,by decide,X.Q0,X.bQ,X.q1,X.e1,λx hx=>by
   rcases List.mem_cons.mp hx with rfl | hx
   ·exact j4 _ _
   ·rw [List.mem_singleton.mp hx]
    exact vi (JP (w:=1) (e:=1) Bd.lit X.bQ) (by omega)⟩
  refine ⟨_,Zj k1,_,_,n,xs,Q,ee,qq,rfl,.inl rfl,MO.nexts.2 _ (ut k1),λw h=>(b1 w h).mono,X,?_⟩
  refine ⟨_,Zj k2,_,_,p,us,Q,ee,qq,rfl,.inl rfl,MO.push.2 _ (ut k2),λw h=>(b2 w h).mono,Us,?_⟩
  refine ⟨_,_,_,_,rfl,ur _,ur _,y1.1.mono (by omega),y1.2.mono (by omega),y2.1.mono (by omega),y2.2.mono (by omega),?_⟩
  rw [j6,j6]
  refine ⟨_,jr (j:=k) (by rw [MO.steer]; exact kn) rfl,_,jr (j:=k) (by rw [MO.add]; exact kn) rfl,k0,k0,k0,_,[m.steer.getD k 0,m.add.getD k 0],2,[0,1],Q,ee,qq,rfl,.inl rfl,rfl,λw hw=>?_,P2,?_⟩
  ·rcases List.mem_cons.mp hw with rfl | hw
   ·exact (jt MB.steer k).mono
   ·rw [List.mem_singleton.mp hw]
    exact (jt MB.add k).mono
  rw [zOm]
  refine ⟨_,_,_,_,rfl,ur _,ur _,y4.1.mono (by omega),y4.2.mono (by omega),y3.1.mono (by omega),y3.2.mono (by omega),?_⟩
  rw [j6,j6]
  refine ⟨_,rfl,_,rfl,y5.2.mono (by omega),bd.mono,_,_,rfl,Int.mul_pos (ur _) (by omega),(y5.2.mul bd).mono (by omega),by rw [List.length_map,List.length_map,List.length_range]; omega,.sh (.int (k:Int)),.sh (dQ (yu (m.nexts.getD k []) xs + yu (m.push.getD k []) us + (m.add.getD k 0:Rat))),?_⟩
  rw [Zn _ d1,List.range_succ,List.map_append,List.map_append]
  rfl
 ·rintro Γ' ⟨s11,s12,rfl⟩
  rw [uc]
  exact q
theorem zMw {k:Nat} {f:Addr} {fd:FuncData} (F:zc K "_law_run" "_law_run" Xo f fd) (B:Bl mg) (aK:Fn P w K mg base "_law_lies" ["_law_room","_law_point_here"] k (zI (JS))) (aL:Fn P w K mg base "_law_point" ["_law_cell","_law_box_here"] k (zI (JZ))) (bW:Fn P w K mg base "_law_behind" ["_law_mode","_law_point_here","_law_steering","_law_pushes"] k (zI (Zm))):zH P w K mg base zW (k + 1) f fd ["_law_spec","_law_point_here","_law_cells"] (zI (Zr)):=by
 refine zm F uS (λds R h=>by obtain ⟨n,bs,ms,u,xs,cs,rfl,_⟩:=h; rfl) λcdv A outer s H E hr=>⟨_,(zJ (vc (zA 0) (xI rfl (zY 3 uS.nd rfl (Or.inl rfl) (zY 4 uS.nd rfl (Or.inl rfl) (zY 5 uS.nd rfl (Or.inl rfl) (zY 6 uS.nd rfl (Or.inl rfl) xH))))))
  (zJ (wX 7 uS.nd rfl (Or.inr rfl) (zB (zA 1) zC))
  (zJ (wu PassesOwn.never rfl (yt (zA 2)) (zz 8 uS.nd rfl (Or.inl rfl)) (zJ (zKV 7 9 uS.nd rfl rfl (own:=["_law_mode"]) (caps:=[(7,"_law_points")]) (yF (S:=zK Xo) (N:=["_law_spec","_law_point_here","_law_cells","_law_many","_law_pushes","_law_modes","_law_unit","_law_points","_law_cell","_law_ways","_law_mode","_law_drawn"]) rfl (by decide +kernel) rfl ⟨_,rfl⟩ rfl (by decide +kernel) (by decide +kernel)) rfl rfl yU (yt (zA 5)) (λ_ _ _ _=>(zz 0 (show (["_law_mode","_law_points"]:List Str).Nodup by decide +kernel) rfl (Or.inl rfl))) (λ_ _ _ _=>(yY (zO aK hr rfl (zB (zP (zA 0) zD (λ_ _=>rfl)) (zB (zP (zA 1) (yi zD) (λ_ _=>rfl)) zC))))) (λ_ _ _ _=>(zA 0)) rfl)
   (zJ (yB (xk hr.units (zA 9) (yH zC)) (zM zKW) yA)
   (zJ (zg 10 uS.nd rfl (Or.inl rfl) (zP (zA 9) (yW (zA 8) (zj yQ yS rfl B.len_ yR (zB (zA 9) zC))) (λ_ _=>rfl)))
   (zJ (zg 11 uS.nd rfl (Or.inl rfl) (zO aL hr rfl (zB (xR (zA 8) zD) (zB (zA 4) zC))))
   (zM (zv (xX (xg PySem.F.plainAttrs_list PySem.F.slot_list_append PySem.F.type_list_append yL (yJ 7) (zl (zO bW hr rfl (zB (zA 10) (zB (UI 7 (yi zD) (λ_ _=>rfl)) (zB (xA (zB zD (zB zD zC))) (zB (zA 11) zC))))) yI))) xq)))))))
  (zM (wC 7 (zS (zA 7))))))),λds R h=>?_⟩
 obtain ⟨n,bs,ms,u,xs,cs,rfl,OK,hms,hbs,b2,m3,l30,lx,sx,q⟩:=h
 have n3:=OK.n3
 have lm:(List.map xN ms).length=ms.length:=List.length_map ..
 have hb3:∀ b∈bs,b.1<=b.2/\Bd 105 b.1/\Bd 105 b.2:=λb hb=>⟨OK.bok b hb,hbs b hb⟩
 have P0s:vQ n xs (12 * 1) (130 + 215 * 0) (3 * 0 + 5):=⟨lx,n3,by decide,(show Bd 5 (12:Int) from Bd.lit),by decide,by decide,λx hx=>vi (sx x hx) (by decide)⟩
 refine ⟨k0,?_⟩
 refine ⟨λk Γ=>∃ (ps:List (List Rat)) (s8 s9 s10 s11:Sl),Γ=[.sh (vP n bs ms u),.sh (dP xs),.sh (L cs),.sh (.int (n:Int)),.sh (.lst (bs.map zw)),.sh (.lst (ms.map xN)),.sh (.int u),.ow (ps.map dP),s8,s9,s10,s11]/\ps.length=k + 1/\ps.getD 0 []=xs/\Zo n bs ms ps/\(∀ p∈ps,∃ Q e q,vQ n p Q e q)/\∃ P:Nat,0 < P/\Bd (3 * k + 1) (P:Int)/\vQ n (ps.getD k []) (12 * P) (130 + 215 * k) (3 * k + 5),⟨[xs],.no,.no,.no,.no,rfl,rfl,rfl,λt h=>absurd h (by show ¬ t + 1 < 1; omega),λp hp=>by rw [List.mem_singleton.mp hp]; exact ⟨_,_,_,P0s⟩,1,by decide,(show Bd 1 (1:Int) from Bd.lit),P0s⟩,?_,?_⟩
 ·rintro k d Γ' hk ⟨ps,s8,s9,s10,s11,rfl,lp,p0,RL,szs,P,P0,bP,PT⟩
  obtain ⟨c,hc,rfl⟩:=gG hk
  have kl:k < 30:=by have:=(List.getElem?_eq_some_iff.mp hc).1; omega
  have hl:yp (ps.map dP) (-1)=some (dP (ps.getD k [])):=zNO [] lp
  obtain ⟨x,hx⟩:∃ x,x=ps.getD k []:=⟨_,rfl⟩
  rw [<- hx] at PT hl
  refine kf.keep (λd=>(qk d).all (hQ x)) (by omega) (λd hd=>?_) (λd hd=>?_) ?_
  ·obtain ⟨m,hm,rfl⟩:=List.mem_map.mp hd
   have MO:=OK.mok m hm
   have MB:=(hms m hm).1
   rw [zNW]
   exact ⟨_,rfl,_,hl,m.rows,n,x,_,_,_,rfl,MO.few,λr hr=>⟨MO.rows r hr,λw hw=>(MB.rows r hr w hw).mono⟩,PT,rfl⟩
  ·obtain ⟨m,hm,rfl⟩:=List.mem_map.mp hd
   exact rfl
  rw [zOc]
  refine ⟨k0,zPY _,rfl,w2 (λc1=>q ps (by omega) (by omega) p0 RL szs) λc1=>?_⟩
  rw [Yd] at c1
  have hn:1<=((ms.filter λm=>(qk (xN m)).all (hQ x)).map xN).length:=by
   cases h:(ms.filter λm=>(qk (xN m)).all (hQ x)).map xN with
   | nil=>rw [h] at c1; cases c1
   | cons=>exact Nat.succ_le_succ (Nat.zero_le _)
  have mm:=md c (show (0:Int) < (((ms.filter λm=>(qk (xN m)).all (hQ x)).map xN).length:Int) by omega)
  refine ⟨by omega,vH mm.1 mm.2 λd hd=>?_⟩
  obtain ⟨m,hm,rfl⟩:=List.mem_map.mp hd
  obtain ⟨hm1,hm2⟩:=List.mem_filter.mp hm
  rw [zNW] at hm2
  have MO:=OK.mok m hm1
  obtain ⟨MB,bdv⟩:=hms m hm1
  have d1:=MO.div
  refine ⟨by decide,(Bd.lit (i:=3) (n:=2)).mono,c.fdiv 3,bs,rfl,by omega,hb3,λus lu hu su=>?_⟩
  have PU:vQ bs.length us (12 * P) (130 + 215 * k) (3 * k + 5):=⟨lu,by omega,PT.Q0,PT.bQ,PT.q1,PT.e1,λx hx=>vi (Zf (su x hx) bP) (by omega)⟩
  refine ⟨_,hl,k0,m,n,bs.length,x,us,12 * P,130 + 215 * k,3 * k + 5,rfl,MO,MB,bdv,PT,PU,by omega,by omega,by rw [List.length_map]; omega,?_⟩
  have PN:=zOt (P:=m.div.toNat) MO MB PT PU (by omega) (by omega) (by omega) bdv (by omega) (by omega)
  rw [Nat.mul_assoc] at PN
  have gl:∀ t,t < k + 1->(ps++[xW m n x us]).getD t []=ps.getD t []:=λt ht=>by rw [List.getD_eq_getElem?_getD,List.getElem?_append_left (by omega),List.getD_eq_getElem?_getD]
  have ge:(ps++[xW m n x us]).getD (k + 1) []=xW m n x us:=by
   rw [List.getD_eq_getElem?_getD,List.getElem?_append_right (by omega),lp,Nat.sub_self]
   rfl
  refine ⟨ps++[xW m n x us],.sh (.int c),.sh (.lst ((ms.filter λm=>(qk (xN m)).all (hQ x)).map xN)),.sh (xN m),.sh (dP us),by rw [List.map_append]; rfl,by rw [List.length_append,lp]; rfl,by rw [gl 0 (by omega)]; exact p0,λt ht=>?_,λp hp=>?_,P * m.div.toNat,Nat.mul_pos P0 (by omega),?_,?_⟩
  ·rw [List.length_append,lp] at ht
   have ht:t + 1 < k + 1 + 1:=ht
   by_cases e:t + 1 < k + 1
   ·rw [gl t (by omega),gl (t + 1) e]
    exact RL t (by omega)
   ·have e:t=k:=by omega
    subst e
    rw [gl t (by omega),ge,<- hx]
    exact zNM hm1 MO PT.len lu hm2 hu
  ·rcases List.mem_append.mp hp with hp | hp
   ·exact szs p hp
   ·rw [List.mem_singleton.mp hp]
    exact ⟨_,_,_,PN⟩
  ·rw [Int.natCast_mul,show ((m.div.toNat:Nat):Int)=m.div by omega]
   exact (bP.mul bdv).mono (by omega)
  ·rw [ge]
   exact ⟨PN.len,PN.n3,PN.Q0,PN.bQ.mono (by omega),by omega,by omega,λx hx=>vi (PN.sz x hx) (by omega)⟩
 ·rintro Γ' ⟨ps,s8,s9,s10,s11,rfl,lp,p0,RL,szs,_⟩
  rw [List.length_map] at lp
  exact q ps (by omega) (by omega) p0 RL szs
end
theorem zMK (a:Int) (w:Nat):(xO a w 1).map (λx=>0 - x)=xO a w (-1):=by
 unfold xO
 rw [List.map_map]
 refine List.map_congr_left λi _=>?_
 show 0 - (if (i:Int)=a then (1:Int) else 0)=if (i:Int)=a then -1 else 0
 by_cases c:(i:Int)=a
 ·rw [if_pos c,if_pos c]; rfl
 ·rw [if_neg c,if_neg c]; rfl
theorem zQf {bs:List (Int × Int)} {n:Nat} (l:bs.length=n) (n3:n<=3) (h:∀ b∈bs,Bd 105 b.1/\Bd 105 b.2):(jI bs).length<=100/\∀ r∈jI bs,r.length=n + 1/\∀ x∈r,Bd 110 x:=by
 refine ⟨?_,λr hr=>?_⟩
 ·unfold jI
  rw [List.length_flatten]
  have e:(bs.mapIdx (xu bs.length)).map List.length=List.replicate bs.length 2:=by
   refine List.ext_getElem (by simp) λi h1 h2=>?_
   simp [xu]
  rw [e]
  simp
  omega
 ·obtain ⟨q,hq,hr⟩:=List.mem_flatten.mp hr
  obtain ⟨i,hi,rfl⟩:=List.mem_mapIdx.mp hq
  have hb:=h _ (List.getElem_mem hi)
  have u1:=zLw (n:=bs.length) (pl:=(i:Int)) (e:=110) ((Bd.lit (i:=1) (n:=1)).mono)
  rcases List.mem_cons.mp hr with rfl | hr
  ·exact ⟨by rw [List.length_append,uX,l]; rfl,vf u1 (hb.2.mono)⟩
  ·rw [List.mem_singleton.mp hr]
   refine ⟨by rw [List.length_append,List.length_map,uX,l]; rfl,vf (λx hx=>?_) (by rw [Int.zero_sub]; exact hb.1.neg.mono)⟩
   obtain ⟨y,hy,rfl⟩:=List.mem_map.mp hx
   rw [Int.zero_sub]
   exact (u1 y hy).neg
theorem zOq {α β:Type} (f:α->β) (xs:List α) (lo hi:Option Int):zV (xs.map f) lo hi=(zV xs lo hi).map f:=by
 unfold zV
 rw [List.length_map,List.map_take,List.map_drop]
theorem zQb (ns:List Int):(zV ns (some 5) (some 35)).length<=30:=by
 unfold zV
 have e1:=HT.sIx_nat ns.length 0 5
 have e2:=HT.sIx_nat ns.length ns.length 35
 rw [List.length_take,List.length_drop]
 have e1:HT.sIx ns.length 0 (some 5)=min 5 ns.length:=e1
 have e2:HT.sIx ns.length ns.length (some 35)=min 35 ns.length:=e2
 rw [e1,e2]
 omega
theorem zQZ {α:Type} {xs:List α} {t:Int} (h:0<=t):zV xs none (some t)=xs.take t.toNat:=by
 obtain ⟨k,rfl⟩:=Int.eq_ofNat_of_zero_le h
 have e2:HT.sIx xs.length xs.length (some ((k:Nat):Int))=min k xs.length:=HT.sIx_nat ..
 unfold zV
 rw [HT.sIx_none,e2,List.drop_zero,Nat.sub_zero]
 show _=xs.take ((k:Nat):Int).toNat
 rw [Int.toNat_natCast]
 by_cases c:k<=xs.length
 ·rw [Nat.min_eq_left c]
 ·rw [Nat.min_eq_right (by omega),List.take_of_length_le (Nat.le_refl _),List.take_of_length_le (by omega)]
def qV:D->Rat
 | .tup [.int a,.int b]=>(a:Rat) / (b:Rat)
 | _=>0
def ptV:D->List Rat
 | .lst ds=>ds.map qV
 | _=>[]
theorem Zs (xs:List Rat):ptV (dP xs)=xs:=by
 show (xs.map dQ).map qV=xs
 rw [List.map_map]
 exact (List.map_congr_left λx _=>j6 x).trans (List.map_id _)
theorem zNK {bs:List (Int × Int)} {xs:List Rat} (hx:∀ i (h:i < bs.length),((bs[i].1:Int):Rat)<=xs.getD i 0/\xs.getD i 0<=((bs[i].2:Int):Rat)):∀ r∈jI bs,yg bs.length (λj=>xs.getD j 0) r:=λr hr=>by
 obtain ⟨l,hl,h⟩:=List.mem_flatten.mp hr
 obtain ⟨i,hi,rfl⟩:=List.mem_mapIdx.mp hl
 obtain ⟨h1,h2⟩:=hx i hi
 rcases List.mem_cons.mp h with rfl | h
 ·rw [Xi hi]
  show ((1:Int):Rat) * _<=_
  grind
 ·rw [List.mem_singleton.mp h,zMK,Xi hi,Int.zero_sub,Rat.intCast_neg]
  show ((-1:Int):Rat) * _<=_
  rw [show ((-1:Int):Rat) = -1 from rfl]
  grind
def zQP:FL:=λds R=>∃ room S1 S2 ws b st tp S6 S7 S8 c,ds=[uG room (yC S1) (yE S2) ws b st tp (yE S6) (yC S7) (zT S8),.int c]/\uF S1/\vh S2/\vh S6/\uF S7/\Bd 210 st/\Bd 210 tp/\∀ A1 A2 A6 A7 st' tp',Fw 5 A1->Fw 5 A2->Fw 5 A6->Fw 5 A7->yO A1->y6 A2->y6 A6->yO A7->Bd 300 st'->Bd 300 tp'->R (uG room A1 A2 ws b st' tp' A6 A7 (zT S8))
def uu:FL:=λds R=>∃ ns,ds=[.scr ns]/\R (.bool true)
section
variable {P:Program} {w:World} {K:PySem.W.Frag} {mg:Str->Option Value} {base:Heap}
abbrev Jc:Stmt:=zi 92
theorem wK:za ["_law_parts","_law_cell","_law_room","_law_starts","_law_steps","_law_measure","_law_step","_law_top_here","_law_falls","_law_floors","_law_tops","_law_way","_law_found"] ["_law_parts","_law_cell"] (zK Jc):=.a
abbrev j7:Stmt:=zi 93
theorem xv:za ["_law_script","_law_spec","_law_goal","_law_often","_law_step","_law_told","_law_parts","_law_room","_law_starts","_law_steps","_law_measure","_law_top_here","_law_falls","_law_floors","_law_tops","_law_paper","_law_box_here","_law_aims","_law_turns","_law_points"] ["_law_script"] (zK j7):=.a
variable {aClaim aSettles aComes af ag aPaper aRooms aFalls:Addr} (TClaim:zE K mg "Claim" aClaim) (AClaim:wY K aClaim) (TSettles:zE K mg "Settles" aSettles) (ASettles:wZ K aSettles) (TComes:zE K mg "Comes" aComes) (AComes:wa K aComes) (aa:zE K mg "Mode" af) (ab:wb K af) (ac:zE K mg "Thing" ag) (ae:wc K ag) (TPaper:zE K mg "Paper" aPaper) (APaper:wd K aPaper) (TRooms:zE K mg "Rooms" aRooms) (ARooms:we K aRooms) (TFalls:zE K mg "Falls" aFalls) (AFalls:wf K aFalls) (Y:yd K aComes aSettles)
include TClaim AClaim TSettles ASettles TComes AComes aa ab ac ae TPaper APaper TRooms ARooms TFalls AFalls Y
theorem zH5 {k:Nat} {f:Addr} {fd:FuncData} (F:zc K "_law_spoilt" "_law_spoilt" Jc f fd) (B:Bl mg) (ar:Fn P w K mg base "_law_changed" ["_law_some","_law_cell"] k (zI (uk 2))):zH P w K mg base zW (k + 1) f fd ["_law_parts","_law_cell"] (zI (zQP)):=by
 refine zm F wK (λds R h=>by obtain ⟨room,S1,S2,ws,b,st,tp,S6,S7,S8,c,rfl,_⟩:=h; rfl) λcdv A outer s H E hr=>⟨_,(zJ (vc (yk (zA 0) yn (ya zD)) (xI rfl (zY 2 wK.nd rfl (Or.inl rfl) (zY 3 wK.nd rfl (Or.inl rfl) (zY 4 wK.nd rfl (Or.inl rfl) (zY 5 wK.nd rfl (Or.inl rfl) xH))))))
  (zJ (vc (yk (zA 0) (ya zD) yn) (xI rfl (zY 6 wK.nd rfl (Or.inl rfl) (zY 7 wK.nd rfl (Or.inl rfl) (zY 8 wK.nd rfl (Or.inl rfl) (zY 9 wK.nd rfl (Or.inl rfl) (zY 10 wK.nd rfl (Or.inl rfl) xH)))))))
  (zJ (zg 11 wK.nd rfl (Or.inl rfl) (yW (zA 1) zD))
  (zJ (zg 1 wK.nd rfl (Or.inl rfl) (xR (zA 1) zD))
  (vb (yB (xk hr.units (zA 11) zD) (zM (zg 3 wK.nd rfl (Or.inl rfl) (zO ar hr rfl (zB (zA 3) (zB (zA 1) zC))))) yA)
  (vb (yB (xk hr.units (zA 11) zD) (zM (zg 4 wK.nd rfl (Or.inl rfl) (zO ar hr rfl (zB (zA 4) (zB (zA 1) zC))))) yA)
  (vb (yB (xk hr.units (zA 11) zD) (zM (zg 8 wK.nd rfl (Or.inl rfl) (zO ar hr rfl (zB (zA 8) (zB (zA 1) zC))))) yA)
  (vb (yB (xk hr.units (zA 11) zD) (zM (zg 9 wK.nd rfl (Or.inl rfl) (zO ar hr rfl (zB (zA 9) (zB (zA 1) zC))))) yA)
  (vb (yB (xk hr.units (zA 11) zD) (zM (zg 6 wK.nd rfl (Or.inl rfl) (zU (zA 6) zD))) yA)
  (vb (yB (xk hr.units (zA 11) zD) (zM (zg 7 wK.nd rfl (Or.inl rfl) (xj (zA 7) zD))) yA)
  (zJ (zg 12 wK.nd rfl (Or.inl rfl) (yH (zB (zA 2) (zB (zA 3) (zB (zA 4) (zB (zA 5) (zB (zA 6) zC)))))))
  (zM (zS (zU (zA 12) (yH (zB (zA 7) (zB (zA 8) (zB (zA 9) (zB (zA 10) zC))))))))))))))))))),λds R h=>?_⟩
 obtain ⟨room,S1,S2,ws,b,st,tp,S6,S7,S8,c,rfl,hS1,hS2,hS6,hS7,bst,btp,q⟩:=h
 refine ⟨by decide,by decide,(Bd.lit (i:=12) (n:=4)).mono,?_⟩
 refine ⟨λΓ=>∃ A1:D,Γ=[.sh (uG room (yC S1) (yE S2) ws b st tp (yE S6) (yC S7) (zT S8)),.sh (.int (c.fdiv 12)),.sh (Rm room),.sh A1,.sh (yE S2),.sh (U (ws++[b])),.sh (.int st),.sh (.int tp),.sh (yE S6),.sh (yC S7),.sh (zT S8),.sh (.int (c.fmod 12)),.no]/\Fw 5 A1/\yO A1,w2 (λc1=>⟨_,_,rfl,.inl ⟨S1,rfl,hS1,λd fd ad=>⟨d,rfl,fd.mono,ad⟩⟩⟩) λc1=>⟨_,rfl,(qi (k:=1) hS1).1,(qi (k:=1) hS1).2⟩,?_⟩
 rintro Γ' ⟨A1,rfl,fA1,pA1⟩
 refine ⟨λΓ=>∃ A2:D,Γ=[.sh (uG room (yC S1) (yE S2) ws b st tp (yE S6) (yC S7) (zT S8)),.sh (.int (c.fdiv 12)),.sh (Rm room),.sh A1,.sh A2,.sh (U (ws++[b])),.sh (.int st),.sh (.int tp),.sh (yE S6),.sh (yC S7),.sh (zT S8),.sh (.int (c.fmod 12)),.no]/\Fw 5 A2/\y6 A2,w2 (λc1=>⟨_,_,rfl,.inr ⟨by decide,S2,rfl,hS2,λd fd ad=>⟨d,rfl,fd,ad⟩⟩⟩) λc1=>⟨_,rfl,(Xg hS2).1,(Xg hS2).2⟩,?_⟩
 rintro Γ' ⟨A2,rfl,fA2,pA2⟩
 refine ⟨λΓ=>∃ A6:D,Γ=[.sh (uG room (yC S1) (yE S2) ws b st tp (yE S6) (yC S7) (zT S8)),.sh (.int (c.fdiv 12)),.sh (Rm room),.sh A1,.sh A2,.sh (U (ws++[b])),.sh (.int st),.sh (.int tp),.sh A6,.sh (yC S7),.sh (zT S8),.sh (.int (c.fmod 12)),.no]/\Fw 5 A6/\y6 A6,w2 (λc1=>⟨_,_,rfl,.inr ⟨by decide,S6,rfl,hS6,λd fd ad=>⟨d,rfl,fd,ad⟩⟩⟩) λc1=>⟨_,rfl,(Xg hS6).1,(Xg hS6).2⟩,?_⟩
 rintro Γ' ⟨A6,rfl,fA6,pA6⟩
 refine ⟨λΓ=>∃ A7:D,Γ=[.sh (uG room (yC S1) (yE S2) ws b st tp (yE S6) (yC S7) (zT S8)),.sh (.int (c.fdiv 12)),.sh (Rm room),.sh A1,.sh A2,.sh (U (ws++[b])),.sh (.int st),.sh (.int tp),.sh A6,.sh A7,.sh (zT S8),.sh (.int (c.fmod 12)),.no]/\Fw 5 A7/\yO A7,w2 (λc1=>⟨_,_,rfl,.inl ⟨S7,rfl,hS7,λd fd ad=>⟨d,rfl,fd.mono,ad⟩⟩⟩) λc1=>⟨_,rfl,(qi (k:=1) hS7).1,(qi (k:=1) hS7).2⟩,?_⟩
 rintro Γ' ⟨A7,rfl,fA7,pA7⟩
 refine ⟨λΓ=>∃ st':Int,Γ=[.sh (uG room (yC S1) (yE S2) ws b st tp (yE S6) (yC S7) (zT S8)),.sh (.int (c.fdiv 12)),.sh (Rm room),.sh A1,.sh A2,.sh (U (ws++[b])),.sh (.int st'),.sh (.int tp),.sh A6,.sh A7,.sh (zT S8),.sh (.int (c.fmod 12)),.no]/\Bd 300 st',w2 (λc1=>⟨_,rfl,(uH bst (by decide)).1⟩) λc1=>⟨_,rfl,bst.mono⟩,?_⟩
 rintro Γ' ⟨st',rfl,bst'⟩
 refine ⟨λΓ=>∃ tp':Int,Γ=[.sh (uG room (yC S1) (yE S2) ws b st tp (yE S6) (yC S7) (zT S8)),.sh (.int (c.fdiv 12)),.sh (Rm room),.sh A1,.sh A2,.sh (U (ws++[b])),.sh (.int st'),.sh (.int tp'),.sh A6,.sh A7,.sh (zT S8),.sh (.int (c.fmod 12)),.no]/\Bd 300 tp',w2 (λc1=>⟨_,rfl,(uH btp (by decide)).2⟩) λc1=>⟨_,rfl,btp.mono⟩,?_⟩
 rintro Γ' ⟨tp',rfl,btp'⟩
 exact ⟨k0,k0,k0,q A1 A2 A6 A7 st' tp' fA1 fA2 fA6 fA7 pA1 pA2 pA6 pA7 bst' btp'⟩
theorem zP5 {k:Nat} {f:Addr} {fd:FuncData} (F:zc K "law" "law" j7 f fd) (B:Bl mg) (bX:Fn P w K mg base "_law_drift" ["_law_script"] (k + 1) (zI (zNt))) (bY:Fn P w K mg base "_law_falling" ["_law_spec","_law_goal","_law_often","_law_step","_law_cell"] (k + 1) (zI (zI7))) (aq:Fn P w K mg base "_law_cell_at" ["_law_script","_law_k"] (k + 1) (zI (U4))) (bZ:Fn P w K mg base "_law_spoilt" ["_law_parts","_law_cell"] (k + 1) (zI (zQP))) (b7:Fn P w K mg base "_law_fall_parts" ["_law_spec","_law_goal","_law_often","_law_step","_law_told"] (k + 1) (zI (zNm))) (b8:uL P w K mg base aFalls ["self","room","starts","steps","measure","step","top","falls","floors","tops"] k (vG aFalls (zLe aFalls))) (b9:Fn P w K mg base "lets_by" ["thing","claim","paper"] (k + 1) (zI (zNp ag af aComes aFalls))) (ca:uL P w K mg base aComes ["self","start","goal","turns"] k (vG aComes (zLg aComes))) (cb:Fn P w K mg base "_law_rows" ["_law_box_here"] (k + 1) (zI (zQQ))) (cc:Fn P w K mg base "_law_made" ["_law_spec"] (k + 1) (zI (zQR ag af))) (cf:Fn P w K mg base "_law_run" ["_law_spec","_law_point_here","_law_cells"] (k + 1) (zI (Zr))) (aL:Fn P w K mg base "_law_point" ["_law_cell","_law_box_here"] (k + 1) (zI (JZ))) (aK:Fn P w K mg base "_law_lies" ["_law_room","_law_point_here"] (k + 1) (zI (JS))):zH P w K mg base zW (k + 1 + 1) f fd ["_law_script"] (zI (uu)):=by
 refine zm F xv (λds R h=>by obtain ⟨ns,rfl,_⟩:=h; rfl) λcdv A outer s H E hr=>⟨_,(zJ (vc (zO bX hr rfl (zB (zA 0) zC)) (xI rfl (zY 1 xv.nd rfl (Or.inl rfl) (zY 2 xv.nd rfl (Or.inl rfl) (zY 3 xv.nd rfl (Or.inl rfl) (zY 4 xv.nd rfl (Or.inl rfl) xH))))))
  (zJ (zg 5 xv.nd rfl (Or.inl rfl) (zO bY hr rfl (zB (zA 1) (zB (zA 2) (zB (zA 3) (zB (zA 4) (zB (zO aq hr rfl (zB (zA 0) (zB zD zC))) zC)))))))
  (vb (zg 6 xv.nd rfl (Or.inl rfl) (zO bZ hr rfl (zB (zO b7 hr rfl (zB (zA 1) (zB (zA 2) (zB (zA 3) (zB (zA 4) (zB (zA 5) zC)))))) (zB (zO aq hr rfl (zB (zA 0) (zB zD zC))) zC))))
  (zJ (vc (yk (zA 6) yn (ya zD)) (xI rfl (zY 7 xv.nd rfl (Or.inl rfl) (zY 8 xv.nd rfl (Or.inl rfl) (zY 9 xv.nd rfl (Or.inl rfl) (zY 10 xv.nd rfl (Or.inl rfl) xH))))))
  (zJ (vc (yk (zA 6) (ya zD) yn) (xI rfl (zY 4 xv.nd rfl (Or.inl rfl) (zY 11 xv.nd rfl (Or.inl rfl) (zY 12 xv.nd rfl (Or.inl rfl) (zY 13 xv.nd rfl (Or.inl rfl) (zY 14 xv.nd rfl (Or.inl rfl) xH)))))))
  (zJ (zg 15 xv.nd rfl (Or.inl rfl) (Yu b8 TFalls hr rfl (zB (zA 7) (zB (zA 8) (zB (zA 9) (zB (zA 10) (zB (zA 4) (zB (zA 11) (zB (zA 12) (zB (zA 13) (zB (zA 14) zC)))))))))))
  (vb (vc (xA (zB (zP (zA 5) zD (λ_ _=>rfl)) (zB (zP (zA 5) zD (λ_ _=>rfl)) (zB (zP (zA 5) zD (λ_ _=>rfl)) zC)))) (xI rfl (zY 16 xv.nd rfl (Or.inl rfl) (zY 17 xv.nd rfl (Or.inr rfl) (zY 18 xv.nd rfl (Or.inl rfl) xH)))))
  (zJ (yB (yy (yY (zO b9 hr rfl (zB (zO cc hr rfl (zB (zA 1) zC)) (zB (Yu ca TComes hr rfl (zB (zO cb hr rfl (zB (zA 16) zC)) (zB (xB vk vn rfl B.list_ wA (zB (zA 17) zC)) (zB (zA 18) zC)))) (zB (zA 15) zC)))))) (zM (zS xP)) yA)
  (zJ (zg 19 xv.nd rfl (Or.inl rfl) (zO cf hr rfl (zB (zA 1) (zB (zO aL hr rfl (zB (zO aq hr rfl (zB (zA 0) (zB zD zC))) (zB (zA 16) zC))) (zB (zKZ (zA 0) (ya zD) (ya zD)) zC)))))
  (zJ (yB (Wq (zj yQ yS rfl B.len_ yR (zB (zA 19) zC)) (zA 18)) (zM (zS xP)) yA)
  (zM (zS (zj (zNI rfl) zOr rfl B.any_ zLt (zB (yT (own:=["_law_point_here"]) (caps:=[(17,"_law_aims")]) (yF (S:=zK j7) (N:=["_law_script","_law_spec","_law_goal","_law_often","_law_step","_law_told","_law_parts","_law_room","_law_starts","_law_steps","_law_measure","_law_top_here","_law_falls","_law_floors","_law_tops","_law_paper","_law_box_here","_law_aims","_law_turns","_law_points"]) rfl (by decide +kernel) rfl ⟨_,rfl⟩ rfl (by decide +kernel) (by decide +kernel)) rfl rfl yU (yt (yk (zA 19) yn (ya (zU (zA 18) zD)))) (λ_ _ _ _=>(zz 0 (show (["_law_point_here","_law_aims"]:List Str).Nodup by decide +kernel) rfl (Or.inl rfl))) (λ_ _ _ _=>(zO aK hr rfl (zB (zA 1) (zB (zA 0) zC))))) zC)))))))))))))),λds R h=>?_⟩
 obtain ⟨ns,rfl,q⟩:=h
 refine ⟨ns,rfl,λn bs ms u goal often step dr=>?_⟩
 have n3:=dr.ok.n3
 refine ⟨ns,2,rfl,by decide,λc2=>⟨n,bs,ms,u,goal,often,step,c2,rfl,dr,λbox room aims ws b tp tu fl=>?_⟩⟩
 refine ⟨λΓ=>∃ A1 A2 A6 A7 st' tp' A8,Γ=[.sh (.scr ns),.sh (vP n bs ms u),.sh (L goal),.sh (.int often),.sh (.int step),.sh (j2 box room aims ws b tp tu),.sh (uG room A1 A2 ws b st' tp' A6 A7 A8),.no,.no,.no,.no,.no,.no,.no,.no,.no,.no,.no,.no,.no]/\Fw 5 A1/\Fw 5 A2/\Fw 5 A6/\Fw 5 A7/\Fw 5 A8/\yO A1/\y6 A2/\y6 A6/\yO A7/\uP A8/\Bd 300 st'/\Bd 300 tp',⟨n,bs,ms,u,goal,often,step,box,room,aims,ws,b,tp,tu,rfl,dr,fl,λS1 S2 S6 S7 S8 h1 h2 h6 h7 h8=>⟨ns,3,rfl,by decide,λc3=>⟨room,S1,S2,ws,b,step,tp,S6,S7,S8,c3,rfl,h1,h2,h6,h7,dr.bst.mono,fl.bt.mono,λA1 A2 A6 A7 st' tp' f1 f2 f6 f7 p1 p2 p6 p7 b1 b2=>⟨A1,A2,A6,A7,st',tp',zT S8,rfl,f1,f2,f6,f7,(Xe h8).1.mono,p1,p2,p6,p7,(Xe h8).2,b1,b2⟩⟩⟩⟩,?_⟩
 rintro Γ' ⟨A1,A2,A6,A7,st',tp',A8,rfl,f1,f2,f6,f7,f8,p1,p2,p6,p7,p8,bst,btp⟩
 have BX:=zQf fl.lb n3 fl.hb
 have lw:=fl.lw
 have r1:=fl.r1
 have a2:=fl.a2
 have RS:wD (jI box) n:=⟨λr hr=>⟨(BX.2 r hr).1,λx hx=>((BX.2 r hr).2 x hx).mono⟩,BX.1⟩
 have RG:wD aims n:=⟨λr hr=>⟨(fl.am r hr).1,λx hx=>((fl.am r hr).2 x hx).mono⟩,by omega⟩
 have RM:wD room n:=⟨λr hr=>⟨(fl.rm r hr).1,λx hx=>((fl.rm r hr).2 x hx).mono⟩,by omega⟩
 have TS:jF n bs ms:=⟨dr.ok,λm hm=>(dr.hms m hm).ms (by decide),λb hb=>⟨(dr.hbs b hb).1.mono,(dr.hbs b hb).2.mono⟩⟩
 have PS:qc n room ws b st' tp':=⟨RM,lw,λx hx=>(fl.bw x hx).mono,fl.bb.mono,bst,btp⟩
 have FR:∀ {rr:List (List Int)},wD rr n->Fw 5 (Rm rr):=λh=>qY (by have:=h.few; omega) (λr hr=>by rw [(h.row r hr).1]; omega)
 have bu:Bd 300 tu:=fl.bu.mono
 refine ⟨_,_,_,_,_,_,_,_,_,rfl,FR RM,f1,f2,ju (by rw [List.length_append]; show _ + 1<=900; omega),f6,f7,f8,?_⟩
 refine ⟨λΓ=>Γ=[.sh (.scr ns),.sh (vP n bs ms u),.sh (L goal),.sh (.int often),.sh (.int st'),.sh (j2 box room aims ws b tp tu),.sh (uG room A1 A2 ws b st' tp' A6 A7 A8),.sh (Rm room),.sh A1,.sh A2,.sh (U (ws++[b])),.sh (.int tp'),.sh A6,.sh A7,.sh A8,.sh (.obj aFalls Ul [Rm room,A1,A2,U (ws++[b]),.int st',.int tp',A6,A7,A8]),.sh (.lst (box.map zw)),.sh (Rm aims),.sh (.int tu),.no],⟨_,rfl,_,rfl,_,rfl,k0,rfl⟩,?_⟩
 rintro Γ' rfl
 have lb:=fl.lb
 refine ⟨n,bs,ms,u,rfl,dr.ok,box,rfl,by omega,_,_,_,rfl,FR RS,FR RG,n,bs,ms,jI box,aims,tu,room,A1,A2,ws,b,st',tp',A6,A7,A8,5,rfl,TS,PS,RG,RS,fl.t0,bu,f1,f2,f6,f7,f8,p1,p2,p6,p7,p8,dr.cl,w2 (λc1=>q) λc1=>?_⟩
 have hL:=ug c1
 refine ⟨ns,4,rfl,by decide,λc4=>⟨c4,box,rfl,by omega,λb hb=>⟨fl.ord b hb,fl.hb b hb⟩,λxs lx hx sx=>?_⟩⟩
 refine ⟨n,bs,ms,u,xs,zV ns (some 5) (some 35),by rw [zOq],dr.ok,λm hm=>⟨dr.hms m hm,dr.dv m hm⟩,dr.hbs,dr.b2,dr.m3,zQb ns,by rw [lx]; exact lb,sx,λps l1 l31 p0 RL szs=>?_⟩
 have lp:(List.map dP ps).length=ps.length:=List.length_map ..
 have t0:=fl.t0
 refine w2 (λc2=>q) λc2=>?_
 have lt:tu < (ps.length:Int):=by have:=of_decide_eq_false c2; omega
 have e:zV (ps.map dP) none (some (tu + 1))=(ps.take (tu + 1).toNat).map dP:=by rw [zQZ (by omega),List.map_take]
 refine zk.cast e (vd dP ptV Zs (λp=>.bool (aims.all (hQ p))) (by rw [List.length_take]; omega) (λp hp=>?_) ⟨(ps.take (tu + 1).toNat).map λp=>aims.all (hQ p),by rw [List.map_map]; rfl,bR q ?_⟩)
 ·obtain ⟨Q,ee,qq,PT⟩:=szs p (List.mem_of_mem_take hp)
  exact ⟨aims,n,p,Q,ee,qq,rfl,by omega,λr hr=>⟨(fl.am r hr).1,λw hw=>((fl.am r hr).2 w hw).mono⟩,PT,rfl⟩
 ·have h0:∀ r∈jI box,yg n (λj=>(ps.getD 0 []).getD j 0) r:=by
   rw [p0,<- lb]
   exact zNK hx
  obtain ⟨t,ht,hg⟩:=Zc (P:=λt j=>(ps.getD t []).getD j 0) dr.ok.mok hL lw (λr hr=>(RM.row r hr).1) (λr hr=>(RG.row r hr).1) t0 h0 (λt ht=>RL t (by omega))
  have hp:ps.getD t []∈ps:=ut (by omega)
  obtain ⟨Q,ee,qq,PT⟩:=szs _ hp
  have hm:ps.getD t []∈ps.take (tu + 1).toNat:=by
   rw [List.getD_eq_getElem?_getD,List.getElem?_eq_getElem (by omega)]
   exact List.mem_take_iff_getElem.mpr ⟨t,by omega,rfl⟩
  rw [List.any_map]
  exact (List.any_eq_true.mpr ⟨_,hm,List.all_eq_true.mpr λr hr=>(zLF PT.len (RG.row r hr).1).mpr (hg r hr)⟩).symm
end
end K54
namespace L2
open PySem PySem.Spec PyProof.Rows
theorem Jd {α:Type} {P:List α->Prop} (h:∀ x0:α,P [x0]):∀ us:List α,us.length=1->P us
 | [x0],_=>h x0
theorem Xp {α:Type} {P:List α->Prop} (h:∀ x0 x1:α,P [x0,x1]):∀ us:List α,us.length=2->P us
 | [x0,x1],_=>h x0 x1
theorem Xq {α:Type} {P:List α->Prop} (h:∀ x0 x1 x2:α,P [x0,x1,x2]):∀ us:List α,us.length=3->P us
 | [x0,x1,x2],_=>h x0 x1 x2
theorem Je {α:Type} {P:List α->Prop} (h:∀ x0 x1 x2 x3:α,P [x0,x1,x2,x3]):∀ us:List α,us.length=4->P us
 | [x0,x1,x2,x3],_=>h x0 x1 x2 x3
theorem Jf {α:Type} {P:List α->Prop} (h:∀ x0 x1 x2 x3 x4:α,P [x0,x1,x2,x3,x4]):∀ us:List α,us.length=5->P us
 | [x0,x1,x2,x3,x4],_=>h x0 x1 x2 x3 x4
theorem Jg {α:Type} {P:List α->Prop} (h:∀ x0 x1 x2 x3 x4 x5 x6:α,P [x0,x1,x2,x3,x4,x5,x6]):∀ us:List α,us.length=7->P us
 | [x0,x1,x2,x3,x4,x5,x6],_=>h x0 x1 x2 x3 x4 x5 x6
theorem Jh {α:Type} {P:List α->Prop} (h:∀ x0 x1 x2 x3 x4 x5 x6 x7 x8 x9:α,P [x0,x1,x2,x3,x4,x5,x6,x7,x8,x9]):∀ us:List α,us.length=10->P us
 | [x0,x1,x2,x3,x4,x5,x6,x7,x8,x9],_=>h x0 x1 x2 x3 x4 x5 x6 x7 x8 x9
structure Gf (K:W.Frag) (x:Str) (st:Stmt) (f:Addr) (fd:FuncData):Prop where
 at_:W.nsIn K mainGlobals x=some (some (.ref f))
 F:zc K x x st f fd
abbrev Ge (K:W.Frag) (x:Str) (st:Stmt):Prop:=∃ f fd,Gf K x st f fd
structure Gm (K:W.Frag) (C:Addr) (x q:Str) (st:Stmt) (f:Addr) (fd:FuncData):Prop where
 at_:W.findIn K (.ref C) x=some (some (.ref f))
 fn:W.isFn K (.ref f)=true
 F:zc K x q st f fd
abbrev Gn (K:W.Frag) (C:Addr) (x q:Str) (st:Stmt):Prop:=∃ f fd,Gm K C x q st f fd
structure Gd (K:W.Frag) (x:Str) (st:Stmt) (f:Addr) (fd:FuncData) (d:Value):Prop where
 at_:W.nsIn K mainGlobals x=some (some (.ref f))
 F:xU K x x st f fd d
abbrev Gi (K:W.Frag) (x:Str) (st:Stmt) (i:Int):Prop:=∃ f fd t,Gd K x st f fd (.int i t)
structure Gc (K:W.Frag) (x:Str) (C:Addr):Prop where
 nm:W.nsIn K mainGlobals x=some (some (.ref C))
 pg:W.plainGet K C Str.empty=true
 hd:W.hasDictIn K C=true
 po:W.plainOver K C=true
 sa:W.findIn K (.ref C) "__setattr__" = some (some (.builtin "object.__setattr__"))
 mk_:W.makesIn K C=true
 kc:W.keepIn K (.ref C)=true
 ha:W.findIn K (.ref C) "__class__" = some (some (.builtin "object.__class__"))
 hn:W.specialIn K (.builtin "object.__class__") "__get__" = some (some (.builtin "getset_descriptor.__get__"))
 tk:W.takesIn K (.builtin "object.__class__")=some true
 hm:W.mroIn K C (.type "object")=some true
section
variable {P:Program} {w:World} {K:W.Frag} {mg:Str->Option Value} {base h:Heap} {x q:Str} {st:Stmt} {f C T:Addr} {fd:FuncData} {ps:List Str} {k:Nat} {sp:Sp} {oc kV doc pm cdv ct oT:Value} {od an dT:Option Addr} {osl sT:Array (Option Value)}
theorem Zu (a:W.nsIn K mainGlobals x=some (some (.ref f))) (l:K.lookup f=some ⟨oc,od,.func (W.fnOf x x (wm st) (xh st) (zK st) .none kV doc pm an cdv ct),osl⟩) (c:W.codeIn K cdv x=true) (k:W.keepIn K (.ref f)=true):Ge K x st:=⟨f,_,a,Qf l c k⟩
theorem Zv (a:W.findIn K (.ref C) x=some (some (.ref f))) (i:W.isFn K (.ref f)=true) (l:K.lookup f=some ⟨oc,od,.func (W.fnOf x q (wm st) (xh st) (zK st) .none kV doc pm an cdv ct),osl⟩) (c:W.codeIn K cdv q=true) (k:W.keepIn K (.ref f)=true):Gn K C x q st:=⟨f,_,a,i,Qf l c k⟩
theorem Zw {i:Int} {t:Tok} {n:Nat} (a:W.nsIn K mainGlobals x=some (some (.ref f))) (l:K.lookup f=some ⟨oc,od,.func (W.fnOf x x (wm st) (xh st) (zK st) (.ref T) kV doc pm an cdv ct),osl⟩) (c:W.codeIn K cdv x=true) (k:W.keepIn K (.ref f)=true) (d:K.lookup T=some ⟨oT,dT,.seq #[.int i t] n,sT⟩):Gi K x st i:=⟨f,_,t,a,zOb l c k d rfl⟩
theorem Gc.cls (g:Gc K x C) (X:K.In h) (G:h.Ns mainGlobals mg):zE K mg x C:=⟨⟨g.pg,g.hd,g.po,g.sa⟩,W.mg_of X G g.nm,g.ha,g.hn,g.tk,g.hm⟩
abbrev Bn (x q:Str) (st:Stmt) (ps:List Str):Prop:=∀ (kV doc pm:Value) (an:Option Addr) (cdv ct:Value) (us:List Value),us.length=ps.length->bindArgs (W.fnOf x q (wm st) (xh st) (zK st) .none kV doc pm an cdv ct) ⟨us,[]⟩=pure (ps.zip us)
structure Wh (P:Program) (w:World) (K:W.Frag) (mg:Str->Option Value) (base h:Heap):Prop where
 X:K.In h
 G:h.Ns mainGlobals mg
theorem Gf.fn (g:Gf K x st f fd) (Y:Wh P w K mg base h) (o:zH P w K mg base zW k f fd ps sp) (b:Bn x x st ps:=by intro _ _ _ _ _ _; first | exact L2.Jd λ_=>rfl | exact L2.Xp λ_ _=>rfl | exact L2.Xq λ_ _ _=>rfl | exact L2.Je λ_ _ _ _=>rfl | exact L2.Jf λ_ _ _ _ _=>rfl | exact L2.Jg λ_ _ _ _ _ _ _=>rfl | exact L2.Jh λ_ _ _ _ _ _ _ _ _ _=>rfl):Fn P w K mg base x ps k sp:=⟨f,fd,o,W.mg_of Y.X Y.G g.at_,g.F.kp,g.F.binds b⟩
theorem Gm.fm (g:Gm K C x q st f fd) (_:Wh P w K mg base h) (o:zH P w K mg base zW k f fd ps sp) (b:Bn x q st ps:=by intro _ _ _ _ _ _; first | exact L2.Jd λ_=>rfl | exact L2.Xp λ_ _=>rfl | exact L2.Xq λ_ _ _=>rfl | exact L2.Je λ_ _ _ _=>rfl | exact L2.Jf λ_ _ _ _ _=>rfl | exact L2.Jg λ_ _ _ _ _ _ _=>rfl | exact L2.Jh λ_ _ _ _ _ _ _ _ _ _=>rfl):v4 P w K mg base C x ps k sp:=⟨f,fd,o,⟨g.at_,g.fn,g.F.kp⟩,g.F.binds b⟩
theorem Gm.fc {y:Str} (g:Gm K C "__init__" q st f fd) (_:Wh P w K mg base h) (c:Gc K y C) (o:zH P w K mg base zW k f fd ps sp) (b:Bn "__init__" q st ps:=by intro _ _ _ _ _ _; first | exact L2.Jd λ_=>rfl | exact L2.Xp λ_ _=>rfl | exact L2.Xq λ_ _ _=>rfl | exact L2.Je λ_ _ _ _=>rfl | exact L2.Jf λ_ _ _ _ _=>rfl | exact L2.Jg λ_ _ _ _ _ _ _=>rfl | exact L2.Jh λ_ _ _ _ _ _ _ _ _ _=>rfl):uL P w K mg base C ps k sp:=⟨f,fd,o,⟨c.mk_,g.at_,g.fn,c.kc⟩,g.F.binds b⟩
theorem Gd.fn {i:Int} {t:Tok} (g:Gd K x st f fd (.int i t)) (Y:Wh P w K mg base h) (b:∀ (T:Addr) (kV doc pm:Value) (an:Option Addr) (cdv ct:Value) (us:List Value),us.length=ps.length->∃ k:Option (Array Value)->Sem (List (Str × Value)),bindArgs (W.fnOf x x (wm st) (xh st) (zK st) (.ref T) kV doc pm an cdv ct) ⟨us,[]⟩=seqItems? (.ref T) >>= k/\k (some #[.int i t])=pure (ps.zip us))
  (d:∀ (T:Addr) (kV doc pm:Value) (an:Option Addr) (cdv ct:Value) (us:List Value),us.length + 1=ps.length->∃ k:Option (Array Value)->Sem (List (Str × Value)),bindArgs (W.fnOf x x (wm st) (xh st) (zK st) (.ref T) kV doc pm an cdv ct) ⟨us,[]⟩=seqItems? (.ref T) >>= k/\k (some #[.int i t])=pure (ps.zip (us++[.int i t]))) (o:zH P w K mg base zW k f fd ps sp):vU P w K mg base x ps k sp (.int i):=
 ⟨f,fd,_,o,W.mg_of Y.X Y.G g.at_,g.F.kp,g.F.binds b,g.F.binds1 d,⟨_,rfl⟩⟩
end
end L2
namespace K54
open PySem L2 Sh Pu
theorem Ji {F:FL} (h:∀ ds R,¬ F ds R):∀ vs H Q E,¬ zI F vs H Q E:=λ_ _ _ _ ⟨_,ds,R,_,_,f,_⟩=>h ds R f
abbrev zFG:Stmt:=zi 54
theorem zNE:∀ ds R,¬ jq 0 ds R:=λ_ _ ⟨_,_,_,h,_⟩=>by cases h
theorem all_mk {l:W.OpenLaw} {w:World} {K:W.Frag} {h:Heap} {mg:Str->Option Value} {fa:Addr} (X:K.In h) (G:h.Ns mainGlobals mg) (hfa:mg "law" = some (.ref fa))
  {aClaim aSettles aComes af ag aPaper aRooms aFalls:Addr}
  (GClaim:Gc K "Claim" aClaim)
  (GSettles:Gc K "Settles" aSettles)
  (GComes:Gc K "Comes" aComes)
  (GMode:Gc K "Mode" af)
  (GThing:Gc K "Thing" ag)
  (GPaper:Gc K "Paper" aPaper)
  (GRooms:Gc K "Rooms" aRooms)
  (GFalls:Gc K "Falls" aFalls)
  (n_start_Settles:W.findIn K (.ref aSettles) "start" = some none)
  (n_rows_Settles:W.findIn K (.ref aSettles) "rows" = some none)
  (n_turn_Settles:W.findIn K (.ref aSettles) "turn" = some none)
  (n_start_Comes:W.findIn K (.ref aComes) "start" = some none)
  (n_goal_Comes:W.findIn K (.ref aComes) "goal" = some none)
  (n_turns_Comes:W.findIn K (.ref aComes) "turns" = some none)
  (cg:W.findIn K (.ref af) "rows" = some none)
  (ci:W.findIn K (.ref af) "nexts" = some none)
  (cj:W.findIn K (.ref af) "steer" = some none)
  (ck:W.findIn K (.ref af) "push" = some none)
  (cn:W.findIn K (.ref af) "add" = some none)
  (cq:W.findIn K (.ref af) "divisor" = some none)
  (cr:W.findIn K (.ref ag) "many" = some none)
  (cu:W.findIn K (.ref ag) "kept_pushes" = some none)
  (cv:W.findIn K (.ref ag) "kept_modes" = some none)
  (n_rooms_Rooms:W.findIn K (.ref aRooms) "rooms" = some none)
  (n_back_Rooms:W.findIn K (.ref aRooms) "back" = some none)
  (n_starts_Rooms:W.findIn K (.ref aRooms) "starts" = some none)
  (n_steps_Rooms:W.findIn K (.ref aRooms) "steps" = some none)
  (n_stays_Rooms:W.findIn K (.ref aRooms) "stays" = some none)
  (n_room_Falls:W.findIn K (.ref aFalls) "room" = some none)
  (n_starts_Falls:W.findIn K (.ref aFalls) "starts" = some none)
  (n_steps_Falls:W.findIn K (.ref aFalls) "steps" = some none)
  (n_measure_Falls:W.findIn K (.ref aFalls) "measure" = some none)
  (n_step_Falls:W.findIn K (.ref aFalls) "step" = some none)
  (n_top_Falls:W.findIn K (.ref aFalls) "top" = some none)
  (n_falls_Falls:W.findIn K (.ref aFalls) "falls" = some none)
  (n_floors_Falls:W.findIn K (.ref aFalls) "floors" = some none)
  (n_tops_Falls:W.findIn K (.ref aFalls) "tops" = some none)
  (w_Comes_Settles:W.kitOne K (.ref aComes) (.ref aSettles)=some false)
  (z0:W.nsIn K mainGlobals "isinstance" = some none)
  (z1:W.nsIn K mainGlobals "int" = some none)
  (z2:W.nsIn K mainGlobals "bool" = some none)
  (z3:W.nsIn K mainGlobals "tuple" = some none)
  (z4:W.nsIn K mainGlobals "len" = some none)
  (z5:W.nsIn K mainGlobals "all" = some none)
  (z6:W.nsIn K mainGlobals "list" = some none)
  (z7:W.nsIn K mainGlobals "range" = some none)
  (z8:W.nsIn K mainGlobals "zip" = some none)
  (z9:W.nsIn K mainGlobals "sum" = some none)
  (z10:W.nsIn K mainGlobals "max" = some none)
  (z11:W.nsIn K mainGlobals "enumerate" = some none)
  (z12:W.nsIn K mainGlobals "abs" = some none)
  (z13:W.nsIn K mainGlobals "any" = some none)
  {gt0:Tok} (cst0:W.nsIn K mainGlobals "MOST_NUMBERS" = some (some (.int 3 gt0)))
  {gt1:Tok} (cst1:W.nsIn K mainGlobals "MOST_PUSHES" = some (some (.int 6 gt1)))
  {gt2:Tok} (cst2:W.nsIn K mainGlobals "MOST_MODES" = some (some (.int 40 gt2)))
  : Ge K "is_whole" US->Ge K "is_numbers" Yy->Ge K "is_table" Yz->Gi K "copied" ko 5->Gi K "unit" Y0 1->Ge K "scaled" Y1->Ge K "mixed" Y2->Ge K "paired" Y3->Ge K "added_up" Y4->Ge K "is_row" Y5->Ge K "is_room" Y6->Ge K "single" UT->Ge K "other_side" Y7->Gn K af "__init__" "Mode.__init__" UX->Ge K "is_push" UY->Ge K "is_mode" UZ->Ge K "is_sound" ku->Gn K ag "__init__" "Thing.__init__" Ua->Gn K ag "pushes" "Thing.pushes" Ub->Gn K ag "modes" "Thing.modes" Uc->Ge K "is_unsteered" XC->Gn K ag "is_closed" "Thing.is_closed" XD->Ge K "ask_closed" Ud->Ge K "standing" ZG->Ge K "reach" Um->Ge K "added" Up->Ge K "is_from_0_on" Uq->Ge K "are_shares" XJ->Ge K "shows" XM->Ge K "is_list_of" Ut->Ge K "each_shown" XN->Ge K "mode_leads" XO->Ge K "leads" XQ->Gn K aComes "__init__" "Comes.__init__" Uu->Gn K aFalls "__init__" "Falls.__init__" Uv->Ge K "comes_over" Uw->Ge K "height_at_most" Ux->Ge K "height_from_0_on" XR->Ge K "fall_row" Uy->Ge K "floors_hold" XS->Ge K "mode_falls" XT->Ge K "falls_hold" XU->Ge K "lets_fall_by" U1->Ge K "lets_rooms_by" zFG->Ge K "lets_by" U2->Ge K "_law_cell_at" U7->Ge K "_law_stream" U8->Ge K "_law_number" U9->Ge K "_law_box" JA->Ge K "_law_rows" ZN->Ge K "_law_top" JC->Ge K "_law_both" JD->Ge K "_law_made" ZT->Ge K "_law_drift_mode" uQ->Ge K "_law_drift" XZ->Ge K "_law_pushed" Xa->Ge K "_law_falling" Xb->Ge K "_law_fall_parts" ZX->Ge K "_law_other" JH->Ge K "_law_changed" JI->Ge K "_law_divisor" JU->Ge K "_law_lowest" JV->Ge K "_law_plus" JW->Ge K "_law_along" JX->Ge K "_law_holds" JY->Ge K "_law_lies" Xm->Ge K "_law_point" Ja->Ge K "_law_behind" Jb->Ge K "_law_run" Xo->Ge K "_law_spoilt" Jc->Ge K "law" j7->∃ fd:FuncData,(∀ (s:Shared) (v:Value),BindsTo s fd ⟨[v],[]⟩ [("_law_script",v)])/\∀ base:Heap,K.In base->base.Ns mainGlobals mg->zH l.prog w K mg base zW 10 fa fd ["_law_script"] (zI uu):=by
 rintro ⟨_,_,G0⟩ ⟨_,_,G1⟩ ⟨_,_,G2⟩ ⟨_,_,_,G3⟩ ⟨_,_,_,G4⟩ ⟨_,_,G5⟩ ⟨_,_,G6⟩ ⟨_,_,G7⟩ ⟨_,_,G8⟩ ⟨_,_,G9⟩ ⟨_,_,G10⟩ ⟨_,_,G11⟩ ⟨_,_,G12⟩ ⟨_,_,G13⟩ ⟨_,_,G14⟩ ⟨_,_,G15⟩ ⟨_,_,G16⟩ ⟨_,_,G17⟩ ⟨_,_,G18⟩ ⟨_,_,G19⟩ ⟨_,_,G20⟩ ⟨_,_,G21⟩ ⟨_,_,G22⟩ ⟨_,_,G23⟩ ⟨_,_,G24⟩ ⟨_,_,G25⟩ ⟨_,_,G26⟩ ⟨_,_,G27⟩ ⟨_,_,G28⟩ ⟨_,_,G29⟩ ⟨_,_,G30⟩ ⟨_,_,G31⟩ ⟨_,_,G32⟩ ⟨_,_,G33⟩ ⟨_,_,G34⟩ ⟨_,_,G35⟩ ⟨_,_,G36⟩ ⟨_,_,G37⟩ ⟨_,_,G38⟩ ⟨_,_,G39⟩ ⟨_,_,G40⟩ ⟨_,_,G41⟩ ⟨_,_,G42⟩ ⟨_,_,G43⟩ ⟨_,_,G44⟩ ⟨_,_,G45⟩ ⟨_,_,G46⟩ ⟨_,_,G47⟩ ⟨_,_,G48⟩ ⟨_,_,G49⟩ ⟨_,_,G50⟩ ⟨_,_,G51⟩ ⟨_,_,G52⟩ ⟨_,_,G53⟩ ⟨_,_,G54⟩ ⟨_,_,G55⟩ ⟨_,_,G56⟩ ⟨_,_,G57⟩ ⟨_,_,G58⟩ ⟨_,_,G59⟩ ⟨_,_,G60⟩ ⟨_,_,G61⟩ ⟨_,_,G62⟩ ⟨_,_,G63⟩ ⟨_,_,G64⟩ ⟨_,_,G65⟩ ⟨_,_,G66⟩ ⟨_,_,G67⟩ ⟨_,_,G68⟩ ⟨_,_,G69⟩ ⟨_,_,G70⟩
 have e:=hfa.symm.trans (W.mg_of X G G70.at_)
 cases e
 have B:Bl mg:=⟨W.mg_none_of X G z0,W.mg_none_of X G z1,W.mg_none_of X G z2,W.mg_none_of X G z3,W.mg_none_of X G z4,W.mg_none_of X G z5,W.mg_none_of X G z6,W.mg_none_of X G z7,W.mg_none_of X G z8,W.mg_none_of X G z9,W.mg_none_of X G z10,W.mg_none_of X G z11,W.mg_none_of X G z12,W.mg_none_of X G z13,⟨_,W.mg_of X G cst0⟩,⟨_,W.mg_of X G cst1⟩,⟨_,W.mg_of X G cst2⟩⟩
 have TClaim:=GClaim.cls X G
 have AClaim:wY K aClaim:=⟨True.intro⟩
 have TSettles:=GSettles.cls X G
 have ASettles:wZ K aSettles:=⟨n_start_Settles,n_rows_Settles,n_turn_Settles⟩
 have TComes:=GComes.cls X G
 have AComes:wa K aComes:=⟨n_start_Comes,n_goal_Comes,n_turns_Comes⟩
 have aa:=GMode.cls X G
 have ab:wb K af:=⟨cg,ci,cj,ck,cn,cq⟩
 have ac:=GThing.cls X G
 have ae:wc K ag:=⟨cr,cu,cv⟩
 have TPaper:=GPaper.cls X G
 have APaper:wd K aPaper:=⟨True.intro⟩
 have TRooms:=GRooms.cls X G
 have ARooms:we K aRooms:=⟨n_rooms_Rooms,n_back_Rooms,n_starts_Rooms,n_steps_Rooms,n_stays_Rooms⟩
 have TFalls:=GFalls.cls X G
 have AFalls:wf K aFalls:=⟨n_room_Falls,n_starts_Falls,n_steps_Falls,n_measure_Falls,n_step_Falls,n_top_Falls,n_falls_Falls,n_floors_Falls,n_tops_Falls⟩
 have Y:yd K aComes aSettles:=⟨w_Comes_Settles⟩
 obtain ⟨_,_,kV,dc,pm,an,cd,ct,_,rfl,_⟩:=G70.F.ex
 refine ⟨W.fnOf "law" "law" (wm j7) (xh j7) (zK j7) .none kV dc pm an cd ct,λs v=>.of_eq rfl,λbase _ _=>?_⟩
 have Yw:Wh l.prog w K mg base h:=⟨X,G⟩
 have N0:=G0.fn Yw (zIA (k:=0) TClaim AClaim TSettles ASettles TComes AComes aa ab ac ae TPaper APaper TRooms ARooms TFalls AFalls Y G0.F B )
 have N1:=G1.fn Yw (zGn (k:=1) TClaim AClaim TSettles ASettles TComes AComes aa ab ac ae TPaper APaper TRooms ARooms TFalls AFalls Y G1.F B N0.mono)
 have N2:=G2.fn Yw (zIB (k:=2) TClaim AClaim TSettles ASettles TComes AComes aa ab ac ae TPaper APaper TRooms ARooms TFalls AFalls Y G2.F B N1.mono)
 have D3:=λ{k sp}=>G3.fn (ps:=["value","depth"]) (k:=k) (sp:=sp) Yw (λ_ _ _ _ _ _ _=>L2.Xp λ_ _=>⟨_,rfl,rfl⟩) λ_ _ _ _ _ _ _ us hl=>match us,hl with | [_],_=>⟨_,rfl,rfl⟩
 have N3_0:=D3 (zH.no (k:=1) (sp:=(zI (jq 0))) (Ji zNE))
 have N3_1:=D3 (kq (k:=1) (j:=0) TClaim AClaim TSettles ASettles TComes AComes aa ab ac ae TPaper APaper TRooms ARooms TFalls AFalls Y G3.F B N3_0.mono)
 have N3_2:=D3 (kq (k:=2) (j:=1) TClaim AClaim TSettles ASettles TComes AComes aa ab ac ae TPaper APaper TRooms ARooms TFalls AFalls Y G3.F B N3_1.mono)
 have N3_3:=D3 (kq (k:=3) (j:=2) TClaim AClaim TSettles ASettles TComes AComes aa ab ac ae TPaper APaper TRooms ARooms TFalls AFalls Y G3.F B N3_2.mono)
 have N3_4:=D3 (kq (k:=4) (j:=3) TClaim AClaim TSettles ASettles TComes AComes aa ab ac ae TPaper APaper TRooms ARooms TFalls AFalls Y G3.F B N3_3.mono)
 have N3_5:=D3 (kq (k:=5) (j:=4) TClaim AClaim TSettles ASettles TComes AComes aa ab ac ae TPaper APaper TRooms ARooms TFalls AFalls Y G3.F B N3_4.mono)
 have N3:=N3_5
 have D4:=λ{k sp}=>G4.fn (ps:=["place","wide","number"]) (k:=k) (sp:=sp) Yw (λ_ _ _ _ _ _ _=>L2.Xq λ_ _ _=>⟨_,rfl,rfl⟩) λ_ _ _ _ _ _ _ us hl=>match us,hl with | [_,_],_=>⟨_,rfl,rfl⟩
 have N4:=D4 (zOU (k:=0) TClaim AClaim TSettles ASettles TComes AComes aa ab ac ae TPaper APaper TRooms ARooms TFalls AFalls Y G4.F B )
 have N5:=G5.fn Yw (zKs (k:=0) TClaim AClaim TSettles ASettles TComes AComes aa ab ac ae TPaper APaper TRooms ARooms TFalls AFalls Y G5.F B )
 have N6:=G6.fn Yw (zMt (k:=0) TClaim AClaim TSettles ASettles TComes AComes aa ab ac ae TPaper APaper TRooms ARooms TFalls AFalls Y G6.F B )
 have N7:=G7.fn Yw (zKt (k:=0) TClaim AClaim TSettles ASettles TComes AComes aa ab ac ae TPaper APaper TRooms ARooms TFalls AFalls Y G7.F B )
 have N8:=G8.fn Yw (zIE (k:=0) TClaim AClaim TSettles ASettles TComes AComes aa ab ac ae TPaper APaper TRooms ARooms TFalls AFalls Y G8.F B )
 have N9:=G9.fn Yw (zKz (k:=1) TClaim AClaim TSettles ASettles TComes AComes aa ab ac ae TPaper APaper TRooms ARooms TFalls AFalls Y G9.F B N0.mono)
 have N10:=G10.fn Yw (zJl (k:=2) TClaim AClaim TSettles ASettles TComes AComes aa ab ac ae TPaper APaper TRooms ARooms TFalls AFalls Y G10.F B N9.mono)
 have N11:=G11.fn Yw (zKr (k:=1) TClaim AClaim TSettles ASettles TComes AComes aa ab ac ae TPaper APaper TRooms ARooms TFalls AFalls Y G11.F B N4.mono)
 have N12:=G12.fn Yw (zGk (k:=0) TClaim AClaim TSettles ASettles TComes AComes aa ab ac ae TPaper APaper TRooms ARooms TFalls AFalls Y G12.F B )
 have N13:=G13.fc Yw GMode (zE1 (k:=6) TClaim AClaim TSettles ASettles TComes AComes aa ab ac ae TPaper APaper TRooms ARooms TFalls AFalls Y G13.F B N3.mono)
 have N14:=G14.fn Yw (zJm (k:=1) TClaim AClaim TSettles ASettles TComes AComes aa ab ac ae TPaper APaper TRooms ARooms TFalls AFalls Y G14.F B N0.mono)
 have N15:=G15.fn Yw (zJn (k:=3) TClaim AClaim TSettles ASettles TComes AComes aa ab ac ae TPaper APaper TRooms ARooms TFalls AFalls Y G15.F B N10.mono N2.mono N1.mono N0.mono)
 have N16:=G16.fn Yw (zIC (k:=4) TClaim AClaim TSettles ASettles TComes AComes aa ab ac ae TPaper APaper TRooms ARooms TFalls AFalls Y G16.F B N0.mono N14.mono N15.mono)
 have N17:=G17.fc Yw GThing (zEf (k:=5) TClaim AClaim TSettles ASettles TComes AComes aa ab ac ae TPaper APaper TRooms ARooms TFalls AFalls Y G17.F B N16.mono)
 have N18:=G18.fm Yw (zFW (k:=0) TClaim AClaim TSettles ASettles TComes AComes aa ab ac ae TPaper APaper TRooms ARooms TFalls AFalls Y G18.F B )
 have N19:=G19.fm Yw (zFw (k:=0) TClaim AClaim TSettles ASettles TComes AComes aa ab ac ae TPaper APaper TRooms ARooms TFalls AFalls Y G19.F B )
 have N20:=G20.fn Yw (zFU (k:=0) TClaim AClaim TSettles ASettles TComes AComes aa ab ac ae TPaper APaper TRooms ARooms TFalls AFalls Y G20.F B )
 have N21:=G21.fm Yw (zEE (k:=1) TClaim AClaim TSettles ASettles TComes AComes aa ab ac ae TPaper APaper TRooms ARooms TFalls AFalls Y G21.F B N20.mono)
 have N22:=G22.fn Yw (zGs (k:=2) TClaim AClaim TSettles ASettles TComes AComes aa ab ac ae TPaper APaper TRooms ARooms TFalls AFalls Y G22.F B N21.mono)
 have N23:=G23.fn Yw (zH3 (k:=2) TClaim AClaim TSettles ASettles TComes AComes aa ab ac ae TPaper APaper TRooms ARooms TFalls AFalls Y G23.F B N18.mono N11.mono)
 have N24:=G24.fn Yw (zMs (k:=1) TClaim AClaim TSettles ASettles TComes AComes aa ab ac ae TPaper APaper TRooms ARooms TFalls AFalls Y G24.F B N8.mono N18.mono N7.mono)
 have N25:=G25.fn Yw (zMy (k:=1) TClaim AClaim TSettles ASettles TComes AComes aa ab ac ae TPaper APaper TRooms ARooms TFalls AFalls Y G25.F B N8.mono)
 have N26:=G26.fn Yw (zFV (k:=1) TClaim AClaim TSettles ASettles TComes AComes aa ab ac ae TPaper APaper TRooms ARooms TFalls AFalls Y G26.F B N0.mono)
 have N27:=G27.fn Yw (zGt (k:=2) TClaim AClaim TSettles ASettles TComes AComes aa ab ac ae TPaper APaper TRooms ARooms TFalls AFalls Y G27.F B N26.mono)
 have N28:=G28.fn Yw (zMr (k:=3) TClaim AClaim TSettles ASettles TComes AComes aa ab ac ae TPaper APaper TRooms ARooms TFalls AFalls Y G28.F B N27.mono N25.mono N5.mono)
 have N29:=G29.fn Yw (zGo (k:=0) TClaim AClaim TSettles ASettles TComes AComes aa ab ac ae TPaper APaper TRooms ARooms TFalls AFalls Y G29.F B )
 have N30:=G30.fn Yw (zGq (k:=4) TClaim AClaim TSettles ASettles TComes AComes aa ab ac ae TPaper APaper TRooms ARooms TFalls AFalls Y G30.F B N29.mono N28.mono)
 have N31:=G31.fn Yw (zGl (k:=5) TClaim AClaim TSettles ASettles TComes AComes aa ab ac ae TPaper APaper TRooms ARooms TFalls AFalls Y G31.F B N30.mono N24.mono N23.mono)
 have N32:=G32.fn Yw (zMu (k:=6) TClaim AClaim TSettles ASettles TComes AComes aa ab ac ae TPaper APaper TRooms ARooms TFalls AFalls Y G32.F B N19.mono N29.mono N31.mono)
 have N33:=G33.fc Yw GComes (zEh (k:=6) TClaim AClaim TSettles ASettles TComes AComes aa ab ac ae TPaper APaper TRooms ARooms TFalls AFalls Y G33.F B N3.mono)
 have N34:=G34.fc Yw GFalls (zEg (k:=6) TClaim AClaim TSettles ASettles TComes AComes aa ab ac ae TPaper APaper TRooms ARooms TFalls AFalls Y G34.F B N3.mono)
 have N35:=G35.fn Yw (zGr (k:=3) TClaim AClaim TSettles ASettles TComes AComes aa ab ac ae TPaper APaper TRooms ARooms TFalls AFalls Y G35.F B N26.mono N10.mono)
 have N36:=G36.fn Yw (zEe (k:=0) TClaim AClaim TSettles ASettles TComes AComes aa ab ac ae TPaper APaper TRooms ARooms TFalls AFalls Y G36.F B )
 have N37:=G37.fn Yw (zDl (k:=0) TClaim AClaim TSettles ASettles TComes AComes aa ab ac ae TPaper APaper TRooms ARooms TFalls AFalls Y G37.F B )
 have N38:=G38.fn Yw (zID (k:=2) TClaim AClaim TSettles ASettles TComes AComes aa ab ac ae TPaper APaper TRooms ARooms TFalls AFalls Y G38.F B N24.mono N6.mono)
 have N39:=G39.fn Yw (zFv (k:=4) TClaim AClaim TSettles ASettles TComes AComes aa ab ac ae TPaper APaper TRooms ARooms TFalls AFalls Y G39.F B N29.mono N37.mono N28.mono N12.mono)
 have N40:=G40.fn Yw (zGm (k:=4) TClaim AClaim TSettles ASettles TComes AComes aa ab ac ae TPaper APaper TRooms ARooms TFalls AFalls Y G40.F B N29.mono N38.mono N28.mono N23.mono N12.mono)
 have N41:=G41.fn Yw (zGp (k:=5) TClaim AClaim TSettles ASettles TComes AComes aa ab ac ae TPaper APaper TRooms ARooms TFalls AFalls Y G41.F B N19.mono N29.mono N40.mono)
 have N42:=G42.fn Yw (zFR (k:=7) TClaim AClaim TSettles ASettles TComes AComes aa ab ac ae TPaper APaper TRooms ARooms TFalls AFalls Y G42.F B N10.mono N35.mono N0.mono N9.mono N30.mono N32.mono N28.mono N36.mono N41.mono N39.mono)
 have N43_0:=G43.fn (ps:=["thing","claim","paper"]) Yw (zH.no (k:=1) (sp:=(zI fNo)) (Ji λ_ _ h=>h))
 have N43:=N43_0
 have N44:=G44.fn Yw (zJf (k:=8) TClaim AClaim TSettles ASettles TComes AComes aa ab ac ae TPaper APaper TRooms ARooms TFalls AFalls Y G44.F B N22.mono N43.mono N42.mono)
 have N45:=G45.fn Yw (zHO (k:=0) TClaim AClaim TSettles ASettles TComes AComes aa ab ac ae TPaper APaper TRooms ARooms TFalls AFalls Y G45.F B )
 have N46:=G46.fn Yw (zH4 (k:=0) TClaim AClaim TSettles ASettles TComes AComes aa ab ac ae TPaper APaper TRooms ARooms TFalls AFalls Y G46.F B )
 have N47:=G47.fn Yw (zH7 (k:=0) TClaim AClaim TSettles ASettles TComes AComes aa ab ac ae TPaper APaper TRooms ARooms TFalls AFalls Y G47.F B )
 have N48:=G48.fn Yw (zMx (k:=1) TClaim AClaim TSettles ASettles TComes AComes aa ab ac ae TPaper APaper TRooms ARooms TFalls AFalls Y G48.F B N46.mono N47.mono)
 have N49:=G49.fn Yw (zKu (k:=0) TClaim AClaim TSettles ASettles TComes AComes aa ab ac ae TPaper APaper TRooms ARooms TFalls AFalls Y G49.F B )
 have N50:=G50.fn Yw (zMv (k:=0) TClaim AClaim TSettles ASettles TComes AComes aa ab ac ae TPaper APaper TRooms ARooms TFalls AFalls Y G50.F B )
 have N51:=G51.fn Yw (zKy (k:=0) TClaim AClaim TSettles ASettles TComes AComes aa ab ac ae TPaper APaper TRooms ARooms TFalls AFalls Y G51.F B )
 have N52:=G52.fn Yw (zKw (k:=7) TClaim AClaim TSettles ASettles TComes AComes aa ab ac ae TPaper APaper TRooms ARooms TFalls AFalls Y G52.F B N13.mono N17.mono)
 have N53:=G53.fn Yw (zFT (k:=1) TClaim AClaim TSettles ASettles TComes AComes aa ab ac ae TPaper APaper TRooms ARooms TFalls AFalls Y G53.F B N47.mono)
 have N54:=G54.fn Yw (zJj (k:=2) TClaim AClaim TSettles ASettles TComes AComes aa ab ac ae TPaper APaper TRooms ARooms TFalls AFalls Y G54.F B N45.mono N46.mono N47.mono N53.mono)
 have N55:=G55.fn Yw (zH6 (k:=1) TClaim AClaim TSettles ASettles TComes AComes aa ab ac ae TPaper APaper TRooms ARooms TFalls AFalls Y G55.F B N51.mono)
 have N56:=G56.fn Yw (zHM (k:=2) TClaim AClaim TSettles ASettles TComes AComes aa ab ac ae TPaper APaper TRooms ARooms TFalls AFalls Y G56.F B N46.mono N48.mono N47.mono N50.mono)
 have N57:=G57.fn Yw (zFS (k:=2) TClaim AClaim TSettles ASettles TComes AComes aa ab ac ae TPaper APaper TRooms ARooms TFalls AFalls Y G57.F B N51.mono N55.mono)
 have N58:=G58.fn Yw (zJh (k:=0) TClaim AClaim TSettles ASettles TComes AComes aa ab ac ae TPaper APaper TRooms ARooms TFalls AFalls Y G58.F B )
 have N59_0:=G59.fn (ps:=["_law_some","_law_cell"]) Yw (zH.no (k:=1) (sp:=(zI (uk 0))) (Ji λ_ _ h=>h))
 have N59_1:=G59.fn Yw (zEu (k:=1) (j:=0) TClaim AClaim TSettles ASettles TComes AComes aa ab ac ae TPaper APaper TRooms ARooms TFalls AFalls Y G59.F B N58.mono N59_0.mono)
 have N59_2:=G59.fn Yw (zEu (k:=2) (j:=1) TClaim AClaim TSettles ASettles TComes AComes aa ab ac ae TPaper APaper TRooms ARooms TFalls AFalls Y G59.F B N58.mono N59_1.mono)
 have N59:=N59_2
 have N60:=G60.fn Yw (zHN (k:=0) TClaim AClaim TSettles ASettles TComes AComes aa ab ac ae TPaper APaper TRooms ARooms TFalls AFalls Y G60.F B )
 have N61:=G61.fn Yw (zH8 (k:=1) TClaim AClaim TSettles ASettles TComes AComes aa ab ac ae TPaper APaper TRooms ARooms TFalls AFalls Y G61.F B N60.mono)
 have N62:=G62.fn Yw (zKv (k:=2) TClaim AClaim TSettles ASettles TComes AComes aa ab ac ae TPaper APaper TRooms ARooms TFalls AFalls Y G62.F B N61.mono)
 have N63:=G63.fn Yw (zJk (k:=3) TClaim AClaim TSettles ASettles TComes AComes aa ab ac ae TPaper APaper TRooms ARooms TFalls AFalls Y G63.F B N62.mono)
 have N64:=G64.fn Yw (zJi (k:=4) TClaim AClaim TSettles ASettles TComes AComes aa ab ac ae TPaper APaper TRooms ARooms TFalls AFalls Y G64.F B N63.mono)
 have N65:=G65.fn Yw (zKx (k:=5) TClaim AClaim TSettles ASettles TComes AComes aa ab ac ae TPaper APaper TRooms ARooms TFalls AFalls Y G65.F B N64.mono)
 have N66:=G66.fn Yw (zJg (k:=2) TClaim AClaim TSettles ASettles TComes AComes aa ab ac ae TPaper APaper TRooms ARooms TFalls AFalls Y G66.F B N46.mono N61.mono)
 have N67:=G67.fn Yw (zH9 (k:=4) TClaim AClaim TSettles ASettles TComes AComes aa ab ac ae TPaper APaper TRooms ARooms TFalls AFalls Y G67.F B N62.mono N63.mono N61.mono)
 have N68:=G68.fn Yw (zMw (k:=6) TClaim AClaim TSettles ASettles TComes AComes aa ab ac ae TPaper APaper TRooms ARooms TFalls AFalls Y G68.F B N65.mono N66.mono N67.mono)
 have N69:=G69.fn Yw (zH5 (k:=3) TClaim AClaim TSettles ASettles TComes AComes aa ab ac ae TPaper APaper TRooms ARooms TFalls AFalls Y G69.F B N59.mono)
 exact zP5 (k:=8) TClaim AClaim TSettles ASettles TComes AComes aa ab ac ae TPaper APaper TRooms ARooms TFalls AFalls Y G70.F B N54.mono N56.mono N45.mono N69.mono N57.mono N34.mono N44.mono N33.mono N49.mono N52.mono N68.mono N66.mono N65.mono
def zK2 (o:Obj):Bool:=match o.cls with
 | .type t=>!(t == "list")
 | _=>true
theorem nolist {K:PySem.W.Frag} (h:K.all (λp=>zK2 p.2)=true) (a:Addr) (o:Obj) (e:K.lookup a=some o):o.cls≠.type "list":=λz=>by
 have m:∃ b,(b,o)∈K:=by
  clear h
  induction K with
  | nil=>cases e
  | cons p K ih=>
   obtain ⟨b,o'⟩:=p
   rw [List.lookup_cons] at e
   cases q:a == b with
   | true=>rw [q] at e; cases e; exact ⟨b,List.mem_cons_self⟩
   | false=>rw [q] at e; obtain ⟨c,hc⟩:=ih e; exact ⟨c,List.mem_cons_of_mem _ hc⟩
 obtain ⟨b,hb⟩:=m
 have:=List.all_eq_true.mp h _ hb
 unfold zK2 at this
 rw [z] at this
 exact absurd this (by decide)
theorem walk {l:PySem.W.OpenLaw} {q:Program} {loose:List Str} {XP:(Str->Option Value)->Heap->Prop} {YP:World->Heap->Prop} {d:DefRec} {K:Params->PySem.W.Frag} (hn:l.most=some 63) (hdf:d.params.defaults=[])
  (hY:∀ (w:World) (h:Heap),YP w h->(K w.params).In h)
  (hL:∀ (p:Params) (a:Addr) (o:Obj),(K p).lookup a=some o->o.cls≠.type "list")
  (F:∀ (w:World) (mg:Str->Option Value) (fa:Addr) (h:Heap),(K w.params).In h->h.Ns mainGlobals mg->mg d.name=some (.ref fa)->
   ∃ fd:FuncData,(∀ (s:Shared) (u:Value),BindsTo s fd ⟨[u],[]⟩ [("_law_script",u)])/\∀ base:Heap,(K w.params).In base->base.Ns mainGlobals mg->zH l.prog w (K w.params) mg base zW 10 fa fd ["_law_script"] (zI uu)) :
  PySem.W.WalkO q loose XP YP l.row.toRowW d [] (λf vs=>PySem.call f vs):=
 L2.zNz (n:=63) (k:=10) (x:="_law_script") (CX:=λ_=>zW) (sp:=λ_=>zI uu) hn (by decide) hdf ⟨rfl,by decide,by decide⟩ hY F (λw H a ns _ _ hS=>⟨λ_=>False,[.scr ns],λd=>d=.bool true,λ_ z=>z.elim,.cons (.scr (gk (λb o e=>(vD (λz=>z)).trans e) (hS.elim id λ⟨o,_,_,h1,h2,_⟩=>absurd h2 (hL w.params a o h1)))) .nil,⟨ns,rfl,rfl⟩,λd v H2 e _ h=>by subst e; cases h; rfl⟩) λ_ _ _ _ _ z=>z
end K54
open PySem PySem.W PyProof.Rows
set_option maxRecDepth 100000 in
set_option maxHeartbeats 0 in
theorem PySem.Challenge.cw_steadyhand_k54_whole_papers_of_falls_hol_holds : PySem.Challenge.rw_steadyhand_k54_whole_papers_of_falls_hol.Holds := by
 w_on; o_law
 refine holds_open (q:=H54.vw) (loose:=H54.lo) (Xt:=H54.xt) (XP:=XL H54.vw []) (Yf:=(kHook H54.KK H54.ks H54.ke).obs) (Ya:=(kHook H54.KK H54.ks H54.ke).val) (YP:=(kHook H54.KK H54.ks H54.ke).says) H54.left
  (kHook H54.KK H54.ks H54.ke).of (kHook H54.KK H54.ks H54.ke).keeps
  (λs e=>xl_of s (Bool.and_eq_true_iff.mp e).1) XL.keeps (by rfl) (by rfl) (by rfl)
  (λs e=>recFacts_of (Bool.and_eq_true_iff.mp e).2) (by rfl) (by assumption) (by decide +kernel)
  ⟨rfl,rfl,rfl,rfl,rfl,by decide +kernel⟩ ?hw ?hc
 case hw=>w_witness2
 rename_i sd
 clear sd
 k_fill
 refine K54.walk (l:=PySem.Challenge.rw_steadyhand_k54_whole_papers_of_falls_hol) rfl rfl (λw h Y=>PySem.W.kIn_of Y) (λp a o=>K54.nolist (K:=H54.KK p) (by kernel_rfl) a o) ?F
 case F=>
  intro w mg fa h KX G hmg
  refine' K54.all_mk KX G hmg ?g_Claim ?g_Settles ?g_Comes ?g_Mode ?g_Thing ?g_Paper ?g_Rooms ?g_Falls ?_ ?_ ?_ ?_ ?_ ?_ ?_ ?_ ?_ ?_ ?_ ?_ ?_ ?_ ?_ ?_ ?_ ?_ ?_ ?_ ?_ ?_ ?_ ?_ ?_ ?_ ?_ ?_ ?_ ?p_w_Comes_Settles ?_ ?_ ?_ ?_ ?_ ?_ ?_ ?_ ?_ ?_ ?_ ?_ ?_ ?_ ?_ ?_ ?_ ?_ ?_ ?_ ?_ ?_ ?_ ?_ ?_ ?_ ?_ ?_ ?_ ?_ ?_ ?_ ?_ ?_ ?_ ?_ ?_ ?_ ?_ ?_ ?_ ?_ ?_ ?_ ?_ ?_ ?_ ?_ ?_ ?_ ?_ ?_ ?_ ?_ ?_ ?_ ?_ ?_ ?_ ?_ ?_ ?_ ?_ ?_ ?_ ?_ ?_ ?_ ?_ ?_ ?_ ?_ ?_ ?_ ?_ ?_ ?_ ?_ ?_ ?_ ?_ ?_ ?_ ?_ ?_ ?_ ?_ ?_
  (case g_Claim=>refine' L2.Gc.mk ?a ?b ?c ?d ?e ?f ?g ?h ?i ?j ?k; (case a=>k_is); (case b=>k_is); (case c=>k_is); (case d=>k_is); (case e=>k_is); (case f=>k_is); (case g=>k_is); (case h=>k_is); (case i=>k_is); (case j=>k_is); (case k=>k_is))
  (case g_Settles=>refine' L2.Gc.mk ?a ?b ?c ?d ?e ?f ?g ?h ?i ?j ?k; (case a=>k_is); (case b=>k_is); (case c=>k_is); (case d=>k_is); (case e=>k_is); (case f=>k_is); (case g=>k_is); (case h=>k_is); (case i=>k_is); (case j=>k_is); (case k=>k_is))
  (case g_Comes=>refine' L2.Gc.mk ?a ?b ?c ?d ?e ?f ?g ?h ?i ?j ?k; (case a=>k_is); (case b=>k_is); (case c=>k_is); (case d=>k_is); (case e=>k_is); (case f=>k_is); (case g=>k_is); (case h=>k_is); (case i=>k_is); (case j=>k_is); (case k=>k_is))
  (case g_Mode=>refine' L2.Gc.mk ?a ?b ?c ?d ?e ?f ?g ?h ?i ?j ?k; (case a=>k_is); (case b=>k_is); (case c=>k_is); (case d=>k_is); (case e=>k_is); (case f=>k_is); (case g=>k_is); (case h=>k_is); (case i=>k_is); (case j=>k_is); (case k=>k_is))
  (case g_Thing=>refine' L2.Gc.mk ?a ?b ?c ?d ?e ?f ?g ?h ?i ?j ?k; (case a=>k_is); (case b=>k_is); (case c=>k_is); (case d=>k_is); (case e=>k_is); (case f=>k_is); (case g=>k_is); (case h=>k_is); (case i=>k_is); (case j=>k_is); (case k=>k_is))
  (case g_Paper=>refine' L2.Gc.mk ?a ?b ?c ?d ?e ?f ?g ?h ?i ?j ?k; (case a=>k_is); (case b=>k_is); (case c=>k_is); (case d=>k_is); (case e=>k_is); (case f=>k_is); (case g=>k_is); (case h=>k_is); (case i=>k_is); (case j=>k_is); (case k=>k_is))
  (case g_Rooms=>refine' L2.Gc.mk ?a ?b ?c ?d ?e ?f ?g ?h ?i ?j ?k; (case a=>k_is); (case b=>k_is); (case c=>k_is); (case d=>k_is); (case e=>k_is); (case f=>k_is); (case g=>k_is); (case h=>k_is); (case i=>k_is); (case j=>k_is); (case k=>k_is))
  (case g_Falls=>refine' L2.Gc.mk ?a ?b ?c ?d ?e ?f ?g ?h ?i ?j ?k; (case a=>k_is); (case b=>k_is); (case c=>k_is); (case d=>k_is); (case e=>k_is); (case f=>k_is); (case g=>k_is); (case h=>k_is); (case i=>k_is); (case j=>k_is); (case k=>k_is))
  (case p_w_Comes_Settles=>first | kit_is | k_is | rfl | decide +kernel)
  any_goals first | (refine' L2.Gc.mk ?a ?b ?c ?d ?e ?f ?g ?h ?i ?j ?k; (case a=>k_is); (case b=>k_is); (case c=>k_is); (case d=>k_is); (case e=>k_is); (case f=>k_is); (case g=>k_is); (case h=>k_is); (case i=>k_is); (case j=>k_is); (case k=>k_is)) | (refine' L2.Zu ?a ?l ?c ?k; (case a=>k_is); (case l=>k_is); (case c=>k_is); (case k=>k_is)) | (refine' L2.Zv ?a ?i ?l ?c ?k; (case a=>k_is); (case i=>k_is); (case l=>k_is); (case c=>k_is); (case k=>k_is)) | (refine' L2.Zw ?a ?l ?c ?k ?d; (case a=>k_is); (case l=>k_is); (case c=>k_is); (case k=>k_is); (case d=>k_is)) | (refine' L2.gk_mk ?a ?z ?l ?c ?k ?d; (case a=>k_is); (case z=>k_is); (case l=>k_is); (case c=>k_is); (case k=>k_is); (case d=>k_is)) | k_is
#print axioms PySem.Challenge.cw_steadyhand_k54_whole_papers_of_falls_hol_holds
