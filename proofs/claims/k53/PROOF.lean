import PyProof.Rows.All
import Wide.All
import OpenK.AllK
import Wide.FinOn
import Lean
import PyProof.EqAt
import PyProof.EqKinds
import PyProof.TupleCall
import PyProof.ZipIter
import PyProof.Draws
import PyProof.StationsW
import PyProof.EnumStmt
import PyProof.EnumMake
import PyProof.CallType
import PyProof.Rows.CallKwBuiltin
import PyProof.EnumIter
import PyProof.Rows.SeqMore
import PySem.Challenge.RW_steadyhand_k53_whole_papers_of_rooms_hol
set_option Elab.async false
set_option linter.all false
set_option maxRecDepth 100000
set_option maxHeartbeats 0
namespace TT
open PySem PySem.W
def runT (tb:String->Option Builtin) (p:Program) (w:World) (k:Nat) (an:Option Value):Nat->SharedT->Thread->Option SharedT
 | 0,_,_=>none
 | j + 1,x,t=>match through t with
  | true=>some x
  | false=>match stepOk k an t with
   | false=>none
   | true=>match stepT (denote tb) p w x t with
    | none=>none
    | some y=>runT tb p w k an j y.1 y.2
theorem QD {tb:String->Option Builtin} {p:Program} {w:World} {k:Nat} {an:Option Value}:∀ (j:Nat) (x y:SharedT) (t:Thread),runT tb p w k an j x t=some y->topRun tb p w k an j x.abs t=some y.abs
 | 0,_,_,_,e=>by cases e
 | j + 1,x,y,t,e=>by
  unfold runT at e
  unfold topRun
  cases e1:through t with
  | true=>
   rw [e1] at e
   cases e
   rfl
  | false=>
   rw [e1] at e
   cases e2:stepOk k an t with
   | false=>rw [e2] at e; cases e
   | true=>
    rw [e2] at e
    cases e3:stepT (denote tb) p w x t with
    | none=>rw [e3] at e; cases e
    | some z=>
     rw [e3] at e
     rw [stepT_spec e3]
     exact QD j z.1 y z.2 e
theorem left_is {p q:Program} {lo:List Str} {xt:Shared->Bool} {α:Type} {Yf:Shared->α} {Ya:World->α} {N k n0:Nat} {an:Option Value} {tr:Params->BT} (op:∀ w:World,(fencedOpening treeTable p w N).map (λs=>(s.heap,s.gens,s.drawn,s.toks))=some (boot_heap w.params,Array.mk [],boot_drawn,boot_toks))
  (et:∀ P:Params,absHeap (tr P) n0 (boot_heap P).life=boot_heap P) (z1:∀ P:Params,(boot_heap P).isNs mainGlobals=true) (z2:∀ P:Params,(boot_heap P).objs.size=k) (z3:∀ P:Params,(boot_heap P).nsMap mainGlobals "__annotations__" = an)
  (h:∀ (w:World) (os:OsState),(runT treeTable p w k an N ⟨tr w.params,n0,(boot_heap w.params).life,Array.mk [],boot_drawn,boot_toks,os⟩ (topStub p)).map (λs=>((staticsOk (importedModules p.main.body) (boot_heap w.params) s.abs.heap && namesBound p s.abs.heap && gensDone s.abs && laidKept (boot_heap w.params) s.abs.heap),openSeen q lo (importedModules p.main.body) xt true s.abs,Yf s.abs))=some (true,openGood q lo,Ya w)) :
  LeftO p q lo xt Yf Ya N:=λw=>by
 obtain ⟨⟨hp,gs,d,tk,os⟩,e,e'⟩:=Option.map_eq_some_iff.mp (op w)
 injection e' with a1 e'
 injection e' with a2 e'
 injection e' with a3 a4
 subst a1 a2 a3 a4
 obtain ⟨y,ey,eo⟩:=Option.map_eq_some_iff.mp (h w os)
 injection eo with l1 eo
 injection eo with l2 l3
 have r:=QD _ _ _ _ ey
 have r':topRun treeTable p w k an N ⟨boot_heap w.params,Array.mk [],boot_drawn,boot_toks,os⟩ (topStub p)=some y.abs:=by
  rw [<- r]
  unfold SharedT.abs
  rw [et]
 have f:topFrom treeTable p w N ⟨boot_heap w.params,Array.mk [],boot_drawn,boot_toks,os⟩=some y.abs:=by
  unfold topFrom
  show (match (boot_heap w.params).isNs mainGlobals && true with | true=>_ | false=>_)=_
  rw [z1,z2,z3,r']
  show (match (_ && _ && _ && _) with | true=>_ | false=>_)=_
  rw [l1]
 unfold openEnds
 rw [e]
 show (topFrom treeTable p w N _).map _=_
 rw [f]
 exact congrArg some (Prod.ext l2 l3)
end TT
namespace H53
open PySem PySem.W
set_option maxRecDepth 100000
def hT (i:Nat):Stmt:=PySem.Challenge.pw_steadyhand_k53_whole_papers_of_rooms_hol.main.body.getD i (.Pass ⟨0,0,0,0⟩)
def hI (i j:Nat):Stmt:=match hT i with
 | .ClassDef _ _ _ b _ _ _ _ _ _ _=>b.getD j (.Pass ⟨0,0,0,0⟩)
 | s=>s
def hA:Stmt->Arguments
 | .FunctionDef _ a _ _ _ _ _ _ _ _=>a
 | _=>⟨[],[],none,[],[],none,[]⟩
def hB:Stmt->List Stmt
 | .FunctionDef _ _ b _ _ _ _ _ _ _=>b
 | _=>[]
def hC:Stmt->Scope
 | .FunctionDef _ _ _ _ _ _ c _ _ _=>c
 | _=>{ kind:=.function,names:=[],isGenerator:=false,isCoroutine:=false }
abbrev hS (s:String) (n:Nat):Value:=.str (Str.ofString s) n
abbrev hE (P:Params) (s:String) (n:Nat) (v:Value):DictEntry:=⟨PyData.keyHash P (Str.ofString s),hS s n,v⟩
abbrev hU (x:Array Value):Obj:={ cls:=.type "tuple",data:=.seq x }
abbrev hD (s:String) (a:Nat) (s2:String) (b c:Nat) (i j f:Int) (r1 r2:Nat) (u v t r:Value) (y z:Int) (d:Nat):Obj:={ cls:=.type "code",data:=.fields #[hS s a,hS s2 b,hS "/claim/cut.py" c,.int i 0,.int j 0,.int 0 0,.int 0 0,.int f 0,.ref r1,.bool true,.int 181 0,.ref r2,u,v,t,r,.int y 0,.int z 0,hS "/claim/cut.py" d] }
abbrev hF (n q:String) (s:Stmt) (d k:Value) (m:String) (j c:Nat):Obj:={ cls:=.type "function",data:=.func { name:=n,qualname:=q,params:=hA s,body:=.stmts (hB s),scope:=hC s,globals:=3,closure:=[],defaults:=d,kwdefaults:=k,pyModule:=hS m j,code:=.ref c } }
noncomputable def KK:Params->Frag:=λP=>
 (nat_lit 2,{ cls:=.none,data:=.dict #[] })::(nat_lit 3,{ cls:=.type "dict",data:=.dict #[hE P "__name__" 165 (hS "law_steadyhand_k53_whole_papers_of_rooms_hol" 852),hE P "__doc__" 166 (.none),hE P "__package__" 167 (.none),hE P "__loader__" 168 (.builtin "__main__.__loader__#opaque"),hE P "__spec__" 169 (.none),hE P "__annotations__" 170 (.ref 6),hE P "__builtins__" 171 (.ref 4),hE P "__file__" 173 (hS "/claim/cut.py" 172),hE P "__cached__" 174 (.none),hE P "_wall" 193 (.ref 21),hE P "SteadyError" 213 (.ref 31),hE P "BadThing" 229 (.ref 44),hE P "TooMany" 245 (.ref 56),hE P "NotClosed" 261 (.ref 68),hE P "is_whole" 270 (.ref 77),hE P "is_numbers" 278 (.ref 82),hE P "is_table" 284 (.ref 87),hE P "copied" 291 (.ref 93),hE P "unit" 298 (.ref 99),hE P "scaled" 304 (.ref 104),hE P "mixed" 310 (.ref 109),hE P "paired" 316 (.ref 114),hE P "added_up" 322 (.ref 119),hE P "Claim" 344 (.ref 129),hE P "Settles" 374 (.ref 151),hE P "Comes" 403 (.ref 170),hE P "is_row" 411 (.ref 177),hE P "is_room" 417 (.ref 182),hE P "single" 427 (.ref 189),hE P "other_side" 433 (.ref 194),hE P "standing" 441 (.ref 199),hE P "reach" 452 (.ref 206),hE P "added" 463 (.ref 213),hE P "is_from_0_on" 470 (.ref 220),hE P "are_shares" 476 (.ref 225),hE P "shows" 482 (.ref 230),hE P "MOST_NUMBERS" 486 (.int 3 485),hE P "MOST_PUSHES" 488 (.int 6 487),hE P "MOST_MODES" 490 (.int 40 489),hE P "Mode" 529 (.ref 247),hE P "Thing" 589 (.ref 294),hE P "is_sound" 595 (.ref 303),hE P "is_push" 602 (.ref 310),hE P "is_mode" 611 (.ref 317),hE P "is_unsteered" 617 (.ref 322),hE P "ask_closed" 624 (.ref 329),hE P "Paper" 646 (.ref 339),hE P "Rooms" 679 (.ref 360),hE P "Falls" 720 (.ref 379),hE P "lets_by" 729 (.ref 388),hE P "is_list_of" 737 (.ref 395),hE P "each_shown" 743 (.ref 400),hE P "settles_over" 751 (.ref 407),hE P "comes_over" 759 (.ref 414),hE P "lets_rooms_by" 768 (.ref 421),hE P "are_rooms" 774 (.ref 426),hE P "rooms_follow" 780 (.ref 431),hE P "leads" 786 (.ref 436),hE P "mode_leads" 792 (.ref 441),hE P "rooms_stay" 798 (.ref 446),hE P "lets_fall_by" 807 (.ref 453),hE P "height_at_most" 815 (.ref 460),hE P "height_from_0_on" 821 (.ref 465),hE P "fall_row" 833 (.ref 472),hE P "floors_hold" 839 (.ref 477),hE P "falls_hold" 845 (.ref 482),hE P "mode_falls" 851 (.ref 487),hE P "_law_cell_at" 861 (.ref 494),hE P "_law_stream" 873 (.ref 501),hE P "_law_divisor" 881 (.ref 508),hE P "_law_lowest" 890 (.ref 515),hE P "_law_plus" 898 (.ref 522),hE P "_law_along" 909 (.ref 529),hE P "_law_holds" 918 (.ref 536),hE P "_law_lies" 924 (.ref 541),hE P "_law_number" 932 (.ref 548),hE P "_law_mode" 938 (.ref 553),hE P "_law_thing" 954 (.ref 560),hE P "_law_made" 960 (.ref 565),hE P "_law_box" 973 (.ref 572),hE P "_law_rows" 979 (.ref 577),hE P "_law_point" 994 (.ref 584),hE P "_law_top" 1005 (.ref 591),hE P "_law_beyond" 1011 (.ref 596),hE P "_law_image" 1017 (.ref 601),hE P "_law_hull" 1023 (.ref 606),hE P "_law_kept" 1032 (.ref 613),hE P "_law_both" 1041 (.ref 620),hE P "_law_step_shares" 1047 (.ref 625),hE P "_law_box_steps" 1053 (.ref 630),hE P "_law_box_starts" 1062 (.ref 637),hE P "_law_boxes" 1074 (.ref 644),hE P "_law_claim_rows" 1080 (.ref 649),hE P "_law_parts" 1086 (.ref 654),hE P "_law_behind" 1105 (.ref 661),hE P "_law_run" 1111 (.ref 666),hE P "_law_other" 1124 (.ref 673),hE P "_law_changed" 1133 (.ref 680),hE P "_law_spoilt" 1147 (.ref 687),hE P "law" 1153 (.ref 692)] 100 })::(nat_lit 15,hU #[])::(nat_lit 17,hU #[hS "k" 190])::(nat_lit 18,hU #[])::(nat_lit 20,hD "_wall" 187 "_wall" 188 189 1 1 3 15 16 .none (.ref 17) (.ref 18) (.ref 19) 191 1 192)::(nat_lit 21,hF "_wall" "_wall" (hT 0) .none .none "__main__" 164 20)::(nat_lit 22,hU #[.type "ValueError"])::(nat_lit 29,hU #[])::(nat_lit 30,{ cls:=.type "dict",data:=.dict #[hE P "__module__" 203 (hS "steadyhand.errors" 194),hE P "__firstlineno__" 207 (.int 5 206),hE P "__static_attributes__" 208 (.ref 29),hE P "__weakref__" 210 (.ref 32),hE P "__doc__" 211 (.none)] 3 })::(nat_lit 31,{ cls:=.type "type",data:=.cls { name:="SteadyError",bases:=[.type "ValueError"],mro:=[.ref 31,.type "ValueError",.type "Exception",.type "BaseException",.type "object"],ns:=30,qualname:="SteadyError",subclasses:=[.ref 44,.ref 56,.ref 68] },slots:=#[some (.ref 22),none,some (hS "SteadyError" 196),some (hS "SteadyError" 204),some (.builtin "ValueError.__new__"),some (.bool true)] })::(nat_lit 32,{ cls:=.type "getset_descriptor",data:=.fields #[hS "__weakref__" 209,.ref 31,.builtin "ExceptionGroup.__weakref__",.none] })::(nat_lit 35,hU #[.ref 31])::(nat_lit 42,hU #[])::(nat_lit 43,{ cls:=.type "dict",data:=.dict #[hE P "__module__" 221 (hS "steadyhand.errors" 194),hE P "__firstlineno__" 225 (.int 7 224),hE P "__static_attributes__" 226 (.ref 42),hE P "__doc__" 227 (.none)] 2 })::(nat_lit 44,{ cls:=.type "type",data:=.cls { name:="BadThing",bases:=[.ref 31],mro:=[.ref 44,.ref 31,.type "ValueError",.type "Exception",.type "BaseException",.type "object"],ns:=43,qualname:="BadThing" },slots:=#[some (.ref 35),none,some (hS "BadThing" 214),some (hS "BadThing" 222),some (.builtin "ValueError.__new__"),some (.bool true)] })::(nat_lit 47,hU #[.ref 31])::(nat_lit 54,hU #[])::(nat_lit 55,{ cls:=.type "dict",data:=.dict #[hE P "__module__" 237 (hS "steadyhand.errors" 194),hE P "__firstlineno__" 241 (.int 9 240),hE P "__static_attributes__" 242 (.ref 54),hE P "__doc__" 243 (.none)] 2 })::(nat_lit 56,{ cls:=.type "type",data:=.cls { name:="TooMany",bases:=[.ref 31],mro:=[.ref 56,.ref 31,.type "ValueError",.type "Exception",.type "BaseException",.type "object"],ns:=55,qualname:="TooMany" },slots:=#[some (.ref 47),none,some (hS "TooMany" 230),some (hS "TooMany" 238),some (.builtin "ValueError.__new__"),some (.bool true)] })::(nat_lit 59,hU #[.ref 31])::(nat_lit 66,hU #[])::(nat_lit 67,{ cls:=.type "dict",data:=.dict #[hE P "__module__" 253 (hS "steadyhand.errors" 194),hE P "__firstlineno__" 257 (.int 11 256),hE P "__static_attributes__" 258 (.ref 66),hE P "__doc__" 259 (.none)] 2 })::(nat_lit 68,{ cls:=.type "type",data:=.cls { name:="NotClosed",bases:=[.ref 31],mro:=[.ref 68,.ref 31,.type "ValueError",.type "Exception",.type "BaseException",.type "object"],ns:=67,qualname:="NotClosed" },slots:=#[some (.ref 59),none,some (hS "NotClosed" 246),some (hS "NotClosed" 254),some (.builtin "ValueError.__new__"),some (.bool true)] })::(nat_lit 71,hU #[])::(nat_lit 73,hU #[hS "thing" 267])::(nat_lit 74,hU #[])::(nat_lit 76,hD "is_whole" 264 "is_whole" 265 266 14 1 3 71 72 .none (.ref 73) (.ref 74) (.ref 75) 268 14 269)::(nat_lit 77,hF "is_whole" "is_whole" (hT 7) .none .none "steadyhand.fractions" 262 76)::(nat_lit 78,hU #[])::(nat_lit 81,hD "is_numbers" 273 "is_numbers" 274 275 17 2 3 78 79 .none .none .none (.ref 80) 276 17 277)::(nat_lit 82,hF "is_numbers" "is_numbers" (hT 9) .none .none "steadyhand.tables" 271 81)::(nat_lit 83,hU #[])::(nat_lit 86,hD "is_table" 279 "is_table" 280 281 19 3 3 83 84 .none .none .none (.ref 85) 282 19 283)::(nat_lit 87,hF "is_table" "is_table" (hT 10) .none .none "steadyhand.tables" 271 86)::(nat_lit 88,hU #[.int 5 285])::(nat_lit 89,hU #[])::(nat_lit 92,hD "copied" 286 "copied" 287 288 21 2 3 89 90 .none .none .none (.ref 91) 289 21 290)::(nat_lit 93,hF "copied" "copied" (hT 11) (.ref 88) .none "steadyhand.tables" 271 92)::(nat_lit 94,hU #[.int 1 292])::(nat_lit 95,hU #[])::(nat_lit 98,hD "unit" 293 "unit" 294 295 29 3 3 95 96 .none .none .none (.ref 97) 296 29 297)::(nat_lit 99,hF "unit" "unit" (hT 12) (.ref 94) .none "steadyhand.tables" 271 98)::(nat_lit 100,hU #[])::(nat_lit 103,hD "scaled" 299 "scaled" 300 301 31 2 3 100 101 .none .none .none (.ref 102) 302 31 303)::(nat_lit 104,hF "scaled" "scaled" (hT 13) .none .none "steadyhand.tables" 271 103)::(nat_lit 105,hU #[])::(nat_lit 108,hD "mixed" 305 "mixed" 306 307 33 4 3 105 106 .none .none .none (.ref 107) 308 33 309)::(nat_lit 109,hF "mixed" "mixed" (hT 14) .none .none "steadyhand.tables" 271 108)::(nat_lit 110,hU #[])::(nat_lit 113,hD "paired" 311 "paired" 312 313 35 2 3 110 111 .none .none .none (.ref 112) 314 35 315)::(nat_lit 114,hF "paired" "paired" (hT 15) .none .none "steadyhand.tables" 271 113)::(nat_lit 115,hU #[])::(nat_lit 118,hD "added_up" 317 "added_up" 318 319 37 3 3 115 116 .none .none .none (.ref 117) 320 37 321)::(nat_lit 119,hF "added_up" "added_up" (hT 16) .none .none "steadyhand.tables" 271 118)::(nat_lit 127,hU #[])::(nat_lit 128,{ cls:=.type "dict",data:=.dict #[hE P "__module__" 332 (hS "steadyhand.claims" 323),hE P "__firstlineno__" 336 (.int 40 335),hE P "__static_attributes__" 337 (.ref 127),hE P "__dict__" 339 (.ref 130),hE P "__weakref__" 341 (.ref 131),hE P "__doc__" 342 (.none)] 4 })::(nat_lit 129,{ cls:=.type "type",data:=.cls { name:="Claim",bases:=[.type "object"],mro:=[.ref 129,.type "object"],ns:=128,qualname:="Claim",subclasses:=[.ref 151,.ref 170] },slots:=#[none,none,some (hS "Claim" 325),some (hS "Claim" 333),some (.builtin "object.__new__"),some (.bool true)] })::(nat_lit 130,{ cls:=.type "getset_descriptor",data:=.fields #[hS "__dict__" 338,.ref 129,.builtin "function.__dict__",.builtin "function.__dict__#set"] })::(nat_lit 131,{ cls:=.type "getset_descriptor",data:=.fields #[hS "__weakref__" 340,.ref 129,.builtin "ExceptionGroup.__weakref__",.none] })::(nat_lit 134,hU #[.ref 129])::(nat_lit 141,hU #[.int 0 357])::(nat_lit 142,hU #[])::(nat_lit 144,hU #[hS "self" 361,hS "start" 362,hS "rows" 363,hS "turn" 364])::(nat_lit 145,hU #[])::(nat_lit 147,hD "__init__" 358 "Settles.__init__" 359 360 44 4 3 142 143 .none (.ref 144) (.ref 145) (.ref 146) 365 44 366)::(nat_lit 148,hF "__init__" "Settles.__init__" (hI 19 0) (.ref 141) .none "steadyhand.claims" 323 147)::(nat_lit 149,hU #[hS "rows" 368,hS "start" 369,hS "turn" 370])::(nat_lit 150,{ cls:=.type "dict",data:=.dict #[hE P "__module__" 352 (hS "steadyhand.claims" 323),hE P "__firstlineno__" 356 (.int 42 355),hE P "__init__" 367 (.ref 148),hE P "__static_attributes__" 371 (.ref 149),hE P "__doc__" 372 (.none)] 2 })::(nat_lit 151,{ cls:=.type "type",data:=.cls { name:="Settles",bases:=[.ref 129],mro:=[.ref 151,.ref 129,.type "object"],ns:=150,qualname:="Settles" },slots:=#[some (.ref 134),none,some (hS "Settles" 345),some (hS "Settles" 353),some (.builtin "object.__new__"),some (.bool true)] })::(nat_lit 154,hU #[.ref 129])::(nat_lit 161,hU #[])::(nat_lit 163,hU #[hS "self" 390,hS "start" 391,hS "goal" 392,hS "turns" 393])::(nat_lit 164,hU #[])::(nat_lit 166,hD "__init__" 387 "Comes.__init__" 388 389 50 4 3 161 162 .none (.ref 163) (.ref 164) (.ref 165) 394 50 395)::(nat_lit 167,hF "__init__" "Comes.__init__" (hI 20 0) .none .none "steadyhand.claims" 323 166)::(nat_lit 168,hU #[hS "goal" 397,hS "start" 398,hS "turns" 399])::(nat_lit 169,{ cls:=.type "dict",data:=.dict #[hE P "__module__" 382 (hS "steadyhand.claims" 323),hE P "__firstlineno__" 386 (.int 48 385),hE P "__init__" 396 (.ref 167),hE P "__static_attributes__" 400 (.ref 168),hE P "__doc__" 401 (.none)] 2 })::(nat_lit 170,{ cls:=.type "type",data:=.cls { name:="Comes",bases:=[.ref 129],mro:=[.ref 170,.ref 129,.type "object"],ns:=169,qualname:="Comes" },slots:=#[some (.ref 154),none,some (hS "Comes" 375),some (hS "Comes" 383),some (.builtin "object.__new__"),some (.bool true)] })::(nat_lit 173,hU #[])::(nat_lit 176,hD "is_row" 406 "is_row" 407 408 55 2 3 173 174 .none .none .none (.ref 175) 409 55 410)::(nat_lit 177,hF "is_row" "is_row" (hT 22) .none .none "steadyhand.rows" 404 176)::(nat_lit 178,hU #[])::(nat_lit 181,hD "is_room" 412 "is_room" 413 414 57 2 3 178 179 .none .none .none (.ref 180) 415 57 416)::(nat_lit 182,hF "is_room" "is_room" (hT 23) .none .none "steadyhand.rows" 404 181)::(nat_lit 183,hU #[])::(nat_lit 185,hU #[hS "place" 421,hS "many" 422,hS "number" 423,hS "bound" 424])::(nat_lit 186,hU #[])::(nat_lit 188,hD "single" 418 "single" 419 420 59 4 3 183 184 .none (.ref 185) (.ref 186) (.ref 187) 425 59 426)::(nat_lit 189,hF "single" "single" (hT 24) .none .none "steadyhand.rows" 404 188)::(nat_lit 190,hU #[])::(nat_lit 193,hD "other_side" 428 "other_side" 429 430 61 1 3 190 191 .none .none .none (.ref 192) 431 61 432)::(nat_lit 194,hF "other_side" "other_side" (hT 25) .none .none "steadyhand.rows" 404 193)::(nat_lit 195,hU #[])::(nat_lit 198,hD "standing" 436 "standing" 437 438 64 2 3 195 196 .none .none .none (.ref 197) 439 64 440)::(nat_lit 199,hF "standing" "standing" (hT 27) .none .none "steadyhand.reach" 434 198)::(nat_lit 200,hU #[])::(nat_lit 202,hU #[hS "thing" 445,hS "mode" 446,hS "row" 447,hS "numbers" 448,hS "ahead" 449])::(nat_lit 203,hU #[])::(nat_lit 205,hD "reach" 442 "reach" 443 444 73 3 3 200 201 .none (.ref 202) (.ref 203) (.ref 204) 450 73 451)::(nat_lit 206,hF "reach" "reach" (hT 28) .none .none "steadyhand.reach" 434 205)::(nat_lit 207,hU #[])::(nat_lit 209,hU #[hS "rows" 458,hS "numbers" 459,hS "many" 460])::(nat_lit 210,hU #[])::(nat_lit 212,hD "added" 455 "added" 456 457 78 3 3 207 208 .none (.ref 209) (.ref 210) (.ref 211) 461 78 462)::(nat_lit 213,hF "added" "added" (hT 30) .none .none "steadyhand.shares" 453 212)::(nat_lit 214,hU #[])::(nat_lit 216,hU #[hS "value" 467])::(nat_lit 217,hU #[])::(nat_lit 219,hD "is_from_0_on" 464 "is_from_0_on" 465 466 80 1 3 214 215 .none (.ref 216) (.ref 217) (.ref 218) 468 80 469)::(nat_lit 220,hF "is_from_0_on" "is_from_0_on" (hT 31) .none .none "steadyhand.shares" 453 219)::(nat_lit 221,hU #[])::(nat_lit 224,hD "are_shares" 471 "are_shares" 472 473 82 2 3 221 222 .none .none .none (.ref 223) 474 82 475)::(nat_lit 225,hF "are_shares" "are_shares" (hT 32) .none .none "steadyhand.shares" 453 224)::(nat_lit 226,hU #[])::(nat_lit 229,hD "shows" 477 "shows" 478 479 88 3 3 226 227 .none .none .none (.ref 228) 480 88 481)::(nat_lit 230,hF "shows" "shows" (hT 33) .none .none "steadyhand.shares" 453 229)::(nat_lit 238,hU #[])::(nat_lit 240,hU #[hS "self" 506,hS "rows" 507,hS "nexts" 508,hS "steer" 509,hS "push" 510,hS "add" 511,hS "divisor" 512])::(nat_lit 241,hU #[])::(nat_lit 243,hD "__init__" 503 "Mode.__init__" 504 505 102 7 3 238 239 .none (.ref 240) (.ref 241) (.ref 242) 513 102 514)::(nat_lit 244,hF "__init__" "Mode.__init__" (hI 38 0) .none .none "steadyhand.things" 483 243)::(nat_lit 245,hU #[hS "add" 516,hS "divisor" 517,hS "nexts" 518,hS "push" 519,hS "rows" 520,hS "steer" 521])::(nat_lit 246,{ cls:=.type "dict",data:=.dict #[hE P "__module__" 498 (hS "steadyhand.things" 483),hE P "__firstlineno__" 502 (.int 100 501),hE P "__init__" 515 (.ref 244),hE P "__static_attributes__" 522 (.ref 245),hE P "__dict__" 524 (.ref 248),hE P "__weakref__" 526 (.ref 249),hE P "__doc__" 527 (.none)] 4 })::(nat_lit 247,{ cls:=.type "type",data:=.cls { name:="Mode",bases:=[.type "object"],mro:=[.ref 247,.type "object"],ns:=246,qualname:="Mode" },slots:=#[none,none,some (hS "Mode" 491),some (hS "Mode" 499),some (.builtin "object.__new__"),some (.bool true)] })::(nat_lit 248,{ cls:=.type "getset_descriptor",data:=.fields #[hS "__dict__" 523,.ref 247,.builtin "function.__dict__",.builtin "function.__dict__#set"] })::(nat_lit 249,{ cls:=.type "getset_descriptor",data:=.fields #[hS "__weakref__" 525,.ref 247,.builtin "ExceptionGroup.__weakref__",.none] })::(nat_lit 259,hU #[])::(nat_lit 261,hU #[hS "self" 545,hS "many" 546,hS "pushes" 547,hS "modes" 548])::(nat_lit 262,hU #[])::(nat_lit 264,hD "__init__" 542 "Thing.__init__" 543 544 111 4 3 259 260 .none (.ref 261) (.ref 262) (.ref 263) 549 111 550)::(nat_lit 265,hF "__init__" "Thing.__init__" (hI 39 0) .none .none "steadyhand.things" 483 264)::(nat_lit 266,hU #[])::(nat_lit 268,hU #[hS "self" 555])::(nat_lit 269,hU #[])::(nat_lit 271,hD "pushes" 552 "Thing.pushes" 553 554 120 1 3 266 267 .none (.ref 268) (.ref 269) (.ref 270) 556 120 557)::(nat_lit 272,hF "pushes" "Thing.pushes" (hI 39 1) .none .none "steadyhand.things" 483 271)::(nat_lit 273,hU #[])::(nat_lit 275,hU #[hS "self" 562])::(nat_lit 276,hU #[])::(nat_lit 278,hD "modes" 559 "Thing.modes" 560 561 123 1 3 273 274 .none (.ref 275) (.ref 276) (.ref 277) 563 123 564)::(nat_lit 279,hF "modes" "Thing.modes" (hI 39 2) .none .none "steadyhand.things" 483 278)::(nat_lit 280,hU #[])::(nat_lit 283,hD "is_closed" 566 "Thing.is_closed" 567 568 126 1 3 280 281 .none .none .none (.ref 282) 569 126 570)::(nat_lit 284,hF "is_closed" "Thing.is_closed" (hI 39 3) .none .none "steadyhand.things" 483 283)::(nat_lit 285,hU #[])::(nat_lit 287,hU #[hS "self" 575])::(nat_lit 288,hU #[])::(nat_lit 290,hD "is_plain" 572 "Thing.is_plain" 573 574 129 1 3 285 286 .none (.ref 287) (.ref 288) (.ref 289) 576 129 577)::(nat_lit 291,hF "is_plain" "Thing.is_plain" (hI 39 4) .none .none "steadyhand.things" 483 290)::(nat_lit 292,hU #[hS "kept_modes" 579,hS "kept_pushes" 580,hS "many" 581])::(nat_lit 293,{ cls:=.type "dict",data:=.dict #[hE P "__module__" 537 (hS "steadyhand.things" 483),hE P "__firstlineno__" 541 (.int 109 540),hE P "__init__" 551 (.ref 265),hE P "pushes" 558 (.ref 272),hE P "modes" 565 (.ref 279),hE P "is_closed" 571 (.ref 284),hE P "is_plain" 578 (.ref 291),hE P "__static_attributes__" 582 (.ref 292),hE P "__dict__" 584 (.ref 295),hE P "__weakref__" 586 (.ref 296),hE P "__doc__" 587 (.none)] 4 })::(nat_lit 294,{ cls:=.type "type",data:=.cls { name:="Thing",bases:=[.type "object"],mro:=[.ref 294,.type "object"],ns:=293,qualname:="Thing" },slots:=#[none,none,some (hS "Thing" 530),some (hS "Thing" 538),some (.builtin "object.__new__"),some (.bool true)] })::(nat_lit 295,{ cls:=.type "getset_descriptor",data:=.fields #[hS "__dict__" 583,.ref 294,.builtin "function.__dict__",.builtin "function.__dict__#set"] })::(nat_lit 296,{ cls:=.type "getset_descriptor",data:=.fields #[hS "__weakref__" 585,.ref 294,.builtin "ExceptionGroup.__weakref__",.none] })::(nat_lit 299,hU #[])::(nat_lit 302,hD "is_sound" 590 "is_sound" 591 592 131 3 3 299 300 .none .none .none (.ref 301) 593 131 594)::(nat_lit 303,hF "is_sound" "is_sound" (hT 40) .none .none "steadyhand.things" 483 302)::(nat_lit 304,hU #[])::(nat_lit 306,hU #[hS "value" 599])::(nat_lit 307,hU #[])::(nat_lit 309,hD "is_push" 596 "is_push" 597 598 139 1 3 304 305 .none (.ref 306) (.ref 307) (.ref 308) 600 139 601)::(nat_lit 310,hF "is_push" "is_push" (hT 41) .none .none "steadyhand.things" 483 309)::(nat_lit 311,hU #[])::(nat_lit 313,hU #[hS "value" 606,hS "many" 607,hS "wide" 608])::(nat_lit 314,hU #[])::(nat_lit 316,hD "is_mode" 603 "is_mode" 604 605 143 3 3 311 312 .none (.ref 313) (.ref 314) (.ref 315) 609 143 610)::(nat_lit 317,hF "is_mode" "is_mode" (hT 42) .none .none "steadyhand.things" 483 316)::(nat_lit 318,hU #[])::(nat_lit 321,hD "is_unsteered" 612 "is_unsteered" 613 614 151 1 3 318 319 .none .none .none (.ref 320) 615 151 616)::(nat_lit 322,hF "is_unsteered" "is_unsteered" (hT 43) .none .none "steadyhand.things" 483 321)::(nat_lit 323,hU #[])::(nat_lit 325,hU #[hS "thing" 621])::(nat_lit 326,hU #[])::(nat_lit 328,hD "ask_closed" 618 "ask_closed" 619 620 153 1 3 323 324 .none (.ref 325) (.ref 326) (.ref 327) 622 153 623)::(nat_lit 329,hF "ask_closed" "ask_closed" (hT 44) .none .none "steadyhand.things" 483 328)::(nat_lit 337,hU #[])::(nat_lit 338,{ cls:=.type "dict",data:=.dict #[hE P "__module__" 634 (hS "steadyhand.papers" 625),hE P "__firstlineno__" 638 (.int 157 637),hE P "__static_attributes__" 639 (.ref 337),hE P "__dict__" 641 (.ref 340),hE P "__weakref__" 643 (.ref 341),hE P "__doc__" 644 (.none)] 4 })::(nat_lit 339,{ cls:=.type "type",data:=.cls { name:="Paper",bases:=[.type "object"],mro:=[.ref 339,.type "object"],ns:=338,qualname:="Paper",subclasses:=[.ref 360,.ref 379] },slots:=#[none,none,some (hS "Paper" 627),some (hS "Paper" 635),some (.builtin "object.__new__"),some (.bool true)] })::(nat_lit 340,{ cls:=.type "getset_descriptor",data:=.fields #[hS "__dict__" 640,.ref 339,.builtin "function.__dict__",.builtin "function.__dict__#set"] })::(nat_lit 341,{ cls:=.type "getset_descriptor",data:=.fields #[hS "__weakref__" 642,.ref 339,.builtin "ExceptionGroup.__weakref__",.none] })::(nat_lit 344,hU #[.ref 339])::(nat_lit 351,hU #[])::(nat_lit 353,hU #[hS "self" 662,hS "rooms" 663,hS "back" 664,hS "starts" 665,hS "steps" 666,hS "stays" 667])::(nat_lit 354,hU #[])::(nat_lit 356,hD "__init__" 659 "Rooms.__init__" 660 661 161 6 3 351 352 .none (.ref 353) (.ref 354) (.ref 355) 668 161 669)::(nat_lit 357,hF "__init__" "Rooms.__init__" (hI 47 0) .none .none "steadyhand.papers" 625 356)::(nat_lit 358,hU #[hS "back" 671,hS "rooms" 672,hS "starts" 673,hS "stays" 674,hS "steps" 675])::(nat_lit 359,{ cls:=.type "dict",data:=.dict #[hE P "__module__" 654 (hS "steadyhand.papers" 625),hE P "__firstlineno__" 658 (.int 159 657),hE P "__init__" 670 (.ref 357),hE P "__static_attributes__" 676 (.ref 358),hE P "__doc__" 677 (.none)] 2 })::(nat_lit 360,{ cls:=.type "type",data:=.cls { name:="Rooms",bases:=[.ref 339],mro:=[.ref 360,.ref 339,.type "object"],ns:=359,qualname:="Rooms" },slots:=#[some (.ref 344),none,some (hS "Rooms" 647),some (hS "Rooms" 655),some (.builtin "object.__new__"),some (.bool true)] })::(nat_lit 363,hU #[.ref 339])::(nat_lit 370,hU #[])::(nat_lit 372,hU #[hS "self" 695,hS "room" 696,hS "starts" 697,hS "steps" 698,hS "measure" 699,hS "step" 700,hS "top" 701,hS "falls" 702,hS "floors" 703,hS "tops" 704])::(nat_lit 373,hU #[])::(nat_lit 375,hD "__init__" 692 "Falls.__init__" 693 694 169 10 3 370 371 .none (.ref 372) (.ref 373) (.ref 374) 705 169 706)::(nat_lit 376,hF "__init__" "Falls.__init__" (hI 48 0) .none .none "steadyhand.papers" 625 375)::(nat_lit 377,hU #[hS "falls" 708,hS "floors" 709,hS "measure" 710,hS "room" 711,hS "starts" 712,hS "step" 713,hS "steps" 714,hS "top" 715,hS "tops" 716])::(nat_lit 378,{ cls:=.type "dict",data:=.dict #[hE P "__module__" 687 (hS "steadyhand.papers" 625),hE P "__firstlineno__" 691 (.int 167 690),hE P "__init__" 707 (.ref 376),hE P "__static_attributes__" 717 (.ref 377),hE P "__doc__" 718 (.none)] 2 })::(nat_lit 379,{ cls:=.type "type",data:=.cls { name:="Falls",bases:=[.ref 339],mro:=[.ref 379,.ref 339,.type "object"],ns:=378,qualname:="Falls" },slots:=#[some (.ref 363),none,some (hS "Falls" 680),some (hS "Falls" 688),some (.builtin "object.__new__"),some (.bool true)] })::(nat_lit 382,hU #[])::(nat_lit 384,hU #[hS "thing" 724,hS "claim" 725,hS "paper" 726])::(nat_lit 385,hU #[])::(nat_lit 387,hD "lets_by" 721 "lets_by" 722 723 179 3 3 382 383 .none (.ref 384) (.ref 385) (.ref 386) 727 179 728)::(nat_lit 388,hF "lets_by" "lets_by" (hT 49) .none .none "steadyhand.papers" 625 387)::(nat_lit 389,hU #[])::(nat_lit 391,hU #[hS "value" 733,hS "count" 734])::(nat_lit 392,hU #[])::(nat_lit 394,hD "is_list_of" 730 "is_list_of" 731 732 186 2 3 389 390 .none (.ref 391) (.ref 392) (.ref 393) 735 186 736)::(nat_lit 395,hF "is_list_of" "is_list_of" (hT 50) .none .none "steadyhand.papers" 625 394)::(nat_lit 396,hU #[])::(nat_lit 399,hD "each_shown" 738 "each_shown" 739 740 188 3 3 396 397 .none .none .none (.ref 398) 741 188 742)::(nat_lit 400,hF "each_shown" "each_shown" (hT 51) .none .none "steadyhand.papers" 625 399)::(nat_lit 401,hU #[])::(nat_lit 403,hU #[hS "claim" 747,hS "many" 748])::(nat_lit 404,hU #[])::(nat_lit 406,hD "settles_over" 744 "settles_over" 745 746 192 2 3 401 402 .none (.ref 403) (.ref 404) (.ref 405) 749 192 750)::(nat_lit 407,hF "settles_over" "settles_over" (hT 52) .none .none "steadyhand.papers" 625 406)::(nat_lit 408,hU #[])::(nat_lit 410,hU #[hS "claim" 755,hS "many" 756])::(nat_lit 411,hU #[])::(nat_lit 413,hD "comes_over" 752 "comes_over" 753 754 194 2 3 408 409 .none (.ref 410) (.ref 411) (.ref 412) 757 194 758)::(nat_lit 414,hF "comes_over" "comes_over" (hT 53) .none .none "steadyhand.papers" 625 413)::(nat_lit 415,hU #[])::(nat_lit 417,hU #[hS "thing" 763,hS "claim" 764,hS "paper" 765])::(nat_lit 418,hU #[])::(nat_lit 420,hD "lets_rooms_by" 760 "lets_rooms_by" 761 762 196 3 3 415 416 .none (.ref 417) (.ref 418) (.ref 419) 766 196 767)::(nat_lit 421,hF "lets_rooms_by" "lets_rooms_by" (hT 54) .none .none "steadyhand.papers" 625 420)::(nat_lit 422,hU #[])::(nat_lit 425,hD "are_rooms" 769 "are_rooms" 770 771 204 2 3 422 423 .none .none .none (.ref 424) 772 204 773)::(nat_lit 426,hF "are_rooms" "are_rooms" (hT 55) .none .none "steadyhand.papers" 625 425)::(nat_lit 427,hU #[])::(nat_lit 430,hD "rooms_follow" 775 "rooms_follow" 776 777 206 2 3 427 428 .none .none .none (.ref 429) 778 206 779)::(nat_lit 431,hF "rooms_follow" "rooms_follow" (hT 56) .none .none "steadyhand.papers" 625 430)::(nat_lit 432,hU #[])::(nat_lit 435,hD "leads" 781 "leads" 782 783 211 4 3 432 433 .none .none .none (.ref 434) 784 211 785)::(nat_lit 436,hF "leads" "leads" (hT 57) .none .none "steadyhand.papers" 625 435)::(nat_lit 437,hU #[])::(nat_lit 440,hD "mode_leads" 787 "mode_leads" 788 789 216 5 3 437 438 .none .none .none (.ref 439) 790 216 791)::(nat_lit 441,hF "mode_leads" "mode_leads" (hT 58) .none .none "steadyhand.papers" 625 440)::(nat_lit 442,hU #[])::(nat_lit 445,hD "rooms_stay" 793 "rooms_stay" 794 795 218 2 3 442 443 .none .none .none (.ref 444) 796 218 797)::(nat_lit 446,hF "rooms_stay" "rooms_stay" (hT 59) .none .none "steadyhand.papers" 625 445)::(nat_lit 447,hU #[])::(nat_lit 449,hU #[hS "thing" 802,hS "claim" 803,hS "paper" 804])::(nat_lit 450,hU #[])::(nat_lit 452,hD "lets_fall_by" 799 "lets_fall_by" 800 801 223 3 3 447 448 .none (.ref 449) (.ref 450) (.ref 451) 805 223 806)::(nat_lit 453,hF "lets_fall_by" "lets_fall_by" (hT 60) .none .none "steadyhand.papers" 625 452)::(nat_lit 454,hU #[])::(nat_lit 456,hU #[hS "measure" 811,hS "top" 812])::(nat_lit 457,hU #[])::(nat_lit 459,hD "height_at_most" 808 "height_at_most" 809 810 237 2 3 454 455 .none (.ref 456) (.ref 457) (.ref 458) 813 237 814)::(nat_lit 460,hF "height_at_most" "height_at_most" (hT 61) .none .none "steadyhand.papers" 625 459)::(nat_lit 461,hU #[])::(nat_lit 464,hD "height_from_0_on" 816 "height_from_0_on" 817 818 239 1 3 461 462 .none .none .none (.ref 463) 819 239 820)::(nat_lit 465,hF "height_from_0_on" "height_from_0_on" (hT 62) .none .none "steadyhand.papers" 625 464)::(nat_lit 466,hU #[])::(nat_lit 468,hU #[hS "thing" 825,hS "mode" 826,hS "measure" 827,hS "step" 828,hS "ahead" 829,hS "less" 830])::(nat_lit 469,hU #[])::(nat_lit 471,hD "fall_row" 822 "fall_row" 823 824 241 4 3 466 467 .none (.ref 468) (.ref 469) (.ref 470) 831 241 832)::(nat_lit 472,hF "fall_row" "fall_row" (hT 63) .none .none "steadyhand.papers" 625 471)::(nat_lit 473,hU #[])::(nat_lit 476,hD "floors_hold" 834 "floors_hold" 835 836 245 2 3 473 474 .none .none .none (.ref 475) 837 245 838)::(nat_lit 477,hF "floors_hold" "floors_hold" (hT 64) .none .none "steadyhand.papers" 625 476)::(nat_lit 478,hU #[])::(nat_lit 481,hD "falls_hold" 840 "falls_hold" 841 842 250 3 3 478 479 .none .none .none (.ref 480) 843 250 844)::(nat_lit 482,hF "falls_hold" "falls_hold" (hT 65) .none .none "steadyhand.papers" 625 481)::(nat_lit 483,hU #[])::(nat_lit 486,hD "mode_falls" 846 "mode_falls" 847 848 255 5 3 483 484 .none .none .none (.ref 485) 849 255 850)::(nat_lit 487,hF "mode_falls" "mode_falls" (hT 66) .none .none "steadyhand.papers" 625 486)::(nat_lit 488,hU #[])::(nat_lit 490,hU #[hS "_law_script" 857,hS "_law_k" 858])::(nat_lit 491,hU #[])::(nat_lit 493,hD "_law_cell_at" 854 "_law_cell_at" 855 856 262 2 3 488 489 .none (.ref 490) (.ref 491) (.ref 492) 859 262 860)::(nat_lit 494,hF "_law_cell_at" "_law_cell_at" (hT 68) .none .none "law_steadyhand_k53_whole_papers_of_rooms_hol" 852 493)::(nat_lit 495,hU #[])::(nat_lit 497,hU #[hS "_law_cell" 865,hS "_law_many" 866,hS "_law_found" 867,hS "_law_rest" 868,hS "_law_k" 869,hS "_law_number_here" 870])::(nat_lit 498,hU #[])::(nat_lit 500,hD "_law_stream" 862 "_law_stream" 863 864 266 2 3 495 496 .none (.ref 497) (.ref 498) (.ref 499) 871 266 872)::(nat_lit 501,hF "_law_stream" "_law_stream" (hT 69) .none .none "law_steadyhand_k53_whole_papers_of_rooms_hol" 852 500)::(nat_lit 502,hU #[])::(nat_lit 504,hU #[hS "_law_one" 877,hS "_law_other_here" 878])::(nat_lit 505,hU #[])::(nat_lit 507,hD "_law_divisor" 874 "_law_divisor" 875 876 279 2 3 502 503 .none (.ref 504) (.ref 505) (.ref 506) 879 279 880)::(nat_lit 508,hF "_law_divisor" "_law_divisor" (hT 70) .none .none "law_steadyhand_k53_whole_papers_of_rooms_hol" 852 507)::(nat_lit 509,hU #[])::(nat_lit 511,hU #[hS "_law_top_here" 885,hS "_law_bottom" 886,hS "_law_share" 887])::(nat_lit 512,hU #[])::(nat_lit 514,hD "_law_lowest" 882 "_law_lowest" 883 884 283 2 3 509 510 .none (.ref 511) (.ref 512) (.ref 513) 888 283 889)::(nat_lit 515,hF "_law_lowest" "_law_lowest" (hT 71) .none .none "law_steadyhand_k53_whole_papers_of_rooms_hol" 852 514)::(nat_lit 516,hU #[])::(nat_lit 518,hU #[hS "_law_one" 894,hS "_law_other_here" 895])::(nat_lit 519,hU #[])::(nat_lit 521,hD "_law_plus" 891 "_law_plus" 892 893 286 2 3 516 517 .none (.ref 518) (.ref 519) (.ref 520) 896 286 897)::(nat_lit 522,hF "_law_plus" "_law_plus" (hT 72) .none .none "law_steadyhand_k53_whole_papers_of_rooms_hol" 852 521)::(nat_lit 523,hU #[])::(nat_lit 525,hU #[hS "_law_numbers" 902,hS "_law_values" 903,hS "_law_found" 904,hS "_law_number_here" 905,hS "_law_value" 906])::(nat_lit 526,hU #[])::(nat_lit 528,hD "_law_along" 899 "_law_along" 900 901 288 2 3 523 524 .none (.ref 525) (.ref 526) (.ref 527) 907 288 908)::(nat_lit 529,hF "_law_along" "_law_along" (hT 73) .none .none "law_steadyhand_k53_whole_papers_of_rooms_hol" 852 528)::(nat_lit 530,hU #[])::(nat_lit 532,hU #[hS "_law_row" 913,hS "_law_point_here" 914,hS "_law_value" 915])::(nat_lit 533,hU #[])::(nat_lit 535,hD "_law_holds" 910 "_law_holds" 911 912 293 2 3 530 531 .none (.ref 532) (.ref 533) (.ref 534) 916 293 917)::(nat_lit 536,hF "_law_holds" "_law_holds" (hT 74) .none .none "law_steadyhand_k53_whole_papers_of_rooms_hol" 852 535)::(nat_lit 537,hU #[])::(nat_lit 540,hD "_law_lies" 919 "_law_lies" 920 921 296 2 3 537 538 .none .none .none (.ref 539) 922 296 923)::(nat_lit 541,hF "_law_lies" "_law_lies" (hT 75) .none .none "law_steadyhand_k53_whole_papers_of_rooms_hol" 852 540)::(nat_lit 542,hU #[])::(nat_lit 544,hU #[hS "_law_x" 928,hS "_law_far" 929])::(nat_lit 545,hU #[])::(nat_lit 547,hD "_law_number" 925 "_law_number" 926 927 298 2 3 542 543 .none (.ref 544) (.ref 545) (.ref 546) 930 298 931)::(nat_lit 548,hF "_law_number" "_law_number" (hT 76) .none .none "law_steadyhand_k53_whole_papers_of_rooms_hol" 852 547)::(nat_lit 549,hU #[])::(nat_lit 552,hD "_law_mode" 933 "_law_mode" 934 935 300 5 3 549 550 .none .none .none (.ref 551) 936 300 937)::(nat_lit 553,hF "_law_mode" "_law_mode" (hT 77) .none .none "law_steadyhand_k53_whole_papers_of_rooms_hol" 852 552)::(nat_lit 554,hU #[])::(nat_lit 556,hU #[hS "_law_script" 942,hS "_law_first" 943,hS "_law_second" 944,hS "_law_unit" 945,hS "_law_many" 946,hS "_law_pushes" 947,hS "_law_k" 948,hS "_law_x" 949,hS "_law_modes" 950,hS "_law_cell" 951])::(nat_lit 557,hU #[])::(nat_lit 559,hD "_law_thing" 939 "_law_thing" 940 941 314 1 3 554 555 .none (.ref 556) (.ref 557) (.ref 558) 952 314 953)::(nat_lit 560,hF "_law_thing" "_law_thing" (hT 78) .none .none "law_steadyhand_k53_whole_papers_of_rooms_hol" 852 559)::(nat_lit 561,hU #[])::(nat_lit 564,hD "_law_made" 955 "_law_made" 956 957 328 1 3 561 562 .none .none .none (.ref 563) 958 328 959)::(nat_lit 565,hF "_law_made" "_law_made" (hT 79) .none .none "law_steadyhand_k53_whole_papers_of_rooms_hol" 852 564)::(nat_lit 566,hU #[])::(nat_lit 568,hU #[hS "_law_cell" 964,hS "_law_many" 965,hS "_law_unit" 966,hS "_law_xs" 967,hS "_law_box_here" 968,hS "_law_i" 969,hS "_law_low" 970])::(nat_lit 569,hU #[])::(nat_lit 571,hD "_law_box" 961 "_law_box" 962 963 335 3 3 566 567 .none (.ref 568) (.ref 569) (.ref 570) 971 335 972)::(nat_lit 572,hF "_law_box" "_law_box" (hT 80) .none .none "law_steadyhand_k53_whole_papers_of_rooms_hol" 852 571)::(nat_lit 573,hU #[])::(nat_lit 576,hD "_law_rows" 974 "_law_rows" 975 976 342 1 3 573 574 .none .none .none (.ref 575) 977 342 978)::(nat_lit 577,hF "_law_rows" "_law_rows" (hT 81) .none .none "law_steadyhand_k53_whole_papers_of_rooms_hol" 852 576)::(nat_lit 578,hU #[])::(nat_lit 580,hU #[hS "_law_cell" 983,hS "_law_box_here" 984,hS "_law_xs" 985,hS "_law_parts_here" 986,hS "_law_point_here" 987,hS "_law_k" 988,hS "_law_low" 989,hS "_law_high" 990,hS "_law_share" 991])::(nat_lit 581,hU #[])::(nat_lit 583,hD "_law_point" 980 "_law_point" 981 982 349 2 3 578 579 .none (.ref 580) (.ref 581) (.ref 582) 992 349 993)::(nat_lit 584,hF "_law_point" "_law_point" (hT 82) .none .none "law_steadyhand_k53_whole_papers_of_rooms_hol" 852 583)::(nat_lit 585,hU #[])::(nat_lit 587,hU #[hS "_law_numbers" 998,hS "_law_box_here" 999,hS "_law_found" 1000,hS "_law_number_here" 1001,hS "_law_bounds" 1002])::(nat_lit 588,hU #[])::(nat_lit 590,hD "_law_top" 995 "_law_top" 996 997 358 2 3 585 586 .none (.ref 587) (.ref 588) (.ref 589) 1003 358 1004)::(nat_lit 591,hF "_law_top" "_law_top" (hT 83) .none .none "law_steadyhand_k53_whole_papers_of_rooms_hol" 852 590)::(nat_lit 592,hU #[])::(nat_lit 595,hD "_law_beyond" 1006 "_law_beyond" 1007 1008 363 2 3 592 593 .none .none .none (.ref 594) 1009 363 1010)::(nat_lit 596,hF "_law_beyond" "_law_beyond" (hT 84) .none .none "law_steadyhand_k53_whole_papers_of_rooms_hol" 852 595)::(nat_lit 597,hU #[])::(nat_lit 600,hD "_law_image" 1012 "_law_image" 1013 1014 368 2 3 597 598 .none .none .none (.ref 599) 1015 368 1016)::(nat_lit 601,hF "_law_image" "_law_image" (hT 85) .none .none "law_steadyhand_k53_whole_papers_of_rooms_hol" 852 600)::(nat_lit 602,hU #[])::(nat_lit 605,hD "_law_hull" 1018 "_law_hull" 1019 1020 389 2 3 602 603 .none .none .none (.ref 604) 1021 389 1022)::(nat_lit 606,hF "_law_hull" "_law_hull" (hT 86) .none .none "law_steadyhand_k53_whole_papers_of_rooms_hol" 852 605)::(nat_lit 607,hU #[])::(nat_lit 609,hU #[hS "_law_spec" 1027,hS "_law_box_here" 1028,hS "_law_turn" 1029])::(nat_lit 610,hU #[])::(nat_lit 612,hD "_law_kept" 1024 "_law_kept" 1025 1026 391 2 3 607 608 .none (.ref 609) (.ref 610) (.ref 611) 1030 391 1031)::(nat_lit 613,hF "_law_kept" "_law_kept" (hT 87) .none .none "law_steadyhand_k53_whole_papers_of_rooms_hol" 852 612)::(nat_lit 614,hU #[])::(nat_lit 616,hU #[hS "_law_numbers" 1036,hS "_law_found" 1037,hS "_law_number_here" 1038])::(nat_lit 617,hU #[])::(nat_lit 619,hD "_law_both" 1033 "_law_both" 1034 1035 395 1 3 614 615 .none (.ref 616) (.ref 617) (.ref 618) 1039 395 1040)::(nat_lit 620,hF "_law_both" "_law_both" (hT 88) .none .none "law_steadyhand_k53_whole_papers_of_rooms_hol" 852 619)::(nat_lit 621,hU #[])::(nat_lit 624,hD "_law_step_shares" 1042 "_law_step_shares" 1043 1044 400 4 3 621 622 .none .none .none (.ref 623) 1045 400 1046)::(nat_lit 625,hF "_law_step_shares" "_law_step_shares" (hT 89) .none .none "law_steadyhand_k53_whole_papers_of_rooms_hol" 852 624)::(nat_lit 626,hU #[])::(nat_lit 629,hD "_law_box_steps" 1048 "_law_box_steps" 1049 1050 407 3 3 626 627 .none .none .none (.ref 628) 1051 407 1052)::(nat_lit 630,hF "_law_box_steps" "_law_box_steps" (hT 90) .none .none "law_steadyhand_k53_whole_papers_of_rooms_hol" 852 629)::(nat_lit 631,hU #[])::(nat_lit 633,hU #[hS "_law_box_here" 1057,hS "_law_some" 1058,hS "_law_row" 1059])::(nat_lit 634,hU #[])::(nat_lit 636,hD "_law_box_starts" 1054 "_law_box_starts" 1055 1056 412 1 3 631 632 .none (.ref 633) (.ref 634) (.ref 635) 1060 412 1061)::(nat_lit 637,hF "_law_box_starts" "_law_box_starts" (hT 91) .none .none "law_steadyhand_k53_whole_papers_of_rooms_hol" 852 636)::(nat_lit 638,hU #[])::(nat_lit 640,hU #[hS "_law_spec" 1066,hS "_law_cell" 1067,hS "_law_xs" 1068,hS "_law_inner" 1069,hS "_law_boxes_here" 1070,hS "_law_k" 1071])::(nat_lit 641,hU #[])::(nat_lit 643,hD "_law_boxes" 1063 "_law_boxes" 1064 1065 417 2 3 638 639 .none (.ref 640) (.ref 641) (.ref 642) 1072 417 1073)::(nat_lit 644,hF "_law_boxes" "_law_boxes" (hT 92) .none .none "law_steadyhand_k53_whole_papers_of_rooms_hol" 852 643)::(nat_lit 645,hU #[])::(nat_lit 648,hD "_law_claim_rows" 1075 "_law_claim_rows" 1076 1077 424 3 3 645 646 .none .none .none (.ref 647) 1078 424 1079)::(nat_lit 649,hF "_law_claim_rows" "_law_claim_rows" (hT 93) .none .none "law_steadyhand_k53_whole_papers_of_rooms_hol" 852 648)::(nat_lit 650,hU #[])::(nat_lit 653,hD "_law_parts" 1081 "_law_parts" 1082 1083 433 2 3 650 651 .none .none .none (.ref 652) 1084 433 1085)::(nat_lit 654,hF "_law_parts" "_law_parts" (hT 94) .none .none "law_steadyhand_k53_whole_papers_of_rooms_hol" 852 653)::(nat_lit 655,hU #[])::(nat_lit 657,hU #[hS "_law_mode_here" 1090,hS "_law_point_here" 1091,hS "_law_steering" 1092,hS "_law_pushes" 1093,hS "_law_rows_here" 1094,hS "_law_nexts" 1095,hS "_law_steer" 1096,hS "_law_push" 1097,hS "_law_add" 1098,hS "_law_divisor_here" 1099,hS "_law_found" 1100,hS "_law_i" 1101,hS "_law_value" 1102])::(nat_lit 658,hU #[])::(nat_lit 660,hD "_law_behind" 1087 "_law_behind" 1088 1089 445 4 3 655 656 .none (.ref 657) (.ref 658) (.ref 659) 1103 445 1104)::(nat_lit 661,hF "_law_behind" "_law_behind" (hT 95) .none .none "law_steadyhand_k53_whole_papers_of_rooms_hol" 852 660)::(nat_lit 662,hU #[])::(nat_lit 665,hD "_law_run" 1106 "_law_run" 1107 1108 453 3 3 662 663 .none .none .none (.ref 664) 1109 453 1110)::(nat_lit 666,hF "_law_run" "_law_run" (hT 96) .none .none "law_steadyhand_k53_whole_papers_of_rooms_hol" 852 665)::(nat_lit 667,hU #[])::(nat_lit 669,hU #[hS "_law_shares" 1115,hS "_law_cell" 1116,hS "_law_often" 1117,hS "_law_numbers" 1118,hS "_law_way" 1119,hS "_law_at" 1120,hS "_law_other_here" 1121])::(nat_lit 670,hU #[])::(nat_lit 672,hD "_law_other" 1112 "_law_other" 1113 1114 464 2 3 667 668 .none (.ref 669) (.ref 670) (.ref 671) 1122 464 1123)::(nat_lit 673,hF "_law_other" "_law_other" (hT 97) .none .none "law_steadyhand_k53_whole_papers_of_rooms_hol" 852 672)::(nat_lit 674,hU #[])::(nat_lit 676,hU #[hS "_law_some" 1128,hS "_law_cell" 1129,hS "_law_at" 1130])::(nat_lit 677,hU #[])::(nat_lit 679,hD "_law_changed" 1125 "_law_changed" 1126 1127 472 2 3 674 675 .none (.ref 676) (.ref 677) (.ref 678) 1131 472 1132)::(nat_lit 680,hF "_law_changed" "_law_changed" (hT 98) .none .none "law_steadyhand_k53_whole_papers_of_rooms_hol" 852 679)::(nat_lit 681,hU #[])::(nat_lit 683,hU #[hS "_law_parts_here" 1137,hS "_law_cell" 1138,hS "_law_rooms" 1139,hS "_law_back" 1140,hS "_law_starts" 1141,hS "_law_steps" 1142,hS "_law_stays" 1143,hS "_law_way" 1144])::(nat_lit 684,hU #[])::(nat_lit 686,hD "_law_spoilt" 1134 "_law_spoilt" 1135 1136 486 2 3 681 682 .none (.ref 683) (.ref 684) (.ref 685) 1145 486 1146)::(nat_lit 687,hF "_law_spoilt" "_law_spoilt" (hT 99) .none .none "law_steadyhand_k53_whole_papers_of_rooms_hol" 852 686)::(nat_lit 688,hU #[])::(nat_lit 691,hD "law" 1148 "law" 1149 1150 499 1 3 688 689 .none .none .none (.ref 690) 1151 499 1152)::(nat_lit 692,hF "law" "law" (hT 100) .none .none "law_steadyhand_k53_whole_papers_of_rooms_hol" 852 691) :: []
noncomputable def ks:List Addr:=[2,3,15,17,18,20,21,22,29,30,31,32,35,42,43,44,47,54,55,56,59,66,67,68,71,73,74,76,77,78,81,82,83,86,87,88,89,92,93,94,95,98,99,100,103,104,105,108,109,110,113,114,115,118,119,127,128,129,130,131,134,141,142,144,145,147,148,149,150,151,154,161,163,164,166,167,168,169,170,173,176,177,178,181,182,183,185,186,188,189,190,193,194,195,198,199,200,202,203,205,206,207,209,210,212,213,214,216,217,219,220,221,224,225,226,229,230,238,240,241,243,244,245,246,247,248,249,259,261,262,264,265,266,268,269,271,272,273,275,276,278,279,280,283,284,285,287,288,290,291,292,293,294,295,296,299,302,303,304,306,307,309,310,311,313,314,316,317,318,321,322,323,325,326,328,329,337,338,339,340,341,344,351,353,354,356,357,358,359,360,363,370,372,373,375,376,377,378,379,382,384,385,387,388,389,391,392,394,395,396,399,400,401,403,404,406,407,408,410,411,413,414,415,417,418,420,421,422,425,426,427,430,431,432,435,436,437,440,441,442,445,446,447,449,450,452,453,454,456,457,459,460,461,464,465,466,468,469,471,472,473,476,477,478,481,482,483,486,487,488,490,491,493,494,495,497,498,500,501,502,504,505,507,508,509,511,512,514,515,516,518,519,521,522,523,525,526,528,529,530,532,533,535,536,537,540,541,542,544,545,547,548,549,552,553,554,556,557,559,560,561,564,565,566,568,569,571,572,573,576,577,578,580,581,583,584,585,587,588,590,591,592,595,596,597,600,601,602,605,606,607,609,610,612,613,614,616,617,619,620,621,624,625,626,629,630,631,633,634,636,637,638,640,641,643,644,645,648,649,650,653,654,655,657,658,660,661,662,665,666,667,669,670,672,673,674,676,677,679,680,681,683,684,686,687,688,691,692]
theorem ke:∀ P:Params,ks=(KK P).map (·.1):=λ_=>by
 kernel_rfl
noncomputable def vw:Program:={ PySem.Challenge.pw_steadyhand_k53_whole_papers_of_rooms_hol with main:={ PySem.Challenge.pw_steadyhand_k53_whole_papers_of_rooms_hol.main with body:=[hT 0,hT 2,hT 3,hT 4,hT 5,hT 7,hT 9,hT 10,hT 13,hT 14,hT 15,hT 16,hT 18,hT 19,hT 20,hT 22,hT 23,hT 24,hT 25,hT 27,hT 28,hT 30,hT 31,hT 32,hT 33,hT 35,hT 36,hT 37,hT 38,hT 39,hT 40,hT 41,hT 42,hT 43,hT 44,hT 46,hT 47,hT 48,hT 49,hT 50,hT 51,hT 52,hT 53,hT 54,hT 55,hT 56,hT 57,hT 58,hT 59,hT 60,hT 61,hT 62,hT 63,hT 64,hT 65,hT 66,hT 68,hT 69,hT 70,hT 71,hT 72,hT 73,hT 74,hT 75,hT 76,hT 77,hT 78,hT 79,hT 80,hT 81,hT 82,hT 83,hT 84,hT 85,hT 86,hT 87,hT 88,hT 89,hT 90,hT 91,hT 92,hT 93,hT 94,hT 95,hT 96,hT 97,hT 98,hT 99,hT 100] } }
noncomputable def lo:List Str:=[Str.ofString "copied",Str.ofString "unit",Str.ofString "Settles"]
abbrev rr:RowW:=(OpenLaw.row PySem.Challenge.rw_steadyhand_k53_whole_papers_of_rooms_hol).toRowW
noncomputable abbrev xt:Shared->Bool:=λs=>xlAt vw [] s && recOk rr.records s
noncomputable def bt:Params->BT:=λP=>(.node (boot_o_0 P) (.node (boot_o_1 P) (.node (boot_o_3 P) (.node (boot_o_7 P) .nil .nil) .nil) (.node (boot_o_5 P) (.node (boot_o_9 P) .nil .nil) .nil)) (.node (boot_o_2 P) (.node (boot_o_4 P) (.node (boot_o_8 P) .nil .nil) .nil) (.node (boot_o_6 P) (.node (boot_o_10 P) .nil .nil) .nil)))
noncomputable def lhs (T:Params->BT) (h:Params->Heap) (d:Drawn) (k:Nat) (w:World) (os:OsState):=(TT.runT treeTable PySem.Challenge.pw_steadyhand_k53_whole_papers_of_rooms_hol w 11 (some (.ref 6)) 10354 ⟨T w.params,11,(h w.params).life,Array.mk [],d,k,os⟩ (topStub PySem.Challenge.pw_steadyhand_k53_whole_papers_of_rooms_hol)).map (λs=>((staticsOk (importedModules PySem.Challenge.pw_steadyhand_k53_whole_papers_of_rooms_hol.main.body) (h w.params) s.abs.heap && namesBound PySem.Challenge.pw_steadyhand_k53_whole_papers_of_rooms_hol s.abs.heap && gensDone s.abs && laidKept (h w.params) s.abs.heap),ks.map s.abs.heap.get?))
noncomputable def lhs2 (T:Params->BT) (h:Params->Heap) (d:Drawn) (k:Nat) (w:World) (os:OsState):=(TT.runT treeTable PySem.Challenge.pw_steadyhand_k53_whole_papers_of_rooms_hol w 11 (some (.ref 6)) 10354 ⟨T w.params,11,(h w.params).life,Array.mk [],d,k,os⟩ (topStub PySem.Challenge.pw_steadyhand_k53_whole_papers_of_rooms_hol)).map (λs=>(openSeen vw lo (importedModules PySem.Challenge.pw_steadyhand_k53_whole_papers_of_rooms_hol.main.body) xt true s.abs).1)
noncomputable def lhs3 (T:Params->BT) (h:Params->Heap) (d:Drawn) (k:Nat) (w:World) (os:OsState):=(TT.runT treeTable PySem.Challenge.pw_steadyhand_k53_whole_papers_of_rooms_hol w 11 (some (.ref 6)) 10354 ⟨T w.params,11,(h w.params).life,Array.mk [],d,k,os⟩ (topStub PySem.Challenge.pw_steadyhand_k53_whole_papers_of_rooms_hol)).map (λs=>(openSeen vw lo (importedModules PySem.Challenge.pw_steadyhand_k53_whole_papers_of_rooms_hol.main.body) xt true s.abs).2)
noncomputable def rhs (F:Params->Frag) (w:World) (_:OsState):=some (true,(F w.params).map λp=>some p.2)
noncomputable def rhs2 (_:Params->Frag) (w:World) (_:OsState):=some (openGood vw lo).1
noncomputable def rhs3 (_:Params->Frag) (w:World) (_:OsState):=some (openGood vw lo).2
lay_quick lhs rhs
lay_quick lhs2 rhs2
lay_quick lhs3 rhs3
theorem same (w:World) (os:OsState):PySem.W.Fast.tw3428578512825239987 bt boot_heap boot_drawn boot_toks w os=PySem.W.Fast.tw14115601849876976408 KK w os:=by
 kernel_rfl
theorem gC (w:World) (os:OsState):PySem.W.Fast.tw10256934762921010043 bt boot_heap boot_drawn boot_toks w os=PySem.W.Fast.tw1379988480929610718 KK w os:=by
 kernel_rfl
theorem gD (w:World) (os:OsState):PySem.W.Fast.tw5392022930636687938 bt boot_heap boot_drawn boot_toks w os=PySem.W.Fast.tw16631992321142721204 KK w os:=by
 kernel_rfl
theorem two {α β γ ε δ:Type} {o:Option α} {f:α->β} {g:α->γ × ε} {e:α->δ} {b:β} {c:γ × ε} {d:δ} (h1:o.map (λs=>(f s,e s))=some (b,d)) (h2:o.map (λs=>(g s).1)=some c.1) (h3:o.map (λs=>(g s).2)=some c.2):o.map (λs=>(f s,g s,e s))=some (b,c,d):=by
 cases o with
 | none=>cases h1
 | some a=>
  injection h1 with h1
  injection h2 with h2
  injection h3 with h3
  injection h1 with h1 h4
  have h2:(g a).1=c.1:=h2
  have h3:(g a).2=c.2:=h3
  have h4:e a=d:=h4
  show some (f a,((g a).1,(g a).2),e a)=_
  rw [h1,h2,h3,h4]
theorem left:LeftO rr.prog vw lo xt (kHook KK ks ke).obs (kHook KK ks ke).val 10354:=
 TT.left_is (boot_open (by kernel_rfl) (by decide) (λ_=>by kernel_rfl)) (λ_=>by kernel_rfl) (λ_=>by kernel_rfl) (λ_=>by kernel_rfl) (λ_=>by kernel_rfl)
  λw os=>two ((congrArg (λf=>f bt boot_heap boot_drawn boot_toks w os) PySem.W.Fast.te3428578512825239987).trans ((same w os).trans (congrFun (congrFun (congrFun PySem.W.Fast.te14115601849876976408 KK) w) os).symm)) ((congrArg (λf=>f bt boot_heap boot_drawn boot_toks w os) PySem.W.Fast.te10256934762921010043).trans ((gC w os).trans (congrFun (congrFun (congrFun PySem.W.Fast.te1379988480929610718 KK) w) os).symm)) ((congrArg (λf=>f bt boot_heap boot_drawn boot_toks w os) PySem.W.Fast.te5392022930636687938).trans ((gD w os).trans (congrFun (congrFun (congrFun PySem.W.Fast.te16631992321142721204 KK) w) os).symm))
end H53
namespace L2
open PySem PySem.Spec PyProof.Rows
abbrev xx:=Sum Int Str
def QE:xx->Value->Bool
 | .inl k,v=>Value.isInt k v
 | .inr x,v=>Value.isStrOf x v
def WJ (w:World):xx->Int
 | .inl k=>hashInt k
 | .inr x=>hashStr w x
theorem uX:∀ {k:xx} {v:Value},QE k v=true->(∃ i t,k=Sum.inl i/\v=Value.int i t)\/(∃ x t,k=Sum.inr x/\v=Value.str x t)
 | .inl i,v,h=>by
  obtain ⟨t,e⟩:=Value.isInt_shape (k:=i) (v:=v) h
  exact .inl ⟨i,t,rfl,e⟩
 | .inr x,v,h=>by
  obtain ⟨t,e⟩:=Value.isStrOf_shape (x:=x) (v:=v) h
  exact .inr ⟨x,t,rfl,e⟩
theorem zQb (a b:Int):decide ((Sum.inl a:xx)=Sum.inl b)=(a == b):=by
 by_cases e:a=b
 ·subst e; simp
 ·have h:¬ (Sum.inl a:xx)=Sum.inl b:=λq=>e (Sum.inl.inj q)
  rw [decide_eq_false h]
  exact (beq_eq_false_iff_ne.mpr e).symm
theorem zQY (a b:Str):decide ((Sum.inr a:xx)=Sum.inr b)=decide (a=b):=by
 by_cases e:a=b
 ·subst e; simp
 ·have h:¬ (Sum.inr a:xx)=Sum.inr b:=λq=>e (Sum.inr.inj q)
  rw [decide_eq_false h,decide_eq_false e]
theorem zQa (a:Int) (b:Str):decide ((Sum.inl a:xx)=Sum.inr b)=false:=decide_eq_false (λq=>nomatch q)
theorem zQZ (a:Str) (b:Int):decide ((Sum.inr a:xx)=Sum.inl b)=false:=decide_eq_false (λq=>nomatch q)
def QF (prog:Program) (w:World):PySem.KeyKind prog w xx where
 is:=QE
 hash:=WJ w
 inj:=λv a b ha hb=>by
  rcases uX ha with ⟨i,t,rfl,rfl⟩ | ⟨x,t,rfl,rfl⟩
  ·rcases uX hb with ⟨j,u,rfl,e⟩ | ⟨y,u,rfl,e⟩
   ·injection e with e1 _; rw [e1]
   ·exact nomatch e
  ·rcases uX hb with ⟨j,u,rfl,e⟩ | ⟨y,u,rfl,e⟩
   ·exact nomatch e
   ·injection e with e1 _; rw [e1]
 byValue:=λk v h=>by
  rcases uX h with ⟨i,t,rfl,rfl⟩ | ⟨x,t,rfl,rfl⟩ <;> rfl
 pyHash:=λhv h=>by
  rcases uX hv with ⟨i,t,rfl,rfl⟩ | ⟨x,t,rfl,rfl⟩
  ·exact wpAny_pyHash_int h
  ·exact wpAny_pyHash_str h
 eqBool:=λhu hv h=>by
  rcases uX hu with ⟨i,t,rfl,rfl⟩ | ⟨x,t,rfl,rfl⟩
  ·rcases uX hv with ⟨j,u,rfl,rfl⟩ | ⟨y,u,rfl,rfl⟩
   ·rw [zQb] at h; exact wpAny_eqBool_int h
   ·rw [zQa] at h; exact SeqAt.EqAt.int_str i t y u _ _ _ _ h
  ·rcases uX hv with ⟨j,u,rfl,rfl⟩ | ⟨y,u,rfl,rfl⟩
   ·rw [zQZ] at h; exact SeqAt.EqAt.str_int x t j u _ _ _ _ h
   ·rw [zQY] at h; exact wpAny_eqBool_str h
 «strs»:=λk x t v h=>by
  rcases uX h with ⟨i,u,rfl,e⟩ | ⟨y,u,rfl,e⟩
  ·exact nomatch e
  ·injection e with e1 _
   subst e1
   cases v <;> rfl
end L2
namespace L2
open PySem PySem.Spec PyProof.Rows
inductive V where
 | non | bl (b:Bool) | int (i:Int) | str (x:Str) | byt (b:Array UInt8) | flt (b:UInt64) | ref (a:Addr) | ty (n:String)
 deriving DecidableEq
def zT:V->Value->Prop
 | .non,u=>u=Value.none
 | .bl b,u=>u=Value.bool b
 | .int i,u=>∃ t,u=Value.int i t
 | .str x,u=>∃ t,u=Value.str x t
 | .byt b,u=>∃ t,u=Value.bytes b t
 | .flt b,u=>∃ t,u=Value.float b t
 | .ref a,u=>u=Value.ref a
 | .ty n,u=>u=Value.type n
abbrev zN:List V->List Value->Prop:=Paired zT
theorem zN.length {xs:List V} {us:List Value} (r:zN xs us):xs.length=us.length:=Paired.length r
theorem zN.get:∀ {xs:List V} {us:List Value} {i:Nat} {x:V},zN xs us->xs[i]? = some x->∃ u,us[i]? = some u/\zT x u
 | _,_,_,_,.nil,e=>by simp at e
 | _,_,0,_,.cons r _,e=>by simp at e; subst e; exact ⟨_,rfl,r⟩
 | _,_,i + 1,x,.cons _ t,e=>by
  obtain ⟨u,h1,h2⟩:=zN.get (i:=i) (x:=x) t (by simpa using e)
  exact ⟨u,by simpa using h1,h2⟩
theorem zN.append:∀ {xs ys:List V} {us ws:List Value},zN xs us->zN ys ws->zN (xs++ys) (us++ws)
 | _,_,_,_,.nil,s=>s
 | _,_,_,_,.cons r t,s=>.cons r (zN.append t s)
theorem zN.take:∀ {xs:List V} {us:List Value} (n:Nat),zN xs us->zN (xs.take n) (us.take n)
 | _,_,0,_=>.nil
 | _,_,_ + 1,.nil=>.nil
 | _,_,n + 1,.cons r t=>.cons r (zN.take n t)
theorem zN.drop:∀ {xs:List V} {us:List Value} (n:Nat),zN xs us->zN (xs.drop n) (us.drop n)
 | _,_,0,r=>r
 | _,_,_ + 1,.nil=>.nil
 | _,_,n + 1,.cons _ t=>zN.drop n t
def xj:Option V->Option Value->Prop
 | some v,some u=>zT v u
 | none,none=>True
 | _,_=>False
def KV {κ:Type}:List (κ × V)->List (κ × Value)->Prop:=Paired λ(p:κ × V) (q:κ × Value)=>p.1=q.1/\zT p.2 q.2
def kV:xx->V
 | .inl i=>.int i
 | .inr x=>.str x
inductive HO where
 | lst (xs:List V)
 | tup (xs:List V)
 | dK (kvs:List (xx × V)) | dT (kvs:List (List xx × V))
 | set (S:Int->Bool) (n:Nat)
 | ins (C dx:Addr) (fs:List (Str × V))
 | own (x:Addr)
 | xd (fs:List (Str × V))
 | met (f x:Addr)
 | rng (lo hi:Int)
 | frz (o:Obj) (u:HO)
 | tbl (ps:Array Value)
 | ext (φ:Heap->Prop)
abbrev Hp:=Addr->Option HO
def za (H:Hp) (a:Addr) (o:HO):Hp:=λb=>if b=a then some o else H b
theorem wK {H:Hp} {a:Addr} {o:HO}:za H a o a=some o:=by unfold za; rw [if_pos rfl]
theorem zp {H:Hp} {a b:Addr} {o:HO} (h:b≠a):za H a o b=H b:=by unfold za; rw [if_neg h]
theorem xZ {H:Hp} {a b:Addr} {o:HO} (h:H a=some o) (h':H b=none):a≠b:=by
 intro e; subst e; rw [h] at h'; cases h'
section
variable (P:Program) (w:World)
def xy (H:Hp) (h:Heap) (a:Addr):HO->Prop
 | .lst xs=>xs.length<=sizeLine/\∃ (its:List Value) (n:Nat),zN xs its/\h.get? a=some { cls:=.type "list",data:=.seq its.toArray n }
 | .tup xs=>xs.length<=sizeLine/\∃ its:List Value,zN xs its/\IsTup h a its.toArray
 | .dK kvs=>kvs.length<=sizeLine/\(a == sysModules)=false/\∃ vs,KV kvs vs/\h.DictOf (QF P w) a vs
 | .dT kvs=>kvs.length<=sizeLine/\(a == sysModules)=false/\∃ xs:List (List xx × Addr × Value),
   Paired (λ(p:List xx × V) (q:List xx × Addr × Value)=>p.1=q.1/\H q.2.1=some (.tup (p.1.map kV))/\zT p.2 q.2.2) kvs xs∧
   ∃ o es ep,h.get? a=some o/\o.ExactDict/\o.data=.dict es ep/\es.toList=xs.map (entryOfKey (tupleKind (QF P w)))/\(xs.map (·.1)).Nodup
 | .set S n=>h.SetOf (intKind P w) a S n
 | .ins C dx fs=>H dx=some (.own a)/\fs.length<=1000/\dx≠a/\h.get? a=some (PySem.W.instObj C dx)∧
   ∃ mA,h.Ns1 dx mA/\(∀ f,xj (fs.lookup f) (mA f))/\PySem.Within mA (fs.map (·.1))
 | .own _=>∃ o,h.get? a=some o
 | .xd fs=>∃ mA,h.Ns1 a mA/\∀ f,xj (fs.lookup f) (mA f)
 | .rng lo hi=>∃ t u v,h.get? a=some { cls:=.type "range",data:=.fields #[.int lo t,.int hi u,.int 1 v] }
 | .frz o u=>h.get? a=some o/\xy H h a u
 | .tbl ps=>h.get? a=some { cls:=.none,data:=.fields ps }
 | .met f x=>h.get? a=some (PySem.W.methodObj (.ref f) (.ref x))
 | .ext φ=>φ h/\(∃ o,h.get? a=some o)/\∀ h1 h2:Heap,φ h1->(∀ o,h1.get? a=some o->h2.get? a=some o)->φ h2
def xB (H:Hp) (h:Heap):Prop:=∀ a o,H a=some o->xy P w H h a o
end
section
variable {P:Program} {w:World} {H H':Hp} {h h':Heap} {a:Addr} {o:HO}
theorem xy.lt (x:xy P w H h a o):a < h.objs.size:=by
 cases o with
 | lst xs=>obtain ⟨_,_,_,_,e⟩:=x; exact Heap.lt_size e
 | tup xs=>obtain ⟨_,_,_,p⟩:=x; exact p.lt
 | dK kvs=>obtain ⟨_,_,_,_,o,_,_,e,_⟩:=x; exact Heap.lt_size e
 | dT kvs=>obtain ⟨_,_,_,_,o,_,_,e,_⟩:=x; exact Heap.lt_size e
 | set S n=>obtain ⟨o,_,_,_,e,_⟩:=x; exact Heap.lt_size e
 | ins C dx fs=>obtain ⟨_,_,_,e,_⟩:=x; exact Heap.lt_size e
 | own y=>obtain ⟨_,e⟩:=x; exact Heap.lt_size e
 | xd fs=>obtain ⟨_,⟨_,_,_,e,_⟩,_⟩:=x; exact Heap.lt_size e
 | rng lo hi=>obtain ⟨_,_,_,e⟩:=x; exact Heap.lt_size e
 | frz ob u=>obtain ⟨e,_⟩:=x; exact Heap.lt_size e
 | tbl ps=>exact Heap.lt_size (show h.get? a=some _ from x)
 | met f y=>exact Heap.lt_size (show h.get? a=some _ from x)
 | ext φ=>obtain ⟨_,⟨_,e⟩,_⟩:=x; exact Heap.lt_size e
theorem Paired.mapP {α β:Type} {F G:α->β->Prop}:∀ {l₁:List α} {l₂:List β},Paired F l₁ l₂->(∀ a b,F a b->G a b)->Paired G l₁ l₂
 | _,_,.nil,_=>.nil
 | _,_,.cons r t,f=>.cons (f _ _ r) (Paired.mapP t f)
theorem xy.stay (x:xy P w H h a o) (k:∀ b u,(b=a\/H b=some (.own a))->h.get? b=some u->h'.get? b=some u)
  (ho:∀ b,H b=some (.own a)->H' b=some (.own a)) (ht:∀ b xs,H b=some (.tup xs)->H' b=some (.tup xs)):xy P w H' h' a o:=by
 induction o with
 | lst xs=>obtain ⟨z,its,n,r,e⟩:=x; exact ⟨z,its,n,r,k _ _ (.inl rfl) e⟩
 | tup xs=>obtain ⟨z,its,r,ob,e,c⟩:=x; exact ⟨z,its,r,ob,k _ _ (.inl rfl) e,c⟩
 | dK kvs=>obtain ⟨z,y,vs,r,ob,es,ep,e,c⟩:=x; exact ⟨z,y,vs,r,ob,es,ep,k _ _ (.inl rfl) e,c⟩
 | dT kvs=>
  obtain ⟨z,y,xs,r,ob,es,ep,e,c⟩:=x
  exact ⟨z,y,xs,Paired.mapP r λp q z=>⟨z.1,ht _ _ z.2.1,z.2.2⟩,ob,es,ep,k _ _ (.inl rfl) e,c⟩
 | set S n=>obtain ⟨ob,es,ep,t,e,c⟩:=x; exact ⟨ob,es,ep,t,k _ _ (.inl rfl) e,c⟩
 | ins C dx fs=>
  obtain ⟨d,z,ne,e,mA,⟨od,es,ep,e2,c⟩,r⟩:=x
  exact ⟨ho _ d,z,ne,k _ _ (.inl rfl) e,mA,⟨od,es,ep,k _ _ (.inr d) e2,c⟩,r⟩
 | own y=>obtain ⟨ob,e⟩:=x; exact ⟨ob,k _ _ (.inl rfl) e⟩
 | xd fs=>obtain ⟨mA,⟨od,es,ep,e,c⟩,r⟩:=x; exact ⟨mA,⟨od,es,ep,k _ _ (.inl rfl) e,c⟩,r⟩
 | rng lo hi=>obtain ⟨t,u,v,e⟩:=x; exact ⟨t,u,v,k _ _ (.inl rfl) e⟩
 | frz ob u ih=>obtain ⟨e,q⟩:=x; exact ⟨k _ _ (.inl rfl) e,ih q⟩
 | tbl ps=>
  have e:h.get? a=some { cls:=.none,data:=.fields ps }:=x
  show h'.get? a=some { cls:=.none,data:=.fields ps }
  exact k a _ (.inl rfl) e
 | met f y=>
  have e:h.get? a=some (PySem.W.methodObj (.ref f) (.ref y)):=x
  show h'.get? a=some (PySem.W.methodObj (.ref f) (.ref y))
  exact k a _ (.inl rfl) e
 | ext φ=>obtain ⟨p,⟨o,e⟩,st⟩:=x; exact ⟨st _ _ p λo q=>k _ _ (.inl rfl) q,⟨o,k _ _ (.inl rfl) e⟩,st⟩
theorem xB.lt (x:xB P w H h) (e:H a=some o):a < h.objs.size:=(x a o e).lt
theorem xB.fresh (x:xB P w H h) (e:h.objs.size<=a):H a=none:=by
 cases q:H a with
 | none=>rfl
 | some u=>exact absurd (Nat.lt_of_lt_of_le (x.lt q) e) (Nat.lt_irrefl _)
theorem xB.kept (x:xB P w H h) (k:∀ b u,h.get? b=some u->h'.get? b=some u):xB P w H h':=λa o e=>
 (x a o e).stay (λb u _ q=>k b u q) (λ_ q=>q) λ_ _ q=>q
theorem xB.laid (x:xB P w H h) (k:∀ b u,h.get? b=some u->h'.get? b=some u) (hp:h.objs.size<=a) (new:xy P w (za H a o) h' a o):xB P w (za H a o) h':=λb u e=>by
 have hn:=x.fresh hp
 by_cases hb:b=a
 ·subst hb; rw [wK] at e; cases e; exact new
 ·rw [zp hb] at e
  exact (x b u e).stay (λc v _ q=>k c v q) (λc q=>by rw [zp (xZ q hn)]; exact q) λc xs q=>by rw [zp (xZ q hn)]; exact q
end
def Rd (H:Hp) (a:Addr) (u:HO):Prop:=H a=some u\/∃ o,H a=some (.frz o u)
theorem Rd.ok {P:Program} {w:World} {H:Hp} {h:Heap} {a:Addr} {u:HO} (r:Rd H a u) (x:xB P w H h):xy P w H h a u:=by
 rcases r with r | ⟨o,r⟩
 ·exact x a u r
 ·obtain ⟨_,q⟩:=x a _ r
  exact q
def YL:Option HO->Prop
 | some (.lst _)=>True
 | some (.dK _)=>True
 | some (.dT _)=>True
 | some (.set _ _)=>True
 | some (.ins _ _ _)=>True
 | some (.ext _)=>True
 | _=>False
section
variable {P:Program} {w:World} {H:Hp} {h h':Heap} {x e:Addr} {o':HO}
theorem xB.write (ok:xB P w H h) (mu:YL (H x)) (he:e=x\/H e=some (.own x)) (k:∀ b u,b≠e->h.get? b=some u->h'.get? b=some u) (heo:∃ u,h'.get? e=some u)
  (new:xy P w (za H x o') h' x o'):xB P w (za H x o') h':=λb u q=>by
 have nown:∀ c y,H c=some (.own y)->c≠x:=λc y r z=>by subst z; rw [r] at mu; exact mu
 have ntup:∀ c xs,H c=some (.tup xs)->c≠x:=λc xs r z=>by subst z; rw [r] at mu; exact mu
 by_cases hb:b=x
 ·subst hb; rw [wK] at q; cases q; exact new
 ·rw [zp hb] at q
  by_cases hbe:b=e
  ·have q':H b=some (.own x):=by
    rcases he with z | z
    ·exact absurd (hbe.trans z) hb
    ·rw [hbe]; exact z
   rw [q] at q'; cases q'
   obtain ⟨v,hv⟩:=heo
   exact ⟨v,by rw [hbe]; exact hv⟩
  ·refine (ok b u q).stay (λc v hc r=>k c v ?_ r) (λc r=>by rw [zp (nown c b r)]; exact r) λc xs r=>by rw [zp (ntup c xs r)]; exact r
   rcases hc with rfl | hc
   ·exact hbe
   ·rintro rfl
    rcases he with z | z
    ·exact nown c b hc z
    ·rw [hc] at z; cases z; exact hb rfl
end
structure Un (fs ex:List Addr) (H H':Hp) (h h':Heap):Prop where
 keep:∀ b o,h.get? b=some o->H b=none->b∉fs->b∉ex->h'.get? b=some o
 slot:∀ b o,h.get? b=some o->H b=none->b∈fs->b∉ex->∃ sl,h'.get? b=some { o with slots:=sl }
 free:∀ b o,h.get? b=some o->H b=none->b∉ex->H' b=none
 there:∀ b o,h.get? b=some o->b∉ex->∃ o',h'.get? b=some o'
 tups:∀ b xs,H b=some (.tup xs)->H' b=some (.tup xs)
 frzs:∀ b o u,H b=some (.frz o u)->H' b=some (.frz o u)
 tbls:∀ b ps,H b=some (.tbl ps)->∃ more,H' b=some (.tbl (ps++more))
section
variable {fs fs' ex ex':List Addr} {H H1 H2:Hp} {h h1 h2 h':Heap} {a x e:Addr} {o:HO}
theorem Un.any (u:Un fs ex H H1 h h1) {b:Addr} {ob:Obj} (q:h.get? b=some ob) (n:H b=none) (hx:b∉ex):∃ sl,h1.get? b=some { ob with slots:=sl }:=by
 by_cases hb:b∈fs
 ·exact u.slot b ob q n hb hx
 ·exact ⟨ob.slots,u.keep b ob q n hb hx⟩
theorem Un.kept (k:∀ b u,h.get? b=some u->h'.get? b=some u):Un fs ex H H h h':=
 ⟨λb ob q _ _ _=>k b ob q,λb ob q _ _ _=>⟨ob.slots,k b ob q⟩,λ_ _ _ n _=>n,λb ob q _=>⟨ob,k b ob q⟩,λ_ _ q=>q,λ_ _ _ q=>q,λ_ ps q=>⟨#[],by rw [q]; simp⟩⟩
theorem Un.refl:Un fs ex H H h h:=Un.kept λ_ _ q=>q
theorem Un.laid (k:∀ b u,h.get? b=some u->h'.get? b=some u) (hp:h.objs.size<=a) (hn:H a=none):Un fs ex H (za H a o) h h' where
 keep:=λb u q _ _ _=>k b u q
 slot:=λb u q _ _ _=>⟨u.slots,k b u q⟩
 free:=λb u q n _=>by rw [zp (Nat.ne_of_lt (Nat.lt_of_lt_of_le (Heap.lt_size q) hp))]; exact n
 there:=λb u q _=>⟨u,k b u q⟩
 tups:=λb xs q=>by rw [zp (xZ q hn)]; exact q
 frzs:=λb u xs q=>by rw [zp (xZ q hn)]; exact q
 tbls:=λb ps q=>⟨#[],by rw [zp (xZ q hn),q]; simp⟩
theorem Un.write (mu:YL (H x)) (he:e=x\/H e=some (.own x)) (k:∀ b u,b≠e->h.get? b=some u->h'.get? b=some u) (heo:∃ u,h'.get? e=some u):Un fs ex H (za H x o) h h':=by
 have hx:∀ b,H b=none->b≠x:=λb n z=>by subst z; rw [n] at mu; exact mu
 have hb:∀ b,H b=none->b≠e:=λb n z=>by
  subst z
  rcases he with r | r
  ·exact hx b n r
  ·rw [n] at r; cases r
 have hm:∀ b u,H b=some u->¬ YL (some u)->b≠x:=λb u q nm z=>by subst z; rw [q] at mu; exact nm mu
 refine ⟨λb u q n _ _=>k b u (hb b n) q,λb u q n _ _=>⟨u.slots,k b u (hb b n) q⟩,λb u q n _=>by rw [zp (hx b n)]; exact n,λb u q _=>?_,
  λb xs q=>by rw [zp (hm b _ q λz=>z)]; exact q,λb u xs q=>by rw [zp (hm b _ q λz=>z)]; exact q,λb ps q=>⟨#[],by rw [zp (hm b _ q λz=>z),q]; simp⟩⟩
 by_cases hbe:b=e
 ·subst hbe; exact heo
 ·exact ⟨u,k b u hbe q⟩
end
def va (h:Heap) (H:Hp):List Addr:=(List.range h.objs.size).filter λa=>(H a).isSome
def xz (h:Heap) (H:Hp):Heap:=PySem.W.hideAll h (va h H)
theorem zLP (h:Heap) (H:Hp):(xz h H).objs.size=h.objs.size:=PySem.W.hideAll_size _ _
theorem zNI {h:Heap} {H:Hp} {b:Addr} {o:Obj} (e:h.get? b=some o) (n:H b=none):(xz h H).get? b=some o:=
 PySem.W.hideAll_get _ e λhm=>by
  have q:(H b).isSome=true:=(List.mem_filter.mp hm).2
  rw [n] at q; simp at q
theorem zOs {h:Heap} {H:Hp} {b:Addr} {o:Obj} (e:(xz h H).get? b=some o):h.get? b=some o/\H b=none:=by
 have e':h.get? b=some o:=PySem.W.of_hideAll (va h H) e
 refine ⟨e',?_⟩
 cases q:H b with
 | none=>rfl
 | some x=>
  have hm:b∈va h H:=List.mem_filter.mpr ⟨List.mem_range.mpr (Heap.lt_size e'),by simp [q]⟩
  have z:(xz h H).get? b=none:=PySem.W.hideAll_none (va h H) hm
  rw [z] at e; cases e
def zPE (g h:Heap) (L:Addr):List (Addr × Obj):=(List.range h.objs.size).filterMap λa=>if a=L\/(g.get? a).isSome=true then none else (h.get? a).map λo=>(a,o)
def yT (g h:Heap) (L d:Addr):List (Addr × Obj):=(zPE g h L).filter λp=>decide (p.1≠d)
end L2
namespace L2
open PySem PySem.Spec PyProof.Rows
structure Mod (K:PySem.W.Frag) (mg:Str->Option Value) (base:Heap):Prop where
 kin:K.In base
 glob:base.Ns mainGlobals mg
 blt:∃ mb,base.Ns builtinsNs mb/\∀ x:Str,x≠"__name__"->mb x=bootBuiltins x
 nolimit:base.NoLimit
structure Cx where
 prog:Program
 w:World
 K:PySem.W.Frag
 mg:Str->Option Value
 base:Heap
 A:Around
 N:List Str
 s₀:Shared
 H₀:Hp
 env:Env
 outer:List Env
 stack:List Env
 ex:List Addr
 fn:Str->Bool
 calm:Bool
 pn:List (Addr × Obj)
 xe:Value->Shared->Prop
def wt (l:List Env):List Addr:=l.filterMap (·.frame)
abbrev Cx.fs (X:Cx):List Addr:=wt X.outer
def jN (sc:Scope) (x:Str):Prop:=sc.names.lookup x=some .local\/sc.names.lookup x=some .cell\/sc.names.lookup x=some .free
def uv (sc:Scope) (x:Str):Prop:=sc.names.lookup x=some .local\/sc.names.lookup x=some .cell
def WK (env:Env) (h:Heap) (m:Str->Option Value) (x:Str) (u:Value):Prop:=
 (env.kindOf x=some .local/\m x=some u)\/((env.kindOf x=some .cell\/env.kindOf x=some .free)/\∃ c,env.cells.lookup x=some c/\h.IsCell c (some u))
structure Cx.Ok (X:Cx):Prop where
 mod:Mod X.K X.mg X.base
 kind:X.env.scope.kind=.function
 glob:X.env.globals=mainGlobals
 blt:X.env.builtins=builtinsNs
 above:X.s₀.heap.objs.size<=X.env.locals
 inj:∀ x y c,X.env.cells.lookup x=some c->X.env.cells.lookup y=some c->x=y
 has:∀ x,(X.env.kindOf x=some .cell\/X.env.kindOf x=some .free)->∃ c,X.env.cells.lookup x=some c
 cab:∀ x c,X.fn x=true->X.env.cells.lookup x=some c->X.s₀.heap.objs.size<=c
 hd:X.calm=true->X.A.handled=none
 frames:X.A.frames=some X.stack
 stk:X.stack=X.outer\/(X.stack=X.env :: X.outer/\X.env.frame=some X.env.locals)
 exf:∀ b∈X.ex,b≠X.env.locals/\∀ x c,X.env.cells.lookup x=some c->c≠b
 bs:∀ b o,X.base.get? b=some o->X.s₀.heap.get? b=some o/\X.H₀ b=none
 bsz:X.base.objs.size<=X.s₀.heap.objs.size
 noex:∀ b o,X.base.get? b=some o->b∉X.ex
 exfs:∀ b∈X.ex,b∉X.fs
 funs:X.s₀.heap.FunFrames X.base X.outer
 frf:∀ b∈X.fs,X.H₀ b=none
structure zH (X:Cx) (pins:List (Addr × Obj)) (σ:List (Option V)) (H:Hp) (s:Shared):Prop where
 ok:X.Ok
 os:s.os=X.s₀.os
 bare:AllBare s.gens
 base:Un X.fs X.ex X.H₀ H X.s₀.heap s.heap
 loc:∃ m,s.heap.Ns X.env.locals m/\∀ (i:Nat) (x:Str) (v:V),X.N[i]? = some x->σ[i]? = some (some v)->jN X.env.scope x->∃ u,zT v u/\WK X.env s.heap m x u
 cell:∀ x c,X.env.cells.lookup x=some c->∃ v,s.heap.IsCell c v
 free:H X.env.locals=none
 freeC:∀ x c,X.env.cells.lookup x=some c->H c=none
 pin:∀ p∈X.pn++pins,s.heap.get? p.1=some p.2/\H p.1=none/\p.1≠X.env.locals/\p.1∉X.fs/\∀ v,p.2.data≠.cell v
 hok:xB X.prog X.w H s.heap
 len:σ.length=X.N.length
section
variable {X:Cx} {pins:List (Addr × Obj)} {σ:List (Option V)} {H H':Hp} {s:Shared} {h':Heap}
theorem Cx.Ok.nofr (ok:X.Ok) {b:Addr} {o:Obj} (e:X.base.get? b=some o):b∉X.fs:=λhb=>by
 have:=(ok.funs.mem hb).1
 rw [e] at this; cases this
theorem zH.bs (I:zH X pins σ H s):∀ b o,X.base.get? b=some o->s.heap.get? b=some o/\H b=none:=λb o e=>
 ⟨I.base.keep b o (I.ok.bs b o e).1 (I.ok.bs b o e).2 (I.ok.nofr e) (I.ok.noex b o e),I.base.free b o (I.ok.bs b o e).1 (I.ok.bs b o e).2 (I.ok.noex b o e)⟩
theorem zH.bk (I:zH X pins σ H s):∀ b o,X.base.get? b=some o->s.heap.get? b=some o:=λb o e=>(I.bs b o e).1
theorem zH.mod (I:zH X pins σ H s):Mod X.K X.mg X.base:=I.ok.mod
theorem zH.kIn (I:zH X pins σ H s):X.K.In s.heap:=I.ok.mod.kin.keeps I.bk
theorem zH.lt (I:zH X pins σ H s):X.env.locals < s.heap.objs.size:=let ⟨_,hn,_⟩:=I.loc; hn.lt
theorem zH.sz (I:zH X pins σ H s):X.s₀.heap.objs.size<=s.heap.objs.size:=Nat.le_trans I.ok.above (Nat.le_of_lt I.lt)
theorem zH.nofs (I:zH X pins σ H s) {a:Addr} (h:s.heap.objs.size<=a):a∉X.fs:=λhb=>by
 obtain ⟨_,o,ho,_⟩:=I.ok.funs.mem hb
 exact absurd (Nat.lt_of_lt_of_le (Heap.lt_size ho) (Nat.le_trans I.sz h)) (Nat.lt_irrefl _)
theorem zH.cne (I:zH X pins σ H s):∀ x c,X.env.cells.lookup x=some c->c≠X.env.locals:=λx c e z=>by
 obtain ⟨v,o,ho,hd⟩:=I.cell x c e
 obtain ⟨m,⟨o',es,ep,ho',hd',_⟩,_⟩:=I.loc
 rw [z,ho'] at ho; cases ho; rw [hd'] at hd; cases hd
theorem zH.funs (I:zH X pins σ H s):s.heap.FunFrames X.base X.outer:=by
 have all:∀ (l:List Env),(∀ b∈wt l,b∈X.fs)->X.s₀.heap.FunFrames X.base l->s.heap.FunFrames X.base l:=by
  intro l
  induction l with
  | nil=>intro _ _; trivial
  | cons env r ih=>
   intro hs hl
   obtain ⟨hk,⟨L,o,hf,hn,ho,hd⟩,hr⟩:=hl
   have hL:L∈X.fs:=hs L (by unfold wt; rw [List.filterMap_cons,hf]; exact List.mem_cons_self)
   obtain ⟨sl,e⟩:=I.base.slot L o ho (I.ok.frf L hL) hL λz=>I.ok.exfs L z hL
   exact ⟨hk,⟨L,_,hf,hn,e,hd⟩,ih (λb hb=>hs b (by unfold wt; rw [List.filterMap_cons,hf]; exact List.mem_cons_of_mem _ hb)) hr⟩
 exact all X.outer (λ_ hb=>hb) I.ok.funs
theorem zH.stack (I:zH X pins σ H s):s.heap.FunFrames X.base X.stack:=by
 rcases I.ok.stk with e | ⟨e,hf⟩
 ·rw [e]; exact I.funs
 ·rw [e]
  obtain ⟨m,hn,_⟩:=I.loc
  refine .cons (by rw [I.ok.kind]; decide) hf hn ?_ I.funs
  exact Heap.get?_none_of_le (Nat.le_trans I.ok.bsz I.ok.above)
theorem zH.stkSub (I:zH X pins σ H s):∀ b∈wt X.stack,b∈X.env.locals :: X.fs:=λb hb=>by
 rcases I.ok.stk with e | ⟨e,hf⟩
 ·rw [e] at hb; exact List.mem_cons_of_mem _ hb
 ·rw [e] at hb
  unfold wt at hb
  rw [List.filterMap_cons,hf] at hb
  exact hb
theorem zH.stkFree (I:zH X pins σ H s):∀ b∈wt X.stack,H b=none:=λb hb=>by
 rcases List.mem_cons.mp (I.stkSub b hb) with e | hb
 ·rw [e]; exact I.free
 ·obtain ⟨_,o,ho,_⟩:=I.ok.funs.mem hb
  exact I.base.free b o ho (I.ok.frf b hb) λz=>I.ok.exfs b z hb
theorem zH.step {g':Array GenState} {t':Nat} {d':Drawn} {ch:List Addr} (I:zH X pins σ H s)
  (hch:∀ b∈ch,(b∈X.ex\/X.s₀.heap.objs.size<=b)/\b≠X.env.locals/\(∀ x c,X.env.cells.lookup x=some c->c≠b)/\∀ p∈X.pn++pins,p.1≠b)
  (keep:∀ b o,b≠X.env.locals->b∉X.fs->b∉ch->s.heap.get? b=some o->H b=none->h'.get? b=some o)
  (slot:∀ b o,b≠X.env.locals->b∈X.fs->b∉ch->s.heap.get? b=some o->H b=none->∃ sl,h'.get? b=some { o with slots:=sl }) (free:∀ b o,b∉ch->s.heap.get? b=some o->H b=none->H' b=none)
  (there:∀ b o,b∉ch->s.heap.get? b=some o->∃ o',h'.get? b=some o')
  (tups:∀ b xs,H b=some (.tup xs)->H' b=some (.tup xs)) (frzs:∀ b o u,H b=some (.frz o u)->H' b=some (.frz o u)) (tbls:∀ b ps,H b=some (.tbl ps)->∃ more,H' b=some (.tbl (ps++more)))
  (ns:∀ m,s.heap.Ns X.env.locals m->h'.Ns X.env.locals m) (hok:xB X.prog X.w H' h') (hg:AllBare g') :
  zH X pins σ H' { s with heap:=h',gens:=g',drawn:=d',toks:=t' }:=by
 have neL:∀ b o,X.s₀.heap.get? b=some o->b≠X.env.locals:=λb o e=>Nat.ne_of_lt (Nat.lt_of_lt_of_le (Heap.lt_size e) I.ok.above)
 have neC:∀ b o,X.s₀.heap.get? b=some o->b∉X.ex->b∉ch:=λb o e hx hb=>by
  rcases (hch b hb).1 with z | z
  ·exact hx z
  ·exact absurd (Nat.lt_of_lt_of_le (Heap.lt_size e) z) (Nat.lt_irrefl _)
 have cellK:∀ x c,X.env.cells.lookup x=some c->∀ v,s.heap.IsCell c v->h'.IsCell c v:=λx c e v ⟨o,ho,hd⟩=>by
  have nch:c∉ch:=λz=>(hch c z).2.2.1 x c e rfl
  by_cases hc:c∈X.fs
  ·obtain ⟨sl,q⟩:=slot c o (I.cne x c e) hc nch ho (I.freeC x c e)
   exact ⟨_,q,hd⟩
  ·exact ⟨o,keep c o (I.cne x c e) hc nch ho (I.freeC x c e),hd⟩
 refine ⟨I.ok,I.os,hg,⟨λb o e n hb hx=>?_,λb o e n hb hx=>?_,λb o e n hx=>?_,λb o e hx=>?_,λb xs e=>tups b xs (I.base.tups b xs e),λb o xs e=>frzs b o xs (I.base.frzs b o xs e),λb ps e=>?_⟩,?_,λx c e=>?_,?_,λx c e=>?_,λp hp=>?_,hok,I.len⟩
 ·exact keep b o (neL b o e) hb (neC b o e hx) (I.base.keep b o e n hb hx) (I.base.free b o e n hx)
 ·obtain ⟨sl,e1⟩:=I.base.slot b o e n hb hx
  obtain ⟨sl',e2⟩:=slot b _ (neL b o e) hb (neC b o e hx) e1 (I.base.free b o e n hx)
  exact ⟨sl',e2⟩
 ·obtain ⟨o',e1⟩:=I.base.there b o e hx
  exact free b o' (neC b o e hx) e1 (I.base.free b o e n hx)
 ·obtain ⟨o',e1⟩:=I.base.there b o e hx
  exact there b o' (neC b o e hx) e1
 ·obtain ⟨m1,e1⟩:=I.base.tbls b ps e
  obtain ⟨m2,e2⟩:=tbls b _ e1
  exact ⟨m1++m2,by rw [e2,Array.append_assoc]⟩
 ·obtain ⟨m,hn,hl⟩:=I.loc
  refine ⟨m,ns m hn,λi x v e1 e2 e3=>?_⟩
  obtain ⟨u,r,l⟩:=hl i x v e1 e2 e3
  refine ⟨u,r,?_⟩
  rcases l with l | ⟨k,c,e,z⟩
  ·exact .inl l
  ·exact .inr ⟨k,c,e,cellK x c e _ z⟩
 ·obtain ⟨v,z⟩:=I.cell x c e
  exact ⟨v,cellK x c e v z⟩
 ·obtain ⟨m,⟨o,_,_,ho,_⟩,_⟩:=I.loc
  exact free _ o (λz=>(hch _ z).2.1 rfl) ho I.free
 ·obtain ⟨v,o,ho,hd⟩:=I.cell x c e
  exact free c o (λz=>(hch c z).2.2.1 x c e rfl) ho (I.freeC x c e)
 ·obtain ⟨e,n,ne,nf,d⟩:=I.pin p hp
  have nch:p.1∉ch:=λz=>(hch p.1 z).2.2.2 p hp rfl
  exact ⟨keep p.1 p.2 ne nf nch e n,free p.1 p.2 nch e n,ne,nf,d⟩
theorem zH.un {t':Nat} (I:zH X pins σ H s) (u:Un X.fs [] H H' s.heap h') (hok:xB X.prog X.w H' h'):zH X pins σ H' { s with heap:=h',toks:=t' }:=by
 obtain ⟨m,⟨o,es,ep,ho,r⟩,_⟩:=id I.loc
 obtain ⟨sl,hL⟩:=u.any ho I.free (by simp)
 exact I.step (g':=s.gens) (d':=s.drawn) (ch:=[]) (λ_ z=>nomatch z) (λb o _ hb _ e n=>u.keep b o e n hb (by simp)) (λb o _ hb _ e n=>u.slot b o e n hb (by simp)) (λb o _ e n=>u.free b o e n (by simp)) (λb o _ e=>u.there b o e (by simp)) u.tups u.frzs u.tbls (λm' hm=>by
  obtain ⟨o',es',ep',ho',r'⟩:=hm
  rw [ho] at ho'; cases ho'
  exact ⟨_,es',ep',hL,r'⟩) hok I.bare
theorem zH.call {g':Array GenState} {t':Nat} {d':Drawn} {ch:List Addr} (I:zH X pins σ H s) (u:Un (wt X.stack) ch H H' s.heap h') (hok:xB X.prog X.w H' h') (hg:AllBare g')
  (hch:∀ b∈ch,(b∈X.ex\/X.s₀.heap.objs.size<=b)/\b≠X.env.locals/\(∀ x c,X.env.cells.lookup x=some c->c≠b)/\∀ p∈X.pn++pins,p.1≠b) :
  zH X pins σ H' { s with heap:=h',gens:=g',drawn:=d',toks:=t' }:=by
 obtain ⟨m,⟨o,es,ep,ho,r⟩,_⟩:=id I.loc
 obtain ⟨sl,hL⟩:=u.any ho I.free λz=>(hch _ z).2.1 rfl
 exact I.step (ch:=ch) hch (λb o hL hb hc e n=>u.keep b o e n (λz=>(List.mem_cons.mp (I.stkSub b z)).elim hL hb) hc) (λb o _ _ hc e n=>u.any e n hc) (λb o hc e n=>u.free b o e n hc) (λb o hc e=>u.there b o e hc) u.tups u.frzs u.tbls (λm' hm=>by
  obtain ⟨o',es',ep',ho',r'⟩:=hm
  rw [ho] at ho'; cases ho'
  exact ⟨_,es',ep',hL,r'⟩) hok hg
theorem zH.turned {t':Nat} {it:Addr} (I:zH X pins σ H s) (k:∀ b o,b≠it->s.heap.get? b=some o->h'.get? b=some o) (hn:H it=none) (hL:it≠X.env.locals)
  (h1:it∈X.ex\/X.s₀.heap.objs.size<=it) (h2:∀ x c,X.env.cells.lookup x=some c->c≠it) (h3:∀ p∈X.pn++pins,p.1≠it):zH X pins σ H { s with heap:=h',toks:=t' }:=by
 have nit:∀ b u,H b=some u->b≠it:=λb u e z=>by rw [z,hn] at e; cases e
 refine I.step (g':=s.gens) (d':=s.drawn) (ch:=[it]) (λb hb=>?_) (λb o _ _ hc e _=>k b o (λz=>hc (by simp [z])) e) (λb o _ _ hc e _=>⟨o.slots,k b o (λz=>hc (by simp [z])) e⟩) (λ_ _ _ _ n=>n)
  (λb o hc e=>⟨o,k b o (λz=>hc (by simp [z])) e⟩) (λ_ _ e=>e) (λ_ _ _ e=>e) (λb ps e=>⟨#[],by rw [e]; simp⟩) (λm hm=>?_) (λb u e=>?_) I.bare
 ·have e:b=it:=by simpa using hb
  subst e
  exact ⟨h1,hL,h2,h3⟩
 ·obtain ⟨o,es,ep,ho,r⟩:=hm
  exact ⟨o,es,ep,k _ o (Ne.symm hL) ho,r⟩
 ·refine (I.hok b u e).stay (λc v hc q=>k c v ?_ q) (λ_ q=>q) λ_ _ q=>q
  rcases hc with z | z
  ·rw [z]; exact nit b u e
  ·exact nit c _ z
theorem zH.tok (I:zH X pins σ H s) (t:Nat):zH X pins σ H { s with toks:=t }:=I.un (h':=s.heap) (t':=t) Un.refl I.hok
theorem zH.kept {t':Nat} (I:zH X pins σ H s) (k:∀ b u,s.heap.get? b=some u->h'.get? b=some u):zH X pins σ H { s with heap:=h',toks:=t' }:=I.un (Un.kept k) (I.hok.kept k)
theorem zH.laid {a:Addr} {o:HO} {t':Nat} (I:zH X pins σ H s) (k:∀ b u,s.heap.get? b=some u->h'.get? b=some u) (hp:s.heap.objs.size<=a) (new:xy X.prog X.w (za H a o) h' a o) :
  zH X pins σ (za H a o) { s with heap:=h',toks:=t' }:=I.un (Un.laid k hp (I.hok.fresh hp)) (I.hok.laid k hp new)
theorem zH.write {x e:Addr} {o:HO} {t':Nat} (I:zH X pins σ H s) (mu:YL (H x)) (he:e=x\/H e=some (.own x)) (k:∀ b u,b≠e->s.heap.get? b=some u->h'.get? b=some u) (heo:∃ u,h'.get? e=some u)
  (new:xy X.prog X.w (za H x o) h' x o):zH X pins σ (za H x o) { s with heap:=h',toks:=t' }:=I.un (Un.write mu he k heo) (I.hok.write mu he k heo new)
theorem zH.pins_of {pins':List (Addr × Obj)} (I:zH X pins σ H s) (h:∀ p∈pins',s.heap.get? p.1=some p.2/\H p.1=none/\p.1≠X.env.locals/\p.1∉X.fs/\∀ v,p.2.data≠.cell v):zH X pins' σ H s:=
 ⟨I.ok,I.os,I.bare,I.base,I.loc,I.cell,I.free,I.freeC,λp hp=>(List.mem_append.mp hp).elim (λz=>I.pin p (List.mem_append_left _ z)) (h p),I.hok,I.len⟩
theorem QG {N:List Str} (hN:N.Nodup) {i j:Nat} {x:Str} (a:N[i]? = some x) (b:N[j]? = some x):i=j:=by
 obtain ⟨h1,e1⟩:=List.getElem?_eq_some_iff.mp a
 obtain ⟨h2,e2⟩:=List.getElem?_eq_some_iff.mp b
 exact (List.getElem_inj hN).mp (e1.trans e2.symm)
theorem WL {M:Model} {A:Around} {E:Value->Shared->Prop} {i:Nat} {x:Str} {v:V} {u:Value} {Q:Unit->Shared->Prop} (I:zH X pins σ H s) (hN:X.N.Nodup) (hi:X.N[i]? = some x) (hx:uv X.env.scope x) (r:zT v u)
  (h:∀ s',zH X pins (σ.set i (some v)) H s'->(∃ a,Heap.SameBut a s.heap s'.heap/\(a=X.env.locals\/X.env.cells.lookup x=some a))->Q () s') (hf:X.fn x=true\/X.env.scope.names.lookup x=some .local:=by first | exact .inl rfl | exact .inr rfl | assumption):wpAny M A (storeName X.env x u) Q E s:=by
 obtain ⟨m,hn,hl⟩:=id I.loc
 have hcls:(X.env.scope.kind == .class || (X.env.scope.kind == .module && X.env.locals != X.env.globals))=false:=by rw [I.ok.kind]; rfl
 have hiσ:i < σ.length:=by rw [I.len]; exact (List.getElem?_eq_some_iff.mp hi).1
 have cne:=I.cne
 have tracked:∀ {a:Addr} {h':Heap},(∃ o,s.heap.get? a=some o/\H a=none)->Heap.SameBut a s.heap h'->xB X.prog X.w H h':=λ{a h'} ha hs b ob e=>by
  obtain ⟨_,_,hfree⟩:=ha
  refine (I.hok b ob e).stay (λc w' hc q=>(hs.2 c ?_).trans q) (λ_ q=>q) λ_ _ q=>q
  rintro rfl
  rcases hc with rfl | hc
  ·rw [hfree] at e; cases e
  ·rw [hfree] at hc; cases hc
 rcases hx with hk | hk
 ·refine wpAny_storeName_local hk hn (λh' hn' hs=>?_) hcls
  obtain ⟨oL,_,_,hoL,_⟩:=id hn
  refine h _ ⟨I.ok,I.os,I.bare,⟨λb o e n hb hx=>?_,λb o e n hb hx=>?_,I.base.free,λb o e hx=>?_,I.base.tups,I.base.frzs,I.base.tbls⟩,⟨_,hn',λj y v' e1 e2 e3=>?_⟩,λy c e=>?_,I.free,I.freeC,λp hp=>?_,tracked ⟨oL,hoL,I.free⟩ hs,by simpa using I.len⟩ ⟨_,hs,.inl rfl⟩
  ·exact (hs.2 b (Nat.ne_of_lt (Nat.lt_of_lt_of_le (Heap.lt_size e) I.ok.above))).trans (I.base.keep b o e n hb hx)
  ·obtain ⟨sl,e1⟩:=I.base.slot b o e n hb hx
   exact ⟨sl,(hs.2 b (Nat.ne_of_lt (Nat.lt_of_lt_of_le (Heap.lt_size e) I.ok.above))).trans e1⟩
  ·obtain ⟨o',e1⟩:=I.base.there b o e hx
   exact ⟨o',(hs.2 b (Nat.ne_of_lt (Nat.lt_of_lt_of_le (Heap.lt_size e) I.ok.above))).trans e1⟩
  ·by_cases hj:j=i
   ·subst hj
    rw [hi] at e1; cases e1
    rw [List.getElem?_set_self hiσ] at e2
    cases e2
    exact ⟨u,r,.inl ⟨hk,by simp⟩⟩
   ·rw [List.getElem?_set_ne (Ne.symm hj)] at e2
    obtain ⟨u',r',q⟩:=hl j y v' e1 e2 e3
    refine ⟨u',r',?_⟩
    rcases q with ⟨k,e⟩ | ⟨k,c,e,z⟩
    ·refine .inl ⟨k,?_⟩
     have:y≠x:=λe=>hj (QG hN e1 (e ▸ hi))
     simp [this,e]
    ·exact .inr ⟨k,c,e,z.sameBut hs (cne y c e)⟩
  ·obtain ⟨w',z⟩:=I.cell y c e
   exact ⟨w',z.sameBut hs (cne y c e)⟩
  ·obtain ⟨e,n,ne,nf,d⟩:=I.pin p hp
   exact ⟨(hs.2 p.1 ne).trans e,n,ne,nf,d⟩
 ·have hfn:X.fn x=true:=by
   rcases hf with z | z
   ·exact z
   ·rw [z] at hk; cases hk
  obtain ⟨c,hc⟩:=I.ok.has x (.inl hk)
  obtain ⟨w',z⟩:=I.cell x c hc
  refine wpAny_storeName_cell I.ok.kind hk hc z (λh' hc' hs=>?_)
  obtain ⟨oc,hoc,hocd⟩:=id z
  refine h { s with heap:=h' } ⟨I.ok,I.os,I.bare,⟨λb o e n hb hx=>?_,λb o e n hb hx=>?_,I.base.free,λb o e hx=>?_,I.base.tups,I.base.frzs,I.base.tbls⟩,⟨m,hn.sameBut hs (Ne.symm (cne x c hc)),λj y v' e1 e2 e3=>?_⟩,λy c' e=>?_,I.free,I.freeC,λp hp=>?_,tracked ⟨oc,hoc,I.freeC x c hc⟩ hs,by simpa using I.len⟩ ⟨c,hs,.inr hc⟩
  ·exact (hs.2 b (Nat.ne_of_lt (Nat.lt_of_lt_of_le (Heap.lt_size e) (I.ok.cab x c hfn hc)))).trans (I.base.keep b o e n hb hx)
  ·obtain ⟨sl,e1⟩:=I.base.slot b o e n hb hx
   exact ⟨sl,(hs.2 b (Nat.ne_of_lt (Nat.lt_of_lt_of_le (Heap.lt_size e) (I.ok.cab x c hfn hc)))).trans e1⟩
  ·obtain ⟨o',e1⟩:=I.base.there b o e hx
   exact ⟨o',(hs.2 b (Nat.ne_of_lt (Nat.lt_of_lt_of_le (Heap.lt_size e) (I.ok.cab x c hfn hc)))).trans e1⟩
  ·by_cases hj:j=i
   ·subst hj
    rw [hi] at e1; cases e1
    rw [List.getElem?_set_self hiσ] at e2
    cases e2
    exact ⟨u,r,.inr ⟨.inl hk,c,hc,hc'⟩⟩
   ·rw [List.getElem?_set_ne (Ne.symm hj)] at e2
    obtain ⟨u',r',q⟩:=hl j y v' e1 e2 e3
    refine ⟨u',r',?_⟩
    rcases q with q | ⟨k,c',e,z'⟩
    ·exact .inl q
    ·refine .inr ⟨k,c',e,z'.sameBut hs ?_⟩
     rintro rfl
     exact hj (QG hN e1 (I.ok.inj _ _ _ e hc ▸ hi))
  ·by_cases hcc:c'=c
   ·subst hcc; exact ⟨_,hc'⟩
   ·obtain ⟨w2,z2⟩:=I.cell y c' e
    exact ⟨w2,z2.sameBut hs hcc⟩
  ·obtain ⟨e,n,ne,nf,d⟩:=I.pin p hp
   refine ⟨(hs.2 p.1 ?_).trans e,n,ne,nf,d⟩
   intro q
   rw [q,hoc] at e
   have q':oc=p.2:=Option.some.inj e
   exact d w' (by rw [<- q']; exact hocd)
theorem YM {M:Model} {A:Around} {E:Value->Shared->Prop} {i:Nat} {x:Str} {v:V} {u:Value} {Q:Unit->Shared->Prop} (I:zH X pins σ H s) (hN:X.N.Nodup) (hi:X.N[i]? = some x) (hx:uv X.env.scope x) (r:zT v u)
  (h:∀ s',zH X pins (σ.set i (some v)) H s'->Q () s') (hf:X.fn x=true\/X.env.scope.names.lookup x=some .local:=by first | exact .inl rfl | exact .inr rfl | assumption):wpAny M A (storeName X.env x u) Q E s:=
 WL I hN hi hx r (λs' I' _=>h s' I') hf
theorem zH.call' {s':Shared} {ch:List Addr} (I:zH X pins σ H s) (ho:s'.os=s.os) (u:Un (wt X.stack) ch H H' s.heap s'.heap) (hok:xB X.prog X.w H' s'.heap) (hg:AllBare s'.gens)
  (hch:∀ b∈ch,(b∈X.ex\/X.s₀.heap.objs.size<=b)/\b≠X.env.locals/\(∀ x c,X.env.cells.lookup x=some c->c≠b)/\∀ p∈X.pn++pins,p.1≠b):zH X pins σ H' s':=by
 obtain ⟨h',g',d',t',o'⟩:=s'
 have e:o'=s.os:=ho
 subst e
 exact I.call (g':=g') (t':=t') (d':=d') u hok hg hch
end
abbrev XK:=Value->Option Addr->Hp->Prop
abbrev St:=List (Option V)
abbrev VK:=V->Hp->Prop
abbrev TE:=St->Hp->VK->Prop
abbrev TT:=St->Hp->(Bool->Hp->Prop)->Prop
abbrev TA:=St->Hp->(List V->Hp->Prop)->Prop
structure xk where
 nx:St->Hp->Prop
 rt:VK
 bk:St->Hp->Prop:=λ_ _=>False
 ct:St->Hp->Prop:=λ_ _=>False
abbrev TS:=xk->St->Hp->Prop
def EP (X:Cx) (pins:List (Addr × Obj)) (σ:St) (Q:VK) (u:Value) (s':Shared):Prop:=∃ v H',zH X pins σ H' s'/\zT v u/\Q v H'
def TP (X:Cx) (pins:List (Addr × Obj)) (σ:St) (Q:Bool->Hp->Prop) (b:Bool) (s':Shared):Prop:=∃ H',zH X pins σ H' s'/\Q b H'
def AP (X:Cx) (pins:List (Addr × Obj)) (σ:St) (Q:List V->Hp->Prop) (us:List Value) (s':Shared):Prop:=∃ vs H',zH X pins σ H' s'/\zN vs us/\Q vs H'
def SP (X:Cx) (pins:List (Addr × Obj)) (D:xk) (f:Flow) (s':Shared):Prop:=
 match f with
 | .next=>∃ σ' H',zH X pins σ' H' s'/\D.nx σ' H'
 | .brk=>∃ σ' H',zH X pins σ' H' s'/\D.bk σ' H'
 | .cont=>∃ σ' H',zH X pins σ' H' s'/\D.ct σ' H'
 | .ret u=>∃ v σ' H',zH X pins σ' H' s'/\zT v u/\D.rt v H'
def PE (X:Cx) (e:Expr) (t:TE):Prop:=
 ∀ (pins:List (Addr × Obj)) (s:Shared) (σ:St) (H:Hp) (Q:VK),zH X pins σ H s->t σ H Q->wpAny (model X.prog X.w) X.A (eval e X.env) (EP X pins σ Q) X.xe s
def PT (X:Cx) (e:Expr) (t:TT):Prop:=
 ∀ (pins:List (Addr × Obj)) (s:Shared) (σ:St) (H:Hp) (Q:Bool->Hp->Prop),zH X pins σ H s->t σ H Q->wpAny (model X.prog X.w) X.A (isTrue e X.env (eval e X.env)) (TP X pins σ Q) X.xe s
def PW (X:Cx) (e:Expr) (t:TT):Prop:=
 ∀ (whole:Sem Value) (pins:List (Addr × Obj)) (s:Shared) (σ:St) (H:Hp) (Q:Bool->Hp->Prop),zH X pins σ H s->t σ H Q->wpAny (model X.prog X.w) X.A (isTrue e X.env whole) (TP X pins σ Q) X.xe s
theorem PW.pt {X:Cx} {e:Expr} {t:TT} (h:PW X e t):PT X e t:=h _
def PA (X:Cx) (es:List Expr) (t:TA):Prop:=
 ∀ (pos:Pos) (pins:List (Addr × Obj)) (s:Shared) (σ:St) (H:Hp) (Q:List V->Hp->Prop),zH X pins σ H s->t σ H Q->wpAny (model X.prog X.w) X.A (spliced (backTo pos (starEach es X.env))) (AP X pins σ Q) X.xe s
def PS (X:Cx) (st:Stmt) (t:TS):Prop:=
 ∀ (pins:List (Addr × Obj)) (s:Shared) (σ:St) (H:Hp) (D:xk),zH X pins σ H s->t D σ H->wpAny (model X.prog X.w) X.A (exec st X.env) (SP X pins D) X.xe s
def yu (X:Cx) (st:List Stmt) (t:TS):Prop:=
 ∀ (pins:List (Addr × Obj)) (s:Shared) (σ:St) (H:Hp) (D:xk),zH X pins σ H s->t D σ H->wpAny (model X.prog X.w) X.A (execs st X.env) (SP X pins D) X.xe s
theorem zg {α:Type} {t:Sem α} {Q Q':α->Shared->Prop} {M:Model} {A:Around} {E:Value->Shared->Prop} {s:Shared} (h:wpAny M A t Q E s) (hQ:∀ a s,Q a s->Q' a s):wpAny M A t Q' E s:=wpAny_mono h hQ λ_ _ x=>x
end L2
namespace L2
open PySem PySem.Spec PyProof.Rows
section
variable {X:Cx}
def gE (i:Nat):TE:=λσ H Q=>∃ v,σ[i]? = some (some v)/\Q v H
def tC (v:V):TE:=λ_ H Q=>Q v H
theorem WM {i:Nat} {x:Str} {pos:Pos} (hN:X.N[i]? = some x) (hv:jN X.env.scope x) (hd:(x == ("__debug__" : Str))=false:=by decide) (hcd:(x == ("__classdict__" : Str))=false:=by decide):PE X (.Name x pos) (gE i):=by
 intro pins s σ H Q I h
 obtain ⟨v,e,h⟩:=h
 obtain ⟨m,hn,hl⟩:=I.loc
 obtain ⟨u,r,l⟩:=hl i x v hN e hv
 have fin:EP X pins σ Q u s:=⟨v,H,I,r,h⟩
 rcases l with ⟨hk,hm⟩ | ⟨hk,c,hc,hcell⟩
 ·exact wpAny_Name (wpAny_loadName_local I.ok.kind hk hn hm fin) hd
 ·rcases hk with hk | hk
  ·exact wpAny_Name (wpAny_loadName_cell I.ok.kind hk hc hcell fin) hd
  ·exact wpAny_Name (wpAny_loadName_free I.ok.kind hk hc hcell fin hcd) hd
theorem QH {i j pos}:PE X (.Constant (.int i) j pos) (tC (.int i)):=λ_ _ _ H _ I h=>wpAny_Constant_int ⟨.int i,H,I.tok _,⟨_,rfl⟩,h⟩
theorem gF {b j pos}:PE X (.Constant (.bool b) j pos) (tC (.bl b)):=λ_ _ _ H _ I h=>Constant_bool ⟨.bl b,H,I,rfl,h⟩
theorem zP6 {j pos}:PE X (.Constant .none j pos) (tC .non):=λ_ _ _ H _ I h=>Constant_none ⟨.non,H,I,rfl,h⟩
def Gl (X:Cx) (x:Str):Prop:=X.env.kindOf x=some .globalImplicit
theorem WN {E:Value->Shared->Prop} {pins:List (Addr × Obj)} {s:Shared} {σ:St} {H:Hp} {x:Str} {u:Value} {pos:Pos} {Q:Value->Shared->Prop} (I:zH X pins σ H s) (hg:Gl X x) (hm:X.mg x=some u) (h:Q u s)
  (hd:(x == ("__debug__" : Str))=false:=by decide):wpAny (model X.prog X.w) X.A (eval (.Name x pos) X.env) Q E s:=
 Calls.Name_function_global I.ok.kind hg (Calls.loadGlobal_global (by rw [I.ok.glob]; exact I.mod.glob.keeps I.bk) hm h) hd
theorem jO {E:Value->Shared->Prop} {pins:List (Addr × Obj)} {s:Shared} {σ:St} {H:Hp} {x:Str} {u:Value} {pos:Pos} {Q:Value->Shared->Prop} (I:zH X pins σ H s) (hg:Gl X x) (hm:X.mg x=none) (hv:bootBuiltins x=some u) (h:Q u s)
  (hn:x≠"__name__":=by decide) (hd:(x == ("__debug__" : Str))=false:=by decide):wpAny (model X.prog X.w) X.A (eval (.Name x pos) X.env) Q E s:=by
 obtain ⟨mb,h1,h2⟩:=I.mod.blt
 exact Calls.Name_function_global I.ok.kind hg (Calls.loadGlobal_builtin (by rw [I.ok.glob]; exact I.mod.glob.keeps I.bk) hm (by rw [I.ok.blt]; exact h1.keeps I.bk) ((h2 x hn).trans hv) h) hd
theorem QI {x:Str} {v:V} {u:Value} {pos:Pos} (hg:Gl X x) (hm:X.mg x=some u) (r:zT v u) (hd:(x == ("__debug__" : Str))=false:=by decide):PE X (.Name x pos) (tC v):=
 λ_ _ _ H _ I h=>WN I hg hm ⟨v,H,I,r,h⟩ hd
theorem wu {x:Str} {v:V} {u:Value} {pos:Pos} (hg:Gl X x) (hm:X.mg x=none) (hv:bootBuiltins x=some u) (r:zT v u) (hn:x≠"__name__":=by decide) (hd:(x == ("__debug__" : Str))=false:=by decide):PE X (.Name x pos) (tC v):=
 λ_ _ _ H _ I h=>jO I hg hm hv ⟨v,H,I,r,h⟩ hn hd
variable {a b:Expr} {ta tb:TE} {pos:Pos}
def tB (t:TE):TT:=λσ H Q=>t σ H λx H1=>∃ c,x=.bl c/\Q c H1
theorem zPp {e:Expr} {t:TE} (h:PE X e t) (he:∀ whole,isTrue e X.env whole=(do let v <- whole; standAt e.pos; holding [v] (truthy v)):=by intro _; rfl):PT X e (tB t):=by
 intro pins s σ H Q I hw
 refine isTrue_plain (zg (h pins s σ H _ I hw) λv s1 ⟨x,H1,I1,r1,q1⟩=>?_) (he _)
 obtain ⟨d,rfl,q⟩:=q1
 cases r1
 exact wpAny_truthy_bool ⟨H1,I1,q⟩
variable {tA tB':TT} {yT:List Expr}
def WO (t u:TT):TT:=λσ H Q=>t σ H λc H1=>if c=true then u σ H1 Q else Q false H1
def tOr (t u:TT):TT:=λσ H Q=>t σ H λc H1=>if c=true then Q true H1 else u σ H1 Q
def WP (t:TT):TT:=λσ H Q=>t σ H λc H1=>Q (!c) H1
theorem zOU (ha:PT X a tA):PW X (.BoolOp .And [a] pos) tA:=by
 intro wh pins s σ H Q I h
 refine isTrue_and (zg (ha pins s σ H Q I h) λc s1 e=>?_)
 cases c with
 | true=>exact isTrue_and_nil e
 | false=>exact e
theorem zPl (ha:PT X a tA):PW X (.BoolOp .Or [a] pos) tA:=by
 intro wh pins s σ H Q I h
 refine isTrue_or (zg (ha pins s σ H Q I h) λc s1 e=>?_)
 cases c with
 | false=>exact isTrue_or_nil e
 | true=>exact e
theorem zPm (ha:PT X a tA) (hb:PW X (.BoolOp .And (b :: yT) pos) tB'):PW X (.BoolOp .And (a :: b :: yT) pos) (WO tA tB'):=by
 intro wh pins s σ H Q I h
 refine isTrue_and (zg (ha pins s σ H _ I h) λc s1 ⟨H1,I1,q1⟩=>?_)
 cases c with
 | true=>exact hb wh pins s1 σ H1 Q I1 q1
 | false=>exact ⟨H1,I1,q1⟩
theorem gG (ha:PT X a tA) (hb:PW X (.BoolOp .Or (b :: yT) pos) tB'):PW X (.BoolOp .Or (a :: b :: yT) pos) (tOr tA tB'):=by
 intro wh pins s σ H Q I h
 refine isTrue_or (zg (ha pins s σ H _ I h) λc s1 ⟨H1,I1,q1⟩=>?_)
 cases c with
 | true=>exact ⟨H1,I1,q1⟩
 | false=>exact hb wh pins s1 σ H1 Q I1 q1
theorem zPq (ha:PT X a tA):PT X (.UnaryOp .Not a pos) (WP tA):=by
 intro pins s σ H Q I h
 exact isTrue_not (ha pins s σ H (λc H1=>Q (!c) H1) I h)
def gH (ta tb:TE):TE:=λσ H Q=>ta σ H λx H1=>∃ c,x=.bl c/\if c=true then tb σ H1 Q else Q (.bl false) H1
def gI (ta:TE):TE:=λσ H Q=>ta σ H λx H1=>∃ c,x=.bl c/\Q (.bl (!c)) H1
theorem zP4 {op} {t:TE} (h:PE X a t):PE X (.BoolOp op [a] pos) t:=λpins s σ H Q I hw=>BoolOp_one (h pins s σ H Q I hw)
theorem zP9 (ha:PE X a ta) (hb:PE X (.BoolOp .And (b :: yT) pos) tb):PE X (.BoolOp .And (a :: b :: yT) pos) (gH ta tb):=by
 intro pins s σ H Q I h
 refine BoolOp_and (zg (ha pins s σ H _ I h) λv s1 ⟨x,H1,I1,r1,q1⟩=>?_)
 obtain ⟨c,rfl,q1⟩:=q1
 cases r1
 refine wpAny_truthy_bool ?_
 cases c with
 | true=>exact hb pins s1 σ H1 Q I1 q1
 | false=>exact ⟨.bl false,H1,I1,rfl,q1⟩
theorem zP5 (ha:PE X a ta):PE X (.UnaryOp .Not a pos) (gI ta):=by
 intro pins s σ H Q I h
 refine UnaryOp_ (zg (ha pins s σ H _ I h) λv s1 ⟨x,H1,I1,r1,q1⟩=>?_)
 obtain ⟨c,rfl,q1⟩:=q1
 cases r1
 exact not_of (wpAny_truthy_bool ⟨.bl (!c),H1,I1,rfl,q1⟩)
def tIf (t:TT) (ta tb:TE):TE:=λσ H Q=>t σ H λc H1=>if c=true then ta σ H1 Q else tb σ H1 Q
theorem zMu {c:Expr} (hc:PT X c tA) (ha:PE X a ta) (hb:PE X b tb):PE X (.IfExp c a b pos) (tIf tA ta tb):=by
 intro pins s σ H Q I h
 refine wpAny_IfExp (zg (hc pins s σ H _ I h) λd s1 ⟨H1,I1,q1⟩=>?_)
 cases d with
 | true=>exact ha pins s1 σ H1 Q I1 q1
 | false=>exact hb pins s1 σ H1 Q I1 q1
end
end L2
namespace L2
open PySem PySem.Spec PyProof.Rows
def zW (K:PySem.W.Frag) (H:Hp) (a:Addr) (xs:List V):Prop:=
 Rd H a (.lst xs)∨
  ∃ (o:Obj) (its:Array Value) (n:Nat),K.lookup a=some o/\o.cls=.type "list"/\o.dict=none/\o.data=.seq its n/\its.size<=sizeLine/\zN xs its.toList
def zw (K:PySem.W.Frag) (H:Hp) (a:Addr) (xs:List V):Prop:=
 Rd H a (.tup xs)∨
  ∃ (o:Obj) (its:Array Value) (n:Nat),K.lookup a=some o/\o.cls=.type "tuple"/\o.data=.seq its n/\its.size<=sizeLine/\zN xs its.toList
def WQ:Value->Option V
 | .none=>some .non
 | .bool b=>some (.bl b)
 | .int i _=>some (.int i)
 | .str x _=>some (.str x)
 | .bytes b _=>some (.byt b)
 | .float b _=>some (.flt b)
 | .ref a=>some (.ref a)
 | .type n=>some (.ty n)
 | _=>none
theorem zT.abs {x:V} {u:Value} (r:zT x u):WQ u=some x:=by
 cases x with
 | non=>cases r; rfl
 | bl _=>cases r; rfl
 | int _=>obtain ⟨t,rfl⟩:=r; rfl
 | str _=>obtain ⟨t,rfl⟩:=r; rfl
 | byt _=>obtain ⟨t,rfl⟩:=r; rfl
 | flt _=>obtain ⟨t,rfl⟩:=r; rfl
 | ref _=>cases r; rfl
 | ty _=>cases r; rfl
theorem zT.inj {x y:V} {u:Value} (r:zT x u) (q:zT y u):x=y:=Option.some.inj (r.abs.symm.trans q.abs)
theorem zN.inj:∀ {xs ys:List V} {us:List Value},zN xs us->zN ys us->xs=ys
 | _,_,_,.nil,.nil=>rfl
 | _,_,_,.cons r t,.cons r' t'=>by rw [r.inj r',zN.inj t t']
section
variable {X:Cx} {pins:List (Addr × Obj)} {σ:St} {H:Hp} {s:Shared} {a:Addr} {xs ys:List V}
theorem zW.of {K:PySem.W.Frag} (h:H a=some (.lst xs)):zW K H a xs:=.inl (.inl h)
theorem zw.of {K:PySem.W.Frag} (h:H a=some (.tup xs)):zw K H a xs:=.inl (.inl h)
theorem zH.list (I:zH X pins σ H s) (h:zW X.K H a xs):∃ its:List Value,zN xs its/\PlainL s.heap a its.toArray/\xs.length<=sizeLine:=by
 rcases h with h | ⟨o,its,n,hk,hc,hd,hs,hz,r⟩
 ·obtain ⟨z,its,n,r,e⟩:=h.ok I.hok
  exact ⟨its,r,⟨_,n,e,rfl,rfl,rfl⟩,z⟩
 ·refine ⟨its.toList,r,⟨o,n,I.kIn a o hk,hc,hd,by simpa using hs⟩,?_⟩
  have e:=r.length
  simp only [Array.length_toList] at e
  omega
theorem zH.tuple (I:zH X pins σ H s) (h:zw X.K H a xs):∃ its:List Value,zN xs its/\IsTup s.heap a its.toArray/\xs.length<=sizeLine:=by
 rcases h with h | ⟨o,its,n,hk,hc,hs,hz,r⟩
 ·obtain ⟨z,its,r,p⟩:=h.ok I.hok
  exact ⟨its,r,p,z⟩
 ·refine ⟨its.toList,r,⟨o,I.kIn a o hk,hc,n,by simpa using hs⟩,?_⟩
  have e:=r.length
  simp only [Array.length_toList] at e
  omega
theorem zH.list_inj (I:zH X pins σ H s) (h:zW X.K H a xs) (h':zW X.K H a ys):xs=ys:=by
 obtain ⟨its,r,⟨o,n,e,_,_,d⟩,_⟩:=I.list h
 obtain ⟨its',r',⟨o',n',e',_,_,d'⟩,_⟩:=I.list h'
 rw [e] at e'; cases e'
 rw [d] at d'
 injection d' with d1 _
 have:its=its':=by simpa using congrArg Array.toList d1
 subst this
 exact r.inj r'
theorem zH.tuple_inj (I:zH X pins σ H s) (h:zw X.K H a xs) (h':zw X.K H a ys):xs=ys:=by
 obtain ⟨its,r,⟨o,e,_,n,d⟩,_⟩:=I.tuple h
 obtain ⟨its',r',⟨o',e',_,n',d'⟩,_⟩:=I.tuple h'
 rw [e] at e'; cases e'
 rw [d] at d'
 injection d' with d1 _
 have:its=its':=by simpa using congrArg Array.toList d1
 subst this
 exact r.inj r'
end
abbrev Cx.wish (X:Cx) (E:Value->Shared->Prop):Cx:={ X with xe:=E }
abbrev Cx.nox (X:Cx):Cx:=X.wish λ_ _=>False
theorem Cx.Ok.wish {X:Cx} (ok:X.Ok) (E:Value->Shared->Prop):(X.wish E).Ok:=
 ⟨ok.mod,ok.kind,ok.glob,ok.blt,ok.above,ok.inj,ok.has,ok.cab,ok.hd,ok.frames,ok.stk,ok.exf,ok.bs,ok.bsz,ok.noex,ok.exfs,ok.funs,ok.frf⟩
theorem Cx.Ok.unwish {X:Cx} {E:Value->Shared->Prop} (ok:(X.wish E).Ok):X.Ok:=
 ⟨ok.mod,ok.kind,ok.glob,ok.blt,ok.above,ok.inj,ok.has,ok.cab,ok.hd,ok.frames,ok.stk,ok.exf,ok.bs,ok.bsz,ok.noex,ok.exfs,ok.funs,ok.frf⟩
section
variable {X:Cx} {pins:List (Addr × Obj)} {σ:St} {H:Hp} {s:Shared} {E:Value->Shared->Prop}
theorem zH.wish (I:zH X pins σ H s) (E:Value->Shared->Prop):zH (X.wish E) pins σ H s:=⟨I.ok.wish E,I.os,I.bare,I.base,I.loc,I.cell,I.free,I.freeC,I.pin,I.hok,I.len⟩
theorem zH.unwish (I:zH (X.wish E) pins σ H s):zH X pins σ H s:=⟨I.ok.unwish,I.os,I.bare,I.base,I.loc,I.cell,I.free,I.freeC,I.pin,I.hok,I.len⟩
theorem SP.unwish {D:xk} {f:Flow} {s':Shared} (h:SP (X.wish E) pins D f s'):SP X pins D f s':=by
 cases f with
 | next=>obtain ⟨σ',H',I,q⟩:=h; exact ⟨σ',H',I.unwish,q⟩
 | brk=>obtain ⟨σ',H',I,q⟩:=h; exact ⟨σ',H',I.unwish,q⟩
 | cont=>obtain ⟨σ',H',I,q⟩:=h; exact ⟨σ',H',I.unwish,q⟩
 | ret u=>obtain ⟨v,σ',H',I,r,q⟩:=h; exact ⟨v,σ',H',I.unwish,r,q⟩
theorem yu.nox {st:List Stmt} {t:TS} (h:yu X.nox st t):yu X st t:=λpins s σ H D I hw=>
 wpAny_mono (h pins s σ H D (I.wish _) hw) (λ_ _ q=>q.unwish) λ_ _ z=>False.elim z
end
section
variable {X:Cx} {st:Stmt} {yT:List Stmt} {t u:TS} {e:Expr} {te:TE} {pos:Pos}
def gJ:TS:=λD σ H=>D.nx σ H
def WR (t u:TS):TS:=λD σ H=>t { D with nx:=u D } σ H
theorem zOW:yu X [] gJ:=λ_ _ σ H _ I h=>wpAny_execs_nil ⟨σ,H,I,h⟩
theorem WS (h1:PS X st t) (h2:yu X yT u):yu X (st :: yT) (WR t u):=by
 intro pins s σ H D I h
 refine wpAny_execs_cons (zg (h1 pins s σ H { D with nx:=u D } I h) λf s1 q=>?_)
 cases f with
 | next=>
  obtain ⟨σ',H',I',q⟩:=q
  exact h2 pins s1 σ' H' D I' q
 | ret v=>exact q
 | brk=>exact q
 | cont=>exact q
theorem WT (h1:PS X st t):yu X [st] t:=by
 intro pins s σ H D I h
 refine wpAny_execs_cons (zg (h1 pins s σ H D I h) λf s1 q=>?_)
 cases f with
 | next=>exact wpAny_execs_nil q
 | ret v=>exact q
 | brk=>exact q
 | cont=>exact q
def zPU:TS:=λD σ H=>D.bk σ H
theorem zMm:PS X (.Break pos) zPU:=λ_ _ σ H _ I h=>wpAny_Break ⟨σ,H,I,h⟩
theorem zH.quiet {pins:List (Addr × Obj)} {σ:St} {H:Hp} {s:Shared} (I:zH X pins σ H s):interactive X.env=false:=by simp [interactive,I.ok.kind]
def QJ (te:TE):TS:=λD σ H=>te σ H λ_ H1=>D.nx σ H1
theorem xa (he:PE X e te) (hs:swapsWith e none pos.line X.env=pure false:=by rfl):PS X (.Expr e pos) (QJ te):=by
 intro pins s σ H D I h
 exact wpAny_Expr_any (zg (he pins s σ H _ I h) λv s1 ⟨x,H1,I1,r1,q1⟩=>⟨σ,H1,I1,q1⟩) I.quiet hs
def WU (te:TE):TS:=λD σ H=>te σ H D.rt
theorem QK (he:PE X e te):PS X (.Return (some e) pos) (WU te):=by
 intro pins s σ H D I h
 exact wpAny_Return_some (zg (he pins s σ H _ I h) λv s1 ⟨x,H1,I1,r1,q1⟩=>⟨x,σ,H1,I1,r1,q1⟩)
def WV (c:TT) (t u:TS):TS:=λD σ H=>c σ H λb H1=>if b=true then t D σ H1 else u D σ H1
theorem gK {c:Expr} {a b:List Stmt} {tc:TT} (hc:PT X c tc) (ha:yu X a t) (hb:yu X b u):PS X (.If c a b pos) (WV tc t u):=by
 intro pins s σ H D I h
 refine wpAny_If (zg (hc pins s σ H _ I h) λd s1 ⟨H1,I1,q1⟩=>?_)
 cases d with
 | true=>exact ha pins s1 σ H1 D I1 q1
 | false=>exact hb pins s1 σ H1 D I1 q1
def zPP:TS:=λ_ _ _=>False
theorem zMk:PS X st zPP:=λ_ _ _ _ _ _ h=>h.elim
end
abbrev TG:=V->St->Hp->(St->Hp->Prop)->Prop
abbrev uY:=List V->St->Hp->(St->Hp->Prop)->Prop
def PG (X:Cx) (target:Expr) (t:TG):Prop:=
 ∀ (pins:List (Addr × Obj)) (s:Shared) (σ:St) (H:Hp) (v:V) (u:Value) (Q:St->Hp->Prop),zH X pins σ H s->zT v u->t v σ H Q->
  wpAny (model X.prog X.w) X.A (assign target X.env u) (λ_ s'=>∃ σ' H',zH X pins σ' H' s'/\Q σ' H') X.xe s
def qN (X:Cx) (ts:List Expr) (t:uY):Prop:=
 ∀ (pins:List (Addr × Obj)) (s:Shared) (σ:St) (H:Hp) (vs:List V) (us:List Value) (Q:St->Hp->Prop),zH X pins σ H s->zN vs us->t vs σ H Q->
  wpAny (model X.prog X.w) X.A (assignInOrder ((assignEach ts X.env).map (·.2)) us) (λ_ s'=>∃ σ' H',zH X pins σ' H' s'/\Q σ' H') X.xe s
section
variable {X:Cx} {pos:Pos}
def gL (i:Nat):TG:=λv σ H Q=>Q (σ.set i (some v)) H
theorem QL {i:Nat} {x:Str} (hN:X.N.Nodup) (hi:X.N[i]? = some x) (hx:uv X.env.scope x) (hf:X.fn x=true\/X.env.scope.names.lookup x=some .local:=by first | exact .inl rfl | exact .inr rfl | assumption):PG X (.Name x pos) (gL i):=by
 intro pins s σ H v u Q I r h
 exact wpAny_assign_Name (YM I hN hi hx r (λs' I'=>⟨_,H,I',h⟩) hf)
def WW:uY:=λvs σ H Q=>vs=[]/\Q σ H
def gM (t:TG) (u:uY):uY:=λvs σ H Q=>∃ v r,vs=v :: r/\t v σ H λσ' H'=>u r σ' H' Q
theorem zOb:qN X [] WW:=by
 intro pins s σ H vs us Q I r h
 obtain ⟨e,h⟩:=h
 subst e
 cases r
 exact assignInOrder_nil ⟨σ,H,I,h⟩
theorem zMr {e:Expr} {es:List Expr} {t:TG} {u:uY} (h1:PG X e t) (h2:qN X es u)
  (hs:(assignEach (e :: es) X.env).map (·.2)=assign e X.env :: (assignEach es X.env).map (·.2):=by rfl):qN X (e :: es) (gM t u):=by
 intro pins s σ H vs us Q I r h
 obtain ⟨v,vr,e1,h⟩:=h
 subst e1
 cases r with
 | cons r rr=>
  rw [hs]
  refine assignInOrder_cons (zg (h1 pins s σ H _ _ _ I r h) λ_ s1 ⟨σ1,H1,I1,q1⟩=>?_)
  exact h2 pins s1 σ1 H1 _ _ Q I1 rr q1
def WX (K:PySem.W.Frag) (n:Nat) (t:uY):TG:=λv σ H Q=>∃ a xs,v=.ref a/\zw K H a xs/\xs.length=n/\t xs σ H Q
theorem zP0 {es:List Expr} {k:Nat} {t:uY} {n:Nat} (hc:X.calm=true) (h:qN X es t)
  (hn:(assignEach es X.env).length=n:=by rfl) (hst:(assignEach es X.env).findIdx? (·.1)=none:=by rfl):PG X (.Tuple es k pos) (WX X.K n t):=by
 intro pins s σ H v u Q I r hw
 obtain ⟨a,xs,e1,hq,hl,hw⟩:=hw
 subst e1
 cases r
 obtain ⟨its,rv,ht,hz⟩:=I.tuple hq
 refine assign_Tuple_tuple (I.ok.hd hc) ht (by simp [hn,<- hl,rv.length]) hst λh' hx=>?_
 have I1:zH X pins σ H { s with heap:=h' }:=I.kept (t':=s.toks) λb o e=>hx b o (Nat.ne_of_lt (Heap.lt_size e)) e
 exact h pins _ σ H xs _ Q I1 (by simpa using rv) hw
def v4 (te:TE) (g:TG):TS:=λD σ H=>te σ H λx H1=>g x σ H1 D.nx
theorem zPt {tg e:Expr} {te:TE} {g:TG} (he:PE X e te) (hg:PG X tg g) (hs:swapsWithSole [tg] e pos.line X.env=pure false:=by rfl) (hw:swappedStores [tg] e X.env=pure none:=by rfl)
  (h1:(assignEach [tg] X.env).map (·.2)=[assign tg X.env]:=by rfl):PS X (.Assign [tg] e pos) (v4 te g):=by
 intro pins s σ H D I h
 refine wpAny_Assign_stores (zg (he pins s σ H _ I h) λv s1 ⟨x,H1,I1,r1,q1⟩=>?_) hs hw
 rw [h1]
 exact zg (hg pins s1 σ H1 x v _ I1 r1 q1) λ_ s2 q=>q
theorem QM {i:Nat} {x:Str} {e:Expr} {te:TE} {pos':Pos} (hN:X.N.Nodup) (hi:X.N[i]? = some x) (hx:uv X.env.scope x) (he:PE X e te) (hs:swapsWith e (some (.Name x pos')) pos.line X.env=pure false:=by rfl) (hf:X.fn x=true\/X.env.scope.names.lookup x=some .local:=by first | exact .inl rfl | exact .inr rfl | assumption) :
  PS X (.Assign [.Name x pos'] e pos) (v4 te (gL i)):=by
 intro pins s σ H D I h
 refine wpAny_Assign_Name (zg (he pins s σ H _ I h) λv s1 ⟨y,H1,I1,r1,q1⟩=>?_) hs
 exact YM I1 hN hi hx r1 (λs2 I2=>⟨_,H1,I2,q1⟩) hf
def WY (i j:Nat) (ta:TA):TS:=λD σ H=>ta σ H λvs H1=>∃ v w,vs=[v,w]/\D.nx ((σ.set i (some v)).set j (some w)) H1
theorem zPr {i j:Nat} {x y:Str} {a b:Expr} {ta:TA} {px py pt:Pos} {kt k2 pt2} (hc:X.calm=true) (hN:X.N.Nodup) (hi:X.N[i]? = some x) (hj:X.N[j]? = some y) (hij:i≠j)
  (hx:X.env.scope.names.lookup x=some .local) (hy:X.env.scope.names.lookup y=some .local) (ha:PA X [a,b] ta)
  (hw:swappedStores [.Tuple [.Name x px,.Name y py] kt pt] (.Tuple [a,b] k2 pt2) X.env=pure (some [x,y]))
  (hs:swapsWithSole [.Tuple [.Name x px,.Name y py] kt pt] (.Tuple [a,b] k2 pt2) pos.line X.env=pure false:=by rfl) :
  PS X (.Assign [.Tuple [.Name x px,.Name y py] kt pt] (.Tuple [a,b] k2 pt2) pos) (WY i j ta):=by
 intro pins s σ H D I h
 rw [exec_Assign_arm]
 refine wpAny_bind (wpAny_standAt ?_)
 rw [hs]
 refine wpAny_bind (wpAny_pure ?_)
 rw [if_neg (by decide)]
 refine wpAny_bind (Tuple_ (zg (ha _ pins s σ H _ I h) λus s1 ⟨vs,H1,I1,r1,q1⟩=>?_))
 obtain ⟨v,w,e1,q1⟩:=q1
 subst e1
 obtain ⟨u1,u2,rfl,rv,rw'⟩:∃ u1 u2,us=[u1,u2]/\zT v u1/\zT w u2:=by
  cases r1 with
  | cons p q=>
   cases q with
   | cons p' q'=>
    cases q'
    exact ⟨_,_,rfl,p,p'⟩
 refine wpAny_newObj_type ?_ (by show 2<=sizeLine; decide)
 have I2:zH X pins σ H1 { s1 with heap:=s1.heap.push { cls:=.type "tuple",data:=.seq [u1,u2].toArray } }:=I1.kept (t':=s1.toks) λb o e=>Heap.get?_push_of_some _ e
 rw [hw]
 refine wpAny_bind (wpAny_pure ?_)
 show wpAny (model X.prog X.w) X.A (do rule "assign.swapped-stores"; let items <- unpackItems (.ref s1.heap.objs.size) 2 none; assignInOrder [λv=>bindName X.env y v,λv=>bindName X.env x v] items.reverse; pure Flow.next) _ _ _
 refine wpAny_bind (wpAny_rule (wpAny_bind (unpackItems_tuple (items:=#[u1,u2]) (I.ok.hd hc) (IsTup.new s1.heap _) λh' hx'=>?_)))
 have I3:=I2.kept (h':=h') (t':=s1.toks) λb o e=>hx' b o (Nat.ne_of_lt (Heap.lt_size e)) e
 show wpAny _ _ (assignInOrder [λv=>bindName X.env y v,λv=>bindName X.env x v] [u2,u1] >>= λ_=>pure Flow.next) _ _ _
 refine wpAny_bind (assignInOrder_cons (wpAny_bindName (YM I3 hN hj (.inl hy) rw' (λs2 I4=>?_) (.inr hy))))
 refine assignInOrder_cons (wpAny_bindName (YM I4 hN hi (.inl hx) rv (λs3 I5=>assignInOrder_nil (wpAny_pure ?_)) (.inr hx)))
 rw [List.set_comm _ _ (Ne.symm hij)] at I5
 exact ⟨_,H1,I5,q1⟩
end
section
variable {X:Cx} {pos:Pos}
def QN (c:TT) (tb:TS):TS:=λD σ H=>∃ W:Nat->St->Hp->Prop,(∃ m,W m σ H)/\∀ m σ H,W m σ H->
 c σ H λb H1=>if b=true then ∃ N:St->Hp->Prop,(∀ σ' H',N σ' H'->∃ m',m' < m/\W m' σ' H')/\tb { D with nx:=N,ct:=N,bk:=D.nx } σ H1 else D.nx σ H1
theorem zMj {c:Expr} {body:List Stmt} {tc:TT} {tb:TS} (hp:PassesOwn (model X.prog X.w) X.A X.env X.xe) (hc:PT X c tc) (hb:yu X body tb):PS X (.While c body [] pos) (QN tc tb):=by
 intro pins s σ H D I h
 obtain ⟨W,⟨m0,w0⟩,turn⟩:=h
 refine wpAny_While (codeAny_whileLoop (λn s'=>∃ σ' H',zH X pins σ' H' s'/\W n σ' H') ?_ m0 ⟨σ,H,I,w0⟩)
 rintro n s1 ⟨σ1,H1,I1,w1⟩
 refine wpAny_passesOwn hp (zg (hc pins s1 σ1 H1 _ I1 (turn n σ1 H1 w1)) λb s2 ⟨H2,I2,q2⟩=>?_)
 cases b with
 | true=>
  obtain ⟨N,hN,q2⟩:=q2
  rw [if_pos rfl]
  refine wpAny_passesOwn hp (zg (hb pins s2 σ1 H2 _ I2 q2) λf s3 q3=>?_)
  cases f with
  | next=>
   obtain ⟨σ3,H3,I3,n3⟩:=q3
   obtain ⟨m',hm,w3⟩:=hN σ3 H3 n3
   exact ⟨m',hm,σ3,H3,I3,w3⟩
  | cont=>
   obtain ⟨σ3,H3,I3,n3⟩:=q3
   obtain ⟨m',hm,w3⟩:=hN σ3 H3 n3
   exact ⟨m',hm,σ3,H3,I3,w3⟩
  | brk=>exact q3
  | ret v=>exact q3
 | false=>
  rw [if_neg Bool.false_ne_true]
  exact wpAny_execs_nil ⟨σ1,H2,I2,q2⟩
end
structure It where
 go:Nat->Hp->Prop
 yld:Nat->Hp->V->Hp->Prop
 stop:Nat->Hp->Prop
def yL (X:Cx) (pins:List (Addr × Obj)) (H:Hp) (b:Addr):Prop:=
 H b=none/\b≠X.env.locals/\b∉X.fs/\(b∈X.ex\/X.s₀.heap.objs.size<=b)/\(∀ x c,X.env.cells.lookup x=some c->c≠b)/\∀ p∈X.pn++pins,p.1≠b
theorem zH.fpOk {X:Cx} {pins:List (Addr × Obj)} {σ:St} {H H':Hp} {s:Shared} {b:Addr} (I:zH X pins σ H s) (hb:s.heap.objs.size<=b) (hn:H' b=none):yL X pins H' b:=by
 refine ⟨hn,Nat.ne_of_gt (Nat.lt_of_lt_of_le I.lt hb),I.nofs hb,.inr (Nat.le_trans I.sz hb),λx c e z=>?_,λp hp z=>?_⟩
 ·obtain ⟨v,q⟩:=I.cell x c e
  exact absurd (Nat.lt_of_lt_of_le q.lt (by rw [z]; exact hb)) (Nat.lt_irrefl _)
 ·exact absurd (Nat.lt_of_lt_of_le (Heap.lt_size (I.pin p hp).1) (by rw [z]; exact hb)) (Nat.lt_irrefl _)
structure xN (P:Program) (w:World) (K:PySem.W.Frag) (tg:Expr) (J:It) (fp:List Addr) (it:Addr) (tn:Nat->Heap->Prop):Prop where
 mem:it∈fp
 obj:∀ i h,tn i h->∀ b∈fp,∃ o,h.get? b=some o/\∀ v,o.data≠.cell v
 keep:∀ i h h',tn i h->(∀ b∈fp,∀ o,h.get? b=some o->h'.get? b=some o)->tn i h'
 item:∀ (X:Cx),X.prog=P->X.w=w->X.K=K->X.calm=true->∀ (i:Nat) (pins:List (Addr × Obj)) (s:Shared) (σ:St) (H:Hp) (E:Value->Shared->Prop),zH X pins σ H s->(∀ b∈fp,yL X pins H b)->tn i s.heap->J.go i H->
  wpAny (model P w) X.A (pyNext (.ref it)) (λr s1=>∃ u,r=some u∧
   wpAny (model P w) X.A (letOwnedTupleGo tg (.ref it) u) (λ_ s2=>∃ x H',zH X pins σ H' s2/\zT x u/\J.yld i H x H'/\tn (i + 1) s2.heap/\∀ b∈fp,H' b=none) E s1) E s
 done:∀ (X:Cx),X.prog=P->X.w=w->X.K=K->X.calm=true->∀ (i:Nat) (pins:List (Addr × Obj)) (s:Shared) (σ:St) (H:Hp) (E:Value->Shared->Prop),zH X pins σ H s->(∀ b∈fp,yL X pins H b)->tn i s.heap->J.stop i H->
  wpAny (model P w) X.A (pyNext (.ref it)) (λr s1=>r=none/\zH X pins σ H s1) E s
 self:∀ (A:Around) (i:Nat) (s:Shared) (Q:Value->Shared->Prop) (E:Value->Shared->Prop),tn i s.heap->Q (.ref it) s->wpAny (model P w) A (pyIter (.ref it)) Q E s
abbrev TI:=St->Hp->(It->Hp->Prop)->Prop
def QO (X:Cx) (pins:List (Addr × Obj)) (σ:St) (tg:Expr) (R:It->Hp->Prop) (itv:Value) (s2:Shared):Prop:=
 ∃ (it:Addr) (fp:List Addr) (tn:Nat->Heap->Prop) (J:It) (H':Hp),itv=.ref it/\zH X pins σ H' s2/\xN X.prog X.w X.K tg J fp it tn/\tn 0 s2.heap/\(∀ b∈fp,yL X pins H' b)/\R J H'
def PI (X:Cx) (tg iter:Expr) (wi:TI):Prop:=
 ∀ (pins:List (Addr × Obj)) (s:Shared) (σ:St) (H:Hp) (R:It->Hp->Prop),zH X pins σ H s->wi σ H R->
  wpAny (model X.prog X.w) X.A (eval iter X.env) (λv s1=>wpAny (model X.prog X.w) X.A (pyIter v) (QO X pins σ tg R) X.xe s1) X.xe s
theorem WZ {M:Model} {A:Around} {E:Value->Shared->Prop} {s:Shared} {tg:Expr} {it:Addr} {u:Value} {o:Obj} {n:String} {vs:Array Value} {Q:Unit->Shared->Prop} (ho:s.heap.get? it=some o) (hc:o.cls=.type n) (hd:o.data=.fields vs)
  (hn:["enumerate","zip","dict_itemiterator","dict_reverseitemiterator","odict_iterator","itertools.zip_longest","itertools.pairwise"].contains n=false) (hQ:Q () s):wpAny M A (letOwnedTupleGo tg (.ref it) u) Q E s:=by
 unfold letOwnedTupleGo
 cases tg <;> first
  | exact wpAny_pure hQ
  | (cases u <;> first
    | exact wpAny_pure hQ
    | (refine wpAny_bind (wpAny_load ho ?_)
       rw [hc,hd]
       show wpAny M A (if (["enumerate","zip","dict_itemiterator","dict_reverseitemiterator","odict_iterator","itertools.zip_longest","itertools.pairwise"].contains n && vs[0]? == some (rawInt _))=true then _ else _) Q E s
       rw [if_neg (by intro h; rw [hn,Bool.false_and] at h; cases h)]
       exact wpAny_pure hQ))
def Wa (K:PySem.W.Frag) (a:Addr):It:=
 ⟨λi H=>∃ xs x,zW K H a xs/\xs[i]? = some x,λi H x H'=>H'=H/\∀ xs,zW K H a xs->xs[i]? = some x,λi H=>∃ xs,zW K H a xs/\xs.length<=i⟩
def Wb (K:PySem.W.Frag) (a:Addr):It:=
 ⟨λi H=>∃ xs x,zw K H a xs/\xs[i]? = some x,λi H x H'=>H'=H/\∀ xs,zw K H a xs->xs[i]? = some x,λi H=>∃ xs,zw K H a xs/\xs.length<=i⟩
def YN (lo:Int) (n:Nat):It:=⟨λi _=>i < n,λi H x H'=>H'=H/\x=.int (lo + i),λi _=>n<=i⟩
theorem zKF {P:Program} {w:World} {K:PySem.W.Frag} {tg:Expr} (a it:Addr):xN P w K tg (Wa K a) [it] it (λi h=>h.IsListIter it a i) where
 mem:=by simp
 obj:=λi h st b hb=>by
  have e:b=it:=by simpa using hb
  subst e
  obtain ⟨o,e,c,d⟩:=st
  exact ⟨o,e,λv z=>by rw [d] at z; cases z⟩
 keep:=λi h h' st k=>st.at λo e=>k it (by simp) o e
 item:=by
  intro X hP hw hK hc i pins s σ H E I hf st hg
  subst hP hw hK
  obtain ⟨xs,x,hq,hx⟩:=hg
  obtain ⟨its,rv,p,hz⟩:=I.list hq
  obtain ⟨u,hu,ru⟩:=rv.get hx
  obtain ⟨f0,f1,f2,f3,f4,f5⟩:=hf it (by simp)
  refine wpAny_pyNext_list_item st p.isList (x:=u) (by simpa using hu) λh' st' sb=>?_
  have I1:zH X pins σ H { s with heap:=h' }:=I.turned (t':=s.toks) (λb o hb e=>(sb.2 b hb).trans e) f0 f1 f3 f4 f5
  obtain ⟨o,e,c,d⟩:=id st'
  exact ⟨u,rfl,WZ (s:={ s with heap:=h' }) e c d (by decide) ⟨x,H,I1,ru,⟨rfl,λys hy=>by rw [I.list_inj hy hq]; exact hx⟩,st',λb hb=>(hf b hb).1⟩⟩
 done:=by
  intro X hP hw hK hc i pins s σ H E I hf st hg
  subst hP hw hK
  obtain ⟨xs,hq,hx⟩:=hg
  obtain ⟨its,rv,p,hz⟩:=I.list hq
  obtain ⟨f0,f1,f2,f3,f4,f5⟩:=hf it (by simp)
  have hl:=rv.length
  exact wpAny_pyNext_list_end (I.ok.hd hc) st p.isList (by simp; omega) λh' eb=>⟨rfl,I.turned (t':=s.toks) (λb o hb e=>eb b o hb e) f0 f1 f3 f4 f5⟩
 self:=λ_ _ _ _ _ st h=>wpAny_pyIter_listiter st h
theorem zJM {P:Program} {w:World} {K:PySem.W.Frag} {tg:Expr} (a it:Addr):xN P w K tg (Wb K a) [it] it (λi h=>h.IsTupleIter it a i) where
 mem:=by simp
 obj:=λi h st b hb=>by
  have e:b=it:=by simpa using hb
  subst e
  obtain ⟨o,e,c,d⟩:=st
  exact ⟨o,e,λv z=>by rw [d] at z; cases z⟩
 keep:=λi h h' st k=>st.at λo e=>k it (by simp) o e
 item:=by
  intro X hP hw hK hc i pins s σ H E I hf st hg
  subst hP hw hK
  obtain ⟨xs,x,hq,hx⟩:=hg
  obtain ⟨its,rv,p,hz⟩:=I.tuple hq
  obtain ⟨u,hu,ru⟩:=rv.get hx
  obtain ⟨f0,f1,f2,f3,f4,f5⟩:=hf it (by simp)
  refine wpAny_pyNext_tuple_item st (show s.heap.IsTuple a its.toArray from p) (x:=u) (by simpa using hu) λh' st' sb=>?_
  have I1:zH X pins σ H { s with heap:=h' }:=I.turned (t':=s.toks) (λb o hb e=>(sb.2 b hb).trans e) f0 f1 f3 f4 f5
  obtain ⟨o,e,c,d⟩:=id st'
  exact ⟨u,rfl,WZ (s:={ s with heap:=h' }) e c d (by decide) ⟨x,H,I1,ru,⟨rfl,λys hy=>by rw [I.tuple_inj hy hq]; exact hx⟩,st',λb hb=>(hf b hb).1⟩⟩
 done:=by
  intro X hP hw hK hc i pins s σ H E I hf st hg
  subst hP hw hK
  obtain ⟨xs,hq,hx⟩:=hg
  obtain ⟨its,rv,p,hz⟩:=I.tuple hq
  obtain ⟨f0,f1,f2,f3,f4,f5⟩:=hf it (by simp)
  have hl:=rv.length
  exact wpAny_pyNext_tuple_end (I.ok.hd hc) st (show s.heap.IsTuple a its.toArray from p) (by simp; omega) λh' eb=>⟨rfl,I.turned (t':=s.toks) (λb o hb e=>eb b o hb e) f0 f1 f3 f4 f5⟩
 self:=λ_ _ _ _ _ st h=>wpAny_pyIter_tupleiter st h
theorem zJN {P:Program} {w:World} {K:PySem.W.Frag} {tg:Expr} (it:Addr) (lo:Int) (n:Nat):xN P w K tg (YN lo n) [it] it (λi h=>IsRangeIter h it (lo + (i:Nat) * 1) ((n:Int) - (i:Nat)) 1) where
 mem:=by simp
 obj:=λi h st b hb=>by
  have e:b=it:=by simpa using hb
  subst e
  exact ⟨_,st,λv z=>by
   have z':Data.fields _=Data.cell v:=z
   cases z'⟩
 keep:=λi h h' st k=>k it (by simp) _ st
 item:=by
  intro X hP hw hK hc i pins s σ H E I hf st hg
  subst hP hw hK
  obtain ⟨f0,f1,f2,f3,f4,f5⟩:=hf it (by simp)
  have W:=Walks.range (prog:=X.prog) (w:=X.w) (I.ok.hd hc) it lo 1 n
  refine W.item i s _ _ hg st λv h' tk hv st' kk=>?_
  obtain ⟨t,rfl⟩:=hv
  have I1:zH X pins σ H { s with heap:=h',toks:=tk }:=I.turned (λb o hb e=>kk b o (by simpa using hb) e) f0 f1 f3 f4 f5
  refine ⟨_,rfl,WZ (s:={ s with heap:=h',toks:=tk }) (n:="range_iterator") st' rfl rfl (by decide) ⟨.int (lo + i),H,I1,⟨t,?_⟩,⟨rfl,rfl⟩,st',λb hb=>(hf b hb).1⟩⟩
  rw [Int.mul_one]
 done:=by
  intro X hP hw hK hc i pins s σ H E I hf st hg
  subst hP hw hK
  obtain ⟨f0,f1,f2,f3,f4,f5⟩:=hf it (by simp)
  exact wpAny_pyNext_range_end (I.ok.hd hc) st (by have:n<=i:=hg; omega) λh' eb=>⟨rfl,I.turned (t':=s.toks) (λb o hb e=>eb b o hb e) f0 f1 f3 f4 f5⟩
 self:=λ_ _ _ _ _ st h=>wpAny_pyIter_rangeiter st h
end L2
namespace L2
open PySem PySem.Spec PyProof.Rows
section
variable {X:Cx} {tg:Expr}
theorem zMf {pins:List (Addr × Obj)} {σ:St} {H:Hp} {s:Shared} {R:It->Hp->Prop} {E:Value->Shared->Prop} {lo hi:Int} {t u v:Tok} {tk:Nat} (I:zH X pins σ H s) (h1 : -(2 ^ 62)<=lo) (h2:lo < 2 ^ 62) (h3 : -(2 ^ 62)<=hi) (h4:hi < 2 ^ 62)
  (q:R (YN lo (hi - lo).toNat) H):wpAny (model X.prog X.w) X.A (pyIter (.ref s.heap.objs.size)) (QO X pins σ tg R) E { s with heap:=s.heap.push { cls:=.type "range",data:=.fields #[.int lo t,.int hi u,.int 1 v] },toks:=tk }:=by
 refine wpAny_pyIter_range (IsRange.new ..) (small_one h1 h2 h3 h4) ?_
 have I1:zH X pins σ H { s with heap:=s.heap.push { cls:=.type "range",data:=.fields #[.int lo t,.int hi u,.int 1 v] },toks:=tk }:=I.kept λb o e=>Heap.get?_push_of_some _ e
 refine ⟨(s.heap.push { cls:=.type "range",data:=.fields #[.int lo t,.int hi u,.int 1 v] }).objs.size,[(s.heap.push { cls:=.type "range",data:=.fields #[.int lo t,.int hi u,.int 1 v] }).objs.size],_,_,H,rfl,
  I1.kept (t':=tk) λb o e=>Heap.get?_push_of_some _ e,zJN _ lo (hi - lo).toNat,?_,λb hb=>?_,q⟩
 ·have e1:lo + ((0:Nat):Int) * 1=lo:=by simp
  have e2:(((hi - lo).toNat:Nat):Int) - ((0:Nat):Int)=Builtin.Range.rangeSize lo hi 1:=by rw [rangeSize_one]; split <;> omega
  show IsRangeIter _ _ (lo + ((0:Nat):Int) * 1) ((((hi - lo).toNat:Nat):Int) - ((0:Nat):Int)) 1
  rw [e1,e2]
  exact Heap.get?_push_size _ rfl
 ·have e:b=(s.heap.push { cls:=.type "range",data:=.fields #[.int lo t,.int hi u,.int 1 v] }).objs.size:=by simpa using hb
  subst e
  exact I1.fpOk (Nat.le_refl _) (I1.hok.fresh (Nat.le_refl _))
def gN (ta:TA):TI:=λσ H R=>ta σ H λvs H1=>∃ j:Int,vs=[.int j]/\-(2 ^ 62)<=j/\j < 2 ^ 62/\R (YN 0 j.toNat) H1
theorem zKj {a:Expr} {ta:TA} {p pos:Pos} (hg:Gl X "range") (hm:X.mg "range" = none) (ha:PA X [a] ta) (hs:starEach [a] X.env=[(false,eval a X.env)]:=by rfl):PI X tg (.Call (.Name "range" p) [a] [] pos) (gN ta):=by
 intro pins s σ H R I h
 refine Call_ (jO I hg hm boot_range (PyProof.Rows.callWith_type1 (zg (ha pos pins s σ H _ I h) λus s1 ⟨vs,H1,I1,r1,q1⟩=>?_) hs rfl))
 obtain ⟨j,e,q1,q2,q⟩:=q1
 subst e
 cases r1 with
 | cons r rr=>
  cases rr
  obtain ⟨t,rfl⟩:=r
  exact call_range_1 (zMf I1 (by omega) (by omega) q1 q2 (by simpa using q))
def Wc (wi:TI) (g:TG) (tb:TS):TS:=λD σ H=>wi σ H λJ H1=>∃ W:Nat->Nat->St->Hp->Prop,(∃ m,W 0 m σ H1)/\∀ i m σ H,W i m σ H->
 (J.stop i H/\D.nx σ H)\/(J.go i H/\∃ N:St->Hp->Prop,(∀ σ' H',N σ' H'->∃ m',m' < m/\W (i + 1) m' σ' H')/\∀ x H',J.yld i H x H'->g x σ H' λσ2 H2=>tb { D with nx:=N,ct:=N,bk:=D.nx } σ2 H2)
def qO (fp:List Addr) (h:Heap):List (Addr × Obj):=fp.filterMap λb=>(h.get? b).map λo=>(b,o)
theorem uw {fp:List Addr} {h:Heap} {b:Addr} {o:Obj} (hb:b∈fp) (e:h.get? b=some o):(b,o)∈qO fp h:=List.mem_filterMap.mpr ⟨b,hb,by rw [e]; rfl⟩
theorem zK9 {fp:List Addr} {h:Heap} {p:Addr × Obj} (hp:p∈qO fp h):p.1∈fp/\h.get? p.1=some p.2:=by
 obtain ⟨b,hb,e⟩:=List.mem_filterMap.mp hp
 cases q:h.get? b with
 | none=>rw [q] at e; cases e
 | some o=>
  rw [q] at e
  have e':(b,o)=p:=Option.some.inj e
  subst e'
  exact ⟨hb,q⟩
theorem zH.pinned {pins:List (Addr × Obj)} {σ:St} {H:Hp} {s:Shared} {fp:List Addr} (I:zH X pins σ H s) (hf:∀ b∈fp,yL X pins H b) (ho:∀ b∈fp,∃ o,s.heap.get? b=some o/\∀ v,o.data≠.cell v):zH X (pins++qO fp s.heap) σ H s:=
 I.pins_of λp hp=>(List.mem_append.mp hp).elim (λz=>I.pin p (List.mem_append_right _ z)) λz=>by
  obtain ⟨hb,e⟩:=zK9 z
  obtain ⟨f0,f1,f2,_⟩:=hf p.1 hb
  obtain ⟨o,e',d⟩:=ho p.1 hb
  rw [e] at e'; cases e'
  exact ⟨e,f0,f1,f2,d⟩
theorem zH.unpinned {pins pl:List (Addr × Obj)} {σ:St} {H:Hp} {s:Shared} (I:zH X (pins++pl) σ H s):zH X pins σ H s:=I.pins_of λp hp=>I.pin p (List.mem_append_right _ (List.mem_append_left _ hp))
theorem zPs {iter:Expr} {body:List Stmt} {wi:TI} {g:TG} {tb:TS} {pos:Pos} (hp:PassesOwn (model X.prog X.w) X.A X.env X.xe) (hc:X.calm=true) (hi:PI X tg iter wi) (hg:PG X tg g) (hb:yu X body tb)
  (hs:∀ x,foldedSetIterable iter X.env x=pure x:=by intro _; rfl):PS X (.For tg iter body [] pos) (Wc wi g tb):=by
 intro pins s σ H D I h
 refine wpAny_For (zg (hi pins s σ H _ I h) λv s1 h1=>zg h1 λitv s2 h2=>?_) hs
 obtain ⟨it,fp,tn,J,H2,e,I2,T,st2,f2,W,⟨m0,w0⟩,turn⟩:=h2
 subst e
 have stat:∀ {H':Hp},(∀ b∈fp,H' b=none)->∀ b∈fp,yL X pins H' b:=λhn b hb=>⟨hn b hb,(f2 b hb).2⟩
 refine codeAny_forLoop_any (λn s'=>∃ i σ' H',zH X pins σ' H' s'/\tn i s'.heap/\(∀ b∈fp,H' b=none)/\W i n σ' H') ?_ m0 ⟨0,σ,H2,I2,st2,λb hb=>(f2 b hb).1,w0⟩
 rintro n s3 ⟨i,σ3,H3,I3,st3,fr3,w3⟩
 rcases turn i n σ3 H3 w3 with ⟨stop,qn⟩ | ⟨go,N,hN,step⟩
 ·refine wpAny_passesOwn hp (zg (T.done X rfl rfl rfl hc i pins s3 σ3 H3 X.xe I3 (stat fr3) st3 stop) λr s4 ⟨hr,I4⟩=>?_)
  subst hr
  exact wpAny_execs_nil ⟨σ3,H3,I4,qn⟩
 ·refine wpAny_passesOwn hp (zg (T.item X rfl rfl rfl hc i pins s3 σ3 H3 X.xe I3 (stat fr3) st3 go) λr s4 ⟨u,hr,h4⟩=>?_)
  subst hr
  refine wpAny_passesOwn hp (zg h4 λ_ s5 ⟨x,H5,I5,r5,y5,st5,fr5⟩=>?_)
  have I5':=I5.pinned (stat fr5) (T.obj _ _ st5)
  refine wpAny_passesOwn hp (zg (hg _ s5 σ3 H5 x u _ I5' r5 (step x H5 y5)) λ_ s6 ⟨σ6,H6,I6,q6⟩=>?_)
  refine wpAny_passesOwn hp (zg (hb _ s6 σ6 H6 _ I6 q6) λf s7 q7=>?_)
  have again:∀ {σ7:St} {H7:Hp},zH X (pins++qO fp s5.heap) σ7 H7 s7->N σ7 H7->∃ m,m < n/\∃ i σ' H',zH X pins σ' H' s7/\tn i s7.heap/\(∀ b∈fp,H' b=none)/\W i m σ' H':=λ{σ7 H7} I7 n7=>by
   obtain ⟨m',hm,w7⟩:=hN σ7 H7 n7
   refine ⟨m',hm,i + 1,σ7,H7,I7.unpinned,T.keep _ _ _ st5 λb hb o e=>(I7.pin (b,o) (List.mem_append_right _ (List.mem_append_right _ (uw hb e)))).1,λb hb=>?_,w7⟩
   obtain ⟨o,e,d⟩:=T.obj _ _ st5 b hb
   exact (I7.pin (b,o) (List.mem_append_right _ (List.mem_append_right _ (uw hb e)))).2.1
  cases f with
  | next=>obtain ⟨σ7,H7,I7,n7⟩:=q7; exact again I7 n7
  | cont=>obtain ⟨σ7,H7,I7,n7⟩:=q7; exact again I7 n7
  | brk=>obtain ⟨σ7,H7,I7,q7⟩:=q7; exact ⟨σ7,H7,I7.unpinned,q7⟩
  | ret v=>obtain ⟨x7,σ7,H7,I7,r7,q7⟩:=q7; exact ⟨x7,σ7,H7,I7.unpinned,r7,q7⟩
end
theorem zMO {c:TT} {tb:TS} {D:xk} {σ:St} {H:Hp} (Pv:St->Hp->Prop) (μ:St->Hp->Nat) (h0:Pv σ H)
  (hs:∀ σ H,Pv σ H->c σ H λb H1=>if b=true then tb { D with nx:=λσ' H'=>Pv σ' H'/\μ σ' H' < μ σ H,ct:=λσ' H'=>Pv σ' H'/\μ σ' H' < μ σ H,bk:=D.nx } σ H1 else D.nx σ H1)
  (mono:∀ σ H Q Q',(∀ b H1,Q b H1->Q' b H1)->c σ H Q->c σ H Q'):QN c tb D σ H:=by
 refine ⟨λm σ H=>m=μ σ H/\Pv σ H,⟨_,rfl,h0⟩,?_⟩
 rintro m σ H ⟨rfl,p⟩
 refine mono σ H _ _ (λb H1 q=>?_) (hs σ H p)
 cases b with
 | true=>exact ⟨_,λσ' H' ⟨p',l⟩=>⟨_,l,rfl,p'⟩,q⟩
 | false=>exact q
end L2
namespace L2
open PySem PySem.Spec PyProof.Rows
abbrev R2:=V->V->Hp->VK->Prop
def yn (X:Cx) (f:Value->Value->Sem Value) (r:R2):Prop:=
 ∀ (pins:List (Addr × Obj)) (s:Shared) (σ:St) (H:Hp) (x y:V) (v u:Value) (Q:VK),zH X pins σ H s->zT x v->zT y u->r x y H Q->
  wpAny (model X.prog X.w) X.A (f v u) (EP X pins σ Q) X.xe s
def We (X:Cx) (f:Value->Sem Value) (r:V->Hp->VK->Prop):Prop:=
 ∀ (pins:List (Addr × Obj)) (s:Shared) (σ:St) (H:Hp) (x:V) (v:Value) (Q:VK),zH X pins σ H s->zT x v->r x H Q->
  wpAny (model X.prog X.w) X.A (f v) (EP X pins σ Q) X.xe s
def wv (X:Cx) (f:Value) (r:List V->Hp->VK->Prop):Prop:=
 ∀ (pins:List (Addr × Obj)) (s:Shared) (σ:St) (H:Hp) (xs:List V) (us:List Value) (Q:VK),zH X pins σ H s->zN xs us->r xs H Q->
  wpAny (model X.prog X.w) X.A (call f us) (EP X pins σ Q) X.xe s
def gO (r:R2) (ta tb:TE):TE:=λσ H Q=>ta σ H λx H1=>tb σ H1 λy H2=>r x y H2 Q
def tUn (r:V->Hp->VK->Prop) (ta:TE):TE:=λσ H Q=>ta σ H λx H1=>r x H1 Q
def rI (C:Int->Int->Prop) (g:Int->Int->V):R2:=λx y H Q=>∃ i j,x=.int i/\y=.int j/\C i j/\Q (g i j) H
def vj (g:Int->Int->V):R2:=λx y H Q=>∃ i j,x=.int i/\y=.int j/\Q (g i j) H
def rU (g:Int->V):V->Hp->VK->Prop:=λx H Q=>∃ i,x=.int i/\Q (g i) H
section
variable {X:Cx} {a b c:Expr} {ta tb tc:TE} {pos:Pos}
theorem jP (ha:PE X a ta) (hb:PE X b tb) {pins:List (Addr × Obj)} {s:Shared} {σ:St} {H:Hp} {R:V->V->Hp->Prop} (I:zH X pins σ H s)
  (h:ta σ H λx H1=>tb σ H1 λy H2=>R x y H2) {Q:Value->Shared->Prop} {f:Value->Value->Sem Value}
  (hf:∀ v u s2 x y H2,zH X pins σ H2 s2->zT x v->zT y u->R x y H2->wpAny (model X.prog X.w) X.A (f v u) Q X.xe s2) :
  wpAny (model X.prog X.w) X.A (eval a X.env) (λv s₁=>wpAny (model X.prog X.w) X.A (eval b X.env) (λu s₂=>wpAny (model X.prog X.w) X.A (f v u) Q X.xe s₂) X.xe s₁) X.xe s:=by
 refine zg (ha pins s σ H _ I h) λv s1 ⟨x,H1,I1,r1,q1⟩=>?_
 refine zg (hb pins s1 σ H1 _ I1 q1) λu s2 ⟨y,H2,I2,r2,q2⟩=>?_
 exact hf v u s2 x y H2 I2 r1 r2 q2
theorem QP {op:Operator} {r:R2} (ho:yn X (binaryOp op) r) (ha:PE X a ta) (hb:PE X b tb):PE X (.BinOp a op b pos) (gO r ta tb):=by
 intro pins s σ H Q I h
 exact wpAny_BinOp (jP ha hb I h λv u s2 x y H2 I2 rx ry q=>ho pins s2 σ H2 x y v u Q I2 rx ry q)
theorem gP {op:UnaryOp} {r:V->Hp->VK->Prop} (ho:We X (unaryOp op) r) (ha:PE X a ta):PE X (.UnaryOp op a pos) (tUn r ta):=by
 intro pins s σ H Q I h
 exact UnaryOp_ (zg (ha pins s σ H _ I h) λv s1 ⟨x,H1,I1,r1,q1⟩=>ho pins s1 σ H1 x v Q I1 r1 q1)
theorem YO {f:Value->Value->Sem Value} {C:Int->Int->Prop} {g:Int->Int->Int}
  (rule:∀ (i j:Int) (t u:Tok) (s:Shared) (Q:Value->Shared->Prop) (E:Value->Shared->Prop),C i j->Q (.int (g i j) s.toks) { s with toks:=s.toks + 1 }->wpAny (model X.prog X.w) X.A (f (.int i t) (.int j u)) Q E s) :
  yn X f (rI C λi j=>.int (g i j)):=by
 intro pins s σ H x y v u Q I rx ry h
 obtain ⟨i,j,rfl,rfl,hc,q⟩:=h
 obtain ⟨t,rfl⟩:=rx
 obtain ⟨t',rfl⟩:=ry
 exact rule i j t t' s _ _ hc ⟨.int (g i j),H,I.tok _,⟨_,rfl⟩,q⟩
theorem gQ {f:Value->Value->Sem Value} {g:Int->Int->Int}
  (rule:∀ (i j:Int) (t u:Tok) (s:Shared) (Q:Value->Shared->Prop) (E:Value->Shared->Prop),Q (.int (g i j) s.toks) { s with toks:=s.toks + 1 }->wpAny (model X.prog X.w) X.A (f (.int i t) (.int j u)) Q E s) :
  yn X f (vj λi j=>.int (g i j)):=by
 intro pins s σ H x y v u Q I rx ry h
 obtain ⟨i,j,rfl,rfl,q⟩:=h
 obtain ⟨t,rfl⟩:=rx
 obtain ⟨t',rfl⟩:=ry
 exact rule i j t t' s _ _ ⟨.int (g i j),H,I.tok _,⟨_,rfl⟩,q⟩
theorem uZ {f:Value->Value->Sem Value} {g:Int->Int->Bool}
  (rule:∀ (i j:Int) (t u:Tok) (s:Shared) (Q:Value->Shared->Prop) (E:Value->Shared->Prop),Q (.bool (g i j)) s->wpAny (model X.prog X.w) X.A (f (.int i t) (.int j u)) Q E s) :
  yn X f (vj λi j=>.bl (g i j)):=by
 intro pins s σ H x y v u Q I rx ry h
 obtain ⟨i,j,rfl,rfl,q⟩:=h
 obtain ⟨t,rfl⟩:=rx
 obtain ⟨t',rfl⟩:=ry
 exact rule i j t t' s _ _ ⟨.bl (g i j),H,I,rfl,q⟩
def jQ (i j:Int):Prop:=0<=j/\j<=1000000/\i.natAbs < 2 ^ 64
theorem zQO:yn X (binaryOp .Add) (vj λi j=>.int (i + j)):=gQ λ_ _ _ _ _ _ _ q=>add_int q
theorem zQE:yn X (binaryOp .Sub) (vj λi j=>.int (i - j)):=gQ λ_ _ _ _ _ _ _ q=>sub_int q
theorem QQ:yn X (binaryOp .Mod) (rI (λ_ j=>j≠0) λi j=>.int (i.fmod j)):=YO λ_ _ _ _ _ _ _ hc q=>mod_int' hc q
theorem zQG:yn X (binaryOp .Pow) (rI jQ λi j=>.int (i ^ j.toNat)):=YO λ_ _ _ _ _ _ _ hc q=>pow_int_small hc.1 hc.2.1 hc.2.2 q
theorem unI {f:Value->Sem Value} {g:Int->Int}
  (rule:∀ (i:Int) (t:Tok) (s:Shared) (Q:Value->Shared->Prop) (E:Value->Shared->Prop),Q (.int (g i) s.toks) { s with toks:=s.toks + 1 }->wpAny (model X.prog X.w) X.A (f (.int i t)) Q E s) :
  We X f (rU λi=>.int (g i)):=by
 intro pins s σ H x v Q I rx h
 obtain ⟨i,rfl,q⟩:=h
 obtain ⟨t,rfl⟩:=rx
 exact rule i t s _ _ ⟨.int (g i),H,I.tok _,⟨_,rfl⟩,q⟩
theorem zPL:We X (unaryOp .USub) (rU λi=>.int (-i)):=unI λ_ _ _ _ _ q=>neg_int q
end
def gR:V->V->Bool
 | .non,.non=>true | .non,.int _=>true | .int _,.non=>true | .non,.bl _=>true | .bl _,.non=>true | .non,.str _=>true | .str _,.non=>true
 | .int _,.int _=>true | .bl _,.bl _=>true | .str _,.str _=>true | .byt _,.byt _=>true
 | .int _,.str _=>true | .str _,.int _=>true | .bl _,.str _=>true | .str _,.bl _=>true
 | _,_=>false
def QR:R2:=λx y H Q=>gR x y=true/\Q (.bl (decide (x=y))) H
def QS:R2:=λx y H Q=>gR x y=true/\Q (.bl (!decide (x=y))) H
theorem YQ {i j:Int}:decide (V.int i=V.int j)=(i == j):=by
 rw [Bool.eq_iff_iff]
 simp
theorem YR {i j:Bool}:decide (V.bl i=V.bl j)=(i == j):=by
 rw [Bool.eq_iff_iff]
 simp
theorem QT {i j:Str}:decide (V.str i=V.str j)=(i == j):=by
 rw [Bool.eq_iff_iff]
 simp
theorem QU {i j:Array UInt8}:decide (V.byt i=V.byt j)=(i.toList == j.toList):=by
 rw [Bool.eq_iff_iff]
 cases i
 cases j
 simp
section
variable {X:Cx} {a b c:Expr} {ta tb tc:TE} {pos:Pos}
theorem yr {pins:List (Addr × Obj)} {σ:St} {H:Hp} {s:Shared} {Q:VK} {k k':Bool} (I:zH X pins σ H s) (q:Q (.bl k) H) (e:k=k'):EP X pins σ Q (.bool k') s:=by
 subst e
 exact ⟨.bl k,H,I,rfl,q⟩
theorem QV:yn X (compareOp .Eq) QR:=by
 intro pins s σ H x y v u Q I rx ry h
 obtain ⟨hs,q⟩:=h
 cases x with
 | non=>
  cases rx
  cases y with
  | non=>cases ry; exact PySem.EqNone.eq_none_none (yr I q (by simp))
  | bl j=>cases ry; exact PySem.EqNone.eq_none_bool (yr I q (by simp))
  | int j=>obtain ⟨t',rfl⟩:=ry; exact PySem.EqNone.eq_none_int (yr I q (by simp))
  | str j=>obtain ⟨t',rfl⟩:=ry; exact PySem.EqNone.eq_none_str (yr I q (by simp))
  | _=>exact absurd (show false=true from hs) Bool.false_ne_true
 | bl i=>
  cases rx
  cases y with
  | non=>cases ry; exact PySem.EqNone.eq_bool_none (yr I q (by simp))
  | bl j=>cases ry; exact eq_bool (yr I q YR)
  | str j=>obtain ⟨t',rfl⟩:=ry; exact PySem.EqMixed.eq_bool_str (yr I q (by simp))
  | _=>exact absurd (show false=true from hs) Bool.false_ne_true
 | int i=>
  obtain ⟨t,rfl⟩:=rx
  cases y with
  | non=>cases ry; exact PySem.EqNone.eq_int_none (yr I q (by simp))
  | int j=>obtain ⟨t',rfl⟩:=ry; exact eq_int (yr I q YQ)
  | str j=>obtain ⟨t',rfl⟩:=ry; exact PySem.EqMixed.eq_int_str (yr I q (by simp))
  | _=>exact absurd (show false=true from hs) Bool.false_ne_true
 | str i=>
  obtain ⟨t,rfl⟩:=rx
  cases y with
  | non=>cases ry; exact PySem.EqNone.eq_str_none (yr I q (by simp))
  | bl j=>cases ry; exact PySem.EqMixed.eq_str_bool (yr I q (by simp))
  | int j=>obtain ⟨t',rfl⟩:=ry; exact PySem.EqMixed.eq_str_int (yr I q (by simp))
  | str j=>obtain ⟨t',rfl⟩:=ry; exact eq_str (yr I q QT)
  | _=>exact absurd (show false=true from hs) Bool.false_ne_true
 | byt i=>
  obtain ⟨t,rfl⟩:=rx
  cases y with
  | byt j=>obtain ⟨t',rfl⟩:=ry; exact PySem.W.eq_bytes (yr I q QU)
  | _=>exact absurd (show false=true from hs) Bool.false_ne_true
 | _=>cases y <;> exact absurd (show false=true from hs) Bool.false_ne_true
theorem QW:yn X (compareOp .NotEq) QS:=by
 intro pins s σ H x y v u Q I rx ry h
 obtain ⟨hs,q⟩:=h
 cases x with
 | non=>
  cases rx
  cases y with
  | non=>cases ry; exact PySem.EqNone.ne_none_none (yr I q (by simp))
  | bl j=>cases ry; exact PySem.EqNone.ne_none_bool (yr I q (by simp))
  | int j=>obtain ⟨t',rfl⟩:=ry; exact PySem.EqNone.ne_none_int (yr I q (by simp))
  | str j=>obtain ⟨t',rfl⟩:=ry; exact PySem.EqNone.ne_none_str (yr I q (by simp))
  | _=>exact absurd (show false=true from hs) Bool.false_ne_true
 | bl i=>
  cases rx
  cases y with
  | non=>cases ry; exact PySem.EqNone.ne_bool_none (yr I q (by simp))
  | bl j=>cases ry; exact ne_bool (yr I q (congrArg not YR))
  | str j=>obtain ⟨t',rfl⟩:=ry; exact PySem.EqMixed.ne_bool_str (yr I q (by simp))
  | _=>exact absurd (show false=true from hs) Bool.false_ne_true
 | int i=>
  obtain ⟨t,rfl⟩:=rx
  cases y with
  | non=>cases ry; exact PySem.EqNone.ne_int_none (yr I q (by simp))
  | int j=>obtain ⟨t',rfl⟩:=ry; exact ne_int (yr I q (congrArg not YQ))
  | str j=>obtain ⟨t',rfl⟩:=ry; exact PySem.EqMixed.ne_int_str (yr I q (by simp))
  | _=>exact absurd (show false=true from hs) Bool.false_ne_true
 | str i=>
  obtain ⟨t,rfl⟩:=rx
  cases y with
  | non=>cases ry; exact PySem.EqNone.ne_str_none (yr I q (by simp))
  | bl j=>cases ry; exact PySem.EqMixed.ne_str_bool (yr I q (by simp))
  | int j=>obtain ⟨t',rfl⟩:=ry; exact PySem.EqMixed.ne_str_int (yr I q (by simp))
  | str j=>obtain ⟨t',rfl⟩:=ry; exact ne_str (yr I q (congrArg not QT))
  | _=>exact absurd (show false=true from hs) Bool.false_ne_true
 | byt i=>
  obtain ⟨t,rfl⟩:=rx
  cases y with
  | byt j=>obtain ⟨t',rfl⟩:=ry; exact PySem.W.ne_bytes (yr I q (congrArg not QU))
  | _=>exact absurd (show false=true from hs) Bool.false_ne_true
 | _=>cases y <;> exact absurd (show false=true from hs) Bool.false_ne_true
theorem QX:yn X (compareOp .Lt) (vj λi j=>.bl (decide (i < j))):=uZ λ_ _ _ _ _ _ _ q=>lt_int q
theorem gS:yn X (compareOp .LtE) (vj λi j=>.bl (decide (i<=j))):=uZ λ_ _ _ _ _ _ _ q=>le_int q
theorem gT:yn X (compareOp .Gt) (vj λi j=>.bl (decide (j < i))):=uZ λ_ _ _ _ _ _ _ q=>gt_int q
theorem QY:yn X (compareOp .GtE) (vj λi j=>.bl (decide (j<=i))):=uZ λ_ _ _ _ _ _ _ q=>ge_int q
def isObj:HO->Bool
 | .lst _=>true
 | .ins _ _ _=>true
 | _=>false
theorem yn.or {f:Value->Value->Sem Value} {r r':R2} (h:yn X f r) (h':yn X f r'):yn X f (λx y H Q=>r x y H Q\/r' x y H Q):=by
 intro pins s σ H x y v u Q I rx ry q
 rcases q with q | q
 ·exact h pins s σ H x y v u Q I rx ry q
 ·exact h' pins s σ H x y v u Q I rx ry q
theorem v5 (b:Expr) {op:CmpOp} (h:op≠.In:=by decide) (h2:op≠.NotIn:=by decide):behindInMarks op b=false:=by
 have e1:(op == CmpOp.In)=false:=by cases op <;> first | rfl | exact absurd rfl h
 have e2:(op == CmpOp.NotIn)=false:=by cases op <;> first | rfl | exact absurd rfl h2
 cases b <;> simp [behindInMarks,e1,e2]
theorem zOd {op:CmpOp} {r:R2} (ho:yn X (compareOp op) r) (ha:PE X a ta) (hb:PE X b tb) (hm:behindInMarks op b=false):PE X (.Compare a [op] [b] pos) (gO r ta tb):=by
 intro pins s σ H Q I h
 exact wpAny_Compare1 (jP ha hb I h λv u s2 x y H2 I2 rx ry q=>ho pins s2 σ H2 x y v u Q I2 rx ry q) hm
def QZ (t:TE):TT:=λσ H Q=>t σ H λx H'=>∃ k,x=.bl k/\Q k H'
theorem Qa {op:CmpOp} {r:R2} (ho:yn X (compareOp op) r) (ha:PE X a ta) (hb:PE X b tb) (hm:behindInMarks op b=false):PT X (.Compare a [op] [b] pos) (QZ (gO r ta tb)):=by
 intro pins s σ H Q I h
 refine wpAny_isTrue_Compare1 (zg (ha pins s σ H _ I h) λv s1 ⟨x,H1,I1,r1,q1⟩=>zg (hb pins s1 σ H1 _ I1 q1) λu s2 ⟨y,H2,I2,r2,q2⟩=>
  zg (ho pins s2 σ H2 x y v u _ I2 r1 r2 q2) λc s3 ⟨z,H3,I3,r3,k,e,q3⟩=>?_) hm
 subst e
 cases r3
 exact wpAny_truthy_bool ⟨H3,I3,q3⟩
theorem Wf:(sizeLine:Nat) < 2 ^ 63:=by rw [sizeLine_eq]; decide
theorem uM {x:V} {us:List Value} (r:zN [x] us):∃ u,us=[u]/\zT x u:=by
 cases r with
 | cons r1 r2=>cases r2; exact ⟨_,rfl,r1⟩
theorem gU {x y:V} {us:List Value} (r:zN [x,y] us):∃ u w',us=[u,w']/\zT x u/\zT y w':=by
 cases r with
 | cons r1 r2=>
  cases r2 with
  | cons r3 r4=>cases r4; exact ⟨_,_,rfl,r1,r3⟩
theorem zNV:wv X (.builtin "abs") (λxs H Q=>∃ i,xs=[.int i]/\Q (.int (if i < 0 then -i else i)) H):=by
 intro pins s σ H xs us Q I r h
 obtain ⟨i,rfl,q⟩:=h
 obtain ⟨u,rfl,t,rfl⟩:=uM r
 exact call_abs_int λu tk=>⟨.int (if i < 0 then -i else i),H,I.tok _,⟨_,rfl⟩,q⟩
theorem YS (hc:X.calm=true):wv X (.builtin "max") (λxs H Q=>∃ i j,xs=[.int i,.int j]/\Q (.int (if j > i then j else i)) H):=by
 intro pins s σ H xs us Q I r h
 obtain ⟨i,j,rfl,q⟩:=h
 obtain ⟨u,w',rfl,⟨t,rfl⟩,⟨t',rfl⟩⟩:=gU r
 refine max_two_ints (I.ok.hd hc) λh' tk k=>⟨_,H,I.kept k,?_,q⟩
 by_cases hj:j > i
 ·rw [if_pos hj,if_pos hj]; exact ⟨_,rfl⟩
 ·rw [if_neg hj,if_neg hj]; exact ⟨_,rfl⟩
theorem Qb (hc:X.calm=true):wv X (.builtin "min") (λxs H Q=>∃ i j,xs=[.int i,.int j]/\Q (.int (if j < i then j else i)) H):=by
 intro pins s σ H xs us Q I r h
 obtain ⟨i,j,rfl,q⟩:=h
 obtain ⟨u,w',rfl,⟨t,rfl⟩,⟨t',rfl⟩⟩:=gU r
 refine min_two_ints (I.ok.hd hc) λh' tk k=>⟨_,H,I.kept k,?_,q⟩
 by_cases hj:j < i
 ·rw [if_pos hj,if_pos hj]; exact ⟨_,rfl⟩
 ·rw [if_neg hj,if_neg hj]; exact ⟨_,rfl⟩
theorem Qc:wv X (.type "int") (λxs H Q=>(∃ i,xs=[.int i]/\Q (.int i) H)\/∃ k,xs=[.bl k]/\Q (.int (if k then 1 else 0)) H):=by
 intro pins s σ H xs us Q I r h
 rcases h with ⟨i,rfl,q⟩ | ⟨k,rfl,q⟩
 ·obtain ⟨u,rfl,t,rfl⟩:=uM r
  exact call_int_int ⟨.int i,H,I,⟨_,rfl⟩,q⟩
 ·obtain ⟨u,rfl,r1⟩:=uM r
  cases r1
  exact call_int_bool ⟨.int (if k then 1 else 0),H,I.tok _,⟨_,rfl⟩,q⟩
end
end L2
namespace L2
open PySem PySem.Spec PyProof.Rows
structure vB (h:Heap) (x dx C:Addr) (mA:Str->Option Value):Prop where
 obj:h.get? x=some (PySem.W.instObj C dx)
 ns:h.Ns1 dx mA
 ne:dx≠x
theorem zLI {h:Heap} {dx:Addr} {mA:Str->Option Value} (n:h.Ns1 dx mA):∃ od,h.get? dx=some od/\∀ name,PySem.W.lookIn name od=some (mA name):=by
 obtain ⟨o,es,ep,ho,hd,hk,_,hm⟩:=n
 refine ⟨o,ho,λname=>?_⟩
 have e:=hm name
 unfold nsFind findBy at e
 rw [<- Array.find?_toList] at e
 unfold PySem.W.lookIn
 rw [hd]
 dsimp only
 split
 ·rename_i y q
  rw [q] at e
  exact congrArg some e
 ·rename_i q
  rw [q] at e
  have a:es.toList.any (·.refKey)=false:=by
   rw [List.any_eq_false]
   intro y hy
   obtain ⟨z,t,hkey⟩:=hk y (Array.mem_toList_iff.mp hy)
   simp [DictEntry.refKey,hkey]
  have a':¬ es.toList.any (·.refKey)=true:=by rw [a]; exact Bool.false_ne_true
  rw [if_neg a']
  exact congrArg some e
theorem vB.look {h:Heap} {x dx C:Addr} {mA:Str->Option Value} (I:vB h x dx C mA):∃ od,PySem.W.InstAt h x (PySem.W.instObj C dx) C (some od)/\∀ name,PySem.W.lookIn name od=some (mA name):=
 let ⟨od,ho,hl⟩:=zLI I.ns
 ⟨od,⟨I.obj,rfl,rfl,ho⟩,hl⟩
section
variable {prog:Program} {w:World} {A:Around} {E:Value->Shared->Prop} {s:Shared} {K:PySem.W.Frag} {x dx C f:Addr} {mA:Str->Option Value} {name:Str} {v:Value}
theorem gW {expr:Bool} {Q:Value->Shared->Prop} (X:K.In s.heap) (I:vB s.heap x dx C mA) (hg:PySem.W.plainGet K C name=true) (hh:PySem.W.hasDictIn K C=true)
  (ha:PySem.W.findIn K (.ref C) name=some none) (hv:mA name=some v) (hv':PySem.W.handedIn v=true) (h:Q v { s with toks:=s.toks + 1 }) :
  wpAny (model prog w) A (getAttr (.ref x) name expr) Q E s:=by
 obtain ⟨od,J,hl⟩:=I.look
 exact PySem.W.get_value X J (PySem.W.plainGet_of hg).1 (PySem.W.findObj_own hh ha rfl (by rw [hl,hv])) hv' h
theorem zNJ {pl:Sem Bool} {Q:Value × List Value->Shared->Prop} (X:K.In s.heap) (I:vB s.heap x dx C mA) (hg:PySem.W.plainGet K C name=true)
  (hf:PySem.W.findIn K (.ref C) name=some (some (.ref f))) (ht:PySem.W.isFn K (.ref f)=true) (hv:mA name=none) (h:Q (.ref f,[.ref x]) s) :
  wpAny (model prog w) A (getMethod (.ref x) name pl) Q E s:=by
 obtain ⟨od,J,hl⟩:=I.look
 exact PySem.W.method_fn X J (PySem.W.plainGet_of hg).1 (PySem.W.plainGet_of hg).2 hf (beq_iff_eq.mp ht) (by show (PySem.W.lookIn name od).map (·.isSome)=some false; rw [hl,hv]; rfl) h
theorem zOQ {ns:List Str} {Q:Unit->Shared->Prop} (X:K.In s.heap) (I:vB s.heap x dx C mA)
  (hs:PySem.W.findIn K (.ref C) "__setattr__" = some (some (.builtin "object.__setattr__"))) (hp:PySem.W.plainOver K C=true) (ht:PySem.W.takerIn K C name=some none) (hh:PySem.W.hasDictIn K C=true)
  (hw:PySem.Within mA ns) (hsz:ns.length<=sizeLine)
  (h:∀ h',vB h' x dx C (λy=>if y=name then some v else mA y)->Heap.SameBut dx s.heap h'->Q () { s with heap:=h',toks:=s.toks + 2 }) :
  wpAny (model prog w) A (setAttr (.ref x) name v) Q E s:=by
 obtain ⟨od,J,hl⟩:=I.look
 refine PySem.W.set_plain X J hs (PySem.W.osa_open (s:={ s with toks:=s.toks + 1 }) (r:=none) X J hp ht λb=>?_)
 obtain ⟨cd,hc,hd'⟩:=PySem.W.any_some hh
 have hx:s.heap.get? x=some ⟨.ref C,some dx,.plain,#[]⟩:=I.obj
 refine wpAny_bind (wpAny_pure (wpAny_bind (wpAny_bind (wpAny_loadPart hx (wpAny_bind (PySem.W.Looks.here (s:={ s with toks:=s.toks + 1 }) (PySem.W.looks_clsIn X hc) ?_))))))
 rw [hd']
 refine wpAny_pure (a:=some dx) (wpAny_bind (wpAny_pure (wpAny_bind ?_)))
 refine wpAny_nsSet1 (s:={ s with toks:=s.toks + 1 }) I.ns λh' hn2 hs2=>?_
 obtain ⟨oD,esD,epD,hoD,hdD,hcD⟩:=hn2.count (PySem.Within.cons name v hw)
 refine wpAny_bind (wpAny_lookBehind hoD (by rw [hdD]; exact pastItsLine_dict (Nat.le_trans hcD (by rw [List.length_cons]; omega))) ?_)
 exact wpAny_pure (h _ ⟨(hs2.2 _ (Ne.symm I.ne)).trans I.obj,hn2,I.ne⟩ hs2)
theorem zNC {R:Result->Shared->Prop} {vs:List Value} {kw:List (Str × Value)} (X:K.In s.heap) (hm:PySem.W.makesIn K C=true)
  (hi:PySem.W.findIn K (.ref C) "__init__" = some (some (.ref f))) (hf:PySem.W.typeIn K (.ref f)=some (.type "function"))
  (h:codeAny (model prog w) (A.under (.builtin "type.__call__" ⟨.ref C :: vs,kw⟩)) (.call (.ref f) ⟨.ref (s.heap.objs.size + 1) :: vs,kw⟩) (PySem.W.InitBack (s.heap.objs.size + 1) R)
   { s with heap:=(s.heap.push PySem.W.emptyDict).push (PySem.W.instObj C s.heap.objs.size) }) :
  codeAny (model prog w) A (.call (.ref C) ⟨vs,kw⟩) R s:=by
 obtain ⟨hh,g,d,t,os⟩:=s
 exact PySem.W.make_core (PySem.W.makes_of X hm) (PySem.W.looks_findIn X hi) (λself=>PySem.W.bind_fn X self hf) (.inl rfl) h
end
def yY (f:Str) (v:V):List (Str × V)->List (Str × V)
 | []=>[(f,v)]
 | (g,x) :: r=>if g=f then (g,v) :: r else (g,x) :: yY f v r
theorem Qd (f g:Str) (v:V):∀ fs:List (Str × V),(yY f v fs).lookup g=if g=f then some v else fs.lookup g
 | []=>by
  show List.lookup g [(f,v)]=_
  by_cases h:g=f
  ·have hb:(g == f)=true:=beq_iff_eq.mpr h
   simp only [List.lookup,hb,if_pos h]
  ·have hb:(g == f)=false:=beq_eq_false_iff_ne.mpr h
   simp only [List.lookup,hb,if_neg h]
 | (k,x) :: r=>by
  have ih:=Qd f g v r
  rw [show yY f v ((k,x) :: r)=(if k=f then (k,v) :: r else (k,x) :: yY f v r) from rfl]
  by_cases hk:k=f
  ·rw [if_pos hk]
   by_cases h:g=k
   ·have hb:(g == k)=true:=beq_iff_eq.mpr h
    simp only [List.lookup,hb,if_pos (h.trans hk)]
   ·have hb:(g == k)=false:=beq_eq_false_iff_ne.mpr h
    simp only [List.lookup,hb,if_neg (λe:g=f=>h (e.trans hk.symm))]
  ·rw [if_neg hk]
   by_cases h:g=k
   ·have hb:(g == k)=true:=beq_iff_eq.mpr h
    simp only [List.lookup,hb,if_neg (λe:g=f=>hk (h.symm.trans e))]
   ·have hb:(g == k)=false:=beq_eq_false_iff_ne.mpr h
    simp only [List.lookup,hb]
    exact ih
theorem Wg (f:Str) (v:V):∀ fs:List (Str × V),f∈(yY f v fs).map (·.1)/\∀ g,g∈fs.map (·.1)->g∈(yY f v fs).map (·.1)
 | []=>⟨by simp [yY],λg h=>by simp at h⟩
 | (k,x) :: r=>by
  obtain ⟨i1,i2⟩:=Wg f v r
  rw [show yY f v ((k,x) :: r)=(if k=f then (k,v) :: r else (k,x) :: yY f v r) from rfl]
  by_cases hk:k=f
  ·rw [if_pos hk]
   subst hk
   exact ⟨by simp,λg h=>by simpa using h⟩
  ·rw [if_neg hk]
   refine ⟨?_,λg h=>?_⟩
   ·rw [List.map_cons]
    exact List.mem_cons_of_mem _ i1
   ·rw [List.map_cons] at h |-
    rcases List.mem_cons.mp h with e | e
    ·exact List.mem_cons.mpr (.inl e)
    ·exact List.mem_cons_of_mem _ (i2 g e)
theorem Qe (f:Str) (v:V):∀ fs:List (Str × V),(yY f v fs).length<=fs.length + 1
 | []=>by simp [yY]
 | (k,x) :: r=>by
  have ih:=Qe f v r
  rw [show yY f v ((k,x) :: r)=(if k=f then (k,v) :: r else (k,x) :: yY f v r) from rfl]
  by_cases hk:k=f
  ·rw [if_pos hk,List.length_cons,List.length_cons]; omega
  ·rw [if_neg hk,List.length_cons,List.length_cons]; omega
theorem xj.some_of {v:V} {o:Option Value} (r:xj (some v) o):∃ u,o=some u/\zT v u:=by
 cases o with
 | none=>exact (show False from r).elim
 | some u=>exact ⟨u,rfl,r⟩
theorem xj.none_of {o:Option Value} (r:xj none o):o=none:=by
 cases o with
 | none=>rfl
 | some u=>exact (show False from r).elim
theorem zLQ {v:V} {u:Value} (r:zT v u):PySem.W.handedIn u=true:=by
 cases v with
 | non=>cases (show u=Value.none from r); rfl
 | bl b=>cases (show u=Value.bool b from r); rfl
 | int i=>obtain ⟨t,e⟩:=(show ∃ t,u=Value.int i t from r); cases e; rfl
 | str x=>obtain ⟨t,e⟩:=(show ∃ t,u=Value.str x t from r); cases e; rfl
 | byt b=>obtain ⟨t,e⟩:=(show ∃ t,u=Value.bytes b t from r); cases e; rfl
 | flt b=>obtain ⟨t,e⟩:=(show ∃ t,u=Value.float b t from r); cases e; rfl
 | ref a=>cases (show u=Value.ref a from r); rfl
 | ty n=>cases (show u=Value.type n from r); rfl
section
variable {P:Program} {w:World} {H H':Hp} {h h':Heap} {a C dx:Addr} {fs fs':List (Str × V)}
theorem YT (hok:xB P w H h) (e:H a=some (.ins C dx fs)):∃ mA,vB h a dx C mA/\(∀ f,xj (fs.lookup f) (mA f))/\PySem.Within mA (fs.map (·.1))/\fs.length<=1000/\H dx=some (.own a):=by
 obtain ⟨d,z,ne,ob,mA,n,r,q⟩:=(show xy P w H h a (.ins C dx fs) from hok a _ e)
 exact ⟨mA,⟨ob,n,ne⟩,r,q,z,d⟩
end
structure v6 (K:PySem.W.Frag) (C:Addr):Prop where
 pg:PySem.W.plainGet K C Str.empty=true
 hd:PySem.W.hasDictIn K C=true
 po:PySem.W.plainOver K C=true
 sa:PySem.W.findIn K (.ref C) "__setattr__" = some (some (.builtin "object.__setattr__"))
theorem v6.get {K:PySem.W.Frag} {C:Addr} (c:v6 K C) (f:Str):PySem.W.plainGet K C f=true:=c.pg
def yc (K:PySem.W.Frag) (C:Addr) (f:Str):Prop:=PySem.W.findIn K (.ref C) f=some none
theorem yc.taker {K:PySem.W.Frag} {C:Addr} {f:Str} (n:yc K C f):PySem.W.takerIn K C f=some none:=by
 unfold PySem.W.takerIn
 rw [show PySem.W.findIn K (.ref C) f=some none from n]
 rfl
structure jR (K:PySem.W.Frag) (C:Addr) (m:Str) (f:Addr):Prop where
 at_:PySem.W.findIn K (.ref C) m=some (some (.ref f))
 fn:PySem.W.isFn K (.ref f)=true
 kp:PySem.W.keepIn K (.ref f)=true
section
variable {X:Cx} {pins:List (Addr × Obj)} {σ:St} {H:Hp} {s:Shared} {a C dx:Addr} {fs:List (Str × V)} {f:Str} {v:V} {A:Around} {E:Value->Shared->Prop}
theorem zJt {b:Bool} {Q:Value->Shared->Prop} (I:zH X pins σ H s) (e:H a=some (.ins C dx fs)) (c:v6 X.K C) (n:yc X.K C f) (l:fs.lookup f=some v)
  (h:∀ u s',zH X pins σ H s'->zT v u->Q u s'):wpAny (model X.prog X.w) A (getAttr (.ref a) f b) Q E s:=by
 obtain ⟨mA,O,r,_,_,_⟩:=YT I.hok e
 obtain ⟨u,hu,ru⟩:=xj.some_of (v:=v) (o:=mA f) (by rw [<- l]; exact r f)
 exact gW I.kIn O (c.get f) c.hd n hu (zLQ ru) (h u _ (I.tok _) ru)
theorem zJs {m:Str} {g:Addr} {pl:Sem Bool} {Q:Value × List Value->Shared->Prop} (I:zH X pins σ H s) (e:H a=some (.ins C dx fs)) (c:v6 X.K C) (k:jR X.K C m g) (l:fs.lookup m=none)
  (h:Q (.ref g,[.ref a]) s):wpAny (model X.prog X.w) A (getMethod (.ref a) m pl) Q E s:=by
 obtain ⟨mA,O,r,_,_,_⟩:=YT I.hok e
 have hn:mA m=none:=xj.none_of (by rw [<- l]; exact r m)
 exact zNJ I.kIn O (c.get m) k.at_ k.fn hn h
theorem zJS {y:V} {u:Value} {Q:Unit->Shared->Prop} (I:zH X pins σ H s) (e:H a=some (.ins C dx fs)) (c:v6 X.K C) (n:yc X.K C f) (hl:fs.length < 1000) (ry:zT y u)
  (h:∀ s',zH X pins σ (za H a (.ins C dx (yY f y fs))) s'->Q () s'):wpAny (model X.prog X.w) A (setAttr (.ref a) f u) Q E s:=by
 obtain ⟨mA,O,r,wi,_,ho⟩:=YT I.hok e
 have hz:(fs.map (·.1)).length<=sizeLine:=by rw [List.length_map,sizeLine_eq]; omega
 refine zOQ I.kIn O c.sa c.po n.taker c.hd wi hz λh' O' sb=>h _ ?_
 have hd:∃ o,h'.get? dx=some o:=let ⟨o,_,_,e',_⟩:=O'.ns; ⟨o,e'⟩
 refine I.write (x:=a) (e:=dx) (by rw [e]; exact True.intro) (.inr ho) (λb q hb z=>(sb.2 b hb).trans z) hd ?_
 refine ⟨by rw [zp O.ne]; exact ho,?_,O.ne,O'.obj,_,O'.ns,λg=>?_,λg hg=>?_⟩
 ·have:=Qe f y fs; omega
 ·show xj ((yY f y fs).lookup g) (if g=f then some u else mA g)
  rw [Qd]
  by_cases q:g=f
  ·rw [if_pos q,if_pos q]; exact ry
  ·rw [if_neg q,if_neg q]; exact r g
 ·by_cases q:g=f
  ·rw [q]; exact (Wg f y fs).1
  ·refine (Wg f y fs).2 g (wi g λz=>hg ?_)
   show (if g=f then some u else mA g)=none
   rw [if_neg q]; exact z
theorem zH.made (I:zH X pins σ H s):zH X pins σ (za (za H s.heap.objs.size (.own (s.heap.objs.size + 1))) (s.heap.objs.size + 1) (.ins C s.heap.objs.size []))
  { s with heap:=(s.heap.push PySem.W.emptyDict).push (PySem.W.instObj C s.heap.objs.size) }:=by
 have e1:(s.heap.push PySem.W.emptyDict).get? s.heap.objs.size=some PySem.W.emptyDict:=Heap.get?_push_size s.heap rfl
 have e2:((s.heap.push PySem.W.emptyDict).push (PySem.W.instObj C s.heap.objs.size)).get? (s.heap.objs.size + 1)=some (PySem.W.instObj C s.heap.objs.size):=by
  have:=Heap.get?_push_size (s.heap.push PySem.W.emptyDict) (o:=PySem.W.instObj C s.heap.objs.size) rfl
  rwa [Heap.size_push] at this
 have e3:(s.heap.push PySem.W.emptyDict).Ns s.heap.objs.size (λ_=>none):=⟨PySem.W.emptyDict,#[],_,e1,rfl,(λe he=>absurd he (by simp)),λ_=>rfl⟩
 have I1:=I.laid (a:=s.heap.objs.size) (o:=.own (s.heap.objs.size + 1)) (h':=s.heap.push PySem.W.emptyDict) (t':=s.toks) (λb u q=>Heap.get?_push_of_some _ q) (Nat.le_refl _) ⟨_,e1⟩
 refine I1.laid (a:=s.heap.objs.size + 1) (o:=.ins C s.heap.objs.size []) (t':=s.toks) (λb u q=>Heap.get?_push_of_some _ q) (Nat.le_of_eq (Heap.size_push _ _)) ?_
 have ne:s.heap.objs.size≠s.heap.objs.size + 1:=Nat.ne_of_lt (Nat.lt_succ_self _)
 refine ⟨by rw [zp ne,wK],Nat.zero_le _,ne,e2,λ_=>none,(Heap.Ns1.of_empty e3).at λo q=>Heap.get?_push_of_some _ q,λ_=>True.intro,λy hy=>absurd rfl hy⟩
theorem zPD {prog:Program} {w:World} {env:Env} {e:Expr} {f:Str} {pos:Pos} {s:Shared} {Q:Value->Shared->Prop} (hb:attributeBase e f env (eval e env)=eval e env)
  (h:wpAny (model prog w) A (eval e env) (λo s₁=>wpAny (model prog w) A (getAttr o f true) Q E s₁) E s):wpAny (model prog w) A (eval (.Attribute e f pos) env) Q E s:=
 Attribute_any_ h (by rw [arm_eval_Attribute,hb])
end
def Wi (K:PySem.W.Frag) (ta:TE) (f:Str):TE:=λσ H Q=>ta σ H λx H1=>∃ a C dx fs v,x=.ref a/\H1 a=some (.ins C dx fs)/\v6 K C/\yc K C f/\fs.lookup f=some v/\Q v H1
def gX (K:PySem.W.Frag) (ta tv:TE) (f:Str):TS:=λD σ H=>tv σ H λy H1=>ta σ H1 λx H2=>∃ a C dx fs,x=.ref a/\H2 a=some (.ins C dx fs)/\v6 K C/\yc K C f/\fs.length < 1000∧
 D.nx σ (za H2 a (.ins C dx (yY f y fs)))
section
variable {X:Cx} {o e value:Expr} {f:Str} {pos pos' tpos:Pos} {ta tv:TE}
theorem zP8 (he:PE X e ta) (hb:attributeBase e f X.env (eval e X.env)=eval e X.env):PE X (.Attribute e f pos) (Wi X.K ta f):=by
 intro pins s σ H Q I h
 refine zPD hb (zg (he pins s σ H _ I h) λu s1 ⟨x,H1,I1,rx,a,C,dx,fs,v,ex,ea,c,n,l,q⟩=>?_)
 subst ex
 obtain rfl:u=Value.ref a:=rx
 exact zJt I1 ea c n l λu' s2 I2 ru=>⟨v,H1,I2,ru,q⟩
theorem wO (ha:PE X o ta) (hv:PE X value tv) (hs:swapsWith value (some (.Attribute o f pos')) pos.line X.env=pure false):PS X (.Assign [.Attribute o f pos'] value pos) (gX X.K ta tv f):=by
 intro pins s σ H D I h
 refine plainObj_wpAny_Assign_Attribute (zg (hv pins s σ H _ I h) λu s1 ⟨y,H1,I1,ry,q⟩=>zg (ha pins s1 σ H1 _ I1 q) λov s2 ⟨x,H2,I2,rx,a,C,dx,fs,ex,ea,c,n,l,q2⟩=>?_) hs
 subst ex
 obtain rfl:ov=Value.ref a:=rx
 exact zJS I2 ea c n l ry λs3 I3=>⟨σ,_,I3,q2⟩
end
section
variable {X:Cx} {pins:List (Addr × Obj)} {σ:St} {H:Hp} {s:Shared} {A:Around} {E:Value->Shared->Prop} {Q:Value->Shared->Prop} {c:Value} {b:Bool}
inductive yM (K:PySem.W.Frag) (H:Hp):V->Value->Prop where
 | non:yM K H .non (.type "NoneType")
 | bl (x:Bool):yM K H (.bl x) (.type "bool")
 | int (i:Int):yM K H (.int i) (.type "int")
 | str (x:Str):yM K H (.str x) (.type "str")
 | flt (x:UInt64):yM K H (.flt x) (.type "float")
 | lst {a:Addr} {xs:List V} (e:H a=some (.lst xs)):yM K H (.ref a) (.type "list")
 | frz {a:Addr} {o:Obj} {xs:List V} (e:H a=some (.frz o (.lst xs))):yM K H (.ref a) (.type "list")
 | tup {a:Addr} {xs:List V} (e:H a=some (.tup xs)):yM K H (.ref a) (.type "tuple")
 | dK {a:Addr} {kvs:List (xx × V)} (e:H a=some (.dK kvs)):yM K H (.ref a) (.type "dict")
 | dT {a:Addr} {kvs:List (List xx × V)} (e:H a=some (.dT kvs)):yM K H (.ref a) (.type "dict")
 | ins {a C dx:Addr} {fs:List (Str × V)} (e:H a=some (.ins C dx fs)) (cl:v6 K C) (ha:PySem.W.findIn K (.ref C) "__class__" = some (some (.builtin "object.__class__")))
   (hn:PySem.W.specialIn K (.builtin "object.__class__") "__get__" = some (some (.builtin "getset_descriptor.__get__"))) (htk:PySem.W.takesIn K (.builtin "object.__class__")=some true)
   (hm:PySem.W.mroIn K C (.type "object")=some true):yM K H (.ref a) (.ref C)
theorem Qf {x:V} {u t:Value} (I:zH X pins σ H s) (rx:zT x u) (ty:yM X.K H x t) (e:PySem.W.kitOne X.K t c=some b) (h:∀ tk,Q (.bool b) { s with toks:=tk }) :
  wpAny (model X.prog X.w) A (call (.builtin "isinstance") [u,c]) Q E s:=by
 cases ty with
 | non=>cases (show u=Value.none from rx); exact PySem.W.kia_one PySem.W.kitx_none I.kIn True.intro e (λz=>nomatch z) h
 | bl y=>cases (show u=Value.bool y from rx); exact PySem.W.kia_one PySem.W.kitx_bool I.kIn True.intro e (λz=>nomatch z) h
 | int i=>obtain ⟨t,q⟩:=(show ∃ t,u=Value.int i t from rx); cases q; exact PySem.W.kia_one PySem.W.kitx_int I.kIn True.intro e (λz=>nomatch z) h
 | str y=>obtain ⟨t,q⟩:=(show ∃ t,u=Value.str y t from rx); cases q; exact PySem.W.kia_one PySem.W.kitx_str I.kIn True.intro e (λz=>nomatch z) h
 | flt y=>obtain ⟨t,q⟩:=(show ∃ t,u=Value.float y t from rx); cases q; exact PySem.W.kia_one PySem.W.kitx_float I.kIn True.intro e (λz=>nomatch z) h
 | @lst a xs ea=>
  cases (show u=Value.ref a from rx)
  obtain ⟨_,_,n,_,h1⟩:=(show xy X.prog X.w H s.heap a (.lst xs) from I.hok a _ ea)
  exact PySem.W.kia_one PySem.W.kitx_list I.kIn ⟨_,h1,rfl⟩ e (λz=>nomatch z) h
 | @frz a ob xs ea=>
  cases (show u=Value.ref a from rx)
  obtain ⟨_,_,_,n,_,h1⟩:=(show xy X.prog X.w H s.heap a (.frz ob (.lst xs)) from I.hok a _ ea)
  exact PySem.W.kia_one PySem.W.kitx_list I.kIn ⟨_,h1,rfl⟩ e (λz=>nomatch z) h
 | @tup a xs ea=>
  cases (show u=Value.ref a from rx)
  obtain ⟨_,_,_,p⟩:=(show xy X.prog X.w H s.heap a (.tup xs) from I.hok a _ ea)
  obtain ⟨o,h1,h2,_⟩:=p
  exact PySem.W.kia_one PySem.W.kitx_tuple I.kIn ⟨o,h1,h2⟩ e (λz=>nomatch z) h
 | @dK a kvs ea=>
  cases (show u=Value.ref a from rx)
  obtain ⟨_,_,vs,_,p⟩:=(show xy X.prog X.w H s.heap a (.dK kvs) from I.hok a _ ea)
  obtain ⟨o,es,ep,h1,h2,_⟩:=p
  exact PySem.W.kia_one PySem.W.kitx_dict I.kIn ⟨o,h1,h2.1⟩ e (λz=>nomatch z) h
 | @dT a kvs ea=>
  cases (show u=Value.ref a from rx)
  obtain ⟨_,_,xs,_,o,es,ep,h1,h2,_⟩:=(show xy X.prog X.w H s.heap a (.dT kvs) from I.hok a _ ea)
  exact PySem.W.kia_one PySem.W.kitx_dict I.kIn ⟨o,h1,h2.1⟩ e (λz=>nomatch z) h
 | @ins a C dx fs ea cl ha hn htk hm=>
  cases (show u=Value.ref a from rx)
  obtain ⟨mA,O,_⟩:=YT I.hok ea
  obtain ⟨od,J,_⟩:=O.look
  exact PySem.W.kia_one (PySem.W.kitx_own (cl.get _) cl.hd ha hn htk hm) I.kIn J e (λz=>nomatch z) h
end
end L2
namespace L2
open PySem PySem.Spec PyProof.Rows
structure zi (k:Nat) (A:Around):Prop where
 hd:A.handled=none
 dp:A.depth + 3 * k + 5 < recursionLimit
 un:A.units + 16 * k + 200 < cLine
theorem zi.mono {j k:Nat} {A:Around} (r:zi k A) (h:j<=k):zi j A:=⟨r.hd,by have:=r.dp; omega,by have:=r.un; omega⟩
theorem zi.deeper {k:Nat} {A:Around} (r:zi (k + 1) A) (env:Env):zi k (A.deeper env):=
 ⟨r.hd,by have:=r.dp; show A.depth + 1 + 3 * k + 5 < _; omega,by have:=r.un; show A.units + 3 + 16 * k + 200 < _; omega⟩
theorem zJp {A:Around} {C:Addr} {us:List Value} {kw:List (Str × Value)}:(A.under (.builtin "type.__call__" ⟨.ref C :: us,kw⟩)).depth=A.depth + 1:=by
 first | rfl | simp [Around.under,Code.weight,Code.isCreation,Code.isGuard,Code.isCaller,Code.frames,Code.isFrame,guardIds]
theorem zJo {A:Around} {C:Addr} {us:List Value} {kw:List (Str × Value)}:(A.under (.builtin "type.__call__" ⟨.ref C :: us,kw⟩)).units=A.units + 1:=by
 first | rfl | simp [Around.under,Code.cUnits,Code.frames,Code.isFrame]
theorem zi.make {k:Nat} {A:Around} (r:zi (k + 1) A) (C:Addr) (us:List Value) (kw:List (Str × Value)):zi k (A.under (.builtin "type.__call__" ⟨.ref C :: us,kw⟩)):=
 ⟨r.hd,by have:=r.dp; rw [zJp]; omega,by have:=r.un; rw [zJo]; omega⟩
theorem zi.depth {k:Nat} {A:Around} (r:zi k A):A.depth < recursionLimit:=by have:=r.dp; omega
theorem zi.units {k:Nat} {A:Around} (r:zi k A):A.units + 64 < cLine:=by have:=r.un; omega
def vb:TA:=λ_ H Q=>Q [] H
def qP (ta:TE) (tr:TA):TA:=λσ H Q=>ta σ H λx H1=>tr σ H1 λxs H2=>Q (x :: xs) H2
section
variable {X:Cx} {e:Expr} {es:List Expr} {te:TE} {t:TA} {pos:Pos}
theorem yJ:PA X [] vb:=λ_ _ _ _ H Q I h=>Calls.spliced_nil ⟨[],H,I,.nil,h⟩
theorem zo (ha:PE X e te) (hr:PA X es t) (hs:starEach (e :: es) X.env=(false,eval e X.env) :: starEach es X.env:=by rfl):PA X (e :: es) (qP te t):=by
 intro pos pins s σ H Q I h
 rw [hs]
 show wpAny _ _ (spliced ((false,eval e X.env) :: backTo pos (starEach es X.env))) _ _ s
 refine Calls.spliced_cons (zg (ha pins s σ H _ I h) λu s1 ⟨x,H1,I1,r1,q1⟩=>?_)
 exact zg (hr pos pins s1 σ H1 _ I1 q1) λus s2 ⟨xs,H2,I2,r2,q2⟩=>⟨x :: xs,H2,I2,.cons r1 r2,q2⟩
def Wj (t:TA):TE:=λσ H Q=>t σ H λxs H1=>xs.length<=sizeLine/\∀ p,H1 p=none->Q (.ref p) (za H1 p (.tup xs))
def Wl (t:TA):TE:=λσ H Q=>t σ H λxs H1=>xs.length<=sizeLine/\∀ p,H1 p=none->Q (.ref p) (za H1 p (.lst xs))
theorem zP2 {x1} (h:PA X es t):PE X (.Tuple es x1 pos) (Wj t):=by
 intro pins s σ H Q I hq
 refine wpAny_Tuple_spliced (zg (h pos pins s σ H _ I hq) λus s1 ⟨xs,H1,I1,r,z,q⟩=>⟨by rw [<- r.length]; exact z,?_⟩)
 have hf:H1 s1.heap.objs.size=none:=I1.hok.fresh (Nat.le_refl _)
 refine ⟨.ref s1.heap.objs.size,za H1 s1.heap.objs.size (.tup xs),I1.laid (t':=s1.toks) (λb u e=>Heap.get?_push_of_some _ e) (Nat.le_refl _) ?_,rfl,q _ hf⟩
 exact ⟨z,us,r,⟨_,Heap.get?_push_size _ rfl,rfl,_,rfl⟩⟩
theorem Qg (h:PA X es t):PE X (.List es pos) (Wl t):=by
 intro pins s σ H Q I hq
 refine wpAny_List_spliced (zg (h pos pins s σ H _ I hq) λus s1 ⟨xs,H1,I1,r,z,q⟩=>⟨by rw [<- r.length]; exact z,?_⟩)
 have hf:H1 s1.heap.objs.size=none:=I1.hok.fresh (Nat.le_refl _)
 refine ⟨.ref s1.heap.objs.size,za H1 s1.heap.objs.size (.lst xs),I1.laid (t':=s1.toks) (λb u e=>Heap.get?_push_of_some _ e) (Nat.le_refl _) ?_,rfl,q _ hf⟩
 exact ⟨z,us,0,r,Heap.get?_push_size _ rfl⟩
end
abbrev Sp:=List V->Hp->VK->XK->Prop
abbrev vc:=List Env->Hp->Shared->XK->Value->Shared->Prop
structure vC (P:Program) (w:World) (K:PySem.W.Frag) (mg:Str->Option Value) (base:Heap) (A:Around) (outer:List Env) (s:Shared) (H:Hp):Prop where
 frames:A.frames=some outer
 mod:Mod K mg base
 bs:∀ b o,base.get? b=some o->s.heap.get? b=some o/\H b=none
 bsz:base.objs.size<=s.heap.objs.size
 funs:s.heap.FunFrames base outer
 frf:∀ b∈wt outer,H b=none
 hok:xB P w H s.heap
 bare:AllBare s.gens
def CE (outer:List Env) (P:Program) (w:World) (H:Hp) (s:Shared) (Q:VK) (u:Value) (s':Shared):Prop:=
 ∃ v H',s'.os=s.os/\AllBare s'.gens/\Un (wt outer) [] H H' s.heap s'.heap/\xB P w H' s'.heap/\zT v u/\Q v H'
def CR (CX:vc) (outer:List Env) (P:Program) (w:World) (H:Hp) (s:Shared) (Q:VK) (E:XK) (r:Result) (s':Shared):Prop:=
 match r with
 | .ok (.ret u)=>CE outer P w H s Q u s'
 | .ok _=>False
 | .error e=>CX outer H s E e s'
structure zG (P:Program) (w:World) (K:PySem.W.Frag) (mg:Str->Option Value) (base:Heap) (CX:vc) (k:Nat) (f:Addr) (fd:FuncData) (ps:List Str) (sp:Sp):Prop where
 len:∀ vs H Q E,sp vs H Q E->vs.length=ps.length
 run:∀ (A:Around) (outer:List Env) (s:Shared) (H:Hp) (args:Args) (us:List Value) (vs:List V) (Q:VK) (E:XK),zi k A->vC P w K mg base A outer s H->BindsTo s fd args (ps.zip us)->zN vs us->sp vs H Q E->
  codeAny (model P w) A (.call (.ref f) args) (CR CX outer P w H s Q E) s
theorem zG.mono {P:Program} {w:World} {K:PySem.W.Frag} {mg:Str->Option Value} {base:Heap} {CX:vc} {j k:Nat} {f:Addr} {fd:FuncData} {ps:List Str} {sp:Sp} (F:zG P w K mg base CX j f fd ps sp) (h:j<=k) :
  zG P w K mg base CX k f fd ps sp:=⟨F.len,λA outer s H args us vs Q E hr=>F.run A outer s H args us vs Q E (hr.mono h)⟩
theorem vC.make {P:Program} {w:World} {K:PySem.W.Frag} {mg:Str->Option Value} {base:Heap} {A:Around} {outer:List Env} {s:Shared} {H:Hp} (e:vC P w K mg base A outer s H) (C:Addr) (us:List Value) (kw:List (Str × Value)) :
  vC P w K mg base (A.under (.builtin "type.__call__" ⟨.ref C :: us,kw⟩)) outer s H:=⟨by first | exact e.frames | (simpa [Around.under,Code.envs,Code.isFrame,pushEnvs] using e.frames),e.mod,e.bs,e.bsz,e.funs,e.frf,e.hok,e.bare⟩
section
variable {X:Cx} {pins:List (Addr × Obj)} {σ:St} {H:Hp} {s s':Shared}
theorem zH.env0 (I:zH X pins σ H s):vC X.prog X.w X.K X.mg X.base X.A X.stack s H:=
 ⟨I.ok.frames,I.ok.mod,I.bs,Nat.le_trans I.ok.bsz I.sz,I.stack,I.stkFree,I.hok,I.bare⟩
theorem zH.after {Q:VK} {u:Value} (I:zH X pins σ H s) (h:CE X.stack X.prog X.w H s Q u s'):EP X pins σ Q u s':=by
 obtain ⟨v,H',os,bare,un,hok,r,q⟩:=h
 obtain ⟨hh,g,d,t,os'⟩:=s'
 obtain rfl:os'=s.os:=os
 exact ⟨v,H',I.call (h':=hh) (g':=g) (d':=d) (t':=t) (ch:=[]) un hok bare (λb z=>absurd z (by simp)),r,q⟩
end
def Wm (sp:Sp) (dvs:List V) (E:XK) (t:TA):TE:=λσ H Q=>t σ H λvs H1=>sp (vs++dvs) H1 Q E
def Qh (C:Addr) (m:Str) (sp:Sp) (dvs:List V) (E:XK) (ta:TE) (t:TA):TE:=λσ H Q=>ta σ H λx H1=>∃ a dx fs,x=.ref a/\H1 a=some (.ins C dx fs)/\fs.lookup m=none∧
 t σ H1 λvs H2=>sp (x :: (vs++dvs)) H2 Q E
def YU (C:Addr) (sp:Sp) (dvs:List V) (E:XK) (t:TA):TE:=λσ H Q=>t σ H λvs H1=>∀ x dx,H1 x=none->H1 dx=none->dx≠x->
 sp (.ref x :: (vs++dvs)) (za (za H1 dx (.own x)) x (.ins C dx [])) (λv H2=>v=.non/\Q (.ref x) H2) E
def wP (K:PySem.W.Frag) (fd:FuncData) (ps:List Str) (ds:List Value):Prop:=
 ∀ (s:Shared) (us:List Value),K.In s.heap->(us++ds).length=ps.length->BindsTo s fd ⟨us,[]⟩ (ps.zip (us++ds))
theorem wP.all {K:PySem.W.Frag} {fd:FuncData} {ps:List Str} (h:∀ us:List Value,us.length=ps.length->bindArgs fd ⟨us,[]⟩=pure (ps.zip us)):wP K fd ps []:=λs us _ hl=>by
 rw [List.append_nil] at hl |-
 exact .of_eq (h us hl)
def qQ (CX:vc) (X:Cx) (E:XK):Prop:=∀ (pins:List (Addr × Obj)) (σ:St) (H:Hp) (s:Shared) (e:Value) (s':Shared),zH X pins σ H s->CX X.stack H s E e s'->X.xe e s'
section
variable {X:Cx} {CX:vc} {k:Nat} {f C:Addr} {fd:FuncData} {ps:List Str} {sp:Sp} {dvs:List V} {ds:List Value} {E:XK} {x m:Str} {p pos apos:Pos} {e o:Expr} {es:List Expr} {ta:TE} {t:TA}
theorem Qi {pins:List (Addr × Obj)} {σ:St} {H:Hp} {s:Shared} {Q:VK} {us:List Value} {vs:List V} (F:zG X.prog X.w X.K X.mg X.base CX k f fd ps sp) (hr:zi k X.A) (hb:wP X.K fd ps ds) (hd:zN dvs ds) (hx:qQ CX X E)
  (I:zH X pins σ H s) (r:zN vs us) (h:sp (vs++dvs) H Q E):wpAny (model X.prog X.w) X.A (call (.ref f) us) (EP X pins σ Q) X.xe s:=by
 have r2:zN (vs++dvs) (us++ds):=r.append hd
 have hl:(us++ds).length=ps.length:=by rw [<- r2.length]; exact F.len _ _ _ _ h
 refine wpAny_call (codeAny_mono (F.run X.A X.stack s H ⟨us,[]⟩ (us++ds) (vs++dvs) Q E hr I.env0 (hb s us I.kIn hl) r2 h) λr s' hq=>?_)
 cases r with
 | error e=>exact hx pins σ H s e s' I hq
 | ok fl=>
  cases fl with
  | ret u=>exact I.after hq
  | next=>exact False.elim hq
  | brk=>exact False.elim hq
  | cont=>exact False.elim hq
theorem Qj (F:zG X.prog X.w X.K X.mg X.base CX k f fd ps sp) (hr:zi k X.A) (hg:Gl X x) (hm:X.mg x=some (.ref f)) (hk:PySem.W.keepIn X.K (.ref f)=true) (hb:wP X.K fd ps ds) (hd:zN dvs ds) (hx:qQ CX X E)
  (ha:PA X (e :: es) t) (hdb:(x == ("__debug__" : Str))=false:=by decide) (he:starEach (e :: es) X.env=(false,eval e X.env) :: starEach es X.env:=by rfl) (hpl:(backTo pos (starEach es X.env)).any (·.1)=false:=by rfl) :
  PE X (.Call (.Name x p) (e :: es) [] pos) (Wm sp dvs E t):=by
 intro pins s σ H Q I h
 refine wpAny_Call_Name_kw (WN I hg hm ?_ hdb)
 refine PySem.W.callWith_K (h₀:=X.base) I.ok.mod.kin hk (zg (ha pos pins s σ H _ I h) λus s1 ⟨vs,H1,I1,r,q⟩=>⟨I1.kIn,?_⟩) he hpl
 exact Qi F hr hb hd hx I1 r q
theorem zMs {pl:Sem Bool} (he:PE X o ta) (c:v6 X.K C) (hm:jR X.K C m f) (F:zG X.prog X.w X.K X.mg X.base CX k f fd ps sp) (hr:zi k X.A) (hb:wP X.K fd ps ds) (hd:zN dvs ds) (hx:qQ CX X E)
  (ht:eval (.Call (.Attribute o m apos) [] [] pos) X.env=(do
   let ov <- eval o X.env
   standAt apos.atName
   let (f,first) <- holding [ov] (getMethod ov m pl)
   callWith pos f first (backTo pos (starEach [] X.env)) (backToKw pos (keywordEach [] X.env))):=by rfl) :
  PE X (.Call (.Attribute o m apos) [] [] pos) (Qh C m sp dvs E ta vb):=by
 intro pins s σ H Q I h
 refine PySem.W.methodCall_KW (pl:=pl) (zg (he pins s σ H _ I h) λu s1 ⟨x,H1,I1,rx,a,dx,fs,ex,ea,l,q⟩=>?_) ht
 subst ex
 obtain rfl:u=Value.ref a:=rx
 refine zJs I1 ea c hm l ?_
 exact PySem.W.callWith_K0 (first:=[.ref a]) I1.kIn hm.kp (Qi (us:=[.ref a]) (vs:=[.ref a]) F hr hb hd hx I1 (.cons rfl .nil) q)
structure Mk (K:PySem.W.Frag) (C f:Addr):Prop where
 makes:PySem.W.makesIn K C=true
 init:PySem.W.findIn K (.ref C) "__init__" = some (some (.ref f))
 fn:PySem.W.isFn K (.ref f)=true
 kp:PySem.W.keepIn K (.ref C)=true
theorem zMd {pins:List (Addr × Obj)} {σ:St} {H:Hp} {s:Shared} {Q:VK} {us:List Value} {vs:List V} (M:Mk X.K C f) (F:zG X.prog X.w X.K X.mg X.base CX k f fd ps sp) (hr:zi (k + 1) X.A) (hb:wP X.K fd ps ds) (hd:zN dvs ds)
  (hx:qQ CX X E) (I:zH X pins σ H s) (r:zN vs us)
  (h:∀ x dx,H x=none->H dx=none->dx≠x->sp (.ref x :: (vs++dvs)) (za (za H dx (.own x)) x (.ins C dx [])) (λv H2=>v=.non/\Q (.ref x) H2) E) :
  wpAny (model X.prog X.w) X.A (call (.ref C) us) (EP X pins σ Q) X.xe s:=by
 have hq:=h (s.heap.objs.size + 1) s.heap.objs.size (I.hok.fresh (Nat.le_succ _)) (I.hok.fresh (Nat.le_refl _)) (Nat.ne_of_lt (Nat.lt_succ_self _))
 have I2:=zH.made (C:=C) I
 have r2:zN (V.ref (s.heap.objs.size + 1) :: (vs++dvs)) (Value.ref (s.heap.objs.size + 1) :: (us++ds)):=.cons rfl (r.append hd)
 have hl:(Value.ref (s.heap.objs.size + 1) :: us++ds).length=ps.length:=by
  have e:=r2.length
  rw [F.len _ _ _ _ hq] at e
  exact e.symm
 refine wpAny_call (zNC (f:=f) I.kIn M.makes M.init (beq_iff_eq.mp M.fn) (codeAny_mono (F.run _ X.stack _ _ ⟨Value.ref (s.heap.objs.size + 1) :: us,[]⟩ (Value.ref (s.heap.objs.size + 1) :: (us++ds)) _ _ E (hr.make C us [])
  (I2.env0.make C us []) (hb _ (Value.ref (s.heap.objs.size + 1) :: us) I2.kIn hl) r2 hq) λr s' hq'=>?_))
 cases r with
 | error e=>exact hx pins σ _ _ e s' I2 hq'
 | ok fl=>
  cases fl with
  | ret u=>
   obtain ⟨v,H',I3,rv,ev,q3⟩:=I2.after hq'
   subst ev
   exact ⟨rv,⟨V.ref (s.heap.objs.size + 1),H',I3,rfl,q3⟩⟩
  | next=>exact False.elim hq'
  | brk=>exact False.elim hq'
  | cont=>exact False.elim hq'
theorem zOc (M:Mk X.K C f) (F:zG X.prog X.w X.K X.mg X.base CX k f fd ps sp) (hr:zi (k + 1) X.A) (hg:Gl X x) (hm:X.mg x=some (.ref C)) (hb:wP X.K fd ps ds) (hd:zN dvs ds) (hx:qQ CX X E)
  (ha:PA X (e :: es) t) (hdb:(x == ("__debug__" : Str))=false:=by decide) (he:starEach (e :: es) X.env=(false,eval e X.env) :: starEach es X.env:=by rfl) (hpl:(backTo pos (starEach es X.env)).any (·.1)=false:=by rfl) :
  PE X (.Call (.Name x p) (e :: es) [] pos) (YU C sp dvs E t):=by
 intro pins s σ H Q I h
 refine wpAny_Call_Name_kw (WN I hg hm ?_ hdb)
 refine PySem.W.callWith_K (h₀:=X.base) I.ok.mod.kin M.kp (zg (ha pos pins s σ H _ I h) λus s1 ⟨vs,H1,I1,r,q⟩=>⟨I1.kIn,?_⟩) he hpl
 exact zMd M F hr hb hd hx I1 r q
end
section
variable {X:Cx} {CX:vc} {k:Nat} {f C:Addr} {fd:FuncData} {ps ks:List Str} {sp:Sp} {E:XK} {x m:Str} {p pos apos kpos:Pos} {e o:Expr} {es:List Expr} {kws:List Keyword} {te ta:TE} {t tk:TA} {nm:Option Str}
variable {g:List Value->List Value->List Value} {gV:List V->List V->List V}
end
structure zb (N P:List Str) (sc:Scope):Prop where
 kind:sc.kind=.function
 co:sc.isCoroutine=false
 gen:sc.isGenerator=false
 nd:N.Nodup
 pre:N.take P.length=P
 par:∀ x∈P,sc.names.lookup x=some .local\/sc.names.lookup x=some .cell
 nofree:∀ y∈sc.names,y.2≠.free
theorem zb.a {N P:List Str} {s:Scope} (a:s.kind=.function:=by rfl) (b:s.isCoroutine=false:=by rfl) (c:s.isGenerator=false:=by rfl) (d:N.Nodup:=by decide +kernel) (e:N.take P.length=P:=by rfl) (f:∀ x∈P,s.names.lookup x=some .local\/s.names.lookup x=some .cell:=by decide +kernel) (g:∀ y∈s.names,y.2≠.free:=by decide +kernel):zb N P s:=⟨a,b,c,d,e,f,g⟩
theorem Qk {kindOf:Str->Option NameKind} {x:Str}:∀ {binds:List (Str × Value)} {m:Str->Option Value},(∀ v,(x,v)∉binds)->bindL kindOf binds m x=m x
 | [],_,_=>rfl
 | (n,v) :: r,m,h=>by
  unfold bindL
  rw [Qk λw hw=>h w (List.mem_cons_of_mem _ hw)]
  split
  ·have:x≠n:=by rintro rfl; exact h v List.mem_cons_self
   simp [this]
  ·rfl
theorem Ql {kindOf:Str->Option NameKind} {x:Str}:∀ {binds:List (Str × Value)} {m:Str->Option Value},(∀ v,(x,v)∉binds)->bindC kindOf binds m x=m x
 | [],_,_=>rfl
 | (n,v) :: r,m,h=>by
  unfold bindC
  rw [Ql λw hw=>h w (List.mem_cons_of_mem _ hw)]
  split
  ·rfl
  ·have:x≠n:=by rintro rfl; exact h v List.mem_cons_self
   simp [this]
theorem Qm {kindOf:Str->Option NameKind} {x:Str} {v:Value}:∀ {P:List Str} {vs:List Value} {i:Nat} {m:Str->Option Value},P.Nodup->P[i]? = some x->vs[i]? = some v->kindOf x=some .local->
  bindL kindOf (P.zip vs) m x=some v
 | [],_,_,_,_,h,_,_=>by simp at h
 | _ :: _,[],_,_,_,_,h,_=>by simp at h
 | p :: P,w :: vs,0,m,nd,h1,h2,hk=>by
  simp at h1 h2; subst h1; subst h2
  show bindL kindOf ((p,w) :: P.zip vs) m p=_
  unfold bindL
  rw [Qk λv hv=>(List.nodup_cons.mp nd).1 (List.of_mem_zip hv).1,if_pos hk]
  simp
 | p :: P,w :: vs,i + 1,m,nd,h1,h2,hk=>by
  show bindL kindOf ((p,w) :: P.zip vs) m x=_
  unfold bindL
  exact Qm (i:=i) (List.nodup_cons.mp nd).2 (by simpa using h1) (by simpa using h2) hk
theorem Qn {kindOf:Str->Option NameKind} {x:Str} {v:Value}:∀ {P:List Str} {vs:List Value} {i:Nat} {m:Str->Option Value},P.Nodup->P[i]? = some x->vs[i]? = some v->kindOf x≠some .local->
  bindC kindOf (P.zip vs) m x=some v
 | [],_,_,_,_,h,_,_=>by simp at h
 | _ :: _,[],_,_,_,_,h,_=>by simp at h
 | p :: P,w :: vs,0,m,nd,h1,h2,hk=>by
  simp at h1 h2; subst h1; subst h2
  show bindC kindOf ((p,w) :: P.zip vs) m p=_
  unfold bindC
  rw [Ql λv hv=>(List.nodup_cons.mp nd).1 (List.of_mem_zip hv).1,if_neg hk]
  simp
 | p :: P,w :: vs,i + 1,m,nd,h1,h2,hk=>by
  show bindC kindOf ((p,w) :: P.zip vs) m x=_
  unfold bindC
  exact Qn (i:=i) (List.nodup_cons.mp nd).2 (by simpa using h1) (by simpa using h2) hk
def vD (N:List Str) (vs:List V):St:=vs.map some++List.replicate (N.length - vs.length) none
def xR (CX:vc) (P:Program) (w:World) (K:PySem.W.Frag) (mg:Str->Option Value) (base:Heap) (N:List Str) (qual:Str) (scope:Scope) (f:Addr) (cd:Value) (A:Around) (outer:List Env) (s:Shared) (H:Hp) (E:XK):Cx where
 prog:=P
 w:=w
 K:=K
 mg:=mg
 base:=base
 A:=A.deeper (envOfC qual scope s.heap.objs.size f cd)
 N:=N
 s₀:=s
 H₀:=H
 env:=envOfC qual scope s.heap.objs.size f cd
 outer:=outer
 stack:=envOfC qual scope s.heap.objs.size f cd :: outer
 ex:=[]
 calm:=true
 fn:=λ_=>true
 pn:=[]
 xe:=λe s'=>wpAny (model P w) (A.deeper (envOfC qual scope s.heap.objs.size f cd)) (leaving (envOfC qual scope s.heap.objs.size f cd) e) (λ_ s''=>CX outer H s E e s'') (λe' s''=>CX outer H s E e' s'') s'
theorem Qo {sc:Scope} {n:Nat} {x:Str} (h:sc.names.lookup x=some .cell):∃ c,(cellsFrom n sc.names []).lookup x=some c:=by
 have q:=PySem.W.cellsFrom_some sc.names n [] (.inl h)
 exact Option.isSome_iff_exists.mp q
theorem zLM {CX:vc} {P:Program} {w:World} {K:PySem.W.Frag} {mg:Str->Option Value} {base:Heap} {N ps:List Str} {qual:Str} {scope:Scope} {f:Addr} {cd:Value} {A:Around} {outer:List Env} {s s1:Shared} {H:Hp} {E:XK} {us:List Value} {vs:List V}
  (S:zb N ps scope) (hd:A.handled=none) (e0:vC P w K mg base A outer s H) (hl:vs.length=ps.length) (r:zN vs us)
  (x:InCallC s s.heap.objs.size (bindL (envOfC qual scope s.heap.objs.size f cd).kindOf (ps.zip us) λ_=>none) (cellsFrom (s.heap.objs.size + 1) scope.names []) (bindC (envOfC qual scope s.heap.objs.size f cd).kindOf (ps.zip us) λ_=>none) s1) :
  zH (xR CX P w K mg base N qual scope f cd A outer s H E) [] (vD N vs) H s1:=by
 have hpl:ps.length<=N.length:=by have:=congrArg List.length S.pre; rw [List.length_take] at this; omega
 obtain ⟨h1,tk,rfl,hk⟩:=x.done
 have noA:∀ b:Addr,b∉(xR CX P w K mg base N qual scope f cd A outer s H E).ex:=λb z=>absurd (show b∈([]:List Addr) from z) (by simp)
 refine ⟨⟨e0.mod,S.kind,rfl,rfl,Nat.le_refl _,λy z c h1 h2=>?_,λy hy=>?_,λy c _ h=>?_,λ_=>hd,Around.frames_deeper e0.frames,.inr ⟨rfl,rfl⟩,λb z=>absurd z (noA b),e0.bs,e0.bsz,λb _ _=>noA b,λb z=>absurd z (noA b),e0.funs,e0.frf⟩,
  rfl,e0.bare,Un.kept hk,⟨_,x.toInCall.ns,λi y v h1 h2 h3=>?_⟩,λy c h=>⟨_,x.cell y c h⟩,e0.hok.fresh (Nat.le_refl _),λy c h=>?_,λp hp=>absurd (show p∈([]:List (Addr × Obj)) from hp) (by simp),e0.hok.kept hk,?_⟩
 ·exact name_of_addr x.apart (PySem.mem_of_lookup h1) (PySem.mem_of_lookup h2)
 ·have hy:scope.names.lookup y=some .cell\/scope.names.lookup y=some .free:=hy
  rcases hy with hy | hy
  ·exact Qo hy
  ·exact absurd rfl (S.nofree _ (PySem.mem_of_lookup hy))
 ·exact Nat.le_of_lt (x.above y c (PySem.mem_of_lookup h))
 ·have hi:i < vs.length:=by
   unfold vD at h2
   by_cases hi:i < vs.length
   ·exact hi
   ·rw [List.getElem?_append_right (by simpa using hi)] at h2
    rw [List.getElem?_replicate] at h2
    split at h2 <;> cases h2
  have ha:vs[i]? = some v:=by
   unfold vD at h2
   rw [List.getElem?_append_left (by simpa using hi),List.getElem?_map] at h2
   cases e:vs[i]? with
   | none=>rw [e] at h2; cases h2
   | some a=>rw [e] at h2; cases h2; rfl
  obtain ⟨u,hu,rv⟩:=r.get ha
  have hp:ps[i]? = some y:=by
   rw [<- S.pre,List.getElem?_take_of_lt (by omega)]; exact h1
  have ndP:ps.Nodup:=by rw [<- S.pre]; exact S.nd.sublist (List.take_sublist _ _)
  refine ⟨u,rv,?_⟩
  rcases S.par y (List.mem_of_getElem? hp) with k | k
  ·exact .inl ⟨k,Qm ndP hp hu k⟩
  ·obtain ⟨c,e⟩:=Qo (n:=s.heap.objs.size + 1) k
   refine .inr ⟨.inl k,c,e,?_⟩
   have q:=x.cell y c e
   rw [Qn ndP hp hu (by show scope.names.lookup y≠_; rw [k]; decide)] at q
   exact q
 ·exact e0.hok.fresh (Nat.le_of_lt (x.above y c (PySem.mem_of_lookup h)))
 ·unfold vD
  show _=N.length
  rw [List.length_append,List.length_map,List.length_replicate]
  omega
theorem Qp {CX:vc} {P:Program} {w:World} {K:PySem.W.Frag} {mg:Str->Option Value} {base:Heap} {k:Nat} {f:Addr} {name qual:Str} {params:Arguments} {body:List Stmt} {scope:Scope} {dV kV doc pm cdv ct oc:Value} {an od:Option Addr}
  {osl:Array (Option Value)} {N ps:List Str} {sp:Sp} (lk:K.lookup f=some ⟨oc,od,.func (PySem.W.fnOf name qual params body scope dV kV doc pm an cdv ct),osl⟩) (hcd:PySem.W.codeIn K cdv qual=true) (S:zb N ps scope)
  (len:∀ vs H Q E,sp vs H Q E->vs.length=ps.length)
  (hbody:∀ (A:Around) (outer:List Env) (s:Shared) (H:Hp) (vs:List V) (Q:VK) (E:XK),zi k (A.deeper (envOfC qual scope s.heap.objs.size f cdv))->sp vs H Q E->
   ∃ t,yu (xR CX P w K mg base N qual scope f cdv A outer s H E) body t/\t { nx:=λ_ H'=>Q .non H',rt:=Q } (vD N vs) H) :
  zG P w K mg base CX (k + 1) f (PySem.W.fnOf name qual params body scope dV kV doc pm an cdv ct) ps sp:=by
 refine ⟨len,λA outer s H args us vs Q E hr e0 hb r hsp=>?_⟩
 have hl:=len _ _ _ _ hsp
 have KX:K.In s.heap:=e0.mod.kin.keeps λb o e=>(e0.bs b o e).1
 have lim:s.heap.NoLimit:=e0.mod.nolimit.keeps λb o e=>(e0.bs b o e).1
 have hkind:∀ y∈ps.zip us,scope.names.lookup y.1=some .local\/(scope.names.lookup y.1=some .cell/\((cellsFrom (s.heap.objs.size + 1) scope.names []).lookup y.1).isSome=true):=λ⟨n,v⟩ hy=>by
  rcases S.par n (List.of_mem_zip hy).1 with q | q
  ·exact .inl q
  ·exact .inr ⟨q,PySem.W.cellsFrom_some _ _ _ (.inl q)⟩
 refine codeAny_call_function hr.depth (KX _ _ lk) rfl S.co S.gen rfl (PySem.W.codeRec_of KX hcd) (hb _ _ _ _ ?_)
 refine wpAny_newFunctionEnv_cells S.kind hkind λenv he s1 x=>?_
 subst he
 refine ⟨lim.keeps x.toInCall.keep,codeAny_func ?_⟩
 obtain ⟨t,ht,hq⟩:=hbody A outer s H vs Q E (hr.deeper _) hsp
 have I:zH (xR CX P w K mg base N qual scope f cdv A outer s H E) [] (vD N vs) H s1:=zLM S hr.hd e0 hl r x
 refine wpAny_mono (ht [] s1 (vD N vs) H _ I hq) (λfl s' hs=>?_) λe s' hs=>hs
 have fin:∀ {σ':St} {H':Hp} {v:V} {u:Value},zH (xR CX P w K mg base N qual scope f cdv A outer s H E) [] σ' H' s'->zT v u->Q v H'->CE outer P w H s Q u s':=
  λ{σ' H' v u} J rv q=>⟨v,H',J.os,J.bare,J.base,J.hok,rv,q⟩
 cases fl with
 | ret u=>
  obtain ⟨v,σ',H',J,rv,q⟩:=hs
  exact fin J rv q
 | next=>
  obtain ⟨σ',H',J,q⟩:=hs
  exact fin (v:=V.non) (u:=Value.none) J rfl q
 | brk=>
  obtain ⟨_,_,_,q⟩:=hs
  exact False.elim q
 | cont=>
  obtain ⟨_,_,_,q⟩:=hs
  exact False.elim q
end L2
namespace L2
open PySem PySem.Spec PyProof.Rows
section
variable {X:Cx} {x:Str} {p pos:Pos} {e:Expr} {es:List Expr} {t:TA} {id T:String} {r:List V->Hp->VK->Prop}
def gY (r:List V->Hp->VK->Prop) (t:TA):TE:=λσ H Q=>t σ H λvs H1=>r vs H1 Q
theorem xS (hc:wv X (.builtin id) r) (hg:Gl X x) (hm:X.mg x=none) (hv:bootBuiltins x=some (.builtin id)) (ha:PA X (e :: es) t) (hn:x≠"__name__":=by decide) (hdb:(x == ("__debug__" : Str))=false:=by decide)
  (he:starEach (e :: es) X.env=(false,eval e X.env) :: starEach es X.env:=by rfl) (hpl:(backTo pos (starEach es X.env)).any (·.1)=false:=by rfl):PE X (.Call (.Name x p) (e :: es) [] pos) (gY r t):=by
 intro pins s σ H Q I h
 refine wpAny_Call_Name_kw (jO I hg hm hv ?_ hn hdb)
 exact PyProof.Rows.callWith_builtin1 (zg (ha pos pins s σ H _ I h) λus s1 ⟨vs,H1,I1,r1,q1⟩=>hc pins s1 σ H1 vs us Q I1 r1 q1) he hpl
theorem zKo (hc:wv X (.type T) r) (hg:Gl X x) (hm:X.mg x=none) (hv:bootBuiltins x=some (.type T)) (ha:PA X (e :: es) t) (hn:x≠"__name__":=by decide) (hdb:(x == ("__debug__" : Str))=false:=by decide)
  (he:starEach (e :: es) X.env=(false,eval e X.env) :: starEach es X.env:=by rfl) (hpl:(backTo pos (starEach es X.env)).any (·.1)=false:=by rfl):PE X (.Call (.Name x p) (e :: es) [] pos) (gY r t):=by
 intro pins s σ H Q I h
 refine wpAny_Call_Name_kw (jO I hg hm hv ?_ hn hdb)
 exact PyProof.Rows.callWith_type1 (zg (ha pos pins s σ H _ I h) λus s1 ⟨vs,H1,I1,r1,q1⟩=>hc pins s1 σ H1 vs us Q I1 r1 q1) he hpl
end
end L2
namespace HT
open PySem PyProof.Rows
section
open PySem.SeqAt
open PySem.AutoSeq1 (wpAny_loadPart')
open PySem.MeetsSeq PySem.MeetsSeq2 PySem.MeetsSeq3
end
section
variable {prog:Program} {w:World} {A:Around} {E:Value->Shared->Prop} {s:Shared}
theorem cat_tup {t b:Addr} {vs ws:List Value} {Q:Value->Shared->Prop} (ht:IsTup s.heap t vs.toArray) (hb:IsTup s.heap b ws.toArray) (hv:vs≠[])
  (h1:ws=[]->Q (.ref t) s) (h2:ws≠[]->Q (.ref s.heap.objs.size) { s with heap:=s.heap.push { cls:=.type "tuple",data:=.seq (vs++ws).toArray } })
  (hsz:vs.length + ws.length<=sizeLine):wpAny (model prog w) A (binaryOp .Add (.ref t) (.ref b)) Q E s:=by
 obtain ⟨⟨cls,dd,data,sl⟩,ho,hc,n,hd⟩:=id ht
 obtain ⟨⟨cls2,dd2,data2,sl2⟩,ho2,hc2,n2,hd2⟩:=id hb
 simp only at hc hd hc2 hd2
 subst hc hd hc2 hd2
 have e:vs.toArray++ws.toArray=(vs++ws).toArray:=by simp
 by_cases hw:ws=[]
 ·exact concat_meets ⟨_,ho,rfl⟩ ⟨_,ho2,rfl⟩ noFill_tuple_add seq_tuple_add PySem.F.slot_tuple_add PySem.F.entry_tuple_add (PySem.F.args_tuple_add_2 _ _)
   (tuple_addW1 t b vs.toArray ws.toArray n n2 dd dd2 sl sl2 (by simpa using hv) (by simp [hw])) ⟨ho,ho2,h1 hw⟩
 ·refine concat_meets ⟨_,ho,rfl⟩ ⟨_,ho2,rfl⟩ noFill_tuple_add seq_tuple_add PySem.F.slot_tuple_add PySem.F.entry_tuple_add (PySem.F.args_tuple_add_2 _ _)
   (tuple_addW2 t b vs.toArray ws.toArray n n2 dd dd2 sl sl2 (by simpa using hv) (by simpa using hw) (by rw [List.size_toArray,List.size_toArray]; exact hsz)) ⟨ho,ho2,?_⟩
  rw [e]
  exact h2 hw
def sIx (n d:Nat):Option Int->Nat
 | none=>d
 | some v=>if v < 0 then (v + (n:Int)).toNat else min v.toNat n
theorem sIx_none (n d:Nat):sIx n d none=d:=rfl
theorem sIx_nat (n d k:Nat):sIx n d (some (k:Int))=min k n:=by
 show (if (k:Int) < 0 then ((k:Int) + (n:Int)).toNat else min (k:Int).toNat n)=min k n
 rw [if_neg (by omega),Int.toNat_natCast]
theorem zPe (n d:Nat) (hd:d<=n) (o:Option Int):sIx n d o<=n:=by
 cases o with
 | none=>exact hd
 | some v=>
  show (if v < 0 then (v + (n:Int)).toNat else min v.toNat n)<=n
  by_cases hv:v < 0
  ·rw [if_pos hv]; omega
  ·rw [if_neg hv]; exact Nat.min_le_right _ _
theorem Qq (v:Int) (n d:Nat):(if v < 0 then max (v + (n:Int)) 0 else min v (n:Int))=((sIx n d (some v):Nat):Int):=by
 show (if v < 0 then max (v + (n:Int)) 0 else min v (n:Int))=(((if v < 0 then (v + (n:Int)).toNat else min v.toNat n):Nat):Int)
 by_cases hv:v < 0
 ·simp only [if_pos hv]; omega
 ·simp only [if_neg hv]; omega
theorem zJ1 (lo hi:Option Int) (n:Nat):Builtin.Slice.sliceAdjust lo hi 1 (n:Int)=(((sIx n 0 lo:Nat):Int),((sIx n n hi:Nat):Int)):=by
 have h1:¬ ((1:Int) < 0):=by omega
 unfold Builtin.Slice.sliceAdjust
 simp only [h1,if_false]
 refine Prod.ext ?_ ?_
 ·cases lo with
  | none=>rfl
  | some v=>exact Qq v n 0
 ·cases hi with
  | none=>rfl
  | some v=>exact Qq v n n
theorem zJZ (i j:Nat):Builtin.Slice.slicePlaces (i:Int) (j:Int) 1=j - i:=by
 unfold Builtin.Slice.slicePlaces
 have h1:(1:Int) > 0:=by omega
 simp only [h1,if_true,Int.ediv_one]
 split <;> omega
theorem Qr {v:Value} {o:Option Int} {Q:Option Int->Shared->Prop} (p:IsPart v o) (h:Q o s):wpAny (model prog w) A (Builtin.Slice.slicePartIndex v) Q E s:=by
 cases p with
 | none=>exact slicePart_none h
 | int i t=>exact slicePart_int h
theorem Qs {sl:Addr} {vl vu:Value} {lo hi:Option Int} {n:Nat} {Q:Int × Int × Nat->Shared->Prop} (hs:s.heap.IsSliceOf sl vl vu .none) (pl:IsPart vl lo) (pu:IsPart vu hi)
  (h:Q (((sIx n 0 lo:Nat):Int),1,sIx n n hi - sIx n 0 lo) s):wpAny (model prog w) A (Builtin.Slice.sliceApplied (.ref sl) (pure (n:Int))) Q E s:=by
 obtain ⟨os,hos,hcs,hds⟩:=id hs
 unfold Builtin.Slice.sliceApplied Builtin.Slice.sliceFields
 refine wpAny_bind (wpAny_bind (wpAny_field hos hds (x:=vl) rfl (wpAny_bind (wpAny_field hos hds (x:=vu) rfl (wpAny_bind (wpAny_field hos hds (x:=.none) rfl (wpAny_pure ?_)))))))
 refine wpAny_bind (slicePart_none ?_)
 show wpAny _ _ (if ((1:Int) == 0)=true then _ else _) _ _ s
 rw [if_neg (by decide)]
 refine wpAny_bind (Qr pl (wpAny_bind (Qr pu (wpAny_bind (wpAny_pure ?_)))))
 show wpAny _ _ (match Builtin.Slice.sliceAdjust lo hi 1 (n:Int) with | (lo,hi)=>pure (lo,(1:Int),Builtin.Slice.slicePlaces lo hi 1)) _ _ s
 rw [zJ1 lo hi n]
 show wpAny _ _ (pure (((sIx n 0 lo:Nat):Int),(1:Int),Builtin.Slice.slicePlaces ((sIx n 0 lo:Nat):Int) ((sIx n n hi:Nat):Int) 1)) _ _ s
 rw [zJZ]
 exact wpAny_pure h
theorem zMp (xs:Array Value) (i k:Nat):((List.range k).filterMap λ(m:Nat)=>xs[((i:Int) + (m:Int) * 1).toNat]?).toArray=((xs.toList.drop i).take k).toArray:=by
 have e:(λ(m:Nat)=>xs[((i:Int) + (m:Int) * 1).toNat]?)=λm=>xs[i + m]?:=by
  funext m
  have:((i:Int) + (m:Int) * 1).toNat=i + m:=by omega
  rw [this]
 rw [e]
 have:=pick_run xs i k
 rw [List.filterMap_map] at this
 have e2:((λx=>xs[x]?) ∘ λx=>i + x)=λm=>xs[i + m]?:=rfl
 rw [e2] at this
 rw [this]
theorem getItem_tuple_cut {t sl:Addr} {items:Array Value} {vl vu:Value} {lo hi:Option Int} {Q:Value->Shared->Prop} (ht:IsTup s.heap t items) (hs:s.heap.IsSliceOf sl vl vu .none) (pl:IsPart vl lo) (pu:IsPart vu hi)
  (hw:¬ (sIx items.size 0 lo=0/\sIx items.size items.size hi=items.size))
  (h:Q (.ref s.heap.objs.size) { s with heap:=s.heap.push { cls:=.type "tuple",data:=.seq ((items.toList.drop (sIx items.size 0 lo)).take (sIx items.size items.size hi - sIx items.size 0 lo)).toArray } })
  (hsz:items.size<=sizeLine):wpAny (model prog w) A (getItem (.ref t) (.ref sl)) Q E s:=by
 have htake:sizeOk (.seq ((items.toList.drop (sIx items.size 0 lo)).take (sIx items.size items.size hi - sIx items.size 0 lo)).toArray):=by
  show ((items.toList.drop (sIx items.size 0 lo)).take (sIx items.size items.size hi - sIx items.size 0 lo)).toArray.size<=sizeLine
  rw [List.size_toArray,List.length_take,List.length_drop,Array.length_toList]
  omega
 have hj:sIx items.size items.size hi<=items.size:=zPe _ _ (Nat.le_refl _) hi
 obtain ⟨os,hos,hcs,hds⟩:=id hs
 have hTs:s.TypeIs (.ref sl) "slice":=⟨os,hos,hcs⟩
 unfold getItem
 try with_reducible refine wpAny_holding ?_
 first | refine wpAny_bind (wpAny_pure ?_) | skip
 refine wpAny_bind (wpAny_sequenceKey ht.typeIs (by decide) ?_)
 refine wpAny_bind (wpAny_callSpecial?_slot (name:=Str.ofString "__getitem__") ht.typeIs PyProof.Rows.slot_tuple_getitem
  (wpAny_call_entry PyProof.Rows.slot_tuple_getitem ht.typeIs entry_tuple_getitem ?_ (args_tuple_getitem _ _)))
 show wpAny _ _ (Builtin.Tuple.tupleItemsOf (.ref t) >>= _) _ _ s
 refine wpAny_bind (tupleItemsOf_ ht ?_)
 refine wpAny_bind (wpAny_typeOf hTs ?_)
 rw [if_pos (by decide)]
 refine wpAny_bind (Qs hs pl pu ?_)
 have hno:¬ ((((sIx items.size 0 lo:Nat):Int) == 0 && (1:Int) == 1 && (sIx items.size items.size hi - sIx items.size 0 lo) == items.size)=true):=by
  intro q
  rw [Bool.and_eq_true,Bool.and_eq_true] at q
  have q1:((sIx items.size 0 lo:Nat):Int)=0:=eq_of_beq q.1.1
  have q2:sIx items.size items.size hi - sIx items.size 0 lo=items.size:=eq_of_beq q.2
  exact hw ⟨by omega,by omega⟩
 show wpAny _ _ (if (((sIx items.size 0 lo:Nat):Int) == 0 && (1:Int) == 1 && (sIx items.size items.size hi - sIx items.size 0 lo) == items.size)=true then _ else _) _ _ s
 rw [if_neg hno,zMp]
 first
  | exact wpAny_bind (m:=Builtin.Tuple.tupleExact _) (wpAny_newObj_type (wpAny_pure ⟨_,rfl,wpAny_pure h⟩) htake)
  | exact wpAny_bind (m:=Builtin.Tuple.tupleExact _) (wpAny_newObj_type (wpAny_bind (wpAny_pure (wpAny_pure ⟨_,rfl,wpAny_pure h⟩))) htake)
  | exact wpAny_bind (wpAny_bind (m:=Builtin.Tuple.tupleExact _) (wpAny_newObj_type (wpAny_pure (wpAny_pure ⟨_,rfl,wpAny_pure h⟩)) htake))
  | exact wpAny_bind (wpAny_bind (m:=Builtin.Tuple.tupleExact _) (wpAny_newObj_type (wpAny_pure ⟨_,rfl,wpAny_pure h⟩) htake))
end
end HT
namespace L2
open PySem PySem.Spec PyProof.Rows
abbrev TO:=St->Hp->(Option Int->Hp->Prop)->Prop
def PO (X:Cx) (e:Option Expr) (t:TO):Prop:=
 ∀ (pins:List (Addr × Obj)) (s:Shared) (σ:St) (H:Hp) (Q:Option Int->Hp->Prop),zH X pins σ H s->t σ H Q->
  wpAny (model X.prog X.w) X.A (evalPart e X.env) (λu s'=>∃ o H',zH X pins σ H' s'/\IsPart u o/\Q o H') X.xe s
def zOM:TO:=λ_ H Q=>Q none H
def gZ (t:TE):TO:=λσ H Q=>t σ H λx H1=>∃ i,x=.int i/\Q (some i) H1
section
variable {X:Cx} {e:Expr} {te:TE} {lo hi:Option Expr} {tl th:TO} {pos p2:Pos}
theorem zOY:PO X none zOM:=by
 intro pins s σ H Q I h
 rw [evalPart_none]
 exact wpAny_pure ⟨none,H,I,.none,h⟩
theorem zOX (h:PE X e te):PO X (some e) (gZ te):=by
 intro pins s σ H Q I hw
 rw [evalPart_some]
 refine zg (h pins s σ H _ I hw) λu s1 ⟨x,H1,I1,r1,q1⟩=>?_
 obtain ⟨i,rfl,q⟩:=q1
 obtain ⟨t,rfl⟩:=r1
 exact ⟨some i,H1,I1,.int i t,q⟩
def jS (X:Cx) (r:V->Option Int->Option Int->Hp->VK->Prop):Prop:=
 ∀ (pins:List (Addr × Obj)) (s:Shared) (σ:St) (H:Hp) (x:V) (v vl vu:Value) (lo hi:Option Int) (sl:Addr) (Q:VK),zH X pins σ H s->zT x v->s.heap.IsSliceOf sl vl vu .none->IsPart vl lo->IsPart vu hi->r x lo hi H Q->
  ∃ T id,typeLookup (.type T) "__getitem__" = pure (some (.builtin id))/\s.TypeIs v T/\wpAny (model X.prog X.w) X.A (getItem v (.ref sl)) (EP X pins σ Q) X.xe s
def tSl (r:V->Option Int->Option Int->Hp->VK->Prop) (te:TE) (tl th:TO):TE:=λσ H Q=>te σ H λx H1=>tl σ H1 λl H2=>th σ H2 λu H3=>r x l u H3 Q
theorem Qt {r:V->Option Int->Option Int->Hp->VK->Prop} (hr:jS X r) (he:PE X e te) (hl:PO X lo tl) (hu:PO X hi th):PE X (.Subscript e (.Slice lo hi none p2) pos) (tSl r te tl th):=by
 intro pins s σ H Q I h
 refine Subscript_ (zg (he pins s σ H _ I h) λv s1 ⟨x,H1,I1,r1,q1⟩=>?_)
 refine wpAny_Slice (zg (hl pins s1 σ H1 _ I1 q1) λvl s2 ⟨l,H2,I2,pl,q2⟩=>zg (hu pins s2 σ H2 _ I2 q2) λvu s3 ⟨u,H3,I3,pu,q3⟩=>?_)
 rw [evalPart_none]
 refine wpAny_pure ?_
 have I4:zH X pins σ H3 { s3 with heap:=s3.heap.push { cls:=.type "slice",data:=.fields #[vl,vu,.none] } }:=I3.kept (t':=s3.toks) λb ob q=>Heap.get?_push_of_some _ q
 obtain ⟨T,id,hT,ht,hg⟩:=hr pins { s3 with heap:=s3.heap.push { cls:=.type "slice",data:=.fields #[vl,vu,.none] } } σ H3 x v vl vu l u s3.heap.objs.size Q I4 r1 (Heap.IsSliceOf.new ..) pl pu q3
 show wpAny (model X.prog X.w) X.A (subscriptTail e (.Slice lo hi none p2) v (.ref s3.heap.objs.size)) (EP X pins σ Q) X.xe { s3 with heap:=s3.heap.push { cls:=.type "slice",data:=.fields #[vl,vu,.none] } }
 exact tail_any (ops:=[.ref s3.heap.objs.size,v]) ht hT hg (by with_unfolding_all rfl)
def wQ (xs:List V) (lo hi:Option Int):List V:=(xs.drop (HT.sIx xs.length 0 lo)).take (HT.sIx xs.length xs.length hi - HT.sIx xs.length 0 lo)
theorem Qu (xs:List V) (lo hi:Option Int):(wQ xs lo hi).length<=xs.length:=by
 unfold wQ
 rw [List.length_take,List.length_drop]
 omega
def Wn (K:PySem.W.Frag):V->Option Int->Option Int->Hp->VK->Prop:=λx lo hi H Q=>∃ a xs,x=.ref a/\zw K H a xs∧
 ¬ (HT.sIx xs.length 0 lo=0/\HT.sIx xs.length xs.length hi=xs.length)/\∀ p,H p=none->Q (.ref p) (za H p (.tup (wQ xs lo hi)))
theorem zPa:jS X (Wn X.K):=by
 intro pins s σ H x v vl vu lo hi sl Q I rx hs pl pu h
 obtain ⟨a,xs,rfl,hx,hw,q⟩:=h
 cases rx
 obtain ⟨its,r,ht,hz⟩:=I.tuple hx
 have hlen:its.toArray.size=xs.length:=by rw [List.size_toArray]; exact r.length.symm
 refine ⟨"tuple",_,PyProof.Rows.slot_tuple_getitem.lookup,ht.typeIs,?_⟩
 refine HT.getItem_tuple_cut ht hs pl pu (by rw [hlen]; exact hw) ?_ (by rw [hlen]; exact hz)
 rw [hlen]
 refine ⟨.ref s.heap.objs.size,_,I.laid (t':=s.toks) (o:=.tup (wQ xs lo hi)) (λb ob q=>Heap.get?_push_of_some _ q) (Nat.le_refl _) ?_,rfl,q _ (I.hok.fresh (Nat.le_refl _))⟩
 exact ⟨Nat.le_trans (Qu xs lo hi) hz,_,(r.drop (HT.sIx xs.length 0 lo)).take (HT.sIx xs.length xs.length hi - HT.sIx xs.length 0 lo),IsTup.new _ _⟩
def ga (K:PySem.W.Frag):R2:=λx y H Q=>∃ a b xs ys,x=.ref a/\y=.ref b/\zw K H a xs/\zw K H b ys/\xs≠[]/\xs.length + ys.length<=sizeLine∧
 (ys=[]->Q (.ref a) H)/\(ys≠[]->∀ p,H p=none->Q (.ref p) (za H p (.tup (xs++ys))))
theorem zN.nil_iff {xs:List V} {us:List Value} (r:zN xs us):us=[] ↔ xs=[]:=by
 cases r with
 | nil=>simp
 | cons _ _=>simp
theorem zOj:yn X (binaryOp .Add) (ga X.K):=by
 intro pins s σ H x y v u Q I rx ry h
 obtain ⟨a,b,xs,ys,rfl,rfl,ha,hb,hx,hz,q1,q2⟩:=h
 cases rx
 cases ry
 obtain ⟨its,r1,p1,_⟩:=I.tuple ha
 obtain ⟨its2,r2,p2,_⟩:=I.tuple hb
 refine HT.cat_tup p1 p2 (λz=>hx (r1.nil_iff.mp z)) (λz=>⟨.ref a,H,I,rfl,q1 (r2.nil_iff.mp z)⟩) (λz=>?_) (by rw [<- r1.length,<- r2.length]; exact hz)
 refine ⟨.ref s.heap.objs.size,_,I.laid (t':=s.toks) (o:=.tup (xs++ys)) (λb ob q=>Heap.get?_push_of_some _ q) (Nat.le_refl _) ?_,rfl,q2 (λw=>z (r2.nil_iff.mpr w)) _ (I.hok.fresh (Nat.le_refl _))⟩
 exact ⟨by rw [List.length_append]; exact hz,_,r1.append r2,IsTup.new _ _⟩
end
end L2
namespace L2
open PySem PySem.Spec PyProof.Rows
def ww (n:Nat) (i:Int):Option Nat:=if 0<=i then (if i < n then some i.toNat else none) else if -(n:Int)<=i then some (i + n).toNat else none
def yR {α:Type} (xs:List α) (i:Int):Option α:=(ww xs.length i).bind λj=>xs[j]?
theorem zOx {n:Nat} {i:Int} {j:Nat} (h:ww n i=some j):seqIndex? i n=some j/\j < n/\-(n:Int)<=i/\i < n:=by
 unfold ww at h
 by_cases h0:0<=i
 ·rw [if_pos h0] at h
  by_cases h1:i < n
  ·rw [if_pos h1] at h
   have e:i.toNat=j:=Option.some.inj h
   exact ⟨by rw [seqIndex_of h0 h1,e],by omega,by omega,h1⟩
  ·rw [if_neg h1] at h; cases h
 ·rw [if_neg h0] at h
  by_cases h1 : -(n:Int)<=i
  ·rw [if_pos h1] at h
   have e:(i + n).toNat=j:=Option.some.inj h
   exact ⟨by rw [seqIndex_neg (by omega) h1,e],by omega,h1,by omega⟩
  ·rw [if_neg h1] at h; cases h
theorem Qv {α:Type} {xs:List α} {i:Int} {v:α} (h:yR xs i=some v):∃ j,seqIndex? i xs.length=some j/\xs[j]? = some v/\j < xs.length/\-(xs.length:Int)<=i/\i < xs.length:=by
 unfold yR at h
 cases e:ww xs.length i with
 | none=>rw [e] at h; cases h
 | some j=>
  rw [e] at h
  obtain ⟨h1,h2,h3,h4⟩:=zOx e
  exact ⟨j,h1,h,h2,h3,h4⟩
def Wo (b:Expr):Prop:=∀ o i,subscripted b false o i=operate [o,i] (getItem o i)
def YV (X:Cx) (r:R2):Prop:=
 ∀ (value slice:Expr) (pins:List (Addr × Obj)) (s:Shared) (σ:St) (H:Hp) (x y:V) (v u:Value) (Q:VK),zH X pins σ H s->zT x v->zT y u->r x y H Q->
  subscripted slice false v u=operate [v,u] (getItem v u)->wpAny (model X.prog X.w) X.A (subscriptTail value slice v u) (EP X pins σ Q) X.xe s
def Qw (X:Cx) (id:String) (r:V->List V->Hp->VK->Prop):Prop:=
 ∀ (pins:List (Addr × Obj)) (s:Shared) (σ:St) (H:Hp) (x:V) (xs:List V) (v:Value) (us:List Value) (Q:VK),zH X pins σ H s->zT x v->zN xs us->r x xs H Q->
  wpAny (model X.prog X.w) X.A (call (.builtin id) (v :: us)) (EP X pins σ Q) X.xe s
section
variable {X:Cx} {a b:Expr} {ta tb:TE} {pos:Pos}
theorem Qx {r:R2} (hr:YV X r) (ha:PE X a ta) (hb:PE X b tb) (hs:Wo b):PE X (.Subscript a b pos) (gO r ta tb):=by
 intro pins s σ H Q I h
 exact Subscript_ (jP ha hb I h λv u s2 x y H2 I2 rx ry q=>hr a b pins s2 σ H2 x y v u Q I2 rx ry q (hs _ _))
def Wp (K:PySem.W.Frag):R2:=λx y H Q=>∃ p xs i v,x=.ref p/\y=.int i/\zW K H p xs/\yR xs i=some v/\Q v H
def Wq (K:PySem.W.Frag):R2:=λx y H Q=>∃ p xs i v,x=.ref p/\y=.int i/\zw K H p xs/\yR xs i=some v/\Q v H
theorem Qy:YV X (Wp X.K):=by
 intro value slice pins s σ H x y v u Q I rx ry h hs
 obtain ⟨p,xs,i,z,rfl,rfl,hq,he,q⟩:=h
 cases rx
 obtain ⟨t,rfl⟩:=ry
 obtain ⟨its,r,pl,hz⟩:=I.list hq
 obtain ⟨j,h1,h2,h3,h4,h5⟩:=Qv he
 obtain ⟨w,ew,rw'⟩:=r.get h2
 have hl:=r.length
 have hn:=Wf
 have fin:EP X pins σ Q w s:=⟨z,H,I,rw',q⟩
 by_cases h0:0<=i
 ·have hj:i.toNat=j:=by
   rw [seqIndex_of h0 h5] at h1
   exact Option.some.inj h1
  exact item_listR pl.isList h0 (by omega) (by rw [hj]; simpa using ew) fin hs
 ·have hj:(i + (its.toArray.size:Int)).toNat=j:=by
   rw [seqIndex_neg (by omega) h4] at h1
   rw [List.size_toArray,<- hl]
   exact Option.some.inj h1
  exact subscriptTail_builtinR (x:=w) pl.isList.typeIs slot_list_getitem.lookup
   (wpAny_getItem_list_neg (Q:=λr s'=>r=w/\EP X pins σ Q r s') pl.isList (by omega) (by rw [List.size_toArray] <;> omega) (by omega) (by rw [hj]; simpa using ew) ⟨rfl,fin⟩) hs
theorem zQd:YV X (Wq X.K):=by
 intro value slice pins s σ H x y v u Q I rx ry h hs
 obtain ⟨p,xs,i,z,rfl,rfl,hq,he,q⟩:=h
 cases rx
 obtain ⟨t,rfl⟩:=ry
 obtain ⟨its,r,pl,hz⟩:=I.tuple hq
 obtain ⟨j,h1,h2,h3,h4,h5⟩:=Qv he
 obtain ⟨w,ew,rw'⟩:=r.get h2
 have hl:=r.length
 have hn:=Wf
 have fin:EP X pins σ Q w s:=⟨z,H,I,rw',q⟩
 exact subscriptTail_builtinR (x:=w) pl.typeIs slot_tuple_getitem.lookup
  (getItem_tuple (j:=j) (Q:=λr s'=>r=w/\EP X pins σ Q r s') pl (by omega) (by omega) (by rw [List.size_toArray,<- hl]; exact h1) (by simpa using ew) ⟨rfl,fin⟩) hs
theorem zHC (lo hi:Option Int) (n:Nat):(sliceBounds lo hi none n).1=((HT.sIx n 0 lo:Nat):Int)/\(sliceBounds lo hi none n).2.1=((HT.sIx n n hi:Nat):Int)/\(sliceBounds lo hi none n).2.2=1:=by
 refine ⟨?_,?_,rfl⟩
 ·cases lo with
  | none=>simp [sliceBounds,HT.sIx]
  | some i=>
   simp only [sliceBounds,HT.sIx,Option.getD_none,show (1:Int) > 0 by decide,if_true]
   by_cases h:i < 0
   ·simp only [h,if_true] <;> omega
   ·simp only [h,if_false] <;> omega
 ·cases hi with
  | none=>simp [sliceBounds,HT.sIx]
  | some i=>
   simp only [sliceBounds,HT.sIx,Option.getD_none,show (1:Int) > 0 by decide,if_true]
   by_cases h:i < 0
   ·simp only [h,if_true] <;> omega
   ·simp only [h,if_false] <;> omega
theorem zGJ (its:List Value) (lo hi:Option Int):slicePick its.toArray lo hi none=((its.drop (HT.sIx its.length 0 lo)).take (HT.sIx its.length its.length hi - HT.sIx its.length 0 lo)).toArray:=by
 obtain ⟨h1,h2,h3⟩:=zHC lo hi its.toArray.size
 unfold slicePick
 rw [h1,h2,h3]
 simp only [sliceRange_one,pick_run,List.size_toArray] <;> rfl
def Wr (K:PySem.W.Frag):V->Option Int->Option Int->Hp->VK->Prop:=λx lo hi H Q=>∃ a xs,x=.ref a/\zW K H a xs/\∀ p,H p=none->Q (.ref p) (za H p (.lst (wQ xs lo hi)))
theorem Qz:jS X (Wr X.K):=by
 intro pins s σ H x v vl vu lo hi sl Q I rx hs pl pu h
 obtain ⟨a,xs,rfl,hx,q⟩:=h
 cases rx
 obtain ⟨its,r,ht,hz⟩:=I.list hx
 have hlen:=r.length
 refine ⟨"list",_,slot_list_getitem.lookup,ht.isList.typeIs,?_⟩
 refine wpAny_getItem_list_slice ht.isList hs pl pu .none (by simp) ?_ (by rw [List.size_toArray] <;> omega)
 rw [zGJ,<- hlen]
 refine ⟨.ref s.heap.objs.size,_,I.laid (t':=s.toks) (o:=.lst (wQ xs lo hi)) (λb ob q=>Heap.get?_push_of_some _ q) (Nat.le_refl _) ?_,rfl,q _ (I.hok.fresh (Nat.le_refl _))⟩
 exact ⟨Nat.le_trans (Qu xs lo hi) hz,_,0,(r.drop (HT.sIx xs.length 0 lo)).take (HT.sIx xs.length xs.length hi - HT.sIx xs.length 0 lo),Heap.get?_push_size _ rfl⟩
theorem yV:wv X (.builtin "len") (λxs H Q=>∃ p ys,xs=[.ref p]/\(zW X.K H p ys\/zw X.K H p ys)/\Q (.int ys.length) H):=by
 intro pins s σ H xs us Q I r h
 obtain ⟨p,ys,rfl,hq,q⟩:=h
 obtain ⟨u,rfl,rx⟩:=uM r
 cases rx
 have hn:=Wf
 rcases hq with hq | hq
 ·obtain ⟨its,r',pl,hz⟩:=I.list hq
  have hlen:=r'.length
  exact Calls.call_len_list pl.isList (by simp only [List.size_toArray] <;> omega) ⟨.int ys.length,H,I.tok _,⟨s.toks + 1,by rw [List.size_toArray,hlen]⟩,q⟩
 ·obtain ⟨its,r',pl,hz⟩:=I.tuple hq
  have hlen:=r'.length
  exact len_tuple pl (by simp only [List.size_toArray] <;> omega) ⟨.int ys.length,H,I.tok _,⟨s.toks + 1,by rw [List.size_toArray,hlen]⟩,q⟩
theorem vk:wv X (.type "list") (λxs H Q=>∃ p ys,xs=[.ref p]/\(zW X.K H p ys\/zw X.K H p ys)/\∀ l,H l=none->Q (.ref l) (za H l (.lst ys))):=by
 intro pins s σ H xs us Q I r h
 obtain ⟨p,ys,rfl,hq,q⟩:=h
 obtain ⟨u,rfl,rx⟩:=uM r
 cases rx
 have fin:∀ (its:List Value),zN ys its->ys.length<=sizeLine->∀ (h':Heap) (c':Nat),(∀ b o',s.heap.get? b=some o'->h'.get? b=some o')->
   h'.get? s.heap.objs.size=some { cls:=.type "list",dict:=none,data:=.seq its.toArray c',slots:=#[] }->EP X pins σ Q (.ref s.heap.objs.size) { s with heap:=h' }:=λits r' hz h' c' kp e=>
  ⟨.ref s.heap.objs.size,_,I.laid (t':=s.toks) kp (Nat.le_refl _) (show xy X.prog X.w _ h' _ (.lst ys) from ⟨hz,its,c',r',e⟩),rfl,q _ (I.hok.fresh (Nat.le_refl _))⟩
 rcases hq with hq | hq
 ·obtain ⟨its,r',pl,hz⟩:=I.list hq
  have hlen:=r'.length
  obtain ⟨o,ho,hc,n,hd⟩:=pl.isList
  exact call_list_seq p (.inl rfl) ho hc hd (λh' c' kp e=>fin its r' hz h' c' kp e) (by simp only [List.size_toArray] <;> omega)
 ·obtain ⟨its,r',pl,hz⟩:=I.tuple hq
  have hlen:=r'.length
  obtain ⟨o,ho,hc,n,hd⟩:=pl
  exact call_list_seq p (.inr rfl) ho hc hd (λh' c' kp e=>fin its r' hz h' c' kp e) (by simp only [List.size_toArray] <;> omega)
theorem ua:wv X (.type "tuple") (λxs H Q=>∃ p ys,xs=[.ref p]/\((zW X.K H p ys/\∀ l,H l=none->Q (.ref l) (za H l (.tup ys)))\/(zw X.K H p ys/\Q (.ref p) H))):=by
 intro pins s σ H xs us Q I r h
 obtain ⟨p,ys,rfl,h⟩:=h
 obtain ⟨u,rfl,rx⟩:=uM r
 cases rx
 rcases h with ⟨hq,q⟩ | ⟨hq,q⟩
 ·obtain ⟨its,r',pl,hz⟩:=I.list hq
  have hlen:=r'.length
  refine call_tuple_list pl.isList (λh' kp=>?_) (by simp only [List.size_toArray] <;> omega)
  have I1:zH X pins σ H { s with heap:=h' }:=I.kept (t':=s.toks) kp
  have I2:zH X pins σ (za H h'.objs.size (.tup ys)) { s with heap:=h'.push { cls:=.type "tuple",data:=.seq its.toArray } }:=
   I1.laid (t':=s.toks) (λb o e=>Heap.get?_push_of_some _ e) (Nat.le_refl _) (show xy X.prog X.w _ _ _ (.tup ys) from ⟨hz,its,r',IsTup.new _ _⟩)
  exact ⟨.ref h'.objs.size,_,I2,rfl,q _ (I1.hok.fresh (Nat.le_refl _))⟩
 ·obtain ⟨its,r',pl,hz⟩:=I.tuple hq
  exact call_tuple_same pl ⟨.ref p,H,I,rfl,q⟩
def Q3 (K:PySem.W.Frag) (T:String) (x:V) (H:Hp):Prop:=match x with
 | .str _=>T = "str"
 | .int _=>T = "int"
 | .ref p=>(T = "list"/\∃ xs,zW K H p xs)\/(T = "tuple"/\∃ o,K.lookup p=some o/\o.cls=.type "tuple"/\o.dict=none)∨
   (T = "dict"/\((∃ kvs,H p=some (.dK kvs))\/∃ kvs,H p=some (.dT kvs)))\/(T = "set"/\∃ S n,H p=some (.set S n))
 | _=>False
theorem zPM {pins:List (Addr × Obj)} {σ:St} {H:Hp} {s:Shared} {T:String} {x:V} {v:Value} (I:zH X pins σ H s) (r:zT x v) (ty:Q3 X.K T x H) :
  s.TypeIs v T/\∀ a,v=.ref a->∃ ob,s.heap.get? a=some ob/\ob.dict=none:=by
 cases x with
 | str z=>
  obtain ⟨t,rfl⟩:=r
  cases (show T = "str" from ty)
  exact ⟨typeIs_str s z t,λ_ e=>nomatch e⟩
 | int i=>
  obtain ⟨t,rfl⟩:=r
  cases (show T = "int" from ty)
  exact ⟨typeIs_int s i t,λ_ e=>nomatch e⟩
 | ref p=>
  cases r
  rcases ty with ⟨rfl,xs,hq⟩ | ⟨rfl,o,hk,hc,hd⟩ | ⟨rfl,hk⟩ | ⟨rfl,S,n,hk⟩
  ·obtain ⟨its,_,pl,_⟩:=I.list hq
   refine ⟨pl.isList.typeIs,λa e=>?_⟩
   cases e
   obtain ⟨o,n,e,c,hd,_⟩:=pl
   exact ⟨o,e,hd⟩
  ·refine ⟨⟨o,I.kIn p o hk,hc⟩,λa e=>?_⟩
   cases e
   exact ⟨o,I.kIn _ o hk,hd⟩
  ·have z:∃ o,s.heap.get? p=some o/\o.ExactDict:=by
    rcases hk with ⟨kvs,hk⟩ | ⟨kvs,hk⟩
    ·obtain ⟨_,_,_,_,o,_,_,e,ex,_⟩:=I.hok p _ hk
     exact ⟨o,e,ex⟩
    ·obtain ⟨_,_,_,_,o,_,_,e,ex,_⟩:=I.hok p _ hk
     exact ⟨o,e,ex⟩
   obtain ⟨o,e,ex⟩:=z
   refine ⟨⟨o,e,ex.1⟩,λa e2=>?_⟩
   cases e2
   exact ⟨o,e,ex.2.1⟩
  ·obtain ⟨o,_,_,_,e,ex,_⟩:=I.hok p _ hk
   refine ⟨⟨o,e,ex.1⟩,λa e2=>?_⟩
   cases e2
   exact ⟨o,e,ex.2.1⟩
 | _=>exact False.elim ty
def Q4 (K:PySem.W.Frag) (T:String) (r:V->List V->Hp->VK->Prop) (to:TE) (t:TA):TE:=λσ H Q=>to σ H λx H1=>Q3 K T x H1/\t σ H1 λxs H2=>r x xs H2 Q
variable {o e:Expr} {es:List Expr} {to:TE} {t:TA} {name:Str} {apos cpos:Pos} {T id:String} {r:V->List V->Hp->VK->Prop}
theorem xl (pa:PlainAttrs T) (slot:Slot T name id) (hty:typeOf (.builtin id)=pure (.type "method_descriptor")) (hm:Qw X id r) (ho:PE X o to) (ha:PA X (e :: es) t)
  (hbase:attributeBase o name X.env (eval o X.env)=eval o X.env:=by rfl)
  (hfew:((backTo cpos (starEach (e :: es) X.env)).all (λx=>!x.1) && (backToKw cpos (keywordEach [] X.env)).all (λx=>x.1.isSome)
   && decide ((e :: es).length + ([]:List Keyword).length + (if ([]:List Keyword).isEmpty then 0 else 1) < 30))=true:=by rfl)
  (hline:(apos.endLine == cpos.line)=true:=by rfl) (hs:starEach (e :: es) X.env=(false,eval e X.env) :: starEach es X.env:=by rfl) (hplain:(backTo cpos (starEach es X.env)).any (·.1)=false:=by rfl) :
  PE X (.Call (.Attribute o name apos) (e :: es) [] cpos) (Q4 X.K T r to t):=by
 intro pins s σ H Q I h
 refine wpAny_Call_method_late hbase hfew hline rfl (zg (ho pins s σ H _ I h) λv s1 ⟨x,H1,I1,r1,ty,q1⟩=>?_)
 obtain ⟨h1,h2⟩:=zPM I1 r1 ty
 refine ⟨T,id,pa,slot,hty,h1,h2,?_⟩
 have hA:=ha cpos pins s1 σ H1 _ I1 q1
 rw [hs] at hA |-
 refine Calls.callWith_builtin (by show (false || (backTo cpos (starEach es X.env)).any (·.1))=false; rw [hplain] <;> rfl) (Calls.evalArgs_plain ?_)
 exact zg hA λus s2 ⟨vs,H2,I2,r2,q2⟩=>hm pins s2 σ H2 x vs v us Q I2 r1 r2 q2
/- xs.append(e),list.index on a module's tuple .. are Qw facts of 06m -/
end
end L2
namespace L2
open PySem PySem.Spec PyProof.Rows
def Q5 (X:Cx) (id:String) (r:V->List V->Hp->VK->Prop):Prop:=
 ∀ (pins:List (Addr × Obj)) (s:Shared) (σ:St) (H:Hp) (x:V) (xs:List V) (v:Value) (us:List Value) (Q:VK),zH X pins σ H s->zT x v->zN xs us->r x xs H Q->
  wpAny (model X.prog X.w) X.A (call (.builtin id) (v :: us)) (EP X pins σ Q) X.xe s
theorem zN.one:∀ {x:V} {us:List Value},zN [x] us->∃ u,us=[u]/\zT x u
 | _,_,.cons r .nil=>⟨_,rfl,r⟩
theorem zN.rep {xs:List V} {us:List Value} (h:zN xs us):∀ k:Nat,zN (List.replicate k xs).flatten (List.replicate k us).flatten
 | 0=>.nil
 | k + 1=>by
  rw [List.replicate_succ,List.replicate_succ,List.flatten_cons,List.flatten_cons]
  exact zN.append h (zN.rep h k)
theorem Q6 (its:List Value):∀ (k:Nat) (acc:List Value),
  List.foldl (λx1 x2=>x1++x2) acc.toArray (List.replicate k its.toArray)=(acc++(List.replicate k its).flatten).toArray
 | 0,acc=>by simp
 | k + 1,acc=>by
  have e:acc.toArray++its.toArray=(acc++its).toArray:=by simp
  have e2:(acc++its)++(List.replicate k its).flatten=acc++(List.replicate (k + 1) its).flatten:=by
   rw [List.replicate_succ,List.flatten_cons,List.append_assoc]
  rw [<- e2,<- Q6 its k (acc++its),<- e,List.replicate_succ,List.foldl_cons]
section
variable {X:Cx} {pins:List (Addr × Obj)} {σ:St} {H:Hp} {s:Shared} {l b:Addr} {xs ys zs:List V}
theorem zH.lset {its its':List Value} {n:Nat} {f:Array Value->Array Value} {t':Nat} (I:zH X pins σ H s) (hH:H l=some (.lst xs))
  (e:s.heap.get? l=some { cls:=.type "list",data:=.seq its.toArray n }) (hf:f its.toArray=its'.toArray) (hv:zN ys its') (hz:ys.length<=sizeLine) :
  zH X pins σ (za H l (.lst ys)) { s with heap:=s.heap.update l (Obj.mapSeq f),toks:=t' }:=by
 have q:=PySem.IsL.update e f
 rw [hf] at q
 refine I.write (x:=l) (e:=l) (by rw [hH]; exact trivial) (.inl rfl) (λb' u hb hu=>(Heap.get?_update_other s.heap (Obj.mapSeq f) (Ne.symm hb)).trans hu) ⟨_,q⟩ ?_
 exact ⟨hz,its',_,hv,q⟩
theorem zH.lnew {its:List Value} {t':Nat} (I:zH X pins σ H s) (hv:zN ys its) (hz:ys.length<=sizeLine) :
  zH X pins σ (za H s.heap.objs.size (.lst ys)) { s with heap:=s.heap.push { cls:=.type "list",data:=.seq its.toArray },toks:=t' }:=
 I.laid (λ_ _ q=>Heap.get?_push_of_some _ q) (Nat.le_refl _) ⟨hz,its,0,hv,Heap.get?_push_size _ rfl⟩
theorem zH.fresh (I:zH X pins σ H s):H s.heap.objs.size=none:=I.hok.fresh (Nat.le_refl _)
theorem zH.lstM (I:zH X pins σ H s) (hH:H l=some (.lst xs)):xs.length<=sizeLine/\∃ (its:List Value) (n:Nat),zN xs its/\xs.length=its.length/\s.heap.get? l=some { cls:=.type "list",data:=.seq its.toArray n }:=by
 obtain ⟨z,its,n,r,e⟩:=I.hok l _ hH
 exact ⟨z,its,n,r,r.length,e⟩
theorem zNA {n:Nat} (h:n<=sizeLine):Builtin.List.listTooLong n=false:=by
 unfold Builtin.List.listTooLong
 exact decide_eq_false (by omega)
end
section
variable {X:Cx}
def zOT:V->List V->Hp->VK->Prop:=λx vs H Q=>∃ l xs y,x=.ref l/\vs=[y]/\H l=some (.lst xs)/\xs.length < sizeLine/\Q .non (za H l (.lst (xs++[y])))
theorem zLF:Q5 X "list.append" zOT:=by
 intro pins s σ H x vs v us Q I rx rv h
 obtain ⟨l,xs,y,rfl,rfl,hH,hz,q⟩:=h
 cases rx
 obtain ⟨u,rfl,ru⟩:=rv.one
 obtain ⟨z,its,n,r,hl,e⟩:=I.lstM hH
 refine call_meets F.slot_list_append ⟨_,e,rfl⟩ F.entry_list_append (F.args_list_append_2 _ _) (PySem.list_append l its.toArray n u (by rw [List.size_toArray]; omega)) ⟨e,?_⟩
 refine ⟨.non,_,I.lset (its':=its++[u]) hH e (by simp) (r.append (.cons ru .nil)) ?_,rfl,q⟩
 rw [List.length_append,List.length_singleton]
 omega
def gb:R2:=λx y H Q=>∃ l b xs zs,x=.ref l/\y=.ref b/\H l=some (.lst xs)/\H b=some (.lst zs)/\xs.length + zs.length<=sizeLine/\∀ p,H p=none->Q (.ref p) (za H p (.lst (xs++zs)))
theorem zQN:yn X (binaryOp .Add) gb:=by
 intro pins s σ H x y v u Q I rx ry h
 obtain ⟨l,b,xs,zs,rfl,rfl,hH,hB,hz,q⟩:=h
 cases rx
 cases ry
 obtain ⟨z,its,n,r,hl,e⟩:=I.lstM hH
 obtain ⟨z2,its2,n2,r2,hl2,e2⟩:=I.lstM hB
 refine PySem.P.add_list e e2 ?_ (by rw [List.size_toArray,List.size_toArray]; omega)
 have ea:its.toArray++its2.toArray=(its++its2).toArray:=by simp
 rw [ea]
 exact ⟨.ref _,_,I.lnew (t':=s.toks) (r.append r2) (by rw [List.length_append]; omega),rfl,q _ I.fresh⟩
def gc:R2:=λx y H Q=>∃ l k xs,x=.ref l/\y=.int k/\H l=some (.lst xs)/\-(2 ^ 63)<=k/\k < 2 ^ 63/\xs.length * k.toNat<=sizeLine∧
 ∀ p,H p=none->Q (.ref p) (za H p (.lst (List.replicate k.toNat xs).flatten))
theorem zOv {α:Type} (xs:List α) (k:Nat):(List.replicate k xs).flatten.length=k * xs.length:=by
 induction k with
 | zero=>simp
 | succ k ih=>rw [List.replicate_succ,List.flatten_cons,List.length_append,ih,Nat.succ_mul,Nat.add_comm]
theorem zQF:yn X (binaryOp .Mult) gc:=by
 intro pins s σ H x y v u Q I rx ry h
 obtain ⟨l,k,xs,rfl,rfl,hH,h1,h2,hz,q⟩:=h
 cases rx
 obtain ⟨t,rfl⟩:=ry
 obtain ⟨z,its,n,r,hl,e⟩:=I.lstM hH
 have hlen:its.toArray.size * k.toNat<=sizeLine:=by rw [List.size_toArray,<- hl]; exact hz
 have hcap:¬ its.toArray.size * k.toNat > (2 ^ 63 - 1) / 8:=by
  have:(sizeLine:Nat)<=(2 ^ 63 - 1) / 8:=by decide
  omega
 have hfit:¬ (!Builtin.List.listFitsIndex k)=true:=by
  rw [fitsIndex_both h1 h2]
  exact Bool.false_ne_true
 have hlong:¬ Builtin.List.listTooLong (its.toArray.size * k.toNat)=true:=by
  rw [zNA hlen]
  exact Bool.false_ne_true
 have hnew:List.foldl (λx1 x2=>x1++x2) #[] (List.replicate (if its.toArray.isEmpty=true then 0 else k.toNat) its.toArray)=(List.replicate k.toNat its).flatten.toArray:=by
  have f0:∀ m:Nat,List.foldl (λx1 x2=>x1++x2) #[] (List.replicate m its.toArray)=(List.replicate m its).flatten.toArray:=λm=>by
   have:=Q6 its m []
   rw [List.nil_append] at this
   exact this
  rw [f0]
  cases its with
  | nil=>simp
  | cons a r'=>rw [if_neg (by simp)]
 refine wpAny_binaryOp_repeat_ref (T:="list") (U:="int") (by decide) ⟨_,e,rfl⟩ (λs'=>typeIs_int s' k t) noFill_list_mul F.fills_int_mul F.slot_int_rmul repeat_list F.slot_int_index.lookup
  (call_meets F.slot_int_rmul (typeIs_int s k t) F.entry_int_rmul (F.args_int_rmul_2 _ _) (int___rmul___int_list k t l its.toArray n)
   ⟨e,rfl,⟨_,e,rfl⟩,call_meets F.slot_list_mul ⟨_,e,rfl⟩ F.entry_list_mul (F.args_list_mul_2 _ _) (AutoListH.list___mul___list_int_3 l its.toArray n k t hfit hcap hlong) ⟨e,?_⟩⟩)
 rw [hnew]
 exact ⟨.ref _,_,I.lnew (t':=s.toks) (r.rep k.toNat) (by rw [zOv,Nat.mul_comm]; exact hz),rfl,q _ I.fresh⟩
end
section
variable {prog:Program} {w:World} {A:Around} {E:Value->Shared->Prop} {s:Shared}
end
section
variable {X:Cx}
end
end L2
namespace Att
open PySem PySem.W PySem.Calls PyProof.Rows
theorem zFj {P:Params} {h:Heap}:∀ (ns:List Int) (vs:List Value),WellAll P h vs (ns.map WData.int)->IntsAre vs ns:=by
 intro ns
 induction ns with
 | nil=>
  intro vs w
  rw [List.map_nil] at w
  cases w
  exact .nil
 | cons n ns ih=>
  intro vs w
  rw [List.map_cons] at w
  cases w with
  | cons a b=>
   cases a
   exact .cons _ _ (ih _ b)
theorem zKO {l:OpenLaw} {n:Nat} (hn:l.most=some n) {P:Params} {h:Heap} {args:List WData} {vals:List Value}
  (hpre:l.row.toRowW.claim.pre args=true) (hwl:WellAll P h vals args) :
  ∃ a vs ns,vals=[Value.ref a]/\args=[WData.list (ns.map WData.int)]/\h.get? a=some { cls:=.type "list",data:=.seq vs.toArray }/\IntsAre vs ns/\ns.length<=n:=by
 have hsh:WShape.hasAll [] args [.list .int]=true:=(pre_splitW hpre).1
 have hc:l.pre.holds [] { args:=args }=true:=(pre_splitW hpre).2
 obtain ⟨d,r,rfl,h1,h2⟩:=hasAllW_cons hsh
 obtain rfl:=hasAllW_nil h2
 obtain ⟨xs,rfl,h3⟩:=hasW_list h1
 obtain ⟨ns,rfl⟩:=items_int h3
 have hlen:ns.length<=n:=by
  unfold OpenLaw.pre at hc
  have h4:(WTm.not (.lt (.lit (.int (n:Int))) (.len (.arg 0)))).holds [] { args:=[.list (ns.map .int)] }=true:=by
   have h4:=(holds_andW hc).1
   rw [hn] at h4
   exact h4
  have h5:=condW_of h4 (w_not (w_lt w_lit (w_len_list (w_arg rfl))))
  rw [List.length_map] at h5
  refine Nat.le_of_not_lt λq=>?_
  have q':(n:Int) < ((ns.length:Nat):Int):=by omega
  first
   | (rw [decide_eq_true q'] at h5; exact absurd h5 (by decide))
   | (simp at h5; omega)
 cases hwl with
 | cons w1 w2=>
  cases w2
  cases w1 with
  | list ho hall=>exact ⟨_,_,ns,rfl,rfl,ho,zFj ns _ hall,hlen⟩
theorem zKi (l:OpenLaw) (args:List WData):l.row.toRowW.claim.post args (.bool true) args=true:=
 postW_of (r:=l.row.toRowW) (X:=(true == true))
  (show WShape.has [] (.bool true) .bool=true by first | rfl | decide | simp [WShape.has,WShape.arms,WShape.armsAll])
  (show (WTm.eq .res (.lit (.bool true))).value [] { args:=args,res:=some (.bool true),after:=args }=some (.bool (true == true)) from w_eq_bool (w_res rfl) w_lit) rfl
theorem attach_call {l:OpenLaw} {n:Nat} {q:Program} {loose:List Str} {XP:(Str->Option Value)->Heap->Prop} {YP:World->Heap->Prop} {d:DefRec}
  (hn:l.most=some n) (hdf:d.params.defaults=[])
  (call:∀ (w:World) (s₀ s₁:Shared) (mg mb:Str->Option Value) (fa:Addr) (o:Obj) (pm cd doc:Value) (a:Addr) (vs:List Value) (ns:List Int),
   Ground q loose [] XP w s₀ mg mb s₁.heap->YP w s₁.heap->
   s₁.heap.get? fa=some o->o.data=.func (docDef d.name d.params d.body d.scope pm cd doc)->s₁.heap.CodeRec cd d.name->mg d.name=some (.ref fa)->
   s₁.heap.get? a=some { cls:=.type "list",data:=.seq vs.toArray }->IntsAre vs ns->ns.length<=n->s₁.gens=#[]->
   codeAny (model l.prog w) callerA (.call (.ref fa) ⟨[.ref a],[]⟩) (λr s'=>r=.ok (.ret (.bool true))/\OldK s₁.heap s'.heap/\s'.os=s₁.os/\AllBare s'.gens) s₁) :
  WalkO q loose XP YP l.row.toRowW d [] (λf vs=>PySem.call f vs):=by
 intro w s₀ s₁ mg mb G Y fa o pm cd doc dV kV ho hd hcd hD hmg hg args vals as hpre hlay hrd hwl hlo
 obtain rfl:dV=.none:=Dflts.none hD hdf
 obtain rfl:kV=.none:=Dflts.noKw hD
 obtain ⟨a,vs,ns,rfl,rfl,hobj,hints,hlen⟩:=zKO hn hpre hwl
 refine enter_call (codeAny_mono (call w s₀ s₁ mg mb fa o pm cd doc a vs ns G Y ho (fd_plain hd) hcd hmg hobj hints hlen hg) λr s' hq=>?_)
 obtain ⟨rfl,h2,h3,h4⟩:=hq
 exact ⟨.inl ⟨.bool true,.bool true,[],rfl,λ_=>rfl,.bool true,zKi l _,λ_=>⟨List.Pairwise.nil,λ_ hm=>(nomatch hm)⟩⟩,h2,h3,h4⟩
section
variable {prog:Program} {w:World} {A:Around} {E:Value->Shared->Prop} {s:Shared} {K:Frag}
end
end Att
namespace L2
open PySem PySem.Spec PyProof.Rows
theorem Q7:∀ {vs:List Value} {ns:List Int},IntsAre vs ns->zN (ns.map V.int) vs
 | _,_,.nil=>.nil
 | _,_,.cons n t h=>.cons ⟨t,rfl⟩ (Q7 h)
def jT (H:Hp):Prop:=∀ b,H b=none\/∃ o xs,H b=some (.frz o (.lst xs))
theorem law_call {P:Program} {w:World} {K:PySem.W.Frag} {mg mb:Str->Option Value} {CX:vc} {k:Nat} {fa a:Addr} {fd:FuncData} {x:Str} {sp:Sp} {s₁:Shared} {vs:List Value} {ns:List Int}
  (KX:K.In s₁.heap) (hns:s₁.heap.Ns mainGlobals mg) (hb:s₁.heap.Ns builtinsNs mb) (hbb:∀ x:Str,x≠"__name__"->mb x=bootBuiltins x) (hlim:s₁.heap.NoLimit) (hg:s₁.gens=#[])
  (ha:s₁.heap.get? a=some { cls:=.type "list",data:=.seq vs.toArray }) (hi:IntsAre vs ns) (hl:ns.length<=sizeLine) (hr:zi k callerA)
  (F:∀ base:Heap,K.In base->base.Ns mainGlobals mg->zG P w K mg base CX k fa fd [x] sp) (hbind:∀ (s:Shared) (u:Value),BindsTo s fd ⟨[u],[]⟩ [(x,u)])
  (hsp:∀ H:Hp,jT H->zW K H a (ns.map V.int)->sp [.ref a] H (λv _=>v=.bl true) λ_ _ _=>False)
  (hCX:∀ H e s',CX [] H s₁ (λ_ _ _=>False) e s'->False) :
  codeAny (model P w) callerA (.call (.ref fa) ⟨[.ref a],[]⟩) (λr s'=>r=.ok (.ret (.bool true))/\OldK s₁.heap s'.heap/\s'.os=s₁.os/\AllBare s'.gens) s₁:=by
 have rv:=Q7 hi
 have lenV:=hi.length
 have core:∀ H:Hp,jT H->zW K H a (ns.map V.int)->xB P w H s₁.heap->(∀ b,H b≠none->b=a)->(H a≠none->K.lookup a=none)->
   codeAny (model P w) callerA (.call (.ref fa) ⟨[.ref a],[]⟩) (λr s'=>r=.ok (.ret (.bool true))/\OldK s₁.heap s'.heap/\s'.os=s₁.os/\AllBare s'.gens) s₁:=by
  intro H hO hS hok hA hK
  have base_of:∀ {b:Addr} {o:Obj},s₁.heap.get? b=some o->H b=none->(xz s₁.heap H).get? b=some o:=λe n=>zNI e n
  have noA:∀ {b:Addr} {o:Obj} {es:Array DictEntry} {ep:Nat},s₁.heap.get? b=some o->o.data=.dict es ep->H b=none:=λ{b o es ep} e d=>by
   cases q:H b with
   | none=>rfl
   | some u=>
    have e':b=a:=hA b (by rw [q]; simp)
    subst e'
    rw [ha] at e; cases e
    have d':Data.seq vs.toArray _=Data.dict es ep:=d
    cases d'
  have nsK:∀ {b:Addr} {m:Str->Option Value},s₁.heap.Ns b m->(xz s₁.heap H).Ns b m:=λ{b m} ⟨o,es,ep,e,d,r⟩=>⟨o,es,ep,base_of e (noA e d),d,r⟩
  have hKb:K.In (xz s₁.heap H):=λb o e=>base_of (KX b o e) (by
   cases q:H b with
   | none=>rfl
   | some u=>
    have e':b=a:=hA b (by rw [q]; simp)
    subst e'
    rw [hK (by rw [q]; simp)] at e; cases e)
  have hM:Mod K mg (xz s₁.heap H):=⟨hKb,nsK hns,⟨mb,nsK hb,hbb⟩,let ⟨mc,h1,h2⟩:=hlim; ⟨mc,nsK h1,h2⟩⟩
  have e0:vC P w K mg (xz s₁.heap H) callerA [] s₁ H:=⟨rfl,hM,λb o e=>zOs e,Nat.le_of_eq (zLP _ _),trivial,λb hb=>absurd (show b∈([]:List Addr) from hb) (by simp),hok,.of_eq hg⟩
  refine codeAny_mono ((F _ hKb (nsK hns)).run callerA [] s₁ H ⟨[.ref a],[]⟩ [.ref a] [.ref a] _ _ hr e0 (hbind s₁ (.ref a)) (.cons rfl .nil) (hsp H hO hS)) λr s' h=>?_
  cases r with
  | error e=>exact (hCX H e s' h).elim
  | ok fl=>
   cases fl with
   | next=>exact False.elim h
   | brk=>exact False.elim h
   | cont=>exact False.elim h
   | ret u=>
    obtain ⟨v,H',os,bare,un,hok',r',q⟩:=h
    have q':v=.bl true:=q
    subst q'
    obtain rfl:u=Value.bool true:=r'
    refine ⟨rfl,OldK.of_keep λb o e=>?_,os,bare⟩
    cases q:H b with
    | none=>exact un.keep b o e q (by intro z; exact absurd (show b∈([]:List Addr) from z) (by simp)) (by simp)
    | some u=>
     rcases hO b with z | ⟨ob,xs,z⟩
     ·rw [q] at z; cases z
     ·have z2:=un.frzs b ob _ z
      obtain ⟨e1,_⟩:=hok b _ z
      obtain ⟨e2,_⟩:=hok' b _ z2
      rw [e] at e1; cases e1
      exact e2
 cases hk:K.lookup a with
 | some o=>
  have e:=KX a o hk
  rw [ha] at e
  cases e
  refine core (λ_=>none) (λ_=>.inl rfl) (.inr ⟨_,vs.toArray,_,hk,rfl,rfl,rfl,by rw [List.size_toArray,lenV]; exact hl,by simpa using rv⟩) (λb u z=>by have z':(none:Option HO)=some u:=z; cases z') (λb z=>absurd rfl z) λz=>absurd rfl z
 | none=>
  refine core (λb=>if b=a then some (.frz { cls:=.type "list",data:=.seq vs.toArray } (.lst (ns.map V.int))) else none) (λb=>?_) (.inl (.inr ⟨{ cls:=.type "list",data:=.seq vs.toArray },if_pos rfl⟩)) (λb u z=>?_) (λb z=>?_) λ_=>hk
  ·by_cases hb:b=a
   ·exact .inr ⟨_,_,if_pos hb⟩
   ·exact .inl (if_neg hb)
  ·by_cases hb:b=a
   ·have z':=(if_pos hb).symm.trans z
    cases z'
    subst hb
    exact ⟨ha,by rw [List.length_map]; exact hl,vs,_,rv,ha⟩
   ·have z':=(if_neg hb).symm.trans z
    cases z'
  ·by_cases hb:b=a
   ·exact hb
   ·exact absurd (if_neg hb) z
end L2
namespace L2
open PySem PySem.Spec PyProof.Rows
theorem zOI {l:PySem.W.OpenLaw} {n k:Nat} {q:Program} {loose:List Str} {XP:(Str->Option Value)->Heap->Prop} {YP:World->Heap->Prop} {d:DefRec} {K:Params->PySem.W.Frag} {CX:World->vc} {sp:World->Sp} {x:Str}
  (hn:l.most=some n) (hn2:n<=sizeLine) (hdf:d.params.defaults=[]) (hr:zi k callerA)
  (hY:∀ (w:World) (h:Heap),YP w h->(K w.params).In h)
  (F:∀ (w:World) (mg:Str->Option Value) (fa:Addr) (h:Heap),(K w.params).In h->h.Ns mainGlobals mg->mg d.name=some (.ref fa)->
   ∃ fd:FuncData,(∀ (s:Shared) (u:Value),BindsTo s fd ⟨[u],[]⟩ [(x,u)])∧
    ∀ base:Heap,(K w.params).In base->base.Ns mainGlobals mg->zG l.prog w (K w.params) mg base (CX w) k fa fd [x] (sp w))
  (hsp:∀ (w:World) (H:Hp) (a:Addr) (ns:List Int),ns.length<=n->jT H->zW (K w.params) H a (ns.map V.int)->sp w [.ref a] H (λv _=>v=.bl true) λ_ _ _=>False)
  (hCX:∀ (w:World) (H:Hp) (s:Shared) (e:Value) (s':Shared),CX w [] H s (λ_ _ _=>False) e s'->False) :
  PySem.W.WalkO q loose XP YP l.row.toRowW d [] (λf vs=>PySem.call f vs):=by
 refine Att.attach_call hn hdf λw s₀ s₁ mg mb fa o pm cd doc a vs ns G Y ho hd hcd hmg hobj hints hlen hg=>?_
 have KX:=hY w _ Y
 obtain ⟨fd,hb,hF⟩:=F w mg fa _ KX G.T.g hmg
 exact law_call KX G.T.g G.T.b G.T.builtins G.T.nolimit hg hobj hints (Nat.le_trans hlen hn2) hr hF hb (λH hO hS=>hsp w H a ns hlen hO hS) λH e s'=>hCX w H s₁ e s'
end L2
namespace L2
open PySem PySem.Spec PyProof.Rows
def jU (s:Stmt) (j:Nat):Stmt:=match s with
 | .ClassDef _ _ _ body _ _ _ _ _ _ _=>body.getD j (.Pass ⟨0,0,0,0⟩)
 | _=>.Pass ⟨0,0,0,0⟩
def x8 (s:Stmt):Arguments:=match s with
 | .FunctionDef _ a _ _ _ _ _ _ _ _=>a
 | _=>{ posonlyargs:=[],args:=[],vararg:=none,kwonlyargs:=[],kw_defaults:=[],kwarg:=none,defaults:=[] }
def xO (s:Stmt):List Stmt:=match s with
 | .FunctionDef _ _ b _ _ _ _ _ _ _=>b
 | _=>[]
def zL (s:Stmt):Scope:=match s with
 | .FunctionDef _ _ _ _ _ _ sc _ _ _=>sc
 | _=>{ kind:=.function,names:=[],isGenerator:=false,isCoroutine:=false }
abbrev zX:vc:=λ_ _ _ _ _ _=>False
abbrev E0:XK:=λ_ _ _=>False
theorem YW {X:Cx}:qQ zX X E0:=λ_ _ _ _ _ _ _ h=>h.elim
structure zc (K:PySem.W.Frag) (x qual:Str) (st:Stmt) (f:Addr) (fd:FuncData):Prop where
 ex:∃ (oc:Value) (od:Option Addr) (kV doc pm:Value) (an:Option Addr) (cdv ct:Value) (osl:Array (Option Value)),
  fd=PySem.W.fnOf x qual (x8 st) (xO st) (zL st) .none kV doc pm an cdv ct/\K.lookup f=some ⟨oc,od,.func fd,osl⟩/\PySem.W.codeIn K cdv qual=true
 kp:PySem.W.keepIn K (.ref f)=true
section
variable {P:Program} {w:World} {K:PySem.W.Frag} {mg:Str->Option Value} {base:Heap}
theorem zc.ok {x qual:Str} {st:Stmt} {f:Addr} {fd:FuncData} {N ps:List Str} {k:Nat} {sp:Sp} (F:zc K x qual st f fd) (S:zb N ps (zL st)) (len:∀ vs H Q E,sp vs H Q E->vs.length=ps.length)
  (hbody:∀ (cdv:Value) (A:Around) (outer:List Env) (s:Shared) (H:Hp) (vs:List V) (Q:VK) (E:XK),zi k (A.deeper (envOfC qual (zL st) s.heap.objs.size f cdv))->sp vs H Q E->
   ∃ t,yu (xR zX P w K mg base N qual (zL st) f cdv A outer s H E).nox (xO st) t/\t { nx:=λ_ H'=>Q .non H',rt:=Q } (vD N vs) H):zG P w K mg base zX (k + 1) f fd ps sp:=by
 obtain ⟨oc,od,kV,doc,pm,an,cdv,ct,osl,rfl,lk,hcd⟩:=F.ex
 refine Qp lk hcd S len λA outer s H vs Q E hr hsp=>?_
 obtain ⟨t,h,q⟩:=hbody cdv A outer s H vs Q E hr hsp
 exact ⟨t,h.nox,q⟩
theorem zc.binds {x qual:Str} {st:Stmt} {f:Addr} {fd:FuncData} {ps:List Str} (F:zc K x qual st f fd)
  (h:∀ (kV doc pm:Value) (an:Option Addr) (cdv ct:Value) (us:List Value),us.length=ps.length->bindArgs (PySem.W.fnOf x qual (x8 st) (xO st) (zL st) .none kV doc pm an cdv ct) ⟨us,[]⟩=pure (ps.zip us)):wP K fd ps []:=by
 obtain ⟨oc,od,kV,doc,pm,an,cdv,ct,osl,rfl,lk,hcd⟩:=F.ex
 exact .all (h kV doc pm an cdv ct)
theorem Q8 {x qual:Str} {st:Stmt} {f:Addr} {oc:Value} {od an:Option Addr} {osl:Array (Option Value)} {kV doc pm cdv ct:Value} (l:K.lookup f=some ⟨oc,od,.func (PySem.W.fnOf x qual (x8 st) (xO st) (zL st) .none kV doc pm an cdv ct),osl⟩)
  (c:PySem.W.codeIn K cdv qual=true) (k:PySem.W.keepIn K (.ref f)=true):zc K x qual st f (PySem.W.fnOf x qual (x8 st) (xO st) (zL st) .none kV doc pm an cdv ct):=⟨⟨oc,od,kV,doc,pm,an,cdv,ct,osl,rfl,l,c⟩,k⟩
end
theorem YX {n:Nat} (h:n<=1000):n < sizeLine:=Nat.lt_of_le_of_lt h (by decide)
section
variable {X:Cx}
theorem pv (i:Nat) {x:Str} {pos:Pos} (hN:X.N[i]? = some x:=by rfl) (hv:jN X.env.scope x:=by first | exact Or.inl rfl | exact Or.inr (Or.inl rfl) | exact Or.inr (Or.inr rfl)) (hd:(x == ("__debug__" : Str))=false:=by decide)
  (hcd:(x == ("__classdict__" : Str))=false:=by decide):PE X (.Name x pos) (gE i):=WM hN hv hd hcd
end
theorem Ws {A B:Prop} (h:B):if false=true then A else B:=by
 rw [if_neg Bool.false_ne_true]
 exact h
theorem gd {c A B:Prop} [Decidable c] (hc:c) (h:B):if (!decide c)=true then A else B:=by
 rw [decide_eq_true hc]
 exact Ws h
def zF (H H':Hp):Prop:=∀ b o,H b=some o->H' b=some o
theorem zF.refl (H:Hp):zF H H:=λ_ _ h=>h
theorem zF.trans {H H1 H2:Hp} (a:zF H H1) (b:zF H1 H2):zF H H2:=λc o h=>b c o (a c o h)
end L2
set_option maxHeartbeats 4000000
namespace Sh
def vO (ns:List Int):Int:=ns.foldl (λc n=>(Int.gcd c n:Int)) 0
theorem zIM (ns:List Int) (n:Int):vO (ns++[n])=(Int.gcd (vO ns) n:Int):=by
 unfold vO
 rw [List.foldl_append]
 rfl
theorem zGu (ns:List Int):0<=vO ns:=by
 rcases List.eq_nil_or_concat ns with rfl | ⟨l,a,rfl⟩
 ·exact Int.le_refl 0
 ·rw [List.concat_eq_append,zIM]
  exact Int.natCast_nonneg _
theorem zNK (c r:Int):Int.gcd r (c.fmod r)=Int.gcd c r:=by
 rw [Int.fmod_def,Int.gcd_sub_mul_left_right,Int.gcd_comm]
theorem zLU {c r:Int} (h:r≠0):(c.fmod r).natAbs < r.natAbs:=by
 rcases Int.lt_or_gt_of_ne h with hr | hr
 ·have e:c.fmod r = -((-c).fmod (-r)):=by rw [Int.neg_fmod_neg,Int.neg_neg]
  have h1:=Int.fmod_nonneg_of_pos (-c) (b:=-r) (by omega)
  have h2:=Int.fmod_lt_of_pos (-c) (b:=-r) (by omega)
  omega
 ·have h1:=Int.fmod_nonneg_of_pos c hr
  have h2:=Int.fmod_lt_of_pos c hr
  omega
theorem zQ8 (i:Int):(if i < 0 then -i else i)=(i.natAbs:Int):=by
 split <;> omega
def cm (t b:Int):Int:=if b < 0 then -(Int.gcd t b:Int) else (Int.gcd t b:Int)
def Wt (t b:Int):Int:=t.fdiv (cm t b)
def Wu (t b:Int):Int:=b.fdiv (cm t b)
theorem zOz {t b:Int} (h:b≠0):0 < (Int.gcd t b:Int):=by
 have:0 < Int.gcd t b:=Int.gcd_pos_of_ne_zero_right _ h
 omega
end Sh
namespace Sh
def zQ7 (st:Int × Int) (p:Int × Int × Int):Int × Int:=(st.1 * p.2.2 + p.1 * p.2.1 * st.2,st.2 * p.2.2)
def ux (ws:List Int) (pts:List (Int × Int)):Int × Int:=(ws.zip pts).foldl zQ7 (0,1)
end Sh
namespace Sh
def gf (ws:List Int):List Int:=ws.map (·.fdiv (vO ws))
section
variable {β γ:Type}
def look (m:List (List Int × β)) (k:List Int):Option β:=(m.find? λkv=>decide (kv.1=k)).map (·.2)
def put (m:List (List Int × β)) (k:List Int) (v:β):List (List Int × β):=
 if (m.any λkv=>decide (kv.1=k))=true then m.map (λkv=>if kv.1=k then (kv.1,v) else kv) else m++[(k,v)]
theorem Q9 (m:List (List Int × β)) (k:List Int):(m.any λkv=>decide (kv.1=k))=(look m k).isSome:=by
 induction m with
 | nil=>rfl
 | cons p r ih=>
  unfold look at ih |-
  rw [List.any_cons,List.find?_cons,ih]
  by_cases e:p.1=k
  ·rw [decide_eq_true e]; rfl
  ·rw [decide_eq_false e]; rfl
theorem YY {m:List (List Int × β)} {k:List Int} (h:look m k=none):∀ p∈m,p.1≠k:=by
 intro p hp e
 have a:(m.any λkv=>decide (kv.1=k))=true:=List.any_eq_true.mpr ⟨p,hp,decide_eq_true e⟩
 rw [Q9,h] at a
 cases a
theorem KA {m:List (List Int × β)} {k:List Int} {v:β} {p:List Int × β} (h:p∈put m k v):p=(k,v)\/p∈m:=by
 unfold put at h
 split at h
 ·obtain ⟨q,hq,e⟩:=List.mem_map.mp h
  by_cases c:q.1=k
  ·rw [if_pos c] at e
   exact .inl (by rw [<- e,c])
  ·rw [if_neg c] at e
   exact .inr (e ▸ hq)
 ·rcases List.mem_append.mp h with h | h
  ·exact .inr h
  ·exact .inl (List.mem_singleton.mp h)
theorem zND (m:List (List Int × β)) (k:List Int) (v:β):(put m k v).map (·.1)=if (look m k).isSome=true then m.map (·.1) else m.map (·.1)++[k]:=by
 unfold put
 rw [Q9]
 split
 ·rw [List.map_map]
  refine List.map_congr_left λp _=>?_
  show (if p.1=k then (p.1,v) else p).1=p.1
  split <;> rfl
 ·rw [List.map_append]
  rfl
theorem zLE {m:List (List Int × β)} (k:List Int) (v:β) (h:(m.map (·.1)).Nodup):((put m k v).map (·.1)).Nodup:=by
 rw [zND]
 split
 ·exact h
 ·rename_i c
  have n:look m k=none:=by
   cases e:look m k with
   | none=>rfl
   | some u=>rw [e] at c; exact absurd rfl c
  refine List.nodup_append.mpr ⟨h,by simp,λa ha b hb e=>?_⟩
  obtain ⟨p,hp,e1⟩:=List.mem_map.mp ha
  rw [List.mem_singleton.mp hb] at e
  exact YY n p hp (e1.trans e)
end
abbrev gg:=List (List Int × (List Int × Int)) × Option (List Int)
def KB (st:gg) (r:List Int × Int):gg:=
 if vO r.1≠0 then
  match look st.1 (gf r.1) with
  | none=>(put st.1 (gf r.1) r,st.2)
  | some o=>if r.2 * vO o.1 < o.2 * vO r.1 then (put st.1 (gf r.1) r,st.2) else st
 else if r.2 < 0 then (st.1,some r.1) else st
structure qR (st:gg):Prop where
 g0:∀ p∈st.1,0 < vO p.2.1
 way:∀ p∈st.1,p.1=gf p.2.1
 nd:(st.1.map (·.1)).Nodup
 z:∀ ws,st.2=some ws->vO ws=0
theorem Wv {ws:List Int} (h:vO ws≠0):0 < vO ws:=by
 have:=zGu ws
 omega
theorem qR.put {st:gg} (h:qR st) {r:List Int × Int} (g:vO r.1≠0):qR (Sh.put st.1 (gf r.1) r,st.2):=by
 refine ⟨λp hp=>?_,λp hp=>?_,zLE _ _ h.nd,h.z⟩
 ·rcases KA hp with e | hp
  ·rw [e]; exact Wv g
  ·exact h.g0 p hp
 ·rcases KA hp with e | hp
  ·rw [e]
  ·exact h.way p hp
theorem qR.step {st:gg} (h:qR st) (r:List Int × Int):qR (KB st r):=by
 unfold KB
 split
 ·rename_i g
  split
  ·exact h.put g
  ·split
   ·exact h.put g
   ·exact h
 ·rename_i g
  have g0:vO r.1=0:=Decidable.of_not_not g
  split
  ·refine ⟨h.g0,h.way,h.nd,λws e=>?_⟩
   cases e
   exact g0
  ·exact h
section
variable (num:List Int->Int) (den:Int)
def hl (r:List Int × Int):Bool:=decide (num r.1<=r.2 * den)
variable (hden:0 < den) (KW:∀ (ws:List Int) (c:Int),num (ws.map (· * c))=num ws * c)
include hden KW
end
end Sh
namespace L2
open PySem
def v7 (env:Env) (cs:List (Str × Addr)) (p:Str × NameKind):List (Str × Addr):=if (p.2 == .free)=true then (p.1,(env.cells.lookup p.1).getD 0) :: cs else cs
def x9 (scope:Scope) (env:Env):List (Str × Addr):=scope.names.foldl (v7 env) []
theorem zJy {env:Env}:∀ (names:List (Str × NameKind)) (cs:List (Str × Addr)),(∀ p∈names,p.2=.free->(env.cells.lookup p.1).isSome=true)->
  (forIn names cs (λ(p:Str × NameKind) (r:List (Str × Addr))=>(if (p.2 == .free)=true then do let a <- cellOf env p.1; pure (ForInStep.yield ((p.1,a) :: r)) else pure (ForInStep.yield r):Sem (ForInStep (List (Str × Addr))))))=pure (names.foldl (v7 env) cs):=by
 intro names
 induction names with
 | nil=>intro cs _; rfl
 | cons p r ih=>
  intro cs h
  obtain ⟨n,k⟩:=p
  rw [List.forIn_cons]
  by_cases hk:k=.free
  ·subst hk
   obtain ⟨c,hc⟩:=Option.isSome_iff_exists.mp (h (n,.free) List.mem_cons_self rfl)
   have e:cellOf env n=pure c:=by unfold cellOf; dsimp only at hc; rw [hc]
   have z:v7 env cs (n,.free)=(n,c) :: cs:=by unfold v7; dsimp only at hc |-; rw [hc]; rfl
   simp only [e,beq_self_eq_true,if_true,pure_bind,List.foldl_cons,z]
   exact ih _ λq hq=>h q (List.mem_cons_of_mem _ hq)
  ·have b:(k == NameKind.free)=false:=by simpa using hk
   have z:v7 env cs (n,k)=cs:=by unfold v7; dsimp only; rw [b]; rfl
   simp only [b,Bool.false_eq_true,if_false,pure_bind,List.foldl_cons,z]
   exact ih _ λq hq=>h q (List.mem_cons_of_mem _ hq)
theorem Ww {scope:Scope} {env:Env} (h:∀ p∈scope.names,p.2=.free->(env.cells.lookup p.1).isSome=true):closureFor scope env=pure (x9 scope env):=by
 unfold closureFor x9
 have:=zJy scope.names [] h
 exact (congrArg (λm=>m >>= λr=>pure r) this).trans rfl
theorem zLo {env:Env}:∀ (names:List (Str × NameKind)) (cs:List (Str × Addr)) (x:Str) (c:Addr),(x,c)∈names.foldl (v7 env) cs->(x,c)∈cs\/((x,NameKind.free)∈names/\c=(env.cells.lookup x).getD 0):=by
 intro names
 induction names with
 | nil=>intro cs x c h; exact .inl h
 | cons p r ih=>
  intro cs x c h
  obtain ⟨n,k⟩:=p
  rw [List.foldl_cons] at h
  rcases ih _ x c h with h1 | ⟨h1,h2⟩
  ·unfold v7 at h1
   dsimp only at h1
   by_cases hk:k=.free
   ·subst hk
    simp only [beq_self_eq_true,if_true] at h1
    rcases List.mem_cons.mp h1 with e | h1
    ·injection e with e1 e2
     subst e1; subst e2
     exact .inr ⟨List.mem_cons_self,rfl⟩
    ·exact .inl h1
   ·have b:(k == NameKind.free)=false:=by simpa using hk
    simp only [b,Bool.false_eq_true,if_false] at h1
    exact .inl h1
  ·exact .inr ⟨List.mem_cons_of_mem _ h1,h2⟩
theorem qS {α β:Type} [BEq α] [LawfulBEq α]:∀ {l:List (α × β)} {a:α} {b:β},l.lookup a=some b->(a,b)∈l
 | [],_,_,h=>by simp at h
 | (x,y) :: r,a,b,h=>by
  rw [List.lookup_cons] at h
  by_cases e:a=x
  ·subst e
   simp only [beq_self_eq_true,if_true] at h
   cases h
   exact List.mem_cons_self
  ·have:(a == x)=false:=by simpa using e
   simp only [this] at h
   exact List.mem_cons_of_mem _ (qS h)
theorem KC {α β:Type} [BEq α] [LawfulBEq α]:∀ {l:List (α × β)} {a:α} {b:β},(a,b)∈l->∃ c,l.lookup a=some c
 | [],_,_,h=>by cases h
 | (x,y) :: r,a,b,h=>by
  rw [List.lookup_cons]
  by_cases e:a=x
  ·subst e
   exact ⟨y,by simp⟩
  ·have z:(a == x)=false:=by simpa using e
   rcases List.mem_cons.mp h with q | q
   ·injection q with q1 _; exact absurd q1 e
   ·obtain ⟨c,hc⟩:=KC q
    exact ⟨c,by simp only [z]; exact hc⟩
theorem zLp {env:Env}:∀ (names:List (Str × NameKind)) (cs:List (Str × Addr)) (x:Str),((x,NameKind.free)∈names\/∃ c,(x,c)∈cs)->∃ c,(x,c)∈names.foldl (v7 env) cs:=by
 intro names
 induction names with
 | nil=>
  intro cs x h
  rcases h with h | h
  ·cases h
  ·exact h
 | cons p r ih=>
  intro cs x h
  rw [List.foldl_cons]
  refine ih _ x ?_
  rcases h with h | ⟨c,h⟩
  ·rcases List.mem_cons.mp h with e | h
   ·subst e
    exact .inr ⟨_,by unfold v7; simp only [beq_self_eq_true,if_true]; exact List.mem_cons_self⟩
   ·exact .inl h
  ·refine .inr ⟨c,?_⟩
   unfold v7
   split
   ·exact List.mem_cons_of_mem _ h
   ·exact h
theorem jV {scope:Scope} {env:Env} (h:∀ p∈scope.names,p.2=.free->(env.cells.lookup p.1).isSome=true) {x:Str} {c:Addr} (e:(x9 scope env).lookup x=some c) :
  env.cells.lookup x=some c/\(x,NameKind.free)∈scope.names:=by
 rcases zLo scope.names [] x c (qS e) with z | ⟨z,q⟩
 ·cases z
 ·obtain ⟨d,hd⟩:=Option.isSome_iff_exists.mp (h _ z rfl)
  dsimp only at hd
  rw [hd] at q
  exact ⟨by rw [hd,q]; rfl,z⟩
theorem Wx {scope:Scope} {env:Env} {x:Str} (h:(x,NameKind.free)∈scope.names):∃ c,(x9 scope env).lookup x=some c:=by
 obtain ⟨c,hc⟩:=zLp (env:=env) scope.names [] x (.inl h)
 exact KC hc
theorem KD {scope:Scope} {env:Env} {x:Str} {k:NameKind} (h:(relabel scope env).names.lookup x=some k):(k=.cell/\((x,NameKind.free)∈scope.names\/(x,NameKind.cell)∈scope.names))\/(x,k)∈scope.names:=by
 have m:=qS h
 unfold relabel at m
 obtain ⟨⟨n,j⟩,hm,e⟩:=List.mem_map.mp m
 dsimp only at e
 split at e
 ·rename_i q
  injection e with e1 e2
  subst e1; subst e2
  have q1:j=NameKind.free:=by
   have:=(Bool.and_eq_true_iff.mp (Bool.and_eq_true_iff.mp q).1).1
   exact eq_of_beq this
  subst q1
  exact .inl ⟨rfl,.inl hm⟩
 ·injection e with e1 e2
  subst e1; subst e2
  exact .inr hm
end L2
namespace L2
open PySem
section
variable {prog:Program} {w:World} {A:Around} {R:Result->Shared->Prop} {s:Shared}
theorem zJx {elt target iter:Expr} {scope:Scope} {pos:Pos} {it acc:Value} {env:Env} (Wd:Nat->Shared->Prop)
  (turn:∀ n s,Wd n s->wpAny (model prog w) A (pyNext it) (λr s1=>match r with
   | none=>R (.ok .next) s1
   | some v=>wpAny (model prog w) A (letOwnedTupleGo target it v) (λ_ s2=>wpAny (model prog w) A (assign target env v) (λ_ s3=>wpAny (model prog w) A (eval elt env) (λx s4=>
     wpAny (model prog w) A (call (.builtin "list.append") [acc,x]) (λ_ s5=>∃ m,m < n/\Wd m s5) (λ_ _=>False) s4) (λ_ _=>False) s3) (λ_ _=>False) s2) (λ_ _=>False) s1) (λ_ _=>False) s)
  (n:Nat) (h:Wd n s):codeAny (model prog w) A (.compLoop (.ListComp elt [⟨target,iter,[],0⟩] scope pos) 0 it acc env) R s:=by
 refine codeAny_loop rfl Wd (λn s hI=>?_) n h
 show wpAny _ _ (Sem.onRaise (compTurn (.ListComp elt [⟨target,iter,[],0⟩] scope pos) 0 it acc env) _) _ _ s
 refine wpAny_noted ?_
 rw [compTurn_list1]
 refine wpAny_bind (wpAny_standAt (wpAny_bind (wpAny_mono (turn n s hI) (λr s1 h1=>?_) λ_ _ z=>False.elim z)))
 cases r with
 | none=>exact wpAny_pure h1
 | some v=>
  refine wpAny_bind (wpAny_mono h1 (λ_ s2 h2=>?_) λ_ _ z=>False.elim z)
  refine wpAny_bind (wpAny_mono h2 (λ_ s3 h3=>?_) λ_ _ z=>False.elim z)
  refine wpAny_bind (wpAny_bind (wpAny_mono h3 (λx s4 h4=>?_) λ_ _ z=>False.elim z))
  exact wpAny_bind (wpAny_mono h4 (λ_ s5 h5=>wpAny_pure (wpAny_pure ⟨rfl,h5⟩)) λ_ _ z=>False.elim z)
end
end L2
namespace L2
open PySem PySem.Spec PyProof.Rows
def Bd (n:Nat) (i:Int):Prop:=i.natAbs < 2 ^ n
theorem Bd.mono {n m:Nat} {i:Int} (h:Bd n i) (k:n<=m:=by decide):Bd m i:=Nat.lt_of_lt_of_le h (Nat.pow_le_pow_right (by decide) k)
theorem Bd.of_le {n:Nat} {i j:Int} (h:Bd n j) (k:i.natAbs<=j.natAbs):Bd n i:=Nat.lt_of_le_of_lt k h
theorem Bd.mul {n m:Nat} {i j:Int} (h:Bd n i) (k:Bd m j):Bd (n + m) (i * j):=by
 unfold Bd
 rw [Int.natAbs_mul,Nat.pow_add]
 rcases Nat.eq_zero_or_pos j.natAbs with z | z
 ·rw [z,Nat.mul_zero]
  exact Nat.mul_pos (Nat.two_pow_pos _) (Nat.two_pow_pos _)
 ·exact Nat.lt_of_lt_of_le (Nat.mul_lt_mul_of_pos_right h z) (Nat.mul_le_mul_left _ (Nat.le_of_lt k))
theorem Bd.add {n:Nat} {i j:Int} (h:Bd n i) (k:Bd n j):Bd (n + 1) (i + j):=by
 have h':i.natAbs < 2 ^ n:=h
 have k':j.natAbs < 2 ^ n:=k
 unfold Bd
 rw [Nat.pow_succ]
 have:=Int.natAbs_add_le i j
 omega
theorem Bd.neg {n:Nat} {i:Int} (h:Bd n i):Bd n (-i):=by
 unfold Bd
 rw [Int.natAbs_neg]
 exact h
theorem Bd.sub {n:Nat} {i j:Int} (h:Bd n i) (k:Bd n j):Bd (n + 1) (i - j):=by
 rw [Int.sub_eq_add_neg]
 exact h.add k.neg
theorem Bd.lit {n:Nat} {i:Int} (h:i.natAbs < 2 ^ n:=by decide):Bd n i:=h
theorem Bd.bits {n:Nat} {i:Int} (h:Bd n i):Builtin.Int.intBits i<=n:=by
 have h':i.natAbs < 2 ^ n:=h
 unfold Builtin.Int.intBits
 split
 ·exact Nat.zero_le _
 ·rename_i z
  have nz:i.natAbs≠0:=by
   intro q
   apply z
   rw [Int.natAbs_eq_zero.mp q]
   rfl
  exact (Nat.log2_lt nz).mpr h'
theorem Bd.fdiv {n:Nat} {i:Int} (h:Bd n i) (j:Int):Bd n (i.fdiv j):=
 h.of_le (Int.natAbs_fdiv_le_natAbs i j)
def YZ (i j:Int):Prop:=Bd 60000 i/\Bd 60000 j
def KE (_ j:Int):Prop:=j≠0/\Bd 8000 j
section
variable {X:Cx}
theorem YZ.ok {i j:Int} (h:YZ i j):IntMulOk i j:=by
 have h1:=h.1.bits
 have h2:=h.2.bits
 have hc:Builtin.Int.intTooBig (Builtin.Int.intBits i + Builtin.Int.intBits j)=false:=by
  unfold Builtin.Int.intTooBig
  rw [bitsLine_eq]
  exact decide_eq_false (by omega)
 unfold IntMulOk
 rw [hc]
 simp
theorem zOh:yn X (binaryOp .Mult) (rI YZ λi j=>.int (i * j)):=YO λ_ _ _ _ _ _ _ hc q=>mul_int q hc.ok
theorem zMy:yn X (binaryOp .FloorDiv) (rI KE λi j=>.int (i.fdiv j)):=YO λ_ _ _ _ _ _ _ hc q=>by
 refine floordiv_int hc.1 q (.inl (PyProof.noPylong_of_log2 ?_))
 have h':_ < 2 ^ 8000:=hc.2
 have nz:_≠0:=λz=>hc.1 (Int.natAbs_eq_zero.mp z)
 exact Nat.lt_trans ((Nat.log2_lt nz).mpr h') (by decide)
end
section
variable {X:Cx}
def KF (K:PySem.W.Frag):List V->Hp->VK->Prop:=λxs H Q=>∃ x c t b,xs=[x,.ty c]/\yM K H x t/\PySem.W.kitOne K t (.type c)=some b/\Q (.bl b) H
theorem wx:wv X (.builtin "isinstance") (KF X.K):=by
 intro pins s σ H xs us Q I r h
 obtain ⟨x,c,t,b,rfl,ty,e,q⟩:=h
 obtain ⟨u,v,rfl,ru,rv⟩:=gU r
 cases (show v=Value.type c from rv)
 exact Qf I ru ty e λtk=>⟨.bl b,H,I.tok tk,rfl,q⟩
end
mutual
inductive Dp (K:PySem.W.Frag) (H:Hp):V->PyData->Prop where
 | non:Dp K H .non .none
 | bl (b:Bool):Dp K H (.bl b) (.bool b)
 | int (i:Int):Dp K H (.int i) (.int i)
 | str (x:Str):Dp K H (.str x) (.str x)
 | lst {a:Addr} {xs:List V} {ds:List PyData} (e:zW K H a xs) (h:v8 K H xs ds):Dp K H (.ref a) (.list ds)
 | tup {a:Addr} {xs:List V} {ds:List PyData} (e:zw K H a xs) (h:v8 K H xs ds):Dp K H (.ref a) (.tuple ds)
inductive v8 (K:PySem.W.Frag) (H:Hp):List V->List PyData->Prop where
 | nil:v8 K H [] []
 | cons {x:V} {xs:List V} {d:PyData} {ds:List PyData} (h:Dp K H x d) (t:v8 K H xs ds):v8 K H (x :: xs) (d :: ds)
end
section
variable {X:Cx} {pins:List (Addr × Obj)} {σ:St} {H:Hp} {s:Shared}
mutual
theorem Dp.reads (I:zH X pins σ H s):∀ {x:V} {d:PyData} {u:Value},Dp X.K H x d->zT x u->∃ as,Reads s.heap u d as
 | _,_,_,.non,r=>by cases r; exact ⟨_,.none⟩
 | _,_,_,.bl b,r=>by cases r; exact ⟨_,.bool b⟩
 | _,_,_,.int i,r=>by obtain ⟨t,rfl⟩:=r; exact ⟨_,.int i t⟩
 | _,_,_,.str x,r=>by obtain ⟨t,rfl⟩:=r; exact ⟨_,.str x t⟩
 | _,_,_,.lst e h,r=>by
  cases r
  obtain ⟨its,rv,⟨o,n,e1,e2,_,e3⟩,_⟩:=I.list e
  obtain ⟨as,q⟩:=v8.reads I h rv
  exact ⟨_,.list e1 e2 e3 (by simpa using q)⟩
 | _,_,_,.tup e h,r=>by
  cases r
  obtain ⟨its,rv,⟨o,e1,e2,n,e3⟩,_⟩:=I.tuple e
  obtain ⟨as,q⟩:=v8.reads I h rv
  exact ⟨_,.tuple e1 e2 e3 (by simpa using q)⟩
theorem v8.reads (I:zH X pins σ H s):∀ {xs:List V} {ds:List PyData} {us:List Value},v8 X.K H xs ds->zN xs us->∃ as,ReadsAll s.heap us ds as
 | _,_,_,.nil,r=>by cases r; exact ⟨_,.nil⟩
 | _,_,_,.cons h t,r=>by
  cases r with
  | cons r1 r2=>
   obtain ⟨_,q1⟩:=Dp.reads I h r1
   obtain ⟨_,q2⟩:=v8.reads I t r2
   exact ⟨_,.cons q1 q2⟩
end
end
section
variable {X:Cx}
end
section
variable {X:Cx}
theorem wR (hc:X.calm=true):wv X (.builtin "all") (λxs H Q=>∃ (p:Addr) (bs:List Bool),xs=[.ref p]/\zW X.K H p (bs.map V.bl)/\Q (.bl (bs.all id)) H):=by
 intro pins s σ H xs us Q I r h
 obtain ⟨p,bs,rfl,hq,q⟩:=h
 obtain ⟨u,rfl,ru⟩:=uM r
 cases ru
 obtain ⟨its,rv,pl,hz⟩:=I.list hq
 have hh:X.A.in1.handled=none:=I.ok.hd hc
 have hlt:p < s.heap.objs.size:=by obtain ⟨o,n,e,_⟩:=pl; exact Heap.lt_size e
 refine call_all_walk (wpAny_pyIter_list pl.isList ?_)
 have hlen:its.length=bs.length:=by rw [<- rv.length,List.length_map]
 refine ⟨s.heap.objs.size,_,_,_,_,_,λi=>bs.getD i true,rfl,Walks.list hh s.heap.objs.size p (Nat.ne_of_lt hlt) its.toArray,⟨⟨_,Heap.get?_push_size _ rfl,rfl,rfl⟩,pl.isList.push _⟩,?_,λh' tk kk=>?_⟩
 ·intro i v s' Q' E' hP hQ'
  have e1:its[i]? = some v:=by simpa using hP
  have hi:i < its.length:=(List.getElem?_eq_some_iff.mp e1).1
  have hb:(bs.map V.bl)[i]? = some (.bl (bs.getD i true)):=by
   rw [List.getElem?_map,List.getElem?_eq_getElem (by omega),List.getD_eq_getElem?_getD,List.getElem?_eq_getElem (by omega)]
   rfl
  obtain ⟨u',e2,r2⟩:=rv.get hb
  rw [e1] at e2
  cases e2
  cases r2
  exact wpAny_truthy_bool hQ'
 ·have e:(List.range its.toArray.size).all (λi=>bs.getD i true)=bs.all id:=by
   rw [List.size_toArray,hlen]
   rw [Bool.eq_iff_iff,List.all_eq_true,List.all_eq_true]
   constructor
   ·intro z b hb
    obtain ⟨i,hi,rfl⟩:=List.mem_iff_getElem.mp hb
    have:=z i (List.mem_range.mpr hi)
    rw [List.getD_eq_getElem?_getD,List.getElem?_eq_getElem hi] at this
    exact this
   ·intro z i hi
    have hi':=List.mem_range.mp hi
    rw [List.getD_eq_getElem?_getD,List.getElem?_eq_getElem hi']
    exact z _ (List.getElem_mem hi')
  refine ⟨.bl (bs.all id),H,I.kept (h':=h') (t':=tk) λb o eb=>kk b o ?_ (Heap.get?_push_of_some _ eb),?_,q⟩
  ·intro hb
   have:b=s.heap.objs.size:=by simpa using hb
   rw [this] at eb
   exact absurd (Heap.lt_size eb) (Nat.lt_irrefl _)
  ·rw [e]
   rfl
end
end L2
namespace L2
open PySem PySem.Spec PyProof.Rows
def wA (own:List Str) (caps:List (Nat × Str)) (σ:St):St:=own.map (λ_=>none)++caps.map λp=>(σ[p.1]?).getD none
abbrev zY (own:List Str) (caps:List (Nat × Str)):List Str:=own++caps.map (·.2)
theorem KG {scope:Scope} {env:Env} {x:Str}:(relabel scope env).names.lookup x=(scope.names.lookup x).map λk=>if (k == .free && env.scope.kind == .function && env.kindOf x == some .cell)=true then .cell else k:=by
 unfold relabel
 generalize scope.names=l
 induction l with
 | nil=>rfl
 | cons p r ih=>
  obtain ⟨n,k⟩:=p
  rw [List.map_cons]
  by_cases e:x=n
  ·subst e
   by_cases c:(k == NameKind.free && env.scope.kind == .function && env.kindOf x == some .cell)=true
   ·simp only [c,if_true,List.lookup_cons,beq_self_eq_true,Option.map_some]
   ·simp only [c,if_false,List.lookup_cons,beq_self_eq_true,Option.map_some,Bool.false_eq_true]
  ·have z:(x == n)=false:=by simpa using e
   dsimp only
   split <;> simp only [List.lookup_cons,z] <;> exact ih
def KH (J:It) (g:TG) (te:TE) (Q:VK) (σ0:St) (H1:Hp):Prop:=∃ W:Nat->Nat->List V->St->Hp->Prop,(∃ m,W 0 m [] σ0 H1)∧
 ∀ i m ys σ1 H,W i m ys σ1 H->(J.stop i H/\∀ p,H p=none->Q (.ref p) (za H p (.lst ys)))∨
  (J.go i H/\ys.length < sizeLine/\∃ N:V->St->Hp->Prop,(∀ y σ' H',N y σ' H'->∃ m',m' < m/\W (i + 1) m' (ys++[y]) σ' H')/\∀ x H',J.yld i H x H'->g x σ1 H' λσ2 H2=>te σ2 H2 λy H3=>N y σ2 H3)
def KI (own:List Str) (caps:List (Nat × Str)) (wi:TI) (g:TG) (te:TE):TE:=λσ H Q=>wi σ H λJ H1=>KH J g te Q (wA own caps σ) H1
section
variable {X:Cx} {scope:Scope} {own:List Str} {caps:List (Nat × Str)} {pins:List (Addr × Obj)} {σ:St} {H:Hp} {s s4:Shared} {C D:Addr} {fp:List Addr}
theorem zNY {i:Nat} {x:Str} {v:V} (h1:(zY own caps)[i]? = some x) (h2:(wA own caps σ)[i]? = some (some v)):∃ j,(j,x)∈caps/\σ[j]? = some (some v):=by
 unfold wA at h2
 by_cases hi:i < own.length
 ·rw [List.getElem?_append_left (by simpa using hi),List.getElem?_map] at h2
  cases e:own[i]? with
  | none=>rw [e] at h2; cases h2
  | some a=>rw [e] at h2; cases h2
 ·rw [List.getElem?_append_right (by simpa using hi),List.length_map,List.getElem?_map] at h2
  unfold zY at h1
  rw [List.getElem?_append_right (by omega),List.getElem?_map] at h1
  cases e:caps[i - own.length]? with
  | none=>rw [e] at h1; cases h1
  | some p=>
   obtain ⟨j,n⟩:=p
   rw [e] at h1 h2
   cases h1
   refine ⟨j,List.mem_of_getElem? e,?_⟩
   simp only [Option.map_some,Option.some.injEq] at h2
   cases q:σ[j]? with
   | none=>rw [q] at h2; cases h2
   | some o=>rw [q] at h2; exact congrArg some h2
abbrev yZ (its:List Value) (k:Nat):Obj:={ cls:=.type "list",data:=.seq its.toArray k }
theorem KJ {Y:Cx} {its:List Value} {k:Nat} {y:Value} {pl:List (Addr × Obj)} {Q:Value->Shared->Prop} {E:Value->Shared->Prop} (I:zH Y ((D,yZ its k) :: pl) σ H s) (hn:yL Y [] H D) (hp:Y.pn=[]) (hz:its.length<=sizeLine)
  (q:∀ h' k' tk,(∀ b o,b≠D->s.heap.get? b=some o->h'.get? b=some o)->zH Y [(D,yZ (its++[y]) k')] σ H { s with heap:=h',toks:=tk }->Q .none { s with heap:=h',toks:=tk }) :
  wpAny (model Y.prog Y.w) Y.A (call (.builtin "list.append") [.ref D,y]) Q E s:=by
 have pD:=I.pin (D,yZ its k) (List.mem_append_right _ List.mem_cons_self)
 have e:s.heap.get? D=some (yZ its k):=pD.1
 refine call_meets F.slot_list_append ⟨_,e,rfl⟩ F.entry_list_append (F.args_list_append_2 _ _) (PySem.list_append D its.toArray k y (by rw [List.size_toArray]; exact hz)) ⟨e,?_⟩
 have e2:=PySem.IsL.update e (·.push y)
 have ea:its.toArray.push y=(its++[y]).toArray:=by simp
 have keep:∀ b o,b≠D->s.heap.get? b=some o->(s.heap.update D (Obj.mapSeq (·.push y))).get? b=some o:=λb o hb eb=>(Heap.get?_update_other s.heap _ (Ne.symm hb)).trans eb
 have I0:zH Y [] σ H s:=I.pins_of λp hp'=>by cases hp'
 have I1:zH Y [] σ H { s with heap:=s.heap.update D (Obj.mapSeq (·.push y)),toks:=s.toks }:=I0.turned keep hn.1 hn.2.1 hn.2.2.2.1 hn.2.2.2.2.1 hn.2.2.2.2.2
 have e3:(s.heap.update D (Obj.mapSeq (·.push y))).get? D=some (yZ (its++[y]) _):=e2.trans (by rw [ea])
 have I2:zH Y [(D,yZ (its++[y]) (if ((its++[y]).toArray.size == its.toArray.size)=true then k else k + 1))] σ H { s with heap:=s.heap.update D (Obj.mapSeq (·.push y)),toks:=s.toks }:=I1.pins_of λp hp'=>by
  rw [List.mem_singleton.mp hp']
  exact ⟨e3,hn.1,hn.2.1,hn.2.2.1,λv z=>by cases z⟩
 exact q _ _ s.toks keep I2
end
section
variable {X:Cx} {scope:Scope} {own:List Str} {caps:List (Nat × Str)} {elt tg iter:Expr} {wi:TI} {g:TG} {te:TE} {pos:Pos}
end
end L2
namespace L2
open PySem PySem.Spec PyProof.Rows
structure Fn (P:Program) (w:World) (K:PySem.W.Frag) (mg:Str->Option Value) (base:Heap) (x:Str) (ps:List Str) (k:Nat) (sp:Sp):Prop where
 ex:∃ f fd,zG P w K mg base zX k f fd ps sp/\mg x=some (.ref f)/\PySem.W.keepIn K (.ref f)=true/\wP K fd ps []
theorem Fn.mono {P:Program} {w:World} {K:PySem.W.Frag} {mg:Str->Option Value} {base:Heap} {x:Str} {ps:List Str} {j k:Nat} {sp:Sp} (F:Fn P w K mg base x ps j sp) (h:j<=k:=by decide):Fn P w K mg base x ps k sp:=by
 obtain ⟨f,fd,a,b,c,d⟩:=F.ex
 exact ⟨f,fd,a.mono h,b,c,d⟩
theorem zMw {X:Cx} {x:Str} {ps:List Str} {k:Nat} {sp:Sp} {e:Expr} {es:List Expr} {t:TA} {p pos:Pos} (F:Fn X.prog X.w X.K X.mg X.base x ps k sp) (hr:zi k X.A) (hg:Gl X x) (ha:PA X (e :: es) t)
  (hdb:(x == ("__debug__" : Str))=false:=by decide) (he:starEach (e :: es) X.env=(false,eval e X.env) :: starEach es X.env:=by rfl) (hpl:(backTo pos (starEach es X.env)).any (·.1)=false:=by rfl) :
  PE X (.Call (.Name x p) (e :: es) [] pos) (Wm sp [] E0 t):=by
 obtain ⟨f,fd,a,b,c,d⟩:=F.ex
 exact Qj a hr hg b c d .nil YW ha hdb he hpl
end L2
namespace L2
open PySem PySem.Spec PyProof.Rows
theorem xm:bootBuiltins "isinstance" = some (.builtin "isinstance"):=by decide +kernel
theorem yW:bootBuiltins "len" = some (.builtin "len"):=by decide +kernel
theorem zLw:bootBuiltins "abs" = some (.builtin "abs"):=by decide +kernel
theorem wS:bootBuiltins "all" = some (.builtin "all"):=by decide +kernel
theorem Wy:bootBuiltins "int" = some (.type "int"):=by decide +kernel
theorem zJ0:bootBuiltins "bool" = some (.type "bool"):=by decide +kernel
theorem vP:bootBuiltins "tuple" = some (.type "tuple"):=by decide +kernel
theorem xn:bootBuiltins "list" = some (.type "list"):=by decide +kernel
section
variable (K:PySem.W.Frag)
end
structure yw (K:PySem.W.Frag) (x qual:Str) (st:Stmt) (f:Addr) (fd:FuncData) (d:Value):Prop where
 ex:∃ (oc:Value) (od:Option Addr) (kV doc pm:Value) (an:Option Addr) (cdv ct:Value) (osl:Array (Option Value)) (T:Addr) (oT:Obj) (n:Nat),
  fd=PySem.W.fnOf x qual (x8 st) (xO st) (zL st) (.ref T) kV doc pm an cdv ct/\K.lookup f=some ⟨oc,od,.func fd,osl⟩/\PySem.W.codeIn K cdv qual=true/\K.lookup T=some oT/\oT.data=.seq #[d] n
 kp:PySem.W.keepIn K (.ref f)=true
theorem yw.ok {P:Program} {w:World} {K:PySem.W.Frag} {mg:Str->Option Value} {base:Heap} {x qual:Str} {st:Stmt} {f:Addr} {fd:FuncData} {d:Value} {N ps:List Str} {k:Nat} {sp:Sp} (F:yw K x qual st f fd d) (S:zb N ps (zL st))
  (len:∀ vs H Q E,sp vs H Q E->vs.length=ps.length)
  (hbody:∀ (cdv:Value) (A:Around) (outer:List Env) (s:Shared) (H:Hp) (vs:List V) (Q:VK) (E:XK),zi k (A.deeper (envOfC qual (zL st) s.heap.objs.size f cdv))->sp vs H Q E->
   ∃ t,yu (xR zX P w K mg base N qual (zL st) f cdv A outer s H E).nox (xO st) t/\t { nx:=λ_ H'=>Q .non H',rt:=Q } (vD N vs) H):zG P w K mg base zX (k + 1) f fd ps sp:=by
 obtain ⟨oc,od,kV,doc,pm,an,cdv,ct,osl,T,oT,n,rfl,lk,hcd,_⟩:=F.ex
 refine Qp lk hcd S len λA outer s H vs Q E hr hsp=>?_
 obtain ⟨t,h,q⟩:=hbody cdv A outer s H vs Q E hr hsp
 exact ⟨t,h.nox,q⟩
end L2
namespace L2
open PySem PySem.Spec PyProof.Rows
theorem KL {K:PySem.W.Frag} {x qual:Str} {st:Stmt} {f T:Addr} {oc kV doc pm cdv ct d:Value} {od an:Option Addr} {osl:Array (Option Value)} {oT:Obj} {n:Nat} (l:K.lookup f=some ⟨oc,od,.func (PySem.W.fnOf x qual (x8 st) (xO st) (zL st) (.ref T) kV doc pm an cdv ct),osl⟩)
  (c:PySem.W.codeIn K cdv qual=true) (k:PySem.W.keepIn K (.ref f)=true) (t:K.lookup T=some oT) (e:oT.data=.seq #[d] n):yw K x qual st f (PySem.W.fnOf x qual (x8 st) (xO st) (zL st) (.ref T) kV doc pm an cdv ct) d:=
 ⟨⟨oc,od,kV,doc,pm,an,cdv,ct,osl,T,oT,n,rfl,l,c,t,e⟩,k⟩
theorem yw.binds {K:PySem.W.Frag} {x qual:Str} {st:Stmt} {f:Addr} {fd:FuncData} {d:Value} {ps:List Str} (F:yw K x qual st f fd d)
  (h:∀ (T:Addr) (kV doc pm:Value) (an:Option Addr) (cdv ct:Value) (us:List Value),us.length=ps.length->∃ k:Option (Array Value)->Sem (List (Str × Value)),
   bindArgs (PySem.W.fnOf x qual (x8 st) (xO st) (zL st) (.ref T) kV doc pm an cdv ct) ⟨us,[]⟩=seqItems? (.ref T) >>= k/\k (some #[d])=pure (ps.zip us)):wP K fd ps []:=by
 obtain ⟨oc,od,kV,doc,pm,an,cdv,ct,osl,T,oT,n,rfl,lk,hcd,t,e⟩:=F.ex
 intro s us X hl
 rw [List.append_nil] at hl |-
 obtain ⟨k,h1,h2⟩:=h T kV doc pm an cdv ct us hl
 exact .of_defaults (T:=T) rfl (X T oT t) e h1 h2
end L2
namespace L2
open PySem PySem.Spec PyProof.Rows
structure vd (P:Program) (w:World) (K:PySem.W.Frag) (mg:Str->Option Value) (base:Heap) (x:Str) (ps:List Str) (k:Nat) (sp:Sp) (dv:V):Prop where
 ex:∃ f fd d,zG P w K mg base zX k f fd ps sp/\mg x=some (.ref f)/\PySem.W.keepIn K (.ref f)=true/\wP K fd ps []/\wP K fd ps [d]/\zT dv d
theorem vd.mono {P:Program} {w:World} {K:PySem.W.Frag} {mg:Str->Option Value} {base:Heap} {x:Str} {ps:List Str} {j k:Nat} {sp:Sp} {dv:V} (F:vd P w K mg base x ps j sp dv) (h:j<=k:=by decide):vd P w K mg base x ps k sp dv:=by
 obtain ⟨f,fd,d,a,b,c,e⟩:=F.ex
 exact ⟨f,fd,d,a.mono h,b,c,e⟩
theorem vd.fn {P:Program} {w:World} {K:PySem.W.Frag} {mg:Str->Option Value} {base:Heap} {x:Str} {ps:List Str} {k:Nat} {sp:Sp} {dv:V} (F:vd P w K mg base x ps k sp dv):Fn P w K mg base x ps k sp:=by
 obtain ⟨f,fd,d,a,b,c,e,_⟩:=F.ex
 exact ⟨f,fd,a,b,c,e⟩
theorem zKp {X:Cx} {x:Str} {ps:List Str} {k:Nat} {sp:Sp} {e:Expr} {es:List Expr} {t:TA} {p pos:Pos} {dv:V} (F:vd X.prog X.w X.K X.mg X.base x ps k sp dv) (hr:zi k X.A) (hg:Gl X x) (ha:PA X (e :: es) t)
  (hdb:(x == ("__debug__" : Str))=false:=by decide) (he:starEach (e :: es) X.env=(false,eval e X.env) :: starEach es X.env:=by rfl) (hpl:(backTo pos (starEach es X.env)).any (·.1)=false:=by rfl) :
  PE X (.Call (.Name x p) (e :: es) [] pos) (Wm sp [dv] E0 t):=by
 obtain ⟨f,fd,d,a,b,c,_,h2,r⟩:=F.ex
 exact Qj a hr hg b c h2 (.cons r .nil) YW ha hdb he hpl
theorem yw.binds1 {K:PySem.W.Frag} {x qual:Str} {st:Stmt} {f:Addr} {fd:FuncData} {d:Value} {ps:List Str} (F:yw K x qual st f fd d)
  (h:∀ (T:Addr) (kV doc pm:Value) (an:Option Addr) (cdv ct:Value) (us:List Value),us.length + 1=ps.length->∃ k:Option (Array Value)->Sem (List (Str × Value)),
   bindArgs (PySem.W.fnOf x qual (x8 st) (xO st) (zL st) (.ref T) kV doc pm an cdv ct) ⟨us,[]⟩=seqItems? (.ref T) >>= k/\k (some #[d])=pure (ps.zip (us++[d]))):wP K fd ps [d]:=by
 obtain ⟨oc,od,kV,doc,pm,an,cdv,ct,osl,T,oT,n,rfl,lk,hcd,t,e⟩:=F.ex
 intro s us X hl
 rw [List.length_append,List.length_singleton] at hl
 obtain ⟨k,h1,h2⟩:=h T kV doc pm an cdv ct us hl
 exact .of_defaults (T:=T) rfl (X T oT t) e h1 h2
end L2
namespace L2
theorem gh {b:Bool} {A B:Prop} (e:b=true) (h:A):if b=true then A else B:=by
 rw [if_pos e]
 exact h
theorem zQz {i j:Int} (h:i≠j):decide (V.int i=V.int j)=false:=decide_eq_false λe=>h (by injection e)
theorem zOt {i j:Int} (h:i≠j):(!decide (V.int i=V.int j))=true:=by rw [zQz h]; rfl
end L2
set_option maxRecDepth 100000
namespace L2
open PySem
section
variable {prog:Program} {w:World} {A:Around} {E:Value->Shared->Prop} {s:Shared}
theorem uy (hh:A.handled=none) (it t:Addr) (hne:t≠it) (items:Array Value) :
  Draws prog w A it [it,t] items.size (λi v=>items[i]? = some v) (λi h=>h.IsTupleIter it t i/\h.IsTuple t items) where
 live:=λ_ _ st=>let ⟨o,ho,_⟩:=st.1; ⟨o,ho⟩
 frame:=λ_ _ _ st hk=>⟨let ⟨o,e,r⟩:=st.1; ⟨o,hk it (by simp) o e,r⟩,let ⟨o,e,r⟩:=st.2; ⟨o,hk t (by simp) o e,r⟩⟩
 item:=λi s Q E hi st hQ=>by
  obtain ⟨hit,ht⟩:=st
  obtain ⟨o,ho,hc,hd⟩:=id hit
  obtain ⟨ol,hol,_,nl,hdl⟩:=id ht
  have hx:items[i]? = some items[i]:=by simp [hi]
  unfold Builtin.SmallTypes.nextOf
  refine wpAny_bind (wpAny_callSpecial?_slot (name:=Str.ofString "__next__") hit.typeIs F.slot_tuple_iterator_next (wpAny_call_entry F.slot_tuple_iterator_next hit.typeIs F.entry_tuple_iterator_next ?_ (F.args_tuple_iterator_next_1 _)))
  change wpAny _ _ (field (.ref it) 0 >>= _) _ _ s
  refine wpAny_bind (wpAny_field ho hd (x:=.ref t) rfl ?_)
  change wpAny _ _ (if (Value.ref t == Value.none)=true then _ else _) _ _ s
  rw [if_neg (show (Value.ref t == Value.none)≠true from Bool.false_ne_true)]
  change wpAny _ _ (field (.ref it) 1 >>= _) _ _ s
  refine wpAny_bind (wpAny_field ho hd (x:=.int i 0) rfl ?_)
  change wpAny _ _ (seqItems? (.ref t) >>= _) _ _ s
  refine wpAny_bind (wpAny_seqItems hol hdl ?_)
  simp only [Int.toNat_natCast,hx]
  refine wpAny_bind (wpAny_setField ho hd (by simp) (wpAny_pure ⟨items[i],rfl,wpAny_pure (hQ _ _ s.toks hx ⟨?_,?_⟩ (Heap.SameBut.update ..))⟩))
  ·exact ⟨_,Heap.get?_update_self _ ho (Obj.isFreed_of_fields (Obj.data_mapFields hd _)),(Obj.cls_mapFields ..).trans hc,by rw [Obj.data_mapFields hd]; simp [rawInt]⟩
  ·exact ht.extBut (Heap.SameBut.update ..).extBut hne
 done:=λs Q E st hE=>by
  obtain ⟨hit,ht⟩:=st
  obtain ⟨o,ho,hc,hd⟩:=id hit
  obtain ⟨ol,hol,_,nl,hdl⟩:=id ht
  have hx:items[items.size]? = none:=by simp
  unfold Builtin.SmallTypes.nextOf
  refine wpAny_bind (wpAny_callSpecial?_slot (name:=Str.ofString "__next__") hit.typeIs F.slot_tuple_iterator_next (wpAny_call_entry F.slot_tuple_iterator_next hit.typeIs F.entry_tuple_iterator_next ?_ (F.args_tuple_iterator_next_1 _)))
  change wpAny _ _ (field (.ref it) 0 >>= _) _ _ s
  refine wpAny_bind (wpAny_field ho hd (x:=.ref t) rfl ?_)
  change wpAny _ _ (if (Value.ref t == Value.none)=true then _ else _) _ _ s
  rw [if_neg (show (Value.ref t == Value.none)≠true from Bool.false_ne_true)]
  change wpAny _ _ (field (.ref it) 1 >>= _) _ _ s
  refine wpAny_bind (wpAny_field ho hd (x:=.int items.size 0) rfl ?_)
  change wpAny _ _ (seqItems? (.ref t) >>= _) _ _ s
  refine wpAny_bind (wpAny_seqItems hol hdl ?_)
  simp only [Int.toNat_natCast,hx]
  refine wpAny_bind (wpAny_rule (wpAny_bind (wpAny_setField ho hd (by simp) ?_)))
  change wpAny _ _ (newExc (.type "StopIteration") [] >>= _) _ _ _
  refine wpAny_bind ?_
  simp only [newExc,newTuple]
  refine wpAny_bind (wpAny_newObj_type ?_ (by size_fits))
  refine wpAny_bind (m:=firstArgMember _ _) (wpAny_of_eq (a:=Value.none) (by first | rfl | (simp only [firstArgMember]; rfl)) ?_)
  refine wpAny_newObj_type ?_ (by size_fits)
  simp only [raiseNew]
  refine wpAny_bind (wpAny_handled ?_)
  first | rw [show A.in1.handled=none from hh] | rw [hh]
  refine wpAny_bind (wpAny_pure (wpAny_throw ?_))
  exact hE _ _ (((Heap.SameBut.update ..).extBut.push _).push _) ⟨_,Heap.get?_push_size _ rfl,rfl⟩
structure Zp (z TI TO i1 i2:Addr) (f1 f2:List Addr):Prop where
 a1:TI≠z
 a2:TO≠z
 a3:i1≠z
 a4:i2≠z
 a5:TI≠TO
 a6:TI≠i1
 a7:TI≠i2
 a8:TO≠i1
 a9:TO≠i2
 b1:z∉f1
 b2:z∉f2
 b3:TO∉f1
 b4:TO∉f2
 b5:i1∉f2
 b6:i2∉f1
theorem zMK {z TI TO i1 i2:Addr} {f1 f2:List Addr} {n1 n2 k:Nat} {P1 P2:Nat->Value->Prop} {S1 S2:Nat->Heap->Prop} {a b:Value} {Q:Value->Shared->Prop}
  (D1:Draws prog w A i1 f1 n1 P1 S1) (D2:Draws prog w A i2 f2 n2 P2 S2) (Z:Zp z TI TO i1 i2 f1 f2) (hz:IsZip s.heap z TI TO .none) (hI:IsPair s.heap TI (.ref i1) (.ref i2)) (hO:IsPair s.heap TO a b)
  (s1:S1 k s.heap) (s2:S2 k s.heap) (k1:k < n1) (k2:k < n2)
  (hQ:∀ x y h' tk,P1 k x->P2 k y->IsZip h' z TI TO (rawInt s.heap.objs.size)->IsPair h' TI (.ref i1) (.ref i2)->IsPair h' TO x y->S1 (k + 1) h'->S2 (k + 1) h'->IsPair h' s.heap.objs.size x y->
   (∀ c o,c≠z->c≠TO->c≠i1->c≠i2->s.heap.get? c=some o->h'.get? c=some o)->Q (.ref s.heap.objs.size) { s with heap:=h',toks:=tk }) :
  wpAny (model prog w) A (Builtin.«zip.__next__» ⟨[.ref z],[]⟩) (λfin s'=>∃ v,fin=.done (.ret v)/\Q v s') E s:=by
 change wpAny _ _ (field (.ref z) 2 >>= _) _ _ _
 refine wpAny_bind (wpAny_field hz rfl (x:=.bool false) rfl ?_)
 change wpAny _ _ (field (.ref z) 3 >>= _) _ _ _
 refine wpAny_bind (wpAny_field hz rfl (x:=.ref TI) rfl ?_)
 refine wpAny_bind (wpAny_seqItems hI rfl ?_)
 change wpAny _ _ (Builtin.SmallTypes.ownedTupleIsFree (.ref z) >>= _) _ _ _
 refine wpAny_bind ?_
 unfold Builtin.SmallTypes.ownedTupleIsFree
 refine wpAny_bind (wpAny_field hz rfl (x:=.none) rfl (wpAny_pure ?_))
 simp only [if_true]
 refine wpAny_bind (wpAny_rule ?_)
 refine wpAny_bind (wpAny_field hz rfl (x:=.ref TO) rfl ?_)
 refine wpAny_bind (wpAny_setField_rec hz (by simp) λg1 z1 m1=>?_)
 replace z1:IsZip g1 z TI TO .ellipsis:=z1
 refine wpAny_bind ?_
 simp only [List.zipIdx_cons,List.zipIdx_nil,List.forIn_cons,List.forIn_nil]
 refine wpAny_bind (wpAny_bind (wpAny_onRaise ?_))
 change wpAny _ _ (Builtin.SmallTypes.nextOf (.ref i1) >>= _) _ _ _
 refine wpAny_bind (D1.item k _ _ _ k1 (D1.frame _ _ _ s1 λc hc o e=>m1.extBut c o (λq=>Z.b1 (q ▸ hc)) e) λx g2 t2 px s12 m2=>wpAny_pure ?_)
 have o2:IsPair g2 TO a b:=m2.extBut _ _ Z.a8 (m1.extBut _ _ Z.a2 hO)
 refine wpAny_bind (wpAny_seqItems o2 rfl ?_)
 refine wpAny_bind (wpAny_updateSeq_pair o2 λg3 o3 m3=>?_)
 replace o3:IsPair g3 TO x b:=o3
 refine wpAny_bind (wpAny_letGo (wpAny_pure ?_))
 refine wpAny_bind (wpAny_bind (wpAny_onRaise ?_))
 change wpAny _ _ (Builtin.SmallTypes.nextOf (.ref i2) >>= _) _ _ _
 refine wpAny_bind (D2.item k _ _ _ k2 (D2.frame _ _ _ s2 λc hc o e=>m3.extBut c o (λq=>Z.b4 (q ▸ hc)) (m2.extBut c o (λq=>Z.b5 (q ▸ hc)) (m1.extBut c o (λq=>Z.b2 (q ▸ hc)) e))) λy g4 t4 py s24 m4=>wpAny_pure ?_)
 have o4:IsPair g4 TO x b:=m4.extBut _ _ Z.a9 o3
 refine wpAny_bind (wpAny_seqItems o4 rfl ?_)
 refine wpAny_bind (wpAny_updateSeq_pair o4 λg5 o5 m5=>?_)
 replace o5:IsPair g5 TO x y:=o5
 refine wpAny_bind (wpAny_letGo (wpAny_pure (wpAny_pure ?_)))
 refine wpAny_bind (wpAny_seqItems o5 rfl ?_)
 refine wpAny_bind (wpAny_newTuple ?_)
 have sz:g5.objs.size=s.heap.objs.size:=by
  have q5:g5.objs.size=g4.objs.size:=m5.1
  have q4:g4.objs.size=g3.objs.size:=m4.1
  have q3:g3.objs.size=g2.objs.size:=m3.1
  have q2:g2.objs.size=g1.objs.size:=m2.1
  have q1:g1.objs.size=s.heap.objs.size:=m1.1
  omega
 have all5:∀ c o,c≠z->c≠TO->c≠i1->c≠i2->s.heap.get? c=some o->g5.get? c=some o:=λc o c1 c2 c3 c4 e=>m5.extBut _ _ c2 (m4.extBut _ _ c4 (m3.extBut _ _ c2 (m2.extBut _ _ c3 (m1.extBut _ _ c1 e))))
 have z5:IsZip g5 z TI TO .ellipsis:=m5.extBut _ _ Z.a2.symm (m4.extBut _ _ Z.a4.symm (m3.extBut _ _ Z.a2.symm (m2.extBut _ _ Z.a3.symm z1)))
 have I5:IsPair g5 TI (.ref i1) (.ref i2):=all5 _ _ Z.a1 Z.a5 Z.a6 Z.a7 hI
 have u1:S1 (k + 1) g5:=D1.frame _ _ _ s12 λc hc o e=>m5.extBut c o (λq=>Z.b3 (q ▸ hc)) (m4.extBut c o (λq=>Z.b6 (q ▸ hc)) (m3.extBut c o (λq=>Z.b3 (q ▸ hc)) e))
 have u2:S2 (k + 1) g5:=D2.frame _ _ _ s24 λc hc o e=>m5.extBut c o (λq=>Z.b4 (q ▸ hc)) e
 have lt:z < g5.objs.size:=Heap.lt_size z5
 change wpAny _ _ (Builtin.SmallTypes.ownedTupleHandOut (.ref z) (.ref g5.objs.size) >>= _) _ _ _
 refine wpAny_bind ?_
 unfold Builtin.SmallTypes.ownedTupleHandOut
 have z6:IsZip (g5.push { cls:=.type "tuple",data:=.seq #[x,y] }) z TI TO .ellipsis:=Heap.get?_push_of_some _ z5
 refine wpAny_bind (wpAny_setField_rec z6 (by simp) λg7 z7 m7=>?_)
 replace z7:IsZip g7 z TI TO (rawInt g5.objs.size):=z7
 refine wpAny_setField_rec z7 (by simp) λg8 z8 m8=>?_
 replace z8:IsZip g8 z TI TO (rawInt g5.objs.size):=z8
 have up:∀ c o,c≠z->g5.get? c=some o->g8.get? c=some o:=λc o c1 e=>m8.extBut _ _ c1 (m7.extBut _ _ c1 (Heap.get?_push_of_some _ e))
 have T8:IsPair g8 g5.objs.size x y:=m8.extBut _ _ (Nat.ne_of_gt lt) (m7.extBut _ _ (Nat.ne_of_gt lt) (Heap.get?_push_size _ rfl))
 rw [sz] at z8 T8
 refine wpAny_pure ⟨_,rfl,?_⟩
 change Q (.ref g5.objs.size) _
 rw [sz]
 exact hQ x y g8 _ px py z8 (up _ _ Z.a1 I5) (up _ _ Z.a2 o5) (D1.frame _ _ _ u1 λc hc o e=>up c o (λq=>Z.b1 (q ▸ hc)) e) (D2.frame _ _ _ u2 λc hc o e=>up c o (λq=>Z.b2 (q ▸ hc)) e) T8
  λc o c1 c2 c3 c4 e=>up c o c1 (all5 c o c1 c2 c3 c4 e)
theorem zMI {z TI TO i1 i2:Addr} {f1 f2:List Addr} {n1 n2 k:Nat} {P1 P2:Nat->Value->Prop} {S1 S2:Nat->Heap->Prop} {a b:Value} {Q:Fin->Shared->Prop}
  (D1:Draws prog w A i1 f1 n1 P1 S1) (D2:Draws prog w A i2 f2 n2 P2 S2) (Z:Zp z TI TO i1 i2 f1 f2) (hz:IsZip s.heap z TI TO .none) (hI:IsPair s.heap TI (.ref i1) (.ref i2)) (hO:IsPair s.heap TO a b)
  (s1:S1 k s.heap) (s2:S2 k s.heap) (k1:k<=n1) (k2:k<=n2) (ke:k=n1\/k=n2)
  (hE:∀ h' e tk,(∀ c o,c≠z->c≠TO->c≠i1->c≠i2->s.heap.get? c=some o->h'.get? c=some o)->(∃ o,h'.get? e=some o/\o.cls=.type "StopIteration")->E (.ref e) { s with heap:=h',toks:=tk }) :
  wpAny (model prog w) A (Builtin.«zip.__next__» ⟨[.ref z],[]⟩) Q E s:=by
 change wpAny _ _ (field (.ref z) 2 >>= _) _ _ _
 refine wpAny_bind (wpAny_field hz rfl (x:=.bool false) rfl ?_)
 change wpAny _ _ (field (.ref z) 3 >>= _) _ _ _
 refine wpAny_bind (wpAny_field hz rfl (x:=.ref TI) rfl ?_)
 refine wpAny_bind (wpAny_seqItems hI rfl ?_)
 change wpAny _ _ (Builtin.SmallTypes.ownedTupleIsFree (.ref z) >>= _) _ _ _
 refine wpAny_bind ?_
 unfold Builtin.SmallTypes.ownedTupleIsFree
 refine wpAny_bind (wpAny_field hz rfl (x:=.none) rfl (wpAny_pure ?_))
 simp only [if_true]
 refine wpAny_bind (wpAny_rule ?_)
 refine wpAny_bind (wpAny_field hz rfl (x:=.ref TO) rfl ?_)
 refine wpAny_bind (wpAny_setField_rec hz (by simp) λg1 z1 m1=>?_)
 replace z1:IsZip g1 z TI TO .ellipsis:=z1
 refine wpAny_bind ?_
 simp only [List.zipIdx_cons,List.zipIdx_nil,List.forIn_cons,List.forIn_nil]
 refine wpAny_bind (wpAny_bind (wpAny_onRaise ?_))
 change wpAny _ _ (Builtin.SmallTypes.nextOf (.ref i1) >>= _) _ _ _
 have s1':S1 k g1:=D1.frame _ _ _ s1 λc hc o e=>m1.extBut c o (λq=>Z.b1 (q ▸ hc)) e
 by_cases c1:k=n1
 ·subst c1
  refine wpAny_bind (D1.done _ _ _ s1' λg2 e m2 he=>?_)
  obtain ⟨oe,he1,he2⟩:=he
  have z2:IsZip g2 z TI TO .ellipsis:=m2 _ _ Z.a3.symm z1
  have nez:e≠z:=λq=>by subst q; rw [z2] at he1; cases he1; simp at he2
  exact wpAny_setField_rec z2 (by simp) λg3 _ m3=>hE g3 e _ (λc o c1 c2 c3 c4 q=>m3.extBut _ _ c1 (m2 _ _ c3 (m1.extBut _ _ c1 q))) ⟨oe,m3.extBut _ _ nez he1,he2⟩
 ·have c2:k=n2:=ke.resolve_left c1
  subst c2
  refine wpAny_bind (D1.item k _ _ _ (by omega) s1' λx g2 t2 px s12 m2=>wpAny_pure ?_)
  have o2:IsPair g2 TO a b:=m2.extBut _ _ Z.a8 (m1.extBut _ _ Z.a2 hO)
  refine wpAny_bind (wpAny_seqItems o2 rfl ?_)
  refine wpAny_bind (wpAny_updateSeq_pair o2 λg3 o3 m3=>?_)
  refine wpAny_bind (wpAny_letGo (wpAny_pure ?_))
  refine wpAny_bind (wpAny_bind (wpAny_onRaise ?_))
  change wpAny _ _ (Builtin.SmallTypes.nextOf (.ref i2) >>= _) _ _ _
  refine wpAny_bind (D2.done _ _ _ (D2.frame _ _ _ s2 λc hc o e=>m3.extBut c o (λq=>Z.b4 (q ▸ hc)) (m2.extBut c o (λq=>Z.b5 (q ▸ hc)) (m1.extBut c o (λq=>Z.b2 (q ▸ hc)) e))) λg4 e m4 he=>?_)
  obtain ⟨oe,he1,he2⟩:=he
  have z4:IsZip g4 z TI TO .ellipsis:=m4 _ _ Z.a4.symm (m3.extBut _ _ Z.a2.symm (m2.extBut _ _ Z.a3.symm z1))
  have nez:e≠z:=λq=>by subst q; rw [z4] at he1; cases he1; simp at he2
  exact wpAny_setField_rec z4 (by simp) λg5 _ m5=>hE g5 e _ (λc o c1 c2 c3 c4 q=>m5.extBut _ _ c1 (m4 _ _ c4 (m3.extBut _ _ c2 (m2.extBut _ _ c3 (m1.extBut _ _ c1 q))))) ⟨oe,m5.extBut _ _ nez he1,he2⟩
end
abbrev Yb (h:Heap) (t:Addr):Heap:=h.push { cls:=.type "tuple_iterator",data:=.fields #[.ref t,.int 0 0] }
abbrev Yc (h:Heap) (t l:Addr):Heap:=(Yb h t).push { cls:=.type "list_iterator",data:=.fields #[.ref l,.int 0 0] }
abbrev Yd (h:Heap) (t l:Addr):Heap:=(Yc h t l).push { cls:=.type "tuple",data:=.seq #[.ref h.objs.size,.ref (Yb h t).objs.size] }
abbrev Ye (h:Heap) (t l:Addr):Heap:=(Yd h t l).push { cls:=.type "tuple",data:=.seq #[.none,.none] }
abbrev qU (h:Heap) (t l:Addr):Heap:=(Ye h t l).push { cls:=.type "zip",data:=.fields #[.none,.bool false,.bool false,.ref (Yc h t l).objs.size,.ref (Yd h t l).objs.size] }
theorem zJH (t l:Addr) (xs ys:Array Value) :
  Meets (Builtin.«zip.__new__» ⟨[.type "zip",.ref t,.ref l],[]⟩) (λ_ R s=>s.heap.IsTuple t xs/\s.heap.IsList l ys/\R (.ok (.ret (.ref (Ye s.heap t l).objs.size))) { s with heap:=qU s.heap t l }):=
 .of_wp λprog w A R s h=>by
  obtain ⟨hp,g,d,tk,os⟩:=s; obtain ⟨h1,h2,h⟩:=h
  have hsub:=sub_zip
  have e1:Heap.IsTuple (Shared.heap ⟨hp,g,d,tk,os⟩) t xs:=h1
  have e2:Heap.IsList (Shared.heap ⟨hp.push { cls:=.type "tuple_iterator",data:=.fields #[.ref t,.int 0 0] },g,d,tk,os⟩) l ys:=Heap.IsList.push h2 _
  wp_walk using wpAny_pyIter_tuple e1,wpAny_pyIter_list e2
  exact ⟨_,rfl,h⟩
theorem zIW {prog:Program} {w:World} {A:Around} {E:Value->Shared->Prop} {s:Shared} {t l:Addr} {xs ys:Array Value} {Q:Value->Shared->Prop} (h1:s.heap.IsTuple t xs) (h2:s.heap.IsList l ys)
  (h:∀ h',IsZip h' (s.heap.objs.size + 4) (s.heap.objs.size + 2) (s.heap.objs.size + 3) .none->IsPair h' (s.heap.objs.size + 2) (.ref s.heap.objs.size) (.ref (s.heap.objs.size + 1))->IsPair h' (s.heap.objs.size + 3) .none .none->
   h'.IsTupleIter s.heap.objs.size t 0->h'.IsListIter (s.heap.objs.size + 1) l 0->(∀ c o,s.heap.get? c=some o->h'.get? c=some o)->Q (.ref (s.heap.objs.size + 4)) { s with heap:=h' }) :
  wpAny (model prog w) A (call (.type "zip") [.ref t,.ref l]) Q E s:=by
 refine callType_new F.called_zip (by decide) (F.typeCall_zip_2 _ _) (F.newCall_zip_2 _ _) (λobj=>F.args_object_init_3 obj _ _) F.entry_zip_new (zJH t l xs ys) ⟨h1,h2,?_⟩
 have n1:(Yb s.heap t).objs.size=s.heap.objs.size + 1:=Heap.size_push ..
 have n2:(Yc s.heap t l).objs.size=s.heap.objs.size + 2:=by rw [Heap.size_push,n1]
 have n3:(Yd s.heap t l).objs.size=s.heap.objs.size + 3:=by rw [Heap.size_push,n2]
 have n4:(Ye s.heap t l).objs.size=s.heap.objs.size + 4:=by rw [Heap.size_push,n3]
 have p5:(qU s.heap t l).get? (Ye s.heap t l).objs.size=some _:=Heap.get?_push_size _ rfl
 have p4:(qU s.heap t l).get? (Yd s.heap t l).objs.size=some _:=Heap.get?_push_of_some _ (Heap.get?_push_size _ rfl)
 have p3:(qU s.heap t l).get? (Yc s.heap t l).objs.size=some _:=Heap.get?_push_of_some _ (Heap.get?_push_of_some _ (Heap.get?_push_size _ rfl))
 have p2:(qU s.heap t l).get? (Yb s.heap t).objs.size=some _:=Heap.get?_push_of_some _ (Heap.get?_push_of_some _ (Heap.get?_push_of_some _ (Heap.get?_push_size _ rfl)))
 have p1:(qU s.heap t l).get? s.heap.objs.size=some _:=Heap.get?_push_of_some _ (Heap.get?_push_of_some _ (Heap.get?_push_of_some _ (Heap.get?_push_of_some _ (Heap.get?_push_size _ rfl))))
 change _/\_
 rw [n2,n3,n4] at p5
 rw [n1,n2] at p3
 rw [n3] at p4
 rw [n1] at p2
 rw [n4]
 exact ⟨⟨_,p5,rfl⟩,h _ p5 p3 p4 ⟨_,p1,rfl,rfl⟩ ⟨_,p2,rfl,rfl⟩ λc o x=>Heap.get?_push_of_some _ (Heap.get?_push_of_some _ (Heap.get?_push_of_some _ (Heap.get?_push_of_some _ (Heap.get?_push_of_some _ x))))⟩
section
variable {prog:Program} {w:World} {A:Around} {E:Value->Shared->Prop} {s:Shared}
theorem Yg {z TI TO i1 i2:Addr} {f1 f2:List Addr} {n1 n2 k:Nat} {P1 P2:Nat->Value->Prop} {S1 S2:Nat->Heap->Prop} {a b:Value} {Q:Option Value->Shared->Prop}
  (D1:Draws prog w A.in1 i1 f1 n1 P1 S1) (D2:Draws prog w A.in1 i2 f2 n2 P2 S2) (Z:Zp z TI TO i1 i2 f1 f2) (hz:IsZip s.heap z TI TO .none) (hI:IsPair s.heap TI (.ref i1) (.ref i2)) (hO:IsPair s.heap TO a b)
  (s1:S1 k s.heap) (s2:S2 k s.heap) (k1:k < n1) (k2:k < n2)
  (hQ:∀ x y h' tk,P1 k x->P2 k y->IsZip h' z TI TO (rawInt s.heap.objs.size)->IsPair h' TI (.ref i1) (.ref i2)->IsPair h' TO x y->S1 (k + 1) h'->S2 (k + 1) h'->IsPair h' s.heap.objs.size x y->
   (∀ c o,c≠z->c≠TO->c≠i1->c≠i2->s.heap.get? c=some o->h'.get? c=some o)->Q (some (.ref s.heap.objs.size)) { s with heap:=h',toks:=tk }) :
  wpAny (model prog w) A (pyNext (.ref z)) Q E s:=by
 have ty:s.TypeIs (.ref z) "zip":=⟨_,hz,rfl⟩
 unfold pyNext
 refine wpAny_bind (wpAny_attempt (wpAny_callSpecial?_slot (name:=Str.ofString "__next__") ty F.slot_zip_next (wpAny_call_entry F.slot_zip_next ty F.entry_zip_next ?_ (F.args_zip_next_1 _))))
 exact zMK D1 D2 Z hz hI hO s1 s2 k1 k2 λx y h' tk c1 c2 c3 c4 c5 c6 c7 c8 c9=>wpAny_pure (hQ x y h' tk c1 c2 c3 c4 c5 c6 c7 c8 c9)
theorem Yh {z TI TO i1 i2:Addr} {f1 f2:List Addr} {n1 n2 k:Nat} {P1 P2:Nat->Value->Prop} {S1 S2:Nat->Heap->Prop} {a b:Value} {Q:Option Value->Shared->Prop}
  (D1:Draws prog w A.in1 i1 f1 n1 P1 S1) (D2:Draws prog w A.in1 i2 f2 n2 P2 S2) (Z:Zp z TI TO i1 i2 f1 f2) (hz:IsZip s.heap z TI TO .none) (hI:IsPair s.heap TI (.ref i1) (.ref i2)) (hO:IsPair s.heap TO a b)
  (s1:S1 k s.heap) (s2:S2 k s.heap) (k1:k<=n1) (k2:k<=n2) (ke:k=n1\/k=n2)
  (hQ:∀ h' tk,(∀ c o,c≠z->c≠TO->c≠i1->c≠i2->s.heap.get? c=some o->h'.get? c=some o)->Q none { s with heap:=h',toks:=tk }) :
  wpAny (model prog w) A (pyNext (.ref z)) Q E s:=by
 have ty:s.TypeIs (.ref z) "zip":=⟨_,hz,rfl⟩
 unfold pyNext
 refine wpAny_bind (wpAny_attempt (wpAny_callSpecial?_slot (name:=Str.ofString "__next__") ty F.slot_zip_next (wpAny_call_entry F.slot_zip_next ty F.entry_zip_next
  (zMI D1 D2 Z hz hI hO s1 s2 k1 k2 ke λh' e tk keep he=>?_) (F.args_zip_next_1 _))))
 obtain ⟨o,ho,hc⟩:=he
 refine wpAny_bind (wpAny_isInstance (T:="StopIteration") (b:=true) ⟨o,ho,hc⟩ isSubtype_stop ?_)
 exact wpAny_pure (hQ _ _ keep)
end
end L2
namespace L2
open PySem PySem.Spec PyProof.Rows
def KM (K:PySem.W.Frag) (a b:Addr):It:=
 ⟨λi H=>∃ xs ys x y,zw K H a xs/\zW K H b ys/\xs[i]? = some x/\ys[i]? = some y,
  λi H v H'=>∃ T x y,v=.ref T/\H T=none/\H'=za H T (.tup [x,y])/\(∀ xs,zw K H a xs->xs[i]? = some x)/\∀ ys,zW K H b ys->ys[i]? = some y,
  λi H=>∃ xs ys,zw K H a xs/\zW K H b ys/\i<=xs.length/\i<=ys.length/\(i=xs.length\/i=ys.length)⟩
theorem wL {vs:Array Value} (v:Option Value):Data.fields vs≠Data.cell v:=λz=>by cases z
theorem uN {vs:Array Value} {n:Nat} (v:Option Value):Data.seq vs n≠Data.cell v:=λz=>by cases z
theorem zH.turnT {X:Cx} {pins:List (Addr × Obj)} {σ:St} {H:Hp} {s:Shared} {h':Heap} {tk:Nat} {ch:List Addr} {T:Addr} {x y:V} {u v:Value} (I:zH X pins σ H s) (hf:∀ b∈ch,yL X pins H b) (keep:∀ b o,b∉ch->s.heap.get? b=some o->h'.get? b=some o)
  (hT:s.heap.objs.size<=T) (p:IsPair h' T u v) (rx:zT x u) (ry:zT y v):zH X pins σ (za H T (.tup [x,y])) { s with heap:=h',toks:=tk }:=by
 have fr:H T=none:=I.hok.fresh hT
 have nT:∀ b o,s.heap.get? b=some o->b≠T:=λb o e z=>by rw [z] at e; exact absurd (Nat.lt_of_lt_of_le (Heap.lt_size e) hT) (Nat.lt_irrefl _)
 have va:∀ b o,H b=some o->b∉ch:=λb o e z=>by rw [(hf b z).1] at e; cases e
 refine I.step (ch:=ch) (λb hb=>⟨(hf b hb).2.2.2.1,(hf b hb).2.1,(hf b hb).2.2.2.2.1,(hf b hb).2.2.2.2.2⟩) (λb o _ _ hc e _=>keep b o hc e) (λb o _ _ hc e _=>⟨o.slots,keep b o hc e⟩)
  (λb o _ e n=>by rw [zp (nT b o e)]; exact n) (λb o hc e=>⟨o,keep b o hc e⟩) (λb xs e=>by rw [zp (xZ e fr)]; exact e) (λb o w e=>by rw [zp (xZ e fr)]; exact e)
  (λb ps e=>⟨#[],by rw [zp (xZ e fr),e]; simp⟩) (λm hm=>?_) (λb w e=>?_) I.bare
 ·obtain ⟨o,es,ep,ho,r⟩:=hm
  exact ⟨o,es,ep,keep _ o (λz=>(hf _ z).2.1 rfl) ho,r⟩
 ·by_cases hb:b=T
  ·subst hb
   rw [wK] at e
   cases e
   exact ⟨by show 2<=sizeLine; decide,[u,v],.cons rx (.cons ry .nil),⟨_,p,rfl,_,rfl⟩⟩
  ·rw [zp hb] at e
   refine (I.hok b w e).stay (λc q hc ec=>keep c q ?_ ec) (λc ec=>by rw [zp (xZ ec fr)]; exact ec) λc xs ec=>by rw [zp (xZ ec fr)]; exact ec
   rcases hc with z | z
   ·rw [z]
    exact va b w e
   ·exact va c _ z
theorem zH.turnN {X:Cx} {pins:List (Addr × Obj)} {σ:St} {H:Hp} {s:Shared} {h':Heap} {tk:Nat} {ch:List Addr} (I:zH X pins σ H s) (hf:∀ b∈ch,yL X pins H b) (keep:∀ b o,b∉ch->s.heap.get? b=some o->h'.get? b=some o) :
  zH X pins σ H { s with heap:=h',toks:=tk }:=by
 have va:∀ b o,H b=some o->b∉ch:=λb o e z=>by rw [(hf b z).1] at e; cases e
 refine I.step (ch:=ch) (λb hb=>⟨(hf b hb).2.2.2.1,(hf b hb).2.1,(hf b hb).2.2.2.2.1,(hf b hb).2.2.2.2.2⟩) (λb o _ _ hc e _=>keep b o hc e) (λb o _ _ hc e _=>⟨o.slots,keep b o hc e⟩)
  (λb o _ e n=>n) (λb o hc e=>⟨o,keep b o hc e⟩) (λb xs e=>e) (λb o w e=>e) (λb ps e=>⟨#[],by rw [e]; simp⟩) (λm hm=>?_) (λb w e=>?_) I.bare
 ·obtain ⟨o,es,ep,ho,r⟩:=hm
  exact ⟨o,es,ep,keep _ o (λz=>(hf _ z).2.1 rfl) ho,r⟩
 ·refine (I.hok b w e).stay (λc q hc ec=>keep c q ?_ ec) (λc ec=>ec) λc xs ec=>ec
  rcases hc with z | z
  ·rw [z]
   exact va b w e
  ·exact va c _ z
theorem zMS {P:Program} {w:World} {K:PySem.W.Frag} {es:List Expr} {kk:Nat} {tp:Pos} {a b z TI TO i1 i2:Addr} (Z:Zp z TI TO i1 i2 [i1,a] [i2,b]) (na:a≠i1) (nb:b≠i2) :
  xN P w K (.Tuple es kk tp) (KM K a b) [z,TI,TO,i1,i2] z (λi h=>IsZip h z TI TO .none/\IsPair h TI (.ref i1) (.ref i2)/\(∃ x y,IsPair h TO x y)/\h.IsTupleIter i1 a i/\h.IsListIter i2 b i) where
 mem:=by simp
 obj:=λi h ⟨t1,t2,⟨x,y,t3⟩,t4,t5⟩ c hc=>by
  simp only [List.mem_cons,List.not_mem_nil,or_false] at hc
  rcases hc with rfl | rfl | rfl | rfl | rfl
  ·exact ⟨_,t1,wL⟩
  ·exact ⟨_,t2,uN⟩
  ·exact ⟨_,t3,uN⟩
  ·obtain ⟨o,e,_,d⟩:=t4
   exact ⟨o,e,by rw [d]; exact wL⟩
  ·obtain ⟨o,e,_,d⟩:=t5
   exact ⟨o,e,by rw [d]; exact wL⟩
 keep:=λi h h' ⟨t1,t2,⟨x,y,t3⟩,t4,t5⟩ k=>⟨k z (by simp) _ t1,k TI (by simp) _ t2,⟨x,y,k TO (by simp) _ t3⟩,(by obtain ⟨o,e,r⟩:=t4; exact ⟨o,k i1 (by simp) o e,r⟩),(by obtain ⟨o,e,r⟩:=t5; exact ⟨o,k i2 (by simp) o e,r⟩)⟩
 item:=by
  intro X hP hw hK hc i pins s σ H E I hf ⟨t1,t2,⟨x0,y0,t3⟩,t4,t5⟩ hg
  subst hP hw hK
  obtain ⟨xs,ys,x,y,hq1,hq2,hx,hy⟩:=hg
  obtain ⟨its1,rv1,p1,_⟩:=I.tuple hq1
  obtain ⟨its2,rv2,p2,_⟩:=I.list hq2
  obtain ⟨u,hu,ru⟩:=rv1.get hx
  obtain ⟨v,hv,rv⟩:=rv2.get hy
  have hh:X.A.in1.handled=none:=I.ok.hd hc
  have l1:i < its1.toArray.size:=by rw [List.size_toArray]; exact (List.getElem?_eq_some_iff.mp hu).1
  have l2:i < its2.toArray.size:=by rw [List.size_toArray]; exact (List.getElem?_eq_some_iff.mp hv).1
  refine Yg (uy hh i1 a na its1.toArray) (Draws.list hh i2 b nb its2.toArray) Z t1 t2 t3 ⟨t4,p1⟩ ⟨t5,p2.isList⟩ l1 l2 ?_
  intro x' y' h1 tk px py z1 z2 z3 z4 z5 z6 keep
  have ex:x'=u:=by
   have q:its1.toArray[i]? = some x':=px
   simp only [List.getElem?_toArray] at q
   rw [hu] at q
   exact (Option.some.inj q).symm
  have ey:y'=v:=by
   have q:its2.toArray[i]? = some y':=py
   simp only [List.getElem?_toArray] at q
   rw [hv] at q
   exact (Option.some.inj q).symm
  subst ex ey
  refine ⟨_,rfl,wpAny_letOwnedTupleGo_zip (s:={ s with heap:=h1,toks:=tk }) z1 λh2 z7 sb=>?_⟩
  have zlt:z < s.heap.objs.size:=Heap.lt_size t1
  have keep2:∀ c o,c∉[z,TI,TO,i1,i2]->s.heap.get? c=some o->h2.get? c=some o:=λc o hc e=>by
   simp only [List.mem_cons,List.not_mem_nil,or_false,not_or] at hc
   exact sb.extBut c o hc.1 (keep c o hc.1 hc.2.2.1 hc.2.2.2.1 hc.2.2.2.2 e)
  have pT:IsPair h2 s.heap.objs.size x' y':=sb.extBut _ _ (Nat.ne_of_gt zlt) z6
  have I':=I.turnT (h':=h2) (tk:=tk) (ch:=[z,TI,TO,i1,i2]) (x:=x) (y:=y) hf keep2 (Nat.le_refl _) pT ru rv
  refine ⟨.ref s.heap.objs.size,_,I',rfl,⟨s.heap.objs.size,x,y,rfl,I.hok.fresh (Nat.le_refl _),rfl,λxs' q=>by rw [I.tuple_inj q hq1]; exact hx,λys' q=>by rw [I.list_inj q hq2]; exact hy⟩,
   ⟨z7,sb.extBut _ _ Z.a1 z2,⟨_,_,sb.extBut _ _ Z.a2 z3⟩,z4.1.extBut sb.extBut Z.a3,z5.1.extBut sb.extBut Z.a4⟩,λc hc=>?_⟩
  have:=(hf c hc).1
  rw [zp]
  ·exact this
  ·intro q
   obtain ⟨o,e,_⟩:∃ o,s.heap.get? c=some o/\True:=by
    simp only [List.mem_cons,List.not_mem_nil,or_false] at hc
    rcases hc with rfl | rfl | rfl | rfl | rfl
    ·exact ⟨_,t1,trivial⟩
    ·exact ⟨_,t2,trivial⟩
    ·exact ⟨_,t3,trivial⟩
    ·obtain ⟨o,e,_⟩:=t4; exact ⟨o,e,trivial⟩
    ·obtain ⟨o,e,_⟩:=t5; exact ⟨o,e,trivial⟩
   rw [q] at e
   exact absurd (Heap.lt_size e) (Nat.lt_irrefl _)
 done:=by
  intro X hP hw hK hc i pins s σ H E I hf ⟨t1,t2,⟨x0,y0,t3⟩,t4,t5⟩ hg
  subst hP hw hK
  obtain ⟨xs,ys,hq1,hq2,e1,e2,e3⟩:=hg
  obtain ⟨its1,rv1,p1,_⟩:=I.tuple hq1
  obtain ⟨its2,rv2,p2,_⟩:=I.list hq2
  have hh:X.A.in1.handled=none:=I.ok.hd hc
  have n1:its1.toArray.size=xs.length:=by rw [List.size_toArray]; exact rv1.length.symm
  have n2:its2.toArray.size=ys.length:=by rw [List.size_toArray]; exact rv2.length.symm
  refine Yh (uy hh i1 a na its1.toArray) (Draws.list hh i2 b nb its2.toArray) Z t1 t2 t3 ⟨t4,p1⟩ ⟨t5,p2.isList⟩ (by omega) (by omega) (by omega) ?_
  intro h1 tk keep
  refine ⟨rfl,I.turnN (h':=h1) (tk:=tk) (ch:=[z,TI,TO,i1,i2]) hf λc o hc e=>?_⟩
  simp only [List.mem_cons,List.not_mem_nil,or_false,not_or] at hc
  exact keep c o hc.1 hc.2.2.1 hc.2.2.2.1 hc.2.2.2.2 e
 self:=λ_ _ _ _ _ st h=>wpAny_pyIter_zip st.1 h
theorem vE {x y z:Nat} (h1:x≠y) (h2:x≠z):x∉[y,z]:=by simp [h1,h2]
theorem Yi (n a b:Nat) (la:a < n) (lb:b < n):Zp (n + 4) (n + 2) (n + 3) n (n + 1) [n,a] [n + 1,b]:=by
 have e:∀ x y:Nat,x≠y->(x:Addr)≠y:=λ_ _ h=>h
 exact ⟨e _ _ (by omega),e _ _ (by omega),e _ _ (by omega),e _ _ (by omega),e _ _ (by omega),e _ _ (by omega),e _ _ (by omega),e _ _ (by omega),e _ _ (by omega),
  vE (by omega) (by omega),vE (by omega) (by omega),vE (by omega) (by omega),vE (by omega) (by omega),vE (by omega) (by omega),vE (by omega) (by omega)⟩
section
variable {X:Cx} {es:List Expr} {kk:Nat} {tp:Pos}
end
end L2
namespace L2
open PySem PySem.Spec PyProof.Rows
section
variable {κ:Type} [DecidableEq κ]
end
section
variable {P:Program} {w:World} {H:Hp} {h:Heap} {a:Addr}
end
section
variable {X:Cx} {pins:List (Addr × Obj)} {σ:St} {H:Hp} {s:Shared} {a:Addr} {y v:V} {u r:Value} {o:Option V} {A:Around} {E:Value->Shared->Prop}
end
section
variable {X:Cx} {pins:List (Addr × Obj)} {σ:St} {H:Hp} {s:Shared} {a:Addr} {kvs:List (xx × V)} {k:xx} {u:Value} {A:Around} {E:Value->Shared->Prop}
end
section
variable {X:Cx} {o i e value:Expr} {pos pos' tpos:Pos} {td ty tv:TE}
end
section
variable {X:Cx} {pos:Pos}
end
end L2
namespace L2
open PySem
section
variable {prog:Program} {w:World} {A:Around} {R:Result->Shared->Prop} {s:Shared}
theorem zIT {elt target iter cond:Expr} {scope:Scope} {pos:Pos} {it acc:Value} {env:Env} (Wd:Nat->Shared->Prop)
  (turn:∀ n s,Wd n s->wpAny (model prog w) A (pyNext it) (λr s1=>match r with
   | none=>R (.ok .next) s1
   | some v=>wpAny (model prog w) A (letOwnedTupleGo target it v) (λ_ s2=>wpAny (model prog w) A (assign target env v) (λ_ s3=>wpAny (model prog w) A (isTrue cond env (eval cond env)) (λok s4=>
     if ok=true then wpAny (model prog w) A (eval elt env) (λx s5=>wpAny (model prog w) A (call (.builtin "list.append") [acc,x]) (λ_ s6=>∃ m,m < n/\Wd m s6) (λ_ _=>False) s5) (λ_ _=>False) s4
     else ∃ m,m < n/\Wd m s4) (λ_ _=>False) s3) (λ_ _=>False) s2) (λ_ _=>False) s1) (λ_ _=>False) s)
  (n:Nat) (h:Wd n s):codeAny (model prog w) A (.compLoop (.ListComp elt [⟨target,iter,[cond],0⟩] scope pos) 0 it acc env) R s:=by
 refine codeAny_loop rfl Wd (λn s hI=>?_) n h
 show wpAny _ _ (Sem.onRaise (compTurn (.ListComp elt [⟨target,iter,[cond],0⟩] scope pos) 0 it acc env) _) _ _ s
 refine wpAny_noted ?_
 rw [compTurn_list]
 refine wpAny_bind (wpAny_standAt (wpAny_bind (wpAny_mono (turn n s hI) (λr s1 h1=>?_) λ_ _ z=>False.elim z)))
 cases r with
 | none=>exact wpAny_pure h1
 | some v=>
  refine wpAny_bind (wpAny_mono h1 (λ_ s2 h2=>?_) λ_ _ z=>False.elim z)
  refine wpAny_bind (wpAny_mono h2 (λ_ s3 h3=>?_) λ_ _ z=>False.elim z)
  refine wpAny_bind (wpAny_tests_one (wpAny_mono h3 (λok s4 h4=>?_) λ_ _ z=>False.elim z))
  cases ok with
  | false=>exact wpAny_pure ⟨rfl,h4⟩
  | true=>exact wpAny_bind (wpAny_bind (wpAny_mono h4 (λx s5 h5=>wpAny_bind (wpAny_mono h5 (λ_ s6 h6=>wpAny_pure (wpAny_pure ⟨rfl,h6⟩)) λ_ _ z=>False.elim z)) λ_ _ z=>False.elim z))
end
end L2
namespace L2
open PySem PySem.Spec PyProof.Rows
def KN (J:It) (g:TG) (tc:TT) (te:TE) (Q:VK) (σ0:St) (H0:Hp):Prop:=∃ W:Nat->Nat->List V->St->Hp->Prop,(∃ m,W 0 m [] σ0 H0)/\∀ i m ys σ1 H,W i m ys σ1 H->
 (J.stop i H/\∀ p,H p=none->Q (.ref p) (za H p (.lst ys)))\/(J.go i H/\ys.length < sizeLine/\∃ (N:V->St->Hp->Prop) (N0:St->Hp->Prop),(∀ y σ' H',N y σ' H'->∃ m',m' < m/\W (i + 1) m' (ys++[y]) σ' H')/\(∀ σ' H',N0 σ' H'->∃ m',m' < m/\W (i + 1) m' ys σ' H')∧
    ∀ x H',J.yld i H x H'->g x σ1 H' λσ2 H2=>tc σ2 H2 λb H3=>if b=true then te σ2 H3 λy H4=>N y σ2 H4 else N0 σ2 H3)
def zPS (own:List Str) (caps:List (Nat × Str)) (wi:TI) (g:TG) (tc:TT) (te:TE):TE:=λσ H Q=>wi σ H λJ H1=>KN J g tc te Q (wA own caps σ) H1
section
variable {X:Cx} {scope:Scope} {own:List Str} {caps:List (Nat × Str)} {elt tg iter cond:Expr} {wi:TI} {g:TG} {tc:TT} {te:TE} {pos:Pos}
end
end L2
namespace L2
open PySem PySem.Spec PyProof.Rows
section
variable {prog:Program} {w:World} {A:Around} {E:Value->Shared->Prop} {s:Shared}
end
end L2
namespace L2
open PySem PySem.Spec PyProof.Rows
section
variable {X:Cx}
theorem zQH (hu:X.A.units + 64 < cLine):yn X (compareOp .NotEq) (λx y H Q=>∃ d e:PyData,Dp X.K H x d/\Dp X.K H y e/\d.canLay0=true/\e.canLay0=true/\d.depth<=60/\e.depth<=60/\Q (.bl (!PyData.eqv d e)) H):=by
 intro pins s σ H x y v u Q I rx ry h
 obtain ⟨d,e,hx,hy,hc,hc',hd,hd',q⟩:=h
 obtain ⟨_,r1⟩:=hx.reads I rx
 obtain ⟨_,r2⟩:=hy.reads I ry
 exact SeqAt.compareNe_reads r1 r2 hc hc' (by omega) ⟨.bl _,H,I,rfl,q⟩
end
end L2
namespace L2
open PySem PySem.Spec PyProof.Rows
section
variable {X:Cx}
end
end L2
namespace L2
open PySem
theorem gj:bootBuiltins "max" = some (.builtin "max"):=by decide +kernel
end L2
namespace L2
open PySem PySem.Spec PyProof.Rows
theorem Yj:bootBuiltins "sum" = some (.builtin "sum"):=by decide +kernel
theorem KO:∀ {ns:List Int} {its:List Value},zN (ns.map V.int) its->∃ zs:List (Int × Tok),its=zs.map (λp=>Value.int p.1 p.2)/\zs.map (·.1)=ns
 | [],_,.nil=>⟨[],rfl,rfl⟩
 | n :: r,_,.cons h t=>by
  obtain ⟨zs,e1,e2⟩:=KO t
  obtain ⟨tk,rfl⟩:=h
  exact ⟨(n,tk) :: zs,by rw [e1]; rfl,by rw [List.map_cons,e2]⟩
section
variable {X:Cx}
theorem Yk (hc:X.calm=true):wv X (.builtin "sum") (λxs H Q=>∃ (p:Addr) (ns:List Int),xs=[.ref p]/\zW X.K H p (ns.map V.int)/\Q (.int ns.sum) H):=by
 intro pins s σ H xs us Q I r h
 obtain ⟨p,ns,rfl,hq,q⟩:=h
 obtain ⟨u,rfl,ru⟩:=uM r
 cases ru
 obtain ⟨its,rv,pl,hz⟩:=I.list hq
 obtain ⟨zs,e1,e2⟩:=KO rv
 have e3:its.toArray=intItems zs.toArray:=by
  rw [e1]
  unfold intItems
  simp
 have hl:=pl.isList
 rw [e3] at hl
 refine sum_intListG (I.ok.hd hc) hl λh' tk t' kk=>⟨.int ns.sum,H,I.kept (h':=h') (t':=tk) kk,⟨t',?_⟩,q⟩
 rw [preSum_eq,List.take_of_length_le (by simp),e2]
end
end L2
namespace L2
open PySem PySem.Spec PyProof.Rows
theorem jW {a b c d:Nat} (h1:a < b) (h2:b<=c) (h3:c + 1<=d):d≠a:=by omega
theorem gk {a b c:Nat} (h1:c=a + 1) (h2:c + 1<=b):b≠a:=by omega
theorem Yl {x:Str} {c:Addr}:∀ (names:List (Str × NameKind)) (n:Nat) (acc:List (Str × Addr)),(cellsFrom n names acc).lookup x=some c->((x,NameKind.cell)∈names/\n<=c)\/acc.lookup x=some c
 | [],_,_,h=>.inr h
 | (y,k) :: r,n,acc,h=>by
  unfold cellsFrom at h
  split at h
  ·rename_i hk
   rcases Yl r (n + 1) ((y,n) :: acc) h with ⟨a,b⟩ | z
   ·exact .inl ⟨List.mem_cons_of_mem _ a,by omega⟩
   ·rw [List.lookup_cons] at z
    by_cases e:(x == y)=true
    ·simp only [e] at z
     have e1:x=y:=eq_of_beq e
     have e2:k=.cell:=eq_of_beq hk
     subst e1
     subst e2
     cases z
     exact .inl ⟨List.mem_cons_self,Nat.le_refl _⟩
    ·have e':(x == y)=false:=by simpa using e
     simp only [e'] at z
     exact .inr z
  ·rcases Yl r n acc h with ⟨a,b⟩ | z
   ·exact .inl ⟨List.mem_cons_of_mem _ a,b⟩
   ·exact .inr z
theorem Wz {x:Str}:∀ (names:List (Str × NameKind)) (n:Nat) (acc:List (Str × Addr)),(x,NameKind.cell)∉names->(cellsFrom n names acc).lookup x=acc.lookup x
 | [],_,_,_=>rfl
 | (y,k) :: r,n,acc,h=>by
  have hr:(x,NameKind.cell)∉r:=λz=>h (List.mem_cons_of_mem _ z)
  unfold cellsFrom
  split
  ·rename_i hk
   have e2:k=.cell:=eq_of_beq hk
   rw [Wz r _ _ hr,List.lookup_cons]
   have e':(x == y)=false:=by
    cases q:x == y with
    | false=>rfl
    | true=>exact absurd (by rw [eq_of_beq q,e2]; exact List.mem_cons_self) h
   simp only [e']
  ·exact Wz r _ _ hr
theorem W0:∀ (names:List (Str × NameKind)) (n:Nat) (acc:List (Str × Addr)),(∀ x c,acc.lookup x=some c->c < n)->(∀ x y c,acc.lookup x=some c->acc.lookup y=some c->x=y)->
  ∀ x y c,(cellsFrom n names acc).lookup x=some c->(cellsFrom n names acc).lookup y=some c->x=y
 | [],_,_,_,h2=>h2
 | (z,k) :: r,n,acc,h1,h2=>by
  unfold cellsFrom
  split
  ·have look:∀ x c,((z,n) :: acc).lookup x=some c->(x=z/\c=n)\/acc.lookup x=some c:=λx c e=>by
    rw [List.lookup_cons] at e
    cases q:x == z with
    | true=>
     simp only [q] at e
     exact .inl ⟨eq_of_beq q,(Option.some.inj e).symm⟩
    | false=>
     simp only [q] at e
     exact .inr e
   refine W0 r (n + 1) ((z,n) :: acc) (λx c e=>?_) λx y c e1 e2=>?_
   ·rcases look x c e with ⟨_,e⟩ | e
    ·rw [e]
     exact Nat.lt_succ_self n
    ·exact Nat.lt_succ_of_lt (h1 x c e)
   ·rcases look x c e1 with ⟨a1,b1⟩ | a1 <;> rcases look y c e2 with ⟨a2,b2⟩ | a2
    ·rw [a1,a2]
    ·have:=h1 y c a2
     rw [b1] at this
     exact absurd this (Nat.lt_irrefl n)
    ·have:=h1 x c a1
     rw [b2] at this
     exact absurd this (Nat.lt_irrefl n)
    ·exact h2 x y c a1 a2
  ·exact W0 r n acc h1 h2
theorem Ym {x:Str} {c:Addr}:∀ (names:List (Str × NameKind)) (h:Heap) (acc:List (Str × Addr)),(cellsFrom h.objs.size names acc).lookup x=some c->acc.lookup x=some c\/(pushCells h names).IsCell c none
 | [],_,_,e=>.inl e
 | (y,k) :: r,h,acc,e=>by
  unfold cellsFrom at e
  unfold pushCells
  split at e
  ·rename_i hk
   rw [if_pos hk]
   have q:=Ym (x:=x) (c:=c) r (h.push { cls:=.type "cell",data:=.cell none }) ((y,h.objs.size) :: acc) (by rw [Heap.size_push]; exact e)
   rcases q with q | q
   ·rw [List.lookup_cons] at q
    cases z:x == y with
    | true=>
     simp only [z] at q
     cases q
     exact .inr ⟨_,pushCells_keeps r _ _ _ (Heap.get?_push_size _ rfl),rfl⟩
    | false=>
     simp only [z] at q
     exact .inl q
   ·exact .inr q
  ·rename_i hk
   rw [if_neg hk]
   exact Ym r h acc e
theorem qW:∀ {l:List (Str × NameKind)} {x:Str} {k:NameKind},(l.map (·.1)).Nodup->(x,k)∈l->l.lookup x=some k
 | [],_,_,_,h=>by cases h
 | (y,j) :: r,x,k,nd,h=>by
  rw [List.map_cons,List.nodup_cons] at nd
  rw [List.lookup_cons]
  rcases List.mem_cons.mp h with e | h
  ·cases e
   rw [beq_self_eq_true]
  ·have ne:(x == y)=false:=by
    cases q:x == y with
    | false=>rfl
    | true=>exact absurd (by rw [<- eq_of_beq q]; exact List.mem_map.mpr ⟨(x,k),h,rfl⟩) nd.1
   simp only [ne]
   exact qW nd.2 h
theorem KP {M:Model} {A:Around} {E:Value->Shared->Prop} {s:Shared} {scope:Scope} {globals:Addr} {closure:List (Str × Addr)} {qual:Str} {func:Option Addr} {code:Value} {env:Env} {builtins:Addr} {Q:Env->Shared->Prop}
  (h:Q (newEnv scope s.heap.objs.size globals (cellsFrom (s.heap.objs.size + 1) scope.names closure) qual func code (some env) builtins) { s with heap:=pushCells (s.heap.push { cls:=.type "dict",data:=.dict #[] }) scope.names }) :
  wpAny M A (newFunctionEnv scope globals closure [] qual func code (some env) builtins) Q E s:=by
 simp only [newFunctionEnv,Option.isSome_some,if_true]
 refine wpAny_bind (wpAny_alloc ?_)
 refine wpAny_bind (wpAny_layCells _ (λname kind cells=>by cases hkc:kind == NameKind.cell <;> simp [hkc]) _ _ _ _ ?_)
 rw [show ({ s with heap:=s.heap.push { cls:=.type "dict",data:=.dict #[] } }:Shared).heap.objs.size=s.heap.objs.size + 1 from Heap.size_push ..]
 simp only [List.forIn_nil]
 exact wpAny_bind (wpAny_pure (wpAny_pure h))
abbrev yN (X:Cx) (scope:Scope) (N:List Str) (C:Addr) (s₀:Shared) (H₀:Hp) (ex:List Addr):Cx:=
 { X with N:=N,s₀:=s₀,H₀:=H₀,env:=compEnvC scope (cellsFrom (C + 1) scope.names (x9 scope X.env)) C X.env,outer:=X.stack,ex:=ex,fn:=λx=>scope.names.lookup x == some .cell,pn:=[],xe:=λ_ _=>False }
structure vQ (X:Cx) (scope:Scope) (own:List Str) (caps:List (Nat × Str)):Prop where
 kind:scope.kind=.function
 nod:(scope.names.map (·.1)).Nodup
 locs:∀ y∈scope.names,y.2=.local->scope.names.lookup y.1=some .local
 free:∀ y∈scope.names,y.2=.free->(X.env.cells.lookup y.1).isSome=true
 caps:∀ p∈caps,X.N[p.1]? = some p.2/\scope.names.lookup p.2=some .free/\(X.env.kindOf p.2=some .cell\/X.env.kindOf p.2=some .free)
section
variable {X:Cx} {scope:Scope} {own:List Str} {caps:List (Nat × Str)} {pins:List (Addr × Obj)} {σ:St} {H:Hp} {s s4:Shared} {C D:Addr} {fp:List Addr}
theorem qX (B:vQ X scope own caps) {x:Str} {c n:Nat} (e:(cellsFrom n scope.names (x9 scope X.env)).lookup x=some c):((x,NameKind.cell)∈scope.names/\n<=c)\/X.env.cells.lookup x=some c:=
 (Yl _ _ _ e).imp id λz=>(jV B.free z).1
theorem W1 (I:zH X pins σ H s) {x:Str} {c:Addr} (e:X.env.cells.lookup x=some c):c < s.heap.objs.size:=by
 obtain ⟨v,o,ho,_⟩:=I.cell x c e
 exact Heap.lt_size ho
theorem zPA (B:vQ X scope own caps) (I:zH X pins σ H s) (hf:∀ b∈fp,yL X pins H b) (hC:s.heap.objs.size<=C) (hlt:∀ b∈fp,b < s.heap.objs.size):(yN X scope (zY own caps) C s H fp).Ok where
 mod:=I.ok.mod
 kind:=B.kind
 glob:=I.ok.glob
 blt:=I.ok.blt
 above:=hC
 inj:=W0 _ _ _ (λx c e=>Nat.lt_of_lt_of_le (W1 I (jV B.free e).1) (Nat.le_succ_of_le hC)) λx y c h1 h2=>I.ok.inj x y c (jV B.free h1).1 (jV B.free h2).1
 has:=λx h=>by
  have fr:(x,NameKind.free)∈scope.names->∃ c,(cellsFrom (C + 1) scope.names (x9 scope X.env)).lookup x=some c:=λz=>by
   obtain ⟨c,e⟩:=Wx (env:=X.env) z
   exact Option.isSome_iff_exists.mp (PySem.W.cellsFrom_some _ _ _ (.inr (by rw [e]; rfl)))
  have ce:(x,NameKind.cell)∈scope.names->∃ c,(cellsFrom (C + 1) scope.names (x9 scope X.env)).lookup x=some c:=λz=>
   Option.isSome_iff_exists.mp (PySem.W.cellsFrom_some _ _ _ (.inl (qW B.nod z)))
  rcases h with h | h
  ·rcases KD (show (relabel scope X.env).names.lookup x=some .cell from h) with ⟨_,z | z⟩ | z
   ·exact fr z
   ·exact ce z
   ·exact ce z
  ·rcases KD (show (relabel scope X.env).names.lookup x=some .free from h) with ⟨z,_⟩ | z
   ·cases z
   ·exact fr z
 cab:=λx c h e=>by
  have hx:scope.names.lookup x=some .cell:=eq_of_beq h
  rcases Yl _ _ _ e with ⟨_,z⟩ | z
  ·exact Nat.le_trans hC (Nat.le_of_succ_le z)
  ·have:=qW B.nod (jV B.free z).2
   rw [hx] at this
   cases this
 hd:=I.ok.hd
 frames:=I.ok.frames
 stk:=.inl rfl
 exf:=λb hb=>⟨λe=>by have:=hlt b hb; rw [e] at this; exact absurd (Nat.lt_of_lt_of_le this hC) (Nat.lt_irrefl _),λx c e=>by
  rcases qX B e with ⟨_,z⟩ | z
  ·exact jW (hlt b hb) hC z
  ·exact (hf b hb).2.2.2.2.1 x c z⟩
 bs:=I.bs
 bsz:=Nat.le_trans I.ok.bsz I.sz
 noex:=λb o e hb=>by
  rcases (hf b hb).2.2.2.1 with z | z
  ·exact I.ok.noex b o e z
  ·exact absurd (Nat.lt_of_lt_of_le (Heap.lt_size e) (Nat.le_trans I.ok.bsz z)) (Nat.lt_irrefl _)
 exfs:=λb hb z=>by
  rcases List.mem_cons.mp (I.stkSub b z) with e | z
  ·exact (hf b hb).2.1 e
  ·exact (hf b hb).2.2.1 z
 funs:=I.stack
 frf:=I.stkFree
theorem KQ (B:vQ X scope own caps) (I:zH X pins σ H s) (hf:∀ b∈fp,yL X pins H b) (hC:s.heap.objs.size<=C) (hlt:∀ b∈fp,b < s.heap.objs.size)
  {m:Str->Option Value} (hn:s4.heap.Ns C m) (hk:∀ b o,s.heap.get? b=some o->s4.heap.get? b=some o) (hcell:∀ x c,(cellsFrom (C + 1) scope.names (x9 scope X.env)).lookup x=some c->(x9 scope X.env).lookup x=some c\/s4.heap.IsCell c none) (ho:s4.os=s.os) (hb:AllBare s4.gens) :
  zH (yN X scope (zY own caps) C s H fp) [] (wA own caps σ) H s4 where
 ok:=zPA B I hf hC hlt
 os:=ho
 bare:=hb
 base:=Un.kept hk
 loc:=⟨m,hn,λi x v h1 h2 h3=>by
  obtain ⟨j,hm,hs⟩:=zNY h1 h2
  obtain ⟨c1,c2,c3⟩:=B.caps _ hm
  obtain ⟨m',_,hl⟩:=I.loc
  have vis:jN X.env.scope x:=c3.elim (λz=>.inr (.inl z)) λz=>.inr (.inr z)
  obtain ⟨u,r,l⟩:=hl j x v c1 hs vis
  refine ⟨u,r,.inr ?_⟩
  have hm2:(x,NameKind.free)∈scope.names:=qS c2
  obtain ⟨c',hc'⟩:=Wx (env:=X.env) hm2
  have hc2:=(jV B.free hc').1
  have noc:(x,NameKind.cell)∉scope.names:=λz=>by
   have:=qW B.nod z
   rw [c2] at this
   cases this
  refine ⟨?_,c',(Wz _ _ _ noc).trans hc',?_⟩
  ·show (relabel scope X.env).names.lookup x=some .cell\/(relabel scope X.env).names.lookup x=some .free
   rw [KG,c2,Option.map_some]
   split
   ·exact .inl rfl
   ·exact .inr rfl
  ·rcases l with ⟨k,_⟩ | ⟨_,c,e,z⟩
   ·rcases c3 with c3 | c3 <;> rw [c3] at k <;> cases k
   ·rw [hc2] at e
    cases e
    obtain ⟨o,e1,e2⟩:=z
    exact ⟨o,hk _ o e1,e2⟩⟩
 cell:=λx c e=>by
  rcases hcell x c e with z | z
  ·obtain ⟨v,o,e1,e2⟩:=I.cell x c (jV B.free z).1
   exact ⟨v,o,hk _ o e1,e2⟩
  ·exact ⟨none,z⟩
 free:=I.hok.fresh hC
 freeC:=λx c e=>by
  rcases qX B e with ⟨_,z⟩ | z
  ·exact I.hok.fresh (Nat.le_trans hC (Nat.le_of_succ_le z))
  ·exact I.freeC x c z
 pin:=λp hp=>by simp at hp
 hok:=I.hok.kept hk
 len:=by
  show (wA own caps σ).length=(zY own caps).length
  unfold wA zY
  simp
end
section
variable {X:Cx} {scope:Scope} {own:List Str} {caps:List (Nat × Str)} {elt tg iter cond:Expr} {wi:TI} {g:TG} {tc:TT} {te:TE} {pos:Pos}
theorem KR {pins:List (Addr × Obj)} {σ:St} {H2:Hp} {s2:Shared} {it:Addr} {fp:List Addr} {tn:Nat->Heap->Prop} {J:It} {W:Nat->Nat->List V->St->Hp->Prop} {m0:Nat} {Q:VK} {E:Value->Shared->Prop} {RR:Value->Addr->Result->Shared->Prop}
  (B:vQ X scope own caps) (hc:X.calm=true) (hg:∀ C s₀ H₀ ex,PG (yN X scope (zY own caps) C s₀ H₀ ex) tg g) (he:∀ C s₀ H₀ ex,PE (yN X scope (zY own caps) C s₀ H₀ ex) elt te)
  (I2:zH X pins σ H2 s2) (T:xN X.prog X.w X.K tg J fp it tn) (st2:tn 0 s2.heap) (f2:∀ b∈fp,yL X pins H2 b) (w0:W 0 m0 [] (wA own caps σ) H2)
  (turn:∀ i m ys σ1 H,W i m ys σ1 H->(J.stop i H/\∀ p,H p=none->Q (.ref p) (za H p (.lst ys)))∨
   (J.go i H/\ys.length < sizeLine/\∃ N:V->St->Hp->Prop,(∀ y σ' H',N y σ' H'->∃ m',m' < m/\W (i + 1) m' (ys++[y]) σ' H')/\∀ x H',J.yld i H x H'->g x σ1 H' λσ2 H2=>te σ2 H2 λy H3=>N y σ2 H3))
  (hRR:∀ D C s6 H6 ys m,s6.heap.Ns C m->s2.heap.objs.size<=C->(∀ h',Heap.SameBut C s6.heap h'->zH X pins σ (za H6 D (.lst ys)) { s6 with heap:=h' })->za H6 D (.lst ys) C=none->Q (.ref D) (za H6 D (.lst ys))->RR (.ref D) C (.ok .next) s6) :
  wpAny (model X.prog X.w) X.A (newList []) (λacc s3=>wpAny (model X.prog X.w) X.A (newFunctionEnv scope X.env.globals (x9 scope X.env) [] X.env.qual none .none (some X.env)) (λcenv s4=>
   codeAny (model X.prog X.w) X.A (.compStart (.ListComp elt [⟨tg,iter,[],0⟩] scope pos) 0 (.ref it) acc { cenv with scope:=relabel scope X.env }) (RR acc cenv.locals) s4) E s3) E s2:=by
 have hlt:∀ b∈fp,b < s2.heap.objs.size:=λb hb=>by
  obtain ⟨o,ho,_⟩:=T.obj _ _ st2 b hb
  exact Heap.lt_size ho
 refine wpAny_newObj_type (KP ?_)
 dsimp only
 generalize hP:s2.heap.push { cls:=.type "list",dict:=none,data:=.seq ([]:List Value).toArray }=HD
 have hns:(pushCells (HD.push { cls:=.type "dict",data:=.dict #[] }) scope.names).Ns HD.objs.size (λ_=>none):=(Heap.Ns.new HD (.type "dict")).keeps (pushCells_keeps _ _)
 have hkp:∀ b o,HD.get? b=some o->(pushCells (HD.push { cls:=.type "dict",data:=.dict #[] }) scope.names).get? b=some o:=λb o e=>pushCells_keeps _ _ b o (Heap.get?_push_of_some _ e)
 have hcell:∀ x c,(cellsFrom (HD.objs.size + 1) scope.names (x9 scope X.env)).lookup x=some c->(x9 scope X.env).lookup x=some c\/(pushCells (HD.push { cls:=.type "dict",data:=.dict #[] }) scope.names).IsCell c none:=λx c e=>
  Ym _ _ _ (by rw [Heap.size_push]; exact e)
 generalize hP4:pushCells (HD.push { cls:=.type "dict",data:=.dict #[] }) scope.names=h4 at hns hkp hcell |-
 have hCD:HD.objs.size=s2.heap.objs.size + 1:=by rw [<- hP,Heap.size_push]
 have hDC:s2.heap.objs.size≠HD.objs.size:=by omega
 have hle:s2.heap.objs.size<=HD.objs.size:=by omega
 have old:∀ b o,s2.heap.get? b=some o->h4.get? b=some o:=λb o eb=>hkp b o (by rw [<- hP]; exact Heap.get?_push_of_some _ eb)
 have hD4:h4.get? s2.heap.objs.size=some { cls:=.type "list",data:=.seq ([]:List Value).toArray 0 }:=hkp _ _ (by rw [<- hP]; exact Heap.get?_push_size _ rfl)
 have IY:zH (yN X scope (zY own caps) HD.objs.size s2 H2 fp) [] (wA own caps σ) H2 { s2 with heap:=h4 }:=
  KQ B I2 f2 (by omega) hlt hns old hcell rfl I2.bare
 have stat:∀ {H':Hp},(∀ b∈fp,H' b=none)->∀ b∈fp,yL (yN X scope (zY own caps) HD.objs.size s2 H2 fp) [] H' b:=λ{H'} hn b hb=>by
  have hb2:=hlt b hb
  refine ⟨hn b hb,?_,λz=>?_,.inl hb,λx c ec=>(match qX B ec with | .inl z=>jW hb2 hle z.2 | .inr z=>(f2 b hb).2.2.2.2.1 x c z),λp hp=>by simp at hp⟩
  ·exact Nat.ne_of_lt (Nat.lt_of_lt_of_le hb2 hle)
  ·rcases List.mem_cons.mp (I2.stkSub b z) with e | z
   ·exact (f2 b hb).2.1 e
   ·exact (f2 b hb).2.2.1 z
 have statD:∀ {H':Hp},H' s2.heap.objs.size=none->yL (yN X scope (zY own caps) HD.objs.size s2 H2 fp) [] H' s2.heap.objs.size:=λ{H'} hn=>by
  refine ⟨hn,hDC,λz=>?_,.inr (Nat.le_refl _),λx c ec z=>?_,λp hp=>by simp at hp⟩
  ·obtain ⟨_,o,ho,_⟩:=I2.stack.mem z
   exact absurd (Heap.lt_size ho) (Nat.lt_irrefl _)
  ·rcases qX B ec with ⟨_,y⟩ | y
   ·exact gk hCD y z
   ·have:=W1 I2 y
    rw [z] at this
    exact Nat.lt_irrefl _ this
 have ue:∀ b∈fp,b≠s2.heap.objs.size:=λb hb=>Nat.ne_of_lt (hlt b hb)
 have IY':zH (yN X scope (zY own caps) HD.objs.size s2 H2 fp) [(s2.heap.objs.size,yZ [] 0)] (wA own caps σ) H2 { s2 with heap:=h4 }:=
  IY.pins_of λp hp=>by
   rw [List.mem_singleton.mp hp]
   have z:=statD (I2.hok.fresh (Nat.le_refl _))
   exact ⟨hD4,z.1,z.2.1,z.2.2.1,λv z=>by cases z⟩
 have loop:∀ s3:Shared,s3={ s2 with heap:=h4 }->
   codeAny (model X.prog X.w) X.A (.compLoop (.ListComp elt [⟨tg,iter,[],0⟩] scope pos) 0 (.ref it) (.ref s2.heap.objs.size) (compEnvC scope (cellsFrom (HD.objs.size + 1) scope.names (x9 scope X.env)) HD.objs.size X.env))
    (RR (.ref s2.heap.objs.size) HD.objs.size) s3:=by
  rintro s3 rfl
  refine zJx (λn s'=>∃ i ys σ' H' its k,zH (yN X scope (zY own caps) HD.objs.size s2 H2 fp) [(s2.heap.objs.size,yZ its k)] σ' H' s'/\tn i s'.heap/\(∀ b∈fp,H' b=none)∧
   zN ys its/\ys.length<=sizeLine/\W i n ys σ' H') ?_ m0 ⟨0,[],_,H2,[],0,IY',T.keep _ _ _ st2 λb hb o eb=>old b o eb,λb hb=>(f2 b hb).1,.nil,Nat.zero_le _,w0⟩
  rintro n s5 ⟨i,ys,σ5,H5,its,k,I5,st5,fr5,rv5,hz5,w5⟩
  have stat5:∀ {H':Hp},(∀ b∈fp,H' b=none)->∀ b∈fp,yL (yN X scope (zY own caps) HD.objs.size s2 H2 fp) [(s2.heap.objs.size,yZ its k)] H' b:=λ{H'} hn b hb=>by
   obtain ⟨a1,a2,a3,a4,a5,_⟩:=stat hn b hb
   refine ⟨a1,a2,a3,a4,a5,λp hp=>?_⟩
   have hp':p∈[(s2.heap.objs.size,yZ its k)]:=hp
   rw [List.mem_singleton.mp hp']
   exact Ne.symm (ue b hb)
  rcases turn i n ys σ5 H5 w5 with ⟨stop,qn⟩ | ⟨go,hlen,N,hN,step⟩
  ·refine zg (T.done (yN X scope (zY own caps) HD.objs.size s2 H2 fp) rfl rfl rfl hc i _ s5 σ5 H5 _ I5 (stat5 fr5) st5 stop) λr s6 ⟨hr,I6⟩=>?_
   subst hr
   obtain ⟨pD1,pD2,_⟩:=I6.pin (s2.heap.objs.size,yZ its k) (List.mem_append_right _ List.mem_cons_self)
   obtain ⟨m6,hn6,_⟩:=I6.loc
   refine hRR _ _ s6 H5 ys m6 hn6 (by omega) (λh' sb=>?_) (by rw [zp (Ne.symm hDC)]; exact I6.free) (qn _ pD2)
   have hC5:H5 HD.objs.size=none:=I6.free
   have nb:∀ b o,s2.heap.get? b=some o->b≠HD.objs.size/\b≠s2.heap.objs.size:=λb o eb=>by
    have hb:=Heap.lt_size eb
    exact ⟨Nat.ne_of_lt (Nat.lt_of_lt_of_le hb hle),Nat.ne_of_lt hb⟩
   have nt:∀ b o,H5 b=some o->b≠s2.heap.objs.size:=λb o eb z=>by rw [z] at eb; rw [show H5 s2.heap.objs.size=none from pD2] at eb; cases eb
   have un:Un (wt X.stack) fp H2 (za H5 s2.heap.objs.size (.lst ys)) s2.heap h':=
    ⟨λb o eb n1 n2 n3=>sb.extBut b o (nb b o eb).1 (I6.base.keep b o eb n1 n2 n3),
     λb o eb n1 n2 n3=>by
      obtain ⟨sl,e1⟩:=I6.base.slot b o eb n1 n2 n3
      exact ⟨sl,sb.extBut b _ (nb b o eb).1 e1⟩,
     λb o eb n1 n3=>by
      rw [zp (nb b o eb).2]
      exact I6.base.free b o eb n1 n3,
     λb o eb n3=>by
      obtain ⟨o',e1⟩:=I6.base.there b o eb n3
      exact ⟨o',sb.extBut b _ (nb b o eb).1 e1⟩,
     λb xs eb=>by
      have e1:=I6.base.tups b xs eb
      rw [zp (nt b _ e1)]
      exact e1,
     λb o u eb=>by
      have e1:=I6.base.frzs b o u eb
      rw [zp (nt b _ e1)]
      exact e1,
     λb ps eb=>by
      obtain ⟨more,e1⟩:=I6.base.tbls b ps eb
      refine ⟨more,?_⟩
      rw [zp (nt b _ e1)]
      exact e1⟩
   have ok5:xB X.prog X.w (za H5 s2.heap.objs.size (.lst ys)) h':=λb u eb=>by
    by_cases hb:b=s2.heap.objs.size
    ·subst hb
     rw [wK] at eb
     cases eb
     exact ⟨hz5,its,k,rv5,sb.extBut _ _ hDC pD1⟩
    ·rw [zp hb] at eb
     refine (I6.hok b u eb).stay (λc v hcv ev=>sb.extBut c v ?_ ev) (λc ec=>by rw [zp (nt c _ ec)]; exact ec) λc xs ec=>by rw [zp (nt c _ ec)]; exact ec
     rintro rfl
     rcases hcv with z | z
     ·rw [<- z,hC5] at eb
      cases eb
     ·rw [hC5] at z
      cases z
   exact I2.call' (s':={ s6 with heap:=h' }) (ch:=fp) I6.os un ok5 I6.bare λb hb=>⟨(f2 b hb).2.2.2.1,(f2 b hb).2.1,(f2 b hb).2.2.2.2.1,(f2 b hb).2.2.2.2.2⟩
  ·refine zg (T.item (yN X scope (zY own caps) HD.objs.size s2 H2 fp) rfl rfl rfl hc i _ s5 σ5 H5 _ I5 (stat5 fr5) st5 go) λr s6 ⟨u,hr,h6⟩=>?_
   subst hr
   refine zg h6 λ_ s7 ⟨x,H7,I7,r7,y7,st7,fr7⟩=>?_
   have I7':=I7.pinned (stat5 fr7) (T.obj _ _ st7)
   refine zg (hg HD.objs.size s2 H2 fp _ s7 σ5 H7 x u _ I7' r7 (step x H7 y7)) λ_ s8 ⟨σ8,H8,I8,q8⟩=>?_
   refine zg (he HD.objs.size s2 H2 fp _ s8 σ8 H8 _ I8 q8) λyv s9 ⟨y,H9,I9,r9,n9⟩=>?_
   obtain ⟨m',hm',w9⟩:=hN y σ8 H9 n9
   have pD9:=(I9.pin (s2.heap.objs.size,yZ its k) (List.mem_append_right _ (List.mem_append_left _ List.mem_cons_self))).2.1
   have hl:its.length=ys.length:=rv5.length.symm
   refine KJ (Y:=yN X scope (zY own caps) HD.objs.size s2 H2 fp) (its:=its) (k:=k) (pl:=qO fp s7.heap) I9 (statD pD9) rfl (by omega) λh' k' tk keep I'=>?_
   refine ⟨m',hm',i + 1,ys++[y],σ8,H9,its++[yv],k',I',?_,λb hb=>?_,rv5.append (.cons r9 .nil),?_,w9⟩
   ·refine T.keep _ _ _ st7 λb hb o eb=>keep b o (ue b hb) ?_
    exact (I9.pin (b,o) (List.mem_append_right _ (List.mem_append_right _ (uw hb eb)))).1
   ·obtain ⟨o,eb,_⟩:=T.obj _ _ st7 b hb
    exact (I9.pin (b,o) (List.mem_append_right _ (List.mem_append_right _ (uw hb eb)))).2.1
   ·rw [List.length_append,List.length_singleton]
    omega
 exact codeAny_compStart_list (loop _ rfl) (T.self _ 0 _ _ _ (T.keep _ _ _ st2 λb hb o eb=>old b o eb) (loop _ rfl))
theorem zMv (B:vQ X scope own caps) (hc:X.calm=true) (hi:PI X tg iter wi) (hg:∀ C s₀ H₀ ex,PG (yN X scope (zY own caps) C s₀ H₀ ex) tg g)
  (he:∀ C s₀ H₀ ex,PE (yN X scope (zY own caps) C s₀ H₀ ex) elt te) (hs:∀ x,foldedSetIterable iter X.env x=pure x:=by intro _; rfl) :
  PE X (.ListComp elt [⟨tg,iter,[],0⟩] scope pos) (KI own caps wi g te):=by
 intro pins s σ H Q I h
 rw [eval_ListComp]
 refine wpAny_comprehension_free (use:=none) rfl hs (Ww B.free) B.kind B.locs ?_
 refine zg (hi pins s σ H _ I h) λxv s1 h1=>zg h1 λitv s2 h2=>?_
 obtain ⟨it,fp,tn,J,H2,e,I2,T,st2,f2,W,⟨m0,w0⟩,turn⟩:=h2
 subst e
 refine KR (RR:=λacc C=>compPost (model X.prog X.w) X.A X.xe none (EP X pins σ Q) acc C) B hc hg he I2 T st2 f2 w0 turn λD C s6 H6 ys m hn hC J6 hC6 q=>?_
 exact ⟨m,hn,λh' sb=>⟨.ref D,_,J6 h' sb,rfl,q⟩⟩
theorem zMl {i:Nat} {y:Str} {py spos:Pos} (hN:X.N.Nodup) (hy:X.N[i]? = some y) (hl:X.env.scope.names.lookup y=some .local) (B:vQ X scope own caps) (hc:X.calm=true) (hi:PI X tg iter wi) (hg:∀ C s₀ H₀ ex,PG (yN X scope (zY own caps) C s₀ H₀ ex) tg g)
  (he:∀ C s₀ H₀ ex,PE (yN X scope (zY own caps) C s₀ H₀ ex) elt te) (hsw:swapsWith (.ListComp elt [⟨tg,iter,[],0⟩] scope pos) (some (.Name y py)) spos.line X.env=pure true) (hs:∀ x,foldedSetIterable iter X.env x=pure x:=by intro _; rfl) :
  PS X (.Assign [.Name y py] (.ListComp elt [⟨tg,iter,[],0⟩] scope pos) spos) (v4 (KI own caps wi g te) (gL i)):=by
 intro pins s σ H D0 I h
 rw [exec_Assign_Name_used _ _ _ _ hsw]
 refine wpAny_bind (wpAny_standAt (wpAny_bind ?_))
 change wpAny _ X.A (do let _ <- comprehension (.ListComp elt [⟨tg,iter,[],0⟩] scope pos) scope X.env _ (newList []) false (eval iter X.env) (some (assign (.Name y py) X.env))) _ _ s
 refine wpAny_bind (wpAny_mono (wpAny_comprehension_free (use:=some (assign (.Name y py) X.env)) (Q:=λ_ s'=>SP X pins D0 .next s') rfl hs (Ww B.free) B.kind B.locs ?_) (λ_ s' hq=>wpAny_pure (wpAny_pure hq)) λ_ _ e=>e)
 refine zg (hi pins s σ H _ I h) λxv s1 h1=>zg h1 λitv s2 h2=>?_
 obtain ⟨it,fp,tn,J,H2,e,I2,T,st2,f2,W,⟨m0,w0⟩,turn⟩:=h2
 subst e
 refine KR (Q:=λx H1=>D0.nx (σ.set i (some x)) H1) (RR:=λacc C=>compPost (model X.prog X.w) X.A X.xe (some (assign (.Name y py) X.env)) (λ_ s'=>SP X pins D0 .next s') acc C) B hc hg he I2 T st2 f2 w0 turn λD C s6 H6 ys m hn hC J6 hC6 q=>?_
 have I6:zH X pins σ (za H6 D (.lst ys)) s6:=J6 s6.heap (.refl ..)
 have CL:C≠X.env.locals:=λz=>by rw [z] at hC; exact absurd (Nat.lt_of_lt_of_le I2.lt hC) (Nat.lt_irrefl _)
 have CC:∀ x c,X.env.cells.lookup x=some c->c≠C:=λx c ec z=>by
  obtain ⟨v,o,ho,_⟩:=I2.cell x c ec
  rw [z] at ho
  exact absurd (Nat.lt_of_lt_of_le (Heap.lt_size ho) hC) (Nat.lt_irrefl _)
 have CP:∀ p∈X.pn++pins,p.1≠C:=λp hp z=>by
  have hl:=Heap.lt_size (I2.pin p hp).1
  rw [z] at hl
  exact absurd (Nat.lt_of_lt_of_le hl hC) (Nat.lt_irrefl _)
 change wpAny _ X.A (assign (.Name y py) X.env (.ref D)) _ _ s6
 refine wpAny_assign_Name (WL I6 hN hy (.inl hl) (v:=.ref D) rfl (λs7 I7 ⟨a,sb,ha⟩=>?_) (.inr hl))
 have aC:C≠a:=λz=>by
  rcases ha with e | e
  ·exact CL (z.trans e)
  ·exact CC _ _ e z.symm
 refine ⟨m,hn.sameBut sb aC,λh' sb'=>⟨_,_,I7.turned (h':=h') (t':=s7.toks) (it:=C) (λb o hb eb=>sb'.extBut b o hb eb) hC6 CL (.inr (Nat.le_trans I2.sz hC)) CC CP,q⟩⟩
theorem zIU {pins:List (Addr × Obj)} {σ:St} {H2:Hp} {s2:Shared} {it:Addr} {fp:List Addr} {tn:Nat->Heap->Prop} {J:It} {W:Nat->Nat->List V->St->Hp->Prop} {m0:Nat} {Q:VK} {E:Value->Shared->Prop} {RR:Value->Addr->Result->Shared->Prop}
  (B:vQ X scope own caps) (hc:X.calm=true) (hg:∀ C s₀ H₀ ex,PG (yN X scope (zY own caps) C s₀ H₀ ex) tg g) (ht:∀ C s₀ H₀ ex,PT (yN X scope (zY own caps) C s₀ H₀ ex) cond tc) (he:∀ C s₀ H₀ ex,PE (yN X scope (zY own caps) C s₀ H₀ ex) elt te)
  (I2:zH X pins σ H2 s2) (T:xN X.prog X.w X.K tg J fp it tn) (st2:tn 0 s2.heap) (f2:∀ b∈fp,yL X pins H2 b) (w0:W 0 m0 [] (wA own caps σ) H2)
  (turn:∀ i m ys σ1 H,W i m ys σ1 H->(J.stop i H/\∀ p,H p=none->Q (.ref p) (za H p (.lst ys)))∨
   (J.go i H/\ys.length < sizeLine/\∃ (N:V->St->Hp->Prop) (N0:St->Hp->Prop),(∀ y σ' H',N y σ' H'->∃ m',m' < m/\W (i + 1) m' (ys++[y]) σ' H')/\(∀ σ' H',N0 σ' H'->∃ m',m' < m/\W (i + 1) m' ys σ' H')∧
    ∀ x H',J.yld i H x H'->g x σ1 H' λσ2 H2=>tc σ2 H2 λb H3=>if b=true then te σ2 H3 λy H4=>N y σ2 H4 else N0 σ2 H3))
  (hRR:∀ D C s6 H6 ys m,s6.heap.Ns C m->s2.heap.objs.size<=C->(∀ h',Heap.SameBut C s6.heap h'->zH X pins σ (za H6 D (.lst ys)) { s6 with heap:=h' })->za H6 D (.lst ys) C=none->Q (.ref D) (za H6 D (.lst ys))->RR (.ref D) C (.ok .next) s6) :
  wpAny (model X.prog X.w) X.A (newList []) (λacc s3=>wpAny (model X.prog X.w) X.A (newFunctionEnv scope X.env.globals (x9 scope X.env) [] X.env.qual none .none (some X.env)) (λcenv s4=>
   codeAny (model X.prog X.w) X.A (.compStart (.ListComp elt [⟨tg,iter,[cond],0⟩] scope pos) 0 (.ref it) acc { cenv with scope:=relabel scope X.env }) (RR acc cenv.locals) s4) E s3) E s2:=by
 have hlt:∀ b∈fp,b < s2.heap.objs.size:=λb hb=>by
  obtain ⟨o,ho,_⟩:=T.obj _ _ st2 b hb
  exact Heap.lt_size ho
 refine wpAny_newObj_type (KP ?_)
 dsimp only
 generalize hP:s2.heap.push { cls:=.type "list",dict:=none,data:=.seq ([]:List Value).toArray }=HD
 have hns:(pushCells (HD.push { cls:=.type "dict",data:=.dict #[] }) scope.names).Ns HD.objs.size (λ_=>none):=(Heap.Ns.new HD (.type "dict")).keeps (pushCells_keeps _ _)
 have hkp:∀ b o,HD.get? b=some o->(pushCells (HD.push { cls:=.type "dict",data:=.dict #[] }) scope.names).get? b=some o:=λb o e=>pushCells_keeps _ _ b o (Heap.get?_push_of_some _ e)
 have hcell:∀ x c,(cellsFrom (HD.objs.size + 1) scope.names (x9 scope X.env)).lookup x=some c->(x9 scope X.env).lookup x=some c\/(pushCells (HD.push { cls:=.type "dict",data:=.dict #[] }) scope.names).IsCell c none:=λx c e=>
  Ym _ _ _ (by rw [Heap.size_push]; exact e)
 generalize hP4:pushCells (HD.push { cls:=.type "dict",data:=.dict #[] }) scope.names=h4 at hns hkp hcell |-
 have hCD:HD.objs.size=s2.heap.objs.size + 1:=by rw [<- hP,Heap.size_push]
 have hDC:s2.heap.objs.size≠HD.objs.size:=by omega
 have hle:s2.heap.objs.size<=HD.objs.size:=by omega
 have old:∀ b o,s2.heap.get? b=some o->h4.get? b=some o:=λb o eb=>hkp b o (by rw [<- hP]; exact Heap.get?_push_of_some _ eb)
 have hD4:h4.get? s2.heap.objs.size=some { cls:=.type "list",data:=.seq ([]:List Value).toArray 0 }:=hkp _ _ (by rw [<- hP]; exact Heap.get?_push_size _ rfl)
 have IY:zH (yN X scope (zY own caps) HD.objs.size s2 H2 fp) [] (wA own caps σ) H2 { s2 with heap:=h4 }:=
  KQ B I2 f2 (by omega) hlt hns old hcell rfl I2.bare
 have stat:∀ {H':Hp},(∀ b∈fp,H' b=none)->∀ b∈fp,yL (yN X scope (zY own caps) HD.objs.size s2 H2 fp) [] H' b:=λ{H'} hn b hb=>by
  have hb2:=hlt b hb
  refine ⟨hn b hb,?_,λz=>?_,.inl hb,λx c ec=>(match qX B ec with | .inl z=>jW hb2 hle z.2 | .inr z=>(f2 b hb).2.2.2.2.1 x c z),λp hp=>by simp at hp⟩
  ·exact Nat.ne_of_lt (Nat.lt_of_lt_of_le hb2 hle)
  ·rcases List.mem_cons.mp (I2.stkSub b z) with e | z
   ·exact (f2 b hb).2.1 e
   ·exact (f2 b hb).2.2.1 z
 have statD:∀ {H':Hp},H' s2.heap.objs.size=none->yL (yN X scope (zY own caps) HD.objs.size s2 H2 fp) [] H' s2.heap.objs.size:=λ{H'} hn=>by
  refine ⟨hn,hDC,λz=>?_,.inr (Nat.le_refl _),λx c ec z=>?_,λp hp=>by simp at hp⟩
  ·obtain ⟨_,o,ho,_⟩:=I2.stack.mem z
   exact absurd (Heap.lt_size ho) (Nat.lt_irrefl _)
  ·rcases qX B ec with ⟨_,y⟩ | y
   ·exact gk hCD y z
   ·have:=W1 I2 y
    rw [z] at this
    exact Nat.lt_irrefl _ this
 have ue:∀ b∈fp,b≠s2.heap.objs.size:=λb hb=>Nat.ne_of_lt (hlt b hb)
 have IY':zH (yN X scope (zY own caps) HD.objs.size s2 H2 fp) [(s2.heap.objs.size,yZ [] 0)] (wA own caps σ) H2 { s2 with heap:=h4 }:=
  IY.pins_of λp hp=>by
   rw [List.mem_singleton.mp hp]
   have z:=statD (I2.hok.fresh (Nat.le_refl _))
   exact ⟨hD4,z.1,z.2.1,z.2.2.1,λv z=>by cases z⟩
 have loop:∀ s3:Shared,s3={ s2 with heap:=h4 }->
   codeAny (model X.prog X.w) X.A (.compLoop (.ListComp elt [⟨tg,iter,[cond],0⟩] scope pos) 0 (.ref it) (.ref s2.heap.objs.size) (compEnvC scope (cellsFrom (HD.objs.size + 1) scope.names (x9 scope X.env)) HD.objs.size X.env))
    (RR (.ref s2.heap.objs.size) HD.objs.size) s3:=by
  rintro s3 rfl
  refine zIT (λn s'=>∃ i ys σ' H' its k,zH (yN X scope (zY own caps) HD.objs.size s2 H2 fp) [(s2.heap.objs.size,yZ its k)] σ' H' s'/\tn i s'.heap/\(∀ b∈fp,H' b=none)∧
   zN ys its/\ys.length<=sizeLine/\W i n ys σ' H') ?_ m0 ⟨0,[],_,H2,[],0,IY',T.keep _ _ _ st2 λb hb o eb=>old b o eb,λb hb=>(f2 b hb).1,.nil,Nat.zero_le _,w0⟩
  rintro n s5 ⟨i,ys,σ5,H5,its,k,I5,st5,fr5,rv5,hz5,w5⟩
  have stat5:∀ {H':Hp},(∀ b∈fp,H' b=none)->∀ b∈fp,yL (yN X scope (zY own caps) HD.objs.size s2 H2 fp) [(s2.heap.objs.size,yZ its k)] H' b:=λ{H'} hn b hb=>by
   obtain ⟨a1,a2,a3,a4,a5,_⟩:=stat hn b hb
   refine ⟨a1,a2,a3,a4,a5,λp hp=>?_⟩
   have hp':p∈[(s2.heap.objs.size,yZ its k)]:=hp
   rw [List.mem_singleton.mp hp']
   exact Ne.symm (ue b hb)
  rcases turn i n ys σ5 H5 w5 with ⟨stop,qn⟩ | ⟨go,hlen,N,N0,hN,hN0,step⟩
  ·refine zg (T.done (yN X scope (zY own caps) HD.objs.size s2 H2 fp) rfl rfl rfl hc i _ s5 σ5 H5 _ I5 (stat5 fr5) st5 stop) λr s6 ⟨hr,I6⟩=>?_
   subst hr
   obtain ⟨pD1,pD2,_⟩:=I6.pin (s2.heap.objs.size,yZ its k) (List.mem_append_right _ List.mem_cons_self)
   obtain ⟨m6,hn6,_⟩:=I6.loc
   refine hRR _ _ s6 H5 ys m6 hn6 (by omega) (λh' sb=>?_) (by rw [zp (Ne.symm hDC)]; exact I6.free) (qn _ pD2)
   have hC5:H5 HD.objs.size=none:=I6.free
   have nb:∀ b o,s2.heap.get? b=some o->b≠HD.objs.size/\b≠s2.heap.objs.size:=λb o eb=>by
    have hb:=Heap.lt_size eb
    exact ⟨Nat.ne_of_lt (Nat.lt_of_lt_of_le hb hle),Nat.ne_of_lt hb⟩
   have nt:∀ b o,H5 b=some o->b≠s2.heap.objs.size:=λb o eb z=>by rw [z] at eb; rw [show H5 s2.heap.objs.size=none from pD2] at eb; cases eb
   have un:Un (wt X.stack) fp H2 (za H5 s2.heap.objs.size (.lst ys)) s2.heap h':=
    ⟨λb o eb n1 n2 n3=>sb.extBut b o (nb b o eb).1 (I6.base.keep b o eb n1 n2 n3),
     λb o eb n1 n2 n3=>by
      obtain ⟨sl,e1⟩:=I6.base.slot b o eb n1 n2 n3
      exact ⟨sl,sb.extBut b _ (nb b o eb).1 e1⟩,
     λb o eb n1 n3=>by
      rw [zp (nb b o eb).2]
      exact I6.base.free b o eb n1 n3,
     λb o eb n3=>by
      obtain ⟨o',e1⟩:=I6.base.there b o eb n3
      exact ⟨o',sb.extBut b _ (nb b o eb).1 e1⟩,
     λb xs eb=>by
      have e1:=I6.base.tups b xs eb
      rw [zp (nt b _ e1)]
      exact e1,
     λb o u eb=>by
      have e1:=I6.base.frzs b o u eb
      rw [zp (nt b _ e1)]
      exact e1,
     λb ps eb=>by
      obtain ⟨more,e1⟩:=I6.base.tbls b ps eb
      refine ⟨more,?_⟩
      rw [zp (nt b _ e1)]
      exact e1⟩
   have ok5:xB X.prog X.w (za H5 s2.heap.objs.size (.lst ys)) h':=λb u eb=>by
    by_cases hb:b=s2.heap.objs.size
    ·subst hb
     rw [wK] at eb
     cases eb
     exact ⟨hz5,its,k,rv5,sb.extBut _ _ hDC pD1⟩
    ·rw [zp hb] at eb
     refine (I6.hok b u eb).stay (λc v hcv ev=>sb.extBut c v ?_ ev) (λc ec=>by rw [zp (nt c _ ec)]; exact ec) λc xs ec=>by rw [zp (nt c _ ec)]; exact ec
     rintro rfl
     rcases hcv with z | z
     ·rw [<- z,hC5] at eb
      cases eb
     ·rw [hC5] at z
      cases z
   exact I2.call' (s':={ s6 with heap:=h' }) (ch:=fp) I6.os un ok5 I6.bare λb hb=>⟨(f2 b hb).2.2.2.1,(f2 b hb).2.1,(f2 b hb).2.2.2.2.1,(f2 b hb).2.2.2.2.2⟩
  ·refine zg (T.item (yN X scope (zY own caps) HD.objs.size s2 H2 fp) rfl rfl rfl hc i _ s5 σ5 H5 _ I5 (stat5 fr5) st5 go) λr s6 ⟨u,hr,h6⟩=>?_
   subst hr
   refine zg h6 λ_ s7 ⟨x,H7,I7,r7,y7,st7,fr7⟩=>?_
   have I7':=I7.pinned (stat5 fr7) (T.obj _ _ st7)
   refine zg (hg HD.objs.size s2 H2 fp _ s7 σ5 H7 x u _ I7' r7 (step x H7 y7)) λ_ s8 ⟨σ8,H8,I8,q8⟩=>?_
   refine zg (ht HD.objs.size s2 H2 fp _ s8 σ8 H8 _ I8 q8) λok sT ⟨HT,IT,qT⟩=>?_
   cases ok with
   | false=>
    obtain ⟨m',hm',w9⟩:=hN0 σ8 HT qT
    refine ⟨m',hm',i + 1,ys,σ8,HT,its,k,IT.unpinned,?_,λb hb=>?_,rv5,hz5,w9⟩
    ·refine T.keep _ _ _ st7 λb hb o eb=>?_
     exact (IT.pin (b,o) (List.mem_append_right _ (List.mem_append_right _ (uw hb eb)))).1
    ·obtain ⟨o,eb,_⟩:=T.obj _ _ st7 b hb
     exact (IT.pin (b,o) (List.mem_append_right _ (List.mem_append_right _ (uw hb eb)))).2.1
   | true=>
    refine zg (he HD.objs.size s2 H2 fp _ sT σ8 HT _ IT qT) λyv s9 ⟨y,H9,I9,r9,n9⟩=>?_
    obtain ⟨m',hm',w9⟩:=hN y σ8 H9 n9
    have pD9:=(I9.pin (s2.heap.objs.size,yZ its k) (List.mem_append_right _ (List.mem_append_left _ List.mem_cons_self))).2.1
    have hl:its.length=ys.length:=rv5.length.symm
    refine KJ (Y:=yN X scope (zY own caps) HD.objs.size s2 H2 fp) (its:=its) (k:=k) (pl:=qO fp s7.heap) I9 (statD pD9) rfl (by omega) λh' k' tk keep I'=>?_
    refine ⟨m',hm',i + 1,ys++[y],σ8,H9,its++[yv],k',I',?_,λb hb=>?_,rv5.append (.cons r9 .nil),?_,w9⟩
    ·refine T.keep _ _ _ st7 λb hb o eb=>keep b o (ue b hb) ?_
     exact (I9.pin (b,o) (List.mem_append_right _ (List.mem_append_right _ (uw hb eb)))).1
    ·obtain ⟨o,eb,_⟩:=T.obj _ _ st7 b hb
     exact (I9.pin (b,o) (List.mem_append_right _ (List.mem_append_right _ (uw hb eb)))).2.1
    ·rw [List.length_append,List.length_singleton]
     omega
 exact codeAny_compStart_list (loop _ rfl) (T.self _ 0 _ _ _ (T.keep _ _ _ st2 λb hb o eb=>old b o eb) (loop _ rfl))
theorem KS {i:Nat} {y:Str} {py spos:Pos} (hN:X.N.Nodup) (hy:X.N[i]? = some y) (hl:X.env.scope.names.lookup y=some .local) (B:vQ X scope own caps) (hc:X.calm=true) (hi:PI X tg iter wi) (hg:∀ C s₀ H₀ ex,PG (yN X scope (zY own caps) C s₀ H₀ ex) tg g)
  (ht:∀ C s₀ H₀ ex,PT (yN X scope (zY own caps) C s₀ H₀ ex) cond tc) (he:∀ C s₀ H₀ ex,PE (yN X scope (zY own caps) C s₀ H₀ ex) elt te) (hsw:swapsWith (.ListComp elt [⟨tg,iter,[cond],0⟩] scope pos) (some (.Name y py)) spos.line X.env=pure true) (hs:∀ x,foldedSetIterable iter X.env x=pure x:=by intro _; rfl) :
  PS X (.Assign [.Name y py] (.ListComp elt [⟨tg,iter,[cond],0⟩] scope pos) spos) (v4 (zPS own caps wi g tc te) (gL i)):=by
 intro pins s σ H D0 I h
 rw [exec_Assign_Name_used _ _ _ _ hsw]
 refine wpAny_bind (wpAny_standAt (wpAny_bind ?_))
 change wpAny _ X.A (do let _ <- comprehension (.ListComp elt [⟨tg,iter,[cond],0⟩] scope pos) scope X.env _ (newList []) false (eval iter X.env) (some (assign (.Name y py) X.env))) _ _ s
 refine wpAny_bind (wpAny_mono (wpAny_comprehension_free (use:=some (assign (.Name y py) X.env)) (Q:=λ_ s'=>SP X pins D0 .next s') rfl hs (Ww B.free) B.kind B.locs ?_) (λ_ s' hq=>wpAny_pure (wpAny_pure hq)) λ_ _ e=>e)
 refine zg (hi pins s σ H _ I h) λxv s1 h1=>zg h1 λitv s2 h2=>?_
 obtain ⟨it,fp,tn,J,H2,e,I2,T,st2,f2,W,⟨m0,w0⟩,turn⟩:=h2
 subst e
 refine zIU (Q:=λx H1=>D0.nx (σ.set i (some x)) H1) (RR:=λacc C=>compPost (model X.prog X.w) X.A X.xe (some (assign (.Name y py) X.env)) (λ_ s'=>SP X pins D0 .next s') acc C) B hc hg ht he I2 T st2 f2 w0 turn λD C s6 H6 ys m hn hC J6 hC6 q=>?_
 have I6:zH X pins σ (za H6 D (.lst ys)) s6:=J6 s6.heap (.refl ..)
 have CL:C≠X.env.locals:=λz=>by rw [z] at hC; exact absurd (Nat.lt_of_lt_of_le I2.lt hC) (Nat.lt_irrefl _)
 have CC:∀ x c,X.env.cells.lookup x=some c->c≠C:=λx c ec z=>by
  obtain ⟨v,o,ho,_⟩:=I2.cell x c ec
  rw [z] at ho
  exact absurd (Nat.lt_of_lt_of_le (Heap.lt_size ho) hC) (Nat.lt_irrefl _)
 have CP:∀ p∈X.pn++pins,p.1≠C:=λp hp z=>by
  have hl:=Heap.lt_size (I2.pin p hp).1
  rw [z] at hl
  exact absurd (Nat.lt_of_lt_of_le hl hC) (Nat.lt_irrefl _)
 change wpAny _ X.A (assign (.Name y py) X.env (.ref D)) _ _ s6
 refine wpAny_assign_Name (WL I6 hN hy (.inl hl) (v:=.ref D) rfl (λs7 I7 ⟨a,sb,ha⟩=>?_) (.inr hl))
 have aC:C≠a:=λz=>by
  rcases ha with e | e
  ·exact CL (z.trans e)
  ·exact CC _ _ e z.symm
 refine ⟨m,hn.sameBut sb aC,λh' sb'=>⟨_,_,I7.turned (h':=h') (t':=s7.toks) (it:=C) (λb o hb eb=>sb'.extBut b o hb eb) hC6 CL (.inr (Nat.le_trans I2.sz hC)) CC CP,q⟩⟩
end
theorem yC {X:Cx} {scope S:Scope} {own N:List Str} {caps:List (Nat × Str)} (k:scope.kind=.function) (nd:(scope.names.map (·.1)).Nodup)
  (hS:X.env.scope=S) (hc:∃ n,X.env.cells=cellsFrom n S.names []) (hN:X.N=N) (fr:scope.names.all (λy=>y.2 != .free || S.names.lookup y.1 == some .cell)=true)
  (cp:caps.all (λp=>N[p.1]? == some p.2 && scope.names.lookup p.2 == some .free && S.names.lookup p.2 == some .cell)=true):vQ X scope own caps:=by
 obtain ⟨nn,hc⟩:=hc
 refine ⟨k,nd,λy hy e=>?_,λy hy e=>?_,λp hp=>?_⟩
 ·exact qW nd (by rw [<- e]; exact hy)
 ·have q:=List.all_eq_true.mp fr y hy
  rw [e] at q
  have q2:S.names.lookup y.1=some .cell:=by simpa using q
  rw [hc]
  exact PySem.W.cellsFrom_some S.names nn [] (.inl q2)
 ·have q:=List.all_eq_true.mp cp p hp
  simp only [Bool.and_eq_true,beq_iff_eq] at q
  refine ⟨by rw [hN]; exact q.1.1,q.1.2,.inl ?_⟩
  show X.env.scope.names.lookup p.2=some .cell
  rw [hS]
  exact q.2
theorem Yn {Y:Cx} {scope S:Scope} {own own0:List Str} {caps caps0:List (Nat × Str)} {C:Addr} {s₀:Shared} {H₀:Hp} {ex:List Addr} (k:scope.kind=.function) (nd:(scope.names.map (·.1)).Nodup)
  (ndS:(S.names.map (·.1)).Nodup) (fr:scope.names.all (λy=>y.2 != .free || S.names.lookup y.1 == some .cell || S.names.lookup y.1 == some .free)=true)
  (cp:caps.all (λp=>(zY own0 caps0)[p.1]? == some p.2 && scope.names.lookup p.2 == some .free)=true):vQ (yN Y S (zY own0 caps0) C s₀ H₀ ex) scope own caps:=by
 have fr':∀ y∈scope.names,y.2=.free->S.names.lookup y.1=some .cell\/S.names.lookup y.1=some .free:=λy hy e=>by
  have q:=List.all_eq_true.mp fr y hy
  rw [e] at q
  simpa using q
 refine ⟨k,nd,λy hy e=>?_,λy hy e=>?_,λp hp=>?_⟩
 ·exact qW nd (by rw [<- e]; exact hy)
 ·show ((cellsFrom (C + 1) S.names (x9 S Y.env)).lookup y.1).isSome=true
  refine PySem.W.cellsFrom_some _ _ _ ?_
  rcases fr' y hy e with z | z
  ·exact .inl z
  ·obtain ⟨c,e⟩:=Wx (env:=Y.env) (qS z)
   exact .inr (by rw [e]; rfl)
 ·have q:=List.all_eq_true.mp cp p hp
  simp only [Bool.and_eq_true,beq_iff_eq] at q
  refine ⟨q.1,q.2,?_⟩
  show (relabel S Y.env).names.lookup p.2=some .cell\/(relabel S Y.env).names.lookup p.2=some .free
  rw [KG]
  rcases fr' _ (qS q.2) rfl with z | z
  ·left
   show (S.names.lookup p.2).map _=_
   rw [z]
   rfl
  ·show (S.names.lookup p.2).map _=_\/(S.names.lookup p.2).map _=_
   rw [z,Option.map_some]
   split
   ·exact .inl rfl
   ·exact .inr rfl
end L2
namespace Sh
open PySem L2
theorem xJ {H:Hp} {p:Addr} (h:H p=none) (o:HO):zF H (za H p o):=λb u q=>by rw [zp (xZ q h)]; exact q
def Tp (H:Hp) (v:V) (xs:List V):Prop:=∃ a,v=.ref a/\H a=some (.tup xs)
theorem jX {α β:Type} {R:α->β->Prop} {x:α} {y:β} (r:R x y):∀ {xs:List α} {ys:List β},Paired R xs ys->Paired R (xs++[x]) (ys++[y])
 | _,_,.nil=>.cons r .nil
 | _,_,.cons q t=>.cons q (jX r t)
theorem gm {α β:Type} {R:α->β->Prop}:∀ {xs zs:List α} {ys us:List β},Paired R xs ys->Paired R zs us->Paired R (xs++zs) (ys++us)
 | _,_,_,_,.nil,h=>h
 | _,_,_,_,.cons q t,h=>.cons q (gm t h)
theorem uz {α:Type} {l:List α} {i:Nat} {x:α} (h:l[i]? = some x):l.take (i + 1)=l.take i++[x]:=by
 obtain ⟨hi,e⟩:=List.getElem?_eq_some_iff.mp h
 rw [List.take_succ_eq_append_getElem hi,e]
abbrev gn (H:Hp) (vs:List V) (ks:List (List Int)):Prop:=Paired (λv (k:List Int)=>Tp H v (k.map V.int)) vs ks
end Sh
namespace L2
open PySem PySem.Spec PyProof.Rows
def gp (K:PySem.W.Frag) (a b:Addr):It:=
 ⟨λi H=>∃ xs ys x y,zW K H a xs/\zW K H b ys/\xs[i]? = some x/\ys[i]? = some y,
  λi H v H'=>∃ T x y,v=.ref T/\H T=none/\H'=za H T (.tup [x,y])/\(∀ xs,zW K H a xs->xs[i]? = some x)/\∀ ys,zW K H b ys->ys[i]? = some y,
  λi H=>∃ xs ys,zW K H a xs/\zW K H b ys/\i<=xs.length/\i<=ys.length/\(i=xs.length\/i=ys.length)⟩
theorem zKE {P:Program} {w:World} {K:PySem.W.Frag} {es:List Expr} {kk:Nat} {tp:Pos} {a b z TI TO i1 i2:Addr} (Z:Zp z TI TO i1 i2 [i1,a] [i2,b]) (na:a≠i1) (nb:b≠i2) :
  xN P w K (.Tuple es kk tp) (gp K a b) [z,TI,TO,i1,i2] z (λi h=>IsZip h z TI TO .none/\IsPair h TI (.ref i1) (.ref i2)/\(∃ x y,IsPair h TO x y)/\h.IsListIter i1 a i/\h.IsListIter i2 b i) where
 mem:=by simp
 obj:=λi h ⟨t1,t2,⟨x,y,t3⟩,t4,t5⟩ c hc=>by
  simp only [List.mem_cons,List.not_mem_nil,or_false] at hc
  rcases hc with rfl | rfl | rfl | rfl | rfl
  ·exact ⟨_,t1,wL⟩
  ·exact ⟨_,t2,uN⟩
  ·exact ⟨_,t3,uN⟩
  ·obtain ⟨o,e,_,d⟩:=t4
   exact ⟨o,e,by rw [d]; exact wL⟩
  ·obtain ⟨o,e,_,d⟩:=t5
   exact ⟨o,e,by rw [d]; exact wL⟩
 keep:=λi h h' ⟨t1,t2,⟨x,y,t3⟩,t4,t5⟩ k=>⟨k z (by simp) _ t1,k TI (by simp) _ t2,⟨x,y,k TO (by simp) _ t3⟩,(by obtain ⟨o,e,r⟩:=t4; exact ⟨o,k i1 (by simp) o e,r⟩),(by obtain ⟨o,e,r⟩:=t5; exact ⟨o,k i2 (by simp) o e,r⟩)⟩
 item:=by
  intro X hP hw hK hc i pins s σ H E I hf ⟨t1,t2,⟨x0,y0,t3⟩,t4,t5⟩ hg
  subst hP hw hK
  obtain ⟨xs,ys,x,y,hq1,hq2,hx,hy⟩:=hg
  obtain ⟨its1,rv1,p1,_⟩:=I.list hq1
  obtain ⟨its2,rv2,p2,_⟩:=I.list hq2
  obtain ⟨u,hu,ru⟩:=rv1.get hx
  obtain ⟨v,hv,rv⟩:=rv2.get hy
  have hh:X.A.in1.handled=none:=I.ok.hd hc
  have l1:i < its1.toArray.size:=by rw [List.size_toArray]; exact (List.getElem?_eq_some_iff.mp hu).1
  have l2:i < its2.toArray.size:=by rw [List.size_toArray]; exact (List.getElem?_eq_some_iff.mp hv).1
  refine Yg (Draws.list hh i1 a na its1.toArray) (Draws.list hh i2 b nb its2.toArray) Z t1 t2 t3 ⟨t4,p1.isList⟩ ⟨t5,p2.isList⟩ l1 l2 ?_
  intro x' y' h1 tk px py z1 z2 z3 z4 z5 z6 keep
  have ex:x'=u:=by
   have q:its1.toArray[i]? = some x':=px
   simp only [List.getElem?_toArray] at q
   rw [hu] at q
   exact (Option.some.inj q).symm
  have ey:y'=v:=by
   have q:its2.toArray[i]? = some y':=py
   simp only [List.getElem?_toArray] at q
   rw [hv] at q
   exact (Option.some.inj q).symm
  subst ex ey
  refine ⟨_,rfl,wpAny_letOwnedTupleGo_zip (s:={ s with heap:=h1,toks:=tk }) z1 λh2 z7 sb=>?_⟩
  have zlt:z < s.heap.objs.size:=Heap.lt_size t1
  have keep2:∀ c o,c∉[z,TI,TO,i1,i2]->s.heap.get? c=some o->h2.get? c=some o:=λc o hc e=>by
   simp only [List.mem_cons,List.not_mem_nil,or_false,not_or] at hc
   exact sb.extBut c o hc.1 (keep c o hc.1 hc.2.2.1 hc.2.2.2.1 hc.2.2.2.2 e)
  have pT:IsPair h2 s.heap.objs.size x' y':=sb.extBut _ _ (Nat.ne_of_gt zlt) z6
  have I':=I.turnT (h':=h2) (tk:=tk) (ch:=[z,TI,TO,i1,i2]) (x:=x) (y:=y) hf keep2 (Nat.le_refl _) pT ru rv
  refine ⟨.ref s.heap.objs.size,_,I',rfl,⟨s.heap.objs.size,x,y,rfl,I.hok.fresh (Nat.le_refl _),rfl,λxs' q=>by rw [I.list_inj q hq1]; exact hx,λys' q=>by rw [I.list_inj q hq2]; exact hy⟩,
   ⟨z7,sb.extBut _ _ Z.a1 z2,⟨_,_,sb.extBut _ _ Z.a2 z3⟩,z4.1.extBut sb.extBut Z.a3,z5.1.extBut sb.extBut Z.a4⟩,λc hc=>?_⟩
  have:=(hf c hc).1
  rw [zp]
  ·exact this
  ·intro q
   obtain ⟨o,e,_⟩:∃ o,s.heap.get? c=some o/\True:=by
    simp only [List.mem_cons,List.not_mem_nil,or_false] at hc
    rcases hc with rfl | rfl | rfl | rfl | rfl
    ·exact ⟨_,t1,trivial⟩
    ·exact ⟨_,t2,trivial⟩
    ·exact ⟨_,t3,trivial⟩
    ·obtain ⟨o,e,_⟩:=t4; exact ⟨o,e,trivial⟩
    ·obtain ⟨o,e,_⟩:=t5; exact ⟨o,e,trivial⟩
   rw [q] at e
   exact absurd (Heap.lt_size e) (Nat.lt_irrefl _)
 done:=by
  intro X hP hw hK hc i pins s σ H E I hf ⟨t1,t2,⟨x0,y0,t3⟩,t4,t5⟩ hg
  subst hP hw hK
  obtain ⟨xs,ys,hq1,hq2,e1,e2,e3⟩:=hg
  obtain ⟨its1,rv1,p1,_⟩:=I.list hq1
  obtain ⟨its2,rv2,p2,_⟩:=I.list hq2
  have hh:X.A.in1.handled=none:=I.ok.hd hc
  have n1:its1.toArray.size=xs.length:=by rw [List.size_toArray]; exact rv1.length.symm
  have n2:its2.toArray.size=ys.length:=by rw [List.size_toArray]; exact rv2.length.symm
  refine Yh (Draws.list hh i1 a na its1.toArray) (Draws.list hh i2 b nb its2.toArray) Z t1 t2 t3 ⟨t4,p1.isList⟩ ⟨t5,p2.isList⟩ (by omega) (by omega) (by omega) ?_
  intro h1 tk keep
  refine ⟨rfl,I.turnN (h':=h1) (tk:=tk) (ch:=[z,TI,TO,i1,i2]) hf λc o hc e=>?_⟩
  simp only [List.mem_cons,List.not_mem_nil,or_false,not_or] at hc
  exact keep c o hc.1 hc.2.2.1 hc.2.2.2.1 hc.2.2.2.2 e
 self:=λ_ _ _ _ _ st h=>wpAny_pyIter_zip st.1 h
section
variable {X:Cx} {es:List Expr} {kk:Nat} {tp:Pos}
end
end L2
namespace L2
open PySem PySem.Spec PyProof.Rows
section
variable {X:Cx}
def gq (K:PySem.W.Frag):R2:=λx y H Q=>∃ d e:PyData,Dp K H x d/\Dp K H y e/\d.canLay0=true/\e.canLay0=true/\d.depth<=60/\e.depth<=60/\Q (.bl (PyData.eqv d e)) H
theorem KT (hu:X.A.units + 64 < cLine):yn X (compareOp .Eq) (gq X.K):=by
 intro pins s σ H x y v u Q I rx ry h
 obtain ⟨d,e,hx,hy,hc,hc',hd,hd',q⟩:=h
 obtain ⟨_,r1⟩:=hx.reads I rx
 obtain ⟨_,r2⟩:=hy.reads I ry
 exact SeqAt.compareEq_reads r1 r2 hc hc' (by omega) ⟨.bl _,H,I,rfl,q⟩
end
end L2
namespace Sh
open PySem L2
theorem KU:∀ ns ms:List Int,PyData.eqvAll (ns.map PyData.int) (ms.map PyData.int)=decide (ns=ms)
 | [],[]=>by simp [PyData.eqvAll]
 | [],_ :: _=>by simp [PyData.eqvAll]
 | _ :: _,[]=>by simp [PyData.eqvAll]
 | a :: r,b :: t=>by
  have ih:=KU r t
  simp only [List.map_cons,PyData.eqvAll,PyData.eqv,ih,List.cons.injEq]
  by_cases h1:a=b <;> by_cases h2:r=t <;> simp [h1,h2]
structure vF (ws:List Int) (n:Nat):Prop where
 len:ws.length=n
 bd:∀ w∈ws,Bd 1000 w
def vm (rows:List (List Int)) (nums:List Int) (j:Nat):Int:=((rows.zip nums).map λp=>p.1.getD j 0 * p.2).sum
def qY (rows:List (List Int)) (tw:List Int) (o:Int) (nums:List Int) (n:Nat):Bool:=
 if o=0 then ((List.range n).map (vm rows nums)).all (λx=>decide (x=0)) && decide (vm rows nums n < 0)
 else decide ((List.range n).map (vm rows nums)=(tw.take n).map (o * ·)) && decide (vm rows nums n<=o * tw.getD n 0)
def KW (n:Nat) (c:Nat->Int) (r:List Int):Int:=((List.range n).map λi=>r.getD i 0 * c i).sum
end Sh
namespace L2
open PySem PySem.Spec PyProof.Rows
theorem KY {c x y:Addr} (h:c∉[x,y]):c≠x/\c≠y:=by
 simp only [List.mem_cons,List.not_mem_nil,or_false,not_or] at h
 exact h
section
variable {X:Cx} {es:List Expr} {kk:Nat} {tp:Pos}
end
end L2
namespace L2
open PySem PySem.Spec PyProof.Rows
section
variable {prog:Program} {w:World} {A:Around} {E:Value->Shared->Prop} {s:Shared}
theorem zJJ {T nw ini:String} {B1 B2:Builtin} {xs:List Value} {kw:List (Str × Value)} {S:PySem.Spec} {Q R1:Value->Shared->Prop} (ft:TypeCalled T nw ini)
  (c1:checkTypeCall T ⟨xs,kw⟩=pure ()) (c2:checkBuiltinCall nw ⟨.type T :: xs,kw⟩=pure ())
  (e1:entryFor table nw=some B1) (e2:entryFor table ini=some B2) (m1:Meets (B1 ⟨.type T :: xs,kw⟩) S)
  (hS:S A.in1 (wants R1 E) s)
  (nxt:∀ o s1,R1 o s1->s1.TypeIs o T/\argsOk ini ⟨o :: xs,kw⟩/\∃ S2,Meets (B2 ⟨o :: xs,kw⟩) S2/\S2 A.in1 (wants (λr s2=>r=.none/\Q o s2) E) s1) :
  wpAny (model prog w) A (call (.type T) xs kw) Q E s:=by
 obtain ⟨c,tl,k1⟩:=ft.mro
 have k2:=ft.made
 have k3:=ft.sub
 have k4:=ft.notType
 have k5:=ft.canCreate
 refine wpAny_call (codeAny_of_tree ?_)
 show wpAny _ _ (callAny (.type T) _) _ _ _
 refine wpAny_pure ⟨Code.quiet_builtin _ (by decide +kernel),codeAny_builtin F.entry_type_call ?_⟩
 rw [Around.under_plain (weight_type_call_type T xs kw) (units_type_call_type T xs kw)]
 repeat (any_goals (first | assumption | wp_step))
 refine codeAny_mono (codeAny_call_builtin ft.plain e1 (wpAny_of_eq c2 (m1 prog w A.in1 _ s hS))) λr s1 z=>?_
 cases r with
 | error e=>exact z
 | ok fl=>
  cases fl with
  | ret o=>
   obtain ⟨hT,ok,S2,m2,z2⟩:=nxt _ _ z
   have l1:=ft.init.lookup
   have l2:=ft.init.bind o
   repeat (any_goals (first | assumption | wp_step))
   refine codeAny_mono (codeAny_call_builtin ft.init.plain e2 (ft.init.check _ _ _ _ _ _ _ _ hT ok (m2 prog w A.in1 _ s1 z2))) λr2 s2 y=>?_
   cases r2 with
   | error e=>exact y
   | ok fl2=>
    cases fl2 with
    | ret r=>
     obtain ⟨rfl,y⟩:=y
     repeat (any_goals (first | assumption | wp_step))
    | _=>exact y.elim
  | _=>exact z.elim
theorem zM7 {T nw:String} {o a:Value} {kw:List (Str × Value)} (h1:typeLookup (.type T) "__init__" = pure (some (.builtin "object.__init__")))
  (h2:Bind.madeBy (.type T)=pure (some nw)) (h3:(some nw != some "object.__new__")=true) :
  Meets (Builtin.«object.__init__» ⟨[o,a],kw⟩) (λ_ R s=>s.TypeIs o T/\R (.ok (.ret .none)) s):=by
 refine Meets.of_wp λprog w A R s z=>?_
 obtain ⟨hT,q⟩:=z
 repeat (any_goals (first | assumption | wp_step))
 exact ⟨_,rfl,q⟩
theorem zM8 (o a v:Value):argsOk "object.__init__" ⟨[o,a],[("start",v)]⟩:=by
 unfold argsOk
 rw [signature?_of (id:="object.__init__") (n:=['_','_','t','i','n','i','_','_'])
  (o:=['t','c','e','j','b','o']) (by kernel_rfl) F.owner_object]
 kernel_rfl
theorem zQw (a v:Value):checkTypeCall "enumerate" ⟨[a],[("start",v)]⟩=pure ():=by kernel_rfl
theorem zQx (a v:Value):checkBuiltinCall "enumerate.__new__" ⟨[.type "enumerate",a],[("start",v)]⟩=pure ():=by kernel_rfl
end
open AutoSeq1 in
theorem zIK (l:Addr) (its:Array Value) (m:Nat) (dct:Option Addr) (sl:Array (Option Value)) (n:Int) (tn:Tok) (fit:Builtin.SmallTypes.fitsIndex n=true) :
  Meets (Builtin.«enumerate.__new__» ⟨[.type "enumerate",.ref l],[("start",.int n tn)]⟩) (λ_ R s=>s.heap.get? l=some { cls:=.type "list",dict:=dct,data:=.seq its m,slots:=sl }∧
   R (.ok (.ret (.ref (s.heap.push { cls:=.type "list_iterator",data:=.fields #[.ref l,.int 0 0] }).objs.size)))
    { s with heap:=(s.heap.push { cls:=.type "list_iterator",data:=.fields #[.ref l,.int 0 0] }).push { cls:=.type "enumerate",data:=.fields #[.none,.bool false,.ref s.heap.objs.size,rawInt n,.none,.none] } }):=
 .of_wp λprog w A R s z=>by
  obtain ⟨hp,g,d,tk,os⟩:=s
  obtain ⟨e1,z⟩:=z
  have k0:=sub_enumerate
  have k1:Heap.IsList (Shared.heap ⟨hp,g,d,tk,os⟩) l its:=⟨_,e1,rfl,m,rfl⟩
  wp_walk using wpAny_loadPart' e1
  refine wpAny_stack_any λst=>wpAny_pure ?_
  split
  ·rename_i c _ _ _ _ _
   cases (c == Value.type "enumerate")
   ·wp_walk using wpAny_loadPart' e1,wpAny_pyIter_list k1
    simp only [fit,Bool.not_true,Bool.false_eq_true,if_false]
    wp_walk using wpAny_loadPart' e1,wpAny_pyIter_list k1
    exact ⟨_,rfl,z⟩
   ·wp_walk using wpAny_loadPart' e1,wpAny_pyIter_list k1
    simp only [fit,Bool.not_true,Bool.false_eq_true,if_false]
    wp_walk using wpAny_loadPart' e1,wpAny_pyIter_list k1
    exact ⟨_,rfl,z⟩
  ·wp_walk using wpAny_loadPart' e1,wpAny_pyIter_list k1
   simp only [fit,Bool.not_true,Bool.false_eq_true,if_false]
   wp_walk using wpAny_loadPart' e1,wpAny_pyIter_list k1
   exact ⟨_,rfl,z⟩
section
variable {prog:Program} {w:World} {A:Around} {E:Value->Shared->Prop} {s:Shared}
theorem zJz {l:Addr} {its:Array Value} {n:Int} {tn:Tok} {Q:Value->Shared->Prop} (hL:s.heap.IsList l its) (fit:Builtin.SmallTypes.fitsIndex n=true)
  (k:∀ g,IsEnum g (s.heap.objs.size + 1) s.heap.objs.size n .none->g.IsListIter s.heap.objs.size l 0->
   (∀ b o,s.heap.get? b=some o->g.get? b=some o)->Q (.ref (s.heap.objs.size + 1)) { s with heap:=g }) :
  wpAny (model prog w) A (call (.type "enumerate") [.ref l] [("start",.int n tn)]) Q E s:=by
 obtain ⟨⟨c,dc,dt,sl⟩,el,ec,m,ed⟩:=hL
 replace ec:c=.type "list":=ec
 replace ed:dt=.seq its m:=ed
 subst ec ed
 refine zJJ (R1:=λo s1=>s1.TypeIs o "enumerate"/\Q o s1) F.called_enumerate (zQw _ _) (zQx _ _) F.entry_enumerate_new F.entry_object_init
  (zIK l its m dc sl n tn fit) ⟨el,?_⟩ (λo s1 q=>⟨q.1,zM8 o _ _,_,zM7 F.called_enumerate.init.lookup F.called_enumerate.made (by decide),q.1,rfl,q.2⟩)
 have sz:(s.heap.push { cls:=.type "list_iterator",data:=.fields #[.ref l,.int 0 0] }).objs.size=s.heap.objs.size + 1:=
  Heap.size_push ..
 show _/\_
 rw [sz]
 have ee:IsEnum ((s.heap.push { cls:=.type "list_iterator",data:=.fields #[.ref l,.int 0 0] }).push
   { cls:=.type "enumerate",data:=.fields #[.none,.bool false,.ref s.heap.objs.size,rawInt n,.none,.none] }) (s.heap.objs.size + 1) s.heap.objs.size n .none:=by
  have y:=Heap.get?_push_size (s.heap.push { cls:=.type "list_iterator",data:=.fields #[.ref l,.int 0 0] })
   (o:={ cls:=.type "enumerate",data:=.fields #[.none,.bool false,.ref s.heap.objs.size,rawInt n,.none,.none] }) rfl
  rw [sz] at y
  exact y
 exact ⟨⟨_,ee,rfl⟩,k _ ee ⟨_,Heap.get?_push_of_some _ (Heap.get?_push_size _ rfl),rfl,rfl⟩ λb o x=>Heap.get?_push_of_some _ (Heap.get?_push_of_some _ x)⟩
theorem KZ {it l:Addr} {its:Array Value} (k:Nat) (hh:A.handled=none) (ne:l≠it) :
  Draws prog w A it [it,l] (k + its.size) (λj x=>its[j - k]? = some x) (λj h=>k<=j/\h.IsListIter it l (j - k)/\h.IsList l its) where
 live:=λj h ⟨_,⟨o,e,_⟩,_⟩=>⟨o,e⟩
 frame:=λj h h' ⟨a,⟨o,e,r⟩,⟨o2,e2,r2⟩⟩ kp=>⟨a,⟨o,kp it (by simp) o e,r⟩,⟨o2,kp l (by simp) o2 e2,r2⟩⟩
 item:=λj s Q E lt ⟨le,hi,hl⟩ kQ=>by
  have jl:j - k < its.size:=by omega
  refine wpAny_nextOf_list_item hi hl (x:=its[j - k]) (by simp [jl]) λg gi same=>?_
  refine kQ _ g s.toks (by simp [jl]) ⟨by omega,?_,hl.extBut same.extBut ne⟩ same
  rw [show j + 1 - k=j - k + 1 by omega]
  exact gi
 done:=λs Q E ⟨le,hi,hl⟩ kE=>wpAny_nextOf_list_end hh hi hl (by simp) kE
end
section
variable {M:Model} {A:Around} {E:Value->Shared->Prop} {s:Shared}
theorem zO7 {pos:Pos} {T:String} {x:Sem Value} {more:List (Bool × Sem Value)} {kws:List (Option Str × Sem Value)} {Q:Value->Shared->Prop}
  (p1:more.any (·.1)=false) (p2:kws.any (·.1.isNone)=false) (p3:kws.all (·.1.isSome)=true)
  (h:wpAny M A (spliced ((false,x) :: more)) (λvs s1=>wpAny M A (evalAll (kws.map (·.2))) (λks s2=>wpAny M A (call (.type T) vs ((kws.filterMap (·.1)).zip ks)) Q E s2) E s1) E s) :
  wpAny M A (callWith pos (.type T) [] ((false,x) :: more) kws) Q E s:=by
 unfold callWith
 refine wpAny_bind (wpAny_holding (wpAny_mono (evalArgs_kwB (f:=.type T) (Q:=λa s1=>wpAny M A (call (.type T) a.pos a.kw) Q E s1) p3 h) (λa s1 q=>wpAny_bind (wpAny_standAt ?_)) λ_ _ z=>z))
 have e:(((false,x) :: more).any (·.1))=false:=by
  show (false || more.any (·.1))=false
  rw [p1]
  rfl
 simp only [e,p2,Bool.or_false]
 refine wpAny_bind (wpAny_pure ?_)
 exact wpAny_bind (wpAny_mono q (λr s2 y=>wpAny_bind (wpAny_holding (wpAny_point (wpAny_pure y)))) λ_ _ z=>z)
end
def jY (K:PySem.W.Frag) (a:Addr) (k:Nat):It:=
 ⟨λi H=>∃ xs x,zW K H a xs/\xs[i]? = some x,
  λi H v H'=>∃ T x,v=.ref T/\H T=none/\H'=za H T (.tup [.int ((k + i:Nat):Int),x])/\∀ xs,zW K H a xs->xs[i]? = some x,
  λi H=>∃ xs,zW K H a xs/\i=xs.length⟩
theorem zJO {P:Program} {w:World} {K:PySem.W.Frag} {es:List Expr} {kk:Nat} {tp:Pos} {a e it:Addr} {k:Nat} (ne:e≠it) (nl:a≠it) :
  xN P w K (.Tuple es kk tp) (jY K a k) [e,it] e (λi h=>(∃ old,IsEnum h e it ((k + i:Nat):Int) old)/\h.IsListIter it a i) where
 mem:=by simp
 obj:=λi h ⟨⟨old,t1⟩,t2⟩ c hc=>by
  simp only [List.mem_cons,List.not_mem_nil,or_false] at hc
  rcases hc with rfl | rfl
  ·exact ⟨_,t1,wL⟩
  ·obtain ⟨o,e,_,d⟩:=t2
   exact ⟨o,e,by rw [d]; exact wL⟩
 keep:=λi h h' ⟨⟨old,t1⟩,t2⟩ z=>⟨⟨old,z e (by simp) _ t1⟩,(by obtain ⟨o,q,r⟩:=t2; exact ⟨o,z it (by simp) o q,r⟩)⟩
 item:=by
  intro X hP hw hK hc i pins s σ H E I hf ⟨⟨old,t1⟩,t2⟩ hg
  subst hP hw hK
  obtain ⟨xs,x,hq,hx⟩:=hg
  obtain ⟨its,rv,p,_⟩:=I.list hq
  obtain ⟨u,hu,ru⟩:=rv.get hx
  have li:i < its.length:=(List.getElem?_eq_some_iff.mp hu).1
  have nea:e≠a:=λz=>by
   obtain ⟨o,eo,cl,_⟩:=p.isList
   rw [z] at t1
   rw [t1] at eo
   cases eo
   have cl2:Value.type "enumerate" = Value.type "list":=cl
   exact absurd (Value.type.inj cl2) (by decide)
  have D:=KZ (prog:=X.prog) (w:=X.w) (A:=X.A.in1) (it:=it) (l:=a) (its:=its.toArray) k (I.ok.hd hc) nl
  refine wpAny_pyNext_enum_itemD D (i:=k + i) t1 ⟨by omega,by rw [Nat.add_sub_cancel_left]; exact t2,p.isList⟩ (by simp; omega) ne (by simp [ne,nea]) ?_
  intro v h1 tk hv z1 z2 z3 z4 keep
  rw [Nat.add_sub_cancel_left] at hv
  have ev:v=u:=by
   have:its[i]? = some v:=by simpa using hv
   rw [hu] at this
   exact (Option.some.inj this).symm
  subst ev
  refine ⟨_,rfl,wpAny_letOwnedTupleGo_enum (s:={ s with heap:=h1,toks:=tk + 1 }) z1 λh2 z5 sb=>?_⟩
  have elt:e < s.heap.objs.size:=Heap.lt_size t1
  have keep2:∀ c o,c∉[e,it]->s.heap.get? c=some o->h2.get? c=some o:=λc o hc q=>by
   obtain ⟨c1,c2⟩:=KY hc
   exact sb.extBut c o c1 (keep c o c1 c2 q)
  have pT:IsPair h2 s.heap.objs.size (.int ((k + i:Nat):Int) tk) v:=sb.extBut _ _ (Nat.ne_of_gt elt) z3
  have I':=I.turnT (h':=h2) (tk:=tk + 1) (ch:=[e,it]) (x:=.int ((k + i:Nat):Int)) (y:=x) hf keep2 (Nat.le_refl _) pT ⟨_,rfl⟩ ru
  have z2':h1.IsListIter it a (i + 1):=by
   have:=z2.2.1
   rw [show k + i + 1 - k=i + 1 by omega] at this
   exact this
  refine ⟨.ref s.heap.objs.size,_,I',rfl,⟨s.heap.objs.size,x,rfl,I.hok.fresh (Nat.le_refl _),rfl,λxs' q=>by rw [I.list_inj q hq]; exact hx⟩,
   ⟨⟨v,by rw [show ((k + (i + 1):Nat):Int)=((k + i:Nat):Int) + 1 by omega]; exact z5⟩,z2'.extBut sb.extBut (Ne.symm ne)⟩,λc hc=>?_⟩
  have:=(hf c hc).1
  rw [zp]
  ·exact this
  ·intro q
   obtain ⟨o,e1⟩:∃ o,s.heap.get? c=some o:=by
    simp only [List.mem_cons,List.not_mem_nil,or_false] at hc
    rcases hc with rfl | rfl
    ·exact ⟨_,t1⟩
    ·obtain ⟨o,e1,_⟩:=t2; exact ⟨o,e1⟩
   rw [q] at e1
   exact absurd (Heap.lt_size e1) (Nat.lt_irrefl _)
 done:=by
  intro X hP hw hK hc i pins s σ H E I hf ⟨⟨old,t1⟩,t2⟩ hg
  subst hP hw hK
  obtain ⟨xs,hq,e1⟩:=hg
  obtain ⟨its,rv,p,_⟩:=I.list hq
  have n1:its.length=xs.length:=rv.length.symm
  have D:=KZ (prog:=X.prog) (w:=X.w) (A:=X.A.in1) (it:=it) (l:=a) (its:=its.toArray) k (I.ok.hd hc) nl
  refine wpAny_pyNext_enum_endD D t1 ⟨by simp,by simp; rw [n1,<- e1]; exact t2,p.isList⟩ ?_
  intro h1 ext
  refine ⟨rfl,I.turnN (h':=h1) (tk:=s.toks) (ch:=[e,it]) hf λc o hc q=>?_⟩
  exact ext c o (KY hc).2 q
 self:=λ_ _ _ _ _ ⟨⟨_,st⟩,_⟩ h=>wpAny_pyIter_enum st h
section
variable {X:Cx} {es:List Expr} {kk:Nat} {tp:Pos}
def zQj (K:PySem.W.Frag) (ta:TA) (te:TE):TI:=λσ H R=>ta σ H λvs H1=>∃ a,vs=[.ref a]/\te σ H1 λv H2=>∃ k:Nat,v=.int (k:Int)/\Builtin.SmallTypes.fitsIndex (k:Int)=true/\(∃ xs,zW K H2 a xs)/\R (jY K a k) H2
theorem zMq {e1 e2:Expr} {ta:TA} {te:TE} {p pos kp:Pos} (hg:Gl X "enumerate") (hm:X.mg "enumerate" = none) (ha:PA X [e1] ta) (he:PE X e2 te) (hs:starEach [e1] X.env=[(false,eval e1 X.env)]:=by rfl) (hs2:starEach [] X.env=[]:=by rfl) :
  PI X (.Tuple es kk tp) (.Call (.Name "enumerate" p) [e1] [⟨some "start",e2,kp⟩] pos) (zQj X.K ta te):=by
 intro pins s σ H R I h
 refine wpAny_Call_Name_kw (jO I hg hm (show bootBuiltins "enumerate" = some (.type "enumerate") by decide +kernel) ?_)
 have h1:=ha pos pins s σ H _ I h
 rw [hs] at h1 |-
 refine zO7 (T:="enumerate") rfl rfl rfl (zg h1 λus s1 ⟨vs,H1,I1,r1,q1⟩=>?_)
 obtain ⟨a,e,q2⟩:=q1
 subst e
 obtain ⟨u,rfl,ru⟩:=uM r1
 cases ru
 refine kws_cons (zg (he pins s1 σ H1 _ I1 q2) λu2 s2 ⟨v,H2,I2,r2,q3⟩=>kws_nil ?_)
 obtain ⟨k,rfl,fit,⟨xs,hx⟩,q⟩:=q3
 obtain ⟨tk,rfl⟩:=r2
 obtain ⟨its,rv,p1,_⟩:=I2.list hx
 have la:a < s2.heap.objs.size:=by obtain ⟨o,n,e,_⟩:=p1; exact Heap.lt_size e
 refine zJz p1.isList fit λh' z1 z2 keep=>wpAny_pyIter_enum z1 ?_
 have I3:zH X pins σ H2 { s2 with heap:=h' }:=I2.kept (t':=s2.toks) keep
 refine ⟨s2.heap.objs.size + 1,[s2.heap.objs.size + 1,s2.heap.objs.size],_,_,H2,rfl,I3,zJO (a:=a) (k:=k) (Nat.succ_ne_self _) (Nat.ne_of_lt la),⟨⟨_,z1⟩,z2⟩,λc hc=>?_,q⟩
 have ge:s2.heap.objs.size<=c:=by
  simp only [List.mem_cons,List.not_mem_nil,or_false] at hc
  rcases hc with rfl | rfl
  ·exact Nat.le_add_right _ 1
  ·exact Nat.le_refl _
 exact I2.fpOk ge (I2.hok.fresh ge)
end
end L2
namespace Sh
open PySem L2
inductive Kd where
 | int | bool | non | str | lst | tup | dic
 deriving DecidableEq
def Kd.nm:Kd->String
 | .int=>"int" | .bool=>"bool" | .non=>"NoneType" | .str=>"str" | .lst=>"list" | .tup=>"tuple" | .dic=>"dict"
def Kd.whole:Kd->Bool
 | .int=>true
 | _=>false
def Kd.isInt:Kd->Bool
 | .int=>true
 | .bool=>true
 | _=>false
def Kd.isBool:Kd->Bool
 | .bool=>true
 | _=>false
def Kd.isTup:Kd->Bool
 | .tup=>true
 | _=>false
def Kd.isLst:Kd->Bool
 | .lst=>true
 | _=>false
section
variable (K:PySem.W.Frag)
theorem u4 (k:Kd):PySem.W.kitOne K (.type k.nm) (.type "int")=some k.isInt:=by
 cases k <;> first | rfl | decide +kernel | (unfold PySem.W.kitOne; rw [if_pos (by decide +kernel)]; rfl) | (unfold PySem.W.kitOne; rw [if_neg (by decide +kernel)]; rfl)
theorem u5 (k:Kd):PySem.W.kitOne K (.type k.nm) (.type "bool")=some k.isBool:=by
 cases k <;> first | rfl | decide +kernel | (unfold PySem.W.kitOne; rw [if_pos (by decide +kernel)]; rfl) | (unfold PySem.W.kitOne; rw [if_neg (by decide +kernel)]; rfl)
theorem u6 (k:Kd):PySem.W.kitOne K (.type k.nm) (.type "tuple")=some k.isTup:=by
 cases k <;> first | rfl | decide +kernel | (unfold PySem.W.kitOne; rw [if_pos (by decide +kernel)]; rfl) | (unfold PySem.W.kitOne; rw [if_neg (by decide +kernel)]; rfl)
theorem u7 (k:Kd):PySem.W.kitOne K (.type k.nm) (.type "list")=some k.isLst:=by
 cases k <;> first | rfl | decide +kernel | (unfold PySem.W.kitOne; rw [if_pos (by decide +kernel)]; rfl) | (unfold PySem.W.kitOne; rw [if_neg (by decide +kernel)]; rfl)
end
end Sh
namespace L2
open PySem PySem.Spec PyProof.Rows
section
variable {X:Cx}
end
end L2
namespace L2
open PySem PySem.Spec PyProof.Rows
structure zE (K:PySem.W.Frag) (mg:Str->Option Value) (x:Str) (C:Addr):Prop where
 cl:v6 K C
 mgC:mg x=some (.ref C)
 ha:PySem.W.findIn K (.ref C) "__class__" = some (some (.builtin "object.__class__"))
 hn:PySem.W.specialIn K (.builtin "object.__class__") "__get__" = some (some (.builtin "getset_descriptor.__get__"))
 htk:PySem.W.takesIn K (.builtin "object.__class__")=some true
 hm:PySem.W.mroIn K C (.type "object")=some true
theorem zE.ty {K:PySem.W.Frag} {mg:Str->Option Value} {x:Str} {C a dx:Addr} {H:Hp} {fs:List (Str × V)} (T:zE K mg x C) (e:H a=some (.ins C dx fs)):yM K H (.ref a) (.ref C):=.ins e T.cl T.ha T.hn T.htk T.hm
structure uO (P:Program) (w:World) (K:PySem.W.Frag) (mg:Str->Option Value) (base:Heap) (C:Addr) (m:Str) (ps:List Str) (k:Nat) (sp:Sp):Prop where
 ex:∃ f fd,zG P w K mg base zX k f fd ps sp/\jR K C m f/\wP K fd ps []
structure uP (P:Program) (w:World) (K:PySem.W.Frag) (mg:Str->Option Value) (base:Heap) (C:Addr) (ps:List Str) (k:Nat) (sp:Sp):Prop where
 ex:∃ f fd,zG P w K mg base zX k f fd ps sp/\Mk K C f/\wP K fd ps []
structure vG (P:Program) (w:World) (K:PySem.W.Frag) (mg:Str->Option Value) (base:Heap) (C:Addr) (ps:List Str) (k:Nat) (sp:Sp) (dv:V):Prop where
 ex:∃ f fd d,zG P w K mg base zX k f fd ps sp/\Mk K C f/\wP K fd ps []/\wP K fd ps [d]/\zT dv d
theorem uO.mono {P:Program} {w:World} {K:PySem.W.Frag} {mg:Str->Option Value} {base:Heap} {C:Addr} {m:Str} {ps:List Str} {j k:Nat} {sp:Sp} (F:uO P w K mg base C m ps j sp) (h:j<=k:=by decide):uO P w K mg base C m ps k sp:=by
 obtain ⟨f,fd,a,b,c⟩:=F.ex
 exact ⟨f,fd,a.mono h,b,c⟩
theorem uP.mono {P:Program} {w:World} {K:PySem.W.Frag} {mg:Str->Option Value} {base:Heap} {C:Addr} {ps:List Str} {j k:Nat} {sp:Sp} (F:uP P w K mg base C ps j sp) (h:j<=k:=by decide):uP P w K mg base C ps k sp:=by
 obtain ⟨f,fd,a,b,c⟩:=F.ex
 exact ⟨f,fd,a.mono h,b,c⟩
theorem vG.mono {P:Program} {w:World} {K:PySem.W.Frag} {mg:Str->Option Value} {base:Heap} {C:Addr} {ps:List Str} {j k:Nat} {sp:Sp} {dv:V} (F:vG P w K mg base C ps j sp dv) (h:j<=k:=by decide):vG P w K mg base C ps k sp dv:=by
 obtain ⟨f,fd,d,a,b,c⟩:=F.ex
 exact ⟨f,fd,d,a.mono h,b,c⟩
theorem vG.fn {P:Program} {w:World} {K:PySem.W.Frag} {mg:Str->Option Value} {base:Heap} {C:Addr} {ps:List Str} {k:Nat} {sp:Sp} {dv:V} (F:vG P w K mg base C ps k sp dv):uP P w K mg base C ps k sp:=by
 obtain ⟨f,fd,d,a,b,c,_⟩:=F.ex
 exact ⟨f,fd,a,b,c⟩
section
variable {X:Cx} {C:Addr} {m x:Str} {ps:List Str} {k:Nat} {sp:Sp} {o e:Expr} {es:List Expr} {ta:TE} {t:TA} {p pos apos:Pos} {dv:V}
theorem zKm {pl:Sem Bool} (F:uO X.prog X.w X.K X.mg X.base C m ps k sp) (T:zE X.K X.mg x C) (hr:zi k X.A) (he:PE X o ta)
  (ht:eval (.Call (.Attribute o m apos) [] [] pos) X.env=(do
   let ov <- eval o X.env
   standAt apos.atName
   let (f,first) <- holding [ov] (getMethod ov m pl)
   callWith pos f first (backTo pos (starEach [] X.env)) (backToKw pos (keywordEach [] X.env))):=by rfl) :
  PE X (.Call (.Attribute o m apos) [] [] pos) (Qh C m sp [] E0 ta vb):=by
 obtain ⟨f,fd,a,b,c⟩:=F.ex
 exact zMs he T.cl b a hr c .nil YW ht
theorem zMt (F:uP X.prog X.w X.K X.mg X.base C ps k sp) (T:zE X.K X.mg x C) (hr:zi (k + 1) X.A) (hg:Gl X x) (ha:PA X (e :: es) t)
  (hdb:(x == ("__debug__" : Str))=false:=by decide) (he:starEach (e :: es) X.env=(false,eval e X.env) :: starEach es X.env:=by rfl) (hpl:(backTo pos (starEach es X.env)).any (·.1)=false:=by rfl) :
  PE X (.Call (.Name x p) (e :: es) [] pos) (YU C sp [] E0 t):=by
 obtain ⟨f,fd,a,b,c⟩:=F.ex
 exact zOc b a hr hg T.mgC c .nil YW ha hdb he hpl
theorem gr (T:zE X.K X.mg x C) (hg:Gl X x) (hd:(x == ("__debug__" : Str))=false:=by decide):PE X (.Name x pos) (tC (.ref C)):=QI hg T.mgC rfl hd
def Ka (K:PySem.W.Frag):List V->Hp->VK->Prop:=λxs H Q=>∃ x C t b,xs=[x,.ref C]/\yM K H x t/\PySem.W.kitOne K t (.ref C)=some b/\Q (.bl b) H
theorem gu:wv X (.builtin "isinstance") (Ka X.K):=by
 intro pins s σ H xs us Q I r h
 obtain ⟨x,C,t,b,rfl,ty,e,q⟩:=h
 obtain ⟨u,v,rfl,ru,rv⟩:=gU r
 cases (show v=Value.ref C from rv)
 exact Qf I ru ty e λtk=>⟨.bl b,H,I.tok tk,rfl,q⟩
end
end L2
namespace L2
open PySem PySem.Spec PyProof.Rows
section
variable {X:Cx} {pos:Pos}
end
end L2
namespace L2
open PySem PySem.Spec PyProof.Rows PySem.SeqAt
section
variable {X:Cx}
end
end L2
namespace L2
open PySem PySem.Spec PyProof.Rows
open PySem
abbrev Yo (h:Heap) (t:Addr):Heap:=h.push { cls:=.type "tuple_iterator",data:=.fields #[.ref t,.int 0 0] }
abbrev Yp (h:Heap) (t l:Addr):Heap:=(Yo h t).push { cls:=.type "tuple_iterator",data:=.fields #[.ref l,.int 0 0] }
abbrev Yq (h:Heap) (t l:Addr):Heap:=(Yp h t l).push { cls:=.type "tuple",data:=.seq #[.ref h.objs.size,.ref (Yo h t).objs.size] }
abbrev Yr (h:Heap) (t l:Addr):Heap:=(Yq h t l).push { cls:=.type "tuple",data:=.seq #[.none,.none] }
abbrev qZ (h:Heap) (t l:Addr):Heap:=(Yr h t l).push { cls:=.type "zip",data:=.fields #[.none,.bool false,.bool false,.ref (Yp h t l).objs.size,.ref (Yq h t l).objs.size] }
theorem zJG (t l:Addr) (xs ys:Array Value) :
  Meets (Builtin.«zip.__new__» ⟨[.type "zip",.ref t,.ref l],[]⟩) (λ_ R s=>s.heap.IsTuple t xs/\s.heap.IsTuple l ys/\R (.ok (.ret (.ref (Yr s.heap t l).objs.size))) { s with heap:=qZ s.heap t l }):=
 .of_wp λprog w A R s h=>by
  obtain ⟨hp,g,d,tk,os⟩:=s; obtain ⟨h1,h2,h⟩:=h
  have hsub:=sub_zip
  have e1:Heap.IsTuple (Shared.heap ⟨hp,g,d,tk,os⟩) t xs:=h1
  have e2:Heap.IsTuple (Shared.heap ⟨hp.push { cls:=.type "tuple_iterator",data:=.fields #[.ref t,.int 0 0] },g,d,tk,os⟩) l ys:=(let ⟨o,e,r⟩:=h2; ⟨o,Heap.get?_push_of_some _ e,r⟩)
  wp_walk using wpAny_pyIter_tuple e1,wpAny_pyIter_tuple e2
  exact ⟨_,rfl,h⟩
theorem zIV {prog:Program} {w:World} {A:Around} {E:Value->Shared->Prop} {s:Shared} {t l:Addr} {xs ys:Array Value} {Q:Value->Shared->Prop} (h1:s.heap.IsTuple t xs) (h2:s.heap.IsTuple l ys)
  (h:∀ h',IsZip h' (s.heap.objs.size + 4) (s.heap.objs.size + 2) (s.heap.objs.size + 3) .none->IsPair h' (s.heap.objs.size + 2) (.ref s.heap.objs.size) (.ref (s.heap.objs.size + 1))->IsPair h' (s.heap.objs.size + 3) .none .none->
   h'.IsTupleIter s.heap.objs.size t 0->h'.IsTupleIter (s.heap.objs.size + 1) l 0->(∀ c o,s.heap.get? c=some o->h'.get? c=some o)->Q (.ref (s.heap.objs.size + 4)) { s with heap:=h' }) :
  wpAny (model prog w) A (call (.type "zip") [.ref t,.ref l]) Q E s:=by
 refine callType_new F.called_zip (by decide) (F.typeCall_zip_2 _ _) (F.newCall_zip_2 _ _) (λobj=>F.args_object_init_3 obj _ _) F.entry_zip_new (zJG t l xs ys) ⟨h1,h2,?_⟩
 have n1:(Yo s.heap t).objs.size=s.heap.objs.size + 1:=Heap.size_push ..
 have n2:(Yp s.heap t l).objs.size=s.heap.objs.size + 2:=by rw [Heap.size_push,n1]
 have n3:(Yq s.heap t l).objs.size=s.heap.objs.size + 3:=by rw [Heap.size_push,n2]
 have n4:(Yr s.heap t l).objs.size=s.heap.objs.size + 4:=by rw [Heap.size_push,n3]
 have p5:(qZ s.heap t l).get? (Yr s.heap t l).objs.size=some _:=Heap.get?_push_size _ rfl
 have p4:(qZ s.heap t l).get? (Yq s.heap t l).objs.size=some _:=Heap.get?_push_of_some _ (Heap.get?_push_size _ rfl)
 have p3:(qZ s.heap t l).get? (Yp s.heap t l).objs.size=some _:=Heap.get?_push_of_some _ (Heap.get?_push_of_some _ (Heap.get?_push_size _ rfl))
 have p2:(qZ s.heap t l).get? (Yo s.heap t).objs.size=some _:=Heap.get?_push_of_some _ (Heap.get?_push_of_some _ (Heap.get?_push_of_some _ (Heap.get?_push_size _ rfl)))
 have p1:(qZ s.heap t l).get? s.heap.objs.size=some _:=Heap.get?_push_of_some _ (Heap.get?_push_of_some _ (Heap.get?_push_of_some _ (Heap.get?_push_of_some _ (Heap.get?_push_size _ rfl))))
 change _/\_
 rw [n2,n3,n4] at p5
 rw [n1,n2] at p3
 rw [n3] at p4
 rw [n1] at p2
 rw [n4]
 exact ⟨⟨_,p5,rfl⟩,h _ p5 p3 p4 ⟨_,p1,rfl,rfl⟩ ⟨_,p2,rfl,rfl⟩ λc o x=>Heap.get?_push_of_some _ (Heap.get?_push_of_some _ (Heap.get?_push_of_some _ (Heap.get?_push_of_some _ (Heap.get?_push_of_some _ x))))⟩
abbrev Ys (h:Heap) (t:Addr):Heap:=h.push { cls:=.type "list_iterator",data:=.fields #[.ref t,.int 0 0] }
abbrev Yt (h:Heap) (t l:Addr):Heap:=(Ys h t).push { cls:=.type "tuple_iterator",data:=.fields #[.ref l,.int 0 0] }
abbrev Yu (h:Heap) (t l:Addr):Heap:=(Yt h t l).push { cls:=.type "tuple",data:=.seq #[.ref h.objs.size,.ref (Ys h t).objs.size] }
abbrev Yv (h:Heap) (t l:Addr):Heap:=(Yu h t l).push { cls:=.type "tuple",data:=.seq #[.none,.none] }
abbrev qc (h:Heap) (t l:Addr):Heap:=(Yv h t l).push { cls:=.type "zip",data:=.fields #[.none,.bool false,.bool false,.ref (Yt h t l).objs.size,.ref (Yu h t l).objs.size] }
theorem zJI (t l:Addr) (xs ys:Array Value) :
  Meets (Builtin.«zip.__new__» ⟨[.type "zip",.ref t,.ref l],[]⟩) (λ_ R s=>s.heap.IsList t xs/\s.heap.IsTuple l ys/\R (.ok (.ret (.ref (Yv s.heap t l).objs.size))) { s with heap:=qc s.heap t l }):=
 .of_wp λprog w A R s h=>by
  obtain ⟨hp,g,d,tk,os⟩:=s; obtain ⟨h1,h2,h⟩:=h
  have hsub:=sub_zip
  have e1:Heap.IsList (Shared.heap ⟨hp,g,d,tk,os⟩) t xs:=h1
  have e2:Heap.IsTuple (Shared.heap ⟨hp.push { cls:=.type "list_iterator",data:=.fields #[.ref t,.int 0 0] },g,d,tk,os⟩) l ys:=(let ⟨o,e,r⟩:=h2; ⟨o,Heap.get?_push_of_some _ e,r⟩)
  wp_walk using wpAny_pyIter_list e1,wpAny_pyIter_tuple e2
  exact ⟨_,rfl,h⟩
theorem zIX {prog:Program} {w:World} {A:Around} {E:Value->Shared->Prop} {s:Shared} {t l:Addr} {xs ys:Array Value} {Q:Value->Shared->Prop} (h1:s.heap.IsList t xs) (h2:s.heap.IsTuple l ys)
  (h:∀ h',IsZip h' (s.heap.objs.size + 4) (s.heap.objs.size + 2) (s.heap.objs.size + 3) .none->IsPair h' (s.heap.objs.size + 2) (.ref s.heap.objs.size) (.ref (s.heap.objs.size + 1))->IsPair h' (s.heap.objs.size + 3) .none .none->
   h'.IsListIter s.heap.objs.size t 0->h'.IsTupleIter (s.heap.objs.size + 1) l 0->(∀ c o,s.heap.get? c=some o->h'.get? c=some o)->Q (.ref (s.heap.objs.size + 4)) { s with heap:=h' }) :
  wpAny (model prog w) A (call (.type "zip") [.ref t,.ref l]) Q E s:=by
 refine callType_new F.called_zip (by decide) (F.typeCall_zip_2 _ _) (F.newCall_zip_2 _ _) (λobj=>F.args_object_init_3 obj _ _) F.entry_zip_new (zJI t l xs ys) ⟨h1,h2,?_⟩
 have n1:(Ys s.heap t).objs.size=s.heap.objs.size + 1:=Heap.size_push ..
 have n2:(Yt s.heap t l).objs.size=s.heap.objs.size + 2:=by rw [Heap.size_push,n1]
 have n3:(Yu s.heap t l).objs.size=s.heap.objs.size + 3:=by rw [Heap.size_push,n2]
 have n4:(Yv s.heap t l).objs.size=s.heap.objs.size + 4:=by rw [Heap.size_push,n3]
 have p5:(qc s.heap t l).get? (Yv s.heap t l).objs.size=some _:=Heap.get?_push_size _ rfl
 have p4:(qc s.heap t l).get? (Yu s.heap t l).objs.size=some _:=Heap.get?_push_of_some _ (Heap.get?_push_size _ rfl)
 have p3:(qc s.heap t l).get? (Yt s.heap t l).objs.size=some _:=Heap.get?_push_of_some _ (Heap.get?_push_of_some _ (Heap.get?_push_size _ rfl))
 have p2:(qc s.heap t l).get? (Ys s.heap t).objs.size=some _:=Heap.get?_push_of_some _ (Heap.get?_push_of_some _ (Heap.get?_push_of_some _ (Heap.get?_push_size _ rfl)))
 have p1:(qc s.heap t l).get? s.heap.objs.size=some _:=Heap.get?_push_of_some _ (Heap.get?_push_of_some _ (Heap.get?_push_of_some _ (Heap.get?_push_of_some _ (Heap.get?_push_size _ rfl))))
 change _/\_
 rw [n2,n3,n4] at p5
 rw [n1,n2] at p3
 rw [n3] at p4
 rw [n1] at p2
 rw [n4]
 exact ⟨⟨_,p5,rfl⟩,h _ p5 p3 p4 ⟨_,p1,rfl,rfl⟩ ⟨_,p2,rfl,rfl⟩ λc o x=>Heap.get?_push_of_some _ (Heap.get?_push_of_some _ (Heap.get?_push_of_some _ (Heap.get?_push_of_some _ (Heap.get?_push_of_some _ x))))⟩
def Kb (K:PySem.W.Frag) (a b:Addr):It:=
 ⟨λi H=>∃ xs ys x y,zw K H a xs/\zw K H b ys/\xs[i]? = some x/\ys[i]? = some y,
  λi H v H'=>∃ T x y,v=.ref T/\H T=none/\H'=za H T (.tup [x,y])/\(∀ xs,zw K H a xs->xs[i]? = some x)/\∀ ys,zw K H b ys->ys[i]? = some y,
  λi H=>∃ xs ys,zw K H a xs/\zw K H b ys/\i<=xs.length/\i<=ys.length/\(i=xs.length\/i=ys.length)⟩
theorem zJK {P:Program} {w:World} {K:PySem.W.Frag} {es:List Expr} {kk:Nat} {tp:Pos} {a b z TI TO i1 i2:Addr} (Z:Zp z TI TO i1 i2 [i1,a] [i2,b]) (na:a≠i1) (nb:b≠i2) :
  xN P w K (.Tuple es kk tp) (Kb K a b) [z,TI,TO,i1,i2] z (λi h=>IsZip h z TI TO .none/\IsPair h TI (.ref i1) (.ref i2)/\(∃ x y,IsPair h TO x y)/\h.IsTupleIter i1 a i/\h.IsTupleIter i2 b i) where
 mem:=by simp
 obj:=λi h ⟨t1,t2,⟨x,y,t3⟩,t4,t5⟩ c hc=>by
  simp only [List.mem_cons,List.not_mem_nil,or_false] at hc
  rcases hc with rfl | rfl | rfl | rfl | rfl
  ·exact ⟨_,t1,wL⟩
  ·exact ⟨_,t2,uN⟩
  ·exact ⟨_,t3,uN⟩
  ·obtain ⟨o,e,_,d⟩:=t4
   exact ⟨o,e,by rw [d]; exact wL⟩
  ·obtain ⟨o,e,_,d⟩:=t5
   exact ⟨o,e,by rw [d]; exact wL⟩
 keep:=λi h h' ⟨t1,t2,⟨x,y,t3⟩,t4,t5⟩ k=>⟨k z (by simp) _ t1,k TI (by simp) _ t2,⟨x,y,k TO (by simp) _ t3⟩,(by obtain ⟨o,e,r⟩:=t4; exact ⟨o,k i1 (by simp) o e,r⟩),(by obtain ⟨o,e,r⟩:=t5; exact ⟨o,k i2 (by simp) o e,r⟩)⟩
 item:=by
  intro X hP hw hK hc i pins s σ H E I hf ⟨t1,t2,⟨x0,y0,t3⟩,t4,t5⟩ hg
  subst hP hw hK
  obtain ⟨xs,ys,x,y,hq1,hq2,hx,hy⟩:=hg
  obtain ⟨its1,rv1,p1,_⟩:=I.tuple hq1
  obtain ⟨its2,rv2,p2,_⟩:=I.tuple hq2
  obtain ⟨u,hu,ru⟩:=rv1.get hx
  obtain ⟨v,hv,rv⟩:=rv2.get hy
  have hh:X.A.in1.handled=none:=I.ok.hd hc
  have l1:i < its1.toArray.size:=by rw [List.size_toArray]; exact (List.getElem?_eq_some_iff.mp hu).1
  have l2:i < its2.toArray.size:=by rw [List.size_toArray]; exact (List.getElem?_eq_some_iff.mp hv).1
  refine Yg (uy hh i1 a na its1.toArray) (uy hh i2 b nb its2.toArray) Z t1 t2 t3 ⟨t4,p1⟩ ⟨t5,p2⟩ l1 l2 ?_
  intro x' y' h1 tk px py z1 z2 z3 z4 z5 z6 keep
  have ex:x'=u:=by
   have q:its1.toArray[i]? = some x':=px
   simp only [List.getElem?_toArray] at q
   rw [hu] at q
   exact (Option.some.inj q).symm
  have ey:y'=v:=by
   have q:its2.toArray[i]? = some y':=py
   simp only [List.getElem?_toArray] at q
   rw [hv] at q
   exact (Option.some.inj q).symm
  subst ex ey
  refine ⟨_,rfl,wpAny_letOwnedTupleGo_zip (s:={ s with heap:=h1,toks:=tk }) z1 λh2 z7 sb=>?_⟩
  have zlt:z < s.heap.objs.size:=Heap.lt_size t1
  have keep2:∀ c o,c∉[z,TI,TO,i1,i2]->s.heap.get? c=some o->h2.get? c=some o:=λc o hc e=>by
   simp only [List.mem_cons,List.not_mem_nil,or_false,not_or] at hc
   exact sb.extBut c o hc.1 (keep c o hc.1 hc.2.2.1 hc.2.2.2.1 hc.2.2.2.2 e)
  have pT:IsPair h2 s.heap.objs.size x' y':=sb.extBut _ _ (Nat.ne_of_gt zlt) z6
  have I':=I.turnT (h':=h2) (tk:=tk) (ch:=[z,TI,TO,i1,i2]) (x:=x) (y:=y) hf keep2 (Nat.le_refl _) pT ru rv
  refine ⟨.ref s.heap.objs.size,_,I',rfl,⟨s.heap.objs.size,x,y,rfl,I.hok.fresh (Nat.le_refl _),rfl,λxs' q=>by rw [I.tuple_inj q hq1]; exact hx,λys' q=>by rw [I.tuple_inj q hq2]; exact hy⟩,
   ⟨z7,sb.extBut _ _ Z.a1 z2,⟨_,_,sb.extBut _ _ Z.a2 z3⟩,z4.1.extBut sb.extBut Z.a3,z5.1.extBut sb.extBut Z.a4⟩,λc hc=>?_⟩
  have:=(hf c hc).1
  rw [zp]
  ·exact this
  ·intro q
   obtain ⟨o,e,_⟩:∃ o,s.heap.get? c=some o/\True:=by
    simp only [List.mem_cons,List.not_mem_nil,or_false] at hc
    rcases hc with rfl | rfl | rfl | rfl | rfl
    ·exact ⟨_,t1,trivial⟩
    ·exact ⟨_,t2,trivial⟩
    ·exact ⟨_,t3,trivial⟩
    ·obtain ⟨o,e,_⟩:=t4; exact ⟨o,e,trivial⟩
    ·obtain ⟨o,e,_⟩:=t5; exact ⟨o,e,trivial⟩
   rw [q] at e
   exact absurd (Heap.lt_size e) (Nat.lt_irrefl _)
 done:=by
  intro X hP hw hK hc i pins s σ H E I hf ⟨t1,t2,⟨x0,y0,t3⟩,t4,t5⟩ hg
  subst hP hw hK
  obtain ⟨xs,ys,hq1,hq2,e1,e2,e3⟩:=hg
  obtain ⟨its1,rv1,p1,_⟩:=I.tuple hq1
  obtain ⟨its2,rv2,p2,_⟩:=I.tuple hq2
  have hh:X.A.in1.handled=none:=I.ok.hd hc
  have n1:its1.toArray.size=xs.length:=by rw [List.size_toArray]; exact rv1.length.symm
  have n2:its2.toArray.size=ys.length:=by rw [List.size_toArray]; exact rv2.length.symm
  refine Yh (uy hh i1 a na its1.toArray) (uy hh i2 b nb its2.toArray) Z t1 t2 t3 ⟨t4,p1⟩ ⟨t5,p2⟩ (by omega) (by omega) (by omega) ?_
  intro h1 tk keep
  refine ⟨rfl,I.turnN (h':=h1) (tk:=tk) (ch:=[z,TI,TO,i1,i2]) hf λc o hc e=>?_⟩
  simp only [List.mem_cons,List.not_mem_nil,or_false,not_or] at hc
  exact keep c o hc.1 hc.2.2.1 hc.2.2.2.1 hc.2.2.2.2 e
 self:=λ_ _ _ _ _ st h=>wpAny_pyIter_zip st.1 h
def Kc (K:PySem.W.Frag) (a b:Addr):It:=
 ⟨λi H=>∃ xs ys x y,zW K H a xs/\zw K H b ys/\xs[i]? = some x/\ys[i]? = some y,
  λi H v H'=>∃ T x y,v=.ref T/\H T=none/\H'=za H T (.tup [x,y])/\(∀ xs,zW K H a xs->xs[i]? = some x)/\∀ ys,zw K H b ys->ys[i]? = some y,
  λi H=>∃ xs ys,zW K H a xs/\zw K H b ys/\i<=xs.length/\i<=ys.length/\(i=xs.length\/i=ys.length)⟩
theorem zJL {P:Program} {w:World} {K:PySem.W.Frag} {es:List Expr} {kk:Nat} {tp:Pos} {a b z TI TO i1 i2:Addr} (Z:Zp z TI TO i1 i2 [i1,a] [i2,b]) (na:a≠i1) (nb:b≠i2) :
  xN P w K (.Tuple es kk tp) (Kc K a b) [z,TI,TO,i1,i2] z (λi h=>IsZip h z TI TO .none/\IsPair h TI (.ref i1) (.ref i2)/\(∃ x y,IsPair h TO x y)/\h.IsListIter i1 a i/\h.IsTupleIter i2 b i) where
 mem:=by simp
 obj:=λi h ⟨t1,t2,⟨x,y,t3⟩,t4,t5⟩ c hc=>by
  simp only [List.mem_cons,List.not_mem_nil,or_false] at hc
  rcases hc with rfl | rfl | rfl | rfl | rfl
  ·exact ⟨_,t1,wL⟩
  ·exact ⟨_,t2,uN⟩
  ·exact ⟨_,t3,uN⟩
  ·obtain ⟨o,e,_,d⟩:=t4
   exact ⟨o,e,by rw [d]; exact wL⟩
  ·obtain ⟨o,e,_,d⟩:=t5
   exact ⟨o,e,by rw [d]; exact wL⟩
 keep:=λi h h' ⟨t1,t2,⟨x,y,t3⟩,t4,t5⟩ k=>⟨k z (by simp) _ t1,k TI (by simp) _ t2,⟨x,y,k TO (by simp) _ t3⟩,(by obtain ⟨o,e,r⟩:=t4; exact ⟨o,k i1 (by simp) o e,r⟩),(by obtain ⟨o,e,r⟩:=t5; exact ⟨o,k i2 (by simp) o e,r⟩)⟩
 item:=by
  intro X hP hw hK hc i pins s σ H E I hf ⟨t1,t2,⟨x0,y0,t3⟩,t4,t5⟩ hg
  subst hP hw hK
  obtain ⟨xs,ys,x,y,hq1,hq2,hx,hy⟩:=hg
  obtain ⟨its1,rv1,p1,_⟩:=I.list hq1
  obtain ⟨its2,rv2,p2,_⟩:=I.tuple hq2
  obtain ⟨u,hu,ru⟩:=rv1.get hx
  obtain ⟨v,hv,rv⟩:=rv2.get hy
  have hh:X.A.in1.handled=none:=I.ok.hd hc
  have l1:i < its1.toArray.size:=by rw [List.size_toArray]; exact (List.getElem?_eq_some_iff.mp hu).1
  have l2:i < its2.toArray.size:=by rw [List.size_toArray]; exact (List.getElem?_eq_some_iff.mp hv).1
  refine Yg (Draws.list hh i1 a na its1.toArray) (uy hh i2 b nb its2.toArray) Z t1 t2 t3 ⟨t4,p1.isList⟩ ⟨t5,p2⟩ l1 l2 ?_
  intro x' y' h1 tk px py z1 z2 z3 z4 z5 z6 keep
  have ex:x'=u:=by
   have q:its1.toArray[i]? = some x':=px
   simp only [List.getElem?_toArray] at q
   rw [hu] at q
   exact (Option.some.inj q).symm
  have ey:y'=v:=by
   have q:its2.toArray[i]? = some y':=py
   simp only [List.getElem?_toArray] at q
   rw [hv] at q
   exact (Option.some.inj q).symm
  subst ex ey
  refine ⟨_,rfl,wpAny_letOwnedTupleGo_zip (s:={ s with heap:=h1,toks:=tk }) z1 λh2 z7 sb=>?_⟩
  have zlt:z < s.heap.objs.size:=Heap.lt_size t1
  have keep2:∀ c o,c∉[z,TI,TO,i1,i2]->s.heap.get? c=some o->h2.get? c=some o:=λc o hc e=>by
   simp only [List.mem_cons,List.not_mem_nil,or_false,not_or] at hc
   exact sb.extBut c o hc.1 (keep c o hc.1 hc.2.2.1 hc.2.2.2.1 hc.2.2.2.2 e)
  have pT:IsPair h2 s.heap.objs.size x' y':=sb.extBut _ _ (Nat.ne_of_gt zlt) z6
  have I':=I.turnT (h':=h2) (tk:=tk) (ch:=[z,TI,TO,i1,i2]) (x:=x) (y:=y) hf keep2 (Nat.le_refl _) pT ru rv
  refine ⟨.ref s.heap.objs.size,_,I',rfl,⟨s.heap.objs.size,x,y,rfl,I.hok.fresh (Nat.le_refl _),rfl,λxs' q=>by rw [I.list_inj q hq1]; exact hx,λys' q=>by rw [I.tuple_inj q hq2]; exact hy⟩,
   ⟨z7,sb.extBut _ _ Z.a1 z2,⟨_,_,sb.extBut _ _ Z.a2 z3⟩,z4.1.extBut sb.extBut Z.a3,z5.1.extBut sb.extBut Z.a4⟩,λc hc=>?_⟩
  have:=(hf c hc).1
  rw [zp]
  ·exact this
  ·intro q
   obtain ⟨o,e,_⟩:∃ o,s.heap.get? c=some o/\True:=by
    simp only [List.mem_cons,List.not_mem_nil,or_false] at hc
    rcases hc with rfl | rfl | rfl | rfl | rfl
    ·exact ⟨_,t1,trivial⟩
    ·exact ⟨_,t2,trivial⟩
    ·exact ⟨_,t3,trivial⟩
    ·obtain ⟨o,e,_⟩:=t4; exact ⟨o,e,trivial⟩
    ·obtain ⟨o,e,_⟩:=t5; exact ⟨o,e,trivial⟩
   rw [q] at e
   exact absurd (Heap.lt_size e) (Nat.lt_irrefl _)
 done:=by
  intro X hP hw hK hc i pins s σ H E I hf ⟨t1,t2,⟨x0,y0,t3⟩,t4,t5⟩ hg
  subst hP hw hK
  obtain ⟨xs,ys,hq1,hq2,e1,e2,e3⟩:=hg
  obtain ⟨its1,rv1,p1,_⟩:=I.list hq1
  obtain ⟨its2,rv2,p2,_⟩:=I.tuple hq2
  have hh:X.A.in1.handled=none:=I.ok.hd hc
  have n1:its1.toArray.size=xs.length:=by rw [List.size_toArray]; exact rv1.length.symm
  have n2:its2.toArray.size=ys.length:=by rw [List.size_toArray]; exact rv2.length.symm
  refine Yh (Draws.list hh i1 a na its1.toArray) (uy hh i2 b nb its2.toArray) Z t1 t2 t3 ⟨t4,p1.isList⟩ ⟨t5,p2⟩ (by omega) (by omega) (by omega) ?_
  intro h1 tk keep
  refine ⟨rfl,I.turnN (h':=h1) (tk:=tk) (ch:=[z,TI,TO,i1,i2]) hf λc o hc e=>?_⟩
  simp only [List.mem_cons,List.not_mem_nil,or_false,not_or] at hc
  exact keep c o hc.1 hc.2.2.1 hc.2.2.2.1 hc.2.2.2.2 e
 self:=λ_ _ _ _ _ st h=>wpAny_pyIter_zip st.1 h
def SqE (K:PySem.W.Frag) (H:Hp) (a:Addr) (xs:List V):Prop:=zw K H a xs\/zW K H a xs
section
variable {X:Cx} {es:List Expr} {kk:Nat} {tp:Pos}
theorem ub {pins:List (Addr × Obj)} {σ:St} {H:Hp} {s:Shared} (I:zH X pins σ H s) {c:Addr} (hc:c∈[s.heap.objs.size + 4,s.heap.objs.size + 2,s.heap.objs.size + 3,s.heap.objs.size,s.heap.objs.size + 1]):yL X pins H c:=by
 have ge:s.heap.objs.size<=c:=by
  simp only [List.mem_cons,List.not_mem_nil,or_false] at hc
  rcases hc with rfl | rfl | rfl | rfl | rfl
  ·exact Nat.le_add_right _ 4
  ·exact Nat.le_add_right _ 2
  ·exact Nat.le_add_right _ 3
  ·exact Nat.le_refl _
  ·exact Nat.le_add_right _ 1
 exact I.fpOk ge (I.hok.fresh ge)
def orZ (K:PySem.W.Frag) (H:Hp) (a b:Addr) (R:It->Hp->Prop):Prop:=
 ((∃ xs,zw K H a xs)/\(∃ ys,zW K H b ys)/\R (KM K a b) H)\/((∃ xs,zW K H a xs)/\(∃ ys,zW K H b ys)/\R (gp K a b) H)\/((∃ xs,zw K H a xs)/\(∃ ys,zw K H b ys)/\R (Kb K a b) H)\/((∃ xs,zW K H a xs)/\(∃ ys,zw K H b ys)/\R (Kc K a b) H)
def gv (K:PySem.W.Frag) (ta:TA):TI:=λσ H R=>ta σ H λvs H1=>∃ a b,vs=[.ref a,.ref b]/\orZ K H1 a b R
theorem zOa {e1 e2:Expr} {ta:TA} {p pos:Pos} (hg:Gl X "zip") (hm:X.mg "zip" = none) (ha:PA X [e1,e2] ta) (hs:starEach [e1,e2] X.env=[(false,eval e1 X.env),(false,eval e2 X.env)]:=by rfl) (hs2:starEach [e2] X.env=[(false,eval e2 X.env)]:=by rfl) :
  PI X (.Tuple es kk tp) (.Call (.Name "zip" p) [e1,e2] [] pos) (gv X.K ta):=by
 intro pins s σ H R I h
 refine Call_ (jO I hg hm (show bootBuiltins "zip" = some (.type "zip") by decide +kernel) (PyProof.Rows.callWith_type1 (zg (ha pos pins s σ H _ I h) λus s1 ⟨vs,H1,I1,r1,q1⟩=>?_) (by rw [hs,hs2]) (by rw [hs2]; rfl)))
 obtain ⟨a,b,e,q1⟩:=q1
 subst e
 obtain ⟨u,v,rfl,ru,rv⟩:=gU r1
 cases ru
 cases rv
 rcases q1 with ⟨⟨xs,hx⟩,⟨ys,hy⟩,q⟩ | ⟨⟨xs,hx⟩,⟨ys,hy⟩,q⟩ | ⟨⟨xs,hx⟩,⟨ys,hy⟩,q⟩ | ⟨⟨xs,hx⟩,⟨ys,hy⟩,q⟩
 ·obtain ⟨its1,rv1,p1,_⟩:=I1.tuple hx
  obtain ⟨its2,rv2,p2,_⟩:=I1.list hy
  have la:a < s1.heap.objs.size:=by obtain ⟨o,e,_⟩:=p1; exact Heap.lt_size e
  have lb:b < s1.heap.objs.size:=by obtain ⟨o,n,e,_⟩:=p2; exact Heap.lt_size e
  refine zIW p1 p2.isList λh' z1 z2 z3 z4 z5 keep=>wpAny_pyIter_zip z1 ?_
  have I2:zH X pins σ H1 { s1 with heap:=h' }:=I1.kept (t':=s1.toks) keep
  exact ⟨s1.heap.objs.size + 4,[s1.heap.objs.size + 4,s1.heap.objs.size + 2,s1.heap.objs.size + 3,s1.heap.objs.size,s1.heap.objs.size + 1],_,_,H1,rfl,I2,
   zMS (a:=a) (b:=b) (Yi _ _ _ la lb) (Nat.ne_of_lt la) (Nat.ne_of_lt (Nat.lt_succ_of_lt lb)),⟨z1,z2,⟨_,_,z3⟩,z4,z5⟩,λc hc=>ub I1 hc,q⟩
 ·obtain ⟨its1,rv1,p1,_⟩:=I1.list hx
  obtain ⟨its2,rv2,p2,_⟩:=I1.list hy
  have la:a < s1.heap.objs.size:=by obtain ⟨o,n,e,_⟩:=p1; exact Heap.lt_size e
  have lb:b < s1.heap.objs.size:=by obtain ⟨o,n,e,_⟩:=p2; exact Heap.lt_size e
  refine call_zip_2 p1.isList p2.isList λh' z1 z2 z3 z4 z5 _ keep=>wpAny_pyIter_zip z1 ?_
  have I2:zH X pins σ H1 { s1 with heap:=h' }:=I1.kept (t':=s1.toks) keep
  exact ⟨s1.heap.objs.size + 4,[s1.heap.objs.size + 4,s1.heap.objs.size + 2,s1.heap.objs.size + 3,s1.heap.objs.size,s1.heap.objs.size + 1],_,_,H1,rfl,I2,
   zKE (a:=a) (b:=b) (Yi _ _ _ la lb) (Nat.ne_of_lt la) (Nat.ne_of_lt (Nat.lt_succ_of_lt lb)),⟨z1,z2,⟨_,_,z3⟩,z4,z5⟩,λc hc=>ub I1 hc,q⟩
 ·obtain ⟨its1,rv1,p1,_⟩:=I1.tuple hx
  obtain ⟨its2,rv2,p2,_⟩:=I1.tuple hy
  have la:a < s1.heap.objs.size:=by obtain ⟨o,e,_⟩:=p1; exact Heap.lt_size e
  have lb:b < s1.heap.objs.size:=by obtain ⟨o,e,_⟩:=p2; exact Heap.lt_size e
  refine zIV p1 p2 λh' z1 z2 z3 z4 z5 keep=>wpAny_pyIter_zip z1 ?_
  have I2:zH X pins σ H1 { s1 with heap:=h' }:=I1.kept (t':=s1.toks) keep
  exact ⟨s1.heap.objs.size + 4,[s1.heap.objs.size + 4,s1.heap.objs.size + 2,s1.heap.objs.size + 3,s1.heap.objs.size,s1.heap.objs.size + 1],_,_,H1,rfl,I2,
   zJK (a:=a) (b:=b) (Yi _ _ _ la lb) (Nat.ne_of_lt la) (Nat.ne_of_lt (Nat.lt_succ_of_lt lb)),⟨z1,z2,⟨_,_,z3⟩,z4,z5⟩,λc hc=>ub I1 hc,q⟩
 ·obtain ⟨its1,rv1,p1,_⟩:=I1.list hx
  obtain ⟨its2,rv2,p2,_⟩:=I1.tuple hy
  have la:a < s1.heap.objs.size:=by obtain ⟨o,n,e,_⟩:=p1; exact Heap.lt_size e
  have lb:b < s1.heap.objs.size:=by obtain ⟨o,e,_⟩:=p2; exact Heap.lt_size e
  refine zIX p1.isList p2 λh' z1 z2 z3 z4 z5 keep=>wpAny_pyIter_zip z1 ?_
  have I2:zH X pins σ H1 { s1 with heap:=h' }:=I1.kept (t':=s1.toks) keep
  exact ⟨s1.heap.objs.size + 4,[s1.heap.objs.size + 4,s1.heap.objs.size + 2,s1.heap.objs.size + 3,s1.heap.objs.size,s1.heap.objs.size + 1],_,_,H1,rfl,I2,
   zJL (a:=a) (b:=b) (Yi _ _ _ la lb) (Nat.ne_of_lt la) (Nat.ne_of_lt (Nat.lt_succ_of_lt lb)),⟨z1,z2,⟨_,_,z3⟩,z4,z5⟩,λc hc=>ub I1 hc,q⟩
def gw (K:PySem.W.Frag):R2:=λx y H Q=>∃ p xs i v,x=.ref p/\y=.int i/\SqE K H p xs/\yR xs i=some v/\Q v H
theorem zOw:YV X (gw X.K):=by
 intro value slice pins s σ H x y v u Q I rx ry h hs
 obtain ⟨p,xs,i,z,e1,e2,hq,he,q⟩:=h
 rcases hq with hq | hq
 ·exact zQd value slice pins s σ H x y v u Q I rx ry ⟨p,xs,i,z,e1,e2,hq,he,q⟩ hs
 ·exact Qy value slice pins s σ H x y v u Q I rx ry ⟨p,xs,i,z,e1,e2,hq,he,q⟩ hs
end
section
variable {prog:Program} {w:World} {A:Around} {E:Value->Shared->Prop}
theorem Ke {it l:Addr} {xs:Array Value} (ne:l≠it):∀ (m j:Nat) (s:Shared) (R:List Value->Shared->Prop),s.heap.IsListIter it l j->s.heap.IsList l xs->j + m<=xs.size->
  (∀ g,g.IsListIter it l (j + m)->Heap.SameBut it s.heap g->R ((xs.toList.drop j).take m) { s with heap:=g })->wpAny (model prog w) A (draw (.ref it) m) R E s
 | 0,j,s,R,hi,_,_,k=>wpAny_pure (by simpa using k s.heap hi (Heap.SameBut.refl ..))
 | m + 1,j,s,R,hi,hl,le,k=>by
  have lt:j < xs.size:=by omega
  have step:=λg (z:Heap.SameBut it s.heap g)=>(hl.extBut z.extBut ne:g.IsList l xs)
  show wpAny _ _ (pyNext (.ref it) >>= _) R E s
  refine wpAny_bind (wpAny_pyNext_list_item hi hl (x:=xs[j]) (by simp [lt]) λg1 i1 b1=>?_)
  refine wpAny_bind (wpAny_holding (Ke ne m (j + 1) _ _ i1 (step g1 b1) (by omega) λg2 i2 b2=>wpAny_pure ?_))
  have z:=k g2 (by rw [show j + (m + 1)=j + 1 + m by omega]; exact i2) (b1.trans b2)
  rw [show xs.toList.drop j=xs[j] :: xs.toList.drop (j + 1) by simp [List.drop_eq_getElem_cons,lt],List.take_succ_cons] at z
  exact z
theorem zQf {s:Shared} {l:Addr} {xs:Array Value} {R:List Value->Shared->Prop} (hd:A.handled=none) (hl:s.heap.IsList l xs)
  (k:∀ g,Heap.ExtBut s.heap.objs.size s.heap g->R xs.toList { s with heap:=g }):wpAny (model prog w) A (unpackItems (.ref l) xs.size none) R E s:=by
 have ne:l≠s.heap.objs.size:=by
  obtain ⟨o,eo,_⟩:=hl
  exact Nat.ne_of_lt (Heap.lt_size eo)
 unfold unpackItems
 refine wpAny_bind ?_
 unfold notIterableAtAll
 refine wpAny_bind (wpAny_specialOf hl.typeIs slot_list_iter.lookup ?_)
 refine wpAny_pure ?_
 simp only [Bool.false_eq_true,if_false]
 refine wpAny_bind (wpAny_holding (wpAny_pyIter_list hl ?_))
 refine wpAny_bind (wpAny_holding (Ke ne xs.size 0 _ _ ⟨_,Heap.get?_push_size _ rfl,rfl,rfl⟩ (hl.push _) (by omega) λg1 i1 b1=>?_))
 rw [show List.take xs.size (List.drop 0 xs.toList)=xs.toList by rw [List.drop_zero]; exact List.take_of_length_le (by simp),if_neg (by simp)]
 refine wpAny_bind (wpAny_holding (wpAny_pyNext_list_end hd i1 ((hl.push _).extBut b1.extBut ne) (by simp) λg2 x2=>?_))
 simp only [Option.isSome_none,Bool.false_eq_true,if_false]
 exact wpAny_pure (k g2 λc o n e=>x2 c o n (b1.extBut c o n (Heap.get?_push_of_some _ e)))
end
section
variable {X:Cx} {pos:Pos}
def W2 (K:PySem.W.Frag) (n:Nat) (t:uY):TG:=λv σ H Q=>∃ a xs,v=.ref a/\zW K H a xs/\xs.length=n/\t xs σ H Q
theorem zP1 {es:List Expr} {k:Nat} {t:uY} {n:Nat} (hc:X.calm=true) (h:qN X es t)
  (hn:(assignEach es X.env).length=n:=by rfl) (hst:(assignEach es X.env).findIdx? (·.1)=none:=by rfl):PG X (.Tuple es k pos) (W2 X.K n t):=by
 intro pins s σ H v u Q I r hw
 obtain ⟨a,xs,e1,hq,hl,hw⟩:=hw
 subst e1
 cases r
 obtain ⟨its,rv,ht,hz⟩:=I.list hq
 rw [assign_Tuple]
 refine wpAny_bind (wpAny_standAt ?_)
 unfold unpack
 rw [show (assignEach es X.env).length=its.toArray.size by simp [hn,<- hl,rv.length],hst]
 refine wpAny_bind (wpAny_holding (zQf (I.ok.hd hc) ht.isList λg hx=>?_))
 have I1:zH X pins σ H { s with heap:=g }:=I.kept (t':=s.toks) λb o e=>hx b o (Nat.ne_of_lt (Heap.lt_size e)) e
 exact h pins _ σ H xs _ Q I1 (by simpa using rv) hw
end
end L2
namespace L2
open PySem PySem.Spec PyProof.Rows
inductive uc (i:Nat) (σ:St) (H:Hp) (Q:VK):Prop
 | mk (v:V) (_:σ[i]? = some (some v)) (_:Q v H):uc i σ H Q
inductive jZ (x:V) (vs:List V) (H:Hp) (Q:VK):Prop
 | mk (l:Addr) (xs:List V) (y:V) (_:x=.ref l) (_:vs=[y]) (_:H l=some (.lst xs)) (_:xs.length < sizeLine) (_:Q .non (za H l (.lst (xs++[y])))):jZ x vs H Q
section
variable {X:Cx}
theorem yO:Q5 X "list.append" jZ:=λpins s σ H x xs v us Q I rx rv ⟨l,ys,y,h1,h2,h3,h4,q⟩=>zLF pins s σ H x xs v us Q I rx rv ⟨l,ys,y,h1,h2,h3,h4,q⟩
theorem yU (i:Nat) {x:Str} {pos:Pos} (hN:X.N[i]? = some x:=by rfl) (hv:jN X.env.scope x:=by first | exact Or.inl rfl | exact Or.inr (Or.inl rfl) | exact Or.inr (Or.inr rfl)) (hd:(x == ("__debug__" : Str))=false:=by decide)
  (hcd:(x == ("__classdict__" : Str))=false:=by decide):PE X (.Name x pos) (uc i):=λpins s σ H Q I ⟨v,e,h⟩=>WM hN hv hd hcd pins s σ H Q I ⟨v,e,h⟩
end
end L2
namespace Sh
open PySem L2
def W3 (H:Hp) (v:V) (r:List Int):Prop:=∃ a,v=.ref a/\H a=some (.lst (r.map V.int))
abbrev gz (H:Hp) (vs:List V) (tab:List (List Int)):Prop:=Paired (W3 H) vs tab
def Kf (p:Addr) (H H':Hp):Prop:=∀ b o,H b=some o->b≠p->H' b=some o
structure MD where
 rows:List (List Int)
 nexts:List (List Int)
 steer:List Int
 push:List (List Int)
 add:List Int
 div:Int
structure xT (m:MD) (n p:Nat):Prop where
 rows:∀ r∈m.rows,r.length=n + 1
 few:m.rows.length<=900
 nexts:m.nexts.length=n/\∀ r∈m.nexts,r.length=n
 steer:m.steer.length=n
 push:m.push.length=n/\∀ r∈m.push,r.length=p
 add:m.add.length=n
 div:1<=m.div
 n3:n<=3
 p6:p<=12
def kA (r n s p a:V) (d:Int):List (Str × V):=[("rows",r),("nexts",n),("steer",s),("push",p),("add",a),("divisor",.int d)]
structure Kg (C:Addr) (H:Hp) (o:Addr) (m:MD) where
 dx:Addr
 r:Addr
 rv:List V
 n:Addr
 nv:List V
 s:Addr
 p:Addr
 pv:List V
 a:Addr
structure Kg.Ok {C:Addr} {H:Hp} {o:Addr} {m:MD} (M:Kg C H o m):Prop where
 ins:H o=some (.ins C M.dx (kA (.ref M.r) (.ref M.n) (.ref M.s) (.ref M.p) (.ref M.a) m.div))
 hr:H M.r=some (.lst M.rv)
 hrv:gn H M.rv m.rows
 hn:H M.n=some (.lst M.nv)
 hnv:gz H M.nv m.nexts
 hs:H M.s=some (.lst (m.steer.map V.int))
 hp:H M.p=some (.lst M.pv)
 hpv:gz H M.pv m.push
 ha:H M.a=some (.lst (m.add.map V.int))
structure wU (n:Nat) (bs:List (Int × Int)) (ms:List MD):Prop where
 n1:1<=n
 n3:n<=3
 bok:∀ b∈bs,b.1<=b.2
 b6:bs.length<=6
 m1:1<=ms.length
 m40:ms.length<=40
 mok:∀ m∈ms,xT m n bs.length
theorem W4 {K:PySem.W.Frag} {C:Addr}:PySem.W.kitOne K (.ref C) (.ref C)=some true:=by
 unfold PySem.W.kitOne
 rw [if_pos (by simp)]
end Sh
namespace Sh
open PySem L2
theorem zMc {H H1 H2:Hp} {x:Addr} (s:zF H H1) (b:Kf x H1 H2) (n:H x=none):zF H H2:=λc o e=>b _ _ (s _ _ e) (xZ e n)
theorem zKX {H:Hp} {x dx:Addr} (hx:H x=none) (hdx:H dx=none) (ne:dx≠x) (u o:HO):zF H (za (za H dx u) x o):=
 (xJ hdx _).trans (xJ ((zp (Ne.symm ne)).trans hx) _)
end Sh
namespace L2
open PySem PySem.Spec PyProof.Rows
section
variable {X:Cx} {e:Expr}
end
theorem zG.no {P:Program} {w:World} {K:PySem.W.Frag} {mg:Str->Option Value} {base:Heap} {CX:vc} {k:Nat} {f:Addr} {fd:FuncData} {ps:List Str} {sp:Sp} (hn:∀ vs H Q E,¬ sp vs H Q E):zG P w K mg base CX k f fd ps sp:=
 ⟨λ_ _ _ _ h=>(hn _ _ _ _ h).elim,λ_ _ _ _ _ _ _ _ _ _ _ _ _ h=>(hn _ _ _ _ h).elim⟩
end L2
namespace Sh
inductive RT where
 | str (ns:List Int) (a d:Int)
 | stp (t:RT) (lo hi:Int)
 | prt (row:List Int) (x y:RT)
def RT.dep:RT->Nat
 | .str _ _ _=>1
 | .stp t _ _=>t.dep + 1
 | .prt _ x y=>max x.dep y.dep + 1
def RT.rows:RT->List (List Int)
 | .str _ _ _=>[]
 | .stp t _ _=>t.rows
 | .prt r x y=>[r]++x.rows++y.rows
def xP (pts:List (Int × Int)):RT->Int × Int
 | .str ns a d=>(Wt ((ux ns pts).1 + a * (ux ns pts).2) ((ux ns pts).2 * d),Wu ((ux ns pts).1 + a * (ux ns pts).2) ((ux ns pts).2 * d))
 | .stp t lo hi=>if (xP pts t).1 < lo * (xP pts t).2 then (lo,1) else if hi * (xP pts t).2 < (xP pts t).1 then (hi,1) else xP pts t
 | .prt row x y=>if (ux (row.take pts.length) pts).1<=row.getD pts.length 0 * (ux (row.take pts.length) pts).2 then xP pts x else xP pts y
end Sh
namespace Sh
open PySem L2
end Sh
namespace Sh
open PySem L2
end Sh
namespace L2
open PySem PySem.Spec PyProof.Rows Sh
section
variable {X:Cx}
inductive Kh (K:PySem.W.Frag) (x y:V) (H:Hp) (Q:VK):Prop
 | mk (a b:Addr) (xs ys:List V) (_:x=.ref a) (_:y=.ref b) (_:H a=some (.tup xs)) (_:H b=some (.tup ys)) (_:xs≠[]) (_:xs.length + ys.length<=sizeLine) (_:∀ p H',zF H H'->H' p=some (.tup (xs++ys))->Q (.ref p) H'):Kh K x y H Q
theorem zOi:yn X (binaryOp .Add) (Kh X.K):=by
 intro pins s σ H x y v u Q I rx ry h
 obtain ⟨a,b,xs,ys,rfl,rfl,ha,hb,hne,hz,q⟩:=h
 exact zOj pins s σ H _ _ v u Q I rx ry ⟨a,b,xs,ys,rfl,rfl,zw.of ha,zw.of hb,hne,hz,λz=>q a H (zF.refl _) (ha.trans (by rw [z,List.append_nil])),λ_ p hp=>q p _ (xJ hp _) wK⟩
end
end L2
namespace Sh
section
variable {pts:List (Int × Int)} (hp:∀ p∈pts,0 < p.2)
include hp
end
end Sh
namespace Sh
open PySem L2
end Sh
namespace Sh
open PySem L2
end Sh
namespace L2
open PySem PySem.Spec PyProof.Rows
abbrev W5:=Array Value->Option Addr->Prop
def W6 (base:Heap) (l:List Env) (e:Addr) (cls:Value) (P:W5) (fl:Value) (h:Heap):Prop:=
 base.StaysIn h/\base.get? e=none/\h.FunFrames base l/\∃ (oe:Obj) (vs:Array Value) (T:Addr) (oT:Obj) (ts:Array Value),h.get? e=some oe/\oe.cls=cls/\oe.data=.fields vs/\P vs oe.dict/\vs[1]? = some (.ref T)/\base.get? T=none/\T≠e/\h.get? T=some oT/\oT.data=.fields ts/\ts[3]? = some fl
section
variable {M:Model} {A:Around} {E:Value->Shared->Prop} {s:Shared} {base:Heap} {env:Env} {outer:List Env} {L e:Addr} {cls:Value} {P:W5} {Q:Unit->Shared->Prop} {oe:Obj} {vs:Array Value}
end
def P0:W5:=λvs _=>vs[2]? = some .none
end L2
namespace L2
open PySem PySem.Spec PyProof.Rows
section
variable {P:Program} {w:World} {H:Hp} {h:Heap} {a:Addr}
end
structure XL (P:Program) (w:World) (outer:List Env) (H H':Hp) (s s':Shared) (B:Heap) (e:Addr) (cls a0:Value):Prop where
 os:s'.os=s.os
 bare:AllBare s'.gens
 keep:∀ b o,s.heap.get? b=some o->H b=none->b∉wt outer->B.get? b=some o
 slot:∀ b o,s.heap.get? b=some o->H b=none->b∈wt outer->∃ sl,s'.heap.get? b=some { o with slots:=sl }
 free:∀ b o,s.heap.get? b=some o->H b=none->H' b=none
 there:∀ b o,s.heap.get? b=some o->b∉wt outer->∃ o',B.get? b=some o'
 tups:∀ b xs,H b=some (.tup xs)->H' b=some (.tup xs)
 frzs:∀ b o u,H b=some (.frz o u)->H' b=some (.frz o u)
 tbls:∀ b ps,H b=some (.tbl ps)->∃ more,H' b=some (.tbl (ps++more))
 hok:xB P w H' B
 fly:W6 B outer e cls P0 .none s'.heap
section
variable {P:Program} {w:World} {outer:List Env} {H H':Hp} {s s':Shared} {B:Heap} {e:Addr} {cls a0:Value}
end
section
variable {P:Program} {w:World} {K:PySem.W.Frag} {mg:Str->Option Value} {base:Heap} {N:List Str} {qual:Str} {scope:Scope} {f:Addr} {cd:Value} {A:Around} {outer:List Env} {s:Shared} {H:Hp} {E:XK}
end
section
variable {P:Program} {w:World} {K:PySem.W.Frag} {mg:Str->Option Value} {base:Heap}
end
section
variable {X:Cx}
end
section
variable {X:Cx} {pins:List (Addr × Obj)} {σ:St} {H:Hp} {s:Shared} {e:Addr}
end
end L2
namespace L2
open PySem PySem.Spec PyProof.Rows
def XP (X:Cx) (pins:List (Addr × Obj)) (ES:St->XK) (ev:Value) (s':Shared):Prop:=
 ∃ (σ1:St) (s1:Shared) (H1 H2:Hp) (e:Addr) (cls a0:Value) (B:Heap),zH X pins σ1 H1 s1/\ev=.ref e/\XL X.prog X.w X.stack H1 H2 s1 s' B e cls a0/\ES σ1 cls none H2
section
variable {X:Cx} {call:Expr} {tb:XK->TE} {pos pos':Pos}
end
end L2
namespace L2
open PySem PySem.Spec PyProof.Rows
section
variable {X:Cx} {C:Addr} {m x:Str} {ps:List Str} {k:Nat} {sp:Sp} {o e:Expr} {es:List Expr} {ta:TE} {t:TA} {p pos apos:Pos}
end
section
variable {P:Program} {w:World} {K:PySem.W.Frag} {mg:Str->Option Value} {base:Heap} {N:List Str} {qual:Str} {scope:Scope} {f:Addr} {cd:Value} {A:Around} {outer:List Env} {s:Shared} {H:Hp} {E:XK}
variable {C:Addr} {m x:Str} {ps:List Str} {k:Nat} {sp:Sp} {o e:Expr} {es:List Expr} {ta:TE} {t:TA} {p pos apos:Pos}
end
end L2
namespace L2
open PySem PySem.Spec PyProof.Rows
section
variable {P:Program} {w:World} {K:PySem.W.Frag} {mg:Str->Option Value} {base:Heap} {k:Nat} {f C:Addr} {fd:FuncData} {x m:Str} {ps:List Str} {sp:Sp}
end
end L2
namespace L2
open PySem PySem.Spec PyProof.Rows PySem.Builtin PySem.Builtin.ObjectAttr PySem.Builtin.Getset_descriptor
section
variable {prog:Program} {w:World} {A:Around} {E:Value->Shared->Prop} {K:PySem.W.Frag} {s:Shared} {e C:Addr} {oe:Obj}
end
section
variable {X:Cx}
end
end L2
namespace Sh
open PySem L2
inductive AK where
 | int (i:Int)
 | bool (b:Bool)
 | non
 | str (x:Str)
 | dic
 | lst (as:List AK)
 | tup (as:List AK)
 | mode (r n s p a d:AK)
def AK.isInt:AK->Bool
 | .int _=>true
 | .bool _=>true
 | _=>false
def AK.isBool:AK->Bool
 | .bool _=>true
 | _=>false
def AK.isLst:AK->Bool
 | .lst _=>true
 | _=>false
def AK.isTup:AK->Bool
 | .tup _=>true
 | _=>false
inductive kB where
 | made | bad | many
def kB.str:kB->Str
 | .made=>"made"
 | .bad=>"bad"
 | .many=>"many"
end Sh
namespace HT
open PySem PySem.Spec PyProof.Rows
section
variable {prog:Program} {w:World} {A:Around} {E:Value->Shared->Prop} {s:Shared}
theorem cat_tup0 {t b:Addr} {vs ws:List Value} {Q:Value->Shared->Prop} (ht:IsTup s.heap t vs.toArray) (hb:IsTup s.heap b ws.toArray) (hv:vs=[]) (h0:Q (.ref b) s):wpAny (model prog w) A (binaryOp .Add (.ref t) (.ref b)) Q E s:=by
 obtain ⟨⟨cls,dd,data,sl⟩,ho,hc,n,hd⟩:=id ht
 obtain ⟨⟨cls2,dd2,data2,sl2⟩,ho2,hc2,n2,hd2⟩:=id hb
 simp only at hc hd hc2 hd2
 subst hc hd hc2 hd2
 exact concat_meets ⟨_,ho,rfl⟩ ⟨_,ho2,rfl⟩ noFill_tuple_add seq_tuple_add PySem.F.slot_tuple_add PySem.F.entry_tuple_add (PySem.F.args_tuple_add_2 _ _)
  (tuple_addW0 t b vs.toArray ws.toArray n n2 dd dd2 sl sl2 (by simp [hv])) ⟨ho,ho2,h0⟩
theorem getItem_tuple_all {t sl:Addr} {items:Array Value} {vl vu:Value} {lo hi:Option Int} {Q:Value->Shared->Prop} (ht:IsTup s.heap t items) (hs:s.heap.IsSliceOf sl vl vu .none) (pl:IsPart vl lo) (pu:IsPart vu hi)
  (hw:sIx items.size 0 lo=0/\sIx items.size items.size hi=items.size) (h:Q (.ref t) s):wpAny (model prog w) A (getItem (.ref t) (.ref sl)) Q E s:=by
 obtain ⟨os,hos,hcs,hds⟩:=id hs
 have hTs:s.TypeIs (.ref sl) "slice":=⟨os,hos,hcs⟩
 unfold getItem
 try with_reducible refine wpAny_holding ?_
 first | refine wpAny_bind (wpAny_pure ?_) | skip
 refine wpAny_bind (wpAny_sequenceKey ht.typeIs (by decide) ?_)
 refine wpAny_bind (wpAny_callSpecial?_slot (name:=Str.ofString "__getitem__") ht.typeIs PyProof.Rows.slot_tuple_getitem
  (wpAny_call_entry PyProof.Rows.slot_tuple_getitem ht.typeIs entry_tuple_getitem ?_ (args_tuple_getitem _ _)))
 show wpAny _ _ (Builtin.Tuple.tupleItemsOf (.ref t) >>= _) _ _ s
 refine wpAny_bind (tupleItemsOf_ ht ?_)
 refine wpAny_bind (wpAny_typeOf hTs ?_)
 rw [if_pos (by decide)]
 refine wpAny_bind (Qs hs pl pu ?_)
 have hyes:(((sIx items.size 0 lo:Nat):Int) == 0 && (1:Int) == 1 && (sIx items.size items.size hi - sIx items.size 0 lo) == items.size)=true:=by
  rw [hw.1,hw.2]
  simp
 show wpAny _ _ (if (((sIx items.size 0 lo:Nat):Int) == 0 && (1:Int) == 1 && (sIx items.size items.size hi - sIx items.size 0 lo) == items.size)=true then _ else _) _ _ s
 rw [if_pos hyes]
 unfold Builtin.Tuple.tupleIsExact
 refine wpAny_bind (wpAny_bind (wpAny_typeOf ht.typeIs (wpAny_pure ?_)))
 rw [if_pos (by decide)]
 refine wpAny_bind (wpAny_rule ?_)
 exact wpAny_pure ⟨_,rfl,wpAny_pure h⟩
end
end HT
namespace L2
open PySem PySem.Spec PyProof.Rows
section
variable {X:Cx}
inductive W7 (x y:V) (H:Hp) (Q:VK):Prop
 | mk (a b:Addr) (xs ys:List V) (_:x=.ref a) (_:y=.ref b) (_:H a=some (.tup xs)) (_:H b=some (.tup ys)) (_:xs.length + ys.length<=sizeLine) (_:∀ p H',zF H H'->H' p=some (.tup (xs++ys))->Q (.ref p) H'):W7 x y H Q
theorem kC:yn X (binaryOp .Add) W7:=by
 intro pins s σ H x y v u Q I rx ry h
 obtain ⟨a,b,xs,ys,rfl,rfl,ha,hb,hz,q⟩:=h
 by_cases hne:xs=[]
 ·subst hne
  cases rx
  cases ry
  obtain ⟨its,r1,p1,_⟩:=I.tuple (zw.of ha)
  obtain ⟨its2,r2,p2,_⟩:=I.tuple (zw.of hb)
  exact HT.cat_tup0 p1 p2 (r1.nil_iff.mpr rfl) ⟨.ref b,H,I,rfl,q b H (zF.refl _) hb⟩
 ·exact zOi pins s σ H _ _ v u Q I rx ry ⟨a,b,xs,ys,rfl,rfl,ha,hb,hne,hz,q⟩
inductive kD (x:V) (lo hi:Option Int) (H:Hp) (Q:VK):Prop
 | mk (a:Addr) (xs:List V) (_:x=.ref a) (_:H a=some (.tup xs)) (_:∀ p H',zF H H'->H' p=some (.tup (wQ xs lo hi))->Q (.ref p) H'):kD x lo hi H Q
theorem zNE:jS X kD:=by
 intro pins s σ H x v vl vu lo hi sl Q I rx hs pl pu h
 obtain ⟨a,xs,rfl,hx,q⟩:=h
 by_cases hw:HT.sIx xs.length 0 lo=0/\HT.sIx xs.length xs.length hi=xs.length
 ·cases rx
  obtain ⟨its,r,ht,hz⟩:=I.tuple (zw.of hx)
  have hlen:its.toArray.size=xs.length:=by rw [List.size_toArray]; exact r.length.symm
  refine ⟨"tuple",_,PyProof.Rows.slot_tuple_getitem.lookup,ht.typeIs,?_⟩
  refine HT.getItem_tuple_all ht hs pl pu (by rw [hlen]; exact hw) ⟨.ref a,H,I,rfl,q a H (zF.refl _) (hx.trans ?_)⟩
  unfold wQ
  rw [hw.1,hw.2,List.drop_zero,Nat.sub_zero,List.take_length]
 ·exact zPa pins s σ H _ v vl vu lo hi sl Q I rx hs pl pu ⟨a,xs,rfl,zw.of hx,hw,λp hp=>q p _ (Sh.xJ hp _) wK⟩
end
end L2
set_option linter.all false
namespace Sh
def bt:List (Int × Int)->Int
 | []=>1
 | p :: ps=>p.2 * bt ps
def tp:List Int->List (Int × Int)->Int
 | w :: ws,p :: ps=>w * p.1 * bt ps + p.2 * tp ws ps
 | _,_=>0
def yx:List Int->List Int->Int
 | r :: rs,a :: as=>r * a + yx rs as
 | _,_=>0
def zr (nums:List Int) (ls:List (List Int)) (j:Nat):Int:=((nums.zip ls).map λq=>q.1 * q.2.getD j 0).sum
theorem Ki (r:Int) (rs:List Int) (c:List Int) (cs:List (List Int)) (j:Nat):zr (r :: rs) (c :: cs) j=r * c.getD j 0 + zr rs cs j:=by
 simp only [zr,List.zip_cons_cons,List.map_cons,List.sum_cons]
end Sh
set_option linter.all false
namespace Sh
def y6 (pl:Int) (n:Nat) (nu:Int):List Int:=(List.range n).map λ(i:Nat)=>if (i:Int)=pl then nu else 0
theorem u8 (pl:Int) (n:Nat) (nu:Int):(y6 pl n nu).length=n:=by
 unfold y6
 rw [List.length_map,List.length_range]
def wy (n p:Nat) (r:List Int):List Int:=(r.take n++List.replicate p 0)++[r.getD n 0]
def ve (n p:Nat) (i:Nat) (b:Int × Int):List (List Int):=[y6 ((n + i:Nat):Int) (n + p) 1++[b.2],y6 ((n + i:Nat):Int) (n + p) (-1)++[-b.1]]
def kF (n:Nat) (bs:List (Int × Int)) (rows:List (List Int)):List (List Int):=rows.map (wy n bs.length)++(bs.mapIdx (ve n bs.length)).flatten
def hB (pts:List (Int × Int)) (ws:List Int) (b:Int):Bool:=decide (tp ws pts<=b * bt pts)
def hR (pts:List (Int × Int)) (r:List Int):Bool:=hB pts (r.take pts.length) (r.getD pts.length 0)
end Sh
set_option linter.all false
namespace Sh
theorem Kj:∀ (ns:List Int) (ls:List (List Int)) (j:Nat),zr ns ls j=yx ns (ls.map λr=>r.getD j 0)
 | [],_,_=>by simp [zr,yx]
 | _ :: _,[],_=>by simp [zr,yx]
 | n :: ns,l :: ls,j=>by rw [Ki,List.map_cons,Kj ns ls j]; rfl
end Sh
set_option linter.all false
namespace Sh
theorem zMo (r:List Int) (rows:List (List Int)) (x:Int) (nums:List Int) (j:Nat):vm (r :: rows) (x :: nums) j=r.getD j 0 * x + vm rows nums j:=by unfold vm; simp
end Sh
namespace Pu
open PySem L2 Sh
inductive D where
 | int (i:Int)
 | bool (b:Bool)
 | non
 | str (x:Str)
 | scr (ns:List Int)
 | lst (ds:List D)
 | tup (ds:List D)
 | obj (c:Addr) (ns:List Str) (ds:List D)
inductive DV (H:Hp):V->D->Prop where
 | int (i:Int):DV H (.int i) (.int i)
 | bool (b:Bool):DV H (.bl b) (.bool b)
 | non:DV H .non .non
 | str (x:Str):DV H (.str x) (.str x)
 | scr {a:Addr} {ns:List Int} (e:Rd H a (.lst (ns.map V.int))):DV H (.ref a) (.scr ns)
 | lst {a:Addr} {xs:List V} {ds:List D} (e:H a=some (.lst xs)) (h:Paired (DV H) xs ds):DV H (.ref a) (.lst ds)
 | tup {a:Addr} {xs:List V} {ds:List D} (e:H a=some (.tup xs)) (h:Paired (DV H) xs ds):DV H (.ref a) (.tup ds)
 | obj {o dx c:Addr} {ns:List Str} {xs:List V} {ds:List D} (e:H o=some (.ins c dx (ns.zip xs))) (l:ns.length=xs.length) (h:Paired (DV H) xs ds):DV H (.ref o) (.obj c ns ds)
theorem kG {H H':Hp} (s:zF H H') {a:Addr} {u:HO} (h:Rd H a u):Rd H' a u:=h.imp (s _ _) λ⟨o,e⟩=>⟨o,s _ _ e⟩
theorem DV.same {H H':Hp} (s:zF H H'):∀ {v:V} {d:D},DV H v d->DV H' v d
 | _,_,.int i=>.int i
 | _,_,.bool b=>.bool b
 | _,_,.non=>.non
 | _,_,.str x=>.str x
 | _,_,.scr e=>.scr (kG s e)
 | _,_,.lst e h=>.lst (s _ _ e) (go s h)
 | _,_,.tup e h=>.tup (s _ _ e) (go s h)
 | _,_,.obj e l h=>.obj (s _ _ e) l (go s h)
where
 go {H H':Hp} (s:zF H H'):∀ {xs:List V} {ds:List D},Paired (DV H) xs ds->Paired (DV H') xs ds
  | _,_,.nil=>.nil
  | _,_,.cons h t=>.cons (DV.same s h) (go s t)
abbrev yE (H:Hp):List V->List D->Prop:=Paired (DV H)
theorem yy {H H':Hp} (s:zF H H') {xs:List V} {ds:List D} (h:yE H xs ds):yE H' xs ds:=DV.same.go s h
theorem W8 {H:Hp}:∀ {xs:List V} {ns:List Int},yE H xs (ns.map D.int)->xs=ns.map V.int
 | _,[],.nil=>rfl
 | _,_ :: _,.cons h t=>by cases h; rw [W8 t]; rfl
theorem Kk {H:Hp}:∀ {xs:List V} {bs:List Bool},yE H xs (bs.map D.bool)->xs=bs.map V.bl
 | _,[],.nil=>rfl
 | _,_ :: _,.cons h t=>by cases h; rw [Kk t]; rfl
theorem Kl {H:Hp}:∀ {ns:List Int},yE H (ns.map V.int) (ns.map D.int)
 | []=>.nil
 | _ :: _=>.cons (.int _) Kl
open Classical in
noncomputable def zS (Z:Addr->Prop) (H:Hp):Hp:=λb=>if Z b then none else H b
theorem vR {Z:Addr->Prop} {H:Hp} {b:Addr} (h:¬ Z b):zS Z H b=H b:=if_neg h
theorem qd {Z:Addr->Prop} {H:Hp} {b:Addr} {o:HO} (h:zS Z H b=some o):¬ Z b/\H b=some o:=by
 unfold zS at h
 by_cases c:Z b
 ·rw [if_pos c] at h; cases h
 ·rw [if_neg c] at h; exact ⟨c,h⟩
theorem zv {Z:Addr->Prop} {H:Hp}:zF (zS Z H) H:=λ_ _ h=>(qd h).2
theorem yd {Z:Addr->Prop} {H H':Hp} (s:zF H H'):zF (zS Z H) (zS Z H'):=λb o h=>by
 obtain ⟨h1,h2⟩:=qd h
 rw [vR h1]
 exact s _ _ h2
theorem kH {Z Z':Addr->Prop} {H:Hp} (s:∀ b,Z' b->Z b):zF (zS Z H) (zS Z' H):=λb o h=>by
 obtain ⟨h1,h2⟩:=qd h
 rw [vR λz=>h1 (s _ z)]
 exact h2
def ZL (Z:Addr->Prop) (H:Hp):Prop:=∀ b,Z b->∃ u,H b=some u/\∀ xs,u≠.tup xs
theorem ZL.same {Z:Addr->Prop} {H H':Hp} (z:ZL Z H) (s:zF H H'):ZL Z H':=λb hb=>let ⟨u,e,n⟩:=z b hb; ⟨u,s _ _ e,n⟩
theorem ZL.new {Z:Addr->Prop} {H:Hp} (z:ZL Z H) {p:Addr} (h:H p=none):¬ Z p:=λq=>by
 obtain ⟨u,e,_⟩:=z p q
 rw [h] at e
 cases e
inductive Sl where
 | no
 | sh (d:D)
 | ow (ds:List D)
 | ob (o c:Addr) (ns:List Str) (ds:List D)
def slot:List Sl->Nat->Sl
 | [],_=>.no
 | x :: _,0=>x
 | _ :: t,i + 1=>slot t i
def zy:List Sl->Nat->Sl->List Sl
 | [],_,_=>[]
 | _ :: t,0,y=>y :: t
 | x :: t,i + 1,y=>x :: zy t i y
theorem ja:∀ (Γ:List Sl) (i:Nat) (y:Sl),(zy Γ i y).length=Γ.length
 | [],_,_=>rfl
 | _ :: _,0,_=>rfl
 | _ :: t,i + 1,y=>by show (zy t i y).length + 1=_; rw [ja t i y]; rfl
theorem xK:∀ (Γ:List Sl) (i j:Nat) (y:Sl),slot (zy Γ i y) j=if j=i/\i < Γ.length then y else slot Γ j
 | [],i,j,y=>by rw [if_neg (λh=>absurd h.2 (Nat.not_lt_zero _))]; rfl
 | x :: t,0,0,y=>(if_pos ⟨rfl,Nat.zero_lt_succ _⟩).symm
 | x :: t,0,j + 1,y=>(if_neg (λh=>nomatch h.1)).symm
 | x :: t,i + 1,0,y=>(if_neg (λh=>nomatch h.1)).symm
 | x :: t,i + 1,j + 1,y=>by
  show slot (zy t i y) j=if j + 1=i + 1/\i + 1 < t.length + 1 then y else slot t j
  rw [xK t i j y]
  by_cases c:j=i/\i < t.length
  ·rw [if_pos c,if_pos ⟨by omega,by omega⟩]
  ·rw [if_neg c,if_neg (λh=>c ⟨by omega,by omega⟩)]
theorem vn:∀ {Γ:List Sl} {i:Nat},slot Γ i≠.no->i < Γ.length
 | [],_,h=>absurd rfl h
 | _ :: _,0,_=>Nat.zero_lt_succ _
 | _ :: _,_ + 1,h=>Nat.succ_lt_succ (vn (Γ:=_) h)
structure yP (Z:Addr->Prop) (Γ:List Sl) (σ:St) (H:Hp):Prop where
 sh:∀ i d,slot Γ i=.sh d->∃ v,σ[i]? = some (some v)/\DV (zS Z H) v d
 ow:∀ i ds,slot Γ i=.ow ds->∃ l xs,σ[i]? = some (some (.ref l))/\Z l/\H l=some (.lst xs)/\yE (zS Z H) xs ds
 ob:∀ i o c ns ds,slot Γ i=.ob o c ns ds->∃ dx xs,σ[i]? = some (some (.ref o))/\Z o/\H o=some (.ins c dx (ns.zip xs))/\ns.length=xs.length/\yE (zS Z H) xs ds
 ne:∀ i j as bs l,slot Γ i=.ow as->slot Γ j=.ow bs->σ[i]? = some (some (.ref l))->σ[j]? = some (some (.ref l))->i=j
 zd:ZL Z H
 len:Γ.length=σ.length
theorem yP.same {Z:Addr->Prop} {Γ:List Sl} {σ:St} {H H':Hp} (E:yP Z Γ σ H) (s:zF H H'):yP Z Γ σ H' where
 sh:=λi d e=>let ⟨v,h1,h2⟩:=E.sh i d e; ⟨v,h1,h2.same (yd s)⟩
 ow:=λi ds e=>let ⟨l,xs,h1,h2,h3,h4⟩:=E.ow i ds e; ⟨l,xs,h1,h2,s _ _ h3,yy (yd s) h4⟩
 ob:=λi o c ns ds e=>let ⟨dx,xs,h1,h2,h3,h5,h4⟩:=E.ob i o c ns ds e; ⟨dx,xs,h1,h2,s _ _ h3,h5,yy (yd s) h4⟩
 ne:=E.ne
 zd:=E.zd.same s
 len:=E.len
theorem yP.set {Z:Addr->Prop} {Γ:List Sl} {σ:St} {H:Hp} (E:yP Z Γ σ H) {v:V} {d:D} (h:DV (zS Z H) v d) (i:Nat):yP Z (zy Γ i (.sh d)) (σ.set i (some v)) H where
 sh:=λj e q=>by
  rw [xK] at q
  by_cases c:j=i/\i < Γ.length
  ·rw [if_pos c] at q
   cases q
   rw [c.1]
   exact ⟨v,by rw [List.getElem?_set_self (by have:=E.len; omega)],h⟩
  ·rw [if_neg c] at q
   obtain ⟨u,h1,h2⟩:=E.sh j e q
   have hj:=vn (Γ:=Γ) (i:=j) (by rw [q]; exact λz=>nomatch z)
   exact ⟨u,by rw [List.getElem?_set_ne (λz=>c ⟨z.symm,by omega⟩)]; exact h1,h2⟩
 ow:=λj e q=>by
  rw [xK] at q
  by_cases c:j=i/\i < Γ.length
  ·rw [if_pos c] at q; cases q
  ·rw [if_neg c] at q
   obtain ⟨l,xs,h1,h2⟩:=E.ow j e q
   have hj:=vn (Γ:=Γ) (i:=j) (by rw [q]; exact λz=>nomatch z)
   exact ⟨l,xs,by rw [List.getElem?_set_ne (λz=>c ⟨z.symm,by omega⟩)]; exact h1,h2⟩
 ob:=λj o0 c0 ns e q=>by
  rw [xK] at q
  by_cases c:j=i/\i < Γ.length
  ·rw [if_pos c] at q; cases q
  ·rw [if_neg c] at q
   obtain ⟨dx,xs,h1,h2⟩:=E.ob j o0 c0 ns e q
   have hj:=vn (Γ:=Γ) (i:=j) (by rw [q]; exact λz=>nomatch z)
   exact ⟨dx,xs,by rw [List.getElem?_set_ne (λz=>c ⟨z.symm,by omega⟩)]; exact h1,h2⟩
 ne:=λj k as bs l q r e f=>by
  rw [xK] at q r
  by_cases c:j=i/\i < Γ.length
  ·rw [if_pos c] at q; cases q
  ·by_cases c':k=i/\i < Γ.length
   ·rw [if_pos c'] at r; cases r
   ·rw [if_neg c] at q
    rw [if_neg c'] at r
    have hj:=vn (Γ:=Γ) (i:=j) (by rw [q]; exact λz=>nomatch z)
    have hk:=vn (Γ:=Γ) (i:=k) (by rw [r]; exact λz=>nomatch z)
    rw [List.getElem?_set_ne (λz=>c ⟨z.symm,by omega⟩)] at e
    rw [List.getElem?_set_ne (λz=>c' ⟨z.symm,by omega⟩)] at f
    exact E.ne j k as bs l q r e f
 zd:=E.zd
 len:=by rw [ja,List.length_set]; exact E.len
abbrev zz:=List Sl->(D->Prop)->Prop
abbrev wB:=List Sl->(Bool->Prop)->Prop
abbrev yk:=List Sl->(List D->Prop)->Prop
abbrev jb:=List Sl->(Option Int->Prop)->Prop
inductive tP (p:zz) (σ:St) (H:Hp) (Q:VK):Prop
 | mk (Z:Addr->Prop) (Γ:List Sl) (R:D->Prop) (E:yP Z Γ σ H) (h:p Γ R) (q:∀ d v H',R d->zF H H'->DV (zS Z H') v d->Q v H'):tP p σ H Q
inductive xC (p:wB) (σ:St) (H:Hp) (Q:Bool->Hp->Prop):Prop
 | mk (Z:Addr->Prop) (Γ:List Sl) (R:Bool->Prop) (E:yP Z Γ σ H) (h:p Γ R) (q:∀ b H',R b->zF H H'->Q b H'):xC p σ H Q
inductive wC (p:yk) (σ:St) (H:Hp) (Q:List V->Hp->Prop):Prop
 | mk (Z:Addr->Prop) (Γ:List Sl) (R:List D->Prop) (E:yP Z Γ σ H) (h:p Γ R) (q:∀ ds vs H',R ds->zF H H'->yE (zS Z H') vs ds->Q vs H'):wC p σ H Q
inductive jc (p:jb) (σ:St) (H:Hp) (Q:Option Int->Hp->Prop):Prop
 | mk (Z:Addr->Prop) (Γ:List Sl) (R:Option Int->Prop) (E:yP Z Γ σ H) (h:p Γ R) (q:∀ o H',R o->zF H H'->Q o H'):jc p σ H Q
section
variable {X:Cx} {a b e c:Expr} {es:List Expr} {pos:Pos} {pa pb pc:zz} {qa qb:wB} {pl:yk}
theorem yG {t t':TE} (h:PE X e t) (w:∀ σ H Q,t' σ H Q->t σ H Q):PE X e t':=λpins s σ H Q I q=>h pins s σ H Q I (w σ H Q q)
theorem W9 {t t':TT} (h:PT X e t) (w:∀ σ H Q,t' σ H Q->t σ H Q):PT X e t':=λpins s σ H Q I q=>h pins s σ H Q I (w σ H Q q)
theorem Km {t t':TT} (h:PW X e t) (w:∀ σ H Q,t' σ H Q->t σ H Q):PW X e t':=λwh pins s σ H Q I q=>h wh pins s σ H Q I (w σ H Q q)
theorem Kn {t t':TA} (h:PA X es t) (w:∀ σ H Q,t' σ H Q->t σ H Q):PA X es t':=λpos pins s σ H Q I q=>h pos pins s σ H Q I (w σ H Q q)
def Ko (i:Nat):zz:=λΓ R=>match slot Γ i with | .sh d=>R d | _=>False
theorem zA (i:Nat) {x:Str} {pos:Pos} (hN:X.N[i]? = some x:=by rfl) (hv:jN X.env.scope x:=by first | exact Or.inl rfl | exact Or.inr (Or.inl rfl) | exact Or.inr (Or.inr rfl)) (hd:(x == ("__debug__" : Str))=false:=by decide)
  (hcd:(x == ("__classdict__" : Str))=false:=by decide):PE X (.Name x pos) (tP (Ko i)):=yG (WM hN hv hd hcd) λσ H Q ⟨Z,Γ,R,E,h,q⟩=>by
 unfold Ko at h
 cases s:slot Γ i with
 | sh d=>
  rw [s] at h
  obtain ⟨v,e,k⟩:=E.sh i d s
  exact ⟨v,e,q d v H h (zF.refl _) k⟩
 | _=>rw [s] at h; exact h.elim
def pC (d:D):zz:=λ_ R=>R d
theorem zD {i j pos}:PE X (.Constant (.int i) j pos) (tP (pC (.int i))):=yG QH λ_ H _ ⟨_,_,_,_,h,q⟩=>q _ _ H h (zF.refl _) (.int i)
theorem xb {i j pos}:PE X (.Constant (.bool i) j pos) (tP (pC (.bool i))):=yG gF λ_ H _ ⟨_,_,_,_,h,q⟩=>q _ _ H h (zF.refl _) (.bool i)
theorem kI {j pos}:PE X (.Constant .none j pos) (tP (pC .non)):=yG zP6 λ_ H _ ⟨_,_,_,_,h,q⟩=>q _ _ H h (zF.refl _) .non
theorem UA {x:Str} {i:Int} {pos:Pos} (hg:Gl X x) (hm:∃ t,X.mg x=some (.int i t)) (hd:(x == ("__debug__" : Str))=false:=by decide):PE X (.Name x pos) (tP (pC (.int i))):=
 let ⟨_,e⟩:=hm
 yG (QI (v:=.int i) hg e ⟨_,rfl⟩ hd) λ_ H _ ⟨_,_,_,_,h,q⟩=>q _ _ H h (zF.refl _) (.int i)
abbrev F2:=D->D->(D->Prop)->Prop
def xo (f:F2) (pa pb:zz):zz:=λΓ R=>pa Γ λx=>pb Γ λy=>f x y R
def wV (r:R2) (f:F2):Prop:=∀ (Z:Addr->Prop) (H:Hp) (x y:V) (a b:D) (R:D->Prop) (Q:VK),ZL Z H->DV (zS Z H) x a->DV (zS Z H) y b->f a b R->(∀ d v H',R d->zF H H'->DV (zS Z H') v d->Q v H')->r x y H Q
theorem Yx {r:R2} {f:F2} (o:wV r f) (σ:St) (H:Hp) (Q:VK):tP (xo f pa pb) σ H Q->gO r (tP pa) (tP pb) σ H Q:=λ⟨Z,Γ,R,E,h,q⟩=>
 ⟨Z,Γ,_,E,h,λd v H1 hd s1 hv=>⟨Z,Γ,_,E.same s1,hd,λd2 v2 H2 hd2 s2 hv2=>o Z H2 v v2 d d2 R Q (E.same (s1.trans s2)).zd (hv.same (yd s2)) hv2 hd2 λd3 v3 H3 h3 s3 hv3=>q d3 v3 H3 h3 (s1.trans (s2.trans s3)) hv3⟩⟩
theorem qf {op:Operator} {r:R2} {f:F2} (ho:yn X (binaryOp op) r) (o:wV r f) (ha:PE X a (tP pa)) (hb:PE X b (tP pb)):PE X (.BinOp a op b pos) (tP (xo f pa pb)):=yG (QP ho ha hb) (Yx o)
theorem Yy {op:CmpOp} {r:R2} {f:F2} (ho:yn X (compareOp op) r) (o:wV r f) (hm:behindInMarks op b=false) (ha:PE X a (tP pa)) (hb:PE X b (tP pb)):PE X (.Compare a [op] [b] pos) (tP (xo f pa pb)):=yG (zOd ho ha hb hm) (Yx o)
theorem v9 {Z:Addr->Prop} {H:Hp} {p:Addr} {xs:List V} {ds:List D} (zd:ZL Z H) (hp:H p=none) (h:yE (zS Z H) xs ds):DV (zS Z (za H p (.lst xs))) (.ref p) (.lst ds):=
 .lst ((vR (zd.new hp)).trans wK) (yy (yd (xJ hp _)) h)
theorem kJ {Z:Addr->Prop} {H:Hp} {p:Addr} {xs:List V} {ds:List D} (zd:ZL Z H) (hp:H p=none) (h:yE (zS Z H) xs ds):DV (zS Z (za H p (.tup xs))) (.ref p) (.tup ds):=
 .tup ((vR (zd.new hp)).trans wK) (yy (yd (xJ hp _)) h)
theorem Kp {Z:Addr->Prop} {H:Hp} {p:Addr} {xs:List V} {ds:List D} (zd:ZL Z H) (e:H p=some (.tup xs)) (h:yE (zS Z H) xs ds):DV (zS Z H) (.ref p) (.tup ds):=
 .tup ((vR λz=>by
  obtain ⟨u,e',n⟩:=zd p z
  rw [e] at e'
  cases e'
  exact n xs rfl).trans e) h
theorem DV.lst_inv {H:Hp} {v:V} {ds:List D} (h:DV H v (.lst ds)):∃ p xs,v=.ref p/\H p=some (.lst xs)/\yE H xs ds:=by cases h with | lst e h=>exact ⟨_,_,rfl,e,h⟩
theorem DV.tup_inv {H:Hp} {v:V} {ds:List D} (h:DV H v (.tup ds)):∃ p xs,v=.ref p/\H p=some (.tup xs)/\yE H xs ds:=by cases h with | tup e h=>exact ⟨_,_,rfl,e,h⟩
theorem few {n:Nat} (h:n<=1000):n<=sizeLine:=Nat.le_of_lt (YX h)
def jd:F2
 | .int i,.int j,R=>R (.int (i + j))
 | .lst as,.lst bs,R=>as.length + bs.length<=1000/\R (.lst (as++bs))
 | .tup as,.tup bs,R=>as.length + bs.length<=1000/\R (.tup (as++bs))
 | _,_,_=>False
theorem zOq:wV (λx y H Q=>vj (λi j=>.int (i + j)) x y H Q\/(gb x y H Q\/W7 x y H Q)) jd:=λZ H x y a b R Q zd hx hy h q=>by
 unfold jd at h
 split at h
 ·cases hx; cases hy; exact .inl ⟨_,_,rfl,rfl,q _ _ H h (zF.refl _) (.int _)⟩
 ·obtain ⟨p,xs,rfl,e1,h1⟩:=hx.lst_inv
  obtain ⟨r,ys,rfl,e2,h2⟩:=hy.lst_inv
  have l1:=Paired.length h1
  have l2:=Paired.length h2
  exact .inr (.inl ⟨p,r,xs,ys,rfl,rfl,zv _ _ e1,zv _ _ e2,few (by omega),λn hn=>q _ _ _ h.2 (xJ hn _) (v9 zd hn (gm h1 h2))⟩)
 ·obtain ⟨p,xs,rfl,e1,h1⟩:=hx.tup_inv
  obtain ⟨r,ys,rfl,e2,h2⟩:=hy.tup_inv
  have l1:=Paired.length h1
  have l2:=Paired.length h2
  exact .inr (.inr ⟨p,r,xs,ys,rfl,rfl,zv _ _ e1,zv _ _ e2,few (by omega),λn H' s e=>q _ _ _ h.2 s (Kp (zd.same s) e (yy (yd s) (gm h1 h2)))⟩)
 ·exact h.elim
def je:F2
 | .int i,.int j,R=>R (.int (i - j))
 | _,_,_=>False
theorem Kq {g:Int->Int->V} {k:Int->Int->D} {f:F2} (hg:∀ i j H,DV H (g i j) (k i j)) (hf:∀ a b R,f a b R->∃ i j,a=.int i/\b=.int j/\R (k i j)):wV (vj g) f:=λZ H x y a b R Q zd hx hy h q=>by
 obtain ⟨i,j,rfl,rfl,k⟩:=hf a b R h
 cases hx; cases hy
 exact ⟨_,_,rfl,rfl,q _ _ H k (zF.refl _) (hg i j _)⟩
theorem UB {C:Int->Int->Prop} {g:Int->Int->V} {k:Int->Int->D} {f:F2} (hg:∀ i j H,DV H (g i j) (k i j)) (hf:∀ a b R,f a b R->∃ i j,a=.int i/\b=.int j/\C i j/\R (k i j)):wV (rI C g) f:=λZ H x y a b R Q zd hx hy h q=>by
 obtain ⟨i,j,rfl,rfl,c,k⟩:=hf a b R h
 cases hx; cases hy
 exact ⟨_,_,rfl,rfl,c,q _ _ H k (zF.refl _) (hg i j _)⟩
theorem zOk:wV (vj λi j=>.int (i - j)) je:=Kq (k:=λi j=>.int (i - j)) (λ_ _ _=>.int _) λa b R h=>by
 unfold je at h
 split at h
 ·exact ⟨_,_,rfl,rfl,h⟩
 ·exact h.elim
def jf:F2
 | .int i,.int j,R=>Bd 60000 i/\Bd 60000 j/\R (.int (i * j))
 | .lst [d],.int k,R=>0<=k/\k<=1000/\R (.lst (List.replicate k.toNat d))
 | _,_,_=>False
theorem kK {α:Type} (x:α):∀ n:Nat,(List.replicate n [x]).flatten=List.replicate n x
 | 0=>rfl
 | n + 1=>by rw [List.replicate_succ,List.flatten_cons,kK x n]; rfl
theorem Kr {α β:Type} {R:α->β->Prop} {x:α} {y:β} (h:R x y):∀ n:Nat,Paired R (List.replicate n x) (List.replicate n y)
 | 0=>.nil
 | n + 1=>.cons h (Kr h n)
theorem zOm:wV (λx y H Q=>rI YZ (λi j=>.int (i * j)) x y H Q\/gc x y H Q) jf:=λZ H x y a b R Q zd hx hy h q=>by
 unfold jf at h
 split at h
 ·cases hx; cases hy; exact .inl ⟨_,_,rfl,rfl,⟨h.1,h.2.1⟩,q _ _ H h.2.2 (zF.refl _) (.int _)⟩
 ·rename_i d k
  obtain ⟨p,xs,rfl,e1,h1⟩:=hx.lst_inv
  cases hy
  cases h1 with
  | @cons x _ _ _ h1 h2=>
  cases h2
  refine .inr ⟨p,_,_,rfl,rfl,zv _ _ e1,by omega,by omega,few (by rw [List.length_singleton]; omega),λn hn=>?_⟩
  rw [kK]
  exact q _ _ _ h.2.2 (xJ hn _) (v9 zd hn (Kr h1 _))
 ·exact h.elim
def UC:F2
 | .int i,.int j,R=>j≠0/\Bd 8000 j/\R (.int (i.fdiv j))
 | _,_,_=>False
theorem zMz:wV (rI KE λi j=>.int (i.fdiv j)) UC:=UB (k:=λi j=>.int (i.fdiv j)) (λ_ _ _=>.int _) λa b R h=>by
 unfold UC at h
 split at h
 ·exact ⟨_,_,rfl,rfl,⟨h.1,h.2.1⟩,h.2.2⟩
 ·exact h.elim
def jg:F2
 | .int i,.int j,R=>j≠0/\R (.int (i.fmod j))
 | _,_,_=>False
theorem zOn:wV (rI (λ_ j=>j≠0) λi j=>.int (i.fmod j)) jg:=UB (k:=λi j=>.int (i.fmod j)) (λ_ _ _=>.int _) λa b R h=>by
 unfold jg at h
 split at h
 ·exact ⟨_,_,rfl,rfl,h.1,h.2⟩
 ·exact h.elim
def jh:F2
 | .int i,.int j,R=>jQ i j/\R (.int (i ^ j.toNat))
 | _,_,_=>False
theorem zOl:wV (rI jQ λi j=>.int (i ^ j.toNat)) jh:=UB (k:=λi j=>.int (i ^ j.toNat)) (λ_ _ _=>.int _) λa b R h=>by
 unfold jh at h
 split at h
 ·exact ⟨_,_,rfl,rfl,h.1,h.2⟩
 ·exact h.elim
def wW (g:Int->Int->Bool):F2
 | .int i,.int j,R=>R (.bool (g i j))
 | _,_,_=>False
theorem qg {g:Int->Int->Bool}:wV (vj λi j=>.bl (g i j)) (wW g):=Kq (k:=λi j=>.bool (g i j)) (λ_ _ _=>.bool _) λa b R h=>by
 unfold wW at h
 split at h
 ·exact ⟨_,_,rfl,rfl,h⟩
 ·exact h.elim
theorem zh (ha:PE X a (tP pa)) (hb:PE X b (tP pb)):PE X (.BinOp a .Add b pos) (tP (xo jd pa pb)):=qf (zQO.or (zQN.or kC)) zOq ha hb
theorem xc (ha:PE X a (tP pa)) (hb:PE X b (tP pb)):PE X (.BinOp a .Sub b pos) (tP (xo je pa pb)):=qf zQE zOk ha hb
theorem ya (ha:PE X a (tP pa)) (hb:PE X b (tP pb)):PE X (.BinOp a .Mult b pos) (tP (xo jf pa pb)):=qf (zOh.or zQF) zOm ha hb
theorem xq (ha:PE X a (tP pa)) (hb:PE X b (tP pb)):PE X (.BinOp a .FloorDiv b pos) (tP (xo UC pa pb)):=qf zMy zMz ha hb
theorem ye (ha:PE X a (tP pa)) (hb:PE X b (tP pb)):PE X (.BinOp a .Mod b pos) (tP (xo jg pa pb)):=qf QQ zOn ha hb
theorem ud (ha:PE X a (tP pa)) (hb:PE X b (tP pb)):PE X (.BinOp a .Pow b pos) (tP (xo jh pa pb)):=qf zQG zOl ha hb
theorem kL (ha:PE X a (tP pa)) (hb:PE X b (tP pb)):PE X (.Compare a [.Lt] [b] pos) (tP (xo (wW λi j=>decide (i < j)) pa pb)):=Yy QX qg (v5 _) ha hb
theorem UD (ha:PE X a (tP pa)) (hb:PE X b (tP pb)):PE X (.Compare a [.LtE] [b] pos) (tP (xo (wW λi j=>decide (i<=j)) pa pb)):=Yy gS qg (v5 _) ha hb
theorem Ks (ha:PE X a (tP pa)) (hb:PE X b (tP pb)):PE X (.Compare a [.GtE] [b] pos) (tP (xo (wW λi j=>decide (j<=i)) pa pb)):=Yy QY qg (v5 _) ha hb
def kM:D->(D->Prop)->Prop
 | .int i,R=>R (.int (-i))
 | _,_=>False
def kN (f:D->(D->Prop)->Prop) (pa:zz):zz:=λΓ R=>pa Γ λx=>f x R
theorem xQ (ha:PE X a (tP pa)):PE X (.UnaryOp .USub a pos) (tP (kN kM pa)):=yG (gP zPL ha) λσ H Q ⟨Z,Γ,R,E,h,q⟩=>
 ⟨Z,Γ,_,E,h,λd v H1 hd s1 hv=>by
  unfold kM at hd
  split at hd
  ·cases hv; exact ⟨_,rfl,q _ _ H1 hd s1 (.int _)⟩
  ·exact hd.elim⟩
end
end Pu
namespace Pu
open PySem L2 Sh
mutual
def D.py:D->PyData
 | .int i=>.int i
 | .bool b=>.bool b
 | .non=>.none
 | .str x=>.str x
 | .scr _=>.none
 | .lst ds=>.list (vS ds)
 | .tup ds=>.tuple (vS ds)
 | .obj _ _ _=>.none
def vS:List D->List PyData
 | []=>[]
 | d :: ds=>d.py :: vS ds
end
def D.pl:Nat->D->Bool
 | 0,_=>false
 | _ + 1,.int _=>true
 | _ + 1,.bool _=>true
 | _ + 1,.non=>true
 | _ + 1,.str x=>PyData.strOk x
 | _ + 1,.scr _=>false
 | n + 1,.lst ds=>ds.all (D.pl n)
 | n + 1,.tup ds=>ds.all (D.pl n)
 | _ + 1,.obj ..=>false
structure Kt (n:Nat) (d:D):Prop where
 dp:∀ K H v,DV H v d->Dp K H v d.py
 lay:d.py.canLay0=true
 dep:d.py.depth<=n
theorem UE {n:Nat}:∀ {ds:List D},(∀ d∈ds,Kt n d)->(∀ K H xs,yE H xs ds->v8 K H xs (vS ds))/\PyData.canLayAll0 (vS ds)=true/\PyData.depthAll (vS ds)<=n
 | [],_=>⟨λK H xs h=>by cases h; exact .nil,by simp [vS,PyData.canLayAll0],by simp [vS,PyData.depthAll]⟩
 | d :: ds,h=>by
  obtain ⟨h1,h2,h3⟩:=UE (ds:=ds) λx m=>h x (List.mem_cons_of_mem _ m)
  have g:=h d List.mem_cons_self
  have l:=g.lay
  have p:=g.dep
  refine ⟨λK H xs q=>?_,by simp [vS,PyData.canLayAll0,l,h2],by simp only [vS,PyData.depthAll]; omega⟩
  cases q with
  | cons q r=>exact .cons (g.dp K H _ q) (h1 K H _ r)
theorem uQ:∀ (n:Nat) (d:D),D.pl n d=true->Kt n d
 | 0,_,h=>by cases h
 | n + 1,.int i,_=>⟨λK H v h=>by cases h; exact .int i,by simp [D.py,PyData.canLay0],by simp [D.py,PyData.depth]⟩
 | n + 1,.bool i,_=>⟨λK H v h=>by cases h; exact .bl i,by simp [D.py,PyData.canLay0],by simp [D.py,PyData.depth]⟩
 | n + 1,.non,_=>⟨λK H v h=>by cases h; exact .non,by simp [D.py,PyData.canLay0],by simp [D.py,PyData.depth]⟩
 | n + 1,.str i,h=>⟨λK H v h=>by cases h; exact .str i,by simp only [D.py,PyData.canLay0]; exact h,by simp [D.py,PyData.depth]⟩
 | n + 1,.scr _,h=>by cases h
 | n + 1,.obj ..,h=>by cases h
 | n + 1,.lst ds,h=>by
  obtain ⟨h1,h2,h3⟩:=UE (n:=n) (ds:=ds) λd m=>uQ n d (List.all_eq_true.mp h d m)
  refine ⟨λK H v q=>?_,by simp [D.py,PyData.canLay0,h2],by simp only [D.py,PyData.depth]; omega⟩
  obtain ⟨p,xs,rfl,e,q⟩:=q.lst_inv
  exact .lst (zW.of e) (h1 K H _ q)
 | n + 1,.tup ds,h=>by
  obtain ⟨h1,h2,h3⟩:=UE (n:=n) (ds:=ds) λd m=>uQ n d (List.all_eq_true.mp h d m)
  refine ⟨λK H v q=>?_,by simp [D.py,PyData.canLay0,h2],by simp only [D.py,PyData.depth]; omega⟩
  obtain ⟨p,xs,rfl,e,q⟩:=q.tup_inv
  exact .tup (zw.of e) (h1 K H _ q)
theorem UF:∀ ns:List Int,vS (ns.map D.int)=ns.map PyData.int
 | []=>rfl
 | n :: t=>by rw [List.map_cons,List.map_cons,vS,UF t,D.py]
theorem qh (n:Nat) (ns:List Int):(ns.map D.int).all (D.pl (n + 1))=true:=List.all_eq_true.mpr λd m=>by
 obtain ⟨i,_,rfl⟩:=List.mem_map.mp m
 rfl
abbrev L (ns:List Int):D:=.lst (ns.map D.int)
abbrev U (ns:List Int):D:=.tup (ns.map D.int)
theorem kO (ns ms:List Int):PyData.eqv (L ns).py (L ms).py=decide (ns=ms):=by
 show PyData.eqvAll (vS (ns.map D.int)) (vS (ms.map D.int))=_
 rw [UF,UF]
 exact KU ns ms
theorem qi (ds:List D):PyData.eqv (D.lst ds).py (D.lst []).py=ds.isEmpty:=by cases ds <;> rfl
section
variable {X:Cx} {a b e c:Expr} {es:List Expr} {pos:Pos} {pa pb pc:zz} {qa qb:wB} {pl:yk}
def Yz:F2
 | .int i,.int j,R=>R (.bool (decide (i=j)))
 | .bool i,.bool j,R=>R (.bool (i == j))
 | .lst as,.lst bs,R=>(D.lst as).pl 50=true/\(D.lst bs).pl 50=true/\R (.bool (PyData.eqv (D.lst as).py (D.lst bs).py))
 | .tup as,.tup bs,R=>(D.tup as).pl 50=true/\(D.tup bs).pl 50=true/\R (.bool (PyData.eqv (D.tup as).py (D.tup bs).py))
 | _,_,_=>False
theorem Ku {K:PySem.W.Frag}:wV (λx y H Q=>QR x y H Q\/gq K x y H Q) Yz:=λZ H x y a b R Q zd hx hy h q=>by
 unfold Yz at h
 split at h
 ·cases hx; cases hy
  refine .inl ⟨rfl,?_⟩
  rw [YQ,Bool.beq_eq_decide_eq]
  exact q _ _ H h (zF.refl _) (.bool _)
 ·cases hx; cases hy
  refine .inl ⟨rfl,?_⟩
  rw [YR]
  exact q _ _ H h (zF.refl _) (.bool _)
 ·have d1:=uQ _ _ h.1
  have d2:=uQ _ _ h.2.1
  have e1:=d1.dep
  have e2:=d2.dep
  exact .inr ⟨_,_,d1.dp K H _ (hx.same zv),d2.dp K H _ (hy.same zv),d1.lay,d2.lay,by omega,by omega,q _ _ H h.2.2 (zF.refl _) (.bool _)⟩
 ·have d1:=uQ _ _ h.1
  have d2:=uQ _ _ h.2.1
  have e1:=d1.dep
  have e2:=d2.dep
  exact .inr ⟨_,_,d1.dp K H _ (hx.same zv),d2.dp K H _ (hy.same zv),d1.lay,d2.lay,by omega,by omega,q _ _ H h.2.2 (zF.refl _) (.bool _)⟩
 ·exact h.elim
def ue:F2
 | .int i,.int j,R=>R (.bool (!decide (i=j)))
 | .bool i,.bool j,R=>R (.bool (i != j))
 | .lst as,.lst bs,R=>(D.lst as).pl 50=true/\(D.lst bs).pl 50=true/\R (.bool (!PyData.eqv (D.lst as).py (D.lst bs).py))
 | .tup as,.tup bs,R=>(D.tup as).pl 50=true/\(D.tup bs).pl 50=true/\R (.bool (!PyData.eqv (D.tup as).py (D.tup bs).py))
 | _,_,_=>False
theorem zQP {K:PySem.W.Frag}:wV (λx y H Q=>QS x y H Q\/∃ d e:PyData,Dp K H x d/\Dp K H y e/\d.canLay0=true/\e.canLay0=true/\d.depth<=60/\e.depth<=60/\Q (.bl (!PyData.eqv d e)) H) ue:=λZ H x y a b R Q zd hx hy h q=>by
 unfold ue at h
 split at h
 ·cases hx; cases hy
  refine .inl ⟨rfl,?_⟩
  rw [YQ,Bool.beq_eq_decide_eq]
  exact q _ _ H h (zF.refl _) (.bool _)
 ·cases hx; cases hy
  refine .inl ⟨rfl,?_⟩
  rw [YR]
  exact q _ _ H h (zF.refl _) (.bool _)
 ·have d1:=uQ _ _ h.1
  have d2:=uQ _ _ h.2.1
  have e1:=d1.dep
  have e2:=d2.dep
  exact .inr ⟨_,_,d1.dp K H _ (hx.same zv),d2.dp K H _ (hy.same zv),d1.lay,d2.lay,by omega,by omega,q _ _ H h.2.2 (zF.refl _) (.bool _)⟩
 ·have d1:=uQ _ _ h.1
  have d2:=uQ _ _ h.2.1
  have e1:=d1.dep
  have e2:=d2.dep
  exact .inr ⟨_,_,d1.dp K H _ (hx.same zv),d2.dp K H _ (hy.same zv),d1.lay,d2.lay,by omega,by omega,q _ _ H h.2.2 (zF.refl _) (.bool _)⟩
 ·exact h.elim
theorem uR (hu:X.A.units + 64 < cLine) (ha:PE X a (tP pa)) (hb:PE X b (tP pb)):PE X (.Compare a [.Eq] [b] pos) (tP (xo Yz pa pb)):=Yy (QV.or (KT hu)) Ku (v5 _) ha hb
def bD:D->(Bool->Prop)->Prop
 | .bool b,R=>R b
 | _,_=>False
def wD (pa:zz):wB:=λΓ R=>pa Γ λd=>bD d R
theorem Kv {t:TE} (w:∀ σ H Q,tP pa σ H Q->t σ H Q) (σ:St) (H:Hp) (Q:Bool->Hp->Prop):xC (wD pa) σ H Q->QZ t σ H Q:=λ⟨Z,Γ,R,E,h,q⟩=>
 w _ _ _ ⟨Z,Γ,_,E,h,λd v H1 hd s1 hv=>by
  unfold bD at hd
  split at hd
  ·cases hv; exact ⟨_,rfl,q _ H1 hd s1⟩
  ·exact hd.elim⟩
theorem yb (ha:PE X e (tP pa)) (he:∀ whole,isTrue e X.env whole=(do let v <- whole; standAt e.pos; holding [v] (truthy v)):=by intro _; rfl):PT X e (xC (wD pa)):=W9 (zPp ha he) (Kv λ_ _ _ h=>h)
theorem qj {op:CmpOp} {r:R2} {f:F2} (ho:yn X (compareOp op) r) (o:wV r f) (hm:behindInMarks op b=false) (ha:PE X a (tP pa)) (hb:PE X b (tP pb)):PT X (.Compare a [op] [b] pos) (xC (wD (xo f pa pb))):=W9 (Qa ho ha hb hm) (Kv (Yx o))
theorem wz (hu:X.A.units + 64 < cLine) (ha:PE X a (tP pa)) (hb:PE X b (tP pb)):PT X (.Compare a [.Eq] [b] pos) (xC (wD (xo Yz pa pb))):=qj (QV.or (KT hu)) Ku (v5 _) ha hb
theorem UG (hu:X.A.units + 64 < cLine) (ha:PE X a (tP pa)) (hb:PE X b (tP pb)):PT X (.Compare a [.NotEq] [b] pos) (xC (wD (xo ue pa pb))):=qj (QW.or (zQH hu)) zQP (v5 _) ha hb
theorem UH (ha:PE X a (tP pa)) (hb:PE X b (tP pb)):PT X (.Compare a [.Lt] [b] pos) (xC (wD (xo (wW λi j=>decide (i < j)) pa pb))):=qj QX qg (v5 _) ha hb
theorem kP (ha:PE X a (tP pa)) (hb:PE X b (tP pb)):PT X (.Compare a [.Gt] [b] pos) (xC (wD (xo (wW λi j=>decide (j < i)) pa pb))):=qj gT qg (v5 _) ha hb
theorem Y0 (ha:PE X a (tP pa)) (hb:PE X b (tP pb)):PT X (.Compare a [.GtE] [b] pos) (xC (wD (xo (wW λi j=>decide (j<=i)) pa pb))):=qj QY qg (v5 _) ha hb
def wX (b:Bool) (A B:Prop):Prop:=(b=true->A)/\(b=false->B)
theorem wT {b:Bool} {A B:Prop} (e:b=true) (h:A):wX b A B:=⟨λ_=>h,λz=>nomatch e.symm.trans z⟩
theorem wF {b:Bool} {A B:Prop} (e:b=false) (h:B):wX b A B:=⟨λz=>(nomatch e.symm.trans z),λ_=>h⟩
theorem w2 {b:Bool} {A B:Prop} (h1:b=true->A) (h2:b=false->B):wX b A B:=⟨h1,h2⟩
def UI (p q:wB):wB:=λΓ R=>p Γ λc=>wX c (q Γ R) (R false)
def pOr (p q:wB):wB:=λΓ R=>p Γ λc=>wX c (R true) (q Γ R)
def UJ (p:wB):wB:=λΓ R=>p Γ λc=>R (!c)
theorem Kw (ha:PT X a (xC qa)):PW X (.BoolOp .And [a] pos) (xC qa):=zOU ha
theorem w4 (ha:PT X a (xC qa)):PW X (.BoolOp .Or [a] pos) (xC qa):=zPl ha
theorem Kx {yT:List Expr} (ha:PT X a (xC qa)) (hb:PW X (.BoolOp .And (b :: yT) pos) (xC qb)):PW X (.BoolOp .And (a :: b :: yT) pos) (xC (UI qa qb)):=Km (zPm ha hb) λσ H Q ⟨Z,Γ,R,E,h,q⟩=>
 ⟨Z,Γ,_,E,h,λc H1 hc s1=>by
  cases c with
  | true=>exact ⟨Z,Γ,R,E.same s1,hc.1 rfl,λb H2 hb s2=>q b H2 hb (s1.trans s2)⟩
  | false=>exact q _ H1 (hc.2 rfl) s1⟩
theorem wM {yT:List Expr} (ha:PT X a (xC qa)) (hb:PW X (.BoolOp .Or (b :: yT) pos) (xC qb)):PW X (.BoolOp .Or (a :: b :: yT) pos) (xC (pOr qa qb)):=Km (gG ha hb) λσ H Q ⟨Z,Γ,R,E,h,q⟩=>
 ⟨Z,Γ,_,E,h,λc H1 hc s1=>by
  cases c with
  | true=>exact q _ H1 (hc.1 rfl) s1
  | false=>exact ⟨Z,Γ,R,E.same s1,hc.2 rfl,λb H2 hb s2=>q b H2 hb (s1.trans s2)⟩⟩
theorem xD (ha:PT X a (xC qa)):PT X (.UnaryOp .Not a pos) (xC (UJ qa)):=W9 (zPq ha) λσ H Q ⟨Z,Γ,R,E,h,q⟩=>⟨Z,Γ,_,E,h,λc H1 hc s1=>q _ H1 hc s1⟩
def kR (p q:zz):zz:=λΓ R=>p Γ λd=>bD d λc=>wX c (q Γ R) (R (.bool false))
def kS (p:zz):zz:=λΓ R=>p Γ λd=>bD d λc=>R (.bool !c)
theorem vT {op} (ha:PE X a (tP pa)):PE X (.BoolOp op [a] pos) (tP pa):=zP4 ha
theorem wE {yT:List Expr} (ha:PE X a (tP pa)) (hb:PE X (.BoolOp .And (b :: yT) pos) (tP pb)):PE X (.BoolOp .And (a :: b :: yT) pos) (tP (kR pa pb)):=yG (zP9 ha hb) λσ H Q ⟨Z,Γ,R,E,h,q⟩=>
 ⟨Z,Γ,_,E,h,λd v H1 hd s1 hv=>by
  unfold bD at hd
  split at hd
  ·cases hv
   rename_i c
   refine ⟨c,rfl,?_⟩
   cases c with
   | true=>exact ⟨Z,Γ,R,E.same s1,hd.1 rfl,λb v H2 hb s2 k=>q b v H2 hb (s1.trans s2) k⟩
   | false=>exact q _ _ H1 (hd.2 rfl) s1 (.bool _)
  ·exact hd.elim⟩
theorem zPn (ha:PE X a (tP pa)):PE X (.UnaryOp .Not a pos) (tP (kS pa)):=yG (zP5 ha) λσ H Q ⟨Z,Γ,R,E,h,q⟩=>
 ⟨Z,Γ,_,E,h,λd v H1 hd s1 hv=>by
  unfold bD at hd
  split at hd
  ·cases hv; exact ⟨_,rfl,q _ _ H1 hd s1 (.bool _)⟩
  ·exact hd.elim⟩
def UK (t:wB) (p q:zz):zz:=λΓ R=>t Γ λc=>wX c (p Γ R) (q Γ R)
theorem zMi (hc:PT X c (xC qa)) (ha:PE X a (tP pa)) (hb:PE X b (tP pb)):PE X (.IfExp c a b pos) (tP (UK qa pa pb)):=yG (zMu hc ha hb) λσ H Q ⟨Z,Γ,R,E,h,q⟩=>
 ⟨Z,Γ,_,E,h,λc H1 hd s1=>by
  cases c with
  | true=>exact ⟨Z,Γ,R,E.same s1,hd.1 rfl,λb v H2 hb s2 k=>q b v H2 hb (s1.trans s2) k⟩
  | false=>exact ⟨Z,Γ,R,E.same s1,hd.2 rfl,λb v H2 hb s2 k=>q b v H2 hb (s1.trans s2) k⟩⟩
def UL:yk:=λ_ R=>R []
def kT (pa:zz) (pl:yk):yk:=λΓ R=>pa Γ λd=>pl Γ λds=>R (d :: ds)
theorem zC:PA X [] (wC UL):=Kn yJ λσ H Q ⟨_,_,_,_,h,q⟩=>q _ _ H h (zF.refl _) .nil
theorem zB (ha:PE X e (tP pa)) (hr:PA X es (wC pl)) (hs:starEach (e :: es) X.env=(false,eval e X.env) :: starEach es X.env:=by rfl):PA X (e :: es) (wC (kT pa pl)):=Kn (zo ha hr hs) λσ H Q ⟨Z,Γ,R,E,h,q⟩=>
 ⟨Z,Γ,_,E,h,λd v H1 hd s1 hv=>⟨Z,Γ,_,E.same s1,hd,λds vs H2 hds s2 hvs=>q _ _ H2 hds (s1.trans s2) (.cons (hv.same (yd s2)) hvs)⟩⟩
def UM (pl:yk):zz:=λΓ R=>pl Γ λds=>ds.length<=1000/\R (.tup ds)
def UN (pl:yk):zz:=λΓ R=>pl Γ λds=>ds.length<=1000/\R (.lst ds)
theorem xU {x1} (ha:PA X es (wC pl)):PE X (.Tuple es x1 pos) (tP (UM pl)):=yG (zP2 ha) λσ H Q ⟨Z,Γ,R,E,h,q⟩=>
 ⟨Z,Γ,_,E,h,λds vs H1 hd s1 hv=>⟨few (by rw [Paired.length hv]; exact hd.1),λp hp=>q _ _ _ hd.2 (s1.trans (xJ hp _)) (kJ (E.same s1).zd hp hv)⟩⟩
theorem yh (ha:PA X es (wC pl)):PE X (.List es pos) (tP (UN pl)):=yG (Qg ha) λσ H Q ⟨Z,Γ,R,E,h,q⟩=>
 ⟨Z,Γ,_,E,h,λds vs H1 hd s1 hv=>⟨few (by rw [Paired.length hv]; exact hd.1),λp hp=>q _ _ _ hd.2 (s1.trans (xJ hp _)) (v9 (E.same s1).zd hp hv)⟩⟩
theorem Y1 {α β:Type} {R:α->β->Prop} {xs:List α} {ys:List β} (h:Paired R xs ys) {i:Int} {y:β} (e:yR ys i=some y):∃ x,yR xs i=some x/\R x y:=by
 unfold yR at e |-
 rw [Paired.length h]
 cases k:ww ys.length i with
 | none=>rw [k] at e; cases e
 | some j=>
  rw [k] at e
  exact go h e
where
 go:∀ {xs:List α} {ys:List β} {j:Nat} {y:β},Paired R xs ys->ys[j]? = some y->∃ x,xs[j]? = some x/\R x y
  | _,_,_,_,.nil,e=>by simp at e
  | _,_,0,_,.cons r _,e=>by simp at e; subst e; exact ⟨_,rfl,r⟩
  | _,_,j + 1,y,.cons _ t,e=>by
   obtain ⟨x,h1,h2⟩:=go (j:=j) (y:=y) t (by simpa using e)
   exact ⟨x,by simpa using h1,h2⟩
def UO:F2
 | .lst ds,.int i,R=>∃ d,yR ds i=some d/\R d
 | .tup ds,.int i,R=>∃ d,yR ds i=some d/\R d
 | .scr ns,.int i,R=>∃ n,yR ns i=some n/\R (.int n)
 | _,_,_=>False
theorem uA {α β:Type} (f:α->β) (xs:List α) (i:Int):yR (xs.map f) i=(yR xs i).map f:=by
 unfold yR
 rw [List.length_map]
 cases ww xs.length i with
 | none=>rfl
 | some j=>exact List.getElem?_map ..
theorem zQQ {K:PySem.W.Frag}:wV (gw K) UO:=λZ H x y a b R Q zd hx hy h q=>by
 unfold UO at h
 split at h
 ·obtain ⟨p,xs,rfl,e1,h1⟩:=hx.lst_inv
  cases hy
  obtain ⟨d,hd,hR⟩:=h
  obtain ⟨v,hv,hh⟩:=Y1 h1 hd
  exact ⟨p,xs,_,v,rfl,rfl,.inr (zW.of (zv _ _ e1)),hv,q _ _ H hR (zF.refl _) hh⟩
 ·obtain ⟨p,xs,rfl,e1,h1⟩:=hx.tup_inv
  cases hy
  obtain ⟨d,hd,hR⟩:=h
  obtain ⟨v,hv,hh⟩:=Y1 h1 hd
  exact ⟨p,xs,_,v,rfl,rfl,.inl (zw.of (zv _ _ e1)),hv,q _ _ H hR (zF.refl _) hh⟩
 ·cases hy
  cases hx with
  | scr e=>
  obtain ⟨n,hn,hR⟩:=h
  exact ⟨_,_,_,.int n,rfl,rfl,.inr (.inl (kG zv e)),by rw [uA,hn]; rfl,q _ _ H hR (zF.refl _) (.int n)⟩
 ·exact h.elim
theorem zR (ha:PE X a (tP pa)) (hb:PE X b (tP pb)) (hs:Wo b):PE X (.Subscript a b pos) (tP (xo UO pa pb)):=yG (Qx zOw ha hb hs) (Yx zQQ)
theorem kU {X:Cx} {e:Option Expr} {t t':TO} (h:PO X e t) (w:∀ σ H Q,t' σ H Q->t σ H Q):PO X e t':=λpins s σ H Q I q=>h pins s σ H Q I (w σ H Q q)
def zOe:jb:=λ_ R=>R none
def iD:D->(Option Int->Prop)->Prop
 | .int i,R=>R (some i)
 | _,_=>False
def kW (pa:zz):jb:=λΓ R=>pa Γ λd=>iD d R
theorem y8:PO X none (jc zOe):=kU zOY λσ H Q ⟨_,_,_,_,h,q⟩=>q _ H h (zF.refl _)
theorem yt (h:PE X e (tP pa)):PO X (some e) (jc (kW pa)):=kU (zOX h) λσ H Q ⟨Z,Γ,R,E,h,q⟩=>
 ⟨Z,Γ,_,E,h,λd v H1 hd s1 hv=>by
  unfold iD at hd
  split at hd
  ·cases hv; exact ⟨_,rfl,q _ H1 hd s1⟩
  ·exact hd.elim⟩
def zU {α:Type} (xs:List α) (lo hi:Option Int):List α:=(xs.drop (HT.sIx xs.length 0 lo)).take (HT.sIx xs.length xs.length hi - HT.sIx xs.length 0 lo)
theorem Ky {α β:Type} {R:α->β->Prop}:∀ {xs:List α} {ys:List β} (n:Nat),Paired R xs ys->Paired R (xs.take n) (ys.take n)
 | _,_,0,_=>.nil
 | _,_,_ + 1,.nil=>.nil
 | _,_,n + 1,.cons h t=>.cons h (Ky n t)
theorem Kz {α β:Type} {R:α->β->Prop}:∀ {xs:List α} {ys:List β} (n:Nat),Paired R xs ys->Paired R (xs.drop n) (ys.drop n)
 | _,_,0,h=>h
 | _,_,_ + 1,.nil=>.nil
 | _,_,n + 1,.cons _ t=>Kz n t
theorem UP {α β:Type} {R:α->β->Prop} {xs:List α} {ys:List β} (h:Paired R xs ys) (lo hi:Option Int):Paired R (zU xs lo hi) (zU ys lo hi):=by
 unfold zU
 rw [Paired.length h]
 exact Ky _ (Kz _ h)
def K0:D->Option Int->Option Int->(D->Prop)->Prop
 | .lst ds,lo,hi,R=>R (.lst (zU ds lo hi))
 | .tup ds,lo,hi,R=>R (.tup (zU ds lo hi))
 | _,_,_,_=>False
def pSl (pa:zz) (po qo:jb):zz:=λΓ R=>pa Γ λd=>po Γ λl=>qo Γ λu=>K0 d l u R
theorem zPZ {X:Cx} {r r':V->Option Int->Option Int->Hp->VK->Prop} (h:jS X r) (h':jS X r'):jS X (λx l u H Q=>r x l u H Q\/r' x l u H Q):=λpins s σ H x v vl vu lo hi sl Q I r1 r2 r3 r4 q=>
 q.elim (h pins s σ H x v vl vu lo hi sl Q I r1 r2 r3 r4) (h' pins s σ H x v vl vu lo hi sl Q I r1 r2 r3 r4)
theorem y9 {lo hi:Option Expr} {po qo:jb} {p2:Pos} (ha:PE X a (tP pa)) (hl:PO X lo (jc po)) (hu:PO X hi (jc qo)):PE X (.Subscript a (.Slice lo hi none p2) pos) (tP (pSl pa po qo)):=yG (Qt (zPZ Qz zNE) ha hl hu) λσ H Q ⟨Z,Γ,R,E,h,q⟩=>
 ⟨Z,Γ,_,E,h,λd v H1 hd s1 hv=>⟨Z,Γ,_,E.same s1,hd,λl H2 hl s2=>⟨Z,Γ,_,E.same (s1.trans s2),hl,λu H3 hu s3=>by
  have s:=s1.trans (s2.trans s3)
  have hv:=hv.same (yd (s2.trans s3))
  have zd:=(E.same s).zd
  unfold K0 at hu
  split at hu
  ·obtain ⟨p,xs,rfl,e1,h1⟩:=hv.lst_inv
   exact .inl ⟨p,xs,rfl,zW.of (zv _ _ e1),λn hn=>q _ _ _ hu (s.trans (xJ hn _)) (v9 zd hn (UP h1 _ _))⟩
  ·obtain ⟨p,xs,rfl,e1,h1⟩:=hv.tup_inv
   exact .inr ⟨p,xs,rfl,zv _ _ e1,λn H' s' e=>q _ _ _ hu (s.trans s') (Kp (zd.same s') e (yy (yd s') (UP h1 _ _)))⟩
  ·exact hu.elim⟩⟩⟩
abbrev FL:=List D->(D->Prop)->Prop
def vo (r:List V->Hp->VK->Prop) (f:FL):Prop:=∀ (Z:Addr->Prop) (H:Hp) (vs:List V) (ds:List D) (R:D->Prop) (Q:VK),ZL Z H->yE (zS Z H) vs ds->f ds R->(∀ d v H',R d->zF H H'->DV (zS Z H') v d->Q v H')->r vs H Q
def u9 (f:FL) (pl:yk):zz:=λΓ R=>pl Γ λds=>f ds R
theorem K1 {r:List V->Hp->VK->Prop} {f:FL} (o:vo r f) (σ:St) (H:Hp) (Q:VK):tP (u9 f pl) σ H Q->gY r (wC pl) σ H Q:=λ⟨Z,Γ,R,E,h,q⟩=>
 ⟨Z,Γ,_,E,h,λds vs H1 hd s1 hv=>o Z H1 vs ds R Q (E.same s1).zd hv hd λd v H2 h2 s2 hv2=>q d v H2 h2 (s1.trans s2) hv2⟩
theorem zq {x:Str} {id:String} {p:Pos} {r:List V->Hp->VK->Prop} {f:FL} (hc:wv X (.builtin id) r) (o:vo r f) (hg:Gl X x) (hm:X.mg x=none) (hv:bootBuiltins x=some (.builtin id)) (ha:PA X (e :: es) (wC pl)) (hn:x≠"__name__":=by decide) (hdb:(x == ("__debug__" : Str))=false:=by decide)
  (he:starEach (e :: es) X.env=(false,eval e X.env) :: starEach es X.env:=by rfl) (hpl:(backTo pos (starEach es X.env)).any (·.1)=false:=by rfl):PE X (.Call (.Name x p) (e :: es) [] pos) (tP (u9 f pl)):=yG (xS hc hg hm hv ha hn hdb he hpl) (K1 o)
theorem xV {x:Str} {T:String} {p:Pos} {r:List V->Hp->VK->Prop} {f:FL} (hc:wv X (.type T) r) (o:vo r f) (hg:Gl X x) (hm:X.mg x=none) (hv:bootBuiltins x=some (.type T)) (ha:PA X (e :: es) (wC pl)) (hn:x≠"__name__":=by decide) (hdb:(x == ("__debug__" : Str))=false:=by decide)
  (he:starEach (e :: es) X.env=(false,eval e X.env) :: starEach es X.env:=by rfl) (hpl:(backTo pos (starEach es X.env)).any (·.1)=false:=by rfl):PE X (.Call (.Name x p) (e :: es) [] pos) (tP (u9 f pl)):=yG (zKo hc hg hm hv ha hn hdb he hpl) (K1 o)
def kX:FL
 | [.lst ds],R=>R (.int ds.length)
 | [.tup ds],R=>R (.int ds.length)
 | [.scr ns],R=>R (.int ns.length)
 | _,_=>False
theorem yq {H:Hp} {vs:List V} {d:D} (h:yE H vs [d]):∃ v,vs=[v]/\DV H v d:=by
 cases h with
 | cons h t=>cases t; exact ⟨_,rfl,h⟩
theorem vH {H:Hp} {vs:List V} {d e:D} (h:yE H vs [d,e]):∃ v w,vs=[v,w]/\DV H v d/\DV H w e:=by
 cases h with
 | cons h t=>obtain ⟨w,rfl,k⟩:=yq t; exact ⟨_,_,rfl,h,k⟩
theorem yX {K:PySem.W.Frag}:vo (λxs H Q=>∃ p ys,xs=[.ref p]/\(zW K H p ys\/zw K H p ys)/\Q (.int ys.length) H) kX:=λZ H vs ds R Q zd hv h q=>by
 unfold kX at h
 split at h
 ·obtain ⟨v,rfl,hw⟩:=yq hv
  obtain ⟨p,xs,rfl,e1,h1⟩:=hw.lst_inv
  exact ⟨p,xs,rfl,.inl (zW.of (zv _ _ e1)),by rw [Paired.length h1]; exact q _ _ H h (zF.refl _) (.int _)⟩
 ·obtain ⟨v,rfl,hw⟩:=yq hv
  obtain ⟨p,xs,rfl,e1,h1⟩:=hw.tup_inv
  exact ⟨p,xs,rfl,.inr (zw.of (zv _ _ e1)),by rw [Paired.length h1]; exact q _ _ H h (zF.refl _) (.int _)⟩
 ·obtain ⟨v,rfl,hw⟩:=yq hv
  cases hw with
  | scr e=>exact ⟨_,_,rfl,.inl (.inl (kG zv e)),by rw [List.length_map]; exact q _ _ H h (zF.refl _) (.int _)⟩
 ·exact h.elim
def K2:FL
 | [.lst ds],R=>R (.lst ds)
 | [.tup ds],R=>R (.lst ds)
 | _,_=>False
theorem vp {K:PySem.W.Frag}:vo (λxs H Q=>∃ p ys,xs=[.ref p]/\(zW K H p ys\/zw K H p ys)/\∀ l,H l=none->Q (.ref l) (za H l (.lst ys))) K2:=λZ H vs ds R Q zd hv h q=>by
 unfold K2 at h
 split at h
 ·obtain ⟨v,rfl,hw⟩:=yq hv
  obtain ⟨p,xs,rfl,e1,h1⟩:=hw.lst_inv
  exact ⟨p,xs,rfl,.inl (zW.of (zv _ _ e1)),λl hl=>q _ _ _ h (xJ hl _) (v9 zd hl h1)⟩
 ·obtain ⟨v,rfl,hw⟩:=yq hv
  obtain ⟨p,xs,rfl,e1,h1⟩:=hw.tup_inv
  exact ⟨p,xs,rfl,.inr (zw.of (zv _ _ e1)),λl hl=>q _ _ _ h (xJ hl _) (v9 zd hl h1)⟩
 ·exact h.elim
def kY:FL
 | [.lst ds],R=>R (.tup ds)
 | [.tup ds],R=>R (.tup ds)
 | _,_=>False
theorem uf {K:PySem.W.Frag}:vo (λxs H Q=>∃ p ys,xs=[.ref p]/\((zW K H p ys/\∀ l,H l=none->Q (.ref l) (za H l (.tup ys)))\/(zw K H p ys/\Q (.ref p) H))) kY:=λZ H vs ds R Q zd hv h q=>by
 unfold kY at h
 split at h
 ·obtain ⟨v,rfl,hw⟩:=yq hv
  obtain ⟨p,xs,rfl,e1,h1⟩:=hw.lst_inv
  exact ⟨p,xs,rfl,.inl ⟨zW.of (zv _ _ e1),λl hl=>q _ _ _ h (xJ hl _) (kJ zd hl h1)⟩⟩
 ·obtain ⟨v,rfl,hw⟩:=yq hv
  obtain ⟨p,xs,rfl,e1,h1⟩:=hw.tup_inv
  exact ⟨p,xs,rfl,.inr ⟨zw.of (zv _ _ e1),q _ _ _ h (zF.refl _) hw⟩⟩
 ·exact h.elim
def kZ:FL
 | [.lst ds],R=>∃ ns:List Int,ds=ns.map D.int/\R (.int ns.sum)
 | _,_=>False
theorem Y2 {K:PySem.W.Frag}:vo (λxs H Q=>∃ (p:Addr) (ns:List Int),xs=[.ref p]/\zW K H p (ns.map V.int)/\Q (.int ns.sum) H) kZ:=λZ H vs ds R Q zd hv h q=>by
 unfold kZ at h
 split at h
 ·obtain ⟨v,rfl,hw⟩:=yq hv
  obtain ⟨p,xs,rfl,e1,h1⟩:=hw.lst_inv
  obtain ⟨ns,rfl,h⟩:=h
  cases W8 h1
  exact ⟨p,ns,rfl,zW.of (zv _ _ e1),q _ _ H h (zF.refl _) (.int _)⟩
 ·exact h.elim
def ka:FL
 | [.lst ds],R=>∃ bs:List Bool,ds=bs.map D.bool/\R (.bool (bs.all id))
 | _,_=>False
theorem wY {K:PySem.W.Frag}:vo (λxs H Q=>∃ (p:Addr) (bs:List Bool),xs=[V.ref p]/\zW K H p (bs.map V.bl)/\Q (V.bl (bs.all id)) H) ka:=λZ H vs ds R Q zd hv h q=>by
 unfold ka at h
 split at h
 ·obtain ⟨v,rfl,hw⟩:=yq hv
  obtain ⟨p,xs,rfl,e1,h1⟩:=hw.lst_inv
  obtain ⟨ns,rfl,h⟩:=h
  cases Kk h1
  exact ⟨p,ns,rfl,zW.of (zv _ _ e1),q _ _ H h (zF.refl _) (.bool _)⟩
 ·exact h.elim
def kd:FL
 | [.int i,.int j],R=>R (.int (max i j))
 | _,_=>False
theorem Y3:vo (λxs H Q=>∃ i j,xs=[.int i,.int j]/\Q (.int (if j > i then j else i)) H) kd:=λZ H vs ds R Q zd hv h q=>by
 unfold kd at h
 split at h
 ·rename_i i j
  obtain ⟨v,w,rfl,hx,hy⟩:=vH hv
  cases hx; cases hy
  refine ⟨_,_,rfl,?_⟩
  have e:(if j > i then j else i)=max i j:=by rw [Int.max_def]; split <;> split <;> omega
  rw [e]
  exact q _ _ H h (zF.refl _) (.int _)
 ·exact h.elim
def kf:FL
 | [.int i,.int j],R=>R (.int (min i j))
 | _,_=>False
theorem K3:vo (λxs H Q=>∃ i j,xs=[.int i,.int j]/\Q (.int (if j < i then j else i)) H) kf:=λZ H vs ds R Q zd hv h q=>by
 unfold kf at h
 split at h
 ·rename_i i j
  obtain ⟨v,w,rfl,hx,hy⟩:=vH hv
  cases hx; cases hy
  refine ⟨_,_,rfl,?_⟩
  have e:(if j < i then j else i)=min i j:=by rw [Int.min_def]; split <;> split <;> omega
  rw [e]
  exact q _ _ H h (zF.refl _) (.int _)
 ·exact h.elim
def kg:FL
 | [.int i],R=>R (.int i)
 | [.bool b],R=>R (.int (if b=true then 1 else 0))
 | _,_=>False
theorem K4:vo (λxs H Q=>(∃ i,xs=[.int i]/\Q (.int i) H)\/∃ k,xs=[.bl k]/\Q (.int (if k then 1 else 0)) H) kg:=λZ H vs ds R Q zd hv h q=>by
 unfold kg at h
 split at h
 ·obtain ⟨v,rfl,hw⟩:=yq hv
  cases hw
  exact .inl ⟨_,rfl,q _ _ H h (zF.refl _) (.int _)⟩
 ·obtain ⟨v,rfl,hw⟩:=yq hv
  cases hw
  exact .inr ⟨_,rfl,q _ _ H h (zF.refl _) (.int _)⟩
 ·exact h.elim
end
end Pu
namespace Pu
open PySem L2 Sh
def setN:St->List Nat->List V->St
 | σ,j :: js,v :: vs=>setN (σ.set j (some v)) js vs
 | σ,_,_=>σ
def Y4:List Sl->List Nat->List D->List Sl
 | Γ,j :: js,d :: ds=>Y4 (zy Γ j (.sh d)) js ds
 | Γ,_,_=>Γ
def vq:Option (List D)->(List D->Prop)->Prop
 | some os,k=>k os
 | none,_=>False
theorem kh {o:Option (List D)} {k:List D->Prop} (h:vq o k):∃ os,o=some os/\k os:=by
 cases o with
 | none=>exact h.elim
 | some os=>exact ⟨os,rfl,h⟩
inductive tG (js:List Nat) (po:D->Option (List D)) (v:V) (σ:St) (H:Hp) (Q:St->Hp->Prop):Prop
 | mk (Z:Addr->Prop) (d:D) (os:List D) (hv:DV (zS Z H) v d) (ho:po d=some os) (q:∀ vs,yE (zS Z H) vs os->Q (setN σ js vs) H):tG js po v σ H Q
inductive K5 (js:List Nat) (po:List D->Option (List D)) (us:List V) (σ:St) (H:Hp) (Q:St->Hp->Prop):Prop
 | mk (Z:Addr->Prop) (ds os:List D) (hv:yE (zS Z H) us ds) (ho:po ds=some os) (q:∀ vs,yE (zS Z H) vs os->Q (setN σ js vs) H):K5 js po us σ H Q
structure Y5 (X:Cx) (es:List Expr) (js:List Nat) (po:List D->Option (List D)) (n:Nat):Prop where
 g:qN X es (K5 js po)
 l:∀ ds os,po ds=some os->ds.length=n
 k:∀ ds os,po ds=some os->os.length=js.length
section
variable {X:Cx} {pos:Pos}
def K6:D->Option (List D):=λd=>some [d]
theorem zt (i:Nat) {x:Str} (hN:X.N.Nodup) (hi:X.N[i]? = some x) (hx:uv X.env.scope x) (hf:X.fn x=true\/X.env.scope.names.lookup x=some .local:=by first | exact .inl rfl | exact .inr rfl | assumption):PG X (.Name x pos) (tG [i] K6):=
 λpins s σ H v u Q I r ⟨_,_,_,hv,ho,q⟩=>QL hN hi hx hf pins s σ H v u Q I r (by
  cases ho
  exact q [v] (.cons hv .nil))
def K7:List D->Option (List D)
 | []=>some []
 | _=>none
def K8 (po:List D->Option (List D)):List D->Option (List D)
 | d :: ds=>(po ds).map (d :: ·)
 | []=>none
def Y6 (po:List D->Option (List D)):D->Option (List D)
 | .tup ds=>po ds
 | .lst ds=>po ds
 | _=>none
theorem xf:Y5 X [] [] K7 0 where
 g:=λpins s σ H vs us Q I r ⟨_,ds,os,hv,ho,q⟩=>by
  cases ds with
  | nil=>cases hv; exact zOb pins s σ H [] us Q I r ⟨rfl,q [] (by cases ho; exact .nil)⟩
  | cons=>cases ho
 l:=λds os h=>by cases ds with | nil=>rfl | cons=>cases h
 k:=λds os h=>by cases ds with | nil=>cases h; rfl | cons=>cases h
theorem zm (i:Nat) {x:Str} {es:List Expr} {js:List Nat} {po:List D->Option (List D)} {n:Nat} (hN:X.N.Nodup) (hi:X.N[i]? = some x) (hx:uv X.env.scope x) (h:Y5 X es js po n)
  (hs:(assignEach (.Name x pos :: es) X.env).map (·.2)=assign (.Name x pos) X.env :: (assignEach es X.env).map (·.2):=by rfl) (hf:X.fn x=true\/X.env.scope.names.lookup x=some .local:=by first | exact .inl rfl | exact .inr rfl | assumption):Y5 X (.Name x pos :: es) (i :: js) (K8 po) (n + 1) where
 g:=λpins s σ H vs us Q I r ⟨Z,ds,os,hv,ho,q⟩=>by
  cases hv with
  | nil=>cases ho
  | @cons v d vt dt hv ht=>
   change (po dt).map (d :: ·)=some os at ho
   cases e:po dt with
   | none=>rw [e] at ho; cases ho
   | some os'=>
    rw [e] at ho
    cases ho
    exact zMr (QL hN hi hx hf) h.g hs pins s σ H _ us Q I r ⟨v,vt,rfl,Z,dt,os',ht,e,λvs hvs=>q (v :: vs) (.cons hv hvs)⟩
 l:=λds os q=>by
  cases ds with
  | nil=>cases q
  | cons d dt=>
   change (po dt).map (d :: ·)=some os at q
   cases e:po dt with
   | none=>rw [e] at q; cases q
   | some os'=>rw [List.length_cons,h.l dt os' e]
 k:=λds os q=>by
  cases ds with
  | nil=>cases q
  | cons d dt=>
   change (po dt).map (d :: ·)=some os at q
   cases e:po dt with
   | none=>rw [e] at q; cases q
   | some os'=>rw [e] at q; cases q; rw [List.length_cons,List.length_cons,h.k dt os' e]
theorem xg {H:Hp} {vs:List V} {ds:List D} (h:yE H vs ds):vs.length=ds.length:=Paired.length h
theorem ji {po:List D->Option (List D)} {js:List Nat} (h:∀ ds os,po ds=some os->os.length=js.length):∀ d os,Y6 po d=some os->os.length=js.length:=λd os q=>by
 unfold Y6 at q
 split at q
 ·exact h _ _ q
 ·exact h _ _ q
 ·cases q
theorem xh {es:List Expr} {js:List Nat} {po:List D->Option (List D)} {n k:Nat} (hc:X.calm=true) (h:Y5 X es js po n) (hn:(assignEach es X.env).length=n:=by rfl) (hst:(assignEach es X.env).findIdx? (·.1)=none:=by rfl):PG X (.Tuple es k pos) (tG js (Y6 po)):=
 λpins s σ H v u Q I r ⟨Z,d,os,hv,ho,q⟩=>by
  unfold Y6 at ho
  split at ho
  ·obtain ⟨p,xs,rfl,e,hx⟩:=hv.tup_inv
   exact zP0 hc h.g hn hst pins s σ H _ u Q I r ⟨p,xs,rfl,zw.of (zv _ _ e),by rw [xg hx]; exact h.l _ _ ho,Z,_,os,hx,ho,q⟩
  ·obtain ⟨p,xs,rfl,e,hx⟩:=hv.lst_inv
   exact zP1 hc h.g hn hst pins s σ H _ u Q I r ⟨p,xs,rfl,zW.of (zv _ _ e),by rw [xg hx]; exact h.l _ _ ho,Z,_,os,hx,ho,q⟩
  ·cases ho
end
def Wk (Z:Addr->Prop) (J:It) (H:Hp) (ds:List D):Prop:=∀ i Z' H',zF (zS Z H) (zS Z' H')->ZL Z' H'->(∀ d,ds[i]? = some d->J.go i H'/\∀ x H'',J.yld i H' x H''->zF H' H''/\DV (zS Z' H'') x d)/\(i=ds.length->J.stop i H')
inductive uB (p:yk) (σ:St) (H:Hp) (Q:It->Hp->Prop):Prop
 | mk (Z:Addr->Prop) (Γ:List Sl) (R:List D->Prop) (E:yP Z Γ σ H) (h:p Γ R) (q:∀ ds J H',R ds->zF H H'->Wk Z J H' ds->Q J H'):uB p σ H Q
theorem jA {α β:Type} {R:α->β->Prop} {xs:List α} {ys:List β} (h:Paired R xs ys) {j:Nat} {y:β} (e:ys[j]? = some y):∃ x,xs[j]? = some x/\R x y:=Y1.go h e
section
variable {X:Cx} {tg e e1 e2:Expr} {pos:Pos} {pa:zz} {pl:yk}
theorem ki {w w':TI} (h:PI X tg e w) (k:∀ σ H R,w' σ H R->w σ H R):PI X tg e w':=λpins s σ H R I q=>h pins s σ H R I (k σ H R q)
def UQ (K:PySem.W.Frag) (tl:TE):TI:=λσ H R=>tl σ H λx H1=>(∃ a,x=.ref a/\(∃ xs,zW K H1 a xs)/\R (Wa K a) H1)\/∃ a,x=.ref a/\(∃ xs,zw K H1 a xs)/\R (Wb K a) H1
theorem zPz {l:Expr} {tl:TE} (hl:PE X l tl):PI X tg l (UQ X.K tl):=by
 intro pins s σ H R I h
 refine zg (hl pins s σ H _ I h) λv s1 ⟨x,H1,I1,r1,q1⟩=>?_
 rcases q1 with ⟨a,e,⟨xs,hq⟩,q⟩ | ⟨a,e,⟨xs,hq⟩,q⟩
 ·subst e
  cases r1
  obtain ⟨its,rv,p,hz⟩:=I1.list hq
  refine PySem.wpAny_pyIter_list p.isList ?_
  refine ⟨s1.heap.objs.size,[s1.heap.objs.size],_,_,H1,rfl,I1.kept (t':=s1.toks) λb o e=>Heap.get?_push_of_some _ e,zKF a _,⟨_,Heap.get?_push_size _ rfl,rfl,rfl⟩,λb hb=>?_,q⟩
  have e:b=s1.heap.objs.size:=by simpa using hb
  subst e
  exact I1.fpOk (Nat.le_refl _) (I1.hok.fresh (Nat.le_refl _))
 ·subst e
  cases r1
  obtain ⟨its,rv,p,hz⟩:=I1.tuple hq
  refine PySem.wpAny_pyIter_tuple (show s1.heap.IsTuple a its.toArray from p) ?_
  refine ⟨s1.heap.objs.size,[s1.heap.objs.size],_,_,H1,rfl,I1.kept (t':=s1.toks) λb o e=>Heap.get?_push_of_some _ e,zJM a _,⟨_,Heap.get?_push_size _ rfl,rfl,rfl⟩,λb hb=>?_,q⟩
  have e:b=s1.heap.objs.size:=by simpa using hb
  subst e
  exact I1.fpOk (Nat.le_refl _) (I1.hok.fresh (Nat.le_refl _))
def jj:D->(List D->Prop)->Prop
 | .lst ds,R=>R ds
 | .tup ds,R=>R ds
 | _,_=>False
def kj (pa:zz):yk:=λΓ R=>pa Γ λd=>jj d R
theorem zOH {K:PySem.W.Frag} {Z:Addr->Prop} {H:Hp} {p:Addr} {xs:List V} {ds:List D} (e:zS Z H p=some (.lst xs)) (h:yE (zS Z H) xs ds):Wk Z (Wa K p) H ds:=λi Z' H' s zd=>by
 have e1:=zv _ _ (s _ _ e)
 refine ⟨λd hd=>?_,λhi=>⟨xs,zW.of e1,by rw [xg h]; omega⟩⟩
 obtain ⟨x,hx,hh⟩:=jA h hd
 refine ⟨⟨xs,x,zW.of e1,hx⟩,λy H'' ⟨e2,hy⟩=>?_⟩
 subst e2
 have:=hy xs (zW.of e1)
 rw [hx] at this
 cases this
 exact ⟨zF.refl _,hh.same s⟩
theorem zPH {K:PySem.W.Frag} {Z:Addr->Prop} {H:Hp} {p:Addr} {xs:List V} {ds:List D} (e:zS Z H p=some (.tup xs)) (h:yE (zS Z H) xs ds):Wk Z (Wb K p) H ds:=λi Z' H' s zd=>by
 have e1:=zv _ _ (s _ _ e)
 refine ⟨λd hd=>?_,λhi=>⟨xs,zw.of e1,by rw [xg h]; omega⟩⟩
 obtain ⟨x,hx,hh⟩:=jA h hd
 refine ⟨⟨xs,x,zw.of e1,hx⟩,λy H'' ⟨e2,hy⟩=>?_⟩
 subst e2
 have:=hy xs (zw.of e1)
 rw [hx] at this
 cases this
 exact ⟨zF.refl _,hh.same s⟩
theorem yS (ha:PE X e (tP pa)):PI X tg e (uB (kj pa)):=ki (zPz ha) λσ H Q ⟨Z,Γ,R,E,h,q⟩=>
 ⟨Z,Γ,_,E,h,λd v H1 hd s1 hv=>by
  unfold jj at hd
  split at hd
  ·obtain ⟨p,xs,rfl,e,hx⟩:=hv.lst_inv
   exact .inl ⟨p,rfl,⟨xs,zW.of (zv _ _ e)⟩,q _ _ H1 hd s1 (zOH e hx)⟩
  ·obtain ⟨p,xs,rfl,e,hx⟩:=hv.tup_inv
   exact .inr ⟨p,rfl,⟨xs,zw.of (zv _ _ e)⟩,q _ _ H1 hd s1 (zPH e hx)⟩
  ·exact hd.elim⟩
def rng (lo:Int) (n:Nat):List D:=(List.range n).map λk:Nat=>D.int (lo + (k:Int))
theorem zMM {Z:Addr->Prop} {H:Hp} {lo:Int} {n:Nat}:Wk Z (YN lo n) H (rng lo n):=λi Z' H' s zd=>by
 refine ⟨λd hd=>?_,λhi=>?_⟩
 ·unfold rng at hd
  rw [List.getElem?_map] at hd
  have hlt:i < n:=by
   apply Classical.byContradiction
   intro c
   rw [List.getElem?_eq_none (by rw [List.length_range]; omega)] at hd
   cases hd
  rw [List.getElem?_range hlt] at hd
  cases hd
  exact ⟨hlt,λx H'' ⟨e1,e2⟩=>by subst e1; subst e2; exact ⟨zF.refl _,.int _⟩⟩
 ·show n<=i
  rw [hi]
  unfold rng
  rw [List.length_map,List.length_range]
  exact Nat.le_refl _
def rng0 (n:Nat):List D:=(List.range n).map λk:Nat=>D.int (k:Int)
theorem UR (n:Nat):rng0 n=rng 0 n:=List.map_congr_left λk _=>by rw [Int.zero_add]
theorem vI {n k:Nat} {d:D} (h:(rng0 n)[k]? = some d):k < n/\d=.int (k:Int):=by
 unfold rng0 at h
 rw [List.getElem?_map] at h
 by_cases c:k < n
 ·rw [List.getElem?_range c] at h
  exact ⟨c,(Option.some.inj h).symm⟩
 ·rw [List.getElem?_eq_none (by rw [List.length_range]; omega)] at h
  cases h
theorem vJ (n:Nat):(rng0 n).length=n:=by unfold rng0; rw [List.length_map,List.length_range]
def K9:List D->(List D->Prop)->Prop
 | [.int j],R=>-1000<=j/\j<=1000/\R (rng0 j.toNat)
 | _,_=>False
def US (f:List D->(List D->Prop)->Prop) (pl:yk):yk:=λΓ R=>pl Γ λds=>f ds R
theorem xE {p:Pos} (hg:Gl X "range") (hm:X.mg "range" = none) (ha:PA X [e] (wC pl)) (hs:starEach [e] X.env=[(false,eval e X.env)]:=by rfl):PI X tg (.Call (.Name "range" p) [e] [] pos) (uB (US K9 pl)):=ki (zKj hg hm ha hs) λσ H Q ⟨Z,Γ,R,E,h,q⟩=>
 ⟨Z,Γ,_,E,h,λds vs H1 hd s1 hv=>by
  unfold K9 at hd
  split at hd
  ·obtain ⟨h1,h2,hd⟩:=hd
   obtain ⟨v,rfl,hw⟩:=yq hv
   cases hw
   rw [UR] at hd
   exact ⟨_,rfl,by omega,by omega,q _ _ H1 hd s1 zMM⟩
  ·exact hd.elim⟩
abbrev xL (x y:D):D:=.tup [x,y]
theorem Y7 {α β γ:Type} (f:α->β->γ):∀ {xs:List α} {ys:List β} {i:Nat} {z:γ},(List.zipWith f xs ys)[i]? = some z->∃ x y,xs[i]? = some x/\ys[i]? = some y/\z=f x y
 | [],_,_,_,h=>by simp at h
 | _ :: _,[],_,_,h=>by simp at h
 | x :: _,y :: _,0,_,h=>by simp at h; exact ⟨x,y,rfl,rfl,h.symm⟩
 | _ :: xs,_ :: ys,i + 1,z,h=>by
  obtain ⟨x,y,h1,h2,h3⟩:=Y7 f (xs:=xs) (ys:=ys) (i:=i) (z:=z) (by simpa using h)
  exact ⟨x,y,by simpa using h1,by simpa using h2,h3⟩
theorem Y8 {S1 S2:Hp->Addr->List V->Prop} {Z:Addr->Prop} {H:Hp} {p r:Addr} {xs ys:List V} {ds es:List D} (h1:∀ Z' H',zF (zS Z H) (zS Z' H')->S1 H' p xs) (h2:∀ Z' H',zF (zS Z H) (zS Z' H')->S2 H' r ys) (hx:yE (zS Z H) xs ds) (hy:yE (zS Z H) ys es) :
  Wk Z ⟨λi H=>∃ xs ys x y,S1 H p xs/\S2 H r ys/\xs[i]? = some x/\ys[i]? = some y,λi H v H'=>∃ T x y,v=.ref T/\H T=none/\H'=za H T (.tup [x,y])/\(∀ xs,S1 H p xs->xs[i]? = some x)/\∀ ys,S2 H r ys->ys[i]? = some y,
   λi H=>∃ xs ys,S1 H p xs/\S2 H r ys/\i<=xs.length/\i<=ys.length/\(i=xs.length\/i=ys.length)⟩ H (List.zipWith xL ds es):=λi Z' H' s zd=>by
 have a1:=h1 Z' H' s
 have a2:=h2 Z' H' s
 have l1:=xg hx
 have l2:=xg hy
 refine ⟨λd hd=>?_,λhi=>?_⟩
 ·obtain ⟨a,b,ha,hb,rfl⟩:=Y7 _ hd
  obtain ⟨x,gx,kx⟩:=jA hx ha
  obtain ⟨y,gy,ky⟩:=jA hy hb
  refine ⟨⟨xs,ys,x,y,a1,a2,gx,gy⟩,λv H'' ⟨T,x',y',ev,hT,eH,q1,q2⟩=>?_⟩
  have:=q1 xs a1
  rw [gx] at this
  cases this
  have:=q2 ys a2
  rw [gy] at this
  cases this
  subst ev
  subst eH
  exact ⟨xJ hT _,kJ zd hT (.cons (kx.same s) (.cons (ky.same s) .nil))⟩
 ·rw [List.length_zipWith] at hi
  exact ⟨xs,ys,a1,a2,by omega,by omega,by omega⟩
def uC:List D->(List D->Prop)->Prop
 | [.lst ds,.lst es],R=>R (List.zipWith xL ds es)
 | [.lst ds,.tup es],R=>R (List.zipWith xL ds es)
 | [.tup ds,.lst es],R=>R (List.zipWith xL ds es)
 | [.tup ds,.tup es],R=>R (List.zipWith xL ds es)
 | _,_=>False
theorem jB {ts:List Expr} {kk:Nat} {tp p:Pos} (hg:Gl X "zip") (hm:X.mg "zip" = none) (ha:PA X [e1,e2] (wC pl)) (hs:starEach [e1,e2] X.env=[(false,eval e1 X.env),(false,eval e2 X.env)]:=by rfl) (hs2:starEach [e2] X.env=[(false,eval e2 X.env)]:=by rfl) :
  PI X (.Tuple ts kk tp) (.Call (.Name "zip" p) [e1,e2] [] pos) (uB (US uC pl)):=ki (zOa hg hm ha hs hs2) λσ H Q ⟨Z,Γ,R,E,h,q⟩=>
 ⟨Z,Γ,_,E,h,λds vs H1 hd s1 hv=>by
  unfold uC at hd
  split at hd
  ·obtain ⟨v,w,rfl,hx,hy⟩:=vH hv
   obtain ⟨a,xs,rfl,ea,ha⟩:=hx.lst_inv
   obtain ⟨b,ys,rfl,eb,hb⟩:=hy.lst_inv
   exact ⟨a,b,rfl,.inr (.inl ⟨⟨xs,zW.of (zv _ _ ea)⟩,⟨ys,zW.of (zv _ _ eb)⟩,q _ _ H1 hd s1 (Y8 (λ_ _ s=>zW.of (zv _ _ (s _ _ ea))) (λ_ _ s=>zW.of (zv _ _ (s _ _ eb))) ha hb)⟩)⟩
  ·obtain ⟨v,w,rfl,hx,hy⟩:=vH hv
   obtain ⟨a,xs,rfl,ea,ha⟩:=hx.lst_inv
   obtain ⟨b,ys,rfl,eb,hb⟩:=hy.tup_inv
   exact ⟨a,b,rfl,.inr (.inr (.inr ⟨⟨xs,zW.of (zv _ _ ea)⟩,⟨ys,zw.of (zv _ _ eb)⟩,q _ _ H1 hd s1 (Y8 (λ_ _ s=>zW.of (zv _ _ (s _ _ ea))) (λ_ _ s=>zw.of (zv _ _ (s _ _ eb))) ha hb)⟩))⟩
  ·obtain ⟨v,w,rfl,hx,hy⟩:=vH hv
   obtain ⟨a,xs,rfl,ea,ha⟩:=hx.tup_inv
   obtain ⟨b,ys,rfl,eb,hb⟩:=hy.lst_inv
   exact ⟨a,b,rfl,.inl ⟨⟨xs,zw.of (zv _ _ ea)⟩,⟨ys,zW.of (zv _ _ eb)⟩,q _ _ H1 hd s1 (Y8 (λ_ _ s=>zw.of (zv _ _ (s _ _ ea))) (λ_ _ s=>zW.of (zv _ _ (s _ _ eb))) ha hb)⟩⟩
  ·obtain ⟨v,w,rfl,hx,hy⟩:=vH hv
   obtain ⟨a,xs,rfl,ea,ha⟩:=hx.tup_inv
   obtain ⟨b,ys,rfl,eb,hb⟩:=hy.tup_inv
   exact ⟨a,b,rfl,.inr (.inr (.inl ⟨⟨xs,zw.of (zv _ _ ea)⟩,⟨ys,zw.of (zv _ _ eb)⟩,q _ _ H1 hd s1 (Y8 (λ_ _ s=>zw.of (zv _ _ (s _ _ ea))) (λ_ _ s=>zw.of (zv _ _ (s _ _ eb))) ha hb)⟩))⟩
  ·exact hd.elim⟩
end
end Pu
namespace Pu
open PySem L2 Sh
def un:Sl->Sl
 | .sh d=>.sh d
 | _=>.no
theorem zIk:∀ (Γ:List Sl) (i:Nat),slot Γ i=(Γ[i]?).getD .no
 | [],_=>rfl
 | _ :: _,0=>rfl
 | _ :: t,i + 1=>(zIk t i).trans (by rw [List.getElem?_cons_succ])
theorem km {s:Sl} {d:D} (h:un s=.sh d):s=.sh d:=by cases s <;> first | exact h | cases h
theorem ko {s:Sl} {ds:List D} (h:un s=.ow ds):False:=by cases s <;> cases h
theorem kq {s:Sl} {o c:Addr} {ns:List Str} {ds:List D} (h:un s=.ob o c ns ds):False:=by cases s <;> cases h
theorem Y9 {os:List D} {l:List Sl} (hl:∀ i o c ns ds,slot l i≠.ob o c ns ds):∀ i o c ns ds,slot (os.map Sl.sh++l) i≠.ob o c ns ds:=λi o c ns ds h=>by
 induction os generalizing i with
 | nil=>exact hl i o c ns ds h
 | cons d t ih=>
  cases i with
  | zero=>cases h
  | succ i=>exact ih i h
theorem XA {os:List D} {l:List Sl} (hl:∀ i ds,slot l i≠.ow ds):∀ i ds,slot (os.map Sl.sh++l) i≠.ow ds:=λi ds h=>by
 induction os generalizing i with
 | nil=>exact hl i ds h
 | cons d t ih=>
  cases i with
  | zero=>cases h
  | succ i=>exact ih i h
theorem XB (Γ:List Sl):∀ (js:List Nat) (i:Nat),slot (js.map λj=>un (slot Γ j)) i=match js[i]? with | some j=>un (slot Γ j) | none=>.no
 | [],_=>rfl
 | _ :: _,0=>rfl
 | _ :: js,i + 1=>by
  rw [List.getElem?_cons_succ]
  exact XB Γ js i
theorem UT {Z:Addr->Prop} {Γ:List Sl} {σ:St} {H:Hp} (E:yP Z Γ σ H) {js:List Nat} {vs:List V} {os:List D} (h:yE (zS Z H) vs os):yP Z (os.map Sl.sh++js.map λj=>un (slot Γ j)) (vs.map some++js.map λj=>(σ[j]?).getD none) H:=by
 have no:∀ i ds,slot (os.map Sl.sh++js.map λj=>un (slot Γ j)) i≠.ow ds:=XA λi ds h=>by
  rw [XB] at h
  split at h
  ·exact ko h
  ·cases h
 have nob:∀ i o c ns ds,slot (os.map Sl.sh++js.map λj=>un (slot Γ j)) i≠.ob o c ns ds:=Y9 λi o c ns ds h=>by
  rw [XB] at h
  split at h
  ·exact kq h
  ·cases h
 refine ⟨?_,λi ds e=>absurd e (no i ds),λi o c ns ds e=>absurd e (nob i o c ns ds),λi _ ds _ _ e=>absurd e (no i ds),E.zd,?_⟩
 clear nob
 ·induction h with
  | nil=>
   intro i d e
   change slot (js.map λj=>un (slot Γ j)) i=_ at e
   show ∃ v,(js.map λj=>(σ[j]?).getD none)[i]? = some (some v)/\_
   rw [XB] at e
   rw [List.getElem?_map]
   cases k:js[i]? with
   | none=>rw [k] at e; cases e
   | some j=>
    rw [k] at e
    obtain ⟨v,h1,h2⟩:=E.sh j d (km e)
    exact ⟨v,by show some ((σ[j]?).getD none)=_; rw [h1]; rfl,h2⟩
  | @cons v d vs ds hv _ ih=>
   intro i e q
   cases i with
   | zero=>cases q; exact ⟨v,rfl,hv⟩
   | succ i=>
    obtain ⟨u,h1,h2⟩:=ih (λi=>no (i + 1)) i e q
    exact ⟨u,by rw [List.map_cons,List.cons_append,List.getElem?_cons_succ]; exact h1,h2⟩
 ·rw [List.length_append,List.length_append,List.length_map,List.length_map,List.length_map,List.length_map,xg h]
theorem UU (c:St):∀ (pre o:St) (vs:List V),o.length=vs.length->setN (pre++(o++c)) (List.range' pre.length o.length) vs=pre++(vs.map some++c)
 | _,[],[],_=>rfl
 | _,[],_ :: _,h=>nomatch h
 | _,_ :: _,[],h=>nomatch h
 | pre,x :: o,v :: vs,h=>by
  rw [List.length_cons,List.range'_succ]
  show setN ((pre++((x :: o)++c)).set pre.length (some v)) (List.range' (pre.length + 1) o.length) vs=_
  rw [List.set_append_right _ _ (Nat.le_refl _),Nat.sub_self]
  have:=UU c (pre++[some v]) o vs (Nat.succ.inj h)
  rw [List.length_append,List.append_assoc] at this
  rw [List.append_assoc] at this
  exact this
inductive zj (ds:List D) (G:D->(D->Prop)->Prop) (R:D->Prop):Prop
 | mk (few:ds.length<=1000) (F:D->D->Prop) (h:∀ d,d∈ds->G d (F d)) (q:∀ es,Paired F ds es->R (.lst es)):zj ds G R
def kr (caps:List Nat) (pi:yk) (po:D->Option (List D)) (pe:zz):zz:=λΓ R=>pi Γ λds=>zj ds (λd S=>vq (po d) λos=>pe (os.map Sl.sh++caps.map λj=>un (slot Γ j)) S) R
theorem zLn {Z:Addr->Prop} {Γ:List Sl} {σ:St} {H:Hp} {own:List Str} {caps:List (Nat × Str)} {J:It} {ds:List D} {js:List Nat} {po:D->Option (List D)} {pe:zz} {Q:VK} {F:D->D->Prop} (E:yP Z Γ σ H) (wk:Wk Z J H ds) (hj:js=List.range' 0 own.length) (hk:∀ d os,po d=some os->os.length=js.length) (few:ds.length<=1000)
  (hF:∀ d,d∈ds->vq (po d) λos=>pe (os.map Sl.sh++(caps.map (·.1)).map λj=>un (slot Γ j)) (F d))
  (q:∀ es ys H' p,Paired F ds es->zF H H'->yE (zS Z H') ys es->H' p=none->Q (.ref p) (za H' p (.lst ys))):KH J (tG js po) (tP pe) Q (wA own caps σ) H:=by
 have hc:wA own caps σ=own.map (λ_=>none)++(caps.map (·.1)).map λj=>(σ[j]?).getD none:=by
  unfold wA
  rw [List.map_map]
  rfl
 refine ⟨λi m ys σ1 H1=>m + i=ds.length/\zF H H1/\(∃ es,Paired F (ds.take i) es/\yE (zS Z H1) ys es)/\∃ o:St,o.length=own.length/\σ1=o++(caps.map (·.1)).map λj=>(σ[j]?).getD none,⟨ds.length,rfl,zF.refl _,⟨[],.nil,.nil⟩,_,List.length_map ..,hc⟩,?_⟩
 rintro i m ys σ1 H1 ⟨hm,s1,⟨es,he,hy⟩,o,lo,rfl⟩
 obtain ⟨w1,w2⟩:=wk i Z H1 (yd s1) (E.zd.same s1)
 have le:es.length=i:=by
  have:=Paired.length he
  rw [List.length_take] at this
  omega
 by_cases hi:i < ds.length
 ·refine .inr ⟨(w1 _ (List.getElem?_eq_getElem hi)).1,by rw [xg hy,le]; exact YX (by omega),λy σ' H'=>m - 1 + (i + 1)=ds.length/\zF H H'/\(∃ es,Paired F (ds.take (i + 1)) es/\yE (zS Z H') (ys++[y]) es)/\∃ o:St,o.length=own.length/\σ'=o++(caps.map (·.1)).map λj=>(σ[j]?).getD none,λy σ' H' k=>⟨m - 1,by omega,k⟩,λx H' yl=>?_⟩
  obtain ⟨s2,dv⟩:=(w1 _ (List.getElem?_eq_getElem hi)).2 x H' yl
  obtain ⟨os,ho,hp⟩:=kh (hF _ (List.getElem_mem hi))
  have lo2:=hk _ _ ho
  refine ⟨Z,_,os,dv,ho,λvs hvs=>?_⟩
  have lv:=xg hvs
  have e1:setN (o++(caps.map (·.1)).map λj=>(σ[j]?).getD none) js vs=vs.map some++(caps.map (·.1)).map λj=>(σ[j]?).getD none:=by
   rw [hj,<- lo]
   exact UU _ [] o vs (by rw [lv,lo2,hj,List.length_range']; exact lo)
  rw [e1]
  refine ⟨Z,_,_,UT (E.same (s1.trans s2)) hvs,hp,λd v H3 hd s3 hv=>⟨by omega,s1.trans (s2.trans s3),⟨es++[d],?_,jX hv (yy (yd (s2.trans s3)) hy)⟩,_,?_,rfl⟩⟩
  ·rw [List.take_succ_eq_append_getElem hi]
   exact jX hd he
  ·rw [List.length_map,lv,lo2,hj,List.length_range']
 ·have ei:i=ds.length:=by omega
  refine .inl ⟨w2 ei,λp hp=>q es ys H1 p ?_ s1 hy hp⟩
  rw [List.take_of_length_le (by omega)] at he
  exact he
section
variable {X:Cx} {scope:Scope} {own:List Str} {caps:List (Nat × Str)} {tg iter elt:Expr} {pos:Pos} {pi:yk} {po:D->Option (List D)} {pe:zz} {js:List Nat}
theorem yQ (B:vQ X scope own caps) (hc:X.calm=true) (hj:js=List.range' 0 own.length) (hk:∀ d os,po d=some os->os.length=js.length) (hi:PI X tg iter (uB pi)) (hg:∀ C s₀ H₀ ex,PG (yN X scope (zY own caps) C s₀ H₀ ex) tg (tG js po))
  (he:∀ C s₀ H₀ ex,PE (yN X scope (zY own caps) C s₀ H₀ ex) elt (tP pe)) (hs:∀ x,foldedSetIterable iter X.env x=pure x:=by intro _; rfl):PE X (.ListComp elt [⟨tg,iter,[],0⟩] scope pos) (tP (kr (caps.map (·.1)) pi po pe)):=
 yG (zMv B hc hi hg he hs) λσ H Q ⟨Z,Γ,R,E,h,q⟩=>⟨Z,Γ,_,E,h,λds J H1 ⟨fw,F,hF,hR⟩ s1 wk=>zLn (E.same s1) wk hj hk fw hF λes ys H' p h1 s2 h2 hp=>q _ _ _ (hR es h1) (s1.trans (s2.trans (xJ hp _))) (v9 ((E.same s1).zd.same s2) hp h2)⟩
end
theorem zj.map {ds:List D} {G:D->(D->Prop)->Prop} {R:D->Prop} (f:D->D) (few:ds.length<=1000) (h:∀ d,d∈ds->G d λe=>e=f d) (q:R (.lst (ds.map f))):zj ds G R:=⟨few,λd e=>e=f d,h,λes p=>by
 have:∀ {ds es:List D},Paired (λd e=>e=f d) ds es->es=ds.map f:=λ{ds es} p=>by
  induction p with
  | nil=>rfl
  | cons h _ ih=>rw [h,ih]; rfl
 rw [this p]
 exact q⟩
theorem zj.all {ds:List D} {G:D->(D->Prop)->Prop} {R:D->Prop} (P:D->Prop) (few:ds.length<=1000) (h:∀ d,d∈ds->G d P) (q:∀ es,es.length=ds.length->(∀ e∈es,P e)->R (.lst es)):zj ds G R:=⟨few,λ_=>P,h,λes p=>q es (Paired.length p).symm (by
 clear h few q
 induction p with
 | nil=>exact λ_ h=>nomatch h
 | cons h _ ih=>exact λe m=>(List.mem_cons.mp m).elim (λz=>z ▸ h) (ih e))⟩
def zx:D->Int
 | .int i=>i
 | _=>0
theorem zj.int {ns:List Int} {G:D->(D->Prop)->Prop} {R:D->Prop} (g:Int->Int) (few:ns.length<=1000) (h:∀ n,n∈ns->G (.int n) λe=>e=.int (g n)) (q:R (.lst ((ns.map g).map D.int))):zj (ns.map D.int) G R:=
 zj.map (λd=>.int (g (zx d))) (by rw [List.length_map]; exact few) (λd m=>by
  obtain ⟨n,hn,rfl⟩:=List.mem_map.mp m
  exact h n hn) (by rw [List.map_map] at q |-; exact q)
theorem zj.bool {ds:List D} {G:D->(D->Prop)->Prop} {R:D->Prop} (g:D->Bool) (few:ds.length<=1000) (h:∀ d,d∈ds->G d λe=>e=.bool (g d)) (q:R (.lst ((ds.map g).map D.bool))):zj ds G R:=
 zj.map (λd=>.bool (g d)) few h (by rw [List.map_map] at q; exact q)
theorem zj.rng {lo:Int} {n:Nat} {G:D->(D->Prop)->Prop} {R:D->Prop} (g:Nat->D) (few:n<=1000) (h:∀ k,k < n->G (.int (lo + (k:Int))) λe=>e=g k) (q:R (.lst ((List.range n).map g))):zj (Pu.rng lo n) G R:=
 zj.map (λd=>g (zx d - lo).toNat) (by unfold Pu.rng; rw [List.length_map,List.length_range]; exact few) (λd m=>by
  obtain ⟨k,hk,rfl⟩:=List.mem_map.mp m
  rw [show (zx (.int (lo + (k:Int))) - lo).toNat=k by show (lo + (k:Int) - lo).toNat=k; omega]
  exact h k (List.mem_range.mp hk)) (by
  have e:(Pu.rng lo n).map (λd=>g (zx d - lo).toNat)=(List.range n).map g:=by
   unfold Pu.rng
   rw [List.map_map]
   refine List.map_congr_left λk _=>?_
   show g (lo + (k:Int) - lo).toNat=g k
   rw [show (lo + (k:Int) - lo).toNat=k by omega]
  rw [e]
  exact q)
theorem zj.rngP {lo:Int} {n:Nat} {G:D->(D->Prop)->Prop} {R:D->Prop} (P:D->Prop) (few:n<=1000) (h:∀ k,k < n->G (.int (lo + (k:Int))) P) (q:∀ es,es.length=n->(∀ e∈es,P e)->R (.lst es)):zj (Pu.rng lo n) G R:=
 zj.all P (by unfold Pu.rng; rw [List.length_map,List.length_range]; exact few) (λd m=>by
  obtain ⟨k,hk,rfl⟩:=List.mem_map.mp m
  exact h k (List.mem_range.mp hk)) (λes l=>q es (by rw [l]; unfold Pu.rng; rw [List.length_map,List.length_range]))
theorem zj.rng0 {n:Nat} {G:D->(D->Prop)->Prop} {R:D->Prop} (g:Nat->D) (few:n<=1000) (h:∀ k,k < n->G (.int (k:Int)) λe=>e=g k) (q:R (.lst ((List.range n).map g))):zj (Pu.rng0 n) G R:=by
 rw [UR]
 exact zj.rng g few (λk hk=>by rw [Int.zero_add]; exact h k hk) q
theorem zj.rng0P {n:Nat} {G:D->(D->Prop)->Prop} {R:D->Prop} (P:D->Prop) (few:n<=1000) (h:∀ k,k < n->G (.int (k:Int)) P) (q:∀ es,es.length=n->(∀ e∈es,P e)->R (.lst es)):zj (Pu.rng0 n) G R:=by
 rw [UR]
 exact zj.rngP P few (λk hk=>by rw [Int.zero_add]; exact h k hk) q
def vK (P:Int->Prop) (d:D):Prop:=∃ i,d=.int i/\P i
theorem zLC {P:Int->Prop}:∀ {es:List D},(∀ e∈es,vK P e)->∃ ns:List Int,es=ns.map D.int/\∀ x∈ns,P x
 | [],_=>⟨[],rfl,λ_ h=>nomatch h⟩
 | e :: es,h=>by
  obtain ⟨ns,rfl,k⟩:=zLC (es:=es) λx m=>h x (List.mem_cons_of_mem _ m)
  obtain ⟨i,rfl,p⟩:=h e List.mem_cons_self
  exact ⟨i :: ns,rfl,λx m=>(List.mem_cons.mp m).elim (λz=>z ▸ p) (k x)⟩
theorem zj.nums {n:Nat} {G:D->(D->Prop)->Prop} {R:D->Prop} (P:Int->Prop) (few:n<=1000) (h:∀ k,k < n->G (.int (k:Int)) (vK P)) (q:∀ ns:List Int,ns.length=n->(∀ x∈ns,P x)->R (.lst (ns.map D.int))):zj (Pu.rng0 n) G R:=
 zj.rng0P (vK P) few h λes l k=>by
  obtain ⟨ns,rfl,p⟩:=zLC k
  exact q ns (by rw [<- l,List.length_map]) p
theorem yF {i:Nat}:∀ d os,K6 d=some os->os.length=[i].length:=λd os h=>by cases h; rfl
theorem jk:∀ ds os,K7 ds=some os->os.length=([]:List Nat).length:=λds os h=>by cases ds with | nil=>cases h; rfl | cons=>cases h
theorem vL {i:Nat} {js:List Nat} {po:List D->Option (List D)} (h:∀ ds os,po ds=some os->os.length=js.length):∀ ds os,K8 po ds=some os->os.length=(i :: js).length:=λds os q=>by
 cases ds with
 | nil=>cases q
 | cons d dt=>
  change (po dt).map (d :: ·)=some os at q
  cases e:po dt with
  | none=>rw [e] at q; cases q
  | some os'=>rw [e] at q; cases q; rw [List.length_cons,List.length_cons,h dt os' e]
structure ym (Z0:Addr->Prop) (H0:Hp) (Z:Addr->Prop) (Γ:List Sl) (σ:St) (H:Hp):Prop where
 e:yP Z Γ σ H
 z0:∀ b,Z0 b->Z b
 z0d:ZL Z0 H0
 same:zF H0 H
 own:∀ i ds l,slot Γ i=.ow ds->σ[i]? = some (some (.ref l))->H0 l=none
 owb:∀ i o c ns ds,slot Γ i=.ob o c ns ds->H0 o=none
structure zRA where
 nx:List Sl->Prop
 rt:D->Prop
 bk:List Sl->Prop:=λ_=>False
 ct:List Sl->Prop:=λ_=>False
abbrev xA:=zRA->List Sl->Prop
inductive yf (p:xA) (D0:xk) (σ:St) (H:Hp):Prop
 | mk (Z0:Addr->Prop) (H0:Hp) (Z:Addr->Prop) (Γ:List Sl) (Dp:zRA) (E:ym Z0 H0 Z Γ σ H) (h:p Dp Γ) (nx:∀ Z' Γ' σ' H',ym Z0 H0 Z' Γ' σ' H'->zF (zS Z H) (zS Z' H')->Dp.nx Γ'->D0.nx σ' H')
  (rt:∀ d v H',zF H0 H'->DV (zS Z0 H') v d->Dp.rt d->D0.rt v H') (bk:∀ Z' Γ' σ' H',ym Z0 H0 Z' Γ' σ' H'->zF (zS Z H) (zS Z' H')->Dp.bk Γ'->D0.bk σ' H') (ct:∀ Z' Γ' σ' H',ym Z0 H0 Z' Γ' σ' H'->zF (zS Z H) (zS Z' H')->Dp.ct Γ'->D0.ct σ' H'):yf p D0 σ H
theorem ym.mv {Z0:Addr->Prop} {H0:Hp} {Z:Addr->Prop} {Γ:List Sl} {σ:St} {H H':Hp} (E:ym Z0 H0 Z Γ σ H) (s:zF H H'):ym Z0 H0 Z Γ σ H':=⟨E.e.same s,E.z0,E.z0d,E.same.trans s,E.own,E.owb⟩
theorem ym.set {Z0:Addr->Prop} {H0:Hp} {Z:Addr->Prop} {Γ:List Sl} {σ:St} {H:Hp} (E:ym Z0 H0 Z Γ σ H) {v:V} {d:D} (h:DV (zS Z H) v d) (i:Nat):ym Z0 H0 Z (zy Γ i (.sh d)) (σ.set i (some v)) H:=
 ⟨E.e.set h i,E.z0,E.z0d,E.same,λj ds l q r=>by
  rw [xK] at q
  by_cases c:j=i/\i < Γ.length
  ·rw [if_pos c] at q; cases q
  ·rw [if_neg c] at q
   have hj:=vn (Γ:=Γ) (i:=j) (by rw [q]; exact λz=>nomatch z)
   rw [List.getElem?_set_ne (λz=>c ⟨z.symm,by omega⟩)] at r
   exact E.own j ds l q r,λj o0 c0 ns ds q=>by
  rw [xK] at q
  by_cases c:j=i/\i < Γ.length
  ·rw [if_pos c] at q; cases q
  ·rw [if_neg c] at q
   exact E.owb j o0 c0 ns ds q⟩
theorem ym.setN {Z0:Addr->Prop} {H0:Hp} {Z:Addr->Prop} {H:Hp}:∀ {js:List Nat} {vs:List V} {os:List D} {Γ:List Sl} {σ:St},ym Z0 H0 Z Γ σ H->yE (zS Z H) vs os->ym Z0 H0 Z (Y4 Γ js os) (Pu.setN σ js vs) H
 | [],_,_,_,_,E,_=>E
 | _ :: _,_,_,_,_,E,.nil=>E
 | _ :: js,_,_,_,_,E,.cons h t=>ym.setN (js:=js) (E.set h _) t
theorem XC {Z:Addr->Prop} {H:Hp} {l:Addr} {o:HO} (h:Z l):zF (zS Z H) (zS Z (za H l o)):=λb u e=>by
 obtain ⟨h1,h2⟩:=qd e
 have nb:b≠l:=λz=>h1 (by rw [z]; exact h)
 rw [vR h1,zp nb]
 exact h2
theorem ym.put {Z0:Addr->Prop} {H0:Hp} {Z:Addr->Prop} {Γ:List Sl} {σ:St} {H:Hp} (E:ym Z0 H0 Z Γ σ H) {i:Nat} {ds ds':List D} {l:Addr} {xs:List V} (hs:slot Γ i=.ow ds) (hl:σ[i]? = some (some (.ref l))) (hz:Z l) (hx:yE (zS Z H) xs ds'):ym Z0 H0 Z (zy Γ i (.ow ds')) σ (za H l (.lst xs)):=by
 obtain ⟨l0,xs0,hl0,_,el,_⟩:=E.e.ow i ds hs
 have el0:l0=l:=by rw [hl] at hl0; cases hl0; rfl
 rw [el0] at el
 have keyb:∀ j o c ns d,slot (zy Γ i (.ow ds')) j=.ob o c ns d->slot Γ j=.ob o c ns d:=λj o0 c0 ns d q=>by
  rw [xK] at q
  by_cases c:j=i/\i < Γ.length
  ·rw [if_pos c] at q; cases q
  ·rw [if_neg c] at q; exact q
 have li:=vn (Γ:=Γ) (i:=i) (by rw [hs]; exact λz=>nomatch z)
 have hp:zF (zS Z H) (zS Z (za H l (.lst xs))):=XC hz
 have key:∀ j ds'',slot (zy Γ i (.ow ds')) j=.ow ds''->∃ q,slot Γ j=.ow q:=λj d q=>by
  rw [xK] at q
  by_cases c:j=i/\i < Γ.length
  ·rw [c.1]; exact ⟨ds,hs⟩
  ·rw [if_neg c] at q; exact ⟨d,q⟩
 refine ⟨⟨λj d q=>?_,λj d q=>?_,λj o c ns d q=>?_,λj k as bs m q r=>?_,λb hb=>?_,by rw [ja]; exact E.e.len⟩,E.z0,E.z0d,?_,λj d m q=>?_,λj o c ns d q=>E.owb j o c ns d (keyb j o c ns d q)⟩
 ·rw [xK] at q
  by_cases c:j=i/\i < Γ.length
  ·rw [if_pos c] at q; cases q
  ·rw [if_neg c] at q
   obtain ⟨v,h1,h2⟩:=E.e.sh j d q
   exact ⟨v,h1,h2.same hp⟩
 ·rw [xK] at q
  by_cases c:j=i/\i < Γ.length
  ·rw [if_pos c] at q
   cases q
   rw [c.1]
   exact ⟨l,xs,hl,hz,wK,yy hp hx⟩
  ·rw [if_neg c] at q
   obtain ⟨m,ys,h1,h2,h3,h4⟩:=E.e.ow j d q
   have nm:m≠l:=λz=>c ⟨E.e.ne j i d ds l q hs (by rw [h1,z]) hl,li⟩
   exact ⟨m,ys,h1,h2,by rw [zp nm]; exact h3,yy hp h4⟩
 ·obtain ⟨dx,ys,h1,h2,h3,h5,h4⟩:=E.e.ob j o c ns d (keyb j o c ns d q)
  have nm:o≠l:=λz=>by rw [z,el] at h3; cases h3
  exact ⟨dx,ys,h1,h2,by rw [zp nm]; exact h3,h5,yy hp h4⟩
 ·obtain ⟨q1,hq⟩:=key j as q
  obtain ⟨r1,hr⟩:=key k bs r
  exact E.e.ne j k q1 r1 m hq hr
 ·obtain ⟨u,e,n⟩:=E.e.zd b hb
  by_cases c:b=l
  ·rw [c]; exact ⟨_,wK,λ_ z=>nomatch z⟩
  ·exact ⟨u,by rw [zp c]; exact e,n⟩
 ·exact λb o e=>by
   rw [zp (xZ e (E.own i ds l hs hl))]
   exact E.same _ _ e
 ·obtain ⟨q1,hq⟩:=key j d q
  exact E.own j q1 m hq
theorem ym.make {Z0:Addr->Prop} {H0:Hp} {Z:Addr->Prop} {Γ:List Sl} {σ:St} {H:Hp} (E:ym Z0 H0 Z Γ σ H) {p:Addr} {xs:List V} {ds:List D} (hp:H p=none) (hx:yE (zS Z H) xs ds) (i:Nat) :
  ym Z0 H0 (λb=>Z b\/b=p) (zy Γ i (.ow ds)) (σ.set i (some (.ref p))) (za H p (.lst xs))/\zF (zS Z H) (zS (λb=>Z b\/b=p) (za H p (.lst xs))):=by
 have s:zF (zS Z H) (zS (λb=>Z b\/b=p) (za H p (.lst xs))):=λb o e=>by
  obtain ⟨h1,h2⟩:=qd e
  have nb:=xZ h2 hp
  rw [vR (λz=>z.elim h1 nb),zp nb]
  exact h2
 have old:∀ j d,slot Γ j=.ow d->∀ m,σ[j]? = some (some (.ref m))->m≠p:=λj d q m h z=>by
  obtain ⟨l,ys,h1,h2,h3,_⟩:=E.e.ow j d q
  rw [h] at h1
  cases h1
  rw [z,hp] at h3
  cases h3
 have get:∀ j,¬ (j=i/\i < Γ.length)->slot Γ j≠.no->(σ.set i (some (V.ref p)))[j]? = σ[j]?:=λj c q=>by
  have hj:=vn q
  exact List.getElem?_set_ne (λz=>c ⟨z.symm,by omega⟩)
 have new:∀ j,j=i/\i < Γ.length->(σ.set i (some (V.ref p)))[j]? = some (some (.ref p)):=λj c=>by
  rw [c.1,List.getElem?_set_self (by have:=E.e.len; omega)]
 have keyb:∀ j o c ns d,slot (zy Γ i (.ow ds)) j=.ob o c ns d->slot Γ j=.ob o c ns d/\(σ.set i (some (V.ref p)))[j]? = σ[j]?:=λj o0 c0 ns d q=>by
  rw [xK] at q
  by_cases c:j=i/\i < Γ.length
  ·rw [if_pos c] at q; cases q
  ·rw [if_neg c] at q; exact ⟨q,get j c (by rw [q]; exact λz=>nomatch z)⟩
 refine ⟨⟨⟨λj d q=>?_,λj d q=>?_,λj o c ns d q=>?_,λj k as bs m q r e f=>?_,λb hb=>?_,by rw [ja,List.length_set]; exact E.e.len⟩,λb hb=>.inl (E.z0 b hb),E.z0d,E.same.trans (xJ hp _),λj d m q e=>?_,λj o c ns d q=>E.owb j o c ns d (keyb j o c ns d q).1⟩,s⟩
 ·rw [xK] at q
  by_cases c:j=i/\i < Γ.length
  ·rw [if_pos c] at q; cases q
  ·rw [if_neg c] at q
   obtain ⟨v,h1,h2⟩:=E.e.sh j d q
   exact ⟨v,by rw [get j c (by rw [q]; exact λz=>nomatch z)]; exact h1,h2.same s⟩
 ·rw [xK] at q
  by_cases c:j=i/\i < Γ.length
  ·rw [if_pos c] at q
   cases q
   exact ⟨p,xs,new j c,.inr rfl,wK,yy s hx⟩
  ·rw [if_neg c] at q
   obtain ⟨m,ys,h1,h2,h3,h4⟩:=E.e.ow j d q
   exact ⟨m,ys,by rw [get j c (by rw [q]; exact λz=>nomatch z)]; exact h1,.inl h2,by rw [zp (old j d q m h1)]; exact h3,yy s h4⟩
 ·obtain ⟨q,g⟩:=keyb j o c ns d q
  obtain ⟨dx,ys,h1,h2,h3,h5,h4⟩:=E.e.ob j o c ns d q
  exact ⟨dx,ys,g.trans h1,.inl h2,by rw [zp (xZ h3 hp)]; exact h3,h5,yy s h4⟩
 ·rw [xK] at q r
  by_cases c:j=i/\i < Γ.length
  ·by_cases c':k=i/\i < Γ.length
   ·omega
   ·rw [if_neg c'] at r
    rw [new j c] at e
    rw [get k c' (by rw [r]; exact λz=>nomatch z)] at f
    cases e
    exact absurd rfl (old k bs r p f)
  ·rw [if_neg c] at q
   rw [get j c (by rw [q]; exact λz=>nomatch z)] at e
   by_cases c':k=i/\i < Γ.length
   ·rw [new k c'] at f
    cases f
    exact absurd rfl (old j as q p e)
   ·rw [if_neg c'] at r
    rw [get k c' (by rw [r]; exact λz=>nomatch z)] at f
    exact E.e.ne j k as bs m q r e f
 ·by_cases c:b=p
  ·rw [c]; exact ⟨_,wK,λ_ z=>nomatch z⟩
  ·obtain ⟨u,e,n⟩:=E.e.zd b (hb.resolve_right c)
   exact ⟨u,by rw [zp c]; exact e,n⟩
 ·rw [xK] at q
  by_cases c:j=i/\i < Γ.length
  ·rw [new j c] at e
   cases e
   cases h:H0 p with
   | none=>rfl
   | some o=>rw [E.same _ _ h] at hp; cases hp
  ·rw [if_neg c] at q
   rw [get j c (by rw [q]; exact λz=>nomatch z)] at e
   exact E.own j d m q e
def frz (Γ:List Sl) (i:Nat):List Sl:=match slot Γ i with
 | .ow ds=>zy Γ i (.sh (.lst ds))
 | _=>Γ
theorem ym.frz {Z0:Addr->Prop} {H0:Hp} {Z:Addr->Prop} {Γ:List Sl} {σ:St} {H:Hp} (E:ym Z0 H0 Z Γ σ H) (i:Nat):∃ Z',ym Z0 H0 Z' (Pu.frz Γ i) σ H/\zF (zS Z H) (zS Z' H):=by
 unfold Pu.frz
 cases hs:slot Γ i with
 | no=>exact ⟨Z,E,zF.refl _⟩
 | sh _=>exact ⟨Z,E,zF.refl _⟩
 | ob _ _ _ _=>exact ⟨Z,E,zF.refl _⟩
 | ow ds=>
  obtain ⟨l,xs,hl,hz,el,hx⟩:=E.e.ow i ds hs
  have s:zF (zS Z H) (zS (λb=>Z b/\b≠l) H):=kH λb h=>h.1
  have key:∀ j d,slot (zy Γ i (.sh (.lst ds))) j=.ow d->slot Γ j=.ow d/\j≠i:=λj d q=>by
   rw [xK] at q
   by_cases c:j=i/\i < Γ.length
   ·rw [if_pos c] at q; cases q
   ·rw [if_neg c] at q
    have hj:=vn (Γ:=Γ) (i:=j) (by rw [q]; exact λz=>nomatch z)
    exact ⟨q,λz=>c ⟨z,by omega⟩⟩
  have keyb:∀ j o c ns d,slot (zy Γ i (.sh (.lst ds))) j=.ob o c ns d->slot Γ j=.ob o c ns d:=λj o0 c0 ns d q=>by
   rw [xK] at q
   by_cases c:j=i/\i < Γ.length
   ·rw [if_pos c] at q; cases q
   ·rw [if_neg c] at q; exact q
  refine ⟨λb=>Z b/\b≠l,⟨⟨λj d q=>?_,λj d q=>?_,λj o c ns d q=>?_,λj k as bs m q r=>?_,λb hb=>E.e.zd b hb.1,by rw [ja]; exact E.e.len⟩,λb hb=>⟨E.z0 b hb,λz=>?_⟩,E.z0d,E.same,λj d m q=>E.own j d m (key j d q).1,λj o c ns d q=>E.owb j o c ns d (keyb j o c ns d q)⟩,s⟩
  ·rw [xK] at q
   by_cases c:j=i/\i < Γ.length
   ·rw [if_pos c] at q
    cases q
    rw [c.1]
    exact ⟨.ref l,hl,.lst ((vR λz=>z.2 rfl).trans el) (yy s hx)⟩
   ·rw [if_neg c] at q
    obtain ⟨v,h1,h2⟩:=E.e.sh j d q
    exact ⟨v,h1,h2.same s⟩
  ·obtain ⟨q1,q2⟩:=key j d q
   obtain ⟨m,ys,h1,h2,h3,h4⟩:=E.e.ow j d q1
   exact ⟨m,ys,h1,⟨h2,λz=>q2 (E.e.ne j i d ds l q1 hs (by rw [h1,z]) hl)⟩,h3,yy s h4⟩
  ·obtain ⟨dx,ys,h1,h2,h3,h5,h4⟩:=E.e.ob j o c ns d (keyb j o c ns d q)
   exact ⟨dx,ys,h1,⟨h2,λz=>by rw [z,el] at h3; cases h3⟩,h3,h5,yy s h4⟩
  ·exact E.e.ne j k as bs m (key j as q).1 (key k bs r).1
  ·obtain ⟨ys,e,_⟩:=E.z0d b hb
   rw [z,E.own i ds l hs hl] at e
   cases e
end Pu
namespace Pu
open PySem L2 Sh
open PyProof.Rows (envOfC)
section
variable {X:Cx} {e:Expr} {es:List Expr} {st:Stmt} {sts:List Stmt} {pos:Pos} {pa pb:zz} {pl:yk} {p q:xA}
theorem yA {t t':TS} (h:PS X st t) (w:∀ D σ H,t' D σ H->t D σ H):PS X st t':=λpins s σ H D I k=>h pins s σ H D I (w D σ H k)
theorem jm {t t':TS} (h:yu X sts t) (w:∀ D σ H,t' D σ H->t D σ H):yu X sts t':=λpins s σ H D I k=>h pins s σ H D I (w D σ H k)
def ku:xA:=λD Γ=>D.nx Γ
def UV (p q:xA):xA:=λD Γ=>p { D with nx:=q D } Γ
theorem yH:yu X [] (yf ku):=jm zOW λD σ H ⟨Z0,H0,Z,Γ,Dp,E,h,nx,rt,bk,ct⟩=>nx Z Γ σ H E (zF.refl _) h
theorem zK (h1:PS X st (yf p)) (h2:yu X sts (yf q)):yu X (st :: sts) (yf (UV p q)):=jm (WS h1 h2) λD σ H ⟨Z0,H0,Z,Γ,Dp,E,h,nx,rt,bk,ct⟩=>
 ⟨Z0,H0,Z,Γ,{ Dp with nx:=q Dp },E,h,λZ' Γ' σ' H' E' s' h'=>⟨Z0,H0,Z',Γ',Dp,E',h',λZ2 Γ2 σ2 H2 E2 s2=>nx Z2 Γ2 σ2 H2 E2 (s'.trans s2),rt,λZ2 Γ2 σ2 H2 E2 s2=>bk Z2 Γ2 σ2 H2 E2 (s'.trans s2),λZ2 Γ2 σ2 H2 E2 s2=>ct Z2 Γ2 σ2 H2 E2 (s'.trans s2)⟩,rt,bk,ct⟩
def kz (p q:xA):xA:=λD Γ=>∃ M:List Sl->Prop,p { D with nx:=M } Γ/\∀ Γ',M Γ'->q D Γ'
theorem jC (h1:PS X st (yf p)) (h2:yu X sts (yf q)):yu X (st :: sts) (yf (kz p q)):=jm (WS h1 h2) λD σ H ⟨Z0,H0,Z,Γ,Dp,E,⟨M,h,k⟩,nx,rt,bk,ct⟩=>
 ⟨Z0,H0,Z,Γ,{ Dp with nx:=M },E,h,λZ' Γ' σ' H' E' s' h'=>⟨Z0,H0,Z',Γ',Dp,E',k Γ' h',λZ2 Γ2 σ2 H2 E2 s2=>nx Z2 Γ2 σ2 H2 E2 (s'.trans s2),rt,λZ2 Γ2 σ2 H2 E2 s2=>bk Z2 Γ2 σ2 H2 E2 (s'.trans s2),λZ2 Γ2 σ2 H2 E2 s2=>ct Z2 Γ2 σ2 H2 E2 (s'.trans s2)⟩,rt,bk,ct⟩
theorem zM (h1:PS X st (yf p)):yu X [st] (yf p):=WT h1
def UW (i:Nat) (p:xA):xA:=λD Γ=>p D (frz Γ i)
theorem wG (i:Nat) (h1:PS X st (yf p)):PS X st (yf (UW i p)):=yA h1 λD σ H ⟨Z0,H0,Z,Γ,Dp,E,h,nx,rt,bk,ct⟩=>by
 obtain ⟨Z',E',s⟩:=E.frz i
 exact ⟨Z0,H0,Z',_,Dp,E',h,λZ2 Γ2 σ2 H2 E2 s2=>nx Z2 Γ2 σ2 H2 E2 (s.trans s2),rt,λZ2 Γ2 σ2 H2 E2 s2=>bk Z2 Γ2 σ2 H2 E2 (s.trans s2),λZ2 Γ2 σ2 H2 E2 s2=>ct Z2 Γ2 σ2 H2 E2 (s.trans s2)⟩
def k6 (i:Nat) (pa:zz):xA:=λD Γ=>pa Γ λd=>D.nx (zy Γ i (.sh d))
theorem zPN {i:Nat} (D:xk) (σ:St) (H:Hp):yf (k6 i pa) D σ H->v4 (tP pa) (gL i) D σ H:=λ⟨Z0,H0,Z,Γ,Dp,E,h,nx,rt,bk,ct⟩=>
 ⟨Z,Γ,_,E.e,h,λd v H1 hd s1 hv=>nx Z _ _ H1 ((E.mv s1).set hv i) (yd s1) hd⟩
theorem ze (i:Nat) {x:Str} {pos':Pos} (hN:X.N.Nodup) (hi:X.N[i]? = some x) (hx:uv X.env.scope x) (he:PE X e (tP pa)) (hs:swapsWith e (some (.Name x pos')) pos.line X.env=pure false:=by rfl) (hf:X.fn x=true\/X.env.scope.names.lookup x=some .local:=by first | exact .inl rfl | exact .inr rfl | assumption) :
  PS X (.Assign [.Name x pos'] e pos) (yf (k6 i pa)):=yA (QM hN hi hx he hs hf) zPN
def UX (js:List Nat) (po:D->Option (List D)) (pa:zz):xA:=λD Γ=>pa Γ λd=>vq (po d) λos=>D.nx (Y4 Γ js os)
theorem uS {tg:Expr} {js:List Nat} {po:D->Option (List D)} (he:PE X e (tP pa)) (hg:PG X tg (tG js po)) (hs:swapsWithSole [tg] e pos.line X.env=pure false:=by rfl) (hw:swappedStores [tg] e X.env=pure none:=by rfl)
  (h1:(assignEach [tg] X.env).map (·.2)=[assign tg X.env]:=by rfl):PS X (.Assign [tg] e pos) (yf (UX js po pa)):=yA (zPt he hg hs hw h1) λD σ H ⟨Z0,H0,Z,Γ,Dp,E,h,nx,rt,bk,ct⟩=>
 ⟨Z,Γ,_,E.e,h,λd v H1 hd s1 hv=>by
  obtain ⟨os,ho,hd⟩:=kh hd
  exact ⟨Z,d,os,hv,ho,λvs hvs=>nx Z _ _ H1 ((E.mv s1).setN hvs) (yd s1) hd⟩⟩
def UY (i:Nat) (pl:yk):xA:=λD Γ=>pl Γ λds=>ds.length<=1000/\D.nx (zy Γ i (.ow ds))
theorem wZ (i:Nat) {x:Str} {pos' lp:Pos} (hN:X.N.Nodup) (hi:X.N[i]? = some x) (hx:uv X.env.scope x) (he:PA X es (wC pl)) (hs:swapsWith (.List es lp) (some (.Name x pos')) pos.line X.env=pure false:=by rfl) (hf:X.fn x=true\/X.env.scope.names.lookup x=some .local:=by first | exact .inl rfl | exact .inr rfl | assumption) :
  PS X (.Assign [.Name x pos'] (.List es lp) pos) (yf (UY i pl)):=yA (QM hN hi hx (Qg he) hs hf) λD σ H ⟨Z0,H0,Z,Γ,Dp,E,h,nx,rt,bk,ct⟩=>
 ⟨Z,Γ,_,E.e,h,λds vs H1 hd s1 hv=>⟨few (by rw [xg hv]; exact hd.1),λl hl=>by
  obtain ⟨E2,s2⟩:=(E.mv s1).make hl hv i
  exact nx _ _ _ _ E2 ((yd s1).trans s2) hd.2⟩⟩
def jn:D->(List D->Prop)->Prop
 | .lst es,k=>k es
 | _,_=>False
def zQC (i:Nat) (ow:Bool) (caps:List Nat) (pi:yk) (po:D->Option (List D)) (pe:zz):xA:=λT Γ=>pi Γ λds=>zj ds (λd S=>vq (po d) λos=>pe (os.map Sl.sh++caps.map λj=>un (slot Γ j)) S) λd=>jn d λes=>T.nx (zy Γ i (match ow with | true=>.ow es | false=>.sh (.lst es)))
theorem uT (i:Nat) (ow:Bool) {scope:Scope} {own:List Str} {caps:List (Nat × Str)} {tg iter elt:Expr} {pi:yk} {po:D->Option (List D)} {pe:zz} {js:List Nat} {y:Str} {py spos:Pos} (hN:X.N.Nodup) (hy:X.N[i]? = some y) (hl:X.env.scope.names.lookup y=some .local) (B:vQ X scope own caps) (hc:X.calm=true) (hj:js=List.range' 0 own.length) (hk:∀ d os,po d=some os->os.length=js.length)
  (hi:PI X tg iter (uB pi)) (hg:∀ C s₀ H₀ ex,PG (yN X scope (zY own caps) C s₀ H₀ ex) tg (tG js po)) (he:∀ C s₀ H₀ ex,PE (yN X scope (zY own caps) C s₀ H₀ ex) elt (tP pe)) (hsw:swapsWith (.ListComp elt [⟨tg,iter,[],0⟩] scope pos) (some (.Name y py)) spos.line X.env=pure true) (hs:∀ x,foldedSetIterable iter X.env x=pure x:=by intro _; rfl) :
  PS X (.Assign [.Name y py] (.ListComp elt [⟨tg,iter,[],0⟩] scope pos) spos) (yf (zQC i ow (caps.map (·.1)) pi po pe)):=yA (zMl hN hy hl B hc hi hg he hsw hs) λD σ H ⟨Z0,H0,Z,Γ,Dp,E,h,nx,rt,bk,ct⟩=>
 ⟨Z,Γ,_,E.e,h,λds J H1 ⟨fw,F,hF,hR⟩ s1 wk=>zLn (E.e.same s1) wk hj hk fw hF λes ys H' l h1 s2 h2 hp=>by
  have E1:=(E.mv s1).mv s2
  cases ow with
  | true=>
   obtain ⟨E2,s3⟩:=E1.make hp h2 i
   exact nx _ _ _ _ E2 ((yd (s1.trans s2)).trans s3) (hR es h1)
  | false=>exact nx Z _ _ _ ((E1.mv (xJ hp _)).set (v9 E1.e.zd hp h2) i) (yd (s1.trans (s2.trans (xJ hp _)))) (hR es h1)⟩
def UZ (pa:zz):xA:=λD Γ=>pa Γ D.rt
theorem zV (he:PE X e (tP pa)):PS X (.Return (some e) pos) (yf (UZ pa)):=yA (QK he) λD σ H ⟨Z0,H0,Z,Γ,Dp,E,h,nx,rt,bk,ct⟩=>
 ⟨Z,Γ,_,E.e,h,λd v H1 hd s1 hv=>rt d v H1 (E.same.trans s1) (hv.same (kH E.z0)) hd⟩
def pIf (t:wB) (p q:xA):xA:=λD Γ=>t Γ λc=>wX c (p D Γ) (q D Γ)
theorem yI {c:Expr} {a b:List Stmt} {t:wB} (hc:PT X c (xC t)) (ha:yu X a (yf p)) (hb:yu X b (yf q)):PS X (.If c a b pos) (yf (pIf t p q)):=yA (gK hc ha hb) λD σ H ⟨Z0,H0,Z,Γ,Dp,E,h,nx,rt,bk,ct⟩=>
 ⟨Z,Γ,_,E.e,h,λc H1 hd s1=>by
  have f:∀ {P:List Sl->Prop} {Q:St->Hp->Prop},(∀ Z' Γ' σ' H',ym Z0 H0 Z' Γ' σ' H'->zF (zS Z H) (zS Z' H')->P Γ'->Q σ' H')->∀ Z' Γ' σ' H',ym Z0 H0 Z' Γ' σ' H'->zF (zS Z H1) (zS Z' H')->P Γ'->Q σ' H':=λg Z2 Γ2 σ2 H2 E2 s2=>g Z2 Γ2 σ2 H2 E2 ((yd s1).trans s2)
  cases c with
  | true=>exact ⟨Z0,H0,Z,Γ,Dp,E.mv s1,hd.1 rfl,f nx,rt,f bk,f ct⟩
  | false=>exact ⟨Z0,H0,Z,Γ,Dp,E.mv s1,hd.2 rfl,f nx,rt,f bk,f ct⟩⟩
def zQD:xA:=λD Γ=>D.bk Γ
theorem zKe:PS X (.Break pos) (yf zQD):=yA zMm λD σ H ⟨Z0,H0,Z,Γ,Dp,E,h,nx,rt,bk,ct⟩=>bk Z Γ σ H E (zF.refl _) h
def zQA:xA:=λ_ _=>False
theorem Ua:PS X st (yf zQA):=yA zMk λD σ H ⟨Z0,H0,Z,Γ,Dp,E,h,nx,rt,bk,ct⟩=>h
def Ub (pi:yk) (js:List Nat) (po:D->Option (List D)) (pb:xA):xA:=λD Γ=>pi Γ λds=>∃ I:Nat->List Sl->Prop,I 0 Γ/\(∀ k d Γ',ds[k]? = some d->I k Γ'->vq (po d) λos=>pb ⟨I (k + 1),D.rt,D.nx,I (k + 1)⟩ (Y4 Γ' js os))/\∀ Γ',I ds.length Γ'->D.nx Γ'
theorem xW {tg iter:Expr} {body:List Stmt} {pi:yk} {js:List Nat} {po:D->Option (List D)} (hp:PassesOwn (model X.prog X.w) X.A X.env X.xe) (hc:X.calm=true) (hi:PI X tg iter (uB pi)) (hg:PG X tg (tG js po)) (hb:yu X body (yf p))
  (hs:∀ x,foldedSetIterable iter X.env x=pure x:=by intro _; rfl):PS X (.For tg iter body [] pos) (yf (Ub pi js po p)):=yA (zPs hp hc hi hg hb hs) λD σ H ⟨Z0,H0,Z,Γ,Dp,E,h,nx,rt,bk,ct⟩=>
 ⟨Z,Γ,_,E.e,h,λds J H1 ⟨I,h0,hst,hd⟩ s1 wk=>by
  have g:∀ {Q:List Sl->Prop} {T:St->Hp->Prop} {Z1 H2},zF (zS Z H1) (zS Z1 H2)->(∀ Z' Γ' σ' H',ym Z0 H0 Z' Γ' σ' H'->zF (zS Z H) (zS Z' H')->Q Γ'->T σ' H')->∀ Z' Γ' σ' H',ym Z0 H0 Z' Γ' σ' H'->zF (zS Z1 H2) (zS Z' H')->Q Γ'->T σ' H':=λs k Z2 Γ2 σ2 H2 E2 s2=>k Z2 Γ2 σ2 H2 E2 ((yd s1).trans (s.trans s2))
  refine ⟨λi m σ' H'=>m + i=ds.length/\∃ Z' Γ',ym Z0 H0 Z' Γ' σ' H'/\zF (zS Z H1) (zS Z' H')/\I i Γ',⟨ds.length,rfl,Z,Γ,E.mv s1,zF.refl _,h0⟩,?_⟩
  rintro i m σ' H' ⟨hm,Z',Γ',E',s',hI⟩
  obtain ⟨w1,w2⟩:=wk i Z' H' s' E'.e.zd
  by_cases hi:i < ds.length
  ·refine .inr ⟨(w1 _ (List.getElem?_eq_getElem hi)).1,λσ' H'=>m - 1 + (i + 1)=ds.length/\∃ Z' Γ',ym Z0 H0 Z' Γ' σ' H'/\zF (zS Z H1) (zS Z' H')/\I (i + 1) Γ',λσ2 H2 k=>⟨m - 1,by omega,k⟩,λx H2 yl=>?_⟩
   obtain ⟨s2,dv⟩:=(w1 _ (List.getElem?_eq_getElem hi)).2 x H2 yl
   obtain ⟨os,ho,hb⟩:=kh (hst i _ Γ' (List.getElem?_eq_getElem hi) hI)
   refine ⟨Z',_,os,dv,ho,λvs hvs=>?_⟩
   have s3:=s'.trans (yd s2)
   have again:∀ Z2 Γ2 σ2 H3,ym Z0 H0 Z2 Γ2 σ2 H3->zF (zS Z' H2) (zS Z2 H3)->I (i + 1) Γ2->m - 1 + (i + 1)=ds.length/\∃ Z' Γ',ym Z0 H0 Z' Γ' σ2 H3/\zF (zS Z H1) (zS Z' H3)/\I (i + 1) Γ':=λZ2 Γ2 σ2 H3 E3 k hI=>⟨by omega,Z2,Γ2,E3,s3.trans k,hI⟩
   exact ⟨Z0,H0,Z',_,_,(E'.mv s2).setN hvs,hb,again,rt,g s3 nx,again⟩
  ·have ei:i=ds.length:=by omega
   rw [ei] at hI
   exact .inl ⟨w2 ei,nx Z' Γ' σ' H' E' ((yd s1).trans s') (hd Γ' hI)⟩⟩
def Uc:Sl->(List D->Prop)->Prop
 | .ow ds,R=>R ds
 | _,_=>False
theorem zKu {s:Sl} {R:List D->Prop} (h:Uc s R):∃ ds,s=.ow ds/\R ds:=by
 cases s with
 | ow ds=>exact ⟨ds,rfl,h⟩
 | _=>exact h.elim
def Ud (i:Nat) (pa:zz):xA:=λD Γ=>Uc (slot Γ i) λds=>pa Γ λd=>ds.length < 1000/\D.nx (zy Γ i (.ow (ds++[d])))
theorem xr {i:Nat} {K:PySem.W.Frag} (D:xk) (σ:St) (H:Hp):yf (Ud i pa) D σ H->QJ (Q4 K "list" jZ (uc i) (qP (tP pa) vb)) D σ H:=λ⟨Z0,H0,Z,Γ,Dp,E,h,nx,rt,bk,ct⟩=>by
 obtain ⟨ds,hs,h⟩:=zKu h
 obtain ⟨l,xs,hl,hz,el,hx⟩:=E.e.ow i ds hs
 refine ⟨.ref l,hl,.inl ⟨rfl,xs,zW.of el⟩,Z,Γ,_,E.e,h,λd v H1 hd s1 hv=>?_⟩
 have hx1:=yy (yd s1) hx
 exact ⟨l,xs,v,rfl,rfl,s1 _ _ el,YX (by rw [xg hx]; omega),nx Z _ _ _ ((E.mv s1).put hs hl hz (jX hv hx1)) ((yd s1).trans (XC hz)) hd.2⟩
def ixL (ds:List D):D->(D->Prop)->Prop
 | .int i,R=>∃ d,yR ds i=some d/\R d
 | _,_=>False
def Ue (i:Nat) (pb:zz):zz:=λΓ R=>Uc (slot Γ i) λds=>pb Γ λk=>ixL ds k R
theorem zNs (i:Nat) {x:Str} {b:Expr} {xp:Pos} (hb:PE X b (tP pb)) (hs:Wo b) (hN:X.N[i]? = some x:=by rfl) (hv:jN X.env.scope x:=by first | exact Or.inl rfl | exact Or.inr (Or.inl rfl) | exact Or.inr (Or.inr rfl)) (hd:(x == ("__debug__" : Str))=false:=by decide)
  (hcd:(x == ("__classdict__" : Str))=false:=by decide):PE X (.Subscript (.Name x xp) b pos) (tP (Ue i pb)):=yG (Qx Qy (yU i hN hv hd hcd) hb hs) λσ H Q ⟨Z,Γ,R,E,h,q⟩=>by
 obtain ⟨ds,hs,h⟩:=zKu h
 obtain ⟨l,xs,hl,hz,el,hx⟩:=E.ow i ds hs
 refine ⟨.ref l,hl,Z,Γ,_,E,h,λk u H2 hk s2 hu=>?_⟩
 unfold ixL at hk
 split at hk
 ·cases hu
  obtain ⟨d,hd,hR⟩:=hk
  obtain ⟨v,hv,hh⟩:=Y1 hx hd
  exact ⟨l,xs,_,v,rfl,rfl,zW.of (s2 _ _ el),hv,q _ _ H2 hR s2 (hh.same (yd s2))⟩
 ·exact hk.elim
def D.isInt:D->Bool
 | .int _=>true
 | .bool _=>true
 | _=>false
def D.isBool:D->Bool
 | .bool _=>true
 | _=>false
def D.isLst:D->Bool
 | .lst _=>true
 | .scr _=>true
 | _=>false
def D.isTup:D->Bool
 | .tup _=>true
 | _=>false
def D.isObj:D->Bool
 | .obj ..=>true
 | _=>false
def k7 (c:String) (f:D->Bool):D->(D->Prop)->Prop:=λd R=>d.isObj=false/\R (.bool (f d))
theorem XD {K:PySem.W.Frag} {H:Hp} {v:V} {d:D} (h:DV H v d) (o:d.isObj=false):∃ t,yM K H v t/\PySem.W.kitOne K t (.type "int")=some d.isInt/\PySem.W.kitOne K t (.type "bool")=some d.isBool/\PySem.W.kitOne K t (.type "list")=some d.isLst/\PySem.W.kitOne K t (.type "tuple")=some d.isTup:=by
 cases h with
 | int i=>exact ⟨_,.int i,u4 K .int,u5 K .int,u7 K .int,u6 K .int⟩
 | bool b=>exact ⟨_,.bl b,u4 K .bool,u5 K .bool,u7 K .bool,u6 K .bool⟩
 | non=>exact ⟨_,.non,u4 K .non,u5 K .non,u7 K .non,u6 K .non⟩
 | str x=>exact ⟨_,.str x,u4 K .str,u5 K .str,u7 K .str,u6 K .str⟩
 | scr e=>
  rcases e with e | ⟨o,e⟩
  ·exact ⟨_,.lst e,u4 K .lst,u5 K .lst,u7 K .lst,u6 K .lst⟩
  ·exact ⟨_,.frz e,u4 K .lst,u5 K .lst,u7 K .lst,u6 K .lst⟩
 | lst e _=>exact ⟨_,.lst e,u4 K .lst,u5 K .lst,u7 K .lst,u6 K .lst⟩
 | tup e _=>exact ⟨_,.tup e,u4 K .tup,u5 K .tup,u7 K .tup,u6 K .tup⟩
 | obj e _ _=>cases o
theorem w6 {K:PySem.W.Frag} {c:String} {f:D->Bool} (hf:∀ H v d,DV H v d->d.isObj=false->∃ t,yM K H v t/\PySem.W.kitOne K t (.type c)=some (f d)) (σ:St) (H:Hp) (Q:VK):tP (kN (k7 c f) pa) σ H Q->gY (KF K) (qP (tP pa) (qP (tC (.ty c)) vb)) σ H Q:=λ⟨Z,Γ,R,E,h,q⟩=>
 ⟨Z,Γ,_,E,h,λd v H1 hd s1 hv=>by
  obtain ⟨t,h1,h2⟩:=hf H1 v d (hv.same zv) hd.1
  exact ⟨v,c,t,_,rfl,h1,h2,q _ _ H1 hd.2 s1 (.bool _)⟩⟩
theorem zQg {K:PySem.W.Frag} (H:Hp) (v:V) (d:D) (h:DV H v d) (o:d.isObj=false):∃ t,yM K H v t/\PySem.W.kitOne K t (.type "int")=some d.isInt:=let ⟨t,h1,h2,_⟩:=XD h o; ⟨t,h1,h2⟩
theorem zNF {K:PySem.W.Frag} (H:Hp) (v:V) (d:D) (h:DV H v d) (o:d.isObj=false):∃ t,yM K H v t/\PySem.W.kitOne K t (.type "bool")=some d.isBool:=let ⟨t,h1,_,h2,_⟩:=XD h o; ⟨t,h1,h2⟩
theorem ug {K:PySem.W.Frag} (H:Hp) (v:V) (d:D) (h:DV H v d) (o:d.isObj=false):∃ t,yM K H v t/\PySem.W.kitOne K t (.type "list")=some d.isLst:=let ⟨t,h1,_,_,h2,_⟩:=XD h o; ⟨t,h1,h2⟩
theorem k8 {K:PySem.W.Frag} (H:Hp) (v:V) (d:D) (h:DV H v d) (o:d.isObj=false):∃ t,yM K H v t/\PySem.W.kitOne K t (.type "tuple")=some d.isTup:=let ⟨t,h1,_,_,_,h2⟩:=XD h o; ⟨t,h1,h2⟩
end
inductive zJ (F:FL) (vs:List V) (H:Hp) (Q:VK) (E:XK):Prop
 | mk (Z:Addr->Prop) (ds:List D) (R:D->Prop) (zd:ZL Z H) (hv:yE (zS Z H) vs ds) (h:F ds R) (q:∀ d v H',R d->zF H H'->DV (zS Z H') v d->Q v H'):zJ F vs H Q E
section
variable {P:Program} {w:World} {K:PySem.W.Frag} {mg:Str->Option Value} {base:Heap}
theorem jo (n i:Nat):slot (List.replicate n .no) i=.no:=by
 rw [zIk]
 cases h:(List.replicate n Sl.no)[i]? with
 | none=>rfl
 | some x=>exact List.eq_of_mem_replicate (List.mem_of_getElem? h)
theorem zHb {Z:Addr->Prop} {H:Hp} {vs:List V} {ds:List D} (zd:ZL Z H) (h:yE (zS Z H) vs ds) (n:Nat):yP Z (ds.map Sl.sh++List.replicate n .no) (vs.map some++List.replicate n none) H:=by
 have no:∀ i as,slot (ds.map Sl.sh++List.replicate n .no) i≠.ow as:=XA λi as h=>by rw [jo] at h; cases h
 have nob:∀ i o c ns as,slot (ds.map Sl.sh++List.replicate n .no) i≠.ob o c ns as:=Y9 λi o c ns as h=>by rw [jo] at h; cases h
 refine ⟨?_,λi as e=>absurd e (no i as),λi o c ns as e=>absurd e (nob i o c ns as),λi _ as _ _ e=>absurd e (no i as),zd,?_⟩
 clear nob
 ·induction h with
  | nil=>
   intro i d e
   change slot (List.replicate n .no) i=_ at e
   rw [jo] at e
   cases e
  | @cons v d vs ds hv _ ih=>
   intro i e q
   cases i with
   | zero=>cases q; exact ⟨v,rfl,hv⟩
   | succ i=>
    obtain ⟨u,h1,h2⟩:=ih (λi=>no (i + 1)) i e q
    exact ⟨u,by rw [List.map_cons,List.cons_append,List.getElem?_cons_succ]; exact h1,h2⟩
 ·rw [List.length_append,List.length_append,List.length_map,List.length_map,List.length_replicate,List.length_replicate,xg h]
theorem zIv {N ps:List Str} {F:FL} {p:xA} (len:∀ ds R,F ds R->ds.length=ps.length) (h2:∀ ds R,F ds R->p { nx:=λ_=>R .non,rt:=R } (ds.map Sl.sh++List.replicate (N.length - ps.length) .no)) {H:Hp} {vs:List V} {Q:VK} {E:XK} (h:zJ F vs H Q E):yf p { nx:=λ_ H'=>Q .non H',rt:=Q } (L2.vD N vs) H:=by
 obtain ⟨Z,ds,R,zd,hv,h,q⟩:=h
 have e:L2.vD N vs=vs.map some++List.replicate (N.length - ps.length) none:=by
  unfold L2.vD
  rw [xg hv,len ds R h]
 refine ⟨Z,H,Z,_,_,⟨?_,λ_ h=>h,zd,zF.refl _,?_,?_⟩,h2 ds R h,λZ' Γ' σ' H' E' _ hn=>q .non .non H' hn E'.same .non,λd v H' s' hv' hd=>q d v H' hd s' hv',λ_ _ _ _ _ _ h=>h.elim,λ_ _ _ _ _ _ h=>h.elim⟩
 ·rw [e]
  exact zHb zd hv _
 ·exact λi as l e=>absurd e (XA (λi as h=>by rw [jo] at h; cases h) i as)
 ·exact λi o c ns as e=>absurd e (Y9 (λi o c ns as h=>by rw [jo] at h; cases h) i o c ns as)
theorem Uf {ps:List Str} {F:FL} (len:∀ ds R,F ds R->ds.length=ps.length) (vs:List V) (H:Hp) (Q:VK) (E:XK):zJ F vs H Q E->vs.length=ps.length:=λ⟨Z,ds,R,zd,hv,h,q⟩=>by rw [xg hv]; exact len ds R h
theorem zu {x qual:Str} {st:Stmt} {f:Addr} {fd:FuncData} {N ps:List Str} {k:Nat} {F:FL} (Fu:zc K x qual st f fd) (S:zb N ps (zL st)) (len:∀ ds R,F ds R->ds.length=ps.length)
  (hbody:∀ (cdv:Value) (A:Around) (outer:List Env) (s:Shared) (H:Hp) (E:XK),zi k (A.deeper (envOfC qual (zL st) s.heap.objs.size f cdv))->
   ∃ p,yu (xR zX P w K mg base N qual (zL st) f cdv A outer s H E).nox (xO st) (yf p)/\∀ ds R,F ds R->p { nx:=λ_=>R .non,rt:=R } (ds.map Sl.sh++List.replicate (N.length - ps.length) .no)):zG P w K mg base zX (k + 1) f fd ps (zJ F):=
 Fu.ok S (Uf len) λcdv A outer s H vs Q E hr h=>let ⟨p,h1,h2⟩:=hbody cdv A outer s H E hr; ⟨_,h1,zIv len h2 h⟩
theorem k9 {x qual:Str} {st:Stmt} {f:Addr} {fd:FuncData} {dv:Value} {N ps:List Str} {k:Nat} {F:FL} (Fu:yw K x qual st f fd dv) (S:zb N ps (zL st)) (len:∀ ds R,F ds R->ds.length=ps.length)
  (hbody:∀ (cdv:Value) (A:Around) (outer:List Env) (s:Shared) (H:Hp) (E:XK),zi k (A.deeper (envOfC qual (zL st) s.heap.objs.size f cdv))->
   ∃ p,yu (xR zX P w K mg base N qual (zL st) f cdv A outer s H E).nox (xO st) (yf p)/\∀ ds R,F ds R->p { nx:=λ_=>R .non,rt:=R } (ds.map Sl.sh++List.replicate (N.length - ps.length) .no)):zG P w K mg base zX (k + 1) f fd ps (zJ F):=
 Fu.ok S (Uf len) λcdv A outer s H vs Q E hr h=>let ⟨p,h1,h2⟩:=hbody cdv A outer s H E hr; ⟨_,h1,zIv len h2 h⟩
theorem zP {X:Cx} {x:Str} {ps:List Str} {k:Nat} {F:FL} {e:Expr} {es:List Expr} {pl:yk} {p pos:Pos} (c:Fn X.prog X.w X.K X.mg X.base x ps k (zJ F)) (hr:zi k X.A) (hg:Gl X x) (ha:PA X (e :: es) (wC pl))
  (hdb:(x == ("__debug__" : Str))=false:=by decide) (he:starEach (e :: es) X.env=(false,eval e X.env) :: starEach es X.env:=by rfl) (hpl:(backTo pos (starEach es X.env)).any (·.1)=false:=by rfl) :
  PE X (.Call (.Name x p) (e :: es) [] pos) (tP (u9 F pl)):=yG (zMw c hr hg ha hdb he hpl) λσ H Q ⟨Z,Γ,R,E,h,q⟩=>
 ⟨Z,Γ,_,E,h,λds vs H1 hd s1 hv=>⟨Z,ds,R,(E.same s1).zd,by rw [List.append_nil]; exact hv,hd,λd v H2 h2 s2 hv2=>q d v H2 h2 (s1.trans s2) hv2⟩⟩
end
end Pu
namespace Pu
open PySem L2 Sh
open PyProof.Rows (envOfC)
theorem zIs {f:Str} {y:V}:∀ {ns:List Str} {xs:List V},ns.length=xs.length->f∉ns->yY f y (ns.zip xs)=(ns++[f]).zip (xs++[y])
 | [],[],_,_=>rfl
 | [],_ :: _,h,_=>nomatch h
 | _ :: _,[],h,_=>nomatch h
 | n :: ns,x :: xs,h,hf=>by
  show (if n=f then (n,y) :: ns.zip xs else (n,x) :: yY f y (ns.zip xs))=_
  rw [if_neg (λz=>hf (by rw [z]; exact List.mem_cons_self)),zIs (Nat.succ.inj h) (λz=>hf (List.mem_cons_of_mem _ z))]
  rfl
theorem ym.putO {Z0:Addr->Prop} {H0:Hp} {Z:Addr->Prop} {Γ:List Sl} {σ:St} {H:Hp} (E:ym Z0 H0 Z Γ σ H) {i:Nat} {o c dx:Addr} {ns ns':List Str} {ds ds':List D} {xs:List V} (hs:slot Γ i=.ob o c ns ds) (he:∃ fs,H o=some (.ins c dx fs)) (hl:ns'.length=xs.length) (hx:yE (zS Z H) xs ds') (one:∀ j o' c' ns' ds',slot Γ j=.ob o' c' ns' ds'->j=i):ym Z0 H0 Z (zy Γ i (.ob o c ns' ds')) σ (za H o (.ins c dx (ns'.zip xs))):=by
 obtain ⟨dx0,xs0,hl0,hz,el,_⟩:=E.e.ob i o c ns ds hs
 have li:=vn (Γ:=Γ) (i:=i) (by rw [hs]; exact λz=>nomatch z)
 have hp:zF (zS Z H) (zS Z (za H o (.ins c dx (ns'.zip xs)))):=XC hz
 have keyw:∀ j d,slot (zy Γ i (.ob o c ns' ds')) j=.ow d->slot Γ j=.ow d:=λj d q=>by
  rw [xK] at q
  by_cases c:j=i/\i < Γ.length
  ·rw [if_pos c] at q; cases q
  ·rw [if_neg c] at q; exact q
 refine ⟨⟨λj d q=>?_,λj d q=>?_,λj o' c' ns1 d q=>?_,λj k as bs m q r=>E.e.ne j k as bs m (keyw j as q) (keyw k bs r),λb hb=>?_,by rw [ja]; exact E.e.len⟩,E.z0,E.z0d,?_,λj d m q=>E.own j d m (keyw j d q),λj o' c' ns1 d q=>?_⟩
 ·rw [xK] at q
  by_cases c:j=i/\i < Γ.length
  ·rw [if_pos c] at q; cases q
  ·rw [if_neg c] at q
   obtain ⟨v,h1,h2⟩:=E.e.sh j d q
   exact ⟨v,h1,h2.same hp⟩
 ·obtain ⟨m,ys,h1,h2,h3,h4⟩:=E.e.ow j d (keyw j d q)
  have nm:m≠o:=λz=>by rw [z,el] at h3; cases h3
  exact ⟨m,ys,h1,h2,by rw [zp nm]; exact h3,yy hp h4⟩
 ·rw [xK] at q
  by_cases c:j=i/\i < Γ.length
  ·rw [if_pos c] at q
   cases q
   rw [c.1]
   exact ⟨dx,xs,hl0,hz,wK,hl,yy hp hx⟩
  ·rw [if_neg c] at q
   exact absurd ⟨one _ _ _ _ _ q,li⟩ c
 ·obtain ⟨u,e,n⟩:=E.e.zd b hb
  by_cases c:b=o
  ·rw [c]; exact ⟨_,wK,λ_ z=>nomatch z⟩
  ·exact ⟨u,by rw [zp c]; exact e,n⟩
 ·exact λb u e=>by
   rw [zp (xZ e (E.owb i o c ns ds hs))]
   exact E.same _ _ e
 ·rw [xK] at q
  by_cases c:j=i/\i < Γ.length
  ·rw [if_pos c] at q
   cases q
   exact E.owb i o _ ns ds hs
  ·rw [if_neg c] at q
   exact E.owb j o' c' ns1 d q
def ZA:Sl->(Addr->Addr->List Str->List D->Prop)->Prop
 | .ob o c ns ds,R=>R o c ns ds
 | _,_=>False
theorem zLB {s:Sl} {R:Addr->Addr->List Str->List D->Prop} (h:ZA s R):∃ o c ns ds,s=.ob o c ns ds/\R o c ns ds:=by
 cases s with
 | ob o c ns ds=>exact ⟨o,c,ns,ds,rfl,h⟩
 | _=>exact h.elim
def jp:List Sl->Bool
 | []=>true
 | .ob _ _ _ _ :: _=>false
 | _ :: t=>jp t
theorem XE:∀ {Γ:List Sl},jp Γ=true->∀ j o c ns ds,slot Γ j≠.ob o c ns ds
 | [],_,_,_,_,_,_,h=>nomatch h
 | .no :: _,_,0,_,_,_,_,h=>nomatch h
 | .sh _ :: _,_,0,_,_,_,_,h=>nomatch h
 | .ow _ :: _,_,0,_,_,_,_,h=>nomatch h
 | .ob .. :: _,g,_,_,_,_,_,_=>nomatch g
 | .no :: t,g,j + 1,o,c,ns,ds,h=>XE (Γ:=t) g j o c ns ds h
 | .sh _ :: t,g,j + 1,o,c,ns,ds,h=>XE (Γ:=t) g j o c ns ds h
 | .ow _ :: t,g,j + 1,o,c,ns,ds,h=>XE (Γ:=t) g j o c ns ds h
def zRE (K:PySem.W.Frag) (c:Addr) (f:Str):Prop:=v6 K c/\yc K c f
def Ug (K:PySem.W.Frag) (f:Str) (pa:zz):xA:=λT Γ=>pa Γ λd=>ZA (slot Γ 0) λo c ns ds=>zRE K c f/\f∉ns/\ns.length < 900/\jp (Γ.drop 1)=true/\T.nx (zy Γ 0 (.ob o c (ns++[f]) (ds++[d])))
section
variable {X:Cx} {e:Expr} {es:List Expr} {pos:Pos} {pa:zz} {pl:yk} {C:Addr}
theorem wa {K:PySem.W.Frag} {f:Str} (D:xk) (σ:St) (H:Hp):yf (Ug K f pa) D σ H->gX K (uc 0) (tP pa) f D σ H:=λ⟨Z0,H0,Z,Γ,Dp,E,h,nx,rt,bk,ct⟩=>
 ⟨Z,Γ,_,E.e,h,λd v H1 hd s1 hv=>by
  obtain ⟨o,c,ns,ds,hs,hk,hf,hn,hn2,hd⟩:=zLB hd
  obtain ⟨dx,xs,hl,hz,el,ln,hx⟩:=(E.mv s1).e.ob 0 o c ns ds hs
  refine ⟨.ref o,hl,o,c,dx,_,rfl,el,hk.1,hk.2,by rw [List.length_zip]; omega,?_⟩
  rw [zIs ln hf]
  refine nx Z _ _ _ ((E.mv s1).putO hs ⟨_,el⟩ (by rw [List.length_append,List.length_append,ln]; rfl) (jX hv hx) ?_) ((yd s1).trans (XC hz)) hd
  intro j o' c' ns' ds' q
  cases j with
  | zero=>rfl
  | succ j=>
   cases Γ with
   | nil=>cases q
   | cons x t=>exact absurd q (XE (Γ:=t) hn2 j o' c' ns' ds')⟩
inductive w8 (C:Addr) (F:FL) (vs:List V) (H:Hp) (Q:VK) (E:XK):Prop
 | mk (Z:Addr->Prop) (ds:List D) (R:D->Prop) (o dx:Addr) (us:List V) (e:vs=.ref o :: us) (ho:H o=some (.ins C dx [])) (hz:¬ Z o) (zd:ZL Z H) (hv:yE (zS (λb=>Z b\/b=o) H) us ds) (h:F ds R) (q:∀ d H',R d->Kf o H H'->DV (zS Z H') (.ref o) d->Q .non H'):w8 C F vs H Q E
theorem zIw {N ps:List Str} {F:FL} {p:xA} (len:∀ ds R,F ds R->ds.length=ps.length) (h2:∀ o ds R,F ds R->p { nx:=λΓ=>ZA (slot Γ 0) λo' c ns es=>o'=o/\R (.obj c ns es),rt:=λ_=>False } (.ob o C [] [] :: (ds.map Sl.sh++List.replicate (N.length - (ps.length + 1)) .no))) {H:Hp} {vs:List V} {Q:VK} {E:XK} (h:w8 C F vs H Q E):yf p { nx:=λ_ H'=>Q .non H',rt:=Q } (L2.vD N vs) H:=by
 obtain ⟨Z,ds,R,o,dx,us,e,ho,hz,zd,hv,h,q⟩:=h
 subst e
 have e:L2.vD N (.ref o :: us)=some (.ref o) :: (us.map some++List.replicate (N.length - (ps.length + 1)) none):=by
  unfold L2.vD
  rw [List.length_cons,xg hv,len ds R h]
  rfl
 have zd':ZL (λb=>Z b\/b=o) H:=λb hb=>hb.elim (zd b) λz=>by rw [z]; exact ⟨_,ho,λ_ z=>nomatch z⟩
 have E0:=zHb zd' hv (N.length - (ps.length + 1))
 refine ⟨Z,zS (λb=>b=o) H,λb=>Z b\/b=o,_,_,⟨?_,λ_ h=>.inl h,λb hb=>?_,zv,?_,?_⟩,h2 o ds R h,λZ' Γ' σ' H' E' _ hn=>?_,λ_ _ _ _ _ h=>h.elim,λ_ _ _ _ _ _ h=>h.elim,λ_ _ _ _ _ _ h=>h.elim⟩
 ·rw [e]
  refine ⟨λi d q=>?_,λi d q=>?_,λi o' c ns d q=>?_,λi j as bs l q r=>?_,zd',by rw [List.length_cons,List.length_cons,E0.len]⟩
  ·cases i with
   | zero=>cases q
   | succ i=>exact E0.sh i d q
  ·cases i with
   | zero=>cases q
   | succ i=>exact E0.ow i d q
  ·cases i with
   | zero=>cases q; exact ⟨dx,[],rfl,.inr rfl,ho,rfl,.nil⟩
   | succ i=>exact E0.ob i o' c ns d q
  ·cases i with
   | zero=>cases q
   | succ i=>
    cases j with
    | zero=>cases r
    | succ j=>exact λa b=>congrArg _ (E0.ne i j as bs l q r a b)
 ·obtain ⟨u,e1,n⟩:=zd b hb
  exact ⟨u,(vR (Z:=λb=>b=o) λz=>hz (by rw [<- z]; exact hb)).trans e1,n⟩
 ·intro i as l q
  cases i with
  | zero=>cases q
  | succ i=>exact absurd q (XA (λi as h=>by rw [jo] at h; cases h) i as)
 ·intro i o' c ns as q
  cases i with
  | zero=>cases q; exact if_pos rfl
  | succ i=>exact absurd q (Y9 (λi o c ns as h=>by rw [jo] at h; cases h) i o' c ns as)
 ·obtain ⟨o',c,ns,es,hs,e2,hR⟩:=zLB hn
  subst e2
  obtain ⟨dx',xs,hl,hz',el,ln,hx⟩:=E'.e.ob 0 o' c ns es hs
  refine q _ H' hR (λb u eb nb=>E'.same _ _ ((vR (Z:=λb=>b=o') nb).trans eb)) (.obj ((vR hz).trans el) ln (yy (kH E'.z0) hx))
theorem zKL {ps:List Str} {p0:Str} {F:FL} (len:∀ ds R,F ds R->ds.length=ps.length) (vs:List V) (H:Hp) (Q:VK) (E:XK):w8 C F vs H Q E->vs.length=(p0 :: ps).length:=λ⟨Z,ds,R,o,dx,us,e,ho,hz,zd,hv,h,q⟩=>by rw [e,List.length_cons,List.length_cons,xg hv,len ds R h]
theorem Uh {P:Program} {w:World} {K:PySem.W.Frag} {mg:Str->Option Value} {base:Heap} {x qual:Str} {st:Stmt} {f:Addr} {fd:FuncData} {N ps:List Str} {p0:Str} {k:Nat} {F:FL} (Fu:zc K x qual st f fd) (S:zb N (p0 :: ps) (zL st)) (len:∀ ds R,F ds R->ds.length=ps.length)
  (hbody:∀ (cdv:Value) (A:Around) (outer:List Env) (s:Shared) (H:Hp) (E:XK),zi k (A.deeper (envOfC qual (zL st) s.heap.objs.size f cdv))->
   ∃ p,yu (xR zX P w K mg base N qual (zL st) f cdv A outer s H E).nox (xO st) (yf p)/\∀ o ds R,F ds R->p { nx:=λΓ=>ZA (slot Γ 0) λo' c ns es=>o'=o/\R (.obj c ns es),rt:=λ_=>False } (.ob o C [] [] :: (ds.map Sl.sh++List.replicate (N.length - (ps.length + 1)) .no))):zG P w K mg base zX (k + 1) f fd (p0 :: ps) (w8 C F):=
 Fu.ok S (zKL len) λcdv A outer s H vs Q E hr h=>let ⟨p,h1,h2⟩:=hbody cdv A outer s H E hr; ⟨_,h1,zIw len h2 h⟩
theorem Ui {P:Program} {w:World} {K:PySem.W.Frag} {mg:Str->Option Value} {base:Heap} {x qual:Str} {st:Stmt} {f:Addr} {fd:FuncData} {dv:Value} {N ps:List Str} {p0:Str} {k:Nat} {F:FL} (Fu:yw K x qual st f fd dv) (S:zb N (p0 :: ps) (zL st)) (len:∀ ds R,F ds R->ds.length=ps.length)
  (hbody:∀ (cdv:Value) (A:Around) (outer:List Env) (s:Shared) (H:Hp) (E:XK),zi k (A.deeper (envOfC qual (zL st) s.heap.objs.size f cdv))->
   ∃ p,yu (xR zX P w K mg base N qual (zL st) f cdv A outer s H E).nox (xO st) (yf p)/\∀ o ds R,F ds R->p { nx:=λΓ=>ZA (slot Γ 0) λo' c ns es=>o'=o/\R (.obj c ns es),rt:=λ_=>False } (.ob o C [] [] :: (ds.map Sl.sh++List.replicate (N.length - (ps.length + 1)) .no))):zG P w K mg base zX (k + 1) f fd (p0 :: ps) (w8 C F):=
 Fu.ok S (zKL len) λcdv A outer s H vs Q E hr h=>let ⟨p,h1,h2⟩:=hbody cdv A outer s H E hr; ⟨_,h1,zIw len h2 h⟩
theorem zMU {F:FL} {ev:List V} {ed:List D} (he:∀ H,yE H ev ed) (σ:St) (H:Hp) (Q:VK):tP (u9 (λds=>F (ds++ed)) pl) σ H Q->YU C (w8 C F) ev E0 (wC pl) σ H Q:=λ⟨Z,Γ,R,E,h,q⟩=>
 ⟨Z,Γ,_,E,h,λds vs H1 hd s1 hv x dx hx hdx ne=>by
  have zd:=(E.same s1).zd
  have s2:zF H1 (za (za H1 dx (.own x)) x (.ins C dx [])):=zKX hx hdx ne _ _
  refine ⟨Z,ds++ed,R,x,dx,vs++ev,rfl,wK,zd.new hx,zd.same s2,?_,hd,λd H' hR sb dv=>⟨rfl,q d _ H' hR (zMc (s1.trans s2) sb ?_) dv⟩⟩
  ·refine gm (yy ?_ hv) (he _)
   intro b o e
   obtain ⟨n1,n2⟩:=qd e
   rw [vR (λz=>z.elim n1 (xZ n2 hx))]
   exact s2 _ _ n2
  ·cases k:H x with
   | none=>rfl
   | some o=>rw [s1 _ _ k] at hx; cases hx⟩
theorem zOJ {F:FL} (σ:St) (H:Hp) (Q:VK) (h:tP (u9 F pl) σ H Q):YU C (w8 C F) [] E0 (wC pl) σ H Q:=zMU (ed:=[]) (λ_=>.nil) σ H Q (by rw [show (λds=>F (ds++[]))=F from funext λds=>by rw [List.append_nil]]; exact h)
theorem XF {x:Str} {ps:List Str} {k:Nat} {F:FL} {p:Pos} (c:uP X.prog X.w X.K X.mg X.base C ps k (w8 C F)) (T:zE X.K X.mg x C) (hr:zi (k + 1) X.A) (hg:Gl X x) (ha:PA X (e :: es) (wC pl))
  (hdb:(x == ("__debug__" : Str))=false:=by decide) (he:starEach (e :: es) X.env=(false,eval e X.env) :: starEach es X.env:=by rfl) (hpl:(backTo pos (starEach es X.env)).any (·.1)=false:=by rfl) :
  PE X (.Call (.Name x p) (e :: es) [] pos) (tP (u9 F pl)):=yG (zMt c T hr hg ha hdb he hpl) zOJ
theorem uD {x:Str} {ps:List Str} {k:Nat} {F:FL} {p:Pos} {dv:V} (dd:D) (hd:∀ H,DV H dv dd) (c:vd X.prog X.w X.K X.mg X.base x ps k (zJ F) dv) (hr:zi k X.A) (hg:Gl X x) (ha:PA X (e :: es) (wC pl))
  (hdb:(x == ("__debug__" : Str))=false:=by decide) (he:starEach (e :: es) X.env=(false,eval e X.env) :: starEach es X.env:=by rfl) (hpl:(backTo pos (starEach es X.env)).any (·.1)=false:=by rfl) :
  PE X (.Call (.Name x p) (e :: es) [] pos) (tP (u9 (λds=>F (ds++[dd])) pl)):=yG (zKp c hr hg ha hdb he hpl) λσ H Q ⟨Z,Γ,R,E,h,q⟩=>
 ⟨Z,Γ,_,E,h,λds vs H1 hd' s1 hv=>⟨Z,ds++[dd],R,(E.same s1).zd,gm hv (.cons (hd _) .nil),hd',λd v H2 h2 s2 hv2=>q d v H2 h2 (s1.trans s2) hv2⟩⟩
def ZB (K:PySem.W.Frag) (f:Str):D->(D->Prop)->Prop
 | .obj c ns ds,R=>zRE K c f/\∃ d,(ns.zip ds).lookup f=some d/\R d
 | _,_=>False
theorem zHV {H:Hp} {f:Str} {d:D}:∀ {ns:List Str} {xs:List V} {ds:List D},ns.length=xs.length->yE H xs ds->(ns.zip ds).lookup f=some d->∃ v,(ns.zip xs).lookup f=some v/\DV H v d
 | [],_,_,_,_,h=>nomatch h
 | _ :: _,[],_,h,_,_=>nomatch h
 | n :: ns,x :: xs,_,h,.cons (b:=d') (l₂:=dt) k t,q=>by
  change (match f == n with | true=>some d' | false=>(ns.zip dt).lookup f)=some d at q
  show ∃ v,(match f == n with | true=>some x | false=>(ns.zip xs).lookup f)=some v/\_
  cases e:f == n with
  | true=>rw [e] at q; cases q; exact ⟨x,rfl,k⟩
  | false=>rw [e] at q; exact zHV (Nat.succ.inj h) t q
theorem yK (K:PySem.W.Frag) {f:Str} (ha:PE X e (tP pa)) (hb:attributeBase e f X.env (eval e X.env)=eval e X.env) (hK:X.K=K:=by rfl):PE X (.Attribute e f pos) (tP (kN (ZB K f) pa)):=yG (zP8 ha hb) λσ H Q ⟨Z,Γ,R,E,h,q⟩=>
 ⟨Z,Γ,_,E,h,λd v H1 hd s1 hv=>by
  unfold ZB at hd
  split at hd
  ·obtain ⟨hk,d',hl,hR⟩:=hd
   cases hv with
   | obj e1 l1 h1=>
    obtain ⟨v,e2,dv⟩:=zHV l1 h1 hl
    exact ⟨_,_,_,_,v,rfl,zv _ _ e1,by rw [hK]; exact hk.1,by rw [hK]; exact hk.2,e2,q _ _ H1 hR s1 dv⟩
  ·exact hd.elim⟩
def zQT (C:Addr) (m:Str) (F:FL):D->(D->Prop)->Prop
 | .obj c ns ds,R=>c=C/\m∉ns/\F [.obj c ns ds] R
 | _,_=>False
theorem YY {f:Str}:∀ {ns:List Str} {xs:List V},f∉ns->(ns.zip xs).lookup f=none
 | [],_,_=>rfl
 | _ :: _,[],_=>rfl
 | n :: ns,x :: xs,h=>by
  show (match f == n with | true=>some x | false=>(ns.zip xs).lookup f)=none
  have e:(f == n)=false:=beq_eq_false_iff_ne.mpr λz=>h (by rw [z]; exact List.mem_cons_self)
  rw [e]
  exact YY λz=>h (List.mem_cons_of_mem _ z)
theorem XG {x m:Str} {ps:List Str} {k:Nat} {F:FL} {apos:Pos} {pl:Sem Bool} (c:uO X.prog X.w X.K X.mg X.base C m ps k (zJ F)) (T:zE X.K X.mg x C) (hr:zi k X.A) (ha:PE X e (tP pa))
  (ht:eval (.Call (.Attribute e m apos) [] [] pos) X.env=(do
   let ov <- eval e X.env
   standAt apos.atName
   let (f,first) <- holding [ov] (getMethod ov m pl)
   callWith pos f first (backTo pos (starEach [] X.env)) (backToKw pos (keywordEach [] X.env))):=by rfl) :
  PE X (.Call (.Attribute e m apos) [] [] pos) (tP (kN (zQT C m F) pa)):=yG (zKm c T hr ha ht) λσ H Q ⟨Z,Γ,R,E,h,q⟩=>
 ⟨Z,Γ,_,E,h,λd v H1 hd s1 hv=>by
  unfold zQT at hd
  split at hd
  ·obtain ⟨rfl,hm,hR⟩:=hd
   have hv0:=hv
   cases hv with
   | obj e1 l1 h1=>exact ⟨_,_,_,rfl,zv _ _ e1,YY hm,Z,_,R,(E.same s1).zd,.cons hv0 .nil,hR,λd v H2 h2 s2 hv2=>q d v H2 h2 (s1.trans s2) hv2⟩
  ·exact hd.elim⟩
def zQi (K:PySem.W.Frag) (C:Addr):D->(D->Prop)->Prop
 | .obj c _ _,R=>(∃ mg x,zE K mg x c)/\∃ b,PySem.W.kitOne K (.ref c) (.ref C)=some b/\R (.bool b)
 | _,_=>False
theorem ZC {K:PySem.W.Frag} (σ:St) (H:Hp) (Q:VK):tP (kN (zQi K C) pa) σ H Q->gY (Ka K) (qP (tP pa) (qP (tC (.ref C)) vb)) σ H Q:=λ⟨Z,Γ,R,E,h,q⟩=>
 ⟨Z,Γ,_,E,h,λd v H1 hd s1 hv=>by
  unfold zQi at hd
  split at hd
  ·obtain ⟨⟨mg,x,T⟩,b,hk,hR⟩:=hd
   cases hv with
   | obj e1 l1 h1=>exact ⟨_,_,_,b,rfl,T.ty (zv _ _ e1),hk,q _ _ H1 hR s1 (.bool _)⟩
  ·exact hd.elim⟩
def ZD (pa:zz):xA:=λT Γ=>pa Γ λ_=>T.nx Γ
theorem zMg (he:PE X e (tP pa)) (hs:swapsWith e none pos.line X.env=pure false:=by rfl):PS X (.Expr e pos) (yf (ZD pa)):=yA (xa he hs) λD σ H ⟨Z0,H0,Z,Γ,Dp,E,h,nx,rt,bk,ct⟩=>
 ⟨Z,Γ,_,E.e,h,λd v H1 hd s1 hv=>nx Z Γ σ H1 (E.mv s1) (yd s1) hd⟩
end
end Pu
namespace Pu
open PySem L2 Sh
def jD (k:Nat):List D->List D
 | []=>[]
 | d :: t=>xL (.int (k:Int)) d :: jD (k + 1) t
theorem Uj:∀ (k:Nat) (ds:List D),(jD k ds).length=ds.length
 | _,[]=>rfl
 | k,_ :: t=>congrArg (· + 1) (Uj (k + 1) t)
theorem Uk:∀ {k:Nat} {ds:List D} {i:Nat} {e:D},(jD k ds)[i]? = some e->∃ d,ds[i]? = some d/\e=xL (.int ((k + i:Nat):Int)) d
 | _,[],_,_,h=>by simp [jD] at h
 | k,d :: t,0,e,h=>⟨d,rfl,by simp [jD] at h; exact h.symm⟩
 | k,d :: t,i + 1,e,h=>by
  obtain ⟨d',h1,h2⟩:=Uk (k:=k + 1) (ds:=t) (i:=i) (e:=e) (by simpa [jD] using h)
  exact ⟨d',by simpa using h1,by rw [h2,show k + 1 + i=k + (i + 1) by omega]⟩
theorem zMN {K:PySem.W.Frag} {Z:Addr->Prop} {H:Hp} {p:Addr} {k:Nat} {xs:List V} {ds:List D} (e:zS Z H p=some (.lst xs)) (h:yE (zS Z H) xs ds):Wk Z (jY K p k) H (jD k ds):=λi Z' H' s zd=>by
 have e1:=zv _ _ (s _ _ e)
 refine ⟨λd hd=>?_,λhi=>⟨xs,zW.of e1,by rw [Uj] at hi; rw [xg h]; omega⟩⟩
 obtain ⟨d',hd',rfl⟩:=Uk hd
 obtain ⟨x,hx,hh⟩:=jA h hd'
 refine ⟨⟨xs,x,zW.of e1,hx⟩,λy H'' ⟨T,x',ev,hT,eH,q⟩=>?_⟩
 have:=q xs (zW.of e1)
 rw [hx] at this
 cases this
 subst ev
 subst eH
 exact ⟨xJ hT _,kJ zd hT (.cons (.int _) (.cons (hh.same s) .nil))⟩
def ZE:List D->(List D->Prop)->Prop
 | [.lst ds],R=>R ds
 | _,_=>False
def enD (ds:List D):D->(List D->Prop)->Prop
 | .int i,R=>0<=i/\i<=1000/\R (jD i.toNat ds)
 | _,_=>False
def Ul (pl:yk) (pb:zz):yk:=λΓ R=>pl Γ λds=>ZE ds λes=>pb Γ λd=>enD es d R
section
variable {X:Cx} {e1 e2:Expr} {pos:Pos} {pb:zz} {pl:yk}
theorem zKf {ts:List Expr} {kk:Nat} {tp p kp:Pos} (hg:Gl X "enumerate") (hm:X.mg "enumerate" = none) (ha:PA X [e1] (wC pl)) (he:PE X e2 (tP pb)) (hs:starEach [e1] X.env=[(false,eval e1 X.env)]:=by rfl) (hs2:starEach [] X.env=[]:=by rfl) :
  PI X (.Tuple ts kk tp) (.Call (.Name "enumerate" p) [e1] [⟨some "start",e2,kp⟩] pos) (uB (Ul pl pb)):=ki (zMq hg hm ha he hs hs2) λσ H Q ⟨Z,Γ,R,E,h,q⟩=>
 ⟨Z,Γ,_,E,h,λds vs H1 hd s1 hv=>by
  unfold ZE at hd
  split at hd
  ·obtain ⟨v,rfl,hw⟩:=yq hv
   obtain ⟨a,xs,rfl,ea,hx⟩:=hw.lst_inv
   refine ⟨a,rfl,Z,Γ,_,E.same s1,hd,λd u H2 hd2 s2 hu=>?_⟩
   unfold enD at hd2
   split at hd2
   ·rename_i i
    obtain ⟨h0,h1,hR⟩:=hd2
    cases hu
    have e2:=yd (Z:=Z) s2 _ _ ea
    refine ⟨i.toNat,by rw [show ((i.toNat:Nat):Int)=i by omega],?_,⟨xs,zW.of (zv _ _ e2)⟩,q _ _ H2 hR (s1.trans s2) (zMN e2 (yy (yd s2) hx))⟩
    unfold Builtin.SmallTypes.fitsIndex
    rw [decide_eq_true (by omega),decide_eq_true (by omega)]
    rfl
   ·exact hd2.elim
  ·exact hd.elim⟩
end
end Pu
namespace L2
open PySem PySem.Spec PyProof.Rows
theorem zHk:bootBuiltins "min" = some (.builtin "min"):=by decide +kernel
section
variable {X:Cx}
end
end L2
namespace Pu
open PySem L2 Sh
open PyProof.Rows (envOfC)
def less (l:Addr) (H:Hp):Hp:=λb=>if b=l then none else H b
section
variable {X:Cx} {e a b:Expr} {es:List Expr} {st:Stmt} {sts:List Stmt} {pos:Pos} {pa pb:zz} {pl:yk} {p q:xA}
end
variable {P:Program} {w:World} {K:PySem.W.Frag} {mg:Str->Option Value} {base:Heap}
section
variable {X:Cx} {a b:Expr} {pos:Pos} {pa pb:zz}
end
end Pu
namespace Pu
open PySem L2 Sh
section
variable {X:Cx} {a:Expr} {pos:Pos} {pa:zz}
def slS:D->Option Int->Option Int->(D->Prop)->Prop
 | .scr ns,lo,hi,R=>R (.lst (zU (ns.map D.int) lo hi))
 | _,_,_,_=>False
def Um (pa:zz) (po qo:jb):zz:=λΓ R=>pa Γ λd=>po Γ λl=>qo Γ λu=>slS d l u R
theorem zKg {lo hi:Option Expr} {po qo:jb} {p2:Pos} (ha:PE X a (tP pa)) (hl:PO X lo (jc po)) (hu:PO X hi (jc qo)):PE X (.Subscript a (.Slice lo hi none p2) pos) (tP (Um pa po qo)):=yG (Qt Qz ha hl hu) λσ H Q ⟨Z,Γ,R,E,h,q⟩=>
 ⟨Z,Γ,_,E,h,λd v H1 hd s1 hv=>⟨Z,Γ,_,E.same s1,hd,λl H2 hl s2=>⟨Z,Γ,_,E.same (s1.trans s2),hl,λu H3 hu s3=>by
  have s:=s1.trans (s2.trans s3)
  have hv:=hv.same (yd (s2.trans s3))
  have zd:=(E.same s).zd
  unfold slS at hu
  split at hu
  ·cases hv with
   | scr e=>exact ⟨_,_,rfl,.inl (kG zv e),λn hn=>q _ _ _ hu (s.trans (xJ hn _)) (v9 zd hn (UP Kl _ _))⟩
  ·exact hu.elim⟩⟩⟩
end
inductive jE (ds:List D) (T:D->(Bool->Prop)->Prop) (G:D->(D->Prop)->Prop) (R:D->Prop):Prop
 | mk (few:ds.length<=1000) (f:D->Bool) (F:D->D->Prop) (t:∀ d,d∈ds->T d λb=>b=f d) (h:∀ d,d∈ds->f d=true->G d (F d)) (q:∀ es,Paired F (ds.filter f) es->R (.lst es)):jE ds T G R
theorem zI4 {Z:Addr->Prop} {Γ:List Sl} {σ:St} {H:Hp} {own:List Str} {caps:List (Nat × Str)} {J:It} {ds:List D} {js:List Nat} {po:D->Option (List D)} {pt:wB} {pe:zz} {Q:VK} {f:D->Bool} {F:D->D->Prop} {Zt:Addr->Prop} {Γt:List Sl} (E:yP Z Γ σ H) (Et:yP Zt Γt σ H) (sub:∀ b,Zt b->Z b) (wk:Wk Z J H ds) (hj:js=List.range' 0 own.length) (hk:∀ d os,po d=some os->os.length=js.length) (few:ds.length<=1000)
  (hT:∀ d,d∈ds->vq (po d) λos=>pt (os.map Sl.sh++(caps.map (·.1)).map λj=>un (slot Γt j)) λb=>b=f d)
  (hF:∀ d,d∈ds->f d=true->vq (po d) λos=>pe (os.map Sl.sh++(caps.map (·.1)).map λj=>un (slot Γ j)) (F d))
  (q:∀ es ys H' p,Paired F (ds.filter f) es->zF H H'->yE (zS Z H') ys es->H' p=none->Q (.ref p) (za H' p (.lst ys))):KN J (tG js po) (xC pt) (tP pe) Q (wA own caps σ) H:=by
 have hc:wA own caps σ=own.map (λ_=>none)++(caps.map (·.1)).map λj=>(σ[j]?).getD none:=by
  unfold wA
  rw [List.map_map]
  rfl
 refine ⟨λi m ys σ1 H1=>m + i=ds.length/\zF H H1/\(∃ es,Paired F ((ds.take i).filter f) es/\yE (zS Z H1) ys es)/\∃ o:St,o.length=own.length/\σ1=o++(caps.map (·.1)).map λj=>(σ[j]?).getD none,⟨ds.length,rfl,zF.refl _,⟨[],.nil,.nil⟩,_,List.length_map ..,hc⟩,?_⟩
 rintro i m ys σ1 H1 ⟨hm,s1,⟨es,he,hy⟩,o,lo,rfl⟩
 obtain ⟨w1,w2⟩:=wk i Z H1 (yd s1) (E.zd.same s1)
 have le:es.length<=i:=by
  have h1:=Paired.length he
  have h2:=List.length_filter_le f (ds.take i)
  rw [List.length_take] at h2
  omega
 by_cases hi:i < ds.length
 ·have tk:(ds.take (i + 1)).filter f=(ds.take i).filter f++(if f ds[i]=true then [ds[i]] else []):=by
   rw [List.take_succ_eq_append_getElem hi,List.filter_append,List.filter_cons,List.filter_nil]
  refine .inr ⟨(w1 _ (List.getElem?_eq_getElem hi)).1,by rw [xg hy]; exact YX (by omega),λy σ' H'=>m - 1 + (i + 1)=ds.length/\zF H H'/\(∃ es,Paired F ((ds.take (i + 1)).filter f) es/\yE (zS Z H') (ys++[y]) es)/\∃ o:St,o.length=own.length/\σ'=o++(caps.map (·.1)).map λj=>(σ[j]?).getD none,λσ' H'=>m - 1 + (i + 1)=ds.length/\zF H H'/\(∃ es,Paired F ((ds.take (i + 1)).filter f) es/\yE (zS Z H') ys es)/\∃ o:St,o.length=own.length/\σ'=o++(caps.map (·.1)).map λj=>(σ[j]?).getD none,λy σ' H' k=>⟨m - 1,by omega,k⟩,λσ' H' k=>⟨m - 1,by omega,k⟩,λx H' yl=>?_⟩
  obtain ⟨s2,dv⟩:=(w1 _ (List.getElem?_eq_getElem hi)).2 x H' yl
  obtain ⟨os,ho,ht⟩:=kh (hT _ (List.getElem_mem hi))
  have lo2:=hk _ _ ho
  refine ⟨Z,_,os,dv,ho,λvs hvs=>?_⟩
  have lv:=xg hvs
  have e1:setN (o++(caps.map (·.1)).map λj=>(σ[j]?).getD none) js vs=vs.map some++(caps.map (·.1)).map λj=>(σ[j]?).getD none:=by
   rw [hj,<- lo]
   exact UU _ [] o vs (by rw [lv,lo2,hj,List.length_range']; exact lo)
  rw [e1]
  have lw:(vs.map some).length=own.length:=by rw [List.length_map,lv,lo2,hj,List.length_range']
  refine ⟨Zt,_,_,UT (Et.same (s1.trans s2)) (yy (kH sub) hvs),ht,λb H3 hb s3=>?_⟩
  subst hb
  by_cases c:f ds[i]=true
  ·rw [if_pos c]
   obtain ⟨os',ho',hp⟩:=kh (hF _ (List.getElem_mem hi) c)
   cases ho.symm.trans ho'
   refine ⟨Z,_,_,UT (E.same (s1.trans (s2.trans s3))) (yy (yd s3) hvs),hp,λd v H4 hd s4 hv=>⟨by omega,s1.trans (s2.trans (s3.trans s4)),⟨es++[d],?_,jX hv (yy (yd (s2.trans (s3.trans s4))) hy)⟩,_,lw,rfl⟩⟩
   rw [tk,if_pos c]
   exact jX hd he
  ·rw [if_neg c]
   refine ⟨by omega,s1.trans (s2.trans s3),⟨es,?_,yy (yd (s2.trans s3)) hy⟩,_,lw,rfl⟩
   rw [tk,if_neg c,List.append_nil]
   exact he
 ·have ei:i=ds.length:=by omega
  refine .inl ⟨w2 ei,λp hp=>q es ys H1 p ?_ s1 hy hp⟩
  rw [List.take_of_length_le (by omega)] at he
  exact he
section
variable {X:Cx} {scope:Scope} {own:List Str} {caps:List (Nat × Str)} {tg iter elt cond:Expr} {pos:Pos} {pi:yk} {po:D->Option (List D)} {pt:wB} {pe:zz} {js:List Nat}
end
def zOf (i:Nat) (ow:Bool) (caps:List Nat) (pi:yk) (po:D->Option (List D)) (pt:wB) (pe:zz):xA:=λT Γ=>pi Γ λds=>jE ds (λd S=>vq (po d) λos=>pt (os.map Sl.sh++caps.map λj=>un (slot Γ j)) S) (λd S=>vq (po d) λos=>pe (os.map Sl.sh++caps.map λj=>un (slot Γ j)) S) λd=>jn d λes=>T.nx (zy Γ i (match ow with | true=>.ow es | false=>.sh (.lst es)))
theorem zHJ {X:Cx} {pos:Pos} (i:Nat) (ow:Bool) {scope:Scope} {own:List Str} {caps:List (Nat × Str)} {tg iter elt cond:Expr} {pi:yk} {po:D->Option (List D)} {pt:wB} {pe:zz} {js:List Nat} {y:Str} {py spos:Pos} (hN:X.N.Nodup) (hy:X.N[i]? = some y) (hl:X.env.scope.names.lookup y=some .local) (B:vQ X scope own caps) (hc:X.calm=true) (hj:js=List.range' 0 own.length) (hk:∀ d os,po d=some os->os.length=js.length)
  (hi:PI X tg iter (uB pi)) (hg:∀ C s₀ H₀ ex,PG (yN X scope (zY own caps) C s₀ H₀ ex) tg (tG js po)) (ht:∀ C s₀ H₀ ex,PT (yN X scope (zY own caps) C s₀ H₀ ex) cond (xC pt)) (he:∀ C s₀ H₀ ex,PE (yN X scope (zY own caps) C s₀ H₀ ex) elt (tP pe)) (hsw:swapsWith (.ListComp elt [⟨tg,iter,[cond],0⟩] scope pos) (some (.Name y py)) spos.line X.env=pure true) (hs:∀ x,foldedSetIterable iter X.env x=pure x:=by intro _; rfl) :
  PS X (.Assign [.Name y py] (.ListComp elt [⟨tg,iter,[cond],0⟩] scope pos) spos) (yf (zOf i ow (caps.map (·.1)) pi po pt pe)):=yA (KS hN hy hl B hc hi hg ht he hsw hs) λD σ H ⟨Z0,H0,Z,Γ,Dp,E,h,nx,rt,bk,ct⟩=>
 ⟨Z,Γ,_,E.e,h,λds J H1 ⟨fw,f,F,hT,hF,hR⟩ s1 wk=>zI4 (E.e.same s1) (E.e.same s1) (λ_ z=>z) wk hj hk fw hT hF λes ys H' l h1 s2 h2 hp=>by
  have E1:=(E.mv s1).mv s2
  cases ow with
  | true=>
   obtain ⟨E2,s3⟩:=E1.make hp h2 i
   exact nx _ _ _ _ E2 ((yd (s1.trans s2)).trans s3) (hR es h1)
  | false=>exact nx Z _ _ _ ((E1.mv (xJ hp _)).set (v9 E1.e.zd hp h2) i) (yd (s1.trans (s2.trans (xJ hp _)))) (hR es h1)⟩
theorem yP.frz2 {Z:Addr->Prop} {Γ:List Sl} {σ:St} {H:Hp} (E:yP Z Γ σ H) (i:Nat):∃ Z',(∀ b,Z' b->Z b)/\yP Z' (Pu.frz Γ i) σ H:=by
 unfold Pu.frz
 cases hs:slot Γ i with
 | no=>exact ⟨Z,λ_ z=>z,E⟩
 | sh _=>exact ⟨Z,λ_ z=>z,E⟩
 | ob _ _ _ _=>exact ⟨Z,λ_ z=>z,E⟩
 | ow ds=>
  obtain ⟨l,xs,hl,hz,el,hx⟩:=E.ow i ds hs
  have s:zF (zS Z H) (zS (λb=>Z b/\b≠l) H):=kH λb h=>h.1
  have key:∀ j d,slot (zy Γ i (.sh (.lst ds))) j=.ow d->slot Γ j=.ow d/\j≠i:=λj d q=>by
   rw [xK] at q
   by_cases c:j=i/\i < Γ.length
   ·rw [if_pos c] at q; cases q
   ·rw [if_neg c] at q
    have hj:=vn (Γ:=Γ) (i:=j) (by rw [q]; exact λz=>nomatch z)
    exact ⟨q,λz=>c ⟨z,by omega⟩⟩
  have keyb:∀ j o c ns d,slot (zy Γ i (.sh (.lst ds))) j=.ob o c ns d->slot Γ j=.ob o c ns d:=λj o0 c0 ns d q=>by
   rw [xK] at q
   by_cases c:j=i/\i < Γ.length
   ·rw [if_pos c] at q; cases q
   ·rw [if_neg c] at q; exact q
  refine ⟨λb=>Z b/\b≠l,λ_ z=>z.1,⟨λj d q=>?_,λj d q=>?_,λj o c ns d q=>?_,λj k as bs m q r=>?_,λb hb=>E.zd b hb.1,by rw [ja]; exact E.len⟩⟩
  ·rw [xK] at q
   by_cases c:j=i/\i < Γ.length
   ·rw [if_pos c] at q
    cases q
    rw [c.1]
    exact ⟨.ref l,hl,.lst ((vR λz=>z.2 rfl).trans el) (yy s hx)⟩
   ·rw [if_neg c] at q
    obtain ⟨v,h1,h2⟩:=E.sh j d q
    exact ⟨v,h1,h2.same s⟩
  ·obtain ⟨q1,q2⟩:=key j d q
   obtain ⟨m,ys,h1,h2,h3,h4⟩:=E.ow j d q1
   exact ⟨m,ys,h1,⟨h2,λz=>q2 (E.ne j i d ds l q1 hs (by rw [h1,z]) hl)⟩,h3,yy s h4⟩
  ·obtain ⟨dx,ys,h1,h2,h3,h5,h4⟩:=E.ob j o c ns d (keyb j o c ns d q)
   exact ⟨dx,ys,h1,⟨h2,λz=>by rw [z,el] at h3; cases h3⟩,h3,h5,yy s h4⟩
  ·exact E.ne j k as bs m (key j as q).1 (key k bs r).1
def zOg (b i:Nat) (caps:List Nat) (pi:yk) (po:D->Option (List D)) (pt:wB) (pe:zz):xA:=λT Γ=>pi Γ λds=>jE ds (λd S=>vq (po d) λos=>pt (os.map Sl.sh++caps.map λj=>un (slot (Pu.frz Γ b) j)) S) (λd S=>vq (po d) λos=>pe (os.map Sl.sh++caps.map λj=>un (slot Γ j)) S) λd=>jn d λes=>T.nx (zy Γ i (.sh (.lst es)))
theorem zKd {X:Cx} {pos:Pos} (b i:Nat) {scope:Scope} {own:List Str} {caps:List (Nat × Str)} {tg iter elt cond:Expr} {pi:yk} {po:D->Option (List D)} {pt:wB} {pe:zz} {js:List Nat} {y:Str} {py spos:Pos} (hN:X.N.Nodup) (hy:X.N[i]? = some y) (hl:X.env.scope.names.lookup y=some .local) (B:vQ X scope own caps) (hc:X.calm=true) (hj:js=List.range' 0 own.length) (hk:∀ d os,po d=some os->os.length=js.length)
  (hi:PI X tg iter (uB pi)) (hg:∀ C s₀ H₀ ex,PG (yN X scope (zY own caps) C s₀ H₀ ex) tg (tG js po)) (ht:∀ C s₀ H₀ ex,PT (yN X scope (zY own caps) C s₀ H₀ ex) cond (xC pt)) (he:∀ C s₀ H₀ ex,PE (yN X scope (zY own caps) C s₀ H₀ ex) elt (tP pe)) (hsw:swapsWith (.ListComp elt [⟨tg,iter,[cond],0⟩] scope pos) (some (.Name y py)) spos.line X.env=pure true) (hs:∀ x,foldedSetIterable iter X.env x=pure x:=by intro _; rfl) :
  PS X (.Assign [.Name y py] (.ListComp elt [⟨tg,iter,[cond],0⟩] scope pos) spos) (yf (zOg b i (caps.map (·.1)) pi po pt pe)):=yA (KS hN hy hl B hc hi hg ht he hsw hs) λD σ H ⟨Z0,H0,Z,Γ,Dp,E,h,nx,rt,bk,ct⟩=>
 let ⟨Zt,sub,Et⟩:=E.e.frz2 b
 ⟨Z,Γ,_,E.e,h,λds J H1 ⟨fw,f,F,hT,hF,hR⟩ s1 wk=>zI4 (E.e.same s1) (Et.same s1) sub wk hj hk fw hT hF λes ys H' l h1 s2 h2 hp=>by
  have E1:=(E.mv s1).mv s2
  exact nx Z _ _ _ ((E1.mv (xJ hp _)).set (v9 E1.e.zd hp h2) i) (yd (s1.trans (s2.trans (xJ hp _)))) (hR es h1)⟩
theorem zKt {α:Type} {ds es:List α} (p:Paired (λd e=>e=d) ds es):es=ds:=by
 induction p with
 | nil=>rfl
 | cons h _ ih=>rw [h,ih]
theorem jE.keep {ds:List D} {T:D->(Bool->Prop)->Prop} {G:D->(D->Prop)->Prop} {R:D->Prop} (f:D->Bool) (few:ds.length<=1000) (t:∀ d,d∈ds->T d λb=>b=f d) (h:∀ d,d∈ds->G d λe=>e=d) (q:R (.lst (ds.filter f))):jE ds T G R:=⟨few,f,λd e=>e=d,t,λd m _=>h d m,λes p=>by rw [zKt p]; exact q⟩
end Pu
namespace L2
open PySem PySem.Spec PyProof.Rows
theorem zJ4 (a b c:Value):checkTypeCall "zip" ⟨[a,b,c],[]⟩=pure ():=by kernel_rfl
theorem zJ3 (a b c:Value):checkBuiltinCall "zip.__new__" ⟨[.type "zip",a,b,c],[]⟩=pure ():=by kernel_rfl
theorem zLA (a b c d:Value):argsOk "object.__init__" ⟨[a,b,c,d],[]⟩:=by rw [argsOk,signature?_of (id:="object.__init__") (n:=['_','_','t','i','n','i','_','_']) (o:=['t','c','e','j','b','o']) (by kernel_rfl) F.owner_object]; kernel_rfl
abbrev yp (h:Heap) (T:Addr) (a b c:Value):Prop:=h.get? T=some { cls:=.type "tuple",data:=.seq #[a,b,c] }
structure Zt (z TI TO i1 i2 i3:Addr) (f1 f2 f3:List Addr):Prop where
 zI:TI≠z
 zO:TO≠z
 z1:i1≠z
 z2:i2≠z
 z3:i3≠z
 IO:TI≠TO
 I1:TI≠i1
 I2:TI≠i2
 I3:TI≠i3
 O1:TO≠i1
 O2:TO≠i2
 O3:TO≠i3
 n1:z∉f1
 n2:z∉f2
 n3:z∉f3
 o1:TO∉f1
 o2:TO∉f2
 o3:TO∉f3
 e12:i1∉f2
 e13:i1∉f3
 e21:i2∉f1
 e23:i2∉f3
 e31:i3∉f1
 e32:i3∉f2
section
variable {prog:Program} {w:World} {A:Around} {E:Value->Shared->Prop} {s:Shared}
theorem ZF {T:Addr} {a b c x:Value} {k:Nat} {Q:Unit->Shared->Prop} (hT:yp s.heap T a b c) (h:∀ g,g.get? T=some { cls:=.type "tuple",data:=.seq ((#[a,b,c]:Array Value).setIfInBounds k x) }->Heap.SameBut T s.heap g->Q () { s with heap:=g }):wpAny (model prog w) A (updateSeq T (·.setIfInBounds k x)) Q E s:=
 wpAny_updateSeq hT rfl (h _ (by rw [Heap.get?_update_self _ hT rfl]; simp [Obj.mapSeq]) (Heap.SameBut.update ..))
theorem zJ7 {z TI TO i1 i2 i3:Addr} {f1 f2 f3:List Addr} {n1 n2 n3 k:Nat} {P1 P2 P3:Nat->Value->Prop} {S1 S2 S3:Nat->Heap->Prop} {a b c:Value} {Q:Value->Shared->Prop}
  (D1:Draws prog w A i1 f1 n1 P1 S1) (D2:Draws prog w A i2 f2 n2 P2 S2) (D3:Draws prog w A i3 f3 n3 P3 S3) (Z:Zt z TI TO i1 i2 i3 f1 f2 f3) (hz:IsZip s.heap z TI TO .none) (hI:yp s.heap TI (.ref i1) (.ref i2) (.ref i3)) (hO:yp s.heap TO a b c)
  (s1:S1 k s.heap) (s2:S2 k s.heap) (s3:S3 k s.heap) (k1:k < n1) (k2:k < n2) (k3:k < n3)
  (hQ:∀ x y t h' tk,P1 k x->P2 k y->P3 k t->IsZip h' z TI TO (rawInt s.heap.objs.size)->yp h' TI (.ref i1) (.ref i2) (.ref i3)->yp h' TO x y t->S1 (k + 1) h'->S2 (k + 1) h'->S3 (k + 1) h'->yp h' s.heap.objs.size x y t->
   (∀ c o,c≠z->c≠TO->c≠i1->c≠i2->c≠i3->s.heap.get? c=some o->h'.get? c=some o)->Q (.ref s.heap.objs.size) { s with heap:=h',toks:=tk }) :
  wpAny (model prog w) A (Builtin.«zip.__next__» ⟨[.ref z],[]⟩) (λfin s'=>∃ v,fin=.done (.ret v)/\Q v s') E s:=by
 change wpAny _ _ (field (.ref z) 2 >>= _) _ _ _
 refine wpAny_bind (wpAny_field hz rfl (x:=.bool false) rfl ?_)
 change wpAny _ _ (field (.ref z) 3 >>= _) _ _ _
 refine wpAny_bind (wpAny_field hz rfl (x:=.ref TI) rfl ?_)
 refine wpAny_bind (wpAny_seqItems hI rfl ?_)
 change wpAny _ _ (Builtin.SmallTypes.ownedTupleIsFree (.ref z) >>= _) _ _ _
 refine wpAny_bind ?_
 unfold Builtin.SmallTypes.ownedTupleIsFree
 refine wpAny_bind (wpAny_field hz rfl (x:=.none) rfl (wpAny_pure ?_))
 simp only [if_true]
 refine wpAny_bind (wpAny_rule ?_)
 refine wpAny_bind (wpAny_field hz rfl (x:=.ref TO) rfl ?_)
 refine wpAny_bind (wpAny_setField_rec hz (by simp) λg1 z1 m1=>?_)
 replace z1:IsZip g1 z TI TO .ellipsis:=z1
 refine wpAny_bind ?_
 simp only [List.zipIdx_cons,List.zipIdx_nil,List.forIn_cons,List.forIn_nil]
 refine wpAny_bind (wpAny_bind (wpAny_onRaise ?_))
 change wpAny _ _ (Builtin.SmallTypes.nextOf (.ref i1) >>= _) _ _ _
 refine wpAny_bind (D1.item k _ _ _ k1 (D1.frame _ _ _ s1 λc hc o e=>m1.extBut c o (λq=>Z.n1 (q ▸ hc)) e) λx g2 t2 px s12 m2=>wpAny_pure ?_)
 have q2:yp g2 TO a b c:=m2.extBut _ _ Z.O1 (m1.extBut _ _ Z.zO hO)
 refine wpAny_bind (wpAny_seqItems q2 rfl ?_)
 refine wpAny_bind (ZF q2 λg3 q3 m3=>?_)
 replace q3:yp g3 TO x b c:=q3
 refine wpAny_bind (wpAny_letGo (wpAny_pure ?_))
 refine wpAny_bind (wpAny_bind (wpAny_onRaise ?_))
 change wpAny _ _ (Builtin.SmallTypes.nextOf (.ref i2) >>= _) _ _ _
 refine wpAny_bind (D2.item k _ _ _ k2 (D2.frame _ _ _ s2 λc hc o e=>m3.extBut c o (λq=>Z.o2 (q ▸ hc)) (m2.extBut c o (λq=>Z.e12 (q ▸ hc)) (m1.extBut c o (λq=>Z.n2 (q ▸ hc)) e))) λy g4 t4 py s24 m4=>wpAny_pure ?_)
 have q4:yp g4 TO x b c:=m4.extBut _ _ Z.O2 q3
 refine wpAny_bind (wpAny_seqItems q4 rfl ?_)
 refine wpAny_bind (ZF q4 λg5 q5 m5=>?_)
 replace q5:yp g5 TO x y c:=q5
 refine wpAny_bind (wpAny_letGo (wpAny_pure ?_))
 refine wpAny_bind (wpAny_bind (wpAny_onRaise ?_))
 change wpAny _ _ (Builtin.SmallTypes.nextOf (.ref i3) >>= _) _ _ _
 refine wpAny_bind (D3.item k _ _ _ k3 (D3.frame _ _ _ s3 λc hc o e=>m5.extBut c o (λq=>Z.o3 (q ▸ hc)) (m4.extBut c o (λq=>Z.e23 (q ▸ hc)) (m3.extBut c o (λq=>Z.o3 (q ▸ hc)) (m2.extBut c o (λq=>Z.e13 (q ▸ hc)) (m1.extBut c o (λq=>Z.n3 (q ▸ hc)) e))))) λt g6 t6 pt s36 m6=>wpAny_pure ?_)
 have q6:yp g6 TO x y c:=m6.extBut _ _ Z.O3 q5
 refine wpAny_bind (wpAny_seqItems q6 rfl ?_)
 refine wpAny_bind (ZF q6 λg7 q7 m7=>?_)
 replace q7:yp g7 TO x y t:=q7
 refine wpAny_bind (wpAny_letGo (wpAny_pure (wpAny_pure ?_)))
 refine wpAny_bind (wpAny_seqItems q7 rfl ?_)
 refine wpAny_bind (wpAny_newTuple ?_)
 have sz:g7.objs.size=s.heap.objs.size:=by
  have r7:g7.objs.size=g6.objs.size:=m7.1
  have r6:g6.objs.size=g5.objs.size:=m6.1
  have r5:g5.objs.size=g4.objs.size:=m5.1
  have r4:g4.objs.size=g3.objs.size:=m4.1
  have r3:g3.objs.size=g2.objs.size:=m3.1
  have r2:g2.objs.size=g1.objs.size:=m2.1
  have r1:g1.objs.size=s.heap.objs.size:=m1.1
  omega
 have all7:∀ c o,c≠z->c≠TO->c≠i1->c≠i2->c≠i3->s.heap.get? c=some o->g7.get? c=some o:=λc o c1 c2 c3 c4 c5 e=>m7.extBut _ _ c2 (m6.extBut _ _ c5 (m5.extBut _ _ c2 (m4.extBut _ _ c4 (m3.extBut _ _ c2 (m2.extBut _ _ c3 (m1.extBut _ _ c1 e))))))
 have z7:IsZip g7 z TI TO .ellipsis:=m7.extBut _ _ Z.zO.symm (m6.extBut _ _ Z.z3.symm (m5.extBut _ _ Z.zO.symm (m4.extBut _ _ Z.z2.symm (m3.extBut _ _ Z.zO.symm (m2.extBut _ _ Z.z1.symm z1)))))
 have I7:yp g7 TI (.ref i1) (.ref i2) (.ref i3):=all7 _ _ Z.zI Z.IO Z.I1 Z.I2 Z.I3 hI
 have u1:S1 (k + 1) g7:=D1.frame _ _ _ s12 λc hc o e=>m7.extBut c o (λq=>Z.o1 (q ▸ hc)) (m6.extBut c o (λq=>Z.e31 (q ▸ hc)) (m5.extBut c o (λq=>Z.o1 (q ▸ hc)) (m4.extBut c o (λq=>Z.e21 (q ▸ hc)) (m3.extBut c o (λq=>Z.o1 (q ▸ hc)) e))))
 have u2:S2 (k + 1) g7:=D2.frame _ _ _ s24 λc hc o e=>m7.extBut c o (λq=>Z.o2 (q ▸ hc)) (m6.extBut c o (λq=>Z.e32 (q ▸ hc)) (m5.extBut c o (λq=>Z.o2 (q ▸ hc)) e))
 have u3:S3 (k + 1) g7:=D3.frame _ _ _ s36 λc hc o e=>m7.extBut c o (λq=>Z.o3 (q ▸ hc)) e
 have lt:z < g7.objs.size:=Heap.lt_size z7
 change wpAny _ _ (Builtin.SmallTypes.ownedTupleHandOut (.ref z) (.ref g7.objs.size) >>= _) _ _ _
 refine wpAny_bind ?_
 unfold Builtin.SmallTypes.ownedTupleHandOut
 have z8:IsZip (g7.push { cls:=.type "tuple",data:=.seq #[x,y,t] }) z TI TO .ellipsis:=Heap.get?_push_of_some _ z7
 refine wpAny_bind (wpAny_setField_rec z8 (by simp) λg9 z9 m9=>?_)
 replace z9:IsZip g9 z TI TO (rawInt g7.objs.size):=z9
 refine wpAny_setField_rec z9 (by simp) λg0 z0 m0=>?_
 replace z0:IsZip g0 z TI TO (rawInt g7.objs.size):=z0
 have up:∀ c o,c≠z->g7.get? c=some o->g0.get? c=some o:=λc o c1 e=>m0.extBut _ _ c1 (m9.extBut _ _ c1 (Heap.get?_push_of_some _ e))
 have T0:yp g0 g7.objs.size x y t:=m0.extBut _ _ (Nat.ne_of_gt lt) (m9.extBut _ _ (Nat.ne_of_gt lt) (Heap.get?_push_size _ rfl))
 rw [sz] at z0 T0
 refine wpAny_pure ⟨_,rfl,?_⟩
 change Q (.ref g7.objs.size) _
 rw [sz]
 exact hQ x y t g0 _ px py pt z0 (up _ _ Z.zI I7) (up _ _ Z.zO q7) (D1.frame _ _ _ u1 λc hc o e=>up c o (λq=>Z.n1 (q ▸ hc)) e) (D2.frame _ _ _ u2 λc hc o e=>up c o (λq=>Z.n2 (q ▸ hc)) e) (D3.frame _ _ _ u3 λc hc o e=>up c o (λq=>Z.n3 (q ▸ hc)) e) T0
  λc o c1 c2 c3 c4 c5 e=>up c o c1 (all7 c o c1 c2 c3 c4 c5 e)
theorem zJ5 {z TI TO i1 i2 i3:Addr} {f1 f2 f3:List Addr} {n1 n2 n3 k:Nat} {P1 P2 P3:Nat->Value->Prop} {S1 S2 S3:Nat->Heap->Prop} {a b c:Value} {Q:Fin->Shared->Prop}
  (D1:Draws prog w A i1 f1 n1 P1 S1) (D2:Draws prog w A i2 f2 n2 P2 S2) (D3:Draws prog w A i3 f3 n3 P3 S3) (Z:Zt z TI TO i1 i2 i3 f1 f2 f3) (hz:IsZip s.heap z TI TO .none) (hI:yp s.heap TI (.ref i1) (.ref i2) (.ref i3)) (hO:yp s.heap TO a b c)
  (s1:S1 k s.heap) (s2:S2 k s.heap) (s3:S3 k s.heap) (k1:k<=n1) (k2:k<=n2) (k3:k<=n3) (ke:k=n1\/k=n2\/k=n3)
  (hE:∀ h' e tk,(∀ c o,c≠z->c≠TO->c≠i1->c≠i2->c≠i3->s.heap.get? c=some o->h'.get? c=some o)->(∃ o,h'.get? e=some o/\o.cls=.type "StopIteration")->E (.ref e) { s with heap:=h',toks:=tk }) :
  wpAny (model prog w) A (Builtin.«zip.__next__» ⟨[.ref z],[]⟩) Q E s:=by
 change wpAny _ _ (field (.ref z) 2 >>= _) _ _ _
 refine wpAny_bind (wpAny_field hz rfl (x:=.bool false) rfl ?_)
 change wpAny _ _ (field (.ref z) 3 >>= _) _ _ _
 refine wpAny_bind (wpAny_field hz rfl (x:=.ref TI) rfl ?_)
 refine wpAny_bind (wpAny_seqItems hI rfl ?_)
 change wpAny _ _ (Builtin.SmallTypes.ownedTupleIsFree (.ref z) >>= _) _ _ _
 refine wpAny_bind ?_
 unfold Builtin.SmallTypes.ownedTupleIsFree
 refine wpAny_bind (wpAny_field hz rfl (x:=.none) rfl (wpAny_pure ?_))
 simp only [if_true]
 refine wpAny_bind (wpAny_rule ?_)
 refine wpAny_bind (wpAny_field hz rfl (x:=.ref TO) rfl ?_)
 refine wpAny_bind (wpAny_setField_rec hz (by simp) λg1 z1 m1=>?_)
 replace z1:IsZip g1 z TI TO .ellipsis:=z1
 refine wpAny_bind ?_
 simp only [List.zipIdx_cons,List.zipIdx_nil,List.forIn_cons,List.forIn_nil]
 refine wpAny_bind (wpAny_bind (wpAny_onRaise ?_))
 change wpAny _ _ (Builtin.SmallTypes.nextOf (.ref i1) >>= _) _ _ _
 have s1':S1 k g1:=D1.frame _ _ _ s1 λc hc o e=>m1.extBut c o (λq=>Z.n1 (q ▸ hc)) e
 by_cases c1:k=n1
 ·subst c1
  refine wpAny_bind (D1.done _ _ _ s1' λg2 e m2 he=>?_)
  obtain ⟨oe,he1,he2⟩:=he
  have z2:IsZip g2 z TI TO .ellipsis:=m2 _ _ Z.z1.symm z1
  have nez:e≠z:=λq=>by subst q; rw [z2] at he1; cases he1; simp at he2
  exact wpAny_setField_rec z2 (by simp) λg3 _ m3=>hE g3 e _ (λc o c1 c2 c3 c4 c5 q=>m3.extBut _ _ c1 (m2 _ _ c3 (m1.extBut _ _ c1 q))) ⟨oe,m3.extBut _ _ nez he1,he2⟩
 refine wpAny_bind (D1.item k _ _ _ (by omega) s1' λx g2 t2 px s12 m2=>wpAny_pure ?_)
 have q2:yp g2 TO a b c:=m2.extBut _ _ Z.O1 (m1.extBut _ _ Z.zO hO)
 refine wpAny_bind (wpAny_seqItems q2 rfl ?_)
 refine wpAny_bind (ZF q2 λg3 q3 m3=>?_)
 replace q3:yp g3 TO x b c:=q3
 refine wpAny_bind (wpAny_letGo (wpAny_pure ?_))
 refine wpAny_bind (wpAny_bind (wpAny_onRaise ?_))
 change wpAny _ _ (Builtin.SmallTypes.nextOf (.ref i2) >>= _) _ _ _
 have s2':S2 k g3:=D2.frame _ _ _ s2 λc hc o e=>m3.extBut c o (λq=>Z.o2 (q ▸ hc)) (m2.extBut c o (λq=>Z.e12 (q ▸ hc)) (m1.extBut c o (λq=>Z.n2 (q ▸ hc)) e))
 have z3:IsZip g3 z TI TO .ellipsis:=m3.extBut _ _ Z.zO.symm (m2.extBut _ _ Z.z1.symm z1)
 by_cases c2:k=n2
 ·subst c2
  refine wpAny_bind (D2.done _ _ _ s2' λg4 e m4 he=>?_)
  obtain ⟨oe,he1,he2⟩:=he
  have z4:IsZip g4 z TI TO .ellipsis:=m4 _ _ Z.z2.symm z3
  have nez:e≠z:=λq=>by subst q; rw [z4] at he1; cases he1; simp at he2
  exact wpAny_setField_rec z4 (by simp) λg5 _ m5=>hE g5 e _ (λc o c1 c2 c3 c4 c5 q=>m5.extBut _ _ c1 (m4 _ _ c4 (m3.extBut _ _ c2 (m2.extBut _ _ c3 (m1.extBut _ _ c1 q))))) ⟨oe,m5.extBut _ _ nez he1,he2⟩
 have c3:k=n3:=(ke.resolve_left c1).resolve_left c2
 subst c3
 refine wpAny_bind (D2.item k _ _ _ (by omega) s2' λy g4 t4 py s24 m4=>wpAny_pure ?_)
 have q4:yp g4 TO x b c:=m4.extBut _ _ Z.O2 q3
 refine wpAny_bind (wpAny_seqItems q4 rfl ?_)
 refine wpAny_bind (ZF q4 λg5 q5 m5=>?_)
 refine wpAny_bind (wpAny_letGo (wpAny_pure ?_))
 refine wpAny_bind (wpAny_bind (wpAny_onRaise ?_))
 change wpAny _ _ (Builtin.SmallTypes.nextOf (.ref i3) >>= _) _ _ _
 refine wpAny_bind (D3.done _ _ _ (D3.frame _ _ _ s3 λc hc o e=>m5.extBut c o (λq=>Z.o3 (q ▸ hc)) (m4.extBut c o (λq=>Z.e23 (q ▸ hc)) (m3.extBut c o (λq=>Z.o3 (q ▸ hc)) (m2.extBut c o (λq=>Z.e13 (q ▸ hc)) (m1.extBut c o (λq=>Z.n3 (q ▸ hc)) e))))) λg6 e m6 he=>?_)
 obtain ⟨oe,he1,he2⟩:=he
 have z6:IsZip g6 z TI TO .ellipsis:=m6 _ _ Z.z3.symm (m5.extBut _ _ Z.zO.symm (m4.extBut _ _ Z.z2.symm z3))
 have nez:e≠z:=λq=>by subst q; rw [z6] at he1; cases he1; simp at he2
 exact wpAny_setField_rec z6 (by simp) λg7 _ m7=>hE g7 e _ (λc o c1 c2 c3 c4 c5 q=>m7.extBut _ _ c1 (m6 _ _ c5 (m5.extBut _ _ c2 (m4.extBut _ _ c4 (m3.extBut _ _ c2 (m2.extBut _ _ c3 (m1.extBut _ _ c1 q))))))) ⟨oe,m7.extBut _ _ nez he1,he2⟩
end
end L2
namespace L2
open PySem PySem.Spec PyProof.Rows
section
variable {prog:Program} {w:World} {A:Around} {E:Value->Shared->Prop} {s:Shared}
theorem zJ6 {z TI TO i1 i2 i3:Addr} {f1 f2 f3:List Addr} {n1 n2 n3 k:Nat} {P1 P2 P3:Nat->Value->Prop} {S1 S2 S3:Nat->Heap->Prop} {a b c:Value} {Q:Option Value->Shared->Prop}
  (D1:Draws prog w A.in1 i1 f1 n1 P1 S1) (D2:Draws prog w A.in1 i2 f2 n2 P2 S2) (D3:Draws prog w A.in1 i3 f3 n3 P3 S3) (Z:Zt z TI TO i1 i2 i3 f1 f2 f3) (hz:IsZip s.heap z TI TO .none) (hI:yp s.heap TI (.ref i1) (.ref i2) (.ref i3)) (hO:yp s.heap TO a b c)
  (s1:S1 k s.heap) (s2:S2 k s.heap) (s3:S3 k s.heap) (k1:k < n1) (k2:k < n2) (k3:k < n3)
  (hQ:∀ x y t h' tk,P1 k x->P2 k y->P3 k t->IsZip h' z TI TO (rawInt s.heap.objs.size)->yp h' TI (.ref i1) (.ref i2) (.ref i3)->yp h' TO x y t->S1 (k + 1) h'->S2 (k + 1) h'->S3 (k + 1) h'->yp h' s.heap.objs.size x y t->
   (∀ c o,c≠z->c≠TO->c≠i1->c≠i2->c≠i3->s.heap.get? c=some o->h'.get? c=some o)->Q (some (.ref s.heap.objs.size)) { s with heap:=h',toks:=tk }) :
  wpAny (model prog w) A (pyNext (.ref z)) Q E s:=by
 have ty:s.TypeIs (.ref z) "zip":=⟨_,hz,rfl⟩
 unfold pyNext
 refine wpAny_bind (wpAny_attempt (wpAny_callSpecial?_slot (name:=Str.ofString "__next__") ty F.slot_zip_next (wpAny_call_entry F.slot_zip_next ty F.entry_zip_next ?_ (F.args_zip_next_1 _))))
 exact zJ7 D1 D2 D3 Z hz hI hO s1 s2 s3 k1 k2 k3 λx y t h' tk c1 c2 c3 c4 c5 c6 c7 c8 c9 c10 c11=>wpAny_pure (hQ x y t h' tk c1 c2 c3 c4 c5 c6 c7 c8 c9 c10 c11)
theorem zML {z TI TO i1 i2 i3:Addr} {f1 f2 f3:List Addr} {n1 n2 n3 k:Nat} {P1 P2 P3:Nat->Value->Prop} {S1 S2 S3:Nat->Heap->Prop} {a b c:Value} {Q:Option Value->Shared->Prop}
  (D1:Draws prog w A.in1 i1 f1 n1 P1 S1) (D2:Draws prog w A.in1 i2 f2 n2 P2 S2) (D3:Draws prog w A.in1 i3 f3 n3 P3 S3) (Z:Zt z TI TO i1 i2 i3 f1 f2 f3) (hz:IsZip s.heap z TI TO .none) (hI:yp s.heap TI (.ref i1) (.ref i2) (.ref i3)) (hO:yp s.heap TO a b c)
  (s1:S1 k s.heap) (s2:S2 k s.heap) (s3:S3 k s.heap) (k1:k<=n1) (k2:k<=n2) (k3:k<=n3) (ke:k=n1\/k=n2\/k=n3)
  (hQ:∀ h' tk,(∀ c o,c≠z->c≠TO->c≠i1->c≠i2->c≠i3->s.heap.get? c=some o->h'.get? c=some o)->Q none { s with heap:=h',toks:=tk }) :
  wpAny (model prog w) A (pyNext (.ref z)) Q E s:=by
 have ty:s.TypeIs (.ref z) "zip":=⟨_,hz,rfl⟩
 unfold pyNext
 refine wpAny_bind (wpAny_attempt (wpAny_callSpecial?_slot (name:=Str.ofString "__next__") ty F.slot_zip_next (wpAny_call_entry F.slot_zip_next ty F.entry_zip_next
  (zJ5 D1 D2 D3 Z hz hI hO s1 s2 s3 k1 k2 k3 ke λh' e tk keep he=>?_) (F.args_zip_next_1 _))))
 obtain ⟨o,ho,hc⟩:=he
 refine wpAny_bind (wpAny_isInstance (T:="StopIteration") (b:=true) ⟨o,ho,hc⟩ isSubtype_stop ?_)
 exact wpAny_pure (hQ _ _ keep)
end
abbrev Uo (l:Addr):Obj:={ cls:=.type "list_iterator",data:=.fields #[.ref l,.int 0 0] }
abbrev ZG (h:Heap) (a:Addr):Heap:=h.push (Uo a)
abbrev ZH (h:Heap) (a b:Addr):Heap:=(ZG h a).push (Uo b)
abbrev XH (h:Heap) (a b c:Addr):Heap:=(ZH h a b).push (Uo c)
abbrev XI (h:Heap) (a b c:Addr):Heap:=(XH h a b c).push { cls:=.type "tuple",data:=.seq #[.ref h.objs.size,.ref (ZG h a).objs.size,.ref (ZH h a b).objs.size] }
abbrev XJ (h:Heap) (a b c:Addr):Heap:=(XI h a b c).push { cls:=.type "tuple",data:=.seq #[.none,.none,.none] }
abbrev jq (h:Heap) (a b c:Addr):Heap:=(XJ h a b c).push { cls:=.type "zip",data:=.fields #[.none,.bool false,.bool false,.ref (XH h a b c).objs.size,.ref (XI h a b c).objs.size] }
theorem zMJ (a b c:Addr) (xs ys zs:Array Value) :
  Meets (Builtin.«zip.__new__» ⟨[.type "zip",.ref a,.ref b,.ref c],[]⟩) (λ_ R s=>s.heap.IsList a xs/\s.heap.IsList b ys/\s.heap.IsList c zs/\R (.ok (.ret (.ref (XJ s.heap a b c).objs.size))) { s with heap:=jq s.heap a b c }):=
 .of_wp λprog w A R s h=>by
  obtain ⟨hp,g,d,tk,os⟩:=s; obtain ⟨h1,h2,h3,h⟩:=h
  have hsub:=sub_zip
  have e1:Heap.IsList (Shared.heap ⟨hp,g,d,tk,os⟩) a xs:=h1
  have e2:Heap.IsList (Shared.heap ⟨ZG hp a,g,d,tk,os⟩) b ys:=Heap.IsList.push h2 _
  have e3:Heap.IsList (Shared.heap ⟨ZH hp a b,g,d,tk,os⟩) c zs:=Heap.IsList.push (Heap.IsList.push h3 _) _
  wp_walk using wpAny_pyIter_list e1,wpAny_pyIter_list e2,wpAny_pyIter_list e3
  exact ⟨_,rfl,h⟩
theorem zLr {prog:Program} {w:World} {A:Around} {E:Value->Shared->Prop} {s:Shared} {a b c:Addr} {xs ys zs:Array Value} {Q:Value->Shared->Prop} (h1:s.heap.IsList a xs) (h2:s.heap.IsList b ys) (h3:s.heap.IsList c zs)
  (h:∀ h',IsZip h' (s.heap.objs.size + 5) (s.heap.objs.size + 3) (s.heap.objs.size + 4) .none->yp h' (s.heap.objs.size + 3) (.ref s.heap.objs.size) (.ref (s.heap.objs.size + 1)) (.ref (s.heap.objs.size + 2))->yp h' (s.heap.objs.size + 4) .none .none .none->
   h'.IsListIter s.heap.objs.size a 0->h'.IsListIter (s.heap.objs.size + 1) b 0->h'.IsListIter (s.heap.objs.size + 2) c 0->(∀ c o,s.heap.get? c=some o->h'.get? c=some o)->Q (.ref (s.heap.objs.size + 5)) { s with heap:=h' }) :
  wpAny (model prog w) A (call (.type "zip") [.ref a,.ref b,.ref c]) Q E s:=by
 refine callType_new F.called_zip (by decide) (zJ4 _ _ _) (zJ3 _ _ _) (λobj=>zLA obj _ _ _) F.entry_zip_new (zMJ a b c xs ys zs) ⟨h1,h2,h3,?_⟩
 have n1:(ZG s.heap a).objs.size=s.heap.objs.size + 1:=Heap.size_push ..
 have n2:(ZH s.heap a b).objs.size=s.heap.objs.size + 2:=by rw [Heap.size_push,n1]
 have n3:(XH s.heap a b c).objs.size=s.heap.objs.size + 3:=by rw [Heap.size_push,n2]
 have n4:(XI s.heap a b c).objs.size=s.heap.objs.size + 4:=by rw [Heap.size_push,n3]
 have n5:(XJ s.heap a b c).objs.size=s.heap.objs.size + 5:=by rw [Heap.size_push,n4]
 have p6:(jq s.heap a b c).get? (XJ s.heap a b c).objs.size=some _:=Heap.get?_push_size _ rfl
 have p5:(jq s.heap a b c).get? (XI s.heap a b c).objs.size=some _:=Heap.get?_push_of_some _ (Heap.get?_push_size _ rfl)
 have p4:(jq s.heap a b c).get? (XH s.heap a b c).objs.size=some _:=Heap.get?_push_of_some _ (Heap.get?_push_of_some _ (Heap.get?_push_size _ rfl))
 have p3:(jq s.heap a b c).get? (ZH s.heap a b).objs.size=some _:=Heap.get?_push_of_some _ (Heap.get?_push_of_some _ (Heap.get?_push_of_some _ (Heap.get?_push_size _ rfl)))
 have p2:(jq s.heap a b c).get? (ZG s.heap a).objs.size=some _:=Heap.get?_push_of_some _ (Heap.get?_push_of_some _ (Heap.get?_push_of_some _ (Heap.get?_push_of_some _ (Heap.get?_push_size _ rfl))))
 have p1:(jq s.heap a b c).get? s.heap.objs.size=some _:=Heap.get?_push_of_some _ (Heap.get?_push_of_some _ (Heap.get?_push_of_some _ (Heap.get?_push_of_some _ (Heap.get?_push_of_some _ (Heap.get?_push_size _ rfl)))))
 change _/\_
 rw [n3,n4,n5] at p6
 rw [n1,n2,n3] at p4
 rw [n4] at p5
 rw [n2] at p3
 rw [n1] at p2
 rw [n5]
 exact ⟨⟨_,p6,rfl⟩,h _ p6 p4 p5 ⟨_,p1,rfl,rfl⟩ ⟨_,p2,rfl,rfl⟩ ⟨_,p3,rfl,rfl⟩ λc o x=>Heap.get?_push_of_some _ (Heap.get?_push_of_some _ (Heap.get?_push_of_some _ (Heap.get?_push_of_some _ (Heap.get?_push_of_some _ (Heap.get?_push_of_some _ x)))))⟩
theorem zH.turnT3 {X:Cx} {pins:List (Addr × Obj)} {σ:St} {H:Hp} {s:Shared} {h':Heap} {tk:Nat} {ch:List Addr} {T:Addr} {x y t:V} {u v r:Value} (I:zH X pins σ H s) (hf:∀ b∈ch,yL X pins H b) (keep:∀ b o,b∉ch->s.heap.get? b=some o->h'.get? b=some o)
  (hT:s.heap.objs.size<=T) (p:yp h' T u v r) (rx:zT x u) (ry:zT y v) (rt:zT t r):zH X pins σ (za H T (.tup [x,y,t])) { s with heap:=h',toks:=tk }:=by
 have fr:H T=none:=I.hok.fresh hT
 have nT:∀ b o,s.heap.get? b=some o->b≠T:=λb o e z=>by rw [z] at e; exact absurd (Nat.lt_of_lt_of_le (Heap.lt_size e) hT) (Nat.lt_irrefl _)
 have va:∀ b o,H b=some o->b∉ch:=λb o e z=>by rw [(hf b z).1] at e; cases e
 refine I.step (ch:=ch) (λb hb=>⟨(hf b hb).2.2.2.1,(hf b hb).2.1,(hf b hb).2.2.2.2.1,(hf b hb).2.2.2.2.2⟩) (λb o _ _ hc e _=>keep b o hc e) (λb o _ _ hc e _=>⟨o.slots,keep b o hc e⟩)
  (λb o _ e n=>by rw [zp (nT b o e)]; exact n) (λb o hc e=>⟨o,keep b o hc e⟩) (λb xs e=>by rw [zp (xZ e fr)]; exact e) (λb o w e=>by rw [zp (xZ e fr)]; exact e)
  (λb ps e=>⟨#[],by rw [zp (xZ e fr),e]; simp⟩) (λm hm=>?_) (λb w e=>?_) I.bare
 ·obtain ⟨o,es,ep,ho,r⟩:=hm
  exact ⟨o,es,ep,keep _ o (λz=>(hf _ z).2.1 rfl) ho,r⟩
 ·by_cases hb:b=T
  ·subst hb
   rw [wK] at e
   cases e
   exact ⟨by show 3<=sizeLine; decide,[u,v,r],.cons rx (.cons ry (.cons rt .nil)),⟨_,p,rfl,_,rfl⟩⟩
  ·rw [zp hb] at e
   refine (I.hok b w e).stay (λc q hc ec=>keep c q ?_ ec) (λc ec=>by rw [zp (xZ ec fr)]; exact ec) λc xs ec=>by rw [zp (xZ ec fr)]; exact ec
   rcases hc with z | z
   ·rw [z]
    exact va b w e
   ·exact va c _ z
def jr (K:PySem.W.Frag) (a b c:Addr):It:=
 ⟨λi H=>∃ xs ys zs x y t,zW K H a xs/\zW K H b ys/\zW K H c zs/\xs[i]? = some x/\ys[i]? = some y/\zs[i]? = some t,
  λi H v H'=>∃ T x y t,v=.ref T/\H T=none/\H'=za H T (.tup [x,y,t])/\(∀ xs,zW K H a xs->xs[i]? = some x)/\(∀ ys,zW K H b ys->ys[i]? = some y)/\∀ zs,zW K H c zs->zs[i]? = some t,
  λi H=>∃ xs ys zs,zW K H a xs/\zW K H b ys/\zW K H c zs/\i<=xs.length/\i<=ys.length/\i<=zs.length/\(i=xs.length\/i=ys.length\/i=zs.length)⟩
theorem zKD {P:Program} {w:World} {K:PySem.W.Frag} {es:List Expr} {kk:Nat} {tp:Pos} {a b c z TI TO i1 i2 i3:Addr} (Z:Zt z TI TO i1 i2 i3 [i1,a] [i2,b] [i3,c]) (na:a≠i1) (nb:b≠i2) (nc:c≠i3) :
  xN P w K (.Tuple es kk tp) (jr K a b c) [z,TI,TO,i1,i2,i3] z (λi h=>IsZip h z TI TO .none/\yp h TI (.ref i1) (.ref i2) (.ref i3)/\(∃ x y t,yp h TO x y t)/\h.IsListIter i1 a i/\h.IsListIter i2 b i/\h.IsListIter i3 c i) where
 mem:=by simp
 obj:=λi h ⟨t1,t2,⟨x,y,t,t3⟩,t4,t5,t6⟩ d hd=>by
  simp only [List.mem_cons,List.not_mem_nil,or_false] at hd
  rcases hd with rfl | rfl | rfl | rfl | rfl | rfl
  ·exact ⟨_,t1,wL⟩
  ·exact ⟨_,t2,uN⟩
  ·exact ⟨_,t3,uN⟩
  ·obtain ⟨o,e,_,d⟩:=t4
   exact ⟨o,e,by rw [d]; exact wL⟩
  ·obtain ⟨o,e,_,d⟩:=t5
   exact ⟨o,e,by rw [d]; exact wL⟩
  ·obtain ⟨o,e,_,d⟩:=t6
   exact ⟨o,e,by rw [d]; exact wL⟩
 keep:=λi h h' ⟨t1,t2,⟨x,y,t,t3⟩,t4,t5,t6⟩ k=>⟨k z (by simp) _ t1,k TI (by simp) _ t2,⟨x,y,t,k TO (by simp) _ t3⟩,(by obtain ⟨o,e,r⟩:=t4; exact ⟨o,k i1 (by simp) o e,r⟩),(by obtain ⟨o,e,r⟩:=t5; exact ⟨o,k i2 (by simp) o e,r⟩),(by obtain ⟨o,e,r⟩:=t6; exact ⟨o,k i3 (by simp) o e,r⟩)⟩
 item:=by
  intro X hP hw hK hc i pins s σ H E I hf ⟨t1,t2,⟨x0,y0,w0,t3⟩,t4,t5,t6⟩ hg
  subst hP hw hK
  obtain ⟨xs,ys,zs,x,y,t,hq1,hq2,hq3,hx,hy,ht⟩:=hg
  obtain ⟨its1,rv1,p1,_⟩:=I.list hq1
  obtain ⟨its2,rv2,p2,_⟩:=I.list hq2
  obtain ⟨its3,rv3,p3,_⟩:=I.list hq3
  obtain ⟨u,hu,ru⟩:=rv1.get hx
  obtain ⟨v,hv,rv⟩:=rv2.get hy
  obtain ⟨r,hr,rt⟩:=rv3.get ht
  have hh:X.A.in1.handled=none:=I.ok.hd hc
  have l1:i < its1.toArray.size:=by rw [List.size_toArray]; exact (List.getElem?_eq_some_iff.mp hu).1
  have l2:i < its2.toArray.size:=by rw [List.size_toArray]; exact (List.getElem?_eq_some_iff.mp hv).1
  have l3:i < its3.toArray.size:=by rw [List.size_toArray]; exact (List.getElem?_eq_some_iff.mp hr).1
  refine zJ6 (Draws.list hh i1 a na its1.toArray) (Draws.list hh i2 b nb its2.toArray) (Draws.list hh i3 c nc its3.toArray) Z t1 t2 t3 ⟨t4,p1.isList⟩ ⟨t5,p2.isList⟩ ⟨t6,p3.isList⟩ l1 l2 l3 ?_
  intro x' y' t' h1 tk px py pt z1 z2 z3 z4 z5 z8 z6 keep
  have ex:x'=u:=by
   have q:its1.toArray[i]? = some x':=px
   simp only [List.getElem?_toArray] at q
   rw [hu] at q
   exact (Option.some.inj q).symm
  have ey:y'=v:=by
   have q:its2.toArray[i]? = some y':=py
   simp only [List.getElem?_toArray] at q
   rw [hv] at q
   exact (Option.some.inj q).symm
  have et:t'=r:=by
   have q:its3.toArray[i]? = some t':=pt
   simp only [List.getElem?_toArray] at q
   rw [hr] at q
   exact (Option.some.inj q).symm
  subst ex ey et
  refine ⟨_,rfl,wpAny_letOwnedTupleGo_zip (s:={ s with heap:=h1,toks:=tk }) z1 λh2 z7 sb=>?_⟩
  have zlt:z < s.heap.objs.size:=Heap.lt_size t1
  have keep2:∀ d o,d∉[z,TI,TO,i1,i2,i3]->s.heap.get? d=some o->h2.get? d=some o:=λd o hc e=>by
   simp only [List.mem_cons,List.not_mem_nil,or_false,not_or] at hc
   exact sb.extBut d o hc.1 (keep d o hc.1 hc.2.2.1 hc.2.2.2.1 hc.2.2.2.2.1 hc.2.2.2.2.2 e)
  have pT:yp h2 s.heap.objs.size x' y' t':=sb.extBut _ _ (Nat.ne_of_gt zlt) z6
  have I':=I.turnT3 (h':=h2) (tk:=tk) (ch:=[z,TI,TO,i1,i2,i3]) (x:=x) (y:=y) (t:=t) hf keep2 (Nat.le_refl _) pT ru rv rt
  refine ⟨.ref s.heap.objs.size,_,I',rfl,⟨s.heap.objs.size,x,y,t,rfl,I.hok.fresh (Nat.le_refl _),rfl,λxs' q=>by rw [I.list_inj q hq1]; exact hx,λys' q=>by rw [I.list_inj q hq2]; exact hy,λzs' q=>by rw [I.list_inj q hq3]; exact ht⟩,
   ⟨z7,sb.extBut _ _ Z.zI z2,⟨_,_,_,sb.extBut _ _ Z.zO z3⟩,z4.1.extBut sb.extBut Z.z1,z5.1.extBut sb.extBut Z.z2,z8.1.extBut sb.extBut Z.z3⟩,λd hc=>?_⟩
  have:=(hf d hc).1
  rw [zp]
  ·exact this
  ·intro q
   obtain ⟨o,e,_⟩:∃ o,s.heap.get? d=some o/\True:=by
    simp only [List.mem_cons,List.not_mem_nil,or_false] at hc
    rcases hc with rfl | rfl | rfl | rfl | rfl | rfl
    ·exact ⟨_,t1,trivial⟩
    ·exact ⟨_,t2,trivial⟩
    ·exact ⟨_,t3,trivial⟩
    ·obtain ⟨o,e,_⟩:=t4; exact ⟨o,e,trivial⟩
    ·obtain ⟨o,e,_⟩:=t5; exact ⟨o,e,trivial⟩
    ·obtain ⟨o,e,_⟩:=t6; exact ⟨o,e,trivial⟩
   rw [q] at e
   exact absurd (Heap.lt_size e) (Nat.lt_irrefl _)
 done:=by
  intro X hP hw hK hc i pins s σ H E I hf ⟨t1,t2,⟨x0,y0,w0,t3⟩,t4,t5,t6⟩ hg
  subst hP hw hK
  obtain ⟨xs,ys,zs,hq1,hq2,hq3,e1,e2,e4,e3⟩:=hg
  obtain ⟨its1,rv1,p1,_⟩:=I.list hq1
  obtain ⟨its2,rv2,p2,_⟩:=I.list hq2
  obtain ⟨its3,rv3,p3,_⟩:=I.list hq3
  have hh:X.A.in1.handled=none:=I.ok.hd hc
  have n1:its1.toArray.size=xs.length:=by rw [List.size_toArray]; exact rv1.length.symm
  have n2:its2.toArray.size=ys.length:=by rw [List.size_toArray]; exact rv2.length.symm
  have n3:its3.toArray.size=zs.length:=by rw [List.size_toArray]; exact rv3.length.symm
  refine zML (Draws.list hh i1 a na its1.toArray) (Draws.list hh i2 b nb its2.toArray) (Draws.list hh i3 c nc its3.toArray) Z t1 t2 t3 ⟨t4,p1.isList⟩ ⟨t5,p2.isList⟩ ⟨t6,p3.isList⟩ (by omega) (by omega) (by omega) (by omega) ?_
  intro h1 tk keep
  refine ⟨rfl,I.turnN (h':=h1) (tk:=tk) (ch:=[z,TI,TO,i1,i2,i3]) hf λd o hc e=>?_⟩
  simp only [List.mem_cons,List.not_mem_nil,or_false,not_or] at hc
  exact keep d o hc.1 hc.2.2.1 hc.2.2.2.1 hc.2.2.2.2.1 hc.2.2.2.2.2 e
 self:=λ_ _ _ _ _ st h=>wpAny_pyIter_zip st.1 h
theorem ZI (n a b c:Nat) (la:a < n) (lb:b < n) (lc:c < n):Zt (n + 5) (n + 3) (n + 4) n (n + 1) (n + 2) [n,a] [n + 1,b] [n + 2,c]:=by
 have e:∀ x y:Nat,x≠y->(x:Addr)≠y:=λ_ _ h=>h
 constructor <;> first | exact e _ _ (by omega) | exact vE (by omega) (by omega)
section
variable {X:Cx} {es:List Expr} {kk:Nat} {tp:Pos}
def ZJ (K:PySem.W.Frag) (ta:TA):TI:=λσ H R=>ta σ H λvs H1=>∃ a b c,vs=[.ref a,.ref b,.ref c]/\(∃ xs,zW K H1 a xs)/\(∃ ys,zW K H1 b ys)/\(∃ zs,zW K H1 c zs)/\R (jr K a b c) H1
theorem zPI {a b c:V} {us:List Value} (h:zN [a,b,c] us):∃ u v r,us=[u,v,r]/\zT a u/\zT b v/\zT c r:=by
 cases h with
 | cons h1 h=>cases h with
  | cons h2 h=>cases h with
   | cons h3 h=>cases h; exact ⟨_,_,_,rfl,h1,h2,h3⟩
theorem zOZ {e1 e2 e3:Expr} {ta:TA} {p pos:Pos} (hg:Gl X "zip") (hm:X.mg "zip" = none) (ha:PA X [e1,e2,e3] ta) (hs:starEach [e1,e2,e3] X.env=(false,eval e1 X.env) :: starEach [e2,e3] X.env:=by rfl) (hpl:(backTo pos (starEach [e2,e3] X.env)).any (·.1)=false:=by rfl) :
  PI X (.Tuple es kk tp) (.Call (.Name "zip" p) [e1,e2,e3] [] pos) (ZJ X.K ta):=by
 intro pins s σ H R I h
 refine Call_ (jO I hg hm (show bootBuiltins "zip" = some (.type "zip") by decide +kernel) (PyProof.Rows.callWith_type1 (zg (ha pos pins s σ H _ I h) λus s1 ⟨vs,H1,I1,r1,q1⟩=>?_) hs hpl))
 obtain ⟨a,b,c,e,⟨xs,hx⟩,⟨ys,hy⟩,⟨zs,hz⟩,q⟩:=q1
 subst e
 obtain ⟨u,v,r,rfl,ru,rv,rr⟩:=zPI r1
 cases ru
 cases rv
 cases rr
 obtain ⟨its1,rv1,p1,_⟩:=I1.list hx
 obtain ⟨its2,rv2,p2,_⟩:=I1.list hy
 obtain ⟨its3,rv3,p3,_⟩:=I1.list hz
 have la:a < s1.heap.objs.size:=by obtain ⟨o,n,e,_⟩:=p1; exact Heap.lt_size e
 have lb:b < s1.heap.objs.size:=by obtain ⟨o,n,e,_⟩:=p2; exact Heap.lt_size e
 have lc:c < s1.heap.objs.size:=by obtain ⟨o,n,e,_⟩:=p3; exact Heap.lt_size e
 refine zLr p1.isList p2.isList p3.isList λh' z1 z2 z3 z4 z5 z6 keep=>wpAny_pyIter_zip z1 ?_
 have I2:zH X pins σ H1 { s1 with heap:=h' }:=I1.kept (t':=s1.toks) keep
 refine ⟨s1.heap.objs.size + 5,[s1.heap.objs.size + 5,s1.heap.objs.size + 3,s1.heap.objs.size + 4,s1.heap.objs.size,s1.heap.objs.size + 1,s1.heap.objs.size + 2],_,_,H1,rfl,I2,
  zKD (a:=a) (b:=b) (c:=c) (ZI _ _ _ _ la lb lc) (Nat.ne_of_lt la) (Nat.ne_of_lt (Nat.lt_succ_of_lt lb)) (Nat.ne_of_lt (Nat.lt_succ_of_lt (Nat.lt_succ_of_lt lc))),⟨z1,z2,⟨_,_,_,z3⟩,z4,z5,z6⟩,λd hc=>?_,q⟩
 have ge:s1.heap.objs.size<=d:=by
  simp only [List.mem_cons,List.not_mem_nil,or_false] at hc
  rcases hc with rfl | rfl | rfl | rfl | rfl | rfl
  ·exact Nat.le_add_right _ 5
  ·exact Nat.le_add_right _ 3
  ·exact Nat.le_add_right _ 4
  ·exact Nat.le_refl _
  ·exact Nat.le_add_right _ 1
  ·exact Nat.le_add_right _ 2
 exact I1.fpOk ge (I1.hok.fresh ge)
end
end L2
namespace L2
open PySem PySem.Spec PyProof.Rows
section
variable {X:Cx}
theorem zLs (hc:X.calm=true):wv X (.builtin "max") (λxs H Q=>∃ (p:Addr) (ns:List Int),xs=[.ref p]/\zW X.K H p (ns.map V.int)/\0 < ns.length/\∀ M,M∈ns->(∀ a∈ns,a<=M)->Q (.int M) H):=by
 intro pins s σ H xs us Q I r h
 obtain ⟨p,ns,rfl,hl,h0,q⟩:=h
 obtain ⟨u,rfl,rx⟩:=uM r
 obtain rfl:u=.ref p:=rx
 obtain ⟨its,rv,pl,hz⟩:=I.list hl
 have hi:∀ {xs:List Int} {ys:List Value},zN (xs.map V.int) ys->IntsAre ys xs:=by
  intro xs
  induction xs with
  | nil=>intro ys h; cases h; exact .nil
  | cons x xs ih=>
   intro ys h
   cases h with
   | cons h1 h2=>
    obtain ⟨t,rfl⟩:=h1
    exact .cons x t (ih h2)
 have hA:=hi rv
 obtain ⟨xs,e⟩:=hA.allInts.items
 have hns:ns=xs.toList.map (·.1):=by rw [<- hA.numsOf,<- nums_intItems,<- e]
 have hsz:0 < xs.size:=by
  have h3:=h0
  rw [hns,List.length_map,Array.length_toList] at h3
  exact h3
 have hl2:=pl.isList
 rw [e] at hl2
 refine max_intList (I.ok.hd hc) hl2 hsz λv h' tk hv hk=>?_
 obtain ⟨t,rfl⟩:=intItems_at hv
 obtain ⟨h1,h2⟩:=argBest_gt (numAt xs) (xs.size - 1)
 refine ⟨.int _,H,I.kept hk,⟨t,rfl⟩,q _ ?_ λa ha=>?_⟩
 ·rw [hns,numAt_eq]
  rw [List.getD_eq_getElem?_getD,List.getElem?_eq_getElem (by rw [List.length_map,Array.length_toList]; omega)]
  exact List.getElem_mem _
 ·rw [hns] at ha
  obtain ⟨j,hj,rfl⟩:=mem_getD ha
  rw [List.length_map,Array.length_toList] at hj
  have:=h2 j (by omega)
  rw [numAt_eq] at this
  exact this
end
end L2
namespace Pu
open PySem L2 Sh
abbrev ZK (x y t:D):D:=.tup [x,y,t]
def vU:List D->List D->List D->List D
 | a :: as,b :: bs,c :: cs=>ZK a b c :: vU as bs cs
 | _,_,_=>[]
theorem zNh:∀ (as bs cs:List D),(vU as bs cs).length=min as.length (min bs.length cs.length)
 | [],_,_=>by simp [vU]
 | _ :: _,[],_=>by simp [vU]
 | _ :: _,_ :: _,[]=>by simp [vU]
 | _ :: as,_ :: bs,_ :: cs=>by
  show (vU as bs cs).length + 1=_
  rw [zNh as bs cs]
  simp only [List.length_cons]
  omega
theorem zNi:∀ {as bs cs:List D} {i:Nat} {d:D},(vU as bs cs)[i]? = some d->∃ a b c,as[i]? = some a/\bs[i]? = some b/\cs[i]? = some c/\d=ZK a b c
 | [],_,_,_,_,h=>by simp [vU] at h
 | _ :: _,[],_,_,_,h=>by simp [vU] at h
 | _ :: _,_ :: _,[],_,_,h=>by simp [vU] at h
 | a :: _,b :: _,c :: _,0,d,h=>⟨a,b,c,rfl,rfl,rfl,by cases h; rfl⟩
 | _ :: as,_ :: bs,_ :: cs,i + 1,d,h=>by
  obtain ⟨a,b,c,h1,h2,h3,e⟩:=zNi (as:=as) (bs:=bs) (cs:=cs) (i:=i) (d:=d) h
  exact ⟨a,b,c,h1,h2,h3,e⟩
theorem zNg {α β:Type} (u:α->D) (v:β->D):∀ (xs:List α) (ys:List β) (cs:List D),vU (xs.map u) (ys.map v) cs=(xs.zip (ys.zip cs)).map λp=>ZK (u p.1) (v p.2.1) p.2.2
 | [],_,_=>rfl
 | _ :: _,[],_=>rfl
 | _ :: _,_ :: _,[]=>rfl
 | x :: xs,y :: ys,c :: cs=>by
  show ZK (u x) (v y) c :: vU (xs.map u) (ys.map v) cs=_
  rw [zNg u v xs ys cs]
  rfl
theorem zOG {K:PySem.W.Frag} {Z:Addr->Prop} {H:Hp} {a b c:Addr} {xs ys zs:List V} {ds es fs:List D} (h1:∀ Z' H',zF (zS Z H) (zS Z' H')->zW K H' a xs) (h2:∀ Z' H',zF (zS Z H) (zS Z' H')->zW K H' b ys) (h3:∀ Z' H',zF (zS Z H) (zS Z' H')->zW K H' c zs) (hx:yE (zS Z H) xs ds) (hy:yE (zS Z H) ys es) (hz:yE (zS Z H) zs fs) :
  Wk Z (jr K a b c) H (vU ds es fs):=λi Z' H' s zd=>by
 have a1:=h1 Z' H' s
 have a2:=h2 Z' H' s
 have a3:=h3 Z' H' s
 have l1:=xg hx
 have l2:=xg hy
 have l3:=xg hz
 refine ⟨λd hd=>?_,λhi=>?_⟩
 ·obtain ⟨p,q,r,hp,hq,hr,rfl⟩:=zNi hd
  obtain ⟨x,gx,kx⟩:=jA hx hp
  obtain ⟨y,gy,ky⟩:=jA hy hq
  obtain ⟨t,gt,kt⟩:=jA hz hr
  refine ⟨⟨xs,ys,zs,x,y,t,a1,a2,a3,gx,gy,gt⟩,λv H'' ⟨T,x',y',t',ev,hT,eH,q1,q2,q3⟩=>?_⟩
  have:=q1 xs a1
  rw [gx] at this
  cases this
  have:=q2 ys a2
  rw [gy] at this
  cases this
  have:=q3 zs a3
  rw [gt] at this
  cases this
  subst ev
  subst eH
  exact ⟨xJ hT _,kJ zd hT (.cons (kx.same s) (.cons (ky.same s) (.cons (kt.same s) .nil)))⟩
 ·rw [zNh] at hi
  exact ⟨xs,ys,zs,a1,a2,a3,by omega,by omega,by omega,by omega⟩
def zPG:List D->(List D->Prop)->Prop
 | [.lst ds,.lst es,.lst fs],R=>R (vU ds es fs)
 | _,_=>False
theorem Up {H:Hp} {vs:List V} {d e f:D} (h:yE H vs [d,e,f]):∃ v w u,vs=[v,w,u]/\DV H v d/\DV H w e/\DV H u f:=by
 cases h with
 | cons h1 h=>cases h with
  | cons h2 h=>cases h with
   | cons h3 h=>cases h; exact ⟨_,_,_,rfl,h1,h2,h3⟩
theorem zMh {X:Cx} {pl:yk} {e1 e2 e3:Expr} {pos:Pos} {ts:List Expr} {kk:Nat} {tp p:Pos} (hg:Gl X "zip") (hm:X.mg "zip" = none) (ha:PA X [e1,e2,e3] (wC pl)) (hs:starEach [e1,e2,e3] X.env=(false,eval e1 X.env) :: starEach [e2,e3] X.env:=by rfl) (hpl:(backTo pos (starEach [e2,e3] X.env)).any (·.1)=false:=by rfl) :
  PI X (.Tuple ts kk tp) (.Call (.Name "zip" p) [e1,e2,e3] [] pos) (uB (US zPG pl)):=ki (zOZ hg hm ha hs hpl) λσ H Q ⟨Z,Γ,R,E,h,q⟩=>
 ⟨Z,Γ,_,E,h,λds vs H1 hd s1 hv=>by
  unfold zPG at hd
  split at hd
  ·obtain ⟨v,w,u,rfl,hx,hy,hz⟩:=Up hv
   obtain ⟨a,xs,rfl,ea,ha⟩:=hx.lst_inv
   obtain ⟨b,ys,rfl,eb,hb⟩:=hy.lst_inv
   obtain ⟨c,zs,rfl,ec,hc⟩:=hz.lst_inv
   exact ⟨a,b,c,rfl,⟨xs,zW.of (zv _ _ ea)⟩,⟨ys,zW.of (zv _ _ eb)⟩,⟨zs,zW.of (zv _ _ ec)⟩,q _ _ H1 hd s1 (zOG (λ_ _ s=>zW.of (zv _ _ (s _ _ ea))) (λ_ _ s=>zW.of (zv _ _ (s _ _ eb))) (λ_ _ s=>zW.of (zv _ _ (s _ _ ec))) ha hb hc)⟩
  ·exact hd.elim⟩
section
variable {X:Cx} {a b:Expr} {pos:Pos} {pa pb:zz}
theorem zQK:yn X (compareOp .Is) (λx y H Q=>y=.non/\((x=.non/\Q (.bl true) H)\/∃ i,x=.int i/\Q (.bl false) H)):=by
 intro pins s σ H x y v u Q I rx ry h
 obtain ⟨rfl,⟨rfl,q⟩ | ⟨i,rfl,q⟩⟩:=h
 ·cases rx
  cases ry
  exact PyProof.Rows.is_none_none ⟨.bl true,H,I,rfl,q⟩
 ·obtain ⟨t,rfl⟩:=rx
  cases ry
  exact PyProof.Rows.is_none_ne (λh=>by cases h) ⟨.bl false,H,I,rfl,q⟩
def Uq:F2
 | .non,.non,R=>R (.bool true)
 | .int _,.non,R=>R (.bool false)
 | _,_,_=>False
theorem zOo:wV (λx y H Q=>y=.non/\((x=.non/\Q (.bl true) H)\/∃ i,x=.int i/\Q (.bl false) H)) Uq:=λZ H x y a b R Q zd hx hy h q=>by
 unfold Uq at h
 split at h
 ·cases hx
  cases hy
  exact ⟨rfl,.inl ⟨rfl,q _ _ H h (zF.refl _) (.bool _)⟩⟩
 ·cases hx
  cases hy
  exact ⟨rfl,.inr ⟨_,rfl,q _ _ H h (zF.refl _) (.bool _)⟩⟩
 ·exact h.elim
theorem zKc (ha:PE X a (tP pa)) (hb:PE X b (tP pb)):PT X (.Compare a [.Is] [b] pos) (xC (wD (xo Uq pa pb))):=qj zQK zOo (v5 _) ha hb
end
end Pu
namespace Pu
open PySem L2 Sh
def zQU:FL
 | [.lst ds],R=>∃ ns:List Int,ds=ns.map D.int/\0 < ns.length/\∀ M,M∈ns->(∀ a∈ns,a<=M)->R (.int M)
 | _,_=>False
theorem zNW {K:PySem.W.Frag}:vo (λxs H Q=>∃ (p:Addr) (ns:List Int),xs=[.ref p]/\zW K H p (ns.map V.int)/\0 < ns.length/\∀ M,M∈ns->(∀ a∈ns,a<=M)->Q (.int M) H) zQU:=λZ H vs ds R Q zd hv h q=>by
 unfold zQU at h
 split at h
 ·obtain ⟨v,rfl,hw⟩:=yq hv
  obtain ⟨p,xs,rfl,e1,h1⟩:=hw.lst_inv
  obtain ⟨ns,rfl,l0,h⟩:=h
  cases W8 h1
  exact ⟨p,ns,rfl,zW.of (zv _ _ e1),l0,λM m1 m2=>q _ _ H (h M m1 m2) (zF.refl _) (.int _)⟩
 ·exact h.elim
end Pu
namespace K53
open PySem L2 Sh Pu
def zk (i:Nat):Stmt:=PySem.Challenge.pw_steadyhand_k53_whole_papers_of_rooms_hol.main.body.getD i (.Pass ⟨0,0,0,0⟩)
structure Bl (mg:Str->Option Value):Prop where
 isinstance_:mg "isinstance" = none
 int_:mg "int" = none
 bool_:mg "bool" = none
 tuple_:mg "tuple" = none
 len_:mg "len" = none
 all_:mg "all" = none
 list_:mg "list" = none
 range_:mg "range" = none
 zip_:mg "zip" = none
 sum_:mg "sum" = none
 max_:mg "max" = none
 enumerate_:mg "enumerate" = none
 abs_:mg "abs" = none
 min_:mg "min" = none
 MOST_NUMBERS_:∃ t,mg "MOST_NUMBERS" = some (.int 3 t)
 MOST_PUSHES_:∃ t,mg "MOST_PUSHES" = some (.int 6 t)
 MOST_MODES_:∃ t,mg "MOST_MODES" = some (.int 40 t)
structure wc (K:PySem.W.Frag) (C:Addr):Prop where
 no:True
structure wd (K:PySem.W.Frag) (C:Addr):Prop where
 n_start:yc K C "start"
 n_rows:yc K C "rows"
 n_turn:yc K C "turn"
structure we (K:PySem.W.Frag) (C:Addr):Prop where
 n_start:yc K C "start"
 n_goal:yc K C "goal"
 n_turns:yc K C "turns"
structure wf (K:PySem.W.Frag) (C:Addr):Prop where
 n_rows:yc K C "rows"
 n_nexts:yc K C "nexts"
 n_steer:yc K C "steer"
 n_push:yc K C "push"
 n_add:yc K C "add"
 n_divisor:yc K C "divisor"
structure wg (K:PySem.W.Frag) (C:Addr):Prop where
 n_many:yc K C "many"
 n_kept_pushes:yc K C "kept_pushes"
 n_kept_modes:yc K C "kept_modes"
structure wj (K:PySem.W.Frag) (C:Addr):Prop where
 no:True
structure wl (K:PySem.W.Frag) (C:Addr):Prop where
 n_rooms:yc K C "rooms"
 n_back:yc K C "back"
 n_starts:yc K C "starts"
 n_steps:yc K C "steps"
 n_stays:yc K C "stays"
structure wm (K:PySem.W.Frag) (C:Addr):Prop where
 n_room:yc K C "room"
 n_starts:yc K C "starts"
 n_steps:yc K C "steps"
 n_measure:yc K C "measure"
 n_step:yc K C "step"
 n_top:yc K C "top"
 n_falls:yc K C "falls"
 n_floors:yc K C "floors"
 n_tops:yc K C "tops"
inductive Fw:Nat->D->Prop
 | int {k:Nat} (i:Int):Fw (k + 1) (.int i)
 | bool {k:Nat} (b:Bool):Fw (k + 1) (.bool b)
 | non {k:Nat}:Fw (k + 1) .non
 | str {k:Nat} (x:Str):Fw (k + 1) (.str x)
 | lst {k:Nat} {ds:List D} (l:ds.length<=900) (h:∀ d∈ds,Fw k d):Fw (k + 1) (.lst ds)
 | tup {k:Nat} {ds:List D} (l:ds.length<=900) (h:∀ d∈ds,Fw k d):Fw (k + 1) (.tup ds)
theorem Fw.no {k:Nat} {d:D} (h:Fw k d):d.isObj=false:=by cases h <;> rfl
theorem Fw.lst_inv {k:Nat} {d:D} (h:Fw k d) (e:d.isLst=true):∃ ds,d=.lst ds/\ds.length<=900/\∃ j,k=j + 1/\∀ d∈ds,Fw j d:=by
 cases h with
 | lst l h=>exact ⟨_,rfl,l,_,rfl,h⟩
 | _=>cases e
theorem Fw.tup_inv {k:Nat} {d:D} (h:Fw k d) (e:d.isTup=true):∃ ds,d=.tup ds/\ds.length<=900/\∃ j,k=j + 1/\∀ d∈ds,Fw j d:=by
 cases h with
 | tup l h=>exact ⟨_,rfl,l,_,rfl,h⟩
 | _=>cases e
theorem zLS {k:Nat} {ns:List Int}:∀ d∈ns.map D.int,Fw (k + 1) d:=λd m=>by
 obtain ⟨i,_,rfl⟩:=List.mem_map.mp m
 exact .int i
theorem k0 {n:Nat} (h:n.ble 1000=true:=by rfl):n<=1000:=Nat.le_of_ble_eq_true h
theorem bR {R:D->Prop} {a b:Bool} (q:R (.bool a)) (e:a=b):R (.bool b):=e ▸ q
def uh (d:D):Bool:=d.isInt && !d.isBool
def XM (n:Int):D->Bool
 | .lst ds=>decide ((ds.length:Int)=n) && ds.all uh
 | _=>false
def ZM (h w:Int):D->Bool
 | .lst ds=>decide ((ds.length:Int)=h) && ds.all (XM w)
 | _=>false
def ui (n:Int):D->Bool
 | .tup ds=>decide ((ds.length:Int)=n + 1) && ds.all uh
 | _=>false
def zPg (n:Int):D->Bool
 | .lst ds=>ds.all (ui n)
 | _=>false
theorem vf {α:Type} (f:α->Bool) (xs:List α):(xs.map f).all id=xs.all f:=by rw [List.all_map]; rfl
def jt:FL:=λds R=>∃ d,ds=[d]/\d.isObj=false/\R (.bool (uh d))
def Ur:FL:=λds R=>∃ d n k,ds=[d,.int n]/\Fw k d/\R (.bool (XM n d))
def ZN:FL:=λds R=>∃ d h w k,ds=[d,.int h,.int w]/\Fw k d/\R (.bool (ZM h w d))
def ZO:FL:=λds R=>∃ d n k,ds=[d,.int n]/\Fw k d/\R (.bool (ui n d))
def XN:FL:=λds R=>∃ d n k,ds=[d,.int n]/\Fw k d/\R (.bool (zPg n d))
def ju (j:Nat):FL:=λds R=>∃ d n,ds=[d,.int n]/\Fw j d/\R d
def zQl:FL:=λds R=>∃ p w n:Int,ds=[.int p,.int w,.int n]/\0<=w/\w<=900/\R (L (y6 p w.toNat n))
def IS (d:D) (ns:List Int):Prop:=d=L ns\/d=U ns
theorem IS.seq {d:D} {ns:List Int} (h:IS d ns) {R:List D->Prop} (q:R (ns.map D.int)):jj d R:=by
 rcases h with rfl | rfl
 ·exact q
 ·exact q
def zLZ:FL:=λds R=>∃ (f:Int) (d:D) (ns:List Int),ds=[.int f,d]/\IS d ns/\ns.length<=900/\Bd 9000 f/\(∀ x∈ns,Bd 9000 x)/\R (L (ns.map (f * ·)))
def zLc:FL:=λds R=>∃ (d e:D) (ns os:List Int),ds=[d,e]/\IS d ns/\IS e os/\ns.length<=900/\(∀ x∈ns,Bd 9000 x)/\(∀ x∈os,Bd 9000 x)/\R (.int (yx ns os))
theorem zId:∀ ns os:List Int,List.zipWith xL (ns.map D.int) (os.map D.int)=(ns.zip os).map λq=>xL (.int q.1) (.int q.2)
 | [],_=>rfl
 | _ :: _,[]=>rfl
 | _ :: ns,_ :: os=>by rw [List.map_cons,List.map_cons,List.zipWith_cons_cons,zId ns os]; rfl
theorem IS.zip {d e:D} {ns os:List Int} (h:IS d ns) (k:IS e os) {R:List D->Prop} (q:R ((ns.zip os).map λq=>xL (.int q.1) (.int q.2))):uC [d,e] R:=by
 rw [<- zId] at q
 rcases h with rfl | rfl <;> rcases k with rfl | rfl <;> exact q
theorem ZP {qs:List (Int × Int)} {G:D->(D->Prop)->Prop} {R:D->Prop} (g:Int × Int->Int) (few:qs.length<=1000) (h:∀ q,q∈qs->G (xL (.int q.1) (.int q.2)) λe=>e=.int (g q)) (k:R (.lst ((qs.map g).map D.int))):zj (qs.map λq=>xL (.int q.1) (.int q.2)) G R:=
 zj.map (λd=>match d with | .tup [x,y]=>.int (g (zx x,zx y)) | _=>.non) (by rw [List.length_map]; exact few) (λd m=>by
  obtain ⟨q,hq,rfl⟩:=List.mem_map.mp m
  exact h q hq) (by rw [List.map_map] at k |-; exact k)
theorem zIj:∀ ns os:List Int,((ns.zip os).map λq=>q.1 * q.2).sum=yx ns os
 | [],_=>rfl
 | _ :: _,[]=>rfl
 | n :: ns,o :: os=>by rw [List.zip_cons_cons,List.map_cons,List.sum_cons,zIj ns os]; rfl
abbrev Tb (t:List (List Int)):D:=.lst (t.map L)
abbrev Rm (t:List (List Int)):D:=.lst (t.map U)
def zf:D->List Int
 | .lst ds=>ds.map zx
 | .tup ds=>ds.map zx
 | _=>[]
theorem zIx (ns:List Int):(ns.map D.int).map zx=ns:=by rw [List.map_map]; exact List.map_id _
theorem jv (ns:List Int):zf (L ns)=ns:=zIx ns
theorem uj (ns:List Int):zf (U ns)=ns:=zIx ns
theorem wn {α:Type} {xs:List α} {G:D->(D->Prop)->Prop} {R:D->Prop} (u:α->D) (v:D->α) (hv:∀ x,v (u x)=x) (g:α->D) (few:xs.length<=1000) (h:∀ x,x∈xs->G (u x) λe=>e=g x) (q:R (.lst (xs.map g))):zj (xs.map u) G R:=
 zj.map (λd=>g (v d)) (by rw [List.length_map]; exact few) (λd m=>by
  obtain ⟨x,hx,rfl⟩:=List.mem_map.mp m
  rw [hv]
  exact h x hx) (by
  rw [List.map_map,show ((λd=>g (v d)) ∘ u)=g from funext λx=>congrArg g (hv x)]
  exact q)
def IT (e:D) (ls:List (List Int)):Prop:=e=Tb ls\/e=Rm ls
theorem zJ2 {α:Type} (u:α->D):∀ (ns:List Int) (ls:List α),List.zipWith xL (ns.map D.int) (ls.map u)=(ns.zip ls).map λq=>xL (.int q.1) (u q.2)
 | [],_=>rfl
 | _ :: _,[]=>rfl
 | _ :: ns,_ :: ls=>by rw [List.map_cons,List.map_cons,List.zipWith_cons_cons,zJ2 u ns ls]; rfl
def v2 (d:D):Int × List Int:=match d with
 | .tup [x,y]=>(zx x,zf y)
 | _=>(0,[])
theorem wH {ns:List Int} {j:Nat} (h:j < ns.length) {i:Int} (e:i=(j:Int)):yR (ns.map D.int) i=some (.int (ns.getD j 0)):=by
 rw [uA,e]
 unfold yR ww
 rw [if_pos (by omega),if_pos (by omega)]
 show Option.map D.int ns[((j:Nat):Int).toNat]? = _
 rw [show ((j:Nat):Int).toNat=j by omega,List.getElem?_eq_getElem h,List.getD_eq_getElem?_getD,List.getElem?_eq_getElem h]
 rfl
theorem IS.zipT {d e:D} {ns:List Int} {ls:List (List Int)} (h:IS d ns) (k:IT e ls) {R:List D->Prop} (q:∀ u:List Int->D,u=L\/u=U->R ((ns.zip ls).map λq=>xL (.int q.1) (u q.2))):uC [d,e] R:=by
 have q1:=q L (.inl rfl)
 have q2:=q U (.inr rfl)
 rw [<- zJ2] at q1 q2
 rcases h with rfl | rfl <;> rcases k with rfl | rfl <;> first | exact q1 | exact q2
theorem ZQ {u:List Int->D} (hu:u=L\/u=U) (q:Int × List Int):v2 (xL (.int q.1) (u q.2))=q:=by
 rcases hu with rfl | rfl
 ·show (q.1,zf (L q.2))=q
  rw [jv]
 ·show (q.1,zf (U q.2))=q
  rw [uj]
def Ut:FL:=λds R=>∃ (d e:D) (ns:List Int) (ls:List (List Int)) (w:Nat),ds=[d,e,.int (w:Int)]/\IS d ns/\IT e ls/\w<=900/\ns.length<=900/\(∀ x∈ns,Bd 9000 x)/\(∀ r∈ls,w<=r.length/\∀ x∈r,Bd 9000 x)/\R (L ((List.range w).map (zr ns ls)))
def zLX:FL:=λds R=>∃ p w n b:Int,ds=[.int p,.int w,.int n,.int b]/\0<=w/\w<=900/\R (U (y6 p w.toNat n++[b]))
theorem vv {e:Nat} {r:List Int} (h:∀ x∈r,Bd e x) (j:Nat):Bd e (r.getD j 0):=by
 rw [List.getD_eq_getElem?_getD]
 cases hj:r[j]? with
 | none=>show (0:Int).natAbs < 2 ^ e; exact Nat.two_pow_pos e
 | some x=>exact h x (List.mem_of_getElem? hj)
section
variable {P:Program} {w:World} {K:PySem.W.Frag} {mg:Str->Option Value} {base:Heap}
abbrev Uu:Stmt:=zk 7
theorem zHx:zb ["thing"] ["thing"] (zL Uu):=.a
abbrev XO:Stmt:=zk 9
theorem zGO:zb ["value","count"] ["value","count"] (zL XO):=.a
abbrev XQ:Stmt:=zk 10
theorem zHy:zb ["value","tall","wide"] ["value","tall","wide"] (zL XQ):=.a
abbrev ZR:Stmt:=zk 11
theorem zKW:zb ["value","depth"] ["value","depth"] (zL ZR):=.a
abbrev XR:Stmt:=zk 12
theorem zOR:zb ["place","wide","number"] ["place","wide","number"] (zL XR):=.a
abbrev XS:Stmt:=zk 13
theorem zKQ:zb ["factor","numbers"] ["factor","numbers"] (zL XS):=.a
abbrev XT:Stmt:=zk 15
theorem zKR:zb ["numbers","others"] ["numbers","others"] (zL XT):=.a
variable {aClaim aSettles aComes ag ah aPaper aRooms aFalls:Addr} (TClaim:zE K mg "Claim" aClaim) (AClaim:wc K aClaim) (TSettles:zE K mg "Settles" aSettles) (ASettles:wd K aSettles) (TComes:zE K mg "Comes" aComes) (AComes:we K aComes) (aa:zE K mg "Mode" ag) (ab:wf K ag) (ac:zE K mg "Thing" ah) (ae:wg K ah) (TPaper:zE K mg "Paper" aPaper) (APaper:wj K aPaper) (TRooms:zE K mg "Rooms" aRooms) (ARooms:wl K aRooms) (TFalls:zE K mg "Falls" aFalls) (AFalls:wm K aFalls)
include TClaim AClaim TSettles ASettles TComes AComes aa ab ac ae TPaper APaper TRooms ARooms TFalls AFalls
theorem zIE {k:Nat} {f:Addr} {fd:FuncData} (F:zc K "is_whole" "is_whole" Uu f fd) (B:Bl mg):zG P w K mg base zX (k + 1) f fd ["thing"] (zJ (jt)):=by
 refine zu F zHx (λds R h=>by obtain ⟨d,rfl,_⟩:=h; rfl) λcdv A outer s H E hr=>⟨_,(zM (zV (wE (yG (xS wx rfl B.isinstance_ xm (zo (zA 0) (zo (wu (v:=.ty "int") (u:=.type "int") rfl B.int_ Wy rfl) yJ))) (w6 zQg)) (vT (zPn (yG (xS wx rfl B.isinstance_ xm (zo (zA 0) (zo (wu (v:=.ty "bool") (u:=.type "bool") rfl B.bool_ zJ0 rfl) yJ))) (w6 zNF))))))),λds R h=>?_⟩
 obtain ⟨d,rfl,o,q⟩:=h
 refine ⟨o,λc=>⟨o,bR q ?_⟩,λc=>bR q ?_⟩
 ·unfold uh; rw [c]; rfl
 ·unfold uh; rw [c]; rfl
theorem zGj {k:Nat} {f:Addr} {fd:FuncData} (F:zc K "is_numbers" "is_numbers" XO f fd) (B:Bl mg) (aj:Fn P w K mg base "is_whole" ["thing"] k (zJ (jt))):zG P w K mg base zX (k + 1) f fd ["value","count"] (zJ (Ur)):=by
 refine zu F zGO (λds R h=>by obtain ⟨d,n,k,rfl,_⟩:=h; rfl) λcdv A outer s H E hr=>⟨_,(zM (zV (wE (yG (xS wx rfl B.isinstance_ xm (zo (zA 0) (zo (wu (v:=.ty "list") (u:=.type "list") rfl B.list_ xn rfl) yJ))) (w6 ug)) (wE (uR hr.units (zq yV yX rfl B.len_ yW (zB (zA 0) zC)) (zA 1)) (vT (zq (wR rfl) wY rfl B.all_ wS (zB (yQ (own:=["number"]) (caps:=[]) (yC (S:=zL XO) (N:=["value","count"]) rfl (by decide +kernel) rfl ⟨0,rfl⟩ rfl (by decide +kernel) (by decide +kernel)) rfl rfl yF (yS (zA 0)) (λ_ _ _ _=>(zt 0 (show (["number"]:List Str).Nodup by decide +kernel) rfl (Or.inl rfl))) (λ_ _ _ _=>(zP aj hr rfl (zB (zA 0) zC)))) zC))))))),λds R h=>?_⟩
 obtain ⟨d,n,k,rfl,f,q⟩:=h
 refine ⟨f.no,λc=>?_,λc=>bR q ?_⟩
 ·obtain ⟨es,rfl,le,j,rfl,hj⟩:=f.lst_inv c
  refine ⟨λc2=>?_,λc2=>bR q ?_⟩
  ·refine zj.bool uh (by omega) (λd m=>⟨d,rfl,(hj d m).no,rfl⟩) ⟨_,rfl,bR q ?_⟩
   show (decide _ && _)=_
   rw [c2,vf]
   rfl
  ·show (decide _ && _)=_
   rw [c2]
   rfl
 ·cases d <;> first | rfl | cases c
theorem zIF {k:Nat} {f:Addr} {fd:FuncData} (F:zc K "is_table" "is_table" XQ f fd) (B:Bl mg) (aB:Fn P w K mg base "is_numbers" ["value","count"] k (zJ (Ur))):zG P w K mg base zX (k + 1) f fd ["value","tall","wide"] (zJ (ZN)):=by
 refine zu F zHy (λds R h=>by obtain ⟨d,h,w,k,rfl,_⟩:=h; rfl) λcdv A outer s H E hr=>⟨_,(zM (zV (wE (yG (xS wx rfl B.isinstance_ xm (zo (zA 0) (zo (wu (v:=.ty "list") (u:=.type "list") rfl B.list_ xn rfl) yJ))) (w6 ug)) (wE (uR hr.units (zq yV yX rfl B.len_ yW (zB (zA 0) zC)) (zA 1)) (vT (zq (wR rfl) wY rfl B.all_ wS (zB (yQ (own:=["part"]) (caps:=[(2,"wide")]) (yC (S:=zL XQ) (N:=["value","tall","wide"]) rfl (by decide +kernel) rfl ⟨_,rfl⟩ rfl (by decide +kernel) (by decide +kernel)) rfl rfl yF (yS (zA 0)) (λ_ _ _ _=>(zt 0 (show (["part","wide"]:List Str).Nodup by decide +kernel) rfl (Or.inl rfl))) (λ_ _ _ _=>(zP aB hr rfl (zB (zA 0) (zB (zA 1) zC))))) zC))))))),λds R h=>?_⟩
 obtain ⟨d,h,w,k,rfl,f,q⟩:=h
 refine ⟨f.no,λc=>?_,λc=>bR q ?_⟩
 ·obtain ⟨es,rfl,le,j,rfl,hj⟩:=f.lst_inv c
  refine ⟨λc2=>?_,λc2=>bR q ?_⟩
  ·refine zj.bool (XM w) (by omega) (λd m=>⟨d,w,j,rfl,hj d m,rfl⟩) ⟨_,rfl,bR q ?_⟩
   show (decide _ && _)=_
   rw [c2,vf]
   rfl
  ·show (decide _ && _)=_
   rw [c2]
   rfl
 ·cases d <;> first | rfl | cases c
theorem qk {k:Nat} {f:Addr} {fd:FuncData} {dv:Value} {j:Nat} (F:yw K "copied" "copied" ZR f fd dv) (B:Bl mg) (ai:vd P w K mg base "copied" ["value","depth"] k (zJ (ju j)) (.int 5)):zG P w K mg base zX (k + 1) f fd ["value","depth"] (zJ (ju (j + 1))):=by
 refine k9 F zKW (λds R h=>by obtain ⟨d,n,rfl,_⟩:=h; rfl) λcdv A outer s H E hr=>⟨_,(zK (yI (wz hr.units (zA 1) zD) (zM (zV (zA 0))) yH)
  (zK (yI (yb (yG (xS wx rfl B.isinstance_ xm (zo (zA 0) (zo (wu (v:=.ty "list") (u:=.type "list") rfl B.list_ xn rfl) yJ))) (w6 ug))) (zM (zV (yQ (own:=["part"]) (caps:=[(1,"depth")]) (yC (S:=zL ZR) (N:=["value","depth"]) rfl (by decide +kernel) rfl ⟨_,rfl⟩ rfl (by decide +kernel) (by decide +kernel)) rfl rfl yF (yS (zA 0)) (λ_ _ _ _=>(zt 0 (show (["part","depth"]:List Str).Nodup by decide +kernel) rfl (Or.inl rfl))) (λ_ _ _ _=>(zP ai.fn hr rfl (zB (zA 0) (zB (xc (zA 1) zD) zC))))))) yH)
  (zK (yI (yb (yG (xS wx rfl B.isinstance_ xm (zo (zA 0) (zo (wu (v:=.ty "tuple") (u:=.type "tuple") rfl B.tuple_ vP rfl) yJ))) (w6 k8))) (zM (zV (xV ua uf rfl B.tuple_ vP (zB (yQ (own:=["part"]) (caps:=[(1,"depth")]) (yC (S:=zL ZR) (N:=["value","depth"]) rfl (by decide +kernel) rfl ⟨_,rfl⟩ rfl (by decide +kernel) (by decide +kernel)) rfl rfl yF (yS (zA 0)) (λ_ _ _ _=>(zt 0 (show (["part","depth"]:List Str).Nodup by decide +kernel) rfl (Or.inl rfl))) (λ_ _ _ _=>(zP ai.fn hr rfl (zB (zA 0) (zB (xc (zA 1) zD) zC))))) zC)))) yH)
  (zM (zV (zA 0)))))),λds R h=>?_⟩
 obtain ⟨d,n,rfl,f,q⟩:=h
 refine ⟨λc=>q,λc=>?_⟩
 refine ⟨f.no,λc=>?_,λc=>?_⟩
 ·obtain ⟨es,rfl,le,i,e1,hj⟩:=f.lst_inv c
  cases e1
  refine zj.map id (by omega) (λd m=>⟨d,_,rfl,hj d m,rfl⟩) ?_
  rw [List.map_id]
  exact q
 refine ⟨f.no,λc=>?_,λc=>q⟩
 obtain ⟨es,rfl,le,i,e1,hj⟩:=f.tup_inv c
 cases e1
 refine zj.map id (by omega) (λd m=>⟨d,_,rfl,hj d m,rfl⟩) ?_
 rw [List.map_id]
 exact q
theorem zOr {k:Nat} {f:Addr} {fd:FuncData} {dv:Value} (F:yw K "unit" "unit" XR f fd dv) (B:Bl mg):zG P w K mg base zX (k + 1) f fd ["place","wide","number"] (zJ (zQl)):=by
 refine k9 F zOR (λds R h=>by obtain ⟨p,w,n,rfl,_⟩:=h; rfl) λcdv A outer s H E hr=>⟨_,(zM (zV (yQ (own:=["other"]) (caps:=[(0,"place"),(2,"number")]) (yC (S:=zL XR) (N:=["place","wide","number"]) rfl (by decide +kernel) rfl ⟨_,rfl⟩ rfl (by decide +kernel) (by decide +kernel)) rfl rfl yF (xE rfl B.range_ (zB (zA 1) zC)) (λ_ _ _ _=>(zt 0 (show (["other","place","number"]:List Str).Nodup by decide +kernel) rfl (Or.inl rfl))) (λ_ _ _ _=>(zMi (wz hr.units (zA 0) (zA 1)) (zA 2) zD))))),λds R h=>?_⟩
 obtain ⟨p,w,n,rfl,w0,w1,q⟩:=h
 refine ⟨by omega,by omega,zj.rng0 (λi=>.int (if (i:Int)=p then n else 0)) (by omega) (λk hk=>?_) ?_⟩
 ·refine ⟨λc=>?_,λc=>?_⟩
  ·show D.int n=_
   rw [if_pos (of_decide_eq_true c)]
  ·show D.int 0=_
   rw [if_neg (of_decide_eq_false c)]
 ·unfold y6 L at q
  rw [List.map_map] at q
  exact q
theorem zKy {k:Nat} {f:Addr} {fd:FuncData} (F:zc K "scaled" "scaled" XS f fd) (B:Bl mg):zG P w K mg base zX (k + 1) f fd ["factor","numbers"] (zJ (zLZ)):=by
 refine zu F zKQ (λds R h=>by obtain ⟨f,d,ns,rfl,_⟩:=h; rfl) λcdv A outer s H E hr=>⟨_,(zM (zV (yQ (own:=["number"]) (caps:=[(0,"factor")]) (yC (S:=zL XS) (N:=["factor","numbers"]) rfl (by decide +kernel) rfl ⟨_,rfl⟩ rfl (by decide +kernel) (by decide +kernel)) rfl rfl yF (yS (zA 1)) (λ_ _ _ _=>(zt 0 (show (["number","factor"]:List Str).Nodup by decide +kernel) rfl (Or.inl rfl))) (λ_ _ _ _=>(ya (zA 1) (zA 0)))))),λds R h=>?_⟩
 obtain ⟨f,d,ns,rfl,h,l,bf,bn,q⟩:=h
 exact h.seq (zj.int _ (by omega) (λn hn=>⟨bf.mono,(bn n hn).mono,rfl⟩) q)
theorem zKz {k:Nat} {f:Addr} {fd:FuncData} (F:zc K "paired" "paired" XT f fd) (B:Bl mg):zG P w K mg base zX (k + 1) f fd ["numbers","others"] (zJ (zLc)):=by
 refine zu F zKR (λds R h=>by obtain ⟨d,e,ns,os,rfl,_⟩:=h; rfl) λcdv A outer s H E hr=>⟨_,(zM (zV (zq (Yk rfl) Y2 rfl B.sum_ Yj (zB (yQ (own:=["number","other"]) (caps:=[]) (yC (S:=zL XT) (N:=["numbers","others"]) rfl (by decide +kernel) rfl ⟨0,rfl⟩ rfl (by decide +kernel) (by decide +kernel)) rfl rfl (ji (vL (vL jk))) (jB rfl B.zip_ (zB (zA 0) (zB (zA 1) zC))) (λ_ _ _ _=>(xh rfl (zm 0 (show (["number","other"]:List Str).Nodup by decide +kernel) rfl (Or.inl rfl) (zm 1 (show (["number","other"]:List Str).Nodup by decide +kernel) rfl (Or.inl rfl) xf)))) (λ_ _ _ _=>(ya (zA 0) (zA 1)))) zC)))),λds R h=>?_⟩
 obtain ⟨d,e,ns,os,rfl,h,k,l,bn,bo,q⟩:=h
 refine h.zip k (ZP (λq=>q.1 * q.2) (by rw [List.length_zip]; omega) (λp hp=>⟨(bn _ (List.of_mem_zip hp).1).mono,(bo _ (List.of_mem_zip hp).2).mono,rfl⟩) ⟨_,rfl,?_⟩)
 rw [zIj]
 exact q
end
section
variable {P:Program} {w:World} {K:PySem.W.Frag} {mg:Str->Option Value} {base:Heap}
abbrev XU:Stmt:=zk 16
theorem zH0:zb ["numbers","lists","wide"] ["numbers","lists","wide"] (zL XU):=.a
abbrev XV:Stmt:=zk 22
theorem zKV:zb ["value","many"] ["value","many"] (zL XV):=.a
abbrev XW:Stmt:=zk 23
theorem zJU:zb ["value","many"] ["value","many"] (zL XW):=.a
abbrev Uv:Stmt:=zk 24
theorem zKP:zb ["place","many","number","bound"] ["place","many","number","bound"] (zL Uv):=.a
variable {aClaim aSettles aComes ag ah aPaper aRooms aFalls:Addr} (TClaim:zE K mg "Claim" aClaim) (AClaim:wc K aClaim) (TSettles:zE K mg "Settles" aSettles) (ASettles:wd K aSettles) (TComes:zE K mg "Comes" aComes) (AComes:we K aComes) (aa:zE K mg "Mode" ag) (ab:wf K ag) (ac:zE K mg "Thing" ah) (ae:wg K ah) (TPaper:zE K mg "Paper" aPaper) (APaper:wj K aPaper) (TRooms:zE K mg "Rooms" aRooms) (ARooms:wl K aRooms) (TFalls:zE K mg "Falls" aFalls) (AFalls:wm K aFalls)
include TClaim AClaim TSettles ASettles TComes AComes aa ab ac ae TPaper APaper TRooms ARooms TFalls AFalls
theorem zIH {k:Nat} {f:Addr} {fd:FuncData} (F:zc K "added_up" "added_up" XU f fd) (B:Bl mg):zG P w K mg base zX (k + 1) f fd ["numbers","lists","wide"] (zJ (Ut)):=by
 refine zu F zH0 (λds R h=>by obtain ⟨d,e,ns,ls,w,rfl,_⟩:=h; rfl) λcdv A outer s H E hr=>⟨_,(zM (zV (yQ (own:=["place"]) (caps:=[(0,"numbers"),(1,"lists")]) (yC (S:=zL XU) (N:=["numbers","lists","wide"]) rfl (by decide +kernel) rfl ⟨_,rfl⟩ rfl (by decide +kernel) (by decide +kernel)) rfl rfl yF (xE rfl B.range_ (zB (zA 2) zC)) (λ_ _ _ _=>(zt 0 (show (["place","numbers","lists"]:List Str).Nodup by decide +kernel) rfl (Or.inr rfl))) (λ_ _ _ _=>(zq (Yk rfl) Y2 rfl B.sum_ Yj (zB (yQ (own:=["number","part"]) (caps:=[(0,"place")]) (Yn rfl (by decide +kernel) (by decide +kernel) (by decide +kernel) (by decide +kernel)) rfl rfl (ji (vL (vL jk))) (jB rfl B.zip_ (zB (zA 1) (zB (zA 2) zC))) (λ_ _ _ _=>(xh rfl (zm 0 (show (["number","part","place"]:List Str).Nodup by decide +kernel) rfl (Or.inl rfl) (zm 1 (show (["number","part","place"]:List Str).Nodup by decide +kernel) rfl (Or.inl rfl) xf)))) (λ_ _ _ _=>(ya (zA 0) (zR (zA 1) (zA 2) (λ_ _=>rfl))))) zC)))))),λds R h=>?_⟩
 obtain ⟨d,e,ns,ls,w,rfl,h,k,lw,ln,bn,bl,q⟩:=h
 refine ⟨by omega,by omega,?_⟩
 rw [show ((w:Nat):Int).toNat=w by omega]
 refine zj.rng0 (λj=>.int (zr ns ls j)) (by omega) (λj hj=>?_) (by unfold L at q; rw [List.map_map] at q; exact q)
 refine h.zipT k λu hu=>wn (λq=>xL (.int q.1) (u q.2)) v2 (ZQ hu) (λq=>.int (q.1 * q.2.getD j 0)) (by rw [List.length_zip]; omega) (λq hq=>?_) ⟨(ns.zip ls).map λq=>q.1 * q.2.getD j 0,by rw [List.map_map]; rfl,rfl⟩
 have hb:=bl q.2 (List.of_mem_zip hq).2
 rcases hu with rfl | rfl
 all_goals exact ⟨_,wH (j:=j) (by omega) (by omega),(bn _ (List.of_mem_zip hq).1).mono,(vv hb.2 j).mono,rfl⟩
theorem zK8 {k:Nat} {f:Addr} {fd:FuncData} (F:zc K "is_row" "is_row" XV f fd) (B:Bl mg) (aj:Fn P w K mg base "is_whole" ["thing"] k (zJ (jt))):zG P w K mg base zX (k + 1) f fd ["value","many"] (zJ (ZO)):=by
 refine zu F zKV (λds R h=>by obtain ⟨d,n,k,rfl,_⟩:=h; rfl) λcdv A outer s H E hr=>⟨_,(zM (zV (wE (yG (xS wx rfl B.isinstance_ xm (zo (zA 0) (zo (wu (v:=.ty "tuple") (u:=.type "tuple") rfl B.tuple_ vP rfl) yJ))) (w6 k8)) (wE (uR hr.units (zq yV yX rfl B.len_ yW (zB (zA 0) zC)) (zh (zA 1) zD)) (vT (zq (wR rfl) wY rfl B.all_ wS (zB (yQ (own:=["number"]) (caps:=[]) (yC (S:=zL XV) (N:=["value","many"]) rfl (by decide +kernel) rfl ⟨0,rfl⟩ rfl (by decide +kernel) (by decide +kernel)) rfl rfl yF (yS (zA 0)) (λ_ _ _ _=>(zt 0 (show (["number"]:List Str).Nodup by decide +kernel) rfl (Or.inl rfl))) (λ_ _ _ _=>(zP aj hr rfl (zB (zA 0) zC)))) zC))))))),λds R h=>?_⟩
 obtain ⟨d,n,k,rfl,f,q⟩:=h
 refine ⟨f.no,λc=>?_,λc=>bR q ?_⟩
 ·obtain ⟨es,rfl,le,j,rfl,hj⟩:=f.tup_inv c
  refine ⟨λc2=>?_,λc2=>bR q ?_⟩
  ·refine zj.bool uh (by omega) (λd m=>⟨d,rfl,(hj d m).no,rfl⟩) ⟨_,rfl,bR q ?_⟩
   show (decide _ && _)=_
   rw [c2,vf]
   rfl
  ·show (decide _ && _)=_
   rw [c2]
   rfl
 ·cases d <;> first | rfl | cases c
theorem zJj {k:Nat} {f:Addr} {fd:FuncData} (F:zc K "is_room" "is_room" XW f fd) (B:Bl mg) (aM:Fn P w K mg base "is_row" ["value","many"] k (zJ (ZO))):zG P w K mg base zX (k + 1) f fd ["value","many"] (zJ (XN)):=by
 refine zu F zJU (λds R h=>by obtain ⟨d,n,k,rfl,_⟩:=h; rfl) λcdv A outer s H E hr=>⟨_,(zM (zV (wE (yG (xS wx rfl B.isinstance_ xm (zo (zA 0) (zo (wu (v:=.ty "list") (u:=.type "list") rfl B.list_ xn rfl) yJ))) (w6 ug)) (vT (zq (wR rfl) wY rfl B.all_ wS (zB (yQ (own:=["row"]) (caps:=[(1,"many")]) (yC (S:=zL XW) (N:=["value","many"]) rfl (by decide +kernel) rfl ⟨_,rfl⟩ rfl (by decide +kernel) (by decide +kernel)) rfl rfl yF (yS (zA 0)) (λ_ _ _ _=>(zt 0 (show (["row","many"]:List Str).Nodup by decide +kernel) rfl (Or.inl rfl))) (λ_ _ _ _=>(zP aM hr rfl (zB (zA 0) (zB (zA 1) zC))))) zC)))))),λds R h=>?_⟩
 obtain ⟨d,n,k,rfl,f,q⟩:=h
 refine ⟨f.no,λc=>?_,λc=>bR q ?_⟩
 ·obtain ⟨es,rfl,le,j,rfl,hj⟩:=f.lst_inv c
  refine zj.bool (ui n) (by omega) (λd m=>⟨d,n,j,rfl,hj d m,rfl⟩) ⟨_,rfl,bR q ?_⟩
  rw [vf]
  rfl
 ·cases d <;> first | rfl | cases c
theorem zKx {k:Nat} {f:Addr} {fd:FuncData} (F:zc K "single" "single" Uv f fd) (B:Bl mg) (aN:vd P w K mg base "unit" ["place","wide","number"] k (zJ (zQl)) (.int 1)):zG P w K mg base zX (k + 1) f fd ["place","many","number","bound"] (zJ (zLX)):=by
 refine zu F zKP (λds R h=>by obtain ⟨p,w,n,b,rfl,_⟩:=h; rfl) λcdv A outer s H E hr=>⟨_,(zM (zV (zh (xV ua uf rfl B.tuple_ vP (zB (zP aN.fn hr rfl (zB (zA 0) (zB (zA 1) (zB (zA 2) zC)))) zC)) (xU (zB (zA 3) zC))))),λds R h=>?_⟩
 obtain ⟨p,w,n,b,rfl,w0,w1,q⟩:=h
 refine ⟨p,w,n,rfl,w0,w1,k0,by rw [List.length_map,u8]; show _ + 1<=1000; omega,?_⟩
 unfold U at q
 rw [List.map_append] at q
 exact q
end
abbrev zN3:List Str:=["rows","nexts","steer","push","add","divisor"]
abbrev zOL:List Str:=["many","kept_pushes","kept_modes"]
abbrev vV (C:Addr) (m:MD):D:=.obj C zN3 [Rm m.rows,Tb m.nexts,L m.steer,Tb m.push,L m.add,.int m.div]
abbrev yD (b:Int × Int):D:=.tup [.int b.1,.int b.2]
abbrev vg (C CM:Addr) (n:Nat) (bs:List (Int × Int)) (ms:List MD):D:=.obj C zOL [.int (n:Int),.lst (bs.map yD),.lst (ms.map (vV CM))]
theorem uE {k:Nat} {ns:List Int} (h:ns.length<=900):Fw (k + 2) (L ns):=.lst (by rw [List.length_map]; exact h) zLS
theorem Uw {k:Nat} {ns:List Int} (h:ns.length<=900):Fw (k + 2) (U ns):=.tup (by rw [List.length_map]; exact h) zLS
theorem XX {k:Nat} {t:List (List Int)} (h:t.length<=900) (h2:∀ r∈t,r.length<=900):Fw (k + 3) (Tb t):=.lst (by rw [List.length_map]; exact h) λd m=>by
 obtain ⟨r,hr,rfl⟩:=List.mem_map.mp m
 exact uE (h2 r hr)
theorem ql {k:Nat} {t:List (List Int)} (h:t.length<=900) (h2:∀ r∈t,r.length<=900):Fw (k + 3) (Rm t):=.lst (by rw [List.length_map]; exact h) λd m=>by
 obtain ⟨r,hr,rfl⟩:=List.mem_map.mp m
 exact Uw (h2 r hr)
theorem zHp (ns:List Int):(ns.map D.int).all uh=true:=List.all_eq_true.mpr λd m=>by
 obtain ⟨i,_,rfl⟩:=List.mem_map.mp m
 rfl
theorem Ux {n:Int} {ns:List Int} (h:(ns.length:Int)=n):XM n (L ns)=true:=by
 show (decide _ && _)=true
 rw [List.length_map,decide_eq_true h,zHp]
 rfl
theorem zNl {h w:Int} {t:List (List Int)} (e:(t.length:Int)=h) (k:∀ r∈t,(r.length:Int)=w):ZM h w (Tb t)=true:=by
 show (decide _ && _)=true
 rw [List.length_map,decide_eq_true e]
 exact List.all_eq_true.mpr λd m=>by
  obtain ⟨r,hr,rfl⟩:=List.mem_map.mp m
  exact Ux (k r hr)
theorem zPf {n:Int} {ns:List Int} (h:(ns.length:Int)=n + 1):ui n (U ns)=true:=by
 show (decide _ && _)=true
 rw [List.length_map,decide_eq_true h,zHp]
 rfl
theorem XY {n:Int} {t:List (List Int)} (k:∀ r∈t,(r.length:Int)=n + 1):zPg n (Rm t)=true:=List.all_eq_true.mpr λd m=>by
 obtain ⟨r,hr,rfl⟩:=List.mem_map.mp m
 exact zPf (k r hr)
def zN8 (C:Addr):FL:=λds R=>∃ r n s p a d,ds=[r,n,s,p,a,d]/\Fw 5 r/\Fw 5 n/\Fw 5 s/\Fw 5 p/\Fw 5 a/\R (.obj C zN3 [r,n,s,p,a,d])
def zLf:FL:=λds R=>∃ b:Int × Int,ds=[yD b]/\b.1<=b.2/\R (.bool true)
def zLg (C:Addr):FL:=λds R=>∃ (m:MD) (n p:Nat),ds=[vV C m,.int (n:Int),.int (p:Int)]/\xT m n p/\R (.bool true)
def zI0 (C:Addr):FL:=λds R=>∃ (n:Nat) (bs:List (Int × Int)) (ms:List MD),ds=[.int (n:Int),.lst (bs.map yD),.lst (ms.map (vV C))]/\wU n bs ms/\R (.bool true)
def zLW (C CM:Addr):FL:=λds R=>∃ (n:Nat) (bs:List (Int × Int)) (ms:List MD),ds=[.int (n:Int),.lst (bs.map yD),.lst (ms.map (vV CM))]/\wU n bs ms/\R (vg C CM n bs ms)
def Uy (C CM:Addr):FL:=λds R=>∃ n bs ms,ds=[vg C CM n bs ms]/\R (.lst (bs.map yD))
def zN7 (C CM:Addr):FL:=λds R=>∃ n bs ms,ds=[vg C CM n bs ms]/\R (.lst (ms.map (vV CM)))
def XZ (ms:List MD):Bool:=ms.all λm=>m.steer.all λx=>decide (x=0)
def zGB (C:Addr):FL:=λds R=>∃ m,ds=[vV C m]/\m.steer.length<=900/\R (.bool (m.steer.all λx=>decide (x=0)))
def zLi (C CM:Addr):FL:=λds R=>∃ n bs ms,ds=[vg C CM n bs ms]/\wU n bs ms/\R (.bool (XZ ms))
def zGC (C CM:Addr):FL:=λds R=>∃ n bs ms,ds=[vg C CM n bs ms]/\wU n bs ms/\XZ ms=true/\R .non
theorem zQ2 {ns:List Int} {G:D->(D->Prop)->Prop} {R:D->Prop} (g:Int->Bool) (few:ns.length<=1000) (h:∀ n,n∈ns->G (.int n) λe=>e=.bool (g n)) (q:R (.lst ((ns.map g).map D.bool))):zj (ns.map D.int) G R:=
 wn D.int zx (λ_=>rfl) (λn=>.bool (g n)) few h (by rw [List.map_map] at q; exact q)
def xP (d:D):MD:=match d with
 | .obj _ _ [.lst r,.lst n,s,.lst p,a,d]=>⟨r.map zf,n.map zf,zf s,p.map zf,zf a,zx d⟩
 | _=>⟨[],[],[],[],[],0⟩
theorem zNj (t:List (List Int)):(t.map L).map zf=t:=by
 rw [List.map_map,show (zf ∘ L)=id from funext λr=>jv r]
 exact List.map_id _
theorem zPJ (t:List (List Int)):(t.map U).map zf=t:=by
 rw [List.map_map,show (zf ∘ U)=id from funext λr=>uj r]
 exact List.map_id _
theorem Uz (C:Addr) (m:MD):xP (vV C m)=m:=by
 show MD.mk ((m.rows.map U).map zf) ((m.nexts.map L).map zf) (zf (L m.steer)) ((m.push.map L).map zf) (zf (L m.add)) m.div=m
 rw [zPJ,zNj,zNj,jv,jv]
def ZS (d:D):Int × Int:=match d with
 | .tup [x,y]=>(zx x,zx y)
 | _=>(0,0)
theorem Fw.mono0 {j:Nat} {a:D} (h:Fw j a):∀ {k:Nat},j<=k->Fw k a:=by
 induction h with
 | lst l _ ih=>
  intro k hk
  obtain ⟨m,rfl⟩:∃ m,k=m + 1:=⟨k - 1,by omega⟩
  exact .lst l λa ha=>ih a ha (by omega)
 | tup l _ ih=>
  intro k hk
  obtain ⟨m,rfl⟩:∃ m,k=m + 1:=⟨k - 1,by omega⟩
  exact .tup l λa ha=>ih a ha (by omega)
 | int i=>intro k hk; obtain ⟨m,rfl⟩:∃ m,k=m + 1:=⟨k - 1,by omega⟩; exact .int i
 | bool i=>intro k hk; obtain ⟨m,rfl⟩:∃ m,k=m + 1:=⟨k - 1,by omega⟩; exact .bool i
 | non=>intro k hk; obtain ⟨m,rfl⟩:∃ m,k=m + 1:=⟨k - 1,by omega⟩; exact .non
 | str i=>intro k hk; obtain ⟨m,rfl⟩:∃ m,k=m + 1:=⟨k - 1,by omega⟩; exact .str i
structure MBd (m:MD):Prop where
 nexts:∀ r∈m.nexts,∀ x∈r,Bd 9000 x
 push:∀ r∈m.push,∀ x∈r,Bd 9000 x
 add:∀ x∈m.add,Bd 9000 x
 div:Bd 9000 m.div
theorem Fw.mono {j k:Nat} {a:D} (h:Fw j a) (l:j<=k:=by decide):Fw k a:=h.mono0 l
section
variable {P:Program} {w:World} {K:PySem.W.Frag} {mg:Str->Option Value} {base:Heap}
abbrev U0:Stmt:=jU (zk 38) 0
theorem zEs:zb ["self","rows","nexts","steer","push","add","divisor"] ["self","rows","nexts","steer","push","add","divisor"] (zL U0):=.a
abbrev U1:Stmt:=zk 41
theorem zJV:zb ["value"] ["value"] (zL U1):=.a
abbrev U2:Stmt:=zk 42
theorem zJW:zb ["value","many","wide"] ["value","many","wide"] (zL U2):=.a
abbrev ZT:Stmt:=zk 40
theorem zHz:zb ["many","pushes","modes"] ["many","pushes","modes"] (zL ZT):=.a
abbrev U3:Stmt:=jU (zk 39) 0
theorem zEN:zb ["self","many","pushes","modes"] ["self","many","pushes","modes"] (zL U3):=.a
abbrev U4:Stmt:=jU (zk 39) 1
theorem zFJ:zb ["self"] ["self"] (zL U4):=.a
abbrev U5:Stmt:=jU (zk 39) 2
theorem zF0:zb ["self"] ["self"] (zL U5):=.a
abbrev Xa:Stmt:=zk 43
theorem zFH:zb ["mode"] ["mode"] (zL Xa):=.a
abbrev Xb:Stmt:=jU (zk 39) 3
theorem zD2:zb ["self"] ["self"] (zL Xb):=.a
abbrev U6:Stmt:=zk 44
theorem zGR:zb ["thing"] ["thing"] (zL U6):=.a
variable {aClaim aSettles aComes ag ah aPaper aRooms aFalls:Addr} (TClaim:zE K mg "Claim" aClaim) (AClaim:wc K aClaim) (TSettles:zE K mg "Settles" aSettles) (ASettles:wd K aSettles) (TComes:zE K mg "Comes" aComes) (AComes:we K aComes) (aa:zE K mg "Mode" ag) (ab:wf K ag) (ac:zE K mg "Thing" ah) (ae:wg K ah) (TPaper:zE K mg "Paper" aPaper) (APaper:wj K aPaper) (TRooms:zE K mg "Rooms" aRooms) (ARooms:wl K aRooms) (TFalls:zE K mg "Falls" aFalls) (AFalls:wm K aFalls)
include TClaim AClaim TSettles ASettles TComes AComes aa ab ac ae TPaper APaper TRooms ARooms TFalls AFalls
theorem zEv {k:Nat} {f:Addr} {fd:FuncData} (F:zc K "__init__" "Mode.__init__" U0 f fd) (B:Bl mg) (ai:vd P w K mg base "copied" ["value","depth"] k (zJ (ju 6)) (.int 5)):zG P w K mg base zX (k + 1) f fd ["self","rows","nexts","steer","push","add","divisor"] (w8 ag (zN8 ag)):=by
 refine Uh F zEs (λds R h=>by obtain ⟨r,n,s,p,a,d,rfl,_⟩:=h; rfl) λcdv A outer s H E hr=>⟨_,(zK (yA (wO (yU 0) (uD (.int 5) (λ_=>.int 5) ai hr rfl (zB (zA 1) zC)) rfl) wa)
  (zK (yA (wO (yU 0) (uD (.int 5) (λ_=>.int 5) ai hr rfl (zB (zA 2) zC)) rfl) wa)
  (zK (yA (wO (yU 0) (uD (.int 5) (λ_=>.int 5) ai hr rfl (zB (zA 3) zC)) rfl) wa)
  (zK (yA (wO (yU 0) (uD (.int 5) (λ_=>.int 5) ai hr rfl (zB (zA 4) zC)) rfl) wa)
  (zK (yA (wO (yU 0) (uD (.int 5) (λ_=>.int 5) ai hr rfl (zB (zA 5) zC)) rfl) wa)
  (zM (yA (wO (yU 0) (zA 6) rfl) wa))))))),λo ds R h=>?_⟩
 obtain ⟨r,n,s,p,a,d,rfl,f1,f2,f3,f4,f5,q⟩:=h
 refine ⟨r,5,rfl,f1.mono,⟨aa.cl,ab.n_rows⟩,by decide +kernel,by decide,rfl,?_⟩
 refine ⟨n,5,rfl,f2.mono,⟨aa.cl,ab.n_nexts⟩,by decide +kernel,by decide,rfl,?_⟩
 refine ⟨s,5,rfl,f3.mono,⟨aa.cl,ab.n_steer⟩,by decide +kernel,by decide,rfl,?_⟩
 refine ⟨p,5,rfl,f4.mono,⟨aa.cl,ab.n_push⟩,by decide +kernel,by decide,rfl,?_⟩
 refine ⟨a,5,rfl,f5.mono,⟨aa.cl,ab.n_add⟩,by decide +kernel,by decide,rfl,?_⟩
 exact ⟨⟨aa.cl,ab.n_divisor⟩,by decide +kernel,by decide,rfl,rfl,q⟩
theorem zJk {k:Nat} {f:Addr} {fd:FuncData} (F:zc K "is_push" "is_push" U1 f fd) (B:Bl mg) (aj:Fn P w K mg base "is_whole" ["thing"] k (zJ (jt))):zG P w K mg base zX (k + 1) f fd ["value"] (zJ (zLf)):=by
 refine zu F zJV (λds R h=>by obtain ⟨b,rfl,_⟩:=h; rfl) λcdv A outer s H E hr=>⟨_,(zK (yI (PW.pt (wM (xD (yb (yG (xS wx rfl B.isinstance_ xm (zo (zA 0) (zo (wu (v:=.ty "tuple") (u:=.type "tuple") rfl B.tuple_ vP rfl) yJ))) (w6 k8)))) (w4 (UG hr.units (zq yV yX rfl B.len_ yW (zB (zA 0) zC)) zD)))) (zM (zV xb)) yH)
  (zM (zV (wE (zP aj hr rfl (zB (zR (zA 0) zD (λ_ _=>rfl)) zC)) (wE (zP aj hr rfl (zB (zR (zA 0) zD (λ_ _=>rfl)) zC)) (vT (UD (zR (zA 0) zD (λ_ _=>rfl)) (zR (zA 0) zD (λ_ _=>rfl))))))))),λds R h=>?_⟩
 obtain ⟨b,rfl,h,q⟩:=h
 refine ⟨rfl,wF rfl (wF rfl ?_)⟩
 refine ⟨_,rfl,_,rfl,rfl,wT rfl ?_⟩
 refine ⟨_,rfl,_,rfl,rfl,wT rfl ?_⟩
 exact ⟨_,rfl,_,rfl,bR q (decide_eq_true h).symm⟩
theorem zJl {k:Nat} {f:Addr} {fd:FuncData} (F:zc K "is_mode" "is_mode" U2 f fd) (B:Bl mg) (au:Fn P w K mg base "is_room" ["value","many"] k (zJ (XN))) (aK:Fn P w K mg base "is_table" ["value","tall","wide"] k (zJ (ZN))) (aB:Fn P w K mg base "is_numbers" ["value","count"] k (zJ (Ur))) (aj:Fn P w K mg base "is_whole" ["thing"] k (zJ (jt))):zG P w K mg base zX (k + 1) f fd ["value","many","wide"] (zJ (zLg ag)):=by
 refine zu F zJW (λds R h=>by obtain ⟨m,n,p,rfl,_⟩:=h; rfl) λcdv A outer s H E hr=>⟨_,(zK (yI (PW.pt (wM (xD (yb (yG (xS gu rfl B.isinstance_ xm (zo (zA 0) (zo (gr aa rfl) yJ))) ZC))) (w4 (xD (yb (zP au hr rfl (zB (yK K (zA 0) rfl) (zB (zA 1) zC)))))))) (zM (zV xb)) yH)
  (zK (yI (PW.pt (wM (xD (yb (zP aK hr rfl (zB (yK K (zA 0) rfl) (zB (zA 1) (zB (zA 1) zC)))))) (w4 (xD (yb (zP aK hr rfl (zB (yK K (zA 0) rfl) (zB (zA 1) (zB (zA 2) zC))))))))) (zM (zV xb)) yH)
  (zK (yI (PW.pt (wM (xD (yb (zP aB hr rfl (zB (yK K (zA 0) rfl) (zB (zA 1) zC))))) (w4 (xD (yb (zP aB hr rfl (zB (yK K (zA 0) rfl) (zB (zA 1) zC)))))))) (zM (zV xb)) yH)
  (zM (zV (wE (zP aj hr rfl (zB (yK K (zA 0) rfl) zC)) (vT (Ks (yK K (zA 0) rfl) zD)))))))),λds R h=>?_⟩
 obtain ⟨m,n,p,rfl,h,q⟩:=h
 have n3:=h.n3
 have p6:=h.p6
 refine ⟨⟨_,_,aa⟩,_,W4,wF rfl ?_⟩
 refine ⟨⟨aa.cl,ab.n_rows⟩,_,rfl,_,_,3,rfl,ql h.few (λr hr=>by rw [h.rows r hr]; omega),wF (by rw [XY λr hr=>by rw [h.rows r hr]; rfl]; rfl) ?_⟩
 refine ⟨⟨aa.cl,ab.n_nexts⟩,_,rfl,_,_,_,3,rfl,XX (by rw [h.nexts.1]; omega) (λr hr=>by rw [h.nexts.2 r hr]; omega),wF (by rw [zNl (by rw [h.nexts.1]) (λr hr=>by rw [h.nexts.2 r hr])]; rfl) ?_⟩
 refine ⟨⟨aa.cl,ab.n_push⟩,_,rfl,_,_,_,3,rfl,XX (by rw [h.push.1]; omega) (λr hr=>by rw [h.push.2 r hr]; omega),wF (by rw [zNl (by rw [h.push.1]) (λr hr=>by rw [h.push.2 r hr])]; rfl) ?_⟩
 refine ⟨⟨aa.cl,ab.n_steer⟩,_,rfl,_,_,2,rfl,uE (by rw [h.steer]; omega),wF (by rw [Ux (by rw [h.steer])]; rfl) ?_⟩
 refine ⟨⟨aa.cl,ab.n_add⟩,_,rfl,_,_,2,rfl,uE (by rw [h.add]; omega),wF (by rw [Ux (by rw [h.add])]; rfl) ?_⟩
 refine ⟨⟨aa.cl,ab.n_divisor⟩,_,rfl,_,rfl,rfl,wT rfl ?_⟩
 exact ⟨⟨aa.cl,ab.n_divisor⟩,_,rfl,bR q (decide_eq_true h.div).symm⟩
theorem zIG {k:Nat} {f:Addr} {fd:FuncData} (F:zc K "is_sound" "is_sound" ZT f fd) (B:Bl mg) (aj:Fn P w K mg base "is_whole" ["thing"] k (zJ (jt))) (aO:Fn P w K mg base "is_push" ["value"] k (zJ (zLf))) (aP:Fn P w K mg base "is_mode" ["value","many","wide"] k (zJ (zLg ag))):zG P w K mg base zX (k + 1) f fd ["many","pushes","modes"] (zJ (zI0 ag)):=by
 refine zu F zHz (λds R h=>by obtain ⟨n,bs,ms,rfl,_⟩:=h; rfl) λcdv A outer s H E hr=>⟨_,(zK (yI (PW.pt (wM (xD (yb (zP aj hr rfl (zB (zA 0) zC)))) (wM (UH (zA 0) zD) (w4 (kP (zA 0) (UA rfl B.MOST_NUMBERS_)))))) (zM (zV xb)) yH)
  (zK (yI (PW.pt (wM (xD (yb (yG (xS wx rfl B.isinstance_ xm (zo (zA 1) (zo (wu (v:=.ty "list") (u:=.type "list") rfl B.list_ xn rfl) yJ))) (w6 ug)))) (w4 (xD (yb (zq (wR rfl) wY rfl B.all_ wS (zB (yQ (own:=["push"]) (caps:=[]) (yC (S:=zL ZT) (N:=["many","pushes","modes"]) rfl (by decide +kernel) rfl ⟨_,rfl⟩ rfl (by decide +kernel) (by decide +kernel)) rfl rfl yF (yS (zA 1)) (λ_ _ _ _=>(zt 0 (show (["push"]:List Str).Nodup by decide +kernel) rfl (Or.inl rfl))) (λ_ _ _ _=>(zP aO hr rfl (zB (zA 0) zC)))) zC))))))) (zM (zV xb)) yH)
  (zK (yI (PW.pt (wM (xD (yb (yG (xS wx rfl B.isinstance_ xm (zo (zA 2) (zo (wu (v:=.ty "list") (u:=.type "list") rfl B.list_ xn rfl) yJ))) (w6 ug)))) (w4 (wz hr.units (zq yV yX rfl B.len_ yW (zB (zA 2) zC)) zD)))) (zM (zV xb)) yH)
  (zM (zV (zq (wR rfl) wY rfl B.all_ wS (zB (yQ (own:=["mode"]) (caps:=[(0,"many"),(1,"pushes")]) (yC (S:=zL ZT) (N:=["many","pushes","modes"]) rfl (by decide +kernel) rfl ⟨_,rfl⟩ rfl (by decide +kernel) (by decide +kernel)) rfl rfl yF (yS (zA 2)) (λ_ _ _ _=>(zt 0 (show (["mode","many","pushes"]:List Str).Nodup by decide +kernel) rfl (Or.inl rfl))) (λ_ _ _ _=>(zP aP hr rfl (zB (zA 0) (zB (zA 1) (zB (zq yV yX rfl B.len_ yW (zB (zA 2) zC)) zC)))))) zC))))))),λds R h=>?_⟩
 obtain ⟨n,bs,ms,rfl,h,q⟩:=h
 have n1:=h.n1
 have n3:=h.n3
 have m40:=h.m40
 have m1:=h.m1
 have b6:=h.b6
 refine ⟨_,rfl,rfl,wF rfl (wF (decide_eq_false (by omega)) (wF (decide_eq_false (by omega)) ?_))⟩
 refine ⟨rfl,wF rfl ?_⟩
 refine wn yD ZS (λ_=>rfl) (λ_=>.bool true) (by omega) (λb hb=>⟨b,rfl,h.bok b hb,rfl⟩) ⟨bs.map λ_=>true,by rw [List.map_map]; rfl,?_⟩
 rw [show (bs.map λ_=>true).all id=true from List.all_eq_true.mpr λx hx=>by obtain ⟨_,_,rfl⟩:=List.mem_map.mp hx; rfl]
 refine wF rfl ?_
 refine ⟨rfl,wF rfl (wF (decide_eq_false (by rw [List.length_map]; omega)) ?_)⟩
 refine wn (vV ag) xP (Uz _) (λ_=>.bool true) (by omega) (λm hm=>⟨m,n,bs.length,by rw [List.length_map],h.mok m hm,rfl⟩) ⟨ms.map λ_=>true,by rw [List.map_map]; rfl,bR q ?_⟩
 exact (List.all_eq_true.mpr λx hx=>by obtain ⟨_,_,rfl⟩:=List.mem_map.mp hx; rfl).symm
theorem zEa {k:Nat} {f:Addr} {fd:FuncData} (F:zc K "__init__" "Thing.__init__" U3 f fd) (B:Bl mg) (aQ:Fn P w K mg base "is_sound" ["many","pushes","modes"] k (zJ (zI0 ag))):zG P w K mg base zX (k + 1) f fd ["self","many","pushes","modes"] (w8 ah (zLW ah ag)):=by
 refine Uh F zEN (λds R h=>by obtain ⟨n,bs,ms,rfl,_⟩:=h; rfl) λcdv A outer s H E hr=>⟨_,(zK (yI (xD (yb (zP aQ hr rfl (zB (zA 1) (zB (zA 2) (zB (zA 3) zC)))))) (zM Ua) yH)
  (zK (yI (PW.pt (wM (kP (zq yV yX rfl B.len_ yW (zB (zA 2) zC)) (UA rfl B.MOST_PUSHES_)) (w4 (kP (zq yV yX rfl B.len_ yW (zB (zA 3) zC)) (UA rfl B.MOST_MODES_))))) (zM Ua) yH)
  (zK (yA (wO (yU 0) (zA 1) rfl) wa)
  (zK (yA (wO (yU 0) (xV vk vp rfl B.list_ xn (zB (zA 2) zC)) rfl) wa)
  (zM (yA (wO (yU 0) (xV vk vp rfl B.list_ xn (zB (zA 3) zC)) rfl) wa)))))),λo ds R h=>?_⟩
 obtain ⟨n,bs,ms,rfl,h,q⟩:=h
 have m40:=h.m40
 have b6:=h.b6
 refine ⟨n,bs,ms,rfl,h,wF rfl ?_⟩
 refine wF (decide_eq_false (by rw [List.length_map]; omega)) (wF (decide_eq_false (by rw [List.length_map]; omega)) ?_)
 refine ⟨⟨ac.cl,ae.n_many⟩,by decide +kernel,by decide,rfl,?_⟩
 refine ⟨⟨ac.cl,ae.n_kept_pushes⟩,by decide +kernel,by decide,rfl,?_⟩
 exact ⟨⟨ac.cl,ae.n_kept_modes⟩,by decide +kernel,by decide,rfl,rfl,q⟩
theorem zFc {k:Nat} {f:Addr} {fd:FuncData} (F:zc K "pushes" "Thing.pushes" U4 f fd) (B:Bl mg):zG P w K mg base zX (k + 1) f fd ["self"] (zJ (Uy ah ag)):=by
 refine zu F zFJ (λds R h=>by obtain ⟨n,bs,ms,rfl,_⟩:=h; rfl) λcdv A outer s H E hr=>⟨_,(zM (zV (xV vk vp rfl B.list_ xn (zB (yK K (zA 0) rfl) zC)))),λds R h=>?_⟩
 obtain ⟨n,bs,ms,rfl,q⟩:=h
 exact ⟨⟨ac.cl,ae.n_kept_pushes⟩,_,rfl,q⟩
theorem zF4 {k:Nat} {f:Addr} {fd:FuncData} (F:zc K "modes" "Thing.modes" U5 f fd) (B:Bl mg):zG P w K mg base zX (k + 1) f fd ["self"] (zJ (zN7 ah ag)):=by
 refine zu F zF0 (λds R h=>by obtain ⟨n,bs,ms,rfl,_⟩:=h; rfl) λcdv A outer s H E hr=>⟨_,(zM (zV (xV vk vp rfl B.list_ xn (zB (yK K (zA 0) rfl) zC)))),λds R h=>?_⟩
 obtain ⟨n,bs,ms,rfl,q⟩:=h
 exact ⟨⟨ac.cl,ae.n_kept_modes⟩,_,rfl,q⟩
theorem zFa {k:Nat} {f:Addr} {fd:FuncData} (F:zc K "is_unsteered" "is_unsteered" Xa f fd) (B:Bl mg):zG P w K mg base zX (k + 1) f fd ["mode"] (zJ (zGB ag)):=by
 refine zu F zFH (λds R h=>by obtain ⟨m,rfl,_⟩:=h; rfl) λcdv A outer s H E hr=>⟨_,(zM (zV (zq (wR rfl) wY rfl B.all_ wS (zB (yQ (own:=["number"]) (caps:=[]) (yC (S:=zL Xa) (N:=["mode"]) rfl (by decide +kernel) rfl ⟨0,rfl⟩ rfl (by decide +kernel) (by decide +kernel)) rfl rfl yF (yS (yK K (zA 0) rfl)) (λ_ _ _ _=>(zt 0 (show (["number"]:List Str).Nodup by decide +kernel) rfl (Or.inl rfl))) (λ_ _ _ _=>(uR hr.units (zA 0) zD))) zC)))),λds R h=>?_⟩
 obtain ⟨m,rfl,h,q⟩:=h
 refine ⟨⟨aa.cl,ab.n_steer⟩,_,rfl,?_⟩
 refine zQ2 (λx=>decide (x=0)) (by omega) (λn hn=>rfl) ⟨_,rfl,bR q ?_⟩
 rw [vf]
theorem zEB {k:Nat} {f:Addr} {fd:FuncData} (F:zc K "is_closed" "Thing.is_closed" Xb f fd) (B:Bl mg) (aR:Fn P w K mg base "is_unsteered" ["mode"] k (zJ (zGB ag))):zG P w K mg base zX (k + 1) f fd ["self"] (zJ (zLi ah ag)):=by
 refine zu F zD2 (λds R h=>by obtain ⟨n,bs,ms,rfl,_⟩:=h; rfl) λcdv A outer s H E hr=>⟨_,(zM (zV (zq (wR rfl) wY rfl B.all_ wS (zB (yQ (own:=["mode"]) (caps:=[]) (yC (S:=zL Xb) (N:=["self"]) rfl (by decide +kernel) rfl ⟨0,rfl⟩ rfl (by decide +kernel) (by decide +kernel)) rfl rfl yF (yS (yK K (zA 0) rfl)) (λ_ _ _ _=>(zt 0 (show (["mode"]:List Str).Nodup by decide +kernel) rfl (Or.inl rfl))) (λ_ _ _ _=>(zP aR hr rfl (zB (zA 0) zC)))) zC)))),λds R h=>?_⟩
 obtain ⟨n,bs,ms,rfl,h,q⟩:=h
 refine ⟨⟨ac.cl,ae.n_kept_modes⟩,_,rfl,?_⟩
 have m40:=h.m40
 refine wn (vV ag) xP (Uz _) (λm=>.bool (m.steer.all λx=>decide (x=0))) (by omega) (λm hm=>⟨m,rfl,by have:=(h.mok m hm).steer; have:=h.n3; omega,rfl⟩) ⟨ms.map λm=>m.steer.all λx=>decide (x=0),by rw [List.map_map]; rfl,bR q ?_⟩
 rw [vf]
 rfl
theorem zGm {k:Nat} {f:Addr} {fd:FuncData} (F:zc K "ask_closed" "ask_closed" U6 f fd) (B:Bl mg) (aS:uO P w K mg base ah "is_closed" ["self"] k (zJ (zLi ah ag))):zG P w K mg base zX (k + 1) f fd ["thing"] (zJ (zGC ah ag)):=by
 refine zu F zGR (λds R h=>by obtain ⟨n,bs,ms,rfl,_⟩:=h; rfl) λcdv A outer s H E hr=>⟨_,(zM (yI (xD (yb (XG aS ac hr (zA 0)))) (zM Ua) yH)),λds R h=>?_⟩
 obtain ⟨n,bs,ms,rfl,h,c,q⟩:=h
 exact ⟨rfl,by decide +kernel,n,bs,ms,rfl,h,wF (by rw [c]; rfl) q⟩
end
def vx (n p:Nat) (ws:List Int) (b:Int) (m:MD):List Int:=((List.range n).map (zr ws m.nexts)++(List.range p).map (zr ws m.push))++[m.div * b - yx ws m.add]
theorem ZU:∀ (rows:List (List Int)) (nums:List Int) (j:Nat),vm rows nums j=zr nums rows j
 | [],nums,j=>by unfold vm zr; simp
 | r :: rows,[],j=>by unfold vm zr; simp
 | r :: rows,x :: nums,j=>by rw [zMo,Ki,ZU rows nums j,Int.mul_comm]
def vy:D->Bool
 | .int i=>decide (0<=i)
 | _=>false
def xF (c:Nat):D->Bool
 | .tup [x,.lst ys]=>vy x && (decide (ys.length=c) && ys.all vy)
 | _=>false
def jF (rows:List (List Int)) (tw:List Int) (n:Nat):D->Bool
 | .tup [.int o,.lst ys]=>xF rows.length (.tup [.int o,.lst ys]) && qY rows tw o (ys.map zx) n
 | _=>false
def jw (a:D):Prop:=∀ o ys,a=.tup [.int o,.lst ys]->Bd 1000 o/\∀ y∈ys,Bd 1000 (zx y)
structure vF (rows:List (List Int)) (n:Nat):Prop where
 row:∀ r∈rows,r.length=n + 1/\∀ x∈r,Bd 1000 x
 few:rows.length<=500
 nar:n<=100
theorem zGA:∀ {ys:List D},ys.all vy=true->∃ ns:List Int,ys=ns.map .int/\ys.map zx=ns/\∀ x∈ns,0<=x
 | [],_=>⟨[],rfl,rfl,λ_ h=>by cases h⟩
 | a :: ys,h=>by
  rw [List.all_cons,Bool.and_eq_true] at h
  obtain ⟨ns,rfl,e,h0⟩:=zGA h.2
  cases a with
  | int i=>exact ⟨i :: ns,rfl,by rw [List.map_cons,e]; rfl,λx hx=>(List.mem_cons.mp hx).elim (λz=>z ▸ of_decide_eq_true h.1) (h0 x)⟩
  | _=>cases h.1
theorem zIm {c:Nat} {a:D} (h:xF c a=true):∃ (o:Int) (ns:List Int),a=.tup [.int o,L ns]/\0<=o/\ns.length=c/\∀ x∈ns,0<=x:=by
 unfold xF at h
 split at h
 ·rename_i x ys
  rw [Bool.and_eq_true,Bool.and_eq_true,decide_eq_true_iff] at h
  obtain ⟨ns,rfl,_,h0⟩:=zGA h.2.2
  cases x with
  | int o=>exact ⟨o,ns,rfl,of_decide_eq_true h.1,by have:=h.2.1; rw [List.length_map] at this; exact this,h0⟩
  | _=>cases h.1
 ·cases h
theorem zIl {rows:List (List Int)} {tw:List Int} {n:Nat} {a:D} (h:xF rows.length a=false):jF rows tw n a=false:=by
 unfold jF
 split
 ·rw [h]; rfl
 ·rfl
theorem zNB (ns:List Int):(ns.map D.int).map zx=ns:=by rw [List.map_map]; exact List.map_id _
theorem zHE {rows:List (List Int)} {tw ns:List Int} {n:Nat} {o:Int} (h:xF rows.length (.tup [.int o,L ns])=true):jF rows tw n (.tup [.int o,L ns])=qY rows tw o ns n:=by
 show (xF rows.length (.tup [.int o,.lst (ns.map .int)]) && qY rows tw o ((ns.map D.int).map zx) n)=_
 rw [show xF rows.length (.tup [.int o,.lst (ns.map .int)])=true from h,zNB]
 rfl
def qm (c:Int):D->Bool
 | .lst as=>decide ((as.length:Int)=c)
 | _=>false
def uF (rows tws:List (List Int)) (n:Nat):D->Bool
 | .lst as=>decide ((as.length:Int)=(tws.length:Int)) && (tws.zip as).all λp=>jF rows p.1 n p.2
 | _=>false
def xG (a:D):Prop:=∀ as,a=.lst as->∀ x∈as,jw x
theorem Xc {c:Int} {a:D} (h:qm c a=true):∃ as,a=.lst as/\(as.length:Int)=c:=by
 cases a with
 | lst as=>exact ⟨as,rfl,of_decide_eq_true h⟩
 | _=>cases h
theorem zNT {rows tws:List (List Int)} {n:Nat} {a:D} (h:qm (tws.length:Int) a=false):uF rows tws n a=false:=by
 cases a with
 | lst as=>show (decide _ && _)=false; rw [show decide ((as.length:Int)=(tws.length:Int))=false from h]; rfl
 | _=>rfl
theorem xu {e:Nat}:Bd e (0:Int):=by
 show (0:Int).natAbs < 2 ^ e
 exact Nat.two_pow_pos e
theorem U7 {e:Nat} {r:List Int} (h:∀ x∈r,Bd e x) (j:Nat):Bd e (r.getD j 0):=by
 rw [List.getD_eq_getElem?_getD]
 cases hj:r[j]? with
 | none=>exact xu
 | some x=>exact h x (List.mem_of_getElem? hj)
theorem U8 {a b:Nat}:∀ {ns os:List Int},(∀ x∈ns,Bd a x)->(∀ x∈os,Bd b x)->Bd (a + b + ns.length + 1) (yx ns os)
 | [],_,_,_=>by unfold yx; exact xu
 | _ :: _,[],_,_=>by unfold yx; exact xu
 | n :: ns,o :: os,hn,ho=>by
  have i:=U8 (a:=a) (b:=b) (ns:=ns) (os:=os) (λq m=>hn q (List.mem_cons_of_mem _ m)) (λq m=>ho q (List.mem_cons_of_mem _ m))
  rw [List.length_cons]
  show Bd _ (n * o + yx ns os)
  exact (((hn n List.mem_cons_self).mul (ho o List.mem_cons_self)).mono (show a + b<=a + b + ns.length + 1 by omega) |>.add i).mono (by omega)
theorem zL0 {a b j:Nat} {ns:List Int} {N:List (List Int)} (h:∀ x∈ns,Bd a x) (hN:∀ r∈N,∀ x∈r,Bd b x):Bd (a + b + ns.length + 1) (zr ns N j):=by
 rw [Kj]
 refine U8 h λx hx=>?_
 obtain ⟨r,hr,rfl⟩:=List.mem_map.mp hx
 exact U7 (hN r hr) j
structure MS (m:MD):Prop where
 nexts:∀ r∈m.nexts,∀ x∈r,Bd 300 x
 push:∀ r∈m.push,∀ x∈r,Bd 300 x
 add:∀ x∈m.add,Bd 300 x
 div:Bd 300 m.div
 rows:∀ r∈m.rows,∀ x∈r,Bd 300 x
 few:m.rows.length<=100
structure wo (room:List (List Int)) (n:Nat):Prop where
 row:∀ r∈room,r.length=n + 1/\∀ x∈r,Bd 300 x
 few:room.length<=100
theorem wo.rw {room:List (List Int)} {n:Nat} (h:wo room n) (n3:n<=3):vF room n:=⟨λr hr=>⟨(h.row r hr).1,λx hx=>((h.row r hr).2 x hx).mono⟩,by have:=h.few; omega,by omega⟩
theorem zLx {e n:Nat} {pl nu:Int} (h:Bd e nu):∀ x∈y6 pl n nu,Bd e x:=λx hx=>by
 obtain ⟨i,_,rfl⟩:=List.mem_map.mp hx
 show Bd e (if (i:Int)=pl then nu else 0)
 split
 ·exact h
 ·exact xu
theorem zMY {n:Nat} {bs:List (Int × Int)} {rows:List (List Int)} (h:∀ r∈rows,r.length=n + 1/\∀ x∈r,Bd 1000 x) (few:rows.length<=400) (n3:n<=3) (b6:bs.length<=6) (bb:∀ b∈bs,Bd 300 b.1/\Bd 300 b.2):vF (kF n bs rows) (n + bs.length):=by
 have b1:Bd 4 (1:Int):=Bd.lit
 refine ⟨λr hr=>?_,?_,by omega⟩
 ·rcases List.mem_append.mp hr with hr | hr
  ·obtain ⟨q,hq,rfl⟩:=List.mem_map.mp hr
   obtain ⟨lq,bq⟩:=h q hq
   refine ⟨by unfold wy; simp; omega,λx hx=>?_⟩
   unfold wy at hx
   rcases List.mem_append.mp hx with hx | hx
   ·rcases List.mem_append.mp hx with hx | hx
    ·exact bq x (List.mem_of_mem_take hx)
    ·rw [List.eq_of_mem_replicate hx]; exact xu
   ·rw [List.mem_singleton.mp hx]; exact U7 bq n
  ·obtain ⟨l,hl,hr⟩:=List.mem_flatten.mp hr
   obtain ⟨i,hi,rfl⟩:=List.mem_mapIdx.mp hl
   have hb:=bb _ (List.getElem_mem hi)
   have key:∀ (y c:Int),Bd 1000 y->Bd 1000 c->(y6 ((n + i:Nat):Int) (n + bs.length) y++[c]).length=n + bs.length + 1/\∀ x∈y6 ((n + i:Nat):Int) (n + bs.length) y++[c],Bd 1000 x:=λy c hy hc=>⟨by rw [List.length_append,u8]; rfl,λx hx=>by
    rcases List.mem_append.mp hx with hx | hx
    ·exact zLx hy x hx
    ·rw [List.mem_singleton.mp hx]; exact hc⟩
   rcases List.mem_cons.mp hr with rfl | hr
   ·exact key _ _ b1.mono (hb.2.mono)
   ·rw [List.mem_singleton.mp hr]
    exact key _ _ (b1.neg.mono) (hb.1.neg.mono)
 ·unfold kF
  rw [List.length_append,List.length_map]
  have:((bs.mapIdx (ve n bs.length)).flatten).length=2 * bs.length:=by
   rw [List.length_flatten]
   have e:(bs.mapIdx (ve n bs.length)).map List.length=List.replicate bs.length 2:=by
    refine List.ext_getElem (by simp) λi h1 h2=>?_
    simp [ve]
   rw [e]
   simp
   omega
  omega
theorem zHH (n p:Nat) (ws:List Int) (b:Int) (m:MD):(vx n p ws b m).length=n + p + 1:=by unfold vx; simp; omega
theorem zMe {n p:Nat} {ws:List Int} {b:Int} {m:MD} (h:MS m) (lw:ws.length<=3) (bw:∀ x∈ws,Bd 301 x) (bb:Bd 301 b):∀ x∈vx n p ws b m,Bd 700 x:=λx hx=>by
 unfold vx at hx
 rcases List.mem_append.mp hx with hx | hx
 ·rcases List.mem_append.mp hx with hx | hx <;> obtain ⟨j,_,rfl⟩:=List.mem_map.mp hx
  ·exact (zL0 bw h.nexts).mono (by omega)
  ·exact (zL0 bw h.push).mono (by omega)
 ·rw [List.mem_singleton.mp hx]
  exact (((h.div.mul bb).mono (show 300 + 301<=650 by decide)).sub ((U8 bw h.add).mono (show 301 + 300 + ws.length + 1<=650 by omega))).mono
def Xd (n p:Nat) (m:MD) (behind:List (List Int)):List (List Int):=behind.map λr=>vx n p (r.take n) (r.getD n 0) m
def Xe (n:Nat) (bs:List (Int × Int)) (room behind:List (List Int)) (m:MD) (a:D):Bool:=uF (kF n bs (room++m.rows)) (Xd n bs.length m behind) (n + bs.length) a
def jG (n:Nat) (bs:List (Int × Int)) (ms:List MD) (room behind:List (List Int)):D->Bool
 | .lst as=>decide ((as.length:Int)=(ms.length:Int)) && (ms.zip as).all λp=>Xe n bs room behind p.1 p.2
 | _=>false
structure ZV (n:Nat) (bs:List (Int × Int)) (ms:List MD):Prop where
 ok:wU n bs ms
 ms:∀ m∈ms,MS m
 bs:∀ b∈bs,Bd 300 b.1/\Bd 300 b.2
theorem zLK {n:Nat} {bs:List (Int × Int)} {ms:List MD} {room behind:List (List Int)} {a:D} (h:qm (ms.length:Int) a=false):jG n bs ms room behind a=false:=by
 cases a with
 | lst as=>show (decide _ && _)=false; rw [show decide ((as.length:Int)=(ms.length:Int))=false from h]; rfl
 | _=>rfl
def xH (a:D):Prop:=∀ as,a=.lst as->∀ x∈as,xG x
theorem vW {r:List Int} {n:Nat} (h:r.length=n + 1):zU (r.map D.int) none (some (-1))=(r.take n).map D.int:=by
 have e1:HT.sIx (r.map D.int).length 0 none=0:=HT.sIx_none _ _
 have e2:HT.sIx (r.map D.int).length (r.map D.int).length (some (-1))=n:=by
  rw [List.length_map,h]
  show (if (-1:Int) < 0 then ((-1:Int) + ((n + 1:Nat):Int)).toNat else min (-1:Int).toNat (n + 1))=n
  rw [if_pos (by decide)]
  omega
 unfold zU
 rw [e1,e2,List.drop_zero,Nat.sub_zero,List.map_take]
theorem U9 (ws:List Int) (b:Int):zU ((ws++[b]).map D.int) none (some (-1))=ws.map D.int:=by
 rw [vW (n:=ws.length) (by rw [List.length_append]; rfl),List.take_append_of_le_length (Nat.le_refl _),List.take_of_length_le (Nat.le_refl _)]
theorem jx {r:List Int} {n:Nat} (h:r.length=n + 1):yR (r.map D.int) (-1)=some (.int (r.getD n 0)):=by
 rw [uA]
 unfold yR ww
 rw [if_neg (by decide),if_pos (by omega)]
 show Option.map D.int r[((-1:Int) + (r.length:Int)).toNat]? = _
 rw [show ((-1:Int) + (r.length:Int)).toNat=n by omega,List.getElem?_eq_getElem (by omega),List.getD_eq_getElem?_getD,List.getElem?_eq_getElem (by omega)]
 rfl
theorem zL1 (ws:List Int) (b:Int):yR ((ws++[b]).map D.int) (-1)=some (.int b):=by
 rw [jx (n:=ws.length) (by rw [List.length_append]; rfl),List.getD_eq_getElem?_getD,List.getElem?_append_right (Nat.le_refl _),Nat.sub_self]
 rfl
theorem RmA (a b:List (List Int)):D.lst (a.map U++b.map U)=Rm (a++b):=by rw [Rm,List.map_append]
theorem ZW {α:Type} (u:α->D):∀ (xs:List α) (ys:List D),List.zipWith xL (xs.map u) ys=(xs.zip ys).map λq=>xL (u q.1) q.2
 | [],_=>rfl
 | _ :: _,[]=>rfl
 | _ :: xs,_ :: ys=>by rw [List.map_cons,List.zipWith_cons_cons,ZW u xs ys]; rfl
theorem JA {α:Type} {xs:List α} {ys:List D} {G:D->(D->Prop)->Prop} {R:D->Prop} (u:α->D) (v:D->α) (hv:∀ x,v (u x)=x) (g:α->D->Bool) (few:xs.length<=1000) (h:∀ x y,(x,y)∈xs.zip ys->G (xL (u x) y) λe=>e=.bool (g x y)) (q:R (.lst (((xs.zip ys).map λp=>g p.1 p.2).map D.bool))):zj (List.zipWith xL (xs.map u) ys) G R:=by
 rw [ZW]
 refine wn (λp:α × D=>xL (u p.1) p.2) (λd=>match d with | .tup [a,b]=>(v a,b) | _=>(v .non,.non)) (λp=>?_) (λp=>.bool (g p.1 p.2)) (by rw [List.length_zip]; omega) (λp hp=>h p.1 p.2 hp) (by rw [List.map_map] at q; exact q)
 show (v (u p.1),p.2)=p
 rw [hv]
theorem zJ8 {d:D} (h:uh d=true):∃ i,d=.int i:=by
 cases d with
 | int i=>exact ⟨i,rfl⟩
 | bool b=>cases h
 | _=>cases h
theorem MS.mbd {m:MD} (h:MS m):MBd m:=⟨λr hr x hx=>(h.nexts r hr x hx).mono,λr hr x hx=>(h.push r hr x hx).mono,λx hx=>(h.add x hx).mono,h.div.mono⟩
theorem zj.cast {ds ds':List D} {G:D->(D->Prop)->Prop} {R:D->Prop} (e:ds=ds') (h:zj ds' G R):zj ds G R:=by rw [e]; exact h
theorem jy (ns:List Int):(L ns).pl 50=true:=qh 48 ns
theorem RmM {α:Type} (f:α->List Int) (xs:List α):D.lst (xs.map λr=>U (f r))=Rm (xs.map f):=by unfold Rm; rw [List.map_map]; rfl
theorem qp {b:Bool} (h:(!b)=true):b=false:=by cases b <;> first | rfl | cases h
theorem jz {b:Bool} (h:(!b)=false):b=true:=by cases b <;> first | rfl | cases h
def zHZ (C CM:Addr):FL:=λds R=>∃ n bs ms rows,ds=[vg C CM n bs ms,Rm rows]/\n<=3/\bs.length<=6/\(∀ r∈rows,r.length=n + 1)/\rows.length<=900/\R (Rm (kF n bs rows))
def zN6 (C CM:Addr):FL:=λds R=>∃ n bs ms m r,ds=[vg C CM n bs ms,vV CM m,U r]/\n<=3/\bs.length<=6/\xT m n bs.length/\MBd m/\r.length=n + 1/\(∀ x∈r,Bd 9000 x)/\R (U (vx n bs.length (r.take n) (r.getD n 0) m))
def zOB:FL:=λds R=>∃ rows d ns n,ds=[Rm rows,d,.int ((n:Nat):Int)]/\IS d ns/\n<=800/\ns.length<=900/\(∀ x∈ns,Bd 9000 x)/\(∀ r∈rows,n + 1<=r.length/\∀ x∈r,Bd 9000 x)/\R (U ((List.range (n + 1)).map (zr ns rows)))
def Xf:FL:=λds R=>∃ d,ds=[d]/\d.isObj=false/\R (.bool (vy d))
def zLY:FL:=λds R=>∃ d c k,ds=[d,.int ((c:Nat):Int)]/\Fw k d/\R (.bool (xF c d))
def zN5:FL:=λds R=>∃ rows tw n d k,ds=[Rm rows,U tw,d]/\tw.length=n + 1/\(∀ x∈tw,Bd 1000 x)/\vF rows n/\Fw k d/\jw d/\R (.bool (jF rows tw n d))
def ZX:FL:=λds R=>∃ d c k,ds=[d,.int c]/\Fw k d/\R (.bool (qm c d))
def Xg:FL:=λds R=>∃ rows tws n d k,ds=[Rm rows,Rm tws,d]/\vF rows n/\vF tws n/\Fw k d/\xG d/\R (.bool (uF rows tws n d))
def zLe (C CM:Addr):FL:=λds R=>∃ n bs ms m room behind d k,ds=[vg C CM n bs ms,vV CM m,Rm room,Rm behind,d]/\ZV n bs ms/\xT m n bs.length/\MS m/\wo room n/\wo behind n/\Fw k d/\xG d/\R (.bool (Xe n bs room behind m d))
def zN9 (C CM:Addr):FL:=λds R=>∃ n bs ms room behind d k,ds=[vg C CM n bs ms,Rm room,Rm behind,d]/\ZV n bs ms/\wo room n/\wo behind n/\Fw k d/\xH d/\R (.bool (jG n bs ms room behind d))
def fNo:FL:=λ_ _=>False
theorem zOK {α:Type} {l:List (List α)} {k:Nat} {x:List α} (h:l[k]? = some x):(l.take (k + 1)).flatten=(l.take k).flatten++x:=by
 rw [uz h,List.flatten_append,List.flatten_singleton]
section
variable {P:Program} {w:World} {K:PySem.W.Frag} {mg:Str->Option Value} {base:Heap}
abbrev ZY:Stmt:=zk 27
theorem j0:zb ["thing","rows","pushes","wide","noughts","told","place","push"] ["thing","rows"] (zL ZY):=.a
abbrev JB:Stmt:=zk 28
theorem JC:zb ["thing","mode","row","numbers","ahead"] ["thing","mode","row"] (zL JB):=.a
abbrev JD:Stmt:=zk 30
theorem zMb:zb ["rows","numbers","many"] ["rows","numbers","many"] (zL JD):=.a
abbrev JE:Stmt:=zk 31
theorem zFI:zb ["value"] ["value"] (zL JE):=.a
abbrev Xh:Stmt:=zk 32
theorem zGS:zb ["value","count"] ["value","count"] (zL Xh):=.a
abbrev Xi:Stmt:=zk 33
theorem JF:zb ["rows","target","shares","total","wanted"] ["rows","target","shares"] (zL Xi):=.a
abbrev JG:Stmt:=zk 50
theorem zGP:zb ["value","count"] ["value","count"] (zL JG):=.a
abbrev Xj:Stmt:=zk 51
theorem zGQ:zb ["rows","targets","shares"] ["rows","targets","shares"] (zL Xj):=.a
abbrev Xk:Stmt:=zk 58
theorem zGN:zb ["thing","mode","room","behind","shares"] ["thing","mode","room","behind","shares"] (zL Xk):=.a
abbrev Xl:Stmt:=zk 57
theorem zIn:zb ["thing","room","behind","steps","modes"] ["thing","room","behind","steps"] (zL Xl):=.a
variable {aClaim aSettles aComes ag ah aPaper aRooms aFalls:Addr} (TClaim:zE K mg "Claim" aClaim) (AClaim:wc K aClaim) (TSettles:zE K mg "Settles" aSettles) (ASettles:wd K aSettles) (TComes:zE K mg "Comes" aComes) (AComes:we K aComes) (aa:zE K mg "Mode" ag) (ab:wf K ag) (ac:zE K mg "Thing" ah) (ae:wg K ah) (TPaper:zE K mg "Paper" aPaper) (APaper:wj K aPaper) (TRooms:zE K mg "Rooms" aRooms) (ARooms:wl K aRooms) (TFalls:zE K mg "Falls" aFalls) (AFalls:wm K aFalls)
include TClaim AClaim TSettles ASettles TComes AComes aa ab ac ae TPaper APaper TRooms ARooms TFalls AFalls
theorem zH7 {k:Nat} {f:Addr} {fd:FuncData} (F:zc K "standing" "standing" ZY f fd) (B:Bl mg) (aF:uO P w K mg base ah "pushes" ["self"] k (zJ (Uy ah ag))) (aL:Fn P w K mg base "single" ["place","many","number","bound"] k (zJ (zLX))):zG P w K mg base zX (k + 1) f fd ["thing","rows"] (zJ (zHZ ah ag)):=by
 refine zu F j0 (λds R h=>by obtain ⟨n,bs,ms,rows,rfl,_⟩:=h; rfl) λcdv A outer s H E hr=>⟨_,(zK (ze 2 j0.nd rfl (Or.inl rfl) (XG aF ac hr (zA 0)))
  (zK (ze 3 j0.nd rfl (Or.inl rfl) (zh (yK K (zA 0) rfl) (zq yV yX rfl B.len_ yW (zB (zA 2) zC))))
  (zK (ze 4 j0.nd rfl (Or.inr rfl) (xV ua uf rfl B.tuple_ vP (zB (yQ (own:=["push"]) (caps:=[]) (yC (S:=zL ZY) (N:=["thing","rows","pushes","wide","noughts","told","place","push"]) rfl (by decide +kernel) rfl ⟨_,rfl⟩ rfl (by decide +kernel) (by decide +kernel)) rfl rfl yF (yS (zA 2)) (λ_ _ _ _=>(zt 0 (show (["push"]:List Str).Nodup by decide +kernel) rfl (Or.inl rfl))) (λ_ _ _ _=>zD)) zC)))
  (zK (uT 5 true j0.nd rfl rfl (own:=["row"]) (caps:=[(4,"noughts")]) (yC (S:=zL ZY) (N:=["thing","rows","pushes","wide","noughts","told","place","push"]) rfl (by decide +kernel) rfl ⟨_,rfl⟩ rfl (by decide +kernel) (by decide +kernel)) rfl rfl yF (yS (zA 1)) (λ_ _ _ _=>(zt 0 (show (["row","noughts"]:List Str).Nodup by decide +kernel) rfl (Or.inl rfl))) (λ_ _ _ _=>(zh (zh (y9 (zA 0) y8 (yt (xQ zD))) (zA 1)) (xU (zB (zR (zA 0) (xQ zD) (λ_ _=>rfl)) zC)))) rfl)
  (zK (xW PassesOwn.never rfl (zKf rfl B.enumerate_ (zB (zA 2) zC) (yK K (zA 0) rfl)) (xh rfl (zm 6 j0.nd rfl (Or.inl rfl) (zm 7 j0.nd rfl (Or.inl rfl) xf))) (zK (yA (xa (xl PySem.F.plainAttrs_list PySem.F.slot_list_append PySem.F.type_list_append yO (yU 5) (zo (zP aL hr rfl (zB (zA 6) (zB (zA 3) (zB zD (zB (zR (zA 7) zD (λ_ _=>rfl)) zC))))) yJ))) xr)
   (zM (yA (xa (xl PySem.F.plainAttrs_list PySem.F.slot_list_append PySem.F.type_list_append yO (yU 5) (zo (zP aL hr rfl (zB (zA 6) (zB (zA 3) (zB (xQ zD) (zB (xQ (zR (zA 7) zD (λ_ _=>rfl))) zC))))) yJ))) xr))))
  (zM (wG 5 (zV (zA 5))))))))),λds R h=>?_⟩
 obtain ⟨n,bs,ms,rows,rfl,n3,b6,hr0,l9,q⟩:=h
 have hp:(List.map yD bs).length=bs.length:=List.length_map ..
 refine ⟨rfl,by decide +kernel,n,bs,ms,rfl,?_⟩
 refine ⟨⟨ac.cl,ae.n_many⟩,_,rfl,?_⟩
 refine wn yD ZS (λ_=>rfl) (λ_=>.int 0) (by omega) (λb hb=>rfl) ?_
 refine wn U zf uj (λr=>U (wy n bs.length r)) (by omega) (λr hr=>?_) ?_
 ·have lr:=hr0 r hr
  refine ⟨by rw [vW lr,List.length_map,List.length_map,List.length_take]; omega,_,jx lr,k0,by rw [vW lr,List.length_append,List.length_map,List.length_map,List.length_take]; show _ + 1<=1000; omega,?_⟩
  rw [vW lr]
  unfold wy U
  rw [List.map_append,List.map_append,List.map_replicate,List.map_const']
  rfl
 refine ⟨⟨ac.cl,ae.n_many⟩,_,rfl,by omega,by omega,?_⟩
 rw [show ((n:Nat):Int).toNat=n by omega]
 refine ⟨λk Γ=>∃ s6 s7,Γ=[.sh (vg ah ag n bs ms),.sh (Rm rows),.sh (.lst (bs.map yD)),.sh (.int ((n:Int) + ((bs.map yD).length:Int))),.sh (.tup (bs.map λ_=>.int 0)),.ow ((rows.map (wy n bs.length)++((bs.mapIdx (ve n bs.length)).take k).flatten).map U),s6,s7],⟨_,_,by rw [List.take_zero,List.flatten_nil,List.append_nil,List.map_map]; rfl⟩,?_,?_⟩
 ·rintro k d Γ' hk ⟨s6,s7,rfl⟩
  obtain ⟨d',hd',rfl⟩:=Uk hk
  rw [List.getElem?_map] at hd'
  cases hb:bs[k]? with
  | none=>rw [hb] at hd'; cases hd'
  | some b=>
  rw [hb] at hd'
  cases hd'
  have kl:k < bs.length:=(List.getElem?_eq_some_iff.mp hb).1
  have hx:(bs.mapIdx (ve n bs.length))[k]? = some (ve n bs.length k b):=by rw [List.getElem?_mapIdx,hb]; rfl
  have ll:((bs.mapIdx (ve n bs.length)).take k).flatten.length=2 * k:=by
   rw [List.length_flatten]
   have e:((bs.mapIdx (ve n bs.length)).take k).map List.length=List.replicate k 2:=by
    refine List.ext_getElem (by simp; omega) λi h1 h2=>?_
    simp [ve]
   rw [e]
   simp
   omega
  have lw:((rows.map (wy n bs.length)++((bs.mapIdx (ve n bs.length)).take k).flatten).map U).length=rows.length + 2 * k:=by rw [List.length_map,List.length_append,List.length_map,ll]
  have e:((rows.map (wy n bs.length)++((bs.mapIdx (ve n bs.length)).take (k + 1)).flatten).map U)=((rows.map (wy n bs.length)++((bs.mapIdx (ve n bs.length)).take k).flatten).map U)++[U (y6 ((n + k:Nat):Int) ((n:Int) + ((bs.map yD).length:Int)).toNat 1++[b.2])]++[U (y6 ((n + k:Nat):Int) ((n:Int) + ((bs.map yD).length:Int)).toNat (-1)++[-b.1])]:=by
   rw [zOK hx,<- List.append_assoc,List.map_append,hp,show ((n:Int) + (bs.length:Int)).toNat=n + bs.length by omega,List.append_assoc]
   rfl
  refine ⟨_,rfl,_,_,_,_,rfl,by omega,by omega,by omega,?_⟩
  refine ⟨_,rfl,_,_,_,_,rfl,by omega,by omega,by rw [List.length_append]; show _ + 1 < 1000; omega,?_⟩
  refine ⟨.sh (.int ((n + k:Nat):Int)),.sh (yD b),?_⟩
  rw [e]
  rfl
 ·rintro Γ' ⟨s6,s7,rfl⟩
  rw [Uj,hp,List.take_of_length_le (by rw [List.length_mapIdx]; omega)]
  exact q
theorem zM1 {k:Nat} {f:Addr} {fd:FuncData} (F:zc K "reach" "reach" JB f fd) (B:Bl mg) (aD:Fn P w K mg base "added_up" ["numbers","lists","wide"] k (zJ (Ut))) (aF:uO P w K mg base ah "pushes" ["self"] k (zJ (Uy ah ag))) (aT:Fn P w K mg base "paired" ["numbers","others"] k (zJ (zLc))):zG P w K mg base zX (k + 1) f fd ["thing","mode","row"] (zJ (zN6 ah ag)):=by
 refine zu F JC (λds R h=>by obtain ⟨n,bs,ms,m,r,rfl,_⟩:=h; rfl) λcdv A outer s H E hr=>⟨_,(zK (ze 3 JC.nd rfl (Or.inl rfl) (y9 (zA 2) y8 (yt (xQ zD))))
  (zK (ze 4 JC.nd rfl (Or.inl rfl) (zh (zP aD hr rfl (zB (zA 3) (zB (yK K (zA 1) rfl) (zB (yK K (zA 0) rfl) zC)))) (zP aD hr rfl (zB (zA 3) (zB (yK K (zA 1) rfl) (zB (zq yV yX rfl B.len_ yW (zB (XG aF ac hr (zA 0)) zC)) zC))))))
  (zM (zV (zh (xV ua uf rfl B.tuple_ vP (zB (zA 4) zC)) (xU (zB (xc (ya (yK K (zA 1) rfl) (zR (zA 2) (xQ zD) (λ_ _=>rfl))) (zP aT hr rfl (zB (zA 3) (zB (yK K (zA 1) rfl) zC)))) zC))))))),λds R h=>?_⟩
 obtain ⟨n,bs,ms,m,r,rfl,n3,b6,MO,MB,lr,br,q⟩:=h
 have lt:(r.take n).length=n:=by rw [List.length_take]; omega
 have bt:∀ x∈r.take n,Bd 9000 x:=λx hx=>br x (List.mem_of_mem_take hx)
 have hp:(List.map yD bs).length=bs.length:=List.length_map ..
 refine ⟨⟨aa.cl,ab.n_nexts⟩,_,rfl,⟨ac.cl,ae.n_many⟩,_,rfl,_,_,r.take n,m.nexts,n,rfl,.inr (by rw [vW lr]),.inl rfl,by omega,by omega,bt,λx hx=>⟨by rw [MO.nexts.2 x hx]; omega,MB.nexts x hx⟩,?_⟩
 refine ⟨⟨aa.cl,ab.n_push⟩,_,rfl,rfl,by decide +kernel,n,bs,ms,rfl,_,_,r.take n,m.push,bs.length,by rw [hp],.inr (by rw [vW lr]),.inl rfl,by omega,by omega,bt,λx hx=>⟨by rw [MO.push.2 x hx]; omega,MB.push x hx⟩,?_⟩
 refine ⟨by rw [List.length_map,List.length_map,List.length_map,List.length_map,List.length_range,List.length_range]; omega,?_⟩
 refine ⟨⟨aa.cl,ab.n_divisor⟩,_,rfl,_,jx lr,MB.div.mono,(vv br n).mono,⟨aa.cl,ab.n_add⟩,_,rfl,_,_,r.take n,m.add,rfl,.inr (by rw [vW lr]),.inl rfl,by omega,bt,MB.add,k0,?_,?_⟩
 ·rw [List.length_append,List.length_map,List.length_map,List.length_map,List.length_map,List.length_range,List.length_range]
  show _ + 1<=1000
  omega
 ·unfold vx U at q
  rw [List.map_append,List.map_append] at q
  exact q
theorem zM6 {k:Nat} {f:Addr} {fd:FuncData} (F:zc K "added" "added" JD f fd) (B:Bl mg) (aD:Fn P w K mg base "added_up" ["numbers","lists","wide"] k (zJ (Ut))):zG P w K mg base zX (k + 1) f fd ["rows","numbers","many"] (zJ (zOB)):=by
 refine zu F zMb (λds R h=>by obtain ⟨rows,d,ns,n,rfl,_⟩:=h; rfl) λcdv A outer s H E hr=>⟨_,(zM (zV (xV ua uf rfl B.tuple_ vP (zB (zP aD hr rfl (zB (zA 1) (zB (zA 0) (zB (zh (zA 2) zD) zC)))) zC)))),λds R h=>?_⟩
 obtain ⟨rows,d,ns,n,rfl,h,n8,l9,bn,br,q⟩:=h
 exact ⟨_,_,ns,rows,n + 1,rfl,h,.inr rfl,by omega,l9,bn,br,q⟩
theorem zFb {k:Nat} {f:Addr} {fd:FuncData} (F:zc K "is_from_0_on" "is_from_0_on" JE f fd) (B:Bl mg) (aj:Fn P w K mg base "is_whole" ["thing"] k (zJ (jt))):zG P w K mg base zX (k + 1) f fd ["value"] (zJ (Xf)):=by
 refine zu F zFI (λds R h=>by obtain ⟨d,rfl,_⟩:=h; rfl) λcdv A outer s H E hr=>⟨_,(zM (zV (wE (zP aj hr rfl (zB (zA 0) zC)) (vT (Ks (zA 0) zD))))),λds R h=>?_⟩
 obtain ⟨d,rfl,o,q⟩:=h
 refine ⟨d,rfl,o,w2 (λc=>?_) (λc=>bR q ?_)⟩
 ·obtain ⟨i,rfl⟩:=zJ8 c
  exact q
 ·cases d <;> first | rfl | cases c
theorem zGn {k:Nat} {f:Addr} {fd:FuncData} (F:zc K "are_shares" "are_shares" Xh f fd) (B:Bl mg) (av:Fn P w K mg base "is_from_0_on" ["value"] k (zJ (Xf))):zG P w K mg base zX (k + 1) f fd ["value","count"] (zJ (zLY)):=by
 refine zu F zGS (λds R h=>by obtain ⟨d,c,k,rfl,_⟩:=h; rfl) λcdv A outer s H E hr=>⟨_,(zK (yI (PW.pt (wM (xD (yb (yG (xS wx rfl B.isinstance_ xm (zo (zA 0) (zo (wu (v:=.ty "tuple") (u:=.type "tuple") rfl B.tuple_ vP rfl) yJ))) (w6 k8)))) (w4 (UG hr.units (zq yV yX rfl B.len_ yW (zB (zA 0) zC)) zD)))) (zM (zV xb)) yH)
  (zK (yI (PW.pt (wM (xD (yb (zP av hr rfl (zB (zR (zA 0) zD (λ_ _=>rfl)) zC)))) (wM (xD (yb (yG (xS wx rfl B.isinstance_ xm (zo (zR (zA 0) zD (λ_ _=>rfl)) (zo (wu (v:=.ty "list") (u:=.type "list") rfl B.list_ xn rfl) yJ))) (w6 ug)))) (w4 (UG hr.units (zq yV yX rfl B.len_ yW (zB (zR (zA 0) zD (λ_ _=>rfl)) zC)) (zA 1)))))) (zM (zV xb)) yH)
  (zM (zV (zq (wR rfl) wY rfl B.all_ wS (zB (yQ (own:=["number"]) (caps:=[]) (yC (S:=zL Xh) (N:=["value","count"]) rfl (by decide +kernel) rfl ⟨0,rfl⟩ rfl (by decide +kernel) (by decide +kernel)) rfl rfl yF (yS (zR (zA 0) zD (λ_ _=>rfl))) (λ_ _ _ _=>(zt 0 (show (["number"]:List Str).Nodup by decide +kernel) rfl (Or.inl rfl))) (λ_ _ _ _=>(zP av hr rfl (zB (zA 0) zC)))) zC)))))),λds R h=>?_⟩
 obtain ⟨d,c,k,rfl,f,q⟩:=h
 refine ⟨f.no,w2 (λc1=>wT rfl (bR q ?_)) λc1=>?_⟩
 ·cases d <;> first | rfl | cases c1
 obtain ⟨es,rfl,le,j,rfl,hj⟩:=f.tup_inv (by cases z:d.isTup with | true=>rfl | false=>rw [z] at c1; cases c1)
 refine w2 (λc2=>bR q ?_) λc2=>?_
 ·match es,c2 with
  | [],_=>rfl
  | [_],_=>rfl
  | [_,_],c2=>cases c2
  | _ :: y :: _ :: _,_=>cases y <;> rfl
 obtain ⟨x,y,rfl⟩:∃ x y,es=[x,y]:=by
  match es,c2 with
  | [x,y],_=>exact ⟨x,y,rfl⟩
  | [],c2=>cases c2
  | [_],c2=>cases c2
  | _ :: _ :: _ :: _,c2=>
   have c2:(!decide (((_:Nat):Int)=2))=false:=c2
   rw [Bool.not_eq_false',decide_eq_true_iff] at c2
   simp at c2
   omega
 have fx:=hj x List.mem_cons_self
 have fy:=hj y (List.mem_cons_of_mem _ List.mem_cons_self)
 refine ⟨x,rfl,x,rfl,fx.no,w2 (λc3=>wT rfl (bR q ?_)) λc3=>?_⟩
 ·cases y <;> first | rfl | (show (vy x && _)=false; rw [show vy x=false by cases z:vy x with | false=>rfl | true=>rw [z] at c3; cases c3]; rfl)
 have c3:vy x=true:=by cases z:vy x with | true=>rfl | false=>rw [z] at c3; cases c3
 refine ⟨y,rfl,fy.no,w2 (λc4=>wT rfl (bR q ?_)) λc4=>?_⟩
 ·cases y <;> first | rfl | cases c4
 obtain ⟨ys,rfl,ly,i,rfl,hi⟩:=fy.lst_inv (by cases z:y.isLst with | true=>rfl | false=>rw [z] at c4; cases c4)
 have key:xF c (.tup [x,.lst ys])=(decide (ys.length=c) && ys.all vy):=by
  show (vy x && _)=_
  rw [c3]
  rfl
 rw [key] at q
 refine ⟨_,rfl,w2 (λc5=>bR q ?_) λc5=>?_⟩
 ·have c5:(!decide ((ys.length:Int)=(c:Int)))=true:=c5
  rw [Bool.not_eq_true',decide_eq_false_iff_not] at c5
  rw [decide_eq_false (by omega)]
  rfl
 have c5:(!decide ((ys.length:Int)=(c:Int)))=false:=c5
 rw [Bool.not_eq_false',decide_eq_true_iff] at c5
 refine ⟨_,rfl,zj.bool vy (by omega) (λd m=>⟨d,rfl,(hi d m).no,rfl⟩) ⟨_,rfl,bR q ?_⟩⟩
 rw [vf,decide_eq_true (by omega)]
 rfl
theorem zM0 {k:Nat} {f:Addr} {fd:FuncData} (F:zc K "shows" "shows" Xi f fd) (B:Bl mg) (aU:Fn P w K mg base "are_shares" ["value","count"] k (zJ (zLY))) (aV:Fn P w K mg base "added" ["rows","numbers","many"] k (zJ (zOB))) (aW:Fn P w K mg base "scaled" ["factor","numbers"] k (zJ (zLZ))):zG P w K mg base zX (k + 1) f fd ["rows","target","shares"] (zJ (zN5)):=by
 refine zu F JF (λds R h=>by obtain ⟨rows,tw,n,d,k,rfl,_⟩:=h; rfl) λcdv A outer s H E hr=>⟨_,(zK (yI (xD (yb (zP aU hr rfl (zB (zA 2) (zB (zq yV yX rfl B.len_ yW (zB (zA 0) zC)) zC))))) (zM (zV xb)) yH)
  (zK (ze 3 JF.nd rfl (Or.inl rfl) (zP aV hr rfl (zB (zA 0) (zB (zR (zA 2) zD (λ_ _=>rfl)) (zB (xc (zq yV yX rfl B.len_ yW (zB (zA 1) zC)) zD) zC)))))
  (zK (yI (wz hr.units (zR (zA 2) zD (λ_ _=>rfl)) zD) (zM (zV (wE (zq (wR rfl) wY rfl B.all_ wS (zB (yQ (own:=["number"]) (caps:=[]) (yC (S:=zL Xi) (N:=["rows","target","shares","total","wanted"]) rfl (by decide +kernel) rfl ⟨0,rfl⟩ rfl (by decide +kernel) (by decide +kernel)) rfl rfl yF (yS (y9 (zA 3) y8 (yt (xQ zD)))) (λ_ _ _ _=>(zt 0 (show (["number"]:List Str).Nodup by decide +kernel) rfl (Or.inl rfl))) (λ_ _ _ _=>(uR hr.units (zA 0) zD))) zC)) (vT (kL (zR (zA 3) (xQ zD) (λ_ _=>rfl)) zD))))) yH)
  (zK (ze 4 JF.nd rfl (Or.inl rfl) (zP aW hr rfl (zB (zR (zA 2) zD (λ_ _=>rfl)) (zB (zA 1) zC))))
  (zM (zV (wE (uR hr.units (xV vk vp rfl B.list_ xn (zB (y9 (zA 3) y8 (yt (xQ zD))) zC)) (y9 (zA 4) y8 (yt (xQ zD)))) (vT (UD (zR (zA 3) (xQ zD) (λ_ _=>rfl)) (zR (zA 4) (xQ zD) (λ_ _=>rfl))))))))))),λds R h=>?_⟩
 obtain ⟨rows,tw,n,d,k,rfl,lt,bt,RW,f,sb,q⟩:=h
 have lr:(List.map U rows).length=rows.length:=List.length_map ..
 have ltw:(List.map D.int tw).length=n + 1:=by rw [List.length_map]; exact lt
 have nar:=RW.nar
 have fewr:=RW.few
 refine ⟨d,rows.length,k,by rw [lr],f,w2 (λc1=>bR q ?_) λc1=>?_⟩
 ·exact zIl (by cases z:xF rows.length d with | false=>rfl | true=>rw [z] at c1; cases c1)
 have c1:xF rows.length d=true:=by cases z:xF rows.length d with | true=>rfl | false=>rw [z] at c1; cases c1
 obtain ⟨o,ns,rfl,o0,ln,n0⟩:=zIm c1
 rw [zHE c1] at q
 obtain ⟨bo,bn⟩:=sb o _ rfl
 have bn:∀ x∈ns,Bd 1000 x:=λx hx=>bn (.int x) (List.mem_map.mpr ⟨x,hx,rfl⟩)
 have tot:(List.range (n + 1)).map (zr ns rows)=(List.range n).map (zr ns rows)++[zr ns rows n]:=by rw [List.range_succ,List.map_append]; rfl
 have e1:(List.range n).map (vm rows ns)=(List.range n).map (zr ns rows):=List.map_congr_left λj _=>ZU rows ns j
 unfold qY at q
 rw [e1,ZU] at q
 refine ⟨_,rfl,rows,_,ns,n,by rw [ltw]; show [Rm rows,L ns,D.int (((n + 1:Nat):Int) - 1)]=_; rw [show ((n + 1:Nat):Int) - 1=(n:Int) by omega],.inl rfl,by omega,by omega,λx hx=>(bn x hx).mono,λr hr=>⟨by rw [(RW.row r hr).1]; omega,λx hx=>((RW.row r hr).2 x hx).mono⟩,?_⟩
 rw [tot]
 refine ⟨_,rfl,w2 (λc2=>?_) λc2=>?_⟩
 ·rw [if_pos (of_decide_eq_true c2)] at q
  refine zj.cast (U9 _ _) (zQ2 (λx=>decide (x=0)) (by rw [List.length_map,List.length_range]; omega) (λx hx=>rfl) ⟨_,rfl,w2 (λc3=>?_) λc3=>bR q ?_⟩)
  ·refine ⟨_,zL1 _ _,bR q ?_⟩
   rw [vf] at c3
   rw [c3]
   rfl
  ·rw [vf] at c3
   rw [c3]
   rfl
 ·rw [if_neg (of_decide_eq_false c2)] at q
  have lsc:(tw.map (o * ·)).length=n + 1:=by rw [List.length_map]; exact lt
  have ets:(tw.map (o * ·)).take n=(tw.take n).map (o * ·):=(List.map_take ..).symm
  refine ⟨_,rfl,o,_,tw,rfl,.inr rfl,by omega,bo.mono,λx hx=>(bt x hx).mono,?_⟩
  refine ⟨by rw [U9]; exact jy _,by rw [vW lsc]; exact jy _,w2 (λc3=>?_) λc3=>bR q ?_⟩
  all_goals rw [U9,vW lsc,kO,ets] at c3
  ·refine ⟨_,zL1 _ _,_,jx lsc,bR q ?_⟩
   rw [c3]
   rw [show (tw.map (o * ·)).getD n 0=o * tw.getD n 0 by
    rw [List.getD_eq_getElem?_getD,List.getElem?_map,List.getElem?_eq_getElem (by omega),List.getD_eq_getElem?_getD,List.getElem?_eq_getElem (by omega)]; rfl]
   rfl
  ·rw [c3]
   rfl
theorem zGk {k:Nat} {f:Addr} {fd:FuncData} (F:zc K "is_list_of" "is_list_of" JG f fd) (B:Bl mg):zG P w K mg base zX (k + 1) f fd ["value","count"] (zJ (ZX)):=by
 refine zu F zGP (λds R h=>by obtain ⟨d,c,k,rfl,_⟩:=h; rfl) λcdv A outer s H E hr=>⟨_,(zM (zV (wE (yG (xS wx rfl B.isinstance_ xm (zo (zA 0) (zo (wu (v:=.ty "list") (u:=.type "list") rfl B.list_ xn rfl) yJ))) (w6 ug)) (vT (uR hr.units (zq yV yX rfl B.len_ yW (zB (zA 0) zC)) (zA 1)))))),λds R h=>?_⟩
 obtain ⟨d,c,k,rfl,f,q⟩:=h
 refine ⟨f.no,w2 (λc1=>?_) λc1=>bR q ?_⟩
 ·obtain ⟨es,rfl,le,j,rfl,hj⟩:=f.lst_inv c1
  exact q
 ·cases d <;> first | rfl | cases c1
theorem zGl {k:Nat} {f:Addr} {fd:FuncData} (F:zc K "each_shown" "each_shown" Xj f fd) (B:Bl mg) (ao:Fn P w K mg base "is_list_of" ["value","count"] k (zJ (ZX))) (aX:Fn P w K mg base "shows" ["rows","target","shares"] k (zJ (zN5))):zG P w K mg base zX (k + 1) f fd ["rows","targets","shares"] (zJ (Xg)):=by
 refine zu F zGQ (λds R h=>by obtain ⟨rows,tws,n,d,k,rfl,_⟩:=h; rfl) λcdv A outer s H E hr=>⟨_,(zK (yI (xD (yb (zP ao hr rfl (zB (zA 2) (zB (zq yV yX rfl B.len_ yW (zB (zA 1) zC)) zC))))) (zM (zV xb)) yH)
  (zM (zV (zq (wR rfl) wY rfl B.all_ wS (zB (yQ (own:=["target","part"]) (caps:=[(0,"rows")]) (yC (S:=zL Xj) (N:=["rows","targets","shares"]) rfl (by decide +kernel) rfl ⟨_,rfl⟩ rfl (by decide +kernel) (by decide +kernel)) rfl rfl (ji (vL (vL jk))) (jB rfl B.zip_ (zB (zA 1) (zB (zA 2) zC))) (λ_ _ _ _=>(xh rfl (zm 0 (show (["target","part","rows"]:List Str).Nodup by decide +kernel) rfl (Or.inl rfl) (zm 1 (show (["target","part","rows"]:List Str).Nodup by decide +kernel) rfl (Or.inl rfl) xf)))) (λ_ _ _ _=>(zP aX hr rfl (zB (zA 2) (zB (zA 0) (zB (zA 1) zC)))))) zC))))),λds R h=>?_⟩
 obtain ⟨rows,tws,n,d,k,rfl,RW,RT,f,sb,q⟩:=h
 have lt:(List.map U tws).length=tws.length:=List.length_map ..
 have fewt:=RT.few
 refine ⟨d,_,k,rfl,f,w2 (λc1=>bR q ?_) λc1=>?_⟩
 ·rw [lt] at c1
  exact zNT (qp c1)
 rw [lt] at c1
 obtain ⟨as,rfl,la⟩:=Xc (jz c1)
 obtain ⟨es,e1,le,j,rfl,hj⟩:=f.lst_inv rfl
 cases e1
 have sb:=sb as rfl
 refine JA U zf uj (λt a=>jF rows t n a) (by omega) (λt a hm=>?_) ⟨_,rfl,bR q ?_⟩
 ·have h1:=(List.of_mem_zip hm).1
  have h2:=(List.of_mem_zip hm).2
  exact ⟨rows,t,n,a,j,rfl,(RT.row t h1).1,(RT.row t h1).2,RW,hj a h2,sb a h2,rfl⟩
 ·show (decide _ && _)=_
  rw [decide_eq_true la,vf]
  rfl
theorem zGi {k:Nat} {f:Addr} {fd:FuncData} (F:zc K "mode_leads" "mode_leads" Xk f fd) (B:Bl mg) (aw:Fn P w K mg base "each_shown" ["rows","targets","shares"] k (zJ (Xg))) (aY:Fn P w K mg base "reach" ["thing","mode","row"] k (zJ (zN6 ah ag))) (aZ:Fn P w K mg base "standing" ["thing","rows"] k (zJ (zHZ ah ag))):zG P w K mg base zX (k + 1) f fd ["thing","mode","room","behind","shares"] (zJ (zLe ah ag)):=by
 refine zu F zGN (λds R h=>by obtain ⟨n,bs,ms,m,room,behind,d,k,rfl,_⟩:=h; rfl) λcdv A outer s H E hr=>⟨_,(zM (zV (zP aw hr rfl (zB (zP aZ hr rfl (zB (zA 0) (zB (zh (zA 2) (yK K (zA 1) rfl)) zC))) (zB (yQ (own:=["row"]) (caps:=[(0,"thing"),(1,"mode")]) (yC (S:=zL Xk) (N:=["thing","mode","room","behind","shares"]) rfl (by decide +kernel) rfl ⟨_,rfl⟩ rfl (by decide +kernel) (by decide +kernel)) rfl rfl yF (yS (zA 3)) (λ_ _ _ _=>(zt 0 (show (["row","thing","mode"]:List Str).Nodup by decide +kernel) rfl (Or.inl rfl))) (λ_ _ _ _=>(zP aY hr rfl (zB (zA 1) (zB (zA 2) (zB (zA 0) zC)))))) (zB (zA 4) zC)))))),λds R h=>?_⟩
 obtain ⟨n,bs,ms,m,room,behind,d,k,rfl,TS,MO,MSm,R1,R2,f,sb,q⟩:=h
 have n1:=TS.ok.n1
 have n3:=TS.ok.n3
 have b6:=TS.ok.b6
 have f1:=R1.few
 have f2:=R2.few
 have f3:=MSm.few
 have hrl:∀ r∈room++m.rows,r.length=n + 1/\∀ x∈r,Bd 1000 x:=λr hr=>by
  rcases List.mem_append.mp hr with hr | hr
  ·exact ⟨(R1.row r hr).1,λx hx=>((R1.row r hr).2 x hx).mono⟩
  ·exact ⟨MO.rows r hr,λx hx=>(MSm.rows r hr x hx).mono⟩
 refine ⟨⟨aa.cl,ab.n_rows⟩,_,rfl,by rw [List.length_map,List.length_map]; omega,n,bs,ms,room++m.rows,by rw [RmA],n3,b6,λr hr=>(hrl r hr).1,by rw [List.length_append]; omega,?_⟩
 refine wn U zf uj (λr=>U (vx n bs.length (r.take n) (r.getD n 0) m)) (by omega) (λr hr=>?_) ?_
 ·exact ⟨n,bs,ms,m,r,rfl,n3,b6,MO,MSm.mbd,(R2.row r hr).1,λx hx=>((R2.row r hr).2 x hx).mono,rfl⟩
 have RW2:vF (Xd n bs.length m behind) (n + bs.length):=by
  refine ⟨λr hr=>?_,by unfold Xd; rw [List.length_map]; omega,by omega⟩
  obtain ⟨r0,h0,rfl⟩:=List.mem_map.mp hr
  obtain ⟨lr,br⟩:=R2.row r0 h0
  exact ⟨zHH ..,λx hx=>(zMe MSm (by rw [List.length_take]; omega) (λy hy=>(br y (List.mem_of_mem_take hy)).mono) (U7 br n).mono x hx).mono⟩
 exact ⟨_,Xd n bs.length m behind,n + bs.length,d,k,by rw [RmM (λr:List Int=>vx n bs.length (r.take n) (r.getD n 0) m)]; rfl,zMY hrl (by rw [List.length_append]; omega) n3 b6 TS.bs,RW2,f,sb,q⟩
theorem zM2 {k:Nat} {f:Addr} {fd:FuncData} (F:zc K "leads" "leads" Xl f fd) (B:Bl mg) (be:uO P w K mg base ah "modes" ["self"] k (zJ (zN7 ah ag))) (ao:Fn P w K mg base "is_list_of" ["value","count"] k (zJ (ZX))) (bh:Fn P w K mg base "mode_leads" ["thing","mode","room","behind","shares"] k (zJ (zLe ah ag))):zG P w K mg base zX (k + 1) f fd ["thing","room","behind","steps"] (zJ (zN9 ah ag)):=by
 refine zu F zIn (λds R h=>by obtain ⟨n,bs,ms,room,behind,d,k,rfl,_⟩:=h; rfl) λcdv A outer s H E hr=>⟨_,(zK (ze 4 zIn.nd rfl (Or.inl rfl) (XG be ac hr (zA 0)))
  (zK (yI (xD (yb (zP ao hr rfl (zB (zA 3) (zB (zq yV yX rfl B.len_ yW (zB (zA 4) zC)) zC))))) (zM (zV xb)) yH)
  (zM (zV (zq (wR rfl) wY rfl B.all_ wS (zB (yQ (own:=["mode","shares"]) (caps:=[(0,"thing"),(1,"room"),(2,"behind")]) (yC (S:=zL Xl) (N:=["thing","room","behind","steps","modes"]) rfl (by decide +kernel) rfl ⟨_,rfl⟩ rfl (by decide +kernel) (by decide +kernel)) rfl rfl (ji (vL (vL jk))) (jB rfl B.zip_ (zB (zA 4) (zB (zA 3) zC))) (λ_ _ _ _=>(xh rfl (zm 0 (show (["mode","shares","thing","room","behind"]:List Str).Nodup by decide +kernel) rfl (Or.inl rfl) (zm 1 (show (["mode","shares","thing","room","behind"]:List Str).Nodup by decide +kernel) rfl (Or.inl rfl) xf)))) (λ_ _ _ _=>(zP bh hr rfl (zB (zA 2) (zB (zA 0) (zB (zA 3) (zB (zA 4) (zB (zA 1) zC)))))))) zC)))))),λds R h=>?_⟩
 obtain ⟨n,bs,ms,room,behind,d,k,rfl,TS,R1,R2,f,sb,q⟩:=h
 have m40:=TS.ok.m40
 have lm:(List.map (vV ag) ms).length=ms.length:=List.length_map ..
 refine ⟨rfl,by decide +kernel,n,bs,ms,rfl,?_⟩
 refine ⟨d,_,k,rfl,f,w2 (λc1=>bR q ?_) λc1=>?_⟩
 ·rw [lm] at c1
  exact zLK (qp c1)
 rw [lm] at c1
 obtain ⟨as,rfl,la⟩:=Xc (jz c1)
 obtain ⟨es,e1,le,j,rfl,hj⟩:=f.lst_inv rfl
 cases e1
 have sb:=sb as rfl
 refine JA (vV ag) xP (Uz _) (λm a=>Xe n bs room behind m a) (by omega) (λm a hm=>?_) ⟨_,rfl,bR q ?_⟩
 ·have h1:=(List.of_mem_zip hm).1
  have h2:=(List.of_mem_zip hm).2
  exact ⟨n,bs,ms,m,room,behind,a,j,rfl,TS,TS.ok.mok m h1,TS.ms m h1,R1,R2,hj a h2,sb a h2,rfl⟩
 ·show (decide _ && _)=_
  rw [decide_eq_true la,vf]
  rfl
end
abbrev zPd:List Str:=["start","rows","turn"]
abbrev zPh:List Str:=["rooms","back","starts","steps","stays"]
abbrev uG (rooms:List (List (List Int))):D:=.lst (rooms.map Rm)
abbrev j2 (C:Addr) (s g:List (List Int)) (t:Int):D:=.obj C zPd [Rm s,Rm g,.int t]
abbrev j3 (C:Addr) (rooms:List (List (List Int))) (BK A1 A2 A3:D):D:=.obj C zPh [uG rooms,BK,A1,A2,A3]
def jH (a:D):Prop:=∀ as,a=.lst as->∀ x∈as,xH x
def qr (n:Nat) (bs:List (Int × Int)) (ms:List MD) (rooms:List (List (List Int))) (b:Nat):D->Bool
 | .lst as=>decide ((as.length:Int)=(rooms.length:Int)) && (rooms.zip ((rooms.drop 1++[rooms.getD b []]).zip as)).all λp=>jG n bs ms p.1 p.2.1 p.2.2
 | _=>false
def qt (n:Nat) (rooms:List (List (List Int))) (f:Nat) (g:List (List Int)):D->Bool
 | .lst as=>decide ((as.length:Int)=(rooms.length:Int)) && ((rooms.drop f).zip (as.drop f)).all λp=>uF p.1 g n p.2
 | _=>false
def j4 (n:Nat) (bs:List (Int × Int)) (ms:List MD) (s g:List (List Int)) (t:Int) (rooms:List (List (List Int))) (BK A1 A2 A3:D):Bool:=
 match BK with
 | .int b=>if b < 0\/(rooms.length:Int)<=b then false else uF s (rooms.getD 0 []) n A1 && (qr n bs ms rooms b.toNat A2 && qt n rooms (min b t).toNat g A3)
 | _=>false
structure ZZ (n:Nat) (rooms:List (List (List Int))):Prop where
 rm:∀ r∈rooms,wo r n
 few:rooms.length<=100
theorem zJv {n:Nat} {bs:List (Int × Int)} {ms:List MD} {rooms:List (List (List Int))} {b:Nat} {a:D} (h:qm (rooms.length:Int) a=false):qr n bs ms rooms b a=false:=by
 cases a with
 | lst as=>show (decide _ && _)=false; rw [show decide ((as.length:Int)=(rooms.length:Int))=false from h]; rfl
 | _=>rfl
theorem zMX {n:Nat} {rooms:List (List (List Int))} {f:Nat} {g:List (List Int)} {a:D} (h:qm (rooms.length:Int) a=false):qt n rooms f g a=false:=by
 cases a with
 | lst as=>show (decide _ && _)=false; rw [show decide ((as.length:Int)=(rooms.length:Int))=false from h]; rfl
 | _=>rfl
def j5:D->List (List Int)
 | .lst ds=>ds.map zf
 | _=>[]
theorem Xm (r:List (List Int)):j5 (Rm r)=r:=by
 show (r.map U).map zf=r
 rw [List.map_map]
 exact (List.map_congr_left λx _=>uj x).trans (List.map_id _)
theorem Za {rooms:List (List (List Int))} {b:Int} (h0:0<=b) (h1:b < (rooms.length:Int)):yR (rooms.map Rm) b=some (Rm (rooms.getD b.toNat [])):=by
 rw [uA]
 unfold yR ww
 rw [if_pos h0,if_pos (by omega)]
 show Option.map Rm rooms[b.toNat]? = _
 rw [List.getElem?_eq_getElem (by omega),List.getD_eq_getElem?_getD,List.getElem?_eq_getElem (by omega)]
 rfl
theorem JH {rooms:List (List (List Int))} {b:Nat} (h:b < rooms.length):rooms.getD b []∈rooms:=by
 rw [List.getD_eq_getElem?_getD,List.getElem?_eq_getElem h]
 exact List.getElem_mem _
theorem j6 {α:Type} {xs:List α} {b:Int} (h:0<=b):zU xs (some b) none=xs.drop b.toNat:=by
 obtain ⟨k,rfl⟩:=Int.eq_ofNat_of_zero_le h
 unfold zU
 have e:HT.sIx xs.length 0 (some ((k:Nat):Int))=min k xs.length:=HT.sIx_nat ..
 show (xs.drop (HT.sIx xs.length 0 (some ((k:Nat):Int)))).take (xs.length - HT.sIx xs.length 0 (some ((k:Nat):Int)))=xs.drop ((k:Nat):Int).toNat
 rw [e,Int.toNat_natCast,List.take_of_length_le (by rw [List.length_drop]; exact Nat.le_refl _)]
 by_cases c:k<=xs.length
 ·rw [Nat.min_eq_left c]
 ·rw [Nat.min_eq_right (by omega),List.drop_eq_nil_of_le (Nat.le_refl _),List.drop_eq_nil_of_le (show xs.length<=k by omega)]
def zQp (C:Addr):FL:=λds R=>∃ s g t,ds=[s,g,t]/\Fw 6 s/\Fw 6 g/\R (.obj C zPd [s,g,t])
def zQq (C:Addr):FL:=λds R=>∃ a b c d e,ds=[a,b,c,d,e]/\Fw 6 a/\Fw 6 c/\Fw 6 d/\Fw 6 e/\R (.obj C zPh [a,b,c,d,e])
def zQo (C:Addr):FL:=λds R=>∃ s g t n,ds=[j2 C s g t,.int ((n:Nat):Int)]/\n<=3/\wo s n/\wo g n/\0<=t/\R (.bool true)
def zQv:FL:=λds R=>∃ rooms n,ds=[uG rooms,.int ((n:Nat):Int)]/\ZZ n rooms/\n<=3/\R (.bool true)
def zLh (C CM CR:Addr):FL:=λds R=>∃ n bs ms rooms b A1 A2 A3 k,ds=[vg C CM n bs ms,j3 CR rooms (.int b) A1 A2 A3]/\ZV n bs ms/\ZZ n rooms/\0<=b/\b < (rooms.length:Int)/\Fw k A2/\jH A2/\R (.bool (qr n bs ms rooms b.toNat A2))
def zQm (CS CR:Addr):FL:=λds R=>∃ n s g t rooms b A1 A2 A3 k,ds=[j2 CS s g t,j3 CR rooms (.int b) A1 A2 A3]/\n<=3/\ZZ n rooms/\wo g n/\0<=t/\0<=b/\Fw k A3/\xH A3/\R (.bool (qt n rooms (min b t).toNat g A3))
def Xn (C CM CS CR:Addr):FL:=λds R=>∃ n bs ms s g t rooms BK A1 A2 A3 k,ds=[vg C CM n bs ms,j2 CS s g t,j3 CR rooms BK A1 A2 A3]/\ZV n bs ms/\wo s n/\wo g n/\0<=t/\ZZ n rooms/\BK.isObj=false/\Fw k A1/\Fw k A2/\Fw k A3/\xG A1/\jH A2/\xH A3/\XZ ms=true/\R (.bool (j4 n bs ms s g t rooms BK A1 A2 A3))
section
variable {P:Program} {w:World} {K:PySem.W.Frag} {mg:Str->Option Value} {base:Heap}
abbrev JI:Stmt:=jU (zk 19) 0
theorem zDi:zb ["self","start","rows","turn"] ["self","start","rows","turn"] (zL JI):=.a
abbrev JJ:Stmt:=jU (zk 47) 0
theorem zEO:zb ["self","rooms","back","starts","steps","stays"] ["self","rooms","back","starts","steps","stays"] (zL JJ):=.a
abbrev JK:Stmt:=zk 52
theorem zFD:zb ["claim","many"] ["claim","many"] (zL JK):=.a
abbrev Xo:Stmt:=zk 55
theorem zHG:zb ["value","many"] ["value","many"] (zL Xo):=.a
abbrev Xp:Stmt:=zk 56
theorem zDJ:zb ["thing","paper","following"] ["thing","paper"] (zL Xp):=.a
abbrev Xq:Stmt:=zk 59
theorem zDx:zb ["claim","paper","first"] ["claim","paper"] (zL Xq):=.a
abbrev JL:Stmt:=zk 54
theorem zEr:zb ["thing","claim","paper"] ["thing","claim","paper"] (zL JL):=.a
abbrev JM:Stmt:=zk 49
theorem zJT:zb ["thing","claim","paper"] ["thing","claim","paper"] (zL JM):=.a
variable {aClaim aSettles aComes ag ah aPaper aRooms aFalls:Addr} (TClaim:zE K mg "Claim" aClaim) (AClaim:wc K aClaim) (TSettles:zE K mg "Settles" aSettles) (ASettles:wd K aSettles) (TComes:zE K mg "Comes" aComes) (AComes:we K aComes) (aa:zE K mg "Mode" ag) (ab:wf K ag) (ac:zE K mg "Thing" ah) (ae:wg K ah) (TPaper:zE K mg "Paper" aPaper) (APaper:wj K aPaper) (TRooms:zE K mg "Rooms" aRooms) (ARooms:wl K aRooms) (TFalls:zE K mg "Falls" aFalls) (AFalls:wm K aFalls)
include TClaim AClaim TSettles ASettles TComes AComes aa ab ac ae TPaper APaper TRooms ARooms TFalls AFalls
theorem zDm {k:Nat} {f:Addr} {fd:FuncData} {dv:Value} (F:yw K "__init__" "Settles.__init__" JI f fd dv) (B:Bl mg) (ai:vd P w K mg base "copied" ["value","depth"] k (zJ (ju 6)) (.int 5)):zG P w K mg base zX (k + 1) f fd ["self","start","rows","turn"] (w8 aSettles (zQp aSettles)):=by
 refine Ui F zDi (λds R h=>by obtain ⟨s,g,t,rfl,_⟩:=h; rfl) λcdv A outer s H E hr=>⟨_,(zK (yA (wO (yU 0) (uD (.int 5) (λ_=>.int 5) ai hr rfl (zB (zA 1) zC)) rfl) wa)
  (zK (yA (wO (yU 0) (uD (.int 5) (λ_=>.int 5) ai hr rfl (zB (zA 2) zC)) rfl) wa)
  (zM (yA (wO (yU 0) (zA 3) rfl) wa)))),λo ds R h=>?_⟩
 obtain ⟨s,g,t,rfl,f1,f2,q⟩:=h
 refine ⟨s,5,rfl,f1,⟨TSettles.cl,ASettles.n_start⟩,by decide +kernel,by decide,rfl,?_⟩
 refine ⟨g,5,rfl,f2,⟨TSettles.cl,ASettles.n_rows⟩,by decide +kernel,by decide,rfl,?_⟩
 exact ⟨⟨TSettles.cl,ASettles.n_turn⟩,by decide +kernel,by decide,rfl,rfl,q⟩
theorem zEb {k:Nat} {f:Addr} {fd:FuncData} (F:zc K "__init__" "Rooms.__init__" JJ f fd) (B:Bl mg) (ai:vd P w K mg base "copied" ["value","depth"] k (zJ (ju 6)) (.int 5)):zG P w K mg base zX (k + 1) f fd ["self","rooms","back","starts","steps","stays"] (w8 aRooms (zQq aRooms)):=by
 refine Uh F zEO (λds R h=>by obtain ⟨a,b,c,d,e,rfl,_⟩:=h; rfl) λcdv A outer s H E hr=>⟨_,(zK (yA (wO (yU 0) (uD (.int 5) (λ_=>.int 5) ai hr rfl (zB (zA 1) zC)) rfl) wa)
  (zK (yA (wO (yU 0) (zA 2) rfl) wa)
  (zK (yA (wO (yU 0) (uD (.int 5) (λ_=>.int 5) ai hr rfl (zB (zA 3) zC)) rfl) wa)
  (zK (yA (wO (yU 0) (uD (.int 5) (λ_=>.int 5) ai hr rfl (zB (zA 4) zC)) rfl) wa)
  (zM (yA (wO (yU 0) (uD (.int 5) (λ_=>.int 5) ai hr rfl (zB (zA 5) zC)) rfl) wa)))))),λo ds R h=>?_⟩
 obtain ⟨a,b,c,d,e,rfl,f1,f3,f4,f5,q⟩:=h
 refine ⟨a,5,rfl,f1,⟨TRooms.cl,ARooms.n_rooms⟩,by decide +kernel,by decide,rfl,?_⟩
 refine ⟨⟨TRooms.cl,ARooms.n_back⟩,by decide +kernel,by decide,rfl,?_⟩
 refine ⟨c,5,rfl,f3,⟨TRooms.cl,ARooms.n_starts⟩,by decide +kernel,by decide,rfl,?_⟩
 refine ⟨d,5,rfl,f4,⟨TRooms.cl,ARooms.n_steps⟩,by decide +kernel,by decide,rfl,?_⟩
 exact ⟨e,5,rfl,f5,⟨TRooms.cl,ARooms.n_stays⟩,by decide +kernel,by decide,rfl,rfl,q⟩
theorem zFW {k:Nat} {f:Addr} {fd:FuncData} (F:zc K "settles_over" "settles_over" JK f fd) (B:Bl mg) (av:Fn P w K mg base "is_from_0_on" ["value"] k (zJ (Xf))) (au:Fn P w K mg base "is_room" ["value","many"] k (zJ (XN))):zG P w K mg base zX (k + 1) f fd ["claim","many"] (zJ (zQo aSettles)):=by
 refine zu F zFD (λds R h=>by obtain ⟨s,g,t,n,rfl,_⟩:=h; rfl) λcdv A outer s H E hr=>⟨_,(zM (zV (wE (zP au hr rfl (zB (yK K (zA 0) rfl) (zB (zA 1) zC))) (wE (zP au hr rfl (zB (yK K (zA 0) rfl) (zB (zA 1) zC))) (vT (zP av hr rfl (zB (yK K (zA 0) rfl) zC))))))),λds R h=>?_⟩
 obtain ⟨s,g,t,n,rfl,n3,RS,RG,t0,q⟩:=h
 refine ⟨⟨TSettles.cl,ASettles.n_start⟩,_,rfl,_,_,3,rfl,ql (by have:=RS.few; omega) (λr hr=>by rw [(RS.row r hr).1]; omega),wT (by rw [XY λr hr=>by rw [(RS.row r hr).1]; rfl]) ?_⟩
 refine ⟨⟨TSettles.cl,ASettles.n_rows⟩,_,rfl,_,_,3,rfl,ql (by have:=RG.few; omega) (λr hr=>by rw [(RG.row r hr).1]; omega),wT (by rw [XY λr hr=>by rw [(RG.row r hr).1]; rfl]) ?_⟩
 exact ⟨⟨TSettles.cl,ASettles.n_turn⟩,_,rfl,_,rfl,rfl,bR q (decide_eq_true t0).symm⟩
theorem zHS {k:Nat} {f:Addr} {fd:FuncData} (F:zc K "are_rooms" "are_rooms" Xo f fd) (B:Bl mg) (au:Fn P w K mg base "is_room" ["value","many"] k (zJ (XN))):zG P w K mg base zX (k + 1) f fd ["value","many"] (zJ (zQv)):=by
 refine zu F zHG (λds R h=>by obtain ⟨rooms,n,rfl,_⟩:=h; rfl) λcdv A outer s H E hr=>⟨_,(zM (zV (wE (yG (xS wx rfl B.isinstance_ xm (zo (zA 0) (zo (wu (v:=.ty "list") (u:=.type "list") rfl B.list_ xn rfl) yJ))) (w6 ug)) (vT (zq (wR rfl) wY rfl B.all_ wS (zB (yQ (own:=["room"]) (caps:=[(1,"many")]) (yC (S:=zL Xo) (N:=["value","many"]) rfl (by decide +kernel) rfl ⟨_,rfl⟩ rfl (by decide +kernel) (by decide +kernel)) rfl rfl yF (yS (zA 0)) (λ_ _ _ _=>(zt 0 (show (["room","many"]:List Str).Nodup by decide +kernel) rfl (Or.inl rfl))) (λ_ _ _ _=>(zP au hr rfl (zB (zA 0) (zB (zA 1) zC))))) zC)))))),λds R h=>?_⟩
 obtain ⟨rooms,n,rfl,RR,n3,q⟩:=h
 have few:=RR.few
 refine ⟨rfl,wT rfl (wn Rm j5 Xm (λ_=>.bool true) (by omega) (λr hr=>?_) ⟨rooms.map λ_=>true,by rw [List.map_map]; rfl,bR q ?_⟩)⟩
 ·have h:=RR.rm r hr
  refine ⟨_,_,3,rfl,ql (by have:=h.few; omega) (λr hr=>by rw [(h.row r hr).1]; omega),?_⟩
  rw [XY λr hr=>by rw [(h.row r hr).1]; rfl]
 ·rw [List.all_map]
  exact (List.all_eq_true.mpr λ_ _=>rfl).symm
theorem zFX {k:Nat} {f:Addr} {fd:FuncData} (F:zc K "rooms_follow" "rooms_follow" Xp f fd) (B:Bl mg) (ao:Fn P w K mg base "is_list_of" ["value","count"] k (zJ (ZX))) (bi:Fn P w K mg base "leads" ["thing","room","behind","steps"] k (zJ (zN9 ah ag))):zG P w K mg base zX (k + 1) f fd ["thing","paper"] (zJ (zLh ah ag aRooms)):=by
 refine zu F zDJ (λds R h=>by obtain ⟨n,bs,ms,rooms,b,A1,A2,A3,k,rfl,_⟩:=h; rfl) λcdv A outer s H E hr=>⟨_,(zK (yI (xD (yb (zP ao hr rfl (zB (yK K (zA 1) rfl) (zB (zq yV yX rfl B.len_ yW (zB (yK K (zA 1) rfl) zC)) zC))))) (zM (zV xb)) yH)
  (zK (ze 2 zDJ.nd rfl (Or.inl rfl) (zh (y9 (yK K (zA 1) rfl) (yt zD) y8) (yh (zB (zR (yK K (zA 1) rfl) (yK K (zA 1) rfl) (λ_ _=>rfl)) zC))))
  (zM (zV (zq (wR rfl) wY rfl B.all_ wS (zB (yQ (own:=["room","behind","steps"]) (caps:=[(0,"thing")]) (yC (S:=zL Xp) (N:=["thing","paper","following"]) rfl (by decide +kernel) rfl ⟨_,rfl⟩ rfl (by decide +kernel) (by decide +kernel)) rfl rfl (ji (vL (vL (vL jk)))) (zMh rfl B.zip_ (zB (yK K (zA 1) rfl) (zB (zA 2) (zB (yK K (zA 1) rfl) zC)))) (λ_ _ _ _=>(xh rfl (zm 0 (show (["room","behind","steps","thing"]:List Str).Nodup by decide +kernel) rfl (Or.inl rfl) (zm 1 (show (["room","behind","steps","thing"]:List Str).Nodup by decide +kernel) rfl (Or.inl rfl) (zm 2 (show (["room","behind","steps","thing"]:List Str).Nodup by decide +kernel) rfl (Or.inl rfl) xf))))) (λ_ _ _ _=>(zP bi hr rfl (zB (zA 3) (zB (zA 0) (zB (zA 1) (zB (zA 2) zC))))))) zC)))))),λds R h=>?_⟩
 obtain ⟨n,bs,ms,rooms,b,A1,A2,A3,k,rfl,TS,RR,b0,bl,F2,B2,q⟩:=h
 have few:=RR.few
 have lm:(List.map Rm rooms).length=rooms.length:=List.length_map ..
 refine ⟨⟨TRooms.cl,ARooms.n_steps⟩,_,rfl,⟨TRooms.cl,ARooms.n_rooms⟩,_,rfl,A2,_,k,rfl,F2,w2 (λc1=>bR q (zJv (by rw [lm] at c1; exact qp c1))) λc1=>?_⟩
 rw [lm] at c1
 obtain ⟨as,rfl,la⟩:=Xc (jz c1)
 obtain ⟨es,e1,le,j,rfl,hj⟩:=F2.lst_inv rfl
 cases e1
 have B2:=B2 as rfl
 have ef:D.lst (zU (rooms.map Rm) (some 1) none++[Rm (rooms.getD b.toNat [])])=uG (rooms.drop 1++[rooms.getD b.toNat []]):=by
  unfold uG
  rw [j6 (by decide),List.map_append,List.map_drop]
  rfl
 have hf:∀ r∈rooms.drop 1++[rooms.getD b.toNat []],wo r n:=λr hr=>by
  rcases List.mem_append.mp hr with hr | hr
  ·exact RR.rm r (List.mem_of_mem_drop hr)
  ·rw [List.mem_singleton.mp hr]
   exact RR.rm _ (JH (by omega))
 refine ⟨⟨TRooms.cl,ARooms.n_rooms⟩,_,rfl,⟨TRooms.cl,ARooms.n_rooms⟩,_,rfl,⟨TRooms.cl,ARooms.n_back⟩,_,rfl,_,Za b0 bl,k0,by rw [j6 (by decide),List.length_drop,lm]; show _ + 1<=1000; omega,?_⟩
 rw [ef]
 refine ⟨⟨TRooms.cl,ARooms.n_rooms⟩,_,rfl,⟨TRooms.cl,ARooms.n_steps⟩,_,rfl,?_⟩
 refine zj.cast (zNg Rm Rm rooms (rooms.drop 1++[rooms.getD b.toNat []]) as) (wn (λp:List (List Int) × List (List Int) × D=>ZK (Rm p.1) (Rm p.2.1) p.2.2) (λd=>match d with | .tup [x,y,z]=>(j5 x,j5 y,z) | _=>([],[],.non)) (λp=>by show (j5 (Rm p.1),j5 (Rm p.2.1),p.2.2)=p; rw [Xm,Xm]) (λp=>.bool (jG n bs ms p.1 p.2.1 p.2.2)) (by rw [List.length_zip]; omega) (λp hp=>?_) ⟨(rooms.zip ((rooms.drop 1++[rooms.getD b.toNat []]).zip as)).map λp=>jG n bs ms p.1 p.2.1 p.2.2,by rw [List.map_map]; rfl,bR q ?_⟩)
 ·have h1:=(List.of_mem_zip hp).1
  have h2:=List.of_mem_zip (List.of_mem_zip hp).2
  exact ⟨n,bs,ms,p.1,p.2.1,p.2.2,j,rfl,TS,RR.rm _ h1,hf _ h2.1,hj _ h2.2,B2 _ h2.2,rfl⟩
 ·rw [vf]
  show (decide _ && _)=_
  rw [decide_eq_true la]
  rfl
theorem zGh {k:Nat} {f:Addr} {fd:FuncData} (F:zc K "rooms_stay" "rooms_stay" Xq f fd) (B:Bl mg) (ao:Fn P w K mg base "is_list_of" ["value","count"] k (zJ (ZX))) (aw:Fn P w K mg base "each_shown" ["rows","targets","shares"] k (zJ (Xg))):zG P w K mg base zX (k + 1) f fd ["claim","paper"] (zJ (zQm aSettles aRooms)):=by
 refine zu F zDx (λds R h=>by obtain ⟨n,s,g,t,rooms,b,A1,A2,A3,k,rfl,_⟩:=h; rfl) λcdv A outer s H E hr=>⟨_,(zK (yI (xD (yb (zP ao hr rfl (zB (yK K (zA 1) rfl) (zB (zq yV yX rfl B.len_ yW (zB (yK K (zA 1) rfl) zC)) zC))))) (zM (zV xb)) yH)
  (zK (ze 2 zDx.nd rfl (Or.inl rfl) (zq (Qb rfl) K3 rfl B.min_ zHk (zB (yK K (zA 1) rfl) (zB (yK K (zA 0) rfl) zC))))
  (zM (zV (zq (wR rfl) wY rfl B.all_ wS (zB (yQ (own:=["room","shares"]) (caps:=[(0,"claim")]) (yC (S:=zL Xq) (N:=["claim","paper","first"]) rfl (by decide +kernel) rfl ⟨_,rfl⟩ rfl (by decide +kernel) (by decide +kernel)) rfl rfl (ji (vL (vL jk))) (jB rfl B.zip_ (zB (y9 (yK K (zA 1) rfl) (yt (zA 2)) y8) (zB (y9 (yK K (zA 1) rfl) (yt (zA 2)) y8) zC))) (λ_ _ _ _=>(xh rfl (zm 0 (show (["room","shares","claim"]:List Str).Nodup by decide +kernel) rfl (Or.inl rfl) (zm 1 (show (["room","shares","claim"]:List Str).Nodup by decide +kernel) rfl (Or.inl rfl) xf)))) (λ_ _ _ _=>(zP aw hr rfl (zB (zA 0) (zB (yK K (zA 2) rfl) (zB (zA 1) zC)))))) zC)))))),λds R h=>?_⟩
 obtain ⟨n,s,g,t,rooms,b,A1,A2,A3,k,rfl,n3,RR,RG,t0,b0,F3,B3,q⟩:=h
 have few:=RR.few
 have lm:(List.map Rm rooms).length=rooms.length:=List.length_map ..
 refine ⟨⟨TRooms.cl,ARooms.n_stays⟩,_,rfl,⟨TRooms.cl,ARooms.n_rooms⟩,_,rfl,A3,_,k,rfl,F3,w2 (λc1=>bR q (zMX (by rw [lm] at c1; exact qp c1))) λc1=>?_⟩
 rw [lm] at c1
 obtain ⟨as,rfl,la⟩:=Xc (jz c1)
 obtain ⟨es,e1,le,j,rfl,hj⟩:=F3.lst_inv rfl
 cases e1
 have B3:=B3 as rfl
 have m0:0<=min b t:=by omega
 refine ⟨⟨TRooms.cl,ARooms.n_back⟩,_,rfl,⟨TSettles.cl,ASettles.n_turn⟩,_,rfl,⟨TRooms.cl,ARooms.n_rooms⟩,_,rfl,⟨TRooms.cl,ARooms.n_stays⟩,_,rfl,?_⟩
 refine zj.cast (ds':=List.zipWith xL ((rooms.drop (min b t).toNat).map Rm) (as.drop (min b t).toNat)) (by rw [j6 m0,j6 m0,<- List.map_drop]) (JA Rm j5 Xm (λr a=>uF r g n a) (by rw [List.length_drop]; omega) (λr a hm=>?_) ⟨_,rfl,bR q ?_⟩)
 ·have h1:=List.mem_of_mem_drop (List.of_mem_zip hm).1
  have h2:=List.mem_of_mem_drop (List.of_mem_zip hm).2
  exact ⟨⟨TSettles.cl,ASettles.n_rows⟩,_,rfl,r,g,n,a,j,rfl,(RR.rm r h1).rw n3,RG.rw n3,hj a h2,B3 a h2,rfl⟩
 ·rw [vf]
  show (decide _ && _)=_
  rw [decide_eq_true la]
  rfl
theorem zEt {k:Nat} {f:Addr} {fd:FuncData} (F:zc K "lets_rooms_by" "lets_rooms_by" JL f fd) (B:Bl mg) (bj:Fn P w K mg base "are_rooms" ["value","many"] k (zJ (zQv))) (bA:Fn P w K mg base "settles_over" ["claim","many"] k (zJ (zQo aSettles))) (av:Fn P w K mg base "is_from_0_on" ["value"] k (zJ (Xf))) (aw:Fn P w K mg base "each_shown" ["rows","targets","shares"] k (zJ (Xg))) (bB:Fn P w K mg base "rooms_stay" ["claim","paper"] k (zJ (zQm aSettles aRooms))) (bC:Fn P w K mg base "rooms_follow" ["thing","paper"] k (zJ (zLh ah ag aRooms))):zG P w K mg base zX (k + 1) f fd ["thing","claim","paper"] (zJ (Xn ah ag aSettles aRooms)):=by
 refine zu F zEr (λds R h=>by obtain ⟨n,bs,ms,s,g,t,rooms,BK,A1,A2,A3,k,rfl,_⟩:=h; rfl) λcdv A outer s H E hr=>⟨_,(zK (yI (PW.pt (wM (xD (yb (zP bA hr rfl (zB (zA 1) (zB (yK K (zA 0) rfl) zC))))) (w4 (xD (yb (zP bj hr rfl (zB (yK K (zA 2) rfl) (zB (yK K (zA 0) rfl) zC)))))))) (zM (zV xb)) yH)
  (zK (yI (PW.pt (wM (xD (yb (zP av hr rfl (zB (yK K (zA 2) rfl) zC)))) (w4 (Y0 (yK K (zA 2) rfl) (zq yV yX rfl B.len_ yW (zB (yK K (zA 2) rfl) zC)))))) (zM (zV xb)) yH)
  (zK (yI (xD (yb (zP aw hr rfl (zB (yK K (zA 1) rfl) (zB (zR (yK K (zA 2) rfl) zD (λ_ _=>rfl)) (zB (yK K (zA 2) rfl) zC)))))) (zM (zV xb)) yH)
  (zM (zV (wE (zP bC hr rfl (zB (zA 0) (zB (zA 2) zC))) (vT (zP bB hr rfl (zB (zA 1) (zB (zA 2) zC)))))))))),λds R h=>?_⟩
 obtain ⟨n,bs,ms,s,g,t,rooms,BK,A1,A2,A3,k,rfl,TS,RS,RG,t0,RR,bo,F1,F2,F3,B1,B2,B3,cl,q⟩:=h
 have n3:=TS.ok.n3
 have lm:(List.map Rm rooms).length=rooms.length:=List.length_map ..
 refine ⟨⟨ac.cl,ae.n_many⟩,_,rfl,s,g,t,n,rfl,n3,RS,RG,t0,wF rfl ?_⟩
 refine ⟨⟨TRooms.cl,ARooms.n_rooms⟩,_,rfl,⟨ac.cl,ae.n_many⟩,_,rfl,rooms,n,rfl,RR,n3,wF rfl ?_⟩
 refine ⟨⟨TRooms.cl,ARooms.n_back⟩,_,rfl,BK,rfl,bo,w2 (λc1=>wT rfl (bR q ?_)) λc1=>?_⟩
 ·have c1:=qp c1
  cases BK with
  | int b=>exact if_pos (.inl (by have:=of_decide_eq_false c1; omega))
  | _=>rfl
 obtain ⟨b,rfl,b0⟩:∃ b,BK=.int b/\0<=b:=by
  have c1:=jz c1
  cases BK with
  | int b=>exact ⟨b,rfl,of_decide_eq_true c1⟩
  | _=>cases c1
 refine ⟨⟨TRooms.cl,ARooms.n_back⟩,_,rfl,⟨TRooms.cl,ARooms.n_rooms⟩,_,rfl,w2 (λc2=>bR q (if_pos (.inr (by have:=of_decide_eq_true c2; omega)))) λc2=>?_⟩
 have bl:b < (rooms.length:Int):=by have:=of_decide_eq_false c2; omega
 have z:j4 n bs ms s g t rooms (.int b) A1 A2 A3=(uF s (rooms.getD 0 []) n A1 && (qr n bs ms rooms b.toNat A2 && qt n rooms (min b t).toNat g A3)):=if_neg (by omega)
 rw [z] at q
 refine ⟨⟨TSettles.cl,ASettles.n_start⟩,_,rfl,⟨TRooms.cl,ARooms.n_rooms⟩,_,rfl,_,Za (b:=0) (by decide) (by omega),⟨TRooms.cl,ARooms.n_starts⟩,_,rfl,s,rooms.getD 0 [],n,A1,k,rfl,RS.rw n3,(RR.rm _ (JH (by omega))).rw n3,F1,B1,w2 (λc3=>bR q (by rw [qp c3]; rfl)) λc3=>?_⟩
 rw [jz c3] at q
 refine ⟨n,bs,ms,rooms,b,A1,A2,A3,k,rfl,TS,RR,b0,bl,F2,B2,w2 (λc4=>?_) λc4=>bR q (by rw [c4]; rfl)⟩
 rw [c4] at q
 exact ⟨n,s,g,t,rooms,b,A1,A2,A3,k,rfl,n3,RR,RG,t0,b0,F3,B3,q⟩
theorem zJa {k:Nat} {f:Addr} {fd:FuncData} (F:zc K "lets_by" "lets_by" JM f fd) (B:Bl mg) (bE:Fn P w K mg base "ask_closed" ["thing"] k (zJ (zGC ah ag))) (bF:Fn P w K mg base "lets_rooms_by" ["thing","claim","paper"] k (zJ (Xn ah ag aSettles aRooms))) (bG:Fn P w K mg base "lets_fall_by" ["thing","claim","paper"] k (zJ fNo)):zG P w K mg base zX (k + 1) f fd ["thing","claim","paper"] (zJ (Xn ah ag aSettles aRooms)):=by
 refine zu F zJT (λds R h=>by obtain ⟨n,bs,ms,s,g,t,rooms,BK,A1,A2,A3,k,rfl,_⟩:=h; rfl) λcdv A outer s H E hr=>⟨_,(zK (zMg (zP bE hr rfl (zB (zA 0) zC)))
  (zK (yI (PW.pt (Kx (yb (yG (xS gu rfl B.isinstance_ xm (zo (zA 1) (zo (gr TSettles rfl) yJ))) ZC)) (Kw (yb (yG (xS gu rfl B.isinstance_ xm (zo (zA 2) (zo (gr TRooms rfl) yJ))) ZC))))) (zM (zV (zP bF hr rfl (zB (zA 0) (zB (zA 1) (zB (zA 2) zC)))))) yH)
  (zK (yI (PW.pt (Kx (yb (yG (xS gu rfl B.isinstance_ xm (zo (zA 1) (zo (gr TComes rfl) yJ))) ZC)) (Kw (yb (yG (xS gu rfl B.isinstance_ xm (zo (zA 2) (zo (gr TFalls rfl) yJ))) ZC))))) (zM (zV (zP bG hr rfl (zB (zA 0) (zB (zA 1) (zB (zA 2) zC)))))) yH)
  (zM (zV xb))))),λds R h=>?_⟩
 obtain ⟨n,bs,ms,s,g,t,rooms,BK,A1,A2,A3,k,rfl,TS,RS,RG,t0,RR,bo,F1,F2,F3,B1,B2,B3,cl,q⟩:=h
 refine ⟨n,bs,ms,rfl,TS.ok,cl,?_⟩
 refine ⟨⟨_,_,TSettles⟩,_,W4,wT rfl ?_⟩
 refine ⟨⟨_,_,TRooms⟩,_,W4,wT rfl ?_⟩
 exact ⟨n,bs,ms,s,g,t,rooms,BK,A1,A2,A3,k,rfl,TS,RS,RG,t0,RR,bo,F1,F2,F3,B1,B2,B3,cl,q⟩
end
structure qu (e:Nat) (m:MD):Prop where
 nexts:∀ r∈m.nexts,∀ x∈r,Bd e x
 steer:∀ x∈m.steer,Bd e x
 push:∀ r∈m.push,∀ x∈r,Bd e x
 add:∀ x∈m.add,Bd e x
 div:Bd e m.div
 rows:∀ r∈m.rows,∀ x∈r,Bd e x
 few:m.rows.length<=100
theorem qu.ms {e:Nat} {m:MD} (h:qu e m) (k:e<=300):MS m:=⟨λr hr x hx=>(h.nexts r hr x hx).mono k,λr hr x hx=>(h.push r hr x hx).mono k,λx hx=>(h.add x hx).mono k,h.div.mono k,λr hr x hx=>(h.rows r hr x hx).mono k,h.few⟩
section
variable {P:Program} {w:World} {K:PySem.W.Frag} {mg:Str->Option Value} {base:Heap}
variable {aClaim aSettles aComes ag ah aPaper aRooms aFalls:Addr} (TClaim:zE K mg "Claim" aClaim) (AClaim:wc K aClaim) (TSettles:zE K mg "Settles" aSettles) (ASettles:wd K aSettles) (TComes:zE K mg "Comes" aComes) (AComes:we K aComes) (aa:zE K mg "Mode" ag) (ab:wf K ag) (ac:zE K mg "Thing" ah) (ae:wg K ah) (TPaper:zE K mg "Paper" aPaper) (APaper:wj K aPaper) (TRooms:zE K mg "Rooms" aRooms) (ARooms:wl K aRooms) (TFalls:zE K mg "Falls" aFalls) (AFalls:wm K aFalls)
include TClaim AClaim TSettles ASettles TComes AComes aa ab ac ae TPaper APaper TRooms ARooms TFalls AFalls
end
theorem md (a:Int) {b:Int} (h:0 < b):0<=a.fmod b/\a.fmod b < b:=⟨Int.fmod_nonneg_of_pos a h,Int.fmod_lt_of_pos a h⟩
theorem vX {n:Nat} {a b:Int} (h:Bd n b) (p:0 < b):Bd n (a.fmod b):=by
 have:=md a p
 exact h.of_le (by omega)
theorem Zb {n:Nat} (h:n<=3):Bd 2 (n:Int):=by
 show (n:Int).natAbs < 2 ^ 2
 omega
theorem JN {α:Type} {xs:List α} {i:Int} (h0:0<=i) (h1:i < (xs.length:Int)):∃ x∈xs,yR xs i=some x:=by
 obtain ⟨k,rfl⟩:=Int.eq_ofNat_of_zero_le h0
 have hk:k < xs.length:=by omega
 refine ⟨xs[k],List.getElem_mem hk,?_⟩
 unfold yR ww
 rw [if_pos (by omega),if_pos (by omega)]
 show xs[((k:Nat):Int).toNat]? = _
 rw [show ((k:Nat):Int).toNat=k by omega,List.getElem?_eq_getElem hk]
theorem zQ5 {xs:List Int} {i:Int} (h0:0<=i) (h1:i < (xs.length:Int)):∃ x∈xs,yR (xs.map D.int) i=some (.int x):=by
 obtain ⟨x,hx,e⟩:=JN h0 h1
 exact ⟨x,hx,by rw [uA,e]; rfl⟩
theorem xM {xs:List Int} {i:Int} {R:D->Prop} (h0:0<=i) (h1:i < (xs.length:Int)) (q:∀ x∈xs,R (.int x)):∃ d,yR (xs.map D.int) i=some d/\R d:=by
 obtain ⟨x,hx,e⟩:=zQ5 h0 h1
 exact ⟨_,e,q x hx⟩
theorem wq {xs:List D} {i:Int} {R:D->Prop} (h0:0<=i) (h1:i < (xs.length:Int)) (q:∀ x∈xs,R x):∃ d,yR xs i=some d/\R d:=by
 obtain ⟨x,hx,e⟩:=JN h0 h1
 exact ⟨_,e,q x hx⟩
theorem zQ4 {y f:Int} {n:Nat} (h:Bd n f) (h1 : -f<=y) (h2:y<=f):Bd n y:=h.of_le (by omega)
theorem wN {α:Type} {P:α->Prop} {xs:List α} {y:α} (h:∀ x∈xs,P x) (k:P y):∀ x∈xs++[y],P x:=λx hx=>by
 rcases List.mem_append.mp hx with hx | hx
 ·exact h x hx
 ·rw [List.mem_singleton.mp hx]; exact k
theorem zNU {xs:List D} {k:Nat}:zU xs (some (k:Int)) none=xs.drop k:=by
 unfold zU
 rw [HT.sIx_none,HT.sIx_nat,List.take_of_length_le (by rw [List.length_drop]; omega)]
 by_cases h:k<=xs.length
 ·rw [Nat.min_eq_left h]
 ·rw [Nat.min_eq_right (by omega),List.drop_length,List.drop_of_length_le (by omega)]
abbrev Xr:Int:=10 ^ (45:Int).toNat
def JO:FL:=λds R=>∃ ns k,ds=[.scr ns,.int k]/\0<=k/\∀ c,R (.int c)
def JP (xs:List Int):Prop:=∀ x∈xs,0<=x/\Bd 150 x
def j7:FL:=λds R=>∃ (c:Int) (n:Nat),ds=[.int c,.int (n:Int)]/\n<=100/\∀ xs,xs.length=n->JP xs->R (L xs)
def Xs:FL:=λds R=>∃ x far:Int,ds=[.int x,.int far]/\0<=far/\Bd 9000 far/\∀ y,-far<=y->y<=far->R (.int y)
def Zc:FL:=λds R=>∃ (c:Int) (n:Nat) (u:Int),ds=[.int c,.int (n:Int),.int u]/\n<=3/\0<=u/\Bd 100 u/\∀ bs:List (Int × Int),bs.length=n->(∀ b∈bs,b.1<=b.2/\Bd 105 b.1/\Bd 105 b.2)->R (.lst (bs.map yD))
def xv (n i:Nat) (b:Int × Int):List (List Int):=[y6 (i:Int) n 1++[b.2],(y6 (i:Int) n 1).map (λx=>0 - x)++[0 - b.1]]
def uH (bs:List (Int × Int)):List (List Int):=(bs.mapIdx (xv bs.length)).flatten
def Zd:FL:=λds R=>∃ bs:List (Int × Int),ds=[.lst (bs.map yD)]/\bs.length<=100/\R (Rm (uH bs))
def Xu:FL:=λds R=>∃ (d:D) (ns:List Int),ds=[d]/\IS d ns/\ns.length<=100/\(∀ x∈ns,Bd 200 x)/\∀ ys,ys.length=2 * ns.length->(∀ y∈ys,0<=y/\Bd 200 y)->R (L ys)
abbrev yg (m:MD):D:=.tup [Rm m.rows,Tb m.nexts,L m.steer,Tb m.push,L m.add,.int m.div]
abbrev xw (n:Nat) (bs:List (Int × Int)) (ms:List MD) (u:Int):D:=.tup [.int (n:Int),.lst (bs.map yD),.lst (ms.map yg),.int u]
def zQr (C CM:Addr):FL:=λds R=>∃ n bs ms u,ds=[xw n bs ms u]/\wU n bs ms/\R (vg C CM n bs ms)
theorem zQh (i j:Nat):(if decide ((j:Int)=(i:Int))=true then (1:Int) else 0)=if (j:Int)=(i:Int) then 1 else 0:=by
 by_cases c:(j:Int)=(i:Int)
 ·rw [if_pos c,if_pos (decide_eq_true c)]
 ·rw [if_neg c,if_neg (by rw [decide_eq_false c]; exact Bool.false_ne_true)]
theorem JQ {bs:List (Int × Int)} {k:Nat} (h:k < bs.length) {i:Int} (e:i=(k:Int)):yR (bs.map yD) i=some (yD bs[k]):=by
 rw [uA,e]
 unfold yR ww
 rw [if_pos (by omega),if_pos (by omega)]
 show Option.map yD bs[((k:Nat):Int).toNat]? = _
 rw [show ((k:Nat):Int).toNat=k by omega,List.getElem?_eq_getElem h]
 rfl
theorem zMV {α:Type} {l:List (List α)} {k:Nat} {x:List α} (h:l[k]? = some x):(l.take (k + 1)).flatten=(l.take k).flatten++x:=by
 rw [uz h,List.flatten_append,List.flatten_singleton]
section
variable {P:Program} {w:World} {K:PySem.W.Frag} {mg:Str->Option Value} {base:Heap}
abbrev JR:Stmt:=zk 68
theorem zHF:zb ["_law_script","_law_k"] ["_law_script","_law_k"] (zL JR):=.a
abbrev JS:Stmt:=zk 69
theorem jI:zb ["_law_cell","_law_many","_law_found","_law_rest","_law_k","_law_number_here"] ["_law_cell","_law_many"] (zL JS):=.a
abbrev JT:Stmt:=zk 76
theorem zHw:zb ["_law_x","_law_far"] ["_law_x","_law_far"] (zL JT):=.a
abbrev JU:Stmt:=zk 80
theorem Ze:zb ["_law_cell","_law_many","_law_unit","_law_xs","_law_box_here","_law_i","_law_low"] ["_law_cell","_law_many","_law_unit"] (zL JU):=.a
abbrev Zf:Stmt:=zk 81
theorem Xv:zb ["_law_box_here","_law_rows_here","_law_i","_law_ones"] ["_law_box_here"] (zL Zf):=.a
variable {aClaim aSettles aComes ag ah aPaper aRooms aFalls:Addr} (TClaim:zE K mg "Claim" aClaim) (AClaim:wc K aClaim) (TSettles:zE K mg "Settles" aSettles) (ASettles:wd K aSettles) (TComes:zE K mg "Comes" aComes) (AComes:we K aComes) (aa:zE K mg "Mode" ag) (ab:wf K ag) (ac:zE K mg "Thing" ah) (ae:wg K ah) (TPaper:zE K mg "Paper" aPaper) (APaper:wj K aPaper) (TRooms:zE K mg "Rooms" aRooms) (ARooms:wl K aRooms) (TFalls:zE K mg "Falls" aFalls) (AFalls:wm K aFalls)
include TClaim AClaim TSettles ASettles TComes AComes aa ab ac ae TPaper APaper TRooms ARooms TFalls AFalls
theorem zHR {k:Nat} {f:Addr} {fd:FuncData} (F:zc K "_law_cell_at" "_law_cell_at" JR f fd) (B:Bl mg):zG P w K mg base zX (k + 1) f fd ["_law_script","_law_k"] (zJ (JO)):=by
 refine zu F zHF (λds R h=>by obtain ⟨ns,k,rfl,_⟩:=h; rfl) λcdv A outer s H E hr=>⟨_,(zK (yI (UH (zA 1) (zq yV yX rfl B.len_ yW (zB (zA 0) zC))) (zM (zV (zR (zA 0) (zA 1) (λ_ _=>rfl)))) yH)
  (zM (zV zD))),λds R h=>?_⟩
 obtain ⟨ns,k,rfl,h0,q⟩:=h
 refine w2 (λc=>?_) λc=>q 0
 obtain ⟨x,_,e⟩:=JN h0 (of_decide_eq_true c)
 exact ⟨x,e,q x⟩
theorem zH8 {k:Nat} {f:Addr} {fd:FuncData} (F:zc K "_law_stream" "_law_stream" JS f fd) (B:Bl mg):zG P w K mg base zX (k + 1) f fd ["_law_cell","_law_many"] (zJ (j7)):=by
 refine zu F jI (λds R h=>by obtain ⟨c,n,rfl,_⟩:=h; rfl) λcdv A outer s H E hr=>⟨_,(zK (wZ 2 jI.nd rfl (Or.inl rfl) zC)
  (zK (yI (Y0 (zA 0) (ud zD zD)) (zK (ze 3 jI.nd rfl (Or.inl rfl) (xc (zA 0) (ud zD zD)))
   (zK (xW PassesOwn.never rfl (xE rfl B.range_ (zB (zA 1) zC)) (zt 4 jI.nd rfl (Or.inl rfl)) (zK (yA (xa (xl PySem.F.plainAttrs_list PySem.F.slot_list_append PySem.F.type_list_append yO (yU 2) (zo (ye (zA 3) (ud zD zD)) yJ))) xr)
    (zM (ze 3 jI.nd rfl (Or.inl rfl) (xq (zA 3) (ud zD zD))))))
   (zM (wG 2 (zV (zA 2)))))) yH)
  (zK (ze 5 jI.nd rfl (Or.inl rfl) (zh (ye (zA 0) (zh (ud zD zD) zD)) zD))
  (zK (xW PassesOwn.never rfl (xE rfl B.range_ (zB (zh (zA 1) zD) zC)) (zt 4 jI.nd rfl (Or.inl rfl)) (zK (ze 5 jI.nd rfl (Or.inl rfl) (ye (zh (zh (ya (zA 5) (zA 5)) (ya zD (zA 5))) (zA 4)) (zh (ud zD zD) zD)))
   (zM (yA (xa (xl PySem.F.plainAttrs_list PySem.F.slot_list_append PySem.F.type_list_append yO (yU 2) (zo (zA 5) yJ))) xr))))
  (zM (wG 2 (zV (y9 (zA 2) (yt zD) y8)))))))),λds R h=>?_⟩
 obtain ⟨c,n,rfl,n1,q⟩:=h
 have b45:Bd 150 Xr:=Bd.lit
 have p45:(0:Int) < Xr:=by decide
 have b18:Bd 60 ((10:Int) ^ (18:Int).toNat + 9):=Bd.lit
 have p18:(0:Int) < (10:Int) ^ (18:Int).toNat + 9:=by decide
 refine ⟨k0,⟨by decide,by decide,by decide⟩,w2 (λc1=>?_) λc1=>?_⟩
 ·refine ⟨⟨by decide,by decide,by decide⟩,by omega,by omega,?_⟩
  rw [show ((n:Nat):Int).toNat=n by omega]
  refine ⟨λk Γ=>∃ (xs:List Int) (r:Int) (s4:Sl),Γ=[.sh (.int c),.sh (.int (n:Int)),.ow (xs.map D.int),.sh (.int r),s4,.no]/\xs.length=k/\JP xs,⟨[],_,.no,rfl,rfl,λ_ h=>nomatch h⟩,?_,?_⟩
  ·rintro k d Γ' hk ⟨xs,r,s4,rfl,lx,hx⟩
   obtain ⟨kn,rfl⟩:=vI hk
   refine ⟨⟨by decide,by decide,by decide⟩,by decide,by rw [List.length_map]; omega,?_⟩
   refine ⟨⟨by decide,by decide,by decide⟩,by decide,b45.mono,?_⟩
   refine ⟨xs++[r.fmod Xr],r.fdiv Xr,.sh (.int (k:Int)),?_,by rw [List.length_append,lx]; rfl,wN hx ⟨(md r p45).1,vX b45 p45⟩⟩
   rw [List.map_append]
   rfl
  ·rintro Γ' ⟨xs,r,s4,rfl,lx,hx⟩
   rw [vJ] at lx
   exact q xs lx hx
 ·refine ⟨⟨by decide,by decide,by decide⟩,by decide,?_⟩
  have m0:=md c p18
  have bm:Bd 60 (c.fmod ((10:Int) ^ (18:Int).toNat + 9)):=vX b18 p18
  refine ⟨by omega,by omega,?_⟩
  rw [show ((n:Int) + 2).toNat=n + 2 by omega]
  refine ⟨λk Γ=>∃ (xs:List Int) (r:Int) (s4:Sl),Γ=[.sh (.int c),.sh (.int (n:Int)),.ow (xs.map D.int),.no,s4,.sh (.int r)]/\xs.length=k/\JP xs/\Bd 70 r,⟨[],_,.no,rfl,rfl,(λ_ h=>nomatch h),((bm.mono (show 60<=65 by decide)).add ((Bd.lit (i:=48271) (n:=16)).mono (show 16<=65 by decide))).mono⟩,?_,?_⟩
  ·rintro k d Γ' hk ⟨xs,r,s4,rfl,lx,hx,br⟩
   obtain ⟨kn,rfl⟩:=vI hk
   refine ⟨br.mono,br.mono,(Bd.lit (i:=48271) (n:=16)).mono,br.mono,⟨by decide,by decide,by decide⟩,by decide,by rw [List.length_map]; omega,?_⟩
   refine ⟨xs++[(r * r + 48271 * r + (k:Int)).fmod ((10:Int) ^ (18:Int).toNat + 9)],(r * r + 48271 * r + (k:Int)).fmod ((10:Int) ^ (18:Int).toNat + 9),.sh (.int (k:Int)),?_,?_,wN hx ⟨(md (r * r + 48271 * r + (k:Int)) p18).1,(vX b18 p18).mono⟩,(vX b18 p18).mono⟩
   ·rw [List.map_append]
    rfl
   ·rw [List.length_append,lx]; rfl
  ·rintro Γ' ⟨xs,r,s4,rfl,lx,hx,br⟩
   rw [vJ] at lx
   have e:zU (xs.map D.int) (some 2) none=(xs.drop 2).map D.int:=by rw [show (2:Int)=((2:Nat):Int) from rfl,zNU,List.map_drop]
   have qq:=q (xs.drop 2) (by rw [List.length_drop]; omega) (λx hx'=>hx x (List.mem_of_mem_drop hx'))
   unfold L at qq
   rw [<- e] at qq
   exact qq
theorem zIA {k:Nat} {f:Addr} {fd:FuncData} (F:zc K "_law_number" "_law_number" JT f fd) (B:Bl mg):zG P w K mg base zX (k + 1) f fd ["_law_x","_law_far"] (zJ (Xs)):=by
 refine zu F zHw (λds R h=>by obtain ⟨x,far,rfl,_⟩:=h; rfl) λcdv A outer s H E hr=>⟨_,(zM (zV (xc (ye (zA 0) (zh (ya zD (zA 1)) zD)) (zA 1)))),λds R h=>?_⟩
 obtain ⟨x,far,rfl,f0,bf,q⟩:=h
 have:=md x (show (0:Int) < 2 * far + 1 by omega)
 exact ⟨(Bd.lit (i:=2) (n:=2)).mono,bf.mono,by omega,q _ (by omega) (by omega)⟩
theorem zM5 {k:Nat} {f:Addr} {fd:FuncData} (F:zc K "_law_box" "_law_box" JU f fd) (B:Bl mg) (ak:Fn P w K mg base "_law_stream" ["_law_cell","_law_many"] k (zJ (j7))) (al:Fn P w K mg base "_law_number" ["_law_x","_law_far"] k (zJ (Xs))):zG P w K mg base zX (k + 1) f fd ["_law_cell","_law_many","_law_unit"] (zJ (Zc)):=by
 refine zu F Ze (λds R h=>by obtain ⟨c,n,u,rfl,_⟩:=h; rfl) λcdv A outer s H E hr=>⟨_,(zK (ze 3 Ze.nd rfl (Or.inl rfl) (zP ak hr rfl (zB (zA 0) (zB (ya zD (zA 1)) zC))))
  (zK (wZ 4 Ze.nd rfl (Or.inl rfl) zC)
  (zK (xW PassesOwn.never rfl (xE rfl B.range_ (zB (zA 1) zC)) (zt 5 Ze.nd rfl (Or.inl rfl)) (zK (ze 6 Ze.nd rfl (Or.inl rfl) (ya (zP al hr rfl (zB (zR (zA 3) (ya zD (zA 5)) (λ_ _=>rfl)) (zB zD zC))) (zA 2)))
   (zM (yA (xa (xl PySem.F.plainAttrs_list PySem.F.slot_list_append PySem.F.type_list_append yO (yU 4) (zo (xU (zB (zA 6) (zB (zh (zh (zA 6) (ya (ye (zR (zA 3) (zh (ya zD (zA 5)) zD) (λ_ _=>rfl)) zD) (zA 2))) (ye (xq (zR (zA 3) (zh (ya zD (zA 5)) zD) (λ_ _=>rfl)) zD) zD)) zC))) yJ))) xr))))
  (zM (wG 4 (zV (zA 4))))))),λds R h=>?_⟩
 obtain ⟨c,n,u,rfl,n3,u0,bu,q⟩:=h
 have b2:Bd 2 (2:Int):=Bd.lit
 refine ⟨b2.mono,(Zb n3).mono,c,2 * n,by rw [show ((2 * n:Nat):Int)=2 * (n:Int) by omega],by omega,λxs lx hx=>?_⟩
 refine ⟨k0,by omega,by omega,?_⟩
 rw [show ((n:Nat):Int).toNat=n by omega]
 refine ⟨λk Γ=>∃ (bs:List (Int × Int)) (s5 s6:Sl),Γ=[.sh (.int c),.sh (.int (n:Int)),.sh (.int u),.sh (L xs),.ow (bs.map yD),s5,s6]/\bs.length=k/\∀ b∈bs,b.1<=b.2/\Bd 105 b.1/\Bd 105 b.2,⟨[],.no,.no,rfl,rfl,λ_ h=>nomatch h⟩,?_,?_⟩
 ·rintro k d Γ' hk ⟨bs,s5,s6,rfl,lb,hb⟩
  obtain ⟨kn,rfl⟩:=vI hk
  have bk:Bd 2 (k:Int):=Zb (by omega)
  refine ⟨b2.mono,bk.mono,xM (by omega) (by omega) λx hx1=>⟨x,3,rfl,by decide,(Bd.lit (i:=3) (n:=2)).mono,λy y1 y2=>?_⟩⟩
  have by2:Bd 2 y:=zQ4 (f:=3) Bd.lit y1 y2
  refine ⟨by2.mono,bu.mono,?_⟩
  refine ⟨b2.mono,bk.mono,xM (by omega) (by omega) λx2 hx2=>⟨by decide,(Bd.mono (n:=3) (vX Bd.lit (by decide)) (by decide)),bu.mono,b2.mono,bk.mono,xM (by omega) (by omega) λx3 hx3=>⟨by decide,(Bd.lit (i:=4) (n:=3)).mono,by decide,k0,by rw [List.length_map]; omega,?_⟩⟩⟩
  have m1:=md x2 (show (0:Int) < 4 by decide)
  have m2:=md (x3.fdiv 4) (show (0:Int) < 2 by decide)
  have g0:0<=x2.fmod 4 * u:=Int.mul_nonneg m1.1 u0
  have c1:Bd 102 (y * u):=by2.mul bu
  have c2:Bd 103 (x2.fmod 4 * u):=(vX (n:=3) Bd.lit (by decide)).mul bu
  have c3:Bd 2 ((x3.fdiv 4).fmod 2):=vX Bd.lit (by decide)
  refine ⟨bs++[(y * u,y * u + x2.fmod 4 * u + (x3.fdiv 4).fmod 2)],.sh (.int (k:Int)),.sh (.int (y * u)),?_,by rw [List.length_append,lb]; rfl,wN hb ⟨by show y * u<=y * u + x2.fmod 4 * u + (x3.fdiv 4).fmod 2; omega,c1.mono,((c1.mono (show 102<=103 by decide)).add c2 |>.add c3.mono).mono⟩⟩
  rw [List.map_append]
  rfl
 ·rintro Γ' ⟨bs,s5,s6,rfl,lb,hb⟩
  rw [vJ] at lb
  exact q bs lb hb
theorem zK0 {k:Nat} {f:Addr} {fd:FuncData} (F:zc K "_law_rows" "_law_rows" Zf f fd) (B:Bl mg):zG P w K mg base zX (k + 1) f fd ["_law_box_here"] (zJ (Zd)):=by
 refine zu F Xv (λds R h=>by obtain ⟨bs,rfl,_⟩:=h; rfl) λcdv A outer s H E hr=>⟨_,(zK (wZ 1 Xv.nd rfl (Or.inl rfl) zC)
  (zK (xW PassesOwn.never rfl (xE rfl B.range_ (zB (zq yV yX rfl B.len_ yW (zB (zA 0) zC)) zC)) (zt 2 Xv.nd rfl (Or.inr rfl)) (zK (uT 3 false Xv.nd rfl rfl (own:=["_law_j"]) (caps:=[(2,"_law_i")]) (yC (S:=zL Zf) (N:=["_law_box_here","_law_rows_here","_law_i","_law_ones"]) rfl (by decide +kernel) rfl ⟨_,rfl⟩ rfl (by decide +kernel) (by decide +kernel)) rfl rfl yF (xE rfl B.range_ (zB (zq yV yX rfl B.len_ yW (zB (zA 0) zC)) zC)) (λ_ _ _ _=>(zt 0 (show (["_law_j","_law_i"]:List Str).Nodup by decide +kernel) rfl (Or.inl rfl))) (λ_ _ _ _=>(xV Qc K4 rfl B.int_ Wy (zB (uR hr.units (zA 0) (zA 1)) zC))) rfl)
   (zK (yA (xa (xl PySem.F.plainAttrs_list PySem.F.slot_list_append PySem.F.type_list_append yO (yU 1) (zo (xV ua uf rfl B.tuple_ vP (zB (zh (zA 3) (yh (zB (zR (zR (zA 0) (zA 2) (λ_ _=>rfl)) zD (λ_ _=>rfl)) zC))) zC)) yJ))) xr)
   (zM (yA (xa (xl PySem.F.plainAttrs_list PySem.F.slot_list_append PySem.F.type_list_append yO (yU 1) (zo (xV ua uf rfl B.tuple_ vP (zB (zh (yQ (own:=["_law_one"]) (caps:=[]) (yC (S:=zL Zf) (N:=["_law_box_here","_law_rows_here","_law_i","_law_ones"]) rfl (by decide +kernel) rfl ⟨_,rfl⟩ rfl (by decide +kernel) (by decide +kernel)) rfl rfl yF (yS (zA 3)) (λ_ _ _ _=>(zt 0 (show (["_law_one"]:List Str).Nodup by decide +kernel) rfl (Or.inl rfl))) (λ_ _ _ _=>(xc zD (zA 0)))) (yh (zB (xc zD (zR (zR (zA 0) (zA 2) (λ_ _=>rfl)) zD (λ_ _=>rfl))) zC))) zC)) yJ))) xr)))))
  (zM (wG 1 (zV (zA 1)))))),λds R h=>?_⟩
 obtain ⟨bs,rfl,l1,q⟩:=h
 have lp:(List.map yD bs).length=bs.length:=List.length_map ..
 refine ⟨k0,by omega,by omega,?_⟩
 rw [show ((List.length (List.map yD bs):Nat):Int).toNat=bs.length by omega]
 refine ⟨λk Γ=>∃ (s2 s3:Sl),Γ=[.sh (.lst (bs.map yD)),.ow ((((bs.mapIdx (xv bs.length)).take k).flatten).map U),s2,s3],⟨.no,.no,rfl⟩,?_,?_⟩
 ·rintro k d Γ' hk ⟨s2,s3,rfl⟩
  obtain ⟨kn,rfl⟩:=vI hk
  have hx:(bs.mapIdx (xv bs.length))[k]? = some (xv bs.length k bs[k]):=by rw [List.getElem?_mapIdx,List.getElem?_eq_getElem kn]; rfl
  have ll:((bs.mapIdx (xv bs.length)).take k).flatten.length=2 * k:=by
   rw [List.length_flatten]
   have e:((bs.mapIdx (xv bs.length)).take k).map List.length=List.replicate k 2:=by
    refine List.ext_getElem (by simp; omega) λi h1 h2=>?_
    simp [xv]
   rw [e]
   simp
   omega
  refine ⟨by omega,by omega,?_⟩
  rw [show ((List.length (List.map yD bs):Nat):Int).toNat=bs.length by omega]
  refine zj.rng0 (λj=>.int (if (j:Int)=(k:Int) then 1 else 0)) (by omega) (λj hj=>by show D.int _=_; rw [zQh]) ?_
  have eu:(List.range bs.length).map (λj:Nat=>D.int (if (j:Int)=(k:Int) then 1 else 0))=(y6 (k:Int) bs.length 1).map D.int:=by unfold y6; rw [List.map_map]; rfl
  rw [eu]
  refine ⟨_,JQ kn rfl,_,rfl,k0,by rw [List.length_map,u8]; show _ + 1<=1000; omega,by rw [List.length_map]; omega,?_⟩
  refine zj.int (λx=>0 - x) (by rw [u8]; omega) (λx hx=>rfl) ?_
  refine ⟨_,JQ kn rfl,_,rfl,k0,by rw [List.length_map,List.length_map,u8]; show _ + 1<=1000; omega,by rw [List.length_append,List.length_map]; show _ + 1 < 1000; omega,?_⟩
  refine ⟨.sh (.int (k:Int)),.sh (L (y6 (k:Int) bs.length 1)),?_⟩
  rw [zMV hx,List.map_append]
  unfold xv
  rw [List.map_cons,List.map_cons,List.map_nil,U,U,List.map_append,List.map_append,<- List.append_cons]
  rfl
 ·rintro Γ' ⟨s2,s3,rfl⟩
  rw [vJ,List.take_of_length_le (by rw [List.length_mapIdx]; omega)]
  exact q
end
theorem IS.zipL {d:D} {ns:List Int} {es:List D} (h:IS d ns) {R:List D->Prop} (q:R (List.zipWith xL (ns.map D.int) es)):uC [d,.lst es] R:=by
 rcases h with rfl | rfl <;> exact q
theorem zNf {α β:Type} {u:α->D} {v:β->D}:∀ {xs:List α} {ys:List β} {d:D},d∈List.zipWith xL (xs.map u) (ys.map v)->∃ x∈xs,∃ y∈ys,d=xL (u x) (v y)
 | [],_,_,h=>by cases h
 | _ :: _,[],_,h=>by cases h
 | x :: xs,y :: ys,d,h=>by
  rw [List.map_cons,List.map_cons,List.zipWith_cons_cons] at h
  rcases List.mem_cons.mp h with rfl | h
  ·exact ⟨x,List.mem_cons_self,y,List.mem_cons_self,rfl⟩
  ·obtain ⟨a,ha,b,hb,e⟩:=zNf h
   exact ⟨a,List.mem_cons_of_mem _ ha,b,List.mem_cons_of_mem _ hb,e⟩
theorem Xw {e:Nat} {a b:Int} (h:Bd e a) (k:Bd e b):Bd e (max a b):=by
 rw [Int.max_def]
 split
 ·exact k
 ·exact h
theorem JV {a:Nat}:∀ {ns:List Int},(∀ x∈ns,Bd a x)->Bd (a + ns.length) ns.sum
 | [],_=>by rw [List.sum_nil]; exact xu
 | n :: ns,h=>by
  rw [List.sum_cons,List.length_cons]
  exact (((h n List.mem_cons_self).mono (show a<=a + ns.length by omega)).add (JV λx hx=>h x (List.mem_cons_of_mem _ hx))).mono (by omega)
theorem zRB (a b:List Int):L (a++b)=.lst (a.map D.int++b.map D.int):=by unfold L; rw [List.map_append]
theorem vA {y:Int} {f n:Nat} (h:f < 2 ^ n) (h1 : -(f:Int)<=y) (h2:y<=(f:Int)):Bd n y:=by
 show y.natAbs < 2 ^ n
 omega
section
variable {P:Program} {w:World} {K:PySem.W.Frag} {mg:Str->Option Value} {base:Heap}
abbrev JW:Stmt:=zk 88
theorem Xx:zb ["_law_numbers","_law_found","_law_number_here"] ["_law_numbers"] (zL JW):=.a
abbrev Zg:Stmt:=zk 79
theorem vh:zb ["_law_spec","_law_many","_law_pushes","_law_modes","_law_unit","_law_some","_law_rows_here","_law_nexts","_law_steer","_law_push","_law_add","_law_divisor_here","_law_lists"] ["_law_spec"] (zL Zg):=.a
variable {aClaim aSettles aComes ag ah aPaper aRooms aFalls:Addr} (TClaim:zE K mg "Claim" aClaim) (AClaim:wc K aClaim) (TSettles:zE K mg "Settles" aSettles) (ASettles:wd K aSettles) (TComes:zE K mg "Comes" aComes) (AComes:we K aComes) (aa:zE K mg "Mode" ag) (ab:wf K ag) (ac:zE K mg "Thing" ah) (ae:wg K ah) (TPaper:zE K mg "Paper" aPaper) (APaper:wj K aPaper) (TRooms:zE K mg "Rooms" aRooms) (ARooms:wl K aRooms) (TFalls:zE K mg "Falls" aFalls) (AFalls:wm K aFalls)
include TClaim AClaim TSettles ASettles TComes AComes aa ab ac ae TPaper APaper TRooms ARooms TFalls AFalls
theorem zK7 {k:Nat} {f:Addr} {fd:FuncData} (F:zc K "_law_both" "_law_both" JW f fd) (B:Bl mg):zG P w K mg base zX (k + 1) f fd ["_law_numbers"] (zJ (Xu)):=by
 refine zu F Xx (λds R h=>by obtain ⟨d,ns,rfl,_⟩:=h; rfl) λcdv A outer s H E hr=>⟨_,(zK (ze 1 Xx.nd rfl (Or.inl rfl) (yh zC))
  (zK (xW PassesOwn.never rfl (yS (zA 0)) (zt 2 Xx.nd rfl (Or.inl rfl)) (zM (ze 1 Xx.nd rfl (Or.inl rfl) (zh (zA 1) (yh (zB (zq (YS rfl) Y3 rfl B.max_ gj (zB (zA 2) (zB zD zC))) (zB (zq (YS rfl) Y3 rfl B.max_ gj (zB (xc zD (zA 2)) (zB zD zC))) zC)))))))
  (zM (zV (zA 1))))),λds R h=>?_⟩
 obtain ⟨d,ns,rfl,h,l3,bn,q⟩:=h
 refine ⟨k0,h.seq ?_⟩
 refine ⟨λk Γ=>∃ (ys:List Int) (s2:Sl),Γ=[.sh d,.sh (L ys),s2]/\ys.length=2 * k/\∀ y∈ys,0<=y/\Bd 200 y,⟨[],.no,rfl,rfl,λ_ h=>nomatch h⟩,?_,?_⟩
 ·rintro k d' Γ' hk ⟨ys,s2,rfl,ly,hy⟩
  have kl:=(List.getElem?_eq_some_iff.mp hk).1
  rw [List.length_map] at kl
  obtain ⟨x,hx,rfl⟩:=List.mem_map.mp (List.mem_of_getElem? hk)
  have bx:=bn x hx
  refine ⟨k0,by rw [List.length_map]; show _ + 2<=1000; omega,?_⟩
  refine ⟨ys++[max x 0,max (0 - x) 0],.sh (.int x),?_,by rw [List.length_append]; show _ + 2=_; omega,λy hy'=>?_⟩
  ·rw [zRB]
   rfl
  ·rcases List.mem_append.mp hy' with hy' | hy'
   ·exact hy y hy'
   ·rcases List.mem_cons.mp hy' with rfl | hy'
    ·exact ⟨by omega,Xw bx xu⟩
    ·rw [List.mem_singleton.mp hy',Int.zero_sub]
     exact ⟨by omega,Xw bx.neg xu⟩
 ·rintro Γ' ⟨ys,s2,rfl,ly,hy⟩
  rw [List.length_map] at ly
  exact q ys ly hy
theorem zK3 {k:Nat} {f:Addr} {fd:FuncData} (F:zc K "_law_made" "_law_made" Zg f fd) (B:Bl mg) (bH:uP P w K mg base ag ["self","rows","nexts","steer","push","add","divisor"] k (w8 ag (zN8 ag))) (bI:uP P w K mg base ah ["self","many","pushes","modes"] k (w8 ah (zLW ah ag))):zG P w K mg base zX (k + 1 + 1) f fd ["_law_spec"] (zJ (zQr ah ag)):=by
 refine zu F vh (λds R h=>by obtain ⟨n,bs,ms,u,rfl,_⟩:=h; rfl) λcdv A outer s H E hr=>⟨_,(zK (uS (zA 0) (xh rfl (zm 1 vh.nd rfl (Or.inl rfl) (zm 2 vh.nd rfl (Or.inl rfl) (zm 3 vh.nd rfl (Or.inl rfl) (zm 4 vh.nd rfl (Or.inl rfl) xf))))))
  (zK (wZ 5 vh.nd rfl (Or.inl rfl) zC)
  (zK (xW PassesOwn.never rfl (yS (zA 3)) (xh rfl (zm 6 vh.nd rfl (Or.inl rfl) (zm 7 vh.nd rfl (Or.inl rfl) (zm 8 vh.nd rfl (Or.inl rfl) (zm 9 vh.nd rfl (Or.inl rfl) (zm 10 vh.nd rfl (Or.inl rfl) (zm 11 vh.nd rfl (Or.inl rfl) xf))))))) (zK (uT 12 false vh.nd rfl rfl (own:=["_law_one"]) (caps:=[]) (yC (S:=zL Zg) (N:=["_law_spec","_law_many","_law_pushes","_law_modes","_law_unit","_law_some","_law_rows_here","_law_nexts","_law_steer","_law_push","_law_add","_law_divisor_here","_law_lists"]) rfl (by decide +kernel) rfl ⟨0,rfl⟩ rfl (by decide +kernel) (by decide +kernel)) rfl rfl yF (yS (zA 7)) (λ_ _ _ _=>(zt 0 (show (["_law_one"]:List Str).Nodup by decide +kernel) rfl (Or.inl rfl))) (λ_ _ _ _=>(xV vk vp rfl B.list_ xn (zB (zA 0) zC))) rfl)
   (zM (yA (xa (xl PySem.F.plainAttrs_list PySem.F.slot_list_append PySem.F.type_list_append yO (yU 5) (zo (XF bH aa hr rfl (zB (xV vk vp rfl B.list_ xn (zB (zA 6) zC)) (zB (zA 12) (zB (xV vk vp rfl B.list_ xn (zB (zA 8) zC)) (zB (yQ (own:=["_law_one"]) (caps:=[]) (yC (S:=zL Zg) (N:=["_law_spec","_law_many","_law_pushes","_law_modes","_law_unit","_law_some","_law_rows_here","_law_nexts","_law_steer","_law_push","_law_add","_law_divisor_here","_law_lists"]) rfl (by decide +kernel) rfl ⟨0,rfl⟩ rfl (by decide +kernel) (by decide +kernel)) rfl rfl yF (yS (zA 9)) (λ_ _ _ _=>(zt 0 (show (["_law_one"]:List Str).Nodup by decide +kernel) rfl (Or.inl rfl))) (λ_ _ _ _=>(xV vk vp rfl B.list_ xn (zB (zA 0) zC)))) (zB (xV vk vp rfl B.list_ xn (zB (zA 10) zC)) (zB (zA 11) zC))))))) yJ))) xr))))
  (zM (wG 5 (zV (XF bI ac hr rfl (zB (zA 1) (zB (xV vk vp rfl B.list_ xn (zB (zA 2) zC)) (zB (zA 5) zC)))))))))),λds R h=>?_⟩
 obtain ⟨n,bs,ms,u,rfl,TO,q⟩:=h
 have m40:=TO.m40
 have n3:=TO.n3
 have b6:=TO.b6
 refine ⟨k0,?_⟩
 refine ⟨λk Γ=>∃ s6 s7 s8 s9 s10 s11 s12:Sl,Γ=[.sh (xw n bs ms u),.sh (.int (n:Int)),.sh (.lst (bs.map yD)),.sh (.lst (ms.map yg)),.sh (.int u),.ow ((ms.take k).map (vV ag)),s6,s7,s8,s9,s10,s11,s12],⟨_,_,_,_,_,_,_,rfl⟩,?_,?_⟩
 ·rintro k d Γ' hk ⟨s6,s7,s8,s9,s10,s11,s12,rfl⟩
  have kl:=(List.getElem?_eq_some_iff.mp hk).1
  rw [List.length_map] at kl
  rw [List.getElem?_map,List.getElem?_eq_getElem kl] at hk
  cases hk
  generalize hm:ms[k]=m
  have o:=TO.mok m (hm ▸ List.getElem_mem kl)
  have hk2:ms[k]? = some m:=by rw [List.getElem?_eq_getElem kl,hm]
  refine wn L zf jv L (by rw [o.nexts.1]; omega) (λr hr=>rfl) ?_
  refine wn L zf jv L (by rw [o.push.1]; omega) (λr hr=>rfl) ?_
  refine ⟨_,_,_,_,_,_,rfl,ql o.few (λr hr=>by rw [o.rows r hr]; omega),XX (by rw [o.nexts.1]; omega) (λr hr=>by rw [o.nexts.2 r hr]; omega),uE (by rw [o.steer]; omega),XX (by rw [o.push.1]; omega) (λr hr=>by rw [o.push.2 r hr]; omega),uE (by rw [o.add]; omega),by rw [List.length_map,List.length_take]; omega,?_⟩
  refine ⟨.sh (Rm m.rows),.sh (Tb m.nexts),.sh (L m.steer),.sh (Tb m.push),.sh (L m.add),.sh (.int m.div),.sh (Tb m.nexts),?_⟩
  rw [uz hk2,List.map_append]
  rfl
 ·rintro Γ' ⟨s6,s7,s8,s9,s10,s11,s12,rfl⟩
  rw [List.length_map,List.take_length]
  exact ⟨n,bs,ms,rfl,TO,q⟩
end
theorem qv {α β:Type} {f:α->β} {l:List α} {k:Nat} {y:β} (h:(l.map f)[k]? = some y):∃ x,l[k]? = some x/\f x=y:=by
 rw [List.getElem?_map] at h
 cases c:l[k]? with
 | none=>rw [c] at h; cases h
 | some x=>rw [c] at h; cases h; exact ⟨x,rfl,rfl⟩
def yB:List Int->List (Int × Int)->Int
 | x :: xs,b :: bs=>max (x * b.1) (x * b.2) + yB xs bs
 | _,_=>0
theorem zIh:∀ {xs:List Int} {bs:List (Int × Int)} {x:Int} {b:Int × Int},xs.length=bs.length->yB (xs++[x]) (bs++[b])=yB xs bs + max (x * b.1) (x * b.2)
 | [],[],x,b,_=>by show max (x * b.1) (x * b.2) + 0=0 + max (x * b.1) (x * b.2); omega
 | [],_ :: _,_,_,h=>nomatch h
 | _ :: _,[],_,_,h=>nomatch h
 | y :: xs,c :: bs,x,b,h=>by
  show max (y * c.1) (y * c.2) + yB (xs++[x]) (bs++[b])=max (y * c.1) (y * c.2) + yB xs bs + max (x * b.1) (x * b.2)
  rw [zIh (Nat.succ.inj h)]
  omega
theorem qw {e f:Nat}:∀ {xs:List Int} {bs:List (Int × Int)},(∀ x∈xs,Bd f x)->(∀ b∈bs,Bd e b.1/\Bd e b.2)->Bd (f + e + xs.length) (yB xs bs)
 | [],_,_,_=>xu
 | _ :: _,[],_,_=>xu
 | x :: xs,b :: bs,h,k=>by
  have h1:=Xw ((h x List.mem_cons_self).mul (k b List.mem_cons_self).1) ((h x List.mem_cons_self).mul (k b List.mem_cons_self).2)
  have h2:=qw (xs:=xs) (bs:=bs) (λy hy=>h y (List.mem_cons_of_mem _ hy)) λc hc=>k c (List.mem_cons_of_mem _ hc)
  exact (h1.mono (Nat.le_add_right _ _)).add h2
theorem zIg:∀ (xs:List Int) (bs:List (Int × Int)),yB (xs.take (min xs.length bs.length)) (bs.take (min xs.length bs.length))=yB xs bs
 | [],bs=>by rw [List.length_nil,Nat.zero_min]; rfl
 | x :: xs,[]=>by rw [List.length_nil,Nat.min_zero]; rfl
 | x :: xs,b :: bs=>by
  rw [List.length_cons,List.length_cons,Nat.succ_min_succ,List.take_succ_cons,List.take_succ_cons]
  show _ + yB _ _=_ + yB _ _
  rw [zIg xs bs]
def Xy:FL:=λds R=>∃ (d:D) (ns:List Int) (bs:List (Int × Int)) (e:Nat),ds=[d,.lst (bs.map yD)]/\IS d ns/\ns.length<=3/\(∀ x∈ns,Bd 10 x)/\e<=500/\(∀ b∈bs,Bd e b.1/\Bd e b.2)/\R (.int (yB ns bs))
structure jJ (n w:Nat) (m:MD):Prop where
 ok:xT m n w
 nx:∀ r∈m.nexts,∀ x∈r,Bd 4 x
 ps:∀ r∈m.push,∀ x∈r,Bd 4 x
 ad:∀ x∈m.add,Bd 110 x
 st:∀ x∈m.steer,x=0
 dv:Bd 3 m.div
 r1:m.rows.length<=1
 rb:∀ r∈m.rows,(∀ x∈r.take n,Bd 4 x)/\∀ x∈r,Bd 110 x
theorem jJ.mse {n w:Nat} {m:MD} (h:jJ n w m):qu 200 m:=⟨λr hr x hx=>(h.nx r hr x hx).mono,λx hx=>by rw [h.st x hx]; exact xu,λr hr x hx=>(h.ps r hr x hx).mono,λx hx=>(h.ad x hx).mono,h.dv.mono,λr hr x hx=>((h.rb r hr).2 x hx).mono,by have:=h.r1; omega⟩
def fMd:FL:=λds R=>∃ (c:Int) (n w:Nat) (u:Int) (sp:Bool),ds=[.int c,.int (n:Int),.int (w:Int),.int u,.bool sp]/\1<=n/\n<=3/\w<=2/\1<=u/\Bd 100 u/\∀ m,jJ n w m->R (yg m)
structure vY (n:Nat) (bs:List (Int × Int)) (ms:List MD) (u:Int):Prop where
 n1:1<=n
 n3:n<=3
 b2:bs.length<=2
 bb:∀ b∈bs,b.1<=b.2/\Bd 105 b.1/\Bd 105 b.2
 m1:1<=ms.length
 m3:ms.length<=3
 md:∀ m∈ms,jJ n bs.length m
 u1:1<=u
 bu:Bd 100 u
theorem vY.ok {n:Nat} {bs:List (Int × Int)} {ms:List MD} {u:Int} (h:vY n bs ms u):wU n bs ms:=⟨h.n1,h.n3,λb hb=>(h.bb b hb).1,by have:=h.b2; omega,h.m1,by have:=h.m3; omega,λm hm=>(h.md m hm).ok⟩
theorem vY.cl {n:Nat} {bs:List (Int × Int)} {ms:List MD} {u:Int} (h:vY n bs ms u):XZ ms=true:=List.all_eq_true.mpr λm hm=>List.all_eq_true.mpr λx hx=>decide_eq_true ((h.md m hm).st x hx)
theorem vY.ths {n:Nat} {bs:List (Int × Int)} {ms:List MD} {u:Int} (h:vY n bs ms u):ZV n bs ms:=⟨h.ok,λm hm=>(h.md m hm).mse.ms (by decide),λb hb=>⟨(h.bb b hb).2.1.mono,(h.bb b hb).2.2.mono⟩⟩
def fTh:FL:=λds R=>∃ ns,ds=[.scr ns]/\∀ n bs ms u,vY n bs ms u->R (xw n bs ms u)
section
variable {P:Program} {w:World} {K:PySem.W.Frag} {mg:Str->Option Value} {base:Heap}
abbrev JX:Stmt:=zk 83
theorem Zh:zb ["_law_numbers","_law_box_here","_law_found","_law_number_here","_law_bounds"] ["_law_numbers","_law_box_here"] (zL JX):=.a
abbrev j8:Stmt:=zk 77
theorem uk:zb ["_law_cell","_law_many","_law_wide","_law_unit","_law_split","_law_xs","_law_divisor_here","_law_nexts","_law_push","_law_i","_law_add","_law_rows_here","_law_row"] ["_law_cell","_law_many","_law_wide","_law_unit","_law_split"] (zL j8):=.a
abbrev JY:Stmt:=zk 78
theorem uI:zb ["_law_script","_law_first","_law_second","_law_unit","_law_many","_law_pushes","_law_k","_law_x","_law_modes","_law_cell"] ["_law_script"] (zL JY):=.a
variable {aClaim aSettles aComes ag ah aPaper aRooms aFalls:Addr} (TClaim:zE K mg "Claim" aClaim) (AClaim:wc K aClaim) (TSettles:zE K mg "Settles" aSettles) (ASettles:wd K aSettles) (TComes:zE K mg "Comes" aComes) (AComes:we K aComes) (aa:zE K mg "Mode" ag) (ab:wf K ag) (ac:zE K mg "Thing" ah) (ae:wg K ah) (TPaper:zE K mg "Paper" aPaper) (APaper:wj K aPaper) (TRooms:zE K mg "Rooms" aRooms) (ARooms:wl K aRooms) (TFalls:zE K mg "Falls" aFalls) (AFalls:wm K aFalls)
include TClaim AClaim TSettles ASettles TComes AComes aa ab ac ae TPaper APaper TRooms ARooms TFalls AFalls
theorem zM3 {k:Nat} {f:Addr} {fd:FuncData} (F:zc K "_law_top" "_law_top" JX f fd) (B:Bl mg):zG P w K mg base zX (k + 1) f fd ["_law_numbers","_law_box_here"] (zJ (Xy)):=by
 refine zu F Zh (λds R h=>by obtain ⟨d,ns,bs,ee,rfl,_⟩:=h; rfl) λcdv A outer s H E hr=>⟨_,(zK (ze 2 Zh.nd rfl (Or.inl rfl) zD)
  (zK (xW PassesOwn.never rfl (jB rfl B.zip_ (zB (zA 0) (zB (zA 1) zC))) (xh rfl (zm 3 Zh.nd rfl (Or.inl rfl) (zm 4 Zh.nd rfl (Or.inl rfl) xf))) (zM (ze 2 Zh.nd rfl (Or.inl rfl) (zh (zA 2) (zq (YS rfl) Y3 rfl B.max_ gj (zB (ya (zA 3) (zR (zA 4) zD (λ_ _=>rfl))) (zB (ya (zA 3) (zR (zA 4) zD (λ_ _=>rfl))) zC)))))))
  (zM (zV (zA 2))))),λds R h=>?_⟩
 obtain ⟨d,ns,bs,ee,rfl,h,l3,bn,e5,bb,q⟩:=h
 refine h.zipL ?_
 refine ⟨λk Γ=>∃ (s3 s4:Sl),Γ=[.sh d,.sh (.lst (bs.map yD)),.sh (.int (yB (ns.take k) (bs.take k))),s3,s4],⟨.no,.no,rfl⟩,?_,?_⟩
 ·rintro k d' Γ' hk ⟨s3,s4,rfl⟩
  obtain ⟨x1,b1,h1,h2,rfl⟩:=Y7 _ hk
  obtain ⟨x,hx,rfl⟩:=qv h1
  obtain ⟨b,hb,rfl⟩:=qv h2
  have hx':=bn x (List.mem_of_getElem? hx)
  have hb':=bb b (List.mem_of_getElem? hb)
  have kx:=(List.getElem?_eq_some_iff.mp hx).1
  have kb:=(List.getElem?_eq_some_iff.mp hb).1
  refine ⟨_,rfl,hx'.mono,hb'.1.mono (by omega),_,rfl,hx'.mono,hb'.2.mono (by omega),.sh (.int x),.sh (yD b),?_⟩
  rw [uz hx,uz hb,zIh (by rw [List.length_take,List.length_take]; omega)]
  rfl
 ·rintro Γ' ⟨s3,s4,rfl⟩
  rw [List.length_zipWith,List.length_map,List.length_map,zIg]
  exact q
theorem zK2 {k:Nat} {f:Addr} {fd:FuncData} (F:zc K "_law_mode" "_law_mode" j8 f fd) (B:Bl mg) (ak:Fn P w K mg base "_law_stream" ["_law_cell","_law_many"] k (zJ (j7))) (al:Fn P w K mg base "_law_number" ["_law_x","_law_far"] k (zJ (Xs))):zG P w K mg base zX (k + 1) f fd ["_law_cell","_law_many","_law_wide","_law_unit","_law_split"] (zJ (fMd)):=by
 refine zu F uk (λds R h=>by obtain ⟨c,n,w,u,sp,rfl,_⟩:=h; rfl) λcdv A outer s H E hr=>⟨_,(zK (ze 5 uk.nd rfl (Or.inr rfl) (zP ak hr rfl (zB (zA 0) (zB zD zC))))
  (zK (ze 6 uk.nd rfl (Or.inr rfl) (zh zD (ye (zR (zA 5) zD (λ_ _=>rfl)) zD)))
  (zK (wZ 7 uk.nd rfl (Or.inl rfl) zC)
  (zK (wZ 8 uk.nd rfl (Or.inl rfl) zC)
  (zK (xW PassesOwn.never rfl (xE rfl B.range_ (zB (zA 1) zC)) (zt 9 uk.nd rfl (Or.inr rfl)) (zK (yA (xa (xl PySem.F.plainAttrs_list PySem.F.slot_list_append PySem.F.type_list_append yO (yU 7) (zo (yQ (own:=["_law_j"]) (caps:=[(5,"_law_xs"),(6,"_law_divisor_here"),(9,"_law_i")]) (yC (S:=zL j8) (N:=["_law_cell","_law_many","_law_wide","_law_unit","_law_split","_law_xs","_law_divisor_here","_law_nexts","_law_push","_law_i","_law_add","_law_rows_here","_law_row"]) rfl (by decide +kernel) rfl ⟨_,rfl⟩ rfl (by decide +kernel) (by decide +kernel)) rfl rfl yF (xE rfl B.range_ (zB (zA 1) zC)) (λ_ _ _ _=>(zt 0 (show (["_law_j","_law_xs","_law_divisor_here","_law_i"]:List Str).Nodup by decide +kernel) rfl (Or.inl rfl))) (λ_ _ _ _=>(zP al hr rfl (zB (zR (zA 1) (zh (zh zD (ya zD (zA 3))) (zA 0)) (λ_ _=>rfl)) (zB (zR (yh (zB zD (zB (xc (zA 2) zD) zC))) (xV Qc K4 rfl B.int_ Wy (zB (uR hr.units (zA 3) (zA 0)) zC)) (λ_ _=>rfl)) zC))))) yJ))) xr)
   (zM (yA (xa (xl PySem.F.plainAttrs_list PySem.F.slot_list_append PySem.F.type_list_append yO (yU 8) (zo (yQ (own:=["_law_j"]) (caps:=[(5,"_law_xs"),(9,"_law_i")]) (yC (S:=zL j8) (N:=["_law_cell","_law_many","_law_wide","_law_unit","_law_split","_law_xs","_law_divisor_here","_law_nexts","_law_push","_law_i","_law_add","_law_rows_here","_law_row"]) rfl (by decide +kernel) rfl ⟨_,rfl⟩ rfl (by decide +kernel) (by decide +kernel)) rfl rfl yF (xE rfl B.range_ (zB (zA 2) zC)) (λ_ _ _ _=>(zt 0 (show (["_law_j","_law_xs","_law_i"]:List Str).Nodup by decide +kernel) rfl (Or.inl rfl))) (λ_ _ _ _=>(zP al hr rfl (zB (zR (zA 1) (zh (zh zD (ya zD (zA 2))) (zA 0)) (λ_ _=>rfl)) (zB zD zC))))) yJ))) xr))))
  (zK (uT 10 false uk.nd rfl rfl (own:=["_law_i"]) (caps:=[(3,"_law_unit"),(5,"_law_xs")]) (yC (S:=zL j8) (N:=["_law_cell","_law_many","_law_wide","_law_unit","_law_split","_law_xs","_law_divisor_here","_law_nexts","_law_push","_law_i","_law_add","_law_rows_here","_law_row"]) rfl (by decide +kernel) rfl ⟨_,rfl⟩ rfl (by decide +kernel) (by decide +kernel)) rfl rfl yF (xE rfl B.range_ (zB (zA 1) zC)) (λ_ _ _ _=>(zt 0 (show (["_law_i","_law_unit","_law_xs"]:List Str).Nodup by decide +kernel) rfl (Or.inl rfl))) (λ_ _ _ _=>(ya (zP al hr rfl (zB (zR (zA 2) (zh zD (zA 0)) (λ_ _=>rfl)) (zB zD zC))) (ye (zR (zA 2) zD (λ_ _=>rfl)) (zA 1)))) rfl)
  (zK (wZ 11 uk.nd rfl (Or.inl rfl) zC)
  (jC (yI (yb (zA 4)) (zK (uT 12 false uk.nd rfl rfl (own:=["_law_i"]) (caps:=[(5,"_law_xs")]) (yC (S:=zL j8) (N:=["_law_cell","_law_many","_law_wide","_law_unit","_law_split","_law_xs","_law_divisor_here","_law_nexts","_law_push","_law_i","_law_add","_law_rows_here","_law_row"]) rfl (by decide +kernel) rfl ⟨_,rfl⟩ rfl (by decide +kernel) (by decide +kernel)) rfl rfl yF (xE rfl B.range_ (zB (zA 1) zC)) (λ_ _ _ _=>(zt 0 (show (["_law_i","_law_xs"]:List Str).Nodup by decide +kernel) rfl (Or.inl rfl))) (λ_ _ _ _=>(zP al hr rfl (zB (zR (zA 1) (zh zD (zA 0)) (λ_ _=>rfl)) (zB zD zC)))) rfl)
   (zM (yA (xa (xl PySem.F.plainAttrs_list PySem.F.slot_list_append PySem.F.type_list_append yO (yU 11) (zo (xV ua uf rfl B.tuple_ vP (zB (zh (zA 12) (yh (zB (ya (zP al hr rfl (zB (zR (zA 5) zD (λ_ _=>rfl)) (zB zD zC))) (zA 3)) zC))) zC)) yJ))) xr))) yH)
  (zM (wG 7 (wG 8 (wG 11 (zV (xU (zB (zA 11) (zB (zA 7) (zB (ya (yh (zB zD zC)) (zA 1)) (zB (zA 8) (zB (zA 10) (zB (zA 6) zC)))))))))))))))))))),λds R h=>?_⟩
 obtain ⟨c,n,w,u,sp,rfl,n1,n3,wb,u1,bu,q⟩:=h
 refine ⟨c,24,rfl,by decide,λxs lx hx=>?_⟩
 refine xM (by decide) (by omega) λx0 _=>⟨by decide,?_⟩
 have d0:=md x0 (show (0:Int) < 4 by decide)
 obtain ⟨dv,hdv⟩:∃ dv,dv=2 + x0.fmod 4:=⟨_,rfl⟩
 have dv1:2<=dv:=by omega
 have dv5:dv<=5:=by omega
 have bdv:Bd 3 dv:=vA (f:=7) (by decide) (by omega) (by omega)
 refine ⟨k0,k0,by omega,by omega,?_⟩
 rw [show ((n:Nat):Int).toNat=n by omega]
 refine ⟨λk Γ=>∃ (N P:List (List Int)) (s9:Sl),Γ=[.sh (.int c),.sh (.int (n:Int)),.sh (.int (w:Int)),.sh (.int u),.sh (.bool sp),.sh (L xs),.sh (.int dv),.ow (N.map L),.ow (P.map L),s9,.no,.no,.no]/\N.length=k/\P.length=k/\(∀ r∈N,r.length=n/\∀ x∈r,Bd 4 x)/\∀ r∈P,r.length=w/\∀ x∈r,Bd 4 x,⟨[],[],.no,by rw [hdv]; rfl,rfl,rfl,λ_ h=>(nomatch h),λ_ h=>(nomatch h)⟩,?_,?_⟩
 ·rintro k d Γ' hk ⟨N,P,s9,rfl,lN,lP,hN,hP⟩
  obtain ⟨kn,rfl⟩:=vI hk
  have bk:Bd 2 (k:Int):=Zb (by omega)
  refine ⟨by omega,by omega,?_⟩
  rw [show ((n:Nat):Int).toNat=n by omega]
  refine zj.nums (λx=>Bd 4 x) (by omega) (λj hj=>?_) λns ln hn=>?_
  ·refine ⟨(Bd.lit (i:=3) (n:=2)).mono,bk.mono,xM (by omega) (by omega) λx1 _=>⟨k0,wq (by split <;> decide) (by show _ < (2:Int); split <;> decide) λz hz=>?_⟩⟩
   obtain ⟨f,rfl,f1,f4⟩:∃ f,z=.int f/\1<=f/\f<=4:=by
    simp only [List.mem_cons,List.not_mem_nil,or_false] at hz
    rcases hz with rfl | rfl
    ·exact ⟨_,rfl,by decide,by decide⟩
    ·exact ⟨_,rfl,by omega,by omega⟩
   exact ⟨_,f,rfl,by omega,Bd.mono (n:=3) (vA (f:=7) (by decide) (by omega) (by omega)) (by decide),λy y1 y2=>⟨y,rfl,vA (f:=15) (by decide) (by omega) (by omega)⟩⟩
  refine ⟨by rw [List.length_map]; omega,by omega,by omega,?_⟩
  rw [show ((w:Nat):Int).toNat=w by omega]
  refine zj.nums (λx=>Bd 4 x) (by omega) (λj hj=>?_) λps lps hps=>?_
  ·exact ⟨(Bd.lit (i:=2) (n:=2)).mono,bk.mono,xM (by omega) (by omega) λx1 _=>⟨_,2,rfl,by decide,(Bd.lit (i:=2) (n:=2)).mono,λy y1 y2=>⟨y,rfl,vA (f:=15) (by decide) (by omega) (by omega)⟩⟩⟩
  refine ⟨by rw [List.length_map]; omega,N++[ns],P++[ps],.sh (.int (k:Int)),by rw [List.map_append,List.map_append]; rfl,by rw [List.length_append,lN]; rfl,by rw [List.length_append,lP]; rfl,wN hN ⟨ln,hn⟩,wN hP ⟨lps,hps⟩⟩
 rintro Γ' ⟨N,P,s9,rfl,lN,lP,hN,hP⟩
 rw [vJ] at lN lP
 refine ⟨by omega,by omega,?_⟩
 rw [show ((n:Nat):Int).toNat=n by omega]
 refine zj.nums (λx=>Bd 110 x) (by omega) (λi hi=>?_) λad lad had=>?_
 ·refine xM (by omega) (by omega) λx1 _=>⟨_,2,rfl,by decide,(Bd.lit (i:=2) (n:=2)).mono,λy y1 y2=>xM (by decide) (by omega) λx2 _=>⟨by omega,?_⟩⟩
  have by2:Bd 2 y:=vA (f:=3) (by decide) (by omega) (by omega)
  have bm:Bd 100 (x2.fmod u):=vX bu (by omega)
  exact ⟨by2.mono,bm.mono,_,rfl,(by2.mul bm).mono⟩
 refine ⟨k0,λΓ=>∃ (rows:List (List Int)) (s12:Sl),Γ=[.sh (.int c),.sh (.int (n:Int)),.sh (.int (w:Int)),.sh (.int u),.sh (.bool sp),.sh (L xs),.sh (.int dv),.ow (N.map L),.ow (P.map L),s9,.sh (L ad),.ow (rows.map U),s12]/\rows.length<=1/\∀ r∈rows,r.length=n + 1/\(∀ x∈r.take n,Bd 4 x)/\∀ x∈r,Bd 110 x,w2 (λc1=>?_) λc1=>⟨[],_,rfl,by decide,λ_ h=>nomatch h⟩,?_⟩
 ·refine ⟨by omega,by omega,?_⟩
  rw [show ((n:Nat):Int).toNat=n by omega]
  refine zj.nums (λx=>Bd 2 x) (by omega) (λi hi=>?_) λrw_ lrw hrw=>?_
  ·exact xM (by omega) (by omega) λx3 _=>⟨_,1,rfl,by decide,(Bd.lit (i:=1) (n:=1)).mono,λy y1 y2=>⟨y,rfl,vA (f:=3) (by decide) (by omega) (by omega)⟩⟩
  refine xM (by decide) (by omega) λx4 _=>⟨_,3,rfl,by decide,(Bd.lit (i:=3) (n:=2)).mono,λy y1 y2=>?_⟩
  have by3:Bd 3 y:=vA (f:=7) (by decide) (by omega) (by omega)
  refine ⟨by3.mono,bu.mono,k0,by rw [List.length_map]; show _ + 1<=1000; omega,by decide,[rw_++[y * u]],.sh (L rw_),?_,by show 1<=1; decide,λr hr=>?_⟩
  ·rw [List.map_cons,List.map_nil,U,List.map_append]
   rfl
  ·rw [List.mem_singleton.mp hr]
   exact ⟨by rw [List.length_append,lrw]; rfl,λx hx=>by
    rw [List.take_append_of_le_length (by omega),List.take_of_length_le (by omega)] at hx
    exact (hrw x hx).mono,wN (λx hx=>(hrw x hx).mono) ((by3.mul bu).mono)⟩
 rintro Γ' ⟨rows,s12,rfl,lr,hr⟩
 have rep:D.lst (List.replicate n (D.int 0))=L (List.replicate n 0):=by unfold L; rw [List.map_replicate]
 refine ⟨k0,by omega,by omega,?_⟩
 rw [show ((n:Nat):Int).toNat=n by omega,rep]
 exact ⟨k0,q ⟨rows,N,List.replicate n 0,P,ad,dv⟩ ⟨⟨λr h=>(hr r h).1,by show rows.length<=900; omega,⟨lN,λr h=>(hN r h).1⟩,List.length_replicate ..,⟨lP,λr h=>(hP r h).1⟩,lad,by show 1<=dv; omega,n3,by omega⟩,λr h=>(hN r h).2,λr h=>(hP r h).2,had,λx hx=>List.eq_of_mem_replicate hx,bdv,lr,λr h=>(hr r h).2⟩⟩
theorem zJb {k:Nat} {f:Addr} {fd:FuncData} (F:zc K "_law_thing" "_law_thing" JY f fd) (B:Bl mg) (ap:Fn P w K mg base "_law_cell_at" ["_law_script","_law_k"] k (zJ (JO))) (bJ:Fn P w K mg base "_law_mode" ["_law_cell","_law_many","_law_wide","_law_unit","_law_split"] k (zJ (fMd))):zG P w K mg base zX (k + 1) f fd ["_law_script"] (zJ (fTh)):=by
 refine zu F uI (λds R h=>by obtain ⟨ns,rfl,_⟩:=h; rfl) λcdv A outer s H E hr=>⟨_,(zK (ze 1 uI.nd rfl (Or.inl rfl) (zP ap hr rfl (zB (zA 0) (zB zD zC))))
  (zK (ze 2 uI.nd rfl (Or.inl rfl) (zP ap hr rfl (zB (zA 0) (zB zD zC))))
  (zK (ze 3 uI.nd rfl (Or.inl rfl) (zh zD (ye (xq (zA 1) zD) (zR (yh (zB zD (zB zD (zB (ud zD zD) (zB (ud zD zD) zC))))) (ye (zA 1) zD) (λ_ _=>rfl)))))
  (zK (ze 4 uI.nd rfl (Or.inl rfl) (zR (yh (zB zD (zB zD (zB zD (zB zD (zB zD (zB zD zC))))))) (ye (zA 2) zD) (λ_ _=>rfl)))
  (zK (wZ 5 uI.nd rfl (Or.inl rfl) zC)
  (zK (xW PassesOwn.never rfl (xE rfl B.range_ (zB (ye (xq (zA 2) zD) zD) zC)) (zt 6 uI.nd rfl (Or.inl rfl)) (zK (ze 7 uI.nd rfl (Or.inl rfl) (xq (zA 2) (zh zD (ya zD (zA 6)))))
   (zM (yA (xa (xl PySem.F.plainAttrs_list PySem.F.slot_list_append PySem.F.type_list_append yO (yU 5) (zo (xU (zB (xc zD (ya (ye (zA 7) zD) (zA 3))) (zB (ya (ye (xq (zA 7) zD) zD) (zA 3)) zC))) yJ))) xr))))
  (zK (wZ 8 uI.nd rfl (Or.inl rfl) zC)
  (zK (wG 5 (xW PassesOwn.never rfl (xE rfl B.range_ (zB (zh zD (ye (xq (zA 2) zD) zD)) zC)) (zt 6 uI.nd rfl (Or.inl rfl)) (zK (ze 9 uI.nd rfl (Or.inl rfl) (zh (zP ap hr rfl (zB (zA 0) (zB (zh zD (zA 6)) zC))) (zA 6)))
   (zM (yA (xa (xl PySem.F.plainAttrs_list PySem.F.slot_list_append PySem.F.type_list_append yO (yU 8) (zo (zP bJ hr rfl (zB (zA 9) (zB (zA 4) (zB (zq yV yX rfl B.len_ yW (zB (zA 5) zC)) (zB (zA 3) (zB (uR hr.units (ye (xq (zA 2) zD) zD) zD) zC)))))) yJ))) xr)))))
  (zM (wG 8 (zV (xU (zB (zA 4) (zB (zA 5) (zB (zA 8) (zB (zA 3) zC)))))))))))))))),λds R h=>?_⟩
 obtain ⟨ns,rfl,q⟩:=h
 refine ⟨ns,0,rfl,by decide,λfirst=>⟨ns,1,rfl,by decide,λsecond=>?_⟩⟩
 have key:∀ x∈[D.int 3,D.int 9,D.int (10 ^ (15:Int).toNat),D.int (10 ^ (30:Int).toNat)],vK (λv=>1<=v/\Bd 100 v) x:=λx hx=>by
  simp only [List.mem_cons,List.not_mem_nil,or_false] at hx
  rcases hx with rfl | rfl | rfl | rfl <;> exact ⟨_,rfl,by decide,Bd.lit⟩
 have f4:=md first (show (0:Int) < 4 by decide)
 refine ⟨by decide,(Bd.lit (i:=4) (n:=3)).mono,⟨by decide,by decide,by decide⟩,⟨by decide,by decide,by decide⟩,k0,by decide,wq f4.1 (by show first.fmod 4 < 4; omega) λx hxk=>?_⟩
 obtain ⟨v,rfl,v1,bv⟩:=key x hxk
 have fv:=md (first.fdiv 4) (show (0:Int) < v by omega)
 obtain ⟨u,hu⟩:∃ u,u=1 + (first.fdiv 4).fmod v:=⟨_,rfl⟩
 have u1:1<=u:=by omega
 have bu:Bd 100 u:=bv.of_le (by omega)
 refine ⟨by omega,?_⟩
 have s6:=md second (show (0:Int) < 6 by decide)
 refine ⟨k0,by decide,wq s6.1 (by show second.fmod 6 < 6; omega) λz hz=>?_⟩
 obtain ⟨n,rfl,n1,n3⟩:∃ n:Nat,z=.int (n:Int)/\1<=n/\n<=3:=by
  simp only [List.mem_cons,List.not_mem_nil,or_false] at hz
  rcases hz with rfl | rfl | rfl | rfl | rfl | rfl
  ·exact ⟨1,rfl,by decide,by decide⟩
  ·exact ⟨2,rfl,by decide,by decide⟩
  ·exact ⟨2,rfl,by decide,by decide⟩
  ·exact ⟨1,rfl,by decide,by decide⟩
  ·exact ⟨3,rfl,by decide,by decide⟩
  ·exact ⟨2,rfl,by decide,by decide⟩
 have p3:=md (second.fdiv 6) (show (0:Int) < 3 by decide)
 refine ⟨k0,by decide,(Bd.lit (i:=6) (n:=3)).mono,by decide,by omega,by omega,?_⟩
 refine ⟨λk Γ=>∃ (bs:List (Int × Int)) (s6 s7:Sl),Γ=[.sh (.scr ns),.sh (.int first),.sh (.int second),.sh (.int u),.sh (.int (n:Int)),.ow (bs.map yD),s6,s7,.no,.no]/\bs.length=k/\∀ b∈bs,b.1<=b.2/\Bd 105 b.1/\Bd 105 b.2,⟨[],.no,.no,by rw [hu]; rfl,rfl,λ_ h=>nomatch h⟩,?_,?_⟩
 ·rintro k d Γ' hk ⟨bs,s6,s7,rfl,lb,hb⟩
  obtain ⟨kn,rfl⟩:=vI hk
  have bk:Bd 2 (k:Int):=Zb (by omega)
  refine ⟨(Bd.lit (i:=11) (n:=4)).mono,bk.mono,by omega,Bd.mono (n:=10) (vA (f:=1000) (by decide) (by omega) (by omega)) (by decide),?_⟩
  obtain ⟨x,hx⟩:∃ x,x=second.fdiv (18 + 11 * (k:Int)):=⟨_,rfl⟩
  have a1:=md x (show (0:Int) < 3 by decide)
  have a2:=md (x.fdiv 3) (show (0:Int) < 3 by decide)
  rw [<- hx]
  have g1:0<=x.fmod 3 * u:=Int.mul_nonneg a1.1 (by omega)
  have g2:0<=(x.fdiv 3).fmod 3 * u:=Int.mul_nonneg a2.1 (by omega)
  have c1:Bd 102 (x.fmod 3 * u):=(vX (n:=2) Bd.lit (by decide)).mul bu
  have c2:Bd 102 ((x.fdiv 3).fmod 3 * u):=(vX (n:=2) Bd.lit (by decide)).mul bu
  refine ⟨by decide,Bd.mono (n:=2) (vX Bd.lit (by decide)) (by decide),bu.mono,by decide,(Bd.lit (i:=3) (n:=2)).mono,by decide,Bd.mono (n:=2) (vX Bd.lit (by decide)) (by decide),bu.mono,k0,by rw [List.length_map]; omega,?_⟩
  exact ⟨bs++[(0 - x.fmod 3 * u,(x.fdiv 3).fmod 3 * u)],.sh (.int (k:Int)),.sh (.int x),by rw [List.map_append]; rfl,by rw [List.length_append,lb]; rfl,wN hb ⟨by show 0 - x.fmod 3 * u<=(x.fdiv 3).fmod 3 * u; omega,by rw [Int.zero_sub]; exact c1.neg.mono,c2.mono⟩⟩
 rintro Γ' ⟨bs,s6,s7,rfl,lb,hb⟩
 rw [vJ] at lb
 have lm:(List.map yD bs).length=bs.length:=List.length_map ..
 have p4:=md (second.fdiv 54) (show (0:Int) < 3 by decide)
 refine ⟨k0,by decide,(Bd.lit (i:=54) (n:=6)).mono,by decide,by omega,by omega,?_⟩
 refine ⟨λk Γ=>∃ (ms:List MD) (s6 s9:Sl),Γ=[.sh (.scr ns),.sh (.int first),.sh (.int second),.sh (.int u),.sh (.int (n:Int)),.sh (.lst (bs.map yD)),s6,s7,.ow (ms.map yg),s9]/\ms.length=k/\∀ m∈ms,jJ n bs.length m,⟨[],_,.no,rfl,rfl,λ_ h=>nomatch h⟩,?_,?_⟩
 ·rintro k d Γ' hk ⟨ms,s6,s9,rfl,lms,hms⟩
  obtain ⟨kn,rfl⟩:=vI hk
  refine ⟨ns,2 + (k:Int),rfl,by omega,λcc=>?_⟩
  refine ⟨by decide,(Bd.lit (i:=162) (n:=8)).mono,by decide,cc + (k:Int),n,bs.length,u,_,by rw [<- lm],n1,n3,by omega,u1,bu,λm hm=>⟨by rw [List.length_map]; omega,ms++[m],.sh (.int (k:Int)),.sh (.int (cc + (k:Int))),by rw [List.map_append]; rfl,by rw [List.length_append,lms]; rfl,wN hms hm⟩⟩
 rintro Γ' ⟨ms,s6,s9,rfl,lms,hms⟩
 rw [vJ] at lms
 exact ⟨k0,q n bs ms u ⟨n1,n3,by omega,hb,by omega,by omega,hms,u1,bu⟩⟩
end
def xI (xs:List Int):List Int:=xs.map λx=>0 - x
theorem qx {e:Nat} {xs:List Int} (h:∀ x∈xs,Bd e x):∀ x∈xI xs,Bd e x:=λx hx=>by
 obtain ⟨y,hy,rfl⟩:=List.mem_map.mp hx
 rw [Int.zero_sub]
 exact (h y hy).neg
theorem j9 (xs:List Int):(xI xs).length=xs.length:=List.length_map ..
structure Bx (n e:Nat) (box:List (Int × Int)):Prop where
 len:box.length=n
 bd:∀ b∈box,Bd e b.1/\Bd e b.2
theorem Bx.mono {n e f:Nat} {box:List (Int × Int)} (h:Bx n e box) (l:e<=f:=by decide):Bx n f box:=⟨h.len,λb hb=>⟨(h.bd b hb).1.mono l,(h.bd b hb).2.mono l⟩⟩
abbrev zZ (box:List (Int × Int)):D:=.lst (box.map yD)
def vM (n:Nat) (box:List (Int × Int)) (m:MD):Bool:=m.rows.any λr=>decide (r.getD n 0 < 0 - yB (xI (r.take n)) box)
def qA:FL:=λds R=>∃ m n w box e,ds=[yg m,zZ box]/\jJ n w m/\e<=400/\Bx n e box/\R (.bool (vM n box m))
def qB:FL:=λds R=>∃ n bs ms u box e,ds=[xw n bs ms u,zZ box]/\vY n bs ms u/\105<=e/\e<=380/\Bx n e box/\∀ box',Bx n (e + 20) box'->R (zZ box')
def zQt:FL:=λds R=>∃ a b n e,ds=[zZ a,zZ b]/\n<=3/\Bx n e a/\Bx n e b/\∀ box',Bx n e box'->R (zZ box')
def zQs:FL:=λds R=>∃ n bs ms u box,ds=[xw n bs ms u,zZ box]/\vY n bs ms u/\Bx n 105 box/\∀ box',Bx n 210 box'->R (zZ box')
def Zi:D->MD
 | .tup [.lst r,.lst n,.lst s,.lst p,.lst a,.int d]=>⟨r.map zf,n.map zf,s.map zx,p.map zf,a.map zx,d⟩
 | _=>⟨[],[],[],[],[],0⟩
theorem zMP (m:MD):Zi (yg m)=m:=by
 show (⟨(m.rows.map U).map zf,(m.nexts.map L).map zf,(m.steer.map D.int).map zx,(m.push.map L).map zf,(m.add.map D.int).map zx,m.div⟩:MD)=m
 have e1:∀ t:List (List Int),(t.map U).map zf=t:=λt=>by rw [List.map_map]; exact (List.map_congr_left λr _=>uj r).trans (List.map_id _)
 have e2:∀ t:List (List Int),(t.map L).map zf=t:=λt=>by rw [List.map_map]; exact (List.map_congr_left λr _=>jv r).trans (List.map_id _)
 have e3:∀ t:List Int,(t.map D.int).map zx=t:=λt=>by rw [List.map_map]; exact List.map_id _
 rw [e1,e2,e2,e3,e3]
theorem zLV (f:D->Bool) (ms:List MD):(ms.map yg).filter f=(ms.filter λm=>f (yg m)).map yg:=by rw [List.filter_map]; rfl
theorem zPx (n:Nat) (t:List (List Int)):(Tb t).pl (n + 4)=true:=List.all_eq_true.mpr λd h=>by
 obtain ⟨r,_,rfl⟩:=List.mem_map.mp h
 exact qh (n + 1) r
theorem zPy (n:Nat) (t:List (List Int)):(Rm t).pl (n + 4)=true:=List.all_eq_true.mpr λd h=>by
 obtain ⟨r,_,rfl⟩:=List.mem_map.mp h
 exact qh (n + 1) r
theorem Zj (n:Nat) (m:MD):(yg m).pl (n + 5)=true:=by
 show ([Rm m.rows,Tb m.nexts,L m.steer,Tb m.push,L m.add,D.int m.div].all (D.pl (n + 4)))=true
 simp only [List.all_cons,List.all_nil,Bool.and_true,zPx,zPy]
 rw [show (L m.steer).pl (n + 4)=true from qh (n + 2) _,show (L m.add).pl (n + 4)=true from qh (n + 2) _]
 rfl
theorem zNx (ms:List MD):(D.lst (ms.map yg)).pl 50=true:=List.all_eq_true.mpr λd h=>by
 obtain ⟨m,_,rfl⟩:=List.mem_map.mp h
 exact Zj 44 m
theorem qC {u:List Int->D} {rows:List (List Int)} {k:Nat} (h:k < rows.length):yR (rows.map u) (k:Int)=some (u (rows.getD k [])):=by
 rw [uA]
 unfold yR ww
 rw [if_pos (by omega),if_pos (by omega)]
 show Option.map u rows[((k:Nat):Int).toNat]? = _
 rw [show ((k:Nat):Int).toNat=k by omega,List.getElem?_eq_getElem h,List.getD_eq_getElem?_getD,List.getElem?_eq_getElem h]
 rfl
theorem jK {rows:List (List Int)} {k:Nat} (h:k < rows.length):rows.getD k []∈rows:=by
 rw [List.getD_eq_getElem?_getD,List.getElem?_eq_getElem h]
 exact List.getElem_mem _
def NoI (e:Nat) (d:D):Prop:=d=.non\/∃ a,d=.int a/\Bd e a
section
variable {P:Program} {w:World} {K:PySem.W.Frag} {mg:Str->Option Value} {base:Heap}
abbrev Xz:Stmt:=zk 84
theorem zFG:zb ["_law_mode_here","_law_box_here","_law_row"] ["_law_mode_here","_law_box_here"] (zL Xz):=.a
abbrev X0:Stmt:=zk 86
theorem zKU:zb ["_law_one","_law_other_here"] ["_law_one","_law_other_here"] (zL X0):=.a
abbrev qy:Stmt:=zk 85
theorem xX:zb ["_law_spec","_law_box_here","_law_many","_law_pushes","_law_modes","_law_unit","_law_found","_law_j","_law_low","_law_high","_law_rows_here","_law_nexts","_law_steer","_law_push","_law_add","_law_divisor_here","_law_up","_law_down"] ["_law_spec","_law_box_here"] (zL qy):=.a
abbrev JZ:Stmt:=zk 87
theorem Ja:zb ["_law_spec","_law_box_here","_law_turn"] ["_law_spec","_law_box_here"] (zL JZ):=.a
variable {aClaim aSettles aComes ag ah aPaper aRooms aFalls:Addr} (TClaim:zE K mg "Claim" aClaim) (AClaim:wc K aClaim) (TSettles:zE K mg "Settles" aSettles) (ASettles:wd K aSettles) (TComes:zE K mg "Comes" aComes) (AComes:we K aComes) (aa:zE K mg "Mode" ag) (ab:wf K ag) (ac:zE K mg "Thing" ah) (ae:wg K ah) (TPaper:zE K mg "Paper" aPaper) (APaper:wj K aPaper) (TRooms:zE K mg "Rooms" aRooms) (ARooms:wl K aRooms) (TFalls:zE K mg "Falls" aFalls) (AFalls:wm K aFalls)
include TClaim AClaim TSettles ASettles TComes AComes aa ab ac ae TPaper APaper TRooms ARooms TFalls AFalls
theorem zIC {k:Nat} {f:Addr} {fd:FuncData} (F:zc K "_law_beyond" "_law_beyond" Xz f fd) (B:Bl mg) (am:Fn P w K mg base "_law_top" ["_law_numbers","_law_box_here"] k (zJ (Xy))):zG P w K mg base zX (k + 1) f fd ["_law_mode_here","_law_box_here"] (zJ (qA)):=by
 refine zu F zFG (λds R h=>by obtain ⟨m,n,w,box,ee,rfl,_⟩:=h; rfl) λcdv A outer s H E hr=>⟨_,(zK (xW PassesOwn.never rfl (yS (zR (zA 0) zD (λ_ _=>rfl))) (zt 2 zFG.nd rfl (Or.inl rfl)) (zM (yI (kP (xc zD (zP am hr rfl (zB (yQ (own:=["_law_c"]) (caps:=[]) (yC (S:=zL Xz) (N:=["_law_mode_here","_law_box_here","_law_row"]) rfl (by decide +kernel) rfl ⟨0,rfl⟩ rfl (by decide +kernel) (by decide +kernel)) rfl rfl yF (yS (y9 (zA 2) y8 (yt (xQ zD)))) (λ_ _ _ _=>(zt 0 (show (["_law_c"]:List Str).Nodup by decide +kernel) rfl (Or.inl rfl))) (λ_ _ _ _=>(xc zD (zA 0)))) (zB (zA 1) zC)))) (zR (zA 2) (xQ zD) (λ_ _=>rfl))) (zM (zV xb)) yH)))
  (zM (zV xb))),λds R h=>?_⟩
 obtain ⟨m,n,w,box,ee,rfl,M1,e4,BX,q⟩:=h
 have r1:=M1.r1
 have n3:=M1.ok.n3
 refine ⟨_,rfl,?_⟩
 refine ⟨λk Γ=>∃ s2,Γ=[.sh (yg m),.sh (zZ box),s2]/\(m.rows.take k).any (λr=>decide (r.getD n 0 < 0 - yB (xI (r.take n)) box))=false,⟨.no,rfl,rfl⟩,?_,?_⟩
 ·rintro k d Γ' hk ⟨s2,rfl,ha⟩
  obtain ⟨r,hr,rfl⟩:=qv hk
  have hm:=List.mem_of_getElem? hr
  have lr:=M1.ok.rows r hm
  refine zj.cast (vW lr) (zj.int (λx=>0 - x) (by rw [List.length_take]; omega) (λx hx=>rfl) ⟨_,xI (r.take n),box,ee,rfl,.inl rfl,by rw [j9,List.length_take]; omega,qx λx hx=>((M1.rb r hm).1 x hx).mono,by omega,BX.bd,_,jx lr,w2 (λc=>bR q ?_) λc=>⟨_,rfl,?_⟩⟩)
  ·exact List.any_eq_true.mpr ⟨r,hm,c⟩
  ·rw [uz hr,List.any_append,ha,List.any_cons,List.any_nil]
   rw [show decide (r.getD n 0 < 0 - yB (xI (r.take n)) box)=false from c]
   rfl
 ·rintro Γ' ⟨s2,rfl,ha⟩
  rw [List.length_map,List.take_of_length_le (Nat.le_refl _)] at ha
  exact bR q ha
theorem zK6 {k:Nat} {f:Addr} {fd:FuncData} (F:zc K "_law_hull" "_law_hull" X0 f fd) (B:Bl mg):zG P w K mg base zX (k + 1) f fd ["_law_one","_law_other_here"] (zJ (zQt)):=by
 refine zu F zKU (λds R h=>by obtain ⟨a,b,n,ee,rfl,_⟩:=h; rfl) λcdv A outer s H E hr=>⟨_,(zM (zV (yQ (own:=["_law_a","_law_b"]) (caps:=[]) (yC (S:=zL X0) (N:=["_law_one","_law_other_here"]) rfl (by decide +kernel) rfl ⟨0,rfl⟩ rfl (by decide +kernel) (by decide +kernel)) rfl rfl (ji (vL (vL jk))) (jB rfl B.zip_ (zB (zA 0) (zB (zA 1) zC))) (λ_ _ _ _=>(xh rfl (zm 0 (show (["_law_a","_law_b"]:List Str).Nodup by decide +kernel) rfl (Or.inl rfl) (zm 1 (show (["_law_a","_law_b"]:List Str).Nodup by decide +kernel) rfl (Or.inl rfl) xf)))) (λ_ _ _ _=>(xU (zB (zq (Qb rfl) K3 rfl B.min_ zHk (zB (zR (zA 0) zD (λ_ _=>rfl)) (zB (zR (zA 1) zD (λ_ _=>rfl)) zC))) (zB (zq (YS rfl) Y3 rfl B.max_ gj (zB (zR (zA 0) zD (λ_ _=>rfl)) (zB (zR (zA 1) zD (λ_ _=>rfl)) zC))) zC))))))),λds R h=>?_⟩
 obtain ⟨a,b,n,ee,rfl,n3,A1,B1,q⟩:=h
 have la:=A1.len
 have lb:=B1.len
 refine zj.all (λd=>∃ p:Int × Int,d=yD p/\Bd ee p.1/\Bd ee p.2) (by rw [List.length_zipWith,List.length_map]; omega) (λd hd=>?_) λes le he=>?_
 ·obtain ⟨x,hx,y,hy,rfl⟩:=zNf hd
  refine ⟨_,rfl,_,rfl,_,rfl,_,rfl,k0,(min x.1 y.1,max x.2 y.2),rfl,?_,Xw (A1.bd x hx).2 (B1.bd y hy).2⟩
  rw [Int.min_def]
  split
  ·exact (A1.bd x hx).1
  ·exact (B1.bd y hy).1
 ·obtain ⟨ps,rfl,hp⟩:∃ ps:List (Int × Int),es=ps.map yD/\∀ p∈ps,Bd ee p.1/\Bd ee p.2:=by
   clear le q
   induction es with
   | nil=>exact ⟨[],rfl,λ_ h=>nomatch h⟩
   | cons x es ih=>
    obtain ⟨p,rfl,h1⟩:=he x List.mem_cons_self
    obtain ⟨ps,rfl,h2⟩:=ih λy hy=>he y (List.mem_cons_of_mem _ hy)
    exact ⟨p :: ps,rfl,λy hy=>(List.mem_cons.mp hy).elim (λz=>z ▸ h1) (h2 y)⟩
  refine q ps ⟨?_,hp⟩
  rw [List.length_map,List.length_zipWith,List.length_map,List.length_map] at le
  omega
theorem zJf {k:Nat} {f:Addr} {fd:FuncData} (F:zc K "_law_image" "_law_image" qy f fd) (B:Bl mg) (aG:Fn P w K mg base "_law_beyond" ["_law_mode_here","_law_box_here"] k (zJ (qA))) (am:Fn P w K mg base "_law_top" ["_law_numbers","_law_box_here"] k (zJ (Xy))):zG P w K mg base zX (k + 1) f fd ["_law_spec","_law_box_here"] (zJ (qB)):=by
 refine zu F xX (λds R h=>by obtain ⟨n,bs,ms,u,box,ee,rfl,_⟩:=h; rfl) λcdv A outer s H E hr=>⟨_,(zK (uS (zA 0) (xh rfl (zm 2 xX.nd rfl (Or.inl rfl) (zm 3 xX.nd rfl (Or.inl rfl) (zm 4 xX.nd rfl (Or.inl rfl) (zm 5 xX.nd rfl (Or.inl rfl) xf))))))
  (zK (zHJ 4 false xX.nd rfl rfl (own:=["_law_mode_here"]) (caps:=[(1,"_law_box_here")]) (yC (S:=zL qy) (N:=["_law_spec","_law_box_here","_law_many","_law_pushes","_law_modes","_law_unit","_law_found","_law_j","_law_low","_law_high","_law_rows_here","_law_nexts","_law_steer","_law_push","_law_add","_law_divisor_here","_law_up","_law_down"]) rfl (by decide +kernel) rfl ⟨_,rfl⟩ rfl (by decide +kernel) (by decide +kernel)) rfl rfl yF (yS (zA 4)) (λ_ _ _ _=>(zt 0 (show (["_law_mode_here","_law_box_here"]:List Str).Nodup by decide +kernel) rfl (Or.inl rfl))) (λ_ _ _ _=>(xD (yb (zP aG hr rfl (zB (zA 0) (zB (zA 1) zC)))))) (λ_ _ _ _=>(zA 0)) rfl)
  (zK (wZ 6 xX.nd rfl (Or.inl rfl) zC)
  (zK (xW PassesOwn.never rfl (xE rfl B.range_ (zB (zA 2) zC)) (zt 7 xX.nd rfl (Or.inl rfl)) (zK (ze 8 xX.nd rfl (Or.inl rfl) kI)
   (zK (ze 9 xX.nd rfl (Or.inl rfl) kI)
   (zK (xW PassesOwn.never rfl (yS (zA 4)) (xh rfl (zm 10 xX.nd rfl (Or.inl rfl) (zm 11 xX.nd rfl (Or.inl rfl) (zm 12 xX.nd rfl (Or.inl rfl) (zm 13 xX.nd rfl (Or.inl rfl) (zm 14 xX.nd rfl (Or.inl rfl) (zm 15 xX.nd rfl (Or.inl rfl) xf))))))) (zK (ze 16 xX.nd rfl (Or.inl rfl) (zh (zh (zP am hr rfl (zB (zR (zA 11) (zA 7) (λ_ _=>rfl)) (zB (zA 1) zC))) (zP am hr rfl (zB (zR (zA 13) (zA 7) (λ_ _=>rfl)) (zB (zA 3) zC)))) (zR (zA 14) (zA 7) (λ_ _=>rfl))))
    (zK (ze 16 xX.nd rfl (Or.inl rfl) (xc zD (xq (xc zD (zA 16)) (zA 15))))
    (zK (ze 17 xX.nd rfl (Or.inl rfl) (zP am hr rfl (zB (yQ (own:=["_law_c"]) (caps:=[]) (yC (S:=zL qy) (N:=["_law_spec","_law_box_here","_law_many","_law_pushes","_law_modes","_law_unit","_law_found","_law_j","_law_low","_law_high","_law_rows_here","_law_nexts","_law_steer","_law_push","_law_add","_law_divisor_here","_law_up","_law_down"]) rfl (by decide +kernel) rfl ⟨_,rfl⟩ rfl (by decide +kernel) (by decide +kernel)) rfl rfl yF (yS (zR (zA 11) (zA 7) (λ_ _=>rfl))) (λ_ _ _ _=>(zt 0 (show (["_law_c"]:List Str).Nodup by decide +kernel) rfl (Or.inl rfl))) (λ_ _ _ _=>(xc zD (zA 0)))) (zB (zA 1) zC))))
    (zK (ze 17 xX.nd rfl (Or.inl rfl) (zh (zA 17) (zP am hr rfl (zB (yQ (own:=["_law_c"]) (caps:=[]) (yC (S:=zL qy) (N:=["_law_spec","_law_box_here","_law_many","_law_pushes","_law_modes","_law_unit","_law_found","_law_j","_law_low","_law_high","_law_rows_here","_law_nexts","_law_steer","_law_push","_law_add","_law_divisor_here","_law_up","_law_down"]) rfl (by decide +kernel) rfl ⟨_,rfl⟩ rfl (by decide +kernel) (by decide +kernel)) rfl rfl yF (yS (zR (zA 13) (zA 7) (λ_ _=>rfl))) (λ_ _ _ _=>(zt 0 (show (["_law_c"]:List Str).Nodup by decide +kernel) rfl (Or.inl rfl))) (λ_ _ _ _=>(xc zD (zA 0)))) (zB (zA 3) zC)))))
    (zK (ze 17 xX.nd rfl (Or.inl rfl) (xq (xc (zR (zA 14) (zA 7) (λ_ _=>rfl)) (zA 17)) (zA 15)))
    (jC (yI (PW.pt (wM (zKc (zA 9) kI) (w4 (kP (zA 16) (zA 9))))) (zM (ze 9 xX.nd rfl (Or.inl rfl) (zA 16))) yH)
    (zM (yI (PW.pt (wM (zKc (zA 8) kI) (w4 (UH (zA 17) (zA 8))))) (zM (ze 8 xX.nd rfl (Or.inl rfl) (zA 17))) yH)))))))))
   (zM (yA (xa (xl PySem.F.plainAttrs_list PySem.F.slot_list_append PySem.F.type_list_append yO (yU 6) (zo (xU (zB (zA 8) (zB (zA 9) zC))) yJ))) xr))))))
  (zK (yI (wz hr.units (zA 4) (yh zC)) (zM (zV (zA 1))) yH)
  (zM (wG 6 (zV (zA 6))))))))),λds R h=>?_⟩
 obtain ⟨n,bs,ms,u,box,ee,rfl,T,e1,e2,BX,q⟩:=h
 have n3:=T.n3
 have b2:=T.b2
 have m3:=T.m3
 have lbx:=BX.len
 have lm:(List.map yg ms).length=ms.length:=List.length_map ..
 refine jE.keep (λd=>!(vM n box (Zi d))) (by omega) (λd hd=>?_) (λd hd=>?_) ?_
 ·obtain ⟨m,hm,rfl⟩:=List.mem_map.mp hd
  rw [zMP]
  exact ⟨m,n,bs.length,box,ee,rfl,T.md m hm,by omega,BX,rfl⟩
 ·obtain ⟨m,hm,rfl⟩:=List.mem_map.mp hd
  exact rfl
 rw [zLV]
 have sub:∀ m∈ms.filter (λm=>!(vM n box (Zi (yg m)))),jJ n bs.length m:=λm hm=>T.md m (List.mem_filter.mp hm).1
 have l3:(ms.filter (λm=>!(vM n box (Zi (yg m))))).length<=3:=Nat.le_trans (List.length_filter_le ..) m3
 generalize ms.filter (λm=>!(vM n box (Zi (yg m))))=ms2 at sub l3 |-
 refine ⟨k0,by omega,by omega,?_⟩
 rw [show ((n:Nat):Int).toNat=n by omega]
 refine ⟨λk Γ=>∃ (fs:List D) (s7 s8 s9 s10 s11 s12 s13 s14 s15 s16 s17:Sl),Γ=[.sh (xw n bs ms u),.sh (zZ box),.sh (.int (n:Int)),.sh (.lst (bs.map yD)),.sh (.lst (ms2.map yg)),.sh (.int u),.ow fs,s7,s8,s9,s10,s11,s12,s13,s14,s15,s16,s17]/\fs.length=k/\∀ f∈fs,∃ lo hi,f=.tup [lo,hi]/\(ms2≠[]->∃ p:Int × Int,f=yD p/\Bd (ee + 20) p.1/\Bd (ee + 20) p.2),⟨[],.no,.no,.no,.no,.no,.no,.no,.no,.no,.no,.no,rfl,rfl,λ_ h=>nomatch h⟩,?_,?_⟩
 ·rintro k d Γ' hk ⟨fs,s7,s8,s9,s10,s11,s12,s13,s14,s15,s16,s17,rfl,lf,hf⟩
  obtain ⟨kn,rfl⟩:=vI hk
  refine ⟨λi Γ=>∃ (lo hi:D) (s10 s11 s12 s13 s14 s15 s16 s17:Sl),Γ=[.sh (xw n bs ms u),.sh (zZ box),.sh (.int (n:Int)),.sh (.lst (bs.map yD)),.sh (.lst (ms2.map yg)),.sh (.int u),.ow fs,.sh (.int (k:Int)),.sh lo,.sh hi,s10,s11,s12,s13,s14,s15,s16,s17]/\NoI (ee + 20) lo/\NoI (ee + 20) hi/\(1<=i->lo≠.non/\hi≠.non),⟨.non,.non,_,_,_,_,_,_,_,_,rfl,.inl rfl,.inl rfl,λh=>absurd h (by decide)⟩,?_,?_⟩
  ·rintro i d Γ' hi2 ⟨lo,hi,s10,s11,s12,s13,s14,s15,s16,s17,rfl,nl,nh,_⟩
   obtain ⟨m,hm,rfl⟩:=qv hi2
   have M:=sub m (List.mem_of_getElem? hm)
   have k1:k < m.nexts.length:=by rw [M.ok.nexts.1]; exact kn
   have k2:k < m.push.length:=by rw [M.ok.push.1]; exact kn
   have ln:=M.ok.nexts.2 _ (jK k1)
   have lp:=M.ok.push.2 _ (jK k2)
   have BN:∀ x∈m.nexts.getD k [],Bd 4 x:=M.nx _ (jK k1)
   have BP:∀ x∈m.push.getD k [],Bd 4 x:=M.ps _ (jK k2)
   have dz:m.div≠0:=by have:=M.ok.div; omega
   have bb:∀ b∈bs,Bd 105 b.1/\Bd 105 b.2:=λb hb=>(T.bb b hb).2
   obtain ⟨up,hup⟩:∃ up,up=0 - (0 - (yB (m.nexts.getD k []) box + yB (m.push.getD k []) bs + m.add.getD k 0)).fdiv m.div:=⟨_,rfl⟩
   obtain ⟨dn,hdn⟩:∃ dn,dn=(m.add.getD k 0 - (yB (xI (m.nexts.getD k [])) box + yB (xI (m.push.getD k [])) bs)).fdiv m.div:=⟨_,rfl⟩
   have ba:Bd (ee + 8) (m.add.getD k 0):=(vv M.ad k).mono (by omega)
   have t1:Bd (ee + 7) (yB (m.nexts.getD k []) box):=(qw BN BX.bd).mono (by omega)
   have t2:Bd (ee + 7) (yB (m.push.getD k []) bs):=(qw BP bb).mono (by omega)
   have t3:Bd (ee + 7) (yB (xI (m.nexts.getD k [])) box):=(qw (qx BN) BX.bd).mono (by rw [j9]; omega)
   have t4:Bd (ee + 7) (yB (xI (m.push.getD k [])) bs):=(qw (qx BP) bb).mono (by rw [j9]; omega)
   have bup:Bd (ee + 20) up:=by
    rw [hup,Int.zero_sub,Int.zero_sub]
    exact (Bd.fdiv ((t1.add t2).add ba).neg _).neg.mono (by omega)
   have bdn:Bd (ee + 20) dn:=by
    rw [hdn]
    exact (Bd.fdiv (ba.sub (t3.add t4)) _).mono (by omega)
   refine ⟨_,qC k1,_,_,box,ee,rfl,.inl rfl,by omega,λx hx=>(BN x hx).mono,by omega,BX.bd,?_⟩
   refine ⟨_,qC k2,_,_,bs,105,rfl,.inl rfl,by omega,λx hx=>(BP x hx).mono,by decide,bb,?_⟩
   refine ⟨_,wH (j:=k) (by rw [M.ok.add]; exact kn) rfl,dz,M.dv.mono,?_⟩
   refine ⟨_,qC k1,zj.int (λx=>0 - x) (by omega) (λx hx=>rfl) ⟨_,xI _,box,ee,rfl,.inl rfl,by rw [j9]; omega,λx hx=>(qx BN x hx).mono,by omega,BX.bd,?_⟩⟩
   refine ⟨_,qC k2,zj.int (λx=>0 - x) (by omega) (λx hx=>rfl) ⟨_,xI _,bs,105,rfl,.inl rfl,by rw [j9]; omega,λx hx=>(qx BP x hx).mono,by decide,bb,?_⟩⟩
   refine ⟨_,wH (j:=k) (by rw [M.ok.add]; exact kn) rfl,dz,M.dv.mono,?_⟩
   refine ⟨λΓ=>∃ b:Int,Γ=[.sh (xw n bs ms u),.sh (zZ box),.sh (.int (n:Int)),.sh (.lst (bs.map yD)),.sh (.lst (ms2.map yg)),.sh (.int u),.ow fs,.sh (.int (k:Int)),.sh lo,.sh (.int b),.sh (Rm m.rows),.sh (Tb m.nexts),.sh (L m.steer),.sh (Tb m.push),.sh (L m.add),.sh (.int m.div),.sh (.int up),.sh (.int dn)]/\Bd (ee + 20) b,?_,?_⟩
   ·rcases nh with rfl | ⟨b,rfl,bb'⟩
    ·exact wT rfl (wT rfl ⟨up,by rw [hup,hdn]; rfl,bup⟩)
    ·exact wF rfl (w2 (λc=>⟨up,by rw [hup,hdn]; rfl,bup⟩) λc=>⟨b,by rw [hup,hdn]; rfl,bb'⟩)
   rintro Γ' ⟨b,rfl,bb'⟩
   rcases nl with rfl | ⟨a,rfl,ba'⟩
   ·exact wT rfl (wT rfl ⟨.int dn,.int b,_,_,_,_,_,_,_,_,rfl,.inr ⟨dn,rfl,bdn⟩,.inr ⟨b,rfl,bb'⟩,λ_=>⟨λz=>(nomatch z),λz=>(nomatch z)⟩⟩)
   ·exact wF rfl (w2 (λc=>⟨.int dn,.int b,_,_,_,_,_,_,_,_,rfl,.inr ⟨dn,rfl,bdn⟩,.inr ⟨b,rfl,bb'⟩,λ_=>⟨λz=>(nomatch z),λz=>(nomatch z)⟩⟩) λc=>⟨.int a,.int b,_,_,_,_,_,_,_,_,rfl,.inr ⟨a,rfl,ba'⟩,.inr ⟨b,rfl,bb'⟩,λ_=>⟨λz=>(nomatch z),λz=>(nomatch z)⟩⟩)
  ·rintro Γ' ⟨lo,hi,s10,s11,s12,s13,s14,s15,s16,s17,rfl,nl,nh,nn⟩
   refine ⟨k0,by omega,fs++[.tup [lo,hi]],_,_,_,_,_,_,_,_,_,_,_,rfl,by rw [List.length_append,lf]; rfl,wN hf ⟨lo,hi,rfl,λne=>?_⟩⟩
   have l1:1<=(ms2.map yg).length:=by
    cases ms2 with
    | nil=>exact absurd rfl ne
    | cons=>exact Nat.succ_le_succ (Nat.zero_le _)
   obtain ⟨n1,n2⟩:=nn l1
   rcases nl with rfl | ⟨a,rfl,ba⟩
   ·exact absurd rfl n1
   rcases nh with rfl | ⟨b,rfl,bb⟩
   ·exact absurd rfl n2
   exact ⟨(a,b),rfl,ba,bb⟩
 rintro Γ' ⟨fs,s7,s8,s9,s10,s11,s12,s13,s14,s15,s16,s17,rfl,lf,hf⟩
 rw [vJ] at lf
 refine ⟨k0,zNx _,rfl,w2 (λc=>q box (BX.mono (by omega))) λc=>?_⟩
 rw [qi] at c
 have ne:ms2≠[]:=λz=>by rw [z] at c; cases c
 obtain ⟨ps,rfl,hp⟩:∃ ps:List (Int × Int),fs=ps.map yD/\∀ p∈ps,Bd (ee + 20) p.1/\Bd (ee + 20) p.2:=by
  clear lf c q
  induction fs with
  | nil=>exact ⟨[],rfl,λ_ h=>nomatch h⟩
  | cons x fs ih=>
   obtain ⟨_,_,_,h0⟩:=hf x List.mem_cons_self
   obtain ⟨p,rfl,h1⟩:=h0 ne
   obtain ⟨ps,rfl,h2⟩:=ih λy hy=>hf y (List.mem_cons_of_mem _ hy)
   exact ⟨p :: ps,rfl,λy hy=>(List.mem_cons.mp hy).elim (λz=>z ▸ h1) (h2 y)⟩
 exact q ps ⟨by rw [List.length_map] at lf; exact lf,hp⟩
theorem zK5 {k:Nat} {f:Addr} {fd:FuncData} (F:zc K "_law_kept" "_law_kept" JZ f fd) (B:Bl mg) (bK:Fn P w K mg base "_law_hull" ["_law_one","_law_other_here"] k (zJ (zQt))) (aH:Fn P w K mg base "_law_image" ["_law_spec","_law_box_here"] k (zJ (qB))):zG P w K mg base zX (k + 1) f fd ["_law_spec","_law_box_here"] (zJ (zQs)):=by
 refine zu F Ja (λds R h=>by obtain ⟨n,bs,ms,u,box,rfl,_⟩:=h; rfl) λcdv A outer s H E hr=>⟨_,(zK (xW PassesOwn.never rfl (xE rfl B.range_ (zB zD zC)) (zt 2 Ja.nd rfl (Or.inl rfl)) (zM (ze 1 Ja.nd rfl (Or.inl rfl) (zP bK hr rfl (zB (zA 1) (zB (zP aH hr rfl (zB (zA 0) (zB (zA 1) zC))) zC))))))
  (zM (zV (zA 1)))),λds R h=>?_⟩
 obtain ⟨n,bs,ms,u,box,rfl,T,BX,q⟩:=h
 refine ⟨by decide,by decide,?_⟩
 refine ⟨λk Γ=>∃ (bx:List (Int × Int)) (s2:Sl),Γ=[.sh (xw n bs ms u),.sh (zZ bx),s2]/\Bx n (105 + 20 * k) bx,⟨box,.no,rfl,BX⟩,?_,?_⟩
 ·rintro k d Γ' hk ⟨bx,s2,rfl,B⟩
  obtain ⟨kn,rfl⟩:=vI hk
  exact ⟨n,bs,ms,u,bx,105 + 20 * k,rfl,T,by omega,by omega,B,λb1 B1=>⟨bx,b1,n,105 + 20 * (k + 1),rfl,T.n3,B.mono (by omega),B1.mono (by omega),λb2 B2=>⟨b2,_,rfl,B2⟩⟩⟩
 ·rintro Γ' ⟨bx,s2,rfl,B⟩
  rw [vJ] at B
  exact q bx B.mono
end
abbrev zn (s:Int × List Int):D:=.tup [.int s.1,L s.2]
abbrev yi (ss:List (Int × List Int)):D:=.lst (ss.map zn)
abbrev zl (t:List (List (Int × List Int))):D:=.lst (t.map yi)
structure ul (s:Int × List Int):Prop where
 o:Bd 210 s.1
 l:s.2.length<=100
 b:∀ x∈s.2,Bd 210 x
def uU (ss:List (Int × List Int)):Prop:=ss.length<=40/\∀ s∈ss,ul s
def wI (t:List (List (Int × List Int))):Prop:=t.length<=40/\∀ ss∈t,uU ss
structure In1 (n:Nat) (box:List (Int × Int)):Prop where
 len:box.length=n
 ok:∀ b∈box,b.1<=b.2/\Bd 105 b.1/\Bd 105 b.2
structure Bxs (n:Nat) (bxs:List (List (Int × Int))):Prop where
 l1:1<=bxs.length
 l4:bxs.length<=4
 bx:∀ b∈bxs,Bx n 280 b
structure Cl1 (n:Nat) (g:List (List Int)):Prop where
 l3:g.length<=3
 row:∀ r∈g,r.length=n + 1/\(∀ x∈r.take n,Bd 4 x)/\∀ x∈r,Bd 299 x
theorem zNb {α:Type} {l:List α} {f:α->D} {k:Nat} (z:α) (h:l.length=k + 1):yR (l.map f) (-1)=some (f (l.getD k z)):=by
 rw [uA]
 unfold yR ww
 rw [if_neg (by decide),if_pos (by omega)]
 show Option.map f l[((-1:Int) + (l.length:Int)).toNat]? = _
 rw [show ((-1:Int) + (l.length:Int)).toNat=k by omega,List.getElem?_eq_getElem (by omega),List.getD_eq_getElem?_getD,List.getElem?_eq_getElem (by omega)]
 rfl
theorem qz {α:Type} {l:List α} {k:Nat} {z:α} (h:k < l.length):l.getD k z∈l:=by
 rw [List.getD_eq_getElem?_getD,List.getElem?_eq_getElem h]
 exact List.getElem_mem _
def zPK:D->Int × Int
 | .tup [.int a,.int b]=>(a,b)
 | _=>(0,0)
def Jb:D->List (Int × Int)
 | .lst ds=>ds.map zPK
 | _=>[]
theorem zG8 (b:List (Int × Int)):Jb (zZ b)=b:=by
 show (b.map yD).map zPK=b
 rw [List.map_map]
 exact List.map_id _
def zQu:FL:=λds R=>∃ n bs ms u c,ds=[xw n bs ms u,.int c]/\vY n bs ms u/\∀ inner bxs,In1 n inner->Bxs n bxs->R (.tup [zZ inner,.lst (bxs.map zZ)])
def Zk:FL:=λds R=>∃ n bs ms u bxs c,ds=[xw n bs ms u,.lst (bxs.map zZ),.int c]/\vY n bs ms u/\Bxs n bxs/\∀ g,Cl1 n g->R (Rm g)
def Zl:FL:=λds R=>∃ n bs ms u m r box e,ds=[xw n bs ms u,yg m,U r,zZ box]/\vY n bs ms u/\jJ n bs.length m/\r.length=n + 1/\(∀ x∈r.take n,Bd 4 x)/\e<=400/\Bx n e box/\∀ s,ul s->R (zn s)
theorem zQ6 {n:Nat} {box:List (Int × Int)} {m:MD} (h:vM n box m=true):∃ r t,m.rows=r :: t:=by
 cases e:m.rows with
 | nil=>unfold vM at h; rw [e] at h; cases h
 | cons r t=>exact ⟨r,t,rfl⟩
section
variable {P:Program} {w:World} {K:PySem.W.Frag} {mg:Str->Option Value} {base:Heap}
abbrev Jc:Stmt:=zk 92
theorem Zm:zb ["_law_spec","_law_cell","_law_xs","_law_inner","_law_boxes_here","_law_k"] ["_law_spec","_law_cell"] (zL Jc):=.a
abbrev Zn:Stmt:=zk 93
theorem qD:zb ["_law_spec","_law_boxes_here","_law_cell","_law_xs","_law_rows_here","_law_k","_law_numbers","_law_bound"] ["_law_spec","_law_boxes_here","_law_cell"] (zL Zn):=.a
abbrev q9:Stmt:=zk 89
theorem um:zb ["_law_spec","_law_mode_here","_law_row","_law_box_here","_law_rows_here","_law_nexts","_law_steer","_law_push","_law_add","_law_divisor_here","_law_steps","_law_pushed"] ["_law_spec","_law_mode_here","_law_row","_law_box_here"] (zL q9):=.a
variable {aClaim aSettles aComes ag ah aPaper aRooms aFalls:Addr} (TClaim:zE K mg "Claim" aClaim) (AClaim:wc K aClaim) (TSettles:zE K mg "Settles" aSettles) (ASettles:wd K aSettles) (TComes:zE K mg "Comes" aComes) (AComes:we K aComes) (aa:zE K mg "Mode" ag) (ab:wf K ag) (ac:zE K mg "Thing" ah) (ae:wg K ah) (TPaper:zE K mg "Paper" aPaper) (APaper:wj K aPaper) (TRooms:zE K mg "Rooms" aRooms) (ARooms:wl K aRooms) (TFalls:zE K mg "Falls" aFalls) (AFalls:wm K aFalls)
include TClaim AClaim TSettles ASettles TComes AComes aa ab ac ae TPaper APaper TRooms ARooms TFalls AFalls
theorem zJh {k:Nat} {f:Addr} {fd:FuncData} (F:zc K "_law_boxes" "_law_boxes" Jc f fd) (B:Bl mg) (ak:Fn P w K mg base "_law_stream" ["_law_cell","_law_many"] k (zJ (j7))) (bL:Fn P w K mg base "_law_box" ["_law_cell","_law_many","_law_unit"] k (zJ (Zc))) (bN:Fn P w K mg base "_law_kept" ["_law_spec","_law_box_here"] k (zJ (zQs))) (aH:Fn P w K mg base "_law_image" ["_law_spec","_law_box_here"] k (zJ (qB))):zG P w K mg base zX (k + 1) f fd ["_law_spec","_law_cell"] (zJ (zQu)):=by
 refine zu F Zm (λds R h=>by obtain ⟨n,bs,ms,u,c,rfl,_⟩:=h; rfl) λcdv A outer s H E hr=>⟨_,(zK (ze 2 Zm.nd rfl (Or.inl rfl) (zP ak hr rfl (zB (zA 1) (zB zD zC))))
  (zK (ze 3 Zm.nd rfl (Or.inl rfl) (zP bL hr rfl (zB (zR (zA 2) zD (λ_ _=>rfl)) (zB (zR (zA 0) zD (λ_ _=>rfl)) (zB (zR (zA 0) zD (λ_ _=>rfl)) zC)))))
  (zK (wZ 4 Zm.nd rfl (Or.inl rfl) (zB (zP bN hr rfl (zB (zA 0) (zB (zA 3) zC))) zC))
  (zK (xW PassesOwn.never rfl (xE rfl B.range_ (zB (ye (zR (zA 2) zD (λ_ _=>rfl)) zD) zC)) (zt 5 Zm.nd rfl (Or.inl rfl)) (zM (yA (xa (xl PySem.F.plainAttrs_list PySem.F.slot_list_append PySem.F.type_list_append yO (yU 4) (zo (zP aH hr rfl (zB (zA 0) (zB (zNs 4 (xQ zD) (λ_ _=>rfl)) zC))) yJ))) xr)))
  (zM (wG 4 (zV (xU (zB (zA 3) (zB (zA 4) zC)))))))))),λds R h=>?_⟩
 obtain ⟨n,bs,ms,u,c,rfl,T,q⟩:=h
 have n3:=T.n3
 have u1:=T.u1
 refine ⟨c,8,rfl,by decide,λxs lx hx=>?_⟩
 refine xM (by decide) (by omega) λx0 _=>⟨_,rfl,_,rfl,x0,n,u,rfl,n3,by omega,T.bu,λinner li hi=>?_⟩
 refine ⟨n,bs,ms,u,inner,rfl,T,⟨li,λb hb=>(hi b hb).2⟩,λb1 B1=>⟨k0,?_⟩⟩
 refine xM (by decide) (by omega) λx1 _=>⟨by decide,?_⟩
 have m4:=md x1 (show (0:Int) < 4 by decide)
 refine ⟨by omega,by omega,?_⟩
 refine ⟨λk Γ=>∃ (bxs:List (List (Int × Int))) (s5:Sl),Γ=[.sh (xw n bs ms u),.sh (.int c),.sh (L xs),.sh (zZ inner),.ow (bxs.map zZ),s5]/\bxs.length=k + 1/\∀ b∈bxs,Bx n (210 + 20 * k) b,⟨[b1],.no,rfl,rfl,λb hb=>by rw [List.mem_singleton.mp hb]; exact B1⟩,?_,?_⟩
 ·rintro k d Γ' hk ⟨bxs,s5,rfl,lb,hb⟩
  obtain ⟨kn,rfl⟩:=vI hk
  refine ⟨_,zNb [] lb,n,bs,ms,u,bxs.getD k [],210 + 20 * k,rfl,T,by omega,by omega,hb _ (qz (by omega)),λb2 B2=>⟨by rw [List.length_map]; omega,bxs++[b2],.sh (.int (k:Int)),by rw [List.map_append]; rfl,by rw [List.length_append,lb]; rfl,wN (λb h=>(hb b h).mono (by omega)) (B2.mono (by omega))⟩⟩
 ·rintro Γ' ⟨bxs,s5,rfl,lb,hb⟩
  rw [vJ] at lb hb
  exact ⟨k0,q inner bxs ⟨li,hi⟩ ⟨by omega,by omega,λb h=>(hb b h).mono (by omega)⟩⟩
theorem zFY {k:Nat} {f:Addr} {fd:FuncData} (F:zc K "_law_claim_rows" "_law_claim_rows" Zn f fd) (B:Bl mg) (ak:Fn P w K mg base "_law_stream" ["_law_cell","_law_many"] k (zJ (j7))) (al:Fn P w K mg base "_law_number" ["_law_x","_law_far"] k (zJ (Xs))) (am:Fn P w K mg base "_law_top" ["_law_numbers","_law_box_here"] k (zJ (Xy))):zG P w K mg base zX (k + 1) f fd ["_law_spec","_law_boxes_here","_law_cell"] (zJ (Zk)):=by
 refine zu F qD (λds R h=>by obtain ⟨n,bs,ms,u,bxs,c,rfl,_⟩:=h; rfl) λcdv A outer s H E hr=>⟨_,(zK (ze 3 qD.nd rfl (Or.inr rfl) (zP ak hr rfl (zB (zA 2) (zB zD zC))))
  (zK (wZ 4 qD.nd rfl (Or.inl rfl) zC)
  (zK (xW PassesOwn.never rfl (xE rfl B.range_ (zB (zR (yh (zB zD (zB zD (zB zD (zB zD zC))))) (ye (zR (zA 3) zD (λ_ _=>rfl)) zD) (λ_ _=>rfl)) zC)) (zt 5 qD.nd rfl (Or.inr rfl)) (zK (ze 6 qD.nd rfl (Or.inr rfl) (yQ (own:=["_law_j"]) (caps:=[(3,"_law_xs"),(5,"_law_k")]) (yC (S:=zL Zn) (N:=["_law_spec","_law_boxes_here","_law_cell","_law_xs","_law_rows_here","_law_k","_law_numbers","_law_bound"]) rfl (by decide +kernel) rfl ⟨_,rfl⟩ rfl (by decide +kernel) (by decide +kernel)) rfl rfl yF (xE rfl B.range_ (zB (zR (zA 0) zD (λ_ _=>rfl)) zC)) (λ_ _ _ _=>(zt 0 (show (["_law_j","_law_xs","_law_k"]:List Str).Nodup by decide +kernel) rfl (Or.inl rfl))) (λ_ _ _ _=>(zP al hr rfl (zB (zR (zA 1) (zh (zh zD (ya zD (zA 2))) (zA 0)) (λ_ _=>rfl)) (zB zD zC))))))
   (zK (ze 7 qD.nd rfl (Or.inl rfl) (zq (zLs rfl) zNW rfl B.max_ gj (zB (yQ (own:=["_law_box_here"]) (caps:=[(6,"_law_numbers")]) (yC (S:=zL Zn) (N:=["_law_spec","_law_boxes_here","_law_cell","_law_xs","_law_rows_here","_law_k","_law_numbers","_law_bound"]) rfl (by decide +kernel) rfl ⟨_,rfl⟩ rfl (by decide +kernel) (by decide +kernel)) rfl rfl yF (yS (zA 1)) (λ_ _ _ _=>(zt 0 (show (["_law_box_here","_law_numbers"]:List Str).Nodup by decide +kernel) rfl (Or.inl rfl))) (λ_ _ _ _=>(zP am hr rfl (zB (zA 1) (zB (zA 0) zC))))) zC)))
   (zK (ze 7 qD.nd rfl (Or.inl rfl) (zh (zA 7) (zR (yh (zB zD (zB zD (zB (zR (zA 0) zD (λ_ _=>rfl)) (zB (xQ zD) zC))))) (ye (xq (zR (zA 3) zD (λ_ _=>rfl)) zD) zD) (λ_ _=>rfl))))
   (zM (yA (xa (xl PySem.F.plainAttrs_list PySem.F.slot_list_append PySem.F.type_list_append yO (yU 4) (zo (xV ua uf rfl B.tuple_ vP (zB (zh (zA 6) (yh (zB (zA 7) zC))) zC)) yJ))) xr))))))
  (zM (wG 4 (zV (zA 4))))))),λds R h=>?_⟩
 obtain ⟨n,bs,ms,u,bxs,c,rfl,T,BB,q⟩:=h
 have n3:=T.n3
 have l1:=BB.l1
 have l4:=BB.l4
 refine ⟨c,12,rfl,by decide,λxs lx hx=>⟨k0,?_⟩⟩
 refine ⟨k0,xM (by decide) (by omega) λx0 _=>⟨by decide,wq (md x0 (by decide)).1 (by have:=md x0 (show (0:Int) < 4 by decide); show x0.fmod 4 < 4; omega) λz hz=>?_⟩⟩
 obtain ⟨h,rfl,h3⟩:∃ h:Nat,z=.int (h:Int)/\h<=3:=by
  simp only [List.mem_cons,List.not_mem_nil,or_false] at hz
  rcases hz with rfl | rfl | rfl | rfl
  ·exact ⟨1,rfl,by decide⟩
  ·exact ⟨2,rfl,by decide⟩
  ·exact ⟨3,rfl,by decide⟩
  ·exact ⟨0,rfl,by decide⟩
 refine ⟨by omega,by omega,?_⟩
 rw [show ((h:Nat):Int).toNat=h by omega]
 refine ⟨λk Γ=>∃ (g:List (List Int)) (s5 s6 s7:Sl),Γ=[.sh (xw n bs ms u),.sh (.lst (bxs.map zZ)),.sh (.int c),.sh (L xs),.ow (g.map U),s5,s6,s7]/\g.length=k/\∀ r∈g,r.length=n + 1/\(∀ x∈r.take n,Bd 4 x)/\∀ x∈r,Bd 299 x,⟨[],.no,.no,.no,rfl,rfl,λ_ h=>nomatch h⟩,?_,?_⟩
 ·rintro k d Γ' hk ⟨g,s5,s6,s7,rfl,lg,hg⟩
  obtain ⟨kn,rfl⟩:=vI hk
  have bk:Bd 2 (k:Int):=Zb (by omega)
  refine ⟨_,rfl,by omega,by omega,?_⟩
  rw [show ((n:Nat):Int).toNat=n by omega]
  refine zj.nums (λx=>Bd 2 x) (by omega) (λj hj=>⟨(Bd.lit (i:=3) (n:=2)).mono,bk.mono,xM (by omega) (by omega) λx1 _=>⟨_,2,rfl,by decide,(Bd.lit (i:=2) (n:=2)).mono,λy y1 y2=>⟨y,rfl,vA (f:=3) (by decide) (by omega) (by omega)⟩⟩⟩) λnu lnu hnu=>?_
  refine wn zZ Jb zG8 (λb=>.int (yB nu b)) (by omega) (λb hb=>⟨_,nu,b,280,rfl,.inl rfl,by omega,λx hx=>(hnu x hx).mono,by decide,(BB.bx b hb).bd,rfl⟩) ⟨bxs.map (yB nu),by rw [List.map_map]; rfl,by rw [List.length_map]; omega,λM hM _=>?_⟩
  have bM:Bd 290 M:=by
   obtain ⟨b,hb,rfl⟩:=List.mem_map.mp hM
   exact (qw hnu (BB.bx b hb).bd).mono (by omega)
  refine ⟨_,rfl,k0,xM (by decide) (by omega) λx2 _=>⟨by decide,(Bd.lit (i:=4) (n:=3)).mono,by decide,wq (md _ (by decide)).1 (by have:=md (x2.fdiv 4) (show (0:Int) < 4 by decide); show (x2.fdiv 4).fmod 4 < 4; omega) λz hz=>?_⟩⟩
  obtain ⟨v,rfl,bv⟩:vK (Bd 290) z:=by
   simp only [List.mem_cons,List.not_mem_nil,or_false] at hz
   rcases hz with rfl | rfl | rfl | rfl
   ·exact ⟨_,rfl,xu⟩
   ·exact ⟨_,rfl,xu⟩
   ·exact ⟨_,rfl,T.bu.mono⟩
   ·exact ⟨_,rfl,(Bd.lit (i:=-1) (n:=1)).mono⟩
  refine ⟨k0,by rw [List.length_map]; show _ + 1<=1000; omega,by rw [List.length_map]; omega,g++[nu++[M + v]],.sh (.int (k:Int)),.sh (L nu),.sh (.int (M + v)),?_,by rw [List.length_append,lg]; rfl,wN hg ⟨by rw [List.length_append,lnu]; rfl,λx hx=>by
   rw [List.take_append_of_le_length (by omega),List.take_of_length_le (by omega)] at hx
   exact (hnu x hx).mono,wN (λx hx=>(hnu x hx).mono) ((bM.add bv).mono)⟩⟩
  rw [List.map_append,List.map_cons,List.map_nil,U,List.map_append]
  rfl
 ·rintro Γ' ⟨g,s5,s6,s7,rfl,lg,hg⟩
  rw [vJ] at lg
  exact q g ⟨by omega,hg⟩
theorem zEu {k:Nat} {f:Addr} {fd:FuncData} (F:zc K "_law_step_shares" "_law_step_shares" q9 f fd) (B:Bl mg) (aG:Fn P w K mg base "_law_beyond" ["_law_mode_here","_law_box_here"] k (zJ (qA))) (aq:Fn P w K mg base "_law_both" ["_law_numbers"] k (zJ (Xu))):zG P w K mg base zX (k + 1) f fd ["_law_spec","_law_mode_here","_law_row","_law_box_here"] (zJ (Zl)):=by
 refine zu F um (λds R h=>by obtain ⟨n,bs,ms,u,m,r,box,ee,rfl,_⟩:=h; rfl) λcdv A outer s H E hr=>⟨_,(zK (uS (zA 1) (xh rfl (zm 4 um.nd rfl (Or.inl rfl) (zm 5 um.nd rfl (Or.inr rfl) (zm 6 um.nd rfl (Or.inl rfl) (zm 7 um.nd rfl (Or.inr rfl) (zm 8 um.nd rfl (Or.inl rfl) (zm 9 um.nd rfl (Or.inl rfl) xf))))))))
  (zK (yI (yb (zP aG hr rfl (zB (zA 1) (zB (zA 3) zC)))) (zM (zV (xU (zB zD (zB (zh (zh (zP aq hr rfl (zB (yQ (own:=["_law_c"]) (caps:=[]) (yC (S:=zL q9) (N:=["_law_spec","_law_mode_here","_law_row","_law_box_here","_law_rows_here","_law_nexts","_law_steer","_law_push","_law_add","_law_divisor_here","_law_steps","_law_pushed"]) rfl (by decide +kernel) rfl ⟨_,rfl⟩ rfl (by decide +kernel) (by decide +kernel)) rfl rfl yF (yS (y9 (zR (zA 4) zD (λ_ _=>rfl)) y8 (yt (xQ zD)))) (λ_ _ _ _=>(zt 0 (show (["_law_c"]:List Str).Nodup by decide +kernel) rfl (Or.inl rfl))) (λ_ _ _ _=>(xc zD (zA 0)))) zC)) (yh (zB zD zC))) (ya (yh (zB zD zC)) (ya zD (zq yV yX rfl B.len_ yW (zB (zR (zA 0) zD (λ_ _=>rfl)) zC))))) zC))))) yH)
  (zK (uT 10 false um.nd rfl rfl (own:=["_law_j"]) (caps:=[(0,"_law_spec"),(2,"_law_row"),(5,"_law_nexts")]) (yC (S:=zL q9) (N:=["_law_spec","_law_mode_here","_law_row","_law_box_here","_law_rows_here","_law_nexts","_law_steer","_law_push","_law_add","_law_divisor_here","_law_steps","_law_pushed"]) rfl (by decide +kernel) rfl ⟨_,rfl⟩ rfl (by decide +kernel) (by decide +kernel)) rfl rfl yF (xE rfl B.range_ (zB (zR (zA 0) zD (λ_ _=>rfl)) zC)) (λ_ _ _ _=>(zt 0 (show (["_law_j","_law_spec","_law_row","_law_nexts"]:List Str).Nodup by decide +kernel) rfl (Or.inr rfl))) (λ_ _ _ _=>(zq (Yk rfl) Y2 rfl B.sum_ Yj (zB (yQ (own:=["_law_i"]) (caps:=[(0,"_law_j"),(2,"_law_row"),(3,"_law_nexts")]) (Yn rfl (by decide +kernel) (by decide +kernel) (by decide +kernel) (by decide +kernel)) rfl rfl yF (xE rfl B.range_ (zB (zR (zA 1) zD (λ_ _=>rfl)) zC)) (λ_ _ _ _=>(zt 0 (show (["_law_i","_law_j","_law_row","_law_nexts"]:List Str).Nodup by decide +kernel) rfl (Or.inl rfl))) (λ_ _ _ _=>(ya (zR (zA 2) (zA 0) (λ_ _=>rfl)) (zR (zR (zA 3) (zA 0) (λ_ _=>rfl)) (zA 1) (λ_ _=>rfl))))) zC))) rfl)
  (zK (uT 11 false um.nd rfl rfl (own:=["_law_j"]) (caps:=[(0,"_law_spec"),(2,"_law_row"),(7,"_law_push")]) (yC (S:=zL q9) (N:=["_law_spec","_law_mode_here","_law_row","_law_box_here","_law_rows_here","_law_nexts","_law_steer","_law_push","_law_add","_law_divisor_here","_law_steps","_law_pushed"]) rfl (by decide +kernel) rfl ⟨_,rfl⟩ rfl (by decide +kernel) (by decide +kernel)) rfl rfl yF (xE rfl B.range_ (zB (zq yV yX rfl B.len_ yW (zB (zR (zA 0) zD (λ_ _=>rfl)) zC)) zC)) (λ_ _ _ _=>(zt 0 (show (["_law_j","_law_spec","_law_row","_law_push"]:List Str).Nodup by decide +kernel) rfl (Or.inr rfl))) (λ_ _ _ _=>(zq (Yk rfl) Y2 rfl B.sum_ Yj (zB (yQ (own:=["_law_i"]) (caps:=[(0,"_law_j"),(2,"_law_row"),(3,"_law_push")]) (Yn rfl (by decide +kernel) (by decide +kernel) (by decide +kernel) (by decide +kernel)) rfl rfl yF (xE rfl B.range_ (zB (zR (zA 1) zD (λ_ _=>rfl)) zC)) (λ_ _ _ _=>(zt 0 (show (["_law_i","_law_j","_law_row","_law_push"]:List Str).Nodup by decide +kernel) rfl (Or.inl rfl))) (λ_ _ _ _=>(ya (zR (zA 2) (zA 0) (λ_ _=>rfl)) (zR (zR (zA 3) (zA 0) (λ_ _=>rfl)) (zA 1) (λ_ _=>rfl))))) zC))) rfl)
  (zM (zV (xU (zB zD (zB (zh (zh (zP aq hr rfl (zB (zA 10) zC)) (ya (yh (zB zD zC)) (zq yV yX rfl B.len_ yW (zB (zA 4) zC)))) (zP aq hr rfl (zB (zA 11) zC))) zC))))))))),λds R h=>?_⟩
 obtain ⟨n,bs,ms,u,m,r,box,ee,rfl,T,M,lr,br,e4,BX,q⟩:=h
 have n3:=T.n3
 have b2:=T.b2
 have lb:(List.map yD bs).length=bs.length:=List.length_map ..
 refine ⟨m,n,bs.length,box,ee,rfl,M,e4,BX,w2 (λc=>?_) λc=>?_⟩
 ·obtain ⟨r0,t,er⟩:=zQ6 c
  have hm:r0∈m.rows:=by rw [er]; exact List.mem_cons_self
  have l0:=M.ok.rows r0 hm
  refine ⟨U r0,by have h:=qC (u:=U) (rows:=m.rows) (k:=0) (by rw [er]; exact Nat.succ_pos _); rw [show m.rows.getD 0 []=r0 by rw [er]; rfl] at h; exact h,?_⟩
  refine zj.cast (vW l0) (zj.int (λx=>0 - x) (by rw [List.length_take]; omega) (λx hx=>rfl) ⟨_,xI (r0.take n),rfl,.inl rfl,by rw [j9,List.length_take]; omega,λx hx=>(qx (M.rb r0 hm).1 x hx).mono,λys ly hy=>?_⟩)
  rw [j9,List.length_take] at ly
  have rep:List.replicate (2 * (bs.length:Int)).toNat (D.int 0)=(List.replicate (2 * bs.length) (0:Int)).map D.int:=by rw [List.map_replicate,show (2 * (bs.length:Int)).toNat=2 * bs.length by omega]
  refine ⟨k0,by rw [List.length_map]; show _ + 1<=1000; omega,k0,_,rfl,(Bd.lit (i:=2) (n:=2)).mono,Bd.mono (n:=4) (vA (f:=15) (by decide) (by omega) (by omega)) (by decide),by omega,by omega,?_⟩
  rw [lb,rep]
  refine ⟨by rw [List.length_append,List.length_map,List.length_map,List.length_replicate]; show _ + 1 + _<=1000; omega,k0,?_⟩
  have:=q (0,ys++[1]++List.replicate (2 * bs.length) 0) ⟨xu,by rw [List.length_append,List.length_append,List.length_replicate]; show _ + 1 + _<=100; omega,λx hx=>?_⟩
  ·unfold zn L at this
   rw [List.map_append,List.map_append] at this
   exact this
  ·rcases List.mem_append.mp hx with hx | hx
   ·exact wN (λy h=>(hy y h).2.mono) ((Bd.lit (i:=1) (n:=1)).mono) x hx
   ·rw [List.eq_of_mem_replicate hx]; exact xu
 refine ⟨_,rfl,by omega,by omega,?_⟩
 rw [show ((n:Nat):Int).toNat=n by omega]
 refine zj.nums (λx=>Bd 20 x) (by omega) (λj hj=>?_) λss lss hss=>?_
 ·refine ⟨_,rfl,by omega,by omega,?_⟩
  rw [show ((n:Nat):Int).toNat=n by omega]
  refine zj.nums (λx=>Bd 10 x) (by omega) (λi hi=>?_) λzs lz hz=>⟨zs,rfl,_,rfl,(JV hz).mono (by omega)⟩
  have k1:i < m.nexts.length:=by rw [M.ok.nexts.1]; exact hi
  have bn:=M.nx _ (jK k1)
  have br:Bd 4 (r.getD i 0):=by
   refine br _ ?_
   rw [List.getD_eq_getElem?_getD,List.getElem?_eq_getElem (by omega)]
   exact List.mem_take_iff_getElem.mpr ⟨i,by omega,rfl⟩
  exact ⟨_,wH (j:=i) (by omega) rfl,_,qC k1,_,wH (j:=j) (by rw [M.ok.nexts.2 _ (jK k1)]; exact hj) rfl,br.mono,(vv bn j).mono,_,rfl,(br.mul (vv bn j)).mono⟩
 refine ⟨_,rfl,by omega,by omega,?_⟩
 rw [show ((List.length (List.map yD bs):Nat):Int).toNat=bs.length by omega]
 refine zj.nums (λx=>Bd 20 x) (by omega) (λj hj=>?_) λps lps hps=>?_
 ·refine ⟨_,rfl,by omega,by omega,?_⟩
  rw [show ((n:Nat):Int).toNat=n by omega]
  refine zj.nums (λx=>Bd 10 x) (by omega) (λi hi=>?_) λzs lz hz=>⟨zs,rfl,_,rfl,(JV hz).mono (by omega)⟩
  have k1:i < m.push.length:=by rw [M.ok.push.1]; exact hi
  have bn:=M.ps _ (jK k1)
  have br:Bd 4 (r.getD i 0):=by
   refine br _ ?_
   rw [List.getD_eq_getElem?_getD,List.getElem?_eq_getElem (by omega)]
   exact List.mem_take_iff_getElem.mpr ⟨i,by omega,rfl⟩
  exact ⟨_,wH (j:=i) (by omega) rfl,_,qC k1,_,wH (j:=j) (by rw [M.ok.push.2 _ (jK k1)]; exact hj) rfl,br.mono,(vv bn j).mono,_,rfl,(br.mul (vv bn j)).mono⟩
 have r1:=M.r1
 have lR:(List.map U m.rows).length=m.rows.length:=List.length_map ..
 refine ⟨_,ss,rfl,.inl rfl,by omega,λx hx=>(hss x hx).mono,λys ly hy=>?_⟩
 have rep:List.replicate ((m.rows.length:Nat):Int).toNat (D.int 0)=(List.replicate m.rows.length (0:Int)).map D.int:=by rw [List.map_replicate,Int.toNat_natCast]
 refine ⟨k0,by omega,by omega,?_⟩
 rw [lR,rep]
 refine ⟨by rw [List.length_map,List.length_map,List.length_replicate]; omega,_,ps,rfl,.inl rfl,by omega,λx hx=>(hps x hx).mono,λzs lz hz=>?_⟩
 refine ⟨by rw [List.length_append,List.length_map,List.length_map,List.length_map,List.length_replicate]; omega,k0,?_⟩
 have:=q (1,ys++List.replicate m.rows.length 0++zs) ⟨(Bd.lit (i:=1) (n:=1)).mono,by rw [List.length_append,List.length_append,List.length_replicate]; show _ + _ + _<=100; omega,λx hx=>?_⟩
 ·unfold zn L at this
  rw [List.map_append,List.map_append] at this
  exact this
 ·rcases List.mem_append.mp hx with hx | hx
  ·rcases List.mem_append.mp hx with hx | hx
   ·exact (hy x hx).2.mono
   ·rw [List.eq_of_mem_replicate hx]; exact xu
  ·exact (hz x hx).2.mono
end
theorem Jd:∀ {es:List D},(∀ e∈es,∃ s,e=zn s/\ul s)->∃ ss:List (Int × List Int),es=ss.map zn/\∀ s∈ss,ul s
 | [],_=>⟨[],rfl,λ_ h=>nomatch h⟩
 | x :: es,h=>by
  obtain ⟨s,rfl,h1⟩:=h x List.mem_cons_self
  obtain ⟨ss,rfl,h2⟩:=Jd λy hy=>h y (List.mem_cons_of_mem _ hy)
  exact ⟨s :: ss,rfl,λy hy=>(List.mem_cons.mp hy).elim (λz=>z ▸ h1) (h2 y)⟩
theorem zPY:∀ {es:List D},(∀ e∈es,∃ s,e=yi s/\uU s)->∃ ss:List (List (Int × List Int)),es=ss.map yi/\∀ s∈ss,uU s
 | [],_=>⟨[],rfl,λ_ h=>nomatch h⟩
 | x :: es,h=>by
  obtain ⟨s,rfl,h1⟩:=h x List.mem_cons_self
  obtain ⟨ss,rfl,h2⟩:=zPY λy hy=>h y (List.mem_cons_of_mem _ hy)
  exact ⟨s :: ss,rfl,λy hy=>(List.mem_cons.mp hy).elim (λz=>z ▸ h1) (h2 y)⟩
theorem zNn:∀ {es:List D},(∀ e∈es,∃ s,e=zl s/\wI s)->∃ ss:List (List (List (Int × List Int))),es=ss.map zl/\∀ s∈ss,wI s
 | [],_=>⟨[],rfl,λ_ h=>nomatch h⟩
 | x :: es,h=>by
  obtain ⟨s,rfl,h1⟩:=h x List.mem_cons_self
  obtain ⟨ss,rfl,h2⟩:=zNn λy hy=>h y (List.mem_cons_of_mem _ hy)
  exact ⟨s :: ss,rfl,λy hy=>(List.mem_cons.mp hy).elim (λz=>z ▸ h1) (h2 y)⟩
theorem X1 {n e:Nat} {bx:List (Int × Int)} (B:Bx n e bx) (h1:2<=e):∀ r∈uH bx,r.length=n + 1/\(∀ x∈r.take n,Bd 2 x)/\∀ x∈r,Bd e x:=λr hr=>by
 obtain ⟨q,hq,hr⟩:=List.mem_flatten.mp hr
 obtain ⟨i,hi,rfl⟩:=List.mem_mapIdx.mp hq
 have l:=B.len
 have hb:=B.bd _ (List.getElem_mem hi)
 have u1:=zLx (n:=bx.length) (pl:=(i:Int)) (e:=2) (nu:=1) Bd.lit
 have lu:(y6 (i:Int) bx.length 1).length=n:=by rw [u8]; exact l
 rcases List.mem_cons.mp hr with rfl | hr
 ·exact ⟨by rw [List.length_append,lu]; rfl,λx hx=>by rw [List.take_append_of_le_length (by omega),List.take_of_length_le (by omega)] at hx; exact u1 x hx,wN (λx hx=>(u1 x hx).mono h1) hb.2⟩
 ·rw [List.mem_singleton.mp hr]
  have u2:∀ x∈(y6 (i:Int) bx.length 1).map (λx=>0 - x),Bd 2 x:=λx hx=>by
   obtain ⟨y,hy,rfl⟩:=List.mem_map.mp hx
   rw [Int.zero_sub]
   exact (u1 y hy).neg
  have l2:((y6 (i:Int) bx.length 1).map (λx=>0 - x)).length=n:=by rw [List.length_map]; exact lu
  exact ⟨by rw [List.length_append,l2]; rfl,λx hx=>by rw [List.take_append_of_le_length (by omega),List.take_of_length_le (by omega)] at hx; exact u2 x hx,wN (λx hx=>(u2 x hx).mono h1) (by rw [Int.zero_sub]; exact hb.1.neg)⟩
theorem Zo (bx:List (Int × Int)):(uH bx).length=2 * bx.length:=by
 unfold uH
 rw [List.length_flatten]
 have e:(bx.mapIdx (xv bx.length)).map List.length=List.replicate bx.length 2:=by
  refine List.ext_getElem (by simp) λi h1 h2=>?_
  simp [xv]
 rw [e]
 simp
 omega
theorem zLv {n:Nat} {bx:List (Int × Int)} (B:Bx n 280 bx) (n3:n<=3):wo (uH bx) n:=⟨λr hr=>⟨(X1 B (by decide) r hr).1,λx hx=>((X1 B (by decide) r hr).2.2 x hx).mono⟩,by rw [Zo,B.len]; omega⟩
def Zq:FL:=λds R=>∃ bx n,ds=[zZ bx]/\n<=3/\Bx n 280 bx/\∀ ss,uU ss->R (yi ss)
def Zr:FL:=λds R=>∃ n bs ms u bx af,ds=[xw n bs ms u,zZ bx,zZ af]/\vY n bs ms u/\Bx n 280 bx/\Bx n 280 af/\∀ t,wI t->R (zl t)
def X2 (v:List (List (List (Int × List Int)))):Prop:=v.length<=40/\∀ t∈v,wI t
abbrev uJ (v:List (List (List (Int × List Int)))):D:=.lst (v.map zl)
theorem uK {α:Type} {f:α->D} {l:List α} {k:Nat} (z:α) (h:k < l.length):yR (l.map f) (k:Int)=some (f (l.getD k z)):=by
 rw [uA]
 unfold yR ww
 rw [if_pos (by omega),if_pos (by omega)]
 show Option.map f l[((k:Nat):Int).toNat]? = _
 rw [show ((k:Nat):Int).toNat=k by omega,List.getElem?_eq_getElem h,List.getD_eq_getElem?_getD,List.getElem?_eq_getElem h]
 rfl
abbrev wJ (rooms:List (List (List Int))) (BK A1 A2 A3:D):D:=.lst [uG rooms,BK,A1,A2,A3]
def Zs:FL:=λds R=>∃ n bs ms u c,ds=[xw n bs ms u,.int c]/\vY n bs ms u/\∀ inner g t rooms back S1 S4 S3,In1 n inner->Cl1 n g->0<=t->Bd 100 t->ZZ n rooms->0<=back->back < (rooms.length:Int)->uU S1->X2 S4->wI S3->R (.tup [zZ inner,Rm g,.int t,wJ rooms (.int back) (yi S1) (uJ S4) (zl S3)])
section
variable {P:Program} {w:World} {K:PySem.W.Frag} {mg:Str->Option Value} {base:Heap}
abbrev Je:Stmt:=zk 91
theorem Jf:zb ["_law_box_here","_law_some","_law_row"] ["_law_box_here"] (zL Je):=.a
abbrev X3:Stmt:=zk 90
theorem Jg:zb ["_law_spec","_law_box_here","_law_after","_law_found","_law_mode_here"] ["_law_spec","_law_box_here","_law_after"] (zL X3):=.a
abbrev qE:Stmt:=zk 94
theorem vz:zb ["_law_spec","_law_cell","_law_xs","_law_inner","_law_boxes_here","_law_back","_law_turn","_law_asked","_law_rows_here","_law_after","_law_steps","_law_stays","_law_rooms"] ["_law_spec","_law_cell"] (zL qE):=.a
variable {aClaim aSettles aComes ag ah aPaper aRooms aFalls:Addr} (TClaim:zE K mg "Claim" aClaim) (AClaim:wc K aClaim) (TSettles:zE K mg "Settles" aSettles) (ASettles:wd K aSettles) (TComes:zE K mg "Comes" aComes) (AComes:we K aComes) (aa:zE K mg "Mode" ag) (ab:wf K ag) (ac:zE K mg "Thing" ah) (ae:wg K ah) (TPaper:zE K mg "Paper" aPaper) (APaper:wj K aPaper) (TRooms:zE K mg "Rooms" aRooms) (ARooms:wl K aRooms) (TFalls:zE K mg "Falls" aFalls) (AFalls:wm K aFalls)
include TClaim AClaim TSettles ASettles TComes AComes aa ab ac ae TPaper APaper TRooms ARooms TFalls AFalls
theorem zFZ {k:Nat} {f:Addr} {fd:FuncData} (F:zc K "_law_box_starts" "_law_box_starts" Je f fd) (B:Bl mg) (ar:Fn P w K mg base "_law_rows" ["_law_box_here"] k (zJ (Zd))) (aq:Fn P w K mg base "_law_both" ["_law_numbers"] k (zJ (Xu))):zG P w K mg base zX (k + 1) f fd ["_law_box_here"] (zJ (Zq)):=by
 refine zu F Jf (λds R h=>by obtain ⟨bx,n,rfl,_⟩:=h; rfl) λcdv A outer s H E hr=>⟨_,(zK (wZ 1 Jf.nd rfl (Or.inl rfl) zC)
  (zK (xW PassesOwn.never rfl (yS (zP ar hr rfl (zB (zA 0) zC))) (zt 2 Jf.nd rfl (Or.inl rfl)) (zM (yA (xa (xl PySem.F.plainAttrs_list PySem.F.slot_list_append PySem.F.type_list_append yO (yU 1) (zo (xU (zB zD (zB (zP aq hr rfl (zB (y9 (zA 2) y8 (yt (xQ zD))) zC)) zC))) yJ))) xr)))
  (zM (wG 1 (zV (zA 1)))))),λds R h=>?_⟩
 obtain ⟨bx,n,rfl,n3,B,q⟩:=h
 have lb:=B.len
 refine ⟨k0,bx,rfl,by omega,?_⟩
 refine ⟨λk Γ=>∃ (ss:List (Int × List Int)) (s2:Sl),Γ=[.sh (zZ bx),.ow (ss.map zn),s2]/\ss.length=k/\∀ s∈ss,ul s,⟨[],.no,rfl,rfl,λ_ h=>nomatch h⟩,?_,?_⟩
 ·rintro k d Γ' hk ⟨ss,s2,rfl,ls,hs⟩
  obtain ⟨r,hr,rfl⟩:=qv hk
  have kl:=(List.getElem?_eq_some_iff.mp hr).1
  rw [Zo] at kl
  obtain ⟨lr,br,_⟩:=X1 B (by decide) r (List.mem_of_getElem? hr)
  refine ⟨_,r.take n,rfl,.inr (by rw [vW lr]),by rw [List.length_take]; omega,λx hx=>(br x hx).mono,λys ly hy=>⟨k0,by rw [List.length_map]; omega,ss++[(1,ys)],.sh (U r),by rw [List.map_append]; rfl,by rw [List.length_append,ls]; rfl,wN hs ⟨(Bd.lit (i:=1) (n:=1)).mono,by rw [ly,List.length_take]; omega,λx hx=>(hy x hx).2.mono⟩⟩⟩
 ·rintro Γ' ⟨ss,s2,rfl,ls,hs⟩
  rw [List.length_map,Zo] at ls
  exact q ss ⟨by omega,hs⟩
theorem zF3 {k:Nat} {f:Addr} {fd:FuncData} (F:zc K "_law_box_steps" "_law_box_steps" X3 f fd) (B:Bl mg) (ar:Fn P w K mg base "_law_rows" ["_law_box_here"] k (zJ (Zd))) (bO:Fn P w K mg base "_law_step_shares" ["_law_spec","_law_mode_here","_law_row","_law_box_here"] k (zJ (Zl))):zG P w K mg base zX (k + 1) f fd ["_law_spec","_law_box_here","_law_after"] (zJ (Zr)):=by
 refine zu F Jg (λds R h=>by obtain ⟨n,bs,ms,u,bx,af,rfl,_⟩:=h; rfl) λcdv A outer s H E hr=>⟨_,(zK (wZ 3 Jg.nd rfl (Or.inl rfl) zC)
  (zK (xW PassesOwn.never rfl (yS (zR (zA 0) zD (λ_ _=>rfl))) (zt 4 Jg.nd rfl (Or.inr rfl)) (zM (yA (xa (xl PySem.F.plainAttrs_list PySem.F.slot_list_append PySem.F.type_list_append yO (yU 3) (zo (yQ (own:=["_law_row"]) (caps:=[(0,"_law_spec"),(1,"_law_box_here"),(4,"_law_mode_here")]) (yC (S:=zL X3) (N:=["_law_spec","_law_box_here","_law_after","_law_found","_law_mode_here"]) rfl (by decide +kernel) rfl ⟨_,rfl⟩ rfl (by decide +kernel) (by decide +kernel)) rfl rfl yF (yS (zP ar hr rfl (zB (zA 2) zC))) (λ_ _ _ _=>(zt 0 (show (["_law_row","_law_spec","_law_box_here","_law_mode_here"]:List Str).Nodup by decide +kernel) rfl (Or.inl rfl))) (λ_ _ _ _=>(zP bO hr rfl (zB (zA 1) (zB (zA 3) (zB (zA 0) (zB (zA 2) zC))))))) yJ))) xr)))
  (zM (wG 3 (zV (zA 3)))))),λds R h=>?_⟩
 obtain ⟨n,bs,ms,u,bx,af,rfl,T,B,A,q⟩:=h
 have n3:=T.n3
 have m3:=T.m3
 have la:=A.len
 refine ⟨k0,_,rfl,?_⟩
 refine ⟨λk Γ=>∃ (t:List (List (Int × List Int))) (s4:Sl),Γ=[.sh (xw n bs ms u),.sh (zZ bx),.sh (zZ af),.ow (t.map yi),s4]/\t.length=k/\∀ ss∈t,uU ss,⟨[],.no,rfl,rfl,λ_ h=>nomatch h⟩,?_,?_⟩
 ·rintro k d Γ' hk ⟨t,s4,rfl,lt,ht⟩
  obtain ⟨m,hm,rfl⟩:=qv hk
  have kl:=(List.getElem?_eq_some_iff.mp hm).1
  refine ⟨af,rfl,by omega,?_⟩
  refine zj.all (λd=>∃ s,d=zn s/\ul s) (by rw [List.length_map,Zo]; omega) (λd hd=>?_) λes le he=>?_
  ·obtain ⟨r,hr,rfl⟩:=List.mem_map.mp hd
   obtain ⟨lr,br,_⟩:=X1 A (by decide) r hr
   exact ⟨n,bs,ms,u,m,r,bx,280,rfl,T,T.md m (List.mem_of_getElem? hm),lr,λx hx=>(br x hx).mono,by decide,B,λs hs=>⟨s,rfl,hs⟩⟩
  obtain ⟨ss,rfl,hss⟩:=Jd he
  rw [List.length_map,List.length_map,Zo] at le
  exact ⟨by rw [List.length_map]; omega,t++[ss],.sh (yg m),by rw [List.map_append]; rfl,by rw [List.length_append,lt]; rfl,wN ht ⟨by omega,hss⟩⟩
 ·rintro Γ' ⟨t,s4,rfl,lt,ht⟩
  rw [List.length_map] at lt
  exact q t ⟨by omega,ht⟩
theorem zJd {k:Nat} {f:Addr} {fd:FuncData} (F:zc K "_law_parts" "_law_parts" qE f fd) (B:Bl mg) (ak:Fn P w K mg base "_law_stream" ["_law_cell","_law_many"] k (zJ (j7))) (bS:Fn P w K mg base "_law_boxes" ["_law_spec","_law_cell"] k (zJ (zQu))) (bT:Fn P w K mg base "_law_claim_rows" ["_law_spec","_law_boxes_here","_law_cell"] k (zJ (Zk))) (bU:Fn P w K mg base "_law_box_steps" ["_law_spec","_law_box_here","_law_after"] k (zJ (Zr))) (aq:Fn P w K mg base "_law_both" ["_law_numbers"] k (zJ (Xu))) (ar:Fn P w K mg base "_law_rows" ["_law_box_here"] k (zJ (Zd))) (bV:Fn P w K mg base "_law_box_starts" ["_law_box_here"] k (zJ (Zq))):zG P w K mg base zX (k + 1) f fd ["_law_spec","_law_cell"] (zJ (Zs)):=by
 refine zu F vz (λds R h=>by obtain ⟨n,bs,ms,u,c,rfl,_⟩:=h; rfl) λcdv A outer s H E hr=>⟨_,(zK (ze 2 vz.nd rfl (Or.inl rfl) (zP ak hr rfl (zB (zA 1) (zB zD zC))))
  (zK (uS (zP bS hr rfl (zB (zA 0) (zB (zR (zA 2) zD (λ_ _=>rfl)) zC))) (xh rfl (zm 3 vz.nd rfl (Or.inl rfl) (zm 4 vz.nd rfl (Or.inr rfl) xf))))
  (zK (ze 5 vz.nd rfl (Or.inr rfl) (ye (zR (zA 2) zD (λ_ _=>rfl)) (zq yV yX rfl B.len_ yW (zB (zA 4) zC))))
  (jC (ze 6 vz.nd rfl (Or.inr rfl) (zR (yh (zB zD (zB (ye (zR (zA 2) zD (λ_ _=>rfl)) zD) (zB (ye (zR (zA 2) zD (λ_ _=>rfl)) (ud zD zD)) zC)))) (ye (zR (zA 2) zD (λ_ _=>rfl)) zD) (λ_ _=>rfl)))
  (zK (zHJ 7 false vz.nd rfl rfl (own:=["_law_k"]) (caps:=[(4,"_law_boxes_here"),(5,"_law_back"),(6,"_law_turn")]) (yC (S:=zL qE) (N:=["_law_spec","_law_cell","_law_xs","_law_inner","_law_boxes_here","_law_back","_law_turn","_law_asked","_law_rows_here","_law_after","_law_steps","_law_stays","_law_rooms"]) rfl (by decide +kernel) rfl ⟨_,rfl⟩ rfl (by decide +kernel) (by decide +kernel)) rfl rfl yF (xE rfl B.range_ (zB (zq yV yX rfl B.len_ yW (zB (zA 4) zC)) zC)) (λ_ _ _ _=>(zt 0 (show (["_law_k","_law_boxes_here","_law_back","_law_turn"]:List Str).Nodup by decide +kernel) rfl (Or.inl rfl))) (λ_ _ _ _=>(PW.pt (wM (Y0 (zA 0) (zA 2)) (w4 (Y0 (zA 0) (zA 3)))))) (λ_ _ _ _=>(zR (zA 1) (zA 0) (λ_ _=>rfl))) rfl)
  (zK (ze 8 vz.nd rfl (Or.inr rfl) (zP bT hr rfl (zB (zA 0) (zB (zA 7) (zB (zR (zA 2) zD (λ_ _=>rfl)) zC)))))
  (zK (ze 9 vz.nd rfl (Or.inr rfl) (zh (y9 (zA 4) (yt zD) y8) (yh (zB (zR (zA 4) (zA 5) (λ_ _=>rfl)) zC))))
  (zK (uT 10 false vz.nd rfl rfl (own:=["_law_k"]) (caps:=[(0,"_law_spec"),(4,"_law_boxes_here"),(9,"_law_after")]) (yC (S:=zL qE) (N:=["_law_spec","_law_cell","_law_xs","_law_inner","_law_boxes_here","_law_back","_law_turn","_law_asked","_law_rows_here","_law_after","_law_steps","_law_stays","_law_rooms"]) rfl (by decide +kernel) rfl ⟨_,rfl⟩ rfl (by decide +kernel) (by decide +kernel)) rfl rfl yF (xE rfl B.range_ (zB (zq yV yX rfl B.len_ yW (zB (zA 4) zC)) zC)) (λ_ _ _ _=>(zt 0 (show (["_law_k","_law_spec","_law_boxes_here","_law_after"]:List Str).Nodup by decide +kernel) rfl (Or.inl rfl))) (λ_ _ _ _=>(zP bU hr rfl (zB (zA 1) (zB (zR (zA 2) (zA 0) (λ_ _=>rfl)) (zB (zR (zA 3) (zA 0) (λ_ _=>rfl)) zC))))) rfl)
  (zK (uT 11 false vz.nd rfl rfl (own:=["_law_box_here"]) (caps:=[(8,"_law_rows_here")]) (yC (S:=zL qE) (N:=["_law_spec","_law_cell","_law_xs","_law_inner","_law_boxes_here","_law_back","_law_turn","_law_asked","_law_rows_here","_law_after","_law_steps","_law_stays","_law_rooms"]) rfl (by decide +kernel) rfl ⟨_,rfl⟩ rfl (by decide +kernel) (by decide +kernel)) rfl rfl yF (yS (zA 4)) (λ_ _ _ _=>(zt 0 (show (["_law_box_here","_law_rows_here"]:List Str).Nodup by decide +kernel) rfl (Or.inl rfl))) (λ_ _ _ _=>(yQ (own:=["_law_row"]) (caps:=[]) (Yn rfl (by decide +kernel) (by decide +kernel) (by decide +kernel) (by decide +kernel)) rfl rfl yF (yS (zA 1)) (λ_ _ _ _=>(zt 0 (show (["_law_row"]:List Str).Nodup by decide +kernel) rfl (Or.inl rfl))) (λ_ _ _ _=>(xU (zB zD (zB (zP aq hr rfl (zB (y9 (zA 0) y8 (yt (xQ zD))) zC)) zC)))))) rfl)
  (zK (uT 12 false vz.nd rfl rfl (own:=["_law_box_here"]) (caps:=[]) (yC (S:=zL qE) (N:=["_law_spec","_law_cell","_law_xs","_law_inner","_law_boxes_here","_law_back","_law_turn","_law_asked","_law_rows_here","_law_after","_law_steps","_law_stays","_law_rooms"]) rfl (by decide +kernel) rfl ⟨_,rfl⟩ rfl (by decide +kernel) (by decide +kernel)) rfl rfl yF (yS (zA 4)) (λ_ _ _ _=>(zt 0 (show (["_law_box_here"]:List Str).Nodup by decide +kernel) rfl (Or.inl rfl))) (λ_ _ _ _=>(zP ar hr rfl (zB (zA 0) zC))) rfl)
  (zM (zV (xU (zB (zA 3) (zB (zA 8) (zB (zA 6) (zB (yh (zB (zA 12) (zB (zA 5) (zB (zP bV hr rfl (zB (zR (zA 4) zD (λ_ _=>rfl)) zC)) (zB (zA 10) (zB (zA 11) zC)))))) zC))))))))))))))))),λds R h=>?_⟩
 obtain ⟨n,bs,ms,u,c,rfl,T,q⟩:=h
 have n3:=T.n3
 refine ⟨c,6,rfl,by decide,λxs lx hx=>?_⟩
 refine xM (by decide) (by omega) λx0 _=>⟨n,bs,ms,u,x0,rfl,T,λinner bxs I1 BB=>?_⟩
 have l1:=BB.l1
 have l4:=BB.l4
 have lbm:(List.map zZ bxs).length=bxs.length:=List.length_map ..
 refine xM (by decide) (by omega) λx1 _=>⟨by omega,?_⟩
 have mb:=md x1 (show (0:Int) < ((List.map zZ bxs).length:Int) by omega)
 refine ⟨λΓ=>∃ back t:Int,Γ=[.sh (xw n bs ms u),.sh (.int c),.sh (L xs),.sh (zZ inner),.sh (.lst (bxs.map zZ)),.sh (.int back),.sh (.int t),.no,.no,.no,.no,.no,.no]/\0<=back/\back < (bxs.length:Int)/\0<=t/\Bd 100 t,?_,?_⟩
 ·refine xM (by decide) (by omega) λx2 h2=>⟨by decide,xM (by decide) (by omega) λx3 h3=>⟨⟨by decide,by decide,by decide⟩,by decide,k0,xM (by decide) (by omega) λx4 _=>⟨by decide,wq (md _ (by decide)).1 (by have:=md x4 (show (0:Int) < 3 by decide); show x4.fmod 3 < 3; omega) λz hz=>?_⟩⟩⟩
  obtain ⟨t,rfl,t0,bt⟩:∃ t,z=.int t/\0<=t/\Bd 100 t:=by
   simp only [List.mem_cons,List.not_mem_nil,or_false] at hz
   rcases hz with rfl | rfl | rfl
   ·exact ⟨_,rfl,by decide,xu⟩
   ·exact ⟨_,rfl,(md x2 (by decide)).1,(vX (n:=3) Bd.lit (by decide)).mono⟩
   ·exact ⟨_,rfl,(md x3 (by decide)).1,(vX (n:=100) Bd.lit (by decide)).mono⟩
  exact ⟨x1.fmod ((List.map zZ bxs).length:Int),t,rfl,mb.1,by omega,t0,bt⟩
 rintro Γ' ⟨back,t,rfl,b0,bl,t0,bt⟩
 clear mb
 obtain ⟨bk,rfl⟩:=Int.eq_ofNat_of_zero_le b0
 have bkl:bk < bxs.length:=by omega
 refine ⟨by omega,by omega,?_⟩
 rw [show ((List.length (List.map zZ bxs):Nat):Int).toNat=bxs.length by omega]
 refine jE.mk (by rw [vJ]; omega) (λd=>decide ((bk:Int)<=zx d) || decide (t<=zx d)) (λ_ e=>∃ b∈bxs,e=zZ b) (λd hd=>?_) (λd hd _=>?_) λes pe=>?_
 ·obtain ⟨j,hj⟩:=List.mem_iff_getElem?.mp hd
  obtain ⟨jl,rfl⟩:=vI hj
  refine w2 (λc=>?_) λc=>?_
  ·show true=(_ || _)
   rw [show decide ((bk:Int)<=zx (.int (j:Int)))=true from c]
   rfl
  ·show _=(_ || _)
   rw [show decide ((bk:Int)<=zx (.int (j:Int)))=false from c]
   rfl
 ·obtain ⟨j,hj⟩:=List.mem_iff_getElem?.mp hd
  obtain ⟨jl,rfl⟩:=vI hj
  exact ⟨_,uK [] jl,_,qz jl,rfl⟩
 obtain ⟨as,rfl,has⟩:∃ as:List (List (Int × Int)),es=as.map zZ/\∀ b∈as,b∈bxs:=by
  have key:∀ {ds es:List D},Paired (λ_ e=>∃ b∈bxs,e=zZ b) ds es->∃ as:List (List (Int × Int)),es=as.map zZ/\∀ b∈as,b∈bxs:=λ{ds es} p=>by
   induction p with
   | nil=>exact ⟨[],rfl,λ_ h=>nomatch h⟩
   | cons h _ ih=>
    obtain ⟨b,hb,rfl⟩:=h
    obtain ⟨as,rfl,ha⟩:=ih
    exact ⟨b :: as,rfl,λy hy=>(List.mem_cons.mp hy).elim (λz=>z ▸ hb) (ha y)⟩
  exact key pe
 have la:=Paired.length pe
 rw [List.length_map] at la
 have la1:1<=as.length:=by
  rw [<- la]
  refine List.length_pos_of_mem (a:=.int ((bxs.length - 1:Nat):Int)) (List.mem_filter.mpr ⟨?_,?_⟩)
  ·exact List.mem_map.mpr ⟨bxs.length - 1,List.mem_range.mpr (by omega),rfl⟩
  ·show (decide ((bk:Int)<=((bxs.length - 1:Nat):Int)) || _)=true
   rw [decide_eq_true (by omega)]
   rfl
 have la4:as.length<=4:=by
  have:=List.length_filter_le (λd=>decide ((bk:Int)<=zx d) || decide (t<=zx d)) (rng0 bxs.length)
  rw [vJ] at this
  omega
 refine xM (by decide) (by omega) λx5 _=>⟨n,bs,ms,u,as,x5,rfl,T,⟨la1,la4,λb hb=>BB.bx b (has b hb)⟩,λg G1=>?_⟩
 have laf:(bxs.drop 1++[bxs.getD bk []]).length=bxs.length:=by rw [List.length_append,List.length_drop]; show _ + 1=_; omega
 have haf:∀ b∈bxs.drop 1++[bxs.getD bk []],Bx n 280 b:=λb hb=>by
  rcases List.mem_append.mp hb with hb | hb
  ·exact BB.bx b (List.mem_of_mem_drop hb)
  ·rw [List.mem_singleton.mp hb]; exact BB.bx _ (qz bkl)
 have ef:D.lst (zU (bxs.map zZ) (some 1) none++[zZ (bxs.getD bk [])])=.lst ((bxs.drop 1++[bxs.getD bk []]).map zZ):=by
  rw [j6 (by decide),List.map_append,List.map_drop]
  rfl
 refine ⟨_,uK [] bkl,k0,by rw [j6 (by decide),List.length_drop,lbm]; show _ + 1<=1000; omega,?_⟩
 rw [ef]
 refine ⟨by omega,by omega,?_⟩
 rw [show ((List.length (List.map zZ bxs):Nat):Int).toNat=bxs.length by omega]
 refine zj.rng0P (λd=>∃ s,d=zl s/\wI s) (by omega) (λk hk=>⟨_,uK [] hk,_,uK [] (by omega),n,bs,ms,u,_,_,rfl,T,BB.bx _ (qz hk),haf _ (qz (by omega)),λv hv=>⟨v,rfl,hv⟩⟩) λes le he=>?_
 obtain ⟨S4,rfl,h4⟩:=zNn he
 rw [List.length_map] at le
 have l3:=G1.l3
 refine zj.all (λd=>∃ s,d=yi s/\uU s) (by omega) (λd hd=>?_) λes le3 he3=>?_
 ·refine zj.all (λd=>∃ s,d=zn s/\ul s) (by rw [List.length_map]; omega) (λd hd=>?_) λes le he=>?_
  ·obtain ⟨r,hr,rfl⟩:=List.mem_map.mp hd
   obtain ⟨lr,br,_⟩:=G1.row r hr
   exact ⟨_,r.take n,rfl,.inr (by rw [vW lr]),by rw [List.length_take]; omega,λx hx=>(br x hx).mono,λys ly hy=>⟨k0,(1,ys),rfl,⟨(Bd.lit (i:=1) (n:=1)).mono,by rw [ly,List.length_take]; omega,λx hx=>(hy x hx).2.mono⟩⟩⟩
  ·obtain ⟨ss,rfl,hss⟩:=Jd he
   rw [List.length_map,List.length_map] at le
   exact ⟨ss,rfl,by omega,hss⟩
 obtain ⟨S3,rfl,h3⟩:=zPY he3
 rw [List.length_map,lbm] at le3
 refine wn zZ Jb zG8 (λb=>Rm (uH b)) (by omega) (λb hb=>⟨b,rfl,by rw [(BB.bx b hb).len]; omega,rfl⟩) ?_
 refine ⟨_,uK (k:=0) [] (by omega),_,n,rfl,n3,BB.bx _ (qz (by omega)),λS1 h1=>⟨k0,k0,?_⟩⟩
 have:=q inner g t (bxs.map uH) (bk:Int) S1 S4 S3 I1 G1 t0 bt ⟨λr hr=>?_,by rw [List.length_map]; omega⟩ b0 (by rw [List.length_map]; exact bl) h1 ⟨by omega,h4⟩ ⟨by omega,h3⟩
 ·unfold wJ uG at this
  rw [List.map_map] at this
  exact this
 ·obtain ⟨b,hb,rfl⟩:=List.mem_map.mp hr
  exact zLv (BB.bx b hb) n3
end
theorem X4 {α:Type} {xs:List α} {lo hi:Option Int} {x:α} (h:x∈zU xs lo hi):x∈xs:=List.mem_of_mem_drop (List.mem_of_mem_take h)
theorem Zu {α:Type} {xs:List α} {lo hi:Option Int}:(zU xs lo hi).length<=xs.length:=by
 unfold zU
 rw [List.length_take,List.length_drop]
 omega
def Sy (y:D):Prop:=(∃ i,y=.int i/\Bd 1000 i)\/y=.bool true
theorem qF {o:Int} {ys:List D} (bo:Bd 1000 o) (l:ys.length<=900) (h:∀ y∈ys,Sy y):Fw 3 (.tup [.int o,.lst ys])/\jw (.tup [.int o,.lst ys]):=by
 refine ⟨.tup (by show 2<=900; decide) λd hd=>?_,λo' ys' e=>?_⟩
 ·rcases List.mem_cons.mp hd with rfl | hd
  ·exact .int _
  ·rw [List.mem_singleton.mp hd]
   refine .lst l λy hy=>?_
   rcases h y hy with ⟨i,rfl,_⟩ | rfl
   ·exact .int i
   ·exact .bool _
 ·cases e
  refine ⟨bo,λy hy=>?_⟩
  rcases h y hy with ⟨i,rfl,b⟩ | rfl
  ·exact b
  ·exact xu
theorem zNo {s:Int × List Int} (h:ul s):Fw 3 (zn s)/\jw (zn s):=qF (h.o.mono) (by rw [List.length_map]; have:=h.l; omega) λy hy=>by
 obtain ⟨i,hi,rfl⟩:=List.mem_map.mp hy
 exact .inl ⟨i,rfl,(h.b i hi).mono⟩
theorem X5 {k:Nat} {as:List D} (l:as.length<=900) (h:∀ a∈as,Fw 3 a/\jw a):Fw (k + 4) (.lst as)/\xG (.lst as):=⟨.lst l λa ha=>(h a ha).1.mono (by omega),λas' e=>by cases e; exact λa ha=>(h a ha).2⟩
theorem X6 {k:Nat} {ss:List (Int × List Int)} (h:uU ss):Fw (k + 4) (yi ss)/\xG (yi ss):=X5 (by rw [List.length_map]; have:=h.1; omega) λa ha=>by
 obtain ⟨s,hs,rfl⟩:=List.mem_map.mp ha
 exact zNo (h.2 s hs)
theorem Jh {as:List D} (l:as.length<=900) (h:∀ a∈as,Fw 4 a/\xG a):Fw 5 (.lst as)/\xH (.lst as):=⟨.lst l λa ha=>(h a ha).1,λas' e=>by cases e; exact λa ha=>(h a ha).2⟩
theorem X7 {t:List (List (Int × List Int))} (h:wI t):Fw 5 (zl t)/\xH (zl t):=Jh (by rw [List.length_map]; have:=h.1; omega) λa ha=>by
 obtain ⟨s,hs,rfl⟩:=List.mem_map.mp ha
 exact X6 (k:=0) (h.2 s hs)
def zLd:FL:=λds R=>∃ o ns c,ds=[.tup [.int o,L ns],.int c]/\ul (o,ns)/\∀ d,Fw 3 d->jw d->R d
theorem zPw (n:Nat) (s:Int × List Int):(zn s).pl (n + 4)=true:=by
 show ([D.int s.1,L s.2].all (D.pl (n + 3)))=true
 rw [List.all_cons,List.all_cons,List.all_nil,Bool.and_true]
 exact Bool.and_eq_true_iff.mpr ⟨rfl,qh (n + 1) s.2⟩
theorem zPv (n:Nat) (ss:List (Int × List Int)):(yi ss).pl (n + 5)=true:=List.all_eq_true.mpr λd m=>by
 obtain ⟨s,_,rfl⟩:=List.mem_map.mp m
 exact zPw n s
theorem zNw (n:Nat) (t:List (List (Int × List Int))):(zl t).pl (n + 6)=true:=List.all_eq_true.mpr λd m=>by
 obtain ⟨s,_,rfl⟩:=List.mem_map.mp m
 exact zPv n s
theorem qG {e:Nat} {i:Int} (h:Bd 210 i) (k:211<=e):Bd e (i + 1)/\Bd e (i - 1):=⟨(h.add ((Bd.lit (i:=1) (n:=1)).mono)).mono k,(h.sub ((Bd.lit (i:=1) (n:=1)).mono)).mono k⟩
theorem Ji {as:List D} (l:as.length<=900) (h:∀ a∈as,Fw 5 a/\xH a):Fw 6 (.lst as)/\jH (.lst as):=⟨.lst l λa ha=>(h a ha).1,λas' e=>by cases e; exact λa ha=>(h a ha).2⟩
theorem zOC {v:List (List (List (Int × List Int)))} (h:X2 v):Fw 6 (uJ v)/\jH (uJ v):=Ji (by rw [List.length_map]; have:=h.1; omega) λa ha=>by
 obtain ⟨s,hs,rfl⟩:=List.mem_map.mp ha
 exact X7 (h.2 s hs)
theorem Zv (n:Nat) (v:List (List (List (Int × List Int)))):(uJ v).pl (n + 7)=true:=List.all_eq_true.mpr λd m=>by
 obtain ⟨s,_,rfl⟩:=List.mem_map.mp m
 exact zNw n s
def uo:Nat->FL
 | 0=>λ_ _=>False
 | j + 1=>λds R=>∃ d c,ds=[d,.int c]/\((∃ ss,d=yi ss/\uU ss/\∀ d,Fw 4 d->xG d->R d)\/(1<=j/\∃ t,d=zl t/\wI t/\∀ d,Fw 5 d->xH d->R d)\/(2<=j/\∃ v,d=uJ v/\X2 v/\∀ d,Fw 6 d->jH d->R d))
section
variable {P:Program} {w:World} {K:PySem.W.Frag} {mg:Str->Option Value} {base:Heap}
abbrev Jj:Stmt:=zk 97
theorem gA:zb ["_law_shares","_law_cell","_law_often","_law_numbers","_law_way","_law_at","_law_other_here"] ["_law_shares","_law_cell"] (zL Jj):=.a
abbrev Jk:Stmt:=zk 98
theorem Jl:zb ["_law_some","_law_cell","_law_at"] ["_law_some","_law_cell"] (zL Jk):=.a
variable {aClaim aSettles aComes ag ah aPaper aRooms aFalls:Addr} (TClaim:zE K mg "Claim" aClaim) (AClaim:wc K aClaim) (TSettles:zE K mg "Settles" aSettles) (ASettles:wd K aSettles) (TComes:zE K mg "Comes" aComes) (AComes:we K aComes) (aa:zE K mg "Mode" ag) (ab:wf K ag) (ac:zE K mg "Thing" ah) (ae:wg K ah) (TPaper:zE K mg "Paper" aPaper) (APaper:wj K aPaper) (TRooms:zE K mg "Rooms" aRooms) (ARooms:wl K aRooms) (TFalls:zE K mg "Falls" aFalls) (AFalls:wm K aFalls)
include TClaim AClaim TSettles ASettles TComes AComes aa ab ac ae TPaper APaper TRooms ARooms TFalls AFalls
theorem zJe {k:Nat} {f:Addr} {fd:FuncData} (F:zc K "_law_other" "_law_other" Jj f fd) (B:Bl mg):zG P w K mg base zX (k + 1) f fd ["_law_shares","_law_cell"] (zJ (zLd)):=by
 refine zu F gA (λds R h=>by obtain ⟨o,ns,c,rfl,_⟩:=h; rfl) λcdv A outer s H E hr=>⟨_,(zK (uS (zA 0) (xh rfl (zm 2 gA.nd rfl (Or.inl rfl) (zm 3 gA.nd rfl (Or.inl rfl) xf))))
  (zK (ze 4 gA.nd rfl (Or.inl rfl) (ye (zA 1) zD))
  (zK (yI (PW.pt (wM (wz hr.units (zA 4) zD) (w4 (wz hr.units (zA 3) (yh zC))))) (zM (zV (xU (zB (zh (zA 2) (zR (yh (zB zD (zB (xQ zD) zC))) (ye (xq (zA 1) zD) zD) (λ_ _=>rfl))) (zB (zA 3) zC))))) yH)
  (zK (ze 5 gA.nd rfl (Or.inl rfl) (ye (xq (zA 1) zD) (zq yV yX rfl B.len_ yW (zB (zA 3) zC))))
  (zK (ze 6 gA.nd rfl (Or.inl rfl) (zR (yh (zB (zh (zR (zA 3) (zA 5) (λ_ _=>rfl)) zD) (zB (xc (zR (zA 3) (zA 5) (λ_ _=>rfl)) zD) (zB xb (zB (zh (zR (zA 3) (zA 5) (λ_ _=>rfl)) zD) zC))))) (xc (zA 4) zD) (λ_ _=>rfl)))
  (zM (zV (xU (zB (zA 2) (zB (zh (zh (y9 (zA 3) y8 (yt (zA 5))) (yh (zB (zA 6) zC))) (y9 (zA 3) (yt (zh (zA 5) zD)) y8)) zC)))))))))),λds R h=>?_⟩
 obtain ⟨o,ns,c,rfl,h,q⟩:=h
 have hl:ns.length<=100:=h.l
 refine ⟨by decide,w2 (λc1=>wT rfl ?_) λc1=>⟨k0,jy _,rfl,w2 (λc2=>?_) λc2=>?_⟩⟩
 ·exact ⟨k0,by decide,(Bd.lit (i:=5) (n:=3)).mono,by decide,wq (md _ (by decide)).1 (by have:=md (c.fdiv 5) (show (0:Int) < 2 by decide); show (c.fdiv 5).fmod 2 < 2; omega) λz hz=>by
   obtain ⟨w,rfl,bw⟩:vK (Bd 2) z:=by
    simp only [List.mem_cons,List.not_mem_nil,or_false] at hz
    rcases hz with rfl | rfl <;> exact ⟨_,rfl,Bd.lit⟩
   have:=qF (o:=o + w) (ys:=ns.map D.int) ((h.o.add bw.mono).mono) (by rw [List.length_map]; have:=h.l; omega) (λy hy=>by
    obtain ⟨i,hi,rfl⟩:=List.mem_map.mp hy
    exact .inl ⟨i,rfl,(h.b i hi).mono⟩)
   exact ⟨k0,q _ this.1 this.2⟩⟩
 ·exact ⟨k0,by decide,(Bd.lit (i:=5) (n:=3)).mono,by decide,wq (md _ (by decide)).1 (by have:=md (c.fdiv 5) (show (0:Int) < 2 by decide); show (c.fdiv 5).fmod 2 < 2; omega) λz hz=>by
   obtain ⟨w,rfl,bw⟩:vK (Bd 2) z:=by
    simp only [List.mem_cons,List.not_mem_nil,or_false] at hz
    rcases hz with rfl | rfl <;> exact ⟨_,rfl,Bd.lit⟩
   have:=qF (o:=o + w) (ys:=ns.map D.int) ((h.o.add bw.mono).mono) (by rw [List.length_map]; have:=h.l; omega) (λy hy=>by
    obtain ⟨i,hi,rfl⟩:=List.mem_map.mp hy
    exact .inl ⟨i,rfl,(h.b i hi).mono⟩)
   exact ⟨k0,q _ this.1 this.2⟩⟩
 rw [qi] at c2
 have hn:1<=ns.length:=by
  cases ns with
  | nil=>cases c2
  | cons=>exact Nat.succ_le_succ (Nat.zero_le _)
 have lm:(List.map D.int ns).length=ns.length:=List.length_map ..
 have m5:=md c (show (0:Int) < 5 by decide)
 have c1':=of_decide_eq_false c1
 refine ⟨by decide,(Bd.lit (i:=10) (n:=4)).mono,by omega,?_⟩
 have mat:=md (c.fdiv 10) (show (0:Int) < ((List.map D.int ns).length:Int) by omega)
 refine xM mat.1 (by omega) λx1 h1=>xM mat.1 (by omega) λx2 h2=>xM mat.1 (by omega) λx3 h3=>⟨k0,wq (by omega) (by show c.fmod 5 - 1 < 4; omega) λz hz=>?_⟩
 have hz':Sy z:=by
  simp only [List.mem_cons,List.not_mem_nil,or_false] at hz
  rcases hz with rfl | rfl | rfl | rfl
  ·exact .inl ⟨_,rfl,(qG (h.b x1 h1) (by decide)).1⟩
  ·exact .inl ⟨_,rfl,(qG (h.b x2 h2) (by decide)).2⟩
  ·exact .inr rfl
  ·exact .inl ⟨_,rfl,(qG (h.b x3 h3) (by decide)).1⟩
 have l1:=Zu (xs:=ns.map D.int) (lo:=none) (hi:=some ((c.fdiv 10).fmod ((List.map D.int ns).length:Int)))
 have l2:=Zu (xs:=ns.map D.int) (lo:=some ((c.fdiv 10).fmod ((List.map D.int ns).length:Int) + 1)) (hi:=none)
 refine ⟨k0,by show _ + 1<=1000; omega,by rw [List.length_append]; show _ + 1 + _<=1000; omega,k0,?_⟩
 have K:=qF (o:=o) (ys:=zU (ns.map D.int) none (some ((c.fdiv 10).fmod ((List.map D.int ns).length:Int)))++[z]++zU (ns.map D.int) (some ((c.fdiv 10).fmod ((List.map D.int ns).length:Int) + 1)) none) (h.o.mono) (by rw [List.length_append,List.length_append]; show _ + 1 + _<=900; omega) (λy hy=>by
  have cm:∀ {lo hi:Option Int},y∈zU (ns.map D.int) lo hi->Sy y:=λhy=>by
   obtain ⟨i,hi,rfl⟩:=List.mem_map.mp (X4 hy)
   exact .inl ⟨i,rfl,(h.b i hi).mono⟩
  rcases List.mem_append.mp hy with hy | hy
  ·rcases List.mem_append.mp hy with hy | hy
   ·exact cm hy
   ·rw [List.mem_singleton.mp hy]; exact hz'
  ·exact cm hy)
 exact q _ K.1 K.2
theorem Jm {k:Nat} {f:Addr} {fd:FuncData} {j:Nat} (F:zc K "_law_changed" "_law_changed" Jk f fd) (B:Bl mg) (bW:Fn P w K mg base "_law_other" ["_law_shares","_law_cell"] k (zJ (zLd))) (ax:Fn P w K mg base "_law_changed" ["_law_some","_law_cell"] k (zJ (uo j))):zG P w K mg base zX (k + 1) f fd ["_law_some","_law_cell"] (zJ (uo (j + 1))):=by
 refine zu F Jl (λds R h=>by obtain ⟨d,c,rfl,_⟩:=h; rfl) λcdv A outer s H E hr=>⟨_,(zK (yI (wz hr.units (zA 0) (yh zC)) (zM (zV (yh (zB (xU (zB zD (zB (yh zC) zC))) zC)))) yH)
  (zK (ze 2 Jl.nd rfl (Or.inl rfl) (ye (zA 1) (zq yV yX rfl B.len_ yW (zB (zA 0) zC))))
  (zK (ze 1 Jl.nd rfl (Or.inl rfl) (xq (zA 1) (zq yV yX rfl B.len_ yW (zB (zA 0) zC))))
  (zK (yI (yb (yG (xS wx rfl B.isinstance_ xm (zo (zR (zA 0) (zA 2) (λ_ _=>rfl)) (zo (wu (v:=.ty "tuple") (u:=.type "tuple") rfl B.tuple_ vP rfl) yJ))) (w6 k8))) (zK (yI (wz hr.units (ye (zA 1) zD) zD) (zM (zV (zh (y9 (zA 0) y8 (yt (zA 2))) (y9 (zA 0) (yt (zh (zA 2) zD)) y8)))) yH)
   (zM (zV (zh (zh (y9 (zA 0) y8 (yt (zA 2))) (yh (zB (zP bW hr rfl (zB (zR (zA 0) (zA 2) (λ_ _=>rfl)) (zB (xq (zA 1) zD) zC))) zC))) (y9 (zA 0) (yt (zh (zA 2) zD)) y8))))) yH)
  (zK (yI (wz hr.units (ye (zA 1) zD) zD) (zM (zV (zh (zh (y9 (zA 0) y8 (yt (zA 2))) (yh (zB kI zC))) (y9 (zA 0) (yt (zh (zA 2) zD)) y8)))) yH)
  (zK (yI (wz hr.units (ye (zA 1) zD) zD) (zM (zV (zh (y9 (zA 0) y8 (yt (zA 2))) (y9 (zA 0) (yt (zh (zA 2) zD)) y8)))) yH)
  (zM (zV (zh (zh (y9 (zA 0) y8 (yt (zA 2))) (yh (zB (zP ax hr rfl (zB (zR (zA 0) (zA 2) (λ_ _=>rfl)) (zB (xq (zA 1) zD) zC))) zC))) (y9 (zA 0) (yt (zh (zA 2) zD)) y8)))))))))),λds R h=>?_⟩
 obtain ⟨d,c,rfl,h⟩:=h
 rcases h with ⟨ss,rfl,hs,q⟩ | ⟨j1,t,rfl,ht,q⟩ | ⟨j1,t,rfl,ht,q⟩
 ·have ls:=hs.1
  have lm:(List.map zn ss).length=ss.length:=List.length_map ..
  refine ⟨k0,zPv 45 ss,rfl,w2 (λc1=>⟨k0,k0,k0,?_⟩) λc1=>?_⟩
  ·have K:=X5 (k:=0) (as:=[.tup [.int 1,.lst []]]) (by show 1<=900; decide) (λa ha=>by rw [List.mem_singleton.mp ha]; exact qF ((Bd.lit (i:=1) (n:=1)).mono) (by decide) (λ_ h=>nomatch h))
   exact q _ K.1 K.2
  rw [qi] at c1
  have hn:1<=ss.length:=by
   cases ss with
   | nil=>cases c1
   | cons=>exact Nat.succ_le_succ (Nat.zero_le _)
  have mat:=md c (show (0:Int) < ((List.map zn ss).length:Int) by omega)
  have keep:∀ {lo hi:Option Int} {a:D},a∈zU (ss.map zn) lo hi->Fw 3 a/\jw a:=λha=>by
   obtain ⟨s,hs',rfl⟩:=List.mem_map.mp (X4 ha)
   exact zNo (hs.2 s hs')
  have cl:∀ {lo hi:Option Int},(zU (ss.map zn) lo hi).length<=40:=λ{lo hi}=>by have:=Zu (xs:=ss.map zn) (lo:=lo) (hi:=hi); omega
  refine ⟨by omega,by omega,Bd.mono (n:=10) (vA (f:=1000) (by decide) (by omega) (by omega)) (by decide),wq mat.1 (by omega) λx hx=>?_⟩
  obtain ⟨s,hs',rfl⟩:=List.mem_map.mp hx
  refine ⟨rfl,wT rfl ⟨by decide,w2 (λc2=>?_) λc2=>?_⟩⟩
  ·refine ⟨?_,?_⟩
   ·have:=cl (lo:=none) (hi:=some (c.fmod ((List.map zn ss).length:Int)))
    have:=cl (lo:=some (c.fmod ((List.map zn ss).length:Int) + 1)) (hi:=none)
    omega
   ·have K:=X5 (k:=0) (as:=zU (ss.map zn) none (some (c.fmod ((List.map zn ss).length:Int)))++zU (ss.map zn) (some (c.fmod ((List.map zn ss).length:Int) + 1)) none) (by
     have:=cl (lo:=none) (hi:=some (c.fmod ((List.map zn ss).length:Int)))
     have:=cl (lo:=some (c.fmod ((List.map zn ss).length:Int) + 1)) (hi:=none)
     rw [List.length_append]
     omega) (λa ha=>(List.mem_append.mp ha).elim keep keep)
    exact q _ K.1 K.2
  ·refine wq mat.1 (by omega) λy hy=>?_
   obtain ⟨s2,hs2,rfl⟩:=List.mem_map.mp hy
   refine ⟨by decide,(Bd.lit (i:=3) (n:=2)).mono,s2.1,s2.2,_,rfl,hs.2 s2 hs2,λz fz bz=>⟨k0,?_,?_,?_⟩⟩
   ·have:=cl (lo:=none) (hi:=some (c.fmod ((List.map zn ss).length:Int)))
    show _ + 1<=1000
    omega
   ·have:=cl (lo:=none) (hi:=some (c.fmod ((List.map zn ss).length:Int)))
    have:=cl (lo:=some (c.fmod ((List.map zn ss).length:Int) + 1)) (hi:=none)
    rw [List.length_append]
    show _ + 1 + _<=1000
    omega
   ·have K:=X5 (k:=0) (as:=zU (ss.map zn) none (some (c.fmod ((List.map zn ss).length:Int)))++[z]++zU (ss.map zn) (some (c.fmod ((List.map zn ss).length:Int) + 1)) none) (by
     have:=cl (lo:=none) (hi:=some (c.fmod ((List.map zn ss).length:Int)))
     have:=cl (lo:=some (c.fmod ((List.map zn ss).length:Int) + 1)) (hi:=none)
     rw [List.length_append,List.length_append]
     show _ + 1 + _<=900
     omega) (λa ha=>by
     rcases List.mem_append.mp ha with ha | ha
     ·rcases List.mem_append.mp ha with ha | ha
      ·exact keep ha
      ·rw [List.mem_singleton.mp ha]; exact ⟨fz,bz⟩
     ·exact keep ha)
    exact q _ K.1 K.2
 ·have ls:=ht.1
  have lm:(List.map yi t).length=t.length:=List.length_map ..
  refine ⟨k0,zNw 44 t,rfl,w2 (λc1=>⟨k0,k0,k0,?_⟩) λc1=>?_⟩
  ·refine q _ (.lst (by show 1<=900; decide) λa ha=>?_) λas e=>?_
   ·rw [List.mem_singleton.mp ha]
    exact (qF (o:=1) (ys:=[]) ((Bd.lit (i:=1) (n:=1)).mono) (by decide) (λ_ h=>nomatch h)).1.mono
   ·cases e
    exact λa ha as e=>by rw [List.mem_singleton.mp ha] at e; cases e
  rw [qi] at c1
  have hn:1<=t.length:=by
   cases t with
   | nil=>cases c1
   | cons=>exact Nat.succ_le_succ (Nat.zero_le _)
  have mat:=md c (show (0:Int) < ((List.map yi t).length:Int) by omega)
  have keep:∀ {lo hi:Option Int} {a:D},a∈zU (t.map yi) lo hi->Fw 4 a/\xG a:=λha=>by
   obtain ⟨s,hs',rfl⟩:=List.mem_map.mp (X4 ha)
   exact X6 (k:=0) (ht.2 s hs')
  have cl:∀ {lo hi:Option Int},(zU (t.map yi) lo hi).length<=40:=λ{lo hi}=>by have:=Zu (xs:=t.map yi) (lo:=lo) (hi:=hi); omega
  have c1l:=cl (lo:=none) (hi:=some (c.fmod ((List.map yi t).length:Int)))
  have c2l:=cl (lo:=some (c.fmod ((List.map yi t).length:Int) + 1)) (hi:=none)
  have put:∀ z:D,Fw 4 z->xG z->R (.lst (zU (t.map yi) none (some (c.fmod ((List.map yi t).length:Int)))++[z]++zU (t.map yi) (some (c.fmod ((List.map yi t).length:Int) + 1)) none)):=λz fz az=>by
   have K:=Jh (as:=zU (t.map yi) none (some (c.fmod ((List.map yi t).length:Int)))++[z]++zU (t.map yi) (some (c.fmod ((List.map yi t).length:Int) + 1)) none) (by
    rw [List.length_append,List.length_append]
    show _ + 1 + _<=900
    omega) (λa ha=>by
    rcases List.mem_append.mp ha with ha | ha
    ·rcases List.mem_append.mp ha with ha | ha
     ·exact keep ha
     ·rw [List.mem_singleton.mp ha]; exact ⟨fz,az⟩
    ·exact keep ha)
   exact q _ K.1 K.2
  refine ⟨by omega,by omega,Bd.mono (n:=10) (vA (f:=1000) (by decide) (by omega) (by omega)) (by decide),wq mat.1 (by omega) λx hx=>?_⟩
  obtain ⟨s,hs',rfl⟩:=List.mem_map.mp hx
  refine ⟨rfl,wF rfl ⟨by decide,w2 (λc2=>⟨k0,by show _ + 1<=1000; omega,by rw [List.length_append]; show _ + 1 + _<=1000; omega,put .non .non (λ_ e=>by cases e)⟩) λc2=>⟨by decide,w2 (λc3=>⟨by omega,?_⟩) λc3=>?_⟩⟩⟩
  ·have K:=Jh (as:=zU (t.map yi) none (some (c.fmod ((List.map yi t).length:Int)))++zU (t.map yi) (some (c.fmod ((List.map yi t).length:Int) + 1)) none) (by rw [List.length_append]; omega) (λa ha=>(List.mem_append.mp ha).elim keep keep)
   exact q _ K.1 K.2
  ·refine wq mat.1 (by omega) λy hy=>?_
   obtain ⟨s2,hs2,rfl⟩:=List.mem_map.mp hy
   obtain ⟨j',rfl⟩:∃ j',j=j' + 1:=⟨j - 1,by omega⟩
   exact ⟨by decide,(Bd.lit (i:=7) (n:=3)).mono,_,_,rfl,.inl ⟨s2,rfl,ht.2 s2 hs2,λz fz az=>⟨k0,by show _ + 1<=1000; omega,by rw [List.length_append]; show _ + 1 + _<=1000; omega,put z fz az⟩⟩⟩
 ·have ls:=ht.1
  have lm:(List.map zl t).length=t.length:=List.length_map ..
  refine ⟨k0,Zv 43 t,rfl,w2 (λc1=>⟨k0,k0,k0,?_⟩) λc1=>?_⟩
  ·refine q _ (.lst (by show 1<=900; decide) λa ha=>?_) λas e=>?_
   ·rw [List.mem_singleton.mp ha]
    exact (qF (o:=1) (ys:=[]) ((Bd.lit (i:=1) (n:=1)).mono) (by decide) (λ_ h=>nomatch h)).1.mono
   ·cases e
    exact λa ha as e=>by rw [List.mem_singleton.mp ha] at e; cases e
  rw [qi] at c1
  have hn:1<=t.length:=by
   cases t with
   | nil=>cases c1
   | cons=>exact Nat.succ_le_succ (Nat.zero_le _)
  have mat:=md c (show (0:Int) < ((List.map zl t).length:Int) by omega)
  have keep:∀ {lo hi:Option Int} {a:D},a∈zU (t.map zl) lo hi->Fw 5 a/\xH a:=λha=>by
   obtain ⟨s,hs',rfl⟩:=List.mem_map.mp (X4 ha)
   exact X7 (ht.2 s hs')
  have cl:∀ {lo hi:Option Int},(zU (t.map zl) lo hi).length<=40:=λ{lo hi}=>by have:=Zu (xs:=t.map zl) (lo:=lo) (hi:=hi); omega
  have c1l:=cl (lo:=none) (hi:=some (c.fmod ((List.map zl t).length:Int)))
  have c2l:=cl (lo:=some (c.fmod ((List.map zl t).length:Int) + 1)) (hi:=none)
  have put:∀ z:D,Fw 5 z->xH z->R (.lst (zU (t.map zl) none (some (c.fmod ((List.map zl t).length:Int)))++[z]++zU (t.map zl) (some (c.fmod ((List.map zl t).length:Int) + 1)) none)):=λz fz az=>by
   have K:=Ji (as:=zU (t.map zl) none (some (c.fmod ((List.map zl t).length:Int)))++[z]++zU (t.map zl) (some (c.fmod ((List.map zl t).length:Int) + 1)) none) (by
    rw [List.length_append,List.length_append]
    show _ + 1 + _<=900
    omega) (λa ha=>by
    rcases List.mem_append.mp ha with ha | ha
    ·rcases List.mem_append.mp ha with ha | ha
     ·exact keep ha
     ·rw [List.mem_singleton.mp ha]; exact ⟨fz,az⟩
    ·exact keep ha)
   exact q _ K.1 K.2
  refine ⟨by omega,by omega,Bd.mono (n:=10) (vA (f:=1000) (by decide) (by omega) (by omega)) (by decide),wq mat.1 (by omega) λx hx=>?_⟩
  obtain ⟨s,hs',rfl⟩:=List.mem_map.mp hx
  refine ⟨rfl,wF rfl ⟨by decide,w2 (λc2=>⟨k0,by show _ + 1<=1000; omega,by rw [List.length_append]; show _ + 1 + _<=1000; omega,put .non .non (λ_ e=>by cases e)⟩) λc2=>⟨by decide,w2 (λc3=>⟨by omega,?_⟩) λc3=>?_⟩⟩⟩
  ·have K:=Ji (as:=zU (t.map zl) none (some (c.fmod ((List.map zl t).length:Int)))++zU (t.map zl) (some (c.fmod ((List.map zl t).length:Int) + 1)) none) (by rw [List.length_append]; omega) (λa ha=>(List.mem_append.mp ha).elim keep keep)
   exact q _ K.1 K.2
  ·refine wq mat.1 (by omega) λy hy=>?_
   obtain ⟨s2,hs2,rfl⟩:=List.mem_map.mp hy
   obtain ⟨j',rfl⟩:∃ j',j=j' + 1:=⟨j - 1,by omega⟩
   exact ⟨by decide,(Bd.lit (i:=7) (n:=3)).mono,_,_,rfl,.inr (.inl ⟨by omega,s2,rfl,ht.2 s2 hs2,λz fz az=>⟨k0,by show _ + 1<=1000; omega,by rw [List.length_append]; show _ + 1 + _<=1000; omega,put z fz az⟩⟩)⟩
end
def zQ:Nat->(Nat->Rat)->Rat
 | 0,_=>0
 | n + 1,f=>zQ n f + f n
theorem vN {f g:Nat->Rat}:∀ {n:Nat},(∀ j,j < n->f j=g j)->zQ n f=zQ n g
 | 0,_=>rfl
 | n + 1,h=>by
  show zQ n f + f n=zQ n g + g n
  rw [vN λj hj=>h j (Nat.lt_succ_of_lt hj),h n (Nat.lt_succ_self n)]
theorem X8 (f g:Nat->Rat):∀ n:Nat,zQ n (λj=>f j + g j)=zQ n f + zQ n g
 | 0=>by show (0:Rat)=0 + 0; grind
 | n + 1=>by
  show zQ n (λj=>f j + g j) + (f n + g n)=(zQ n f + f n) + (zQ n g + g n)
  rw [X8 f g n]
  grind
theorem Zw (c:Rat) (f:Nat->Rat):∀ n:Nat,zQ n (λj=>c * f j)=c * zQ n f
 | 0=>by show (0:Rat)=c * 0; grind
 | n + 1=>by
  show zQ n (λj=>c * f j) + c * f n=c * (zQ n f + f n)
  rw [Zw c f n]
  grind
theorem Zx:∀ n:Nat,zQ n (λ_=>0)=0
 | 0=>rfl
 | n + 1=>by
  show zQ n (λ_=>0) + 0=0
  rw [Zx n]
  grind
theorem zHA (f:Nat->Nat->Rat) (m:Nat):∀ n:Nat,zQ n (λj=>zQ m (λi=>f i j))=zQ m (λi=>zQ n (λj=>f i j))
 | 0=>by
  show (0:Rat)=zQ m (λi=>0)
  rw [Zx]
 | n + 1=>by
  show zQ n (λj=>zQ m (λi=>f i j)) + zQ m (λi=>f i n)=zQ m (λi=>zQ n (λj=>f i j) + f i n)
  rw [zHA f m n,X8]
theorem zKI {f g:Nat->Rat}:∀ {n:Nat},(∀ j,j < n->f j<=g j)->zQ n f<=zQ n g
 | 0,_=>Rat.le_refl
 | n + 1,h=>by
  have h1:=zKI λj hj=>h j (Nat.lt_succ_of_lt hj)
  have h2:=h n (Nat.lt_succ_self n)
  show zQ n f + f n<=zQ n g + g n
  grind
theorem X9 (f:Nat->Rat):∀ n:Nat,zQ (n + 1) f=f 0 + zQ n (λj=>f (j + 1))
 | 0=>by show (0:Rat) + f 0=f 0 + 0; grind
 | n + 1=>by
  show zQ (n + 1) f + f (n + 1)=f 0 + (zQ n (λj=>f (j + 1)) + f (n + 1))
  rw [X9 f n]
  grind
def yj (ws:List Int) (q:Nat->Rat):Rat:=zQ ws.length λj=>(ws.getD j 0:Rat) * q j
theorem zHh:∀ {xs ys:List Int},xs.length=ys.length->((yx xs ys:Int):Rat)=zQ xs.length λi=>(xs.getD i 0:Rat) * (ys.getD i 0:Rat)
 | [],[],_=>by show ((0:Int):Rat)=0; rfl
 | [],_ :: _,h=>nomatch h
 | _ :: _,[],h=>nomatch h
 | x :: xs,y :: ys,h=>by
  show ((x * y + yx xs ys:Int):Rat)=zQ (xs.length + 1) λi=>((x :: xs).getD i 0:Rat) * ((y :: ys).getD i 0:Rat)
  rw [X9,Rat.intCast_add,Rat.intCast_mul,zHh (Nat.succ.inj h)]
  rfl
theorem Jn (j:Nat):∀ {r:List Int} {ls:List (List Int)},r.length=ls.length->((zr r ls j:Int):Rat)=zQ r.length λi=>(r.getD i 0:Rat) * ((ls.getD i []).getD j 0:Rat)
 | [],[],_=>by show ((0:Int):Rat)=0; rfl
 | [],_ :: _,h=>nomatch h
 | _ :: _,[],h=>nomatch h
 | x :: xs,y :: ys,h=>by
  show ((x * y.getD j 0 + zr xs ys j:Int):Rat)=zQ (xs.length + 1) λi=>((x :: xs).getD i 0:Rat) * (((y :: ys).getD i []).getD j 0:Rat)
  rw [X9,Rat.intCast_add,Rat.intCast_mul,Jn j (Nat.succ.inj h)]
  rfl
theorem zDg {n j:Nat} (f:Nat->Int) (h:j < n):((List.range n).map f).getD j 0=f j:=by
 rw [List.getD_eq_getElem?_getD,List.getElem?_map,List.getElem?_range h]
 rfl
theorem Jo {r:List Int} {ls:List (List Int)} {n:Nat} (hl:r.length=ls.length) (q:Nat->Rat):yj ((List.range n).map (zr r ls)) q=zQ r.length λi=>(r.getD i 0:Rat) * zQ n λj=>((ls.getD i []).getD j 0:Rat) * q j:=by
 unfold yj
 rw [List.length_map,List.length_range]
 rw [vN (g:=λj=>zQ r.length λi=>(r.getD i 0:Rat) * (((ls.getD i []).getD j 0:Rat) * q j)) λj hj=>?_]
 ·rw [zHA]
  exact vN λi hi=>Zw _ _ _
 ·rw [zDg _ hj,Jn j hl]
  rw [show zQ r.length (λi=>(r.getD i 0:Rat) * (((ls.getD i []).getD j 0:Rat) * q j))=zQ r.length (λi=>q j * ((r.getD i 0:Rat) * ((ls.getD i []).getD j 0:Rat))) from vN λi _=>by grind,Zw]
  grind
theorem Jp (f:Nat->Rat) (n:Nat):∀ p:Nat,zQ (n + p) f=zQ n f + zQ p (λj=>f (n + j))
 | 0=>by show zQ n f=zQ n f + 0; grind
 | p + 1=>by
  show zQ (n + p) f + f (n + p)=zQ n f + (zQ p (λj=>f (n + j)) + f (n + p))
  rw [Jp f n p]
  grind
theorem zIi {f:Nat->Rat} {a:Nat}:∀ {n:Nat},a < n->(∀ j,j < n->j≠a->f j=0)->zQ n f=f a
 | 0,h,_=>absurd h (Nat.not_lt_zero _)
 | n + 1,h,z=>by
  show zQ n f + f n=f a
  by_cases c:a=n
  ·rw [<- c,vN (g:=λ_=>0) λj hj=>z j (by omega) (by omega),Zx]
   grind
  ·rw [zIi (by omega) λj hj=>z j (by omega),z n (by omega) (by omega)]
   grind
def yz (n:Nat) (q:Nat->Rat) (r:List Int):Prop:=(zQ n λj=>(r.getD j 0:Rat) * q j)<=(r.getD n 0:Rat)
theorem zPc {rows:List (List Int)} {tw ns:List Int} {n:Nat} {o:Int} {q:Nat->Rat} (len:ns.length=rows.length) (n0:∀ x∈ns,0<=x) (o0:0<=o) (lt:tw.length=n + 1) (hs:qY rows tw o ns n=true) (hh:∀ r∈rows,yz n q r):yz n q tw:=by
 unfold qY at hs
 have ep:(List.range n).map (vm rows ns)=(List.range n).map (zr ns rows):=List.map_congr_left λj _=>ZU rows ns j
 rw [ep,ZU] at hs
 have A:=Jo (n:=n) len q
 have C:(zQ ns.length λi=>(ns.getD i 0:Rat) * zQ n λj=>((rows.getD i []).getD j 0:Rat) * q j)<=(zr ns rows n:Rat):=by
  rw [Jn n len]
  refine zKI λi hi=>?_
  have h1:ns.getD i 0∈ns:=by rw [List.getD_eq_getElem?_getD,List.getElem?_eq_getElem hi]; exact List.getElem_mem _
  have h2:rows.getD i []∈rows:=by rw [List.getD_eq_getElem?_getD,List.getElem?_eq_getElem (by omega)]; exact List.getElem_mem _
  exact Rat.mul_le_mul_of_nonneg_left (hh _ h2) (by exact_mod_cast n0 _ h1)
 rw [<- A] at C
 have ld:((List.range n).map (zr ns rows)).length=n:=by rw [List.length_map,List.length_range]
 by_cases c:o=0
 ·rw [if_pos c,Bool.and_eq_true] at hs
  have z:yj ((List.range n).map (zr ns rows)) q=0:=by
   unfold yj
   rw [ld,vN (g:=λ_=>0) λj hj=>?_,Zx]
   have:=of_decide_eq_true (List.all_eq_true.mp hs.1 (zr ns rows j) (List.mem_map.mpr ⟨j,List.mem_range.mpr hj,rfl⟩))
   rw [zDg _ hj,this]
   show ((0:Int):Rat) * q j=0
   grind
  rw [z] at C
  have s0:=of_decide_eq_true hs.2
  have C':(0:Int)<=zr ns rows n:=by exact_mod_cast C
  omega
 ·rw [if_neg c,Bool.and_eq_true] at hs
  have e:=of_decide_eq_true hs.1
  have s1:=of_decide_eq_true hs.2
  have op:(0:Rat) < (o:Rat):=by exact_mod_cast (show 0 < o by omega)
  have z:yj ((List.range n).map (zr ns rows)) q=(o:Rat) * zQ n λj=>(tw.getD j 0:Rat) * q j:=by
   unfold yj
   rw [ld,<- Zw,e]
   refine vN λj hj=>?_
   have g:((tw.take n).map (o * ·)).getD j 0=o * tw.getD j 0:=by
    rw [List.getD_eq_getElem?_getD,List.getElem?_map,List.getElem?_take,if_pos hj,List.getD_eq_getElem?_getD,List.getElem?_eq_getElem (by omega)]
    rfl
   rw [g,Rat.intCast_mul,Rat.mul_assoc]
  rw [z] at C
  have C2:(zr ns rows n:Rat)<=(o:Rat) * (tw.getD n 0:Rat):=by rw [<- Rat.intCast_mul]; exact_mod_cast s1
  exact Rat.le_of_mul_le_mul_left (Rat.le_trans C C2) op
theorem zLN {n p:Nat} {x q:Nat->Rat} {r:List Int} (e:∀ j,j < n->q j=x j) (lr:r.length=n + 1) (h:yz n x r):yz (n + p) q (wy n p r):=by
 have l1:(r.take n).length=n:=by rw [List.length_take]; omega
 have g1:∀ j,j < n->(wy n p r).getD j 0=r.getD j 0:=λj hj=>by
  unfold wy
  rw [List.append_assoc,List.getD_eq_getElem?_getD,List.getElem?_append_left (by omega),List.getElem?_take,if_pos hj,List.getD_eq_getElem?_getD]
 have g2:∀ j,j < p->(wy n p r).getD (n + j) 0=0:=λj hj=>by
  unfold wy
  rw [List.getD_eq_getElem?_getD,List.getElem?_append_left (by rw [List.length_append,List.length_replicate]; omega),List.getElem?_append_right (by omega),l1,Nat.add_sub_cancel_left,List.getElem?_replicate,if_pos hj]
  rfl
 have g3:(wy n p r).getD (n + p) 0=r.getD n 0:=by
  unfold wy
  rw [List.getD_eq_getElem?_getD,List.getElem?_append_right (by rw [List.length_append,List.length_replicate]; omega),List.length_append,l1,List.length_replicate,Nat.sub_self]
  rfl
 unfold yz
 rw [Jp,g3,vN (g:=λj=>(r.getD j 0:Rat) * x j) (λj hj=>by rw [g1 j hj,e j hj]),vN (n:=p) (g:=λ_=>0) (λj hj=>by rw [g2 j hj]; show ((0:Int):Rat) * _=0; grind),Zx]
 have:=h
 unfold yz at this
 grind
theorem zIf {a n j:Nat} {y c:Int} (h:j < n):(y6 (a:Int) n y++[c]).getD j 0=if j=a then y else 0:=by
 unfold y6
 rw [List.getD_eq_getElem?_getD,List.getElem?_append_left (by rw [List.length_map,List.length_range]; exact h),List.getElem?_map,List.getElem?_range h]
 show (if ((j:Nat):Int)=(a:Int) then y else 0)=_
 by_cases c:j=a
 ·rw [if_pos (by omega),if_pos c]
 ·rw [if_neg (by omega),if_neg c]
theorem WA {a n:Nat} {y c:Int} {q:Nat->Rat} (ha:a < n):yz n q (y6 (a:Int) n y++[c]) ↔ (y:Rat) * q a<=(c:Rat):=by
 unfold yz
 have e:(zQ n λj=>((y6 (a:Int) n y++[c]).getD j 0:Rat) * q j)=(y:Rat) * q a:=by
  rw [zIi ha λj hj hn=>by rw [zIf hj,if_neg hn]; show ((0:Int):Rat) * _=0; grind,zIf ha,if_pos rfl]
 have g:(y6 (a:Int) n y++[c]).getD n 0=c:=by
  rw [List.getD_eq_getElem?_getD,List.getElem?_append_right (by rw [u8]; exact Nat.le_refl _),u8,Nat.sub_self]
  rfl
 rw [e,g]
structure qH (n:Nat) (bs:List (Int × Int)) (x u q:Nat->Rat):Prop where
 a:∀ j,j < n->q j=x j
 b:∀ i,i < bs.length->q (n + i)=u i
 c:∀ i (h:i < bs.length),((bs[i].1:Int):Rat)<=u i/\u i<=((bs[i].2:Int):Rat)
theorem zJq {n:Nat} {bs:List (Int × Int)} {x u q:Nat->Rat} {rows:List (List Int)} (S:qH n bs x u q) (hr:∀ r∈rows,r.length=n + 1/\yz n x r):∀ r∈kF n bs rows,yz (n + bs.length) q r:=λr hr'=>by
 rcases List.mem_append.mp hr' with h | h
 ·obtain ⟨r0,h0,rfl⟩:=List.mem_map.mp h
  exact zLN S.a (hr r0 h0).1 (hr r0 h0).2
 ·obtain ⟨l,hl,h⟩:=List.mem_flatten.mp h
  obtain ⟨i,hi,rfl⟩:=List.mem_mapIdx.mp hl
  have c:=S.c i hi
  have b:=S.b i hi
  rcases List.mem_cons.mp h with rfl | h
  ·rw [WA (by omega),b]
   have:=c.2
   show ((1:Int):Rat) * u i<=_
   grind
  ·rw [List.mem_singleton.mp h,WA (by omega),b,Rat.intCast_neg,Rat.intCast_neg]
   have:=c.1
   show -((1:Int):Rat) * u i<=_
   grind
def qI (n p:Nat) (m:MD) (x u y:Nat->Rat):Prop:=∀ i,i < n->y i * (m.div:Rat)=(zQ n λj=>((m.nexts.getD i []).getD j 0:Rat) * x j) + (zQ p λj=>((m.push.getD i []).getD j 0:Rat) * u j) + (m.add.getD i 0:Rat)
theorem zPC {n p:Nat} {m:MD} {x u y:Nat->Rat} {ws:List Int} (B:qI n p m x u y) (lw:ws.length=n) (ln:m.nexts.length=n) (lp:m.push.length=n) (la:m.add.length=n):yj ws y * (m.div:Rat)=yj ((List.range n).map (zr ws m.nexts)) x + yj ((List.range p).map (zr ws m.push)) u + (yx ws m.add:Rat):=by
 rw [Jo (by omega),Jo (by omega),zHh (by omega),<- X8,<- X8]
 unfold yj
 rw [Rat.mul_comm,<- Zw]
 refine vN λi hi=>?_
 have:=B i (by omega)
 grind
theorem Zy {ws:List Int} {n:Nat} {q:Nat->Rat} (h:ws.length=n):yj ws q=zQ n λj=>(ws.getD j 0:Rat) * q j:=by rw [<- h]; rfl
theorem zNH {n p:Nat} {A B:List Int} {c:Int} {q:Nat->Rat} (lA:A.length=n) (lB:B.length=p):yz (n + p) q (A++B++[c]) ↔ yj A q + yj B (λj=>q (n + j))<=(c:Rat):=by
 unfold yz
 have g:(A++B++[c]).getD (n + p) 0=c:=by
  rw [List.getD_eq_getElem?_getD,List.getElem?_append_right (by rw [List.length_append]; omega),List.length_append,lA,lB,Nat.sub_self]
  rfl
 rw [g,Jp,Zy lA,Zy lB,vN (n:=n) (g:=λj=>(A.getD j 0:Rat) * q j) λj hj=>?_,vN (n:=p) (g:=λj=>(B.getD j 0:Rat) * q (n + j)) λj hj=>?_]
 ·rw [List.getD_eq_getElem?_getD,List.append_assoc,List.getElem?_append_right (by omega),lA,Nat.add_sub_cancel_left,List.getElem?_append_left (by omega),List.getD_eq_getElem?_getD]
 ·rw [List.getD_eq_getElem?_getD,List.append_assoc,List.getElem?_append_left (by omega),List.getD_eq_getElem?_getD]
theorem zHf {ws:List Int} {n:Nat} {x q:Nat->Rat} (l:ws.length=n) (e:∀ j,j < n->q j=x j):yj ws q=yj ws x:=by
 rw [Zy l,Zy l]
 exact vN λj hj=>by rw [e j hj]
theorem zJr {n:Nat} {bs:List (Int × Int)} {m:MD} {x u y q:Nat->Rat} {ws:List Int} {b:Int} (S:qH n bs x u q) (B:qI n bs.length m x u y) (MO:xT m n bs.length) (lw:ws.length=n) (h:yz (n + bs.length) q (vx n bs.length ws b m)):yj ws y<=(b:Rat):=by
 unfold vx at h
 rw [zNH (by rw [List.length_map,List.length_range]) (by rw [List.length_map,List.length_range]),zHf (x:=x) (by rw [List.length_map,List.length_range]) S.a,zHf (x:=u) (by rw [List.length_map,List.length_range]) S.b] at h
 have e:=zPC B lw MO.nexts.1 MO.push.1 MO.add
 have d1:(0:Rat) < (m.div:Rat):=by exact_mod_cast MO.div
 rw [Rat.intCast_sub,Rat.intCast_mul] at h
 refine Rat.le_of_mul_le_mul_right (c:=(m.div:Rat)) ?_ d1
 rw [e]
 grind
theorem zOP {rows:List (List Int)} {tw:List Int} {n:Nat} {d:D} {q:Nat->Rat} (lt:tw.length=n + 1) (h:jF rows tw n d=true) (hh:∀ r∈rows,yz n q r):yz n q tw:=by
 cases c:xF rows.length d with
 | false=>rw [zIl c] at h; cases h
 | true=>
  obtain ⟨o,ns,rfl,o0,ln,n0⟩:=zIm c
  rw [zHE c] at h
  exact zPc ln n0 o0 lt h hh
theorem Jq {α β:Type} {xs:List α} {ys:List β} {f:α × β->Bool} (l:ys.length=xs.length) (h:(xs.zip ys).all f=true):∀ x∈xs,∃ y,f (x,y)=true:=λx hx=>by
 obtain ⟨i,hi,e⟩:=List.mem_iff_getElem.mp hx
 have hz:(x,ys[i]'(by omega))∈xs.zip ys:=List.mem_iff_getElem.mpr ⟨i,by rw [List.length_zip]; omega,by rw [List.getElem_zip,e]⟩
 exact ⟨_,List.all_eq_true.mp h _ hz⟩
theorem Jr {rows tws:List (List Int)} {n:Nat} {d:D} {q:Nat->Rat} (lt:∀ r∈tws,r.length=n + 1) (h:uF rows tws n d=true) (hh:∀ r∈rows,yz n q r):∀ r∈tws,yz n q r:=λr hr=>by
 cases d with
 | lst as=>
  have h:(decide ((as.length:Int)=(tws.length:Int)) && (tws.zip as).all λp=>jF rows p.1 n p.2)=true:=h
  rw [Bool.and_eq_true] at h
  have l:=of_decide_eq_true h.1
  obtain ⟨y,hy⟩:=Jq (by omega) h.2 r hr
  exact zOP (lt r hr) hy hh
 | _=>cases h
def WB (n:Nat) (bs:List (Int × Int)) (ms:List MD) (x y:Nat->Rat):Prop:=∃ m∈ms,∃ u:Nat->Rat,(∀ r∈m.rows,yz n x r)/\(∀ i (h:i < bs.length),((bs[i].1:Int):Rat)<=u i/\u i<=((bs[i].2:Int):Rat))/\qI n bs.length m x u y
def zPb (n:Nat) (x u:Nat->Rat) (j:Nat):Rat:=if j < n then x j else u (j - n)
theorem zOO {n:Nat} {bs:List (Int × Int)} {x u:Nat->Rat} (h:∀ i (h:i < bs.length),((bs[i].1:Int):Rat)<=u i/\u i<=((bs[i].2:Int):Rat)):qH n bs x u (zPb n x u):=⟨λj hj=>if_pos hj,λi _=>by unfold zPb; rw [if_neg (by omega),Nat.add_sub_cancel_left],h⟩
theorem zNG {n:Nat} {q:Nat->Rat} {r:List Int} (l:r.length=n + 1):yz n q r ↔ yj (r.take n) q<=(r.getD n 0:Rat):=by
 unfold yz
 rw [Zy (n:=n) (by rw [List.length_take]; omega),vN (g:=λj=>((r.take n).getD j 0:Rat) * q j) λj hj=>by rw [List.getD_eq_getElem?_getD (l:=r.take n),List.getElem?_take,if_pos hj,List.getD_eq_getElem?_getD]]
theorem zQX {n:Nat} {bs:List (Int × Int)} {ms:List MD} {room behind:List (List Int)} {a:D} {x y:Nat->Rat} (ok:∀ m∈ms,xT m n bs.length) (h:jG n bs ms room behind a=true) (lr:∀ r∈room,r.length=n + 1) (lb:∀ r∈behind,r.length=n + 1) (hx:∀ r∈room,yz n x r) (hs:WB n bs ms x y):∀ r∈behind,yz n y r:=λr hr=>by
 obtain ⟨m,hm,u,h1,h2,B⟩:=hs
 have MO:=ok m hm
 cases a with
 | lst as=>
  have h:(decide ((as.length:Int)=(ms.length:Int)) && (ms.zip as).all λp=>Xe n bs room behind p.1 p.2)=true:=h
  rw [Bool.and_eq_true] at h
  have l:=of_decide_eq_true h.1
  obtain ⟨a,ha⟩:=Jq (by omega) h.2 m hm
  have S:=zOO (n:=n) (x:=x) h2
  have st:=zJq S (rows:=room++m.rows) λr hr=>(List.mem_append.mp hr).elim (λh=>⟨lr r h,hx r h⟩) λh=>⟨MO.rows r h,h1 r h⟩
  have e:=Jr (λr hr=>by obtain ⟨r0,_,rfl⟩:=List.mem_map.mp hr; exact zHH ..) ha st (vx n bs.length (r.take n) (r.getD n 0) m) (List.mem_map.mpr ⟨r,hr,rfl⟩)
  rw [zNG (lb r hr)]
  exact zJr S B MO (by rw [List.length_take,lb r hr]; omega) e
 | _=>cases h
abbrev dQ (r:Rat):D:=.tup [.int r.num,.int (r.den:Int)]
theorem zQV {a b:Int} (h:0 < b):((a:Rat) / (b:Rat)).num=a.fdiv (Int.gcd a b:Int)/\((((a:Rat) / (b:Rat)).den:Nat):Int)=b.fdiv (Int.gcd a b:Int):=by
 obtain ⟨n,rfl⟩:∃ n:Nat,b=(n:Int):=⟨b.toNat,by omega⟩
 have nz:n≠0:=by omega
 have e:(a:Rat) / (((n:Nat):Int):Rat)=mkRat a n:=by rw [Rat.mkRat_eq_div]; rfl
 have g0:(0:Int)<=(Int.gcd a (n:Int):Int):=Int.natCast_nonneg _
 rw [e]
 unfold mkRat
 rw [dif_neg nz,Rat.normalize_eq,Int.fdiv_eq_ediv_of_nonneg _ g0,Int.fdiv_eq_ediv_of_nonneg _ g0]
 exact ⟨rfl,rfl⟩
def xi (Q e:Nat) (x:Rat):Prop:=∃ k:Int,x * (Q:Rat)=(k:Rat)/\Bd e k
theorem Js (x:Rat):(x.num:Rat)=x * (x.den:Rat):=by
 have h:=Rat.mkRat_self x
 rw [Rat.mkRat_eq_div,Rat.div_def] at h
 have d0:(x.den:Rat)≠0:=by exact_mod_cast x.den_nz
 have e:x * (x.den:Rat)=(x.num:Rat) * ((x.den:Rat)⁻¹ * (x.den:Rat)):=by
  rw [<- Rat.mul_assoc,h]
 rw [e,Rat.inv_mul_cancel _ d0,Rat.mul_one]
theorem Zz {Q e:Nat} {x:Rat} (q:0 < Q) (h:xi Q e x):x.den<=Q/\Bd e x.num:=by
 obtain ⟨k,hk,b⟩:=h
 have d0:(x.den:Rat)≠0:=by exact_mod_cast x.den_nz
 have e1:x.num * (Q:Int)=k * (x.den:Int):=by
  have:(x.num:Rat) * (Q:Rat)=(k:Rat) * (x.den:Rat):=by rw [Js,<- hk]; grind
  exact_mod_cast this
 have dv:x.den ∣ Q:=by
  have h1:x.den ∣ x.num.natAbs * Q:=by
   have:=congrArg Int.natAbs e1
   rw [Int.natAbs_mul,Int.natAbs_mul] at this
   exact ⟨k.natAbs,by simp at this; rw [this,Nat.mul_comm]⟩
  exact (Nat.Coprime.dvd_of_dvd_mul_left x.reduced.symm h1)
 have le:=Nat.le_of_dvd q dv
 refine ⟨le,?_⟩
 have h2:x.num.natAbs * Q=k.natAbs * x.den:=by
  have:=congrArg Int.natAbs e1
  rw [Int.natAbs_mul,Int.natAbs_mul] at this
  simpa using this
 have h3:x.num.natAbs * Q<=k.natAbs * Q:=by rw [h2]; exact Nat.mul_le_mul_left _ le
 have h4:=Nat.le_of_mul_le_mul_right h3 q
 exact Nat.lt_of_le_of_lt h4 b
theorem Z3 {Q e:Nat} {x y:Rat} (h:xi Q e x) (g:xi Q e y):xi Q (e + 1) (x + y):=by
 obtain ⟨k,hk,b⟩:=h
 obtain ⟨l,hl,c⟩:=g
 exact ⟨k + l,by rw [Rat.intCast_add,<- hk,<- hl]; grind,b.add c⟩
theorem zPV {Q e c:Nat} {x:Rat} {w:Int} (b:Bd c w) (h:xi Q e x):xi Q (c + e) ((w:Rat) * x):=by
 obtain ⟨k,hk,bk⟩:=h
 exact ⟨w * k,by rw [Rat.intCast_mul,<- hk]; grind,b.mul bk⟩
theorem vi {Q e f:Nat} {x:Rat} (h:xi Q e x) (l:e<=f):xi Q f x:=by
 obtain ⟨k,hk,b⟩:=h
 exact ⟨k,hk,b.mono l⟩
theorem Z4 {Q e c P:Nat} {x:Rat} (h:xi Q e x) (b:Bd c (P:Int)):xi (Q * P) (e + c) x:=by
 obtain ⟨k,hk,bk⟩:=h
 refine ⟨k * (P:Int),?_,bk.mul b⟩
 rw [Rat.intCast_mul,<- hk]
 have:(((Q * P:Nat)):Rat)=(Q:Rat) * (P:Rat):=Rat.natCast_mul ..
 rw [this]
 show _=x * (Q:Rat) * (P:Rat)
 grind
theorem Jt {Q e c:Nat} {w:Int} (b:Bd e w) (q:Bd c (Q:Int)):xi Q (e + c) (w:Rat):=⟨w * (Q:Int),by rw [Rat.intCast_mul]; rfl,b.mul q⟩
theorem zPW {Q e:Nat} {x:Rat} {d:Int} (h:xi Q e x) (d1:1<=d):xi (Q * d.toNat) e (x / (d:Rat)):=by
 obtain ⟨k,hk,b⟩:=h
 refine ⟨k,?_,b⟩
 have:((Q * d.toNat:Nat):Rat)=(Q:Rat) * ((d.toNat:Nat):Rat):=Rat.natCast_mul ..
 rw [this]
 obtain ⟨n,rfl⟩:∃ n:Nat,d=(n:Int):=⟨d.toNat,by omega⟩
 have n0:(((n:Nat):Int):Rat)≠0:=by exact_mod_cast (show (n:Int)≠0 by omega)
 rw [<- hk,Int.toNat_natCast]
 show x / (((n:Nat):Int):Rat) * ((Q:Rat) * (((n:Nat):Int):Rat))=_
 rw [Rat.div_def]
 have i:=Rat.inv_mul_cancel _ n0
 grind
theorem qJ (Q e:Nat):xi Q e 0:=⟨0,by show 0 * (Q:Rat)=0; grind,xu⟩
def yo:List Int->List Rat->Rat
 | w :: ws,x :: xs=>(w:Rat) * x + yo ws xs
 | _,_=>0
theorem WC:∀ (ws:List Int) (xs:List Rat),ws.length=xs.length->yo ws xs=zQ xs.length λj=>(ws.getD j 0:Rat) * xs.getD j 0
 | [],[],_=>rfl
 | [],_ :: _,h=>nomatch h
 | _ :: _,[],h=>nomatch h
 | w :: ws,x :: xs,h=>by
  show (w:Rat) * x + yo ws xs=zQ (xs.length + 1) _
  rw [X9,WC ws xs (Nat.succ.inj h)]
  rfl
theorem zHg:∀ {ws:List Int} {xs:List Rat} {w:Int} {x:Rat},ws.length=xs.length->yo (ws++[w]) (xs++[x])=yo ws xs + (w:Rat) * x
 | [],[],w,x,_=>by show (w:Rat) * x + 0=0 + (w:Rat) * x; grind
 | [],_ :: _,_,_,h=>nomatch h
 | _ :: _,[],_,_,h=>nomatch h
 | a :: ws,y :: xs,w,x,h=>by
  show (a:Rat) * y + yo (ws++[w]) (xs++[x])=(a:Rat) * y + yo ws xs + (w:Rat) * x
  rw [zHg (Nat.succ.inj h)]
  grind
theorem qK {Q e c:Nat}:∀ {ws:List Int} {xs:List Rat},(∀ w∈ws,Bd c w)->(∀ x∈xs,xi Q e x)->xi Q (c + e + xs.length) (yo ws xs)
 | [],_,_,_=>qJ _ _
 | _ :: _,[],_,_=>qJ _ _
 | w :: ws,x :: xs,hw,hx=>by
  have h1:=zPV (hw w List.mem_cons_self) (hx x List.mem_cons_self)
  have h2:=qK (λw h=>hw w (List.mem_cons_of_mem _ h)) (λx h=>hx x (List.mem_cons_of_mem _ h)) (ws:=ws) (xs:=xs)
  exact Z3 (vi h1 (Nat.le_add_right _ _)) h2
theorem zQ3 {a b:Int} {n:Nat} (h:Bd n b) (b0:0 < b):Bd n (Int.gcd a b:Int):=h.of_le (by
 have:=Int.gcd_le_right (a:=a) b0
 omega)
def Z5:FL:=λds R=>∃ a b,ds=[.int a,.int b]/\R (.int (Int.gcd a b:Int))
def uq:FL:=λds R=>∃ a b,ds=[.int a,.int b]/\0 < b/\Bd 8000 b/\R (dQ ((a:Rat) / (b:Rat)))
def Ju:FL:=λds R=>∃ a b c d,ds=[.tup [.int a,.int b],.tup [.int c,.int d]]/\0 < b/\0 < d/\Bd 29000 a/\Bd 4000 b/\Bd 29000 c/\Bd 4000 d/\R (dQ ((a:Rat) / (b:Rat) + (c:Rat) / (d:Rat)))
theorem zO6 {a b c d:Int} (hb:0 < b) (hd:0 < d):((a * d + c * b:Int):Rat) / ((b * d:Int):Rat)=(a:Rat) / (b:Rat) + (c:Rat) / (d:Rat):=by
 have b0:(b:Rat)≠0:=by exact_mod_cast (show b≠0 by omega)
 have d0:(d:Rat)≠0:=by exact_mod_cast (show d≠0 by omega)
 have xu:((b * d:Int):Rat)≠0:=by exact_mod_cast Int.ne_of_gt (Int.mul_pos hb hd)
 simp only [Rat.div_def]
 have e1:=Rat.mul_inv_cancel _ b0
 have e2:=Rat.mul_inv_cancel _ d0
 have e3:=Rat.mul_inv_cancel _ xu
 rw [Rat.intCast_add,Rat.intCast_mul,Rat.intCast_mul]
 rw [Rat.intCast_mul] at e3 |-
 grind
theorem gW {α β:Type} {f:α->β} {l:List α} {k:Nat} {y:β} (h:(l.map f)[k]? = some y):∃ x,l[k]? = some x/\f x=y:=by
 rw [List.getElem?_map] at h
 cases c:l[k]? with
 | none=>rw [c] at h; cases h
 | some x=>rw [c] at h; cases h; exact ⟨x,rfl,rfl⟩
theorem qL (x:Rat):(x.num:Rat) / ((x.den:Int):Rat)=x:=by
 have h:=Rat.mkRat_self x
 rw [Rat.mkRat_eq_div] at h
 exact h
theorem Z6 (w:Int) (x:Rat):((w * x.num:Int):Rat) / ((x.den:Int):Rat)=(w:Rat) * x:=by
 have h:=qL x
 rw [Rat.div_def] at h |-
 rw [Rat.intCast_mul,Rat.mul_assoc,h]
theorem ur (x:Rat):0 < (x.den:Int):=by
 have:=x.den_nz
 omega
theorem wr {Q e q:Nat} {x:Rat} (Q0:0 < Q) (bQ:Bd q (Q:Int)) (h:xi Q e x):Bd e x.num/\Bd q (x.den:Int):=by
 obtain ⟨h1,h2⟩:=Zz Q0 h
 exact ⟨h2,bQ.of_le (by omega)⟩
structure vZ (n:Nat) (xs:List Rat) (Q e q:Nat):Prop where
 len:xs.length=n
 n3:n<=3
 Q0:0 < Q
 bQ:Bd q (Q:Int)
 q1:q<=3000
 e1:e<=15000
 sz:∀ x∈xs,xi Q e x
abbrev dP (xs:List Rat):D:=.lst (xs.map dQ)
def Jv:FL:=λds R=>∃ d ns n xs Q e q,ds=[d,dP xs]/\IS d ns/\ns.length=n/\(∀ w∈ns,Bd 300 w)/\vZ n xs Q e q/\R (dQ (yo ns xs))
def hQ (xs:List Rat) (r:List Int):Bool:=decide (yo (r.take xs.length) xs<=(r.getD xs.length 0:Rat))
def zOA:FL:=λds R=>∃ r n xs Q e q,ds=[U r,dP xs]/\r.length=n + 1/\(∀ w∈r,Bd 300 w)/\vZ n xs Q e q/\R (.bool (hQ xs r))
def Jw:FL:=λds R=>∃ rm n xs Q e q,ds=[Rm rm,dP xs]/\rm.length<=900/\(∀ r∈rm,r.length=n + 1/\∀ w∈r,Bd 300 w)/\vZ n xs Q e q/\R (.bool (rm.all (hQ xs)))
theorem Jx {x:Rat} {b:Int}:x.num<=b * (x.den:Int) ↔ x<=(b:Rat):=by
 have d0:(0:Rat) < (x.den:Rat):=by exact_mod_cast ur x
 have e:=Js x
 have c:x.num<=b * (x.den:Int) ↔ (x.num:Rat)<=(b:Rat) * (x.den:Rat):=by
  constructor
  ·intro h
   have:(x.num:Rat)<=((b * (x.den:Int):Int):Rat):=by exact_mod_cast h
   rw [Rat.intCast_mul] at this
   exact this
  ·intro h
   have:(x.num:Rat)<=((b * (x.den:Int):Int):Rat):=by rw [Rat.intCast_mul]; exact h
   exact_mod_cast this
 rw [c,e]
 exact ⟨λh=>Rat.le_of_mul_le_mul_right h d0,λh=>Rat.mul_le_mul_of_nonneg_right h (Rat.le_of_lt d0)⟩
section
variable {P:Program} {w:World} {K:PySem.W.Frag} {mg:Str->Option Value} {base:Heap}
abbrev Jy:Stmt:=zk 70
theorem zEh:zb ["_law_one","_law_other_here"] ["_law_one","_law_other_here"] (zL Jy):=.a
abbrev Jz:Stmt:=zk 71
theorem zFE:zb ["_law_top_here","_law_bottom","_law_share"] ["_law_top_here","_law_bottom"] (zL Jz):=.a
abbrev J0:Stmt:=zk 72
theorem zKS:zb ["_law_one","_law_other_here"] ["_law_one","_law_other_here"] (zL J0):=.a
abbrev J1:Stmt:=zk 73
theorem Z7:zb ["_law_numbers","_law_values","_law_found","_law_number_here","_law_value"] ["_law_numbers","_law_values"] (zL J1):=.a
abbrev J2:Stmt:=zk 74
theorem zF6:zb ["_law_row","_law_point_here","_law_value"] ["_law_row","_law_point_here"] (zL J2):=.a
abbrev WD:Stmt:=zk 75
theorem zKT:zb ["_law_room","_law_point_here"] ["_law_room","_law_point_here"] (zL WD):=.a
variable {aClaim aSettles aComes ag ah aPaper aRooms aFalls:Addr} (TClaim:zE K mg "Claim" aClaim) (AClaim:wc K aClaim) (TSettles:zE K mg "Settles" aSettles) (ASettles:wd K aSettles) (TComes:zE K mg "Comes" aComes) (AComes:we K aComes) (aa:zE K mg "Mode" ag) (ab:wf K ag) (ac:zE K mg "Thing" ah) (ae:wg K ah) (TPaper:zE K mg "Paper" aPaper) (APaper:wj K aPaper) (TRooms:zE K mg "Rooms" aRooms) (ARooms:wl K aRooms) (TFalls:zE K mg "Falls" aFalls) (AFalls:wm K aFalls)
include TClaim AClaim TSettles ASettles TComes AComes aa ab ac ae TPaper APaper TRooms ARooms TFalls AFalls
theorem zHQ {k:Nat} {f:Addr} {fd:FuncData} (F:zc K "_law_divisor" "_law_divisor" Jy f fd) (B:Bl mg):zG P w K mg base zX (k + 1) f fd ["_law_one","_law_other_here"] (zJ Z5):=by
 refine F.ok zEh (Uf λds R h=>by obtain ⟨a,b,rfl,_⟩:=h; rfl) (λcdv A outer s H vs Q E hr h=>?_)
 obtain ⟨Z,ds,R,zd,hv,⟨a,b,rfl,q0⟩,q⟩:=h
 refine ⟨_,(WS (zMj PassesOwn.never (Qa QW (L2.pv 1) QH (v5 _)) (WT (zPr (i:=0) (j:=1) rfl zEh.nd rfl rfl (by decide) rfl rfl (zo (L2.pv 1) (zo (QP QQ (L2.pv 0) (L2.pv 1)) yJ)) rfl)))
  (WT (QK (xS zNV rfl B.abs_ zLw (zo (L2.pv 0) yJ))))),?_⟩
 obtain ⟨v1,v2,rfl,h1,h2⟩:=vH hv
 cases h1
 cases h2
 refine zMO (λσ H'=>∃ c r:Int,σ=[some (.int c),some (.int r)]/\H'=H/\Int.gcd c r=Int.gcd a b) (λσ _=>match σ with | [_,some (.int r)]=>r.natAbs | _=>0) ⟨a,b,rfl,rfl,rfl⟩ ?_ ?_
 ·rintro σ H' ⟨c,r,rfl,rfl,hg⟩
  refine ⟨_,rfl,rfl,_,rfl,?_⟩
  by_cases z0:r=0
  ·subst z0
   refine gd rfl ?_
   refine ⟨_,rfl,c,rfl,?_⟩
   rw [zQ8]
   rw [Int.gcd_zero_right] at hg
   rw [hg]
   exact q _ _ _ q0 (zF.refl _) (.int _)
  ·have ne:¬ (V.int r=V.int 0):=λe=>z0 (by injection e)
   refine gh (zOt z0) ?_
   refine ⟨_,rfl,_,rfl,_,rfl,_,_,rfl,rfl,z0,_,_,rfl,?_⟩
   exact ⟨⟨r,c.fmod r,rfl,rfl,by rw [zNK]; exact hg⟩,zLU z0⟩
 ·rintro σ H' Q1 Q2 h ⟨v,e,sc,k,ek,q1⟩
  exact ⟨v,e,sc,k,ek,h _ _ q1⟩
theorem zIB {k:Nat} {f:Addr} {fd:FuncData} (F:zc K "_law_lowest" "_law_lowest" Jz f fd) (B:Bl mg) (bX:Fn P w K mg base "_law_divisor" ["_law_one","_law_other_here"] k (zJ Z5)):zG P w K mg base zX (k + 1) f fd ["_law_top_here","_law_bottom"] (zJ (uq)):=by
 refine zu F zFE (λds R h=>by obtain ⟨a,b,rfl,_⟩:=h; rfl) λcdv A outer s H E hr=>⟨_,(zK (ze 2 zFE.nd rfl (Or.inl rfl) (zP bX hr rfl (zB (zA 0) (zB (zA 1) zC))))
  (zM (zV (xU (zB (xq (zA 0) (zA 2)) (zB (xq (zA 1) (zA 2)) zC)))))),λds R h=>?_⟩
 obtain ⟨a,b,rfl,b0,bb,q⟩:=h
 have g0:(Int.gcd a b:Int)≠0:=Int.ne_of_gt (zOz (Int.ne_of_gt b0))
 have bg:=zQ3 (a:=a) bb b0
 refine ⟨a,b,rfl,g0,bg.mono,g0,bg.mono,k0,?_⟩
 unfold dQ at q
 rw [(zQV b0).1,(zQV b0).2] at q
 exact q
theorem zK1 {k:Nat} {f:Addr} {fd:FuncData} (F:zc K "_law_plus" "_law_plus" J0 f fd) (B:Bl mg) (ay:Fn P w K mg base "_law_lowest" ["_law_top_here","_law_bottom"] k (zJ (uq))):zG P w K mg base zX (k + 1) f fd ["_law_one","_law_other_here"] (zJ (Ju)):=by
 refine zu F zKS (λds R h=>by obtain ⟨a,b,c,d,rfl,_⟩:=h; rfl) λcdv A outer s H E hr=>⟨_,(zM (zV (zP ay hr rfl (zB (zh (ya (zR (zA 0) zD (λ_ _=>rfl)) (zR (zA 1) zD (λ_ _=>rfl))) (ya (zR (zA 1) zD (λ_ _=>rfl)) (zR (zA 0) zD (λ_ _=>rfl)))) (zB (ya (zR (zA 0) zD (λ_ _=>rfl)) (zR (zA 1) zD (λ_ _=>rfl))) zC))))),λds R h=>?_⟩
 obtain ⟨a,b,c,d,rfl,b0,d0,ba,bb,bc,bd,q⟩:=h
 refine ⟨_,rfl,_,rfl,ba.mono,bd.mono,_,rfl,_,rfl,bc.mono,bb.mono,_,rfl,_,rfl,bb.mono,bd.mono,_,_,rfl,Int.mul_pos b0 d0,(bb.mul bd).mono,?_⟩
 rw [zO6 b0 d0]
 exact q
theorem zJi {k:Nat} {f:Addr} {fd:FuncData} (F:zc K "_law_along" "_law_along" J1 f fd) (B:Bl mg) (aE:Fn P w K mg base "_law_plus" ["_law_one","_law_other_here"] k (zJ (Ju))):zG P w K mg base zX (k + 1) f fd ["_law_numbers","_law_values"] (zJ (Jv)):=by
 refine zu F Z7 (λds R h=>by obtain ⟨d,ns,n,xs,Q,ee,qq,rfl,_⟩:=h; rfl) λcdv A outer s H E hr=>⟨_,(zK (ze 2 Z7.nd rfl (Or.inl rfl) (xU (zB zD (zB zD zC))))
  (zK (xW PassesOwn.never rfl (jB rfl B.zip_ (zB (zA 0) (zB (zA 1) zC))) (xh rfl (zm 3 Z7.nd rfl (Or.inl rfl) (zm 4 Z7.nd rfl (Or.inl rfl) xf))) (zM (ze 2 Z7.nd rfl (Or.inl rfl) (zP aE hr rfl (zB (zA 2) (zB (xU (zB (ya (zA 3) (zR (zA 4) zD (λ_ _=>rfl))) (zB (zR (zA 4) zD (λ_ _=>rfl)) zC))) zC))))))
  (zM (zV (zA 2))))),λds R h=>?_⟩
 obtain ⟨d,ns,n,xs,Q,ee,qq,rfl,h,ln,bn,PT,q⟩:=h
 have n3:=PT.n3
 have lx:=PT.len
 have q1:=PT.q1
 have e1:=PT.e1
 refine ⟨k0,h.zipL ?_⟩
 refine ⟨λk Γ=>∃ s3 s4,Γ=[.sh d,.sh (dP xs),.sh (dQ (yo (ns.take k) (xs.take k))),s3,s4],⟨.no,.no,rfl⟩,?_,?_⟩
 ·rintro k d' Γ' hk ⟨s3,s4,rfl⟩
  obtain ⟨a,b,h1,h2,rfl⟩:=Y7 _ hk
  obtain ⟨w,hw,rfl⟩:=gW h1
  obtain ⟨x,hx,rfl⟩:=gW h2
  have bx:=wr PT.Q0 PT.bQ (PT.sz x (List.mem_of_getElem? hx))
  have bp:=wr PT.Q0 PT.bQ (qK (c:=300) (ws:=ns.take k) (xs:=xs.take k) (λw h=>bn w (List.mem_of_mem_take h)) λx h=>PT.sz x (List.mem_of_mem_take h))
  have lt:(xs.take k).length<=3:=by rw [List.length_take]; omega
  have bw:=bn w (List.mem_of_getElem? hw)
  refine ⟨_,rfl,bw.mono,bx.1.mono (by omega),_,rfl,k0,_,_,_,_,rfl,ur _,ur x,bp.1.mono (by omega),bp.2.mono (by omega),(bw.mul bx.1).mono (by omega),bx.2.mono (by omega),.sh (.int w),.sh (dQ x),?_⟩
  rw [qL,Z6,<- zHg (by rw [List.length_take,List.length_take]; omega),<- uz hw,<- uz hx]
  rfl
 ·rintro Γ' ⟨s3,s4,rfl⟩
  rw [List.length_zipWith,List.length_map,List.length_map,List.take_of_length_le (by omega),List.take_of_length_le (by omega)]
  exact q
theorem zJg {k:Nat} {f:Addr} {fd:FuncData} (F:zc K "_law_holds" "_law_holds" J2 f fd) (B:Bl mg) (aA:Fn P w K mg base "_law_along" ["_law_numbers","_law_values"] k (zJ (Jv))):zG P w K mg base zX (k + 1) f fd ["_law_row","_law_point_here"] (zJ (zOA)):=by
 refine zu F zF6 (λds R h=>by obtain ⟨r,n,xs,Q,ee,qq,rfl,_⟩:=h; rfl) λcdv A outer s H E hr=>⟨_,(zK (ze 2 zF6.nd rfl (Or.inl rfl) (zP aA hr rfl (zB (y9 (zA 0) y8 (yt (xQ zD))) (zB (zA 1) zC))))
  (zM (zV (UD (zR (zA 2) zD (λ_ _=>rfl)) (ya (zR (zA 0) (xQ zD) (λ_ _=>rfl)) (zR (zA 2) zD (λ_ _=>rfl))))))),λds R h=>?_⟩
 obtain ⟨r,n,xs,Q,ee,qq,rfl,lr,br,PT,q⟩:=h
 have n3:=PT.n3
 have q1:=PT.q1
 have e1:=PT.e1
 have bp:=wr PT.Q0 PT.bQ (qK (c:=300) (ws:=r.take n) (xs:=xs) (λw h=>br w (List.mem_of_mem_take h)) PT.sz)
 refine ⟨_,r.take n,n,xs,Q,ee,qq,rfl,.inr (by rw [vW lr]),by rw [List.length_take]; omega,λw h=>br w (List.mem_of_mem_take h),PT,?_⟩
 refine ⟨_,rfl,_,jx lr,_,rfl,(vv br n).mono,bp.2.mono (by omega),bR q ?_⟩
 unfold hQ
 rw [PT.len]
 exact decide_eq_decide.mpr Jx.symm
theorem zK4 {k:Nat} {f:Addr} {fd:FuncData} (F:zc K "_law_lies" "_law_lies" WD f fd) (B:Bl mg) (bY:Fn P w K mg base "_law_holds" ["_law_row","_law_point_here"] k (zJ (zOA))):zG P w K mg base zX (k + 1) f fd ["_law_room","_law_point_here"] (zJ (Jw)):=by
 refine zu F zKT (λds R h=>by obtain ⟨rm,n,xs,Q,ee,qq,rfl,_⟩:=h; rfl) λcdv A outer s H E hr=>⟨_,(zM (zV (zq (wR rfl) wY rfl B.all_ wS (zB (yQ (own:=["_law_row"]) (caps:=[(1,"_law_point_here")]) (yC (S:=zL WD) (N:=["_law_room","_law_point_here"]) rfl (by decide +kernel) rfl ⟨_,rfl⟩ rfl (by decide +kernel) (by decide +kernel)) rfl rfl yF (yS (zA 0)) (λ_ _ _ _=>(zt 0 (show (["_law_row","_law_point_here"]:List Str).Nodup by decide +kernel) rfl (Or.inl rfl))) (λ_ _ _ _=>(zP bY hr rfl (zB (zA 0) (zB (zA 1) zC))))) zC)))),λds R h=>?_⟩
 obtain ⟨rm,n,xs,Q,ee,qq,rfl,l9,hr,PT,q⟩:=h
 refine wn U zf uj (λr=>.bool (hQ xs r)) (by omega) (λr h=>⟨r,n,xs,Q,ee,qq,rfl,(hr r h).1,(hr r h).2,PT,rfl⟩) ⟨rm.map (hQ xs),by rw [List.map_map]; rfl,bR q ?_⟩
 rw [List.all_map]
 rfl
end
theorem jL {α:Type} {as:List α} {k:Nat} {z:α} (h:k < as.length):as.getD k z∈as:=by
 rw [List.getD_eq_getElem?_getD,List.getElem?_eq_getElem h]
 exact List.getElem_mem _
theorem Z8 {u:List Int->D} {rows:List (List Int)} {k:Nat} (h:k < rows.length):yR (rows.map u) (k:Int)=some (u (rows.getD k [])):=by
 rw [uA]
 unfold yR ww
 rw [if_pos (by omega),if_pos (by omega)]
 show Option.map u rows[((k:Nat):Int).toNat]? = _
 rw [show ((k:Nat):Int).toNat=k by omega,List.getElem?_eq_getElem h,List.getD_eq_getElem?_getD,List.getElem?_eq_getElem h]
 rfl
theorem zLO {n:Nat} {xs:List Rat} {r:List Int} (lx:xs.length=n) (lr:r.length=n + 1):hQ xs r=true ↔ yz n (λj=>xs.getD j 0) r:=by
 unfold hQ yz
 rw [decide_eq_true_iff,lx,WC _ _ (by rw [List.length_take]; omega),lx,vN (g:=λj=>(r.getD j 0:Rat) * xs.getD j 0) λj hj=>?_]
 rw [show (r.take n).getD j 0=r.getD j 0 by rw [List.getD_eq_getElem?_getD,List.getElem?_take,if_pos hj,List.getD_eq_getElem?_getD]]
theorem Z9 {lo hi p w:Int} (h:lo<=hi) (p1:1<=p) (w0:0<=w) (wp:w<=p):(lo:Rat)<=((lo * (p - w) + hi * w:Int):Rat) / (p:Rat)/\((lo * (p - w) + hi * w:Int):Rat) / (p:Rat)<=(hi:Rat):=by
 have p0:(0:Rat) < (p:Rat):=by exact_mod_cast (show 0 < p by omega)
 have pn:(p:Rat)≠0:=λz=>by rw [z] at p0; exact Rat.lt_irrefl p0
 have e:((lo * (p - w) + hi * w:Int):Rat) / (p:Rat) * (p:Rat)=((lo * (p - w) + hi * w:Int):Rat):=by
  rw [Rat.div_def,Rat.mul_assoc,Rat.inv_mul_cancel _ pn,Rat.mul_one]
 have d0:0<=(hi - lo) * w:=Int.mul_nonneg (by omega) w0
 have d1:0<=(hi - lo) * (p - w):=Int.mul_nonneg (by omega) (by omega)
 constructor
 ·refine Rat.le_of_mul_le_mul_right (c:=(p:Rat)) ?_ p0
  rw [e,<- Rat.intCast_mul]
  exact_mod_cast (show lo * p<=lo * (p - w) + hi * w by grind)
 ·refine Rat.le_of_mul_le_mul_right (c:=(p:Rat)) ?_ p0
  rw [e,<- Rat.intCast_mul]
  exact_mod_cast (show lo * (p - w) + hi * w<=hi * p by grind)
theorem YA {a p:Int} {e:Nat} (b:Bd e a) (p1:1<=p) (p4:p<=4):xi 12 (e + 4) ((a:Rat) / (p:Rat)):=by
 obtain ⟨c,hc,bc⟩:∃ c:Int,p * c=12/\Bd 4 c:=by
  rcases (show p=1\/p=2\/p=3\/p=4 by omega) with rfl | rfl | rfl | rfl
  ·exact ⟨12,rfl,Bd.lit⟩
  ·exact ⟨6,rfl,Bd.lit⟩
  ·exact ⟨4,rfl,Bd.lit⟩
  ·exact ⟨3,rfl,Bd.lit⟩
 have pn:(p:Rat)≠0:=by exact_mod_cast (show p≠0 by omega)
 refine ⟨a * c,?_,b.mul bc⟩
 have e12:((12:Nat):Rat)=(p:Rat) * (c:Rat):=by
  rw [<- Rat.intCast_mul,hc]
  rfl
 rw [e12,Rat.intCast_mul,Rat.div_def]
 have i:=Rat.inv_mul_cancel _ pn
 grind
def J3:FL:=λds R=>∃ (c:Int) (bs:List (Int × Int)),ds=[.int c,.lst (bs.map yD)]/\bs.length<=3/\(∀ b∈bs,b.1<=b.2/\Bd 105 b.1/\Bd 105 b.2)/\∀ xs:List Rat,xs.length=bs.length->(∀ i (h:i < bs.length),((bs[i].1:Int):Rat)<=xs.getD i 0/\xs.getD i 0<=((bs[i].2:Int):Rat))->(∀ x∈xs,xi 12 120 x)->R (dP xs)
def WE (m:MD) (xs us:List Rat) (i:Nat):Rat:=(yo (m.nexts.getD i []) xs + yo (m.push.getD i []) us + (m.add.getD i 0:Rat)) / (m.div:Rat)
def xY (m:MD) (n:Nat) (xs us:List Rat):List Rat:=(List.range n).map (WE m xs us)
def YB:FL:=λds R=>∃ m n p xs us Q e q,ds=[yg m,dP xs,dQ 0,dP us]/\xT m n p/\qu 200 m/\Bd 3 m.div/\vZ n xs Q e q/\vZ p us Q e q/\e<=13000/\2 + q<=e/\R (dP (xY m n xs us))
theorem YC (x:Rat) {d:Int} (d1:1<=d):(x.num:Rat) / ((((x.den:Nat):Int) * d:Int):Rat)=x / (d:Rat):=by
 have h:=Js x
 have xd:(x.den:Rat)≠0:=by exact_mod_cast x.den_nz
 have dn:(d:Rat)≠0:=by exact_mod_cast (show d≠0 by omega)
 have pn:((((x.den:Nat):Int) * d:Int):Rat)≠0:=by exact_mod_cast Int.ne_of_gt (Int.mul_pos (ur x) (show 0 < d by omega))
 have i1:=Rat.mul_inv_cancel _ xd
 have i2:=Rat.mul_inv_cancel _ dn
 have i3:=Rat.mul_inv_cancel _ pn
 rw [h,Rat.div_def,Rat.div_def]
 have ec:((((x.den:Nat):Int) * d:Int):Rat)=(x.den:Rat) * (d:Rat):=by rw [Rat.intCast_mul]; rfl
 rw [ec] at i3 |-
 grind
theorem zO5 (s a:Int):yo [s,a] [0,1]=(a:Rat):=by
 show (s:Rat) * 0 + ((a:Rat) * 1 + 0)=_
 grind
theorem zNc {α:Type} {l:List α} {f:α->D} {k:Nat} (z:α) (h:l.length=k + 1):yR (l.map f) (-1)=some (f (l.getD k z)):=by
 rw [uA]
 unfold yR ww
 rw [if_neg (by decide),if_pos (by omega)]
 show Option.map f l[((-1:Int) + (l.length:Int)).toNat]? = _
 rw [show ((-1:Int) + (l.length:Int)).toNat=k by omega,List.getElem?_eq_getElem (by omega),List.getD_eq_getElem?_getD,List.getElem?_eq_getElem (by omega)]
 rfl
def YD (n:Nat) (bs:List (Int × Int)) (ms:List MD) (ps:List (List Rat)):Prop:=∀ t,t + 1 < ps.length->WB n bs ms (λj=>(ps.getD t []).getD j 0) (λj=>(ps.getD (t + 1) []).getD j 0)
def gB:D->List (List Int)
 | .tup (.lst rs :: _)=>rs.map zf
 | _=>[]
theorem zNq (m:MD):gB (yg m)=m.rows:=by
 show (m.rows.map U).map zf=_
 rw [List.map_map]
 exact (List.map_congr_left λr _=>uj r).trans (List.map_id _)
theorem zNZ {n:Nat} {bs:List (Int × Int)} {ms:List MD} {m:MD} {xs us:List Rat} (hm:m∈ms) (MO:xT m n bs.length) (lx:xs.length=n) (lu:us.length=bs.length) (hr:m.rows.all (hQ xs)=true) (hu:∀ i (h:i < bs.length),((bs[i].1:Int):Rat)<=us.getD i 0/\us.getD i 0<=((bs[i].2:Int):Rat)):WB n bs ms (λj=>xs.getD j 0) (λj=>(xY m n xs us).getD j 0):=by
 refine ⟨m,hm,λj=>us.getD j 0,λr h=>(zLO lx (MO.rows r h)).mp (List.all_eq_true.mp hr r h),hu,λi hi=>?_⟩
 have e:(xY m n xs us).getD i 0=WE m xs us i:=by
  unfold xY
  rw [List.getD_eq_getElem?_getD,List.getElem?_map,List.getElem?_range hi]
  rfl
 have dn:(m.div:Rat)≠0:=by exact_mod_cast (show m.div≠0 by have:=MO.div; omega)
 have l1:(m.nexts.getD i []).length=n:=MO.nexts.2 _ (jL (by rw [MO.nexts.1]; exact hi))
 have l2:(m.push.getD i []).length=bs.length:=MO.push.2 _ (jL (by rw [MO.push.1]; exact hi))
 show (xY m n xs us).getD i 0 * (m.div:Rat)=_
 rw [e]
 unfold WE
 rw [Rat.div_def,Rat.mul_assoc,Rat.inv_mul_cancel _ dn,Rat.mul_one,WC _ _ (by omega),WC _ _ (by omega),lx,lu]
theorem zPB {n p Q e q P:Nat} {m:MD} {xs us:List Rat} (MO:xT m n p) (MB:qu 200 m) (X:vZ n xs Q e q) (Us:vZ p us Q e q) (qe:2 + q<=e) (hP:0 < P) (dP:(P:Int)=m.div) (bd:Bd 3 m.div) (b1:e + 215<=15000) (b2:q + 3<=3000):vZ n (xY m n xs us) (Q * P) (e + 215) (q + 3):=by
 have n3:=X.n3
 have p3:=Us.n3
 refine ⟨by unfold xY; rw [List.length_map,List.length_range],n3,Nat.mul_pos X.Q0 hP,?_,b2,b1,λy hy=>?_⟩
 ·rw [Int.natCast_mul,dP]
  exact X.bQ.mul bd
 ·obtain ⟨i,hi,rfl⟩:=List.mem_map.mp hy
  have hi:=List.mem_range.mp hi
  have h1:=qK (c:=200) (ws:=m.nexts.getD i []) (xs:=xs) (λw h=>MB.nexts _ (jL (by rw [MO.nexts.1]; exact hi)) w h) X.sz
  have h2:=qK (c:=200) (ws:=m.push.getD i []) (xs:=us) (λw h=>MB.push _ (jL (by rw [MO.push.1]; exact hi)) w h) Us.sz
  have h3:=Jt (vv MB.add i) X.bQ
  have lx:=X.len
  have lu:=Us.len
  have s1:=Z3 (Z3 (vi h1 (show _<=e + 204 by omega)) (vi h2 (show _<=e + 204 by omega))) (vi h3 (show _<=e + 204 + 1 by omega))
  have s2:=zPW (vi s1 (show _<=e + 215 by omega)) (show 1<=m.div by omega)
  rw [show m.div.toNat=P by omega] at s2
  exact s2
def YE:FL:=λds R=>∃ n bs ms u xs cs,ds=[xw n bs ms u,dP xs,L cs]/\wU n bs ms/\(∀ m∈ms,qu 200 m/\Bd 3 m.div)/\(∀ b∈bs,Bd 105 b.1/\Bd 105 b.2)/\bs.length<=2/\ms.length<=3/\cs.length<=30/\xs.length=n/\(∀ x∈xs,xi 12 120 x)/\∀ ps:List (List Rat),1<=ps.length->ps.length<=31->ps.getD 0 []=xs->YD n bs ms ps->(∀ p∈ps,∃ Q e q,vZ n p Q e q)->R (.lst (ps.map dP))
section
variable {P:Program} {w:World} {K:PySem.W.Frag} {mg:Str->Option Value} {base:Heap}
abbrev J4:Stmt:=zk 82
theorem jM:zb ["_law_cell","_law_box_here","_law_xs","_law_parts_here","_law_point_here","_law_k","_law_low","_law_high","_law_share"] ["_law_cell","_law_box_here"] (zL J4):=.a
abbrev J5:Stmt:=zk 95
theorem uL:zb ["_law_mode_here","_law_point_here","_law_steering","_law_pushes","_law_rows_here","_law_nexts","_law_steer","_law_push","_law_add","_law_divisor_here","_law_found","_law_i","_law_value"] ["_law_mode_here","_law_point_here","_law_steering","_law_pushes"] (zL J5):=.a
abbrev WF:Stmt:=zk 96
theorem uV:zb ["_law_spec","_law_point_here","_law_cells","_law_many","_law_pushes","_law_modes","_law_unit","_law_points","_law_cell","_law_ways","_law_mode_here","_law_drawn"] ["_law_spec","_law_point_here","_law_cells"] (zL WF):=.a
variable {aClaim aSettles aComes ag ah aPaper aRooms aFalls:Addr} (TClaim:zE K mg "Claim" aClaim) (AClaim:wc K aClaim) (TSettles:zE K mg "Settles" aSettles) (ASettles:wd K aSettles) (TComes:zE K mg "Comes" aComes) (AComes:we K aComes) (aa:zE K mg "Mode" ag) (ab:wf K ag) (ac:zE K mg "Thing" ah) (ae:wg K ah) (TPaper:zE K mg "Paper" aPaper) (APaper:wj K aPaper) (TRooms:zE K mg "Rooms" aRooms) (ARooms:wl K aRooms) (TFalls:zE K mg "Falls" aFalls) (AFalls:wm K aFalls)
include TClaim AClaim TSettles ASettles TComes AComes aa ab ac ae TPaper APaper TRooms ARooms TFalls AFalls
theorem zJc {k:Nat} {f:Addr} {fd:FuncData} (F:zc K "_law_point" "_law_point" J4 f fd) (B:Bl mg) (ak:Fn P w K mg base "_law_stream" ["_law_cell","_law_many"] k (zJ (j7))) (ay:Fn P w K mg base "_law_lowest" ["_law_top_here","_law_bottom"] k (zJ (uq))):zG P w K mg base zX (k + 1) f fd ["_law_cell","_law_box_here"] (zJ (J3)):=by
 refine zu F jM (λds R h=>by obtain ⟨c,bs,rfl,_⟩:=h; rfl) λcdv A outer s H E hr=>⟨_,(zK (ze 2 jM.nd rfl (Or.inl rfl) (zP ak hr rfl (zB (zA 0) (zB (zh (zq yV yX rfl B.len_ yW (zB (zA 1) zC)) zD) zC))))
  (zK (ze 3 jM.nd rfl (Or.inl rfl) (zh zD (ye (zR (zA 2) (xQ zD) (λ_ _=>rfl)) zD)))
  (zK (wZ 4 jM.nd rfl (Or.inl rfl) zC)
  (zK (xW PassesOwn.never rfl (xE rfl B.range_ (zB (zq yV yX rfl B.len_ yW (zB (zA 1) zC)) zC)) (zt 5 jM.nd rfl (Or.inl rfl)) (zK (uS (zR (zA 1) (zA 5) (λ_ _=>rfl)) (xh rfl (zm 6 jM.nd rfl (Or.inl rfl) (zm 7 jM.nd rfl (Or.inl rfl) xf))))
   (zK (ze 8 jM.nd rfl (Or.inl rfl) (zR (yh (zB zD (zB (zA 3) (zB (ye (zR (zA 2) (zA 5) (λ_ _=>rfl)) (zh (zA 3) zD)) zC)))) (ye (xq (zR (zA 2) (zA 5) (λ_ _=>rfl)) zD) zD) (λ_ _=>rfl)))
   (zM (yA (xa (xl PySem.F.plainAttrs_list PySem.F.slot_list_append PySem.F.type_list_append yO (yU 4) (zo (zP ay hr rfl (zB (zh (ya (zA 6) (xc (zA 3) (zA 8))) (ya (zA 7) (zA 8))) (zB (zA 3) zC))) yJ))) xr)))))
  (zM (wG 4 (zV (zA 4)))))))),λds R h=>?_⟩
 obtain ⟨c,bs,rfl,l3,hb,q⟩:=h
 have lb:(List.map yD bs).length=bs.length:=List.length_map ..
 refine ⟨c,bs.length + 1,by rw [show (((bs.length + 1:Nat)):Int)=((bs.map yD).length:Int) + 1 by omega],by omega,λxs lx hx=>?_⟩
 refine ⟨_,jx lx,by decide,?_⟩
 have m4:=md (xs.getD bs.length 0) (show (0:Int) < 4 by decide)
 obtain ⟨p,hp⟩:∃ p,p=1 + (xs.getD bs.length 0).fmod 4:=⟨_,rfl⟩
 have p1:1<=p:=by omega
 have p4:p<=4:=by omega
 have bp:Bd 3 p:=vA (f:=7) (by decide) (by omega) (by omega)
 refine ⟨k0,by omega,by omega,?_⟩
 rw [show ((List.length (List.map yD bs):Nat):Int).toNat=bs.length by omega]
 refine ⟨λk Γ=>∃ (ys:List Rat) (s5 s6 s7 s8:Sl),Γ=[.sh (.int c),.sh (.lst (bs.map yD)),.sh (L xs),.sh (.int p),.ow (ys.map dQ),s5,s6,s7,s8]/\ys.length=k/\(∀ i (h:i < bs.length),i < k->((bs[i].1:Int):Rat)<=ys.getD i 0/\ys.getD i 0<=((bs[i].2:Int):Rat))/\∀ y∈ys,xi 12 120 y,⟨[],.no,.no,.no,.no,by rw [hp]; rfl,rfl,λ_ _ h=>absurd h (Nat.not_lt_zero _),λ_ h=>nomatch h⟩,?_,?_⟩
 ·rintro k d Γ' hk ⟨ys,s5,s6,s7,s8,rfl,ly,hy,sy⟩
  obtain ⟨kn,rfl⟩:=vI hk
  obtain ⟨h1,h2,h3⟩:=hb _ (List.getElem_mem kn)
  refine ⟨_,JQ kn rfl,?_⟩
  refine xM (by omega) (by omega) λx1 _=>⟨by omega,k0,xM (by omega) (by omega) λx2 _=>⟨by decide,(Bd.lit (i:=8) (n:=4)).mono,by decide,wq (md _ (by decide)).1 (by have:=md (x2.fdiv 8) (show (0:Int) < 3 by decide); show (x2.fdiv 8).fmod 3 < 3; omega) λz hz=>?_⟩⟩
  obtain ⟨w,rfl,w0,wp⟩:∃ w,z=.int w/\0<=w/\w<=p:=by
   have:=md x1 (show (0:Int) < p + 1 by omega)
   simp only [List.mem_cons,List.not_mem_nil,or_false] at hz
   rcases hz with rfl | rfl | rfl
   ·exact ⟨_,rfl,by decide,by omega⟩
   ·exact ⟨_,rfl,by omega,by omega⟩
   ·exact ⟨_,rfl,by omega,by omega⟩
  have bw:Bd 3 w:=vA (f:=7) (by decide) (by omega) (by omega)
  have bpw:Bd 3 (p - w):=vA (f:=7) (by decide) (by omega) (by omega)
  refine ⟨h2.mono,bpw.mono,h3.mono,bw.mono,_,_,rfl,by omega,bp.mono,by rw [List.length_map]; omega,?_⟩
  have bq:=Z9 h1 p1 w0 wp
  refine ⟨ys++[((bs[k].1 * (p - w) + bs[k].2 * w:Int):Rat) / (p:Rat)],.sh (.int (k:Int)),.sh (.int bs[k].1),.sh (.int bs[k].2),.sh (.int w),by rw [List.map_append]; rfl,by rw [List.length_append,ly]; rfl,λi hi ik=>?_,wN sy (vi (YA ((h2.mul bpw).add (h3.mul bw)) p1 p4) (by decide))⟩
  by_cases e:i < k
  ·rw [List.getD_eq_getElem?_getD,List.getElem?_append_left (by omega),<- List.getD_eq_getElem?_getD]
   exact hy i hi e
  ·have e:i=k:=by omega
   subst e
   rw [List.getD_eq_getElem?_getD,List.getElem?_append_right (by omega),ly,Nat.sub_self]
   exact bq
 ·rintro Γ' ⟨ys,s5,s6,s7,s8,rfl,ly,hy,sy⟩
  rw [vJ] at ly hy
  exact q ys ly (λi h=>hy i h h) sy
theorem zID {k:Nat} {f:Addr} {fd:FuncData} (F:zc K "_law_behind" "_law_behind" J5 f fd) (B:Bl mg) (aE:Fn P w K mg base "_law_plus" ["_law_one","_law_other_here"] k (zJ (Ju))) (aA:Fn P w K mg base "_law_along" ["_law_numbers","_law_values"] k (zJ (Jv))) (ay:Fn P w K mg base "_law_lowest" ["_law_top_here","_law_bottom"] k (zJ (uq))):zG P w K mg base zX (k + 1) f fd ["_law_mode_here","_law_point_here","_law_steering","_law_pushes"] (zJ (YB)):=by
 refine zu F uL (λds R h=>by obtain ⟨m,n,p,xs,us,Q,ee,qq,rfl,_⟩:=h; rfl) λcdv A outer s H E hr=>⟨_,(zK (uS (zA 0) (xh rfl (zm 4 uL.nd rfl (Or.inl rfl) (zm 5 uL.nd rfl (Or.inl rfl) (zm 6 uL.nd rfl (Or.inl rfl) (zm 7 uL.nd rfl (Or.inl rfl) (zm 8 uL.nd rfl (Or.inl rfl) (zm 9 uL.nd rfl (Or.inl rfl) xf))))))))
  (zK (wZ 10 uL.nd rfl (Or.inl rfl) zC)
  (zK (xW PassesOwn.never rfl (xE rfl B.range_ (zB (zq yV yX rfl B.len_ yW (zB (zA 1) zC)) zC)) (zt 11 uL.nd rfl (Or.inl rfl)) (zK (ze 12 uL.nd rfl (Or.inl rfl) (zP aE hr rfl (zB (zP aA hr rfl (zB (zR (zA 5) (zA 11) (λ_ _=>rfl)) (zB (zA 1) zC))) (zB (zP aA hr rfl (zB (zR (zA 7) (zA 11) (λ_ _=>rfl)) (zB (zA 3) zC))) zC))))
   (zK (ze 12 uL.nd rfl (Or.inl rfl) (zP aE hr rfl (zB (zA 12) (zB (zP aA hr rfl (zB (yh (zB (zR (zA 6) (zA 11) (λ_ _=>rfl)) (zB (zR (zA 8) (zA 11) (λ_ _=>rfl)) zC))) (zB (yh (zB (zA 2) (zB (xU (zB zD (zB zD zC))) zC))) zC))) zC))))
   (zM (yA (xa (xl PySem.F.plainAttrs_list PySem.F.slot_list_append PySem.F.type_list_append yO (yU 10) (zo (zP ay hr rfl (zB (zR (zA 12) zD (λ_ _=>rfl)) (zB (ya (zR (zA 12) zD (λ_ _=>rfl)) (zA 9)) zC))) yJ))) xr)))))
  (zM (wG 10 (zV (zA 10))))))),λds R h=>?_⟩
 obtain ⟨m,n,p,xs,us,Q,ee,qq,rfl,MO,MB,bd,X,Us,e1,qe,q⟩:=h
 have lx:=X.len
 have lu:=Us.len
 have n3:=X.n3
 have p3:=Us.n3
 have q1:=X.q1
 have d1:=MO.div
 have lm:(List.map dQ xs).length=n:=by rw [List.length_map]; exact lx
 refine ⟨k0,by omega,by omega,?_⟩
 rw [show ((List.length (List.map dQ xs):Nat):Int).toNat=n by omega]
 refine ⟨λk Γ=>∃ (s11 s12:Sl),Γ=[.sh (yg m),.sh (dP xs),.sh (dQ 0),.sh (dP us),.sh (Rm m.rows),.sh (Tb m.nexts),.sh (L m.steer),.sh (Tb m.push),.sh (L m.add),.sh (.int m.div),.ow (((List.range k).map (WE m xs us)).map dQ),s11,s12],⟨.no,.no,rfl⟩,?_,?_⟩
 ·rintro k d Γ' hk ⟨s11,s12,rfl⟩
  obtain ⟨kn,rfl⟩:=vI hk
  have k1:k < m.nexts.length:=by rw [MO.nexts.1]; exact kn
  have k2:k < m.push.length:=by rw [MO.push.1]; exact kn
  have b1:∀ w∈m.nexts.getD k [],Bd 200 w:=MB.nexts _ (jL k1)
  have b2:∀ w∈m.push.getD k [],Bd 200 w:=MB.push _ (jL k2)
  have z1:=qK b1 X.sz
  have z2:=qK b2 Us.sz
  have s1:=Z3 (vi z1 (show _<=ee + 204 by omega)) (vi z2 (show _<=ee + 204 by omega))
  have z3:=Jt (vv MB.add k) X.bQ
  have s2:=Z3 s1 (vi z3 (show _<=ee + 204 + 1 by omega))
  have y1:=wr X.Q0 X.bQ z1
  have y2:=wr X.Q0 X.bQ z2
  have y3:=wr X.Q0 X.bQ z3
  have y4:=wr X.Q0 X.bQ s1
  have y5:=wr X.Q0 X.bQ s2
  have P2:vZ 2 [0,1] Q ee qq:=⟨rfl,by decide,X.Q0,X.bQ,X.q1,X.e1,λx hx=>by
   rcases List.mem_cons.mp hx with rfl | hx
   ·exact qJ _ _
   ·rw [List.mem_singleton.mp hx]
    exact vi (Jt (w:=1) (e:=1) Bd.lit X.bQ) (by omega)⟩
  refine ⟨_,Z8 k1,_,_,n,xs,Q,ee,qq,rfl,.inl rfl,MO.nexts.2 _ (jL k1),λw h=>(b1 w h).mono,X,?_⟩
  refine ⟨_,Z8 k2,_,_,p,us,Q,ee,qq,rfl,.inl rfl,MO.push.2 _ (jL k2),λw h=>(b2 w h).mono,Us,?_⟩
  refine ⟨_,_,_,_,rfl,ur _,ur _,y1.1.mono (by omega),y1.2.mono (by omega),y2.1.mono (by omega),y2.2.mono (by omega),?_⟩
  rw [qL,qL]
  refine ⟨_,wH (j:=k) (by rw [MO.steer]; exact kn) rfl,_,wH (j:=k) (by rw [MO.add]; exact kn) rfl,k0,k0,k0,_,[m.steer.getD k 0,m.add.getD k 0],2,[0,1],Q,ee,qq,rfl,.inl rfl,rfl,λw hw=>?_,P2,?_⟩
  ·rcases List.mem_cons.mp hw with rfl | hw
   ·exact (vv MB.steer k).mono
   ·rw [List.mem_singleton.mp hw]
    exact (vv MB.add k).mono
  rw [zO5]
  refine ⟨_,_,_,_,rfl,ur _,ur _,y4.1.mono (by omega),y4.2.mono (by omega),y3.1.mono (by omega),y3.2.mono (by omega),?_⟩
  rw [qL,qL]
  refine ⟨_,rfl,_,rfl,y5.2.mono (by omega),bd.mono,_,_,rfl,Int.mul_pos (ur _) (by omega),(y5.2.mul bd).mono (by omega),by rw [List.length_map,List.length_map,List.length_range]; omega,.sh (.int (k:Int)),.sh (dQ (yo (m.nexts.getD k []) xs + yo (m.push.getD k []) us + (m.add.getD k 0:Rat))),?_⟩
  rw [YC _ d1,List.range_succ,List.map_append,List.map_append]
  rfl
 ·rintro Γ' ⟨s11,s12,rfl⟩
  rw [vJ]
  exact q
theorem zM4 {k:Nat} {f:Addr} {fd:FuncData} (F:zc K "_law_run" "_law_run" WF f fd) (B:Bl mg) (aI:Fn P w K mg base "_law_lies" ["_law_room","_law_point_here"] k (zJ (Jw))) (aJ:Fn P w K mg base "_law_point" ["_law_cell","_law_box_here"] k (zJ (J3))) (bZ:Fn P w K mg base "_law_behind" ["_law_mode_here","_law_point_here","_law_steering","_law_pushes"] k (zJ (YB))):zG P w K mg base zX (k + 1) f fd ["_law_spec","_law_point_here","_law_cells"] (zJ (YE)):=by
 refine zu F uV (λds R h=>by obtain ⟨n,bs,ms,u,xs,cs,rfl,_⟩:=h; rfl) λcdv A outer s H E hr=>⟨_,(zK (uS (zA 0) (xh rfl (zm 3 uV.nd rfl (Or.inl rfl) (zm 4 uV.nd rfl (Or.inl rfl) (zm 5 uV.nd rfl (Or.inl rfl) (zm 6 uV.nd rfl (Or.inl rfl) xf))))))
  (zK (wZ 7 uV.nd rfl (Or.inr rfl) (zB (zA 1) zC))
  (zK (xW PassesOwn.never rfl (yS (zA 2)) (zt 8 uV.nd rfl (Or.inl rfl)) (zK (zKd 7 9 uV.nd rfl rfl (own:=["_law_mode_here"]) (caps:=[(7,"_law_points")]) (yC (S:=zL WF) (N:=["_law_spec","_law_point_here","_law_cells","_law_many","_law_pushes","_law_modes","_law_unit","_law_points","_law_cell","_law_ways","_law_mode_here","_law_drawn"]) rfl (by decide +kernel) rfl ⟨_,rfl⟩ rfl (by decide +kernel) (by decide +kernel)) rfl rfl yF (yS (zA 5)) (λ_ _ _ _=>(zt 0 (show (["_law_mode_here","_law_points"]:List Str).Nodup by decide +kernel) rfl (Or.inl rfl))) (λ_ _ _ _=>(yb (zP aI hr rfl (zB (zR (zA 0) zD (λ_ _=>rfl)) (zB (zR (zA 1) (xQ zD) (λ_ _=>rfl)) zC))))) (λ_ _ _ _=>(zA 0)) rfl)
   (zK (yI (wz hr.units (zA 9) (yh zC)) (zM zKe) yH)
   (zK (ze 10 uV.nd rfl (Or.inl rfl) (zR (zA 9) (ye (zA 8) (zq yV yX rfl B.len_ yW (zB (zA 9) zC))) (λ_ _=>rfl)))
   (zK (ze 11 uV.nd rfl (Or.inl rfl) (zP aJ hr rfl (zB (xq (zA 8) zD) (zB (zA 4) zC))))
   (zM (yA (xa (xl PySem.F.plainAttrs_list PySem.F.slot_list_append PySem.F.type_list_append yO (yU 7) (zo (zP bZ hr rfl (zB (zA 10) (zB (zNs 7 (xQ zD) (λ_ _=>rfl)) (zB (xU (zB zD (zB zD zC))) (zB (zA 11) zC))))) yJ))) xr)))))))
  (zM (wG 7 (zV (zA 7))))))),λds R h=>?_⟩
 obtain ⟨n,bs,ms,u,xs,cs,rfl,OK,hms,hbs,b2,m3,l30,lx,sx,q⟩:=h
 have n3:=OK.n3
 have lm:(List.map yg ms).length=ms.length:=List.length_map ..
 have hb3:∀ b∈bs,b.1<=b.2/\Bd 105 b.1/\Bd 105 b.2:=λb hb=>⟨OK.bok b hb,hbs b hb⟩
 have P0s:vZ n xs (12 * 1) (130 + 215 * 0) (3 * 0 + 5):=⟨lx,n3,by decide,(show Bd 5 (12:Int) from Bd.lit),by decide,by decide,λx hx=>vi (sx x hx) (by decide)⟩
 refine ⟨k0,?_⟩
 refine ⟨λk Γ=>∃ (ps:List (List Rat)) (s8 s9 s10 s11:Sl),Γ=[.sh (xw n bs ms u),.sh (dP xs),.sh (L cs),.sh (.int (n:Int)),.sh (.lst (bs.map yD)),.sh (.lst (ms.map yg)),.sh (.int u),.ow (ps.map dP),s8,s9,s10,s11]/\ps.length=k + 1/\ps.getD 0 []=xs/\YD n bs ms ps/\(∀ p∈ps,∃ Q e q,vZ n p Q e q)/\∃ P:Nat,0 < P/\Bd (3 * k + 1) (P:Int)/\vZ n (ps.getD k []) (12 * P) (130 + 215 * k) (3 * k + 5),⟨[xs],.no,.no,.no,.no,rfl,rfl,rfl,λt h=>absurd h (by show ¬ t + 1 < 1; omega),λp hp=>by rw [List.mem_singleton.mp hp]; exact ⟨_,_,_,P0s⟩,1,by decide,(show Bd 1 (1:Int) from Bd.lit),P0s⟩,?_,?_⟩
 ·rintro k d Γ' hk ⟨ps,s8,s9,s10,s11,rfl,lp,p0,RL,szs,P,P0,bP,PT⟩
  obtain ⟨c,hc,rfl⟩:=gW hk
  have kl:k < 30:=by have:=(List.getElem?_eq_some_iff.mp hc).1; omega
  have hl:yR (ps.map dP) (-1)=some (dP (ps.getD k [])):=zNc [] lp
  obtain ⟨x,hx⟩:∃ x,x=ps.getD k []:=⟨_,rfl⟩
  rw [<- hx] at PT hl
  refine jE.keep (λd=>(gB d).all (hQ x)) (by omega) (λd hd=>?_) (λd hd=>?_) ?_
  ·obtain ⟨m,hm,rfl⟩:=List.mem_map.mp hd
   have MO:=OK.mok m hm
   have MB:=(hms m hm).1
   rw [zNq]
   exact ⟨_,rfl,_,hl,m.rows,n,x,_,_,_,rfl,MO.few,λr hr=>⟨MO.rows r hr,λw hw=>(MB.rows r hr w hw).mono⟩,PT,rfl⟩
  ·obtain ⟨m,hm,rfl⟩:=List.mem_map.mp hd
   exact rfl
  rw [zLV]
  refine ⟨k0,zNx _,rfl,w2 (λc1=>q ps (by omega) (by omega) p0 RL szs) λc1=>?_⟩
  rw [qi] at c1
  have hn:1<=((ms.filter λm=>(gB (yg m)).all (hQ x)).map yg).length:=by
   cases h:(ms.filter λm=>(gB (yg m)).all (hQ x)).map yg with
   | nil=>rw [h] at c1; cases c1
   | cons=>exact Nat.succ_le_succ (Nat.zero_le _)
  have mm:=md c (show (0:Int) < (((ms.filter λm=>(gB (yg m)).all (hQ x)).map yg).length:Int) by omega)
  refine ⟨by omega,wq mm.1 mm.2 λd hd=>?_⟩
  obtain ⟨m,hm,rfl⟩:=List.mem_map.mp hd
  obtain ⟨hm1,hm2⟩:=List.mem_filter.mp hm
  rw [zNq] at hm2
  have MO:=OK.mok m hm1
  obtain ⟨MB,bdv⟩:=hms m hm1
  have d1:=MO.div
  refine ⟨by decide,(Bd.lit (i:=3) (n:=2)).mono,c.fdiv 3,bs,rfl,by omega,hb3,λus lu hu su=>?_⟩
  have PU:vZ bs.length us (12 * P) (130 + 215 * k) (3 * k + 5):=⟨lu,by omega,PT.Q0,PT.bQ,PT.q1,PT.e1,λx hx=>vi (Z4 (su x hx) bP) (by omega)⟩
  refine ⟨_,hl,k0,m,n,bs.length,x,us,12 * P,130 + 215 * k,3 * k + 5,rfl,MO,MB,bdv,PT,PU,by omega,by omega,by rw [List.length_map]; omega,?_⟩
  have PN:=zPB (P:=m.div.toNat) MO MB PT PU (by omega) (by omega) (by omega) bdv (by omega) (by omega)
  rw [Nat.mul_assoc] at PN
  have gl:∀ t,t < k + 1->(ps++[xY m n x us]).getD t []=ps.getD t []:=λt ht=>by rw [List.getD_eq_getElem?_getD,List.getElem?_append_left (by omega),List.getD_eq_getElem?_getD]
  have ge:(ps++[xY m n x us]).getD (k + 1) []=xY m n x us:=by
   rw [List.getD_eq_getElem?_getD,List.getElem?_append_right (by omega),lp,Nat.sub_self]
   rfl
  refine ⟨ps++[xY m n x us],.sh (.int c),.sh (.lst ((ms.filter λm=>(gB (yg m)).all (hQ x)).map yg)),.sh (yg m),.sh (dP us),by rw [List.map_append]; rfl,by rw [List.length_append,lp]; rfl,by rw [gl 0 (by omega)]; exact p0,λt ht=>?_,λp hp=>?_,P * m.div.toNat,Nat.mul_pos P0 (by omega),?_,?_⟩
  ·rw [List.length_append,lp] at ht
   have ht:t + 1 < k + 1 + 1:=ht
   by_cases e:t + 1 < k + 1
   ·rw [gl t (by omega),gl (t + 1) e]
    exact RL t (by omega)
   ·have e:t=k:=by omega
    subst e
    rw [gl t (by omega),ge,<- hx]
    exact zNZ hm1 MO PT.len lu hm2 hu
  ·rcases List.mem_append.mp hp with hp | hp
   ·exact szs p hp
   ·rw [List.mem_singleton.mp hp]
    exact ⟨_,_,_,PN⟩
  ·rw [Int.natCast_mul,show ((m.div.toNat:Nat):Int)=m.div by omega]
   exact (bP.mul bdv).mono (by omega)
  ·rw [ge]
   exact ⟨PN.len,PN.n3,PN.Q0,PN.bQ.mono (by omega),by omega,by omega,λx hx=>vi (PN.sz x hx) (by omega)⟩
 ·rintro Γ' ⟨ps,s8,s9,s10,s11,rfl,lp,p0,RL,szs,_⟩
  rw [List.length_map] at lp
  exact q ps (by omega) (by omega) p0 RL szs
end
def ut (len back:Nat):Nat->Nat
 | 0=>0
 | k + 1=>if ut len back k + 1 < len then ut len back k + 1 else back
theorem YF {len back:Nat} (h0:0 < len) (hb:back < len):∀ k,ut len back k < len
 | 0=>h0
 | k + 1=>by
  show (if ut len back k + 1 < len then ut len back k + 1 else back) < len
  split <;> omega
theorem zQe {len back:Nat}:∀ k,min k back<=ut len back k
 | 0=>by show min 0 back<=0; omega
 | k + 1=>by
  have:=zQe (len:=len) (back:=back) k
  show min (k + 1) back<=(if ut len back k + 1 < len then ut len back k + 1 else back)
  split <;> omega
theorem zNM {n:Nat} {bs:List (Int × Int)} {ms:List MD} {rooms:List (List (List Int))} {b:Nat} {A:D} (h:qr n bs ms rooms b A=true) {i:Nat} (hi:i < rooms.length):∃ a,jG n bs ms (rooms.getD i []) (rooms.getD (if i + 1 < rooms.length then i + 1 else b) []) a=true:=by
 cases A with
 | lst as=>
  have h:(decide ((as.length:Int)=(rooms.length:Int)) && (rooms.zip ((rooms.drop 1++[rooms.getD b []]).zip as)).all λp=>jG n bs ms p.1 p.2.1 p.2.2)=true:=h
  rw [Bool.and_eq_true] at h
  have l:=of_decide_eq_true h.1
  have lf:(rooms.drop 1++[rooms.getD b []]).length=rooms.length:=by rw [List.length_append,List.length_drop]; show _ + 1=_; omega
  have l2:i < ((rooms.drop 1++[rooms.getD b []]).zip as).length:=by rw [List.length_zip]; omega
  have hz:(rooms[i],((rooms.drop 1++[rooms.getD b []]).zip as)[i])∈rooms.zip ((rooms.drop 1++[rooms.getD b []]).zip as):=List.mem_iff_getElem.mpr ⟨i,by rw [List.length_zip]; omega,by rw [List.getElem_zip]⟩
  have:=List.all_eq_true.mp h.2 _ hz
  rw [List.getElem_zip] at this
  have e1:rooms.getD i []=rooms[i]:=by rw [List.getD_eq_getElem?_getD,List.getElem?_eq_getElem hi]; rfl
  have e2:(rooms.drop 1++[rooms.getD b []])[i]'(by omega)=rooms.getD (if i + 1 < rooms.length then i + 1 else b) []:=by
   by_cases c:i + 1 < rooms.length
   ·rw [if_pos c,List.getElem_append_left (by rw [List.length_drop]; omega),List.getElem_drop,List.getD_eq_getElem?_getD,List.getElem?_eq_getElem c]
    show rooms[1 + i]=rooms[i + 1]
    congr 1
    omega
   ·rw [if_neg c,List.getElem_append_right (by rw [List.length_drop]; omega)]
    simp
  rw [e1,<- e2]
  exact ⟨_,this⟩
 | _=>cases h
theorem zPX {n f:Nat} {rooms:List (List (List Int))} {g:List (List Int)} {A:D} (h:qt n rooms f g A=true) {i:Nat} (hi:i < rooms.length) (hf:f<=i):∃ a,uF (rooms.getD i []) g n a=true:=by
 cases A with
 | lst as=>
  have h:(decide ((as.length:Int)=(rooms.length:Int)) && ((rooms.drop f).zip (as.drop f)).all λp=>uF p.1 g n p.2)=true:=h
  rw [Bool.and_eq_true] at h
  have l:=of_decide_eq_true h.1
  have hm:rooms.getD i []∈rooms.drop f:=by
   rw [List.getD_eq_getElem?_getD,List.getElem?_eq_getElem hi]
   exact List.mem_iff_getElem.mpr ⟨i - f,by rw [List.length_drop]; omega,by rw [List.getElem_drop]; show rooms[f + (i - f)]=rooms[i]; congr 1; omega⟩
  obtain ⟨a,ha⟩:=Jq (by rw [List.length_drop,List.length_drop]; omega) h.2 _ hm
  exact ⟨a,ha⟩
 | _=>cases h
theorem zOS {n:Nat} {bs:List (Int × Int)} {ms:List MD} {s g:List (List Int)} {t b:Int} {rooms:List (List (List Int))} {A1 A2 A3:D} {P:Nat->Nat->Rat} {N:Nat} (ok:∀ m∈ms,xT m n bs.length) (h:j4 n bs ms s g t rooms (.int b) A1 A2 A3=true) (lr:∀ rm∈rooms,∀ r∈rm,r.length=n + 1) (lg:∀ r∈g,r.length=n + 1) (t0:0<=t)
  (h0:∀ r∈s,yz n (P 0) r) (hs:∀ k,k + 1 < N->WB n bs ms (P k) (P (k + 1))):∀ k,k < N->t<=(k:Int)->∀ r∈g,yz n (P k) r:=by
 have h:(if b < 0\/(rooms.length:Int)<=b then false else uF s (rooms.getD 0 []) n A1 && (qr n bs ms rooms b.toNat A2 && qt n rooms (min b t).toNat g A3))=true:=h
 by_cases c:b < 0\/(rooms.length:Int)<=b
 ·rw [if_pos c] at h; cases h
 rw [if_neg c,Bool.and_eq_true,Bool.and_eq_true] at h
 obtain ⟨e1,e2,e3⟩:=h
 have bl:b.toNat < rooms.length:=by omega
 have il:=YF (len:=rooms.length) (back:=b.toNat) (by omega) bl
 have lri:∀ i,i < rooms.length->∀ r∈rooms.getD i [],r.length=n + 1:=λi hi=>lr _ (JH hi)
 have inR:∀ k,k < N->∀ r∈rooms.getD (ut rooms.length b.toNat k) [],yz n (P k) r:=by
  intro k
  induction k with
  | zero=>exact λ_=>Jr (lri 0 (by omega)) e1 h0
  | succ k ih=>
   intro hk
   obtain ⟨a,ha⟩:=zNM e2 (il k)
   exact zQX ok ha (lri _ (il k)) (lri _ (il (k + 1))) (ih (by omega)) (hs k hk)
 intro k hk tk
 obtain ⟨a,ha⟩:=zPX e3 (il k) (by have:=zQe (len:=rooms.length) (back:=b.toNat) k; omega)
 exact Jr lg ha (inR k hk)
theorem zO8 {α β:Type} (f:α->β) (xs:List α) (lo hi:Option Int):zU (xs.map f) lo hi=(zU xs lo hi).map f:=by
 unfold zU
 rw [List.length_map,List.map_take,List.map_drop]
theorem zQ1 (ns:List Int):(zU ns (some 8) (some 32)).length<=30:=by
 unfold zU
 have e1:=HT.sIx_nat ns.length 0 8
 have e2:=HT.sIx_nat ns.length ns.length 32
 rw [List.length_take,List.length_drop]
 have e1:HT.sIx ns.length 0 (some 8)=min 8 ns.length:=e1
 have e2:HT.sIx ns.length ns.length (some 32)=min 32 ns.length:=e2
 rw [e1,e2]
 omega
theorem zMQ (a:Int) (w:Nat):(y6 a w 1).map (λx=>0 - x)=y6 a w (-1):=by
 unfold y6
 rw [List.map_map]
 refine List.map_congr_left λi _=>?_
 show 0 - (if (i:Int)=a then (1:Int) else 0)=if (i:Int)=a then -1 else 0
 by_cases c:(i:Int)=a
 ·rw [if_pos c,if_pos c]; rfl
 ·rw [if_neg c,if_neg c]; rfl
def qV:D->Rat
 | .tup [.int a,.int b]=>(a:Rat) / (b:Rat)
 | _=>0
def ptV:D->List Rat
 | .lst ds=>ds.map qV
 | _=>[]
theorem YG (xs:List Rat):ptV (dP xs)=xs:=by
 show (xs.map dQ).map qV=xs
 rw [List.map_map]
 exact (List.map_congr_left λx _=>qL x).trans (List.map_id _)
theorem zNX {bs:List (Int × Int)} {xs:List Rat} (hx:∀ i (h:i < bs.length),((bs[i].1:Int):Rat)<=xs.getD i 0/\xs.getD i 0<=((bs[i].2:Int):Rat)):∀ r∈uH bs,yz bs.length (λj=>xs.getD j 0) r:=λr hr=>by
 obtain ⟨l,hl,h⟩:=List.mem_flatten.mp hr
 obtain ⟨i,hi,rfl⟩:=List.mem_mapIdx.mp hl
 obtain ⟨h1,h2⟩:=hx i hi
 rcases List.mem_cons.mp h with rfl | h
 ·rw [WA hi]
  show ((1:Int):Rat) * _<=_
  grind
 ·rw [List.mem_singleton.mp h,zMQ,WA hi,Int.zero_sub,Rat.intCast_neg]
  show ((-1:Int):Rat) * _<=_
  rw [show ((-1:Int):Rat) = -1 from rfl]
  grind
def zQn:FL:=λds R=>∃ rooms back S1 S4 S3 c,ds=[wJ rooms (.int back) (yi S1) (uJ S4) (zl S3),.int c]/\rooms.length<=100/\0<=back/\back < (rooms.length:Int)/\uU S1/\X2 S4/\wI S3/\∀ b A1 A2 A3,0<=b->b < (rooms.length:Int)->Fw 6 A1->Fw 6 A2->Fw 6 A3->xG A1->jH A2->xH A3->R (wJ rooms (.int b) A1 A2 A3)
def uu:FL:=λds R=>∃ ns,ds=[.scr ns]/\R (.bool true)
section
variable {P:Program} {w:World} {K:PySem.W.Frag} {mg:Str->Option Value} {base:Heap}
abbrev J7:Stmt:=zk 99
theorem v0:zb ["_law_parts_here","_law_cell","_law_rooms","_law_back","_law_starts","_law_steps","_law_stays","_law_way"] ["_law_parts_here","_law_cell"] (zL J7):=.a
abbrev qM:Stmt:=zk 100
theorem uW:zb ["_law_script","_law_spec","_law_inner","_law_rows_here","_law_turn","_law_parts_here","_law_paper","_law_claim","_law_points"] ["_law_script"] (zL qM):=.a
variable {aClaim aSettles aComes ag ah aPaper aRooms aFalls:Addr} (TClaim:zE K mg "Claim" aClaim) (AClaim:wc K aClaim) (TSettles:zE K mg "Settles" aSettles) (ASettles:wd K aSettles) (TComes:zE K mg "Comes" aComes) (AComes:we K aComes) (aa:zE K mg "Mode" ag) (ab:wf K ag) (ac:zE K mg "Thing" ah) (ae:wg K ah) (TPaper:zE K mg "Paper" aPaper) (APaper:wj K aPaper) (TRooms:zE K mg "Rooms" aRooms) (ARooms:wl K aRooms) (TFalls:zE K mg "Falls" aFalls) (AFalls:wm K aFalls)
include TClaim AClaim TSettles ASettles TComes AComes aa ab ac ae TPaper APaper TRooms ARooms TFalls AFalls
theorem zH9 {k:Nat} {f:Addr} {fd:FuncData} (F:zc K "_law_spoilt" "_law_spoilt" J7 f fd) (B:Bl mg) (ax:Fn P w K mg base "_law_changed" ["_law_some","_law_cell"] k (zJ (uo 3))):zG P w K mg base zX (k + 1) f fd ["_law_parts_here","_law_cell"] (zJ (zQn)):=by
 refine zu F v0 (λds R h=>by obtain ⟨rooms,back,S1,S4,S3,c,rfl,_⟩:=h; rfl) λcdv A outer s H E hr=>⟨_,(zK (uS (zA 0) (xh rfl (zm 2 v0.nd rfl (Or.inl rfl) (zm 3 v0.nd rfl (Or.inl rfl) (zm 4 v0.nd rfl (Or.inl rfl) (zm 5 v0.nd rfl (Or.inl rfl) (zm 6 v0.nd rfl (Or.inl rfl) xf)))))))
  (zK (ze 7 v0.nd rfl (Or.inl rfl) (ye (zA 1) zD))
  (zK (ze 1 v0.nd rfl (Or.inl rfl) (xq (zA 1) zD))
  (jC (yI (wz hr.units (zA 7) zD) (zM (ze 4 v0.nd rfl (Or.inl rfl) (zP ax hr rfl (zB (zA 4) (zB (zA 1) zC))))) yH)
  (jC (yI (wz hr.units (zA 7) zD) (zM (ze 5 v0.nd rfl (Or.inl rfl) (zP ax hr rfl (zB (zA 5) (zB (zA 1) zC))))) yH)
  (jC (yI (wz hr.units (zA 7) zD) (zM (ze 6 v0.nd rfl (Or.inl rfl) (zP ax hr rfl (zB (zA 6) (zB (zA 1) zC))))) yH)
  (jC (yI (wz hr.units (zA 7) zD) (zM (ze 3 v0.nd rfl (Or.inl rfl) (ye (zA 1) (zq yV yX rfl B.len_ yW (zB (zA 2) zC))))) yH)
  (zM (zV (yh (zB (zA 2) (zB (zA 3) (zB (zA 4) (zB (zA 5) (zB (zA 6) zC))))))))))))))),λds R h=>?_⟩
 obtain ⟨rooms,back,S1,S4,S3,c,rfl,l9,b0,bl,h1,h4,h3,q⟩:=h
 have lm:(List.map Rm rooms).length=rooms.length:=List.length_map ..
 refine ⟨by decide,by decide,(Bd.lit (i:=8) (n:=4)).mono,?_⟩
 refine ⟨λΓ=>∃ A1:D,Γ=[.sh (wJ rooms (.int back) (yi S1) (uJ S4) (zl S3)),.sh (.int (c.fdiv 8)),.sh (uG rooms),.sh (.int back),.sh A1,.sh (uJ S4),.sh (zl S3),.sh (.int (c.fmod 8))]/\Fw 6 A1/\xG A1,w2 (λc1=>⟨_,_,rfl,.inl ⟨S1,rfl,h1,λd fd ad=>⟨d,rfl,fd.mono,ad⟩⟩⟩) λc1=>⟨_,rfl,(X6 (k:=0) h1).1.mono,(X6 (k:=0) h1).2⟩,?_⟩
 rintro Γ' ⟨A1,rfl,fA1,pA1⟩
 refine ⟨λΓ=>∃ A2:D,Γ=[.sh (wJ rooms (.int back) (yi S1) (uJ S4) (zl S3)),.sh (.int (c.fdiv 8)),.sh (uG rooms),.sh (.int back),.sh A1,.sh A2,.sh (zl S3),.sh (.int (c.fmod 8))]/\Fw 6 A2/\jH A2,w2 (λc1=>⟨_,_,rfl,.inr (.inr ⟨by decide,S4,rfl,h4,λd fd ad=>⟨d,rfl,fd,ad⟩⟩)⟩) λc1=>⟨_,rfl,(zOC h4).1.mono,(zOC h4).2⟩,?_⟩
 rintro Γ' ⟨A2,rfl,fA2,pA2⟩
 refine ⟨λΓ=>∃ A3:D,Γ=[.sh (wJ rooms (.int back) (yi S1) (uJ S4) (zl S3)),.sh (.int (c.fdiv 8)),.sh (uG rooms),.sh (.int back),.sh A1,.sh A2,.sh A3,.sh (.int (c.fmod 8))]/\Fw 6 A3/\xH A3,w2 (λc1=>⟨_,_,rfl,.inr (.inl ⟨by decide,S3,rfl,h3,λd fd ad=>⟨d,rfl,fd.mono,ad⟩⟩)⟩) λc1=>⟨_,rfl,(X7 h3).1.mono,(X7 h3).2⟩,?_⟩
 rintro Γ' ⟨A3,rfl,fA3,pA3⟩
 refine ⟨λΓ=>∃ b:Int,Γ=[.sh (wJ rooms (.int back) (yi S1) (uJ S4) (zl S3)),.sh (.int (c.fdiv 8)),.sh (uG rooms),.sh (.int b),.sh A1,.sh A2,.sh A3,.sh (.int (c.fmod 8))]/\0<=b/\b < (rooms.length:Int),w2 (λc1=>⟨by omega,?_⟩) λc1=>⟨_,rfl,b0,bl⟩,?_⟩
 ·have:=md (c.fdiv 8) (show (0:Int) < ((List.map Rm rooms).length:Int) by omega)
  exact ⟨_,rfl,this.1,by omega⟩
 rintro Γ' ⟨b,rfl,b0,bl⟩
 exact ⟨k0,q b A1 A2 A3 b0 bl fA1 fA2 fA3 pA1 pA2 pA3⟩
theorem zQR {k:Nat} {f:Addr} {fd:FuncData} (F:zc K "law" "law" qM f fd) (B:Bl mg) (b7:Fn P w K mg base "_law_thing" ["_law_script"] (k + 1) (zJ (fTh))) (b8:Fn P w K mg base "_law_parts" ["_law_spec","_law_cell"] (k + 1) (zJ (Zs))) (ap:Fn P w K mg base "_law_cell_at" ["_law_script","_law_k"] (k + 1) (zJ (JO))) (b9:Fn P w K mg base "_law_spoilt" ["_law_parts_here","_law_cell"] (k + 1) (zJ (zQn))) (ca:uP P w K mg base aRooms ["self","rooms","back","starts","steps","stays"] k (w8 aRooms (zQq aRooms))) (cb:vG P w K mg base aSettles ["self","start","rows","turn"] k (w8 aSettles (zQp aSettles)) (.int 0)) (ar:Fn P w K mg base "_law_rows" ["_law_box_here"] (k + 1) (zJ (Zd))) (cf:Fn P w K mg base "lets_by" ["thing","claim","paper"] (k + 1) (zJ (Xn ah ag aSettles aRooms))) (cg:Fn P w K mg base "_law_made" ["_law_spec"] (k + 1) (zJ (zQr ah ag))) (ci:Fn P w K mg base "_law_run" ["_law_spec","_law_point_here","_law_cells"] (k + 1) (zJ (YE))) (aJ:Fn P w K mg base "_law_point" ["_law_cell","_law_box_here"] (k + 1) (zJ (J3))) (aI:Fn P w K mg base "_law_lies" ["_law_room","_law_point_here"] (k + 1) (zJ (Jw))):zG P w K mg base zX (k + 1 + 1) f fd ["_law_script"] (zJ (uu)):=by
 refine zu F uW (λds R h=>by obtain ⟨ns,rfl,_⟩:=h; rfl) λcdv A outer s H E hr=>⟨_,(zK (ze 1 uW.nd rfl (Or.inl rfl) (zP b7 hr rfl (zB (zA 0) zC)))
  (zK (uS (zP b8 hr rfl (zB (zA 1) (zB (zP ap hr rfl (zB (zA 0) (zB zD zC))) zC))) (xh rfl (zm 2 uW.nd rfl (Or.inl rfl) (zm 3 uW.nd rfl (Or.inr rfl) (zm 4 uW.nd rfl (Or.inl rfl) (zm 5 uW.nd rfl (Or.inl rfl) xf))))))
  (jC (ze 5 uW.nd rfl (Or.inl rfl) (zP b9 hr rfl (zB (zA 5) (zB (zP ap hr rfl (zB (zA 0) (zB zD zC))) zC))))
  (zK (ze 6 uW.nd rfl (Or.inl rfl) (XF ca TRooms hr rfl (zB (zR (zA 5) zD (λ_ _=>rfl)) (zB (zR (zA 5) zD (λ_ _=>rfl)) (zB (zR (zA 5) zD (λ_ _=>rfl)) (zB (zR (zA 5) zD (λ_ _=>rfl)) (zB (zR (zA 5) zD (λ_ _=>rfl)) zC)))))))
  (zK (ze 7 uW.nd rfl (Or.inl rfl) (XF cb.fn TSettles hr rfl (zB (zP ar hr rfl (zB (zA 2) zC)) (zB (xV vk vp rfl B.list_ xn (zB (zA 3) zC)) (zB (zA 4) zC)))))
  (zK (yI (xD (yb (zP cf hr rfl (zB (zP cg hr rfl (zB (zA 1) zC)) (zB (zA 7) (zB (zA 6) zC)))))) (zM (zV xb)) yH)
  (zK (ze 8 uW.nd rfl (Or.inl rfl) (zP ci hr rfl (zB (zA 1) (zB (zP aJ hr rfl (zB (zP ap hr rfl (zB (zA 0) (zB zD zC))) (zB (zA 2) zC))) (zB (zKg (zA 0) (yt zD) (yt zD)) zC)))))
  (zM (zV (zq (wR rfl) wY rfl B.all_ wS (zB (yQ (own:=["_law_point_here"]) (caps:=[(3,"_law_rows_here")]) (yC (S:=zL qM) (N:=["_law_script","_law_spec","_law_inner","_law_rows_here","_law_turn","_law_parts_here","_law_paper","_law_claim","_law_points"]) rfl (by decide +kernel) rfl ⟨_,rfl⟩ rfl (by decide +kernel) (by decide +kernel)) rfl rfl yF (yS (y9 (zA 8) (yt (zA 4)) y8)) (λ_ _ _ _=>(zt 0 (show (["_law_point_here","_law_rows_here"]:List Str).Nodup by decide +kernel) rfl (Or.inl rfl))) (λ_ _ _ _=>(zP aI hr rfl (zB (zA 1) (zB (zA 0) zC))))) zC))))))))))),λds R h=>?_⟩
 obtain ⟨ns,rfl,q⟩:=h
 refine ⟨ns,rfl,λn bs ms u T=>?_⟩
 have n3:=T.n3
 refine ⟨ns,5,rfl,by decide,λc5=>⟨n,bs,ms,u,c5,rfl,T,λinner g t rooms back S1 S4 S3 I1 G1 t0 bt RR b0 bl h1 h4 h3=>?_⟩⟩
 have few:=RR.few
 refine ⟨λΓ=>∃ b A1 A2 A3,Γ=[.sh (.scr ns),.sh (xw n bs ms u),.sh (zZ inner),.sh (Rm g),.sh (.int t),.sh (wJ rooms (.int b) A1 A2 A3),.no,.no,.no]/\0<=b/\b < (rooms.length:Int)/\Fw 6 A1/\Fw 6 A2/\Fw 6 A3/\xG A1/\jH A2/\xH A3,⟨ns,6,rfl,by decide,λc6=>⟨rooms,back,S1,S4,S3,c6,rfl,few,b0,bl,h1,h4,h3,λb A1 A2 A3 b0 bl f1 f2 f3 p1 p2 p3=>⟨b,A1,A2,A3,rfl,b0,bl,f1,f2,f3,p1,p2,p3⟩⟩⟩,?_⟩
 clear h1 h4 h3 b0 bl
 rintro Γ' ⟨b,A1,A2,A3,rfl,b0,bl,f1,f2,f3,p1,p2,p3⟩
 have BI:Bx n 280 inner:=⟨I1.len,λx hx=>⟨(I1.ok x hx).2.1.mono,(I1.ok x hx).2.2.mono⟩⟩
 have RS:wo (uH inner) n:=zLv BI n3
 have l3:=G1.l3
 have li:=I1.len
 have RG:wo g n:=⟨λr hr=>⟨(G1.row r hr).1,λx hx=>((G1.row r hr).2.2 x hx).mono⟩,by omega⟩
 have FR:∀ {k:Nat} {rr:List (List Int)},wo rr n->Fw (k + 3) (Rm rr):=λh=>ql (by have:=h.few; omega) (λr hr=>by rw [(h.row r hr).1]; omega)
 have FL:Fw 6 (uG rooms):=.lst (by rw [List.length_map]; omega) λd hd=>by
  obtain ⟨r,hr,rfl⟩:=List.mem_map.mp hd
  exact FR (RR.rm r hr)
 refine ⟨_,rfl,_,rfl,_,rfl,_,rfl,_,rfl,_,_,_,_,_,rfl,FL,f1,f2,f3,?_⟩
 refine ⟨inner,rfl,by omega,_,_,_,rfl,FR RS,FR RG,?_⟩
 refine ⟨n,bs,ms,u,rfl,T.ok,n,bs,ms,uH inner,g,t,rooms,.int b,A1,A2,A3,6,rfl,T.ths,RS,RG,t0,RR,rfl,f1,f2,f3,p1,p2,p3,T.cl,w2 (λc1=>q) λc1=>?_⟩
 have hL:=jz c1
 refine ⟨ns,7,rfl,by decide,λc7=>⟨c7,inner,rfl,by omega,I1.ok,λxs lx hx sx=>?_⟩⟩
 refine ⟨n,bs,ms,u,xs,zU ns (some 8) (some 32),by rw [zO8],T.ok,λm hm=>⟨(T.md m hm).mse,(T.md m hm).dv⟩,λb hb=>(T.bb b hb).2,T.b2,T.m3,zQ1 ns,by omega,sx,λps l1 l31 p0 RL szs=>?_⟩
 have lp:(List.map dP ps).length=ps.length:=List.length_map ..
 have e:zU (ps.map dP) (some t) none=(ps.drop t.toNat).map dP:=by rw [j6 t0,List.map_drop]
 refine zj.cast e (wn dP ptV YG (λp=>.bool (g.all (hQ p))) (by rw [List.length_drop]; omega) (λp hp=>?_) ⟨(ps.drop t.toNat).map λp=>g.all (hQ p),by rw [List.map_map]; rfl,bR q ?_⟩)
 ·obtain ⟨Q,ee,qq,PT⟩:=szs p (List.mem_of_mem_drop hp)
  exact ⟨g,n,p,Q,ee,qq,rfl,by omega,λr hr=>⟨(RG.row r hr).1,(RG.row r hr).2⟩,PT,rfl⟩
 ·have h0:∀ r∈uH inner,yz n (λj=>(ps.getD 0 []).getD j 0) r:=by
   rw [p0,<- li]
   exact zNX hx
  have key:=zOS (P:=λt j=>(ps.getD t []).getD j 0) (N:=ps.length) T.ok.mok hL (λrm hrm r hr=>((RR.rm rm hrm).row r hr).1) (λr hr=>(RG.row r hr).1) t0 h0 RL
  rw [List.all_map]
  refine (List.all_eq_true.mpr λp hp=>?_).symm
  obtain ⟨i,hi,ei⟩:=List.mem_iff_getElem.mp hp
  rw [List.length_drop] at hi
  rw [List.getElem_drop] at ei
  have hk:=key (t.toNat + i) (by omega) (by omega)
  obtain ⟨Q,ee,qq,PT⟩:=szs p (List.mem_of_mem_drop hp)
  have eg:ps.getD (t.toNat + i) []=p:=by rw [List.getD_eq_getElem?_getD,List.getElem?_eq_getElem (by omega)]; exact ei
  rw [eg] at hk
  exact List.all_eq_true.mpr λr hr=>(zLO PT.len (RG.row r hr).1).mpr (hk r hr)
end
end K53
namespace L2
open PySem PySem.Spec PyProof.Rows
theorem J8 {α:Type} {P:List α->Prop} (h:∀ x0:α,P [x0]):∀ us:List α,us.length=1->P us
 | [x0],_=>h x0
theorem WG {α:Type} {P:List α->Prop} (h:∀ x0 x1:α,P [x0,x1]):∀ us:List α,us.length=2->P us
 | [x0,x1],_=>h x0 x1
theorem WH {α:Type} {P:List α->Prop} (h:∀ x0 x1 x2:α,P [x0,x1,x2]):∀ us:List α,us.length=3->P us
 | [x0,x1,x2],_=>h x0 x1 x2
theorem WI {α:Type} {P:List α->Prop} (h:∀ x0 x1 x2 x3:α,P [x0,x1,x2,x3]):∀ us:List α,us.length=4->P us
 | [x0,x1,x2,x3],_=>h x0 x1 x2 x3
theorem J9 {α:Type} {P:List α->Prop} (h:∀ x0 x1 x2 x3 x4:α,P [x0,x1,x2,x3,x4]):∀ us:List α,us.length=5->P us
 | [x0,x1,x2,x3,x4],_=>h x0 x1 x2 x3 x4
theorem QA {α:Type} {P:List α->Prop} (h:∀ x0 x1 x2 x3 x4 x5:α,P [x0,x1,x2,x3,x4,x5]):∀ us:List α,us.length=6->P us
 | [x0,x1,x2,x3,x4,x5],_=>h x0 x1 x2 x3 x4 x5
theorem QB {α:Type} {P:List α->Prop} (h:∀ x0 x1 x2 x3 x4 x5 x6:α,P [x0,x1,x2,x3,x4,x5,x6]):∀ us:List α,us.length=7->P us
 | [x0,x1,x2,x3,x4,x5,x6],_=>h x0 x1 x2 x3 x4 x5 x6
structure Gf (K:W.Frag) (x:Str) (st:Stmt) (f:Addr) (fd:FuncData):Prop where
 at_:W.nsIn K mainGlobals x=some (some (.ref f))
 F:zc K x x st f fd
abbrev Ge (K:W.Frag) (x:Str) (st:Stmt):Prop:=∃ f fd,Gf K x st f fd
structure Gm (K:W.Frag) (C:Addr) (x q:Str) (st:Stmt) (f:Addr) (fd:FuncData):Prop where
 at_:W.findIn K (.ref C) x=some (some (.ref f))
 fn:W.isFn K (.ref f)=true
 F:zc K x q st f fd
abbrev Gn (K:W.Frag) (C:Addr) (x q:Str) (st:Stmt):Prop:=∃ f fd,Gm K C x q st f fd
structure Gd (K:W.Frag) (x:Str) (st:Stmt) (f:Addr) (fd:FuncData) (d:Value):Prop where
 at_:W.nsIn K mainGlobals x=some (some (.ref f))
 F:yw K x x st f fd d
abbrev Gi (K:W.Frag) (x:Str) (st:Stmt) (i:Int):Prop:=∃ f fd t,Gd K x st f fd (.int i t)
structure Gk (K:W.Frag) (C:Addr) (x q:Str) (st:Stmt) (f:Addr) (fd:FuncData) (d:Value):Prop where
 at_:W.findIn K (.ref C) x=some (some (.ref f))
 fn:W.isFn K (.ref f)=true
 F:yw K x q st f fd d
abbrev Gj (K:W.Frag) (C:Addr) (x q:Str) (st:Stmt) (i:Int):Prop:=∃ f fd t,Gk K C x q st f fd (.int i t)
structure Gc (K:W.Frag) (x:Str) (C:Addr):Prop where
 nm:W.nsIn K mainGlobals x=some (some (.ref C))
 pg:W.plainGet K C Str.empty=true
 hd:W.hasDictIn K C=true
 po:W.plainOver K C=true
 sa:W.findIn K (.ref C) "__setattr__" = some (some (.builtin "object.__setattr__"))
 mk_:W.makesIn K C=true
 kc:W.keepIn K (.ref C)=true
 ha:W.findIn K (.ref C) "__class__" = some (some (.builtin "object.__class__"))
 hn:W.specialIn K (.builtin "object.__class__") "__get__" = some (some (.builtin "getset_descriptor.__get__"))
 tk:W.takesIn K (.builtin "object.__class__")=some true
 hm:W.mroIn K C (.type "object")=some true
section
variable {P:Program} {w:World} {K:W.Frag} {mg:Str->Option Value} {base h:Heap} {x q:Str} {st:Stmt} {f C T:Addr} {fd:FuncData} {ps:List Str} {k:Nat} {sp:Sp} {oc kV doc pm cdv ct oT:Value} {od an dT:Option Addr} {osl sT:Array (Option Value)}
theorem YH (a:W.nsIn K mainGlobals x=some (some (.ref f))) (l:K.lookup f=some ⟨oc,od,.func (W.fnOf x x (x8 st) (xO st) (zL st) .none kV doc pm an cdv ct),osl⟩) (c:W.codeIn K cdv x=true) (k:W.keepIn K (.ref f)=true):Ge K x st:=⟨f,_,a,Q8 l c k⟩
theorem YI (a:W.findIn K (.ref C) x=some (some (.ref f))) (i:W.isFn K (.ref f)=true) (l:K.lookup f=some ⟨oc,od,.func (W.fnOf x q (x8 st) (xO st) (zL st) .none kV doc pm an cdv ct),osl⟩) (c:W.codeIn K cdv q=true) (k:W.keepIn K (.ref f)=true):Gn K C x q st:=⟨f,_,a,i,Q8 l c k⟩
theorem YJ {i:Int} {t:Tok} {n:Nat} (a:W.nsIn K mainGlobals x=some (some (.ref f))) (l:K.lookup f=some ⟨oc,od,.func (W.fnOf x x (x8 st) (xO st) (zL st) (.ref T) kV doc pm an cdv ct),osl⟩) (c:W.codeIn K cdv x=true) (k:W.keepIn K (.ref f)=true) (d:K.lookup T=some ⟨oT,dT,.seq #[.int i t] n,sT⟩):Gi K x st i:=⟨f,_,t,a,KL l c k d rfl⟩
theorem YK {i:Int} {t:Tok} {n:Nat} (a:W.findIn K (.ref C) x=some (some (.ref f))) (z:W.isFn K (.ref f)=true) (l:K.lookup f=some ⟨oc,od,.func (W.fnOf x q (x8 st) (xO st) (zL st) (.ref T) kV doc pm an cdv ct),osl⟩) (c:W.codeIn K cdv q=true) (k:W.keepIn K (.ref f)=true) (d:K.lookup T=some ⟨oT,dT,.seq #[.int i t] n,sT⟩):Gj K C x q st i:=⟨f,_,t,a,z,KL l c k d rfl⟩
theorem Gc.cls (g:Gc K x C) (X:K.In h) (G:h.Ns mainGlobals mg):zE K mg x C:=⟨⟨g.pg,g.hd,g.po,g.sa⟩,W.mg_of X G g.nm,g.ha,g.hn,g.tk,g.hm⟩
abbrev Bn (x q:Str) (st:Stmt) (ps:List Str):Prop:=∀ (kV doc pm:Value) (an:Option Addr) (cdv ct:Value) (us:List Value),us.length=ps.length->bindArgs (W.fnOf x q (x8 st) (xO st) (zL st) .none kV doc pm an cdv ct) ⟨us,[]⟩=pure (ps.zip us)
structure Wh (P:Program) (w:World) (K:W.Frag) (mg:Str->Option Value) (base h:Heap):Prop where
 X:K.In h
 G:h.Ns mainGlobals mg
theorem Gf.fn (g:Gf K x st f fd) (Y:Wh P w K mg base h) (o:zG P w K mg base zX k f fd ps sp) (b:Bn x x st ps:=by intro _ _ _ _ _ _; first | exact L2.J8 λ_=>rfl | exact L2.WG λ_ _=>rfl | exact L2.WH λ_ _ _=>rfl | exact L2.WI λ_ _ _ _=>rfl | exact L2.J9 λ_ _ _ _ _=>rfl | exact L2.QA λ_ _ _ _ _ _=>rfl | exact L2.QB λ_ _ _ _ _ _ _=>rfl):Fn P w K mg base x ps k sp:=⟨f,fd,o,W.mg_of Y.X Y.G g.at_,g.F.kp,g.F.binds b⟩
theorem Gm.fm (g:Gm K C x q st f fd) (_:Wh P w K mg base h) (o:zG P w K mg base zX k f fd ps sp) (b:Bn x q st ps:=by intro _ _ _ _ _ _; first | exact L2.J8 λ_=>rfl | exact L2.WG λ_ _=>rfl | exact L2.WH λ_ _ _=>rfl | exact L2.WI λ_ _ _ _=>rfl | exact L2.J9 λ_ _ _ _ _=>rfl | exact L2.QA λ_ _ _ _ _ _=>rfl | exact L2.QB λ_ _ _ _ _ _ _=>rfl):uO P w K mg base C x ps k sp:=⟨f,fd,o,⟨g.at_,g.fn,g.F.kp⟩,g.F.binds b⟩
theorem Gm.fc {y:Str} (g:Gm K C "__init__" q st f fd) (_:Wh P w K mg base h) (c:Gc K y C) (o:zG P w K mg base zX k f fd ps sp) (b:Bn "__init__" q st ps:=by intro _ _ _ _ _ _; first | exact L2.J8 λ_=>rfl | exact L2.WG λ_ _=>rfl | exact L2.WH λ_ _ _=>rfl | exact L2.WI λ_ _ _ _=>rfl | exact L2.J9 λ_ _ _ _ _=>rfl | exact L2.QA λ_ _ _ _ _ _=>rfl | exact L2.QB λ_ _ _ _ _ _ _=>rfl):uP P w K mg base C ps k sp:=⟨f,fd,o,⟨c.mk_,g.at_,g.fn,c.kc⟩,g.F.binds b⟩
theorem Gd.fn {i:Int} {t:Tok} (g:Gd K x st f fd (.int i t)) (Y:Wh P w K mg base h) (b:∀ (T:Addr) (kV doc pm:Value) (an:Option Addr) (cdv ct:Value) (us:List Value),us.length=ps.length->∃ k:Option (Array Value)->Sem (List (Str × Value)),bindArgs (W.fnOf x x (x8 st) (xO st) (zL st) (.ref T) kV doc pm an cdv ct) ⟨us,[]⟩=seqItems? (.ref T) >>= k/\k (some #[.int i t])=pure (ps.zip us))
  (d:∀ (T:Addr) (kV doc pm:Value) (an:Option Addr) (cdv ct:Value) (us:List Value),us.length + 1=ps.length->∃ k:Option (Array Value)->Sem (List (Str × Value)),bindArgs (W.fnOf x x (x8 st) (xO st) (zL st) (.ref T) kV doc pm an cdv ct) ⟨us,[]⟩=seqItems? (.ref T) >>= k/\k (some #[.int i t])=pure (ps.zip (us++[.int i t]))) (o:zG P w K mg base zX k f fd ps sp):vd P w K mg base x ps k sp (.int i):=
 ⟨f,fd,_,o,W.mg_of Y.X Y.G g.at_,g.F.kp,g.F.binds b,g.F.binds1 d,⟨_,rfl⟩⟩
theorem Gk.fcd {i:Int} {t:Tok} {y:Str} (g:Gk K C "__init__" q st f fd (.int i t)) (_:Wh P w K mg base h) (c:Gc K y C) (b:∀ (T:Addr) (kV doc pm:Value) (an:Option Addr) (cdv ct:Value) (us:List Value),us.length=ps.length->∃ k:Option (Array Value)->Sem (List (Str × Value)),bindArgs (W.fnOf "__init__" q (x8 st) (xO st) (zL st) (.ref T) kV doc pm an cdv ct) ⟨us,[]⟩=seqItems? (.ref T) >>= k/\k (some #[.int i t])=pure (ps.zip us))
  (d:∀ (T:Addr) (kV doc pm:Value) (an:Option Addr) (cdv ct:Value) (us:List Value),us.length + 1=ps.length->∃ k:Option (Array Value)->Sem (List (Str × Value)),bindArgs (W.fnOf "__init__" q (x8 st) (xO st) (zL st) (.ref T) kV doc pm an cdv ct) ⟨us,[]⟩=seqItems? (.ref T) >>= k/\k (some #[.int i t])=pure (ps.zip (us++[.int i t]))) (o:zG P w K mg base zX k f fd ps sp):vG P w K mg base C ps k sp (.int i):=
 ⟨f,fd,_,o,⟨c.mk_,g.at_,g.fn,c.kc⟩,g.F.binds b,g.F.binds1 d,⟨_,rfl⟩⟩
end
end L2
namespace K53
open PySem L2 Sh Pu
theorem QC {F:FL} (h:∀ ds R,¬ F ds R):∀ vs H Q E,¬ zJ F vs H Q E:=λ_ _ _ _ ⟨_,ds,R,_,_,f,_⟩=>h ds R f
abbrev zF1:Stmt:=zk 60
theorem zNR:∀ ds R,¬ ju 0 ds R:=λ_ _ ⟨_,_,_,h,_⟩=>by cases h
theorem all_mk {l:W.OpenLaw} {w:World} {K:W.Frag} {h:Heap} {mg:Str->Option Value} {fa:Addr} (X:K.In h) (G:h.Ns mainGlobals mg) (hfa:mg "law" = some (.ref fa))
  {aClaim aSettles aComes ag ah aPaper aRooms aFalls:Addr}
  (GClaim:Gc K "Claim" aClaim)
  (GSettles:Gc K "Settles" aSettles)
  (GComes:Gc K "Comes" aComes)
  (GMode:Gc K "Mode" ag)
  (GThing:Gc K "Thing" ah)
  (GPaper:Gc K "Paper" aPaper)
  (GRooms:Gc K "Rooms" aRooms)
  (GFalls:Gc K "Falls" aFalls)
  (n_start_Settles:W.findIn K (.ref aSettles) "start" = some none)
  (n_rows_Settles:W.findIn K (.ref aSettles) "rows" = some none)
  (n_turn_Settles:W.findIn K (.ref aSettles) "turn" = some none)
  (n_start_Comes:W.findIn K (.ref aComes) "start" = some none)
  (n_goal_Comes:W.findIn K (.ref aComes) "goal" = some none)
  (n_turns_Comes:W.findIn K (.ref aComes) "turns" = some none)
  (cj:W.findIn K (.ref ag) "rows" = some none)
  (ck:W.findIn K (.ref ag) "nexts" = some none)
  (cn:W.findIn K (.ref ag) "steer" = some none)
  (cq:W.findIn K (.ref ag) "push" = some none)
  (cr:W.findIn K (.ref ag) "add" = some none)
  (cu:W.findIn K (.ref ag) "divisor" = some none)
  (cv:W.findIn K (.ref ah) "many" = some none)
  (cw:W.findIn K (.ref ah) "kept_pushes" = some none)
  (cx:W.findIn K (.ref ah) "kept_modes" = some none)
  (n_rooms_Rooms:W.findIn K (.ref aRooms) "rooms" = some none)
  (n_back_Rooms:W.findIn K (.ref aRooms) "back" = some none)
  (n_starts_Rooms:W.findIn K (.ref aRooms) "starts" = some none)
  (n_steps_Rooms:W.findIn K (.ref aRooms) "steps" = some none)
  (n_stays_Rooms:W.findIn K (.ref aRooms) "stays" = some none)
  (n_room_Falls:W.findIn K (.ref aFalls) "room" = some none)
  (n_starts_Falls:W.findIn K (.ref aFalls) "starts" = some none)
  (n_steps_Falls:W.findIn K (.ref aFalls) "steps" = some none)
  (n_measure_Falls:W.findIn K (.ref aFalls) "measure" = some none)
  (n_step_Falls:W.findIn K (.ref aFalls) "step" = some none)
  (n_top_Falls:W.findIn K (.ref aFalls) "top" = some none)
  (n_falls_Falls:W.findIn K (.ref aFalls) "falls" = some none)
  (n_floors_Falls:W.findIn K (.ref aFalls) "floors" = some none)
  (n_tops_Falls:W.findIn K (.ref aFalls) "tops" = some none)
  (z0:W.nsIn K mainGlobals "isinstance" = some none)
  (z1:W.nsIn K mainGlobals "int" = some none)
  (z2:W.nsIn K mainGlobals "bool" = some none)
  (z3:W.nsIn K mainGlobals "tuple" = some none)
  (z4:W.nsIn K mainGlobals "len" = some none)
  (z5:W.nsIn K mainGlobals "all" = some none)
  (z6:W.nsIn K mainGlobals "list" = some none)
  (z7:W.nsIn K mainGlobals "range" = some none)
  (z8:W.nsIn K mainGlobals "zip" = some none)
  (z9:W.nsIn K mainGlobals "sum" = some none)
  (z10:W.nsIn K mainGlobals "max" = some none)
  (z11:W.nsIn K mainGlobals "enumerate" = some none)
  (z12:W.nsIn K mainGlobals "abs" = some none)
  (z13:W.nsIn K mainGlobals "min" = some none)
  {gt0:Tok} (cst0:W.nsIn K mainGlobals "MOST_NUMBERS" = some (some (.int 3 gt0)))
  {gt1:Tok} (cst1:W.nsIn K mainGlobals "MOST_PUSHES" = some (some (.int 6 gt1)))
  {gt2:Tok} (cst2:W.nsIn K mainGlobals "MOST_MODES" = some (some (.int 40 gt2)))
  : Ge K "is_whole" Uu->Ge K "is_numbers" XO->Ge K "is_table" XQ->Gi K "copied" ZR 5->Gi K "unit" XR 1->Ge K "scaled" XS->Ge K "paired" XT->Ge K "added_up" XU->Ge K "is_row" XV->Ge K "is_room" XW->Ge K "single" Uv->Gn K ag "__init__" "Mode.__init__" U0->Ge K "is_push" U1->Ge K "is_mode" U2->Ge K "is_sound" ZT->Gn K ah "__init__" "Thing.__init__" U3->Gn K ah "pushes" "Thing.pushes" U4->Gn K ah "modes" "Thing.modes" U5->Ge K "is_unsteered" Xa->Gn K ah "is_closed" "Thing.is_closed" Xb->Ge K "ask_closed" U6->Ge K "standing" ZY->Ge K "reach" JB->Ge K "added" JD->Ge K "is_from_0_on" JE->Ge K "are_shares" Xh->Ge K "shows" Xi->Ge K "is_list_of" JG->Ge K "each_shown" Xj->Ge K "mode_leads" Xk->Ge K "leads" Xl->Gj K aSettles "__init__" "Settles.__init__" JI 0->Gn K aRooms "__init__" "Rooms.__init__" JJ->Ge K "settles_over" JK->Ge K "are_rooms" Xo->Ge K "rooms_follow" Xp->Ge K "rooms_stay" Xq->Ge K "lets_rooms_by" JL->Ge K "lets_fall_by" zF1->Ge K "lets_by" JM->Ge K "_law_cell_at" JR->Ge K "_law_stream" JS->Ge K "_law_number" JT->Ge K "_law_box" JU->Ge K "_law_rows" Zf->Ge K "_law_both" JW->Ge K "_law_made" Zg->Ge K "_law_top" JX->Ge K "_law_mode" j8->Ge K "_law_thing" JY->Ge K "_law_beyond" Xz->Ge K "_law_hull" X0->Ge K "_law_image" qy->Ge K "_law_kept" JZ->Ge K "_law_boxes" Jc->Ge K "_law_claim_rows" Zn->Ge K "_law_step_shares" q9->Ge K "_law_box_starts" Je->Ge K "_law_box_steps" X3->Ge K "_law_parts" qE->Ge K "_law_other" Jj->Ge K "_law_changed" Jk->Ge K "_law_divisor" Jy->Ge K "_law_lowest" Jz->Ge K "_law_plus" J0->Ge K "_law_along" J1->Ge K "_law_holds" J2->Ge K "_law_lies" WD->Ge K "_law_point" J4->Ge K "_law_behind" J5->Ge K "_law_run" WF->Ge K "_law_spoilt" J7->Ge K "law" qM->∃ fd:FuncData,(∀ (s:Shared) (v:Value),BindsTo s fd ⟨[v],[]⟩ [("_law_script",v)])/\∀ base:Heap,K.In base->base.Ns mainGlobals mg->zG l.prog w K mg base zX 11 fa fd ["_law_script"] (zJ uu):=by
 rintro ⟨_,_,G0⟩ ⟨_,_,G1⟩ ⟨_,_,G2⟩ ⟨_,_,_,G3⟩ ⟨_,_,_,G4⟩ ⟨_,_,G5⟩ ⟨_,_,G6⟩ ⟨_,_,G7⟩ ⟨_,_,G8⟩ ⟨_,_,G9⟩ ⟨_,_,G10⟩ ⟨_,_,G11⟩ ⟨_,_,G12⟩ ⟨_,_,G13⟩ ⟨_,_,G14⟩ ⟨_,_,G15⟩ ⟨_,_,G16⟩ ⟨_,_,G17⟩ ⟨_,_,G18⟩ ⟨_,_,G19⟩ ⟨_,_,G20⟩ ⟨_,_,G21⟩ ⟨_,_,G22⟩ ⟨_,_,G23⟩ ⟨_,_,G24⟩ ⟨_,_,G25⟩ ⟨_,_,G26⟩ ⟨_,_,G27⟩ ⟨_,_,G28⟩ ⟨_,_,G29⟩ ⟨_,_,G30⟩ ⟨_,_,_,G31⟩ ⟨_,_,G32⟩ ⟨_,_,G33⟩ ⟨_,_,G34⟩ ⟨_,_,G35⟩ ⟨_,_,G36⟩ ⟨_,_,G37⟩ ⟨_,_,G38⟩ ⟨_,_,G39⟩ ⟨_,_,G40⟩ ⟨_,_,G41⟩ ⟨_,_,G42⟩ ⟨_,_,G43⟩ ⟨_,_,G44⟩ ⟨_,_,G45⟩ ⟨_,_,G46⟩ ⟨_,_,G47⟩ ⟨_,_,G48⟩ ⟨_,_,G49⟩ ⟨_,_,G50⟩ ⟨_,_,G51⟩ ⟨_,_,G52⟩ ⟨_,_,G53⟩ ⟨_,_,G54⟩ ⟨_,_,G55⟩ ⟨_,_,G56⟩ ⟨_,_,G57⟩ ⟨_,_,G58⟩ ⟨_,_,G59⟩ ⟨_,_,G60⟩ ⟨_,_,G61⟩ ⟨_,_,G62⟩ ⟨_,_,G63⟩ ⟨_,_,G64⟩ ⟨_,_,G65⟩ ⟨_,_,G66⟩ ⟨_,_,G67⟩ ⟨_,_,G68⟩ ⟨_,_,G69⟩ ⟨_,_,G70⟩ ⟨_,_,G71⟩ ⟨_,_,G72⟩
 have e:=hfa.symm.trans (W.mg_of X G G72.at_)
 cases e
 have B:Bl mg:=⟨W.mg_none_of X G z0,W.mg_none_of X G z1,W.mg_none_of X G z2,W.mg_none_of X G z3,W.mg_none_of X G z4,W.mg_none_of X G z5,W.mg_none_of X G z6,W.mg_none_of X G z7,W.mg_none_of X G z8,W.mg_none_of X G z9,W.mg_none_of X G z10,W.mg_none_of X G z11,W.mg_none_of X G z12,W.mg_none_of X G z13,⟨_,W.mg_of X G cst0⟩,⟨_,W.mg_of X G cst1⟩,⟨_,W.mg_of X G cst2⟩⟩
 have TClaim:=GClaim.cls X G
 have AClaim:wc K aClaim:=⟨True.intro⟩
 have TSettles:=GSettles.cls X G
 have ASettles:wd K aSettles:=⟨n_start_Settles,n_rows_Settles,n_turn_Settles⟩
 have TComes:=GComes.cls X G
 have AComes:we K aComes:=⟨n_start_Comes,n_goal_Comes,n_turns_Comes⟩
 have aa:=GMode.cls X G
 have ab:wf K ag:=⟨cj,ck,cn,cq,cr,cu⟩
 have ac:=GThing.cls X G
 have ae:wg K ah:=⟨cv,cw,cx⟩
 have TPaper:=GPaper.cls X G
 have APaper:wj K aPaper:=⟨True.intro⟩
 have TRooms:=GRooms.cls X G
 have ARooms:wl K aRooms:=⟨n_rooms_Rooms,n_back_Rooms,n_starts_Rooms,n_steps_Rooms,n_stays_Rooms⟩
 have TFalls:=GFalls.cls X G
 have AFalls:wm K aFalls:=⟨n_room_Falls,n_starts_Falls,n_steps_Falls,n_measure_Falls,n_step_Falls,n_top_Falls,n_falls_Falls,n_floors_Falls,n_tops_Falls⟩
 obtain ⟨_,_,kV,dc,pm,an,cd,ct,_,rfl,_⟩:=G72.F.ex
 refine ⟨W.fnOf "law" "law" (x8 qM) (xO qM) (zL qM) .none kV dc pm an cd ct,λs v=>.of_eq rfl,λbase _ _=>?_⟩
 have Yw:Wh l.prog w K mg base h:=⟨X,G⟩
 have N0:=G0.fn Yw (zIE (k:=0) TClaim AClaim TSettles ASettles TComes AComes aa ab ac ae TPaper APaper TRooms ARooms TFalls AFalls G0.F B )
 have N1:=G1.fn Yw (zGj (k:=1) TClaim AClaim TSettles ASettles TComes AComes aa ab ac ae TPaper APaper TRooms ARooms TFalls AFalls G1.F B N0.mono)
 have N2:=G2.fn Yw (zIF (k:=2) TClaim AClaim TSettles ASettles TComes AComes aa ab ac ae TPaper APaper TRooms ARooms TFalls AFalls G2.F B N1.mono)
 have D3:=λ{k sp}=>G3.fn (ps:=["value","depth"]) (k:=k) (sp:=sp) Yw (λ_ _ _ _ _ _ _=>L2.WG λ_ _=>⟨_,rfl,rfl⟩) λ_ _ _ _ _ _ _ us hl=>match us,hl with | [_],_=>⟨_,rfl,rfl⟩
 have N3_0:=D3 (zG.no (k:=1) (sp:=(zJ (ju 0))) (QC zNR))
 have N3_1:=D3 (qk (k:=1) (j:=0) TClaim AClaim TSettles ASettles TComes AComes aa ab ac ae TPaper APaper TRooms ARooms TFalls AFalls G3.F B N3_0.mono)
 have N3_2:=D3 (qk (k:=2) (j:=1) TClaim AClaim TSettles ASettles TComes AComes aa ab ac ae TPaper APaper TRooms ARooms TFalls AFalls G3.F B N3_1.mono)
 have N3_3:=D3 (qk (k:=3) (j:=2) TClaim AClaim TSettles ASettles TComes AComes aa ab ac ae TPaper APaper TRooms ARooms TFalls AFalls G3.F B N3_2.mono)
 have N3_4:=D3 (qk (k:=4) (j:=3) TClaim AClaim TSettles ASettles TComes AComes aa ab ac ae TPaper APaper TRooms ARooms TFalls AFalls G3.F B N3_3.mono)
 have N3_5:=D3 (qk (k:=5) (j:=4) TClaim AClaim TSettles ASettles TComes AComes aa ab ac ae TPaper APaper TRooms ARooms TFalls AFalls G3.F B N3_4.mono)
 have N3_6:=D3 (qk (k:=6) (j:=5) TClaim AClaim TSettles ASettles TComes AComes aa ab ac ae TPaper APaper TRooms ARooms TFalls AFalls G3.F B N3_5.mono)
 have N3:=N3_6
 have D4:=λ{k sp}=>G4.fn (ps:=["place","wide","number"]) (k:=k) (sp:=sp) Yw (λ_ _ _ _ _ _ _=>L2.WH λ_ _ _=>⟨_,rfl,rfl⟩) λ_ _ _ _ _ _ _ us hl=>match us,hl with | [_,_],_=>⟨_,rfl,rfl⟩
 have N4:=D4 (zOr (k:=0) TClaim AClaim TSettles ASettles TComes AComes aa ab ac ae TPaper APaper TRooms ARooms TFalls AFalls G4.F B )
 have N5:=G5.fn Yw (zKy (k:=0) TClaim AClaim TSettles ASettles TComes AComes aa ab ac ae TPaper APaper TRooms ARooms TFalls AFalls G5.F B )
 have N6:=G6.fn Yw (zKz (k:=0) TClaim AClaim TSettles ASettles TComes AComes aa ab ac ae TPaper APaper TRooms ARooms TFalls AFalls G6.F B )
 have N7:=G7.fn Yw (zIH (k:=0) TClaim AClaim TSettles ASettles TComes AComes aa ab ac ae TPaper APaper TRooms ARooms TFalls AFalls G7.F B )
 have N8:=G8.fn Yw (zK8 (k:=1) TClaim AClaim TSettles ASettles TComes AComes aa ab ac ae TPaper APaper TRooms ARooms TFalls AFalls G8.F B N0.mono)
 have N9:=G9.fn Yw (zJj (k:=2) TClaim AClaim TSettles ASettles TComes AComes aa ab ac ae TPaper APaper TRooms ARooms TFalls AFalls G9.F B N8.mono)
 have N10:=G10.fn Yw (zKx (k:=1) TClaim AClaim TSettles ASettles TComes AComes aa ab ac ae TPaper APaper TRooms ARooms TFalls AFalls G10.F B N4.mono)
 have N11:=G11.fc Yw GMode (zEv (k:=7) TClaim AClaim TSettles ASettles TComes AComes aa ab ac ae TPaper APaper TRooms ARooms TFalls AFalls G11.F B N3.mono)
 have N12:=G12.fn Yw (zJk (k:=1) TClaim AClaim TSettles ASettles TComes AComes aa ab ac ae TPaper APaper TRooms ARooms TFalls AFalls G12.F B N0.mono)
 have N13:=G13.fn Yw (zJl (k:=3) TClaim AClaim TSettles ASettles TComes AComes aa ab ac ae TPaper APaper TRooms ARooms TFalls AFalls G13.F B N9.mono N2.mono N1.mono N0.mono)
 have N14:=G14.fn Yw (zIG (k:=4) TClaim AClaim TSettles ASettles TComes AComes aa ab ac ae TPaper APaper TRooms ARooms TFalls AFalls G14.F B N0.mono N12.mono N13.mono)
 have N15:=G15.fc Yw GThing (zEa (k:=5) TClaim AClaim TSettles ASettles TComes AComes aa ab ac ae TPaper APaper TRooms ARooms TFalls AFalls G15.F B N14.mono)
 have N16:=G16.fm Yw (zFc (k:=0) TClaim AClaim TSettles ASettles TComes AComes aa ab ac ae TPaper APaper TRooms ARooms TFalls AFalls G16.F B )
 have N17:=G17.fm Yw (zF4 (k:=0) TClaim AClaim TSettles ASettles TComes AComes aa ab ac ae TPaper APaper TRooms ARooms TFalls AFalls G17.F B )
 have N18:=G18.fn Yw (zFa (k:=0) TClaim AClaim TSettles ASettles TComes AComes aa ab ac ae TPaper APaper TRooms ARooms TFalls AFalls G18.F B )
 have N19:=G19.fm Yw (zEB (k:=1) TClaim AClaim TSettles ASettles TComes AComes aa ab ac ae TPaper APaper TRooms ARooms TFalls AFalls G19.F B N18.mono)
 have N20:=G20.fn Yw (zGm (k:=2) TClaim AClaim TSettles ASettles TComes AComes aa ab ac ae TPaper APaper TRooms ARooms TFalls AFalls G20.F B N19.mono)
 have N21:=G21.fn Yw (zH7 (k:=2) TClaim AClaim TSettles ASettles TComes AComes aa ab ac ae TPaper APaper TRooms ARooms TFalls AFalls G21.F B N16.mono N10.mono)
 have N22:=G22.fn Yw (zM1 (k:=1) TClaim AClaim TSettles ASettles TComes AComes aa ab ac ae TPaper APaper TRooms ARooms TFalls AFalls G22.F B N7.mono N16.mono N6.mono)
 have N23:=G23.fn Yw (zM6 (k:=1) TClaim AClaim TSettles ASettles TComes AComes aa ab ac ae TPaper APaper TRooms ARooms TFalls AFalls G23.F B N7.mono)
 have N24:=G24.fn Yw (zFb (k:=1) TClaim AClaim TSettles ASettles TComes AComes aa ab ac ae TPaper APaper TRooms ARooms TFalls AFalls G24.F B N0.mono)
 have N25:=G25.fn Yw (zGn (k:=2) TClaim AClaim TSettles ASettles TComes AComes aa ab ac ae TPaper APaper TRooms ARooms TFalls AFalls G25.F B N24.mono)
 have N26:=G26.fn Yw (zM0 (k:=3) TClaim AClaim TSettles ASettles TComes AComes aa ab ac ae TPaper APaper TRooms ARooms TFalls AFalls G26.F B N25.mono N23.mono N5.mono)
 have N27:=G27.fn Yw (zGk (k:=0) TClaim AClaim TSettles ASettles TComes AComes aa ab ac ae TPaper APaper TRooms ARooms TFalls AFalls G27.F B )
 have N28:=G28.fn Yw (zGl (k:=4) TClaim AClaim TSettles ASettles TComes AComes aa ab ac ae TPaper APaper TRooms ARooms TFalls AFalls G28.F B N27.mono N26.mono)
 have N29:=G29.fn Yw (zGi (k:=5) TClaim AClaim TSettles ASettles TComes AComes aa ab ac ae TPaper APaper TRooms ARooms TFalls AFalls G29.F B N28.mono N22.mono N21.mono)
 have N30:=G30.fn Yw (zM2 (k:=6) TClaim AClaim TSettles ASettles TComes AComes aa ab ac ae TPaper APaper TRooms ARooms TFalls AFalls G30.F B N17.mono N27.mono N29.mono)
 have N31:=G31.fcd (ps:=["self","start","rows","turn"]) Yw GSettles (λ_ _ _ _ _ _ _=>L2.WI λ_ _ _ _=>⟨_,rfl,rfl⟩) (λ_ _ _ _ _ _ _ us hl=>match us,hl with | [_,_,_],_=>⟨_,rfl,rfl⟩) (zDm (k:=7) TClaim AClaim TSettles ASettles TComes AComes aa ab ac ae TPaper APaper TRooms ARooms TFalls AFalls G31.F B N3.mono)
 have N32:=G32.fc Yw GRooms (zEb (k:=7) TClaim AClaim TSettles ASettles TComes AComes aa ab ac ae TPaper APaper TRooms ARooms TFalls AFalls G32.F B N3.mono)
 have N33:=G33.fn Yw (zFW (k:=3) TClaim AClaim TSettles ASettles TComes AComes aa ab ac ae TPaper APaper TRooms ARooms TFalls AFalls G33.F B N24.mono N9.mono)
 have N34:=G34.fn Yw (zHS (k:=3) TClaim AClaim TSettles ASettles TComes AComes aa ab ac ae TPaper APaper TRooms ARooms TFalls AFalls G34.F B N9.mono)
 have N35:=G35.fn Yw (zFX (k:=7) TClaim AClaim TSettles ASettles TComes AComes aa ab ac ae TPaper APaper TRooms ARooms TFalls AFalls G35.F B N27.mono N30.mono)
 have N36:=G36.fn Yw (zGh (k:=5) TClaim AClaim TSettles ASettles TComes AComes aa ab ac ae TPaper APaper TRooms ARooms TFalls AFalls G36.F B N27.mono N28.mono)
 have N37:=G37.fn Yw (zEt (k:=8) TClaim AClaim TSettles ASettles TComes AComes aa ab ac ae TPaper APaper TRooms ARooms TFalls AFalls G37.F B N34.mono N33.mono N24.mono N28.mono N36.mono N35.mono)
 have N38_0:=G38.fn (ps:=["thing","claim","paper"]) Yw (zG.no (k:=1) (sp:=(zJ fNo)) (QC λ_ _ h=>h))
 have N38:=N38_0
 have N39:=G39.fn Yw (zJa (k:=9) TClaim AClaim TSettles ASettles TComes AComes aa ab ac ae TPaper APaper TRooms ARooms TFalls AFalls G39.F B N20.mono N37.mono N38.mono)
 have N40:=G40.fn Yw (zHR (k:=0) TClaim AClaim TSettles ASettles TComes AComes aa ab ac ae TPaper APaper TRooms ARooms TFalls AFalls G40.F B )
 have N41:=G41.fn Yw (zH8 (k:=0) TClaim AClaim TSettles ASettles TComes AComes aa ab ac ae TPaper APaper TRooms ARooms TFalls AFalls G41.F B )
 have N42:=G42.fn Yw (zIA (k:=0) TClaim AClaim TSettles ASettles TComes AComes aa ab ac ae TPaper APaper TRooms ARooms TFalls AFalls G42.F B )
 have N43:=G43.fn Yw (zM5 (k:=1) TClaim AClaim TSettles ASettles TComes AComes aa ab ac ae TPaper APaper TRooms ARooms TFalls AFalls G43.F B N41.mono N42.mono)
 have N44:=G44.fn Yw (zK0 (k:=0) TClaim AClaim TSettles ASettles TComes AComes aa ab ac ae TPaper APaper TRooms ARooms TFalls AFalls G44.F B )
 have N45:=G45.fn Yw (zK7 (k:=0) TClaim AClaim TSettles ASettles TComes AComes aa ab ac ae TPaper APaper TRooms ARooms TFalls AFalls G45.F B )
 have N46:=G46.fn Yw (zK3 (k:=8) TClaim AClaim TSettles ASettles TComes AComes aa ab ac ae TPaper APaper TRooms ARooms TFalls AFalls G46.F B N11.mono N15.mono)
 have N47:=G47.fn Yw (zM3 (k:=0) TClaim AClaim TSettles ASettles TComes AComes aa ab ac ae TPaper APaper TRooms ARooms TFalls AFalls G47.F B )
 have N48:=G48.fn Yw (zK2 (k:=1) TClaim AClaim TSettles ASettles TComes AComes aa ab ac ae TPaper APaper TRooms ARooms TFalls AFalls G48.F B N41.mono N42.mono)
 have N49:=G49.fn Yw (zJb (k:=2) TClaim AClaim TSettles ASettles TComes AComes aa ab ac ae TPaper APaper TRooms ARooms TFalls AFalls G49.F B N40.mono N48.mono)
 have N50:=G50.fn Yw (zIC (k:=1) TClaim AClaim TSettles ASettles TComes AComes aa ab ac ae TPaper APaper TRooms ARooms TFalls AFalls G50.F B N47.mono)
 have N51:=G51.fn Yw (zK6 (k:=0) TClaim AClaim TSettles ASettles TComes AComes aa ab ac ae TPaper APaper TRooms ARooms TFalls AFalls G51.F B )
 have N52:=G52.fn Yw (zJf (k:=2) TClaim AClaim TSettles ASettles TComes AComes aa ab ac ae TPaper APaper TRooms ARooms TFalls AFalls G52.F B N50.mono N47.mono)
 have N53:=G53.fn Yw (zK5 (k:=3) TClaim AClaim TSettles ASettles TComes AComes aa ab ac ae TPaper APaper TRooms ARooms TFalls AFalls G53.F B N51.mono N52.mono)
 have N54:=G54.fn Yw (zJh (k:=4) TClaim AClaim TSettles ASettles TComes AComes aa ab ac ae TPaper APaper TRooms ARooms TFalls AFalls G54.F B N41.mono N43.mono N53.mono N52.mono)
 have N55:=G55.fn Yw (zFY (k:=1) TClaim AClaim TSettles ASettles TComes AComes aa ab ac ae TPaper APaper TRooms ARooms TFalls AFalls G55.F B N41.mono N42.mono N47.mono)
 have N56:=G56.fn Yw (zEu (k:=2) TClaim AClaim TSettles ASettles TComes AComes aa ab ac ae TPaper APaper TRooms ARooms TFalls AFalls G56.F B N50.mono N45.mono)
 have N57:=G57.fn Yw (zFZ (k:=1) TClaim AClaim TSettles ASettles TComes AComes aa ab ac ae TPaper APaper TRooms ARooms TFalls AFalls G57.F B N44.mono N45.mono)
 have N58:=G58.fn Yw (zF3 (k:=3) TClaim AClaim TSettles ASettles TComes AComes aa ab ac ae TPaper APaper TRooms ARooms TFalls AFalls G58.F B N44.mono N56.mono)
 have N59:=G59.fn Yw (zJd (k:=5) TClaim AClaim TSettles ASettles TComes AComes aa ab ac ae TPaper APaper TRooms ARooms TFalls AFalls G59.F B N41.mono N54.mono N55.mono N58.mono N45.mono N44.mono N57.mono)
 have N60:=G60.fn Yw (zJe (k:=0) TClaim AClaim TSettles ASettles TComes AComes aa ab ac ae TPaper APaper TRooms ARooms TFalls AFalls G60.F B )
 have N61_0:=G61.fn (ps:=["_law_some","_law_cell"]) Yw (zG.no (k:=1) (sp:=(zJ (uo 0))) (QC λ_ _ h=>h))
 have N61_1:=G61.fn Yw (Jm (k:=1) (j:=0) TClaim AClaim TSettles ASettles TComes AComes aa ab ac ae TPaper APaper TRooms ARooms TFalls AFalls G61.F B N60.mono N61_0.mono)
 have N61_2:=G61.fn Yw (Jm (k:=2) (j:=1) TClaim AClaim TSettles ASettles TComes AComes aa ab ac ae TPaper APaper TRooms ARooms TFalls AFalls G61.F B N60.mono N61_1.mono)
 have N61_3:=G61.fn Yw (Jm (k:=3) (j:=2) TClaim AClaim TSettles ASettles TComes AComes aa ab ac ae TPaper APaper TRooms ARooms TFalls AFalls G61.F B N60.mono N61_2.mono)
 have N61:=N61_3
 have N62:=G62.fn Yw (zHQ (k:=0) TClaim AClaim TSettles ASettles TComes AComes aa ab ac ae TPaper APaper TRooms ARooms TFalls AFalls G62.F B )
 have N63:=G63.fn Yw (zIB (k:=1) TClaim AClaim TSettles ASettles TComes AComes aa ab ac ae TPaper APaper TRooms ARooms TFalls AFalls G63.F B N62.mono)
 have N64:=G64.fn Yw (zK1 (k:=2) TClaim AClaim TSettles ASettles TComes AComes aa ab ac ae TPaper APaper TRooms ARooms TFalls AFalls G64.F B N63.mono)
 have N65:=G65.fn Yw (zJi (k:=3) TClaim AClaim TSettles ASettles TComes AComes aa ab ac ae TPaper APaper TRooms ARooms TFalls AFalls G65.F B N64.mono)
 have N66:=G66.fn Yw (zJg (k:=4) TClaim AClaim TSettles ASettles TComes AComes aa ab ac ae TPaper APaper TRooms ARooms TFalls AFalls G66.F B N65.mono)
 have N67:=G67.fn Yw (zK4 (k:=5) TClaim AClaim TSettles ASettles TComes AComes aa ab ac ae TPaper APaper TRooms ARooms TFalls AFalls G67.F B N66.mono)
 have N68:=G68.fn Yw (zJc (k:=2) TClaim AClaim TSettles ASettles TComes AComes aa ab ac ae TPaper APaper TRooms ARooms TFalls AFalls G68.F B N41.mono N63.mono)
 have N69:=G69.fn Yw (zID (k:=4) TClaim AClaim TSettles ASettles TComes AComes aa ab ac ae TPaper APaper TRooms ARooms TFalls AFalls G69.F B N64.mono N65.mono N63.mono)
 have N70:=G70.fn Yw (zM4 (k:=6) TClaim AClaim TSettles ASettles TComes AComes aa ab ac ae TPaper APaper TRooms ARooms TFalls AFalls G70.F B N67.mono N68.mono N69.mono)
 have N71:=G71.fn Yw (zH9 (k:=4) TClaim AClaim TSettles ASettles TComes AComes aa ab ac ae TPaper APaper TRooms ARooms TFalls AFalls G71.F B N61.mono)
 exact zQR (k:=9) TClaim AClaim TSettles ASettles TComes AComes aa ab ac ae TPaper APaper TRooms ARooms TFalls AFalls G72.F B N49.mono N59.mono N40.mono N71.mono N32.mono N31.mono N44.mono N39.mono N46.mono N70.mono N68.mono N67.mono
def zLD (o:Obj):Bool:=match o.cls with
 | .type t=>!(t == "list")
 | _=>true
theorem nolist {K:PySem.W.Frag} (h:K.all (λp=>zLD p.2)=true) (a:Addr) (o:Obj) (e:K.lookup a=some o):o.cls≠.type "list":=λz=>by
 have m:∃ b,(b,o)∈K:=by
  clear h
  induction K with
  | nil=>cases e
  | cons p K ih=>
   obtain ⟨b,o'⟩:=p
   rw [List.lookup_cons] at e
   cases q:a == b with
   | true=>rw [q] at e; cases e; exact ⟨b,List.mem_cons_self⟩
   | false=>rw [q] at e; obtain ⟨c,hc⟩:=ih e; exact ⟨c,List.mem_cons_of_mem _ hc⟩
 obtain ⟨b,hb⟩:=m
 have:=List.all_eq_true.mp h _ hb
 unfold zLD at this
 rw [z] at this
 exact absurd this (by decide)
theorem walk {l:PySem.W.OpenLaw} {q:Program} {loose:List Str} {XP:(Str->Option Value)->Heap->Prop} {YP:World->Heap->Prop} {d:DefRec} {K:Params->PySem.W.Frag} (hn:l.most=some 63) (hdf:d.params.defaults=[])
  (hY:∀ (w:World) (h:Heap),YP w h->(K w.params).In h)
  (hL:∀ (p:Params) (a:Addr) (o:Obj),(K p).lookup a=some o->o.cls≠.type "list")
  (F:∀ (w:World) (mg:Str->Option Value) (fa:Addr) (h:Heap),(K w.params).In h->h.Ns mainGlobals mg->mg d.name=some (.ref fa)->
   ∃ fd:FuncData,(∀ (s:Shared) (u:Value),BindsTo s fd ⟨[u],[]⟩ [("_law_script",u)])/\∀ base:Heap,(K w.params).In base->base.Ns mainGlobals mg->zG l.prog w (K w.params) mg base zX 11 fa fd ["_law_script"] (zJ uu)) :
  PySem.W.WalkO q loose XP YP l.row.toRowW d [] (λf vs=>PySem.call f vs):=
 L2.zOI (n:=63) (k:=11) (x:="_law_script") (CX:=λ_=>zX) (sp:=λ_=>zJ uu) hn (by decide) hdf ⟨rfl,by decide,by decide⟩ hY F (λw H a ns _ _ hS=>⟨λ_=>False,[.scr ns],λd=>d=.bool true,λ_ z=>z.elim,.cons (.scr (kG (λb o e=>(vR (λz=>z)).trans e) (hS.elim id λ⟨o,_,_,h1,h2,_⟩=>absurd h2 (hL w.params a o h1)))) .nil,⟨ns,rfl,rfl⟩,λd v H2 e _ h=>by subst e; cases h; rfl⟩) λ_ _ _ _ _ z=>z
end K53
open PySem PySem.W PyProof.Rows
set_option maxRecDepth 100000 in
set_option maxHeartbeats 0 in
theorem PySem.Challenge.cw_steadyhand_k53_whole_papers_of_rooms_hol_holds : PySem.Challenge.rw_steadyhand_k53_whole_papers_of_rooms_hol.Holds := by
 w_on; o_law
 refine holds_open (q:=H53.vw) (loose:=H53.lo) (Xt:=H53.xt) (XP:=XL H53.vw []) (Yf:=(kHook H53.KK H53.ks H53.ke).obs) (Ya:=(kHook H53.KK H53.ks H53.ke).val) (YP:=(kHook H53.KK H53.ks H53.ke).says) H53.left
  (kHook H53.KK H53.ks H53.ke).of (kHook H53.KK H53.ks H53.ke).keeps
  (λs e=>xl_of s (Bool.and_eq_true_iff.mp e).1) XL.keeps (by rfl) (by rfl) (by rfl)
  (λs e=>recFacts_of (Bool.and_eq_true_iff.mp e).2) (by rfl) (by assumption) (by decide +kernel)
  ⟨rfl,rfl,rfl,rfl,rfl,by decide +kernel⟩ ?hw ?hc
 case hw=>w_witness2
 rename_i sd
 clear sd
 k_fill
 refine K53.walk (l:=PySem.Challenge.rw_steadyhand_k53_whole_papers_of_rooms_hol) rfl rfl (λw h Y=>PySem.W.kIn_of Y) (λp a o=>K53.nolist (K:=H53.KK p) (by kernel_rfl) a o) ?F
 case F=>
  intro w mg fa h KX G hmg
  refine' K53.all_mk KX G hmg ?g_Claim ?g_Settles ?g_Comes ?g_Mode ?g_Thing ?g_Paper ?g_Rooms ?g_Falls ?_ ?_ ?_ ?_ ?_ ?_ ?_ ?_ ?_ ?_ ?_ ?_ ?_ ?_ ?_ ?_ ?_ ?_ ?_ ?_ ?_ ?_ ?_ ?_ ?_ ?_ ?_ ?_ ?_ ?_ ?_ ?_ ?_ ?_ ?_ ?_ ?_ ?_ ?_ ?_ ?_ ?_ ?_ ?_ ?_ ?_ ?_ ?_ ?_ ?_ ?_ ?_ ?_ ?_ ?_ ?_ ?_ ?_ ?_ ?_ ?_ ?_ ?_ ?_ ?_ ?_ ?_ ?_ ?_ ?_ ?_ ?_ ?_ ?_ ?_ ?_ ?_ ?_ ?_ ?_ ?_ ?_ ?_ ?_ ?_ ?_ ?_ ?_ ?_ ?_ ?_ ?_ ?_ ?_ ?_ ?_ ?_ ?_ ?_ ?_ ?_ ?_ ?_ ?_ ?_ ?_ ?_ ?_ ?_ ?_ ?_ ?_ ?_ ?_ ?_ ?_ ?_ ?_ ?_
  (case g_Claim=>refine' L2.Gc.mk ?a ?b ?c ?d ?e ?f ?g ?h ?i ?j ?k; (case a=>k_is); (case b=>k_is); (case c=>k_is); (case d=>k_is); (case e=>k_is); (case f=>k_is); (case g=>k_is); (case h=>k_is); (case i=>k_is); (case j=>k_is); (case k=>k_is))
  (case g_Settles=>refine' L2.Gc.mk ?a ?b ?c ?d ?e ?f ?g ?h ?i ?j ?k; (case a=>k_is); (case b=>k_is); (case c=>k_is); (case d=>k_is); (case e=>k_is); (case f=>k_is); (case g=>k_is); (case h=>k_is); (case i=>k_is); (case j=>k_is); (case k=>k_is))
  (case g_Comes=>refine' L2.Gc.mk ?a ?b ?c ?d ?e ?f ?g ?h ?i ?j ?k; (case a=>k_is); (case b=>k_is); (case c=>k_is); (case d=>k_is); (case e=>k_is); (case f=>k_is); (case g=>k_is); (case h=>k_is); (case i=>k_is); (case j=>k_is); (case k=>k_is))
  (case g_Mode=>refine' L2.Gc.mk ?a ?b ?c ?d ?e ?f ?g ?h ?i ?j ?k; (case a=>k_is); (case b=>k_is); (case c=>k_is); (case d=>k_is); (case e=>k_is); (case f=>k_is); (case g=>k_is); (case h=>k_is); (case i=>k_is); (case j=>k_is); (case k=>k_is))
  (case g_Thing=>refine' L2.Gc.mk ?a ?b ?c ?d ?e ?f ?g ?h ?i ?j ?k; (case a=>k_is); (case b=>k_is); (case c=>k_is); (case d=>k_is); (case e=>k_is); (case f=>k_is); (case g=>k_is); (case h=>k_is); (case i=>k_is); (case j=>k_is); (case k=>k_is))
  (case g_Paper=>refine' L2.Gc.mk ?a ?b ?c ?d ?e ?f ?g ?h ?i ?j ?k; (case a=>k_is); (case b=>k_is); (case c=>k_is); (case d=>k_is); (case e=>k_is); (case f=>k_is); (case g=>k_is); (case h=>k_is); (case i=>k_is); (case j=>k_is); (case k=>k_is))
  (case g_Rooms=>refine' L2.Gc.mk ?a ?b ?c ?d ?e ?f ?g ?h ?i ?j ?k; (case a=>k_is); (case b=>k_is); (case c=>k_is); (case d=>k_is); (case e=>k_is); (case f=>k_is); (case g=>k_is); (case h=>k_is); (case i=>k_is); (case j=>k_is); (case k=>k_is))
  (case g_Falls=>refine' L2.Gc.mk ?a ?b ?c ?d ?e ?f ?g ?h ?i ?j ?k; (case a=>k_is); (case b=>k_is); (case c=>k_is); (case d=>k_is); (case e=>k_is); (case f=>k_is); (case g=>k_is); (case h=>k_is); (case i=>k_is); (case j=>k_is); (case k=>k_is))
  any_goals first | (refine' L2.Gc.mk ?a ?b ?c ?d ?e ?f ?g ?h ?i ?j ?k; (case a=>k_is); (case b=>k_is); (case c=>k_is); (case d=>k_is); (case e=>k_is); (case f=>k_is); (case g=>k_is); (case h=>k_is); (case i=>k_is); (case j=>k_is); (case k=>k_is)) | (refine' L2.YH ?a ?l ?c ?k; (case a=>k_is); (case l=>k_is); (case c=>k_is); (case k=>k_is)) | (refine' L2.YI ?a ?i ?l ?c ?k; (case a=>k_is); (case i=>k_is); (case l=>k_is); (case c=>k_is); (case k=>k_is)) | (refine' L2.YJ ?a ?l ?c ?k ?d; (case a=>k_is); (case l=>k_is); (case c=>k_is); (case k=>k_is); (case d=>k_is)) | (refine' L2.YK ?a ?z ?l ?c ?k ?d; (case a=>k_is); (case z=>k_is); (case l=>k_is); (case c=>k_is); (case k=>k_is); (case d=>k_is)) | k_is
#print axioms PySem.Challenge.cw_steadyhand_k53_whole_papers_of_rooms_hol_holds
