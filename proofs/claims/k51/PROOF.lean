import PyProof.Rows.All
import Wide.All
import OpenK.AllK
import Wide.FinOn
import Lean
import PyProof.EqAt
import PyProof.EqKinds
import PyProof.TupleCall
import PyProof.ZipIter
import PyProof.Draws
import PyProof.StationsW
import PyProof.EnumStmt
import PyProof.EnumMake
import PyProof.CallType
import PyProof.Rows.CallKwBuiltin
import PyProof.EnumIter
import PyProof.Rows.SeqMore
import PySem.Challenge.RW_steadyhand_k51_papers_of_rooms
set_option Elab.async false
set_option linter.all false
set_option maxRecDepth 100000
set_option maxHeartbeats 0
namespace TT
open PySem PySem.W
def runT (tb:String->Option Builtin) (p:Program) (w:World) (k:Nat) (an:Option Value):Nat->SharedT->Thread->Option SharedT
 | 0,_,_=>none
 | j + 1,x,t=>match through t with
  | true=>some x
  | false=>match stepOk k an t with
   | false=>none
   | true=>match stepT (denote tb) p w x t with
    | none=>none
    | some y=>runT tb p w k an j y.1 y.2
theorem Q8 {tb:String->Option Builtin} {p:Program} {w:World} {k:Nat} {an:Option Value}:∀ (j:Nat) (x y:SharedT) (t:Thread),runT tb p w k an j x t=some y->topRun tb p w k an j x.abs t=some y.abs
 | 0,_,_,_,e=>by cases e
 | j + 1,x,y,t,e=>by
  unfold runT at e
  unfold topRun
  cases e1:through t with
  | true=>
   rw [e1] at e
   cases e
   rfl
  | false=>
   rw [e1] at e
   cases e2:stepOk k an t with
   | false=>rw [e2] at e; cases e
   | true=>
    rw [e2] at e
    cases e3:stepT (denote tb) p w x t with
    | none=>rw [e3] at e; cases e
    | some z=>
     rw [e3] at e
     rw [stepT_spec e3]
     exact Q8 j z.1 y z.2 e
theorem left_is {p q:Program} {lo:List Str} {xt:Shared->Bool} {α:Type} {Yf:Shared->α} {Ya:World->α} {N k n0:Nat} {an:Option Value} {tr:Params->BT} (op:∀ w:World,(fencedOpening treeTable p w N).map (λs=>(s.heap,s.gens,s.drawn,s.toks))=some (boot_heap w.params,Array.mk [],boot_drawn,boot_toks))
  (et:∀ P:Params,absHeap (tr P) n0 (boot_heap P).life=boot_heap P) (z1:∀ P:Params,(boot_heap P).isNs mainGlobals=true) (z2:∀ P:Params,(boot_heap P).objs.size=k) (z3:∀ P:Params,(boot_heap P).nsMap mainGlobals "__annotations__" = an)
  (h:∀ (w:World) (os:OsState),(runT treeTable p w k an N ⟨tr w.params,n0,(boot_heap w.params).life,Array.mk [],boot_drawn,boot_toks,os⟩ (topStub p)).map (λs=>((staticsOk (importedModules p.main.body) (boot_heap w.params) s.abs.heap && namesBound p s.abs.heap && gensDone s.abs && laidKept (boot_heap w.params) s.abs.heap),openSeen q lo (importedModules p.main.body) xt true s.abs,Yf s.abs))=some (true,openGood q lo,Ya w)) :
  LeftO p q lo xt Yf Ya N:=λw=>by
 obtain ⟨⟨hp,gs,d,tk,os⟩,e,e'⟩:=Option.map_eq_some_iff.mp (op w)
 injection e' with a1 e'
 injection e' with a2 e'
 injection e' with a3 a4
 subst a1 a2 a3 a4
 obtain ⟨y,ey,eo⟩:=Option.map_eq_some_iff.mp (h w os)
 injection eo with l1 eo
 injection eo with l2 l3
 have r:=Q8 _ _ _ _ ey
 have r':topRun treeTable p w k an N ⟨boot_heap w.params,Array.mk [],boot_drawn,boot_toks,os⟩ (topStub p)=some y.abs:=by
  rw [<- r]
  unfold SharedT.abs
  rw [et]
 have f:topFrom treeTable p w N ⟨boot_heap w.params,Array.mk [],boot_drawn,boot_toks,os⟩=some y.abs:=by
  unfold topFrom
  show (match (boot_heap w.params).isNs mainGlobals && true with | true=>_ | false=>_)=_
  rw [z1,z2,z3,r']
  show (match (_ && _ && _ && _) with | true=>_ | false=>_)=_
  rw [l1]
 unfold openEnds
 rw [e]
 show (topFrom treeTable p w N _).map _=_
 rw [f]
 exact congrArg some (Prod.ext l2 l3)
end TT
namespace H51
open PySem PySem.W
set_option maxRecDepth 100000
def hT (i:Nat):Stmt:=PySem.Challenge.pw_steadyhand_k51_papers_of_rooms.main.body.getD i (.Pass ⟨0,0,0,0⟩)
def hI (i j:Nat):Stmt:=match hT i with
 | .ClassDef _ _ _ b _ _ _ _ _ _ _=>b.getD j (.Pass ⟨0,0,0,0⟩)
 | s=>s
def hA:Stmt->Arguments
 | .FunctionDef _ a _ _ _ _ _ _ _ _=>a
 | _=>⟨[],[],none,[],[],none,[]⟩
def hB:Stmt->List Stmt
 | .FunctionDef _ _ b _ _ _ _ _ _ _=>b
 | _=>[]
def hC:Stmt->Scope
 | .FunctionDef _ _ _ _ _ _ c _ _ _=>c
 | _=>{ kind:=.function,names:=[],isGenerator:=false,isCoroutine:=false }
abbrev hS (s:String) (n:Nat):Value:=.str (Str.ofString s) n
abbrev hE (P:Params) (s:String) (n:Nat) (v:Value):DictEntry:=⟨PyData.keyHash P (Str.ofString s),hS s n,v⟩
abbrev hU (x:Array Value):Obj:={ cls:=.type "tuple",data:=.seq x }
abbrev hD (s:String) (a:Nat) (s2:String) (b c:Nat) (i j f:Int) (r1 r2:Nat) (u v t r:Value) (y z:Int) (d:Nat):Obj:={ cls:=.type "code",data:=.fields #[hS s a,hS s2 b,hS "/claim/cut.py" c,.int i 0,.int j 0,.int 0 0,.int 0 0,.int f 0,.ref r1,.bool true,.int 181 0,.ref r2,u,v,t,r,.int y 0,.int z 0,hS "/claim/cut.py" d] }
abbrev hF (n q:String) (s:Stmt) (d k:Value) (m:String) (j c:Nat):Obj:={ cls:=.type "function",data:=.func { name:=n,qualname:=q,params:=hA s,body:=.stmts (hB s),scope:=hC s,globals:=3,closure:=[],defaults:=d,kwdefaults:=k,pyModule:=hS m j,code:=.ref c } }
noncomputable def KK:Params->Frag:=λP=>
 (nat_lit 2,{ cls:=.none,data:=.dict #[] })::(nat_lit 3,{ cls:=.type "dict",data:=.dict #[hE P "__name__" 165 (hS "law_steadyhand_k51_papers_of_rooms" 852),hE P "__doc__" 166 (.none),hE P "__package__" 167 (.none),hE P "__loader__" 168 (.builtin "__main__.__loader__#opaque"),hE P "__spec__" 169 (.none),hE P "__annotations__" 170 (.ref 6),hE P "__builtins__" 171 (.ref 4),hE P "__file__" 173 (hS "/claim/cut.py" 172),hE P "__cached__" 174 (.none),hE P "_wall" 193 (.ref 21),hE P "SteadyError" 213 (.ref 31),hE P "BadThing" 229 (.ref 44),hE P "TooMany" 245 (.ref 56),hE P "NotClosed" 261 (.ref 68),hE P "is_whole" 270 (.ref 77),hE P "is_numbers" 278 (.ref 82),hE P "is_table" 284 (.ref 87),hE P "copied" 291 (.ref 93),hE P "unit" 298 (.ref 99),hE P "scaled" 304 (.ref 104),hE P "mixed" 310 (.ref 109),hE P "paired" 316 (.ref 114),hE P "added_up" 322 (.ref 119),hE P "Claim" 344 (.ref 129),hE P "Settles" 374 (.ref 151),hE P "Comes" 403 (.ref 170),hE P "is_row" 411 (.ref 177),hE P "is_room" 417 (.ref 182),hE P "single" 427 (.ref 189),hE P "other_side" 433 (.ref 194),hE P "standing" 441 (.ref 199),hE P "reach" 452 (.ref 206),hE P "added" 463 (.ref 213),hE P "is_from_0_on" 470 (.ref 220),hE P "are_shares" 476 (.ref 225),hE P "shows" 482 (.ref 230),hE P "MOST_NUMBERS" 486 (.int 3 485),hE P "MOST_PUSHES" 488 (.int 6 487),hE P "MOST_MODES" 490 (.int 40 489),hE P "Mode" 529 (.ref 247),hE P "Thing" 589 (.ref 294),hE P "is_sound" 595 (.ref 303),hE P "is_push" 602 (.ref 310),hE P "is_mode" 611 (.ref 317),hE P "is_unsteered" 617 (.ref 322),hE P "ask_closed" 624 (.ref 329),hE P "Paper" 646 (.ref 339),hE P "Rooms" 679 (.ref 360),hE P "Falls" 720 (.ref 379),hE P "lets_by" 729 (.ref 388),hE P "is_list_of" 737 (.ref 395),hE P "each_shown" 743 (.ref 400),hE P "settles_over" 751 (.ref 407),hE P "comes_over" 759 (.ref 414),hE P "lets_rooms_by" 768 (.ref 421),hE P "are_rooms" 774 (.ref 426),hE P "rooms_follow" 780 (.ref 431),hE P "leads" 786 (.ref 436),hE P "mode_leads" 792 (.ref 441),hE P "rooms_stay" 798 (.ref 446),hE P "lets_fall_by" 807 (.ref 453),hE P "height_at_most" 815 (.ref 460),hE P "height_from_0_on" 821 (.ref 465),hE P "fall_row" 833 (.ref 472),hE P "floors_hold" 839 (.ref 477),hE P "falls_hold" 845 (.ref 482),hE P "mode_falls" 851 (.ref 487),hE P "_law_cell_at" 861 (.ref 494),hE P "_law_stream" 873 (.ref 501),hE P "_law_number" 881 (.ref 508),hE P "_law_mode" 887 (.ref 513),hE P "_law_thing" 903 (.ref 520),hE P "_law_made" 909 (.ref 525),hE P "_law_box" 922 (.ref 532),hE P "_law_rows" 928 (.ref 537),hE P "_law_top" 939 (.ref 544),hE P "_law_beyond" 945 (.ref 549),hE P "_law_image" 951 (.ref 554),hE P "_law_hull" 957 (.ref 559),hE P "_law_kept" 966 (.ref 566),hE P "_law_both" 975 (.ref 573),hE P "_law_step_shares" 981 (.ref 578),hE P "_law_box_steps" 987 (.ref 583),hE P "_law_box_starts" 996 (.ref 590),hE P "_law_boxes" 1008 (.ref 597),hE P "_law_claim_rows" 1014 (.ref 602),hE P "_law_parts" 1020 (.ref 607),hE P "_law_whole" 1027 (.ref 614),hE P "_law_list" 1035 (.ref 621),hE P "_law_shows" 1041 (.ref 626),hE P "_law_all_show" 1047 (.ref 631),hE P "_law_reach" 1053 (.ref 636),hE P "_law_standing" 1059 (.ref 641),hE P "_law_steps_show" 1065 (.ref 646),hE P "_law_right" 1083 (.ref 653),hE P "_law_other" 1096 (.ref 660),hE P "_law_changed" 1105 (.ref 667),hE P "_law_spoilt" 1123 (.ref 674),hE P "law" 1141 (.ref 681)] 99 })::(nat_lit 15,hU #[])::(nat_lit 17,hU #[hS "k" 190])::(nat_lit 18,hU #[])::(nat_lit 20,hD "_wall" 187 "_wall" 188 189 1 1 3 15 16 .none (.ref 17) (.ref 18) (.ref 19) 191 1 192)::(nat_lit 21,hF "_wall" "_wall" (hT 0) .none .none "__main__" 164 20)::(nat_lit 22,hU #[.type "ValueError"])::(nat_lit 29,hU #[])::(nat_lit 30,{ cls:=.type "dict",data:=.dict #[hE P "__module__" 203 (hS "steadyhand.errors" 194),hE P "__firstlineno__" 207 (.int 5 206),hE P "__static_attributes__" 208 (.ref 29),hE P "__weakref__" 210 (.ref 32),hE P "__doc__" 211 (.none)] 3 })::(nat_lit 31,{ cls:=.type "type",data:=.cls { name:="SteadyError",bases:=[.type "ValueError"],mro:=[.ref 31,.type "ValueError",.type "Exception",.type "BaseException",.type "object"],ns:=30,qualname:="SteadyError",subclasses:=[.ref 44,.ref 56,.ref 68] },slots:=#[some (.ref 22),none,some (hS "SteadyError" 196),some (hS "SteadyError" 204),some (.builtin "ValueError.__new__"),some (.bool true)] })::(nat_lit 32,{ cls:=.type "getset_descriptor",data:=.fields #[hS "__weakref__" 209,.ref 31,.builtin "ExceptionGroup.__weakref__",.none] })::(nat_lit 35,hU #[.ref 31])::(nat_lit 42,hU #[])::(nat_lit 43,{ cls:=.type "dict",data:=.dict #[hE P "__module__" 221 (hS "steadyhand.errors" 194),hE P "__firstlineno__" 225 (.int 7 224),hE P "__static_attributes__" 226 (.ref 42),hE P "__doc__" 227 (.none)] 2 })::(nat_lit 44,{ cls:=.type "type",data:=.cls { name:="BadThing",bases:=[.ref 31],mro:=[.ref 44,.ref 31,.type "ValueError",.type "Exception",.type "BaseException",.type "object"],ns:=43,qualname:="BadThing" },slots:=#[some (.ref 35),none,some (hS "BadThing" 214),some (hS "BadThing" 222),some (.builtin "ValueError.__new__"),some (.bool true)] })::(nat_lit 47,hU #[.ref 31])::(nat_lit 54,hU #[])::(nat_lit 55,{ cls:=.type "dict",data:=.dict #[hE P "__module__" 237 (hS "steadyhand.errors" 194),hE P "__firstlineno__" 241 (.int 9 240),hE P "__static_attributes__" 242 (.ref 54),hE P "__doc__" 243 (.none)] 2 })::(nat_lit 56,{ cls:=.type "type",data:=.cls { name:="TooMany",bases:=[.ref 31],mro:=[.ref 56,.ref 31,.type "ValueError",.type "Exception",.type "BaseException",.type "object"],ns:=55,qualname:="TooMany" },slots:=#[some (.ref 47),none,some (hS "TooMany" 230),some (hS "TooMany" 238),some (.builtin "ValueError.__new__"),some (.bool true)] })::(nat_lit 59,hU #[.ref 31])::(nat_lit 66,hU #[])::(nat_lit 67,{ cls:=.type "dict",data:=.dict #[hE P "__module__" 253 (hS "steadyhand.errors" 194),hE P "__firstlineno__" 257 (.int 11 256),hE P "__static_attributes__" 258 (.ref 66),hE P "__doc__" 259 (.none)] 2 })::(nat_lit 68,{ cls:=.type "type",data:=.cls { name:="NotClosed",bases:=[.ref 31],mro:=[.ref 68,.ref 31,.type "ValueError",.type "Exception",.type "BaseException",.type "object"],ns:=67,qualname:="NotClosed" },slots:=#[some (.ref 59),none,some (hS "NotClosed" 246),some (hS "NotClosed" 254),some (.builtin "ValueError.__new__"),some (.bool true)] })::(nat_lit 71,hU #[])::(nat_lit 73,hU #[hS "thing" 267])::(nat_lit 74,hU #[])::(nat_lit 76,hD "is_whole" 264 "is_whole" 265 266 14 1 3 71 72 .none (.ref 73) (.ref 74) (.ref 75) 268 14 269)::(nat_lit 77,hF "is_whole" "is_whole" (hT 7) .none .none "steadyhand.fractions" 262 76)::(nat_lit 78,hU #[])::(nat_lit 81,hD "is_numbers" 273 "is_numbers" 274 275 17 2 3 78 79 .none .none .none (.ref 80) 276 17 277)::(nat_lit 82,hF "is_numbers" "is_numbers" (hT 9) .none .none "steadyhand.tables" 271 81)::(nat_lit 83,hU #[])::(nat_lit 86,hD "is_table" 279 "is_table" 280 281 19 3 3 83 84 .none .none .none (.ref 85) 282 19 283)::(nat_lit 87,hF "is_table" "is_table" (hT 10) .none .none "steadyhand.tables" 271 86)::(nat_lit 88,hU #[.int 5 285])::(nat_lit 89,hU #[])::(nat_lit 92,hD "copied" 286 "copied" 287 288 21 2 3 89 90 .none .none .none (.ref 91) 289 21 290)::(nat_lit 93,hF "copied" "copied" (hT 11) (.ref 88) .none "steadyhand.tables" 271 92)::(nat_lit 94,hU #[.int 1 292])::(nat_lit 95,hU #[])::(nat_lit 98,hD "unit" 293 "unit" 294 295 29 3 3 95 96 .none .none .none (.ref 97) 296 29 297)::(nat_lit 99,hF "unit" "unit" (hT 12) (.ref 94) .none "steadyhand.tables" 271 98)::(nat_lit 100,hU #[])::(nat_lit 103,hD "scaled" 299 "scaled" 300 301 31 2 3 100 101 .none .none .none (.ref 102) 302 31 303)::(nat_lit 104,hF "scaled" "scaled" (hT 13) .none .none "steadyhand.tables" 271 103)::(nat_lit 105,hU #[])::(nat_lit 108,hD "mixed" 305 "mixed" 306 307 33 4 3 105 106 .none .none .none (.ref 107) 308 33 309)::(nat_lit 109,hF "mixed" "mixed" (hT 14) .none .none "steadyhand.tables" 271 108)::(nat_lit 110,hU #[])::(nat_lit 113,hD "paired" 311 "paired" 312 313 35 2 3 110 111 .none .none .none (.ref 112) 314 35 315)::(nat_lit 114,hF "paired" "paired" (hT 15) .none .none "steadyhand.tables" 271 113)::(nat_lit 115,hU #[])::(nat_lit 118,hD "added_up" 317 "added_up" 318 319 37 3 3 115 116 .none .none .none (.ref 117) 320 37 321)::(nat_lit 119,hF "added_up" "added_up" (hT 16) .none .none "steadyhand.tables" 271 118)::(nat_lit 127,hU #[])::(nat_lit 128,{ cls:=.type "dict",data:=.dict #[hE P "__module__" 332 (hS "steadyhand.claims" 323),hE P "__firstlineno__" 336 (.int 40 335),hE P "__static_attributes__" 337 (.ref 127),hE P "__dict__" 339 (.ref 130),hE P "__weakref__" 341 (.ref 131),hE P "__doc__" 342 (.none)] 4 })::(nat_lit 129,{ cls:=.type "type",data:=.cls { name:="Claim",bases:=[.type "object"],mro:=[.ref 129,.type "object"],ns:=128,qualname:="Claim",subclasses:=[.ref 151,.ref 170] },slots:=#[none,none,some (hS "Claim" 325),some (hS "Claim" 333),some (.builtin "object.__new__"),some (.bool true)] })::(nat_lit 130,{ cls:=.type "getset_descriptor",data:=.fields #[hS "__dict__" 338,.ref 129,.builtin "function.__dict__",.builtin "function.__dict__#set"] })::(nat_lit 131,{ cls:=.type "getset_descriptor",data:=.fields #[hS "__weakref__" 340,.ref 129,.builtin "ExceptionGroup.__weakref__",.none] })::(nat_lit 134,hU #[.ref 129])::(nat_lit 141,hU #[.int 0 357])::(nat_lit 142,hU #[])::(nat_lit 144,hU #[hS "self" 361,hS "start" 362,hS "rows" 363,hS "turn" 364])::(nat_lit 145,hU #[])::(nat_lit 147,hD "__init__" 358 "Settles.__init__" 359 360 44 4 3 142 143 .none (.ref 144) (.ref 145) (.ref 146) 365 44 366)::(nat_lit 148,hF "__init__" "Settles.__init__" (hI 19 0) (.ref 141) .none "steadyhand.claims" 323 147)::(nat_lit 149,hU #[hS "rows" 368,hS "start" 369,hS "turn" 370])::(nat_lit 150,{ cls:=.type "dict",data:=.dict #[hE P "__module__" 352 (hS "steadyhand.claims" 323),hE P "__firstlineno__" 356 (.int 42 355),hE P "__init__" 367 (.ref 148),hE P "__static_attributes__" 371 (.ref 149),hE P "__doc__" 372 (.none)] 2 })::(nat_lit 151,{ cls:=.type "type",data:=.cls { name:="Settles",bases:=[.ref 129],mro:=[.ref 151,.ref 129,.type "object"],ns:=150,qualname:="Settles" },slots:=#[some (.ref 134),none,some (hS "Settles" 345),some (hS "Settles" 353),some (.builtin "object.__new__"),some (.bool true)] })::(nat_lit 154,hU #[.ref 129])::(nat_lit 161,hU #[])::(nat_lit 163,hU #[hS "self" 390,hS "start" 391,hS "goal" 392,hS "turns" 393])::(nat_lit 164,hU #[])::(nat_lit 166,hD "__init__" 387 "Comes.__init__" 388 389 50 4 3 161 162 .none (.ref 163) (.ref 164) (.ref 165) 394 50 395)::(nat_lit 167,hF "__init__" "Comes.__init__" (hI 20 0) .none .none "steadyhand.claims" 323 166)::(nat_lit 168,hU #[hS "goal" 397,hS "start" 398,hS "turns" 399])::(nat_lit 169,{ cls:=.type "dict",data:=.dict #[hE P "__module__" 382 (hS "steadyhand.claims" 323),hE P "__firstlineno__" 386 (.int 48 385),hE P "__init__" 396 (.ref 167),hE P "__static_attributes__" 400 (.ref 168),hE P "__doc__" 401 (.none)] 2 })::(nat_lit 170,{ cls:=.type "type",data:=.cls { name:="Comes",bases:=[.ref 129],mro:=[.ref 170,.ref 129,.type "object"],ns:=169,qualname:="Comes" },slots:=#[some (.ref 154),none,some (hS "Comes" 375),some (hS "Comes" 383),some (.builtin "object.__new__"),some (.bool true)] })::(nat_lit 173,hU #[])::(nat_lit 176,hD "is_row" 406 "is_row" 407 408 55 2 3 173 174 .none .none .none (.ref 175) 409 55 410)::(nat_lit 177,hF "is_row" "is_row" (hT 22) .none .none "steadyhand.rows" 404 176)::(nat_lit 178,hU #[])::(nat_lit 181,hD "is_room" 412 "is_room" 413 414 57 2 3 178 179 .none .none .none (.ref 180) 415 57 416)::(nat_lit 182,hF "is_room" "is_room" (hT 23) .none .none "steadyhand.rows" 404 181)::(nat_lit 183,hU #[])::(nat_lit 185,hU #[hS "place" 421,hS "many" 422,hS "number" 423,hS "bound" 424])::(nat_lit 186,hU #[])::(nat_lit 188,hD "single" 418 "single" 419 420 59 4 3 183 184 .none (.ref 185) (.ref 186) (.ref 187) 425 59 426)::(nat_lit 189,hF "single" "single" (hT 24) .none .none "steadyhand.rows" 404 188)::(nat_lit 190,hU #[])::(nat_lit 193,hD "other_side" 428 "other_side" 429 430 61 1 3 190 191 .none .none .none (.ref 192) 431 61 432)::(nat_lit 194,hF "other_side" "other_side" (hT 25) .none .none "steadyhand.rows" 404 193)::(nat_lit 195,hU #[])::(nat_lit 198,hD "standing" 436 "standing" 437 438 64 2 3 195 196 .none .none .none (.ref 197) 439 64 440)::(nat_lit 199,hF "standing" "standing" (hT 27) .none .none "steadyhand.reach" 434 198)::(nat_lit 200,hU #[])::(nat_lit 202,hU #[hS "thing" 445,hS "mode" 446,hS "row" 447,hS "numbers" 448,hS "ahead" 449])::(nat_lit 203,hU #[])::(nat_lit 205,hD "reach" 442 "reach" 443 444 73 3 3 200 201 .none (.ref 202) (.ref 203) (.ref 204) 450 73 451)::(nat_lit 206,hF "reach" "reach" (hT 28) .none .none "steadyhand.reach" 434 205)::(nat_lit 207,hU #[])::(nat_lit 209,hU #[hS "rows" 458,hS "numbers" 459,hS "many" 460])::(nat_lit 210,hU #[])::(nat_lit 212,hD "added" 455 "added" 456 457 78 3 3 207 208 .none (.ref 209) (.ref 210) (.ref 211) 461 78 462)::(nat_lit 213,hF "added" "added" (hT 30) .none .none "steadyhand.shares" 453 212)::(nat_lit 214,hU #[])::(nat_lit 216,hU #[hS "value" 467])::(nat_lit 217,hU #[])::(nat_lit 219,hD "is_from_0_on" 464 "is_from_0_on" 465 466 80 1 3 214 215 .none (.ref 216) (.ref 217) (.ref 218) 468 80 469)::(nat_lit 220,hF "is_from_0_on" "is_from_0_on" (hT 31) .none .none "steadyhand.shares" 453 219)::(nat_lit 221,hU #[])::(nat_lit 224,hD "are_shares" 471 "are_shares" 472 473 82 2 3 221 222 .none .none .none (.ref 223) 474 82 475)::(nat_lit 225,hF "are_shares" "are_shares" (hT 32) .none .none "steadyhand.shares" 453 224)::(nat_lit 226,hU #[])::(nat_lit 229,hD "shows" 477 "shows" 478 479 88 3 3 226 227 .none .none .none (.ref 228) 480 88 481)::(nat_lit 230,hF "shows" "shows" (hT 33) .none .none "steadyhand.shares" 453 229)::(nat_lit 238,hU #[])::(nat_lit 240,hU #[hS "self" 506,hS "rows" 507,hS "nexts" 508,hS "steer" 509,hS "push" 510,hS "add" 511,hS "divisor" 512])::(nat_lit 241,hU #[])::(nat_lit 243,hD "__init__" 503 "Mode.__init__" 504 505 102 7 3 238 239 .none (.ref 240) (.ref 241) (.ref 242) 513 102 514)::(nat_lit 244,hF "__init__" "Mode.__init__" (hI 38 0) .none .none "steadyhand.things" 483 243)::(nat_lit 245,hU #[hS "add" 516,hS "divisor" 517,hS "nexts" 518,hS "push" 519,hS "rows" 520,hS "steer" 521])::(nat_lit 246,{ cls:=.type "dict",data:=.dict #[hE P "__module__" 498 (hS "steadyhand.things" 483),hE P "__firstlineno__" 502 (.int 100 501),hE P "__init__" 515 (.ref 244),hE P "__static_attributes__" 522 (.ref 245),hE P "__dict__" 524 (.ref 248),hE P "__weakref__" 526 (.ref 249),hE P "__doc__" 527 (.none)] 4 })::(nat_lit 247,{ cls:=.type "type",data:=.cls { name:="Mode",bases:=[.type "object"],mro:=[.ref 247,.type "object"],ns:=246,qualname:="Mode" },slots:=#[none,none,some (hS "Mode" 491),some (hS "Mode" 499),some (.builtin "object.__new__"),some (.bool true)] })::(nat_lit 248,{ cls:=.type "getset_descriptor",data:=.fields #[hS "__dict__" 523,.ref 247,.builtin "function.__dict__",.builtin "function.__dict__#set"] })::(nat_lit 249,{ cls:=.type "getset_descriptor",data:=.fields #[hS "__weakref__" 525,.ref 247,.builtin "ExceptionGroup.__weakref__",.none] })::(nat_lit 259,hU #[])::(nat_lit 261,hU #[hS "self" 545,hS "many" 546,hS "pushes" 547,hS "modes" 548])::(nat_lit 262,hU #[])::(nat_lit 264,hD "__init__" 542 "Thing.__init__" 543 544 111 4 3 259 260 .none (.ref 261) (.ref 262) (.ref 263) 549 111 550)::(nat_lit 265,hF "__init__" "Thing.__init__" (hI 39 0) .none .none "steadyhand.things" 483 264)::(nat_lit 266,hU #[])::(nat_lit 268,hU #[hS "self" 555])::(nat_lit 269,hU #[])::(nat_lit 271,hD "pushes" 552 "Thing.pushes" 553 554 120 1 3 266 267 .none (.ref 268) (.ref 269) (.ref 270) 556 120 557)::(nat_lit 272,hF "pushes" "Thing.pushes" (hI 39 1) .none .none "steadyhand.things" 483 271)::(nat_lit 273,hU #[])::(nat_lit 275,hU #[hS "self" 562])::(nat_lit 276,hU #[])::(nat_lit 278,hD "modes" 559 "Thing.modes" 560 561 123 1 3 273 274 .none (.ref 275) (.ref 276) (.ref 277) 563 123 564)::(nat_lit 279,hF "modes" "Thing.modes" (hI 39 2) .none .none "steadyhand.things" 483 278)::(nat_lit 280,hU #[])::(nat_lit 283,hD "is_closed" 566 "Thing.is_closed" 567 568 126 1 3 280 281 .none .none .none (.ref 282) 569 126 570)::(nat_lit 284,hF "is_closed" "Thing.is_closed" (hI 39 3) .none .none "steadyhand.things" 483 283)::(nat_lit 285,hU #[])::(nat_lit 287,hU #[hS "self" 575])::(nat_lit 288,hU #[])::(nat_lit 290,hD "is_plain" 572 "Thing.is_plain" 573 574 129 1 3 285 286 .none (.ref 287) (.ref 288) (.ref 289) 576 129 577)::(nat_lit 291,hF "is_plain" "Thing.is_plain" (hI 39 4) .none .none "steadyhand.things" 483 290)::(nat_lit 292,hU #[hS "kept_modes" 579,hS "kept_pushes" 580,hS "many" 581])::(nat_lit 293,{ cls:=.type "dict",data:=.dict #[hE P "__module__" 537 (hS "steadyhand.things" 483),hE P "__firstlineno__" 541 (.int 109 540),hE P "__init__" 551 (.ref 265),hE P "pushes" 558 (.ref 272),hE P "modes" 565 (.ref 279),hE P "is_closed" 571 (.ref 284),hE P "is_plain" 578 (.ref 291),hE P "__static_attributes__" 582 (.ref 292),hE P "__dict__" 584 (.ref 295),hE P "__weakref__" 586 (.ref 296),hE P "__doc__" 587 (.none)] 4 })::(nat_lit 294,{ cls:=.type "type",data:=.cls { name:="Thing",bases:=[.type "object"],mro:=[.ref 294,.type "object"],ns:=293,qualname:="Thing" },slots:=#[none,none,some (hS "Thing" 530),some (hS "Thing" 538),some (.builtin "object.__new__"),some (.bool true)] })::(nat_lit 295,{ cls:=.type "getset_descriptor",data:=.fields #[hS "__dict__" 583,.ref 294,.builtin "function.__dict__",.builtin "function.__dict__#set"] })::(nat_lit 296,{ cls:=.type "getset_descriptor",data:=.fields #[hS "__weakref__" 585,.ref 294,.builtin "ExceptionGroup.__weakref__",.none] })::(nat_lit 299,hU #[])::(nat_lit 302,hD "is_sound" 590 "is_sound" 591 592 131 3 3 299 300 .none .none .none (.ref 301) 593 131 594)::(nat_lit 303,hF "is_sound" "is_sound" (hT 40) .none .none "steadyhand.things" 483 302)::(nat_lit 304,hU #[])::(nat_lit 306,hU #[hS "value" 599])::(nat_lit 307,hU #[])::(nat_lit 309,hD "is_push" 596 "is_push" 597 598 139 1 3 304 305 .none (.ref 306) (.ref 307) (.ref 308) 600 139 601)::(nat_lit 310,hF "is_push" "is_push" (hT 41) .none .none "steadyhand.things" 483 309)::(nat_lit 311,hU #[])::(nat_lit 313,hU #[hS "value" 606,hS "many" 607,hS "wide" 608])::(nat_lit 314,hU #[])::(nat_lit 316,hD "is_mode" 603 "is_mode" 604 605 143 3 3 311 312 .none (.ref 313) (.ref 314) (.ref 315) 609 143 610)::(nat_lit 317,hF "is_mode" "is_mode" (hT 42) .none .none "steadyhand.things" 483 316)::(nat_lit 318,hU #[])::(nat_lit 321,hD "is_unsteered" 612 "is_unsteered" 613 614 151 1 3 318 319 .none .none .none (.ref 320) 615 151 616)::(nat_lit 322,hF "is_unsteered" "is_unsteered" (hT 43) .none .none "steadyhand.things" 483 321)::(nat_lit 323,hU #[])::(nat_lit 325,hU #[hS "thing" 621])::(nat_lit 326,hU #[])::(nat_lit 328,hD "ask_closed" 618 "ask_closed" 619 620 153 1 3 323 324 .none (.ref 325) (.ref 326) (.ref 327) 622 153 623)::(nat_lit 329,hF "ask_closed" "ask_closed" (hT 44) .none .none "steadyhand.things" 483 328)::(nat_lit 337,hU #[])::(nat_lit 338,{ cls:=.type "dict",data:=.dict #[hE P "__module__" 634 (hS "steadyhand.papers" 625),hE P "__firstlineno__" 638 (.int 157 637),hE P "__static_attributes__" 639 (.ref 337),hE P "__dict__" 641 (.ref 340),hE P "__weakref__" 643 (.ref 341),hE P "__doc__" 644 (.none)] 4 })::(nat_lit 339,{ cls:=.type "type",data:=.cls { name:="Paper",bases:=[.type "object"],mro:=[.ref 339,.type "object"],ns:=338,qualname:="Paper",subclasses:=[.ref 360,.ref 379] },slots:=#[none,none,some (hS "Paper" 627),some (hS "Paper" 635),some (.builtin "object.__new__"),some (.bool true)] })::(nat_lit 340,{ cls:=.type "getset_descriptor",data:=.fields #[hS "__dict__" 640,.ref 339,.builtin "function.__dict__",.builtin "function.__dict__#set"] })::(nat_lit 341,{ cls:=.type "getset_descriptor",data:=.fields #[hS "__weakref__" 642,.ref 339,.builtin "ExceptionGroup.__weakref__",.none] })::(nat_lit 344,hU #[.ref 339])::(nat_lit 351,hU #[])::(nat_lit 353,hU #[hS "self" 662,hS "rooms" 663,hS "back" 664,hS "starts" 665,hS "steps" 666,hS "stays" 667])::(nat_lit 354,hU #[])::(nat_lit 356,hD "__init__" 659 "Rooms.__init__" 660 661 161 6 3 351 352 .none (.ref 353) (.ref 354) (.ref 355) 668 161 669)::(nat_lit 357,hF "__init__" "Rooms.__init__" (hI 47 0) .none .none "steadyhand.papers" 625 356)::(nat_lit 358,hU #[hS "back" 671,hS "rooms" 672,hS "starts" 673,hS "stays" 674,hS "steps" 675])::(nat_lit 359,{ cls:=.type "dict",data:=.dict #[hE P "__module__" 654 (hS "steadyhand.papers" 625),hE P "__firstlineno__" 658 (.int 159 657),hE P "__init__" 670 (.ref 357),hE P "__static_attributes__" 676 (.ref 358),hE P "__doc__" 677 (.none)] 2 })::(nat_lit 360,{ cls:=.type "type",data:=.cls { name:="Rooms",bases:=[.ref 339],mro:=[.ref 360,.ref 339,.type "object"],ns:=359,qualname:="Rooms" },slots:=#[some (.ref 344),none,some (hS "Rooms" 647),some (hS "Rooms" 655),some (.builtin "object.__new__"),some (.bool true)] })::(nat_lit 363,hU #[.ref 339])::(nat_lit 370,hU #[])::(nat_lit 372,hU #[hS "self" 695,hS "room" 696,hS "starts" 697,hS "steps" 698,hS "measure" 699,hS "step" 700,hS "top" 701,hS "falls" 702,hS "floors" 703,hS "tops" 704])::(nat_lit 373,hU #[])::(nat_lit 375,hD "__init__" 692 "Falls.__init__" 693 694 169 10 3 370 371 .none (.ref 372) (.ref 373) (.ref 374) 705 169 706)::(nat_lit 376,hF "__init__" "Falls.__init__" (hI 48 0) .none .none "steadyhand.papers" 625 375)::(nat_lit 377,hU #[hS "falls" 708,hS "floors" 709,hS "measure" 710,hS "room" 711,hS "starts" 712,hS "step" 713,hS "steps" 714,hS "top" 715,hS "tops" 716])::(nat_lit 378,{ cls:=.type "dict",data:=.dict #[hE P "__module__" 687 (hS "steadyhand.papers" 625),hE P "__firstlineno__" 691 (.int 167 690),hE P "__init__" 707 (.ref 376),hE P "__static_attributes__" 717 (.ref 377),hE P "__doc__" 718 (.none)] 2 })::(nat_lit 379,{ cls:=.type "type",data:=.cls { name:="Falls",bases:=[.ref 339],mro:=[.ref 379,.ref 339,.type "object"],ns:=378,qualname:="Falls" },slots:=#[some (.ref 363),none,some (hS "Falls" 680),some (hS "Falls" 688),some (.builtin "object.__new__"),some (.bool true)] })::(nat_lit 382,hU #[])::(nat_lit 384,hU #[hS "thing" 724,hS "claim" 725,hS "paper" 726])::(nat_lit 385,hU #[])::(nat_lit 387,hD "lets_by" 721 "lets_by" 722 723 179 3 3 382 383 .none (.ref 384) (.ref 385) (.ref 386) 727 179 728)::(nat_lit 388,hF "lets_by" "lets_by" (hT 49) .none .none "steadyhand.papers" 625 387)::(nat_lit 389,hU #[])::(nat_lit 391,hU #[hS "value" 733,hS "count" 734])::(nat_lit 392,hU #[])::(nat_lit 394,hD "is_list_of" 730 "is_list_of" 731 732 186 2 3 389 390 .none (.ref 391) (.ref 392) (.ref 393) 735 186 736)::(nat_lit 395,hF "is_list_of" "is_list_of" (hT 50) .none .none "steadyhand.papers" 625 394)::(nat_lit 396,hU #[])::(nat_lit 399,hD "each_shown" 738 "each_shown" 739 740 188 3 3 396 397 .none .none .none (.ref 398) 741 188 742)::(nat_lit 400,hF "each_shown" "each_shown" (hT 51) .none .none "steadyhand.papers" 625 399)::(nat_lit 401,hU #[])::(nat_lit 403,hU #[hS "claim" 747,hS "many" 748])::(nat_lit 404,hU #[])::(nat_lit 406,hD "settles_over" 744 "settles_over" 745 746 192 2 3 401 402 .none (.ref 403) (.ref 404) (.ref 405) 749 192 750)::(nat_lit 407,hF "settles_over" "settles_over" (hT 52) .none .none "steadyhand.papers" 625 406)::(nat_lit 408,hU #[])::(nat_lit 410,hU #[hS "claim" 755,hS "many" 756])::(nat_lit 411,hU #[])::(nat_lit 413,hD "comes_over" 752 "comes_over" 753 754 194 2 3 408 409 .none (.ref 410) (.ref 411) (.ref 412) 757 194 758)::(nat_lit 414,hF "comes_over" "comes_over" (hT 53) .none .none "steadyhand.papers" 625 413)::(nat_lit 415,hU #[])::(nat_lit 417,hU #[hS "thing" 763,hS "claim" 764,hS "paper" 765])::(nat_lit 418,hU #[])::(nat_lit 420,hD "lets_rooms_by" 760 "lets_rooms_by" 761 762 196 3 3 415 416 .none (.ref 417) (.ref 418) (.ref 419) 766 196 767)::(nat_lit 421,hF "lets_rooms_by" "lets_rooms_by" (hT 54) .none .none "steadyhand.papers" 625 420)::(nat_lit 422,hU #[])::(nat_lit 425,hD "are_rooms" 769 "are_rooms" 770 771 204 2 3 422 423 .none .none .none (.ref 424) 772 204 773)::(nat_lit 426,hF "are_rooms" "are_rooms" (hT 55) .none .none "steadyhand.papers" 625 425)::(nat_lit 427,hU #[])::(nat_lit 430,hD "rooms_follow" 775 "rooms_follow" 776 777 206 2 3 427 428 .none .none .none (.ref 429) 778 206 779)::(nat_lit 431,hF "rooms_follow" "rooms_follow" (hT 56) .none .none "steadyhand.papers" 625 430)::(nat_lit 432,hU #[])::(nat_lit 435,hD "leads" 781 "leads" 782 783 211 4 3 432 433 .none .none .none (.ref 434) 784 211 785)::(nat_lit 436,hF "leads" "leads" (hT 57) .none .none "steadyhand.papers" 625 435)::(nat_lit 437,hU #[])::(nat_lit 440,hD "mode_leads" 787 "mode_leads" 788 789 216 5 3 437 438 .none .none .none (.ref 439) 790 216 791)::(nat_lit 441,hF "mode_leads" "mode_leads" (hT 58) .none .none "steadyhand.papers" 625 440)::(nat_lit 442,hU #[])::(nat_lit 445,hD "rooms_stay" 793 "rooms_stay" 794 795 218 2 3 442 443 .none .none .none (.ref 444) 796 218 797)::(nat_lit 446,hF "rooms_stay" "rooms_stay" (hT 59) .none .none "steadyhand.papers" 625 445)::(nat_lit 447,hU #[])::(nat_lit 449,hU #[hS "thing" 802,hS "claim" 803,hS "paper" 804])::(nat_lit 450,hU #[])::(nat_lit 452,hD "lets_fall_by" 799 "lets_fall_by" 800 801 223 3 3 447 448 .none (.ref 449) (.ref 450) (.ref 451) 805 223 806)::(nat_lit 453,hF "lets_fall_by" "lets_fall_by" (hT 60) .none .none "steadyhand.papers" 625 452)::(nat_lit 454,hU #[])::(nat_lit 456,hU #[hS "measure" 811,hS "top" 812])::(nat_lit 457,hU #[])::(nat_lit 459,hD "height_at_most" 808 "height_at_most" 809 810 237 2 3 454 455 .none (.ref 456) (.ref 457) (.ref 458) 813 237 814)::(nat_lit 460,hF "height_at_most" "height_at_most" (hT 61) .none .none "steadyhand.papers" 625 459)::(nat_lit 461,hU #[])::(nat_lit 464,hD "height_from_0_on" 816 "height_from_0_on" 817 818 239 1 3 461 462 .none .none .none (.ref 463) 819 239 820)::(nat_lit 465,hF "height_from_0_on" "height_from_0_on" (hT 62) .none .none "steadyhand.papers" 625 464)::(nat_lit 466,hU #[])::(nat_lit 468,hU #[hS "thing" 825,hS "mode" 826,hS "measure" 827,hS "step" 828,hS "ahead" 829,hS "less" 830])::(nat_lit 469,hU #[])::(nat_lit 471,hD "fall_row" 822 "fall_row" 823 824 241 4 3 466 467 .none (.ref 468) (.ref 469) (.ref 470) 831 241 832)::(nat_lit 472,hF "fall_row" "fall_row" (hT 63) .none .none "steadyhand.papers" 625 471)::(nat_lit 473,hU #[])::(nat_lit 476,hD "floors_hold" 834 "floors_hold" 835 836 245 2 3 473 474 .none .none .none (.ref 475) 837 245 838)::(nat_lit 477,hF "floors_hold" "floors_hold" (hT 64) .none .none "steadyhand.papers" 625 476)::(nat_lit 478,hU #[])::(nat_lit 481,hD "falls_hold" 840 "falls_hold" 841 842 250 3 3 478 479 .none .none .none (.ref 480) 843 250 844)::(nat_lit 482,hF "falls_hold" "falls_hold" (hT 65) .none .none "steadyhand.papers" 625 481)::(nat_lit 483,hU #[])::(nat_lit 486,hD "mode_falls" 846 "mode_falls" 847 848 255 5 3 483 484 .none .none .none (.ref 485) 849 255 850)::(nat_lit 487,hF "mode_falls" "mode_falls" (hT 66) .none .none "steadyhand.papers" 625 486)::(nat_lit 488,hU #[])::(nat_lit 490,hU #[hS "_law_script" 857,hS "_law_k" 858])::(nat_lit 491,hU #[])::(nat_lit 493,hD "_law_cell_at" 854 "_law_cell_at" 855 856 262 2 3 488 489 .none (.ref 490) (.ref 491) (.ref 492) 859 262 860)::(nat_lit 494,hF "_law_cell_at" "_law_cell_at" (hT 68) .none .none "law_steadyhand_k51_papers_of_rooms" 852 493)::(nat_lit 495,hU #[])::(nat_lit 497,hU #[hS "_law_cell" 865,hS "_law_many" 866,hS "_law_found" 867,hS "_law_rest" 868,hS "_law_k" 869,hS "_law_number_here" 870])::(nat_lit 498,hU #[])::(nat_lit 500,hD "_law_stream" 862 "_law_stream" 863 864 266 2 3 495 496 .none (.ref 497) (.ref 498) (.ref 499) 871 266 872)::(nat_lit 501,hF "_law_stream" "_law_stream" (hT 69) .none .none "law_steadyhand_k51_papers_of_rooms" 852 500)::(nat_lit 502,hU #[])::(nat_lit 504,hU #[hS "_law_x" 877,hS "_law_far" 878])::(nat_lit 505,hU #[])::(nat_lit 507,hD "_law_number" 874 "_law_number" 875 876 279 2 3 502 503 .none (.ref 504) (.ref 505) (.ref 506) 879 279 880)::(nat_lit 508,hF "_law_number" "_law_number" (hT 70) .none .none "law_steadyhand_k51_papers_of_rooms" 852 507)::(nat_lit 509,hU #[])::(nat_lit 512,hD "_law_mode" 882 "_law_mode" 883 884 281 5 3 509 510 .none .none .none (.ref 511) 885 281 886)::(nat_lit 513,hF "_law_mode" "_law_mode" (hT 71) .none .none "law_steadyhand_k51_papers_of_rooms" 852 512)::(nat_lit 514,hU #[])::(nat_lit 516,hU #[hS "_law_script" 891,hS "_law_first" 892,hS "_law_second" 893,hS "_law_unit" 894,hS "_law_many" 895,hS "_law_pushes" 896,hS "_law_k" 897,hS "_law_x" 898,hS "_law_modes" 899,hS "_law_cell" 900])::(nat_lit 517,hU #[])::(nat_lit 519,hD "_law_thing" 888 "_law_thing" 889 890 295 1 3 514 515 .none (.ref 516) (.ref 517) (.ref 518) 901 295 902)::(nat_lit 520,hF "_law_thing" "_law_thing" (hT 72) .none .none "law_steadyhand_k51_papers_of_rooms" 852 519)::(nat_lit 521,hU #[])::(nat_lit 524,hD "_law_made" 904 "_law_made" 905 906 309 1 3 521 522 .none .none .none (.ref 523) 907 309 908)::(nat_lit 525,hF "_law_made" "_law_made" (hT 73) .none .none "law_steadyhand_k51_papers_of_rooms" 852 524)::(nat_lit 526,hU #[])::(nat_lit 528,hU #[hS "_law_cell" 913,hS "_law_many" 914,hS "_law_unit" 915,hS "_law_xs" 916,hS "_law_box_here" 917,hS "_law_i" 918,hS "_law_low" 919])::(nat_lit 529,hU #[])::(nat_lit 531,hD "_law_box" 910 "_law_box" 911 912 316 3 3 526 527 .none (.ref 528) (.ref 529) (.ref 530) 920 316 921)::(nat_lit 532,hF "_law_box" "_law_box" (hT 74) .none .none "law_steadyhand_k51_papers_of_rooms" 852 531)::(nat_lit 533,hU #[])::(nat_lit 536,hD "_law_rows" 923 "_law_rows" 924 925 323 1 3 533 534 .none .none .none (.ref 535) 926 323 927)::(nat_lit 537,hF "_law_rows" "_law_rows" (hT 75) .none .none "law_steadyhand_k51_papers_of_rooms" 852 536)::(nat_lit 538,hU #[])::(nat_lit 540,hU #[hS "_law_numbers" 932,hS "_law_box_here" 933,hS "_law_found" 934,hS "_law_number_here" 935,hS "_law_bounds" 936])::(nat_lit 541,hU #[])::(nat_lit 543,hD "_law_top" 929 "_law_top" 930 931 330 2 3 538 539 .none (.ref 540) (.ref 541) (.ref 542) 937 330 938)::(nat_lit 544,hF "_law_top" "_law_top" (hT 76) .none .none "law_steadyhand_k51_papers_of_rooms" 852 543)::(nat_lit 545,hU #[])::(nat_lit 548,hD "_law_beyond" 940 "_law_beyond" 941 942 335 2 3 545 546 .none .none .none (.ref 547) 943 335 944)::(nat_lit 549,hF "_law_beyond" "_law_beyond" (hT 77) .none .none "law_steadyhand_k51_papers_of_rooms" 852 548)::(nat_lit 550,hU #[])::(nat_lit 553,hD "_law_image" 946 "_law_image" 947 948 340 2 3 550 551 .none .none .none (.ref 552) 949 340 950)::(nat_lit 554,hF "_law_image" "_law_image" (hT 78) .none .none "law_steadyhand_k51_papers_of_rooms" 852 553)::(nat_lit 555,hU #[])::(nat_lit 558,hD "_law_hull" 952 "_law_hull" 953 954 361 2 3 555 556 .none .none .none (.ref 557) 955 361 956)::(nat_lit 559,hF "_law_hull" "_law_hull" (hT 79) .none .none "law_steadyhand_k51_papers_of_rooms" 852 558)::(nat_lit 560,hU #[])::(nat_lit 562,hU #[hS "_law_spec" 961,hS "_law_box_here" 962,hS "_law_turn" 963])::(nat_lit 563,hU #[])::(nat_lit 565,hD "_law_kept" 958 "_law_kept" 959 960 363 2 3 560 561 .none (.ref 562) (.ref 563) (.ref 564) 964 363 965)::(nat_lit 566,hF "_law_kept" "_law_kept" (hT 80) .none .none "law_steadyhand_k51_papers_of_rooms" 852 565)::(nat_lit 567,hU #[])::(nat_lit 569,hU #[hS "_law_numbers" 970,hS "_law_found" 971,hS "_law_number_here" 972])::(nat_lit 570,hU #[])::(nat_lit 572,hD "_law_both" 967 "_law_both" 968 969 367 1 3 567 568 .none (.ref 569) (.ref 570) (.ref 571) 973 367 974)::(nat_lit 573,hF "_law_both" "_law_both" (hT 81) .none .none "law_steadyhand_k51_papers_of_rooms" 852 572)::(nat_lit 574,hU #[])::(nat_lit 577,hD "_law_step_shares" 976 "_law_step_shares" 977 978 372 4 3 574 575 .none .none .none (.ref 576) 979 372 980)::(nat_lit 578,hF "_law_step_shares" "_law_step_shares" (hT 82) .none .none "law_steadyhand_k51_papers_of_rooms" 852 577)::(nat_lit 579,hU #[])::(nat_lit 582,hD "_law_box_steps" 982 "_law_box_steps" 983 984 379 3 3 579 580 .none .none .none (.ref 581) 985 379 986)::(nat_lit 583,hF "_law_box_steps" "_law_box_steps" (hT 83) .none .none "law_steadyhand_k51_papers_of_rooms" 852 582)::(nat_lit 584,hU #[])::(nat_lit 586,hU #[hS "_law_box_here" 991,hS "_law_some" 992,hS "_law_row" 993])::(nat_lit 587,hU #[])::(nat_lit 589,hD "_law_box_starts" 988 "_law_box_starts" 989 990 384 1 3 584 585 .none (.ref 586) (.ref 587) (.ref 588) 994 384 995)::(nat_lit 590,hF "_law_box_starts" "_law_box_starts" (hT 84) .none .none "law_steadyhand_k51_papers_of_rooms" 852 589)::(nat_lit 591,hU #[])::(nat_lit 593,hU #[hS "_law_spec" 1000,hS "_law_cell" 1001,hS "_law_xs" 1002,hS "_law_inner" 1003,hS "_law_boxes_here" 1004,hS "_law_k" 1005])::(nat_lit 594,hU #[])::(nat_lit 596,hD "_law_boxes" 997 "_law_boxes" 998 999 389 2 3 591 592 .none (.ref 593) (.ref 594) (.ref 595) 1006 389 1007)::(nat_lit 597,hF "_law_boxes" "_law_boxes" (hT 85) .none .none "law_steadyhand_k51_papers_of_rooms" 852 596)::(nat_lit 598,hU #[])::(nat_lit 601,hD "_law_claim_rows" 1009 "_law_claim_rows" 1010 1011 396 3 3 598 599 .none .none .none (.ref 600) 1012 396 1013)::(nat_lit 602,hF "_law_claim_rows" "_law_claim_rows" (hT 86) .none .none "law_steadyhand_k51_papers_of_rooms" 852 601)::(nat_lit 603,hU #[])::(nat_lit 606,hD "_law_parts" 1015 "_law_parts" 1016 1017 405 2 3 603 604 .none .none .none (.ref 605) 1018 405 1019)::(nat_lit 607,hF "_law_parts" "_law_parts" (hT 87) .none .none "law_steadyhand_k51_papers_of_rooms" 852 606)::(nat_lit 608,hU #[])::(nat_lit 610,hU #[hS "_law_found" 1024])::(nat_lit 611,hU #[])::(nat_lit 613,hD "_law_whole" 1021 "_law_whole" 1022 1023 417 1 3 608 609 .none (.ref 610) (.ref 611) (.ref 612) 1025 417 1026)::(nat_lit 614,hF "_law_whole" "_law_whole" (hT 88) .none .none "law_steadyhand_k51_papers_of_rooms" 852 613)::(nat_lit 615,hU #[])::(nat_lit 617,hU #[hS "_law_thing_here" 1031,hS "_law_many" 1032])::(nat_lit 618,hU #[])::(nat_lit 620,hD "_law_list" 1028 "_law_list" 1029 1030 419 2 3 615 616 .none (.ref 617) (.ref 618) (.ref 619) 1033 419 1034)::(nat_lit 621,hF "_law_list" "_law_list" (hT 89) .none .none "law_steadyhand_k51_papers_of_rooms" 852 620)::(nat_lit 622,hU #[])::(nat_lit 625,hD "_law_shows" 1036 "_law_shows" 1037 1038 421 3 3 622 623 .none .none .none (.ref 624) 1039 421 1040)::(nat_lit 626,hF "_law_shows" "_law_shows" (hT 90) .none .none "law_steadyhand_k51_papers_of_rooms" 852 625)::(nat_lit 627,hU #[])::(nat_lit 630,hD "_law_all_show" 1042 "_law_all_show" 1043 1044 432 3 3 627 628 .none .none .none (.ref 629) 1045 432 1046)::(nat_lit 631,hF "_law_all_show" "_law_all_show" (hT 91) .none .none "law_steadyhand_k51_papers_of_rooms" 852 630)::(nat_lit 632,hU #[])::(nat_lit 635,hD "_law_reach" 1048 "_law_reach" 1049 1050 436 3 3 632 633 .none .none .none (.ref 634) 1051 436 1052)::(nat_lit 636,hF "_law_reach" "_law_reach" (hT 92) .none .none "law_steadyhand_k51_papers_of_rooms" 852 635)::(nat_lit 637,hU #[])::(nat_lit 640,hD "_law_standing" 1054 "_law_standing" 1055 1056 441 2 3 637 638 .none .none .none (.ref 639) 1057 441 1058)::(nat_lit 641,hF "_law_standing" "_law_standing" (hT 93) .none .none "law_steadyhand_k51_papers_of_rooms" 852 640)::(nat_lit 642,hU #[])::(nat_lit 645,hD "_law_steps_show" 1060 "_law_steps_show" 1061 1062 449 4 3 642 643 .none .none .none (.ref 644) 1063 449 1064)::(nat_lit 646,hF "_law_steps_show" "_law_steps_show" (hT 94) .none .none "law_steadyhand_k51_papers_of_rooms" 852 645)::(nat_lit 647,hU #[])::(nat_lit 649,hU #[hS "_law_spec" 1069,hS "_law_start" 1070,hS "_law_rows_here" 1071,hS "_law_turn" 1072,hS "_law_parts_here" 1073,hS "_law_rooms" 1074,hS "_law_back" 1075,hS "_law_starts" 1076,hS "_law_steps" 1077,hS "_law_stays" 1078,hS "_law_at" 1079,hS "_law_after" 1080])::(nat_lit 650,hU #[])::(nat_lit 652,hD "_law_right" 1066 "_law_right" 1067 1068 457 5 3 647 648 .none (.ref 649) (.ref 650) (.ref 651) 1081 457 1082)::(nat_lit 653,hF "_law_right" "_law_right" (hT 95) .none .none "law_steadyhand_k51_papers_of_rooms" 852 652)::(nat_lit 654,hU #[])::(nat_lit 656,hU #[hS "_law_shares" 1087,hS "_law_cell" 1088,hS "_law_often" 1089,hS "_law_numbers" 1090,hS "_law_way" 1091,hS "_law_at" 1092,hS "_law_other_here" 1093])::(nat_lit 657,hU #[])::(nat_lit 659,hD "_law_other" 1084 "_law_other" 1085 1086 473 2 3 654 655 .none (.ref 656) (.ref 657) (.ref 658) 1094 473 1095)::(nat_lit 660,hF "_law_other" "_law_other" (hT 96) .none .none "law_steadyhand_k51_papers_of_rooms" 852 659)::(nat_lit 661,hU #[])::(nat_lit 663,hU #[hS "_law_some" 1100,hS "_law_cell" 1101,hS "_law_at" 1102])::(nat_lit 664,hU #[])::(nat_lit 666,hD "_law_changed" 1097 "_law_changed" 1098 1099 481 2 3 661 662 .none (.ref 663) (.ref 664) (.ref 665) 1103 481 1104)::(nat_lit 667,hF "_law_changed" "_law_changed" (hT 97) .none .none "law_steadyhand_k51_papers_of_rooms" 852 666)::(nat_lit 668,hU #[])::(nat_lit 670,hU #[hS "_law_parts_here" 1109,hS "_law_cell" 1110,hS "_law_rooms" 1111,hS "_law_back" 1112,hS "_law_starts" 1113,hS "_law_steps" 1114,hS "_law_stays" 1115,hS "_law_way" 1116,hS "_law_at" 1117,hS "_law_k" 1118,hS "_law_row" 1119,hS "_law_other_here" 1120])::(nat_lit 671,hU #[])::(nat_lit 673,hD "_law_spoilt" 1106 "_law_spoilt" 1107 1108 495 2 3 668 669 .none (.ref 670) (.ref 671) (.ref 672) 1121 495 1122)::(nat_lit 674,hF "_law_spoilt" "_law_spoilt" (hT 98) .none .none "law_steadyhand_k51_papers_of_rooms" 852 673)::(nat_lit 675,hU #[])::(nat_lit 677,hU #[hS "_law_script" 1127,hS "_law_spec" 1128,hS "_law_inner" 1129,hS "_law_rows_here" 1130,hS "_law_turn" 1131,hS "_law_parts_here" 1132,hS "_law_start" 1133,hS "_law_paper" 1134,hS "_law_due" 1135,hS "_law_one" 1136,hS "_law_claim" 1137,hS "_law_found" 1138])::(nat_lit 678,hU #[])::(nat_lit 680,hD "law" 1124 "law" 1125 1126 517 1 3 675 676 .none (.ref 677) (.ref 678) (.ref 679) 1139 517 1140)::(nat_lit 681,hF "law" "law" (hT 99) .none .none "law_steadyhand_k51_papers_of_rooms" 852 680) :: []
noncomputable def ks:List Addr:=[2,3,15,17,18,20,21,22,29,30,31,32,35,42,43,44,47,54,55,56,59,66,67,68,71,73,74,76,77,78,81,82,83,86,87,88,89,92,93,94,95,98,99,100,103,104,105,108,109,110,113,114,115,118,119,127,128,129,130,131,134,141,142,144,145,147,148,149,150,151,154,161,163,164,166,167,168,169,170,173,176,177,178,181,182,183,185,186,188,189,190,193,194,195,198,199,200,202,203,205,206,207,209,210,212,213,214,216,217,219,220,221,224,225,226,229,230,238,240,241,243,244,245,246,247,248,249,259,261,262,264,265,266,268,269,271,272,273,275,276,278,279,280,283,284,285,287,288,290,291,292,293,294,295,296,299,302,303,304,306,307,309,310,311,313,314,316,317,318,321,322,323,325,326,328,329,337,338,339,340,341,344,351,353,354,356,357,358,359,360,363,370,372,373,375,376,377,378,379,382,384,385,387,388,389,391,392,394,395,396,399,400,401,403,404,406,407,408,410,411,413,414,415,417,418,420,421,422,425,426,427,430,431,432,435,436,437,440,441,442,445,446,447,449,450,452,453,454,456,457,459,460,461,464,465,466,468,469,471,472,473,476,477,478,481,482,483,486,487,488,490,491,493,494,495,497,498,500,501,502,504,505,507,508,509,512,513,514,516,517,519,520,521,524,525,526,528,529,531,532,533,536,537,538,540,541,543,544,545,548,549,550,553,554,555,558,559,560,562,563,565,566,567,569,570,572,573,574,577,578,579,582,583,584,586,587,589,590,591,593,594,596,597,598,601,602,603,606,607,608,610,611,613,614,615,617,618,620,621,622,625,626,627,630,631,632,635,636,637,640,641,642,645,646,647,649,650,652,653,654,656,657,659,660,661,663,664,666,667,668,670,671,673,674,675,677,678,680,681]
theorem ke:∀ P:Params,ks=(KK P).map (·.1):=λ_=>by
 kernel_rfl
noncomputable def vw:Program:={ PySem.Challenge.pw_steadyhand_k51_papers_of_rooms with main:={ PySem.Challenge.pw_steadyhand_k51_papers_of_rooms.main with body:=[hT 0,hT 2,hT 3,hT 4,hT 5,hT 7,hT 9,hT 10,hT 13,hT 14,hT 15,hT 16,hT 18,hT 19,hT 20,hT 22,hT 23,hT 24,hT 25,hT 27,hT 28,hT 30,hT 31,hT 32,hT 33,hT 35,hT 36,hT 37,hT 38,hT 39,hT 40,hT 41,hT 42,hT 43,hT 44,hT 46,hT 47,hT 48,hT 49,hT 50,hT 51,hT 52,hT 53,hT 54,hT 55,hT 56,hT 57,hT 58,hT 59,hT 60,hT 61,hT 62,hT 63,hT 64,hT 65,hT 66,hT 68,hT 69,hT 70,hT 71,hT 72,hT 73,hT 74,hT 75,hT 76,hT 77,hT 78,hT 79,hT 80,hT 81,hT 82,hT 83,hT 84,hT 85,hT 86,hT 87,hT 88,hT 89,hT 90,hT 91,hT 92,hT 93,hT 94,hT 95,hT 96,hT 97,hT 98,hT 99] } }
noncomputable def lo:List Str:=[Str.ofString "copied",Str.ofString "unit",Str.ofString "Settles"]
abbrev rr:RowW:=(OpenLaw.row PySem.Challenge.rw_steadyhand_k51_papers_of_rooms).toRowW
noncomputable abbrev xt:Shared->Bool:=λs=>xlAt vw [] s && recOk rr.records s
noncomputable def bt:Params->BT:=λP=>(.node (boot_o_0 P) (.node (boot_o_1 P) (.node (boot_o_3 P) (.node (boot_o_7 P) .nil .nil) .nil) (.node (boot_o_5 P) (.node (boot_o_9 P) .nil .nil) .nil)) (.node (boot_o_2 P) (.node (boot_o_4 P) (.node (boot_o_8 P) .nil .nil) .nil) (.node (boot_o_6 P) (.node (boot_o_10 P) .nil .nil) .nil)))
noncomputable def lhs (T:Params->BT) (h:Params->Heap) (d:Drawn) (k:Nat) (w:World) (os:OsState):=(TT.runT treeTable PySem.Challenge.pw_steadyhand_k51_papers_of_rooms w 11 (some (.ref 6)) 10278 ⟨T w.params,11,(h w.params).life,Array.mk [],d,k,os⟩ (topStub PySem.Challenge.pw_steadyhand_k51_papers_of_rooms)).map (λs=>((staticsOk (importedModules PySem.Challenge.pw_steadyhand_k51_papers_of_rooms.main.body) (h w.params) s.abs.heap && namesBound PySem.Challenge.pw_steadyhand_k51_papers_of_rooms s.abs.heap && gensDone s.abs && laidKept (h w.params) s.abs.heap),ks.map s.abs.heap.get?))
noncomputable def lhs2 (T:Params->BT) (h:Params->Heap) (d:Drawn) (k:Nat) (w:World) (os:OsState):=(TT.runT treeTable PySem.Challenge.pw_steadyhand_k51_papers_of_rooms w 11 (some (.ref 6)) 10278 ⟨T w.params,11,(h w.params).life,Array.mk [],d,k,os⟩ (topStub PySem.Challenge.pw_steadyhand_k51_papers_of_rooms)).map (λs=>(openSeen vw lo (importedModules PySem.Challenge.pw_steadyhand_k51_papers_of_rooms.main.body) xt true s.abs).1)
noncomputable def lhs3 (T:Params->BT) (h:Params->Heap) (d:Drawn) (k:Nat) (w:World) (os:OsState):=(TT.runT treeTable PySem.Challenge.pw_steadyhand_k51_papers_of_rooms w 11 (some (.ref 6)) 10278 ⟨T w.params,11,(h w.params).life,Array.mk [],d,k,os⟩ (topStub PySem.Challenge.pw_steadyhand_k51_papers_of_rooms)).map (λs=>(openSeen vw lo (importedModules PySem.Challenge.pw_steadyhand_k51_papers_of_rooms.main.body) xt true s.abs).2)
noncomputable def rhs (F:Params->Frag) (w:World) (_:OsState):=some (true,(F w.params).map λp=>some p.2)
noncomputable def rhs2 (_:Params->Frag) (w:World) (_:OsState):=some (openGood vw lo).1
noncomputable def rhs3 (_:Params->Frag) (w:World) (_:OsState):=some (openGood vw lo).2
lay_quick lhs rhs
lay_quick lhs2 rhs2
lay_quick lhs3 rhs3
theorem same (w:World) (os:OsState):PySem.W.Fast.tw17220578279488907953 bt boot_heap boot_drawn boot_toks w os=PySem.W.Fast.tw8891721091777375258 KK w os:=by
 kernel_rfl
theorem kH (w:World) (os:OsState):PySem.W.Fast.tw3009997946631788073 bt boot_heap boot_drawn boot_toks w os=PySem.W.Fast.tw13631382091664869340 KK w os:=by
 kernel_rfl
theorem kI (w:World) (os:OsState):PySem.W.Fast.tw1997689439482576112 bt boot_heap boot_drawn boot_toks w os=PySem.W.Fast.tw4211017894934048006 KK w os:=by
 kernel_rfl
theorem two {α β γ ε δ:Type} {o:Option α} {f:α->β} {g:α->γ × ε} {e:α->δ} {b:β} {c:γ × ε} {d:δ} (h1:o.map (λs=>(f s,e s))=some (b,d)) (h2:o.map (λs=>(g s).1)=some c.1) (h3:o.map (λs=>(g s).2)=some c.2):o.map (λs=>(f s,g s,e s))=some (b,c,d):=by
 cases o with
 | none=>cases h1
 | some a=>
  injection h1 with h1
  injection h2 with h2
  injection h3 with h3
  injection h1 with h1 h4
  have h2:(g a).1=c.1:=h2
  have h3:(g a).2=c.2:=h3
  have h4:e a=d:=h4
  show some (f a,((g a).1,(g a).2),e a)=_
  rw [h1,h2,h3,h4]
theorem left:LeftO rr.prog vw lo xt (kHook KK ks ke).obs (kHook KK ks ke).val 10278:=
 TT.left_is (boot_open (by kernel_rfl) (by decide) (λ_=>by kernel_rfl)) (λ_=>by kernel_rfl) (λ_=>by kernel_rfl) (λ_=>by kernel_rfl) (λ_=>by kernel_rfl)
  λw os=>two ((congrArg (λf=>f bt boot_heap boot_drawn boot_toks w os) PySem.W.Fast.te17220578279488907953).trans ((same w os).trans (congrFun (congrFun (congrFun PySem.W.Fast.te8891721091777375258 KK) w) os).symm)) ((congrArg (λf=>f bt boot_heap boot_drawn boot_toks w os) PySem.W.Fast.te3009997946631788073).trans ((kH w os).trans (congrFun (congrFun (congrFun PySem.W.Fast.te13631382091664869340 KK) w) os).symm)) ((congrArg (λf=>f bt boot_heap boot_drawn boot_toks w os) PySem.W.Fast.te1997689439482576112).trans ((kI w os).trans (congrFun (congrFun (congrFun PySem.W.Fast.te4211017894934048006 KK) w) os).symm))
end H51
namespace L2
open PySem PySem.Spec PyProof.Rows
abbrev wN:=Sum Int Str
def Q9:wN->Value->Bool
 | .inl k,v=>Value.isInt k v
 | .inr x,v=>Value.isStrOf x v
def W2 (w:World):wN->Int
 | .inl k=>hashInt k
 | .inr x=>hashStr w x
theorem jB:∀ {k:wN} {v:Value},Q9 k v=true->(∃ i t,k=Sum.inl i/\v=Value.int i t)\/(∃ x t,k=Sum.inr x/\v=Value.str x t)
 | .inl i,v,h=>by
  obtain ⟨t,e⟩:=Value.isInt_shape (k:=i) (v:=v) h
  exact .inl ⟨i,t,rfl,e⟩
 | .inr x,v,h=>by
  obtain ⟨t,e⟩:=Value.isStrOf_shape (x:=x) (v:=v) h
  exact .inr ⟨x,t,rfl,e⟩
theorem zQU (a b:Int):decide ((Sum.inl a:wN)=Sum.inl b)=(a == b):=by
 by_cases e:a=b
 ·subst e; simp
 ·have h:¬ (Sum.inl a:wN)=Sum.inl b:=λq=>e (Sum.inl.inj q)
  rw [decide_eq_false h]
  exact (beq_eq_false_iff_ne.mpr e).symm
theorem zQR (a b:Str):decide ((Sum.inr a:wN)=Sum.inr b)=decide (a=b):=by
 by_cases e:a=b
 ·subst e; simp
 ·have h:¬ (Sum.inr a:wN)=Sum.inr b:=λq=>e (Sum.inr.inj q)
  rw [decide_eq_false h,decide_eq_false e]
theorem zQT (a:Int) (b:Str):decide ((Sum.inl a:wN)=Sum.inr b)=false:=decide_eq_false (λq=>nomatch q)
theorem zQS (a:Str) (b:Int):decide ((Sum.inr a:wN)=Sum.inl b)=false:=decide_eq_false (λq=>nomatch q)
def KA (prog:Program) (w:World):PySem.KeyKind prog w wN where
 is:=Q9
 hash:=W2 w
 inj:=λv a b ha hb=>by
  rcases jB ha with ⟨i,t,rfl,rfl⟩ | ⟨x,t,rfl,rfl⟩
  ·rcases jB hb with ⟨j,u,rfl,e⟩ | ⟨y,u,rfl,e⟩
   ·injection e with e1 _; rw [e1]
   ·exact nomatch e
  ·rcases jB hb with ⟨j,u,rfl,e⟩ | ⟨y,u,rfl,e⟩
   ·exact nomatch e
   ·injection e with e1 _; rw [e1]
 byValue:=λk v h=>by
  rcases jB h with ⟨i,t,rfl,rfl⟩ | ⟨x,t,rfl,rfl⟩ <;> rfl
 pyHash:=λhv h=>by
  rcases jB hv with ⟨i,t,rfl,rfl⟩ | ⟨x,t,rfl,rfl⟩
  ·exact wpAny_pyHash_int h
  ·exact wpAny_pyHash_str h
 eqBool:=λhu hv h=>by
  rcases jB hu with ⟨i,t,rfl,rfl⟩ | ⟨x,t,rfl,rfl⟩
  ·rcases jB hv with ⟨j,u,rfl,rfl⟩ | ⟨y,u,rfl,rfl⟩
   ·rw [zQU] at h; exact wpAny_eqBool_int h
   ·rw [zQT] at h; exact SeqAt.EqAt.int_str i t y u _ _ _ _ h
  ·rcases jB hv with ⟨j,u,rfl,rfl⟩ | ⟨y,u,rfl,rfl⟩
   ·rw [zQS] at h; exact SeqAt.EqAt.str_int x t j u _ _ _ _ h
   ·rw [zQR] at h; exact wpAny_eqBool_str h
 «strs»:=λk x t v h=>by
  rcases jB h with ⟨i,u,rfl,e⟩ | ⟨y,u,rfl,e⟩
  ·exact nomatch e
  ·injection e with e1 _
   subst e1
   cases v <;> rfl
end L2
namespace L2
open PySem PySem.Spec PyProof.Rows
inductive V where
 | non | bl (b:Bool) | int (i:Int) | str (x:Str) | byt (b:Array UInt8) | flt (b:UInt64) | ref (a:Addr) | ty (n:String)
 deriving DecidableEq
def zV:V->Value->Prop
 | .non,u=>u=Value.none
 | .bl b,u=>u=Value.bool b
 | .int i,u=>∃ t,u=Value.int i t
 | .str x,u=>∃ t,u=Value.str x t
 | .byt b,u=>∃ t,u=Value.bytes b t
 | .flt b,u=>∃ t,u=Value.float b t
 | .ref a,u=>u=Value.ref a
 | .ty n,u=>u=Value.type n
abbrev zR:List V->List Value->Prop:=Paired zV
theorem zR.length {xs:List V} {us:List Value} (r:zR xs us):xs.length=us.length:=Paired.length r
theorem zR.get:∀ {xs:List V} {us:List Value} {i:Nat} {x:V},zR xs us->xs[i]? = some x->∃ u,us[i]? = some u/\zV x u
 | _,_,_,_,.nil,e=>by simp at e
 | _,_,0,_,.cons r _,e=>by simp at e; subst e; exact ⟨_,rfl,r⟩
 | _,_,i + 1,x,.cons _ t,e=>by
  obtain ⟨u,h1,h2⟩:=zR.get (i:=i) (x:=x) t (by simpa using e)
  exact ⟨u,by simpa using h1,h2⟩
theorem zR.append:∀ {xs ys:List V} {us ws:List Value},zR xs us->zR ys ws->zR (xs++ys) (us++ws)
 | _,_,_,_,.nil,s=>s
 | _,_,_,_,.cons r t,s=>.cons r (zR.append t s)
theorem zR.take:∀ {xs:List V} {us:List Value} (n:Nat),zR xs us->zR (xs.take n) (us.take n)
 | _,_,0,_=>.nil
 | _,_,_ + 1,.nil=>.nil
 | _,_,n + 1,.cons r t=>.cons r (zR.take n t)
theorem zR.drop:∀ {xs:List V} {us:List Value} (n:Nat),zR xs us->zR (xs.drop n) (us.drop n)
 | _,_,0,r=>r
 | _,_,_ + 1,.nil=>.nil
 | _,_,n + 1,.cons _ t=>zR.drop n t
def wB:Option V->Option Value->Prop
 | some v,some u=>zV v u
 | none,none=>True
 | _,_=>False
def KV {κ:Type}:List (κ × V)->List (κ × Value)->Prop:=Paired λ(p:κ × V) (q:κ × Value)=>p.1=q.1/\zV p.2 q.2
def kV:wN->V
 | .inl i=>.int i
 | .inr x=>.str x
inductive HO where
 | lst (xs:List V)
 | tup (xs:List V)
 | dK (kvs:List (wN × V)) | dT (kvs:List (List wN × V))
 | set (S:Int->Bool) (n:Nat)
 | ins (C dx:Addr) (fs:List (Str × V))
 | own (x:Addr)
 | xd (fs:List (Str × V))
 | met (f x:Addr)
 | rng (lo hi:Int)
 | frz (o:Obj) (u:HO)
 | tbl (ps:Array Value)
 | ext (φ:Heap->Prop)
abbrev Hp:=Addr->Option HO
def zY (H:Hp) (a:Addr) (o:HO):Hp:=λb=>if b=a then some o else H b
theorem xF {H:Hp} {a:Addr} {o:HO}:zY H a o a=some o:=by unfold zY; rw [if_pos rfl]
theorem zu {H:Hp} {a b:Addr} {o:HO} (h:b≠a):zY H a o b=H b:=by unfold zY; rw [if_neg h]
theorem xG {H:Hp} {a b:Addr} {o:HO} (h:H a=some o) (h':H b=none):a≠b:=by
 intro e; subst e; rw [h] at h'; cases h'
section
variable (P:Program) (w:World)
def wO (H:Hp) (h:Heap) (a:Addr):HO->Prop
 | .lst xs=>xs.length<=sizeLine/\∃ (its:List Value) (n:Nat),zR xs its/\h.get? a=some { cls:=.type "list",data:=.seq its.toArray n }
 | .tup xs=>xs.length<=sizeLine/\∃ its:List Value,zR xs its/\IsTup h a its.toArray
 | .dK kvs=>kvs.length<=sizeLine/\(a == sysModules)=false/\∃ vs,KV kvs vs/\h.DictOf (KA P w) a vs
 | .dT kvs=>kvs.length<=sizeLine/\(a == sysModules)=false/\∃ xs:List (List wN × Addr × Value),
   Paired (λ(p:List wN × V) (q:List wN × Addr × Value)=>p.1=q.1/\H q.2.1=some (.tup (p.1.map kV))/\zV p.2 q.2.2) kvs xs∧
   ∃ o es ep,h.get? a=some o/\o.ExactDict/\o.data=.dict es ep/\es.toList=xs.map (entryOfKey (tupleKind (KA P w)))/\(xs.map (·.1)).Nodup
 | .set S n=>h.SetOf (intKind P w) a S n
 | .ins C dx fs=>H dx=some (.own a)/\fs.length<=1000/\dx≠a/\h.get? a=some (PySem.W.instObj C dx)∧
   ∃ mA,h.Ns1 dx mA/\(∀ f,wB (fs.lookup f) (mA f))/\PySem.Within mA (fs.map (·.1))
 | .own _=>∃ o,h.get? a=some o
 | .xd fs=>∃ mA,h.Ns1 a mA/\∀ f,wB (fs.lookup f) (mA f)
 | .rng lo hi=>∃ t u v,h.get? a=some { cls:=.type "range",data:=.fields #[.int lo t,.int hi u,.int 1 v] }
 | .frz o u=>h.get? a=some o/\wO H h a u
 | .tbl ps=>h.get? a=some { cls:=.none,data:=.fields ps }
 | .met f x=>h.get? a=some (PySem.W.methodObj (.ref f) (.ref x))
 | .ext φ=>φ h/\(∃ o,h.get? a=some o)/\∀ h1 h2:Heap,φ h1->(∀ o,h1.get? a=some o->h2.get? a=some o)->φ h2
def xU (H:Hp) (h:Heap):Prop:=∀ a o,H a=some o->wO P w H h a o
end
section
variable {P:Program} {w:World} {H H':Hp} {h h':Heap} {a:Addr} {o:HO}
theorem wO.lt (x:wO P w H h a o):a < h.objs.size:=by
 cases o with
 | lst xs=>obtain ⟨_,_,_,_,e⟩:=x; exact Heap.lt_size e
 | tup xs=>obtain ⟨_,_,_,p⟩:=x; exact p.lt
 | dK kvs=>obtain ⟨_,_,_,_,o,_,_,e,_⟩:=x; exact Heap.lt_size e
 | dT kvs=>obtain ⟨_,_,_,_,o,_,_,e,_⟩:=x; exact Heap.lt_size e
 | set S n=>obtain ⟨o,_,_,_,e,_⟩:=x; exact Heap.lt_size e
 | ins C dx fs=>obtain ⟨_,_,_,e,_⟩:=x; exact Heap.lt_size e
 | own y=>obtain ⟨_,e⟩:=x; exact Heap.lt_size e
 | xd fs=>obtain ⟨_,⟨_,_,_,e,_⟩,_⟩:=x; exact Heap.lt_size e
 | rng lo hi=>obtain ⟨_,_,_,e⟩:=x; exact Heap.lt_size e
 | frz ob u=>obtain ⟨e,_⟩:=x; exact Heap.lt_size e
 | tbl ps=>exact Heap.lt_size (show h.get? a=some _ from x)
 | met f y=>exact Heap.lt_size (show h.get? a=some _ from x)
 | ext φ=>obtain ⟨_,⟨_,e⟩,_⟩:=x; exact Heap.lt_size e
theorem Paired.mapP {α β:Type} {F G:α->β->Prop}:∀ {l₁:List α} {l₂:List β},Paired F l₁ l₂->(∀ a b,F a b->G a b)->Paired G l₁ l₂
 | _,_,.nil,_=>.nil
 | _,_,.cons r t,f=>.cons (f _ _ r) (Paired.mapP t f)
theorem wO.stay (x:wO P w H h a o) (k:∀ b u,(b=a\/H b=some (.own a))->h.get? b=some u->h'.get? b=some u)
  (ho:∀ b,H b=some (.own a)->H' b=some (.own a)) (ht:∀ b xs,H b=some (.tup xs)->H' b=some (.tup xs)):wO P w H' h' a o:=by
 induction o with
 | lst xs=>obtain ⟨z,its,n,r,e⟩:=x; exact ⟨z,its,n,r,k _ _ (.inl rfl) e⟩
 | tup xs=>obtain ⟨z,its,r,ob,e,c⟩:=x; exact ⟨z,its,r,ob,k _ _ (.inl rfl) e,c⟩
 | dK kvs=>obtain ⟨z,y,vs,r,ob,es,ep,e,c⟩:=x; exact ⟨z,y,vs,r,ob,es,ep,k _ _ (.inl rfl) e,c⟩
 | dT kvs=>
  obtain ⟨z,y,xs,r,ob,es,ep,e,c⟩:=x
  exact ⟨z,y,xs,Paired.mapP r λp q z=>⟨z.1,ht _ _ z.2.1,z.2.2⟩,ob,es,ep,k _ _ (.inl rfl) e,c⟩
 | set S n=>obtain ⟨ob,es,ep,t,e,c⟩:=x; exact ⟨ob,es,ep,t,k _ _ (.inl rfl) e,c⟩
 | ins C dx fs=>
  obtain ⟨d,z,ne,e,mA,⟨od,es,ep,e2,c⟩,r⟩:=x
  exact ⟨ho _ d,z,ne,k _ _ (.inl rfl) e,mA,⟨od,es,ep,k _ _ (.inr d) e2,c⟩,r⟩
 | own y=>obtain ⟨ob,e⟩:=x; exact ⟨ob,k _ _ (.inl rfl) e⟩
 | xd fs=>obtain ⟨mA,⟨od,es,ep,e,c⟩,r⟩:=x; exact ⟨mA,⟨od,es,ep,k _ _ (.inl rfl) e,c⟩,r⟩
 | rng lo hi=>obtain ⟨t,u,v,e⟩:=x; exact ⟨t,u,v,k _ _ (.inl rfl) e⟩
 | frz ob u ih=>obtain ⟨e,q⟩:=x; exact ⟨k _ _ (.inl rfl) e,ih q⟩
 | tbl ps=>
  have e:h.get? a=some { cls:=.none,data:=.fields ps }:=x
  show h'.get? a=some { cls:=.none,data:=.fields ps }
  exact k a _ (.inl rfl) e
 | met f y=>
  have e:h.get? a=some (PySem.W.methodObj (.ref f) (.ref y)):=x
  show h'.get? a=some (PySem.W.methodObj (.ref f) (.ref y))
  exact k a _ (.inl rfl) e
 | ext φ=>obtain ⟨p,⟨o,e⟩,st⟩:=x; exact ⟨st _ _ p λo q=>k _ _ (.inl rfl) q,⟨o,k _ _ (.inl rfl) e⟩,st⟩
theorem xU.lt (x:xU P w H h) (e:H a=some o):a < h.objs.size:=(x a o e).lt
theorem xU.fresh (x:xU P w H h) (e:h.objs.size<=a):H a=none:=by
 cases q:H a with
 | none=>rfl
 | some u=>exact absurd (Nat.lt_of_lt_of_le (x.lt q) e) (Nat.lt_irrefl _)
theorem xU.kept (x:xU P w H h) (k:∀ b u,h.get? b=some u->h'.get? b=some u):xU P w H h':=λa o e=>
 (x a o e).stay (λb u _ q=>k b u q) (λ_ q=>q) λ_ _ q=>q
theorem xU.laid (x:xU P w H h) (k:∀ b u,h.get? b=some u->h'.get? b=some u) (hp:h.objs.size<=a) (new:wO P w (zY H a o) h' a o):xU P w (zY H a o) h':=λb u e=>by
 have hn:=x.fresh hp
 by_cases hb:b=a
 ·subst hb; rw [xF] at e; cases e; exact new
 ·rw [zu hb] at e
  exact (x b u e).stay (λc v _ q=>k c v q) (λc q=>by rw [zu (xG q hn)]; exact q) λc xs q=>by rw [zu (xG q hn)]; exact q
end
def Rd (H:Hp) (a:Addr) (u:HO):Prop:=H a=some u\/∃ o,H a=some (.frz o u)
theorem Rd.ok {P:Program} {w:World} {H:Hp} {h:Heap} {a:Addr} {u:HO} (r:Rd H a u) (x:xU P w H h):wO P w H h a u:=by
 rcases r with r | ⟨o,r⟩
 ·exact x a u r
 ·obtain ⟨_,q⟩:=x a _ r
  exact q
def XV:Option HO->Prop
 | some (.lst _)=>True
 | some (.dK _)=>True
 | some (.dT _)=>True
 | some (.set _ _)=>True
 | some (.ins _ _ _)=>True
 | some (.ext _)=>True
 | _=>False
section
variable {P:Program} {w:World} {H:Hp} {h h':Heap} {x e:Addr} {o':HO}
theorem xU.write (ok:xU P w H h) (mu:XV (H x)) (he:e=x\/H e=some (.own x)) (k:∀ b u,b≠e->h.get? b=some u->h'.get? b=some u) (heo:∃ u,h'.get? e=some u)
  (new:wO P w (zY H x o') h' x o'):xU P w (zY H x o') h':=λb u q=>by
 have nown:∀ c y,H c=some (.own y)->c≠x:=λc y r z=>by subst z; rw [r] at mu; exact mu
 have ntup:∀ c xs,H c=some (.tup xs)->c≠x:=λc xs r z=>by subst z; rw [r] at mu; exact mu
 by_cases hb:b=x
 ·subst hb; rw [xF] at q; cases q; exact new
 ·rw [zu hb] at q
  by_cases hbe:b=e
  ·have q':H b=some (.own x):=by
    rcases he with z | z
    ·exact absurd (hbe.trans z) hb
    ·rw [hbe]; exact z
   rw [q] at q'; cases q'
   obtain ⟨v,hv⟩:=heo
   exact ⟨v,by rw [hbe]; exact hv⟩
  ·refine (ok b u q).stay (λc v hc r=>k c v ?_ r) (λc r=>by rw [zu (nown c b r)]; exact r) λc xs r=>by rw [zu (ntup c xs r)]; exact r
   rcases hc with rfl | hc
   ·exact hbe
   ·rintro rfl
    rcases he with z | z
    ·exact nown c b hc z
    ·rw [hc] at z; cases z; exact hb rfl
end
structure Un (fs ex:List Addr) (H H':Hp) (h h':Heap):Prop where
 keep:∀ b o,h.get? b=some o->H b=none->b∉fs->b∉ex->h'.get? b=some o
 slot:∀ b o,h.get? b=some o->H b=none->b∈fs->b∉ex->∃ sl,h'.get? b=some { o with slots:=sl }
 free:∀ b o,h.get? b=some o->H b=none->b∉ex->H' b=none
 there:∀ b o,h.get? b=some o->b∉ex->∃ o',h'.get? b=some o'
 tups:∀ b xs,H b=some (.tup xs)->H' b=some (.tup xs)
 frzs:∀ b o u,H b=some (.frz o u)->H' b=some (.frz o u)
 tbls:∀ b ps,H b=some (.tbl ps)->∃ more,H' b=some (.tbl (ps++more))
section
variable {fs fs' ex ex':List Addr} {H H1 H2:Hp} {h h1 h2 h':Heap} {a x e:Addr} {o:HO}
theorem Un.any (u:Un fs ex H H1 h h1) {b:Addr} {ob:Obj} (q:h.get? b=some ob) (n:H b=none) (hx:b∉ex):∃ sl,h1.get? b=some { ob with slots:=sl }:=by
 by_cases hb:b∈fs
 ·exact u.slot b ob q n hb hx
 ·exact ⟨ob.slots,u.keep b ob q n hb hx⟩
theorem Un.kept (k:∀ b u,h.get? b=some u->h'.get? b=some u):Un fs ex H H h h':=
 ⟨λb ob q _ _ _=>k b ob q,λb ob q _ _ _=>⟨ob.slots,k b ob q⟩,λ_ _ _ n _=>n,λb ob q _=>⟨ob,k b ob q⟩,λ_ _ q=>q,λ_ _ _ q=>q,λ_ ps q=>⟨#[],by rw [q]; simp⟩⟩
theorem Un.refl:Un fs ex H H h h:=Un.kept λ_ _ q=>q
theorem Un.laid (k:∀ b u,h.get? b=some u->h'.get? b=some u) (hp:h.objs.size<=a) (hn:H a=none):Un fs ex H (zY H a o) h h' where
 keep:=λb u q _ _ _=>k b u q
 slot:=λb u q _ _ _=>⟨u.slots,k b u q⟩
 free:=λb u q n _=>by rw [zu (Nat.ne_of_lt (Nat.lt_of_lt_of_le (Heap.lt_size q) hp))]; exact n
 there:=λb u q _=>⟨u,k b u q⟩
 tups:=λb xs q=>by rw [zu (xG q hn)]; exact q
 frzs:=λb u xs q=>by rw [zu (xG q hn)]; exact q
 tbls:=λb ps q=>⟨#[],by rw [zu (xG q hn),q]; simp⟩
theorem Un.write (mu:XV (H x)) (he:e=x\/H e=some (.own x)) (k:∀ b u,b≠e->h.get? b=some u->h'.get? b=some u) (heo:∃ u,h'.get? e=some u):Un fs ex H (zY H x o) h h':=by
 have hx:∀ b,H b=none->b≠x:=λb n z=>by subst z; rw [n] at mu; exact mu
 have hb:∀ b,H b=none->b≠e:=λb n z=>by
  subst z
  rcases he with r | r
  ·exact hx b n r
  ·rw [n] at r; cases r
 have hm:∀ b u,H b=some u->¬ XV (some u)->b≠x:=λb u q nm z=>by subst z; rw [q] at mu; exact nm mu
 refine ⟨λb u q n _ _=>k b u (hb b n) q,λb u q n _ _=>⟨u.slots,k b u (hb b n) q⟩,λb u q n _=>by rw [zu (hx b n)]; exact n,λb u q _=>?_,
  λb xs q=>by rw [zu (hm b _ q λz=>z)]; exact q,λb u xs q=>by rw [zu (hm b _ q λz=>z)]; exact q,λb ps q=>⟨#[],by rw [zu (hm b _ q λz=>z),q]; simp⟩⟩
 by_cases hbe:b=e
 ·subst hbe; exact heo
 ·exact ⟨u,k b u hbe q⟩
end
def v6 (h:Heap) (H:Hp):List Addr:=(List.range h.objs.size).filter λa=>(H a).isSome
def wV (h:Heap) (H:Hp):Heap:=PySem.W.hideAll h (v6 h H)
theorem zLf (h:Heap) (H:Hp):(wV h H).objs.size=h.objs.size:=PySem.W.hideAll_size _ _
theorem zNR {h:Heap} {H:Hp} {b:Addr} {o:Obj} (e:h.get? b=some o) (n:H b=none):(wV h H).get? b=some o:=
 PySem.W.hideAll_get _ e λhm=>by
  have q:(H b).isSome=true:=(List.mem_filter.mp hm).2
  rw [n] at q; simp at q
theorem zO1 {h:Heap} {H:Hp} {b:Addr} {o:Obj} (e:(wV h H).get? b=some o):h.get? b=some o/\H b=none:=by
 have e':h.get? b=some o:=PySem.W.of_hideAll (v6 h H) e
 refine ⟨e',?_⟩
 cases q:H b with
 | none=>rfl
 | some x=>
  have hm:b∈v6 h H:=List.mem_filter.mpr ⟨List.mem_range.mpr (Heap.lt_size e'),by simp [q]⟩
  have z:(wV h H).get? b=none:=PySem.W.hideAll_none (v6 h H) hm
  rw [z] at e; cases e
def zPM (g h:Heap) (L:Addr):List (Addr × Obj):=(List.range h.objs.size).filterMap λa=>if a=L\/(g.get? a).isSome=true then none else (h.get? a).map λo=>(a,o)
def yh (g h:Heap) (L d:Addr):List (Addr × Obj):=(zPM g h L).filter λp=>decide (p.1≠d)
end L2
namespace L2
open PySem PySem.Spec PyProof.Rows
structure Mod (K:PySem.W.Frag) (mg:Str->Option Value) (base:Heap):Prop where
 kin:K.In base
 glob:base.Ns mainGlobals mg
 blt:∃ mb,base.Ns builtinsNs mb/\∀ x:Str,x≠"__name__"->mb x=bootBuiltins x
 nolimit:base.NoLimit
structure Cx where
 prog:Program
 w:World
 K:PySem.W.Frag
 mg:Str->Option Value
 base:Heap
 A:Around
 N:List Str
 s₀:Shared
 H₀:Hp
 env:Env
 outer:List Env
 stack:List Env
 ex:List Addr
 fn:Str->Bool
 calm:Bool
 pn:List (Addr × Obj)
 xe:Value->Shared->Prop
def vI (l:List Env):List Addr:=l.filterMap (·.frame)
abbrev Cx.fs (X:Cx):List Addr:=vI X.outer
def qD (sc:Scope) (x:Str):Prop:=sc.names.lookup x=some .local\/sc.names.lookup x=some .cell\/sc.names.lookup x=some .free
def um (sc:Scope) (x:Str):Prop:=sc.names.lookup x=some .local\/sc.names.lookup x=some .cell
def W3 (env:Env) (h:Heap) (m:Str->Option Value) (x:Str) (u:Value):Prop:=
 (env.kindOf x=some .local/\m x=some u)\/((env.kindOf x=some .cell\/env.kindOf x=some .free)/\∃ c,env.cells.lookup x=some c/\h.IsCell c (some u))
structure Cx.Ok (X:Cx):Prop where
 mod:Mod X.K X.mg X.base
 kind:X.env.scope.kind=.function
 glob:X.env.globals=mainGlobals
 blt:X.env.builtins=builtinsNs
 above:X.s₀.heap.objs.size<=X.env.locals
 inj:∀ x y c,X.env.cells.lookup x=some c->X.env.cells.lookup y=some c->x=y
 has:∀ x,(X.env.kindOf x=some .cell\/X.env.kindOf x=some .free)->∃ c,X.env.cells.lookup x=some c
 cab:∀ x c,X.fn x=true->X.env.cells.lookup x=some c->X.s₀.heap.objs.size<=c
 hd:X.calm=true->X.A.handled=none
 frames:X.A.frames=some X.stack
 stk:X.stack=X.outer\/(X.stack=X.env :: X.outer/\X.env.frame=some X.env.locals)
 exf:∀ b∈X.ex,b≠X.env.locals/\∀ x c,X.env.cells.lookup x=some c->c≠b
 bs:∀ b o,X.base.get? b=some o->X.s₀.heap.get? b=some o/\X.H₀ b=none
 bsz:X.base.objs.size<=X.s₀.heap.objs.size
 noex:∀ b o,X.base.get? b=some o->b∉X.ex
 exfs:∀ b∈X.ex,b∉X.fs
 funs:X.s₀.heap.FunFrames X.base X.outer
 frf:∀ b∈X.fs,X.H₀ b=none
structure zG (X:Cx) (pins:List (Addr × Obj)) (σ:List (Option V)) (H:Hp) (s:Shared):Prop where
 ok:X.Ok
 os:s.os=X.s₀.os
 bare:AllBare s.gens
 base:Un X.fs X.ex X.H₀ H X.s₀.heap s.heap
 loc:∃ m,s.heap.Ns X.env.locals m/\∀ (i:Nat) (x:Str) (v:V),X.N[i]? = some x->σ[i]? = some (some v)->qD X.env.scope x->∃ u,zV v u/\W3 X.env s.heap m x u
 cell:∀ x c,X.env.cells.lookup x=some c->∃ v,s.heap.IsCell c v
 free:H X.env.locals=none
 freeC:∀ x c,X.env.cells.lookup x=some c->H c=none
 pin:∀ p∈X.pn++pins,s.heap.get? p.1=some p.2/\H p.1=none/\p.1≠X.env.locals/\p.1∉X.fs/\∀ v,p.2.data≠.cell v
 hok:xU X.prog X.w H s.heap
 len:σ.length=X.N.length
section
variable {X:Cx} {pins:List (Addr × Obj)} {σ:List (Option V)} {H H':Hp} {s:Shared} {h':Heap}
theorem Cx.Ok.nofr (ok:X.Ok) {b:Addr} {o:Obj} (e:X.base.get? b=some o):b∉X.fs:=λhb=>by
 have:=(ok.funs.mem hb).1
 rw [e] at this; cases this
theorem zG.bs (I:zG X pins σ H s):∀ b o,X.base.get? b=some o->s.heap.get? b=some o/\H b=none:=λb o e=>
 ⟨I.base.keep b o (I.ok.bs b o e).1 (I.ok.bs b o e).2 (I.ok.nofr e) (I.ok.noex b o e),I.base.free b o (I.ok.bs b o e).1 (I.ok.bs b o e).2 (I.ok.noex b o e)⟩
theorem zG.bk (I:zG X pins σ H s):∀ b o,X.base.get? b=some o->s.heap.get? b=some o:=λb o e=>(I.bs b o e).1
theorem zG.mod (I:zG X pins σ H s):Mod X.K X.mg X.base:=I.ok.mod
theorem zG.kIn (I:zG X pins σ H s):X.K.In s.heap:=I.ok.mod.kin.keeps I.bk
theorem zG.lt (I:zG X pins σ H s):X.env.locals < s.heap.objs.size:=let ⟨_,hn,_⟩:=I.loc; hn.lt
theorem zG.sz (I:zG X pins σ H s):X.s₀.heap.objs.size<=s.heap.objs.size:=Nat.le_trans I.ok.above (Nat.le_of_lt I.lt)
theorem zG.nofs (I:zG X pins σ H s) {a:Addr} (h:s.heap.objs.size<=a):a∉X.fs:=λhb=>by
 obtain ⟨_,o,ho,_⟩:=I.ok.funs.mem hb
 exact absurd (Nat.lt_of_lt_of_le (Heap.lt_size ho) (Nat.le_trans I.sz h)) (Nat.lt_irrefl _)
theorem zG.cne (I:zG X pins σ H s):∀ x c,X.env.cells.lookup x=some c->c≠X.env.locals:=λx c e z=>by
 obtain ⟨v,o,ho,hd⟩:=I.cell x c e
 obtain ⟨m,⟨o',es,ep,ho',hd',_⟩,_⟩:=I.loc
 rw [z,ho'] at ho; cases ho; rw [hd'] at hd; cases hd
theorem zG.funs (I:zG X pins σ H s):s.heap.FunFrames X.base X.outer:=by
 have all:∀ (l:List Env),(∀ b∈vI l,b∈X.fs)->X.s₀.heap.FunFrames X.base l->s.heap.FunFrames X.base l:=by
  intro l
  induction l with
  | nil=>intro _ _; trivial
  | cons env r ih=>
   intro hs hl
   obtain ⟨hk,⟨L,o,hf,hn,ho,hd⟩,hr⟩:=hl
   have hL:L∈X.fs:=hs L (by unfold vI; rw [List.filterMap_cons,hf]; exact List.mem_cons_self)
   obtain ⟨sl,e⟩:=I.base.slot L o ho (I.ok.frf L hL) hL λz=>I.ok.exfs L z hL
   exact ⟨hk,⟨L,_,hf,hn,e,hd⟩,ih (λb hb=>hs b (by unfold vI; rw [List.filterMap_cons,hf]; exact List.mem_cons_of_mem _ hb)) hr⟩
 exact all X.outer (λ_ hb=>hb) I.ok.funs
theorem zG.stack (I:zG X pins σ H s):s.heap.FunFrames X.base X.stack:=by
 rcases I.ok.stk with e | ⟨e,hf⟩
 ·rw [e]; exact I.funs
 ·rw [e]
  obtain ⟨m,hn,_⟩:=I.loc
  refine .cons (by rw [I.ok.kind]; decide) hf hn ?_ I.funs
  exact Heap.get?_none_of_le (Nat.le_trans I.ok.bsz I.ok.above)
theorem zG.stkSub (I:zG X pins σ H s):∀ b∈vI X.stack,b∈X.env.locals :: X.fs:=λb hb=>by
 rcases I.ok.stk with e | ⟨e,hf⟩
 ·rw [e] at hb; exact List.mem_cons_of_mem _ hb
 ·rw [e] at hb
  unfold vI at hb
  rw [List.filterMap_cons,hf] at hb
  exact hb
theorem zG.stkFree (I:zG X pins σ H s):∀ b∈vI X.stack,H b=none:=λb hb=>by
 rcases List.mem_cons.mp (I.stkSub b hb) with e | hb
 ·rw [e]; exact I.free
 ·obtain ⟨_,o,ho,_⟩:=I.ok.funs.mem hb
  exact I.base.free b o ho (I.ok.frf b hb) λz=>I.ok.exfs b z hb
theorem zG.step {g':Array GenState} {t':Nat} {d':Drawn} {ch:List Addr} (I:zG X pins σ H s)
  (hch:∀ b∈ch,(b∈X.ex\/X.s₀.heap.objs.size<=b)/\b≠X.env.locals/\(∀ x c,X.env.cells.lookup x=some c->c≠b)/\∀ p∈X.pn++pins,p.1≠b)
  (keep:∀ b o,b≠X.env.locals->b∉X.fs->b∉ch->s.heap.get? b=some o->H b=none->h'.get? b=some o)
  (slot:∀ b o,b≠X.env.locals->b∈X.fs->b∉ch->s.heap.get? b=some o->H b=none->∃ sl,h'.get? b=some { o with slots:=sl }) (free:∀ b o,b∉ch->s.heap.get? b=some o->H b=none->H' b=none)
  (there:∀ b o,b∉ch->s.heap.get? b=some o->∃ o',h'.get? b=some o')
  (tups:∀ b xs,H b=some (.tup xs)->H' b=some (.tup xs)) (frzs:∀ b o u,H b=some (.frz o u)->H' b=some (.frz o u)) (tbls:∀ b ps,H b=some (.tbl ps)->∃ more,H' b=some (.tbl (ps++more)))
  (ns:∀ m,s.heap.Ns X.env.locals m->h'.Ns X.env.locals m) (hok:xU X.prog X.w H' h') (hg:AllBare g') :
  zG X pins σ H' { s with heap:=h',gens:=g',drawn:=d',toks:=t' }:=by
 have neL:∀ b o,X.s₀.heap.get? b=some o->b≠X.env.locals:=λb o e=>Nat.ne_of_lt (Nat.lt_of_lt_of_le (Heap.lt_size e) I.ok.above)
 have neC:∀ b o,X.s₀.heap.get? b=some o->b∉X.ex->b∉ch:=λb o e hx hb=>by
  rcases (hch b hb).1 with z | z
  ·exact hx z
  ·exact absurd (Nat.lt_of_lt_of_le (Heap.lt_size e) z) (Nat.lt_irrefl _)
 have cellK:∀ x c,X.env.cells.lookup x=some c->∀ v,s.heap.IsCell c v->h'.IsCell c v:=λx c e v ⟨o,ho,hd⟩=>by
  have nch:c∉ch:=λz=>(hch c z).2.2.1 x c e rfl
  by_cases hc:c∈X.fs
  ·obtain ⟨sl,q⟩:=slot c o (I.cne x c e) hc nch ho (I.freeC x c e)
   exact ⟨_,q,hd⟩
  ·exact ⟨o,keep c o (I.cne x c e) hc nch ho (I.freeC x c e),hd⟩
 refine ⟨I.ok,I.os,hg,⟨λb o e n hb hx=>?_,λb o e n hb hx=>?_,λb o e n hx=>?_,λb o e hx=>?_,λb xs e=>tups b xs (I.base.tups b xs e),λb o xs e=>frzs b o xs (I.base.frzs b o xs e),λb ps e=>?_⟩,?_,λx c e=>?_,?_,λx c e=>?_,λp hp=>?_,hok,I.len⟩
 ·exact keep b o (neL b o e) hb (neC b o e hx) (I.base.keep b o e n hb hx) (I.base.free b o e n hx)
 ·obtain ⟨sl,e1⟩:=I.base.slot b o e n hb hx
  obtain ⟨sl',e2⟩:=slot b _ (neL b o e) hb (neC b o e hx) e1 (I.base.free b o e n hx)
  exact ⟨sl',e2⟩
 ·obtain ⟨o',e1⟩:=I.base.there b o e hx
  exact free b o' (neC b o e hx) e1 (I.base.free b o e n hx)
 ·obtain ⟨o',e1⟩:=I.base.there b o e hx
  exact there b o' (neC b o e hx) e1
 ·obtain ⟨m1,e1⟩:=I.base.tbls b ps e
  obtain ⟨m2,e2⟩:=tbls b _ e1
  exact ⟨m1++m2,by rw [e2,Array.append_assoc]⟩
 ·obtain ⟨m,hn,hl⟩:=I.loc
  refine ⟨m,ns m hn,λi x v e1 e2 e3=>?_⟩
  obtain ⟨u,r,l⟩:=hl i x v e1 e2 e3
  refine ⟨u,r,?_⟩
  rcases l with l | ⟨k,c,e,z⟩
  ·exact .inl l
  ·exact .inr ⟨k,c,e,cellK x c e _ z⟩
 ·obtain ⟨v,z⟩:=I.cell x c e
  exact ⟨v,cellK x c e v z⟩
 ·obtain ⟨m,⟨o,_,_,ho,_⟩,_⟩:=I.loc
  exact free _ o (λz=>(hch _ z).2.1 rfl) ho I.free
 ·obtain ⟨v,o,ho,hd⟩:=I.cell x c e
  exact free c o (λz=>(hch c z).2.2.1 x c e rfl) ho (I.freeC x c e)
 ·obtain ⟨e,n,ne,nf,d⟩:=I.pin p hp
  have nch:p.1∉ch:=λz=>(hch p.1 z).2.2.2 p hp rfl
  exact ⟨keep p.1 p.2 ne nf nch e n,free p.1 p.2 nch e n,ne,nf,d⟩
theorem zG.un {t':Nat} (I:zG X pins σ H s) (u:Un X.fs [] H H' s.heap h') (hok:xU X.prog X.w H' h'):zG X pins σ H' { s with heap:=h',toks:=t' }:=by
 obtain ⟨m,⟨o,es,ep,ho,r⟩,_⟩:=id I.loc
 obtain ⟨sl,hL⟩:=u.any ho I.free (by simp)
 exact I.step (g':=s.gens) (d':=s.drawn) (ch:=[]) (λ_ z=>nomatch z) (λb o _ hb _ e n=>u.keep b o e n hb (by simp)) (λb o _ hb _ e n=>u.slot b o e n hb (by simp)) (λb o _ e n=>u.free b o e n (by simp)) (λb o _ e=>u.there b o e (by simp)) u.tups u.frzs u.tbls (λm' hm=>by
  obtain ⟨o',es',ep',ho',r'⟩:=hm
  rw [ho] at ho'; cases ho'
  exact ⟨_,es',ep',hL,r'⟩) hok I.bare
theorem zG.call {g':Array GenState} {t':Nat} {d':Drawn} {ch:List Addr} (I:zG X pins σ H s) (u:Un (vI X.stack) ch H H' s.heap h') (hok:xU X.prog X.w H' h') (hg:AllBare g')
  (hch:∀ b∈ch,(b∈X.ex\/X.s₀.heap.objs.size<=b)/\b≠X.env.locals/\(∀ x c,X.env.cells.lookup x=some c->c≠b)/\∀ p∈X.pn++pins,p.1≠b) :
  zG X pins σ H' { s with heap:=h',gens:=g',drawn:=d',toks:=t' }:=by
 obtain ⟨m,⟨o,es,ep,ho,r⟩,_⟩:=id I.loc
 obtain ⟨sl,hL⟩:=u.any ho I.free λz=>(hch _ z).2.1 rfl
 exact I.step (ch:=ch) hch (λb o hL hb hc e n=>u.keep b o e n (λz=>(List.mem_cons.mp (I.stkSub b z)).elim hL hb) hc) (λb o _ _ hc e n=>u.any e n hc) (λb o hc e n=>u.free b o e n hc) (λb o hc e=>u.there b o e hc) u.tups u.frzs u.tbls (λm' hm=>by
  obtain ⟨o',es',ep',ho',r'⟩:=hm
  rw [ho] at ho'; cases ho'
  exact ⟨_,es',ep',hL,r'⟩) hok hg
theorem zG.turned {t':Nat} {it:Addr} (I:zG X pins σ H s) (k:∀ b o,b≠it->s.heap.get? b=some o->h'.get? b=some o) (hn:H it=none) (hL:it≠X.env.locals)
  (h1:it∈X.ex\/X.s₀.heap.objs.size<=it) (h2:∀ x c,X.env.cells.lookup x=some c->c≠it) (h3:∀ p∈X.pn++pins,p.1≠it):zG X pins σ H { s with heap:=h',toks:=t' }:=by
 have nit:∀ b u,H b=some u->b≠it:=λb u e z=>by rw [z,hn] at e; cases e
 refine I.step (g':=s.gens) (d':=s.drawn) (ch:=[it]) (λb hb=>?_) (λb o _ _ hc e _=>k b o (λz=>hc (by simp [z])) e) (λb o _ _ hc e _=>⟨o.slots,k b o (λz=>hc (by simp [z])) e⟩) (λ_ _ _ _ n=>n)
  (λb o hc e=>⟨o,k b o (λz=>hc (by simp [z])) e⟩) (λ_ _ e=>e) (λ_ _ _ e=>e) (λb ps e=>⟨#[],by rw [e]; simp⟩) (λm hm=>?_) (λb u e=>?_) I.bare
 ·have e:b=it:=by simpa using hb
  subst e
  exact ⟨h1,hL,h2,h3⟩
 ·obtain ⟨o,es,ep,ho,r⟩:=hm
  exact ⟨o,es,ep,k _ o (Ne.symm hL) ho,r⟩
 ·refine (I.hok b u e).stay (λc v hc q=>k c v ?_ q) (λ_ q=>q) λ_ _ q=>q
  rcases hc with z | z
  ·rw [z]; exact nit b u e
  ·exact nit c _ z
theorem zG.tok (I:zG X pins σ H s) (t:Nat):zG X pins σ H { s with toks:=t }:=I.un (h':=s.heap) (t':=t) Un.refl I.hok
theorem zG.kept {t':Nat} (I:zG X pins σ H s) (k:∀ b u,s.heap.get? b=some u->h'.get? b=some u):zG X pins σ H { s with heap:=h',toks:=t' }:=I.un (Un.kept k) (I.hok.kept k)
theorem zG.laid {a:Addr} {o:HO} {t':Nat} (I:zG X pins σ H s) (k:∀ b u,s.heap.get? b=some u->h'.get? b=some u) (hp:s.heap.objs.size<=a) (new:wO X.prog X.w (zY H a o) h' a o) :
  zG X pins σ (zY H a o) { s with heap:=h',toks:=t' }:=I.un (Un.laid k hp (I.hok.fresh hp)) (I.hok.laid k hp new)
theorem zG.write {x e:Addr} {o:HO} {t':Nat} (I:zG X pins σ H s) (mu:XV (H x)) (he:e=x\/H e=some (.own x)) (k:∀ b u,b≠e->s.heap.get? b=some u->h'.get? b=some u) (heo:∃ u,h'.get? e=some u)
  (new:wO X.prog X.w (zY H x o) h' x o):zG X pins σ (zY H x o) { s with heap:=h',toks:=t' }:=I.un (Un.write mu he k heo) (I.hok.write mu he k heo new)
theorem zG.pins_of {pins':List (Addr × Obj)} (I:zG X pins σ H s) (h:∀ p∈pins',s.heap.get? p.1=some p.2/\H p.1=none/\p.1≠X.env.locals/\p.1∉X.fs/\∀ v,p.2.data≠.cell v):zG X pins' σ H s:=
 ⟨I.ok,I.os,I.bare,I.base,I.loc,I.cell,I.free,I.freeC,λp hp=>(List.mem_append.mp hp).elim (λz=>I.pin p (List.mem_append_left _ z)) (h p),I.hok,I.len⟩
theorem KB {N:List Str} (hN:N.Nodup) {i j:Nat} {x:Str} (a:N[i]? = some x) (b:N[j]? = some x):i=j:=by
 obtain ⟨h1,e1⟩:=List.getElem?_eq_some_iff.mp a
 obtain ⟨h2,e2⟩:=List.getElem?_eq_some_iff.mp b
 exact (List.getElem_inj hN).mp (e1.trans e2.symm)
theorem W4 {M:Model} {A:Around} {E:Value->Shared->Prop} {i:Nat} {x:Str} {v:V} {u:Value} {Q:Unit->Shared->Prop} (I:zG X pins σ H s) (hN:X.N.Nodup) (hi:X.N[i]? = some x) (hx:um X.env.scope x) (r:zV v u)
  (h:∀ s',zG X pins (σ.set i (some v)) H s'->(∃ a,Heap.SameBut a s.heap s'.heap/\(a=X.env.locals\/X.env.cells.lookup x=some a))->Q () s') (hf:X.fn x=true\/X.env.scope.names.lookup x=some .local:=by first | exact .inl rfl | exact .inr rfl | assumption):wpAny M A (storeName X.env x u) Q E s:=by
 obtain ⟨m,hn,hl⟩:=id I.loc
 have hcls:(X.env.scope.kind == .class || (X.env.scope.kind == .module && X.env.locals != X.env.globals))=false:=by rw [I.ok.kind]; rfl
 have hiσ:i < σ.length:=by rw [I.len]; exact (List.getElem?_eq_some_iff.mp hi).1
 have cne:=I.cne
 have tracked:∀ {a:Addr} {h':Heap},(∃ o,s.heap.get? a=some o/\H a=none)->Heap.SameBut a s.heap h'->xU X.prog X.w H h':=λ{a h'} ha hs b ob e=>by
  obtain ⟨_,_,hfree⟩:=ha
  refine (I.hok b ob e).stay (λc w' hc q=>(hs.2 c ?_).trans q) (λ_ q=>q) λ_ _ q=>q
  rintro rfl
  rcases hc with rfl | hc
  ·rw [hfree] at e; cases e
  ·rw [hfree] at hc; cases hc
 rcases hx with hk | hk
 ·refine wpAny_storeName_local hk hn (λh' hn' hs=>?_) hcls
  obtain ⟨oL,_,_,hoL,_⟩:=id hn
  refine h _ ⟨I.ok,I.os,I.bare,⟨λb o e n hb hx=>?_,λb o e n hb hx=>?_,I.base.free,λb o e hx=>?_,I.base.tups,I.base.frzs,I.base.tbls⟩,⟨_,hn',λj y v' e1 e2 e3=>?_⟩,λy c e=>?_,I.free,I.freeC,λp hp=>?_,tracked ⟨oL,hoL,I.free⟩ hs,by simpa using I.len⟩ ⟨_,hs,.inl rfl⟩
  ·exact (hs.2 b (Nat.ne_of_lt (Nat.lt_of_lt_of_le (Heap.lt_size e) I.ok.above))).trans (I.base.keep b o e n hb hx)
  ·obtain ⟨sl,e1⟩:=I.base.slot b o e n hb hx
   exact ⟨sl,(hs.2 b (Nat.ne_of_lt (Nat.lt_of_lt_of_le (Heap.lt_size e) I.ok.above))).trans e1⟩
  ·obtain ⟨o',e1⟩:=I.base.there b o e hx
   exact ⟨o',(hs.2 b (Nat.ne_of_lt (Nat.lt_of_lt_of_le (Heap.lt_size e) I.ok.above))).trans e1⟩
  ·by_cases hj:j=i
   ·subst hj
    rw [hi] at e1; cases e1
    rw [List.getElem?_set_self hiσ] at e2
    cases e2
    exact ⟨u,r,.inl ⟨hk,by simp⟩⟩
   ·rw [List.getElem?_set_ne (Ne.symm hj)] at e2
    obtain ⟨u',r',q⟩:=hl j y v' e1 e2 e3
    refine ⟨u',r',?_⟩
    rcases q with ⟨k,e⟩ | ⟨k,c,e,z⟩
    ·refine .inl ⟨k,?_⟩
     have:y≠x:=λe=>hj (KB hN e1 (e ▸ hi))
     simp [this,e]
    ·exact .inr ⟨k,c,e,z.sameBut hs (cne y c e)⟩
  ·obtain ⟨w',z⟩:=I.cell y c e
   exact ⟨w',z.sameBut hs (cne y c e)⟩
  ·obtain ⟨e,n,ne,nf,d⟩:=I.pin p hp
   exact ⟨(hs.2 p.1 ne).trans e,n,ne,nf,d⟩
 ·have hfn:X.fn x=true:=by
   rcases hf with z | z
   ·exact z
   ·rw [z] at hk; cases hk
  obtain ⟨c,hc⟩:=I.ok.has x (.inl hk)
  obtain ⟨w',z⟩:=I.cell x c hc
  refine wpAny_storeName_cell I.ok.kind hk hc z (λh' hc' hs=>?_)
  obtain ⟨oc,hoc,hocd⟩:=id z
  refine h { s with heap:=h' } ⟨I.ok,I.os,I.bare,⟨λb o e n hb hx=>?_,λb o e n hb hx=>?_,I.base.free,λb o e hx=>?_,I.base.tups,I.base.frzs,I.base.tbls⟩,⟨m,hn.sameBut hs (Ne.symm (cne x c hc)),λj y v' e1 e2 e3=>?_⟩,λy c' e=>?_,I.free,I.freeC,λp hp=>?_,tracked ⟨oc,hoc,I.freeC x c hc⟩ hs,by simpa using I.len⟩ ⟨c,hs,.inr hc⟩
  ·exact (hs.2 b (Nat.ne_of_lt (Nat.lt_of_lt_of_le (Heap.lt_size e) (I.ok.cab x c hfn hc)))).trans (I.base.keep b o e n hb hx)
  ·obtain ⟨sl,e1⟩:=I.base.slot b o e n hb hx
   exact ⟨sl,(hs.2 b (Nat.ne_of_lt (Nat.lt_of_lt_of_le (Heap.lt_size e) (I.ok.cab x c hfn hc)))).trans e1⟩
  ·obtain ⟨o',e1⟩:=I.base.there b o e hx
   exact ⟨o',(hs.2 b (Nat.ne_of_lt (Nat.lt_of_lt_of_le (Heap.lt_size e) (I.ok.cab x c hfn hc)))).trans e1⟩
  ·by_cases hj:j=i
   ·subst hj
    rw [hi] at e1; cases e1
    rw [List.getElem?_set_self hiσ] at e2
    cases e2
    exact ⟨u,r,.inr ⟨.inl hk,c,hc,hc'⟩⟩
   ·rw [List.getElem?_set_ne (Ne.symm hj)] at e2
    obtain ⟨u',r',q⟩:=hl j y v' e1 e2 e3
    refine ⟨u',r',?_⟩
    rcases q with q | ⟨k,c',e,z'⟩
    ·exact .inl q
    ·refine .inr ⟨k,c',e,z'.sameBut hs ?_⟩
     rintro rfl
     exact hj (KB hN e1 (I.ok.inj _ _ _ e hc ▸ hi))
  ·by_cases hcc:c'=c
   ·subst hcc; exact ⟨_,hc'⟩
   ·obtain ⟨w2,z2⟩:=I.cell y c' e
    exact ⟨w2,z2.sameBut hs hcc⟩
  ·obtain ⟨e,n,ne,nf,d⟩:=I.pin p hp
   refine ⟨(hs.2 p.1 ?_).trans e,n,ne,nf,d⟩
   intro q
   rw [q,hoc] at e
   have q':oc=p.2:=Option.some.inj e
   exact d w' (by rw [<- q']; exact hocd)
theorem KC {M:Model} {A:Around} {E:Value->Shared->Prop} {i:Nat} {x:Str} {v:V} {u:Value} {Q:Unit->Shared->Prop} (I:zG X pins σ H s) (hN:X.N.Nodup) (hi:X.N[i]? = some x) (hx:um X.env.scope x) (r:zV v u)
  (h:∀ s',zG X pins (σ.set i (some v)) H s'->Q () s') (hf:X.fn x=true\/X.env.scope.names.lookup x=some .local:=by first | exact .inl rfl | exact .inr rfl | assumption):wpAny M A (storeName X.env x u) Q E s:=
 W4 I hN hi hx r (λs' I' _=>h s' I') hf
theorem zG.call' {s':Shared} {ch:List Addr} (I:zG X pins σ H s) (ho:s'.os=s.os) (u:Un (vI X.stack) ch H H' s.heap s'.heap) (hok:xU X.prog X.w H' s'.heap) (hg:AllBare s'.gens)
  (hch:∀ b∈ch,(b∈X.ex\/X.s₀.heap.objs.size<=b)/\b≠X.env.locals/\(∀ x c,X.env.cells.lookup x=some c->c≠b)/\∀ p∈X.pn++pins,p.1≠b):zG X pins σ H' s':=by
 obtain ⟨h',g',d',t',o'⟩:=s'
 have e:o'=s.os:=ho
 subst e
 exact I.call (g':=g') (t':=t') (d':=d') u hok hg hch
end
abbrev XK:=Value->Option Addr->Hp->Prop
abbrev St:=List (Option V)
abbrev VK:=V->Hp->Prop
abbrev TE:=St->Hp->VK->Prop
abbrev TT:=St->Hp->(Bool->Hp->Prop)->Prop
abbrev TA:=St->Hp->(List V->Hp->Prop)->Prop
structure xa where
 nx:St->Hp->Prop
 rt:VK
 bk:St->Hp->Prop:=λ_ _=>False
 ct:St->Hp->Prop:=λ_ _=>False
abbrev TS:=xa->St->Hp->Prop
def EP (X:Cx) (pins:List (Addr × Obj)) (σ:St) (Q:VK) (u:Value) (s':Shared):Prop:=∃ v H',zG X pins σ H' s'/\zV v u/\Q v H'
def TP (X:Cx) (pins:List (Addr × Obj)) (σ:St) (Q:Bool->Hp->Prop) (b:Bool) (s':Shared):Prop:=∃ H',zG X pins σ H' s'/\Q b H'
def AP (X:Cx) (pins:List (Addr × Obj)) (σ:St) (Q:List V->Hp->Prop) (us:List Value) (s':Shared):Prop:=∃ vs H',zG X pins σ H' s'/\zR vs us/\Q vs H'
def SP (X:Cx) (pins:List (Addr × Obj)) (D:xa) (f:Flow) (s':Shared):Prop:=
 match f with
 | .next=>∃ σ' H',zG X pins σ' H' s'/\D.nx σ' H'
 | .brk=>∃ σ' H',zG X pins σ' H' s'/\D.bk σ' H'
 | .cont=>∃ σ' H',zG X pins σ' H' s'/\D.ct σ' H'
 | .ret u=>∃ v σ' H',zG X pins σ' H' s'/\zV v u/\D.rt v H'
def PE (X:Cx) (e:Expr) (t:TE):Prop:=
 ∀ (pins:List (Addr × Obj)) (s:Shared) (σ:St) (H:Hp) (Q:VK),zG X pins σ H s->t σ H Q->wpAny (model X.prog X.w) X.A (eval e X.env) (EP X pins σ Q) X.xe s
def PT (X:Cx) (e:Expr) (t:TT):Prop:=
 ∀ (pins:List (Addr × Obj)) (s:Shared) (σ:St) (H:Hp) (Q:Bool->Hp->Prop),zG X pins σ H s->t σ H Q->wpAny (model X.prog X.w) X.A (isTrue e X.env (eval e X.env)) (TP X pins σ Q) X.xe s
def PW (X:Cx) (e:Expr) (t:TT):Prop:=
 ∀ (whole:Sem Value) (pins:List (Addr × Obj)) (s:Shared) (σ:St) (H:Hp) (Q:Bool->Hp->Prop),zG X pins σ H s->t σ H Q->wpAny (model X.prog X.w) X.A (isTrue e X.env whole) (TP X pins σ Q) X.xe s
theorem PW.pt {X:Cx} {e:Expr} {t:TT} (h:PW X e t):PT X e t:=h _
def PA (X:Cx) (es:List Expr) (t:TA):Prop:=
 ∀ (pos:Pos) (pins:List (Addr × Obj)) (s:Shared) (σ:St) (H:Hp) (Q:List V->Hp->Prop),zG X pins σ H s->t σ H Q->wpAny (model X.prog X.w) X.A (spliced (backTo pos (starEach es X.env))) (AP X pins σ Q) X.xe s
def PS (X:Cx) (st:Stmt) (t:TS):Prop:=
 ∀ (pins:List (Addr × Obj)) (s:Shared) (σ:St) (H:Hp) (D:xa),zG X pins σ H s->t D σ H->wpAny (model X.prog X.w) X.A (exec st X.env) (SP X pins D) X.xe s
def yc (X:Cx) (st:List Stmt) (t:TS):Prop:=
 ∀ (pins:List (Addr × Obj)) (s:Shared) (σ:St) (H:Hp) (D:xa),zG X pins σ H s->t D σ H->wpAny (model X.prog X.w) X.A (execs st X.env) (SP X pins D) X.xe s
theorem zk {α:Type} {t:Sem α} {Q Q':α->Shared->Prop} {M:Model} {A:Around} {E:Value->Shared->Prop} {s:Shared} (h:wpAny M A t Q E s) (hQ:∀ a s,Q a s->Q' a s):wpAny M A t Q' E s:=wpAny_mono h hQ λ_ _ x=>x
end L2
namespace L2
open PySem PySem.Spec PyProof.Rows
section
variable {X:Cx}
def W5 (i:Nat):TE:=λσ H Q=>∃ v,σ[i]? = some (some v)/\Q v H
def tC (v:V):TE:=λ_ H Q=>Q v H
theorem KD {i:Nat} {x:Str} {pos:Pos} (hN:X.N[i]? = some x) (hv:qD X.env.scope x) (hd:(x == ("__debug__" : Str))=false:=by decide) (hcd:(x == ("__classdict__" : Str))=false:=by decide):PE X (.Name x pos) (W5 i):=by
 intro pins s σ H Q I h
 obtain ⟨v,e,h⟩:=h
 obtain ⟨m,hn,hl⟩:=I.loc
 obtain ⟨u,r,l⟩:=hl i x v hN e hv
 have fin:EP X pins σ Q u s:=⟨v,H,I,r,h⟩
 rcases l with ⟨hk,hm⟩ | ⟨hk,c,hc,hcell⟩
 ·exact wpAny_Name (wpAny_loadName_local I.ok.kind hk hn hm fin) hd
 ·rcases hk with hk | hk
  ·exact wpAny_Name (wpAny_loadName_cell I.ok.kind hk hc hcell fin) hd
  ·exact wpAny_Name (wpAny_loadName_free I.ok.kind hk hc hcell fin hcd) hd
theorem vM {i j pos}:PE X (.Constant (.int i) j pos) (tC (.int i)):=λ_ _ _ H _ I h=>wpAny_Constant_int ⟨.int i,H,I.tok _,⟨_,rfl⟩,h⟩
theorem kJ {b j pos}:PE X (.Constant (.bool b) j pos) (tC (.bl b)):=λ_ _ _ H _ I h=>Constant_bool ⟨.bl b,H,I,rfl,h⟩
theorem KE {j pos}:PE X (.Constant .none j pos) (tC .non):=λ_ _ _ H _ I h=>Constant_none ⟨.non,H,I,rfl,h⟩
def Gl (X:Cx) (x:Str):Prop:=X.env.kindOf x=some .globalImplicit
theorem W6 {E:Value->Shared->Prop} {pins:List (Addr × Obj)} {s:Shared} {σ:St} {H:Hp} {x:Str} {u:Value} {pos:Pos} {Q:Value->Shared->Prop} (I:zG X pins σ H s) (hg:Gl X x) (hm:X.mg x=some u) (h:Q u s)
  (hd:(x == ("__debug__" : Str))=false:=by decide):wpAny (model X.prog X.w) X.A (eval (.Name x pos) X.env) Q E s:=
 Calls.Name_function_global I.ok.kind hg (Calls.loadGlobal_global (by rw [I.ok.glob]; exact I.mod.glob.keeps I.bk) hm h) hd
theorem qE {E:Value->Shared->Prop} {pins:List (Addr × Obj)} {s:Shared} {σ:St} {H:Hp} {x:Str} {u:Value} {pos:Pos} {Q:Value->Shared->Prop} (I:zG X pins σ H s) (hg:Gl X x) (hm:X.mg x=none) (hv:bootBuiltins x=some u) (h:Q u s)
  (hn:x≠"__name__":=by decide) (hd:(x == ("__debug__" : Str))=false:=by decide):wpAny (model X.prog X.w) X.A (eval (.Name x pos) X.env) Q E s:=by
 obtain ⟨mb,h1,h2⟩:=I.mod.blt
 exact Calls.Name_function_global I.ok.kind hg (Calls.loadGlobal_builtin (by rw [I.ok.glob]; exact I.mod.glob.keeps I.bk) hm (by rw [I.ok.blt]; exact h1.keeps I.bk) ((h2 x hn).trans hv) h) hd
theorem KF {x:Str} {v:V} {u:Value} {pos:Pos} (hg:Gl X x) (hm:X.mg x=some u) (r:zV v u) (hd:(x == ("__debug__" : Str))=false:=by decide):PE X (.Name x pos) (tC v):=
 λ_ _ _ H _ I h=>W6 I hg hm ⟨v,H,I,r,h⟩ hd
theorem wC {x:Str} {v:V} {u:Value} {pos:Pos} (hg:Gl X x) (hm:X.mg x=none) (hv:bootBuiltins x=some u) (r:zV v u) (hn:x≠"__name__":=by decide) (hd:(x == ("__debug__" : Str))=false:=by decide):PE X (.Name x pos) (tC v):=
 λ_ _ _ H _ I h=>qE I hg hm hv ⟨v,H,I,r,h⟩ hn hd
variable {a b:Expr} {ta tb:TE} {pos:Pos}
def tB (t:TE):TT:=λσ H Q=>t σ H λx H1=>∃ c,x=.bl c/\Q c H1
theorem W7 {e:Expr} {t:TE} (h:PE X e t) (he:∀ whole,isTrue e X.env whole=(do let v <- whole; standAt e.pos; holding [v] (truthy v)):=by intro _; rfl):PT X e (tB t):=by
 intro pins s σ H Q I hw
 refine isTrue_plain (zk (h pins s σ H _ I hw) λv s1 ⟨x,H1,I1,r1,q1⟩=>?_) (he _)
 obtain ⟨d,rfl,q⟩:=q1
 cases r1
 exact wpAny_truthy_bool ⟨H1,I1,q⟩
variable {tA tB':TT} {yh:List Expr}
def W8 (t u:TT):TT:=λσ H Q=>t σ H λc H1=>if c=true then u σ H1 Q else Q false H1
def tOr (t u:TT):TT:=λσ H Q=>t σ H λc H1=>if c=true then Q true H1 else u σ H1 Q
def W9 (t:TT):TT:=λσ H Q=>t σ H λc H1=>Q (!c) H1
theorem zOd (ha:PT X a tA):PW X (.BoolOp .And [a] pos) tA:=by
 intro wh pins s σ H Q I h
 refine isTrue_and (zk (ha pins s σ H Q I h) λc s1 e=>?_)
 cases c with
 | true=>exact isTrue_and_nil e
 | false=>exact e
theorem zPq (ha:PT X a tA):PW X (.BoolOp .Or [a] pos) tA:=by
 intro wh pins s σ H Q I h
 refine isTrue_or (zk (ha pins s σ H Q I h) λc s1 e=>?_)
 cases c with
 | false=>exact isTrue_or_nil e
 | true=>exact e
theorem zPr (ha:PT X a tA) (hb:PW X (.BoolOp .And (b :: yh) pos) tB'):PW X (.BoolOp .And (a :: b :: yh) pos) (W8 tA tB'):=by
 intro wh pins s σ H Q I h
 refine isTrue_and (zk (ha pins s σ H _ I h) λc s1 ⟨H1,I1,q1⟩=>?_)
 cases c with
 | true=>exact hb wh pins s1 σ H1 Q I1 q1
 | false=>exact ⟨H1,I1,q1⟩
theorem kK (ha:PT X a tA) (hb:PW X (.BoolOp .Or (b :: yh) pos) tB'):PW X (.BoolOp .Or (a :: b :: yh) pos) (tOr tA tB'):=by
 intro wh pins s σ H Q I h
 refine isTrue_or (zk (ha pins s σ H _ I h) λc s1 ⟨H1,I1,q1⟩=>?_)
 cases c with
 | true=>exact ⟨H1,I1,q1⟩
 | false=>exact hb wh pins s1 σ H1 Q I1 q1
theorem zPt (ha:PT X a tA):PT X (.UnaryOp .Not a pos) (W9 tA):=by
 intro pins s σ H Q I h
 exact isTrue_not (ha pins s σ H (λc H1=>Q (!c) H1) I h)
def kL (ta tb:TE):TE:=λσ H Q=>ta σ H λx H1=>∃ c,x=.bl c/\if c=true then tb σ H1 Q else Q (.bl false) H1
def kM (ta:TE):TE:=λσ H Q=>ta σ H λx H1=>∃ c,x=.bl c/\Q (.bl (!c)) H1
theorem zP2 {op} {t:TE} (h:PE X a t):PE X (.BoolOp op [a] pos) t:=λpins s σ H Q I hw=>BoolOp_one (h pins s σ H Q I hw)
theorem zP5 (ha:PE X a ta) (hb:PE X (.BoolOp .And (b :: yh) pos) tb):PE X (.BoolOp .And (a :: b :: yh) pos) (kL ta tb):=by
 intro pins s σ H Q I h
 refine BoolOp_and (zk (ha pins s σ H _ I h) λv s1 ⟨x,H1,I1,r1,q1⟩=>?_)
 obtain ⟨c,rfl,q1⟩:=q1
 cases r1
 refine wpAny_truthy_bool ?_
 cases c with
 | true=>exact hb pins s1 σ H1 Q I1 q1
 | false=>exact ⟨.bl false,H1,I1,rfl,q1⟩
theorem zP3 (ha:PE X a ta):PE X (.UnaryOp .Not a pos) (kM ta):=by
 intro pins s σ H Q I h
 refine UnaryOp_ (zk (ha pins s σ H _ I h) λv s1 ⟨x,H1,I1,r1,q1⟩=>?_)
 obtain ⟨c,rfl,q1⟩:=q1
 cases r1
 exact not_of (wpAny_truthy_bool ⟨.bl (!c),H1,I1,rfl,q1⟩)
def tIf (t:TT) (ta tb:TE):TE:=λσ H Q=>t σ H λc H1=>if c=true then ta σ H1 Q else tb σ H1 Q
theorem zM5 {c:Expr} (hc:PT X c tA) (ha:PE X a ta) (hb:PE X b tb):PE X (.IfExp c a b pos) (tIf tA ta tb):=by
 intro pins s σ H Q I h
 refine wpAny_IfExp (zk (hc pins s σ H _ I h) λd s1 ⟨H1,I1,q1⟩=>?_)
 cases d with
 | true=>exact ha pins s1 σ H1 Q I1 q1
 | false=>exact hb pins s1 σ H1 Q I1 q1
end
end L2
namespace L2
open PySem PySem.Spec PyProof.Rows
def zT (K:PySem.W.Frag) (H:Hp) (a:Addr) (xs:List V):Prop:=
 Rd H a (.lst xs)∨
  ∃ (o:Obj) (its:Array Value) (n:Nat),K.lookup a=some o/\o.cls=.type "list"/\o.dict=none/\o.data=.seq its n/\its.size<=sizeLine/\zR xs its.toList
def yN (K:PySem.W.Frag) (H:Hp) (a:Addr) (xs:List V):Prop:=
 Rd H a (.tup xs)∨
  ∃ (o:Obj) (its:Array Value) (n:Nat),K.lookup a=some o/\o.cls=.type "tuple"/\o.data=.seq its n/\its.size<=sizeLine/\zR xs its.toList
def UA:Value->Option V
 | .none=>some .non
 | .bool b=>some (.bl b)
 | .int i _=>some (.int i)
 | .str x _=>some (.str x)
 | .bytes b _=>some (.byt b)
 | .float b _=>some (.flt b)
 | .ref a=>some (.ref a)
 | .type n=>some (.ty n)
 | _=>none
theorem zV.abs {x:V} {u:Value} (r:zV x u):UA u=some x:=by
 cases x with
 | non=>cases r; rfl
 | bl _=>cases r; rfl
 | int _=>obtain ⟨t,rfl⟩:=r; rfl
 | str _=>obtain ⟨t,rfl⟩:=r; rfl
 | byt _=>obtain ⟨t,rfl⟩:=r; rfl
 | flt _=>obtain ⟨t,rfl⟩:=r; rfl
 | ref _=>cases r; rfl
 | ty _=>cases r; rfl
theorem zV.inj {x y:V} {u:Value} (r:zV x u) (q:zV y u):x=y:=Option.some.inj (r.abs.symm.trans q.abs)
theorem zR.inj:∀ {xs ys:List V} {us:List Value},zR xs us->zR ys us->xs=ys
 | _,_,_,.nil,.nil=>rfl
 | _,_,_,.cons r t,.cons r' t'=>by rw [r.inj r',zR.inj t t']
section
variable {X:Cx} {pins:List (Addr × Obj)} {σ:St} {H:Hp} {s:Shared} {a:Addr} {xs ys:List V}
theorem zT.of {K:PySem.W.Frag} (h:H a=some (.lst xs)):zT K H a xs:=.inl (.inl h)
theorem yN.of {K:PySem.W.Frag} (h:H a=some (.tup xs)):yN K H a xs:=.inl (.inl h)
theorem zG.list (I:zG X pins σ H s) (h:zT X.K H a xs):∃ its:List Value,zR xs its/\PlainL s.heap a its.toArray/\xs.length<=sizeLine:=by
 rcases h with h | ⟨o,its,n,hk,hc,hd,hs,hz,r⟩
 ·obtain ⟨z,its,n,r,e⟩:=h.ok I.hok
  exact ⟨its,r,⟨_,n,e,rfl,rfl,rfl⟩,z⟩
 ·refine ⟨its.toList,r,⟨o,n,I.kIn a o hk,hc,hd,by simpa using hs⟩,?_⟩
  have e:=r.length
  simp only [Array.length_toList] at e
  omega
theorem zG.tuple (I:zG X pins σ H s) (h:yN X.K H a xs):∃ its:List Value,zR xs its/\IsTup s.heap a its.toArray/\xs.length<=sizeLine:=by
 rcases h with h | ⟨o,its,n,hk,hc,hs,hz,r⟩
 ·obtain ⟨z,its,r,p⟩:=h.ok I.hok
  exact ⟨its,r,p,z⟩
 ·refine ⟨its.toList,r,⟨o,I.kIn a o hk,hc,n,by simpa using hs⟩,?_⟩
  have e:=r.length
  simp only [Array.length_toList] at e
  omega
theorem zG.list_inj (I:zG X pins σ H s) (h:zT X.K H a xs) (h':zT X.K H a ys):xs=ys:=by
 obtain ⟨its,r,⟨o,n,e,_,_,d⟩,_⟩:=I.list h
 obtain ⟨its',r',⟨o',n',e',_,_,d'⟩,_⟩:=I.list h'
 rw [e] at e'; cases e'
 rw [d] at d'
 injection d' with d1 _
 have:its=its':=by simpa using congrArg Array.toList d1
 subst this
 exact r.inj r'
theorem zG.tuple_inj (I:zG X pins σ H s) (h:yN X.K H a xs) (h':yN X.K H a ys):xs=ys:=by
 obtain ⟨its,r,⟨o,e,_,n,d⟩,_⟩:=I.tuple h
 obtain ⟨its',r',⟨o',e',_,n',d'⟩,_⟩:=I.tuple h'
 rw [e] at e'; cases e'
 rw [d] at d'
 injection d' with d1 _
 have:its=its':=by simpa using congrArg Array.toList d1
 subst this
 exact r.inj r'
end
abbrev Cx.wish (X:Cx) (E:Value->Shared->Prop):Cx:={ X with xe:=E }
abbrev Cx.nox (X:Cx):Cx:=X.wish λ_ _=>False
theorem Cx.Ok.wish {X:Cx} (ok:X.Ok) (E:Value->Shared->Prop):(X.wish E).Ok:=
 ⟨ok.mod,ok.kind,ok.glob,ok.blt,ok.above,ok.inj,ok.has,ok.cab,ok.hd,ok.frames,ok.stk,ok.exf,ok.bs,ok.bsz,ok.noex,ok.exfs,ok.funs,ok.frf⟩
theorem Cx.Ok.unwish {X:Cx} {E:Value->Shared->Prop} (ok:(X.wish E).Ok):X.Ok:=
 ⟨ok.mod,ok.kind,ok.glob,ok.blt,ok.above,ok.inj,ok.has,ok.cab,ok.hd,ok.frames,ok.stk,ok.exf,ok.bs,ok.bsz,ok.noex,ok.exfs,ok.funs,ok.frf⟩
section
variable {X:Cx} {pins:List (Addr × Obj)} {σ:St} {H:Hp} {s:Shared} {E:Value->Shared->Prop}
theorem zG.wish (I:zG X pins σ H s) (E:Value->Shared->Prop):zG (X.wish E) pins σ H s:=⟨I.ok.wish E,I.os,I.bare,I.base,I.loc,I.cell,I.free,I.freeC,I.pin,I.hok,I.len⟩
theorem zG.unwish (I:zG (X.wish E) pins σ H s):zG X pins σ H s:=⟨I.ok.unwish,I.os,I.bare,I.base,I.loc,I.cell,I.free,I.freeC,I.pin,I.hok,I.len⟩
theorem SP.unwish {D:xa} {f:Flow} {s':Shared} (h:SP (X.wish E) pins D f s'):SP X pins D f s':=by
 cases f with
 | next=>obtain ⟨σ',H',I,q⟩:=h; exact ⟨σ',H',I.unwish,q⟩
 | brk=>obtain ⟨σ',H',I,q⟩:=h; exact ⟨σ',H',I.unwish,q⟩
 | cont=>obtain ⟨σ',H',I,q⟩:=h; exact ⟨σ',H',I.unwish,q⟩
 | ret u=>obtain ⟨v,σ',H',I,r,q⟩:=h; exact ⟨v,σ',H',I.unwish,r,q⟩
theorem yc.nox {st:List Stmt} {t:TS} (h:yc X.nox st t):yc X st t:=λpins s σ H D I hw=>
 wpAny_mono (h pins s σ H D (I.wish _) hw) (λ_ _ q=>q.unwish) λ_ _ z=>False.elim z
end
section
variable {X:Cx} {st:Stmt} {yh:List Stmt} {t u:TS} {e:Expr} {te:TE} {pos:Pos}
def kN:TS:=λD σ H=>D.nx σ H
def kO (t u:TS):TS:=λD σ H=>t { D with nx:=u D } σ H
theorem kP:yc X [] kN:=λ_ _ σ H _ I h=>wpAny_execs_nil ⟨σ,H,I,h⟩
theorem wD (h1:PS X st t) (h2:yc X yh u):yc X (st :: yh) (kO t u):=by
 intro pins s σ H D I h
 refine wpAny_execs_cons (zk (h1 pins s σ H { D with nx:=u D } I h) λf s1 q=>?_)
 cases f with
 | next=>
  obtain ⟨σ',H',I',q⟩:=q
  exact h2 pins s1 σ' H' D I' q
 | ret v=>exact q
 | brk=>exact q
 | cont=>exact q
theorem jC (h1:PS X st t):yc X [st] t:=by
 intro pins s σ H D I h
 refine wpAny_execs_cons (zk (h1 pins s σ H D I h) λf s1 q=>?_)
 cases f with
 | next=>exact wpAny_execs_nil q
 | ret v=>exact q
 | brk=>exact q
 | cont=>exact q
theorem zG.quiet {pins:List (Addr × Obj)} {σ:St} {H:Hp} {s:Shared} (I:zG X pins σ H s):interactive X.env=false:=by simp [interactive,I.ok.kind]
def KG (te:TE):TS:=λD σ H=>te σ H λ_ H1=>D.nx σ H1
theorem xy (he:PE X e te) (hs:swapsWith e none pos.line X.env=pure false:=by rfl):PS X (.Expr e pos) (KG te):=by
 intro pins s σ H D I h
 exact wpAny_Expr_any (zk (he pins s σ H _ I h) λv s1 ⟨x,H1,I1,r1,q1⟩=>⟨σ,H1,I1,q1⟩) I.quiet hs
def UB (te:TE):TS:=λD σ H=>te σ H D.rt
theorem uR (he:PE X e te):PS X (.Return (some e) pos) (UB te):=by
 intro pins s σ H D I h
 exact wpAny_Return_some (zk (he pins s σ H _ I h) λv s1 ⟨x,H1,I1,r1,q1⟩=>⟨x,σ,H1,I1,r1,q1⟩)
def UC (c:TT) (t u:TS):TS:=λD σ H=>c σ H λb H1=>if b=true then t D σ H1 else u D σ H1
theorem kR {c:Expr} {a b:List Stmt} {tc:TT} (hc:PT X c tc) (ha:yc X a t) (hb:yc X b u):PS X (.If c a b pos) (UC tc t u):=by
 intro pins s σ H D I h
 refine wpAny_If (zk (hc pins s σ H _ I h) λd s1 ⟨H1,I1,q1⟩=>?_)
 cases d with
 | true=>exact ha pins s1 σ H1 D I1 q1
 | false=>exact hb pins s1 σ H1 D I1 q1
def zPX:TS:=λ_ _ _=>False
theorem zMx:PS X st zPX:=λ_ _ _ _ _ _ h=>h.elim
end
abbrev TG:=V->St->Hp->(St->Hp->Prop)->Prop
abbrev uS:=List V->St->Hp->(St->Hp->Prop)->Prop
def PG (X:Cx) (target:Expr) (t:TG):Prop:=
 ∀ (pins:List (Addr × Obj)) (s:Shared) (σ:St) (H:Hp) (v:V) (u:Value) (Q:St->Hp->Prop),zG X pins σ H s->zV v u->t v σ H Q->
  wpAny (model X.prog X.w) X.A (assign target X.env u) (λ_ s'=>∃ σ' H',zG X pins σ' H' s'/\Q σ' H') X.xe s
def gD (X:Cx) (ts:List Expr) (t:uS):Prop:=
 ∀ (pins:List (Addr × Obj)) (s:Shared) (σ:St) (H:Hp) (vs:List V) (us:List Value) (Q:St->Hp->Prop),zG X pins σ H s->zR vs us->t vs σ H Q->
  wpAny (model X.prog X.w) X.A (assignInOrder ((assignEach ts X.env).map (·.2)) us) (λ_ s'=>∃ σ' H',zG X pins σ' H' s'/\Q σ' H') X.xe s
section
variable {X:Cx} {pos:Pos}
def gE (i:Nat):TG:=λv σ H Q=>Q (σ.set i (some v)) H
theorem vh {i:Nat} {x:Str} (hN:X.N.Nodup) (hi:X.N[i]? = some x) (hx:um X.env.scope x) (hf:X.fn x=true\/X.env.scope.names.lookup x=some .local:=by first | exact .inl rfl | exact .inr rfl | assumption):PG X (.Name x pos) (gE i):=by
 intro pins s σ H v u Q I r h
 exact wpAny_assign_Name (KC I hN hi hx r (λs' I'=>⟨_,H,I',h⟩) hf)
def kS:uS:=λvs σ H Q=>vs=[]/\Q σ H
def KH (t:TG) (u:uS):uS:=λvs σ H Q=>∃ v r,vs=v :: r/\t v σ H λσ' H'=>u r σ' H' Q
theorem UD:gD X [] kS:=by
 intro pins s σ H vs us Q I r h
 obtain ⟨e,h⟩:=h
 subst e
 cases r
 exact assignInOrder_nil ⟨σ,H,I,h⟩
theorem uo {e:Expr} {es:List Expr} {t:TG} {u:uS} (h1:PG X e t) (h2:gD X es u)
  (hs:(assignEach (e :: es) X.env).map (·.2)=assign e X.env :: (assignEach es X.env).map (·.2):=by rfl):gD X (e :: es) (KH t u):=by
 intro pins s σ H vs us Q I r h
 obtain ⟨v,vr,e1,h⟩:=h
 subst e1
 cases r with
 | cons r rr=>
  rw [hs]
  refine assignInOrder_cons (zk (h1 pins s σ H _ _ _ I r h) λ_ s1 ⟨σ1,H1,I1,q1⟩=>?_)
  exact h2 pins s1 σ1 H1 _ _ Q I1 rr q1
def UE (K:PySem.W.Frag) (n:Nat) (t:uS):TG:=λv σ H Q=>∃ a xs,v=.ref a/\yN K H a xs/\xs.length=n/\t xs σ H Q
theorem KI {es:List Expr} {k:Nat} {t:uS} {n:Nat} (hc:X.calm=true) (h:gD X es t)
  (hn:(assignEach es X.env).length=n:=by rfl) (hst:(assignEach es X.env).findIdx? (·.1)=none:=by rfl):PG X (.Tuple es k pos) (UE X.K n t):=by
 intro pins s σ H v u Q I r hw
 obtain ⟨a,xs,e1,hq,hl,hw⟩:=hw
 subst e1
 cases r
 obtain ⟨its,rv,ht,hz⟩:=I.tuple hq
 refine assign_Tuple_tuple (I.ok.hd hc) ht (by simp [hn,<- hl,rv.length]) hst λh' hx=>?_
 have I1:zG X pins σ H { s with heap:=h' }:=I.kept (t':=s.toks) λb o e=>hx b o (Nat.ne_of_lt (Heap.lt_size e)) e
 exact h pins _ σ H xs _ Q I1 (by simpa using rv) hw
def v7 (te:TE) (g:TG):TS:=λD σ H=>te σ H λx H1=>g x σ H1 D.nx
theorem UF {tg e:Expr} {te:TE} {g:TG} (he:PE X e te) (hg:PG X tg g) (hs:swapsWithSole [tg] e pos.line X.env=pure false:=by rfl) (hw:swappedStores [tg] e X.env=pure none:=by rfl)
  (h1:(assignEach [tg] X.env).map (·.2)=[assign tg X.env]:=by rfl):PS X (.Assign [tg] e pos) (v7 te g):=by
 intro pins s σ H D I h
 refine wpAny_Assign_stores (zk (he pins s σ H _ I h) λv s1 ⟨x,H1,I1,r1,q1⟩=>?_) hs hw
 rw [h1]
 exact zk (hg pins s1 σ H1 x v _ I1 r1 q1) λ_ s2 q=>q
theorem jD {i:Nat} {x:Str} {e:Expr} {te:TE} {pos':Pos} (hN:X.N.Nodup) (hi:X.N[i]? = some x) (hx:um X.env.scope x) (he:PE X e te) (hs:swapsWith e (some (.Name x pos')) pos.line X.env=pure false:=by rfl) (hf:X.fn x=true\/X.env.scope.names.lookup x=some .local:=by first | exact .inl rfl | exact .inr rfl | assumption) :
  PS X (.Assign [.Name x pos'] e pos) (v7 te (gE i)):=by
 intro pins s σ H D I h
 refine wpAny_Assign_Name (zk (he pins s σ H _ I h) λv s1 ⟨y,H1,I1,r1,q1⟩=>?_) hs
 exact KC I1 hN hi hx r1 (λs2 I2=>⟨_,H1,I2,q1⟩) hf
end
section
variable {X:Cx} {pos:Pos}
end
structure It where
 go:Nat->Hp->Prop
 yld:Nat->Hp->V->Hp->Prop
 stop:Nat->Hp->Prop
def yY (X:Cx) (pins:List (Addr × Obj)) (H:Hp) (b:Addr):Prop:=
 H b=none/\b≠X.env.locals/\b∉X.fs/\(b∈X.ex\/X.s₀.heap.objs.size<=b)/\(∀ x c,X.env.cells.lookup x=some c->c≠b)/\∀ p∈X.pn++pins,p.1≠b
theorem zG.fpOk {X:Cx} {pins:List (Addr × Obj)} {σ:St} {H H':Hp} {s:Shared} {b:Addr} (I:zG X pins σ H s) (hb:s.heap.objs.size<=b) (hn:H' b=none):yY X pins H' b:=by
 refine ⟨hn,Nat.ne_of_gt (Nat.lt_of_lt_of_le I.lt hb),I.nofs hb,.inr (Nat.le_trans I.sz hb),λx c e z=>?_,λp hp z=>?_⟩
 ·obtain ⟨v,q⟩:=I.cell x c e
  exact absurd (Nat.lt_of_lt_of_le q.lt (by rw [z]; exact hb)) (Nat.lt_irrefl _)
 ·exact absurd (Nat.lt_of_lt_of_le (Heap.lt_size (I.pin p hp).1) (by rw [z]; exact hb)) (Nat.lt_irrefl _)
structure wE (P:Program) (w:World) (K:PySem.W.Frag) (tg:Expr) (J:It) (fp:List Addr) (it:Addr) (tn:Nat->Heap->Prop):Prop where
 mem:it∈fp
 obj:∀ i h,tn i h->∀ b∈fp,∃ o,h.get? b=some o/\∀ v,o.data≠.cell v
 keep:∀ i h h',tn i h->(∀ b∈fp,∀ o,h.get? b=some o->h'.get? b=some o)->tn i h'
 item:∀ (X:Cx),X.prog=P->X.w=w->X.K=K->X.calm=true->∀ (i:Nat) (pins:List (Addr × Obj)) (s:Shared) (σ:St) (H:Hp) (E:Value->Shared->Prop),zG X pins σ H s->(∀ b∈fp,yY X pins H b)->tn i s.heap->J.go i H->
  wpAny (model P w) X.A (pyNext (.ref it)) (λr s1=>∃ u,r=some u∧
   wpAny (model P w) X.A (letOwnedTupleGo tg (.ref it) u) (λ_ s2=>∃ x H',zG X pins σ H' s2/\zV x u/\J.yld i H x H'/\tn (i + 1) s2.heap/\∀ b∈fp,H' b=none) E s1) E s
 done:∀ (X:Cx),X.prog=P->X.w=w->X.K=K->X.calm=true->∀ (i:Nat) (pins:List (Addr × Obj)) (s:Shared) (σ:St) (H:Hp) (E:Value->Shared->Prop),zG X pins σ H s->(∀ b∈fp,yY X pins H b)->tn i s.heap->J.stop i H->
  wpAny (model P w) X.A (pyNext (.ref it)) (λr s1=>r=none/\zG X pins σ H s1) E s
 self:∀ (A:Around) (i:Nat) (s:Shared) (Q:Value->Shared->Prop) (E:Value->Shared->Prop),tn i s.heap->Q (.ref it) s->wpAny (model P w) A (pyIter (.ref it)) Q E s
abbrev TI:=St->Hp->(It->Hp->Prop)->Prop
def KJ (X:Cx) (pins:List (Addr × Obj)) (σ:St) (tg:Expr) (R:It->Hp->Prop) (itv:Value) (s2:Shared):Prop:=
 ∃ (it:Addr) (fp:List Addr) (tn:Nat->Heap->Prop) (J:It) (H':Hp),itv=.ref it/\zG X pins σ H' s2/\wE X.prog X.w X.K tg J fp it tn/\tn 0 s2.heap/\(∀ b∈fp,yY X pins H' b)/\R J H'
def PI (X:Cx) (tg iter:Expr) (wi:TI):Prop:=
 ∀ (pins:List (Addr × Obj)) (s:Shared) (σ:St) (H:Hp) (R:It->Hp->Prop),zG X pins σ H s->wi σ H R->
  wpAny (model X.prog X.w) X.A (eval iter X.env) (λv s1=>wpAny (model X.prog X.w) X.A (pyIter v) (KJ X pins σ tg R) X.xe s1) X.xe s
theorem UG {M:Model} {A:Around} {E:Value->Shared->Prop} {s:Shared} {tg:Expr} {it:Addr} {u:Value} {o:Obj} {n:String} {vs:Array Value} {Q:Unit->Shared->Prop} (ho:s.heap.get? it=some o) (hc:o.cls=.type n) (hd:o.data=.fields vs)
  (hn:["enumerate","zip","dict_itemiterator","dict_reverseitemiterator","odict_iterator","itertools.zip_longest","itertools.pairwise"].contains n=false) (hQ:Q () s):wpAny M A (letOwnedTupleGo tg (.ref it) u) Q E s:=by
 unfold letOwnedTupleGo
 cases tg <;> first
  | exact wpAny_pure hQ
  | (cases u <;> first
    | exact wpAny_pure hQ
    | (refine wpAny_bind (wpAny_load ho ?_)
       rw [hc,hd]
       show wpAny M A (if (["enumerate","zip","dict_itemiterator","dict_reverseitemiterator","odict_iterator","itertools.zip_longest","itertools.pairwise"].contains n && vs[0]? == some (rawInt _))=true then _ else _) Q E s
       rw [if_neg (by intro h; rw [hn,Bool.false_and] at h; cases h)]
       exact wpAny_pure hQ))
def jj (K:PySem.W.Frag) (a:Addr):It:=
 ⟨λi H=>∃ xs x,zT K H a xs/\xs[i]? = some x,λi H x H'=>H'=H/\∀ xs,zT K H a xs->xs[i]? = some x,λi H=>∃ xs,zT K H a xs/\xs.length<=i⟩
def kT (K:PySem.W.Frag) (a:Addr):It:=
 ⟨λi H=>∃ xs x,yN K H a xs/\xs[i]? = some x,λi H x H'=>H'=H/\∀ xs,yN K H a xs->xs[i]? = some x,λi H=>∃ xs,yN K H a xs/\xs.length<=i⟩
def XW (lo:Int) (n:Nat):It:=⟨λi _=>i < n,λi H x H'=>H'=H/\x=.int (lo + i),λi _=>n<=i⟩
theorem KL {P:Program} {w:World} {K:PySem.W.Frag} {tg:Expr} (a it:Addr):wE P w K tg (jj K a) [it] it (λi h=>h.IsListIter it a i) where
 mem:=by simp
 obj:=λi h st b hb=>by
  have e:b=it:=by simpa using hb
  subst e
  obtain ⟨o,e,c,d⟩:=st
  exact ⟨o,e,λv z=>by rw [d] at z; cases z⟩
 keep:=λi h h' st k=>st.at λo e=>k it (by simp) o e
 item:=by
  intro X hP hw hK hc i pins s σ H E I hf st hg
  subst hP hw hK
  obtain ⟨xs,x,hq,hx⟩:=hg
  obtain ⟨its,rv,p,hz⟩:=I.list hq
  obtain ⟨u,hu,ru⟩:=rv.get hx
  obtain ⟨f0,f1,f2,f3,f4,f5⟩:=hf it (by simp)
  refine wpAny_pyNext_list_item st p.isList (x:=u) (by simpa using hu) λh' st' sb=>?_
  have I1:zG X pins σ H { s with heap:=h' }:=I.turned (t':=s.toks) (λb o hb e=>(sb.2 b hb).trans e) f0 f1 f3 f4 f5
  obtain ⟨o,e,c,d⟩:=id st'
  exact ⟨u,rfl,UG (s:={ s with heap:=h' }) e c d (by decide) ⟨x,H,I1,ru,⟨rfl,λys hy=>by rw [I.list_inj hy hq]; exact hx⟩,st',λb hb=>(hf b hb).1⟩⟩
 done:=by
  intro X hP hw hK hc i pins s σ H E I hf st hg
  subst hP hw hK
  obtain ⟨xs,hq,hx⟩:=hg
  obtain ⟨its,rv,p,hz⟩:=I.list hq
  obtain ⟨f0,f1,f2,f3,f4,f5⟩:=hf it (by simp)
  have hl:=rv.length
  exact wpAny_pyNext_list_end (I.ok.hd hc) st p.isList (by simp; omega) λh' eb=>⟨rfl,I.turned (t':=s.toks) (λb o hb e=>eb b o hb e) f0 f1 f3 f4 f5⟩
 self:=λ_ _ _ _ _ st h=>wpAny_pyIter_listiter st h
theorem KM {P:Program} {w:World} {K:PySem.W.Frag} {tg:Expr} (a it:Addr):wE P w K tg (kT K a) [it] it (λi h=>h.IsTupleIter it a i) where
 mem:=by simp
 obj:=λi h st b hb=>by
  have e:b=it:=by simpa using hb
  subst e
  obtain ⟨o,e,c,d⟩:=st
  exact ⟨o,e,λv z=>by rw [d] at z; cases z⟩
 keep:=λi h h' st k=>st.at λo e=>k it (by simp) o e
 item:=by
  intro X hP hw hK hc i pins s σ H E I hf st hg
  subst hP hw hK
  obtain ⟨xs,x,hq,hx⟩:=hg
  obtain ⟨its,rv,p,hz⟩:=I.tuple hq
  obtain ⟨u,hu,ru⟩:=rv.get hx
  obtain ⟨f0,f1,f2,f3,f4,f5⟩:=hf it (by simp)
  refine wpAny_pyNext_tuple_item st (show s.heap.IsTuple a its.toArray from p) (x:=u) (by simpa using hu) λh' st' sb=>?_
  have I1:zG X pins σ H { s with heap:=h' }:=I.turned (t':=s.toks) (λb o hb e=>(sb.2 b hb).trans e) f0 f1 f3 f4 f5
  obtain ⟨o,e,c,d⟩:=id st'
  exact ⟨u,rfl,UG (s:={ s with heap:=h' }) e c d (by decide) ⟨x,H,I1,ru,⟨rfl,λys hy=>by rw [I.tuple_inj hy hq]; exact hx⟩,st',λb hb=>(hf b hb).1⟩⟩
 done:=by
  intro X hP hw hK hc i pins s σ H E I hf st hg
  subst hP hw hK
  obtain ⟨xs,hq,hx⟩:=hg
  obtain ⟨its,rv,p,hz⟩:=I.tuple hq
  obtain ⟨f0,f1,f2,f3,f4,f5⟩:=hf it (by simp)
  have hl:=rv.length
  exact wpAny_pyNext_tuple_end (I.ok.hd hc) st (show s.heap.IsTuple a its.toArray from p) (by simp; omega) λh' eb=>⟨rfl,I.turned (t':=s.toks) (λb o hb e=>eb b o hb e) f0 f1 f3 f4 f5⟩
 self:=λ_ _ _ _ _ st h=>wpAny_pyIter_tupleiter st h
theorem zJZ {P:Program} {w:World} {K:PySem.W.Frag} {tg:Expr} (it:Addr) (lo:Int) (n:Nat):wE P w K tg (XW lo n) [it] it (λi h=>IsRangeIter h it (lo + (i:Nat) * 1) ((n:Int) - (i:Nat)) 1) where
 mem:=by simp
 obj:=λi h st b hb=>by
  have e:b=it:=by simpa using hb
  subst e
  exact ⟨_,st,λv z=>by
   have z':Data.fields _=Data.cell v:=z
   cases z'⟩
 keep:=λi h h' st k=>k it (by simp) _ st
 item:=by
  intro X hP hw hK hc i pins s σ H E I hf st hg
  subst hP hw hK
  obtain ⟨f0,f1,f2,f3,f4,f5⟩:=hf it (by simp)
  have W:=Walks.range (prog:=X.prog) (w:=X.w) (I.ok.hd hc) it lo 1 n
  refine W.item i s _ _ hg st λv h' tk hv st' kk=>?_
  obtain ⟨t,rfl⟩:=hv
  have I1:zG X pins σ H { s with heap:=h',toks:=tk }:=I.turned (λb o hb e=>kk b o (by simpa using hb) e) f0 f1 f3 f4 f5
  refine ⟨_,rfl,UG (s:={ s with heap:=h',toks:=tk }) (n:="range_iterator") st' rfl rfl (by decide) ⟨.int (lo + i),H,I1,⟨t,?_⟩,⟨rfl,rfl⟩,st',λb hb=>(hf b hb).1⟩⟩
  rw [Int.mul_one]
 done:=by
  intro X hP hw hK hc i pins s σ H E I hf st hg
  subst hP hw hK
  obtain ⟨f0,f1,f2,f3,f4,f5⟩:=hf it (by simp)
  exact wpAny_pyNext_range_end (I.ok.hd hc) st (by have:n<=i:=hg; omega) λh' eb=>⟨rfl,I.turned (t':=s.toks) (λb o hb e=>eb b o hb e) f0 f1 f3 f4 f5⟩
 self:=λ_ _ _ _ _ st h=>wpAny_pyIter_rangeiter st h
end L2
namespace L2
open PySem PySem.Spec PyProof.Rows
section
variable {X:Cx} {tg:Expr}
def kU (K:PySem.W.Frag) (tl:TE):TI:=λσ H R=>tl σ H λx H1=>∃ a,x=.ref a/\(∃ xs,zT K H1 a xs)/\R (jj K a) H1
def UH (K:PySem.W.Frag) (tl:TE):TI:=λσ H R=>tl σ H λx H1=>∃ a,x=.ref a/\(∃ xs,yN K H1 a xs)/\R (kT K a) H1
theorem KN {l:Expr} {tl:TE} (hl:PE X l tl):PI X tg l (kU X.K tl):=by
 intro pins s σ H R I h
 refine zk (hl pins s σ H _ I h) λv s1 ⟨x,H1,I1,r1,q1⟩=>?_
 obtain ⟨a,e,⟨xs,hq⟩,q⟩:=q1
 subst e
 cases r1
 obtain ⟨its,rv,p,hz⟩:=I1.list hq
 refine wpAny_pyIter_list p.isList ?_
 refine ⟨s1.heap.objs.size,[s1.heap.objs.size],_,_,H1,rfl,I1.kept (t':=s1.toks) λb o e=>Heap.get?_push_of_some _ e,KL a _,⟨_,Heap.get?_push_size _ rfl,rfl,rfl⟩,λb hb=>?_,q⟩
 have e:b=s1.heap.objs.size:=by simpa using hb
 subst e
 exact I1.fpOk (Nat.le_refl _) (I1.hok.fresh (Nat.le_refl _))
theorem zP0 {l:Expr} {tl:TE} (hl:PE X l tl):PI X tg l (UH X.K tl):=by
 intro pins s σ H R I h
 refine zk (hl pins s σ H _ I h) λv s1 ⟨x,H1,I1,r1,q1⟩=>?_
 obtain ⟨a,e,⟨xs,hq⟩,q⟩:=q1
 subst e
 cases r1
 obtain ⟨its,rv,p,hz⟩:=I1.tuple hq
 refine wpAny_pyIter_tuple (show s1.heap.IsTuple a its.toArray from p) ?_
 refine ⟨s1.heap.objs.size,[s1.heap.objs.size],_,_,H1,rfl,I1.kept (t':=s1.toks) λb o e=>Heap.get?_push_of_some _ e,KM a _,⟨_,Heap.get?_push_size _ rfl,rfl,rfl⟩,λb hb=>?_,q⟩
 have e:b=s1.heap.objs.size:=by simpa using hb
 subst e
 exact I1.fpOk (Nat.le_refl _) (I1.hok.fresh (Nat.le_refl _))
theorem zMp {pins:List (Addr × Obj)} {σ:St} {H:Hp} {s:Shared} {R:It->Hp->Prop} {E:Value->Shared->Prop} {lo hi:Int} {t u v:Tok} {tk:Nat} (I:zG X pins σ H s) (h1 : -(2 ^ 62)<=lo) (h2:lo < 2 ^ 62) (h3 : -(2 ^ 62)<=hi) (h4:hi < 2 ^ 62)
  (q:R (XW lo (hi - lo).toNat) H):wpAny (model X.prog X.w) X.A (pyIter (.ref s.heap.objs.size)) (KJ X pins σ tg R) E { s with heap:=s.heap.push { cls:=.type "range",data:=.fields #[.int lo t,.int hi u,.int 1 v] },toks:=tk }:=by
 refine wpAny_pyIter_range (IsRange.new ..) (small_one h1 h2 h3 h4) ?_
 have I1:zG X pins σ H { s with heap:=s.heap.push { cls:=.type "range",data:=.fields #[.int lo t,.int hi u,.int 1 v] },toks:=tk }:=I.kept λb o e=>Heap.get?_push_of_some _ e
 refine ⟨(s.heap.push { cls:=.type "range",data:=.fields #[.int lo t,.int hi u,.int 1 v] }).objs.size,[(s.heap.push { cls:=.type "range",data:=.fields #[.int lo t,.int hi u,.int 1 v] }).objs.size],_,_,H,rfl,
  I1.kept (t':=tk) λb o e=>Heap.get?_push_of_some _ e,zJZ _ lo (hi - lo).toNat,?_,λb hb=>?_,q⟩
 ·have e1:lo + ((0:Nat):Int) * 1=lo:=by simp
  have e2:(((hi - lo).toNat:Nat):Int) - ((0:Nat):Int)=Builtin.Range.rangeSize lo hi 1:=by rw [rangeSize_one]; split <;> omega
  show IsRangeIter _ _ (lo + ((0:Nat):Int) * 1) ((((hi - lo).toNat:Nat):Int) - ((0:Nat):Int)) 1
  rw [e1,e2]
  exact Heap.get?_push_size _ rfl
 ·have e:b=(s.heap.push { cls:=.type "range",data:=.fields #[.int lo t,.int hi u,.int 1 v] }).objs.size:=by simpa using hb
  subst e
  exact I1.fpOk (Nat.le_refl _) (I1.hok.fresh (Nat.le_refl _))
def kW (ta:TA):TI:=λσ H R=>ta σ H λvs H1=>∃ j:Int,vs=[.int j]/\-(2 ^ 62)<=j/\j < 2 ^ 62/\R (XW 0 j.toNat) H1
theorem zK3 {a:Expr} {ta:TA} {p pos:Pos} (hg:Gl X "range") (hm:X.mg "range" = none) (ha:PA X [a] ta) (hs:starEach [a] X.env=[(false,eval a X.env)]:=by rfl):PI X tg (.Call (.Name "range" p) [a] [] pos) (kW ta):=by
 intro pins s σ H R I h
 refine Call_ (qE I hg hm boot_range (PyProof.Rows.callWith_type1 (zk (ha pos pins s σ H _ I h) λus s1 ⟨vs,H1,I1,r1,q1⟩=>?_) hs rfl))
 obtain ⟨j,e,q1,q2,q⟩:=q1
 subst e
 cases r1 with
 | cons r rr=>
  cases rr
  obtain ⟨t,rfl⟩:=r
  exact call_range_1 (zMp I1 (by omega) (by omega) q1 q2 (by simpa using q))
def UI (wi:TI) (g:TG) (tb:TS):TS:=λD σ H=>wi σ H λJ H1=>∃ W:Nat->Nat->St->Hp->Prop,(∃ m,W 0 m σ H1)/\∀ i m σ H,W i m σ H->
 (J.stop i H/\D.nx σ H)\/(J.go i H/\∃ N:St->Hp->Prop,(∀ σ' H',N σ' H'->∃ m',m' < m/\W (i + 1) m' σ' H')/\∀ x H',J.yld i H x H'->g x σ H' λσ2 H2=>tb { D with nx:=N,ct:=N,bk:=D.nx } σ2 H2)
def gF (fp:List Addr) (h:Heap):List (Addr × Obj):=fp.filterMap λb=>(h.get? b).map λo=>(b,o)
theorem jm {fp:List Addr} {h:Heap} {b:Addr} {o:Obj} (hb:b∈fp) (e:h.get? b=some o):(b,o)∈gF fp h:=List.mem_filterMap.mpr ⟨b,hb,by rw [e]; rfl⟩
theorem zLR {fp:List Addr} {h:Heap} {p:Addr × Obj} (hp:p∈gF fp h):p.1∈fp/\h.get? p.1=some p.2:=by
 obtain ⟨b,hb,e⟩:=List.mem_filterMap.mp hp
 cases q:h.get? b with
 | none=>rw [q] at e; cases e
 | some o=>
  rw [q] at e
  have e':(b,o)=p:=Option.some.inj e
  subst e'
  exact ⟨hb,q⟩
theorem zG.pinned {pins:List (Addr × Obj)} {σ:St} {H:Hp} {s:Shared} {fp:List Addr} (I:zG X pins σ H s) (hf:∀ b∈fp,yY X pins H b) (ho:∀ b∈fp,∃ o,s.heap.get? b=some o/\∀ v,o.data≠.cell v):zG X (pins++gF fp s.heap) σ H s:=
 I.pins_of λp hp=>(List.mem_append.mp hp).elim (λz=>I.pin p (List.mem_append_right _ z)) λz=>by
  obtain ⟨hb,e⟩:=zLR z
  obtain ⟨f0,f1,f2,_⟩:=hf p.1 hb
  obtain ⟨o,e',d⟩:=ho p.1 hb
  rw [e] at e'; cases e'
  exact ⟨e,f0,f1,f2,d⟩
theorem zG.unpinned {pins pl:List (Addr × Obj)} {σ:St} {H:Hp} {s:Shared} (I:zG X (pins++pl) σ H s):zG X pins σ H s:=I.pins_of λp hp=>I.pin p (List.mem_append_right _ (List.mem_append_left _ hp))
theorem KO {iter:Expr} {body:List Stmt} {wi:TI} {g:TG} {tb:TS} {pos:Pos} (hp:PassesOwn (model X.prog X.w) X.A X.env X.xe) (hc:X.calm=true) (hi:PI X tg iter wi) (hg:PG X tg g) (hb:yc X body tb)
  (hs:∀ x,foldedSetIterable iter X.env x=pure x:=by intro _; rfl):PS X (.For tg iter body [] pos) (UI wi g tb):=by
 intro pins s σ H D I h
 refine wpAny_For (zk (hi pins s σ H _ I h) λv s1 h1=>zk h1 λitv s2 h2=>?_) hs
 obtain ⟨it,fp,tn,J,H2,e,I2,T,st2,f2,W,⟨m0,w0⟩,turn⟩:=h2
 subst e
 have stat:∀ {H':Hp},(∀ b∈fp,H' b=none)->∀ b∈fp,yY X pins H' b:=λhn b hb=>⟨hn b hb,(f2 b hb).2⟩
 refine codeAny_forLoop_any (λn s'=>∃ i σ' H',zG X pins σ' H' s'/\tn i s'.heap/\(∀ b∈fp,H' b=none)/\W i n σ' H') ?_ m0 ⟨0,σ,H2,I2,st2,λb hb=>(f2 b hb).1,w0⟩
 rintro n s3 ⟨i,σ3,H3,I3,st3,fr3,w3⟩
 rcases turn i n σ3 H3 w3 with ⟨stop,qn⟩ | ⟨go,N,hN,step⟩
 ·refine wpAny_passesOwn hp (zk (T.done X rfl rfl rfl hc i pins s3 σ3 H3 X.xe I3 (stat fr3) st3 stop) λr s4 ⟨hr,I4⟩=>?_)
  subst hr
  exact wpAny_execs_nil ⟨σ3,H3,I4,qn⟩
 ·refine wpAny_passesOwn hp (zk (T.item X rfl rfl rfl hc i pins s3 σ3 H3 X.xe I3 (stat fr3) st3 go) λr s4 ⟨u,hr,h4⟩=>?_)
  subst hr
  refine wpAny_passesOwn hp (zk h4 λ_ s5 ⟨x,H5,I5,r5,y5,st5,fr5⟩=>?_)
  have I5':=I5.pinned (stat fr5) (T.obj _ _ st5)
  refine wpAny_passesOwn hp (zk (hg _ s5 σ3 H5 x u _ I5' r5 (step x H5 y5)) λ_ s6 ⟨σ6,H6,I6,q6⟩=>?_)
  refine wpAny_passesOwn hp (zk (hb _ s6 σ6 H6 _ I6 q6) λf s7 q7=>?_)
  have again:∀ {σ7:St} {H7:Hp},zG X (pins++gF fp s5.heap) σ7 H7 s7->N σ7 H7->∃ m,m < n/\∃ i σ' H',zG X pins σ' H' s7/\tn i s7.heap/\(∀ b∈fp,H' b=none)/\W i m σ' H':=λ{σ7 H7} I7 n7=>by
   obtain ⟨m',hm,w7⟩:=hN σ7 H7 n7
   refine ⟨m',hm,i + 1,σ7,H7,I7.unpinned,T.keep _ _ _ st5 λb hb o e=>(I7.pin (b,o) (List.mem_append_right _ (List.mem_append_right _ (jm hb e)))).1,λb hb=>?_,w7⟩
   obtain ⟨o,e,d⟩:=T.obj _ _ st5 b hb
   exact (I7.pin (b,o) (List.mem_append_right _ (List.mem_append_right _ (jm hb e)))).2.1
  cases f with
  | next=>obtain ⟨σ7,H7,I7,n7⟩:=q7; exact again I7 n7
  | cont=>obtain ⟨σ7,H7,I7,n7⟩:=q7; exact again I7 n7
  | brk=>obtain ⟨σ7,H7,I7,q7⟩:=q7; exact ⟨σ7,H7,I7.unpinned,q7⟩
  | ret v=>obtain ⟨x7,σ7,H7,I7,r7,q7⟩:=q7; exact ⟨x7,σ7,H7,I7.unpinned,r7,q7⟩
end
theorem zNU {K:PySem.W.Frag} {a:Addr} {xs:List V} {g:TG} {tb:TS} {D:xa} {σ:St} {H:Hp} (Pv:Nat->St->Hp->Prop) (h0:Pv 0 σ H) (hl:∀ i σ H,i<=xs.length->Pv i σ H->zT K H a xs)
  (hs:∀ i x σ H,xs[i]? = some x->Pv i σ H->g x σ H λσ2 H2=>tb { D with nx:=Pv (i + 1),ct:=Pv (i + 1),bk:=D.nx } σ2 H2) (hd:∀ σ H,Pv xs.length σ H->D.nx σ H) :
  ∃ W:Nat->Nat->St->Hp->Prop,(∃ m,W 0 m σ H)/\∀ i m σ H,W i m σ H->
   ((jj K a).stop i H/\D.nx σ H)\/((jj K a).go i H/\∃ N:St->Hp->Prop,(∀ σ' H',N σ' H'->∃ m',m' < m/\W (i + 1) m' σ' H')/\∀ x H',(jj K a).yld i H x H'->g x σ H' λσ2 H2=>tb { D with nx:=N,ct:=N,bk:=D.nx } σ2 H2):=by
 refine ⟨λi m σ H=>m=xs.length - i/\i<=xs.length/\Pv i σ H,⟨xs.length,by simp,Nat.zero_le _,h0⟩,?_⟩
 rintro i m σ H ⟨rfl,hi,p⟩
 have q:=hl i σ H hi p
 by_cases hlt:i < xs.length
 ·refine .inr ⟨⟨xs,xs[i],q,by simp [hlt]⟩,Pv (i + 1),λσ' H' p'=>⟨xs.length - (i + 1),by omega,rfl,hlt,p'⟩,λx H' y=>?_⟩
  obtain ⟨e,y⟩:=y
  subst e
  exact hs i x σ _ (y xs q) p
 ·have e:i=xs.length:=by omega
  subst e
  exact .inl ⟨⟨xs,q,Nat.le_refl _⟩,hd σ H p⟩
end L2
namespace L2
open PySem PySem.Spec PyProof.Rows
abbrev R2:=V->V->Hp->VK->Prop
def ye (X:Cx) (f:Value->Value->Sem Value) (r:R2):Prop:=
 ∀ (pins:List (Addr × Obj)) (s:Shared) (σ:St) (H:Hp) (x y:V) (v u:Value) (Q:VK),zG X pins σ H s->zV x v->zV y u->r x y H Q->
  wpAny (model X.prog X.w) X.A (f v u) (EP X pins σ Q) X.xe s
def UJ (X:Cx) (f:Value->Sem Value) (r:V->Hp->VK->Prop):Prop:=
 ∀ (pins:List (Addr × Obj)) (s:Shared) (σ:St) (H:Hp) (x:V) (v:Value) (Q:VK),zG X pins σ H s->zV x v->r x H Q->
  wpAny (model X.prog X.w) X.A (f v) (EP X pins σ Q) X.xe s
def wv (X:Cx) (f:Value) (r:List V->Hp->VK->Prop):Prop:=
 ∀ (pins:List (Addr × Obj)) (s:Shared) (σ:St) (H:Hp) (xs:List V) (us:List Value) (Q:VK),zG X pins σ H s->zR xs us->r xs H Q->
  wpAny (model X.prog X.w) X.A (call f us) (EP X pins σ Q) X.xe s
def gG (r:R2) (ta tb:TE):TE:=λσ H Q=>ta σ H λx H1=>tb σ H1 λy H2=>r x y H2 Q
def tUn (r:V->Hp->VK->Prop) (ta:TE):TE:=λσ H Q=>ta σ H λx H1=>r x H1 Q
def rI (C:Int->Int->Prop) (g:Int->Int->V):R2:=λx y H Q=>∃ i j,x=.int i/\y=.int j/\C i j/\Q (g i j) H
def v8 (g:Int->Int->V):R2:=λx y H Q=>∃ i j,x=.int i/\y=.int j/\Q (g i j) H
def rU (g:Int->V):V->Hp->VK->Prop:=λx H Q=>∃ i,x=.int i/\Q (g i) H
section
variable {X:Cx} {a b c:Expr} {ta tb tc:TE} {pos:Pos}
theorem qF (ha:PE X a ta) (hb:PE X b tb) {pins:List (Addr × Obj)} {s:Shared} {σ:St} {H:Hp} {R:V->V->Hp->Prop} (I:zG X pins σ H s)
  (h:ta σ H λx H1=>tb σ H1 λy H2=>R x y H2) {Q:Value->Shared->Prop} {f:Value->Value->Sem Value}
  (hf:∀ v u s2 x y H2,zG X pins σ H2 s2->zV x v->zV y u->R x y H2->wpAny (model X.prog X.w) X.A (f v u) Q X.xe s2) :
  wpAny (model X.prog X.w) X.A (eval a X.env) (λv s₁=>wpAny (model X.prog X.w) X.A (eval b X.env) (λu s₂=>wpAny (model X.prog X.w) X.A (f v u) Q X.xe s₂) X.xe s₁) X.xe s:=by
 refine zk (ha pins s σ H _ I h) λv s1 ⟨x,H1,I1,r1,q1⟩=>?_
 refine zk (hb pins s1 σ H1 _ I1 q1) λu s2 ⟨y,H2,I2,r2,q2⟩=>?_
 exact hf v u s2 x y H2 I2 r1 r2 q2
theorem gH {op:Operator} {r:R2} (ho:ye X (binaryOp op) r) (ha:PE X a ta) (hb:PE X b tb):PE X (.BinOp a op b pos) (gG r ta tb):=by
 intro pins s σ H Q I h
 exact wpAny_BinOp (qF ha hb I h λv u s2 x y H2 I2 rx ry q=>ho pins s2 σ H2 x y v u Q I2 rx ry q)
theorem kX {op:UnaryOp} {r:V->Hp->VK->Prop} (ho:UJ X (unaryOp op) r) (ha:PE X a ta):PE X (.UnaryOp op a pos) (tUn r ta):=by
 intro pins s σ H Q I h
 exact UnaryOp_ (zk (ha pins s σ H _ I h) λv s1 ⟨x,H1,I1,r1,q1⟩=>ho pins s1 σ H1 x v Q I1 r1 q1)
theorem XX {f:Value->Value->Sem Value} {C:Int->Int->Prop} {g:Int->Int->Int}
  (rule:∀ (i j:Int) (t u:Tok) (s:Shared) (Q:Value->Shared->Prop) (E:Value->Shared->Prop),C i j->Q (.int (g i j) s.toks) { s with toks:=s.toks + 1 }->wpAny (model X.prog X.w) X.A (f (.int i t) (.int j u)) Q E s) :
  ye X f (rI C λi j=>.int (g i j)):=by
 intro pins s σ H x y v u Q I rx ry h
 obtain ⟨i,j,rfl,rfl,hc,q⟩:=h
 obtain ⟨t,rfl⟩:=rx
 obtain ⟨t',rfl⟩:=ry
 exact rule i j t t' s _ _ hc ⟨.int (g i j),H,I.tok _,⟨_,rfl⟩,q⟩
theorem kY {f:Value->Value->Sem Value} {g:Int->Int->Int}
  (rule:∀ (i j:Int) (t u:Tok) (s:Shared) (Q:Value->Shared->Prop) (E:Value->Shared->Prop),Q (.int (g i j) s.toks) { s with toks:=s.toks + 1 }->wpAny (model X.prog X.w) X.A (f (.int i t) (.int j u)) Q E s) :
  ye X f (v8 λi j=>.int (g i j)):=by
 intro pins s σ H x y v u Q I rx ry h
 obtain ⟨i,j,rfl,rfl,q⟩:=h
 obtain ⟨t,rfl⟩:=rx
 obtain ⟨t',rfl⟩:=ry
 exact rule i j t t' s _ _ ⟨.int (g i j),H,I.tok _,⟨_,rfl⟩,q⟩
theorem jE {f:Value->Value->Sem Value} {g:Int->Int->Bool}
  (rule:∀ (i j:Int) (t u:Tok) (s:Shared) (Q:Value->Shared->Prop) (E:Value->Shared->Prop),Q (.bool (g i j)) s->wpAny (model X.prog X.w) X.A (f (.int i t) (.int j u)) Q E s) :
  ye X f (v8 λi j=>.bl (g i j)):=by
 intro pins s σ H x y v u Q I rx ry h
 obtain ⟨i,j,rfl,rfl,q⟩:=h
 obtain ⟨t,rfl⟩:=rx
 obtain ⟨t',rfl⟩:=ry
 exact rule i j t t' s _ _ ⟨.bl (g i j),H,I,rfl,q⟩
def qG (i j:Int):Prop:=0<=j/\j<=1000000/\i.natAbs < 2 ^ 64
theorem zQI:ye X (binaryOp .Add) (v8 λi j=>.int (i + j)):=kY λ_ _ _ _ _ _ _ q=>add_int q
theorem UK:ye X (binaryOp .Sub) (v8 λi j=>.int (i - j)):=kY λ_ _ _ _ _ _ _ q=>sub_int q
theorem zOo:ye X (binaryOp .Mod) (rI (λ_ j=>j≠0) λi j=>.int (i.fmod j)):=XX λ_ _ _ _ _ _ _ hc q=>mod_int' hc q
theorem zQC:ye X (binaryOp .Pow) (rI qG λi j=>.int (i ^ j.toNat)):=XX λ_ _ _ _ _ _ _ hc q=>pow_int_small hc.1 hc.2.1 hc.2.2 q
theorem unI {f:Value->Sem Value} {g:Int->Int}
  (rule:∀ (i:Int) (t:Tok) (s:Shared) (Q:Value->Shared->Prop) (E:Value->Shared->Prop),Q (.int (g i) s.toks) { s with toks:=s.toks + 1 }->wpAny (model X.prog X.w) X.A (f (.int i t)) Q E s) :
  UJ X f (rU λi=>.int (g i)):=by
 intro pins s σ H x v Q I rx h
 obtain ⟨i,rfl,q⟩:=h
 obtain ⟨t,rfl⟩:=rx
 exact rule i t s _ _ ⟨.int (g i),H,I.tok _,⟨_,rfl⟩,q⟩
theorem zPU:UJ X (unaryOp .USub) (rU λi=>.int (-i)):=unI λ_ _ _ _ _ q=>neg_int q
end
def kZ:V->V->Bool
 | .non,.non=>true | .non,.int _=>true | .int _,.non=>true | .non,.bl _=>true | .bl _,.non=>true | .non,.str _=>true | .str _,.non=>true
 | .int _,.int _=>true | .bl _,.bl _=>true | .str _,.str _=>true | .byt _,.byt _=>true
 | .int _,.str _=>true | .str _,.int _=>true | .bl _,.str _=>true | .str _,.bl _=>true
 | _,_=>false
def KP:R2:=λx y H Q=>kZ x y=true/\Q (.bl (decide (x=y))) H
def KQ:R2:=λx y H Q=>kZ x y=true/\Q (.bl (!decide (x=y))) H
theorem XY {i j:Int}:decide (V.int i=V.int j)=(i == j):=by
 rw [Bool.eq_iff_iff]
 simp
theorem XZ {i j:Bool}:decide (V.bl i=V.bl j)=(i == j):=by
 rw [Bool.eq_iff_iff]
 simp
theorem KR {i j:Str}:decide (V.str i=V.str j)=(i == j):=by
 rw [Bool.eq_iff_iff]
 simp
theorem KS {i j:Array UInt8}:decide (V.byt i=V.byt j)=(i.toList == j.toList):=by
 rw [Bool.eq_iff_iff]
 cases i
 cases j
 simp
section
variable {X:Cx} {a b c:Expr} {ta tb tc:TE} {pos:Pos}
theorem xL {pins:List (Addr × Obj)} {σ:St} {H:Hp} {s:Shared} {Q:VK} {k k':Bool} (I:zG X pins σ H s) (q:Q (.bl k) H) (e:k=k'):EP X pins σ Q (.bool k') s:=by
 subst e
 exact ⟨.bl k,H,I,rfl,q⟩
theorem UL:ye X (compareOp .Eq) KP:=by
 intro pins s σ H x y v u Q I rx ry h
 obtain ⟨hs,q⟩:=h
 cases x with
 | non=>
  cases rx
  cases y with
  | non=>cases ry; exact PySem.EqNone.eq_none_none (xL I q (by simp))
  | bl j=>cases ry; exact PySem.EqNone.eq_none_bool (xL I q (by simp))
  | int j=>obtain ⟨t',rfl⟩:=ry; exact PySem.EqNone.eq_none_int (xL I q (by simp))
  | str j=>obtain ⟨t',rfl⟩:=ry; exact PySem.EqNone.eq_none_str (xL I q (by simp))
  | _=>exact absurd (show false=true from hs) Bool.false_ne_true
 | bl i=>
  cases rx
  cases y with
  | non=>cases ry; exact PySem.EqNone.eq_bool_none (xL I q (by simp))
  | bl j=>cases ry; exact eq_bool (xL I q XZ)
  | str j=>obtain ⟨t',rfl⟩:=ry; exact PySem.EqMixed.eq_bool_str (xL I q (by simp))
  | _=>exact absurd (show false=true from hs) Bool.false_ne_true
 | int i=>
  obtain ⟨t,rfl⟩:=rx
  cases y with
  | non=>cases ry; exact PySem.EqNone.eq_int_none (xL I q (by simp))
  | int j=>obtain ⟨t',rfl⟩:=ry; exact eq_int (xL I q XY)
  | str j=>obtain ⟨t',rfl⟩:=ry; exact PySem.EqMixed.eq_int_str (xL I q (by simp))
  | _=>exact absurd (show false=true from hs) Bool.false_ne_true
 | str i=>
  obtain ⟨t,rfl⟩:=rx
  cases y with
  | non=>cases ry; exact PySem.EqNone.eq_str_none (xL I q (by simp))
  | bl j=>cases ry; exact PySem.EqMixed.eq_str_bool (xL I q (by simp))
  | int j=>obtain ⟨t',rfl⟩:=ry; exact PySem.EqMixed.eq_str_int (xL I q (by simp))
  | str j=>obtain ⟨t',rfl⟩:=ry; exact eq_str (xL I q KR)
  | _=>exact absurd (show false=true from hs) Bool.false_ne_true
 | byt i=>
  obtain ⟨t,rfl⟩:=rx
  cases y with
  | byt j=>obtain ⟨t',rfl⟩:=ry; exact PySem.W.eq_bytes (xL I q KS)
  | _=>exact absurd (show false=true from hs) Bool.false_ne_true
 | _=>cases y <;> exact absurd (show false=true from hs) Bool.false_ne_true
theorem ka:ye X (compareOp .NotEq) KQ:=by
 intro pins s σ H x y v u Q I rx ry h
 obtain ⟨hs,q⟩:=h
 cases x with
 | non=>
  cases rx
  cases y with
  | non=>cases ry; exact PySem.EqNone.ne_none_none (xL I q (by simp))
  | bl j=>cases ry; exact PySem.EqNone.ne_none_bool (xL I q (by simp))
  | int j=>obtain ⟨t',rfl⟩:=ry; exact PySem.EqNone.ne_none_int (xL I q (by simp))
  | str j=>obtain ⟨t',rfl⟩:=ry; exact PySem.EqNone.ne_none_str (xL I q (by simp))
  | _=>exact absurd (show false=true from hs) Bool.false_ne_true
 | bl i=>
  cases rx
  cases y with
  | non=>cases ry; exact PySem.EqNone.ne_bool_none (xL I q (by simp))
  | bl j=>cases ry; exact ne_bool (xL I q (congrArg not XZ))
  | str j=>obtain ⟨t',rfl⟩:=ry; exact PySem.EqMixed.ne_bool_str (xL I q (by simp))
  | _=>exact absurd (show false=true from hs) Bool.false_ne_true
 | int i=>
  obtain ⟨t,rfl⟩:=rx
  cases y with
  | non=>cases ry; exact PySem.EqNone.ne_int_none (xL I q (by simp))
  | int j=>obtain ⟨t',rfl⟩:=ry; exact ne_int (xL I q (congrArg not XY))
  | str j=>obtain ⟨t',rfl⟩:=ry; exact PySem.EqMixed.ne_int_str (xL I q (by simp))
  | _=>exact absurd (show false=true from hs) Bool.false_ne_true
 | str i=>
  obtain ⟨t,rfl⟩:=rx
  cases y with
  | non=>cases ry; exact PySem.EqNone.ne_str_none (xL I q (by simp))
  | bl j=>cases ry; exact PySem.EqMixed.ne_str_bool (xL I q (by simp))
  | int j=>obtain ⟨t',rfl⟩:=ry; exact PySem.EqMixed.ne_str_int (xL I q (by simp))
  | str j=>obtain ⟨t',rfl⟩:=ry; exact ne_str (xL I q (congrArg not KR))
  | _=>exact absurd (show false=true from hs) Bool.false_ne_true
 | byt i=>
  obtain ⟨t,rfl⟩:=rx
  cases y with
  | byt j=>obtain ⟨t',rfl⟩:=ry; exact PySem.W.ne_bytes (xL I q (congrArg not KS))
  | _=>exact absurd (show false=true from hs) Bool.false_ne_true
 | _=>cases y <;> exact absurd (show false=true from hs) Bool.false_ne_true
theorem UM:ye X (compareOp .Lt) (v8 λi j=>.bl (decide (i < j))):=jE λ_ _ _ _ _ _ _ q=>lt_int q
theorem KT:ye X (compareOp .LtE) (v8 λi j=>.bl (decide (i<=j))):=jE λ_ _ _ _ _ _ _ q=>le_int q
theorem kd:ye X (compareOp .Gt) (v8 λi j=>.bl (decide (j < i))):=jE λ_ _ _ _ _ _ _ q=>gt_int q
theorem KU:ye X (compareOp .GtE) (v8 λi j=>.bl (decide (j<=i))):=jE λ_ _ _ _ _ _ _ q=>ge_int q
def isObj:HO->Bool
 | .lst _=>true
 | .ins _ _ _=>true
 | _=>false
theorem ye.or {f:Value->Value->Sem Value} {r r':R2} (h:ye X f r) (h':ye X f r'):ye X f (λx y H Q=>r x y H Q\/r' x y H Q):=by
 intro pins s σ H x y v u Q I rx ry q
 rcases q with q | q
 ·exact h pins s σ H x y v u Q I rx ry q
 ·exact h' pins s σ H x y v u Q I rx ry q
theorem uI (b:Expr) {op:CmpOp} (h:op≠.In:=by decide) (h2:op≠.NotIn:=by decide):behindInMarks op b=false:=by
 have e1:(op == CmpOp.In)=false:=by cases op <;> first | rfl | exact absurd rfl h
 have e2:(op == CmpOp.NotIn)=false:=by cases op <;> first | rfl | exact absurd rfl h2
 cases b <;> simp [behindInMarks,e1,e2]
theorem zOk {op:CmpOp} {r:R2} (ho:ye X (compareOp op) r) (ha:PE X a ta) (hb:PE X b tb) (hm:behindInMarks op b=false):PE X (.Compare a [op] [b] pos) (gG r ta tb):=by
 intro pins s σ H Q I h
 exact wpAny_Compare1 (qF ha hb I h λv u s2 x y H2 I2 rx ry q=>ho pins s2 σ H2 x y v u Q I2 rx ry q) hm
def UN (t:TE):TT:=λσ H Q=>t σ H λx H'=>∃ k,x=.bl k/\Q k H'
theorem KW {op:CmpOp} {r:R2} (ho:ye X (compareOp op) r) (ha:PE X a ta) (hb:PE X b tb) (hm:behindInMarks op b=false):PT X (.Compare a [op] [b] pos) (UN (gG r ta tb)):=by
 intro pins s σ H Q I h
 refine wpAny_isTrue_Compare1 (zk (ha pins s σ H _ I h) λv s1 ⟨x,H1,I1,r1,q1⟩=>zk (hb pins s1 σ H1 _ I1 q1) λu s2 ⟨y,H2,I2,r2,q2⟩=>
  zk (ho pins s2 σ H2 x y v u _ I2 r1 r2 q2) λc s3 ⟨z,H3,I3,r3,k,e,q3⟩=>?_) hm
 subst e
 cases r3
 exact wpAny_truthy_bool ⟨H3,I3,q3⟩
def KY (r r':R2) (ta tb tc:TE):TE:=λσ H Q=>ta σ H λx H1=>tb σ H1 λy H2=>r x y H2 λz H3=>∃ k,z=.bl k∧
 (if k=true then tc σ H3 λw' H4=>r' y w' H4 Q else Q (.bl false) H3)
theorem zMw {op op':CmpOp} {r r':R2} (ho:ye X (compareOp op) r) (ho':ye X (compareOp op') r') (ha:PE X a ta) (hb:PE X b tb) (hc:PE X c tc)
  (hm:lastMarks [op,op'] [b,c]=false:=by with_unfolding_all rfl):PT X (.Compare a [op,op'] [b,c] pos) (UN (KY r r' ta tb tc)):=by
 intro pins s σ H Q I h
 refine isTrue_chain (zk (ha pins s σ H _ I h) λv s1 ⟨x,H1,I1,r1,q1⟩=>test_link (zk (hb pins s1 σ H1 _ I1 q1) λu s2 ⟨y,H2,I2,r2,q2⟩=>
  zk (ho pins s2 σ H2 x y v u _ I2 r1 r2 q2) λd s3 ⟨z,H3,I3,r3,k,e,q3⟩=>?_)) hm
 subst e
 cases r3
 refine wpAny_truthy_bool ?_
 cases k with
 | false=>
  obtain ⟨k',e',q'⟩:=q3
  cases e'
  exact ite_ff ⟨H3,I3,q'⟩
 | true=>
  refine ite_tt (test_last (zk (hc pins s3 σ H3 _ I3 q3) λw' s4 ⟨z',H4,I4,r4,q4⟩=>zk (ho' pins s4 σ H4 y z' u w' _ I4 r2 r4 q4) λd' s5 ⟨z2,H5,I5,r5,k2,e2,q5⟩=>?_))
  subst e2
  cases r5
  exact wpAny_truthy_bool ⟨H5,I5,q5⟩
theorem UO:(sizeLine:Nat) < 2 ^ 63:=by rw [sizeLine_eq]; decide
theorem jF {x:V} {us:List Value} (r:zR [x] us):∃ u,us=[u]/\zV x u:=by
 cases r with
 | cons r1 r2=>cases r2; exact ⟨_,rfl,r1⟩
theorem kf {x y:V} {us:List Value} (r:zR [x,y] us):∃ u w',us=[u,w']/\zV x u/\zV y w':=by
 cases r with
 | cons r1 r2=>
  cases r2 with
  | cons r3 r4=>cases r4; exact ⟨_,_,rfl,r1,r3⟩
theorem Xa (hc:X.calm=true):wv X (.builtin "max") (λxs H Q=>∃ i j,xs=[.int i,.int j]/\Q (.int (if j > i then j else i)) H):=by
 intro pins s σ H xs us Q I r h
 obtain ⟨i,j,rfl,q⟩:=h
 obtain ⟨u,w',rfl,⟨t,rfl⟩,⟨t',rfl⟩⟩:=kf r
 refine max_two_ints (I.ok.hd hc) λh' tk k=>⟨_,H,I.kept k,?_,q⟩
 by_cases hj:j > i
 ·rw [if_pos hj,if_pos hj]; exact ⟨_,rfl⟩
 ·rw [if_neg hj,if_neg hj]; exact ⟨_,rfl⟩
theorem KZ (hc:X.calm=true):wv X (.builtin "min") (λxs H Q=>∃ i j,xs=[.int i,.int j]/\Q (.int (if j < i then j else i)) H):=by
 intro pins s σ H xs us Q I r h
 obtain ⟨i,j,rfl,q⟩:=h
 obtain ⟨u,w',rfl,⟨t,rfl⟩,⟨t',rfl⟩⟩:=kf r
 refine min_two_ints (I.ok.hd hc) λh' tk k=>⟨_,H,I.kept k,?_,q⟩
 by_cases hj:j < i
 ·rw [if_pos hj,if_pos hj]; exact ⟨_,rfl⟩
 ·rw [if_neg hj,if_neg hj]; exact ⟨_,rfl⟩
theorem UP:wv X (.type "int") (λxs H Q=>(∃ i,xs=[.int i]/\Q (.int i) H)\/∃ k,xs=[.bl k]/\Q (.int (if k then 1 else 0)) H):=by
 intro pins s σ H xs us Q I r h
 rcases h with ⟨i,rfl,q⟩ | ⟨k,rfl,q⟩
 ·obtain ⟨u,rfl,t,rfl⟩:=jF r
  exact call_int_int ⟨.int i,H,I,⟨_,rfl⟩,q⟩
 ·obtain ⟨u,rfl,r1⟩:=jF r
  cases r1
  exact call_int_bool ⟨.int (if k then 1 else 0),H,I.tok _,⟨_,rfl⟩,q⟩
end
end L2
namespace L2
open PySem PySem.Spec PyProof.Rows
structure vN (h:Heap) (x dx C:Addr) (mA:Str->Option Value):Prop where
 obj:h.get? x=some (PySem.W.instObj C dx)
 ns:h.Ns1 dx mA
 ne:dx≠x
theorem zLb {h:Heap} {dx:Addr} {mA:Str->Option Value} (n:h.Ns1 dx mA):∃ od,h.get? dx=some od/\∀ name,PySem.W.lookIn name od=some (mA name):=by
 obtain ⟨o,es,ep,ho,hd,hk,_,hm⟩:=n
 refine ⟨o,ho,λname=>?_⟩
 have e:=hm name
 unfold nsFind findBy at e
 rw [<- Array.find?_toList] at e
 unfold PySem.W.lookIn
 rw [hd]
 dsimp only
 split
 ·rename_i y q
  rw [q] at e
  exact congrArg some e
 ·rename_i q
  rw [q] at e
  have a:es.toList.any (·.refKey)=false:=by
   rw [List.any_eq_false]
   intro y hy
   obtain ⟨z,t,hkey⟩:=hk y (Array.mem_toList_iff.mp hy)
   simp [DictEntry.refKey,hkey]
  have a':¬ es.toList.any (·.refKey)=true:=by rw [a]; exact Bool.false_ne_true
  rw [if_neg a']
  exact congrArg some e
theorem vN.look {h:Heap} {x dx C:Addr} {mA:Str->Option Value} (I:vN h x dx C mA):∃ od,PySem.W.InstAt h x (PySem.W.instObj C dx) C (some od)/\∀ name,PySem.W.lookIn name od=some (mA name):=
 let ⟨od,ho,hl⟩:=zLb I.ns
 ⟨od,⟨I.obj,rfl,rfl,ho⟩,hl⟩
section
variable {prog:Program} {w:World} {A:Around} {E:Value->Shared->Prop} {s:Shared} {K:PySem.W.Frag} {x dx C f:Addr} {mA:Str->Option Value} {name:Str} {v:Value}
theorem zO7 {expr:Bool} {Q:Value->Shared->Prop} (X:K.In s.heap) (I:vN s.heap x dx C mA) (hg:PySem.W.plainGet K C name=true) (hh:PySem.W.hasDictIn K C=true)
  (ha:PySem.W.findIn K (.ref C) name=some none) (hv:mA name=some v) (hv':PySem.W.handedIn v=true) (h:Q v { s with toks:=s.toks + 1 }) :
  wpAny (model prog w) A (getAttr (.ref x) name expr) Q E s:=by
 obtain ⟨od,J,hl⟩:=I.look
 exact PySem.W.get_value X J (PySem.W.plainGet_of hg).1 (PySem.W.findObj_own hh ha rfl (by rw [hl,hv])) hv' h
theorem zNS {pl:Sem Bool} {Q:Value × List Value->Shared->Prop} (X:K.In s.heap) (I:vN s.heap x dx C mA) (hg:PySem.W.plainGet K C name=true)
  (hf:PySem.W.findIn K (.ref C) name=some (some (.ref f))) (ht:PySem.W.isFn K (.ref f)=true) (hv:mA name=none) (h:Q (.ref f,[.ref x]) s) :
  wpAny (model prog w) A (getMethod (.ref x) name pl) Q E s:=by
 obtain ⟨od,J,hl⟩:=I.look
 exact PySem.W.method_fn X J (PySem.W.plainGet_of hg).1 (PySem.W.plainGet_of hg).2 hf (beq_iff_eq.mp ht) (by show (PySem.W.lookIn name od).map (·.isSome)=some false; rw [hl,hv]; rfl) h
theorem zOZ {ns:List Str} {Q:Unit->Shared->Prop} (X:K.In s.heap) (I:vN s.heap x dx C mA)
  (hs:PySem.W.findIn K (.ref C) "__setattr__" = some (some (.builtin "object.__setattr__"))) (hp:PySem.W.plainOver K C=true) (ht:PySem.W.takerIn K C name=some none) (hh:PySem.W.hasDictIn K C=true)
  (hw:PySem.Within mA ns) (hsz:ns.length<=sizeLine)
  (h:∀ h',vN h' x dx C (λy=>if y=name then some v else mA y)->Heap.SameBut dx s.heap h'->Q () { s with heap:=h',toks:=s.toks + 2 }) :
  wpAny (model prog w) A (setAttr (.ref x) name v) Q E s:=by
 obtain ⟨od,J,hl⟩:=I.look
 refine PySem.W.set_plain X J hs (PySem.W.osa_open (s:={ s with toks:=s.toks + 1 }) (r:=none) X J hp ht λb=>?_)
 obtain ⟨cd,hc,hd'⟩:=PySem.W.any_some hh
 have hx:s.heap.get? x=some ⟨.ref C,some dx,.plain,#[]⟩:=I.obj
 refine wpAny_bind (wpAny_pure (wpAny_bind (wpAny_bind (wpAny_loadPart hx (wpAny_bind (PySem.W.Looks.here (s:={ s with toks:=s.toks + 1 }) (PySem.W.looks_clsIn X hc) ?_))))))
 rw [hd']
 refine wpAny_pure (a:=some dx) (wpAny_bind (wpAny_pure (wpAny_bind ?_)))
 refine wpAny_nsSet1 (s:={ s with toks:=s.toks + 1 }) I.ns λh' hn2 hs2=>?_
 obtain ⟨oD,esD,epD,hoD,hdD,hcD⟩:=hn2.count (PySem.Within.cons name v hw)
 refine wpAny_bind (wpAny_lookBehind hoD (by rw [hdD]; exact pastItsLine_dict (Nat.le_trans hcD (by rw [List.length_cons]; omega))) ?_)
 exact wpAny_pure (h _ ⟨(hs2.2 _ (Ne.symm I.ne)).trans I.obj,hn2,I.ne⟩ hs2)
theorem zNL {R:Result->Shared->Prop} {vs:List Value} {kw:List (Str × Value)} (X:K.In s.heap) (hm:PySem.W.makesIn K C=true)
  (hi:PySem.W.findIn K (.ref C) "__init__" = some (some (.ref f))) (hf:PySem.W.typeIn K (.ref f)=some (.type "function"))
  (h:codeAny (model prog w) (A.under (.builtin "type.__call__" ⟨.ref C :: vs,kw⟩)) (.call (.ref f) ⟨.ref (s.heap.objs.size + 1) :: vs,kw⟩) (PySem.W.InitBack (s.heap.objs.size + 1) R)
   { s with heap:=(s.heap.push PySem.W.emptyDict).push (PySem.W.instObj C s.heap.objs.size) }) :
  codeAny (model prog w) A (.call (.ref C) ⟨vs,kw⟩) R s:=by
 obtain ⟨hh,g,d,t,os⟩:=s
 exact PySem.W.make_core (PySem.W.makes_of X hm) (PySem.W.looks_findIn X hi) (λself=>PySem.W.bind_fn X self hf) (.inl rfl) h
end
def yZ (f:Str) (v:V):List (Str × V)->List (Str × V)
 | []=>[(f,v)]
 | (g,x) :: r=>if g=f then (g,v) :: r else (g,x) :: yZ f v r
theorem Ka (f g:Str) (v:V):∀ fs:List (Str × V),(yZ f v fs).lookup g=if g=f then some v else fs.lookup g
 | []=>by
  show List.lookup g [(f,v)]=_
  by_cases h:g=f
  ·have hb:(g == f)=true:=beq_iff_eq.mpr h
   simp only [List.lookup,hb,if_pos h]
  ·have hb:(g == f)=false:=beq_eq_false_iff_ne.mpr h
   simp only [List.lookup,hb,if_neg h]
 | (k,x) :: r=>by
  have ih:=Ka f g v r
  rw [show yZ f v ((k,x) :: r)=(if k=f then (k,v) :: r else (k,x) :: yZ f v r) from rfl]
  by_cases hk:k=f
  ·rw [if_pos hk]
   by_cases h:g=k
   ·have hb:(g == k)=true:=beq_iff_eq.mpr h
    simp only [List.lookup,hb,if_pos (h.trans hk)]
   ·have hb:(g == k)=false:=beq_eq_false_iff_ne.mpr h
    simp only [List.lookup,hb,if_neg (λe:g=f=>h (e.trans hk.symm))]
  ·rw [if_neg hk]
   by_cases h:g=k
   ·have hb:(g == k)=true:=beq_iff_eq.mpr h
    simp only [List.lookup,hb,if_neg (λe:g=f=>hk (h.symm.trans e))]
   ·have hb:(g == k)=false:=beq_eq_false_iff_ne.mpr h
    simp only [List.lookup,hb]
    exact ih
theorem UQ (f:Str) (v:V):∀ fs:List (Str × V),f∈(yZ f v fs).map (·.1)/\∀ g,g∈fs.map (·.1)->g∈(yZ f v fs).map (·.1)
 | []=>⟨by simp [yZ],λg h=>by simp at h⟩
 | (k,x) :: r=>by
  obtain ⟨i1,i2⟩:=UQ f v r
  rw [show yZ f v ((k,x) :: r)=(if k=f then (k,v) :: r else (k,x) :: yZ f v r) from rfl]
  by_cases hk:k=f
  ·rw [if_pos hk]
   subst hk
   exact ⟨by simp,λg h=>by simpa using h⟩
  ·rw [if_neg hk]
   refine ⟨?_,λg h=>?_⟩
   ·rw [List.map_cons]
    exact List.mem_cons_of_mem _ i1
   ·rw [List.map_cons] at h |-
    rcases List.mem_cons.mp h with e | e
    ·exact List.mem_cons.mpr (.inl e)
    ·exact List.mem_cons_of_mem _ (i2 g e)
theorem Kb (f:Str) (v:V):∀ fs:List (Str × V),(yZ f v fs).length<=fs.length + 1
 | []=>by simp [yZ]
 | (k,x) :: r=>by
  have ih:=Kb f v r
  rw [show yZ f v ((k,x) :: r)=(if k=f then (k,v) :: r else (k,x) :: yZ f v r) from rfl]
  by_cases hk:k=f
  ·rw [if_pos hk,List.length_cons,List.length_cons]; omega
  ·rw [if_neg hk,List.length_cons,List.length_cons]; omega
theorem wB.some_of {v:V} {o:Option Value} (r:wB (some v) o):∃ u,o=some u/\zV v u:=by
 cases o with
 | none=>exact (show False from r).elim
 | some u=>exact ⟨u,rfl,r⟩
theorem wB.none_of {o:Option Value} (r:wB none o):o=none:=by
 cases o with
 | none=>rfl
 | some u=>exact (show False from r).elim
theorem zLg {v:V} {u:Value} (r:zV v u):PySem.W.handedIn u=true:=by
 cases v with
 | non=>cases (show u=Value.none from r); rfl
 | bl b=>cases (show u=Value.bool b from r); rfl
 | int i=>obtain ⟨t,e⟩:=(show ∃ t,u=Value.int i t from r); cases e; rfl
 | str x=>obtain ⟨t,e⟩:=(show ∃ t,u=Value.str x t from r); cases e; rfl
 | byt b=>obtain ⟨t,e⟩:=(show ∃ t,u=Value.bytes b t from r); cases e; rfl
 | flt b=>obtain ⟨t,e⟩:=(show ∃ t,u=Value.float b t from r); cases e; rfl
 | ref a=>cases (show u=Value.ref a from r); rfl
 | ty n=>cases (show u=Value.type n from r); rfl
section
variable {P:Program} {w:World} {H H':Hp} {h h':Heap} {a C dx:Addr} {fs fs':List (Str × V)}
theorem Xb (hok:xU P w H h) (e:H a=some (.ins C dx fs)):∃ mA,vN h a dx C mA/\(∀ f,wB (fs.lookup f) (mA f))/\PySem.Within mA (fs.map (·.1))/\fs.length<=1000/\H dx=some (.own a):=by
 obtain ⟨d,z,ne,ob,mA,n,r,q⟩:=(show wO P w H h a (.ins C dx fs) from hok a _ e)
 exact ⟨mA,⟨ob,n,ne⟩,r,q,z,d⟩
end
structure uT (K:PySem.W.Frag) (C:Addr):Prop where
 pg:PySem.W.plainGet K C Str.empty=true
 hd:PySem.W.hasDictIn K C=true
 po:PySem.W.plainOver K C=true
 sa:PySem.W.findIn K (.ref C) "__setattr__" = some (some (.builtin "object.__setattr__"))
theorem uT.get {K:PySem.W.Frag} {C:Addr} (c:uT K C) (f:Str):PySem.W.plainGet K C f=true:=c.pg
def yx (K:PySem.W.Frag) (C:Addr) (f:Str):Prop:=PySem.W.findIn K (.ref C) f=some none
theorem yx.taker {K:PySem.W.Frag} {C:Addr} {f:Str} (n:yx K C f):PySem.W.takerIn K C f=some none:=by
 unfold PySem.W.takerIn
 rw [show PySem.W.findIn K (.ref C) f=some none from n]
 rfl
structure qH (K:PySem.W.Frag) (C:Addr) (m:Str) (f:Addr):Prop where
 at_:PySem.W.findIn K (.ref C) m=some (some (.ref f))
 fn:PySem.W.isFn K (.ref f)=true
 kp:PySem.W.keepIn K (.ref f)=true
section
variable {X:Cx} {pins:List (Addr × Obj)} {σ:St} {H:Hp} {s:Shared} {a C dx:Addr} {fs:List (Str × V)} {f:Str} {v:V} {A:Around} {E:Value->Shared->Prop}
theorem zJ6 {b:Bool} {Q:Value->Shared->Prop} (I:zG X pins σ H s) (e:H a=some (.ins C dx fs)) (c:uT X.K C) (n:yx X.K C f) (l:fs.lookup f=some v)
  (h:∀ u s',zG X pins σ H s'->zV v u->Q u s'):wpAny (model X.prog X.w) A (getAttr (.ref a) f b) Q E s:=by
 obtain ⟨mA,O,r,_,_,_⟩:=Xb I.hok e
 obtain ⟨u,hu,ru⟩:=wB.some_of (v:=v) (o:=mA f) (by rw [<- l]; exact r f)
 exact zO7 I.kIn O (c.get f) c.hd n hu (zLg ru) (h u _ (I.tok _) ru)
theorem zJ5 {m:Str} {g:Addr} {pl:Sem Bool} {Q:Value × List Value->Shared->Prop} (I:zG X pins σ H s) (e:H a=some (.ins C dx fs)) (c:uT X.K C) (k:qH X.K C m g) (l:fs.lookup m=none)
  (h:Q (.ref g,[.ref a]) s):wpAny (model X.prog X.w) A (getMethod (.ref a) m pl) Q E s:=by
 obtain ⟨mA,O,r,_,_,_⟩:=Xb I.hok e
 have hn:mA m=none:=wB.none_of (by rw [<- l]; exact r m)
 exact zNS I.kIn O (c.get m) k.at_ k.fn hn h
theorem zJe {y:V} {u:Value} {Q:Unit->Shared->Prop} (I:zG X pins σ H s) (e:H a=some (.ins C dx fs)) (c:uT X.K C) (n:yx X.K C f) (hl:fs.length < 1000) (ry:zV y u)
  (h:∀ s',zG X pins σ (zY H a (.ins C dx (yZ f y fs))) s'->Q () s'):wpAny (model X.prog X.w) A (setAttr (.ref a) f u) Q E s:=by
 obtain ⟨mA,O,r,wi,_,ho⟩:=Xb I.hok e
 have hz:(fs.map (·.1)).length<=sizeLine:=by rw [List.length_map,sizeLine_eq]; omega
 refine zOZ I.kIn O c.sa c.po n.taker c.hd wi hz λh' O' sb=>h _ ?_
 have hd:∃ o,h'.get? dx=some o:=let ⟨o,_,_,e',_⟩:=O'.ns; ⟨o,e'⟩
 refine I.write (x:=a) (e:=dx) (by rw [e]; exact True.intro) (.inr ho) (λb q hb z=>(sb.2 b hb).trans z) hd ?_
 refine ⟨by rw [zu O.ne]; exact ho,?_,O.ne,O'.obj,_,O'.ns,λg=>?_,λg hg=>?_⟩
 ·have:=Kb f y fs; omega
 ·show wB ((yZ f y fs).lookup g) (if g=f then some u else mA g)
  rw [Ka]
  by_cases q:g=f
  ·rw [if_pos q,if_pos q]; exact ry
  ·rw [if_neg q,if_neg q]; exact r g
 ·by_cases q:g=f
  ·rw [q]; exact (UQ f y fs).1
  ·refine (UQ f y fs).2 g (wi g λz=>hg ?_)
   show (if g=f then some u else mA g)=none
   rw [if_neg q]; exact z
theorem zG.made (I:zG X pins σ H s):zG X pins σ (zY (zY H s.heap.objs.size (.own (s.heap.objs.size + 1))) (s.heap.objs.size + 1) (.ins C s.heap.objs.size []))
  { s with heap:=(s.heap.push PySem.W.emptyDict).push (PySem.W.instObj C s.heap.objs.size) }:=by
 have e1:(s.heap.push PySem.W.emptyDict).get? s.heap.objs.size=some PySem.W.emptyDict:=Heap.get?_push_size s.heap rfl
 have e2:((s.heap.push PySem.W.emptyDict).push (PySem.W.instObj C s.heap.objs.size)).get? (s.heap.objs.size + 1)=some (PySem.W.instObj C s.heap.objs.size):=by
  have:=Heap.get?_push_size (s.heap.push PySem.W.emptyDict) (o:=PySem.W.instObj C s.heap.objs.size) rfl
  rwa [Heap.size_push] at this
 have e3:(s.heap.push PySem.W.emptyDict).Ns s.heap.objs.size (λ_=>none):=⟨PySem.W.emptyDict,#[],_,e1,rfl,(λe he=>absurd he (by simp)),λ_=>rfl⟩
 have I1:=I.laid (a:=s.heap.objs.size) (o:=.own (s.heap.objs.size + 1)) (h':=s.heap.push PySem.W.emptyDict) (t':=s.toks) (λb u q=>Heap.get?_push_of_some _ q) (Nat.le_refl _) ⟨_,e1⟩
 refine I1.laid (a:=s.heap.objs.size + 1) (o:=.ins C s.heap.objs.size []) (t':=s.toks) (λb u q=>Heap.get?_push_of_some _ q) (Nat.le_of_eq (Heap.size_push _ _)) ?_
 have ne:s.heap.objs.size≠s.heap.objs.size + 1:=Nat.ne_of_lt (Nat.lt_succ_self _)
 refine ⟨by rw [zu ne,xF],Nat.zero_le _,ne,e2,λ_=>none,(Heap.Ns1.of_empty e3).at λo q=>Heap.get?_push_of_some _ q,λ_=>True.intro,λy hy=>absurd rfl hy⟩
theorem zPJ {prog:Program} {w:World} {env:Env} {e:Expr} {f:Str} {pos:Pos} {s:Shared} {Q:Value->Shared->Prop} (hb:attributeBase e f env (eval e env)=eval e env)
  (h:wpAny (model prog w) A (eval e env) (λo s₁=>wpAny (model prog w) A (getAttr o f true) Q E s₁) E s):wpAny (model prog w) A (eval (.Attribute e f pos) env) Q E s:=
 Attribute_any_ h (by rw [arm_eval_Attribute,hb])
end
def UR (K:PySem.W.Frag) (ta:TE) (f:Str):TE:=λσ H Q=>ta σ H λx H1=>∃ a C dx fs v,x=.ref a/\H1 a=some (.ins C dx fs)/\uT K C/\yx K C f/\fs.lookup f=some v/\Q v H1
def kh (K:PySem.W.Frag) (ta tv:TE) (f:Str):TS:=λD σ H=>tv σ H λy H1=>ta σ H1 λx H2=>∃ a C dx fs,x=.ref a/\H2 a=some (.ins C dx fs)/\uT K C/\yx K C f/\fs.length < 1000∧
 D.nx σ (zY H2 a (.ins C dx (yZ f y fs)))
section
variable {X:Cx} {o e value:Expr} {f:Str} {pos pos' tpos:Pos} {ta tv:TE}
theorem zP4 (he:PE X e ta) (hb:attributeBase e f X.env (eval e X.env)=eval e X.env):PE X (.Attribute e f pos) (UR X.K ta f):=by
 intro pins s σ H Q I h
 refine zPJ hb (zk (he pins s σ H _ I h) λu s1 ⟨x,H1,I1,rx,a,C,dx,fs,v,ex,ea,c,n,l,q⟩=>?_)
 subst ex
 obtain rfl:u=Value.ref a:=rx
 exact zJ6 I1 ea c n l λu' s2 I2 ru=>⟨v,H1,I2,ru,q⟩
theorem wP (ha:PE X o ta) (hv:PE X value tv) (hs:swapsWith value (some (.Attribute o f pos')) pos.line X.env=pure false):PS X (.Assign [.Attribute o f pos'] value pos) (kh X.K ta tv f):=by
 intro pins s σ H D I h
 refine plainObj_wpAny_Assign_Attribute (zk (hv pins s σ H _ I h) λu s1 ⟨y,H1,I1,ry,q⟩=>zk (ha pins s1 σ H1 _ I1 q) λov s2 ⟨x,H2,I2,rx,a,C,dx,fs,ex,ea,c,n,l,q2⟩=>?_) hs
 subst ex
 obtain rfl:ov=Value.ref a:=rx
 exact zJe I2 ea c n l ry λs3 I3=>⟨σ,_,I3,q2⟩
end
section
variable {X:Cx} {pins:List (Addr × Obj)} {σ:St} {H:Hp} {s:Shared} {A:Around} {E:Value->Shared->Prop} {Q:Value->Shared->Prop} {c:Value} {b:Bool}
inductive yV (K:PySem.W.Frag) (H:Hp):V->Value->Prop where
 | non:yV K H .non (.type "NoneType")
 | bl (x:Bool):yV K H (.bl x) (.type "bool")
 | int (i:Int):yV K H (.int i) (.type "int")
 | str (x:Str):yV K H (.str x) (.type "str")
 | flt (x:UInt64):yV K H (.flt x) (.type "float")
 | lst {a:Addr} {xs:List V} (e:H a=some (.lst xs)):yV K H (.ref a) (.type "list")
 | frz {a:Addr} {o:Obj} {xs:List V} (e:H a=some (.frz o (.lst xs))):yV K H (.ref a) (.type "list")
 | tup {a:Addr} {xs:List V} (e:H a=some (.tup xs)):yV K H (.ref a) (.type "tuple")
 | dK {a:Addr} {kvs:List (wN × V)} (e:H a=some (.dK kvs)):yV K H (.ref a) (.type "dict")
 | dT {a:Addr} {kvs:List (List wN × V)} (e:H a=some (.dT kvs)):yV K H (.ref a) (.type "dict")
 | ins {a C dx:Addr} {fs:List (Str × V)} (e:H a=some (.ins C dx fs)) (cl:uT K C) (ha:PySem.W.findIn K (.ref C) "__class__" = some (some (.builtin "object.__class__")))
   (hn:PySem.W.specialIn K (.builtin "object.__class__") "__get__" = some (some (.builtin "getset_descriptor.__get__"))) (htk:PySem.W.takesIn K (.builtin "object.__class__")=some true)
   (hm:PySem.W.mroIn K C (.type "object")=some true):yV K H (.ref a) (.ref C)
theorem Kc {x:V} {u t:Value} (I:zG X pins σ H s) (rx:zV x u) (ty:yV X.K H x t) (e:PySem.W.kitOne X.K t c=some b) (h:∀ tk,Q (.bool b) { s with toks:=tk }) :
  wpAny (model X.prog X.w) A (call (.builtin "isinstance") [u,c]) Q E s:=by
 cases ty with
 | non=>cases (show u=Value.none from rx); exact PySem.W.kia_one PySem.W.kitx_none I.kIn True.intro e (λz=>nomatch z) h
 | bl y=>cases (show u=Value.bool y from rx); exact PySem.W.kia_one PySem.W.kitx_bool I.kIn True.intro e (λz=>nomatch z) h
 | int i=>obtain ⟨t,q⟩:=(show ∃ t,u=Value.int i t from rx); cases q; exact PySem.W.kia_one PySem.W.kitx_int I.kIn True.intro e (λz=>nomatch z) h
 | str y=>obtain ⟨t,q⟩:=(show ∃ t,u=Value.str y t from rx); cases q; exact PySem.W.kia_one PySem.W.kitx_str I.kIn True.intro e (λz=>nomatch z) h
 | flt y=>obtain ⟨t,q⟩:=(show ∃ t,u=Value.float y t from rx); cases q; exact PySem.W.kia_one PySem.W.kitx_float I.kIn True.intro e (λz=>nomatch z) h
 | @lst a xs ea=>
  cases (show u=Value.ref a from rx)
  obtain ⟨_,_,n,_,h1⟩:=(show wO X.prog X.w H s.heap a (.lst xs) from I.hok a _ ea)
  exact PySem.W.kia_one PySem.W.kitx_list I.kIn ⟨_,h1,rfl⟩ e (λz=>nomatch z) h
 | @frz a ob xs ea=>
  cases (show u=Value.ref a from rx)
  obtain ⟨_,_,_,n,_,h1⟩:=(show wO X.prog X.w H s.heap a (.frz ob (.lst xs)) from I.hok a _ ea)
  exact PySem.W.kia_one PySem.W.kitx_list I.kIn ⟨_,h1,rfl⟩ e (λz=>nomatch z) h
 | @tup a xs ea=>
  cases (show u=Value.ref a from rx)
  obtain ⟨_,_,_,p⟩:=(show wO X.prog X.w H s.heap a (.tup xs) from I.hok a _ ea)
  obtain ⟨o,h1,h2,_⟩:=p
  exact PySem.W.kia_one PySem.W.kitx_tuple I.kIn ⟨o,h1,h2⟩ e (λz=>nomatch z) h
 | @dK a kvs ea=>
  cases (show u=Value.ref a from rx)
  obtain ⟨_,_,vs,_,p⟩:=(show wO X.prog X.w H s.heap a (.dK kvs) from I.hok a _ ea)
  obtain ⟨o,es,ep,h1,h2,_⟩:=p
  exact PySem.W.kia_one PySem.W.kitx_dict I.kIn ⟨o,h1,h2.1⟩ e (λz=>nomatch z) h
 | @dT a kvs ea=>
  cases (show u=Value.ref a from rx)
  obtain ⟨_,_,xs,_,o,es,ep,h1,h2,_⟩:=(show wO X.prog X.w H s.heap a (.dT kvs) from I.hok a _ ea)
  exact PySem.W.kia_one PySem.W.kitx_dict I.kIn ⟨o,h1,h2.1⟩ e (λz=>nomatch z) h
 | @ins a C dx fs ea cl ha hn htk hm=>
  cases (show u=Value.ref a from rx)
  obtain ⟨mA,O,_⟩:=Xb I.hok ea
  obtain ⟨od,J,_⟩:=O.look
  exact PySem.W.kia_one (PySem.W.kitx_own (cl.get _) cl.hd ha hn htk hm) I.kIn J e (λz=>nomatch z) h
end
end L2
namespace L2
open PySem PySem.Spec PyProof.Rows
structure zc (k:Nat) (A:Around):Prop where
 hd:A.handled=none
 dp:A.depth + 3 * k + 5 < recursionLimit
 un:A.units + 16 * k + 200 < cLine
theorem zc.mono {j k:Nat} {A:Around} (r:zc k A) (h:j<=k):zc j A:=⟨r.hd,by have:=r.dp; omega,by have:=r.un; omega⟩
theorem zc.deeper {k:Nat} {A:Around} (r:zc (k + 1) A) (env:Env):zc k (A.deeper env):=
 ⟨r.hd,by have:=r.dp; show A.depth + 1 + 3 * k + 5 < _; omega,by have:=r.un; show A.units + 3 + 16 * k + 200 < _; omega⟩
theorem zJ3 {A:Around} {C:Addr} {us:List Value} {kw:List (Str × Value)}:(A.under (.builtin "type.__call__" ⟨.ref C :: us,kw⟩)).depth=A.depth + 1:=by
 first | rfl | simp [Around.under,Code.weight,Code.isCreation,Code.isGuard,Code.isCaller,Code.frames,Code.isFrame,guardIds]
theorem zJ2 {A:Around} {C:Addr} {us:List Value} {kw:List (Str × Value)}:(A.under (.builtin "type.__call__" ⟨.ref C :: us,kw⟩)).units=A.units + 1:=by
 first | rfl | simp [Around.under,Code.cUnits,Code.frames,Code.isFrame]
theorem zc.make {k:Nat} {A:Around} (r:zc (k + 1) A) (C:Addr) (us:List Value) (kw:List (Str × Value)):zc k (A.under (.builtin "type.__call__" ⟨.ref C :: us,kw⟩)):=
 ⟨r.hd,by have:=r.dp; rw [zJ3]; omega,by have:=r.un; rw [zJ2]; omega⟩
theorem zc.depth {k:Nat} {A:Around} (r:zc k A):A.depth < recursionLimit:=by have:=r.dp; omega
theorem zc.units {k:Nat} {A:Around} (r:zc k A):A.units + 64 < cLine:=by have:=r.un; omega
def v9:TA:=λ_ H Q=>Q [] H
def gI (ta:TE) (tr:TA):TA:=λσ H Q=>ta σ H λx H1=>tr σ H1 λxs H2=>Q (x :: xs) H2
section
variable {X:Cx} {e:Expr} {es:List Expr} {te:TE} {t:TA} {pos:Pos}
theorem zy:PA X [] v9:=λ_ _ _ _ H Q I h=>Calls.spliced_nil ⟨[],H,I,.nil,h⟩
theorem zS (ha:PE X e te) (hr:PA X es t) (hs:starEach (e :: es) X.env=(false,eval e X.env) :: starEach es X.env:=by rfl):PA X (e :: es) (gI te t):=by
 intro pos pins s σ H Q I h
 rw [hs]
 show wpAny _ _ (spliced ((false,eval e X.env) :: backTo pos (starEach es X.env))) _ _ s
 refine Calls.spliced_cons (zk (ha pins s σ H _ I h) λu s1 ⟨x,H1,I1,r1,q1⟩=>?_)
 exact zk (hr pos pins s1 σ H1 _ I1 q1) λus s2 ⟨xs,H2,I2,r2,q2⟩=>⟨x :: xs,H2,I2,.cons r1 r2,q2⟩
def US (t:TA):TE:=λσ H Q=>t σ H λxs H1=>xs.length<=sizeLine/\∀ p,H1 p=none->Q (.ref p) (zY H1 p (.tup xs))
def UT (t:TA):TE:=λσ H Q=>t σ H λxs H1=>xs.length<=sizeLine/\∀ p,H1 p=none->Q (.ref p) (zY H1 p (.lst xs))
theorem Ke {x1} (h:PA X es t):PE X (.Tuple es x1 pos) (US t):=by
 intro pins s σ H Q I hq
 refine wpAny_Tuple_spliced (zk (h pos pins s σ H _ I hq) λus s1 ⟨xs,H1,I1,r,z,q⟩=>⟨by rw [<- r.length]; exact z,?_⟩)
 have hf:H1 s1.heap.objs.size=none:=I1.hok.fresh (Nat.le_refl _)
 refine ⟨.ref s1.heap.objs.size,zY H1 s1.heap.objs.size (.tup xs),I1.laid (t':=s1.toks) (λb u e=>Heap.get?_push_of_some _ e) (Nat.le_refl _) ?_,rfl,q _ hf⟩
 exact ⟨z,us,r,⟨_,Heap.get?_push_size _ rfl,rfl,_,rfl⟩⟩
theorem gJ (h:PA X es t):PE X (.List es pos) (UT t):=by
 intro pins s σ H Q I hq
 refine wpAny_List_spliced (zk (h pos pins s σ H _ I hq) λus s1 ⟨xs,H1,I1,r,z,q⟩=>⟨by rw [<- r.length]; exact z,?_⟩)
 have hf:H1 s1.heap.objs.size=none:=I1.hok.fresh (Nat.le_refl _)
 refine ⟨.ref s1.heap.objs.size,zY H1 s1.heap.objs.size (.lst xs),I1.laid (t':=s1.toks) (λb u e=>Heap.get?_push_of_some _ e) (Nat.le_refl _) ?_,rfl,q _ hf⟩
 exact ⟨z,us,0,r,Heap.get?_push_size _ rfl⟩
end
abbrev Sp:=List V->Hp->VK->XK->Prop
abbrev vj:=List Env->Hp->Shared->XK->Value->Shared->Prop
structure vO (P:Program) (w:World) (K:PySem.W.Frag) (mg:Str->Option Value) (base:Heap) (A:Around) (outer:List Env) (s:Shared) (H:Hp):Prop where
 frames:A.frames=some outer
 mod:Mod K mg base
 bs:∀ b o,base.get? b=some o->s.heap.get? b=some o/\H b=none
 bsz:base.objs.size<=s.heap.objs.size
 funs:s.heap.FunFrames base outer
 frf:∀ b∈vI outer,H b=none
 hok:xU P w H s.heap
 bare:AllBare s.gens
def CE (outer:List Env) (P:Program) (w:World) (H:Hp) (s:Shared) (Q:VK) (u:Value) (s':Shared):Prop:=
 ∃ v H',s'.os=s.os/\AllBare s'.gens/\Un (vI outer) [] H H' s.heap s'.heap/\xU P w H' s'.heap/\zV v u/\Q v H'
def CR (CX:vj) (outer:List Env) (P:Program) (w:World) (H:Hp) (s:Shared) (Q:VK) (E:XK) (r:Result) (s':Shared):Prop:=
 match r with
 | .ok (.ret u)=>CE outer P w H s Q u s'
 | .ok _=>False
 | .error e=>CX outer H s E e s'
structure zF (P:Program) (w:World) (K:PySem.W.Frag) (mg:Str->Option Value) (base:Heap) (CX:vj) (k:Nat) (f:Addr) (fd:FuncData) (ps:List Str) (sp:Sp):Prop where
 len:∀ vs H Q E,sp vs H Q E->vs.length=ps.length
 run:∀ (A:Around) (outer:List Env) (s:Shared) (H:Hp) (args:Args) (us:List Value) (vs:List V) (Q:VK) (E:XK),zc k A->vO P w K mg base A outer s H->BindsTo s fd args (ps.zip us)->zR vs us->sp vs H Q E->
  codeAny (model P w) A (.call (.ref f) args) (CR CX outer P w H s Q E) s
theorem zF.mono {P:Program} {w:World} {K:PySem.W.Frag} {mg:Str->Option Value} {base:Heap} {CX:vj} {j k:Nat} {f:Addr} {fd:FuncData} {ps:List Str} {sp:Sp} (F:zF P w K mg base CX j f fd ps sp) (h:j<=k) :
  zF P w K mg base CX k f fd ps sp:=⟨F.len,λA outer s H args us vs Q E hr=>F.run A outer s H args us vs Q E (hr.mono h)⟩
theorem vO.make {P:Program} {w:World} {K:PySem.W.Frag} {mg:Str->Option Value} {base:Heap} {A:Around} {outer:List Env} {s:Shared} {H:Hp} (e:vO P w K mg base A outer s H) (C:Addr) (us:List Value) (kw:List (Str × Value)) :
  vO P w K mg base (A.under (.builtin "type.__call__" ⟨.ref C :: us,kw⟩)) outer s H:=⟨by first | exact e.frames | (simpa [Around.under,Code.envs,Code.isFrame,pushEnvs] using e.frames),e.mod,e.bs,e.bsz,e.funs,e.frf,e.hok,e.bare⟩
section
variable {X:Cx} {pins:List (Addr × Obj)} {σ:St} {H:Hp} {s s':Shared}
theorem zG.env0 (I:zG X pins σ H s):vO X.prog X.w X.K X.mg X.base X.A X.stack s H:=
 ⟨I.ok.frames,I.ok.mod,I.bs,Nat.le_trans I.ok.bsz I.sz,I.stack,I.stkFree,I.hok,I.bare⟩
theorem zG.after {Q:VK} {u:Value} (I:zG X pins σ H s) (h:CE X.stack X.prog X.w H s Q u s'):EP X pins σ Q u s':=by
 obtain ⟨v,H',os,bare,un,hok,r,q⟩:=h
 obtain ⟨hh,g,d,t,os'⟩:=s'
 obtain rfl:os'=s.os:=os
 exact ⟨v,H',I.call (h':=hh) (g':=g) (d':=d) (t':=t) (ch:=[]) un hok bare (λb z=>absurd z (by simp)),r,q⟩
end
def UU (sp:Sp) (dvs:List V) (E:XK) (t:TA):TE:=λσ H Q=>t σ H λvs H1=>sp (vs++dvs) H1 Q E
def Kf (C:Addr) (m:Str) (sp:Sp) (dvs:List V) (E:XK) (ta:TE) (t:TA):TE:=λσ H Q=>ta σ H λx H1=>∃ a dx fs,x=.ref a/\H1 a=some (.ins C dx fs)/\fs.lookup m=none∧
 t σ H1 λvs H2=>sp (x :: (vs++dvs)) H2 Q E
def kj (C:Addr) (sp:Sp) (dvs:List V) (E:XK) (t:TA):TE:=λσ H Q=>t σ H λvs H1=>∀ x dx,H1 x=none->H1 dx=none->dx≠x->
 sp (.ref x :: (vs++dvs)) (zY (zY H1 dx (.own x)) x (.ins C dx [])) (λv H2=>v=.non/\Q (.ref x) H2) E
def ww (K:PySem.W.Frag) (fd:FuncData) (ps:List Str) (ds:List Value):Prop:=
 ∀ (s:Shared) (us:List Value),K.In s.heap->(us++ds).length=ps.length->BindsTo s fd ⟨us,[]⟩ (ps.zip (us++ds))
theorem ww.all {K:PySem.W.Frag} {fd:FuncData} {ps:List Str} (h:∀ us:List Value,us.length=ps.length->bindArgs fd ⟨us,[]⟩=pure (ps.zip us)):ww K fd ps []:=λs us _ hl=>by
 rw [List.append_nil] at hl |-
 exact .of_eq (h us hl)
def gK (CX:vj) (X:Cx) (E:XK):Prop:=∀ (pins:List (Addr × Obj)) (σ:St) (H:Hp) (s:Shared) (e:Value) (s':Shared),zG X pins σ H s->CX X.stack H s E e s'->X.xe e s'
section
variable {X:Cx} {CX:vj} {k:Nat} {f C:Addr} {fd:FuncData} {ps:List Str} {sp:Sp} {dvs:List V} {ds:List Value} {E:XK} {x m:Str} {p pos apos:Pos} {e o:Expr} {es:List Expr} {ta:TE} {t:TA}
theorem Kg {pins:List (Addr × Obj)} {σ:St} {H:Hp} {s:Shared} {Q:VK} {us:List Value} {vs:List V} (F:zF X.prog X.w X.K X.mg X.base CX k f fd ps sp) (hr:zc k X.A) (hb:ww X.K fd ps ds) (hd:zR dvs ds) (hx:gK CX X E)
  (I:zG X pins σ H s) (r:zR vs us) (h:sp (vs++dvs) H Q E):wpAny (model X.prog X.w) X.A (call (.ref f) us) (EP X pins σ Q) X.xe s:=by
 have r2:zR (vs++dvs) (us++ds):=r.append hd
 have hl:(us++ds).length=ps.length:=by rw [<- r2.length]; exact F.len _ _ _ _ h
 refine wpAny_call (codeAny_mono (F.run X.A X.stack s H ⟨us,[]⟩ (us++ds) (vs++dvs) Q E hr I.env0 (hb s us I.kIn hl) r2 h) λr s' hq=>?_)
 cases r with
 | error e=>exact hx pins σ H s e s' I hq
 | ok fl=>
  cases fl with
  | ret u=>exact I.after hq
  | next=>exact False.elim hq
  | brk=>exact False.elim hq
  | cont=>exact False.elim hq
theorem Kh (F:zF X.prog X.w X.K X.mg X.base CX k f fd ps sp) (hr:zc k X.A) (hg:Gl X x) (hm:X.mg x=some (.ref f)) (hk:PySem.W.keepIn X.K (.ref f)=true) (hb:ww X.K fd ps ds) (hd:zR dvs ds) (hx:gK CX X E)
  (ha:PA X (e :: es) t) (hdb:(x == ("__debug__" : Str))=false:=by decide) (he:starEach (e :: es) X.env=(false,eval e X.env) :: starEach es X.env:=by rfl) (hpl:(backTo pos (starEach es X.env)).any (·.1)=false:=by rfl) :
  PE X (.Call (.Name x p) (e :: es) [] pos) (UU sp dvs E t):=by
 intro pins s σ H Q I h
 refine wpAny_Call_Name_kw (W6 I hg hm ?_ hdb)
 refine PySem.W.callWith_K (h₀:=X.base) I.ok.mod.kin hk (zk (ha pos pins s σ H _ I h) λus s1 ⟨vs,H1,I1,r,q⟩=>⟨I1.kIn,?_⟩) he hpl
 exact Kg F hr hb hd hx I1 r q
theorem zM4 {pl:Sem Bool} (he:PE X o ta) (c:uT X.K C) (hm:qH X.K C m f) (F:zF X.prog X.w X.K X.mg X.base CX k f fd ps sp) (hr:zc k X.A) (hb:ww X.K fd ps ds) (hd:zR dvs ds) (hx:gK CX X E)
  (ht:eval (.Call (.Attribute o m apos) [] [] pos) X.env=(do
   let ov <- eval o X.env
   standAt apos.atName
   let (f,first) <- holding [ov] (getMethod ov m pl)
   callWith pos f first (backTo pos (starEach [] X.env)) (backToKw pos (keywordEach [] X.env))):=by rfl) :
  PE X (.Call (.Attribute o m apos) [] [] pos) (Kf C m sp dvs E ta v9):=by
 intro pins s σ H Q I h
 refine PySem.W.methodCall_KW (pl:=pl) (zk (he pins s σ H _ I h) λu s1 ⟨x,H1,I1,rx,a,dx,fs,ex,ea,l,q⟩=>?_) ht
 subst ex
 obtain rfl:u=Value.ref a:=rx
 refine zJ5 I1 ea c hm l ?_
 exact PySem.W.callWith_K0 (first:=[.ref a]) I1.kIn hm.kp (Kg (us:=[.ref a]) (vs:=[.ref a]) F hr hb hd hx I1 (.cons rfl .nil) q)
structure Mk (K:PySem.W.Frag) (C f:Addr):Prop where
 makes:PySem.W.makesIn K C=true
 init:PySem.W.findIn K (.ref C) "__init__" = some (some (.ref f))
 fn:PySem.W.isFn K (.ref f)=true
 kp:PySem.W.keepIn K (.ref C)=true
theorem zMo {pins:List (Addr × Obj)} {σ:St} {H:Hp} {s:Shared} {Q:VK} {us:List Value} {vs:List V} (M:Mk X.K C f) (F:zF X.prog X.w X.K X.mg X.base CX k f fd ps sp) (hr:zc (k + 1) X.A) (hb:ww X.K fd ps ds) (hd:zR dvs ds)
  (hx:gK CX X E) (I:zG X pins σ H s) (r:zR vs us)
  (h:∀ x dx,H x=none->H dx=none->dx≠x->sp (.ref x :: (vs++dvs)) (zY (zY H dx (.own x)) x (.ins C dx [])) (λv H2=>v=.non/\Q (.ref x) H2) E) :
  wpAny (model X.prog X.w) X.A (call (.ref C) us) (EP X pins σ Q) X.xe s:=by
 have hq:=h (s.heap.objs.size + 1) s.heap.objs.size (I.hok.fresh (Nat.le_succ _)) (I.hok.fresh (Nat.le_refl _)) (Nat.ne_of_lt (Nat.lt_succ_self _))
 have I2:=zG.made (C:=C) I
 have r2:zR (V.ref (s.heap.objs.size + 1) :: (vs++dvs)) (Value.ref (s.heap.objs.size + 1) :: (us++ds)):=.cons rfl (r.append hd)
 have hl:(Value.ref (s.heap.objs.size + 1) :: us++ds).length=ps.length:=by
  have e:=r2.length
  rw [F.len _ _ _ _ hq] at e
  exact e.symm
 refine wpAny_call (zNL (f:=f) I.kIn M.makes M.init (beq_iff_eq.mp M.fn) (codeAny_mono (F.run _ X.stack _ _ ⟨Value.ref (s.heap.objs.size + 1) :: us,[]⟩ (Value.ref (s.heap.objs.size + 1) :: (us++ds)) _ _ E (hr.make C us [])
  (I2.env0.make C us []) (hb _ (Value.ref (s.heap.objs.size + 1) :: us) I2.kIn hl) r2 hq) λr s' hq'=>?_))
 cases r with
 | error e=>exact hx pins σ _ _ e s' I2 hq'
 | ok fl=>
  cases fl with
  | ret u=>
   obtain ⟨v,H',I3,rv,ev,q3⟩:=I2.after hq'
   subst ev
   exact ⟨rv,⟨V.ref (s.heap.objs.size + 1),H',I3,rfl,q3⟩⟩
  | next=>exact False.elim hq'
  | brk=>exact False.elim hq'
  | cont=>exact False.elim hq'
theorem Ki (M:Mk X.K C f) (F:zF X.prog X.w X.K X.mg X.base CX k f fd ps sp) (hr:zc (k + 1) X.A) (hg:Gl X x) (hm:X.mg x=some (.ref C)) (hb:ww X.K fd ps ds) (hd:zR dvs ds) (hx:gK CX X E)
  (ha:PA X (e :: es) t) (hdb:(x == ("__debug__" : Str))=false:=by decide) (he:starEach (e :: es) X.env=(false,eval e X.env) :: starEach es X.env:=by rfl) (hpl:(backTo pos (starEach es X.env)).any (·.1)=false:=by rfl) :
  PE X (.Call (.Name x p) (e :: es) [] pos) (kj C sp dvs E t):=by
 intro pins s σ H Q I h
 refine wpAny_Call_Name_kw (W6 I hg hm ?_ hdb)
 refine PySem.W.callWith_K (h₀:=X.base) I.ok.mod.kin M.kp (zk (ha pos pins s σ H _ I h) λus s1 ⟨vs,H1,I1,r,q⟩=>⟨I1.kIn,?_⟩) he hpl
 exact zMo M F hr hb hd hx I1 r q
end
section
variable {X:Cx} {CX:vj} {k:Nat} {f C:Addr} {fd:FuncData} {ps ks:List Str} {sp:Sp} {E:XK} {x m:Str} {p pos apos kpos:Pos} {e o:Expr} {es:List Expr} {kws:List Keyword} {te ta:TE} {t tk:TA} {nm:Option Str}
variable {g:List Value->List Value->List Value} {gV:List V->List V->List V}
end
structure ze (N P:List Str) (sc:Scope):Prop where
 kind:sc.kind=.function
 co:sc.isCoroutine=false
 gen:sc.isGenerator=false
 nd:N.Nodup
 pre:N.take P.length=P
 par:∀ x∈P,sc.names.lookup x=some .local\/sc.names.lookup x=some .cell
 nofree:∀ y∈sc.names,y.2≠.free
theorem ze.a {N P:List Str} {s:Scope} (a:s.kind=.function:=by rfl) (b:s.isCoroutine=false:=by rfl) (c:s.isGenerator=false:=by rfl) (d:N.Nodup:=by decide +kernel) (e:N.take P.length=P:=by rfl) (f:∀ x∈P,s.names.lookup x=some .local\/s.names.lookup x=some .cell:=by decide +kernel) (g:∀ y∈s.names,y.2≠.free:=by decide +kernel):ze N P s:=⟨a,b,c,d,e,f,g⟩
theorem Kj {kindOf:Str->Option NameKind} {x:Str}:∀ {binds:List (Str × Value)} {m:Str->Option Value},(∀ v,(x,v)∉binds)->bindL kindOf binds m x=m x
 | [],_,_=>rfl
 | (n,v) :: r,m,h=>by
  unfold bindL
  rw [Kj λw hw=>h w (List.mem_cons_of_mem _ hw)]
  split
  ·have:x≠n:=by rintro rfl; exact h v List.mem_cons_self
   simp [this]
  ·rfl
theorem Kk {kindOf:Str->Option NameKind} {x:Str}:∀ {binds:List (Str × Value)} {m:Str->Option Value},(∀ v,(x,v)∉binds)->bindC kindOf binds m x=m x
 | [],_,_=>rfl
 | (n,v) :: r,m,h=>by
  unfold bindC
  rw [Kk λw hw=>h w (List.mem_cons_of_mem _ hw)]
  split
  ·rfl
  ·have:x≠n:=by rintro rfl; exact h v List.mem_cons_self
   simp [this]
theorem Kl {kindOf:Str->Option NameKind} {x:Str} {v:Value}:∀ {P:List Str} {vs:List Value} {i:Nat} {m:Str->Option Value},P.Nodup->P[i]? = some x->vs[i]? = some v->kindOf x=some .local->
  bindL kindOf (P.zip vs) m x=some v
 | [],_,_,_,_,h,_,_=>by simp at h
 | _ :: _,[],_,_,_,_,h,_=>by simp at h
 | p :: P,w :: vs,0,m,nd,h1,h2,hk=>by
  simp at h1 h2; subst h1; subst h2
  show bindL kindOf ((p,w) :: P.zip vs) m p=_
  unfold bindL
  rw [Kj λv hv=>(List.nodup_cons.mp nd).1 (List.of_mem_zip hv).1,if_pos hk]
  simp
 | p :: P,w :: vs,i + 1,m,nd,h1,h2,hk=>by
  show bindL kindOf ((p,w) :: P.zip vs) m x=_
  unfold bindL
  exact Kl (i:=i) (List.nodup_cons.mp nd).2 (by simpa using h1) (by simpa using h2) hk
theorem Km {kindOf:Str->Option NameKind} {x:Str} {v:Value}:∀ {P:List Str} {vs:List Value} {i:Nat} {m:Str->Option Value},P.Nodup->P[i]? = some x->vs[i]? = some v->kindOf x≠some .local->
  bindC kindOf (P.zip vs) m x=some v
 | [],_,_,_,_,h,_,_=>by simp at h
 | _ :: _,[],_,_,_,_,h,_=>by simp at h
 | p :: P,w :: vs,0,m,nd,h1,h2,hk=>by
  simp at h1 h2; subst h1; subst h2
  show bindC kindOf ((p,w) :: P.zip vs) m p=_
  unfold bindC
  rw [Kk λv hv=>(List.nodup_cons.mp nd).1 (List.of_mem_zip hv).1,if_neg hk]
  simp
 | p :: P,w :: vs,i + 1,m,nd,h1,h2,hk=>by
  show bindC kindOf ((p,w) :: P.zip vs) m x=_
  unfold bindC
  exact Km (i:=i) (List.nodup_cons.mp nd).2 (by simpa using h1) (by simpa using h2) hk
def xl (N:List Str) (vs:List V):St:=vs.map some++List.replicate (N.length - vs.length) none
def xN (CX:vj) (P:Program) (w:World) (K:PySem.W.Frag) (mg:Str->Option Value) (base:Heap) (N:List Str) (qual:Str) (scope:Scope) (f:Addr) (cd:Value) (A:Around) (outer:List Env) (s:Shared) (H:Hp) (E:XK):Cx where
 prog:=P
 w:=w
 K:=K
 mg:=mg
 base:=base
 A:=A.deeper (envOfC qual scope s.heap.objs.size f cd)
 N:=N
 s₀:=s
 H₀:=H
 env:=envOfC qual scope s.heap.objs.size f cd
 outer:=outer
 stack:=envOfC qual scope s.heap.objs.size f cd :: outer
 ex:=[]
 calm:=true
 fn:=λ_=>true
 pn:=[]
 xe:=λe s'=>wpAny (model P w) (A.deeper (envOfC qual scope s.heap.objs.size f cd)) (leaving (envOfC qual scope s.heap.objs.size f cd) e) (λ_ s''=>CX outer H s E e s'') (λe' s''=>CX outer H s E e' s'') s'
theorem Kn {sc:Scope} {n:Nat} {x:Str} (h:sc.names.lookup x=some .cell):∃ c,(cellsFrom n sc.names []).lookup x=some c:=by
 have q:=PySem.W.cellsFrom_some sc.names n [] (.inl h)
 exact Option.isSome_iff_exists.mp q
theorem zLe {CX:vj} {P:Program} {w:World} {K:PySem.W.Frag} {mg:Str->Option Value} {base:Heap} {N ps:List Str} {qual:Str} {scope:Scope} {f:Addr} {cd:Value} {A:Around} {outer:List Env} {s s1:Shared} {H:Hp} {E:XK} {us:List Value} {vs:List V}
  (S:ze N ps scope) (hd:A.handled=none) (e0:vO P w K mg base A outer s H) (hl:vs.length=ps.length) (r:zR vs us)
  (x:InCallC s s.heap.objs.size (bindL (envOfC qual scope s.heap.objs.size f cd).kindOf (ps.zip us) λ_=>none) (cellsFrom (s.heap.objs.size + 1) scope.names []) (bindC (envOfC qual scope s.heap.objs.size f cd).kindOf (ps.zip us) λ_=>none) s1) :
  zG (xN CX P w K mg base N qual scope f cd A outer s H E) [] (xl N vs) H s1:=by
 have hpl:ps.length<=N.length:=by have:=congrArg List.length S.pre; rw [List.length_take] at this; omega
 obtain ⟨h1,tk,rfl,hk⟩:=x.done
 have noA:∀ b:Addr,b∉(xN CX P w K mg base N qual scope f cd A outer s H E).ex:=λb z=>absurd (show b∈([]:List Addr) from z) (by simp)
 refine ⟨⟨e0.mod,S.kind,rfl,rfl,Nat.le_refl _,λy z c h1 h2=>?_,λy hy=>?_,λy c _ h=>?_,λ_=>hd,Around.frames_deeper e0.frames,.inr ⟨rfl,rfl⟩,λb z=>absurd z (noA b),e0.bs,e0.bsz,λb _ _=>noA b,λb z=>absurd z (noA b),e0.funs,e0.frf⟩,
  rfl,e0.bare,Un.kept hk,⟨_,x.toInCall.ns,λi y v h1 h2 h3=>?_⟩,λy c h=>⟨_,x.cell y c h⟩,e0.hok.fresh (Nat.le_refl _),λy c h=>?_,λp hp=>absurd (show p∈([]:List (Addr × Obj)) from hp) (by simp),e0.hok.kept hk,?_⟩
 ·exact name_of_addr x.apart (PySem.mem_of_lookup h1) (PySem.mem_of_lookup h2)
 ·have hy:scope.names.lookup y=some .cell\/scope.names.lookup y=some .free:=hy
  rcases hy with hy | hy
  ·exact Kn hy
  ·exact absurd rfl (S.nofree _ (PySem.mem_of_lookup hy))
 ·exact Nat.le_of_lt (x.above y c (PySem.mem_of_lookup h))
 ·have hi:i < vs.length:=by
   unfold xl at h2
   by_cases hi:i < vs.length
   ·exact hi
   ·rw [List.getElem?_append_right (by simpa using hi)] at h2
    rw [List.getElem?_replicate] at h2
    split at h2 <;> cases h2
  have ha:vs[i]? = some v:=by
   unfold xl at h2
   rw [List.getElem?_append_left (by simpa using hi),List.getElem?_map] at h2
   cases e:vs[i]? with
   | none=>rw [e] at h2; cases h2
   | some a=>rw [e] at h2; cases h2; rfl
  obtain ⟨u,hu,rv⟩:=r.get ha
  have hp:ps[i]? = some y:=by
   rw [<- S.pre,List.getElem?_take_of_lt (by omega)]; exact h1
  have ndP:ps.Nodup:=by rw [<- S.pre]; exact S.nd.sublist (List.take_sublist _ _)
  refine ⟨u,rv,?_⟩
  rcases S.par y (List.mem_of_getElem? hp) with k | k
  ·exact .inl ⟨k,Kl ndP hp hu k⟩
  ·obtain ⟨c,e⟩:=Kn (n:=s.heap.objs.size + 1) k
   refine .inr ⟨.inl k,c,e,?_⟩
   have q:=x.cell y c e
   rw [Km ndP hp hu (by show scope.names.lookup y≠_; rw [k]; decide)] at q
   exact q
 ·exact e0.hok.fresh (Nat.le_of_lt (x.above y c (PySem.mem_of_lookup h)))
 ·unfold xl
  show _=N.length
  rw [List.length_append,List.length_map,List.length_replicate]
  omega
theorem Ko {CX:vj} {P:Program} {w:World} {K:PySem.W.Frag} {mg:Str->Option Value} {base:Heap} {k:Nat} {f:Addr} {name qual:Str} {params:Arguments} {body:List Stmt} {scope:Scope} {dV kV doc pm cdv ct oc:Value} {an od:Option Addr}
  {osl:Array (Option Value)} {N ps:List Str} {sp:Sp} (lk:K.lookup f=some ⟨oc,od,.func (PySem.W.fnOf name qual params body scope dV kV doc pm an cdv ct),osl⟩) (hcd:PySem.W.codeIn K cdv qual=true) (S:ze N ps scope)
  (len:∀ vs H Q E,sp vs H Q E->vs.length=ps.length)
  (hbody:∀ (A:Around) (outer:List Env) (s:Shared) (H:Hp) (vs:List V) (Q:VK) (E:XK),zc k (A.deeper (envOfC qual scope s.heap.objs.size f cdv))->sp vs H Q E->
   ∃ t,yc (xN CX P w K mg base N qual scope f cdv A outer s H E) body t/\t { nx:=λ_ H'=>Q .non H',rt:=Q } (xl N vs) H) :
  zF P w K mg base CX (k + 1) f (PySem.W.fnOf name qual params body scope dV kV doc pm an cdv ct) ps sp:=by
 refine ⟨len,λA outer s H args us vs Q E hr e0 hb r hsp=>?_⟩
 have hl:=len _ _ _ _ hsp
 have KX:K.In s.heap:=e0.mod.kin.keeps λb o e=>(e0.bs b o e).1
 have lim:s.heap.NoLimit:=e0.mod.nolimit.keeps λb o e=>(e0.bs b o e).1
 have hkind:∀ y∈ps.zip us,scope.names.lookup y.1=some .local\/(scope.names.lookup y.1=some .cell/\((cellsFrom (s.heap.objs.size + 1) scope.names []).lookup y.1).isSome=true):=λ⟨n,v⟩ hy=>by
  rcases S.par n (List.of_mem_zip hy).1 with q | q
  ·exact .inl q
  ·exact .inr ⟨q,PySem.W.cellsFrom_some _ _ _ (.inl q)⟩
 refine codeAny_call_function hr.depth (KX _ _ lk) rfl S.co S.gen rfl (PySem.W.codeRec_of KX hcd) (hb _ _ _ _ ?_)
 refine wpAny_newFunctionEnv_cells S.kind hkind λenv he s1 x=>?_
 subst he
 refine ⟨lim.keeps x.toInCall.keep,codeAny_func ?_⟩
 obtain ⟨t,ht,hq⟩:=hbody A outer s H vs Q E (hr.deeper _) hsp
 have I:zG (xN CX P w K mg base N qual scope f cdv A outer s H E) [] (xl N vs) H s1:=zLe S hr.hd e0 hl r x
 refine wpAny_mono (ht [] s1 (xl N vs) H _ I hq) (λfl s' hs=>?_) λe s' hs=>hs
 have fin:∀ {σ':St} {H':Hp} {v:V} {u:Value},zG (xN CX P w K mg base N qual scope f cdv A outer s H E) [] σ' H' s'->zV v u->Q v H'->CE outer P w H s Q u s':=
  λ{σ' H' v u} J rv q=>⟨v,H',J.os,J.bare,J.base,J.hok,rv,q⟩
 cases fl with
 | ret u=>
  obtain ⟨v,σ',H',J,rv,q⟩:=hs
  exact fin J rv q
 | next=>
  obtain ⟨σ',H',J,q⟩:=hs
  exact fin (v:=V.non) (u:=Value.none) J rfl q
 | brk=>
  obtain ⟨_,_,_,q⟩:=hs
  exact False.elim q
 | cont=>
  obtain ⟨_,_,_,q⟩:=hs
  exact False.elim q
end L2
namespace L2
open PySem PySem.Spec PyProof.Rows
section
variable {X:Cx} {x:Str} {p pos:Pos} {e:Expr} {es:List Expr} {t:TA} {id T:String} {r:List V->Hp->VK->Prop}
def km (r:List V->Hp->VK->Prop) (t:TA):TE:=λσ H Q=>t σ H λvs H1=>r vs H1 Q
theorem xQ (hc:wv X (.builtin id) r) (hg:Gl X x) (hm:X.mg x=none) (hv:bootBuiltins x=some (.builtin id)) (ha:PA X (e :: es) t) (hn:x≠"__name__":=by decide) (hdb:(x == ("__debug__" : Str))=false:=by decide)
  (he:starEach (e :: es) X.env=(false,eval e X.env) :: starEach es X.env:=by rfl) (hpl:(backTo pos (starEach es X.env)).any (·.1)=false:=by rfl):PE X (.Call (.Name x p) (e :: es) [] pos) (km r t):=by
 intro pins s σ H Q I h
 refine wpAny_Call_Name_kw (qE I hg hm hv ?_ hn hdb)
 exact PyProof.Rows.callWith_builtin1 (zk (ha pos pins s σ H _ I h) λus s1 ⟨vs,H1,I1,r1,q1⟩=>hc pins s1 σ H1 vs us Q I1 r1 q1) he hpl
theorem Kp (hc:wv X (.type T) r) (hg:Gl X x) (hm:X.mg x=none) (hv:bootBuiltins x=some (.type T)) (ha:PA X (e :: es) t) (hn:x≠"__name__":=by decide) (hdb:(x == ("__debug__" : Str))=false:=by decide)
  (he:starEach (e :: es) X.env=(false,eval e X.env) :: starEach es X.env:=by rfl) (hpl:(backTo pos (starEach es X.env)).any (·.1)=false:=by rfl):PE X (.Call (.Name x p) (e :: es) [] pos) (km r t):=by
 intro pins s σ H Q I h
 refine wpAny_Call_Name_kw (qE I hg hm hv ?_ hn hdb)
 exact PyProof.Rows.callWith_type1 (zk (ha pos pins s σ H _ I h) λus s1 ⟨vs,H1,I1,r1,q1⟩=>hc pins s1 σ H1 vs us Q I1 r1 q1) he hpl
end
end L2
namespace HT
open PySem PyProof.Rows
section
open PySem.SeqAt
open PySem.AutoSeq1 (wpAny_loadPart')
open PySem.MeetsSeq PySem.MeetsSeq2 PySem.MeetsSeq3
end
section
variable {prog:Program} {w:World} {A:Around} {E:Value->Shared->Prop} {s:Shared}
theorem cat_tup {t b:Addr} {vs ws:List Value} {Q:Value->Shared->Prop} (ht:IsTup s.heap t vs.toArray) (hb:IsTup s.heap b ws.toArray) (hv:vs≠[])
  (h1:ws=[]->Q (.ref t) s) (h2:ws≠[]->Q (.ref s.heap.objs.size) { s with heap:=s.heap.push { cls:=.type "tuple",data:=.seq (vs++ws).toArray } })
  (hsz:vs.length + ws.length<=sizeLine):wpAny (model prog w) A (binaryOp .Add (.ref t) (.ref b)) Q E s:=by
 obtain ⟨⟨cls,dd,data,sl⟩,ho,hc,n,hd⟩:=id ht
 obtain ⟨⟨cls2,dd2,data2,sl2⟩,ho2,hc2,n2,hd2⟩:=id hb
 simp only at hc hd hc2 hd2
 subst hc hd hc2 hd2
 have e:vs.toArray++ws.toArray=(vs++ws).toArray:=by simp
 by_cases hw:ws=[]
 ·exact concat_meets ⟨_,ho,rfl⟩ ⟨_,ho2,rfl⟩ noFill_tuple_add seq_tuple_add PySem.F.slot_tuple_add PySem.F.entry_tuple_add (PySem.F.args_tuple_add_2 _ _)
   (tuple_addW1 t b vs.toArray ws.toArray n n2 dd dd2 sl sl2 (by simpa using hv) (by simp [hw])) ⟨ho,ho2,h1 hw⟩
 ·refine concat_meets ⟨_,ho,rfl⟩ ⟨_,ho2,rfl⟩ noFill_tuple_add seq_tuple_add PySem.F.slot_tuple_add PySem.F.entry_tuple_add (PySem.F.args_tuple_add_2 _ _)
   (tuple_addW2 t b vs.toArray ws.toArray n n2 dd dd2 sl sl2 (by simpa using hv) (by simpa using hw) (by rw [List.size_toArray,List.size_toArray]; exact hsz)) ⟨ho,ho2,?_⟩
  rw [e]
  exact h2 hw
def sIx (n d:Nat):Option Int->Nat
 | none=>d
 | some v=>if v < 0 then (v + (n:Int)).toNat else min v.toNat n
theorem sIx_none (n d:Nat):sIx n d none=d:=rfl
theorem sIx_nat (n d k:Nat):sIx n d (some (k:Int))=min k n:=by
 show (if (k:Int) < 0 then ((k:Int) + (n:Int)).toNat else min (k:Int).toNat n)=min k n
 rw [if_neg (by omega),Int.toNat_natCast]
theorem zPj (n d:Nat) (hd:d<=n) (o:Option Int):sIx n d o<=n:=by
 cases o with
 | none=>exact hd
 | some v=>
  show (if v < 0 then (v + (n:Int)).toNat else min v.toNat n)<=n
  by_cases hv:v < 0
  ·rw [if_pos hv]; omega
  ·rw [if_neg hv]; exact Nat.min_le_right _ _
theorem Kq (v:Int) (n d:Nat):(if v < 0 then max (v + (n:Int)) 0 else min v (n:Int))=((sIx n d (some v):Nat):Int):=by
 show (if v < 0 then max (v + (n:Int)) 0 else min v (n:Int))=(((if v < 0 then (v + (n:Int)).toNat else min v.toNat n):Nat):Int)
 by_cases hv:v < 0
 ·simp only [if_pos hv]; omega
 ·simp only [if_neg hv]; omega
theorem zKD (lo hi:Option Int) (n:Nat):Builtin.Slice.sliceAdjust lo hi 1 (n:Int)=(((sIx n 0 lo:Nat):Int),((sIx n n hi:Nat):Int)):=by
 have h1:¬ ((1:Int) < 0):=by omega
 unfold Builtin.Slice.sliceAdjust
 simp only [h1,if_false]
 refine Prod.ext ?_ ?_
 ·cases lo with
  | none=>rfl
  | some v=>exact Kq v n 0
 ·cases hi with
  | none=>rfl
  | some v=>exact Kq v n n
theorem zJm (i j:Nat):Builtin.Slice.slicePlaces (i:Int) (j:Int) 1=j - i:=by
 unfold Builtin.Slice.slicePlaces
 have h1:(1:Int) > 0:=by omega
 simp only [h1,if_true,Int.ediv_one]
 split <;> omega
theorem Kr {v:Value} {o:Option Int} {Q:Option Int->Shared->Prop} (p:IsPart v o) (h:Q o s):wpAny (model prog w) A (Builtin.Slice.slicePartIndex v) Q E s:=by
 cases p with
 | none=>exact slicePart_none h
 | int i t=>exact slicePart_int h
theorem Ks {sl:Addr} {vl vu:Value} {lo hi:Option Int} {n:Nat} {Q:Int × Int × Nat->Shared->Prop} (hs:s.heap.IsSliceOf sl vl vu .none) (pl:IsPart vl lo) (pu:IsPart vu hi)
  (h:Q (((sIx n 0 lo:Nat):Int),1,sIx n n hi - sIx n 0 lo) s):wpAny (model prog w) A (Builtin.Slice.sliceApplied (.ref sl) (pure (n:Int))) Q E s:=by
 obtain ⟨os,hos,hcs,hds⟩:=id hs
 unfold Builtin.Slice.sliceApplied Builtin.Slice.sliceFields
 refine wpAny_bind (wpAny_bind (wpAny_field hos hds (x:=vl) rfl (wpAny_bind (wpAny_field hos hds (x:=vu) rfl (wpAny_bind (wpAny_field hos hds (x:=.none) rfl (wpAny_pure ?_)))))))
 refine wpAny_bind (slicePart_none ?_)
 show wpAny _ _ (if ((1:Int) == 0)=true then _ else _) _ _ s
 rw [if_neg (by decide)]
 refine wpAny_bind (Kr pl (wpAny_bind (Kr pu (wpAny_bind (wpAny_pure ?_)))))
 show wpAny _ _ (match Builtin.Slice.sliceAdjust lo hi 1 (n:Int) with | (lo,hi)=>pure (lo,(1:Int),Builtin.Slice.slicePlaces lo hi 1)) _ _ s
 rw [zKD lo hi n]
 show wpAny _ _ (pure (((sIx n 0 lo:Nat):Int),(1:Int),Builtin.Slice.slicePlaces ((sIx n 0 lo:Nat):Int) ((sIx n n hi:Nat):Int) 1)) _ _ s
 rw [zJm]
 exact wpAny_pure h
theorem zM1 (xs:Array Value) (i k:Nat):((List.range k).filterMap λ(m:Nat)=>xs[((i:Int) + (m:Int) * 1).toNat]?).toArray=((xs.toList.drop i).take k).toArray:=by
 have e:(λ(m:Nat)=>xs[((i:Int) + (m:Int) * 1).toNat]?)=λm=>xs[i + m]?:=by
  funext m
  have:((i:Int) + (m:Int) * 1).toNat=i + m:=by omega
  rw [this]
 rw [e]
 have:=pick_run xs i k
 rw [List.filterMap_map] at this
 have e2:((λx=>xs[x]?) ∘ λx=>i + x)=λm=>xs[i + m]?:=rfl
 rw [e2] at this
 rw [this]
theorem getItem_tuple_cut {t sl:Addr} {items:Array Value} {vl vu:Value} {lo hi:Option Int} {Q:Value->Shared->Prop} (ht:IsTup s.heap t items) (hs:s.heap.IsSliceOf sl vl vu .none) (pl:IsPart vl lo) (pu:IsPart vu hi)
  (hw:¬ (sIx items.size 0 lo=0/\sIx items.size items.size hi=items.size))
  (h:Q (.ref s.heap.objs.size) { s with heap:=s.heap.push { cls:=.type "tuple",data:=.seq ((items.toList.drop (sIx items.size 0 lo)).take (sIx items.size items.size hi - sIx items.size 0 lo)).toArray } })
  (hsz:items.size<=sizeLine):wpAny (model prog w) A (getItem (.ref t) (.ref sl)) Q E s:=by
 have htake:sizeOk (.seq ((items.toList.drop (sIx items.size 0 lo)).take (sIx items.size items.size hi - sIx items.size 0 lo)).toArray):=by
  show ((items.toList.drop (sIx items.size 0 lo)).take (sIx items.size items.size hi - sIx items.size 0 lo)).toArray.size<=sizeLine
  rw [List.size_toArray,List.length_take,List.length_drop,Array.length_toList]
  omega
 have hj:sIx items.size items.size hi<=items.size:=zPj _ _ (Nat.le_refl _) hi
 obtain ⟨os,hos,hcs,hds⟩:=id hs
 have hTs:s.TypeIs (.ref sl) "slice":=⟨os,hos,hcs⟩
 unfold getItem
 try with_reducible refine wpAny_holding ?_
 first | refine wpAny_bind (wpAny_pure ?_) | skip
 refine wpAny_bind (wpAny_sequenceKey ht.typeIs (by decide) ?_)
 refine wpAny_bind (wpAny_callSpecial?_slot (name:=Str.ofString "__getitem__") ht.typeIs PyProof.Rows.slot_tuple_getitem
  (wpAny_call_entry PyProof.Rows.slot_tuple_getitem ht.typeIs entry_tuple_getitem ?_ (args_tuple_getitem _ _)))
 show wpAny _ _ (Builtin.Tuple.tupleItemsOf (.ref t) >>= _) _ _ s
 refine wpAny_bind (tupleItemsOf_ ht ?_)
 refine wpAny_bind (wpAny_typeOf hTs ?_)
 rw [if_pos (by decide)]
 refine wpAny_bind (Ks hs pl pu ?_)
 have hno:¬ ((((sIx items.size 0 lo:Nat):Int) == 0 && (1:Int) == 1 && (sIx items.size items.size hi - sIx items.size 0 lo) == items.size)=true):=by
  intro q
  rw [Bool.and_eq_true,Bool.and_eq_true] at q
  have q1:((sIx items.size 0 lo:Nat):Int)=0:=eq_of_beq q.1.1
  have q2:sIx items.size items.size hi - sIx items.size 0 lo=items.size:=eq_of_beq q.2
  exact hw ⟨by omega,by omega⟩
 show wpAny _ _ (if (((sIx items.size 0 lo:Nat):Int) == 0 && (1:Int) == 1 && (sIx items.size items.size hi - sIx items.size 0 lo) == items.size)=true then _ else _) _ _ s
 rw [if_neg hno,zM1]
 first
  | exact wpAny_bind (m:=Builtin.Tuple.tupleExact _) (wpAny_newObj_type (wpAny_pure ⟨_,rfl,wpAny_pure h⟩) htake)
  | exact wpAny_bind (m:=Builtin.Tuple.tupleExact _) (wpAny_newObj_type (wpAny_bind (wpAny_pure (wpAny_pure ⟨_,rfl,wpAny_pure h⟩))) htake)
  | exact wpAny_bind (wpAny_bind (m:=Builtin.Tuple.tupleExact _) (wpAny_newObj_type (wpAny_pure (wpAny_pure ⟨_,rfl,wpAny_pure h⟩)) htake))
  | exact wpAny_bind (wpAny_bind (m:=Builtin.Tuple.tupleExact _) (wpAny_newObj_type (wpAny_pure ⟨_,rfl,wpAny_pure h⟩) htake))
end
end HT
namespace L2
open PySem PySem.Spec PyProof.Rows
abbrev TO:=St->Hp->(Option Int->Hp->Prop)->Prop
def PO (X:Cx) (e:Option Expr) (t:TO):Prop:=
 ∀ (pins:List (Addr × Obj)) (s:Shared) (σ:St) (H:Hp) (Q:Option Int->Hp->Prop),zG X pins σ H s->t σ H Q->
  wpAny (model X.prog X.w) X.A (evalPart e X.env) (λu s'=>∃ o H',zG X pins σ H' s'/\IsPart u o/\Q o H') X.xe s
def zOU:TO:=λ_ H Q=>Q none H
def ko (t:TE):TO:=λσ H Q=>t σ H λx H1=>∃ i,x=.int i/\Q (some i) H1
section
variable {X:Cx} {e:Expr} {te:TE} {lo hi:Option Expr} {tl th:TO} {pos p2:Pos}
theorem zOh:PO X none zOU:=by
 intro pins s σ H Q I h
 rw [evalPart_none]
 exact wpAny_pure ⟨none,H,I,.none,h⟩
theorem zOg (h:PE X e te):PO X (some e) (ko te):=by
 intro pins s σ H Q I hw
 rw [evalPart_some]
 refine zk (h pins s σ H _ I hw) λu s1 ⟨x,H1,I1,r1,q1⟩=>?_
 obtain ⟨i,rfl,q⟩:=q1
 obtain ⟨t,rfl⟩:=r1
 exact ⟨some i,H1,I1,.int i t,q⟩
def qI (X:Cx) (r:V->Option Int->Option Int->Hp->VK->Prop):Prop:=
 ∀ (pins:List (Addr × Obj)) (s:Shared) (σ:St) (H:Hp) (x:V) (v vl vu:Value) (lo hi:Option Int) (sl:Addr) (Q:VK),zG X pins σ H s->zV x v->s.heap.IsSliceOf sl vl vu .none->IsPart vl lo->IsPart vu hi->r x lo hi H Q->
  ∃ T id,typeLookup (.type T) "__getitem__" = pure (some (.builtin id))/\s.TypeIs v T/\wpAny (model X.prog X.w) X.A (getItem v (.ref sl)) (EP X pins σ Q) X.xe s
def tSl (r:V->Option Int->Option Int->Hp->VK->Prop) (te:TE) (tl th:TO):TE:=λσ H Q=>te σ H λx H1=>tl σ H1 λl H2=>th σ H2 λu H3=>r x l u H3 Q
theorem zM3 {r:V->Option Int->Option Int->Hp->VK->Prop} (hr:qI X r) (he:PE X e te) (hl:PO X lo tl) (hu:PO X hi th):PE X (.Subscript e (.Slice lo hi none p2) pos) (tSl r te tl th):=by
 intro pins s σ H Q I h
 refine Subscript_ (zk (he pins s σ H _ I h) λv s1 ⟨x,H1,I1,r1,q1⟩=>?_)
 refine wpAny_Slice (zk (hl pins s1 σ H1 _ I1 q1) λvl s2 ⟨l,H2,I2,pl,q2⟩=>zk (hu pins s2 σ H2 _ I2 q2) λvu s3 ⟨u,H3,I3,pu,q3⟩=>?_)
 rw [evalPart_none]
 refine wpAny_pure ?_
 have I4:zG X pins σ H3 { s3 with heap:=s3.heap.push { cls:=.type "slice",data:=.fields #[vl,vu,.none] } }:=I3.kept (t':=s3.toks) λb ob q=>Heap.get?_push_of_some _ q
 obtain ⟨T,id,hT,ht,hg⟩:=hr pins { s3 with heap:=s3.heap.push { cls:=.type "slice",data:=.fields #[vl,vu,.none] } } σ H3 x v vl vu l u s3.heap.objs.size Q I4 r1 (Heap.IsSliceOf.new ..) pl pu q3
 show wpAny (model X.prog X.w) X.A (subscriptTail e (.Slice lo hi none p2) v (.ref s3.heap.objs.size)) (EP X pins σ Q) X.xe { s3 with heap:=s3.heap.push { cls:=.type "slice",data:=.fields #[vl,vu,.none] } }
 exact tail_any (ops:=[.ref s3.heap.objs.size,v]) ht hT hg (by with_unfolding_all rfl)
def wx (xs:List V) (lo hi:Option Int):List V:=(xs.drop (HT.sIx xs.length 0 lo)).take (HT.sIx xs.length xs.length hi - HT.sIx xs.length 0 lo)
theorem Kt (xs:List V) (lo hi:Option Int):(wx xs lo hi).length<=xs.length:=by
 unfold wx
 rw [List.length_take,List.length_drop]
 omega
def UV (K:PySem.W.Frag):V->Option Int->Option Int->Hp->VK->Prop:=λx lo hi H Q=>∃ a xs,x=.ref a/\yN K H a xs∧
 ¬ (HT.sIx xs.length 0 lo=0/\HT.sIx xs.length xs.length hi=xs.length)/\∀ p,H p=none->Q (.ref p) (zY H p (.tup (wx xs lo hi)))
theorem zPh:qI X (UV X.K):=by
 intro pins s σ H x v vl vu lo hi sl Q I rx hs pl pu h
 obtain ⟨a,xs,rfl,hx,hw,q⟩:=h
 cases rx
 obtain ⟨its,r,ht,hz⟩:=I.tuple hx
 have hlen:its.toArray.size=xs.length:=by rw [List.size_toArray]; exact r.length.symm
 refine ⟨"tuple",_,PyProof.Rows.slot_tuple_getitem.lookup,ht.typeIs,?_⟩
 refine HT.getItem_tuple_cut ht hs pl pu (by rw [hlen]; exact hw) ?_ (by rw [hlen]; exact hz)
 rw [hlen]
 refine ⟨.ref s.heap.objs.size,_,I.laid (t':=s.toks) (o:=.tup (wx xs lo hi)) (λb ob q=>Heap.get?_push_of_some _ q) (Nat.le_refl _) ?_,rfl,q _ (I.hok.fresh (Nat.le_refl _))⟩
 exact ⟨Nat.le_trans (Kt xs lo hi) hz,_,(r.drop (HT.sIx xs.length 0 lo)).take (HT.sIx xs.length xs.length hi - HT.sIx xs.length 0 lo),IsTup.new _ _⟩
def kq (K:PySem.W.Frag):R2:=λx y H Q=>∃ a b xs ys,x=.ref a/\y=.ref b/\yN K H a xs/\yN K H b ys/\xs≠[]/\xs.length + ys.length<=sizeLine∧
 (ys=[]->Q (.ref a) H)/\(ys≠[]->∀ p,H p=none->Q (.ref p) (zY H p (.tup (xs++ys))))
theorem zR.nil_iff {xs:List V} {us:List Value} (r:zR xs us):us=[] ↔ xs=[]:=by
 cases r with
 | nil=>simp
 | cons _ _=>simp
theorem zOs:ye X (binaryOp .Add) (kq X.K):=by
 intro pins s σ H x y v u Q I rx ry h
 obtain ⟨a,b,xs,ys,rfl,rfl,ha,hb,hx,hz,q1,q2⟩:=h
 cases rx
 cases ry
 obtain ⟨its,r1,p1,_⟩:=I.tuple ha
 obtain ⟨its2,r2,p2,_⟩:=I.tuple hb
 refine HT.cat_tup p1 p2 (λz=>hx (r1.nil_iff.mp z)) (λz=>⟨.ref a,H,I,rfl,q1 (r2.nil_iff.mp z)⟩) (λz=>?_) (by rw [<- r1.length,<- r2.length]; exact hz)
 refine ⟨.ref s.heap.objs.size,_,I.laid (t':=s.toks) (o:=.tup (xs++ys)) (λb ob q=>Heap.get?_push_of_some _ q) (Nat.le_refl _) ?_,rfl,q2 (λw=>z (r2.nil_iff.mpr w)) _ (I.hok.fresh (Nat.le_refl _))⟩
 exact ⟨by rw [List.length_append]; exact hz,_,r1.append r2,IsTup.new _ _⟩
end
end L2
namespace L2
open PySem PySem.Spec PyProof.Rows
def vJ (n:Nat) (i:Int):Option Nat:=if 0<=i then (if i < n then some i.toNat else none) else if -(n:Int)<=i then some (i + n).toNat else none
def ya {α:Type} (xs:List α) (i:Int):Option α:=(vJ xs.length i).bind λj=>xs[j]?
theorem zO5 {n:Nat} {i:Int} {j:Nat} (h:vJ n i=some j):seqIndex? i n=some j/\j < n/\-(n:Int)<=i/\i < n:=by
 unfold vJ at h
 by_cases h0:0<=i
 ·rw [if_pos h0] at h
  by_cases h1:i < n
  ·rw [if_pos h1] at h
   have e:i.toNat=j:=Option.some.inj h
   exact ⟨by rw [seqIndex_of h0 h1,e],by omega,by omega,h1⟩
  ·rw [if_neg h1] at h; cases h
 ·rw [if_neg h0] at h
  by_cases h1 : -(n:Int)<=i
  ·rw [if_pos h1] at h
   have e:(i + n).toNat=j:=Option.some.inj h
   exact ⟨by rw [seqIndex_neg (by omega) h1,e],by omega,h1,by omega⟩
  ·rw [if_neg h1] at h; cases h
theorem Ku {α:Type} {xs:List α} {i:Int} {v:α} (h:ya xs i=some v):∃ j,seqIndex? i xs.length=some j/\xs[j]? = some v/\j < xs.length/\-(xs.length:Int)<=i/\i < xs.length:=by
 unfold ya at h
 cases e:vJ xs.length i with
 | none=>rw [e] at h; cases h
 | some j=>
  rw [e] at h
  obtain ⟨h1,h2,h3,h4⟩:=zO5 e
  exact ⟨j,h1,h,h2,h3,h4⟩
def UW (b:Expr):Prop:=∀ o i,subscripted b false o i=operate [o,i] (getItem o i)
def kr (X:Cx) (r:R2):Prop:=
 ∀ (value slice:Expr) (pins:List (Addr × Obj)) (s:Shared) (σ:St) (H:Hp) (x y:V) (v u:Value) (Q:VK),zG X pins σ H s->zV x v->zV y u->r x y H Q->
  subscripted slice false v u=operate [v,u] (getItem v u)->wpAny (model X.prog X.w) X.A (subscriptTail value slice v u) (EP X pins σ Q) X.xe s
def Kv (X:Cx) (id:String) (r:V->List V->Hp->VK->Prop):Prop:=
 ∀ (pins:List (Addr × Obj)) (s:Shared) (σ:St) (H:Hp) (x:V) (xs:List V) (v:Value) (us:List Value) (Q:VK),zG X pins σ H s->zV x v->zR xs us->r x xs H Q->
  wpAny (model X.prog X.w) X.A (call (.builtin id) (v :: us)) (EP X pins σ Q) X.xe s
section
variable {X:Cx} {a b:Expr} {ta tb:TE} {pos:Pos}
theorem uU {r:R2} (hr:kr X r) (ha:PE X a ta) (hb:PE X b tb) (hs:UW b):PE X (.Subscript a b pos) (gG r ta tb):=by
 intro pins s σ H Q I h
 exact Subscript_ (qF ha hb I h λv u s2 x y H2 I2 rx ry q=>hr a b pins s2 σ H2 x y v u Q I2 rx ry q (hs _ _))
def UX (K:PySem.W.Frag):R2:=λx y H Q=>∃ p xs i v,x=.ref p/\y=.int i/\zT K H p xs/\ya xs i=some v/\Q v H
def UY (K:PySem.W.Frag):R2:=λx y H Q=>∃ p xs i v,x=.ref p/\y=.int i/\yN K H p xs/\ya xs i=some v/\Q v H
theorem UZ:kr X (UX X.K):=by
 intro value slice pins s σ H x y v u Q I rx ry h hs
 obtain ⟨p,xs,i,z,rfl,rfl,hq,he,q⟩:=h
 cases rx
 obtain ⟨t,rfl⟩:=ry
 obtain ⟨its,r,pl,hz⟩:=I.list hq
 obtain ⟨j,h1,h2,h3,h4,h5⟩:=Ku he
 obtain ⟨w,ew,rw'⟩:=r.get h2
 have hl:=r.length
 have hn:=UO
 have fin:EP X pins σ Q w s:=⟨z,H,I,rw',q⟩
 by_cases h0:0<=i
 ·have hj:i.toNat=j:=by
   rw [seqIndex_of h0 h5] at h1
   exact Option.some.inj h1
  exact item_listR pl.isList h0 (by omega) (by rw [hj]; simpa using ew) fin hs
 ·have hj:(i + (its.toArray.size:Int)).toNat=j:=by
   rw [seqIndex_neg (by omega) h4] at h1
   rw [List.size_toArray,<- hl]
   exact Option.some.inj h1
  exact subscriptTail_builtinR (x:=w) pl.isList.typeIs slot_list_getitem.lookup
   (wpAny_getItem_list_neg (Q:=λr s'=>r=w/\EP X pins σ Q r s') pl.isList (by omega) (by rw [List.size_toArray] <;> omega) (by omega) (by rw [hj]; simpa using ew) ⟨rfl,fin⟩) hs
theorem zQX:kr X (UY X.K):=by
 intro value slice pins s σ H x y v u Q I rx ry h hs
 obtain ⟨p,xs,i,z,rfl,rfl,hq,he,q⟩:=h
 cases rx
 obtain ⟨t,rfl⟩:=ry
 obtain ⟨its,r,pl,hz⟩:=I.tuple hq
 obtain ⟨j,h1,h2,h3,h4,h5⟩:=Ku he
 obtain ⟨w,ew,rw'⟩:=r.get h2
 have hl:=r.length
 have hn:=UO
 have fin:EP X pins σ Q w s:=⟨z,H,I,rw',q⟩
 exact subscriptTail_builtinR (x:=w) pl.typeIs slot_tuple_getitem.lookup
  (getItem_tuple (j:=j) (Q:=λr s'=>r=w/\EP X pins σ Q r s') pl (by omega) (by omega) (by rw [List.size_toArray,<- hl]; exact h1) (by simpa using ew) ⟨rfl,fin⟩) hs
theorem zHb (lo hi:Option Int) (n:Nat):(sliceBounds lo hi none n).1=((HT.sIx n 0 lo:Nat):Int)/\(sliceBounds lo hi none n).2.1=((HT.sIx n n hi:Nat):Int)/\(sliceBounds lo hi none n).2.2=1:=by
 refine ⟨?_,?_,rfl⟩
 ·cases lo with
  | none=>simp [sliceBounds,HT.sIx]
  | some i=>
   simp only [sliceBounds,HT.sIx,Option.getD_none,show (1:Int) > 0 by decide,if_true]
   by_cases h:i < 0
   ·simp only [h,if_true] <;> omega
   ·simp only [h,if_false] <;> omega
 ·cases hi with
  | none=>simp [sliceBounds,HT.sIx]
  | some i=>
   simp only [sliceBounds,HT.sIx,Option.getD_none,show (1:Int) > 0 by decide,if_true]
   by_cases h:i < 0
   ·simp only [h,if_true] <;> omega
   ·simp only [h,if_false] <;> omega
theorem zGh (its:List Value) (lo hi:Option Int):slicePick its.toArray lo hi none=((its.drop (HT.sIx its.length 0 lo)).take (HT.sIx its.length its.length hi - HT.sIx its.length 0 lo)).toArray:=by
 obtain ⟨h1,h2,h3⟩:=zHb lo hi its.toArray.size
 unfold slicePick
 rw [h1,h2,h3]
 simp only [sliceRange_one,pick_run,List.size_toArray] <;> rfl
def Ua (K:PySem.W.Frag):V->Option Int->Option Int->Hp->VK->Prop:=λx lo hi H Q=>∃ a xs,x=.ref a/\zT K H a xs/\∀ p,H p=none->Q (.ref p) (zY H p (.lst (wx xs lo hi)))
theorem zOY:qI X (Ua X.K):=by
 intro pins s σ H x v vl vu lo hi sl Q I rx hs pl pu h
 obtain ⟨a,xs,rfl,hx,q⟩:=h
 cases rx
 obtain ⟨its,r,ht,hz⟩:=I.list hx
 have hlen:=r.length
 refine ⟨"list",_,slot_list_getitem.lookup,ht.isList.typeIs,?_⟩
 refine wpAny_getItem_list_slice ht.isList hs pl pu .none (by simp) ?_ (by rw [List.size_toArray] <;> omega)
 rw [zGh,<- hlen]
 refine ⟨.ref s.heap.objs.size,_,I.laid (t':=s.toks) (o:=.lst (wx xs lo hi)) (λb ob q=>Heap.get?_push_of_some _ q) (Nat.le_refl _) ?_,rfl,q _ (I.hok.fresh (Nat.le_refl _))⟩
 exact ⟨Nat.le_trans (Kt xs lo hi) hz,_,0,(r.drop (HT.sIx xs.length 0 lo)).take (HT.sIx xs.length xs.length hi - HT.sIx xs.length 0 lo),Heap.get?_push_size _ rfl⟩
theorem yP:wv X (.builtin "len") (λxs H Q=>∃ p ys,xs=[.ref p]/\(zT X.K H p ys\/yN X.K H p ys)/\Q (.int ys.length) H):=by
 intro pins s σ H xs us Q I r h
 obtain ⟨p,ys,rfl,hq,q⟩:=h
 obtain ⟨u,rfl,rx⟩:=jF r
 cases rx
 have hn:=UO
 rcases hq with hq | hq
 ·obtain ⟨its,r',pl,hz⟩:=I.list hq
  have hlen:=r'.length
  exact Calls.call_len_list pl.isList (by simp only [List.size_toArray] <;> omega) ⟨.int ys.length,H,I.tok _,⟨s.toks + 1,by rw [List.size_toArray,hlen]⟩,q⟩
 ·obtain ⟨its,r',pl,hz⟩:=I.tuple hq
  have hlen:=r'.length
  exact len_tuple pl (by simp only [List.size_toArray] <;> omega) ⟨.int ys.length,H,I.tok _,⟨s.toks + 1,by rw [List.size_toArray,hlen]⟩,q⟩
theorem wn:wv X (.type "list") (λxs H Q=>∃ p ys,xs=[.ref p]/\(zT X.K H p ys\/yN X.K H p ys)/\∀ l,H l=none->Q (.ref l) (zY H l (.lst ys))):=by
 intro pins s σ H xs us Q I r h
 obtain ⟨p,ys,rfl,hq,q⟩:=h
 obtain ⟨u,rfl,rx⟩:=jF r
 cases rx
 have fin:∀ (its:List Value),zR ys its->ys.length<=sizeLine->∀ (h':Heap) (c':Nat),(∀ b o',s.heap.get? b=some o'->h'.get? b=some o')->
   h'.get? s.heap.objs.size=some { cls:=.type "list",dict:=none,data:=.seq its.toArray c',slots:=#[] }->EP X pins σ Q (.ref s.heap.objs.size) { s with heap:=h' }:=λits r' hz h' c' kp e=>
  ⟨.ref s.heap.objs.size,_,I.laid (t':=s.toks) kp (Nat.le_refl _) (show wO X.prog X.w _ h' _ (.lst ys) from ⟨hz,its,c',r',e⟩),rfl,q _ (I.hok.fresh (Nat.le_refl _))⟩
 rcases hq with hq | hq
 ·obtain ⟨its,r',pl,hz⟩:=I.list hq
  have hlen:=r'.length
  obtain ⟨o,ho,hc,n,hd⟩:=pl.isList
  exact call_list_seq p (.inl rfl) ho hc hd (λh' c' kp e=>fin its r' hz h' c' kp e) (by simp only [List.size_toArray] <;> omega)
 ·obtain ⟨its,r',pl,hz⟩:=I.tuple hq
  have hlen:=r'.length
  obtain ⟨o,ho,hc,n,hd⟩:=pl
  exact call_list_seq p (.inr rfl) ho hc hd (λh' c' kp e=>fin its r' hz h' c' kp e) (by simp only [List.size_toArray] <;> omega)
theorem jG:wv X (.type "tuple") (λxs H Q=>∃ p ys,xs=[.ref p]/\((zT X.K H p ys/\∀ l,H l=none->Q (.ref l) (zY H l (.tup ys)))\/(yN X.K H p ys/\Q (.ref p) H))):=by
 intro pins s σ H xs us Q I r h
 obtain ⟨p,ys,rfl,h⟩:=h
 obtain ⟨u,rfl,rx⟩:=jF r
 cases rx
 rcases h with ⟨hq,q⟩ | ⟨hq,q⟩
 ·obtain ⟨its,r',pl,hz⟩:=I.list hq
  have hlen:=r'.length
  refine call_tuple_list pl.isList (λh' kp=>?_) (by simp only [List.size_toArray] <;> omega)
  have I1:zG X pins σ H { s with heap:=h' }:=I.kept (t':=s.toks) kp
  have I2:zG X pins σ (zY H h'.objs.size (.tup ys)) { s with heap:=h'.push { cls:=.type "tuple",data:=.seq its.toArray } }:=
   I1.laid (t':=s.toks) (λb o e=>Heap.get?_push_of_some _ e) (Nat.le_refl _) (show wO X.prog X.w _ _ _ (.tup ys) from ⟨hz,its,r',IsTup.new _ _⟩)
  exact ⟨.ref h'.objs.size,_,I2,rfl,q _ (I1.hok.fresh (Nat.le_refl _))⟩
 ·obtain ⟨its,r',pl,hz⟩:=I.tuple hq
  exact call_tuple_same pl ⟨.ref p,H,I,rfl,q⟩
def Kw (K:PySem.W.Frag) (T:String) (x:V) (H:Hp):Prop:=match x with
 | .str _=>T = "str"
 | .int _=>T = "int"
 | .ref p=>(T = "list"/\∃ xs,zT K H p xs)\/(T = "tuple"/\∃ o,K.lookup p=some o/\o.cls=.type "tuple"/\o.dict=none)∨
   (T = "dict"/\((∃ kvs,H p=some (.dK kvs))\/∃ kvs,H p=some (.dT kvs)))\/(T = "set"/\∃ S n,H p=some (.set S n))
 | _=>False
theorem zPV {pins:List (Addr × Obj)} {σ:St} {H:Hp} {s:Shared} {T:String} {x:V} {v:Value} (I:zG X pins σ H s) (r:zV x v) (ty:Kw X.K T x H) :
  s.TypeIs v T/\∀ a,v=.ref a->∃ ob,s.heap.get? a=some ob/\ob.dict=none:=by
 cases x with
 | str z=>
  obtain ⟨t,rfl⟩:=r
  cases (show T = "str" from ty)
  exact ⟨typeIs_str s z t,λ_ e=>nomatch e⟩
 | int i=>
  obtain ⟨t,rfl⟩:=r
  cases (show T = "int" from ty)
  exact ⟨typeIs_int s i t,λ_ e=>nomatch e⟩
 | ref p=>
  cases r
  rcases ty with ⟨rfl,xs,hq⟩ | ⟨rfl,o,hk,hc,hd⟩ | ⟨rfl,hk⟩ | ⟨rfl,S,n,hk⟩
  ·obtain ⟨its,_,pl,_⟩:=I.list hq
   refine ⟨pl.isList.typeIs,λa e=>?_⟩
   cases e
   obtain ⟨o,n,e,c,hd,_⟩:=pl
   exact ⟨o,e,hd⟩
  ·refine ⟨⟨o,I.kIn p o hk,hc⟩,λa e=>?_⟩
   cases e
   exact ⟨o,I.kIn _ o hk,hd⟩
  ·have z:∃ o,s.heap.get? p=some o/\o.ExactDict:=by
    rcases hk with ⟨kvs,hk⟩ | ⟨kvs,hk⟩
    ·obtain ⟨_,_,_,_,o,_,_,e,ex,_⟩:=I.hok p _ hk
     exact ⟨o,e,ex⟩
    ·obtain ⟨_,_,_,_,o,_,_,e,ex,_⟩:=I.hok p _ hk
     exact ⟨o,e,ex⟩
   obtain ⟨o,e,ex⟩:=z
   refine ⟨⟨o,e,ex.1⟩,λa e2=>?_⟩
   cases e2
   exact ⟨o,e,ex.2.1⟩
  ·obtain ⟨o,_,_,_,e,ex,_⟩:=I.hok p _ hk
   refine ⟨⟨o,e,ex.1⟩,λa e2=>?_⟩
   cases e2
   exact ⟨o,e,ex.2.1⟩
 | _=>exact False.elim ty
def Kx (K:PySem.W.Frag) (T:String) (r:V->List V->Hp->VK->Prop) (to:TE) (t:TA):TE:=λσ H Q=>to σ H λx H1=>Kw K T x H1/\t σ H1 λxs H2=>r x xs H2 Q
variable {o e:Expr} {es:List Expr} {to:TE} {t:TA} {name:Str} {apos cpos:Pos} {T id:String} {r:V->List V->Hp->VK->Prop}
theorem wG (pa:PlainAttrs T) (slot:Slot T name id) (hty:typeOf (.builtin id)=pure (.type "method_descriptor")) (hm:Kv X id r) (ho:PE X o to) (ha:PA X (e :: es) t)
  (hbase:attributeBase o name X.env (eval o X.env)=eval o X.env:=by rfl)
  (hfew:((backTo cpos (starEach (e :: es) X.env)).all (λx=>!x.1) && (backToKw cpos (keywordEach [] X.env)).all (λx=>x.1.isSome)
   && decide ((e :: es).length + ([]:List Keyword).length + (if ([]:List Keyword).isEmpty then 0 else 1) < 30))=true:=by rfl)
  (hline:(apos.endLine == cpos.line)=true:=by rfl) (hs:starEach (e :: es) X.env=(false,eval e X.env) :: starEach es X.env:=by rfl) (hplain:(backTo cpos (starEach es X.env)).any (·.1)=false:=by rfl) :
  PE X (.Call (.Attribute o name apos) (e :: es) [] cpos) (Kx X.K T r to t):=by
 intro pins s σ H Q I h
 refine wpAny_Call_method_late hbase hfew hline rfl (zk (ho pins s σ H _ I h) λv s1 ⟨x,H1,I1,r1,ty,q1⟩=>?_)
 obtain ⟨h1,h2⟩:=zPV I1 r1 ty
 refine ⟨T,id,pa,slot,hty,h1,h2,?_⟩
 have hA:=ha cpos pins s1 σ H1 _ I1 q1
 rw [hs] at hA |-
 refine Calls.callWith_builtin (by show (false || (backTo cpos (starEach es X.env)).any (·.1))=false; rw [hplain] <;> rfl) (Calls.evalArgs_plain ?_)
 exact zk hA λus s2 ⟨vs,H2,I2,r2,q2⟩=>hm pins s2 σ H2 x vs v us Q I2 r1 r2 q2
/- xs.append(e),list.index on a module's tuple .. are Kv facts of 06m -/
end
end L2
namespace L2
open PySem PySem.Spec PyProof.Rows
def Ky (X:Cx) (id:String) (r:V->List V->Hp->VK->Prop):Prop:=
 ∀ (pins:List (Addr × Obj)) (s:Shared) (σ:St) (H:Hp) (x:V) (xs:List V) (v:Value) (us:List Value) (Q:VK),zG X pins σ H s->zV x v->zR xs us->r x xs H Q->
  wpAny (model X.prog X.w) X.A (call (.builtin id) (v :: us)) (EP X pins σ Q) X.xe s
theorem zR.one:∀ {x:V} {us:List Value},zR [x] us->∃ u,us=[u]/\zV x u
 | _,_,.cons r .nil=>⟨_,rfl,r⟩
theorem zR.rep {xs:List V} {us:List Value} (h:zR xs us):∀ k:Nat,zR (List.replicate k xs).flatten (List.replicate k us).flatten
 | 0=>.nil
 | k + 1=>by
  rw [List.replicate_succ,List.replicate_succ,List.flatten_cons,List.flatten_cons]
  exact zR.append h (zR.rep h k)
theorem Kz (its:List Value):∀ (k:Nat) (acc:List Value),
  List.foldl (λx1 x2=>x1++x2) acc.toArray (List.replicate k its.toArray)=(acc++(List.replicate k its).flatten).toArray
 | 0,acc=>by simp
 | k + 1,acc=>by
  have e:acc.toArray++its.toArray=(acc++its).toArray:=by simp
  have e2:(acc++its)++(List.replicate k its).flatten=acc++(List.replicate (k + 1) its).flatten:=by
   rw [List.replicate_succ,List.flatten_cons,List.append_assoc]
  rw [<- e2,<- Kz its k (acc++its),<- e,List.replicate_succ,List.foldl_cons]
section
variable {X:Cx} {pins:List (Addr × Obj)} {σ:St} {H:Hp} {s:Shared} {l b:Addr} {xs ys zs:List V}
theorem zG.lset {its its':List Value} {n:Nat} {f:Array Value->Array Value} {t':Nat} (I:zG X pins σ H s) (hH:H l=some (.lst xs))
  (e:s.heap.get? l=some { cls:=.type "list",data:=.seq its.toArray n }) (hf:f its.toArray=its'.toArray) (hv:zR ys its') (hz:ys.length<=sizeLine) :
  zG X pins σ (zY H l (.lst ys)) { s with heap:=s.heap.update l (Obj.mapSeq f),toks:=t' }:=by
 have q:=PySem.IsL.update e f
 rw [hf] at q
 refine I.write (x:=l) (e:=l) (by rw [hH]; exact trivial) (.inl rfl) (λb' u hb hu=>(Heap.get?_update_other s.heap (Obj.mapSeq f) (Ne.symm hb)).trans hu) ⟨_,q⟩ ?_
 exact ⟨hz,its',_,hv,q⟩
theorem zG.lnew {its:List Value} {t':Nat} (I:zG X pins σ H s) (hv:zR ys its) (hz:ys.length<=sizeLine) :
  zG X pins σ (zY H s.heap.objs.size (.lst ys)) { s with heap:=s.heap.push { cls:=.type "list",data:=.seq its.toArray },toks:=t' }:=
 I.laid (λ_ _ q=>Heap.get?_push_of_some _ q) (Nat.le_refl _) ⟨hz,its,0,hv,Heap.get?_push_size _ rfl⟩
theorem zG.fresh (I:zG X pins σ H s):H s.heap.objs.size=none:=I.hok.fresh (Nat.le_refl _)
theorem zG.lstM (I:zG X pins σ H s) (hH:H l=some (.lst xs)):xs.length<=sizeLine/\∃ (its:List Value) (n:Nat),zR xs its/\xs.length=its.length/\s.heap.get? l=some { cls:=.type "list",data:=.seq its.toArray n }:=by
 obtain ⟨z,its,n,r,e⟩:=I.hok l _ hH
 exact ⟨z,its,n,r,r.length,e⟩
theorem zNJ {n:Nat} (h:n<=sizeLine):Builtin.List.listTooLong n=false:=by
 unfold Builtin.List.listTooLong
 exact decide_eq_false (by omega)
end
section
variable {X:Cx}
def zOc:V->List V->Hp->VK->Prop:=λx vs H Q=>∃ l xs y,x=.ref l/\vs=[y]/\H l=some (.lst xs)/\xs.length < sizeLine/\Q .non (zY H l (.lst (xs++[y])))
theorem zLX:Ky X "list.append" zOc:=by
 intro pins s σ H x vs v us Q I rx rv h
 obtain ⟨l,xs,y,rfl,rfl,hH,hz,q⟩:=h
 cases rx
 obtain ⟨u,rfl,ru⟩:=rv.one
 obtain ⟨z,its,n,r,hl,e⟩:=I.lstM hH
 refine call_meets F.slot_list_append ⟨_,e,rfl⟩ F.entry_list_append (F.args_list_append_2 _ _) (PySem.list_append l its.toArray n u (by rw [List.size_toArray]; omega)) ⟨e,?_⟩
 refine ⟨.non,_,I.lset (its':=its++[u]) hH e (by simp) (r.append (.cons ru .nil)) ?_,rfl,q⟩
 rw [List.length_append,List.length_singleton]
 omega
def qJ:R2:=λx y H Q=>∃ l b xs zs,x=.ref l/\y=.ref b/\H l=some (.lst xs)/\H b=some (.lst zs)/\xs.length + zs.length<=sizeLine/\∀ p,H p=none->Q (.ref p) (zY H p (.lst (xs++zs)))
theorem Xc:ye X (binaryOp .Add) qJ:=by
 intro pins s σ H x y v u Q I rx ry h
 obtain ⟨l,b,xs,zs,rfl,rfl,hH,hB,hz,q⟩:=h
 cases rx
 cases ry
 obtain ⟨z,its,n,r,hl,e⟩:=I.lstM hH
 obtain ⟨z2,its2,n2,r2,hl2,e2⟩:=I.lstM hB
 refine PySem.P.add_list e e2 ?_ (by rw [List.size_toArray,List.size_toArray]; omega)
 have ea:its.toArray++its2.toArray=(its++its2).toArray:=by simp
 rw [ea]
 exact ⟨.ref _,_,I.lnew (t':=s.toks) (r.append r2) (by rw [List.length_append]; omega),rfl,q _ I.fresh⟩
def kz:R2:=λx y H Q=>∃ l k xs,x=.ref l/\y=.int k/\H l=some (.lst xs)/\-(2 ^ 63)<=k/\k < 2 ^ 63/\xs.length * k.toNat<=sizeLine∧
 ∀ p,H p=none->Q (.ref p) (zY H p (.lst (List.replicate k.toNat xs).flatten))
theorem zO3 {α:Type} (xs:List α) (k:Nat):(List.replicate k xs).flatten.length=k * xs.length:=by
 induction k with
 | zero=>simp
 | succ k ih=>rw [List.replicate_succ,List.flatten_cons,List.length_append,ih,Nat.succ_mul,Nat.add_comm]
theorem zQB:ye X (binaryOp .Mult) kz:=by
 intro pins s σ H x y v u Q I rx ry h
 obtain ⟨l,k,xs,rfl,rfl,hH,h1,h2,hz,q⟩:=h
 cases rx
 obtain ⟨t,rfl⟩:=ry
 obtain ⟨z,its,n,r,hl,e⟩:=I.lstM hH
 have hlen:its.toArray.size * k.toNat<=sizeLine:=by rw [List.size_toArray,<- hl]; exact hz
 have hcap:¬ its.toArray.size * k.toNat > (2 ^ 63 - 1) / 8:=by
  have:(sizeLine:Nat)<=(2 ^ 63 - 1) / 8:=by decide
  omega
 have hfit:¬ (!Builtin.List.listFitsIndex k)=true:=by
  rw [fitsIndex_both h1 h2]
  exact Bool.false_ne_true
 have hlong:¬ Builtin.List.listTooLong (its.toArray.size * k.toNat)=true:=by
  rw [zNJ hlen]
  exact Bool.false_ne_true
 have hnew:List.foldl (λx1 x2=>x1++x2) #[] (List.replicate (if its.toArray.isEmpty=true then 0 else k.toNat) its.toArray)=(List.replicate k.toNat its).flatten.toArray:=by
  have f0:∀ m:Nat,List.foldl (λx1 x2=>x1++x2) #[] (List.replicate m its.toArray)=(List.replicate m its).flatten.toArray:=λm=>by
   have:=Kz its m []
   rw [List.nil_append] at this
   exact this
  rw [f0]
  cases its with
  | nil=>simp
  | cons a r'=>rw [if_neg (by simp)]
 refine wpAny_binaryOp_repeat_ref (T:="list") (U:="int") (by decide) ⟨_,e,rfl⟩ (λs'=>typeIs_int s' k t) noFill_list_mul F.fills_int_mul F.slot_int_rmul repeat_list F.slot_int_index.lookup
  (call_meets F.slot_int_rmul (typeIs_int s k t) F.entry_int_rmul (F.args_int_rmul_2 _ _) (int___rmul___int_list k t l its.toArray n)
   ⟨e,rfl,⟨_,e,rfl⟩,call_meets F.slot_list_mul ⟨_,e,rfl⟩ F.entry_list_mul (F.args_list_mul_2 _ _) (AutoListH.list___mul___list_int_3 l its.toArray n k t hfit hcap hlong) ⟨e,?_⟩⟩)
 rw [hnew]
 exact ⟨.ref _,_,I.lnew (t':=s.toks) (r.rep k.toNat) (by rw [zO3,Nat.mul_comm]; exact hz),rfl,q _ I.fresh⟩
end
section
variable {prog:Program} {w:World} {A:Around} {E:Value->Shared->Prop} {s:Shared}
end
section
variable {X:Cx}
end
end L2
namespace Att
open PySem PySem.W PySem.Calls PyProof.Rows
theorem zF6 {P:Params} {h:Heap}:∀ (ns:List Int) (vs:List Value),WellAll P h vs (ns.map WData.int)->IntsAre vs ns:=by
 intro ns
 induction ns with
 | nil=>
  intro vs w
  rw [List.map_nil] at w
  cases w
  exact .nil
 | cons n ns ih=>
  intro vs w
  rw [List.map_cons] at w
  cases w with
  | cons a b=>
   cases a
   exact .cons _ _ (ih _ b)
theorem zKb {l:OpenLaw} {n:Nat} (hn:l.most=some n) {P:Params} {h:Heap} {args:List WData} {vals:List Value}
  (hpre:l.row.toRowW.claim.pre args=true) (hwl:WellAll P h vals args) :
  ∃ a vs ns,vals=[Value.ref a]/\args=[WData.list (ns.map WData.int)]/\h.get? a=some { cls:=.type "list",data:=.seq vs.toArray }/\IntsAre vs ns/\ns.length<=n:=by
 have hsh:WShape.hasAll [] args [.list .int]=true:=(pre_splitW hpre).1
 have hc:l.pre.holds [] { args:=args }=true:=(pre_splitW hpre).2
 obtain ⟨d,r,rfl,h1,h2⟩:=hasAllW_cons hsh
 obtain rfl:=hasAllW_nil h2
 obtain ⟨xs,rfl,h3⟩:=hasW_list h1
 obtain ⟨ns,rfl⟩:=items_int h3
 have hlen:ns.length<=n:=by
  unfold OpenLaw.pre at hc
  have h4:(WTm.not (.lt (.lit (.int (n:Int))) (.len (.arg 0)))).holds [] { args:=[.list (ns.map .int)] }=true:=by
   have h4:=(holds_andW hc).1
   rw [hn] at h4
   exact h4
  have h5:=condW_of h4 (w_not (w_lt w_lit (w_len_list (w_arg rfl))))
  rw [List.length_map] at h5
  refine Nat.le_of_not_lt λq=>?_
  have q':(n:Int) < ((ns.length:Nat):Int):=by omega
  first
   | (rw [decide_eq_true q'] at h5; exact absurd h5 (by decide))
   | (simp at h5; omega)
 cases hwl with
 | cons w1 w2=>
  cases w2
  cases w1 with
  | list ho hall=>exact ⟨_,_,ns,rfl,rfl,ho,zF6 ns _ hall,hlen⟩
theorem zK2 (l:OpenLaw) (args:List WData):l.row.toRowW.claim.post args (.bool true) args=true:=
 postW_of (r:=l.row.toRowW) (X:=(true == true))
  (show WShape.has [] (.bool true) .bool=true by first | rfl | decide | simp [WShape.has,WShape.arms,WShape.armsAll])
  (show (WTm.eq .res (.lit (.bool true))).value [] { args:=args,res:=some (.bool true),after:=args }=some (.bool (true == true)) from w_eq_bool (w_res rfl) w_lit) rfl
theorem attach_call {l:OpenLaw} {n:Nat} {q:Program} {loose:List Str} {XP:(Str->Option Value)->Heap->Prop} {YP:World->Heap->Prop} {d:DefRec}
  (hn:l.most=some n) (hdf:d.params.defaults=[])
  (call:∀ (w:World) (s₀ s₁:Shared) (mg mb:Str->Option Value) (fa:Addr) (o:Obj) (pm cd doc:Value) (a:Addr) (vs:List Value) (ns:List Int),
   Ground q loose [] XP w s₀ mg mb s₁.heap->YP w s₁.heap->
   s₁.heap.get? fa=some o->o.data=.func (docDef d.name d.params d.body d.scope pm cd doc)->s₁.heap.CodeRec cd d.name->mg d.name=some (.ref fa)->
   s₁.heap.get? a=some { cls:=.type "list",data:=.seq vs.toArray }->IntsAre vs ns->ns.length<=n->s₁.gens=#[]->
   codeAny (model l.prog w) callerA (.call (.ref fa) ⟨[.ref a],[]⟩) (λr s'=>r=.ok (.ret (.bool true))/\OldK s₁.heap s'.heap/\s'.os=s₁.os/\AllBare s'.gens) s₁) :
  WalkO q loose XP YP l.row.toRowW d [] (λf vs=>PySem.call f vs):=by
 intro w s₀ s₁ mg mb G Y fa o pm cd doc dV kV ho hd hcd hD hmg hg args vals as hpre hlay hrd hwl hlo
 obtain rfl:dV=.none:=Dflts.none hD hdf
 obtain rfl:kV=.none:=Dflts.noKw hD
 obtain ⟨a,vs,ns,rfl,rfl,hobj,hints,hlen⟩:=zKb hn hpre hwl
 refine enter_call (codeAny_mono (call w s₀ s₁ mg mb fa o pm cd doc a vs ns G Y ho (fd_plain hd) hcd hmg hobj hints hlen hg) λr s' hq=>?_)
 obtain ⟨rfl,h2,h3,h4⟩:=hq
 exact ⟨.inl ⟨.bool true,.bool true,[],rfl,λ_=>rfl,.bool true,zK2 l _,λ_=>⟨List.Pairwise.nil,λ_ hm=>(nomatch hm)⟩⟩,h2,h3,h4⟩
section
variable {prog:Program} {w:World} {A:Around} {E:Value->Shared->Prop} {s:Shared} {K:Frag}
end
end Att
namespace L2
open PySem PySem.Spec PyProof.Rows
theorem K0:∀ {vs:List Value} {ns:List Int},IntsAre vs ns->zR (ns.map V.int) vs
 | _,_,.nil=>.nil
 | _,_,.cons n t h=>.cons ⟨t,rfl⟩ (K0 h)
def qK (H:Hp):Prop:=∀ b,H b=none\/∃ o xs,H b=some (.frz o (.lst xs))
theorem law_call {P:Program} {w:World} {K:PySem.W.Frag} {mg mb:Str->Option Value} {CX:vj} {k:Nat} {fa a:Addr} {fd:FuncData} {x:Str} {sp:Sp} {s₁:Shared} {vs:List Value} {ns:List Int}
  (KX:K.In s₁.heap) (hns:s₁.heap.Ns mainGlobals mg) (hb:s₁.heap.Ns builtinsNs mb) (hbb:∀ x:Str,x≠"__name__"->mb x=bootBuiltins x) (hlim:s₁.heap.NoLimit) (hg:s₁.gens=#[])
  (ha:s₁.heap.get? a=some { cls:=.type "list",data:=.seq vs.toArray }) (hi:IntsAre vs ns) (hl:ns.length<=sizeLine) (hr:zc k callerA)
  (F:∀ base:Heap,K.In base->base.Ns mainGlobals mg->zF P w K mg base CX k fa fd [x] sp) (hbind:∀ (s:Shared) (u:Value),BindsTo s fd ⟨[u],[]⟩ [(x,u)])
  (hsp:∀ H:Hp,qK H->zT K H a (ns.map V.int)->sp [.ref a] H (λv _=>v=.bl true) λ_ _ _=>False)
  (hCX:∀ H e s',CX [] H s₁ (λ_ _ _=>False) e s'->False) :
  codeAny (model P w) callerA (.call (.ref fa) ⟨[.ref a],[]⟩) (λr s'=>r=.ok (.ret (.bool true))/\OldK s₁.heap s'.heap/\s'.os=s₁.os/\AllBare s'.gens) s₁:=by
 have rv:=K0 hi
 have lenV:=hi.length
 have core:∀ H:Hp,qK H->zT K H a (ns.map V.int)->xU P w H s₁.heap->(∀ b,H b≠none->b=a)->(H a≠none->K.lookup a=none)->
   codeAny (model P w) callerA (.call (.ref fa) ⟨[.ref a],[]⟩) (λr s'=>r=.ok (.ret (.bool true))/\OldK s₁.heap s'.heap/\s'.os=s₁.os/\AllBare s'.gens) s₁:=by
  intro H hO hS hok hA hK
  have base_of:∀ {b:Addr} {o:Obj},s₁.heap.get? b=some o->H b=none->(wV s₁.heap H).get? b=some o:=λe n=>zNR e n
  have noA:∀ {b:Addr} {o:Obj} {es:Array DictEntry} {ep:Nat},s₁.heap.get? b=some o->o.data=.dict es ep->H b=none:=λ{b o es ep} e d=>by
   cases q:H b with
   | none=>rfl
   | some u=>
    have e':b=a:=hA b (by rw [q]; simp)
    subst e'
    rw [ha] at e; cases e
    have d':Data.seq vs.toArray _=Data.dict es ep:=d
    cases d'
  have nsK:∀ {b:Addr} {m:Str->Option Value},s₁.heap.Ns b m->(wV s₁.heap H).Ns b m:=λ{b m} ⟨o,es,ep,e,d,r⟩=>⟨o,es,ep,base_of e (noA e d),d,r⟩
  have hKb:K.In (wV s₁.heap H):=λb o e=>base_of (KX b o e) (by
   cases q:H b with
   | none=>rfl
   | some u=>
    have e':b=a:=hA b (by rw [q]; simp)
    subst e'
    rw [hK (by rw [q]; simp)] at e; cases e)
  have hM:Mod K mg (wV s₁.heap H):=⟨hKb,nsK hns,⟨mb,nsK hb,hbb⟩,let ⟨mc,h1,h2⟩:=hlim; ⟨mc,nsK h1,h2⟩⟩
  have e0:vO P w K mg (wV s₁.heap H) callerA [] s₁ H:=⟨rfl,hM,λb o e=>zO1 e,Nat.le_of_eq (zLf _ _),trivial,λb hb=>absurd (show b∈([]:List Addr) from hb) (by simp),hok,.of_eq hg⟩
  refine codeAny_mono ((F _ hKb (nsK hns)).run callerA [] s₁ H ⟨[.ref a],[]⟩ [.ref a] [.ref a] _ _ hr e0 (hbind s₁ (.ref a)) (.cons rfl .nil) (hsp H hO hS)) λr s' h=>?_
  cases r with
  | error e=>exact (hCX H e s' h).elim
  | ok fl=>
   cases fl with
   | next=>exact False.elim h
   | brk=>exact False.elim h
   | cont=>exact False.elim h
   | ret u=>
    obtain ⟨v,H',os,bare,un,hok',r',q⟩:=h
    have q':v=.bl true:=q
    subst q'
    obtain rfl:u=Value.bool true:=r'
    refine ⟨rfl,OldK.of_keep λb o e=>?_,os,bare⟩
    cases q:H b with
    | none=>exact un.keep b o e q (by intro z; exact absurd (show b∈([]:List Addr) from z) (by simp)) (by simp)
    | some u=>
     rcases hO b with z | ⟨ob,xs,z⟩
     ·rw [q] at z; cases z
     ·have z2:=un.frzs b ob _ z
      obtain ⟨e1,_⟩:=hok b _ z
      obtain ⟨e2,_⟩:=hok' b _ z2
      rw [e] at e1; cases e1
      exact e2
 cases hk:K.lookup a with
 | some o=>
  have e:=KX a o hk
  rw [ha] at e
  cases e
  refine core (λ_=>none) (λ_=>.inl rfl) (.inr ⟨_,vs.toArray,_,hk,rfl,rfl,rfl,by rw [List.size_toArray,lenV]; exact hl,by simpa using rv⟩) (λb u z=>by have z':(none:Option HO)=some u:=z; cases z') (λb z=>absurd rfl z) λz=>absurd rfl z
 | none=>
  refine core (λb=>if b=a then some (.frz { cls:=.type "list",data:=.seq vs.toArray } (.lst (ns.map V.int))) else none) (λb=>?_) (.inl (.inr ⟨{ cls:=.type "list",data:=.seq vs.toArray },if_pos rfl⟩)) (λb u z=>?_) (λb z=>?_) λ_=>hk
  ·by_cases hb:b=a
   ·exact .inr ⟨_,_,if_pos hb⟩
   ·exact .inl (if_neg hb)
  ·by_cases hb:b=a
   ·have z':=(if_pos hb).symm.trans z
    cases z'
    subst hb
    exact ⟨ha,by rw [List.length_map]; exact hl,vs,_,rv,ha⟩
   ·have z':=(if_neg hb).symm.trans z
    cases z'
  ·by_cases hb:b=a
   ·exact hb
   ·exact absurd (if_neg hb) z
end L2
namespace L2
open PySem PySem.Spec PyProof.Rows
theorem zOQ {l:PySem.W.OpenLaw} {n k:Nat} {q:Program} {loose:List Str} {XP:(Str->Option Value)->Heap->Prop} {YP:World->Heap->Prop} {d:DefRec} {K:Params->PySem.W.Frag} {CX:World->vj} {sp:World->Sp} {x:Str}
  (hn:l.most=some n) (hn2:n<=sizeLine) (hdf:d.params.defaults=[]) (hr:zc k callerA)
  (hY:∀ (w:World) (h:Heap),YP w h->(K w.params).In h)
  (F:∀ (w:World) (mg:Str->Option Value) (fa:Addr) (h:Heap),(K w.params).In h->h.Ns mainGlobals mg->mg d.name=some (.ref fa)->
   ∃ fd:FuncData,(∀ (s:Shared) (u:Value),BindsTo s fd ⟨[u],[]⟩ [(x,u)])∧
    ∀ base:Heap,(K w.params).In base->base.Ns mainGlobals mg->zF l.prog w (K w.params) mg base (CX w) k fa fd [x] (sp w))
  (hsp:∀ (w:World) (H:Hp) (a:Addr) (ns:List Int),ns.length<=n->qK H->zT (K w.params) H a (ns.map V.int)->sp w [.ref a] H (λv _=>v=.bl true) λ_ _ _=>False)
  (hCX:∀ (w:World) (H:Hp) (s:Shared) (e:Value) (s':Shared),CX w [] H s (λ_ _ _=>False) e s'->False) :
  PySem.W.WalkO q loose XP YP l.row.toRowW d [] (λf vs=>PySem.call f vs):=by
 refine Att.attach_call hn hdf λw s₀ s₁ mg mb fa o pm cd doc a vs ns G Y ho hd hcd hmg hobj hints hlen hg=>?_
 have KX:=hY w _ Y
 obtain ⟨fd,hb,hF⟩:=F w mg fa _ KX G.T.g hmg
 exact law_call KX G.T.g G.T.b G.T.builtins G.T.nolimit hg hobj hints (Nat.le_trans hlen hn2) hr hF hb (λH hO hS=>hsp w H a ns hlen hO hS) λH e s'=>hCX w H s₁ e s'
end L2
namespace L2
open PySem PySem.Spec PyProof.Rows
def jn (s:Stmt) (j:Nat):Stmt:=match s with
 | .ClassDef _ _ _ body _ _ _ _ _ _ _=>body.getD j (.Pass ⟨0,0,0,0⟩)
 | _=>.Pass ⟨0,0,0,0⟩
def wW (s:Stmt):Arguments:=match s with
 | .FunctionDef _ a _ _ _ _ _ _ _ _=>a
 | _=>{ posonlyargs:=[],args:=[],vararg:=none,kwonlyargs:=[],kw_defaults:=[],kwarg:=none,defaults:=[] }
def xR (s:Stmt):List Stmt:=match s with
 | .FunctionDef _ _ b _ _ _ _ _ _ _=>b
 | _=>[]
def zK (s:Stmt):Scope:=match s with
 | .FunctionDef _ _ _ _ _ _ sc _ _ _=>sc
 | _=>{ kind:=.function,names:=[],isGenerator:=false,isCoroutine:=false }
abbrev zW:vj:=λ_ _ _ _ _ _=>False
abbrev E0:XK:=λ_ _ _=>False
theorem k6 {X:Cx}:gK zW X E0:=λ_ _ _ _ _ _ _ h=>h.elim
structure zg (K:PySem.W.Frag) (x qual:Str) (st:Stmt) (f:Addr) (fd:FuncData):Prop where
 ex:∃ (oc:Value) (od:Option Addr) (kV doc pm:Value) (an:Option Addr) (cdv ct:Value) (osl:Array (Option Value)),
  fd=PySem.W.fnOf x qual (wW st) (xR st) (zK st) .none kV doc pm an cdv ct/\K.lookup f=some ⟨oc,od,.func fd,osl⟩/\PySem.W.codeIn K cdv qual=true
 kp:PySem.W.keepIn K (.ref f)=true
section
variable {P:Program} {w:World} {K:PySem.W.Frag} {mg:Str->Option Value} {base:Heap}
theorem zg.ok {x qual:Str} {st:Stmt} {f:Addr} {fd:FuncData} {N ps:List Str} {k:Nat} {sp:Sp} (F:zg K x qual st f fd) (S:ze N ps (zK st)) (len:∀ vs H Q E,sp vs H Q E->vs.length=ps.length)
  (hbody:∀ (cdv:Value) (A:Around) (outer:List Env) (s:Shared) (H:Hp) (vs:List V) (Q:VK) (E:XK),zc k (A.deeper (envOfC qual (zK st) s.heap.objs.size f cdv))->sp vs H Q E->
   ∃ t,yc (xN zW P w K mg base N qual (zK st) f cdv A outer s H E).nox (xR st) t/\t { nx:=λ_ H'=>Q .non H',rt:=Q } (xl N vs) H):zF P w K mg base zW (k + 1) f fd ps sp:=by
 obtain ⟨oc,od,kV,doc,pm,an,cdv,ct,osl,rfl,lk,hcd⟩:=F.ex
 refine Ko lk hcd S len λA outer s H vs Q E hr hsp=>?_
 obtain ⟨t,h,q⟩:=hbody cdv A outer s H vs Q E hr hsp
 exact ⟨t,h.nox,q⟩
theorem zg.binds {x qual:Str} {st:Stmt} {f:Addr} {fd:FuncData} {ps:List Str} (F:zg K x qual st f fd)
  (h:∀ (kV doc pm:Value) (an:Option Addr) (cdv ct:Value) (us:List Value),us.length=ps.length->bindArgs (PySem.W.fnOf x qual (wW st) (xR st) (zK st) .none kV doc pm an cdv ct) ⟨us,[]⟩=pure (ps.zip us)):ww K fd ps []:=by
 obtain ⟨oc,od,kV,doc,pm,an,cdv,ct,osl,rfl,lk,hcd⟩:=F.ex
 exact .all (h kV doc pm an cdv ct)
theorem K1 {x qual:Str} {st:Stmt} {f:Addr} {oc:Value} {od an:Option Addr} {osl:Array (Option Value)} {kV doc pm cdv ct:Value} (l:K.lookup f=some ⟨oc,od,.func (PySem.W.fnOf x qual (wW st) (xR st) (zK st) .none kV doc pm an cdv ct),osl⟩)
  (c:PySem.W.codeIn K cdv qual=true) (k:PySem.W.keepIn K (.ref f)=true):zg K x qual st f (PySem.W.fnOf x qual (wW st) (xR st) (zK st) .none kV doc pm an cdv ct):=⟨⟨oc,od,kV,doc,pm,an,cdv,ct,osl,rfl,l,c⟩,k⟩
end
theorem qL {n:Nat} (h:n<=1000):n < sizeLine:=Nat.lt_of_le_of_lt h (by decide)
section
variable {X:Cx}
end
def zD (H H':Hp):Prop:=∀ b o,H b=some o->H' b=some o
theorem zD.refl (H:Hp):zD H H:=λ_ _ h=>h
theorem zD.trans {H H1 H2:Hp} (a:zD H H1) (b:zD H1 H2):zD H H2:=λc o h=>b c o (a c o h)
theorem zD.free {H H':Hp} (e:zD H H') {l:Addr} (h:H' l=Option.none):H l=Option.none:=by
 cases q:H l with
 | none=>rfl
 | some o=>
  rw [e l o q] at h
  cases h
end L2
set_option maxHeartbeats 4000000
namespace Sh
def vk (ns:List Int):Int:=ns.foldl (λc n=>(Int.gcd c n:Int)) 0
theorem zIh (ns:List Int) (n:Int):vk (ns++[n])=(Int.gcd (vk ns) n:Int):=by
 unfold vk
 rw [List.foldl_append]
 rfl
theorem zHN (ns:List Int):0<=vk ns:=by
 rcases List.eq_nil_or_concat ns with rfl | ⟨l,a,rfl⟩
 ·exact Int.le_refl 0
 ·rw [List.concat_eq_append,zIh]
  exact Int.natCast_nonneg _
def cm (t b:Int):Int:=if b < 0 then -(Int.gcd t b:Int) else (Int.gcd t b:Int)
def Ub (t b:Int):Int:=t.fdiv (cm t b)
def Uc (t b:Int):Int:=b.fdiv (cm t b)
end Sh
namespace Sh
def zQ1 (st:Int × Int) (p:Int × Int × Int):Int × Int:=(st.1 * p.2.2 + p.1 * p.2.1 * st.2,st.2 * p.2.2)
def jo (ws:List Int) (pts:List (Int × Int)):Int × Int:=(ws.zip pts).foldl zQ1 (0,1)
end Sh
namespace Sh
def k7 (ws:List Int):List Int:=ws.map (·.fdiv (vk ws))
section
variable {β γ:Type}
def look (m:List (List Int × β)) (k:List Int):Option β:=(m.find? λkv=>decide (kv.1=k)).map (·.2)
def put (m:List (List Int × β)) (k:List Int) (v:β):List (List Int × β):=
 if (m.any λkv=>decide (kv.1=k))=true then m.map (λkv=>if kv.1=k then (kv.1,v) else kv) else m++[(k,v)]
theorem Xd (m:List (List Int × β)) (k:List Int):(m.any λkv=>decide (kv.1=k))=(look m k).isSome:=by
 induction m with
 | nil=>rfl
 | cons p r ih=>
  unfold look at ih |-
  rw [List.any_cons,List.find?_cons,ih]
  by_cases e:p.1=k
  ·rw [decide_eq_true e]; rfl
  ·rw [decide_eq_false e]; rfl
theorem Xe {m:List (List Int × β)} {k:List Int} (h:look m k=none):∀ p∈m,p.1≠k:=by
 intro p hp e
 have a:(m.any λkv=>decide (kv.1=k))=true:=List.any_eq_true.mpr ⟨p,hp,decide_eq_true e⟩
 rw [Xd,h] at a
 cases a
theorem K2 {m:List (List Int × β)} {k:List Int} {v:β} {p:List Int × β} (h:p∈put m k v):p=(k,v)\/p∈m:=by
 unfold put at h
 split at h
 ·obtain ⟨q,hq,e⟩:=List.mem_map.mp h
  by_cases c:q.1=k
  ·rw [if_pos c] at e
   exact .inl (by rw [<- e,c])
  ·rw [if_neg c] at e
   exact .inr (e ▸ hq)
 ·rcases List.mem_append.mp h with h | h
  ·exact .inr h
  ·exact .inl (List.mem_singleton.mp h)
theorem zNP (m:List (List Int × β)) (k:List Int) (v:β):(put m k v).map (·.1)=if (look m k).isSome=true then m.map (·.1) else m.map (·.1)++[k]:=by
 unfold put
 rw [Xd]
 split
 ·rw [List.map_map]
  refine List.map_congr_left λp _=>?_
  show (if p.1=k then (p.1,v) else p).1=p.1
  split <;> rfl
 ·rw [List.map_append]
  rfl
theorem zLW {m:List (List Int × β)} (k:List Int) (v:β) (h:(m.map (·.1)).Nodup):((put m k v).map (·.1)).Nodup:=by
 rw [zNP]
 split
 ·exact h
 ·rename_i c
  have n:look m k=none:=by
   cases e:look m k with
   | none=>rfl
   | some u=>rw [e] at c; exact absurd rfl c
  refine List.nodup_append.mpr ⟨h,by simp,λa ha b hb e=>?_⟩
  obtain ⟨p,hp,e1⟩:=List.mem_map.mp ha
  rw [List.mem_singleton.mp hb] at e
  exact Xe n p hp (e1.trans e)
theorem zNM (f:β->γ) (m:List (List Int × β)) (k:List Int):look (m.map λp=>(p.1,f p.2)) k=(look m k).map f:=by
 unfold look
 rw [List.find?_map]
 show Option.map _ (Option.map _ (m.find? λkv=>decide (kv.1=k)))=_
 cases m.find? λkv=>decide (kv.1=k) with
 | none=>rfl
 | some p=>rfl
theorem Ud (f:β->γ) (m:List (List Int × β)) (k:List Int) (v:β):put (m.map λp=>(p.1,f p.2)) k (f v)=(put m k v).map λp=>(p.1,f p.2):=by
 unfold put
 rw [Xd,Xd,zNM,Option.isSome_map]
 split
 ·rw [List.map_map,List.map_map]
  refine List.map_congr_left λp _=>?_
  show (if p.1=k then (p.1,f v) else (p.1,f p.2))=_
  by_cases c:p.1=k
  ·rw [if_pos c]
   show _=(((if p.1=k then (p.1,v) else p).1),f (if p.1=k then (p.1,v) else p).2)
   rw [if_pos c]
  ·rw [if_neg c]
   show _=(((if p.1=k then (p.1,v) else p).1),f (if p.1=k then (p.1,v) else p).2)
   rw [if_neg c]
 ·rw [List.map_append]
  rfl
end
abbrev k8:=List (List Int × (List Int × Int)) × Option (List Int)
def K3 (st:k8) (r:List Int × Int):k8:=
 if vk r.1≠0 then
  match look st.1 (k7 r.1) with
  | none=>(put st.1 (k7 r.1) r,st.2)
  | some o=>if r.2 * vk o.1 < o.2 * vk r.1 then (put st.1 (k7 r.1) r,st.2) else st
 else if r.2 < 0 then (st.1,some r.1) else st
structure gL (st:k8):Prop where
 g0:∀ p∈st.1,0 < vk p.2.1
 way:∀ p∈st.1,p.1=k7 p.2.1
 nd:(st.1.map (·.1)).Nodup
 z:∀ ws,st.2=some ws->vk ws=0
theorem Ue {ws:List Int} (h:vk ws≠0):0 < vk ws:=by
 have:=zHN ws
 omega
theorem gL.put {st:k8} (h:gL st) {r:List Int × Int} (g:vk r.1≠0):gL (Sh.put st.1 (k7 r.1) r,st.2):=by
 refine ⟨λp hp=>?_,λp hp=>?_,zLW _ _ h.nd,h.z⟩
 ·rcases K2 hp with e | hp
  ·rw [e]; exact Ue g
  ·exact h.g0 p hp
 ·rcases K2 hp with e | hp
  ·rw [e]
  ·exact h.way p hp
theorem gL.step {st:k8} (h:gL st) (r:List Int × Int):gL (K3 st r):=by
 unfold K3
 split
 ·rename_i g
  split
  ·exact h.put g
  ·split
   ·exact h.put g
   ·exact h
 ·rename_i g
  have g0:vk r.1=0:=Decidable.of_not_not g
  split
  ·refine ⟨h.g0,h.way,h.nd,λws e=>?_⟩
   cases e
   exact g0
  ·exact h
section
variable (num:List Int->Int) (den:Int)
def hl (r:List Int × Int):Bool:=decide (num r.1<=r.2 * den)
variable (hden:0 < den) (lin:∀ (ws:List Int) (c:Int),num (ws.map (· * c))=num ws * c)
include hden lin
end
end Sh
namespace L2
open PySem
def uV (env:Env) (cs:List (Str × Addr)) (p:Str × NameKind):List (Str × Addr):=if (p.2 == .free)=true then (p.1,(env.cells.lookup p.1).getD 0) :: cs else cs
def wX (scope:Scope) (env:Env):List (Str × Addr):=scope.names.foldl (uV env) []
theorem zKB {env:Env}:∀ (names:List (Str × NameKind)) (cs:List (Str × Addr)),(∀ p∈names,p.2=.free->(env.cells.lookup p.1).isSome=true)->
  (forIn names cs (λ(p:Str × NameKind) (r:List (Str × Addr))=>(if (p.2 == .free)=true then do let a <- cellOf env p.1; pure (ForInStep.yield ((p.1,a) :: r)) else pure (ForInStep.yield r):Sem (ForInStep (List (Str × Addr))))))=pure (names.foldl (uV env) cs):=by
 intro names
 induction names with
 | nil=>intro cs _; rfl
 | cons p r ih=>
  intro cs h
  obtain ⟨n,k⟩:=p
  rw [List.forIn_cons]
  by_cases hk:k=.free
  ·subst hk
   obtain ⟨c,hc⟩:=Option.isSome_iff_exists.mp (h (n,.free) List.mem_cons_self rfl)
   have e:cellOf env n=pure c:=by unfold cellOf; dsimp only at hc; rw [hc]
   have z:uV env cs (n,.free)=(n,c) :: cs:=by unfold uV; dsimp only at hc |-; rw [hc]; rfl
   simp only [e,beq_self_eq_true,if_true,pure_bind,List.foldl_cons,z]
   exact ih _ λq hq=>h q (List.mem_cons_of_mem _ hq)
  ·have b:(k == NameKind.free)=false:=by simpa using hk
   have z:uV env cs (n,k)=cs:=by unfold uV; dsimp only; rw [b]; rfl
   simp only [b,Bool.false_eq_true,if_false,pure_bind,List.foldl_cons,z]
   exact ih _ λq hq=>h q (List.mem_cons_of_mem _ hq)
theorem Uf {scope:Scope} {env:Env} (h:∀ p∈scope.names,p.2=.free->(env.cells.lookup p.1).isSome=true):closureFor scope env=pure (wX scope env):=by
 unfold closureFor wX
 have:=zKB scope.names [] h
 exact (congrArg (λm=>m >>= λr=>pure r) this).trans rfl
theorem zL8 {env:Env}:∀ (names:List (Str × NameKind)) (cs:List (Str × Addr)) (x:Str) (c:Addr),(x,c)∈names.foldl (uV env) cs->(x,c)∈cs\/((x,NameKind.free)∈names/\c=(env.cells.lookup x).getD 0):=by
 intro names
 induction names with
 | nil=>intro cs x c h; exact .inl h
 | cons p r ih=>
  intro cs x c h
  obtain ⟨n,k⟩:=p
  rw [List.foldl_cons] at h
  rcases ih _ x c h with h1 | ⟨h1,h2⟩
  ·unfold uV at h1
   dsimp only at h1
   by_cases hk:k=.free
   ·subst hk
    simp only [beq_self_eq_true,if_true] at h1
    rcases List.mem_cons.mp h1 with e | h1
    ·injection e with e1 e2
     subst e1; subst e2
     exact .inr ⟨List.mem_cons_self,rfl⟩
    ·exact .inl h1
   ·have b:(k == NameKind.free)=false:=by simpa using hk
    simp only [b,Bool.false_eq_true,if_false] at h1
    exact .inl h1
  ·exact .inr ⟨List.mem_cons_of_mem _ h1,h2⟩
theorem gM {α β:Type} [BEq α] [LawfulBEq α]:∀ {l:List (α × β)} {a:α} {b:β},l.lookup a=some b->(a,b)∈l
 | [],_,_,h=>by simp at h
 | (x,y) :: r,a,b,h=>by
  rw [List.lookup_cons] at h
  by_cases e:a=x
  ·subst e
   simp only [beq_self_eq_true,if_true] at h
   cases h
   exact List.mem_cons_self
  ·have:(a == x)=false:=by simpa using e
   simp only [this] at h
   exact List.mem_cons_of_mem _ (gM h)
theorem K4 {α β:Type} [BEq α] [LawfulBEq α]:∀ {l:List (α × β)} {a:α} {b:β},(a,b)∈l->∃ c,l.lookup a=some c
 | [],_,_,h=>by cases h
 | (x,y) :: r,a,b,h=>by
  rw [List.lookup_cons]
  by_cases e:a=x
  ·subst e
   exact ⟨y,by simp⟩
  ·have z:(a == x)=false:=by simpa using e
   rcases List.mem_cons.mp h with q | q
   ·injection q with q1 _; exact absurd q1 e
   ·obtain ⟨c,hc⟩:=K4 q
    exact ⟨c,by simp only [z]; exact hc⟩
theorem zL9 {env:Env}:∀ (names:List (Str × NameKind)) (cs:List (Str × Addr)) (x:Str),((x,NameKind.free)∈names\/∃ c,(x,c)∈cs)->∃ c,(x,c)∈names.foldl (uV env) cs:=by
 intro names
 induction names with
 | nil=>
  intro cs x h
  rcases h with h | h
  ·cases h
  ·exact h
 | cons p r ih=>
  intro cs x h
  rw [List.foldl_cons]
  refine ih _ x ?_
  rcases h with h | ⟨c,h⟩
  ·rcases List.mem_cons.mp h with e | h
   ·subst e
    exact .inr ⟨_,by unfold uV; simp only [beq_self_eq_true,if_true]; exact List.mem_cons_self⟩
   ·exact .inl h
  ·refine .inr ⟨c,?_⟩
   unfold uV
   split
   ·exact List.mem_cons_of_mem _ h
   ·exact h
theorem qM {scope:Scope} {env:Env} (h:∀ p∈scope.names,p.2=.free->(env.cells.lookup p.1).isSome=true) {x:Str} {c:Addr} (e:(wX scope env).lookup x=some c) :
  env.cells.lookup x=some c/\(x,NameKind.free)∈scope.names:=by
 rcases zL8 scope.names [] x c (gM e) with z | ⟨z,q⟩
 ·cases z
 ·obtain ⟨d,hd⟩:=Option.isSome_iff_exists.mp (h _ z rfl)
  dsimp only at hd
  rw [hd] at q
  exact ⟨by rw [hd,q]; rfl,z⟩
theorem Ug {scope:Scope} {env:Env} {x:Str} (h:(x,NameKind.free)∈scope.names):∃ c,(wX scope env).lookup x=some c:=by
 obtain ⟨c,hc⟩:=zL9 (env:=env) scope.names [] x (.inl h)
 exact K4 hc
theorem K5 {scope:Scope} {env:Env} {x:Str} {k:NameKind} (h:(relabel scope env).names.lookup x=some k):(k=.cell/\((x,NameKind.free)∈scope.names\/(x,NameKind.cell)∈scope.names))\/(x,k)∈scope.names:=by
 have m:=gM h
 unfold relabel at m
 obtain ⟨⟨n,j⟩,hm,e⟩:=List.mem_map.mp m
 dsimp only at e
 split at e
 ·rename_i q
  injection e with e1 e2
  subst e1; subst e2
  have q1:j=NameKind.free:=by
   have:=(Bool.and_eq_true_iff.mp (Bool.and_eq_true_iff.mp q).1).1
   exact eq_of_beq this
  subst q1
  exact .inl ⟨rfl,.inl hm⟩
 ·injection e with e1 e2
  subst e1; subst e2
  exact .inr hm
end L2
namespace L2
open PySem
section
variable {prog:Program} {w:World} {A:Around} {R:Result->Shared->Prop} {s:Shared}
theorem zKA {elt target iter:Expr} {scope:Scope} {pos:Pos} {it acc:Value} {env:Env} (Wd:Nat->Shared->Prop)
  (turn:∀ n s,Wd n s->wpAny (model prog w) A (pyNext it) (λr s1=>match r with
   | none=>R (.ok .next) s1
   | some v=>wpAny (model prog w) A (letOwnedTupleGo target it v) (λ_ s2=>wpAny (model prog w) A (assign target env v) (λ_ s3=>wpAny (model prog w) A (eval elt env) (λx s4=>
     wpAny (model prog w) A (call (.builtin "list.append") [acc,x]) (λ_ s5=>∃ m,m < n/\Wd m s5) (λ_ _=>False) s4) (λ_ _=>False) s3) (λ_ _=>False) s2) (λ_ _=>False) s1) (λ_ _=>False) s)
  (n:Nat) (h:Wd n s):codeAny (model prog w) A (.compLoop (.ListComp elt [⟨target,iter,[],0⟩] scope pos) 0 it acc env) R s:=by
 refine codeAny_loop rfl Wd (λn s hI=>?_) n h
 show wpAny _ _ (Sem.onRaise (compTurn (.ListComp elt [⟨target,iter,[],0⟩] scope pos) 0 it acc env) _) _ _ s
 refine wpAny_noted ?_
 rw [compTurn_list1]
 refine wpAny_bind (wpAny_standAt (wpAny_bind (wpAny_mono (turn n s hI) (λr s1 h1=>?_) λ_ _ z=>False.elim z)))
 cases r with
 | none=>exact wpAny_pure h1
 | some v=>
  refine wpAny_bind (wpAny_mono h1 (λ_ s2 h2=>?_) λ_ _ z=>False.elim z)
  refine wpAny_bind (wpAny_mono h2 (λ_ s3 h3=>?_) λ_ _ z=>False.elim z)
  refine wpAny_bind (wpAny_bind (wpAny_mono h3 (λx s4 h4=>?_) λ_ _ z=>False.elim z))
  exact wpAny_bind (wpAny_mono h4 (λ_ s5 h5=>wpAny_pure (wpAny_pure ⟨rfl,h5⟩)) λ_ _ z=>False.elim z)
end
end L2
namespace L2
open PySem PySem.Spec PyProof.Rows
def Bd (n:Nat) (i:Int):Prop:=i.natAbs < 2 ^ n
theorem Bd.mono {n m:Nat} {i:Int} (h:Bd n i) (k:n<=m:=by decide):Bd m i:=Nat.lt_of_lt_of_le h (Nat.pow_le_pow_right (by decide) k)
theorem Bd.of_le {n:Nat} {i j:Int} (h:Bd n j) (k:i.natAbs<=j.natAbs):Bd n i:=Nat.lt_of_le_of_lt k h
theorem Bd.mul {n m:Nat} {i j:Int} (h:Bd n i) (k:Bd m j):Bd (n + m) (i * j):=by
 unfold Bd
 rw [Int.natAbs_mul,Nat.pow_add]
 rcases Nat.eq_zero_or_pos j.natAbs with z | z
 ·rw [z,Nat.mul_zero]
  exact Nat.mul_pos (Nat.two_pow_pos _) (Nat.two_pow_pos _)
 ·exact Nat.lt_of_lt_of_le (Nat.mul_lt_mul_of_pos_right h z) (Nat.mul_le_mul_left _ (Nat.le_of_lt k))
theorem Bd.add {n:Nat} {i j:Int} (h:Bd n i) (k:Bd n j):Bd (n + 1) (i + j):=by
 have h':i.natAbs < 2 ^ n:=h
 have k':j.natAbs < 2 ^ n:=k
 unfold Bd
 rw [Nat.pow_succ]
 have:=Int.natAbs_add_le i j
 omega
theorem Bd.neg {n:Nat} {i:Int} (h:Bd n i):Bd n (-i):=by
 unfold Bd
 rw [Int.natAbs_neg]
 exact h
theorem Bd.sub {n:Nat} {i j:Int} (h:Bd n i) (k:Bd n j):Bd (n + 1) (i - j):=by
 rw [Int.sub_eq_add_neg]
 exact h.add k.neg
theorem Bd.lit {n:Nat} {i:Int} (h:i.natAbs < 2 ^ n:=by decide):Bd n i:=h
theorem Bd.bits {n:Nat} {i:Int} (h:Bd n i):Builtin.Int.intBits i<=n:=by
 have h':i.natAbs < 2 ^ n:=h
 unfold Builtin.Int.intBits
 split
 ·exact Nat.zero_le _
 ·rename_i z
  have nz:i.natAbs≠0:=by
   intro q
   apply z
   rw [Int.natAbs_eq_zero.mp q]
   rfl
  exact (Nat.log2_lt nz).mpr h'
theorem Bd.fdiv {n:Nat} {i:Int} (h:Bd n i) (j:Int):Bd n (i.fdiv j):=
 h.of_le (Int.natAbs_fdiv_le_natAbs i j)
def Xf (i j:Int):Prop:=Bd 60000 i/\Bd 60000 j
def K6 (_ j:Int):Prop:=j≠0/\Bd 8000 j
section
variable {X:Cx}
theorem Xf.ok {i j:Int} (h:Xf i j):IntMulOk i j:=by
 have h1:=h.1.bits
 have h2:=h.2.bits
 have hc:Builtin.Int.intTooBig (Builtin.Int.intBits i + Builtin.Int.intBits j)=false:=by
  unfold Builtin.Int.intTooBig
  rw [bitsLine_eq]
  exact decide_eq_false (by omega)
 unfold IntMulOk
 rw [hc]
 simp
theorem zOn:ye X (binaryOp .Mult) (rI Xf λi j=>.int (i * j)):=XX λ_ _ _ _ _ _ _ hc q=>mul_int q hc.ok
theorem zM6:ye X (binaryOp .FloorDiv) (rI K6 λi j=>.int (i.fdiv j)):=XX λ_ _ _ _ _ _ _ hc q=>by
 refine floordiv_int hc.1 q (.inl (PyProof.noPylong_of_log2 ?_))
 have h':_ < 2 ^ 8000:=hc.2
 have nz:_≠0:=λz=>hc.1 (Int.natAbs_eq_zero.mp z)
 exact Nat.lt_trans ((Nat.log2_lt nz).mpr h') (by decide)
end
section
variable {X:Cx}
def K7 (K:PySem.W.Frag):List V->Hp->VK->Prop:=λxs H Q=>∃ x c t b,xs=[x,.ty c]/\yV K H x t/\PySem.W.kitOne K t (.type c)=some b/\Q (.bl b) H
theorem wQ:wv X (.builtin "isinstance") (K7 X.K):=by
 intro pins s σ H xs us Q I r h
 obtain ⟨x,c,t,b,rfl,ty,e,q⟩:=h
 obtain ⟨u,v,rfl,ru,rv⟩:=kf r
 cases (show v=Value.type c from rv)
 exact Kc I ru ty e λtk=>⟨.bl b,H,I.tok tk,rfl,q⟩
end
mutual
inductive Dp (K:PySem.W.Frag) (H:Hp):V->PyData->Prop where
 | non:Dp K H .non .none
 | bl (b:Bool):Dp K H (.bl b) (.bool b)
 | int (i:Int):Dp K H (.int i) (.int i)
 | str (x:Str):Dp K H (.str x) (.str x)
 | lst {a:Addr} {xs:List V} {ds:List PyData} (e:zT K H a xs) (h:uW K H xs ds):Dp K H (.ref a) (.list ds)
 | tup {a:Addr} {xs:List V} {ds:List PyData} (e:yN K H a xs) (h:uW K H xs ds):Dp K H (.ref a) (.tuple ds)
inductive uW (K:PySem.W.Frag) (H:Hp):List V->List PyData->Prop where
 | nil:uW K H [] []
 | cons {x:V} {xs:List V} {d:PyData} {ds:List PyData} (h:Dp K H x d) (t:uW K H xs ds):uW K H (x :: xs) (d :: ds)
end
section
variable {X:Cx} {pins:List (Addr × Obj)} {σ:St} {H:Hp} {s:Shared}
mutual
theorem Dp.reads (I:zG X pins σ H s):∀ {x:V} {d:PyData} {u:Value},Dp X.K H x d->zV x u->∃ as,Reads s.heap u d as
 | _,_,_,.non,r=>by cases r; exact ⟨_,.none⟩
 | _,_,_,.bl b,r=>by cases r; exact ⟨_,.bool b⟩
 | _,_,_,.int i,r=>by obtain ⟨t,rfl⟩:=r; exact ⟨_,.int i t⟩
 | _,_,_,.str x,r=>by obtain ⟨t,rfl⟩:=r; exact ⟨_,.str x t⟩
 | _,_,_,.lst e h,r=>by
  cases r
  obtain ⟨its,rv,⟨o,n,e1,e2,_,e3⟩,_⟩:=I.list e
  obtain ⟨as,q⟩:=uW.reads I h rv
  exact ⟨_,.list e1 e2 e3 (by simpa using q)⟩
 | _,_,_,.tup e h,r=>by
  cases r
  obtain ⟨its,rv,⟨o,e1,e2,n,e3⟩,_⟩:=I.tuple e
  obtain ⟨as,q⟩:=uW.reads I h rv
  exact ⟨_,.tuple e1 e2 e3 (by simpa using q)⟩
theorem uW.reads (I:zG X pins σ H s):∀ {xs:List V} {ds:List PyData} {us:List Value},uW X.K H xs ds->zR xs us->∃ as,ReadsAll s.heap us ds as
 | _,_,_,.nil,r=>by cases r; exact ⟨_,.nil⟩
 | _,_,_,.cons h t,r=>by
  cases r with
  | cons r1 r2=>
   obtain ⟨_,q1⟩:=Dp.reads I h r1
   obtain ⟨_,q2⟩:=uW.reads I t r2
   exact ⟨_,.cons q1 q2⟩
end
end
section
variable {X:Cx}
end
section
variable {X:Cx}
theorem wy (hc:X.calm=true):wv X (.builtin "all") (λxs H Q=>∃ (p:Addr) (bs:List Bool),xs=[.ref p]/\zT X.K H p (bs.map V.bl)/\Q (.bl (bs.all id)) H):=by
 intro pins s σ H xs us Q I r h
 obtain ⟨p,bs,rfl,hq,q⟩:=h
 obtain ⟨u,rfl,ru⟩:=jF r
 cases ru
 obtain ⟨its,rv,pl,hz⟩:=I.list hq
 have hh:X.A.in1.handled=none:=I.ok.hd hc
 have hlt:p < s.heap.objs.size:=by obtain ⟨o,n,e,_⟩:=pl; exact Heap.lt_size e
 refine call_all_walk (wpAny_pyIter_list pl.isList ?_)
 have hlen:its.length=bs.length:=by rw [<- rv.length,List.length_map]
 refine ⟨s.heap.objs.size,_,_,_,_,_,λi=>bs.getD i true,rfl,Walks.list hh s.heap.objs.size p (Nat.ne_of_lt hlt) its.toArray,⟨⟨_,Heap.get?_push_size _ rfl,rfl,rfl⟩,pl.isList.push _⟩,?_,λh' tk kk=>?_⟩
 ·intro i v s' Q' E' hP hQ'
  have e1:its[i]? = some v:=by simpa using hP
  have hi:i < its.length:=(List.getElem?_eq_some_iff.mp e1).1
  have hb:(bs.map V.bl)[i]? = some (.bl (bs.getD i true)):=by
   rw [List.getElem?_map,List.getElem?_eq_getElem (by omega),List.getD_eq_getElem?_getD,List.getElem?_eq_getElem (by omega)]
   rfl
  obtain ⟨u',e2,r2⟩:=rv.get hb
  rw [e1] at e2
  cases e2
  cases r2
  exact wpAny_truthy_bool hQ'
 ·have e:(List.range its.toArray.size).all (λi=>bs.getD i true)=bs.all id:=by
   rw [List.size_toArray,hlen]
   rw [Bool.eq_iff_iff,List.all_eq_true,List.all_eq_true]
   constructor
   ·intro z b hb
    obtain ⟨i,hi,rfl⟩:=List.mem_iff_getElem.mp hb
    have:=z i (List.mem_range.mpr hi)
    rw [List.getD_eq_getElem?_getD,List.getElem?_eq_getElem hi] at this
    exact this
   ·intro z i hi
    have hi':=List.mem_range.mp hi
    rw [List.getD_eq_getElem?_getD,List.getElem?_eq_getElem hi']
    exact z _ (List.getElem_mem hi')
  refine ⟨.bl (bs.all id),H,I.kept (h':=h') (t':=tk) λb o eb=>kk b o ?_ (Heap.get?_push_of_some _ eb),?_,q⟩
  ·intro hb
   have:b=s.heap.objs.size:=by simpa using hb
   rw [this] at eb
   exact absurd (Heap.lt_size eb) (Nat.lt_irrefl _)
  ·rw [e]
   rfl
end
end L2
namespace L2
open PySem PySem.Spec PyProof.Rows
def wY (own:List Str) (caps:List (Nat × Str)) (σ:St):St:=own.map (λ_=>none)++caps.map λp=>(σ[p.1]?).getD none
abbrev zb (own:List Str) (caps:List (Nat × Str)):List Str:=own++caps.map (·.2)
theorem K8 {scope:Scope} {env:Env} {x:Str}:(relabel scope env).names.lookup x=(scope.names.lookup x).map λk=>if (k == .free && env.scope.kind == .function && env.kindOf x == some .cell)=true then .cell else k:=by
 unfold relabel
 generalize scope.names=l
 induction l with
 | nil=>rfl
 | cons p r ih=>
  obtain ⟨n,k⟩:=p
  rw [List.map_cons]
  by_cases e:x=n
  ·subst e
   by_cases c:(k == NameKind.free && env.scope.kind == .function && env.kindOf x == some .cell)=true
   ·simp only [c,if_true,List.lookup_cons,beq_self_eq_true,Option.map_some]
   ·simp only [c,if_false,List.lookup_cons,beq_self_eq_true,Option.map_some,Bool.false_eq_true]
  ·have z:(x == n)=false:=by simpa using e
   dsimp only
   split <;> simp only [List.lookup_cons,z] <;> exact ih
def Xg (J:It) (g:TG) (te:TE) (Q:VK) (σ0:St) (H1:Hp):Prop:=∃ W:Nat->Nat->List V->St->Hp->Prop,(∃ m,W 0 m [] σ0 H1)∧
 ∀ i m ys σ1 H,W i m ys σ1 H->(J.stop i H/\∀ p,H p=none->Q (.ref p) (zY H p (.lst ys)))∨
  (J.go i H/\ys.length < sizeLine/\∃ N:V->St->Hp->Prop,(∀ y σ' H',N y σ' H'->∃ m',m' < m/\W (i + 1) m' (ys++[y]) σ' H')/\∀ x H',J.yld i H x H'->g x σ1 H' λσ2 H2=>te σ2 H2 λy H3=>N y σ2 H3)
def K9 (own:List Str) (caps:List (Nat × Str)) (wi:TI) (g:TG) (te:TE):TE:=λσ H Q=>wi σ H λJ H1=>Xg J g te Q (wY own caps σ) H1
section
variable {X:Cx} {scope:Scope} {own:List Str} {caps:List (Nat × Str)} {pins:List (Addr × Obj)} {σ:St} {H:Hp} {s s4:Shared} {C D:Addr} {fp:List Addr}
theorem zNd {i:Nat} {x:Str} {v:V} (h1:(zb own caps)[i]? = some x) (h2:(wY own caps σ)[i]? = some (some v)):∃ j,(j,x)∈caps/\σ[j]? = some (some v):=by
 unfold wY at h2
 by_cases hi:i < own.length
 ·rw [List.getElem?_append_left (by simpa using hi),List.getElem?_map] at h2
  cases e:own[i]? with
  | none=>rw [e] at h2; cases h2
  | some a=>rw [e] at h2; cases h2
 ·rw [List.getElem?_append_right (by simpa using hi),List.length_map,List.getElem?_map] at h2
  unfold zb at h1
  rw [List.getElem?_append_right (by omega),List.getElem?_map] at h1
  cases e:caps[i - own.length]? with
  | none=>rw [e] at h1; cases h1
  | some p=>
   obtain ⟨j,n⟩:=p
   rw [e] at h1 h2
   cases h1
   refine ⟨j,List.mem_of_getElem? e,?_⟩
   simp only [Option.map_some,Option.some.injEq] at h2
   cases q:σ[j]? with
   | none=>rw [q] at h2; cases h2
   | some o=>rw [q] at h2; exact congrArg some h2
abbrev yr (its:List Value) (k:Nat):Obj:={ cls:=.type "list",data:=.seq its.toArray k }
theorem zJO {Y:Cx} {its:List Value} {k:Nat} {y:Value} {pl:List (Addr × Obj)} {Q:Value->Shared->Prop} {E:Value->Shared->Prop} (I:zG Y ((D,yr its k) :: pl) σ H s) (hn:yY Y [] H D) (hp:Y.pn=[]) (hz:its.length<=sizeLine)
  (q:∀ h' k' tk,(∀ b o,b≠D->s.heap.get? b=some o->h'.get? b=some o)->zG Y [(D,yr (its++[y]) k')] σ H { s with heap:=h',toks:=tk }->Q .none { s with heap:=h',toks:=tk }) :
  wpAny (model Y.prog Y.w) Y.A (call (.builtin "list.append") [.ref D,y]) Q E s:=by
 have pD:=I.pin (D,yr its k) (List.mem_append_right _ List.mem_cons_self)
 have e:s.heap.get? D=some (yr its k):=pD.1
 refine call_meets F.slot_list_append ⟨_,e,rfl⟩ F.entry_list_append (F.args_list_append_2 _ _) (PySem.list_append D its.toArray k y (by rw [List.size_toArray]; exact hz)) ⟨e,?_⟩
 have e2:=PySem.IsL.update e (·.push y)
 have ea:its.toArray.push y=(its++[y]).toArray:=by simp
 have keep:∀ b o,b≠D->s.heap.get? b=some o->(s.heap.update D (Obj.mapSeq (·.push y))).get? b=some o:=λb o hb eb=>(Heap.get?_update_other s.heap _ (Ne.symm hb)).trans eb
 have I0:zG Y [] σ H s:=I.pins_of λp hp'=>by cases hp'
 have I1:zG Y [] σ H { s with heap:=s.heap.update D (Obj.mapSeq (·.push y)),toks:=s.toks }:=I0.turned keep hn.1 hn.2.1 hn.2.2.2.1 hn.2.2.2.2.1 hn.2.2.2.2.2
 have e3:(s.heap.update D (Obj.mapSeq (·.push y))).get? D=some (yr (its++[y]) _):=e2.trans (by rw [ea])
 have I2:zG Y [(D,yr (its++[y]) (if ((its++[y]).toArray.size == its.toArray.size)=true then k else k + 1))] σ H { s with heap:=s.heap.update D (Obj.mapSeq (·.push y)),toks:=s.toks }:=I1.pins_of λp hp'=>by
  rw [List.mem_singleton.mp hp']
  exact ⟨e3,hn.1,hn.2.1,hn.2.2.1,λv z=>by cases z⟩
 exact q _ _ s.toks keep I2
end
section
variable {X:Cx} {scope:Scope} {own:List Str} {caps:List (Nat × Str)} {elt tg iter:Expr} {wi:TI} {g:TG} {te:TE} {pos:Pos}
end
end L2
namespace L2
open PySem PySem.Spec PyProof.Rows
theorem zL6 {K:PySem.W.Frag} {a:Addr} {xs:List V} {g:TG} {te:TE} {σ0:St} {H:Hp} {Q:VK} (Pv:Nat->List V->St->Hp->Prop) (h0:Pv 0 [] σ0 H) (hl:∀ i ys σ H,i<=xs.length->Pv i ys σ H->zT K H a xs/\ys.length<=i) (hz:xs.length<=sizeLine)
  (hs:∀ i x ys σ H,xs[i]? = some x->Pv i ys σ H->g x σ H λσ2 H2=>te σ2 H2 λy H3=>Pv (i + 1) (ys++[y]) σ2 H3)
  (hd:∀ ys σ H,Pv xs.length ys σ H->∀ p,H p=none->Q (.ref p) (zY H p (.lst ys))) :
  Xg (jj K a) g te Q σ0 H:=by
 refine ⟨λi m ys σ H=>m=xs.length - i/\i<=xs.length/\Pv i ys σ H,⟨xs.length,by simp,Nat.zero_le _,h0⟩,?_⟩
 rintro i m ys σ H ⟨rfl,hi,p⟩
 obtain ⟨q,hy⟩:=hl i ys σ H hi p
 by_cases hlt:i < xs.length
 ·refine .inr ⟨⟨xs,xs[i],q,by simp [hlt]⟩,by omega,λy σ' H'=>Pv (i + 1) (ys++[y]) σ' H',λy σ' H' z=>⟨xs.length - (i + 1),by omega,rfl,hlt,z⟩,λx H' y=>?_⟩
  obtain ⟨e,y⟩:=y
  subst e
  exact hs i x ys σ _ (y xs q) p
 ·have e:i=xs.length:=by omega
  subst e
  exact .inl ⟨⟨xs,q,Nat.le_refl _⟩,hd ys σ H p⟩
structure Fn (P:Program) (w:World) (K:PySem.W.Frag) (mg:Str->Option Value) (base:Heap) (x:Str) (ps:List Str) (k:Nat) (sp:Sp):Prop where
 ex:∃ f fd,zF P w K mg base zW k f fd ps sp/\mg x=some (.ref f)/\PySem.W.keepIn K (.ref f)=true/\ww K fd ps []
theorem Fn.mono {P:Program} {w:World} {K:PySem.W.Frag} {mg:Str->Option Value} {base:Heap} {x:Str} {ps:List Str} {j k:Nat} {sp:Sp} (F:Fn P w K mg base x ps j sp) (h:j<=k:=by decide):Fn P w K mg base x ps k sp:=by
 obtain ⟨f,fd,a,b,c,d⟩:=F.ex
 exact ⟨f,fd,a.mono h,b,c,d⟩
theorem uJ {X:Cx} {x:Str} {ps:List Str} {k:Nat} {sp:Sp} {e:Expr} {es:List Expr} {t:TA} {p pos:Pos} (F:Fn X.prog X.w X.K X.mg X.base x ps k sp) (hr:zc k X.A) (hg:Gl X x) (ha:PA X (e :: es) t)
  (hdb:(x == ("__debug__" : Str))=false:=by decide) (he:starEach (e :: es) X.env=(false,eval e X.env) :: starEach es X.env:=by rfl) (hpl:(backTo pos (starEach es X.env)).any (·.1)=false:=by rfl) :
  PE X (.Call (.Name x p) (e :: es) [] pos) (UU sp [] E0 t):=by
 obtain ⟨f,fd,a,b,c,d⟩:=F.ex
 exact Kh a hr hg b c d .nil k6 ha hdb he hpl
end L2
namespace L2
open PySem PySem.Spec PyProof.Rows
theorem xZ:bootBuiltins "isinstance" = some (.builtin "isinstance"):=by decide +kernel
theorem yQ:bootBuiltins "len" = some (.builtin "len"):=by decide +kernel
theorem wz:bootBuiltins "all" = some (.builtin "all"):=by decide +kernel
theorem k9:bootBuiltins "int" = some (.type "int"):=by decide +kernel
theorem Uh:bootBuiltins "bool" = some (.type "bool"):=by decide +kernel
theorem vP:bootBuiltins "tuple" = some (.type "tuple"):=by decide +kernel
theorem xS:bootBuiltins "list" = some (.type "list"):=by decide +kernel
section
variable (K:PySem.W.Frag)
end
structure xO (K:PySem.W.Frag) (x qual:Str) (st:Stmt) (f:Addr) (fd:FuncData) (d:Value):Prop where
 ex:∃ (oc:Value) (od:Option Addr) (kV doc pm:Value) (an:Option Addr) (cdv ct:Value) (osl:Array (Option Value)) (T:Addr) (oT:Obj) (n:Nat),
  fd=PySem.W.fnOf x qual (wW st) (xR st) (zK st) (.ref T) kV doc pm an cdv ct/\K.lookup f=some ⟨oc,od,.func fd,osl⟩/\PySem.W.codeIn K cdv qual=true/\K.lookup T=some oT/\oT.data=.seq #[d] n
 kp:PySem.W.keepIn K (.ref f)=true
theorem xO.ok {P:Program} {w:World} {K:PySem.W.Frag} {mg:Str->Option Value} {base:Heap} {x qual:Str} {st:Stmt} {f:Addr} {fd:FuncData} {d:Value} {N ps:List Str} {k:Nat} {sp:Sp} (F:xO K x qual st f fd d) (S:ze N ps (zK st))
  (len:∀ vs H Q E,sp vs H Q E->vs.length=ps.length)
  (hbody:∀ (cdv:Value) (A:Around) (outer:List Env) (s:Shared) (H:Hp) (vs:List V) (Q:VK) (E:XK),zc k (A.deeper (envOfC qual (zK st) s.heap.objs.size f cdv))->sp vs H Q E->
   ∃ t,yc (xN zW P w K mg base N qual (zK st) f cdv A outer s H E).nox (xR st) t/\t { nx:=λ_ H'=>Q .non H',rt:=Q } (xl N vs) H):zF P w K mg base zW (k + 1) f fd ps sp:=by
 obtain ⟨oc,od,kV,doc,pm,an,cdv,ct,osl,T,oT,n,rfl,lk,hcd,_⟩:=F.ex
 refine Ko lk hcd S len λA outer s H vs Q E hr hsp=>?_
 obtain ⟨t,h,q⟩:=hbody cdv A outer s H vs Q E hr hsp
 exact ⟨t,h.nox,q⟩
end L2
namespace L2
open PySem PySem.Spec PyProof.Rows
theorem zLj {K:PySem.W.Frag} {x qual:Str} {st:Stmt} {f T:Addr} {oc kV doc pm cdv ct d:Value} {od an:Option Addr} {osl:Array (Option Value)} {oT:Obj} {n:Nat} (l:K.lookup f=some ⟨oc,od,.func (PySem.W.fnOf x qual (wW st) (xR st) (zK st) (.ref T) kV doc pm an cdv ct),osl⟩)
  (c:PySem.W.codeIn K cdv qual=true) (k:PySem.W.keepIn K (.ref f)=true) (t:K.lookup T=some oT) (e:oT.data=.seq #[d] n):xO K x qual st f (PySem.W.fnOf x qual (wW st) (xR st) (zK st) (.ref T) kV doc pm an cdv ct) d:=
 ⟨⟨oc,od,kV,doc,pm,an,cdv,ct,osl,T,oT,n,rfl,l,c,t,e⟩,k⟩
theorem xO.binds {K:PySem.W.Frag} {x qual:Str} {st:Stmt} {f:Addr} {fd:FuncData} {d:Value} {ps:List Str} (F:xO K x qual st f fd d)
  (h:∀ (T:Addr) (kV doc pm:Value) (an:Option Addr) (cdv ct:Value) (us:List Value),us.length=ps.length->∃ k:Option (Array Value)->Sem (List (Str × Value)),
   bindArgs (PySem.W.fnOf x qual (wW st) (xR st) (zK st) (.ref T) kV doc pm an cdv ct) ⟨us,[]⟩=seqItems? (.ref T) >>= k/\k (some #[d])=pure (ps.zip us)):ww K fd ps []:=by
 obtain ⟨oc,od,kV,doc,pm,an,cdv,ct,osl,T,oT,n,rfl,lk,hcd,t,e⟩:=F.ex
 intro s us X hl
 rw [List.append_nil] at hl |-
 obtain ⟨k,h1,h2⟩:=h T kV doc pm an cdv ct us hl
 exact .of_defaults (T:=T) rfl (X T oT t) e h1 h2
end L2
namespace L2
open PySem PySem.Spec PyProof.Rows
structure vK (P:Program) (w:World) (K:PySem.W.Frag) (mg:Str->Option Value) (base:Heap) (x:Str) (ps:List Str) (k:Nat) (sp:Sp) (dv:V):Prop where
 ex:∃ f fd d,zF P w K mg base zW k f fd ps sp/\mg x=some (.ref f)/\PySem.W.keepIn K (.ref f)=true/\ww K fd ps []/\ww K fd ps [d]/\zV dv d
theorem vK.mono {P:Program} {w:World} {K:PySem.W.Frag} {mg:Str->Option Value} {base:Heap} {x:Str} {ps:List Str} {j k:Nat} {sp:Sp} {dv:V} (F:vK P w K mg base x ps j sp dv) (h:j<=k:=by decide):vK P w K mg base x ps k sp dv:=by
 obtain ⟨f,fd,d,a,b,c,e⟩:=F.ex
 exact ⟨f,fd,d,a.mono h,b,c,e⟩
theorem vK.fn {P:Program} {w:World} {K:PySem.W.Frag} {mg:Str->Option Value} {base:Heap} {x:Str} {ps:List Str} {k:Nat} {sp:Sp} {dv:V} (F:vK P w K mg base x ps k sp dv):Fn P w K mg base x ps k sp:=by
 obtain ⟨f,fd,d,a,b,c,e,_⟩:=F.ex
 exact ⟨f,fd,a,b,c,e⟩
theorem ZA {X:Cx} {x:Str} {ps:List Str} {k:Nat} {sp:Sp} {e:Expr} {es:List Expr} {t:TA} {p pos:Pos} {dv:V} (F:vK X.prog X.w X.K X.mg X.base x ps k sp dv) (hr:zc k X.A) (hg:Gl X x) (ha:PA X (e :: es) t)
  (hdb:(x == ("__debug__" : Str))=false:=by decide) (he:starEach (e :: es) X.env=(false,eval e X.env) :: starEach es X.env:=by rfl) (hpl:(backTo pos (starEach es X.env)).any (·.1)=false:=by rfl) :
  PE X (.Call (.Name x p) (e :: es) [] pos) (UU sp [dv] E0 t):=by
 obtain ⟨f,fd,d,a,b,c,_,h2,r⟩:=F.ex
 exact Kh a hr hg b c h2 (.cons r .nil) k6 ha hdb he hpl
theorem xO.binds1 {K:PySem.W.Frag} {x qual:Str} {st:Stmt} {f:Addr} {fd:FuncData} {d:Value} {ps:List Str} (F:xO K x qual st f fd d)
  (h:∀ (T:Addr) (kV doc pm:Value) (an:Option Addr) (cdv ct:Value) (us:List Value),us.length + 1=ps.length->∃ k:Option (Array Value)->Sem (List (Str × Value)),
   bindArgs (PySem.W.fnOf x qual (wW st) (xR st) (zK st) (.ref T) kV doc pm an cdv ct) ⟨us,[]⟩=seqItems? (.ref T) >>= k/\k (some #[d])=pure (ps.zip (us++[d]))):ww K fd ps [d]:=by
 obtain ⟨oc,od,kV,doc,pm,an,cdv,ct,osl,T,oT,n,rfl,lk,hcd,t,e⟩:=F.ex
 intro s us X hl
 rw [List.length_append,List.length_singleton] at hl
 obtain ⟨k,h1,h2⟩:=h T kV doc pm an cdv ct us hl
 exact .of_defaults (T:=T) rfl (X T oT t) e h1 h2
end L2
namespace L2
theorem gN {b:Bool} {A B:Prop} (e:b=true) (h:A):if b=true then A else B:=by
 rw [if_pos e]
 exact h
theorem uq {b:Bool} {A B:Prop} (e:b=false) (h:B):if b=true then A else B:=by
 rw [if_neg (by rw [e]; exact Bool.false_ne_true)]
 exact h
theorem Xh {i j:Int} (h:i=j):decide (V.int i=V.int j)=true:=decide_eq_true (by rw [h])
theorem zQt {i j:Int} (h:i≠j):decide (V.int i=V.int j)=false:=decide_eq_false λe=>h (by injection e)
end L2
set_option maxRecDepth 100000
namespace L2
open PySem
section
variable {prog:Program} {w:World} {A:Around} {E:Value->Shared->Prop} {s:Shared}
theorem zH3 (hh:A.handled=none) (it t:Addr) (hne:t≠it) (items:Array Value) :
  Draws prog w A it [it,t] items.size (λi v=>items[i]? = some v) (λi h=>h.IsTupleIter it t i/\h.IsTuple t items) where
 live:=λ_ _ st=>let ⟨o,ho,_⟩:=st.1; ⟨o,ho⟩
 frame:=λ_ _ _ st hk=>⟨let ⟨o,e,r⟩:=st.1; ⟨o,hk it (by simp) o e,r⟩,let ⟨o,e,r⟩:=st.2; ⟨o,hk t (by simp) o e,r⟩⟩
 item:=λi s Q E hi st hQ=>by
  obtain ⟨hit,ht⟩:=st
  obtain ⟨o,ho,hc,hd⟩:=id hit
  obtain ⟨ol,hol,_,nl,hdl⟩:=id ht
  have hx:items[i]? = some items[i]:=by simp [hi]
  unfold Builtin.SmallTypes.nextOf
  refine wpAny_bind (wpAny_callSpecial?_slot (name:=Str.ofString "__next__") hit.typeIs F.slot_tuple_iterator_next (wpAny_call_entry F.slot_tuple_iterator_next hit.typeIs F.entry_tuple_iterator_next ?_ (F.args_tuple_iterator_next_1 _)))
  change wpAny _ _ (field (.ref it) 0 >>= _) _ _ s
  refine wpAny_bind (wpAny_field ho hd (x:=.ref t) rfl ?_)
  change wpAny _ _ (if (Value.ref t == Value.none)=true then _ else _) _ _ s
  rw [if_neg (show (Value.ref t == Value.none)≠true from Bool.false_ne_true)]
  change wpAny _ _ (field (.ref it) 1 >>= _) _ _ s
  refine wpAny_bind (wpAny_field ho hd (x:=.int i 0) rfl ?_)
  change wpAny _ _ (seqItems? (.ref t) >>= _) _ _ s
  refine wpAny_bind (wpAny_seqItems hol hdl ?_)
  simp only [Int.toNat_natCast,hx]
  refine wpAny_bind (wpAny_setField ho hd (by simp) (wpAny_pure ⟨items[i],rfl,wpAny_pure (hQ _ _ s.toks hx ⟨?_,?_⟩ (Heap.SameBut.update ..))⟩))
  ·exact ⟨_,Heap.get?_update_self _ ho (Obj.isFreed_of_fields (Obj.data_mapFields hd _)),(Obj.cls_mapFields ..).trans hc,by rw [Obj.data_mapFields hd]; simp [rawInt]⟩
  ·exact ht.extBut (Heap.SameBut.update ..).extBut hne
 done:=λs Q E st hE=>by
  obtain ⟨hit,ht⟩:=st
  obtain ⟨o,ho,hc,hd⟩:=id hit
  obtain ⟨ol,hol,_,nl,hdl⟩:=id ht
  have hx:items[items.size]? = none:=by simp
  unfold Builtin.SmallTypes.nextOf
  refine wpAny_bind (wpAny_callSpecial?_slot (name:=Str.ofString "__next__") hit.typeIs F.slot_tuple_iterator_next (wpAny_call_entry F.slot_tuple_iterator_next hit.typeIs F.entry_tuple_iterator_next ?_ (F.args_tuple_iterator_next_1 _)))
  change wpAny _ _ (field (.ref it) 0 >>= _) _ _ s
  refine wpAny_bind (wpAny_field ho hd (x:=.ref t) rfl ?_)
  change wpAny _ _ (if (Value.ref t == Value.none)=true then _ else _) _ _ s
  rw [if_neg (show (Value.ref t == Value.none)≠true from Bool.false_ne_true)]
  change wpAny _ _ (field (.ref it) 1 >>= _) _ _ s
  refine wpAny_bind (wpAny_field ho hd (x:=.int items.size 0) rfl ?_)
  change wpAny _ _ (seqItems? (.ref t) >>= _) _ _ s
  refine wpAny_bind (wpAny_seqItems hol hdl ?_)
  simp only [Int.toNat_natCast,hx]
  refine wpAny_bind (wpAny_rule (wpAny_bind (wpAny_setField ho hd (by simp) ?_)))
  change wpAny _ _ (newExc (.type "StopIteration") [] >>= _) _ _ _
  refine wpAny_bind ?_
  simp only [newExc,newTuple]
  refine wpAny_bind (wpAny_newObj_type ?_ (by size_fits))
  refine wpAny_bind (m:=firstArgMember _ _) (wpAny_of_eq (a:=Value.none) (by first | rfl | (simp only [firstArgMember]; rfl)) ?_)
  refine wpAny_newObj_type ?_ (by size_fits)
  simp only [raiseNew]
  refine wpAny_bind (wpAny_handled ?_)
  first | rw [show A.in1.handled=none from hh] | rw [hh]
  refine wpAny_bind (wpAny_pure (wpAny_throw ?_))
  exact hE _ _ (((Heap.SameBut.update ..).extBut.push _).push _) ⟨_,Heap.get?_push_size _ rfl,rfl⟩
structure Zp (z TI TO i1 i2:Addr) (f1 f2:List Addr):Prop where
 a1:TI≠z
 a2:TO≠z
 a3:i1≠z
 a4:i2≠z
 a5:TI≠TO
 a6:TI≠i1
 a7:TI≠i2
 a8:TO≠i1
 a9:TO≠i2
 b1:z∉f1
 b2:z∉f2
 b3:TO∉f1
 b4:TO∉f2
 b5:i1∉f2
 b6:i2∉f1
theorem zMY {z TI TO i1 i2:Addr} {f1 f2:List Addr} {n1 n2 k:Nat} {P1 P2:Nat->Value->Prop} {S1 S2:Nat->Heap->Prop} {a b:Value} {Q:Value->Shared->Prop}
  (D1:Draws prog w A i1 f1 n1 P1 S1) (D2:Draws prog w A i2 f2 n2 P2 S2) (Z:Zp z TI TO i1 i2 f1 f2) (hz:IsZip s.heap z TI TO .none) (hI:IsPair s.heap TI (.ref i1) (.ref i2)) (hO:IsPair s.heap TO a b)
  (s1:S1 k s.heap) (s2:S2 k s.heap) (k1:k < n1) (k2:k < n2)
  (hQ:∀ x y h' tk,P1 k x->P2 k y->IsZip h' z TI TO (rawInt s.heap.objs.size)->IsPair h' TI (.ref i1) (.ref i2)->IsPair h' TO x y->S1 (k + 1) h'->S2 (k + 1) h'->IsPair h' s.heap.objs.size x y->
   (∀ c o,c≠z->c≠TO->c≠i1->c≠i2->s.heap.get? c=some o->h'.get? c=some o)->Q (.ref s.heap.objs.size) { s with heap:=h',toks:=tk }) :
  wpAny (model prog w) A (Builtin.«zip.__next__» ⟨[.ref z],[]⟩) (λfin s'=>∃ v,fin=.done (.ret v)/\Q v s') E s:=by
 change wpAny _ _ (field (.ref z) 2 >>= _) _ _ _
 refine wpAny_bind (wpAny_field hz rfl (x:=.bool false) rfl ?_)
 change wpAny _ _ (field (.ref z) 3 >>= _) _ _ _
 refine wpAny_bind (wpAny_field hz rfl (x:=.ref TI) rfl ?_)
 refine wpAny_bind (wpAny_seqItems hI rfl ?_)
 change wpAny _ _ (Builtin.SmallTypes.ownedTupleIsFree (.ref z) >>= _) _ _ _
 refine wpAny_bind ?_
 unfold Builtin.SmallTypes.ownedTupleIsFree
 refine wpAny_bind (wpAny_field hz rfl (x:=.none) rfl (wpAny_pure ?_))
 simp only [if_true]
 refine wpAny_bind (wpAny_rule ?_)
 refine wpAny_bind (wpAny_field hz rfl (x:=.ref TO) rfl ?_)
 refine wpAny_bind (wpAny_setField_rec hz (by simp) λg1 z1 m1=>?_)
 replace z1:IsZip g1 z TI TO .ellipsis:=z1
 refine wpAny_bind ?_
 simp only [List.zipIdx_cons,List.zipIdx_nil,List.forIn_cons,List.forIn_nil]
 refine wpAny_bind (wpAny_bind (wpAny_onRaise ?_))
 change wpAny _ _ (Builtin.SmallTypes.nextOf (.ref i1) >>= _) _ _ _
 refine wpAny_bind (D1.item k _ _ _ k1 (D1.frame _ _ _ s1 λc hc o e=>m1.extBut c o (λq=>Z.b1 (q ▸ hc)) e) λx g2 t2 px s12 m2=>wpAny_pure ?_)
 have o2:IsPair g2 TO a b:=m2.extBut _ _ Z.a8 (m1.extBut _ _ Z.a2 hO)
 refine wpAny_bind (wpAny_seqItems o2 rfl ?_)
 refine wpAny_bind (wpAny_updateSeq_pair o2 λg3 o3 m3=>?_)
 replace o3:IsPair g3 TO x b:=o3
 refine wpAny_bind (wpAny_letGo (wpAny_pure ?_))
 refine wpAny_bind (wpAny_bind (wpAny_onRaise ?_))
 change wpAny _ _ (Builtin.SmallTypes.nextOf (.ref i2) >>= _) _ _ _
 refine wpAny_bind (D2.item k _ _ _ k2 (D2.frame _ _ _ s2 λc hc o e=>m3.extBut c o (λq=>Z.b4 (q ▸ hc)) (m2.extBut c o (λq=>Z.b5 (q ▸ hc)) (m1.extBut c o (λq=>Z.b2 (q ▸ hc)) e))) λy g4 t4 py s24 m4=>wpAny_pure ?_)
 have o4:IsPair g4 TO x b:=m4.extBut _ _ Z.a9 o3
 refine wpAny_bind (wpAny_seqItems o4 rfl ?_)
 refine wpAny_bind (wpAny_updateSeq_pair o4 λg5 o5 m5=>?_)
 replace o5:IsPair g5 TO x y:=o5
 refine wpAny_bind (wpAny_letGo (wpAny_pure (wpAny_pure ?_)))
 refine wpAny_bind (wpAny_seqItems o5 rfl ?_)
 refine wpAny_bind (wpAny_newTuple ?_)
 have sz:g5.objs.size=s.heap.objs.size:=by
  have q5:g5.objs.size=g4.objs.size:=m5.1
  have q4:g4.objs.size=g3.objs.size:=m4.1
  have q3:g3.objs.size=g2.objs.size:=m3.1
  have q2:g2.objs.size=g1.objs.size:=m2.1
  have q1:g1.objs.size=s.heap.objs.size:=m1.1
  omega
 have all5:∀ c o,c≠z->c≠TO->c≠i1->c≠i2->s.heap.get? c=some o->g5.get? c=some o:=λc o c1 c2 c3 c4 e=>m5.extBut _ _ c2 (m4.extBut _ _ c4 (m3.extBut _ _ c2 (m2.extBut _ _ c3 (m1.extBut _ _ c1 e))))
 have z5:IsZip g5 z TI TO .ellipsis:=m5.extBut _ _ Z.a2.symm (m4.extBut _ _ Z.a4.symm (m3.extBut _ _ Z.a2.symm (m2.extBut _ _ Z.a3.symm z1)))
 have I5:IsPair g5 TI (.ref i1) (.ref i2):=all5 _ _ Z.a1 Z.a5 Z.a6 Z.a7 hI
 have u1:S1 (k + 1) g5:=D1.frame _ _ _ s12 λc hc o e=>m5.extBut c o (λq=>Z.b3 (q ▸ hc)) (m4.extBut c o (λq=>Z.b6 (q ▸ hc)) (m3.extBut c o (λq=>Z.b3 (q ▸ hc)) e))
 have u2:S2 (k + 1) g5:=D2.frame _ _ _ s24 λc hc o e=>m5.extBut c o (λq=>Z.b4 (q ▸ hc)) e
 have lt:z < g5.objs.size:=Heap.lt_size z5
 change wpAny _ _ (Builtin.SmallTypes.ownedTupleHandOut (.ref z) (.ref g5.objs.size) >>= _) _ _ _
 refine wpAny_bind ?_
 unfold Builtin.SmallTypes.ownedTupleHandOut
 have z6:IsZip (g5.push { cls:=.type "tuple",data:=.seq #[x,y] }) z TI TO .ellipsis:=Heap.get?_push_of_some _ z5
 refine wpAny_bind (wpAny_setField_rec z6 (by simp) λg7 z7 m7=>?_)
 replace z7:IsZip g7 z TI TO (rawInt g5.objs.size):=z7
 refine wpAny_setField_rec z7 (by simp) λg8 z8 m8=>?_
 replace z8:IsZip g8 z TI TO (rawInt g5.objs.size):=z8
 have up:∀ c o,c≠z->g5.get? c=some o->g8.get? c=some o:=λc o c1 e=>m8.extBut _ _ c1 (m7.extBut _ _ c1 (Heap.get?_push_of_some _ e))
 have T8:IsPair g8 g5.objs.size x y:=m8.extBut _ _ (Nat.ne_of_gt lt) (m7.extBut _ _ (Nat.ne_of_gt lt) (Heap.get?_push_size _ rfl))
 rw [sz] at z8 T8
 refine wpAny_pure ⟨_,rfl,?_⟩
 change Q (.ref g5.objs.size) _
 rw [sz]
 exact hQ x y g8 _ px py z8 (up _ _ Z.a1 I5) (up _ _ Z.a2 o5) (D1.frame _ _ _ u1 λc hc o e=>up c o (λq=>Z.b1 (q ▸ hc)) e) (D2.frame _ _ _ u2 λc hc o e=>up c o (λq=>Z.b2 (q ▸ hc)) e) T8
  λc o c1 c2 c3 c4 e=>up c o c1 (all5 c o c1 c2 c3 c4 e)
theorem zMW {z TI TO i1 i2:Addr} {f1 f2:List Addr} {n1 n2 k:Nat} {P1 P2:Nat->Value->Prop} {S1 S2:Nat->Heap->Prop} {a b:Value} {Q:Fin->Shared->Prop}
  (D1:Draws prog w A i1 f1 n1 P1 S1) (D2:Draws prog w A i2 f2 n2 P2 S2) (Z:Zp z TI TO i1 i2 f1 f2) (hz:IsZip s.heap z TI TO .none) (hI:IsPair s.heap TI (.ref i1) (.ref i2)) (hO:IsPair s.heap TO a b)
  (s1:S1 k s.heap) (s2:S2 k s.heap) (k1:k<=n1) (k2:k<=n2) (ke:k=n1\/k=n2)
  (hE:∀ h' e tk,(∀ c o,c≠z->c≠TO->c≠i1->c≠i2->s.heap.get? c=some o->h'.get? c=some o)->(∃ o,h'.get? e=some o/\o.cls=.type "StopIteration")->E (.ref e) { s with heap:=h',toks:=tk }) :
  wpAny (model prog w) A (Builtin.«zip.__next__» ⟨[.ref z],[]⟩) Q E s:=by
 change wpAny _ _ (field (.ref z) 2 >>= _) _ _ _
 refine wpAny_bind (wpAny_field hz rfl (x:=.bool false) rfl ?_)
 change wpAny _ _ (field (.ref z) 3 >>= _) _ _ _
 refine wpAny_bind (wpAny_field hz rfl (x:=.ref TI) rfl ?_)
 refine wpAny_bind (wpAny_seqItems hI rfl ?_)
 change wpAny _ _ (Builtin.SmallTypes.ownedTupleIsFree (.ref z) >>= _) _ _ _
 refine wpAny_bind ?_
 unfold Builtin.SmallTypes.ownedTupleIsFree
 refine wpAny_bind (wpAny_field hz rfl (x:=.none) rfl (wpAny_pure ?_))
 simp only [if_true]
 refine wpAny_bind (wpAny_rule ?_)
 refine wpAny_bind (wpAny_field hz rfl (x:=.ref TO) rfl ?_)
 refine wpAny_bind (wpAny_setField_rec hz (by simp) λg1 z1 m1=>?_)
 replace z1:IsZip g1 z TI TO .ellipsis:=z1
 refine wpAny_bind ?_
 simp only [List.zipIdx_cons,List.zipIdx_nil,List.forIn_cons,List.forIn_nil]
 refine wpAny_bind (wpAny_bind (wpAny_onRaise ?_))
 change wpAny _ _ (Builtin.SmallTypes.nextOf (.ref i1) >>= _) _ _ _
 have s1':S1 k g1:=D1.frame _ _ _ s1 λc hc o e=>m1.extBut c o (λq=>Z.b1 (q ▸ hc)) e
 by_cases c1:k=n1
 ·subst c1
  refine wpAny_bind (D1.done _ _ _ s1' λg2 e m2 he=>?_)
  obtain ⟨oe,he1,he2⟩:=he
  have z2:IsZip g2 z TI TO .ellipsis:=m2 _ _ Z.a3.symm z1
  have nez:e≠z:=λq=>by subst q; rw [z2] at he1; cases he1; simp at he2
  exact wpAny_setField_rec z2 (by simp) λg3 _ m3=>hE g3 e _ (λc o c1 c2 c3 c4 q=>m3.extBut _ _ c1 (m2 _ _ c3 (m1.extBut _ _ c1 q))) ⟨oe,m3.extBut _ _ nez he1,he2⟩
 ·have c2:k=n2:=ke.resolve_left c1
  subst c2
  refine wpAny_bind (D1.item k _ _ _ (by omega) s1' λx g2 t2 px s12 m2=>wpAny_pure ?_)
  have o2:IsPair g2 TO a b:=m2.extBut _ _ Z.a8 (m1.extBut _ _ Z.a2 hO)
  refine wpAny_bind (wpAny_seqItems o2 rfl ?_)
  refine wpAny_bind (wpAny_updateSeq_pair o2 λg3 o3 m3=>?_)
  refine wpAny_bind (wpAny_letGo (wpAny_pure ?_))
  refine wpAny_bind (wpAny_bind (wpAny_onRaise ?_))
  change wpAny _ _ (Builtin.SmallTypes.nextOf (.ref i2) >>= _) _ _ _
  refine wpAny_bind (D2.done _ _ _ (D2.frame _ _ _ s2 λc hc o e=>m3.extBut c o (λq=>Z.b4 (q ▸ hc)) (m2.extBut c o (λq=>Z.b5 (q ▸ hc)) (m1.extBut c o (λq=>Z.b2 (q ▸ hc)) e))) λg4 e m4 he=>?_)
  obtain ⟨oe,he1,he2⟩:=he
  have z4:IsZip g4 z TI TO .ellipsis:=m4 _ _ Z.a4.symm (m3.extBut _ _ Z.a2.symm (m2.extBut _ _ Z.a3.symm z1))
  have nez:e≠z:=λq=>by subst q; rw [z4] at he1; cases he1; simp at he2
  exact wpAny_setField_rec z4 (by simp) λg5 _ m5=>hE g5 e _ (λc o c1 c2 c3 c4 q=>m5.extBut _ _ c1 (m4 _ _ c4 (m3.extBut _ _ c2 (m2.extBut _ _ c3 (m1.extBut _ _ c1 q))))) ⟨oe,m5.extBut _ _ nez he1,he2⟩
end
abbrev Xi (h:Heap) (t:Addr):Heap:=h.push { cls:=.type "tuple_iterator",data:=.fields #[.ref t,.int 0 0] }
abbrev Xj (h:Heap) (t l:Addr):Heap:=(Xi h t).push { cls:=.type "list_iterator",data:=.fields #[.ref l,.int 0 0] }
abbrev Xk (h:Heap) (t l:Addr):Heap:=(Xj h t l).push { cls:=.type "tuple",data:=.seq #[.ref h.objs.size,.ref (Xi h t).objs.size] }
abbrev Xl (h:Heap) (t l:Addr):Heap:=(Xk h t l).push { cls:=.type "tuple",data:=.seq #[.none,.none] }
abbrev gO (h:Heap) (t l:Addr):Heap:=(Xl h t l).push { cls:=.type "zip",data:=.fields #[.none,.bool false,.bool false,.ref (Xj h t l).objs.size,.ref (Xk h t l).objs.size] }
theorem zJW (t l:Addr) (xs ys:Array Value) :
  Meets (Builtin.«zip.__new__» ⟨[.type "zip",.ref t,.ref l],[]⟩) (λ_ R s=>s.heap.IsTuple t xs/\s.heap.IsList l ys/\R (.ok (.ret (.ref (Xl s.heap t l).objs.size))) { s with heap:=gO s.heap t l }):=
 .of_wp λprog w A R s h=>by
  obtain ⟨hp,g,d,tk,os⟩:=s; obtain ⟨h1,h2,h⟩:=h
  have hsub:=sub_zip
  have e1:Heap.IsTuple (Shared.heap ⟨hp,g,d,tk,os⟩) t xs:=h1
  have e2:Heap.IsList (Shared.heap ⟨hp.push { cls:=.type "tuple_iterator",data:=.fields #[.ref t,.int 0 0] },g,d,tk,os⟩) l ys:=Heap.IsList.push h2 _
  wp_walk using wpAny_pyIter_tuple e1,wpAny_pyIter_list e2
  exact ⟨_,rfl,h⟩
theorem zIn {prog:Program} {w:World} {A:Around} {E:Value->Shared->Prop} {s:Shared} {t l:Addr} {xs ys:Array Value} {Q:Value->Shared->Prop} (h1:s.heap.IsTuple t xs) (h2:s.heap.IsList l ys)
  (h:∀ h',IsZip h' (s.heap.objs.size + 4) (s.heap.objs.size + 2) (s.heap.objs.size + 3) .none->IsPair h' (s.heap.objs.size + 2) (.ref s.heap.objs.size) (.ref (s.heap.objs.size + 1))->IsPair h' (s.heap.objs.size + 3) .none .none->
   h'.IsTupleIter s.heap.objs.size t 0->h'.IsListIter (s.heap.objs.size + 1) l 0->(∀ c o,s.heap.get? c=some o->h'.get? c=some o)->Q (.ref (s.heap.objs.size + 4)) { s with heap:=h' }) :
  wpAny (model prog w) A (call (.type "zip") [.ref t,.ref l]) Q E s:=by
 refine callType_new F.called_zip (by decide) (F.typeCall_zip_2 _ _) (F.newCall_zip_2 _ _) (λobj=>F.args_object_init_3 obj _ _) F.entry_zip_new (zJW t l xs ys) ⟨h1,h2,?_⟩
 have n1:(Xi s.heap t).objs.size=s.heap.objs.size + 1:=Heap.size_push ..
 have n2:(Xj s.heap t l).objs.size=s.heap.objs.size + 2:=by rw [Heap.size_push,n1]
 have n3:(Xk s.heap t l).objs.size=s.heap.objs.size + 3:=by rw [Heap.size_push,n2]
 have n4:(Xl s.heap t l).objs.size=s.heap.objs.size + 4:=by rw [Heap.size_push,n3]
 have p5:(gO s.heap t l).get? (Xl s.heap t l).objs.size=some _:=Heap.get?_push_size _ rfl
 have p4:(gO s.heap t l).get? (Xk s.heap t l).objs.size=some _:=Heap.get?_push_of_some _ (Heap.get?_push_size _ rfl)
 have p3:(gO s.heap t l).get? (Xj s.heap t l).objs.size=some _:=Heap.get?_push_of_some _ (Heap.get?_push_of_some _ (Heap.get?_push_size _ rfl))
 have p2:(gO s.heap t l).get? (Xi s.heap t).objs.size=some _:=Heap.get?_push_of_some _ (Heap.get?_push_of_some _ (Heap.get?_push_of_some _ (Heap.get?_push_size _ rfl)))
 have p1:(gO s.heap t l).get? s.heap.objs.size=some _:=Heap.get?_push_of_some _ (Heap.get?_push_of_some _ (Heap.get?_push_of_some _ (Heap.get?_push_of_some _ (Heap.get?_push_size _ rfl))))
 change _/\_
 rw [n2,n3,n4] at p5
 rw [n1,n2] at p3
 rw [n3] at p4
 rw [n1] at p2
 rw [n4]
 exact ⟨⟨_,p5,rfl⟩,h _ p5 p3 p4 ⟨_,p1,rfl,rfl⟩ ⟨_,p2,rfl,rfl⟩ λc o x=>Heap.get?_push_of_some _ (Heap.get?_push_of_some _ (Heap.get?_push_of_some _ (Heap.get?_push_of_some _ (Heap.get?_push_of_some _ x))))⟩
section
variable {prog:Program} {w:World} {A:Around} {E:Value->Shared->Prop} {s:Shared}
theorem zIt {z TI TO i1 i2:Addr} {f1 f2:List Addr} {n1 n2 k:Nat} {P1 P2:Nat->Value->Prop} {S1 S2:Nat->Heap->Prop} {a b:Value} {Q:Option Value->Shared->Prop}
  (D1:Draws prog w A.in1 i1 f1 n1 P1 S1) (D2:Draws prog w A.in1 i2 f2 n2 P2 S2) (Z:Zp z TI TO i1 i2 f1 f2) (hz:IsZip s.heap z TI TO .none) (hI:IsPair s.heap TI (.ref i1) (.ref i2)) (hO:IsPair s.heap TO a b)
  (s1:S1 k s.heap) (s2:S2 k s.heap) (k1:k < n1) (k2:k < n2)
  (hQ:∀ x y h' tk,P1 k x->P2 k y->IsZip h' z TI TO (rawInt s.heap.objs.size)->IsPair h' TI (.ref i1) (.ref i2)->IsPair h' TO x y->S1 (k + 1) h'->S2 (k + 1) h'->IsPair h' s.heap.objs.size x y->
   (∀ c o,c≠z->c≠TO->c≠i1->c≠i2->s.heap.get? c=some o->h'.get? c=some o)->Q (some (.ref s.heap.objs.size)) { s with heap:=h',toks:=tk }) :
  wpAny (model prog w) A (pyNext (.ref z)) Q E s:=by
 have ty:s.TypeIs (.ref z) "zip":=⟨_,hz,rfl⟩
 unfold pyNext
 refine wpAny_bind (wpAny_attempt (wpAny_callSpecial?_slot (name:=Str.ofString "__next__") ty F.slot_zip_next (wpAny_call_entry F.slot_zip_next ty F.entry_zip_next ?_ (F.args_zip_next_1 _))))
 exact zMY D1 D2 Z hz hI hO s1 s2 k1 k2 λx y h' tk c1 c2 c3 c4 c5 c6 c7 c8 c9=>wpAny_pure (hQ x y h' tk c1 c2 c3 c4 c5 c6 c7 c8 c9)
theorem zKG {z TI TO i1 i2:Addr} {f1 f2:List Addr} {n1 n2 k:Nat} {P1 P2:Nat->Value->Prop} {S1 S2:Nat->Heap->Prop} {a b:Value} {Q:Option Value->Shared->Prop}
  (D1:Draws prog w A.in1 i1 f1 n1 P1 S1) (D2:Draws prog w A.in1 i2 f2 n2 P2 S2) (Z:Zp z TI TO i1 i2 f1 f2) (hz:IsZip s.heap z TI TO .none) (hI:IsPair s.heap TI (.ref i1) (.ref i2)) (hO:IsPair s.heap TO a b)
  (s1:S1 k s.heap) (s2:S2 k s.heap) (k1:k<=n1) (k2:k<=n2) (ke:k=n1\/k=n2)
  (hQ:∀ h' tk,(∀ c o,c≠z->c≠TO->c≠i1->c≠i2->s.heap.get? c=some o->h'.get? c=some o)->Q none { s with heap:=h',toks:=tk }) :
  wpAny (model prog w) A (pyNext (.ref z)) Q E s:=by
 have ty:s.TypeIs (.ref z) "zip":=⟨_,hz,rfl⟩
 unfold pyNext
 refine wpAny_bind (wpAny_attempt (wpAny_callSpecial?_slot (name:=Str.ofString "__next__") ty F.slot_zip_next (wpAny_call_entry F.slot_zip_next ty F.entry_zip_next
  (zMW D1 D2 Z hz hI hO s1 s2 k1 k2 ke λh' e tk keep he=>?_) (F.args_zip_next_1 _))))
 obtain ⟨o,ho,hc⟩:=he
 refine wpAny_bind (wpAny_isInstance (T:="StopIteration") (b:=true) ⟨o,ho,hc⟩ isSubtype_stop ?_)
 exact wpAny_pure (hQ _ _ keep)
end
end L2
namespace L2
open PySem PySem.Spec PyProof.Rows
def Itz (K:PySem.W.Frag) (a b:Addr):It:=
 ⟨λi H=>∃ xs ys x y,yN K H a xs/\zT K H b ys/\xs[i]? = some x/\ys[i]? = some y,
  λi H v H'=>∃ T x y,v=.ref T/\H T=none/\H'=zY H T (.tup [x,y])/\(∀ xs,yN K H a xs->xs[i]? = some x)/\∀ ys,zT K H b ys->ys[i]? = some y,
  λi H=>∃ xs ys,yN K H a xs/\zT K H b ys/\i<=xs.length/\i<=ys.length/\(i=xs.length\/i=ys.length)⟩
theorem uK {vs:Array Value} (v:Option Value):Data.fields vs≠Data.cell v:=λz=>by cases z
theorem gP {vs:Array Value} {n:Nat} (v:Option Value):Data.seq vs n≠Data.cell v:=λz=>by cases z
theorem zG.turnT {X:Cx} {pins:List (Addr × Obj)} {σ:St} {H:Hp} {s:Shared} {h':Heap} {tk:Nat} {ch:List Addr} {T:Addr} {x y:V} {u v:Value} (I:zG X pins σ H s) (hf:∀ b∈ch,yY X pins H b) (keep:∀ b o,b∉ch->s.heap.get? b=some o->h'.get? b=some o)
  (hT:s.heap.objs.size<=T) (p:IsPair h' T u v) (rx:zV x u) (ry:zV y v):zG X pins σ (zY H T (.tup [x,y])) { s with heap:=h',toks:=tk }:=by
 have fr:H T=none:=I.hok.fresh hT
 have nT:∀ b o,s.heap.get? b=some o->b≠T:=λb o e z=>by rw [z] at e; exact absurd (Nat.lt_of_lt_of_le (Heap.lt_size e) hT) (Nat.lt_irrefl _)
 have v6:∀ b o,H b=some o->b∉ch:=λb o e z=>by rw [(hf b z).1] at e; cases e
 refine I.step (ch:=ch) (λb hb=>⟨(hf b hb).2.2.2.1,(hf b hb).2.1,(hf b hb).2.2.2.2.1,(hf b hb).2.2.2.2.2⟩) (λb o _ _ hc e _=>keep b o hc e) (λb o _ _ hc e _=>⟨o.slots,keep b o hc e⟩)
  (λb o _ e n=>by rw [zu (nT b o e)]; exact n) (λb o hc e=>⟨o,keep b o hc e⟩) (λb xs e=>by rw [zu (xG e fr)]; exact e) (λb o w e=>by rw [zu (xG e fr)]; exact e)
  (λb ps e=>⟨#[],by rw [zu (xG e fr),e]; simp⟩) (λm hm=>?_) (λb w e=>?_) I.bare
 ·obtain ⟨o,es,ep,ho,r⟩:=hm
  exact ⟨o,es,ep,keep _ o (λz=>(hf _ z).2.1 rfl) ho,r⟩
 ·by_cases hb:b=T
  ·subst hb
   rw [xF] at e
   cases e
   exact ⟨by show 2<=sizeLine; decide,[u,v],.cons rx (.cons ry .nil),⟨_,p,rfl,_,rfl⟩⟩
  ·rw [zu hb] at e
   refine (I.hok b w e).stay (λc q hc ec=>keep c q ?_ ec) (λc ec=>by rw [zu (xG ec fr)]; exact ec) λc xs ec=>by rw [zu (xG ec fr)]; exact ec
   rcases hc with z | z
   ·rw [z]
    exact v6 b w e
   ·exact v6 c _ z
theorem zG.turnN {X:Cx} {pins:List (Addr × Obj)} {σ:St} {H:Hp} {s:Shared} {h':Heap} {tk:Nat} {ch:List Addr} (I:zG X pins σ H s) (hf:∀ b∈ch,yY X pins H b) (keep:∀ b o,b∉ch->s.heap.get? b=some o->h'.get? b=some o) :
  zG X pins σ H { s with heap:=h',toks:=tk }:=by
 have v6:∀ b o,H b=some o->b∉ch:=λb o e z=>by rw [(hf b z).1] at e; cases e
 refine I.step (ch:=ch) (λb hb=>⟨(hf b hb).2.2.2.1,(hf b hb).2.1,(hf b hb).2.2.2.2.1,(hf b hb).2.2.2.2.2⟩) (λb o _ _ hc e _=>keep b o hc e) (λb o _ _ hc e _=>⟨o.slots,keep b o hc e⟩)
  (λb o _ e n=>n) (λb o hc e=>⟨o,keep b o hc e⟩) (λb xs e=>e) (λb o w e=>e) (λb ps e=>⟨#[],by rw [e]; simp⟩) (λm hm=>?_) (λb w e=>?_) I.bare
 ·obtain ⟨o,es,ep,ho,r⟩:=hm
  exact ⟨o,es,ep,keep _ o (λz=>(hf _ z).2.1 rfl) ho,r⟩
 ·refine (I.hok b w e).stay (λc q hc ec=>keep c q ?_ ec) (λc ec=>ec) λc xs ec=>ec
  rcases hc with z | z
  ·rw [z]
   exact v6 b w e
  ·exact v6 c _ z
theorem zMe {P:Program} {w:World} {K:PySem.W.Frag} {es:List Expr} {kk:Nat} {tp:Pos} {a b z TI TO i1 i2:Addr} (Z:Zp z TI TO i1 i2 [i1,a] [i2,b]) (na:a≠i1) (nb:b≠i2) :
  wE P w K (.Tuple es kk tp) (Itz K a b) [z,TI,TO,i1,i2] z (λi h=>IsZip h z TI TO .none/\IsPair h TI (.ref i1) (.ref i2)/\(∃ x y,IsPair h TO x y)/\h.IsTupleIter i1 a i/\h.IsListIter i2 b i) where
 mem:=by simp
 obj:=λi h ⟨t1,t2,⟨x,y,t3⟩,t4,t5⟩ c hc=>by
  simp only [List.mem_cons,List.not_mem_nil,or_false] at hc
  rcases hc with rfl | rfl | rfl | rfl | rfl
  ·exact ⟨_,t1,uK⟩
  ·exact ⟨_,t2,gP⟩
  ·exact ⟨_,t3,gP⟩
  ·obtain ⟨o,e,_,d⟩:=t4
   exact ⟨o,e,by rw [d]; exact uK⟩
  ·obtain ⟨o,e,_,d⟩:=t5
   exact ⟨o,e,by rw [d]; exact uK⟩
 keep:=λi h h' ⟨t1,t2,⟨x,y,t3⟩,t4,t5⟩ k=>⟨k z (by simp) _ t1,k TI (by simp) _ t2,⟨x,y,k TO (by simp) _ t3⟩,(by obtain ⟨o,e,r⟩:=t4; exact ⟨o,k i1 (by simp) o e,r⟩),(by obtain ⟨o,e,r⟩:=t5; exact ⟨o,k i2 (by simp) o e,r⟩)⟩
 item:=by
  intro X hP hw hK hc i pins s σ H E I hf ⟨t1,t2,⟨x0,y0,t3⟩,t4,t5⟩ hg
  subst hP hw hK
  obtain ⟨xs,ys,x,y,hq1,hq2,hx,hy⟩:=hg
  obtain ⟨its1,rv1,p1,_⟩:=I.tuple hq1
  obtain ⟨its2,rv2,p2,_⟩:=I.list hq2
  obtain ⟨u,hu,ru⟩:=rv1.get hx
  obtain ⟨v,hv,rv⟩:=rv2.get hy
  have hh:X.A.in1.handled=none:=I.ok.hd hc
  have l1:i < its1.toArray.size:=by rw [List.size_toArray]; exact (List.getElem?_eq_some_iff.mp hu).1
  have l2:i < its2.toArray.size:=by rw [List.size_toArray]; exact (List.getElem?_eq_some_iff.mp hv).1
  refine zIt (zH3 hh i1 a na its1.toArray) (Draws.list hh i2 b nb its2.toArray) Z t1 t2 t3 ⟨t4,p1⟩ ⟨t5,p2.isList⟩ l1 l2 ?_
  intro x' y' h1 tk px py z1 z2 z3 z4 z5 z6 keep
  have ex:x'=u:=by
   have q:its1.toArray[i]? = some x':=px
   simp only [List.getElem?_toArray] at q
   rw [hu] at q
   exact (Option.some.inj q).symm
  have ey:y'=v:=by
   have q:its2.toArray[i]? = some y':=py
   simp only [List.getElem?_toArray] at q
   rw [hv] at q
   exact (Option.some.inj q).symm
  subst ex ey
  refine ⟨_,rfl,wpAny_letOwnedTupleGo_zip (s:={ s with heap:=h1,toks:=tk }) z1 λh2 z7 sb=>?_⟩
  have zlt:z < s.heap.objs.size:=Heap.lt_size t1
  have keep2:∀ c o,c∉[z,TI,TO,i1,i2]->s.heap.get? c=some o->h2.get? c=some o:=λc o hc e=>by
   simp only [List.mem_cons,List.not_mem_nil,or_false,not_or] at hc
   exact sb.extBut c o hc.1 (keep c o hc.1 hc.2.2.1 hc.2.2.2.1 hc.2.2.2.2 e)
  have pT:IsPair h2 s.heap.objs.size x' y':=sb.extBut _ _ (Nat.ne_of_gt zlt) z6
  have I':=I.turnT (h':=h2) (tk:=tk) (ch:=[z,TI,TO,i1,i2]) (x:=x) (y:=y) hf keep2 (Nat.le_refl _) pT ru rv
  refine ⟨.ref s.heap.objs.size,_,I',rfl,⟨s.heap.objs.size,x,y,rfl,I.hok.fresh (Nat.le_refl _),rfl,λxs' q=>by rw [I.tuple_inj q hq1]; exact hx,λys' q=>by rw [I.list_inj q hq2]; exact hy⟩,
   ⟨z7,sb.extBut _ _ Z.a1 z2,⟨_,_,sb.extBut _ _ Z.a2 z3⟩,z4.1.extBut sb.extBut Z.a3,z5.1.extBut sb.extBut Z.a4⟩,λc hc=>?_⟩
  have:=(hf c hc).1
  rw [zu]
  ·exact this
  ·intro q
   obtain ⟨o,e,_⟩:∃ o,s.heap.get? c=some o/\True:=by
    simp only [List.mem_cons,List.not_mem_nil,or_false] at hc
    rcases hc with rfl | rfl | rfl | rfl | rfl
    ·exact ⟨_,t1,trivial⟩
    ·exact ⟨_,t2,trivial⟩
    ·exact ⟨_,t3,trivial⟩
    ·obtain ⟨o,e,_⟩:=t4; exact ⟨o,e,trivial⟩
    ·obtain ⟨o,e,_⟩:=t5; exact ⟨o,e,trivial⟩
   rw [q] at e
   exact absurd (Heap.lt_size e) (Nat.lt_irrefl _)
 done:=by
  intro X hP hw hK hc i pins s σ H E I hf ⟨t1,t2,⟨x0,y0,t3⟩,t4,t5⟩ hg
  subst hP hw hK
  obtain ⟨xs,ys,hq1,hq2,e1,e2,e3⟩:=hg
  obtain ⟨its1,rv1,p1,_⟩:=I.tuple hq1
  obtain ⟨its2,rv2,p2,_⟩:=I.list hq2
  have hh:X.A.in1.handled=none:=I.ok.hd hc
  have n1:its1.toArray.size=xs.length:=by rw [List.size_toArray]; exact rv1.length.symm
  have n2:its2.toArray.size=ys.length:=by rw [List.size_toArray]; exact rv2.length.symm
  refine zKG (zH3 hh i1 a na its1.toArray) (Draws.list hh i2 b nb its2.toArray) Z t1 t2 t3 ⟨t4,p1⟩ ⟨t5,p2.isList⟩ (by omega) (by omega) (by omega) ?_
  intro h1 tk keep
  refine ⟨rfl,I.turnN (h':=h1) (tk:=tk) (ch:=[z,TI,TO,i1,i2]) hf λc o hc e=>?_⟩
  simp only [List.mem_cons,List.not_mem_nil,or_false,not_or] at hc
  exact keep c o hc.1 hc.2.2.1 hc.2.2.2.1 hc.2.2.2.2 e
 self:=λ_ _ _ _ _ st h=>wpAny_pyIter_zip st.1 h
theorem vQ {x y z:Nat} (h1:x≠y) (h2:x≠z):x∉[y,z]:=by simp [h1,h2]
theorem zPO (n a b:Nat) (la:a < n) (lb:b < n):Zp (n + 4) (n + 2) (n + 3) n (n + 1) [n,a] [n + 1,b]:=by
 have e:∀ x y:Nat,x≠y->(x:Addr)≠y:=λ_ _ h=>h
 exact ⟨e _ _ (by omega),e _ _ (by omega),e _ _ (by omega),e _ _ (by omega),e _ _ (by omega),e _ _ (by omega),e _ _ (by omega),e _ _ (by omega),e _ _ (by omega),
  vQ (by omega) (by omega),vQ (by omega) (by omega),vQ (by omega) (by omega),vQ (by omega) (by omega),vQ (by omega) (by omega),vQ (by omega) (by omega)⟩
section
variable {X:Cx} {es:List Expr} {kk:Nat} {tp:Pos}
end
end L2
namespace L2
open PySem PySem.Spec PyProof.Rows
section
variable {κ:Type} [DecidableEq κ]
end
section
variable {P:Program} {w:World} {H:Hp} {h:Heap} {a:Addr}
end
section
variable {X:Cx} {pins:List (Addr × Obj)} {σ:St} {H:Hp} {s:Shared} {a:Addr} {y v:V} {u r:Value} {o:Option V} {A:Around} {E:Value->Shared->Prop}
end
section
variable {X:Cx} {pins:List (Addr × Obj)} {σ:St} {H:Hp} {s:Shared} {a:Addr} {kvs:List (wN × V)} {k:wN} {u:Value} {A:Around} {E:Value->Shared->Prop}
end
section
variable {X:Cx} {o i e value:Expr} {pos pos' tpos:Pos} {td ty tv:TE}
end
section
variable {X:Cx} {pos:Pos}
end
end L2
namespace L2
open PySem
section
variable {prog:Program} {w:World} {A:Around} {R:Result->Shared->Prop} {s:Shared}
theorem zIl {elt target iter cond:Expr} {scope:Scope} {pos:Pos} {it acc:Value} {env:Env} (Wd:Nat->Shared->Prop)
  (turn:∀ n s,Wd n s->wpAny (model prog w) A (pyNext it) (λr s1=>match r with
   | none=>R (.ok .next) s1
   | some v=>wpAny (model prog w) A (letOwnedTupleGo target it v) (λ_ s2=>wpAny (model prog w) A (assign target env v) (λ_ s3=>wpAny (model prog w) A (isTrue cond env (eval cond env)) (λok s4=>
     if ok=true then wpAny (model prog w) A (eval elt env) (λx s5=>wpAny (model prog w) A (call (.builtin "list.append") [acc,x]) (λ_ s6=>∃ m,m < n/\Wd m s6) (λ_ _=>False) s5) (λ_ _=>False) s4
     else ∃ m,m < n/\Wd m s4) (λ_ _=>False) s3) (λ_ _=>False) s2) (λ_ _=>False) s1) (λ_ _=>False) s)
  (n:Nat) (h:Wd n s):codeAny (model prog w) A (.compLoop (.ListComp elt [⟨target,iter,[cond],0⟩] scope pos) 0 it acc env) R s:=by
 refine codeAny_loop rfl Wd (λn s hI=>?_) n h
 show wpAny _ _ (Sem.onRaise (compTurn (.ListComp elt [⟨target,iter,[cond],0⟩] scope pos) 0 it acc env) _) _ _ s
 refine wpAny_noted ?_
 rw [compTurn_list]
 refine wpAny_bind (wpAny_standAt (wpAny_bind (wpAny_mono (turn n s hI) (λr s1 h1=>?_) λ_ _ z=>False.elim z)))
 cases r with
 | none=>exact wpAny_pure h1
 | some v=>
  refine wpAny_bind (wpAny_mono h1 (λ_ s2 h2=>?_) λ_ _ z=>False.elim z)
  refine wpAny_bind (wpAny_mono h2 (λ_ s3 h3=>?_) λ_ _ z=>False.elim z)
  refine wpAny_bind (wpAny_tests_one (wpAny_mono h3 (λok s4 h4=>?_) λ_ _ z=>False.elim z))
  cases ok with
  | false=>exact wpAny_pure ⟨rfl,h4⟩
  | true=>exact wpAny_bind (wpAny_bind (wpAny_mono h4 (λx s5 h5=>wpAny_bind (wpAny_mono h5 (λ_ s6 h6=>wpAny_pure (wpAny_pure ⟨rfl,h6⟩)) λ_ _ z=>False.elim z)) λ_ _ z=>False.elim z))
end
end L2
namespace L2
open PySem PySem.Spec PyProof.Rows
def zMP (J:It) (g:TG) (tc:TT) (te:TE) (Q:VK) (σ0:St) (H0:Hp):Prop:=∃ W:Nat->Nat->List V->St->Hp->Prop,(∃ m,W 0 m [] σ0 H0)/\∀ i m ys σ1 H,W i m ys σ1 H->
 (J.stop i H/\∀ p,H p=none->Q (.ref p) (zY H p (.lst ys)))\/(J.go i H/\ys.length < sizeLine/\∃ (N:V->St->Hp->Prop) (N0:St->Hp->Prop),(∀ y σ' H',N y σ' H'->∃ m',m' < m/\W (i + 1) m' (ys++[y]) σ' H')/\(∀ σ' H',N0 σ' H'->∃ m',m' < m/\W (i + 1) m' ys σ' H')∧
    ∀ x H',J.yld i H x H'->g x σ1 H' λσ2 H2=>tc σ2 H2 λb H3=>if b=true then te σ2 H3 λy H4=>N y σ2 H4 else N0 σ2 H3)
def zPa (own:List Str) (caps:List (Nat × Str)) (wi:TI) (g:TG) (tc:TT) (te:TE):TE:=λσ H Q=>wi σ H λJ H1=>zMP J g tc te Q (wY own caps σ) H1
section
variable {X:Cx} {scope:Scope} {own:List Str} {caps:List (Nat × Str)} {elt tg iter cond:Expr} {wi:TI} {g:TG} {tc:TT} {te:TE} {pos:Pos}
end
end L2
namespace L2
open PySem PySem.Spec PyProof.Rows
section
variable {prog:Program} {w:World} {A:Around} {E:Value->Shared->Prop} {s:Shared}
end
end L2
namespace L2
open PySem PySem.Spec PyProof.Rows
theorem zNa {K:PySem.W.Frag} {a:Addr} {xs:List V} {g:TG} {te:TE} {σ0:St} {H:Hp} {Q:VK} (Pv:Nat->List V->St->Hp->Prop) (h0:Pv 0 [] σ0 H) (hl:∀ i ys σ H,i<=xs.length->Pv i ys σ H->yN K H a xs/\ys.length<=i) (hz:xs.length<=sizeLine)
  (hs:∀ i x ys σ H,xs[i]? = some x->Pv i ys σ H->g x σ H λσ2 H2=>te σ2 H2 λy H3=>Pv (i + 1) (ys++[y]) σ2 H3)
  (hd:∀ ys σ H,Pv xs.length ys σ H->∀ p,H p=none->Q (.ref p) (zY H p (.lst ys))) :
  Xg (kT K a) g te Q σ0 H:=by
 refine ⟨λi m ys σ H=>m=xs.length - i/\i<=xs.length/\Pv i ys σ H,⟨xs.length,by simp,Nat.zero_le _,h0⟩,?_⟩
 rintro i m ys σ H ⟨rfl,hi,p⟩
 obtain ⟨q,hy⟩:=hl i ys σ H hi p
 by_cases hlt:i < xs.length
 ·refine .inr ⟨⟨xs,xs[i],q,by simp [hlt]⟩,by omega,λy σ' H'=>Pv (i + 1) (ys++[y]) σ' H',λy σ' H' z=>⟨xs.length - (i + 1),by omega,rfl,hlt,z⟩,λx H' y=>?_⟩
  obtain ⟨e,y⟩:=y
  subst e
  exact hs i x ys σ _ (y xs q) p
 ·have e:i=xs.length:=by omega
  subst e
  exact .inl ⟨⟨xs,q,Nat.le_refl _⟩,hd ys σ H p⟩
section
variable {X:Cx}
theorem zQD (hu:X.A.units + 64 < cLine):ye X (compareOp .NotEq) (λx y H Q=>∃ d e:PyData,Dp X.K H x d/\Dp X.K H y e/\d.canLay0=true/\e.canLay0=true/\d.depth<=60/\e.depth<=60/\Q (.bl (!PyData.eqv d e)) H):=by
 intro pins s σ H x y v u Q I rx ry h
 obtain ⟨d,e,hx,hy,hc,hc',hd,hd',q⟩:=h
 obtain ⟨_,r1⟩:=hx.reads I rx
 obtain ⟨_,r2⟩:=hy.reads I ry
 exact SeqAt.compareNe_reads r1 r2 hc hc' (by omega) ⟨.bl _,H,I,rfl,q⟩
end
end L2
namespace L2
open PySem PySem.Spec PyProof.Rows
section
variable {X:Cx}
end
end L2
namespace L2
open PySem
theorem ZB:bootBuiltins "max" = some (.builtin "max"):=by decide +kernel
end L2
namespace L2
open PySem PySem.Spec PyProof.Rows
theorem jp:bootBuiltins "sum" = some (.builtin "sum"):=by decide +kernel
theorem zHx:∀ {ns:List Int} {its:List Value},zR (ns.map V.int) its->∃ zs:List (Int × Tok),its=zs.map (λp=>Value.int p.1 p.2)/\zs.map (·.1)=ns
 | [],_,.nil=>⟨[],rfl,rfl⟩
 | n :: r,_,.cons h t=>by
  obtain ⟨zs,e1,e2⟩:=zHx t
  obtain ⟨tk,rfl⟩:=h
  exact ⟨(n,tk) :: zs,by rw [e1]; rfl,by rw [List.map_cons,e2]⟩
section
variable {X:Cx}
theorem jq (hc:X.calm=true):wv X (.builtin "sum") (λxs H Q=>∃ (p:Addr) (ns:List Int),xs=[.ref p]/\zT X.K H p (ns.map V.int)/\Q (.int ns.sum) H):=by
 intro pins s σ H xs us Q I r h
 obtain ⟨p,ns,rfl,hq,q⟩:=h
 obtain ⟨u,rfl,ru⟩:=jF r
 cases ru
 obtain ⟨its,rv,pl,hz⟩:=I.list hq
 obtain ⟨zs,e1,e2⟩:=zHx rv
 have e3:its.toArray=intItems zs.toArray:=by
  rw [e1]
  unfold intItems
  simp
 have hl:=pl.isList
 rw [e3] at hl
 refine sum_intListG (I.ok.hd hc) hl λh' tk t' kk=>⟨.int ns.sum,H,I.kept (h':=h') (t':=tk) kk,⟨t',?_⟩,q⟩
 rw [preSum_eq,List.take_of_length_le (by simp),e2]
end
end L2
namespace L2
open PySem PySem.Spec PyProof.Rows
theorem qN {a b c d:Nat} (h1:a < b) (h2:b<=c) (h3:c + 1<=d):d≠a:=by omega
theorem ZC {a b c:Nat} (h1:c=a + 1) (h2:c + 1<=b):b≠a:=by omega
theorem Xm {x:Str} {c:Addr}:∀ (names:List (Str × NameKind)) (n:Nat) (acc:List (Str × Addr)),(cellsFrom n names acc).lookup x=some c->((x,NameKind.cell)∈names/\n<=c)\/acc.lookup x=some c
 | [],_,_,h=>.inr h
 | (y,k) :: r,n,acc,h=>by
  unfold cellsFrom at h
  split at h
  ·rename_i hk
   rcases Xm r (n + 1) ((y,n) :: acc) h with ⟨a,b⟩ | z
   ·exact .inl ⟨List.mem_cons_of_mem _ a,by omega⟩
   ·rw [List.lookup_cons] at z
    by_cases e:(x == y)=true
    ·simp only [e] at z
     have e1:x=y:=eq_of_beq e
     have e2:k=.cell:=eq_of_beq hk
     subst e1
     subst e2
     cases z
     exact .inl ⟨List.mem_cons_self,Nat.le_refl _⟩
    ·have e':(x == y)=false:=by simpa using e
     simp only [e'] at z
     exact .inr z
  ·rcases Xm r n acc h with ⟨a,b⟩ | z
   ·exact .inl ⟨List.mem_cons_of_mem _ a,b⟩
   ·exact .inr z
theorem Ui {x:Str}:∀ (names:List (Str × NameKind)) (n:Nat) (acc:List (Str × Addr)),(x,NameKind.cell)∉names->(cellsFrom n names acc).lookup x=acc.lookup x
 | [],_,_,_=>rfl
 | (y,k) :: r,n,acc,h=>by
  have hr:(x,NameKind.cell)∉r:=λz=>h (List.mem_cons_of_mem _ z)
  unfold cellsFrom
  split
  ·rename_i hk
   have e2:k=.cell:=eq_of_beq hk
   rw [Ui r _ _ hr,List.lookup_cons]
   have e':(x == y)=false:=by
    cases q:x == y with
    | false=>rfl
    | true=>exact absurd (by rw [eq_of_beq q,e2]; exact List.mem_cons_self) h
   simp only [e']
  ·exact Ui r _ _ hr
theorem Uj:∀ (names:List (Str × NameKind)) (n:Nat) (acc:List (Str × Addr)),(∀ x c,acc.lookup x=some c->c < n)->(∀ x y c,acc.lookup x=some c->acc.lookup y=some c->x=y)->
  ∀ x y c,(cellsFrom n names acc).lookup x=some c->(cellsFrom n names acc).lookup y=some c->x=y
 | [],_,_,_,h2=>h2
 | (z,k) :: r,n,acc,h1,h2=>by
  unfold cellsFrom
  split
  ·have look:∀ x c,((z,n) :: acc).lookup x=some c->(x=z/\c=n)\/acc.lookup x=some c:=λx c e=>by
    rw [List.lookup_cons] at e
    cases q:x == z with
    | true=>
     simp only [q] at e
     exact .inl ⟨eq_of_beq q,(Option.some.inj e).symm⟩
    | false=>
     simp only [q] at e
     exact .inr e
   refine Uj r (n + 1) ((z,n) :: acc) (λx c e=>?_) λx y c e1 e2=>?_
   ·rcases look x c e with ⟨_,e⟩ | e
    ·rw [e]
     exact Nat.lt_succ_self n
    ·exact Nat.lt_succ_of_lt (h1 x c e)
   ·rcases look x c e1 with ⟨a1,b1⟩ | a1 <;> rcases look y c e2 with ⟨a2,b2⟩ | a2
    ·rw [a1,a2]
    ·have:=h1 y c a2
     rw [b1] at this
     exact absurd this (Nat.lt_irrefl n)
    ·have:=h1 x c a1
     rw [b2] at this
     exact absurd this (Nat.lt_irrefl n)
    ·exact h2 x y c a1 a2
  ·exact Uj r n acc h1 h2
theorem Xn {x:Str} {c:Addr}:∀ (names:List (Str × NameKind)) (h:Heap) (acc:List (Str × Addr)),(cellsFrom h.objs.size names acc).lookup x=some c->acc.lookup x=some c\/(pushCells h names).IsCell c none
 | [],_,_,e=>.inl e
 | (y,k) :: r,h,acc,e=>by
  unfold cellsFrom at e
  unfold pushCells
  split at e
  ·rename_i hk
   rw [if_pos hk]
   have q:=Xn (x:=x) (c:=c) r (h.push { cls:=.type "cell",data:=.cell none }) ((y,h.objs.size) :: acc) (by rw [Heap.size_push]; exact e)
   rcases q with q | q
   ·rw [List.lookup_cons] at q
    cases z:x == y with
    | true=>
     simp only [z] at q
     cases q
     exact .inr ⟨_,pushCells_keeps r _ _ _ (Heap.get?_push_size _ rfl),rfl⟩
    | false=>
     simp only [z] at q
     exact .inl q
   ·exact .inr q
  ·rename_i hk
   rw [if_neg hk]
   exact Xn r h acc e
theorem gQ:∀ {l:List (Str × NameKind)} {x:Str} {k:NameKind},(l.map (·.1)).Nodup->(x,k)∈l->l.lookup x=some k
 | [],_,_,_,h=>by cases h
 | (y,j) :: r,x,k,nd,h=>by
  rw [List.map_cons,List.nodup_cons] at nd
  rw [List.lookup_cons]
  rcases List.mem_cons.mp h with e | h
  ·cases e
   rw [beq_self_eq_true]
  ·have ne:(x == y)=false:=by
    cases q:x == y with
    | false=>rfl
    | true=>exact absurd (by rw [<- eq_of_beq q]; exact List.mem_map.mpr ⟨(x,k),h,rfl⟩) nd.1
   simp only [ne]
   exact gQ nd.2 h
theorem zES {M:Model} {A:Around} {E:Value->Shared->Prop} {s:Shared} {scope:Scope} {globals:Addr} {closure:List (Str × Addr)} {qual:Str} {func:Option Addr} {code:Value} {env:Env} {builtins:Addr} {Q:Env->Shared->Prop}
  (h:Q (newEnv scope s.heap.objs.size globals (cellsFrom (s.heap.objs.size + 1) scope.names closure) qual func code (some env) builtins) { s with heap:=pushCells (s.heap.push { cls:=.type "dict",data:=.dict #[] }) scope.names }) :
  wpAny M A (newFunctionEnv scope globals closure [] qual func code (some env) builtins) Q E s:=by
 simp only [newFunctionEnv,Option.isSome_some,if_true]
 refine wpAny_bind (wpAny_alloc ?_)
 refine wpAny_bind (wpAny_layCells _ (λname kind cells=>by cases hkc:kind == NameKind.cell <;> simp [hkc]) _ _ _ _ ?_)
 rw [show ({ s with heap:=s.heap.push { cls:=.type "dict",data:=.dict #[] } }:Shared).heap.objs.size=s.heap.objs.size + 1 from Heap.size_push ..]
 simp only [List.forIn_nil]
 exact wpAny_bind (wpAny_pure (wpAny_pure h))
abbrev yf (X:Cx) (scope:Scope) (N:List Str) (C:Addr) (s₀:Shared) (H₀:Hp) (ex:List Addr):Cx:=
 { X with N:=N,s₀:=s₀,H₀:=H₀,env:=compEnvC scope (cellsFrom (C + 1) scope.names (wX scope X.env)) C X.env,outer:=X.stack,ex:=ex,fn:=λx=>scope.names.lookup x == some .cell,pn:=[],xe:=λ_ _=>False }
structure vm (X:Cx) (scope:Scope) (own:List Str) (caps:List (Nat × Str)):Prop where
 kind:scope.kind=.function
 nod:(scope.names.map (·.1)).Nodup
 locs:∀ y∈scope.names,y.2=.local->scope.names.lookup y.1=some .local
 free:∀ y∈scope.names,y.2=.free->(X.env.cells.lookup y.1).isSome=true
 caps:∀ p∈caps,X.N[p.1]? = some p.2/\scope.names.lookup p.2=some .free/\(X.env.kindOf p.2=some .cell\/X.env.kindOf p.2=some .free)
section
variable {X:Cx} {scope:Scope} {own:List Str} {caps:List (Nat × Str)} {pins:List (Addr × Obj)} {σ:St} {H:Hp} {s s4:Shared} {C D:Addr} {fp:List Addr}
theorem gR (B:vm X scope own caps) {x:Str} {c n:Nat} (e:(cellsFrom n scope.names (wX scope X.env)).lookup x=some c):((x,NameKind.cell)∈scope.names/\n<=c)\/X.env.cells.lookup x=some c:=
 (Xm _ _ _ e).imp id λz=>(qM B.free z).1
theorem Uk (I:zG X pins σ H s) {x:Str} {c:Addr} (e:X.env.cells.lookup x=some c):c < s.heap.objs.size:=by
 obtain ⟨v,o,ho,_⟩:=I.cell x c e
 exact Heap.lt_size ho
theorem zPI (B:vm X scope own caps) (I:zG X pins σ H s) (hf:∀ b∈fp,yY X pins H b) (hC:s.heap.objs.size<=C) (hlt:∀ b∈fp,b < s.heap.objs.size):(yf X scope (zb own caps) C s H fp).Ok where
 mod:=I.ok.mod
 kind:=B.kind
 glob:=I.ok.glob
 blt:=I.ok.blt
 above:=hC
 inj:=Uj _ _ _ (λx c e=>Nat.lt_of_lt_of_le (Uk I (qM B.free e).1) (Nat.le_succ_of_le hC)) λx y c h1 h2=>I.ok.inj x y c (qM B.free h1).1 (qM B.free h2).1
 has:=λx h=>by
  have fr:(x,NameKind.free)∈scope.names->∃ c,(cellsFrom (C + 1) scope.names (wX scope X.env)).lookup x=some c:=λz=>by
   obtain ⟨c,e⟩:=Ug (env:=X.env) z
   exact Option.isSome_iff_exists.mp (PySem.W.cellsFrom_some _ _ _ (.inr (by rw [e]; rfl)))
  have ce:(x,NameKind.cell)∈scope.names->∃ c,(cellsFrom (C + 1) scope.names (wX scope X.env)).lookup x=some c:=λz=>
   Option.isSome_iff_exists.mp (PySem.W.cellsFrom_some _ _ _ (.inl (gQ B.nod z)))
  rcases h with h | h
  ·rcases K5 (show (relabel scope X.env).names.lookup x=some .cell from h) with ⟨_,z | z⟩ | z
   ·exact fr z
   ·exact ce z
   ·exact ce z
  ·rcases K5 (show (relabel scope X.env).names.lookup x=some .free from h) with ⟨z,_⟩ | z
   ·cases z
   ·exact fr z
 cab:=λx c h e=>by
  have hx:scope.names.lookup x=some .cell:=eq_of_beq h
  rcases Xm _ _ _ e with ⟨_,z⟩ | z
  ·exact Nat.le_trans hC (Nat.le_of_succ_le z)
  ·have:=gQ B.nod (qM B.free z).2
   rw [hx] at this
   cases this
 hd:=I.ok.hd
 frames:=I.ok.frames
 stk:=.inl rfl
 exf:=λb hb=>⟨λe=>by have:=hlt b hb; rw [e] at this; exact absurd (Nat.lt_of_lt_of_le this hC) (Nat.lt_irrefl _),λx c e=>by
  rcases gR B e with ⟨_,z⟩ | z
  ·exact qN (hlt b hb) hC z
  ·exact (hf b hb).2.2.2.2.1 x c z⟩
 bs:=I.bs
 bsz:=Nat.le_trans I.ok.bsz I.sz
 noex:=λb o e hb=>by
  rcases (hf b hb).2.2.2.1 with z | z
  ·exact I.ok.noex b o e z
  ·exact absurd (Nat.lt_of_lt_of_le (Heap.lt_size e) (Nat.le_trans I.ok.bsz z)) (Nat.lt_irrefl _)
 exfs:=λb hb z=>by
  rcases List.mem_cons.mp (I.stkSub b z) with e | z
  ·exact (hf b hb).2.1 e
  ·exact (hf b hb).2.2.1 z
 funs:=I.stack
 frf:=I.stkFree
theorem zJP (B:vm X scope own caps) (I:zG X pins σ H s) (hf:∀ b∈fp,yY X pins H b) (hC:s.heap.objs.size<=C) (hlt:∀ b∈fp,b < s.heap.objs.size)
  {m:Str->Option Value} (hn:s4.heap.Ns C m) (hk:∀ b o,s.heap.get? b=some o->s4.heap.get? b=some o) (hcell:∀ x c,(cellsFrom (C + 1) scope.names (wX scope X.env)).lookup x=some c->(wX scope X.env).lookup x=some c\/s4.heap.IsCell c none) (ho:s4.os=s.os) (hb:AllBare s4.gens) :
  zG (yf X scope (zb own caps) C s H fp) [] (wY own caps σ) H s4 where
 ok:=zPI B I hf hC hlt
 os:=ho
 bare:=hb
 base:=Un.kept hk
 loc:=⟨m,hn,λi x v h1 h2 h3=>by
  obtain ⟨j,hm,hs⟩:=zNd h1 h2
  obtain ⟨c1,c2,c3⟩:=B.caps _ hm
  obtain ⟨m',_,hl⟩:=I.loc
  have vis:qD X.env.scope x:=c3.elim (λz=>.inr (.inl z)) λz=>.inr (.inr z)
  obtain ⟨u,r,l⟩:=hl j x v c1 hs vis
  refine ⟨u,r,.inr ?_⟩
  have hm2:(x,NameKind.free)∈scope.names:=gM c2
  obtain ⟨c',hc'⟩:=Ug (env:=X.env) hm2
  have hc2:=(qM B.free hc').1
  have noc:(x,NameKind.cell)∉scope.names:=λz=>by
   have:=gQ B.nod z
   rw [c2] at this
   cases this
  refine ⟨?_,c',(Ui _ _ _ noc).trans hc',?_⟩
  ·show (relabel scope X.env).names.lookup x=some .cell\/(relabel scope X.env).names.lookup x=some .free
   rw [K8,c2,Option.map_some]
   split
   ·exact .inl rfl
   ·exact .inr rfl
  ·rcases l with ⟨k,_⟩ | ⟨_,c,e,z⟩
   ·rcases c3 with c3 | c3 <;> rw [c3] at k <;> cases k
   ·rw [hc2] at e
    cases e
    obtain ⟨o,e1,e2⟩:=z
    exact ⟨o,hk _ o e1,e2⟩⟩
 cell:=λx c e=>by
  rcases hcell x c e with z | z
  ·obtain ⟨v,o,e1,e2⟩:=I.cell x c (qM B.free z).1
   exact ⟨v,o,hk _ o e1,e2⟩
  ·exact ⟨none,z⟩
 free:=I.hok.fresh hC
 freeC:=λx c e=>by
  rcases gR B e with ⟨_,z⟩ | z
  ·exact I.hok.fresh (Nat.le_trans hC (Nat.le_of_succ_le z))
  ·exact I.freeC x c z
 pin:=λp hp=>by simp at hp
 hok:=I.hok.kept hk
 len:=by
  show (wY own caps σ).length=(zb own caps).length
  unfold wY zb
  simp
end
section
variable {X:Cx} {scope:Scope} {own:List Str} {caps:List (Nat × Str)} {elt tg iter cond:Expr} {wi:TI} {g:TG} {tc:TT} {te:TE} {pos:Pos}
theorem zGa {pins:List (Addr × Obj)} {σ:St} {H2:Hp} {s2:Shared} {it:Addr} {fp:List Addr} {tn:Nat->Heap->Prop} {J:It} {W:Nat->Nat->List V->St->Hp->Prop} {m0:Nat} {Q:VK} {E:Value->Shared->Prop} {RR:Value->Addr->Result->Shared->Prop}
  (B:vm X scope own caps) (hc:X.calm=true) (hg:∀ C s₀ H₀ ex,PG (yf X scope (zb own caps) C s₀ H₀ ex) tg g) (he:∀ C s₀ H₀ ex,PE (yf X scope (zb own caps) C s₀ H₀ ex) elt te)
  (I2:zG X pins σ H2 s2) (T:wE X.prog X.w X.K tg J fp it tn) (st2:tn 0 s2.heap) (f2:∀ b∈fp,yY X pins H2 b) (w0:W 0 m0 [] (wY own caps σ) H2)
  (turn:∀ i m ys σ1 H,W i m ys σ1 H->(J.stop i H/\∀ p,H p=none->Q (.ref p) (zY H p (.lst ys)))∨
   (J.go i H/\ys.length < sizeLine/\∃ N:V->St->Hp->Prop,(∀ y σ' H',N y σ' H'->∃ m',m' < m/\W (i + 1) m' (ys++[y]) σ' H')/\∀ x H',J.yld i H x H'->g x σ1 H' λσ2 H2=>te σ2 H2 λy H3=>N y σ2 H3))
  (hRR:∀ D C s6 H6 ys m,s6.heap.Ns C m->s2.heap.objs.size<=C->(∀ h',Heap.SameBut C s6.heap h'->zG X pins σ (zY H6 D (.lst ys)) { s6 with heap:=h' })->zY H6 D (.lst ys) C=none->Q (.ref D) (zY H6 D (.lst ys))->RR (.ref D) C (.ok .next) s6) :
  wpAny (model X.prog X.w) X.A (newList []) (λacc s3=>wpAny (model X.prog X.w) X.A (newFunctionEnv scope X.env.globals (wX scope X.env) [] X.env.qual none .none (some X.env)) (λcenv s4=>
   codeAny (model X.prog X.w) X.A (.compStart (.ListComp elt [⟨tg,iter,[],0⟩] scope pos) 0 (.ref it) acc { cenv with scope:=relabel scope X.env }) (RR acc cenv.locals) s4) E s3) E s2:=by
 have hlt:∀ b∈fp,b < s2.heap.objs.size:=λb hb=>by
  obtain ⟨o,ho,_⟩:=T.obj _ _ st2 b hb
  exact Heap.lt_size ho
 refine wpAny_newObj_type (zES ?_)
 dsimp only
 generalize hP:s2.heap.push { cls:=.type "list",dict:=none,data:=.seq ([]:List Value).toArray }=HD
 have hns:(pushCells (HD.push { cls:=.type "dict",data:=.dict #[] }) scope.names).Ns HD.objs.size (λ_=>none):=(Heap.Ns.new HD (.type "dict")).keeps (pushCells_keeps _ _)
 have hkp:∀ b o,HD.get? b=some o->(pushCells (HD.push { cls:=.type "dict",data:=.dict #[] }) scope.names).get? b=some o:=λb o e=>pushCells_keeps _ _ b o (Heap.get?_push_of_some _ e)
 have hcell:∀ x c,(cellsFrom (HD.objs.size + 1) scope.names (wX scope X.env)).lookup x=some c->(wX scope X.env).lookup x=some c\/(pushCells (HD.push { cls:=.type "dict",data:=.dict #[] }) scope.names).IsCell c none:=λx c e=>
  Xn _ _ _ (by rw [Heap.size_push]; exact e)
 generalize hP4:pushCells (HD.push { cls:=.type "dict",data:=.dict #[] }) scope.names=h4 at hns hkp hcell |-
 have hCD:HD.objs.size=s2.heap.objs.size + 1:=by rw [<- hP,Heap.size_push]
 have hDC:s2.heap.objs.size≠HD.objs.size:=by omega
 have hle:s2.heap.objs.size<=HD.objs.size:=by omega
 have old:∀ b o,s2.heap.get? b=some o->h4.get? b=some o:=λb o eb=>hkp b o (by rw [<- hP]; exact Heap.get?_push_of_some _ eb)
 have hD4:h4.get? s2.heap.objs.size=some { cls:=.type "list",data:=.seq ([]:List Value).toArray 0 }:=hkp _ _ (by rw [<- hP]; exact Heap.get?_push_size _ rfl)
 have IY:zG (yf X scope (zb own caps) HD.objs.size s2 H2 fp) [] (wY own caps σ) H2 { s2 with heap:=h4 }:=
  zJP B I2 f2 (by omega) hlt hns old hcell rfl I2.bare
 have stat:∀ {H':Hp},(∀ b∈fp,H' b=none)->∀ b∈fp,yY (yf X scope (zb own caps) HD.objs.size s2 H2 fp) [] H' b:=λ{H'} hn b hb=>by
  have hb2:=hlt b hb
  refine ⟨hn b hb,?_,λz=>?_,.inl hb,λx c ec=>(match gR B ec with | .inl z=>qN hb2 hle z.2 | .inr z=>(f2 b hb).2.2.2.2.1 x c z),λp hp=>by simp at hp⟩
  ·exact Nat.ne_of_lt (Nat.lt_of_lt_of_le hb2 hle)
  ·rcases List.mem_cons.mp (I2.stkSub b z) with e | z
   ·exact (f2 b hb).2.1 e
   ·exact (f2 b hb).2.2.1 z
 have statD:∀ {H':Hp},H' s2.heap.objs.size=none->yY (yf X scope (zb own caps) HD.objs.size s2 H2 fp) [] H' s2.heap.objs.size:=λ{H'} hn=>by
  refine ⟨hn,hDC,λz=>?_,.inr (Nat.le_refl _),λx c ec z=>?_,λp hp=>by simp at hp⟩
  ·obtain ⟨_,o,ho,_⟩:=I2.stack.mem z
   exact absurd (Heap.lt_size ho) (Nat.lt_irrefl _)
  ·rcases gR B ec with ⟨_,y⟩ | y
   ·exact ZC hCD y z
   ·have:=Uk I2 y
    rw [z] at this
    exact Nat.lt_irrefl _ this
 have jL:∀ b∈fp,b≠s2.heap.objs.size:=λb hb=>Nat.ne_of_lt (hlt b hb)
 have IY':zG (yf X scope (zb own caps) HD.objs.size s2 H2 fp) [(s2.heap.objs.size,yr [] 0)] (wY own caps σ) H2 { s2 with heap:=h4 }:=
  IY.pins_of λp hp=>by
   rw [List.mem_singleton.mp hp]
   have z:=statD (I2.hok.fresh (Nat.le_refl _))
   exact ⟨hD4,z.1,z.2.1,z.2.2.1,λv z=>by cases z⟩
 have loop:∀ s3:Shared,s3={ s2 with heap:=h4 }->
   codeAny (model X.prog X.w) X.A (.compLoop (.ListComp elt [⟨tg,iter,[],0⟩] scope pos) 0 (.ref it) (.ref s2.heap.objs.size) (compEnvC scope (cellsFrom (HD.objs.size + 1) scope.names (wX scope X.env)) HD.objs.size X.env))
    (RR (.ref s2.heap.objs.size) HD.objs.size) s3:=by
  rintro s3 rfl
  refine zKA (λn s'=>∃ i ys σ' H' its k,zG (yf X scope (zb own caps) HD.objs.size s2 H2 fp) [(s2.heap.objs.size,yr its k)] σ' H' s'/\tn i s'.heap/\(∀ b∈fp,H' b=none)∧
   zR ys its/\ys.length<=sizeLine/\W i n ys σ' H') ?_ m0 ⟨0,[],_,H2,[],0,IY',T.keep _ _ _ st2 λb hb o eb=>old b o eb,λb hb=>(f2 b hb).1,.nil,Nat.zero_le _,w0⟩
  rintro n s5 ⟨i,ys,σ5,H5,its,k,I5,st5,fr5,rv5,hz5,w5⟩
  have stat5:∀ {H':Hp},(∀ b∈fp,H' b=none)->∀ b∈fp,yY (yf X scope (zb own caps) HD.objs.size s2 H2 fp) [(s2.heap.objs.size,yr its k)] H' b:=λ{H'} hn b hb=>by
   obtain ⟨a1,a2,a3,a4,a5,_⟩:=stat hn b hb
   refine ⟨a1,a2,a3,a4,a5,λp hp=>?_⟩
   have hp':p∈[(s2.heap.objs.size,yr its k)]:=hp
   rw [List.mem_singleton.mp hp']
   exact Ne.symm (jL b hb)
  rcases turn i n ys σ5 H5 w5 with ⟨stop,qn⟩ | ⟨go,hlen,N,hN,step⟩
  ·refine zk (T.done (yf X scope (zb own caps) HD.objs.size s2 H2 fp) rfl rfl rfl hc i _ s5 σ5 H5 _ I5 (stat5 fr5) st5 stop) λr s6 ⟨hr,I6⟩=>?_
   subst hr
   obtain ⟨pD1,pD2,_⟩:=I6.pin (s2.heap.objs.size,yr its k) (List.mem_append_right _ List.mem_cons_self)
   obtain ⟨m6,hn6,_⟩:=I6.loc
   refine hRR _ _ s6 H5 ys m6 hn6 (by omega) (λh' sb=>?_) (by rw [zu (Ne.symm hDC)]; exact I6.free) (qn _ pD2)
   have hC5:H5 HD.objs.size=none:=I6.free
   have nb:∀ b o,s2.heap.get? b=some o->b≠HD.objs.size/\b≠s2.heap.objs.size:=λb o eb=>by
    have hb:=Heap.lt_size eb
    exact ⟨Nat.ne_of_lt (Nat.lt_of_lt_of_le hb hle),Nat.ne_of_lt hb⟩
   have nt:∀ b o,H5 b=some o->b≠s2.heap.objs.size:=λb o eb z=>by rw [z] at eb; rw [show H5 s2.heap.objs.size=none from pD2] at eb; cases eb
   have un:Un (vI X.stack) fp H2 (zY H5 s2.heap.objs.size (.lst ys)) s2.heap h':=
    ⟨λb o eb n1 n2 n3=>sb.extBut b o (nb b o eb).1 (I6.base.keep b o eb n1 n2 n3),
     λb o eb n1 n2 n3=>by
      obtain ⟨sl,e1⟩:=I6.base.slot b o eb n1 n2 n3
      exact ⟨sl,sb.extBut b _ (nb b o eb).1 e1⟩,
     λb o eb n1 n3=>by
      rw [zu (nb b o eb).2]
      exact I6.base.free b o eb n1 n3,
     λb o eb n3=>by
      obtain ⟨o',e1⟩:=I6.base.there b o eb n3
      exact ⟨o',sb.extBut b _ (nb b o eb).1 e1⟩,
     λb xs eb=>by
      have e1:=I6.base.tups b xs eb
      rw [zu (nt b _ e1)]
      exact e1,
     λb o u eb=>by
      have e1:=I6.base.frzs b o u eb
      rw [zu (nt b _ e1)]
      exact e1,
     λb ps eb=>by
      obtain ⟨more,e1⟩:=I6.base.tbls b ps eb
      refine ⟨more,?_⟩
      rw [zu (nt b _ e1)]
      exact e1⟩
   have ok5:xU X.prog X.w (zY H5 s2.heap.objs.size (.lst ys)) h':=λb u eb=>by
    by_cases hb:b=s2.heap.objs.size
    ·subst hb
     rw [xF] at eb
     cases eb
     exact ⟨hz5,its,k,rv5,sb.extBut _ _ hDC pD1⟩
    ·rw [zu hb] at eb
     refine (I6.hok b u eb).stay (λc v hcv ev=>sb.extBut c v ?_ ev) (λc ec=>by rw [zu (nt c _ ec)]; exact ec) λc xs ec=>by rw [zu (nt c _ ec)]; exact ec
     rintro rfl
     rcases hcv with z | z
     ·rw [<- z,hC5] at eb
      cases eb
     ·rw [hC5] at z
      cases z
   exact I2.call' (s':={ s6 with heap:=h' }) (ch:=fp) I6.os un ok5 I6.bare λb hb=>⟨(f2 b hb).2.2.2.1,(f2 b hb).2.1,(f2 b hb).2.2.2.2.1,(f2 b hb).2.2.2.2.2⟩
  ·refine zk (T.item (yf X scope (zb own caps) HD.objs.size s2 H2 fp) rfl rfl rfl hc i _ s5 σ5 H5 _ I5 (stat5 fr5) st5 go) λr s6 ⟨u,hr,h6⟩=>?_
   subst hr
   refine zk h6 λ_ s7 ⟨x,H7,I7,r7,y7,st7,fr7⟩=>?_
   have I7':=I7.pinned (stat5 fr7) (T.obj _ _ st7)
   refine zk (hg HD.objs.size s2 H2 fp _ s7 σ5 H7 x u _ I7' r7 (step x H7 y7)) λ_ s8 ⟨σ8,H8,I8,q8⟩=>?_
   refine zk (he HD.objs.size s2 H2 fp _ s8 σ8 H8 _ I8 q8) λyv s9 ⟨y,H9,I9,r9,n9⟩=>?_
   obtain ⟨m',hm',w9⟩:=hN y σ8 H9 n9
   have pD9:=(I9.pin (s2.heap.objs.size,yr its k) (List.mem_append_right _ (List.mem_append_left _ List.mem_cons_self))).2.1
   have hl:its.length=ys.length:=rv5.length.symm
   refine zJO (Y:=yf X scope (zb own caps) HD.objs.size s2 H2 fp) (its:=its) (k:=k) (pl:=gF fp s7.heap) I9 (statD pD9) rfl (by omega) λh' k' tk keep I'=>?_
   refine ⟨m',hm',i + 1,ys++[y],σ8,H9,its++[yv],k',I',?_,λb hb=>?_,rv5.append (.cons r9 .nil),?_,w9⟩
   ·refine T.keep _ _ _ st7 λb hb o eb=>keep b o (jL b hb) ?_
    exact (I9.pin (b,o) (List.mem_append_right _ (List.mem_append_right _ (jm hb eb)))).1
   ·obtain ⟨o,eb,_⟩:=T.obj _ _ st7 b hb
    exact (I9.pin (b,o) (List.mem_append_right _ (List.mem_append_right _ (jm hb eb)))).2.1
   ·rw [List.length_append,List.length_singleton]
    omega
 exact codeAny_compStart_list (loop _ rfl) (T.self _ 0 _ _ _ (T.keep _ _ _ st2 λb hb o eb=>old b o eb) (loop _ rfl))
theorem Ul (B:vm X scope own caps) (hc:X.calm=true) (hi:PI X tg iter wi) (hg:∀ C s₀ H₀ ex,PG (yf X scope (zb own caps) C s₀ H₀ ex) tg g)
  (he:∀ C s₀ H₀ ex,PE (yf X scope (zb own caps) C s₀ H₀ ex) elt te) (hs:∀ x,foldedSetIterable iter X.env x=pure x:=by intro _; rfl) :
  PE X (.ListComp elt [⟨tg,iter,[],0⟩] scope pos) (K9 own caps wi g te):=by
 intro pins s σ H Q I h
 rw [eval_ListComp]
 refine wpAny_comprehension_free (use:=none) rfl hs (Uf B.free) B.kind B.locs ?_
 refine zk (hi pins s σ H _ I h) λxv s1 h1=>zk h1 λitv s2 h2=>?_
 obtain ⟨it,fp,tn,J,H2,e,I2,T,st2,f2,W,⟨m0,w0⟩,turn⟩:=h2
 subst e
 refine zGa (RR:=λacc C=>compPost (model X.prog X.w) X.A X.xe none (EP X pins σ Q) acc C) B hc hg he I2 T st2 f2 w0 turn λD C s6 H6 ys m hn hC J6 hC6 q=>?_
 exact ⟨m,hn,λh' sb=>⟨.ref D,_,J6 h' sb,rfl,q⟩⟩
theorem zMy {i:Nat} {y:Str} {py spos:Pos} (hN:X.N.Nodup) (hy:X.N[i]? = some y) (hl:X.env.scope.names.lookup y=some .local) (B:vm X scope own caps) (hc:X.calm=true) (hi:PI X tg iter wi) (hg:∀ C s₀ H₀ ex,PG (yf X scope (zb own caps) C s₀ H₀ ex) tg g)
  (he:∀ C s₀ H₀ ex,PE (yf X scope (zb own caps) C s₀ H₀ ex) elt te) (hsw:swapsWith (.ListComp elt [⟨tg,iter,[],0⟩] scope pos) (some (.Name y py)) spos.line X.env=pure true) (hs:∀ x,foldedSetIterable iter X.env x=pure x:=by intro _; rfl) :
  PS X (.Assign [.Name y py] (.ListComp elt [⟨tg,iter,[],0⟩] scope pos) spos) (v7 (K9 own caps wi g te) (gE i)):=by
 intro pins s σ H D0 I h
 rw [exec_Assign_Name_used _ _ _ _ hsw]
 refine wpAny_bind (wpAny_standAt (wpAny_bind ?_))
 change wpAny _ X.A (do let _ <- comprehension (.ListComp elt [⟨tg,iter,[],0⟩] scope pos) scope X.env _ (newList []) false (eval iter X.env) (some (assign (.Name y py) X.env))) _ _ s
 refine wpAny_bind (wpAny_mono (wpAny_comprehension_free (use:=some (assign (.Name y py) X.env)) (Q:=λ_ s'=>SP X pins D0 .next s') rfl hs (Uf B.free) B.kind B.locs ?_) (λ_ s' hq=>wpAny_pure (wpAny_pure hq)) λ_ _ e=>e)
 refine zk (hi pins s σ H _ I h) λxv s1 h1=>zk h1 λitv s2 h2=>?_
 obtain ⟨it,fp,tn,J,H2,e,I2,T,st2,f2,W,⟨m0,w0⟩,turn⟩:=h2
 subst e
 refine zGa (Q:=λx H1=>D0.nx (σ.set i (some x)) H1) (RR:=λacc C=>compPost (model X.prog X.w) X.A X.xe (some (assign (.Name y py) X.env)) (λ_ s'=>SP X pins D0 .next s') acc C) B hc hg he I2 T st2 f2 w0 turn λD C s6 H6 ys m hn hC J6 hC6 q=>?_
 have I6:zG X pins σ (zY H6 D (.lst ys)) s6:=J6 s6.heap (.refl ..)
 have CL:C≠X.env.locals:=λz=>by rw [z] at hC; exact absurd (Nat.lt_of_lt_of_le I2.lt hC) (Nat.lt_irrefl _)
 have CC:∀ x c,X.env.cells.lookup x=some c->c≠C:=λx c ec z=>by
  obtain ⟨v,o,ho,_⟩:=I2.cell x c ec
  rw [z] at ho
  exact absurd (Nat.lt_of_lt_of_le (Heap.lt_size ho) hC) (Nat.lt_irrefl _)
 have CP:∀ p∈X.pn++pins,p.1≠C:=λp hp z=>by
  have hl:=Heap.lt_size (I2.pin p hp).1
  rw [z] at hl
  exact absurd (Nat.lt_of_lt_of_le hl hC) (Nat.lt_irrefl _)
 change wpAny _ X.A (assign (.Name y py) X.env (.ref D)) _ _ s6
 refine wpAny_assign_Name (W4 I6 hN hy (.inl hl) (v:=.ref D) rfl (λs7 I7 ⟨a,sb,ha⟩=>?_) (.inr hl))
 have aC:C≠a:=λz=>by
  rcases ha with e | e
  ·exact CL (z.trans e)
  ·exact CC _ _ e z.symm
 refine ⟨m,hn.sameBut sb aC,λh' sb'=>⟨_,_,I7.turned (h':=h') (t':=s7.toks) (it:=C) (λb o hb eb=>sb'.extBut b o hb eb) hC6 CL (.inr (Nat.le_trans I2.sz hC)) CC CP,q⟩⟩
theorem zIm {pins:List (Addr × Obj)} {σ:St} {H2:Hp} {s2:Shared} {it:Addr} {fp:List Addr} {tn:Nat->Heap->Prop} {J:It} {W:Nat->Nat->List V->St->Hp->Prop} {m0:Nat} {Q:VK} {E:Value->Shared->Prop} {RR:Value->Addr->Result->Shared->Prop}
  (B:vm X scope own caps) (hc:X.calm=true) (hg:∀ C s₀ H₀ ex,PG (yf X scope (zb own caps) C s₀ H₀ ex) tg g) (ht:∀ C s₀ H₀ ex,PT (yf X scope (zb own caps) C s₀ H₀ ex) cond tc) (he:∀ C s₀ H₀ ex,PE (yf X scope (zb own caps) C s₀ H₀ ex) elt te)
  (I2:zG X pins σ H2 s2) (T:wE X.prog X.w X.K tg J fp it tn) (st2:tn 0 s2.heap) (f2:∀ b∈fp,yY X pins H2 b) (w0:W 0 m0 [] (wY own caps σ) H2)
  (turn:∀ i m ys σ1 H,W i m ys σ1 H->(J.stop i H/\∀ p,H p=none->Q (.ref p) (zY H p (.lst ys)))∨
   (J.go i H/\ys.length < sizeLine/\∃ (N:V->St->Hp->Prop) (N0:St->Hp->Prop),(∀ y σ' H',N y σ' H'->∃ m',m' < m/\W (i + 1) m' (ys++[y]) σ' H')/\(∀ σ' H',N0 σ' H'->∃ m',m' < m/\W (i + 1) m' ys σ' H')∧
    ∀ x H',J.yld i H x H'->g x σ1 H' λσ2 H2=>tc σ2 H2 λb H3=>if b=true then te σ2 H3 λy H4=>N y σ2 H4 else N0 σ2 H3))
  (hRR:∀ D C s6 H6 ys m,s6.heap.Ns C m->s2.heap.objs.size<=C->(∀ h',Heap.SameBut C s6.heap h'->zG X pins σ (zY H6 D (.lst ys)) { s6 with heap:=h' })->zY H6 D (.lst ys) C=none->Q (.ref D) (zY H6 D (.lst ys))->RR (.ref D) C (.ok .next) s6) :
  wpAny (model X.prog X.w) X.A (newList []) (λacc s3=>wpAny (model X.prog X.w) X.A (newFunctionEnv scope X.env.globals (wX scope X.env) [] X.env.qual none .none (some X.env)) (λcenv s4=>
   codeAny (model X.prog X.w) X.A (.compStart (.ListComp elt [⟨tg,iter,[cond],0⟩] scope pos) 0 (.ref it) acc { cenv with scope:=relabel scope X.env }) (RR acc cenv.locals) s4) E s3) E s2:=by
 have hlt:∀ b∈fp,b < s2.heap.objs.size:=λb hb=>by
  obtain ⟨o,ho,_⟩:=T.obj _ _ st2 b hb
  exact Heap.lt_size ho
 refine wpAny_newObj_type (zES ?_)
 dsimp only
 generalize hP:s2.heap.push { cls:=.type "list",dict:=none,data:=.seq ([]:List Value).toArray }=HD
 have hns:(pushCells (HD.push { cls:=.type "dict",data:=.dict #[] }) scope.names).Ns HD.objs.size (λ_=>none):=(Heap.Ns.new HD (.type "dict")).keeps (pushCells_keeps _ _)
 have hkp:∀ b o,HD.get? b=some o->(pushCells (HD.push { cls:=.type "dict",data:=.dict #[] }) scope.names).get? b=some o:=λb o e=>pushCells_keeps _ _ b o (Heap.get?_push_of_some _ e)
 have hcell:∀ x c,(cellsFrom (HD.objs.size + 1) scope.names (wX scope X.env)).lookup x=some c->(wX scope X.env).lookup x=some c\/(pushCells (HD.push { cls:=.type "dict",data:=.dict #[] }) scope.names).IsCell c none:=λx c e=>
  Xn _ _ _ (by rw [Heap.size_push]; exact e)
 generalize hP4:pushCells (HD.push { cls:=.type "dict",data:=.dict #[] }) scope.names=h4 at hns hkp hcell |-
 have hCD:HD.objs.size=s2.heap.objs.size + 1:=by rw [<- hP,Heap.size_push]
 have hDC:s2.heap.objs.size≠HD.objs.size:=by omega
 have hle:s2.heap.objs.size<=HD.objs.size:=by omega
 have old:∀ b o,s2.heap.get? b=some o->h4.get? b=some o:=λb o eb=>hkp b o (by rw [<- hP]; exact Heap.get?_push_of_some _ eb)
 have hD4:h4.get? s2.heap.objs.size=some { cls:=.type "list",data:=.seq ([]:List Value).toArray 0 }:=hkp _ _ (by rw [<- hP]; exact Heap.get?_push_size _ rfl)
 have IY:zG (yf X scope (zb own caps) HD.objs.size s2 H2 fp) [] (wY own caps σ) H2 { s2 with heap:=h4 }:=
  zJP B I2 f2 (by omega) hlt hns old hcell rfl I2.bare
 have stat:∀ {H':Hp},(∀ b∈fp,H' b=none)->∀ b∈fp,yY (yf X scope (zb own caps) HD.objs.size s2 H2 fp) [] H' b:=λ{H'} hn b hb=>by
  have hb2:=hlt b hb
  refine ⟨hn b hb,?_,λz=>?_,.inl hb,λx c ec=>(match gR B ec with | .inl z=>qN hb2 hle z.2 | .inr z=>(f2 b hb).2.2.2.2.1 x c z),λp hp=>by simp at hp⟩
  ·exact Nat.ne_of_lt (Nat.lt_of_lt_of_le hb2 hle)
  ·rcases List.mem_cons.mp (I2.stkSub b z) with e | z
   ·exact (f2 b hb).2.1 e
   ·exact (f2 b hb).2.2.1 z
 have statD:∀ {H':Hp},H' s2.heap.objs.size=none->yY (yf X scope (zb own caps) HD.objs.size s2 H2 fp) [] H' s2.heap.objs.size:=λ{H'} hn=>by
  refine ⟨hn,hDC,λz=>?_,.inr (Nat.le_refl _),λx c ec z=>?_,λp hp=>by simp at hp⟩
  ·obtain ⟨_,o,ho,_⟩:=I2.stack.mem z
   exact absurd (Heap.lt_size ho) (Nat.lt_irrefl _)
  ·rcases gR B ec with ⟨_,y⟩ | y
   ·exact ZC hCD y z
   ·have:=Uk I2 y
    rw [z] at this
    exact Nat.lt_irrefl _ this
 have jL:∀ b∈fp,b≠s2.heap.objs.size:=λb hb=>Nat.ne_of_lt (hlt b hb)
 have IY':zG (yf X scope (zb own caps) HD.objs.size s2 H2 fp) [(s2.heap.objs.size,yr [] 0)] (wY own caps σ) H2 { s2 with heap:=h4 }:=
  IY.pins_of λp hp=>by
   rw [List.mem_singleton.mp hp]
   have z:=statD (I2.hok.fresh (Nat.le_refl _))
   exact ⟨hD4,z.1,z.2.1,z.2.2.1,λv z=>by cases z⟩
 have loop:∀ s3:Shared,s3={ s2 with heap:=h4 }->
   codeAny (model X.prog X.w) X.A (.compLoop (.ListComp elt [⟨tg,iter,[cond],0⟩] scope pos) 0 (.ref it) (.ref s2.heap.objs.size) (compEnvC scope (cellsFrom (HD.objs.size + 1) scope.names (wX scope X.env)) HD.objs.size X.env))
    (RR (.ref s2.heap.objs.size) HD.objs.size) s3:=by
  rintro s3 rfl
  refine zIl (λn s'=>∃ i ys σ' H' its k,zG (yf X scope (zb own caps) HD.objs.size s2 H2 fp) [(s2.heap.objs.size,yr its k)] σ' H' s'/\tn i s'.heap/\(∀ b∈fp,H' b=none)∧
   zR ys its/\ys.length<=sizeLine/\W i n ys σ' H') ?_ m0 ⟨0,[],_,H2,[],0,IY',T.keep _ _ _ st2 λb hb o eb=>old b o eb,λb hb=>(f2 b hb).1,.nil,Nat.zero_le _,w0⟩
  rintro n s5 ⟨i,ys,σ5,H5,its,k,I5,st5,fr5,rv5,hz5,w5⟩
  have stat5:∀ {H':Hp},(∀ b∈fp,H' b=none)->∀ b∈fp,yY (yf X scope (zb own caps) HD.objs.size s2 H2 fp) [(s2.heap.objs.size,yr its k)] H' b:=λ{H'} hn b hb=>by
   obtain ⟨a1,a2,a3,a4,a5,_⟩:=stat hn b hb
   refine ⟨a1,a2,a3,a4,a5,λp hp=>?_⟩
   have hp':p∈[(s2.heap.objs.size,yr its k)]:=hp
   rw [List.mem_singleton.mp hp']
   exact Ne.symm (jL b hb)
  rcases turn i n ys σ5 H5 w5 with ⟨stop,qn⟩ | ⟨go,hlen,N,N0,hN,hN0,step⟩
  ·refine zk (T.done (yf X scope (zb own caps) HD.objs.size s2 H2 fp) rfl rfl rfl hc i _ s5 σ5 H5 _ I5 (stat5 fr5) st5 stop) λr s6 ⟨hr,I6⟩=>?_
   subst hr
   obtain ⟨pD1,pD2,_⟩:=I6.pin (s2.heap.objs.size,yr its k) (List.mem_append_right _ List.mem_cons_self)
   obtain ⟨m6,hn6,_⟩:=I6.loc
   refine hRR _ _ s6 H5 ys m6 hn6 (by omega) (λh' sb=>?_) (by rw [zu (Ne.symm hDC)]; exact I6.free) (qn _ pD2)
   have hC5:H5 HD.objs.size=none:=I6.free
   have nb:∀ b o,s2.heap.get? b=some o->b≠HD.objs.size/\b≠s2.heap.objs.size:=λb o eb=>by
    have hb:=Heap.lt_size eb
    exact ⟨Nat.ne_of_lt (Nat.lt_of_lt_of_le hb hle),Nat.ne_of_lt hb⟩
   have nt:∀ b o,H5 b=some o->b≠s2.heap.objs.size:=λb o eb z=>by rw [z] at eb; rw [show H5 s2.heap.objs.size=none from pD2] at eb; cases eb
   have un:Un (vI X.stack) fp H2 (zY H5 s2.heap.objs.size (.lst ys)) s2.heap h':=
    ⟨λb o eb n1 n2 n3=>sb.extBut b o (nb b o eb).1 (I6.base.keep b o eb n1 n2 n3),
     λb o eb n1 n2 n3=>by
      obtain ⟨sl,e1⟩:=I6.base.slot b o eb n1 n2 n3
      exact ⟨sl,sb.extBut b _ (nb b o eb).1 e1⟩,
     λb o eb n1 n3=>by
      rw [zu (nb b o eb).2]
      exact I6.base.free b o eb n1 n3,
     λb o eb n3=>by
      obtain ⟨o',e1⟩:=I6.base.there b o eb n3
      exact ⟨o',sb.extBut b _ (nb b o eb).1 e1⟩,
     λb xs eb=>by
      have e1:=I6.base.tups b xs eb
      rw [zu (nt b _ e1)]
      exact e1,
     λb o u eb=>by
      have e1:=I6.base.frzs b o u eb
      rw [zu (nt b _ e1)]
      exact e1,
     λb ps eb=>by
      obtain ⟨more,e1⟩:=I6.base.tbls b ps eb
      refine ⟨more,?_⟩
      rw [zu (nt b _ e1)]
      exact e1⟩
   have ok5:xU X.prog X.w (zY H5 s2.heap.objs.size (.lst ys)) h':=λb u eb=>by
    by_cases hb:b=s2.heap.objs.size
    ·subst hb
     rw [xF] at eb
     cases eb
     exact ⟨hz5,its,k,rv5,sb.extBut _ _ hDC pD1⟩
    ·rw [zu hb] at eb
     refine (I6.hok b u eb).stay (λc v hcv ev=>sb.extBut c v ?_ ev) (λc ec=>by rw [zu (nt c _ ec)]; exact ec) λc xs ec=>by rw [zu (nt c _ ec)]; exact ec
     rintro rfl
     rcases hcv with z | z
     ·rw [<- z,hC5] at eb
      cases eb
     ·rw [hC5] at z
      cases z
   exact I2.call' (s':={ s6 with heap:=h' }) (ch:=fp) I6.os un ok5 I6.bare λb hb=>⟨(f2 b hb).2.2.2.1,(f2 b hb).2.1,(f2 b hb).2.2.2.2.1,(f2 b hb).2.2.2.2.2⟩
  ·refine zk (T.item (yf X scope (zb own caps) HD.objs.size s2 H2 fp) rfl rfl rfl hc i _ s5 σ5 H5 _ I5 (stat5 fr5) st5 go) λr s6 ⟨u,hr,h6⟩=>?_
   subst hr
   refine zk h6 λ_ s7 ⟨x,H7,I7,r7,y7,st7,fr7⟩=>?_
   have I7':=I7.pinned (stat5 fr7) (T.obj _ _ st7)
   refine zk (hg HD.objs.size s2 H2 fp _ s7 σ5 H7 x u _ I7' r7 (step x H7 y7)) λ_ s8 ⟨σ8,H8,I8,q8⟩=>?_
   refine zk (ht HD.objs.size s2 H2 fp _ s8 σ8 H8 _ I8 q8) λok sT ⟨HT,IT,qT⟩=>?_
   cases ok with
   | false=>
    obtain ⟨m',hm',w9⟩:=hN0 σ8 HT qT
    refine ⟨m',hm',i + 1,ys,σ8,HT,its,k,IT.unpinned,?_,λb hb=>?_,rv5,hz5,w9⟩
    ·refine T.keep _ _ _ st7 λb hb o eb=>?_
     exact (IT.pin (b,o) (List.mem_append_right _ (List.mem_append_right _ (jm hb eb)))).1
    ·obtain ⟨o,eb,_⟩:=T.obj _ _ st7 b hb
     exact (IT.pin (b,o) (List.mem_append_right _ (List.mem_append_right _ (jm hb eb)))).2.1
   | true=>
    refine zk (he HD.objs.size s2 H2 fp _ sT σ8 HT _ IT qT) λyv s9 ⟨y,H9,I9,r9,n9⟩=>?_
    obtain ⟨m',hm',w9⟩:=hN y σ8 H9 n9
    have pD9:=(I9.pin (s2.heap.objs.size,yr its k) (List.mem_append_right _ (List.mem_append_left _ List.mem_cons_self))).2.1
    have hl:its.length=ys.length:=rv5.length.symm
    refine zJO (Y:=yf X scope (zb own caps) HD.objs.size s2 H2 fp) (its:=its) (k:=k) (pl:=gF fp s7.heap) I9 (statD pD9) rfl (by omega) λh' k' tk keep I'=>?_
    refine ⟨m',hm',i + 1,ys++[y],σ8,H9,its++[yv],k',I',?_,λb hb=>?_,rv5.append (.cons r9 .nil),?_,w9⟩
    ·refine T.keep _ _ _ st7 λb hb o eb=>keep b o (jL b hb) ?_
     exact (I9.pin (b,o) (List.mem_append_right _ (List.mem_append_right _ (jm hb eb)))).1
    ·obtain ⟨o,eb,_⟩:=T.obj _ _ st7 b hb
     exact (I9.pin (b,o) (List.mem_append_right _ (List.mem_append_right _ (jm hb eb)))).2.1
    ·rw [List.length_append,List.length_singleton]
     omega
 exact codeAny_compStart_list (loop _ rfl) (T.self _ 0 _ _ _ (T.keep _ _ _ st2 λb hb o eb=>old b o eb) (loop _ rfl))
theorem zK0 {i:Nat} {y:Str} {py spos:Pos} (hN:X.N.Nodup) (hy:X.N[i]? = some y) (hl:X.env.scope.names.lookup y=some .local) (B:vm X scope own caps) (hc:X.calm=true) (hi:PI X tg iter wi) (hg:∀ C s₀ H₀ ex,PG (yf X scope (zb own caps) C s₀ H₀ ex) tg g)
  (ht:∀ C s₀ H₀ ex,PT (yf X scope (zb own caps) C s₀ H₀ ex) cond tc) (he:∀ C s₀ H₀ ex,PE (yf X scope (zb own caps) C s₀ H₀ ex) elt te) (hsw:swapsWith (.ListComp elt [⟨tg,iter,[cond],0⟩] scope pos) (some (.Name y py)) spos.line X.env=pure true) (hs:∀ x,foldedSetIterable iter X.env x=pure x:=by intro _; rfl) :
  PS X (.Assign [.Name y py] (.ListComp elt [⟨tg,iter,[cond],0⟩] scope pos) spos) (v7 (zPa own caps wi g tc te) (gE i)):=by
 intro pins s σ H D0 I h
 rw [exec_Assign_Name_used _ _ _ _ hsw]
 refine wpAny_bind (wpAny_standAt (wpAny_bind ?_))
 change wpAny _ X.A (do let _ <- comprehension (.ListComp elt [⟨tg,iter,[cond],0⟩] scope pos) scope X.env _ (newList []) false (eval iter X.env) (some (assign (.Name y py) X.env))) _ _ s
 refine wpAny_bind (wpAny_mono (wpAny_comprehension_free (use:=some (assign (.Name y py) X.env)) (Q:=λ_ s'=>SP X pins D0 .next s') rfl hs (Uf B.free) B.kind B.locs ?_) (λ_ s' hq=>wpAny_pure (wpAny_pure hq)) λ_ _ e=>e)
 refine zk (hi pins s σ H _ I h) λxv s1 h1=>zk h1 λitv s2 h2=>?_
 obtain ⟨it,fp,tn,J,H2,e,I2,T,st2,f2,W,⟨m0,w0⟩,turn⟩:=h2
 subst e
 refine zIm (Q:=λx H1=>D0.nx (σ.set i (some x)) H1) (RR:=λacc C=>compPost (model X.prog X.w) X.A X.xe (some (assign (.Name y py) X.env)) (λ_ s'=>SP X pins D0 .next s') acc C) B hc hg ht he I2 T st2 f2 w0 turn λD C s6 H6 ys m hn hC J6 hC6 q=>?_
 have I6:zG X pins σ (zY H6 D (.lst ys)) s6:=J6 s6.heap (.refl ..)
 have CL:C≠X.env.locals:=λz=>by rw [z] at hC; exact absurd (Nat.lt_of_lt_of_le I2.lt hC) (Nat.lt_irrefl _)
 have CC:∀ x c,X.env.cells.lookup x=some c->c≠C:=λx c ec z=>by
  obtain ⟨v,o,ho,_⟩:=I2.cell x c ec
  rw [z] at ho
  exact absurd (Nat.lt_of_lt_of_le (Heap.lt_size ho) hC) (Nat.lt_irrefl _)
 have CP:∀ p∈X.pn++pins,p.1≠C:=λp hp z=>by
  have hl:=Heap.lt_size (I2.pin p hp).1
  rw [z] at hl
  exact absurd (Nat.lt_of_lt_of_le hl hC) (Nat.lt_irrefl _)
 change wpAny _ X.A (assign (.Name y py) X.env (.ref D)) _ _ s6
 refine wpAny_assign_Name (W4 I6 hN hy (.inl hl) (v:=.ref D) rfl (λs7 I7 ⟨a,sb,ha⟩=>?_) (.inr hl))
 have aC:C≠a:=λz=>by
  rcases ha with e | e
  ·exact CL (z.trans e)
  ·exact CC _ _ e z.symm
 refine ⟨m,hn.sameBut sb aC,λh' sb'=>⟨_,_,I7.turned (h':=h') (t':=s7.toks) (it:=C) (λb o hb eb=>sb'.extBut b o hb eb) hC6 CL (.inr (Nat.le_trans I2.sz hC)) CC CP,q⟩⟩
end
theorem yF {X:Cx} {scope S:Scope} {own N:List Str} {caps:List (Nat × Str)} (k:scope.kind=.function) (nd:(scope.names.map (·.1)).Nodup)
  (hS:X.env.scope=S) (hc:∃ n,X.env.cells=cellsFrom n S.names []) (hN:X.N=N) (fr:scope.names.all (λy=>y.2 != .free || S.names.lookup y.1 == some .cell)=true)
  (cp:caps.all (λp=>N[p.1]? == some p.2 && scope.names.lookup p.2 == some .free && S.names.lookup p.2 == some .cell)=true):vm X scope own caps:=by
 obtain ⟨nn,hc⟩:=hc
 refine ⟨k,nd,λy hy e=>?_,λy hy e=>?_,λp hp=>?_⟩
 ·exact gQ nd (by rw [<- e]; exact hy)
 ·have q:=List.all_eq_true.mp fr y hy
  rw [e] at q
  have q2:S.names.lookup y.1=some .cell:=by simpa using q
  rw [hc]
  exact PySem.W.cellsFrom_some S.names nn [] (.inl q2)
 ·have q:=List.all_eq_true.mp cp p hp
  simp only [Bool.and_eq_true,beq_iff_eq] at q
  refine ⟨by rw [hN]; exact q.1.1,q.1.2,.inl ?_⟩
  show X.env.scope.names.lookup p.2=some .cell
  rw [hS]
  exact q.2
theorem qO {Y:Cx} {scope S:Scope} {own own0:List Str} {caps caps0:List (Nat × Str)} {C:Addr} {s₀:Shared} {H₀:Hp} {ex:List Addr} (k:scope.kind=.function) (nd:(scope.names.map (·.1)).Nodup)
  (ndS:(S.names.map (·.1)).Nodup) (fr:scope.names.all (λy=>y.2 != .free || S.names.lookup y.1 == some .cell || S.names.lookup y.1 == some .free)=true)
  (cp:caps.all (λp=>(zb own0 caps0)[p.1]? == some p.2 && scope.names.lookup p.2 == some .free)=true):vm (yf Y S (zb own0 caps0) C s₀ H₀ ex) scope own caps:=by
 have fr':∀ y∈scope.names,y.2=.free->S.names.lookup y.1=some .cell\/S.names.lookup y.1=some .free:=λy hy e=>by
  have q:=List.all_eq_true.mp fr y hy
  rw [e] at q
  simpa using q
 refine ⟨k,nd,λy hy e=>?_,λy hy e=>?_,λp hp=>?_⟩
 ·exact gQ nd (by rw [<- e]; exact hy)
 ·show ((cellsFrom (C + 1) S.names (wX S Y.env)).lookup y.1).isSome=true
  refine PySem.W.cellsFrom_some _ _ _ ?_
  rcases fr' y hy e with z | z
  ·exact .inl z
  ·obtain ⟨c,e⟩:=Ug (env:=Y.env) (gM z)
   exact .inr (by rw [e]; rfl)
 ·have q:=List.all_eq_true.mp cp p hp
  simp only [Bool.and_eq_true,beq_iff_eq] at q
  refine ⟨q.1,q.2,?_⟩
  show (relabel S Y.env).names.lookup p.2=some .cell\/(relabel S Y.env).names.lookup p.2=some .free
  rw [K8]
  rcases fr' _ (gM q.2) rfl with z | z
  ·left
   show (S.names.lookup p.2).map _=_
   rw [z]
   rfl
  ·show (S.names.lookup p.2).map _=_\/(S.names.lookup p.2).map _=_
   rw [z,Option.map_some]
   split
   ·exact .inl rfl
   ·exact .inr rfl
end L2
namespace Sh
open PySem L2
theorem yy {H:Hp} {p:Addr} (h:H p=none) (o:HO):zD H (zY H p o):=λb u q=>by rw [zu (xG q h)]; exact q
def Tp (H:Hp) (v:V) (xs:List V):Prop:=∃ a,v=.ref a/\H a=some (.tup xs)
theorem Um {α β:Type} {R:α->β->Prop}:∀ {xs:List α} {ys:List β} {i:Nat} {x:α},Paired R xs ys->xs[i]? = some x->∃ y,ys[i]? = some y/\R x y
 | _,_,_,_,.nil,e=>by simp at e
 | _,_,0,_,.cons r _,e=>by simp at e; subst e; exact ⟨_,rfl,r⟩
 | _,_,i + 1,x,.cons _ t,e=>by
  obtain ⟨y,h1,h2⟩:=Um (i:=i) (x:=x) t (by simpa using e)
  exact ⟨y,by simpa using h1,h2⟩
theorem ur {α β:Type} {R:α->β->Prop} {x:α} {y:β} (r:R x y):∀ {xs:List α} {ys:List β},Paired R xs ys->Paired R (xs++[x]) (ys++[y])
 | _,_,.nil=>.cons r .nil
 | _,_,.cons q t=>.cons q (ur r t)
theorem qP {α β:Type} {R:α->β->Prop}:∀ {xs zs:List α} {ys us:List β},Paired R xs ys->Paired R zs us->Paired R (xs++zs) (ys++us)
 | _,_,_,_,.nil,h=>h
 | _,_,_,_,.cons q t,h=>.cons q (qP t h)
theorem jH {α:Type} {l:List α} {i:Nat} {x:α} (h:l[i]? = some x):l.take (i + 1)=l.take i++[x]:=by
 obtain ⟨hi,e⟩:=List.getElem?_eq_some_iff.mp h
 rw [List.take_succ_eq_append_getElem hi,e]
abbrev ZD (H:Hp) (vs:List V) (ks:List (List Int)):Prop:=Paired (λv (k:List Int)=>Tp H v (k.map V.int)) vs ks
end Sh
namespace L2
open PySem PySem.Spec PyProof.Rows
def ZE (K:PySem.W.Frag) (a b:Addr):It:=
 ⟨λi H=>∃ xs ys x y,zT K H a xs/\zT K H b ys/\xs[i]? = some x/\ys[i]? = some y,
  λi H v H'=>∃ T x y,v=.ref T/\H T=none/\H'=zY H T (.tup [x,y])/\(∀ xs,zT K H a xs->xs[i]? = some x)/\∀ ys,zT K H b ys->ys[i]? = some y,
  λi H=>∃ xs ys,zT K H a xs/\zT K H b ys/\i<=xs.length/\i<=ys.length/\(i=xs.length\/i=ys.length)⟩
theorem zKR {P:Program} {w:World} {K:PySem.W.Frag} {es:List Expr} {kk:Nat} {tp:Pos} {a b z TI TO i1 i2:Addr} (Z:Zp z TI TO i1 i2 [i1,a] [i2,b]) (na:a≠i1) (nb:b≠i2) :
  wE P w K (.Tuple es kk tp) (ZE K a b) [z,TI,TO,i1,i2] z (λi h=>IsZip h z TI TO .none/\IsPair h TI (.ref i1) (.ref i2)/\(∃ x y,IsPair h TO x y)/\h.IsListIter i1 a i/\h.IsListIter i2 b i) where
 mem:=by simp
 obj:=λi h ⟨t1,t2,⟨x,y,t3⟩,t4,t5⟩ c hc=>by
  simp only [List.mem_cons,List.not_mem_nil,or_false] at hc
  rcases hc with rfl | rfl | rfl | rfl | rfl
  ·exact ⟨_,t1,uK⟩
  ·exact ⟨_,t2,gP⟩
  ·exact ⟨_,t3,gP⟩
  ·obtain ⟨o,e,_,d⟩:=t4
   exact ⟨o,e,by rw [d]; exact uK⟩
  ·obtain ⟨o,e,_,d⟩:=t5
   exact ⟨o,e,by rw [d]; exact uK⟩
 keep:=λi h h' ⟨t1,t2,⟨x,y,t3⟩,t4,t5⟩ k=>⟨k z (by simp) _ t1,k TI (by simp) _ t2,⟨x,y,k TO (by simp) _ t3⟩,(by obtain ⟨o,e,r⟩:=t4; exact ⟨o,k i1 (by simp) o e,r⟩),(by obtain ⟨o,e,r⟩:=t5; exact ⟨o,k i2 (by simp) o e,r⟩)⟩
 item:=by
  intro X hP hw hK hc i pins s σ H E I hf ⟨t1,t2,⟨x0,y0,t3⟩,t4,t5⟩ hg
  subst hP hw hK
  obtain ⟨xs,ys,x,y,hq1,hq2,hx,hy⟩:=hg
  obtain ⟨its1,rv1,p1,_⟩:=I.list hq1
  obtain ⟨its2,rv2,p2,_⟩:=I.list hq2
  obtain ⟨u,hu,ru⟩:=rv1.get hx
  obtain ⟨v,hv,rv⟩:=rv2.get hy
  have hh:X.A.in1.handled=none:=I.ok.hd hc
  have l1:i < its1.toArray.size:=by rw [List.size_toArray]; exact (List.getElem?_eq_some_iff.mp hu).1
  have l2:i < its2.toArray.size:=by rw [List.size_toArray]; exact (List.getElem?_eq_some_iff.mp hv).1
  refine zIt (Draws.list hh i1 a na its1.toArray) (Draws.list hh i2 b nb its2.toArray) Z t1 t2 t3 ⟨t4,p1.isList⟩ ⟨t5,p2.isList⟩ l1 l2 ?_
  intro x' y' h1 tk px py z1 z2 z3 z4 z5 z6 keep
  have ex:x'=u:=by
   have q:its1.toArray[i]? = some x':=px
   simp only [List.getElem?_toArray] at q
   rw [hu] at q
   exact (Option.some.inj q).symm
  have ey:y'=v:=by
   have q:its2.toArray[i]? = some y':=py
   simp only [List.getElem?_toArray] at q
   rw [hv] at q
   exact (Option.some.inj q).symm
  subst ex ey
  refine ⟨_,rfl,wpAny_letOwnedTupleGo_zip (s:={ s with heap:=h1,toks:=tk }) z1 λh2 z7 sb=>?_⟩
  have zlt:z < s.heap.objs.size:=Heap.lt_size t1
  have keep2:∀ c o,c∉[z,TI,TO,i1,i2]->s.heap.get? c=some o->h2.get? c=some o:=λc o hc e=>by
   simp only [List.mem_cons,List.not_mem_nil,or_false,not_or] at hc
   exact sb.extBut c o hc.1 (keep c o hc.1 hc.2.2.1 hc.2.2.2.1 hc.2.2.2.2 e)
  have pT:IsPair h2 s.heap.objs.size x' y':=sb.extBut _ _ (Nat.ne_of_gt zlt) z6
  have I':=I.turnT (h':=h2) (tk:=tk) (ch:=[z,TI,TO,i1,i2]) (x:=x) (y:=y) hf keep2 (Nat.le_refl _) pT ru rv
  refine ⟨.ref s.heap.objs.size,_,I',rfl,⟨s.heap.objs.size,x,y,rfl,I.hok.fresh (Nat.le_refl _),rfl,λxs' q=>by rw [I.list_inj q hq1]; exact hx,λys' q=>by rw [I.list_inj q hq2]; exact hy⟩,
   ⟨z7,sb.extBut _ _ Z.a1 z2,⟨_,_,sb.extBut _ _ Z.a2 z3⟩,z4.1.extBut sb.extBut Z.a3,z5.1.extBut sb.extBut Z.a4⟩,λc hc=>?_⟩
  have:=(hf c hc).1
  rw [zu]
  ·exact this
  ·intro q
   obtain ⟨o,e,_⟩:∃ o,s.heap.get? c=some o/\True:=by
    simp only [List.mem_cons,List.not_mem_nil,or_false] at hc
    rcases hc with rfl | rfl | rfl | rfl | rfl
    ·exact ⟨_,t1,trivial⟩
    ·exact ⟨_,t2,trivial⟩
    ·exact ⟨_,t3,trivial⟩
    ·obtain ⟨o,e,_⟩:=t4; exact ⟨o,e,trivial⟩
    ·obtain ⟨o,e,_⟩:=t5; exact ⟨o,e,trivial⟩
   rw [q] at e
   exact absurd (Heap.lt_size e) (Nat.lt_irrefl _)
 done:=by
  intro X hP hw hK hc i pins s σ H E I hf ⟨t1,t2,⟨x0,y0,t3⟩,t4,t5⟩ hg
  subst hP hw hK
  obtain ⟨xs,ys,hq1,hq2,e1,e2,e3⟩:=hg
  obtain ⟨its1,rv1,p1,_⟩:=I.list hq1
  obtain ⟨its2,rv2,p2,_⟩:=I.list hq2
  have hh:X.A.in1.handled=none:=I.ok.hd hc
  have n1:its1.toArray.size=xs.length:=by rw [List.size_toArray]; exact rv1.length.symm
  have n2:its2.toArray.size=ys.length:=by rw [List.size_toArray]; exact rv2.length.symm
  refine zKG (Draws.list hh i1 a na its1.toArray) (Draws.list hh i2 b nb its2.toArray) Z t1 t2 t3 ⟨t4,p1.isList⟩ ⟨t5,p2.isList⟩ (by omega) (by omega) (by omega) ?_
  intro h1 tk keep
  refine ⟨rfl,I.turnN (h':=h1) (tk:=tk) (ch:=[z,TI,TO,i1,i2]) hf λc o hc e=>?_⟩
  simp only [List.mem_cons,List.not_mem_nil,or_false,not_or] at hc
  exact keep c o hc.1 hc.2.2.1 hc.2.2.2.1 hc.2.2.2.2 e
 self:=λ_ _ _ _ _ st h=>wpAny_pyIter_zip st.1 h
section
variable {X:Cx} {es:List Expr} {kk:Nat} {tp:Pos}
end
end L2
namespace L2
open PySem PySem.Spec PyProof.Rows
section
variable {X:Cx}
def ZF (K:PySem.W.Frag):R2:=λx y H Q=>∃ d e:PyData,Dp K H x d/\Dp K H y e/\d.canLay0=true/\e.canLay0=true/\d.depth<=60/\e.depth<=60/\Q (.bl (PyData.eqv d e)) H
theorem zN6 (hu:X.A.units + 64 < cLine):ye X (compareOp .Eq) (ZF X.K):=by
 intro pins s σ H x y v u Q I rx ry h
 obtain ⟨d,e,hx,hy,hc,hc',hd,hd',q⟩:=h
 obtain ⟨_,r1⟩:=hx.reads I rx
 obtain ⟨_,r2⟩:=hy.reads I ry
 exact SeqAt.compareEq_reads r1 r2 hc hc' (by omega) ⟨.bl _,H,I,rfl,q⟩
end
end L2
namespace Sh
open PySem L2
theorem zH0:∀ ns ms:List Int,PyData.eqvAll (ns.map PyData.int) (ms.map PyData.int)=decide (ns=ms)
 | [],[]=>by simp [PyData.eqvAll]
 | [],_ :: _=>by simp [PyData.eqvAll]
 | _ :: _,[]=>by simp [PyData.eqvAll]
 | a :: r,b :: t=>by
  have ih:=zH0 r t
  simp only [List.map_cons,PyData.eqvAll,PyData.eqv,ih,List.cons.injEq]
  by_cases h1:a=b <;> by_cases h2:r=t <;> simp [h1,h2]
structure xm (ws:List Int) (n:Nat):Prop where
 len:ws.length=n
 bd:∀ w∈ws,Bd 1000 w
def uL (rows:List (List Int)) (nums:List Int) (j:Nat):Int:=((rows.zip nums).map λp=>p.1.getD j 0 * p.2).sum
def ZG (rows:List (List Int)) (tw:List Int) (o:Int) (nums:List Int) (n:Nat):Bool:=
 if o=0 then ((List.range n).map (uL rows nums)).all (λx=>decide (x=0)) && decide (uL rows nums n < 0)
 else decide ((List.range n).map (uL rows nums)=(tw.take n).map (o * ·)) && decide (uL rows nums n<=o * tw.getD n 0)
def lin (n:Nat) (c:Nat->Int) (r:List Int):Int:=((List.range n).map λi=>r.getD i 0 * c i).sum
end Sh
namespace L2
open PySem PySem.Spec PyProof.Rows
theorem zQN {c x y:Addr} (h:c∉[x,y]):c≠x/\c≠y:=by
 simp only [List.mem_cons,List.not_mem_nil,or_false,not_or] at h
 exact h
section
variable {X:Cx} {es:List Expr} {kk:Nat} {tp:Pos}
end
end L2
namespace L2
open PySem PySem.Spec PyProof.Rows
section
variable {prog:Program} {w:World} {A:Around} {E:Value->Shared->Prop} {s:Shared}
theorem zJY {T nw ini:String} {B1 B2:Builtin} {xs:List Value} {kw:List (Str × Value)} {S:PySem.Spec} {Q R1:Value->Shared->Prop} (ft:TypeCalled T nw ini)
  (c1:checkTypeCall T ⟨xs,kw⟩=pure ()) (c2:checkBuiltinCall nw ⟨.type T :: xs,kw⟩=pure ())
  (e1:entryFor table nw=some B1) (e2:entryFor table ini=some B2) (m1:Meets (B1 ⟨.type T :: xs,kw⟩) S)
  (hS:S A.in1 (wants R1 E) s)
  (nxt:∀ o s1,R1 o s1->s1.TypeIs o T/\argsOk ini ⟨o :: xs,kw⟩/\∃ S2,Meets (B2 ⟨o :: xs,kw⟩) S2/\S2 A.in1 (wants (λr s2=>r=.none/\Q o s2) E) s1) :
  wpAny (model prog w) A (call (.type T) xs kw) Q E s:=by
 obtain ⟨c,tl,k1⟩:=ft.mro
 have k2:=ft.made
 have k3:=ft.sub
 have k4:=ft.notType
 have k5:=ft.canCreate
 refine wpAny_call (codeAny_of_tree ?_)
 show wpAny _ _ (callAny (.type T) _) _ _ _
 refine wpAny_pure ⟨Code.quiet_builtin _ (by decide +kernel),codeAny_builtin F.entry_type_call ?_⟩
 rw [Around.under_plain (weight_type_call_type T xs kw) (units_type_call_type T xs kw)]
 repeat (any_goals (first | assumption | wp_step))
 refine codeAny_mono (codeAny_call_builtin ft.plain e1 (wpAny_of_eq c2 (m1 prog w A.in1 _ s hS))) λr s1 z=>?_
 cases r with
 | error e=>exact z
 | ok fl=>
  cases fl with
  | ret o=>
   obtain ⟨hT,ok,S2,m2,z2⟩:=nxt _ _ z
   have l1:=ft.init.lookup
   have l2:=ft.init.bind o
   repeat (any_goals (first | assumption | wp_step))
   refine codeAny_mono (codeAny_call_builtin ft.init.plain e2 (ft.init.check _ _ _ _ _ _ _ _ hT ok (m2 prog w A.in1 _ s1 z2))) λr2 s2 y=>?_
   cases r2 with
   | error e=>exact y
   | ok fl2=>
    cases fl2 with
    | ret r=>
     obtain ⟨rfl,y⟩:=y
     repeat (any_goals (first | assumption | wp_step))
    | _=>exact y.elim
  | _=>exact z.elim
theorem zNG {T nw:String} {o a:Value} {kw:List (Str × Value)} (h1:typeLookup (.type T) "__init__" = pure (some (.builtin "object.__init__")))
  (h2:Bind.madeBy (.type T)=pure (some nw)) (h3:(some nw != some "object.__new__")=true) :
  Meets (Builtin.«object.__init__» ⟨[o,a],kw⟩) (λ_ R s=>s.TypeIs o T/\R (.ok (.ret .none)) s):=by
 refine Meets.of_wp λprog w A R s z=>?_
 obtain ⟨hT,q⟩:=z
 repeat (any_goals (first | assumption | wp_step))
 exact ⟨_,rfl,q⟩
theorem zNH (o a v:Value):argsOk "object.__init__" ⟨[o,a],[("start",v)]⟩:=by
 unfold argsOk
 rw [signature?_of (id:="object.__init__") (n:=['_','_','t','i','n','i','_','_'])
  (o:=['t','c','e','j','b','o']) (by kernel_rfl) F.owner_object]
 kernel_rfl
theorem zQp (a v:Value):checkTypeCall "enumerate" ⟨[a],[("start",v)]⟩=pure ():=by kernel_rfl
theorem zQr (a v:Value):checkBuiltinCall "enumerate.__new__" ⟨[.type "enumerate",a],[("start",v)]⟩=pure ():=by kernel_rfl
end
open AutoSeq1 in
theorem zId (l:Addr) (its:Array Value) (m:Nat) (dct:Option Addr) (sl:Array (Option Value)) (n:Int) (tn:Tok) (fit:Builtin.SmallTypes.fitsIndex n=true) :
  Meets (Builtin.«enumerate.__new__» ⟨[.type "enumerate",.ref l],[("start",.int n tn)]⟩) (λ_ R s=>s.heap.get? l=some { cls:=.type "list",dict:=dct,data:=.seq its m,slots:=sl }∧
   R (.ok (.ret (.ref (s.heap.push { cls:=.type "list_iterator",data:=.fields #[.ref l,.int 0 0] }).objs.size)))
    { s with heap:=(s.heap.push { cls:=.type "list_iterator",data:=.fields #[.ref l,.int 0 0] }).push { cls:=.type "enumerate",data:=.fields #[.none,.bool false,.ref s.heap.objs.size,rawInt n,.none,.none] } }):=
 .of_wp λprog w A R s z=>by
  obtain ⟨hp,g,d,tk,os⟩:=s
  obtain ⟨e1,z⟩:=z
  have k0:=sub_enumerate
  have k1:Heap.IsList (Shared.heap ⟨hp,g,d,tk,os⟩) l its:=⟨_,e1,rfl,m,rfl⟩
  wp_walk using wpAny_loadPart' e1
  refine wpAny_stack_any λst=>wpAny_pure ?_
  split
  ·rename_i c _ _ _ _ _
   cases (c == Value.type "enumerate")
   ·wp_walk using wpAny_loadPart' e1,wpAny_pyIter_list k1
    simp only [fit,Bool.not_true,Bool.false_eq_true,if_false]
    wp_walk using wpAny_loadPart' e1,wpAny_pyIter_list k1
    exact ⟨_,rfl,z⟩
   ·wp_walk using wpAny_loadPart' e1,wpAny_pyIter_list k1
    simp only [fit,Bool.not_true,Bool.false_eq_true,if_false]
    wp_walk using wpAny_loadPart' e1,wpAny_pyIter_list k1
    exact ⟨_,rfl,z⟩
  ·wp_walk using wpAny_loadPart' e1,wpAny_pyIter_list k1
   simp only [fit,Bool.not_true,Bool.false_eq_true,if_false]
   wp_walk using wpAny_loadPart' e1,wpAny_pyIter_list k1
   exact ⟨_,rfl,z⟩
section
variable {prog:Program} {w:World} {A:Around} {E:Value->Shared->Prop} {s:Shared}
theorem zKC {l:Addr} {its:Array Value} {n:Int} {tn:Tok} {Q:Value->Shared->Prop} (hL:s.heap.IsList l its) (fit:Builtin.SmallTypes.fitsIndex n=true)
  (k:∀ g,IsEnum g (s.heap.objs.size + 1) s.heap.objs.size n .none->g.IsListIter s.heap.objs.size l 0->
   (∀ b o,s.heap.get? b=some o->g.get? b=some o)->Q (.ref (s.heap.objs.size + 1)) { s with heap:=g }) :
  wpAny (model prog w) A (call (.type "enumerate") [.ref l] [("start",.int n tn)]) Q E s:=by
 obtain ⟨⟨c,dc,dt,sl⟩,el,ec,m,ed⟩:=hL
 replace ec:c=.type "list":=ec
 replace ed:dt=.seq its m:=ed
 subst ec ed
 refine zJY (R1:=λo s1=>s1.TypeIs o "enumerate"/\Q o s1) F.called_enumerate (zQp _ _) (zQr _ _) F.entry_enumerate_new F.entry_object_init
  (zId l its m dc sl n tn fit) ⟨el,?_⟩ (λo s1 q=>⟨q.1,zNH o _ _,_,zNG F.called_enumerate.init.lookup F.called_enumerate.made (by decide),q.1,rfl,q.2⟩)
 have sz:(s.heap.push { cls:=.type "list_iterator",data:=.fields #[.ref l,.int 0 0] }).objs.size=s.heap.objs.size + 1:=
  Heap.size_push ..
 show _/\_
 rw [sz]
 have ee:IsEnum ((s.heap.push { cls:=.type "list_iterator",data:=.fields #[.ref l,.int 0 0] }).push
   { cls:=.type "enumerate",data:=.fields #[.none,.bool false,.ref s.heap.objs.size,rawInt n,.none,.none] }) (s.heap.objs.size + 1) s.heap.objs.size n .none:=by
  have y:=Heap.get?_push_size (s.heap.push { cls:=.type "list_iterator",data:=.fields #[.ref l,.int 0 0] })
   (o:={ cls:=.type "enumerate",data:=.fields #[.none,.bool false,.ref s.heap.objs.size,rawInt n,.none,.none] }) rfl
  rw [sz] at y
  exact y
 exact ⟨⟨_,ee,rfl⟩,k _ ee ⟨_,Heap.get?_push_of_some _ (Heap.get?_push_size _ rfl),rfl,rfl⟩ λb o x=>Heap.get?_push_of_some _ (Heap.get?_push_of_some _ x)⟩
theorem zOK {it l:Addr} {its:Array Value} (k:Nat) (hh:A.handled=none) (ne:l≠it) :
  Draws prog w A it [it,l] (k + its.size) (λj x=>its[j - k]? = some x) (λj h=>k<=j/\h.IsListIter it l (j - k)/\h.IsList l its) where
 live:=λj h ⟨_,⟨o,e,_⟩,_⟩=>⟨o,e⟩
 frame:=λj h h' ⟨a,⟨o,e,r⟩,⟨o2,e2,r2⟩⟩ kp=>⟨a,⟨o,kp it (by simp) o e,r⟩,⟨o2,kp l (by simp) o2 e2,r2⟩⟩
 item:=λj s Q E lt ⟨le,hi,hl⟩ kQ=>by
  have jl:j - k < its.size:=by omega
  refine wpAny_nextOf_list_item hi hl (x:=its[j - k]) (by simp [jl]) λg gi same=>?_
  refine kQ _ g s.toks (by simp [jl]) ⟨by omega,?_,hl.extBut same.extBut ne⟩ same
  rw [show j + 1 - k=j - k + 1 by omega]
  exact gi
 done:=λs Q E ⟨le,hi,hl⟩ kE=>wpAny_nextOf_list_end hh hi hl (by simp) kE
end
section
variable {M:Model} {A:Around} {E:Value->Shared->Prop} {s:Shared}
theorem zPF {pos:Pos} {T:String} {x:Sem Value} {more:List (Bool × Sem Value)} {kws:List (Option Str × Sem Value)} {Q:Value->Shared->Prop}
  (p1:more.any (·.1)=false) (p2:kws.any (·.1.isNone)=false) (p3:kws.all (·.1.isSome)=true)
  (h:wpAny M A (spliced ((false,x) :: more)) (λvs s1=>wpAny M A (evalAll (kws.map (·.2))) (λks s2=>wpAny M A (call (.type T) vs ((kws.filterMap (·.1)).zip ks)) Q E s2) E s1) E s) :
  wpAny M A (callWith pos (.type T) [] ((false,x) :: more) kws) Q E s:=by
 unfold callWith
 refine wpAny_bind (wpAny_holding (wpAny_mono (evalArgs_kwB (f:=.type T) (Q:=λa s1=>wpAny M A (call (.type T) a.pos a.kw) Q E s1) p3 h) (λa s1 q=>wpAny_bind (wpAny_standAt ?_)) λ_ _ z=>z))
 have e:(((false,x) :: more).any (·.1))=false:=by
  show (false || more.any (·.1))=false
  rw [p1]
  rfl
 simp only [e,p2,Bool.or_false]
 refine wpAny_bind (wpAny_pure ?_)
 exact wpAny_bind (wpAny_mono q (λr s2 y=>wpAny_bind (wpAny_holding (wpAny_point (wpAny_pure y)))) λ_ _ z=>z)
end
def qQ (K:PySem.W.Frag) (a:Addr) (k:Nat):It:=
 ⟨λi H=>∃ xs x,zT K H a xs/\xs[i]? = some x,
  λi H v H'=>∃ T x,v=.ref T/\H T=none/\H'=zY H T (.tup [.int ((k + i:Nat):Int),x])/\∀ xs,zT K H a xs->xs[i]? = some x,
  λi H=>∃ xs,zT K H a xs/\i=xs.length⟩
theorem zJa {P:Program} {w:World} {K:PySem.W.Frag} {es:List Expr} {kk:Nat} {tp:Pos} {a e it:Addr} {k:Nat} (ne:e≠it) (nl:a≠it) :
  wE P w K (.Tuple es kk tp) (qQ K a k) [e,it] e (λi h=>(∃ old,IsEnum h e it ((k + i:Nat):Int) old)/\h.IsListIter it a i) where
 mem:=by simp
 obj:=λi h ⟨⟨old,t1⟩,t2⟩ c hc=>by
  simp only [List.mem_cons,List.not_mem_nil,or_false] at hc
  rcases hc with rfl | rfl
  ·exact ⟨_,t1,uK⟩
  ·obtain ⟨o,e,_,d⟩:=t2
   exact ⟨o,e,by rw [d]; exact uK⟩
 keep:=λi h h' ⟨⟨old,t1⟩,t2⟩ z=>⟨⟨old,z e (by simp) _ t1⟩,(by obtain ⟨o,q,r⟩:=t2; exact ⟨o,z it (by simp) o q,r⟩)⟩
 item:=by
  intro X hP hw hK hc i pins s σ H E I hf ⟨⟨old,t1⟩,t2⟩ hg
  subst hP hw hK
  obtain ⟨xs,x,hq,hx⟩:=hg
  obtain ⟨its,rv,p,_⟩:=I.list hq
  obtain ⟨u,hu,ru⟩:=rv.get hx
  have li:i < its.length:=(List.getElem?_eq_some_iff.mp hu).1
  have nea:e≠a:=λz=>by
   obtain ⟨o,eo,cl,_⟩:=p.isList
   rw [z] at t1
   rw [t1] at eo
   cases eo
   have cl2:Value.type "enumerate" = Value.type "list":=cl
   exact absurd (Value.type.inj cl2) (by decide)
  have D:=zOK (prog:=X.prog) (w:=X.w) (A:=X.A.in1) (it:=it) (l:=a) (its:=its.toArray) k (I.ok.hd hc) nl
  refine wpAny_pyNext_enum_itemD D (i:=k + i) t1 ⟨by omega,by rw [Nat.add_sub_cancel_left]; exact t2,p.isList⟩ (by simp; omega) ne (by simp [ne,nea]) ?_
  intro v h1 tk hv z1 z2 z3 z4 keep
  rw [Nat.add_sub_cancel_left] at hv
  have ev:v=u:=by
   have:its[i]? = some v:=by simpa using hv
   rw [hu] at this
   exact (Option.some.inj this).symm
  subst ev
  refine ⟨_,rfl,wpAny_letOwnedTupleGo_enum (s:={ s with heap:=h1,toks:=tk + 1 }) z1 λh2 z5 sb=>?_⟩
  have elt:e < s.heap.objs.size:=Heap.lt_size t1
  have keep2:∀ c o,c∉[e,it]->s.heap.get? c=some o->h2.get? c=some o:=λc o hc q=>by
   obtain ⟨c1,c2⟩:=zQN hc
   exact sb.extBut c o c1 (keep c o c1 c2 q)
  have pT:IsPair h2 s.heap.objs.size (.int ((k + i:Nat):Int) tk) v:=sb.extBut _ _ (Nat.ne_of_gt elt) z3
  have I':=I.turnT (h':=h2) (tk:=tk + 1) (ch:=[e,it]) (x:=.int ((k + i:Nat):Int)) (y:=x) hf keep2 (Nat.le_refl _) pT ⟨_,rfl⟩ ru
  have z2':h1.IsListIter it a (i + 1):=by
   have:=z2.2.1
   rw [show k + i + 1 - k=i + 1 by omega] at this
   exact this
  refine ⟨.ref s.heap.objs.size,_,I',rfl,⟨s.heap.objs.size,x,rfl,I.hok.fresh (Nat.le_refl _),rfl,λxs' q=>by rw [I.list_inj q hq]; exact hx⟩,
   ⟨⟨v,by rw [show ((k + (i + 1):Nat):Int)=((k + i:Nat):Int) + 1 by omega]; exact z5⟩,z2'.extBut sb.extBut (Ne.symm ne)⟩,λc hc=>?_⟩
  have:=(hf c hc).1
  rw [zu]
  ·exact this
  ·intro q
   obtain ⟨o,e1⟩:∃ o,s.heap.get? c=some o:=by
    simp only [List.mem_cons,List.not_mem_nil,or_false] at hc
    rcases hc with rfl | rfl
    ·exact ⟨_,t1⟩
    ·obtain ⟨o,e1,_⟩:=t2; exact ⟨o,e1⟩
   rw [q] at e1
   exact absurd (Heap.lt_size e1) (Nat.lt_irrefl _)
 done:=by
  intro X hP hw hK hc i pins s σ H E I hf ⟨⟨old,t1⟩,t2⟩ hg
  subst hP hw hK
  obtain ⟨xs,hq,e1⟩:=hg
  obtain ⟨its,rv,p,_⟩:=I.list hq
  have n1:its.length=xs.length:=rv.length.symm
  have D:=zOK (prog:=X.prog) (w:=X.w) (A:=X.A.in1) (it:=it) (l:=a) (its:=its.toArray) k (I.ok.hd hc) nl
  refine wpAny_pyNext_enum_endD D t1 ⟨by simp,by simp; rw [n1,<- e1]; exact t2,p.isList⟩ ?_
  intro h1 ext
  refine ⟨rfl,I.turnN (h':=h1) (tk:=s.toks) (ch:=[e,it]) hf λc o hc q=>?_⟩
  exact ext c o (zQN hc).2 q
 self:=λ_ _ _ _ _ ⟨⟨_,st⟩,_⟩ h=>wpAny_pyIter_enum st h
section
variable {X:Cx} {es:List Expr} {kk:Nat} {tp:Pos}
def zQa (K:PySem.W.Frag) (ta:TA) (te:TE):TI:=λσ H R=>ta σ H λvs H1=>∃ a,vs=[.ref a]/\te σ H1 λv H2=>∃ k:Nat,v=.int (k:Int)/\Builtin.SmallTypes.fitsIndex (k:Int)=true/\(∃ xs,zT K H2 a xs)/\R (qQ K a k) H2
theorem zM2 {e1 e2:Expr} {ta:TA} {te:TE} {p pos kp:Pos} (hg:Gl X "enumerate") (hm:X.mg "enumerate" = none) (ha:PA X [e1] ta) (he:PE X e2 te) (hs:starEach [e1] X.env=[(false,eval e1 X.env)]:=by rfl) (hs2:starEach [] X.env=[]:=by rfl) :
  PI X (.Tuple es kk tp) (.Call (.Name "enumerate" p) [e1] [⟨some "start",e2,kp⟩] pos) (zQa X.K ta te):=by
 intro pins s σ H R I h
 refine wpAny_Call_Name_kw (qE I hg hm (show bootBuiltins "enumerate" = some (.type "enumerate") by decide +kernel) ?_)
 have h1:=ha pos pins s σ H _ I h
 rw [hs] at h1 |-
 refine zPF (T:="enumerate") rfl rfl rfl (zk h1 λus s1 ⟨vs,H1,I1,r1,q1⟩=>?_)
 obtain ⟨a,e,q2⟩:=q1
 subst e
 obtain ⟨u,rfl,ru⟩:=jF r1
 cases ru
 refine kws_cons (zk (he pins s1 σ H1 _ I1 q2) λu2 s2 ⟨v,H2,I2,r2,q3⟩=>kws_nil ?_)
 obtain ⟨k,rfl,fit,⟨xs,hx⟩,q⟩:=q3
 obtain ⟨tk,rfl⟩:=r2
 obtain ⟨its,rv,p1,_⟩:=I2.list hx
 have la:a < s2.heap.objs.size:=by obtain ⟨o,n,e,_⟩:=p1; exact Heap.lt_size e
 refine zKC p1.isList fit λh' z1 z2 keep=>wpAny_pyIter_enum z1 ?_
 have I3:zG X pins σ H2 { s2 with heap:=h' }:=I2.kept (t':=s2.toks) keep
 refine ⟨s2.heap.objs.size + 1,[s2.heap.objs.size + 1,s2.heap.objs.size],_,_,H2,rfl,I3,zJa (a:=a) (k:=k) (Nat.succ_ne_self _) (Nat.ne_of_lt la),⟨⟨_,z1⟩,z2⟩,λc hc=>?_,q⟩
 have ge:s2.heap.objs.size<=c:=by
  simp only [List.mem_cons,List.not_mem_nil,or_false] at hc
  rcases hc with rfl | rfl
  ·exact Nat.le_add_right _ 1
  ·exact Nat.le_refl _
 exact I2.fpOk ge (I2.hok.fresh ge)
end
end L2
namespace Sh
open PySem L2
inductive Kd where
 | int | bool | non | str | lst | tup | dic
 deriving DecidableEq
def Kd.nm:Kd->String
 | .int=>"int" | .bool=>"bool" | .non=>"NoneType" | .str=>"str" | .lst=>"list" | .tup=>"tuple" | .dic=>"dict"
def Kd.whole:Kd->Bool
 | .int=>true
 | _=>false
def Kd.isInt:Kd->Bool
 | .int=>true
 | .bool=>true
 | _=>false
def Kd.isBool:Kd->Bool
 | .bool=>true
 | _=>false
def Kd.isTup:Kd->Bool
 | .tup=>true
 | _=>false
def Kd.isLst:Kd->Bool
 | .lst=>true
 | _=>false
section
variable (K:PySem.W.Frag)
theorem jr (k:Kd):PySem.W.kitOne K (.type k.nm) (.type "int")=some k.isInt:=by
 cases k <;> first | rfl | decide +kernel | (unfold PySem.W.kitOne; rw [if_pos (by decide +kernel)]; rfl) | (unfold PySem.W.kitOne; rw [if_neg (by decide +kernel)]; rfl)
theorem jt (k:Kd):PySem.W.kitOne K (.type k.nm) (.type "bool")=some k.isBool:=by
 cases k <;> first | rfl | decide +kernel | (unfold PySem.W.kitOne; rw [if_pos (by decide +kernel)]; rfl) | (unfold PySem.W.kitOne; rw [if_neg (by decide +kernel)]; rfl)
theorem ju (k:Kd):PySem.W.kitOne K (.type k.nm) (.type "tuple")=some k.isTup:=by
 cases k <;> first | rfl | decide +kernel | (unfold PySem.W.kitOne; rw [if_pos (by decide +kernel)]; rfl) | (unfold PySem.W.kitOne; rw [if_neg (by decide +kernel)]; rfl)
theorem jv (k:Kd):PySem.W.kitOne K (.type k.nm) (.type "list")=some k.isLst:=by
 cases k <;> first | rfl | decide +kernel | (unfold PySem.W.kitOne; rw [if_pos (by decide +kernel)]; rfl) | (unfold PySem.W.kitOne; rw [if_neg (by decide +kernel)]; rfl)
end
end Sh
namespace L2
open PySem PySem.Spec PyProof.Rows
section
variable {X:Cx}
theorem zQG:ye X (compareOp .Is) (λx y H Q=>∃ a b,x=.bl a/\y=.bl b/\Q (.bl (a == b)) H):=by
 intro pins s σ H x y v u Q I rx ry h
 obtain ⟨a,b,rfl,rfl,q⟩:=h
 cases rx
 cases ry
 exact is_bool ⟨.bl (a == b),H,I,rfl,q⟩
end
end L2
namespace L2
open PySem PySem.Spec PyProof.Rows
structure yi (K:PySem.W.Frag) (mg:Str->Option Value) (x:Str) (C:Addr):Prop where
 cl:uT K C
 mgC:mg x=some (.ref C)
 ha:PySem.W.findIn K (.ref C) "__class__" = some (some (.builtin "object.__class__"))
 hn:PySem.W.specialIn K (.builtin "object.__class__") "__get__" = some (some (.builtin "getset_descriptor.__get__"))
 htk:PySem.W.takesIn K (.builtin "object.__class__")=some true
 hm:PySem.W.mroIn K C (.type "object")=some true
theorem yi.ty {K:PySem.W.Frag} {mg:Str->Option Value} {x:Str} {C a dx:Addr} {H:Hp} {fs:List (Str × V)} (T:yi K mg x C) (e:H a=some (.ins C dx fs)):yV K H (.ref a) (.ref C):=.ins e T.cl T.ha T.hn T.htk T.hm
structure ut (P:Program) (w:World) (K:PySem.W.Frag) (mg:Str->Option Value) (base:Heap) (C:Addr) (m:Str) (ps:List Str) (k:Nat) (sp:Sp):Prop where
 ex:∃ f fd,zF P w K mg base zW k f fd ps sp/\qH K C m f/\ww K fd ps []
structure uX (P:Program) (w:World) (K:PySem.W.Frag) (mg:Str->Option Value) (base:Heap) (C:Addr) (ps:List Str) (k:Nat) (sp:Sp):Prop where
 ex:∃ f fd,zF P w K mg base zW k f fd ps sp/\Mk K C f/\ww K fd ps []
structure wZ (P:Program) (w:World) (K:PySem.W.Frag) (mg:Str->Option Value) (base:Heap) (C:Addr) (ps:List Str) (k:Nat) (sp:Sp) (dv:V):Prop where
 ex:∃ f fd d,zF P w K mg base zW k f fd ps sp/\Mk K C f/\ww K fd ps []/\ww K fd ps [d]/\zV dv d
theorem ut.mono {P:Program} {w:World} {K:PySem.W.Frag} {mg:Str->Option Value} {base:Heap} {C:Addr} {m:Str} {ps:List Str} {j k:Nat} {sp:Sp} (F:ut P w K mg base C m ps j sp) (h:j<=k:=by decide):ut P w K mg base C m ps k sp:=by
 obtain ⟨f,fd,a,b,c⟩:=F.ex
 exact ⟨f,fd,a.mono h,b,c⟩
theorem uX.mono {P:Program} {w:World} {K:PySem.W.Frag} {mg:Str->Option Value} {base:Heap} {C:Addr} {ps:List Str} {j k:Nat} {sp:Sp} (F:uX P w K mg base C ps j sp) (h:j<=k:=by decide):uX P w K mg base C ps k sp:=by
 obtain ⟨f,fd,a,b,c⟩:=F.ex
 exact ⟨f,fd,a.mono h,b,c⟩
theorem wZ.mono {P:Program} {w:World} {K:PySem.W.Frag} {mg:Str->Option Value} {base:Heap} {C:Addr} {ps:List Str} {j k:Nat} {sp:Sp} {dv:V} (F:wZ P w K mg base C ps j sp dv) (h:j<=k:=by decide):wZ P w K mg base C ps k sp dv:=by
 obtain ⟨f,fd,d,a,b,c⟩:=F.ex
 exact ⟨f,fd,d,a.mono h,b,c⟩
theorem wZ.fn {P:Program} {w:World} {K:PySem.W.Frag} {mg:Str->Option Value} {base:Heap} {C:Addr} {ps:List Str} {k:Nat} {sp:Sp} {dv:V} (F:wZ P w K mg base C ps k sp dv):uX P w K mg base C ps k sp:=by
 obtain ⟨f,fd,d,a,b,c,_⟩:=F.ex
 exact ⟨f,fd,a,b,c⟩
section
variable {X:Cx} {C:Addr} {m x:Str} {ps:List Str} {k:Nat} {sp:Sp} {o e:Expr} {es:List Expr} {ta:TE} {t:TA} {p pos apos:Pos} {dv:V}
theorem zK5 {pl:Sem Bool} (F:ut X.prog X.w X.K X.mg X.base C m ps k sp) (T:yi X.K X.mg x C) (hr:zc k X.A) (he:PE X o ta)
  (ht:eval (.Call (.Attribute o m apos) [] [] pos) X.env=(do
   let ov <- eval o X.env
   standAt apos.atName
   let (f,first) <- holding [ov] (getMethod ov m pl)
   callWith pos f first (backTo pos (starEach [] X.env)) (backToKw pos (keywordEach [] X.env))):=by rfl) :
  PE X (.Call (.Attribute o m apos) [] [] pos) (Kf C m sp [] E0 ta v9):=by
 obtain ⟨f,fd,a,b,c⟩:=F.ex
 exact zM4 he T.cl b a hr c .nil k6 ht
theorem zI8 (F:uX X.prog X.w X.K X.mg X.base C ps k sp) (T:yi X.K X.mg x C) (hr:zc (k + 1) X.A) (hg:Gl X x) (ha:PA X (e :: es) t)
  (hdb:(x == ("__debug__" : Str))=false:=by decide) (he:starEach (e :: es) X.env=(false,eval e X.env) :: starEach es X.env:=by rfl) (hpl:(backTo pos (starEach es X.env)).any (·.1)=false:=by rfl) :
  PE X (.Call (.Name x p) (e :: es) [] pos) (kj C sp [] E0 t):=by
 obtain ⟨f,fd,a,b,c⟩:=F.ex
 exact Ki b a hr hg T.mgC c .nil k6 ha hdb he hpl
theorem zK6 (F:wZ X.prog X.w X.K X.mg X.base C ps k sp dv) (T:yi X.K X.mg x C) (hr:zc (k + 1) X.A) (hg:Gl X x) (ha:PA X (e :: es) t)
  (hdb:(x == ("__debug__" : Str))=false:=by decide) (he:starEach (e :: es) X.env=(false,eval e X.env) :: starEach es X.env:=by rfl) (hpl:(backTo pos (starEach es X.env)).any (·.1)=false:=by rfl) :
  PE X (.Call (.Name x p) (e :: es) [] pos) (kj C sp [dv] E0 t):=by
 obtain ⟨f,fd,d,a,b,_,c,r⟩:=F.ex
 exact Ki b a hr hg T.mgC c (.cons r .nil) k6 ha hdb he hpl
theorem ZH (T:yi X.K X.mg x C) (hg:Gl X x) (hd:(x == ("__debug__" : Str))=false:=by decide):PE X (.Name x pos) (tC (.ref C)):=KF hg T.mgC rfl hd
def zNv (K:PySem.W.Frag):List V->Hp->VK->Prop:=λxs H Q=>∃ x C t b,xs=[x,.ref C]/\yV K H x t/\PySem.W.kitOne K t (.ref C)=some b/\Q (.bl b) H
theorem ZI:wv X (.builtin "isinstance") (zNv X.K):=by
 intro pins s σ H xs us Q I r h
 obtain ⟨x,C,t,b,rfl,ty,e,q⟩:=h
 obtain ⟨u,v,rfl,ru,rv⟩:=kf r
 cases (show v=Value.ref C from rv)
 exact Kc I ru ty e λtk=>⟨.bl b,H,I.tok tk,rfl,q⟩
end
end L2
namespace L2
open PySem PySem.Spec PyProof.Rows
section
variable {X:Cx} {pos:Pos}
end
end L2
namespace L2
open PySem PySem.Spec PyProof.Rows PySem.SeqAt
section
variable {X:Cx}
end
end L2
namespace L2
open PySem PySem.Spec PyProof.Rows
open PySem
def SqE (K:PySem.W.Frag) (H:Hp) (a:Addr) (xs:List V):Prop:=yN K H a xs\/zT K H a xs
section
variable {X:Cx} {es:List Expr} {kk:Nat} {tp:Pos}
theorem ZJ {pins:List (Addr × Obj)} {σ:St} {H:Hp} {s:Shared} (I:zG X pins σ H s) {c:Addr} (hc:c∈[s.heap.objs.size + 4,s.heap.objs.size + 2,s.heap.objs.size + 3,s.heap.objs.size,s.heap.objs.size + 1]):yY X pins H c:=by
 have ge:s.heap.objs.size<=c:=by
  simp only [List.mem_cons,List.not_mem_nil,or_false] at hc
  rcases hc with rfl | rfl | rfl | rfl | rfl
  ·exact Nat.le_add_right _ 4
  ·exact Nat.le_add_right _ 2
  ·exact Nat.le_add_right _ 3
  ·exact Nat.le_refl _
  ·exact Nat.le_add_right _ 1
 exact I.fpOk ge (I.hok.fresh ge)
def orZ (K:PySem.W.Frag) (H:Hp) (a b:Addr) (R:It->Hp->Prop):Prop:=
 ((∃ xs,yN K H a xs)/\(∃ ys,zT K H b ys)/\R (Itz K a b) H)\/((∃ xs,zT K H a xs)/\(∃ ys,zT K H b ys)/\R (ZE K a b) H)
def ZK (K:PySem.W.Frag) (ta:TA):TI:=λσ H R=>ta σ H λvs H1=>∃ a b,vs=[.ref a,.ref b]/\orZ K H1 a b R
theorem zOj {e1 e2:Expr} {ta:TA} {p pos:Pos} (hg:Gl X "zip") (hm:X.mg "zip" = none) (ha:PA X [e1,e2] ta) (hs:starEach [e1,e2] X.env=[(false,eval e1 X.env),(false,eval e2 X.env)]:=by rfl) (hs2:starEach [e2] X.env=[(false,eval e2 X.env)]:=by rfl) :
  PI X (.Tuple es kk tp) (.Call (.Name "zip" p) [e1,e2] [] pos) (ZK X.K ta):=by
 intro pins s σ H R I h
 refine Call_ (qE I hg hm (show bootBuiltins "zip" = some (.type "zip") by decide +kernel) (PyProof.Rows.callWith_type1 (zk (ha pos pins s σ H _ I h) λus s1 ⟨vs,H1,I1,r1,q1⟩=>?_) (by rw [hs,hs2]) (by rw [hs2]; rfl)))
 obtain ⟨a,b,e,q1⟩:=q1
 subst e
 obtain ⟨u,v,rfl,ru,rv⟩:=kf r1
 cases ru
 cases rv
 rcases q1 with ⟨⟨xs,hx⟩,⟨ys,hy⟩,q⟩ | ⟨⟨xs,hx⟩,⟨ys,hy⟩,q⟩
 ·obtain ⟨its1,rv1,p1,_⟩:=I1.tuple hx
  obtain ⟨its2,rv2,p2,_⟩:=I1.list hy
  have la:a < s1.heap.objs.size:=by obtain ⟨o,e,_⟩:=p1; exact Heap.lt_size e
  have lb:b < s1.heap.objs.size:=by obtain ⟨o,n,e,_⟩:=p2; exact Heap.lt_size e
  refine zIn p1 p2.isList λh' z1 z2 z3 z4 z5 keep=>wpAny_pyIter_zip z1 ?_
  have I2:zG X pins σ H1 { s1 with heap:=h' }:=I1.kept (t':=s1.toks) keep
  exact ⟨s1.heap.objs.size + 4,[s1.heap.objs.size + 4,s1.heap.objs.size + 2,s1.heap.objs.size + 3,s1.heap.objs.size,s1.heap.objs.size + 1],_,_,H1,rfl,I2,
   zMe (a:=a) (b:=b) (zPO _ _ _ la lb) (Nat.ne_of_lt la) (Nat.ne_of_lt (Nat.lt_succ_of_lt lb)),⟨z1,z2,⟨_,_,z3⟩,z4,z5⟩,λc hc=>ZJ I1 hc,q⟩
 ·obtain ⟨its1,rv1,p1,_⟩:=I1.list hx
  obtain ⟨its2,rv2,p2,_⟩:=I1.list hy
  have la:a < s1.heap.objs.size:=by obtain ⟨o,n,e,_⟩:=p1; exact Heap.lt_size e
  have lb:b < s1.heap.objs.size:=by obtain ⟨o,n,e,_⟩:=p2; exact Heap.lt_size e
  refine call_zip_2 p1.isList p2.isList λh' z1 z2 z3 z4 z5 _ keep=>wpAny_pyIter_zip z1 ?_
  have I2:zG X pins σ H1 { s1 with heap:=h' }:=I1.kept (t':=s1.toks) keep
  exact ⟨s1.heap.objs.size + 4,[s1.heap.objs.size + 4,s1.heap.objs.size + 2,s1.heap.objs.size + 3,s1.heap.objs.size,s1.heap.objs.size + 1],_,_,H1,rfl,I2,
   zKR (a:=a) (b:=b) (zPO _ _ _ la lb) (Nat.ne_of_lt la) (Nat.ne_of_lt (Nat.lt_succ_of_lt lb)),⟨z1,z2,⟨_,_,z3⟩,z4,z5⟩,λc hc=>ZJ I1 hc,q⟩
def ZM (K:PySem.W.Frag):R2:=λx y H Q=>∃ p xs i v,x=.ref p/\y=.int i/\SqE K H p xs/\ya xs i=some v/\Q v H
theorem zO4:kr X (ZM X.K):=by
 intro value slice pins s σ H x y v u Q I rx ry h hs
 obtain ⟨p,xs,i,z,e1,e2,hq,he,q⟩:=h
 rcases hq with hq | hq
 ·exact zQX value slice pins s σ H x y v u Q I rx ry ⟨p,xs,i,z,e1,e2,hq,he,q⟩ hs
 ·exact UZ value slice pins s σ H x y v u Q I rx ry ⟨p,xs,i,z,e1,e2,hq,he,q⟩ hs
end
section
variable {prog:Program} {w:World} {A:Around} {E:Value->Shared->Prop}
theorem zQs {it l:Addr} {xs:Array Value} (ne:l≠it):∀ (m j:Nat) (s:Shared) (R:List Value->Shared->Prop),s.heap.IsListIter it l j->s.heap.IsList l xs->j + m<=xs.size->
  (∀ g,g.IsListIter it l (j + m)->Heap.SameBut it s.heap g->R ((xs.toList.drop j).take m) { s with heap:=g })->wpAny (model prog w) A (draw (.ref it) m) R E s
 | 0,j,s,R,hi,_,_,k=>wpAny_pure (by simpa using k s.heap hi (Heap.SameBut.refl ..))
 | m + 1,j,s,R,hi,hl,le,k=>by
  have lt:j < xs.size:=by omega
  have step:=λg (z:Heap.SameBut it s.heap g)=>(hl.extBut z.extBut ne:g.IsList l xs)
  show wpAny _ _ (pyNext (.ref it) >>= _) R E s
  refine wpAny_bind (wpAny_pyNext_list_item hi hl (x:=xs[j]) (by simp [lt]) λg1 i1 b1=>?_)
  refine wpAny_bind (wpAny_holding (zQs ne m (j + 1) _ _ i1 (step g1 b1) (by omega) λg2 i2 b2=>wpAny_pure ?_))
  have z:=k g2 (by rw [show j + (m + 1)=j + 1 + m by omega]; exact i2) (b1.trans b2)
  rw [show xs.toList.drop j=xs[j] :: xs.toList.drop (j + 1) by simp [List.drop_eq_getElem_cons,lt],List.take_succ_cons] at z
  exact z
theorem zQY {s:Shared} {l:Addr} {xs:Array Value} {R:List Value->Shared->Prop} (hd:A.handled=none) (hl:s.heap.IsList l xs)
  (k:∀ g,Heap.ExtBut s.heap.objs.size s.heap g->R xs.toList { s with heap:=g }):wpAny (model prog w) A (unpackItems (.ref l) xs.size none) R E s:=by
 have ne:l≠s.heap.objs.size:=by
  obtain ⟨o,eo,_⟩:=hl
  exact Nat.ne_of_lt (Heap.lt_size eo)
 unfold unpackItems
 refine wpAny_bind ?_
 unfold notIterableAtAll
 refine wpAny_bind (wpAny_specialOf hl.typeIs slot_list_iter.lookup ?_)
 refine wpAny_pure ?_
 simp only [Bool.false_eq_true,if_false]
 refine wpAny_bind (wpAny_holding (wpAny_pyIter_list hl ?_))
 refine wpAny_bind (wpAny_holding (zQs ne xs.size 0 _ _ ⟨_,Heap.get?_push_size _ rfl,rfl,rfl⟩ (hl.push _) (by omega) λg1 i1 b1=>?_))
 rw [show List.take xs.size (List.drop 0 xs.toList)=xs.toList by rw [List.drop_zero]; exact List.take_of_length_le (by simp),if_neg (by simp)]
 refine wpAny_bind (wpAny_holding (wpAny_pyNext_list_end hd i1 ((hl.push _).extBut b1.extBut ne) (by simp) λg2 x2=>?_))
 simp only [Option.isSome_none,Bool.false_eq_true,if_false]
 exact wpAny_pure (k g2 λc o n e=>x2 c o n (b1.extBut c o n (Heap.get?_push_of_some _ e)))
end
section
variable {X:Cx} {pos:Pos}
def ZN (K:PySem.W.Frag) (n:Nat) (t:uS):TG:=λv σ H Q=>∃ a xs,v=.ref a/\zT K H a xs/\xs.length=n/\t xs σ H Q
theorem zN1 {es:List Expr} {k:Nat} {t:uS} {n:Nat} (hc:X.calm=true) (h:gD X es t)
  (hn:(assignEach es X.env).length=n:=by rfl) (hst:(assignEach es X.env).findIdx? (·.1)=none:=by rfl):PG X (.Tuple es k pos) (ZN X.K n t):=by
 intro pins s σ H v u Q I r hw
 obtain ⟨a,xs,e1,hq,hl,hw⟩:=hw
 subst e1
 cases r
 obtain ⟨its,rv,ht,hz⟩:=I.list hq
 rw [assign_Tuple]
 refine wpAny_bind (wpAny_standAt ?_)
 unfold unpack
 rw [show (assignEach es X.env).length=its.toArray.size by simp [hn,<- hl,rv.length],hst]
 refine wpAny_bind (wpAny_holding (zQY (I.ok.hd hc) ht.isList λg hx=>?_))
 have I1:zG X pins σ H { s with heap:=g }:=I.kept (t':=s.toks) λb o e=>hx b o (Nat.ne_of_lt (Heap.lt_size e)) e
 exact h pins _ σ H xs _ Q I1 (by simpa using rv) hw
end
end L2
namespace L2
open PySem PySem.Spec PyProof.Rows
inductive yt (i:Nat) (σ:St) (H:Hp) (Q:VK):Prop
 | mk (v:V) (_:σ[i]? = some (some v)) (_:Q v H):yt i σ H Q
inductive JI0 (g:Int->Int->V) (x y:V) (H:Hp) (Q:VK):Prop
 | mk (i j:Int) (_:x=.int i) (_:y=.int j) (_:Q (g i j) H):JI0 g x y H Q
inductive JIx (S:Hp->Addr->List V->Prop) (x y:V) (H:Hp) (Q:VK):Prop
 | mk (p:Addr) (xs:List V) (i:Int) (v:V) (_:x=.ref p) (_:y=.int i) (_:S H p xs) (_:ya xs i=some v) (_:Q v H):JIx S x y H Q
inductive qR (x:V) (vs:List V) (H:Hp) (Q:VK):Prop
 | mk (l:Addr) (xs:List V) (y:V) (_:x=.ref l) (_:vs=[y]) (_:H l=some (.lst xs)) (_:xs.length < sizeLine) (_:Q .non (zY H l (.lst (xs++[y])))):qR x vs H Q
inductive zQ4 (K:PySem.W.Frag) (xs:List V) (H:Hp) (Q:VK):Prop
 | mk (x:V) (c:String) (t:Value) (b:Bool) (_:xs=[x,.ty c]) (_:yV K H x t) (_:PySem.W.kitOne K t (.type c)=some b) (_:Q (.bl b) H):zQ4 K xs H Q
inductive ZO (K:PySem.W.Frag) (xs:List V) (H:Hp) (Q:VK):Prop
 | mk (p:Addr) (ys:List V) (_:xs=[.ref p]) (_:(zT K H p ys/\∀ l,H l=none->Q (.ref l) (zY H l (.tup ys)))\/(yN K H p ys/\Q (.ref p) H)):ZO K xs H Q
section
variable {X:Cx}
theorem yb:Ky X "list.append" qR:=λpins s σ H x xs v us Q I rx rv ⟨l,ys,y,h1,h2,h3,h4,q⟩=>zLX pins s σ H x xs v us Q I rx rv ⟨l,ys,y,h1,h2,h3,h4,q⟩
theorem zQW:wv X (.builtin "isinstance") (zQ4 X.K):=λpins s σ H xs us Q I r ⟨x,c,t,b,h1,h2,h3,q⟩=>wQ pins s σ H xs us Q I r ⟨x,c,t,b,h1,h2,h3,q⟩
theorem Uo:wv X (.type "tuple") (ZO X.K):=λpins s σ H xs us Q I r ⟨p,ys,e,q⟩=>jG pins s σ H xs us Q I r ⟨p,ys,e,q⟩
theorem zZ (i:Nat) {x:Str} {pos:Pos} (hN:X.N[i]? = some x:=by rfl) (hv:qD X.env.scope x:=by first | exact Or.inl rfl | exact Or.inr (Or.inl rfl) | exact Or.inr (Or.inr rfl)) (hd:(x == ("__debug__" : Str))=false:=by decide)
  (hcd:(x == ("__classdict__" : Str))=false:=by decide):PE X (.Name x pos) (yt i):=λpins s σ H Q I ⟨v,e,h⟩=>KD hN hv hd hcd pins s σ H Q I ⟨v,e,h⟩
theorem ji0 {f:Value->Value->Sem Value} {g:Int->Int->V} (h:ye X f (v8 g)):ye X f (JI0 g):=λpins s σ H x y v u Q I rx ry ⟨i,j,hx,hy,q⟩=>h pins s σ H x y v u Q I rx ry ⟨i,j,hx,hy,q⟩
theorem jI:kr X (JIx (zT X.K)):=λa b pins s σ H x y v u Q I rx ry ⟨p,xs,i,w,hx,hy,hs,ha,q⟩=>UZ a b pins s σ H x y v u Q I rx ry ⟨p,xs,i,w,hx,hy,hs,ha,q⟩
end
end L2
namespace Sh
open PySem L2
def Up (H:Hp) (v:V) (r:List Int):Prop:=∃ a,v=.ref a/\H a=some (.lst (r.map V.int))
abbrev ZP (H:Hp) (vs:List V) (tab:List (List Int)):Prop:=Paired (Up H) vs tab
def zQ2 (p:Addr) (H H':Hp):Prop:=∀ b o,H b=some o->b≠p->H' b=some o
structure MD where
 rows:List (List Int)
 nexts:List (List Int)
 steer:List Int
 push:List (List Int)
 add:List Int
 div:Int
structure uA (m:MD) (n p:Nat):Prop where
 rows:∀ r∈m.rows,r.length=n + 1
 few:m.rows.length<=900
 nexts:m.nexts.length=n/\∀ r∈m.nexts,r.length=n
 steer:m.steer.length=n
 push:m.push.length=n/\∀ r∈m.push,r.length=p
 add:m.add.length=n
 div:1<=m.div
 n3:n<=3
 p6:p<=12
def ZQ (r n s p a:V) (d:Int):List (Str × V):=[("rows",r),("nexts",n),("steer",s),("push",p),("add",a),("divisor",.int d)]
structure zOM (C:Addr) (H:Hp) (o:Addr) (m:MD) where
 dx:Addr
 r:Addr
 rv:List V
 n:Addr
 nv:List V
 s:Addr
 p:Addr
 pv:List V
 a:Addr
structure zOM.Ok {C:Addr} {H:Hp} {o:Addr} {m:MD} (M:zOM C H o m):Prop where
 ins:H o=some (.ins C M.dx (ZQ (.ref M.r) (.ref M.n) (.ref M.s) (.ref M.p) (.ref M.a) m.div))
 hr:H M.r=some (.lst M.rv)
 hrv:ZD H M.rv m.rows
 hn:H M.n=some (.lst M.nv)
 hnv:ZP H M.nv m.nexts
 hs:H M.s=some (.lst (m.steer.map V.int))
 hp:H M.p=some (.lst M.pv)
 hpv:ZP H M.pv m.push
 ha:H M.a=some (.lst (m.add.map V.int))
structure vR (n:Nat) (bs:List (Int × Int)) (ms:List MD):Prop where
 n1:1<=n
 n3:n<=3
 bok:∀ b∈bs,b.1<=b.2
 b6:bs.length<=6
 m1:1<=ms.length
 m40:ms.length<=40
 mok:∀ m∈ms,uA m n bs.length
theorem Xo {K:PySem.W.Frag} {C:Addr}:PySem.W.kitOne K (.ref C) (.ref C)=some true:=by
 unfold PySem.W.kitOne
 rw [if_pos (by simp)]
end Sh
namespace Sh
open PySem L2
theorem zMn {H H1 H2:Hp} {x:Addr} (s:zD H H1) (b:zQ2 x H1 H2) (n:H x=none):zD H H2:=λc o e=>b _ _ (s _ _ e) (xG e n)
theorem zKj {H:Hp} {x dx:Addr} (hx:H x=none) (hdx:H dx=none) (ne:dx≠x) (u o:HO):zD H (zY (zY H dx u) x o):=
 (yy hdx _).trans (yy ((zu (Ne.symm ne)).trans hx) _)
def vS (H H':Hp):Hp:=λb=>match H b with | none=>H' b | some _=>none
theorem Uq {H H':Hp} {b:Addr} (h:H b=none):vS H H' b=H' b:=by
 unfold vS
 rw [h]
theorem Xp {H H':Hp} {b:Addr} {o:HO} (h:vS H H' b=some o):H b=none/\H' b=some o:=by
 unfold vS at h
 cases e:H b with
 | none=>rw [e] at h; exact ⟨rfl,h⟩
 | some u=>rw [e] at h; cases h
theorem Xq {H H1 H2:Hp} (s:zD H1 H2):zD (vS H H1) (vS H H2):=λb o h=>by
 obtain ⟨h1,h2⟩:=Xp h
 rw [Uq h1]
 exact s _ _ h2
end Sh
namespace L2
open PySem PySem.Spec PyProof.Rows
section
variable {X:Cx} {e:Expr}
end
theorem zF.no {P:Program} {w:World} {K:PySem.W.Frag} {mg:Str->Option Value} {base:Heap} {CX:vj} {k:Nat} {f:Addr} {fd:FuncData} {ps:List Str} {sp:Sp} (hn:∀ vs H Q E,¬ sp vs H Q E):zF P w K mg base CX k f fd ps sp:=
 ⟨λ_ _ _ _ h=>(hn _ _ _ _ h).elim,λ_ _ _ _ _ _ _ _ _ _ _ _ _ h=>(hn _ _ _ _ h).elim⟩
end L2
namespace Sh
inductive RT where
 | str (ns:List Int) (a d:Int)
 | stp (t:RT) (lo hi:Int)
 | prt (row:List Int) (x y:RT)
def RT.dep:RT->Nat
 | .str _ _ _=>1
 | .stp t _ _=>t.dep + 1
 | .prt _ x y=>max x.dep y.dep + 1
def RT.rows:RT->List (List Int)
 | .str _ _ _=>[]
 | .stp t _ _=>t.rows
 | .prt r x y=>[r]++x.rows++y.rows
def xb (pts:List (Int × Int)):RT->Int × Int
 | .str ns a d=>(Ub ((jo ns pts).1 + a * (jo ns pts).2) ((jo ns pts).2 * d),Uc ((jo ns pts).1 + a * (jo ns pts).2) ((jo ns pts).2 * d))
 | .stp t lo hi=>if (xb pts t).1 < lo * (xb pts t).2 then (lo,1) else if hi * (xb pts t).2 < (xb pts t).1 then (hi,1) else xb pts t
 | .prt row x y=>if (jo (row.take pts.length) pts).1<=row.getD pts.length 0 * (jo (row.take pts.length) pts).2 then xb pts x else xb pts y
end Sh
namespace Sh
open PySem L2
end Sh
namespace Sh
open PySem L2
end Sh
namespace L2
open PySem PySem.Spec PyProof.Rows Sh
section
variable {X:Cx}
inductive zPp (K:PySem.W.Frag) (x y:V) (H:Hp) (Q:VK):Prop
 | mk (a b:Addr) (xs ys:List V) (_:x=.ref a) (_:y=.ref b) (_:H a=some (.tup xs)) (_:H b=some (.tup ys)) (_:xs≠[]) (_:xs.length + ys.length<=sizeLine) (_:∀ p H',zD H H'->H' p=some (.tup (xs++ys))->Q (.ref p) H'):zPp K x y H Q
theorem zOr:ye X (binaryOp .Add) (zPp X.K):=by
 intro pins s σ H x y v u Q I rx ry h
 obtain ⟨a,b,xs,ys,rfl,rfl,ha,hb,hne,hz,q⟩:=h
 exact zOs pins s σ H _ _ v u Q I rx ry ⟨a,b,xs,ys,rfl,rfl,yN.of ha,yN.of hb,hne,hz,λz=>q a H (zD.refl _) (ha.trans (by rw [z,List.append_nil])),λ_ p hp=>q p _ (yy hp _) xF⟩
end
end L2
namespace Sh
section
variable {pts:List (Int × Int)} (hp:∀ p∈pts,0 < p.2)
include hp
end
end Sh
namespace Sh
open PySem L2
structure qS (K:PySem.W.Frag) (C1 C2 C3:Addr):Prop where
 k21:PySem.W.kitOne K (.ref C2) (.ref C1)=some false
 k31:PySem.W.kitOne K (.ref C3) (.ref C1)=some false
 k12:PySem.W.kitOne K (.ref C1) (.ref C2)=some false
 k32:PySem.W.kitOne K (.ref C3) (.ref C2)=some false
 k13:PySem.W.kitOne K (.ref C1) (.ref C3)=some false
end Sh
namespace Sh
open PySem L2
end Sh
namespace L2
open PySem PySem.Spec PyProof.Rows
abbrev Ur:=Array Value->Option Addr->Prop
def Us (base:Heap) (l:List Env) (e:Addr) (cls:Value) (P:Ur) (fl:Value) (h:Heap):Prop:=
 base.StaysIn h/\base.get? e=none/\h.FunFrames base l/\∃ (oe:Obj) (vs:Array Value) (T:Addr) (oT:Obj) (ts:Array Value),h.get? e=some oe/\oe.cls=cls/\oe.data=.fields vs/\P vs oe.dict/\vs[1]? = some (.ref T)/\base.get? T=none/\T≠e/\h.get? T=some oT/\oT.data=.fields ts/\ts[3]? = some fl
section
variable {M:Model} {A:Around} {E:Value->Shared->Prop} {s:Shared} {base:Heap} {env:Env} {outer:List Env} {L e:Addr} {cls:Value} {P:Ur} {Q:Unit->Shared->Prop} {oe:Obj} {vs:Array Value}
end
def P0:Ur:=λvs _=>vs[2]? = some .none
end L2
namespace L2
open PySem PySem.Spec PyProof.Rows
section
variable {P:Program} {w:World} {H:Hp} {h:Heap} {a:Addr}
end
structure XL (P:Program) (w:World) (outer:List Env) (H H':Hp) (s s':Shared) (B:Heap) (e:Addr) (cls a0:Value):Prop where
 os:s'.os=s.os
 bare:AllBare s'.gens
 keep:∀ b o,s.heap.get? b=some o->H b=none->b∉vI outer->B.get? b=some o
 slot:∀ b o,s.heap.get? b=some o->H b=none->b∈vI outer->∃ sl,s'.heap.get? b=some { o with slots:=sl }
 free:∀ b o,s.heap.get? b=some o->H b=none->H' b=none
 there:∀ b o,s.heap.get? b=some o->b∉vI outer->∃ o',B.get? b=some o'
 tups:∀ b xs,H b=some (.tup xs)->H' b=some (.tup xs)
 frzs:∀ b o u,H b=some (.frz o u)->H' b=some (.frz o u)
 tbls:∀ b ps,H b=some (.tbl ps)->∃ more,H' b=some (.tbl (ps++more))
 hok:xU P w H' B
 fly:Us B outer e cls P0 .none s'.heap
section
variable {P:Program} {w:World} {outer:List Env} {H H':Hp} {s s':Shared} {B:Heap} {e:Addr} {cls a0:Value}
end
section
variable {P:Program} {w:World} {K:PySem.W.Frag} {mg:Str->Option Value} {base:Heap} {N:List Str} {qual:Str} {scope:Scope} {f:Addr} {cd:Value} {A:Around} {outer:List Env} {s:Shared} {H:Hp} {E:XK}
end
section
variable {P:Program} {w:World} {K:PySem.W.Frag} {mg:Str->Option Value} {base:Heap}
end
section
variable {X:Cx}
end
section
variable {X:Cx} {pins:List (Addr × Obj)} {σ:St} {H:Hp} {s:Shared} {e:Addr}
end
end L2
namespace L2
open PySem PySem.Spec PyProof.Rows
def XP (X:Cx) (pins:List (Addr × Obj)) (ES:St->XK) (ev:Value) (s':Shared):Prop:=
 ∃ (σ1:St) (s1:Shared) (H1 H2:Hp) (e:Addr) (cls a0:Value) (B:Heap),zG X pins σ1 H1 s1/\ev=.ref e/\XL X.prog X.w X.stack H1 H2 s1 s' B e cls a0/\ES σ1 cls none H2
section
variable {X:Cx} {call:Expr} {tb:XK->TE} {pos pos':Pos}
end
end L2
namespace L2
open PySem PySem.Spec PyProof.Rows
section
variable {X:Cx} {C:Addr} {m x:Str} {ps:List Str} {k:Nat} {sp:Sp} {o e:Expr} {es:List Expr} {ta:TE} {t:TA} {p pos apos:Pos}
end
section
variable {P:Program} {w:World} {K:PySem.W.Frag} {mg:Str->Option Value} {base:Heap} {N:List Str} {qual:Str} {scope:Scope} {f:Addr} {cd:Value} {A:Around} {outer:List Env} {s:Shared} {H:Hp} {E:XK}
variable {C:Addr} {m x:Str} {ps:List Str} {k:Nat} {sp:Sp} {o e:Expr} {es:List Expr} {ta:TE} {t:TA} {p pos apos:Pos}
end
end L2
namespace L2
open PySem PySem.Spec PyProof.Rows
section
variable {P:Program} {w:World} {K:PySem.W.Frag} {mg:Str->Option Value} {base:Heap} {k:Nat} {f C:Addr} {fd:FuncData} {x m:Str} {ps:List Str} {sp:Sp}
end
end L2
namespace L2
open PySem PySem.Spec PyProof.Rows PySem.Builtin PySem.Builtin.ObjectAttr PySem.Builtin.Getset_descriptor
section
variable {prog:Program} {w:World} {A:Around} {E:Value->Shared->Prop} {K:PySem.W.Frag} {s:Shared} {e C:Addr} {oe:Obj}
end
section
variable {X:Cx}
end
end L2
namespace Sh
open PySem L2
inductive AK where
 | int (i:Int)
 | bool (b:Bool)
 | non
 | str (x:Str)
 | dic
 | lst (as:List AK)
 | tup (as:List AK)
 | mode (r n s p a d:AK)
def AK.isInt:AK->Bool
 | .int _=>true
 | .bool _=>true
 | _=>false
def AK.isBool:AK->Bool
 | .bool _=>true
 | _=>false
def AK.isLst:AK->Bool
 | .lst _=>true
 | _=>false
def AK.isTup:AK->Bool
 | .tup _=>true
 | _=>false
inductive ZR where
 | made | bad | many
def ZR.str:ZR->Str
 | .made=>"made"
 | .bad=>"bad"
 | .many=>"many"
end Sh
namespace HT
open PySem PySem.Spec PyProof.Rows
section
variable {prog:Program} {w:World} {A:Around} {E:Value->Shared->Prop} {s:Shared}
theorem cat_tup0 {t b:Addr} {vs ws:List Value} {Q:Value->Shared->Prop} (ht:IsTup s.heap t vs.toArray) (hb:IsTup s.heap b ws.toArray) (hv:vs=[]) (h0:Q (.ref b) s):wpAny (model prog w) A (binaryOp .Add (.ref t) (.ref b)) Q E s:=by
 obtain ⟨⟨cls,dd,data,sl⟩,ho,hc,n,hd⟩:=id ht
 obtain ⟨⟨cls2,dd2,data2,sl2⟩,ho2,hc2,n2,hd2⟩:=id hb
 simp only at hc hd hc2 hd2
 subst hc hd hc2 hd2
 exact concat_meets ⟨_,ho,rfl⟩ ⟨_,ho2,rfl⟩ noFill_tuple_add seq_tuple_add PySem.F.slot_tuple_add PySem.F.entry_tuple_add (PySem.F.args_tuple_add_2 _ _)
  (tuple_addW0 t b vs.toArray ws.toArray n n2 dd dd2 sl sl2 (by simp [hv])) ⟨ho,ho2,h0⟩
theorem getItem_tuple_all {t sl:Addr} {items:Array Value} {vl vu:Value} {lo hi:Option Int} {Q:Value->Shared->Prop} (ht:IsTup s.heap t items) (hs:s.heap.IsSliceOf sl vl vu .none) (pl:IsPart vl lo) (pu:IsPart vu hi)
  (hw:sIx items.size 0 lo=0/\sIx items.size items.size hi=items.size) (h:Q (.ref t) s):wpAny (model prog w) A (getItem (.ref t) (.ref sl)) Q E s:=by
 obtain ⟨os,hos,hcs,hds⟩:=id hs
 have hTs:s.TypeIs (.ref sl) "slice":=⟨os,hos,hcs⟩
 unfold getItem
 try with_reducible refine wpAny_holding ?_
 first | refine wpAny_bind (wpAny_pure ?_) | skip
 refine wpAny_bind (wpAny_sequenceKey ht.typeIs (by decide) ?_)
 refine wpAny_bind (wpAny_callSpecial?_slot (name:=Str.ofString "__getitem__") ht.typeIs PyProof.Rows.slot_tuple_getitem
  (wpAny_call_entry PyProof.Rows.slot_tuple_getitem ht.typeIs entry_tuple_getitem ?_ (args_tuple_getitem _ _)))
 show wpAny _ _ (Builtin.Tuple.tupleItemsOf (.ref t) >>= _) _ _ s
 refine wpAny_bind (tupleItemsOf_ ht ?_)
 refine wpAny_bind (wpAny_typeOf hTs ?_)
 rw [if_pos (by decide)]
 refine wpAny_bind (Ks hs pl pu ?_)
 have hyes:(((sIx items.size 0 lo:Nat):Int) == 0 && (1:Int) == 1 && (sIx items.size items.size hi - sIx items.size 0 lo) == items.size)=true:=by
  rw [hw.1,hw.2]
  simp
 show wpAny _ _ (if (((sIx items.size 0 lo:Nat):Int) == 0 && (1:Int) == 1 && (sIx items.size items.size hi - sIx items.size 0 lo) == items.size)=true then _ else _) _ _ s
 rw [if_pos hyes]
 unfold Builtin.Tuple.tupleIsExact
 refine wpAny_bind (wpAny_bind (wpAny_typeOf ht.typeIs (wpAny_pure ?_)))
 rw [if_pos (by decide)]
 refine wpAny_bind (wpAny_rule ?_)
 exact wpAny_pure ⟨_,rfl,wpAny_pure h⟩
end
end HT
namespace L2
open PySem PySem.Spec PyProof.Rows
section
variable {X:Cx}
inductive Ut (x y:V) (H:Hp) (Q:VK):Prop
 | mk (a b:Addr) (xs ys:List V) (_:x=.ref a) (_:y=.ref b) (_:H a=some (.tup xs)) (_:H b=some (.tup ys)) (_:xs.length + ys.length<=sizeLine) (_:∀ p H',zD H H'->H' p=some (.tup (xs++ys))->Q (.ref p) H'):Ut x y H Q
theorem ZS:ye X (binaryOp .Add) Ut:=by
 intro pins s σ H x y v u Q I rx ry h
 obtain ⟨a,b,xs,ys,rfl,rfl,ha,hb,hz,q⟩:=h
 by_cases hne:xs=[]
 ·subst hne
  cases rx
  cases ry
  obtain ⟨its,r1,p1,_⟩:=I.tuple (yN.of ha)
  obtain ⟨its2,r2,p2,_⟩:=I.tuple (yN.of hb)
  exact HT.cat_tup0 p1 p2 (r1.nil_iff.mpr rfl) ⟨.ref b,H,I,rfl,q b H (zD.refl _) hb⟩
 ·exact zOr pins s σ H _ _ v u Q I rx ry ⟨a,b,xs,ys,rfl,rfl,ha,hb,hne,hz,q⟩
inductive ZT (x:V) (lo hi:Option Int) (H:Hp) (Q:VK):Prop
 | mk (a:Addr) (xs:List V) (_:x=.ref a) (_:H a=some (.tup xs)) (_:∀ p H',zD H H'->H' p=some (.tup (wx xs lo hi))->Q (.ref p) H'):ZT x lo hi H Q
theorem zNQ:qI X ZT:=by
 intro pins s σ H x v vl vu lo hi sl Q I rx hs pl pu h
 obtain ⟨a,xs,rfl,hx,q⟩:=h
 by_cases hw:HT.sIx xs.length 0 lo=0/\HT.sIx xs.length xs.length hi=xs.length
 ·cases rx
  obtain ⟨its,r,ht,hz⟩:=I.tuple (yN.of hx)
  have hlen:its.toArray.size=xs.length:=by rw [List.size_toArray]; exact r.length.symm
  refine ⟨"tuple",_,PyProof.Rows.slot_tuple_getitem.lookup,ht.typeIs,?_⟩
  refine HT.getItem_tuple_all ht hs pl pu (by rw [hlen]; exact hw) ⟨.ref a,H,I,rfl,q a H (zD.refl _) (hx.trans ?_)⟩
  unfold wx
  rw [hw.1,hw.2,List.drop_zero,Nat.sub_zero,List.take_length]
 ·exact zPh pins s σ H _ v vl vu lo hi sl Q I rx hs pl pu ⟨a,xs,rfl,yN.of hx,hw,λp hp=>q p _ (Sh.yy hp _) xF⟩
end
end L2
set_option linter.all false
namespace Sh
def bt:List (Int × Int)->Int
 | []=>1
 | p :: ps=>p.2 * bt ps
def tp:List Int->List (Int × Int)->Int
 | w :: ws,p :: ps=>w * p.1 * bt ps + p.2 * tp ws ps
 | _,_=>0
def xc:List Int->List Int->Int
 | r :: rs,a :: as=>r * a + xc rs as
 | _,_=>0
def zh (nums:List Int) (ls:List (List Int)) (j:Nat):Int:=((nums.zip ls).map λq=>q.1 * q.2.getD j 0).sum
theorem zHm (r:Int) (rs:List Int) (c:List Int) (cs:List (List Int)) (j:Nat):zh (r :: rs) (c :: cs) j=r * c.getD j 0 + zh rs cs j:=by
 simp only [zh,List.zip_cons_cons,List.map_cons,List.sum_cons]
end Sh
set_option linter.all false
namespace Sh
def xH (pl:Int) (n:Nat) (nu:Int):List Int:=(List.range n).map λ(i:Nat)=>if (i:Int)=pl then nu else 0
theorem uB (pl:Int) (n:Nat) (nu:Int):(xH pl n nu).length=n:=by
 unfold xH
 rw [List.length_map,List.length_range]
def uC (n p:Nat) (r:List Int):List Int:=(r.take n++List.replicate p 0)++[r.getD n 0]
def xz (n p:Nat) (i:Nat) (b:Int × Int):List (List Int):=[xH ((n + i:Nat):Int) (n + p) 1++[b.2],xH ((n + i:Nat):Int) (n + p) (-1)++[-b.1]]
def ZU (n:Nat) (bs:List (Int × Int)) (rows:List (List Int)):List (List Int):=rows.map (uC n bs.length)++(bs.mapIdx (xz n bs.length)).flatten
def hB (pts:List (Int × Int)) (ws:List Int) (b:Int):Bool:=decide (tp ws pts<=b * bt pts)
def hR (pts:List (Int × Int)) (r:List Int):Bool:=hB pts (r.take pts.length) (r.getD pts.length 0)
end Sh
set_option linter.all false
namespace Sh
theorem zHl:∀ (ns:List Int) (ls:List (List Int)) (j:Nat),zh ns ls j=xc ns (ls.map λr=>r.getD j 0)
 | [],_,_=>by simp [zh,xc]
 | _ :: _,[],_=>by simp [zh,xc]
 | n :: ns,l :: ls,j=>by rw [zHm,List.map_cons,zHl ns ls j]; rfl
end Sh
set_option linter.all false
namespace Sh
theorem zM0 (r:List Int) (rows:List (List Int)) (x:Int) (nums:List Int) (j:Nat):uL (r :: rows) (x :: nums) j=r.getD j 0 * x + uL rows nums j:=by unfold uL; simp
end Sh
namespace Pu
open PySem L2 Sh
inductive D where
 | int (i:Int)
 | bool (b:Bool)
 | non
 | str (x:Str)
 | scr (ns:List Int)
 | lst (ds:List D)
 | tup (ds:List D)
 | obj (c:Addr) (ns:List Str) (ds:List D)
inductive DV (H:Hp):V->D->Prop where
 | int (i:Int):DV H (.int i) (.int i)
 | bool (b:Bool):DV H (.bl b) (.bool b)
 | non:DV H .non .non
 | str (x:Str):DV H (.str x) (.str x)
 | scr {a:Addr} {ns:List Int} (e:Rd H a (.lst (ns.map V.int))):DV H (.ref a) (.scr ns)
 | lst {a:Addr} {xs:List V} {ds:List D} (e:H a=some (.lst xs)) (h:Paired (DV H) xs ds):DV H (.ref a) (.lst ds)
 | tup {a:Addr} {xs:List V} {ds:List D} (e:H a=some (.tup xs)) (h:Paired (DV H) xs ds):DV H (.ref a) (.tup ds)
 | obj {o dx c:Addr} {ns:List Str} {xs:List V} {ds:List D} (e:H o=some (.ins c dx (ns.zip xs))) (l:ns.length=xs.length) (h:Paired (DV H) xs ds):DV H (.ref o) (.obj c ns ds)
theorem Xr {H H':Hp} (s:zD H H') {a:Addr} {u:HO} (h:Rd H a u):Rd H' a u:=h.imp (s _ _) λ⟨o,e⟩=>⟨o,s _ _ e⟩
theorem DV.same {H H':Hp} (s:zD H H'):∀ {v:V} {d:D},DV H v d->DV H' v d
 | _,_,.int i=>.int i
 | _,_,.bool b=>.bool b
 | _,_,.non=>.non
 | _,_,.str x=>.str x
 | _,_,.scr e=>.scr (Xr s e)
 | _,_,.lst e h=>.lst (s _ _ e) (go s h)
 | _,_,.tup e h=>.tup (s _ _ e) (go s h)
 | _,_,.obj e l h=>.obj (s _ _ e) l (go s h)
where
 go {H H':Hp} (s:zD H H'):∀ {xs:List V} {ds:List D},Paired (DV H) xs ds->Paired (DV H') xs ds
  | _,_,.nil=>.nil
  | _,_,.cons h t=>.cons (DV.same s h) (go s t)
abbrev yG (H:Hp):List V->List D->Prop:=Paired (DV H)
theorem yD {H H':Hp} (s:zD H H') {xs:List V} {ds:List D} (h:yG H xs ds):yG H' xs ds:=DV.same.go s h
theorem Uu {H:Hp}:∀ {xs:List V} {ns:List Int},yG H xs (ns.map D.int)->xs=ns.map V.int
 | _,[],.nil=>rfl
 | _,_ :: _,.cons h t=>by cases h; rw [Uu t]; rfl
theorem zH2 {H:Hp}:∀ {xs:List V} {bs:List Bool},yG H xs (bs.map D.bool)->xs=bs.map V.bl
 | _,[],.nil=>rfl
 | _,_ :: _,.cons h t=>by cases h; rw [zH2 t]; rfl
open Classical in
noncomputable def zL (Z:Addr->Prop) (H:Hp):Hp:=λb=>if Z b then none else H b
theorem xV {Z:Addr->Prop} {H:Hp} {b:Addr} (h:¬ Z b):zL Z H b=H b:=if_neg h
theorem uD {Z:Addr->Prop} {H:Hp} {b:Addr} {o:HO} (h:zL Z H b=some o):¬ Z b/\H b=some o:=by
 unfold zL at h
 by_cases c:Z b
 ·rw [if_pos c] at h; cases h
 ·rw [if_neg c] at h; exact ⟨c,h⟩
theorem zm {Z:Addr->Prop} {H:Hp}:zD (zL Z H) H:=λ_ _ h=>(uD h).2
theorem zz {Z:Addr->Prop} {H H':Hp} (s:zD H H'):zD (zL Z H) (zL Z H'):=λb o h=>by
 obtain ⟨h1,h2⟩:=uD h
 rw [xV h1]
 exact s _ _ h2
theorem uu {Z Z':Addr->Prop} {H:Hp} (s:∀ b,Z' b->Z b):zD (zL Z H) (zL Z' H):=λb o h=>by
 obtain ⟨h1,h2⟩:=uD h
 rw [xV λz=>h1 (s _ z)]
 exact h2
def ZL (Z:Addr->Prop) (H:Hp):Prop:=∀ b,Z b->∃ u,H b=some u/\∀ xs,u≠.tup xs
theorem ZL.same {Z:Addr->Prop} {H H':Hp} (z:ZL Z H) (s:zD H H'):ZL Z H':=λb hb=>let ⟨u,e,n⟩:=z b hb; ⟨u,s _ _ e,n⟩
theorem ZL.new {Z:Addr->Prop} {H:Hp} (z:ZL Z H) {p:Addr} (h:H p=none):¬ Z p:=λq=>by
 obtain ⟨u,e,_⟩:=z p q
 rw [h] at e
 cases e
inductive Sl where
 | no
 | sh (d:D)
 | ow (ds:List D)
 | ob (o c:Addr) (ns:List Str) (ds:List D)
def slot:List Sl->Nat->Sl
 | [],_=>.no
 | x :: _,0=>x
 | _ :: t,i + 1=>slot t i
def yJ:List Sl->Nat->Sl->List Sl
 | [],_,_=>[]
 | _ :: t,0,y=>y :: t
 | x :: t,i + 1,y=>x :: yJ t i y
theorem gS:∀ (Γ:List Sl) (i:Nat) (y:Sl),(yJ Γ i y).length=Γ.length
 | [],_,_=>rfl
 | _ :: _,0,_=>rfl
 | _ :: t,i + 1,y=>by show (yJ t i y).length + 1=_; rw [gS t i y]; rfl
theorem xn:∀ (Γ:List Sl) (i j:Nat) (y:Sl),slot (yJ Γ i y) j=if j=i/\i < Γ.length then y else slot Γ j
 | [],i,j,y=>by rw [if_neg (λh=>absurd h.2 (Nat.not_lt_zero _))]; rfl
 | x :: t,0,0,y=>(if_pos ⟨rfl,Nat.zero_lt_succ _⟩).symm
 | x :: t,0,j + 1,y=>(if_neg (λh=>nomatch h.1)).symm
 | x :: t,i + 1,0,y=>(if_neg (λh=>nomatch h.1)).symm
 | x :: t,i + 1,j + 1,y=>by
  show slot (yJ t i y) j=if j + 1=i + 1/\i + 1 < t.length + 1 then y else slot t j
  rw [xn t i j y]
  by_cases c:j=i/\i < t.length
  ·rw [if_pos c,if_pos ⟨by omega,by omega⟩]
  ·rw [if_neg c,if_neg (λh=>c ⟨by omega,by omega⟩)]
theorem uY:∀ {Γ:List Sl} {i:Nat},slot Γ i≠.no->i < Γ.length
 | [],_,h=>absurd rfl h
 | _ :: _,0,_=>Nat.zero_lt_succ _
 | _ :: _,_ + 1,h=>Nat.succ_lt_succ (uY (Γ:=_) h)
structure yj (Z:Addr->Prop) (Γ:List Sl) (σ:St) (H:Hp):Prop where
 sh:∀ i d,slot Γ i=.sh d->∃ v,σ[i]? = some (some v)/\DV (zL Z H) v d
 ow:∀ i ds,slot Γ i=.ow ds->∃ l xs,σ[i]? = some (some (.ref l))/\Z l/\H l=some (.lst xs)/\yG (zL Z H) xs ds
 ob:∀ i o c ns ds,slot Γ i=.ob o c ns ds->∃ dx xs,σ[i]? = some (some (.ref o))/\Z o/\H o=some (.ins c dx (ns.zip xs))/\ns.length=xs.length/\yG (zL Z H) xs ds
 ne:∀ i j as bs l,slot Γ i=.ow as->slot Γ j=.ow bs->σ[i]? = some (some (.ref l))->σ[j]? = some (some (.ref l))->i=j
 zd:ZL Z H
 len:Γ.length=σ.length
theorem yj.same {Z:Addr->Prop} {Γ:List Sl} {σ:St} {H H':Hp} (E:yj Z Γ σ H) (s:zD H H'):yj Z Γ σ H' where
 sh:=λi d e=>let ⟨v,h1,h2⟩:=E.sh i d e; ⟨v,h1,h2.same (zz s)⟩
 ow:=λi ds e=>let ⟨l,xs,h1,h2,h3,h4⟩:=E.ow i ds e; ⟨l,xs,h1,h2,s _ _ h3,yD (zz s) h4⟩
 ob:=λi o c ns ds e=>let ⟨dx,xs,h1,h2,h3,h5,h4⟩:=E.ob i o c ns ds e; ⟨dx,xs,h1,h2,s _ _ h3,h5,yD (zz s) h4⟩
 ne:=E.ne
 zd:=E.zd.same s
 len:=E.len
theorem yj.set {Z:Addr->Prop} {Γ:List Sl} {σ:St} {H:Hp} (E:yj Z Γ σ H) {v:V} {d:D} (h:DV (zL Z H) v d) (i:Nat):yj Z (yJ Γ i (.sh d)) (σ.set i (some v)) H where
 sh:=λj e q=>by
  rw [xn] at q
  by_cases c:j=i/\i < Γ.length
  ·rw [if_pos c] at q
   cases q
   rw [c.1]
   exact ⟨v,by rw [List.getElem?_set_self (by have:=E.len; omega)],h⟩
  ·rw [if_neg c] at q
   obtain ⟨u,h1,h2⟩:=E.sh j e q
   have hj:=uY (Γ:=Γ) (i:=j) (by rw [q]; exact λz=>nomatch z)
   exact ⟨u,by rw [List.getElem?_set_ne (λz=>c ⟨z.symm,by omega⟩)]; exact h1,h2⟩
 ow:=λj e q=>by
  rw [xn] at q
  by_cases c:j=i/\i < Γ.length
  ·rw [if_pos c] at q; cases q
  ·rw [if_neg c] at q
   obtain ⟨l,xs,h1,h2⟩:=E.ow j e q
   have hj:=uY (Γ:=Γ) (i:=j) (by rw [q]; exact λz=>nomatch z)
   exact ⟨l,xs,by rw [List.getElem?_set_ne (λz=>c ⟨z.symm,by omega⟩)]; exact h1,h2⟩
 ob:=λj o0 c0 ns e q=>by
  rw [xn] at q
  by_cases c:j=i/\i < Γ.length
  ·rw [if_pos c] at q; cases q
  ·rw [if_neg c] at q
   obtain ⟨dx,xs,h1,h2⟩:=E.ob j o0 c0 ns e q
   have hj:=uY (Γ:=Γ) (i:=j) (by rw [q]; exact λz=>nomatch z)
   exact ⟨dx,xs,by rw [List.getElem?_set_ne (λz=>c ⟨z.symm,by omega⟩)]; exact h1,h2⟩
 ne:=λj k as bs l q r e f=>by
  rw [xn] at q r
  by_cases c:j=i/\i < Γ.length
  ·rw [if_pos c] at q; cases q
  ·by_cases c':k=i/\i < Γ.length
   ·rw [if_pos c'] at r; cases r
   ·rw [if_neg c] at q
    rw [if_neg c'] at r
    have hj:=uY (Γ:=Γ) (i:=j) (by rw [q]; exact λz=>nomatch z)
    have hk:=uY (Γ:=Γ) (i:=k) (by rw [r]; exact λz=>nomatch z)
    rw [List.getElem?_set_ne (λz=>c ⟨z.symm,by omega⟩)] at e
    rw [List.getElem?_set_ne (λz=>c' ⟨z.symm,by omega⟩)] at f
    exact E.ne j k as bs l q r e f
 zd:=E.zd
 len:=by rw [gS,List.length_set]; exact E.len
abbrev yE:=List Sl->(D->Prop)->Prop
abbrev wo:=List Sl->(Bool->Prop)->Prop
abbrev yz:=List Sl->(List D->Prop)->Prop
abbrev ZV:=List Sl->(Option Int->Prop)->Prop
inductive tP (p:yE) (σ:St) (H:Hp) (Q:VK):Prop
 | mk (Z:Addr->Prop) (Γ:List Sl) (R:D->Prop) (E:yj Z Γ σ H) (h:p Γ R) (q:∀ d v H',R d->zD H H'->DV (zL Z H') v d->Q v H'):tP p σ H Q
inductive xT (p:wo) (σ:St) (H:Hp) (Q:Bool->Hp->Prop):Prop
 | mk (Z:Addr->Prop) (Γ:List Sl) (R:Bool->Prop) (E:yj Z Γ σ H) (h:p Γ R) (q:∀ b H',R b->zD H H'->Q b H'):xT p σ H Q
inductive xo (p:yz) (σ:St) (H:Hp) (Q:List V->Hp->Prop):Prop
 | mk (Z:Addr->Prop) (Γ:List Sl) (R:List D->Prop) (E:yj Z Γ σ H) (h:p Γ R) (q:∀ ds vs H',R ds->zD H H'->yG (zL Z H') vs ds->Q vs H'):xo p σ H Q
inductive ZW (p:ZV) (σ:St) (H:Hp) (Q:Option Int->Hp->Prop):Prop
 | mk (Z:Addr->Prop) (Γ:List Sl) (R:Option Int->Prop) (E:yj Z Γ σ H) (h:p Γ R) (q:∀ o H',R o->zD H H'->Q o H'):ZW p σ H Q
section
variable {X:Cx} {a b e c:Expr} {es:List Expr} {pos:Pos} {pa pb pc:yE} {qa qb:wo} {pl:yz}
theorem yO {t t':TE} (h:PE X e t) (w:∀ σ H Q,t' σ H Q->t σ H Q):PE X e t':=λpins s σ H Q I q=>h pins s σ H Q I (w σ H Q q)
theorem Xs {t t':TT} (h:PT X e t) (w:∀ σ H Q,t' σ H Q->t σ H Q):PT X e t':=λpins s σ H Q I q=>h pins s σ H Q I (w σ H Q q)
theorem pww {t t':TT} (h:PW X e t) (w:∀ σ H Q,t' σ H Q->t σ H Q):PW X e t':=λwh pins s σ H Q I q=>h wh pins s σ H Q I (w σ H Q q)
theorem paw {t t':TA} (h:PA X es t) (w:∀ σ H Q,t' σ H Q->t σ H Q):PA X es t':=λpos pins s σ H Q I q=>h pos pins s σ H Q I (w σ H Q q)
def zP9 (i:Nat):yE:=λΓ R=>match slot Γ i with | .sh d=>R d | _=>False
theorem zA (i:Nat) {x:Str} {pos:Pos} (hN:X.N[i]? = some x:=by rfl) (hv:qD X.env.scope x:=by first | exact Or.inl rfl | exact Or.inr (Or.inl rfl) | exact Or.inr (Or.inr rfl)) (hd:(x == ("__debug__" : Str))=false:=by decide)
  (hcd:(x == ("__classdict__" : Str))=false:=by decide):PE X (.Name x pos) (tP (zP9 i)):=yO (KD hN hv hd hcd) λσ H Q ⟨Z,Γ,R,E,h,q⟩=>by
 unfold zP9 at h
 cases s:slot Γ i with
 | sh d=>
  rw [s] at h
  obtain ⟨v,e,k⟩:=E.sh i d s
  exact ⟨v,e,q d v H h (zD.refl _) k⟩
 | _=>rw [s] at h; exact h.elim
def pC (d:D):yE:=λ_ R=>R d
theorem zE {i j pos}:PE X (.Constant (.int i) j pos) (tP (pC (.int i))):=yO vM λ_ H _ ⟨_,_,_,_,h,q⟩=>q _ _ H h (zD.refl _) (.int i)
theorem yu {i j pos}:PE X (.Constant (.bool i) j pos) (tP (pC (.bool i))):=yO kJ λ_ H _ ⟨_,_,_,_,h,q⟩=>q _ _ H h (zD.refl _) (.bool i)
theorem ZX {j pos}:PE X (.Constant .none j pos) (tP (pC .non)):=yO KE λ_ H _ ⟨_,_,_,_,h,q⟩=>q _ _ H h (zD.refl _) .non
theorem Uv {x:Str} {i:Int} {pos:Pos} (hg:Gl X x) (hm:∃ t,X.mg x=some (.int i t)) (hd:(x == ("__debug__" : Str))=false:=by decide):PE X (.Name x pos) (tP (pC (.int i))):=
 let ⟨_,e⟩:=hm
 yO (KF (v:=.int i) hg e ⟨_,rfl⟩ hd) λ_ H _ ⟨_,_,_,_,h,q⟩=>q _ _ H h (zD.refl _) (.int i)
abbrev F2:=D->D->(D->Prop)->Prop
def xq (f:F2) (pa pb:yE):yE:=λΓ R=>pa Γ λx=>pb Γ λy=>f x y R
def x8 (r:R2) (f:F2):Prop:=∀ (Z:Addr->Prop) (H:Hp) (x y:V) (a b:D) (R:D->Prop) (Q:VK),ZL Z H->DV (zL Z H) x a->DV (zL Z H) y b->f a b R->(∀ d v H',R d->zD H H'->DV (zL Z H') v d->Q v H')->r x y H Q
theorem Xu {r:R2} {f:F2} (o:x8 r f) (σ:St) (H:Hp) (Q:VK):tP (xq f pa pb) σ H Q->gG r (tP pa) (tP pb) σ H Q:=λ⟨Z,Γ,R,E,h,q⟩=>
 ⟨Z,Γ,_,E,h,λd v H1 hd s1 hv=>⟨Z,Γ,_,E.same s1,hd,λd2 v2 H2 hd2 s2 hv2=>o Z H2 v v2 d d2 R Q (E.same (s1.trans s2)).zd (hv.same (zz s2)) hv2 hd2 λd3 v3 H3 h3 s3 hv3=>q d3 v3 H3 h3 (s1.trans (s2.trans s3)) hv3⟩⟩
theorem gT {op:Operator} {r:R2} {f:F2} (ho:ye X (binaryOp op) r) (o:x8 r f) (ha:PE X a (tP pa)) (hb:PE X b (tP pb)):PE X (.BinOp a op b pos) (tP (xq f pa pb)):=yO (gH ho ha hb) (Xu o)
theorem ZY {op:CmpOp} {r:R2} {f:F2} (ho:ye X (compareOp op) r) (o:x8 r f) (hm:behindInMarks op b=false) (ha:PE X a (tP pa)) (hb:PE X b (tP pb)):PE X (.Compare a [op] [b] pos) (tP (xq f pa pb)):=yO (zOk ho ha hb hm) (Xu o)
theorem jJ {Z:Addr->Prop} {H:Hp} {p:Addr} {xs:List V} {ds:List D} (zd:ZL Z H) (hp:H p=none) (h:yG (zL Z H) xs ds):DV (zL Z (zY H p (.lst xs))) (.ref p) (.lst ds):=
 .lst ((xV (zd.new hp)).trans xF) (yD (zz (yy hp _)) h)
theorem ZZ {Z:Addr->Prop} {H:Hp} {p:Addr} {xs:List V} {ds:List D} (zd:ZL Z H) (hp:H p=none) (h:yG (zL Z H) xs ds):DV (zL Z (zY H p (.tup xs))) (.ref p) (.tup ds):=
 .tup ((xV (zd.new hp)).trans xF) (yD (zz (yy hp _)) h)
theorem zLF {Z:Addr->Prop} {H:Hp} {p:Addr} {xs:List V} {ds:List D} (zd:ZL Z H) (e:H p=some (.tup xs)) (h:yG (zL Z H) xs ds):DV (zL Z H) (.ref p) (.tup ds):=
 .tup ((xV λz=>by
  obtain ⟨u,e',n⟩:=zd p z
  rw [e] at e'
  cases e'
  exact n xs rfl).trans e) h
theorem DV.lst_inv {H:Hp} {v:V} {ds:List D} (h:DV H v (.lst ds)):∃ p xs,v=.ref p/\H p=some (.lst xs)/\yG H xs ds:=by cases h with | lst e h=>exact ⟨_,_,rfl,e,h⟩
theorem DV.tup_inv {H:Hp} {v:V} {ds:List D} (h:DV H v (.tup ds)):∃ p xs,v=.ref p/\H p=some (.tup xs)/\yG H xs ds:=by cases h with | tup e h=>exact ⟨_,_,rfl,e,h⟩
theorem few {n:Nat} (h:n<=1000):n<=sizeLine:=Nat.le_of_lt (qL h)
def qU:F2
 | .int i,.int j,R=>R (.int (i + j))
 | .lst as,.lst bs,R=>as.length + bs.length<=1000/\R (.lst (as++bs))
 | .tup as,.tup bs,R=>as.length + bs.length<=1000/\R (.tup (as++bs))
 | _,_,_=>False
theorem zOz:x8 (λx y H Q=>v8 (λi j=>.int (i + j)) x y H Q\/(qJ x y H Q\/Ut x y H Q)) qU:=λZ H x y a b R Q zd hx hy h q=>by
 unfold qU at h
 split at h
 ·cases hx; cases hy; exact .inl ⟨_,_,rfl,rfl,q _ _ H h (zD.refl _) (.int _)⟩
 ·obtain ⟨p,xs,rfl,e1,h1⟩:=hx.lst_inv
  obtain ⟨r,ys,rfl,e2,h2⟩:=hy.lst_inv
  have l1:=Paired.length h1
  have l2:=Paired.length h2
  exact .inr (.inl ⟨p,r,xs,ys,rfl,rfl,zm _ _ e1,zm _ _ e2,few (by omega),λn hn=>q _ _ _ h.2 (yy hn _) (jJ zd hn (qP h1 h2))⟩)
 ·obtain ⟨p,xs,rfl,e1,h1⟩:=hx.tup_inv
  obtain ⟨r,ys,rfl,e2,h2⟩:=hy.tup_inv
  have l1:=Paired.length h1
  have l2:=Paired.length h2
  exact .inr (.inr ⟨p,r,xs,ys,rfl,rfl,zm _ _ e1,zm _ _ e2,few (by omega),λn H' s e=>q _ _ _ h.2 s (zLF (zd.same s) e (yD (zz s) (qP h1 h2)))⟩)
 ·exact h.elim
def qV:F2
 | .int i,.int j,R=>R (.int (i - j))
 | _,_,_=>False
theorem zN7 {g:Int->Int->V} {k:Int->Int->D} {f:F2} (hg:∀ i j H,DV H (g i j) (k i j)) (hf:∀ a b R,f a b R->∃ i j,a=.int i/\b=.int j/\R (k i j)):x8 (v8 g) f:=λZ H x y a b R Q zd hx hy h q=>by
 obtain ⟨i,j,rfl,rfl,k⟩:=hf a b R h
 cases hx; cases hy
 exact ⟨_,_,rfl,rfl,q _ _ H k (zD.refl _) (hg i j _)⟩
theorem Uw {C:Int->Int->Prop} {g:Int->Int->V} {k:Int->Int->D} {f:F2} (hg:∀ i j H,DV H (g i j) (k i j)) (hf:∀ a b R,f a b R->∃ i j,a=.int i/\b=.int j/\C i j/\R (k i j)):x8 (rI C g) f:=λZ H x y a b R Q zd hx hy h q=>by
 obtain ⟨i,j,rfl,rfl,c,k⟩:=hf a b R h
 cases hx; cases hy
 exact ⟨_,_,rfl,rfl,c,q _ _ H k (zD.refl _) (hg i j _)⟩
theorem zOt:x8 (v8 λi j=>.int (i - j)) qV:=zN7 (k:=λi j=>.int (i - j)) (λ_ _ _=>.int _) λa b R h=>by
 unfold qV at h
 split at h
 ·exact ⟨_,_,rfl,rfl,h⟩
 ·exact h.elim
def qW:F2
 | .int i,.int j,R=>Bd 60000 i/\Bd 60000 j/\R (.int (i * j))
 | .lst [d],.int k,R=>0<=k/\k<=1000/\R (.lst (List.replicate k.toNat d))
 | _,_,_=>False
theorem Za {α:Type} (x:α):∀ n:Nat,(List.replicate n [x]).flatten=List.replicate n x
 | 0=>rfl
 | n + 1=>by rw [List.replicate_succ,List.flatten_cons,Za x n]; rfl
theorem zGT {α β:Type} {R:α->β->Prop} {x:α} {y:β} (h:R x y):∀ n:Nat,Paired R (List.replicate n x) (List.replicate n y)
 | 0=>.nil
 | n + 1=>.cons h (zGT h n)
theorem zOv:x8 (λx y H Q=>rI Xf (λi j=>.int (i * j)) x y H Q\/kz x y H Q) qW:=λZ H x y a b R Q zd hx hy h q=>by
 unfold qW at h
 split at h
 ·cases hx; cases hy; exact .inl ⟨_,_,rfl,rfl,⟨h.1,h.2.1⟩,q _ _ H h.2.2 (zD.refl _) (.int _)⟩
 ·rename_i d k
  obtain ⟨p,xs,rfl,e1,h1⟩:=hx.lst_inv
  cases hy
  cases h1 with
  | @cons x _ _ _ h1 h2=>
  cases h2
  refine .inr ⟨p,_,_,rfl,rfl,zm _ _ e1,by omega,by omega,few (by rw [List.length_singleton]; omega),λn hn=>?_⟩
  rw [Za]
  exact q _ _ _ h.2.2 (yy hn _) (jJ zd hn (zGT h1 _))
 ·exact h.elim
def Ux:F2
 | .int i,.int j,R=>j≠0/\Bd 8000 j/\R (.int (i.fdiv j))
 | _,_,_=>False
theorem zM7:x8 (rI K6 λi j=>.int (i.fdiv j)) Ux:=Uw (k:=λi j=>.int (i.fdiv j)) (λ_ _ _=>.int _) λa b R h=>by
 unfold Ux at h
 split at h
 ·exact ⟨_,_,rfl,rfl,⟨h.1,h.2.1⟩,h.2.2⟩
 ·exact h.elim
def qX:F2
 | .int i,.int j,R=>j≠0/\R (.int (i.fmod j))
 | _,_,_=>False
theorem zOw:x8 (rI (λ_ j=>j≠0) λi j=>.int (i.fmod j)) qX:=Uw (k:=λi j=>.int (i.fmod j)) (λ_ _ _=>.int _) λa b R h=>by
 unfold qX at h
 split at h
 ·exact ⟨_,_,rfl,rfl,h.1,h.2⟩
 ·exact h.elim
def qY:F2
 | .int i,.int j,R=>qG i j/\R (.int (i ^ j.toNat))
 | _,_,_=>False
theorem zOu:x8 (rI qG λi j=>.int (i ^ j.toNat)) qY:=Uw (k:=λi j=>.int (i ^ j.toNat)) (λ_ _ _=>.int _) λa b R h=>by
 unfold qY at h
 split at h
 ·exact ⟨_,_,rfl,rfl,h.1,h.2⟩
 ·exact h.elim
def w8 (g:Int->Int->Bool):F2
 | .int i,.int j,R=>R (.bool (g i j))
 | _,_,_=>False
theorem jw {g:Int->Int->Bool}:x8 (v8 λi j=>.bl (g i j)) (w8 g):=zN7 (k:=λi j=>.bool (g i j)) (λ_ _ _=>.bool _) λa b R h=>by
 unfold w8 at h
 split at h
 ·exact ⟨_,_,rfl,rfl,h⟩
 ·exact h.elim
theorem zi (ha:PE X a (tP pa)) (hb:PE X b (tP pb)):PE X (.BinOp a .Add b pos) (tP (xq qU pa pb)):=gT (zQI.or (Xc.or ZS)) zOz ha hb
theorem xr (ha:PE X a (tP pa)) (hb:PE X b (tP pb)):PE X (.BinOp a .Sub b pos) (tP (xq qV pa pb)):=gT UK zOt ha hb
theorem yo (ha:PE X a (tP pa)) (hb:PE X b (tP pb)):PE X (.BinOp a .Mult b pos) (tP (xq qW pa pb)):=gT (zOn.or zQB) zOv ha hb
theorem wa (ha:PE X a (tP pa)) (hb:PE X b (tP pb)):PE X (.BinOp a .FloorDiv b pos) (tP (xq Ux pa pb)):=gT zM6 zM7 ha hb
theorem y4 (ha:PE X a (tP pa)) (hb:PE X b (tP pb)):PE X (.BinOp a .Mod b pos) (tP (xq qX pa pb)):=gT zOo zOw ha hb
theorem jK (ha:PE X a (tP pa)) (hb:PE X b (tP pb)):PE X (.BinOp a .Pow b pos) (tP (xq qY pa pb)):=gT zQC zOu ha hb
theorem zPs (ha:PE X a (tP pa)) (hb:PE X b (tP pb)):PE X (.Compare a [.Lt] [b] pos) (tP (xq (w8 λi j=>decide (i < j)) pa pb)):=ZY UM jw (uI _) ha hb
theorem Uy (ha:PE X a (tP pa)) (hb:PE X b (tP pb)):PE X (.Compare a [.LtE] [b] pos) (tP (xq (w8 λi j=>decide (i<=j)) pa pb)):=ZY KT jw (uI _) ha hb
theorem Uz (ha:PE X a (tP pa)) (hb:PE X b (tP pb)):PE X (.Compare a [.GtE] [b] pos) (tP (xq (w8 λi j=>decide (j<=i)) pa pb)):=ZY KU jw (uI _) ha hb
def Zb:D->(D->Prop)->Prop
 | .int i,R=>R (.int (-i))
 | _,_=>False
def Zc (f:D->(D->Prop)->Prop) (pa:yE):yE:=λΓ R=>pa Γ λx=>f x R
theorem xI (ha:PE X a (tP pa)):PE X (.UnaryOp .USub a pos) (tP (Zc Zb pa)):=yO (kX zPU ha) λσ H Q ⟨Z,Γ,R,E,h,q⟩=>
 ⟨Z,Γ,_,E,h,λd v H1 hd s1 hv=>by
  unfold Zb at hd
  split at hd
  ·cases hv; exact ⟨_,rfl,q _ _ H1 hd s1 (.int _)⟩
  ·exact hd.elim⟩
end
end Pu
namespace Pu
open PySem L2 Sh
mutual
def D.py:D->PyData
 | .int i=>.int i
 | .bool b=>.bool b
 | .non=>.none
 | .str x=>.str x
 | .scr _=>.none
 | .lst ds=>.list (vn ds)
 | .tup ds=>.tuple (vn ds)
 | .obj _ _ _=>.none
def vn:List D->List PyData
 | []=>[]
 | d :: ds=>d.py :: vn ds
end
def D.pl:Nat->D->Bool
 | 0,_=>false
 | _ + 1,.int _=>true
 | _ + 1,.bool _=>true
 | _ + 1,.non=>true
 | _ + 1,.str x=>PyData.strOk x
 | _ + 1,.scr _=>false
 | n + 1,.lst ds=>ds.all (D.pl n)
 | n + 1,.tup ds=>ds.all (D.pl n)
 | _ + 1,.obj ..=>false
structure DpO (n:Nat) (d:D):Prop where
 dp:∀ K H v,DV H v d->Dp K H v d.py
 lay:d.py.canLay0=true
 dep:d.py.depth<=n
theorem U0 {n:Nat}:∀ {ds:List D},(∀ d∈ds,DpO n d)->(∀ K H xs,yG H xs ds->uW K H xs (vn ds))/\PyData.canLayAll0 (vn ds)=true/\PyData.depthAll (vn ds)<=n
 | [],_=>⟨λK H xs h=>by cases h; exact .nil,by simp [vn,PyData.canLayAll0],by simp [vn,PyData.depthAll]⟩
 | d :: ds,h=>by
  obtain ⟨h1,h2,h3⟩:=U0 (ds:=ds) λx m=>h x (List.mem_cons_of_mem _ m)
  have g:=h d List.mem_cons_self
  have l:=g.lay
  have p:=g.dep
  refine ⟨λK H xs q=>?_,by simp [vn,PyData.canLayAll0,l,h2],by simp only [vn,PyData.depthAll]; omega⟩
  cases q with
  | cons q r=>exact .cons (g.dp K H _ q) (h1 K H _ r)
theorem uv:∀ (n:Nat) (d:D),D.pl n d=true->DpO n d
 | 0,_,h=>by cases h
 | n + 1,.int i,_=>⟨λK H v h=>by cases h; exact .int i,by simp [D.py,PyData.canLay0],by simp [D.py,PyData.depth]⟩
 | n + 1,.bool i,_=>⟨λK H v h=>by cases h; exact .bl i,by simp [D.py,PyData.canLay0],by simp [D.py,PyData.depth]⟩
 | n + 1,.non,_=>⟨λK H v h=>by cases h; exact .non,by simp [D.py,PyData.canLay0],by simp [D.py,PyData.depth]⟩
 | n + 1,.str i,h=>⟨λK H v h=>by cases h; exact .str i,by simp only [D.py,PyData.canLay0]; exact h,by simp [D.py,PyData.depth]⟩
 | n + 1,.scr _,h=>by cases h
 | n + 1,.obj ..,h=>by cases h
 | n + 1,.lst ds,h=>by
  obtain ⟨h1,h2,h3⟩:=U0 (n:=n) (ds:=ds) λd m=>uv n d (List.all_eq_true.mp h d m)
  refine ⟨λK H v q=>?_,by simp [D.py,PyData.canLay0,h2],by simp only [D.py,PyData.depth]; omega⟩
  obtain ⟨p,xs,rfl,e,q⟩:=q.lst_inv
  exact .lst (zT.of e) (h1 K H _ q)
 | n + 1,.tup ds,h=>by
  obtain ⟨h1,h2,h3⟩:=U0 (n:=n) (ds:=ds) λd m=>uv n d (List.all_eq_true.mp h d m)
  refine ⟨λK H v q=>?_,by simp [D.py,PyData.canLay0,h2],by simp only [D.py,PyData.depth]; omega⟩
  obtain ⟨p,xs,rfl,e,q⟩:=q.tup_inv
  exact .tup (yN.of e) (h1 K H _ q)
theorem U1:∀ ns:List Int,vn (ns.map D.int)=ns.map PyData.int
 | []=>rfl
 | n :: t=>by rw [List.map_cons,List.map_cons,vn,U1 t,D.py]
theorem gU (n:Nat) (ns:List Int):(ns.map D.int).all (D.pl (n + 1))=true:=List.all_eq_true.mpr λd m=>by
 obtain ⟨i,_,rfl⟩:=List.mem_map.mp m
 rfl
abbrev L (ns:List Int):D:=.lst (ns.map D.int)
abbrev U (ns:List Int):D:=.tup (ns.map D.int)
theorem zQq (ns ms:List Int):PyData.eqv (L ns).py (L ms).py=decide (ns=ms):=by
 show PyData.eqvAll (vn (ns.map D.int)) (vn (ms.map D.int))=_
 rw [U1,U1]
 exact zH0 ns ms
theorem Zd (ds:List D):PyData.eqv (D.lst ds).py (D.lst []).py=ds.isEmpty:=by cases ds <;> rfl
section
variable {X:Cx} {a b e c:Expr} {es:List Expr} {pos:Pos} {pa pb pc:yE} {qa qb:wo} {pl:yz}
def Xv:F2
 | .int i,.int j,R=>R (.bool (decide (i=j)))
 | .bool i,.bool j,R=>R (.bool (i == j))
 | .lst as,.lst bs,R=>(D.lst as).pl 50=true/\(D.lst bs).pl 50=true/\R (.bool (PyData.eqv (D.lst as).py (D.lst bs).py))
 | .tup as,.tup bs,R=>(D.tup as).pl 50=true/\(D.tup bs).pl 50=true/\R (.bool (PyData.eqv (D.tup as).py (D.tup bs).py))
 | _,_,_=>False
theorem zN8 {K:PySem.W.Frag}:x8 (λx y H Q=>KP x y H Q\/ZF K x y H Q) Xv:=λZ H x y a b R Q zd hx hy h q=>by
 unfold Xv at h
 split at h
 ·cases hx; cases hy
  refine .inl ⟨rfl,?_⟩
  rw [XY,Bool.beq_eq_decide_eq]
  exact q _ _ H h (zD.refl _) (.bool _)
 ·cases hx; cases hy
  refine .inl ⟨rfl,?_⟩
  rw [XZ]
  exact q _ _ H h (zD.refl _) (.bool _)
 ·have d1:=uv _ _ h.1
  have d2:=uv _ _ h.2.1
  have e1:=d1.dep
  have e2:=d2.dep
  exact .inr ⟨_,_,d1.dp K H _ (hx.same zm),d2.dp K H _ (hy.same zm),d1.lay,d2.lay,by omega,by omega,q _ _ H h.2.2 (zD.refl _) (.bool _)⟩
 ·have d1:=uv _ _ h.1
  have d2:=uv _ _ h.2.1
  have e1:=d1.dep
  have e2:=d2.dep
  exact .inr ⟨_,_,d1.dp K H _ (hx.same zm),d2.dp K H _ (hy.same zm),d1.lay,d2.lay,by omega,by omega,q _ _ H h.2.2 (zD.refl _) (.bool _)⟩
 ·exact h.elim
def jL:F2
 | .int i,.int j,R=>R (.bool (!decide (i=j)))
 | .bool i,.bool j,R=>R (.bool (i != j))
 | .lst as,.lst bs,R=>(D.lst as).pl 50=true/\(D.lst bs).pl 50=true/\R (.bool (!PyData.eqv (D.lst as).py (D.lst bs).py))
 | .tup as,.tup bs,R=>(D.tup as).pl 50=true/\(D.tup bs).pl 50=true/\R (.bool (!PyData.eqv (D.tup as).py (D.tup bs).py))
 | _,_,_=>False
theorem zQJ {K:PySem.W.Frag}:x8 (λx y H Q=>KQ x y H Q\/∃ d e:PyData,Dp K H x d/\Dp K H y e/\d.canLay0=true/\e.canLay0=true/\d.depth<=60/\e.depth<=60/\Q (.bl (!PyData.eqv d e)) H) jL:=λZ H x y a b R Q zd hx hy h q=>by
 unfold jL at h
 split at h
 ·cases hx; cases hy
  refine .inl ⟨rfl,?_⟩
  rw [XY,Bool.beq_eq_decide_eq]
  exact q _ _ H h (zD.refl _) (.bool _)
 ·cases hx; cases hy
  refine .inl ⟨rfl,?_⟩
  rw [XZ]
  exact q _ _ H h (zD.refl _) (.bool _)
 ·have d1:=uv _ _ h.1
  have d2:=uv _ _ h.2.1
  have e1:=d1.dep
  have e2:=d2.dep
  exact .inr ⟨_,_,d1.dp K H _ (hx.same zm),d2.dp K H _ (hy.same zm),d1.lay,d2.lay,by omega,by omega,q _ _ H h.2.2 (zD.refl _) (.bool _)⟩
 ·have d1:=uv _ _ h.1
  have d2:=uv _ _ h.2.1
  have e1:=d1.dep
  have e2:=d2.dep
  exact .inr ⟨_,_,d1.dp K H _ (hx.same zm),d2.dp K H _ (hy.same zm),d1.lay,d2.lay,by omega,by omega,q _ _ H h.2.2 (zD.refl _) (.bool _)⟩
 ·exact h.elim
theorem uM (hu:X.A.units + 64 < cLine) (ha:PE X a (tP pa)) (hb:PE X b (tP pb)):PE X (.Compare a [.Eq] [b] pos) (tP (xq Xv pa pb)):=ZY (UL.or (zN6 hu)) zN8 (uI _) ha hb
def bD:D->(Bool->Prop)->Prop
 | .bool b,R=>R b
 | _,_=>False
def wH (pa:yE):wo:=λΓ R=>pa Γ λd=>bD d R
theorem U2 {t:TE} (w:∀ σ H Q,tP pa σ H Q->t σ H Q) (σ:St) (H:Hp) (Q:Bool->Hp->Prop):xT (wH pa) σ H Q->UN t σ H Q:=λ⟨Z,Γ,R,E,h,q⟩=>
 w _ _ _ ⟨Z,Γ,_,E,h,λd v H1 hd s1 hv=>by
  unfold bD at hd
  split at hd
  ·cases hv; exact ⟨_,rfl,q _ H1 hd s1⟩
  ·exact hd.elim⟩
theorem yU (ha:PE X e (tP pa)) (he:∀ whole,isTrue e X.env whole=(do let v <- whole; standAt e.pos; holding [v] (truthy v)):=by intro _; rfl):PT X e (xT (wH pa)):=Xs (W7 ha he) (U2 λ_ _ _ h=>h)
theorem gW {op:CmpOp} {r:R2} {f:F2} (ho:ye X (compareOp op) r) (o:x8 r f) (hm:behindInMarks op b=false) (ha:PE X a (tP pa)) (hb:PE X b (tP pb)):PT X (.Compare a [op] [b] pos) (xT (wH (xq f pa pb))):=Xs (KW ho ha hb hm) (U2 (Xu o))
theorem wp (hu:X.A.units + 64 < cLine) (ha:PE X a (tP pa)) (hb:PE X b (tP pb)):PT X (.Compare a [.Eq] [b] pos) (xT (wH (xq Xv pa pb))):=gW (UL.or (zN6 hu)) zN8 (uI _) ha hb
theorem gX (hu:X.A.units + 64 < cLine) (ha:PE X a (tP pa)) (hb:PE X b (tP pb)):PT X (.Compare a [.NotEq] [b] pos) (xT (wH (xq jL pa pb))):=gW (ka.or (zQD hu)) zQJ (uI _) ha hb
theorem U3 (ha:PE X a (tP pa)) (hb:PE X b (tP pb)):PT X (.Compare a [.Lt] [b] pos) (xT (wH (xq (w8 λi j=>decide (i < j)) pa pb))):=gW UM jw (uI _) ha hb
theorem Ze (ha:PE X a (tP pa)) (hb:PE X b (tP pb)):PT X (.Compare a [.Gt] [b] pos) (xT (wH (xq (w8 λi j=>decide (j < i)) pa pb))):=gW kd jw (uI _) ha hb
theorem gY (ha:PE X a (tP pa)) (hb:PE X b (tP pb)):PT X (.Compare a [.GtE] [b] pos) (xT (wH (xq (w8 λi j=>decide (j<=i)) pa pb))):=gW KU jw (uI _) ha hb
def wc (b:Bool) (A B:Prop):Prop:=(b=true->A)/\(b=false->B)
theorem wT {b:Bool} {A B:Prop} (e:b=true) (h:A):wc b A B:=⟨λ_=>h,λz=>nomatch e.symm.trans z⟩
theorem wF {b:Bool} {A B:Prop} (e:b=false) (h:B):wc b A B:=⟨λz=>(nomatch e.symm.trans z),λ_=>h⟩
theorem w2 {b:Bool} {A B:Prop} (h1:b=true->A) (h2:b=false->B):wc b A B:=⟨h1,h2⟩
def U4 (p q:wo):wo:=λΓ R=>p Γ λc=>wc c (q Γ R) (R false)
def pOr (p q:wo):wo:=λΓ R=>p Γ λc=>wc c (R true) (q Γ R)
def U5 (p:wo):wo:=λΓ R=>p Γ λc=>R (!c)
theorem zI6 (ha:PT X a (xT qa)):PW X (.BoolOp .And [a] pos) (xT qa):=zOd ha
theorem wI (ha:PT X a (xT qa)):PW X (.BoolOp .Or [a] pos) (xT qa):=zPq ha
theorem zKl {yh:List Expr} (ha:PT X a (xT qa)) (hb:PW X (.BoolOp .And (b :: yh) pos) (xT qb)):PW X (.BoolOp .And (a :: b :: yh) pos) (xT (U4 qa qb)):=pww (zPr ha hb) λσ H Q ⟨Z,Γ,R,E,h,q⟩=>
 ⟨Z,Γ,_,E,h,λc H1 hc s1=>by
  cases c with
  | true=>exact ⟨Z,Γ,R,E.same s1,hc.1 rfl,λb H2 hb s2=>q b H2 hb (s1.trans s2)⟩
  | false=>exact q _ H1 (hc.2 rfl) s1⟩
theorem xg {yh:List Expr} (ha:PT X a (xT qa)) (hb:PW X (.BoolOp .Or (b :: yh) pos) (xT qb)):PW X (.BoolOp .Or (a :: b :: yh) pos) (xT (pOr qa qb)):=pww (kK ha hb) λσ H Q ⟨Z,Γ,R,E,h,q⟩=>
 ⟨Z,Γ,_,E,h,λc H1 hc s1=>by
  cases c with
  | true=>exact q _ H1 (hc.1 rfl) s1
  | false=>exact ⟨Z,Γ,R,E.same s1,hc.2 rfl,λb H2 hb s2=>q b H2 hb (s1.trans s2)⟩⟩
theorem yg (ha:PT X a (xT qa)):PT X (.UnaryOp .Not a pos) (xT (U5 qa)):=Xs (zPt ha) λσ H Q ⟨Z,Γ,R,E,h,q⟩=>⟨Z,Γ,_,E,h,λc H1 hc s1=>q _ H1 hc s1⟩
def Zf (p q:yE):yE:=λΓ R=>p Γ λd=>bD d λc=>wc c (q Γ R) (R (.bool false))
def Zg (p:yE):yE:=λΓ R=>p Γ λd=>bD d λc=>R (.bool !c)
theorem vA {op} (ha:PE X a (tP pa)):PE X (.BoolOp op [a] pos) (tP pa):=zP2 ha
theorem x9 {yh:List Expr} (ha:PE X a (tP pa)) (hb:PE X (.BoolOp .And (b :: yh) pos) (tP pb)):PE X (.BoolOp .And (a :: b :: yh) pos) (tP (Zf pa pb)):=yO (zP5 ha hb) λσ H Q ⟨Z,Γ,R,E,h,q⟩=>
 ⟨Z,Γ,_,E,h,λd v H1 hd s1 hv=>by
  unfold bD at hd
  split at hd
  ·cases hv
   rename_i c
   refine ⟨c,rfl,?_⟩
   cases c with
   | true=>exact ⟨Z,Γ,R,E.same s1,hd.1 rfl,λb v H2 hb s2 k=>q b v H2 hb (s1.trans s2) k⟩
   | false=>exact q _ _ H1 (hd.2 rfl) s1 (.bool _)
  ·exact hd.elim⟩
theorem zNw (ha:PE X a (tP pa)):PE X (.UnaryOp .Not a pos) (tP (Zg pa)):=yO (zP3 ha) λσ H Q ⟨Z,Γ,R,E,h,q⟩=>
 ⟨Z,Γ,_,E,h,λd v H1 hd s1 hv=>by
  unfold bD at hd
  split at hd
  ·cases hv; exact ⟨_,rfl,q _ _ H1 hd s1 (.bool _)⟩
  ·exact hd.elim⟩
def U6 (t:wo) (p q:yE):yE:=λΓ R=>t Γ λc=>wc c (p Γ R) (q Γ R)
theorem zMv (hc:PT X c (xT qa)) (ha:PE X a (tP pa)) (hb:PE X b (tP pb)):PE X (.IfExp c a b pos) (tP (U6 qa pa pb)):=yO (zM5 hc ha hb) λσ H Q ⟨Z,Γ,R,E,h,q⟩=>
 ⟨Z,Γ,_,E,h,λc H1 hd s1=>by
  cases c with
  | true=>exact ⟨Z,Γ,R,E.same s1,hd.1 rfl,λb v H2 hb s2 k=>q b v H2 hb (s1.trans s2) k⟩
  | false=>exact ⟨Z,Γ,R,E.same s1,hd.2 rfl,λb v H2 hb s2 k=>q b v H2 hb (s1.trans s2) k⟩⟩
def U7:yz:=λ_ R=>R []
def Zh (pa:yE) (pl:yz):yz:=λΓ R=>pa Γ λd=>pl Γ λds=>R (d :: ds)
theorem zC:PA X [] (xo U7):=paw zy λσ H Q ⟨_,_,_,_,h,q⟩=>q _ _ H h (zD.refl _) .nil
theorem zB (ha:PE X e (tP pa)) (hr:PA X es (xo pl)) (hs:starEach (e :: es) X.env=(false,eval e X.env) :: starEach es X.env:=by rfl):PA X (e :: es) (xo (Zh pa pl)):=paw (zS ha hr hs) λσ H Q ⟨Z,Γ,R,E,h,q⟩=>
 ⟨Z,Γ,_,E,h,λd v H1 hd s1 hv=>⟨Z,Γ,_,E.same s1,hd,λds vs H2 hds s2 hvs=>q _ _ H2 hds (s1.trans s2) (.cons (hv.same (zz s2)) hvs)⟩⟩
def U8 (pl:yz):yE:=λΓ R=>pl Γ λds=>ds.length<=1000/\R (.tup ds)
def U9 (pl:yz):yE:=λΓ R=>pl Γ λds=>ds.length<=1000/\R (.lst ds)
theorem wq {x1} (ha:PA X es (xo pl)):PE X (.Tuple es x1 pos) (tP (U8 pl)):=yO (Ke ha) λσ H Q ⟨Z,Γ,R,E,h,q⟩=>
 ⟨Z,Γ,_,E,h,λds vs H1 hd s1 hv=>⟨few (by rw [Paired.length hv]; exact hd.1),λp hp=>q _ _ _ hd.2 (s1.trans (yy hp _)) (ZZ (E.same s1).zd hp hv)⟩⟩
theorem yd (ha:PA X es (xo pl)):PE X (.List es pos) (tP (U9 pl)):=yO (gJ ha) λσ H Q ⟨Z,Γ,R,E,h,q⟩=>
 ⟨Z,Γ,_,E,h,λds vs H1 hd s1 hv=>⟨few (by rw [Paired.length hv]; exact hd.1),λp hp=>q _ _ _ hd.2 (s1.trans (yy hp _)) (jJ (E.same s1).zd hp hv)⟩⟩
theorem Xw {α β:Type} {R:α->β->Prop} {xs:List α} {ys:List β} (h:Paired R xs ys) {i:Int} {y:β} (e:ya ys i=some y):∃ x,ya xs i=some x/\R x y:=by
 unfold ya at e |-
 rw [Paired.length h]
 cases k:vJ ys.length i with
 | none=>rw [k] at e; cases e
 | some j=>
  rw [k] at e
  exact go h e
where
 go:∀ {xs:List α} {ys:List β} {j:Nat} {y:β},Paired R xs ys->ys[j]? = some y->∃ x,xs[j]? = some x/\R x y
  | _,_,_,_,.nil,e=>by simp at e
  | _,_,0,_,.cons r _,e=>by simp at e; subst e; exact ⟨_,rfl,r⟩
  | _,_,j + 1,y,.cons _ t,e=>by
   obtain ⟨x,h1,h2⟩:=go (j:=j) (y:=y) t (by simpa using e)
   exact ⟨x,by simpa using h1,h2⟩
def JA:F2
 | .lst ds,.int i,R=>∃ d,ya ds i=some d/\R d
 | .tup ds,.int i,R=>∃ d,ya ds i=some d/\R d
 | .scr ns,.int i,R=>∃ n,ya ns i=some n/\R (.int n)
 | _,_,_=>False
theorem uw {α β:Type} (f:α->β) (xs:List α) (i:Int):ya (xs.map f) i=(ya xs i).map f:=by
 unfold ya
 rw [List.length_map]
 cases vJ xs.length i with
 | none=>rfl
 | some j=>exact List.getElem?_map ..
theorem zQK {K:PySem.W.Frag}:x8 (ZM K) JA:=λZ H x y a b R Q zd hx hy h q=>by
 unfold JA at h
 split at h
 ·obtain ⟨p,xs,rfl,e1,h1⟩:=hx.lst_inv
  cases hy
  obtain ⟨d,hd,hR⟩:=h
  obtain ⟨v,hv,hh⟩:=Xw h1 hd
  exact ⟨p,xs,_,v,rfl,rfl,.inr (zT.of (zm _ _ e1)),hv,q _ _ H hR (zD.refl _) hh⟩
 ·obtain ⟨p,xs,rfl,e1,h1⟩:=hx.tup_inv
  cases hy
  obtain ⟨d,hd,hR⟩:=h
  obtain ⟨v,hv,hh⟩:=Xw h1 hd
  exact ⟨p,xs,_,v,rfl,rfl,.inl (yN.of (zm _ _ e1)),hv,q _ _ H hR (zD.refl _) hh⟩
 ·cases hy
  cases hx with
  | scr e=>
  obtain ⟨n,hn,hR⟩:=h
  exact ⟨_,_,_,.int n,rfl,rfl,.inr (.inl (Xr zm e)),by rw [uw,hn]; rfl,q _ _ H hR (zD.refl _) (.int n)⟩
 ·exact h.elim
theorem zN (ha:PE X a (tP pa)) (hb:PE X b (tP pb)) (hs:UW b):PE X (.Subscript a b pos) (tP (xq JA pa pb)):=yO (uU zO4 ha hb hs) (Xu zQK)
theorem Zi {X:Cx} {e:Option Expr} {t t':TO} (h:PO X e t) (w:∀ σ H Q,t' σ H Q->t σ H Q):PO X e t':=λpins s σ H Q I q=>h pins s σ H Q I (w σ H Q q)
def zOl:ZV:=λ_ R=>R none
def iD:D->(Option Int->Prop)->Prop
 | .int i,R=>R (some i)
 | _,_=>False
def Zj (pa:yE):ZV:=λΓ R=>pa Γ λd=>iD d R
theorem y8:PO X none (ZW zOl):=Zi zOh λσ H Q ⟨_,_,_,_,h,q⟩=>q _ H h (zD.refl _)
theorem y9 (h:PE X e (tP pa)):PO X (some e) (ZW (Zj pa)):=Zi (zOg h) λσ H Q ⟨Z,Γ,R,E,h,q⟩=>
 ⟨Z,Γ,_,E,h,λd v H1 hd s1 hv=>by
  unfold iD at hd
  split at hd
  ·cases hv; exact ⟨_,rfl,q _ H1 hd s1⟩
  ·exact hd.elim⟩
def zP {α:Type} (xs:List α) (lo hi:Option Int):List α:=(xs.drop (HT.sIx xs.length 0 lo)).take (HT.sIx xs.length xs.length hi - HT.sIx xs.length 0 lo)
theorem zLA {α β:Type} {R:α->β->Prop}:∀ {xs:List α} {ys:List β} (n:Nat),Paired R xs ys->Paired R (xs.take n) (ys.take n)
 | _,_,0,_=>.nil
 | _,_,_ + 1,.nil=>.nil
 | _,_,n + 1,.cons h t=>.cons h (zLA n t)
theorem zLB {α β:Type} {R:α->β->Prop}:∀ {xs:List α} {ys:List β} (n:Nat),Paired R xs ys->Paired R (xs.drop n) (ys.drop n)
 | _,_,0,h=>h
 | _,_,_ + 1,.nil=>.nil
 | _,_,n + 1,.cons _ t=>zLB n t
theorem zGU {α β:Type} {R:α->β->Prop} {xs:List α} {ys:List β} (h:Paired R xs ys) (lo hi:Option Int):Paired R (zP xs lo hi) (zP ys lo hi):=by
 unfold zP
 rw [Paired.length h]
 exact zLA _ (zLB _ h)
def slD:D->Option Int->Option Int->(D->Prop)->Prop
 | .lst ds,lo,hi,R=>R (.lst (zP ds lo hi))
 | .tup ds,lo,hi,R=>R (.tup (zP ds lo hi))
 | _,_,_,_=>False
def pSl (pa:yE) (po qo:ZV):yE:=λΓ R=>pa Γ λd=>po Γ λl=>qo Γ λu=>slD d l u R
theorem zPg {X:Cx} {r r':V->Option Int->Option Int->Hp->VK->Prop} (h:qI X r) (h':qI X r'):qI X (λx l u H Q=>r x l u H Q\/r' x l u H Q):=λpins s σ H x v vl vu lo hi sl Q I r1 r2 r3 r4 q=>
 q.elim (h pins s σ H x v vl vu lo hi sl Q I r1 r2 r3 r4) (h' pins s σ H x v vl vu lo hi sl Q I r1 r2 r3 r4)
theorem xA {lo hi:Option Expr} {po qo:ZV} {p2:Pos} (ha:PE X a (tP pa)) (hl:PO X lo (ZW po)) (hu:PO X hi (ZW qo)):PE X (.Subscript a (.Slice lo hi none p2) pos) (tP (pSl pa po qo)):=yO (zM3 (zPg zOY zNQ) ha hl hu) λσ H Q ⟨Z,Γ,R,E,h,q⟩=>
 ⟨Z,Γ,_,E,h,λd v H1 hd s1 hv=>⟨Z,Γ,_,E.same s1,hd,λl H2 hl s2=>⟨Z,Γ,_,E.same (s1.trans s2),hl,λu H3 hu s3=>by
  have s:=s1.trans (s2.trans s3)
  have hv:=hv.same (zz (s2.trans s3))
  have zd:=(E.same s).zd
  unfold slD at hu
  split at hu
  ·obtain ⟨p,xs,rfl,e1,h1⟩:=hv.lst_inv
   exact .inl ⟨p,xs,rfl,zT.of (zm _ _ e1),λn hn=>q _ _ _ hu (s.trans (yy hn _)) (jJ zd hn (zGU h1 _ _))⟩
  ·obtain ⟨p,xs,rfl,e1,h1⟩:=hv.tup_inv
   exact .inr ⟨p,xs,rfl,zm _ _ e1,λn H' s' e=>q _ _ _ hu (s.trans s') (zLF (zd.same s') e (yD (zz s') (zGU h1 _ _)))⟩
  ·exact hu.elim⟩⟩⟩
abbrev FL:=List D->(D->Prop)->Prop
def uN (r:List V->Hp->VK->Prop) (f:FL):Prop:=∀ (Z:Addr->Prop) (H:Hp) (vs:List V) (ds:List D) (R:D->Prop) (Q:VK),ZL Z H->yG (zL Z H) vs ds->f ds R->(∀ d v H',R d->zD H H'->DV (zL Z H') v d->Q v H')->r vs H Q
def jM (f:FL) (pl:yz):yE:=λΓ R=>pl Γ λds=>f ds R
theorem zKT {r:List V->Hp->VK->Prop} {f:FL} (o:uN r f) (σ:St) (H:Hp) (Q:VK):tP (jM f pl) σ H Q->km r (xo pl) σ H Q:=λ⟨Z,Γ,R,E,h,q⟩=>
 ⟨Z,Γ,_,E,h,λds vs H1 hd s1 hv=>o Z H1 vs ds R Q (E.same s1).zd hv hd λd v H2 h2 s2 hv2=>q d v H2 h2 (s1.trans s2) hv2⟩
theorem zj {x:Str} {id:String} {p:Pos} {r:List V->Hp->VK->Prop} {f:FL} (hc:wv X (.builtin id) r) (o:uN r f) (hg:Gl X x) (hm:X.mg x=none) (hv:bootBuiltins x=some (.builtin id)) (ha:PA X (e :: es) (xo pl)) (hn:x≠"__name__":=by decide) (hdb:(x == ("__debug__" : Str))=false:=by decide)
  (he:starEach (e :: es) X.env=(false,eval e X.env) :: starEach es X.env:=by rfl) (hpl:(backTo pos (starEach es X.env)).any (·.1)=false:=by rfl):PE X (.Call (.Name x p) (e :: es) [] pos) (tP (jM f pl)):=yO (xQ hc hg hm hv ha hn hdb he hpl) (zKT o)
theorem xP {x:Str} {T:String} {p:Pos} {r:List V->Hp->VK->Prop} {f:FL} (hc:wv X (.type T) r) (o:uN r f) (hg:Gl X x) (hm:X.mg x=none) (hv:bootBuiltins x=some (.type T)) (ha:PA X (e :: es) (xo pl)) (hn:x≠"__name__":=by decide) (hdb:(x == ("__debug__" : Str))=false:=by decide)
  (he:starEach (e :: es) X.env=(false,eval e X.env) :: starEach es X.env:=by rfl) (hpl:(backTo pos (starEach es X.env)).any (·.1)=false:=by rfl):PE X (.Call (.Name x p) (e :: es) [] pos) (tP (jM f pl)):=yO (Kp hc hg hm hv ha hn hdb he hpl) (zKT o)
def Zk:FL
 | [.lst ds],R=>R (.int ds.length)
 | [.tup ds],R=>R (.int ds.length)
 | [.scr ns],R=>R (.int ns.length)
 | _,_=>False
theorem y6 {H:Hp} {vs:List V} {d:D} (h:yG H vs [d]):∃ v,vs=[v]/\DV H v d:=by
 cases h with
 | cons h t=>cases t; exact ⟨_,rfl,h⟩
theorem jN {H:Hp} {vs:List V} {d e:D} (h:yG H vs [d,e]):∃ v w,vs=[v,w]/\DV H v d/\DV H w e:=by
 cases h with
 | cons h t=>obtain ⟨w,rfl,k⟩:=y6 t; exact ⟨_,_,rfl,h,k⟩
theorem yS {K:PySem.W.Frag}:uN (λxs H Q=>∃ p ys,xs=[.ref p]/\(zT K H p ys\/yN K H p ys)/\Q (.int ys.length) H) Zk:=λZ H vs ds R Q zd hv h q=>by
 unfold Zk at h
 split at h
 ·obtain ⟨v,rfl,hw⟩:=y6 hv
  obtain ⟨p,xs,rfl,e1,h1⟩:=hw.lst_inv
  exact ⟨p,xs,rfl,.inl (zT.of (zm _ _ e1)),by rw [Paired.length h1]; exact q _ _ H h (zD.refl _) (.int _)⟩
 ·obtain ⟨v,rfl,hw⟩:=y6 hv
  obtain ⟨p,xs,rfl,e1,h1⟩:=hw.tup_inv
  exact ⟨p,xs,rfl,.inr (yN.of (zm _ _ e1)),by rw [Paired.length h1]; exact q _ _ H h (zD.refl _) (.int _)⟩
 ·obtain ⟨v,rfl,hw⟩:=y6 hv
  cases hw with
  | scr e=>exact ⟨_,_,rfl,.inl (.inl (Xr zm e)),by rw [List.length_map]; exact q _ _ H h (zD.refl _) (.int _)⟩
 ·exact h.elim
def zQQ:FL
 | [.lst ds],R=>R (.lst ds)
 | [.tup ds],R=>R (.lst ds)
 | _,_=>False
theorem wr {K:PySem.W.Frag}:uN (λxs H Q=>∃ p ys,xs=[.ref p]/\(zT K H p ys\/yN K H p ys)/\∀ l,H l=none->Q (.ref l) (zY H l (.lst ys))) zQQ:=λZ H vs ds R Q zd hv h q=>by
 unfold zQQ at h
 split at h
 ·obtain ⟨v,rfl,hw⟩:=y6 hv
  obtain ⟨p,xs,rfl,e1,h1⟩:=hw.lst_inv
  exact ⟨p,xs,rfl,.inl (zT.of (zm _ _ e1)),λl hl=>q _ _ _ h (yy hl _) (jJ zd hl h1)⟩
 ·obtain ⟨v,rfl,hw⟩:=y6 hv
  obtain ⟨p,xs,rfl,e1,h1⟩:=hw.tup_inv
  exact ⟨p,xs,rfl,.inr (yN.of (zm _ _ e1)),λl hl=>q _ _ _ h (yy hl _) (jJ zd hl h1)⟩
 ·exact h.elim
def Zl:FL
 | [.lst ds],R=>R (.tup ds)
 | [.tup ds],R=>R (.tup ds)
 | _,_=>False
theorem jx {K:PySem.W.Frag}:uN (λxs H Q=>∃ p ys,xs=[.ref p]/\((zT K H p ys/\∀ l,H l=none->Q (.ref l) (zY H l (.tup ys)))\/(yN K H p ys/\Q (.ref p) H))) Zl:=λZ H vs ds R Q zd hv h q=>by
 unfold Zl at h
 split at h
 ·obtain ⟨v,rfl,hw⟩:=y6 hv
  obtain ⟨p,xs,rfl,e1,h1⟩:=hw.lst_inv
  exact ⟨p,xs,rfl,.inl ⟨zT.of (zm _ _ e1),λl hl=>q _ _ _ h (yy hl _) (ZZ zd hl h1)⟩⟩
 ·obtain ⟨v,rfl,hw⟩:=y6 hv
  obtain ⟨p,xs,rfl,e1,h1⟩:=hw.tup_inv
  exact ⟨p,xs,rfl,.inr ⟨yN.of (zm _ _ e1),q _ _ _ h (zD.refl _) hw⟩⟩
 ·exact h.elim
def Zm:FL
 | [.lst ds],R=>∃ ns:List Int,ds=ns.map D.int/\R (.int ns.sum)
 | _,_=>False
theorem jy {K:PySem.W.Frag}:uN (λxs H Q=>∃ (p:Addr) (ns:List Int),xs=[.ref p]/\zT K H p (ns.map V.int)/\Q (.int ns.sum) H) Zm:=λZ H vs ds R Q zd hv h q=>by
 unfold Zm at h
 split at h
 ·obtain ⟨v,rfl,hw⟩:=y6 hv
  obtain ⟨p,xs,rfl,e1,h1⟩:=hw.lst_inv
  obtain ⟨ns,rfl,h⟩:=h
  cases Uu h1
  exact ⟨p,ns,rfl,zT.of (zm _ _ e1),q _ _ H h (zD.refl _) (.int _)⟩
 ·exact h.elim
def Zn:FL
 | [.lst ds],R=>∃ bs:List Bool,ds=bs.map D.bool/\R (.bool (bs.all id))
 | _,_=>False
theorem vB {K:PySem.W.Frag}:uN (λxs H Q=>∃ (p:Addr) (bs:List Bool),xs=[V.ref p]/\zT K H p (bs.map V.bl)/\Q (V.bl (bs.all id)) H) Zn:=λZ H vs ds R Q zd hv h q=>by
 unfold Zn at h
 split at h
 ·obtain ⟨v,rfl,hw⟩:=y6 hv
  obtain ⟨p,xs,rfl,e1,h1⟩:=hw.lst_inv
  obtain ⟨ns,rfl,h⟩:=h
  cases zH2 h1
  exact ⟨p,ns,rfl,zT.of (zm _ _ e1),q _ _ H h (zD.refl _) (.bool _)⟩
 ·exact h.elim
def Zo:FL
 | [.int i,.int j],R=>R (.int (max i j))
 | _,_=>False
theorem Xx:uN (λxs H Q=>∃ i j,xs=[.int i,.int j]/\Q (.int (if j > i then j else i)) H) Zo:=λZ H vs ds R Q zd hv h q=>by
 unfold Zo at h
 split at h
 ·rename_i i j
  obtain ⟨v,w,rfl,hx,hy⟩:=jN hv
  cases hx; cases hy
  refine ⟨_,_,rfl,?_⟩
  have e:(if j > i then j else i)=max i j:=by rw [Int.max_def]; split <;> split <;> omega
  rw [e]
  exact q _ _ H h (zD.refl _) (.int _)
 ·exact h.elim
def Zq:FL
 | [.int i,.int j],R=>R (.int (min i j))
 | _,_=>False
theorem zMD:uN (λxs H Q=>∃ i j,xs=[.int i,.int j]/\Q (.int (if j < i then j else i)) H) Zq:=λZ H vs ds R Q zd hv h q=>by
 unfold Zq at h
 split at h
 ·rename_i i j
  obtain ⟨v,w,rfl,hx,hy⟩:=jN hv
  cases hx; cases hy
  refine ⟨_,_,rfl,?_⟩
  have e:(if j < i then j else i)=min i j:=by rw [Int.min_def]; split <;> split <;> omega
  rw [e]
  exact q _ _ H h (zD.refl _) (.int _)
 ·exact h.elim
def Zr:FL
 | [.int i],R=>R (.int i)
 | [.bool b],R=>R (.int (if b=true then 1 else 0))
 | _,_=>False
theorem JB:uN (λxs H Q=>(∃ i,xs=[.int i]/\Q (.int i) H)\/∃ k,xs=[.bl k]/\Q (.int (if k then 1 else 0)) H) Zr:=λZ H vs ds R Q zd hv h q=>by
 unfold Zr at h
 split at h
 ·obtain ⟨v,rfl,hw⟩:=y6 hv
  cases hw
  exact .inl ⟨_,rfl,q _ _ H h (zD.refl _) (.int _)⟩
 ·obtain ⟨v,rfl,hw⟩:=y6 hv
  cases hw
  exact .inr ⟨_,rfl,q _ _ H h (zD.refl _) (.int _)⟩
 ·exact h.elim
end
end Pu
namespace Pu
open PySem L2 Sh
def setN:St->List Nat->List V->St
 | σ,j :: js,v :: vs=>setN (σ.set j (some v)) js vs
 | σ,_,_=>σ
def Xy:List Sl->List Nat->List D->List Sl
 | Γ,j :: js,d :: ds=>Xy (yJ Γ j (.sh d)) js ds
 | Γ,_,_=>Γ
def ux:Option (List D)->(List D->Prop)->Prop
 | some os,k=>k os
 | none,_=>False
theorem Zu {o:Option (List D)} {k:List D->Prop} (h:ux o k):∃ os,o=some os/\k os:=by
 cases o with
 | none=>exact h.elim
 | some os=>exact ⟨os,rfl,h⟩
inductive tG (js:List Nat) (po:D->Option (List D)) (v:V) (σ:St) (H:Hp) (Q:St->Hp->Prop):Prop
 | mk (Z:Addr->Prop) (d:D) (os:List D) (hv:DV (zL Z H) v d) (ho:po d=some os) (q:∀ vs,yG (zL Z H) vs os->Q (setN σ js vs) H):tG js po v σ H Q
inductive tGs (js:List Nat) (po:List D->Option (List D)) (us:List V) (σ:St) (H:Hp) (Q:St->Hp->Prop):Prop
 | mk (Z:Addr->Prop) (ds os:List D) (hv:yG (zL Z H) us ds) (ho:po ds=some os) (q:∀ vs,yG (zL Z H) vs os->Q (setN σ js vs) H):tGs js po us σ H Q
structure Xz (X:Cx) (es:List Expr) (js:List Nat) (po:List D->Option (List D)) (n:Nat):Prop where
 g:gD X es (tGs js po)
 l:∀ ds os,po ds=some os->ds.length=n
 k:∀ ds os,po ds=some os->os.length=js.length
section
variable {X:Cx} {pos:Pos}
def po1:D->Option (List D):=λd=>some [d]
theorem zo (i:Nat) {x:Str} (hN:X.N.Nodup) (hi:X.N[i]? = some x) (hx:um X.env.scope x) (hf:X.fn x=true\/X.env.scope.names.lookup x=some .local:=by first | exact .inl rfl | exact .inr rfl | assumption):PG X (.Name x pos) (tG [i] po1):=
 λpins s σ H v u Q I r ⟨_,_,_,hv,ho,q⟩=>vh hN hi hx hf pins s σ H v u Q I r (by
  cases ho
  exact q [v] (.cons hv .nil))
def zPu:List D->Option (List D)
 | []=>some []
 | _=>none
def zNy (po:List D->Option (List D)):List D->Option (List D)
 | d :: ds=>(po ds).map (d :: ·)
 | []=>none
def X0 (po:List D->Option (List D)):D->Option (List D)
 | .tup ds=>po ds
 | .lst ds=>po ds
 | _=>none
theorem wd:Xz X [] [] zPu 0 where
 g:=λpins s σ H vs us Q I r ⟨_,ds,os,hv,ho,q⟩=>by
  cases ds with
  | nil=>cases hv; exact UD pins s σ H [] us Q I r ⟨rfl,q [] (by cases ho; exact .nil)⟩
  | cons=>cases ho
 l:=λds os h=>by cases ds with | nil=>rfl | cons=>cases h
 k:=λds os h=>by cases ds with | nil=>cases h; rfl | cons=>cases h
theorem yA (i:Nat) {x:Str} {es:List Expr} {js:List Nat} {po:List D->Option (List D)} {n:Nat} (hN:X.N.Nodup) (hi:X.N[i]? = some x) (hx:um X.env.scope x) (h:Xz X es js po n)
  (hs:(assignEach (.Name x pos :: es) X.env).map (·.2)=assign (.Name x pos) X.env :: (assignEach es X.env).map (·.2):=by rfl) (hf:X.fn x=true\/X.env.scope.names.lookup x=some .local:=by first | exact .inl rfl | exact .inr rfl | assumption):Xz X (.Name x pos :: es) (i :: js) (zNy po) (n + 1) where
 g:=λpins s σ H vs us Q I r ⟨Z,ds,os,hv,ho,q⟩=>by
  cases hv with
  | nil=>cases ho
  | @cons v d vt dt hv ht=>
   change (po dt).map (d :: ·)=some os at ho
   cases e:po dt with
   | none=>rw [e] at ho; cases ho
   | some os'=>
    rw [e] at ho
    cases ho
    exact uo (vh hN hi hx hf) h.g hs pins s σ H _ us Q I r ⟨v,vt,rfl,Z,dt,os',ht,e,λvs hvs=>q (v :: vs) (.cons hv hvs)⟩
 l:=λds os q=>by
  cases ds with
  | nil=>cases q
  | cons d dt=>
   change (po dt).map (d :: ·)=some os at q
   cases e:po dt with
   | none=>rw [e] at q; cases q
   | some os'=>rw [List.length_cons,h.l dt os' e]
 k:=λds os q=>by
  cases ds with
  | nil=>cases q
  | cons d dt=>
   change (po dt).map (d :: ·)=some os at q
   cases e:po dt with
   | none=>rw [e] at q; cases q
   | some os'=>rw [e] at q; cases q; rw [List.length_cons,List.length_cons,h.k dt os' e]
theorem xC {H:Hp} {vs:List V} {ds:List D} (h:yG H vs ds):vs.length=ds.length:=Paired.length h
theorem qZ {po:List D->Option (List D)} {js:List Nat} (h:∀ ds os,po ds=some os->os.length=js.length):∀ d os,X0 po d=some os->os.length=js.length:=λd os q=>by
 unfold X0 at q
 split at q
 ·exact h _ _ q
 ·exact h _ _ q
 ·cases q
theorem we {es:List Expr} {js:List Nat} {po:List D->Option (List D)} {n k:Nat} (hc:X.calm=true) (h:Xz X es js po n) (hn:(assignEach es X.env).length=n:=by rfl) (hst:(assignEach es X.env).findIdx? (·.1)=none:=by rfl):PG X (.Tuple es k pos) (tG js (X0 po)):=
 λpins s σ H v u Q I r ⟨Z,d,os,hv,ho,q⟩=>by
  unfold X0 at ho
  split at ho
  ·obtain ⟨p,xs,rfl,e,hx⟩:=hv.tup_inv
   exact KI hc h.g hn hst pins s σ H _ u Q I r ⟨p,xs,rfl,yN.of (zm _ _ e),by rw [xC hx]; exact h.l _ _ ho,Z,_,os,hx,ho,q⟩
  ·obtain ⟨p,xs,rfl,e,hx⟩:=hv.lst_inv
   exact zN1 hc h.g hn hst pins s σ H _ u Q I r ⟨p,xs,rfl,zT.of (zm _ _ e),by rw [xC hx]; exact h.l _ _ ho,Z,_,os,hx,ho,q⟩
  ·cases ho
end
def Wk (Z:Addr->Prop) (J:It) (H:Hp) (ds:List D):Prop:=∀ i Z' H',zD (zL Z H) (zL Z' H')->ZL Z' H'->(∀ d,ds[i]? = some d->J.go i H'/\∀ x H'',J.yld i H' x H''->zD H' H''/\DV (zL Z' H'') x d)/\(i=ds.length->J.stop i H')
inductive uy (p:yz) (σ:St) (H:Hp) (Q:It->Hp->Prop):Prop
 | mk (Z:Addr->Prop) (Γ:List Sl) (R:List D->Prop) (E:yj Z Γ σ H) (h:p Γ R) (q:∀ ds J H',R ds->zD H H'->Wk Z J H' ds->Q J H'):uy p σ H Q
theorem jz {α β:Type} {R:α->β->Prop} {xs:List α} {ys:List β} (h:Paired R xs ys) {j:Nat} {y:β} (e:ys[j]? = some y):∃ x,xs[j]? = some x/\R x y:=Xw.go h e
section
variable {X:Cx} {tg e e1 e2:Expr} {pos:Pos} {pa:yE} {pl:yz}
theorem Zv {w w':TI} (h:PI X tg e w) (k:∀ σ H R,w' σ H R->w σ H R):PI X tg e w':=λpins s σ H R I q=>h pins s σ H R I (k σ H R q)
def JC (K:PySem.W.Frag) (tl:TE):TI:=λσ H R=>tl σ H λx H1=>(∃ a,x=.ref a/\(∃ xs,zT K H1 a xs)/\R (jj K a) H1)\/∃ a,x=.ref a/\(∃ xs,yN K H1 a xs)/\R (kT K a) H1
theorem zP1 {l:Expr} {tl:TE} (hl:PE X l tl):PI X tg l (JC X.K tl):=by
 intro pins s σ H R I h
 refine zk (hl pins s σ H _ I h) λv s1 ⟨x,H1,I1,r1,q1⟩=>?_
 rcases q1 with ⟨a,e,⟨xs,hq⟩,q⟩ | ⟨a,e,⟨xs,hq⟩,q⟩
 ·subst e
  cases r1
  obtain ⟨its,rv,p,hz⟩:=I1.list hq
  refine PySem.wpAny_pyIter_list p.isList ?_
  refine ⟨s1.heap.objs.size,[s1.heap.objs.size],_,_,H1,rfl,I1.kept (t':=s1.toks) λb o e=>Heap.get?_push_of_some _ e,KL a _,⟨_,Heap.get?_push_size _ rfl,rfl,rfl⟩,λb hb=>?_,q⟩
  have e:b=s1.heap.objs.size:=by simpa using hb
  subst e
  exact I1.fpOk (Nat.le_refl _) (I1.hok.fresh (Nat.le_refl _))
 ·subst e
  cases r1
  obtain ⟨its,rv,p,hz⟩:=I1.tuple hq
  refine PySem.wpAny_pyIter_tuple (show s1.heap.IsTuple a its.toArray from p) ?_
  refine ⟨s1.heap.objs.size,[s1.heap.objs.size],_,_,H1,rfl,I1.kept (t':=s1.toks) λb o e=>Heap.get?_push_of_some _ e,KM a _,⟨_,Heap.get?_push_size _ rfl,rfl,rfl⟩,λb hb=>?_,q⟩
  have e:b=s1.heap.objs.size:=by simpa using hb
  subst e
  exact I1.fpOk (Nat.le_refl _) (I1.hok.fresh (Nat.le_refl _))
def qc:D->(List D->Prop)->Prop
 | .lst ds,R=>R ds
 | .tup ds,R=>R ds
 | _,_=>False
def Zw (pa:yE):yz:=λΓ R=>pa Γ λd=>qc d R
theorem zOP {K:PySem.W.Frag} {Z:Addr->Prop} {H:Hp} {p:Addr} {xs:List V} {ds:List D} (e:zL Z H p=some (.lst xs)) (h:yG (zL Z H) xs ds):Wk Z (jj K p) H ds:=λi Z' H' s zd=>by
 have e1:=zm _ _ (s _ _ e)
 refine ⟨λd hd=>?_,λhi=>⟨xs,zT.of e1,by rw [xC h]; omega⟩⟩
 obtain ⟨x,hx,hh⟩:=jz h hd
 refine ⟨⟨xs,x,zT.of e1,hx⟩,λy H'' ⟨e2,hy⟩=>?_⟩
 subst e2
 have:=hy xs (zT.of e1)
 rw [hx] at this
 cases this
 exact ⟨zD.refl _,hh.same s⟩
theorem zPQ {K:PySem.W.Frag} {Z:Addr->Prop} {H:Hp} {p:Addr} {xs:List V} {ds:List D} (e:zL Z H p=some (.tup xs)) (h:yG (zL Z H) xs ds):Wk Z (kT K p) H ds:=λi Z' H' s zd=>by
 have e1:=zm _ _ (s _ _ e)
 refine ⟨λd hd=>?_,λhi=>⟨xs,yN.of e1,by rw [xC h]; omega⟩⟩
 obtain ⟨x,hx,hh⟩:=jz h hd
 refine ⟨⟨xs,x,yN.of e1,hx⟩,λy H'' ⟨e2,hy⟩=>?_⟩
 subst e2
 have:=hy xs (yN.of e1)
 rw [hx] at this
 cases this
 exact ⟨zD.refl _,hh.same s⟩
theorem ym (ha:PE X e (tP pa)):PI X tg e (uy (Zw pa)):=Zv (zP1 ha) λσ H Q ⟨Z,Γ,R,E,h,q⟩=>
 ⟨Z,Γ,_,E,h,λd v H1 hd s1 hv=>by
  unfold qc at hd
  split at hd
  ·obtain ⟨p,xs,rfl,e,hx⟩:=hv.lst_inv
   exact .inl ⟨p,rfl,⟨xs,zT.of (zm _ _ e)⟩,q _ _ H1 hd s1 (zOP e hx)⟩
  ·obtain ⟨p,xs,rfl,e,hx⟩:=hv.tup_inv
   exact .inr ⟨p,rfl,⟨xs,yN.of (zm _ _ e)⟩,q _ _ H1 hd s1 (zPQ e hx)⟩
  ·exact hd.elim⟩
def rng (lo:Int) (n:Nat):List D:=(List.range n).map λk:Nat=>D.int (lo + (k:Int))
theorem zMa {Z:Addr->Prop} {H:Hp} {lo:Int} {n:Nat}:Wk Z (XW lo n) H (rng lo n):=λi Z' H' s zd=>by
 refine ⟨λd hd=>?_,λhi=>?_⟩
 ·unfold rng at hd
  rw [List.getElem?_map] at hd
  have hlt:i < n:=by
   apply Classical.byContradiction
   intro c
   rw [List.getElem?_eq_none (by rw [List.length_range]; omega)] at hd
   cases hd
  rw [List.getElem?_range hlt] at hd
  cases hd
  exact ⟨hlt,λx H'' ⟨e1,e2⟩=>by subst e1; subst e2; exact ⟨zD.refl _,.int _⟩⟩
 ·show n<=i
  rw [hi]
  unfold rng
  rw [List.length_map,List.length_range]
  exact Nat.le_refl _
def rng0 (n:Nat):List D:=(List.range n).map λk:Nat=>D.int (k:Int)
theorem JD (n:Nat):rng0 n=rng 0 n:=List.map_congr_left λk _=>by rw [Int.zero_add]
theorem vT {n k:Nat} {d:D} (h:(rng0 n)[k]? = some d):k < n/\d=.int (k:Int):=by
 unfold rng0 at h
 rw [List.getElem?_map] at h
 by_cases c:k < n
 ·rw [List.getElem?_range c] at h
  exact ⟨c,(Option.some.inj h).symm⟩
 ·rw [List.getElem?_eq_none (by rw [List.length_range]; omega)] at h
  cases h
theorem vU (n:Nat):(rng0 n).length=n:=by unfold rng0; rw [List.length_map,List.length_range]
def zPn:List D->(List D->Prop)->Prop
 | [.int j],R=>-1000<=j/\j<=1000/\R (rng0 j.toNat)
 | _,_=>False
def JE (f:List D->(List D->Prop)->Prop) (pl:yz):yz:=λΓ R=>pl Γ λds=>f ds R
theorem y3 {p:Pos} (hg:Gl X "range") (hm:X.mg "range" = none) (ha:PA X [e] (xo pl)) (hs:starEach [e] X.env=[(false,eval e X.env)]:=by rfl):PI X tg (.Call (.Name "range" p) [e] [] pos) (uy (JE zPn pl)):=Zv (zK3 hg hm ha hs) λσ H Q ⟨Z,Γ,R,E,h,q⟩=>
 ⟨Z,Γ,_,E,h,λds vs H1 hd s1 hv=>by
  unfold zPn at hd
  split at hd
  ·obtain ⟨h1,h2,hd⟩:=hd
   obtain ⟨v,rfl,hw⟩:=y6 hv
   cases hw
   rw [JD] at hd
   exact ⟨_,rfl,by omega,by omega,q _ _ H1 hd s1 zMa⟩
  ·exact hd.elim⟩
abbrev xh (x y:D):D:=.tup [x,y]
theorem X1 {α β γ:Type} (f:α->β->γ):∀ {xs:List α} {ys:List β} {i:Nat} {z:γ},(List.zipWith f xs ys)[i]? = some z->∃ x y,xs[i]? = some x/\ys[i]? = some y/\z=f x y
 | [],_,_,_,h=>by simp at h
 | _ :: _,[],_,_,h=>by simp at h
 | x :: _,y :: _,0,_,h=>by simp at h; exact ⟨x,y,rfl,rfl,h.symm⟩
 | _ :: xs,_ :: ys,i + 1,z,h=>by
  obtain ⟨x,y,h1,h2,h3⟩:=X1 f (xs:=xs) (ys:=ys) (i:=i) (z:=z) (by simpa using h)
  exact ⟨x,y,by simpa using h1,by simpa using h2,h3⟩
theorem zNl {S1 S2:Hp->Addr->List V->Prop} {Z:Addr->Prop} {H:Hp} {p r:Addr} {xs ys:List V} {ds es:List D} (h1:∀ Z' H',zD (zL Z H) (zL Z' H')->S1 H' p xs) (h2:∀ Z' H',zD (zL Z H) (zL Z' H')->S2 H' r ys) (hx:yG (zL Z H) xs ds) (hy:yG (zL Z H) ys es) :
  Wk Z ⟨λi H=>∃ xs ys x y,S1 H p xs/\S2 H r ys/\xs[i]? = some x/\ys[i]? = some y,λi H v H'=>∃ T x y,v=.ref T/\H T=none/\H'=zY H T (.tup [x,y])/\(∀ xs,S1 H p xs->xs[i]? = some x)/\∀ ys,S2 H r ys->ys[i]? = some y,
   λi H=>∃ xs ys,S1 H p xs/\S2 H r ys/\i<=xs.length/\i<=ys.length/\(i=xs.length\/i=ys.length)⟩ H (List.zipWith xh ds es):=λi Z' H' s zd=>by
 have a1:=h1 Z' H' s
 have a2:=h2 Z' H' s
 have l1:=xC hx
 have l2:=xC hy
 refine ⟨λd hd=>?_,λhi=>?_⟩
 ·obtain ⟨a,b,ha,hb,rfl⟩:=X1 _ hd
  obtain ⟨x,gx,kx⟩:=jz hx ha
  obtain ⟨y,gy,ky⟩:=jz hy hb
  refine ⟨⟨xs,ys,x,y,a1,a2,gx,gy⟩,λv H'' ⟨T,x',y',ev,hT,eH,q1,q2⟩=>?_⟩
  have:=q1 xs a1
  rw [gx] at this
  cases this
  have:=q2 ys a2
  rw [gy] at this
  cases this
  subst ev
  subst eH
  exact ⟨yy hT _,ZZ zd hT (.cons (kx.same s) (.cons (ky.same s) .nil))⟩
 ·rw [List.length_zipWith] at hi
  exact ⟨xs,ys,a1,a2,by omega,by omega,by omega⟩
def uZ:List D->(List D->Prop)->Prop
 | [.lst ds,.lst es],R=>R (List.zipWith xh ds es)
 | [.tup ds,.lst es],R=>R (List.zipWith xh ds es)
 | _,_=>False
theorem j0 {ts:List Expr} {kk:Nat} {tp p:Pos} (hg:Gl X "zip") (hm:X.mg "zip" = none) (ha:PA X [e1,e2] (xo pl)) (hs:starEach [e1,e2] X.env=[(false,eval e1 X.env),(false,eval e2 X.env)]:=by rfl) (hs2:starEach [e2] X.env=[(false,eval e2 X.env)]:=by rfl) :
  PI X (.Tuple ts kk tp) (.Call (.Name "zip" p) [e1,e2] [] pos) (uy (JE uZ pl)):=Zv (zOj hg hm ha hs hs2) λσ H Q ⟨Z,Γ,R,E,h,q⟩=>
 ⟨Z,Γ,_,E,h,λds vs H1 hd s1 hv=>by
  unfold uZ at hd
  split at hd
  ·obtain ⟨v,w,rfl,hx,hy⟩:=jN hv
   obtain ⟨a,xs,rfl,ea,ha⟩:=hx.lst_inv
   obtain ⟨b,ys,rfl,eb,hb⟩:=hy.lst_inv
   exact ⟨a,b,rfl,.inr ⟨⟨xs,zT.of (zm _ _ ea)⟩,⟨ys,zT.of (zm _ _ eb)⟩,q _ _ H1 hd s1 (zNl (λ_ _ s=>zT.of (zm _ _ (s _ _ ea))) (λ_ _ s=>zT.of (zm _ _ (s _ _ eb))) ha hb)⟩⟩
  ·obtain ⟨v,w,rfl,hx,hy⟩:=jN hv
   obtain ⟨a,xs,rfl,ea,ha⟩:=hx.tup_inv
   obtain ⟨b,ys,rfl,eb,hb⟩:=hy.lst_inv
   exact ⟨a,b,rfl,.inl ⟨⟨xs,yN.of (zm _ _ ea)⟩,⟨ys,zT.of (zm _ _ eb)⟩,q _ _ H1 hd s1 (zNl (λ_ _ s=>yN.of (zm _ _ (s _ _ ea))) (λ_ _ s=>zT.of (zm _ _ (s _ _ eb))) ha hb)⟩⟩
  ·exact hd.elim⟩
end
end Pu
namespace Pu
open PySem L2 Sh
def un:Sl->Sl
 | .sh d=>.sh d
 | _=>.no
theorem zI1:∀ (Γ:List Sl) (i:Nat),slot Γ i=(Γ[i]?).getD .no
 | [],_=>rfl
 | _ :: _,0=>rfl
 | _ :: t,i + 1=>(zI1 t i).trans (by rw [List.getElem?_cons_succ])
theorem Zx {s:Sl} {d:D} (h:un s=.sh d):s=.sh d:=by cases s <;> first | exact h | cases h
theorem Zy {s:Sl} {ds:List D} (h:un s=.ow ds):False:=by cases s <;> cases h
theorem Zz {s:Sl} {o c:Addr} {ns:List Str} {ds:List D} (h:un s=.ob o c ns ds):False:=by cases s <;> cases h
theorem gZ {os:List D} {l:List Sl} (hl:∀ i o c ns ds,slot l i≠.ob o c ns ds):∀ i o c ns ds,slot (os.map Sl.sh++l) i≠.ob o c ns ds:=λi o c ns ds h=>by
 induction os generalizing i with
 | nil=>exact hl i o c ns ds h
 | cons d t ih=>
  cases i with
  | zero=>cases h
  | succ i=>exact ih i h
theorem ga {os:List D} {l:List Sl} (hl:∀ i ds,slot l i≠.ow ds):∀ i ds,slot (os.map Sl.sh++l) i≠.ow ds:=λi ds h=>by
 induction os generalizing i with
 | nil=>exact hl i ds h
 | cons d t ih=>
  cases i with
  | zero=>cases h
  | succ i=>exact ih i h
theorem X2 (Γ:List Sl):∀ (js:List Nat) (i:Nat),slot (js.map λj=>un (slot Γ j)) i=match js[i]? with | some j=>un (slot Γ j) | none=>.no
 | [],_=>rfl
 | _ :: _,0=>rfl
 | _ :: js,i + 1=>by
  rw [List.getElem?_cons_succ]
  exact X2 Γ js i
theorem JF {Z:Addr->Prop} {Γ:List Sl} {σ:St} {H:Hp} (E:yj Z Γ σ H) {js:List Nat} {vs:List V} {os:List D} (h:yG (zL Z H) vs os):yj Z (os.map Sl.sh++js.map λj=>un (slot Γ j)) (vs.map some++js.map λj=>(σ[j]?).getD none) H:=by
 have no:∀ i ds,slot (os.map Sl.sh++js.map λj=>un (slot Γ j)) i≠.ow ds:=ga λi ds h=>by
  rw [X2] at h
  split at h
  ·exact Zy h
  ·cases h
 have nob:∀ i o c ns ds,slot (os.map Sl.sh++js.map λj=>un (slot Γ j)) i≠.ob o c ns ds:=gZ λi o c ns ds h=>by
  rw [X2] at h
  split at h
  ·exact Zz h
  ·cases h
 refine ⟨?_,λi ds e=>absurd e (no i ds),λi o c ns ds e=>absurd e (nob i o c ns ds),λi _ ds _ _ e=>absurd e (no i ds),E.zd,?_⟩
 clear nob
 ·induction h with
  | nil=>
   intro i d e
   change slot (js.map λj=>un (slot Γ j)) i=_ at e
   show ∃ v,(js.map λj=>(σ[j]?).getD none)[i]? = some (some v)/\_
   rw [X2] at e
   rw [List.getElem?_map]
   cases k:js[i]? with
   | none=>rw [k] at e; cases e
   | some j=>
    rw [k] at e
    obtain ⟨v,h1,h2⟩:=E.sh j d (Zx e)
    exact ⟨v,by show some ((σ[j]?).getD none)=_; rw [h1]; rfl,h2⟩
  | @cons v d vs ds hv _ ih=>
   intro i e q
   cases i with
   | zero=>cases q; exact ⟨v,rfl,hv⟩
   | succ i=>
    obtain ⟨u,h1,h2⟩:=ih (λi=>no (i + 1)) i e q
    exact ⟨u,by rw [List.map_cons,List.cons_append,List.getElem?_cons_succ]; exact h1,h2⟩
 ·rw [List.length_append,List.length_append,List.length_map,List.length_map,List.length_map,List.length_map,xC h]
theorem JG (c:St):∀ (pre o:St) (vs:List V),o.length=vs.length->setN (pre++(o++c)) (List.range' pre.length o.length) vs=pre++(vs.map some++c)
 | _,[],[],_=>rfl
 | _,[],_ :: _,h=>nomatch h
 | _,_ :: _,[],h=>nomatch h
 | pre,x :: o,v :: vs,h=>by
  rw [List.length_cons,List.range'_succ]
  show setN ((pre++((x :: o)++c)).set pre.length (some v)) (List.range' (pre.length + 1) o.length) vs=_
  rw [List.set_append_right _ _ (Nat.le_refl _),Nat.sub_self]
  have:=JG c (pre++[some v]) o vs (Nat.succ.inj h)
  rw [List.length_append,List.append_assoc] at this
  rw [List.append_assoc] at this
  exact this
inductive zf (ds:List D) (G:D->(D->Prop)->Prop) (R:D->Prop):Prop
 | mk (few:ds.length<=1000) (F:D->D->Prop) (h:∀ d,d∈ds->G d (F d)) (q:∀ es,Paired F ds es->R (.lst es)):zf ds G R
def Z4 (caps:List Nat) (pi:yz) (po:D->Option (List D)) (pe:yE):yE:=λΓ R=>pi Γ λds=>zf ds (λd S=>ux (po d) λos=>pe (os.map Sl.sh++caps.map λj=>un (slot Γ j)) S) R
theorem zL7 {Z:Addr->Prop} {Γ:List Sl} {σ:St} {H:Hp} {own:List Str} {caps:List (Nat × Str)} {J:It} {ds:List D} {js:List Nat} {po:D->Option (List D)} {pe:yE} {Q:VK} {F:D->D->Prop} (E:yj Z Γ σ H) (wk:Wk Z J H ds) (hj:js=List.range' 0 own.length) (hk:∀ d os,po d=some os->os.length=js.length) (few:ds.length<=1000)
  (hF:∀ d,d∈ds->ux (po d) λos=>pe (os.map Sl.sh++(caps.map (·.1)).map λj=>un (slot Γ j)) (F d))
  (q:∀ es ys H' p,Paired F ds es->zD H H'->yG (zL Z H') ys es->H' p=none->Q (.ref p) (zY H' p (.lst ys))):Xg J (tG js po) (tP pe) Q (wY own caps σ) H:=by
 have hc:wY own caps σ=own.map (λ_=>none)++(caps.map (·.1)).map λj=>(σ[j]?).getD none:=by
  unfold wY
  rw [List.map_map]
  rfl
 refine ⟨λi m ys σ1 H1=>m + i=ds.length/\zD H H1/\(∃ es,Paired F (ds.take i) es/\yG (zL Z H1) ys es)/\∃ o:St,o.length=own.length/\σ1=o++(caps.map (·.1)).map λj=>(σ[j]?).getD none,⟨ds.length,rfl,zD.refl _,⟨[],.nil,.nil⟩,_,List.length_map ..,hc⟩,?_⟩
 rintro i m ys σ1 H1 ⟨hm,s1,⟨es,he,hy⟩,o,lo,rfl⟩
 obtain ⟨w1,w2⟩:=wk i Z H1 (zz s1) (E.zd.same s1)
 have le:es.length=i:=by
  have:=Paired.length he
  rw [List.length_take] at this
  omega
 by_cases hi:i < ds.length
 ·refine .inr ⟨(w1 _ (List.getElem?_eq_getElem hi)).1,by rw [xC hy,le]; exact qL (by omega),λy σ' H'=>m - 1 + (i + 1)=ds.length/\zD H H'/\(∃ es,Paired F (ds.take (i + 1)) es/\yG (zL Z H') (ys++[y]) es)/\∃ o:St,o.length=own.length/\σ'=o++(caps.map (·.1)).map λj=>(σ[j]?).getD none,λy σ' H' k=>⟨m - 1,by omega,k⟩,λx H' yl=>?_⟩
  obtain ⟨s2,dv⟩:=(w1 _ (List.getElem?_eq_getElem hi)).2 x H' yl
  obtain ⟨os,ho,hp⟩:=Zu (hF _ (List.getElem_mem hi))
  have lo2:=hk _ _ ho
  refine ⟨Z,_,os,dv,ho,λvs hvs=>?_⟩
  have lv:=xC hvs
  have e1:setN (o++(caps.map (·.1)).map λj=>(σ[j]?).getD none) js vs=vs.map some++(caps.map (·.1)).map λj=>(σ[j]?).getD none:=by
   rw [hj,<- lo]
   exact JG _ [] o vs (by rw [lv,lo2,hj,List.length_range']; exact lo)
  rw [e1]
  refine ⟨Z,_,_,JF (E.same (s1.trans s2)) hvs,hp,λd v H3 hd s3 hv=>⟨by omega,s1.trans (s2.trans s3),⟨es++[d],?_,ur hv (yD (zz (s2.trans s3)) hy)⟩,_,?_,rfl⟩⟩
  ·rw [List.take_succ_eq_append_getElem hi]
   exact ur hd he
  ·rw [List.length_map,lv,lo2,hj,List.length_range']
 ·have ei:i=ds.length:=by omega
  refine .inl ⟨w2 ei,λp hp=>q es ys H1 p ?_ s1 hy hp⟩
  rw [List.take_of_length_le (by omega)] at he
  exact he
section
variable {X:Cx} {scope:Scope} {own:List Str} {caps:List (Nat × Str)} {tg iter elt:Expr} {pos:Pos} {pi:yz} {po:D->Option (List D)} {pe:yE} {js:List Nat}
theorem yT (B:vm X scope own caps) (hc:X.calm=true) (hj:js=List.range' 0 own.length) (hk:∀ d os,po d=some os->os.length=js.length) (hi:PI X tg iter (uy pi)) (hg:∀ C s₀ H₀ ex,PG (yf X scope (zb own caps) C s₀ H₀ ex) tg (tG js po))
  (he:∀ C s₀ H₀ ex,PE (yf X scope (zb own caps) C s₀ H₀ ex) elt (tP pe)) (hs:∀ x,foldedSetIterable iter X.env x=pure x:=by intro _; rfl):PE X (.ListComp elt [⟨tg,iter,[],0⟩] scope pos) (tP (Z4 (caps.map (·.1)) pi po pe)):=
 yO (Ul B hc hi hg he hs) λσ H Q ⟨Z,Γ,R,E,h,q⟩=>⟨Z,Γ,_,E,h,λds J H1 ⟨fw,F,hF,hR⟩ s1 wk=>zL7 (E.same s1) wk hj hk fw hF λes ys H' p h1 s2 h2 hp=>q _ _ _ (hR es h1) (s1.trans (s2.trans (yy hp _))) (jJ ((E.same s1).zd.same s2) hp h2)⟩
end
theorem zf.map {ds:List D} {G:D->(D->Prop)->Prop} {R:D->Prop} (f:D->D) (few:ds.length<=1000) (h:∀ d,d∈ds->G d λe=>e=f d) (q:R (.lst (ds.map f))):zf ds G R:=⟨few,λd e=>e=f d,h,λes p=>by
 have:∀ {ds es:List D},Paired (λd e=>e=f d) ds es->es=ds.map f:=λ{ds es} p=>by
  induction p with
  | nil=>rfl
  | cons h _ ih=>rw [h,ih]; rfl
 rw [this p]
 exact q⟩
theorem zf.all {ds:List D} {G:D->(D->Prop)->Prop} {R:D->Prop} (P:D->Prop) (few:ds.length<=1000) (h:∀ d,d∈ds->G d P) (q:∀ es,es.length=ds.length->(∀ e∈es,P e)->R (.lst es)):zf ds G R:=⟨few,λ_=>P,h,λes p=>q es (Paired.length p).symm (by
 clear h few q
 induction p with
 | nil=>exact λ_ h=>nomatch h
 | cons h _ ih=>exact λe m=>(List.mem_cons.mp m).elim (λz=>z ▸ h) (ih e))⟩
def yB:D->Int
 | .int i=>i
 | _=>0
theorem zf.int {ns:List Int} {G:D->(D->Prop)->Prop} {R:D->Prop} (g:Int->Int) (few:ns.length<=1000) (h:∀ n,n∈ns->G (.int n) λe=>e=.int (g n)) (q:R (.lst ((ns.map g).map D.int))):zf (ns.map D.int) G R:=
 zf.map (λd=>.int (g (yB d))) (by rw [List.length_map]; exact few) (λd m=>by
  obtain ⟨n,hn,rfl⟩:=List.mem_map.mp m
  exact h n hn) (by rw [List.map_map] at q |-; exact q)
theorem zf.bool {ds:List D} {G:D->(D->Prop)->Prop} {R:D->Prop} (g:D->Bool) (few:ds.length<=1000) (h:∀ d,d∈ds->G d λe=>e=.bool (g d)) (q:R (.lst ((ds.map g).map D.bool))):zf ds G R:=
 zf.map (λd=>.bool (g d)) few h (by rw [List.map_map] at q; exact q)
theorem zf.rng {lo:Int} {n:Nat} {G:D->(D->Prop)->Prop} {R:D->Prop} (g:Nat->D) (few:n<=1000) (h:∀ k,k < n->G (.int (lo + (k:Int))) λe=>e=g k) (q:R (.lst ((List.range n).map g))):zf (Pu.rng lo n) G R:=
 zf.map (λd=>g (yB d - lo).toNat) (by unfold Pu.rng; rw [List.length_map,List.length_range]; exact few) (λd m=>by
  obtain ⟨k,hk,rfl⟩:=List.mem_map.mp m
  rw [show (yB (.int (lo + (k:Int))) - lo).toNat=k by show (lo + (k:Int) - lo).toNat=k; omega]
  exact h k (List.mem_range.mp hk)) (by
  have e:(Pu.rng lo n).map (λd=>g (yB d - lo).toNat)=(List.range n).map g:=by
   unfold Pu.rng
   rw [List.map_map]
   refine List.map_congr_left λk _=>?_
   show g (lo + (k:Int) - lo).toNat=g k
   rw [show (lo + (k:Int) - lo).toNat=k by omega]
  rw [e]
  exact q)
theorem zf.rngP {lo:Int} {n:Nat} {G:D->(D->Prop)->Prop} {R:D->Prop} (P:D->Prop) (few:n<=1000) (h:∀ k,k < n->G (.int (lo + (k:Int))) P) (q:∀ es,es.length=n->(∀ e∈es,P e)->R (.lst es)):zf (Pu.rng lo n) G R:=
 zf.all P (by unfold Pu.rng; rw [List.length_map,List.length_range]; exact few) (λd m=>by
  obtain ⟨k,hk,rfl⟩:=List.mem_map.mp m
  exact h k (List.mem_range.mp hk)) (λes l=>q es (by rw [l]; unfold Pu.rng; rw [List.length_map,List.length_range]))
theorem zf.rng0 {n:Nat} {G:D->(D->Prop)->Prop} {R:D->Prop} (g:Nat->D) (few:n<=1000) (h:∀ k,k < n->G (.int (k:Int)) λe=>e=g k) (q:R (.lst ((List.range n).map g))):zf (Pu.rng0 n) G R:=by
 rw [JD]
 exact zf.rng g few (λk hk=>by rw [Int.zero_add]; exact h k hk) q
theorem zf.rng0P {n:Nat} {G:D->(D->Prop)->Prop} {R:D->Prop} (P:D->Prop) (few:n<=1000) (h:∀ k,k < n->G (.int (k:Int)) P) (q:∀ es,es.length=n->(∀ e∈es,P e)->R (.lst es)):zf (Pu.rng0 n) G R:=by
 rw [JD]
 exact zf.rngP P few (λk hk=>by rw [Int.zero_add]; exact h k hk) q
def vC (P:Int->Prop) (d:D):Prop:=∃ i,d=.int i/\P i
theorem zLU {P:Int->Prop}:∀ {es:List D},(∀ e∈es,vC P e)->∃ ns:List Int,es=ns.map D.int/\∀ x∈ns,P x
 | [],_=>⟨[],rfl,λ_ h=>nomatch h⟩
 | e :: es,h=>by
  obtain ⟨ns,rfl,k⟩:=zLU (es:=es) λx m=>h x (List.mem_cons_of_mem _ m)
  obtain ⟨i,rfl,p⟩:=h e List.mem_cons_self
  exact ⟨i :: ns,rfl,λx m=>(List.mem_cons.mp m).elim (λz=>z ▸ p) (k x)⟩
theorem zf.nums {n:Nat} {G:D->(D->Prop)->Prop} {R:D->Prop} (P:Int->Prop) (few:n<=1000) (h:∀ k,k < n->G (.int (k:Int)) (vC P)) (q:∀ ns:List Int,ns.length=n->(∀ x∈ns,P x)->R (.lst (ns.map D.int))):zf (Pu.rng0 n) G R:=
 zf.rng0P (vC P) few h λes l k=>by
  obtain ⟨ns,rfl,p⟩:=zLU k
  exact q ns (by rw [<- l,List.length_map]) p
theorem yH {i:Nat}:∀ d os,po1 d=some os->os.length=[i].length:=λd os h=>by cases h; rfl
theorem qd:∀ ds os,zPu ds=some os->os.length=([]:List Nat).length:=λds os h=>by cases ds with | nil=>cases h; rfl | cons=>cases h
theorem vV {i:Nat} {js:List Nat} {po:List D->Option (List D)} (h:∀ ds os,po ds=some os->os.length=js.length):∀ ds os,zNy po ds=some os->os.length=(i :: js).length:=λds os q=>by
 cases ds with
 | nil=>cases q
 | cons d dt=>
  change (po dt).map (d :: ·)=some os at q
  cases e:po dt with
  | none=>rw [e] at q; cases q
  | some os'=>rw [e] at q; cases q; rw [List.length_cons,List.length_cons,h dt os' e]
structure yq (Z0:Addr->Prop) (H0:Hp) (Z:Addr->Prop) (Γ:List Sl) (σ:St) (H:Hp):Prop where
 e:yj Z Γ σ H
 z0:∀ b,Z0 b->Z b
 z0d:ZL Z0 H0
 same:zD H0 H
 own:∀ i ds l,slot Γ i=.ow ds->σ[i]? = some (some (.ref l))->H0 l=none
 owb:∀ i o c ns ds,slot Γ i=.ob o c ns ds->H0 o=none
structure X3 where
 nx:List Sl->Prop
 rt:D->Prop
 bk:List Sl->Prop:=λ_=>False
 ct:List Sl->Prop:=λ_=>False
abbrev yX:=X3->List Sl->Prop
inductive yn (p:yX) (D0:xa) (σ:St) (H:Hp):Prop
 | mk (Z0:Addr->Prop) (H0:Hp) (Z:Addr->Prop) (Γ:List Sl) (Dp:X3) (E:yq Z0 H0 Z Γ σ H) (h:p Dp Γ) (nx:∀ Z' Γ' σ' H',yq Z0 H0 Z' Γ' σ' H'->zD (zL Z H) (zL Z' H')->Dp.nx Γ'->D0.nx σ' H')
  (rt:∀ d v H',zD H0 H'->DV (zL Z0 H') v d->Dp.rt d->D0.rt v H') (bk:∀ Z' Γ' σ' H',yq Z0 H0 Z' Γ' σ' H'->zD (zL Z H) (zL Z' H')->Dp.bk Γ'->D0.bk σ' H') (ct:∀ Z' Γ' σ' H',yq Z0 H0 Z' Γ' σ' H'->zD (zL Z H) (zL Z' H')->Dp.ct Γ'->D0.ct σ' H'):yn p D0 σ H
theorem yq.mv {Z0:Addr->Prop} {H0:Hp} {Z:Addr->Prop} {Γ:List Sl} {σ:St} {H H':Hp} (E:yq Z0 H0 Z Γ σ H) (s:zD H H'):yq Z0 H0 Z Γ σ H':=⟨E.e.same s,E.z0,E.z0d,E.same.trans s,E.own,E.owb⟩
theorem yq.set {Z0:Addr->Prop} {H0:Hp} {Z:Addr->Prop} {Γ:List Sl} {σ:St} {H:Hp} (E:yq Z0 H0 Z Γ σ H) {v:V} {d:D} (h:DV (zL Z H) v d) (i:Nat):yq Z0 H0 Z (yJ Γ i (.sh d)) (σ.set i (some v)) H:=
 ⟨E.e.set h i,E.z0,E.z0d,E.same,λj ds l q r=>by
  rw [xn] at q
  by_cases c:j=i/\i < Γ.length
  ·rw [if_pos c] at q; cases q
  ·rw [if_neg c] at q
   have hj:=uY (Γ:=Γ) (i:=j) (by rw [q]; exact λz=>nomatch z)
   rw [List.getElem?_set_ne (λz=>c ⟨z.symm,by omega⟩)] at r
   exact E.own j ds l q r,λj o0 c0 ns ds q=>by
  rw [xn] at q
  by_cases c:j=i/\i < Γ.length
  ·rw [if_pos c] at q; cases q
  ·rw [if_neg c] at q
   exact E.owb j o0 c0 ns ds q⟩
theorem yq.setN {Z0:Addr->Prop} {H0:Hp} {Z:Addr->Prop} {H:Hp}:∀ {js:List Nat} {vs:List V} {os:List D} {Γ:List Sl} {σ:St},yq Z0 H0 Z Γ σ H->yG (zL Z H) vs os->yq Z0 H0 Z (Xy Γ js os) (Pu.setN σ js vs) H
 | [],_,_,_,_,E,_=>E
 | _ :: _,_,_,_,_,E,.nil=>E
 | _ :: js,_,_,_,_,E,.cons h t=>yq.setN (js:=js) (E.set h _) t
theorem X4 {Z:Addr->Prop} {H:Hp} {l:Addr} {o:HO} (h:Z l):zD (zL Z H) (zL Z (zY H l o)):=λb u e=>by
 obtain ⟨h1,h2⟩:=uD e
 have nb:b≠l:=λz=>h1 (by rw [z]; exact h)
 rw [xV h1,zu nb]
 exact h2
theorem yq.put {Z0:Addr->Prop} {H0:Hp} {Z:Addr->Prop} {Γ:List Sl} {σ:St} {H:Hp} (E:yq Z0 H0 Z Γ σ H) {i:Nat} {ds ds':List D} {l:Addr} {xs:List V} (hs:slot Γ i=.ow ds) (hl:σ[i]? = some (some (.ref l))) (hz:Z l) (hx:yG (zL Z H) xs ds'):yq Z0 H0 Z (yJ Γ i (.ow ds')) σ (zY H l (.lst xs)):=by
 obtain ⟨l0,xs0,hl0,_,el,_⟩:=E.e.ow i ds hs
 have el0:l0=l:=by rw [hl] at hl0; cases hl0; rfl
 rw [el0] at el
 have keyb:∀ j o c ns d,slot (yJ Γ i (.ow ds')) j=.ob o c ns d->slot Γ j=.ob o c ns d:=λj o0 c0 ns d q=>by
  rw [xn] at q
  by_cases c:j=i/\i < Γ.length
  ·rw [if_pos c] at q; cases q
  ·rw [if_neg c] at q; exact q
 have li:=uY (Γ:=Γ) (i:=i) (by rw [hs]; exact λz=>nomatch z)
 have hp:zD (zL Z H) (zL Z (zY H l (.lst xs))):=X4 hz
 have key:∀ j ds'',slot (yJ Γ i (.ow ds')) j=.ow ds''->∃ q,slot Γ j=.ow q:=λj d q=>by
  rw [xn] at q
  by_cases c:j=i/\i < Γ.length
  ·rw [c.1]; exact ⟨ds,hs⟩
  ·rw [if_neg c] at q; exact ⟨d,q⟩
 refine ⟨⟨λj d q=>?_,λj d q=>?_,λj o c ns d q=>?_,λj k as bs m q r=>?_,λb hb=>?_,by rw [gS]; exact E.e.len⟩,E.z0,E.z0d,?_,λj d m q=>?_,λj o c ns d q=>E.owb j o c ns d (keyb j o c ns d q)⟩
 ·rw [xn] at q
  by_cases c:j=i/\i < Γ.length
  ·rw [if_pos c] at q; cases q
  ·rw [if_neg c] at q
   obtain ⟨v,h1,h2⟩:=E.e.sh j d q
   exact ⟨v,h1,h2.same hp⟩
 ·rw [xn] at q
  by_cases c:j=i/\i < Γ.length
  ·rw [if_pos c] at q
   cases q
   rw [c.1]
   exact ⟨l,xs,hl,hz,xF,yD hp hx⟩
  ·rw [if_neg c] at q
   obtain ⟨m,ys,h1,h2,h3,h4⟩:=E.e.ow j d q
   have nm:m≠l:=λz=>c ⟨E.e.ne j i d ds l q hs (by rw [h1,z]) hl,li⟩
   exact ⟨m,ys,h1,h2,by rw [zu nm]; exact h3,yD hp h4⟩
 ·obtain ⟨dx,ys,h1,h2,h3,h5,h4⟩:=E.e.ob j o c ns d (keyb j o c ns d q)
  have nm:o≠l:=λz=>by rw [z,el] at h3; cases h3
  exact ⟨dx,ys,h1,h2,by rw [zu nm]; exact h3,h5,yD hp h4⟩
 ·obtain ⟨q1,hq⟩:=key j as q
  obtain ⟨r1,hr⟩:=key k bs r
  exact E.e.ne j k q1 r1 m hq hr
 ·obtain ⟨u,e,n⟩:=E.e.zd b hb
  by_cases c:b=l
  ·rw [c]; exact ⟨_,xF,λ_ z=>nomatch z⟩
  ·exact ⟨u,by rw [zu c]; exact e,n⟩
 ·exact λb o e=>by
   rw [zu (xG e (E.own i ds l hs hl))]
   exact E.same _ _ e
 ·obtain ⟨q1,hq⟩:=key j d q
  exact E.own j q1 m hq
theorem yq.make {Z0:Addr->Prop} {H0:Hp} {Z:Addr->Prop} {Γ:List Sl} {σ:St} {H:Hp} (E:yq Z0 H0 Z Γ σ H) {p:Addr} {xs:List V} {ds:List D} (hp:H p=none) (hx:yG (zL Z H) xs ds) (i:Nat) :
  yq Z0 H0 (λb=>Z b\/b=p) (yJ Γ i (.ow ds)) (σ.set i (some (.ref p))) (zY H p (.lst xs))/\zD (zL Z H) (zL (λb=>Z b\/b=p) (zY H p (.lst xs))):=by
 have s:zD (zL Z H) (zL (λb=>Z b\/b=p) (zY H p (.lst xs))):=λb o e=>by
  obtain ⟨h1,h2⟩:=uD e
  have nb:=xG h2 hp
  rw [xV (λz=>z.elim h1 nb),zu nb]
  exact h2
 have old:∀ j d,slot Γ j=.ow d->∀ m,σ[j]? = some (some (.ref m))->m≠p:=λj d q m h z=>by
  obtain ⟨l,ys,h1,h2,h3,_⟩:=E.e.ow j d q
  rw [h] at h1
  cases h1
  rw [z,hp] at h3
  cases h3
 have get:∀ j,¬ (j=i/\i < Γ.length)->slot Γ j≠.no->(σ.set i (some (V.ref p)))[j]? = σ[j]?:=λj c q=>by
  have hj:=uY q
  exact List.getElem?_set_ne (λz=>c ⟨z.symm,by omega⟩)
 have new:∀ j,j=i/\i < Γ.length->(σ.set i (some (V.ref p)))[j]? = some (some (.ref p)):=λj c=>by
  rw [c.1,List.getElem?_set_self (by have:=E.e.len; omega)]
 have keyb:∀ j o c ns d,slot (yJ Γ i (.ow ds)) j=.ob o c ns d->slot Γ j=.ob o c ns d/\(σ.set i (some (V.ref p)))[j]? = σ[j]?:=λj o0 c0 ns d q=>by
  rw [xn] at q
  by_cases c:j=i/\i < Γ.length
  ·rw [if_pos c] at q; cases q
  ·rw [if_neg c] at q; exact ⟨q,get j c (by rw [q]; exact λz=>nomatch z)⟩
 refine ⟨⟨⟨λj d q=>?_,λj d q=>?_,λj o c ns d q=>?_,λj k as bs m q r e f=>?_,λb hb=>?_,by rw [gS,List.length_set]; exact E.e.len⟩,λb hb=>.inl (E.z0 b hb),E.z0d,E.same.trans (yy hp _),λj d m q e=>?_,λj o c ns d q=>E.owb j o c ns d (keyb j o c ns d q).1⟩,s⟩
 ·rw [xn] at q
  by_cases c:j=i/\i < Γ.length
  ·rw [if_pos c] at q; cases q
  ·rw [if_neg c] at q
   obtain ⟨v,h1,h2⟩:=E.e.sh j d q
   exact ⟨v,by rw [get j c (by rw [q]; exact λz=>nomatch z)]; exact h1,h2.same s⟩
 ·rw [xn] at q
  by_cases c:j=i/\i < Γ.length
  ·rw [if_pos c] at q
   cases q
   exact ⟨p,xs,new j c,.inr rfl,xF,yD s hx⟩
  ·rw [if_neg c] at q
   obtain ⟨m,ys,h1,h2,h3,h4⟩:=E.e.ow j d q
   exact ⟨m,ys,by rw [get j c (by rw [q]; exact λz=>nomatch z)]; exact h1,.inl h2,by rw [zu (old j d q m h1)]; exact h3,yD s h4⟩
 ·obtain ⟨q,g⟩:=keyb j o c ns d q
  obtain ⟨dx,ys,h1,h2,h3,h5,h4⟩:=E.e.ob j o c ns d q
  exact ⟨dx,ys,g.trans h1,.inl h2,by rw [zu (xG h3 hp)]; exact h3,h5,yD s h4⟩
 ·rw [xn] at q r
  by_cases c:j=i/\i < Γ.length
  ·by_cases c':k=i/\i < Γ.length
   ·omega
   ·rw [if_neg c'] at r
    rw [new j c] at e
    rw [get k c' (by rw [r]; exact λz=>nomatch z)] at f
    cases e
    exact absurd rfl (old k bs r p f)
  ·rw [if_neg c] at q
   rw [get j c (by rw [q]; exact λz=>nomatch z)] at e
   by_cases c':k=i/\i < Γ.length
   ·rw [new k c'] at f
    cases f
    exact absurd rfl (old j as q p e)
   ·rw [if_neg c'] at r
    rw [get k c' (by rw [r]; exact λz=>nomatch z)] at f
    exact E.e.ne j k as bs m q r e f
 ·by_cases c:b=p
  ·rw [c]; exact ⟨_,xF,λ_ z=>nomatch z⟩
  ·obtain ⟨u,e,n⟩:=E.e.zd b (hb.resolve_right c)
   exact ⟨u,by rw [zu c]; exact e,n⟩
 ·rw [xn] at q
  by_cases c:j=i/\i < Γ.length
  ·rw [new j c] at e
   cases e
   cases h:H0 p with
   | none=>rfl
   | some o=>rw [E.same _ _ h] at hp; cases hp
  ·rw [if_neg c] at q
   rw [get j c (by rw [q]; exact λz=>nomatch z)] at e
   exact E.own j d m q e
def frz (Γ:List Sl) (i:Nat):List Sl:=match slot Γ i with
 | .ow ds=>yJ Γ i (.sh (.lst ds))
 | _=>Γ
theorem yq.frz {Z0:Addr->Prop} {H0:Hp} {Z:Addr->Prop} {Γ:List Sl} {σ:St} {H:Hp} (E:yq Z0 H0 Z Γ σ H) (i:Nat):∃ Z',yq Z0 H0 Z' (Pu.frz Γ i) σ H/\zD (zL Z H) (zL Z' H):=by
 unfold Pu.frz
 cases hs:slot Γ i with
 | no=>exact ⟨Z,E,zD.refl _⟩
 | sh _=>exact ⟨Z,E,zD.refl _⟩
 | ob _ _ _ _=>exact ⟨Z,E,zD.refl _⟩
 | ow ds=>
  obtain ⟨l,xs,hl,hz,el,hx⟩:=E.e.ow i ds hs
  have s:zD (zL Z H) (zL (λb=>Z b/\b≠l) H):=uu λb h=>h.1
  have key:∀ j d,slot (yJ Γ i (.sh (.lst ds))) j=.ow d->slot Γ j=.ow d/\j≠i:=λj d q=>by
   rw [xn] at q
   by_cases c:j=i/\i < Γ.length
   ·rw [if_pos c] at q; cases q
   ·rw [if_neg c] at q
    have hj:=uY (Γ:=Γ) (i:=j) (by rw [q]; exact λz=>nomatch z)
    exact ⟨q,λz=>c ⟨z,by omega⟩⟩
  have keyb:∀ j o c ns d,slot (yJ Γ i (.sh (.lst ds))) j=.ob o c ns d->slot Γ j=.ob o c ns d:=λj o0 c0 ns d q=>by
   rw [xn] at q
   by_cases c:j=i/\i < Γ.length
   ·rw [if_pos c] at q; cases q
   ·rw [if_neg c] at q; exact q
  refine ⟨λb=>Z b/\b≠l,⟨⟨λj d q=>?_,λj d q=>?_,λj o c ns d q=>?_,λj k as bs m q r=>?_,λb hb=>E.e.zd b hb.1,by rw [gS]; exact E.e.len⟩,λb hb=>⟨E.z0 b hb,λz=>?_⟩,E.z0d,E.same,λj d m q=>E.own j d m (key j d q).1,λj o c ns d q=>E.owb j o c ns d (keyb j o c ns d q)⟩,s⟩
  ·rw [xn] at q
   by_cases c:j=i/\i < Γ.length
   ·rw [if_pos c] at q
    cases q
    rw [c.1]
    exact ⟨.ref l,hl,.lst ((xV λz=>z.2 rfl).trans el) (yD s hx)⟩
   ·rw [if_neg c] at q
    obtain ⟨v,h1,h2⟩:=E.e.sh j d q
    exact ⟨v,h1,h2.same s⟩
  ·obtain ⟨q1,q2⟩:=key j d q
   obtain ⟨m,ys,h1,h2,h3,h4⟩:=E.e.ow j d q1
   exact ⟨m,ys,h1,⟨h2,λz=>q2 (E.e.ne j i d ds l q1 hs (by rw [h1,z]) hl)⟩,h3,yD s h4⟩
  ·obtain ⟨dx,ys,h1,h2,h3,h5,h4⟩:=E.e.ob j o c ns d (keyb j o c ns d q)
   exact ⟨dx,ys,h1,⟨h2,λz=>by rw [z,el] at h3; cases h3⟩,h3,h5,yD s h4⟩
  ·exact E.e.ne j k as bs m (key j as q).1 (key k bs r).1
  ·obtain ⟨ys,e,_⟩:=E.z0d b hb
   rw [z,E.own i ds l hs hl] at e
   cases e
end Pu
namespace Pu
open PySem L2 Sh
open PyProof.Rows (envOfC)
section
variable {X:Cx} {e:Expr} {es:List Expr} {st:Stmt} {sts:List Stmt} {pos:Pos} {pa pb:yE} {pl:yz} {p q:yX}
theorem yI {t t':TS} (h:PS X st t) (w:∀ D σ H,t' D σ H->t D σ H):PS X st t':=λpins s σ H D I k=>h pins s σ H D I (w D σ H k)
theorem vW {t t':TS} (h:yc X sts t) (w:∀ D σ H,t' D σ H->t D σ H):yc X sts t':=λpins s σ H D I k=>h pins s σ H D I (w D σ H k)
def Z6:yX:=λD Γ=>D.nx Γ
def JH (p q:yX):yX:=λD Γ=>p { D with nx:=q D } Γ
theorem yK:yc X [] (yn Z6):=vW kP λD σ H ⟨Z0,H0,Z,Γ,Dp,E,h,nx,rt,bk,ct⟩=>nx Z Γ σ H E (zD.refl _) h
theorem zM (h1:PS X st (yn p)) (h2:yc X sts (yn q)):yc X (st :: sts) (yn (JH p q)):=vW (wD h1 h2) λD σ H ⟨Z0,H0,Z,Γ,Dp,E,h,nx,rt,bk,ct⟩=>
 ⟨Z0,H0,Z,Γ,{ Dp with nx:=q Dp },E,h,λZ' Γ' σ' H' E' s' h'=>⟨Z0,H0,Z',Γ',Dp,E',h',λZ2 Γ2 σ2 H2 E2 s2=>nx Z2 Γ2 σ2 H2 E2 (s'.trans s2),rt,λZ2 Γ2 σ2 H2 E2 s2=>bk Z2 Γ2 σ2 H2 E2 (s'.trans s2),λZ2 Γ2 σ2 H2 E2 s2=>ct Z2 Γ2 σ2 H2 E2 (s'.trans s2)⟩,rt,bk,ct⟩
def Z7 (p q:yX):yX:=λD Γ=>∃ M:List Sl->Prop,p { D with nx:=M } Γ/\∀ Γ',M Γ'->q D Γ'
theorem JI (h1:PS X st (yn p)) (h2:yc X sts (yn q)):yc X (st :: sts) (yn (Z7 p q)):=vW (wD h1 h2) λD σ H ⟨Z0,H0,Z,Γ,Dp,E,⟨M,h,k⟩,nx,rt,bk,ct⟩=>
 ⟨Z0,H0,Z,Γ,{ Dp with nx:=M },E,h,λZ' Γ' σ' H' E' s' h'=>⟨Z0,H0,Z',Γ',Dp,E',k Γ' h',λZ2 Γ2 σ2 H2 E2 s2=>nx Z2 Γ2 σ2 H2 E2 (s'.trans s2),rt,λZ2 Γ2 σ2 H2 E2 s2=>bk Z2 Γ2 σ2 H2 E2 (s'.trans s2),λZ2 Γ2 σ2 H2 E2 s2=>ct Z2 Γ2 σ2 H2 E2 (s'.trans s2)⟩,rt,bk,ct⟩
theorem zQ (h1:PS X st (yn p)):yc X [st] (yn p):=jC h1
def JJ (i:Nat) (p:yX):yX:=λD Γ=>p D (frz Γ i)
theorem wJ (i:Nat) (h1:PS X st (yn p)):PS X st (yn (JJ i p)):=yI h1 λD σ H ⟨Z0,H0,Z,Γ,Dp,E,h,nx,rt,bk,ct⟩=>by
 obtain ⟨Z',E',s⟩:=E.frz i
 exact ⟨Z0,H0,Z',_,Dp,E',h,λZ2 Γ2 σ2 H2 E2 s2=>nx Z2 Γ2 σ2 H2 E2 (s.trans s2),rt,λZ2 Γ2 σ2 H2 E2 s2=>bk Z2 Γ2 σ2 H2 E2 (s.trans s2),λZ2 Γ2 σ2 H2 E2 s2=>ct Z2 Γ2 σ2 H2 E2 (s.trans s2)⟩
def Z8 (i:Nat) (pa:yE):yX:=λD Γ=>pa Γ λd=>D.nx (yJ Γ i (.sh d))
theorem zPW {i:Nat} (D:xa) (σ:St) (H:Hp):yn (Z8 i pa) D σ H->v7 (tP pa) (gE i) D σ H:=λ⟨Z0,H0,Z,Γ,Dp,E,h,nx,rt,bk,ct⟩=>
 ⟨Z,Γ,_,E.e,h,λd v H1 hd s1 hv=>nx Z _ _ H1 ((E.mv s1).set hv i) (zz s1) hd⟩
theorem zv (i:Nat) {x:Str} {pos':Pos} (hN:X.N.Nodup) (hi:X.N[i]? = some x) (hx:um X.env.scope x) (he:PE X e (tP pa)) (hs:swapsWith e (some (.Name x pos')) pos.line X.env=pure false:=by rfl) (hf:X.fn x=true\/X.env.scope.names.lookup x=some .local:=by first | exact .inl rfl | exact .inr rfl | assumption) :
  PS X (.Assign [.Name x pos'] e pos) (yn (Z8 i pa)):=yI (jD hN hi hx he hs hf) zPW
def JK (js:List Nat) (po:D->Option (List D)) (pa:yE):yX:=λD Γ=>pa Γ λd=>ux (po d) λos=>D.nx (Xy Γ js os)
theorem qe {tg:Expr} {js:List Nat} {po:D->Option (List D)} (he:PE X e (tP pa)) (hg:PG X tg (tG js po)) (hs:swapsWithSole [tg] e pos.line X.env=pure false:=by rfl) (hw:swappedStores [tg] e X.env=pure none:=by rfl)
  (h1:(assignEach [tg] X.env).map (·.2)=[assign tg X.env]:=by rfl):PS X (.Assign [tg] e pos) (yn (JK js po pa)):=yI (UF he hg hs hw h1) λD σ H ⟨Z0,H0,Z,Γ,Dp,E,h,nx,rt,bk,ct⟩=>
 ⟨Z,Γ,_,E.e,h,λd v H1 hd s1 hv=>by
  obtain ⟨os,ho,hd⟩:=Zu hd
  exact ⟨Z,d,os,hv,ho,λvs hvs=>nx Z _ _ H1 ((E.mv s1).setN hvs) (zz s1) hd⟩⟩
def JL (i:Nat) (pl:yz):yX:=λD Γ=>pl Γ λds=>ds.length<=1000/\D.nx (yJ Γ i (.ow ds))
theorem vo (i:Nat) {x:Str} {pos' lp:Pos} (hN:X.N.Nodup) (hi:X.N[i]? = some x) (hx:um X.env.scope x) (he:PA X es (xo pl)) (hs:swapsWith (.List es lp) (some (.Name x pos')) pos.line X.env=pure false:=by rfl) (hf:X.fn x=true\/X.env.scope.names.lookup x=some .local:=by first | exact .inl rfl | exact .inr rfl | assumption) :
  PS X (.Assign [.Name x pos'] (.List es lp) pos) (yn (JL i pl)):=yI (jD hN hi hx (gJ he) hs hf) λD σ H ⟨Z0,H0,Z,Γ,Dp,E,h,nx,rt,bk,ct⟩=>
 ⟨Z,Γ,_,E.e,h,λds vs H1 hd s1 hv=>⟨few (by rw [xC hv]; exact hd.1),λl hl=>by
  obtain ⟨E2,s2⟩:=(E.mv s1).make hl hv i
  exact nx _ _ _ _ E2 ((zz s1).trans s2) hd.2⟩⟩
def vX:D->(List D->Prop)->Prop
 | .lst es,k=>k es
 | _,_=>False
def zQA (i:Nat) (ow:Bool) (caps:List Nat) (pi:yz) (po:D->Option (List D)) (pe:yE):yX:=λT Γ=>pi Γ λds=>zf ds (λd S=>ux (po d) λos=>pe (os.map Sl.sh++caps.map λj=>un (slot Γ j)) S) λd=>vX d λes=>T.nx (yJ Γ i (match ow with | true=>.ow es | false=>.sh (.lst es)))
theorem vp (i:Nat) (ow:Bool) {scope:Scope} {own:List Str} {caps:List (Nat × Str)} {tg iter elt:Expr} {pi:yz} {po:D->Option (List D)} {pe:yE} {js:List Nat} {y:Str} {py spos:Pos} (hN:X.N.Nodup) (hy:X.N[i]? = some y) (hl:X.env.scope.names.lookup y=some .local) (B:vm X scope own caps) (hc:X.calm=true) (hj:js=List.range' 0 own.length) (hk:∀ d os,po d=some os->os.length=js.length)
  (hi:PI X tg iter (uy pi)) (hg:∀ C s₀ H₀ ex,PG (yf X scope (zb own caps) C s₀ H₀ ex) tg (tG js po)) (he:∀ C s₀ H₀ ex,PE (yf X scope (zb own caps) C s₀ H₀ ex) elt (tP pe)) (hsw:swapsWith (.ListComp elt [⟨tg,iter,[],0⟩] scope pos) (some (.Name y py)) spos.line X.env=pure true) (hs:∀ x,foldedSetIterable iter X.env x=pure x:=by intro _; rfl) :
  PS X (.Assign [.Name y py] (.ListComp elt [⟨tg,iter,[],0⟩] scope pos) spos) (yn (zQA i ow (caps.map (·.1)) pi po pe)):=yI (zMy hN hy hl B hc hi hg he hsw hs) λD σ H ⟨Z0,H0,Z,Γ,Dp,E,h,nx,rt,bk,ct⟩=>
 ⟨Z,Γ,_,E.e,h,λds J H1 ⟨fw,F,hF,hR⟩ s1 wk=>zL7 (E.e.same s1) wk hj hk fw hF λes ys H' l h1 s2 h2 hp=>by
  have E1:=(E.mv s1).mv s2
  cases ow with
  | true=>
   obtain ⟨E2,s3⟩:=E1.make hp h2 i
   exact nx _ _ _ _ E2 ((zz (s1.trans s2)).trans s3) (hR es h1)
  | false=>exact nx Z _ _ _ ((E1.mv (yy hp _)).set (jJ E1.e.zd hp h2) i) (zz (s1.trans (s2.trans (yy hp _)))) (hR es h1)⟩
def Z9 (pa:yE):yX:=λD Γ=>pa Γ D.rt
theorem zX (he:PE X e (tP pa)):PS X (.Return (some e) pos) (yn (Z9 pa)):=yI (uR he) λD σ H ⟨Z0,H0,Z,Γ,Dp,E,h,nx,rt,bk,ct⟩=>
 ⟨Z,Γ,_,E.e,h,λd v H1 hd s1 hv=>rt d v H1 (E.same.trans s1) (hv.same (uu E.z0)) hd⟩
def pIf (t:wo) (p q:yX):yX:=λD Γ=>t Γ λc=>wc c (p D Γ) (q D Γ)
theorem yL {c:Expr} {a b:List Stmt} {t:wo} (hc:PT X c (xT t)) (ha:yc X a (yn p)) (hb:yc X b (yn q)):PS X (.If c a b pos) (yn (pIf t p q)):=yI (kR hc ha hb) λD σ H ⟨Z0,H0,Z,Γ,Dp,E,h,nx,rt,bk,ct⟩=>
 ⟨Z,Γ,_,E.e,h,λc H1 hd s1=>by
  have f:∀ {P:List Sl->Prop} {Q:St->Hp->Prop},(∀ Z' Γ' σ' H',yq Z0 H0 Z' Γ' σ' H'->zD (zL Z H) (zL Z' H')->P Γ'->Q σ' H')->∀ Z' Γ' σ' H',yq Z0 H0 Z' Γ' σ' H'->zD (zL Z H1) (zL Z' H')->P Γ'->Q σ' H':=λg Z2 Γ2 σ2 H2 E2 s2=>g Z2 Γ2 σ2 H2 E2 ((zz s1).trans s2)
  cases c with
  | true=>exact ⟨Z0,H0,Z,Γ,Dp,E.mv s1,hd.1 rfl,f nx,rt,f bk,f ct⟩
  | false=>exact ⟨Z0,H0,Z,Γ,Dp,E.mv s1,hd.2 rfl,f nx,rt,f bk,f ct⟩⟩
def zP8:yX:=λ_ _=>False
theorem JM:PS X st (yn zP8):=yI zMx λD σ H ⟨Z0,H0,Z,Γ,Dp,E,h,nx,rt,bk,ct⟩=>h
def JN (pi:yz) (js:List Nat) (po:D->Option (List D)) (pb:yX):yX:=λD Γ=>pi Γ λds=>∃ I:Nat->List Sl->Prop,I 0 Γ/\(∀ k d Γ',ds[k]? = some d->I k Γ'->ux (po d) λos=>pb ⟨I (k + 1),D.rt,D.nx,I (k + 1)⟩ (Xy Γ' js os))/\∀ Γ',I ds.length Γ'->D.nx Γ'
theorem wA {tg iter:Expr} {body:List Stmt} {pi:yz} {js:List Nat} {po:D->Option (List D)} (hp:PassesOwn (model X.prog X.w) X.A X.env X.xe) (hc:X.calm=true) (hi:PI X tg iter (uy pi)) (hg:PG X tg (tG js po)) (hb:yc X body (yn p))
  (hs:∀ x,foldedSetIterable iter X.env x=pure x:=by intro _; rfl):PS X (.For tg iter body [] pos) (yn (JN pi js po p)):=yI (KO hp hc hi hg hb hs) λD σ H ⟨Z0,H0,Z,Γ,Dp,E,h,nx,rt,bk,ct⟩=>
 ⟨Z,Γ,_,E.e,h,λds J H1 ⟨I,h0,hst,hd⟩ s1 wk=>by
  have g:∀ {Q:List Sl->Prop} {T:St->Hp->Prop} {Z1 H2},zD (zL Z H1) (zL Z1 H2)->(∀ Z' Γ' σ' H',yq Z0 H0 Z' Γ' σ' H'->zD (zL Z H) (zL Z' H')->Q Γ'->T σ' H')->∀ Z' Γ' σ' H',yq Z0 H0 Z' Γ' σ' H'->zD (zL Z1 H2) (zL Z' H')->Q Γ'->T σ' H':=λs k Z2 Γ2 σ2 H2 E2 s2=>k Z2 Γ2 σ2 H2 E2 ((zz s1).trans (s.trans s2))
  refine ⟨λi m σ' H'=>m + i=ds.length/\∃ Z' Γ',yq Z0 H0 Z' Γ' σ' H'/\zD (zL Z H1) (zL Z' H')/\I i Γ',⟨ds.length,rfl,Z,Γ,E.mv s1,zD.refl _,h0⟩,?_⟩
  rintro i m σ' H' ⟨hm,Z',Γ',E',s',hI⟩
  obtain ⟨w1,w2⟩:=wk i Z' H' s' E'.e.zd
  by_cases hi:i < ds.length
  ·refine .inr ⟨(w1 _ (List.getElem?_eq_getElem hi)).1,λσ' H'=>m - 1 + (i + 1)=ds.length/\∃ Z' Γ',yq Z0 H0 Z' Γ' σ' H'/\zD (zL Z H1) (zL Z' H')/\I (i + 1) Γ',λσ2 H2 k=>⟨m - 1,by omega,k⟩,λx H2 yl=>?_⟩
   obtain ⟨s2,dv⟩:=(w1 _ (List.getElem?_eq_getElem hi)).2 x H2 yl
   obtain ⟨os,ho,hb⟩:=Zu (hst i _ Γ' (List.getElem?_eq_getElem hi) hI)
   refine ⟨Z',_,os,dv,ho,λvs hvs=>?_⟩
   have s3:=s'.trans (zz s2)
   have again:∀ Z2 Γ2 σ2 H3,yq Z0 H0 Z2 Γ2 σ2 H3->zD (zL Z' H2) (zL Z2 H3)->I (i + 1) Γ2->m - 1 + (i + 1)=ds.length/\∃ Z' Γ',yq Z0 H0 Z' Γ' σ2 H3/\zD (zL Z H1) (zL Z' H3)/\I (i + 1) Γ':=λZ2 Γ2 σ2 H3 E3 k hI=>⟨by omega,Z2,Γ2,E3,s3.trans k,hI⟩
   exact ⟨Z0,H0,Z',_,_,(E'.mv s2).setN hvs,hb,again,rt,g s3 nx,again⟩
  ·have ei:i=ds.length:=by omega
   rw [ei] at hI
   exact .inl ⟨w2 ei,nx Z' Γ' σ' H' E' ((zz s1).trans s') (hd Γ' hI)⟩⟩
def uO:Sl->(List D->Prop)->Prop
 | .ow ds,R=>R ds
 | _,_=>False
theorem ua {s:Sl} {R:List D->Prop} (h:uO s R):∃ ds,s=.ow ds/\R ds:=by
 cases s with
 | ow ds=>exact ⟨ds,rfl,h⟩
 | _=>exact h.elim
def JO (i:Nat) (pa:yE):yX:=λD Γ=>uO (slot Γ i) λds=>pa Γ λd=>ds.length < 1000/\D.nx (yJ Γ i (.ow (ds++[d])))
theorem wR {i:Nat} {K:PySem.W.Frag} (D:xa) (σ:St) (H:Hp):yn (JO i pa) D σ H->KG (Kx K "list" qR (yt i) (gI (tP pa) v9)) D σ H:=λ⟨Z0,H0,Z,Γ,Dp,E,h,nx,rt,bk,ct⟩=>by
 obtain ⟨ds,hs,h⟩:=ua h
 obtain ⟨l,xs,hl,hz,el,hx⟩:=E.e.ow i ds hs
 refine ⟨.ref l,hl,.inl ⟨rfl,xs,zT.of el⟩,Z,Γ,_,E.e,h,λd v H1 hd s1 hv=>?_⟩
 have hx1:=yD (zz s1) hx
 exact ⟨l,xs,v,rfl,rfl,s1 _ _ el,qL (by rw [xC hx]; omega),nx Z _ _ _ ((E.mv s1).put hs hl hz (ur hv hx1)) ((zz s1).trans (X4 hz)) hd.2⟩
def ixL (ds:List D):D->(D->Prop)->Prop
 | .int i,R=>∃ d,ya ds i=some d/\R d
 | _,_=>False
def JP (i:Nat) (pb:yE):yE:=λΓ R=>uO (slot Γ i) λds=>pb Γ λk=>ixL ds k R
theorem YA (i:Nat) {x:Str} {b:Expr} {xp:Pos} (hb:PE X b (tP pb)) (hs:UW b) (hN:X.N[i]? = some x:=by rfl) (hv:qD X.env.scope x:=by first | exact Or.inl rfl | exact Or.inr (Or.inl rfl) | exact Or.inr (Or.inr rfl)) (hd:(x == ("__debug__" : Str))=false:=by decide)
  (hcd:(x == ("__classdict__" : Str))=false:=by decide):PE X (.Subscript (.Name x xp) b pos) (tP (JP i pb)):=yO (uU UZ (zZ i hN hv hd hcd) hb hs) λσ H Q ⟨Z,Γ,R,E,h,q⟩=>by
 obtain ⟨ds,hs,h⟩:=ua h
 obtain ⟨l,xs,hl,hz,el,hx⟩:=E.ow i ds hs
 refine ⟨.ref l,hl,Z,Γ,_,E,h,λk u H2 hk s2 hu=>?_⟩
 unfold ixL at hk
 split at hk
 ·cases hu
  obtain ⟨d,hd,hR⟩:=hk
  obtain ⟨v,hv,hh⟩:=Xw hx hd
  exact ⟨l,xs,_,v,rfl,rfl,zT.of (s2 _ _ el),hv,q _ _ H2 hR s2 (hh.same (zz s2))⟩
 ·exact hk.elim
def D.isInt:D->Bool
 | .int _=>true
 | .bool _=>true
 | _=>false
def D.isBool:D->Bool
 | .bool _=>true
 | _=>false
def D.isLst:D->Bool
 | .lst _=>true
 | .scr _=>true
 | _=>false
def D.isTup:D->Bool
 | .tup _=>true
 | _=>false
def D.isObj:D->Bool
 | .obj ..=>true
 | _=>false
def YB (c:String) (f:D->Bool):D->(D->Prop)->Prop:=λd R=>d.isObj=false/\R (.bool (f d))
theorem YC {K:PySem.W.Frag} {H:Hp} {v:V} {d:D} (h:DV H v d) (o:d.isObj=false):∃ t,yV K H v t/\PySem.W.kitOne K t (.type "int")=some d.isInt/\PySem.W.kitOne K t (.type "bool")=some d.isBool/\PySem.W.kitOne K t (.type "list")=some d.isLst/\PySem.W.kitOne K t (.type "tuple")=some d.isTup:=by
 cases h with
 | int i=>exact ⟨_,.int i,jr K .int,jt K .int,jv K .int,ju K .int⟩
 | bool b=>exact ⟨_,.bl b,jr K .bool,jt K .bool,jv K .bool,ju K .bool⟩
 | non=>exact ⟨_,.non,jr K .non,jt K .non,jv K .non,ju K .non⟩
 | str x=>exact ⟨_,.str x,jr K .str,jt K .str,jv K .str,ju K .str⟩
 | scr e=>
  rcases e with e | ⟨o,e⟩
  ·exact ⟨_,.lst e,jr K .lst,jt K .lst,jv K .lst,ju K .lst⟩
  ·exact ⟨_,.frz e,jr K .lst,jt K .lst,jv K .lst,ju K .lst⟩
 | lst e _=>exact ⟨_,.lst e,jr K .lst,jt K .lst,jv K .lst,ju K .lst⟩
 | tup e _=>exact ⟨_,.tup e,jr K .tup,jt K .tup,jv K .tup,ju K .tup⟩
 | obj e _ _=>cases o
theorem wf {K:PySem.W.Frag} {c:String} {f:D->Bool} (hf:∀ H v d,DV H v d->d.isObj=false->∃ t,yV K H v t/\PySem.W.kitOne K t (.type c)=some (f d)) (σ:St) (H:Hp) (Q:VK):tP (Zc (YB c f) pa) σ H Q->km (K7 K) (gI (tP pa) (gI (tC (.ty c)) v9)) σ H Q:=λ⟨Z,Γ,R,E,h,q⟩=>
 ⟨Z,Γ,_,E,h,λd v H1 hd s1 hv=>by
  obtain ⟨t,h1,h2⟩:=hf H1 v d (hv.same zm) hd.1
  exact ⟨v,c,t,_,rfl,h1,h2,q _ _ H1 hd.2 s1 (.bool _)⟩⟩
theorem zOA {K:PySem.W.Frag} (H:Hp) (v:V) (d:D) (h:DV H v d) (o:d.isObj=false):∃ t,yV K H v t/\PySem.W.kitOne K t (.type "int")=some d.isInt:=let ⟨t,h1,h2,_⟩:=YC h o; ⟨t,h1,h2⟩
theorem JQ {K:PySem.W.Frag} (H:Hp) (v:V) (d:D) (h:DV H v d) (o:d.isObj=false):∃ t,yV K H v t/\PySem.W.kitOne K t (.type "bool")=some d.isBool:=let ⟨t,h1,_,h2,_⟩:=YC h o; ⟨t,h1,h2⟩
theorem jO {K:PySem.W.Frag} (H:Hp) (v:V) (d:D) (h:DV H v d) (o:d.isObj=false):∃ t,yV K H v t/\PySem.W.kitOne K t (.type "list")=some d.isLst:=let ⟨t,h1,_,_,h2,_⟩:=YC h o; ⟨t,h1,h2⟩
theorem YD {K:PySem.W.Frag} (H:Hp) (v:V) (d:D) (h:DV H v d) (o:d.isObj=false):∃ t,yV K H v t/\PySem.W.kitOne K t (.type "tuple")=some d.isTup:=let ⟨t,h1,_,_,_,h2⟩:=YC h o; ⟨t,h1,h2⟩
end
inductive zH (F:FL) (vs:List V) (H:Hp) (Q:VK) (E:XK):Prop
 | mk (Z:Addr->Prop) (ds:List D) (R:D->Prop) (zd:ZL Z H) (hv:yG (zL Z H) vs ds) (h:F ds R) (q:∀ d v H',R d->zD H H'->DV (zL Z H') v d->Q v H'):zH F vs H Q E
section
variable {P:Program} {w:World} {K:PySem.W.Frag} {mg:Str->Option Value} {base:Heap}
theorem vD (n i:Nat):slot (List.replicate n .no) i=.no:=by
 rw [zI1]
 cases h:(List.replicate n Sl.no)[i]? with
 | none=>rfl
 | some x=>exact List.eq_of_mem_replicate (List.mem_of_getElem? h)
theorem X5 {Z:Addr->Prop} {H:Hp} {vs:List V} {ds:List D} (zd:ZL Z H) (h:yG (zL Z H) vs ds) (n:Nat):yj Z (ds.map Sl.sh++List.replicate n .no) (vs.map some++List.replicate n none) H:=by
 have no:∀ i as,slot (ds.map Sl.sh++List.replicate n .no) i≠.ow as:=ga λi as h=>by rw [vD] at h; cases h
 have nob:∀ i o c ns as,slot (ds.map Sl.sh++List.replicate n .no) i≠.ob o c ns as:=gZ λi o c ns as h=>by rw [vD] at h; cases h
 refine ⟨?_,λi as e=>absurd e (no i as),λi o c ns as e=>absurd e (nob i o c ns as),λi _ as _ _ e=>absurd e (no i as),zd,?_⟩
 clear nob
 ·induction h with
  | nil=>
   intro i d e
   change slot (List.replicate n .no) i=_ at e
   rw [vD] at e
   cases e
  | @cons v d vs ds hv _ ih=>
   intro i e q
   cases i with
   | zero=>cases q; exact ⟨v,rfl,hv⟩
   | succ i=>
    obtain ⟨u,h1,h2⟩:=ih (λi=>no (i + 1)) i e q
    exact ⟨u,by rw [List.map_cons,List.cons_append,List.getElem?_cons_succ]; exact h1,h2⟩
 ·rw [List.length_append,List.length_append,List.length_map,List.length_map,List.length_replicate,List.length_replicate,xC h]
theorem zJB {N ps:List Str} {F:FL} {p:yX} (len:∀ ds R,F ds R->ds.length=ps.length) (h2:∀ ds R,F ds R->p { nx:=λ_=>R .non,rt:=R } (ds.map Sl.sh++List.replicate (N.length - ps.length) .no)) {H:Hp} {vs:List V} {Q:VK} {E:XK} (h:zH F vs H Q E):yn p { nx:=λ_ H'=>Q .non H',rt:=Q } (L2.xl N vs) H:=by
 obtain ⟨Z,ds,R,zd,hv,h,q⟩:=h
 have e:L2.xl N vs=vs.map some++List.replicate (N.length - ps.length) none:=by
  unfold L2.xl
  rw [xC hv,len ds R h]
 refine ⟨Z,H,Z,_,_,⟨?_,λ_ h=>h,zd,zD.refl _,?_,?_⟩,h2 ds R h,λZ' Γ' σ' H' E' _ hn=>q .non .non H' hn E'.same .non,λd v H' s' hv' hd=>q d v H' hd s' hv',λ_ _ _ _ _ _ h=>h.elim,λ_ _ _ _ _ _ h=>h.elim⟩
 ·rw [e]
  exact X5 zd hv _
 ·exact λi as l e=>absurd e (ga (λi as h=>by rw [vD] at h; cases h) i as)
 ·exact λi o c ns as e=>absurd e (gZ (λi o c ns as h=>by rw [vD] at h; cases h) i o c ns as)
theorem zKX {ps:List Str} {F:FL} (len:∀ ds R,F ds R->ds.length=ps.length) (vs:List V) (H:Hp) (Q:VK) (E:XK):zH F vs H Q E->vs.length=ps.length:=λ⟨Z,ds,R,zd,hv,h,q⟩=>by rw [xC hv]; exact len ds R h
theorem yC {x qual:Str} {st:Stmt} {f:Addr} {fd:FuncData} {N ps:List Str} {k:Nat} {F:FL} (Fu:zg K x qual st f fd) (S:ze N ps (zK st)) (len:∀ ds R,F ds R->ds.length=ps.length)
  (hbody:∀ (cdv:Value) (A:Around) (outer:List Env) (s:Shared) (H:Hp) (E:XK),zc k (A.deeper (envOfC qual (zK st) s.heap.objs.size f cdv))->
   ∃ p,yc (xN zW P w K mg base N qual (zK st) f cdv A outer s H E).nox (xR st) (yn p)/\∀ ds R,F ds R->p { nx:=λ_=>R .non,rt:=R } (ds.map Sl.sh++List.replicate (N.length - ps.length) .no)):zF P w K mg base zW (k + 1) f fd ps (zH F):=
 Fu.ok S (zKX len) λcdv A outer s H vs Q E hr h=>let ⟨p,h1,h2⟩:=hbody cdv A outer s H E hr; ⟨_,h1,zJB len h2 h⟩
theorem JR {x qual:Str} {st:Stmt} {f:Addr} {fd:FuncData} {dv:Value} {N ps:List Str} {k:Nat} {F:FL} (Fu:xO K x qual st f fd dv) (S:ze N ps (zK st)) (len:∀ ds R,F ds R->ds.length=ps.length)
  (hbody:∀ (cdv:Value) (A:Around) (outer:List Env) (s:Shared) (H:Hp) (E:XK),zc k (A.deeper (envOfC qual (zK st) s.heap.objs.size f cdv))->
   ∃ p,yc (xN zW P w K mg base N qual (zK st) f cdv A outer s H E).nox (xR st) (yn p)/\∀ ds R,F ds R->p { nx:=λ_=>R .non,rt:=R } (ds.map Sl.sh++List.replicate (N.length - ps.length) .no)):zF P w K mg base zW (k + 1) f fd ps (zH F):=
 Fu.ok S (zKX len) λcdv A outer s H vs Q E hr h=>let ⟨p,h1,h2⟩:=hbody cdv A outer s H E hr; ⟨_,h1,zJB len h2 h⟩
theorem zU {X:Cx} {x:Str} {ps:List Str} {k:Nat} {F:FL} {e:Expr} {es:List Expr} {pl:yz} {p pos:Pos} (c:Fn X.prog X.w X.K X.mg X.base x ps k (zH F)) (hr:zc k X.A) (hg:Gl X x) (ha:PA X (e :: es) (xo pl))
  (hdb:(x == ("__debug__" : Str))=false:=by decide) (he:starEach (e :: es) X.env=(false,eval e X.env) :: starEach es X.env:=by rfl) (hpl:(backTo pos (starEach es X.env)).any (·.1)=false:=by rfl) :
  PE X (.Call (.Name x p) (e :: es) [] pos) (tP (jM F pl)):=yO (uJ c hr hg ha hdb he hpl) λσ H Q ⟨Z,Γ,R,E,h,q⟩=>
 ⟨Z,Γ,_,E,h,λds vs H1 hd s1 hv=>⟨Z,ds,R,(E.same s1).zd,by rw [List.append_nil]; exact hv,hd,λd v H2 h2 s2 hv2=>q d v H2 h2 (s1.trans s2) hv2⟩⟩
end
end Pu
namespace Pu
open PySem L2 Sh
open PyProof.Rows (envOfC)
theorem JS {f:Str} {y:V}:∀ {ns:List Str} {xs:List V},ns.length=xs.length->f∉ns->yZ f y (ns.zip xs)=(ns++[f]).zip (xs++[y])
 | [],[],_,_=>rfl
 | [],_ :: _,h,_=>nomatch h
 | _ :: _,[],h,_=>nomatch h
 | n :: ns,x :: xs,h,hf=>by
  show (if n=f then (n,y) :: ns.zip xs else (n,x) :: yZ f y (ns.zip xs))=_
  rw [if_neg (λz=>hf (by rw [z]; exact List.mem_cons_self)),JS (Nat.succ.inj h) (λz=>hf (List.mem_cons_of_mem _ z))]
  rfl
theorem yq.putO {Z0:Addr->Prop} {H0:Hp} {Z:Addr->Prop} {Γ:List Sl} {σ:St} {H:Hp} (E:yq Z0 H0 Z Γ σ H) {i:Nat} {o c dx:Addr} {ns ns':List Str} {ds ds':List D} {xs:List V} (hs:slot Γ i=.ob o c ns ds) (he:∃ fs,H o=some (.ins c dx fs)) (hl:ns'.length=xs.length) (hx:yG (zL Z H) xs ds') (one:∀ j o' c' ns' ds',slot Γ j=.ob o' c' ns' ds'->j=i):yq Z0 H0 Z (yJ Γ i (.ob o c ns' ds')) σ (zY H o (.ins c dx (ns'.zip xs))):=by
 obtain ⟨dx0,xs0,hl0,hz,el,_⟩:=E.e.ob i o c ns ds hs
 have li:=uY (Γ:=Γ) (i:=i) (by rw [hs]; exact λz=>nomatch z)
 have hp:zD (zL Z H) (zL Z (zY H o (.ins c dx (ns'.zip xs)))):=X4 hz
 have keyw:∀ j d,slot (yJ Γ i (.ob o c ns' ds')) j=.ow d->slot Γ j=.ow d:=λj d q=>by
  rw [xn] at q
  by_cases c:j=i/\i < Γ.length
  ·rw [if_pos c] at q; cases q
  ·rw [if_neg c] at q; exact q
 refine ⟨⟨λj d q=>?_,λj d q=>?_,λj o' c' ns1 d q=>?_,λj k as bs m q r=>E.e.ne j k as bs m (keyw j as q) (keyw k bs r),λb hb=>?_,by rw [gS]; exact E.e.len⟩,E.z0,E.z0d,?_,λj d m q=>E.own j d m (keyw j d q),λj o' c' ns1 d q=>?_⟩
 ·rw [xn] at q
  by_cases c:j=i/\i < Γ.length
  ·rw [if_pos c] at q; cases q
  ·rw [if_neg c] at q
   obtain ⟨v,h1,h2⟩:=E.e.sh j d q
   exact ⟨v,h1,h2.same hp⟩
 ·obtain ⟨m,ys,h1,h2,h3,h4⟩:=E.e.ow j d (keyw j d q)
  have nm:m≠o:=λz=>by rw [z,el] at h3; cases h3
  exact ⟨m,ys,h1,h2,by rw [zu nm]; exact h3,yD hp h4⟩
 ·rw [xn] at q
  by_cases c:j=i/\i < Γ.length
  ·rw [if_pos c] at q
   cases q
   rw [c.1]
   exact ⟨dx,xs,hl0,hz,xF,hl,yD hp hx⟩
  ·rw [if_neg c] at q
   exact absurd ⟨one _ _ _ _ _ q,li⟩ c
 ·obtain ⟨u,e,n⟩:=E.e.zd b hb
  by_cases c:b=o
  ·rw [c]; exact ⟨_,xF,λ_ z=>nomatch z⟩
  ·exact ⟨u,by rw [zu c]; exact e,n⟩
 ·exact λb u e=>by
   rw [zu (xG e (E.owb i o c ns ds hs))]
   exact E.same _ _ e
 ·rw [xn] at q
  by_cases c:j=i/\i < Γ.length
  ·rw [if_pos c] at q
   cases q
   exact E.owb i o _ ns ds hs
  ·rw [if_neg c] at q
   exact E.owb j o' c' ns1 d q
def YE:Sl->(Addr->Addr->List Str->List D->Prop)->Prop
 | .ob o c ns ds,R=>R o c ns ds
 | _,_=>False
theorem zLT {s:Sl} {R:Addr->Addr->List Str->List D->Prop} (h:YE s R):∃ o c ns ds,s=.ob o c ns ds/\R o c ns ds:=by
 cases s with
 | ob o c ns ds=>exact ⟨o,c,ns,ds,rfl,h⟩
 | _=>exact h.elim
def qf:List Sl->Bool
 | []=>true
 | .ob _ _ _ _ :: _=>false
 | _ :: t=>qf t
theorem X6:∀ {Γ:List Sl},qf Γ=true->∀ j o c ns ds,slot Γ j≠.ob o c ns ds
 | [],_,_,_,_,_,_,h=>nomatch h
 | .no :: _,_,0,_,_,_,_,h=>nomatch h
 | .sh _ :: _,_,0,_,_,_,_,h=>nomatch h
 | .ow _ :: _,_,0,_,_,_,_,h=>nomatch h
 | .ob .. :: _,g,_,_,_,_,_,_=>nomatch g
 | .no :: t,g,j + 1,o,c,ns,ds,h=>X6 (Γ:=t) g j o c ns ds h
 | .sh _ :: t,g,j + 1,o,c,ns,ds,h=>X6 (Γ:=t) g j o c ns ds h
 | .ow _ :: t,g,j + 1,o,c,ns,ds,h=>X6 (Γ:=t) g j o c ns ds h
def zQ5 (K:PySem.W.Frag) (c:Addr) (f:Str):Prop:=uT K c/\yx K c f
def JT (K:PySem.W.Frag) (f:Str) (pa:yE):yX:=λT Γ=>pa Γ λd=>YE (slot Γ 0) λo c ns ds=>zQ5 K c f/\f∉ns/\ns.length < 900/\qf (Γ.drop 1)=true/\T.nx (yJ Γ 0 (.ob o c (ns++[f]) (ds++[d])))
section
variable {X:Cx} {e:Expr} {es:List Expr} {pos:Pos} {pa:yE} {pl:yz} {C:Addr}
theorem vY {K:PySem.W.Frag} {f:Str} (D:xa) (σ:St) (H:Hp):yn (JT K f pa) D σ H->kh K (yt 0) (tP pa) f D σ H:=λ⟨Z0,H0,Z,Γ,Dp,E,h,nx,rt,bk,ct⟩=>
 ⟨Z,Γ,_,E.e,h,λd v H1 hd s1 hv=>by
  obtain ⟨o,c,ns,ds,hs,hk,hf,hn,hn2,hd⟩:=zLT hd
  obtain ⟨dx,xs,hl,hz,el,ln,hx⟩:=(E.mv s1).e.ob 0 o c ns ds hs
  refine ⟨.ref o,hl,o,c,dx,_,rfl,el,hk.1,hk.2,by rw [List.length_zip]; omega,?_⟩
  rw [JS ln hf]
  refine nx Z _ _ _ ((E.mv s1).putO hs ⟨_,el⟩ (by rw [List.length_append,List.length_append,ln]; rfl) (ur hv hx) ?_) ((zz s1).trans (X4 hz)) hd
  intro j o' c' ns' ds' q
  cases j with
  | zero=>rfl
  | succ j=>
   cases Γ with
   | nil=>cases q
   | cons x t=>exact absurd q (X6 (Γ:=t) hn2 j o' c' ns' ds')⟩
inductive vE (C:Addr) (F:FL) (vs:List V) (H:Hp) (Q:VK) (E:XK):Prop
 | mk (Z:Addr->Prop) (ds:List D) (R:D->Prop) (o dx:Addr) (us:List V) (e:vs=.ref o :: us) (ho:H o=some (.ins C dx [])) (hz:¬ Z o) (zd:ZL Z H) (hv:yG (zL (λb=>Z b\/b=o) H) us ds) (h:F ds R) (q:∀ d H',R d->zQ2 o H H'->DV (zL Z H') (.ref o) d->Q .non H'):vE C F vs H Q E
theorem zJC {N ps:List Str} {F:FL} {p:yX} (len:∀ ds R,F ds R->ds.length=ps.length) (h2:∀ o ds R,F ds R->p { nx:=λΓ=>YE (slot Γ 0) λo' c ns es=>o'=o/\R (.obj c ns es),rt:=λ_=>False } (.ob o C [] [] :: (ds.map Sl.sh++List.replicate (N.length - (ps.length + 1)) .no))) {H:Hp} {vs:List V} {Q:VK} {E:XK} (h:vE C F vs H Q E):yn p { nx:=λ_ H'=>Q .non H',rt:=Q } (L2.xl N vs) H:=by
 obtain ⟨Z,ds,R,o,dx,us,e,ho,hz,zd,hv,h,q⟩:=h
 subst e
 have e:L2.xl N (.ref o :: us)=some (.ref o) :: (us.map some++List.replicate (N.length - (ps.length + 1)) none):=by
  unfold L2.xl
  rw [List.length_cons,xC hv,len ds R h]
  rfl
 have zd':ZL (λb=>Z b\/b=o) H:=λb hb=>hb.elim (zd b) λz=>by rw [z]; exact ⟨_,ho,λ_ z=>nomatch z⟩
 have E0:=X5 zd' hv (N.length - (ps.length + 1))
 refine ⟨Z,zL (λb=>b=o) H,λb=>Z b\/b=o,_,_,⟨?_,λ_ h=>.inl h,λb hb=>?_,zm,?_,?_⟩,h2 o ds R h,λZ' Γ' σ' H' E' _ hn=>?_,λ_ _ _ _ _ h=>h.elim,λ_ _ _ _ _ _ h=>h.elim,λ_ _ _ _ _ _ h=>h.elim⟩
 ·rw [e]
  refine ⟨λi d q=>?_,λi d q=>?_,λi o' c ns d q=>?_,λi j as bs l q r=>?_,zd',by rw [List.length_cons,List.length_cons,E0.len]⟩
  ·cases i with
   | zero=>cases q
   | succ i=>exact E0.sh i d q
  ·cases i with
   | zero=>cases q
   | succ i=>exact E0.ow i d q
  ·cases i with
   | zero=>cases q; exact ⟨dx,[],rfl,.inr rfl,ho,rfl,.nil⟩
   | succ i=>exact E0.ob i o' c ns d q
  ·cases i with
   | zero=>cases q
   | succ i=>
    cases j with
    | zero=>cases r
    | succ j=>exact λa b=>congrArg _ (E0.ne i j as bs l q r a b)
 ·obtain ⟨u,e1,n⟩:=zd b hb
  exact ⟨u,(xV (Z:=λb=>b=o) λz=>hz (by rw [<- z]; exact hb)).trans e1,n⟩
 ·intro i as l q
  cases i with
  | zero=>cases q
  | succ i=>exact absurd q (ga (λi as h=>by rw [vD] at h; cases h) i as)
 ·intro i o' c ns as q
  cases i with
  | zero=>cases q; exact if_pos rfl
  | succ i=>exact absurd q (gZ (λi o c ns as h=>by rw [vD] at h; cases h) i o' c ns as)
 ·obtain ⟨o',c,ns,es,hs,e2,hR⟩:=zLT hn
  subst e2
  obtain ⟨dx',xs,hl,hz',el,ln,hx⟩:=E'.e.ob 0 o' c ns es hs
  refine q _ H' hR (λb u eb nb=>E'.same _ _ ((xV (Z:=λb=>b=o') nb).trans eb)) (.obj ((xV hz).trans el) ln (yD (uu E'.z0) hx))
theorem zKY {ps:List Str} {p0:Str} {F:FL} (len:∀ ds R,F ds R->ds.length=ps.length) (vs:List V) (H:Hp) (Q:VK) (E:XK):vE C F vs H Q E->vs.length=(p0 :: ps).length:=λ⟨Z,ds,R,o,dx,us,e,ho,hz,zd,hv,h,q⟩=>by rw [e,List.length_cons,List.length_cons,xC hv,len ds R h]
theorem JU {P:Program} {w:World} {K:PySem.W.Frag} {mg:Str->Option Value} {base:Heap} {x qual:Str} {st:Stmt} {f:Addr} {fd:FuncData} {N ps:List Str} {p0:Str} {k:Nat} {F:FL} (Fu:zg K x qual st f fd) (S:ze N (p0 :: ps) (zK st)) (len:∀ ds R,F ds R->ds.length=ps.length)
  (hbody:∀ (cdv:Value) (A:Around) (outer:List Env) (s:Shared) (H:Hp) (E:XK),zc k (A.deeper (envOfC qual (zK st) s.heap.objs.size f cdv))->
   ∃ p,yc (xN zW P w K mg base N qual (zK st) f cdv A outer s H E).nox (xR st) (yn p)/\∀ o ds R,F ds R->p { nx:=λΓ=>YE (slot Γ 0) λo' c ns es=>o'=o/\R (.obj c ns es),rt:=λ_=>False } (.ob o C [] [] :: (ds.map Sl.sh++List.replicate (N.length - (ps.length + 1)) .no))):zF P w K mg base zW (k + 1) f fd (p0 :: ps) (vE C F):=
 Fu.ok S (zKY len) λcdv A outer s H vs Q E hr h=>let ⟨p,h1,h2⟩:=hbody cdv A outer s H E hr; ⟨_,h1,zJC len h2 h⟩
theorem JV {P:Program} {w:World} {K:PySem.W.Frag} {mg:Str->Option Value} {base:Heap} {x qual:Str} {st:Stmt} {f:Addr} {fd:FuncData} {dv:Value} {N ps:List Str} {p0:Str} {k:Nat} {F:FL} (Fu:xO K x qual st f fd dv) (S:ze N (p0 :: ps) (zK st)) (len:∀ ds R,F ds R->ds.length=ps.length)
  (hbody:∀ (cdv:Value) (A:Around) (outer:List Env) (s:Shared) (H:Hp) (E:XK),zc k (A.deeper (envOfC qual (zK st) s.heap.objs.size f cdv))->
   ∃ p,yc (xN zW P w K mg base N qual (zK st) f cdv A outer s H E).nox (xR st) (yn p)/\∀ o ds R,F ds R->p { nx:=λΓ=>YE (slot Γ 0) λo' c ns es=>o'=o/\R (.obj c ns es),rt:=λ_=>False } (.ob o C [] [] :: (ds.map Sl.sh++List.replicate (N.length - (ps.length + 1)) .no))):zF P w K mg base zW (k + 1) f fd (p0 :: ps) (vE C F):=
 Fu.ok S (zKY len) λcdv A outer s H vs Q E hr h=>let ⟨p,h1,h2⟩:=hbody cdv A outer s H E hr; ⟨_,h1,zJC len h2 h⟩
theorem zIv {F:FL} {ev:List V} {ed:List D} (he:∀ H,yG H ev ed) (σ:St) (H:Hp) (Q:VK):tP (jM (λds=>F (ds++ed)) pl) σ H Q->kj C (vE C F) ev E0 (xo pl) σ H Q:=λ⟨Z,Γ,R,E,h,q⟩=>
 ⟨Z,Γ,_,E,h,λds vs H1 hd s1 hv x dx hx hdx ne=>by
  have zd:=(E.same s1).zd
  have s2:zD H1 (zY (zY H1 dx (.own x)) x (.ins C dx [])):=zKj hx hdx ne _ _
  refine ⟨Z,ds++ed,R,x,dx,vs++ev,rfl,xF,zd.new hx,zd.same s2,?_,hd,λd H' hR sb dv=>⟨rfl,q d _ H' hR (zMn (s1.trans s2) sb ?_) dv⟩⟩
  ·refine qP (yD ?_ hv) (he _)
   intro b o e
   obtain ⟨n1,n2⟩:=uD e
   rw [xV (λz=>z.elim n1 (xG n2 hx))]
   exact s2 _ _ n2
  ·cases k:H x with
   | none=>rfl
   | some o=>rw [s1 _ _ k] at hx; cases hx⟩
theorem zOR {F:FL} (σ:St) (H:Hp) (Q:VK) (h:tP (jM F pl) σ H Q):kj C (vE C F) [] E0 (xo pl) σ H Q:=zIv (ed:=[]) (λ_=>.nil) σ H Q (by rw [show (λds=>F (ds++[]))=F from funext λds=>by rw [List.append_nil]]; exact h)
theorem X7 {x:Str} {ps:List Str} {k:Nat} {F:FL} {p:Pos} (c:uX X.prog X.w X.K X.mg X.base C ps k (vE C F)) (T:yi X.K X.mg x C) (hr:zc (k + 1) X.A) (hg:Gl X x) (ha:PA X (e :: es) (xo pl))
  (hdb:(x == ("__debug__" : Str))=false:=by decide) (he:starEach (e :: es) X.env=(false,eval e X.env) :: starEach es X.env:=by rfl) (hpl:(backTo pos (starEach es X.env)).any (·.1)=false:=by rfl) :
  PE X (.Call (.Name x p) (e :: es) [] pos) (tP (jM F pl)):=yO (zI8 c T hr hg ha hdb he hpl) zOR
theorem zMu {x:Str} {ps:List Str} {k:Nat} {F:FL} {p:Pos} {dv:V} (dd:D) (hd:∀ H,DV H dv dd) (c:wZ X.prog X.w X.K X.mg X.base C ps k (vE C F) dv) (T:yi X.K X.mg x C) (hr:zc (k + 1) X.A) (hg:Gl X x) (ha:PA X (e :: es) (xo pl))
  (hdb:(x == ("__debug__" : Str))=false:=by decide) (he:starEach (e :: es) X.env=(false,eval e X.env) :: starEach es X.env:=by rfl) (hpl:(backTo pos (starEach es X.env)).any (·.1)=false:=by rfl) :
  PE X (.Call (.Name x p) (e :: es) [] pos) (tP (jM (λds=>F (ds++[dd])) pl)):=yO (zK6 c T hr hg ha hdb he hpl) (zIv λH=>.cons (hd H) .nil)
theorem jP {x:Str} {ps:List Str} {k:Nat} {F:FL} {p:Pos} {dv:V} (dd:D) (hd:∀ H,DV H dv dd) (c:vK X.prog X.w X.K X.mg X.base x ps k (zH F) dv) (hr:zc k X.A) (hg:Gl X x) (ha:PA X (e :: es) (xo pl))
  (hdb:(x == ("__debug__" : Str))=false:=by decide) (he:starEach (e :: es) X.env=(false,eval e X.env) :: starEach es X.env:=by rfl) (hpl:(backTo pos (starEach es X.env)).any (·.1)=false:=by rfl) :
  PE X (.Call (.Name x p) (e :: es) [] pos) (tP (jM (λds=>F (ds++[dd])) pl)):=yO (ZA c hr hg ha hdb he hpl) λσ H Q ⟨Z,Γ,R,E,h,q⟩=>
 ⟨Z,Γ,_,E,h,λds vs H1 hd' s1 hv=>⟨Z,ds++[dd],R,(E.same s1).zd,qP hv (.cons (hd _) .nil),hd',λd v H2 h2 s2 hv2=>q d v H2 h2 (s1.trans s2) hv2⟩⟩
def YF (K:PySem.W.Frag) (f:Str):D->(D->Prop)->Prop
 | .obj c ns ds,R=>zQ5 K c f/\∃ d,(ns.zip ds).lookup f=some d/\R d
 | _,_=>False
theorem zHu {H:Hp} {f:Str} {d:D}:∀ {ns:List Str} {xs:List V} {ds:List D},ns.length=xs.length->yG H xs ds->(ns.zip ds).lookup f=some d->∃ v,(ns.zip xs).lookup f=some v/\DV H v d
 | [],_,_,_,_,h=>nomatch h
 | _ :: _,[],_,h,_,_=>nomatch h
 | n :: ns,x :: xs,_,h,.cons (b:=d') (l₂:=dt) k t,q=>by
  change (match f == n with | true=>some d' | false=>(ns.zip dt).lookup f)=some d at q
  show ∃ v,(match f == n with | true=>some x | false=>(ns.zip xs).lookup f)=some v/\_
  cases e:f == n with
  | true=>rw [e] at q; cases q; exact ⟨x,rfl,k⟩
  | false=>rw [e] at q; exact zHu (Nat.succ.inj h) t q
theorem yW (K:PySem.W.Frag) {f:Str} (ha:PE X e (tP pa)) (hb:attributeBase e f X.env (eval e X.env)=eval e X.env) (hK:X.K=K:=by rfl):PE X (.Attribute e f pos) (tP (Zc (YF K f) pa)):=yO (zP4 ha hb) λσ H Q ⟨Z,Γ,R,E,h,q⟩=>
 ⟨Z,Γ,_,E,h,λd v H1 hd s1 hv=>by
  unfold YF at hd
  split at hd
  ·obtain ⟨hk,d',hl,hR⟩:=hd
   cases hv with
   | obj e1 l1 h1=>
    obtain ⟨v,e2,dv⟩:=zHu l1 h1 hl
    exact ⟨_,_,_,_,v,rfl,zm _ _ e1,by rw [hK]; exact hk.1,by rw [hK]; exact hk.2,e2,q _ _ H1 hR s1 dv⟩
  ·exact hd.elim⟩
def zQO (C:Addr) (m:Str) (F:FL):D->(D->Prop)->Prop
 | .obj c ns ds,R=>c=C/\m∉ns/\F [.obj c ns ds] R
 | _,_=>False
theorem Xe {f:Str}:∀ {ns:List Str} {xs:List V},f∉ns->(ns.zip xs).lookup f=none
 | [],_,_=>rfl
 | _ :: _,[],_=>rfl
 | n :: ns,x :: xs,h=>by
  show (match f == n with | true=>some x | false=>(ns.zip xs).lookup f)=none
  have e:(f == n)=false:=beq_eq_false_iff_ne.mpr λz=>h (by rw [z]; exact List.mem_cons_self)
  rw [e]
  exact Xe λz=>h (List.mem_cons_of_mem _ z)
theorem X8 {x m:Str} {ps:List Str} {k:Nat} {F:FL} {apos:Pos} {pl:Sem Bool} (c:ut X.prog X.w X.K X.mg X.base C m ps k (zH F)) (T:yi X.K X.mg x C) (hr:zc k X.A) (ha:PE X e (tP pa))
  (ht:eval (.Call (.Attribute e m apos) [] [] pos) X.env=(do
   let ov <- eval e X.env
   standAt apos.atName
   let (f,first) <- holding [ov] (getMethod ov m pl)
   callWith pos f first (backTo pos (starEach [] X.env)) (backToKw pos (keywordEach [] X.env))):=by rfl) :
  PE X (.Call (.Attribute e m apos) [] [] pos) (tP (Zc (zQO C m F) pa)):=yO (zK5 c T hr ha ht) λσ H Q ⟨Z,Γ,R,E,h,q⟩=>
 ⟨Z,Γ,_,E,h,λd v H1 hd s1 hv=>by
  unfold zQO at hd
  split at hd
  ·obtain ⟨rfl,hm,hR⟩:=hd
   have hv0:=hv
   cases hv with
   | obj e1 l1 h1=>exact ⟨_,_,_,rfl,zm _ _ e1,Xe hm,Z,_,R,(E.same s1).zd,.cons hv0 .nil,hR,λd v H2 h2 s2 hv2=>q d v H2 h2 (s1.trans s2) hv2⟩
  ·exact hd.elim⟩
def zQZ (K:PySem.W.Frag) (C:Addr):D->(D->Prop)->Prop
 | .obj c _ _,R=>(∃ mg x,yi K mg x c)/\∃ b,PySem.W.kitOne K (.ref c) (.ref C)=some b/\R (.bool b)
 | _,_=>False
theorem YG {K:PySem.W.Frag} (σ:St) (H:Hp) (Q:VK):tP (Zc (zQZ K C) pa) σ H Q->km (zNv K) (gI (tP pa) (gI (tC (.ref C)) v9)) σ H Q:=λ⟨Z,Γ,R,E,h,q⟩=>
 ⟨Z,Γ,_,E,h,λd v H1 hd s1 hv=>by
  unfold zQZ at hd
  split at hd
  ·obtain ⟨⟨mg,x,T⟩,b,hk,hR⟩:=hd
   cases hv with
   | obj e1 l1 h1=>exact ⟨_,_,_,b,rfl,T.ty (zm _ _ e1),hk,q _ _ H1 hR s1 (.bool _)⟩
  ·exact hd.elim⟩
def YH (pa:yE):yX:=λT Γ=>pa Γ λ_=>T.nx Γ
theorem zMs (he:PE X e (tP pa)) (hs:swapsWith e none pos.line X.env=pure false:=by rfl):PS X (.Expr e pos) (yn (YH pa)):=yI (xy he hs) λD σ H ⟨Z0,H0,Z,Γ,Dp,E,h,nx,rt,bk,ct⟩=>
 ⟨Z,Γ,_,E.e,h,λd v H1 hd s1 hv=>nx Z Γ σ H1 (E.mv s1) (zz s1) hd⟩
end
end Pu
namespace Pu
open PySem L2 Sh
def j4 (k:Nat):List D->List D
 | []=>[]
 | d :: t=>xh (.int (k:Int)) d :: j4 (k + 1) t
theorem JW:∀ (k:Nat) (ds:List D),(j4 k ds).length=ds.length
 | _,[]=>rfl
 | k,_ :: t=>congrArg (· + 1) (JW (k + 1) t)
theorem JX:∀ {k:Nat} {ds:List D} {i:Nat} {e:D},(j4 k ds)[i]? = some e->∃ d,ds[i]? = some d/\e=xh (.int ((k + i:Nat):Int)) d
 | _,[],_,_,h=>by simp [j4] at h
 | k,d :: t,0,e,h=>⟨d,rfl,by simp [j4] at h; exact h.symm⟩
 | k,d :: t,i + 1,e,h=>by
  obtain ⟨d',h1,h2⟩:=JX (k:=k + 1) (ds:=t) (i:=i) (e:=e) (by simpa [j4] using h)
  exact ⟨d',by simpa using h1,by rw [h2,show k + 1 + i=k + (i + 1) by omega]⟩
theorem zMb {K:PySem.W.Frag} {Z:Addr->Prop} {H:Hp} {p:Addr} {k:Nat} {xs:List V} {ds:List D} (e:zL Z H p=some (.lst xs)) (h:yG (zL Z H) xs ds):Wk Z (qQ K p k) H (j4 k ds):=λi Z' H' s zd=>by
 have e1:=zm _ _ (s _ _ e)
 refine ⟨λd hd=>?_,λhi=>⟨xs,zT.of e1,by rw [JW] at hi; rw [xC h]; omega⟩⟩
 obtain ⟨d',hd',rfl⟩:=JX hd
 obtain ⟨x,hx,hh⟩:=jz h hd'
 refine ⟨⟨xs,x,zT.of e1,hx⟩,λy H'' ⟨T,x',ev,hT,eH,q⟩=>?_⟩
 have:=q xs (zT.of e1)
 rw [hx] at this
 cases this
 subst ev
 subst eH
 exact ⟨yy hT _,ZZ zd hT (.cons (.int _) (.cons (hh.same s) .nil))⟩
def lst1:List D->(List D->Prop)->Prop
 | [.lst ds],R=>R ds
 | _,_=>False
def enD (ds:List D):D->(List D->Prop)->Prop
 | .int i,R=>0<=i/\i<=1000/\R (j4 i.toNat ds)
 | _,_=>False
def JY (pl:yz) (pb:yE):yz:=λΓ R=>pl Γ λds=>lst1 ds λes=>pb Γ λd=>enD es d R
section
variable {X:Cx} {e1 e2:Expr} {pos:Pos} {pb:yE} {pl:yz}
theorem zKv {ts:List Expr} {kk:Nat} {tp p kp:Pos} (hg:Gl X "enumerate") (hm:X.mg "enumerate" = none) (ha:PA X [e1] (xo pl)) (he:PE X e2 (tP pb)) (hs:starEach [e1] X.env=[(false,eval e1 X.env)]:=by rfl) (hs2:starEach [] X.env=[]:=by rfl) :
  PI X (.Tuple ts kk tp) (.Call (.Name "enumerate" p) [e1] [⟨some "start",e2,kp⟩] pos) (uy (JY pl pb)):=Zv (zM2 hg hm ha he hs hs2) λσ H Q ⟨Z,Γ,R,E,h,q⟩=>
 ⟨Z,Γ,_,E,h,λds vs H1 hd s1 hv=>by
  unfold lst1 at hd
  split at hd
  ·obtain ⟨v,rfl,hw⟩:=y6 hv
   obtain ⟨a,xs,rfl,ea,hx⟩:=hw.lst_inv
   refine ⟨a,rfl,Z,Γ,_,E.same s1,hd,λd u H2 hd2 s2 hu=>?_⟩
   unfold enD at hd2
   split at hd2
   ·rename_i i
    obtain ⟨h0,h1,hR⟩:=hd2
    cases hu
    have e2:=zz (Z:=Z) s2 _ _ ea
    refine ⟨i.toNat,by rw [show ((i.toNat:Nat):Int)=i by omega],?_,⟨xs,zT.of (zm _ _ e2)⟩,q _ _ H2 hR (s1.trans s2) (zMb e2 (yD (zz s2) hx))⟩
    unfold Builtin.SmallTypes.fitsIndex
    rw [decide_eq_true (by omega),decide_eq_true (by omega)]
    rfl
   ·exact hd2.elim
  ·exact hd.elim⟩
end
end Pu
namespace L2
open PySem PySem.Spec PyProof.Rows
theorem zH5:bootBuiltins "min" = some (.builtin "min"):=by decide +kernel
section
variable {X:Cx}
end
end L2
namespace Pu
open PySem L2 Sh
open PyProof.Rows (envOfC)
def xu (l:Addr) (H:Hp):Hp:=λb=>if b=l then none else H b
theorem zNN {l:Addr} {H:Hp} {o:HO} (e:H l=some o):zY (xu l H) l o=H:=funext λb=>by
 by_cases c:b=l
 ·rw [c,xF,e]
 ·rw [zu c]
  exact if_neg c
theorem zLd {l:Addr} {H H':Hp} (s:zD H H') (n:H l=none):zD H (xu l H'):=λb o e=>by
 show (if b=l then none else H' b)=_
 rw [if_neg (λz=>by rw [z,n] at e; cases e)]
 exact s _ _ e
theorem JZ {l:Addr} {H:Hp} {o:HO} (n:H l=none):xu l (zY H l o)=H:=funext λb=>by
 show (if b=l then none else zY H l o b)=_
 by_cases c:b=l
 ·rw [if_pos c,c,n]
 ·rw [if_neg c,zu c]
def qg (F:FL):Sp:=λvs H Q _=>∃ Z ds R,ZL Z H/\yG (zL Z H) vs ds/\F ds R/\∀ es l xs H',R (.lst es)->zD H H'->H l=none->H' l=some (.lst xs)->yG (zL Z (xu l H')) xs es->Q (.ref l) H'
theorem zOX {ps:List Str} {F:FL} (len:∀ ds R,F ds R->ds.length=ps.length) (vs:List V) (H:Hp) (Q:VK) (E:XK):qg F vs H Q E->vs.length=ps.length:=λ⟨Z,ds,R,zd,hv,h,q⟩=>by rw [xC hv]; exact len ds R h
section
variable {X:Cx} {e a b:Expr} {es:List Expr} {st:Stmt} {sts:List Stmt} {pos:Pos} {pa pb:yE} {pl:yz} {p q:yX}
def YI (i:Nat) (F:FL) (pl:yz):yX:=λD Γ=>pl Γ λds=>F ds λd=>vX d λes=>D.nx (yJ Γ i (.ow es))
theorem zJH {d:D} {k:List D->Prop} (h:vX d k):∃ es,d=.lst es/\k es:=by
 cases d with
 | lst es=>exact ⟨es,rfl,h⟩
 | _=>exact h.elim
inductive vF (p:yX) (D0:xa) (σ:St) (H:Hp):Prop
 | mk (Z0:Addr->Prop) (H0:Hp) (Z:Addr->Prop) (Γ:List Sl) (Dp:X3) (E:yq Z0 H0 Z Γ σ H) (h:p Dp Γ)
  (rt:∀ es l xs H',zD H0 H'->H0 l=none->H' l=some (.lst xs)->yG (zL Z0 (xu l H')) xs es->Dp.rt (.lst es)->D0.rt (.ref l) H'):vF p D0 σ H
def YJ (p q:yX):yX:=λD Γ=>p { nx:=q D,rt:=λ_=>False } Γ
theorem Ja (h1:PS X st (yn p)) (h2:yc X sts (vF q)):yc X (st :: sts) (vF (YJ p q)):=vW (wD h1 h2) λD σ H ⟨Z0,H0,Z,Γ,Dp,E,h,rt⟩=>
 ⟨Z0,H0,Z,Γ,{ nx:=q Dp,rt:=λ_=>False },E,h,λZ' Γ' σ' H' E' s' h'=>⟨Z0,H0,Z',Γ',Dp,E',h',rt⟩,λ_ _ _ _ _ h=>h.elim,λ_ _ _ _ _ _ h=>h.elim,λ_ _ _ _ _ _ h=>h.elim⟩
theorem zMr (h:PS X st (vF q)):yc X [st] (vF q):=jC h
theorem zMq {pos':Pos} (ha:PE X a (tP pa)) (hb:PE X b (tP pb)):PS X (.Return (some (.BinOp a .Add b pos')) pos) (vF (Z9 (xq (λd e R=>match d,e with | .lst ds,.lst es=>ds.length + es.length<=1000/\R (.lst (ds++es)) | _,_=>False) pa pb))):=yI (uR (gH Xc ha hb)) λD σ H ⟨Z0,H0,Z,Γ,Dp,E,h,rt⟩=>
 ⟨Z,Γ,_,E.e,h,λd v H1 hd s1 hv=>⟨Z,Γ,_,E.e.same s1,hd,λd2 v2 H2 hd2 s2 hv2=>by
  cases d with
  | lst ds=>
   cases d2 with
   | lst es=>
    have hv:=hv.same (zz s2)
    obtain ⟨p,xs,rfl,e1,h1⟩:=hv.lst_inv
    obtain ⟨r,ys,rfl,e2,h2⟩:=hv2.lst_inv
    have l1:=Paired.length h1
    have l2:=Paired.length h2
    have sH:=E.same.trans (s1.trans s2)
    refine ⟨p,r,xs,ys,rfl,rfl,zm _ _ e1,zm _ _ e2,few (by have:=hd2.1; omega),λn hn=>?_⟩
    have nn:H0 n=none:=by
     cases k:H0 n with
     | none=>rfl
     | some o=>rw [sH _ _ k] at hn; cases hn
    refine rt _ n _ _ (sH.trans (yy hn _)) nn xF ?_ hd2.2
    rw [JZ hn]
    exact yD (uu E.z0) (qP h1 h2)
   | _=>exact hd2.elim
  | _=>exact hd2.elim⟩⟩
end
theorem zNF {N ps:List Str} {F:FL} {p:yX} (len:∀ ds R,F ds R->ds.length=ps.length) (h2:∀ ds R,F ds R->p { nx:=λ_=>False,rt:=R } (ds.map Sl.sh++List.replicate (N.length - ps.length) .no)) {H:Hp} {vs:List V} {Q:VK} {E:XK} (h:qg F vs H Q E):vF p { nx:=λ_ H'=>Q .non H',rt:=Q } (L2.xl N vs) H:=by
 obtain ⟨Z,ds,R,zd,hv,h,q⟩:=h
 have e:L2.xl N vs=vs.map some++List.replicate (N.length - ps.length) none:=by
  unfold L2.xl
  rw [xC hv,len ds R h]
 refine ⟨Z,H,Z,_,_,⟨?_,λ_ h=>h,zd,zD.refl _,?_,?_⟩,h2 ds R h,λes l xs H' s n e hx hR=>q es l xs H' hR s n e hx⟩
 ·rw [e]
  exact X5 zd hv _
 ·exact λi as l e=>absurd e (ga (λi as h=>by rw [vD] at h; cases h) i as)
 ·exact λi o c ns as e=>absurd e (gZ (λi o c ns as h=>by rw [vD] at h; cases h) i o c ns as)
variable {P:Program} {w:World} {K:PySem.W.Frag} {mg:Str->Option Value} {base:Heap}
theorem okN {x qual:Str} {st:Stmt} {f:Addr} {fd:FuncData} {N ps:List Str} {k:Nat} {F:FL} (Fu:zg K x qual st f fd) (S:ze N ps (zK st)) (len:∀ ds R,F ds R->ds.length=ps.length)
  (hbody:∀ (cdv:Value) (A:Around) (outer:List Env) (s:Shared) (H:Hp) (E:XK),zc k (A.deeper (envOfC qual (zK st) s.heap.objs.size f cdv))->
   ∃ p,yc (xN zW P w K mg base N qual (zK st) f cdv A outer s H E).nox (xR st) (vF p)/\∀ ds R,F ds R->p { nx:=λ_=>False,rt:=R } (ds.map Sl.sh++List.replicate (N.length - ps.length) .no)):zF P w K mg base zW (k + 1) f fd ps (qg F):=
 Fu.ok S (zOX len) λcdv A outer s H vs Q E hr h=>let ⟨p,h1,h2⟩:=hbody cdv A outer s H E hr; ⟨_,h1,zNF len h2 h⟩
theorem YK {F:FL} (vs:List V) (H:Hp) (Q:VK) (E:XK):zH F vs H Q E->qg F vs H Q E:=λ⟨Z,ds,R,zd,hv,h,q⟩=>⟨Z,ds,R,zd,hv,h,λes l xs H' hR s n e hx=>q _ _ H' hR s (.lst ((xV (zd.new n)).trans e) (yD (zz (λb o z=>by
 by_cases c:b=l
 ·rw [c] at z; exact absurd z (by rw [show xu l H' l=none from if_pos rfl]; exact λz=>nomatch z)
 ·exact (if_neg c).symm.trans z)) hx))⟩
theorem zF.impN {CX:vj} {k:Nat} {f:Addr} {fd:FuncData} {ps:List Str} {sp sq:Sp} (i:∀ vs H Q E,sq vs H Q E->sp vs H Q E) (o:zF P w K mg base CX k f fd ps sp):zF P w K mg base CX k f fd ps sq:=
 ⟨λvs H Q E h=>o.1 vs H Q E (i vs H Q E h),λa b c d e f g h j k l m n z=>o.2 a b c d e f g h j k l m n (i _ _ _ _ z)⟩
theorem Jb {x:Str} {ps:List Str} {k:Nat} {F:FL} (c:Fn P w K mg base x ps k (qg F)):Fn P w K mg base x ps k (zH F):=by
 obtain ⟨f,fd,a,b⟩:=c.ex
 exact ⟨f,fd,zF.impN YK a,b⟩
section
variable {X:Cx} {a b:Expr} {pos:Pos} {pa pb:yE}
def isD:F2:=λx y R=>∃ a b,x=.bool a/\y=.bool b/\R (.bool (a == b))
theorem zQL:x8 (λx y H Q=>∃ a b,x=.bl a/\y=.bl b/\Q (.bl (a == b)) H) isD:=λZ H x y a b R Q zd hx hy ⟨p,p',e1,e2,h⟩ q=>by
 subst e1
 subst e2
 cases hx
 cases hy
 exact ⟨p,p',rfl,rfl,q _ _ H h (zD.refl _) (.bool _)⟩
theorem YL (ha:PE X a (tP pa)) (hb:PE X b (tP pb)):PE X (.Compare a [.Is] [b] pos) (tP (xq isD pa pb)):=ZY zQG zQL (uI _) ha hb
end
end Pu
namespace Pu
open PySem L2 Sh
section
variable {X:Cx} {a:Expr} {pos:Pos} {pa:yE}
end
inductive gc (ds:List D) (T:D->(Bool->Prop)->Prop) (G:D->(D->Prop)->Prop) (R:D->Prop):Prop
 | mk (few:ds.length<=1000) (f:D->Bool) (F:D->D->Prop) (t:∀ d,d∈ds->T d λb=>b=f d) (h:∀ d,d∈ds->f d=true->G d (F d)) (q:∀ es,Paired F (ds.filter f) es->R (.lst es)):gc ds T G R
theorem zNb {Z:Addr->Prop} {Γ:List Sl} {σ:St} {H:Hp} {own:List Str} {caps:List (Nat × Str)} {J:It} {ds:List D} {js:List Nat} {po:D->Option (List D)} {pt:wo} {pe:yE} {Q:VK} {f:D->Bool} {F:D->D->Prop} {Zt:Addr->Prop} {Γt:List Sl} (E:yj Z Γ σ H) (Et:yj Zt Γt σ H) (sub:∀ b,Zt b->Z b) (wk:Wk Z J H ds) (hj:js=List.range' 0 own.length) (hk:∀ d os,po d=some os->os.length=js.length) (few:ds.length<=1000)
  (hT:∀ d,d∈ds->ux (po d) λos=>pt (os.map Sl.sh++(caps.map (·.1)).map λj=>un (slot Γt j)) λb=>b=f d)
  (hF:∀ d,d∈ds->f d=true->ux (po d) λos=>pe (os.map Sl.sh++(caps.map (·.1)).map λj=>un (slot Γ j)) (F d))
  (q:∀ es ys H' p,Paired F (ds.filter f) es->zD H H'->yG (zL Z H') ys es->H' p=none->Q (.ref p) (zY H' p (.lst ys))):zMP J (tG js po) (xT pt) (tP pe) Q (wY own caps σ) H:=by
 have hc:wY own caps σ=own.map (λ_=>none)++(caps.map (·.1)).map λj=>(σ[j]?).getD none:=by
  unfold wY
  rw [List.map_map]
  rfl
 refine ⟨λi m ys σ1 H1=>m + i=ds.length/\zD H H1/\(∃ es,Paired F ((ds.take i).filter f) es/\yG (zL Z H1) ys es)/\∃ o:St,o.length=own.length/\σ1=o++(caps.map (·.1)).map λj=>(σ[j]?).getD none,⟨ds.length,rfl,zD.refl _,⟨[],.nil,.nil⟩,_,List.length_map ..,hc⟩,?_⟩
 rintro i m ys σ1 H1 ⟨hm,s1,⟨es,he,hy⟩,o,lo,rfl⟩
 obtain ⟨w1,w2⟩:=wk i Z H1 (zz s1) (E.zd.same s1)
 have le:es.length<=i:=by
  have h1:=Paired.length he
  have h2:=List.length_filter_le f (ds.take i)
  rw [List.length_take] at h2
  omega
 by_cases hi:i < ds.length
 ·have tk:(ds.take (i + 1)).filter f=(ds.take i).filter f++(if f ds[i]=true then [ds[i]] else []):=by
   rw [List.take_succ_eq_append_getElem hi,List.filter_append,List.filter_cons,List.filter_nil]
  refine .inr ⟨(w1 _ (List.getElem?_eq_getElem hi)).1,by rw [xC hy]; exact qL (by omega),λy σ' H'=>m - 1 + (i + 1)=ds.length/\zD H H'/\(∃ es,Paired F ((ds.take (i + 1)).filter f) es/\yG (zL Z H') (ys++[y]) es)/\∃ o:St,o.length=own.length/\σ'=o++(caps.map (·.1)).map λj=>(σ[j]?).getD none,λσ' H'=>m - 1 + (i + 1)=ds.length/\zD H H'/\(∃ es,Paired F ((ds.take (i + 1)).filter f) es/\yG (zL Z H') ys es)/\∃ o:St,o.length=own.length/\σ'=o++(caps.map (·.1)).map λj=>(σ[j]?).getD none,λy σ' H' k=>⟨m - 1,by omega,k⟩,λσ' H' k=>⟨m - 1,by omega,k⟩,λx H' yl=>?_⟩
  obtain ⟨s2,dv⟩:=(w1 _ (List.getElem?_eq_getElem hi)).2 x H' yl
  obtain ⟨os,ho,ht⟩:=Zu (hT _ (List.getElem_mem hi))
  have lo2:=hk _ _ ho
  refine ⟨Z,_,os,dv,ho,λvs hvs=>?_⟩
  have lv:=xC hvs
  have e1:setN (o++(caps.map (·.1)).map λj=>(σ[j]?).getD none) js vs=vs.map some++(caps.map (·.1)).map λj=>(σ[j]?).getD none:=by
   rw [hj,<- lo]
   exact JG _ [] o vs (by rw [lv,lo2,hj,List.length_range']; exact lo)
  rw [e1]
  have lw:(vs.map some).length=own.length:=by rw [List.length_map,lv,lo2,hj,List.length_range']
  refine ⟨Zt,_,_,JF (Et.same (s1.trans s2)) (yD (uu sub) hvs),ht,λb H3 hb s3=>?_⟩
  subst hb
  by_cases c:f ds[i]=true
  ·rw [if_pos c]
   obtain ⟨os',ho',hp⟩:=Zu (hF _ (List.getElem_mem hi) c)
   cases ho.symm.trans ho'
   refine ⟨Z,_,_,JF (E.same (s1.trans (s2.trans s3))) (yD (zz s3) hvs),hp,λd v H4 hd s4 hv=>⟨by omega,s1.trans (s2.trans (s3.trans s4)),⟨es++[d],?_,ur hv (yD (zz (s2.trans (s3.trans s4))) hy)⟩,_,lw,rfl⟩⟩
   rw [tk,if_pos c]
   exact ur hd he
  ·rw [if_neg c]
   refine ⟨by omega,s1.trans (s2.trans s3),⟨es,?_,yD (zz (s2.trans s3)) hy⟩,_,lw,rfl⟩
   rw [tk,if_neg c,List.append_nil]
   exact he
 ·have ei:i=ds.length:=by omega
  refine .inl ⟨w2 ei,λp hp=>q es ys H1 p ?_ s1 hy hp⟩
  rw [List.take_of_length_le (by omega)] at he
  exact he
section
variable {X:Cx} {scope:Scope} {own:List Str} {caps:List (Nat × Str)} {tg iter elt cond:Expr} {pos:Pos} {pi:yz} {po:D->Option (List D)} {pt:wo} {pe:yE} {js:List Nat}
end
def zOm (i:Nat) (ow:Bool) (caps:List Nat) (pi:yz) (po:D->Option (List D)) (pt:wo) (pe:yE):yX:=λT Γ=>pi Γ λds=>gc ds (λd S=>ux (po d) λos=>pt (os.map Sl.sh++caps.map λj=>un (slot Γ j)) S) (λd S=>ux (po d) λos=>pe (os.map Sl.sh++caps.map λj=>un (slot Γ j)) S) λd=>vX d λes=>T.nx (yJ Γ i (match ow with | true=>.ow es | false=>.sh (.lst es)))
theorem zHh {X:Cx} {pos:Pos} (i:Nat) (ow:Bool) {scope:Scope} {own:List Str} {caps:List (Nat × Str)} {tg iter elt cond:Expr} {pi:yz} {po:D->Option (List D)} {pt:wo} {pe:yE} {js:List Nat} {y:Str} {py spos:Pos} (hN:X.N.Nodup) (hy:X.N[i]? = some y) (hl:X.env.scope.names.lookup y=some .local) (B:vm X scope own caps) (hc:X.calm=true) (hj:js=List.range' 0 own.length) (hk:∀ d os,po d=some os->os.length=js.length)
  (hi:PI X tg iter (uy pi)) (hg:∀ C s₀ H₀ ex,PG (yf X scope (zb own caps) C s₀ H₀ ex) tg (tG js po)) (ht:∀ C s₀ H₀ ex,PT (yf X scope (zb own caps) C s₀ H₀ ex) cond (xT pt)) (he:∀ C s₀ H₀ ex,PE (yf X scope (zb own caps) C s₀ H₀ ex) elt (tP pe)) (hsw:swapsWith (.ListComp elt [⟨tg,iter,[cond],0⟩] scope pos) (some (.Name y py)) spos.line X.env=pure true) (hs:∀ x,foldedSetIterable iter X.env x=pure x:=by intro _; rfl) :
  PS X (.Assign [.Name y py] (.ListComp elt [⟨tg,iter,[cond],0⟩] scope pos) spos) (yn (zOm i ow (caps.map (·.1)) pi po pt pe)):=yI (zK0 hN hy hl B hc hi hg ht he hsw hs) λD σ H ⟨Z0,H0,Z,Γ,Dp,E,h,nx,rt,bk,ct⟩=>
 ⟨Z,Γ,_,E.e,h,λds J H1 ⟨fw,f,F,hT,hF,hR⟩ s1 wk=>zNb (E.e.same s1) (E.e.same s1) (λ_ z=>z) wk hj hk fw hT hF λes ys H' l h1 s2 h2 hp=>by
  have E1:=(E.mv s1).mv s2
  cases ow with
  | true=>
   obtain ⟨E2,s3⟩:=E1.make hp h2 i
   exact nx _ _ _ _ E2 ((zz (s1.trans s2)).trans s3) (hR es h1)
  | false=>exact nx Z _ _ _ ((E1.mv (yy hp _)).set (jJ E1.e.zd hp h2) i) (zz (s1.trans (s2.trans (yy hp _)))) (hR es h1)⟩
theorem zLD {α:Type} {ds es:List α} (p:Paired (λd e=>e=d) ds es):es=ds:=by
 induction p with
 | nil=>rfl
 | cons h _ ih=>rw [h,ih]
theorem gc.keep {ds:List D} {T:D->(Bool->Prop)->Prop} {G:D->(D->Prop)->Prop} {R:D->Prop} (f:D->Bool) (few:ds.length<=1000) (t:∀ d,d∈ds->T d λb=>b=f d) (h:∀ d,d∈ds->G d λe=>e=d) (q:R (.lst (ds.filter f))):gc ds T G R:=⟨few,f,λd e=>e=d,t,λd m _=>h d m,λes p=>by rw [zLD p]; exact q⟩
end Pu
namespace L2
open PySem PySem.Spec PyProof.Rows
theorem zKH (a b c:Value):checkTypeCall "zip" ⟨[a,b,c],[]⟩=pure ():=by kernel_rfl
theorem zKF (a b c:Value):checkBuiltinCall "zip.__new__" ⟨[.type "zip",a,b,c],[]⟩=pure ():=by kernel_rfl
theorem zLS (a b c d:Value):argsOk "object.__init__" ⟨[a,b,c,d],[]⟩:=by rw [argsOk,signature?_of (id:="object.__init__") (n:=['_','_','t','i','n','i','_','_']) (o:=['t','c','e','j','b','o']) (by kernel_rfl) F.owner_object]; kernel_rfl
abbrev xJ (h:Heap) (T:Addr) (a b c:Value):Prop:=h.get? T=some { cls:=.type "tuple",data:=.seq #[a,b,c] }
structure Zt (z TI TO i1 i2 i3:Addr) (f1 f2 f3:List Addr):Prop where
 zI:TI≠z
 zO:TO≠z
 z1:i1≠z
 z2:i2≠z
 z3:i3≠z
 IO:TI≠TO
 I1:TI≠i1
 I2:TI≠i2
 I3:TI≠i3
 O1:TO≠i1
 O2:TO≠i2
 O3:TO≠i3
 n1:z∉f1
 n2:z∉f2
 n3:z∉f3
 o1:TO∉f1
 o2:TO∉f2
 o3:TO∉f3
 e12:i1∉f2
 e13:i1∉f3
 e21:i2∉f1
 e23:i2∉f3
 e31:i3∉f1
 e32:i3∉f2
section
variable {prog:Program} {w:World} {A:Around} {E:Value->Shared->Prop} {s:Shared}
theorem YM {T:Addr} {a b c x:Value} {k:Nat} {Q:Unit->Shared->Prop} (hT:xJ s.heap T a b c) (h:∀ g,g.get? T=some { cls:=.type "tuple",data:=.seq ((#[a,b,c]:Array Value).setIfInBounds k x) }->Heap.SameBut T s.heap g->Q () { s with heap:=g }):wpAny (model prog w) A (updateSeq T (·.setIfInBounds k x)) Q E s:=
 wpAny_updateSeq hT rfl (h _ (by rw [Heap.get?_update_self _ hT rfl]; simp [Obj.mapSeq]) (Heap.SameBut.update ..))
theorem zKK {z TI TO i1 i2 i3:Addr} {f1 f2 f3:List Addr} {n1 n2 n3 k:Nat} {P1 P2 P3:Nat->Value->Prop} {S1 S2 S3:Nat->Heap->Prop} {a b c:Value} {Q:Value->Shared->Prop}
  (D1:Draws prog w A i1 f1 n1 P1 S1) (D2:Draws prog w A i2 f2 n2 P2 S2) (D3:Draws prog w A i3 f3 n3 P3 S3) (Z:Zt z TI TO i1 i2 i3 f1 f2 f3) (hz:IsZip s.heap z TI TO .none) (hI:xJ s.heap TI (.ref i1) (.ref i2) (.ref i3)) (hO:xJ s.heap TO a b c)
  (s1:S1 k s.heap) (s2:S2 k s.heap) (s3:S3 k s.heap) (k1:k < n1) (k2:k < n2) (k3:k < n3)
  (hQ:∀ x y t h' tk,P1 k x->P2 k y->P3 k t->IsZip h' z TI TO (rawInt s.heap.objs.size)->xJ h' TI (.ref i1) (.ref i2) (.ref i3)->xJ h' TO x y t->S1 (k + 1) h'->S2 (k + 1) h'->S3 (k + 1) h'->xJ h' s.heap.objs.size x y t->
   (∀ c o,c≠z->c≠TO->c≠i1->c≠i2->c≠i3->s.heap.get? c=some o->h'.get? c=some o)->Q (.ref s.heap.objs.size) { s with heap:=h',toks:=tk }) :
  wpAny (model prog w) A (Builtin.«zip.__next__» ⟨[.ref z],[]⟩) (λfin s'=>∃ v,fin=.done (.ret v)/\Q v s') E s:=by
 change wpAny _ _ (field (.ref z) 2 >>= _) _ _ _
 refine wpAny_bind (wpAny_field hz rfl (x:=.bool false) rfl ?_)
 change wpAny _ _ (field (.ref z) 3 >>= _) _ _ _
 refine wpAny_bind (wpAny_field hz rfl (x:=.ref TI) rfl ?_)
 refine wpAny_bind (wpAny_seqItems hI rfl ?_)
 change wpAny _ _ (Builtin.SmallTypes.ownedTupleIsFree (.ref z) >>= _) _ _ _
 refine wpAny_bind ?_
 unfold Builtin.SmallTypes.ownedTupleIsFree
 refine wpAny_bind (wpAny_field hz rfl (x:=.none) rfl (wpAny_pure ?_))
 simp only [if_true]
 refine wpAny_bind (wpAny_rule ?_)
 refine wpAny_bind (wpAny_field hz rfl (x:=.ref TO) rfl ?_)
 refine wpAny_bind (wpAny_setField_rec hz (by simp) λg1 z1 m1=>?_)
 replace z1:IsZip g1 z TI TO .ellipsis:=z1
 refine wpAny_bind ?_
 simp only [List.zipIdx_cons,List.zipIdx_nil,List.forIn_cons,List.forIn_nil]
 refine wpAny_bind (wpAny_bind (wpAny_onRaise ?_))
 change wpAny _ _ (Builtin.SmallTypes.nextOf (.ref i1) >>= _) _ _ _
 refine wpAny_bind (D1.item k _ _ _ k1 (D1.frame _ _ _ s1 λc hc o e=>m1.extBut c o (λq=>Z.n1 (q ▸ hc)) e) λx g2 t2 px s12 m2=>wpAny_pure ?_)
 have q2:xJ g2 TO a b c:=m2.extBut _ _ Z.O1 (m1.extBut _ _ Z.zO hO)
 refine wpAny_bind (wpAny_seqItems q2 rfl ?_)
 refine wpAny_bind (YM q2 λg3 q3 m3=>?_)
 replace q3:xJ g3 TO x b c:=q3
 refine wpAny_bind (wpAny_letGo (wpAny_pure ?_))
 refine wpAny_bind (wpAny_bind (wpAny_onRaise ?_))
 change wpAny _ _ (Builtin.SmallTypes.nextOf (.ref i2) >>= _) _ _ _
 refine wpAny_bind (D2.item k _ _ _ k2 (D2.frame _ _ _ s2 λc hc o e=>m3.extBut c o (λq=>Z.o2 (q ▸ hc)) (m2.extBut c o (λq=>Z.e12 (q ▸ hc)) (m1.extBut c o (λq=>Z.n2 (q ▸ hc)) e))) λy g4 t4 py s24 m4=>wpAny_pure ?_)
 have q4:xJ g4 TO x b c:=m4.extBut _ _ Z.O2 q3
 refine wpAny_bind (wpAny_seqItems q4 rfl ?_)
 refine wpAny_bind (YM q4 λg5 q5 m5=>?_)
 replace q5:xJ g5 TO x y c:=q5
 refine wpAny_bind (wpAny_letGo (wpAny_pure ?_))
 refine wpAny_bind (wpAny_bind (wpAny_onRaise ?_))
 change wpAny _ _ (Builtin.SmallTypes.nextOf (.ref i3) >>= _) _ _ _
 refine wpAny_bind (D3.item k _ _ _ k3 (D3.frame _ _ _ s3 λc hc o e=>m5.extBut c o (λq=>Z.o3 (q ▸ hc)) (m4.extBut c o (λq=>Z.e23 (q ▸ hc)) (m3.extBut c o (λq=>Z.o3 (q ▸ hc)) (m2.extBut c o (λq=>Z.e13 (q ▸ hc)) (m1.extBut c o (λq=>Z.n3 (q ▸ hc)) e))))) λt g6 t6 pt s36 m6=>wpAny_pure ?_)
 have q6:xJ g6 TO x y c:=m6.extBut _ _ Z.O3 q5
 refine wpAny_bind (wpAny_seqItems q6 rfl ?_)
 refine wpAny_bind (YM q6 λg7 q7 m7=>?_)
 replace q7:xJ g7 TO x y t:=q7
 refine wpAny_bind (wpAny_letGo (wpAny_pure (wpAny_pure ?_)))
 refine wpAny_bind (wpAny_seqItems q7 rfl ?_)
 refine wpAny_bind (wpAny_newTuple ?_)
 have sz:g7.objs.size=s.heap.objs.size:=by
  have r7:g7.objs.size=g6.objs.size:=m7.1
  have r6:g6.objs.size=g5.objs.size:=m6.1
  have r5:g5.objs.size=g4.objs.size:=m5.1
  have r4:g4.objs.size=g3.objs.size:=m4.1
  have r3:g3.objs.size=g2.objs.size:=m3.1
  have r2:g2.objs.size=g1.objs.size:=m2.1
  have r1:g1.objs.size=s.heap.objs.size:=m1.1
  omega
 have all7:∀ c o,c≠z->c≠TO->c≠i1->c≠i2->c≠i3->s.heap.get? c=some o->g7.get? c=some o:=λc o c1 c2 c3 c4 c5 e=>m7.extBut _ _ c2 (m6.extBut _ _ c5 (m5.extBut _ _ c2 (m4.extBut _ _ c4 (m3.extBut _ _ c2 (m2.extBut _ _ c3 (m1.extBut _ _ c1 e))))))
 have z7:IsZip g7 z TI TO .ellipsis:=m7.extBut _ _ Z.zO.symm (m6.extBut _ _ Z.z3.symm (m5.extBut _ _ Z.zO.symm (m4.extBut _ _ Z.z2.symm (m3.extBut _ _ Z.zO.symm (m2.extBut _ _ Z.z1.symm z1)))))
 have I7:xJ g7 TI (.ref i1) (.ref i2) (.ref i3):=all7 _ _ Z.zI Z.IO Z.I1 Z.I2 Z.I3 hI
 have u1:S1 (k + 1) g7:=D1.frame _ _ _ s12 λc hc o e=>m7.extBut c o (λq=>Z.o1 (q ▸ hc)) (m6.extBut c o (λq=>Z.e31 (q ▸ hc)) (m5.extBut c o (λq=>Z.o1 (q ▸ hc)) (m4.extBut c o (λq=>Z.e21 (q ▸ hc)) (m3.extBut c o (λq=>Z.o1 (q ▸ hc)) e))))
 have u2:S2 (k + 1) g7:=D2.frame _ _ _ s24 λc hc o e=>m7.extBut c o (λq=>Z.o2 (q ▸ hc)) (m6.extBut c o (λq=>Z.e32 (q ▸ hc)) (m5.extBut c o (λq=>Z.o2 (q ▸ hc)) e))
 have u3:S3 (k + 1) g7:=D3.frame _ _ _ s36 λc hc o e=>m7.extBut c o (λq=>Z.o3 (q ▸ hc)) e
 have lt:z < g7.objs.size:=Heap.lt_size z7
 change wpAny _ _ (Builtin.SmallTypes.ownedTupleHandOut (.ref z) (.ref g7.objs.size) >>= _) _ _ _
 refine wpAny_bind ?_
 unfold Builtin.SmallTypes.ownedTupleHandOut
 have z8:IsZip (g7.push { cls:=.type "tuple",data:=.seq #[x,y,t] }) z TI TO .ellipsis:=Heap.get?_push_of_some _ z7
 refine wpAny_bind (wpAny_setField_rec z8 (by simp) λg9 z9 m9=>?_)
 replace z9:IsZip g9 z TI TO (rawInt g7.objs.size):=z9
 refine wpAny_setField_rec z9 (by simp) λg0 z0 m0=>?_
 replace z0:IsZip g0 z TI TO (rawInt g7.objs.size):=z0
 have up:∀ c o,c≠z->g7.get? c=some o->g0.get? c=some o:=λc o c1 e=>m0.extBut _ _ c1 (m9.extBut _ _ c1 (Heap.get?_push_of_some _ e))
 have T0:xJ g0 g7.objs.size x y t:=m0.extBut _ _ (Nat.ne_of_gt lt) (m9.extBut _ _ (Nat.ne_of_gt lt) (Heap.get?_push_size _ rfl))
 rw [sz] at z0 T0
 refine wpAny_pure ⟨_,rfl,?_⟩
 change Q (.ref g7.objs.size) _
 rw [sz]
 exact hQ x y t g0 _ px py pt z0 (up _ _ Z.zI I7) (up _ _ Z.zO q7) (D1.frame _ _ _ u1 λc hc o e=>up c o (λq=>Z.n1 (q ▸ hc)) e) (D2.frame _ _ _ u2 λc hc o e=>up c o (λq=>Z.n2 (q ▸ hc)) e) (D3.frame _ _ _ u3 λc hc o e=>up c o (λq=>Z.n3 (q ▸ hc)) e) T0
  λc o c1 c2 c3 c4 c5 e=>up c o c1 (all7 c o c1 c2 c3 c4 c5 e)
theorem zKI {z TI TO i1 i2 i3:Addr} {f1 f2 f3:List Addr} {n1 n2 n3 k:Nat} {P1 P2 P3:Nat->Value->Prop} {S1 S2 S3:Nat->Heap->Prop} {a b c:Value} {Q:Fin->Shared->Prop}
  (D1:Draws prog w A i1 f1 n1 P1 S1) (D2:Draws prog w A i2 f2 n2 P2 S2) (D3:Draws prog w A i3 f3 n3 P3 S3) (Z:Zt z TI TO i1 i2 i3 f1 f2 f3) (hz:IsZip s.heap z TI TO .none) (hI:xJ s.heap TI (.ref i1) (.ref i2) (.ref i3)) (hO:xJ s.heap TO a b c)
  (s1:S1 k s.heap) (s2:S2 k s.heap) (s3:S3 k s.heap) (k1:k<=n1) (k2:k<=n2) (k3:k<=n3) (ke:k=n1\/k=n2\/k=n3)
  (hE:∀ h' e tk,(∀ c o,c≠z->c≠TO->c≠i1->c≠i2->c≠i3->s.heap.get? c=some o->h'.get? c=some o)->(∃ o,h'.get? e=some o/\o.cls=.type "StopIteration")->E (.ref e) { s with heap:=h',toks:=tk }) :
  wpAny (model prog w) A (Builtin.«zip.__next__» ⟨[.ref z],[]⟩) Q E s:=by
 change wpAny _ _ (field (.ref z) 2 >>= _) _ _ _
 refine wpAny_bind (wpAny_field hz rfl (x:=.bool false) rfl ?_)
 change wpAny _ _ (field (.ref z) 3 >>= _) _ _ _
 refine wpAny_bind (wpAny_field hz rfl (x:=.ref TI) rfl ?_)
 refine wpAny_bind (wpAny_seqItems hI rfl ?_)
 change wpAny _ _ (Builtin.SmallTypes.ownedTupleIsFree (.ref z) >>= _) _ _ _
 refine wpAny_bind ?_
 unfold Builtin.SmallTypes.ownedTupleIsFree
 refine wpAny_bind (wpAny_field hz rfl (x:=.none) rfl (wpAny_pure ?_))
 simp only [if_true]
 refine wpAny_bind (wpAny_rule ?_)
 refine wpAny_bind (wpAny_field hz rfl (x:=.ref TO) rfl ?_)
 refine wpAny_bind (wpAny_setField_rec hz (by simp) λg1 z1 m1=>?_)
 replace z1:IsZip g1 z TI TO .ellipsis:=z1
 refine wpAny_bind ?_
 simp only [List.zipIdx_cons,List.zipIdx_nil,List.forIn_cons,List.forIn_nil]
 refine wpAny_bind (wpAny_bind (wpAny_onRaise ?_))
 change wpAny _ _ (Builtin.SmallTypes.nextOf (.ref i1) >>= _) _ _ _
 have s1':S1 k g1:=D1.frame _ _ _ s1 λc hc o e=>m1.extBut c o (λq=>Z.n1 (q ▸ hc)) e
 by_cases c1:k=n1
 ·subst c1
  refine wpAny_bind (D1.done _ _ _ s1' λg2 e m2 he=>?_)
  obtain ⟨oe,he1,he2⟩:=he
  have z2:IsZip g2 z TI TO .ellipsis:=m2 _ _ Z.z1.symm z1
  have nez:e≠z:=λq=>by subst q; rw [z2] at he1; cases he1; simp at he2
  exact wpAny_setField_rec z2 (by simp) λg3 _ m3=>hE g3 e _ (λc o c1 c2 c3 c4 c5 q=>m3.extBut _ _ c1 (m2 _ _ c3 (m1.extBut _ _ c1 q))) ⟨oe,m3.extBut _ _ nez he1,he2⟩
 refine wpAny_bind (D1.item k _ _ _ (by omega) s1' λx g2 t2 px s12 m2=>wpAny_pure ?_)
 have q2:xJ g2 TO a b c:=m2.extBut _ _ Z.O1 (m1.extBut _ _ Z.zO hO)
 refine wpAny_bind (wpAny_seqItems q2 rfl ?_)
 refine wpAny_bind (YM q2 λg3 q3 m3=>?_)
 replace q3:xJ g3 TO x b c:=q3
 refine wpAny_bind (wpAny_letGo (wpAny_pure ?_))
 refine wpAny_bind (wpAny_bind (wpAny_onRaise ?_))
 change wpAny _ _ (Builtin.SmallTypes.nextOf (.ref i2) >>= _) _ _ _
 have s2':S2 k g3:=D2.frame _ _ _ s2 λc hc o e=>m3.extBut c o (λq=>Z.o2 (q ▸ hc)) (m2.extBut c o (λq=>Z.e12 (q ▸ hc)) (m1.extBut c o (λq=>Z.n2 (q ▸ hc)) e))
 have z3:IsZip g3 z TI TO .ellipsis:=m3.extBut _ _ Z.zO.symm (m2.extBut _ _ Z.z1.symm z1)
 by_cases c2:k=n2
 ·subst c2
  refine wpAny_bind (D2.done _ _ _ s2' λg4 e m4 he=>?_)
  obtain ⟨oe,he1,he2⟩:=he
  have z4:IsZip g4 z TI TO .ellipsis:=m4 _ _ Z.z2.symm z3
  have nez:e≠z:=λq=>by subst q; rw [z4] at he1; cases he1; simp at he2
  exact wpAny_setField_rec z4 (by simp) λg5 _ m5=>hE g5 e _ (λc o c1 c2 c3 c4 c5 q=>m5.extBut _ _ c1 (m4 _ _ c4 (m3.extBut _ _ c2 (m2.extBut _ _ c3 (m1.extBut _ _ c1 q))))) ⟨oe,m5.extBut _ _ nez he1,he2⟩
 have c3:k=n3:=(ke.resolve_left c1).resolve_left c2
 subst c3
 refine wpAny_bind (D2.item k _ _ _ (by omega) s2' λy g4 t4 py s24 m4=>wpAny_pure ?_)
 have q4:xJ g4 TO x b c:=m4.extBut _ _ Z.O2 q3
 refine wpAny_bind (wpAny_seqItems q4 rfl ?_)
 refine wpAny_bind (YM q4 λg5 q5 m5=>?_)
 refine wpAny_bind (wpAny_letGo (wpAny_pure ?_))
 refine wpAny_bind (wpAny_bind (wpAny_onRaise ?_))
 change wpAny _ _ (Builtin.SmallTypes.nextOf (.ref i3) >>= _) _ _ _
 refine wpAny_bind (D3.done _ _ _ (D3.frame _ _ _ s3 λc hc o e=>m5.extBut c o (λq=>Z.o3 (q ▸ hc)) (m4.extBut c o (λq=>Z.e23 (q ▸ hc)) (m3.extBut c o (λq=>Z.o3 (q ▸ hc)) (m2.extBut c o (λq=>Z.e13 (q ▸ hc)) (m1.extBut c o (λq=>Z.n3 (q ▸ hc)) e))))) λg6 e m6 he=>?_)
 obtain ⟨oe,he1,he2⟩:=he
 have z6:IsZip g6 z TI TO .ellipsis:=m6 _ _ Z.z3.symm (m5.extBut _ _ Z.zO.symm (m4.extBut _ _ Z.z2.symm z3))
 have nez:e≠z:=λq=>by subst q; rw [z6] at he1; cases he1; simp at he2
 exact wpAny_setField_rec z6 (by simp) λg7 _ m7=>hE g7 e _ (λc o c1 c2 c3 c4 c5 q=>m7.extBut _ _ c1 (m6 _ _ c5 (m5.extBut _ _ c2 (m4.extBut _ _ c4 (m3.extBut _ _ c2 (m2.extBut _ _ c3 (m1.extBut _ _ c1 q))))))) ⟨oe,m7.extBut _ _ nez he1,he2⟩
end
end L2
namespace L2
open PySem PySem.Spec PyProof.Rows
section
variable {prog:Program} {w:World} {A:Around} {E:Value->Shared->Prop} {s:Shared}
theorem zKJ {z TI TO i1 i2 i3:Addr} {f1 f2 f3:List Addr} {n1 n2 n3 k:Nat} {P1 P2 P3:Nat->Value->Prop} {S1 S2 S3:Nat->Heap->Prop} {a b c:Value} {Q:Option Value->Shared->Prop}
  (D1:Draws prog w A.in1 i1 f1 n1 P1 S1) (D2:Draws prog w A.in1 i2 f2 n2 P2 S2) (D3:Draws prog w A.in1 i3 f3 n3 P3 S3) (Z:Zt z TI TO i1 i2 i3 f1 f2 f3) (hz:IsZip s.heap z TI TO .none) (hI:xJ s.heap TI (.ref i1) (.ref i2) (.ref i3)) (hO:xJ s.heap TO a b c)
  (s1:S1 k s.heap) (s2:S2 k s.heap) (s3:S3 k s.heap) (k1:k < n1) (k2:k < n2) (k3:k < n3)
  (hQ:∀ x y t h' tk,P1 k x->P2 k y->P3 k t->IsZip h' z TI TO (rawInt s.heap.objs.size)->xJ h' TI (.ref i1) (.ref i2) (.ref i3)->xJ h' TO x y t->S1 (k + 1) h'->S2 (k + 1) h'->S3 (k + 1) h'->xJ h' s.heap.objs.size x y t->
   (∀ c o,c≠z->c≠TO->c≠i1->c≠i2->c≠i3->s.heap.get? c=some o->h'.get? c=some o)->Q (some (.ref s.heap.objs.size)) { s with heap:=h',toks:=tk }) :
  wpAny (model prog w) A (pyNext (.ref z)) Q E s:=by
 have ty:s.TypeIs (.ref z) "zip":=⟨_,hz,rfl⟩
 unfold pyNext
 refine wpAny_bind (wpAny_attempt (wpAny_callSpecial?_slot (name:=Str.ofString "__next__") ty F.slot_zip_next (wpAny_call_entry F.slot_zip_next ty F.entry_zip_next ?_ (F.args_zip_next_1 _))))
 exact zKK D1 D2 D3 Z hz hI hO s1 s2 s3 k1 k2 k3 λx y t h' tk c1 c2 c3 c4 c5 c6 c7 c8 c9 c10 c11=>wpAny_pure (hQ x y t h' tk c1 c2 c3 c4 c5 c6 c7 c8 c9 c10 c11)
theorem zMZ {z TI TO i1 i2 i3:Addr} {f1 f2 f3:List Addr} {n1 n2 n3 k:Nat} {P1 P2 P3:Nat->Value->Prop} {S1 S2 S3:Nat->Heap->Prop} {a b c:Value} {Q:Option Value->Shared->Prop}
  (D1:Draws prog w A.in1 i1 f1 n1 P1 S1) (D2:Draws prog w A.in1 i2 f2 n2 P2 S2) (D3:Draws prog w A.in1 i3 f3 n3 P3 S3) (Z:Zt z TI TO i1 i2 i3 f1 f2 f3) (hz:IsZip s.heap z TI TO .none) (hI:xJ s.heap TI (.ref i1) (.ref i2) (.ref i3)) (hO:xJ s.heap TO a b c)
  (s1:S1 k s.heap) (s2:S2 k s.heap) (s3:S3 k s.heap) (k1:k<=n1) (k2:k<=n2) (k3:k<=n3) (ke:k=n1\/k=n2\/k=n3)
  (hQ:∀ h' tk,(∀ c o,c≠z->c≠TO->c≠i1->c≠i2->c≠i3->s.heap.get? c=some o->h'.get? c=some o)->Q none { s with heap:=h',toks:=tk }) :
  wpAny (model prog w) A (pyNext (.ref z)) Q E s:=by
 have ty:s.TypeIs (.ref z) "zip":=⟨_,hz,rfl⟩
 unfold pyNext
 refine wpAny_bind (wpAny_attempt (wpAny_callSpecial?_slot (name:=Str.ofString "__next__") ty F.slot_zip_next (wpAny_call_entry F.slot_zip_next ty F.entry_zip_next
  (zKI D1 D2 D3 Z hz hI hO s1 s2 s3 k1 k2 k3 ke λh' e tk keep he=>?_) (F.args_zip_next_1 _))))
 obtain ⟨o,ho,hc⟩:=he
 refine wpAny_bind (wpAny_isInstance (T:="StopIteration") (b:=true) ⟨o,ho,hc⟩ isSubtype_stop ?_)
 exact wpAny_pure (hQ _ _ keep)
end
abbrev Jc (l:Addr):Obj:={ cls:=.type "list_iterator",data:=.fields #[.ref l,.int 0 0] }
abbrev YN (h:Heap) (a:Addr):Heap:=h.push (Jc a)
abbrev YO (h:Heap) (a b:Addr):Heap:=(YN h a).push (Jc b)
abbrev X9 (h:Heap) (a b c:Addr):Heap:=(YO h a b).push (Jc c)
abbrev WA (h:Heap) (a b c:Addr):Heap:=(X9 h a b c).push { cls:=.type "tuple",data:=.seq #[.ref h.objs.size,.ref (YN h a).objs.size,.ref (YO h a b).objs.size] }
abbrev WB (h:Heap) (a b c:Addr):Heap:=(WA h a b c).push { cls:=.type "tuple",data:=.seq #[.none,.none,.none] }
abbrev qh (h:Heap) (a b c:Addr):Heap:=(WB h a b c).push { cls:=.type "zip",data:=.fields #[.none,.bool false,.bool false,.ref (X9 h a b c).objs.size,.ref (WA h a b c).objs.size] }
theorem zMX (a b c:Addr) (xs ys zs:Array Value) :
  Meets (Builtin.«zip.__new__» ⟨[.type "zip",.ref a,.ref b,.ref c],[]⟩) (λ_ R s=>s.heap.IsList a xs/\s.heap.IsList b ys/\s.heap.IsList c zs/\R (.ok (.ret (.ref (WB s.heap a b c).objs.size))) { s with heap:=qh s.heap a b c }):=
 .of_wp λprog w A R s h=>by
  obtain ⟨hp,g,d,tk,os⟩:=s; obtain ⟨h1,h2,h3,h⟩:=h
  have hsub:=sub_zip
  have e1:Heap.IsList (Shared.heap ⟨hp,g,d,tk,os⟩) a xs:=h1
  have e2:Heap.IsList (Shared.heap ⟨YN hp a,g,d,tk,os⟩) b ys:=Heap.IsList.push h2 _
  have e3:Heap.IsList (Shared.heap ⟨YO hp a b,g,d,tk,os⟩) c zs:=Heap.IsList.push (Heap.IsList.push h3 _) _
  wp_walk using wpAny_pyIter_list e1,wpAny_pyIter_list e2,wpAny_pyIter_list e3
  exact ⟨_,rfl,h⟩
theorem zMB {prog:Program} {w:World} {A:Around} {E:Value->Shared->Prop} {s:Shared} {a b c:Addr} {xs ys zs:Array Value} {Q:Value->Shared->Prop} (h1:s.heap.IsList a xs) (h2:s.heap.IsList b ys) (h3:s.heap.IsList c zs)
  (h:∀ h',IsZip h' (s.heap.objs.size + 5) (s.heap.objs.size + 3) (s.heap.objs.size + 4) .none->xJ h' (s.heap.objs.size + 3) (.ref s.heap.objs.size) (.ref (s.heap.objs.size + 1)) (.ref (s.heap.objs.size + 2))->xJ h' (s.heap.objs.size + 4) .none .none .none->
   h'.IsListIter s.heap.objs.size a 0->h'.IsListIter (s.heap.objs.size + 1) b 0->h'.IsListIter (s.heap.objs.size + 2) c 0->(∀ c o,s.heap.get? c=some o->h'.get? c=some o)->Q (.ref (s.heap.objs.size + 5)) { s with heap:=h' }) :
  wpAny (model prog w) A (call (.type "zip") [.ref a,.ref b,.ref c]) Q E s:=by
 refine callType_new F.called_zip (by decide) (zKH _ _ _) (zKF _ _ _) (λobj=>zLS obj _ _ _) F.entry_zip_new (zMX a b c xs ys zs) ⟨h1,h2,h3,?_⟩
 have n1:(YN s.heap a).objs.size=s.heap.objs.size + 1:=Heap.size_push ..
 have n2:(YO s.heap a b).objs.size=s.heap.objs.size + 2:=by rw [Heap.size_push,n1]
 have n3:(X9 s.heap a b c).objs.size=s.heap.objs.size + 3:=by rw [Heap.size_push,n2]
 have n4:(WA s.heap a b c).objs.size=s.heap.objs.size + 4:=by rw [Heap.size_push,n3]
 have n5:(WB s.heap a b c).objs.size=s.heap.objs.size + 5:=by rw [Heap.size_push,n4]
 have p6:(qh s.heap a b c).get? (WB s.heap a b c).objs.size=some _:=Heap.get?_push_size _ rfl
 have p5:(qh s.heap a b c).get? (WA s.heap a b c).objs.size=some _:=Heap.get?_push_of_some _ (Heap.get?_push_size _ rfl)
 have p4:(qh s.heap a b c).get? (X9 s.heap a b c).objs.size=some _:=Heap.get?_push_of_some _ (Heap.get?_push_of_some _ (Heap.get?_push_size _ rfl))
 have p3:(qh s.heap a b c).get? (YO s.heap a b).objs.size=some _:=Heap.get?_push_of_some _ (Heap.get?_push_of_some _ (Heap.get?_push_of_some _ (Heap.get?_push_size _ rfl)))
 have p2:(qh s.heap a b c).get? (YN s.heap a).objs.size=some _:=Heap.get?_push_of_some _ (Heap.get?_push_of_some _ (Heap.get?_push_of_some _ (Heap.get?_push_of_some _ (Heap.get?_push_size _ rfl))))
 have p1:(qh s.heap a b c).get? s.heap.objs.size=some _:=Heap.get?_push_of_some _ (Heap.get?_push_of_some _ (Heap.get?_push_of_some _ (Heap.get?_push_of_some _ (Heap.get?_push_of_some _ (Heap.get?_push_size _ rfl)))))
 change _/\_
 rw [n3,n4,n5] at p6
 rw [n1,n2,n3] at p4
 rw [n4] at p5
 rw [n2] at p3
 rw [n1] at p2
 rw [n5]
 exact ⟨⟨_,p6,rfl⟩,h _ p6 p4 p5 ⟨_,p1,rfl,rfl⟩ ⟨_,p2,rfl,rfl⟩ ⟨_,p3,rfl,rfl⟩ λc o x=>Heap.get?_push_of_some _ (Heap.get?_push_of_some _ (Heap.get?_push_of_some _ (Heap.get?_push_of_some _ (Heap.get?_push_of_some _ (Heap.get?_push_of_some _ x)))))⟩
theorem zG.turnT3 {X:Cx} {pins:List (Addr × Obj)} {σ:St} {H:Hp} {s:Shared} {h':Heap} {tk:Nat} {ch:List Addr} {T:Addr} {x y t:V} {u v r:Value} (I:zG X pins σ H s) (hf:∀ b∈ch,yY X pins H b) (keep:∀ b o,b∉ch->s.heap.get? b=some o->h'.get? b=some o)
  (hT:s.heap.objs.size<=T) (p:xJ h' T u v r) (rx:zV x u) (ry:zV y v) (rt:zV t r):zG X pins σ (zY H T (.tup [x,y,t])) { s with heap:=h',toks:=tk }:=by
 have fr:H T=none:=I.hok.fresh hT
 have nT:∀ b o,s.heap.get? b=some o->b≠T:=λb o e z=>by rw [z] at e; exact absurd (Nat.lt_of_lt_of_le (Heap.lt_size e) hT) (Nat.lt_irrefl _)
 have v6:∀ b o,H b=some o->b∉ch:=λb o e z=>by rw [(hf b z).1] at e; cases e
 refine I.step (ch:=ch) (λb hb=>⟨(hf b hb).2.2.2.1,(hf b hb).2.1,(hf b hb).2.2.2.2.1,(hf b hb).2.2.2.2.2⟩) (λb o _ _ hc e _=>keep b o hc e) (λb o _ _ hc e _=>⟨o.slots,keep b o hc e⟩)
  (λb o _ e n=>by rw [zu (nT b o e)]; exact n) (λb o hc e=>⟨o,keep b o hc e⟩) (λb xs e=>by rw [zu (xG e fr)]; exact e) (λb o w e=>by rw [zu (xG e fr)]; exact e)
  (λb ps e=>⟨#[],by rw [zu (xG e fr),e]; simp⟩) (λm hm=>?_) (λb w e=>?_) I.bare
 ·obtain ⟨o,es,ep,ho,r⟩:=hm
  exact ⟨o,es,ep,keep _ o (λz=>(hf _ z).2.1 rfl) ho,r⟩
 ·by_cases hb:b=T
  ·subst hb
   rw [xF] at e
   cases e
   exact ⟨by show 3<=sizeLine; decide,[u,v,r],.cons rx (.cons ry (.cons rt .nil)),⟨_,p,rfl,_,rfl⟩⟩
  ·rw [zu hb] at e
   refine (I.hok b w e).stay (λc q hc ec=>keep c q ?_ ec) (λc ec=>by rw [zu (xG ec fr)]; exact ec) λc xs ec=>by rw [zu (xG ec fr)]; exact ec
   rcases hc with z | z
   ·rw [z]
    exact v6 b w e
   ·exact v6 c _ z
def qi (K:PySem.W.Frag) (a b c:Addr):It:=
 ⟨λi H=>∃ xs ys zs x y t,zT K H a xs/\zT K H b ys/\zT K H c zs/\xs[i]? = some x/\ys[i]? = some y/\zs[i]? = some t,
  λi H v H'=>∃ T x y t,v=.ref T/\H T=none/\H'=zY H T (.tup [x,y,t])/\(∀ xs,zT K H a xs->xs[i]? = some x)/\(∀ ys,zT K H b ys->ys[i]? = some y)/\∀ zs,zT K H c zs->zs[i]? = some t,
  λi H=>∃ xs ys zs,zT K H a xs/\zT K H b ys/\zT K H c zs/\i<=xs.length/\i<=ys.length/\i<=zs.length/\(i=xs.length\/i=ys.length\/i=zs.length)⟩
theorem zKQ {P:Program} {w:World} {K:PySem.W.Frag} {es:List Expr} {kk:Nat} {tp:Pos} {a b c z TI TO i1 i2 i3:Addr} (Z:Zt z TI TO i1 i2 i3 [i1,a] [i2,b] [i3,c]) (na:a≠i1) (nb:b≠i2) (nc:c≠i3) :
  wE P w K (.Tuple es kk tp) (qi K a b c) [z,TI,TO,i1,i2,i3] z (λi h=>IsZip h z TI TO .none/\xJ h TI (.ref i1) (.ref i2) (.ref i3)/\(∃ x y t,xJ h TO x y t)/\h.IsListIter i1 a i/\h.IsListIter i2 b i/\h.IsListIter i3 c i) where
 mem:=by simp
 obj:=λi h ⟨t1,t2,⟨x,y,t,t3⟩,t4,t5,t6⟩ d hd=>by
  simp only [List.mem_cons,List.not_mem_nil,or_false] at hd
  rcases hd with rfl | rfl | rfl | rfl | rfl | rfl
  ·exact ⟨_,t1,uK⟩
  ·exact ⟨_,t2,gP⟩
  ·exact ⟨_,t3,gP⟩
  ·obtain ⟨o,e,_,d⟩:=t4
   exact ⟨o,e,by rw [d]; exact uK⟩
  ·obtain ⟨o,e,_,d⟩:=t5
   exact ⟨o,e,by rw [d]; exact uK⟩
  ·obtain ⟨o,e,_,d⟩:=t6
   exact ⟨o,e,by rw [d]; exact uK⟩
 keep:=λi h h' ⟨t1,t2,⟨x,y,t,t3⟩,t4,t5,t6⟩ k=>⟨k z (by simp) _ t1,k TI (by simp) _ t2,⟨x,y,t,k TO (by simp) _ t3⟩,(by obtain ⟨o,e,r⟩:=t4; exact ⟨o,k i1 (by simp) o e,r⟩),(by obtain ⟨o,e,r⟩:=t5; exact ⟨o,k i2 (by simp) o e,r⟩),(by obtain ⟨o,e,r⟩:=t6; exact ⟨o,k i3 (by simp) o e,r⟩)⟩
 item:=by
  intro X hP hw hK hc i pins s σ H E I hf ⟨t1,t2,⟨x0,y0,w0,t3⟩,t4,t5,t6⟩ hg
  subst hP hw hK
  obtain ⟨xs,ys,zs,x,y,t,hq1,hq2,hq3,hx,hy,ht⟩:=hg
  obtain ⟨its1,rv1,p1,_⟩:=I.list hq1
  obtain ⟨its2,rv2,p2,_⟩:=I.list hq2
  obtain ⟨its3,rv3,p3,_⟩:=I.list hq3
  obtain ⟨u,hu,ru⟩:=rv1.get hx
  obtain ⟨v,hv,rv⟩:=rv2.get hy
  obtain ⟨r,hr,rt⟩:=rv3.get ht
  have hh:X.A.in1.handled=none:=I.ok.hd hc
  have l1:i < its1.toArray.size:=by rw [List.size_toArray]; exact (List.getElem?_eq_some_iff.mp hu).1
  have l2:i < its2.toArray.size:=by rw [List.size_toArray]; exact (List.getElem?_eq_some_iff.mp hv).1
  have l3:i < its3.toArray.size:=by rw [List.size_toArray]; exact (List.getElem?_eq_some_iff.mp hr).1
  refine zKJ (Draws.list hh i1 a na its1.toArray) (Draws.list hh i2 b nb its2.toArray) (Draws.list hh i3 c nc its3.toArray) Z t1 t2 t3 ⟨t4,p1.isList⟩ ⟨t5,p2.isList⟩ ⟨t6,p3.isList⟩ l1 l2 l3 ?_
  intro x' y' t' h1 tk px py pt z1 z2 z3 z4 z5 z8 z6 keep
  have ex:x'=u:=by
   have q:its1.toArray[i]? = some x':=px
   simp only [List.getElem?_toArray] at q
   rw [hu] at q
   exact (Option.some.inj q).symm
  have ey:y'=v:=by
   have q:its2.toArray[i]? = some y':=py
   simp only [List.getElem?_toArray] at q
   rw [hv] at q
   exact (Option.some.inj q).symm
  have et:t'=r:=by
   have q:its3.toArray[i]? = some t':=pt
   simp only [List.getElem?_toArray] at q
   rw [hr] at q
   exact (Option.some.inj q).symm
  subst ex ey et
  refine ⟨_,rfl,wpAny_letOwnedTupleGo_zip (s:={ s with heap:=h1,toks:=tk }) z1 λh2 z7 sb=>?_⟩
  have zlt:z < s.heap.objs.size:=Heap.lt_size t1
  have keep2:∀ d o,d∉[z,TI,TO,i1,i2,i3]->s.heap.get? d=some o->h2.get? d=some o:=λd o hc e=>by
   simp only [List.mem_cons,List.not_mem_nil,or_false,not_or] at hc
   exact sb.extBut d o hc.1 (keep d o hc.1 hc.2.2.1 hc.2.2.2.1 hc.2.2.2.2.1 hc.2.2.2.2.2 e)
  have pT:xJ h2 s.heap.objs.size x' y' t':=sb.extBut _ _ (Nat.ne_of_gt zlt) z6
  have I':=I.turnT3 (h':=h2) (tk:=tk) (ch:=[z,TI,TO,i1,i2,i3]) (x:=x) (y:=y) (t:=t) hf keep2 (Nat.le_refl _) pT ru rv rt
  refine ⟨.ref s.heap.objs.size,_,I',rfl,⟨s.heap.objs.size,x,y,t,rfl,I.hok.fresh (Nat.le_refl _),rfl,λxs' q=>by rw [I.list_inj q hq1]; exact hx,λys' q=>by rw [I.list_inj q hq2]; exact hy,λzs' q=>by rw [I.list_inj q hq3]; exact ht⟩,
   ⟨z7,sb.extBut _ _ Z.zI z2,⟨_,_,_,sb.extBut _ _ Z.zO z3⟩,z4.1.extBut sb.extBut Z.z1,z5.1.extBut sb.extBut Z.z2,z8.1.extBut sb.extBut Z.z3⟩,λd hc=>?_⟩
  have:=(hf d hc).1
  rw [zu]
  ·exact this
  ·intro q
   obtain ⟨o,e,_⟩:∃ o,s.heap.get? d=some o/\True:=by
    simp only [List.mem_cons,List.not_mem_nil,or_false] at hc
    rcases hc with rfl | rfl | rfl | rfl | rfl | rfl
    ·exact ⟨_,t1,trivial⟩
    ·exact ⟨_,t2,trivial⟩
    ·exact ⟨_,t3,trivial⟩
    ·obtain ⟨o,e,_⟩:=t4; exact ⟨o,e,trivial⟩
    ·obtain ⟨o,e,_⟩:=t5; exact ⟨o,e,trivial⟩
    ·obtain ⟨o,e,_⟩:=t6; exact ⟨o,e,trivial⟩
   rw [q] at e
   exact absurd (Heap.lt_size e) (Nat.lt_irrefl _)
 done:=by
  intro X hP hw hK hc i pins s σ H E I hf ⟨t1,t2,⟨x0,y0,w0,t3⟩,t4,t5,t6⟩ hg
  subst hP hw hK
  obtain ⟨xs,ys,zs,hq1,hq2,hq3,e1,e2,e4,e3⟩:=hg
  obtain ⟨its1,rv1,p1,_⟩:=I.list hq1
  obtain ⟨its2,rv2,p2,_⟩:=I.list hq2
  obtain ⟨its3,rv3,p3,_⟩:=I.list hq3
  have hh:X.A.in1.handled=none:=I.ok.hd hc
  have n1:its1.toArray.size=xs.length:=by rw [List.size_toArray]; exact rv1.length.symm
  have n2:its2.toArray.size=ys.length:=by rw [List.size_toArray]; exact rv2.length.symm
  have n3:its3.toArray.size=zs.length:=by rw [List.size_toArray]; exact rv3.length.symm
  refine zMZ (Draws.list hh i1 a na its1.toArray) (Draws.list hh i2 b nb its2.toArray) (Draws.list hh i3 c nc its3.toArray) Z t1 t2 t3 ⟨t4,p1.isList⟩ ⟨t5,p2.isList⟩ ⟨t6,p3.isList⟩ (by omega) (by omega) (by omega) (by omega) ?_
  intro h1 tk keep
  refine ⟨rfl,I.turnN (h':=h1) (tk:=tk) (ch:=[z,TI,TO,i1,i2,i3]) hf λd o hc e=>?_⟩
  simp only [List.mem_cons,List.not_mem_nil,or_false,not_or] at hc
  exact keep d o hc.1 hc.2.2.1 hc.2.2.2.1 hc.2.2.2.2.1 hc.2.2.2.2.2 e
 self:=λ_ _ _ _ _ st h=>wpAny_pyIter_zip st.1 h
theorem YQ (n a b c:Nat) (la:a < n) (lb:b < n) (lc:c < n):Zt (n + 5) (n + 3) (n + 4) n (n + 1) (n + 2) [n,a] [n + 1,b] [n + 2,c]:=by
 have e:∀ x y:Nat,x≠y->(x:Addr)≠y:=λ_ _ h=>h
 constructor <;> first | exact e _ _ (by omega) | exact vQ (by omega) (by omega)
section
variable {X:Cx} {es:List Expr} {kk:Nat} {tp:Pos}
def YR (K:PySem.W.Frag) (ta:TA):TI:=λσ H R=>ta σ H λvs H1=>∃ a b c,vs=[.ref a,.ref b,.ref c]/\(∃ xs,zT K H1 a xs)/\(∃ ys,zT K H1 b ys)/\(∃ zs,zT K H1 c zs)/\R (qi K a b c) H1
theorem zPR {a b c:V} {us:List Value} (h:zR [a,b,c] us):∃ u v r,us=[u,v,r]/\zV a u/\zV b v/\zV c r:=by
 cases h with
 | cons h1 h=>cases h with
  | cons h2 h=>cases h with
   | cons h3 h=>cases h; exact ⟨_,_,_,rfl,h1,h2,h3⟩
theorem zOi {e1 e2 e3:Expr} {ta:TA} {p pos:Pos} (hg:Gl X "zip") (hm:X.mg "zip" = none) (ha:PA X [e1,e2,e3] ta) (hs:starEach [e1,e2,e3] X.env=(false,eval e1 X.env) :: starEach [e2,e3] X.env:=by rfl) (hpl:(backTo pos (starEach [e2,e3] X.env)).any (·.1)=false:=by rfl) :
  PI X (.Tuple es kk tp) (.Call (.Name "zip" p) [e1,e2,e3] [] pos) (YR X.K ta):=by
 intro pins s σ H R I h
 refine Call_ (qE I hg hm (show bootBuiltins "zip" = some (.type "zip") by decide +kernel) (PyProof.Rows.callWith_type1 (zk (ha pos pins s σ H _ I h) λus s1 ⟨vs,H1,I1,r1,q1⟩=>?_) hs hpl))
 obtain ⟨a,b,c,e,⟨xs,hx⟩,⟨ys,hy⟩,⟨zs,hz⟩,q⟩:=q1
 subst e
 obtain ⟨u,v,r,rfl,ru,rv,rr⟩:=zPR r1
 cases ru
 cases rv
 cases rr
 obtain ⟨its1,rv1,p1,_⟩:=I1.list hx
 obtain ⟨its2,rv2,p2,_⟩:=I1.list hy
 obtain ⟨its3,rv3,p3,_⟩:=I1.list hz
 have la:a < s1.heap.objs.size:=by obtain ⟨o,n,e,_⟩:=p1; exact Heap.lt_size e
 have lb:b < s1.heap.objs.size:=by obtain ⟨o,n,e,_⟩:=p2; exact Heap.lt_size e
 have lc:c < s1.heap.objs.size:=by obtain ⟨o,n,e,_⟩:=p3; exact Heap.lt_size e
 refine zMB p1.isList p2.isList p3.isList λh' z1 z2 z3 z4 z5 z6 keep=>wpAny_pyIter_zip z1 ?_
 have I2:zG X pins σ H1 { s1 with heap:=h' }:=I1.kept (t':=s1.toks) keep
 refine ⟨s1.heap.objs.size + 5,[s1.heap.objs.size + 5,s1.heap.objs.size + 3,s1.heap.objs.size + 4,s1.heap.objs.size,s1.heap.objs.size + 1,s1.heap.objs.size + 2],_,_,H1,rfl,I2,
  zKQ (a:=a) (b:=b) (c:=c) (YQ _ _ _ _ la lb lc) (Nat.ne_of_lt la) (Nat.ne_of_lt (Nat.lt_succ_of_lt lb)) (Nat.ne_of_lt (Nat.lt_succ_of_lt (Nat.lt_succ_of_lt lc))),⟨z1,z2,⟨_,_,_,z3⟩,z4,z5,z6⟩,λd hc=>?_,q⟩
 have ge:s1.heap.objs.size<=d:=by
  simp only [List.mem_cons,List.not_mem_nil,or_false] at hc
  rcases hc with rfl | rfl | rfl | rfl | rfl | rfl
  ·exact Nat.le_add_right _ 5
  ·exact Nat.le_add_right _ 3
  ·exact Nat.le_add_right _ 4
  ·exact Nat.le_refl _
  ·exact Nat.le_add_right _ 1
  ·exact Nat.le_add_right _ 2
 exact I1.fpOk ge (I1.hok.fresh ge)
end
end L2
namespace L2
open PySem PySem.Spec PyProof.Rows
section
variable {X:Cx}
theorem zMC (hc:X.calm=true):wv X (.builtin "max") (λxs H Q=>∃ (p:Addr) (ns:List Int),xs=[.ref p]/\zT X.K H p (ns.map V.int)/\0 < ns.length/\∀ M,M∈ns->(∀ a∈ns,a<=M)->Q (.int M) H):=by
 intro pins s σ H xs us Q I r h
 obtain ⟨p,ns,rfl,hl,h0,q⟩:=h
 obtain ⟨u,rfl,rx⟩:=jF r
 obtain rfl:u=.ref p:=rx
 obtain ⟨its,rv,pl,hz⟩:=I.list hl
 have hi:∀ {xs:List Int} {ys:List Value},zR (xs.map V.int) ys->IntsAre ys xs:=by
  intro xs
  induction xs with
  | nil=>intro ys h; cases h; exact .nil
  | cons x xs ih=>
   intro ys h
   cases h with
   | cons h1 h2=>
    obtain ⟨t,rfl⟩:=h1
    exact .cons x t (ih h2)
 have hA:=hi rv
 obtain ⟨xs,e⟩:=hA.allInts.items
 have hns:ns=xs.toList.map (·.1):=by rw [<- hA.numsOf,<- nums_intItems,<- e]
 have hsz:0 < xs.size:=by
  have h3:=h0
  rw [hns,List.length_map,Array.length_toList] at h3
  exact h3
 have hl2:=pl.isList
 rw [e] at hl2
 refine max_intList (I.ok.hd hc) hl2 hsz λv h' tk hv hk=>?_
 obtain ⟨t,rfl⟩:=intItems_at hv
 obtain ⟨h1,h2⟩:=argBest_gt (numAt xs) (xs.size - 1)
 refine ⟨.int _,H,I.kept hk,⟨t,rfl⟩,q _ ?_ λa ha=>?_⟩
 ·rw [hns,numAt_eq]
  rw [List.getD_eq_getElem?_getD,List.getElem?_eq_getElem (by rw [List.length_map,Array.length_toList]; omega)]
  exact List.getElem_mem _
 ·rw [hns] at ha
  obtain ⟨j,hj,rfl⟩:=mem_getD ha
  rw [List.length_map,Array.length_toList] at hj
  have:=h2 j (by omega)
  rw [numAt_eq] at this
  exact this
end
end L2
namespace Pu
open PySem L2 Sh
abbrev YS (x y t:D):D:=.tup [x,y,t]
def vq:List D->List D->List D->List D
 | a :: as,b :: bs,c :: cs=>YS a b c :: vq as bs cs
 | _,_,_=>[]
theorem zNj:∀ (as bs cs:List D),(vq as bs cs).length=min as.length (min bs.length cs.length)
 | [],_,_=>by simp [vq]
 | _ :: _,[],_=>by simp [vq]
 | _ :: _,_ :: _,[]=>by simp [vq]
 | _ :: as,_ :: bs,_ :: cs=>by
  show (vq as bs cs).length + 1=_
  rw [zNj as bs cs]
  simp only [List.length_cons]
  omega
theorem zNk:∀ {as bs cs:List D} {i:Nat} {d:D},(vq as bs cs)[i]? = some d->∃ a b c,as[i]? = some a/\bs[i]? = some b/\cs[i]? = some c/\d=YS a b c
 | [],_,_,_,_,h=>by simp [vq] at h
 | _ :: _,[],_,_,_,h=>by simp [vq] at h
 | _ :: _,_ :: _,[],_,_,h=>by simp [vq] at h
 | a :: _,b :: _,c :: _,0,d,h=>⟨a,b,c,rfl,rfl,rfl,by cases h; rfl⟩
 | _ :: as,_ :: bs,_ :: cs,i + 1,d,h=>by
  obtain ⟨a,b,c,h1,h2,h3,e⟩:=zNk (as:=as) (bs:=bs) (cs:=cs) (i:=i) (d:=d) h
  exact ⟨a,b,c,h1,h2,h3,e⟩
theorem zNi {α β:Type} (u:α->D) (v:β->D):∀ (xs:List α) (ys:List β) (cs:List D),vq (xs.map u) (ys.map v) cs=(xs.zip (ys.zip cs)).map λp=>YS (u p.1) (v p.2.1) p.2.2
 | [],_,_=>rfl
 | _ :: _,[],_=>rfl
 | _ :: _,_ :: _,[]=>rfl
 | x :: xs,y :: ys,c :: cs=>by
  show YS (u x) (v y) c :: vq (xs.map u) (ys.map v) cs=_
  rw [zNi u v xs ys cs]
  rfl
theorem zOO {K:PySem.W.Frag} {Z:Addr->Prop} {H:Hp} {a b c:Addr} {xs ys zs:List V} {ds es fs:List D} (h1:∀ Z' H',zD (zL Z H) (zL Z' H')->zT K H' a xs) (h2:∀ Z' H',zD (zL Z H) (zL Z' H')->zT K H' b ys) (h3:∀ Z' H',zD (zL Z H) (zL Z' H')->zT K H' c zs) (hx:yG (zL Z H) xs ds) (hy:yG (zL Z H) ys es) (hz:yG (zL Z H) zs fs) :
  Wk Z (qi K a b c) H (vq ds es fs):=λi Z' H' s zd=>by
 have a1:=h1 Z' H' s
 have a2:=h2 Z' H' s
 have a3:=h3 Z' H' s
 have l1:=xC hx
 have l2:=xC hy
 have l3:=xC hz
 refine ⟨λd hd=>?_,λhi=>?_⟩
 ·obtain ⟨p,q,r,hp,hq,hr,rfl⟩:=zNk hd
  obtain ⟨x,gx,kx⟩:=jz hx hp
  obtain ⟨y,gy,ky⟩:=jz hy hq
  obtain ⟨t,gt,kt⟩:=jz hz hr
  refine ⟨⟨xs,ys,zs,x,y,t,a1,a2,a3,gx,gy,gt⟩,λv H'' ⟨T,x',y',t',ev,hT,eH,q1,q2,q3⟩=>?_⟩
  have:=q1 xs a1
  rw [gx] at this
  cases this
  have:=q2 ys a2
  rw [gy] at this
  cases this
  have:=q3 zs a3
  rw [gt] at this
  cases this
  subst ev
  subst eH
  exact ⟨yy hT _,ZZ zd hT (.cons (kx.same s) (.cons (ky.same s) (.cons (kt.same s) .nil)))⟩
 ·rw [zNj] at hi
  exact ⟨xs,ys,zs,a1,a2,a3,by omega,by omega,by omega,by omega⟩
def zPP:List D->(List D->Prop)->Prop
 | [.lst ds,.lst es,.lst fs],R=>R (vq ds es fs)
 | _,_=>False
theorem Jd {H:Hp} {vs:List V} {d e f:D} (h:yG H vs [d,e,f]):∃ v w u,vs=[v,w,u]/\DV H v d/\DV H w e/\DV H u f:=by
 cases h with
 | cons h1 h=>cases h with
  | cons h2 h=>cases h with
   | cons h3 h=>cases h; exact ⟨_,_,_,rfl,h1,h2,h3⟩
theorem zMt {X:Cx} {pl:yz} {e1 e2 e3:Expr} {pos:Pos} {ts:List Expr} {kk:Nat} {tp p:Pos} (hg:Gl X "zip") (hm:X.mg "zip" = none) (ha:PA X [e1,e2,e3] (xo pl)) (hs:starEach [e1,e2,e3] X.env=(false,eval e1 X.env) :: starEach [e2,e3] X.env:=by rfl) (hpl:(backTo pos (starEach [e2,e3] X.env)).any (·.1)=false:=by rfl) :
  PI X (.Tuple ts kk tp) (.Call (.Name "zip" p) [e1,e2,e3] [] pos) (uy (JE zPP pl)):=Zv (zOi hg hm ha hs hpl) λσ H Q ⟨Z,Γ,R,E,h,q⟩=>
 ⟨Z,Γ,_,E,h,λds vs H1 hd s1 hv=>by
  unfold zPP at hd
  split at hd
  ·obtain ⟨v,w,u,rfl,hx,hy,hz⟩:=Jd hv
   obtain ⟨a,xs,rfl,ea,ha⟩:=hx.lst_inv
   obtain ⟨b,ys,rfl,eb,hb⟩:=hy.lst_inv
   obtain ⟨c,zs,rfl,ec,hc⟩:=hz.lst_inv
   exact ⟨a,b,c,rfl,⟨xs,zT.of (zm _ _ ea)⟩,⟨ys,zT.of (zm _ _ eb)⟩,⟨zs,zT.of (zm _ _ ec)⟩,q _ _ H1 hd s1 (zOO (λ_ _ s=>zT.of (zm _ _ (s _ _ ea))) (λ_ _ s=>zT.of (zm _ _ (s _ _ eb))) (λ_ _ s=>zT.of (zm _ _ (s _ _ ec))) ha hb hc)⟩
  ·exact hd.elim⟩
section
variable {X:Cx} {a b:Expr} {pos:Pos} {pa pb:yE}
theorem zQF:ye X (compareOp .Is) (λx y H Q=>y=.non/\((x=.non/\Q (.bl true) H)\/∃ i,x=.int i/\Q (.bl false) H)):=by
 intro pins s σ H x y v u Q I rx ry h
 obtain ⟨rfl,⟨rfl,q⟩ | ⟨i,rfl,q⟩⟩:=h
 ·cases rx
  cases ry
  exact PyProof.Rows.is_none_none ⟨.bl true,H,I,rfl,q⟩
 ·obtain ⟨t,rfl⟩:=rx
  cases ry
  exact PyProof.Rows.is_none_ne (λh=>by cases h) ⟨.bl false,H,I,rfl,q⟩
def Je:F2
 | .non,.non,R=>R (.bool true)
 | .int _,.non,R=>R (.bool false)
 | _,_,_=>False
theorem zOx:x8 (λx y H Q=>y=.non/\((x=.non/\Q (.bl true) H)\/∃ i,x=.int i/\Q (.bl false) H)) Je:=λZ H x y a b R Q zd hx hy h q=>by
 unfold Je at h
 split at h
 ·cases hx
  cases hy
  exact ⟨rfl,.inl ⟨rfl,q _ _ H h (zD.refl _) (.bool _)⟩⟩
 ·cases hx
  cases hy
  exact ⟨rfl,.inr ⟨_,rfl,q _ _ H h (zD.refl _) (.bool _)⟩⟩
 ·exact h.elim
theorem zKo (ha:PE X a (tP pa)) (hb:PE X b (tP pb)):PT X (.Compare a [.Is] [b] pos) (xT (wH (xq Je pa pb))):=gW zQF zOx (uI _) ha hb
end
end Pu
namespace Pu
open PySem L2 Sh
def zQP:FL
 | [.lst ds],R=>∃ ns:List Int,ds=ns.map D.int/\0 < ns.length/\∀ M,M∈ns->(∀ a∈ns,a<=M)->R (.int M)
 | _,_=>False
theorem zNc {K:PySem.W.Frag}:uN (λxs H Q=>∃ (p:Addr) (ns:List Int),xs=[.ref p]/\zT K H p (ns.map V.int)/\0 < ns.length/\∀ M,M∈ns->(∀ a∈ns,a<=M)->Q (.int M) H) zQP:=λZ H vs ds R Q zd hv h q=>by
 unfold zQP at h
 split at h
 ·obtain ⟨v,rfl,hw⟩:=y6 hv
  obtain ⟨p,xs,rfl,e1,h1⟩:=hw.lst_inv
  obtain ⟨ns,rfl,l0,h⟩:=h
  cases Uu h1
  exact ⟨p,ns,rfl,zT.of (zm _ _ e1),l0,λM m1 m2=>q _ _ H (h M m1 m2) (zD.refl _) (.int _)⟩
 ·exact h.elim
end Pu
namespace Pu
open PySem L2 Sh
section
variable {X:Cx} {a b c:Expr} {pos:Pos} {pa pb pc:yE}
def zN5 (f g:F2) (pa pb pc:yE):yE:=λΓ R=>pa Γ λx=>pb Γ λy=>f x y λd=>bD d λk=>wc k (pc Γ λz=>g y z R) (R (.bool false))
theorem zMg {r r':R2} {f g:F2} (o:x8 r f) (o':x8 r' g) (σ:St) (H:Hp) (Q:VK):tP (zN5 f g pa pb pc) σ H Q->KY r r' (tP pa) (tP pb) (tP pc) σ H Q:=λ⟨Z,Γ,R,E,h,q⟩=>
 ⟨Z,Γ,_,E,h,λx v H1 hx s1 hv=>⟨Z,Γ,_,E.same s1,hx,λy u H2 hy s2 hu=>o Z H2 v u x y _ _ (E.same (s1.trans s2)).zd (hv.same (zz s2)) hu hy λd z H3 hd s3 hz=>by
  have s:=s1.trans (s2.trans s3)
  unfold bD at hd
  split at hd
  ·rename_i k
   cases hz
   refine ⟨k,rfl,?_⟩
   cases k with
   | true=>
    rw [if_pos rfl]
    exact ⟨Z,Γ,_,E.same s,hd.1 rfl,λt w H4 ht s4 hw=>o' Z H4 u w y t R Q (E.same (s.trans s4)).zd (hu.same (zz (s3.trans s4))) hw ht λd' v' H5 h5 s5 hv5=>q d' v' H5 h5 (s.trans (s4.trans s5)) hv5⟩
   | false=>
    rw [if_neg (by decide)]
    exact q _ _ H3 (hd.2 rfl) s (.bool _)
  ·exact hd.elim⟩⟩
theorem zKp {op op':CmpOp} {r r':R2} {f g:F2} (ho:ye X (compareOp op) r) (ho':ye X (compareOp op') r') (o:x8 r f) (o':x8 r' g) (ha:PE X a (tP pa)) (hb:PE X b (tP pb)) (hc:PE X c (tP pc)) (hm:lastMarks [op,op'] [b,c]=false:=by with_unfolding_all rfl):PT X (.Compare a [op,op'] [b,c] pos) (xT (wH (zN5 f g pa pb pc))):=Xs (zMw ho ho' ha hb hc hm) (U2 (zMg o o'))
end
end Pu
namespace Pu
open PySem L2 Sh
open PyProof.Rows (envOfC)
abbrev jQ:=(Addr->Prop)->Hp->(Addr->Prop)->Hp->V->Hp->D->Prop
inductive yw (Rt:jQ) (p:yX) (D0:xa) (σ:St) (H:Hp):Prop
 | mk (Zs:Addr->Prop) (Hs:Hp) (Z0:Addr->Prop) (H0:Hp) (Z:Addr->Prop) (Γ:List Sl) (Dp:X3) (E:yq Z0 H0 Z Γ σ H) (ss:zD (zL Zs Hs) (zL Z H)) (h:p Dp Γ)
  (rt:∀ d v H',Rt Zs Hs Z0 H0 v H' d->Dp.rt d->D0.rt v H'):yw Rt p D0 σ H
def YT (p q:yX):yX:=λD Γ=>p { nx:=q D,rt:=λ_=>False } Γ
def zP7 (p q:yX):yX:=λD Γ=>∃ M:List Sl->Prop,p { nx:=M,rt:=λ_=>False } Γ/\∀ Γ',M Γ'->q D Γ'
def vv:jQ:=λ_ _ Z0 H0 v H' d=>∃ es l xs,d=.lst es/\v=.ref l/\zD H0 H'/\H0 l=none/\H' l=some (.lst xs)/\yG (zL Z0 (xu l H')) xs es
structure YU (Z:Addr->Prop) (H:Hp) (N:Addr->Prop) (p:Addr) (d0:List D) (db:D) (d2 d3 d4:List D) (l0 l2 l3 l4:Addr) (vb:V) (x0 x2 x3 x4:List V):Prop where
 p:H p=some (.lst [.ref l0,vb,.ref l2,.ref l3,.ref l4])
 b:DV (zL Z H) vb db
 z0:Z l0
 z2:Z l2
 z3:Z l3
 z4:Z l4
 n0:N l0
 n2:N l2
 n3:N l3
 n4:N l4
 e0:H l0=some (.lst x0)
 e2:H l2=some (.lst x2)
 e3:H l3=some (.lst x3)
 e4:H l4=some (.lst x4)
 h0:yG (zL Z H) x0 d0
 h2:yG (zL Z H) x2 d2
 h3:yG (zL Z H) x3 d3
 h4:yG (zL Z H) x4 d4
 q02:l0≠l2
 q03:l0≠l3
 q04:l0≠l4
 q23:l2≠l3
 q24:l2≠l4
 q34:l3≠l4
def qj (Z:Addr->Prop) (H:Hp) (N:Addr->Prop) (p:Addr) (d0:List D) (db:D) (d2 d3 d4:List D):Prop:=∃ l0 l2 l3 l4 vb x0 x2 x3 x4,YU Z H N p d0 db d2 d3 d4 l0 l2 l3 l4 vb x0 x2 x3 x4
abbrev xW (d0:List D) (db:D) (d2 d3 d4:List D):D:=.lst [.lst d0,db,.lst d2,.lst d3,.lst d4]
structure YV (Zs:Addr->Prop) (Hs:Hp) (Z0:Addr->Prop) (H0:Hp) (Z':Addr->Prop) (H':Hp):Prop where
 same:zD H0 H'
 z0:∀ b,Z0 b->Z' b
 zd:ZL Z' H'
 ss:zD (zL Zs Hs) (zL Z' H')
def Jf:jQ:=λZs Hs Z0 H0 v H' d=>∃ d0 db d2 d3 d4 p Z',d=xW d0 db d2 d3 d4/\v=.ref p/\YV Zs Hs Z0 H0 Z' H'/\qj Z' H' (λl=>H0 l=none) p d0 db d2 d3 d4
def Jg:jQ:=λZs Hs Z0 H0 v H' d=>∃ di dg dt d0 db d2 d3 d4 a vi vg vt p Z',d=.tup [di,dg,dt,xW d0 db d2 d3 d4]/\v=.ref a/\H' a=some (.tup [vi,vg,vt,.ref p])/\DV (zL Z' H') vi di/\DV (zL Z' H') vg dg/\DV (zL Z' H') vt dt/\YV Zs Hs Z0 H0 Z' H'/\qj Z' H' (λl=>H0 l=none) p d0 db d2 d3 d4
theorem zNO {Z Z0:Addr->Prop} {H:Hp} {l:Addr} (z:∀ b,Z0 b->Z b) (hl:Z l):zD (zL Z H) (zL Z0 (xu l H)):=λb o e=>by
 obtain ⟨h1,h2⟩:=uD e
 rw [xV λk=>h1 (z _ k)]
 exact (if_neg λk=>h1 (by rw [k]; exact hl)).trans h2
def gd:Sl->(D->Prop)->Prop
 | .sh d,R=>R d
 | _,_=>False
theorem YW {s:Sl} {R:D->Prop} (h:gd s R):∃ d,s=.sh d/\R d:=by
 cases s with
 | sh d=>exact ⟨d,rfl,h⟩
 | _=>exact h.elim
def vL (Rt:jQ) (F:FL):Sp:=λvs H Q _=>∃ Z ds R,ZL Z H/\yG (zL Z H) vs ds/\F ds R/\∀ d v H',Rt Z H Z H v H' d->R d->Q v H'
theorem zOW {Rt:jQ} {ps:List Str} {F:FL} (len:∀ ds R,F ds R->ds.length=ps.length) (vs:List V) (H:Hp) (Q:VK) (E:XK):vL Rt F vs H Q E->vs.length=ps.length:=λ⟨Z,ds,R,zd,hv,h,q⟩=>by rw [xC hv]; exact len ds R h
section
variable {X:Cx} {e a b:Expr} {es:List Expr} {st:Stmt} {sts:List Stmt} {pos:Pos} {pa pb:yE} {pl:yz} {p q:yX} {Rt:jQ}
theorem vZ (h1:PS X st (yn p)) (h2:yc X sts (yw Rt q)):yc X (st :: sts) (yw Rt (YT p q)):=vW (wD h1 h2) λD σ H ⟨Zs,Hs,Z0,H0,Z,Γ,Dp,E,ss,h,rt⟩=>
 ⟨Z0,H0,Z,Γ,{ nx:=q Dp,rt:=λ_=>False },E,h,λZ' Γ' σ' H' E' s' h'=>⟨Zs,Hs,Z0,H0,Z',Γ',Dp,E',ss.trans s',h',rt⟩,λ_ _ _ _ _ h=>h.elim,λ_ _ _ _ _ _ h=>h.elim,λ_ _ _ _ _ _ h=>h.elim⟩
theorem qk (h1:PS X st (yn p)) (h2:yc X sts (yw Rt q)):yc X (st :: sts) (yw Rt (zP7 p q)):=vW (wD h1 h2) λD σ H ⟨Zs,Hs,Z0,H0,Z,Γ,Dp,E,ss,⟨M,h,k⟩,rt⟩=>
 ⟨Z0,H0,Z,Γ,{ nx:=M,rt:=λ_=>False },E,h,λZ' Γ' σ' H' E' s' h'=>⟨Zs,Hs,Z0,H0,Z',Γ',Dp,E',ss.trans s',k Γ' h',rt⟩,λ_ _ _ _ _ h=>h.elim,λ_ _ _ _ _ _ h=>h.elim,λ_ _ _ _ _ _ h=>h.elim⟩
theorem jR (h:PS X st (yw Rt q)):yc X [st] (yw Rt q):=jC h
theorem YX {c:Expr} {a:List Stmt} {t:wo} (hc:PT X c (xT t)) (ha:yc X a (yw Rt p)) (hb:yc X sts (yw Rt q)):yc X (.If c a [] pos :: sts) (yw Rt (pIf t p q)):=vW (wD (kR hc ha kP) hb) λD σ H ⟨Zs,Hs,Z0,H0,Z,Γ,Dp,E,ss,h,rt⟩=>
 ⟨Z,Γ,_,E.e,h,λc H1 hd s1=>by
  cases c with
  | true=>exact ⟨Zs,Hs,Z0,H0,Z,Γ,Dp,E.mv s1,ss.trans (zz s1),hd.1 rfl,rt⟩
  | false=>exact ⟨Zs,Hs,Z0,H0,Z,Γ,Dp,E.mv s1,ss.trans (zz s1),hd.2 rfl,rt⟩⟩
def ql (d e:D) (R:List D->Prop):Prop:=vX d λds=>vX e λes=>ds.length + es.length<=1000/\R (ds++es)
def YY (pa pb:yE):yX:=λD Γ=>pa Γ λd=>pb Γ λe=>ql d e λes=>D.rt (.lst es)
theorem zNn {Z:Addr->Prop} {Γ:List Sl} {σ:St} {H:Hp} {Q:VK} {S:List D->Prop} (E:yj Z Γ σ H) (h:pa Γ λd=>pb Γ λe=>ql d e S) (q:∀ es xs H1 n,S es->zD H H1->H1 n=none->yG (zL Z H1) xs es->Q (.ref n) (zY H1 n (.lst xs))):gG qJ (tP pa) (tP pb) σ H Q:=
 ⟨Z,Γ,_,E,h,λd v H1 hd s1 hv=>⟨Z,Γ,_,E.same s1,hd,λd2 v2 H2 hd2 s2 hv2=>by
  obtain ⟨ds,rfl,k⟩:=zJH hd2
  obtain ⟨es,rfl,l,hd2⟩:=zJH k
  have hv:=hv.same (zz s2)
  obtain ⟨p,xs,rfl,e1,h1⟩:=hv.lst_inv
  obtain ⟨r,ys,rfl,e2,h2⟩:=hv2.lst_inv
  have l1:=Paired.length h1
  have l2:=Paired.length h2
  exact ⟨p,r,xs,ys,rfl,rfl,zm _ _ e1,zm _ _ e2,few (by omega),λn hn=>q _ _ H2 n hd2 (s1.trans s2) hn (qP h1 h2)⟩⟩⟩
theorem YZ {pos':Pos} (ha:PE X a (tP pa)) (hb:PE X b (tP pb)):PS X (.Return (some (.BinOp a .Add b pos')) pos) (yw vv (YY pa pb)):=yI (uR (gH Xc ha hb)) λD σ H ⟨Zs,Hs,Z0,H0,Z,Γ,Dp,E,ss,h,rt⟩=>
 zNn E.e h λes xs H1 n hR s1 hn hx=>rt _ _ _ ⟨es,n,xs,rfl,rfl,E.same.trans (s1.trans (yy hn _)),(E.same.trans s1).free hn,xF,by rw [JZ hn]; exact yD (uu E.z0) hx⟩ hR
def Yb (pl:yz):yX:=λD Γ=>pl Γ λds=>ds.length<=1000/\D.rt (.lst ds)
theorem zKu {lp:Pos} (ha:PA X es (xo pl)):PS X (.Return (some (.List es lp)) pos) (yw vv (Yb pl)):=yI (uR (gJ ha)) λD σ H ⟨Zs,Hs,Z0,H0,Z,Γ,Dp,E,ss,h,rt⟩=>
 ⟨Z,Γ,_,E.e,h,λds vs H1 hd s1 hv=>⟨few (by rw [xC hv]; exact hd.1),λn hn=>rt _ _ _ ⟨ds,n,vs,rfl,rfl,E.same.trans (s1.trans (yy hn _)),(E.same.trans s1).free hn,xF,by rw [JZ hn]; exact yD (uu E.z0) hv⟩ hd.2⟩⟩
def Yc (i:Nat):yX:=λD Γ=>uO (slot Γ i) λds=>D.rt (.lst ds)
theorem zKt {i:Nat} (he:PE X e (yt i)):PS X (.Return (some e) pos) (yw vv (Yc i)):=yI (uR he) λD σ H ⟨Zs,Hs,Z0,H0,Z,Γ,Dp,E,ss,h,rt⟩=>by
 obtain ⟨ds,hs,hR⟩:=ua h
 obtain ⟨l,xs,hl,hz,el,hx⟩:=E.e.ow i ds hs
 exact ⟨_,hl,rt _ _ _ ⟨ds,l,xs,rfl,rfl,E.same,E.own i ds l hs hl,el,yD (zNO E.z0 hz) hx⟩ hR⟩
theorem Jh (i:Nat) {x y:Str} {ps:List Str} {k:Nat} {F:FL} {pos' pp p2:Pos} (hN:X.N.Nodup) (hi:X.N[i]? = some x) (hx:um X.env.scope x) (c:Fn X.prog X.w X.K X.mg X.base y ps k (vL vv F)) (hr:zc k X.A) (hg:Gl X y) (ha:PA X (e :: es) (xo pl))
  (hdb:(y == ("__debug__" : Str))=false:=by decide) (he:starEach (e :: es) X.env=(false,eval e X.env) :: starEach es X.env:=by rfl) (hpl:(backTo p2 (starEach es X.env)).any (·.1)=false:=by rfl)
  (hs:swapsWith (.Call (.Name y pp) (e :: es) [] p2) (some (.Name x pos')) pos.line X.env=pure false:=by rfl) (hf:X.fn x=true\/X.env.scope.names.lookup x=some .local:=by first | exact .inl rfl | exact .inr rfl | assumption) :
  PS X (.Assign [.Name x pos'] (.Call (.Name y pp) (e :: es) [] p2) pos) (yn (YI i F pl)):=yI (jD hN hi hx (uJ c hr hg ha hdb he hpl) hs hf) λD σ H ⟨Z0,H0,Z,Γ,Dp,E,h,nx,rt,bk,ct⟩=>
 ⟨Z,Γ,_,E.e,h,λds vs H1 hd s1 hv=>⟨Z,ds,_,(E.e.same s1).zd,by rw [List.append_nil]; exact hv,hd,λd v H' ⟨es,l,xs,e1,e2,s2,hl,el,hx⟩ hR=>by
  subst e1
  subst e2
  have s3:=s1.trans (zLd s2 hl)
  obtain ⟨E2,s4⟩:=(E.mv s3).make (p:=l) (if_pos rfl) hx i
  rw [zNN el] at E2 s4
  exact nx _ _ _ _ E2 ((zz s3).trans s4) hR⟩⟩
def Yd (i:Nat) (pa pb:yE):yX:=λD Γ=>pa Γ λd=>pb Γ λe=>ql d e λes=>D.nx (yJ Γ i (.ow es))
theorem zI7 (i:Nat) {x:Str} {pos' bp:Pos} (hN:X.N.Nodup) (hi:X.N[i]? = some x) (hx:um X.env.scope x) (ha:PE X a (tP pa)) (hb:PE X b (tP pb)) (hs:swapsWith (.BinOp a .Add b bp) (some (.Name x pos')) pos.line X.env=pure false:=by rfl) (hf:X.fn x=true\/X.env.scope.names.lookup x=some .local:=by first | exact .inl rfl | exact .inr rfl | assumption) :
  PS X (.Assign [.Name x pos'] (.BinOp a .Add b bp) pos) (yn (Yd i pa pb)):=yI (jD hN hi hx (gH Xc ha hb) hs hf) λD σ H ⟨Z0,H0,Z,Γ,Dp,E,h,nx,rt,bk,ct⟩=>
 zNn E.e h λes xs H1 n hR s1 hn hx=>by
  obtain ⟨E2,s2⟩:=(E.mv s1).make hn hx i
  exact nx _ _ _ _ E2 ((zz s1).trans s2) hR
def Ye (i0 ib i2 i3 i4:Nat):yX:=λD Γ=>i0≠i2/\i0≠i3/\i0≠i4/\i2≠i3/\i2≠i4/\i3≠i4/\uO (slot Γ i0) λd0=>gd (slot Γ ib) λdb=>uO (slot Γ i2) λd2=>uO (slot Γ i3) λd3=>uO (slot Γ i4) λd4=>D.rt (xW d0 db d2 d3 d4)
theorem zKr {i0 ib i2 i3 i4:Nat} {n0 nb n2 n3 n4:Str} {p0 p1 p2 p3 p4 lp:Pos} (h0:PE X (.Name n0 p0) (yt i0)) (hb:PE X (.Name nb p1) (yt ib)) (h2:PE X (.Name n2 p2) (yt i2)) (h3:PE X (.Name n3 p3) (yt i3)) (h4:PE X (.Name n4 p4) (yt i4)) :
  PS X (.Return (some (.List [.Name n0 p0,.Name nb p1,.Name n2 p2,.Name n3 p3,.Name n4 p4] lp)) pos) (yw Jf (Ye i0 ib i2 i3 i4)):=yI (uR (gJ (zS h0 (zS hb (zS h2 (zS h3 (zS h4 zy))))))) λD σ H ⟨Zs,Hs,Z0,H0,Z,Γ,Dp,E,ss,⟨a02,a03,a04,a23,a24,a34,h⟩,rt⟩=>by
 obtain ⟨d0,s0,h⟩:=ua h
 obtain ⟨db,sb,h⟩:=YW h
 obtain ⟨d2,s2,h⟩:=ua h
 obtain ⟨d3,s3,h⟩:=ua h
 obtain ⟨d4,s4,h⟩:=ua h
 obtain ⟨l0,x0,g0,z0,e0,k0⟩:=E.e.ow _ _ s0
 obtain ⟨l2,x2,g2,z2,e2,k2⟩:=E.e.ow _ _ s2
 obtain ⟨l3,x3,g3,z3,e3,k3⟩:=E.e.ow _ _ s3
 obtain ⟨l4,x4,g4,z4,e4,k4⟩:=E.e.ow _ _ s4
 obtain ⟨vb,gb,kb⟩:=E.e.sh _ _ sb
 refine ⟨_,g0,_,gb,_,g2,_,g3,_,g4,few (show 5<=1000 by decide),λn hn=>rt _ _ _ ⟨d0,db,d2,d3,d4,n,Z,rfl,rfl,⟨E.same.trans (yy hn _),E.z0,E.e.zd.same (yy hn _),ss.trans (zz (yy hn _))⟩,l0,l2,l3,l4,vb,x0,x2,x3,x4,?_⟩ h⟩
 have sn:=yy hn (HO.lst [.ref l0,vb,.ref l2,.ref l3,.ref l4])
 have hs:=zz (Z:=Z) sn
 exact ⟨xF,kb.same hs,z0,z2,z3,z4,E.own _ _ _ s0 g0,E.own _ _ _ s2 g2,E.own _ _ _ s3 g3,E.own _ _ _ s4 g4,sn _ _ e0,sn _ _ e2,sn _ _ e3,sn _ _ e4,yD hs k0,yD hs k2,yD hs k3,yD hs k4,λz=>a02 (E.e.ne _ _ _ _ l0 s0 s2 g0 (z ▸ g2)),λz=>a03 (E.e.ne _ _ _ _ l0 s0 s3 g0 (z ▸ g3)),λz=>a04 (E.e.ne _ _ _ _ l0 s0 s4 g0 (z ▸ g4)),λz=>a23 (E.e.ne _ _ _ _ l2 s2 s3 g2 (z ▸ g3)),λz=>a24 (E.e.ne _ _ _ _ l2 s2 s4 g2 (z ▸ g4)),λz=>a34 (E.e.ne _ _ _ _ l3 s3 s4 g3 (z ▸ g4))⟩
def Yg (ii ig it i0 ib i3 i4:Nat) (F:FL) (pl:yz):yX:=λD Γ=>i0≠i3/\i0≠i4/\i3≠i4/\gd (slot Γ ii) λdi=>gd (slot Γ ig) λdg=>gd (slot Γ it) λdt=>uO (slot Γ i0) λd0=>gd (slot Γ ib) λdb=>uO (slot Γ i3) λd3=>uO (slot Γ i4) λd4=>pl Γ λas=>F as λd=>vX d λd2=>D.rt (.tup [di,dg,dt,xW d0 db d2 d3 d4])
theorem zKs {ii ig it i0 ib i3 i4:Nat} {ni ng nt n0 nb n3 n4 y:Str} {q0 q1 q2 p0 p1 p2 p3 p4 yp lp tp:Pos} {tx:Nat} {ps:List Str} {k:Nat} {F:FL} (hi:PE X (.Name ni q0) (yt ii)) (hgg:PE X (.Name ng q1) (yt ig)) (ht:PE X (.Name nt q2) (yt it)) (h0:PE X (.Name n0 p0) (yt i0)) (hb:PE X (.Name nb p1) (yt ib)) (h3:PE X (.Name n3 p3) (yt i3)) (h4:PE X (.Name n4 p4) (yt i4))
  (c:Fn X.prog X.w X.K X.mg X.base y ps k (vL vv F)) (hr:zc k X.A) (hg:Gl X y) (ha:PA X (e :: es) (xo pl)) (hdb:(y == ("__debug__" : Str))=false:=by decide) (he:starEach (e :: es) X.env=(false,eval e X.env) :: starEach es X.env:=by rfl) (hpl:(backTo p2 (starEach es X.env)).any (·.1)=false:=by rfl) :
  PS X (.Return (some (.Tuple [.Name ni q0,.Name ng q1,.Name nt q2,.List [.Name n0 p0,.Name nb p1,.Call (.Name y yp) (e :: es) [] p2,.Name n3 p3,.Name n4 p4] lp] tx tp)) pos) (yw Jg (Yg ii ig it i0 ib i3 i4 F pl)):=yI (uR (Ke (zS hi (zS hgg (zS ht (zS (gJ (zS h0 (zS hb (zS (uJ c hr hg ha hdb he hpl) (zS h3 (zS h4 zy)))))) zy)))))) λD σ H ⟨Zs,Hs,Z0,H0,Z,Γ,Dp,E,ss,⟨a03,a04,a34,h⟩,rt⟩=>by
 obtain ⟨di,si,h⟩:=YW h
 obtain ⟨dg,sg,h⟩:=YW h
 obtain ⟨dt,st,h⟩:=YW h
 obtain ⟨d0,s0,h⟩:=ua h
 obtain ⟨db,sb,h⟩:=YW h
 obtain ⟨d3,s3,h⟩:=ua h
 obtain ⟨d4,s4,h⟩:=ua h
 obtain ⟨l0,x0,g0,z0,e0,k0⟩:=E.e.ow _ _ s0
 obtain ⟨l3,x3,g3,z3,e3,k3⟩:=E.e.ow _ _ s3
 obtain ⟨l4,x4,g4,z4,e4,k4⟩:=E.e.ow _ _ s4
 obtain ⟨vb,gb,kb⟩:=E.e.sh _ _ sb
 obtain ⟨vi,gi,ki⟩:=E.e.sh _ _ si
 obtain ⟨vg,gg,kg⟩:=E.e.sh _ _ sg
 obtain ⟨vt,gt,kt⟩:=E.e.sh _ _ st
 refine ⟨_,gi,_,gg,_,gt,_,g0,_,gb,Z,Γ,_,E.e,h,λas vs H1 hd s1 hv=>⟨Z,as,_,(E.e.same s1).zd,by rw [List.append_nil]; exact hv,hd,?_⟩⟩
 rintro _ _ H2 ⟨d2,l2,x2,rfl,rfl,sH,n2,e2,k2⟩ hR
 have s2:=s1.trans sH
 have nl2:=s1.free n2
 refine ⟨_,g3,_,g4,few (show 5<=1000 by decide),λn hn=>⟨few (show 4<=1000 by decide),λm hm=>?_⟩⟩
 obtain ⟨H3,hH3⟩:∃ H3,H3=zY H2 n (HO.lst [.ref l0,vb,.ref l2,.ref l3,.ref l4]):=⟨_,rfl⟩
 have t3:=yy hn (HO.lst [.ref l0,vb,.ref l2,.ref l3,.ref l4])
 have ep:H3 n=some (HO.lst [.ref l0,vb,.ref l2,.ref l3,.ref l4]):=by rw [hH3]; exact xF
 rw [<- hH3] at t3 hm |-
 have t4:=yy hm (HO.tup [vi,vg,vt,.ref n])
 obtain ⟨H4,hH4⟩:∃ H4,H4=zY H3 m (HO.tup [vi,vg,vt,.ref n]):=⟨_,rfl⟩
 have em:H4 m=some (HO.tup [vi,vg,vt,.ref n]):=by rw [hH4]; exact xF
 rw [<- hH4] at t4 |-
 have t:=t3.trans t4
 have tt:=s2.trans t
 have nz:¬ Z l2:=E.e.zd.new nl2
 have s:zD (zL Z H) (zL (λb=>Z b\/b=l2) H4):=λb o eb=>by
  obtain ⟨h1,h2⟩:=uD eb
  rw [xV λz=>z.elim h1 (xG h2 nl2)]
  exact tt _ _ h2
 have sl:zD (zL Z (xu l2 H2)) (zL (λb=>Z b\/b=l2) H4):=λb o eb=>by
  obtain ⟨h1,h2⟩:=uD eb
  by_cases c:b=l2
  ·rw [c,show xu l2 H2 l2=none from if_pos rfl] at h2; cases h2
  ·rw [xV λz=>z.elim h1 c]
   exact t _ _ ((if_neg c).symm.trans h2)
 have ne0:l0≠l2:=xG e0 nl2
 have ne3:l3≠l2:=xG e3 nl2
 have ne4:l4≠l2:=xG e4 nl2
 refine rt _ _ _ ⟨di,dg,dt,d0,db,d2,d3,d4,m,vi,vg,vt,n,λb=>Z b\/b=l2,rfl,rfl,em,ki.same s,kg.same s,kt.same s,⟨E.same.trans tt,λb hb=>.inl (E.z0 b hb),λb hb=>?_,ss.trans s⟩,l0,l2,l3,l4,vb,x0,x2,x3,x4,?_⟩ hR
 ·rcases hb with hb | rfl
  ·obtain ⟨u,eu,nu⟩:=E.e.zd b hb
   exact ⟨u,tt _ _ eu,nu⟩
  ·exact ⟨_,t _ _ e2,λ_ z=>nomatch z⟩
 ·exact ⟨t4 _ _ ep,kb.same s,.inl z0,.inr rfl,.inl z3,.inl z4,E.own _ _ _ s0 g0,E.same.free nl2,E.own _ _ _ s3 g3,E.own _ _ _ s4 g4,tt _ _ e0,t _ _ e2,tt _ _ e3,tt _ _ e4,yD s k0,yD sl k2,yD s k3,yD s k4,ne0,λz=>a03 (E.e.ne _ _ _ _ l0 s0 s3 g0 (z ▸ g3)),λz=>a04 (E.e.ne _ _ _ _ l0 s0 s4 g0 (z ▸ g4)),ne3.symm,ne4.symm,λz=>a34 (E.e.ne _ _ _ _ l3 s3 s4 g3 (z ▸ g4))⟩
end
theorem zNE {Rt:jQ} {N ps:List Str} {F:FL} {p:yX} (len:∀ ds R,F ds R->ds.length=ps.length) (h2:∀ ds R,F ds R->p { nx:=λ_=>False,rt:=R } (ds.map Sl.sh++List.replicate (N.length - ps.length) .no)) {H:Hp} {vs:List V} {Q:VK} {E:XK} (h:vL Rt F vs H Q E):yw Rt p { nx:=λ_ H'=>Q .non H',rt:=Q } (L2.xl N vs) H:=by
 obtain ⟨Z,ds,R,zd,hv,h,q⟩:=h
 have e:L2.xl N vs=vs.map some++List.replicate (N.length - ps.length) none:=by
  unfold L2.xl
  rw [xC hv,len ds R h]
 refine ⟨Z,H,Z,H,Z,_,_,⟨?_,λ_ h=>h,zd,zD.refl _,?_,?_⟩,zD.refl _,h2 ds R h,λd v H' k hR=>q d v H' k hR⟩
 ·rw [e]
  exact X5 zd hv _
 ·exact λi as l e=>absurd e (ga (λi as h=>by rw [vD] at h; cases h) i as)
 ·exact λi o c ns as e=>absurd e (gZ (λi o c ns as h=>by rw [vD] at h; cases h) i o c ns as)
variable {P:Program} {w:World} {K:PySem.W.Frag} {mg:Str->Option Value} {base:Heap}
theorem Ji {Rt:jQ} {x qual:Str} {st:Stmt} {f:Addr} {fd:FuncData} {N ps:List Str} {k:Nat} {F:FL} (Fu:zg K x qual st f fd) (S:ze N ps (zK st)) (len:∀ ds R,F ds R->ds.length=ps.length)
  (hbody:∀ (cdv:Value) (A:Around) (outer:List Env) (s:Shared) (H:Hp) (E:XK),zc k (A.deeper (envOfC qual (zK st) s.heap.objs.size f cdv))->
   ∃ p,yc (xN zW P w K mg base N qual (zK st) f cdv A outer s H E).nox (xR st) (yw Rt p)/\∀ ds R,F ds R->p { nx:=λ_=>False,rt:=R } (ds.map Sl.sh++List.replicate (N.length - ps.length) .no)):zF P w K mg base zW (k + 1) f fd ps (vL Rt F):=
 Fu.ok S (zOW len) λcdv A outer s H vs Q E hr h=>let ⟨p,h1,h2⟩:=hbody cdv A outer s H E hr; ⟨_,h1,zNE len h2 h⟩
theorem Yh {F:FL} (vs:List V) (H:Hp) (Q:VK) (E:XK):zH F vs H Q E->vL vv F vs H Q E:=λ⟨Z,ds,R,zd,hv,h,q⟩=>⟨Z,ds,R,zd,hv,h,λd v H' ⟨es,l,xs,e1,e2,s,n,e,hx⟩ hR=>by
 subst e1
 subst e2
 refine q _ _ H' hR s (.lst ((xV (zd.new n)).trans e) (yD (zz λb o z=>?_) hx))
 by_cases c:b=l
 ·rw [c,show xu l H' l=none from if_pos rfl] at z; cases z
 ·exact (if_neg c).symm.trans z⟩
theorem Yi {x:Str} {ps:List Str} {k:Nat} {F:FL} (c:Fn P w K mg base x ps k (vL vv F)):Fn P w K mg base x ps k (zH F):=by
 obtain ⟨f,fd,a,b⟩:=c.ex
 exact ⟨f,fd,zF.impN Yh a,b⟩
def Jj (F:FL):Sp:=λvs H Q _=>∃ Z Z0 H0 p c d0 db d2 d3 d4 R,vs=[.ref p,.int c]/\ZL Z H/\(∀ b,Z0 b->Z b)/\ZL Z0 H0/\zD H0 H/\qj Z H (λl=>H0 l=none) p d0 db d2 d3 d4/\F [xW d0 db d2 d3 d4,.int c] R/\∀ d v H',Jf Z H Z0 H0 v H' d->R d->Q v H'
theorem zPE {Z Z0:Addr->Prop} {H H0:Hp} {p:Addr} {c:Int} {d0 d2 d3 d4:List D} {db:D} {l0 l2 l3 l4:Addr} {vb:V} {x0 x2 x3 x4:List V} (n:Nat) (zd:ZL Z H) (z0:∀ b,Z0 b->Z b) (z0d:ZL Z0 H0) (s:zD H0 H) (A:YU Z H (λl=>H0 l=none) p d0 db d2 d3 d4 l0 l2 l3 l4 vb x0 x2 x3 x4) :
  yq Z0 H0 Z (.no :: .sh (.int c) :: .ow d0 :: .sh db :: .ow d2 :: .ow d3 :: .ow d4 :: List.replicate n .no) (some (.ref p) :: some (.int c) :: some (.ref l0) :: some vb :: some (.ref l2) :: some (.ref l3) :: some (.ref l4) :: List.replicate n none) H:=by
 refine ⟨⟨λi d q=>?_,λi d q=>?_,λi o' c ns d q=>?_,λi j as bs l q r g h=>?_,zd,by simp⟩,z0,z0d,s,λi d l q h=>?_,λi o c ns d q=>?_⟩
 ·rcases i with _ | _ | _ | _ | _ | _ | _ | i
  ·cases q
  ·cases q; exact ⟨_,rfl,.int c⟩
  ·cases q
  ·cases q; exact ⟨_,rfl,A.b⟩
  ·cases q
  ·cases q
  ·cases q
  ·have:=(vD n i).symm.trans q; cases this
 ·rcases i with _ | _ | _ | _ | _ | _ | _ | i
  ·cases q
  ·cases q
  ·cases q; exact ⟨_,_,rfl,A.z0,A.e0,A.h0⟩
  ·cases q
  ·cases q; exact ⟨_,_,rfl,A.z2,A.e2,A.h2⟩
  ·cases q; exact ⟨_,_,rfl,A.z3,A.e3,A.h3⟩
  ·cases q; exact ⟨_,_,rfl,A.z4,A.e4,A.h4⟩
  ·have:=(vD n i).symm.trans q; cases this
 ·rcases i with _ | _ | _ | _ | _ | _ | _ | i <;> try cases q
  have:=(vD n i).symm.trans q; cases this
 ·have q02:=A.q02
  have q03:=A.q03
  have q04:=A.q04
  have q23:=A.q23
  have q24:=A.q24
  have q34:=A.q34
  have hi:∀ i as,slot (.no :: .sh (.int c) :: .ow d0 :: .sh db :: .ow d2 :: .ow d3 :: .ow d4 :: List.replicate n .no) i=.ow as->i=2\/i=4\/i=5\/i=6:=λi as q=>by
   rcases i with _ | _ | _ | _ | _ | _ | _ | i
   ·cases q
   ·cases q
   ·exact .inl rfl
   ·cases q
   ·exact .inr (.inl rfl)
   ·exact .inr (.inr (.inl rfl))
   ·exact .inr (.inr (.inr rfl))
   ·have:=(vD n i).symm.trans q; cases this
  rcases hi i as q with rfl | rfl | rfl | rfl <;> rcases hi j bs r with rfl | rfl | rfl | rfl <;> first | rfl | (cases g; cases h; contradiction)
 ·rcases i with _ | _ | _ | _ | _ | _ | _ | i
  ·cases q
  ·cases q
  ·cases h; exact A.n0
  ·cases q
  ·cases h; exact A.n2
  ·cases h; exact A.n3
  ·cases h; exact A.n4
  ·have:=(vD n i).symm.trans q; cases this
 ·rcases i with _ | _ | _ | _ | _ | _ | _ | i <;> try cases q
  have:=(vD n i).symm.trans q; cases this
abbrev Yj (i:Nat) (t:uS):uS:=KH (gE i) t
theorem okS {x qual:Str} {st:Stmt} {f:Addr} {fd:FuncData} {N ps:List Str} {k:Nat} {F:FL} (Fu:zg K x qual st f fd) (S:ze N ps (zK st)) (lp:ps.length=2) (n:Nat) (ln:N.length=n + 7)
  (hbody:∀ (cdv:Value) (A:Around) (outer:List Env) (s:Shared) (H:Hp) (E:XK),zc k (A.deeper (envOfC qual (zK st) s.heap.objs.size f cdv))->
   ∃ p,yc (xN zW P w K mg base N qual (zK st) f cdv A outer s H E).nox (xR st) (kO (v7 (yt 0) (ZN K 5 (Yj 2 (Yj 3 (Yj 4 (Yj 5 (Yj 6 kS))))))) (yw Jf p))/\∀ d0 db d2 d3 d4 c R,F [xW d0 db d2 d3 d4,.int c] R->p { nx:=λ_=>False,rt:=R } (.no :: .sh (.int c) :: .ow d0 :: .sh db :: .ow d2 :: .ow d3 :: .ow d4 :: List.replicate n .no)):zF P w K mg base zW (k + 1) f fd ps (Jj F):=
 Fu.ok S (λvs H Q E h=>by obtain ⟨_,_,_,_,_,_,_,_,_,_,_,rfl,_⟩:=h; exact lp.symm) λcdv A outer s H vs Q E hr h=>by
  obtain ⟨p,h1,h2⟩:=hbody cdv A outer s H E hr
  refine ⟨_,h1,?_⟩
  obtain ⟨Z,Z0,H0,q,c,d0,db,d2,d3,d4,R,rfl,zd,z0,z0d,sm,⟨l0,l2,l3,l4,vb,x0,x2,x3,x4,Pa⟩,hF,hq⟩:=h
  have e:L2.xl N [.ref q,.int c]=some (.ref q) :: some (.int c) :: none :: none :: none :: none :: none :: List.replicate n none:=by
   unfold L2.xl
   rw [ln,show n + 7 - [V.ref q,.int c].length=n + 1 + 1 + 1 + 1 + 1 by simp]
   rfl
  rw [e]
  refine ⟨_,rfl,q,_,rfl,zT.of Pa.p,rfl,_,_,rfl,_,_,rfl,_,_,rfl,_,_,rfl,_,_,rfl,rfl,?_⟩
  exact ⟨Z,H,Z0,H0,Z,_,_,zPE n zd z0 z0d sm Pa,zD.refl _,h2 d0 db d2 d3 d4 c R hF,λd v H' k hR=>hq d v H' k hR⟩
end Pu
namespace Pu
open PySem L2 Sh
section
variable {X:Cx} {pos:Pos}
def Yk (i:Nat):yE:=λΓ R=>uO (slot Γ i) λds=>R (.int ds.length)
theorem zKw (i:Nat) {f x:Str} {fp xp:Pos} (hg:Gl X f) (hm:X.mg f=none) (hf:f = "len":=by rfl) (hN:X.N[i]? = some x:=by rfl) (hv:qD X.env.scope x:=by first | exact Or.inl rfl | exact Or.inr (Or.inl rfl) | exact Or.inr (Or.inr rfl)) (hd:(x == ("__debug__" : Str))=false:=by decide)
  (hcd:(x == ("__classdict__" : Str))=false:=by decide) (he:starEach [Expr.Name x xp] X.env=(false,eval (.Name x xp) X.env) :: starEach [] X.env:=by rfl) (hpl:(backTo pos (starEach [] X.env)).any (·.1)=false:=by rfl):PE X (.Call (.Name f fp) [.Name x xp] [] pos) (tP (Yk i)):=by
 subst hf
 refine yO (xQ yP hg hm yQ (zS (zZ i hN hv hd hcd) zy) (by decide) (by decide) he hpl) λσ H Q ⟨Z,Γ,R,E,h,q⟩=>?_
 obtain ⟨ds,hs,h⟩:=ua h
 obtain ⟨l,xs,hl,hz,el,hx⟩:=E.ow i ds hs
 exact ⟨_,hl,l,xs,rfl,.inl (zT.of el),q _ _ H h (zD.refl _) (by rw [xC hx]; exact .int _)⟩
end
end Pu
namespace K51
open PySem L2 Sh Pu
def zp (i:Nat):Stmt:=PySem.Challenge.pw_steadyhand_k51_papers_of_rooms.main.body.getD i (.Pass ⟨0,0,0,0⟩)
structure Bl (mg:Str->Option Value):Prop where
 isinstance_:mg "isinstance" = none
 int_:mg "int" = none
 bool_:mg "bool" = none
 tuple_:mg "tuple" = none
 len_:mg "len" = none
 all_:mg "all" = none
 list_:mg "list" = none
 range_:mg "range" = none
 zip_:mg "zip" = none
 sum_:mg "sum" = none
 max_:mg "max" = none
 enumerate_:mg "enumerate" = none
 min_:mg "min" = none
 MOST_NUMBERS_:∃ t,mg "MOST_NUMBERS" = some (.int 3 t)
 MOST_PUSHES_:∃ t,mg "MOST_PUSHES" = some (.int 6 t)
 MOST_MODES_:∃ t,mg "MOST_MODES" = some (.int 40 t)
structure zMV (K:PySem.W.Frag) (C:Addr):Prop where
 no:True
structure zIB (K:PySem.W.Frag) (C:Addr):Prop where
 n_start:yx K C "start"
 n_rows:yx K C "rows"
 n_turn:yx K C "turn"
structure zMU (K:PySem.W.Frag) (C:Addr):Prop where
 n_start:yx K C "start"
 n_goal:yx K C "goal"
 n_turns:yx K C "turns"
structure zON (K:PySem.W.Frag) (C:Addr):Prop where
 n_rows:yx K C "rows"
 n_nexts:yx K C "nexts"
 n_steer:yx K C "steer"
 n_push:yx K C "push"
 n_add:yx K C "add"
 n_divisor:yx K C "divisor"
structure zMQ (K:PySem.W.Frag) (C:Addr):Prop where
 n_many:yx K C "many"
 n_kept_pushes:yx K C "kept_pushes"
 n_kept_modes:yx K C "kept_modes"
structure zMS (K:PySem.W.Frag) (C:Addr):Prop where
 no:True
structure zMR (K:PySem.W.Frag) (C:Addr):Prop where
 n_rooms:yx K C "rooms"
 n_back:yx K C "back"
 n_starts:yx K C "starts"
 n_steps:yx K C "steps"
 n_stays:yx K C "stays"
structure zMT (K:PySem.W.Frag) (C:Addr):Prop where
 n_room:yx K C "room"
 n_starts:yx K C "starts"
 n_steps:yx K C "steps"
 n_measure:yx K C "measure"
 n_step:yx K C "step"
 n_top:yx K C "top"
 n_falls:yx K C "falls"
 n_floors:yx K C "floors"
 n_tops:yx K C "tops"
structure qS (K:PySem.W.Frag) (aComes aSettles aRooms aFalls:Addr):Prop where
 k_Comes_Settles:PySem.W.kitOne K (.ref aComes) (.ref aSettles)=some false
 k_Rooms_Falls:PySem.W.kitOne K (.ref aRooms) (.ref aFalls)=some false
structure Cs (K:PySem.W.Frag) (mg:Str->Option Value) (aClaim aSettles aComes aa ac aPaper aRooms aFalls:Addr):Prop where
 t0:yi K mg "Claim" aClaim
 u0:zMV K aClaim
 t1:yi K mg "Settles" aSettles
 u1:zIB K aSettles
 t2:yi K mg "Comes" aComes
 u2:zMU K aComes
 t3:yi K mg "Mode" aa
 u3:zON K aa
 t4:yi K mg "Thing" ac
 u4:zMQ K ac
 t5:yi K mg "Paper" aPaper
 u5:zMS K aPaper
 t6:yi K mg "Rooms" aRooms
 u6:zMR K aRooms
 t7:yi K mg "Falls" aFalls
 u7:zMT K aFalls
 yk:qS K aComes aSettles aRooms aFalls
inductive Fw:Nat->D->Prop
 | int {k:Nat} (i:Int):Fw (k + 1) (.int i)
 | bool {k:Nat} (b:Bool):Fw (k + 1) (.bool b)
 | non {k:Nat}:Fw (k + 1) .non
 | str {k:Nat} (x:Str):Fw (k + 1) (.str x)
 | lst {k:Nat} {ds:List D} (l:ds.length<=900) (h:∀ d∈ds,Fw (k + 1) d):Fw (k + 1 + 1) (.lst ds)
 | tup {k:Nat} {ds:List D} (l:ds.length<=900) (h:∀ d∈ds,Fw (k + 1) d):Fw (k + 1 + 1) (.tup ds)
theorem Fw.no {k:Nat} {d:D} (h:Fw k d):d.isObj=false:=by cases h <;> rfl
theorem Fw.lst_inv {k:Nat} {d:D} (h:Fw k d) (e:d.isLst=true):∃ ds,d=.lst ds/\ds.length<=900/\∃ j,k=j + 1/\∀ d∈ds,Fw j d:=by
 cases h with
 | lst l h=>exact ⟨_,rfl,l,_,rfl,h⟩
 | _=>cases e
theorem Fw.tup_inv {k:Nat} {d:D} (h:Fw k d) (e:d.isTup=true):∃ ds,d=.tup ds/\ds.length<=900/\∃ j,k=j + 1/\∀ d∈ds,Fw j d:=by
 cases h with
 | tup l h=>exact ⟨_,rfl,l,_,rfl,h⟩
 | _=>cases e
theorem zLh {k:Nat} {ns:List Int}:∀ d∈ns.map D.int,Fw (k + 1) d:=λd m=>by
 obtain ⟨i,_,rfl⟩:=List.mem_map.mp m
 exact .int i
theorem k0 {n:Nat} (h:n.ble 1000=true:=by rfl):n<=1000:=Nat.le_of_ble_eq_true h
theorem bR {R:D->Prop} {a b:Bool} (q:R (.bool a)) (e:a=b):R (.bool b):=e ▸ q
def uP (d:D):Bool:=d.isInt && !d.isBool
def WC (n:Int):D->Bool
 | .lst ds=>decide ((ds.length:Int)=n) && ds.all uP
 | _=>false
def Yl (h w:Int):D->Bool
 | .lst ds=>decide ((ds.length:Int)=h) && ds.all (WC w)
 | _=>false
def jS (n:Int):D->Bool
 | .tup ds=>decide ((ds.length:Int)=n + 1) && ds.all uP
 | _=>false
def zPl (n:Int):D->Bool
 | .lst ds=>ds.all (jS n)
 | _=>false
theorem va {α:Type} (f:α->Bool) (xs:List α):(xs.map f).all id=xs.all f:=by rw [List.all_map]; rfl
def uz:FL:=λds R=>∃ d,ds=[d]/\d.isObj=false/\R (.bool (uP d))
def Jk:FL:=λds R=>∃ d n k,ds=[d,.int n]/\Fw k d/\R (.bool (WC n d))
def Ym:FL:=λds R=>∃ d h w k,ds=[d,.int h,.int w]/\Fw k d/\R (.bool (Yl h w d))
def Yn:FL:=λds R=>∃ d n k,ds=[d,.int n]/\Fw k d/\R (.bool (jS n d))
def WD:FL:=λds R=>∃ d n k,ds=[d,.int n]/\Fw k d/\R (.bool (zPl n d))
def zQm (j:Nat):FL:=λds R=>∃ (d:D) (n:Int),ds=[d,.int 5]/\Fw j d/\R d
def zQd:FL:=λds R=>∃ p w n:Int,ds=[.int p,.int w,.int n]/\0<=w/\w<=900/\R (L (xH p w.toNat n))
def IS (d:D) (ns:List Int):Prop:=d=L ns\/d=U ns
theorem IS.seq {d:D} {ns:List Int} (h:IS d ns) {R:List D->Prop} (q:R (ns.map D.int)):qc d R:=by
 rcases h with rfl | rfl
 ·exact q
 ·exact q
def zLn:FL:=λds R=>∃ (f:Int) (d:D) (ns:List Int),ds=[.int f,d]/\IS d ns/\ns.length<=900/\Bd 9000 f/\(∀ x∈ns,Bd 9000 x)/\R (L (ns.map (f * ·)))
abbrev IL (e:D) (os:List Int):Prop:=e=L os\/False
def zLp:FL:=λds R=>∃ (d e:D) (ns os:List Int),ds=[d,e]/\IS d ns/\IL e os/\ns.length<=900/\(∀ x∈ns,Bd 9000 x)/\(∀ x∈os,Bd 9000 x)/\R (.int (xc ns os))
theorem zIu:∀ ns os:List Int,List.zipWith xh (ns.map D.int) (os.map D.int)=(ns.zip os).map λq=>xh (.int q.1) (.int q.2)
 | [],_=>rfl
 | _ :: _,[]=>rfl
 | _ :: ns,_ :: os=>by rw [List.map_cons,List.map_cons,List.zipWith_cons_cons,zIu ns os]; rfl
theorem IS.zip {d e:D} {ns os:List Int} (h:IS d ns) (k:IL e os) {R:List D->Prop} (q:R ((ns.zip os).map λq=>xh (.int q.1) (.int q.2))):uZ [d,e] R:=by
 rw [<- zIu] at q
 rcases h with rfl | rfl <;> rcases k with rfl | k <;> first | exact q | exact k.elim
theorem Yo {qs:List (Int × Int)} {G:D->(D->Prop)->Prop} {R:D->Prop} (g:Int × Int->Int) (few:qs.length<=1000) (h:∀ q,q∈qs->G (xh (.int q.1) (.int q.2)) λe=>e=.int (g q)) (k:R (.lst ((qs.map g).map D.int))):zf (qs.map λq=>xh (.int q.1) (.int q.2)) G R:=
 zf.map (λd=>match d with | .tup [x,y]=>.int (g (yB x,yB y)) | _=>.non) (by rw [List.length_map]; exact few) (λd m=>by
  obtain ⟨q,hq,rfl⟩:=List.mem_map.mp m
  exact h q hq) (by rw [List.map_map] at k |-; exact k)
theorem Jl:∀ ns os:List Int,((ns.zip os).map λq=>q.1 * q.2).sum=xc ns os
 | [],_=>rfl
 | _ :: _,[]=>rfl
 | n :: ns,o :: os=>by rw [List.zip_cons_cons,List.map_cons,List.sum_cons,Jl ns os]; rfl
abbrev Tb (t:List (List Int)):D:=.lst (t.map L)
abbrev Rm (t:List (List Int)):D:=.lst (t.map U)
def zr:D->List Int
 | .lst ds=>ds.map yB
 | .tup ds=>ds.map yB
 | _=>[]
theorem zJD (ns:List Int):(ns.map D.int).map yB=ns:=by rw [List.map_map]; exact List.map_id _
theorem qm (ns:List Int):zr (L ns)=ns:=zJD ns
theorem jT (ns:List Int):zr (U ns)=ns:=zJD ns
theorem vG {α:Type} {xs:List α} {G:D->(D->Prop)->Prop} {R:D->Prop} (u:α->D) (v:D->α) (hv:∀ x,v (u x)=x) (g:α->D) (few:xs.length<=1000) (h:∀ x,x∈xs->G (u x) λe=>e=g x) (q:R (.lst (xs.map g))):zf (xs.map u) G R:=
 zf.map (λd=>g (v d)) (by rw [List.length_map]; exact few) (λd m=>by
  obtain ⟨x,hx,rfl⟩:=List.mem_map.mp m
  rw [hv]
  exact h x hx) (by
  rw [List.map_map,show ((λd=>g (v d)) ∘ u)=g from funext λx=>congrArg g (hv x)]
  exact q)
def IT (e:D) (ls:List (List Int)):Prop:=e=Tb ls\/e=Rm ls
theorem zKE {α:Type} (u:α->D):∀ (ns:List Int) (ls:List α),List.zipWith xh (ns.map D.int) (ls.map u)=(ns.zip ls).map λq=>xh (.int q.1) (u q.2)
 | [],_=>rfl
 | _ :: _,[]=>rfl
 | _ :: ns,_ :: ls=>by rw [List.map_cons,List.map_cons,List.zipWith_cons_cons,zKE u ns ls]; rfl
def v2 (d:D):Int × List Int:=match d with
 | .tup [x,y]=>(yB x,zr y)
 | _=>(0,[])
theorem xK {ns:List Int} {j:Nat} (h:j < ns.length) {i:Int} (e:i=(j:Int)):ya (ns.map D.int) i=some (.int (ns.getD j 0)):=by
 rw [uw,e]
 unfold ya vJ
 rw [if_pos (by omega),if_pos (by omega)]
 show Option.map D.int ns[((j:Nat):Int).toNat]? = _
 rw [show ((j:Nat):Int).toNat=j by omega,List.getElem?_eq_getElem h,List.getD_eq_getElem?_getD,List.getElem?_eq_getElem h]
 rfl
theorem IS.zipT {d e:D} {ns:List Int} {ls:List (List Int)} (h:IS d ns) (k:IT e ls) {R:List D->Prop} (q:∀ u:List Int->D,u=L\/u=U->R ((ns.zip ls).map λq=>xh (.int q.1) (u q.2))):uZ [d,e] R:=by
 have q1:=q L (.inl rfl)
 have q2:=q U (.inr rfl)
 rw [<- zKE] at q1 q2
 rcases h with rfl | rfl <;> rcases k with rfl | rfl <;> first | exact q1 | exact q2
theorem Yp {u:List Int->D} (hu:u=L\/u=U) (q:Int × List Int):v2 (xh (.int q.1) (u q.2))=q:=by
 rcases hu with rfl | rfl
 ·show (q.1,zr (L q.2))=q
  rw [qm]
 ·show (q.1,zr (U q.2))=q
  rw [jT]
def Jm:FL:=λds R=>∃ (d e:D) (ns:List Int) (ls:List (List Int)) (w:Nat),ds=[d,e,.int (w:Int)]/\IS d ns/\IT e ls/\w<=900/\ns.length<=900/\(∀ x∈ns,Bd 9000 x)/\(∀ r∈ls,w<=r.length/\∀ x∈r,Bd 9000 x)/\R (L ((List.range w).map (zh ns ls)))
def zLl:FL:=λds R=>∃ p w n b:Int,ds=[.int p,.int w,.int n,.int b]/\0<=w/\w<=900/\R (U (xH p w.toNat n++[b]))
theorem wt {e:Nat} {r:List Int} (h:∀ x∈r,Bd e x) (j:Nat):Bd e (r.getD j 0):=by
 rw [List.getD_eq_getElem?_getD]
 cases hj:r[j]? with
 | none=>show (0:Int).natAbs < 2 ^ e; exact Nat.two_pow_pos e
 | some x=>exact h x (List.mem_of_getElem? hj)
theorem zOL {X:Cx} {scope S:Scope} {own N:List Str} {caps:List (Nat × Str)} (hc:∃ n,X.env.cells=cellsFrom n S.names []) (k:scope.kind=.function:=by rfl) (nd:(scope.names.map (·.1)).Nodup:=by decide +kernel) (hS:X.env.scope=S:=by rfl) (hN:X.N=N:=by rfl) (fr:scope.names.all (λy=>y.2 != .free || S.names.lookup y.1 == some .cell)=true:=by decide +kernel)
  (cp:caps.all (λp=>N[p.1]? == some p.2 && scope.names.lookup p.2 == some .free && S.names.lookup p.2 == some .cell)=true:=by decide +kernel):vm X scope own caps:=yF k nd hS hc hN fr cp
theorem Fw.lst1 {k:Nat} {ds:List D} (h:Fw k (.lst ds)):∃ j,k=j + 1 + 1/\ds.length<=900/\∀ a∈ds,Fw (j + 1) a:=by
 cases h with
 | lst l h=>exact ⟨_,rfl,l,h⟩
theorem Fw.tup1 {k:Nat} {ds:List D} (h:Fw k (.tup ds)):∃ j,k=j + 1 + 1/\ds.length<=900/\∀ a∈ds,Fw (j + 1) a:=by
 cases h with
 | tup l h=>exact ⟨_,rfl,l,h⟩
theorem zHr {H H' J:Hp} (s:zD H H'):zD (vS H' J) (vS H J):=λb o h=>by
 obtain ⟨h1,h2⟩:=Xp h
 rw [Uq (s.free h1)]
 exact h2
theorem zJF {H H':Hp} {a:Addr} {o:HO} (h:H a=none):vS H (zY H' a o) a=some o:=by
 rw [Uq h,xF]
def u8 (k:Nat):Sp:=λvs H Q _=>∃ (v:V) (a:D) (d:Int) (j:Nat),vs=[v,.int d]/\DV H v a/\Fw j a/\j<=k/\(j<=1\/(j:Int)<=d + 1)/\∀ v' H',zD H H'->DV (vS H H') v' a->Q v' H'
theorem zJd:∀ vs H Q E,¬ u8 0 vs H Q E:=by
 rintro _ _ _ _ ⟨_,_,_,j,_,_,h,hj,_⟩
 obtain rfl:j=0:=by omega
 cases h
theorem zQv (vs:List V) (H:Hp) (Q:VK) (E:XK):zH (zQm 6) vs H Q E->u8 6 vs H Q E:=λ⟨Z,ds,R,zd,hv,⟨d,n,e,f,hR⟩,q⟩=>by
 subst e
 cases hv with
 | cons h1 h2=>
  obtain ⟨u,rfl,h3⟩:=y6 h2
  obtain rfl:u=.int 5:=by cases h3; rfl
  refine ⟨_,d,5,6,rfl,h1.same zm,f,Nat.le_refl _,.inr (by decide),λv' H' s dv=>q d v' H' hR s (dv.same λb o z=>?_)⟩
  obtain ⟨z1,z2⟩:=Xp z
  rw [xV (zd.new z1)]
  exact z2
theorem jU {P:Program} {w:World} {K:PySem.W.Frag} {mg:Str->Option Value} {base:Heap} {x:Str} {ps:List Str} {k:Nat} {dv:V} (c:vK P w K mg base x ps k (u8 6) dv):vK P w K mg base x ps k (zH (zQm 6)) dv:=by
 obtain ⟨f,fd,d,a,b⟩:=c.ex
 exact ⟨f,fd,d,zF.impN zQv a,b⟩
section
variable {P:Program} {w:World} {K:PySem.W.Frag} {mg:Str->Option Value} {base:Heap}
abbrev Jn:Stmt:=zp 7
theorem zIJ:ze ["thing"] ["thing"] (zK Jn):=.a
abbrev WE:Stmt:=zp 9
theorem zGo:ze ["value","count"] ["value","count"] (zK WE):=.a
abbrev WF:Stmt:=zp 10
theorem zIK:ze ["value","tall","wide"] ["value","tall","wide"] (zK WF):=.a
abbrev Yq:Stmt:=zp 11
theorem zKi:ze ["value","depth"] ["value","depth"] (zK Yq):=.a
abbrev WG:Stmt:=zp 12
theorem zOa:ze ["place","wide","number"] ["place","wide","number"] (zK WG):=.a
abbrev WH:Stmt:=zp 13
theorem zKd:ze ["factor","numbers"] ["factor","numbers"] (zK WH):=.a
abbrev WI:Stmt:=zp 15
theorem zKe:ze ["numbers","others"] ["numbers","others"] (zK WI):=.a
variable {aClaim aSettles aComes aa ac aPaper aRooms aFalls:Addr} (Cc:Cs K mg aClaim aSettles aComes aa ac aPaper aRooms aFalls)
include Cc
theorem zIY {k:Nat} {f:Addr} {fd:FuncData} (F:zg K "is_whole" "is_whole" Jn f fd) (B:Bl mg):zF P w K mg base zW (k + 1) f fd ["thing"] (zH (uz)):=by
 refine yC F zIJ (λds R h=>by obtain ⟨d,rfl,_⟩:=h; rfl) λcdv A outer s H E hr=>⟨_,(zQ (zX (x9 (yO (xQ wQ rfl B.isinstance_ xZ (zS (zA 0) (zS (wC (v:=.ty "int") (u:=.type "int") rfl B.int_ k9 rfl) zy))) (wf zOA)) (vA (zNw (yO (xQ wQ rfl B.isinstance_ xZ (zS (zA 0) (zS (wC (v:=.ty "bool") (u:=.type "bool") rfl B.bool_ Uh rfl) zy))) (wf JQ))))))),λds R h=>?_⟩
 obtain ⟨d,rfl,o,q⟩:=h
 refine ⟨o,λc=>⟨o,bR q ?_⟩,λc=>bR q ?_⟩
 ·unfold uP; rw [c]; rfl
 ·unfold uP; rw [c]; rfl
theorem zHD {k:Nat} {f:Addr} {fd:FuncData} (F:zg K "is_numbers" "is_numbers" WE f fd) (B:Bl mg) (ag:Fn P w K mg base "is_whole" ["thing"] k (zH (uz))):zF P w K mg base zW (k + 1) f fd ["value","count"] (zH (Jk)):=by
 refine yC F zGo (λds R h=>by obtain ⟨d,n,k,rfl,_⟩:=h; rfl) λcdv A outer s H E hr=>⟨_,(zQ (zX (x9 (yO (xQ wQ rfl B.isinstance_ xZ (zS (zA 0) (zS (wC (v:=.ty "list") (u:=.type "list") rfl B.list_ xS rfl) zy))) (wf jO)) (x9 (uM hr.units (zj yP yS rfl B.len_ yQ (zB (zA 0) zC)) (zA 1)) (vA (zj (wy rfl) vB rfl B.all_ wz (zB (yT (own:=["number"]) (caps:=[]) (yF (S:=zK WE) (N:=["value","count"]) rfl (by decide +kernel) rfl ⟨0,rfl⟩ rfl (by decide +kernel) (by decide +kernel)) rfl rfl yH (ym (zA 0)) (λ_ _ _ _=>(zo 0 (show (["number"]:List Str).Nodup by decide +kernel) rfl (Or.inl rfl))) (λ_ _ _ _=>(zU ag hr rfl (zB (zA 0) zC)))) zC))))))),λds R h=>?_⟩
 obtain ⟨d,n,k,rfl,f,q⟩:=h
 refine ⟨f.no,λc=>?_,λc=>bR q ?_⟩
 ·obtain ⟨es,rfl,le,j,rfl,hj⟩:=f.lst_inv c
  refine ⟨λc2=>?_,λc2=>bR q ?_⟩
  ·refine zf.bool uP (by omega) (λd m=>⟨d,rfl,(hj d m).no,rfl⟩) ⟨_,rfl,bR q ?_⟩
   show (decide _ && _)=_
   rw [c2,va]
   rfl
  ·show (decide _ && _)=_
   rw [c2]
   rfl
 ·cases d <;> first | rfl | cases c
theorem zIZ {k:Nat} {f:Addr} {fd:FuncData} (F:zg K "is_table" "is_table" WF f fd) (B:Bl mg) (ay:Fn P w K mg base "is_numbers" ["value","count"] k (zH (Jk))):zF P w K mg base zW (k + 1) f fd ["value","tall","wide"] (zH (Ym)):=by
 refine yC F zIK (λds R h=>by obtain ⟨d,h,w,k,rfl,_⟩:=h; rfl) λcdv A outer s H E hr=>⟨_,(zQ (zX (x9 (yO (xQ wQ rfl B.isinstance_ xZ (zS (zA 0) (zS (wC (v:=.ty "list") (u:=.type "list") rfl B.list_ xS rfl) zy))) (wf jO)) (x9 (uM hr.units (zj yP yS rfl B.len_ yQ (zB (zA 0) zC)) (zA 1)) (vA (zj (wy rfl) vB rfl B.all_ wz (zB (yT (own:=["part"]) (caps:=[(2,"wide")]) (yF (S:=zK WF) (N:=["value","tall","wide"]) rfl (by decide +kernel) rfl ⟨_,rfl⟩ rfl (by decide +kernel) (by decide +kernel)) rfl rfl yH (ym (zA 0)) (λ_ _ _ _=>(zo 0 (show (["part","wide"]:List Str).Nodup by decide +kernel) rfl (Or.inl rfl))) (λ_ _ _ _=>(zU ay hr rfl (zB (zA 0) (zB (zA 1) zC))))) zC))))))),λds R h=>?_⟩
 obtain ⟨d,h,w,k,rfl,f,q⟩:=h
 refine ⟨f.no,λc=>?_,λc=>bR q ?_⟩
 ·obtain ⟨es,rfl,le,j,rfl,hj⟩:=f.lst_inv c
  refine ⟨λc2=>?_,λc2=>bR q ?_⟩
  ·refine zf.bool (WC w) (by omega) (λd m=>⟨d,w,j,rfl,hj d m,rfl⟩) ⟨_,rfl,bR q ?_⟩
   show (decide _ && _)=_
   rw [c2,va]
   rfl
  ·show (decide _ && _)=_
   rw [c2]
   rfl
 ·cases d <;> first | rfl | cases c
theorem gf {k:Nat} {f:Addr} {fd:FuncData} {dv:Value} {d0:Nat} (F:xO K "copied" "copied" Yq f fd dv) (B:Bl mg) (ae:vK P w K mg base "copied" ["value","depth"] k (u8 d0) (.int 5)):zF P w K mg base zW (k + 1) f fd ["value","depth"] (u8 (d0 + 1)):=by
 refine F.ok zKi (λvs H Q E h=>?_) (λcdv A outer s H vs Q E hr h=>?_)
 ·obtain ⟨_,_,_,_,rfl,_⟩:=h
  rfl
 obtain ⟨v,a,d,j,rfl,hv,fa,jk,jd,q⟩:=h
 refine ⟨_,(wD (kR (KW UL (zZ 1) vM (uI _)) (jC (uR (zZ 0))) kP)
  (wD (kR (W7 (xQ zQW rfl B.isinstance_ xZ (zS (zZ 0) (zS (wC (v:=.ty "list") (u:=.type "list") rfl B.list_ xS rfl) zy)))) (jC (uR (Ul (own:=["part"]) (caps:=[(1,"depth")]) (zOL (S:=zK Yq) (N:=["value","depth"]) ⟨_,rfl⟩) rfl (KN (zZ 0)) (λ_ _ _ _=>vh (i:=0) (show (["part","depth"]:List Str).Nodup by decide +kernel) rfl (Or.inl rfl)) (λ_ _ _ _=>(uJ ae.fn hr rfl (zS (zZ 0) (zS (gH (ji0 UK) (zZ 1) vM) zy))))))) kP)
  (wD (kR (W7 (xQ zQW rfl B.isinstance_ xZ (zS (zZ 0) (zS (wC (v:=.ty "tuple") (u:=.type "tuple") rfl B.tuple_ vP rfl) zy)))) (jC (uR (Kp Uo rfl B.tuple_ vP (zS (Ul (own:=["part"]) (caps:=[(1,"depth")]) (zOL (S:=zK Yq) (N:=["value","depth"]) ⟨_,rfl⟩) rfl (zP0 (zZ 0)) (λ_ _ _ _=>vh (i:=0) (show (["part","depth"]:List Str).Nodup by decide +kernel) rfl (Or.inl rfl)) (λ_ _ _ _=>(uJ ae.fn hr rfl (zS (zZ 0) (zS (gH (ji0 UK) (zZ 1) vM) zy))))) zy)))) kP)
  (jC (uR (zZ 0)))))),?_⟩
 obtain ⟨tt,ty,_,_,kl,ku⟩:=YC (K:=K) hv fa.no
 refine ⟨_,rfl,rfl,_,rfl,?_⟩
 by_cases dz:d=0
 ·cases hv with
  | int i=>exact gN (Xh dz) ⟨_,rfl,q _ H (zD.refl _) (.int i)⟩
  | bool i=>exact gN (Xh dz) ⟨_,rfl,q _ H (zD.refl _) (.bool i)⟩
  | non=>exact gN (Xh dz) ⟨_,rfl,q _ H (zD.refl _) .non⟩
  | str i=>exact gN (Xh dz) ⟨_,rfl,q _ H (zD.refl _) (.str i)⟩
  | lst e h=>
   obtain ⟨j2,rfl,_⟩:=fa.lst1
   omega
  | tup e h=>
   obtain ⟨j2,rfl,_⟩:=fa.tup1
   omega
  | scr e=>cases fa
  | obj e=>cases fa
 refine uq (zQt dz) ?_
 refine ⟨_,rfl,_,_,_,_,rfl,ty,kl,_,rfl,?_⟩
 cases hv with
 | @lst p xs as e h=>
  refine gN rfl ?_
  have lx:xs.length=as.length:=Paired.length h
  obtain ⟨j2,rfl,fw,fw2⟩:=fa.lst1
  refine ⟨_,rfl,p,rfl,⟨_,zT.of e⟩,zL6 (K:=K) (a:=p) (xs:=xs) (λi ys σ H'=>Paired (DV (vS H H')) ys (as.take i)/\(∃ o,σ=[o,some (.int d)])/\zD H H')
   ⟨.nil,⟨none,rfl⟩,zD.refl _⟩ (λi ys σ H' hi ⟨e1,_,sm⟩=>⟨zT.of (sm _ _ e),by have:=Paired.length e1; rw [List.length_take] at this; omega⟩) (Nat.le_of_lt (qL (by omega))) ?_ ?_⟩
  ·rintro i x ys σ H' hi ⟨hz,⟨o,rfl⟩,sm⟩
   obtain ⟨a1,ha1,hx⟩:=Um h hi
   refine ⟨_,rfl,_,rfl,_,_,rfl,rfl,x,a1,d - 1,j2 + 1,rfl,hx.same sm,fw2 a1 (List.mem_of_getElem? ha1),by omega,by omega,λv' H2 s2 hv'=>⟨?_,⟨_,rfl⟩,sm.trans s2⟩⟩
   rw [jH ha1]
   exact ur (R:=DV (vS H H2)) (hv'.same (zHr sm)) (yD (Xq s2) hz)
  rintro ys σ H' ⟨hz,⟨o,rfl⟩,sm⟩ l hl
  rw [List.take_of_length_le (by omega)] at hz
  have zl:=yy hl (HO.lst ys)
  exact q _ _ (sm.trans zl) (.lst (zJF (sm.free hl)) (yD (Xq zl) hz))
 | @tup p xs as e h=>
  refine uq rfl ?_
  refine ⟨_,rfl,_,_,_,_,rfl,ty,ku,_,rfl,gN rfl ?_⟩
  have lx:xs.length=as.length:=Paired.length h
  obtain ⟨j2,rfl,fw,fw2⟩:=fa.tup1
  refine ⟨_,rfl,p,rfl,⟨_,yN.of e⟩,zNa (K:=K) (a:=p) (xs:=xs) (λi ys σ H'=>Paired (DV (vS H H')) ys (as.take i)/\(∃ o,σ=[o,some (.int d)])/\zD H H')
   ⟨.nil,⟨none,rfl⟩,zD.refl _⟩ (λi ys σ H' hi ⟨e1,_,sm⟩=>⟨yN.of (sm _ _ e),by have:=Paired.length e1; rw [List.length_take] at this; omega⟩) (Nat.le_of_lt (qL (by omega))) ?_ ?_⟩
  ·rintro i x ys σ H' hi ⟨hz,⟨o,rfl⟩,sm⟩
   obtain ⟨a1,ha1,hx⟩:=Um h hi
   refine ⟨_,rfl,_,rfl,_,_,rfl,rfl,x,a1,d - 1,j2 + 1,rfl,hx.same sm,fw2 a1 (List.mem_of_getElem? ha1),by omega,by omega,λv' H2 s2 hv'=>⟨?_,⟨_,rfl⟩,sm.trans s2⟩⟩
   rw [jH ha1]
   exact ur (R:=DV (vS H H2)) (hv'.same (zHr sm)) (yD (Xq s2) hz)
  rintro ys σ H' ⟨hz,⟨o,rfl⟩,sm⟩ l hl
  rw [List.take_of_length_le (by omega)] at hz
  have zl:=yy hl (HO.lst ys)
  refine ⟨l,_,rfl,.inl ⟨zT.of xF,λt ht=>?_⟩⟩
  have zt:=yy ht (HO.tup ys)
  exact q _ _ (sm.trans (zl.trans zt)) (.tup (zJF ((sm.trans zl).free ht)) (yD (Xq (zl.trans zt)) hz))
 | int i=>exact uq rfl ⟨_,rfl,_,_,_,_,rfl,ty,ku,_,rfl,uq rfl ⟨_,rfl,q _ H (zD.refl _) (.int i)⟩⟩
 | bool i=>exact uq rfl ⟨_,rfl,_,_,_,_,rfl,ty,ku,_,rfl,uq rfl ⟨_,rfl,q _ H (zD.refl _) (.bool i)⟩⟩
 | non=>exact uq rfl ⟨_,rfl,_,_,_,_,rfl,ty,ku,_,rfl,uq rfl ⟨_,rfl,q _ H (zD.refl _) .non⟩⟩
 | str i=>exact uq rfl ⟨_,rfl,_,_,_,_,rfl,ty,ku,_,rfl,uq rfl ⟨_,rfl,q _ H (zD.refl _) (.str i)⟩⟩
 | scr e=>cases fa
 | obj e=>cases fa
theorem zO0 {k:Nat} {f:Addr} {fd:FuncData} {dv:Value} (F:xO K "unit" "unit" WG f fd dv) (B:Bl mg):zF P w K mg base zW (k + 1) f fd ["place","wide","number"] (zH (zQd)):=by
 refine JR F zOa (λds R h=>by obtain ⟨p,w,n,rfl,_⟩:=h; rfl) λcdv A outer s H E hr=>⟨_,(zQ (zX (yT (own:=["other"]) (caps:=[(0,"place"),(2,"number")]) (yF (S:=zK WG) (N:=["place","wide","number"]) rfl (by decide +kernel) rfl ⟨_,rfl⟩ rfl (by decide +kernel) (by decide +kernel)) rfl rfl yH (y3 rfl B.range_ (zB (zA 1) zC)) (λ_ _ _ _=>(zo 0 (show (["other","place","number"]:List Str).Nodup by decide +kernel) rfl (Or.inl rfl))) (λ_ _ _ _=>(zMv (wp hr.units (zA 0) (zA 1)) (zA 2) zE))))),λds R h=>?_⟩
 obtain ⟨p,w,n,rfl,w0,w1,q⟩:=h
 refine ⟨by omega,by omega,zf.rng0 (λi=>.int (if (i:Int)=p then n else 0)) (by omega) (λk hk=>?_) ?_⟩
 ·refine ⟨λc=>?_,λc=>?_⟩
  ·show D.int n=_
   rw [if_pos (of_decide_eq_true c)]
  ·show D.int 0=_
   rw [if_neg (of_decide_eq_false c)]
 ·unfold xH L at q
  rw [List.map_map] at q
  exact q
theorem zLH {k:Nat} {f:Addr} {fd:FuncData} (F:zg K "scaled" "scaled" WH f fd) (B:Bl mg):zF P w K mg base zW (k + 1) f fd ["factor","numbers"] (zH (zLn)):=by
 refine yC F zKd (λds R h=>by obtain ⟨f,d,ns,rfl,_⟩:=h; rfl) λcdv A outer s H E hr=>⟨_,(zQ (zX (yT (own:=["number"]) (caps:=[(0,"factor")]) (yF (S:=zK WH) (N:=["factor","numbers"]) rfl (by decide +kernel) rfl ⟨_,rfl⟩ rfl (by decide +kernel) (by decide +kernel)) rfl rfl yH (ym (zA 1)) (λ_ _ _ _=>(zo 0 (show (["number","factor"]:List Str).Nodup by decide +kernel) rfl (Or.inl rfl))) (λ_ _ _ _=>(yo (zA 1) (zA 0)))))),λds R h=>?_⟩
 obtain ⟨f,d,ns,rfl,h,l,bf,bn,q⟩:=h
 exact h.seq (zf.int _ (by omega) (λn hn=>⟨bf.mono,(bn n hn).mono,rfl⟩) q)
theorem zLI {k:Nat} {f:Addr} {fd:FuncData} (F:zg K "paired" "paired" WI f fd) (B:Bl mg):zF P w K mg base zW (k + 1) f fd ["numbers","others"] (zH (zLp)):=by
 refine yC F zKe (λds R h=>by obtain ⟨d,e,ns,os,rfl,_⟩:=h; rfl) λcdv A outer s H E hr=>⟨_,(zQ (zX (zj (jq rfl) jy rfl B.sum_ jp (zB (yT (own:=["number","other"]) (caps:=[]) (yF (S:=zK WI) (N:=["numbers","others"]) rfl (by decide +kernel) rfl ⟨0,rfl⟩ rfl (by decide +kernel) (by decide +kernel)) rfl rfl (qZ (vV (vV qd))) (j0 rfl B.zip_ (zB (zA 0) (zB (zA 1) zC))) (λ_ _ _ _=>(we rfl (yA 0 (show (["number","other"]:List Str).Nodup by decide +kernel) rfl (Or.inl rfl) (yA 1 (show (["number","other"]:List Str).Nodup by decide +kernel) rfl (Or.inl rfl) wd)))) (λ_ _ _ _=>(yo (zA 0) (zA 1)))) zC)))),λds R h=>?_⟩
 obtain ⟨d,e,ns,os,rfl,h,k,l,bn,bo,q⟩:=h
 refine h.zip k (Yo (λq=>q.1 * q.2) (by rw [List.length_zip]; omega) (λp hp=>⟨(bn _ (List.of_mem_zip hp).1).mono,(bo _ (List.of_mem_zip hp).2).mono,rfl⟩) ⟨_,rfl,?_⟩)
 rw [Jl]
 exact q
end
section
variable {P:Program} {w:World} {K:PySem.W.Frag} {mg:Str->Option Value} {base:Heap}
abbrev WJ:Stmt:=zp 16
theorem zIM:ze ["numbers","lists","wide"] ["numbers","lists","wide"] (zK WJ):=.a
abbrev WK:Stmt:=zp 22
theorem zKh:ze ["value","many"] ["value","many"] (zK WK):=.a
abbrev WL:Stmt:=zp 23
theorem zJh:ze ["value","many"] ["value","many"] (zK WL):=.a
abbrev Jo:Stmt:=zp 24
theorem zKc:ze ["place","many","number","bound"] ["place","many","number","bound"] (zK Jo):=.a
variable {aClaim aSettles aComes aa ac aPaper aRooms aFalls:Addr} (Cc:Cs K mg aClaim aSettles aComes aa ac aPaper aRooms aFalls)
include Cc
theorem zIb {k:Nat} {f:Addr} {fd:FuncData} (F:zg K "added_up" "added_up" WJ f fd) (B:Bl mg):zF P w K mg base zW (k + 1) f fd ["numbers","lists","wide"] (zH (Jm)):=by
 refine yC F zIM (λds R h=>by obtain ⟨d,e,ns,ls,w,rfl,_⟩:=h; rfl) λcdv A outer s H E hr=>⟨_,(zQ (zX (yT (own:=["place"]) (caps:=[(0,"numbers"),(1,"lists")]) (yF (S:=zK WJ) (N:=["numbers","lists","wide"]) rfl (by decide +kernel) rfl ⟨_,rfl⟩ rfl (by decide +kernel) (by decide +kernel)) rfl rfl yH (y3 rfl B.range_ (zB (zA 2) zC)) (λ_ _ _ _=>(zo 0 (show (["place","numbers","lists"]:List Str).Nodup by decide +kernel) rfl (Or.inr rfl))) (λ_ _ _ _=>(zj (jq rfl) jy rfl B.sum_ jp (zB (yT (own:=["number","part"]) (caps:=[(0,"place")]) (qO rfl (by decide +kernel) (by decide +kernel) (by decide +kernel) (by decide +kernel)) rfl rfl (qZ (vV (vV qd))) (j0 rfl B.zip_ (zB (zA 1) (zB (zA 2) zC))) (λ_ _ _ _=>(we rfl (yA 0 (show (["number","part","place"]:List Str).Nodup by decide +kernel) rfl (Or.inl rfl) (yA 1 (show (["number","part","place"]:List Str).Nodup by decide +kernel) rfl (Or.inl rfl) wd)))) (λ_ _ _ _=>(yo (zA 0) (zN (zA 1) (zA 2) (λ_ _=>rfl))))) zC)))))),λds R h=>?_⟩
 obtain ⟨d,e,ns,ls,w,rfl,h,k,lw,ln,bn,bl,q⟩:=h
 refine ⟨by omega,by omega,?_⟩
 rw [show ((w:Nat):Int).toNat=w by omega]
 refine zf.rng0 (λj=>.int (zh ns ls j)) (by omega) (λj hj=>?_) (by unfold L at q; rw [List.map_map] at q; exact q)
 refine h.zipT k λu hu=>vG (λq=>xh (.int q.1) (u q.2)) v2 (Yp hu) (λq=>.int (q.1 * q.2.getD j 0)) (by rw [List.length_zip]; omega) (λq hq=>?_) ⟨(ns.zip ls).map λq=>q.1 * q.2.getD j 0,by rw [List.map_map]; rfl,rfl⟩
 have hb:=bl q.2 (List.of_mem_zip hq).2
 rcases hu with rfl | rfl
 all_goals exact ⟨_,xK (j:=j) (by omega) (by omega),(bn _ (List.of_mem_zip hq).1).mono,(wt hb.2 j).mono,rfl⟩
theorem zLQ {k:Nat} {f:Addr} {fd:FuncData} (F:zg K "is_row" "is_row" WK f fd) (B:Bl mg) (ag:Fn P w K mg base "is_whole" ["thing"] k (zH (uz))):zF P w K mg base zW (k + 1) f fd ["value","many"] (zH (Yn)):=by
 refine yC F zKh (λds R h=>by obtain ⟨d,n,k,rfl,_⟩:=h; rfl) λcdv A outer s H E hr=>⟨_,(zQ (zX (x9 (yO (xQ wQ rfl B.isinstance_ xZ (zS (zA 0) (zS (wC (v:=.ty "tuple") (u:=.type "tuple") rfl B.tuple_ vP rfl) zy))) (wf YD)) (x9 (uM hr.units (zj yP yS rfl B.len_ yQ (zB (zA 0) zC)) (zi (zA 1) zE)) (vA (zj (wy rfl) vB rfl B.all_ wz (zB (yT (own:=["number"]) (caps:=[]) (yF (S:=zK WK) (N:=["value","many"]) rfl (by decide +kernel) rfl ⟨0,rfl⟩ rfl (by decide +kernel) (by decide +kernel)) rfl rfl yH (ym (zA 0)) (λ_ _ _ _=>(zo 0 (show (["number"]:List Str).Nodup by decide +kernel) rfl (Or.inl rfl))) (λ_ _ _ _=>(zU ag hr rfl (zB (zA 0) zC)))) zC))))))),λds R h=>?_⟩
 obtain ⟨d,n,k,rfl,f,q⟩:=h
 refine ⟨f.no,λc=>?_,λc=>bR q ?_⟩
 ·obtain ⟨es,rfl,le,j,rfl,hj⟩:=f.tup_inv c
  refine ⟨λc2=>?_,λc2=>bR q ?_⟩
  ·refine zf.bool uP (by omega) (λd m=>⟨d,rfl,(hj d m).no,rfl⟩) ⟨_,rfl,bR q ?_⟩
   show (decide _ && _)=_
   rw [c2,va]
   rfl
  ·show (decide _ && _)=_
   rw [c2]
   rfl
 ·cases d <;> first | rfl | cases c
theorem zJy {k:Nat} {f:Addr} {fd:FuncData} (F:zg K "is_room" "is_room" WL f fd) (B:Bl mg) (aN:Fn P w K mg base "is_row" ["value","many"] k (zH (Yn))):zF P w K mg base zW (k + 1) f fd ["value","many"] (zH (WD)):=by
 refine yC F zJh (λds R h=>by obtain ⟨d,n,k,rfl,_⟩:=h; rfl) λcdv A outer s H E hr=>⟨_,(zQ (zX (x9 (yO (xQ wQ rfl B.isinstance_ xZ (zS (zA 0) (zS (wC (v:=.ty "list") (u:=.type "list") rfl B.list_ xS rfl) zy))) (wf jO)) (vA (zj (wy rfl) vB rfl B.all_ wz (zB (yT (own:=["row"]) (caps:=[(1,"many")]) (yF (S:=zK WL) (N:=["value","many"]) rfl (by decide +kernel) rfl ⟨_,rfl⟩ rfl (by decide +kernel) (by decide +kernel)) rfl rfl yH (ym (zA 0)) (λ_ _ _ _=>(zo 0 (show (["row","many"]:List Str).Nodup by decide +kernel) rfl (Or.inl rfl))) (λ_ _ _ _=>(zU aN hr rfl (zB (zA 0) (zB (zA 1) zC))))) zC)))))),λds R h=>?_⟩
 obtain ⟨d,n,k,rfl,f,q⟩:=h
 refine ⟨f.no,λc=>?_,λc=>bR q ?_⟩
 ·obtain ⟨es,rfl,le,j,rfl,hj⟩:=f.lst_inv c
  refine zf.bool (jS n) (by omega) (λd m=>⟨d,n,j,rfl,hj d m,rfl⟩) ⟨_,rfl,bR q ?_⟩
  rw [va]
  rfl
 ·cases d <;> first | rfl | cases c
theorem zLG {k:Nat} {f:Addr} {fd:FuncData} (F:zg K "single" "single" Jo f fd) (B:Bl mg) (aO:vK P w K mg base "unit" ["place","wide","number"] k (zH (zQd)) (.int 1)):zF P w K mg base zW (k + 1) f fd ["place","many","number","bound"] (zH (zLl)):=by
 refine yC F zKc (λds R h=>by obtain ⟨p,w,n,b,rfl,_⟩:=h; rfl) λcdv A outer s H E hr=>⟨_,(zQ (zX (zi (xP jG jx rfl B.tuple_ vP (zB (zU aO.fn hr rfl (zB (zA 0) (zB (zA 1) (zB (zA 2) zC)))) zC)) (wq (zB (zA 3) zC))))),λds R h=>?_⟩
 obtain ⟨p,w,n,b,rfl,w0,w1,q⟩:=h
 refine ⟨p,w,n,rfl,w0,w1,k0,by rw [List.length_map,uB]; show _ + 1<=1000; omega,?_⟩
 unfold U at q
 rw [List.map_append] at q
 exact q
end
abbrev zN9:List Str:=["rows","nexts","steer","push","add","divisor"]
abbrev zOS:List Str:=["many","kept_pushes","kept_modes"]
abbrev vx (C:Addr) (m:MD):D:=.obj C zN9 [Rm m.rows,Tb m.nexts,L m.steer,Tb m.push,L m.add,.int m.div]
abbrev yR (b:Int × Int):D:=.tup [.int b.1,.int b.2]
abbrev vy (C CM:Addr) (n:Nat) (bs:List (Int × Int)) (ms:List MD):D:=.obj C zOS [.int (n:Int),.lst (bs.map yR),.lst (ms.map (vx CM))]
theorem ub {k:Nat} {ns:List Int} (h:ns.length<=900):Fw (k + 2) (L ns):=.lst (by rw [List.length_map]; exact h) zLh
theorem Jp {k:Nat} {ns:List Int} (h:ns.length<=900):Fw (k + 2) (U ns):=.tup (by rw [List.length_map]; exact h) zLh
theorem WM {k:Nat} {t:List (List Int)} (h:t.length<=900) (h2:∀ r∈t,r.length<=900):Fw (k + 3) (Tb t):=.lst (by rw [List.length_map]; exact h) λd m=>by
 obtain ⟨r,hr,rfl⟩:=List.mem_map.mp m
 exact ub (h2 r hr)
theorem gh {k:Nat} {t:List (List Int)} (h:t.length<=900) (h2:∀ r∈t,r.length<=900):Fw (k + 3) (Rm t):=.lst (by rw [List.length_map]; exact h) λd m=>by
 obtain ⟨r,hr,rfl⟩:=List.mem_map.mp m
 exact Jp (h2 r hr)
theorem zIA (ns:List Int):(ns.map D.int).all uP=true:=List.all_eq_true.mpr λd m=>by
 obtain ⟨i,_,rfl⟩:=List.mem_map.mp m
 rfl
theorem Jq {n:Int} {ns:List Int} (h:(ns.length:Int)=n):WC n (L ns)=true:=by
 show (decide _ && _)=true
 rw [List.length_map,decide_eq_true h,zIA]
 rfl
theorem zNo {h w:Int} {t:List (List Int)} (e:(t.length:Int)=h) (k:∀ r∈t,(r.length:Int)=w):Yl h w (Tb t)=true:=by
 show (decide _ && _)=true
 rw [List.length_map,decide_eq_true e]
 exact List.all_eq_true.mpr λd m=>by
  obtain ⟨r,hr,rfl⟩:=List.mem_map.mp m
  exact Jq (k r hr)
theorem zPk {n:Int} {ns:List Int} (h:(ns.length:Int)=n + 1):jS n (U ns)=true:=by
 show (decide _ && _)=true
 rw [List.length_map,decide_eq_true h,zIA]
 rfl
theorem WN {n:Int} {t:List (List Int)} (k:∀ r∈t,(r.length:Int)=n + 1):zPl n (Rm t)=true:=List.all_eq_true.mpr λd m=>by
 obtain ⟨r,hr,rfl⟩:=List.mem_map.mp m
 exact zPk (k r hr)
def zOG (C:Addr):FL:=λds R=>∃ r n s p a d,ds=[r,n,s,p,a,d]/\Fw 5 r/\Fw 5 n/\Fw 5 s/\Fw 5 p/\Fw 5 a/\R (.obj C zN9 [r,n,s,p,a,d])
def zLw:FL:=λds R=>∃ b:Int × Int,ds=[yR b]/\b.1<=b.2/\R (.bool true)
def zLx (C:Addr):FL:=λds R=>∃ (m:MD) (n p:Nat),ds=[vx C m,.int (n:Int),.int (p:Int)]/\uA m n p/\R (.bool true)
def zJI (C:Addr):FL:=λds R=>∃ (n:Nat) (bs:List (Int × Int)) (ms:List MD),ds=[.int (n:Int),.lst (bs.map yR),.lst (ms.map (vx C))]/\vR n bs ms/\R (.bool true)
def zLk (C CM:Addr):FL:=λds R=>∃ (n:Nat) (bs:List (Int × Int)) (ms:List MD),ds=[.int (n:Int),.lst (bs.map yR),.lst (ms.map (vx CM))]/\vR n bs ms/\R (vy C CM n bs ms)
def Jr (C CM:Addr):FL:=λds R=>∃ n bs ms,ds=[vy C CM n bs ms]/\R (.lst (bs.map yR))
def zOF (C CM:Addr):FL:=λds R=>∃ n bs ms,ds=[vy C CM n bs ms]/\R (.lst (ms.map (vx CM)))
def Yr (ms:List MD):Bool:=ms.all λm=>m.steer.all λx=>decide (x=0)
def zGX (C:Addr):FL:=λds R=>∃ m,ds=[vx C m]/\m.steer.length<=900/\R (.bool (m.steer.all λx=>decide (x=0)))
def zLz (C CM:Addr):FL:=λds R=>∃ n bs ms,ds=[vy C CM n bs ms]/\vR n bs ms/\R (.bool (Yr ms))
def zGY (C CM:Addr):FL:=λds R=>∃ n bs ms,ds=[vy C CM n bs ms]/\vR n bs ms/\Yr ms=true/\R .non
theorem zQw {ns:List Int} {G:D->(D->Prop)->Prop} {R:D->Prop} (g:Int->Bool) (few:ns.length<=1000) (h:∀ n,n∈ns->G (.int n) λe=>e=.bool (g n)) (q:R (.lst ((ns.map g).map D.bool))):zf (ns.map D.int) G R:=
 vG D.int yB (λ_=>rfl) (λn=>.bool (g n)) few h (by rw [List.map_map] at q; exact q)
def xb (d:D):MD:=match d with
 | .obj _ _ [.lst r,.lst n,s,.lst p,a,d]=>⟨r.map zr,n.map zr,zr s,p.map zr,zr a,yB d⟩
 | _=>⟨[],[],[],[],[],0⟩
theorem zNm (t:List (List Int)):(t.map L).map zr=t:=by
 rw [List.map_map,show (zr ∘ L)=id from funext λr=>qm r]
 exact List.map_id _
theorem zPS (t:List (List Int)):(t.map U).map zr=t:=by
 rw [List.map_map,show (zr ∘ U)=id from funext λr=>jT r]
 exact List.map_id _
theorem Js (C:Addr) (m:MD):xb (vx C m)=m:=by
 show MD.mk ((m.rows.map U).map zr) ((m.nexts.map L).map zr) (zr (L m.steer)) ((m.push.map L).map zr) (zr (L m.add)) m.div=m
 rw [zPS,zNm,zNm,qm,qm]
def Ys (d:D):Int × Int:=match d with
 | .tup [x,y]=>(yB x,yB y)
 | _=>(0,0)
theorem Fw.mono0 {j:Nat} {a:D} (h:Fw j a):∀ {k:Nat},j<=k->Fw k a:=by
 induction h with
 | lst l _ ih=>
  intro k hk
  obtain ⟨m,rfl⟩:∃ m,k=m + 1 + 1:=⟨k - 2,by omega⟩
  exact .lst l λa ha=>ih a ha (by omega)
 | tup l _ ih=>
  intro k hk
  obtain ⟨m,rfl⟩:∃ m,k=m + 1 + 1:=⟨k - 2,by omega⟩
  exact .tup l λa ha=>ih a ha (by omega)
 | int i=>intro k hk; obtain ⟨m,rfl⟩:∃ m,k=m + 1:=⟨k - 1,by omega⟩; exact .int i
 | bool i=>intro k hk; obtain ⟨m,rfl⟩:∃ m,k=m + 1:=⟨k - 1,by omega⟩; exact .bool i
 | non=>intro k hk; obtain ⟨m,rfl⟩:∃ m,k=m + 1:=⟨k - 1,by omega⟩; exact .non
 | str i=>intro k hk; obtain ⟨m,rfl⟩:∃ m,k=m + 1:=⟨k - 1,by omega⟩; exact .str i
structure Jt (m:MD):Prop where
 nexts:∀ r∈m.nexts,∀ x∈r,Bd 9000 x
 push:∀ r∈m.push,∀ x∈r,Bd 9000 x
 add:∀ x∈m.add,Bd 9000 x
 div:Bd 9000 m.div
theorem Fw.mono {j k:Nat} {a:D} (h:Fw j a) (l:j<=k:=by decide):Fw k a:=h.mono0 l
section
variable {P:Program} {w:World} {K:PySem.W.Frag} {mg:Str->Option Value} {base:Heap}
abbrev Ju:Stmt:=jn (zp 38) 0
theorem zFC:ze ["self","rows","nexts","steer","push","add","divisor"] ["self","rows","nexts","steer","push","add","divisor"] (zK Ju):=.a
abbrev Jv:Stmt:=zp 41
theorem zJi:ze ["value"] ["value"] (zK Jv):=.a
abbrev Jw:Stmt:=zp 42
theorem zJj:ze ["value","many","wide"] ["value","many","wide"] (zK Jw):=.a
abbrev Yt:Stmt:=zp 40
theorem zIL:ze ["many","pushes","modes"] ["many","pushes","modes"] (zK Yt):=.a
abbrev Jx:Stmt:=jn (zp 39) 0
theorem zEf:ze ["self","many","pushes","modes"] ["self","many","pushes","modes"] (zK Jx):=.a
abbrev Jy:Stmt:=jn (zp 39) 1
theorem zFa:ze ["self"] ["self"] (zK Jy):=.a
abbrev Jz:Stmt:=jn (zp 39) 2
theorem zGH:ze ["self"] ["self"] (zK Jz):=.a
abbrev WO:Stmt:=zp 43
theorem zFY:ze ["mode"] ["mode"] (zK WO):=.a
abbrev WP:Stmt:=jn (zp 39) 3
theorem zEH:ze ["self"] ["self"] (zK WP):=.a
abbrev J7:Stmt:=zp 44
theorem zGr:ze ["thing"] ["thing"] (zK J7):=.a
variable {aClaim aSettles aComes aa ac aPaper aRooms aFalls:Addr} (Cc:Cs K mg aClaim aSettles aComes aa ac aPaper aRooms aFalls)
include Cc
theorem zFG {k:Nat} {f:Addr} {fd:FuncData} (F:zg K "__init__" "Mode.__init__" Ju f fd) (B:Bl mg) (ae:vK P w K mg base "copied" ["value","depth"] k (u8 6) (.int 5)):zF P w K mg base zW (k + 1) f fd ["self","rows","nexts","steer","push","add","divisor"] (vE aa (zOG aa)):=by
 refine JU F zFC (λds R h=>by obtain ⟨r,n,s,p,a,d,rfl,_⟩:=h; rfl) λcdv A outer s H E hr=>⟨_,(zM (yI (wP (zZ 0) (jP (.int 5) (λ_=>.int 5) (jU ae) hr rfl (zB (zA 1) zC)) rfl) vY)
  (zM (yI (wP (zZ 0) (jP (.int 5) (λ_=>.int 5) (jU ae) hr rfl (zB (zA 2) zC)) rfl) vY)
  (zM (yI (wP (zZ 0) (jP (.int 5) (λ_=>.int 5) (jU ae) hr rfl (zB (zA 3) zC)) rfl) vY)
  (zM (yI (wP (zZ 0) (jP (.int 5) (λ_=>.int 5) (jU ae) hr rfl (zB (zA 4) zC)) rfl) vY)
  (zM (yI (wP (zZ 0) (jP (.int 5) (λ_=>.int 5) (jU ae) hr rfl (zB (zA 5) zC)) rfl) vY)
  (zQ (yI (wP (zZ 0) (zA 6) rfl) vY))))))),λo ds R h=>?_⟩
 obtain ⟨r,n,s,p,a,d,rfl,f1,f2,f3,f4,f5,q⟩:=h
 refine ⟨r,5,rfl,f1.mono,⟨Cc.t3.cl,Cc.u3.n_rows⟩,by decide +kernel,by decide,rfl,?_⟩
 refine ⟨n,5,rfl,f2.mono,⟨Cc.t3.cl,Cc.u3.n_nexts⟩,by decide +kernel,by decide,rfl,?_⟩
 refine ⟨s,5,rfl,f3.mono,⟨Cc.t3.cl,Cc.u3.n_steer⟩,by decide +kernel,by decide,rfl,?_⟩
 refine ⟨p,5,rfl,f4.mono,⟨Cc.t3.cl,Cc.u3.n_push⟩,by decide +kernel,by decide,rfl,?_⟩
 refine ⟨a,5,rfl,f5.mono,⟨Cc.t3.cl,Cc.u3.n_add⟩,by decide +kernel,by decide,rfl,?_⟩
 exact ⟨⟨Cc.t3.cl,Cc.u3.n_divisor⟩,by decide +kernel,by decide,rfl,rfl,q⟩
theorem zJz {k:Nat} {f:Addr} {fd:FuncData} (F:zg K "is_push" "is_push" Jv f fd) (B:Bl mg) (ag:Fn P w K mg base "is_whole" ["thing"] k (zH (uz))):zF P w K mg base zW (k + 1) f fd ["value"] (zH (zLw)):=by
 refine yC F zJi (λds R h=>by obtain ⟨b,rfl,_⟩:=h; rfl) λcdv A outer s H E hr=>⟨_,(zM (yL (PW.pt (xg (yg (yU (yO (xQ wQ rfl B.isinstance_ xZ (zS (zA 0) (zS (wC (v:=.ty "tuple") (u:=.type "tuple") rfl B.tuple_ vP rfl) zy))) (wf YD)))) (wI (gX hr.units (zj yP yS rfl B.len_ yQ (zB (zA 0) zC)) zE)))) (zQ (zX yu)) yK)
  (zQ (zX (x9 (zU ag hr rfl (zB (zN (zA 0) zE (λ_ _=>rfl)) zC)) (x9 (zU ag hr rfl (zB (zN (zA 0) zE (λ_ _=>rfl)) zC)) (vA (Uy (zN (zA 0) zE (λ_ _=>rfl)) (zN (zA 0) zE (λ_ _=>rfl))))))))),λds R h=>?_⟩
 obtain ⟨b,rfl,h,q⟩:=h
 refine ⟨rfl,wF rfl (wF rfl ?_)⟩
 refine ⟨_,rfl,_,rfl,rfl,wT rfl ?_⟩
 refine ⟨_,rfl,_,rfl,rfl,wT rfl ?_⟩
 exact ⟨_,rfl,_,rfl,bR q (decide_eq_true h).symm⟩
theorem zJ0 {k:Nat} {f:Addr} {fd:FuncData} (F:zg K "is_mode" "is_mode" Jw f fd) (B:Bl mg) (aq:Fn P w K mg base "is_room" ["value","many"] k (zH (WD))) (aI:Fn P w K mg base "is_table" ["value","tall","wide"] k (zH (Ym))) (ay:Fn P w K mg base "is_numbers" ["value","count"] k (zH (Jk))) (ag:Fn P w K mg base "is_whole" ["thing"] k (zH (uz))):zF P w K mg base zW (k + 1) f fd ["value","many","wide"] (zH (zLx aa)):=by
 refine yC F zJj (λds R h=>by obtain ⟨m,n,p,rfl,_⟩:=h; rfl) λcdv A outer s H E hr=>⟨_,(zM (yL (PW.pt (xg (yg (yU (yO (xQ ZI rfl B.isinstance_ xZ (zS (zA 0) (zS (ZH Cc.t3 rfl) zy))) YG))) (wI (yg (yU (zU aq hr rfl (zB (yW K (zA 0) rfl) (zB (zA 1) zC)))))))) (zQ (zX yu)) yK)
  (zM (yL (PW.pt (xg (yg (yU (zU aI hr rfl (zB (yW K (zA 0) rfl) (zB (zA 1) (zB (zA 1) zC)))))) (wI (yg (yU (zU aI hr rfl (zB (yW K (zA 0) rfl) (zB (zA 1) (zB (zA 2) zC))))))))) (zQ (zX yu)) yK)
  (zM (yL (PW.pt (xg (yg (yU (zU ay hr rfl (zB (yW K (zA 0) rfl) (zB (zA 1) zC))))) (wI (yg (yU (zU ay hr rfl (zB (yW K (zA 0) rfl) (zB (zA 1) zC)))))))) (zQ (zX yu)) yK)
  (zQ (zX (x9 (zU ag hr rfl (zB (yW K (zA 0) rfl) zC)) (vA (Uz (yW K (zA 0) rfl) zE)))))))),λds R h=>?_⟩
 obtain ⟨m,n,p,rfl,h,q⟩:=h
 have n3:=h.n3
 have p6:=h.p6
 refine ⟨⟨_,_,Cc.t3⟩,_,Xo,wF rfl ?_⟩
 refine ⟨⟨Cc.t3.cl,Cc.u3.n_rows⟩,_,rfl,_,_,3,rfl,gh h.few (λr hr=>by rw [h.rows r hr]; omega),wF (by rw [WN λr hr=>by rw [h.rows r hr]; rfl]; rfl) ?_⟩
 refine ⟨⟨Cc.t3.cl,Cc.u3.n_nexts⟩,_,rfl,_,_,_,3,rfl,WM (by rw [h.nexts.1]; omega) (λr hr=>by rw [h.nexts.2 r hr]; omega),wF (by rw [zNo (by rw [h.nexts.1]) (λr hr=>by rw [h.nexts.2 r hr])]; rfl) ?_⟩
 refine ⟨⟨Cc.t3.cl,Cc.u3.n_push⟩,_,rfl,_,_,_,3,rfl,WM (by rw [h.push.1]; omega) (λr hr=>by rw [h.push.2 r hr]; omega),wF (by rw [zNo (by rw [h.push.1]) (λr hr=>by rw [h.push.2 r hr])]; rfl) ?_⟩
 refine ⟨⟨Cc.t3.cl,Cc.u3.n_steer⟩,_,rfl,_,_,2,rfl,ub (by rw [h.steer]; omega),wF (by rw [Jq (by rw [h.steer])]; rfl) ?_⟩
 refine ⟨⟨Cc.t3.cl,Cc.u3.n_add⟩,_,rfl,_,_,2,rfl,ub (by rw [h.add]; omega),wF (by rw [Jq (by rw [h.add])]; rfl) ?_⟩
 refine ⟨⟨Cc.t3.cl,Cc.u3.n_divisor⟩,_,rfl,_,rfl,rfl,wT rfl ?_⟩
 exact ⟨⟨Cc.t3.cl,Cc.u3.n_divisor⟩,_,rfl,bR q (decide_eq_true h.div).symm⟩
theorem zIa {k:Nat} {f:Addr} {fd:FuncData} (F:zg K "is_sound" "is_sound" Yt f fd) (B:Bl mg) (ag:Fn P w K mg base "is_whole" ["thing"] k (zH (uz))) (aP:Fn P w K mg base "is_push" ["value"] k (zH (zLw))) (aQ:Fn P w K mg base "is_mode" ["value","many","wide"] k (zH (zLx aa))):zF P w K mg base zW (k + 1) f fd ["many","pushes","modes"] (zH (zJI aa)):=by
 refine yC F zIL (λds R h=>by obtain ⟨n,bs,ms,rfl,_⟩:=h; rfl) λcdv A outer s H E hr=>⟨_,(zM (yL (PW.pt (xg (yg (yU (zU ag hr rfl (zB (zA 0) zC)))) (xg (U3 (zA 0) zE) (wI (Ze (zA 0) (Uv rfl B.MOST_NUMBERS_)))))) (zQ (zX yu)) yK)
  (zM (yL (PW.pt (xg (yg (yU (yO (xQ wQ rfl B.isinstance_ xZ (zS (zA 1) (zS (wC (v:=.ty "list") (u:=.type "list") rfl B.list_ xS rfl) zy))) (wf jO)))) (wI (yg (yU (zj (wy rfl) vB rfl B.all_ wz (zB (yT (own:=["push"]) (caps:=[]) (yF (S:=zK Yt) (N:=["many","pushes","modes"]) rfl (by decide +kernel) rfl ⟨_,rfl⟩ rfl (by decide +kernel) (by decide +kernel)) rfl rfl yH (ym (zA 1)) (λ_ _ _ _=>(zo 0 (show (["push"]:List Str).Nodup by decide +kernel) rfl (Or.inl rfl))) (λ_ _ _ _=>(zU aP hr rfl (zB (zA 0) zC)))) zC))))))) (zQ (zX yu)) yK)
  (zM (yL (PW.pt (xg (yg (yU (yO (xQ wQ rfl B.isinstance_ xZ (zS (zA 2) (zS (wC (v:=.ty "list") (u:=.type "list") rfl B.list_ xS rfl) zy))) (wf jO)))) (wI (wp hr.units (zj yP yS rfl B.len_ yQ (zB (zA 2) zC)) zE)))) (zQ (zX yu)) yK)
  (zQ (zX (zj (wy rfl) vB rfl B.all_ wz (zB (yT (own:=["mode"]) (caps:=[(0,"many"),(1,"pushes")]) (yF (S:=zK Yt) (N:=["many","pushes","modes"]) rfl (by decide +kernel) rfl ⟨_,rfl⟩ rfl (by decide +kernel) (by decide +kernel)) rfl rfl yH (ym (zA 2)) (λ_ _ _ _=>(zo 0 (show (["mode","many","pushes"]:List Str).Nodup by decide +kernel) rfl (Or.inl rfl))) (λ_ _ _ _=>(zU aQ hr rfl (zB (zA 0) (zB (zA 1) (zB (zj yP yS rfl B.len_ yQ (zB (zA 2) zC)) zC)))))) zC))))))),λds R h=>?_⟩
 obtain ⟨n,bs,ms,rfl,h,q⟩:=h
 have n1:=h.n1
 have n3:=h.n3
 have m40:=h.m40
 have m1:=h.m1
 have b6:=h.b6
 refine ⟨_,rfl,rfl,wF rfl (wF (decide_eq_false (by omega)) (wF (decide_eq_false (by omega)) ?_))⟩
 refine ⟨rfl,wF rfl ?_⟩
 refine vG yR Ys (λ_=>rfl) (λ_=>.bool true) (by omega) (λb hb=>⟨b,rfl,h.bok b hb,rfl⟩) ⟨bs.map λ_=>true,by rw [List.map_map]; rfl,?_⟩
 rw [show (bs.map λ_=>true).all id=true from List.all_eq_true.mpr λx hx=>by obtain ⟨_,_,rfl⟩:=List.mem_map.mp hx; rfl]
 refine wF rfl ?_
 refine ⟨rfl,wF rfl (wF (decide_eq_false (by rw [List.length_map]; omega)) ?_)⟩
 refine vG (vx aa) xb (Js _) (λ_=>.bool true) (by omega) (λm hm=>⟨m,n,bs.length,by rw [List.length_map],h.mok m hm,rfl⟩) ⟨ms.map λ_=>true,by rw [List.map_map]; rfl,bR q ?_⟩
 exact (List.all_eq_true.mpr λx hx=>by obtain ⟨_,_,rfl⟩:=List.mem_map.mp hx; rfl).symm
theorem zEp {k:Nat} {f:Addr} {fd:FuncData} (F:zg K "__init__" "Thing.__init__" Jx f fd) (B:Bl mg) (aR:Fn P w K mg base "is_sound" ["many","pushes","modes"] k (zH (zJI aa))):zF P w K mg base zW (k + 1) f fd ["self","many","pushes","modes"] (vE ac (zLk ac aa)):=by
 refine JU F zEf (λds R h=>by obtain ⟨n,bs,ms,rfl,_⟩:=h; rfl) λcdv A outer s H E hr=>⟨_,(zM (yL (yg (yU (zU aR hr rfl (zB (zA 1) (zB (zA 2) (zB (zA 3) zC)))))) (zQ JM) yK)
  (zM (yL (PW.pt (xg (Ze (zj yP yS rfl B.len_ yQ (zB (zA 2) zC)) (Uv rfl B.MOST_PUSHES_)) (wI (Ze (zj yP yS rfl B.len_ yQ (zB (zA 3) zC)) (Uv rfl B.MOST_MODES_))))) (zQ JM) yK)
  (zM (yI (wP (zZ 0) (zA 1) rfl) vY)
  (zM (yI (wP (zZ 0) (xP wn wr rfl B.list_ xS (zB (zA 2) zC)) rfl) vY)
  (zQ (yI (wP (zZ 0) (xP wn wr rfl B.list_ xS (zB (zA 3) zC)) rfl) vY)))))),λo ds R h=>?_⟩
 obtain ⟨n,bs,ms,rfl,h,q⟩:=h
 have m40:=h.m40
 have b6:=h.b6
 refine ⟨n,bs,ms,rfl,h,wF rfl ?_⟩
 refine wF (decide_eq_false (by rw [List.length_map]; omega)) (wF (decide_eq_false (by rw [List.length_map]; omega)) ?_)
 refine ⟨⟨Cc.t4.cl,Cc.u4.n_many⟩,by decide +kernel,by decide,rfl,?_⟩
 refine ⟨⟨Cc.t4.cl,Cc.u4.n_kept_pushes⟩,by decide +kernel,by decide,rfl,?_⟩
 exact ⟨⟨Cc.t4.cl,Cc.u4.n_kept_modes⟩,by decide +kernel,by decide,rfl,rfl,q⟩
theorem zFx {k:Nat} {f:Addr} {fd:FuncData} (F:zg K "pushes" "Thing.pushes" Jy f fd) (B:Bl mg):zF P w K mg base zW (k + 1) f fd ["self"] (zH (Jr ac aa)):=by
 refine yC F zFa (λds R h=>by obtain ⟨n,bs,ms,rfl,_⟩:=h; rfl) λcdv A outer s H E hr=>⟨_,(zQ (zX (xP wn wr rfl B.list_ xS (zB (yW K (zA 0) rfl) zC)))),λds R h=>?_⟩
 obtain ⟨n,bs,ms,rfl,q⟩:=h
 exact ⟨⟨Cc.t4.cl,Cc.u4.n_kept_pushes⟩,_,rfl,q⟩
theorem zGK {k:Nat} {f:Addr} {fd:FuncData} (F:zg K "modes" "Thing.modes" Jz f fd) (B:Bl mg):zF P w K mg base zW (k + 1) f fd ["self"] (zH (zOF ac aa)):=by
 refine yC F zGH (λds R h=>by obtain ⟨n,bs,ms,rfl,_⟩:=h; rfl) λcdv A outer s H E hr=>⟨_,(zQ (zX (xP wn wr rfl B.list_ xS (zB (yW K (zA 0) rfl) zC)))),λds R h=>?_⟩
 obtain ⟨n,bs,ms,rfl,q⟩:=h
 exact ⟨⟨Cc.t4.cl,Cc.u4.n_kept_modes⟩,_,rfl,q⟩
theorem zFv {k:Nat} {f:Addr} {fd:FuncData} (F:zg K "is_unsteered" "is_unsteered" WO f fd) (B:Bl mg):zF P w K mg base zW (k + 1) f fd ["mode"] (zH (zGX aa)):=by
 refine yC F zFY (λds R h=>by obtain ⟨m,rfl,_⟩:=h; rfl) λcdv A outer s H E hr=>⟨_,(zQ (zX (zj (wy rfl) vB rfl B.all_ wz (zB (yT (own:=["number"]) (caps:=[]) (yF (S:=zK WO) (N:=["mode"]) rfl (by decide +kernel) rfl ⟨0,rfl⟩ rfl (by decide +kernel) (by decide +kernel)) rfl rfl yH (ym (yW K (zA 0) rfl)) (λ_ _ _ _=>(zo 0 (show (["number"]:List Str).Nodup by decide +kernel) rfl (Or.inl rfl))) (λ_ _ _ _=>(uM hr.units (zA 0) zE))) zC)))),λds R h=>?_⟩
 obtain ⟨m,rfl,h,q⟩:=h
 refine ⟨⟨Cc.t3.cl,Cc.u3.n_steer⟩,_,rfl,?_⟩
 refine zQw (λx=>decide (x=0)) (by omega) (λn hn=>rfl) ⟨_,rfl,bR q ?_⟩
 rw [va]
theorem zER {k:Nat} {f:Addr} {fd:FuncData} (F:zg K "is_closed" "Thing.is_closed" WP f fd) (B:Bl mg) (aS:Fn P w K mg base "is_unsteered" ["mode"] k (zH (zGX aa))):zF P w K mg base zW (k + 1) f fd ["self"] (zH (zLz ac aa)):=by
 refine yC F zEH (λds R h=>by obtain ⟨n,bs,ms,rfl,_⟩:=h; rfl) λcdv A outer s H E hr=>⟨_,(zQ (zX (zj (wy rfl) vB rfl B.all_ wz (zB (yT (own:=["mode"]) (caps:=[]) (yF (S:=zK WP) (N:=["self"]) rfl (by decide +kernel) rfl ⟨0,rfl⟩ rfl (by decide +kernel) (by decide +kernel)) rfl rfl yH (ym (yW K (zA 0) rfl)) (λ_ _ _ _=>(zo 0 (show (["mode"]:List Str).Nodup by decide +kernel) rfl (Or.inl rfl))) (λ_ _ _ _=>(zU aS hr rfl (zB (zA 0) zC)))) zC)))),λds R h=>?_⟩
 obtain ⟨n,bs,ms,rfl,h,q⟩:=h
 refine ⟨⟨Cc.t4.cl,Cc.u4.n_kept_modes⟩,_,rfl,?_⟩
 have m40:=h.m40
 refine vG (vx aa) xb (Js _) (λm=>.bool (m.steer.all λx=>decide (x=0))) (by omega) (λm hm=>⟨m,rfl,by have:=(h.mok m hm).steer; have:=h.n3; omega,rfl⟩) ⟨ms.map λm=>m.steer.all λx=>decide (x=0),by rw [List.map_map]; rfl,bR q ?_⟩
 rw [va]
 rfl
theorem zHG {k:Nat} {f:Addr} {fd:FuncData} (F:zg K "ask_closed" "ask_closed" J7 f fd) (B:Bl mg) (aT:ut P w K mg base ac "is_closed" ["self"] k (zH (zLz ac aa))):zF P w K mg base zW (k + 1) f fd ["thing"] (zH (zGY ac aa)):=by
 refine yC F zGr (λds R h=>by obtain ⟨n,bs,ms,rfl,_⟩:=h; rfl) λcdv A outer s H E hr=>⟨_,(zQ (yL (yg (yU (X8 aT Cc.t4 hr (zA 0)))) (zQ JM) yK)),λds R h=>?_⟩
 obtain ⟨n,bs,ms,rfl,h,c,q⟩:=h
 exact ⟨rfl,by decide +kernel,n,bs,ms,rfl,h,wF (by rw [c]; rfl) q⟩
end
def uE (n p:Nat) (ws:List Int) (b:Int) (m:MD):List Int:=((List.range n).map (zh ws m.nexts)++(List.range p).map (zh ws m.push))++[m.div * b - xc ws m.add]
theorem Yu:∀ (rows:List (List Int)) (nums:List Int) (j:Nat),uL rows nums j=zh nums rows j
 | [],nums,j=>by unfold uL zh; simp
 | r :: rows,[],j=>by unfold uL zh; simp
 | r :: rows,x :: nums,j=>by rw [zM0,zHm,Yu rows nums j,Int.mul_comm]
def xv:D->Bool
 | .int i=>decide (0<=i)
 | _=>false
def xX (c:Nat):D->Bool
 | .tup [x,.lst ys]=>xv x && (decide (ys.length=c) && ys.all xv)
 | _=>false
def u9 (rows:List (List Int)) (tw:List Int) (n:Nat):D->Bool
 | .tup [.int o,.lst ys]=>xX rows.length (.tup [.int o,.lst ys]) && ZG rows tw o (ys.map yB) n
 | _=>false
def j5 (a:D):Prop:=∀ o ys,a=.tup [.int o,.lst ys]->Bd 1000 o/\∀ y∈ys,Bd 1000 (yB y)
structure xm (rows:List (List Int)) (n:Nat):Prop where
 row:∀ r∈rows,r.length=n + 1/\∀ x∈r,Bd 1000 x
 few:rows.length<=500
 nar:n<=100
theorem zGV:∀ {ys:List D},ys.all xv=true->∃ ns:List Int,ys=ns.map .int/\ys.map yB=ns/\∀ x∈ns,0<=x
 | [],_=>⟨[],rfl,rfl,λ_ h=>by cases h⟩
 | a :: ys,h=>by
  rw [List.all_cons,Bool.and_eq_true] at h
  obtain ⟨ns,rfl,e,h0⟩:=zGV h.2
  cases a with
  | int i=>exact ⟨i :: ns,rfl,by rw [List.map_cons,e]; rfl,λx hx=>(List.mem_cons.mp hx).elim (λz=>z ▸ of_decide_eq_true h.1) (h0 x)⟩
  | _=>cases h.1
theorem zI2 {c:Nat} {a:D} (h:xX c a=true):∃ (o:Int) (ns:List Int),a=.tup [.int o,L ns]/\0<=o/\ns.length=c/\∀ x∈ns,0<=x:=by
 unfold xX at h
 split at h
 ·rename_i x ys
  rw [Bool.and_eq_true,Bool.and_eq_true,decide_eq_true_iff] at h
  obtain ⟨ns,rfl,_,h0⟩:=zGV h.2.2
  cases x with
  | int o=>exact ⟨o,ns,rfl,of_decide_eq_true h.1,by have:=h.2.1; rw [List.length_map] at this; exact this,h0⟩
  | _=>cases h.1
 ·cases h
theorem QA {rows:List (List Int)} {tw:List Int} {n:Nat} {a:D} (h:xX rows.length a=false):u9 rows tw n a=false:=by
 unfold u9
 split
 ·rw [h]; rfl
 ·rfl
theorem zNK (ns:List Int):(ns.map D.int).map yB=ns:=by rw [List.map_map]; exact List.map_id _
theorem zHc {rows:List (List Int)} {tw ns:List Int} {n:Nat} {o:Int} (h:xX rows.length (.tup [.int o,L ns])=true):u9 rows tw n (.tup [.int o,L ns])=ZG rows tw o ns n:=by
 show (xX rows.length (.tup [.int o,.lst (ns.map .int)]) && ZG rows tw o ((ns.map D.int).map yB) n)=_
 rw [show xX rows.length (.tup [.int o,.lst (ns.map .int)])=true from h,zNK]
 rfl
def qp (c:Int):D->Bool
 | .lst as=>decide ((as.length:Int)=c)
 | _=>false
def uF (rows tws:List (List Int)) (n:Nat):D->Bool
 | .lst as=>decide ((as.length:Int)=(tws.length:Int)) && (tws.zip as).all λp=>u9 rows p.1 n p.2
 | _=>false
def xD (a:D):Prop:=∀ as,a=.lst as->∀ x∈as,j5 x
theorem jV {c:Int} {a:D} (h:qp c a=true):∃ as,a=.lst as/\(as.length:Int)=c:=by
 cases a with
 | lst as=>exact ⟨as,rfl,of_decide_eq_true h⟩
 | _=>cases h
theorem zJK {rows tws:List (List Int)} {n:Nat} {a:D} (h:qp (tws.length:Int) a=false):uF rows tws n a=false:=by
 cases a with
 | lst as=>show (decide _ && _)=false; rw [show decide ((as.length:Int)=(tws.length:Int))=false from h]; rfl
 | _=>rfl
theorem wu {e:Nat}:Bd e (0:Int):=by
 show (0:Int).natAbs < 2 ^ e
 exact Nat.two_pow_pos e
theorem WQ {e:Nat} {r:List Int} (h:∀ x∈r,Bd e x) (j:Nat):Bd e (r.getD j 0):=by
 rw [List.getD_eq_getElem?_getD]
 cases hj:r[j]? with
 | none=>exact wu
 | some x=>exact h x (List.mem_of_getElem? hj)
theorem QB {a b:Nat}:∀ {ns os:List Int},(∀ x∈ns,Bd a x)->(∀ x∈os,Bd b x)->Bd (a + b + ns.length + 1) (xc ns os)
 | [],_,_,_=>by unfold xc; exact wu
 | _ :: _,[],_,_=>by unfold xc; exact wu
 | n :: ns,o :: os,hn,ho=>by
  have i:=QB (a:=a) (b:=b) (ns:=ns) (os:=os) (λq m=>hn q (List.mem_cons_of_mem _ m)) (λq m=>ho q (List.mem_cons_of_mem _ m))
  rw [List.length_cons]
  show Bd _ (n * o + xc ns os)
  exact (((hn n List.mem_cons_self).mul (ho o List.mem_cons_self)).mono (show a + b<=a + b + ns.length + 1 by omega) |>.add i).mono (by omega)
theorem zMH {a b j:Nat} {ns:List Int} {N:List (List Int)} (h:∀ x∈ns,Bd a x) (hN:∀ r∈N,∀ x∈r,Bd b x):Bd (a + b + ns.length + 1) (zh ns N j):=by
 rw [zHl]
 refine QB h λx hx=>?_
 obtain ⟨r,hr,rfl⟩:=List.mem_map.mp hx
 exact WQ (hN r hr) j
structure MS (m:MD):Prop where
 nexts:∀ r∈m.nexts,∀ x∈r,Bd 300 x
 push:∀ r∈m.push,∀ x∈r,Bd 300 x
 add:∀ x∈m.add,Bd 300 x
 div:Bd 300 m.div
 rows:∀ r∈m.rows,∀ x∈r,Bd 300 x
 few:m.rows.length<=100
structure xi (room:List (List Int)) (n:Nat):Prop where
 row:∀ r∈room,r.length=n + 1/\∀ x∈r,Bd 300 x
 few:room.length<=100
theorem xi.rw {room:List (List Int)} {n:Nat} (h:xi room n) (n3:n<=3):xm room n:=⟨λr hr=>⟨(h.row r hr).1,λx hx=>((h.row r hr).2 x hx).mono⟩,by have:=h.few; omega,by omega⟩
theorem zME {e n:Nat} {pl nu:Int} (h:Bd e nu):∀ x∈xH pl n nu,Bd e x:=λx hx=>by
 obtain ⟨i,_,rfl⟩:=List.mem_map.mp hx
 show Bd e (if (i:Int)=pl then nu else 0)
 split
 ·exact h
 ·exact wu
theorem zI0 {n:Nat} {bs:List (Int × Int)} {rows:List (List Int)} (h:∀ r∈rows,r.length=n + 1/\∀ x∈r,Bd 1000 x) (few:rows.length<=400) (n3:n<=3) (b6:bs.length<=6) (bb:∀ b∈bs,Bd 300 b.1/\Bd 300 b.2):xm (ZU n bs rows) (n + bs.length):=by
 have b1:Bd 4 (1:Int):=Bd.lit
 refine ⟨λr hr=>?_,?_,by omega⟩
 ·rcases List.mem_append.mp hr with hr | hr
  ·obtain ⟨q,hq,rfl⟩:=List.mem_map.mp hr
   obtain ⟨lq,bq⟩:=h q hq
   refine ⟨by unfold uC; simp; omega,λx hx=>?_⟩
   unfold uC at hx
   rcases List.mem_append.mp hx with hx | hx
   ·rcases List.mem_append.mp hx with hx | hx
    ·exact bq x (List.mem_of_mem_take hx)
    ·rw [List.eq_of_mem_replicate hx]; exact wu
   ·rw [List.mem_singleton.mp hx]; exact WQ bq n
  ·obtain ⟨l,hl,hr⟩:=List.mem_flatten.mp hr
   obtain ⟨i,hi,rfl⟩:=List.mem_mapIdx.mp hl
   have hb:=bb _ (List.getElem_mem hi)
   have key:∀ (y c:Int),Bd 1000 y->Bd 1000 c->(xH ((n + i:Nat):Int) (n + bs.length) y++[c]).length=n + bs.length + 1/\∀ x∈xH ((n + i:Nat):Int) (n + bs.length) y++[c],Bd 1000 x:=λy c hy hc=>⟨by rw [List.length_append,uB]; rfl,λx hx=>by
    rcases List.mem_append.mp hx with hx | hx
    ·exact zME hy x hx
    ·rw [List.mem_singleton.mp hx]; exact hc⟩
   rcases List.mem_cons.mp hr with rfl | hr
   ·exact key _ _ b1.mono (hb.2.mono)
   ·rw [List.mem_singleton.mp hr]
    exact key _ _ (b1.neg.mono) (hb.1.neg.mono)
 ·unfold ZU
  rw [List.length_append,List.length_map]
  have:((bs.mapIdx (xz n bs.length)).flatten).length=2 * bs.length:=by
   rw [List.length_flatten]
   have e:(bs.mapIdx (xz n bs.length)).map List.length=List.replicate bs.length 2:=by
    refine List.ext_getElem (by simp) λi h1 h2=>?_
    simp [xz]
   rw [e]
   simp
   omega
  omega
theorem zHf (n p:Nat) (ws:List Int) (b:Int) (m:MD):(uE n p ws b m).length=n + p + 1:=by unfold uE; simp; omega
theorem zI5 {n p:Nat} {ws:List Int} {b:Int} {m:MD} (h:MS m) (lw:ws.length<=3) (bw:∀ x∈ws,Bd 301 x) (bb:Bd 301 b):∀ x∈uE n p ws b m,Bd 700 x:=λx hx=>by
 unfold uE at hx
 rcases List.mem_append.mp hx with hx | hx
 ·rcases List.mem_append.mp hx with hx | hx <;> obtain ⟨j,_,rfl⟩:=List.mem_map.mp hx
  ·exact (zMH bw h.nexts).mono (by omega)
  ·exact (zMH bw h.push).mono (by omega)
 ·rw [List.mem_singleton.mp hx]
  exact (((h.div.mul bb).mono (show 300 + 301<=650 by decide)).sub ((QB bw h.add).mono (show 301 + 300 + ws.length + 1<=650 by omega))).mono
def qr (n p:Nat) (m:MD) (behind:List (List Int)):List (List Int):=behind.map λr=>uE n p (r.take n) (r.getD n 0) m
def Yv (n:Nat) (bs:List (Int × Int)) (room behind:List (List Int)) (m:MD) (a:D):Bool:=uF (ZU n bs (room++m.rows)) (qr n bs.length m behind) (n + bs.length) a
def uc (n:Nat) (bs:List (Int × Int)) (ms:List MD) (room behind:List (List Int)):D->Bool
 | .lst as=>decide ((as.length:Int)=(ms.length:Int)) && (ms.zip as).all λp=>Yv n bs room behind p.1 p.2
 | _=>false
structure j6 (n:Nat) (bs:List (Int × Int)) (ms:List MD):Prop where
 ok:vR n bs ms
 ms:∀ m∈ms,MS m
 bs:∀ b∈bs,Bd 300 b.1/\Bd 300 b.2
theorem zHv {n:Nat} {bs:List (Int × Int)} {ms:List MD} {room behind:List (List Int)} {a:D} (h:qp (ms.length:Int) a=false):uc n bs ms room behind a=false:=by
 cases a with
 | lst as=>show (decide _ && _)=false; rw [show decide ((as.length:Int)=(ms.length:Int))=false from h]; rfl
 | _=>rfl
def xE (a:D):Prop:=∀ as,a=.lst as->∀ x∈as,xD x
theorem wg {r:List Int} {n:Nat} (h:r.length=n + 1):zP (r.map D.int) none (some (-1))=(r.take n).map D.int:=by
 have e1:HT.sIx (r.map D.int).length 0 none=0:=HT.sIx_none _ _
 have e2:HT.sIx (r.map D.int).length (r.map D.int).length (some (-1))=n:=by
  rw [List.length_map,h]
  show (if (-1:Int) < 0 then ((-1:Int) + ((n + 1:Nat):Int)).toNat else min (-1:Int).toNat (n + 1))=n
  rw [if_pos (by decide)]
  omega
 unfold zP
 rw [e1,e2,List.drop_zero,Nat.sub_zero,List.map_take]
theorem Yx (ws:List Int) (b:Int):zP ((ws++[b]).map D.int) none (some (-1))=ws.map D.int:=by
 rw [wg (n:=ws.length) (by rw [List.length_append]; rfl),List.take_append_of_le_length (Nat.le_refl _),List.take_of_length_le (Nat.le_refl _)]
theorem jW {r:List Int} {n:Nat} (h:r.length=n + 1):ya (r.map D.int) (-1)=some (.int (r.getD n 0)):=by
 rw [uw]
 unfold ya vJ
 rw [if_neg (by decide),if_pos (by omega)]
 show Option.map D.int r[((-1:Int) + (r.length:Int)).toNat]? = _
 rw [show ((-1:Int) + (r.length:Int)).toNat=n by omega,List.getElem?_eq_getElem (by omega),List.getD_eq_getElem?_getD,List.getElem?_eq_getElem (by omega)]
 rfl
theorem WR (ws:List Int) (b:Int):ya ((ws++[b]).map D.int) (-1)=some (.int b):=by
 rw [jW (n:=ws.length) (by rw [List.length_append]; rfl),List.getD_eq_getElem?_getD,List.getElem?_append_right (Nat.le_refl _),Nat.sub_self]
 rfl
theorem RmA (a b:List (List Int)):D.lst (a.map U++b.map U)=Rm (a++b):=by rw [Rm,List.map_append]
theorem Yy {α:Type} (u:α->D):∀ (xs:List α) (ys:List D),List.zipWith xh (xs.map u) ys=(xs.zip ys).map λq=>xh (u q.1) q.2
 | [],_=>rfl
 | _ :: _,[]=>rfl
 | _ :: xs,_ :: ys=>by rw [List.map_cons,List.zipWith_cons_cons,Yy u xs ys]; rfl
theorem QC {α:Type} {xs:List α} {ys:List D} {G:D->(D->Prop)->Prop} {R:D->Prop} (u:α->D) (v:D->α) (hv:∀ x,v (u x)=x) (g:α->D->Bool) (few:xs.length<=1000) (h:∀ x y,(x,y)∈xs.zip ys->G (xh (u x) y) λe=>e=.bool (g x y)) (q:R (.lst (((xs.zip ys).map λp=>g p.1 p.2).map D.bool))):zf (List.zipWith xh (xs.map u) ys) G R:=by
 rw [Yy]
 refine vG (λp:α × D=>xh (u p.1) p.2) (λd=>match d with | .tup [a,b]=>(v a,b) | _=>(v .non,.non)) (λp=>?_) (λp=>.bool (g p.1 p.2)) (by rw [List.length_zip]; omega) (λp hp=>h p.1 p.2 hp) (by rw [List.map_map] at q; exact q)
 show (v (u p.1),p.2)=p
 rw [hv]
theorem QD {d:D} (h:uP d=true):∃ i,d=.int i:=by
 cases d with
 | int i=>exact ⟨i,rfl⟩
 | bool b=>cases h
 | _=>cases h
theorem MS.mbd {m:MD} (h:MS m):Jt m:=⟨λr hr x hx=>(h.nexts r hr x hx).mono,λr hr x hx=>(h.push r hr x hx).mono,λx hx=>(h.add x hx).mono,h.div.mono⟩
theorem zf.cast {ds ds':List D} {G:D->(D->Prop)->Prop} {R:D->Prop} (e:ds=ds') (h:zf ds' G R):zf ds G R:=by rw [e]; exact h
theorem ud (ns:List Int):(L ns).pl 50=true:=gU 48 ns
theorem RmM {α:Type} (f:α->List Int) (xs:List α):D.lst (xs.map λr=>U (f r))=Rm (xs.map f):=by unfold Rm; rw [List.map_map]; rfl
theorem wS {b:Bool} (h:(!b)=true):b=false:=by cases b <;> first | rfl | cases h
theorem wU {b:Bool} (h:(!b)=false):b=true:=by cases b <;> first | rfl | cases h
def zHz (C CM:Addr):FL:=λds R=>∃ n bs ms rows,ds=[vy C CM n bs ms,Rm rows]/\n<=3/\bs.length<=6/\(∀ r∈rows,r.length=n + 1)/\rows.length<=900/\R (Rm (ZU n bs rows))
def zOE (C CM:Addr):FL:=λds R=>∃ n bs ms m r,ds=[vy C CM n bs ms,vx CM m,U r]/\n<=3/\bs.length<=6/\uA m n bs.length/\Jt m/\r.length=n + 1/\(∀ x∈r,Bd 9000 x)/\R (U (uE n bs.length (r.take n) (r.getD n 0) m))
def zOJ:FL:=λds R=>∃ rows d ns n,ds=[Rm rows,d,.int ((n:Nat):Int)]/\IS d ns/\n<=800/\ns.length<=900/\(∀ x∈ns,Bd 9000 x)/\(∀ r∈rows,n + 1<=r.length/\∀ x∈r,Bd 9000 x)/\R (U ((List.range (n + 1)).map (zh ns rows)))
def WS:FL:=λds R=>∃ d,ds=[d]/\d.isObj=false/\R (.bool (xv d))
def zLm:FL:=λds R=>∃ d c k,ds=[d,.int ((c:Nat):Int)]/\Fw k d/\R (.bool (xX c d))
def zOD:FL:=λds R=>∃ rows tw n d k,ds=[Rm rows,U tw,d]/\tw.length=n + 1/\(∀ x∈tw,Bd 1000 x)/\xm rows n/\Fw k d/\j5 d/\R (.bool (u9 rows tw n d))
def jA:FL:=λds R=>∃ d c k,ds=[d,.int c]/\Fw k d/\R (.bool (qp c d))
def WT:FL:=λds R=>∃ rows tws n d k,ds=[Rm rows,Rm tws,d]/\xm rows n/\xm tws n/\Fw k d/\xD d/\R (.bool (uF rows tws n d))
def zLr (C CM:Addr):FL:=λds R=>∃ n bs ms m room behind d k,ds=[vy C CM n bs ms,vx CM m,Rm room,Rm behind,d]/\j6 n bs ms/\uA m n bs.length/\MS m/\xi room n/\xi behind n/\Fw k d/\xD d/\R (.bool (Yv n bs room behind m d))
def zOH (C CM:Addr):FL:=λds R=>∃ n bs ms room behind d k,ds=[vy C CM n bs ms,Rm room,Rm behind,d]/\j6 n bs ms/\xi room n/\xi behind n/\Fw k d/\xE d/\R (.bool (uc n bs ms room behind d))
def fNo:FL:=λ_ _=>False
theorem zKU {α:Type} {l:List (List α)} {k:Nat} {x:List α} (h:l[k]? = some x):(l.take (k + 1)).flatten=(l.take k).flatten++x:=by
 rw [jH h,List.flatten_append,List.flatten_singleton]
section
variable {P:Program} {w:World} {K:PySem.W.Frag} {mg:Str->Option Value} {base:Heap}
abbrev Yz:Stmt:=zp 27
theorem qt:ze ["thing","rows","pushes","wide","noughts","told","place","push"] ["thing","rows"] (zK Yz):=.a
abbrev QE:Stmt:=zp 28
theorem QF:ze ["thing","mode","row","numbers","ahead"] ["thing","mode","row"] (zK QE):=.a
abbrev QG:Stmt:=zp 30
theorem zMm:ze ["rows","numbers","many"] ["rows","numbers","many"] (zK QG):=.a
abbrev QH:Stmt:=zp 31
theorem zFZ:ze ["value"] ["value"] (zK QH):=.a
abbrev WU:Stmt:=zp 32
theorem zGs:ze ["value","count"] ["value","count"] (zK WU):=.a
abbrev WV:Stmt:=zp 33
theorem QI:ze ["rows","target","shares","total","wanted"] ["rows","target","shares"] (zK WV):=.a
abbrev QJ:Stmt:=zp 50
theorem zGp:ze ["value","count"] ["value","count"] (zK QJ):=.a
abbrev WW:Stmt:=zp 51
theorem zGq:ze ["rows","targets","shares"] ["rows","targets","shares"] (zK WW):=.a
abbrev WX:Stmt:=zp 58
theorem zGm:ze ["thing","mode","room","behind","shares"] ["thing","mode","room","behind","shares"] (zK WX):=.a
abbrev WY:Stmt:=zp 57
theorem zI3:ze ["thing","room","behind","steps","modes"] ["thing","room","behind","steps"] (zK WY):=.a
variable {aClaim aSettles aComes aa ac aPaper aRooms aFalls:Addr} (Cc:Cs K mg aClaim aSettles aComes aa ac aPaper aRooms aFalls)
include Cc
theorem zIT {k:Nat} {f:Addr} {fd:FuncData} (F:zg K "standing" "standing" Yz f fd) (B:Bl mg) (aE:ut P w K mg base ac "pushes" ["self"] k (zH (Jr ac aa))) (aJ:Fn P w K mg base "single" ["place","many","number","bound"] k (zH (zLl))):zF P w K mg base zW (k + 1) f fd ["thing","rows"] (zH (zHz ac aa)):=by
 refine yC F qt (λds R h=>by obtain ⟨n,bs,ms,rows,rfl,_⟩:=h; rfl) λcdv A outer s H E hr=>⟨_,(zM (zv 2 qt.nd rfl (Or.inl rfl) (X8 aE Cc.t4 hr (zA 0)))
  (zM (zv 3 qt.nd rfl (Or.inl rfl) (zi (yW K (zA 0) rfl) (zj yP yS rfl B.len_ yQ (zB (zA 2) zC))))
  (zM (zv 4 qt.nd rfl (Or.inr rfl) (xP jG jx rfl B.tuple_ vP (zB (yT (own:=["push"]) (caps:=[]) (yF (S:=zK Yz) (N:=["thing","rows","pushes","wide","noughts","told","place","push"]) rfl (by decide +kernel) rfl ⟨_,rfl⟩ rfl (by decide +kernel) (by decide +kernel)) rfl rfl yH (ym (zA 2)) (λ_ _ _ _=>(zo 0 (show (["push"]:List Str).Nodup by decide +kernel) rfl (Or.inl rfl))) (λ_ _ _ _=>zE)) zC)))
  (zM (vp 5 true qt.nd rfl rfl (own:=["row"]) (caps:=[(4,"noughts")]) (yF (S:=zK Yz) (N:=["thing","rows","pushes","wide","noughts","told","place","push"]) rfl (by decide +kernel) rfl ⟨_,rfl⟩ rfl (by decide +kernel) (by decide +kernel)) rfl rfl yH (ym (zA 1)) (λ_ _ _ _=>(zo 0 (show (["row","noughts"]:List Str).Nodup by decide +kernel) rfl (Or.inl rfl))) (λ_ _ _ _=>(zi (zi (xA (zA 0) y8 (y9 (xI zE))) (zA 1)) (wq (zB (zN (zA 0) (xI zE) (λ_ _=>rfl)) zC)))) rfl)
  (zM (wA PassesOwn.never rfl (zKv rfl B.enumerate_ (zB (zA 2) zC) (yW K (zA 0) rfl)) (we rfl (yA 6 qt.nd rfl (Or.inl rfl) (yA 7 qt.nd rfl (Or.inl rfl) wd))) (zM (yI (xy (wG PySem.F.plainAttrs_list PySem.F.slot_list_append PySem.F.type_list_append yb (zZ 5) (zS (zU aJ hr rfl (zB (zA 6) (zB (zA 3) (zB zE (zB (zN (zA 7) zE (λ_ _=>rfl)) zC))))) zy))) wR)
   (zQ (yI (xy (wG PySem.F.plainAttrs_list PySem.F.slot_list_append PySem.F.type_list_append yb (zZ 5) (zS (zU aJ hr rfl (zB (zA 6) (zB (zA 3) (zB (xI zE) (zB (xI (zN (zA 7) zE (λ_ _=>rfl))) zC))))) zy))) wR))))
  (zQ (wJ 5 (zX (zA 5))))))))),λds R h=>?_⟩
 obtain ⟨n,bs,ms,rows,rfl,n3,b6,hr0,l9,q⟩:=h
 have hp:(List.map yR bs).length=bs.length:=List.length_map ..
 refine ⟨rfl,by decide +kernel,n,bs,ms,rfl,?_⟩
 refine ⟨⟨Cc.t4.cl,Cc.u4.n_many⟩,_,rfl,?_⟩
 refine vG yR Ys (λ_=>rfl) (λ_=>.int 0) (by omega) (λb hb=>rfl) ?_
 refine vG U zr jT (λr=>U (uC n bs.length r)) (by omega) (λr hr=>?_) ?_
 ·have lr:=hr0 r hr
  refine ⟨by rw [wg lr,List.length_map,List.length_map,List.length_take]; omega,_,jW lr,k0,by rw [wg lr,List.length_append,List.length_map,List.length_map,List.length_take]; show _ + 1<=1000; omega,?_⟩
  rw [wg lr]
  unfold uC U
  rw [List.map_append,List.map_append,List.map_replicate,List.map_const']
  rfl
 refine ⟨⟨Cc.t4.cl,Cc.u4.n_many⟩,_,rfl,by omega,by omega,?_⟩
 rw [show ((n:Nat):Int).toNat=n by omega]
 refine ⟨λk Γ=>∃ s6 s7,Γ=[.sh (vy ac aa n bs ms),.sh (Rm rows),.sh (.lst (bs.map yR)),.sh (.int ((n:Int) + ((bs.map yR).length:Int))),.sh (.tup (bs.map λ_=>.int 0)),.ow ((rows.map (uC n bs.length)++((bs.mapIdx (xz n bs.length)).take k).flatten).map U),s6,s7],⟨_,_,by rw [List.take_zero,List.flatten_nil,List.append_nil,List.map_map]; rfl⟩,?_,?_⟩
 ·rintro k d Γ' hk ⟨s6,s7,rfl⟩
  obtain ⟨d',hd',rfl⟩:=JX hk
  rw [List.getElem?_map] at hd'
  cases hb:bs[k]? with
  | none=>rw [hb] at hd'; cases hd'
  | some b=>
  rw [hb] at hd'
  cases hd'
  have kl:k < bs.length:=(List.getElem?_eq_some_iff.mp hb).1
  have hx:(bs.mapIdx (xz n bs.length))[k]? = some (xz n bs.length k b):=by rw [List.getElem?_mapIdx,hb]; rfl
  have ll:((bs.mapIdx (xz n bs.length)).take k).flatten.length=2 * k:=by
   rw [List.length_flatten]
   have e:((bs.mapIdx (xz n bs.length)).take k).map List.length=List.replicate k 2:=by
    refine List.ext_getElem (by simp; omega) λi h1 h2=>?_
    simp [xz]
   rw [e]
   simp
   omega
  have lw:((rows.map (uC n bs.length)++((bs.mapIdx (xz n bs.length)).take k).flatten).map U).length=rows.length + 2 * k:=by rw [List.length_map,List.length_append,List.length_map,ll]
  have e:((rows.map (uC n bs.length)++((bs.mapIdx (xz n bs.length)).take (k + 1)).flatten).map U)=((rows.map (uC n bs.length)++((bs.mapIdx (xz n bs.length)).take k).flatten).map U)++[U (xH ((n + k:Nat):Int) ((n:Int) + ((bs.map yR).length:Int)).toNat 1++[b.2])]++[U (xH ((n + k:Nat):Int) ((n:Int) + ((bs.map yR).length:Int)).toNat (-1)++[-b.1])]:=by
   rw [zKU hx,<- List.append_assoc,List.map_append,hp,show ((n:Int) + (bs.length:Int)).toNat=n + bs.length by omega,List.append_assoc]
   rfl
  refine ⟨_,rfl,_,_,_,_,rfl,by omega,by omega,by omega,?_⟩
  refine ⟨_,rfl,_,_,_,_,rfl,by omega,by omega,by rw [List.length_append]; show _ + 1 < 1000; omega,?_⟩
  refine ⟨.sh (.int ((n + k:Nat):Int)),.sh (yR b),?_⟩
  rw [e]
  rfl
 ·rintro Γ' ⟨s6,s7,rfl⟩
  rw [JW,hp,List.take_of_length_le (by rw [List.length_mapIdx]; omega)]
  exact q
theorem zM9 {k:Nat} {f:Addr} {fd:FuncData} (F:zg K "reach" "reach" QE f fd) (B:Bl mg) (aA:Fn P w K mg base "added_up" ["numbers","lists","wide"] k (zH (Jm))) (aE:ut P w K mg base ac "pushes" ["self"] k (zH (Jr ac aa))) (aU:Fn P w K mg base "paired" ["numbers","others"] k (zH (zLp))):zF P w K mg base zW (k + 1) f fd ["thing","mode","row"] (zH (zOE ac aa)):=by
 refine yC F QF (λds R h=>by obtain ⟨n,bs,ms,m,r,rfl,_⟩:=h; rfl) λcdv A outer s H E hr=>⟨_,(zM (zv 3 QF.nd rfl (Or.inl rfl) (xA (zA 2) y8 (y9 (xI zE))))
  (zM (zv 4 QF.nd rfl (Or.inl rfl) (zi (zU aA hr rfl (zB (zA 3) (zB (yW K (zA 1) rfl) (zB (yW K (zA 0) rfl) zC)))) (zU aA hr rfl (zB (zA 3) (zB (yW K (zA 1) rfl) (zB (zj yP yS rfl B.len_ yQ (zB (X8 aE Cc.t4 hr (zA 0)) zC)) zC))))))
  (zQ (zX (zi (xP jG jx rfl B.tuple_ vP (zB (zA 4) zC)) (wq (zB (xr (yo (yW K (zA 1) rfl) (zN (zA 2) (xI zE) (λ_ _=>rfl))) (zU aU hr rfl (zB (zA 3) (zB (yW K (zA 1) rfl) zC)))) zC))))))),λds R h=>?_⟩
 obtain ⟨n,bs,ms,m,r,rfl,n3,b6,MO,MB,lr,br,q⟩:=h
 have lt:(r.take n).length=n:=by rw [List.length_take]; omega
 have bt:∀ x∈r.take n,Bd 9000 x:=λx hx=>br x (List.mem_of_mem_take hx)
 have hp:(List.map yR bs).length=bs.length:=List.length_map ..
 refine ⟨⟨Cc.t3.cl,Cc.u3.n_nexts⟩,_,rfl,⟨Cc.t4.cl,Cc.u4.n_many⟩,_,rfl,_,_,r.take n,m.nexts,n,rfl,.inr (by rw [wg lr]),.inl rfl,by omega,by omega,bt,λx hx=>⟨by rw [MO.nexts.2 x hx]; omega,MB.nexts x hx⟩,?_⟩
 refine ⟨⟨Cc.t3.cl,Cc.u3.n_push⟩,_,rfl,rfl,by decide +kernel,n,bs,ms,rfl,_,_,r.take n,m.push,bs.length,by rw [hp],.inr (by rw [wg lr]),.inl rfl,by omega,by omega,bt,λx hx=>⟨by rw [MO.push.2 x hx]; omega,MB.push x hx⟩,?_⟩
 refine ⟨by rw [List.length_map,List.length_map,List.length_map,List.length_map,List.length_range,List.length_range]; omega,?_⟩
 refine ⟨⟨Cc.t3.cl,Cc.u3.n_divisor⟩,_,rfl,_,jW lr,MB.div.mono,(wt br n).mono,⟨Cc.t3.cl,Cc.u3.n_add⟩,_,rfl,_,_,r.take n,m.add,rfl,.inr (by rw [wg lr]),.inl rfl,by omega,bt,MB.add,k0,?_,?_⟩
 ·rw [List.length_append,List.length_map,List.length_map,List.length_map,List.length_map,List.length_range,List.length_range]
  show _ + 1<=1000
  omega
 ·unfold uE U at q
  rw [List.map_append,List.map_append] at q
  exact q
theorem zND {k:Nat} {f:Addr} {fd:FuncData} (F:zg K "added" "added" QG f fd) (B:Bl mg) (aA:Fn P w K mg base "added_up" ["numbers","lists","wide"] k (zH (Jm))):zF P w K mg base zW (k + 1) f fd ["rows","numbers","many"] (zH (zOJ)):=by
 refine yC F zMm (λds R h=>by obtain ⟨rows,d,ns,n,rfl,_⟩:=h; rfl) λcdv A outer s H E hr=>⟨_,(zQ (zX (xP jG jx rfl B.tuple_ vP (zB (zU aA hr rfl (zB (zA 1) (zB (zA 0) (zB (zi (zA 2) zE) zC)))) zC)))),λds R h=>?_⟩
 obtain ⟨rows,d,ns,n,rfl,h,n8,l9,bn,br,q⟩:=h
 exact ⟨_,_,ns,rows,n + 1,rfl,h,.inr rfl,by omega,l9,bn,br,q⟩
theorem zFw {k:Nat} {f:Addr} {fd:FuncData} (F:zg K "is_from_0_on" "is_from_0_on" QH f fd) (B:Bl mg) (ag:Fn P w K mg base "is_whole" ["thing"] k (zH (uz))):zF P w K mg base zW (k + 1) f fd ["value"] (zH (WS)):=by
 refine yC F zFZ (λds R h=>by obtain ⟨d,rfl,_⟩:=h; rfl) λcdv A outer s H E hr=>⟨_,(zQ (zX (x9 (zU ag hr rfl (zB (zA 0) zC)) (vA (Uz (zA 0) zE))))),λds R h=>?_⟩
 obtain ⟨d,rfl,o,q⟩:=h
 refine ⟨d,rfl,o,w2 (λc=>?_) (λc=>bR q ?_)⟩
 ·obtain ⟨i,rfl⟩:=QD c
  exact q
 ·cases d <;> first | rfl | cases c
theorem zHH {k:Nat} {f:Addr} {fd:FuncData} (F:zg K "are_shares" "are_shares" WU f fd) (B:Bl mg) (ar:Fn P w K mg base "is_from_0_on" ["value"] k (zH (WS))):zF P w K mg base zW (k + 1) f fd ["value","count"] (zH (zLm)):=by
 refine yC F zGs (λds R h=>by obtain ⟨d,c,k,rfl,_⟩:=h; rfl) λcdv A outer s H E hr=>⟨_,(zM (yL (PW.pt (xg (yg (yU (yO (xQ wQ rfl B.isinstance_ xZ (zS (zA 0) (zS (wC (v:=.ty "tuple") (u:=.type "tuple") rfl B.tuple_ vP rfl) zy))) (wf YD)))) (wI (gX hr.units (zj yP yS rfl B.len_ yQ (zB (zA 0) zC)) zE)))) (zQ (zX yu)) yK)
  (zM (yL (PW.pt (xg (yg (yU (zU ar hr rfl (zB (zN (zA 0) zE (λ_ _=>rfl)) zC)))) (xg (yg (yU (yO (xQ wQ rfl B.isinstance_ xZ (zS (zN (zA 0) zE (λ_ _=>rfl)) (zS (wC (v:=.ty "list") (u:=.type "list") rfl B.list_ xS rfl) zy))) (wf jO)))) (wI (gX hr.units (zj yP yS rfl B.len_ yQ (zB (zN (zA 0) zE (λ_ _=>rfl)) zC)) (zA 1)))))) (zQ (zX yu)) yK)
  (zQ (zX (zj (wy rfl) vB rfl B.all_ wz (zB (yT (own:=["number"]) (caps:=[]) (yF (S:=zK WU) (N:=["value","count"]) rfl (by decide +kernel) rfl ⟨0,rfl⟩ rfl (by decide +kernel) (by decide +kernel)) rfl rfl yH (ym (zN (zA 0) zE (λ_ _=>rfl))) (λ_ _ _ _=>(zo 0 (show (["number"]:List Str).Nodup by decide +kernel) rfl (Or.inl rfl))) (λ_ _ _ _=>(zU ar hr rfl (zB (zA 0) zC)))) zC)))))),λds R h=>?_⟩
 obtain ⟨d,c,k,rfl,f,q⟩:=h
 refine ⟨f.no,w2 (λc1=>wT rfl (bR q ?_)) λc1=>?_⟩
 ·cases d <;> first | rfl | cases c1
 obtain ⟨es,rfl,le,j,rfl,hj⟩:=f.tup_inv (by cases z:d.isTup with | true=>rfl | false=>rw [z] at c1; cases c1)
 refine w2 (λc2=>bR q ?_) λc2=>?_
 ·match es,c2 with
  | [],_=>rfl
  | [_],_=>rfl
  | [_,_],c2=>cases c2
  | _ :: y :: _ :: _,_=>cases y <;> rfl
 obtain ⟨x,y,rfl⟩:∃ x y,es=[x,y]:=by
  match es,c2 with
  | [x,y],_=>exact ⟨x,y,rfl⟩
  | [],c2=>cases c2
  | [_],c2=>cases c2
  | _ :: _ :: _ :: _,c2=>
   have c2:(!decide (((_:Nat):Int)=2))=false:=c2
   rw [Bool.not_eq_false',decide_eq_true_iff] at c2
   simp at c2
   omega
 have fx:=hj x List.mem_cons_self
 have fy:=hj y (List.mem_cons_of_mem _ List.mem_cons_self)
 refine ⟨x,rfl,x,rfl,fx.no,w2 (λc3=>wT rfl (bR q ?_)) λc3=>?_⟩
 ·cases y <;> first | rfl | (show (xv x && _)=false; rw [show xv x=false by cases z:xv x with | false=>rfl | true=>rw [z] at c3; cases c3]; rfl)
 have c3:xv x=true:=by cases z:xv x with | true=>rfl | false=>rw [z] at c3; cases c3
 refine ⟨y,rfl,fy.no,w2 (λc4=>wT rfl (bR q ?_)) λc4=>?_⟩
 ·cases y <;> first | rfl | cases c4
 obtain ⟨ys,rfl,ly,i,rfl,hi⟩:=fy.lst_inv (by cases z:y.isLst with | true=>rfl | false=>rw [z] at c4; cases c4)
 have key:xX c (.tup [x,.lst ys])=(decide (ys.length=c) && ys.all xv):=by
  show (xv x && _)=_
  rw [c3]
  rfl
 rw [key] at q
 refine ⟨_,rfl,w2 (λc5=>bR q ?_) λc5=>?_⟩
 ·have c5:(!decide ((ys.length:Int)=(c:Int)))=true:=c5
  rw [Bool.not_eq_true',decide_eq_false_iff_not] at c5
  rw [decide_eq_false (by omega)]
  rfl
 have c5:(!decide ((ys.length:Int)=(c:Int)))=false:=c5
 rw [Bool.not_eq_false',decide_eq_true_iff] at c5
 refine ⟨_,rfl,zf.bool xv (by omega) (λd m=>⟨d,rfl,(hi d m).no,rfl⟩) ⟨_,rfl,bR q ?_⟩⟩
 rw [va,decide_eq_true (by omega)]
 rfl
theorem zM8 {k:Nat} {f:Addr} {fd:FuncData} (F:zg K "shows" "shows" WV f fd) (B:Bl mg) (aV:Fn P w K mg base "are_shares" ["value","count"] k (zH (zLm))) (aW:Fn P w K mg base "added" ["rows","numbers","many"] k (zH (zOJ))) (aX:Fn P w K mg base "scaled" ["factor","numbers"] k (zH (zLn))):zF P w K mg base zW (k + 1) f fd ["rows","target","shares"] (zH (zOD)):=by
 refine yC F QI (λds R h=>by obtain ⟨rows,tw,n,d,k,rfl,_⟩:=h; rfl) λcdv A outer s H E hr=>⟨_,(zM (yL (yg (yU (zU aV hr rfl (zB (zA 2) (zB (zj yP yS rfl B.len_ yQ (zB (zA 0) zC)) zC))))) (zQ (zX yu)) yK)
  (zM (zv 3 QI.nd rfl (Or.inl rfl) (zU aW hr rfl (zB (zA 0) (zB (zN (zA 2) zE (λ_ _=>rfl)) (zB (xr (zj yP yS rfl B.len_ yQ (zB (zA 1) zC)) zE) zC)))))
  (zM (yL (wp hr.units (zN (zA 2) zE (λ_ _=>rfl)) zE) (zQ (zX (x9 (zj (wy rfl) vB rfl B.all_ wz (zB (yT (own:=["number"]) (caps:=[]) (yF (S:=zK WV) (N:=["rows","target","shares","total","wanted"]) rfl (by decide +kernel) rfl ⟨0,rfl⟩ rfl (by decide +kernel) (by decide +kernel)) rfl rfl yH (ym (xA (zA 3) y8 (y9 (xI zE)))) (λ_ _ _ _=>(zo 0 (show (["number"]:List Str).Nodup by decide +kernel) rfl (Or.inl rfl))) (λ_ _ _ _=>(uM hr.units (zA 0) zE))) zC)) (vA (zPs (zN (zA 3) (xI zE) (λ_ _=>rfl)) zE))))) yK)
  (zM (zv 4 QI.nd rfl (Or.inl rfl) (zU aX hr rfl (zB (zN (zA 2) zE (λ_ _=>rfl)) (zB (zA 1) zC))))
  (zQ (zX (x9 (uM hr.units (xP wn wr rfl B.list_ xS (zB (xA (zA 3) y8 (y9 (xI zE))) zC)) (xA (zA 4) y8 (y9 (xI zE)))) (vA (Uy (zN (zA 3) (xI zE) (λ_ _=>rfl)) (zN (zA 4) (xI zE) (λ_ _=>rfl))))))))))),λds R h=>?_⟩
 obtain ⟨rows,tw,n,d,k,rfl,lt,bt,RW,f,sb,q⟩:=h
 have lr:(List.map U rows).length=rows.length:=List.length_map ..
 have ltw:(List.map D.int tw).length=n + 1:=by rw [List.length_map]; exact lt
 have nar:=RW.nar
 have fewr:=RW.few
 refine ⟨d,rows.length,k,by rw [lr],f,w2 (λc1=>bR q ?_) λc1=>?_⟩
 ·exact QA (by cases z:xX rows.length d with | false=>rfl | true=>rw [z] at c1; cases c1)
 have c1:xX rows.length d=true:=by cases z:xX rows.length d with | true=>rfl | false=>rw [z] at c1; cases c1
 obtain ⟨o,ns,rfl,o0,ln,n0⟩:=zI2 c1
 rw [zHc c1] at q
 obtain ⟨bo,bn⟩:=sb o _ rfl
 have bn:∀ x∈ns,Bd 1000 x:=λx hx=>bn (.int x) (List.mem_map.mpr ⟨x,hx,rfl⟩)
 have tot:(List.range (n + 1)).map (zh ns rows)=(List.range n).map (zh ns rows)++[zh ns rows n]:=by rw [List.range_succ,List.map_append]; rfl
 have e1:(List.range n).map (uL rows ns)=(List.range n).map (zh ns rows):=List.map_congr_left λj _=>Yu rows ns j
 unfold ZG at q
 rw [e1,Yu] at q
 refine ⟨_,rfl,rows,_,ns,n,by rw [ltw]; show [Rm rows,L ns,D.int (((n + 1:Nat):Int) - 1)]=_; rw [show ((n + 1:Nat):Int) - 1=(n:Int) by omega],.inl rfl,by omega,by omega,λx hx=>(bn x hx).mono,λr hr=>⟨by rw [(RW.row r hr).1]; omega,λx hx=>((RW.row r hr).2 x hx).mono⟩,?_⟩
 rw [tot]
 refine ⟨_,rfl,w2 (λc2=>?_) λc2=>?_⟩
 ·rw [if_pos (of_decide_eq_true c2)] at q
  refine zf.cast (Yx _ _) (zQw (λx=>decide (x=0)) (by rw [List.length_map,List.length_range]; omega) (λx hx=>rfl) ⟨_,rfl,w2 (λc3=>?_) λc3=>bR q ?_⟩)
  ·refine ⟨_,WR _ _,bR q ?_⟩
   rw [va] at c3
   rw [c3]
   rfl
  ·rw [va] at c3
   rw [c3]
   rfl
 ·rw [if_neg (of_decide_eq_false c2)] at q
  have lsc:(tw.map (o * ·)).length=n + 1:=by rw [List.length_map]; exact lt
  have ets:(tw.map (o * ·)).take n=(tw.take n).map (o * ·):=(List.map_take ..).symm
  refine ⟨_,rfl,o,_,tw,rfl,.inr rfl,by omega,bo.mono,λx hx=>(bt x hx).mono,?_⟩
  refine ⟨by rw [Yx]; exact ud _,by rw [wg lsc]; exact ud _,w2 (λc3=>?_) λc3=>bR q ?_⟩
  all_goals rw [Yx,wg lsc,zQq,ets] at c3
  ·refine ⟨_,WR _ _,_,jW lsc,bR q ?_⟩
   rw [c3]
   rw [show (tw.map (o * ·)).getD n 0=o * tw.getD n 0 by
    rw [List.getD_eq_getElem?_getD,List.getElem?_map,List.getElem?_eq_getElem (by omega),List.getD_eq_getElem?_getD,List.getElem?_eq_getElem (by omega)]; rfl]
   rfl
  ·rw [c3]
   rfl
theorem zHE {k:Nat} {f:Addr} {fd:FuncData} (F:zg K "is_list_of" "is_list_of" QJ f fd) (B:Bl mg):zF P w K mg base zW (k + 1) f fd ["value","count"] (zH (jA)):=by
 refine yC F zGp (λds R h=>by obtain ⟨d,c,k,rfl,_⟩:=h; rfl) λcdv A outer s H E hr=>⟨_,(zQ (zX (x9 (yO (xQ wQ rfl B.isinstance_ xZ (zS (zA 0) (zS (wC (v:=.ty "list") (u:=.type "list") rfl B.list_ xS rfl) zy))) (wf jO)) (vA (uM hr.units (zj yP yS rfl B.len_ yQ (zB (zA 0) zC)) (zA 1)))))),λds R h=>?_⟩
 obtain ⟨d,c,k,rfl,f,q⟩:=h
 refine ⟨f.no,w2 (λc1=>?_) λc1=>bR q ?_⟩
 ·obtain ⟨es,rfl,le,j,rfl,hj⟩:=f.lst_inv c1
  exact q
 ·cases d <;> first | rfl | cases c1
theorem zHF {k:Nat} {f:Addr} {fd:FuncData} (F:zg K "each_shown" "each_shown" WW f fd) (B:Bl mg) (am:Fn P w K mg base "is_list_of" ["value","count"] k (zH (jA))) (aY:Fn P w K mg base "shows" ["rows","target","shares"] k (zH (zOD))):zF P w K mg base zW (k + 1) f fd ["rows","targets","shares"] (zH (WT)):=by
 refine yC F zGq (λds R h=>by obtain ⟨rows,tws,n,d,k,rfl,_⟩:=h; rfl) λcdv A outer s H E hr=>⟨_,(zM (yL (yg (yU (zU am hr rfl (zB (zA 2) (zB (zj yP yS rfl B.len_ yQ (zB (zA 1) zC)) zC))))) (zQ (zX yu)) yK)
  (zQ (zX (zj (wy rfl) vB rfl B.all_ wz (zB (yT (own:=["target","part"]) (caps:=[(0,"rows")]) (yF (S:=zK WW) (N:=["rows","targets","shares"]) rfl (by decide +kernel) rfl ⟨_,rfl⟩ rfl (by decide +kernel) (by decide +kernel)) rfl rfl (qZ (vV (vV qd))) (j0 rfl B.zip_ (zB (zA 1) (zB (zA 2) zC))) (λ_ _ _ _=>(we rfl (yA 0 (show (["target","part","rows"]:List Str).Nodup by decide +kernel) rfl (Or.inl rfl) (yA 1 (show (["target","part","rows"]:List Str).Nodup by decide +kernel) rfl (Or.inl rfl) wd)))) (λ_ _ _ _=>(zU aY hr rfl (zB (zA 2) (zB (zA 0) (zB (zA 1) zC)))))) zC))))),λds R h=>?_⟩
 obtain ⟨rows,tws,n,d,k,rfl,RW,RT,f,sb,q⟩:=h
 have lt:(List.map U tws).length=tws.length:=List.length_map ..
 have fewt:=RT.few
 refine ⟨d,_,k,rfl,f,w2 (λc1=>bR q ?_) λc1=>?_⟩
 ·rw [lt] at c1
  exact zJK (wS c1)
 rw [lt] at c1
 obtain ⟨as,rfl,la⟩:=jV (wU c1)
 obtain ⟨es,e1,le,j,rfl,hj⟩:=f.lst_inv rfl
 cases e1
 have sb:=sb as rfl
 refine QC U zr jT (λt a=>u9 rows t n a) (by omega) (λt a hm=>?_) ⟨_,rfl,bR q ?_⟩
 ·have h1:=(List.of_mem_zip hm).1
  have h2:=(List.of_mem_zip hm).2
  exact ⟨rows,t,n,a,j,rfl,(RT.row t h1).1,(RT.row t h1).2,RW,hj a h2,sb a h2,rfl⟩
 ·show (decide _ && _)=_
  rw [decide_eq_true la,va]
  rfl
theorem zHA {k:Nat} {f:Addr} {fd:FuncData} (F:zg K "mode_leads" "mode_leads" WX f fd) (B:Bl mg) (av:Fn P w K mg base "each_shown" ["rows","targets","shares"] k (zH (WT))) (aZ:Fn P w K mg base "reach" ["thing","mode","row"] k (zH (zOE ac aa))) (bc:Fn P w K mg base "standing" ["thing","rows"] k (zH (zHz ac aa))):zF P w K mg base zW (k + 1) f fd ["thing","mode","room","behind","shares"] (zH (zLr ac aa)):=by
 refine yC F zGm (λds R h=>by obtain ⟨n,bs,ms,m,room,behind,d,k,rfl,_⟩:=h; rfl) λcdv A outer s H E hr=>⟨_,(zQ (zX (zU av hr rfl (zB (zU bc hr rfl (zB (zA 0) (zB (zi (zA 2) (yW K (zA 1) rfl)) zC))) (zB (yT (own:=["row"]) (caps:=[(0,"thing"),(1,"mode")]) (yF (S:=zK WX) (N:=["thing","mode","room","behind","shares"]) rfl (by decide +kernel) rfl ⟨_,rfl⟩ rfl (by decide +kernel) (by decide +kernel)) rfl rfl yH (ym (zA 3)) (λ_ _ _ _=>(zo 0 (show (["row","thing","mode"]:List Str).Nodup by decide +kernel) rfl (Or.inl rfl))) (λ_ _ _ _=>(zU aZ hr rfl (zB (zA 1) (zB (zA 2) (zB (zA 0) zC)))))) (zB (zA 4) zC)))))),λds R h=>?_⟩
 obtain ⟨n,bs,ms,m,room,behind,d,k,rfl,TS,MO,MSm,R1,R2,f,sb,q⟩:=h
 have n1:=TS.ok.n1
 have n3:=TS.ok.n3
 have b6:=TS.ok.b6
 have f1:=R1.few
 have f2:=R2.few
 have f3:=MSm.few
 have hrl:∀ r∈room++m.rows,r.length=n + 1/\∀ x∈r,Bd 1000 x:=λr hr=>by
  rcases List.mem_append.mp hr with hr | hr
  ·exact ⟨(R1.row r hr).1,λx hx=>((R1.row r hr).2 x hx).mono⟩
  ·exact ⟨MO.rows r hr,λx hx=>(MSm.rows r hr x hx).mono⟩
 refine ⟨⟨Cc.t3.cl,Cc.u3.n_rows⟩,_,rfl,by rw [List.length_map,List.length_map]; omega,n,bs,ms,room++m.rows,by rw [RmA],n3,b6,λr hr=>(hrl r hr).1,by rw [List.length_append]; omega,?_⟩
 refine vG U zr jT (λr=>U (uE n bs.length (r.take n) (r.getD n 0) m)) (by omega) (λr hr=>?_) ?_
 ·exact ⟨n,bs,ms,m,r,rfl,n3,b6,MO,MSm.mbd,(R2.row r hr).1,λx hx=>((R2.row r hr).2 x hx).mono,rfl⟩
 have RW2:xm (qr n bs.length m behind) (n + bs.length):=by
  refine ⟨λr hr=>?_,by unfold qr; rw [List.length_map]; omega,by omega⟩
  obtain ⟨r0,h0,rfl⟩:=List.mem_map.mp hr
  obtain ⟨lr,br⟩:=R2.row r0 h0
  exact ⟨zHf ..,λx hx=>(zI5 MSm (by rw [List.length_take]; omega) (λy hy=>(br y (List.mem_of_mem_take hy)).mono) (WQ br n).mono x hx).mono⟩
 exact ⟨_,qr n bs.length m behind,n + bs.length,d,k,by rw [RmM (λr:List Int=>uE n bs.length (r.take n) (r.getD n 0) m)]; rfl,zI0 hrl (by rw [List.length_append]; omega) n3 b6 TS.bs,RW2,f,sb,q⟩
theorem zNA {k:Nat} {f:Addr} {fd:FuncData} (F:zg K "leads" "leads" WY f fd) (B:Bl mg) (be:ut P w K mg base ac "modes" ["self"] k (zH (zOF ac aa))) (am:Fn P w K mg base "is_list_of" ["value","count"] k (zH (jA))) (bg:Fn P w K mg base "mode_leads" ["thing","mode","room","behind","shares"] k (zH (zLr ac aa))):zF P w K mg base zW (k + 1) f fd ["thing","room","behind","steps"] (zH (zOH ac aa)):=by
 refine yC F zI3 (λds R h=>by obtain ⟨n,bs,ms,room,behind,d,k,rfl,_⟩:=h; rfl) λcdv A outer s H E hr=>⟨_,(zM (zv 4 zI3.nd rfl (Or.inl rfl) (X8 be Cc.t4 hr (zA 0)))
  (zM (yL (yg (yU (zU am hr rfl (zB (zA 3) (zB (zj yP yS rfl B.len_ yQ (zB (zA 4) zC)) zC))))) (zQ (zX yu)) yK)
  (zQ (zX (zj (wy rfl) vB rfl B.all_ wz (zB (yT (own:=["mode","shares"]) (caps:=[(0,"thing"),(1,"room"),(2,"behind")]) (yF (S:=zK WY) (N:=["thing","room","behind","steps","modes"]) rfl (by decide +kernel) rfl ⟨_,rfl⟩ rfl (by decide +kernel) (by decide +kernel)) rfl rfl (qZ (vV (vV qd))) (j0 rfl B.zip_ (zB (zA 4) (zB (zA 3) zC))) (λ_ _ _ _=>(we rfl (yA 0 (show (["mode","shares","thing","room","behind"]:List Str).Nodup by decide +kernel) rfl (Or.inl rfl) (yA 1 (show (["mode","shares","thing","room","behind"]:List Str).Nodup by decide +kernel) rfl (Or.inl rfl) wd)))) (λ_ _ _ _=>(zU bg hr rfl (zB (zA 2) (zB (zA 0) (zB (zA 3) (zB (zA 4) (zB (zA 1) zC)))))))) zC)))))),λds R h=>?_⟩
 obtain ⟨n,bs,ms,room,behind,d,k,rfl,TS,R1,R2,f,sb,q⟩:=h
 have m40:=TS.ok.m40
 have lm:(List.map (vx aa) ms).length=ms.length:=List.length_map ..
 refine ⟨rfl,by decide +kernel,n,bs,ms,rfl,?_⟩
 refine ⟨d,_,k,rfl,f,w2 (λc1=>bR q ?_) λc1=>?_⟩
 ·rw [lm] at c1
  exact zHv (wS c1)
 rw [lm] at c1
 obtain ⟨as,rfl,la⟩:=jV (wU c1)
 obtain ⟨es,e1,le,j,rfl,hj⟩:=f.lst_inv rfl
 cases e1
 have sb:=sb as rfl
 refine QC (vx aa) xb (Js _) (λm a=>Yv n bs room behind m a) (by omega) (λm a hm=>?_) ⟨_,rfl,bR q ?_⟩
 ·have h1:=(List.of_mem_zip hm).1
  have h2:=(List.of_mem_zip hm).2
  exact ⟨n,bs,ms,m,room,behind,a,j,rfl,TS,TS.ok.mok m h1,TS.ms m h1,R1,R2,hj a h2,sb a h2,rfl⟩
 ·show (decide _ && _)=_
  rw [decide_eq_true la,va]
  rfl
end
abbrev zPi:List Str:=["start","rows","turn"]
abbrev zPm:List Str:=["rooms","back","starts","steps","stays"]
abbrev ue (rooms:List (List (List Int))):D:=.lst (rooms.map Rm)
abbrev uf (C:Addr) (s g:List (List Int)) (t:Int):D:=.obj C zPi [Rm s,Rm g,.int t]
abbrev vc (C:Addr) (rooms:List (List (List Int))) (BK A1 A2 A3:D):D:=.obj C zPm [ue rooms,BK,A1,A2,A3]
def ug (a:D):Prop:=∀ as,a=.lst as->∀ x∈as,xE x
def gj (n:Nat) (bs:List (Int × Int)) (ms:List MD) (rooms:List (List (List Int))) (b:Nat):D->Bool
 | .lst as=>decide ((as.length:Int)=(rooms.length:Int)) && (rooms.zip ((rooms.drop 1++[rooms.getD b []]).zip as)).all λp=>uc n bs ms p.1 p.2.1 p.2.2
 | _=>false
def gk (n:Nat) (rooms:List (List (List Int))) (f:Nat) (g:List (List Int)):D->Bool
 | .lst as=>decide ((as.length:Int)=(rooms.length:Int)) && ((rooms.drop f).zip (as.drop f)).all λp=>uF p.1 g n p.2
 | _=>false
def xf (n:Nat) (bs:List (Int × Int)) (ms:List MD) (s g:List (List Int)) (t:Int) (rooms:List (List (List Int))) (BK A1 A2 A3:D):Bool:=
 match BK with
 | .int b=>if b < 0\/(rooms.length:Int)<=b then false else uF s (rooms.getD 0 []) n A1 && (gj n bs ms rooms b.toNat A2 && gk n rooms (min b t).toNat g A3)
 | _=>false
structure jX (n:Nat) (rooms:List (List (List Int))):Prop where
 rm:∀ r∈rooms,xi r n
 few:rooms.length<=100
theorem zGW {n:Nat} {bs:List (Int × Int)} {ms:List MD} {rooms:List (List (List Int))} {b:Nat} {a:D} (h:qp (rooms.length:Int) a=false):gj n bs ms rooms b a=false:=by
 cases a with
 | lst as=>show (decide _ && _)=false; rw [show decide ((as.length:Int)=(rooms.length:Int))=false from h]; rfl
 | _=>rfl
theorem zIz {n:Nat} {rooms:List (List (List Int))} {f:Nat} {g:List (List Int)} {a:D} (h:qp (rooms.length:Int) a=false):gk n rooms f g a=false:=by
 cases a with
 | lst as=>show (decide _ && _)=false; rw [show decide ((as.length:Int)=(rooms.length:Int))=false from h]; rfl
 | _=>rfl
def qu:D->List (List Int)
 | .lst ds=>ds.map zr
 | _=>[]
theorem WZ (r:List (List Int)):qu (Rm r)=r:=by
 show (r.map U).map zr=r
 rw [List.map_map]
 exact (List.map_congr_left λx _=>jT x).trans (List.map_id _)
theorem uh {rooms:List (List (List Int))} {b:Int} (h0:0<=b) (h1:b < (rooms.length:Int)):ya (rooms.map Rm) b=some (Rm (rooms.getD b.toNat [])):=by
 rw [uw]
 unfold ya vJ
 rw [if_pos h0,if_pos (by omega)]
 show Option.map Rm rooms[b.toNat]? = _
 rw [List.getElem?_eq_getElem (by omega),List.getD_eq_getElem?_getD,List.getElem?_eq_getElem (by omega)]
 rfl
theorem j7 {rooms:List (List (List Int))} {b:Nat} (h:b < rooms.length):rooms.getD b []∈rooms:=by
 rw [List.getD_eq_getElem?_getD,List.getElem?_eq_getElem h]
 exact List.getElem_mem _
theorem gl {α:Type} {xs:List α} {b:Int} (h:0<=b):zP xs (some b) none=xs.drop b.toNat:=by
 obtain ⟨k,rfl⟩:=Int.eq_ofNat_of_zero_le h
 unfold zP
 have e:HT.sIx xs.length 0 (some ((k:Nat):Int))=min k xs.length:=HT.sIx_nat ..
 show (xs.drop (HT.sIx xs.length 0 (some ((k:Nat):Int)))).take (xs.length - HT.sIx xs.length 0 (some ((k:Nat):Int)))=xs.drop ((k:Nat):Int).toNat
 rw [e,Int.toNat_natCast,List.take_of_length_le (by rw [List.length_drop]; exact Nat.le_refl _)]
 by_cases c:k<=xs.length
 ·rw [Nat.min_eq_left c]
 ·rw [Nat.min_eq_right (by omega),List.drop_eq_nil_of_le (Nat.le_refl _),List.drop_eq_nil_of_le (show xs.length<=k by omega)]
def zQg (C:Addr):FL:=λds R=>∃ s g t,ds=[s,g,t]/\Fw 6 s/\Fw 6 g/\R (.obj C zPi [s,g,t])
def zQf (C:Addr):FL:=λds R=>∃ s g t n,ds=[uf C s g t,.int ((n:Nat):Int)]/\n<=3/\xi s n/\xi g n/\0<=t/\R (.bool true)
def zQo:FL:=λds R=>∃ rooms n,ds=[ue rooms,.int ((n:Nat):Int)]/\jX n rooms/\n<=3/\R (.bool true)
def zLy (C CM CR:Addr):FL:=λds R=>∃ n bs ms rooms b A1 A2 A3 k,ds=[vy C CM n bs ms,vc CR rooms (.int b) A1 A2 A3]/\j6 n bs ms/\jX n rooms/\0<=b/\b < (rooms.length:Int)/\Fw k A2/\ug A2/\R (.bool (gj n bs ms rooms b.toNat A2))
def zQe (CS CR:Addr):FL:=λds R=>∃ n s g t rooms b A1 A2 A3 k,ds=[uf CS s g t,vc CR rooms (.int b) A1 A2 A3]/\n<=3/\jX n rooms/\xi g n/\0<=t/\0<=b/\Fw k A3/\xE A3/\R (.bool (gk n rooms (min b t).toNat g A3))
def zQi (C CM CS CR:Addr):FL:=λds R=>∃ n bs ms s g t rooms BK A1 A2 A3 k,ds=[vy C CM n bs ms,uf CS s g t,vc CR rooms BK A1 A2 A3]/\j6 n bs ms/\xi s n/\xi g n/\0<=t/\jX n rooms/\BK.isObj=false/\Fw k A1/\Fw k A2/\Fw k A3/\xD A1/\ug A2/\xE A3/\Yr ms=true/\R (.bool (xf n bs ms s g t rooms BK A1 A2 A3))
structure jY (C o dx:Addr) (H H':Hp) (ns:List Str) (vs:List V) (ds:List D):Prop where
 e:H' o=some (.ins C dx (ns.zip vs))
 l:ns.length=vs.length
 s:zD (zL (λb=>b=o) H) (zL (λb=>b=o) H')
 h:yG (zL (λb=>H b≠none) H') vs ds
theorem jY.set {C o dx:Addr} {H H1 H2:Hp} {ns:List Str} {vs:List V} {ds:List D} {f:Str} {v:V} {d:D} (I:jY C o dx H H1 ns vs ds) (s:zD H1 H2) (hf:f∉ns) (ho:H o≠none) (hv:DV (zL (λb=>H b≠none) H2) v d):jY C o dx H (zY H2 o (.ins C dx (yZ f v (ns.zip vs)))) (ns++[f]) (vs++[v]) (ds++[d]):=by
 have hk:zD (zL (λb=>H b≠none) H2) (zL (λb=>H b≠none) (zY H2 o (.ins C dx (yZ f v (ns.zip vs))))):=λb u z=>by
  obtain ⟨z1,z2⟩:=uD z
  have c:b≠o:=λe=>z1 (by rw [e]; exact ho)
  rw [xV (Z:=λb=>H b≠none) z1,zu c]
  exact z2
 refine ⟨by rw [xF,JS I.l hf],by rw [List.length_append,List.length_append,I.l]; rfl,λb u z=>?_,ur (hv.same hk) (yD ((zz s).trans hk) I.h)⟩
 obtain ⟨z1,z2⟩:=uD (I.s _ _ z)
 rw [xV (Z:=λb=>b=o) z1,zu z1]
 exact s _ _ z2
theorem jY.cp {C o dx:Addr} {H H1 H2:Hp} {ns:List Str} {vs:List V} {ds:List D} {f:Str} {v:V} {d:D} (I:jY C o dx H H1 ns vs ds) (s:zD H1 H2) (hv:DV (vS H1 H2) v d) (hf:f∉ns) (ho:H o≠none):jY C o dx H (zY H2 o (.ins C dx (yZ f v (ns.zip vs)))) (ns++[f]) (vs++[v]) (ds++[d]):=I.set s hf ho (hv.same λb u z=>by
 obtain ⟨z1,z2⟩:=Xp z
 rw [xV]
 ·exact z2
 intro hb
 by_cases c:b=o
 ·rw [c,I.e] at z1
  cases z1
 ·cases h:H b with
  | none=>exact hb h
  | some x=>
   have:=zm _ _ (I.s b x ((xV (Z:=λb=>b=o) c).trans h))
   rw [z1] at this
   cases this)
theorem jY.read {C o dx:Addr} {H H1:Hp} {ns:List Str} {vs:List V} {ds:List D} {v:V} {d:D} (I:jY C o dx H H1 ns vs ds) (hv:DV (zL (λb=>b=o) H) v d):DV H1 v d:=(hv.same I.s).same zm
def Y0:D->Bool
 | .int _=>true
 | .bool _=>true
 | _=>false
theorem zPK {H H':Hp} {v:V} {d:D} (h:DV H v d) (a:Y0 d=true):DV H' v d:=by
 cases h <;> first | exact .int _ | exact .bool _ | cases a
def zNs (C:Addr):Sp:=λvs H Q _=>∃ (o dx:Addr) (v0 vb v2 v3 v4:V) (d0 db d2 d3 d4:D),vs=[.ref o,v0,vb,v2,v3,v4]/\H o=some (.ins C dx [])/\DV (zL (λb=>b=o) H) v0 d0/\DV (zL (λb=>b=o) H) vb db/\DV (zL (λb=>b=o) H) v2 d2/\DV (zL (λb=>b=o) H) v3 d3/\DV (zL (λb=>b=o) H) v4 d4/\Y0 db=true/\Fw 6 d0/\Fw 6 d2/\Fw 6 d3/\Fw 6 d4∧
 ∀ H',zD (zL (λb=>b=o) H) (zL (λb=>b=o) H')->DV (zL (λb=>b≠o/\H b≠none) H') (.ref o) (.obj C zPm [d0,db,d2,d3,d4])->Q .non H'
section
variable {P:Program} {w:World} {K:PySem.W.Frag} {mg:Str->Option Value} {base:Heap}
abbrev QK:Stmt:=jn (zp 19) 0
theorem zD3:ze ["self","start","rows","turn"] ["self","start","rows","turn"] (zK QK):=.a
abbrev QL:Stmt:=zp 52
theorem zFV:ze ["claim","many"] ["claim","many"] (zK QL):=.a
abbrev Wa:Stmt:=zp 55
theorem zHe:ze ["value","many"] ["value","many"] (zK Wa):=.a
abbrev Wb:Stmt:=zp 56
theorem zDb:ze ["thing","paper","following"] ["thing","paper"] (zK Wb):=.a
abbrev Wc:Stmt:=zp 59
theorem zEC:ze ["claim","paper","first"] ["claim","paper"] (zK Wc):=.a
abbrev QM:Stmt:=zp 54
theorem zFB:ze ["thing","claim","paper"] ["thing","claim","paper"] (zK QM):=.a
abbrev QN:Stmt:=jn (zp 47) 0
theorem zEg:ze ["self","rooms","back","starts","steps","stays"] ["self","rooms","back","starts","steps","stays"] (zK QN):=.a
variable {aClaim aSettles aComes aa ac aPaper aRooms aFalls:Addr} (Cc:Cs K mg aClaim aSettles aComes aa ac aPaper aRooms aFalls)
include Cc
theorem zD7 {k:Nat} {f:Addr} {fd:FuncData} {dv:Value} (F:xO K "__init__" "Settles.__init__" QK f fd dv) (B:Bl mg) (ae:vK P w K mg base "copied" ["value","depth"] k (u8 6) (.int 5)):zF P w K mg base zW (k + 1) f fd ["self","start","rows","turn"] (vE aSettles (zQg aSettles)):=by
 refine JV F zD3 (λds R h=>by obtain ⟨s,g,t,rfl,_⟩:=h; rfl) λcdv A outer s H E hr=>⟨_,(zM (yI (wP (zZ 0) (jP (.int 5) (λ_=>.int 5) (jU ae) hr rfl (zB (zA 1) zC)) rfl) vY)
  (zM (yI (wP (zZ 0) (jP (.int 5) (λ_=>.int 5) (jU ae) hr rfl (zB (zA 2) zC)) rfl) vY)
  (zQ (yI (wP (zZ 0) (zA 3) rfl) vY)))),λo ds R h=>?_⟩
 obtain ⟨s,g,t,rfl,f1,f2,q⟩:=h
 refine ⟨s,5,rfl,f1,⟨Cc.t1.cl,Cc.u1.n_start⟩,by decide +kernel,by decide,rfl,?_⟩
 refine ⟨g,5,rfl,f2,⟨Cc.t1.cl,Cc.u1.n_rows⟩,by decide +kernel,by decide,rfl,?_⟩
 exact ⟨⟨Cc.t1.cl,Cc.u1.n_turn⟩,by decide +kernel,by decide,rfl,rfl,q⟩
theorem zFq {k:Nat} {f:Addr} {fd:FuncData} (F:zg K "settles_over" "settles_over" QL f fd) (B:Bl mg) (ar:Fn P w K mg base "is_from_0_on" ["value"] k (zH (WS))) (aq:Fn P w K mg base "is_room" ["value","many"] k (zH (WD))):zF P w K mg base zW (k + 1) f fd ["claim","many"] (zH (zQf aSettles)):=by
 refine yC F zFV (λds R h=>by obtain ⟨s,g,t,n,rfl,_⟩:=h; rfl) λcdv A outer s H E hr=>⟨_,(zQ (zX (x9 (zU aq hr rfl (zB (yW K (zA 0) rfl) (zB (zA 1) zC))) (x9 (zU aq hr rfl (zB (yW K (zA 0) rfl) (zB (zA 1) zC))) (vA (zU ar hr rfl (zB (yW K (zA 0) rfl) zC))))))),λds R h=>?_⟩
 obtain ⟨s,g,t,n,rfl,n3,RS,RG,t0,q⟩:=h
 refine ⟨⟨Cc.t1.cl,Cc.u1.n_start⟩,_,rfl,_,_,3,rfl,gh (by have:=RS.few; omega) (λr hr=>by rw [(RS.row r hr).1]; omega),wT (by rw [WN λr hr=>by rw [(RS.row r hr).1]; rfl]) ?_⟩
 refine ⟨⟨Cc.t1.cl,Cc.u1.n_rows⟩,_,rfl,_,_,3,rfl,gh (by have:=RG.few; omega) (λr hr=>by rw [(RG.row r hr).1]; omega),wT (by rw [WN λr hr=>by rw [(RG.row r hr).1]; rfl]) ?_⟩
 exact ⟨⟨Cc.t1.cl,Cc.u1.n_turn⟩,_,rfl,_,rfl,rfl,bR q (decide_eq_true t0).symm⟩
theorem zHq {k:Nat} {f:Addr} {fd:FuncData} (F:zg K "are_rooms" "are_rooms" Wa f fd) (B:Bl mg) (aq:Fn P w K mg base "is_room" ["value","many"] k (zH (WD))):zF P w K mg base zW (k + 1) f fd ["value","many"] (zH (zQo)):=by
 refine yC F zHe (λds R h=>by obtain ⟨rooms,n,rfl,_⟩:=h; rfl) λcdv A outer s H E hr=>⟨_,(zQ (zX (x9 (yO (xQ wQ rfl B.isinstance_ xZ (zS (zA 0) (zS (wC (v:=.ty "list") (u:=.type "list") rfl B.list_ xS rfl) zy))) (wf jO)) (vA (zj (wy rfl) vB rfl B.all_ wz (zB (yT (own:=["room"]) (caps:=[(1,"many")]) (yF (S:=zK Wa) (N:=["value","many"]) rfl (by decide +kernel) rfl ⟨_,rfl⟩ rfl (by decide +kernel) (by decide +kernel)) rfl rfl yH (ym (zA 0)) (λ_ _ _ _=>(zo 0 (show (["room","many"]:List Str).Nodup by decide +kernel) rfl (Or.inl rfl))) (λ_ _ _ _=>(zU aq hr rfl (zB (zA 0) (zB (zA 1) zC))))) zC)))))),λds R h=>?_⟩
 obtain ⟨rooms,n,rfl,RR,n3,q⟩:=h
 have few:=RR.few
 refine ⟨rfl,wT rfl (vG Rm qu WZ (λ_=>.bool true) (by omega) (λr hr=>?_) ⟨rooms.map λ_=>true,by rw [List.map_map]; rfl,bR q ?_⟩)⟩
 ·have h:=RR.rm r hr
  refine ⟨_,_,3,rfl,gh (by have:=h.few; omega) (λr hr=>by rw [(h.row r hr).1]; omega),?_⟩
  rw [WN λr hr=>by rw [(h.row r hr).1]; rfl]
 ·rw [List.all_map]
  exact (List.all_eq_true.mpr λ_ _=>rfl).symm
theorem zFr {k:Nat} {f:Addr} {fd:FuncData} (F:zg K "rooms_follow" "rooms_follow" Wb f fd) (B:Bl mg) (am:Fn P w K mg base "is_list_of" ["value","count"] k (zH (jA))) (bh:Fn P w K mg base "leads" ["thing","room","behind","steps"] k (zH (zOH ac aa))):zF P w K mg base zW (k + 1) f fd ["thing","paper"] (zH (zLy ac aa aRooms)):=by
 refine yC F zDb (λds R h=>by obtain ⟨n,bs,ms,rooms,b,A1,A2,A3,k,rfl,_⟩:=h; rfl) λcdv A outer s H E hr=>⟨_,(zM (yL (yg (yU (zU am hr rfl (zB (yW K (zA 1) rfl) (zB (zj yP yS rfl B.len_ yQ (zB (yW K (zA 1) rfl) zC)) zC))))) (zQ (zX yu)) yK)
  (zM (zv 2 zDb.nd rfl (Or.inl rfl) (zi (xA (yW K (zA 1) rfl) (y9 zE) y8) (yd (zB (zN (yW K (zA 1) rfl) (yW K (zA 1) rfl) (λ_ _=>rfl)) zC))))
  (zQ (zX (zj (wy rfl) vB rfl B.all_ wz (zB (yT (own:=["room","behind","steps"]) (caps:=[(0,"thing")]) (yF (S:=zK Wb) (N:=["thing","paper","following"]) rfl (by decide +kernel) rfl ⟨_,rfl⟩ rfl (by decide +kernel) (by decide +kernel)) rfl rfl (qZ (vV (vV (vV qd)))) (zMt rfl B.zip_ (zB (yW K (zA 1) rfl) (zB (zA 2) (zB (yW K (zA 1) rfl) zC)))) (λ_ _ _ _=>(we rfl (yA 0 (show (["room","behind","steps","thing"]:List Str).Nodup by decide +kernel) rfl (Or.inl rfl) (yA 1 (show (["room","behind","steps","thing"]:List Str).Nodup by decide +kernel) rfl (Or.inl rfl) (yA 2 (show (["room","behind","steps","thing"]:List Str).Nodup by decide +kernel) rfl (Or.inl rfl) wd))))) (λ_ _ _ _=>(zU bh hr rfl (zB (zA 3) (zB (zA 0) (zB (zA 1) (zB (zA 2) zC))))))) zC)))))),λds R h=>?_⟩
 obtain ⟨n,bs,ms,rooms,b,A1,A2,A3,k,rfl,TS,RR,b0,bl,F2,B2,q⟩:=h
 have few:=RR.few
 have lm:(List.map Rm rooms).length=rooms.length:=List.length_map ..
 refine ⟨⟨Cc.t6.cl,Cc.u6.n_steps⟩,_,rfl,⟨Cc.t6.cl,Cc.u6.n_rooms⟩,_,rfl,A2,_,k,rfl,F2,w2 (λc1=>bR q (zGW (by rw [lm] at c1; exact wS c1))) λc1=>?_⟩
 rw [lm] at c1
 obtain ⟨as,rfl,la⟩:=jV (wU c1)
 obtain ⟨es,e1,le,j,rfl,hj⟩:=F2.lst_inv rfl
 cases e1
 have B2:=B2 as rfl
 have ef:D.lst (zP (rooms.map Rm) (some 1) none++[Rm (rooms.getD b.toNat [])])=ue (rooms.drop 1++[rooms.getD b.toNat []]):=by
  unfold ue
  rw [gl (by decide),List.map_append,List.map_drop]
  rfl
 have hf:∀ r∈rooms.drop 1++[rooms.getD b.toNat []],xi r n:=λr hr=>by
  rcases List.mem_append.mp hr with hr | hr
  ·exact RR.rm r (List.mem_of_mem_drop hr)
  ·rw [List.mem_singleton.mp hr]
   exact RR.rm _ (j7 (by omega))
 refine ⟨⟨Cc.t6.cl,Cc.u6.n_rooms⟩,_,rfl,⟨Cc.t6.cl,Cc.u6.n_rooms⟩,_,rfl,⟨Cc.t6.cl,Cc.u6.n_back⟩,_,rfl,_,uh b0 bl,k0,by rw [gl (by decide),List.length_drop,lm]; show _ + 1<=1000; omega,?_⟩
 rw [ef]
 refine ⟨⟨Cc.t6.cl,Cc.u6.n_rooms⟩,_,rfl,⟨Cc.t6.cl,Cc.u6.n_steps⟩,_,rfl,?_⟩
 refine zf.cast (zNi Rm Rm rooms (rooms.drop 1++[rooms.getD b.toNat []]) as) (vG (λp:List (List Int) × List (List Int) × D=>YS (Rm p.1) (Rm p.2.1) p.2.2) (λd=>match d with | .tup [x,y,z]=>(qu x,qu y,z) | _=>([],[],.non)) (λp=>by show (qu (Rm p.1),qu (Rm p.2.1),p.2.2)=p; rw [WZ,WZ]) (λp=>.bool (uc n bs ms p.1 p.2.1 p.2.2)) (by rw [List.length_zip]; omega) (λp hp=>?_) ⟨(rooms.zip ((rooms.drop 1++[rooms.getD b.toNat []]).zip as)).map λp=>uc n bs ms p.1 p.2.1 p.2.2,by rw [List.map_map]; rfl,bR q ?_⟩)
 ·have h1:=(List.of_mem_zip hp).1
  have h2:=List.of_mem_zip (List.of_mem_zip hp).2
  exact ⟨n,bs,ms,p.1,p.2.1,p.2.2,j,rfl,TS,RR.rm _ h1,hf _ h2.1,hj _ h2.2,B2 _ h2.2,rfl⟩
 ·rw [va]
  show (decide _ && _)=_
  rw [decide_eq_true la]
  rfl
theorem zG9 {k:Nat} {f:Addr} {fd:FuncData} (F:zg K "rooms_stay" "rooms_stay" Wc f fd) (B:Bl mg) (am:Fn P w K mg base "is_list_of" ["value","count"] k (zH (jA))) (av:Fn P w K mg base "each_shown" ["rows","targets","shares"] k (zH (WT))):zF P w K mg base zW (k + 1) f fd ["claim","paper"] (zH (zQe aSettles aRooms)):=by
 refine yC F zEC (λds R h=>by obtain ⟨n,s,g,t,rooms,b,A1,A2,A3,k,rfl,_⟩:=h; rfl) λcdv A outer s H E hr=>⟨_,(zM (yL (yg (yU (zU am hr rfl (zB (yW K (zA 1) rfl) (zB (zj yP yS rfl B.len_ yQ (zB (yW K (zA 1) rfl) zC)) zC))))) (zQ (zX yu)) yK)
  (zM (zv 2 zEC.nd rfl (Or.inl rfl) (zj (KZ rfl) zMD rfl B.min_ zH5 (zB (yW K (zA 1) rfl) (zB (yW K (zA 0) rfl) zC))))
  (zQ (zX (zj (wy rfl) vB rfl B.all_ wz (zB (yT (own:=["room","shares"]) (caps:=[(0,"claim")]) (yF (S:=zK Wc) (N:=["claim","paper","first"]) rfl (by decide +kernel) rfl ⟨_,rfl⟩ rfl (by decide +kernel) (by decide +kernel)) rfl rfl (qZ (vV (vV qd))) (j0 rfl B.zip_ (zB (xA (yW K (zA 1) rfl) (y9 (zA 2)) y8) (zB (xA (yW K (zA 1) rfl) (y9 (zA 2)) y8) zC))) (λ_ _ _ _=>(we rfl (yA 0 (show (["room","shares","claim"]:List Str).Nodup by decide +kernel) rfl (Or.inl rfl) (yA 1 (show (["room","shares","claim"]:List Str).Nodup by decide +kernel) rfl (Or.inl rfl) wd)))) (λ_ _ _ _=>(zU av hr rfl (zB (zA 0) (zB (yW K (zA 2) rfl) (zB (zA 1) zC)))))) zC)))))),λds R h=>?_⟩
 obtain ⟨n,s,g,t,rooms,b,A1,A2,A3,k,rfl,n3,RR,RG,t0,b0,F3,B3,q⟩:=h
 have few:=RR.few
 have lm:(List.map Rm rooms).length=rooms.length:=List.length_map ..
 refine ⟨⟨Cc.t6.cl,Cc.u6.n_stays⟩,_,rfl,⟨Cc.t6.cl,Cc.u6.n_rooms⟩,_,rfl,A3,_,k,rfl,F3,w2 (λc1=>bR q (zIz (by rw [lm] at c1; exact wS c1))) λc1=>?_⟩
 rw [lm] at c1
 obtain ⟨as,rfl,la⟩:=jV (wU c1)
 obtain ⟨es,e1,le,j,rfl,hj⟩:=F3.lst_inv rfl
 cases e1
 have B3:=B3 as rfl
 have m0:0<=min b t:=by omega
 refine ⟨⟨Cc.t6.cl,Cc.u6.n_back⟩,_,rfl,⟨Cc.t1.cl,Cc.u1.n_turn⟩,_,rfl,⟨Cc.t6.cl,Cc.u6.n_rooms⟩,_,rfl,⟨Cc.t6.cl,Cc.u6.n_stays⟩,_,rfl,?_⟩
 refine zf.cast (ds':=List.zipWith xh ((rooms.drop (min b t).toNat).map Rm) (as.drop (min b t).toNat)) (by rw [gl m0,gl m0,<- List.map_drop]) (QC Rm qu WZ (λr a=>uF r g n a) (by rw [List.length_drop]; omega) (λr a hm=>?_) ⟨_,rfl,bR q ?_⟩)
 ·have h1:=List.mem_of_mem_drop (List.of_mem_zip hm).1
  have h2:=List.mem_of_mem_drop (List.of_mem_zip hm).2
  exact ⟨⟨Cc.t1.cl,Cc.u1.n_rows⟩,_,rfl,r,g,n,a,j,rfl,(RR.rm r h1).rw n3,RG.rw n3,hj a h2,B3 a h2,rfl⟩
 ·rw [va]
  show (decide _ && _)=_
  rw [decide_eq_true la]
  rfl
theorem zFE {k:Nat} {f:Addr} {fd:FuncData} (F:zg K "lets_rooms_by" "lets_rooms_by" QM f fd) (B:Bl mg) (bi:Fn P w K mg base "are_rooms" ["value","many"] k (zH (zQo))) (bj:Fn P w K mg base "settles_over" ["claim","many"] k (zH (zQf aSettles))) (ar:Fn P w K mg base "is_from_0_on" ["value"] k (zH (WS))) (av:Fn P w K mg base "each_shown" ["rows","targets","shares"] k (zH (WT))) (bA:Fn P w K mg base "rooms_stay" ["claim","paper"] k (zH (zQe aSettles aRooms))) (bB:Fn P w K mg base "rooms_follow" ["thing","paper"] k (zH (zLy ac aa aRooms))):zF P w K mg base zW (k + 1) f fd ["thing","claim","paper"] (zH (zQi ac aa aSettles aRooms)):=by
 refine yC F zFB (λds R h=>by obtain ⟨n,bs,ms,s,g,t,rooms,BK,A1,A2,A3,k,rfl,_⟩:=h; rfl) λcdv A outer s H E hr=>⟨_,(zM (yL (PW.pt (xg (yg (yU (zU bj hr rfl (zB (zA 1) (zB (yW K (zA 0) rfl) zC))))) (wI (yg (yU (zU bi hr rfl (zB (yW K (zA 2) rfl) (zB (yW K (zA 0) rfl) zC)))))))) (zQ (zX yu)) yK)
  (zM (yL (PW.pt (xg (yg (yU (zU ar hr rfl (zB (yW K (zA 2) rfl) zC)))) (wI (gY (yW K (zA 2) rfl) (zj yP yS rfl B.len_ yQ (zB (yW K (zA 2) rfl) zC)))))) (zQ (zX yu)) yK)
  (zM (yL (yg (yU (zU av hr rfl (zB (yW K (zA 1) rfl) (zB (zN (yW K (zA 2) rfl) zE (λ_ _=>rfl)) (zB (yW K (zA 2) rfl) zC)))))) (zQ (zX yu)) yK)
  (zQ (zX (x9 (zU bB hr rfl (zB (zA 0) (zB (zA 2) zC))) (vA (zU bA hr rfl (zB (zA 1) (zB (zA 2) zC)))))))))),λds R h=>?_⟩
 obtain ⟨n,bs,ms,s,g,t,rooms,BK,A1,A2,A3,k,rfl,TS,RS,RG,t0,RR,bo,F1,F2,F3,B1,B2,B3,cl,q⟩:=h
 have n3:=TS.ok.n3
 have lm:(List.map Rm rooms).length=rooms.length:=List.length_map ..
 refine ⟨⟨Cc.t4.cl,Cc.u4.n_many⟩,_,rfl,s,g,t,n,rfl,n3,RS,RG,t0,wF rfl ?_⟩
 refine ⟨⟨Cc.t6.cl,Cc.u6.n_rooms⟩,_,rfl,⟨Cc.t4.cl,Cc.u4.n_many⟩,_,rfl,rooms,n,rfl,RR,n3,wF rfl ?_⟩
 refine ⟨⟨Cc.t6.cl,Cc.u6.n_back⟩,_,rfl,BK,rfl,bo,w2 (λc1=>wT rfl (bR q ?_)) λc1=>?_⟩
 ·have c1:=wS c1
  cases BK with
  | int b=>exact if_pos (.inl (by have:=of_decide_eq_false c1; omega))
  | _=>rfl
 obtain ⟨b,rfl,b0⟩:∃ b,BK=.int b/\0<=b:=by
  have c1:=wU c1
  cases BK with
  | int b=>exact ⟨b,rfl,of_decide_eq_true c1⟩
  | _=>cases c1
 refine ⟨⟨Cc.t6.cl,Cc.u6.n_back⟩,_,rfl,⟨Cc.t6.cl,Cc.u6.n_rooms⟩,_,rfl,w2 (λc2=>bR q (if_pos (.inr (by have:=of_decide_eq_true c2; omega)))) λc2=>?_⟩
 have bl:b < (rooms.length:Int):=by have:=of_decide_eq_false c2; omega
 have z:xf n bs ms s g t rooms (.int b) A1 A2 A3=(uF s (rooms.getD 0 []) n A1 && (gj n bs ms rooms b.toNat A2 && gk n rooms (min b t).toNat g A3)):=if_neg (by omega)
 rw [z] at q
 refine ⟨⟨Cc.t1.cl,Cc.u1.n_start⟩,_,rfl,⟨Cc.t6.cl,Cc.u6.n_rooms⟩,_,rfl,_,uh (b:=0) (by decide) (by omega),⟨Cc.t6.cl,Cc.u6.n_starts⟩,_,rfl,s,rooms.getD 0 [],n,A1,k,rfl,RS.rw n3,(RR.rm _ (j7 (by omega))).rw n3,F1,B1,w2 (λc3=>bR q (by rw [wS c3]; rfl)) λc3=>?_⟩
 rw [wU c3] at q
 refine ⟨n,bs,ms,rooms,b,A1,A2,A3,k,rfl,TS,RR,b0,bl,F2,B2,w2 (λc4=>?_) λc4=>bR q (by rw [c4]; rfl)⟩
 rw [c4] at q
 exact ⟨n,s,g,t,rooms,b,A1,A2,A3,k,rfl,n3,RR,RG,t0,b0,F3,B3,q⟩
theorem zEq {k:Nat} {f:Addr} {fd:FuncData} (F:zg K "__init__" "Rooms.__init__" QN f fd) (B:Bl mg) (ae:vK P w K mg base "copied" ["value","depth"] k (u8 6) (.int 5)):zF P w K mg base zW (k + 1) f fd ["self","rooms","back","starts","steps","stays"] (zNs aRooms):=by
 refine F.ok zEg (λvs H Q E h=>?_) (λcdv A outer s H vs Q E hr h=>?_)
 ·obtain ⟨_,_,_,_,_,_,_,_,_,_,_,_,rfl,_⟩:=h
  rfl
 obtain ⟨o,dx,v0,vb,v2,v3,v4,d0,db,d2,d3,d4,rfl,ho,h0,hb,h2,h3,h4,ab,f0,f2,f3,f4,q⟩:=h
 refine ⟨_,(wD (wP (zZ 0) (ZA ae hr rfl (zS (zZ 1) zy)) rfl)
  (wD (wP (zZ 0) (zZ 2) rfl)
  (wD (wP (zZ 0) (ZA ae hr rfl (zS (zZ 3) zy)) rfl)
  (wD (wP (zZ 0) (ZA ae hr rfl (zS (zZ 4) zy)) rfl)
  (jC (wP (zZ 0) (ZA ae hr rfl (zS (zZ 5) zy)) rfl)))))),?_⟩
 have ho0:H o≠none:=by rw [ho]; exact λz=>nomatch z
 have I0:jY aRooms o dx H H [] [] []:=⟨ho,rfl,zD.refl _,.nil⟩
 refine ⟨_,rfl,v0,d0,5,6,rfl,I0.read h0,f0,Nat.le_refl _,.inr (by decide),λw1 H1 s1 k1=>⟨_,rfl,o,aRooms,dx,_,rfl,s1 _ _ I0.e,Cc.t6.cl,Cc.u6.n_rooms,(by show 0 < 1000; decide),?_⟩⟩
 have I1:=I0.cp (f:="rooms") s1 k1 (by decide) ho0
 refine ⟨_,rfl,_,rfl,o,aRooms,dx,_,rfl,I1.e,Cc.t6.cl,Cc.u6.n_back,(by show 1 < 1000; decide),?_⟩
 have I2:=I1.set (f:="back") (zD.refl _) (by decide) ho0 (zPK hb ab)
 refine ⟨_,rfl,v2,d2,5,6,rfl,I2.read h2,f2,Nat.le_refl _,.inr (by decide),λw3 H3 s3 k3=>⟨_,rfl,o,aRooms,dx,_,rfl,s3 _ _ I2.e,Cc.t6.cl,Cc.u6.n_starts,(by show 2 < 1000; decide),?_⟩⟩
 have I3:=I2.cp (f:="starts") s3 k3 (by decide) ho0
 refine ⟨_,rfl,v3,d3,5,6,rfl,I3.read h3,f3,Nat.le_refl _,.inr (by decide),λw4 H4 s4 k4=>⟨_,rfl,o,aRooms,dx,_,rfl,s4 _ _ I3.e,Cc.t6.cl,Cc.u6.n_steps,(by show 3 < 1000; decide),?_⟩⟩
 have I4:=I3.cp (f:="steps") s4 k4 (by decide) ho0
 refine ⟨_,rfl,v4,d4,5,6,rfl,I4.read h4,f4,Nat.le_refl _,.inr (by decide),λw5 H5 s5 k5=>⟨_,rfl,o,aRooms,dx,_,rfl,s5 _ _ I4.e,Cc.t6.cl,Cc.u6.n_stays,(by show 4 < 1000; decide),?_⟩⟩
 have I5:=I4.cp (f:="stays") s5 k5 (by decide) ho0
 exact q _ I5.s (.obj ((xV λz=>z.1 rfl).trans I5.e) I5.l (yD (uu λb z=>z.2) I5.h))
end
def zQx:List Str:=["start","goal","turns"]
def zQj (C CM CS CR CC:Addr):FL:=λds R=>∃ n bs ms c rooms BK A1 A2 A3,ds=[vy C CM n bs ms,c,vc CR rooms BK A1 A2 A3]/\j6 n bs ms/\Yr ms=true/\((∃ s g t k,c=uf CS s g t/\xi s n/\xi g n/\0<=t/\jX n rooms/\BK.isObj=false/\Fw k A1/\Fw k A2/\Fw k A3/\xD A1/\ug A2/\xE A3/\R (.bool (xf n bs ms s g t rooms BK A1 A2 A3)))\/(∃ ns fs,c=.obj CC ns fs/\R (.bool false)))
section
variable {P:Program} {w:World} {K:PySem.W.Frag} {mg:Str->Option Value} {base:Heap}
abbrev QO:Stmt:=zp 49
theorem zJf:ze ["thing","claim","paper"] ["thing","claim","paper"] (zK QO):=.a
variable {aClaim aSettles aComes aa ac aPaper aRooms aFalls:Addr} (Cc:Cs K mg aClaim aSettles aComes aa ac aPaper aRooms aFalls)
include Cc
theorem zJo {k:Nat} {f:Addr} {fd:FuncData} (F:zg K "lets_by" "lets_by" QO f fd) (B:Bl mg) (bC:Fn P w K mg base "ask_closed" ["thing"] k (zH (zGY ac aa))) (bE:Fn P w K mg base "lets_rooms_by" ["thing","claim","paper"] k (zH (zQi ac aa aSettles aRooms))) (bF:Fn P w K mg base "lets_fall_by" ["thing","claim","paper"] k (zH fNo)):zF P w K mg base zW (k + 1) f fd ["thing","claim","paper"] (zH (zQj ac aa aSettles aRooms aComes)):=by
 refine yC F zJf (λds R h=>by obtain ⟨n,bs,ms,c,rooms,BK,A1,A2,A3,rfl,_⟩:=h; rfl) λcdv A outer s H E hr=>⟨_,(zM (zMs (zU bC hr rfl (zB (zA 0) zC)))
  (zM (yL (PW.pt (zKl (yU (yO (xQ ZI rfl B.isinstance_ xZ (zS (zA 1) (zS (ZH Cc.t1 rfl) zy))) YG)) (zI6 (yU (yO (xQ ZI rfl B.isinstance_ xZ (zS (zA 2) (zS (ZH Cc.t6 rfl) zy))) YG))))) (zQ (zX (zU bE hr rfl (zB (zA 0) (zB (zA 1) (zB (zA 2) zC)))))) yK)
  (zM (yL (PW.pt (zKl (yU (yO (xQ ZI rfl B.isinstance_ xZ (zS (zA 1) (zS (ZH Cc.t2 rfl) zy))) YG)) (zI6 (yU (yO (xQ ZI rfl B.isinstance_ xZ (zS (zA 2) (zS (ZH Cc.t7 rfl) zy))) YG))))) (zQ (zX (zU bF hr rfl (zB (zA 0) (zB (zA 1) (zB (zA 2) zC)))))) yK)
  (zQ (zX yu))))),λds R h=>?_⟩
 obtain ⟨n,bs,ms,c,rooms,BK,A1,A2,A3,rfl,TS,cl,q⟩:=h
 refine ⟨n,bs,ms,rfl,TS.ok,cl,?_⟩
 rcases q with ⟨s,g,t,k,rfl,RS,RG,t0,RR,bo,F1,F2,F3,B1,B2,B3,q⟩ | ⟨ns,fs,rfl,q⟩
 ·refine ⟨⟨_,_,Cc.t1⟩,_,Xo,wT rfl ?_⟩
  refine ⟨⟨_,_,Cc.t6⟩,_,Xo,wT rfl ?_⟩
  exact ⟨n,bs,ms,s,g,t,rooms,BK,A1,A2,A3,k,rfl,TS,RS,RG,t0,RR,bo,F1,F2,F3,B1,B2,B3,cl,q⟩
 ·refine ⟨⟨_,_,Cc.t2⟩,_,Cc.yk.k_Comes_Settles,wF rfl (wF rfl ?_)⟩
  refine ⟨⟨_,_,Cc.t2⟩,_,Xo,wT rfl ?_⟩
  refine ⟨⟨_,_,Cc.t6⟩,_,Cc.yk.k_Rooms_Falls,wF rfl ?_⟩
  exact q
end
structure QP (e:Nat) (m:MD):Prop where
 nexts:∀ r∈m.nexts,∀ x∈r,Bd e x
 steer:∀ x∈m.steer,Bd e x
 push:∀ r∈m.push,∀ x∈r,Bd e x
 add:∀ x∈m.add,Bd e x
 div:Bd e m.div
 rows:∀ r∈m.rows,∀ x∈r,Bd e x
 few:m.rows.length<=100
theorem QP.ms {e:Nat} {m:MD} (h:QP e m) (k:e<=300):MS m:=⟨λr hr x hx=>(h.nexts r hr x hx).mono k,λr hr x hx=>(h.push r hr x hx).mono k,λx hx=>(h.add x hx).mono k,h.div.mono k,λr hr x hx=>(h.rows r hr x hx).mono k,h.few⟩
section
variable {P:Program} {w:World} {K:PySem.W.Frag} {mg:Str->Option Value} {base:Heap}
variable {aClaim aSettles aComes aa ac aPaper aRooms aFalls:Addr} (Cc:Cs K mg aClaim aSettles aComes aa ac aPaper aRooms aFalls)
include Cc
end
theorem md (a:Int) {b:Int} (h:0 < b):0<=a.fmod b/\a.fmod b < b:=⟨Int.fmod_nonneg_of_pos a h,Int.fmod_lt_of_pos a h⟩
theorem vz {n:Nat} {a b:Int} (h:Bd n b) (p:0 < b):Bd n (a.fmod b):=by
 have:=md a p
 exact h.of_le (by omega)
theorem Y1 {n:Nat} (h:n<=3):Bd 2 (n:Int):=by
 show (n:Int).natAbs < 2 ^ 2
 omega
theorem QQ {α:Type} {xs:List α} {i:Int} (h0:0<=i) (h1:i < (xs.length:Int)):∃ x∈xs,ya xs i=some x:=by
 obtain ⟨k,rfl⟩:=Int.eq_ofNat_of_zero_le h0
 have hk:k < xs.length:=by omega
 refine ⟨xs[k],List.getElem_mem hk,?_⟩
 unfold ya vJ
 rw [if_pos (by omega),if_pos (by omega)]
 show xs[((k:Nat):Int).toNat]? = _
 rw [show ((k:Nat):Int).toNat=k by omega,List.getElem?_eq_getElem hk]
theorem zQz {xs:List Int} {i:Int} (h0:0<=i) (h1:i < (xs.length:Int)):∃ x∈xs,ya (xs.map D.int) i=some (.int x):=by
 obtain ⟨x,hx,e⟩:=QQ h0 h1
 exact ⟨x,hx,by rw [uw,e]; rfl⟩
theorem xj {xs:List Int} {i:Int} {R:D->Prop} (h0:0<=i) (h1:i < (xs.length:Int)) (q:∀ x∈xs,R (.int x)):∃ d,ya (xs.map D.int) i=some d/\R d:=by
 obtain ⟨x,hx,e⟩:=zQz h0 h1
 exact ⟨_,e,q x hx⟩
theorem vH {xs:List D} {i:Int} {R:D->Prop} (h0:0<=i) (h1:i < (xs.length:Int)) (q:∀ x∈xs,R x):∃ d,ya xs i=some d/\R d:=by
 obtain ⟨x,hx,e⟩:=QQ h0 h1
 exact ⟨_,e,q x hx⟩
theorem zQy {y f:Int} {n:Nat} (h:Bd n f) (h1 : -f<=y) (h2:y<=f):Bd n y:=h.of_le (by omega)
theorem wj {α:Type} {P:α->Prop} {xs:List α} {y:α} (h:∀ x∈xs,P x) (k:P y):∀ x∈xs++[y],P x:=λx hx=>by
 rcases List.mem_append.mp hx with hx | hx
 ·exact h x hx
 ·rw [List.mem_singleton.mp hx]; exact k
theorem zNZ {xs:List D} {k:Nat}:zP xs (some (k:Int)) none=xs.drop k:=by
 unfold zP
 rw [HT.sIx_none,HT.sIx_nat,List.take_of_length_le (by rw [List.length_drop]; omega)]
 by_cases h:k<=xs.length
 ·rw [Nat.min_eq_left h]
 ·rw [Nat.min_eq_right (by omega),List.drop_length,List.drop_of_length_le (by omega)]
abbrev We:Int:=10 ^ (45:Int).toNat
def QR:FL:=λds R=>∃ ns k,ds=[.scr ns,.int k]/\0<=k/\∀ c,R (.int c)
def QS (xs:List Int):Prop:=∀ x∈xs,0<=x/\Bd 150 x
def gm:FL:=λds R=>∃ (c:Int) (n:Nat),ds=[.int c,.int (n:Int)]/\n<=100/\∀ xs,xs.length=n->QS xs->R (L xs)
def Wf:FL:=λds R=>∃ x far:Int,ds=[.int x,.int far]/\0<=far/\Bd 9000 far/\∀ y,-far<=y->y<=far->R (.int y)
def Y2:FL:=λds R=>∃ (c:Int) (n:Nat) (u:Int),ds=[.int c,.int (n:Int),.int u]/\n<=3/\0<=u/\Bd 100 u/\∀ bs:List (Int × Int),bs.length=n->(∀ b∈bs,b.1<=b.2/\Bd 105 b.1/\Bd 105 b.2)->R (.lst (bs.map yR))
def wK (n i:Nat) (b:Int × Int):List (List Int):=[xH (i:Int) n 1++[b.2],(xH (i:Int) n 1).map (λx=>0 - x)++[0 - b.1]]
def wL (bs:List (Int × Int)):List (List Int):=(bs.mapIdx (wK bs.length)).flatten
def Y3:FL:=λds R=>∃ bs:List (Int × Int),ds=[.lst (bs.map yR)]/\bs.length<=100/\R (Rm (wL bs))
def Wg:FL:=λds R=>∃ (d:D) (ns:List Int),ds=[d]/\IS d ns/\ns.length<=100/\(∀ x∈ns,Bd 200 x)/\∀ ys,ys.length=2 * ns.length->(∀ y∈ys,0<=y/\Bd 200 y)->R (L ys)
abbrev xk (m:MD):D:=.tup [Rm m.rows,Tb m.nexts,L m.steer,Tb m.push,L m.add,.int m.div]
abbrev xM (n:Nat) (bs:List (Int × Int)) (ms:List MD) (u:Int):D:=.tup [.int (n:Int),.lst (bs.map yR),.lst (ms.map xk),.int u]
def zQh (C CM:Addr):FL:=λds R=>∃ n bs ms u,ds=[xM n bs ms u]/\vR n bs ms/\R (vy C CM n bs ms)
theorem zOB (i j:Nat):(if decide ((j:Int)=(i:Int))=true then (1:Int) else 0)=if (j:Int)=(i:Int) then 1 else 0:=by
 by_cases c:(j:Int)=(i:Int)
 ·rw [if_pos c,if_pos (decide_eq_true c)]
 ·rw [if_neg c,if_neg (by rw [decide_eq_false c]; exact Bool.false_ne_true)]
theorem Wi {bs:List (Int × Int)} {k:Nat} (h:k < bs.length) {i:Int} (e:i=(k:Int)):ya (bs.map yR) i=some (yR bs[k]):=by
 rw [uw,e]
 unfold ya vJ
 rw [if_pos (by omega),if_pos (by omega)]
 show Option.map yR bs[((k:Nat):Int).toNat]? = _
 rw [show ((k:Nat):Int).toNat=k by omega,List.getElem?_eq_getElem h]
 rfl
theorem zMh {α:Type} {l:List (List α)} {k:Nat} {x:List α} (h:l[k]? = some x):(l.take (k + 1)).flatten=(l.take k).flatten++x:=by
 rw [jH h,List.flatten_append,List.flatten_singleton]
section
variable {P:Program} {w:World} {K:PySem.W.Frag} {mg:Str->Option Value} {base:Heap}
abbrev QT:Stmt:=zp 68
theorem zHd:ze ["_law_script","_law_k"] ["_law_script","_law_k"] (zK QT):=.a
abbrev QU:Stmt:=zp 69
theorem j8:ze ["_law_cell","_law_many","_law_found","_law_rest","_law_k","_law_number_here"] ["_law_cell","_law_many"] (zK QU):=.a
abbrev QV:Stmt:=zp 70
theorem zII:ze ["_law_x","_law_far"] ["_law_x","_law_far"] (zK QV):=.a
abbrev QW:Stmt:=zp 74
theorem Y4:ze ["_law_cell","_law_many","_law_unit","_law_xs","_law_box_here","_law_i","_law_low"] ["_law_cell","_law_many","_law_unit"] (zK QW):=.a
abbrev Y5:Stmt:=zp 75
theorem Wj:ze ["_law_box_here","_law_rows_here","_law_i","_law_ones"] ["_law_box_here"] (zK Y5):=.a
variable {aClaim aSettles aComes aa ac aPaper aRooms aFalls:Addr} (Cc:Cs K mg aClaim aSettles aComes aa ac aPaper aRooms aFalls)
include Cc
theorem zHp {k:Nat} {f:Addr} {fd:FuncData} (F:zg K "_law_cell_at" "_law_cell_at" QT f fd) (B:Bl mg):zF P w K mg base zW (k + 1) f fd ["_law_script","_law_k"] (zH (QR)):=by
 refine yC F zHd (λds R h=>by obtain ⟨ns,k,rfl,_⟩:=h; rfl) λcdv A outer s H E hr=>⟨_,(zM (yL (U3 (zA 1) (zj yP yS rfl B.len_ yQ (zB (zA 0) zC))) (zQ (zX (zN (zA 0) (zA 1) (λ_ _=>rfl)))) yK)
  (zQ (zX zE))),λds R h=>?_⟩
 obtain ⟨ns,k,rfl,h0,q⟩:=h
 refine w2 (λc=>?_) λc=>q 0
 obtain ⟨x,_,e⟩:=QQ h0 (of_decide_eq_true c)
 exact ⟨x,e,q x⟩
theorem zIU {k:Nat} {f:Addr} {fd:FuncData} (F:zg K "_law_stream" "_law_stream" QU f fd) (B:Bl mg):zF P w K mg base zW (k + 1) f fd ["_law_cell","_law_many"] (zH (gm)):=by
 refine yC F j8 (λds R h=>by obtain ⟨c,n,rfl,_⟩:=h; rfl) λcdv A outer s H E hr=>⟨_,(zM (vo 2 j8.nd rfl (Or.inl rfl) zC)
  (zM (yL (gY (zA 0) (jK zE zE)) (zM (zv 3 j8.nd rfl (Or.inl rfl) (xr (zA 0) (jK zE zE)))
   (zM (wA PassesOwn.never rfl (y3 rfl B.range_ (zB (zA 1) zC)) (zo 4 j8.nd rfl (Or.inl rfl)) (zM (yI (xy (wG PySem.F.plainAttrs_list PySem.F.slot_list_append PySem.F.type_list_append yb (zZ 2) (zS (y4 (zA 3) (jK zE zE)) zy))) wR)
    (zQ (zv 3 j8.nd rfl (Or.inl rfl) (wa (zA 3) (jK zE zE))))))
   (zQ (wJ 2 (zX (zA 2)))))) yK)
  (zM (zv 5 j8.nd rfl (Or.inl rfl) (zi (y4 (zA 0) (zi (jK zE zE) zE)) zE))
  (zM (wA PassesOwn.never rfl (y3 rfl B.range_ (zB (zi (zA 1) zE) zC)) (zo 4 j8.nd rfl (Or.inl rfl)) (zM (zv 5 j8.nd rfl (Or.inl rfl) (y4 (zi (zi (yo (zA 5) (zA 5)) (yo zE (zA 5))) (zA 4)) (zi (jK zE zE) zE)))
   (zQ (yI (xy (wG PySem.F.plainAttrs_list PySem.F.slot_list_append PySem.F.type_list_append yb (zZ 2) (zS (zA 5) zy))) wR))))
  (zQ (wJ 2 (zX (xA (zA 2) (y9 zE) y8)))))))),λds R h=>?_⟩
 obtain ⟨c,n,rfl,n1,q⟩:=h
 have b45:Bd 150 We:=Bd.lit
 have p45:(0:Int) < We:=by decide
 have b18:Bd 60 ((10:Int) ^ (18:Int).toNat + 9):=Bd.lit
 have p18:(0:Int) < (10:Int) ^ (18:Int).toNat + 9:=by decide
 refine ⟨k0,⟨by decide,by decide,by decide⟩,w2 (λc1=>?_) λc1=>?_⟩
 ·refine ⟨⟨by decide,by decide,by decide⟩,by omega,by omega,?_⟩
  rw [show ((n:Nat):Int).toNat=n by omega]
  refine ⟨λk Γ=>∃ (xs:List Int) (r:Int) (s4:Sl),Γ=[.sh (.int c),.sh (.int (n:Int)),.ow (xs.map D.int),.sh (.int r),s4,.no]/\xs.length=k/\QS xs,⟨[],_,.no,rfl,rfl,λ_ h=>nomatch h⟩,?_,?_⟩
  ·rintro k d Γ' hk ⟨xs,r,s4,rfl,lx,hx⟩
   obtain ⟨kn,rfl⟩:=vT hk
   refine ⟨⟨by decide,by decide,by decide⟩,by decide,by rw [List.length_map]; omega,?_⟩
   refine ⟨⟨by decide,by decide,by decide⟩,by decide,b45.mono,?_⟩
   refine ⟨xs++[r.fmod We],r.fdiv We,.sh (.int (k:Int)),?_,by rw [List.length_append,lx]; rfl,wj hx ⟨(md r p45).1,vz b45 p45⟩⟩
   rw [List.map_append]
   rfl
  ·rintro Γ' ⟨xs,r,s4,rfl,lx,hx⟩
   rw [vU] at lx
   exact q xs lx hx
 ·refine ⟨⟨by decide,by decide,by decide⟩,by decide,?_⟩
  have m0:=md c p18
  have bm:Bd 60 (c.fmod ((10:Int) ^ (18:Int).toNat + 9)):=vz b18 p18
  refine ⟨by omega,by omega,?_⟩
  rw [show ((n:Int) + 2).toNat=n + 2 by omega]
  refine ⟨λk Γ=>∃ (xs:List Int) (r:Int) (s4:Sl),Γ=[.sh (.int c),.sh (.int (n:Int)),.ow (xs.map D.int),.no,s4,.sh (.int r)]/\xs.length=k/\QS xs/\Bd 70 r,⟨[],_,.no,rfl,rfl,(λ_ h=>nomatch h),((bm.mono (show 60<=65 by decide)).add ((Bd.lit (i:=48271) (n:=16)).mono (show 16<=65 by decide))).mono⟩,?_,?_⟩
  ·rintro k d Γ' hk ⟨xs,r,s4,rfl,lx,hx,br⟩
   obtain ⟨kn,rfl⟩:=vT hk
   refine ⟨br.mono,br.mono,(Bd.lit (i:=48271) (n:=16)).mono,br.mono,⟨by decide,by decide,by decide⟩,by decide,by rw [List.length_map]; omega,?_⟩
   refine ⟨xs++[(r * r + 48271 * r + (k:Int)).fmod ((10:Int) ^ (18:Int).toNat + 9)],(r * r + 48271 * r + (k:Int)).fmod ((10:Int) ^ (18:Int).toNat + 9),.sh (.int (k:Int)),?_,?_,wj hx ⟨(md (r * r + 48271 * r + (k:Int)) p18).1,(vz b18 p18).mono⟩,(vz b18 p18).mono⟩
   ·rw [List.map_append]
    rfl
   ·rw [List.length_append,lx]; rfl
  ·rintro Γ' ⟨xs,r,s4,rfl,lx,hx,br⟩
   rw [vU] at lx
   have e:zP (xs.map D.int) (some 2) none=(xs.drop 2).map D.int:=by rw [show (2:Int)=((2:Nat):Int) from rfl,zNZ,List.map_drop]
   have qq:=q (xs.drop 2) (by rw [List.length_drop]; omega) (λx hx'=>hx x (List.mem_of_mem_drop hx'))
   unfold L at qq
   rw [<- e] at qq
   exact qq
theorem zIW {k:Nat} {f:Addr} {fd:FuncData} (F:zg K "_law_number" "_law_number" QV f fd) (B:Bl mg):zF P w K mg base zW (k + 1) f fd ["_law_x","_law_far"] (zH (Wf)):=by
 refine yC F zII (λds R h=>by obtain ⟨x,far,rfl,_⟩:=h; rfl) λcdv A outer s H E hr=>⟨_,(zQ (zX (xr (y4 (zA 0) (zi (yo zE (zA 1)) zE)) (zA 1)))),λds R h=>?_⟩
 obtain ⟨x,far,rfl,f0,bf,q⟩:=h
 have:=md x (show (0:Int) < 2 * far + 1 by omega)
 exact ⟨(Bd.lit (i:=2) (n:=2)).mono,bf.mono,by omega,q _ (by omega) (by omega)⟩
theorem zNC {k:Nat} {f:Addr} {fd:FuncData} (F:zg K "_law_box" "_law_box" QW f fd) (B:Bl mg) (ah:Fn P w K mg base "_law_stream" ["_law_cell","_law_many"] k (zH (gm))) (ai:Fn P w K mg base "_law_number" ["_law_x","_law_far"] k (zH (Wf))):zF P w K mg base zW (k + 1) f fd ["_law_cell","_law_many","_law_unit"] (zH (Y2)):=by
 refine yC F Y4 (λds R h=>by obtain ⟨c,n,u,rfl,_⟩:=h; rfl) λcdv A outer s H E hr=>⟨_,(zM (zv 3 Y4.nd rfl (Or.inl rfl) (zU ah hr rfl (zB (zA 0) (zB (yo zE (zA 1)) zC))))
  (zM (vo 4 Y4.nd rfl (Or.inl rfl) zC)
  (zM (wA PassesOwn.never rfl (y3 rfl B.range_ (zB (zA 1) zC)) (zo 5 Y4.nd rfl (Or.inl rfl)) (zM (zv 6 Y4.nd rfl (Or.inl rfl) (yo (zU ai hr rfl (zB (zN (zA 3) (yo zE (zA 5)) (λ_ _=>rfl)) (zB zE zC))) (zA 2)))
   (zQ (yI (xy (wG PySem.F.plainAttrs_list PySem.F.slot_list_append PySem.F.type_list_append yb (zZ 4) (zS (wq (zB (zA 6) (zB (zi (zi (zA 6) (yo (y4 (zN (zA 3) (zi (yo zE (zA 5)) zE) (λ_ _=>rfl)) zE) (zA 2))) (y4 (wa (zN (zA 3) (zi (yo zE (zA 5)) zE) (λ_ _=>rfl)) zE) zE)) zC))) zy))) wR))))
  (zQ (wJ 4 (zX (zA 4))))))),λds R h=>?_⟩
 obtain ⟨c,n,u,rfl,n3,u0,bu,q⟩:=h
 have b2:Bd 2 (2:Int):=Bd.lit
 refine ⟨b2.mono,(Y1 n3).mono,c,2 * n,by rw [show ((2 * n:Nat):Int)=2 * (n:Int) by omega],by omega,λxs lx hx=>?_⟩
 refine ⟨k0,by omega,by omega,?_⟩
 rw [show ((n:Nat):Int).toNat=n by omega]
 refine ⟨λk Γ=>∃ (bs:List (Int × Int)) (s5 s6:Sl),Γ=[.sh (.int c),.sh (.int (n:Int)),.sh (.int u),.sh (L xs),.ow (bs.map yR),s5,s6]/\bs.length=k/\∀ b∈bs,b.1<=b.2/\Bd 105 b.1/\Bd 105 b.2,⟨[],.no,.no,rfl,rfl,λ_ h=>nomatch h⟩,?_,?_⟩
 ·rintro k d Γ' hk ⟨bs,s5,s6,rfl,lb,hb⟩
  obtain ⟨kn,rfl⟩:=vT hk
  have bk:Bd 2 (k:Int):=Y1 (by omega)
  refine ⟨b2.mono,bk.mono,xj (by omega) (by omega) λx hx1=>⟨x,3,rfl,by decide,(Bd.lit (i:=3) (n:=2)).mono,λy y1 y2=>?_⟩⟩
  have by2:Bd 2 y:=zQy (f:=3) Bd.lit y1 y2
  refine ⟨by2.mono,bu.mono,?_⟩
  refine ⟨b2.mono,bk.mono,xj (by omega) (by omega) λx2 hx2=>⟨by decide,(Bd.mono (n:=3) (vz Bd.lit (by decide)) (by decide)),bu.mono,b2.mono,bk.mono,xj (by omega) (by omega) λx3 hx3=>⟨by decide,(Bd.lit (i:=4) (n:=3)).mono,by decide,k0,by rw [List.length_map]; omega,?_⟩⟩⟩
  have m1:=md x2 (show (0:Int) < 4 by decide)
  have m2:=md (x3.fdiv 4) (show (0:Int) < 2 by decide)
  have g0:0<=x2.fmod 4 * u:=Int.mul_nonneg m1.1 u0
  have c1:Bd 102 (y * u):=by2.mul bu
  have c2:Bd 103 (x2.fmod 4 * u):=(vz (n:=3) Bd.lit (by decide)).mul bu
  have c3:Bd 2 ((x3.fdiv 4).fmod 2):=vz Bd.lit (by decide)
  refine ⟨bs++[(y * u,y * u + x2.fmod 4 * u + (x3.fdiv 4).fmod 2)],.sh (.int (k:Int)),.sh (.int (y * u)),?_,by rw [List.length_append,lb]; rfl,wj hb ⟨by show y * u<=y * u + x2.fmod 4 * u + (x3.fdiv 4).fmod 2; omega,c1.mono,((c1.mono (show 102<=103 by decide)).add c2 |>.add c3.mono).mono⟩⟩
  rw [List.map_append]
  rfl
 ·rintro Γ' ⟨bs,s5,s6,rfl,lb,hb⟩
  rw [vU] at lb
  exact q bs lb hb
theorem zLJ {k:Nat} {f:Addr} {fd:FuncData} (F:zg K "_law_rows" "_law_rows" Y5 f fd) (B:Bl mg):zF P w K mg base zW (k + 1) f fd ["_law_box_here"] (zH (Y3)):=by
 refine yC F Wj (λds R h=>by obtain ⟨bs,rfl,_⟩:=h; rfl) λcdv A outer s H E hr=>⟨_,(zM (vo 1 Wj.nd rfl (Or.inl rfl) zC)
  (zM (wA PassesOwn.never rfl (y3 rfl B.range_ (zB (zj yP yS rfl B.len_ yQ (zB (zA 0) zC)) zC)) (zo 2 Wj.nd rfl (Or.inr rfl)) (zM (vp 3 false Wj.nd rfl rfl (own:=["_law_j"]) (caps:=[(2,"_law_i")]) (yF (S:=zK Y5) (N:=["_law_box_here","_law_rows_here","_law_i","_law_ones"]) rfl (by decide +kernel) rfl ⟨_,rfl⟩ rfl (by decide +kernel) (by decide +kernel)) rfl rfl yH (y3 rfl B.range_ (zB (zj yP yS rfl B.len_ yQ (zB (zA 0) zC)) zC)) (λ_ _ _ _=>(zo 0 (show (["_law_j","_law_i"]:List Str).Nodup by decide +kernel) rfl (Or.inl rfl))) (λ_ _ _ _=>(xP UP JB rfl B.int_ k9 (zB (uM hr.units (zA 0) (zA 1)) zC))) rfl)
   (zM (yI (xy (wG PySem.F.plainAttrs_list PySem.F.slot_list_append PySem.F.type_list_append yb (zZ 1) (zS (xP jG jx rfl B.tuple_ vP (zB (zi (zA 3) (yd (zB (zN (zN (zA 0) (zA 2) (λ_ _=>rfl)) zE (λ_ _=>rfl)) zC))) zC)) zy))) wR)
   (zQ (yI (xy (wG PySem.F.plainAttrs_list PySem.F.slot_list_append PySem.F.type_list_append yb (zZ 1) (zS (xP jG jx rfl B.tuple_ vP (zB (zi (yT (own:=["_law_one"]) (caps:=[]) (yF (S:=zK Y5) (N:=["_law_box_here","_law_rows_here","_law_i","_law_ones"]) rfl (by decide +kernel) rfl ⟨_,rfl⟩ rfl (by decide +kernel) (by decide +kernel)) rfl rfl yH (ym (zA 3)) (λ_ _ _ _=>(zo 0 (show (["_law_one"]:List Str).Nodup by decide +kernel) rfl (Or.inl rfl))) (λ_ _ _ _=>(xr zE (zA 0)))) (yd (zB (xr zE (zN (zN (zA 0) (zA 2) (λ_ _=>rfl)) zE (λ_ _=>rfl))) zC))) zC)) zy))) wR)))))
  (zQ (wJ 1 (zX (zA 1)))))),λds R h=>?_⟩
 obtain ⟨bs,rfl,l1,q⟩:=h
 have lp:(List.map yR bs).length=bs.length:=List.length_map ..
 refine ⟨k0,by omega,by omega,?_⟩
 rw [show ((List.length (List.map yR bs):Nat):Int).toNat=bs.length by omega]
 refine ⟨λk Γ=>∃ (s2 s3:Sl),Γ=[.sh (.lst (bs.map yR)),.ow ((((bs.mapIdx (wK bs.length)).take k).flatten).map U),s2,s3],⟨.no,.no,rfl⟩,?_,?_⟩
 ·rintro k d Γ' hk ⟨s2,s3,rfl⟩
  obtain ⟨kn,rfl⟩:=vT hk
  have hx:(bs.mapIdx (wK bs.length))[k]? = some (wK bs.length k bs[k]):=by rw [List.getElem?_mapIdx,List.getElem?_eq_getElem kn]; rfl
  have ll:((bs.mapIdx (wK bs.length)).take k).flatten.length=2 * k:=by
   rw [List.length_flatten]
   have e:((bs.mapIdx (wK bs.length)).take k).map List.length=List.replicate k 2:=by
    refine List.ext_getElem (by simp; omega) λi h1 h2=>?_
    simp [wK]
   rw [e]
   simp
   omega
  refine ⟨by omega,by omega,?_⟩
  rw [show ((List.length (List.map yR bs):Nat):Int).toNat=bs.length by omega]
  refine zf.rng0 (λj=>.int (if (j:Int)=(k:Int) then 1 else 0)) (by omega) (λj hj=>by show D.int _=_; rw [zOB]) ?_
  have eu:(List.range bs.length).map (λj:Nat=>D.int (if (j:Int)=(k:Int) then 1 else 0))=(xH (k:Int) bs.length 1).map D.int:=by unfold xH; rw [List.map_map]; rfl
  rw [eu]
  refine ⟨_,Wi kn rfl,_,rfl,k0,by rw [List.length_map,uB]; show _ + 1<=1000; omega,by rw [List.length_map]; omega,?_⟩
  refine zf.int (λx=>0 - x) (by rw [uB]; omega) (λx hx=>rfl) ?_
  refine ⟨_,Wi kn rfl,_,rfl,k0,by rw [List.length_map,List.length_map,uB]; show _ + 1<=1000; omega,by rw [List.length_append,List.length_map]; show _ + 1 < 1000; omega,?_⟩
  refine ⟨.sh (.int (k:Int)),.sh (L (xH (k:Int) bs.length 1)),?_⟩
  rw [zMh hx,List.map_append]
  unfold wK
  rw [List.map_cons,List.map_cons,List.map_nil,U,U,List.map_append,List.map_append,<- List.append_cons]
  rfl
 ·rintro Γ' ⟨s2,s3,rfl⟩
  rw [vU,List.take_of_length_le (by rw [List.length_mapIdx]; omega)]
  exact q
end
theorem IS.zipL {d:D} {ns:List Int} {es:List D} (h:IS d ns) {R:List D->Prop} (q:R (List.zipWith xh (ns.map D.int) es)):uZ [d,.lst es] R:=by
 rcases h with rfl | rfl <;> exact q
theorem zNh {α β:Type} {u:α->D} {v:β->D}:∀ {xs:List α} {ys:List β} {d:D},d∈List.zipWith xh (xs.map u) (ys.map v)->∃ x∈xs,∃ y∈ys,d=xh (u x) (v y)
 | [],_,_,h=>by cases h
 | _ :: _,[],_,h=>by cases h
 | x :: xs,y :: ys,d,h=>by
  rw [List.map_cons,List.map_cons,List.zipWith_cons_cons] at h
  rcases List.mem_cons.mp h with rfl | h
  ·exact ⟨x,List.mem_cons_self,y,List.mem_cons_self,rfl⟩
  ·obtain ⟨a,ha,b,hb,e⟩:=zNh h
   exact ⟨a,List.mem_cons_of_mem _ ha,b,List.mem_cons_of_mem _ hb,e⟩
theorem Wl {e:Nat} {a b:Int} (h:Bd e a) (k:Bd e b):Bd e (max a b):=by
 rw [Int.max_def]
 split
 ·exact k
 ·exact h
theorem QX {a:Nat}:∀ {ns:List Int},(∀ x∈ns,Bd a x)->Bd (a + ns.length) ns.sum
 | [],_=>by rw [List.sum_nil]; exact wu
 | n :: ns,h=>by
  rw [List.sum_cons,List.length_cons]
  exact (((h n List.mem_cons_self).mono (show a<=a + ns.length by omega)).add (QX λx hx=>h x (List.mem_cons_of_mem _ hx))).mono (by omega)
theorem zQ3 (a b:List Int):L (a++b)=.lst (a.map D.int++b.map D.int):=by unfold L; rw [List.map_append]
theorem uG {y:Int} {f n:Nat} (h:f < 2 ^ n) (h1 : -(f:Int)<=y) (h2:y<=(f:Int)):Bd n y:=by
 show y.natAbs < 2 ^ n
 omega
section
variable {P:Program} {w:World} {K:PySem.W.Frag} {mg:Str->Option Value} {base:Heap}
abbrev QY:Stmt:=zp 81
theorem Wm:ze ["_law_numbers","_law_found","_law_number_here"] ["_law_numbers"] (zK QY):=.a
abbrev Y6:Stmt:=zp 73
theorem uH:ze ["_law_spec","_law_many","_law_pushes","_law_modes","_law_unit","_law_some","_law_rows_here","_law_nexts","_law_steer","_law_push","_law_add","_law_divisor","_law_lists"] ["_law_spec"] (zK Y6):=.a
variable {aClaim aSettles aComes aa ac aPaper aRooms aFalls:Addr} (Cc:Cs K mg aClaim aSettles aComes aa ac aPaper aRooms aFalls)
include Cc
theorem zLP {k:Nat} {f:Addr} {fd:FuncData} (F:zg K "_law_both" "_law_both" QY f fd) (B:Bl mg):zF P w K mg base zW (k + 1) f fd ["_law_numbers"] (zH (Wg)):=by
 refine yC F Wm (λds R h=>by obtain ⟨d,ns,rfl,_⟩:=h; rfl) λcdv A outer s H E hr=>⟨_,(zM (zv 1 Wm.nd rfl (Or.inl rfl) (yd zC))
  (zM (wA PassesOwn.never rfl (ym (zA 0)) (zo 2 Wm.nd rfl (Or.inl rfl)) (zQ (zv 1 Wm.nd rfl (Or.inl rfl) (zi (zA 1) (yd (zB (zj (Xa rfl) Xx rfl B.max_ ZB (zB (zA 2) (zB zE zC))) (zB (zj (Xa rfl) Xx rfl B.max_ ZB (zB (xr zE (zA 2)) (zB zE zC))) zC)))))))
  (zQ (zX (zA 1))))),λds R h=>?_⟩
 obtain ⟨d,ns,rfl,h,l3,bn,q⟩:=h
 refine ⟨k0,h.seq ?_⟩
 refine ⟨λk Γ=>∃ (ys:List Int) (s2:Sl),Γ=[.sh d,.sh (L ys),s2]/\ys.length=2 * k/\∀ y∈ys,0<=y/\Bd 200 y,⟨[],.no,rfl,rfl,λ_ h=>nomatch h⟩,?_,?_⟩
 ·rintro k d' Γ' hk ⟨ys,s2,rfl,ly,hy⟩
  have kl:=(List.getElem?_eq_some_iff.mp hk).1
  rw [List.length_map] at kl
  obtain ⟨x,hx,rfl⟩:=List.mem_map.mp (List.mem_of_getElem? hk)
  have bx:=bn x hx
  refine ⟨k0,by rw [List.length_map]; show _ + 2<=1000; omega,?_⟩
  refine ⟨ys++[max x 0,max (0 - x) 0],.sh (.int x),?_,by rw [List.length_append]; show _ + 2=_; omega,λy hy'=>?_⟩
  ·rw [zQ3]
   rfl
  ·rcases List.mem_append.mp hy' with hy' | hy'
   ·exact hy y hy'
   ·rcases List.mem_cons.mp hy' with rfl | hy'
    ·exact ⟨by omega,Wl bx wu⟩
    ·rw [List.mem_singleton.mp hy',Int.zero_sub]
     exact ⟨by omega,Wl bx.neg wu⟩
 ·rintro Γ' ⟨ys,s2,rfl,ly,hy⟩
  rw [List.length_map] at ly
  exact q ys ly hy
theorem zLL {k:Nat} {f:Addr} {fd:FuncData} (F:zg K "_law_made" "_law_made" Y6 f fd) (B:Bl mg) (bG:uX P w K mg base aa ["self","rows","nexts","steer","push","add","divisor"] k (vE aa (zOG aa))) (bH:uX P w K mg base ac ["self","many","pushes","modes"] k (vE ac (zLk ac aa))):zF P w K mg base zW (k + 1 + 1) f fd ["_law_spec"] (zH (zQh ac aa)):=by
 refine yC F uH (λds R h=>by obtain ⟨n,bs,ms,u,rfl,_⟩:=h; rfl) λcdv A outer s H E hr=>⟨_,(zM (qe (zA 0) (we rfl (yA 1 uH.nd rfl (Or.inl rfl) (yA 2 uH.nd rfl (Or.inl rfl) (yA 3 uH.nd rfl (Or.inl rfl) (yA 4 uH.nd rfl (Or.inl rfl) wd))))))
  (zM (vo 5 uH.nd rfl (Or.inl rfl) zC)
  (zM (wA PassesOwn.never rfl (ym (zA 3)) (we rfl (yA 6 uH.nd rfl (Or.inl rfl) (yA 7 uH.nd rfl (Or.inl rfl) (yA 8 uH.nd rfl (Or.inl rfl) (yA 9 uH.nd rfl (Or.inl rfl) (yA 10 uH.nd rfl (Or.inl rfl) (yA 11 uH.nd rfl (Or.inl rfl) wd))))))) (zM (vp 12 false uH.nd rfl rfl (own:=["_law_one"]) (caps:=[]) (yF (S:=zK Y6) (N:=["_law_spec","_law_many","_law_pushes","_law_modes","_law_unit","_law_some","_law_rows_here","_law_nexts","_law_steer","_law_push","_law_add","_law_divisor","_law_lists"]) rfl (by decide +kernel) rfl ⟨0,rfl⟩ rfl (by decide +kernel) (by decide +kernel)) rfl rfl yH (ym (zA 7)) (λ_ _ _ _=>(zo 0 (show (["_law_one"]:List Str).Nodup by decide +kernel) rfl (Or.inl rfl))) (λ_ _ _ _=>(xP wn wr rfl B.list_ xS (zB (zA 0) zC))) rfl)
   (zQ (yI (xy (wG PySem.F.plainAttrs_list PySem.F.slot_list_append PySem.F.type_list_append yb (zZ 5) (zS (X7 bG Cc.t3 hr rfl (zB (xP wn wr rfl B.list_ xS (zB (zA 6) zC)) (zB (zA 12) (zB (xP wn wr rfl B.list_ xS (zB (zA 8) zC)) (zB (yT (own:=["_law_one"]) (caps:=[]) (yF (S:=zK Y6) (N:=["_law_spec","_law_many","_law_pushes","_law_modes","_law_unit","_law_some","_law_rows_here","_law_nexts","_law_steer","_law_push","_law_add","_law_divisor","_law_lists"]) rfl (by decide +kernel) rfl ⟨0,rfl⟩ rfl (by decide +kernel) (by decide +kernel)) rfl rfl yH (ym (zA 9)) (λ_ _ _ _=>(zo 0 (show (["_law_one"]:List Str).Nodup by decide +kernel) rfl (Or.inl rfl))) (λ_ _ _ _=>(xP wn wr rfl B.list_ xS (zB (zA 0) zC)))) (zB (xP wn wr rfl B.list_ xS (zB (zA 10) zC)) (zB (zA 11) zC))))))) zy))) wR))))
  (zQ (wJ 5 (zX (X7 bH Cc.t4 hr rfl (zB (zA 1) (zB (xP wn wr rfl B.list_ xS (zB (zA 2) zC)) (zB (zA 5) zC)))))))))),λds R h=>?_⟩
 obtain ⟨n,bs,ms,u,rfl,TO,q⟩:=h
 have m40:=TO.m40
 have n3:=TO.n3
 have b6:=TO.b6
 refine ⟨k0,?_⟩
 refine ⟨λk Γ=>∃ s6 s7 s8 s9 s10 s11 s12:Sl,Γ=[.sh (xM n bs ms u),.sh (.int (n:Int)),.sh (.lst (bs.map yR)),.sh (.lst (ms.map xk)),.sh (.int u),.ow ((ms.take k).map (vx aa)),s6,s7,s8,s9,s10,s11,s12],⟨_,_,_,_,_,_,_,rfl⟩,?_,?_⟩
 ·rintro k d Γ' hk ⟨s6,s7,s8,s9,s10,s11,s12,rfl⟩
  have kl:=(List.getElem?_eq_some_iff.mp hk).1
  rw [List.length_map] at kl
  rw [List.getElem?_map,List.getElem?_eq_getElem kl] at hk
  cases hk
  generalize hm:ms[k]=m
  have o:=TO.mok m (hm ▸ List.getElem_mem kl)
  have hk2:ms[k]? = some m:=by rw [List.getElem?_eq_getElem kl,hm]
  refine vG L zr qm L (by rw [o.nexts.1]; omega) (λr hr=>rfl) ?_
  refine vG L zr qm L (by rw [o.push.1]; omega) (λr hr=>rfl) ?_
  refine ⟨_,_,_,_,_,_,rfl,gh o.few (λr hr=>by rw [o.rows r hr]; omega),WM (by rw [o.nexts.1]; omega) (λr hr=>by rw [o.nexts.2 r hr]; omega),ub (by rw [o.steer]; omega),WM (by rw [o.push.1]; omega) (λr hr=>by rw [o.push.2 r hr]; omega),ub (by rw [o.add]; omega),by rw [List.length_map,List.length_take]; omega,?_⟩
  refine ⟨.sh (Rm m.rows),.sh (Tb m.nexts),.sh (L m.steer),.sh (Tb m.push),.sh (L m.add),.sh (.int m.div),.sh (Tb m.nexts),?_⟩
  rw [jH hk2,List.map_append]
  rfl
 ·rintro Γ' ⟨s6,s7,s8,s9,s10,s11,s12,rfl⟩
  rw [List.length_map,List.take_length]
  exact ⟨n,bs,ms,rfl,TO,q⟩
end
theorem gn {α β:Type} {f:α->β} {l:List α} {k:Nat} {y:β} (h:(l.map f)[k]? = some y):∃ x,l[k]? = some x/\f x=y:=by
 rw [List.getElem?_map] at h
 cases c:l[k]? with
 | none=>rw [c] at h; cases h
 | some x=>rw [c] at h; cases h; exact ⟨x,rfl,rfl⟩
def yM:List Int->List (Int × Int)->Int
 | x :: xs,b :: bs=>max (x * b.1) (x * b.2) + yM xs bs
 | _,_=>0
theorem zIx:∀ {xs:List Int} {bs:List (Int × Int)} {x:Int} {b:Int × Int},xs.length=bs.length->yM (xs++[x]) (bs++[b])=yM xs bs + max (x * b.1) (x * b.2)
 | [],[],x,b,_=>by show max (x * b.1) (x * b.2) + 0=0 + max (x * b.1) (x * b.2); omega
 | [],_ :: _,_,_,h=>nomatch h
 | _ :: _,[],_,_,h=>nomatch h
 | y :: xs,c :: bs,x,b,h=>by
  show max (y * c.1) (y * c.2) + yM (xs++[x]) (bs++[b])=max (y * c.1) (y * c.2) + yM xs bs + max (x * b.1) (x * b.2)
  rw [zIx (Nat.succ.inj h)]
  omega
theorem gp {e f:Nat}:∀ {xs:List Int} {bs:List (Int × Int)},(∀ x∈xs,Bd f x)->(∀ b∈bs,Bd e b.1/\Bd e b.2)->Bd (f + e + xs.length) (yM xs bs)
 | [],_,_,_=>wu
 | _ :: _,[],_,_=>wu
 | x :: xs,b :: bs,h,k=>by
  have h1:=Wl ((h x List.mem_cons_self).mul (k b List.mem_cons_self).1) ((h x List.mem_cons_self).mul (k b List.mem_cons_self).2)
  have h2:=gp (xs:=xs) (bs:=bs) (λy hy=>h y (List.mem_cons_of_mem _ hy)) λc hc=>k c (List.mem_cons_of_mem _ hc)
  exact (h1.mono (Nat.le_add_right _ _)).add h2
theorem zIw:∀ (xs:List Int) (bs:List (Int × Int)),yM (xs.take (min xs.length bs.length)) (bs.take (min xs.length bs.length))=yM xs bs
 | [],bs=>by rw [List.length_nil,Nat.zero_min]; rfl
 | x :: xs,[]=>by rw [List.length_nil,Nat.min_zero]; rfl
 | x :: xs,b :: bs=>by
  rw [List.length_cons,List.length_cons,Nat.succ_min_succ,List.take_succ_cons,List.take_succ_cons]
  show _ + yM _ _=_ + yM _ _
  rw [zIw xs bs]
def Wn:FL:=λds R=>∃ (d:D) (ns:List Int) (bs:List (Int × Int)) (e:Nat),ds=[d,.lst (bs.map yR)]/\IS d ns/\ns.length<=3/\(∀ x∈ns,Bd 10 x)/\e<=500/\(∀ b∈bs,Bd e b.1/\Bd e b.2)/\R (.int (yM ns bs))
structure j9 (n w:Nat) (m:MD):Prop where
 ok:uA m n w
 nx:∀ r∈m.nexts,∀ x∈r,Bd 4 x
 ps:∀ r∈m.push,∀ x∈r,Bd 4 x
 ad:∀ x∈m.add,Bd 110 x
 st:∀ x∈m.steer,x=0
 dv:Bd 3 m.div
 r1:m.rows.length<=1
 rb:∀ r∈m.rows,(∀ x∈r.take n,Bd 4 x)/\∀ x∈r,Bd 110 x
theorem j9.mse {n w:Nat} {m:MD} (h:j9 n w m):QP 200 m:=⟨λr hr x hx=>(h.nx r hr x hx).mono,λx hx=>by rw [h.st x hx]; exact wu,λr hr x hx=>(h.ps r hr x hx).mono,λx hx=>(h.ad x hx).mono,h.dv.mono,λr hr x hx=>((h.rb r hr).2 x hx).mono,by have:=h.r1; omega⟩
def fMd:FL:=λds R=>∃ (c:Int) (n w:Nat) (u:Int) (sp:Bool),ds=[.int c,.int (n:Int),.int (w:Int),.int u,.bool sp]/\1<=n/\n<=3/\w<=2/\1<=u/\Bd 100 u/\∀ m,j9 n w m->R (xk m)
structure ve (n:Nat) (bs:List (Int × Int)) (ms:List MD) (u:Int):Prop where
 n1:1<=n
 n3:n<=3
 b2:bs.length<=2
 bb:∀ b∈bs,b.1<=b.2/\Bd 105 b.1/\Bd 105 b.2
 m1:1<=ms.length
 m3:ms.length<=3
 md:∀ m∈ms,j9 n bs.length m
 u1:1<=u
 bu:Bd 100 u
theorem ve.ok {n:Nat} {bs:List (Int × Int)} {ms:List MD} {u:Int} (h:ve n bs ms u):vR n bs ms:=⟨h.n1,h.n3,λb hb=>(h.bb b hb).1,by have:=h.b2; omega,h.m1,by have:=h.m3; omega,λm hm=>(h.md m hm).ok⟩
theorem ve.cl {n:Nat} {bs:List (Int × Int)} {ms:List MD} {u:Int} (h:ve n bs ms u):Yr ms=true:=List.all_eq_true.mpr λm hm=>List.all_eq_true.mpr λx hx=>decide_eq_true ((h.md m hm).st x hx)
theorem ve.ths {n:Nat} {bs:List (Int × Int)} {ms:List MD} {u:Int} (h:ve n bs ms u):j6 n bs ms:=⟨h.ok,λm hm=>(h.md m hm).mse.ms (by decide),λb hb=>⟨(h.bb b hb).2.1.mono,(h.bb b hb).2.2.mono⟩⟩
def fTh:FL:=λds R=>∃ ns,ds=[.scr ns]/\∀ n bs ms u,ve n bs ms u->R (xM n bs ms u)
section
variable {P:Program} {w:World} {K:PySem.W.Frag} {mg:Str->Option Value} {base:Heap}
abbrev QZ:Stmt:=zp 76
theorem Y7:ze ["_law_numbers","_law_box_here","_law_found","_law_number_here","_law_bounds"] ["_law_numbers","_law_box_here"] (zK QZ):=.a
abbrev qv:Stmt:=zp 71
theorem jZ:ze ["_law_cell","_law_many","_law_wide","_law_unit","_law_split","_law_xs","_law_divisor","_law_nexts","_law_push","_law_i","_law_add","_law_rows_here","_law_row"] ["_law_cell","_law_many","_law_wide","_law_unit","_law_split"] (zK qv):=.a
abbrev Qa:Stmt:=zp 72
theorem ui:ze ["_law_script","_law_first","_law_second","_law_unit","_law_many","_law_pushes","_law_k","_law_x","_law_modes","_law_cell"] ["_law_script"] (zK Qa):=.a
variable {aClaim aSettles aComes aa ac aPaper aRooms aFalls:Addr} (Cc:Cs K mg aClaim aSettles aComes aa ac aPaper aRooms aFalls)
include Cc
theorem zNB {k:Nat} {f:Addr} {fd:FuncData} (F:zg K "_law_top" "_law_top" QZ f fd) (B:Bl mg):zF P w K mg base zW (k + 1) f fd ["_law_numbers","_law_box_here"] (zH (Wn)):=by
 refine yC F Y7 (λds R h=>by obtain ⟨d,ns,bs,ee,rfl,_⟩:=h; rfl) λcdv A outer s H E hr=>⟨_,(zM (zv 2 Y7.nd rfl (Or.inl rfl) zE)
  (zM (wA PassesOwn.never rfl (j0 rfl B.zip_ (zB (zA 0) (zB (zA 1) zC))) (we rfl (yA 3 Y7.nd rfl (Or.inl rfl) (yA 4 Y7.nd rfl (Or.inl rfl) wd))) (zQ (zv 2 Y7.nd rfl (Or.inl rfl) (zi (zA 2) (zj (Xa rfl) Xx rfl B.max_ ZB (zB (yo (zA 3) (zN (zA 4) zE (λ_ _=>rfl))) (zB (yo (zA 3) (zN (zA 4) zE (λ_ _=>rfl))) zC)))))))
  (zQ (zX (zA 2))))),λds R h=>?_⟩
 obtain ⟨d,ns,bs,ee,rfl,h,l3,bn,e5,bb,q⟩:=h
 refine h.zipL ?_
 refine ⟨λk Γ=>∃ (s3 s4:Sl),Γ=[.sh d,.sh (.lst (bs.map yR)),.sh (.int (yM (ns.take k) (bs.take k))),s3,s4],⟨.no,.no,rfl⟩,?_,?_⟩
 ·rintro k d' Γ' hk ⟨s3,s4,rfl⟩
  obtain ⟨x1,b1,h1,h2,rfl⟩:=X1 _ hk
  obtain ⟨x,hx,rfl⟩:=gn h1
  obtain ⟨b,hb,rfl⟩:=gn h2
  have hx':=bn x (List.mem_of_getElem? hx)
  have hb':=bb b (List.mem_of_getElem? hb)
  have kx:=(List.getElem?_eq_some_iff.mp hx).1
  have kb:=(List.getElem?_eq_some_iff.mp hb).1
  refine ⟨_,rfl,hx'.mono,hb'.1.mono (by omega),_,rfl,hx'.mono,hb'.2.mono (by omega),.sh (.int x),.sh (yR b),?_⟩
  rw [jH hx,jH hb,zIx (by rw [List.length_take,List.length_take]; omega)]
  rfl
 ·rintro Γ' ⟨s3,s4,rfl⟩
  rw [List.length_zipWith,List.length_map,List.length_map,zIw]
  exact q
theorem zLK {k:Nat} {f:Addr} {fd:FuncData} (F:zg K "_law_mode" "_law_mode" qv f fd) (B:Bl mg) (ah:Fn P w K mg base "_law_stream" ["_law_cell","_law_many"] k (zH (gm))) (ai:Fn P w K mg base "_law_number" ["_law_x","_law_far"] k (zH (Wf))):zF P w K mg base zW (k + 1) f fd ["_law_cell","_law_many","_law_wide","_law_unit","_law_split"] (zH (fMd)):=by
 refine yC F jZ (λds R h=>by obtain ⟨c,n,w,u,sp,rfl,_⟩:=h; rfl) λcdv A outer s H E hr=>⟨_,(zM (zv 5 jZ.nd rfl (Or.inr rfl) (zU ah hr rfl (zB (zA 0) (zB zE zC))))
  (zM (zv 6 jZ.nd rfl (Or.inr rfl) (zi zE (y4 (zN (zA 5) zE (λ_ _=>rfl)) zE)))
  (zM (vo 7 jZ.nd rfl (Or.inl rfl) zC)
  (zM (vo 8 jZ.nd rfl (Or.inl rfl) zC)
  (zM (wA PassesOwn.never rfl (y3 rfl B.range_ (zB (zA 1) zC)) (zo 9 jZ.nd rfl (Or.inr rfl)) (zM (yI (xy (wG PySem.F.plainAttrs_list PySem.F.slot_list_append PySem.F.type_list_append yb (zZ 7) (zS (yT (own:=["_law_j"]) (caps:=[(5,"_law_xs"),(6,"_law_divisor"),(9,"_law_i")]) (yF (S:=zK qv) (N:=["_law_cell","_law_many","_law_wide","_law_unit","_law_split","_law_xs","_law_divisor","_law_nexts","_law_push","_law_i","_law_add","_law_rows_here","_law_row"]) rfl (by decide +kernel) rfl ⟨_,rfl⟩ rfl (by decide +kernel) (by decide +kernel)) rfl rfl yH (y3 rfl B.range_ (zB (zA 1) zC)) (λ_ _ _ _=>(zo 0 (show (["_law_j","_law_xs","_law_divisor","_law_i"]:List Str).Nodup by decide +kernel) rfl (Or.inl rfl))) (λ_ _ _ _=>(zU ai hr rfl (zB (zN (zA 1) (zi (zi zE (yo zE (zA 3))) (zA 0)) (λ_ _=>rfl)) (zB (zN (yd (zB zE (zB (xr (zA 2) zE) zC))) (xP UP JB rfl B.int_ k9 (zB (uM hr.units (zA 3) (zA 0)) zC)) (λ_ _=>rfl)) zC))))) zy))) wR)
   (zQ (yI (xy (wG PySem.F.plainAttrs_list PySem.F.slot_list_append PySem.F.type_list_append yb (zZ 8) (zS (yT (own:=["_law_j"]) (caps:=[(5,"_law_xs"),(9,"_law_i")]) (yF (S:=zK qv) (N:=["_law_cell","_law_many","_law_wide","_law_unit","_law_split","_law_xs","_law_divisor","_law_nexts","_law_push","_law_i","_law_add","_law_rows_here","_law_row"]) rfl (by decide +kernel) rfl ⟨_,rfl⟩ rfl (by decide +kernel) (by decide +kernel)) rfl rfl yH (y3 rfl B.range_ (zB (zA 2) zC)) (λ_ _ _ _=>(zo 0 (show (["_law_j","_law_xs","_law_i"]:List Str).Nodup by decide +kernel) rfl (Or.inl rfl))) (λ_ _ _ _=>(zU ai hr rfl (zB (zN (zA 1) (zi (zi zE (yo zE (zA 2))) (zA 0)) (λ_ _=>rfl)) (zB zE zC))))) zy))) wR))))
  (zM (vp 10 false jZ.nd rfl rfl (own:=["_law_i"]) (caps:=[(3,"_law_unit"),(5,"_law_xs")]) (yF (S:=zK qv) (N:=["_law_cell","_law_many","_law_wide","_law_unit","_law_split","_law_xs","_law_divisor","_law_nexts","_law_push","_law_i","_law_add","_law_rows_here","_law_row"]) rfl (by decide +kernel) rfl ⟨_,rfl⟩ rfl (by decide +kernel) (by decide +kernel)) rfl rfl yH (y3 rfl B.range_ (zB (zA 1) zC)) (λ_ _ _ _=>(zo 0 (show (["_law_i","_law_unit","_law_xs"]:List Str).Nodup by decide +kernel) rfl (Or.inl rfl))) (λ_ _ _ _=>(yo (zU ai hr rfl (zB (zN (zA 2) (zi zE (zA 0)) (λ_ _=>rfl)) (zB zE zC))) (y4 (zN (zA 2) zE (λ_ _=>rfl)) (zA 1)))) rfl)
  (zM (vo 11 jZ.nd rfl (Or.inl rfl) zC)
  (JI (yL (yU (zA 4)) (zM (vp 12 false jZ.nd rfl rfl (own:=["_law_i"]) (caps:=[(5,"_law_xs")]) (yF (S:=zK qv) (N:=["_law_cell","_law_many","_law_wide","_law_unit","_law_split","_law_xs","_law_divisor","_law_nexts","_law_push","_law_i","_law_add","_law_rows_here","_law_row"]) rfl (by decide +kernel) rfl ⟨_,rfl⟩ rfl (by decide +kernel) (by decide +kernel)) rfl rfl yH (y3 rfl B.range_ (zB (zA 1) zC)) (λ_ _ _ _=>(zo 0 (show (["_law_i","_law_xs"]:List Str).Nodup by decide +kernel) rfl (Or.inl rfl))) (λ_ _ _ _=>(zU ai hr rfl (zB (zN (zA 1) (zi zE (zA 0)) (λ_ _=>rfl)) (zB zE zC)))) rfl)
   (zQ (yI (xy (wG PySem.F.plainAttrs_list PySem.F.slot_list_append PySem.F.type_list_append yb (zZ 11) (zS (xP jG jx rfl B.tuple_ vP (zB (zi (zA 12) (yd (zB (yo (zU ai hr rfl (zB (zN (zA 5) zE (λ_ _=>rfl)) (zB zE zC))) (zA 3)) zC))) zC)) zy))) wR))) yK)
  (zQ (wJ 7 (wJ 8 (wJ 11 (zX (wq (zB (zA 11) (zB (zA 7) (zB (yo (yd (zB zE zC)) (zA 1)) (zB (zA 8) (zB (zA 10) (zB (zA 6) zC)))))))))))))))))))),λds R h=>?_⟩
 obtain ⟨c,n,w,u,sp,rfl,n1,n3,wb,u1,bu,q⟩:=h
 refine ⟨c,24,rfl,by decide,λxs lx hx=>?_⟩
 refine xj (by decide) (by omega) λx0 _=>⟨by decide,?_⟩
 have d0:=md x0 (show (0:Int) < 4 by decide)
 obtain ⟨dv,hdv⟩:∃ dv,dv=2 + x0.fmod 4:=⟨_,rfl⟩
 have dv1:2<=dv:=by omega
 have dv5:dv<=5:=by omega
 have bdv:Bd 3 dv:=uG (f:=7) (by decide) (by omega) (by omega)
 refine ⟨k0,k0,by omega,by omega,?_⟩
 rw [show ((n:Nat):Int).toNat=n by omega]
 refine ⟨λk Γ=>∃ (N P:List (List Int)) (s9:Sl),Γ=[.sh (.int c),.sh (.int (n:Int)),.sh (.int (w:Int)),.sh (.int u),.sh (.bool sp),.sh (L xs),.sh (.int dv),.ow (N.map L),.ow (P.map L),s9,.no,.no,.no]/\N.length=k/\P.length=k/\(∀ r∈N,r.length=n/\∀ x∈r,Bd 4 x)/\∀ r∈P,r.length=w/\∀ x∈r,Bd 4 x,⟨[],[],.no,by rw [hdv]; rfl,rfl,rfl,λ_ h=>(nomatch h),λ_ h=>(nomatch h)⟩,?_,?_⟩
 ·rintro k d Γ' hk ⟨N,P,s9,rfl,lN,lP,hN,hP⟩
  obtain ⟨kn,rfl⟩:=vT hk
  have bk:Bd 2 (k:Int):=Y1 (by omega)
  refine ⟨by omega,by omega,?_⟩
  rw [show ((n:Nat):Int).toNat=n by omega]
  refine zf.nums (λx=>Bd 4 x) (by omega) (λj hj=>?_) λns ln hn=>?_
  ·refine ⟨(Bd.lit (i:=3) (n:=2)).mono,bk.mono,xj (by omega) (by omega) λx1 _=>⟨k0,vH (by split <;> decide) (by show _ < (2:Int); split <;> decide) λz hz=>?_⟩⟩
   obtain ⟨f,rfl,f1,f4⟩:∃ f,z=.int f/\1<=f/\f<=4:=by
    simp only [List.mem_cons,List.not_mem_nil,or_false] at hz
    rcases hz with rfl | rfl
    ·exact ⟨_,rfl,by decide,by decide⟩
    ·exact ⟨_,rfl,by omega,by omega⟩
   exact ⟨_,f,rfl,by omega,Bd.mono (n:=3) (uG (f:=7) (by decide) (by omega) (by omega)) (by decide),λy y1 y2=>⟨y,rfl,uG (f:=15) (by decide) (by omega) (by omega)⟩⟩
  refine ⟨by rw [List.length_map]; omega,by omega,by omega,?_⟩
  rw [show ((w:Nat):Int).toNat=w by omega]
  refine zf.nums (λx=>Bd 4 x) (by omega) (λj hj=>?_) λps lps hps=>?_
  ·exact ⟨(Bd.lit (i:=2) (n:=2)).mono,bk.mono,xj (by omega) (by omega) λx1 _=>⟨_,2,rfl,by decide,(Bd.lit (i:=2) (n:=2)).mono,λy y1 y2=>⟨y,rfl,uG (f:=15) (by decide) (by omega) (by omega)⟩⟩⟩
  refine ⟨by rw [List.length_map]; omega,N++[ns],P++[ps],.sh (.int (k:Int)),by rw [List.map_append,List.map_append]; rfl,by rw [List.length_append,lN]; rfl,by rw [List.length_append,lP]; rfl,wj hN ⟨ln,hn⟩,wj hP ⟨lps,hps⟩⟩
 rintro Γ' ⟨N,P,s9,rfl,lN,lP,hN,hP⟩
 rw [vU] at lN lP
 refine ⟨by omega,by omega,?_⟩
 rw [show ((n:Nat):Int).toNat=n by omega]
 refine zf.nums (λx=>Bd 110 x) (by omega) (λi hi=>?_) λad lad had=>?_
 ·refine xj (by omega) (by omega) λx1 _=>⟨_,2,rfl,by decide,(Bd.lit (i:=2) (n:=2)).mono,λy y1 y2=>xj (by decide) (by omega) λx2 _=>⟨by omega,?_⟩⟩
  have by2:Bd 2 y:=uG (f:=3) (by decide) (by omega) (by omega)
  have bm:Bd 100 (x2.fmod u):=vz bu (by omega)
  exact ⟨by2.mono,bm.mono,_,rfl,(by2.mul bm).mono⟩
 refine ⟨k0,λΓ=>∃ (rows:List (List Int)) (s12:Sl),Γ=[.sh (.int c),.sh (.int (n:Int)),.sh (.int (w:Int)),.sh (.int u),.sh (.bool sp),.sh (L xs),.sh (.int dv),.ow (N.map L),.ow (P.map L),s9,.sh (L ad),.ow (rows.map U),s12]/\rows.length<=1/\∀ r∈rows,r.length=n + 1/\(∀ x∈r.take n,Bd 4 x)/\∀ x∈r,Bd 110 x,w2 (λc1=>?_) λc1=>⟨[],_,rfl,by decide,λ_ h=>nomatch h⟩,?_⟩
 ·refine ⟨by omega,by omega,?_⟩
  rw [show ((n:Nat):Int).toNat=n by omega]
  refine zf.nums (λx=>Bd 2 x) (by omega) (λi hi=>?_) λrw_ lrw hrw=>?_
  ·exact xj (by omega) (by omega) λx3 _=>⟨_,1,rfl,by decide,(Bd.lit (i:=1) (n:=1)).mono,λy y1 y2=>⟨y,rfl,uG (f:=3) (by decide) (by omega) (by omega)⟩⟩
  refine xj (by decide) (by omega) λx4 _=>⟨_,3,rfl,by decide,(Bd.lit (i:=3) (n:=2)).mono,λy y1 y2=>?_⟩
  have by3:Bd 3 y:=uG (f:=7) (by decide) (by omega) (by omega)
  refine ⟨by3.mono,bu.mono,k0,by rw [List.length_map]; show _ + 1<=1000; omega,by decide,[rw_++[y * u]],.sh (L rw_),?_,by show 1<=1; decide,λr hr=>?_⟩
  ·rw [List.map_cons,List.map_nil,U,List.map_append]
   rfl
  ·rw [List.mem_singleton.mp hr]
   exact ⟨by rw [List.length_append,lrw]; rfl,λx hx=>by
    rw [List.take_append_of_le_length (by omega),List.take_of_length_le (by omega)] at hx
    exact (hrw x hx).mono,wj (λx hx=>(hrw x hx).mono) ((by3.mul bu).mono)⟩
 rintro Γ' ⟨rows,s12,rfl,lr,hr⟩
 have rep:D.lst (List.replicate n (D.int 0))=L (List.replicate n 0):=by unfold L; rw [List.map_replicate]
 refine ⟨k0,by omega,by omega,?_⟩
 rw [show ((n:Nat):Int).toNat=n by omega,rep]
 exact ⟨k0,q ⟨rows,N,List.replicate n 0,P,ad,dv⟩ ⟨⟨λr h=>(hr r h).1,by show rows.length<=900; omega,⟨lN,λr h=>(hN r h).1⟩,List.length_replicate ..,⟨lP,λr h=>(hP r h).1⟩,lad,by show 1<=dv; omega,n3,by omega⟩,λr h=>(hN r h).2,λr h=>(hP r h).2,had,λx hx=>List.eq_of_mem_replicate hx,bdv,lr,λr h=>(hr r h).2⟩⟩
theorem zJq {k:Nat} {f:Addr} {fd:FuncData} (F:zg K "_law_thing" "_law_thing" Qa f fd) (B:Bl mg) (au:Fn P w K mg base "_law_cell_at" ["_law_script","_law_k"] k (zH (QR))) (bI:Fn P w K mg base "_law_mode" ["_law_cell","_law_many","_law_wide","_law_unit","_law_split"] k (zH (fMd))):zF P w K mg base zW (k + 1) f fd ["_law_script"] (zH (fTh)):=by
 refine yC F ui (λds R h=>by obtain ⟨ns,rfl,_⟩:=h; rfl) λcdv A outer s H E hr=>⟨_,(zM (zv 1 ui.nd rfl (Or.inl rfl) (zU au hr rfl (zB (zA 0) (zB zE zC))))
  (zM (zv 2 ui.nd rfl (Or.inl rfl) (zU au hr rfl (zB (zA 0) (zB zE zC))))
  (zM (zv 3 ui.nd rfl (Or.inl rfl) (zi zE (y4 (wa (zA 1) zE) (zN (yd (zB zE (zB zE (zB (jK zE zE) (zB (jK zE zE) zC))))) (y4 (zA 1) zE) (λ_ _=>rfl)))))
  (zM (zv 4 ui.nd rfl (Or.inl rfl) (zN (yd (zB zE (zB zE (zB zE (zB zE (zB zE (zB zE zC))))))) (y4 (zA 2) zE) (λ_ _=>rfl)))
  (zM (vo 5 ui.nd rfl (Or.inl rfl) zC)
  (zM (wA PassesOwn.never rfl (y3 rfl B.range_ (zB (y4 (wa (zA 2) zE) zE) zC)) (zo 6 ui.nd rfl (Or.inl rfl)) (zM (zv 7 ui.nd rfl (Or.inl rfl) (wa (zA 2) (zi zE (yo zE (zA 6)))))
   (zQ (yI (xy (wG PySem.F.plainAttrs_list PySem.F.slot_list_append PySem.F.type_list_append yb (zZ 5) (zS (wq (zB (xr zE (yo (y4 (zA 7) zE) (zA 3))) (zB (yo (y4 (wa (zA 7) zE) zE) (zA 3)) zC))) zy))) wR))))
  (zM (vo 8 ui.nd rfl (Or.inl rfl) zC)
  (zM (wJ 5 (wA PassesOwn.never rfl (y3 rfl B.range_ (zB (zi zE (y4 (wa (zA 2) zE) zE)) zC)) (zo 6 ui.nd rfl (Or.inl rfl)) (zM (zv 9 ui.nd rfl (Or.inl rfl) (zi (zU au hr rfl (zB (zA 0) (zB (zi zE (zA 6)) zC))) (zA 6)))
   (zQ (yI (xy (wG PySem.F.plainAttrs_list PySem.F.slot_list_append PySem.F.type_list_append yb (zZ 8) (zS (zU bI hr rfl (zB (zA 9) (zB (zA 4) (zB (zj yP yS rfl B.len_ yQ (zB (zA 5) zC)) (zB (zA 3) (zB (uM hr.units (y4 (wa (zA 2) zE) zE) zE) zC)))))) zy))) wR)))))
  (zQ (wJ 8 (zX (wq (zB (zA 4) (zB (zA 5) (zB (zA 8) (zB (zA 3) zC)))))))))))))))),λds R h=>?_⟩
 obtain ⟨ns,rfl,q⟩:=h
 refine ⟨ns,0,rfl,by decide,λfirst=>⟨ns,1,rfl,by decide,λsecond=>?_⟩⟩
 have key:∀ x∈[D.int 3,D.int 9,D.int (10 ^ (15:Int).toNat),D.int (10 ^ (30:Int).toNat)],vC (λv=>1<=v/\Bd 100 v) x:=λx hx=>by
  simp only [List.mem_cons,List.not_mem_nil,or_false] at hx
  rcases hx with rfl | rfl | rfl | rfl <;> exact ⟨_,rfl,by decide,Bd.lit⟩
 have f4:=md first (show (0:Int) < 4 by decide)
 refine ⟨by decide,(Bd.lit (i:=4) (n:=3)).mono,⟨by decide,by decide,by decide⟩,⟨by decide,by decide,by decide⟩,k0,by decide,vH f4.1 (by show first.fmod 4 < 4; omega) λx hxk=>?_⟩
 obtain ⟨v,rfl,v1,bv⟩:=key x hxk
 have fv:=md (first.fdiv 4) (show (0:Int) < v by omega)
 obtain ⟨u,hu⟩:∃ u,u=1 + (first.fdiv 4).fmod v:=⟨_,rfl⟩
 have u1:1<=u:=by omega
 have bu:Bd 100 u:=bv.of_le (by omega)
 refine ⟨by omega,?_⟩
 have s6:=md second (show (0:Int) < 6 by decide)
 refine ⟨k0,by decide,vH s6.1 (by show second.fmod 6 < 6; omega) λz hz=>?_⟩
 obtain ⟨n,rfl,n1,n3⟩:∃ n:Nat,z=.int (n:Int)/\1<=n/\n<=3:=by
  simp only [List.mem_cons,List.not_mem_nil,or_false] at hz
  rcases hz with rfl | rfl | rfl | rfl | rfl | rfl
  ·exact ⟨1,rfl,by decide,by decide⟩
  ·exact ⟨2,rfl,by decide,by decide⟩
  ·exact ⟨2,rfl,by decide,by decide⟩
  ·exact ⟨1,rfl,by decide,by decide⟩
  ·exact ⟨3,rfl,by decide,by decide⟩
  ·exact ⟨2,rfl,by decide,by decide⟩
 have p3:=md (second.fdiv 6) (show (0:Int) < 3 by decide)
 refine ⟨k0,by decide,(Bd.lit (i:=6) (n:=3)).mono,by decide,by omega,by omega,?_⟩
 refine ⟨λk Γ=>∃ (bs:List (Int × Int)) (s6 s7:Sl),Γ=[.sh (.scr ns),.sh (.int first),.sh (.int second),.sh (.int u),.sh (.int (n:Int)),.ow (bs.map yR),s6,s7,.no,.no]/\bs.length=k/\∀ b∈bs,b.1<=b.2/\Bd 105 b.1/\Bd 105 b.2,⟨[],.no,.no,by rw [hu]; rfl,rfl,λ_ h=>nomatch h⟩,?_,?_⟩
 ·rintro k d Γ' hk ⟨bs,s6,s7,rfl,lb,hb⟩
  obtain ⟨kn,rfl⟩:=vT hk
  have bk:Bd 2 (k:Int):=Y1 (by omega)
  refine ⟨(Bd.lit (i:=11) (n:=4)).mono,bk.mono,by omega,Bd.mono (n:=10) (uG (f:=1000) (by decide) (by omega) (by omega)) (by decide),?_⟩
  obtain ⟨x,hx⟩:∃ x,x=second.fdiv (18 + 11 * (k:Int)):=⟨_,rfl⟩
  have a1:=md x (show (0:Int) < 3 by decide)
  have a2:=md (x.fdiv 3) (show (0:Int) < 3 by decide)
  rw [<- hx]
  have g1:0<=x.fmod 3 * u:=Int.mul_nonneg a1.1 (by omega)
  have g2:0<=(x.fdiv 3).fmod 3 * u:=Int.mul_nonneg a2.1 (by omega)
  have c1:Bd 102 (x.fmod 3 * u):=(vz (n:=2) Bd.lit (by decide)).mul bu
  have c2:Bd 102 ((x.fdiv 3).fmod 3 * u):=(vz (n:=2) Bd.lit (by decide)).mul bu
  refine ⟨by decide,Bd.mono (n:=2) (vz Bd.lit (by decide)) (by decide),bu.mono,by decide,(Bd.lit (i:=3) (n:=2)).mono,by decide,Bd.mono (n:=2) (vz Bd.lit (by decide)) (by decide),bu.mono,k0,by rw [List.length_map]; omega,?_⟩
  exact ⟨bs++[(0 - x.fmod 3 * u,(x.fdiv 3).fmod 3 * u)],.sh (.int (k:Int)),.sh (.int x),by rw [List.map_append]; rfl,by rw [List.length_append,lb]; rfl,wj hb ⟨by show 0 - x.fmod 3 * u<=(x.fdiv 3).fmod 3 * u; omega,by rw [Int.zero_sub]; exact c1.neg.mono,c2.mono⟩⟩
 rintro Γ' ⟨bs,s6,s7,rfl,lb,hb⟩
 rw [vU] at lb
 have lm:(List.map yR bs).length=bs.length:=List.length_map ..
 have p4:=md (second.fdiv 54) (show (0:Int) < 3 by decide)
 refine ⟨k0,by decide,(Bd.lit (i:=54) (n:=6)).mono,by decide,by omega,by omega,?_⟩
 refine ⟨λk Γ=>∃ (ms:List MD) (s6 s9:Sl),Γ=[.sh (.scr ns),.sh (.int first),.sh (.int second),.sh (.int u),.sh (.int (n:Int)),.sh (.lst (bs.map yR)),s6,s7,.ow (ms.map xk),s9]/\ms.length=k/\∀ m∈ms,j9 n bs.length m,⟨[],_,.no,rfl,rfl,λ_ h=>nomatch h⟩,?_,?_⟩
 ·rintro k d Γ' hk ⟨ms,s6,s9,rfl,lms,hms⟩
  obtain ⟨kn,rfl⟩:=vT hk
  refine ⟨ns,2 + (k:Int),rfl,by omega,λcc=>?_⟩
  refine ⟨by decide,(Bd.lit (i:=162) (n:=8)).mono,by decide,cc + (k:Int),n,bs.length,u,_,by rw [<- lm],n1,n3,by omega,u1,bu,λm hm=>⟨by rw [List.length_map]; omega,ms++[m],.sh (.int (k:Int)),.sh (.int (cc + (k:Int))),by rw [List.map_append]; rfl,by rw [List.length_append,lms]; rfl,wj hms hm⟩⟩
 rintro Γ' ⟨ms,s6,s9,rfl,lms,hms⟩
 rw [vU] at lms
 exact ⟨k0,q n bs ms u ⟨n1,n3,by omega,hb,by omega,by omega,hms,u1,bu⟩⟩
end
def xY (xs:List Int):List Int:=xs.map λx=>0 - x
theorem gq {e:Nat} {xs:List Int} (h:∀ x∈xs,Bd e x):∀ x∈xY xs,Bd e x:=λx hx=>by
 obtain ⟨y,hy,rfl⟩:=List.mem_map.mp hx
 rw [Int.zero_sub]
 exact (h y hy).neg
theorem qw (xs:List Int):(xY xs).length=xs.length:=List.length_map ..
structure Bx (n e:Nat) (box:List (Int × Int)):Prop where
 len:box.length=n
 bd:∀ b∈box,Bd e b.1/\Bd e b.2
theorem Bx.mono {n e f:Nat} {box:List (Int × Int)} (h:Bx n e box) (l:e<=f:=by decide):Bx n f box:=⟨h.len,λb hb=>⟨(h.bd b hb).1.mono l,(h.bd b hb).2.mono l⟩⟩
abbrev za (box:List (Int × Int)):D:=.lst (box.map yR)
def vf (n:Nat) (box:List (Int × Int)) (m:MD):Bool:=m.rows.any λr=>decide (r.getD n 0 < 0 - yM (xY (r.take n)) box)
def qx:FL:=λds R=>∃ m n w box e,ds=[xk m,za box]/\j9 n w m/\e<=400/\Bx n e box/\R (.bool (vf n box m))
def qy:FL:=λds R=>∃ n bs ms u box e,ds=[xM n bs ms u,za box]/\ve n bs ms u/\105<=e/\e<=380/\Bx n e box/\∀ box',Bx n (e + 20) box'->R (za box')
def zQl:FL:=λds R=>∃ a b n e,ds=[za a,za b]/\n<=3/\Bx n e a/\Bx n e b/\∀ box',Bx n e box'->R (za box')
def zQk:FL:=λds R=>∃ n bs ms u box,ds=[xM n bs ms u,za box]/\ve n bs ms u/\Bx n 105 box/\∀ box',Bx n 210 box'->R (za box')
def Y8:D->MD
 | .tup [.lst r,.lst n,.lst s,.lst p,.lst a,.int d]=>⟨r.map zr,n.map zr,s.map yB,p.map zr,a.map yB,d⟩
 | _=>⟨[],[],[],[],[],0⟩
theorem zMc (m:MD):Y8 (xk m)=m:=by
 show (⟨(m.rows.map U).map zr,(m.nexts.map L).map zr,(m.steer.map D.int).map yB,(m.push.map L).map zr,(m.add.map D.int).map yB,m.div⟩:MD)=m
 have e1:∀ t:List (List Int),(t.map U).map zr=t:=λt=>by rw [List.map_map]; exact (List.map_congr_left λr _=>jT r).trans (List.map_id _)
 have e2:∀ t:List (List Int),(t.map L).map zr=t:=λt=>by rw [List.map_map]; exact (List.map_congr_left λr _=>qm r).trans (List.map_id _)
 have e3:∀ t:List Int,(t.map D.int).map yB=t:=λt=>by rw [List.map_map]; exact List.map_id _
 rw [e1,e2,e2,e3,e3]
theorem zO9 (f:D->Bool) (ms:List MD):(ms.map xk).filter f=(ms.filter λm=>f (xk m)).map xk:=by rw [List.filter_map]; rfl
theorem zPy (n:Nat) (t:List (List Int)):(Tb t).pl (n + 4)=true:=List.all_eq_true.mpr λd h=>by
 obtain ⟨r,_,rfl⟩:=List.mem_map.mp h
 exact gU (n + 1) r
theorem zPz (n:Nat) (t:List (List Int)):(Rm t).pl (n + 4)=true:=List.all_eq_true.mpr λd h=>by
 obtain ⟨r,_,rfl⟩:=List.mem_map.mp h
 exact gU (n + 1) r
theorem Y9 (n:Nat) (m:MD):(xk m).pl (n + 5)=true:=by
 show ([Rm m.rows,Tb m.nexts,L m.steer,Tb m.push,L m.add,D.int m.div].all (D.pl (n + 4)))=true
 simp only [List.all_cons,List.all_nil,Bool.and_true,zPy,zPz]
 rw [show (L m.steer).pl (n + 4)=true from gU (n + 2) _,show (L m.add).pl (n + 4)=true from gU (n + 2) _]
 rfl
theorem zPw (ms:List MD):(D.lst (ms.map xk)).pl 50=true:=List.all_eq_true.mpr λd h=>by
 obtain ⟨m,_,rfl⟩:=List.mem_map.mp h
 exact Y9 44 m
theorem qz {u:List Int->D} {rows:List (List Int)} {k:Nat} (h:k < rows.length):ya (rows.map u) (k:Int)=some (u (rows.getD k [])):=by
 rw [uw]
 unfold ya vJ
 rw [if_pos (by omega),if_pos (by omega)]
 show Option.map u rows[((k:Nat):Int).toNat]? = _
 rw [show ((k:Nat):Int).toNat=k by omega,List.getElem?_eq_getElem h,List.getD_eq_getElem?_getD,List.getElem?_eq_getElem h]
 rfl
theorem qA {rows:List (List Int)} {k:Nat} (h:k < rows.length):rows.getD k []∈rows:=by
 rw [List.getD_eq_getElem?_getD,List.getElem?_eq_getElem h]
 exact List.getElem_mem _
def NoI (e:Nat) (d:D):Prop:=d=.non\/∃ a,d=.int a/\Bd e a
section
variable {P:Program} {w:World} {K:PySem.W.Frag} {mg:Str->Option Value} {base:Heap}
abbrev Wo:Stmt:=zp 77
theorem zFX:ze ["_law_mode_here","_law_box_here","_law_row"] ["_law_mode_here","_law_box_here"] (zK Wo):=.a
abbrev Wp:Stmt:=zp 79
theorem zKg:ze ["_law_one","_law_other_here"] ["_law_one","_law_other_here"] (zK Wp):=.a
abbrev gr:Stmt:=zp 78
theorem xw:ze ["_law_spec","_law_box_here","_law_many","_law_pushes","_law_modes","_law_unit","_law_found","_law_j","_law_low","_law_high","_law_rows_here","_law_nexts","_law_steer","_law_push","_law_add","_law_divisor","_law_up","_law_down"] ["_law_spec","_law_box_here"] (zK gr):=.a
abbrev Qb:Stmt:=zp 80
theorem Qc:ze ["_law_spec","_law_box_here","_law_turn"] ["_law_spec","_law_box_here"] (zK Qb):=.a
variable {aClaim aSettles aComes aa ac aPaper aRooms aFalls:Addr} (Cc:Cs K mg aClaim aSettles aComes aa ac aPaper aRooms aFalls)
include Cc
theorem zIX {k:Nat} {f:Addr} {fd:FuncData} (F:zg K "_law_beyond" "_law_beyond" Wo f fd) (B:Bl mg) (aj:Fn P w K mg base "_law_top" ["_law_numbers","_law_box_here"] k (zH (Wn))):zF P w K mg base zW (k + 1) f fd ["_law_mode_here","_law_box_here"] (zH (qx)):=by
 refine yC F zFX (λds R h=>by obtain ⟨m,n,w,box,ee,rfl,_⟩:=h; rfl) λcdv A outer s H E hr=>⟨_,(zM (wA PassesOwn.never rfl (ym (zN (zA 0) zE (λ_ _=>rfl))) (zo 2 zFX.nd rfl (Or.inl rfl)) (zQ (yL (Ze (xr zE (zU aj hr rfl (zB (yT (own:=["_law_c"]) (caps:=[]) (yF (S:=zK Wo) (N:=["_law_mode_here","_law_box_here","_law_row"]) rfl (by decide +kernel) rfl ⟨0,rfl⟩ rfl (by decide +kernel) (by decide +kernel)) rfl rfl yH (ym (xA (zA 2) y8 (y9 (xI zE)))) (λ_ _ _ _=>(zo 0 (show (["_law_c"]:List Str).Nodup by decide +kernel) rfl (Or.inl rfl))) (λ_ _ _ _=>(xr zE (zA 0)))) (zB (zA 1) zC)))) (zN (zA 2) (xI zE) (λ_ _=>rfl))) (zQ (zX yu)) yK)))
  (zQ (zX yu))),λds R h=>?_⟩
 obtain ⟨m,n,w,box,ee,rfl,M1,e4,BX,q⟩:=h
 have r1:=M1.r1
 have n3:=M1.ok.n3
 refine ⟨_,rfl,?_⟩
 refine ⟨λk Γ=>∃ s2,Γ=[.sh (xk m),.sh (za box),s2]/\(m.rows.take k).any (λr=>decide (r.getD n 0 < 0 - yM (xY (r.take n)) box))=false,⟨.no,rfl,rfl⟩,?_,?_⟩
 ·rintro k d Γ' hk ⟨s2,rfl,ha⟩
  obtain ⟨r,hr,rfl⟩:=gn hk
  have hm:=List.mem_of_getElem? hr
  have lr:=M1.ok.rows r hm
  refine zf.cast (wg lr) (zf.int (λx=>0 - x) (by rw [List.length_take]; omega) (λx hx=>rfl) ⟨_,xY (r.take n),box,ee,rfl,.inl rfl,by rw [qw,List.length_take]; omega,gq λx hx=>((M1.rb r hm).1 x hx).mono,by omega,BX.bd,_,jW lr,w2 (λc=>bR q ?_) λc=>⟨_,rfl,?_⟩⟩)
  ·exact List.any_eq_true.mpr ⟨r,hm,c⟩
  ·rw [jH hr,List.any_append,ha,List.any_cons,List.any_nil]
   rw [show decide (r.getD n 0 < 0 - yM (xY (r.take n)) box)=false from c]
   rfl
 ·rintro Γ' ⟨s2,rfl,ha⟩
  rw [List.length_map,List.take_of_length_le (Nat.le_refl _)] at ha
  exact bR q ha
theorem zLO {k:Nat} {f:Addr} {fd:FuncData} (F:zg K "_law_hull" "_law_hull" Wp f fd) (B:Bl mg):zF P w K mg base zW (k + 1) f fd ["_law_one","_law_other_here"] (zH (zQl)):=by
 refine yC F zKg (λds R h=>by obtain ⟨a,b,n,ee,rfl,_⟩:=h; rfl) λcdv A outer s H E hr=>⟨_,(zQ (zX (yT (own:=["_law_a","_law_b"]) (caps:=[]) (yF (S:=zK Wp) (N:=["_law_one","_law_other_here"]) rfl (by decide +kernel) rfl ⟨0,rfl⟩ rfl (by decide +kernel) (by decide +kernel)) rfl rfl (qZ (vV (vV qd))) (j0 rfl B.zip_ (zB (zA 0) (zB (zA 1) zC))) (λ_ _ _ _=>(we rfl (yA 0 (show (["_law_a","_law_b"]:List Str).Nodup by decide +kernel) rfl (Or.inl rfl) (yA 1 (show (["_law_a","_law_b"]:List Str).Nodup by decide +kernel) rfl (Or.inl rfl) wd)))) (λ_ _ _ _=>(wq (zB (zj (KZ rfl) zMD rfl B.min_ zH5 (zB (zN (zA 0) zE (λ_ _=>rfl)) (zB (zN (zA 1) zE (λ_ _=>rfl)) zC))) (zB (zj (Xa rfl) Xx rfl B.max_ ZB (zB (zN (zA 0) zE (λ_ _=>rfl)) (zB (zN (zA 1) zE (λ_ _=>rfl)) zC))) zC))))))),λds R h=>?_⟩
 obtain ⟨a,b,n,ee,rfl,n3,A1,B1,q⟩:=h
 have la:=A1.len
 have lb:=B1.len
 refine zf.all (λd=>∃ p:Int × Int,d=yR p/\Bd ee p.1/\Bd ee p.2) (by rw [List.length_zipWith,List.length_map]; omega) (λd hd=>?_) λes le he=>?_
 ·obtain ⟨x,hx,y,hy,rfl⟩:=zNh hd
  refine ⟨_,rfl,_,rfl,_,rfl,_,rfl,k0,(min x.1 y.1,max x.2 y.2),rfl,?_,Wl (A1.bd x hx).2 (B1.bd y hy).2⟩
  rw [Int.min_def]
  split
  ·exact (A1.bd x hx).1
  ·exact (B1.bd y hy).1
 ·obtain ⟨ps,rfl,hp⟩:∃ ps:List (Int × Int),es=ps.map yR/\∀ p∈ps,Bd ee p.1/\Bd ee p.2:=by
   clear le q
   induction es with
   | nil=>exact ⟨[],rfl,λ_ h=>nomatch h⟩
   | cons x es ih=>
    obtain ⟨p,rfl,h1⟩:=he x List.mem_cons_self
    obtain ⟨ps,rfl,h2⟩:=ih λy hy=>he y (List.mem_cons_of_mem _ hy)
    exact ⟨p :: ps,rfl,λy hy=>(List.mem_cons.mp hy).elim (λz=>z ▸ h1) (h2 y)⟩
  refine q ps ⟨?_,hp⟩
  rw [List.length_map,List.length_zipWith,List.length_map,List.length_map] at le
  omega
theorem zJw {k:Nat} {f:Addr} {fd:FuncData} (F:zg K "_law_image" "_law_image" gr f fd) (B:Bl mg) (aF:Fn P w K mg base "_law_beyond" ["_law_mode_here","_law_box_here"] k (zH (qx))) (aj:Fn P w K mg base "_law_top" ["_law_numbers","_law_box_here"] k (zH (Wn))):zF P w K mg base zW (k + 1) f fd ["_law_spec","_law_box_here"] (zH (qy)):=by
 refine yC F xw (λds R h=>by obtain ⟨n,bs,ms,u,box,ee,rfl,_⟩:=h; rfl) λcdv A outer s H E hr=>⟨_,(zM (qe (zA 0) (we rfl (yA 2 xw.nd rfl (Or.inl rfl) (yA 3 xw.nd rfl (Or.inl rfl) (yA 4 xw.nd rfl (Or.inl rfl) (yA 5 xw.nd rfl (Or.inl rfl) wd))))))
  (zM (zHh 4 false xw.nd rfl rfl (own:=["_law_mode_here"]) (caps:=[(1,"_law_box_here")]) (yF (S:=zK gr) (N:=["_law_spec","_law_box_here","_law_many","_law_pushes","_law_modes","_law_unit","_law_found","_law_j","_law_low","_law_high","_law_rows_here","_law_nexts","_law_steer","_law_push","_law_add","_law_divisor","_law_up","_law_down"]) rfl (by decide +kernel) rfl ⟨_,rfl⟩ rfl (by decide +kernel) (by decide +kernel)) rfl rfl yH (ym (zA 4)) (λ_ _ _ _=>(zo 0 (show (["_law_mode_here","_law_box_here"]:List Str).Nodup by decide +kernel) rfl (Or.inl rfl))) (λ_ _ _ _=>(yg (yU (zU aF hr rfl (zB (zA 0) (zB (zA 1) zC)))))) (λ_ _ _ _=>(zA 0)) rfl)
  (zM (vo 6 xw.nd rfl (Or.inl rfl) zC)
  (zM (wA PassesOwn.never rfl (y3 rfl B.range_ (zB (zA 2) zC)) (zo 7 xw.nd rfl (Or.inl rfl)) (zM (zv 8 xw.nd rfl (Or.inl rfl) ZX)
   (zM (zv 9 xw.nd rfl (Or.inl rfl) ZX)
   (zM (wA PassesOwn.never rfl (ym (zA 4)) (we rfl (yA 10 xw.nd rfl (Or.inl rfl) (yA 11 xw.nd rfl (Or.inl rfl) (yA 12 xw.nd rfl (Or.inl rfl) (yA 13 xw.nd rfl (Or.inl rfl) (yA 14 xw.nd rfl (Or.inl rfl) (yA 15 xw.nd rfl (Or.inl rfl) wd))))))) (zM (zv 16 xw.nd rfl (Or.inl rfl) (zi (zi (zU aj hr rfl (zB (zN (zA 11) (zA 7) (λ_ _=>rfl)) (zB (zA 1) zC))) (zU aj hr rfl (zB (zN (zA 13) (zA 7) (λ_ _=>rfl)) (zB (zA 3) zC)))) (zN (zA 14) (zA 7) (λ_ _=>rfl))))
    (zM (zv 16 xw.nd rfl (Or.inl rfl) (xr zE (wa (xr zE (zA 16)) (zA 15))))
    (zM (zv 17 xw.nd rfl (Or.inl rfl) (zU aj hr rfl (zB (yT (own:=["_law_c"]) (caps:=[]) (yF (S:=zK gr) (N:=["_law_spec","_law_box_here","_law_many","_law_pushes","_law_modes","_law_unit","_law_found","_law_j","_law_low","_law_high","_law_rows_here","_law_nexts","_law_steer","_law_push","_law_add","_law_divisor","_law_up","_law_down"]) rfl (by decide +kernel) rfl ⟨_,rfl⟩ rfl (by decide +kernel) (by decide +kernel)) rfl rfl yH (ym (zN (zA 11) (zA 7) (λ_ _=>rfl))) (λ_ _ _ _=>(zo 0 (show (["_law_c"]:List Str).Nodup by decide +kernel) rfl (Or.inl rfl))) (λ_ _ _ _=>(xr zE (zA 0)))) (zB (zA 1) zC))))
    (zM (zv 17 xw.nd rfl (Or.inl rfl) (zi (zA 17) (zU aj hr rfl (zB (yT (own:=["_law_c"]) (caps:=[]) (yF (S:=zK gr) (N:=["_law_spec","_law_box_here","_law_many","_law_pushes","_law_modes","_law_unit","_law_found","_law_j","_law_low","_law_high","_law_rows_here","_law_nexts","_law_steer","_law_push","_law_add","_law_divisor","_law_up","_law_down"]) rfl (by decide +kernel) rfl ⟨_,rfl⟩ rfl (by decide +kernel) (by decide +kernel)) rfl rfl yH (ym (zN (zA 13) (zA 7) (λ_ _=>rfl))) (λ_ _ _ _=>(zo 0 (show (["_law_c"]:List Str).Nodup by decide +kernel) rfl (Or.inl rfl))) (λ_ _ _ _=>(xr zE (zA 0)))) (zB (zA 3) zC)))))
    (zM (zv 17 xw.nd rfl (Or.inl rfl) (wa (xr (zN (zA 14) (zA 7) (λ_ _=>rfl)) (zA 17)) (zA 15)))
    (JI (yL (PW.pt (xg (zKo (zA 9) ZX) (wI (Ze (zA 16) (zA 9))))) (zQ (zv 9 xw.nd rfl (Or.inl rfl) (zA 16))) yK)
    (zQ (yL (PW.pt (xg (zKo (zA 8) ZX) (wI (U3 (zA 17) (zA 8))))) (zQ (zv 8 xw.nd rfl (Or.inl rfl) (zA 17))) yK)))))))))
   (zQ (yI (xy (wG PySem.F.plainAttrs_list PySem.F.slot_list_append PySem.F.type_list_append yb (zZ 6) (zS (wq (zB (zA 8) (zB (zA 9) zC))) zy))) wR))))))
  (zM (yL (wp hr.units (zA 4) (yd zC)) (zQ (zX (zA 1))) yK)
  (zQ (wJ 6 (zX (zA 6))))))))),λds R h=>?_⟩
 obtain ⟨n,bs,ms,u,box,ee,rfl,T,e1,e2,BX,q⟩:=h
 have n3:=T.n3
 have b2:=T.b2
 have m3:=T.m3
 have lbx:=BX.len
 have lm:(List.map xk ms).length=ms.length:=List.length_map ..
 refine gc.keep (λd=>!(vf n box (Y8 d))) (by omega) (λd hd=>?_) (λd hd=>?_) ?_
 ·obtain ⟨m,hm,rfl⟩:=List.mem_map.mp hd
  rw [zMc]
  exact ⟨m,n,bs.length,box,ee,rfl,T.md m hm,by omega,BX,rfl⟩
 ·obtain ⟨m,hm,rfl⟩:=List.mem_map.mp hd
  exact rfl
 rw [zO9]
 have sub:∀ m∈ms.filter (λm=>!(vf n box (Y8 (xk m)))),j9 n bs.length m:=λm hm=>T.md m (List.mem_filter.mp hm).1
 have l3:(ms.filter (λm=>!(vf n box (Y8 (xk m))))).length<=3:=Nat.le_trans (List.length_filter_le ..) m3
 generalize ms.filter (λm=>!(vf n box (Y8 (xk m))))=ms2 at sub l3 |-
 refine ⟨k0,by omega,by omega,?_⟩
 rw [show ((n:Nat):Int).toNat=n by omega]
 refine ⟨λk Γ=>∃ (fs:List D) (s7 s8 s9 s10 s11 s12 s13 s14 s15 s16 s17:Sl),Γ=[.sh (xM n bs ms u),.sh (za box),.sh (.int (n:Int)),.sh (.lst (bs.map yR)),.sh (.lst (ms2.map xk)),.sh (.int u),.ow fs,s7,s8,s9,s10,s11,s12,s13,s14,s15,s16,s17]/\fs.length=k/\∀ f∈fs,∃ lo hi,f=.tup [lo,hi]/\(ms2≠[]->∃ p:Int × Int,f=yR p/\Bd (ee + 20) p.1/\Bd (ee + 20) p.2),⟨[],.no,.no,.no,.no,.no,.no,.no,.no,.no,.no,.no,rfl,rfl,λ_ h=>nomatch h⟩,?_,?_⟩
 ·rintro k d Γ' hk ⟨fs,s7,s8,s9,s10,s11,s12,s13,s14,s15,s16,s17,rfl,lf,hf⟩
  obtain ⟨kn,rfl⟩:=vT hk
  refine ⟨λi Γ=>∃ (lo hi:D) (s10 s11 s12 s13 s14 s15 s16 s17:Sl),Γ=[.sh (xM n bs ms u),.sh (za box),.sh (.int (n:Int)),.sh (.lst (bs.map yR)),.sh (.lst (ms2.map xk)),.sh (.int u),.ow fs,.sh (.int (k:Int)),.sh lo,.sh hi,s10,s11,s12,s13,s14,s15,s16,s17]/\NoI (ee + 20) lo/\NoI (ee + 20) hi/\(1<=i->lo≠.non/\hi≠.non),⟨.non,.non,_,_,_,_,_,_,_,_,rfl,.inl rfl,.inl rfl,λh=>absurd h (by decide)⟩,?_,?_⟩
  ·rintro i d Γ' hi2 ⟨lo,hi,s10,s11,s12,s13,s14,s15,s16,s17,rfl,nl,nh,_⟩
   obtain ⟨m,hm,rfl⟩:=gn hi2
   have M:=sub m (List.mem_of_getElem? hm)
   have k1:k < m.nexts.length:=by rw [M.ok.nexts.1]; exact kn
   have k2:k < m.push.length:=by rw [M.ok.push.1]; exact kn
   have ln:=M.ok.nexts.2 _ (qA k1)
   have lp:=M.ok.push.2 _ (qA k2)
   have BN:∀ x∈m.nexts.getD k [],Bd 4 x:=M.nx _ (qA k1)
   have BP:∀ x∈m.push.getD k [],Bd 4 x:=M.ps _ (qA k2)
   have dz:m.div≠0:=by have:=M.ok.div; omega
   have bb:∀ b∈bs,Bd 105 b.1/\Bd 105 b.2:=λb hb=>(T.bb b hb).2
   obtain ⟨up,hup⟩:∃ up,up=0 - (0 - (yM (m.nexts.getD k []) box + yM (m.push.getD k []) bs + m.add.getD k 0)).fdiv m.div:=⟨_,rfl⟩
   obtain ⟨dn,hdn⟩:∃ dn,dn=(m.add.getD k 0 - (yM (xY (m.nexts.getD k [])) box + yM (xY (m.push.getD k [])) bs)).fdiv m.div:=⟨_,rfl⟩
   have ba:Bd (ee + 8) (m.add.getD k 0):=(wt M.ad k).mono (by omega)
   have t1:Bd (ee + 7) (yM (m.nexts.getD k []) box):=(gp BN BX.bd).mono (by omega)
   have t2:Bd (ee + 7) (yM (m.push.getD k []) bs):=(gp BP bb).mono (by omega)
   have t3:Bd (ee + 7) (yM (xY (m.nexts.getD k [])) box):=(gp (gq BN) BX.bd).mono (by rw [qw]; omega)
   have t4:Bd (ee + 7) (yM (xY (m.push.getD k [])) bs):=(gp (gq BP) bb).mono (by rw [qw]; omega)
   have bup:Bd (ee + 20) up:=by
    rw [hup,Int.zero_sub,Int.zero_sub]
    exact (Bd.fdiv ((t1.add t2).add ba).neg _).neg.mono (by omega)
   have bdn:Bd (ee + 20) dn:=by
    rw [hdn]
    exact (Bd.fdiv (ba.sub (t3.add t4)) _).mono (by omega)
   refine ⟨_,qz k1,_,_,box,ee,rfl,.inl rfl,by omega,λx hx=>(BN x hx).mono,by omega,BX.bd,?_⟩
   refine ⟨_,qz k2,_,_,bs,105,rfl,.inl rfl,by omega,λx hx=>(BP x hx).mono,by decide,bb,?_⟩
   refine ⟨_,xK (j:=k) (by rw [M.ok.add]; exact kn) rfl,dz,M.dv.mono,?_⟩
   refine ⟨_,qz k1,zf.int (λx=>0 - x) (by omega) (λx hx=>rfl) ⟨_,xY _,box,ee,rfl,.inl rfl,by rw [qw]; omega,λx hx=>(gq BN x hx).mono,by omega,BX.bd,?_⟩⟩
   refine ⟨_,qz k2,zf.int (λx=>0 - x) (by omega) (λx hx=>rfl) ⟨_,xY _,bs,105,rfl,.inl rfl,by rw [qw]; omega,λx hx=>(gq BP x hx).mono,by decide,bb,?_⟩⟩
   refine ⟨_,xK (j:=k) (by rw [M.ok.add]; exact kn) rfl,dz,M.dv.mono,?_⟩
   refine ⟨λΓ=>∃ b:Int,Γ=[.sh (xM n bs ms u),.sh (za box),.sh (.int (n:Int)),.sh (.lst (bs.map yR)),.sh (.lst (ms2.map xk)),.sh (.int u),.ow fs,.sh (.int (k:Int)),.sh lo,.sh (.int b),.sh (Rm m.rows),.sh (Tb m.nexts),.sh (L m.steer),.sh (Tb m.push),.sh (L m.add),.sh (.int m.div),.sh (.int up),.sh (.int dn)]/\Bd (ee + 20) b,?_,?_⟩
   ·rcases nh with rfl | ⟨b,rfl,bb'⟩
    ·exact wT rfl (wT rfl ⟨up,by rw [hup,hdn]; rfl,bup⟩)
    ·exact wF rfl (w2 (λc=>⟨up,by rw [hup,hdn]; rfl,bup⟩) λc=>⟨b,by rw [hup,hdn]; rfl,bb'⟩)
   rintro Γ' ⟨b,rfl,bb'⟩
   rcases nl with rfl | ⟨a,rfl,ba'⟩
   ·exact wT rfl (wT rfl ⟨.int dn,.int b,_,_,_,_,_,_,_,_,rfl,.inr ⟨dn,rfl,bdn⟩,.inr ⟨b,rfl,bb'⟩,λ_=>⟨λz=>(nomatch z),λz=>(nomatch z)⟩⟩)
   ·exact wF rfl (w2 (λc=>⟨.int dn,.int b,_,_,_,_,_,_,_,_,rfl,.inr ⟨dn,rfl,bdn⟩,.inr ⟨b,rfl,bb'⟩,λ_=>⟨λz=>(nomatch z),λz=>(nomatch z)⟩⟩) λc=>⟨.int a,.int b,_,_,_,_,_,_,_,_,rfl,.inr ⟨a,rfl,ba'⟩,.inr ⟨b,rfl,bb'⟩,λ_=>⟨λz=>(nomatch z),λz=>(nomatch z)⟩⟩)
  ·rintro Γ' ⟨lo,hi,s10,s11,s12,s13,s14,s15,s16,s17,rfl,nl,nh,nn⟩
   refine ⟨k0,by omega,fs++[.tup [lo,hi]],_,_,_,_,_,_,_,_,_,_,_,rfl,by rw [List.length_append,lf]; rfl,wj hf ⟨lo,hi,rfl,λne=>?_⟩⟩
   have l1:1<=(ms2.map xk).length:=by
    cases ms2 with
    | nil=>exact absurd rfl ne
    | cons=>exact Nat.succ_le_succ (Nat.zero_le _)
   obtain ⟨n1,n2⟩:=nn l1
   rcases nl with rfl | ⟨a,rfl,ba⟩
   ·exact absurd rfl n1
   rcases nh with rfl | ⟨b,rfl,bb⟩
   ·exact absurd rfl n2
   exact ⟨(a,b),rfl,ba,bb⟩
 rintro Γ' ⟨fs,s7,s8,s9,s10,s11,s12,s13,s14,s15,s16,s17,rfl,lf,hf⟩
 rw [vU] at lf
 refine ⟨k0,zPw _,rfl,w2 (λc=>q box (BX.mono (by omega))) λc=>?_⟩
 rw [Zd] at c
 have ne:ms2≠[]:=λz=>by rw [z] at c; cases c
 obtain ⟨ps,rfl,hp⟩:∃ ps:List (Int × Int),fs=ps.map yR/\∀ p∈ps,Bd (ee + 20) p.1/\Bd (ee + 20) p.2:=by
  clear lf c q
  induction fs with
  | nil=>exact ⟨[],rfl,λ_ h=>nomatch h⟩
  | cons x fs ih=>
   obtain ⟨_,_,_,h0⟩:=hf x List.mem_cons_self
   obtain ⟨p,rfl,h1⟩:=h0 ne
   obtain ⟨ps,rfl,h2⟩:=ih λy hy=>hf y (List.mem_cons_of_mem _ hy)
   exact ⟨p :: ps,rfl,λy hy=>(List.mem_cons.mp hy).elim (λz=>z ▸ h1) (h2 y)⟩
 exact q ps ⟨by rw [List.length_map] at lf; exact lf,hp⟩
theorem zLN {k:Nat} {f:Addr} {fd:FuncData} (F:zg K "_law_kept" "_law_kept" Qb f fd) (B:Bl mg) (bJ:Fn P w K mg base "_law_hull" ["_law_one","_law_other_here"] k (zH (zQl))) (aG:Fn P w K mg base "_law_image" ["_law_spec","_law_box_here"] k (zH (qy))):zF P w K mg base zW (k + 1) f fd ["_law_spec","_law_box_here"] (zH (zQk)):=by
 refine yC F Qc (λds R h=>by obtain ⟨n,bs,ms,u,box,rfl,_⟩:=h; rfl) λcdv A outer s H E hr=>⟨_,(zM (wA PassesOwn.never rfl (y3 rfl B.range_ (zB zE zC)) (zo 2 Qc.nd rfl (Or.inl rfl)) (zQ (zv 1 Qc.nd rfl (Or.inl rfl) (zU bJ hr rfl (zB (zA 1) (zB (zU aG hr rfl (zB (zA 0) (zB (zA 1) zC))) zC))))))
  (zQ (zX (zA 1)))),λds R h=>?_⟩
 obtain ⟨n,bs,ms,u,box,rfl,T,BX,q⟩:=h
 refine ⟨by decide,by decide,?_⟩
 refine ⟨λk Γ=>∃ (bx:List (Int × Int)) (s2:Sl),Γ=[.sh (xM n bs ms u),.sh (za bx),s2]/\Bx n (105 + 20 * k) bx,⟨box,.no,rfl,BX⟩,?_,?_⟩
 ·rintro k d Γ' hk ⟨bx,s2,rfl,B⟩
  obtain ⟨kn,rfl⟩:=vT hk
  exact ⟨n,bs,ms,u,bx,105 + 20 * k,rfl,T,by omega,by omega,B,λb1 B1=>⟨bx,b1,n,105 + 20 * (k + 1),rfl,T.n3,B.mono (by omega),B1.mono (by omega),λb2 B2=>⟨b2,_,rfl,B2⟩⟩⟩
 ·rintro Γ' ⟨bx,s2,rfl,B⟩
  rw [vU] at B
  exact q bx B.mono
end
abbrev zw (s:Int × List Int):D:=.tup [.int s.1,L s.2]
abbrev xB (ss:List (Int × List Int)):D:=.lst (ss.map zw)
abbrev zx (t:List (List (Int × List Int))):D:=.lst (t.map xB)
structure ja (s:Int × List Int):Prop where
 o:Bd 210 s.1
 l:s.2.length<=100
 b:∀ x∈s.2,Bd 210 x
def uj (ss:List (Int × List Int)):Prop:=ss.length<=40/\∀ s∈ss,ja s
def wM (t:List (List (Int × List Int))):Prop:=t.length<=40/\∀ ss∈t,uj ss
structure Qd (n:Nat) (box:List (Int × Int)):Prop where
 len:box.length=n
 ok:∀ b∈box,b.1<=b.2/\Bd 105 b.1/\Bd 105 b.2
structure Bxs (n:Nat) (bxs:List (List (Int × Int))):Prop where
 l1:1<=bxs.length
 l4:bxs.length<=4
 bx:∀ b∈bxs,Bx n 280 b
structure Qe (n:Nat) (g:List (List Int)):Prop where
 l3:g.length<=3
 row:∀ r∈g,r.length=n + 1/\(∀ x∈r.take n,Bd 4 x)/\∀ x∈r,Bd 299 x
theorem zNe {α:Type} {l:List α} {f:α->D} {k:Nat} (z:α) (h:l.length=k + 1):ya (l.map f) (-1)=some (f (l.getD k z)):=by
 rw [uw]
 unfold ya vJ
 rw [if_neg (by decide),if_pos (by omega)]
 show Option.map f l[((-1:Int) + (l.length:Int)).toNat]? = _
 rw [show ((-1:Int) + (l.length:Int)).toNat=k by omega,List.getElem?_eq_getElem (by omega),List.getD_eq_getElem?_getD,List.getElem?_eq_getElem (by omega)]
 rfl
theorem jb {α:Type} {l:List α} {k:Nat} {z:α} (h:k < l.length):l.getD k z∈l:=by
 rw [List.getD_eq_getElem?_getD,List.getElem?_eq_getElem h]
 exact List.getElem_mem _
def zPT:D->Int × Int
 | .tup [.int a,.int b]=>(a,b)
 | _=>(0,0)
def Qf:D->List (Int × Int)
 | .lst ds=>ds.map zPT
 | _=>[]
theorem zHY (b:List (Int × Int)):Qf (za b)=b:=by
 show (b.map yR).map zPT=b
 rw [List.map_map]
 exact List.map_id _
def zQn:FL:=λds R=>∃ n bs ms u c,ds=[xM n bs ms u,.int c]/\ve n bs ms u/\∀ inner bxs,Qd n inner->Bxs n bxs->R (.tup [za inner,.lst (bxs.map za)])
def XA:FL:=λds R=>∃ n bs ms u bxs c,ds=[xM n bs ms u,.lst (bxs.map za),.int c]/\ve n bs ms u/\Bxs n bxs/\∀ g,Qe n g->R (Rm g)
def XB:FL:=λds R=>∃ n bs ms u m r box e,ds=[xM n bs ms u,xk m,U r,za box]/\ve n bs ms u/\j9 n bs.length m/\r.length=n + 1/\(∀ x∈r.take n,Bd 4 x)/\e<=400/\Bx n e box/\∀ s,ja s->R (zw s)
theorem zQ0 {n:Nat} {box:List (Int × Int)} {m:MD} (h:vf n box m=true):∃ r t,m.rows=r :: t:=by
 cases e:m.rows with
 | nil=>unfold vf at h; rw [e] at h; cases h
 | cons r t=>exact ⟨r,t,rfl⟩
section
variable {P:Program} {w:World} {K:PySem.W.Frag} {mg:Str->Option Value} {base:Heap}
abbrev Qg:Stmt:=zp 85
theorem XC:ze ["_law_spec","_law_cell","_law_xs","_law_inner","_law_boxes_here","_law_k"] ["_law_spec","_law_cell"] (zK Qg):=.a
abbrev XD:Stmt:=zp 86
theorem q9:ze ["_law_spec","_law_boxes_here","_law_cell","_law_xs","_law_rows_here","_law_k","_law_numbers","_law_bound"] ["_law_spec","_law_boxes_here","_law_cell"] (zK XD):=.a
abbrev gu:Stmt:=zp 82
theorem jc:ze ["_law_spec","_law_mode_here","_law_row","_law_box_here","_law_rows_here","_law_nexts","_law_steer","_law_push","_law_add","_law_divisor","_law_steps","_law_pushed"] ["_law_spec","_law_mode_here","_law_row","_law_box_here"] (zK gu):=.a
variable {aClaim aSettles aComes aa ac aPaper aRooms aFalls:Addr} (Cc:Cs K mg aClaim aSettles aComes aa ac aPaper aRooms aFalls)
include Cc
theorem zJx {k:Nat} {f:Addr} {fd:FuncData} (F:zg K "_law_boxes" "_law_boxes" Qg f fd) (B:Bl mg) (ah:Fn P w K mg base "_law_stream" ["_law_cell","_law_many"] k (zH (gm))) (bK:Fn P w K mg base "_law_box" ["_law_cell","_law_many","_law_unit"] k (zH (Y2))) (bL:Fn P w K mg base "_law_kept" ["_law_spec","_law_box_here"] k (zH (zQk))) (aG:Fn P w K mg base "_law_image" ["_law_spec","_law_box_here"] k (zH (qy))):zF P w K mg base zW (k + 1) f fd ["_law_spec","_law_cell"] (zH (zQn)):=by
 refine yC F XC (λds R h=>by obtain ⟨n,bs,ms,u,c,rfl,_⟩:=h; rfl) λcdv A outer s H E hr=>⟨_,(zM (zv 2 XC.nd rfl (Or.inl rfl) (zU ah hr rfl (zB (zA 1) (zB zE zC))))
  (zM (zv 3 XC.nd rfl (Or.inl rfl) (zU bK hr rfl (zB (zN (zA 2) zE (λ_ _=>rfl)) (zB (zN (zA 0) zE (λ_ _=>rfl)) (zB (zN (zA 0) zE (λ_ _=>rfl)) zC)))))
  (zM (vo 4 XC.nd rfl (Or.inl rfl) (zB (zU bL hr rfl (zB (zA 0) (zB (zA 3) zC))) zC))
  (zM (wA PassesOwn.never rfl (y3 rfl B.range_ (zB (y4 (zN (zA 2) zE (λ_ _=>rfl)) zE) zC)) (zo 5 XC.nd rfl (Or.inl rfl)) (zQ (yI (xy (wG PySem.F.plainAttrs_list PySem.F.slot_list_append PySem.F.type_list_append yb (zZ 4) (zS (zU aG hr rfl (zB (zA 0) (zB (YA 4 (xI zE) (λ_ _=>rfl)) zC))) zy))) wR)))
  (zQ (wJ 4 (zX (wq (zB (zA 3) (zB (zA 4) zC)))))))))),λds R h=>?_⟩
 obtain ⟨n,bs,ms,u,c,rfl,T,q⟩:=h
 have n3:=T.n3
 have u1:=T.u1
 refine ⟨c,8,rfl,by decide,λxs lx hx=>?_⟩
 refine xj (by decide) (by omega) λx0 _=>⟨_,rfl,_,rfl,x0,n,u,rfl,n3,by omega,T.bu,λinner li hi=>?_⟩
 refine ⟨n,bs,ms,u,inner,rfl,T,⟨li,λb hb=>(hi b hb).2⟩,λb1 B1=>⟨k0,?_⟩⟩
 refine xj (by decide) (by omega) λx1 _=>⟨by decide,?_⟩
 have m4:=md x1 (show (0:Int) < 4 by decide)
 refine ⟨by omega,by omega,?_⟩
 refine ⟨λk Γ=>∃ (bxs:List (List (Int × Int))) (s5:Sl),Γ=[.sh (xM n bs ms u),.sh (.int c),.sh (L xs),.sh (za inner),.ow (bxs.map za),s5]/\bxs.length=k + 1/\∀ b∈bxs,Bx n (210 + 20 * k) b,⟨[b1],.no,rfl,rfl,λb hb=>by rw [List.mem_singleton.mp hb]; exact B1⟩,?_,?_⟩
 ·rintro k d Γ' hk ⟨bxs,s5,rfl,lb,hb⟩
  obtain ⟨kn,rfl⟩:=vT hk
  refine ⟨_,zNe [] lb,n,bs,ms,u,bxs.getD k [],210 + 20 * k,rfl,T,by omega,by omega,hb _ (jb (by omega)),λb2 B2=>⟨by rw [List.length_map]; omega,bxs++[b2],.sh (.int (k:Int)),by rw [List.map_append]; rfl,by rw [List.length_append,lb]; rfl,wj (λb h=>(hb b h).mono (by omega)) (B2.mono (by omega))⟩⟩
 ·rintro Γ' ⟨bxs,s5,rfl,lb,hb⟩
  rw [vU] at lb hb
  exact ⟨k0,q inner bxs ⟨li,hi⟩ ⟨by omega,by omega,λb h=>(hb b h).mono (by omega)⟩⟩
theorem zFt {k:Nat} {f:Addr} {fd:FuncData} (F:zg K "_law_claim_rows" "_law_claim_rows" XD f fd) (B:Bl mg) (ah:Fn P w K mg base "_law_stream" ["_law_cell","_law_many"] k (zH (gm))) (ai:Fn P w K mg base "_law_number" ["_law_x","_law_far"] k (zH (Wf))) (aj:Fn P w K mg base "_law_top" ["_law_numbers","_law_box_here"] k (zH (Wn))):zF P w K mg base zW (k + 1) f fd ["_law_spec","_law_boxes_here","_law_cell"] (zH (XA)):=by
 refine yC F q9 (λds R h=>by obtain ⟨n,bs,ms,u,bxs,c,rfl,_⟩:=h; rfl) λcdv A outer s H E hr=>⟨_,(zM (zv 3 q9.nd rfl (Or.inr rfl) (zU ah hr rfl (zB (zA 2) (zB zE zC))))
  (zM (vo 4 q9.nd rfl (Or.inl rfl) zC)
  (zM (wA PassesOwn.never rfl (y3 rfl B.range_ (zB (zN (yd (zB zE (zB zE (zB zE (zB zE zC))))) (y4 (zN (zA 3) zE (λ_ _=>rfl)) zE) (λ_ _=>rfl)) zC)) (zo 5 q9.nd rfl (Or.inr rfl)) (zM (zv 6 q9.nd rfl (Or.inr rfl) (yT (own:=["_law_j"]) (caps:=[(3,"_law_xs"),(5,"_law_k")]) (yF (S:=zK XD) (N:=["_law_spec","_law_boxes_here","_law_cell","_law_xs","_law_rows_here","_law_k","_law_numbers","_law_bound"]) rfl (by decide +kernel) rfl ⟨_,rfl⟩ rfl (by decide +kernel) (by decide +kernel)) rfl rfl yH (y3 rfl B.range_ (zB (zN (zA 0) zE (λ_ _=>rfl)) zC)) (λ_ _ _ _=>(zo 0 (show (["_law_j","_law_xs","_law_k"]:List Str).Nodup by decide +kernel) rfl (Or.inl rfl))) (λ_ _ _ _=>(zU ai hr rfl (zB (zN (zA 1) (zi (zi zE (yo zE (zA 2))) (zA 0)) (λ_ _=>rfl)) (zB zE zC))))))
   (zM (zv 7 q9.nd rfl (Or.inl rfl) (zj (zMC rfl) zNc rfl B.max_ ZB (zB (yT (own:=["_law_box_here"]) (caps:=[(6,"_law_numbers")]) (yF (S:=zK XD) (N:=["_law_spec","_law_boxes_here","_law_cell","_law_xs","_law_rows_here","_law_k","_law_numbers","_law_bound"]) rfl (by decide +kernel) rfl ⟨_,rfl⟩ rfl (by decide +kernel) (by decide +kernel)) rfl rfl yH (ym (zA 1)) (λ_ _ _ _=>(zo 0 (show (["_law_box_here","_law_numbers"]:List Str).Nodup by decide +kernel) rfl (Or.inl rfl))) (λ_ _ _ _=>(zU aj hr rfl (zB (zA 1) (zB (zA 0) zC))))) zC)))
   (zM (zv 7 q9.nd rfl (Or.inl rfl) (zi (zA 7) (zN (yd (zB zE (zB zE (zB (zN (zA 0) zE (λ_ _=>rfl)) (zB (xI zE) zC))))) (y4 (wa (zN (zA 3) zE (λ_ _=>rfl)) zE) zE) (λ_ _=>rfl))))
   (zQ (yI (xy (wG PySem.F.plainAttrs_list PySem.F.slot_list_append PySem.F.type_list_append yb (zZ 4) (zS (xP jG jx rfl B.tuple_ vP (zB (zi (zA 6) (yd (zB (zA 7) zC))) zC)) zy))) wR))))))
  (zQ (wJ 4 (zX (zA 4))))))),λds R h=>?_⟩
 obtain ⟨n,bs,ms,u,bxs,c,rfl,T,BB,q⟩:=h
 have n3:=T.n3
 have l1:=BB.l1
 have l4:=BB.l4
 refine ⟨c,12,rfl,by decide,λxs lx hx=>⟨k0,?_⟩⟩
 refine ⟨k0,xj (by decide) (by omega) λx0 _=>⟨by decide,vH (md x0 (by decide)).1 (by have:=md x0 (show (0:Int) < 4 by decide); show x0.fmod 4 < 4; omega) λz hz=>?_⟩⟩
 obtain ⟨h,rfl,h3⟩:∃ h:Nat,z=.int (h:Int)/\h<=3:=by
  simp only [List.mem_cons,List.not_mem_nil,or_false] at hz
  rcases hz with rfl | rfl | rfl | rfl
  ·exact ⟨1,rfl,by decide⟩
  ·exact ⟨2,rfl,by decide⟩
  ·exact ⟨3,rfl,by decide⟩
  ·exact ⟨0,rfl,by decide⟩
 refine ⟨by omega,by omega,?_⟩
 rw [show ((h:Nat):Int).toNat=h by omega]
 refine ⟨λk Γ=>∃ (g:List (List Int)) (s5 s6 s7:Sl),Γ=[.sh (xM n bs ms u),.sh (.lst (bxs.map za)),.sh (.int c),.sh (L xs),.ow (g.map U),s5,s6,s7]/\g.length=k/\∀ r∈g,r.length=n + 1/\(∀ x∈r.take n,Bd 4 x)/\∀ x∈r,Bd 299 x,⟨[],.no,.no,.no,rfl,rfl,λ_ h=>nomatch h⟩,?_,?_⟩
 ·rintro k d Γ' hk ⟨g,s5,s6,s7,rfl,lg,hg⟩
  obtain ⟨kn,rfl⟩:=vT hk
  have bk:Bd 2 (k:Int):=Y1 (by omega)
  refine ⟨_,rfl,by omega,by omega,?_⟩
  rw [show ((n:Nat):Int).toNat=n by omega]
  refine zf.nums (λx=>Bd 2 x) (by omega) (λj hj=>⟨(Bd.lit (i:=3) (n:=2)).mono,bk.mono,xj (by omega) (by omega) λx1 _=>⟨_,2,rfl,by decide,(Bd.lit (i:=2) (n:=2)).mono,λy y1 y2=>⟨y,rfl,uG (f:=3) (by decide) (by omega) (by omega)⟩⟩⟩) λnu lnu hnu=>?_
  refine vG za Qf zHY (λb=>.int (yM nu b)) (by omega) (λb hb=>⟨_,nu,b,280,rfl,.inl rfl,by omega,λx hx=>(hnu x hx).mono,by decide,(BB.bx b hb).bd,rfl⟩) ⟨bxs.map (yM nu),by rw [List.map_map]; rfl,by rw [List.length_map]; omega,λM hM _=>?_⟩
  have bM:Bd 290 M:=by
   obtain ⟨b,hb,rfl⟩:=List.mem_map.mp hM
   exact (gp hnu (BB.bx b hb).bd).mono (by omega)
  refine ⟨_,rfl,k0,xj (by decide) (by omega) λx2 _=>⟨by decide,(Bd.lit (i:=4) (n:=3)).mono,by decide,vH (md _ (by decide)).1 (by have:=md (x2.fdiv 4) (show (0:Int) < 4 by decide); show (x2.fdiv 4).fmod 4 < 4; omega) λz hz=>?_⟩⟩
  obtain ⟨v,rfl,bv⟩:vC (Bd 290) z:=by
   simp only [List.mem_cons,List.not_mem_nil,or_false] at hz
   rcases hz with rfl | rfl | rfl | rfl
   ·exact ⟨_,rfl,wu⟩
   ·exact ⟨_,rfl,wu⟩
   ·exact ⟨_,rfl,T.bu.mono⟩
   ·exact ⟨_,rfl,(Bd.lit (i:=-1) (n:=1)).mono⟩
  refine ⟨k0,by rw [List.length_map]; show _ + 1<=1000; omega,by rw [List.length_map]; omega,g++[nu++[M + v]],.sh (.int (k:Int)),.sh (L nu),.sh (.int (M + v)),?_,by rw [List.length_append,lg]; rfl,wj hg ⟨by rw [List.length_append,lnu]; rfl,λx hx=>by
   rw [List.take_append_of_le_length (by omega),List.take_of_length_le (by omega)] at hx
   exact (hnu x hx).mono,wj (λx hx=>(hnu x hx).mono) ((bM.add bv).mono)⟩⟩
  rw [List.map_append,List.map_cons,List.map_nil,U,List.map_append]
  rfl
 ·rintro Γ' ⟨g,s5,s6,s7,rfl,lg,hg⟩
  rw [vU] at lg
  exact q g ⟨by omega,hg⟩
theorem zFF {k:Nat} {f:Addr} {fd:FuncData} (F:zg K "_law_step_shares" "_law_step_shares" gu f fd) (B:Bl mg) (aF:Fn P w K mg base "_law_beyond" ["_law_mode_here","_law_box_here"] k (zH (qx))) (ao:Fn P w K mg base "_law_both" ["_law_numbers"] k (zH (Wg))):zF P w K mg base zW (k + 1) f fd ["_law_spec","_law_mode_here","_law_row","_law_box_here"] (zH (XB)):=by
 refine yC F jc (λds R h=>by obtain ⟨n,bs,ms,u,m,r,box,ee,rfl,_⟩:=h; rfl) λcdv A outer s H E hr=>⟨_,(zM (qe (zA 1) (we rfl (yA 4 jc.nd rfl (Or.inl rfl) (yA 5 jc.nd rfl (Or.inr rfl) (yA 6 jc.nd rfl (Or.inl rfl) (yA 7 jc.nd rfl (Or.inr rfl) (yA 8 jc.nd rfl (Or.inl rfl) (yA 9 jc.nd rfl (Or.inl rfl) wd))))))))
  (zM (yL (yU (zU aF hr rfl (zB (zA 1) (zB (zA 3) zC)))) (zQ (zX (wq (zB zE (zB (zi (zi (zU ao hr rfl (zB (yT (own:=["_law_c"]) (caps:=[]) (yF (S:=zK gu) (N:=["_law_spec","_law_mode_here","_law_row","_law_box_here","_law_rows_here","_law_nexts","_law_steer","_law_push","_law_add","_law_divisor","_law_steps","_law_pushed"]) rfl (by decide +kernel) rfl ⟨_,rfl⟩ rfl (by decide +kernel) (by decide +kernel)) rfl rfl yH (ym (xA (zN (zA 4) zE (λ_ _=>rfl)) y8 (y9 (xI zE)))) (λ_ _ _ _=>(zo 0 (show (["_law_c"]:List Str).Nodup by decide +kernel) rfl (Or.inl rfl))) (λ_ _ _ _=>(xr zE (zA 0)))) zC)) (yd (zB zE zC))) (yo (yd (zB zE zC)) (yo zE (zj yP yS rfl B.len_ yQ (zB (zN (zA 0) zE (λ_ _=>rfl)) zC))))) zC))))) yK)
  (zM (vp 10 false jc.nd rfl rfl (own:=["_law_j"]) (caps:=[(0,"_law_spec"),(2,"_law_row"),(5,"_law_nexts")]) (yF (S:=zK gu) (N:=["_law_spec","_law_mode_here","_law_row","_law_box_here","_law_rows_here","_law_nexts","_law_steer","_law_push","_law_add","_law_divisor","_law_steps","_law_pushed"]) rfl (by decide +kernel) rfl ⟨_,rfl⟩ rfl (by decide +kernel) (by decide +kernel)) rfl rfl yH (y3 rfl B.range_ (zB (zN (zA 0) zE (λ_ _=>rfl)) zC)) (λ_ _ _ _=>(zo 0 (show (["_law_j","_law_spec","_law_row","_law_nexts"]:List Str).Nodup by decide +kernel) rfl (Or.inr rfl))) (λ_ _ _ _=>(zj (jq rfl) jy rfl B.sum_ jp (zB (yT (own:=["_law_i"]) (caps:=[(0,"_law_j"),(2,"_law_row"),(3,"_law_nexts")]) (qO rfl (by decide +kernel) (by decide +kernel) (by decide +kernel) (by decide +kernel)) rfl rfl yH (y3 rfl B.range_ (zB (zN (zA 1) zE (λ_ _=>rfl)) zC)) (λ_ _ _ _=>(zo 0 (show (["_law_i","_law_j","_law_row","_law_nexts"]:List Str).Nodup by decide +kernel) rfl (Or.inl rfl))) (λ_ _ _ _=>(yo (zN (zA 2) (zA 0) (λ_ _=>rfl)) (zN (zN (zA 3) (zA 0) (λ_ _=>rfl)) (zA 1) (λ_ _=>rfl))))) zC))) rfl)
  (zM (vp 11 false jc.nd rfl rfl (own:=["_law_j"]) (caps:=[(0,"_law_spec"),(2,"_law_row"),(7,"_law_push")]) (yF (S:=zK gu) (N:=["_law_spec","_law_mode_here","_law_row","_law_box_here","_law_rows_here","_law_nexts","_law_steer","_law_push","_law_add","_law_divisor","_law_steps","_law_pushed"]) rfl (by decide +kernel) rfl ⟨_,rfl⟩ rfl (by decide +kernel) (by decide +kernel)) rfl rfl yH (y3 rfl B.range_ (zB (zj yP yS rfl B.len_ yQ (zB (zN (zA 0) zE (λ_ _=>rfl)) zC)) zC)) (λ_ _ _ _=>(zo 0 (show (["_law_j","_law_spec","_law_row","_law_push"]:List Str).Nodup by decide +kernel) rfl (Or.inr rfl))) (λ_ _ _ _=>(zj (jq rfl) jy rfl B.sum_ jp (zB (yT (own:=["_law_i"]) (caps:=[(0,"_law_j"),(2,"_law_row"),(3,"_law_push")]) (qO rfl (by decide +kernel) (by decide +kernel) (by decide +kernel) (by decide +kernel)) rfl rfl yH (y3 rfl B.range_ (zB (zN (zA 1) zE (λ_ _=>rfl)) zC)) (λ_ _ _ _=>(zo 0 (show (["_law_i","_law_j","_law_row","_law_push"]:List Str).Nodup by decide +kernel) rfl (Or.inl rfl))) (λ_ _ _ _=>(yo (zN (zA 2) (zA 0) (λ_ _=>rfl)) (zN (zN (zA 3) (zA 0) (λ_ _=>rfl)) (zA 1) (λ_ _=>rfl))))) zC))) rfl)
  (zQ (zX (wq (zB zE (zB (zi (zi (zU ao hr rfl (zB (zA 10) zC)) (yo (yd (zB zE zC)) (zj yP yS rfl B.len_ yQ (zB (zA 4) zC)))) (zU ao hr rfl (zB (zA 11) zC))) zC))))))))),λds R h=>?_⟩
 obtain ⟨n,bs,ms,u,m,r,box,ee,rfl,T,M,lr,br,e4,BX,q⟩:=h
 have n3:=T.n3
 have b2:=T.b2
 have lb:(List.map yR bs).length=bs.length:=List.length_map ..
 refine ⟨m,n,bs.length,box,ee,rfl,M,e4,BX,w2 (λc=>?_) λc=>?_⟩
 ·obtain ⟨r0,t,er⟩:=zQ0 c
  have hm:r0∈m.rows:=by rw [er]; exact List.mem_cons_self
  have l0:=M.ok.rows r0 hm
  refine ⟨U r0,by have h:=qz (u:=U) (rows:=m.rows) (k:=0) (by rw [er]; exact Nat.succ_pos _); rw [show m.rows.getD 0 []=r0 by rw [er]; rfl] at h; exact h,?_⟩
  refine zf.cast (wg l0) (zf.int (λx=>0 - x) (by rw [List.length_take]; omega) (λx hx=>rfl) ⟨_,xY (r0.take n),rfl,.inl rfl,by rw [qw,List.length_take]; omega,λx hx=>(gq (M.rb r0 hm).1 x hx).mono,λys ly hy=>?_⟩)
  rw [qw,List.length_take] at ly
  have rep:List.replicate (2 * (bs.length:Int)).toNat (D.int 0)=(List.replicate (2 * bs.length) (0:Int)).map D.int:=by rw [List.map_replicate,show (2 * (bs.length:Int)).toNat=2 * bs.length by omega]
  refine ⟨k0,by rw [List.length_map]; show _ + 1<=1000; omega,k0,_,rfl,(Bd.lit (i:=2) (n:=2)).mono,Bd.mono (n:=4) (uG (f:=15) (by decide) (by omega) (by omega)) (by decide),by omega,by omega,?_⟩
  rw [lb,rep]
  refine ⟨by rw [List.length_append,List.length_map,List.length_map,List.length_replicate]; show _ + 1 + _<=1000; omega,k0,?_⟩
  have:=q (0,ys++[1]++List.replicate (2 * bs.length) 0) ⟨wu,by rw [List.length_append,List.length_append,List.length_replicate]; show _ + 1 + _<=100; omega,λx hx=>?_⟩
  ·unfold zw L at this
   rw [List.map_append,List.map_append] at this
   exact this
  ·rcases List.mem_append.mp hx with hx | hx
   ·exact wj (λy h=>(hy y h).2.mono) ((Bd.lit (i:=1) (n:=1)).mono) x hx
   ·rw [List.eq_of_mem_replicate hx]; exact wu
 refine ⟨_,rfl,by omega,by omega,?_⟩
 rw [show ((n:Nat):Int).toNat=n by omega]
 refine zf.nums (λx=>Bd 20 x) (by omega) (λj hj=>?_) λss lss hss=>?_
 ·refine ⟨_,rfl,by omega,by omega,?_⟩
  rw [show ((n:Nat):Int).toNat=n by omega]
  refine zf.nums (λx=>Bd 10 x) (by omega) (λi hi=>?_) λzs lz hz=>⟨zs,rfl,_,rfl,(QX hz).mono (by omega)⟩
  have k1:i < m.nexts.length:=by rw [M.ok.nexts.1]; exact hi
  have bn:=M.nx _ (qA k1)
  have br:Bd 4 (r.getD i 0):=by
   refine br _ ?_
   rw [List.getD_eq_getElem?_getD,List.getElem?_eq_getElem (by omega)]
   exact List.mem_take_iff_getElem.mpr ⟨i,by omega,rfl⟩
  exact ⟨_,xK (j:=i) (by omega) rfl,_,qz k1,_,xK (j:=j) (by rw [M.ok.nexts.2 _ (qA k1)]; exact hj) rfl,br.mono,(wt bn j).mono,_,rfl,(br.mul (wt bn j)).mono⟩
 refine ⟨_,rfl,by omega,by omega,?_⟩
 rw [show ((List.length (List.map yR bs):Nat):Int).toNat=bs.length by omega]
 refine zf.nums (λx=>Bd 20 x) (by omega) (λj hj=>?_) λps lps hps=>?_
 ·refine ⟨_,rfl,by omega,by omega,?_⟩
  rw [show ((n:Nat):Int).toNat=n by omega]
  refine zf.nums (λx=>Bd 10 x) (by omega) (λi hi=>?_) λzs lz hz=>⟨zs,rfl,_,rfl,(QX hz).mono (by omega)⟩
  have k1:i < m.push.length:=by rw [M.ok.push.1]; exact hi
  have bn:=M.ps _ (qA k1)
  have br:Bd 4 (r.getD i 0):=by
   refine br _ ?_
   rw [List.getD_eq_getElem?_getD,List.getElem?_eq_getElem (by omega)]
   exact List.mem_take_iff_getElem.mpr ⟨i,by omega,rfl⟩
  exact ⟨_,xK (j:=i) (by omega) rfl,_,qz k1,_,xK (j:=j) (by rw [M.ok.push.2 _ (qA k1)]; exact hj) rfl,br.mono,(wt bn j).mono,_,rfl,(br.mul (wt bn j)).mono⟩
 have r1:=M.r1
 have lR:(List.map U m.rows).length=m.rows.length:=List.length_map ..
 refine ⟨_,ss,rfl,.inl rfl,by omega,λx hx=>(hss x hx).mono,λys ly hy=>?_⟩
 have rep:List.replicate ((m.rows.length:Nat):Int).toNat (D.int 0)=(List.replicate m.rows.length (0:Int)).map D.int:=by rw [List.map_replicate,Int.toNat_natCast]
 refine ⟨k0,by omega,by omega,?_⟩
 rw [lR,rep]
 refine ⟨by rw [List.length_map,List.length_map,List.length_replicate]; omega,_,ps,rfl,.inl rfl,by omega,λx hx=>(hps x hx).mono,λzs lz hz=>?_⟩
 refine ⟨by rw [List.length_append,List.length_map,List.length_map,List.length_map,List.length_replicate]; omega,k0,?_⟩
 have:=q (1,ys++List.replicate m.rows.length 0++zs) ⟨(Bd.lit (i:=1) (n:=1)).mono,by rw [List.length_append,List.length_append,List.length_replicate]; show _ + _ + _<=100; omega,λx hx=>?_⟩
 ·unfold zw L at this
  rw [List.map_append,List.map_append] at this
  exact this
 ·rcases List.mem_append.mp hx with hx | hx
  ·rcases List.mem_append.mp hx with hx | hx
   ·exact (hy x hx).2.mono
   ·rw [List.eq_of_mem_replicate hx]; exact wu
  ·exact (hz x hx).2.mono
end
theorem Qh:∀ {es:List D},(∀ e∈es,∃ s,e=zw s/\ja s)->∃ ss:List (Int × List Int),es=ss.map zw/\∀ s∈ss,ja s
 | [],_=>⟨[],rfl,λ_ h=>nomatch h⟩
 | x :: es,h=>by
  obtain ⟨s,rfl,h1⟩:=h x List.mem_cons_self
  obtain ⟨ss,rfl,h2⟩:=Qh λy hy=>h y (List.mem_cons_of_mem _ hy)
  exact ⟨s :: ss,rfl,λy hy=>(List.mem_cons.mp hy).elim (λz=>z ▸ h1) (h2 y)⟩
theorem zPd:∀ {es:List D},(∀ e∈es,∃ s,e=xB s/\uj s)->∃ ss:List (List (Int × List Int)),es=ss.map xB/\∀ s∈ss,uj s
 | [],_=>⟨[],rfl,λ_ h=>nomatch h⟩
 | x :: es,h=>by
  obtain ⟨s,rfl,h1⟩:=h x List.mem_cons_self
  obtain ⟨ss,rfl,h2⟩:=zPd λy hy=>h y (List.mem_cons_of_mem _ hy)
  exact ⟨s :: ss,rfl,λy hy=>(List.mem_cons.mp hy).elim (λz=>z ▸ h1) (h2 y)⟩
theorem zNr:∀ {es:List D},(∀ e∈es,∃ s,e=zx s/\wM s)->∃ ss:List (List (List (Int × List Int))),es=ss.map zx/\∀ s∈ss,wM s
 | [],_=>⟨[],rfl,λ_ h=>nomatch h⟩
 | x :: es,h=>by
  obtain ⟨s,rfl,h1⟩:=h x List.mem_cons_self
  obtain ⟨ss,rfl,h2⟩:=zNr λy hy=>h y (List.mem_cons_of_mem _ hy)
  exact ⟨s :: ss,rfl,λy hy=>(List.mem_cons.mp hy).elim (λz=>z ▸ h1) (h2 y)⟩
theorem gv {n e:Nat} {bx:List (Int × Int)} (B:Bx n e bx) (h1:2<=e):∀ r∈wL bx,r.length=n + 1/\(∀ x∈r.take n,Bd 2 x)/\∀ x∈r,Bd e x:=λr hr=>by
 obtain ⟨q,hq,hr⟩:=List.mem_flatten.mp hr
 obtain ⟨i,hi,rfl⟩:=List.mem_mapIdx.mp hq
 have l:=B.len
 have hb:=B.bd _ (List.getElem_mem hi)
 have u1:=zME (n:=bx.length) (pl:=(i:Int)) (e:=2) (nu:=1) Bd.lit
 have lu:(xH (i:Int) bx.length 1).length=n:=by rw [uB]; exact l
 rcases List.mem_cons.mp hr with rfl | hr
 ·exact ⟨by rw [List.length_append,lu]; rfl,λx hx=>by rw [List.take_append_of_le_length (by omega),List.take_of_length_le (by omega)] at hx; exact u1 x hx,wj (λx hx=>(u1 x hx).mono h1) hb.2⟩
 ·rw [List.mem_singleton.mp hr]
  have u2:∀ x∈(xH (i:Int) bx.length 1).map (λx=>0 - x),Bd 2 x:=λx hx=>by
   obtain ⟨y,hy,rfl⟩:=List.mem_map.mp hx
   rw [Int.zero_sub]
   exact (u1 y hy).neg
  have l2:((xH (i:Int) bx.length 1).map (λx=>0 - x)).length=n:=by rw [List.length_map]; exact lu
  exact ⟨by rw [List.length_append,l2]; rfl,λx hx=>by rw [List.take_append_of_le_length (by omega),List.take_of_length_le (by omega)] at hx; exact u2 x hx,wj (λx hx=>(u2 x hx).mono h1) (by rw [Int.zero_sub]; exact hb.1.neg)⟩
theorem gw (bx:List (Int × Int)):(wL bx).length=2 * bx.length:=by
 unfold wL
 rw [List.length_flatten]
 have e:(bx.mapIdx (wK bx.length)).map List.length=List.replicate bx.length 2:=by
  refine List.ext_getElem (by simp) λi h1 h2=>?_
  simp [wK]
 rw [e]
 simp
 omega
theorem zPH {n:Nat} {bx:List (Int × Int)} (B:Bx n 280 bx) (n3:n<=3):xi (wL bx) n:=⟨λr hr=>⟨(gv B (by decide) r hr).1,λx hx=>((gv B (by decide) r hr).2.2 x hx).mono⟩,by rw [gw,B.len]; omega⟩
def XE:FL:=λds R=>∃ bx n,ds=[za bx]/\n<=3/\Bx n 280 bx/\∀ ss,uj ss->R (xB ss)
def XF:FL:=λds R=>∃ n bs ms u bx af,ds=[xM n bs ms u,za bx,za af]/\ve n bs ms u/\Bx n 280 bx/\Bx n 280 af/\∀ t,wM t->R (zx t)
def XG (v:List (List (List (Int × List Int)))):Prop:=v.length<=40/\∀ t∈v,wM t
abbrev qB (v:List (List (List (Int × List Int)))):D:=.lst (v.map zx)
theorem xx {α:Type} {f:α->D} {l:List α} {k:Nat} (z:α) (h:k < l.length):ya (l.map f) (k:Int)=some (f (l.getD k z)):=by
 rw [uw]
 unfold ya vJ
 rw [if_pos (by omega),if_pos (by omega)]
 show Option.map f l[((k:Nat):Int).toNat]? = _
 rw [show ((k:Nat):Int).toNat=k by omega,List.getElem?_eq_getElem h,List.getD_eq_getElem?_getD,List.getElem?_eq_getElem h]
 rfl
abbrev wl (rooms:List (List (List Int))) (BK A1 A2 A3:D):D:=.lst [ue rooms,BK,A1,A2,A3]
structure Qi (n:Nat) (rooms:List (List (List Int))):Prop where
 l1:1<=rooms.length
 l4:rooms.length<=4
 rm:∀ r∈rooms,r.length=2 * n/\∀ w∈r,w.length=n + 1/\∀ x∈w,Bd 280 x
def XH:FL:=λds R=>∃ n bs ms u c,ds=[xM n bs ms u,.int c]/\ve n bs ms u/\∀ inner g t rooms back S1 S4 S3,Qd n inner->Qe n g->0<=t->Bd 100 t->Qi n rooms->0<=back->back < (rooms.length:Int)->uj S1->XG S4->S4.length=rooms.length->wM S3->R (.tup [za inner,Rm g,.int t,wl rooms (.int back) (xB S1) (qB S4) (zx S3)])
section
variable {P:Program} {w:World} {K:PySem.W.Frag} {mg:Str->Option Value} {base:Heap}
abbrev Qj:Stmt:=zp 84
theorem Qk:ze ["_law_box_here","_law_some","_law_row"] ["_law_box_here"] (zK Qj):=.a
abbrev Wq:Stmt:=zp 83
theorem Ql:ze ["_law_spec","_law_box_here","_law_after","_law_found","_law_mode_here"] ["_law_spec","_law_box_here","_law_after"] (zK Wq):=.a
abbrev gA:Stmt:=zp 87
theorem uQ:ze ["_law_spec","_law_cell","_law_xs","_law_inner","_law_boxes_here","_law_back","_law_turn","_law_asked","_law_rows_here","_law_after","_law_steps","_law_stays","_law_rooms"] ["_law_spec","_law_cell"] (zK gA):=.a
variable {aClaim aSettles aComes aa ac aPaper aRooms aFalls:Addr} (Cc:Cs K mg aClaim aSettles aComes aa ac aPaper aRooms aFalls)
include Cc
theorem zFu {k:Nat} {f:Addr} {fd:FuncData} (F:zg K "_law_box_starts" "_law_box_starts" Qj f fd) (B:Bl mg) (ap:Fn P w K mg base "_law_rows" ["_law_box_here"] k (zH (Y3))) (ao:Fn P w K mg base "_law_both" ["_law_numbers"] k (zH (Wg))):zF P w K mg base zW (k + 1) f fd ["_law_box_here"] (vL vv (XE)):=by
 refine Ji F Qk (λds R h=>by obtain ⟨bx,n,rfl,_⟩:=h; rfl) λcdv A outer s H E hr=>⟨_,(vZ (vo 1 Qk.nd rfl (Or.inl rfl) zC)
  (vZ (wA PassesOwn.never rfl (ym (zU ap hr rfl (zB (zA 0) zC))) (zo 2 Qk.nd rfl (Or.inl rfl)) (zQ (yI (xy (wG PySem.F.plainAttrs_list PySem.F.slot_list_append PySem.F.type_list_append yb (zZ 1) (zS (wq (zB zE (zB (zU ao hr rfl (zB (xA (zA 2) y8 (y9 (xI zE))) zC)) zC))) zy))) wR)))
  (jR (zKt (zZ 1))))),λds R h=>?_⟩
 obtain ⟨bx,n,rfl,n3,B,q⟩:=h
 have lb:=B.len
 refine ⟨k0,bx,rfl,by omega,?_⟩
 refine ⟨λk Γ=>∃ (ss:List (Int × List Int)) (s2:Sl),Γ=[.sh (za bx),.ow (ss.map zw),s2]/\ss.length=k/\∀ s∈ss,ja s,⟨[],.no,rfl,rfl,λ_ h=>nomatch h⟩,?_,?_⟩
 ·rintro k d Γ' hk ⟨ss,s2,rfl,ls,hs⟩
  obtain ⟨r,hr,rfl⟩:=gn hk
  have kl:=(List.getElem?_eq_some_iff.mp hr).1
  rw [gw] at kl
  obtain ⟨lr,br,_⟩:=gv B (by decide) r (List.mem_of_getElem? hr)
  refine ⟨_,r.take n,rfl,.inr (by rw [wg lr]),by rw [List.length_take]; omega,λx hx=>(br x hx).mono,λys ly hy=>⟨k0,by rw [List.length_map]; omega,ss++[(1,ys)],.sh (U r),by rw [List.map_append]; rfl,by rw [List.length_append,ls]; rfl,wj hs ⟨(Bd.lit (i:=1) (n:=1)).mono,by rw [ly,List.length_take]; omega,λx hx=>(hy x hx).2.mono⟩⟩⟩
 ·rintro Γ' ⟨ss,s2,rfl,ls,hs⟩
  rw [List.length_map,gw] at ls
  exact q ss ⟨by omega,hs⟩
theorem zGJ {k:Nat} {f:Addr} {fd:FuncData} (F:zg K "_law_box_steps" "_law_box_steps" Wq f fd) (B:Bl mg) (ap:Fn P w K mg base "_law_rows" ["_law_box_here"] k (zH (Y3))) (bN:Fn P w K mg base "_law_step_shares" ["_law_spec","_law_mode_here","_law_row","_law_box_here"] k (zH (XB))):zF P w K mg base zW (k + 1) f fd ["_law_spec","_law_box_here","_law_after"] (zH (XF)):=by
 refine yC F Ql (λds R h=>by obtain ⟨n,bs,ms,u,bx,af,rfl,_⟩:=h; rfl) λcdv A outer s H E hr=>⟨_,(zM (vo 3 Ql.nd rfl (Or.inl rfl) zC)
  (zM (wA PassesOwn.never rfl (ym (zN (zA 0) zE (λ_ _=>rfl))) (zo 4 Ql.nd rfl (Or.inr rfl)) (zQ (yI (xy (wG PySem.F.plainAttrs_list PySem.F.slot_list_append PySem.F.type_list_append yb (zZ 3) (zS (yT (own:=["_law_row"]) (caps:=[(0,"_law_spec"),(1,"_law_box_here"),(4,"_law_mode_here")]) (yF (S:=zK Wq) (N:=["_law_spec","_law_box_here","_law_after","_law_found","_law_mode_here"]) rfl (by decide +kernel) rfl ⟨_,rfl⟩ rfl (by decide +kernel) (by decide +kernel)) rfl rfl yH (ym (zU ap hr rfl (zB (zA 2) zC))) (λ_ _ _ _=>(zo 0 (show (["_law_row","_law_spec","_law_box_here","_law_mode_here"]:List Str).Nodup by decide +kernel) rfl (Or.inl rfl))) (λ_ _ _ _=>(zU bN hr rfl (zB (zA 1) (zB (zA 3) (zB (zA 0) (zB (zA 2) zC))))))) zy))) wR)))
  (zQ (wJ 3 (zX (zA 3)))))),λds R h=>?_⟩
 obtain ⟨n,bs,ms,u,bx,af,rfl,T,B,A,q⟩:=h
 have n3:=T.n3
 have m3:=T.m3
 have la:=A.len
 refine ⟨k0,_,rfl,?_⟩
 refine ⟨λk Γ=>∃ (t:List (List (Int × List Int))) (s4:Sl),Γ=[.sh (xM n bs ms u),.sh (za bx),.sh (za af),.ow (t.map xB),s4]/\t.length=k/\∀ ss∈t,uj ss,⟨[],.no,rfl,rfl,λ_ h=>nomatch h⟩,?_,?_⟩
 ·rintro k d Γ' hk ⟨t,s4,rfl,lt,ht⟩
  obtain ⟨m,hm,rfl⟩:=gn hk
  have kl:=(List.getElem?_eq_some_iff.mp hm).1
  refine ⟨af,rfl,by omega,?_⟩
  refine zf.all (λd=>∃ s,d=zw s/\ja s) (by rw [List.length_map,gw]; omega) (λd hd=>?_) λes le he=>?_
  ·obtain ⟨r,hr,rfl⟩:=List.mem_map.mp hd
   obtain ⟨lr,br,_⟩:=gv A (by decide) r hr
   exact ⟨n,bs,ms,u,m,r,bx,280,rfl,T,T.md m (List.mem_of_getElem? hm),lr,λx hx=>(br x hx).mono,by decide,B,λs hs=>⟨s,rfl,hs⟩⟩
  obtain ⟨ss,rfl,hss⟩:=Qh he
  rw [List.length_map,List.length_map,gw] at le
  exact ⟨by rw [List.length_map]; omega,t++[ss],.sh (xk m),by rw [List.map_append]; rfl,by rw [List.length_append,lt]; rfl,wj ht ⟨by omega,hss⟩⟩
 ·rintro Γ' ⟨t,s4,rfl,lt,ht⟩
  rw [List.length_map] at lt
  exact q t ⟨by omega,ht⟩
theorem zJu {k:Nat} {f:Addr} {fd:FuncData} (F:zg K "_law_parts" "_law_parts" gA f fd) (B:Bl mg) (ah:Fn P w K mg base "_law_stream" ["_law_cell","_law_many"] k (zH (gm))) (bO:Fn P w K mg base "_law_boxes" ["_law_spec","_law_cell"] k (zH (zQn))) (bP:Fn P w K mg base "_law_claim_rows" ["_law_spec","_law_boxes_here","_law_cell"] k (zH (XA))) (bQ:Fn P w K mg base "_law_box_steps" ["_law_spec","_law_box_here","_law_after"] k (zH (XF))) (ao:Fn P w K mg base "_law_both" ["_law_numbers"] k (zH (Wg))) (ap:Fn P w K mg base "_law_rows" ["_law_box_here"] k (zH (Y3))) (bS:Fn P w K mg base "_law_box_starts" ["_law_box_here"] k (vL vv (XE))):zF P w K mg base zW (k + 1) f fd ["_law_spec","_law_cell"] (vL Jg (XH)):=by
 refine Ji F uQ (λds R h=>by obtain ⟨n,bs,ms,u,c,rfl,_⟩:=h; rfl) λcdv A outer s H E hr=>⟨_,(vZ (zv 2 uQ.nd rfl (Or.inl rfl) (zU ah hr rfl (zB (zA 1) (zB zE zC))))
  (vZ (qe (zU bO hr rfl (zB (zA 0) (zB (zN (zA 2) zE (λ_ _=>rfl)) zC))) (we rfl (yA 3 uQ.nd rfl (Or.inl rfl) (yA 4 uQ.nd rfl (Or.inr rfl) wd))))
  (vZ (zv 5 uQ.nd rfl (Or.inr rfl) (y4 (zN (zA 2) zE (λ_ _=>rfl)) (zj yP yS rfl B.len_ yQ (zB (zA 4) zC))))
  (qk (zv 6 uQ.nd rfl (Or.inr rfl) (zN (yd (zB zE (zB (y4 (zN (zA 2) zE (λ_ _=>rfl)) zE) (zB (y4 (zN (zA 2) zE (λ_ _=>rfl)) (jK zE zE)) zC)))) (y4 (zN (zA 2) zE (λ_ _=>rfl)) zE) (λ_ _=>rfl)))
  (vZ (zHh 7 false uQ.nd rfl rfl (own:=["_law_k"]) (caps:=[(4,"_law_boxes_here"),(5,"_law_back"),(6,"_law_turn")]) (yF (S:=zK gA) (N:=["_law_spec","_law_cell","_law_xs","_law_inner","_law_boxes_here","_law_back","_law_turn","_law_asked","_law_rows_here","_law_after","_law_steps","_law_stays","_law_rooms"]) rfl (by decide +kernel) rfl ⟨_,rfl⟩ rfl (by decide +kernel) (by decide +kernel)) rfl rfl yH (y3 rfl B.range_ (zB (zj yP yS rfl B.len_ yQ (zB (zA 4) zC)) zC)) (λ_ _ _ _=>(zo 0 (show (["_law_k","_law_boxes_here","_law_back","_law_turn"]:List Str).Nodup by decide +kernel) rfl (Or.inl rfl))) (λ_ _ _ _=>(PW.pt (xg (gY (zA 0) (zA 2)) (wI (gY (zA 0) (zA 3)))))) (λ_ _ _ _=>(zN (zA 1) (zA 0) (λ_ _=>rfl))) rfl)
  (vZ (zv 8 uQ.nd rfl (Or.inr rfl) (zU bP hr rfl (zB (zA 0) (zB (zA 7) (zB (zN (zA 2) zE (λ_ _=>rfl)) zC)))))
  (vZ (zv 9 uQ.nd rfl (Or.inr rfl) (zi (xA (zA 4) (y9 zE) y8) (yd (zB (zN (zA 4) (zA 5) (λ_ _=>rfl)) zC))))
  (vZ (vp 10 true uQ.nd rfl rfl (own:=["_law_k"]) (caps:=[(0,"_law_spec"),(4,"_law_boxes_here"),(9,"_law_after")]) (yF (S:=zK gA) (N:=["_law_spec","_law_cell","_law_xs","_law_inner","_law_boxes_here","_law_back","_law_turn","_law_asked","_law_rows_here","_law_after","_law_steps","_law_stays","_law_rooms"]) rfl (by decide +kernel) rfl ⟨_,rfl⟩ rfl (by decide +kernel) (by decide +kernel)) rfl rfl yH (y3 rfl B.range_ (zB (zj yP yS rfl B.len_ yQ (zB (zA 4) zC)) zC)) (λ_ _ _ _=>(zo 0 (show (["_law_k","_law_spec","_law_boxes_here","_law_after"]:List Str).Nodup by decide +kernel) rfl (Or.inl rfl))) (λ_ _ _ _=>(zU bQ hr rfl (zB (zA 1) (zB (zN (zA 2) (zA 0) (λ_ _=>rfl)) (zB (zN (zA 3) (zA 0) (λ_ _=>rfl)) zC))))) rfl)
  (vZ (vp 11 true uQ.nd rfl rfl (own:=["_law_box_here"]) (caps:=[(8,"_law_rows_here")]) (yF (S:=zK gA) (N:=["_law_spec","_law_cell","_law_xs","_law_inner","_law_boxes_here","_law_back","_law_turn","_law_asked","_law_rows_here","_law_after","_law_steps","_law_stays","_law_rooms"]) rfl (by decide +kernel) rfl ⟨_,rfl⟩ rfl (by decide +kernel) (by decide +kernel)) rfl rfl yH (ym (zA 4)) (λ_ _ _ _=>(zo 0 (show (["_law_box_here","_law_rows_here"]:List Str).Nodup by decide +kernel) rfl (Or.inl rfl))) (λ_ _ _ _=>(yT (own:=["_law_row"]) (caps:=[]) (qO rfl (by decide +kernel) (by decide +kernel) (by decide +kernel) (by decide +kernel)) rfl rfl yH (ym (zA 1)) (λ_ _ _ _=>(zo 0 (show (["_law_row"]:List Str).Nodup by decide +kernel) rfl (Or.inl rfl))) (λ_ _ _ _=>(wq (zB zE (zB (zU ao hr rfl (zB (xA (zA 0) y8 (y9 (xI zE))) zC)) zC)))))) rfl)
  (vZ (vp 12 true uQ.nd rfl rfl (own:=["_law_box_here"]) (caps:=[]) (yF (S:=zK gA) (N:=["_law_spec","_law_cell","_law_xs","_law_inner","_law_boxes_here","_law_back","_law_turn","_law_asked","_law_rows_here","_law_after","_law_steps","_law_stays","_law_rooms"]) rfl (by decide +kernel) rfl ⟨_,rfl⟩ rfl (by decide +kernel) (by decide +kernel)) rfl rfl yH (ym (zA 4)) (λ_ _ _ _=>(zo 0 (show (["_law_box_here"]:List Str).Nodup by decide +kernel) rfl (Or.inl rfl))) (λ_ _ _ _=>(zU ap hr rfl (zB (zA 0) zC))) rfl)
  (jR (zKs (zZ 3) (zZ 8) (zZ 6) (zZ 12) (zZ 5) (zZ 10) (zZ 11) bS hr rfl (zB (zN (zA 4) zE (λ_ _=>rfl)) zC))))))))))))),λds R h=>?_⟩
 obtain ⟨n,bs,ms,u,c,rfl,T,q⟩:=h
 have n3:=T.n3
 refine ⟨c,6,rfl,by decide,λxs lx hx=>?_⟩
 refine xj (by decide) (by omega) λx0 _=>⟨n,bs,ms,u,x0,rfl,T,λinner bxs I1 BB=>?_⟩
 have l1:=BB.l1
 have l4:=BB.l4
 have lbm:(List.map za bxs).length=bxs.length:=List.length_map ..
 refine xj (by decide) (by omega) λx1 _=>⟨by omega,?_⟩
 have mb:=md x1 (show (0:Int) < ((List.map za bxs).length:Int) by omega)
 refine ⟨λΓ=>∃ back t:Int,Γ=[.sh (xM n bs ms u),.sh (.int c),.sh (L xs),.sh (za inner),.sh (.lst (bxs.map za)),.sh (.int back),.sh (.int t),.no,.no,.no,.no,.no,.no]/\0<=back/\back < (bxs.length:Int)/\0<=t/\Bd 100 t,?_,?_⟩
 ·refine xj (by decide) (by omega) λx2 h2=>⟨by decide,xj (by decide) (by omega) λx3 h3=>⟨⟨by decide,by decide,by decide⟩,by decide,k0,xj (by decide) (by omega) λx4 _=>⟨by decide,vH (md _ (by decide)).1 (by have:=md x4 (show (0:Int) < 3 by decide); show x4.fmod 3 < 3; omega) λz hz=>?_⟩⟩⟩
  obtain ⟨t,rfl,t0,bt⟩:∃ t,z=.int t/\0<=t/\Bd 100 t:=by
   simp only [List.mem_cons,List.not_mem_nil,or_false] at hz
   rcases hz with rfl | rfl | rfl
   ·exact ⟨_,rfl,by decide,wu⟩
   ·exact ⟨_,rfl,(md x2 (by decide)).1,(vz (n:=3) Bd.lit (by decide)).mono⟩
   ·exact ⟨_,rfl,(md x3 (by decide)).1,(vz (n:=100) Bd.lit (by decide)).mono⟩
  exact ⟨x1.fmod ((List.map za bxs).length:Int),t,rfl,mb.1,by omega,t0,bt⟩
 rintro Γ' ⟨back,t,rfl,b0,bl,t0,bt⟩
 clear mb
 obtain ⟨bk,rfl⟩:=Int.eq_ofNat_of_zero_le b0
 have bkl:bk < bxs.length:=by omega
 refine ⟨by omega,by omega,?_⟩
 rw [show ((List.length (List.map za bxs):Nat):Int).toNat=bxs.length by omega]
 refine gc.mk (by rw [vU]; omega) (λd=>decide ((bk:Int)<=yB d) || decide (t<=yB d)) (λ_ e=>∃ b∈bxs,e=za b) (λd hd=>?_) (λd hd _=>?_) λes pe=>?_
 ·obtain ⟨j,hj⟩:=List.mem_iff_getElem?.mp hd
  obtain ⟨jl,rfl⟩:=vT hj
  refine w2 (λc=>?_) λc=>?_
  ·show true=(_ || _)
   rw [show decide ((bk:Int)<=yB (.int (j:Int)))=true from c]
   rfl
  ·show _=(_ || _)
   rw [show decide ((bk:Int)<=yB (.int (j:Int)))=false from c]
   rfl
 ·obtain ⟨j,hj⟩:=List.mem_iff_getElem?.mp hd
  obtain ⟨jl,rfl⟩:=vT hj
  exact ⟨_,xx [] jl,_,jb jl,rfl⟩
 obtain ⟨as,rfl,has⟩:∃ as:List (List (Int × Int)),es=as.map za/\∀ b∈as,b∈bxs:=by
  have key:∀ {ds es:List D},Paired (λ_ e=>∃ b∈bxs,e=za b) ds es->∃ as:List (List (Int × Int)),es=as.map za/\∀ b∈as,b∈bxs:=λ{ds es} p=>by
   induction p with
   | nil=>exact ⟨[],rfl,λ_ h=>nomatch h⟩
   | cons h _ ih=>
    obtain ⟨b,hb,rfl⟩:=h
    obtain ⟨as,rfl,ha⟩:=ih
    exact ⟨b :: as,rfl,λy hy=>(List.mem_cons.mp hy).elim (λz=>z ▸ hb) (ha y)⟩
  exact key pe
 have la:=Paired.length pe
 rw [List.length_map] at la
 have la1:1<=as.length:=by
  rw [<- la]
  refine List.length_pos_of_mem (a:=.int ((bxs.length - 1:Nat):Int)) (List.mem_filter.mpr ⟨?_,?_⟩)
  ·exact List.mem_map.mpr ⟨bxs.length - 1,List.mem_range.mpr (by omega),rfl⟩
  ·show (decide ((bk:Int)<=((bxs.length - 1:Nat):Int)) || _)=true
   rw [decide_eq_true (by omega)]
   rfl
 have la4:as.length<=4:=by
  have:=List.length_filter_le (λd=>decide ((bk:Int)<=yB d) || decide (t<=yB d)) (rng0 bxs.length)
  rw [vU] at this
  omega
 refine xj (by decide) (by omega) λx5 _=>⟨n,bs,ms,u,as,x5,rfl,T,⟨la1,la4,λb hb=>BB.bx b (has b hb)⟩,λg G1=>?_⟩
 have laf:(bxs.drop 1++[bxs.getD bk []]).length=bxs.length:=by rw [List.length_append,List.length_drop]; show _ + 1=_; omega
 have haf:∀ b∈bxs.drop 1++[bxs.getD bk []],Bx n 280 b:=λb hb=>by
  rcases List.mem_append.mp hb with hb | hb
  ·exact BB.bx b (List.mem_of_mem_drop hb)
  ·rw [List.mem_singleton.mp hb]; exact BB.bx _ (jb bkl)
 have ef:D.lst (zP (bxs.map za) (some 1) none++[za (bxs.getD bk [])])=.lst ((bxs.drop 1++[bxs.getD bk []]).map za):=by
  rw [gl (by decide),List.map_append,List.map_drop]
  rfl
 refine ⟨_,xx [] bkl,k0,by rw [gl (by decide),List.length_drop,lbm]; show _ + 1<=1000; omega,?_⟩
 rw [ef]
 refine ⟨by omega,by omega,?_⟩
 rw [show ((List.length (List.map za bxs):Nat):Int).toNat=bxs.length by omega]
 refine zf.rng0P (λd=>∃ s,d=zx s/\wM s) (by omega) (λk hk=>⟨_,xx [] hk,_,xx [] (by omega),n,bs,ms,u,_,_,rfl,T,BB.bx _ (jb hk),haf _ (jb (by omega)),λv hv=>⟨v,rfl,hv⟩⟩) λes le he=>?_
 obtain ⟨S4,rfl,h4⟩:=zNr he
 rw [List.length_map] at le
 have l3:=G1.l3
 refine zf.all (λd=>∃ s,d=xB s/\uj s) (by omega) (λd hd=>?_) λes le3 he3=>?_
 ·refine zf.all (λd=>∃ s,d=zw s/\ja s) (by rw [List.length_map]; omega) (λd hd=>?_) λes le he=>?_
  ·obtain ⟨r,hr,rfl⟩:=List.mem_map.mp hd
   obtain ⟨lr,br,_⟩:=G1.row r hr
   exact ⟨_,r.take n,rfl,.inr (by rw [wg lr]),by rw [List.length_take]; omega,λx hx=>(br x hx).mono,λys ly hy=>⟨k0,(1,ys),rfl,⟨(Bd.lit (i:=1) (n:=1)).mono,by rw [ly,List.length_take]; omega,λx hx=>(hy x hx).2.mono⟩⟩⟩
  ·obtain ⟨ss,rfl,hss⟩:=Qh he
   rw [List.length_map,List.length_map] at le
   exact ⟨ss,rfl,by omega,hss⟩
 obtain ⟨S3,rfl,h3⟩:=zPd he3
 rw [List.length_map,lbm] at le3
 refine vG za Qf zHY (λb=>Rm (wL b)) (by omega) (λb hb=>⟨b,rfl,by rw [(BB.bx b hb).len]; omega,rfl⟩) ?_
 refine ⟨by decide,by decide,by decide,_,xx (k:=0) [] (by omega),_,n,rfl,n3,BB.bx _ (jb (by omega)),λS1 h1=>?_⟩
 have:=q inner g t (bxs.map wL) (bk:Int) S1 S4 S3 I1 G1 t0 bt ⟨by rw [List.length_map]; omega,by rw [List.length_map]; omega,λr hr=>?_⟩ b0 (by rw [List.length_map]; exact bl) h1 ⟨by omega,h4⟩ (by rw [List.length_map]; omega) ⟨by omega,h3⟩
 ·unfold wl ue at this
  rw [List.map_map] at this
  exact this
 ·obtain ⟨b,hb,rfl⟩:=List.mem_map.mp hr
  have B:=BB.bx b hb
  exact ⟨by rw [gw,B.len],λw hw=>⟨(gv B (by decide) w hw).1,(gv B (by decide) w hw).2.2⟩⟩
end
theorem gz {α:Type} {xs:List α} {lo hi:Option Int} {x:α} (h:x∈zP xs lo hi):x∈xs:=List.mem_of_mem_drop (List.mem_of_mem_take h)
theorem uk {α:Type} {xs:List α} {lo hi:Option Int}:(zP xs lo hi).length<=xs.length:=by
 unfold zP
 rw [List.length_take,List.length_drop]
 omega
def Sy (y:D):Prop:=(∃ i,y=.int i/\Bd 1000 i)\/y=.bool true
theorem gB {o:Int} {ys:List D} (bo:Bd 1000 o) (l:ys.length<=900) (h:∀ y∈ys,Sy y):Fw 3 (.tup [.int o,.lst ys])/\j5 (.tup [.int o,.lst ys]):=by
 refine ⟨.tup (by show 2<=900; decide) λd hd=>?_,λo' ys' e=>?_⟩
 ·rcases List.mem_cons.mp hd with rfl | hd
  ·exact .int _
  ·rw [List.mem_singleton.mp hd]
   refine .lst l λy hy=>?_
   rcases h y hy with ⟨i,rfl,_⟩ | rfl
   ·exact .int i
   ·exact .bool _
 ·cases e
  refine ⟨bo,λy hy=>?_⟩
  rcases h y hy with ⟨i,rfl,b⟩ | rfl
  ·exact b
  ·exact wu
theorem zNt {s:Int × List Int} (h:ja s):Fw 3 (zw s)/\j5 (zw s):=gB (h.o.mono) (by rw [List.length_map]; have:=h.l; omega) λy hy=>by
 obtain ⟨i,hi,rfl⟩:=List.mem_map.mp hy
 exact .inl ⟨i,rfl,(h.b i hi).mono⟩
theorem Wr {k:Nat} {as:List D} (l:as.length<=900) (h:∀ a∈as,Fw 3 a/\j5 a):Fw (k + 4) (.lst as)/\xD (.lst as):=⟨.lst l λa ha=>(h a ha).1.mono (by omega),λas' e=>by cases e; exact λa ha=>(h a ha).2⟩
theorem Ws {k:Nat} {ss:List (Int × List Int)} (h:uj ss):Fw (k + 4) (xB ss)/\xD (xB ss):=Wr (by rw [List.length_map]; have:=h.1; omega) λa ha=>by
 obtain ⟨s,hs,rfl⟩:=List.mem_map.mp ha
 exact zNt (h.2 s hs)
theorem Qm {as:List D} (l:as.length<=900) (h:∀ a∈as,Fw 4 a/\xD a):Fw 5 (.lst as)/\xE (.lst as):=⟨.lst l λa ha=>(h a ha).1,λas' e=>by cases e; exact λa ha=>(h a ha).2⟩
theorem Wt {t:List (List (Int × List Int))} (h:wM t):Fw 5 (zx t)/\xE (zx t):=Qm (by rw [List.length_map]; have:=h.1; omega) λa ha=>by
 obtain ⟨s,hs,rfl⟩:=List.mem_map.mp ha
 exact Ws (k:=0) (h.2 s hs)
def zLq:FL:=λds R=>∃ o ns c,ds=[.tup [.int o,L ns],.int c]/\ja (o,ns)/\∀ d,Fw 3 d->j5 d->R d
theorem zPx (n:Nat) (s:Int × List Int):(zw s).pl (n + 4)=true:=by
 show ([D.int s.1,L s.2].all (D.pl (n + 3)))=true
 rw [List.all_cons,List.all_cons,List.all_nil,Bool.and_true]
 exact Bool.and_eq_true_iff.mpr ⟨rfl,gU (n + 1) s.2⟩
theorem zPv (n:Nat) (ss:List (Int × List Int)):(xB ss).pl (n + 5)=true:=List.all_eq_true.mpr λd m=>by
 obtain ⟨s,_,rfl⟩:=List.mem_map.mp m
 exact zPx n s
theorem zNz (n:Nat) (t:List (List (Int × List Int))):(zx t).pl (n + 6)=true:=List.all_eq_true.mpr λd m=>by
 obtain ⟨s,_,rfl⟩:=List.mem_map.mp m
 exact zPv n s
theorem gC {e:Nat} {i:Int} (h:Bd 210 i) (k:211<=e):Bd e (i + 1)/\Bd e (i - 1):=⟨(h.add ((Bd.lit (i:=1) (n:=1)).mono)).mono k,(h.sub ((Bd.lit (i:=1) (n:=1)).mono)).mono k⟩
theorem Qn {as:List D} (l:as.length<=900) (h:∀ a∈as,Fw 5 a/\xE a):Fw 6 (.lst as)/\ug (.lst as):=⟨.lst l λa ha=>(h a ha).1,λas' e=>by cases e; exact λa ha=>(h a ha).2⟩
theorem Qo {v:List (List (List (Int × List Int)))} (h:XG v):Fw 6 (qB v)/\ug (qB v):=Qn (by rw [List.length_map]; have:=h.1; omega) λa ha=>by
 obtain ⟨s,hs,rfl⟩:=List.mem_map.mp ha
 exact Wt (h.2 s hs)
theorem XI (n:Nat) (v:List (List (List (Int × List Int)))):(qB v).pl (n + 7)=true:=List.all_eq_true.mpr λd m=>by
 obtain ⟨s,_,rfl⟩:=List.mem_map.mp m
 exact zNz n s
def je:Nat->FL
 | 0=>λ_ _=>False
 | j + 1=>λds R=>∃ d c,ds=[d,.int c]/\((∃ ss,d=xB ss/\uj ss/\∀ es,Fw 4 (.lst es)->xD (.lst es)->R (.lst es))\/(1<=j/\∃ t,d=zx t/\wM t/\∀ es,Fw 5 (.lst es)->xE (.lst es)->R (.lst es))\/(2<=j/\∃ v,d=qB v/\XG v/\∀ es,Fw 6 (.lst es)->ug (.lst es)->R (.lst es)))
section
variable {P:Program} {w:World} {K:PySem.W.Frag} {mg:Str->Option Value} {base:Heap}
abbrev Qp:Stmt:=zp 96
theorem kA:ze ["_law_shares","_law_cell","_law_often","_law_numbers","_law_way","_law_at","_law_other_here"] ["_law_shares","_law_cell"] (zK Qp):=.a
abbrev Qq:Stmt:=zp 97
theorem Qr:ze ["_law_some","_law_cell","_law_at"] ["_law_some","_law_cell"] (zK Qq):=.a
variable {aClaim aSettles aComes aa ac aPaper aRooms aFalls:Addr} (Cc:Cs K mg aClaim aSettles aComes aa ac aPaper aRooms aFalls)
include Cc
theorem zJv {k:Nat} {f:Addr} {fd:FuncData} (F:zg K "_law_other" "_law_other" Qp f fd) (B:Bl mg):zF P w K mg base zW (k + 1) f fd ["_law_shares","_law_cell"] (zH (zLq)):=by
 refine yC F kA (λds R h=>by obtain ⟨o,ns,c,rfl,_⟩:=h; rfl) λcdv A outer s H E hr=>⟨_,(zM (qe (zA 0) (we rfl (yA 2 kA.nd rfl (Or.inl rfl) (yA 3 kA.nd rfl (Or.inl rfl) wd))))
  (zM (zv 4 kA.nd rfl (Or.inl rfl) (y4 (zA 1) zE))
  (zM (yL (PW.pt (xg (wp hr.units (zA 4) zE) (wI (wp hr.units (zA 3) (yd zC))))) (zQ (zX (wq (zB (zi (zA 2) (zN (yd (zB zE (zB (xI zE) zC))) (y4 (wa (zA 1) zE) zE) (λ_ _=>rfl))) (zB (zA 3) zC))))) yK)
  (zM (zv 5 kA.nd rfl (Or.inl rfl) (y4 (wa (zA 1) zE) (zj yP yS rfl B.len_ yQ (zB (zA 3) zC))))
  (zM (zv 6 kA.nd rfl (Or.inl rfl) (zN (yd (zB (zi (zN (zA 3) (zA 5) (λ_ _=>rfl)) zE) (zB (xr (zN (zA 3) (zA 5) (λ_ _=>rfl)) zE) (zB yu (zB (zi (zN (zA 3) (zA 5) (λ_ _=>rfl)) zE) zC))))) (xr (zA 4) zE) (λ_ _=>rfl)))
  (zQ (zX (wq (zB (zA 2) (zB (zi (zi (xA (zA 3) y8 (y9 (zA 5))) (yd (zB (zA 6) zC))) (xA (zA 3) (y9 (zi (zA 5) zE)) y8)) zC)))))))))),λds R h=>?_⟩
 obtain ⟨o,ns,c,rfl,h,q⟩:=h
 have hl:ns.length<=100:=h.l
 refine ⟨by decide,w2 (λc1=>wT rfl ?_) λc1=>⟨k0,ud _,rfl,w2 (λc2=>?_) λc2=>?_⟩⟩
 ·exact ⟨k0,by decide,(Bd.lit (i:=5) (n:=3)).mono,by decide,vH (md _ (by decide)).1 (by have:=md (c.fdiv 5) (show (0:Int) < 2 by decide); show (c.fdiv 5).fmod 2 < 2; omega) λz hz=>by
   obtain ⟨w,rfl,bw⟩:vC (Bd 2) z:=by
    simp only [List.mem_cons,List.not_mem_nil,or_false] at hz
    rcases hz with rfl | rfl <;> exact ⟨_,rfl,Bd.lit⟩
   have:=gB (o:=o + w) (ys:=ns.map D.int) ((h.o.add bw.mono).mono) (by rw [List.length_map]; have:=h.l; omega) (λy hy=>by
    obtain ⟨i,hi,rfl⟩:=List.mem_map.mp hy
    exact .inl ⟨i,rfl,(h.b i hi).mono⟩)
   exact ⟨k0,q _ this.1 this.2⟩⟩
 ·exact ⟨k0,by decide,(Bd.lit (i:=5) (n:=3)).mono,by decide,vH (md _ (by decide)).1 (by have:=md (c.fdiv 5) (show (0:Int) < 2 by decide); show (c.fdiv 5).fmod 2 < 2; omega) λz hz=>by
   obtain ⟨w,rfl,bw⟩:vC (Bd 2) z:=by
    simp only [List.mem_cons,List.not_mem_nil,or_false] at hz
    rcases hz with rfl | rfl <;> exact ⟨_,rfl,Bd.lit⟩
   have:=gB (o:=o + w) (ys:=ns.map D.int) ((h.o.add bw.mono).mono) (by rw [List.length_map]; have:=h.l; omega) (λy hy=>by
    obtain ⟨i,hi,rfl⟩:=List.mem_map.mp hy
    exact .inl ⟨i,rfl,(h.b i hi).mono⟩)
   exact ⟨k0,q _ this.1 this.2⟩⟩
 rw [Zd] at c2
 have hn:1<=ns.length:=by
  cases ns with
  | nil=>cases c2
  | cons=>exact Nat.succ_le_succ (Nat.zero_le _)
 have lm:(List.map D.int ns).length=ns.length:=List.length_map ..
 have m5:=md c (show (0:Int) < 5 by decide)
 have c1':=of_decide_eq_false c1
 refine ⟨by decide,(Bd.lit (i:=10) (n:=4)).mono,by omega,?_⟩
 have mat:=md (c.fdiv 10) (show (0:Int) < ((List.map D.int ns).length:Int) by omega)
 refine xj mat.1 (by omega) λx1 h1=>xj mat.1 (by omega) λx2 h2=>xj mat.1 (by omega) λx3 h3=>⟨k0,vH (by omega) (by show c.fmod 5 - 1 < 4; omega) λz hz=>?_⟩
 have hz':Sy z:=by
  simp only [List.mem_cons,List.not_mem_nil,or_false] at hz
  rcases hz with rfl | rfl | rfl | rfl
  ·exact .inl ⟨_,rfl,(gC (h.b x1 h1) (by decide)).1⟩
  ·exact .inl ⟨_,rfl,(gC (h.b x2 h2) (by decide)).2⟩
  ·exact .inr rfl
  ·exact .inl ⟨_,rfl,(gC (h.b x3 h3) (by decide)).1⟩
 have l1:=uk (xs:=ns.map D.int) (lo:=none) (hi:=some ((c.fdiv 10).fmod ((List.map D.int ns).length:Int)))
 have l2:=uk (xs:=ns.map D.int) (lo:=some ((c.fdiv 10).fmod ((List.map D.int ns).length:Int) + 1)) (hi:=none)
 refine ⟨k0,by show _ + 1<=1000; omega,by rw [List.length_append]; show _ + 1 + _<=1000; omega,k0,?_⟩
 have K:=gB (o:=o) (ys:=zP (ns.map D.int) none (some ((c.fdiv 10).fmod ((List.map D.int ns).length:Int)))++[z]++zP (ns.map D.int) (some ((c.fdiv 10).fmod ((List.map D.int ns).length:Int) + 1)) none) (h.o.mono) (by rw [List.length_append,List.length_append]; show _ + 1 + _<=900; omega) (λy hy=>by
  have cm:∀ {lo hi:Option Int},y∈zP (ns.map D.int) lo hi->Sy y:=λhy=>by
   obtain ⟨i,hi,rfl⟩:=List.mem_map.mp (gz hy)
   exact .inl ⟨i,rfl,(h.b i hi).mono⟩
  rcases List.mem_append.mp hy with hy | hy
  ·rcases List.mem_append.mp hy with hy | hy
   ·exact cm hy
   ·rw [List.mem_singleton.mp hy]; exact hz'
  ·exact cm hy)
 exact q _ K.1 K.2
theorem Qs {k:Nat} {f:Addr} {fd:FuncData} {j:Nat} (F:zg K "_law_changed" "_law_changed" Qq f fd) (B:Bl mg) (bT:Fn P w K mg base "_law_other" ["_law_shares","_law_cell"] k (zH (zLq))) (aw:Fn P w K mg base "_law_changed" ["_law_some","_law_cell"] k (vL vv (je j))):zF P w K mg base zW (k + 1) f fd ["_law_some","_law_cell"] (vL vv (je (j + 1))):=by
 refine Ji F Qr (λds R h=>by obtain ⟨d,c,rfl,_⟩:=h; rfl) λcdv A outer s H E hr=>⟨_,(YX (wp hr.units (zA 0) (yd zC)) (jR (zKu (zB (wq (zB zE (zB (yd zC) zC))) zC)))
  (vZ (zv 2 Qr.nd rfl (Or.inl rfl) (y4 (zA 1) (zj yP yS rfl B.len_ yQ (zB (zA 0) zC))))
  (vZ (zv 1 Qr.nd rfl (Or.inl rfl) (wa (zA 1) (zj yP yS rfl B.len_ yQ (zB (zA 0) zC))))
  (YX (yU (yO (xQ wQ rfl B.isinstance_ xZ (zS (zN (zA 0) (zA 2) (λ_ _=>rfl)) (zS (wC (v:=.ty "tuple") (u:=.type "tuple") rfl B.tuple_ vP rfl) zy))) (wf YD))) (YX (wp hr.units (y4 (zA 1) zE) zE) (jR (YZ (xA (zA 0) y8 (y9 (zA 2))) (xA (zA 0) (y9 (zi (zA 2) zE)) y8)))
   (jR (YZ (zi (xA (zA 0) y8 (y9 (zA 2))) (yd (zB (zU bT hr rfl (zB (zN (zA 0) (zA 2) (λ_ _=>rfl)) (zB (wa (zA 1) zE) zC))) zC))) (xA (zA 0) (y9 (zi (zA 2) zE)) y8))))
  (YX (wp hr.units (y4 (zA 1) zE) zE) (jR (YZ (zi (xA (zA 0) y8 (y9 (zA 2))) (yd (zB ZX zC))) (xA (zA 0) (y9 (zi (zA 2) zE)) y8)))
  (YX (wp hr.units (y4 (zA 1) zE) zE) (jR (YZ (xA (zA 0) y8 (y9 (zA 2))) (xA (zA 0) (y9 (zi (zA 2) zE)) y8)))
  (jR (YZ (zi (xA (zA 0) y8 (y9 (zA 2))) (yd (zB (zU (Yi aw) hr rfl (zB (zN (zA 0) (zA 2) (λ_ _=>rfl)) (zB (wa (zA 1) zE) zC))) zC))) (xA (zA 0) (y9 (zi (zA 2) zE)) y8))))))))),λds R h=>?_⟩
 obtain ⟨d,c,rfl,h⟩:=h
 rcases h with ⟨ss,rfl,hs,q⟩ | ⟨j1,t,rfl,ht,q⟩ | ⟨j1,t,rfl,ht,q⟩
 ·have ls:=hs.1
  have lm:(List.map zw ss).length=ss.length:=List.length_map ..
  refine ⟨k0,zPv 45 ss,rfl,w2 (λc1=>⟨k0,k0,k0,?_⟩) λc1=>?_⟩
  ·have K:=Wr (k:=0) (as:=[.tup [.int 1,.lst []]]) (by show 1<=900; decide) (λa ha=>by rw [List.mem_singleton.mp ha]; exact gB ((Bd.lit (i:=1) (n:=1)).mono) (by decide) (λ_ h=>nomatch h))
   exact q _ K.1 K.2
  rw [Zd] at c1
  have hn:1<=ss.length:=by
   cases ss with
   | nil=>cases c1
   | cons=>exact Nat.succ_le_succ (Nat.zero_le _)
  have mat:=md c (show (0:Int) < ((List.map zw ss).length:Int) by omega)
  have keep:∀ {lo hi:Option Int} {a:D},a∈zP (ss.map zw) lo hi->Fw 3 a/\j5 a:=λha=>by
   obtain ⟨s,hs',rfl⟩:=List.mem_map.mp (gz ha)
   exact zNt (hs.2 s hs')
  have cl:∀ {lo hi:Option Int},(zP (ss.map zw) lo hi).length<=40:=λ{lo hi}=>by have:=uk (xs:=ss.map zw) (lo:=lo) (hi:=hi); omega
  refine ⟨by omega,by omega,Bd.mono (n:=10) (uG (f:=1000) (by decide) (by omega) (by omega)) (by decide),vH mat.1 (by omega) λx hx=>?_⟩
  obtain ⟨s,hs',rfl⟩:=List.mem_map.mp hx
  refine ⟨rfl,wT rfl ⟨by decide,w2 (λc2=>?_) λc2=>?_⟩⟩
  ·refine ⟨?_,?_⟩
   ·have:=cl (lo:=none) (hi:=some (c.fmod ((List.map zw ss).length:Int)))
    have:=cl (lo:=some (c.fmod ((List.map zw ss).length:Int) + 1)) (hi:=none)
    omega
   ·have K:=Wr (k:=0) (as:=zP (ss.map zw) none (some (c.fmod ((List.map zw ss).length:Int)))++zP (ss.map zw) (some (c.fmod ((List.map zw ss).length:Int) + 1)) none) (by
     have:=cl (lo:=none) (hi:=some (c.fmod ((List.map zw ss).length:Int)))
     have:=cl (lo:=some (c.fmod ((List.map zw ss).length:Int) + 1)) (hi:=none)
     rw [List.length_append]
     omega) (λa ha=>(List.mem_append.mp ha).elim keep keep)
    exact q _ K.1 K.2
  ·refine vH mat.1 (by omega) λy hy=>?_
   obtain ⟨s2,hs2,rfl⟩:=List.mem_map.mp hy
   refine ⟨by decide,(Bd.lit (i:=3) (n:=2)).mono,s2.1,s2.2,_,rfl,hs.2 s2 hs2,λz fz bz=>⟨k0,?_,?_,?_⟩⟩
   ·have:=cl (lo:=none) (hi:=some (c.fmod ((List.map zw ss).length:Int)))
    show _ + 1<=1000
    omega
   ·have:=cl (lo:=none) (hi:=some (c.fmod ((List.map zw ss).length:Int)))
    have:=cl (lo:=some (c.fmod ((List.map zw ss).length:Int) + 1)) (hi:=none)
    rw [List.length_append]
    show _ + 1 + _<=1000
    omega
   ·have K:=Wr (k:=0) (as:=zP (ss.map zw) none (some (c.fmod ((List.map zw ss).length:Int)))++[z]++zP (ss.map zw) (some (c.fmod ((List.map zw ss).length:Int) + 1)) none) (by
     have:=cl (lo:=none) (hi:=some (c.fmod ((List.map zw ss).length:Int)))
     have:=cl (lo:=some (c.fmod ((List.map zw ss).length:Int) + 1)) (hi:=none)
     rw [List.length_append,List.length_append]
     show _ + 1 + _<=900
     omega) (λa ha=>by
     rcases List.mem_append.mp ha with ha | ha
     ·rcases List.mem_append.mp ha with ha | ha
      ·exact keep ha
      ·rw [List.mem_singleton.mp ha]; exact ⟨fz,bz⟩
     ·exact keep ha)
    exact q _ K.1 K.2
 ·have ls:=ht.1
  have lm:(List.map xB t).length=t.length:=List.length_map ..
  refine ⟨k0,zNz 44 t,rfl,w2 (λc1=>⟨k0,k0,k0,?_⟩) λc1=>?_⟩
  ·refine q _ (.lst (by show 1<=900; decide) λa ha=>?_) λas e=>?_
   ·rw [List.mem_singleton.mp ha]
    exact (gB (o:=1) (ys:=[]) ((Bd.lit (i:=1) (n:=1)).mono) (by decide) (λ_ h=>nomatch h)).1.mono
   ·cases e
    exact λa ha as e=>by rw [List.mem_singleton.mp ha] at e; cases e
  rw [Zd] at c1
  have hn:1<=t.length:=by
   cases t with
   | nil=>cases c1
   | cons=>exact Nat.succ_le_succ (Nat.zero_le _)
  have mat:=md c (show (0:Int) < ((List.map xB t).length:Int) by omega)
  have keep:∀ {lo hi:Option Int} {a:D},a∈zP (t.map xB) lo hi->Fw 4 a/\xD a:=λha=>by
   obtain ⟨s,hs',rfl⟩:=List.mem_map.mp (gz ha)
   exact Ws (k:=0) (ht.2 s hs')
  have cl:∀ {lo hi:Option Int},(zP (t.map xB) lo hi).length<=40:=λ{lo hi}=>by have:=uk (xs:=t.map xB) (lo:=lo) (hi:=hi); omega
  have c1l:=cl (lo:=none) (hi:=some (c.fmod ((List.map xB t).length:Int)))
  have c2l:=cl (lo:=some (c.fmod ((List.map xB t).length:Int) + 1)) (hi:=none)
  have put:∀ z:D,Fw 4 z->xD z->R (.lst (zP (t.map xB) none (some (c.fmod ((List.map xB t).length:Int)))++[z]++zP (t.map xB) (some (c.fmod ((List.map xB t).length:Int) + 1)) none)):=λz fz az=>by
   have K:=Qm (as:=zP (t.map xB) none (some (c.fmod ((List.map xB t).length:Int)))++[z]++zP (t.map xB) (some (c.fmod ((List.map xB t).length:Int) + 1)) none) (by
    rw [List.length_append,List.length_append]
    show _ + 1 + _<=900
    omega) (λa ha=>by
    rcases List.mem_append.mp ha with ha | ha
    ·rcases List.mem_append.mp ha with ha | ha
     ·exact keep ha
     ·rw [List.mem_singleton.mp ha]; exact ⟨fz,az⟩
    ·exact keep ha)
   exact q _ K.1 K.2
  refine ⟨by omega,by omega,Bd.mono (n:=10) (uG (f:=1000) (by decide) (by omega) (by omega)) (by decide),vH mat.1 (by omega) λx hx=>?_⟩
  obtain ⟨s,hs',rfl⟩:=List.mem_map.mp hx
  refine ⟨rfl,wF rfl ⟨by decide,w2 (λc2=>⟨k0,by show _ + 1<=1000; omega,by rw [List.length_append]; show _ + 1 + _<=1000; omega,put .non .non (λ_ e=>by cases e)⟩) λc2=>⟨by decide,w2 (λc3=>⟨by omega,?_⟩) λc3=>?_⟩⟩⟩
  ·have K:=Qm (as:=zP (t.map xB) none (some (c.fmod ((List.map xB t).length:Int)))++zP (t.map xB) (some (c.fmod ((List.map xB t).length:Int) + 1)) none) (by rw [List.length_append]; omega) (λa ha=>(List.mem_append.mp ha).elim keep keep)
   exact q _ K.1 K.2
  ·refine vH mat.1 (by omega) λy hy=>?_
   obtain ⟨s2,hs2,rfl⟩:=List.mem_map.mp hy
   obtain ⟨j',rfl⟩:∃ j',j=j' + 1:=⟨j - 1,by omega⟩
   exact ⟨by decide,(Bd.lit (i:=7) (n:=3)).mono,_,_,rfl,.inl ⟨s2,rfl,ht.2 s2 hs2,λz fz az=>⟨k0,by show _ + 1<=1000; omega,by rw [List.length_append]; show _ + 1 + _<=1000; omega,put _ fz az⟩⟩⟩
 ·have ls:=ht.1
  have lm:(List.map zx t).length=t.length:=List.length_map ..
  refine ⟨k0,XI 43 t,rfl,w2 (λc1=>⟨k0,k0,k0,?_⟩) λc1=>?_⟩
  ·refine q _ (.lst (by show 1<=900; decide) λa ha=>?_) λas e=>?_
   ·rw [List.mem_singleton.mp ha]
    exact (gB (o:=1) (ys:=[]) ((Bd.lit (i:=1) (n:=1)).mono) (by decide) (λ_ h=>nomatch h)).1.mono
   ·cases e
    exact λa ha as e=>by rw [List.mem_singleton.mp ha] at e; cases e
  rw [Zd] at c1
  have hn:1<=t.length:=by
   cases t with
   | nil=>cases c1
   | cons=>exact Nat.succ_le_succ (Nat.zero_le _)
  have mat:=md c (show (0:Int) < ((List.map zx t).length:Int) by omega)
  have keep:∀ {lo hi:Option Int} {a:D},a∈zP (t.map zx) lo hi->Fw 5 a/\xE a:=λha=>by
   obtain ⟨s,hs',rfl⟩:=List.mem_map.mp (gz ha)
   exact Wt (ht.2 s hs')
  have cl:∀ {lo hi:Option Int},(zP (t.map zx) lo hi).length<=40:=λ{lo hi}=>by have:=uk (xs:=t.map zx) (lo:=lo) (hi:=hi); omega
  have c1l:=cl (lo:=none) (hi:=some (c.fmod ((List.map zx t).length:Int)))
  have c2l:=cl (lo:=some (c.fmod ((List.map zx t).length:Int) + 1)) (hi:=none)
  have put:∀ z:D,Fw 5 z->xE z->R (.lst (zP (t.map zx) none (some (c.fmod ((List.map zx t).length:Int)))++[z]++zP (t.map zx) (some (c.fmod ((List.map zx t).length:Int) + 1)) none)):=λz fz az=>by
   have K:=Qn (as:=zP (t.map zx) none (some (c.fmod ((List.map zx t).length:Int)))++[z]++zP (t.map zx) (some (c.fmod ((List.map zx t).length:Int) + 1)) none) (by
    rw [List.length_append,List.length_append]
    show _ + 1 + _<=900
    omega) (λa ha=>by
    rcases List.mem_append.mp ha with ha | ha
    ·rcases List.mem_append.mp ha with ha | ha
     ·exact keep ha
     ·rw [List.mem_singleton.mp ha]; exact ⟨fz,az⟩
    ·exact keep ha)
   exact q _ K.1 K.2
  refine ⟨by omega,by omega,Bd.mono (n:=10) (uG (f:=1000) (by decide) (by omega) (by omega)) (by decide),vH mat.1 (by omega) λx hx=>?_⟩
  obtain ⟨s,hs',rfl⟩:=List.mem_map.mp hx
  refine ⟨rfl,wF rfl ⟨by decide,w2 (λc2=>⟨k0,by show _ + 1<=1000; omega,by rw [List.length_append]; show _ + 1 + _<=1000; omega,put .non .non (λ_ e=>by cases e)⟩) λc2=>⟨by decide,w2 (λc3=>⟨by omega,?_⟩) λc3=>?_⟩⟩⟩
  ·have K:=Qn (as:=zP (t.map zx) none (some (c.fmod ((List.map zx t).length:Int)))++zP (t.map zx) (some (c.fmod ((List.map zx t).length:Int) + 1)) none) (by rw [List.length_append]; omega) (λa ha=>(List.mem_append.mp ha).elim keep keep)
   exact q _ K.1 K.2
  ·refine vH mat.1 (by omega) λy hy=>?_
   obtain ⟨s2,hs2,rfl⟩:=List.mem_map.mp hy
   obtain ⟨j',rfl⟩:∃ j',j=j' + 1:=⟨j - 1,by omega⟩
   exact ⟨by decide,(Bd.lit (i:=7) (n:=3)).mono,_,_,rfl,.inr (.inl ⟨by omega,s2,rfl,ht.2 s2 hs2,λz fz az=>⟨k0,by show _ + 1<=1000; omega,by rw [List.length_append]; show _ + 1 + _<=1000; omega,put _ fz az⟩⟩)⟩
end
theorem zL5 {α β:Type} (f:α->β) (xs:List α) (lo hi:Option Int):zP (xs.map f) lo hi=(zP xs lo hi).map f:=by
 unfold zP
 rw [List.length_map,List.map_take,List.map_drop]
theorem Ud {α:Type} {f:α->D} {xs:List α} {y:α} {lo hi:Option Int}:zP (xs.map f) none lo++[f y]++zP (xs.map f) hi none=(zP xs none lo++[y]++zP xs hi none).map f:=by
 rw [List.map_append,List.map_append,zL5,zL5]
 rfl
theorem zKq {α:Type} {P:α->Prop} {xs:List α} {y:α} {lo hi:Option Int} (h:∀ x∈xs,P x) (hy:P y):∀ x∈zP xs none lo++[y]++zP xs hi none,P x:=λx hx=>by
 rcases List.mem_append.mp hx with hx | hx
 ·rcases List.mem_append.mp hx with hx | hx
  ·exact h x (gz hx)
  ·rw [List.mem_singleton.mp hx]; exact hy
 ·exact h x (gz hx)
theorem zKn {α:Type} {xs:List α} {y:α} {lo hi:Option Int}:(zP xs none lo++[y]++zP xs hi none).length<=2 * xs.length + 1:=by
 have h1:=uk (xs:=xs) (lo:=none) (hi:=lo)
 have h2:=uk (xs:=xs) (lo:=hi) (hi:=none)
 rw [List.length_append,List.length_append]
 show _ + 1 + _<=_
 omega
theorem Qt {d0 d2 d3 d4 e0 e2 e3 e4:List D} {db eb:D} {c c':Int} (e:[xW d0 db d2 d3 d4,D.int c]=[xW e0 eb e2 e3 e4,D.int c']):d0=e0/\db=eb/\d2=e2/\d3=e3/\d4=e4/\c=c':=by
 cases e
 exact ⟨rfl,rfl,rfl,rfl,rfl,rfl⟩
def XJ:FL:=λds R=>∃ n rooms back S1 S4 S3 c,ds=[wl rooms (.int back) (xB S1) (qB S4) (zx S3),.int c]/\1<=n/\n<=3/\Qi n rooms/\uj S1/\XG S4/\S4.length=rooms.length/\wM S3/\∀ rm BK A1 A2 A3,jX n rm->Y0 BK=true->Fw 6 (.lst A1)->Fw 6 (.lst A2)->Fw 6 (.lst A3)->xD (.lst A1)->ug (.lst A2)->xE (.lst A3)->R (wl rm BK (.lst A1) (.lst A2) (.lst A3))
section
variable {P:Program} {w:World} {K:PySem.W.Frag} {mg:Str->Option Value} {base:Heap}
abbrev Qu:Stmt:=zp 98
theorem wm:ze ["_law_parts_here","_law_cell","_law_rooms","_law_back","_law_starts","_law_steps","_law_stays","_law_way","_law_at","_law_k","_law_row","_law_other_here"] ["_law_parts_here","_law_cell"] (zK Qu):=.a
variable {aClaim aSettles aComes aa ac aPaper aRooms aFalls:Addr} (Cc:Cs K mg aClaim aSettles aComes aa ac aPaper aRooms aFalls)
include Cc
theorem zIV {k:Nat} {f:Addr} {fd:FuncData} (F:zg K "_law_spoilt" "_law_spoilt" Qu f fd) (B:Bl mg) (aw:Fn P w K mg base "_law_changed" ["_law_some","_law_cell"] k (vL vv (je 3))):zF P w K mg base zW (k + 1) f fd ["_law_parts_here","_law_cell"] (Jj (XJ)):=by
 refine okS F wm rfl _ rfl λcdv A outer s H E hr=>⟨_,(wD (UF (zZ 0) (zN1 rfl (uo (vh (i:=2) wm.nd rfl (Or.inl rfl)) (uo (vh (i:=3) wm.nd rfl (Or.inl rfl)) (uo (vh (i:=4) wm.nd rfl (Or.inl rfl)) (uo (vh (i:=5) wm.nd rfl (Or.inl rfl)) (uo (vh (i:=6) wm.nd rfl (Or.inl rfl)) UD)))))))
  (vZ (zv 7 wm.nd rfl (Or.inl rfl) (y4 (zA 1) zE))
  (vZ (zv 1 wm.nd rfl (Or.inl rfl) (wa (zA 1) zE))
  (qk (yL (wp hr.units (zA 7) zE) (zQ (wJ 4 (Jh 4 wm.nd rfl (Or.inl rfl) aw hr rfl (zB (zA 4) (zB (zA 1) zC))))) yK)
  (qk (yL (wp hr.units (zA 7) zE) (zQ (wJ 5 (Jh 5 wm.nd rfl (Or.inl rfl) aw hr rfl (zB (zA 5) (zB (zA 1) zC))))) yK)
  (qk (yL (wp hr.units (zA 7) zE) (zQ (wJ 6 (Jh 6 wm.nd rfl (Or.inl rfl) aw hr rfl (zB (zA 6) (zB (zA 1) zC))))) yK)
  (qk (yL (wp hr.units (zA 7) zE) (zQ (zv 3 wm.nd rfl (Or.inl rfl) (zN (yd (zB (xI zE) (zB (zKw 2 rfl B.len_) (zB yu (zB (xr (zA 3) zE) zC))))) (y4 (zA 1) zE) (λ_ _=>rfl)))) yK)
  (qk (yL (wp hr.units (zA 7) zE) (zM (zv 8 wm.nd rfl (Or.inl rfl) (y4 (zA 1) (zKw 2 rfl B.len_)))
   (zM (zv 9 wm.nd rfl (Or.inl rfl) (y4 (wa (zA 1) zE) (zj yP yS rfl B.len_ yQ (zB (YA 2 (zA 8) (λ_ _=>rfl)) zC))))
   (zM (zv 10 wm.nd rfl (Or.inl rfl) (zN (YA 2 (zA 8) (λ_ _=>rfl)) (zA 9) (λ_ _=>rfl)))
   (zM (zv 10 wm.nd rfl (Or.inl rfl) (zi (xA (zA 10) y8 (y9 (xI zE))) (wq (zB (zi (zN (zA 10) (xI zE) (λ_ _=>rfl)) (zN (yd (zB zE (zB (xI zE) zC))) (y4 (wa (zA 1) zE) zE) (λ_ _=>rfl))) zC))))
   (zM (zv 11 wm.nd rfl (Or.inl rfl) (zi (zi (xA (YA 2 (zA 8) (λ_ _=>rfl)) y8 (y9 (zA 9))) (yd (zB (zA 10) zC))) (xA (YA 2 (zA 8) (λ_ _=>rfl)) (y9 (zi (zA 9) zE)) y8)))
   (zQ (wJ 2 (zI7 2 wm.nd rfl (Or.inl rfl) (zi (xA (zA 2) y8 (y9 (zA 8))) (yd (zB (zA 11) zC))) (xA (zA 2) (y9 (zi (zA 8) zE)) y8))))))))) yK)
  (qk (yL (wp hr.units (zA 7) zE) (zQ (wJ 5 (zI7 5 wm.nd rfl (Or.inl rfl) (zA 5) (yd (zB (zN (zA 5) zE (λ_ _=>rfl)) zC))))) yK)
  (jR (zKr (zZ 2) (zZ 3) (zZ 4) (zZ 5) (zZ 6)))))))))))),λd0 db d2 d3 d4 c R h=>?_⟩
 obtain ⟨n,rooms,back,S1,S4,S3,c,e,n1,n3,RT,h1,h4,l5,h3,q⟩:=h
 obtain ⟨rfl,rfl,rfl,rfl,rfl,rfl⟩:=Qt e
 have l4:=RT.l4
 have l1:=RT.l1
 have lm:(List.map Rm rooms).length=rooms.length:=List.length_map ..
 refine ⟨by decide,by decide,(Bd.lit (i:=8) (n:=4)).mono,?_⟩
 refine ⟨λΓ=>∃ A1,Γ=[.no,.sh (.int (c.fdiv 8)),.ow (rooms.map Rm),.sh (.int back),.ow (A1),.ow (S4.map zx),.ow (S3.map xB),.sh (.int (c.fmod 8)),.no,.no,.no,.no]/\Fw 6 (.lst A1)/\xD (.lst A1),w2 (λc1=>⟨_,_,rfl,.inl ⟨S1,rfl,h1,λes fd ad=>⟨es,rfl,fd.mono,ad⟩⟩⟩) λc1=>⟨_,rfl,(Ws (k:=0) h1).1.mono,(Ws (k:=0) h1).2⟩,?_⟩
 rintro Γ' ⟨A1,rfl,fA1,pA1⟩
 refine ⟨λΓ=>∃ A2,Γ=[.no,.sh (.int (c.fdiv 8)),.ow (rooms.map Rm),.sh (.int back),.ow (A1),.ow (A2),.ow (S3.map xB),.sh (.int (c.fmod 8)),.no,.no,.no,.no]/\Fw 6 (.lst A2)/\ug (.lst A2)/\(c.fmod 8≠2->A2=S4.map zx),w2 (λc1=>⟨_,_,rfl,.inr (.inr ⟨by decide,S4,rfl,h4,λes fd ad=>⟨es,rfl,fd,ad,λz=>absurd (of_decide_eq_true c1) z⟩⟩)⟩) λc1=>⟨_,rfl,(Qo h4).1,(Qo h4).2,λ_=>rfl⟩,?_⟩
 rintro Γ' ⟨A2,rfl,fA2,pA2,eA2⟩
 refine ⟨λΓ=>∃ A3,Γ=[.no,.sh (.int (c.fdiv 8)),.ow (rooms.map Rm),.sh (.int back),.ow (A1),.ow (A2),.ow (A3),.sh (.int (c.fmod 8)),.no,.no,.no,.no]/\Fw 6 (.lst A3)/\xE (.lst A3),w2 (λc1=>⟨_,_,rfl,.inr (.inl ⟨by decide,S3,rfl,h3,λes fd ad=>⟨es,rfl,fd.mono,ad⟩⟩)⟩) λc1=>⟨_,rfl,(Wt h3).1.mono,(Wt h3).2⟩,?_⟩
 rintro Γ' ⟨A3,rfl,fA3,pA3⟩
 refine ⟨λΓ=>∃ BK:D,Γ=[.no,.sh (.int (c.fdiv 8)),.ow (rooms.map Rm),.sh BK,.ow (A1),.ow (A2),.ow (A3),.sh (.int (c.fmod 8)),.no,.no,.no,.no]/\Y0 BK=true,w2 (λc1=>⟨k0,by decide,vH (md _ (by decide)).1 (by have:=md (c.fdiv 8) (show (0:Int) < 4 by decide); show (c.fdiv 8).fmod 4 < 4; omega) λz hz=>?_⟩) λc1=>⟨_,rfl,rfl⟩,?_⟩
 ·simp only [List.mem_cons,List.not_mem_nil,or_false] at hz
  rcases hz with rfl | rfl | rfl | rfl <;> exact ⟨_,rfl,rfl⟩
 rintro Γ' ⟨BK,rfl,aBK⟩
 refine ⟨λΓ=>∃ rm s8 s9 s10 s11,Γ=[.no,.sh (.int (c.fdiv 8)),.ow (rm.map Rm),.sh BK,.ow (A1),.ow (A2),.ow (A3),.sh (.int (c.fmod 8)),s8,s9,s10,s11]/\jX n rm,w2 (λc1=>?_) λc1=>⟨rooms,_,_,_,_,rfl,λr hr=>⟨λw hw=>⟨((RT.rm r hr).2 w hw).1,λx hx=>(((RT.rm r hr).2 w hw).2 x hx).mono⟩,by rw [(RT.rm r hr).1]; omega⟩,by omega⟩,?_⟩
 ·refine ⟨by omega,?_⟩
  have mat:=md (c.fdiv 8) (show (0:Int) < ((List.map Rm rooms).length:Int) by omega)
  generalize eat:(c.fdiv 8).fmod ((List.map Rm rooms).length:Int)=at' at mat
  obtain ⟨a,rfl⟩:=Int.eq_ofNat_of_zero_le mat.1
  have al:a < rooms.length:=by omega
  obtain ⟨r,hr⟩:∃ r,rooms.getD a []=r:=⟨_,rfl⟩
  have ha:ya (rooms.map Rm) (a:Int)=some (Rm r):=by rw [xx [] al,hr]
  obtain ⟨lr,RR⟩:=RT.rm r (hr ▸ jb al)
  have lu:(List.map U r).length=2 * n:=by rw [List.length_map]; exact lr
  refine ⟨by decide,(Bd.lit (i:=7) (n:=3)).mono,_,ha,by omega,?_⟩
  have mk:=md ((c.fdiv 8).fdiv 7) (show (0:Int) < ((List.map U r).length:Int) by omega)
  generalize ek:((c.fdiv 8).fdiv 7).fmod ((List.map U r).length:Int)=k' at mk
  obtain ⟨k,rfl⟩:=Int.eq_ofNat_of_zero_le mk.1
  have kl:k < r.length:=by omega
  obtain ⟨w,hw⟩:∃ w,r.getD k []=w:=⟨_,rfl⟩
  have hk:ya (r.map U) (k:Int)=some (U w):=by rw [xx [] kl,hw]
  obtain ⟨lw,bw⟩:=RR w (hw ▸ jb kl)
  refine ⟨_,ha,_,hk,_,jW lw,k0,by decide,(Bd.lit (i:=5) (n:=3)).mono,by decide,vH (md _ (by decide)).1 (by have:=md ((c.fdiv 8).fdiv 5) (show (0:Int) < 2 by decide); show ((c.fdiv 8).fdiv 5).fmod 2 < 2; omega) λz hz=>?_⟩
  obtain ⟨y,rfl,by2⟩:vC (Bd 2) z:=by
   simp only [List.mem_cons,List.not_mem_nil,or_false] at hz
   rcases hz with rfl | rfl <;> exact ⟨_,rfl,Bd.lit⟩
  refine ⟨k0,by rw [wg lw,List.length_map,List.length_take]; show _ + 1<=1000; omega,?_⟩
  rw [wg lw]
  have eU:D.tup ((w.take n).map D.int++[.int (w.getD n 0 + y)])=U (w.take n++[w.getD n 0 + y]):=by unfold U; rw [List.map_append]; rfl
  generalize ev:w.take n++[w.getD n 0 + y]=w' at eU
  have hw':w'.length=n + 1/\∀ x∈w',Bd 300 x:=by
   rw [<- ev]
   exact ⟨by rw [List.length_append,List.length_take,lw]; show min n (n + 1) + 1=_; omega,wj (λx hx=>(bw x (List.mem_of_mem_take hx)).mono) (((wt bw n).add by2.mono).mono)⟩
  have cr1:=uk (xs:=r.map U) (lo:=none) (hi:=some ((k:Nat):Int))
  have cr2:=uk (xs:=r.map U) (lo:=some (((k:Nat):Int) + 1)) (hi:=none)
  have ca1:=uk (xs:=rooms.map Rm) (lo:=none) (hi:=some ((a:Nat):Int))
  have ca2:=uk (xs:=rooms.map Rm) (lo:=some (((a:Nat):Int) + 1)) (hi:=none)
  refine ⟨_,ha,k0,by show _ + 1<=1000; omega,_,ha,by rw [List.length_append]; show _ + 1 + _<=1000; omega,?_⟩
  refine ⟨k0,by show _ + 1<=1000; omega,by rw [List.length_append]; show _ + 1 + _<=1000; omega,?_⟩
  have eR:zP (rooms.map Rm) none (some (a:Int))++[D.lst (zP (r.map U) none (some (k:Int))++[D.tup ((w.take n).map D.int++[.int (w.getD n 0 + y)])]++zP (r.map U) (some ((k:Int) + 1)) none)]++zP (rooms.map Rm) (some ((a:Int) + 1)) none=(zP rooms none (some (a:Int))++[zP r none (some (k:Int))++[w']++zP r (some ((k:Int) + 1)) none]++zP rooms (some ((a:Int) + 1)) none).map Rm:=by
   rw [<- Ud (f:=Rm),eU]
   have e2:Rm (zP r none (some (k:Int))++[w']++zP r (some ((k:Int) + 1)) none)=D.lst (zP (r.map U) none (some (k:Int))++[U w']++zP (r.map U) (some ((k:Int) + 1)) none):=by
    unfold Rm
    rw [<- Ud (f:=U)]
   rw [e2]
  refine ⟨zP rooms none (some (a:Int))++[zP r none (some (k:Int))++[w']++zP r (some ((k:Int) + 1)) none]++zP rooms (some ((a:Int) + 1)) none,.sh (.int (a:Int)),.sh (.int (k:Int)),.sh (D.tup ((w.take n).map D.int++[.int (w.getD n 0 + y)])),.sh (D.lst (zP (r.map U) none (some (k:Int))++[D.tup ((w.take n).map D.int++[.int (w.getD n 0 + y)])]++zP (r.map U) (some ((k:Int) + 1)) none)),by rw [<- eR]; rfl,zKq (λr hr=>⟨λw hw=>⟨((RT.rm r hr).2 w hw).1,λx hx=>(((RT.rm r hr).2 w hw).2 x hx).mono⟩,by rw [(RT.rm r hr).1]; omega⟩) ⟨zKq (λw hw=>⟨(RR w hw).1,λx hx=>((RR w hw).2 x hx).mono⟩) hw',by have:=zKn (xs:=r) (y:=w') (lo:=some (k:Int)) (hi:=some ((k:Int) + 1)); omega⟩,by have:=zKn (xs:=rooms) (y:=zP r none (some (k:Int))++[w']++zP r (some ((k:Int) + 1)) none) (lo:=some (a:Int)) (hi:=some ((a:Int) + 1)); omega⟩
 rintro Γ' ⟨rm,s8,s9,s10,s11,rfl,RR⟩
 refine ⟨λΓ=>∃ B2,Γ=[.no,.sh (.int (c.fdiv 8)),.ow (rm.map Rm),.sh BK,.ow (A1),.ow (B2),.ow (A3),.sh (.int (c.fmod 8)),s8,s9,s10,s11]/\Fw 6 (.lst B2)/\ug (.lst B2),w2 (λc1=>?_) λc1=>⟨_,rfl,fA2,pA2⟩,?_⟩
 ·have w6:c.fmod 8=6:=of_decide_eq_true c1
  have eA:=eA2 (by omega)
  rw [eA]
  have l5:(List.map zx S4).length=S4.length:=List.length_map ..
  refine ⟨_,xx (k:=0) [] (by omega),k0,by show _ + 1<=1000; omega,?_⟩
  have K:=Qo (v:=S4++[S4.getD 0 []]) ⟨by rw [List.length_append]; show _ + 1<=_; omega,wj h4.2 (h4.2 _ (jb (by omega)))⟩
  unfold qB at K
  rw [List.map_append] at K
  exact ⟨_,rfl,K.1,K.2⟩
 rintro Γ' ⟨B2,rfl,fB2,pB2⟩
 exact ⟨by decide,by decide,by decide,by decide,by decide,by decide,q rm BK A1 B2 A3 RR aBK fA1 fB2 fA3 pA1 pB2 pA3⟩
end
def zLu:FL:=λds R=>∃ e t rows tw n d k,ds=[e,t,d]/\IT e rows/\IS t tw/\tw.length=n + 1/\(∀ x∈tw,Bd 1000 x)/\xm rows n/\Fw k d/\j5 d/\R (.bool (u9 rows tw n d))
def Qv:FL:=λds R=>∃ e t rows tws n d k,ds=[e,t,d]/\IT e rows/\IT t tws/\xm rows n/\xm tws n/\Fw k d/\xD d/\R (.bool (uF rows tws n d))
theorem zIG {rows:List (List Int)} {tw:List Int} {n:Nat} {x y:D} (h:qp ((rows.length:Nat):Int) y=false):u9 rows tw n (.tup [x,y])=false:=QA (by
 cases y with
 | lst ys=>
  have h:decide (((ys.length:Nat):Int)=(rows.length:Int))=false:=h
  show (xv x && (decide (ys.length=rows.length) && ys.all xv))=false
  rw [decide_eq_false (by have:=of_decide_eq_false h; omega),Bool.false_and,Bool.and_false]
 | _=>rfl)
theorem IT.u {e:D} {rows:List (List Int)} (h:IT e rows):∃ u:List Int->D,(u=L\/u=U)/\e=.lst (rows.map u):=h.elim (λh=>⟨L,.inl rfl,h⟩) λh=>⟨U,.inr rfl,h⟩
theorem jf {u:List Int->D} {rows:List (List Int)} {k:Nat} (h:k < rows.length):ya (rows.map u) (k:Int)=some (u (rows.getD k [])):=by
 rw [uw]
 unfold ya vJ
 rw [if_pos (by omega),if_pos (by omega)]
 show Option.map u rows[((k:Nat):Int).toNat]? = _
 rw [show ((k:Nat):Int).toNat=k by omega,List.getElem?_eq_getElem h,List.getD_eq_getElem?_getD,List.getElem?_eq_getElem h]
 rfl
theorem zPc {ns:List Int} {rows:List (List Int)} (l:ns.length=rows.length) (j:Nat):((List.range rows.length).map λk=>ns.getD k 0 * (rows.getD k []).getD j 0).sum=zh ns rows j:=by
 unfold zh
 congr 1
 refine List.ext_getElem (by rw [List.length_map,List.length_map,List.length_zip,List.length_range]; omega) λi h1 h2=>?_
 rw [List.length_map,List.length_range] at h1
 rw [List.getElem_map,List.getElem_map,List.getElem_range,List.getElem_zip]
 rw [List.getD_eq_getElem?_getD,List.getElem?_eq_getElem (by omega),List.getD_eq_getElem?_getD (l:=rows),List.getElem?_eq_getElem (by omega)]
 rfl
theorem XM:∀ {l m:List Int},l.length=m.length->(l.all λx=>decide (x=0))=decide (l=m.map λx=>0 * x)
 | [],[],_=>rfl
 | a :: l,b :: m,h=>by
  rw [List.all_cons,List.map_cons,XM (l:=l) (m:=m) (by simpa using h),Int.zero_mul]
  by_cases c:a=0
  ·by_cases d:l=m.map λx=>0 * x
   ·rw [decide_eq_true c,decide_eq_true d,c,<- d,decide_eq_true rfl]; rfl
   ·rw [decide_eq_false d,decide_eq_false (λz=>d (List.cons.inj z).2),Bool.and_false]
  ·rw [decide_eq_false c,decide_eq_false (λz=>c (List.cons.inj z).1),Bool.false_and]
theorem jg {as:List D} {k:Nat} (h:k < as.length):ya as (k:Int)=some (as.getD k .non):=by
 unfold ya vJ
 rw [if_pos (by omega),if_pos (by omega)]
 show as[((k:Nat):Int).toNat]? = _
 rw [show ((k:Nat):Int).toNat=k by omega,List.getElem?_eq_getElem h,List.getD_eq_getElem?_getD,List.getElem?_eq_getElem h]
 rfl
theorem kB {α:Type} {as:List α} {k:Nat} {z:α} (h:k < as.length):as.getD k z∈as:=by
 rw [List.getD_eq_getElem?_getD,List.getElem?_eq_getElem h]
 exact List.getElem_mem _
theorem Qw {α β:Type} {xs:List α} {ys:List β} (a:α) (b:β) (h:ys.length=xs.length):xs.zip ys=(List.range xs.length).map λk=>(xs.getD k a,ys.getD k b):=by
 refine List.ext_getElem (by rw [List.length_map,List.length_zip,List.length_range]; omega) λi h1 h2=>?_
 rw [List.length_map,List.length_range] at h2
 rw [List.getElem_map,List.getElem_range,List.getElem_zip,List.getD_eq_getElem?_getD,List.getElem?_eq_getElem h2,List.getD_eq_getElem?_getD,List.getElem?_eq_getElem (by omega)]
 rfl
section
variable {P:Program} {w:World} {K:PySem.W.Frag} {mg:Str->Option Value} {base:Heap}
abbrev Qx:Stmt:=zp 88
theorem zJg:ze ["_law_found"] ["_law_found"] (zK Qx):=.a
abbrev Qy:Stmt:=zp 89
theorem zKf:ze ["_law_thing_here","_law_many"] ["_law_thing_here","_law_many"] (zK Qy):=.a
abbrev kC:Stmt:=zp 90
theorem zGO:ze ["_law_rows_here","_law_target","_law_shares","_law_both_here"] ["_law_rows_here","_law_target","_law_shares"] (zK kC):=.a
abbrev Wu:Stmt:=zp 91
theorem zGn:ze ["_law_rows_here","_law_targets","_law_some"] ["_law_rows_here","_law_targets","_law_some"] (zK Wu):=.a
variable {aClaim aSettles aComes aa ac aPaper aRooms aFalls:Addr} (Cc:Cs K mg aClaim aSettles aComes aa ac aPaper aRooms aFalls)
include Cc
theorem zJp {k:Nat} {f:Addr} {fd:FuncData} (F:zg K "_law_whole" "_law_whole" Qx f fd) (B:Bl mg):zF P w K mg base zW (k + 1) f fd ["_law_found"] (zH (uz)):=by
 refine yC F zJg (λds R h=>by obtain ⟨d,rfl,_⟩:=h; rfl) λcdv A outer s H E hr=>⟨_,(zQ (zX (x9 (yO (xQ wQ rfl B.isinstance_ xZ (zS (zA 0) (zS (wC (v:=.ty "int") (u:=.type "int") rfl B.int_ k9 rfl) zy))) (wf zOA)) (vA (zNw (yO (xQ wQ rfl B.isinstance_ xZ (zS (zA 0) (zS (wC (v:=.ty "bool") (u:=.type "bool") rfl B.bool_ Uh rfl) zy))) (wf JQ))))))),λds R h=>?_⟩
 obtain ⟨d,rfl,o,q⟩:=h
 refine ⟨o,λc=>⟨o,bR q ?_⟩,λc=>bR q ?_⟩
 ·unfold uP; rw [c]; rfl
 ·unfold uP; rw [c]; rfl
theorem zLM {k:Nat} {f:Addr} {fd:FuncData} (F:zg K "_law_list" "_law_list" Qy f fd) (B:Bl mg):zF P w K mg base zW (k + 1) f fd ["_law_thing_here","_law_many"] (zH (jA)):=by
 refine yC F zKf (λds R h=>by obtain ⟨d,c,k,rfl,_⟩:=h; rfl) λcdv A outer s H E hr=>⟨_,(zQ (zX (x9 (yO (xQ wQ rfl B.isinstance_ xZ (zS (zA 0) (zS (wC (v:=.ty "list") (u:=.type "list") rfl B.list_ xS rfl) zy))) (wf jO)) (vA (uM hr.units (zj yP yS rfl B.len_ yQ (zB (zA 0) zC)) (zA 1)))))),λds R h=>?_⟩
 obtain ⟨d,c,k,rfl,f,q⟩:=h
 refine ⟨f.no,w2 (λc1=>?_) λc1=>bR q ?_⟩
 ·obtain ⟨es,rfl,le,j,rfl,hj⟩:=f.lst_inv c1
  exact q
 ·cases d <;> first | rfl | cases c1
theorem zJr {k:Nat} {f:Addr} {fd:FuncData} (F:zg K "_law_shows" "_law_shows" kC f fd) (B:Bl mg) (ak:Fn P w K mg base "_law_list" ["_law_thing_here","_law_many"] k (zH (jA))) (aH:Fn P w K mg base "_law_whole" ["_law_found"] k (zH (uz))):zF P w K mg base zW (k + 1) f fd ["_law_rows_here","_law_target","_law_shares"] (zH (zLu)):=by
 refine yC F zGO (λds R h=>by obtain ⟨e,t,rows,tw,n,d,k,rfl,_⟩:=h; rfl) λcdv A outer s H E hr=>⟨_,(zM (yL (PW.pt (xg (yg (yU (yO (xQ wQ rfl B.isinstance_ xZ (zS (zA 2) (zS (wC (v:=.ty "tuple") (u:=.type "tuple") rfl B.tuple_ vP rfl) zy))) (wf YD)))) (xg (gX hr.units (zj yP yS rfl B.len_ yQ (zB (zA 2) zC)) zE) (wI (yg (yU (zU ak hr rfl (zB (zN (zA 2) zE (λ_ _=>rfl)) (zB (zj yP yS rfl B.len_ yQ (zB (zA 0) zC)) zC))))))))) (zQ (zX yu)) yK)
  (zM (yL (yg (yU (zj (wy rfl) vB rfl B.all_ wz (zB (yT (own:=["_law_x"]) (caps:=[]) (yF (S:=zK kC) (N:=["_law_rows_here","_law_target","_law_shares","_law_both_here"]) rfl (by decide +kernel) rfl ⟨_,rfl⟩ rfl (by decide +kernel) (by decide +kernel)) rfl rfl yH (ym (zi (yd (zB (zN (zA 2) zE (λ_ _=>rfl)) zC)) (zN (zA 2) zE (λ_ _=>rfl)))) (λ_ _ _ _=>(zo 0 (show (["_law_x"]:List Str).Nodup by decide +kernel) rfl (Or.inl rfl))) (λ_ _ _ _=>(x9 (zU aH hr rfl (zB (zA 0) zC)) (vA (Uz (zA 0) zE))))) zC)))) (zQ (zX yu)) yK)
  (zM (vp 3 false zGO.nd rfl rfl (own:=["_law_j"]) (caps:=[(0,"_law_rows_here"),(2,"_law_shares")]) (yF (S:=zK kC) (N:=["_law_rows_here","_law_target","_law_shares","_law_both_here"]) rfl (by decide +kernel) rfl ⟨_,rfl⟩ rfl (by decide +kernel) (by decide +kernel)) rfl rfl yH (y3 rfl B.range_ (zB (zj yP yS rfl B.len_ yQ (zB (zA 1) zC)) zC)) (λ_ _ _ _=>(zo 0 (show (["_law_j","_law_rows_here","_law_shares"]:List Str).Nodup by decide +kernel) rfl (Or.inr rfl))) (λ_ _ _ _=>(zj (jq rfl) jy rfl B.sum_ jp (zB (yT (own:=["_law_k"]) (caps:=[(0,"_law_j"),(1,"_law_rows_here"),(2,"_law_shares")]) (qO rfl (by decide +kernel) (by decide +kernel) (by decide +kernel) (by decide +kernel)) rfl rfl yH (y3 rfl B.range_ (zB (zj yP yS rfl B.len_ yQ (zB (zA 1) zC)) zC)) (λ_ _ _ _=>(zo 0 (show (["_law_k","_law_j","_law_rows_here","_law_shares"]:List Str).Nodup by decide +kernel) rfl (Or.inl rfl))) (λ_ _ _ _=>(yo (zN (zN (zA 3) zE (λ_ _=>rfl)) (zA 0) (λ_ _=>rfl)) (zN (zN (zA 2) (zA 0) (λ_ _=>rfl)) (zA 1) (λ_ _=>rfl))))) zC))) rfl)
  (zM (yL (gX hr.units (xA (zA 3) y8 (y9 (xI zE))) (yT (own:=["_law_x"]) (caps:=[(2,"_law_shares")]) (yF (S:=zK kC) (N:=["_law_rows_here","_law_target","_law_shares","_law_both_here"]) rfl (by decide +kernel) rfl ⟨_,rfl⟩ rfl (by decide +kernel) (by decide +kernel)) rfl rfl yH (ym (xA (zA 1) y8 (y9 (xI zE)))) (λ_ _ _ _=>(zo 0 (show (["_law_x","_law_shares"]:List Str).Nodup by decide +kernel) rfl (Or.inl rfl))) (λ_ _ _ _=>(yo (zN (zA 1) zE (λ_ _=>rfl)) (zA 0))))) (zQ (zX yu)) yK)
  (zM (yL (wp hr.units (zN (zA 2) zE (λ_ _=>rfl)) zE) (zQ (zX (zPs (zN (zA 3) (xI zE) (λ_ _=>rfl)) zE))) yK)
  (zQ (zX (Uy (zN (zA 3) (xI zE) (λ_ _=>rfl)) (yo (zN (zA 2) zE (λ_ _=>rfl)) (zN (zA 1) (xI zE) (λ_ _=>rfl))))))))))),λds R h=>?_⟩
 obtain ⟨e,t,rows,tw,n,d,k,rfl,he,ht,lt,bt,RW,f,sb,q⟩:=h
 obtain ⟨u,hu,rfl⟩:=he.u
 have lr:(List.map u rows).length=rows.length:=List.length_map ..
 have nar:=RW.nar
 have fewr:=RW.few
 refine ⟨f.no,w2 (λc1=>wT rfl (bR q ?_)) λc1=>?_⟩
 ·cases d <;> first | rfl | cases c1
 obtain ⟨es,rfl,le,j,rfl,hj⟩:=f.tup_inv (by cases z:d.isTup with | true=>rfl | false=>rw [z] at c1; cases c1)
 refine w2 (λc2=>wT rfl (bR q ?_)) λc2=>?_
 ·match es,c2 with
  | [],_=>rfl
  | [x],_=>cases x <;> rfl
  | [_,_],c2=>cases c2
  | x :: y :: _ :: _,_=>cases x <;> cases y <;> rfl
 obtain ⟨x,y,rfl⟩:∃ x y,es=[x,y]:=by
  match es,c2 with
  | [x,y],_=>exact ⟨x,y,rfl⟩
  | [],c2=>cases c2
  | [_],c2=>cases c2
  | _ :: _ :: _ :: _,c2=>
   have c2:(!decide (((_:Nat):Int)=2))=false:=c2
   rw [Bool.not_eq_false',decide_eq_true_iff] at c2
   simp at c2
   omega
 have fx:=hj x List.mem_cons_self
 have fy:=hj y (List.mem_cons_of_mem _ List.mem_cons_self)
 refine ⟨y,rfl,y,_,j,rfl,fy,w2 (λc3=>bR q ?_) λc3=>?_⟩
 ·rw [lr] at c3
  exact zIG (wS c3)
 rw [lr] at c3
 obtain ⟨ys,rfl,ly⟩:=jV (wU c3)
 obtain ⟨es,e1,le2,i,rfl,hi⟩:=fy.lst_inv rfl
 cases e1
 refine ⟨x,rfl,k0,.lst ys,rfl,by show 1 + ys.length<=1000; omega,zf.bool xv (by show ys.length + 1<=1000; omega) (λd m=>?_) ⟨_,rfl,w2 (λc4=>bR q ?_) λc4=>?_⟩⟩
 ·have fd:d.isObj=false:=(List.mem_cons.mp m).elim (λz=>by rw [z]; exact fx.no) λz=>(hi d z).no
  refine ⟨d,rfl,fd,w2 (λc=>?_) λc=>?_⟩
  ·obtain ⟨i,rfl⟩:=QD c
   rfl
  ·cases d <;> first | rfl | cases c
 ·rw [va] at c4
  refine QA ?_
  have c4:(xv x && ys.all xv)=false:=wS c4
  show (xv x && (decide (ys.length=rows.length) && ys.all xv))=false
  rw [decide_eq_true (by omega),Bool.true_and]
  exact c4
 rw [va] at c4
 have c1':xX rows.length (.tup [x,.lst ys])=true:=by
  have c4:(xv x && ys.all xv)=true:=wU c4
  show (xv x && (decide (ys.length=rows.length) && ys.all xv))=true
  rw [decide_eq_true (by omega),Bool.true_and]
  exact c4
 obtain ⟨o,ns,e,o0,ln,n0⟩:=zI2 c1'
 obtain ⟨rfl,rfl⟩:x=.int o/\ys=ns.map D.int:=by cases e; exact ⟨rfl,rfl⟩
 rw [zHc c1'] at q
 obtain ⟨bo,bn⟩:=sb o _ rfl
 have bn:∀ x∈ns,Bd 1000 x:=λx hx=>bn (.int x) (List.mem_map.mpr ⟨x,hx,rfl⟩)
 have tot:(List.range (n + 1)).map (zh ns rows)=(List.range n).map (zh ns rows)++[zh ns rows n]:=by rw [List.range_succ,List.map_append]; rfl
 have e1:(List.range n).map (uL rows ns)=(List.range n).map (zh ns rows):=List.map_congr_left λj _=>Yu rows ns j
 unfold ZG at q
 rw [e1,Yu] at q
 have zq:(if o=0 then (((List.range n).map (zh ns rows)).all λx=>decide (x=0)) && decide (zh ns rows n < 0) else decide ((List.range n).map (zh ns rows)=(tw.take n).map (λx=>o * x)) && decide (zh ns rows n<=o * tw.getD n 0))=(decide ((List.range n).map (zh ns rows)=(tw.take n).map (λx=>o * x)) && if o=0 then decide (zh ns rows n < 0) else decide (zh ns rows n<=o * tw.getD n 0)):=by
  by_cases c:o=0
  ·rw [if_pos c,if_pos c,c,XM (m:=tw.take n) (by rw [List.length_map,List.length_range,List.length_take]; omega)]
  ·rw [if_neg c,if_neg c]
 rw [zq] at q
 clear zq
 have ltw:(List.map D.int tw).length=n + 1:=by rw [List.length_map]; exact lt
 clear c1 c2 c3 c4 c1' fx fy hj le le2 hi ly
 rcases ht with rfl | rfl
 all_goals
  refine ⟨by omega,by omega,?_⟩
  rw [show ((List.length (List.map D.int tw):Nat):Int).toNat=n + 1 by omega]
  refine zf.rng0 (λj=>.int (zh ns rows j)) (by omega) (λj hj=>?_) ?_
  ·refine ⟨by omega,by omega,?_⟩
   rw [show ((List.length (List.map u rows):Nat):Int).toNat=rows.length by omega]
   refine zf.rng0 (λk=>.int (ns.getD k 0 * (rows.getD k []).getD j 0)) (by omega) (λk hk=>?_) ⟨(List.range rows.length).map λk=>ns.getD k 0 * (rows.getD k []).getD j 0,by rw [List.map_map]; rfl,by rw [zPc ln]⟩
   have hq:rows.getD k []∈rows:=by
    rw [List.getD_eq_getElem?_getD,List.getElem?_eq_getElem hk]
    exact List.getElem_mem _
   have hr:=RW.row _ hq
   rcases hu with rfl | rfl
   all_goals exact ⟨_,rfl,_,xK (j:=k) (by omega) rfl,_,jf hk,_,xK (j:=j) (by omega) rfl,(wt bn k).mono,(wt hr.2 j).mono,rfl⟩
  rw [show (List.range (n + 1)).map (λj=>D.int (zh ns rows j))=((List.range n).map (zh ns rows)++[zh ns rows n]).map D.int by rw [<- tot,List.map_map]; rfl]
  refine zf.cast (wg lt) (zf.int (λx=>o * x) (by rw [List.length_take]; omega) (λx hx=>⟨_,rfl,bo.mono,(bt x (List.mem_of_mem_take hx)).mono,rfl⟩) ?_)
  refine ⟨by rw [Yx]; exact ud _,ud _,w2 (λc3=>bR q ?_) λc3=>?_⟩
  all_goals rw [Yx,zQq] at c3
  ·rw [decide_eq_false (of_decide_eq_false (wS c3))]
   rfl
  rw [wU c3,Bool.true_and] at q
  refine ⟨_,rfl,w2 (λc4=>⟨_,WR _ _,bR q ?_⟩) λc4=>⟨_,WR _ _,_,rfl,_,jW lt,bo.mono,(wt bt n).mono,bR q ?_⟩⟩
  ·rw [if_pos (of_decide_eq_true c4)]
  ·rw [if_neg (of_decide_eq_false c4)]
theorem zHC {k:Nat} {f:Addr} {fd:FuncData} (F:zg K "_law_all_show" "_law_all_show" Wu f fd) (B:Bl mg) (ak:Fn P w K mg base "_law_list" ["_law_thing_here","_law_many"] k (zH (jA))) (bU:Fn P w K mg base "_law_shows" ["_law_rows_here","_law_target","_law_shares"] k (zH (zLu))):zF P w K mg base zW (k + 1) f fd ["_law_rows_here","_law_targets","_law_some"] (zH (Qv)):=by
 refine yC F zGn (λds R h=>by obtain ⟨e,t,rows,tws,n,d,k,rfl,_⟩:=h; rfl) λcdv A outer s H E hr=>⟨_,(zM (yL (yg (yU (zU ak hr rfl (zB (zA 2) (zB (zj yP yS rfl B.len_ yQ (zB (zA 1) zC)) zC))))) (zQ (zX yu)) yK)
  (zQ (zX (zj (wy rfl) vB rfl B.all_ wz (zB (yT (own:=["_law_k"]) (caps:=[(0,"_law_rows_here"),(1,"_law_targets"),(2,"_law_some")]) (yF (S:=zK Wu) (N:=["_law_rows_here","_law_targets","_law_some"]) rfl (by decide +kernel) rfl ⟨_,rfl⟩ rfl (by decide +kernel) (by decide +kernel)) rfl rfl yH (y3 rfl B.range_ (zB (zj yP yS rfl B.len_ yQ (zB (zA 1) zC)) zC)) (λ_ _ _ _=>(zo 0 (show (["_law_k","_law_rows_here","_law_targets","_law_some"]:List Str).Nodup by decide +kernel) rfl (Or.inl rfl))) (λ_ _ _ _=>(zU bU hr rfl (zB (zA 1) (zB (zN (zA 2) (zA 0) (λ_ _=>rfl)) (zB (zN (zA 3) (zA 0) (λ_ _=>rfl)) zC)))))) zC))))),λds R h=>?_⟩
 obtain ⟨e,t,rows,tws,n,d,k,rfl,he,ht,RW,RT,f,sb,q⟩:=h
 obtain ⟨u,hu,rfl⟩:=ht.u
 have lt:(List.map u tws).length=tws.length:=List.length_map ..
 have fewt:=RT.few
 refine ⟨d,_,k,rfl,f,w2 (λc1=>bR q ?_) λc1=>?_⟩
 ·rw [lt] at c1
  exact zJK (wS c1)
 rw [lt] at c1
 obtain ⟨as,rfl,la⟩:=jV (wU c1)
 obtain ⟨es,e1,le,j,rfl,hj⟩:=f.lst_inv rfl
 cases e1
 have sb:=sb as rfl
 refine ⟨by omega,by omega,?_⟩
 rw [show ((List.length (List.map u tws):Nat):Int).toNat=tws.length by omega]
 refine zf.rng0 (λk=>.bool (u9 rows (tws.getD k []) n (as.getD k .non))) (by omega) (λk hk=>?_) ⟨(List.range tws.length).map λk=>u9 rows (tws.getD k []) n (as.getD k .non),by rw [List.map_map]; rfl,bR q ?_⟩
 ·have h1:=kB (z:=[]) hk
  have h2:as.getD k .non∈as:=kB (by omega)
  exact ⟨_,jf hk,_,jg (by omega),e,_,rows,tws.getD k [],n,_,j,rfl,he,hu.elim (λz=>.inl (by rw [z])) (λz=>.inr (by rw [z])),(RT.row _ h1).1,(RT.row _ h1).2,RW,hj _ h2,sb _ h2,rfl⟩
 ·show (decide _ && _)=_
  rw [decide_eq_true la,Qw [] .non (by omega),List.all_map,List.all_map]
  rfl
end
theorem XN {α:Type} {l:List α} {f:α->Bool} {k:Nat} {x:α} (h:l[k]? = some x) (a:(l.take k).all f=true) (b:f x=true):(l.take (k + 1)).all f=true:=by
 rw [jH h,List.all_append,a,List.all_cons,b]
 rfl
theorem Wv {α:Type} {l:List α} {f:α->Bool} {k:Nat} {x:α} (h:l[k]? = some x) (b:f x=false):l.all f=false:=by
 cases c:l.all f with
 | false=>rfl
 | true=>
  have:=List.all_eq_true.mp c x (List.mem_of_getElem? h)
  rw [b] at this
  cases this
def zLs:FL:=λds R=>∃ n bs ms u room behind d k,ds=[xM n bs ms u,Rm room,Rm behind,d]/\j6 n bs ms/\xi room n/\xi behind n/\Fw k d/\xE d/\R (.bool (uc n bs ms room behind d))
theorem TbM {α:Type} (f:α->List Int) (xs:List α):D.lst (xs.map λr=>L (f r))=Tb (xs.map f):=by unfold Tb; rw [List.map_map]; rfl
theorem zJX (n k p:Nat):List.replicate n (0:Int)++xH (k:Int) p 1=xH ((n + k:Nat):Int) (n + p) 1:=by
 refine List.ext_getElem (by rw [List.length_append,List.length_replicate,uB,uB]) λi h1 h2=>?_
 rw [uB] at h2
 by_cases c:i < n
 ·rw [List.getElem_append_left (by rw [List.length_replicate]; exact c),List.getElem_replicate]
  simp only [xH,List.getElem_map,List.getElem_range]
  rw [if_neg (by omega)]
 ·rw [List.getElem_append_right (by rw [List.length_replicate]; omega)]
  simp only [xH,List.getElem_map,List.getElem_range,List.length_replicate]
  by_cases d:i=n + k
  ·rw [if_pos (by omega),if_pos (by omega)]
  ·rw [if_neg (by omega),if_neg (by omega)]
theorem zMd (a:Int) (w:Nat):(xH a w 1).map (λx=>0 - x)=xH a w (-1):=by
 unfold xH
 rw [List.map_map]
 refine List.map_congr_left λi _=>?_
 show 0 - (if (i:Int)=a then (1:Int) else 0)=if (i:Int)=a then -1 else 0
 by_cases c:(i:Int)=a
 ·rw [if_pos c,if_pos c]; rfl
 ·rw [if_neg c,if_neg c]; rfl
def zLt:FL:=λds R=>∃ n bs ms u rows,ds=[xM n bs ms u,Rm rows]/\n<=3/\bs.length<=6/\(∀ r∈rows,r.length=n + 1)/\rows.length<=900/\R (Tb (ZU n bs rows))
def zLv:FL:=λds R=>∃ n bs ms u m r,ds=[xM n bs ms u,xk m,U r]/\n<=3/\bs.length<=6/\uA m n bs.length/\Jt m/\r.length=n + 1/\(∀ x∈r,Bd 1000 x)/\R (L (uE n bs.length (r.take n) (r.getD n 0) m))
theorem zMi {n:Nat} {r a:List Int} (lr:n<=r.length) (la:a.length=n):((List.range n).map λi=>r.getD i 0 * a.getD i 0).sum=xc (r.take n) a:=by
 rw [<- Jl]
 congr 1
 refine List.ext_getElem (by rw [List.length_map,List.length_map,List.length_zip,List.length_take,List.length_range]; omega) λi h1 h2=>?_
 rw [List.length_map,List.length_range] at h1
 rw [List.getElem_map,List.getElem_map,List.getElem_range,List.getElem_zip,List.getElem_take]
 rw [List.getD_eq_getElem?_getD,List.getElem?_eq_getElem (by omega),List.getD_eq_getElem?_getD (l:=a),List.getElem?_eq_getElem (by omega)]
 rfl
theorem zNq {n:Nat} {r:List Int} {B:List (List Int)} (lr:n<=r.length) (lB:B.length=n) (j:Nat):((List.range n).map λi=>r.getD i 0 * (B.getD i []).getD j 0).sum=zh (r.take n) B j:=by
 unfold zh
 congr 1
 refine List.ext_getElem (by rw [List.length_map,List.length_map,List.length_zip,List.length_take,List.length_range]; omega) λi h1 h2=>?_
 rw [List.length_map,List.length_range] at h1
 rw [List.getElem_map,List.getElem_map,List.getElem_range,List.getElem_zip,List.getElem_take]
 rw [List.getD_eq_getElem?_getD,List.getElem?_eq_getElem (by omega),List.getD_eq_getElem?_getD (l:=B),List.getElem?_eq_getElem (by omega)]
 rfl
section
variable {P:Program} {w:World} {K:PySem.W.Frag} {mg:Str->Option Value} {base:Heap}
abbrev kD:Stmt:=zp 92
theorem jh:ze ["_law_spec","_law_mode_here","_law_row","_law_rows_here","_law_nexts","_law_steer","_law_push","_law_add","_law_divisor","_law_found"] ["_law_spec","_law_mode_here","_law_row"] (zK kD):=.a
abbrev kF:Stmt:=zp 93
theorem XO:ze ["_law_spec","_law_rows_here","_law_wide","_law_found","_law_k","_law_ones"] ["_law_spec","_law_rows_here"] (zK kF):=.a
abbrev Ww:Stmt:=zp 94
theorem Wx:ze ["_law_spec","_law_room","_law_after","_law_some","_law_mode_here","_law_shares","_law_targets"] ["_law_spec","_law_room","_law_after","_law_some"] (zK Ww):=.a
variable {aClaim aSettles aComes aa ac aPaper aRooms aFalls:Addr} (Cc:Cs K mg aClaim aSettles aComes aa ac aPaper aRooms aFalls)
include Cc
theorem zJt {k:Nat} {f:Addr} {fd:FuncData} (F:zg K "_law_reach" "_law_reach" kD f fd) (B:Bl mg):zF P w K mg base zW (k + 1) f fd ["_law_spec","_law_mode_here","_law_row"] (qg (zLv)):=by
 refine okN F jh (λds R h=>by obtain ⟨n,bs,ms,u,m,r,rfl,_⟩:=h; rfl) λcdv A outer s H E hr=>⟨_,(Ja (qe (zA 1) (we rfl (yA 3 jh.nd rfl (Or.inl rfl) (yA 4 jh.nd rfl (Or.inr rfl) (yA 5 jh.nd rfl (Or.inl rfl) (yA 6 jh.nd rfl (Or.inr rfl) (yA 7 jh.nd rfl (Or.inr rfl) (yA 8 jh.nd rfl (Or.inl rfl) wd))))))))
  (Ja (vp 9 false jh.nd rfl rfl (own:=["_law_j"]) (caps:=[(0,"_law_spec"),(2,"_law_row"),(4,"_law_nexts")]) (yF (S:=zK kD) (N:=["_law_spec","_law_mode_here","_law_row","_law_rows_here","_law_nexts","_law_steer","_law_push","_law_add","_law_divisor","_law_found"]) rfl (by decide +kernel) rfl ⟨_,rfl⟩ rfl (by decide +kernel) (by decide +kernel)) rfl rfl yH (y3 rfl B.range_ (zB (zN (zA 0) zE (λ_ _=>rfl)) zC)) (λ_ _ _ _=>(zo 0 (show (["_law_j","_law_spec","_law_row","_law_nexts"]:List Str).Nodup by decide +kernel) rfl (Or.inr rfl))) (λ_ _ _ _=>(zj (jq rfl) jy rfl B.sum_ jp (zB (yT (own:=["_law_i"]) (caps:=[(0,"_law_j"),(2,"_law_row"),(3,"_law_nexts")]) (qO rfl (by decide +kernel) (by decide +kernel) (by decide +kernel) (by decide +kernel)) rfl rfl yH (y3 rfl B.range_ (zB (zN (zA 1) zE (λ_ _=>rfl)) zC)) (λ_ _ _ _=>(zo 0 (show (["_law_i","_law_j","_law_row","_law_nexts"]:List Str).Nodup by decide +kernel) rfl (Or.inl rfl))) (λ_ _ _ _=>(yo (zN (zA 2) (zA 0) (λ_ _=>rfl)) (zN (zN (zA 3) (zA 0) (λ_ _=>rfl)) (zA 1) (λ_ _=>rfl))))) zC))) rfl)
  (Ja (zv 9 jh.nd rfl (Or.inl rfl) (zi (zA 9) (yT (own:=["_law_j"]) (caps:=[(0,"_law_spec"),(2,"_law_row"),(6,"_law_push")]) (yF (S:=zK kD) (N:=["_law_spec","_law_mode_here","_law_row","_law_rows_here","_law_nexts","_law_steer","_law_push","_law_add","_law_divisor","_law_found"]) rfl (by decide +kernel) rfl ⟨_,rfl⟩ rfl (by decide +kernel) (by decide +kernel)) rfl rfl yH (y3 rfl B.range_ (zB (zj yP yS rfl B.len_ yQ (zB (zN (zA 0) zE (λ_ _=>rfl)) zC)) zC)) (λ_ _ _ _=>(zo 0 (show (["_law_j","_law_spec","_law_row","_law_push"]:List Str).Nodup by decide +kernel) rfl (Or.inr rfl))) (λ_ _ _ _=>(zj (jq rfl) jy rfl B.sum_ jp (zB (yT (own:=["_law_i"]) (caps:=[(0,"_law_j"),(2,"_law_row"),(3,"_law_push")]) (qO rfl (by decide +kernel) (by decide +kernel) (by decide +kernel) (by decide +kernel)) rfl rfl yH (y3 rfl B.range_ (zB (zN (zA 1) zE (λ_ _=>rfl)) zC)) (λ_ _ _ _=>(zo 0 (show (["_law_i","_law_j","_law_row","_law_push"]:List Str).Nodup by decide +kernel) rfl (Or.inl rfl))) (λ_ _ _ _=>(yo (zN (zA 2) (zA 0) (λ_ _=>rfl)) (zN (zN (zA 3) (zA 0) (λ_ _=>rfl)) (zA 1) (λ_ _=>rfl))))) zC))))))
  (zMr (zMq (zA 9) (yd (zB (xr (yo (zA 8) (zN (zA 2) (xI zE) (λ_ _=>rfl))) (zj (jq rfl) jy rfl B.sum_ jp (zB (yT (own:=["_law_i"]) (caps:=[(2,"_law_row"),(7,"_law_add")]) (yF (S:=zK kD) (N:=["_law_spec","_law_mode_here","_law_row","_law_rows_here","_law_nexts","_law_steer","_law_push","_law_add","_law_divisor","_law_found"]) rfl (by decide +kernel) rfl ⟨_,rfl⟩ rfl (by decide +kernel) (by decide +kernel)) rfl rfl yH (y3 rfl B.range_ (zB (zN (zA 0) zE (λ_ _=>rfl)) zC)) (λ_ _ _ _=>(zo 0 (show (["_law_i","_law_row","_law_add"]:List Str).Nodup by decide +kernel) rfl (Or.inl rfl))) (λ_ _ _ _=>(yo (zN (zA 1) (zA 0) (λ_ _=>rfl)) (zN (zA 2) (zA 0) (λ_ _=>rfl))))) zC))) zC))))))),λds R h=>?_⟩
 obtain ⟨n,bs,ms,u,m,r,rfl,n3,b6,MO,MB,lr,br,q⟩:=h
 have lb:(List.map yR bs).length=bs.length:=List.length_map ..
 refine ⟨_,rfl,by omega,by omega,?_⟩
 rw [show (((n:Nat):Int)).toNat=n by omega]
 refine zf.rng0 (λj=>.int (zh (r.take n) m.nexts j)) (by omega) (λj hj=>?_) ?_
 ·refine ⟨_,rfl,by omega,by omega,?_⟩
  rw [show (((n:Nat):Int)).toNat=n by omega]
  refine zf.rng0 (λi=>.int (r.getD i 0 * (m.nexts.getD i []).getD j 0)) (by omega) (λi hi=>?_) ⟨(List.range n).map λi=>r.getD i 0 * (m.nexts.getD i []).getD j 0,by rw [List.map_map]; rfl,by rw [zNq (by omega) MO.nexts.1]⟩
  have hq:=kB (z:=[]) (as:=m.nexts) (k:=i) (by rw [MO.nexts.1]; exact hi)
  exact ⟨_,xK (j:=i) (by omega) rfl,_,jf (by rw [MO.nexts.1]; exact hi),_,xK (j:=j) (by rw [MO.nexts.2 _ hq]; exact hj) rfl,(wt br i).mono,(wt (MB.nexts _ hq) j).mono,rfl⟩
 refine ⟨_,rfl,by omega,by omega,?_⟩
 rw [show ((List.length (List.map yR bs):Nat):Int).toNat=bs.length by omega]
 refine zf.rng0 (λj=>.int (zh (r.take n) m.push j)) (by omega) (λj hj=>?_) ?_
 ·refine ⟨_,rfl,by omega,by omega,?_⟩
  rw [show (((n:Nat):Int)).toNat=n by omega]
  refine zf.rng0 (λi=>.int (r.getD i 0 * (m.push.getD i []).getD j 0)) (by omega) (λi hi=>?_) ⟨(List.range n).map λi=>r.getD i 0 * (m.push.getD i []).getD j 0,by rw [List.map_map]; rfl,by rw [zNq (by omega) MO.push.1]⟩
  have hq:=kB (z:=[]) (as:=m.push) (k:=i) (by rw [MO.push.1]; exact hi)
  exact ⟨_,xK (j:=i) (by omega) rfl,_,jf (by rw [MO.push.1]; exact hi),_,xK (j:=j) (by rw [MO.push.2 _ hq]; exact hj) rfl,(wt br i).mono,(wt (MB.push _ hq) j).mono,rfl⟩
 refine ⟨by rw [List.length_map,List.length_map,List.length_range,List.length_range]; omega,?_⟩
 refine ⟨_,jW lr,MB.div.mono,(wt br n).mono,_,rfl,by omega,by omega,?_⟩
 rw [show (((n:Nat):Int)).toNat=n by omega]
 refine zf.rng0 (λi=>.int (r.getD i 0 * m.add.getD i 0)) (by omega) (λi hi=>?_) ⟨(List.range n).map λi=>r.getD i 0 * m.add.getD i 0,by rw [List.map_map]; rfl,?_⟩
 ·exact ⟨_,xK (j:=i) (by omega) rfl,_,xK (j:=i) (by rw [MO.add]; exact hi) rfl,(wt br i).mono,(wt MB.add i).mono,rfl⟩
 rw [zMi (by omega) MO.add]
 refine ⟨k0,by rw [List.length_append,List.length_map,List.length_map,List.length_range,List.length_range]; show _ + 1<=1000; omega,?_⟩
 unfold uE L at q
 rw [List.map_append,List.map_append,List.map_map,List.map_map] at q
 exact q
theorem zHB {k:Nat} {f:Addr} {fd:FuncData} (F:zg K "_law_standing" "_law_standing" kF f fd) (B:Bl mg):zF P w K mg base zW (k + 1) f fd ["_law_spec","_law_rows_here"] (zH (zLt)):=by
 refine yC F XO (λds R h=>by obtain ⟨n,bs,ms,u,rows,rfl,_⟩:=h; rfl) λcdv A outer s H E hr=>⟨_,(zM (zv 2 XO.nd rfl (Or.inr rfl) (zj yP yS rfl B.len_ yQ (zB (zN (zA 0) zE (λ_ _=>rfl)) zC)))
  (zM (vp 3 true XO.nd rfl rfl (own:=["_law_row"]) (caps:=[(2,"_law_wide")]) (yF (S:=zK kF) (N:=["_law_spec","_law_rows_here","_law_wide","_law_found","_law_k","_law_ones"]) rfl (by decide +kernel) rfl ⟨_,rfl⟩ rfl (by decide +kernel) (by decide +kernel)) rfl rfl yH (ym (zA 1)) (λ_ _ _ _=>(zo 0 (show (["_law_row","_law_wide"]:List Str).Nodup by decide +kernel) rfl (Or.inl rfl))) (λ_ _ _ _=>(zi (zi (xP wn wr rfl B.list_ xS (zB (xA (zA 0) y8 (y9 (xI zE))) zC)) (yo (yd (zB zE zC)) (zA 1))) (yd (zB (zN (zA 0) (xI zE) (λ_ _=>rfl)) zC)))) rfl)
  (zM (wA PassesOwn.never rfl (y3 rfl B.range_ (zB (zA 2) zC)) (zo 4 XO.nd rfl (Or.inr rfl)) (zM (zv 5 XO.nd rfl (Or.inl rfl) (zi (yo (yd (zB zE zC)) (zN (zA 0) zE (λ_ _=>rfl))) (yT (own:=["_law_j"]) (caps:=[(4,"_law_k")]) (yF (S:=zK kF) (N:=["_law_spec","_law_rows_here","_law_wide","_law_found","_law_k","_law_ones"]) rfl (by decide +kernel) rfl ⟨_,rfl⟩ rfl (by decide +kernel) (by decide +kernel)) rfl rfl yH (y3 rfl B.range_ (zB (zA 2) zC)) (λ_ _ _ _=>(zo 0 (show (["_law_j","_law_k"]:List Str).Nodup by decide +kernel) rfl (Or.inl rfl))) (λ_ _ _ _=>(xP UP JB rfl B.int_ k9 (zB (uM hr.units (zA 0) (zA 1)) zC))))))
   (zM (yI (xy (wG PySem.F.plainAttrs_list PySem.F.slot_list_append PySem.F.type_list_append yb (zZ 3) (zS (zi (zA 5) (yd (zB (zN (zN (zN (zA 0) zE (λ_ _=>rfl)) (zA 4) (λ_ _=>rfl)) zE (λ_ _=>rfl)) zC))) zy))) wR)
   (zQ (yI (xy (wG PySem.F.plainAttrs_list PySem.F.slot_list_append PySem.F.type_list_append yb (zZ 3) (zS (zi (yT (own:=["_law_x"]) (caps:=[]) (yF (S:=zK kF) (N:=["_law_spec","_law_rows_here","_law_wide","_law_found","_law_k","_law_ones"]) rfl (by decide +kernel) rfl ⟨_,rfl⟩ rfl (by decide +kernel) (by decide +kernel)) rfl rfl yH (ym (zA 5)) (λ_ _ _ _=>(zo 0 (show (["_law_x"]:List Str).Nodup by decide +kernel) rfl (Or.inl rfl))) (λ_ _ _ _=>(xr zE (zA 0)))) (yd (zB (xr zE (zN (zN (zN (zA 0) zE (λ_ _=>rfl)) (zA 4) (λ_ _=>rfl)) zE (λ_ _=>rfl))) zC))) zy))) wR)))))
  (zQ (wJ 3 (zX (zA 3))))))),λds R h=>?_⟩
 obtain ⟨n,bs,ms,u,rows,rfl,n3,b6,hr0,l9,q⟩:=h
 have hp:(List.map yR bs).length=bs.length:=List.length_map ..
 refine ⟨_,rfl,?_⟩
 refine vG U zr jT (λr=>L (uC n bs.length r)) (by omega) (λr hr=>?_) ?_
 ·have lr:=hr0 r hr
  refine ⟨k0,by omega,by omega,by rw [wg lr,List.length_map,List.length_take,List.length_replicate]; omega,_,jW lr,k0,by rw [wg lr,List.length_append,List.length_map,List.length_take,List.length_replicate]; show _ + 1<=1000; omega,?_⟩
  rw [wg lr,hp,show ((bs.length:Nat):Int).toNat=bs.length by omega]
  show D.lst _=_
  unfold uC L
  rw [List.map_append,List.map_append,List.map_replicate]
  rfl
 refine ⟨by omega,by omega,?_⟩
 rw [show ((List.length (List.map yR bs):Nat):Int).toNat=bs.length by omega]
 refine ⟨λk Γ=>∃ s4 s5,Γ=[.sh (xM n bs ms u),.sh (Rm rows),.sh (.int ((bs.map yR).length:Int)),.ow ((rows.map (uC n bs.length)++((bs.mapIdx (xz n bs.length)).take k).flatten).map L),s4,s5],⟨_,_,by rw [List.take_zero,List.flatten_nil,List.append_nil,List.map_map]; rfl⟩,?_,?_⟩
 ·rintro k d Γ' hk ⟨s4,s5,rfl⟩
  obtain ⟨kl,rfl⟩:=vT hk
  have hx:(bs.mapIdx (xz n bs.length))[k]? = some (xz n bs.length k bs[k]):=by rw [List.getElem?_mapIdx,List.getElem?_eq_getElem kl]; rfl
  have ll:((bs.mapIdx (xz n bs.length)).take k).flatten.length=2 * k:=by
   rw [List.length_flatten]
   have e:((bs.mapIdx (xz n bs.length)).take k).map List.length=List.replicate k 2:=by
    refine List.ext_getElem (by simp; omega) λi h1 h2=>?_
    simp [xz]
   rw [e]
   simp
   omega
  have lw:((rows.map (uC n bs.length)++((bs.mapIdx (xz n bs.length)).take k).flatten).map L).length=rows.length + 2 * k:=by rw [List.length_map,List.length_append,List.length_map,ll]
  refine ⟨k0,_,rfl,by omega,by omega,by omega,by omega,?_⟩
  rw [show ((List.length (List.map yR bs):Nat):Int).toNat=bs.length by omega]
  refine zf.rng0 (λj=>.int (if (j:Int)=(k:Int) then 1 else 0)) (by omega) (λj hj=>by show D.int _=_; rw [zOB]) ?_
  have eu:(List.range bs.length).map (λj:Nat=>D.int (if (j:Int)=(k:Int) then 1 else 0))=(xH (k:Int) bs.length 1).map D.int:=by unfold xH; rw [List.map_map]; rfl
  have ez:List.replicate ((n:Nat):Int).toNat (D.int 0)++(xH (k:Int) bs.length 1).map D.int=(xH ((n + k:Nat):Int) (n + bs.length) 1).map D.int:=by
   rw [<- zJX,List.map_append,show ((n:Nat):Int).toNat=n by omega,List.map_replicate]
  rw [eu]
  refine ⟨by rw [List.length_replicate,List.length_map,uB]; omega,?_⟩
  rw [ez]
  refine ⟨_,rfl,_,Wi kl rfl,_,rfl,k0,by rw [List.length_map,uB]; show _ + 1<=1000; omega,by omega,?_⟩
  refine zf.int (λx=>0 - x) (by rw [uB]; omega) (λx hx=>rfl) ?_
  refine ⟨_,rfl,_,Wi kl rfl,_,rfl,k0,by rw [List.length_map,List.length_map,uB]; show _ + 1<=1000; omega,by rw [List.length_append,lw]; show _ + 1 < 1000; omega,?_⟩
  refine ⟨.sh (.int (k:Int)),.sh (L (xH ((n + k:Nat):Int) (n + bs.length) 1)),?_⟩
  rw [zKU hx,<- List.append_assoc,List.map_append (l₂:=xz n bs.length k bs[k])]
  unfold xz
  rw [List.map_cons,List.map_cons,List.map_nil,L,L,List.map_append,List.map_append,List.map_append,<- List.append_cons,zMd,Int.zero_sub]
  rfl
 ·rintro Γ' ⟨s4,s5,rfl⟩
  rw [vU,List.take_of_length_le (by rw [List.length_mapIdx]; omega)]
  exact q
theorem zFs {k:Nat} {f:Addr} {fd:FuncData} (F:zg K "_law_steps_show" "_law_steps_show" Ww f fd) (B:Bl mg) (ak:Fn P w K mg base "_law_list" ["_law_thing_here","_law_many"] k (zH (jA))) (bV:Fn P w K mg base "_law_reach" ["_law_spec","_law_mode_here","_law_row"] k (qg (zLv))) (aD:Fn P w K mg base "_law_all_show" ["_law_rows_here","_law_targets","_law_some"] k (zH (Qv))) (bW:Fn P w K mg base "_law_standing" ["_law_spec","_law_rows_here"] k (zH (zLt))):zF P w K mg base zW (k + 1) f fd ["_law_spec","_law_room","_law_after","_law_some"] (zH (zLs)):=by
 refine yC F Wx (λds R h=>by obtain ⟨n,bs,ms,u,room,behind,d,k,rfl,_⟩:=h; rfl) λcdv A outer s H E hr=>⟨_,(zM (yL (yg (yU (zU ak hr rfl (zB (zA 3) (zB (zj yP yS rfl B.len_ yQ (zB (zN (zA 0) zE (λ_ _=>rfl)) zC)) zC))))) (zQ (zX yu)) yK)
  (zM (wA PassesOwn.never rfl (j0 rfl B.zip_ (zB (zN (zA 0) zE (λ_ _=>rfl)) (zB (zA 3) zC))) (we rfl (yA 4 Wx.nd rfl (Or.inr rfl) (yA 5 Wx.nd rfl (Or.inl rfl) wd))) (zM (vp 6 false Wx.nd rfl rfl (own:=["_law_row"]) (caps:=[(0,"_law_spec"),(4,"_law_mode_here")]) (yF (S:=zK Ww) (N:=["_law_spec","_law_room","_law_after","_law_some","_law_mode_here","_law_shares","_law_targets"]) rfl (by decide +kernel) rfl ⟨_,rfl⟩ rfl (by decide +kernel) (by decide +kernel)) rfl rfl yH (ym (zA 2)) (λ_ _ _ _=>(zo 0 (show (["_law_row","_law_spec","_law_mode_here"]:List Str).Nodup by decide +kernel) rfl (Or.inl rfl))) (λ_ _ _ _=>(zU (Jb bV) hr rfl (zB (zA 1) (zB (zA 2) (zB (zA 0) zC))))) rfl)
   (zQ (yL (yg (yU (zU aD hr rfl (zB (zU bW hr rfl (zB (zA 0) (zB (zi (zA 1) (zN (zA 4) zE (λ_ _=>rfl))) zC))) (zB (zA 6) (zB (zA 5) zC)))))) (zQ (zX yu)) yK))))
  (zQ (zX yu)))),λds R h=>?_⟩
 obtain ⟨n,bs,ms,u,room,behind,d,k,rfl,TS,R1,R2,f,sb,q⟩:=h
 have n1:=TS.ok.n1
 have n3:=TS.ok.n3
 have b6:=TS.ok.b6
 have f1:=R1.few
 have f2:=R2.few
 have m40:=TS.ok.m40
 have lm:(List.map xk ms).length=ms.length:=List.length_map ..
 refine ⟨_,rfl,d,_,k,rfl,f,w2 (λc1=>bR q ?_) λc1=>?_⟩
 ·rw [lm] at c1
  exact zHv (wS c1)
 rw [lm] at c1
 obtain ⟨as,rfl,la⟩:=jV (wU c1)
 obtain ⟨es,e1,le,j,rfl,hj⟩:=f.lst_inv rfl
 cases e1
 have sb:=sb as rfl
 have key:uc n bs ms room behind (.lst as)=(ms.zip as).all λp=>Yv n bs room behind p.1 p.2:=by
  show (decide _ && _)=_
  rw [decide_eq_true la]
  rfl
 rw [key] at q
 refine ⟨_,rfl,?_⟩
 refine ⟨λk Γ=>∃ s4 s5 s6,Γ=[.sh (xM n bs ms u),.sh (Rm room),.sh (Rm behind),.sh (.lst as),s4,s5,s6]/\((ms.zip as).take k).all (λp=>Yv n bs room behind p.1 p.2)=true,⟨_,_,_,rfl,rfl⟩,?_,?_⟩
 ·rintro k x Γ' hk ⟨s4,s5,s6,rfl,ha⟩
  obtain ⟨x1,a,h1,h2,rfl⟩:=X1 _ hk
  rw [List.getElem?_map] at h1
  cases hm:ms[k]? with
  | none=>rw [hm] at h1; cases h1
  | some m=>
  rw [hm] at h1
  cases h1
  have hm':=List.mem_of_getElem? hm
  have ha':=List.mem_of_getElem? h2
  have hz:(ms.zip as)[k]? = some (m,a):=by rw [List.getElem?_zip_eq_some]; exact ⟨hm,h2⟩
  have MO:=TS.ok.mok m hm'
  have MSm:=TS.ms m hm'
  have f3:=MSm.few
  have hrl:∀ r∈room++m.rows,r.length=n + 1/\∀ x∈r,Bd 1000 x:=λr hr=>by
   rcases List.mem_append.mp hr with hr | hr
   ·exact ⟨(R1.row r hr).1,λx hx=>((R1.row r hr).2 x hx).mono⟩
   ·exact ⟨MO.rows r hr,λx hx=>(MSm.rows r hr x hx).mono⟩
  refine vG U zr jT (λr=>L (uE n bs.length (r.take n) (r.getD n 0) m)) (by omega) (λr hr=>?_) ?_
  ·exact ⟨n,bs,ms,u,m,r,rfl,n3,b6,MO,MSm.mbd,(R2.row r hr).1,λx hx=>((R2.row r hr).2 x hx).mono,rfl⟩
  have RW2:xm (qr n bs.length m behind) (n + bs.length):=by
   refine ⟨λr hr=>?_,by unfold qr; rw [List.length_map]; omega,by omega⟩
   obtain ⟨r0,h0,rfl⟩:=List.mem_map.mp hr
   obtain ⟨lr,br⟩:=R2.row r0 h0
   exact ⟨zHf ..,λx hx=>(zI5 MSm (by rw [List.length_take]; omega) (λy hy=>(br y (List.mem_of_mem_take hy)).mono) (WQ br n).mono x hx).mono⟩
  refine ⟨_,rfl,by rw [List.length_map,List.length_map]; omega,n,bs,ms,u,room++m.rows,by rw [RmA],n3,b6,λr hr=>(hrl r hr).1,by rw [List.length_append]; omega,?_⟩
  refine ⟨_,_,_,qr n bs.length m behind,n + bs.length,a,j,rfl,.inl rfl,.inl (TbM (λr:List Int=>uE n bs.length (r.take n) (r.getD n 0) m) behind),zI0 hrl (by rw [List.length_append]; omega) n3 b6 TS.bs,RW2,hj a ha',sb a ha',w2 (λc=>?_) λc=>?_⟩
  ·exact bR q (Wv hz (wS c))
  ·exact ⟨_,_,_,rfl,XN hz ha (wU c)⟩
 ·rintro Γ' ⟨s4,s5,s6,rfl,ha⟩
  rw [List.length_zipWith,lm,List.take_of_length_le (by rw [List.length_zip]; exact Nat.le_refl _)] at ha
  exact bR q ha
end
theorem zO8 {α:Type} {l:List α} {x z:α} {i:Nat} (h:i < l.length):(l.drop 1++[x]).getD i z=(l++[x]).getD (i + 1) z:=by
 have e:l.drop 1++[x]=(l++[x]).drop 1:=by rw [List.drop_append_of_le_length (by omega)]
 rw [e,List.getD_eq_getElem?_getD,List.getElem?_drop,List.getD_eq_getElem?_getD,Nat.add_comm]
theorem zPL {α:Type} {l:List α} {f g:α->Bool} (h:∀ x∈l,f x=g x):l.all f=l.all g:=by
 induction l with
 | nil=>rfl
 | cons x l ih=>rw [List.all_cons,List.all_cons,h x List.mem_cons_self,ih λy hy=>h y (List.mem_cons_of_mem _ hy)]
theorem zJ9 {n:Nat} {bs:List (Int × Int)} {ms:List MD} {rooms:List (List (List Int))} {b:Nat} {as:List D} (h:(as.length:Int)=(rooms.length:Int)):gj n bs ms rooms b (.lst as)=(List.range rooms.length).all λi=>uc n bs ms (rooms.getD i []) ((rooms++[rooms.getD b []]).getD (i + 1) []) (as.getD i .non):=by
 show (decide _ && _)=_
 rw [decide_eq_true h,Bool.true_and]
 by_cases l0:rooms.length=0
 ·rw [List.eq_nil_of_length_eq_zero l0]
  rfl
 have lf:(rooms.drop 1++[rooms.getD b []]).length=rooms.length:=by rw [List.length_append,List.length_drop]; show _ + 1=_; omega
 have e1:(rooms.drop 1++[rooms.getD b []]).zip as=(List.range rooms.length).map λk=>((rooms.drop 1++[rooms.getD b []]).getD k [],as.getD k .non):=by rw [Qw [] .non (by omega),lf]
 have e2:rooms.zip ((rooms.drop 1++[rooms.getD b []]).zip as)=(List.range rooms.length).map λk=>(rooms.getD k [],((rooms.drop 1++[rooms.getD b []]).zip as).getD k ([],.non)):=Qw ([]:List (List Int)) (([]:List (List Int)),D.non) (by rw [List.length_zip]; omega)
 rw [e2,List.all_map]
 refine zPL λk hk=>?_
 have hk:=List.mem_range.mp hk
 show uc n bs ms (rooms.getD k []) (((rooms.drop 1++[rooms.getD b []]).zip as).getD k ([],.non)).1 (((rooms.drop 1++[rooms.getD b []]).zip as).getD k ([],.non)).2=_
 have e3:((rooms.drop 1++[rooms.getD b []]).zip as).getD k ([],.non)=((rooms.drop 1++[rooms.getD b []]).getD k [],as.getD k .non):=by rw [e1,List.getD_eq_getElem?_getD,List.getElem?_map,List.getElem?_range hk]; rfl
 rw [e3,zO8 hk]
theorem zMj {n f:Nat} {rooms:List (List (List Int))} {g:List (List Int)} {as:List D} (h:(as.length:Int)=(rooms.length:Int)):gk n rooms f g (.lst as)=(List.range rooms.length).all λi=>!decide (f<=i) || uF (rooms.getD i []) g n (as.getD i .non):=by
 show (decide _ && _)=_
 rw [decide_eq_true h,Bool.true_and,Bool.eq_iff_iff,List.all_eq_true,List.all_eq_true]
 constructor
 ·intro hz i hi
  have hi:=List.mem_range.mp hi
  by_cases c:f<=i
  ·rw [decide_eq_true c,Bool.not_true,Bool.false_or]
   refine hz (rooms.getD i [],as.getD i .non) (List.mem_iff_getElem.mpr ⟨i - f,by rw [List.length_zip,List.length_drop,List.length_drop]; omega,?_⟩)
   rw [List.getElem_zip,List.getElem_drop,List.getElem_drop]
   have e:f + (i - f)=i:=by omega
   simp only [e]
   rw [List.getD_eq_getElem?_getD,List.getElem?_eq_getElem hi,List.getD_eq_getElem?_getD,List.getElem?_eq_getElem (by omega)]
   rfl
  ·rw [decide_eq_false c]
   rfl
 ·intro hz p hp
  obtain ⟨j,hj,e⟩:=List.mem_iff_getElem.mp hp
  rw [List.length_zip,List.length_drop,List.length_drop] at hj
  have:=hz (f + j) (List.mem_range.mpr (by omega))
  rw [decide_eq_true (by omega),Bool.not_true,Bool.false_or] at this
  rw [<- e,List.getElem_zip,List.getElem_drop,List.getElem_drop]
  rw [List.getD_eq_getElem?_getD,List.getElem?_eq_getElem (by omega),List.getD_eq_getElem?_getD,List.getElem?_eq_getElem (by omega)] at this
  exact this
def XQ:FL:=λds R=>∃ n bs ms u s g t rooms BK A1 A2 A3 k,ds=[xM n bs ms u,Rm s,Rm g,.int t,wl rooms BK A1 A2 A3]/\j6 n bs ms/\xi s n/\xi g n/\0<=t/\jX n rooms/\BK.isObj=false/\Fw k A1/\Fw k A2/\Fw k A3/\xD A1/\ug A2/\xE A3/\R (.bool (xf n bs ms s g t rooms BK A1 A2 A3))
theorem zO2 {n:Nat} {bs:List (Int × Int)} {ms:List MD} {s g:List (List Int)} {t:Int} {rooms:List (List (List Int))} {BK A1 A2 A3:D} (h:uP BK=false):xf n bs ms s g t rooms BK A1 A2 A3=false:=by
 cases BK with
 | int b=>cases h
 | _=>rfl
section
variable {P:Program} {w:World} {K:PySem.W.Frag} {mg:Str->Option Value} {base:Heap}
abbrev Qz:Stmt:=zp 95
theorem qC:ze ["_law_spec","_law_start","_law_rows_here","_law_turn","_law_parts_here","_law_rooms","_law_back","_law_starts","_law_steps","_law_stays","_law_at","_law_after"] ["_law_spec","_law_start","_law_rows_here","_law_turn","_law_parts_here"] (zK Qz):=.a
variable {aClaim aSettles aComes aa ac aPaper aRooms aFalls:Addr} (Cc:Cs K mg aClaim aSettles aComes aa ac aPaper aRooms aFalls)
include Cc
theorem zJs {k:Nat} {f:Addr} {fd:FuncData} (F:zg K "_law_right" "_law_right" Qz f fd) (B:Bl mg) (aH:Fn P w K mg base "_law_whole" ["_law_found"] k (zH (uz))) (ak:Fn P w K mg base "_law_list" ["_law_thing_here","_law_many"] k (zH (jA))) (aD:Fn P w K mg base "_law_all_show" ["_law_rows_here","_law_targets","_law_some"] k (zH (Qv))) (bX:Fn P w K mg base "_law_steps_show" ["_law_spec","_law_room","_law_after","_law_some"] k (zH (zLs))):zF P w K mg base zW (k + 1) f fd ["_law_spec","_law_start","_law_rows_here","_law_turn","_law_parts_here"] (zH (XQ)):=by
 refine yC F qC (λds R h=>by obtain ⟨n,bs,ms,u,s,g,t,rooms,BK,A1,A2,A3,k,rfl,_⟩:=h; rfl) λcdv A outer s H E hr=>⟨_,(zM (qe (zA 4) (we rfl (yA 5 qC.nd rfl (Or.inl rfl) (yA 6 qC.nd rfl (Or.inl rfl) (yA 7 qC.nd rfl (Or.inl rfl) (yA 8 qC.nd rfl (Or.inl rfl) (yA 9 qC.nd rfl (Or.inl rfl) wd)))))))
  (zM (yL (PW.pt (xg (yg (yU (zU aH hr rfl (zB (zA 6) zC)))) (wI (yg (zKp KT UM jw jw zE (zA 6) (zj yP yS rfl B.len_ yQ (zB (zA 5) zC))))))) (zQ (zX yu)) yK)
  (zM (yL (PW.pt (xg (yg (yU (zU ak hr rfl (zB (zA 8) (zB (zj yP yS rfl B.len_ yQ (zB (zA 5) zC)) zC))))) (wI (yg (yU (zU ak hr rfl (zB (zA 9) (zB (zj yP yS rfl B.len_ yQ (zB (zA 5) zC)) zC)))))))) (zQ (zX yu)) yK)
  (zM (yL (yg (yU (zU aD hr rfl (zB (zA 1) (zB (zN (zA 5) zE (λ_ _=>rfl)) (zB (zA 7) zC)))))) (zQ (zX yu)) yK)
  (zM (wA PassesOwn.never rfl (y3 rfl B.range_ (zB (zj yP yS rfl B.len_ yQ (zB (zA 5) zC)) zC)) (zo 10 qC.nd rfl (Or.inl rfl)) (zM (zv 11 qC.nd rfl (Or.inl rfl) (zN (zi (zA 5) (yd (zB (zN (zA 5) (zA 6) (λ_ _=>rfl)) zC))) (zi (zA 10) zE) (λ_ _=>rfl)))
   (zM (yL (yg (yU (zU bX hr rfl (zB (zA 0) (zB (zN (zA 5) (zA 10) (λ_ _=>rfl)) (zB (zA 11) (zB (zN (zA 8) (zA 10) (λ_ _=>rfl)) zC))))))) (zQ (zX yu)) yK)
   (zQ (yL (PW.pt (xg (gY (zA 10) (zA 6)) (wI (gY (zA 10) (zA 3))))) (zQ (yL (yg (yU (zU aD hr rfl (zB (zN (zA 5) (zA 10) (λ_ _=>rfl)) (zB (zA 2) (zB (zN (zA 9) (zA 10) (λ_ _=>rfl)) zC)))))) (zQ (zX yu)) yK)) yK)))))
  (zQ (zX yu))))))),λds R h=>?_⟩
 obtain ⟨n,bs,ms,u,s,g,t,rooms,BK,A1,A2,A3,k,rfl,TS,RS,RG,t0,RR,bo,F1,F2,F3,B1,B2,B3,q⟩:=h
 have n3:=TS.ok.n3
 have few:=RR.few
 have lm:(List.map Rm rooms).length=rooms.length:=List.length_map ..
 refine ⟨BK,rfl,bo,w2 (λc1=>wT rfl (bR q (zO2 (wS c1)))) λc1=>?_⟩
 obtain ⟨b,rfl⟩:=QD (wU c1)
 refine w2 (λc2=>w2 (λc3=>bR q (if_pos (.inr (by have:=of_decide_eq_false (wS c3); omega)))) λc3=>?_) λc2=>wT rfl (bR q (if_pos (.inl (by have:=of_decide_eq_false c2; omega))))
 have b0:0<=b:=of_decide_eq_true c2
 have bl:b < (rooms.length:Int):=by have:=of_decide_eq_true (wU c3); omega
 have z:xf n bs ms s g t rooms (.int b) A1 A2 A3=(uF s (rooms.getD 0 []) n A1 && (gj n bs ms rooms b.toNat A2 && gk n rooms (min b t).toNat g A3)):=if_neg (by omega)
 rw [z] at q
 clear c1 c2 c3 z
 refine ⟨A2,_,k,rfl,F2,w2 (λc4=>wT rfl (bR q (by rw [lm] at c4; rw [zGW (wS c4),Bool.false_and,Bool.and_false]))) λc4=>⟨A3,_,k,rfl,F3,w2 (λc5=>bR q (by rw [lm] at c5; rw [zIz (wS c5),Bool.and_false,Bool.and_false])) λc5=>?_⟩⟩
 rw [lm] at c4 c5
 obtain ⟨a2,rfl,l2⟩:=jV (wU c4)
 obtain ⟨a3,rfl,l3⟩:=jV (wU c5)
 obtain ⟨es,e1,le2,j2,rfl,hj2⟩:=F2.lst_inv rfl
 cases e1
 obtain ⟨es,e1,le3,j3,e2,hj3⟩:=F3.lst_inv rfl
 cases e1
 cases e2
 have B2:=B2 a2 rfl
 have B3:=B3 a3 rfl
 rw [zJ9 l2,zMj l3] at q
 clear c4 c5
 refine ⟨_,uh (b:=0) (by decide) (by omega),Rm s,_,s,rooms.getD 0 [],n,A1,_,rfl,.inr rfl,.inr rfl,RS.rw n3,(RR.rm _ (j7 (by omega))).rw n3,F1,B1,w2 (λc6=>bR q (by rw [wS c6]; rfl)) λc6=>?_⟩
 rw [wU c6,Bool.true_and] at q
 clear c6
 refine ⟨by omega,by omega,?_⟩
 rw [show ((List.length (List.map Rm rooms):Nat):Int).toNat=rooms.length by omega]
 refine ⟨λk Γ=>∃ s10 s11,Γ=[.sh (xM n bs ms u),.sh (Rm s),.sh (Rm g),.sh (.int t),.sh (wl rooms (.int b) A1 (.lst a2) (.lst a3)),.sh (ue rooms),.sh (.int b),.sh A1,.sh (.lst a2),.sh (.lst a3),s10,s11]/\((List.range rooms.length).take k).all (λi=>uc n bs ms (rooms.getD i []) ((rooms++[rooms.getD b.toNat []]).getD (i + 1) []) (a2.getD i .non))=true/\((List.range rooms.length).take k).all (λi=>!decide ((min b t).toNat<=i) || uF (rooms.getD i []) g n (a3.getD i .non))=true,⟨_,_,rfl,rfl,rfl⟩,?_,?_⟩
 ·rintro k d Γ' hk ⟨s10,s11,rfl,hA,hB⟩
  obtain ⟨kl,rfl⟩:=vT hk
  have hr:(List.range rooms.length)[k]? = some k:=List.getElem?_range kl
  have lx:(rooms++[rooms.getD b.toNat []]).length=rooms.length + 1:=by rw [List.length_append]; rfl
  have hx:∀ r∈rooms++[rooms.getD b.toNat []],xi r n:=λr h=>(List.mem_append.mp h).elim (RR.rm r) λh=>by rw [List.mem_singleton.mp h]; exact RR.rm _ (j7 (by omega))
  have ex:D.lst (rooms.map Rm++[Rm (rooms.getD b.toNat [])])=ue (rooms++[rooms.getD b.toNat []]):=by unfold ue; rw [List.map_append]; rfl
  have ax:ya ((rooms++[rooms.getD b.toNat []]).map Rm) ((k:Int) + 1)=some (Rm ((rooms++[rooms.getD b.toNat []]).getD (k + 1) [])):=by
   have:=uh (rooms:=rooms++[rooms.getD b.toNat []]) (b:=(k:Int) + 1) (by omega) (by omega)
   rw [show ((k:Int) + 1).toNat=k + 1 by omega] at this
   exact this
  have m2:a2.getD k .non∈a2:=kB (by omega)
  have m3:a3.getD k .non∈a3:=kB (by omega)
  refine ⟨_,uh b0 bl,k0,by rw [lm]; show _ + 1<=1000; omega,?_⟩
  rw [ex]
  refine ⟨_,ax,?_⟩
  refine ⟨_,xx [] kl,_,jg (by omega),n,bs,ms,u,_,_,_,j2,rfl,TS,RR.rm _ (j7 kl),hx _ (j7 (by omega)),hj2 _ m2,B2 _ m2,w2 (λc7=>bR q ?_) λc7=>?_⟩
  ·rw [Wv hr (f:=λi=>uc n bs ms (rooms.getD i []) ((rooms++[rooms.getD b.toNat []]).getD (i + 1) []) (a2.getD i .non)) (wS c7)]
   rfl
  have hA':=XN hr hA (wU c7)
  have inner:∀ (hb:(min b t).toNat<=k) (Γ2:List Sl),True:=λ_ _=>trivial
  refine w2 (λc8=>wT rfl ?_) λc8=>w2 (λc9=>?_) λc9=>?_
  ·have hb:(min b t).toNat<=k:=by have:=of_decide_eq_true c8; omega
   refine ⟨_,xx [] kl,_,jg (by omega),_,Rm g,rooms.getD k [],g,n,_,j2,rfl,.inr rfl,.inr rfl,(RR.rm _ (j7 kl)).rw n3,RG.rw n3,hj3 _ m3,B3 _ m3,w2 (λc=>bR q ?_) λc=>⟨_,_,rfl,hA',XN hr hB (by rw [wU c,Bool.or_true])⟩⟩
   rw [Wv hr (f:=λi=>!decide ((min b t).toNat<=i) || uF (rooms.getD i []) g n (a3.getD i .non)) (by rw [decide_eq_true hb,wS c]; rfl),Bool.and_false]
  ·have hb:(min b t).toNat<=k:=by have:=of_decide_eq_true c9; omega
   refine ⟨_,xx [] kl,_,jg (by omega),_,Rm g,rooms.getD k [],g,n,_,j2,rfl,.inr rfl,.inr rfl,(RR.rm _ (j7 kl)).rw n3,RG.rw n3,hj3 _ m3,B3 _ m3,w2 (λc=>bR q ?_) λc=>⟨_,_,rfl,hA',XN hr hB (by rw [wU c,Bool.or_true])⟩⟩
   rw [Wv hr (f:=λi=>!decide ((min b t).toNat<=i) || uF (rooms.getD i []) g n (a3.getD i .non)) (by rw [decide_eq_true hb,wS c]; rfl),Bool.and_false]
  ·have hb:¬ (min b t).toNat<=k:=by have:=of_decide_eq_false c8; have:=of_decide_eq_false c9; omega
   exact ⟨_,_,rfl,hA',XN hr hB (by rw [decide_eq_false hb]; rfl)⟩
 ·rintro Γ' ⟨s10,s11,rfl,hA,hB⟩
  rw [vU,List.take_of_length_le (by rw [List.length_range]; exact Nat.le_refl _)] at hA hB
  rw [hA,hB] at q
  exact q
end
def zOI (C:Addr):FL:=λds R=>∃ s g t,ds=[s,g,t]/\Fw 6 s/\Fw 6 g/\R (.obj C zQx [s,g,t])
theorem Wy {Z:Addr->Prop} {H H':Hp} {N N':Addr->Prop} {p:Addr} {d0 d2 d3 d4:List D} {db:D} {l0 l2 l3 l4:Addr} {vb:V} {x0 x2 x3 x4:List V} (A:YU Z H N p d0 db d2 d3 d4 l0 l2 l3 l4 vb x0 x2 x3 x4) (s:zD H H') (n:∀ l,N l->N' l):YU Z H' N' p d0 db d2 d3 d4 l0 l2 l3 l4 vb x0 x2 x3 x4:=
 have t:=zz s
 ⟨s _ _ A.p,A.b.same t,A.z0,A.z2,A.z3,A.z4,n _ A.n0,n _ A.n2,n _ A.n3,n _ A.n4,s _ _ A.e0,s _ _ A.e2,s _ _ A.e3,s _ _ A.e4,yD t A.h0,yD t A.h2,yD t A.h3,yD t A.h4,A.q02,A.q03,A.q04,A.q23,A.q24,A.q34⟩
theorem zP6 {Z:Addr->Prop} {H:Hp} {N:Addr->Prop} {p:Addr} {d0 d2 d3 d4:List D} {db:D} {l0 l2 l3 l4:Addr} {vb:V} {x0 x2 x3 x4:List V} (A:YU Z H N p d0 db d2 d3 d4 l0 l2 l3 l4 vb x0 x2 x3 x4):DV H (.ref p) (xW d0 db d2 d3 d4):=
 .lst A.p (.cons (.lst A.e0 (yD zm A.h0)) (.cons (A.b.same zm) (.cons (.lst A.e2 (yD zm A.h2)) (.cons (.lst A.e3 (yD zm A.h3)) (.cons (.lst A.e4 (yD zm A.h4)) .nil)))))
theorem Q0 {di dg dt ei eg et db eb:D} {d0 d2 d3 d4 e0 e2 e3 e4:List D} (e:D.tup [di,dg,dt,xW d0 db d2 d3 d4]=D.tup [ei,eg,et,xW e0 eb e2 e3 e4]):di=ei/\dg=eg/\dt=et/\d0=e0/\db=eb/\d2=e2/\d3=e3/\d4=e4:=by
 cases e
 exact ⟨rfl,rfl,rfl,rfl,rfl,rfl,rfl,rfl⟩
theorem Q1 {db eb:D} {d0 d2 d3 d4 e0 e2 e3 e4:List D} (e:xW d0 db d2 d3 d4=xW e0 eb e2 e3 e4):d0=e0/\db=eb/\d2=e2/\d3=e3/\d4=e4:=by
 cases e
 exact ⟨rfl,rfl,rfl,rfl,rfl⟩
theorem zOb {H:Hp} {x dx:Addr} {o o':HO} (hx:H x=none) (hd:H dx=none):zD H (zL (λb=>b=x) (zY (zY H dx o) x o')):=λb u e=>by
 have c:=xG e hx
 have c2:=xG e hd
 rw [xV (Z:=λb=>b=x) c,zu c,zu c2]
 exact e
inductive Ev (H:Hp):List Sl->St->Prop
 | nil:Ev H [] []
 | no {o:Option V} {Γ:List Sl} {σ:St} (h:Ev H Γ σ):Ev H (.no :: Γ) (o :: σ)
 | sh {v:V} {d:D} {Γ:List Sl} {σ:St} (a:DV H v d) (h:Ev H Γ σ):Ev H (.sh d :: Γ) (some v :: σ)
theorem Ev.len {H:Hp} {Γ:List Sl} {σ:St} (h:Ev H Γ σ):Γ.length=σ.length:=by
 induction h with
 | nil=>rfl
 | no _ ih=>exact congrArg (· + 1) ih
 | sh _ _ ih=>exact congrArg (· + 1) ih
theorem Ev.get {H:Hp} {Γ:List Sl} {σ:St} (h:Ev H Γ σ):∀ i,slot Γ i=.no\/∃ d v,slot Γ i=.sh d/\σ[i]? = some (some v)/\DV H v d:=by
 induction h with
 | nil=>exact λi=>.inl rfl
 | no _ ih=>
  intro i
  cases i with
  | zero=>exact .inl rfl
  | succ i=>exact ih i
 | sh a _ ih=>
  intro i
  cases i with
  | zero=>exact .inr ⟨_,_,rfl,rfl,a⟩
  | succ i=>exact ih i
theorem Ev.env {Z0:Addr->Prop} {H0:Hp} {Z:Addr->Prop} {Γ:List Sl} {σ:St} {H:Hp} (h:Ev (zL Z H) Γ σ) (zd:ZL Z H) (z0:∀ b,Z0 b->Z b) (z0d:ZL Z0 H0) (s:zD H0 H):yq Z0 H0 Z Γ σ H:=by
 have nw:∀ i ds,slot Γ i≠.ow ds:=λi ds e=>by rcases h.get i with k | ⟨_,_,k,_⟩ <;> rw [k] at e <;> cases e
 have nb:∀ i o c ns ds,slot Γ i≠.ob o c ns ds:=λi o c ns ds e=>by rcases h.get i with k | ⟨_,_,k,_⟩ <;> rw [k] at e <;> cases e
 refine ⟨⟨λi d e=>?_,λi ds e=>absurd e (nw i ds),λi o c ns ds e=>absurd e (nb i o c ns ds),λi j as bs l e=>absurd e (nw i as),zd,h.len⟩,z0,z0d,s,λi ds l e=>absurd e (nw i ds),λi o c ns ds e=>absurd e (nb i o c ns ds)⟩
 rcases h.get i with k | ⟨d',v,k,h1,h2⟩
 ·rw [k] at e; cases e
 ·rw [k] at e
  cases e
  exact ⟨v,h1,h2⟩
structure ul (J J':Hp) (ls:List Addr) (i:Nat):Prop where
 at_:∀ l∈ls,∃ ys,J' l=some (.lst ys)/\ys.length<=900 + i
 same:∀ b o,b∉ls->J b=some o->J' b=some o
theorem ul.app {J J':Hp} {ls:List Addr} {i:Nat} (F:ul J J' ls i) {l:Addr} (h:l∈ls) {ys:List V} (e:J' l=some (.lst ys)) (k:ys.length<=900 + i) (y:V):ul J (zY J' l (.lst (ys++[y]))) ls (i + 1):=by
 refine ⟨λl' h'=>?_,λb o nb eb=>?_⟩
 ·by_cases c:l'=l
  ·rw [c]
   exact ⟨_,xF,by rw [List.length_append]; show _ + 1<=_; omega⟩
  ·obtain ⟨zs,e2,k2⟩:=F.at_ l' h'
   exact ⟨zs,(zu c).trans e2,by omega⟩
 ·rw [zu λz=>nb (by rw [z]; exact h)]
  exact F.same b o nb eb
theorem Q2 {k:Nat} {xs:List D} (h:Fw k (.lst xs)):xs.length<=900:=by
 obtain ⟨_,e,l,_⟩:=h.lst_inv rfl
 cases e
 exact l
def ji:FL:=λds R=>∃ ns,ds=[.scr ns]/\R (.bool true)
section
variable {P:Program} {w:World} {K:PySem.W.Frag} {mg:Str->Option Value} {base:Heap}
abbrev Q3:Stmt:=jn (zp 20) 0
theorem zEh:ze ["self","start","goal","turns"] ["self","start","goal","turns"] (zK Q3):=.a
abbrev kG:Stmt:=zp 99
theorem v5:ze ["_law_script","_law_spec","_law_inner","_law_rows_here","_law_turn","_law_parts_here","_law_start","_law_paper","_law_due","_law_one","_law_claim","_law_found"] ["_law_script"] (zK kG):=.a
variable {aClaim aSettles aComes aa ac aPaper aRooms aFalls:Addr} (Cc:Cs K mg aClaim aSettles aComes aa ac aPaper aRooms aFalls)
include Cc
theorem zEr {k:Nat} {f:Addr} {fd:FuncData} (F:zg K "__init__" "Comes.__init__" Q3 f fd) (B:Bl mg) (ae:vK P w K mg base "copied" ["value","depth"] k (u8 6) (.int 5)):zF P w K mg base zW (k + 1) f fd ["self","start","goal","turns"] (vE aComes (zOI aComes)):=by
 refine JU F zEh (λds R h=>by obtain ⟨s,g,t,rfl,_⟩:=h; rfl) λcdv A outer s H E hr=>⟨_,(zM (yI (wP (zZ 0) (jP (.int 5) (λ_=>.int 5) (jU ae) hr rfl (zB (zA 1) zC)) rfl) vY)
  (zM (yI (wP (zZ 0) (jP (.int 5) (λ_=>.int 5) (jU ae) hr rfl (zB (zA 2) zC)) rfl) vY)
  (zQ (yI (wP (zZ 0) (zA 3) rfl) vY)))),λo ds R h=>?_⟩
 obtain ⟨s,g,t,rfl,f1,f2,q⟩:=h
 refine ⟨s,5,rfl,f1,⟨Cc.t2.cl,Cc.u2.n_start⟩,by decide +kernel,by decide,rfl,?_⟩
 refine ⟨g,5,rfl,f2,⟨Cc.t2.cl,Cc.u2.n_goal⟩,by decide +kernel,by decide,rfl,?_⟩
 exact ⟨⟨Cc.t2.cl,Cc.u2.n_turns⟩,by decide +kernel,by decide,rfl,rfl,q⟩
theorem zQM {k:Nat} {f:Addr} {fd:FuncData} (F:zg K "law" "law" kG f fd) (B:Bl mg) (bY:Fn P w K mg base "_law_thing" ["_law_script"] (k + 1) (zH (fTh))) (bZ:Fn P w K mg base "_law_parts" ["_law_spec","_law_cell"] (k + 1) (vL Jg (XH))) (au:Fn P w K mg base "_law_cell_at" ["_law_script","_law_k"] (k + 1) (zH (QR))) (b7:Fn P w K mg base "_law_spoilt" ["_law_parts_here","_law_cell"] (k + 1) (Jj (XJ))) (ap:Fn P w K mg base "_law_rows" ["_law_box_here"] (k + 1) (zH (Y3))) (b8:uX P w K mg base aRooms ["self","rooms","back","starts","steps","stays"] k (zNs aRooms)) (b9:Fn P w K mg base "_law_right" ["_law_spec","_law_start","_law_rows_here","_law_turn","_law_parts_here"] (k + 1) (zH (XQ))) (aK:wZ P w K mg base aSettles ["self","start","rows","turn"] k (vE aSettles (zQg aSettles)) (.int 0)) (aL:Fn P w K mg base "lets_by" ["thing","claim","paper"] (k + 1) (zH (zQj ac aa aSettles aRooms aComes))) (aM:Fn P w K mg base "_law_made" ["_law_spec"] (k + 1) (zH (zQh ac aa))) (ca:uX P w K mg base aComes ["self","start","goal","turns"] k (vE aComes (zOI aComes))):zF P w K mg base zW (k + 1 + 1) f fd ["_law_script"] (zH ji):=by
 refine F.ok v5 (λvs H Q E h=>?_) (λcdv A outer s H vs Q E hr h=>?_)
 ·obtain ⟨Z,ds,R,zd,hv,⟨ns,rfl,hR⟩,q⟩:=h
  exact xC hv
 obtain ⟨Z,ds,R,zd,hv,⟨ns,rfl,hR⟩,q⟩:=h
 refine ⟨_,(wD (jD (i:=1) v5.nd rfl (Or.inl rfl) (uJ bY hr rfl (zS (zZ 0) zy)))
  (wD (UF (uJ bZ hr rfl (zS (zZ 1) (zS (uJ au hr rfl (zS (zZ 0) (zS vM zy))) zy))) (KI rfl (uo (vh (i:=2) v5.nd rfl (Or.inl rfl)) (uo (vh (i:=3) v5.nd rfl (Or.inl rfl)) (uo (vh (i:=4) v5.nd rfl (Or.inl rfl)) (uo (vh (i:=5) v5.nd rfl (Or.inl rfl)) UD))))))
  (wD (jD (i:=5) v5.nd rfl (Or.inl rfl) (uJ b7 hr rfl (zS (zZ 5) (zS (uJ au hr rfl (zS (zZ 0) (zS vM zy))) zy))))
  (wD (jD (i:=6) v5.nd rfl (Or.inl rfl) (uJ ap hr rfl (zS (zZ 2) zy)))
  (wD (jD (i:=7) v5.nd rfl (Or.inl rfl) (zI8 b8 Cc.t6 hr rfl (zS (uU jI (zZ 5) vM (λ_ _=>rfl)) (zS (uU jI (zZ 5) vM (λ_ _=>rfl)) (zS (uU jI (zZ 5) vM (λ_ _=>rfl)) (zS (uU jI (zZ 5) vM (λ_ _=>rfl)) (zS (uU jI (zZ 5) vM (λ_ _=>rfl)) zy)))))))
  (wD (jD (i:=8) v5.nd rfl (Or.inl rfl) (uJ b9 hr rfl (zS (zZ 1) (zS (zZ 6) (zS (zZ 3) (zS (zZ 4) (zS (zZ 5) zy)))))))
  (wD (KO PassesOwn.never rfl (KN (gJ (zS (uU jI (zZ 5) vM (λ_ _=>rfl)) (zS (uU jI (zZ 5) vM (λ_ _=>rfl)) (zS (uU jI (zZ 5) vM (λ_ _=>rfl)) (zS (uU jI (zZ 5) vM (λ_ _=>rfl)) zy)))))) (vh (i:=9) v5.nd rfl (Or.inl rfl)) (jC (xy (wG PySem.F.plainAttrs_list PySem.F.slot_list_append PySem.F.type_list_append yb (zZ 9) (zS KE zy)))))
  (zM (zv 10 v5.nd rfl (Or.inl rfl) (X7 aK.fn Cc.t1 hr rfl (zB (xP wn wr rfl B.list_ xS (zB (zA 6) zC)) (zB (xP wn wr rfl B.list_ xS (zB (zA 3) zC)) (zB (zA 4) zC)))))
  (JI (yL (wp hr.units (zA 4) zE) (zQ (zv 10 v5.nd rfl (Or.inl rfl) (zMu (.int 0) (λ_=>.int 0) aK Cc.t1 hr rfl (zB (xP wn wr rfl B.list_ xS (zB (zA 6) zC)) (zB (xP wn wr rfl B.list_ xS (zB (zA 3) zC)) zC))))) yK)
  (zM (zv 11 v5.nd rfl (Or.inl rfl) (zU aL hr rfl (zB (zU aM hr rfl (zB (zA 1) zC)) (zB (zA 10) (zB (zA 7) zC)))))
  (zM (yL (PW.pt (xg (yg (yU (yO (xQ wQ rfl B.isinstance_ xZ (zS (zA 11) (zS (wC (v:=.ty "bool") (u:=.type "bool") rfl B.bool_ Uh rfl) zy))) (wf JQ)))) (wI (gX hr.units (zA 11) (zA 8))))) (zQ (zX yu)) yK)
  (zQ (zX (YL (zU aL hr rfl (zB (zU aM hr rfl (zB (zA 1) zC)) (zB (X7 ca Cc.t2 hr rfl (zB (xP wn wr rfl B.list_ xS (zB (zA 6) zC)) (zB (xP wn wr rfl B.list_ xS (zB (zA 3) zC)) (zB (zA 4) zC)))) (zB (zA 7) zC)))) yu)))))))))))))),?_⟩
 obtain ⟨v0,rfl,h0⟩:=y6 hv
 refine ⟨v0,rfl,Z,[.scr ns],λd=>∃ n bs ms u,d=xM n bs ms u/\ve n bs ms u,zd,.cons h0 .nil,⟨ns,rfl,λn bs ms u T=>⟨n,bs,ms,u,rfl,T⟩⟩,?_⟩
 rintro _ v1 J1 ⟨n,bs,ms,u,rfl,T⟩ s1 h1
 have h0:=h0.same (zz s1)
 refine ⟨v1,rfl,v0,rfl,Z,[.scr ns,.int 5],λd=>∃ c,d=.int c,zd.same s1,.cons h0 (.cons (.int _) .nil),⟨ns,5,rfl,by decide,λc=>⟨c,rfl⟩⟩,?_⟩
 rintro _ w2 J2 ⟨c5,rfl⟩ s2 hw
 cases hw
 have h0:=h0.same (zz s2)
 have h1:=h1.same (zz s2)
 have s2:=s1.trans s2
 refine ⟨Z,[xM n bs ms u,.int c5],λd=>∃ inner g t rooms back S1 S4 S3,d=.tup [za inner,Rm g,.int t,wl rooms (.int back) (xB S1) (qB S4) (zx S3)]/\Qd n inner/\Qe n g/\0<=t/\Qi n rooms/\uj S1/\XG S4/\S4.length=rooms.length/\wM S3,zd.same s2,.cons h1 (.cons (.int _) .nil),⟨n,bs,ms,u,c5,rfl,T,λinner g t rooms back S1 S4 S3 a1 a2 a3 a4 a5 a6 a7 a8 a9 b1 b2=>⟨inner,g,t,rooms,back,S1,S4,S3,rfl,a1,a2,a3,a5,a8,a9,b1,b2⟩⟩,?_⟩
 rintro _ _ J3 ⟨di,dg,dt,d0,db,d2,d3,d4,a,vi,vg,vt,p,Z3,rfl,rfl,ea,hi,hg,ht,To,l0,l2,l3,l4,vb,x0,x2,x3,x4,Pa⟩ ⟨inner,g,t,rooms,back,S1,S4,S3,e,I1,G1,t0,RT,hS1,hS4,l5,hS3⟩
 obtain ⟨rfl,rfl,rfl,rfl,rfl,rfl,rfl,rfl⟩:=Q0 e
 have h0:=h0.same To.ss
 have h1:=h1.same To.ss
 have s3:=s2.trans To.same
 have z3:=To.z0
 refine ⟨a,_,rfl,yN.of ea,rfl,_,_,rfl,_,_,rfl,_,_,rfl,_,_,rfl,rfl,?_⟩
 refine ⟨.ref p,rfl,v0,rfl,Z3,[.scr ns,.int 6],λd=>∃ c,d=.int c,To.zd,.cons h0 (.cons (.int _) .nil),⟨ns,6,rfl,by decide,λc=>⟨c,rfl⟩⟩,?_⟩
 rintro _ w4 J4 ⟨c6,rfl⟩ s4 hw
 cases hw
 have Pa:=Wy (N':=λl=>H l=none) Pa s4 λl k=>s2.free k
 refine ⟨Z3,Z,H,p,c6,_,_,_,_,_,λd=>∃ rm BK A1 A2 A3,d=wl rm BK (.lst A1) (.lst A2) (.lst A3)/\jX n rm/\Y0 BK=true/\Fw 6 (.lst A1)/\Fw 6 (.lst A2)/\Fw 6 (.lst A3)/\xD (.lst A1)/\ug (.lst A2)/\xE (.lst A3),rfl,To.zd.same s4,z3,zd,s3.trans s4,⟨_,_,_,_,_,_,_,_,_,Pa⟩,⟨n,rooms,back,S1,S4,S3,c6,rfl,T.n1,T.n3,RT,hS1,hS4,l5,hS3,λrm BK A1 A2 A3 a1 a2 a3 a4 a5 a6 a7 a8=>⟨rm,BK,A1,A2,A3,rfl,a1,a2,a3,a4,a5,a6,a7,a8⟩⟩,?_⟩
 have h0:=h0.same (zz s4)
 have h1:=h1.same (zz s4)
 have hi:=hi.same (zz s4)
 have hg:=hg.same (zz s4)
 cases ht
 clear Pa To ea s2 s3 z3 hS1 hS4 hS3 RT l5 e
 rintro _ _ J5 ⟨d0,BK,A1,A2,A3,p,Z5,rfl,rfl,To,l0,l2,l3,l4,vb,x0,x2,x3,x4,Pa⟩ ⟨rm,db,d2,d3,d4,e,RR,aB,f1,f2,f3,p1,p2,p3⟩
 obtain ⟨rfl,rfl,rfl,rfl,rfl⟩:=Q1 e
 have h0:=h0.same To.ss
 have h1:=h1.same To.ss
 have hi:=hi.same To.ss
 have hg:=hg.same To.ss
 have zd5:=To.zd
 have s5:=To.same
 have z5:=To.z0
 clear To e
 have li:=I1.len
 have n3:=T.n3
 refine ⟨vi,rfl,Z5,[za inner],λd=>d=Rm (wL inner),zd5,.cons hi .nil,⟨inner,rfl,by omega,rfl⟩,?_⟩
 rintro _ vs J6 rfl s6 hs
 have Pa:=Wy (N':=λl=>H l=none) Pa s6 λ_ k=>k
 have zd6:=zd5.same s6
 refine ⟨_,rfl,p,_,_,_,rfl,rfl,zT.of Pa.p,rfl,_,rfl,p,_,_,_,rfl,rfl,zT.of Pa.p,rfl,_,rfl,p,_,_,_,rfl,rfl,zT.of Pa.p,rfl,_,rfl,p,_,_,_,rfl,rfl,zT.of Pa.p,rfl,_,rfl,p,_,_,_,rfl,rfl,zT.of Pa.p,rfl,?_⟩
 intro x dx hx hdx ne
 have sm:=zOb (o:=.own x) (o':=.ins aRooms dx []) hx hdx
 have FR:∀ {k:Nat} {rr:List (List Int)},xi rr n->Fw (k + 3) (Rm rr):=λh=>gh (by have:=h.few; omega) (λr hr=>by rw [(h.row r hr).1]; omega)
 have fewR:=RR.few
 have FL:Fw 6 (ue rm):=.lst (by rw [List.length_map]; omega) λd hd=>by
  obtain ⟨r,hr,rfl⟩:=List.mem_map.mp hd
  exact FR (RR.rm r hr)
 refine ⟨x,dx,.ref l0,vb,.ref l2,.ref l3,.ref l4,ue rm,BK,.lst A1,.lst A2,.lst A3,rfl,xF,(DV.lst Pa.e0 (yD zm Pa.h0)).same sm,(Pa.b.same zm).same sm,(DV.lst Pa.e2 (yD zm Pa.h2)).same sm,(DV.lst Pa.e3 (yD zm Pa.h3)).same sm,(DV.lst Pa.e4 (yD zm Pa.h4)).same sm,aB,FL,f1,f2,f3,λJ8 s8 hp=>⟨rfl,?_⟩⟩
 have s8:zD J6 J8:=(sm.trans s8).trans zm
 have hp:DV (zL Z5 J8) (.ref x) (vc aRooms rm BK (.lst A1) (.lst A2) (.lst A3)):=hp.same (uu λb hb=>by
  obtain ⟨o,eo,_⟩:=zd6 b hb
  have k:=uD (sm b o eo)
  exact ⟨k.1,λz=>by rw [k.2] at z; cases z⟩)
 have Pa:=Wy (N':=λl=>H l=none) Pa s8 λ_ k=>k
 have h0:=h0.same (zz (s6.trans s8))
 have h1:=h1.same (zz (s6.trans s8))
 have hg:=hg.same (zz (s6.trans s8))
 have hs:=hs.same (zz s8)
 have zd8:=zd6.same s8
 have sH:=s5.trans (s6.trans s8)
 clear sm hx hdx ne s6 s8 zd6 zd5 s5 hi
 have BI:Bx n 280 inner:=⟨I1.len,λx hx=>⟨(I1.ok x hx).2.1.mono,(I1.ok x hx).2.2.mono⟩⟩
 have RS:xi (wL inner) n:=zPH BI n3
 have l3':=G1.l3
 have RG:xi g n:=⟨λr hr=>⟨(G1.row r hr).1,λx hx=>((G1.row r hr).2.2 x hx).mono⟩,by omega⟩
 have bo:BK.isObj=false:=by cases BK <;> first | rfl | cases aB
 have nz:zD (zL Z5 J8) (zL (λ_=>False) J8):=uu λ_ z=>z.elim
 refine ⟨_,rfl,_,rfl,_,rfl,_,rfl,_,rfl,λ_=>False,[xM n bs ms u,Rm (wL inner),Rm g,.int t,wl rm BK (.lst A1) (.lst A2) (.lst A3)],λd=>d=.bool (xf n bs ms (wL inner) g t rm BK (.lst A1) (.lst A2) (.lst A3)),λ_ z=>z.elim,.cons (h1.same nz) (.cons (hs.same nz) (.cons (hg.same nz) (.cons (.int _) (.cons ((zP6 Pa).same λb o e=>by rw [xV λz=>z]; exact e) .nil)))),⟨n,bs,ms,u,wL inner,g,t,rm,BK,.lst A1,.lst A2,.lst A3,6,rfl,T.ths,RS,RG,t0,RR,bo,f1,f2,f3,p1,p2,p3,rfl⟩,?_⟩
 rintro _ vd J9 rfl s9 hd
 cases hd
 have Pa:=Wy (N':=λl=>H l=none) Pa s9 λ_ k=>k
 have h0:=h0.same (zz s9)
 have h1:=h1.same (zz s9)
 have hg:=hg.same (zz s9)
 have hs:=hs.same (zz s9)
 have hp:=hp.same (zz s9)
 have zd9:=zd8.same s9
 have sH:=sH.trans s9
 clear zd8 nz s9
 refine ⟨_,rfl,p,_,_,_,rfl,rfl,zT.of Pa.p,rfl,_,rfl,p,_,_,_,rfl,rfl,zT.of Pa.p,rfl,_,rfl,p,_,_,_,rfl,rfl,zT.of Pa.p,rfl,_,rfl,p,_,_,_,rfl,rfl,zT.of Pa.p,rfl,few (show 4<=1000 by decide),λlz hz=>⟨lz,rfl,⟨_,zT.of xF⟩,?_⟩⟩
 have sz:=yy hz (HO.lst [.ref l0,.ref l2,.ref l3,.ref l4])
 have ez:zY J9 lz (HO.lst [.ref l0,.ref l2,.ref l3,.ref l4]) lz=some (HO.lst [.ref l0,.ref l2,.ref l3,.ref l4]):=xF
 generalize zY J9 lz (HO.lst [.ref l0,.ref l2,.ref l3,.ref l4])=J0 at sz ez
 have nl:lz∉[l0,l2,l3,l4]:=λz=>by
  simp only [List.mem_cons,List.not_mem_nil,or_false] at z
  rcases z with z | z | z | z
  ·exact xG Pa.e0 hz z.symm
  ·exact xG Pa.e2 hz z.symm
  ·exact xG Pa.e3 hz z.symm
  ·exact xG Pa.e4 hz z.symm
 have F0:ul J0 J0 [l0,l2,l3,l4] 0:=⟨λl hl=>by
  have k0:x0.length<=900:=by rw [xC Pa.h0,List.length_map]; omega
  have k2:x2.length<=900:=by rw [xC Pa.h2]; exact Q2 f1
  have k3:x3.length<=900:=by rw [xC Pa.h3]; exact Q2 f2
  have k4:x4.length<=900:=by rw [xC Pa.h4]; exact Q2 f3
  simp only [List.mem_cons,List.not_mem_nil,or_false] at hl
  rcases hl with rfl | rfl | rfl | rfl
  ·exact ⟨_,sz _ _ Pa.e0,k0⟩
  ·exact ⟨_,sz _ _ Pa.e2,k2⟩
  ·exact ⟨_,sz _ _ Pa.e3,k3⟩
  ·exact ⟨_,sz _ _ Pa.e4,k4⟩,λ_ _ _ e=>e⟩
 refine zNU (K:=K) (a:=lz) (xs:=[.ref l0,.ref l2,.ref l3,.ref l4]) (λi σ J=>∃ o,σ=[some v0,some v1,some vi,some vg,some (.int t),some (.ref p),some vs,some (.ref x),some (.bl (xf n bs ms (wL inner) g t rm BK (.lst A1) (.lst A2) (.lst A3))),o,none,none]/\ul J0 J [l0,l2,l3,l4] i) ⟨none,rfl,F0⟩ (λi σ J _ ⟨_,_,F⟩=>zT.of (F.same _ _ nl ez)) ?_ ?_
 ·rintro i y σ J hy ⟨o,rfl,F⟩
  obtain ⟨l,hl,rfl⟩:∃ l,l∈[l0,l2,l3,l4]/\y=.ref l:=by
   have:=List.mem_of_getElem? hy
   simp only [List.mem_cons,List.not_mem_nil,or_false] at this
   rcases this with rfl | rfl | rfl | rfl <;> exact ⟨_,by simp,rfl⟩
  obtain ⟨ys,ey,ky⟩:=F.at_ l hl
  have i4:i < 4:=(List.getElem?_eq_some_iff.mp hy).1
  exact ⟨_,rfl,.inl ⟨rfl,ys,zT.of ey⟩,l,ys,.non,rfl,rfl,ey,qL (by omega),_,rfl,F.app hl ey ky .non⟩
 rintro σ J ⟨o,rfl,F⟩
 have zn:∀ b,¬ Z5 b->b∉[l0,l2,l3,l4]:=λb nz z=>nz (by
  simp only [List.mem_cons,List.not_mem_nil,or_false] at z
  rcases z with rfl | rfl | rfl | rfl
  ·exact Pa.z0
  ·exact Pa.z2
  ·exact Pa.z3
  ·exact Pa.z4)
 have hn:∀ b o,H b=some o->b∉[l0,l2,l3,l4]:=λb o e z=>by
  simp only [List.mem_cons,List.not_mem_nil,or_false] at z
  rcases z with rfl | rfl | rfl | rfl
  ·exact absurd (e.symm.trans Pa.n0) (λz=>nomatch z)
  ·exact absurd (e.symm.trans Pa.n2) (λz=>nomatch z)
  ·exact absurd (e.symm.trans Pa.n3) (λz=>nomatch z)
  ·exact absurd (e.symm.trans Pa.n4) (λz=>nomatch z)
 have sJ:zD (zL Z5 J9) (zL Z5 J):=λb o e=>by
  obtain ⟨e1,e2⟩:=uD e
  rw [xV e1]
  exact F.same _ _ (zn b e1) (sz _ _ e2)
 have zJ:ZL Z5 J:=λb hb=>by
  by_cases c:b∈[l0,l2,l3,l4]
  ·obtain ⟨ys,ey,_⟩:=F.at_ b c
   exact ⟨_,ey,λ_ z=>nomatch z⟩
  ·obtain ⟨o,eo,no⟩:=zd9 b hb
   exact ⟨o,F.same _ _ c (sz _ _ eo),no⟩
 have sE:zD H J:=λb o e=>F.same _ _ (hn b o e) (sz _ _ (sH _ _ e))
 have EV:Ev (zL Z5 J) [.sh (.scr ns),.sh (xM n bs ms u),.no,.sh (Rm g),.sh (.int t),.no,.sh (Rm (wL inner)),.sh (vc aRooms rm BK (.lst A1) (.lst A2) (.lst A3)),.sh (.bool (xf n bs ms (wL inner) g t rm BK (.lst A1) (.lst A2) (.lst A3))),.no,.no,.no] [some v0,some v1,some vi,some vg,some (.int t),some (.ref p),some vs,some (.ref x),some (.bl (xf n bs ms (wL inner) g t rm BK (.lst A1) (.lst A2) (.lst A3))),o,none,none]:=.sh (h0.same sJ) (.sh (h1.same sJ) (.no (.sh (hg.same sJ) (.sh (.int _) (.no (.sh (hs.same sJ) (.sh (hp.same sJ) (.sh (.bool _) (.no (.no (.no .nil)))))))))))
 clear ez sz F0 hz zn hn Pa F sJ h0 h1 hg hs hp zd9 sH nl
 refine ⟨Z,H,Z5,_,{ nx:=λ_=>R .non,rt:=R },EV.env zJ z5 zd sE,?_,λZ' Γ' σ' H' E' _ hn=>q .non .non H' hn E'.same .non,λd v H' s' hv' hd=>q d v H' hd s' hv',λ_ _ _ _ _ _ h=>h.elim,λ_ _ _ _ _ _ h=>h.elim⟩
 clear EV zJ z5 sE q zd
 refine ⟨_,_,_,rfl,FR RS,FR RG,?_⟩
 refine ⟨λΓ=>Γ=[.sh (.scr ns),.sh (xM n bs ms u),.no,.sh (Rm g),.sh (.int t),.no,.sh (Rm (wL inner)),.sh (vc aRooms rm BK (.lst A1) (.lst A2) (.lst A3)),.sh (.bool (xf n bs ms (wL inner) g t rm BK (.lst A1) (.lst A2) (.lst A3))),.no,.sh (uf aSettles (wL inner) g t),.no],w2 (λc1=>⟨_,_,_,rfl,FR RS,FR RG,by rw [of_decide_eq_true c1]; rfl⟩) λc1=>rfl,?_⟩
 rintro Γ' rfl
 refine ⟨n,bs,ms,u,rfl,T.ok,n,bs,ms,_,rm,BK,.lst A1,.lst A2,.lst A3,rfl,T.ths,T.cl,.inl ⟨wL inner,g,t,6,rfl,RS,RG,t0,RR,bo,f1,f2,f3,p1,p2,p3,?_⟩⟩
 refine ⟨rfl,wF rfl (wF (by cases xf n bs ms (wL inner) g t rm BK (.lst A1) (.lst A2) (.lst A3) <;> rfl) ?_)⟩
 exact ⟨n,bs,ms,u,rfl,T.ok,_,_,_,rfl,FR RS,FR RG,n,bs,ms,_,rm,BK,.lst A1,.lst A2,.lst A3,rfl,T.ths,T.cl,.inr ⟨_,_,rfl,_,_,rfl,rfl,hR⟩⟩
end
end K51
namespace L2
open PySem PySem.Spec PyProof.Rows
theorem Q4 {α:Type} {P:List α->Prop} (h:∀ x0:α,P [x0]):∀ us:List α,us.length=1->P us
 | [x0],_=>h x0
theorem Wz {α:Type} {P:List α->Prop} (h:∀ x0 x1:α,P [x0,x1]):∀ us:List α,us.length=2->P us
 | [x0,x1],_=>h x0 x1
theorem W0 {α:Type} {P:List α->Prop} (h:∀ x0 x1 x2:α,P [x0,x1,x2]):∀ us:List α,us.length=3->P us
 | [x0,x1,x2],_=>h x0 x1 x2
theorem W1 {α:Type} {P:List α->Prop} (h:∀ x0 x1 x2 x3:α,P [x0,x1,x2,x3]):∀ us:List α,us.length=4->P us
 | [x0,x1,x2,x3],_=>h x0 x1 x2 x3
theorem Q5 {α:Type} {P:List α->Prop} (h:∀ x0 x1 x2 x3 x4:α,P [x0,x1,x2,x3,x4]):∀ us:List α,us.length=5->P us
 | [x0,x1,x2,x3,x4],_=>h x0 x1 x2 x3 x4
theorem Q6 {α:Type} {P:List α->Prop} (h:∀ x0 x1 x2 x3 x4 x5:α,P [x0,x1,x2,x3,x4,x5]):∀ us:List α,us.length=6->P us
 | [x0,x1,x2,x3,x4,x5],_=>h x0 x1 x2 x3 x4 x5
theorem Q7 {α:Type} {P:List α->Prop} (h:∀ x0 x1 x2 x3 x4 x5 x6:α,P [x0,x1,x2,x3,x4,x5,x6]):∀ us:List α,us.length=7->P us
 | [x0,x1,x2,x3,x4,x5,x6],_=>h x0 x1 x2 x3 x4 x5 x6
structure Gf (K:W.Frag) (x:Str) (st:Stmt) (f:Addr) (fd:FuncData):Prop where
 at_:W.nsIn K mainGlobals x=some (some (.ref f))
 F:zg K x x st f fd
abbrev Ge (K:W.Frag) (x:Str) (st:Stmt):Prop:=∃ f fd,Gf K x st f fd
structure Gm (K:W.Frag) (C:Addr) (x q:Str) (st:Stmt) (f:Addr) (fd:FuncData):Prop where
 at_:W.findIn K (.ref C) x=some (some (.ref f))
 fn:W.isFn K (.ref f)=true
 F:zg K x q st f fd
abbrev Gn (K:W.Frag) (C:Addr) (x q:Str) (st:Stmt):Prop:=∃ f fd,Gm K C x q st f fd
structure Gd (K:W.Frag) (x:Str) (st:Stmt) (f:Addr) (fd:FuncData) (d:Value):Prop where
 at_:W.nsIn K mainGlobals x=some (some (.ref f))
 F:xO K x x st f fd d
abbrev Gi (K:W.Frag) (x:Str) (st:Stmt) (i:Int):Prop:=∃ f fd t,Gd K x st f fd (.int i t)
structure Gk (K:W.Frag) (C:Addr) (x q:Str) (st:Stmt) (f:Addr) (fd:FuncData) (d:Value):Prop where
 at_:W.findIn K (.ref C) x=some (some (.ref f))
 fn:W.isFn K (.ref f)=true
 F:xO K x q st f fd d
abbrev Gj (K:W.Frag) (C:Addr) (x q:Str) (st:Stmt) (i:Int):Prop:=∃ f fd t,Gk K C x q st f fd (.int i t)
structure Gc (K:W.Frag) (x:Str) (C:Addr):Prop where
 nm:W.nsIn K mainGlobals x=some (some (.ref C))
 pg:W.plainGet K C Str.empty=true
 hd:W.hasDictIn K C=true
 po:W.plainOver K C=true
 sa:W.findIn K (.ref C) "__setattr__" = some (some (.builtin "object.__setattr__"))
 mk_:W.makesIn K C=true
 kc:W.keepIn K (.ref C)=true
 ha:W.findIn K (.ref C) "__class__" = some (some (.builtin "object.__class__"))
 hn:W.specialIn K (.builtin "object.__class__") "__get__" = some (some (.builtin "getset_descriptor.__get__"))
 tk:W.takesIn K (.builtin "object.__class__")=some true
 hm:W.mroIn K C (.type "object")=some true
section
variable {P:Program} {w:World} {K:W.Frag} {mg:Str->Option Value} {base h:Heap} {x q:Str} {st:Stmt} {f C T:Addr} {fd:FuncData} {ps:List Str} {k:Nat} {sp:Sp} {oc kV doc pm cdv ct oT:Value} {od an dT:Option Addr} {osl sT:Array (Option Value)}
theorem XR (a:W.nsIn K mainGlobals x=some (some (.ref f))) (l:K.lookup f=some ⟨oc,od,.func (W.fnOf x x (wW st) (xR st) (zK st) .none kV doc pm an cdv ct),osl⟩) (c:W.codeIn K cdv x=true) (k:W.keepIn K (.ref f)=true):Ge K x st:=⟨f,_,a,K1 l c k⟩
theorem XS (a:W.findIn K (.ref C) x=some (some (.ref f))) (i:W.isFn K (.ref f)=true) (l:K.lookup f=some ⟨oc,od,.func (W.fnOf x q (wW st) (xR st) (zK st) .none kV doc pm an cdv ct),osl⟩) (c:W.codeIn K cdv q=true) (k:W.keepIn K (.ref f)=true):Gn K C x q st:=⟨f,_,a,i,K1 l c k⟩
theorem XT {i:Int} {t:Tok} {n:Nat} (a:W.nsIn K mainGlobals x=some (some (.ref f))) (l:K.lookup f=some ⟨oc,od,.func (W.fnOf x x (wW st) (xR st) (zK st) (.ref T) kV doc pm an cdv ct),osl⟩) (c:W.codeIn K cdv x=true) (k:W.keepIn K (.ref f)=true) (d:K.lookup T=some ⟨oT,dT,.seq #[.int i t] n,sT⟩):Gi K x st i:=⟨f,_,t,a,zLj l c k d rfl⟩
theorem XU {i:Int} {t:Tok} {n:Nat} (a:W.findIn K (.ref C) x=some (some (.ref f))) (z:W.isFn K (.ref f)=true) (l:K.lookup f=some ⟨oc,od,.func (W.fnOf x q (wW st) (xR st) (zK st) (.ref T) kV doc pm an cdv ct),osl⟩) (c:W.codeIn K cdv q=true) (k:W.keepIn K (.ref f)=true) (d:K.lookup T=some ⟨oT,dT,.seq #[.int i t] n,sT⟩):Gj K C x q st i:=⟨f,_,t,a,z,zLj l c k d rfl⟩
theorem Gc.cls (g:Gc K x C) (X:K.In h) (G:h.Ns mainGlobals mg):yi K mg x C:=⟨⟨g.pg,g.hd,g.po,g.sa⟩,W.mg_of X G g.nm,g.ha,g.hn,g.tk,g.hm⟩
abbrev Bn (x q:Str) (st:Stmt) (ps:List Str):Prop:=∀ (kV doc pm:Value) (an:Option Addr) (cdv ct:Value) (us:List Value),us.length=ps.length->bindArgs (W.fnOf x q (wW st) (xR st) (zK st) .none kV doc pm an cdv ct) ⟨us,[]⟩=pure (ps.zip us)
structure Wh (P:Program) (w:World) (K:W.Frag) (mg:Str->Option Value) (base h:Heap):Prop where
 X:K.In h
 G:h.Ns mainGlobals mg
theorem Gf.fn (g:Gf K x st f fd) (Y:Wh P w K mg base h) (o:zF P w K mg base zW k f fd ps sp) (b:Bn x x st ps:=by intro _ _ _ _ _ _; first | exact L2.Q4 λ_=>rfl | exact L2.Wz λ_ _=>rfl | exact L2.W0 λ_ _ _=>rfl | exact L2.W1 λ_ _ _ _=>rfl | exact L2.Q5 λ_ _ _ _ _=>rfl | exact L2.Q6 λ_ _ _ _ _ _=>rfl | exact L2.Q7 λ_ _ _ _ _ _ _=>rfl):Fn P w K mg base x ps k sp:=⟨f,fd,o,W.mg_of Y.X Y.G g.at_,g.F.kp,g.F.binds b⟩
theorem Gm.fm (g:Gm K C x q st f fd) (_:Wh P w K mg base h) (o:zF P w K mg base zW k f fd ps sp) (b:Bn x q st ps:=by intro _ _ _ _ _ _; first | exact L2.Q4 λ_=>rfl | exact L2.Wz λ_ _=>rfl | exact L2.W0 λ_ _ _=>rfl | exact L2.W1 λ_ _ _ _=>rfl | exact L2.Q5 λ_ _ _ _ _=>rfl | exact L2.Q6 λ_ _ _ _ _ _=>rfl | exact L2.Q7 λ_ _ _ _ _ _ _=>rfl):ut P w K mg base C x ps k sp:=⟨f,fd,o,⟨g.at_,g.fn,g.F.kp⟩,g.F.binds b⟩
theorem Gm.fc {y:Str} (g:Gm K C "__init__" q st f fd) (_:Wh P w K mg base h) (c:Gc K y C) (o:zF P w K mg base zW k f fd ps sp) (b:Bn "__init__" q st ps:=by intro _ _ _ _ _ _; first | exact L2.Q4 λ_=>rfl | exact L2.Wz λ_ _=>rfl | exact L2.W0 λ_ _ _=>rfl | exact L2.W1 λ_ _ _ _=>rfl | exact L2.Q5 λ_ _ _ _ _=>rfl | exact L2.Q6 λ_ _ _ _ _ _=>rfl | exact L2.Q7 λ_ _ _ _ _ _ _=>rfl):uX P w K mg base C ps k sp:=⟨f,fd,o,⟨c.mk_,g.at_,g.fn,c.kc⟩,g.F.binds b⟩
theorem Gd.fn {i:Int} {t:Tok} (g:Gd K x st f fd (.int i t)) (Y:Wh P w K mg base h) (b:∀ (T:Addr) (kV doc pm:Value) (an:Option Addr) (cdv ct:Value) (us:List Value),us.length=ps.length->∃ k:Option (Array Value)->Sem (List (Str × Value)),bindArgs (W.fnOf x x (wW st) (xR st) (zK st) (.ref T) kV doc pm an cdv ct) ⟨us,[]⟩=seqItems? (.ref T) >>= k/\k (some #[.int i t])=pure (ps.zip us))
  (d:∀ (T:Addr) (kV doc pm:Value) (an:Option Addr) (cdv ct:Value) (us:List Value),us.length + 1=ps.length->∃ k:Option (Array Value)->Sem (List (Str × Value)),bindArgs (W.fnOf x x (wW st) (xR st) (zK st) (.ref T) kV doc pm an cdv ct) ⟨us,[]⟩=seqItems? (.ref T) >>= k/\k (some #[.int i t])=pure (ps.zip (us++[.int i t]))) (o:zF P w K mg base zW k f fd ps sp):vK P w K mg base x ps k sp (.int i):=
 ⟨f,fd,_,o,W.mg_of Y.X Y.G g.at_,g.F.kp,g.F.binds b,g.F.binds1 d,⟨_,rfl⟩⟩
theorem Gk.fcd {i:Int} {t:Tok} {y:Str} (g:Gk K C "__init__" q st f fd (.int i t)) (_:Wh P w K mg base h) (c:Gc K y C) (b:∀ (T:Addr) (kV doc pm:Value) (an:Option Addr) (cdv ct:Value) (us:List Value),us.length=ps.length->∃ k:Option (Array Value)->Sem (List (Str × Value)),bindArgs (W.fnOf "__init__" q (wW st) (xR st) (zK st) (.ref T) kV doc pm an cdv ct) ⟨us,[]⟩=seqItems? (.ref T) >>= k/\k (some #[.int i t])=pure (ps.zip us))
  (d:∀ (T:Addr) (kV doc pm:Value) (an:Option Addr) (cdv ct:Value) (us:List Value),us.length + 1=ps.length->∃ k:Option (Array Value)->Sem (List (Str × Value)),bindArgs (W.fnOf "__init__" q (wW st) (xR st) (zK st) (.ref T) kV doc pm an cdv ct) ⟨us,[]⟩=seqItems? (.ref T) >>= k/\k (some #[.int i t])=pure (ps.zip (us++[.int i t]))) (o:zF P w K mg base zW k f fd ps sp):wZ P w K mg base C ps k sp (.int i):=
 ⟨f,fd,_,o,⟨c.mk_,g.at_,g.fn,c.kc⟩,g.F.binds b,g.F.binds1 d,⟨_,rfl⟩⟩
end
end L2
namespace K51
open PySem L2 Sh Pu
theorem zPf {F:FL} (h:∀ ds R,¬ F ds R):∀ vs H Q E,¬ zH F vs H Q E:=λ_ _ _ _ ⟨_,ds,R,_,_,f,_⟩=>h ds R f
abbrev zGI:Stmt:=zp 60
theorem zPe {F:FL} (h:∀ ds R,¬ F ds R):∀ vs H Q E,¬ vL vv F vs H Q E:=λ_ _ _ _ ⟨_,ds,R,_,_,f,_⟩=>h ds R f
theorem all_mk {l:W.OpenLaw} {w:World} {K:W.Frag} {h:Heap} {mg:Str->Option Value} {fa:Addr} (X:K.In h) (G:h.Ns mainGlobals mg) (hfa:mg "law" = some (.ref fa))
  {aClaim aSettles aComes aa ac aPaper aRooms aFalls:Addr}
  (GClaim:Gc K "Claim" aClaim)
  (GSettles:Gc K "Settles" aSettles)
  (GComes:Gc K "Comes" aComes)
  (GMode:Gc K "Mode" aa)
  (GThing:Gc K "Thing" ac)
  (GPaper:Gc K "Paper" aPaper)
  (GRooms:Gc K "Rooms" aRooms)
  (GFalls:Gc K "Falls" aFalls)
  (n_start_Settles:W.findIn K (.ref aSettles) "start" = some none)
  (n_rows_Settles:W.findIn K (.ref aSettles) "rows" = some none)
  (n_turn_Settles:W.findIn K (.ref aSettles) "turn" = some none)
  (n_start_Comes:W.findIn K (.ref aComes) "start" = some none)
  (n_goal_Comes:W.findIn K (.ref aComes) "goal" = some none)
  (n_turns_Comes:W.findIn K (.ref aComes) "turns" = some none)
  (cb:W.findIn K (.ref aa) "rows" = some none)
  (cf:W.findIn K (.ref aa) "nexts" = some none)
  (cg:W.findIn K (.ref aa) "steer" = some none)
  (ci:W.findIn K (.ref aa) "push" = some none)
  (cj:W.findIn K (.ref aa) "add" = some none)
  (ck:W.findIn K (.ref aa) "divisor" = some none)
  (cn:W.findIn K (.ref ac) "many" = some none)
  (cq:W.findIn K (.ref ac) "kept_pushes" = some none)
  (cr:W.findIn K (.ref ac) "kept_modes" = some none)
  (n_rooms_Rooms:W.findIn K (.ref aRooms) "rooms" = some none)
  (n_back_Rooms:W.findIn K (.ref aRooms) "back" = some none)
  (n_starts_Rooms:W.findIn K (.ref aRooms) "starts" = some none)
  (n_steps_Rooms:W.findIn K (.ref aRooms) "steps" = some none)
  (n_stays_Rooms:W.findIn K (.ref aRooms) "stays" = some none)
  (n_room_Falls:W.findIn K (.ref aFalls) "room" = some none)
  (n_starts_Falls:W.findIn K (.ref aFalls) "starts" = some none)
  (n_steps_Falls:W.findIn K (.ref aFalls) "steps" = some none)
  (n_measure_Falls:W.findIn K (.ref aFalls) "measure" = some none)
  (n_step_Falls:W.findIn K (.ref aFalls) "step" = some none)
  (n_top_Falls:W.findIn K (.ref aFalls) "top" = some none)
  (n_falls_Falls:W.findIn K (.ref aFalls) "falls" = some none)
  (n_floors_Falls:W.findIn K (.ref aFalls) "floors" = some none)
  (n_tops_Falls:W.findIn K (.ref aFalls) "tops" = some none)
  (w_Comes_Settles:W.kitOne K (.ref aComes) (.ref aSettles)=some false)
  (w_Rooms_Falls:W.kitOne K (.ref aRooms) (.ref aFalls)=some false)
  (z0:W.nsIn K mainGlobals "isinstance" = some none)
  (z1:W.nsIn K mainGlobals "int" = some none)
  (z2:W.nsIn K mainGlobals "bool" = some none)
  (z3:W.nsIn K mainGlobals "tuple" = some none)
  (z4:W.nsIn K mainGlobals "len" = some none)
  (z5:W.nsIn K mainGlobals "all" = some none)
  (z6:W.nsIn K mainGlobals "list" = some none)
  (z7:W.nsIn K mainGlobals "range" = some none)
  (z8:W.nsIn K mainGlobals "zip" = some none)
  (z9:W.nsIn K mainGlobals "sum" = some none)
  (z10:W.nsIn K mainGlobals "max" = some none)
  (z11:W.nsIn K mainGlobals "enumerate" = some none)
  (z12:W.nsIn K mainGlobals "min" = some none)
  {gt0:Tok} (cst0:W.nsIn K mainGlobals "MOST_NUMBERS" = some (some (.int 3 gt0)))
  {gt1:Tok} (cst1:W.nsIn K mainGlobals "MOST_PUSHES" = some (some (.int 6 gt1)))
  {gt2:Tok} (cst2:W.nsIn K mainGlobals "MOST_MODES" = some (some (.int 40 gt2)))
  : Ge K "is_whole" Jn->Ge K "is_numbers" WE->Ge K "is_table" WF->Gi K "copied" Yq 5->Gi K "unit" WG 1->Ge K "scaled" WH->Ge K "paired" WI->Ge K "added_up" WJ->Ge K "is_row" WK->Ge K "is_room" WL->Ge K "single" Jo->Gn K aa "__init__" "Mode.__init__" Ju->Ge K "is_push" Jv->Ge K "is_mode" Jw->Ge K "is_sound" Yt->Gn K ac "__init__" "Thing.__init__" Jx->Gn K ac "pushes" "Thing.pushes" Jy->Gn K ac "modes" "Thing.modes" Jz->Ge K "is_unsteered" WO->Gn K ac "is_closed" "Thing.is_closed" WP->Ge K "ask_closed" J7->Ge K "standing" Yz->Ge K "reach" QE->Ge K "added" QG->Ge K "is_from_0_on" QH->Ge K "are_shares" WU->Ge K "shows" WV->Ge K "is_list_of" QJ->Ge K "each_shown" WW->Ge K "mode_leads" WX->Ge K "leads" WY->Gj K aSettles "__init__" "Settles.__init__" QK 0->Ge K "settles_over" QL->Ge K "are_rooms" Wa->Ge K "rooms_follow" Wb->Ge K "rooms_stay" Wc->Ge K "lets_rooms_by" QM->Ge K "lets_fall_by" zGI->Gn K aRooms "__init__" "Rooms.__init__" QN->Ge K "lets_by" QO->Ge K "_law_cell_at" QT->Ge K "_law_stream" QU->Ge K "_law_number" QV->Ge K "_law_box" QW->Ge K "_law_rows" Y5->Ge K "_law_both" QY->Ge K "_law_made" Y6->Ge K "_law_top" QZ->Ge K "_law_mode" qv->Ge K "_law_thing" Qa->Ge K "_law_beyond" Wo->Ge K "_law_hull" Wp->Ge K "_law_image" gr->Ge K "_law_kept" Qb->Ge K "_law_boxes" Qg->Ge K "_law_claim_rows" XD->Ge K "_law_step_shares" gu->Ge K "_law_box_starts" Qj->Ge K "_law_box_steps" Wq->Ge K "_law_parts" gA->Ge K "_law_other" Qp->Ge K "_law_changed" Qq->Ge K "_law_spoilt" Qu->Ge K "_law_whole" Qx->Ge K "_law_list" Qy->Ge K "_law_shows" kC->Ge K "_law_all_show" Wu->Ge K "_law_reach" kD->Ge K "_law_standing" kF->Ge K "_law_steps_show" Ww->Ge K "_law_right" Qz->Gn K aComes "__init__" "Comes.__init__" Q3->Ge K "law" kG->∃ fd:FuncData,(∀ (s:Shared) (v:Value),BindsTo s fd ⟨[v],[]⟩ [("_law_script",v)])/\∀ base:Heap,K.In base->base.Ns mainGlobals mg->zF l.prog w K mg base zW 11 fa fd ["_law_script"] (zH ji):=by
 rintro ⟨_,_,G0⟩ ⟨_,_,G1⟩ ⟨_,_,G2⟩ ⟨_,_,_,G3⟩ ⟨_,_,_,G4⟩ ⟨_,_,G5⟩ ⟨_,_,G6⟩ ⟨_,_,G7⟩ ⟨_,_,G8⟩ ⟨_,_,G9⟩ ⟨_,_,G10⟩ ⟨_,_,G11⟩ ⟨_,_,G12⟩ ⟨_,_,G13⟩ ⟨_,_,G14⟩ ⟨_,_,G15⟩ ⟨_,_,G16⟩ ⟨_,_,G17⟩ ⟨_,_,G18⟩ ⟨_,_,G19⟩ ⟨_,_,G20⟩ ⟨_,_,G21⟩ ⟨_,_,G22⟩ ⟨_,_,G23⟩ ⟨_,_,G24⟩ ⟨_,_,G25⟩ ⟨_,_,G26⟩ ⟨_,_,G27⟩ ⟨_,_,G28⟩ ⟨_,_,G29⟩ ⟨_,_,G30⟩ ⟨_,_,_,G31⟩ ⟨_,_,G32⟩ ⟨_,_,G33⟩ ⟨_,_,G34⟩ ⟨_,_,G35⟩ ⟨_,_,G36⟩ ⟨_,_,G37⟩ ⟨_,_,G38⟩ ⟨_,_,G39⟩ ⟨_,_,G40⟩ ⟨_,_,G41⟩ ⟨_,_,G42⟩ ⟨_,_,G43⟩ ⟨_,_,G44⟩ ⟨_,_,G45⟩ ⟨_,_,G46⟩ ⟨_,_,G47⟩ ⟨_,_,G48⟩ ⟨_,_,G49⟩ ⟨_,_,G50⟩ ⟨_,_,G51⟩ ⟨_,_,G52⟩ ⟨_,_,G53⟩ ⟨_,_,G54⟩ ⟨_,_,G55⟩ ⟨_,_,G56⟩ ⟨_,_,G57⟩ ⟨_,_,G58⟩ ⟨_,_,G59⟩ ⟨_,_,G60⟩ ⟨_,_,G61⟩ ⟨_,_,G62⟩ ⟨_,_,G63⟩ ⟨_,_,G64⟩ ⟨_,_,G65⟩ ⟨_,_,G66⟩ ⟨_,_,G67⟩ ⟨_,_,G68⟩ ⟨_,_,G69⟩ ⟨_,_,G70⟩ ⟨_,_,G71⟩ ⟨_,_,G72⟩
 have e:=hfa.symm.trans (W.mg_of X G G72.at_)
 cases e
 have B:Bl mg:=⟨W.mg_none_of X G z0,W.mg_none_of X G z1,W.mg_none_of X G z2,W.mg_none_of X G z3,W.mg_none_of X G z4,W.mg_none_of X G z5,W.mg_none_of X G z6,W.mg_none_of X G z7,W.mg_none_of X G z8,W.mg_none_of X G z9,W.mg_none_of X G z10,W.mg_none_of X G z11,W.mg_none_of X G z12,⟨_,W.mg_of X G cst0⟩,⟨_,W.mg_of X G cst1⟩,⟨_,W.mg_of X G cst2⟩⟩
 have TClaim:=GClaim.cls X G
 have AClaim:zMV K aClaim:=⟨True.intro⟩
 have TSettles:=GSettles.cls X G
 have ASettles:zIB K aSettles:=⟨n_start_Settles,n_rows_Settles,n_turn_Settles⟩
 have TComes:=GComes.cls X G
 have AComes:zMU K aComes:=⟨n_start_Comes,n_goal_Comes,n_turns_Comes⟩
 have cu:=GMode.cls X G
 have cv:zON K aa:=⟨cb,cf,cg,ci,cj,ck⟩
 have cw:=GThing.cls X G
 have cx:zMQ K ac:=⟨cn,cq,cr⟩
 have TPaper:=GPaper.cls X G
 have APaper:zMS K aPaper:=⟨True.intro⟩
 have TRooms:=GRooms.cls X G
 have ARooms:zMR K aRooms:=⟨n_rooms_Rooms,n_back_Rooms,n_starts_Rooms,n_steps_Rooms,n_stays_Rooms⟩
 have TFalls:=GFalls.cls X G
 have AFalls:zMT K aFalls:=⟨n_room_Falls,n_starts_Falls,n_steps_Falls,n_measure_Falls,n_step_Falls,n_top_Falls,n_falls_Falls,n_floors_Falls,n_tops_Falls⟩
 have Y:qS K aComes aSettles aRooms aFalls:=⟨w_Comes_Settles,w_Rooms_Falls⟩
 obtain ⟨_,_,kV,dc,pm,an,cd,ct,_,rfl,_⟩:=G72.F.ex
 refine ⟨W.fnOf "law" "law" (wW kG) (xR kG) (zK kG) .none kV dc pm an cd ct,λs v=>.of_eq rfl,λbase _ _=>?_⟩
 have Yw:Wh l.prog w K mg base h:=⟨X,G⟩
 have Cc:Cs K mg aClaim aSettles aComes aa ac aPaper aRooms aFalls:=⟨TClaim,AClaim,TSettles,ASettles,TComes,AComes,cu,cv,cw,cx,TPaper,APaper,TRooms,ARooms,TFalls,AFalls,Y⟩
 have N0:=G0.fn Yw (zIY (k:=0) Cc G0.F B )
 have N1:=G1.fn Yw (zHD (k:=1) Cc G1.F B N0.mono)
 have N2:=G2.fn Yw (zIZ (k:=2) Cc G2.F B N1.mono)
 have D3:=λ{k sp}=>G3.fn (ps:=["value","depth"]) (k:=k) (sp:=sp) Yw (λ_ _ _ _ _ _ _=>L2.Wz λ_ _=>⟨_,rfl,rfl⟩) λ_ _ _ _ _ _ _ us hl=>match us,hl with | [_],_=>⟨_,rfl,rfl⟩
 have N3_0:=D3 (zF.no (k:=1) (sp:=(u8 0)) zJd)
 have N3_1:=D3 (gf (k:=1) (d0:=0) Cc G3.F B N3_0.mono)
 have N3_2:=D3 (gf (k:=2) (d0:=1) Cc G3.F B N3_1.mono)
 have N3_3:=D3 (gf (k:=3) (d0:=2) Cc G3.F B N3_2.mono)
 have N3_4:=D3 (gf (k:=4) (d0:=3) Cc G3.F B N3_3.mono)
 have N3_5:=D3 (gf (k:=5) (d0:=4) Cc G3.F B N3_4.mono)
 have N3_6:=D3 (gf (k:=6) (d0:=5) Cc G3.F B N3_5.mono)
 have N3:=N3_6
 have D4:=λ{k sp}=>G4.fn (ps:=["place","wide","number"]) (k:=k) (sp:=sp) Yw (λ_ _ _ _ _ _ _=>L2.W0 λ_ _ _=>⟨_,rfl,rfl⟩) λ_ _ _ _ _ _ _ us hl=>match us,hl with | [_,_],_=>⟨_,rfl,rfl⟩
 have N4:=D4 (zO0 (k:=0) Cc G4.F B )
 have N5:=G5.fn Yw (zLH (k:=0) Cc G5.F B )
 have N6:=G6.fn Yw (zLI (k:=0) Cc G6.F B )
 have N7:=G7.fn Yw (zIb (k:=0) Cc G7.F B )
 have N8:=G8.fn Yw (zLQ (k:=1) Cc G8.F B N0.mono)
 have N9:=G9.fn Yw (zJy (k:=2) Cc G9.F B N8.mono)
 have N10:=G10.fn Yw (zLG (k:=1) Cc G10.F B N4.mono)
 have N11:=G11.fc Yw GMode (zFG (k:=7) Cc G11.F B N3.mono)
 have N12:=G12.fn Yw (zJz (k:=1) Cc G12.F B N0.mono)
 have N13:=G13.fn Yw (zJ0 (k:=3) Cc G13.F B N9.mono N2.mono N1.mono N0.mono)
 have N14:=G14.fn Yw (zIa (k:=4) Cc G14.F B N0.mono N12.mono N13.mono)
 have N15:=G15.fc Yw GThing (zEp (k:=5) Cc G15.F B N14.mono)
 have N16:=G16.fm Yw (zFx (k:=0) Cc G16.F B )
 have N17:=G17.fm Yw (zGK (k:=0) Cc G17.F B )
 have N18:=G18.fn Yw (zFv (k:=0) Cc G18.F B )
 have N19:=G19.fm Yw (zER (k:=1) Cc G19.F B N18.mono)
 have N20:=G20.fn Yw (zHG (k:=2) Cc G20.F B N19.mono)
 have N21:=G21.fn Yw (zIT (k:=2) Cc G21.F B N16.mono N10.mono)
 have N22:=G22.fn Yw (zM9 (k:=1) Cc G22.F B N7.mono N16.mono N6.mono)
 have N23:=G23.fn Yw (zND (k:=1) Cc G23.F B N7.mono)
 have N24:=G24.fn Yw (zFw (k:=1) Cc G24.F B N0.mono)
 have N25:=G25.fn Yw (zHH (k:=2) Cc G25.F B N24.mono)
 have N26:=G26.fn Yw (zM8 (k:=3) Cc G26.F B N25.mono N23.mono N5.mono)
 have N27:=G27.fn Yw (zHE (k:=0) Cc G27.F B )
 have N28:=G28.fn Yw (zHF (k:=4) Cc G28.F B N27.mono N26.mono)
 have N29:=G29.fn Yw (zHA (k:=5) Cc G29.F B N28.mono N22.mono N21.mono)
 have N30:=G30.fn Yw (zNA (k:=6) Cc G30.F B N17.mono N27.mono N29.mono)
 have N31:=G31.fcd (ps:=["self","start","rows","turn"]) Yw GSettles (λ_ _ _ _ _ _ _=>L2.W1 λ_ _ _ _=>⟨_,rfl,rfl⟩) (λ_ _ _ _ _ _ _ us hl=>match us,hl with | [_,_,_],_=>⟨_,rfl,rfl⟩) (zD7 (k:=7) Cc G31.F B N3.mono)
 have N32:=G32.fn Yw (zFq (k:=3) Cc G32.F B N24.mono N9.mono)
 have N33:=G33.fn Yw (zHq (k:=3) Cc G33.F B N9.mono)
 have N34:=G34.fn Yw (zFr (k:=7) Cc G34.F B N27.mono N30.mono)
 have N35:=G35.fn Yw (zG9 (k:=5) Cc G35.F B N27.mono N28.mono)
 have N36:=G36.fn Yw (zFE (k:=8) Cc G36.F B N33.mono N32.mono N24.mono N28.mono N35.mono N34.mono)
 have N37_0:=G37.fn (ps:=["thing","claim","paper"]) Yw (zF.no (k:=1) (sp:=(zH fNo)) (zPf λ_ _ h=>h))
 have N37:=N37_0
 have N38:=G38.fc Yw GRooms (zEq (k:=7) Cc G38.F B N3.mono)
 have N39:=G39.fn Yw (zJo (k:=9) Cc G39.F B N20.mono N36.mono N37.mono)
 have N40:=G40.fn Yw (zHp (k:=0) Cc G40.F B )
 have N41:=G41.fn Yw (zIU (k:=0) Cc G41.F B )
 have N42:=G42.fn Yw (zIW (k:=0) Cc G42.F B )
 have N43:=G43.fn Yw (zNC (k:=1) Cc G43.F B N41.mono N42.mono)
 have N44:=G44.fn Yw (zLJ (k:=0) Cc G44.F B )
 have N45:=G45.fn Yw (zLP (k:=0) Cc G45.F B )
 have N46:=G46.fn Yw (zLL (k:=8) Cc G46.F B N11.mono N15.mono)
 have N47:=G47.fn Yw (zNB (k:=0) Cc G47.F B )
 have N48:=G48.fn Yw (zLK (k:=1) Cc G48.F B N41.mono N42.mono)
 have N49:=G49.fn Yw (zJq (k:=2) Cc G49.F B N40.mono N48.mono)
 have N50:=G50.fn Yw (zIX (k:=1) Cc G50.F B N47.mono)
 have N51:=G51.fn Yw (zLO (k:=0) Cc G51.F B )
 have N52:=G52.fn Yw (zJw (k:=2) Cc G52.F B N50.mono N47.mono)
 have N53:=G53.fn Yw (zLN (k:=3) Cc G53.F B N51.mono N52.mono)
 have N54:=G54.fn Yw (zJx (k:=4) Cc G54.F B N41.mono N43.mono N53.mono N52.mono)
 have N55:=G55.fn Yw (zFt (k:=1) Cc G55.F B N41.mono N42.mono N47.mono)
 have N56:=G56.fn Yw (zFF (k:=2) Cc G56.F B N50.mono N45.mono)
 have N57:=G57.fn Yw (zFu (k:=1) Cc G57.F B N44.mono N45.mono)
 have N58:=G58.fn Yw (zGJ (k:=3) Cc G58.F B N44.mono N56.mono)
 have N59:=G59.fn Yw (zJu (k:=5) Cc G59.F B N41.mono N54.mono N55.mono N58.mono N45.mono N44.mono N57.mono)
 have N60:=G60.fn Yw (zJv (k:=0) Cc G60.F B )
 have N61_0:=G61.fn (ps:=["_law_some","_law_cell"]) Yw (zF.no (k:=1) (sp:=(vL vv (je 0))) (zPe λ_ _ h=>h))
 have N61_1:=G61.fn Yw (Qs (k:=1) (j:=0) Cc G61.F B N60.mono N61_0.mono)
 have N61_2:=G61.fn Yw (Qs (k:=2) (j:=1) Cc G61.F B N60.mono N61_1.mono)
 have N61_3:=G61.fn Yw (Qs (k:=3) (j:=2) Cc G61.F B N60.mono N61_2.mono)
 have N61:=N61_3
 have N62:=G62.fn Yw (zIV (k:=4) Cc G62.F B N61.mono)
 have N63:=G63.fn Yw (zJp (k:=0) Cc G63.F B )
 have N64:=G64.fn Yw (zLM (k:=0) Cc G64.F B )
 have N65:=G65.fn Yw (zJr (k:=1) Cc G65.F B N64.mono N63.mono)
 have N66:=G66.fn Yw (zHC (k:=2) Cc G66.F B N64.mono N65.mono)
 have N67:=G67.fn Yw (zJt (k:=0) Cc G67.F B )
 have N68:=G68.fn Yw (zHB (k:=0) Cc G68.F B )
 have N69:=G69.fn Yw (zFs (k:=3) Cc G69.F B N64.mono N67.mono N66.mono N68.mono)
 have N70:=G70.fn Yw (zJs (k:=4) Cc G70.F B N63.mono N64.mono N66.mono N69.mono)
 have N71:=G71.fc Yw GComes (zEr (k:=7) Cc G71.F B N3.mono)
 exact zQM (k:=9) Cc G72.F B N49.mono N59.mono N40.mono N62.mono N44.mono N38.mono N70.mono N31.mono N39.mono N46.mono N71.mono
def zLV (o:Obj):Bool:=match o.cls with
 | .type t=>!(t == "list")
 | _=>true
theorem nolist {K:PySem.W.Frag} (h:K.all (λp=>zLV p.2)=true) (a:Addr) (o:Obj) (e:K.lookup a=some o):o.cls≠.type "list":=λz=>by
 have m:∃ b,(b,o)∈K:=by
  clear h
  induction K with
  | nil=>cases e
  | cons p K ih=>
   obtain ⟨b,o'⟩:=p
   rw [List.lookup_cons] at e
   cases q:a == b with
   | true=>rw [q] at e; cases e; exact ⟨b,List.mem_cons_self⟩
   | false=>rw [q] at e; obtain ⟨c,hc⟩:=ih e; exact ⟨c,List.mem_cons_of_mem _ hc⟩
 obtain ⟨b,hb⟩:=m
 have:=List.all_eq_true.mp h _ hb
 unfold zLV at this
 rw [z] at this
 exact absurd this (by decide)
theorem walk {l:PySem.W.OpenLaw} {q:Program} {loose:List Str} {XP:(Str->Option Value)->Heap->Prop} {YP:World->Heap->Prop} {d:DefRec} {K:Params->PySem.W.Frag} (hn:l.most=some 63) (hdf:d.params.defaults=[])
  (hY:∀ (w:World) (h:Heap),YP w h->(K w.params).In h)
  (hL:∀ (p:Params) (a:Addr) (o:Obj),(K p).lookup a=some o->o.cls≠.type "list")
  (F:∀ (w:World) (mg:Str->Option Value) (fa:Addr) (h:Heap),(K w.params).In h->h.Ns mainGlobals mg->mg d.name=some (.ref fa)->
   ∃ fd:FuncData,(∀ (s:Shared) (u:Value),BindsTo s fd ⟨[u],[]⟩ [("_law_script",u)])/\∀ base:Heap,(K w.params).In base->base.Ns mainGlobals mg->zF l.prog w (K w.params) mg base zW 11 fa fd ["_law_script"] (zH ji)) :
  PySem.W.WalkO q loose XP YP l.row.toRowW d [] (λf vs=>PySem.call f vs):=
 L2.zOQ (n:=63) (k:=11) (x:="_law_script") (CX:=λ_=>zW) (sp:=λ_=>zH ji) hn (by decide) hdf ⟨rfl,by decide,by decide⟩ hY F (λw H a ns _ _ hS=>⟨λ_=>False,[.scr ns],λd=>d=.bool true,λ_ z=>z.elim,.cons (.scr (Xr (λb o e=>(xV (λz=>z)).trans e) (hS.elim id λ⟨o,_,_,h1,h2,_⟩=>absurd h2 (hL w.params a o h1)))) .nil,⟨ns,rfl,rfl⟩,λd v H2 e _ h=>by subst e; cases h; rfl⟩) λ_ _ _ _ _ z=>z
end K51
open PySem PySem.W PyProof.Rows
set_option maxRecDepth 100000 in
set_option maxHeartbeats 0 in
theorem PySem.Challenge.cw_steadyhand_k51_papers_of_rooms_holds : PySem.Challenge.rw_steadyhand_k51_papers_of_rooms.Holds := by
 w_on; o_law
 refine holds_open (q:=H51.vw) (loose:=H51.lo) (Xt:=H51.xt) (XP:=XL H51.vw []) (Yf:=(kHook H51.KK H51.ks H51.ke).obs) (Ya:=(kHook H51.KK H51.ks H51.ke).val) (YP:=(kHook H51.KK H51.ks H51.ke).says) H51.left
  (kHook H51.KK H51.ks H51.ke).of (kHook H51.KK H51.ks H51.ke).keeps
  (λs e=>xl_of s (Bool.and_eq_true_iff.mp e).1) XL.keeps (by rfl) (by rfl) (by rfl)
  (λs e=>recFacts_of (Bool.and_eq_true_iff.mp e).2) (by rfl) (by assumption) (by decide +kernel)
  ⟨rfl,rfl,rfl,rfl,rfl,by decide +kernel⟩ ?hw ?hc
 case hw=>w_witness2
 rename_i sd
 clear sd
 k_fill
 refine K51.walk (l:=PySem.Challenge.rw_steadyhand_k51_papers_of_rooms) rfl rfl (λw h Y=>PySem.W.kIn_of Y) (λp a o=>K51.nolist (K:=H51.KK p) (by kernel_rfl) a o) ?F
 case F=>
  intro w mg fa h KX G hmg
  refine' K51.all_mk KX G hmg ?g_Claim ?g_Settles ?g_Comes ?g_Mode ?g_Thing ?g_Paper ?g_Rooms ?g_Falls ?_ ?_ ?_ ?_ ?_ ?_ ?_ ?_ ?_ ?_ ?_ ?_ ?_ ?_ ?_ ?_ ?_ ?_ ?_ ?_ ?_ ?_ ?_ ?_ ?_ ?_ ?_ ?_ ?_ ?p_w_Comes_Settles ?p_w_Rooms_Falls ?_ ?_ ?_ ?_ ?_ ?_ ?_ ?_ ?_ ?_ ?_ ?_ ?_ ?_ ?_ ?_ ?_ ?_ ?_ ?_ ?_ ?_ ?_ ?_ ?_ ?_ ?_ ?_ ?_ ?_ ?_ ?_ ?_ ?_ ?_ ?_ ?_ ?_ ?_ ?_ ?_ ?_ ?_ ?_ ?_ ?_ ?_ ?_ ?_ ?_ ?_ ?_ ?_ ?_ ?_ ?_ ?_ ?_ ?_ ?_ ?_ ?_ ?_ ?_ ?_ ?_ ?_ ?_ ?_ ?_ ?_ ?_ ?_ ?_ ?_ ?_ ?_ ?_ ?_ ?_ ?_ ?_ ?_ ?_ ?_ ?_ ?_ ?_ ?_
  (case g_Claim=>refine' L2.Gc.mk ?a ?b ?c ?d ?e ?f ?g ?h ?i ?j ?k; (case a=>k_is); (case b=>k_is); (case c=>k_is); (case d=>k_is); (case e=>k_is); (case f=>k_is); (case g=>k_is); (case h=>k_is); (case i=>k_is); (case j=>k_is); (case k=>k_is))
  (case g_Settles=>refine' L2.Gc.mk ?a ?b ?c ?d ?e ?f ?g ?h ?i ?j ?k; (case a=>k_is); (case b=>k_is); (case c=>k_is); (case d=>k_is); (case e=>k_is); (case f=>k_is); (case g=>k_is); (case h=>k_is); (case i=>k_is); (case j=>k_is); (case k=>k_is))
  (case g_Comes=>refine' L2.Gc.mk ?a ?b ?c ?d ?e ?f ?g ?h ?i ?j ?k; (case a=>k_is); (case b=>k_is); (case c=>k_is); (case d=>k_is); (case e=>k_is); (case f=>k_is); (case g=>k_is); (case h=>k_is); (case i=>k_is); (case j=>k_is); (case k=>k_is))
  (case g_Mode=>refine' L2.Gc.mk ?a ?b ?c ?d ?e ?f ?g ?h ?i ?j ?k; (case a=>k_is); (case b=>k_is); (case c=>k_is); (case d=>k_is); (case e=>k_is); (case f=>k_is); (case g=>k_is); (case h=>k_is); (case i=>k_is); (case j=>k_is); (case k=>k_is))
  (case g_Thing=>refine' L2.Gc.mk ?a ?b ?c ?d ?e ?f ?g ?h ?i ?j ?k; (case a=>k_is); (case b=>k_is); (case c=>k_is); (case d=>k_is); (case e=>k_is); (case f=>k_is); (case g=>k_is); (case h=>k_is); (case i=>k_is); (case j=>k_is); (case k=>k_is))
  (case g_Paper=>refine' L2.Gc.mk ?a ?b ?c ?d ?e ?f ?g ?h ?i ?j ?k; (case a=>k_is); (case b=>k_is); (case c=>k_is); (case d=>k_is); (case e=>k_is); (case f=>k_is); (case g=>k_is); (case h=>k_is); (case i=>k_is); (case j=>k_is); (case k=>k_is))
  (case g_Rooms=>refine' L2.Gc.mk ?a ?b ?c ?d ?e ?f ?g ?h ?i ?j ?k; (case a=>k_is); (case b=>k_is); (case c=>k_is); (case d=>k_is); (case e=>k_is); (case f=>k_is); (case g=>k_is); (case h=>k_is); (case i=>k_is); (case j=>k_is); (case k=>k_is))
  (case g_Falls=>refine' L2.Gc.mk ?a ?b ?c ?d ?e ?f ?g ?h ?i ?j ?k; (case a=>k_is); (case b=>k_is); (case c=>k_is); (case d=>k_is); (case e=>k_is); (case f=>k_is); (case g=>k_is); (case h=>k_is); (case i=>k_is); (case j=>k_is); (case k=>k_is))
  (case p_w_Comes_Settles=>first | kit_is | k_is | rfl | decide +kernel)
  (case p_w_Rooms_Falls=>first | kit_is | k_is | rfl | decide +kernel)
  any_goals first | (refine' L2.Gc.mk ?a ?b ?c ?d ?e ?f ?g ?h ?i ?j ?k; (case a=>k_is); (case b=>k_is); (case c=>k_is); (case d=>k_is); (case e=>k_is); (case f=>k_is); (case g=>k_is); (case h=>k_is); (case i=>k_is); (case j=>k_is); (case k=>k_is)) | (refine' L2.XR ?a ?l ?c ?k; (case a=>k_is); (case l=>k_is); (case c=>k_is); (case k=>k_is)) | (refine' L2.XS ?a ?i ?l ?c ?k; (case a=>k_is); (case i=>k_is); (case l=>k_is); (case c=>k_is); (case k=>k_is)) | (refine' L2.XT ?a ?l ?c ?k ?d; (case a=>k_is); (case l=>k_is); (case c=>k_is); (case k=>k_is); (case d=>k_is)) | (refine' L2.XU ?a ?z ?l ?c ?k ?d; (case a=>k_is); (case z=>k_is); (case l=>k_is); (case c=>k_is); (case k=>k_is); (case d=>k_is)) | k_is
#print axioms PySem.Challenge.cw_steadyhand_k51_papers_of_rooms_holds
